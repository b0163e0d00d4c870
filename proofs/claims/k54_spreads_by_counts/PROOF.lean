import PyProof.Rows.All
import Wide.All
import OpenK.AllK
import Wide.FinOn
import Lean
import PyProof.EqAt
import PyProof.EqKinds
import PyProof.TupleCall
import PyProof.ExcClass2
import PyProof.InstStoreFacts
import PyProof.ExcArgs
import PyProof.ExcInit
import PyProof.ExcBaseAll.ValueError
import KE.KIsAll
import PyProof.RulesRaise
import PyProof.RulesAs
import PyProof.RaisesMany
import PyProof.NeKinds
import PyProof.EnumFor
import PyProof.EnumStmt
import PyProof.EnumMake
import PyProof.Rows.EnumRows
import PyProof.CompFree
import KE.KIntText
import PyProof.StrBlockG
import PyProof.StrBlockH
import PyProof.StrWalks
import PyProof.Rows.StrNews2
import PyProof.Rows.StrOr
import PyProof.Rows.Digits
import PyProof.StrBlockL
import PyProof.MeetsStr2
import PyProof.CompMap
import KE.IntTextLaws
import PyProof.Rows.StrPartPair
import PyProof.StrLawsTight
import PyProof.StrLawsChain
import PyProof.Rows.StrIntSpec
import PyProof.Rows.StrItems
import PyProof.ReprRoads
import PyProof.ReprBulk
import PyProof.FitsInt
import PyProof.CallFns
import PyProof.Rows.FactsT3
import PyProof.ListRange
import PyProof.TupleOfSeq
import PyProof.TupleOfGen
import PyProof.ConsumeWalk
import PyProof.Rows.SeqGen
import PyProof.CompUse
import KE.KUnpack
import PyProof.Draws
import PyProof.Rows.RuleB_bool
import PyProof.WalkInts
import PyProof.SeqI3
import KE.KRevSl
import KE.BitLaws
import PyProof.Rows.SumAny
import OpenK.KTop
import PyProof.Rows.FStr
import PyProof.DictItems
import PyProof.DictValues
import KE.KDictSum
import KE.KDictList
import PyProof.SumWalkG
import PyProof.Rows.SortWalk
import PyProof.Rows.SeqMore2
import PyProof.DictCompW
import PyProof.AttrMiss
import PyProof.IsiH_list
import KE.KDictOf
import KE.KEqDict
import PyProof.Rows.TupDisplay
import PyProof.Cells
import PyProof.WalksMore
import PyProof.TupleIter
import PySem.Challenge.RW_trialdeal_k54_spreads_by_counts
set_option Elab.async false
set_option linter.all false
set_option maxRecDepth 100000
namespace L2
open PySem PySem.Spec PyProof.Rows
inductive Key where
  | inl (i : Int) | inr (x : Str) | non
  deriving DecidableEq
def keyIs : Key → Value → Bool
  | .inl k, v => Value.isInt k v
  | .inr x, v => Value.isStrOf x v
  | .non, v => v == .none
def keyH (w : World) : Key → Int
  | .inl k => hashInt k
  | .inr x => hashStr w x
  | .non => 0xFCA86420
theorem pyHash_none {prog : Program} {w : World} {A : Around} {E : Value → Shared → Prop} {s : Shared} {Q : Int → Shared → Prop} (h : Q 0xFCA86420 { s with toks := s.toks + 1 }) : wpAny (model prog w) A (pyHash .none) Q E s := by
  unfold pyHash
  have hT : s.TypeIs .none "NoneType" := rfl
  have hv : [Value.none].any Value.onHeap = false := rfl
  refine wpAny_bind ?_
  rw [cRoomFor, if_neg (by rw [hv]; exact Bool.false_ne_true)]; refine wpAny_pure ?_
  refine wpAny_bind (wpAny_specialOf hT PySem.F.slot_NoneType_hash.lookup ?_)
  show wpAny _ _ (if (some (Value.builtin "NoneType.__hash__") == some Value.none) = true then _ else _) Q E s
  rw [if_neg (by rw [beq_builtin_none]; exact Bool.false_ne_true)]
  refine wpAny_bind (wpAny_specialOf hT PySem.F.slot_NoneType_hash.lookup ?_)
  show wpAny _ _ (callSpecialIfBoundUnlessNone? .none "__hash__" _ >>= _) Q E s
  refine wpAny_bind (wpAny_callSpecialIfBoundUnlessNone?_slot hT PySem.F.slot_NoneType_hash
    (wpAny_call_entry PySem.F.slot_NoneType_hash hT PySem.F.entry_NoneType_hash
      (show wpAny _ _ (do ret (← mkInt 0xFCA86420)) _ _ s from wpAny_ret_mkInt ?_) (PySem.F.args_NoneType_hash_1 _)))
  show wpAny _ _ (if (decide (-(2 : Int) ^ 63 ≤ 0xFCA86420) && decide ((0xFCA86420 : Int) < 2 ^ 63)) = true then _ else _) Q E _
  rw [if_pos (by decide)]
  exact wpAny_pure h
theorem keyIs_shape : ∀ {k : Key} {v : Value}, keyIs k v = true → (∃ i t, k = Key.inl i ∧ v = Value.int i t) ∨ (∃ x t, k = Key.inr x ∧ v = Value.str x t) ∨ (k = Key.non ∧ v = Value.none)
  | .inl i, v, h => by
    obtain ⟨t, e⟩ := Value.isInt_shape (k := i) (v := v) h
    exact .inl ⟨i, t, rfl, e⟩
  | .inr x, v, h => by
    obtain ⟨t, e⟩ := Value.isStrOf_shape (x := x) (v := v) h
    exact .inr (.inl ⟨x, t, rfl, e⟩)
  | .non, v, h => .inr (.inr ⟨rfl, eq_of_beq h⟩)
theorem keyIs_int (i : Int) (t : Tok) : keyIs (.inl i) (.int i t) = true := by simp [keyIs, Value.isInt]
theorem keyIs_str (x : Str) (t : Tok) : keyIs (.inr x) (.str x t) = true := by simp [keyIs, Value.isStrOf]
theorem key_ll (a b : Int) : decide (Key.inl a = Key.inl b) = (a == b) := by
  by_cases e : a = b
  · subst e; simp
  · rw [decide_eq_false (fun q => e (Key.inl.inj q))]
    exact (beq_eq_false_iff_ne.mpr e).symm
theorem key_rr (a b : Str) : decide (Key.inr a = Key.inr b) = decide (a = b) := by
  by_cases e : a = b
  · subst e; simp
  · rw [decide_eq_false (fun q => e (Key.inr.inj q)), decide_eq_false e]
theorem key_lr (a : Int) (b : Str) : decide (Key.inl a = Key.inr b) = false := decide_eq_false (fun q => nomatch q)
theorem key_rl (a : Str) (b : Int) : decide (Key.inr a = Key.inl b) = false := decide_eq_false (fun q => nomatch q)
theorem key_ln (a : Int) : decide (Key.inl a = Key.non) = false := decide_eq_false (fun q => nomatch q)
theorem key_nl (a : Int) : decide (Key.non = Key.inl a) = false := decide_eq_false (fun q => nomatch q)
theorem key_rn (a : Str) : decide (Key.inr a = Key.non) = false := decide_eq_false (fun q => nomatch q)
theorem key_nr (a : Str) : decide (Key.non = Key.inr a) = false := decide_eq_false (fun q => nomatch q)
def mixKind (prog : Program) (w : World) : PySem.KeyKind prog w Key where
  is := keyIs
  hash := keyH w
  inj := fun v a b ha hb => by
    rcases keyIs_shape ha with ⟨i, t, rfl, rfl⟩ | ⟨x, t, rfl, rfl⟩ | ⟨rfl, rfl⟩
    · rcases keyIs_shape hb with ⟨j, u, rfl, e⟩ | ⟨y, u, rfl, e⟩ | ⟨rfl, e⟩
      · injection e with e1 _; rw [e1]
      · exact nomatch e
      · exact nomatch e
    · rcases keyIs_shape hb with ⟨j, u, rfl, e⟩ | ⟨y, u, rfl, e⟩ | ⟨rfl, e⟩
      · exact nomatch e
      · injection e with e1 _; rw [e1]
      · exact nomatch e
    · rcases keyIs_shape hb with ⟨j, u, rfl, e⟩ | ⟨y, u, rfl, e⟩ | ⟨rfl, e⟩
      · exact nomatch e
      · exact nomatch e
      · rfl
  byValue := fun k v h => by
    rcases keyIs_shape h with ⟨i, t, rfl, rfl⟩ | ⟨x, t, rfl, rfl⟩ | ⟨rfl, rfl⟩ <;> rfl
  pyHash := fun hv h => by
    rcases keyIs_shape hv with ⟨i, t, rfl, rfl⟩ | ⟨x, t, rfl, rfl⟩ | ⟨rfl, rfl⟩
    · exact wpAny_pyHash_int h
    · exact wpAny_pyHash_str h
    · exact pyHash_none h
  eqBool := fun hu hv h => by
    rcases keyIs_shape hu with ⟨i, t, rfl, rfl⟩ | ⟨x, t, rfl, rfl⟩ | ⟨rfl, rfl⟩
    · rcases keyIs_shape hv with ⟨j, u, rfl, rfl⟩ | ⟨y, u, rfl, rfl⟩ | ⟨rfl, rfl⟩
      · rw [key_ll] at h; exact wpAny_eqBool_int h
      · rw [key_lr] at h; exact SeqAt.EqAt.int_str i t y u _ _ _ _ h
      · rw [key_ln] at h; exact SeqAt.EqAt.int_none i t _ _ _ _ h
    · rcases keyIs_shape hv with ⟨j, u, rfl, rfl⟩ | ⟨y, u, rfl, rfl⟩ | ⟨rfl, rfl⟩
      · rw [key_rl] at h; exact SeqAt.EqAt.str_int x t j u _ _ _ _ h
      · rw [key_rr] at h; exact wpAny_eqBool_str h
      · rw [key_rn] at h; exact SeqAt.EqAt.str_none x t _ _ _ _ h
    · rcases keyIs_shape hv with ⟨j, u, rfl, rfl⟩ | ⟨y, u, rfl, rfl⟩ | ⟨rfl, rfl⟩
      · rw [key_nl] at h; exact SeqAt.EqAt.none_int j u _ _ _ _ h
      · rw [key_nr] at h; exact SeqAt.EqAt.none_str y u _ _ _ _ h
      · exact SeqAt.EqAt.same _ _ _ _ _ (by simpa using h)
  «strs» := fun k x t v h => by
    rcases keyIs_shape h with ⟨i, u, rfl, e⟩ | ⟨y, u, rfl, e⟩ | ⟨rfl, e⟩
    · exact nomatch e
    · injection e with e1 _
      subst e1
      cases v <;> rfl
    · exact nomatch e
theorem mixKind_is (prog : Program) (w : World) (k : Key) (v : Value) : (mixKind prog w).is k v = keyIs k v := rfl
theorem mixKind_int (prog : Program) (w : World) (i : Int) (t : Tok) : (mixKind prog w).is (.inl i) (.int i t) = true := keyIs_int i t
theorem mixKind_str (prog : Program) (w : World) (x : Str) (t : Tok) : (mixKind prog w).is (.inr x) (.str x t) = true := keyIs_str x t
end L2
namespace L2
open PySem PySem.Spec PyProof.Rows
inductive V where
  | non | bl (b : Bool) | int (i : Int) | str (x : Str) | byt (b : Array UInt8) | flt (b : UInt64) | ref (a : Addr) | ty (n : String)
  deriving DecidableEq
def RelV : V → Value → Prop
  | .non, u => u = Value.none
  | .bl b, u => u = Value.bool b
  | .int i, u => ∃ t, u = Value.int i t
  | .str x, u => ∃ t, u = Value.str x t
  | .byt b, u => ∃ t, u = Value.bytes b t
  | .flt b, u => ∃ t, u = Value.float b t
  | .ref a, u => u = Value.ref a
  | .ty n, u => u = Value.type n
abbrev Vals : List V → List Value → Prop := Paired RelV
theorem Vals.length {xs : List V} {us : List Value} (r : Vals xs us) : xs.length = us.length := Paired.length r
theorem Vals.get : ∀ {xs : List V} {us : List Value} {i : Nat} {x : V}, Vals xs us → xs[i]? = some x → ∃ u, us[i]? = some u ∧ RelV x u
  | _, _, _, _, .nil, e => by simp at e
  | _, _, 0, _, .cons r _, e => by simp at e; subst e; exact ⟨_, rfl, r⟩
  | _, _, i + 1, x, .cons _ t, e => by
    obtain ⟨u, h1, h2⟩ := Vals.get (i := i) (x := x) t (by simpa using e)
    exact ⟨u, by simpa using h1, h2⟩
theorem Vals.set {x : V} {u : Value} (r : RelV x u) : ∀ {xs : List V} {us : List Value} (i : Nat), Vals xs us → Vals (xs.set i x) (us.set i u)
  | _, _, _, .nil => .nil
  | _, _, 0, .cons _ t => .cons r t
  | _, _, i + 1, .cons q t => .cons q (Vals.set r i t)
theorem Vals.append : ∀ {xs ys : List V} {us ws : List Value}, Vals xs us → Vals ys ws → Vals (xs ++ ys) (us ++ ws)
  | _, _, _, _, .nil, s => s
  | _, _, _, _, .cons r t, s => .cons r (Vals.append t s)
theorem Vals.take : ∀ {xs : List V} {us : List Value} (n : Nat), Vals xs us → Vals (xs.take n) (us.take n)
  | _, _, 0, _ => .nil
  | _, _, _ + 1, .nil => .nil
  | _, _, n + 1, .cons r t => .cons r (Vals.take n t)
theorem Vals.drop : ∀ {xs : List V} {us : List Value} (n : Nat), Vals xs us → Vals (xs.drop n) (us.drop n)
  | _, _, 0, r => r
  | _, _, _ + 1, .nil => .nil
  | _, _, n + 1, .cons _ t => Vals.drop n t
def RelO : Option V → Option Value → Prop
  | some v, some u => RelV v u
  | none, none => True
  | _, _ => False
def KV {κ : Type} : List (κ × V) → List (κ × Value) → Prop := Paired fun (p : κ × V) (q : κ × Value) => p.1 = q.1 ∧ RelV p.2 q.2
def kV : Key → V
  | .inl i => .int i
  | .inr x => .str x
  | .non => .non
inductive HO where
  | lst (xs : List V)
  | tup (xs : List V)
  | dK (kvs : List (Key × V)) | dT (kvs : List (List Key × V))
  | set (S : Int → Bool) (n : Nat)
  | ins (C dx : Addr) (fs : List (Str × V))
  | own (x : Addr)
  | xd (fs : List (Str × V))
  | met (f x : Addr)
  | rng (lo hi : Int)
  | frz (o : Obj) (u : HO)
  | tbl (ps : Array Value)
  | ext (φ : Heap → Prop)
abbrev Hp := Addr → Option HO
def upd (H : Hp) (a : Addr) (o : HO) : Hp := fun b => if b = a then some o else H b
theorem upd_same {H : Hp} {a : Addr} {o : HO} : upd H a o a = some o := by unfold upd; rw [if_pos rfl]
theorem upd_ne {H : Hp} {a b : Addr} {o : HO} (h : b ≠ a) : upd H a o b = H b := by unfold upd; rw [if_neg h]
theorem upd_upd {H : Hp} {a : Addr} {o u : HO} : upd (upd H a o) a u = upd H a u := by
  funext b; unfold upd; split <;> rfl
theorem ne_of {H : Hp} {a b : Addr} {o u : HO} (h : H a = some o) (h' : H b = some u) (d : o ≠ u) : a ≠ b := by
  intro e; subst e; rw [h] at h'; exact d (Option.some.inj h')
theorem ne_of_none {H : Hp} {a b : Addr} {o : HO} (h : H a = some o) (h' : H b = none) : a ≠ b := by
  intro e; subst e; rw [h] at h'; cases h'
section
variable (P : Program) (w : World)
def ObjOk (H : Hp) (h : Heap) (a : Addr) : HO → Prop
  | .lst xs => xs.length ≤ sizeLine ∧ ∃ (its : List Value) (n : Nat), Vals xs its ∧ h.get? a = some { cls := .type "list", data := .seq its.toArray n }
  | .tup xs => xs.length ≤ sizeLine ∧ ∃ its : List Value, Vals xs its ∧ IsTup h a its.toArray
  | .dK kvs => kvs.length ≤ sizeLine ∧ (a == sysModules) = false ∧ ∃ vs, KV kvs vs ∧ h.DictOf (mixKind P w) a vs
  | .dT kvs => kvs.length ≤ sizeLine ∧ (a == sysModules) = false ∧ ∃ xs : List (List Key × Addr × Value),
      Paired (fun (p : List Key × V) (q : List Key × Addr × Value) => p.1 = q.1 ∧ H q.2.1 = some (.tup (p.1.map kV)) ∧ RelV p.2 q.2.2) kvs xs ∧
      ∃ o es ep, h.get? a = some o ∧ o.ExactDict ∧ o.data = .dict es ep ∧ es.toList = xs.map (entryOfKey (tupleKind (mixKind P w))) ∧ (xs.map (·.1)).Nodup
  | .set S n => h.SetOf (intKind P w) a S n
  | .ins C dx fs => H dx = some (.own a) ∧ fs.length ≤ 1000 ∧ dx ≠ a ∧ h.get? a = some (PySem.W.instObj C dx) ∧
      ∃ mA, h.Ns1 dx mA ∧ (∀ f, RelO (fs.lookup f) (mA f)) ∧ PySem.Within mA (fs.map (·.1))
  | .own _ => ∃ o, h.get? a = some o
  | .xd fs => ∃ mA, h.Ns1 a mA ∧ ∀ f, RelO (fs.lookup f) (mA f)
  | .rng lo hi => ∃ t u v, h.get? a = some { cls := .type "range", data := .fields #[.int lo t, .int hi u, .int 1 v] }
  | .frz o u => h.get? a = some o ∧ ObjOk H h a u
  | .tbl ps => h.get? a = some { cls := .none, data := .fields ps }
  | .met f x => h.get? a = some (PySem.W.methodObj (.ref f) (.ref x))
  | .ext φ => φ h ∧ (∃ o, h.get? a = some o) ∧ ∀ h1 h2 : Heap, φ h1 → (∀ o, h1.get? a = some o → h2.get? a = some o) → φ h2
def HOk (H : Hp) (h : Heap) : Prop := ∀ a o, H a = some o → ObjOk P w H h a o
end
section
variable {P : Program} {w : World} {H H' : Hp} {h h' : Heap} {a : Addr} {o : HO}
theorem ObjOk.lt (x : ObjOk P w H h a o) : a < h.objs.size := by
  cases o with
  | lst xs => obtain ⟨_, _, _, _, e⟩ := x; exact Heap.lt_size e
  | tup xs => obtain ⟨_, _, _, p⟩ := x; exact p.lt
  | dK kvs => obtain ⟨_, _, _, _, o, _, _, e, _⟩ := x; exact Heap.lt_size e
  | dT kvs => obtain ⟨_, _, _, _, o, _, _, e, _⟩ := x; exact Heap.lt_size e
  | set S n => obtain ⟨o, _, _, _, e, _⟩ := x; exact Heap.lt_size e
  | ins C dx fs => obtain ⟨_, _, _, e, _⟩ := x; exact Heap.lt_size e
  | own y => obtain ⟨_, e⟩ := x; exact Heap.lt_size e
  | xd fs => obtain ⟨_, ⟨_, _, _, e, _⟩, _⟩ := x; exact Heap.lt_size e
  | rng lo hi => obtain ⟨_, _, _, e⟩ := x; exact Heap.lt_size e
  | frz ob u => obtain ⟨e, _⟩ := x; exact Heap.lt_size e
  | tbl ps => exact Heap.lt_size (show h.get? a = some _ from x)
  | met f y => exact Heap.lt_size (show h.get? a = some _ from x)
  | ext φ => obtain ⟨_, ⟨_, e⟩, _⟩ := x; exact Heap.lt_size e
theorem Paired.mapP {α β : Type} {F G : α → β → Prop} : ∀ {l₁ : List α} {l₂ : List β}, Paired F l₁ l₂ → (∀ a b, F a b → G a b) → Paired G l₁ l₂
  | _, _, .nil, _ => .nil
  | _, _, .cons r t, f => .cons (f _ _ r) (Paired.mapP t f)
theorem Paired.imp' {α β : Type} {F G : α → β → Prop} (f : ∀ a b, F a b → G a b) {l₁ : List α} {l₂ : List β} (r : Paired F l₁ l₂) : Paired G l₁ l₂ := Paired.mapP r f
theorem ObjOk.stay (x : ObjOk P w H h a o) (k : ∀ b u, (b = a ∨ H b = some (.own a)) → h.get? b = some u → h'.get? b = some u)
    (ho : ∀ b, H b = some (.own a) → H' b = some (.own a)) (ht : ∀ b xs, H b = some (.tup xs) → H' b = some (.tup xs)) : ObjOk P w H' h' a o := by
  induction o with
  | lst xs => obtain ⟨z, its, n, r, e⟩ := x; exact ⟨z, its, n, r, k _ _ (.inl rfl) e⟩
  | tup xs => obtain ⟨z, its, r, ob, e, c⟩ := x; exact ⟨z, its, r, ob, k _ _ (.inl rfl) e, c⟩
  | dK kvs => obtain ⟨z, y, vs, r, ob, es, ep, e, c⟩ := x; exact ⟨z, y, vs, r, ob, es, ep, k _ _ (.inl rfl) e, c⟩
  | dT kvs =>
    obtain ⟨z, y, xs, r, ob, es, ep, e, c⟩ := x
    exact ⟨z, y, xs, Paired.mapP r fun p q z => ⟨z.1, ht _ _ z.2.1, z.2.2⟩, ob, es, ep, k _ _ (.inl rfl) e, c⟩
  | set S n => obtain ⟨ob, es, ep, t, e, c⟩ := x; exact ⟨ob, es, ep, t, k _ _ (.inl rfl) e, c⟩
  | ins C dx fs =>
    obtain ⟨d, z, ne, e, mA, ⟨od, es, ep, e2, c⟩, r⟩ := x
    exact ⟨ho _ d, z, ne, k _ _ (.inl rfl) e, mA, ⟨od, es, ep, k _ _ (.inr d) e2, c⟩, r⟩
  | own y => obtain ⟨ob, e⟩ := x; exact ⟨ob, k _ _ (.inl rfl) e⟩
  | xd fs => obtain ⟨mA, ⟨od, es, ep, e, c⟩, r⟩ := x; exact ⟨mA, ⟨od, es, ep, k _ _ (.inl rfl) e, c⟩, r⟩
  | rng lo hi => obtain ⟨t, u, v, e⟩ := x; exact ⟨t, u, v, k _ _ (.inl rfl) e⟩
  | frz ob u ih => obtain ⟨e, q⟩ := x; exact ⟨k _ _ (.inl rfl) e, ih q⟩
  | tbl ps =>
    have e : h.get? a = some { cls := .none, data := .fields ps } := x
    show h'.get? a = some { cls := .none, data := .fields ps }
    exact k a _ (.inl rfl) e
  | met f y =>
    have e : h.get? a = some (PySem.W.methodObj (.ref f) (.ref y)) := x
    show h'.get? a = some (PySem.W.methodObj (.ref f) (.ref y))
    exact k a _ (.inl rfl) e
  | ext φ => obtain ⟨p, ⟨o, e⟩, st⟩ := x; exact ⟨st _ _ p fun o q => k _ _ (.inl rfl) q, ⟨o, k _ _ (.inl rfl) e⟩, st⟩
theorem HOk.lt (x : HOk P w H h) (e : H a = some o) : a < h.objs.size := (x a o e).lt
theorem HOk.fresh (x : HOk P w H h) (e : h.objs.size ≤ a) : H a = none := by
  cases q : H a with
  | none => rfl
  | some u => exact absurd (Nat.lt_of_lt_of_le (x.lt q) e) (Nat.lt_irrefl _)
theorem HOk.kept (x : HOk P w H h) (k : ∀ b u, h.get? b = some u → h'.get? b = some u) : HOk P w H h' := fun a o e =>
  (x a o e).stay (fun b u _ q => k b u q) (fun _ q => q) fun _ _ q => q
theorem HOk.laid (x : HOk P w H h) (k : ∀ b u, h.get? b = some u → h'.get? b = some u) (hp : h.objs.size ≤ a) (new : ObjOk P w (upd H a o) h' a o) : HOk P w (upd H a o) h' := fun b u e => by
  have hn := x.fresh hp
  by_cases hb : b = a
  · subst hb; rw [upd_same] at e; cases e; exact new
  · rw [upd_ne hb] at e
    exact (x b u e).stay (fun c v _ q => k c v q) (fun c q => by rw [upd_ne (ne_of_none q hn)]; exact q) fun c xs q => by rw [upd_ne (ne_of_none q hn)]; exact q
end
def Rd (H : Hp) (a : Addr) (u : HO) : Prop := H a = some u ∨ ∃ o, H a = some (.frz o u)
theorem Rd.ok {P : Program} {w : World} {H : Hp} {h : Heap} {a : Addr} {u : HO} (r : Rd H a u) (x : HOk P w H h) : ObjOk P w H h a u := by
  rcases r with r | ⟨o, r⟩
  · exact x a u r
  · obtain ⟨_, q⟩ := x a _ r
    exact q
def Mut : Option HO → Prop
  | some (.lst _) => True
  | some (.dK _) => True
  | some (.dT _) => True
  | some (.set _ _) => True
  | some (.ins _ _ _) => True
  | some (.ext _) => True
  | _ => False
section
variable {P : Program} {w : World} {H : Hp} {h h' : Heap} {x e : Addr} {o' : HO}
theorem HOk.write (ok : HOk P w H h) (mu : Mut (H x)) (he : e = x ∨ H e = some (.own x)) (k : ∀ b u, b ≠ e → h.get? b = some u → h'.get? b = some u) (heo : ∃ u, h'.get? e = some u)
    (new : ObjOk P w (upd H x o') h' x o') : HOk P w (upd H x o') h' := fun b u q => by
  have nown : ∀ c y, H c = some (.own y) → c ≠ x := fun c y r z => by subst z; rw [r] at mu; exact mu
  have ntup : ∀ c xs, H c = some (.tup xs) → c ≠ x := fun c xs r z => by subst z; rw [r] at mu; exact mu
  by_cases hb : b = x
  · subst hb; rw [upd_same] at q; cases q; exact new
  · rw [upd_ne hb] at q
    by_cases hbe : b = e
    · have q' : H b = some (.own x) := by
        rcases he with z | z
        · exact absurd (hbe.trans z) hb
        · rw [hbe]; exact z
      rw [q] at q'; cases q'
      obtain ⟨v, hv⟩ := heo
      exact ⟨v, by rw [hbe]; exact hv⟩
    · refine (ok b u q).stay (fun c v hc r => k c v ?_ r) (fun c r => by rw [upd_ne (nown c b r)]; exact r) fun c xs r => by rw [upd_ne (ntup c xs r)]; exact r
      rcases hc with rfl | hc
      · exact hbe
      · rintro rfl
        rcases he with z | z
        · exact nown c b hc z
        · rw [hc] at z; cases z; exact hb rfl
end
structure Un (fs ex : List Addr) (H H' : Hp) (h h' : Heap) : Prop where
  keep : ∀ b o, h.get? b = some o → H b = none → b ∉ fs → b ∉ ex → h'.get? b = some o
  slot : ∀ b o, h.get? b = some o → H b = none → b ∈ fs → b ∉ ex → ∃ sl, h'.get? b = some { o with slots := sl }
  free : ∀ b o, h.get? b = some o → H b = none → b ∉ ex → H' b = none
  there : ∀ b o, h.get? b = some o → b ∉ ex → ∃ o', h'.get? b = some o'
  tups : ∀ b xs, H b = some (.tup xs) → H' b = some (.tup xs)
  frzs : ∀ b o u, H b = some (.frz o u) → H' b = some (.frz o u)
  tbls : ∀ b ps, H b = some (.tbl ps) → ∃ more, H' b = some (.tbl (ps ++ more))
  sys : H sysModules = none → H' sysModules = none
section
variable {fs fs' ex ex' : List Addr} {H H1 H2 : Hp} {h h1 h2 h' : Heap} {a x e : Addr} {o : HO}
theorem Un.any (u : Un fs ex H H1 h h1) {b : Addr} {ob : Obj} (q : h.get? b = some ob) (n : H b = none) (hx : b ∉ ex) : ∃ sl, h1.get? b = some { ob with slots := sl } := by
  by_cases hb : b ∈ fs
  · exact u.slot b ob q n hb hx
  · exact ⟨ob.slots, u.keep b ob q n hb hx⟩
theorem Un.kept (k : ∀ b u, h.get? b = some u → h'.get? b = some u) : Un fs ex H H h h' :=
  ⟨fun b ob q _ _ _ => k b ob q, fun b ob q _ _ _ => ⟨ob.slots, k b ob q⟩, fun _ _ _ n _ => n, fun b ob q _ => ⟨ob, k b ob q⟩, fun _ _ q => q, fun _ _ _ q => q, fun _ ps q => ⟨#[], by rw [q]; simp⟩, fun q => q⟩
theorem Un.refl : Un fs ex H H h h := Un.kept fun _ _ q => q
theorem Un.laid (k : ∀ b u, h.get? b = some u → h'.get? b = some u) (hp : h.objs.size ≤ a) (hn : H a = none) (hz : sysModules < h.objs.size) : Un fs ex H (upd H a o) h h' where
  sys := fun q => by rw [upd_ne (Nat.ne_of_lt (Nat.lt_of_lt_of_le hz hp))]; exact q
  keep := fun b u q _ _ _ => k b u q
  slot := fun b u q _ _ _ => ⟨u.slots, k b u q⟩
  free := fun b u q n _ => by rw [upd_ne (Nat.ne_of_lt (Nat.lt_of_lt_of_le (Heap.lt_size q) hp))]; exact n
  there := fun b u q _ => ⟨u, k b u q⟩
  tups := fun b xs q => by rw [upd_ne (ne_of_none q hn)]; exact q
  frzs := fun b u xs q => by rw [upd_ne (ne_of_none q hn)]; exact q
  tbls := fun b ps q => ⟨#[], by rw [upd_ne (ne_of_none q hn), q]; simp⟩
theorem Un.write (mu : Mut (H x)) (he : e = x ∨ H e = some (.own x)) (k : ∀ b u, b ≠ e → h.get? b = some u → h'.get? b = some u) (heo : ∃ u, h'.get? e = some u) : Un fs ex H (upd H x o) h h' := by
  have hx : ∀ b, H b = none → b ≠ x := fun b n z => by subst z; rw [n] at mu; exact mu
  have hb : ∀ b, H b = none → b ≠ e := fun b n z => by
    subst z
    rcases he with r | r
    · exact hx b n r
    · rw [n] at r; cases r
  have hm : ∀ b u, H b = some u → ¬ Mut (some u) → b ≠ x := fun b u q nm z => by subst z; rw [q] at mu; exact nm mu
  refine ⟨fun b u q n _ _ => k b u (hb b n) q, fun b u q n _ _ => ⟨u.slots, k b u (hb b n) q⟩, fun b u q n _ => by rw [upd_ne (hx b n)]; exact n, fun b u q _ => ?_,
    fun b xs q => by rw [upd_ne (hm b _ q fun z => z)]; exact q, fun b u xs q => by rw [upd_ne (hm b _ q fun z => z)]; exact q, fun b ps q => ⟨#[], by rw [upd_ne (hm b _ q fun z => z), q]; simp⟩, fun q => by rw [upd_ne (hx _ q)]; exact q⟩
  by_cases hbe : b = e
  · subst hbe; exact heo
  · exact ⟨u, k b u hbe q⟩
end
def trk (h : Heap) (H : Hp) : List Addr := (List.range h.objs.size).filter fun a => (H a).isSome
def hidT (h : Heap) (H : Hp) : Heap := PySem.W.hideAll h (trk h H)
theorem hidT_size (h : Heap) (H : Hp) : (hidT h H).objs.size = h.objs.size := PySem.W.hideAll_size _ _
theorem hidT_get {h : Heap} {H : Hp} {b : Addr} {o : Obj} (e : h.get? b = some o) (n : H b = none) : (hidT h H).get? b = some o :=
  PySem.W.hideAll_get _ e fun hm => by
    have q : (H b).isSome = true := (List.mem_filter.mp hm).2
    rw [n] at q; simp at q
theorem of_hidT {h : Heap} {H : Hp} {b : Addr} {o : Obj} (e : (hidT h H).get? b = some o) : h.get? b = some o ∧ H b = none := by
  have e' : h.get? b = some o := PySem.W.of_hideAll (trk h H) e
  refine ⟨e', ?_⟩
  cases q : H b with
  | none => rfl
  | some x =>
    have hm : b ∈ trk h H := List.mem_filter.mpr ⟨List.mem_range.mpr (Heap.lt_size e'), by simp [q]⟩
    have z : (hidT h H).get? b = none := PySem.W.hideAll_none (trk h H) hm
    rw [z] at e; cases e
def allNews (g h : Heap) (L : Addr) : List (Addr × Obj) := (List.range h.objs.size).filterMap fun a => if a = L ∨ (g.get? a).isSome = true then none else (h.get? a).map fun o => (a, o)
def rest (g h : Heap) (L d : Addr) : List (Addr × Obj) := (allNews g h L).filter fun p => decide (p.1 ≠ d)
end L2
namespace L2
open PySem PySem.Spec PyProof.Rows
structure Mod (K : PySem.W.Frag) (mg : Str → Option Value) (base : Heap) : Prop where
  kin : K.In base
  glob : base.Ns mainGlobals mg
  blt : ∃ mb, base.Ns builtinsNs mb ∧ ∀ x : Str, x ≠ "__name__" → mb x = bootBuiltins x
  nolimit : base.NoLimit
structure Cx where
  prog : Program
  w : World
  K : PySem.W.Frag
  mg : Str → Option Value
  base : Heap
  A : Around
  N : List Str
  s₀ : Shared
  H₀ : Hp
  env : Env
  outer : List Env
  stack : List Env
  ex : List Addr
  fn : Str → Bool
  calm : Bool
  pn : List (Addr × Obj)
  xe : Value → Shared → Prop
def frs (l : List Env) : List Addr := l.filterMap (·.frame)
abbrev Cx.fs (X : Cx) : List Addr := frs X.outer
def Vis (sc : Scope) (x : Str) : Prop := sc.names.lookup x = some .local ∨ sc.names.lookup x = some .cell ∨ sc.names.lookup x = some .free
def Loc (sc : Scope) (x : Str) : Prop := sc.names.lookup x = some .local ∨ sc.names.lookup x = some .cell
def Look (env : Env) (h : Heap) (m : Str → Option Value) (x : Str) (u : Value) : Prop :=
  (env.kindOf x = some .local ∧ m x = some u) ∨ ((env.kindOf x = some .cell ∨ env.kindOf x = some .free) ∧ ∃ c, env.cells.lookup x = some c ∧ h.IsCell c (some u))
structure Cx.Ok (X : Cx) : Prop where
  mod : Mod X.K X.mg X.base
  kind : X.env.scope.kind = .function
  glob : X.env.globals = mainGlobals
  blt : X.env.builtins = builtinsNs
  above : X.s₀.heap.objs.size ≤ X.env.locals
  inj : ∀ x y c, X.env.cells.lookup x = some c → X.env.cells.lookup y = some c → x = y
  has : ∀ x, (X.env.kindOf x = some .cell ∨ X.env.kindOf x = some .free) → ∃ c, X.env.cells.lookup x = some c
  cab : ∀ x c, X.fn x = true → X.env.cells.lookup x = some c → X.s₀.heap.objs.size ≤ c
  hd : X.calm = true → X.A.handled = none
  frames : X.A.frames = some X.stack
  stk : X.stack = X.outer ∨ (X.stack = X.env :: X.outer ∧ X.env.frame = some X.env.locals)
  exf : ∀ b ∈ X.ex, b ≠ X.env.locals ∧ ∀ x c, X.env.cells.lookup x = some c → c ≠ b
  bs : ∀ b o, X.base.get? b = some o → X.s₀.heap.get? b = some o ∧ X.H₀ b = none
  bsz : X.base.objs.size ≤ X.s₀.heap.objs.size
  noex : ∀ b o, X.base.get? b = some o → b ∉ X.ex
  exfs : ∀ b ∈ X.ex, b ∉ X.fs
  funs : X.s₀.heap.FunFrames X.base X.outer
  frf : ∀ b ∈ X.fs, X.H₀ b = none
structure Inv (X : Cx) (pins : List (Addr × Obj)) (σ : List (Option V)) (H : Hp) (s : Shared) : Prop where
  ok : X.Ok
  os : s.os = X.s₀.os
  bare : AllBare s.gens
  base : Un X.fs X.ex X.H₀ H X.s₀.heap s.heap
  loc : ∃ m, s.heap.Ns X.env.locals m ∧ ∀ (i : Nat) (x : Str) (v : V), X.N[i]? = some x → σ[i]? = some (some v) → Vis X.env.scope x → ∃ u, RelV v u ∧ Look X.env s.heap m x u
  cell : ∀ x c, X.env.cells.lookup x = some c → ∃ v, s.heap.IsCell c v
  free : H X.env.locals = none
  freeC : ∀ x c, X.env.cells.lookup x = some c → H c = none
  pin : ∀ p ∈ X.pn ++ pins, s.heap.get? p.1 = some p.2 ∧ H p.1 = none ∧ p.1 ≠ X.env.locals ∧ p.1 ∉ X.fs ∧ ∀ v, p.2.data ≠ .cell v
  hok : HOk X.prog X.w H s.heap
  len : σ.length = X.N.length
section
variable {X : Cx} {pins : List (Addr × Obj)} {σ : List (Option V)} {H H' : Hp} {s : Shared} {h' : Heap}
theorem Cx.Ok.nofr (ok : X.Ok) {b : Addr} {o : Obj} (e : X.base.get? b = some o) : b ∉ X.fs := fun hb => by
  have := (ok.funs.mem hb).1
  rw [e] at this; cases this
theorem Inv.bs (I : Inv X pins σ H s) : ∀ b o, X.base.get? b = some o → s.heap.get? b = some o ∧ H b = none := fun b o e =>
  ⟨I.base.keep b o (I.ok.bs b o e).1 (I.ok.bs b o e).2 (I.ok.nofr e) (I.ok.noex b o e), I.base.free b o (I.ok.bs b o e).1 (I.ok.bs b o e).2 (I.ok.noex b o e)⟩
theorem Inv.bk (I : Inv X pins σ H s) : ∀ b o, X.base.get? b = some o → s.heap.get? b = some o := fun b o e => (I.bs b o e).1
theorem Inv.mod (I : Inv X pins σ H s) : Mod X.K X.mg X.base := I.ok.mod
theorem Inv.kIn (I : Inv X pins σ H s) : X.K.In s.heap := I.ok.mod.kin.keeps I.bk
theorem Inv.lt (I : Inv X pins σ H s) : X.env.locals < s.heap.objs.size := let ⟨_, hn, _⟩ := I.loc; hn.lt
theorem Inv.sz (I : Inv X pins σ H s) : X.s₀.heap.objs.size ≤ s.heap.objs.size := Nat.le_trans I.ok.above (Nat.le_of_lt I.lt)
theorem Inv.nofs (I : Inv X pins σ H s) {a : Addr} (h : s.heap.objs.size ≤ a) : a ∉ X.fs := fun hb => by
  obtain ⟨_, o, ho, _⟩ := I.ok.funs.mem hb
  exact absurd (Nat.lt_of_lt_of_le (Heap.lt_size ho) (Nat.le_trans I.sz h)) (Nat.lt_irrefl _)
theorem Inv.cne (I : Inv X pins σ H s) : ∀ x c, X.env.cells.lookup x = some c → c ≠ X.env.locals := fun x c e z => by
  obtain ⟨v, o, ho, hd⟩ := I.cell x c e
  obtain ⟨m, ⟨o', es, ep, ho', hd', _⟩, _⟩ := I.loc
  rw [z, ho'] at ho; cases ho; rw [hd'] at hd; cases hd
theorem Inv.funs (I : Inv X pins σ H s) : s.heap.FunFrames X.base X.outer := by
  have all : ∀ (l : List Env), (∀ b ∈ frs l, b ∈ X.fs) → X.s₀.heap.FunFrames X.base l → s.heap.FunFrames X.base l := by
    intro l
    induction l with
    | nil => intro _ _; trivial
    | cons env r ih =>
      intro hs hl
      obtain ⟨hk, ⟨L, o, hf, hn, ho, hd⟩, hr⟩ := hl
      have hL : L ∈ X.fs := hs L (by unfold frs; rw [List.filterMap_cons, hf]; exact List.mem_cons_self)
      obtain ⟨sl, e⟩ := I.base.slot L o ho (I.ok.frf L hL) hL fun z => I.ok.exfs L z hL
      exact ⟨hk, ⟨L, _, hf, hn, e, hd⟩, ih (fun b hb => hs b (by unfold frs; rw [List.filterMap_cons, hf]; exact List.mem_cons_of_mem _ hb)) hr⟩
  exact all X.outer (fun _ hb => hb) I.ok.funs
theorem Inv.stack (I : Inv X pins σ H s) : s.heap.FunFrames X.base X.stack := by
  rcases I.ok.stk with e | ⟨e, hf⟩
  · rw [e]; exact I.funs
  · rw [e]
    obtain ⟨m, hn, _⟩ := I.loc
    refine .cons (by rw [I.ok.kind]; decide) hf hn ?_ I.funs
    exact Heap.get?_none_of_le (Nat.le_trans I.ok.bsz I.ok.above)
theorem Inv.stkSub (I : Inv X pins σ H s) : ∀ b ∈ frs X.stack, b ∈ X.env.locals :: X.fs := fun b hb => by
  rcases I.ok.stk with e | ⟨e, hf⟩
  · rw [e] at hb; exact List.mem_cons_of_mem _ hb
  · rw [e] at hb
    unfold frs at hb
    rw [List.filterMap_cons, hf] at hb
    exact hb
theorem Inv.stkFree (I : Inv X pins σ H s) : ∀ b ∈ frs X.stack, H b = none := fun b hb => by
  rcases List.mem_cons.mp (I.stkSub b hb) with e | hb
  · rw [e]; exact I.free
  · obtain ⟨_, o, ho, _⟩ := I.ok.funs.mem hb
    exact I.base.free b o ho (I.ok.frf b hb) fun z => I.ok.exfs b z hb
theorem Inv.step {g' : Array GenState} {t' : Nat} {d' : Drawn} {ch : List Addr} (I : Inv X pins σ H s)
    (hch : ∀ b ∈ ch, (b ∈ X.ex ∨ X.s₀.heap.objs.size ≤ b) ∧ b ≠ X.env.locals ∧ (∀ x c, X.env.cells.lookup x = some c → c ≠ b) ∧ ∀ p ∈ X.pn ++ pins, p.1 ≠ b)
    (keep : ∀ b o, b ≠ X.env.locals → b ∉ X.fs → b ∉ ch → s.heap.get? b = some o → H b = none → h'.get? b = some o)
    (slot : ∀ b o, b ≠ X.env.locals → b ∈ X.fs → b ∉ ch → s.heap.get? b = some o → H b = none → ∃ sl, h'.get? b = some { o with slots := sl }) (free : ∀ b o, b ∉ ch → s.heap.get? b = some o → H b = none → H' b = none)
    (there : ∀ b o, b ∉ ch → s.heap.get? b = some o → ∃ o', h'.get? b = some o')
    (tups : ∀ b xs, H b = some (.tup xs) → H' b = some (.tup xs)) (frzs : ∀ b o u, H b = some (.frz o u) → H' b = some (.frz o u)) (tbls : ∀ b ps, H b = some (.tbl ps) → ∃ more, H' b = some (.tbl (ps ++ more))) (sys : H sysModules = none → H' sysModules = none)
    (ns : ∀ m, s.heap.Ns X.env.locals m → h'.Ns X.env.locals m) (hok : HOk X.prog X.w H' h') (hg : AllBare g') :
    Inv X pins σ H' { s with heap := h', gens := g', drawn := d', toks := t' } := by
  have neL : ∀ b o, X.s₀.heap.get? b = some o → b ≠ X.env.locals := fun b o e => Nat.ne_of_lt (Nat.lt_of_lt_of_le (Heap.lt_size e) I.ok.above)
  have neC : ∀ b o, X.s₀.heap.get? b = some o → b ∉ X.ex → b ∉ ch := fun b o e hx hb => by
    rcases (hch b hb).1 with z | z
    · exact hx z
    · exact absurd (Nat.lt_of_lt_of_le (Heap.lt_size e) z) (Nat.lt_irrefl _)
  have cellK : ∀ x c, X.env.cells.lookup x = some c → ∀ v, s.heap.IsCell c v → h'.IsCell c v := fun x c e v ⟨o, ho, hd⟩ => by
    have nch : c ∉ ch := fun z => (hch c z).2.2.1 x c e rfl
    by_cases hc : c ∈ X.fs
    · obtain ⟨sl, q⟩ := slot c o (I.cne x c e) hc nch ho (I.freeC x c e)
      exact ⟨_, q, hd⟩
    · exact ⟨o, keep c o (I.cne x c e) hc nch ho (I.freeC x c e), hd⟩
  refine ⟨I.ok, I.os, hg, ⟨fun b o e n hb hx => ?_, fun b o e n hb hx => ?_, fun b o e n hx => ?_, fun b o e hx => ?_, fun b xs e => tups b xs (I.base.tups b xs e), fun b o xs e => frzs b o xs (I.base.frzs b o xs e), fun b ps e => ?_, fun q => sys (I.base.sys q)⟩, ?_, fun x c e => ?_, ?_, fun x c e => ?_, fun p hp => ?_, hok, I.len⟩
  · exact keep b o (neL b o e) hb (neC b o e hx) (I.base.keep b o e n hb hx) (I.base.free b o e n hx)
  · obtain ⟨sl, e1⟩ := I.base.slot b o e n hb hx
    obtain ⟨sl', e2⟩ := slot b _ (neL b o e) hb (neC b o e hx) e1 (I.base.free b o e n hx)
    exact ⟨sl', e2⟩
  · obtain ⟨o', e1⟩ := I.base.there b o e hx
    exact free b o' (neC b o e hx) e1 (I.base.free b o e n hx)
  · obtain ⟨o', e1⟩ := I.base.there b o e hx
    exact there b o' (neC b o e hx) e1
  · obtain ⟨m1, e1⟩ := I.base.tbls b ps e
    obtain ⟨m2, e2⟩ := tbls b _ e1
    exact ⟨m1 ++ m2, by rw [e2, Array.append_assoc]⟩
  · obtain ⟨m, hn, hl⟩ := I.loc
    refine ⟨m, ns m hn, fun i x v e1 e2 e3 => ?_⟩
    obtain ⟨u, r, l⟩ := hl i x v e1 e2 e3
    refine ⟨u, r, ?_⟩
    rcases l with l | ⟨k, c, e, z⟩
    · exact .inl l
    · exact .inr ⟨k, c, e, cellK x c e _ z⟩
  · obtain ⟨v, z⟩ := I.cell x c e
    exact ⟨v, cellK x c e v z⟩
  · obtain ⟨m, ⟨o, _, _, ho, _⟩, _⟩ := I.loc
    exact free _ o (fun z => (hch _ z).2.1 rfl) ho I.free
  · obtain ⟨v, o, ho, hd⟩ := I.cell x c e
    exact free c o (fun z => (hch c z).2.2.1 x c e rfl) ho (I.freeC x c e)
  · obtain ⟨e, n, ne, nf, d⟩ := I.pin p hp
    have nch : p.1 ∉ ch := fun z => (hch p.1 z).2.2.2 p hp rfl
    exact ⟨keep p.1 p.2 ne nf nch e n, free p.1 p.2 nch e n, ne, nf, d⟩
theorem Inv.un {t' : Nat} (I : Inv X pins σ H s) (u : Un X.fs [] H H' s.heap h') (hok : HOk X.prog X.w H' h') : Inv X pins σ H' { s with heap := h', toks := t' } := by
  obtain ⟨m, ⟨o, es, ep, ho, r⟩, _⟩ := id I.loc
  obtain ⟨sl, hL⟩ := u.any ho I.free (by simp)
  exact I.step (g' := s.gens) (d' := s.drawn) (ch := []) (fun _ z => nomatch z) (fun b o _ hb _ e n => u.keep b o e n hb (by simp)) (fun b o _ hb _ e n => u.slot b o e n hb (by simp)) (fun b o _ e n => u.free b o e n (by simp)) (fun b o _ e => u.there b o e (by simp)) u.tups u.frzs u.tbls u.sys (fun m' hm => by
    obtain ⟨o', es', ep', ho', r'⟩ := hm
    rw [ho] at ho'; cases ho'
    exact ⟨_, es', ep', hL, r'⟩) hok I.bare
theorem Inv.call {g' : Array GenState} {t' : Nat} {d' : Drawn} {ch : List Addr} (I : Inv X pins σ H s) (u : Un (frs X.stack) ch H H' s.heap h') (hok : HOk X.prog X.w H' h') (hg : AllBare g')
    (hch : ∀ b ∈ ch, (b ∈ X.ex ∨ X.s₀.heap.objs.size ≤ b) ∧ b ≠ X.env.locals ∧ (∀ x c, X.env.cells.lookup x = some c → c ≠ b) ∧ ∀ p ∈ X.pn ++ pins, p.1 ≠ b) :
    Inv X pins σ H' { s with heap := h', gens := g', drawn := d', toks := t' } := by
  obtain ⟨m, ⟨o, es, ep, ho, r⟩, _⟩ := id I.loc
  obtain ⟨sl, hL⟩ := u.any ho I.free fun z => (hch _ z).2.1 rfl
  exact I.step (ch := ch) hch (fun b o hL hb hc e n => u.keep b o e n (fun z => (List.mem_cons.mp (I.stkSub b z)).elim hL hb) hc) (fun b o _ _ hc e n => u.any e n hc) (fun b o hc e n => u.free b o e n hc) (fun b o hc e => u.there b o e hc) u.tups u.frzs u.tbls u.sys (fun m' hm => by
    obtain ⟨o', es', ep', ho', r'⟩ := hm
    rw [ho] at ho'; cases ho'
    exact ⟨_, es', ep', hL, r'⟩) hok hg
theorem Inv.turned {t' : Nat} {it : Addr} (I : Inv X pins σ H s) (k : ∀ b o, b ≠ it → s.heap.get? b = some o → h'.get? b = some o) (hn : H it = none) (hL : it ≠ X.env.locals)
    (h1 : it ∈ X.ex ∨ X.s₀.heap.objs.size ≤ it) (h2 : ∀ x c, X.env.cells.lookup x = some c → c ≠ it) (h3 : ∀ p ∈ X.pn ++ pins, p.1 ≠ it) : Inv X pins σ H { s with heap := h', toks := t' } := by
  have nit : ∀ b u, H b = some u → b ≠ it := fun b u e z => by rw [z, hn] at e; cases e
  refine I.step (g' := s.gens) (d' := s.drawn) (ch := [it]) (fun b hb => ?_) (fun b o _ _ hc e _ => k b o (fun z => hc (by simp [z])) e) (fun b o _ _ hc e _ => ⟨o.slots, k b o (fun z => hc (by simp [z])) e⟩) (fun _ _ _ _ n => n)
    (fun b o hc e => ⟨o, k b o (fun z => hc (by simp [z])) e⟩) (fun _ _ e => e) (fun _ _ _ e => e) (fun b ps e => ⟨#[], by rw [e]; simp⟩) (fun q => q) (fun m hm => ?_) (fun b u e => ?_) I.bare
  · have e : b = it := by simpa using hb
    subst e
    exact ⟨h1, hL, h2, h3⟩
  · obtain ⟨o, es, ep, ho, r⟩ := hm
    exact ⟨o, es, ep, k _ o (Ne.symm hL) ho, r⟩
  · refine (I.hok b u e).stay (fun c v hc q => k c v ?_ q) (fun _ q => q) fun _ _ q => q
    rcases hc with z | z
    · rw [z]; exact nit b u e
    · exact nit c _ z
theorem Inv.tok (I : Inv X pins σ H s) (t : Nat) : Inv X pins σ H { s with toks := t } := I.un (h' := s.heap) (t' := t) Un.refl I.hok
theorem Inv.kept {t' : Nat} (I : Inv X pins σ H s) (k : ∀ b u, s.heap.get? b = some u → h'.get? b = some u) : Inv X pins σ H { s with heap := h', toks := t' } := I.un (Un.kept k) (I.hok.kept k)
theorem Inv.laid {a : Addr} {o : HO} {t' : Nat} (I : Inv X pins σ H s) (k : ∀ b u, s.heap.get? b = some u → h'.get? b = some u) (hp : s.heap.objs.size ≤ a) (new : ObjOk X.prog X.w (upd H a o) h' a o) :
    Inv X pins σ (upd H a o) { s with heap := h', toks := t' } := I.un (Un.laid k hp (I.hok.fresh hp) (Nat.lt_trans (by decide : sysModules < mainGlobals) (I.mod.glob.keeps I.bk).lt)) (I.hok.laid k hp new)
theorem Inv.write {x e : Addr} {o : HO} {t' : Nat} (I : Inv X pins σ H s) (mu : Mut (H x)) (he : e = x ∨ H e = some (.own x)) (k : ∀ b u, b ≠ e → s.heap.get? b = some u → h'.get? b = some u) (heo : ∃ u, h'.get? e = some u)
    (new : ObjOk X.prog X.w (upd H x o) h' x o) : Inv X pins σ (upd H x o) { s with heap := h', toks := t' } := I.un (Un.write mu he k heo) (I.hok.write mu he k heo new)
theorem Inv.pins_of {pins' : List (Addr × Obj)} (I : Inv X pins σ H s) (h : ∀ p ∈ pins', s.heap.get? p.1 = some p.2 ∧ H p.1 = none ∧ p.1 ≠ X.env.locals ∧ p.1 ∉ X.fs ∧ ∀ v, p.2.data ≠ .cell v) : Inv X pins' σ H s :=
  ⟨I.ok, I.os, I.bare, I.base, I.loc, I.cell, I.free, I.freeC, fun p hp => (List.mem_append.mp hp).elim (fun z => I.pin p (List.mem_append_left _ z)) (h p), I.hok, I.len⟩
theorem nodup_ix {N : List Str} (hN : N.Nodup) {i j : Nat} {x : Str} (a : N[i]? = some x) (b : N[j]? = some x) : i = j := by
  obtain ⟨h1, e1⟩ := List.getElem?_eq_some_iff.mp a
  obtain ⟨h2, e2⟩ := List.getElem?_eq_some_iff.mp b
  exact (List.getElem_inj hN).mp (e1.trans e2.symm)
theorem store_ok2 {M : Model} {A : Around} {E : Value → Shared → Prop} {i : Nat} {x : Str} {v : V} {u : Value} {Q : Unit → Shared → Prop} (I : Inv X pins σ H s) (hN : X.N.Nodup) (hi : X.N[i]? = some x) (hx : Loc X.env.scope x) (r : RelV v u)
    (h : ∀ s', Inv X pins (σ.set i (some v)) H s' → (∃ a, Heap.SameBut a s.heap s'.heap ∧ (a = X.env.locals ∨ X.env.cells.lookup x = some a)) → Q () s') (hf : X.fn x = true ∨ X.env.scope.names.lookup x = some .local := by first | exact .inl rfl | exact .inr rfl | assumption) : wpAny M A (storeName X.env x u) Q E s := by
  obtain ⟨m, hn, hl⟩ := id I.loc
  have hcls : (X.env.scope.kind == .class || (X.env.scope.kind == .module && X.env.locals != X.env.globals)) = false := by rw [I.ok.kind]; rfl
  have hiσ : i < σ.length := by rw [I.len]; exact (List.getElem?_eq_some_iff.mp hi).1
  have cne := I.cne
  have tracked : ∀ {a : Addr} {h' : Heap}, (∃ o, s.heap.get? a = some o ∧ H a = none) → Heap.SameBut a s.heap h' → HOk X.prog X.w H h' := fun {a h'} ha hs b ob e => by
    obtain ⟨_, _, hfree⟩ := ha
    refine (I.hok b ob e).stay (fun c w' hc q => (hs.2 c ?_).trans q) (fun _ q => q) fun _ _ q => q
    rintro rfl
    rcases hc with rfl | hc
    · rw [hfree] at e; cases e
    · rw [hfree] at hc; cases hc
  rcases hx with hk | hk
  · refine wpAny_storeName_local hk hn (fun h' hn' hs => ?_) hcls
    obtain ⟨oL, _, _, hoL, _⟩ := id hn
    refine h _ ⟨I.ok, I.os, I.bare, ⟨fun b o e n hb hx => ?_, fun b o e n hb hx => ?_, I.base.free, fun b o e hx => ?_, I.base.tups, I.base.frzs, I.base.tbls, I.base.sys⟩, ⟨_, hn', fun j y v' e1 e2 e3 => ?_⟩, fun y c e => ?_, I.free, I.freeC, fun p hp => ?_, tracked ⟨oL, hoL, I.free⟩ hs, by simpa using I.len⟩ ⟨_, hs, .inl rfl⟩
    · exact (hs.2 b (Nat.ne_of_lt (Nat.lt_of_lt_of_le (Heap.lt_size e) I.ok.above))).trans (I.base.keep b o e n hb hx)
    · obtain ⟨sl, e1⟩ := I.base.slot b o e n hb hx
      exact ⟨sl, (hs.2 b (Nat.ne_of_lt (Nat.lt_of_lt_of_le (Heap.lt_size e) I.ok.above))).trans e1⟩
    · obtain ⟨o', e1⟩ := I.base.there b o e hx
      exact ⟨o', (hs.2 b (Nat.ne_of_lt (Nat.lt_of_lt_of_le (Heap.lt_size e) I.ok.above))).trans e1⟩
    · by_cases hj : j = i
      · subst hj
        rw [hi] at e1; cases e1
        rw [List.getElem?_set_self hiσ] at e2
        cases e2
        exact ⟨u, r, .inl ⟨hk, by simp⟩⟩
      · rw [List.getElem?_set_ne (Ne.symm hj)] at e2
        obtain ⟨u', r', q⟩ := hl j y v' e1 e2 e3
        refine ⟨u', r', ?_⟩
        rcases q with ⟨k, e⟩ | ⟨k, c, e, z⟩
        · refine .inl ⟨k, ?_⟩
          have : y ≠ x := fun e => hj (nodup_ix hN e1 (e ▸ hi))
          simp [this, e]
        · exact .inr ⟨k, c, e, z.sameBut hs (cne y c e)⟩
    · obtain ⟨w', z⟩ := I.cell y c e
      exact ⟨w', z.sameBut hs (cne y c e)⟩
    · obtain ⟨e, n, ne, nf, d⟩ := I.pin p hp
      exact ⟨(hs.2 p.1 ne).trans e, n, ne, nf, d⟩
  · have hfn : X.fn x = true := by
      rcases hf with z | z
      · exact z
      · rw [z] at hk; cases hk
    obtain ⟨c, hc⟩ := I.ok.has x (.inl hk)
    obtain ⟨w', z⟩ := I.cell x c hc
    refine wpAny_storeName_cell I.ok.kind hk hc z (fun h' hc' hs => ?_)
    obtain ⟨oc, hoc, hocd⟩ := id z
    refine h { s with heap := h' } ⟨I.ok, I.os, I.bare, ⟨fun b o e n hb hx => ?_, fun b o e n hb hx => ?_, I.base.free, fun b o e hx => ?_, I.base.tups, I.base.frzs, I.base.tbls, I.base.sys⟩, ⟨m, hn.sameBut hs (Ne.symm (cne x c hc)), fun j y v' e1 e2 e3 => ?_⟩, fun y c' e => ?_, I.free, I.freeC, fun p hp => ?_, tracked ⟨oc, hoc, I.freeC x c hc⟩ hs, by simpa using I.len⟩ ⟨c, hs, .inr hc⟩
    · exact (hs.2 b (Nat.ne_of_lt (Nat.lt_of_lt_of_le (Heap.lt_size e) (I.ok.cab x c hfn hc)))).trans (I.base.keep b o e n hb hx)
    · obtain ⟨sl, e1⟩ := I.base.slot b o e n hb hx
      exact ⟨sl, (hs.2 b (Nat.ne_of_lt (Nat.lt_of_lt_of_le (Heap.lt_size e) (I.ok.cab x c hfn hc)))).trans e1⟩
    · obtain ⟨o', e1⟩ := I.base.there b o e hx
      exact ⟨o', (hs.2 b (Nat.ne_of_lt (Nat.lt_of_lt_of_le (Heap.lt_size e) (I.ok.cab x c hfn hc)))).trans e1⟩
    · by_cases hj : j = i
      · subst hj
        rw [hi] at e1; cases e1
        rw [List.getElem?_set_self hiσ] at e2
        cases e2
        exact ⟨u, r, .inr ⟨.inl hk, c, hc, hc'⟩⟩
      · rw [List.getElem?_set_ne (Ne.symm hj)] at e2
        obtain ⟨u', r', q⟩ := hl j y v' e1 e2 e3
        refine ⟨u', r', ?_⟩
        rcases q with q | ⟨k, c', e, z'⟩
        · exact .inl q
        · refine .inr ⟨k, c', e, z'.sameBut hs ?_⟩
          rintro rfl
          exact hj (nodup_ix hN e1 (I.ok.inj _ _ _ e hc ▸ hi))
    · by_cases hcc : c' = c
      · subst hcc; exact ⟨_, hc'⟩
      · obtain ⟨w2, z2⟩ := I.cell y c' e
        exact ⟨w2, z2.sameBut hs hcc⟩
    · obtain ⟨e, n, ne, nf, d⟩ := I.pin p hp
      refine ⟨(hs.2 p.1 ?_).trans e, n, ne, nf, d⟩
      intro q
      rw [q, hoc] at e
      have q' : oc = p.2 := Option.some.inj e
      exact d w' (by rw [← q']; exact hocd)
theorem store_ok {M : Model} {A : Around} {E : Value → Shared → Prop} {i : Nat} {x : Str} {v : V} {u : Value} {Q : Unit → Shared → Prop} (I : Inv X pins σ H s) (hN : X.N.Nodup) (hi : X.N[i]? = some x) (hx : Loc X.env.scope x) (r : RelV v u)
    (h : ∀ s', Inv X pins (σ.set i (some v)) H s' → Q () s') (hf : X.fn x = true ∨ X.env.scope.names.lookup x = some .local := by first | exact .inl rfl | exact .inr rfl | assumption) : wpAny M A (storeName X.env x u) Q E s :=
  store_ok2 I hN hi hx r (fun s' I' _ => h s' I') hf
theorem Inv.call' {s' : Shared} {ch : List Addr} (I : Inv X pins σ H s) (ho : s'.os = s.os) (u : Un (frs X.stack) ch H H' s.heap s'.heap) (hok : HOk X.prog X.w H' s'.heap) (hg : AllBare s'.gens)
    (hch : ∀ b ∈ ch, (b ∈ X.ex ∨ X.s₀.heap.objs.size ≤ b) ∧ b ≠ X.env.locals ∧ (∀ x c, X.env.cells.lookup x = some c → c ≠ b) ∧ ∀ p ∈ X.pn ++ pins, p.1 ≠ b) : Inv X pins σ H' s' := by
  obtain ⟨h', g', d', t', o'⟩ := s'
  have e : o' = s.os := ho
  subst e
  exact I.call (g' := g') (t' := t') (d' := d') u hok hg hch
end
abbrev XK := Value → Option Addr → Hp → Prop
abbrev St := List (Option V)
abbrev VK := V → Hp → Prop
abbrev TE := St → Hp → VK → Prop
abbrev TT := St → Hp → (Bool → Hp → Prop) → Prop
abbrev TA := St → Hp → (List V → Hp → Prop) → Prop
structure Ends where
  nx : St → Hp → Prop
  rt : VK
  bk : St → Hp → Prop := fun _ _ => False
  ct : St → Hp → Prop := fun _ _ => False
abbrev TS := Ends → St → Hp → Prop
def EP (X : Cx) (pins : List (Addr × Obj)) (σ : St) (Q : VK) (u : Value) (s' : Shared) : Prop := ∃ v H', Inv X pins σ H' s' ∧ RelV v u ∧ Q v H'
def TP (X : Cx) (pins : List (Addr × Obj)) (σ : St) (Q : Bool → Hp → Prop) (b : Bool) (s' : Shared) : Prop := ∃ H', Inv X pins σ H' s' ∧ Q b H'
def AP (X : Cx) (pins : List (Addr × Obj)) (σ : St) (Q : List V → Hp → Prop) (us : List Value) (s' : Shared) : Prop := ∃ vs H', Inv X pins σ H' s' ∧ Vals vs us ∧ Q vs H'
def SP (X : Cx) (pins : List (Addr × Obj)) (D : Ends) (f : Flow) (s' : Shared) : Prop :=
  match f with
  | .next => ∃ σ' H', Inv X pins σ' H' s' ∧ D.nx σ' H'
  | .brk => ∃ σ' H', Inv X pins σ' H' s' ∧ D.bk σ' H'
  | .cont => ∃ σ' H', Inv X pins σ' H' s' ∧ D.ct σ' H'
  | .ret u => ∃ v σ' H', Inv X pins σ' H' s' ∧ RelV v u ∧ D.rt v H'
def PE (X : Cx) (e : Expr) (t : TE) : Prop :=
  ∀ (pins : List (Addr × Obj)) (s : Shared) (σ : St) (H : Hp) (Q : VK), Inv X pins σ H s → t σ H Q → wpAny (model X.prog X.w) X.A (eval e X.env) (EP X pins σ Q) X.xe s
def PT (X : Cx) (e : Expr) (t : TT) : Prop :=
  ∀ (pins : List (Addr × Obj)) (s : Shared) (σ : St) (H : Hp) (Q : Bool → Hp → Prop), Inv X pins σ H s → t σ H Q → wpAny (model X.prog X.w) X.A (isTrue e X.env (eval e X.env)) (TP X pins σ Q) X.xe s
def PW (X : Cx) (e : Expr) (t : TT) : Prop :=
  ∀ (whole : Sem Value) (pins : List (Addr × Obj)) (s : Shared) (σ : St) (H : Hp) (Q : Bool → Hp → Prop), Inv X pins σ H s → t σ H Q → wpAny (model X.prog X.w) X.A (isTrue e X.env whole) (TP X pins σ Q) X.xe s
theorem PW.pt {X : Cx} {e : Expr} {t : TT} (h : PW X e t) : PT X e t := h _
def PA (X : Cx) (es : List Expr) (t : TA) : Prop :=
  ∀ (pos : Pos) (pins : List (Addr × Obj)) (s : Shared) (σ : St) (H : Hp) (Q : List V → Hp → Prop), Inv X pins σ H s → t σ H Q → wpAny (model X.prog X.w) X.A (spliced (backTo pos (starEach es X.env))) (AP X pins σ Q) X.xe s
def PS (X : Cx) (st : Stmt) (t : TS) : Prop :=
  ∀ (pins : List (Addr × Obj)) (s : Shared) (σ : St) (H : Hp) (D : Ends), Inv X pins σ H s → t D σ H → wpAny (model X.prog X.w) X.A (exec st X.env) (SP X pins D) X.xe s
def PSs (X : Cx) (st : List Stmt) (t : TS) : Prop :=
  ∀ (pins : List (Addr × Obj)) (s : Shared) (σ : St) (H : Hp) (D : Ends), Inv X pins σ H s → t D σ H → wpAny (model X.prog X.w) X.A (execs st X.env) (SP X pins D) X.xe s
theorem thn {α : Type} {t : Sem α} {Q Q' : α → Shared → Prop} {M : Model} {A : Around} {E : Value → Shared → Prop} {s : Shared} (h : wpAny M A t Q E s) (hQ : ∀ a s, Q a s → Q' a s) : wpAny M A t Q' E s := wpAny_mono h hQ fun _ _ x => x
end L2
namespace L2
open PySem PySem.Spec PyProof.Rows
section
variable {X : Cx}
theorem bin {a b : Expr} {ta tb : TE} (ha : PE X a ta) (hb : PE X b tb) {pins : List (Addr × Obj)} {s : Shared} {σ : St} {H : Hp} {R : V → V → Hp → Prop} (I : Inv X pins σ H s) (h : ta σ H fun x H1 => tb σ H1 fun y H2 => R x y H2)
    {α : Type} {Q : α → Shared → Prop} {f : Value → Value → Sem α}
    (hf : ∀ v u s2 x y H2, Inv X pins σ H2 s2 → RelV x v → RelV y u → R x y H2 → wpAny (model X.prog X.w) X.A (f v u) Q X.xe s2) :
    wpAny (model X.prog X.w) X.A (eval a X.env) (fun v s₁ => wpAny (model X.prog X.w) X.A (eval b X.env) (fun u s₂ => wpAny (model X.prog X.w) X.A (f v u) Q X.xe s₂) X.xe s₁) X.xe s := by
  refine thn (ha pins s σ H _ I h) fun v s1 ⟨x, H1, I1, r1, q1⟩ => ?_
  refine thn (hb pins s1 σ H1 _ I1 q1) fun u s2 ⟨y, H2, I2, r2, q2⟩ => ?_
  exact hf v u s2 x y H2 I2 r1 r2 q2
def tVar (i : Nat) : TE := fun σ H Q => ∃ v, σ[i]? = some (some v) ∧ Q v H
def tC (v : V) : TE := fun _ H Q => Q v H
theorem pe_var {i : Nat} {x : Str} {pos : Pos} (hN : X.N[i]? = some x) (hv : Vis X.env.scope x) (hd : (x == ("__debug__" : Str)) = false := by decide) (hcd : (x == ("__classdict__" : Str)) = false := by decide) : PE X (.Name x pos) (tVar i) := by
  intro pins s σ H Q I h
  obtain ⟨v, e, h⟩ := h
  obtain ⟨m, hn, hl⟩ := I.loc
  obtain ⟨u, r, l⟩ := hl i x v hN e hv
  have fin : EP X pins σ Q u s := ⟨v, H, I, r, h⟩
  rcases l with ⟨hk, hm⟩ | ⟨hk, c, hc, hcell⟩
  · exact wpAny_Name (wpAny_loadName_local I.ok.kind hk hn hm fin) hd
  · rcases hk with hk | hk
    · exact wpAny_Name (wpAny_loadName_cell I.ok.kind hk hc hcell fin) hd
    · exact wpAny_Name (wpAny_loadName_free I.ok.kind hk hc hcell fin hcd) hd
theorem pe_int {i j pos} : PE X (.Constant (.int i) j pos) (tC (.int i)) := fun _ _ _ H _ I h => wpAny_Constant_int ⟨.int i, H, I.tok _, ⟨_, rfl⟩, h⟩
theorem pe_bl {b j pos} : PE X (.Constant (.bool b) j pos) (tC (.bl b)) := fun _ _ _ H _ I h => Constant_bool ⟨.bl b, H, I, rfl, h⟩
theorem pe_non {j pos} : PE X (.Constant .none j pos) (tC .non) := fun _ _ _ H _ I h => Constant_none ⟨.non, H, I, rfl, h⟩
theorem pe_str {x j pos} : PE X (.Constant (.str x) j pos) (tC (.str x)) := fun _ _ _ H _ I h => Calls.Constant_str ⟨.str x, H, I.tok _, ⟨_, rfl⟩, h⟩
def Gl (X : Cx) (x : Str) : Prop := X.env.kindOf x = some .globalImplicit
theorem ld_glob {E : Value → Shared → Prop} {pins : List (Addr × Obj)} {s : Shared} {σ : St} {H : Hp} {x : Str} {u : Value} {pos : Pos} {Q : Value → Shared → Prop} (I : Inv X pins σ H s) (hg : Gl X x) (hm : X.mg x = some u) (h : Q u s)
    (hd : (x == ("__debug__" : Str)) = false := by decide) : wpAny (model X.prog X.w) X.A (eval (.Name x pos) X.env) Q E s :=
  Calls.Name_function_global I.ok.kind hg (Calls.loadGlobal_global (by rw [I.ok.glob]; exact I.mod.glob.keeps I.bk) hm h) hd
theorem ld_blt {E : Value → Shared → Prop} {pins : List (Addr × Obj)} {s : Shared} {σ : St} {H : Hp} {x : Str} {u : Value} {pos : Pos} {Q : Value → Shared → Prop} (I : Inv X pins σ H s) (hg : Gl X x) (hm : X.mg x = none) (hv : bootBuiltins x = some u) (h : Q u s)
    (hn : x ≠ "__name__" := by decide) (hd : (x == ("__debug__" : Str)) = false := by decide) : wpAny (model X.prog X.w) X.A (eval (.Name x pos) X.env) Q E s := by
  obtain ⟨mb, h1, h2⟩ := I.mod.blt
  exact Calls.Name_function_global I.ok.kind hg (Calls.loadGlobal_builtin (by rw [I.ok.glob]; exact I.mod.glob.keeps I.bk) hm (by rw [I.ok.blt]; exact h1.keeps I.bk) ((h2 x hn).trans hv) h) hd
theorem pe_glob {x : Str} {v : V} {u : Value} {pos : Pos} (hg : Gl X x) (hm : X.mg x = some u) (r : RelV v u) (hd : (x == ("__debug__" : Str)) = false := by decide) : PE X (.Name x pos) (tC v) :=
  fun _ _ _ H _ I h => ld_glob I hg hm ⟨v, H, I, r, h⟩ hd
theorem pe_bltn {x : Str} {v : V} {u : Value} {pos : Pos} (hg : Gl X x) (hm : X.mg x = none) (hv : bootBuiltins x = some u) (r : RelV v u) (hn : x ≠ "__name__" := by decide) (hd : (x == ("__debug__" : Str)) = false := by decide) : PE X (.Name x pos) (tC v) :=
  fun _ _ _ H _ I h => ld_blt I hg hm hv ⟨v, H, I, r, h⟩ hn hd
variable {a b : Expr} {ta tb : TE} {pos : Pos}
def PC (X : Cx) (op : CmpOp) (a b : Expr) (t : TE) : Prop :=
  ∀ (pins : List (Addr × Obj)) (s : Shared) (σ : St) (H : Hp) (Q : VK), Inv X pins σ H s → t σ H Q →
    wpAny (model X.prog X.w) X.A (eval a X.env) (fun v s₁ => wpAny (model X.prog X.w) X.A (eval b X.env) (fun u s₂ => wpAny (model X.prog X.w) X.A (compareOp op v u) (EP X pins σ Q) X.xe s₂) X.xe s₁) X.xe s
theorem nobehind (b : Expr) {op : CmpOp} (h : op ≠ .In) (h2 : op ≠ .NotIn) : behindInMarks op b = false := by
  have e1 : (op == CmpOp.In) = false := by cases op <;> first | rfl | exact absurd rfl h
  have e2 : (op == CmpOp.NotIn) = false := by cases op <;> first | rfl | exact absurd rfl h2
  cases b <;> simp [behindInMarks, e1, e2]
def tB (t : TE) : TT := fun σ H Q => t σ H fun x H1 => ∃ c, x = .bl c ∧ Q c H1
theorem pt_cmp {op : CmpOp} {t : TE} (h : PC X op a b t) (h1 : behindInMarks op b = false := by first | exact nobehind _ (by decide) (by decide) | rfl) : PT X (.Compare a [op] [b] pos) (tB t) := by
  intro pins s σ H Q I hw
  refine wpAny_isTrue_Compare1 (thn (h pins s σ H _ I hw) fun v s1 h1 => thn h1 fun u s2 h2 => thn h2 fun c s3 ⟨x, H1, I1, r1, q1⟩ => ?_) h1
  obtain ⟨d, rfl, q⟩ := q1
  cases r1
  exact wpAny_truthy_bool ⟨H1, I1, q⟩
theorem pt_val {e : Expr} {t : TE} (h : PE X e t) (he : ∀ whole, isTrue e X.env whole = (do let v ← whole; standAt e.pos; holding [v] (truthy v)) := by intro _; rfl) : PT X e (tB t) := by
  intro pins s σ H Q I hw
  refine isTrue_plain (thn (h pins s σ H _ I hw) fun v s1 ⟨x, H1, I1, r1, q1⟩ => ?_) (he _)
  obtain ⟨d, rfl, q⟩ := q1
  cases r1
  exact wpAny_truthy_bool ⟨H1, I1, q⟩
variable {tA tB' : TT} {rest : List Expr}
def tOr (t u : TT) : TT := fun σ H Q => t σ H fun c H1 => if c = true then Q true H1 else u σ H1 Q
def tNot (t : TT) : TT := fun σ H Q => t σ H fun c H1 => Q (!c) H1
theorem pw_or1 (ha : PT X a tA) : PW X (.BoolOp .Or [a] pos) tA := by
  intro wh pins s σ H Q I h
  refine isTrue_or (thn (ha pins s σ H Q I h) fun c s1 e => ?_)
  cases c with
  | false => exact isTrue_or_nil e
  | true => exact e
theorem pw_or (ha : PT X a tA) (hb : PW X (.BoolOp .Or (b :: rest) pos) tB') : PW X (.BoolOp .Or (a :: b :: rest) pos) (tOr tA tB') := by
  intro wh pins s σ H Q I h
  refine isTrue_or (thn (ha pins s σ H _ I h) fun c s1 ⟨H1, I1, q1⟩ => ?_)
  cases c with
  | true => exact ⟨H1, I1, q1⟩
  | false => exact hb wh pins s1 σ H1 Q I1 q1
theorem pt_not (ha : PT X a tA) : PT X (.UnaryOp .Not a pos) (tNot tA) := by
  intro pins s σ H Q I h
  exact isTrue_not (ha pins s σ H (fun c H1 => Q (!c) H1) I h)
def tAndV (ta tb : TE) : TE := fun σ H Q => ta σ H fun x H1 => ∃ c, x = .bl c ∧ if c = true then tb σ H1 Q else Q (.bl false) H1
def tNotV (ta : TE) : TE := fun σ H Q => ta σ H fun x H1 => ∃ c, x = .bl c ∧ Q (.bl (!c)) H1
theorem pe_one {op} {t : TE} (h : PE X a t) : PE X (.BoolOp op [a] pos) t := fun pins s σ H Q I hw => BoolOp_one (h pins s σ H Q I hw)
theorem pe_and (ha : PE X a ta) (hb : PE X (.BoolOp .And (b :: rest) pos) tb) : PE X (.BoolOp .And (a :: b :: rest) pos) (tAndV ta tb) := by
  intro pins s σ H Q I h
  refine BoolOp_and (thn (ha pins s σ H _ I h) fun v s1 ⟨x, H1, I1, r1, q1⟩ => ?_)
  obtain ⟨c, rfl, q1⟩ := q1
  cases r1
  refine wpAny_truthy_bool ?_
  cases c with
  | true => exact hb pins s1 σ H1 Q I1 q1
  | false => exact ⟨.bl false, H1, I1, rfl, q1⟩
theorem pe_not (ha : PE X a ta) : PE X (.UnaryOp .Not a pos) (tNotV ta) := by
  intro pins s σ H Q I h
  refine UnaryOp_ (thn (ha pins s σ H _ I h) fun v s1 ⟨x, H1, I1, r1, q1⟩ => ?_)
  obtain ⟨c, rfl, q1⟩ := q1
  cases r1
  exact not_of (wpAny_truthy_bool ⟨.bl (!c), H1, I1, rfl, q1⟩)
end
end L2
namespace L2
open PySem PySem.Spec PyProof.Rows
def SqL (K : PySem.W.Frag) (H : Hp) (a : Addr) (xs : List V) : Prop :=
  Rd H a (.lst xs) ∨
    ∃ (o : Obj) (its : Array Value) (n : Nat), K.lookup a = some o ∧ o.cls = .type "list" ∧ o.dict = none ∧ o.data = .seq its n ∧ its.size ≤ sizeLine ∧ Vals xs its.toList
def SqT (K : PySem.W.Frag) (H : Hp) (a : Addr) (xs : List V) : Prop :=
  Rd H a (.tup xs) ∨
    ∃ (o : Obj) (its : Array Value) (n : Nat), K.lookup a = some o ∧ o.cls = .type "tuple" ∧ o.data = .seq its n ∧ its.size ≤ sizeLine ∧ Vals xs its.toList
def absV : Value → Option V
  | .none => some .non
  | .bool b => some (.bl b)
  | .int i _ => some (.int i)
  | .str x _ => some (.str x)
  | .bytes b _ => some (.byt b)
  | .float b _ => some (.flt b)
  | .ref a => some (.ref a)
  | .type n => some (.ty n)
  | _ => none
theorem RelV.abs {x : V} {u : Value} (r : RelV x u) : absV u = some x := by
  cases x with
  | non => cases r; rfl
  | bl _ => cases r; rfl
  | int _ => obtain ⟨t, rfl⟩ := r; rfl
  | str _ => obtain ⟨t, rfl⟩ := r; rfl
  | byt _ => obtain ⟨t, rfl⟩ := r; rfl
  | flt _ => obtain ⟨t, rfl⟩ := r; rfl
  | ref _ => cases r; rfl
  | ty _ => cases r; rfl
theorem RelV.inj {x y : V} {u : Value} (r : RelV x u) (q : RelV y u) : x = y := Option.some.inj (r.abs.symm.trans q.abs)
theorem Vals.inj : ∀ {xs ys : List V} {us : List Value}, Vals xs us → Vals ys us → xs = ys
  | _, _, _, .nil, .nil => rfl
  | _, _, _, .cons r t, .cons r' t' => by rw [r.inj r', Vals.inj t t']
section
variable {X : Cx} {pins : List (Addr × Obj)} {σ : St} {H : Hp} {s : Shared} {a : Addr} {xs ys : List V}
theorem SqL.of {K : PySem.W.Frag} (h : H a = some (.lst xs)) : SqL K H a xs := .inl (.inl h)
theorem SqT.of {K : PySem.W.Frag} (h : H a = some (.tup xs)) : SqT K H a xs := .inl (.inl h)
theorem Inv.list (I : Inv X pins σ H s) (h : SqL X.K H a xs) : ∃ its : List Value, Vals xs its ∧ PlainL s.heap a its.toArray ∧ xs.length ≤ sizeLine := by
  rcases h with h | ⟨o, its, n, hk, hc, hd, hs, hz, r⟩
  · obtain ⟨z, its, n, r, e⟩ := h.ok I.hok
    exact ⟨its, r, ⟨_, n, e, rfl, rfl, rfl⟩, z⟩
  · refine ⟨its.toList, r, ⟨o, n, I.kIn a o hk, hc, hd, by simpa using hs⟩, ?_⟩
    have e := r.length
    simp only [Array.length_toList] at e
    omega
theorem Inv.tuple (I : Inv X pins σ H s) (h : SqT X.K H a xs) : ∃ its : List Value, Vals xs its ∧ IsTup s.heap a its.toArray ∧ xs.length ≤ sizeLine := by
  rcases h with h | ⟨o, its, n, hk, hc, hs, hz, r⟩
  · obtain ⟨z, its, r, p⟩ := h.ok I.hok
    exact ⟨its, r, p, z⟩
  · refine ⟨its.toList, r, ⟨o, I.kIn a o hk, hc, n, by simpa using hs⟩, ?_⟩
    have e := r.length
    simp only [Array.length_toList] at e
    omega
theorem Inv.list_inj (I : Inv X pins σ H s) (h : SqL X.K H a xs) (h' : SqL X.K H a ys) : xs = ys := by
  obtain ⟨its, r, ⟨o, n, e, _, _, d⟩, _⟩ := I.list h
  obtain ⟨its', r', ⟨o', n', e', _, _, d'⟩, _⟩ := I.list h'
  rw [e] at e'; cases e'
  rw [d] at d'
  injection d' with d1 _
  have : its = its' := by simpa using congrArg Array.toList d1
  subst this
  exact r.inj r'
theorem Inv.tuple_inj (I : Inv X pins σ H s) (h : SqT X.K H a xs) (h' : SqT X.K H a ys) : xs = ys := by
  obtain ⟨its, r, ⟨o, e, _, n, d⟩, _⟩ := I.tuple h
  obtain ⟨its', r', ⟨o', e', _, n', d'⟩, _⟩ := I.tuple h'
  rw [e] at e'; cases e'
  rw [d] at d'
  injection d' with d1 _
  have : its = its' := by simpa using congrArg Array.toList d1
  subst this
  exact r.inj r'
end
abbrev Cx.wish (X : Cx) (E : Value → Shared → Prop) : Cx := { X with xe := E }
abbrev Cx.nox (X : Cx) : Cx := X.wish fun _ _ => False
theorem Cx.Ok.wish {X : Cx} (ok : X.Ok) (E : Value → Shared → Prop) : (X.wish E).Ok :=
  ⟨ok.mod, ok.kind, ok.glob, ok.blt, ok.above, ok.inj, ok.has, ok.cab, ok.hd, ok.frames, ok.stk, ok.exf, ok.bs, ok.bsz, ok.noex, ok.exfs, ok.funs, ok.frf⟩
theorem Cx.Ok.unwish {X : Cx} {E : Value → Shared → Prop} (ok : (X.wish E).Ok) : X.Ok :=
  ⟨ok.mod, ok.kind, ok.glob, ok.blt, ok.above, ok.inj, ok.has, ok.cab, ok.hd, ok.frames, ok.stk, ok.exf, ok.bs, ok.bsz, ok.noex, ok.exfs, ok.funs, ok.frf⟩
section
variable {X : Cx} {pins : List (Addr × Obj)} {σ : St} {H : Hp} {s : Shared} {E : Value → Shared → Prop}
theorem Inv.wish (I : Inv X pins σ H s) (E : Value → Shared → Prop) : Inv (X.wish E) pins σ H s := ⟨I.ok.wish E, I.os, I.bare, I.base, I.loc, I.cell, I.free, I.freeC, I.pin, I.hok, I.len⟩
theorem Inv.unwish (I : Inv (X.wish E) pins σ H s) : Inv X pins σ H s := ⟨I.ok.unwish, I.os, I.bare, I.base, I.loc, I.cell, I.free, I.freeC, I.pin, I.hok, I.len⟩
theorem SP.unwish {D : Ends} {f : Flow} {s' : Shared} (h : SP (X.wish E) pins D f s') : SP X pins D f s' := by
  cases f with
  | next => obtain ⟨σ', H', I, q⟩ := h; exact ⟨σ', H', I.unwish, q⟩
  | brk => obtain ⟨σ', H', I, q⟩ := h; exact ⟨σ', H', I.unwish, q⟩
  | cont => obtain ⟨σ', H', I, q⟩ := h; exact ⟨σ', H', I.unwish, q⟩
  | ret u => obtain ⟨v, σ', H', I, r, q⟩ := h; exact ⟨v, σ', H', I.unwish, r, q⟩
theorem PSs.nox {st : List Stmt} {t : TS} (h : PSs X.nox st t) : PSs X st t := fun pins s σ H D I hw =>
  wpAny_mono (h pins s σ H D (I.wish _) hw) (fun _ _ q => q.unwish) fun _ _ z => False.elim z
end
section
variable {X : Cx} {st : Stmt} {rest : List Stmt} {t u : TS} {e : Expr} {te : TE} {pos : Pos}
def tNext : TS := fun D σ H => D.nx σ H
def tSeq (t u : TS) : TS := fun D σ H => t { D with nx := u D } σ H
theorem pss_nil : PSs X [] tNext := fun _ _ σ H _ I h => wpAny_execs_nil ⟨σ, H, I, h⟩
theorem pss_cons (h1 : PS X st t) (h2 : PSs X rest u) : PSs X (st :: rest) (tSeq t u) := by
  intro pins s σ H D I h
  refine wpAny_execs_cons (thn (h1 pins s σ H { D with nx := u D } I h) fun f s1 q => ?_)
  cases f with
  | next =>
    obtain ⟨σ', H', I', q⟩ := q
    exact h2 pins s1 σ' H' D I' q
  | ret v => exact q
  | brk => exact q
  | cont => exact q
theorem pss_one (h1 : PS X st t) : PSs X [st] t := by
  intro pins s σ H D I h
  refine wpAny_execs_cons (thn (h1 pins s σ H D I h) fun f s1 q => ?_)
  cases f with
  | next => exact wpAny_execs_nil q
  | ret v => exact q
  | brk => exact q
  | cont => exact q
theorem Inv.quiet {pins : List (Addr × Obj)} {σ : St} {H : Hp} {s : Shared} (I : Inv X pins σ H s) : interactive X.env = false := by simp [interactive, I.ok.kind]
def tDrop (te : TE) : TS := fun D σ H => te σ H fun _ H1 => D.nx σ H1
theorem ps_expr (he : PE X e te) (hs : swapsWith e none pos.line X.env = pure false := by rfl) : PS X (.Expr e pos) (tDrop te) := by
  intro pins s σ H D I h
  exact wpAny_Expr_any (thn (he pins s σ H _ I h) fun v s1 ⟨x, H1, I1, r1, q1⟩ => ⟨σ, H1, I1, q1⟩) I.quiet hs
def tRet (te : TE) : TS := fun D σ H => te σ H D.rt
theorem ps_ret (he : PE X e te) : PS X (.Return (some e) pos) (tRet te) := by
  intro pins s σ H D I h
  exact wpAny_Return_some (thn (he pins s σ H _ I h) fun v s1 ⟨x, H1, I1, r1, q1⟩ => ⟨x, σ, H1, I1, r1, q1⟩)
def tIfS (c : TT) (t u : TS) : TS := fun D σ H => c σ H fun b H1 => if b = true then t D σ H1 else u D σ H1
theorem ps_if {c : Expr} {a b : List Stmt} {tc : TT} (hc : PT X c tc) (ha : PSs X a t) (hb : PSs X b u) : PS X (.If c a b pos) (tIfS tc t u) := by
  intro pins s σ H D I h
  refine wpAny_If (thn (hc pins s σ H _ I h) fun d s1 ⟨H1, I1, q1⟩ => ?_)
  cases d with
  | true => exact ha pins s1 σ H1 D I1 q1
  | false => exact hb pins s1 σ H1 D I1 q1
def tNever : TS := fun _ _ _ => False
theorem ps_never : PS X st tNever := fun _ _ _ _ _ _ h => h.elim
end
abbrev TG := V → St → Hp → (St → Hp → Prop) → Prop
abbrev TGs := List V → St → Hp → (St → Hp → Prop) → Prop
def PG (X : Cx) (target : Expr) (t : TG) : Prop :=
  ∀ (pins : List (Addr × Obj)) (s : Shared) (σ : St) (H : Hp) (v : V) (u : Value) (Q : St → Hp → Prop), Inv X pins σ H s → RelV v u → t v σ H Q →
    wpAny (model X.prog X.w) X.A (assign target X.env u) (fun _ s' => ∃ σ' H', Inv X pins σ' H' s' ∧ Q σ' H') X.xe s
def PGs (X : Cx) (ts : List Expr) (t : TGs) : Prop :=
  ∀ (pins : List (Addr × Obj)) (s : Shared) (σ : St) (H : Hp) (vs : List V) (us : List Value) (Q : St → Hp → Prop), Inv X pins σ H s → Vals vs us → t vs σ H Q →
    wpAny (model X.prog X.w) X.A (assignInOrder ((assignEach ts X.env).map (·.2)) us) (fun _ s' => ∃ σ' H', Inv X pins σ' H' s' ∧ Q σ' H') X.xe s
abbrev TSet := V → V → V → Hp → (Hp → Prop) → Prop
def PSet (X : Cx) (t : TSet) : Prop :=
  ∀ (pins : List (Addr × Obj)) (s : Shared) (σ : St) (H : Hp) (o i v : V) (ov iv u : Value) (Q : Hp → Prop), Inv X pins σ H s → RelV o ov → RelV i iv → RelV v u → t o i v H Q →
    wpAny (model X.prog X.w) X.A (setItem ov iv u) (fun _ s' => ∃ H', Inv X pins σ H' s' ∧ Q H') X.xe s
section
variable {X : Cx} {pos : Pos}
def gName (i : Nat) : TG := fun v σ H Q => Q (σ.set i (some v)) H
theorem pg_name {i : Nat} {x : Str} (hN : X.N.Nodup) (hi : X.N[i]? = some x) (hx : Loc X.env.scope x) (hf : X.fn x = true ∨ X.env.scope.names.lookup x = some .local := by first | exact .inl rfl | exact .inr rfl | assumption) : PG X (.Name x pos) (gName i) := by
  intro pins s σ H v u Q I r h
  exact wpAny_assign_Name (store_ok I hN hi hx r (fun s' I' => ⟨_, H, I', h⟩) hf)
def gNil : TGs := fun vs σ H Q => vs = [] ∧ Q σ H
def gCons (t : TG) (u : TGs) : TGs := fun vs σ H Q => ∃ v r, vs = v :: r ∧ t v σ H fun σ' H' => u r σ' H' Q
theorem pgs_nil : PGs X [] gNil := by
  intro pins s σ H vs us Q I r h
  obtain ⟨e, h⟩ := h
  subst e
  cases r
  exact assignInOrder_nil ⟨σ, H, I, h⟩
theorem pgs_cons {e : Expr} {es : List Expr} {t : TG} {u : TGs} (h1 : PG X e t) (h2 : PGs X es u)
    (hs : (assignEach (e :: es) X.env).map (·.2) = assign e X.env :: (assignEach es X.env).map (·.2) := by rfl) : PGs X (e :: es) (gCons t u) := by
  intro pins s σ H vs us Q I r h
  obtain ⟨v, vr, e1, h⟩ := h
  subst e1
  cases r with
  | cons r rr =>
    rw [hs]
    refine assignInOrder_cons (thn (h1 pins s σ H _ _ _ I r h) fun _ s1 ⟨σ1, H1, I1, q1⟩ => ?_)
    exact h2 pins s1 σ1 H1 _ _ Q I1 rr q1
def gTup (K : PySem.W.Frag) (n : Nat) (t : TGs) : TG := fun v σ H Q => ∃ a xs, v = .ref a ∧ SqT K H a xs ∧ xs.length = n ∧ t xs σ H Q
theorem pg_tup {es : List Expr} {k : Nat} {t : TGs} {n : Nat} (hc : X.calm = true) (h : PGs X es t)
    (hn : (assignEach es X.env).length = n := by rfl) (hst : (assignEach es X.env).findIdx? (·.1) = none := by rfl) : PG X (.Tuple es k pos) (gTup X.K n t) := by
  intro pins s σ H v u Q I r hw
  obtain ⟨a, xs, e1, hq, hl, hw⟩ := hw
  subst e1
  cases r
  obtain ⟨its, rv, ht, hz⟩ := I.tuple hq
  refine assign_Tuple_tuple (I.ok.hd hc) ht (by simp [hn, ← hl, rv.length]) hst fun h' hx => ?_
  have I1 : Inv X pins σ H { s with heap := h' } := I.kept (t' := s.toks) fun b o e => hx b o (Nat.ne_of_lt (Heap.lt_size e)) e
  exact h pins _ σ H xs _ Q I1 (by simpa using rv) hw
def gSub (to ti : TE) (t : TSet) : TG := fun v σ H Q => to σ H fun o H1 => ti σ H1 fun i H2 => t o i v H2 fun H3 => Q σ H3
theorem pg_sub {o i : Expr} {to ti : TE} {t : TSet} (ho : PE X o to) (hi : PE X i ti) (hs : PSet X t)
    (ha : ∀ v, assign (.Subscript o i pos) X.env v = (do
      let ov ← holding [v] (eval o X.env)
      let iv ← holding [v, ov] (eval i X.env)
      standAt pos
      holding [v, ov, iv] (setItem ov iv v)
      release [v, ov, iv] []) := by intro _; rfl) : PG X (.Subscript o i pos) (gSub to ti t) := by
  intro pins s σ H v u Q I r h
  rw [ha]
  refine wpAny_bind (wpAny_holding (thn (ho pins s σ H _ I h) fun ov s1 ⟨x, H1, I1, r1, q1⟩ => ?_))
  refine wpAny_bind (wpAny_holding (thn (hi pins s1 σ H1 _ I1 q1) fun iv s2 ⟨y, H2, I2, r2, q2⟩ => ?_))
  refine wpAny_bind (wpAny_standAt (wpAny_bind (wpAny_holding (thn (hs pins s2 σ H2 x y v ov iv u _ I2 r1 r2 r q2) fun _ s3 ⟨H3, I3, q3⟩ => ?_))))
  exact wpAny_release ⟨σ, H3, I3, q3⟩
def tAsg (te : TE) (g : TG) : TS := fun D σ H => te σ H fun x H1 => g x σ H1 D.nx
theorem ps_asg {tg e : Expr} {te : TE} {g : TG} (he : PE X e te) (hg : PG X tg g) (hs : swapsWithSole [tg] e pos.line X.env = pure false := by rfl) (hw : swappedStores [tg] e X.env = pure none := by rfl)
    (h1 : (assignEach [tg] X.env).map (·.2) = [assign tg X.env] := by rfl) : PS X (.Assign [tg] e pos) (tAsg te g) := by
  intro pins s σ H D I h
  refine wpAny_Assign_stores (thn (he pins s σ H _ I h) fun v s1 ⟨x, H1, I1, r1, q1⟩ => ?_) hs hw
  rw [h1]
  exact thn (hg pins s1 σ H1 x v _ I1 r1 q1) fun _ s2 q => q
theorem ps_set {i : Nat} {x : Str} {e : Expr} {te : TE} {pos' : Pos} (hN : X.N.Nodup) (hi : X.N[i]? = some x) (hx : Loc X.env.scope x) (he : PE X e te) (hs : swapsWith e (some (.Name x pos')) pos.line X.env = pure false := by rfl) (hf : X.fn x = true ∨ X.env.scope.names.lookup x = some .local := by first | exact .inl rfl | exact .inr rfl | assumption) :
    PS X (.Assign [.Name x pos'] e pos) (tAsg te (gName i)) := by
  intro pins s σ H D I h
  refine wpAny_Assign_Name (thn (he pins s σ H _ I h) fun v s1 ⟨y, H1, I1, r1, q1⟩ => ?_) hs
  exact store_ok I1 hN hi hx r1 (fun s2 I2 => ⟨_, H1, I2, q1⟩) hf
def tPar (i j : Nat) (ta : TA) : TS := fun D σ H => ta σ H fun vs H1 => ∃ v w, vs = [v, w] ∧ D.nx ((σ.set i (some v)).set j (some w)) H1
theorem ps_par {i j : Nat} {x y : Str} {a b : Expr} {ta : TA} {px py pt : Pos} {kt k2 pt2} (hc : X.calm = true) (hN : X.N.Nodup) (hi : X.N[i]? = some x) (hj : X.N[j]? = some y) (hij : i ≠ j)
    (hx : X.env.scope.names.lookup x = some .local) (hy : X.env.scope.names.lookup y = some .local) (ha : PA X [a, b] ta)
    (hw : swappedStores [.Tuple [.Name x px, .Name y py] kt pt] (.Tuple [a, b] k2 pt2) X.env = pure (some [x, y]))
    (hs : swapsWithSole [.Tuple [.Name x px, .Name y py] kt pt] (.Tuple [a, b] k2 pt2) pos.line X.env = pure false := by rfl) :
    PS X (.Assign [.Tuple [.Name x px, .Name y py] kt pt] (.Tuple [a, b] k2 pt2) pos) (tPar i j ta) := by
  intro pins s σ H D I h
  rw [exec_Assign_arm]
  refine wpAny_bind (wpAny_standAt ?_)
  rw [hs]
  refine wpAny_bind (wpAny_pure ?_)
  rw [if_neg (by decide)]
  refine wpAny_bind (Tuple_ (thn (ha _ pins s σ H _ I h) fun us s1 ⟨vs, H1, I1, r1, q1⟩ => ?_))
  obtain ⟨v, w, e1, q1⟩ := q1
  subst e1
  obtain ⟨u1, u2, rfl, rv, rw'⟩ : ∃ u1 u2, us = [u1, u2] ∧ RelV v u1 ∧ RelV w u2 := by
    cases r1 with
    | cons p q =>
      cases q with
      | cons p' q' =>
        cases q'
        exact ⟨_, _, rfl, p, p'⟩
  refine wpAny_newObj_type ?_ (by show 2 ≤ sizeLine; decide)
  have I2 : Inv X pins σ H1 { s1 with heap := s1.heap.push { cls := .type "tuple", data := .seq [u1, u2].toArray } } := I1.kept (t' := s1.toks) fun b o e => Heap.get?_push_of_some _ e
  rw [hw]
  refine wpAny_bind (wpAny_pure ?_)
  show wpAny (model X.prog X.w) X.A (do rule "assign.swapped-stores"; let items ← unpackItems (.ref s1.heap.objs.size) 2 none; assignInOrder [fun v => bindName X.env y v, fun v => bindName X.env x v] items.reverse; pure Flow.next) _ _ _
  refine wpAny_bind (wpAny_rule (wpAny_bind (unpackItems_tuple (items := #[u1, u2]) (I.ok.hd hc) (IsTup.new s1.heap _) fun h' hx' => ?_)))
  have I3 := I2.kept (h' := h') (t' := s1.toks) fun b o e => hx' b o (Nat.ne_of_lt (Heap.lt_size e)) e
  show wpAny _ _ (assignInOrder [fun v => bindName X.env y v, fun v => bindName X.env x v] [u2, u1] >>= fun _ => pure Flow.next) _ _ _
  refine wpAny_bind (assignInOrder_cons (wpAny_bindName (store_ok I3 hN hj (.inl hy) rw' (fun s2 I4 => ?_) (.inr hy))))
  refine assignInOrder_cons (wpAny_bindName (store_ok I4 hN hi (.inl hx) rv (fun s3 I5 => assignInOrder_nil (wpAny_pure ?_)) (.inr hx)))
  rw [List.set_comm _ _ (Ne.symm hij)] at I5
  exact ⟨_, H1, I5, q1⟩
end
section
variable {X : Cx} {pos : Pos}
def tWhile (c : TT) (tb : TS) : TS := fun D σ H => ∃ W : Nat → St → Hp → Prop, (∃ m, W m σ H) ∧ ∀ m σ H, W m σ H →
  c σ H fun b H1 => if b = true then ∃ N : St → Hp → Prop, (∀ σ' H', N σ' H' → ∃ m', m' < m ∧ W m' σ' H') ∧ tb { D with nx := N, ct := N, bk := D.nx } σ H1 else D.nx σ H1
theorem ps_while {c : Expr} {body : List Stmt} {tc : TT} {tb : TS} (hp : PassesOwn (model X.prog X.w) X.A X.env X.xe) (hc : PT X c tc) (hb : PSs X body tb) : PS X (.While c body [] pos) (tWhile tc tb) := by
  intro pins s σ H D I h
  obtain ⟨W, ⟨m0, w0⟩, turn⟩ := h
  refine wpAny_While (codeAny_whileLoop (fun n s' => ∃ σ' H', Inv X pins σ' H' s' ∧ W n σ' H') ?_ m0 ⟨σ, H, I, w0⟩)
  rintro n s1 ⟨σ1, H1, I1, w1⟩
  refine wpAny_passesOwn hp (thn (hc pins s1 σ1 H1 _ I1 (turn n σ1 H1 w1)) fun b s2 ⟨H2, I2, q2⟩ => ?_)
  cases b with
  | true =>
    obtain ⟨N, hN, q2⟩ := q2
    rw [if_pos rfl]
    refine wpAny_passesOwn hp (thn (hb pins s2 σ1 H2 _ I2 q2) fun f s3 q3 => ?_)
    cases f with
    | next =>
      obtain ⟨σ3, H3, I3, n3⟩ := q3
      obtain ⟨m', hm, w3⟩ := hN σ3 H3 n3
      exact ⟨m', hm, σ3, H3, I3, w3⟩
    | cont =>
      obtain ⟨σ3, H3, I3, n3⟩ := q3
      obtain ⟨m', hm, w3⟩ := hN σ3 H3 n3
      exact ⟨m', hm, σ3, H3, I3, w3⟩
    | brk => exact q3
    | ret v => exact q3
  | false =>
    rw [if_neg Bool.false_ne_true]
    exact wpAny_execs_nil ⟨σ1, H2, I2, q2⟩
end
structure It where
  go : Nat → Hp → Prop
  yld : Nat → Hp → V → Hp → Prop
  stop : Nat → Hp → Prop
def FpOk (X : Cx) (pins : List (Addr × Obj)) (H : Hp) (b : Addr) : Prop :=
  H b = none ∧ b ≠ X.env.locals ∧ b ∉ X.fs ∧ (b ∈ X.ex ∨ X.s₀.heap.objs.size ≤ b) ∧ (∀ x c, X.env.cells.lookup x = some c → c ≠ b) ∧ ∀ p ∈ X.pn ++ pins, p.1 ≠ b
theorem Inv.fpOk {X : Cx} {pins : List (Addr × Obj)} {σ : St} {H H' : Hp} {s : Shared} {b : Addr} (I : Inv X pins σ H s) (hb : s.heap.objs.size ≤ b) (hn : H' b = none) : FpOk X pins H' b := by
  refine ⟨hn, Nat.ne_of_gt (Nat.lt_of_lt_of_le I.lt hb), I.nofs hb, .inr (Nat.le_trans I.sz hb), fun x c e z => ?_, fun p hp z => ?_⟩
  · obtain ⟨v, q⟩ := I.cell x c e
    exact absurd (Nat.lt_of_lt_of_le q.lt (by rw [z]; exact hb)) (Nat.lt_irrefl _)
  · exact absurd (Nat.lt_of_lt_of_le (Heap.lt_size (I.pin p hp).1) (by rw [z]; exact hb)) (Nat.lt_irrefl _)
structure Turn (P : Program) (w : World) (K : PySem.W.Frag) (tg : Expr) (J : It) (fp : List Addr) (it : Addr) (tn : Nat → Heap → Prop) : Prop where
  mem : it ∈ fp
  obj : ∀ i h, tn i h → ∀ b ∈ fp, ∃ o, h.get? b = some o ∧ ∀ v, o.data ≠ .cell v
  keep : ∀ i h h', tn i h → (∀ b ∈ fp, ∀ o, h.get? b = some o → h'.get? b = some o) → tn i h'
  item : ∀ (X : Cx), X.prog = P → X.w = w → X.K = K → X.calm = true → ∀ (i : Nat) (pins : List (Addr × Obj)) (s : Shared) (σ : St) (H : Hp) (E : Value → Shared → Prop), Inv X pins σ H s → (∀ b ∈ fp, FpOk X pins H b) → tn i s.heap → J.go i H →
    wpAny (model P w) X.A (pyNext (.ref it)) (fun r s1 => ∃ u, r = some u ∧
      wpAny (model P w) X.A (letOwnedTupleGo tg (.ref it) u) (fun _ s2 => ∃ x H', Inv X pins σ H' s2 ∧ RelV x u ∧ J.yld i H x H' ∧ tn (i + 1) s2.heap ∧ ∀ b ∈ fp, H' b = none) E s1) E s
  done : ∀ (X : Cx), X.prog = P → X.w = w → X.K = K → X.calm = true → ∀ (i : Nat) (pins : List (Addr × Obj)) (s : Shared) (σ : St) (H : Hp) (E : Value → Shared → Prop), Inv X pins σ H s → (∀ b ∈ fp, FpOk X pins H b) → tn i s.heap → J.stop i H →
    wpAny (model P w) X.A (pyNext (.ref it)) (fun r s1 => r = none ∧ Inv X pins σ H s1) E s
  self : ∀ (A : Around) (i : Nat) (s : Shared) (Q : Value → Shared → Prop) (E : Value → Shared → Prop), tn i s.heap → Q (.ref it) s → wpAny (model P w) A (pyIter (.ref it)) Q E s
abbrev TI := St → Hp → (It → Hp → Prop) → Prop
def PIE (X : Cx) (pins : List (Addr × Obj)) (σ : St) (tg : Expr) (R : It → Hp → Prop) (itv : Value) (s2 : Shared) : Prop :=
  ∃ (it : Addr) (fp : List Addr) (tn : Nat → Heap → Prop) (J : It) (H' : Hp), itv = .ref it ∧ Inv X pins σ H' s2 ∧ Turn X.prog X.w X.K tg J fp it tn ∧ tn 0 s2.heap ∧ (∀ b ∈ fp, FpOk X pins H' b) ∧ R J H'
def PI (X : Cx) (tg iter : Expr) (wi : TI) : Prop :=
  ∀ (pins : List (Addr × Obj)) (s : Shared) (σ : St) (H : Hp) (R : It → Hp → Prop), Inv X pins σ H s → wi σ H R →
    wpAny (model X.prog X.w) X.A (eval iter X.env) (fun v s1 => wpAny (model X.prog X.w) X.A (pyIter v) (PIE X pins σ tg R) X.xe s1) X.xe s
theorem go_of {M : Model} {A : Around} {E : Value → Shared → Prop} {s : Shared} {tg : Expr} {it : Addr} {u : Value} {o : Obj} {n : String} {vs : Array Value} {Q : Unit → Shared → Prop} (ho : s.heap.get? it = some o) (hc : o.cls = .type n) (hd : o.data = .fields vs)
    (hn : ["enumerate", "zip", "dict_itemiterator", "dict_reverseitemiterator", "odict_iterator", "itertools.zip_longest", "itertools.pairwise"].contains n = false) (hQ : Q () s) : wpAny M A (letOwnedTupleGo tg (.ref it) u) Q E s := by
  unfold letOwnedTupleGo
  cases tg <;> first
    | exact wpAny_pure hQ
    | (cases u <;> first
        | exact wpAny_pure hQ
        | (refine wpAny_bind (wpAny_load ho ?_)
           rw [hc, hd]
           show wpAny M A (if (["enumerate", "zip", "dict_itemiterator", "dict_reverseitemiterator", "odict_iterator", "itertools.zip_longest", "itertools.pairwise"].contains n && vs[0]? == some (rawInt _)) = true then _ else _) Q E s
           rw [if_neg (by intro h; rw [hn, Bool.false_and] at h; cases h)]
           exact wpAny_pure hQ))
def Itl (K : PySem.W.Frag) (a : Addr) : It :=
  ⟨fun i H => ∃ xs x, SqL K H a xs ∧ xs[i]? = some x, fun i H x H' => H' = H ∧ ∀ xs, SqL K H a xs → xs[i]? = some x, fun i H => ∃ xs, SqL K H a xs ∧ xs.length ≤ i⟩
def Itt (K : PySem.W.Frag) (a : Addr) : It :=
  ⟨fun i H => ∃ xs x, SqT K H a xs ∧ xs[i]? = some x, fun i H x H' => H' = H ∧ ∀ xs, SqT K H a xs → xs[i]? = some x, fun i H => ∃ xs, SqT K H a xs ∧ xs.length ≤ i⟩
def Itr (lo : Int) (n : Nat) : It := ⟨fun i _ => i < n, fun i H x H' => H' = H ∧ x = .int (lo + i), fun i _ => n ≤ i⟩
theorem turn_list {P : Program} {w : World} {K : PySem.W.Frag} {tg : Expr} (a it : Addr) : Turn P w K tg (Itl K a) [it] it (fun i h => h.IsListIter it a i) where
  mem := by simp
  obj := fun i h st b hb => by
    have e : b = it := by simpa using hb
    subst e
    obtain ⟨o, e, c, d⟩ := st
    exact ⟨o, e, fun v z => by rw [d] at z; cases z⟩
  keep := fun i h h' st k => st.at fun o e => k it (by simp) o e
  item := by
    intro X hP hw hK hc i pins s σ H E I hf st hg
    subst hP hw hK
    obtain ⟨xs, x, hq, hx⟩ := hg
    obtain ⟨its, rv, p, hz⟩ := I.list hq
    obtain ⟨u, hu, ru⟩ := rv.get hx
    obtain ⟨f0, f1, f2, f3, f4, f5⟩ := hf it (by simp)
    refine wpAny_pyNext_list_item st p.isList (x := u) (by simpa using hu) fun h' st' sb => ?_
    have I1 : Inv X pins σ H { s with heap := h' } := I.turned (t' := s.toks) (fun b o hb e => (sb.2 b hb).trans e) f0 f1 f3 f4 f5
    obtain ⟨o, e, c, d⟩ := id st'
    exact ⟨u, rfl, go_of (s := { s with heap := h' }) e c d (by decide) ⟨x, H, I1, ru, ⟨rfl, fun ys hy => by rw [I.list_inj hy hq]; exact hx⟩, st', fun b hb => (hf b hb).1⟩⟩
  done := by
    intro X hP hw hK hc i pins s σ H E I hf st hg
    subst hP hw hK
    obtain ⟨xs, hq, hx⟩ := hg
    obtain ⟨its, rv, p, hz⟩ := I.list hq
    obtain ⟨f0, f1, f2, f3, f4, f5⟩ := hf it (by simp)
    have hl := rv.length
    exact wpAny_pyNext_list_end (I.ok.hd hc) st p.isList (by simp; omega) fun h' eb => ⟨rfl, I.turned (t' := s.toks) (fun b o hb e => eb b o hb e) f0 f1 f3 f4 f5⟩
  self := fun _ _ _ _ _ st h => wpAny_pyIter_listiter st h
theorem turn_tuple {P : Program} {w : World} {K : PySem.W.Frag} {tg : Expr} (a it : Addr) : Turn P w K tg (Itt K a) [it] it (fun i h => h.IsTupleIter it a i) where
  mem := by simp
  obj := fun i h st b hb => by
    have e : b = it := by simpa using hb
    subst e
    obtain ⟨o, e, c, d⟩ := st
    exact ⟨o, e, fun v z => by rw [d] at z; cases z⟩
  keep := fun i h h' st k => st.at fun o e => k it (by simp) o e
  item := by
    intro X hP hw hK hc i pins s σ H E I hf st hg
    subst hP hw hK
    obtain ⟨xs, x, hq, hx⟩ := hg
    obtain ⟨its, rv, p, hz⟩ := I.tuple hq
    obtain ⟨u, hu, ru⟩ := rv.get hx
    obtain ⟨f0, f1, f2, f3, f4, f5⟩ := hf it (by simp)
    refine wpAny_pyNext_tuple_item st (show s.heap.IsTuple a its.toArray from p) (x := u) (by simpa using hu) fun h' st' sb => ?_
    have I1 : Inv X pins σ H { s with heap := h' } := I.turned (t' := s.toks) (fun b o hb e => (sb.2 b hb).trans e) f0 f1 f3 f4 f5
    obtain ⟨o, e, c, d⟩ := id st'
    exact ⟨u, rfl, go_of (s := { s with heap := h' }) e c d (by decide) ⟨x, H, I1, ru, ⟨rfl, fun ys hy => by rw [I.tuple_inj hy hq]; exact hx⟩, st', fun b hb => (hf b hb).1⟩⟩
  done := by
    intro X hP hw hK hc i pins s σ H E I hf st hg
    subst hP hw hK
    obtain ⟨xs, hq, hx⟩ := hg
    obtain ⟨its, rv, p, hz⟩ := I.tuple hq
    obtain ⟨f0, f1, f2, f3, f4, f5⟩ := hf it (by simp)
    have hl := rv.length
    exact wpAny_pyNext_tuple_end (I.ok.hd hc) st (show s.heap.IsTuple a its.toArray from p) (by simp; omega) fun h' eb => ⟨rfl, I.turned (t' := s.toks) (fun b o hb e => eb b o hb e) f0 f1 f3 f4 f5⟩
  self := fun _ _ _ _ _ st h => wpAny_pyIter_tupleiter st h
theorem turn_range {P : Program} {w : World} {K : PySem.W.Frag} {tg : Expr} (it : Addr) (lo : Int) (n : Nat) : Turn P w K tg (Itr lo n) [it] it (fun i h => IsRangeIter h it (lo + (i : Nat) * 1) ((n : Int) - (i : Nat)) 1) where
  mem := by simp
  obj := fun i h st b hb => by
    have e : b = it := by simpa using hb
    subst e
    exact ⟨_, st, fun v z => by
      have z' : Data.fields _ = Data.cell v := z
      cases z'⟩
  keep := fun i h h' st k => k it (by simp) _ st
  item := by
    intro X hP hw hK hc i pins s σ H E I hf st hg
    subst hP hw hK
    obtain ⟨f0, f1, f2, f3, f4, f5⟩ := hf it (by simp)
    have W := Walks.range (prog := X.prog) (w := X.w) (I.ok.hd hc) it lo 1 n
    refine W.item i s _ _ hg st fun v h' tk hv st' kk => ?_
    obtain ⟨t, rfl⟩ := hv
    have I1 : Inv X pins σ H { s with heap := h', toks := tk } := I.turned (fun b o hb e => kk b o (by simpa using hb) e) f0 f1 f3 f4 f5
    refine ⟨_, rfl, go_of (s := { s with heap := h', toks := tk }) (n := "range_iterator") st' rfl rfl (by decide) ⟨.int (lo + i), H, I1, ⟨t, ?_⟩, ⟨rfl, rfl⟩, st', fun b hb => (hf b hb).1⟩⟩
    rw [Int.mul_one]
  done := by
    intro X hP hw hK hc i pins s σ H E I hf st hg
    subst hP hw hK
    obtain ⟨f0, f1, f2, f3, f4, f5⟩ := hf it (by simp)
    exact wpAny_pyNext_range_end (I.ok.hd hc) st (by have : n ≤ i := hg; omega) fun h' eb => ⟨rfl, I.turned (t' := s.toks) (fun b o hb e => eb b o hb e) f0 f1 f3 f4 f5⟩
  self := fun _ _ _ _ _ st h => wpAny_pyIter_rangeiter st h
end L2
namespace L2
open PySem PySem.Spec PyProof.Rows
section
variable {X : Cx} {tg : Expr}
def iList (K : PySem.W.Frag) (tl : TE) : TI := fun σ H R => tl σ H fun x H1 => ∃ a, x = .ref a ∧ (∃ xs, SqL K H1 a xs) ∧ R (Itl K a) H1
def iTup (K : PySem.W.Frag) (tl : TE) : TI := fun σ H R => tl σ H fun x H1 => ∃ a, x = .ref a ∧ (∃ xs, SqT K H1 a xs) ∧ R (Itt K a) H1
theorem pi_list {l : Expr} {tl : TE} (hl : PE X l tl) : PI X tg l (iList X.K tl) := by
  intro pins s σ H R I h
  refine thn (hl pins s σ H _ I h) fun v s1 ⟨x, H1, I1, r1, q1⟩ => ?_
  obtain ⟨a, e, ⟨xs, hq⟩, q⟩ := q1
  subst e
  cases r1
  obtain ⟨its, rv, p, hz⟩ := I1.list hq
  refine wpAny_pyIter_list p.isList ?_
  refine ⟨s1.heap.objs.size, [s1.heap.objs.size], _, _, H1, rfl, I1.kept (t' := s1.toks) fun b o e => Heap.get?_push_of_some _ e, turn_list a _, ⟨_, Heap.get?_push_size _ rfl, rfl, rfl⟩, fun b hb => ?_, q⟩
  have e : b = s1.heap.objs.size := by simpa using hb
  subst e
  exact I1.fpOk (Nat.le_refl _) (I1.hok.fresh (Nat.le_refl _))
theorem pi_tup {l : Expr} {tl : TE} (hl : PE X l tl) : PI X tg l (iTup X.K tl) := by
  intro pins s σ H R I h
  refine thn (hl pins s σ H _ I h) fun v s1 ⟨x, H1, I1, r1, q1⟩ => ?_
  obtain ⟨a, e, ⟨xs, hq⟩, q⟩ := q1
  subst e
  cases r1
  obtain ⟨its, rv, p, hz⟩ := I1.tuple hq
  refine wpAny_pyIter_tuple (show s1.heap.IsTuple a its.toArray from p) ?_
  refine ⟨s1.heap.objs.size, [s1.heap.objs.size], _, _, H1, rfl, I1.kept (t' := s1.toks) fun b o e => Heap.get?_push_of_some _ e, turn_tuple a _, ⟨_, Heap.get?_push_size _ rfl, rfl, rfl⟩, fun b hb => ?_, q⟩
  have e : b = s1.heap.objs.size := by simpa using hb
  subst e
  exact I1.fpOk (Nat.le_refl _) (I1.hok.fresh (Nat.le_refl _))
theorem range_it {pins : List (Addr × Obj)} {σ : St} {H : Hp} {s : Shared} {R : It → Hp → Prop} {E : Value → Shared → Prop} {lo hi : Int} {t u v : Tok} {tk : Nat} (I : Inv X pins σ H s) (h1 : -(2 ^ 62) ≤ lo) (h2 : lo < 2 ^ 62) (h3 : -(2 ^ 62) ≤ hi) (h4 : hi < 2 ^ 62)
    (q : R (Itr lo (hi - lo).toNat) H) : wpAny (model X.prog X.w) X.A (pyIter (.ref s.heap.objs.size)) (PIE X pins σ tg R) E { s with heap := s.heap.push { cls := .type "range", data := .fields #[.int lo t, .int hi u, .int 1 v] }, toks := tk } := by
  refine wpAny_pyIter_range (IsRange.new ..) (small_one h1 h2 h3 h4) ?_
  have I1 : Inv X pins σ H { s with heap := s.heap.push { cls := .type "range", data := .fields #[.int lo t, .int hi u, .int 1 v] }, toks := tk } := I.kept fun b o e => Heap.get?_push_of_some _ e
  refine ⟨(s.heap.push { cls := .type "range", data := .fields #[.int lo t, .int hi u, .int 1 v] }).objs.size, [(s.heap.push { cls := .type "range", data := .fields #[.int lo t, .int hi u, .int 1 v] }).objs.size], _, _, H, rfl,
    I1.kept (t' := tk) fun b o e => Heap.get?_push_of_some _ e, turn_range _ lo (hi - lo).toNat, ?_, fun b hb => ?_, q⟩
  · have e1 : lo + ((0 : Nat) : Int) * 1 = lo := by simp
    have e2 : (((hi - lo).toNat : Nat) : Int) - ((0 : Nat) : Int) = Builtin.Range.rangeSize lo hi 1 := by rw [rangeSize_one]; split <;> omega
    show IsRangeIter _ _ (lo + ((0 : Nat) : Int) * 1) ((((hi - lo).toNat : Nat) : Int) - ((0 : Nat) : Int)) 1
    rw [e1, e2]
    exact Heap.get?_push_size _ rfl
  · have e : b = (s.heap.push { cls := .type "range", data := .fields #[.int lo t, .int hi u, .int 1 v] }).objs.size := by simpa using hb
    subst e
    exact I1.fpOk (Nat.le_refl _) (I1.hok.fresh (Nat.le_refl _))
def iRng1 (ta : TA) : TI := fun σ H R => ta σ H fun vs H1 => ∃ j : Int, vs = [.int j] ∧ -(2 ^ 62) ≤ j ∧ j < 2 ^ 62 ∧ R (Itr 0 j.toNat) H1
theorem pi_range1 {a : Expr} {ta : TA} {p pos : Pos} (hg : Gl X "range") (hm : X.mg "range" = none) (ha : PA X [a] ta) (hs : starEach [a] X.env = [(false, eval a X.env)] := by rfl) : PI X tg (.Call (.Name "range" p) [a] [] pos) (iRng1 ta) := by
  intro pins s σ H R I h
  refine Call_ (ld_blt I hg hm boot_range (PyProof.Rows.callWith_type1 (thn (ha pos pins s σ H _ I h) fun us s1 ⟨vs, H1, I1, r1, q1⟩ => ?_) hs rfl))
  obtain ⟨j, e, q1, q2, q⟩ := q1
  subst e
  cases r1 with
  | cons r rr =>
    cases rr
    obtain ⟨t, rfl⟩ := r
    exact call_range_1 (range_it I1 (by omega) (by omega) q1 q2 (by simpa using q))
def tFor (wi : TI) (g : TG) (tb : TS) : TS := fun D σ H => wi σ H fun J H1 => ∃ W : Nat → Nat → St → Hp → Prop, (∃ m, W 0 m σ H1) ∧ ∀ i m σ H, W i m σ H →
  (J.stop i H ∧ D.nx σ H) ∨ (J.go i H ∧ ∃ N : St → Hp → Prop, (∀ σ' H', N σ' H' → ∃ m', m' < m ∧ W (i + 1) m' σ' H') ∧ ∀ x H', J.yld i H x H' → g x σ H' fun σ2 H2 => tb { D with nx := N, ct := N, bk := D.nx } σ2 H2)
def pinsAt (fp : List Addr) (h : Heap) : List (Addr × Obj) := fp.filterMap fun b => (h.get? b).map fun o => (b, o)
theorem mem_pinsAt {fp : List Addr} {h : Heap} {b : Addr} {o : Obj} (hb : b ∈ fp) (e : h.get? b = some o) : (b, o) ∈ pinsAt fp h := List.mem_filterMap.mpr ⟨b, hb, by rw [e]; rfl⟩
theorem of_pinsAt {fp : List Addr} {h : Heap} {p : Addr × Obj} (hp : p ∈ pinsAt fp h) : p.1 ∈ fp ∧ h.get? p.1 = some p.2 := by
  obtain ⟨b, hb, e⟩ := List.mem_filterMap.mp hp
  cases q : h.get? b with
  | none => rw [q] at e; cases e
  | some o =>
    rw [q] at e
    have e' : (b, o) = p := Option.some.inj e
    subst e'
    exact ⟨hb, q⟩
theorem Inv.pinned {pins : List (Addr × Obj)} {σ : St} {H : Hp} {s : Shared} {fp : List Addr} (I : Inv X pins σ H s) (hf : ∀ b ∈ fp, FpOk X pins H b) (ho : ∀ b ∈ fp, ∃ o, s.heap.get? b = some o ∧ ∀ v, o.data ≠ .cell v) : Inv X (pins ++ pinsAt fp s.heap) σ H s :=
  I.pins_of fun p hp => (List.mem_append.mp hp).elim (fun z => I.pin p (List.mem_append_right _ z)) fun z => by
    obtain ⟨hb, e⟩ := of_pinsAt z
    obtain ⟨f0, f1, f2, _⟩ := hf p.1 hb
    obtain ⟨o, e', d⟩ := ho p.1 hb
    rw [e] at e'; cases e'
    exact ⟨e, f0, f1, f2, d⟩
theorem Inv.unpinned {pins pl : List (Addr × Obj)} {σ : St} {H : Hp} {s : Shared} (I : Inv X (pins ++ pl) σ H s) : Inv X pins σ H s := I.pins_of fun p hp => I.pin p (List.mem_append_right _ (List.mem_append_left _ hp))
theorem ps_for {iter : Expr} {body : List Stmt} {wi : TI} {g : TG} {tb : TS} {pos : Pos} (hp : PassesOwn (model X.prog X.w) X.A X.env X.xe) (hc : X.calm = true) (hi : PI X tg iter wi) (hg : PG X tg g) (hb : PSs X body tb)
    (hs : ∀ x, foldedSetIterable iter X.env x = pure x := by intro _; rfl) : PS X (.For tg iter body [] pos) (tFor wi g tb) := by
  intro pins s σ H D I h
  refine wpAny_For (thn (hi pins s σ H _ I h) fun v s1 h1 => thn h1 fun itv s2 h2 => ?_) hs
  obtain ⟨it, fp, tn, J, H2, e, I2, T, st2, f2, W, ⟨m0, w0⟩, turn⟩ := h2
  subst e
  have stat : ∀ {H' : Hp}, (∀ b ∈ fp, H' b = none) → ∀ b ∈ fp, FpOk X pins H' b := fun hn b hb => ⟨hn b hb, (f2 b hb).2⟩
  refine codeAny_forLoop_any (fun n s' => ∃ i σ' H', Inv X pins σ' H' s' ∧ tn i s'.heap ∧ (∀ b ∈ fp, H' b = none) ∧ W i n σ' H') ?_ m0 ⟨0, σ, H2, I2, st2, fun b hb => (f2 b hb).1, w0⟩
  rintro n s3 ⟨i, σ3, H3, I3, st3, fr3, w3⟩
  rcases turn i n σ3 H3 w3 with ⟨stop, qn⟩ | ⟨go, N, hN, step⟩
  · refine wpAny_passesOwn hp (thn (T.done X rfl rfl rfl hc i pins s3 σ3 H3 X.xe I3 (stat fr3) st3 stop) fun r s4 ⟨hr, I4⟩ => ?_)
    subst hr
    exact wpAny_execs_nil ⟨σ3, H3, I4, qn⟩
  · refine wpAny_passesOwn hp (thn (T.item X rfl rfl rfl hc i pins s3 σ3 H3 X.xe I3 (stat fr3) st3 go) fun r s4 ⟨u, hr, h4⟩ => ?_)
    subst hr
    refine wpAny_passesOwn hp (thn h4 fun _ s5 ⟨x, H5, I5, r5, y5, st5, fr5⟩ => ?_)
    have I5' := I5.pinned (stat fr5) (T.obj _ _ st5)
    refine wpAny_passesOwn hp (thn (hg _ s5 σ3 H5 x u _ I5' r5 (step x H5 y5)) fun _ s6 ⟨σ6, H6, I6, q6⟩ => ?_)
    refine wpAny_passesOwn hp (thn (hb _ s6 σ6 H6 _ I6 q6) fun f s7 q7 => ?_)
    have again : ∀ {σ7 : St} {H7 : Hp}, Inv X (pins ++ pinsAt fp s5.heap) σ7 H7 s7 → N σ7 H7 → ∃ m, m < n ∧ ∃ i σ' H', Inv X pins σ' H' s7 ∧ tn i s7.heap ∧ (∀ b ∈ fp, H' b = none) ∧ W i m σ' H' := fun {σ7 H7} I7 n7 => by
      obtain ⟨m', hm, w7⟩ := hN σ7 H7 n7
      refine ⟨m', hm, i + 1, σ7, H7, I7.unpinned, T.keep _ _ _ st5 fun b hb o e => (I7.pin (b, o) (List.mem_append_right _ (List.mem_append_right _ (mem_pinsAt hb e)))).1, fun b hb => ?_, w7⟩
      obtain ⟨o, e, d⟩ := T.obj _ _ st5 b hb
      exact (I7.pin (b, o) (List.mem_append_right _ (List.mem_append_right _ (mem_pinsAt hb e)))).2.1
    cases f with
    | next => obtain ⟨σ7, H7, I7, n7⟩ := q7; exact again I7 n7
    | cont => obtain ⟨σ7, H7, I7, n7⟩ := q7; exact again I7 n7
    | brk => obtain ⟨σ7, H7, I7, q7⟩ := q7; exact ⟨σ7, H7, I7.unpinned, q7⟩
    | ret v => obtain ⟨x7, σ7, H7, I7, r7, q7⟩ := q7; exact ⟨x7, σ7, H7, I7.unpinned, r7, q7⟩
end
theorem for_list {K : PySem.W.Frag} {a : Addr} {xs : List V} {g : TG} {tb : TS} {D : Ends} {σ : St} {H : Hp} (Pv : Nat → St → Hp → Prop) (h0 : Pv 0 σ H) (hl : ∀ i σ H, i ≤ xs.length → Pv i σ H → SqL K H a xs)
    (hs : ∀ i x σ H, xs[i]? = some x → Pv i σ H → g x σ H fun σ2 H2 => tb { D with nx := Pv (i + 1), ct := Pv (i + 1), bk := D.nx } σ2 H2) (hd : ∀ σ H, Pv xs.length σ H → D.nx σ H) :
    ∃ W : Nat → Nat → St → Hp → Prop, (∃ m, W 0 m σ H) ∧ ∀ i m σ H, W i m σ H →
      ((Itl K a).stop i H ∧ D.nx σ H) ∨ ((Itl K a).go i H ∧ ∃ N : St → Hp → Prop, (∀ σ' H', N σ' H' → ∃ m', m' < m ∧ W (i + 1) m' σ' H') ∧ ∀ x H', (Itl K a).yld i H x H' → g x σ H' fun σ2 H2 => tb { D with nx := N, ct := N, bk := D.nx } σ2 H2) := by
  refine ⟨fun i m σ H => m = xs.length - i ∧ i ≤ xs.length ∧ Pv i σ H, ⟨xs.length, by simp, Nat.zero_le _, h0⟩, ?_⟩
  rintro i m σ H ⟨rfl, hi, p⟩
  have q := hl i σ H hi p
  by_cases hlt : i < xs.length
  · refine .inr ⟨⟨xs, xs[i], q, by simp [hlt]⟩, Pv (i + 1), fun σ' H' p' => ⟨xs.length - (i + 1), by omega, rfl, hlt, p'⟩, fun x H' y => ?_⟩
    obtain ⟨e, y⟩ := y
    subst e
    exact hs i x σ _ (y xs q) p
  · have e : i = xs.length := by omega
    subst e
    exact .inl ⟨⟨xs, q, Nat.le_refl _⟩, hd σ H p⟩
theorem for_range {lo : Int} {n : Nat} {g : TG} {tb : TS} {D : Ends} {σ : St} {H : Hp} (Pv : Nat → St → Hp → Prop) (h0 : Pv 0 σ H)
    (hs : ∀ i σ H, i < n → Pv i σ H → g (.int (lo + i)) σ H fun σ2 H2 => tb { D with nx := Pv (i + 1), ct := Pv (i + 1), bk := D.nx } σ2 H2) (hd : ∀ σ H, Pv n σ H → D.nx σ H) :
    ∃ W : Nat → Nat → St → Hp → Prop, (∃ m, W 0 m σ H) ∧ ∀ i m σ H, W i m σ H →
      ((Itr lo n).stop i H ∧ D.nx σ H) ∨ ((Itr lo n).go i H ∧ ∃ N : St → Hp → Prop, (∀ σ' H', N σ' H' → ∃ m', m' < m ∧ W (i + 1) m' σ' H') ∧ ∀ x H', (Itr lo n).yld i H x H' → g x σ H' fun σ2 H2 => tb { D with nx := N, ct := N, bk := D.nx } σ2 H2) := by
  refine ⟨fun i m σ H => m = n - i ∧ i ≤ n ∧ Pv i σ H, ⟨n, by simp, Nat.zero_le _, h0⟩, ?_⟩
  rintro i m σ H ⟨rfl, hi, p⟩
  by_cases hlt : i < n
  · refine .inr ⟨hlt, Pv (i + 1), fun σ' H' p' => ⟨n - (i + 1), by omega, rfl, hlt, p'⟩, fun x H' y => ?_⟩
    obtain ⟨e, y⟩ := y
    subst e y
    exact hs i σ _ hlt p
  · have e : i = n := by omega
    subst e
    exact .inl ⟨Nat.le_refl _, hd σ H p⟩
theorem while_by {c : TT} {tb : TS} {D : Ends} {σ : St} {H : Hp} (Pv : St → Hp → Prop) (μ : St → Hp → Nat) (h0 : Pv σ H)
    (hs : ∀ σ H, Pv σ H → c σ H fun b H1 => if b = true then tb { D with nx := fun σ' H' => Pv σ' H' ∧ μ σ' H' < μ σ H, ct := fun σ' H' => Pv σ' H' ∧ μ σ' H' < μ σ H, bk := D.nx } σ H1 else D.nx σ H1)
    (mono : ∀ σ H Q Q', (∀ b H1, Q b H1 → Q' b H1) → c σ H Q → c σ H Q') : tWhile c tb D σ H := by
  refine ⟨fun m σ H => m = μ σ H ∧ Pv σ H, ⟨_, rfl, h0⟩, ?_⟩
  rintro m σ H ⟨rfl, p⟩
  refine mono σ H _ _ (fun b H1 q => ?_) (hs σ H p)
  cases b with
  | true => exact ⟨_, fun σ' H' ⟨p', l⟩ => ⟨_, l, rfl, p'⟩, q⟩
  | false => exact q
end L2
namespace L2
open PySem PySem.Spec PyProof.Rows
abbrev R2 := V → V → Hp → VK → Prop
def OpR (X : Cx) (f : Value → Value → Sem Value) (r : R2) : Prop :=
  ∀ (pins : List (Addr × Obj)) (s : Shared) (σ : St) (H : Hp) (x y : V) (v u : Value) (Q : VK), Inv X pins σ H s → RelV x v → RelV y u → r x y H Q →
    wpAny (model X.prog X.w) X.A (f v u) (EP X pins σ Q) X.xe s
def UnR (X : Cx) (f : Value → Sem Value) (r : V → Hp → VK → Prop) : Prop :=
  ∀ (pins : List (Addr × Obj)) (s : Shared) (σ : St) (H : Hp) (x : V) (v : Value) (Q : VK), Inv X pins σ H s → RelV x v → r x H Q →
    wpAny (model X.prog X.w) X.A (f v) (EP X pins σ Q) X.xe s
def CallR (X : Cx) (f : Value) (r : List V → Hp → VK → Prop) : Prop :=
  ∀ (pins : List (Addr × Obj)) (s : Shared) (σ : St) (H : Hp) (xs : List V) (us : List Value) (Q : VK), Inv X pins σ H s → Vals xs us → r xs H Q →
    wpAny (model X.prog X.w) X.A (call f us) (EP X pins σ Q) X.xe s
def tOp (r : R2) (ta tb : TE) : TE := fun σ H Q => ta σ H fun x H1 => tb σ H1 fun y H2 => r x y H2 Q
def tUn (r : V → Hp → VK → Prop) (ta : TE) : TE := fun σ H Q => ta σ H fun x H1 => r x H1 Q
def rI (C : Int → Int → Prop) (g : Int → Int → V) : R2 := fun x y H Q => ∃ i j, x = .int i ∧ y = .int j ∧ C i j ∧ Q (g i j) H
def rI0 (g : Int → Int → V) : R2 := fun x y H Q => ∃ i j, x = .int i ∧ y = .int j ∧ Q (g i j) H
def rU (g : Int → V) : V → Hp → VK → Prop := fun x H Q => ∃ i, x = .int i ∧ Q (g i) H
section
variable {X : Cx} {a b c : Expr} {ta tb tc : TE} {pos : Pos}
theorem binT (ha : PE X a ta) (hb : PE X b tb) {pins : List (Addr × Obj)} {s : Shared} {σ : St} {H : Hp} {R : V → V → Hp → Prop} (I : Inv X pins σ H s)
    (h : ta σ H fun x H1 => tb σ H1 fun y H2 => R x y H2) {Q : Value → Shared → Prop} {f : Value → Value → Sem Value}
    (hf : ∀ v u s2 x y H2, Inv X pins σ H2 s2 → RelV x v → RelV y u → R x y H2 → wpAny (model X.prog X.w) X.A (f v u) Q X.xe s2) :
    wpAny (model X.prog X.w) X.A (eval a X.env) (fun v s₁ => wpAny (model X.prog X.w) X.A (eval b X.env) (fun u s₂ => wpAny (model X.prog X.w) X.A (f v u) Q X.xe s₂) X.xe s₁) X.xe s := by
  refine thn (ha pins s σ H _ I h) fun v s1 ⟨x, H1, I1, r1, q1⟩ => ?_
  refine thn (hb pins s1 σ H1 _ I1 q1) fun u s2 ⟨y, H2, I2, r2, q2⟩ => ?_
  exact hf v u s2 x y H2 I2 r1 r2 q2
theorem pe_op {op : Operator} {r : R2} (ho : OpR X (binaryOp op) r) (ha : PE X a ta) (hb : PE X b tb) : PE X (.BinOp a op b pos) (tOp r ta tb) := by
  intro pins s σ H Q I h
  exact wpAny_BinOp (binT ha hb I h fun v u s2 x y H2 I2 rx ry q => ho pins s2 σ H2 x y v u Q I2 rx ry q)
theorem pe_un {op : UnaryOp} {r : V → Hp → VK → Prop} (ho : UnR X (unaryOp op) r) (ha : PE X a ta) : PE X (.UnaryOp op a pos) (tUn r ta) := by
  intro pins s σ H Q I h
  exact UnaryOp_ (thn (ha pins s σ H _ I h) fun v s1 ⟨x, H1, I1, r1, q1⟩ => ho pins s1 σ H1 x v Q I1 r1 q1)
theorem opI {f : Value → Value → Sem Value} {C : Int → Int → Prop} {g : Int → Int → Int}
    (rule : ∀ (i j : Int) (t u : Tok) (s : Shared) (Q : Value → Shared → Prop) (E : Value → Shared → Prop), C i j → Q (.int (g i j) s.toks) { s with toks := s.toks + 1 } → wpAny (model X.prog X.w) X.A (f (.int i t) (.int j u)) Q E s) :
    OpR X f (rI C fun i j => .int (g i j)) := by
  intro pins s σ H x y v u Q I rx ry h
  obtain ⟨i, j, rfl, rfl, hc, q⟩ := h
  obtain ⟨t, rfl⟩ := rx
  obtain ⟨t', rfl⟩ := ry
  exact rule i j t t' s _ _ hc ⟨.int (g i j), H, I.tok _, ⟨_, rfl⟩, q⟩
theorem opI0 {f : Value → Value → Sem Value} {g : Int → Int → Int}
    (rule : ∀ (i j : Int) (t u : Tok) (s : Shared) (Q : Value → Shared → Prop) (E : Value → Shared → Prop), Q (.int (g i j) s.toks) { s with toks := s.toks + 1 } → wpAny (model X.prog X.w) X.A (f (.int i t) (.int j u)) Q E s) :
    OpR X f (rI0 fun i j => .int (g i j)) := by
  intro pins s σ H x y v u Q I rx ry h
  obtain ⟨i, j, rfl, rfl, q⟩ := h
  obtain ⟨t, rfl⟩ := rx
  obtain ⟨t', rfl⟩ := ry
  exact rule i j t t' s _ _ ⟨.int (g i j), H, I.tok _, ⟨_, rfl⟩, q⟩
theorem opB0 {f : Value → Value → Sem Value} {g : Int → Int → Bool}
    (rule : ∀ (i j : Int) (t u : Tok) (s : Shared) (Q : Value → Shared → Prop) (E : Value → Shared → Prop), Q (.bool (g i j)) s → wpAny (model X.prog X.w) X.A (f (.int i t) (.int j u)) Q E s) :
    OpR X f (rI0 fun i j => .bl (g i j)) := by
  intro pins s σ H x y v u Q I rx ry h
  obtain ⟨i, j, rfl, rfl, q⟩ := h
  obtain ⟨t, rfl⟩ := rx
  obtain ⟨t', rfl⟩ := ry
  exact rule i j t t' s _ _ ⟨.bl (g i j), H, I, rfl, q⟩
def CDiv (i j : Int) : Prop := 0 < j ∧ j < 1073741824
def CPow (i j : Int) : Prop := 0 ≤ j ∧ j ≤ 1000000 ∧ i.natAbs < 2 ^ 64
def CMul (i j : Int) : Prop := (-(2 ^ 64) < i ∧ i < 2 ^ 64) ∨ (-(2 ^ 64) < j ∧ j < 2 ^ 64)
theorem CMul.ok {i j : Int} (h : CMul i j) : IntMulOk i j := by
  rcases h with ⟨h1, h2⟩ | ⟨h1, h2⟩
  · exact .of_left (intBits_le_64 h1 h2)
  · exact .of_right (intBits_le_64 h1 h2)
theorem two_pow_nn (k : Nat) : (0 : Int) ≤ 2 ^ k := by
  rw [two_pow_cast]
  exact Int.natCast_nonneg _
theorem op_add : OpR X (binaryOp .Add) (rI0 fun i j => .int (i + j)) := opI0 fun _ _ _ _ _ _ _ q => add_int q
theorem op_sub : OpR X (binaryOp .Sub) (rI0 fun i j => .int (i - j)) := opI0 fun _ _ _ _ _ _ _ q => sub_int q
theorem op_mul : OpR X (binaryOp .Mult) (rI CMul fun i j => .int (i * j)) := opI fun _ _ _ _ _ _ _ hc q => mul_int q hc.ok
theorem op_fdiv : OpR X (binaryOp .FloorDiv) (rI CDiv fun i j => .int (i / j)) := opI fun i j _ _ _ _ _ hc q => by
  have h1 : (0 : Int) < j := hc.1
  have h2 : j < 1073741824 := hc.2
  exact floordiv_int (by omega) (by rw [Int.fdiv_eq_ediv_of_nonneg i (by omega)]; exact q) (.inl (PyProof.noPylong_small (by omega)))
theorem op_mod : OpR X (binaryOp .Mod) (rI (fun _ j => 0 < j) fun i j => .int (i % j)) := opI fun i j _ _ _ _ _ hc q => by
  have h1 : (0 : Int) < j := hc
  exact mod_int' (by omega) (by rw [Int.fmod_eq_emod_of_nonneg i (by omega)]; exact q)
theorem op_pow : OpR X (binaryOp .Pow) (rI CPow fun i j => .int (i ^ j.toNat)) := opI fun _ _ _ _ _ _ _ hc q => pow_int_small hc.1 hc.2.1 hc.2.2 q
theorem op_shl : OpR X (binaryOp .LShift) (rI CPow fun i j => .int (i * 2 ^ j.toNat)) := opI fun _ _ _ _ _ _ _ hc q => lshift_int_small hc.1 hc.2.1 hc.2.2 q
theorem op_shr : OpR X (binaryOp .RShift) (rI (fun _ j => 0 ≤ j) fun i j => .int (i / 2 ^ j.toNat)) := opI fun i j _ _ _ _ _ hc q =>
  rshift_int hc (by rw [Int.fdiv_eq_ediv_of_nonneg i (two_pow_nn _)]; exact q)
theorem op_and : OpR X (binaryOp .BitAnd) (rI0 fun i j => .int (Builtin.bitAnd i j)) := opI0 fun _ _ _ _ _ _ _ q => and_int q
theorem unI {f : Value → Sem Value} {g : Int → Int}
    (rule : ∀ (i : Int) (t : Tok) (s : Shared) (Q : Value → Shared → Prop) (E : Value → Shared → Prop), Q (.int (g i) s.toks) { s with toks := s.toks + 1 } → wpAny (model X.prog X.w) X.A (f (.int i t)) Q E s) :
    UnR X f (rU fun i => .int (g i)) := by
  intro pins s σ H x v Q I rx h
  obtain ⟨i, rfl, q⟩ := h
  obtain ⟨t, rfl⟩ := rx
  exact rule i t s _ _ ⟨.int (g i), H, I.tok _, ⟨_, rfl⟩, q⟩
theorem un_neg : UnR X (unaryOp .USub) (rU fun i => .int (-i)) := unI fun _ _ _ _ _ q => neg_int q
end
def scal : V → V → Bool
  | .non, .non => true | .non, .int _ => true | .int _, .non => true | .non, .bl _ => true | .bl _, .non => true | .non, .str _ => true | .str _, .non => true
  | .int _, .int _ => true | .bl _, .bl _ => true | .str _, .str _ => true | .byt _, .byt _ => true
  | .int _, .str _ => true | .str _, .int _ => true | .bl _, .str _ => true | .str _, .bl _ => true
  | _, _ => false
def rEq : R2 := fun x y H Q => scal x y = true ∧ Q (.bl (decide (x = y))) H
def rNe : R2 := fun x y H Q => scal x y = true ∧ Q (.bl (!decide (x = y))) H
theorem dec_int {i j : Int} : decide (V.int i = V.int j) = (i == j) := by
  rw [Bool.eq_iff_iff]
  simp
theorem dec_bl {i j : Bool} : decide (V.bl i = V.bl j) = (i == j) := by
  rw [Bool.eq_iff_iff]
  simp
theorem dec_str {i j : Str} : decide (V.str i = V.str j) = (i == j) := by
  rw [Bool.eq_iff_iff]
  simp
theorem dec_byt {i j : Array UInt8} : decide (V.byt i = V.byt j) = (i.toList == j.toList) := by
  rw [Bool.eq_iff_iff]
  cases i
  cases j
  simp
section
variable {X : Cx} {a b c : Expr} {ta tb tc : TE} {pos : Pos}
theorem fin_bl {pins : List (Addr × Obj)} {σ : St} {H : Hp} {s : Shared} {Q : VK} {k k' : Bool} (I : Inv X pins σ H s) (q : Q (.bl k) H) (e : k = k') : EP X pins σ Q (.bool k') s := by
  subst e
  exact ⟨.bl k, H, I, rfl, q⟩
theorem op_eq : OpR X (compareOp .Eq) rEq := by
  intro pins s σ H x y v u Q I rx ry h
  obtain ⟨hs, q⟩ := h
  cases x with
  | non =>
    cases rx
    cases y with
    | non => cases ry; exact PySem.EqNone.eq_none_none (fin_bl I q (by simp))
    | bl j => cases ry; exact PySem.EqNone.eq_none_bool (fin_bl I q (by simp))
    | int j => obtain ⟨t', rfl⟩ := ry; exact PySem.EqNone.eq_none_int (fin_bl I q (by simp))
    | str j => obtain ⟨t', rfl⟩ := ry; exact PySem.EqNone.eq_none_str (fin_bl I q (by simp))
    | _ => exact absurd (show false = true from hs) Bool.false_ne_true
  | bl i =>
    cases rx
    cases y with
    | non => cases ry; exact PySem.EqNone.eq_bool_none (fin_bl I q (by simp))
    | bl j => cases ry; exact eq_bool (fin_bl I q dec_bl)
    | str j => obtain ⟨t', rfl⟩ := ry; exact PySem.EqMixed.eq_bool_str (fin_bl I q (by simp))
    | _ => exact absurd (show false = true from hs) Bool.false_ne_true
  | int i =>
    obtain ⟨t, rfl⟩ := rx
    cases y with
    | non => cases ry; exact PySem.EqNone.eq_int_none (fin_bl I q (by simp))
    | int j => obtain ⟨t', rfl⟩ := ry; exact eq_int (fin_bl I q dec_int)
    | str j => obtain ⟨t', rfl⟩ := ry; exact PySem.EqMixed.eq_int_str (fin_bl I q (by simp))
    | _ => exact absurd (show false = true from hs) Bool.false_ne_true
  | str i =>
    obtain ⟨t, rfl⟩ := rx
    cases y with
    | non => cases ry; exact PySem.EqNone.eq_str_none (fin_bl I q (by simp))
    | bl j => cases ry; exact PySem.EqMixed.eq_str_bool (fin_bl I q (by simp))
    | int j => obtain ⟨t', rfl⟩ := ry; exact PySem.EqMixed.eq_str_int (fin_bl I q (by simp))
    | str j => obtain ⟨t', rfl⟩ := ry; exact eq_str (fin_bl I q dec_str)
    | _ => exact absurd (show false = true from hs) Bool.false_ne_true
  | byt i =>
    obtain ⟨t, rfl⟩ := rx
    cases y with
    | byt j => obtain ⟨t', rfl⟩ := ry; exact PySem.W.eq_bytes (fin_bl I q dec_byt)
    | _ => exact absurd (show false = true from hs) Bool.false_ne_true
  | _ => cases y <;> exact absurd (show false = true from hs) Bool.false_ne_true
theorem op_ne : OpR X (compareOp .NotEq) rNe := by
  intro pins s σ H x y v u Q I rx ry h
  obtain ⟨hs, q⟩ := h
  cases x with
  | non =>
    cases rx
    cases y with
    | non => cases ry; exact PySem.EqNone.ne_none_none (fin_bl I q (by simp))
    | bl j => cases ry; exact PySem.EqNone.ne_none_bool (fin_bl I q (by simp))
    | int j => obtain ⟨t', rfl⟩ := ry; exact PySem.EqNone.ne_none_int (fin_bl I q (by simp))
    | str j => obtain ⟨t', rfl⟩ := ry; exact PySem.EqNone.ne_none_str (fin_bl I q (by simp))
    | _ => exact absurd (show false = true from hs) Bool.false_ne_true
  | bl i =>
    cases rx
    cases y with
    | non => cases ry; exact PySem.EqNone.ne_bool_none (fin_bl I q (by simp))
    | bl j => cases ry; exact ne_bool (fin_bl I q (congrArg not dec_bl))
    | str j => obtain ⟨t', rfl⟩ := ry; exact PySem.EqMixed.ne_bool_str (fin_bl I q (by simp))
    | _ => exact absurd (show false = true from hs) Bool.false_ne_true
  | int i =>
    obtain ⟨t, rfl⟩ := rx
    cases y with
    | non => cases ry; exact PySem.EqNone.ne_int_none (fin_bl I q (by simp))
    | int j => obtain ⟨t', rfl⟩ := ry; exact ne_int (fin_bl I q (congrArg not dec_int))
    | str j => obtain ⟨t', rfl⟩ := ry; exact PySem.EqMixed.ne_int_str (fin_bl I q (by simp))
    | _ => exact absurd (show false = true from hs) Bool.false_ne_true
  | str i =>
    obtain ⟨t, rfl⟩ := rx
    cases y with
    | non => cases ry; exact PySem.EqNone.ne_str_none (fin_bl I q (by simp))
    | bl j => cases ry; exact PySem.EqMixed.ne_str_bool (fin_bl I q (by simp))
    | int j => obtain ⟨t', rfl⟩ := ry; exact PySem.EqMixed.ne_str_int (fin_bl I q (by simp))
    | str j => obtain ⟨t', rfl⟩ := ry; exact ne_str (fin_bl I q (congrArg not dec_str))
    | _ => exact absurd (show false = true from hs) Bool.false_ne_true
  | byt i =>
    obtain ⟨t, rfl⟩ := rx
    cases y with
    | byt j => obtain ⟨t', rfl⟩ := ry; exact PySem.W.ne_bytes (fin_bl I q (congrArg not dec_byt))
    | _ => exact absurd (show false = true from hs) Bool.false_ne_true
  | _ => cases y <;> exact absurd (show false = true from hs) Bool.false_ne_true
theorem op_lt : OpR X (compareOp .Lt) (rI0 fun i j => .bl (decide (i < j))) := opB0 fun _ _ _ _ _ _ _ q => lt_int q
theorem op_le : OpR X (compareOp .LtE) (rI0 fun i j => .bl (decide (i ≤ j))) := opB0 fun _ _ _ _ _ _ _ q => le_int q
theorem op_gt : OpR X (compareOp .Gt) (rI0 fun i j => .bl (decide (j < i))) := opB0 fun _ _ _ _ _ _ _ q => gt_int q
theorem op_ge : OpR X (compareOp .GtE) (rI0 fun i j => .bl (decide (j ≤ i))) := opB0 fun _ _ _ _ _ _ _ q => ge_int q
theorem nomark (b : Expr) {op : CmpOp} (h : op ≠ .In := by decide) (h2 : op ≠ .NotIn := by decide) : behindInMarks op b = false := by
  have e1 : (op == CmpOp.In) = false := by cases op <;> first | rfl | exact absurd rfl h
  have e2 : (op == CmpOp.NotIn) = false := by cases op <;> first | rfl | exact absurd rfl h2
  cases b <;> simp [behindInMarks, e1, e2]
theorem pe_cmpR {op : CmpOp} {r : R2} (ho : OpR X (compareOp op) r) (ha : PE X a ta) (hb : PE X b tb) (hm : behindInMarks op b = false) : PE X (.Compare a [op] [b] pos) (tOp r ta tb) := by
  intro pins s σ H Q I h
  exact wpAny_Compare1 (binT ha hb I h fun v u s2 x y H2 I2 rx ry q => ho pins s2 σ H2 x y v u Q I2 rx ry q) hm
def tTest (t : TE) : TT := fun σ H Q => t σ H fun x H' => ∃ k, x = .bl k ∧ Q k H'
theorem pt_cmpR {op : CmpOp} {r : R2} (ho : OpR X (compareOp op) r) (ha : PE X a ta) (hb : PE X b tb) (hm : behindInMarks op b = false) : PT X (.Compare a [op] [b] pos) (tTest (tOp r ta tb)) := by
  intro pins s σ H Q I h
  refine wpAny_isTrue_Compare1 (thn (ha pins s σ H _ I h) fun v s1 ⟨x, H1, I1, r1, q1⟩ => thn (hb pins s1 σ H1 _ I1 q1) fun u s2 ⟨y, H2, I2, r2, q2⟩ =>
    thn (ho pins s2 σ H2 x y v u _ I2 r1 r2 q2) fun c s3 ⟨z, H3, I3, r3, k, e, q3⟩ => ?_) hm
  subst e
  cases r3
  exact wpAny_truthy_bool ⟨H3, I3, q3⟩
theorem line63 : (sizeLine : Nat) < 2 ^ 63 := by rw [sizeLine_eq]; decide
theorem vals1 {x : V} {us : List Value} (r : Vals [x] us) : ∃ u, us = [u] ∧ RelV x u := by
  cases r with
  | cons r1 r2 => cases r2; exact ⟨_, rfl, r1⟩
theorem vals2 {x y : V} {us : List Value} (r : Vals [x, y] us) : ∃ u w', us = [u, w'] ∧ RelV x u ∧ RelV y w' := by
  cases r with
  | cons r1 r2 =>
    cases r2 with
    | cons r3 r4 => cases r4; exact ⟨_, _, rfl, r1, r3⟩
theorem call_max2 (hc : X.calm = true) : CallR X (.builtin "max") (fun xs H Q => ∃ i j, xs = [.int i, .int j] ∧ Q (.int (if j > i then j else i)) H) := by
  intro pins s σ H xs us Q I r h
  obtain ⟨i, j, rfl, q⟩ := h
  obtain ⟨u, w', rfl, ⟨t, rfl⟩, ⟨t', rfl⟩⟩ := vals2 r
  refine max_two_ints (I.ok.hd hc) fun h' tk k => ⟨_, H, I.kept k, ?_, q⟩
  by_cases hj : j > i
  · rw [if_pos hj, if_pos hj]; exact ⟨_, rfl⟩
  · rw [if_neg hj, if_neg hj]; exact ⟨_, rfl⟩
theorem call_min2 (hc : X.calm = true) : CallR X (.builtin "min") (fun xs H Q => ∃ i j, xs = [.int i, .int j] ∧ Q (.int (if j < i then j else i)) H) := by
  intro pins s σ H xs us Q I r h
  obtain ⟨i, j, rfl, q⟩ := h
  obtain ⟨u, w', rfl, ⟨t, rfl⟩, ⟨t', rfl⟩⟩ := vals2 r
  refine min_two_ints (I.ok.hd hc) fun h' tk k => ⟨_, H, I.kept k, ?_, q⟩
  by_cases hj : j < i
  · rw [if_pos hj, if_pos hj]; exact ⟨_, rfl⟩
  · rw [if_neg hj, if_neg hj]; exact ⟨_, rfl⟩
theorem call_int1 : CallR X (.type "int") (fun xs H Q => (∃ i, xs = [.int i] ∧ Q (.int i) H) ∨ ∃ k, xs = [.bl k] ∧ Q (.int (if k then 1 else 0)) H) := by
  intro pins s σ H xs us Q I r h
  rcases h with ⟨i, rfl, q⟩ | ⟨k, rfl, q⟩
  · obtain ⟨u, rfl, t, rfl⟩ := vals1 r
    exact call_int_int ⟨.int i, H, I, ⟨_, rfl⟩, q⟩
  · obtain ⟨u, rfl, r1⟩ := vals1 r
    cases r1
    exact call_int_bool ⟨.int (if k then 1 else 0), H, I.tok _, ⟨_, rfl⟩, q⟩
end
end L2
namespace L2
open PySem PySem.Spec PyProof.Rows
structure ObjM (h : Heap) (x dx C : Addr) (mA : Str → Option Value) : Prop where
  obj : h.get? x = some (PySem.W.instObj C dx)
  ns : h.Ns1 dx mA
  ne : dx ≠ x
theorem lookIn_ns {h : Heap} {dx : Addr} {mA : Str → Option Value} (n : h.Ns1 dx mA) : ∃ od, h.get? dx = some od ∧ ∀ name, PySem.W.lookIn name od = some (mA name) := by
  obtain ⟨o, es, ep, ho, hd, hk, _, hm⟩ := n
  refine ⟨o, ho, fun name => ?_⟩
  have e := hm name
  unfold nsFind findBy at e
  rw [← Array.find?_toList] at e
  unfold PySem.W.lookIn
  rw [hd]
  dsimp only
  split
  · rename_i y q
    rw [q] at e
    exact congrArg some e
  · rename_i q
    rw [q] at e
    have a : es.toList.any (·.refKey) = false := by
      rw [List.any_eq_false]
      intro y hy
      obtain ⟨z, t, hkey⟩ := hk y (Array.mem_toList_iff.mp hy)
      simp [DictEntry.refKey, hkey]
    have a' : ¬ es.toList.any (·.refKey) = true := by rw [a]; exact Bool.false_ne_true
    rw [if_neg a']
    exact congrArg some e
theorem ObjM.look {h : Heap} {x dx C : Addr} {mA : Str → Option Value} (I : ObjM h x dx C mA) : ∃ od, PySem.W.InstAt h x (PySem.W.instObj C dx) C (some od) ∧ ∀ name, PySem.W.lookIn name od = some (mA name) :=
  let ⟨od, ho, hl⟩ := lookIn_ns I.ns
  ⟨od, ⟨I.obj, rfl, rfl, ho⟩, hl⟩
section
variable {prog : Program} {w : World} {A : Around} {E : Value → Shared → Prop} {s : Shared} {K : PySem.W.Frag} {x dx C f : Addr} {mA : Str → Option Value} {name : Str} {v : Value}
end
theorem RelO.some_of {v : V} {o : Option Value} (r : RelO (some v) o) : ∃ u, o = some u ∧ RelV v u := by
  cases o with
  | none => exact (show False from r).elim
  | some u => exact ⟨u, rfl, r⟩
theorem handed_of {v : V} {u : Value} (r : RelV v u) : PySem.W.handedIn u = true := by
  cases v with
  | non => cases (show u = Value.none from r); rfl
  | bl b => cases (show u = Value.bool b from r); rfl
  | int i => obtain ⟨t, e⟩ := (show ∃ t, u = Value.int i t from r); cases e; rfl
  | str x => obtain ⟨t, e⟩ := (show ∃ t, u = Value.str x t from r); cases e; rfl
  | byt b => obtain ⟨t, e⟩ := (show ∃ t, u = Value.bytes b t from r); cases e; rfl
  | flt b => obtain ⟨t, e⟩ := (show ∃ t, u = Value.float b t from r); cases e; rfl
  | ref a => cases (show u = Value.ref a from r); rfl
  | ty n => cases (show u = Value.type n from r); rfl
section
variable {P : Program} {w : World} {H H' : Hp} {h h' : Heap} {a C dx : Addr} {fs fs' : List (Str × V)}
theorem ins_get (hok : HOk P w H h) (e : H a = some (.ins C dx fs)) : ∃ mA, ObjM h a dx C mA ∧ (∀ f, RelO (fs.lookup f) (mA f)) ∧ PySem.Within mA (fs.map (·.1)) ∧ fs.length ≤ 1000 ∧ H dx = some (.own a) := by
  obtain ⟨d, z, ne, ob, mA, n, r, q⟩ := (show ObjOk P w H h a (.ins C dx fs) from hok a _ e)
  exact ⟨mA, ⟨ob, n, ne⟩, r, q, z, d⟩
end
structure Cls (K : PySem.W.Frag) (C : Addr) : Prop where
  pg : PySem.W.plainGet K C Str.empty = true
  hd : PySem.W.hasDictIn K C = true
  po : PySem.W.plainOver K C = true
  sa : PySem.W.findIn K (.ref C) "__setattr__" = some (some (.builtin "object.__setattr__"))
theorem Cls.get {K : PySem.W.Frag} {C : Addr} (c : Cls K C) (f : Str) : PySem.W.plainGet K C f = true := c.pg
section
variable {X : Cx} {pins : List (Addr × Obj)} {σ : St} {H : Hp} {s : Shared} {a C dx : Addr} {fs : List (Str × V)} {f : Str} {v : V} {A : Around} {E : Value → Shared → Prop}
theorem attr_of {prog : Program} {w : World} {env : Env} {e : Expr} {f : Str} {pos : Pos} {s : Shared} {Q : Value → Shared → Prop} (hb : attributeBase e f env (eval e env) = eval e env)
    (h : wpAny (model prog w) A (eval e env) (fun o s₁ => wpAny (model prog w) A (getAttr o f true) Q E s₁) E s) : wpAny (model prog w) A (eval (.Attribute e f pos) env) Q E s :=
  Attribute_any_ h (by rw [arm_eval_Attribute, hb])
end
section
variable {X : Cx} {o e value : Expr} {f : Str} {pos pos' tpos : Pos} {ta tv : TE}
end
section
variable {X : Cx} {pins : List (Addr × Obj)} {σ : St} {H : Hp} {s : Shared} {A : Around} {E : Value → Shared → Prop} {Q : Value → Shared → Prop} {c : Value} {b : Bool}
inductive TyOf (K : PySem.W.Frag) (H : Hp) : V → Value → Prop where
  | non : TyOf K H .non (.type "NoneType")
  | bl (x : Bool) : TyOf K H (.bl x) (.type "bool")
  | int (i : Int) : TyOf K H (.int i) (.type "int")
  | str (x : Str) : TyOf K H (.str x) (.type "str")
  | flt (x : UInt64) : TyOf K H (.flt x) (.type "float")
  | lst {a : Addr} {xs : List V} (e : H a = some (.lst xs)) : TyOf K H (.ref a) (.type "list")
  | frz {a : Addr} {o : Obj} {xs : List V} (e : H a = some (.frz o (.lst xs))) : TyOf K H (.ref a) (.type "list")
  | tup {a : Addr} {xs : List V} (e : H a = some (.tup xs)) : TyOf K H (.ref a) (.type "tuple")
  | dK {a : Addr} {kvs : List (Key × V)} (e : H a = some (.dK kvs)) : TyOf K H (.ref a) (.type "dict")
  | dT {a : Addr} {kvs : List (List Key × V)} (e : H a = some (.dT kvs)) : TyOf K H (.ref a) (.type "dict")
  | ins {a C dx : Addr} {fs : List (Str × V)} (e : H a = some (.ins C dx fs)) (cl : Cls K C) (ha : PySem.W.findIn K (.ref C) "__class__" = some (some (.builtin "object.__class__")))
      (hn : PySem.W.specialIn K (.builtin "object.__class__") "__get__" = some (some (.builtin "getset_descriptor.__get__"))) (htk : PySem.W.takesIn K (.builtin "object.__class__") = some true)
      (hm : PySem.W.mroIn K C (.type "object") = some true) : TyOf K H (.ref a) (.ref C)
theorem isinst_ok {x : V} {u t : Value} (I : Inv X pins σ H s) (rx : RelV x u) (ty : TyOf X.K H x t) (e : PySem.W.kitOne X.K t c = some b) (h : ∀ tk, Q (.bool b) { s with toks := tk }) :
    wpAny (model X.prog X.w) A (call (.builtin "isinstance") [u, c]) Q E s := by
  cases ty with
  | non => cases (show u = Value.none from rx); exact PySem.W.kia_one PySem.W.kitx_none I.kIn True.intro e (fun z => nomatch z) h
  | bl y => cases (show u = Value.bool y from rx); exact PySem.W.kia_one PySem.W.kitx_bool I.kIn True.intro e (fun z => nomatch z) h
  | int i => obtain ⟨t, q⟩ := (show ∃ t, u = Value.int i t from rx); cases q; exact PySem.W.kia_one PySem.W.kitx_int I.kIn True.intro e (fun z => nomatch z) h
  | str y => obtain ⟨t, q⟩ := (show ∃ t, u = Value.str y t from rx); cases q; exact PySem.W.kia_one PySem.W.kitx_str I.kIn True.intro e (fun z => nomatch z) h
  | flt y => obtain ⟨t, q⟩ := (show ∃ t, u = Value.float y t from rx); cases q; exact PySem.W.kia_one PySem.W.kitx_float I.kIn True.intro e (fun z => nomatch z) h
  | @lst a xs ea =>
    cases (show u = Value.ref a from rx)
    obtain ⟨_, _, n, _, h1⟩ := (show ObjOk X.prog X.w H s.heap a (.lst xs) from I.hok a _ ea)
    exact PySem.W.kia_one PySem.W.kitx_list I.kIn ⟨_, h1, rfl⟩ e (fun z => nomatch z) h
  | @frz a ob xs ea =>
    cases (show u = Value.ref a from rx)
    obtain ⟨_, _, _, n, _, h1⟩ := (show ObjOk X.prog X.w H s.heap a (.frz ob (.lst xs)) from I.hok a _ ea)
    exact PySem.W.kia_one PySem.W.kitx_list I.kIn ⟨_, h1, rfl⟩ e (fun z => nomatch z) h
  | @tup a xs ea =>
    cases (show u = Value.ref a from rx)
    obtain ⟨_, _, _, p⟩ := (show ObjOk X.prog X.w H s.heap a (.tup xs) from I.hok a _ ea)
    obtain ⟨o, h1, h2, _⟩ := p
    exact PySem.W.kia_one PySem.W.kitx_tuple I.kIn ⟨o, h1, h2⟩ e (fun z => nomatch z) h
  | @dK a kvs ea =>
    cases (show u = Value.ref a from rx)
    obtain ⟨_, _, vs, _, p⟩ := (show ObjOk X.prog X.w H s.heap a (.dK kvs) from I.hok a _ ea)
    obtain ⟨o, es, ep, h1, h2, _⟩ := p
    exact PySem.W.kia_one PySem.W.kitx_dict I.kIn ⟨o, h1, h2.1⟩ e (fun z => nomatch z) h
  | @dT a kvs ea =>
    cases (show u = Value.ref a from rx)
    obtain ⟨_, _, xs, _, o, es, ep, h1, h2, _⟩ := (show ObjOk X.prog X.w H s.heap a (.dT kvs) from I.hok a _ ea)
    exact PySem.W.kia_one PySem.W.kitx_dict I.kIn ⟨o, h1, h2.1⟩ e (fun z => nomatch z) h
  | @ins a C dx fs ea cl ha hn htk hm =>
    cases (show u = Value.ref a from rx)
    obtain ⟨mA, O, _⟩ := ins_get I.hok ea
    obtain ⟨od, J, _⟩ := O.look
    exact PySem.W.kia_one (PySem.W.kitx_own (cl.get _) cl.hd ha hn htk hm) I.kIn J e (fun z => nomatch z) h
end
end L2
namespace L2
open PySem PySem.Spec PyProof.Rows
structure Room (k : Nat) (A : Around) : Prop where
  hd : A.handled = none
  dp : A.depth + 3 * k + 5 < recursionLimit
  un : A.units + 16 * k + 200 < cLine
  gd : A.guards = some []
theorem Room.mono {j k : Nat} {A : Around} (r : Room k A) (h : j ≤ k) : Room j A := ⟨r.hd, by have := r.dp; omega, by have := r.un; omega, r.gd⟩
theorem Room.deeper {k : Nat} {A : Around} (r : Room (k + 1) A) (env : Env) : Room k (A.deeper env) :=
  ⟨r.hd, by have := r.dp; show A.depth + 1 + 3 * k + 5 < _; omega, by have := r.un; show A.units + 3 + 16 * k + 200 < _; omega, r.gd⟩
theorem make_depth {A : Around} {C : Addr} {us : List Value} {kw : List (Str × Value)} : (A.under (.builtin "type.__call__" ⟨.ref C :: us, kw⟩)).depth = A.depth + 1 := by
  first | rfl | simp [Around.under, Code.weight, Code.isCreation, Code.isGuard, Code.isCaller, Code.frames, Code.isFrame, guardIds]
theorem make_units {A : Around} {C : Addr} {us : List Value} {kw : List (Str × Value)} : (A.under (.builtin "type.__call__" ⟨.ref C :: us, kw⟩)).units = A.units + 1 := by
  first | rfl | simp [Around.under, Code.cUnits, Code.frames, Code.isFrame]
theorem Room.make {k : Nat} {A : Around} (r : Room (k + 1) A) (C : Addr) (us : List Value) (kw : List (Str × Value)) : Room k (A.under (.builtin "type.__call__" ⟨.ref C :: us, kw⟩)) :=
  ⟨r.hd, by have := r.dp; rw [make_depth]; omega, by have := r.un; rw [make_units]; omega, by have h := r.gd; first | (simp only [Around.under]; rw [h]; rfl) | simp [Around.under, h, pushGuards, Code.guards, Code.isGuard, guardIds]⟩
theorem Room.depth {k : Nat} {A : Around} (r : Room k A) : A.depth < recursionLimit := by have := r.dp; omega
theorem Room.units {k : Nat} {A : Around} (r : Room k A) : A.units + 64 < cLine := by have := r.un; omega
theorem Room.units0 {k : Nat} {A : Around} (r : Room k A) : A.units < cLine := by have := r.un; omega
def tNil : TA := fun _ H Q => Q [] H
def tCons (ta : TE) (tr : TA) : TA := fun σ H Q => ta σ H fun x H1 => tr σ H1 fun xs H2 => Q (x :: xs) H2
section
variable {X : Cx} {e : Expr} {es : List Expr} {te : TE} {t : TA} {pos : Pos}
theorem pa_nil : PA X [] tNil := fun _ _ _ _ H Q I h => Calls.spliced_nil ⟨[], H, I, .nil, h⟩
theorem pa_cons (ha : PE X e te) (hr : PA X es t) (hs : starEach (e :: es) X.env = (false, eval e X.env) :: starEach es X.env := by rfl) : PA X (e :: es) (tCons te t) := by
  intro pos pins s σ H Q I h
  rw [hs]
  show wpAny _ _ (spliced ((false, eval e X.env) :: backTo pos (starEach es X.env))) _ _ s
  refine Calls.spliced_cons (thn (ha pins s σ H _ I h) fun u s1 ⟨x, H1, I1, r1, q1⟩ => ?_)
  exact thn (hr pos pins s1 σ H1 _ I1 q1) fun us s2 ⟨xs, H2, I2, r2, q2⟩ => ⟨x :: xs, H2, I2, .cons r1 r2, q2⟩
def tTup (t : TA) : TE := fun σ H Q => t σ H fun xs H1 => xs.length ≤ sizeLine ∧ ∀ p, H1 p = none → Q (.ref p) (upd H1 p (.tup xs))
def tLst (t : TA) : TE := fun σ H Q => t σ H fun xs H1 => xs.length ≤ sizeLine ∧ ∀ p, H1 p = none → Q (.ref p) (upd H1 p (.lst xs))
theorem pe_tup {x1} (h : PA X es t) : PE X (.Tuple es x1 pos) (tTup t) := by
  intro pins s σ H Q I hq
  refine wpAny_Tuple_spliced (thn (h pos pins s σ H _ I hq) fun us s1 ⟨xs, H1, I1, r, z, q⟩ => ⟨by rw [← r.length]; exact z, ?_⟩)
  have hf : H1 s1.heap.objs.size = none := I1.hok.fresh (Nat.le_refl _)
  refine ⟨.ref s1.heap.objs.size, upd H1 s1.heap.objs.size (.tup xs), I1.laid (t' := s1.toks) (fun b u e => Heap.get?_push_of_some _ e) (Nat.le_refl _) ?_, rfl, q _ hf⟩
  exact ⟨z, us, r, ⟨_, Heap.get?_push_size _ rfl, rfl, _, rfl⟩⟩
theorem pe_lst (h : PA X es t) : PE X (.List es pos) (tLst t) := by
  intro pins s σ H Q I hq
  refine wpAny_List_spliced (thn (h pos pins s σ H _ I hq) fun us s1 ⟨xs, H1, I1, r, z, q⟩ => ⟨by rw [← r.length]; exact z, ?_⟩)
  have hf : H1 s1.heap.objs.size = none := I1.hok.fresh (Nat.le_refl _)
  refine ⟨.ref s1.heap.objs.size, upd H1 s1.heap.objs.size (.lst xs), I1.laid (t' := s1.toks) (fun b u e => Heap.get?_push_of_some _ e) (Nat.le_refl _) ?_, rfl, q _ hf⟩
  exact ⟨z, us, 0, r, Heap.get?_push_size _ rfl⟩
end
abbrev Sp := List V → Hp → VK → XK → Prop
abbrev CXT := List Env → Hp → Shared → XK → Value → Shared → Prop
structure Env0 (P : Program) (w : World) (K : PySem.W.Frag) (mg : Str → Option Value) (base : Heap) (A : Around) (outer : List Env) (s : Shared) (H : Hp) : Prop where
  frames : A.frames = some outer
  mod : Mod K mg base
  bs : ∀ b o, base.get? b = some o → s.heap.get? b = some o ∧ H b = none
  bsz : base.objs.size ≤ s.heap.objs.size
  funs : s.heap.FunFrames base outer
  frf : ∀ b ∈ frs outer, H b = none
  hok : HOk P w H s.heap
  bare : AllBare s.gens
def CE (outer : List Env) (P : Program) (w : World) (H : Hp) (s : Shared) (Q : VK) (u : Value) (s' : Shared) : Prop :=
  ∃ v H', s'.os = s.os ∧ AllBare s'.gens ∧ Un (frs outer) [] H H' s.heap s'.heap ∧ HOk P w H' s'.heap ∧ RelV v u ∧ Q v H'
def CR (CX : CXT) (outer : List Env) (P : Program) (w : World) (H : Hp) (s : Shared) (Q : VK) (E : XK) (r : Result) (s' : Shared) : Prop :=
  match r with
  | .ok (.ret u) => CE outer P w H s Q u s'
  | .ok _ => False
  | .error e => CX outer H s E e s'
structure FnOk (P : Program) (w : World) (K : PySem.W.Frag) (mg : Str → Option Value) (base : Heap) (CX : CXT) (k : Nat) (f : Addr) (fd : FuncData) (ps : List Str) (sp : Sp) : Prop where
  len : ∀ vs H Q E, sp vs H Q E → vs.length = ps.length
  run : ∀ (A : Around) (outer : List Env) (s : Shared) (H : Hp) (args : Args) (us : List Value) (vs : List V) (Q : VK) (E : XK), Room k A → Env0 P w K mg base A outer s H → BindsTo s fd args (ps.zip us) → Vals vs us → sp vs H Q E →
    codeAny (model P w) A (.call (.ref f) args) (CR CX outer P w H s Q E) s
theorem Env0.make {P : Program} {w : World} {K : PySem.W.Frag} {mg : Str → Option Value} {base : Heap} {A : Around} {outer : List Env} {s : Shared} {H : Hp} (e : Env0 P w K mg base A outer s H) (C : Addr) (us : List Value) (kw : List (Str × Value)) :
    Env0 P w K mg base (A.under (.builtin "type.__call__" ⟨.ref C :: us, kw⟩)) outer s H := ⟨by first | exact e.frames | (simpa [Around.under, Code.envs, Code.isFrame, pushEnvs] using e.frames), e.mod, e.bs, e.bsz, e.funs, e.frf, e.hok, e.bare⟩
section
variable {X : Cx} {pins : List (Addr × Obj)} {σ : St} {H : Hp} {s s' : Shared}
theorem Inv.env0 (I : Inv X pins σ H s) : Env0 X.prog X.w X.K X.mg X.base X.A X.stack s H :=
  ⟨I.ok.frames, I.ok.mod, I.bs, Nat.le_trans I.ok.bsz I.sz, I.stack, I.stkFree, I.hok, I.bare⟩
theorem Inv.after {Q : VK} {u : Value} (I : Inv X pins σ H s) (h : CE X.stack X.prog X.w H s Q u s') : EP X pins σ Q u s' := by
  obtain ⟨v, H', os, bare, un, hok, r, q⟩ := h
  obtain ⟨hh, g, d, t, os'⟩ := s'
  obtain rfl : os' = s.os := os
  exact ⟨v, H', I.call (h' := hh) (g' := g) (d' := d) (t' := t) (ch := []) un hok bare (fun b z => absurd z (by simp)), r, q⟩
end
def tCall (sp : Sp) (dvs : List V) (E : XK) (t : TA) : TE := fun σ H Q => t σ H fun vs H1 => sp (vs ++ dvs) H1 Q E
def Binds (K : PySem.W.Frag) (fd : FuncData) (ps : List Str) (ds : List Value) : Prop :=
  ∀ (s : Shared) (us : List Value), K.In s.heap → (us ++ ds).length = ps.length → BindsTo s fd ⟨us, []⟩ (ps.zip (us ++ ds))
theorem Binds.all {K : PySem.W.Frag} {fd : FuncData} {ps : List Str} (h : ∀ us : List Value, us.length = ps.length → bindArgs fd ⟨us, []⟩ = pure (ps.zip us)) : Binds K fd ps [] := fun s us _ hl => by
  rw [List.append_nil] at hl ⊢
  exact .of_eq (h us hl)
def Passes (CX : CXT) (X : Cx) (E : XK) : Prop := ∀ (pins : List (Addr × Obj)) (σ : St) (H : Hp) (s : Shared) (e : Value) (s' : Shared), Inv X pins σ H s → CX X.stack H s E e s' → X.xe e s'
section
variable {X : Cx} {CX : CXT} {k : Nat} {f C : Addr} {fd : FuncData} {ps : List Str} {sp : Sp} {dvs : List V} {ds : List Value} {E : XK} {x m : Str} {p pos apos : Pos} {e o : Expr} {es : List Expr} {ta : TE} {t : TA}
theorem run_fn {pins : List (Addr × Obj)} {σ : St} {H : Hp} {s : Shared} {Q : VK} {us : List Value} {vs : List V} (F : FnOk X.prog X.w X.K X.mg X.base CX k f fd ps sp) (hr : Room k X.A) (hb : Binds X.K fd ps ds) (hd : Vals dvs ds) (hx : Passes CX X E)
    (I : Inv X pins σ H s) (r : Vals vs us) (h : sp (vs ++ dvs) H Q E) : wpAny (model X.prog X.w) X.A (call (.ref f) us) (EP X pins σ Q) X.xe s := by
  have r2 : Vals (vs ++ dvs) (us ++ ds) := r.append hd
  have hl : (us ++ ds).length = ps.length := by rw [← r2.length]; exact F.len _ _ _ _ h
  refine wpAny_call (codeAny_mono (F.run X.A X.stack s H ⟨us, []⟩ (us ++ ds) (vs ++ dvs) Q E hr I.env0 (hb s us I.kIn hl) r2 h) fun r s' hq => ?_)
  cases r with
  | error e => exact hx pins σ H s e s' I hq
  | ok fl =>
    cases fl with
    | ret u => exact I.after hq
    | next => exact False.elim hq
    | brk => exact False.elim hq
    | cont => exact False.elim hq
theorem pe_call (F : FnOk X.prog X.w X.K X.mg X.base CX k f fd ps sp) (hr : Room k X.A) (hg : Gl X x) (hm : X.mg x = some (.ref f)) (hk : PySem.W.keepIn X.K (.ref f) = true) (hb : Binds X.K fd ps ds) (hd : Vals dvs ds) (hx : Passes CX X E)
    (ha : PA X (e :: es) t) (hdb : (x == ("__debug__" : Str)) = false := by decide) (he : starEach (e :: es) X.env = (false, eval e X.env) :: starEach es X.env := by rfl) (hpl : (backTo pos (starEach es X.env)).any (·.1) = false := by rfl) :
    PE X (.Call (.Name x p) (e :: es) [] pos) (tCall sp dvs E t) := by
  intro pins s σ H Q I h
  refine wpAny_Call_Name_kw (ld_glob I hg hm ?_ hdb)
  refine PySem.W.callWith_K (h₀ := X.base) I.ok.mod.kin hk (thn (ha pos pins s σ H _ I h) fun us s1 ⟨vs, H1, I1, r, q⟩ => ⟨I1.kIn, ?_⟩) he hpl
  exact run_fn F hr hb hd hx I1 r q
end
section
variable {X : Cx} {CX : CXT} {k : Nat} {f C : Addr} {fd : FuncData} {ps ks : List Str} {sp : Sp} {E : XK} {x m : Str} {p pos apos kpos : Pos} {e o : Expr} {es : List Expr} {kws : List Keyword} {te ta : TE} {t tk : TA} {nm : Option Str}
variable {g : List Value → List Value → List Value} {gV : List V → List V → List V}
end
structure FnScope (N P : List Str) (sc : Scope) : Prop where
  kind : sc.kind = .function
  co : sc.isCoroutine = false
  gen : sc.isGenerator = false
  nd : N.Nodup
  pre : N.take P.length = P
  par : ∀ x ∈ P, sc.names.lookup x = some .local ∨ sc.names.lookup x = some .cell
  nofree : ∀ y ∈ sc.names, y.2 ≠ .free
theorem bindL_out {kindOf : Str → Option NameKind} {x : Str} : ∀ {binds : List (Str × Value)} {m : Str → Option Value}, (∀ v, (x, v) ∉ binds) → bindL kindOf binds m x = m x
  | [], _, _ => rfl
  | (n, v) :: r, m, h => by
    unfold bindL
    rw [bindL_out fun w hw => h w (List.mem_cons_of_mem _ hw)]
    split
    · have : x ≠ n := by rintro rfl; exact h v List.mem_cons_self
      simp [this]
    · rfl
theorem bindC_out {kindOf : Str → Option NameKind} {x : Str} : ∀ {binds : List (Str × Value)} {m : Str → Option Value}, (∀ v, (x, v) ∉ binds) → bindC kindOf binds m x = m x
  | [], _, _ => rfl
  | (n, v) :: r, m, h => by
    unfold bindC
    rw [bindC_out fun w hw => h w (List.mem_cons_of_mem _ hw)]
    split
    · rfl
    · have : x ≠ n := by rintro rfl; exact h v List.mem_cons_self
      simp [this]
theorem bindL_get {kindOf : Str → Option NameKind} {x : Str} {v : Value} : ∀ {P : List Str} {vs : List Value} {i : Nat} {m : Str → Option Value}, P.Nodup → P[i]? = some x → vs[i]? = some v → kindOf x = some .local →
    bindL kindOf (P.zip vs) m x = some v
  | [], _, _, _, _, h, _, _ => by simp at h
  | _ :: _, [], _, _, _, _, h, _ => by simp at h
  | p :: P, w :: vs, 0, m, nd, h1, h2, hk => by
    simp at h1 h2; subst h1; subst h2
    show bindL kindOf ((p, w) :: P.zip vs) m p = _
    unfold bindL
    rw [bindL_out fun v hv => (List.nodup_cons.mp nd).1 (List.of_mem_zip hv).1, if_pos hk]
    simp
  | p :: P, w :: vs, i + 1, m, nd, h1, h2, hk => by
    show bindL kindOf ((p, w) :: P.zip vs) m x = _
    unfold bindL
    exact bindL_get (i := i) (List.nodup_cons.mp nd).2 (by simpa using h1) (by simpa using h2) hk
theorem bindC_get {kindOf : Str → Option NameKind} {x : Str} {v : Value} : ∀ {P : List Str} {vs : List Value} {i : Nat} {m : Str → Option Value}, P.Nodup → P[i]? = some x → vs[i]? = some v → kindOf x ≠ some .local →
    bindC kindOf (P.zip vs) m x = some v
  | [], _, _, _, _, h, _, _ => by simp at h
  | _ :: _, [], _, _, _, _, h, _ => by simp at h
  | p :: P, w :: vs, 0, m, nd, h1, h2, hk => by
    simp at h1 h2; subst h1; subst h2
    show bindC kindOf ((p, w) :: P.zip vs) m p = _
    unfold bindC
    rw [bindC_out fun v hv => (List.nodup_cons.mp nd).1 (List.of_mem_zip hv).1, if_neg hk]
    simp
  | p :: P, w :: vs, i + 1, m, nd, h1, h2, hk => by
    show bindC kindOf ((p, w) :: P.zip vs) m x = _
    unfold bindC
    exact bindC_get (i := i) (List.nodup_cons.mp nd).2 (by simpa using h1) (by simpa using h2) hk
def start (N : List Str) (vs : List V) : St := vs.map some ++ List.replicate (N.length - vs.length) none
def cxOf (CX : CXT) (P : Program) (w : World) (K : PySem.W.Frag) (mg : Str → Option Value) (base : Heap) (N : List Str) (qual : Str) (scope : Scope) (f : Addr) (cd : Value) (A : Around) (outer : List Env) (s : Shared) (H : Hp) (E : XK) : Cx where
  prog := P
  w := w
  K := K
  mg := mg
  base := base
  A := A.deeper (envOfC qual scope s.heap.objs.size f cd)
  N := N
  s₀ := s
  H₀ := H
  env := envOfC qual scope s.heap.objs.size f cd
  outer := outer
  stack := envOfC qual scope s.heap.objs.size f cd :: outer
  ex := []
  calm := true
  fn := fun _ => true
  pn := []
  xe := fun e s' => wpAny (model P w) (A.deeper (envOfC qual scope s.heap.objs.size f cd)) (leaving (envOfC qual scope s.heap.objs.size f cd) e) (fun _ s'' => CX outer H s E e s'') (fun e' s'' => CX outer H s E e' s'') s'
theorem cell_has {sc : Scope} {n : Nat} {x : Str} (h : sc.names.lookup x = some .cell) : ∃ c, (cellsFrom n sc.names []).lookup x = some c := by
  have q := PySem.W.cellsFrom_some sc.names n [] (.inl h)
  exact Option.isSome_iff_exists.mp q
theorem inv_start {CX : CXT} {P : Program} {w : World} {K : PySem.W.Frag} {mg : Str → Option Value} {base : Heap} {N ps : List Str} {qual : Str} {scope : Scope} {f : Addr} {cd : Value} {A : Around} {outer : List Env} {s s1 : Shared} {H : Hp} {E : XK} {us : List Value} {vs : List V}
    (S : FnScope N ps scope) (hd : A.handled = none) (e0 : Env0 P w K mg base A outer s H) (hl : vs.length = ps.length) (r : Vals vs us)
    (x : InCallC s s.heap.objs.size (bindL (envOfC qual scope s.heap.objs.size f cd).kindOf (ps.zip us) fun _ => none) (cellsFrom (s.heap.objs.size + 1) scope.names []) (bindC (envOfC qual scope s.heap.objs.size f cd).kindOf (ps.zip us) fun _ => none) s1) :
    Inv (cxOf CX P w K mg base N qual scope f cd A outer s H E) [] (start N vs) H s1 := by
  have hpl : ps.length ≤ N.length := by have := congrArg List.length S.pre; rw [List.length_take] at this; omega
  obtain ⟨h1, tk, rfl, hk⟩ := x.done
  have noA : ∀ b : Addr, b ∉ (cxOf CX P w K mg base N qual scope f cd A outer s H E).ex := fun b z => absurd (show b ∈ ([] : List Addr) from z) (by simp)
  refine ⟨⟨e0.mod, S.kind, rfl, rfl, Nat.le_refl _, fun y z c h1 h2 => ?_, fun y hy => ?_, fun y c _ h => ?_, fun _ => hd, Around.frames_deeper e0.frames, .inr ⟨rfl, rfl⟩, fun b z => absurd z (noA b), e0.bs, e0.bsz, fun b _ _ => noA b, fun b z => absurd z (noA b), e0.funs, e0.frf⟩,
    rfl, e0.bare, Un.kept hk, ⟨_, x.toInCall.ns, fun i y v h1 h2 h3 => ?_⟩, fun y c h => ⟨_, x.cell y c h⟩, e0.hok.fresh (Nat.le_refl _), fun y c h => ?_, fun p hp => absurd (show p ∈ ([] : List (Addr × Obj)) from hp) (by simp), e0.hok.kept hk, ?_⟩
  · exact name_of_addr x.apart (PySem.mem_of_lookup h1) (PySem.mem_of_lookup h2)
  · have hy : scope.names.lookup y = some .cell ∨ scope.names.lookup y = some .free := hy
    rcases hy with hy | hy
    · exact cell_has hy
    · exact absurd rfl (S.nofree _ (PySem.mem_of_lookup hy))
  · exact Nat.le_of_lt (x.above y c (PySem.mem_of_lookup h))
  · have hi : i < vs.length := by
      unfold start at h2
      by_cases hi : i < vs.length
      · exact hi
      · rw [List.getElem?_append_right (by simpa using hi)] at h2
        rw [List.getElem?_replicate] at h2
        split at h2 <;> cases h2
    have ha : vs[i]? = some v := by
      unfold start at h2
      rw [List.getElem?_append_left (by simpa using hi), List.getElem?_map] at h2
      cases e : vs[i]? with
      | none => rw [e] at h2; cases h2
      | some a => rw [e] at h2; cases h2; rfl
    obtain ⟨u, hu, rv⟩ := r.get ha
    have hp : ps[i]? = some y := by
      rw [← S.pre, List.getElem?_take_of_lt (by omega)]; exact h1
    have ndP : ps.Nodup := by rw [← S.pre]; exact S.nd.sublist (List.take_sublist _ _)
    refine ⟨u, rv, ?_⟩
    rcases S.par y (List.mem_of_getElem? hp) with k | k
    · exact .inl ⟨k, bindL_get ndP hp hu k⟩
    · obtain ⟨c, e⟩ := cell_has (n := s.heap.objs.size + 1) k
      refine .inr ⟨.inl k, c, e, ?_⟩
      have q := x.cell y c e
      rw [bindC_get ndP hp hu (by show scope.names.lookup y ≠ _; rw [k]; decide)] at q
      exact q
  · exact e0.hok.fresh (Nat.le_of_lt (x.above y c (PySem.mem_of_lookup h)))
  · unfold start
    show _ = N.length
    rw [List.length_append, List.length_map, List.length_replicate]
    omega
theorem fn_of {CX : CXT} {P : Program} {w : World} {K : PySem.W.Frag} {mg : Str → Option Value} {base : Heap} {k : Nat} {f : Addr} {name qual : Str} {params : Arguments} {body : List Stmt} {scope : Scope} {dV kV doc pm cdv ct oc : Value} {an od : Option Addr}
    {osl : Array (Option Value)} {N ps : List Str} {sp : Sp} (lk : K.lookup f = some ⟨oc, od, .func (PySem.W.fnOf name qual params body scope dV kV doc pm an cdv ct), osl⟩) (hcd : PySem.W.codeIn K cdv qual = true) (S : FnScope N ps scope)
    (len : ∀ vs H Q E, sp vs H Q E → vs.length = ps.length)
    (hbody : ∀ (A : Around) (outer : List Env) (s : Shared) (H : Hp) (vs : List V) (Q : VK) (E : XK), Room k (A.deeper (envOfC qual scope s.heap.objs.size f cdv)) → sp vs H Q E →
      ∃ t, PSs (cxOf CX P w K mg base N qual scope f cdv A outer s H E) body t ∧ t { nx := fun _ H' => Q .non H', rt := Q } (start N vs) H) :
    FnOk P w K mg base CX (k + 1) f (PySem.W.fnOf name qual params body scope dV kV doc pm an cdv ct) ps sp := by
  refine ⟨len, fun A outer s H args us vs Q E hr e0 hb r hsp => ?_⟩
  have hl := len _ _ _ _ hsp
  have KX : K.In s.heap := e0.mod.kin.keeps fun b o e => (e0.bs b o e).1
  have lim : s.heap.NoLimit := e0.mod.nolimit.keeps fun b o e => (e0.bs b o e).1
  have hkind : ∀ y ∈ ps.zip us, scope.names.lookup y.1 = some .local ∨ (scope.names.lookup y.1 = some .cell ∧ ((cellsFrom (s.heap.objs.size + 1) scope.names []).lookup y.1).isSome = true) := fun ⟨n, v⟩ hy => by
    rcases S.par n (List.of_mem_zip hy).1 with q | q
    · exact .inl q
    · exact .inr ⟨q, PySem.W.cellsFrom_some _ _ _ (.inl q)⟩
  refine codeAny_call_function hr.depth (KX _ _ lk) rfl S.co S.gen rfl (PySem.W.codeRec_of KX hcd) (hb _ _ _ _ ?_)
  refine wpAny_newFunctionEnv_cells S.kind hkind fun env he s1 x => ?_
  subst he
  refine ⟨lim.keeps x.toInCall.keep, codeAny_func ?_⟩
  obtain ⟨t, ht, hq⟩ := hbody A outer s H vs Q E (hr.deeper _) hsp
  have I : Inv (cxOf CX P w K mg base N qual scope f cdv A outer s H E) [] (start N vs) H s1 := inv_start S hr.hd e0 hl r x
  refine wpAny_mono (ht [] s1 (start N vs) H _ I hq) (fun fl s' hs => ?_) fun e s' hs => hs
  have fin : ∀ {σ' : St} {H' : Hp} {v : V} {u : Value}, Inv (cxOf CX P w K mg base N qual scope f cdv A outer s H E) [] σ' H' s' → RelV v u → Q v H' → CE outer P w H s Q u s' :=
    fun {σ' H' v u} J rv q => ⟨v, H', J.os, J.bare, J.base, J.hok, rv, q⟩
  cases fl with
  | ret u =>
    obtain ⟨v, σ', H', J, rv, q⟩ := hs
    exact fin J rv q
  | next =>
    obtain ⟨σ', H', J, q⟩ := hs
    exact fin (v := V.non) (u := Value.none) J rfl q
  | brk =>
    obtain ⟨_, _, _, q⟩ := hs
    exact False.elim q
  | cont =>
    obtain ⟨_, _, _, q⟩ := hs
    exact False.elim q
end L2
namespace L2
open PySem PySem.Spec PyProof.Rows
section
variable {X : Cx} {x : Str} {p pos : Pos} {e : Expr} {es : List Expr} {t : TA} {id T : String} {r : List V → Hp → VK → Prop}
def tCB (r : List V → Hp → VK → Prop) (t : TA) : TE := fun σ H Q => t σ H fun vs H1 => r vs H1 Q
theorem pe_callB (hc : CallR X (.builtin id) r) (hg : Gl X x) (hm : X.mg x = none) (hv : bootBuiltins x = some (.builtin id)) (ha : PA X (e :: es) t) (hn : x ≠ "__name__" := by decide) (hdb : (x == ("__debug__" : Str)) = false := by decide)
    (he : starEach (e :: es) X.env = (false, eval e X.env) :: starEach es X.env := by rfl) (hpl : (backTo pos (starEach es X.env)).any (·.1) = false := by rfl) : PE X (.Call (.Name x p) (e :: es) [] pos) (tCB r t) := by
  intro pins s σ H Q I h
  refine wpAny_Call_Name_kw (ld_blt I hg hm hv ?_ hn hdb)
  exact PyProof.Rows.callWith_builtin1 (thn (ha pos pins s σ H _ I h) fun us s1 ⟨vs, H1, I1, r1, q1⟩ => hc pins s1 σ H1 vs us Q I1 r1 q1) he hpl
theorem pe_callTy (hc : CallR X (.type T) r) (hg : Gl X x) (hm : X.mg x = none) (hv : bootBuiltins x = some (.type T)) (ha : PA X (e :: es) t) (hn : x ≠ "__name__" := by decide) (hdb : (x == ("__debug__" : Str)) = false := by decide)
    (he : starEach (e :: es) X.env = (false, eval e X.env) :: starEach es X.env := by rfl) (hpl : (backTo pos (starEach es X.env)).any (·.1) = false := by rfl) : PE X (.Call (.Name x p) (e :: es) [] pos) (tCB r t) := by
  intro pins s σ H Q I h
  refine wpAny_Call_Name_kw (ld_blt I hg hm hv ?_ hn hdb)
  exact PyProof.Rows.callWith_type1 (thn (ha pos pins s σ H _ I h) fun us s1 ⟨vs, H1, I1, r1, q1⟩ => hc pins s1 σ H1 vs us Q I1 r1 q1) he hpl
end
end L2
namespace HT
open PySem PyProof.Rows
section
open PySem.SeqAt
open PySem.AutoSeq1 (wpAny_loadPart')
open PySem.MeetsSeq PySem.MeetsSeq2 PySem.MeetsSeq3
end
section
variable {prog : Program} {w : World} {A : Around} {E : Value → Shared → Prop} {s : Shared}
theorem cat_tup {t b : Addr} {vs ws : List Value} {Q : Value → Shared → Prop} (ht : IsTup s.heap t vs.toArray) (hb : IsTup s.heap b ws.toArray) (hv : vs ≠ [])
    (h1 : ws = [] → Q (.ref t) s) (h2 : ws ≠ [] → Q (.ref s.heap.objs.size) { s with heap := s.heap.push { cls := .type "tuple", data := .seq (vs ++ ws).toArray } })
    (hsz : vs.length + ws.length ≤ sizeLine) : wpAny (model prog w) A (binaryOp .Add (.ref t) (.ref b)) Q E s := by
  obtain ⟨⟨cls, dd, data, sl⟩, ho, hc, n, hd⟩ := id ht
  obtain ⟨⟨cls2, dd2, data2, sl2⟩, ho2, hc2, n2, hd2⟩ := id hb
  simp only at hc hd hc2 hd2
  subst hc hd hc2 hd2
  have e : vs.toArray ++ ws.toArray = (vs ++ ws).toArray := by simp
  by_cases hw : ws = []
  · exact concat_meets ⟨_, ho, rfl⟩ ⟨_, ho2, rfl⟩ noFill_tuple_add seq_tuple_add PySem.F.slot_tuple_add PySem.F.entry_tuple_add (PySem.F.args_tuple_add_2 _ _)
      (tuple_addW1 t b vs.toArray ws.toArray n n2 dd dd2 sl sl2 (by simpa using hv) (by simp [hw])) ⟨ho, ho2, h1 hw⟩
  · refine concat_meets ⟨_, ho, rfl⟩ ⟨_, ho2, rfl⟩ noFill_tuple_add seq_tuple_add PySem.F.slot_tuple_add PySem.F.entry_tuple_add (PySem.F.args_tuple_add_2 _ _)
      (tuple_addW2 t b vs.toArray ws.toArray n n2 dd dd2 sl sl2 (by simpa using hv) (by simpa using hw) (by rw [List.size_toArray, List.size_toArray]; exact hsz)) ⟨ho, ho2, ?_⟩
    rw [e]
    exact h2 hw
def sIx (n d : Nat) : Option Int → Nat
  | none => d
  | some v => if v < 0 then (v + (n : Int)).toNat else min v.toNat n
theorem sIx_le (n d : Nat) (hd : d ≤ n) (o : Option Int) : sIx n d o ≤ n := by
  cases o with
  | none => exact hd
  | some v =>
    show (if v < 0 then (v + (n : Int)).toNat else min v.toNat n) ≤ n
    by_cases hv : v < 0
    · rw [if_pos hv]; omega
    · rw [if_neg hv]; exact Nat.min_le_right _ _
theorem clip_eq (v : Int) (n d : Nat) : (if v < 0 then max (v + (n : Int)) 0 else min v (n : Int)) = ((sIx n d (some v) : Nat) : Int) := by
  show (if v < 0 then max (v + (n : Int)) 0 else min v (n : Int)) = (((if v < 0 then (v + (n : Int)).toNat else min v.toNat n) : Nat) : Int)
  by_cases hv : v < 0
  · simp only [if_pos hv]; omega
  · simp only [if_neg hv]; omega
theorem adjust_gen (lo hi : Option Int) (n : Nat) : Builtin.Slice.sliceAdjust lo hi 1 (n : Int) = (((sIx n 0 lo : Nat) : Int), ((sIx n n hi : Nat) : Int)) := by
  have h1 : ¬ ((1 : Int) < 0) := by omega
  unfold Builtin.Slice.sliceAdjust
  simp only [h1, if_false]
  refine Prod.ext ?_ ?_
  · cases lo with
    | none => rfl
    | some v => exact clip_eq v n 0
  · cases hi with
    | none => rfl
    | some v => exact clip_eq v n n
theorem places_gen (i j : Nat) : Builtin.Slice.slicePlaces (i : Int) (j : Int) 1 = j - i := by
  unfold Builtin.Slice.slicePlaces
  have h1 : (1 : Int) > 0 := by omega
  simp only [h1, if_true, Int.ediv_one]
  split <;> omega
theorem slicePart_ {v : Value} {o : Option Int} {Q : Option Int → Shared → Prop} (p : IsPart v o) (h : Q o s) : wpAny (model prog w) A (Builtin.Slice.slicePartIndex v) Q E s := by
  cases p with
  | none => exact slicePart_none h
  | int i t => exact slicePart_int h
theorem sliceApplied_gen {sl : Addr} {vl vu : Value} {lo hi : Option Int} {n : Nat} {Q : Int × Int × Nat → Shared → Prop} (hs : s.heap.IsSliceOf sl vl vu .none) (pl : IsPart vl lo) (pu : IsPart vu hi)
    (h : Q (((sIx n 0 lo : Nat) : Int), 1, sIx n n hi - sIx n 0 lo) s) : wpAny (model prog w) A (Builtin.Slice.sliceApplied (.ref sl) (pure (n : Int))) Q E s := by
  obtain ⟨os, hos, hcs, hds⟩ := id hs
  unfold Builtin.Slice.sliceApplied Builtin.Slice.sliceFields
  refine wpAny_bind (wpAny_bind (wpAny_field hos hds (x := vl) rfl (wpAny_bind (wpAny_field hos hds (x := vu) rfl (wpAny_bind (wpAny_field hos hds (x := .none) rfl (wpAny_pure ?_)))))))
  refine wpAny_bind (slicePart_none ?_)
  show wpAny _ _ (if ((1 : Int) == 0) = true then _ else _) _ _ s
  rw [if_neg (by decide)]
  refine wpAny_bind (slicePart_ pl (wpAny_bind (slicePart_ pu (wpAny_bind (wpAny_pure ?_)))))
  show wpAny _ _ (match Builtin.Slice.sliceAdjust lo hi 1 (n : Int) with | (lo, hi) => pure (lo, (1 : Int), Builtin.Slice.slicePlaces lo hi 1)) _ _ s
  rw [adjust_gen lo hi n]
  show wpAny _ _ (pure (((sIx n 0 lo : Nat) : Int), (1 : Int), Builtin.Slice.slicePlaces ((sIx n 0 lo : Nat) : Int) ((sIx n n hi : Nat) : Int) 1)) _ _ s
  rw [places_gen]
  exact wpAny_pure h
theorem pick_gen (xs : Array Value) (i k : Nat) : ((List.range k).filterMap fun (m : Nat) => xs[((i : Int) + (m : Int) * 1).toNat]?).toArray = ((xs.toList.drop i).take k).toArray := by
  have e : (fun (m : Nat) => xs[((i : Int) + (m : Int) * 1).toNat]?) = fun m => xs[i + m]? := by
    funext m
    have : ((i : Int) + (m : Int) * 1).toNat = i + m := by omega
    rw [this]
  rw [e]
  have := pick_run xs i k
  rw [List.filterMap_map] at this
  have e2 : ((fun x => xs[x]?) ∘ fun x => i + x) = fun m => xs[i + m]? := rfl
  rw [e2] at this
  rw [this]
theorem getItem_tuple_cut {t sl : Addr} {items : Array Value} {vl vu : Value} {lo hi : Option Int} {Q : Value → Shared → Prop} (ht : IsTup s.heap t items) (hs : s.heap.IsSliceOf sl vl vu .none) (pl : IsPart vl lo) (pu : IsPart vu hi)
    (hw : ¬ (sIx items.size 0 lo = 0 ∧ sIx items.size items.size hi = items.size))
    (h : Q (.ref s.heap.objs.size) { s with heap := s.heap.push { cls := .type "tuple", data := .seq ((items.toList.drop (sIx items.size 0 lo)).take (sIx items.size items.size hi - sIx items.size 0 lo)).toArray } })
    (hsz : items.size ≤ sizeLine) : wpAny (model prog w) A (getItem (.ref t) (.ref sl)) Q E s := by
  have htake : sizeOk (.seq ((items.toList.drop (sIx items.size 0 lo)).take (sIx items.size items.size hi - sIx items.size 0 lo)).toArray) := by
    show ((items.toList.drop (sIx items.size 0 lo)).take (sIx items.size items.size hi - sIx items.size 0 lo)).toArray.size ≤ sizeLine
    rw [List.size_toArray, List.length_take, List.length_drop, Array.length_toList]
    omega
  have hj : sIx items.size items.size hi ≤ items.size := sIx_le _ _ (Nat.le_refl _) hi
  obtain ⟨os, hos, hcs, hds⟩ := id hs
  have hTs : s.TypeIs (.ref sl) "slice" := ⟨os, hos, hcs⟩
  unfold getItem
  try with_reducible refine wpAny_holding ?_
  first | refine wpAny_bind (wpAny_pure ?_) | skip
  refine wpAny_bind (wpAny_sequenceKey ht.typeIs (by decide) ?_)
  refine wpAny_bind (wpAny_callSpecial?_slot (name := Str.ofString "__getitem__") ht.typeIs PyProof.Rows.slot_tuple_getitem
    (wpAny_call_entry PyProof.Rows.slot_tuple_getitem ht.typeIs entry_tuple_getitem ?_ (args_tuple_getitem _ _)))
  show wpAny _ _ (Builtin.Tuple.tupleItemsOf (.ref t) >>= _) _ _ s
  refine wpAny_bind (tupleItemsOf_ ht ?_)
  refine wpAny_bind (wpAny_typeOf hTs ?_)
  rw [if_pos (by decide)]
  refine wpAny_bind (sliceApplied_gen hs pl pu ?_)
  have hno : ¬ ((((sIx items.size 0 lo : Nat) : Int) == 0 && (1 : Int) == 1 && (sIx items.size items.size hi - sIx items.size 0 lo) == items.size) = true) := by
    intro q
    rw [Bool.and_eq_true, Bool.and_eq_true] at q
    have q1 : ((sIx items.size 0 lo : Nat) : Int) = 0 := eq_of_beq q.1.1
    have q2 : sIx items.size items.size hi - sIx items.size 0 lo = items.size := eq_of_beq q.2
    exact hw ⟨by omega, by omega⟩
  show wpAny _ _ (if (((sIx items.size 0 lo : Nat) : Int) == 0 && (1 : Int) == 1 && (sIx items.size items.size hi - sIx items.size 0 lo) == items.size) = true then _ else _) _ _ s
  rw [if_neg hno, pick_gen]
  first
    | exact wpAny_bind (m := Builtin.Tuple.tupleExact _) (wpAny_newObj_type (wpAny_pure ⟨_, rfl, wpAny_pure h⟩) htake)
    | exact wpAny_bind (m := Builtin.Tuple.tupleExact _) (wpAny_newObj_type (wpAny_bind (wpAny_pure (wpAny_pure ⟨_, rfl, wpAny_pure h⟩))) htake)
    | exact wpAny_bind (wpAny_bind (m := Builtin.Tuple.tupleExact _) (wpAny_newObj_type (wpAny_pure (wpAny_pure ⟨_, rfl, wpAny_pure h⟩)) htake))
    | exact wpAny_bind (wpAny_bind (m := Builtin.Tuple.tupleExact _) (wpAny_newObj_type (wpAny_pure ⟨_, rfl, wpAny_pure h⟩) htake))
end
end HT
namespace L2
open PySem PySem.Spec PyProof.Rows
abbrev TO := St → Hp → (Option Int → Hp → Prop) → Prop
def PO (X : Cx) (e : Option Expr) (t : TO) : Prop :=
  ∀ (pins : List (Addr × Obj)) (s : Shared) (σ : St) (H : Hp) (Q : Option Int → Hp → Prop), Inv X pins σ H s → t σ H Q →
    wpAny (model X.prog X.w) X.A (evalPart e X.env) (fun u s' => ∃ o H', Inv X pins σ H' s' ∧ IsPart u o ∧ Q o H') X.xe s
def tNoPart : TO := fun _ H Q => Q none H
def tPart (t : TE) : TO := fun σ H Q => t σ H fun x H1 => ∃ i, x = .int i ∧ Q (some i) H1
theorem intsAre_of {ns : List Int} : ∀ {us : List Value}, Vals (ns.map V.int) us → IntsAre us ns := by
  induction ns with
  | nil => intro us r; rw [List.map_nil] at r; cases r; exact .nil
  | cons n ns ih =>
    intro us r
    rw [List.map_cons] at r
    cases r with
    | cons r1 r2 =>
      obtain ⟨t, e⟩ := r1
      subst e
      exact .cons n t (ih r2)
section
variable {X : Cx} {e : Expr} {te : TE} {lo hi : Option Expr} {tl th : TO} {pos p2 : Pos}
theorem po_none : PO X none tNoPart := by
  intro pins s σ H Q I h
  rw [evalPart_none]
  exact wpAny_pure ⟨none, H, I, .none, h⟩
theorem po_some (h : PE X e te) : PO X (some e) (tPart te) := by
  intro pins s σ H Q I hw
  rw [evalPart_some]
  refine thn (h pins s σ H _ I hw) fun u s1 ⟨x, H1, I1, r1, q1⟩ => ?_
  obtain ⟨i, rfl, q⟩ := q1
  obtain ⟨t, rfl⟩ := r1
  exact ⟨some i, H1, I1, .int i t, q⟩
def SlR (X : Cx) (r : V → Option Int → Option Int → Hp → VK → Prop) : Prop :=
  ∀ (pins : List (Addr × Obj)) (s : Shared) (σ : St) (H : Hp) (x : V) (v vl vu : Value) (lo hi : Option Int) (sl : Addr) (Q : VK), Inv X pins σ H s → RelV x v → s.heap.IsSliceOf sl vl vu .none → IsPart vl lo → IsPart vu hi → r x lo hi H Q →
    ∃ T id, typeLookup (.type T) "__getitem__" = pure (some (.builtin id)) ∧ s.TypeIs v T ∧ wpAny (model X.prog X.w) X.A (getItem v (.ref sl)) (EP X pins σ Q) X.xe s
def tSl (r : V → Option Int → Option Int → Hp → VK → Prop) (te : TE) (tl th : TO) : TE := fun σ H Q => te σ H fun x H1 => tl σ H1 fun l H2 => th σ H2 fun u H3 => r x l u H3 Q
theorem pe_slice {r : V → Option Int → Option Int → Hp → VK → Prop} (hr : SlR X r) (he : PE X e te) (hl : PO X lo tl) (hu : PO X hi th) : PE X (.Subscript e (.Slice lo hi none p2) pos) (tSl r te tl th) := by
  intro pins s σ H Q I h
  refine Subscript_ (thn (he pins s σ H _ I h) fun v s1 ⟨x, H1, I1, r1, q1⟩ => ?_)
  refine wpAny_Slice (thn (hl pins s1 σ H1 _ I1 q1) fun vl s2 ⟨l, H2, I2, pl, q2⟩ => thn (hu pins s2 σ H2 _ I2 q2) fun vu s3 ⟨u, H3, I3, pu, q3⟩ => ?_)
  rw [evalPart_none]
  refine wpAny_pure ?_
  have I4 : Inv X pins σ H3 { s3 with heap := s3.heap.push { cls := .type "slice", data := .fields #[vl, vu, .none] } } := I3.kept (t' := s3.toks) fun b ob q => Heap.get?_push_of_some _ q
  obtain ⟨T, id, hT, ht, hg⟩ := hr pins { s3 with heap := s3.heap.push { cls := .type "slice", data := .fields #[vl, vu, .none] } } σ H3 x v vl vu l u s3.heap.objs.size Q I4 r1 (Heap.IsSliceOf.new ..) pl pu q3
  show wpAny (model X.prog X.w) X.A (subscriptTail e (.Slice lo hi none p2) v (.ref s3.heap.objs.size)) (EP X pins σ Q) X.xe { s3 with heap := s3.heap.push { cls := .type "slice", data := .fields #[vl, vu, .none] } }
  exact tail_any (ops := [.ref s3.heap.objs.size, v]) ht hT hg (by with_unfolding_all rfl)
def cutV (xs : List V) (lo hi : Option Int) : List V := (xs.drop (HT.sIx xs.length 0 lo)).take (HT.sIx xs.length xs.length hi - HT.sIx xs.length 0 lo)
theorem cutV_length (xs : List V) (lo hi : Option Int) : (cutV xs lo hi).length ≤ xs.length := by
  unfold cutV
  rw [List.length_take, List.length_drop]
  omega
def rSlT (K : PySem.W.Frag) : V → Option Int → Option Int → Hp → VK → Prop := fun x lo hi H Q => ∃ a xs, x = .ref a ∧ SqT K H a xs ∧
  ¬ (HT.sIx xs.length 0 lo = 0 ∧ HT.sIx xs.length xs.length hi = xs.length) ∧ ∀ p, H p = none → Q (.ref p) (upd H p (.tup (cutV xs lo hi)))
theorem sl_tup : SlR X (rSlT X.K) := by
  intro pins s σ H x v vl vu lo hi sl Q I rx hs pl pu h
  obtain ⟨a, xs, rfl, hx, hw, q⟩ := h
  cases rx
  obtain ⟨its, r, ht, hz⟩ := I.tuple hx
  have hlen : its.toArray.size = xs.length := by rw [List.size_toArray]; exact r.length.symm
  refine ⟨"tuple", _, PyProof.Rows.slot_tuple_getitem.lookup, ht.typeIs, ?_⟩
  refine HT.getItem_tuple_cut ht hs pl pu (by rw [hlen]; exact hw) ?_ (by rw [hlen]; exact hz)
  rw [hlen]
  refine ⟨.ref s.heap.objs.size, _, I.laid (t' := s.toks) (o := .tup (cutV xs lo hi)) (fun b ob q => Heap.get?_push_of_some _ q) (Nat.le_refl _) ?_, rfl, q _ (I.hok.fresh (Nat.le_refl _))⟩
  exact ⟨Nat.le_trans (cutV_length xs lo hi) hz, _, (r.drop (HT.sIx xs.length 0 lo)).take (HT.sIx xs.length xs.length hi - HT.sIx xs.length 0 lo), IsTup.new _ _⟩
def rCatT (K : PySem.W.Frag) : R2 := fun x y H Q => ∃ a b xs ys, x = .ref a ∧ y = .ref b ∧ SqT K H a xs ∧ SqT K H b ys ∧ xs ≠ [] ∧ xs.length + ys.length ≤ sizeLine ∧
  (ys = [] → Q (.ref a) H) ∧ (ys ≠ [] → ∀ p, H p = none → Q (.ref p) (upd H p (.tup (xs ++ ys))))
theorem Vals.nil_iff {xs : List V} {us : List Value} (r : Vals xs us) : us = [] ↔ xs = [] := by
  cases r with
  | nil => simp
  | cons _ _ => simp
theorem op_catT : OpR X (binaryOp .Add) (rCatT X.K) := by
  intro pins s σ H x y v u Q I rx ry h
  obtain ⟨a, b, xs, ys, rfl, rfl, ha, hb, hx, hz, q1, q2⟩ := h
  cases rx
  cases ry
  obtain ⟨its, r1, p1, _⟩ := I.tuple ha
  obtain ⟨its2, r2, p2, _⟩ := I.tuple hb
  refine HT.cat_tup p1 p2 (fun z => hx (r1.nil_iff.mp z)) (fun z => ⟨.ref a, H, I, rfl, q1 (r2.nil_iff.mp z)⟩) (fun z => ?_) (by rw [← r1.length, ← r2.length]; exact hz)
  refine ⟨.ref s.heap.objs.size, _, I.laid (t' := s.toks) (o := .tup (xs ++ ys)) (fun b ob q => Heap.get?_push_of_some _ q) (Nat.le_refl _) ?_, rfl, q2 (fun w => z (r2.nil_iff.mpr w)) _ (I.hok.fresh (Nat.le_refl _))⟩
  exact ⟨by rw [List.length_append]; exact hz, _, r1.append r2, IsTup.new _ _⟩
end
end L2
namespace L2
open PySem PySem.Spec PyProof.Rows
def ixN (n : Nat) (i : Int) : Option Nat := if 0 ≤ i then (if i < n then some i.toNat else none) else if -(n : Int) ≤ i then some (i + n).toNat else none
def atI {α : Type} (xs : List α) (i : Int) : Option α := (ixN xs.length i).bind fun j => xs[j]?
theorem ixN_seq {n : Nat} {i : Int} {j : Nat} (h : ixN n i = some j) : seqIndex? i n = some j ∧ j < n ∧ -(n : Int) ≤ i ∧ i < n := by
  unfold ixN at h
  by_cases h0 : 0 ≤ i
  · rw [if_pos h0] at h
    by_cases h1 : i < n
    · rw [if_pos h1] at h
      have e : i.toNat = j := Option.some.inj h
      exact ⟨by rw [seqIndex_of h0 h1, e], by omega, by omega, h1⟩
    · rw [if_neg h1] at h; cases h
  · rw [if_neg h0] at h
    by_cases h1 : -(n : Int) ≤ i
    · rw [if_pos h1] at h
      have e : (i + n).toNat = j := Option.some.inj h
      exact ⟨by rw [seqIndex_neg (by omega) h1, e], by omega, h1, by omega⟩
    · rw [if_neg h1] at h; cases h
theorem atI_get {α : Type} {xs : List α} {i : Int} {v : α} (h : atI xs i = some v) : ∃ j, seqIndex? i xs.length = some j ∧ xs[j]? = some v ∧ j < xs.length ∧ -(xs.length : Int) ≤ i ∧ i < xs.length := by
  unfold atI at h
  cases e : ixN xs.length i with
  | none => rw [e] at h; cases h
  | some j =>
    rw [e] at h
    obtain ⟨h1, h2, h3, h4⟩ := ixN_seq e
    exact ⟨j, h1, h, h2, h3, h4⟩
theorem atI_nat {α : Type} {xs : List α} {j : Nat} {v : α} (h : xs[j]? = some v) : atI xs (j : Int) = some v := by
  have hj : j < xs.length := (List.getElem?_eq_some_iff.mp h).1
  have e : ixN xs.length (j : Int) = some j := by
    unfold ixN
    rw [if_pos (by omega), if_pos (by omega)]; simp
  unfold atI; rw [e]; exact h
theorem atI_last {α : Type} (xs : List α) (v : α) : atI (xs ++ [v]) (-1) = some v := by
  have hl : (xs ++ [v]).length = xs.length + 1 := by simp
  have e : ixN (xs ++ [v]).length (-1) = some xs.length := by
    unfold ixN
    rw [hl, if_neg (by decide), if_pos (by omega)]
    congr 1
    omega
  unfold atI
  rw [e]
  show (xs ++ [v])[xs.length]? = some v
  simp
def PlainIx (b : Expr) : Prop := ∀ o i, subscripted b false o i = operate [o, i] (getItem o i)
def IxR (X : Cx) (r : R2) : Prop :=
  ∀ (value slice : Expr) (pins : List (Addr × Obj)) (s : Shared) (σ : St) (H : Hp) (x y : V) (v u : Value) (Q : VK), Inv X pins σ H s → RelV x v → RelV y u → r x y H Q →
    subscripted slice false v u = operate [v, u] (getItem v u) → wpAny (model X.prog X.w) X.A (subscriptTail value slice v u) (EP X pins σ Q) X.xe s
def MtR (X : Cx) (id : String) (r : V → List V → Hp → VK → Prop) : Prop :=
  ∀ (pins : List (Addr × Obj)) (s : Shared) (σ : St) (H : Hp) (x : V) (xs : List V) (v : Value) (us : List Value) (Q : VK), Inv X pins σ H s → RelV x v → Vals xs us → r x xs H Q →
    wpAny (model X.prog X.w) X.A (call (.builtin id) (v :: us)) (EP X pins σ Q) X.xe s
section
variable {X : Cx} {a b : Expr} {ta tb : TE} {pos : Pos}
theorem pe_ix {r : R2} (hr : IxR X r) (ha : PE X a ta) (hb : PE X b tb) (hs : PlainIx b) : PE X (.Subscript a b pos) (tOp r ta tb) := by
  intro pins s σ H Q I h
  exact Subscript_ (binT ha hb I h fun v u s2 x y H2 I2 rx ry q => hr a b pins s2 σ H2 x y v u Q I2 rx ry q (hs _ _))
def rIxL (K : PySem.W.Frag) : R2 := fun x y H Q => ∃ p xs i v, x = .ref p ∧ y = .int i ∧ SqL K H p xs ∧ atI xs i = some v ∧ Q v H
def rIxT (K : PySem.W.Frag) : R2 := fun x y H Q => ∃ p xs i v, x = .ref p ∧ y = .int i ∧ SqT K H p xs ∧ atI xs i = some v ∧ Q v H
theorem ix_list : IxR X (rIxL X.K) := by
  intro value slice pins s σ H x y v u Q I rx ry h hs
  obtain ⟨p, xs, i, z, rfl, rfl, hq, he, q⟩ := h
  cases rx
  obtain ⟨t, rfl⟩ := ry
  obtain ⟨its, r, pl, hz⟩ := I.list hq
  obtain ⟨j, h1, h2, h3, h4, h5⟩ := atI_get he
  obtain ⟨w, ew, rw'⟩ := r.get h2
  have hl := r.length
  have hn := line63
  have fin : EP X pins σ Q w s := ⟨z, H, I, rw', q⟩
  by_cases h0 : 0 ≤ i
  · have hj : i.toNat = j := by
      rw [seqIndex_of h0 h5] at h1
      exact Option.some.inj h1
    exact item_listR pl.isList h0 (by omega) (by rw [hj]; simpa using ew) fin hs
  · have hj : (i + (its.toArray.size : Int)).toNat = j := by
      rw [seqIndex_neg (by omega) h4] at h1
      rw [List.size_toArray, ← hl]
      exact Option.some.inj h1
    exact subscriptTail_builtinR (x := w) pl.isList.typeIs slot_list_getitem.lookup
      (wpAny_getItem_list_neg (Q := fun r s' => r = w ∧ EP X pins σ Q r s') pl.isList (by omega) (by rw [List.size_toArray] <;> omega) (by omega) (by rw [hj]; simpa using ew) ⟨rfl, fin⟩) hs
theorem ix_tup : IxR X (rIxT X.K) := by
  intro value slice pins s σ H x y v u Q I rx ry h hs
  obtain ⟨p, xs, i, z, rfl, rfl, hq, he, q⟩ := h
  cases rx
  obtain ⟨t, rfl⟩ := ry
  obtain ⟨its, r, pl, hz⟩ := I.tuple hq
  obtain ⟨j, h1, h2, h3, h4, h5⟩ := atI_get he
  obtain ⟨w, ew, rw'⟩ := r.get h2
  have hl := r.length
  have hn := line63
  have fin : EP X pins σ Q w s := ⟨z, H, I, rw', q⟩
  exact subscriptTail_builtinR (x := w) pl.typeIs slot_tuple_getitem.lookup
    (getItem_tuple (j := j) (Q := fun r s' => r = w ∧ EP X pins σ Q r s') pl (by omega) (by omega) (by rw [List.size_toArray, ← hl]; exact h1) (by simpa using ew) ⟨rfl, fin⟩) hs
theorem mapSeq_set (its : List Value) (n j : Nat) (u : Value) : Obj.mapSeq (·.setIfInBounds j u) { cls := .type "list", data := .seq its.toArray n } = { cls := .type "list", data := .seq (its.set j u).toArray n } := by
  simp [Obj.mapSeq]
theorem Inv.lst {pins : List (Addr × Obj)} {σ : St} {H : Hp} {s : Shared} {p : Addr} {xs : List V} (I : Inv X pins σ H s) (h : H p = some (.lst xs)) :
    ∃ (its : List Value) (n : Nat), Vals xs its ∧ s.heap.get? p = some { cls := .type "list", data := .seq its.toArray n } ∧ xs.length ≤ sizeLine := by
  obtain ⟨z, its, n, r, e⟩ := I.hok p _ h
  exact ⟨its, n, r, e, z⟩
theorem Inv.lstUpd {pins : List (Addr × Obj)} {σ : St} {H : Hp} {s : Shared} {p : Addr} {xs ys : List V} {its its' : List Value} {n n' : Nat} {f : Obj → Obj} (I : Inv X pins σ H s) (h : H p = some (.lst xs))
    (ho : s.heap.get? p = some { cls := .type "list", data := .seq its.toArray n }) (hf : f { cls := .type "list", data := .seq its.toArray n } = { cls := .type "list", data := .seq its'.toArray n' }) (r : Vals ys its') (hz : ys.length ≤ sizeLine) (t : Nat) :
    Inv X pins σ (upd H p (.lst ys)) { s with heap := s.heap.update p f, toks := t } := by
  have e : (s.heap.update p f).get? p = some { cls := .type "list", data := .seq its'.toArray n' } := by
    rw [Heap.get?_update_self f ho (by rw [hf] <;> rfl), hf]
  refine I.write (x := p) (e := p) (by rw [h]; trivial) (.inl rfl) (fun b u hb q => (Heap.get?_update_other _ _ (Ne.symm hb)).trans q) ⟨_, e⟩ ?_
  exact ⟨hz, its', n', r, e⟩
def rSetL : V → V → V → Hp → (Hp → Prop) → Prop := fun o i v H Q => ∃ p xs k j, o = .ref p ∧ i = .int k ∧ H p = some (.lst xs) ∧ ixN xs.length k = some j ∧ Q (upd H p (.lst (xs.set j v)))
theorem set_list : PSet X rSetL := by
  intro pins s σ H o i v ov iv u Q I ro ri rv h
  obtain ⟨p, xs, k, j, rfl, rfl, hp, hj, q⟩ := h
  cases ro
  obtain ⟨t, rfl⟩ := ri
  obtain ⟨its, n, r, ho, hz⟩ := I.lst hp
  obtain ⟨h1, h2, h3, h4⟩ := ixN_seq hj
  have hl := r.length
  have hn := line63
  have I' : Inv X pins σ (upd H p (.lst (xs.set j v))) { s with heap := s.heap.update p (Obj.mapSeq (·.setIfInBounds j u)) } :=
    I.lstUpd hp ho (mapSeq_set its n j u) (r.set rv j) (by rw [List.length_set]; exact hz) s.toks
  by_cases h0 : 0 ≤ k
  · have hk : k.toNat = j := by
      rw [seqIndex_of h0 h4] at h1
      exact Option.some.inj h1
    exact PySem.W.ki_setAt ho h0 (by omega) (by rw [List.size_toArray, ← hl]; exact h4) (by rw [hk]; exact ⟨_, I', q⟩)
  · have hk : (k + (its.toArray.size : Int)).toNat = j := by
      rw [seqIndex_neg (by omega) h3] at h1
      rw [List.size_toArray, ← hl]
      exact Option.some.inj h1
    exact PySem.W.ki_setBack ho (by omega) (by rw [List.size_toArray, ← hl]; exact h3) (by omega) (by rw [hk]; exact ⟨_, I', q⟩)
def flatV : V → Bool
  | .non => true
  | .bl _ => true
  | .int _ => true
  | .str _ => true
  | _ => false
def eqV : V → V → Bool
  | .non, .non => true
  | .bl a, .bl b => a == b
  | .bl a, .int b => (if a then 1 else 0) == b
  | .int a, .bl b => a == (if b then 1 else 0)
  | .int a, .int b => a == b
  | .str a, .str b => a == b
  | _, _ => false
theorem eqAt_V {A : Around} {s : Shared} {y x : V} {u v : Value} (ry : RelV y u) (rx : RelV x v) (fy : flatV y = true) (fx : flatV x = true) : SeqAt.EqAt A s u v (eqV y x) := by
  cases y with
  | non =>
    cases ry
    cases x with
    | non => cases rx; exact SeqAt.EqAt.same _
    | bl b => cases rx; exact SeqAt.EqAt.none_bool b
    | int b => obtain ⟨t, rfl⟩ := rx; exact SeqAt.EqAt.none_int b t
    | str b => obtain ⟨t, rfl⟩ := rx; exact SeqAt.EqAt.none_str b t
    | _ => exact absurd (show false = true from fx) Bool.false_ne_true
  | bl a =>
    cases ry
    cases x with
    | non => cases rx; exact SeqAt.EqAt.bool_none a
    | bl b => cases rx; exact SeqAt.EqAt.bool_bool a b
    | int b => obtain ⟨t, rfl⟩ := rx; exact SeqAt.EqAt.bool_int a b t
    | str b => obtain ⟨t, rfl⟩ := rx; exact SeqAt.EqAt.bool_str a b t
    | _ => exact absurd (show false = true from fx) Bool.false_ne_true
  | int a =>
    obtain ⟨t', rfl⟩ := ry
    cases x with
    | non => cases rx; exact SeqAt.EqAt.int_none a t'
    | bl b => cases rx; exact SeqAt.EqAt.int_bool a t' b
    | int b => obtain ⟨t, rfl⟩ := rx; exact SeqAt.EqAt.int_int a t' b t
    | str b => obtain ⟨t, rfl⟩ := rx; exact SeqAt.EqAt.int_str a t' b t
    | _ => exact absurd (show false = true from fx) Bool.false_ne_true
  | str a =>
    obtain ⟨t', rfl⟩ := ry
    cases x with
    | non => cases rx; exact SeqAt.EqAt.str_none a t'
    | bl b => cases rx; exact SeqAt.EqAt.str_bool a t' b
    | int b => obtain ⟨t, rfl⟩ := rx; exact SeqAt.EqAt.str_int a t' b t
    | str b => obtain ⟨t, rfl⟩ := rx; exact SeqAt.EqAt.str_str a t' b t
    | _ => exact absurd (show false = true from fx) Bool.false_ne_true
  | _ => exact absurd (show false = true from fy) Bool.false_ne_true
theorem call_len_seq : CallR X (.builtin "len") (fun xs H Q => ∃ p ys, xs = [.ref p] ∧ (SqL X.K H p ys ∨ SqT X.K H p ys) ∧ Q (.int ys.length) H) := by
  intro pins s σ H xs us Q I r h
  obtain ⟨p, ys, rfl, hq, q⟩ := h
  obtain ⟨u, rfl, rx⟩ := vals1 r
  cases rx
  have hn := line63
  rcases hq with hq | hq
  · obtain ⟨its, r', pl, hz⟩ := I.list hq
    have hlen := r'.length
    exact Calls.call_len_list pl.isList (by simp only [List.size_toArray] <;> omega) ⟨.int ys.length, H, I.tok _, ⟨s.toks + 1, by rw [List.size_toArray, hlen]⟩, q⟩
  · obtain ⟨its, r', pl, hz⟩ := I.tuple hq
    have hlen := r'.length
    exact len_tuple pl (by simp only [List.size_toArray] <;> omega) ⟨.int ys.length, H, I.tok _, ⟨s.toks + 1, by rw [List.size_toArray, hlen]⟩, q⟩
theorem call_list_of : CallR X (.type "list") (fun xs H Q => ∃ p ys, xs = [.ref p] ∧ (SqL X.K H p ys ∨ SqT X.K H p ys) ∧ ∀ l, H l = none → Q (.ref l) (upd H l (.lst ys))) := by
  intro pins s σ H xs us Q I r h
  obtain ⟨p, ys, rfl, hq, q⟩ := h
  obtain ⟨u, rfl, rx⟩ := vals1 r
  cases rx
  have fin : ∀ (its : List Value), Vals ys its → ys.length ≤ sizeLine → ∀ (h' : Heap) (c' : Nat), (∀ b o', s.heap.get? b = some o' → h'.get? b = some o') →
      h'.get? s.heap.objs.size = some { cls := .type "list", dict := none, data := .seq its.toArray c', slots := #[] } → EP X pins σ Q (.ref s.heap.objs.size) { s with heap := h' } := fun its r' hz h' c' kp e =>
    ⟨.ref s.heap.objs.size, _, I.laid (t' := s.toks) kp (Nat.le_refl _) (show ObjOk X.prog X.w _ h' _ (.lst ys) from ⟨hz, its, c', r', e⟩), rfl, q _ (I.hok.fresh (Nat.le_refl _))⟩
  rcases hq with hq | hq
  · obtain ⟨its, r', pl, hz⟩ := I.list hq
    have hlen := r'.length
    obtain ⟨o, ho, hc, n, hd⟩ := pl.isList
    exact call_list_seq p (.inl rfl) ho hc hd (fun h' c' kp e => fin its r' hz h' c' kp e) (by simp only [List.size_toArray] <;> omega)
  · obtain ⟨its, r', pl, hz⟩ := I.tuple hq
    have hlen := r'.length
    obtain ⟨o, ho, hc, n, hd⟩ := pl
    exact call_list_seq p (.inr rfl) ho hc hd (fun h' c' kp e => fin its r' hz h' c' kp e) (by simp only [List.size_toArray] <;> omega)
theorem call_tuple_of : CallR X (.type "tuple") (fun xs H Q => ∃ p ys, xs = [.ref p] ∧ ((SqL X.K H p ys ∧ ∀ l, H l = none → Q (.ref l) (upd H l (.tup ys))) ∨ (SqT X.K H p ys ∧ Q (.ref p) H))) := by
  intro pins s σ H xs us Q I r h
  obtain ⟨p, ys, rfl, h⟩ := h
  obtain ⟨u, rfl, rx⟩ := vals1 r
  cases rx
  rcases h with ⟨hq, q⟩ | ⟨hq, q⟩
  · obtain ⟨its, r', pl, hz⟩ := I.list hq
    have hlen := r'.length
    refine call_tuple_list pl.isList (fun h' kp => ?_) (by simp only [List.size_toArray] <;> omega)
    have I1 : Inv X pins σ H { s with heap := h' } := I.kept (t' := s.toks) kp
    have I2 : Inv X pins σ (upd H h'.objs.size (.tup ys)) { s with heap := h'.push { cls := .type "tuple", data := .seq its.toArray } } :=
      I1.laid (t' := s.toks) (fun b o e => Heap.get?_push_of_some _ e) (Nat.le_refl _) (show ObjOk X.prog X.w _ _ _ (.tup ys) from ⟨hz, its, r', IsTup.new _ _⟩)
    exact ⟨.ref h'.objs.size, _, I2, rfl, q _ (I1.hok.fresh (Nat.le_refl _))⟩
  · obtain ⟨its, r', pl, hz⟩ := I.tuple hq
    exact call_tuple_same pl ⟨.ref p, H, I, rfl, q⟩
def tyV (K : PySem.W.Frag) (T : String) (x : V) (H : Hp) : Prop := match x with
  | .str _ => T = "str"
  | .int _ => T = "int"
  | .ref p => (T = "list" ∧ ∃ xs, SqL K H p xs) ∨ (T = "tuple" ∧ ∃ o, K.lookup p = some o ∧ o.cls = .type "tuple" ∧ o.dict = none) ∨
      (T = "dict" ∧ ((∃ kvs, H p = some (.dK kvs)) ∨ ∃ kvs, H p = some (.dT kvs))) ∨ (T = "set" ∧ ∃ S n, H p = some (.set S n))
  | _ => False
theorem tyV_is {pins : List (Addr × Obj)} {σ : St} {H : Hp} {s : Shared} {T : String} {x : V} {v : Value} (I : Inv X pins σ H s) (r : RelV x v) (ty : tyV X.K T x H) :
    s.TypeIs v T ∧ ∀ a, v = .ref a → ∃ ob, s.heap.get? a = some ob ∧ ob.dict = none := by
  cases x with
  | str z =>
    obtain ⟨t, rfl⟩ := r
    cases (show T = "str" from ty)
    exact ⟨typeIs_str s z t, fun _ e => nomatch e⟩
  | int i =>
    obtain ⟨t, rfl⟩ := r
    cases (show T = "int" from ty)
    exact ⟨typeIs_int s i t, fun _ e => nomatch e⟩
  | ref p =>
    cases r
    rcases ty with ⟨rfl, xs, hq⟩ | ⟨rfl, o, hk, hc, hd⟩ | ⟨rfl, hk⟩ | ⟨rfl, S, n, hk⟩
    · obtain ⟨its, _, pl, _⟩ := I.list hq
      refine ⟨pl.isList.typeIs, fun a e => ?_⟩
      cases e
      obtain ⟨o, n, e, c, hd, _⟩ := pl
      exact ⟨o, e, hd⟩
    · refine ⟨⟨o, I.kIn p o hk, hc⟩, fun a e => ?_⟩
      cases e
      exact ⟨o, I.kIn _ o hk, hd⟩
    · have z : ∃ o, s.heap.get? p = some o ∧ o.ExactDict := by
        rcases hk with ⟨kvs, hk⟩ | ⟨kvs, hk⟩
        · obtain ⟨_, _, _, _, o, _, _, e, ex, _⟩ := I.hok p _ hk
          exact ⟨o, e, ex⟩
        · obtain ⟨_, _, _, _, o, _, _, e, ex, _⟩ := I.hok p _ hk
          exact ⟨o, e, ex⟩
      obtain ⟨o, e, ex⟩ := z
      refine ⟨⟨o, e, ex.1⟩, fun a e2 => ?_⟩
      cases e2
      exact ⟨o, e, ex.2.1⟩
    · obtain ⟨o, _, _, _, e, ex, _⟩ := I.hok p _ hk
      refine ⟨⟨o, e, ex.1⟩, fun a e2 => ?_⟩
      cases e2
      exact ⟨o, e, ex.2.1⟩
  | _ => exact False.elim ty
def tBM0 (K : PySem.W.Frag) (T : String) (r : V → List V → Hp → VK → Prop) (to : TE) : TE := fun σ H Q => to σ H fun x H1 => tyV K T x H1 ∧ r x [] H1 Q
def tBM (K : PySem.W.Frag) (T : String) (r : V → List V → Hp → VK → Prop) (to : TE) (t : TA) : TE := fun σ H Q => to σ H fun x H1 => tyV K T x H1 ∧ t σ H1 fun xs H2 => r x xs H2 Q
variable {o e : Expr} {es : List Expr} {to : TE} {t : TA} {name : Str} {apos cpos : Pos} {T id : String} {r : V → List V → Hp → VK → Prop}
theorem pe_bm0 (pa : PlainAttrs T) (slot : Slot T name id) (hty : typeOf (.builtin id) = pure (.type "method_descriptor")) (hm : MtR X id r) (ho : PE X o to)
    (hbase : attributeBase o name X.env (eval o X.env) = eval o X.env := by rfl) (hline : (apos.endLine == cpos.line) = true := by rfl) : PE X (.Call (.Attribute o name apos) [] [] cpos) (tBM0 X.K T r to) := by
  intro pins s σ H Q I h
  refine wpAny_Call_method0_late hbase hline (thn (ho pins s σ H _ I h) fun v s1 ⟨x, H1, I1, r1, ty, q1⟩ => ?_)
  obtain ⟨h1, h2⟩ := tyV_is I1 r1 ty
  exact ⟨T, id, pa, slot, hty, h1, h2, Calls.callWith_builtin rfl (PySem.evalArgs_none (hm pins s1 σ H1 x [] v [] Q I1 r1 .nil q1))⟩
theorem pe_bm (pa : PlainAttrs T) (slot : Slot T name id) (hty : typeOf (.builtin id) = pure (.type "method_descriptor")) (hm : MtR X id r) (ho : PE X o to) (ha : PA X (e :: es) t)
    (hbase : attributeBase o name X.env (eval o X.env) = eval o X.env := by rfl)
    (hfew : ((backTo cpos (starEach (e :: es) X.env)).all (fun x => !x.1) && (backToKw cpos (keywordEach [] X.env)).all (fun x => x.1.isSome)
      && decide ((e :: es).length + ([] : List Keyword).length + (if ([] : List Keyword).isEmpty then 0 else 1) < 30)) = true := by rfl)
    (hline : (apos.endLine == cpos.line) = true := by rfl) (hs : starEach (e :: es) X.env = (false, eval e X.env) :: starEach es X.env := by rfl) (hplain : (backTo cpos (starEach es X.env)).any (·.1) = false := by rfl) :
    PE X (.Call (.Attribute o name apos) (e :: es) [] cpos) (tBM X.K T r to t) := by
  intro pins s σ H Q I h
  refine wpAny_Call_method_late hbase hfew hline rfl (thn (ho pins s σ H _ I h) fun v s1 ⟨x, H1, I1, r1, ty, q1⟩ => ?_)
  obtain ⟨h1, h2⟩ := tyV_is I1 r1 ty
  refine ⟨T, id, pa, slot, hty, h1, h2, ?_⟩
  have hA := ha cpos pins s1 σ H1 _ I1 q1
  rw [hs] at hA ⊢
  refine Calls.callWith_builtin (by show (false || (backTo cpos (starEach es X.env)).any (·.1)) = false; rw [hplain] <;> rfl) (Calls.evalArgs_plain ?_)
  exact thn hA fun us s2 ⟨vs, H2, I2, r2, q2⟩ => hm pins s2 σ H2 x vs v us Q I2 r1 r2 q2
end
end L2
namespace L2
open PySem PySem.Spec PyProof.Rows
def MtM (X : Cx) (id : String) (r : V → List V → Hp → VK → Prop) : Prop :=
  ∀ (pins : List (Addr × Obj)) (s : Shared) (σ : St) (H : Hp) (x : V) (xs : List V) (v : Value) (us : List Value) (Q : VK), Inv X pins σ H s → RelV x v → Vals xs us → r x xs H Q →
    wpAny (model X.prog X.w) X.A (call (.builtin id) (v :: us)) (EP X pins σ Q) X.xe s
theorem Vals.one : ∀ {x : V} {us : List Value}, Vals [x] us → ∃ u, us = [u] ∧ RelV x u
  | _, _, .cons r .nil => ⟨_, rfl, r⟩
section
variable {X : Cx} {pins : List (Addr × Obj)} {σ : St} {H : Hp} {s : Shared} {l b : Addr} {xs ys zs : List V}
theorem Inv.lset {its its' : List Value} {n : Nat} {f : Array Value → Array Value} {t' : Nat} (I : Inv X pins σ H s) (hH : H l = some (.lst xs))
    (e : s.heap.get? l = some { cls := .type "list", data := .seq its.toArray n }) (hf : f its.toArray = its'.toArray) (hv : Vals ys its') (hz : ys.length ≤ sizeLine) :
    Inv X pins σ (upd H l (.lst ys)) { s with heap := s.heap.update l (Obj.mapSeq f), toks := t' } := by
  have q := PySem.IsL.update e f
  rw [hf] at q
  refine I.write (x := l) (e := l) (by rw [hH]; exact trivial) (.inl rfl) (fun b' u hb hu => (Heap.get?_update_other s.heap (Obj.mapSeq f) (Ne.symm hb)).trans hu) ⟨_, q⟩ ?_
  exact ⟨hz, its', _, hv, q⟩
theorem Inv.lnew {its : List Value} {t' : Nat} (I : Inv X pins σ H s) (hv : Vals ys its) (hz : ys.length ≤ sizeLine) :
    Inv X pins σ (upd H s.heap.objs.size (.lst ys)) { s with heap := s.heap.push { cls := .type "list", data := .seq its.toArray }, toks := t' } :=
  I.laid (fun _ _ q => Heap.get?_push_of_some _ q) (Nat.le_refl _) ⟨hz, its, 0, hv, Heap.get?_push_size _ rfl⟩
theorem Inv.fresh (I : Inv X pins σ H s) : H s.heap.objs.size = none := I.hok.fresh (Nat.le_refl _)
theorem Inv.lstM (I : Inv X pins σ H s) (hH : H l = some (.lst xs)) : xs.length ≤ sizeLine ∧ ∃ (its : List Value) (n : Nat), Vals xs its ∧ xs.length = its.length ∧ s.heap.get? l = some { cls := .type "list", data := .seq its.toArray n } := by
  obtain ⟨z, its, n, r, e⟩ := I.hok l _ hH
  exact ⟨z, its, n, r, r.length, e⟩
end
section
variable {X : Cx}
def rAppend : V → List V → Hp → VK → Prop := fun x vs H Q => ∃ l xs y, x = .ref l ∧ vs = [y] ∧ H l = some (.lst xs) ∧ xs.length < sizeLine ∧ Q .non (upd H l (.lst (xs ++ [y])))
theorem mt_append : MtM X "list.append" rAppend := by
  intro pins s σ H x vs v us Q I rx rv h
  obtain ⟨l, xs, y, rfl, rfl, hH, hz, q⟩ := h
  cases rx
  obtain ⟨u, rfl, ru⟩ := rv.one
  obtain ⟨z, its, n, r, hl, e⟩ := I.lstM hH
  refine call_meets F.slot_list_append ⟨_, e, rfl⟩ F.entry_list_append (F.args_list_append_2 _ _) (PySem.list_append l its.toArray n u (by rw [List.size_toArray]; omega)) ⟨e, ?_⟩
  refine ⟨.non, _, I.lset (its' := its ++ [u]) hH e (by simp) (r.append (.cons ru .nil)) ?_, rfl, q⟩
  rw [List.length_append, List.length_singleton]
  omega
def rCat : R2 := fun x y H Q => ∃ l b xs zs, x = .ref l ∧ y = .ref b ∧ H l = some (.lst xs) ∧ H b = some (.lst zs) ∧ xs.length + zs.length ≤ sizeLine ∧ ∀ p, H p = none → Q (.ref p) (upd H p (.lst (xs ++ zs)))
theorem op_cat : OpR X (binaryOp .Add) rCat := by
  intro pins s σ H x y v u Q I rx ry h
  obtain ⟨l, b, xs, zs, rfl, rfl, hH, hB, hz, q⟩ := h
  cases rx
  cases ry
  obtain ⟨z, its, n, r, hl, e⟩ := I.lstM hH
  obtain ⟨z2, its2, n2, r2, hl2, e2⟩ := I.lstM hB
  refine PySem.P.add_list e e2 ?_ (by rw [List.size_toArray, List.size_toArray]; omega)
  have ea : its.toArray ++ its2.toArray = (its ++ its2).toArray := by simp
  rw [ea]
  exact ⟨.ref _, _, I.lnew (t' := s.toks) (r.append r2) (by rw [List.length_append]; omega), rfl, q _ I.fresh⟩
end
section
variable {prog : Program} {w : World} {A : Around} {E : Value → Shared → Prop} {s : Shared}
end
section
variable {X : Cx}
end
end L2
namespace L2
open PySem PySem.Spec PyProof.Rows
section
variable {κ : Type} [DecidableEq κ]
def valV (kvs : List (κ × V)) (k : κ) : Option V := (kvs.find? fun kv => decide (kv.1 = k)).map (·.2)
def putK (kvs : List (κ × V)) (k : κ) (v : V) : List (κ × V) :=
  if (kvs.any fun kv => decide (kv.1 = k)) = true then kvs.map (fun kv => if kv.1 = k then (kv.1, v) else kv) else kvs ++ [(k, v)]
theorem valV_pos {p : κ × V} {r : List (κ × V)} {k : κ} (e : p.1 = k) : valV (p :: r) k = some p.2 := by simp [valV, List.find?_cons, e]
theorem valV_neg {p : κ × V} {r : List (κ × V)} {k : κ} (e : ¬ p.1 = k) : valV (p :: r) k = valV r k := by simp [valV, List.find?_cons, e]
theorem valV_any (k : κ) : ∀ kvs : List (κ × V), (kvs.any fun kv => decide (kv.1 = k)) = (valV kvs k).isSome
  | [] => rfl
  | p :: r => by
    rw [List.any_cons]
    by_cases e : p.1 = k
    · simp only [valV_pos e, decide_eq_true e, Bool.true_or, Option.isSome_some]
    · rw [valV_neg e, decide_eq_false e, Bool.false_or]; exact valV_any k r
theorem length_putK (kvs : List (κ × V)) (k : κ) (v : V) : (putK kvs k v).length ≤ kvs.length + 1 := by
  unfold putK
  split
  · rw [List.length_map]; omega
  · rw [List.length_append, List.length_cons, List.length_nil]; omega
theorem putK_new {kvs : List (κ × V)} {k : κ} (v : V) (h : valV kvs k = none) : putK kvs k v = kvs ++ [(k, v)] := by
  unfold putK
  rw [valV_any, h]
  exact if_neg (by decide)
theorem RelO.isSome_eq {o : Option V} {u : Option Value} (r : RelO o u) : o.isSome = u.isSome := by
  cases o with
  | none => cases u with
    | none => rfl
    | some _ => exact (show False from r).elim
  | some _ => cases u with
    | none => exact (show False from r).elim
    | some _ => rfl
theorem RelO.getD {o : Option V} {u : Option Value} {d : V} {d' : Value} (r : RelO o u) (rd : RelV d d') : RelV (o.getD d) (u.getD d') := by
  cases o with
  | none => cases u with
    | none => exact rd
    | some _ => exact (show False from r).elim
  | some _ => cases u with
    | none => exact (show False from r).elim
    | some _ => exact r
theorem KV.val {kvs : List (κ × V)} {vs : List (κ × Value)} (r : KV kvs vs) (k : κ) : RelO (valV kvs k) (valueAt vs k) := by
  unfold KV at r
  induction r with
  | nil => exact True.intro
  | @cons p q ps qs h t ih =>
    obtain ⟨h1, h2⟩ := h
    by_cases e : p.1 = k
    · have e' : q.1 = k := h1.symm.trans e
      have b : valueAt (q :: qs) k = some q.2 := by simp [valueAt, List.find?_cons, e']
      rw [valV_pos e, b]; exact h2
    · have e' : ¬ q.1 = k := fun z => e (h1.trans z)
      have b : valueAt (q :: qs) k = valueAt qs k := by simp [valueAt, List.find?_cons, e']
      rw [valV_neg e, b]; exact ih
theorem KV.any {kvs : List (κ × V)} {vs : List (κ × Value)} (r : KV kvs vs) (k : κ) : (kvs.any fun kv => decide (kv.1 = k)) = vs.any fun kv => decide (kv.1 = k) := by
  unfold KV at r
  induction r with
  | nil => rfl
  | cons h t ih => rw [List.any_cons, List.any_cons, ih, h.1]
theorem KV.repl {kvs : List (κ × V)} {vs : List (κ × Value)} (r : KV kvs vs) (k : κ) {y : V} {u : Value} (ry : RelV y u) :
    KV (kvs.map fun kv => if kv.1 = k then (kv.1, y) else kv) (vs.map fun kv => if kv.1 = k then (kv.1, u) else kv) := by
  unfold KV at r ⊢
  induction r with
  | nil => exact .nil
  | @cons p q ps qs h t ih =>
    rw [List.map_cons, List.map_cons]
    refine .cons ?_ ih
    obtain ⟨h1, h2⟩ := h
    by_cases e : p.1 = k
    · rw [if_pos e, if_pos (h1.symm.trans e)]; exact ⟨h1, ry⟩
    · rw [if_neg e, if_neg (fun z => e (h1.trans z))]; exact ⟨h1, h2⟩
theorem KV.put {kvs : List (κ × V)} {vs : List (κ × Value)} (r : KV kvs vs) (k : κ) {y : V} {u : Value} (ry : RelV y u) : KV (putK kvs k y) (stored vs k u) := by
  unfold putK stored
  rw [r.any k]
  by_cases e : (vs.any fun kv => decide (kv.1 = k)) = true
  · rw [if_pos e, if_pos e]; exact r.repl k ry
  · rw [if_neg e, if_neg e]; exact Paired.snoc r ⟨rfl, ry⟩
theorem KV.length {kvs : List (κ × V)} {vs : List (κ × Value)} (r : KV kvs vs) : kvs.length = vs.length := Paired.length r
end
theorem kV_is {P : Program} {w : World} {k : Key} {u : Value} (r : RelV (kV k) u) : (mixKind P w).is k u = true := by
  cases k with
  | inl i => obtain ⟨t, e⟩ := (show ∃ t, u = Value.int i t from r); subst e; exact mixKind_int P w i t
  | inr x => obtain ⟨t, e⟩ := (show ∃ t, u = Value.str x t from r); subst e; exact mixKind_str P w x t
  | non => cases (show u = Value.none from r); rfl
theorem items_are {P : Program} {w : World} : ∀ {ks : List Key} {us : List Value}, Vals (ks.map kV) us → ItemsAre (mixKind P w) ks us
  | [], _, r => by rw [List.map_nil] at r; cases r; exact .nil
  | k :: ks, _, r => by
    rw [List.map_cons] at r
    cases r with
    | cons h t => exact .cons (kV_is h) (items_are t)
abbrev KT (H : Hp) : List (List Key × V) → List (List Key × Addr × Value) → Prop := Paired fun p q => p.1 = q.1 ∧ H q.2.1 = some (.tup (p.1.map kV)) ∧ RelV p.2 q.2.2
theorem KT.val {H : Hp} {kvs : List (List Key × V)} {xs : List (List Key × Addr × Value)} (r : KT H kvs xs) (k : List Key) : RelO (valV kvs k) ((atKey xs k).map (·.2)) := by
  induction r with
  | nil => exact True.intro
  | @cons p q ps qs h t ih =>
    obtain ⟨h1, _, h2⟩ := h
    by_cases e : p.1 = k
    · have e' : q.1 = k := h1.symm.trans e
      have b : atKey (q :: qs) k = some q.2 := by simp [atKey, List.find?_cons, e']
      rw [valV_pos e, b]; exact h2
    · have e' : ¬ q.1 = k := fun z => e (h1.trans z)
      have b : atKey (q :: qs) k = atKey qs k := by simp [atKey, List.find?_cons, e']
      rw [valV_neg e, b]; exact ih
theorem KT.repl {H : Hp} {kvs : List (List Key × V)} {xs : List (List Key × Addr × Value)} (r : KT H kvs xs) (k : List Key) {y : V} {u : Value} (ry : RelV y u) :
    KT H (kvs.map fun kv => if kv.1 = k then (kv.1, y) else kv) (xs.map (putAt k u)) := by
  induction r with
  | nil => exact .nil
  | @cons p q ps qs h t ih =>
    rw [List.map_cons, List.map_cons]
    refine .cons ?_ ih
    obtain ⟨h1, h2, h3⟩ := h
    unfold putAt
    by_cases e : p.1 = k
    · rw [if_pos e, if_pos (h1.symm.trans e)]; exact ⟨h1, h2, ry⟩
    · rw [if_neg e, if_neg (fun z => e (h1.trans z))]; exact ⟨h1, h2, h3⟩
theorem KT.put {H : Hp} {kvs : List (List Key × V)} {xs : List (List Key × Addr × Value)} (r : KT H kvs xs) (k : List Key) {b : Addr} {y : V} {u : Value} (hb : H b = some (.tup (k.map kV))) (ry : RelV y u) :
    KT H (putK kvs k y) (storedH xs k b u) := by
  have e : (kvs.any fun kv => decide (kv.1 = k)) = (atKey xs k).isSome := by
    rw [valV_any, (r.val k).isSome_eq, Option.isSome_map]
  unfold putK storedH
  rw [e]
  by_cases q : (atKey xs k).isSome = true
  · rw [if_pos q, if_pos q]; exact r.repl k ry
  · rw [if_neg q, if_neg q]; exact Paired.snoc r ⟨rfl, hb, ry⟩
theorem KT.keeps {H H' : Hp} {kvs : List (List Key × V)} {xs : List (List Key × Addr × Value)} (r : KT H kvs xs) (ht : ∀ b ys, H b = some (.tup ys) → H' b = some (.tup ys)) : KT H' kvs xs :=
  Paired.mapP r fun _ _ z => ⟨z.1, ht _ _ z.2.1, z.2.2⟩
section
variable {P : Program} {w : World} {H : Hp} {h : Heap} {a : Addr}
theorem rd_of {u : HO} (ok : HOk P w H h) (e : Rd H a u) : ObjOk P w H h a u := e.ok ok
theorem dk_rd {kvs : List (Key × V)} (ok : HOk P w H h) (e : Rd H a (.dK kvs)) : kvs.length ≤ sizeLine ∧ (a == sysModules) = false ∧ ∃ vs, KV kvs vs ∧ h.DictOf (mixKind P w) a vs :=
  show ObjOk P w H h a (.dK kvs) from rd_of ok e
theorem dk_of {kvs : List (Key × V)} (ok : HOk P w H h) (e : H a = some (.dK kvs)) : kvs.length ≤ sizeLine ∧ (a == sysModules) = false ∧ ∃ vs, KV kvs vs ∧ h.DictOf (mixKind P w) a vs := dk_rd ok (.inl e)
theorem key_of {ks : List Key} (ok : HOk P w H h) (e : H a = some (.tup (ks.map kV))) : (tupleKind (mixKind P w)).is h ks a := by
  obtain ⟨_, its, r, o, h1, h2, n, h3⟩ := (show ObjOk P w H h a (.tup (ks.map kV)) from ok a _ e)
  exact ⟨o, its.toArray, n, h1, h2, h3, by simpa using items_are r⟩
theorem dt_rd {kvs : List (List Key × V)} (ok : HOk P w H h) (e : Rd H a (.dT kvs)) : kvs.length ≤ sizeLine ∧ (a == sysModules) = false ∧
    ∃ xs, KT H kvs xs ∧ h.DictOfH (tupleKind (mixKind P w)) a xs := by
  obtain ⟨z, y, xs, r, o, es, ep, h1, h2, h3, h4, h5⟩ := (show ObjOk P w H h a (.dT kvs) from rd_of ok e)
  refine ⟨z, y, xs, r, o, es, ep, h1, h2, h3, h4, fun x hx => ?_, h5⟩
  have all : ∀ {l : List (List Key × V)} {m : List (List Key × Addr × Value)}, KT H l m → ∀ x ∈ m, (tupleKind (mixKind P w)).is h x.1 x.2.1 := by
    intro l m q
    induction q with
    | nil => intro x hx; exact nomatch hx
    | @cons p q ps qs hq t ih =>
      intro x hx
      rcases List.mem_cons.mp hx with e | hx
      · subst e
        exact key_of ok (by rw [← hq.1]; exact hq.2.1)
      · exact ih x hx
  exact all r x hx
theorem dt_of {kvs : List (List Key × V)} (ok : HOk P w H h) (e : H a = some (.dT kvs)) : kvs.length ≤ sizeLine ∧ (a == sysModules) = false ∧
    ∃ xs, KT H kvs xs ∧ h.DictOfH (tupleKind (mixKind P w)) a xs := dt_rd ok (.inl e)
end
def DGet (H : Hp) (a : Addr) (y : V) (r : Option V) : Prop :=
  (∃ kvs k, Rd H a (.dK kvs) ∧ y = kV k ∧ r = valV kvs k) ∨ ∃ kvs k b, Rd H a (.dT kvs) ∧ y = .ref b ∧ H b = some (.tup (k.map kV)) ∧ r = valV kvs k
def DPut (H : Hp) (a : Addr) (y v : V) (H' : Hp) : Prop :=
  (∃ kvs k, H a = some (.dK kvs) ∧ y = kV k ∧ kvs.length < sizeLine ∧ H' = upd H a (.dK (putK kvs k v))) ∨
  ∃ kvs k b, H a = some (.dT kvs) ∧ y = .ref b ∧ H b = some (.tup (k.map kV)) ∧ kvs.length < sizeLine ∧ H' = upd H a (.dT (putK kvs k v))
theorem DGet.k {H : Hp} {a : Addr} {kvs : List (Key × V)} {k : Key} (e : H a = some (.dK kvs)) : DGet H a (kV k) (valV kvs k) := .inl ⟨kvs, k, .inl e, rfl, rfl⟩
theorem DGet.t {H : Hp} {a b : Addr} {kvs : List (List Key × V)} {k : List Key} (e : H a = some (.dT kvs)) (eb : H b = some (.tup (k.map kV))) : DGet H a (.ref b) (valV kvs k) := .inr ⟨kvs, k, b, .inl e, rfl, eb, rfl⟩
theorem DPut.k {H : Hp} {a : Addr} {kvs : List (Key × V)} {k : Key} {v : V} (e : H a = some (.dK kvs)) (hl : kvs.length < sizeLine) : DPut H a (kV k) v (upd H a (.dK (putK kvs k v))) := .inl ⟨kvs, k, e, rfl, hl, rfl⟩
theorem DPut.t {H : Hp} {a b : Addr} {kvs : List (List Key × V)} {k : List Key} {v : V} (e : H a = some (.dT kvs)) (eb : H b = some (.tup (k.map kV))) (hl : kvs.length < sizeLine) :
    DPut H a (.ref b) v (upd H a (.dT (putK kvs k v))) := .inr ⟨kvs, k, b, e, rfl, eb, hl, rfl⟩
section
variable {X : Cx} {pins : List (Addr × Obj)} {σ : St} {H : Hp} {s : Shared} {a : Addr} {y v : V} {u r : Value} {o : Option V} {A : Around} {E : Value → Shared → Prop}
theorem Inv.big (I : Inv X pins σ H s) : sysModules < s.heap.objs.size := by
  have h : mainGlobals < s.heap.objs.size := (I.mod.glob.keeps I.bk).lt
  exact Nat.lt_trans (by decide) h
theorem d_getItem {Q : Value → Shared → Prop} (hu : A.units + 1 < cLine) (I : Inv X pins σ H s) (g : DGet H a y (some v)) (ry : RelV y u) (h : ∀ w' s', Inv X pins σ H s' → RelV v w' → Q w' s') :
    wpAny (model X.prog X.w) A (getItem (.ref a) u) Q E s := by
  rcases g with ⟨kvs, k, e, ey, l⟩ | ⟨kvs, k, b, e, ey, eb, l⟩
  · subst ey
    obtain ⟨z, hd, vs, rel, dd⟩ := dk_rd I.hok e
    obtain ⟨w', hw, rw'⟩ := RelO.some_of (v := v) (o := valueAt vs k) (by rw [l]; exact rel.val k)
    exact wpAny_getItem_of (kV_is ry) dd.mapOf hw (h w' _ (I.tok _) rw')
  · subst ey
    cases (show u = Value.ref b from ry)
    obtain ⟨z, hd, xs, rel, dd⟩ := dt_rd I.hok e
    obtain ⟨w', hw, rw'⟩ := RelO.some_of (v := v) (o := (atKey xs k).map (·.2)) (by rw [l]; exact rel.val k)
    obtain ⟨p, hp, hp2⟩ := Option.map_eq_some_iff.mp hw
    refine wpAny_getItem_heap (tupleKind_room_in1 hu) (key_of I.hok eb) dd hp ?_
    rw [hp2]
    exact h w' _ (I.tok _) rw'
theorem d_write {h' : Heap} {t' : Nat} {ob : HO} (I : Inv X pins σ H s) (mu : Mut (H a)) (hs : Heap.SameBut a s.heap h') (he : ∃ q, h'.get? a = some q) (new : ObjOk X.prog X.w (upd H a ob) h' a ob) :
    Inv X pins σ (upd H a ob) { s with heap := h', toks := t' } :=
  I.write (x := a) (e := a) mu (.inl rfl) (fun b q hb z => (hs.2 b hb).trans z) he new
theorem dk_new {P : Program} {w : World} {H' : Hp} {h' : Heap} {kvs : List (Key × V)} {vs : List (Key × Value)} (z : kvs.length ≤ sizeLine) (hd : (a == sysModules) = false) (rel : KV kvs vs) (dd : h'.DictOf (mixKind P w) a vs) :
    ObjOk P w H' h' a (.dK kvs) := ⟨z, hd, vs, rel, dd⟩
theorem d_setItem {H' : Hp} {Q : Unit → Shared → Prop} (hu : A.units + 1 < cLine) (I : Inv X pins σ H s) (g : DPut H a y v H') (ry : RelV y u) (rv : RelV v r) (h : ∀ s', Inv X pins σ H' s' → Q () s') :
    wpAny (model X.prog X.w) A (setItem (.ref a) u r) Q E s := by
  rcases g with ⟨kvs, k, e, ey, l, eH⟩ | ⟨kvs, k, b, e, ey, eb, l, eH⟩
  · subst ey eH
    obtain ⟨z, hd, vs, rel, dd⟩ := dk_of I.hok e
    have hz : vs.length ≤ sizeLine := by rw [← rel.length]; exact z
    have hl : (putK kvs k v).length ≤ sizeLine := by have := length_putK kvs k v; omega
    refine wpAny_setItem_pairs (hsz := hz) (kV_is ry) dd fun h' dd' hs => h _ ?_
    have he : ∃ q, h'.get? a = some q := let ⟨q, _, _, hq, _⟩ := dd'; ⟨q, hq⟩
    exact d_write I (by rw [e]; exact True.intro) hs he (dk_new hl hd (rel.put k rv) dd')
  · subst ey eH
    cases (show u = Value.ref b from ry)
    obtain ⟨z, hd, xs, rel, dd⟩ := dt_of I.hok e
    have hz : xs.length ≤ sizeLine := by rw [← Paired.length rel]; exact z
    have hl : (putK kvs k v).length ≤ sizeLine := by have := length_putK kvs k v; omega
    refine wpAny_setItem_heap (hsz := hz) (tupleKind_room_in1 hu) (key_of I.hok eb) dd fun h' dd' hs => h _ ?_
    obtain ⟨q, es, ep, hq, h2, h3, h4, _, h5⟩ := dd'
    refine d_write I (by rw [e]; exact True.intro) hs ⟨q, hq⟩ ⟨hl, hd, _, (rel.put k eb rv).keeps fun c ys ec => ?_, q, es, ep, hq, h2, h3, h4, h5⟩
    rw [upd_ne (ne_of ec e (fun z => nomatch z))]
    exact ec
end
section
variable {X : Cx} {pins : List (Addr × Obj)} {σ : St} {H : Hp} {s : Shared} {a : Addr} {kvs : List (Key × V)} {k : Key} {u : Value} {A : Around} {E : Value → Shared → Prop}
theorem d_clear {Q : Value → Shared → Prop} (I : Inv X pins σ H s) (e : H a = some (.dK kvs)) (h : ∀ s', Inv X pins σ (upd H a (.dK [])) s' → Q .none s') : wpAny (model X.prog X.w) A (call (.builtin "dict.clear") [.ref a]) Q E s := by
  obtain ⟨z, hd, vs, rel, dd⟩ := dk_of I.hok e
  refine call_meetsIn PySem.F.slot_dict_clear dd.typeIs PySem.F.entry_dict_clear (PySem.F.args_dict_clear_1 _) (meets_dict_clear (mixKind X.prog X.w) a) ⟨vs, dd, by rw [← rel.length]; exact z, fun h' dd' hs => h _ ?_⟩
  have he : ∃ q, h'.get? a = some q := let ⟨q, _, _, hq, _⟩ := dd'; ⟨q, hq⟩
  exact d_write (t' := s.toks) I (by rw [e]; exact True.intro) hs he (dk_new (Nat.zero_le _) hd .nil dd')
end
def NoSl (i : Expr) : Prop := ∀ ov iv, subscripted i false ov iv = operate [ov, iv] (getItem ov iv)
theorem subD_of {prog : Program} {w : World} {A : Around} {E : Value → Shared → Prop} {s : Shared} {env : Env} {value slice : Expr} {pos : Pos} {T id : String} {Q : Value → Shared → Prop}
    (hl : typeLookup (.type T) "__getitem__" = pure (some (.builtin id))) (hs : NoSl slice)
    (h : wpAny (model prog w) A (eval value env) (fun o s₁ => wpAny (model prog w) A (eval slice env) (fun i s₂ => s₂.TypeIs o T ∧ wpAny (model prog w) A (getItem o i) Q E s₂) E s₁) E s) :
    wpAny (model prog w) A (eval (.Subscript value slice pos) env) Q E s := by
  refine Subscript_ (wpAny_mono h (fun o s₁ h₁ => wpAny_mono h₁ (fun i s₂ h₂ => ?_) fun _ _ x => x) fun _ _ x => x)
  obtain ⟨hT, h₂⟩ := h₂
  unfold subscriptTail
  refine wpAny_bind ?_
  rw [getitemInPython_of_ne hT.not_modules]
  refine wpAny_bind (wpAny_specialOf hT hl ?_)
  have fin : wpAny (model prog w) A (subscripted slice false o i) (fun r s₃ => wpAny (model prog w) A (letTemporaryGo value o r >>= fun _ => pure r) Q E s₃) E s₂ := by
    rw [hs o i]
    exact wpAny_operating (wpAny_mono h₂ (fun r s₃ h₃ => wpAny_bind (wpAny_letTemporaryGo (wpAny_pure h₃))) fun _ _ x => x)
  first
    | exact wpAny_pure (wpAny_bind fin)
    | exact wpAny_bind (wpAny_pure (wpAny_bind fin))
    | exact wpAny_bind fin
theorem dict_typeIs {X : Cx} {pins : List (Addr × Obj)} {σ : St} {H : Hp} {s : Shared} {a : Addr} {y : V} {o : Option V} (I : Inv X pins σ H s) (g : DGet H a y o) : s.TypeIs (.ref a) "dict" := by
  rcases g with ⟨kvs, k, e, _, _⟩ | ⟨kvs, k, b, e, _, _, _⟩
  · obtain ⟨_, _, vs, _, dd⟩ := dk_rd I.hok e
    exact dd.typeIs
  · obtain ⟨_, _, xs, _, dd⟩ := dt_rd I.hok e
    exact dd.typeIs
def tDGet (td ty : TE) : TE := fun σ H Q => td σ H fun x H1 => ty σ H1 fun y H2 => ∃ a v, x = .ref a ∧ DGet H2 a y (some v) ∧ Q v H2
def sDPut (td ty tv : TE) : TS := fun D σ H => tv σ H fun v H1 => td σ H1 fun x H2 => ty σ H2 fun y H3 => ∃ a H4, x = .ref a ∧ DPut H3 a y v H4 ∧ D.nx σ H4
section
variable {X : Cx} {o i e value : Expr} {pos pos' tpos : Pos} {td ty tv : TE}
theorem pe_dget (hu : X.A.units + 1 < cLine) (ho : PE X o td) (hi : PE X i ty) (hs : NoSl i) : PE X (.Subscript o i pos) (tDGet td ty) := by
  intro pins s σ H Q I h
  refine subD_of PySem.F.slot_dict_getitem.lookup hs (thn (ho pins s σ H _ I h) fun u s1 ⟨x, H1, I1, rx, q1⟩ => thn (hi pins s1 σ H1 _ I1 q1) fun iv s2 ⟨y, H2, I2, ry, a, v, ex, g, q2⟩ => ?_)
  subst ex
  obtain rfl : u = Value.ref a := rx
  exact ⟨dict_typeIs I2 g, d_getItem hu I2 g ry fun w' s3 I3 rw' => ⟨v, H2, I3, rw', q2⟩⟩
theorem ps_dput (hu : X.A.units + 1 < cLine) (ho : PE X o td) (hi : PE X i ty) (hv : PE X value tv) (hs : swapsWith value (some (.Subscript o i pos')) pos.line X.env = pure false) :
    PS X (.Assign [.Subscript o i pos'] value pos) (sDPut td ty tv) := by
  intro pins s σ H D I h
  refine wpAny_Assign_Subscript (thn (hv pins s σ H _ I h) fun r s1 ⟨v, H1, I1, rv, q1⟩ => thn (ho pins s1 σ H1 _ I1 q1) fun u s2 ⟨x, H2, I2, rx, q2⟩ => thn (hi pins s2 σ H2 _ I2 q2) fun iv s3 ⟨y, H3, I3, ry, a, H4, ex, g, q3⟩ => ?_) hs
  subst ex
  obtain rfl : u = Value.ref a := rx
  exact d_setItem hu I3 g ry rv fun s4 I4 => ⟨σ, H4, I4, q3⟩
end
theorem dk_empty {P : Program} {w : World} {H : Hp} (h : Heap) (hb : sysModules < h.objs.size) : ObjOk P w H (h.push { cls := .type "dict", data := .dict #[] }) h.objs.size (.dK []) :=
  ⟨Nat.zero_le _, beq_eq_false_iff_ne.mpr (Ne.symm (Nat.ne_of_lt hb)), [], .nil, Heap.DictOf.new h⟩
theorem dt_empty {P : Program} {w : World} {H : Hp} (h : Heap) (hb : sysModules < h.objs.size) : ObjOk P w H (h.push { cls := .type "dict", data := .dict #[] }) h.objs.size (.dT []) :=
  ⟨Nat.zero_le _, beq_eq_false_iff_ne.mpr (Ne.symm (Nat.ne_of_lt hb)), [], .nil, _, #[], 0, Heap.get?_push_size _ rfl, ⟨rfl, rfl, rfl⟩, rfl, rfl, List.nodup_nil⟩
def tDNewK : TE := fun _ H Q => ∀ p, H p = none → Q (.ref p) (upd H p (.dK []))
def tDNewT : TE := fun _ H Q => ∀ p, H p = none → Q (.ref p) (upd H p (.dT []))
section
variable {X : Cx} {pos : Pos}
theorem pe_dnewK : PE X (.Dict [] [] pos) tDNewK := fun pins s σ H Q I h =>
  wpAny_Dict_empty ⟨.ref s.heap.objs.size, _, I.laid (a := s.heap.objs.size) (o := .dK []) (t' := s.toks) (fun _ _ q => Heap.get?_push_of_some _ q) (Nat.le_refl _) (dk_empty s.heap I.big), rfl, h _ (I.hok.fresh (Nat.le_refl _))⟩
theorem pe_dnewT : PE X (.Dict [] [] pos) tDNewT := fun pins s σ H Q I h =>
  wpAny_Dict_empty ⟨.ref s.heap.objs.size, _, I.laid (a := s.heap.objs.size) (o := .dT []) (t' := s.toks) (fun _ _ q => Heap.get?_push_of_some _ q) (Nat.le_refl _) (dt_empty s.heap I.big), rfl, h _ (I.hok.fresh (Nat.le_refl _))⟩
end
def tPairs : List (TE × TE) → St → Hp → (List (V × V) → Hp → Prop) → Prop
  | [], _, H, Q => Q [] H
  | (tk, tv) :: r, σ, H, Q => tk σ H fun x H1 => tv σ H1 fun y H2 => tPairs r σ H2 fun ps H3 => Q ((x, y) :: ps) H3
abbrev VV : List (V × V) → List (Value × Value) → Prop := Paired fun p q => RelV p.1 q.1 ∧ RelV p.2 q.2
def PPs (X : Cx) (pos : Pos) (keys : List (Option Expr)) (values : List Expr) (trs : List (TE × TE)) : Prop :=
  ∀ (pins : List (Addr × Obj)) (s : Shared) (σ : St) (H : Hp) (Q : List (V × V) → Hp → Prop), Inv X pins σ H s → tPairs trs σ H Q →
    wpAny (model X.prog X.w) X.A (evalPairs (pairTrees keys values X.env pos)) (fun vs s' => ∃ ps H', Inv X pins σ H' s' ∧ VV ps vs ∧ Q ps H') X.xe s
theorem pps_nil {X : Cx} {pos : Pos} : PPs X pos [] [] [] := fun pins s σ H Q I h => pairTrees_nil_walk ⟨[], H, I, .nil, h⟩
theorem pps_cons {X : Cx} {pos : Pos} {k v : Expr} {ks : List (Option Expr)} {vs : List Expr} {tk tv : TE} {trs : List (TE × TE)} (hk : PE X k tk) (hv : PE X v tv) (hr : PPs X pos ks vs trs) :
    PPs X pos (some k :: ks) (v :: vs) ((tk, tv) :: trs) := fun pins s σ H Q I h =>
  pairTrees_cons_walk (thn (hk pins s σ H _ I h) fun u s1 ⟨x, H1, I1, rx, q1⟩ => thn (hv pins s1 σ H1 _ I1 q1) fun w2 s2 ⟨y, H2, I2, ry, q2⟩ =>
    thn (hr pins s2 σ H2 _ I2 q2) fun ws s3 ⟨ps, H3, I3, rel, q3⟩ => ⟨(x, y) :: ps, H3, I3, .cons ⟨rx, ry⟩ rel, q3⟩)
structure M2 (X : Cx) (o : Expr) (m : Str) (apos : Pos) (e f : Expr) (cpos : Pos) : Prop where
  base : attributeBase o m X.env (eval o X.env) = eval o X.env
  few : ((backTo cpos (starEach [e, f] X.env)).all (fun x => !x.1) && (backToKw cpos (keywordEach [] X.env)).all (fun x => x.1.isSome)
    && decide (([e, f] : List Expr).length + ([] : List Keyword).length + (if ([] : List Keyword).isEmpty then 0 else 1) < 30)) = true
  line : (apos.endLine == cpos.line) = true
  trees : backTo cpos (starEach [e, f] X.env) = [(false, eval e X.env), (false, eval f X.env)]
def IsD (H : Hp) (a : Addr) : Prop := (∃ kvs, Rd H a (.dK kvs)) ∨ ∃ kvs, Rd H a (.dT kvs)
theorem isD_at {X : Cx} {pins : List (Addr × Obj)} {σ : St} {H : Hp} {s : Shared} {a : Addr} (I : Inv X pins σ H s) (d : IsD H a) :
    s.TypeIs (.ref a) "dict" ∧ (∀ b, Value.ref a = .ref b → ∃ ob, s.heap.get? b = some ob ∧ ob.dict = none) ∧ (a == sysModules) = false := by
  rcases d with ⟨kvs, e⟩ | ⟨kvs, e⟩
  · obtain ⟨_, hd, vs, _, dd⟩ := dk_rd I.hok e
    refine ⟨dd.typeIs, fun b q => ?_, hd⟩
    cases q
    obtain ⟨ob, _, _, h1, h2, _⟩ := dd
    exact ⟨ob, h1, h2.2.1⟩
  · obtain ⟨_, hd, xs, _, dd⟩ := dt_rd I.hok e
    refine ⟨dd.typeIs, fun b q => ?_, hd⟩
    cases q
    obtain ⟨ob, _, _, h1, h2, _⟩ := dd
    exact ⟨ob, h1, h2.2.1⟩
section
variable {X : Cx} {pins : List (Addr × Obj)} {σ : St} {H : Hp} {s : Shared} {a : Addr} {y d : V} {u r : Value} {o : Option V} {A : Around} {E : Value → Shared → Prop}
theorem d_get2 {Q : Value → Shared → Prop} (hu : A.units + 1 < cLine) (I : Inv X pins σ H s) (g : DGet H a y o) (ry : RelV y u) (rd : RelV d r) (h : ∀ w' s', Inv X pins σ H s' → RelV (o.getD d) w' → Q w' s') :
    wpAny (model X.prog X.w) A (call (.builtin "dict.get") [.ref a, u, r]) Q E s := by
  rcases g with ⟨kvs, k, e, ey, l⟩ | ⟨kvs, k, b, e, ey, eb, l⟩
  · subst ey
    obtain ⟨z, hd, vs, rel, dd⟩ := dk_rd I.hok e
    refine call_meetsIn PySem.F.slot_dict_get dd.typeIs PySem.F.entry_dict_get (PySem.F.args_dict_get_3 _ _ _) (meets_dict_get_default (mixKind X.prog X.w) a (kV_is ry) hd r) ⟨_, dd.mapOf, h _ _ (I.tok _) ?_⟩
    rw [l]
    exact (rel.val k).getD rd
  · subst ey
    cases (show u = Value.ref b from ry)
    obtain ⟨z, hd, xs, rel, dd⟩ := dt_rd I.hok e
    refine call_meetsIn PySem.F.slot_dict_get dd.typeIs PySem.F.entry_dict_get (PySem.F.args_dict_get_3 _ _ _) (meetsH_dict_get_default (tupleKind (mixKind X.prog X.w)) a b hd r) ⟨tupleKind_room_in1 hu, k, xs, key_of I.hok eb, dd, h _ _ (I.tok _) ?_⟩
    rw [l]
    exact (rel.val k).getD rd
end
def tDGet2 (td ty tx : TE) : TE := fun σ H Q => td σ H fun x H1 => ∃ a, x = .ref a ∧ IsD H1 a ∧ ty σ H1 fun y H2 => tx σ H2 fun z H3 => ∃ o, DGet H3 a y o ∧ Q (o.getD z) H3
section
variable {X : Cx} {o e f : Expr} {apos cpos : Pos} {td ty tx : TE}
theorem pe_dget2 (hu : X.A.units + 1 < cLine) (ho : PE X o td) (he : PE X e ty) (hf : PE X f tx) (m : M2 X o "get" apos e f cpos) : PE X (.Call (.Attribute o "get" apos) [e, f] [] cpos) (tDGet2 td ty tx) := by
  intro pins s σ H Q I h
  refine wpAny_Call_method m.base m.few m.line PySem.F.plainAttrs_dict PySem.F.slot_dict_get PySem.F.type_dict_get (thn (ho pins s σ H _ I h) fun u s1 ⟨x, H1, I1, rx, a, ex, d, q1⟩ => ?_)
  subst ex
  obtain rfl : u = Value.ref a := rx
  obtain ⟨t1, t2, _⟩ := isD_at I1 d
  refine ⟨t1, t2, ?_⟩
  rw [m.trees]
  refine Calls.callWith_builtin rfl (Calls.evalArgs_plain (Calls.spliced_cons (thn (he pins s1 σ H1 _ I1 q1) fun iv s2 ⟨y, H2, I2, ry, q2⟩ =>
    Calls.spliced_cons (thn (hf pins s2 σ H2 _ I2 q2) fun fv s3 ⟨z, H3, I3, rz, ov, g, q3⟩ => Calls.spliced_nil ?_))))
  exact d_get2 hu I3 g ry rz fun w' s4 I4 rw' => ⟨_, H3, I4, rw', q3⟩
end
section
variable {X : Cx} {pins : List (Addr × Obj)} {σ : St} {H : Hp} {s : Shared} {a : Addr} {kvs : List (Key × V)} {A : Around} {E : Value → Shared → Prop}
end
section
variable {X : Cx} {pins : List (Addr × Obj)} {σ : St} {H : Hp} {s : Shared} {a : Addr} {y : V} {u : Value} {A : Around} {E : Value → Shared → Prop}
end
end L2
namespace Att
open PySem PySem.W PySem.Calls PyProof.Rows
theorem ints_of_wellAll {P : Params} {h : Heap} : ∀ (ns : List Int) (vs : List Value), WellAll P h vs (ns.map WData.int) → IntsAre vs ns := by
  intro ns
  induction ns with
  | nil =>
    intro vs w
    rw [List.map_nil] at w
    cases w
    exact .nil
  | cons n ns ih =>
    intro vs w
    rw [List.map_cons] at w
    cases w with
    | cons a b =>
      cases a
      exact .cons _ _ (ih _ b)
theorem script_of {l : OpenLaw} {n : Nat} (hn : l.most = some n) {P : Params} {h : Heap} {args : List WData} {vals : List Value}
    (hpre : l.row.toRowW.claim.pre args = true) (hwl : WellAll P h vals args) :
    ∃ a vs ns, vals = [Value.ref a] ∧ args = [WData.list (ns.map WData.int)] ∧ h.get? a = some { cls := .type "list", data := .seq vs.toArray } ∧ IntsAre vs ns ∧ ns.length ≤ n := by
  have hsh : WShape.hasAll [] args [.list .int] = true := (pre_splitW hpre).1
  have hc : l.pre.holds [] { args := args } = true := (pre_splitW hpre).2
  obtain ⟨d, r, rfl, h1, h2⟩ := hasAllW_cons hsh
  obtain rfl := hasAllW_nil h2
  obtain ⟨xs, rfl, h3⟩ := hasW_list h1
  obtain ⟨ns, rfl⟩ := items_int h3
  have hlen : ns.length ≤ n := by
    unfold OpenLaw.pre at hc
    have h4 : (WTm.not (.lt (.lit (.int (n : Int))) (.len (.arg 0)))).holds [] { args := [.list (ns.map .int)] } = true := by
      have h4 := (holds_andW hc).1
      rw [hn] at h4
      exact h4
    have h5 := condW_of h4 (w_not (w_lt w_lit (w_len_list (w_arg rfl))))
    rw [List.length_map] at h5
    refine Nat.le_of_not_lt fun q => ?_
    have q' : (n : Int) < ((ns.length : Nat) : Int) := by omega
    first
      | (rw [decide_eq_true q'] at h5; exact absurd h5 (by decide))
      | (simp at h5; omega)
  cases hwl with
  | cons w1 w2 =>
    cases w2
    cases w1 with
    | list ho hall => exact ⟨_, _, ns, rfl, rfl, ho, ints_of_wellAll ns _ hall, hlen⟩
theorem post_true (l : OpenLaw) (args : List WData) : l.row.toRowW.claim.post args (.bool true) args = true :=
  postW_of (r := l.row.toRowW) (X := (true == true))
    (show WShape.has [] (.bool true) .bool = true by first | rfl | decide | simp [WShape.has, WShape.arms, WShape.armsAll])
    (show (WTm.eq .res (.lit (.bool true))).value [] { args := args, res := some (.bool true), after := args } = some (.bool (true == true)) from w_eq_bool (w_res rfl) w_lit) rfl
section
variable {prog : Program} {w : World} {A : Around} {E : Value → Shared → Prop} {s : Shared} {K : Frag}
end
end Att
namespace L2
open PySem PySem.Spec PyProof.Rows
theorem vals_ints : ∀ {vs : List Value} {ns : List Int}, IntsAre vs ns → Vals (ns.map V.int) vs
  | _, _, .nil => .nil
  | _, _, .cons n t h => .cons ⟨t, rfl⟩ (vals_ints h)
def Only (H : Hp) : Prop := ∀ b, H b = none ∨ ∃ o xs, H b = some (.frz o (.lst xs))
end L2
namespace L2
open PySem PySem.Spec PyProof.Rows
end L2
namespace L2
open PySem PySem.Spec PyProof.Rows
def inClass (s : Stmt) (j : Nat) : Stmt := match s with
  | .ClassDef _ _ _ body _ _ _ _ _ _ _ => body.getD j (.Pass ⟨0, 0, 0, 0⟩)
  | _ => .Pass ⟨0, 0, 0, 0⟩
def defArgs (s : Stmt) : Arguments := match s with
  | .FunctionDef _ a _ _ _ _ _ _ _ _ => a
  | _ => { posonlyargs := [], args := [], vararg := none, kwonlyargs := [], kw_defaults := [], kwarg := none, defaults := [] }
def defBody (s : Stmt) : List Stmt := match s with
  | .FunctionDef _ _ b _ _ _ _ _ _ _ => b
  | _ => []
def defScope (s : Stmt) : Scope := match s with
  | .FunctionDef _ _ _ _ _ _ sc _ _ _ => sc
  | _ => { kind := .function, names := [], isGenerator := false, isCoroutine := false }
abbrev CX0 : CXT := fun _ _ _ _ _ _ => False
abbrev E0 : XK := fun _ _ _ => False
theorem pass0 {X : Cx} : Passes CX0 X E0 := fun _ _ _ _ _ _ _ h => h.elim
structure Fun (K : PySem.W.Frag) (x qual : Str) (st : Stmt) (f : Addr) (fd : FuncData) : Prop where
  ex : ∃ (oc : Value) (od : Option Addr) (kV doc pm : Value) (an : Option Addr) (cdv ct : Value) (osl : Array (Option Value)),
    fd = PySem.W.fnOf x qual (defArgs st) (defBody st) (defScope st) .none kV doc pm an cdv ct ∧ K.lookup f = some ⟨oc, od, .func fd, osl⟩ ∧ PySem.W.codeIn K cdv qual = true
  kp : PySem.W.keepIn K (.ref f) = true
section
variable {P : Program} {w : World} {K : PySem.W.Frag} {mg : Str → Option Value} {base : Heap}
theorem Fun.ok {x qual : Str} {st : Stmt} {f : Addr} {fd : FuncData} {N ps : List Str} {k : Nat} {sp : Sp} (F : Fun K x qual st f fd) (S : FnScope N ps (defScope st)) (len : ∀ vs H Q E, sp vs H Q E → vs.length = ps.length)
    (hbody : ∀ (cdv : Value) (A : Around) (outer : List Env) (s : Shared) (H : Hp) (vs : List V) (Q : VK) (E : XK), Room k (A.deeper (envOfC qual (defScope st) s.heap.objs.size f cdv)) → sp vs H Q E →
      ∃ t, PSs (cxOf CX0 P w K mg base N qual (defScope st) f cdv A outer s H E).nox (defBody st) t ∧ t { nx := fun _ H' => Q .non H', rt := Q } (start N vs) H) : FnOk P w K mg base CX0 (k + 1) f fd ps sp := by
  obtain ⟨oc, od, kV, doc, pm, an, cdv, ct, osl, rfl, lk, hcd⟩ := F.ex
  refine fn_of lk hcd S len fun A outer s H vs Q E hr hsp => ?_
  obtain ⟨t, h, q⟩ := hbody cdv A outer s H vs Q E hr hsp
  exact ⟨t, h.nox, q⟩
theorem Fun.binds {x qual : Str} {st : Stmt} {f : Addr} {fd : FuncData} {ps : List Str} (F : Fun K x qual st f fd)
    (h : ∀ (kV doc pm : Value) (an : Option Addr) (cdv ct : Value) (us : List Value), us.length = ps.length → bindArgs (PySem.W.fnOf x qual (defArgs st) (defBody st) (defScope st) .none kV doc pm an cdv ct) ⟨us, []⟩ = pure (ps.zip us)) : Binds K fd ps [] := by
  obtain ⟨oc, od, kV, doc, pm, an, cdv, ct, osl, rfl, lk, hcd⟩ := F.ex
  exact .all (h kV doc pm an cdv ct)
theorem fun_mk {x qual : Str} {st : Stmt} {f : Addr} {oc : Value} {od an : Option Addr} {osl : Array (Option Value)} {kV doc pm cdv ct : Value} (l : K.lookup f = some ⟨oc, od, .func (PySem.W.fnOf x qual (defArgs st) (defBody st) (defScope st) .none kV doc pm an cdv ct), osl⟩)
    (c : PySem.W.codeIn K cdv qual = true) (k : PySem.W.keepIn K (.ref f) = true) : Fun K x qual st f (PySem.W.fnOf x qual (defArgs st) (defBody st) (defScope st) .none kV doc pm an cdv ct) := ⟨⟨oc, od, kV, doc, pm, an, cdv, ct, osl, rfl, l, c⟩, k⟩
end
section
variable {X : Cx}
theorem pv (i : Nat) {x : Str} {pos : Pos} (hN : X.N[i]? = some x := by rfl) (hv : Vis X.env.scope x := by first | exact Or.inl rfl | exact Or.inr (Or.inl rfl) | exact Or.inr (Or.inr rfl)) (hd : (x == ("__debug__" : Str)) = false := by decide)
    (hcd : (x == ("__classdict__" : Str)) = false := by decide) : PE X (.Name x pos) (tVar i) := pe_var hN hv hd hcd
end
theorem ite2 {c A B : Prop} [Decidable c] (h1 : c → A) (h2 : ¬ c → B) : if c then A else B := by
  by_cases h : c
  · rw [if_pos h]
    exact h1 h
  · rw [if_neg h]
    exact h2 h
section
variable {X : Cx}
end
section
variable {κ : Type} [DecidableEq κ]
end
end L2
set_option Elab.async false
set_option linter.all false
set_option maxRecDepth 100000
set_option maxHeartbeats 4000000
namespace Att
open PySem PySem.W PySem.Calls PyProof.Rows
theorem script_low {R : WRecords} {cl : Str → Option Addr} {h : Heap} {a : Addr} {ds : List WData} {as : List Addr} (r : ReadsAllW R cl h [.ref a] [.list ds] as) : a ∈ as := by
  cases r with
  | cons r1 r2 =>
    cases r1 with
    | list => simp
theorem attach_callS {l : OpenLaw} {n : Nat} {q : Program} {loose : List Str} {XP : (Str → Option Value) → Heap → Prop} {YP : World → Heap → Prop} {d : DefRec}
    (hn : l.most = some n) (hdf : d.params.defaults = [])
    (call : ∀ (w : World) (s₀ s₁ : Shared) (mg mb : Str → Option Value) (fa : Addr) (o : Obj) (pm cd doc : Value) (a : Addr) (vs : List Value) (ns : List Int),
      Ground q loose [] XP w s₀ mg mb s₁.heap → YP w s₁.heap →
      s₁.heap.get? fa = some o → o.data = .func (docDef d.name d.params d.body d.scope pm cd doc) → s₁.heap.CodeRec cd d.name → mg d.name = some (.ref fa) →
      s₁.heap.get? a = some { cls := .type "list", data := .seq vs.toArray } → IntsAre vs ns → ns.length ≤ n → s₁.gens = #[] → a ≠ sysModules →
      codeAny (model l.prog w) callerA (.call (.ref fa) ⟨[.ref a], []⟩) (fun r s' => r = .ok (.ret (.bool true)) ∧ OldK s₁.heap s'.heap ∧ s'.os = s₁.os ∧ AllBare s'.gens) s₁) :
    WalkO q loose XP YP l.row.toRowW d [] (fun f vs => PySem.call f vs) := by
  intro w s₀ s₁ mg mb G Y fa o pm cd doc dV kV ho hd hcd hD hmg hg args vals as hpre hlay hrd hwl hlo
  obtain rfl : dV = .none := Dflts.none hD hdf
  obtain rfl : kV = .none := Dflts.noKw hD
  obtain ⟨a, vs, ns, rfl, rfl, hobj, hints, hlen⟩ := script_of hn hpre hwl
  have low : a ≠ sysModules := beq_eq_false_iff_ne.mp (hlo a (script_low hrd))
  refine enter_call (codeAny_mono (call w s₀ s₁ mg mb fa o pm cd doc a vs ns G Y ho (fd_plain hd) hcd hmg hobj hints hlen hg low) fun r s' hq => ?_)
  obtain ⟨rfl, h2, h3, h4⟩ := hq
  exact ⟨.inl ⟨.bool true, .bool true, [], rfl, fun _ => rfl, .bool true, post_true l _, fun _ => ⟨List.Pairwise.nil, fun _ hm => (nomatch hm)⟩⟩, h2, h3, h4⟩
end Att
namespace L2
open PySem PySem.Spec PyProof.Rows
theorem law_callS {P : Program} {w : World} {K : PySem.W.Frag} {mg mb : Str → Option Value} {CX : CXT} {k : Nat} {fa a : Addr} {fd : FuncData} {x : Str} {sp : Sp} {s₁ : Shared} {vs : List Value} {ns : List Int}
    (KX : K.In s₁.heap) (hns : s₁.heap.Ns mainGlobals mg) (hb : s₁.heap.Ns builtinsNs mb) (hbb : ∀ x : Str, x ≠ "__name__" → mb x = bootBuiltins x) (hlim : s₁.heap.NoLimit) (hg : s₁.gens = #[])
    (ha : s₁.heap.get? a = some { cls := .type "list", data := .seq vs.toArray }) (hi : IntsAre vs ns) (hl : ns.length ≤ sizeLine) (hr : Room k callerA) (low : a ≠ sysModules)
    (F : ∀ base : Heap, K.In base → base.Ns mainGlobals mg → FnOk P w K mg base CX k fa fd [x] sp) (hbind : ∀ (s : Shared) (u : Value), BindsTo s fd ⟨[u], []⟩ [(x, u)])
    (hsp : ∀ H : Hp, Only H → SqL K H a (ns.map V.int) → H sysModules = none → sp [.ref a] H (fun v _ => v = .bl true) fun _ _ _ => False)
    (hCX : ∀ H e s', CX [] H s₁ (fun _ _ _ => False) e s' → False) :
    codeAny (model P w) callerA (.call (.ref fa) ⟨[.ref a], []⟩) (fun r s' => r = .ok (.ret (.bool true)) ∧ OldK s₁.heap s'.heap ∧ s'.os = s₁.os ∧ AllBare s'.gens) s₁ := by
  have rv := vals_ints hi
  have lenV := hi.length
  have core : ∀ H : Hp, Only H → SqL K H a (ns.map V.int) → HOk P w H s₁.heap → (∀ b, H b ≠ none → b = a) → (H a ≠ none → K.lookup a = none) →
      codeAny (model P w) callerA (.call (.ref fa) ⟨[.ref a], []⟩) (fun r s' => r = .ok (.ret (.bool true)) ∧ OldK s₁.heap s'.heap ∧ s'.os = s₁.os ∧ AllBare s'.gens) s₁ := by
    intro H hO hS hok hA hK
    have hz : H sysModules = none := by
      cases q : H sysModules with
      | none => rfl
      | some u => exact absurd (hA _ (by rw [q]; simp)).symm low
    have base_of : ∀ {b : Addr} {o : Obj}, s₁.heap.get? b = some o → H b = none → (hidT s₁.heap H).get? b = some o := fun e n => hidT_get e n
    have noA : ∀ {b : Addr} {o : Obj} {es : Array DictEntry} {ep : Nat}, s₁.heap.get? b = some o → o.data = .dict es ep → H b = none := fun {b o es ep} e d => by
      cases q : H b with
      | none => rfl
      | some u =>
        have e' : b = a := hA b (by rw [q]; simp)
        subst e'
        rw [ha] at e; cases e
        have d' : Data.seq vs.toArray _ = Data.dict es ep := d
        cases d'
    have nsK : ∀ {b : Addr} {m : Str → Option Value}, s₁.heap.Ns b m → (hidT s₁.heap H).Ns b m := fun {b m} ⟨o, es, ep, e, d, r⟩ => ⟨o, es, ep, base_of e (noA e d), d, r⟩
    have hKb : K.In (hidT s₁.heap H) := fun b o e => base_of (KX b o e) (by
      cases q : H b with
      | none => rfl
      | some u =>
        have e' : b = a := hA b (by rw [q]; simp)
        subst e'
        rw [hK (by rw [q]; simp)] at e; cases e)
    have hM : Mod K mg (hidT s₁.heap H) := ⟨hKb, nsK hns, ⟨mb, nsK hb, hbb⟩, let ⟨mc, h1, h2⟩ := hlim; ⟨mc, nsK h1, h2⟩⟩
    have e0 : Env0 P w K mg (hidT s₁.heap H) callerA [] s₁ H := ⟨rfl, hM, fun b o e => of_hidT e, Nat.le_of_eq (hidT_size _ _), trivial, fun b hb => absurd (show b ∈ ([] : List Addr) from hb) (by simp), hok, .of_eq hg⟩
    refine codeAny_mono ((F _ hKb (nsK hns)).run callerA [] s₁ H ⟨[.ref a], []⟩ [.ref a] [.ref a] _ _ hr e0 (hbind s₁ (.ref a)) (.cons rfl .nil) (hsp H hO hS hz)) fun r s' h => ?_
    cases r with
    | error e => exact (hCX H e s' h).elim
    | ok fl =>
      cases fl with
      | next => exact False.elim h
      | brk => exact False.elim h
      | cont => exact False.elim h
      | ret u =>
        obtain ⟨v, H', os, bare, un, hok', r', q⟩ := h
        have q' : v = .bl true := q
        subst q'
        obtain rfl : u = Value.bool true := r'
        refine ⟨rfl, OldK.of_keep fun b o e => ?_, os, bare⟩
        cases q : H b with
        | none => exact un.keep b o e q (by intro z; exact absurd (show b ∈ ([] : List Addr) from z) (by simp)) (by simp)
        | some u =>
          rcases hO b with z | ⟨ob, xs, z⟩
          · rw [q] at z; cases z
          · have z2 := un.frzs b ob _ z
            obtain ⟨e1, _⟩ := hok b _ z
            obtain ⟨e2, _⟩ := hok' b _ z2
            rw [e] at e1; cases e1
            exact e2
  cases hk : K.lookup a with
  | some o =>
    have e := KX a o hk
    rw [ha] at e
    cases e
    refine core (fun _ => none) (fun _ => .inl rfl) (.inr ⟨_, vs.toArray, _, hk, rfl, rfl, rfl, by rw [List.size_toArray, lenV]; exact hl, by simpa using rv⟩) (fun b u z => by have z' : (none : Option HO) = some u := z; cases z') (fun b z => absurd rfl z) fun z => absurd rfl z
  | none =>
    refine core (fun b => if b = a then some (.frz { cls := .type "list", data := .seq vs.toArray } (.lst (ns.map V.int))) else none) (fun b => ?_) (.inl (.inr ⟨{ cls := .type "list", data := .seq vs.toArray }, if_pos rfl⟩)) (fun b u z => ?_) (fun b z => ?_) fun _ => hk
    · by_cases hb : b = a
      · exact .inr ⟨_, _, if_pos hb⟩
      · exact .inl (if_neg hb)
    · by_cases hb : b = a
      · have z' := (if_pos hb).symm.trans z
        cases z'
        subst hb
        exact ⟨ha, by rw [List.length_map]; exact hl, vs, _, rv, ha⟩
      · have z' := (if_neg hb).symm.trans z
        cases z'
    · by_cases hb : b = a
      · exact hb
      · exact absurd (if_neg hb) z
theorem walk_ofS {l : PySem.W.OpenLaw} {n k : Nat} {q : Program} {loose : List Str} {XP : (Str → Option Value) → Heap → Prop} {YP : World → Heap → Prop} {d : DefRec} {K : Params → PySem.W.Frag} {CX : World → CXT} {sp : World → Sp} {x : Str}
    (hn : l.most = some n) (hn2 : n ≤ sizeLine) (hdf : d.params.defaults = []) (hr : Room k callerA)
    (hY : ∀ (w : World) (h : Heap), YP w h → (K w.params).In h)
    (F : ∀ (w : World) (mg : Str → Option Value) (fa : Addr) (h : Heap), (K w.params).In h → h.Ns mainGlobals mg → mg d.name = some (.ref fa) →
      ∃ fd : FuncData, (∀ (s : Shared) (u : Value), BindsTo s fd ⟨[u], []⟩ [(x, u)]) ∧
        ∀ base : Heap, (K w.params).In base → base.Ns mainGlobals mg → FnOk l.prog w (K w.params) mg base (CX w) k fa fd [x] (sp w))
    (hsp : ∀ (w : World) (H : Hp) (a : Addr) (ns : List Int), ns.length ≤ n → Only H → SqL (K w.params) H a (ns.map V.int) → H sysModules = none → sp w [.ref a] H (fun v _ => v = .bl true) fun _ _ _ => False)
    (hCX : ∀ (w : World) (H : Hp) (s : Shared) (e : Value) (s' : Shared), CX w [] H s (fun _ _ _ => False) e s' → False) :
    PySem.W.WalkO q loose XP YP l.row.toRowW d [] (fun f vs => PySem.call f vs) := by
  refine Att.attach_callS hn hdf fun w s₀ s₁ mg mb fa o pm cd doc a vs ns G Y ho hd hcd hmg hobj hints hlen hg low => ?_
  have KX := hY w _ Y
  obtain ⟨fd, hb, hF⟩ := F w mg fa _ KX G.T.g hmg
  exact law_callS KX G.T.g G.T.b G.T.builtins G.T.nolimit hg hobj hints (Nat.le_trans hlen hn2) hr low hF hb (fun H hO hS hz => hsp w H a ns hlen hO hS hz) fun H e s' => hCX w H s₁ e s'
end L2
set_option Elab.async false
set_option linter.all false
set_option maxRecDepth 100000
set_option maxHeartbeats 4000000
namespace My
open PySem L2
def top (i : Nat) : Stmt := PySem.Challenge.pw_trialdeal_k54_spreads_by_counts.main.body.getD i (.Pass ⟨0, 0, 0, 0⟩)
end My
set_option Elab.async false
set_option linter.all false
set_option maxRecDepth 100000
set_option maxHeartbeats 4000000
namespace My
open PySem
section
variable {prog : Program} {w : World} {A : Around} {h : Heap} {g : Array GenState} {d : Drawn} {tk : Nat} {os : OsState} {C N e t0 : Addr}
variable {nm q : Str} {bs bm bmB : List Value} {hdct ab : Bool} {sn : List Str} {sub : List Value} {col : Option Bool} {dd : Option Addr}
variable {k0 k1 k2 k3 k5 : Option Value} {B newId initId : String}
abbrev excAt (C t : Addr) : Obj := { cls := .ref C, data := .fields #[.ref t, .none, .none, .none, .bool false, .none] }
theorem viCall {R : Result → Shared → Prop} {v : Value} (F : ExcBaseFacts B newId initId bmB) (T : OwnTail h bmB bm)
    (hC : h.get? C = some (excClassObj nm q C N bs bm hdct sn sub ab col dd k0 k1 k2 k3 k5 newId)) (he : h.get? e = some (excAt C t0))
    (hR : ∀ h', h'.get? e = some (excAt C h.objs.size) → (∀ b o, b ≠ e → h.get? b = some o → h'.get? b = some o) → R (.ok (.ret .none)) ⟨h', g, d, tk, os⟩) :
    codeAny (model prog w) A (.call (.builtin initId) ⟨[.ref e, v], []⟩) R ⟨h, g, d, tk, os⟩ := by
  refine codeAny_call_builtin F.init.plain F.initEntry (wpAny_check_init_subT F T hC he rfl ?_)
  wp_walk
  refine hR _ ?_ fun b o hb eb => ?_
  · exact Heap.get?_update_self _ (Heap.get?_push_of_some _ he) rfl
  · exact (Heap.get?_update_ne _ _ _ _ hb).trans (Heap.get?_push_of_some _ eb)
end
end My
set_option Elab.async false
set_option linter.all false
set_option maxRecDepth 100000
set_option maxHeartbeats 4000000
namespace My
open PySem PySem.W Builtin Builtin.ObjectAttr
section
variable {prog : Program} {w : World} {A : Around} {s : Shared} {K : Frag} {C x : Addr}
theorem osaPass {R : Result → Shared → Prop} {ox : Obj} {od : Option Obj} {name : Str} {tk : Tok} {v : Value} {cd : ClassData} (X : K.In s.heap) (I : InstAt s.heap x ox C od)
    (hc : clsIn K C = some cd) (hp : refuseLoop (.ref x) "__setattr__" cd.mro = pure ()) (hm0 : mroIn K C (.type "object") = some true) (ht : takerIn K C name = some none)
    (h : ∀ b, wpAny (model prog w) A.in1 (storeInOwnDict (.ref x) (.ref C) (.str name tk) name v b)
      (fun fin s' => match fin with | .done f => R (.ok f) s' | .again c' => c'.quiet = true ∧ codeAny (model prog w) A c' R s') (fun e s' => R (.error e) s') s) :
    codeAny (model prog w) A (.call (.builtin "object.__setattr__") ⟨[.ref x, .str name tk, v], []⟩) R s := by
  have SF := PySem.F.store_object
  have sub : Looks (model prog w) s.heap (isInstance (.ref x) (.type "object")) true := I.type.andThen (looks_mroIn X hm0)
  refine codeAny_call_builtin SF.slot.plain SF.entry (@check_slot (model prog w) _ _ s "object.__setattr__" "object" "__setattr__" (.ref x) [.str name tk, v] [] _ SF.kind SF.split sub (SF.args _ _ _) ?_)
  obtain ⟨attr, ha, hr⟩ := Option.bind_eq_some_iff.mp ht
  have hm : Looks (model prog w) s.heap (mroOf (.ref C)) cd.mro := (looks_clsIn X hc).andThen .now
  have L3 : Looks (model prog w) s.heap (storeTaker? attr) none := by
    cases attr with
    | none => exact .now
    | some a =>
      obtain ⟨b, hb, e⟩ := Option.map_eq_some_iff.mp hr
      refine (looks_takesIn X hb).andThen ?_
      cases b
      · exact .now
      · cases e
  rw [osa_eq, refuse_eq]
  refine wpAny_bind (wpAny_bind (I.type.here (wpAny_bind (hm.here ?_))))
  rw [hp]
  refine wpAny_pure (wpAny_bind (I.type.here (wpAny_bind ((looks_findIn X ha).here (wpAny_bind (L3.here ?_))))))
  exact h _
end
end My
set_option Elab.async false
set_option linter.all false
set_option maxRecDepth 100000
set_option maxHeartbeats 4000000
namespace My
open PySem PySem.W Builtin Builtin.ObjectAttr
section
variable {prog : Program} {w : World} {A : Around} {E : Value → Shared → Prop} {s : Shared} {K : Frag} {C x : Addr}
theorem setExc {fs : Array Value} {sl : Array (Option Value)} {name : Str} {v : Value} {cd : ClassData} {Q : Unit → Shared → Prop} (X : K.In s.heap) (hx : s.heap.get? x = some ⟨.ref C, none, .fields fs, sl⟩)
    (hs : findIn K (.ref C) "__setattr__" = some (some (.builtin "object.__setattr__"))) (hc : clsIn K C = some cd) (hd : cd.hasDict = true)
    (hp : refuseLoop (.ref x) "__setattr__" cd.mro = pure ()) (hm0 : mroIn K C (.type "object") = some true) (ht : takerIn K C name = some none)
    (h : ∀ h' tk, h'.get? x = some ⟨.ref C, some s.heap.objs.size, .fields fs, sl⟩ → h'.Ns1 s.heap.objs.size (fun y => if y = name then some v else none) →
      (∀ b o, b ≠ x → s.heap.get? b = some o → h'.get? b = some o) → Q () { s with heap := h', toks := tk }) : wpAny (model prog w) A (setAttr (.ref x) name v) Q E s := by
  have J : InstAt s.heap x ⟨.ref C, none, .fields fs, sl⟩ C none := ⟨hx, rfl, rfl, True.intro⟩
  refine set_plain X J hs (osaPass (s := { s with toks := s.toks + 1 }) X J hc hp hm0 ht fun b => ?_)
  refine wpAny_bind (wpAny_pure (wpAny_bind (wpAny_bind (wpAny_loadPart hx (wpAny_bind (Looks.here (s := { s with toks := s.toks + 1 }) (looks_clsIn X hc) ?_))))))
  rw [hd]
  have hx1 : (s.heap.push { cls := .type "dict", data := .dict #[] }).get? x = some ⟨.ref C, none, .fields fs, sl⟩ := Heap.get?_push_of_some _ hx
  have hxs : x ≠ s.heap.objs.size := Nat.ne_of_lt (Heap.lt_size hx)
  refine wpAny_bind (wpAny_alloc' ?_)
  refine wpAny_bind (wpAny_update' hx1 ?_)
  refine wpAny_pure ?_
  generalize eU : ((s.heap.push { cls := .type "dict", data := .dict #[] }).update x fun o => { cls := o.cls, dict := some s.heap.objs.size, data := o.data, slots := o.slots } : Heap) = hU
  have gd : hU.get? s.heap.objs.size = some { cls := .type "dict", data := .dict #[] } := by
    rw [← eU]
    exact (Heap.get?_update_ne _ _ _ _ hxs.symm).trans (Heap.get?_push_at rfl rfl)
  have gx : hU.get? x = some ⟨.ref C, some s.heap.objs.size, .fields fs, sl⟩ := by
    rw [← eU]
    exact Heap.get?_update_self _ hx1 rfl
  have nd : hU.Ns s.heap.objs.size (fun _ => none) := ⟨_, #[], _, gd, rfl, fun e he => absurd he (by simp), fun _ => rfl⟩
  show wpAny _ _ (storeInDict s.heap.objs.size (.str name _) name v) _ _ _
  unfold storeInDict newKeyGuard
  refine wpAny_bind (wpAny_pure (wpAny_bind (wpAny_nsSet1 (Heap.Ns1.of_empty nd) fun h' hn' hsb => ?_)))
  obtain ⟨oD, esD, epD, hoD, hdD, hcD⟩ := hn'.count (Within.cons name v Within.nil)
  refine wpAny_bind (wpAny_lookBehind hoD (by
    rw [hdD]
    exact pastItsLine_dict (Nat.le_trans hcD (by rw [List.length_cons, List.length_nil, sizeLine_eq]; omega))) ?_)
  refine wpAny_pure ?_
  refine h h' _ ((hsb.2 x hxs).trans gx) hn' fun b o hb e => ?_
  refine (hsb.2 b (Nat.ne_of_lt (Heap.lt_size e))).trans ?_
  rw [← eU]
  exact (Heap.get?_update_ne _ _ _ _ hb).trans (Heap.get?_push_of_some _ e)
end
end My
set_option Elab.async false
set_option linter.all false
set_option maxRecDepth 100000
set_option maxHeartbeats 4000000
namespace My
open PySem PySem.W Builtin Builtin.ObjectAttr
section
variable {prog : Program} {w : World} {A : Around} {E : Value → Shared → Prop} {s : Shared} {K : Frag} {C x dx : Addr}
abbrev bga : String := "BaseException.__getattribute__"
theorem bgaCall {R : Result → Shared → Prop} {ox : Obj} {od : Option Obj} {name : Str} {tk : Tok} {v : Value} (X : K.In s.heap) (I : InstAt s.heap x ox C od)
    (hm0 : mroIn K C (.type "BaseException") = some true) (hf : findObj K C od name = some (.value v)) (h : R (.ok (.ret v)) s) :
    codeAny (model prog w) A (.call (.builtin bga) ⟨[.ref x, .str name tk], []⟩) R s := by
  have sub : Looks (model prog w) s.heap (isInstance (.ref x) (.type "BaseException")) true := I.type.andThen (looks_mroIn X hm0)
  have L1 := looks_find (M := model prog w) X I hf
  refine codeAny_call_builtin PySem.F.excAttr_ValueError.ga.plain PySem.F.entry_bexc_ga (@check_slot (model prog w) _ _ s bga "BaseException" "__getattribute__" (.ref x) [.str name tk] [] _ (by decide +kernel) (by decide +kernel) sub (PySem.F.args_bexc_ga _ _) ?_)
  refine wpAny_bind (wpAny_pure (wpAny_bind (wpAny_pure (wpAny_bind (I.type.here (wpAny_bind (L1.here ?_)))))))
  exact wpAny_pure h
theorem getExc {expr : Bool} {ox : Obj} {od : Option Obj} {name : Str} {v : Value} {Q : Value → Shared → Prop} (X : K.In s.heap) (I : InstAt s.heap x ox C od)
    (hga : findIn K (.ref C) "__getattribute__" = some (some (.builtin bga))) (hk : findIn K (.ref C) "__getattr__" = some none)
    (hm0 : mroIn K C (.type "BaseException") = some true) (hf : findObj K C od name = some (.value v)) (hv' : handedIn v = true) (h : Q v { s with toks := s.toks + 1 }) :
    wpAny (model prog w) A (getAttr (.ref x) name expr) Q E s := by
  have L0 := I.type (M := model prog w)
  have L1 := looks_findIn (M := model prog w) X hga
  have L2 := looks_findIn (M := model prog w) X hk
  have f3 := PySem.F.excAttr_ValueError.ga.bind (.ref x)
  unfold getAttr getAttrBy
  refine wpAny_bind (wpAny_mkText (wpAny_holding (wpAny_bind (Looks.here (s := { s with toks := s.toks + 1 }) L0 (wpAny_bind (Looks.here (s := { s with toks := s.toks + 1 }) L1 ?_))))))
  have hx1 : (onTheHeap (Value.ref C) && Value.builtin bga == Value.builtin "object.__getattribute__") = false := by
    rw [show (Value.builtin bga == Value.builtin "object.__getattribute__") = false from by decide +kernel]
    rfl
  show wpAny _ _ (if (onTheHeap (Value.ref C) && Value.builtin bga == Value.builtin "object.__getattribute__") = true then _ else _) _ _ _
  rw [if_neg (by rw [hx1]; decide)]
  unfold getAttrByItsOwn
  refine wpAny_bind ?_
  show wpAny _ _ (typeLookup (.ref C) "__getattr__") _ _ _
  refine Looks.here (s := { s with toks := s.toks + 1 }) L2 ?_
  have hx0 : (expr && onTheHeap (Value.builtin bga)) = false := by cases expr <;> rfl
  refine wpAny_bind (wpAny_attempt (wpAny_holding ?_))
  unfold callGetattribute
  rw [if_neg (by rw [hx0]; decide)]
  unfold boundAndCalled
  rw [f3]
  refine wpAny_bind (wpAny_pure ?_)
  refine wpAny_call (bgaCall (s := { s with toks := s.toks + 1 }) X I hm0 hf ?_)
  show wpAny _ _ (handedOut v) _ _ _
  rw [handedOut_of hv']
  exact wpAny_pure h
end
end My
set_option Elab.async false
set_option linter.all false
set_option maxRecDepth 100000
set_option maxHeartbeats 4000000
namespace My
open PySem PySem.W
section
variable {prog : Program} {w : World} {A : Around} {E : Value → Shared → Prop} {h : Heap} {g : Array GenState}
variable {d : Drawn} {t : Nat} {os : OsState} {nm q : Str} {C N : Addr} {bs bm bmB : List Value} {hdct ab : Bool}
variable {sn : List Str} {sub : List Value} {col : Option Bool} {dd : Option Addr}
variable {k0 k1 k2 k3 k5 : Option Value} {B newId initId : String} {K : Frag}
abbrev tupO (vs : List Value) : Obj := { cls := .type "tuple", data := .seq vs.toArray }
theorem tcallK (X : K.In h) (F : ExcBaseFacts B newId initId bmB) (T : OwnTail h bmB bm) {rest : List Value}
    {fI : Addr} {Q : Fin → Shared → Prop}
    (hC : h.get? C = some (excClassObj nm q C N bs bm hdct sn sub ab col dd k0 k1 k2 k3 k5 newId))
    (hi : findIn K (.ref C) "__init__" = some (some (.ref fI))) (hfI : typeIn K (.ref fI) = some (.type "function"))
    (hq : wpAny (model prog w) A (call (.ref fI) (.ref (h.objs.size + 1) :: rest))
      (fun r s' => r = .none ∧ Q (.done (.ret (.ref (h.objs.size + 1)))) s') E ⟨(h.push (tupO rest)).push (excAt C h.objs.size), g, d, t, os⟩)
    (hrest : rest.length ≤ sizeLine) :
    wpAny (model prog w) A (Builtin.«type.__call__» ⟨.ref C :: rest, []⟩) Q E ⟨h, g, d, t, os⟩ := by
  repeat (first
    | with_reducible refine wpAny_loadPart_at hC ?_
    | with_reducible refine wpAny_madeBy_exc hC ?_
    | wp_step)
  refine codeAny_call_builtin_code (Code.quiet_builtin _ F.quiet) (wpAny_check_new_subT F T hC ?_)
  refine codeAny_exc_new_subT F T hC ?_ hrest
  show wpAny _ _ _ _ _ _
  have up : ∀ b o, h.get? b = some o → ((h.push (tupO rest)).push (excAt C h.objs.size)).get? b = some o :=
    fun b o e => Heap.get?_push_of_some _ (Heap.get?_push_of_some _ e)
  have hC1 := up _ _ hC
  have X1 : K.In ((h.push (tupO rest)).push (excAt C h.objs.size)) := X.keeps up
  have hg1 : ((h.push (tupO rest)).push (excAt C h.objs.size)).get? (h.objs.size + 1) = some (excAt C h.objs.size) := by heap_get
  have hcC : (Value.ref C :: bm).contains (.ref C) = true := by simp
  unfold isInstance
  repeat (first
    | with_reducible refine wpAny_loadPart_at hg1 ?_
    | (with_reducible refine wpAny_isSubtype_exc hC1 ?_; rw [hcC])
    | wp_step)
  show wpAny _ _ (typeLookup (.ref C) _) _ _ _
  refine Looks.here (s := ⟨(h.push (tupO rest)).push (excAt C h.objs.size), g, d, t, os⟩) (looks_findIn X1 hi) ?_
  refine wpAny_holding (wpAny_bind ?_)
  unfold bindSpecial
  refine wpAny_bind (Looks.here (s := ⟨(h.push (tupO rest)).push (excAt C h.objs.size), g, d, t, os⟩) (looks_typeIn X1 hfI) ?_)
  rw [if_pos (by decide)]
  refine wpAny_pure (wpAny_bind (wpAny_mono hq (fun r s' hr => ?_) fun _ _ x => x))
  obtain ⟨rfl, hQ⟩ := hr
  wp_walk
  exact hQ
theorem callK (X : K.In h) (F : ExcBaseFacts B newId initId bmB) (T : OwnTail h bmB bm) {rest : List Value}
    {fI : Addr} {Q : Value → Shared → Prop}
    (hC : h.get? C = some (excClassObj nm q C N bs bm hdct sn sub ab col dd k0 k1 k2 k3 k5 newId))
    (hi : findIn K (.ref C) "__init__" = some (some (.ref fI))) (hfI : typeIn K (.ref fI) = some (.type "function"))
    (hq : wpAny (model prog w) (A.under (.builtin "type.__call__" ⟨.ref C :: rest, []⟩))
      (call (.ref fI) (.ref (h.objs.size + 1) :: rest)) (fun r s' => r = .none ∧ Q (.ref (h.objs.size + 1)) s') E ⟨(h.push (tupO rest)).push (excAt C h.objs.size), g, d, t, os⟩)
    (hrest : rest.length ≤ sizeLine) : wpAny (model prog w) A (call (.ref C) rest) Q E ⟨h, g, d, t, os⟩ := by
  have f1 := tc_lookup
  have f2 := tc_bind (.ref C)
  have hT : Shared.TypeIs ⟨h, g, d, t, os⟩ (.ref C) "type" := ⟨_, hC, rfl⟩
  refine wpAny_call (codeAny_of_tree ?_)
  show wpAny _ _ (callAny (.ref C) _) _ _ _
  repeat (any_goals (first
    | assumption
    | with_reducible refine wpAny_loadPart_at hC ?_
    | wp_step))
  refine ⟨rfl, ?_⟩
  refine codeAny_call_builtin_at (Code.quiet_builtin _ (by decide +kernel)) entry_typeCall (wpAny_check_type_call_sub hC ?_)
  exact tcallK X F T hC hi hfI hq hrest
end
section
variable {prog : Program} {w : World} {A : Around} {E : Value → Shared → Prop} {s : Shared} {K : Frag} {x C : Addr} {ox : Obj} {od : Option Obj}
theorem findData {a g : Value} {name : Str} (hc : (clsIn K C).isSome = true) (ha : findIn K (.ref C) name = some (some a)) (hg : specialIn K a "__get__" = some (some g)) (ht : takesIn K a = some true) : findObj K C od name = some (.bind g a) := by
  obtain ⟨cd, hc⟩ := Option.isSome_iff_exists.mp hc
  unfold findObj
  rw [hc, Option.bind_some, ha, Option.bind_some]
  simp [hg, ht]
theorem bgaBind {R : Result → Shared → Prop} {name : Str} {tk : Tok} {a g : Value} (X : K.In s.heap) (I : InstAt s.heap x ox C od)
    (hm0 : mroIn K C (.type "BaseException") = some true) (hf : findObj K C od name = some (.bind g a))
    (h : wpAny (model prog w) A.in1 (call g [a, .ref x, .ref C]) (fun v s' => R (.ok (.ret v)) s') (fun e s' => R (.error e) s') s) :
    codeAny (model prog w) A (.call (.builtin bga) ⟨[.ref x, .str name tk], []⟩) R s := by
  have sub : Looks (model prog w) s.heap (isInstance (.ref x) (.type "BaseException")) true := I.type.andThen (looks_mroIn X hm0)
  have L1 := looks_find (M := model prog w) X I hf
  refine codeAny_call_builtin PySem.F.excAttr_ValueError.ga.plain PySem.F.entry_bexc_ga (@check_slot (model prog w) _ _ s bga "BaseException" "__getattribute__" (.ref x) [.str name tk] [] _ (by decide +kernel) (by decide +kernel) sub (PySem.F.args_bexc_ga _ _) ?_)
  refine wpAny_bind (wpAny_pure (wpAny_bind (wpAny_pure (wpAny_bind (I.type.here (wpAny_bind (L1.here ?_)))))))
  show wpAny _ _ (holding [a] (call g [a, .ref x, .ref C]) >>= ret) _ _ _
  exact wpAny_bind (wpAny_holding (wpAny_mono h (fun v s' z => wpAny_pure z) fun _ _ z => z))
structure ErrI (K : Frag) (C : Addr) : Prop where
  cls : (clsIn K C).isSome = true
  ga : findIn K (.ref C) "__getattribute__" = some (some (.builtin bga))
  hk : findIn K (.ref C) "__getattr__" = some none
  mb : mroIn K C (.type "BaseException") = some true
  mo : mroIn K C (.type "object") = some true
  ca : findIn K (.ref C) "__class__" = some (some (.builtin "object.__class__"))
theorem errClass {Q : Option Value → Shared → Prop} (T : ErrI K C) (hn : specialIn K (.builtin "object.__class__") "__get__" = some (some (.builtin "getset_descriptor.__get__"))) (htk : takesIn K (.builtin "object.__class__") = some true)
    (X : K.In s.heap) (I : InstAt s.heap x ox C od) (h : Q (some (.ref C)) { s with toks := s.toks + 1 }) : wpAny (model prog w) A (getAttr? (.ref x) "__class__") Q E s := by
  have hf : findObj K C od "__class__" = some (.bind (.builtin "getset_descriptor.__get__") (.builtin "object.__class__")) := findData T.cls T.ca hn htk
  have L0 := I.type (M := model prog w)
  have L1 := looks_findIn (M := model prog w) X T.ga
  have L2 := looks_findIn (M := model prog w) X T.hk
  have f3 := PySem.F.excAttr_ValueError.ga.bind (.ref x)
  unfold getAttr? getAttrBy? getAttrBy
  refine wpAny_bind (wpAny_mkText (wpAny_bind (wpAny_attempt (wpAny_holding (wpAny_bind (Looks.here (s := { s with toks := s.toks + 1 }) L0 (wpAny_bind (Looks.here (s := { s with toks := s.toks + 1 }) L1 ?_))))))))
  have hx1 : (onTheHeap (Value.ref C) && Value.builtin bga == Value.builtin "object.__getattribute__") = false := by
    rw [show (Value.builtin bga == Value.builtin "object.__getattribute__") = false from by decide +kernel]
    rfl
  show wpAny _ _ (if (onTheHeap (Value.ref C) && Value.builtin bga == Value.builtin "object.__getattribute__") = true then _ else _) _ _ _
  rw [if_neg (by rw [hx1]; decide)]
  unfold getAttrByItsOwn
  refine wpAny_bind ?_
  show wpAny _ _ (typeLookup (.ref C) "__getattr__") _ _ _
  refine Looks.here (s := { s with toks := s.toks + 1 }) L2 ?_
  refine wpAny_bind (wpAny_attempt (wpAny_holding ?_))
  unfold callGetattribute
  rw [if_neg (by decide)]
  unfold boundAndCalled
  rw [f3]
  refine wpAny_bind (wpAny_pure ?_)
  refine wpAny_call (bgaBind (s := { s with toks := s.toks + 1 }) X I T.mb hf ?_)
  refine wpAny_call (class_get (s := { s with toks := s.toks + 1 }) (ox := ox) (od := od) X I T.mo ?_)
  show wpAny _ _ (handedOut (.ref C)) _ _ _
  rw [handedOut_of rfl]
  exact wpAny_pure (wpAny_pure h)
theorem kitErr (T : ErrI K C) (hn : specialIn K (.builtin "object.__class__") "__get__" = some (some (.builtin "getset_descriptor.__get__"))) (htk : takesIn K (.builtin "object.__class__") = some true) :
    KitX K (.ref x) (.ref C) (fun h => ∃ ox od, InstAt h x ox C od) where
  ty := fun _ _ _ ⟨_, _, I⟩ => I.type
  it := fun _ _ X _ => by
    obtain ⟨cdD, hcD⟩ := Option.isSome_iff_exists.mp T.cls
    unfold clsIn at hcD
    split at hcD
    · rename_i c' d' cd' sl' ho
      intro A' Q' E' s' k q
      unfold isType loadHead
      exact wpAny_bind (wpAny_loadPart (k _ _ (X _ _ ho)) (wpAny_pure q))
    · cases hcD
  ne := fun h tp dd its n sl X htp => by
    obtain ⟨cdD, hcD⟩ := Option.isSome_iff_exists.mp T.cls
    refine Bool.eq_false_iff.mpr fun q => ?_
    have e : C = tp := Value.ref.inj (beq_iff_eq.mp q)
    subst e
    unfold clsIn at hcD
    split at hcD
    · rename_i c' d' cd' sl' ho
      have z := (X _ _ ho).symm.trans htp
      cases z
    · cases hcD
  ca := fun X ⟨_, _, I⟩ k => errClass T hn htk X I k
end
end My
set_option Elab.async false
set_option linter.all false
set_option maxRecDepth 100000
set_option maxHeartbeats 4000000
namespace My
open PySem PySem.W L2
abbrev bmV : List Value := [.type "ValueError", .type "Exception", .type "BaseException", .type "object"]
abbrev errAt (C : Addr) (d : Option Addr) (t : Addr) : Obj := { cls := .ref C, dict := d, data := .fields #[.ref t, .none, .none, .none, .bool false, .none] }
def ErrO (x C : Addr) (d : Option Addr) : HO := .ext fun h => ∃ t, h.get? x = some (errAt C d t)
theorem errO_ok {P : Program} {w : World} {H : Hp} {h : Heap} {x C : Addr} {d : Option Addr} {t : Addr} (e : h.get? x = some (errAt C d t)) : ObjOk P w H h x (ErrO x C d) :=
  ⟨⟨t, e⟩, ⟨_, e⟩, fun _ _ ⟨t', e'⟩ k => ⟨t', k _ e'⟩⟩
theorem errO_at {P : Program} {w : World} {H : Hp} {h : Heap} {x C : Addr} {d : Option Addr} (ok : HOk P w H h) (e : H x = some (ErrO x C d)) : ∃ t, h.get? x = some (errAt C d t) := (ok x _ e).1
theorem upd_id {H : Hp} {a : Addr} {o : HO} (h : H a = some o) : upd H a o = H := by
  funext b
  unfold upd
  split
  · rename_i e; rw [e, h]
  · rfl
structure BaseC (K : Frag) (D : Addr) : Prop where
  cls : ∃ nm q N bs sn sub ab col dd k0 k1 k2 k3 k5, K.lookup D = some (excClassObj nm q D N bs bmV true sn sub ab col dd k0 k1 k2 k3 k5 "ValueError.__new__") ∧
     ∃ o es ep, K.lookup N = some o ∧ o.data = .dict es ep ∧ StrKeys es ∧ nsFind es "__init__" = none
  ga : specialIn K (.ref D) "__getattribute__" = some (some (.builtin "type.__getattribute__"))
  reads : readsIn K D (.type "type") = true
  ini : findCls K (.ref D) (.type "type") "__init__" = some (.val (.builtin "ValueError.__init__"))
  fi : findIn K (.ref D) "__init__" = some (some (.builtin "ValueError.__init__"))
  kp : keepIn K (.ref D) = true
  it : ErrI K D
theorem BaseC.tail {K : Frag} {D : Addr} (B : BaseC K D) {h : Heap} (X : K.In h) : OwnTail h bmV (.ref D :: bmV) := by
  obtain ⟨nm, q, N, bs, sn, sub, ab, col, dd, k0, k1, k2, k3, k5, l, o, es, ep, lN, hd, hs, hn⟩ := B.cls
  exact .own (X _ _ l) ⟨o, es, ep, X _ _ lN, hd, hs, fun _ => rfl⟩ hn .base
structure ErrC (K : Frag) (D : Addr) (nm : Str) (C f : Addr) : Prop where
  cls : ∃ q N bs sn sub ab col dd k0 k1 k2 k3 k5, K.lookup C = some (excClassObj nm q C N bs (.ref D :: bmV) true sn sub ab col dd k0 k1 k2 k3 k5 "ValueError.__new__")
  init : findIn K (.ref C) "__init__" = some (some (.ref f))
  fn : typeIn K (.ref f) = some (.type "function")
  kp : keepIn K (.ref C) = true
  sa : findIn K (.ref C) "__setattr__" = some (some (.builtin "object.__setattr__"))
  it : ErrI K C
theorem ErrC.clsIn {K : Frag} {D C f : Addr} {nm : Str} (T : ErrC K D nm C f) : ∃ cd, PySem.W.clsIn K C = some cd ∧ cd.hasDict = true ∧ cd.mro = .ref C :: .ref D :: bmV := by
  obtain ⟨q, N, bs, sn, sub, ab, col, dd, k0, k1, k2, k3, k5, l⟩ := T.cls
  unfold PySem.W.clsIn
  rw [l]
  exact ⟨_, rfl, rfl, rfl⟩
theorem ErrC.refuse {K : Frag} {D C f : Addr} {nm : Str} (T : ErrC K D nm C f) (x : Addr) : ∃ cd, PySem.W.clsIn K C = some cd ∧ cd.hasDict = true ∧ refuseLoop (.ref x) "__setattr__" cd.mro = pure () := by
  obtain ⟨cd, h1, h2, h3⟩ := T.clsIn
  refine ⟨cd, h1, h2, ?_⟩
  rw [h3, refuseLoop_ref, refuseLoop_ref]
  exact PySem.F.store_ValueError.passes _
section
variable {X : Cx} {pins : List (Addr × Obj)} {σ : St} {H : Hp} {s : Shared}
def spErr (C : Addr) (fld : Str) : Sp := fun vs H Q _ => ∃ x v, vs = [.ref x, v] ∧ H x = some (ErrO x C none) ∧ ∀ dx, H dx = none → dx ≠ x → Q .non (upd (upd H dx (.xd [(fld, v)])) x (ErrO x C (some dx)))
def tErr (C : Addr) (fld : Str) (te : TE) : TE := fun σ H Q => te σ H fun v H1 => ∀ x dx, H1 x = none → H1 dx = none → dx ≠ x → Q (.ref x) (upd (upd H1 dx (.xd [(fld, v)])) x (ErrO x C (some dx)))
theorem upd3 {H : Hp} {x dx : Addr} {a b c : HO} (n : dx ≠ x) : upd (upd (upd H x a) dx b) x c = upd (upd H dx b) x c := by
  funext z
  unfold upd
  by_cases h1 : z = x
  · rw [if_pos h1, if_pos h1]
  · rw [if_neg h1, if_neg h1]
    by_cases h2 : z = dx
    · rw [if_pos h2, if_neg h1]
    · rw [if_neg h2, if_neg h1]
theorem make_err {D C f : Addr} {nm fld : Str} {k : Nat} {fd : FuncData} {ps : List Str} {u : Value} {v : V} {Q : VK} (B : BaseC X.K D) (T : ErrC X.K D nm C f) (F : FnOk X.prog X.w X.K X.mg X.base CX0 k f fd ps (spErr C fld)) (hr : Room (k + 1) X.A) (hb : Binds X.K fd ps [])
    (I : Inv X pins σ H s) (r : RelV v u) (h : ∀ x dx, H x = none → H dx = none → dx ≠ x → Q (.ref x) (upd (upd H dx (.xd [(fld, v)])) x (ErrO x C (some dx)))) :
    wpAny (model X.prog X.w) X.A (call (.ref C) [u]) (EP X pins σ Q) X.xe s := by
  obtain ⟨hp, g, dr, tk, os⟩ := s
  obtain ⟨q, N, bs, sn, sub, ab, col, dd, k0, k1, k2, k3, k5, l⟩ := T.cls
  refine callK (C := C) I.kIn PySem.F.excBase_ValueError (B.tail I.kIn) (I.kIn _ _ l) T.init T.fn ?_ (by rw [List.length_cons, List.length_nil, sizeLine_eq]; omega)
  have f0 : H hp.objs.size = none := I.fresh
  have I1 : Inv X pins σ H ⟨hp.push (tupO [u]), g, dr, tk, os⟩ := I.kept (h' := hp.push (tupO [u])) (t' := tk) fun b o e => Heap.get?_push_of_some _ e
  have sz : (hp.push (tupO [u])).objs.size = hp.objs.size + 1 := Heap.size_push _ _
  have fx : H (hp.objs.size + 1) = none := by rw [← sz]; exact I1.fresh
  have I2 : Inv X pins σ (upd H (hp.objs.size + 1) (ErrO (hp.objs.size + 1) C none)) ⟨(hp.push (tupO [u])).push (excAt C hp.objs.size), g, dr, tk, os⟩ :=
    I1.laid (h' := (hp.push (tupO [u])).push (excAt C hp.objs.size)) (t' := tk) (a := hp.objs.size + 1) (fun b o e => Heap.get?_push_of_some _ e) (Nat.le_of_eq sz)
      (errO_ok (t := hp.objs.size) (Heap.get?_push_at sz.symm rfl))
  generalize (⟨(hp.push (tupO [u])).push (excAt C hp.objs.size), g, dr, tk, os⟩ : Shared) = s2 at I2 ⊢
  generalize hp.objs.size + 1 = x at fx I2 ⊢
  have r2 : Vals [V.ref x, v] [Value.ref x, u] := .cons rfl (.cons r .nil)
  have hsp : spErr C fld [V.ref x, v] (upd H x (ErrO x C none)) (fun y H2 => y = .non ∧ Q (.ref x) H2) E0 :=
    ⟨x, v, rfl, upd_same, fun dx hd nd => ⟨rfl, by
      rw [upd3 nd]
      rw [upd_ne nd] at hd
      exact h x dx fx hd nd⟩⟩
  have hl : ([Value.ref x, u] ++ [] : List Value).length = ps.length := by
    rw [List.append_nil, ← r2.length]
    exact F.len _ _ _ _ hsp
  have hbd := hb s2 [Value.ref x, u] I2.kIn hl
  rw [List.append_nil] at hbd
  refine wpAny_call (codeAny_mono (F.run _ X.stack s2 _ ⟨[Value.ref x, u], []⟩ [Value.ref x, u] _ _ E0 (hr.make C [u] []) (I2.env0.make C [u] []) hbd r2 hsp) fun r s' hq' => ?_)
  cases r with
  | error e => exact False.elim hq'
  | ok fl =>
    cases fl with
    | ret u' =>
      obtain ⟨y, H', I3, ry, ey, q3⟩ := I2.after hq'
      subst ey
      exact ⟨ry, V.ref x, H', I3, rfl, q3⟩
    | next => exact False.elim hq'
    | brk => exact False.elim hq'
    | cont => exact False.elim hq'
end
end My
set_option Elab.async false
set_option linter.all false
set_option maxRecDepth 100000
set_option maxHeartbeats 1000000
namespace My
open PySem PySem.W L2
def Head (h : Heap) (e : Addr) (vs : Array Value) : Prop := vs[1]? = some .none ∨ ∃ T oT ts, vs[1]? = some (.ref T) ∧ T ≠ e ∧ h.get? T = some oT ∧ oT.data = .fields ts ∧ ts[3]? = some .none
structure LeftX (fr : List Addr) (e T : Addr) (oe : Obj) (h h' : Heap) (r : Value) : Prop where
  keep : ∀ b o, b ≠ e → b ∉ fr → h.get? b = some o → h'.get? b = some o
  slot : ∀ b o, b ≠ e → h.get? b = some o → ∃ sl, h'.get? b = some { o with slots := sl }
  new : h.objs.size ≤ T
  exc : h'.get? e = some (oe.mapFields (fun x => x.setIfInBounds 1 (.ref T)))
  trc : ∃ oT ts, h'.get? T = some oT ∧ oT.data = .fields ts ∧ ts[3]? = some r ∧ T ≠ e
theorem set_same {vs : Array Value} {i : Nat} {v : Value} (h : vs[i]? = some v) : vs.setIfInBounds i v = vs := by
  obtain ⟨hi, e⟩ := Array.getElem?_eq_some_iff.mp h
  apply Array.ext
  · simp
  · intro j h1 h2
    simp only [Array.size_setIfInBounds] at h1
    rw [Array.getElem_setIfInBounds h1]
    split
    · rename_i z; subst z; exact e.symm
    · rfl
theorem mapF {o : Obj} {vs : Array Value} (hd : o.data = .fields vs) (f : Array Value → Array Value) : o.mapFields f = { o with data := .fields (f vs) } := by
  obtain ⟨c, d, dt, sl⟩ := o
  have e : dt = .fields vs := hd
  subst e
  rfl
theorem wp_newFields {M : Model} {A : Around} {E : Value → Shared → Prop} {s : Shared} {c : String} {vs : List Value} {Q : Value → Shared → Prop} (hl : vs.length ≤ sizeLine + 2)
    (q : Q (.ref s.heap.objs.size) { s with heap := s.heap.push { cls := .type c, data := .fields vs.toArray } }) : wpAny M A (newFields c vs) Q E s := by
  unfold newFields newObj
  refine wpAny_ite_false (decide_eq_false (by rw [List.size_toArray]; omega)) ?_
  unfold newObjAsIs
  exact wpAny_bind (wpAny_alloc (wpAny_pure q))
theorem place_len {pl : List Value} (h : IsPlace pl) : pl.length ≤ 6 := by
  rcases h with rfl | ⟨a, b, c, d, c9, b10, _, rfl⟩
  · decide
  · exact Nat.le_refl _
section
variable {M : Model} {A : Around} {E : Value → Shared → Prop} {s : Shared} {base : Heap} {env : Env} {outer : List Env} {L e : Addr} {oe : Obj} {vs : Array Value} {Q : Unit → Shared → Prop}
theorem note_jp {head : Value} {hn : Bool} (hA : A.frames = some (env :: outer)) (hF : s.heap.FunFrames base (env :: outer)) (hL : env.frame = some L) (he : s.heap.get? e = some oe) (hd : oe.data = .fields vs) (h1 : 1 < vs.size)
    (q : ∀ h' T, LeftX (frs (env :: outer)) e T oe s.heap h' (rawInt ↑L) → Q () { s with heap := h' }) :
    wpAny M A (do
      let a ← frameOf env
      let pl ← entryPlaceOf L hn
      let b ← EntryCells.newEntry head a .none (rawInt ↑L) .none pl
      setField (.ref e) 1 b) Q E s := by
  have nfr : e ∉ frs (env :: outer) := fun z => by
    obtain ⟨_, o, ho, hn⟩ := hF.mem z
    rw [he] at ho; cases ho
    exact hn vs hd
  refine wpAny_bind (wpAny_frameOf_fun hA hF hL fun h1' so => ?_)
  refine wpAny_bind (wpAny_entryPlaceOf fun pl hpl => ?_)
  refine wpAny_bind ?_
  unfold EntryCells.newEntry
  refine wp_newFields ?_ ?_
  · have := place_len hpl
    have b : 100 ≤ sizeLine := by decide
    rw [List.length_append]
    split
    · rw [List.length_replicate]; show 5 + 6 ≤ _; omega
    · show 5 + pl.length ≤ _; omega
  have e1 : h1'.get? e = some oe := by rw [so.2.1 e nfr]; exact he
  have lt := Heap.lt_size e1
  generalize hob : ({ cls := .type "traceback", data := .fields ([head, Value.ref L, .none, rawInt ↑L, .none] ++ if pl.isEmpty = true then List.replicate 6 Value.none else pl).toArray } : Obj) = ob
  have e2 : (h1'.push ob).get? e = some oe := Heap.get?_push_of_some _ e1
  refine wpAny_setField e2 hd h1 ?_
  refine q _ h1'.objs.size ⟨fun b o nb nf hb => ?_, fun b o nb hb => ?_, Nat.le_of_eq so.1.symm, ?_, ?_⟩
  · rw [Heap.get?_update_ne _ _ _ _ nb]
    exact Heap.get?_push_of_some _ (by rw [so.2.1 b nf]; exact hb)
  · obtain ⟨sl, z⟩ := so.2.2 b o hb
    exact ⟨sl, by rw [Heap.get?_update_ne _ _ _ _ nb]; exact Heap.get?_push_of_some _ z⟩
  · exact Heap.get?_update_self _ e2 (by rw [mapF hd]; rfl)
  · have nT : h1'.objs.size ≠ e := Ne.symm (Nat.ne_of_lt lt)
    refine ⟨ob, _, ?_, by rw [← hob], ?_, nT⟩
    · rw [Heap.get?_update_ne _ _ _ _ nT]
      exact Heap.get?_push_at rfl (by rw [← hob]; rfl)
    · rfl
theorem note_exact (hA : A.frames = some (env :: outer)) (hF : s.heap.FunFrames base (env :: outer)) (hL : env.frame = some L) (he : s.heap.get? e = some oe) (hd : oe.data = .fields vs) (hv : Head s.heap e vs)
    (q : ∀ h' T, LeftX (frs (env :: outer)) e T oe s.heap h' (rawInt ↑L) → Q () { s with heap := h' }) : wpAny M A (noteFrame (.ref e) env) Q E s := by
  unfold noteFrame
  rw [hL]
  rcases hv with hv | ⟨T, oT, ts, hv, nT, hT, hTd, h3⟩
  · have h1 : 1 < vs.size := (Array.getElem?_eq_some_iff.mp hv).1
    refine wpAny_bind (wpAny_field he hd hv ?_)
    refine wpAny_ite_false rfl ?_
    exact note_jp hA hF hL he hd h1 q
  · have h1 : 1 < vs.size := (Array.getElem?_eq_some_iff.mp hv).1
    have h3' : 3 < ts.size := (Array.getElem?_eq_some_iff.mp h3).1
    refine wpAny_bind (wpAny_field he hd hv ?_)
    refine wpAny_ite_true rfl ?_
    refine wpAny_bind (wpAny_field hT hTd h3 ?_)
    refine wpAny_ite_false rfl ?_
    refine wpAny_bind (wpAny_setField hT hTd h3' ?_)
    have g : ∀ b, (s.heap.update T (Obj.mapFields fun x => x.setIfInBounds 3 Value.none)).get? b = s.heap.get? b := fun b => by
      by_cases z : b = T
      · subst z
        rw [Heap.get?_update_self _ hT (by rw [mapF hTd]; rfl), hT, mapF hTd, set_same h3, ← hTd]
      · exact Heap.get?_update_ne _ _ _ _ z
    have sz : (s.heap.update T (Obj.mapFields fun x => x.setIfInBounds 3 Value.none)).objs.size = s.heap.objs.size := Heap.size_update _ _ _
    generalize s.heap.update T (Obj.mapFields fun x => x.setIfInBounds 3 Value.none) = h0 at g sz
    have hF0 : h0.FunFrames base (env :: outer) := Heap.FunFrames.of_keeps (fun b o hb _ => ⟨o, by rw [g]; exact hb, rfl⟩) hF
    refine note_jp (s := { s with heap := h0 }) hA hF0 hL (by show h0.get? e = _; rw [g]; exact he) hd h1 fun h' T' x => ?_
    exact q h' T' ⟨fun b o nb nf hb => x.keep b o nb nf (by show h0.get? b = _; rw [g]; exact hb), fun b o nb hb => x.slot b o nb (by show h0.get? b = _; rw [g]; exact hb), by rw [← sz]; exact x.new, x.exc, x.trc⟩
theorem LeftX.flight {fr : List Addr} {T : Addr} {h h' : Heap} {r : Value} (x : LeftX fr e T oe h h' r) (hd : oe.data = .fields vs) (h1 : 1 < vs.size) (s' : Shared) (es : s'.heap = h')
    (q : ∀ h2, LeftX fr e T oe h h2 .none → Q () { s' with heap := h2 }) : wpAny M A (setFlight (.ref e) none) Q E s' := by
  subst es
  obtain ⟨oT, ts, hT, hTd, h3, nT⟩ := x.trc
  have h3' : 3 < ts.size := (Array.getElem?_eq_some_iff.mp h3).1
  have e1 : (oe.mapFields (fun x => x.setIfInBounds 1 (.ref T))).data = .fields (vs.setIfInBounds 1 (.ref T)) := Obj.data_mapFields hd _
  have e2 : (vs.setIfInBounds 1 (Value.ref T))[1]? = some (.ref T) := by simp [h1]
  refine wpAny_setFlight_none x.exc e1 e2 hT hTd h3' (q _ ⟨fun b o nb nf hb => ?_, fun b o nb hb => ?_, x.new, ?_, ?_⟩)
  · have z := x.keep b o nb nf hb
    rw [Heap.get?_update_ne _ _ _ _ (fun w => ?_)]
    · exact z
    · rw [w] at hb
      exact absurd (Nat.lt_of_lt_of_le (Heap.lt_size hb) x.new) (Nat.lt_irrefl _)
  · obtain ⟨sl, z⟩ := x.slot b o nb hb
    refine ⟨sl, ?_⟩
    rw [Heap.get?_update_ne _ _ _ _ (fun w => ?_)]
    · exact z
    · rw [w] at hb
      exact absurd (Nat.lt_of_lt_of_le (Heap.lt_size hb) x.new) (Nat.lt_irrefl _)
  · rw [Heap.get?_update_ne _ _ _ _ nT.symm]
    exact x.exc
  · refine ⟨_, _, Heap.get?_update_self _ hT (by rw [mapF hTd]; rfl), Obj.data_mapFields hTd _, ?_, nT⟩
    simp [h3']
theorem leave_exact (hA : A.frames = some (env :: outer)) (hF : s.heap.FunFrames base (env :: outer)) (hL : env.frame = some L) (he : s.heap.get? e = some oe) (hd : oe.data = .fields vs) (hv : Head s.heap e vs)
    (q : ∀ h' T, LeftX (frs (env :: outer)) e T oe s.heap h' .none → Q () { s with heap := h' }) : wpAny M A (leaving env (.ref e)) Q E s := by
  have h1 : 1 < vs.size := by
    rcases hv with hv | ⟨T, oT, ts, hv, _⟩
    · exact (Array.getElem?_eq_some_iff.mp hv).1
    · exact (Array.getElem?_eq_some_iff.mp hv).1
  unfold leaving
  exact wpAny_bind (note_exact hA hF hL he hd hv fun h' T x => x.flight hd h1 _ rfl fun h2 x2 => q h2 T x2)
end
end My
set_option Elab.async false
set_option linter.all false
set_option maxRecDepth 100000
set_option maxHeartbeats 4000000
namespace My
open PySem PySem.W L2
def one (P : V → Hp → Prop) (vs : List V) (H : Hp) : Prop := match vs with
  | [v] => P v H
  | _ => False
theorem one_of {P : V → Hp → Prop} {vs : List V} {H : Hp} (h : one P vs H) : ∃ v, vs = [v] ∧ P v H := by
  cases vs with
  | nil => exact h.elim
  | cons v r =>
    cases r with
    | nil => exact ⟨v, rfl, h⟩
    | cons _ _ => exact h.elim
def two (P : V → V → Hp → Prop) (vs : List V) (H : Hp) : Prop := match vs with
  | [v, u] => P v u H
  | _ => False
theorem two_of {P : V → V → Hp → Prop} {vs : List V} {H : Hp} (h : two P vs H) : ∃ v u, vs = [v, u] ∧ P v u H := by
  match vs, h with
  | [v, u], h => exact ⟨v, u, rfl, h⟩
section
variable {X : Cx} {pins : List (Addr × Obj)} {σ : St} {H : Hp} {s : Shared}
theorem pe_err {D C f : Addr} {nm fld x : Str} {k : Nat} {fd : FuncData} {ps : List Str} {e : Expr} {te : TE} {p pos : Pos} (B : BaseC X.K D) (T : ErrC X.K D nm C f) (F : FnOk X.prog X.w X.K X.mg X.base CX0 k f fd ps (spErr C fld)) (hr : Room (k + 1) X.A) (hb : Binds X.K fd ps [])
    (hg : Gl X x) (hm : X.mg x = some (.ref C)) (ha : PE X e te) (hdb : (x == ("__debug__" : Str)) = false := by decide) (he : starEach [e] X.env = (false, eval e X.env) :: starEach [] X.env := by rfl) (hpl : (backTo pos (starEach [] X.env)).any (·.1) = false := by rfl) :
    PE X (.Call (.Name x p) [e] [] pos) (tErr C fld te) := by
  intro pins s σ H Q I h
  refine wpAny_Call_Name_kw (ld_glob I hg hm ?_ hdb)
  have pa : PA X [e] (tCons te tNil) := pa_cons ha pa_nil he
  have h' : tCons te tNil σ H (one fun v H1 => ∀ x dx, H1 x = none → H1 dx = none → dx ≠ x → Q (.ref x) (upd (upd H1 dx (.xd [(fld, v)])) x (ErrO x C (some dx)))) := h
  refine PySem.W.callWith_K (h₀ := X.base) I.ok.mod.kin T.kp (thn (pa pos pins s σ H _ I h') fun us s1 ⟨vs, H1, I1, r, q⟩ => ⟨I1.kIn, ?_⟩) he hpl
  obtain ⟨v, rfl, q⟩ := one_of q
  obtain ⟨u, rfl, ru⟩ := vals1 r
  exact make_err B T F hr hb I1 ru q
def tBI (ts tt : TE) (C : Addr) : TE := fun σ H Q => ts σ H fun x H1 => tt σ H1 fun v H2 => ∃ a, x = .ref a ∧ H2 a = some (ErrO a C none) ∧ Q .non H2
theorem pe_baseInit {D C f : Addr} {nm x : Str} {o e : Expr} {ts tt : TE} {p apos pos : Pos} {pl : Sem Bool} (B : BaseC X.K D) (T : ErrC X.K D nm C f) (hg : Gl X x) (hm : X.mg x = some (.ref D)) (hs : PE X o ts) (ht : PE X e tt) (hdb : (x == ("__debug__" : Str)) = false := by decide)
    (hst : starEach [o, e] X.env = (false, eval o X.env) :: starEach [e] X.env := by rfl) (hst2 : starEach [e] X.env = (false, eval e X.env) :: starEach [] X.env := by rfl) (hpl : (backTo pos (starEach [e] X.env)).any (·.1) = false := by rfl)
    (htr : eval (.Call (.Attribute (.Name x p) "__init__" apos) [o, e] [] pos) X.env = (do
      let ov ← eval (.Name x p) X.env
      standAt apos.atName
      let (f, first) ← holding [ov] (getMethod ov "__init__" pl)
      callWith pos f first (backTo pos (starEach [o, e] X.env)) (backToKw pos (keywordEach [] X.env))) := by rfl) :
    PE X (.Call (.Attribute (.Name x p) "__init__" apos) [o, e] [] pos) (tBI ts tt C) := by
  intro pins s σ H Q I h
  refine PySem.W.methodCall_KW (pl := pl) (ld_glob I hg hm ?_ hdb) htr
  refine method_cls I.kIn B.ga (cls_value I.kIn B.reads B.ini rfl ?_)
  have I0 : Inv X pins σ H { s with toks := s.toks + 1 } := I.tok _
  have pa : PA X [o, e] (tCons ts (tCons tt tNil)) := pa_cons hs (pa_cons ht pa_nil hst2) hst
  have h' : tCons ts (tCons tt tNil) σ H (two fun x v H2 => ∃ a, x = .ref a ∧ H2 a = some (ErrO a C none) ∧ Q .non H2) := h
  refine PyProof.Rows.callWith_builtin1 (thn (pa pos pins _ σ H _ I0 h') fun us s1 ⟨vs, H1, I1, r, q⟩ => ?_) hst hpl
  obtain ⟨_, v, rfl, a, rfl, ha, q⟩ := two_of q
  obtain ⟨u, u', rfl, ru, ru'⟩ := vals2 r
  cases (show u = Value.ref a from ru)
  obtain ⟨t0, hx⟩ := errO_at I1.hok ha
  obtain ⟨q', N, bs, sn, sub, ab, col, dd, k0, k1, k2, k3, k5, l⟩ := T.cls
  obtain ⟨hp, g, dr, tk, os⟩ := s1
  refine wpAny_call (viCall (C := C) PySem.F.excBase_ValueError (B.tail I1.kIn) (I1.kIn _ _ l) hx fun h' hx' hk => ?_)
  have I2 : Inv X pins σ (upd H1 a (ErrO a C none)) ⟨h', g, dr, tk, os⟩ := I1.write (h' := h') (t' := tk) (x := a) (e := a) (by rw [ha]; exact True.intro) (.inl rfl) (fun b o hb e => hk b o hb e) ⟨_, hx'⟩ (errO_ok hx')
  rw [upd_id ha] at I2
  exact ⟨.non, H1, I2, rfl, q⟩
def sErr (K : Frag) (C : Addr) (ta tv : TE) (f : Str) : TS := fun D σ H => tv σ H fun y H1 => ta σ H1 fun x H2 => ∃ a, x = .ref a ∧ H2 a = some (ErrO a C none) ∧ takerIn K C f = some none ∧ ∀ dx, H2 dx = none → dx ≠ a → D.nx σ (upd (upd H2 dx (.xd [(f, y)])) a (ErrO a C (some dx)))
theorem ps_err {D C fI : Addr} {nm f : Str} {o value : Expr} {ta tv : TE} {pos pos' : Pos} (T : ErrC X.K D nm C fI) (ha : PE X o ta) (hv : PE X value tv) (hs : swapsWith value (some (.Attribute o f pos')) pos.line X.env = pure false) :
    PS X (.Assign [.Attribute o f pos'] value pos) (sErr X.K C ta tv f) := by
  intro pins s σ H D' I h
  refine plainObj_wpAny_Assign_Attribute (thn (hv pins s σ H _ I h) fun u s1 ⟨y, H1, I1, ry, q⟩ => thn (ha pins s1 σ H1 _ I1 q) fun ov s2 ⟨x, H2, I2, rx, a, ex, ea, tk, q2⟩ => ?_) hs
  subst ex
  obtain rfl : ov = Value.ref a := rx
  obtain ⟨t0, hx⟩ := errO_at I2.hok ea
  obtain ⟨cd, hc, hd, hp⟩ := T.refuse a
  refine setExc I2.kIn hx T.sa hc hd hp T.it.mo tk fun h' tk' hx' hn' hk => ?_
  have fr : H2 s2.heap.objs.size = none := I2.fresh
  have nz : s2.heap.objs.size ≠ a := fun z => by rw [← z, fr] at ea; cases ea
  obtain ⟨oD, es, ep, hoD, rD⟩ := id hn'
  have nf : oD.isFreed = false := Obj.isFreed_of_dict rD.1
  have I3 : Inv X pins σ (upd H2 s2.heap.objs.size (.xd [(f, y)])) { s2 with heap := s2.heap.push oD, toks := s2.toks } := by
    refine I2.laid (h' := s2.heap.push oD) (t' := s2.toks) (a := s2.heap.objs.size) (fun b o e => Heap.get?_push_of_some _ e) (Nat.le_refl _) ⟨_, ⟨oD, es, ep, Heap.get?_push_at rfl nf, rD⟩, fun g => ?_⟩
    by_cases e : g = f
    · subst e
      rw [if_pos rfl, List.lookup_cons_self]
      exact ry
    · rw [if_neg e, List.lookup_cons, beq_eq_false_iff_ne.mpr e]
      exact True.intro
  have ea3 : upd H2 s2.heap.objs.size (.xd [(f, y)]) a = some (ErrO a C none) := by rw [upd_ne nz.symm]; exact ea
  have I4 : Inv X pins σ (upd (upd H2 s2.heap.objs.size (.xd [(f, y)])) a (ErrO a C (some s2.heap.objs.size))) { s2 with heap := h', toks := tk' } := by
    refine I3.write (h' := h') (t' := tk') (x := a) (e := a) (by rw [ea3]; exact True.intro) (.inl rfl) (fun b o hb e => ?_) ⟨_, hx'⟩ (errO_ok (t := t0) hx')
    by_cases z : b = s2.heap.objs.size
    · subst z
      have e' : (s2.heap.push oD).get? s2.heap.objs.size = some o := e
      rw [Heap.get?_push_at rfl nf] at e'
      cases e'
      exact hoD
    · have e' : (s2.heap.push oD).get? b = some o := e
      exact hk b o hb (by rw [← Heap.get?_push_ne _ _ oD z]; exact e')
  exact ⟨σ, _, I4, q2 _ fr nz⟩
end
end My
set_option Elab.async false
set_option linter.all false
set_option maxRecDepth 100000
set_option maxHeartbeats 4000000
namespace My
open PySem PySem.W L2
section
variable {prog : Program} {w : World} {A : Around} {E : Value → Shared → Prop} {h : Heap} {g : Array GenState}
variable {d : Drawn} {t : Nat} {os : OsState} {nm q : Str} {C N : Addr} {bs bm bmB : List Value} {hdct ab : Bool}
variable {sn : List Str} {sub : List Value} {col : Option Bool} {dd : Option Addr}
variable {k0 k1 k2 k3 k5 : Option Value} {B newId initId : String} {K : Frag}
end
section
variable {X : Cx} {pins : List (Addr × Obj)} {σ : St} {H : Hp} {s : Shared}
theorem err_inst {P : Program} {w : World} {H : Hp} {h : Heap} {a C dx : Addr} {fs : List (Str × V)} (ok : HOk P w H h) (ea : H a = some (ErrO a C (some dx))) (ed : H dx = some (.xd fs)) :
    ∃ (ox od : Obj), InstAt h a ox C (some od) ∧ ∃ mA : Str → Option Value, (∀ f, RelO (fs.lookup f) (mA f)) ∧ ∀ name, lookIn name od = some (mA name) := by
  obtain ⟨t, hx⟩ := errO_at ok ea
  obtain ⟨mA, hn, hr⟩ := (show ObjOk P w H h dx (.xd fs) from ok dx _ ed)
  obtain ⟨od, hod, hl⟩ := lookIn_ns hn
  exact ⟨_, od, ⟨hx, rfl, rfl, hod⟩, mA, hr, hl⟩
structure IsT (K : Frag) : Prop where
  gt : specialIn K (.builtin "object.__class__") "__get__" = some (some (.builtin "getset_descriptor.__get__"))
  tk : takesIn K (.builtin "object.__class__") = some true
def ErrAt (H : Hp) (a C : Addr) : Prop := H a = some (ErrO a C none) ∨ ∃ dx fs, H a = some (ErrO a C (some dx)) ∧ H dx = some (.xd fs)
theorem ErrAt.inst {P : Program} {w : World} {H : Hp} {h : Heap} {a C : Addr} (E : ErrAt H a C) (ok : HOk P w H h) : ∃ ox od, InstAt h a ox C od := by
  rcases E with e | ⟨dx, fs, ea, ed⟩
  · obtain ⟨t, hx⟩ := errO_at ok e
    exact ⟨_, none, ⟨hx, rfl, rfl, True.intro⟩⟩
  · obtain ⟨ox, od, J, _⟩ := err_inst ok ea ed
    exact ⟨ox, some od, J⟩
def isV : V → Value
  | .ref a => .ref a
  | .ty n => .type n
  | _ => .none
end
end My
set_option Elab.async false
set_option linter.all false
set_option maxRecDepth 100000
set_option maxHeartbeats 1000000
namespace My
open PySem PySem.W L2
open PyProof.Rows (AllBare)
abbrev errW (C : Addr) (d : Option Addr) (t : Addr) (v : Value) : Obj := { cls := .ref C, dict := d, data := .fields #[.ref t, v, .none, .none, .bool false, .none] }
def ErrT (x C : Addr) (d : Option Addr) : HO := .ext fun h => ∃ t v, h.get? x = some (errW C d t v)
theorem errT_ok {P : Program} {w : World} {H : Hp} {h : Heap} {x C : Addr} {d : Option Addr} {t : Addr} {v : Value} (e : h.get? x = some (errW C d t v)) : ObjOk P w H h x (ErrT x C d) :=
  ⟨⟨t, v, e⟩, ⟨_, e⟩, fun _ _ ⟨t', v', e'⟩ k => ⟨t', v', k _ e'⟩⟩
theorem errT_at {P : Program} {w : World} {H : Hp} {h : Heap} {x C : Addr} {d : Option Addr} (ok : HOk P w H h) (e : H x = some (ErrT x C d)) : ∃ t v, h.get? x = some (errW C d t v) := (ok x _ e).1
def Fly (n : Nat) (H : Hp) (h : Heap) (x C : Addr) (d : Option Addr) : Prop := ∃ t T oT ts, h.get? x = some (errW C d t (.ref T)) ∧ T ≠ x ∧ n ≤ T ∧ H T = none ∧ h.get? T = some oT ∧ oT.data = .fields ts ∧ ts[3]? = some Value.none
def CXE (P : Program) (w : World) : CXT := fun outer H s E e s' => ∃ x C dx fs H', e = .ref x ∧ s'.os = s.os ∧ AllBare s'.gens ∧ Un (frs outer) [] H H' s.heap s'.heap ∧ HOk P w H' s'.heap ∧ H' x = some (ErrT x C (some dx)) ∧ H' dx = some (.xd fs) ∧ Fly s.heap.objs.size H' s'.heap x C (some dx) ∧ E (.ref C) (some x) H'
section
variable {X : Cx} {pins : List (Addr × Obj)} {σ : St} {H : Hp} {s : Shared}
theorem Inv.left {x C : Addr} {d : Option Addr} {t T : Addr} {v r : Value} {h' : Heap} {o : HO} (I : Inv X pins σ H s) (hS : X.stack = X.env :: X.outer) (hx : H x = some o) (ho : (∃ φ, o = .ext φ)) (he : s.heap.get? x = some (errW C d t v))
    (l : LeftX (frs (X.env :: X.outer)) x T (errW C d t v) s.heap h' r) : Inv X pins σ (upd H x (ErrT x C d)) { s with heap := h' } := by
  obtain ⟨φ, rfl⟩ := ho
  have nx : ∀ b u, H b = some u → (∀ φ, u ≠ .ext φ) → b ≠ x := fun b u e n z => by
    subst z
    rw [hx] at e
    exact n φ (Option.some.inj e).symm
  have fr0 : ∀ b ∈ frs (X.env :: X.outer), H b = none := fun b hb => I.stkFree b (by rw [hS]; exact hb)
  have nfr : ∀ b u, H b = some u → b ∉ frs (X.env :: X.outer) := fun b u e z => by rw [fr0 b z] at e; cases e
  have exc : h'.get? x = some (errW C d t (.ref T)) := l.exc
  have sub : ∀ b, b ∈ frs (X.env :: X.outer) → b = X.env.locals ∨ b ∈ X.fs := fun b hb => List.mem_cons.mp (I.stkSub b (by rw [hS]; exact hb))
  refine I.step (g' := s.gens) (d' := s.drawn) (t' := s.toks) (ch := []) (fun _ z => nomatch z) (fun b o hL hf _ e n => ?_) (fun b o hL hf _ e n => ?_) (fun b o _ e n => ?_) (fun b o _ e => ?_) (fun b xs e => ?_) (fun b o u e => ?_) (fun b ps e => ⟨#[], ?_⟩) (fun e => ?_) (fun m hm => ?_) (fun b u e => ?_) I.bare
  · refine l.keep b o (fun z => by rw [z, hx] at n; cases n) (fun z => ?_) e
    rcases sub b z with q | q
    · exact hL q
    · exact hf q
  · exact l.slot b o (fun z => by rw [z, hx] at n; cases n) e
  · rw [upd_ne (fun z => by rw [z, hx] at n; cases n)]; exact n
  · by_cases z : b = x
    · subst z; exact ⟨_, exc⟩
    · obtain ⟨sl, q⟩ := l.slot b o z e
      exact ⟨_, q⟩
  · rw [upd_ne (nx b _ e fun _ => by intro z; cases z)]; exact e
  · rw [upd_ne (nx b _ e fun _ => by intro z; cases z)]; exact e
  · rw [upd_ne (nx b _ e fun _ => by intro z; cases z), e]; simp
  · rw [upd_ne (fun z => by rw [z, hx] at e; cases e)]; exact e
  · obtain ⟨o, es, ep, ho, r⟩ := hm
    obtain ⟨sl, q⟩ := l.slot _ o (fun z => by have := I.free; rw [z, hx] at this; cases this) ho
    exact ⟨_, es, ep, q, r⟩
  · by_cases z : b = x
    · subst z
      rw [upd_same] at e
      cases e
      exact errT_ok exc
    · rw [upd_ne z] at e
      refine (I.hok b u e).stay (fun c o' hc q => ?_) (fun c q => ?_) fun c xs q => ?_
      · rcases hc with rfl | hc
        · exact l.keep c o' z (nfr c u e) q
        · exact l.keep c o' (nx c _ hc fun _ => by intro w; cases w) (nfr c _ hc) q
      · rw [upd_ne (nx c _ q fun _ => by intro w; cases w)]; exact q
      · rw [upd_ne (nx c _ q fun _ => by intro w; cases w)]; exact q
end
section
variable {P : Program} {w : World} {K : Frag} {mg : Str → Option Value} {base : Heap} {N : List Str} {qual : Str} {scope : Scope} {f : Addr} {cd : Value} {A : Around} {outer : List Env} {s0 : Shared} {H0 : Hp} {E : XK} {pins : List (Addr × Obj)} {σ : St} {H : Hp} {s : Shared}
theorem xe_of {x C dx : Addr} {t : Addr} {v : Value} {o : HO} {fs : List (Str × V)} (I : Inv (cxOf (CXE P w) P w K mg base N qual scope f cd A outer s0 H0 E) pins σ H s) (hx : H x = some o) (ho : (∃ φ, o = .ext φ)) (hdx : H dx = some (.xd fs)) (he : s.heap.get? x = some (errW C (some dx) t v))
    (hv : Head s.heap x #[.ref t, v, .none, .none, .bool false, .none]) (q : E (.ref C) (some x) (upd H x (ErrT x C (some dx)))) : (cxOf (CXE P w) P w K mg base N qual scope f cd A outer s0 H0 E).xe (.ref x) s := by
  have hA := I.ok.frames
  refine leave_exact hA I.stack rfl he rfl hv fun h' T l => ?_
  have J := Inv.left I rfl hx ho he l
  have nT : H T = none := I.hok.fresh l.new
  obtain ⟨oT, ts, h1, h2, h3, h4⟩ := l.trc
  have nd : dx ≠ x := fun z => by
    obtain ⟨φ, rfl⟩ := ho
    rw [z, hx] at hdx; cases hdx
  refine ⟨x, C, dx, fs, _, rfl, J.os, J.bare, J.base, J.hok, upd_same, by rw [upd_ne nd]; exact hdx, ⟨t, T, oT, ts, l.exc, h4, Nat.le_trans I.sz l.new, ?_, h1, h2, h3⟩, q⟩
  rw [upd_ne h4]; exact nT
theorem passE : Passes (CXE P w) (cxOf (CXE P w) P w K mg base N qual scope f cd A outer s0 H0 E) E := by
  intro pins σ H s e s' I h
  obtain ⟨x, C, dx, fs, H', rfl, os, bare, un, hok, hx, hdx, ⟨t, T, oT, ts, h1, h2, _, h4, h5, h6, h7⟩, q⟩ := h
  have J := I.call' os un hok bare (fun b z => absurd z (by simp))
  refine xe_of J hx ⟨_, rfl⟩ hdx h1 (.inr ⟨T, oT, ts, rfl, h2, h5, h6, h7⟩) ?_
  rw [upd_id hx]
  exact q
end
end My
set_option Elab.async false
set_option linter.all false
set_option maxRecDepth 100000
set_option maxHeartbeats 1000000
namespace My
open PySem PySem.W L2
open PyProof.Rows (AllBare)
section
variable {prog : Program} {w : World} {A : Around} {E : Value → Shared → Prop} {s : Shared} {env : Env} {x : Sem Value} {Q : Flow → Shared → Prop} {K : Frag} {C : Addr}
theorem wp_raise (T : ErrI K C) (ht : typeIn K (.ref C) = some (.type "type")) (hA : A.handled = none)
    (hx : wpAny (model prog w) A x (fun v s1 => ∃ e t d od, v = .ref e ∧ InstAt s1.heap e (errAt C d t) C od ∧ K.In s1.heap ∧ E (.ref e) s1) E s) : wpAny (model prog w) A (raiseStmt env (some x) none) Q E s := by
  unfold raiseStmt
  refine wpAny_bind (wpAny_mono hx (fun v s1 h => ?_) (fun _ _ z => z))
  obtain ⟨e, t, d, od, rfl, I, KX, q⟩ := h
  obtain ⟨hp, g, dr, tk, os⟩ := s1
  have noC : ∀ c : ClassData, (errAt C d t).data ≠ Data.cls c := fun c z => by cases z
  refine wpAny_bind (wpAny_pure ?_)
  refine wpAny_bind ?_
  show wpAny _ _ (excFromValue (.ref e) _) _ _ _
  unfold excFromValue
  refine wpAny_bind ?_
  unfold isExcClass
  refine wpAny_bind (ks_wpAny_isType_inst I.at_ noC ?_)
  refine wpAny_ite_false rfl (wpAny_pure ?_)
  refine wpAny_ite_false rfl ?_
  refine wpAny_bind ?_
  have sub : Looks (model prog w) hp (isInstance (.ref e) (.type "BaseException")) true := I.type.andThen (looks_mroIn KX T.mb)
  refine Looks.here (s := ⟨hp, g, dr, tk, os⟩) sub ?_
  refine wpAny_ite_true rfl (wpAny_pure ?_)
  refine wpAny_bind (ks_wpAny_isType_inst I.at_ noC ?_)
  refine wpAny_ite_false rfl ?_
  refine wpAny_bind ?_
  unfold raisedInstance
  refine wpAny_bind (Looks.here (s := ⟨hp, g, dr, tk, os⟩) I.type ?_)
  refine wpAny_bind (Looks.here (s := ⟨hp, g, dr, tk, os⟩) (looks_typeIn KX ht) ?_)
  refine wpAny_ite_true rfl (wpAny_pure ?_)
  refine wpAny_bind ?_
  unfold setFlight
  refine wpAny_bind (wpAny_field I.at_ rfl rfl ?_)
  refine wpAny_ite_false rfl (wpAny_pure ?_)
  exact wpAny_raiseNew_none hA q
end
theorem ErrC.type {K : Frag} {D : Addr} {nm : Str} {C f : Addr} (T : ErrC K D nm C f) : typeIn K (.ref C) = some (.type "type") := by
  obtain ⟨q, N, bs, sn, sub, ab, col, dd, k0, k1, k2, k3, k5, l⟩ := T.cls
  show (K.lookup C).map (fun o => o.cls) = _
  rw [l]
  rfl
def qR (E : XK) (C : Addr) : VK := fun y H' => ∃ x dx fs, y = .ref x ∧ H' x = some (ErrO x C (some dx)) ∧ H' dx = some (.xd fs) ∧ E (.ref C) (some x) (upd H' x (ErrT x C (some dx)))
def tRaise (E : XK) (C : Addr) (fld : Str) (te : TE) : TS := fun _ σ H => tErr C fld te σ H (qR E C)
theorem upd_upd {H : Hp} {x : Addr} {a b : HO} : upd (upd H x a) x b = upd H x b := by
  funext z
  unfold upd
  by_cases h : z = x
  · rw [if_pos h, if_pos h]
  · rw [if_neg h, if_neg h, if_neg h]
section
variable {P : Program} {w : World} {K : Frag} {mg : Str → Option Value} {base : Heap} {N : List Str} {qual : Str} {scope : Scope} {f : Addr} {cd : Value} {A : Around} {outer : List Env} {s0 : Shared} {H0 : Hp} {E : XK}
abbrev cxE (P : Program) (w : World) (K : Frag) (mg : Str → Option Value) (base : Heap) (N : List Str) (qual : Str) (scope : Scope) (f : Addr) (cd : Value) (A : Around) (outer : List Env) (s0 : Shared) (H0 : Hp) (E : XK) : Cx := cxOf (CXE P w) P w K mg base N qual scope f cd A outer s0 H0 E
theorem ps_raise {D C fI : Addr} {nm fld x : Str} {k : Nat} {fd : FuncData} {ps : List Str} {e : Expr} {te : TE} {p pos pos' : Pos} (B : BaseC K D) (T : ErrC K D nm C fI) (F : FnOk P w K mg base CX0 k fI fd ps (spErr C fld)) (hr : Room (k + 1) (cxE P w K mg base N qual scope f cd A outer s0 H0 E).A) (hb : Binds K fd ps [])
    (hg : Gl (cxE P w K mg base N qual scope f cd A outer s0 H0 E) x) (hm : mg x = some (.ref C)) (ha : PE (cxE P w K mg base N qual scope f cd A outer s0 H0 E) e te)
    (hdb : (x == ("__debug__" : Str)) = false := by decide) (he : starEach [e] (cxE P w K mg base N qual scope f cd A outer s0 H0 E).env = (false, eval e (cxE P w K mg base N qual scope f cd A outer s0 H0 E).env) :: starEach [] (cxE P w K mg base N qual scope f cd A outer s0 H0 E).env := by rfl) (hpl : (backTo pos (starEach [] (cxE P w K mg base N qual scope f cd A outer s0 H0 E).env)).any (·.1) = false := by rfl) :
    PS (cxE P w K mg base N qual scope f cd A outer s0 H0 E) (.Raise (some (.Call (.Name x p) [e] [] pos)) none pos') (tRaise E C fld te) := by
  intro pins s σ H D' I h
  have pe := pe_err (X := cxE P w K mg base N qual scope f cd A outer s0 H0 E) (p := p) (pos := pos) B T F hr hb hg hm ha hdb he hpl
  have hd : (cxE P w K mg base N qual scope f cd A outer s0 H0 E).A.handled = none := I.ok.hd rfl
  rw [arm_exec_Raise]
  refine wpAny_bind (wpAny_standAt ?_)
  refine wp_raise T.it T.type hd ?_
  refine wpAny_bind (thn (pe pins s σ H (qR E C) I h) fun u s1 h1 => ?_)
  obtain ⟨y, H1, I1, ry, x, dx, fs, rfl, e1, e2, q⟩ := h1
  refine wpAny_bind (wpAny_standAt (wpAny_pure ?_))
  obtain ⟨t, ht⟩ := errO_at I1.hok e1
  obtain ⟨ox, od, J, _⟩ := err_inst I1.hok e1 e2
  have eo : ox = errAt C (some dx) t := Option.some.inj (J.at_.symm.trans ht)
  subst eo
  exact ⟨x, t, some dx, some od, ry, J, I1.kIn, xe_of I1 e1 ⟨_, rfl⟩ e2 ht (.inl rfl) q⟩
theorem qR_of {C x dx : Addr} {fld : Str} {v : V} {H1 : Hp} (nd : dx ≠ x) (q : E (.ref C) (some x) (upd (upd H1 dx (.xd [(fld, v)])) x (ErrT x C (some dx)))) : qR E C (.ref x) (upd (upd H1 dx (.xd [(fld, v)])) x (ErrO x C (some dx))) :=
  ⟨x, dx, _, rfl, upd_same, by rw [upd_ne nd, upd_same], by rw [upd_upd]; exact q⟩
theorem okE {x qual : Str} {st : Stmt} {f : Addr} {fd : FuncData} {N ps : List Str} {k : Nat} {sp : Sp} (F : Fun K x qual st f fd) (S : FnScope N ps (defScope st)) (len : ∀ vs H Q E, sp vs H Q E → vs.length = ps.length)
    (hbody : ∀ (cdv : Value) (A : Around) (outer : List Env) (s : Shared) (H : Hp) (vs : List V) (Q : VK) (E : XK), Room k (A.deeper (PyProof.Rows.envOfC qual (defScope st) s.heap.objs.size f cdv)) → sp vs H Q E →
      ∃ t, PSs (cxE P w K mg base N qual (defScope st) f cdv A outer s H E) (defBody st) t ∧ t { nx := fun _ H' => Q .non H', rt := Q } (start N vs) H) : FnOk P w K mg base (CXE P w) (k + 1) f fd ps sp := by
  obtain ⟨oc, od, kV, doc, pm, an, cdv, ct, osl, rfl, lk, hcd⟩ := F.ex
  refine fn_of lk hcd S len fun A outer s H vs Q E hr hsp => ?_
  obtain ⟨t, h, q⟩ := hbody cdv A outer s H vs Q E hr hsp
  exact ⟨t, h, q⟩
theorem ps_never {X : Cx} {st : Stmt} : PS X st (fun _ _ _ => False) := fun _ _ _ _ _ _ h => h.elim
end
end My
set_option Elab.async false
set_option linter.all false
set_option maxRecDepth 100000
set_option maxHeartbeats 1000000
namespace My
open PySem PySem.W L2
open PyProof.Rows (AllBare)
def PX (X : Cx) (σ : St) (e : Expr) (t : TE) : Prop := ∀ (pins : List (Addr × Obj)) (s : Shared) (H : Hp) (Q : VK), Inv X pins σ H s → t σ H Q → wpAny (model X.prog X.w) X.A (eval e X.env) (EP X pins σ Q) X.xe s
def PXA (X : Cx) (σ : St) (es : List Expr) (t : TA) : Prop := ∀ (pos : Pos) (pins : List (Addr × Obj)) (s : Shared) (H : Hp) (Q : List V → Hp → Prop), Inv X pins σ H s → t σ H Q → wpAny (model X.prog X.w) X.A (spliced (backTo pos (starEach es X.env))) (AP X pins σ Q) X.xe s
section
variable {X : Cx} {σ : St} {e : Expr} {es : List Expr} {te : TE} {t : TA} {pos : Pos}
theorem px_of (h : PE X e te) : PX X σ e te := fun pins s H Q I q => h pins s σ H Q I q
theorem pxa_of (h : PA X es t) : PXA X σ es t := fun pos pins s H Q I q => h pos pins s σ H Q I q
theorem pxa_nil : PXA X σ [] tNil := pxa_of pa_nil
theorem pxa_cons (ha : PX X σ e te) (hr : PXA X σ es t) (hs : starEach (e :: es) X.env = (false, eval e X.env) :: starEach es X.env := by rfl) : PXA X σ (e :: es) (tCons te t) := by
  intro pos pins s H Q I h
  rw [hs]
  show wpAny _ _ (spliced ((false, eval e X.env) :: backTo pos (starEach es X.env))) _ _ s
  refine Calls.spliced_cons (thn (ha pins s H _ I h) fun u s1 ⟨x, H1, I1, r1, q1⟩ => ?_)
  exact thn (hr pos pins s1 H1 _ I1 q1) fun us s2 ⟨xs, H2, I2, r2, q2⟩ => ⟨x :: xs, H2, I2, .cons r1 r2, q2⟩
theorem px_lst (h : PXA X σ es t) : PX X σ (.List es pos) (tLst t) := by
  intro pins s H Q I hq
  refine wpAny_List_spliced (thn (h pos pins s H _ I hq) fun us s1 ⟨xs, H1, I1, r, z, q⟩ => ⟨by rw [← r.length]; exact z, ?_⟩)
  have hf : H1 s1.heap.objs.size = none := I1.hok.fresh (Nat.le_refl _)
  refine ⟨.ref s1.heap.objs.size, upd H1 s1.heap.objs.size (.lst xs), I1.laid (t' := s1.toks) (fun b u e => Heap.get?_push_of_some _ e) (Nat.le_refl _) ?_, rfl, q _ hf⟩
  exact ⟨z, us, 0, r, Heap.get?_push_size _ rfl⟩
def PassX (CX : CXT) (X : Cx) (σ : St) (E : XK) : Prop := ∀ (pins : List (Addr × Obj)) (H : Hp) (s : Shared) (e : Value) (s' : Shared), Inv X pins σ H s → CX X.stack H s E e s' → X.xe e s'
variable {CX : CXT} {k : Nat} {f C : Addr} {fd : FuncData} {ps : List Str} {sp : Sp} {dvs : List V} {ds : List Value} {E : XK} {x : Str} {p : Pos}
theorem run_fnX {pins : List (Addr × Obj)} {H : Hp} {s : Shared} {Q : VK} {us : List Value} {vs : List V} (F : FnOk X.prog X.w X.K X.mg X.base CX k f fd ps sp) (hr : Room k X.A) (hb : Binds X.K fd ps ds) (hd : Vals dvs ds) (hx : PassX CX X σ E)
    (I : Inv X pins σ H s) (r : Vals vs us) (h : sp (vs ++ dvs) H Q E) : wpAny (model X.prog X.w) X.A (call (.ref f) us) (EP X pins σ Q) X.xe s := by
  have r2 : Vals (vs ++ dvs) (us ++ ds) := r.append hd
  have hl : (us ++ ds).length = ps.length := by rw [← r2.length]; exact F.len _ _ _ _ h
  refine wpAny_call (codeAny_mono (F.run X.A X.stack s H ⟨us, []⟩ (us ++ ds) (vs ++ dvs) Q E hr I.env0 (hb s us I.kIn hl) r2 h) fun r s' hq => ?_)
  cases r with
  | error e => exact hx pins H s e s' I hq
  | ok fl =>
    cases fl with
    | ret u => exact I.after hq
    | next => exact False.elim hq
    | brk => exact False.elim hq
    | cont => exact False.elim hq
theorem px_call (F : FnOk X.prog X.w X.K X.mg X.base CX k f fd ps sp) (hr : Room k X.A) (hg : Gl X x) (hm : X.mg x = some (.ref f)) (hk : PySem.W.keepIn X.K (.ref f) = true) (hb : Binds X.K fd ps ds) (hd : Vals dvs ds) (hx : PassX CX X σ E)
    (ha : PXA X σ (e :: es) t) (hdb : (x == ("__debug__" : Str)) = false := by decide) (he : starEach (e :: es) X.env = (false, eval e X.env) :: starEach es X.env := by rfl) (hpl : (backTo pos (starEach es X.env)).any (·.1) = false := by rfl) :
    PX X σ (.Call (.Name x p) (e :: es) [] pos) (tCall sp dvs E t) := by
  intro pins s H Q I h
  refine wpAny_Call_Name_kw (ld_glob I hg hm ?_ hdb)
  refine PySem.W.callWith_K (h₀ := X.base) I.ok.mod.kin hk (thn (ha pos pins s H _ I h) fun us s1 ⟨vs, H1, I1, r, q⟩ => ⟨I1.kIn, ?_⟩) he hpl
  exact run_fnX F hr hb hd hx I1 r q
end
section
variable {prog : Program} {w : World} {A : Around} {E : Value → Shared → Prop} {s : Shared} {K : Frag} {C D e : Addr} {Q : Bool → Shared → Prop} {ox : Obj} {od : Option Obj} {b : Bool}
theorem wp_matches (KX : K.In s.heap) (hD : ∃ cd, clsIn K D = some cd) (hT : typeIn K (.ref D) = some (.type "type")) (hB : mroIn K D (.type "BaseException") = some true) (I : InstAt s.heap e ox C od) (hC : mroIn K C (.ref D) = some b) (q : Q b s) : wpAny (model prog w) A (excMatches (.ref e) (.ref D)) Q E s := by
  unfold excMatches
  have L1 : Looks (model prog w) s.heap (isInstance (.ref D) (.type "tuple")) false := (looks_typeIn KX hT).andThen (Looks.of_pure rfl)
  refine wpAny_bind (Looks.here L1 ?_)
  refine wpAny_ite_false rfl ?_
  refine wpAny_bind (wpAny_pure ?_)
  refine wpAny_bind ?_
  obtain ⟨cd, hc⟩ := hD
  obtain ⟨hp, g, dr, tk, os⟩ := s
  obtain ⟨oD, hoD, hdD⟩ : ∃ oD, K.lookup D = some oD ∧ oD.data = .cls cd := by
    unfold clsIn at hc
    split at hc
    · rename_i h
      exact ⟨_, h, by cases hc; rfl⟩
    · cases hc
  rw [List.forIn_cons]
  refine wpAny_bind (wpAny_bind ?_)
  unfold isExcClass
  refine wpAny_bind (ks_wpAny_isType_cls (KX _ _ hoD) hdD ?_)
  refine wpAny_ite_true rfl ?_
  refine Looks.here (s := ⟨hp, g, dr, tk, os⟩) (looks_mroIn KX hB) ?_
  refine wpAny_ite_false rfl (wpAny_pure ?_)
  show wpAny _ _ (forIn ([] : List Value) PUnit.unit _) _ _ _
  rw [List.forIn_nil]
  refine wpAny_pure ?_
  refine wpAny_bind (Looks.here (s := ⟨hp, g, dr, tk, os⟩) I.type ?_)
  refine wpAny_bind ?_
  rw [List.forIn_cons]
  refine wpAny_bind (wpAny_bind (Looks.here (s := ⟨hp, g, dr, tk, os⟩) (looks_mroIn KX hC) ?_))
  cases b with
  | true =>
    refine wpAny_ite_true rfl (wpAny_pure ?_)
    exact wpAny_pure (wpAny_pure q)
  | false =>
    refine wpAny_ite_false rfl (wpAny_pure ?_)
    show wpAny _ _ (forIn ([] : List Value) _ _) _ _ _
    rw [List.forIn_nil]
    exact wpAny_pure (wpAny_pure q)
end
end My
set_option Elab.async false
set_option linter.all false
set_option maxRecDepth 100000
set_option maxHeartbeats 1000000
namespace My
open PySem PySem.W L2
open PyProof.Rows (AllBare)
def PXS (X : Cx) (σ : St) (st : Stmt) (t : TS) : Prop := ∀ (pins : List (Addr × Obj)) (s : Shared) (H : Hp) (D : Ends), Inv X pins σ H s → t D σ H → wpAny (model X.prog X.w) X.A (exec st X.env) (SP X pins D) X.xe s
section
variable {X : Cx} {σ : St} {e : Expr} {te : TE} {pos : Pos}
theorem pxs_ret (he : PX X σ e te) : PXS X σ (.Return (some e) pos) (tRet te) := by
  intro pins s H D I h
  exact wpAny_Return_some (thn (he pins s H _ I h) fun v s1 ⟨x, H1, I1, r1, q1⟩ => ⟨x, σ, H1, I1, r1, q1⟩)
end
abbrev tryCx (X : Cx) (pn : List (Addr × Obj)) (xe : Value → Shared → Prop) : Cx := { X with pn := pn, xe := xe }
abbrev exCx (X : Cx) (x : Addr) : Cx := { X with A := X.A.mark (some (.ref x)), calm := false, xe := fun _ _ => False }
section
variable {X : Cx} {pins pins' pn : List (Addr × Obj)} {σ : St} {H : Hp} {s : Shared} {xe : Value → Shared → Prop} {x : Addr}
theorem Ok.toTry (ok : X.Ok) : (tryCx X pn xe).Ok := ⟨ok.mod, ok.kind, ok.glob, ok.blt, ok.above, ok.inj, ok.has, ok.cab, ok.hd, ok.frames, ok.stk, ok.exf, ok.bs, ok.bsz, ok.noex, ok.exfs, ok.funs, ok.frf⟩
theorem Ok.ofTry (ok : (tryCx X pn xe).Ok) : X.Ok := ⟨ok.mod, ok.kind, ok.glob, ok.blt, ok.above, ok.inj, ok.has, ok.cab, ok.hd, ok.frames, ok.stk, ok.exf, ok.bs, ok.bsz, ok.noex, ok.exfs, ok.funs, ok.frf⟩
theorem Inv.toTry (I : Inv X pins σ H s) : Inv (tryCx X (X.pn ++ pins) xe) [] σ H s :=
  ⟨Ok.toTry I.ok, I.os, I.bare, I.base, I.loc, I.cell, I.free, I.freeC, fun p hp => I.pin p (by rw [List.append_nil] at hp; exact hp), I.hok, I.len⟩
theorem Inv.ofTry (I : Inv (tryCx X (X.pn ++ pins) xe) pins' σ H s) : Inv X pins σ H s :=
  ⟨Ok.ofTry I.ok, I.os, I.bare, I.base, I.loc, I.cell, I.free, I.freeC, fun p hp => I.pin p (List.mem_append_left _ hp), I.hok, I.len⟩
theorem Inv.toEx (I : Inv X pins σ H s) : Inv (exCx X x) pins σ H s :=
  ⟨⟨I.ok.mod, I.ok.kind, I.ok.glob, I.ok.blt, I.ok.above, I.ok.inj, I.ok.has, I.ok.cab, fun z => Bool.noConfusion z, I.ok.frames, I.ok.stk, I.ok.exf, I.ok.bs, I.ok.bsz, I.ok.noex, I.ok.exfs, I.ok.funs, I.ok.frf⟩, I.os, I.bare, I.base, I.loc, I.cell, I.free, I.freeC, I.pin, I.hok, I.len⟩
theorem Inv.ofEx (ok : X.Ok) (I : Inv (exCx X x) pins σ H s) : Inv X pins σ H s := ⟨ok, I.os, I.bare, I.base, I.loc, I.cell, I.free, I.freeC, I.pin, I.hok, I.len⟩
theorem SP.ofEx {D : Ends} {f : Flow} (ok : X.Ok) (h : SP (exCx X x) pins D f s) : SP X pins D f s := by
  cases f with
  | next => obtain ⟨σ', H', I, q⟩ := h; exact ⟨σ', H', Inv.ofEx ok I, q⟩
  | brk => obtain ⟨σ', H', I, q⟩ := h; exact ⟨σ', H', Inv.ofEx ok I, q⟩
  | cont => obtain ⟨σ', H', I, q⟩ := h; exact ⟨σ', H', Inv.ofEx ok I, q⟩
  | ret u => obtain ⟨v, σ', H', I, r, q⟩ := h; exact ⟨v, σ', H', Inv.ofEx ok I, r, q⟩
theorem SP.ofTry {D : Ends} {f : Flow} (h : SP (tryCx X (X.pn ++ pins) xe) pins' D f s) : SP X pins D f s := by
  cases f with
  | next => obtain ⟨σ', H', I, q⟩ := h; exact ⟨σ', H', Inv.ofTry I, q⟩
  | brk => obtain ⟨σ', H', I, q⟩ := h; exact ⟨σ', H', Inv.ofTry I, q⟩
  | cont => obtain ⟨σ', H', I, q⟩ := h; exact ⟨σ', H', Inv.ofTry I, q⟩
  | ret u => obtain ⟨v, σ', H', I, r, q⟩ := h; exact ⟨v, σ', H', Inv.ofTry I, r, q⟩
theorem unbind_ok {M : Model} {A : Around} {E : Value → Shared → Prop} {i : Nat} {n : Str} {v : V} {Q : Unit → Shared → Prop} (I : Inv X pins σ H s) (hN : X.N.Nodup) (hi : X.N[i]? = some n) (hk : X.env.scope.names.lookup n = some .local) (hv : σ[i]? = some (some v))
    (h : ∀ s', Inv X pins (σ.set i none) H s' → Q () s') : wpAny M A (unbindName X.env n) Q E s := by
  obtain ⟨m, hn, hl⟩ := id I.loc
  have hcls : (X.env.scope.kind == .class || (X.env.scope.kind == .module && X.env.locals != X.env.globals)) = false := by rw [I.ok.kind]; rfl
  have hiσ : i < σ.length := by rw [I.len]; exact (List.getElem?_eq_some_iff.mp hi).1
  obtain ⟨u, _, lk⟩ := hl i n v hi hv (.inl hk)
  have mu : m n = some u := by
    rcases lk with ⟨_, z⟩ | ⟨z, _⟩
    · exact z
    · have k' : X.env.kindOf n = some .local := hk
      rcases z with z | z <;> (rw [k'] at z; cases z)
  have cne := I.cne
  refine wpAny_unbindName_local hk hn mu hcls fun h' u' hn' hs => ?_
  obtain ⟨oL, _, _, hoL, _⟩ := id hn
  have tracked : HOk X.prog X.w H h' := fun b ob e => by
    refine (I.hok b ob e).stay (fun c w' hc q => (hs.2 c ?_).trans q) (fun _ q => q) fun _ _ q => q
    rintro rfl
    rcases hc with rfl | hc
    · rw [I.free] at e; cases e
    · rw [I.free] at hc; cases hc
  refine h _ ⟨I.ok, I.os, I.bare, ⟨fun b o e n hb hx => ?_, fun b o e n hb hx => ?_, I.base.free, fun b o e hx => ?_, I.base.tups, I.base.frzs, I.base.tbls, I.base.sys⟩, ⟨_, hn', fun j y v' e1 e2 e3 => ?_⟩, fun y c e => ?_, I.free, I.freeC, fun p hp => ?_, tracked, by simpa using I.len⟩
  · exact (hs.2 b (Nat.ne_of_lt (Nat.lt_of_lt_of_le (Heap.lt_size e) I.ok.above))).trans (I.base.keep b o e n hb hx)
  · obtain ⟨sl, e1⟩ := I.base.slot b o e n hb hx
    exact ⟨sl, (hs.2 b (Nat.ne_of_lt (Nat.lt_of_lt_of_le (Heap.lt_size e) I.ok.above))).trans e1⟩
  · obtain ⟨o', e1⟩ := I.base.there b o e hx
    exact ⟨o', (hs.2 b (Nat.ne_of_lt (Nat.lt_of_lt_of_le (Heap.lt_size e) I.ok.above))).trans e1⟩
  · by_cases hj : j = i
    · subst hj
      rw [List.getElem?_set_self hiσ] at e2
      cases e2
    · rw [List.getElem?_set_ne (Ne.symm hj)] at e2
      obtain ⟨u2, r', q⟩ := hl j y v' e1 e2 e3
      refine ⟨u2, r', ?_⟩
      rcases q with ⟨k, e⟩ | ⟨k, c, e, z⟩
      · refine .inl ⟨k, ?_⟩
        have : y ≠ n := fun e => hj (nodup_ix hN e1 (e ▸ hi))
        simp [this, e]
      · exact .inr ⟨k, c, e, z.sameBut hs (cne y c e)⟩
  · obtain ⟨w', z⟩ := I.cell y c e
    exact ⟨w', z.sameBut hs (cne y c e)⟩
  · obtain ⟨e, n, ne, nf, d⟩ := I.pin p hp
    exact ⟨(hs.2 p.1 ne).trans e, n, ne, nf, d⟩
end
structure Catch (K : Frag) (D : Addr) : Prop where
  cls : ∃ cd, clsIn K D = some cd
  ty : typeIn K (.ref D) = some (.type "type")
  mb : mroIn K D (.type "BaseException") = some true
def unEnds (D : Ends) (i : Nat) : Ends := ⟨fun σ H => D.nx (σ.set i none) H, D.rt, fun σ H => D.bk (σ.set i none) H, fun σ H => D.ct (σ.set i none) H⟩
end My
set_option Elab.async false
set_option linter.all false
set_option maxRecDepth 100000
set_option maxHeartbeats 1000000
namespace My
open PySem PySem.W L2
open PyProof.Rows (AllBare)
section
variable {X : Cx} {pins : List (Addr × Obj)} {σ : St} {H : Hp} {s : Shared}
theorem name_goes {i : Nat} {n : Str} {pos : Pos} {E : Value → Shared → Prop} {D : Ends} {f : Flow} (ok : X.Ok) (hN : X.N.Nodup) (hi : X.N[i]? = some n) (hk : X.env.scope.names.lookup n = some .local) (h : SP X pins (unEnds D i) f s) :
    wpAny (model X.prog X.w) X.A (do
      bindName X.env n .none
      unbindBehindTheSuite X.env n pos) (fun _ s' => SP X pins D f s') E s := by
  have go : ∀ {σ' : St} {H' : Hp}, Inv X pins σ' H' s → (∀ s', Inv X pins (σ'.set i none) H' s' → SP X pins D f s') → wpAny (model X.prog X.w) X.A (do
      bindName X.env n .none
      unbindBehindTheSuite X.env n pos) (fun _ s' => SP X pins D f s') E s := fun {σ' H'} I q => by
    have hiσ : i < σ'.length := by rw [I.len]; exact (List.getElem?_eq_some_iff.mp hi).1
    refine wpAny_bind (wpAny_bindName (store_ok I hN hi (.inl hk) (v := V.non) (u := Value.none) rfl (fun s1 I1 => ?_) (.inr hk)))
    unfold unbindBehindTheSuite
    refine wpAny_onRaise (unbind_ok (v := V.non) I1 hN hi hk (List.getElem?_set_self hiσ) fun s2 I2 => ?_)
    rw [List.set_set] at I2
    exact q s2 I2
  cases f with
  | next => obtain ⟨σ', H', I, q⟩ := h; exact go I fun s' I' => ⟨_, H', I', q⟩
  | brk => obtain ⟨σ', H', I, q⟩ := h; exact go I fun s' I' => ⟨_, H', I', q⟩
  | cont => obtain ⟨σ', H', I, q⟩ := h; exact go I fun s' I' => ⟨_, H', I', q⟩
  | ret u => obtain ⟨v, σ', H', I, r, q⟩ := h; exact go I fun s' I' => ⟨v, _, H', I', r, q⟩
end
section
variable {X : Cx} {pins : List (Addr × Obj)} {σ : St} {H : Hp} {s : Shared}
theorem errT_inst {P : Program} {w : World} {H : Hp} {h : Heap} {a C dx : Addr} {fs : List (Str × V)} (ok : HOk P w H h) (ea : H a = some (ErrT a C (some dx))) (ed : H dx = some (.xd fs)) :
    ∃ (ox od : Obj), InstAt h a ox C (some od) ∧ ∃ mA : Str → Option Value, (∀ f, RelO (fs.lookup f) (mA f)) ∧ ∀ name, lookIn name od = some (mA name) := by
  obtain ⟨t, v, hx⟩ := errT_at ok ea
  obtain ⟨mA, hn, hr⟩ := (show ObjOk P w H h dx (.xd fs) from ok dx _ ed)
  obtain ⟨od, hod, hl⟩ := lookIn_ns hn
  exact ⟨_, od, ⟨hx, rfl, rfl, hod⟩, mA, hr, hl⟩
def tErrFT (K : Frag) (ta : TE) (f : Str) : TE := fun σ H Q => ta σ H fun x H1 => ∃ a C dx fs v, x = .ref a ∧ H1 a = some (ErrT a C (some dx)) ∧ H1 dx = some (.xd fs) ∧ fs.lookup f = some v ∧ ErrI K C ∧ hasDictIn K C = true ∧ findIn K (.ref C) f = some none ∧ Q v H1
theorem pe_errFT {e : Expr} {ta : TE} {f : Str} {pos : Pos} (he : PE X e ta) (hb : attributeBase e f X.env (eval e X.env) = eval e X.env) : PE X (.Attribute e f pos) (tErrFT X.K ta f) := by
  intro pins s σ H Q I h
  refine attr_of hb (thn (he pins s σ H _ I h) fun u s1 ⟨x, H1, I1, rx, a, C, dx, fs, v, ex, ea, ed, l, T, hd, nf, q⟩ => ?_)
  subst ex
  obtain rfl : u = Value.ref a := rx
  obtain ⟨ox, od, J, mA, hr, hl⟩ := errT_inst I1.hok ea ed
  obtain ⟨u, eu, ru⟩ := RelO.some_of (l ▸ hr f)
  exact getExc I1.kIn J T.ga T.hk T.mb (findObj_own hd nf rfl (by rw [hl, eu])) (handed_of ru) ⟨v, H1, I1.tok _, ru, q⟩
def rIsT1 (K : Frag) : List V → Hp → VK → Prop := fun vs H Q => ∃ a C dx fs c b, vs = [.ref a, c] ∧ H a = some (ErrT a C (some dx)) ∧ H dx = some (.xd fs) ∧ ErrI K C ∧ ((∃ z, c = .ref z) ∨ ∃ n, c = .ty n) ∧ kitOne K (.ref C) (isV c) = some b ∧ Q (.bl b) H
theorem call_isT1 (N : IsT X.K) : CallR X (.builtin "isinstance") (rIsT1 X.K) := by
  intro pins s σ H xs us Q I r h
  obtain ⟨a, C, dx, fs, c, b, rfl, ea, ed, T, hc, e, q⟩ := h
  obtain ⟨u, u', rfl, ru, ru'⟩ := vals2 r
  cases (show u = Value.ref a from ru)
  have ec : u' = isV c := by
    rcases hc with ⟨z, rfl⟩ | ⟨n, rfl⟩
    · exact ru'
    · exact ru'
  subst ec
  obtain ⟨ox, od, J, _⟩ := errT_inst I.hok ea ed
  exact kia_one (kitErr T N.gt N.tk) I.kIn ⟨ox, some od, J⟩ e (fun z => nomatch z) fun tk => ⟨.bl b, H, I.tok _, rfl, q⟩
end
end My
set_option Elab.async false
set_option linter.all false
set_option maxRecDepth 100000
set_option maxHeartbeats 1000000
namespace My
open PySem PySem.W L2
open PyProof.Rows (AllBare)
structure Caught (X : Cx) (pins : List (Addr × Obj)) (σ : St) (H : Hp) (s : Shared) (x C : Addr) : Prop where
  inv : Inv X pins σ H s
  err : ∃ dx fs, H x = some (ErrT x C (some dx)) ∧ H dx = some (.xd fs)
  fl : ∃ dx t T oT ts, s.heap.get? x = some (errW C dx t (.ref T)) ∧ s.heap.get? T = some oT ∧ oT.data = .fields ts ∧ ts[3]? = some Value.none
abbrev TH := Addr → Addr → TS
def PHs (X : Cx) (hs : List ExceptHandler) (th : TH) : Prop := ∀ (pins : List (Addr × Obj)) (s : Shared) (σ : St) (H : Hp) (D : Ends) (x C : Addr), Caught X pins σ H s x C → th x C D σ H → wpAny (model X.prog X.w) X.A (handleBy (.ref x) X.env hs) (SP X pins D) X.xe s
def hNil : TH := fun _ _ _ _ _ => False
def hAs (K : Frag) (B : Addr) (i : Nat) (th : TS) (rest : TH) : TH := fun x C D σ H => ∃ b, mroIn K C (.ref B) = some b ∧ if b = true then th (unEnds D i) (σ.set i (some (.ref x))) H else rest x C D σ H
section
variable {X : Cx} {hs : List ExceptHandler} {rest : TH}
theorem phs_nil : PHs X [] hNil := fun _ _ _ _ _ _ _ _ h => False.elim h
theorem phs_as {th : TS} {B : Addr} {n cn : Str} {i : Nat} {b₀ : Stmt} {suite : List Stmt} {pc ph : Pos} (hN : X.N.Nodup) (hi : X.N[i]? = some n) (hk : X.env.scope.names.lookup n = some .local) (cB : Catch X.K B) (hg : Gl X cn) (hm : X.mg cn = some (.ref B))
    (hh : ∀ x, PSs (exCx X x) (b₀ :: suite) th) (hr : PHs X hs rest) (hdb : (cn == ("__debug__" : Str)) = false := by decide) : PHs X (.ExceptHandler (some (.Name cn pc)) (some n) (b₀ :: suite) ph :: hs) (hAs X.K B i th rest) := by
  intro pins s σ H D x C G h
  obtain ⟨b, hm', q⟩ := h
  obtain ⟨J2, ⟨dx, fs, hx, hdx⟩, dx', t, T', oT', ts', ex2, f1, f2, f3⟩ := id G
  refine wpAny_handleBy_cons ?_ (by intro z; cases z)
  refine codeAny_handlers_test ?_
  refine ld_glob (X := exCx X x) (Inv.toEx J2) hg hm ?_ hdb
  obtain ⟨ox, odd, JI⟩ : ∃ ox od, InstAt s.heap x ox C od := by
    obtain ⟨ox, od, J, _⟩ := errT_inst J2.hok hx hdx
    exact ⟨ox, some od, J⟩
  refine wp_matches J2.kIn cB.cls cB.ty cB.mb JI hm' ?_
  cases b with
  | false =>
    rw [if_neg (by decide)] at q
    exact hr pins s σ H D x C G q
  | true =>
    rw [if_pos rfl] at q
    show codeAny _ _ _ _ _
    refine codeAny_handlers_suite_as ?_
    have h3 : 3 < ts'.size := (Array.getElem?_eq_some_iff.mp f3).1
    refine wpAny_setFlight_none ex2 rfl rfl f1 f2 h3 ?_
    have J3 : Inv X pins σ H { s with heap := s.heap.update T' (Obj.mapFields fun x => x.setIfInBounds 3 Value.none) } := by
      refine J2.kept (t' := s.toks) fun b u hb => ?_
      by_cases z : b = T'
      · subst z
        have e : oT' = u := Option.some.inj (f1.symm.trans hb)
        subst e
        rw [Heap.get?_update_self _ f1 (by rw [mapF f2]; rfl), mapF f2, set_same f3, ← f2]
      · rw [Heap.get?_update_ne _ _ _ _ z]; exact hb
    generalize ({ s with heap := s.heap.update T' (Obj.mapFields fun x => x.setIfInBounds 3 Value.none) } : Shared) = s3 at J3
    refine store_ok (X := exCx X x) (Inv.toEx J3) hN hi (.inl hk) (v := V.ref x) (u := Value.ref x) rfl (fun s4 I4 => ?_) (.inr hk)
    refine wpAny_mono (hh x pins s4 _ H (unEnds D i) I4 q) (fun f s5 q5 => ?_) (fun _ _ z => False.elim z)
    exact name_goes J3.ok hN hi hk (SP.ofEx J3.ok q5)
end
def eTryN (th : TH) (D : Ends) (σ : St) : XK := fun c o H' => ∃ x C, c = .ref C ∧ o = some x ∧ th x C D σ H'
def tTryN (tb : XK → TS) (th : TH) : TS := fun D σ H => tb (eTryN th D σ) D σ H
theorem ps_tryN {X : Cx} {st : Stmt} {tb : XK → TS} {th : TH} {h₀ : ExceptHandler} {hs : List ExceptHandler} {pos : Pos} (hS : X.stack = X.env :: X.outer) (hL : X.env.frame = some X.env.locals)
    (hb : ∀ (σ : St) (E : XK) (pn : List (Addr × Obj)) (xe : Value → Shared → Prop), PassX (CXE X.prog X.w) (tryCx X pn xe) σ E → PXS (tryCx X pn xe) σ st (tb E)) (hh : PHs X (h₀ :: hs) th) : PS X (.Try [st] (h₀ :: hs) [] [] pos) (tTryN tb th) := by
  intro pins s σ H D I h
  refine wpAny_Try_except ?_
  have px := hb σ (eTryN th D σ) (X.pn ++ pins) (fun e s₁ => wpAny (model X.prog X.w) X.A (noteFrame e X.env) (fun _ s₂ => wpAny (model X.prog X.w) X.A (setFlight e none) (fun _ s₃ => wpAny (model X.prog X.w) X.A (handleBy e X.env (h₀ :: hs)) (SP X pins D) X.xe s₃) X.xe s₂) X.xe s₁) ?_
  · refine wpAny_execs_cons (thn (px [] s H D (Inv.toTry I) h) fun f s1 q => ?_)
    cases f with
    | next => exact wpAny_execs_nil (wpAny_execs_nil (SP.ofTry (f := .next) q))
    | ret v => exact SP.ofTry (f := .ret v) q
    | brk => exact SP.ofTry (f := .brk) q
    | cont => exact SP.ofTry (f := .cont) q
  intro pins' H1 s1 ev s' I1 h1
  obtain ⟨x, C, dx, fs, H', rfl, os, bare, un, hok, hx, hdx, ⟨t, T, oT, ts, e1, e2, _, e4, e5, e6, e7⟩, x', C', ec, eo, q⟩ := h1
  cases ec
  cases eo
  have J : Inv X pins σ H' s' := Inv.ofTry (I1.call' os un hok bare (fun b z => absurd z (by simp)))
  have hA : X.A.frames = some (X.env :: X.outer) := by rw [← hS]; exact J.ok.frames
  have hF : s'.heap.FunFrames X.base (X.env :: X.outer) := by rw [← hS]; exact J.stack
  refine note_exact hA hF hL e1 rfl (.inr ⟨T, oT, ts, rfl, e2, e5, e6, e7⟩) fun h' T' l => ?_
  refine l.flight rfl (by show 1 < 6; decide) _ rfl fun h2 l2 => ?_
  have J2 := Inv.left J hS hx ⟨_, rfl⟩ e1 l2
  rw [upd_id hx] at J2
  have ex2 : h2.get? x = some (errW C (some dx) t (.ref T')) := l2.exc
  obtain ⟨oT', ts', f1, f2, f3, f4⟩ := l2.trc
  exact hh pins _ σ H' D x C ⟨J2, ⟨dx, fs, hx, hdx⟩, some dx, t, T', oT', ts', ex2, f1, f2, f3⟩ q
section
variable {X : Cx} {σ : St} {e : Expr} {te : TE} {pos : Pos}
end
end My
set_option Elab.async false
set_option linter.all false
set_option maxRecDepth 100000
set_option maxHeartbeats 4000000
namespace My
open PySem L2
section
variable {X : Cx}
def eqVs : List V → List V → Bool
  | [], [] => true
  | x :: xs, y :: ys => eqV x y && eqVs xs ys
  | _, _ => false
theorem eqVs_all : ∀ (xs ys : List V), ((List.range (min xs.length ys.length)).all (fun j => eqV (xs.getD j .non) (ys.getD j .non)) && xs.length == ys.length) = eqVs xs ys
  | [], [] => rfl
  | [], y :: ys => by simp [eqVs]
  | x :: xs, [] => by simp [eqVs]
  | x :: xs, y :: ys => by
    have ih := eqVs_all xs ys
    show _ = (eqV x y && eqVs xs ys)
    rw [← ih, List.length_cons, List.length_cons, Nat.succ_min_succ, List.range_succ_eq_map, List.all_cons, List.all_map, Bool.and_assoc]
    congr 1
    rw [show (xs.length + 1 == ys.length + 1) = (xs.length == ys.length) from by simp]
    rfl
theorem tup_eqs {pins : List (Addr × Obj)} {σ : St} {H : Hp} {s : Shared} {A : Around} {xs ys : List V} {its jts : List Value} (r1 : Vals xs its) (r2 : Vals ys jts) (f1 : xs.all flatV = true) (f2 : ys.all flatV = true) :
    ∀ j (h1 : j < its.toArray.size) (h2 : j < jts.toArray.size), SeqAt.EqAt A s its.toArray[j] jts.toArray[j] (eqV (xs.getD j .non) (ys.getD j .non)) := by
  intro j h1 h2
  have h1' : j < its.length := by simpa using h1
  have h2' : j < jts.length := by simpa using h2
  have k1 : j < xs.length := by rw [r1.length]; exact h1'
  have k2 : j < ys.length := by rw [r2.length]; exact h2'
  obtain ⟨u1, e1, q1⟩ := r1.get (List.getElem?_eq_getElem k1)
  obtain ⟨u2, e2, q2⟩ := r2.get (List.getElem?_eq_getElem k2)
  have a1 : its.toArray[j] = u1 := by
    have := List.getElem?_eq_getElem h1'
    rw [e1] at this
    simpa using (Option.some.inj this).symm
  have a2 : jts.toArray[j] = u2 := by
    have := List.getElem?_eq_getElem h2'
    rw [e2] at this
    simpa using (Option.some.inj this).symm
  have z1 : xs.getD j .non = xs[j] := by simp [k1]
  have z2 : ys.getD j .non = ys[j] := by simp [k2]
  rw [a1, a2, z1, z2]
  exact eqAt_V q1 q2 (List.all_eq_true.mp f1 _ (List.getElem_mem k1)) (List.all_eq_true.mp f2 _ (List.getElem_mem k2))
end
end My
set_option Elab.async false
set_option linter.all false
set_option maxRecDepth 100000
set_option maxHeartbeats 1000000
namespace My
open PySem L2
section
variable {X : Cx}
theorem eqV_refl {v : V} (h : flatV v = true) : eqV v v = true := by
  cases v with
  | non => rfl
  | bl b => cases b <;> rfl
  | int i => exact beq_self_eq_true i
  | str s => exact beq_self_eq_true s
  | _ => cases h
end
end My
set_option Elab.async false
set_option linter.all false
set_option maxRecDepth 100000
set_option maxHeartbeats 1000000
namespace My
open PySem L2
section
variable {X : Cx}
theorem in1_units {A : Around} : A.in1.units = A.units + 1 := rfl
def rCount (K : PySem.W.Frag) : V → List V → Hp → VK → Prop := fun x vs H Q => ∃ l xs y, x = .ref l ∧ vs = [y] ∧ SqL K H l xs ∧ xs.all flatV = true ∧ flatV y = true ∧ Q (.int (xs.countP fun z => eqV z y : Nat)) H
theorem mt_count : MtR X "list.count" (rCount X.K) := by
  intro pins s σ H x vs v us Q I rx rv h
  obtain ⟨l, xs, y, rfl, rfl, hl, f1, f2, q⟩ := h
  cases rx
  obtain ⟨u, rfl, ru⟩ := vals1 rv
  obtain ⟨its, r, t, hz0⟩ := I.list hl
  obtain ⟨⟨c, dd, dt, sl⟩, h1, hc, n, hd⟩ := t.isList
  replace hc : c = .type "list" := hc
  replace hd : dt = .seq its.toArray n := hd
  subst hc hd
  refine call_meets F.slot_list_count ⟨_, h1, rfl⟩ F.entry_list_count (F.args_list_count_2 _ _) (SeqAt.list_countAt l its.toArray n dd sl u (fun z => match absV z with | some a => eqV a y | none => false)) ⟨h1, fun z hz => ?_, ?_⟩
  · obtain ⟨i, hi, e⟩ := List.getElem_of_mem (show z ∈ its by simpa using hz)
    have k1 : i < xs.length := by rw [r.length]; exact hi
    obtain ⟨u1, e1, q1⟩ := r.get (List.getElem?_eq_getElem k1)
    rw [List.getElem?_eq_getElem hi, e] at e1
    cases e1
    rw [q1.abs]
    exact eqAt_V q1 ru (List.all_eq_true.mp f1 _ (List.getElem_mem k1)) f2
  · refine ⟨.int _, H, I.tok _, ⟨_, rfl⟩, ?_⟩
    have z : its.toArray.toList.countP (fun z => match absV z with | some a => eqV a y | none => false) = xs.countP fun z => eqV z y := by
      clear h1 t hl f1 q hz0
      rw [List.toList_toArray]
      induction r with
      | nil => rfl
      | cons q1 _ ih => rw [List.countP_cons, List.countP_cons, ih, q1.abs]
    rw [z]
    exact q
end
end My
set_option Elab.async false
set_option linter.all false
set_option maxRecDepth 100000
set_option maxHeartbeats 1000000
namespace My
open PySem PySem.W L2
open PyProof.Rows (Call_ boot_enumerate)
section
variable {X : Cx} {pins : List (Addr × Obj)} {σ : St} {H : Hp} {s : Shared} {h' : Heap}
theorem turned2 {t' : Nat} {i1 i2 : Addr} (I : Inv X pins σ H s) (k : ∀ b o, b ≠ i1 → b ≠ i2 → s.heap.get? b = some o → h'.get? b = some o) (F1 : FpOk X pins H i1) (F2 : FpOk X pins H i2) : Inv X pins σ H { s with heap := h', toks := t' } := by
  obtain ⟨n1, L1, _, a1, b1, c1⟩ := F1
  obtain ⟨n2, L2, _, a2, b2, c2⟩ := F2
  have ni1 : ∀ b u, H b = some u → b ≠ i1 := fun b u e z => by rw [z, n1] at e; cases e
  have ni2 : ∀ b u, H b = some u → b ≠ i2 := fun b u e z => by rw [z, n2] at e; cases e
  refine I.step (g' := s.gens) (d' := s.drawn) (ch := [i1, i2]) (fun b hb => ?_) (fun b o _ _ hc e _ => k b o (fun z => hc (by simp [z])) (fun z => hc (by simp [z])) e) (fun b o _ _ hc e _ => ⟨o.slots, k b o (fun z => hc (by simp [z])) (fun z => hc (by simp [z])) e⟩) (fun _ _ _ _ n => n)
    (fun b o hc e => ⟨o, k b o (fun z => hc (by simp [z])) (fun z => hc (by simp [z])) e⟩) (fun _ _ e => e) (fun _ _ _ e => e) (fun b ps e => ⟨#[], by rw [e]; simp⟩) (fun q => q) (fun m hm => ?_) (fun b u e => ?_) I.bare
  · have e : b = i1 ∨ b = i2 := by simpa using hb
    rcases e with rfl | rfl
    · exact ⟨a1, L1, b1, c1⟩
    · exact ⟨a2, L2, b2, c2⟩
  · obtain ⟨o, es, ep, ho, r⟩ := hm
    exact ⟨o, es, ep, k _ o (Ne.symm L1) (Ne.symm L2) ho, r⟩
  · refine (I.hok b u e).stay (fun c v hc q => k c v ?_ ?_ q) (fun _ q => q) fun _ _ q => q
    · rcases hc with z | z
      · rw [z]; exact ni1 b u e
      · exact ni1 c _ z
    · rcases hc with z | z
      · rw [z]; exact ni2 b u e
      · exact ni2 c _ z
end
theorem nofree {o : Obj} {vs : Array Value} (d : o.data = .fields vs) : o.isFreed = false := by
  obtain ⟨c, dd, dt, sl⟩ := o
  cases d
  rfl
def Ite (K : Frag) (a : Addr) : It :=
  ⟨fun i H => ∃ xs x, SqL K H a xs ∧ xs[i]? = some x, fun i H x H' => ∃ p y, x = .ref p ∧ H p = none ∧ H' = upd H p (.tup [.int i, y]) ∧ ∀ xs, SqL K H a xs → xs[i]? = some y, fun i H => ∃ xs, SqL K H a xs ∧ xs.length ≤ i⟩
theorem turn_enum {P : Program} {w : World} {K : Frag} {elts : List Expr} {x1} {pos : Pos} (a e it : Addr) (ne : e ≠ it) : Turn P w K (.Tuple elts x1 pos) (Ite K a) [e, it] e (fun i h => (∃ old, IsEnum h e it i old) ∧ h.IsListIter it a i) where
  mem := by simp
  obj := fun i h st b hb => by
    obtain ⟨⟨old, h1⟩, o, h2, c, d⟩ := st
    have e : b = e ∨ b = it := by simpa using hb
    rcases e with rfl | rfl
    · exact ⟨_, h1, fun v z => by cases z⟩
    · exact ⟨o, h2, fun v z => by rw [d] at z; cases z⟩
  keep := fun i h h' st k => ⟨⟨_, k e (by simp) _ st.1.choose_spec⟩, st.2.at fun o z => k it (by simp) o z⟩
  item := by
    intro X hP hw hK hc i pins s σ H E I hf st hg
    subst hP hw hK
    obtain ⟨xs, x, hq, hx⟩ := hg
    obtain ⟨its, rv, p, hz⟩ := I.list hq
    obtain ⟨u, hu, ru⟩ := rv.get hx
    obtain ⟨⟨old, he⟩, hi⟩ := st
    have Fe := hf e (by simp)
    have Fi := hf it (by simp)
    refine wpAny_pyNext_enum_item he hi p.isList (x := u) (by simpa using hu) ne fun h1 eo hi1 ht hs1 kk => ?_
    refine ⟨_, rfl, wpAny_letOwnedTupleGo_enum (s := { s with heap := h1, toks := s.toks + 1 }) eo fun h2 he2 sb => ?_⟩
    have sb' : Heap.SameBut e h1 h2 := sb
    have ne2 : s.heap.objs.size ≠ e := Nat.ne_of_gt (Heap.lt_size he)
    have ht2 : h2.get? s.heap.objs.size = some { cls := .type "tuple", data := .seq #[.int i s.toks, u] } := (sb'.2 _ ne2).trans ht
    obtain ⟨oi, hoi, ci, di⟩ := hi
    obtain ⟨oi1, hoi1, ci1, di1⟩ := id hi1
    have hoi2 : h2.get? it = some oi1 := (sb'.2 _ (Ne.symm ne)).trans hoi1
    let hA : Heap := (s.heap.update e fun _ => { cls := .type "enumerate", dict := none, data := .fields #[.none, .bool false, .ref it, rawInt ((i : Int) + 1), .none, u], slots := #[] }).update it fun _ => oi1
    have IA : Inv X pins σ H { s with heap := hA, toks := s.toks } := turned2 I (fun b o z1 z2 q => by
      show hA.get? b = some o
      rw [Heap.get?_update_ne _ _ _ _ z2, Heap.get?_update_ne _ _ _ _ z1]
      exact q) Fe Fi
    have szA : hA.objs.size = s.heap.objs.size := by
      show ((s.heap.update e _).update it _).objs.size = _
      rw [Heap.size_update, Heap.size_update]
    refine ⟨.ref s.heap.objs.size, upd H s.heap.objs.size (.tup [.int i, x]), ?_, rfl, ⟨_, x, rfl, I.hok.fresh (Nat.le_refl _), rfl, fun ys hy => by rw [I.list_inj hy hq]; exact hx⟩, ⟨⟨u, he2⟩, oi1, hoi2, ci1, di1⟩, fun b hb => ?_⟩
    · refine IA.laid (t' := s.toks + 1) (fun b v q => ?_) (Nat.le_of_eq szA) ?_
      · have q' : hA.get? b = some v := q
        by_cases z2 : b = it
        · subst z2
          have hg : (s.heap.update e fun _ => { cls := .type "enumerate", dict := none, data := .fields #[.none, .bool false, .ref b, rawInt ((i : Int) + 1), .none, u], slots := #[] }).get? b = some oi := by
            rw [Heap.get?_update_ne _ _ _ _ (Ne.symm ne)]; exact hoi
          rw [Heap.get?_update_self _ hg (nofree di1)] at q'
          cases q'
          exact hoi2
        · rw [Heap.get?_update_ne _ _ _ _ z2] at q'
          by_cases z1 : b = e
          · subst z1
            rw [Heap.get?_update_self _ he rfl] at q'
            cases q'
            exact he2
          · rw [Heap.get?_update_ne _ _ _ _ z1] at q'
            exact (sb'.2 b z1).trans (kk b v z1 z2 q')
      · exact ⟨by show 2 ≤ sizeLine; decide, [.int i s.toks, u], .cons ⟨_, rfl⟩ (.cons ru .nil), ⟨_, ht2, rfl, _, rfl⟩⟩
    · have nb : b ≠ s.heap.objs.size := by
        have e' : b = e ∨ b = it := by simpa using hb
        rcases e' with rfl | rfl
        · exact Nat.ne_of_lt (Heap.lt_size he)
        · exact Nat.ne_of_lt (Heap.lt_size hoi)
      rw [upd_ne nb]
      exact (hf b hb).1
  done := by
    intro X hP hw hK hc i pins s σ H E I hf st hg
    subst hP hw hK
    obtain ⟨xs, hq, hx⟩ := hg
    obtain ⟨its, rv, p, hz⟩ := I.list hq
    obtain ⟨⟨old, he⟩, hi⟩ := st
    obtain ⟨f0, f1, f2, f3, f4, f5⟩ := hf it (by simp)
    have hl := rv.length
    exact wpAny_pyNext_enum_end (I.ok.hd hc) he hi p.isList (by simp; omega) fun h' eb => ⟨rfl, I.turned (t' := s.toks) (fun b o hb e => eb b o hb e) f0 f1 f3 f4 f5⟩
  self := fun _ _ _ _ _ st h => wpAny_pyIter_enum st.1.choose_spec h
section
variable {X : Cx}
def iEnum (K : Frag) (ta : TA) : TI := fun σ H R => ta σ H fun vs H1 => ∃ a, vs = [.ref a] ∧ (∃ xs, SqL K H1 a xs) ∧ R (Ite K a) H1
theorem pi_enum {elts : List Expr} {x1} {pt : Pos} {a : Expr} {ta : TA} {p pos : Pos} (hg : Gl X "enumerate") (hm : X.mg "enumerate" = none) (ha : PA X [a] ta) (hs : starEach [a] X.env = [(false, eval a X.env)] := by rfl) : PI X (.Tuple elts x1 pt) (.Call (.Name "enumerate" p) [a] [] pos) (iEnum X.K ta) := by
  intro pins s σ H R I h
  refine Call_ (ld_blt I hg hm boot_enumerate (PyProof.Rows.callWith_type1 (thn (ha pos pins s σ H _ I h) fun us s1 ⟨vs, H1, I1, r1, q1⟩ => ?_) hs rfl))
  obtain ⟨l, rfl, ⟨xs, hq⟩, q⟩ := q1
  cases r1 with
  | cons r rr =>
    cases rr
    cases r
    obtain ⟨its, rv, p', hz⟩ := I1.list hq
    refine call_enumerate_list p'.isList fun h' he hi hsz kk => ?_
    refine wpAny_pyIter_enum he ?_
    refine ⟨s1.heap.objs.size + 1, [s1.heap.objs.size + 1, s1.heap.objs.size], _, _, H1, rfl, I1.kept (t' := s1.toks) kk, turn_enum l _ _ (Nat.succ_ne_self _), ⟨⟨_, he⟩, hi⟩, fun b hb => ?_, q⟩
    have e : b = s1.heap.objs.size + 1 ∨ b = s1.heap.objs.size := by simpa using hb
    have le : s1.heap.objs.size ≤ b := by
      rcases e with rfl | rfl
      · exact Nat.le_succ _
      · exact Nat.le_refl _
    exact I1.fpOk le (I1.hok.fresh le)
end
theorem for_enum {K : Frag} {a : Addr} {xs : List V} {g : TG} {tb : TS} {D : Ends} {σ : St} {H : Hp} (Pv : Nat → St → Hp → Prop) (h0 : Pv 0 σ H) (hl : ∀ i σ H, i ≤ xs.length → Pv i σ H → SqL K H a xs)
    (hs : ∀ i x σ H p, xs[i]? = some x → Pv i σ H → H p = none → g (.ref p) σ (upd H p (.tup [.int i, x])) fun σ2 H2 => tb { D with nx := Pv (i + 1), ct := Pv (i + 1), bk := D.nx } σ2 H2) (hd : ∀ σ H, Pv xs.length σ H → D.nx σ H) :
    ∃ W : Nat → Nat → St → Hp → Prop, (∃ m, W 0 m σ H) ∧ ∀ i m σ H, W i m σ H →
      ((Ite K a).stop i H ∧ D.nx σ H) ∨ ((Ite K a).go i H ∧ ∃ N : St → Hp → Prop, (∀ σ' H', N σ' H' → ∃ m', m' < m ∧ W (i + 1) m' σ' H') ∧ ∀ x H', (Ite K a).yld i H x H' → g x σ H' fun σ2 H2 => tb { D with nx := N, ct := N, bk := D.nx } σ2 H2) := by
  refine ⟨fun i m σ H => m = xs.length - i ∧ i ≤ xs.length ∧ Pv i σ H, ⟨xs.length, by simp, Nat.zero_le _, h0⟩, ?_⟩
  rintro i m σ H ⟨rfl, hi, p⟩
  have q := hl i σ H hi p
  by_cases hlt : i < xs.length
  · refine .inr ⟨⟨xs, xs[i], q, List.getElem?_eq_getElem hlt⟩, Pv (i + 1), fun σ' H' n => ⟨xs.length - (i + 1), by omega, rfl, hlt, n⟩, ?_⟩
    rintro x H' ⟨p', y, rfl, hp, rfl, hy⟩
    exact hs i y σ H p' (hy xs q) p hp
  · have e : i = xs.length := by omega
    subst e
    exact .inl ⟨⟨xs, q, Nat.le_refl _⟩, hd σ H p⟩
end My
set_option Elab.async false
set_option linter.all false
set_option maxRecDepth 100000
set_option maxHeartbeats 4000000
namespace My
open PySem L2
section
variable {prog : Program} {w : World} {A : Around} {R : Result → Shared → Prop} {s : Shared}
theorem compLoopT {elt target iter : Expr} {scope : Scope} {pos : Pos} {it acc : Value} {env : Env} (J : Nat → Shared → Prop)
    (turn : ∀ n s, J n s → wpAny (model prog w) A (pyNext it) (fun r s₁ => match r with
      | none => R (.ok .next) s₁
      | some v => wpAny (model prog w) A (letOwnedTupleGo target it v) (fun _ s₂ => wpAny (model prog w) A (assign target env v) (fun _ s₃ => wpAny (model prog w) A (eval elt env)
          (fun x s₄ => wpAny (model prog w) A (call (.builtin "list.append") [acc, x]) (fun _ s₅ => ∃ m, m < n ∧ J m s₅) (fun _ _ => False) s₄) (fun _ _ => False) s₃) (fun _ _ => False) s₂) (fun _ _ => False) s₁) (fun _ _ => False) s)
    (n : Nat) (h : J n s) : codeAny (model prog w) A (.compLoop (.ListComp elt [⟨target, iter, [], 0⟩] scope pos) 0 it acc env) R s := by
  refine codeAny_loop rfl J (fun n s hJ => ?_) n h
  show wpAny _ _ (Sem.onRaise (compTurn (.ListComp elt [⟨target, iter, [], 0⟩] scope pos) 0 it acc env) (fun x => do noteFrame x env; theTreesLotGoes x)) _ _ s
  refine wpAny_noted ?_
  rw [compTurn_list1]
  refine wpAny_bind (wpAny_standAt (wpAny_bind (wpAny_mono (turn n s hJ) (fun r s₁ h₁ => ?_) fun _ _ z => z.elim)))
  cases r with
  | none => exact wpAny_pure h₁
  | some v =>
    refine wpAny_bind (wpAny_mono h₁ (fun _ s₂ h₂ => ?_) fun _ _ z => z.elim)
    refine wpAny_bind (wpAny_mono h₂ (fun _ s₃ h₃ => ?_) fun _ _ z => z.elim)
    refine wpAny_bind (wpAny_bind (wpAny_mono h₃ (fun x s₄ h₄ => ?_) fun _ _ z => z.elim))
    refine wpAny_bind (wpAny_mono h₄ (fun _ s₅ h₅ => wpAny_pure (wpAny_pure ⟨rfl, h₅⟩)) fun _ _ z => z.elim)
end
def compCx (X : Cx) (sc : Scope) (cl : List (Str × Addr)) (N : List Str) (s : Shared) (H : Hp) (C : Addr) (fp : List Addr) : Cx where
  prog := X.prog
  w := X.w
  K := X.K
  mg := X.mg
  base := X.base
  A := X.A
  N := N
  s₀ := s
  H₀ := H
  env := compEnvC sc cl C X.env
  outer := X.stack
  stack := X.stack
  ex := fp
  fn := fun _ => false
  calm := X.calm
  pn := []
  xe := fun _ _ => False
structure CompSc (X : Cx) (sc : Scope) (cl : List (Str × Addr)) (x : Str) (zs : List Str) (js : List Nat) : Prop where
  clos : closureFor sc X.env = pure cl
  kind : sc.kind = .function
  noCell : ∀ y ∈ sc.names, y.2 ≠ .cell
  names : ∀ y ∈ sc.names, y.2 = .local → sc.names.lookup y.1 = some .local
  var : sc.names.lookup x = some .local
  sub : ∀ z c, cl.lookup z = some c → X.env.cells.lookup z = some c
  has : ∀ z, ((relabel sc X.env).names.lookup z = some .cell ∨ (relabel sc X.env).names.lookup z = some .free) → ∃ c, cl.lookup z = some c
  nd : (x :: zs).Nodup
  cap : ∀ (k : Nat) (z : Str), zs[k]? = some z → ∃ j : Nat, js[k]? = some j ∧ X.N[j]? = some z ∧ Vis X.env.scope z ∧ X.env.kindOf z ≠ some .local ∧
    ((relabel sc X.env).names.lookup z = some .cell ∨ (relabel sc X.env).names.lookup z = some .free)
  len : js.length = zs.length
def capS (js : List Nat) (σ : St) : St := js.map fun j => (σ[j]?).join
def tLC (wi : TI) (js : List Nat) (te : TE) : TE := fun σ H Q => wi σ H fun J H1 => ∀ D, H1 D = none → ∃ W : Nat → Nat → List V → Hp → Prop, (∃ m, W 0 m [] (upd H1 D (.lst []))) ∧
  ∀ i m ys H2, W i m ys H2 → H2 D = some (.lst ys) ∧ ((J.stop i H2 ∧ Q (.ref D) H2) ∨ (J.go i H2 ∧ ys.length < sizeLine ∧
    ∀ x H3, J.yld i H2 x H3 → te (some x :: capS js σ) H3 fun y H4 => H4 D = some (.lst ys) ∧ ∃ m', m' < m ∧ W (i + 1) m' (ys ++ [y]) (upd H4 D (.lst (ys ++ [y])))))
section
variable {X : Cx} {pins : List (Addr × Obj)} {σ : St} {H : Hp} {s : Shared} {sc : Scope} {cl : List (Str × Addr)} {x : Str} {zs : List Str} {js : List Nat} {C : Addr} {fp : List Addr}
theorem comp_ok (I : Inv X pins σ H s) (S : CompSc X sc cl x zs js) (hf : ∀ b ∈ fp, FpOk X pins H b ∧ b < s.heap.objs.size) (hC : s.heap.objs.size ≤ C) : (compCx X sc cl (x :: zs) s H C fp).Ok := by
  refine ⟨I.ok.mod, S.kind, I.ok.glob, I.ok.blt, hC, fun y z c h1 h2 => I.ok.inj y z c (S.sub _ _ h1) (S.sub _ _ h2), fun z h => S.has z h, (fun _ _ h => nomatch h), I.ok.hd, I.ok.frames, .inl rfl, fun b hb => ?_, I.bs, ?_, fun b o e hb => ?_, fun b hb hs => ?_, I.stack, I.stkFree⟩
  · obtain ⟨⟨_, h1, _, _, h4, _⟩, h6⟩ := hf b hb
    exact ⟨fun e => absurd h6 (Nat.not_lt.mpr (by rw [show b = C from e]; exact hC)), fun z c e => h4 z c (S.sub _ _ e)⟩
  · exact Nat.le_trans I.ok.bsz I.sz
  · obtain ⟨⟨_, _, _, h3, _⟩, _⟩ := hf b hb
    rcases h3 with h | h
    · exact I.ok.noex b o e h
    · exact absurd (Heap.lt_size e) (Nat.not_lt.mpr (Nat.le_trans I.ok.bsz h))
  · obtain ⟨⟨_, h1, h2, _⟩, _⟩ := hf b hb
    rcases List.mem_cons.mp (I.stkSub b hs) with e | e
    · exact h1 e
    · exact h2 e
theorem comp_start {s1 : Shared} (I : Inv X pins σ H s) (S : CompSc X sc cl x zs js) (hf : ∀ b ∈ fp, FpOk X pins H b ∧ b < s.heap.objs.size) (hC : s.heap.objs.size ≤ C) (ho : s1.os = s.os) (hg : s1.gens = s.gens)
    (hk : ∀ b o, s.heap.get? b = some o → s1.heap.get? b = some o) {m : Str → Option Value} (hn : s1.heap.Ns C m) : Inv (compCx X sc cl (x :: zs) s H C fp) [] (none :: capS js σ) H s1 := by
  refine ⟨comp_ok I S hf hC, ho, by rw [hg]; exact I.bare, Un.kept hk, ⟨m, hn, fun i y v h1 h2 h3 => ?_⟩, fun z c e => ?_, I.hok.fresh hC, fun z c e => I.freeC z c (S.sub _ _ e), fun p hp => absurd (show p ∈ ([] : List (Addr × Obj)) from hp) (by simp), I.hok.kept hk, ?_⟩
  · cases i with
    | zero => cases h2
    | succ i =>
      have h1' : zs[i]? = some y := h1
      obtain ⟨j, hj, hN, hv, nl, k'⟩ := S.cap i y h1'
      have h2' : (capS js σ)[i]? = some (some v) := h2
      have h5 : σ[j]? = some (some v) := by
        unfold capS at h2'
        rw [List.getElem?_map, hj] at h2'
        have h6 : (σ[j]?).join = some v := Option.some.inj h2'
        cases e : σ[j]? with
        | none => rw [e] at h6; cases h6
        | some o => rw [e] at h6; exact congrArg some h6
      obtain ⟨m0, hn0, hl⟩ := I.loc
      obtain ⟨u, ru, lk⟩ := hl j y v hN h5 hv
      refine ⟨u, ru, ?_⟩
      rcases lk with ⟨k1, _⟩ | ⟨_, c, ec, hc⟩
      · exact absurd k1 nl
      · obtain ⟨c', ec'⟩ := S.has y k'
        have e2 := S.sub _ _ ec'
        rw [ec] at e2
        cases e2
        exact .inr ⟨k', c, ec', hc.keeps hk⟩
  · obtain ⟨v, hv⟩ := I.cell z c (S.sub _ _ e)
    exact ⟨v, hv.keeps hk⟩
  · show ((none :: capS js σ : St)).length = (x :: zs).length
    unfold capS
    rw [List.length_cons, List.length_cons, List.length_map, S.len]
theorem comp_end {s1 : Shared} {σ' : St} {H' : Hp} {h' : Heap} (I : Inv X pins σ H s) (hf : ∀ b ∈ fp, FpOk X pins H b ∧ b < s.heap.objs.size) (hC : s.heap.objs.size ≤ C) (J : Inv (compCx X sc cl (x :: zs) s H C fp) [] σ' H' s1)
    (hs : Heap.SameBut C s1.heap h') : Inv X pins σ H' { s1 with heap := h' } := by
  have old : ∀ b o, s1.heap.get? b = some o → b ≠ C → h'.get? b = some o := fun b o e n => (hs.2 b n).trans e
  have lt : ∀ {b o}, s.heap.get? b = some o → b ≠ C := fun {b o} e z => by
    have q := Heap.lt_size e
    rw [z] at q
    exact absurd q (Nat.not_lt.mpr hC)
  have B := J.base
  refine I.call' (s' := { s1 with heap := h' }) (ch := fp) J.os ⟨fun b o e n hb hx => old b o (B.keep b o e n hb hx) (lt e), fun b o e n hb hx => ?_, B.free, fun b o e hx => ?_, B.tups, B.frzs, B.tbls, B.sys⟩ (fun b o e => ?_) J.bare fun b hb => ?_
  · obtain ⟨sl, q⟩ := B.slot b o e n hb hx
    exact ⟨sl, old _ _ q (lt e)⟩
  · obtain ⟨o', q⟩ := B.there b o e hx
    exact ⟨o', old _ _ q (lt e)⟩
  · have nC : ∀ c u, H' c = some u → c ≠ C := fun c u q z => by
      have f : H' C = none := J.free
      rw [z, f] at q; cases q
    refine (J.hok b o e).stay (fun c v hc q => old c v q ?_) (fun _ q => q) fun _ _ q => q
    rcases hc with rfl | hc
    · exact nC _ _ e
    · exact nC _ _ hc
  · obtain ⟨⟨_, h1, _, h3, h4, h5⟩, _⟩ := hf b hb
    exact ⟨h3, h1, h4, h5⟩
end
section
variable {X : Cx} {sc : Scope} {cl : List (Str × Addr)} {x : Str} {zs : List Str} {js : List Nat} {elt iter : Expr} {px pos : Pos} {wi : TI} {te : TE}
theorem pe_lc (hc : X.calm = true) (S : CompSc X sc cl x zs js) (hi : PI X (.Name x px) iter wi) (he : ∀ s H C fp, PE (compCx X sc cl (x :: zs) s H C fp) elt te)
    (hs : ∀ v, foldedSetIterable iter X.env v = pure v := by intro _; rfl) : PE X (.ListComp elt [⟨.Name x px, iter, [], 0⟩] sc pos) (tLC wi js te) := by
  intro pins s σ H Q I h
  rw [eval_ListComp]
  refine wpAny_comprehension_free (use := none) rfl hs S.clos S.kind S.names (thn (hi pins s σ H _ I h) fun v s1 h1 => thn h1 fun itv s2 h2 => ?_)
  obtain ⟨it, fp, tn, J, H2, e, I2, T, st2, f2, body⟩ := h2
  subst e
  have fr2 : H2 s2.heap.objs.size = none := I2.fresh
  obtain ⟨W, ⟨m0, w0⟩, turn⟩ := body _ fr2
  refine wpAny_newObj_type ?_
  have I3 : Inv X pins σ (upd H2 s2.heap.objs.size (.lst [])) { s2 with heap := s2.heap.push { cls := .type "list", data := .seq ([] : List Value).toArray } } := I2.lnew (t' := s2.toks) (ys := []) (its := []) .nil (Nat.zero_le _)
  refine wpAny_newFunctionEnv S.noCell (by intro y hy; simp at hy) (fun h₁ hn hsb => ?_) S.kind
  generalize hs3 : ({ s2 with heap := s2.heap.push { cls := .type "list", data := .seq ([] : List Value).toArray } } : Shared) = s3 at I3 hn hsb ⊢
  have fpl : ∀ b ∈ fp, FpOk X pins (upd H2 s2.heap.objs.size (.lst [])) b ∧ b < s3.heap.objs.size := fun b hb => by
    obtain ⟨o, ho, _⟩ := T.obj _ _ st2 b hb
    have hl := Heap.lt_size ho
    have hne : b ≠ s2.heap.objs.size := Nat.ne_of_lt hl
    obtain ⟨z1, z2⟩ := f2 b hb
    refine ⟨⟨by rw [upd_ne hne]; exact z1, z2⟩, ?_⟩
    rw [← hs3]
    show b < (s2.heap.push _).objs.size
    rw [Heap.size_push]
    exact Nat.lt_succ_of_lt hl
  have old : ∀ b o, s3.heap.get? b = some o → h₁.get? b = some o := fun b o e => hsb.extBut b o (Nat.ne_of_lt (Heap.lt_size e)) (Heap.get?_push_of_some _ e)
  have loop : ∀ sS : Shared, sS.heap = h₁ → sS.os = s3.os → sS.gens = s3.gens → codeAny (model X.prog X.w) X.A (.compLoop (.ListComp elt [⟨.Name x px, iter, [], 0⟩] sc pos) 0 (.ref it) (.ref s2.heap.objs.size) (compEnvC sc cl s3.heap.objs.size X.env))
      (compPost (model X.prog X.w) X.A X.xe none (EP X pins σ Q) (.ref s2.heap.objs.size) s3.heap.objs.size) sS := by
    intro sS eh eo eg
    subst eh
    have J0 : Inv (compCx X sc cl (x :: zs) s3 (upd H2 s2.heap.objs.size (.lst [])) s3.heap.objs.size fp) [] (none :: capS js σ) (upd H2 s2.heap.objs.size (.lst [])) sS := comp_start I3 S fpl (Nat.le_refl _) eo eg old hn
    generalize hX : compCx X sc cl (x :: zs) s3 (upd H2 s2.heap.objs.size (.lst [])) s3.heap.objs.size fp = X' at J0
    have stat : ∀ {H' : Hp}, (∀ b ∈ fp, H' b = none) → ∀ b ∈ fp, FpOk X' [] H' b := fun {H'} hn b hb => by
      subst hX
      obtain ⟨⟨_, z1, z2, z3, z4, z5⟩, z6⟩ := fpl b hb
      refine ⟨hn b hb, Nat.ne_of_lt z6, fun q => ?_, .inl hb, fun y c e => z4 y c (S.sub _ _ e), fun p hp => absurd (show p ∈ ([] : List (Addr × Obj)) from hp) (by simp)⟩
      rcases List.mem_cons.mp (I3.stkSub b q) with e | e
      · exact z1 e
      · exact z2 e
    have st3 : tn 0 sS.heap := T.keep _ _ _ st2 fun b hb o e => old b o (by rw [← hs3]; exact Heap.get?_push_of_some _ e)
    refine compLoopT (fun n s' => ∃ i ys o H', Inv X' [] (o :: capS js σ) H' s' ∧ tn i s'.heap ∧ (∀ b ∈ fp, H' b = none) ∧ W i n ys H') ?_ m0 ⟨0, [], none, _, J0, st3, fun b hb => (fpl b hb).1.1, w0⟩
    rintro n s' ⟨i, ys, o, H', Iv, st, fr, w⟩
    obtain ⟨hD, alt⟩ := turn i n ys H' w
    have eP : X'.prog = X.prog := by subst hX; rfl
    have eW : X'.w = X.w := by subst hX; rfl
    have eK : X'.K = X.K := by subst hX; rfl
    have eC : X'.calm = true := by subst hX; exact hc
    have eA : X'.A = X.A := by subst hX; rfl
    have eE : X'.env = compEnvC sc cl s3.heap.objs.size X.env := by subst hX; rfl
    have eX : X'.xe = fun _ _ => False := by subst hX; rfl
    rcases alt with ⟨stop, q⟩ | ⟨go, hlen, step⟩
    · have d := T.done X' eP eW eK eC i [] s' _ H' (fun _ _ => False) Iv (stat fr) st stop
      rw [eA] at d
      refine thn d fun r s4 ⟨hr, I4⟩ => ?_
      subst hr
      obtain ⟨m, hm, _⟩ := id I4.loc
      rw [eE] at hm
      subst hX
      exact ⟨m, hm, fun h' hs' => ⟨.ref s2.heap.objs.size, H', comp_end I3 fpl (Nat.le_refl _) I4 hs', rfl, q⟩⟩
    · have d := T.item X' eP eW eK eC i [] s' _ H' (fun _ _ => False) Iv (stat fr) st go
      rw [eA] at d
      refine thn d fun r s4 ⟨u, hr, h4⟩ => ?_
      subst hr
      refine thn h4 fun _ s5 ⟨y, H5, I5, r5, y5, st5, fr5⟩ => ?_
      have I5' := I5.pinned (stat fr5) (T.obj _ _ st5)
      have hg : PG X' (.Name x px) (gName 0) := by
        subst hX
        exact pg_name S.nd rfl (.inl (lookup_relabel_local S.var)) (.inr (lookup_relabel_local S.var))
      have g6 := hg _ s5 _ H5 y u (fun σ6 H6 => σ6 = (some y :: capS js σ) ∧ H6 = H5) I5' r5 ⟨rfl, rfl⟩
      rw [eP, eW, eA, eE, eX] at g6
      refine thn g6 fun _ s6 ⟨σ6, H6, I6, e6, e6'⟩ => ?_
      subst e6
      subst e6'
      have he' : PE X' elt te := by subst hX; exact he _ _ _ _
      have g7 := he' _ s6 _ H6 _ I6 (step y H6 y5)
      rw [eP, eW, eA, eE, eX] at g7
      refine thn g7 fun uv s7 ⟨v7, H7, I7, r7, hD7, m', hm', w7⟩ => ?_
      have g8 := (mt_append (X := X')) _ s7 _ H7 (.ref s2.heap.objs.size) [v7] (.ref s2.heap.objs.size) [uv] (fun _ H8 => H8 = upd H7 s2.heap.objs.size (.lst (ys ++ [v7]))) I7 rfl (.cons r7 .nil) ⟨_, ys, v7, rfl, rfl, hD7, hlen, rfl⟩
      rw [eP, eW, eA, eX] at g8
      refine thn g8 fun _ s8 ⟨_, H8, I8, _, e8⟩ => ?_
      subst e8
      refine ⟨m', hm', i + 1, ys ++ [v7], some y, _, I8.unpinned, T.keep _ _ _ st5 fun b hb o e => (I8.pin (b, o) (List.mem_append_right _ (List.mem_append_right _ (mem_pinsAt hb e)))).1, fun b hb => ?_, w7⟩
      obtain ⟨o', e', _⟩ := T.obj _ _ st5 b hb
      exact (I8.pin (b, o') (List.mem_append_right _ (List.mem_append_right _ (mem_pinsAt hb e')))).2.1
  have st1 : tn 0 h₁ := T.keep _ _ _ st2 fun b hb o e => old b o (by rw [← hs3]; exact Heap.get?_push_of_some _ e)
  exact codeAny_compStart_list (loop _ rfl rfl rfl) (T.self _ 0 _ _ _ st1 (loop _ rfl rfl rfl))
end
end My
set_option Elab.async false
set_option linter.all false
set_option maxRecDepth 100000
set_option maxHeartbeats 1000000
namespace My
open PySem PySem.W L2
section
variable {K : Frag} {te : TE} {cap : St} {D : Addr} {H1 : Hp} {Q : Hp → Prop}
theorem lc_list {a : Addr} {xs : List V} (Pv : Nat → List V → Hp → Prop) (hz : xs.length < sizeLine) (h0 : Pv 0 [] (upd H1 D (.lst [])))
    (hl : ∀ i ys H, Pv i ys H → SqL K H a xs)
    (hs : ∀ i x ys H, xs[i]? = some x → ys.length = i → H D = some (.lst ys) → Pv i ys H → ∀ R : VK, (∀ y H4, H4 D = some (.lst ys) → Pv (i + 1) (ys ++ [y]) (upd H4 D (.lst (ys ++ [y]))) → R y H4) → te (some x :: cap) H R)
    (hd : ∀ ys H, ys.length = xs.length → H D = some (.lst ys) → Pv xs.length ys H → Q H) :
    ∃ W : Nat → Nat → List V → Hp → Prop, (∃ m, W 0 m [] (upd H1 D (.lst []))) ∧
      ∀ i m ys H2, W i m ys H2 → H2 D = some (.lst ys) ∧ (((Itl K a).stop i H2 ∧ Q H2) ∨ ((Itl K a).go i H2 ∧ ys.length < sizeLine ∧
        ∀ x H3, (Itl K a).yld i H2 x H3 → te (some x :: cap) H3 fun y H4 => H4 D = some (.lst ys) ∧ ∃ m', m' < m ∧ W (i + 1) m' (ys ++ [y]) (upd H4 D (.lst (ys ++ [y]))))) := by
  refine ⟨fun i m ys H => m = xs.length - i ∧ i ≤ xs.length ∧ ys.length = i ∧ H D = some (.lst ys) ∧ Pv i ys H, ⟨xs.length, by simp, Nat.zero_le _, rfl, upd_same, h0⟩, ?_⟩
  rintro i m ys H ⟨rfl, hi, hy, hD, p⟩
  refine ⟨hD, ?_⟩
  have q := hl i ys H p
  by_cases hlt : i < xs.length
  · refine .inr ⟨⟨xs, xs[i], q, by simp [hlt]⟩, by omega, fun x H' y => ?_⟩
    obtain ⟨e, y⟩ := y
    subst e
    refine hs i x ys _ (y xs q) hy hD p _ fun z H4 hD4 p4 => ⟨hD4, xs.length - (i + 1), by omega, rfl, hlt, by rw [List.length_append, hy]; rfl, upd_same, p4⟩
  · have e : i = xs.length := by omega
    subst e
    exact .inl ⟨⟨xs, q, Nat.le_refl _⟩, hd ys H hy hD p⟩
end
end My
set_option Elab.async false
set_option linter.all false
set_option maxRecDepth 100000
set_option maxHeartbeats 4000000
namespace My
open PySem L2 PySem.Calls PyProof.Rows
open PySem.Builtin.Str (occurrences partsBetween strSub)
section
variable {X : Cx}
def GDiv (i j : Int) : Prop := 0 < j ∧ j.natAbs.log2 < 9000
theorem op_gdiv : OpR X (binaryOp .FloorDiv) (rI GDiv fun i j => .int (i / j)) := opI fun i j _ _ _ _ _ hc q => by
  have z := hc.1
  exact floordiv_int (by omega) (by rw [Int.fdiv_eq_ediv_of_nonneg i (Int.le_of_lt z)]; exact q) (.inl (PyProof.noPylong_of_log2 hc.2))
section
variable {P : Program} {w : World} {K : PySem.W.Frag} {tg : Expr}
end
end
end My
set_option Elab.async false
set_option linter.all false
set_option maxRecDepth 100000
set_option maxHeartbeats 4000000
namespace My
open PySem L2
section
variable {prog : Program} {w : World} {A : Around} {R : Result → Shared → Prop} {s : Shared}
theorem compLoopT1 {elt target iter c : Expr} {scope : Scope} {pos : Pos} {it acc : Value} {env : Env} (J : Nat → Shared → Prop)
    (turn : ∀ n s, J n s → wpAny (model prog w) A (pyNext it) (fun r s₁ => match r with
      | none => R (.ok .next) s₁
      | some v => wpAny (model prog w) A (letOwnedTupleGo target it v) (fun _ s₂ => wpAny (model prog w) A (assign target env v) (fun _ s₃ => wpAny (model prog w) A (isTrue c env (eval c env)) (fun k s₀ =>
          (k = false → ∃ m, m < n ∧ J m s₀) ∧ (k = true → wpAny (model prog w) A (eval elt env)
          (fun x s₄ => wpAny (model prog w) A (call (.builtin "list.append") [acc, x]) (fun _ s₅ => ∃ m, m < n ∧ J m s₅) (fun _ _ => False) s₄) (fun _ _ => False) s₀)) (fun _ _ => False) s₃) (fun _ _ => False) s₂) (fun _ _ => False) s₁) (fun _ _ => False) s)
    (n : Nat) (h : J n s) : codeAny (model prog w) A (.compLoop (.ListComp elt [⟨target, iter, [c], 0⟩] scope pos) 0 it acc env) R s := by
  refine codeAny_loop rfl J (fun n s hJ => ?_) n h
  show wpAny _ _ (Sem.onRaise (compTurn (.ListComp elt [⟨target, iter, [c], 0⟩] scope pos) 0 it acc env) (fun x => do noteFrame x env; theTreesLotGoes x)) _ _ s
  refine wpAny_noted ?_
  rw [compTurn_list]
  refine wpAny_bind (wpAny_standAt (wpAny_bind (wpAny_mono (turn n s hJ) (fun r s₁ h₁ => ?_) fun _ _ z => z.elim)))
  cases r with
  | none => exact wpAny_pure h₁
  | some v =>
    refine wpAny_bind (wpAny_mono h₁ (fun _ s₂ h₂ => ?_) fun _ _ z => z.elim)
    refine wpAny_bind (wpAny_mono h₂ (fun _ s₃ h₃ => ?_) fun _ _ z => z.elim)
    refine wpAny_bind (wpAny_tests_one (wpAny_mono h₃ (fun k s₀ h₀ => ?_) fun _ _ z => z.elim))
    cases k with
    | false => exact wpAny_pure ⟨rfl, h₀.1 rfl⟩
    | true =>
      refine wpAny_bind (wpAny_bind (wpAny_mono (h₀.2 rfl) (fun x s₄ h₄ => ?_) fun _ _ z => z.elim))
      refine wpAny_bind (wpAny_mono h₄ (fun _ s₅ h₅ => wpAny_pure (wpAny_pure ⟨rfl, h₅⟩)) fun _ _ z => z.elim)
end
section
variable {X : Cx} {sc : Scope} {cl : List (Str × Addr)} {x : Str} {zs : List Str} {js : List Nat} {elt iter c : Expr} {px pos : Pos} {wi : TI} {te : TE} {tt : TT}
end
end My
set_option Elab.async false
set_option linter.all false
set_option maxRecDepth 100000
set_option maxHeartbeats 4000000
namespace My
open PySem L2
structure CompG (X : Cx) (sc : Scope) (cl : List (Str × Addr)) (ts zs : List Str) (js : List Nat) : Prop where
  clos : closureFor sc X.env = pure cl
  kind : sc.kind = .function
  noCell : ∀ y ∈ sc.names, y.2 ≠ .cell
  names : ∀ y ∈ sc.names, y.2 = .local → sc.names.lookup y.1 = some .local
  var : ∀ x ∈ ts, sc.names.lookup x = some .local
  sub : ∀ z c, cl.lookup z = some c → X.env.cells.lookup z = some c
  has : ∀ z, ((relabel sc X.env).names.lookup z = some .cell ∨ (relabel sc X.env).names.lookup z = some .free) → ∃ c, cl.lookup z = some c
  nd : (ts ++ zs).Nodup
  cap : ∀ (k : Nat) (z : Str), zs[k]? = some z → ∃ j : Nat, js[k]? = some j ∧ X.N[j]? = some z ∧ Vis X.env.scope z ∧ X.env.kindOf z ≠ some .local ∧
    ((relabel sc X.env).names.lookup z = some .cell ∨ (relabel sc X.env).names.lookup z = some .free)
  len : js.length = zs.length
def tLCG (wi : TI) (k : Nat) (js : List Nat) (g : TG) (te : TE) : TE := fun σ H Q => wi σ H fun J H1 => ∀ D, H1 D = none → ∃ W : Nat → Nat → List V → Hp → Prop, (∃ m, W 0 m [] (upd H1 D (.lst []))) ∧
  ∀ i m ys H2, W i m ys H2 → H2 D = some (.lst ys) ∧ ((J.stop i H2 ∧ Q (.ref D) H2) ∨ (J.go i H2 ∧ ys.length < sizeLine ∧
    ∀ x H3, J.yld i H2 x H3 → ∀ os : St, os.length = k → g x (os ++ capS js σ) H3 fun σ2 H0 => (∃ os' : St, os'.length = k ∧ σ2 = os' ++ capS js σ) ∧ te σ2 H0 fun y H4 => H4 D = some (.lst ys) ∧ ∃ m', m' < m ∧ W (i + 1) m' (ys ++ [y]) (upd H4 D (.lst (ys ++ [y])))))
def tLCGif (wi : TI) (k : Nat) (js : List Nat) (g : TG) (tt : TT) (te : TE) : TE := fun σ H Q => wi σ H fun J H1 => ∀ D, H1 D = none → ∃ W : Nat → Nat → List V → Hp → Prop, (∃ m, W 0 m [] (upd H1 D (.lst []))) ∧
  ∀ i m ys H2, W i m ys H2 → H2 D = some (.lst ys) ∧ ((J.stop i H2 ∧ Q (.ref D) H2) ∨ (J.go i H2 ∧ ys.length < sizeLine ∧
    ∀ x H3, J.yld i H2 x H3 → ∀ os : St, os.length = k → g x (os ++ capS js σ) H3 fun σ2 H0 => (∃ os' : St, os'.length = k ∧ σ2 = os' ++ capS js σ) ∧ tt σ2 H0 fun b H5 => (b = false → ∃ m', m' < m ∧ W (i + 1) m' ys H5) ∧
      (b = true → te σ2 H5 fun y H4 => H4 D = some (.lst ys) ∧ ∃ m', m' < m ∧ W (i + 1) m' (ys ++ [y]) (upd H4 D (.lst (ys ++ [y]))))))
section
variable {X : Cx} {pins : List (Addr × Obj)} {σ : St} {H : Hp} {s : Shared} {sc : Scope} {cl : List (Str × Addr)} {ts zs : List Str} {js : List Nat} {C : Addr} {fp : List Addr}
theorem compG_ok (I : Inv X pins σ H s) (S : CompG X sc cl ts zs js) (hf : ∀ b ∈ fp, FpOk X pins H b ∧ b < s.heap.objs.size) (hC : s.heap.objs.size ≤ C) : (compCx X sc cl (ts ++ zs) s H C fp).Ok := by
  refine ⟨I.ok.mod, S.kind, I.ok.glob, I.ok.blt, hC, fun y z c h1 h2 => I.ok.inj y z c (S.sub _ _ h1) (S.sub _ _ h2), fun z h => S.has z h, (fun _ _ h => nomatch h), I.ok.hd, I.ok.frames, .inl rfl, fun b hb => ?_, I.bs, ?_, fun b o e hb => ?_, fun b hb hs => ?_, I.stack, I.stkFree⟩
  · obtain ⟨⟨_, h1, _, _, h4, _⟩, h6⟩ := hf b hb
    exact ⟨fun e => absurd h6 (Nat.not_lt.mpr (by rw [show b = C from e]; exact hC)), fun z c e => h4 z c (S.sub _ _ e)⟩
  · exact Nat.le_trans I.ok.bsz I.sz
  · obtain ⟨⟨_, _, _, h3, _⟩, _⟩ := hf b hb
    rcases h3 with h | h
    · exact I.ok.noex b o e h
    · exact absurd (Heap.lt_size e) (Nat.not_lt.mpr (Nat.le_trans I.ok.bsz h))
  · obtain ⟨⟨_, h1, h2, _⟩, _⟩ := hf b hb
    rcases List.mem_cons.mp (I.stkSub b hs) with e | e
    · exact h1 e
    · exact h2 e
theorem compG_start {s1 : Shared} (I : Inv X pins σ H s) (S : CompG X sc cl ts zs js) (hf : ∀ b ∈ fp, FpOk X pins H b ∧ b < s.heap.objs.size) (hC : s.heap.objs.size ≤ C) (ho : s1.os = s.os) (hg : s1.gens = s.gens)
    (hk : ∀ b o, s.heap.get? b = some o → s1.heap.get? b = some o) {m : Str → Option Value} (hn : s1.heap.Ns C m) : Inv (compCx X sc cl (ts ++ zs) s H C fp) [] (List.replicate ts.length none ++ capS js σ) H s1 := by
  refine ⟨compG_ok I S hf hC, ho, by rw [hg]; exact I.bare, Un.kept hk, ⟨m, hn, fun i y v h1 h2 h3 => ?_⟩, fun z c e => ?_, I.hok.fresh hC, fun z c e => I.freeC z c (S.sub _ _ e), fun p hp => absurd (show p ∈ ([] : List (Addr × Obj)) from hp) (by simp), I.hok.kept hk, ?_⟩
  · rcases Nat.lt_or_ge i ts.length with lt | ge
    · rw [List.getElem?_append_left (by rw [List.length_replicate]; exact lt), List.getElem?_replicate, if_pos lt] at h2
      cases h2
    · have h1' : zs[i - ts.length]? = some y := by
        have h1'' : (ts ++ zs)[i]? = some y := h1
        rw [List.getElem?_append_right ge] at h1''
        exact h1''
      obtain ⟨j, hj, hN, hv, nl, k'⟩ := S.cap _ y h1'
      have h2' : (capS js σ)[i - ts.length]? = some (some v) := by
        rw [List.getElem?_append_right (by rw [List.length_replicate]; exact ge), List.length_replicate] at h2
        exact h2
      have h5 : σ[j]? = some (some v) := by
        unfold capS at h2'
        rw [List.getElem?_map, hj] at h2'
        have h6 : (σ[j]?).join = some v := Option.some.inj h2'
        cases e : σ[j]? with
        | none => rw [e] at h6; cases h6
        | some o => rw [e] at h6; exact congrArg some h6
      obtain ⟨m0, hn0, hl⟩ := I.loc
      obtain ⟨u, ru, lk⟩ := hl j y v hN h5 hv
      refine ⟨u, ru, ?_⟩
      rcases lk with ⟨k1, _⟩ | ⟨_, c, ec, hc⟩
      · exact absurd k1 nl
      · obtain ⟨c', ec'⟩ := S.has y k'
        have e2 := S.sub _ _ ec'
        rw [ec] at e2
        cases e2
        exact .inr ⟨k', c, ec', hc.keeps hk⟩
  · obtain ⟨v, hv⟩ := I.cell z c (S.sub _ _ e)
    exact ⟨v, hv.keeps hk⟩
  · show (List.replicate ts.length none ++ capS js σ : St).length = (ts ++ zs).length
    unfold capS
    rw [List.length_append, List.length_append, List.length_map, List.length_replicate, S.len]
theorem compG_end {s1 : Shared} {σ' : St} {H' : Hp} {h' : Heap} (I : Inv X pins σ H s) (hf : ∀ b ∈ fp, FpOk X pins H b ∧ b < s.heap.objs.size) (hC : s.heap.objs.size ≤ C) (J : Inv (compCx X sc cl (ts ++ zs) s H C fp) [] σ' H' s1)
    (hs : Heap.SameBut C s1.heap h') : Inv X pins σ H' { s1 with heap := h' } := by
  have old : ∀ b o, s1.heap.get? b = some o → b ≠ C → h'.get? b = some o := fun b o e n => (hs.2 b n).trans e
  have lt : ∀ {b o}, s.heap.get? b = some o → b ≠ C := fun {b o} e z => by
    have q := Heap.lt_size e
    rw [z] at q
    exact absurd q (Nat.not_lt.mpr hC)
  have B := J.base
  refine I.call' (s' := { s1 with heap := h' }) (ch := fp) J.os ⟨fun b o e n hb hx => old b o (B.keep b o e n hb hx) (lt e), fun b o e n hb hx => ?_, B.free, fun b o e hx => ?_, B.tups, B.frzs, B.tbls, B.sys⟩ (fun b o e => ?_) J.bare fun b hb => ?_
  · obtain ⟨sl, q⟩ := B.slot b o e n hb hx
    exact ⟨sl, old _ _ q (lt e)⟩
  · obtain ⟨o', q⟩ := B.there b o e hx
    exact ⟨o', old _ _ q (lt e)⟩
  · have nC : ∀ c u, H' c = some u → c ≠ C := fun c u q z => by
      have f : H' C = none := J.free
      rw [z, f] at q; cases q
    refine (J.hok b o e).stay (fun c v hc q => old c v q ?_) (fun _ q => q) fun _ _ q => q
    rcases hc with rfl | hc
    · exact nC _ _ e
    · exact nC _ _ hc
  · obtain ⟨⟨_, h1, _, h3, h4, h5⟩, _⟩ := hf b hb
    exact ⟨h3, h1, h4, h5⟩
end
section
variable {X : Cx} {sc : Scope} {cl : List (Str × Addr)} {ts zs : List Str} {js : List Nat} {elt iter : Expr} {pos : Pos} {tg : Expr} {g : TG} {wi : TI} {te : TE}
theorem pe_lcG (hc : X.calm = true) (S : CompG X sc cl ts zs js) (hi : PI X tg iter wi) (hg : ∀ s H C fp, PG (compCx X sc cl (ts ++ zs) s H C fp) tg g) (he : ∀ s H C fp, PE (compCx X sc cl (ts ++ zs) s H C fp) elt te)
    (hs : ∀ v, foldedSetIterable iter X.env v = pure v := by intro _; rfl) : PE X (.ListComp elt [⟨tg, iter, [], 0⟩] sc pos) (tLCG wi ts.length js g te) := by
  intro pins s σ H Q I h
  rw [eval_ListComp]
  refine wpAny_comprehension_free (use := none) rfl hs S.clos S.kind S.names (thn (hi pins s σ H _ I h) fun v s1 h1 => thn h1 fun itv s2 h2 => ?_)
  obtain ⟨it, fp, tn, J, H2, e, I2, T, st2, f2, body⟩ := h2
  subst e
  have fr2 : H2 s2.heap.objs.size = none := I2.fresh
  obtain ⟨W, ⟨m0, w0⟩, turn⟩ := body _ fr2
  refine wpAny_newObj_type ?_
  have I3 : Inv X pins σ (upd H2 s2.heap.objs.size (.lst [])) { s2 with heap := s2.heap.push { cls := .type "list", data := .seq ([] : List Value).toArray } } := I2.lnew (t' := s2.toks) (ys := []) (its := []) .nil (Nat.zero_le _)
  refine wpAny_newFunctionEnv S.noCell (by intro y hy; simp at hy) (fun h₁ hn hsb => ?_) S.kind
  generalize hs3 : ({ s2 with heap := s2.heap.push { cls := .type "list", data := .seq ([] : List Value).toArray } } : Shared) = s3 at I3 hn hsb ⊢
  have fpl : ∀ b ∈ fp, FpOk X pins (upd H2 s2.heap.objs.size (.lst [])) b ∧ b < s3.heap.objs.size := fun b hb => by
    obtain ⟨o, ho, _⟩ := T.obj _ _ st2 b hb
    have hl := Heap.lt_size ho
    have hne : b ≠ s2.heap.objs.size := Nat.ne_of_lt hl
    obtain ⟨z1, z2⟩ := f2 b hb
    refine ⟨⟨by rw [upd_ne hne]; exact z1, z2⟩, ?_⟩
    rw [← hs3]
    show b < (s2.heap.push _).objs.size
    rw [Heap.size_push]
    exact Nat.lt_succ_of_lt hl
  have old : ∀ b o, s3.heap.get? b = some o → h₁.get? b = some o := fun b o e => hsb.extBut b o (Nat.ne_of_lt (Heap.lt_size e)) (Heap.get?_push_of_some _ e)
  have loop : ∀ sS : Shared, sS.heap = h₁ → sS.os = s3.os → sS.gens = s3.gens → codeAny (model X.prog X.w) X.A (.compLoop (.ListComp elt [⟨tg, iter, [], 0⟩] sc pos) 0 (.ref it) (.ref s2.heap.objs.size) (compEnvC sc cl s3.heap.objs.size X.env))
      (compPost (model X.prog X.w) X.A X.xe none (EP X pins σ Q) (.ref s2.heap.objs.size) s3.heap.objs.size) sS := by
    intro sS eh eo eg
    subst eh
    have J0 : Inv (compCx X sc cl (ts ++ zs) s3 (upd H2 s2.heap.objs.size (.lst [])) s3.heap.objs.size fp) [] (List.replicate ts.length none ++ capS js σ) (upd H2 s2.heap.objs.size (.lst [])) sS := compG_start I3 S fpl (Nat.le_refl _) eo eg old hn
    generalize hX : compCx X sc cl (ts ++ zs) s3 (upd H2 s2.heap.objs.size (.lst [])) s3.heap.objs.size fp = X' at J0
    have stat : ∀ {H' : Hp}, (∀ b ∈ fp, H' b = none) → ∀ b ∈ fp, FpOk X' [] H' b := fun {H'} hn b hb => by
      subst hX
      obtain ⟨⟨_, z1, z2, z3, z4, z5⟩, z6⟩ := fpl b hb
      refine ⟨hn b hb, Nat.ne_of_lt z6, fun q => ?_, .inl hb, fun y c e => z4 y c (S.sub _ _ e), fun p hp => absurd (show p ∈ ([] : List (Addr × Obj)) from hp) (by simp)⟩
      rcases List.mem_cons.mp (I3.stkSub b q) with e | e
      · exact z1 e
      · exact z2 e
    have st3 : tn 0 sS.heap := T.keep _ _ _ st2 fun b hb o e => old b o (by rw [← hs3]; exact Heap.get?_push_of_some _ e)
    refine compLoopT (fun n s' => ∃ i ys os H', os.length = ts.length ∧ Inv X' [] (os ++ capS js σ) H' s' ∧ tn i s'.heap ∧ (∀ b ∈ fp, H' b = none) ∧ W i n ys H') ?_ m0 ⟨0, [], _, _, List.length_replicate, J0, st3, fun b hb => (fpl b hb).1.1, w0⟩
    rintro n s' ⟨i, ys, os, H', los, Iv, st, fr, w⟩
    obtain ⟨hD, alt⟩ := turn i n ys H' w
    have eP : X'.prog = X.prog := by subst hX; rfl
    have eW : X'.w = X.w := by subst hX; rfl
    have eK : X'.K = X.K := by subst hX; rfl
    have eC : X'.calm = true := by subst hX; exact hc
    have eA : X'.A = X.A := by subst hX; rfl
    have eE : X'.env = compEnvC sc cl s3.heap.objs.size X.env := by subst hX; rfl
    have eX : X'.xe = fun _ _ => False := by subst hX; rfl
    rcases alt with ⟨stop, q⟩ | ⟨go, hlen, step⟩
    · have d := T.done X' eP eW eK eC i [] s' _ H' (fun _ _ => False) Iv (stat fr) st stop
      rw [eA] at d
      refine thn d fun r s4 ⟨hr, I4⟩ => ?_
      subst hr
      obtain ⟨m, hm, _⟩ := id I4.loc
      rw [eE] at hm
      subst hX
      exact ⟨m, hm, fun h' hs' => ⟨.ref s2.heap.objs.size, H', compG_end I3 fpl (Nat.le_refl _) I4 hs', rfl, q⟩⟩
    · have d := T.item X' eP eW eK eC i [] s' _ H' (fun _ _ => False) Iv (stat fr) st go
      rw [eA] at d
      refine thn d fun r s4 ⟨u, hr, h4⟩ => ?_
      subst hr
      refine thn h4 fun _ s5 ⟨y, H5, I5, r5, y5, st5, fr5⟩ => ?_
      have I5' := I5.pinned (stat fr5) (T.obj _ _ st5)
      have hg' : PG X' tg g := by subst hX; exact hg _ _ _ _
      have g6 := hg' _ s5 _ H5 y u _ I5' r5 (step y H5 y5 os los)
      rw [eP, eW, eA, eE, eX] at g6
      refine thn g6 fun _ s6 ⟨σ6, H6, I6, ⟨os', los', e6⟩, st6⟩ => ?_
      subst e6
      have he' : PE X' elt te := by subst hX; exact he _ _ _ _
      have g7 := he' _ s6 _ H6 _ I6 st6
      rw [eP, eW, eA, eE, eX] at g7
      refine thn g7 fun uv s7 ⟨v7, H7, I7, r7, hD7, m', hm', w7⟩ => ?_
      have g8 := (mt_append (X := X')) _ s7 _ H7 (.ref s2.heap.objs.size) [v7] (.ref s2.heap.objs.size) [uv] (fun _ H8 => H8 = upd H7 s2.heap.objs.size (.lst (ys ++ [v7]))) I7 rfl (.cons r7 .nil) ⟨_, ys, v7, rfl, rfl, hD7, hlen, rfl⟩
      rw [eP, eW, eA, eX] at g8
      refine thn g8 fun _ s8 ⟨_, H8, I8, _, e8⟩ => ?_
      subst e8
      refine ⟨m', hm', i + 1, ys ++ [v7], os', _, los', I8.unpinned, T.keep _ _ _ st5 fun b hb o e => (I8.pin (b, o) (List.mem_append_right _ (List.mem_append_right _ (mem_pinsAt hb e)))).1, fun b hb => ?_, w7⟩
      obtain ⟨o', e', _⟩ := T.obj _ _ st5 b hb
      exact (I8.pin (b, o') (List.mem_append_right _ (List.mem_append_right _ (mem_pinsAt hb e')))).2.1
  have st1 : tn 0 h₁ := T.keep _ _ _ st2 fun b hb o e => old b o (by rw [← hs3]; exact Heap.get?_push_of_some _ e)
  exact codeAny_compStart_list (loop _ rfl rfl rfl) (T.self _ 0 _ _ _ st1 (loop _ rfl rfl rfl))
end
section
variable {X : Cx} {sc : Scope} {cl : List (Str × Addr)} {ts zs : List Str} {js : List Nat} {elt iter c : Expr} {pos : Pos} {tg : Expr} {g : TG} {wi : TI} {te : TE} {tt : TT}
theorem pe_lcGI (hc : X.calm = true) (S : CompG X sc cl ts zs js) (hi : PI X tg iter wi) (hg : ∀ s H C fp, PG (compCx X sc cl (ts ++ zs) s H C fp) tg g) (ht : ∀ s H C fp, PT (compCx X sc cl (ts ++ zs) s H C fp) c tt) (he : ∀ s H C fp, PE (compCx X sc cl (ts ++ zs) s H C fp) elt te)
    (hs : ∀ v, foldedSetIterable iter X.env v = pure v := by intro _; rfl) : PE X (.ListComp elt [⟨tg, iter, [c], 0⟩] sc pos) (tLCGif wi ts.length js g tt te) := by
  intro pins s σ H Q I h
  rw [eval_ListComp]
  refine wpAny_comprehension_free (use := none) rfl hs S.clos S.kind S.names (thn (hi pins s σ H _ I h) fun v s1 h1 => thn h1 fun itv s2 h2 => ?_)
  obtain ⟨it, fp, tn, J, H2, e, I2, T, st2, f2, body⟩ := h2
  subst e
  have fr2 : H2 s2.heap.objs.size = none := I2.fresh
  obtain ⟨W, ⟨m0, w0⟩, turn⟩ := body _ fr2
  refine wpAny_newObj_type ?_
  have I3 : Inv X pins σ (upd H2 s2.heap.objs.size (.lst [])) { s2 with heap := s2.heap.push { cls := .type "list", data := .seq ([] : List Value).toArray } } := I2.lnew (t' := s2.toks) (ys := []) (its := []) .nil (Nat.zero_le _)
  refine wpAny_newFunctionEnv S.noCell (by intro y hy; simp at hy) (fun h₁ hn hsb => ?_) S.kind
  generalize hs3 : ({ s2 with heap := s2.heap.push { cls := .type "list", data := .seq ([] : List Value).toArray } } : Shared) = s3 at I3 hn hsb ⊢
  have fpl : ∀ b ∈ fp, FpOk X pins (upd H2 s2.heap.objs.size (.lst [])) b ∧ b < s3.heap.objs.size := fun b hb => by
    obtain ⟨o, ho, _⟩ := T.obj _ _ st2 b hb
    have hl := Heap.lt_size ho
    have hne : b ≠ s2.heap.objs.size := Nat.ne_of_lt hl
    obtain ⟨z1, z2⟩ := f2 b hb
    refine ⟨⟨by rw [upd_ne hne]; exact z1, z2⟩, ?_⟩
    rw [← hs3]
    show b < (s2.heap.push _).objs.size
    rw [Heap.size_push]
    exact Nat.lt_succ_of_lt hl
  have old : ∀ b o, s3.heap.get? b = some o → h₁.get? b = some o := fun b o e => hsb.extBut b o (Nat.ne_of_lt (Heap.lt_size e)) (Heap.get?_push_of_some _ e)
  have loop : ∀ sS : Shared, sS.heap = h₁ → sS.os = s3.os → sS.gens = s3.gens → codeAny (model X.prog X.w) X.A (.compLoop (.ListComp elt [⟨tg, iter, [c], 0⟩] sc pos) 0 (.ref it) (.ref s2.heap.objs.size) (compEnvC sc cl s3.heap.objs.size X.env))
      (compPost (model X.prog X.w) X.A X.xe none (EP X pins σ Q) (.ref s2.heap.objs.size) s3.heap.objs.size) sS := by
    intro sS eh eo eg
    subst eh
    have J0 : Inv (compCx X sc cl (ts ++ zs) s3 (upd H2 s2.heap.objs.size (.lst [])) s3.heap.objs.size fp) [] (List.replicate ts.length none ++ capS js σ) (upd H2 s2.heap.objs.size (.lst [])) sS := compG_start I3 S fpl (Nat.le_refl _) eo eg old hn
    generalize hX : compCx X sc cl (ts ++ zs) s3 (upd H2 s2.heap.objs.size (.lst [])) s3.heap.objs.size fp = X' at J0
    have stat : ∀ {H' : Hp}, (∀ b ∈ fp, H' b = none) → ∀ b ∈ fp, FpOk X' [] H' b := fun {H'} hn b hb => by
      subst hX
      obtain ⟨⟨_, z1, z2, z3, z4, z5⟩, z6⟩ := fpl b hb
      refine ⟨hn b hb, Nat.ne_of_lt z6, fun q => ?_, .inl hb, fun y c e => z4 y c (S.sub _ _ e), fun p hp => absurd (show p ∈ ([] : List (Addr × Obj)) from hp) (by simp)⟩
      rcases List.mem_cons.mp (I3.stkSub b q) with e | e
      · exact z1 e
      · exact z2 e
    have st3 : tn 0 sS.heap := T.keep _ _ _ st2 fun b hb o e => old b o (by rw [← hs3]; exact Heap.get?_push_of_some _ e)
    refine compLoopT1 (fun n s' => ∃ i ys os H', os.length = ts.length ∧ Inv X' [] (os ++ capS js σ) H' s' ∧ tn i s'.heap ∧ (∀ b ∈ fp, H' b = none) ∧ W i n ys H') ?_ m0 ⟨0, [], _, _, List.length_replicate, J0, st3, fun b hb => (fpl b hb).1.1, w0⟩
    rintro n s' ⟨i, ys, os, H', los, Iv, st, fr, w⟩
    obtain ⟨hD, alt⟩ := turn i n ys H' w
    have eP : X'.prog = X.prog := by subst hX; rfl
    have eW : X'.w = X.w := by subst hX; rfl
    have eK : X'.K = X.K := by subst hX; rfl
    have eC : X'.calm = true := by subst hX; exact hc
    have eA : X'.A = X.A := by subst hX; rfl
    have eE : X'.env = compEnvC sc cl s3.heap.objs.size X.env := by subst hX; rfl
    have eX : X'.xe = fun _ _ => False := by subst hX; rfl
    rcases alt with ⟨stop, q⟩ | ⟨go, hlen, step⟩
    · have d := T.done X' eP eW eK eC i [] s' _ H' (fun _ _ => False) Iv (stat fr) st stop
      rw [eA] at d
      refine thn d fun r s4 ⟨hr, I4⟩ => ?_
      subst hr
      obtain ⟨m, hm, _⟩ := id I4.loc
      rw [eE] at hm
      subst hX
      exact ⟨m, hm, fun h' hs' => ⟨.ref s2.heap.objs.size, H', compG_end I3 fpl (Nat.le_refl _) I4 hs', rfl, q⟩⟩
    · have d := T.item X' eP eW eK eC i [] s' _ H' (fun _ _ => False) Iv (stat fr) st go
      rw [eA] at d
      refine thn d fun r s4 ⟨u, hr, h4⟩ => ?_
      subst hr
      refine thn h4 fun _ s5 ⟨y, H5, I5, r5, y5, st5, fr5⟩ => ?_
      have I5' := I5.pinned (stat fr5) (T.obj _ _ st5)
      have hg' : PG X' tg g := by subst hX; exact hg _ _ _ _
      have g6 := hg' _ s5 _ H5 y u _ I5' r5 (step y H5 y5 os los)
      rw [eP, eW, eA, eE, eX] at g6
      refine thn g6 fun _ s6 ⟨σ6, H6, I6, ⟨os', los', e6⟩, st6⟩ => ?_
      subst e6
      have ht' : PT X' c tt := by subst hX; exact ht _ _ _ _
      have g0 := ht' _ s6 _ H6 _ I6 st6
      rw [eP, eW, eA, eE, eX] at g0
      refine thn g0 fun k sk ⟨Hk, Ik, qk⟩ => ?_
      cases k with
      | false =>
        obtain ⟨m', hm', w7⟩ := qk.1 rfl
        refine ⟨fun _ => ?_, fun z => nomatch z⟩
        refine ⟨m', hm', i + 1, ys, os', _, los', Ik.unpinned, T.keep _ _ _ st5 fun b hb o e => (Ik.pin (b, o) (List.mem_append_right _ (List.mem_append_right _ (mem_pinsAt hb e)))).1, fun b hb => ?_, w7⟩
        obtain ⟨o', e', _⟩ := T.obj _ _ st5 b hb
        exact (Ik.pin (b, o') (List.mem_append_right _ (List.mem_append_right _ (mem_pinsAt hb e')))).2.1
      | true =>
      refine ⟨fun z => (nomatch z), fun _ => ?_⟩
      have he' : PE X' elt te := by subst hX; exact he _ _ _ _
      have g7 := he' _ sk _ Hk _ Ik (qk.2 rfl)
      rw [eP, eW, eA, eE, eX] at g7
      refine thn g7 fun uv s7 ⟨v7, H7, I7, r7, hD7, m', hm', w7⟩ => ?_
      have g8 := (mt_append (X := X')) _ s7 _ H7 (.ref s2.heap.objs.size) [v7] (.ref s2.heap.objs.size) [uv] (fun _ H8 => H8 = upd H7 s2.heap.objs.size (.lst (ys ++ [v7]))) I7 rfl (.cons r7 .nil) ⟨_, ys, v7, rfl, rfl, hD7, hlen, rfl⟩
      rw [eP, eW, eA, eX] at g8
      refine thn g8 fun _ s8 ⟨_, H8, I8, _, e8⟩ => ?_
      subst e8
      refine ⟨m', hm', i + 1, ys ++ [v7], os', _, los', I8.unpinned, T.keep _ _ _ st5 fun b hb o e => (I8.pin (b, o) (List.mem_append_right _ (List.mem_append_right _ (mem_pinsAt hb e)))).1, fun b hb => ?_, w7⟩
      obtain ⟨o', e', _⟩ := T.obj _ _ st5 b hb
      exact (I8.pin (b, o') (List.mem_append_right _ (List.mem_append_right _ (mem_pinsAt hb e')))).2.1
  have st1 : tn 0 h₁ := T.keep _ _ _ st2 fun b hb o e => old b o (by rw [← hs3]; exact Heap.get?_push_of_some _ e)
  exact codeAny_compStart_list (loop _ rfl rfl rfl) (T.self _ 0 _ _ _ st1 (loop _ rfl rfl rfl))
end
end My
set_option Elab.async false
set_option linter.all false
set_option maxRecDepth 100000
set_option maxHeartbeats 1000000
namespace My
open PySem PySem.W L2
section
variable {X : Cx} {CX : CXT} {k : Nat} {f D : Addr} {fd : FuncData} {ps : List Str} {sp : Sp} {E : XK} {x m : Str} {p pos apos : Pos} {e : Expr} {es : List Expr} {t : TA} {dvs : List V} {ds : List Value}
end
end My
set_option Elab.async false
set_option linter.all false
set_option maxRecDepth 100000
set_option maxHeartbeats 4000000
namespace My
open PySem L2
open PySem.Builtin.Str (occurrences partsBetween strSub)
def fig (c : Nat) : Bool := decide (48 ≤ c) && decide (c ≤ 57)
def figs (L : List Nat) : Bool := !L.isEmpty && !(L.head? == some 48 && L != [48]) && L.all fig
abbrev cs (z : Str) : List Nat := z.cps.toList
abbrev val (L : List Nat) : Nat := NumText.digitsVal L
def okS (a b : List Nat) : Bool := figs a && figs b && decide (2 ≤ val b) && decide (1 ≤ val a) && decide (val a < val b) && decide (Nat.gcd (val a) (val b) = 1)
def rd (z : Str) : Option (Nat × Nat) :=
  if z = "0" then some (0, 1) else if z = "1" then some (1, 1) else
    match Txt.split z ⟨#[47]⟩ with
    | [a, b] => if okS (cs a) (cs b) = true then some (val (cs a), val (cs b)) else none
    | _ => none
abbrev tx (n : Nat) : Str := Str.ofString (toString ((n : Nat) : Int))
end My
set_option Elab.async false
set_option linter.all false
set_option maxRecDepth 100000
set_option maxHeartbeats 1000000
namespace My
open PySem PySem.W L2
theorem itT {A B : Prop} (h : A) : if true = true then A else B := by rw [if_pos rfl]; exact h
theorem itF {A B : Prop} (h : B) : if false = true then A else B := by rw [if_neg (by decide)]; exact h
def Ext (H H' : Hp) : Prop := ∀ b o, H b = some o → H' b = some o
theorem Ext.refl (H : Hp) : Ext H H := fun _ _ h => h
theorem Ext.trans {H H1 H2 : Hp} (a : Ext H H1) (b : Ext H1 H2) : Ext H H2 := fun x o h => b x o (a x o h)
theorem Ext.new {H : Hp} {p : Addr} {o : HO} (h : H p = none) : Ext H (upd H p o) := fun b u e => by rw [upd_ne (ne_of_none e h)]; exact e
theorem SqT.ext {K : Frag} {H H' : Hp} {p : Addr} {xs : List V} (h : SqT K H p xs) (e : Ext H H') : SqT K H' p xs := by
  rcases h with h | h
  · left
    rcases h with h | ⟨o, h⟩
    · exact .inl (e _ _ h)
    · exact .inr ⟨o, e _ _ h⟩
  · exact .inr h
theorem SqL.ext {K : Frag} {H H' : Hp} {s : Addr} {xs : List V} (h : SqL K H s xs) (x : Ext H H') : SqL K H' s xs := by
  rcases h with h | h
  · rcases h with h | ⟨o, h⟩
    · exact .inl (.inl (x _ _ h))
    · exact .inl (.inr ⟨o, x _ _ h⟩)
  · exact .inr h
theorem pe_ty {X : Cx} {x : Str} {n : String} {pos : Pos} (hg : Gl X x) (hm : X.mg x = none) (hv : bootBuiltins x = some (.type n)) (hn : x ≠ "__name__" := by decide +kernel) (hd : (x == ("__debug__" : Str)) = false := by decide) : PE X (.Name x pos) (tC (.ty n)) :=
  pe_bltn hg hm hv (show RelV (.ty n) (.type n) from rfl) hn hd
def Kd (K : Frag) (H : Hp) (x : V) (t : Value) : Prop := TyOf K H x t ∨ (∃ p xs, x = .ref p ∧ SqT K H p xs ∧ t = .type "tuple") ∨ (∃ a C, x = .ref a ∧ ErrAt H a C ∧ ErrI K C ∧ t = .ref C)
def rIsK (K : Frag) : List V → Hp → VK → Prop := fun vs H Q => ∃ x n t b, vs = [x, .ty n] ∧ Kd K H x t ∧ kitOne K t (.type n) = some b ∧ Q (.bl b) H
theorem call_isK {X : Cx} (N : IsT X.K) : CallR X (.builtin "isinstance") (rIsK X.K) := by
  intro pins s σ H xs us Q I r h
  obtain ⟨x, n, t, b, rfl, kd, e, q⟩ := h
  obtain ⟨u, u', rfl, ru, ru'⟩ := vals2 r
  cases (show u' = Value.type n from ru')
  rcases kd with ty | ⟨p, ys, rfl, hq, rfl⟩ | ⟨a, C, rfl, ea, T, rfl⟩
  · exact isinst_ok I ru ty e fun tk => ⟨.bl b, H, I.tok _, rfl, q⟩
  · cases (show u = Value.ref p from ru)
    obtain ⟨its, _, ⟨o, h1, h2, _⟩, _⟩ := I.tuple hq
    exact kia_one kitx_tuple I.kIn ⟨o, h1, h2⟩ e (fun z => nomatch z) fun tk => ⟨.bl b, H, I.tok _, rfl, q⟩
  · cases (show u = Value.ref a from ru)
    exact kia_one (kitErr T N.gt N.tk) I.kIn (ea.inst I.hok) e (fun z => nomatch z) fun tk => ⟨.bl b, H, I.tok _, rfl, q⟩
def NoInt (K : Frag) (H : Hp) (x : V) : Prop := (∀ i, x ≠ .int i) ∧ ∃ t b1 b2, Kd K H x t ∧ kitOne K t (.type "int") = some b1 ∧ kitOne K t (.type "bool") = some b2 ∧ (b1 && !b2) = false
def Th (K : Frag) (H : Hp) (x : V) : Prop := (∃ i, x = .int i) ∨ NoInt K H x
def numB : V → Bool
  | .int _ => true
  | _ => false
def inB (lo hi : Int) : V → Bool
  | .int i => decide (lo ≤ i) && decide (i ≤ hi)
  | _ => false
theorem numB_no {x : V} (h : ∀ i, x ≠ .int i) : numB x = false := by
  cases x with
  | int i => exact absurd rfl (h i)
  | _ => rfl
theorem inB_no {lo hi : Int} {x : V} (h : ∀ i, x ≠ .int i) : inB lo hi x = false := by
  cases x with
  | int i => exact absurd rfl (h i)
  | _ => rfl
section
variable {P : Program} {w : World} {K : Frag} {mg : Str → Option Value} {base : Heap}
theorem k_ii : kitOne K (.type "int") (.type "int") = some true := rfl
theorem k_ib : kitOne K (.type "int") (.type "bool") = some false := rfl
end
end My
set_option Elab.async false
set_option linter.all false
set_option maxRecDepth 100000
set_option maxHeartbeats 4000000
set_option exponentiation.threshold 5000
namespace My
open PySem PySem.W L2
def keyD : Key → PyData
  | .inl i => .int i
  | .inr x => .str x
  | .non => .none
mutual
inductive Rds (G : Hp) : V → PyData → Prop
  | non : Rds G .non .none
  | bl (b : Bool) : Rds G (.bl b) (.bool b)
  | int (i : Int) : Rds G (.int i) (.int i)
  | str (x : Str) : Rds G (.str x) (.str x)
  | lst {a : Addr} {xs : List V} {ds : List PyData} : G a = some (.lst xs) → RdsAll G xs ds → Rds G (.ref a) (.list ds)
  | tup {a : Addr} {xs : List V} {ds : List PyData} : G a = some (.tup xs) → RdsAll G xs ds → Rds G (.ref a) (.tuple ds)
  | dic0 {a : Addr} : G a = some (.dK []) → Rds G (.ref a) (.dict [])
  | dic {a : Addr} {k : Key} {v : V} {d : PyData} : G a = some (.dK [(k, v)]) → Rds G v d → Rds G (.ref a) (.dict [(keyD k, d)])
inductive RdsAll (G : Hp) : List V → List PyData → Prop
  | nil : RdsAll G [] []
  | cons {v : V} {vs : List V} {d : PyData} {ds : List PyData} : Rds G v d → RdsAll G vs ds → RdsAll G (v :: vs) (d :: ds)
end
mutual
theorem Rds.mono {G G' : Hp} (s : Ext G G') : ∀ {v : V} {d : PyData}, Rds G v d → Rds G' v d
  | _, _, .non => .non
  | _, _, .bl b => .bl b
  | _, _, .int i => .int i
  | _, _, .str x => .str x
  | _, _, .lst e r => .lst (s _ _ e) (RdsAll.mono s r)
  | _, _, .tup e r => .tup (s _ _ e) (RdsAll.mono s r)
  | _, _, .dic0 e => .dic0 (s _ _ e)
  | _, _, .dic e r => .dic (s _ _ e) (Rds.mono s r)
theorem RdsAll.mono {G G' : Hp} (s : Ext G G') : ∀ {vs : List V} {ds : List PyData}, RdsAll G vs ds → RdsAll G' vs ds
  | _, _, .nil => .nil
  | _, _, .cons r t => .cons (Rds.mono s r) (RdsAll.mono s t)
end
theorem RdsAll.length {G : Hp} : ∀ {vs : List V} {ds : List PyData}, RdsAll G vs ds → vs.length = ds.length
  | _, _, .nil => rfl
  | _, _, .cons _ t => by rw [List.length_cons, List.length_cons, t.length]
theorem RdsAll.append {G : Hp} : ∀ {vs ws : List V} {ds es : List PyData}, RdsAll G vs ds → RdsAll G ws es → RdsAll G (vs ++ ws) (ds ++ es)
  | _, _, _, _, .nil, s => s
  | _, _, _, _, .cons r t, s => .cons r (t.append s)
section
variable {P : Program} {w : World} {H : Hp} {h : Heap}
theorem key_reads {k : Key} {u : Value} (r : (mixKind P w).is k u = true) : Reads h u (keyD k) [] := by
  rw [mixKind_is] at r
  rcases keyIs_shape r with ⟨i, t, rfl, rfl⟩ | ⟨x, t, rfl, rfl⟩ | ⟨rfl, rfl⟩
  · exact .int i t
  · exact .str x t
  · exact .none
theorem pairs0 {es : List DictEntry} (ps : Pairs (mixKind P w) es ([] : List (Key × Value))) : es = [] := by
  cases ps
  rfl
theorem pairs1 {es : List DictEntry} {k : Key} {u : Value} (ps : Pairs (mixKind P w) es [(k, u)]) : ∃ e, es = [e] ∧ (mixKind P w).is k e.key = true ∧ e.val = u := by
  cases ps with
  | cons h1 h2 h3 =>
    cases h3
    exact ⟨_, rfl, h1, h2⟩
mutual
theorem reads_of (ok : HOk P w H h) (z : H sysModules = none) : ∀ {v : V} {d : PyData} {u : Value}, Rds H v d → RelV v u → ∃ as, Reads h u d as ∧ sysModules ∉ as
  | _, _, _, .non, r => by cases r; exact ⟨[], .none, by simp⟩
  | _, _, _, .bl b, r => by cases r; exact ⟨[], .bool b, by simp⟩
  | _, _, _, .int i, r => by obtain ⟨t, rfl⟩ := r; exact ⟨[], .int i t, by simp⟩
  | _, _, _, .str x, r => by obtain ⟨t, rfl⟩ := r; exact ⟨[], .str x t, by simp⟩
  | _, _, _, .lst (a := a) e t, r => by
    cases r
    obtain ⟨_, its, n, rv, ho⟩ := (show ObjOk P w H h _ (.lst _) from ok _ _ e)
    obtain ⟨as, ra, na⟩ := readsAll_of ok z t rv
    refine ⟨a :: as, .list ho rfl rfl (by simpa using ra), ?_⟩
    intro m
    rcases List.mem_cons.mp m with m | m
    · rw [← m, z] at e; cases e
    · exact na m
  | _, _, _, .tup (a := a) e t, r => by
    cases r
    obtain ⟨_, its, rv, o, ho, hc, n, hd⟩ := (show ObjOk P w H h _ (.tup _) from ok _ _ e)
    obtain ⟨as, ra, na⟩ := readsAll_of ok z t rv
    exact ⟨as, .tuple ho hc hd (by simpa using ra), na⟩
  | _, _, _, .dic0 (a := a) e, r => by
    cases r
    obtain ⟨_, hs, vs, kv, o, es, ep, ho, hx, hd, hks, hps, hnd⟩ := (show ObjOk P w H h _ (.dK _) from ok _ _ e)
    cases kv
    have ee : es.toList = [] := pairs0 hps
    refine ⟨a :: [] ++ [], .dict (kvs := []) ho hx.1 hd (by rw [ee]; exact .nil) (by rw [ee]; exact .nil), ?_⟩
    intro m
    have m' : sysModules = a := by simpa using m
    rw [← m', z] at e; cases e
  | _, _, _, .dic (a := a) (k := k) e t, r => by
    cases r
    obtain ⟨_, hs, vs, kv, o, es, ep, ho, hx, hd, hks, hps, hnd⟩ := (show ObjOk P w H h _ (.dK _) from ok _ _ e)
    cases kv with
    | cons q q' =>
      cases q'
      obtain ⟨hq1, hq2⟩ := q
      obtain ⟨e0, ee, ek, ev⟩ := pairs1 hps
      rw [← ev] at hq2
      rw [← hq1] at ek
      obtain ⟨as, ra, na⟩ := reads_of ok z t hq2
      have rk : ReadsAll h [e0.key] [keyD k] ([] ++ []) := .cons (key_reads ek) .nil
      have rv : ReadsAll h [e0.val] [_] (as ++ []) := .cons ra .nil
      refine ⟨a :: ([] ++ []) ++ (as ++ []), .dict (kvs := [(keyD k, _)]) ho hx.1 hd (by rw [ee]; exact rk) (by rw [ee]; exact rv), ?_⟩
      intro m
      rw [List.append_nil, List.append_nil] at m
      rcases List.mem_cons.mp m with m | m
      · rw [← m, z] at e; cases e
      · exact na (by simpa using m)
theorem readsAll_of (ok : HOk P w H h) (z : H sysModules = none) : ∀ {vs : List V} {ds : List PyData} {us : List Value}, RdsAll H vs ds → Vals vs us → ∃ as, ReadsAll h us ds as ∧ sysModules ∉ as
  | _, _, _, .nil, r => by cases r; exact ⟨[], .nil, by simp⟩
  | _, _, _, .cons r t, rv => by
    cases rv with
    | cons q qs =>
      obtain ⟨as, ra, na⟩ := reads_of ok z r q
      obtain ⟨bs, rb, nb⟩ := readsAll_of ok z t qs
      refine ⟨as ++ bs, .cons ra rb, fun m => ?_⟩
      rcases List.mem_append.mp m with m | m
      · exact na m
      · exact nb m
end
end
structure Show (d : PyData) : Prop where
  sh : d.showable = true
  dp : d.depth ≤ 10
  sz : d.shown.length ≤ sizeLine
section
variable {X : Cx}
def rRepr : List V → Hp → VK → Prop := fun vs H Q => ∃ v d, vs = [v] ∧ Rds H v d ∧ Show d ∧ Q (.str d.shown) H
theorem call_repr (hz : X.H₀ sysModules = none) (hg : X.A.guards = some []) (hu : X.A.units + 64 < cLine) : CallR X (.builtin "repr") rRepr := by
  intro pins s σ H xs us Q I r h
  obtain ⟨v, d, rfl, rd, sw, q⟩ := h
  have z : H sysModules = none := I.base.sys hz
  obtain ⟨u, rfl, ru⟩ := vals1 r
  have big : ∀ a, u = Value.ref a → wpAny (model X.prog X.w) X.A (call (.builtin "repr") [u]) (EP X pins σ Q) X.xe s := fun a e => by
    obtain ⟨as, rr, na⟩ := reads_of I.hok z rd ru
    subst e
    have hd := sw.dp
    exact repr_of_reads' (h₀ := s.heap) rr sw.sh (fun _ => na) hg (by omega) (fun _ _ e => e) (fun h' u tk hk => ⟨.str d.shown, H, I.kept (h' := h') (t' := tk) hk, ⟨u, rfl⟩, q⟩) sw.sz
  cases rd with
  | non => cases ru; exact PySem.P.repr_of_none ⟨.str _, H, I.tok _, ⟨_, rfl⟩, q⟩
  | bl b => cases ru; cases b <;> exact PySem.P.repr_of_bool ⟨.str _, H, I.tok _, ⟨_, rfl⟩, q⟩
  | int i =>
    obtain ⟨t, rfl⟩ := ru
    exact PySem.P.repr_of_int (by have h := sw.sh; simpa only [PyData.showable, decide_eq_true_eq] using h) ⟨.str _, H, I.tok _, ⟨_, rfl⟩, q⟩
  | str x =>
    obtain ⟨t, rfl⟩ := ru
    exact PySem.P.repr_of_str ⟨.str _, H, I.tok _, ⟨_, rfl⟩, q⟩ sw.sz
  | lst e t => exact big _ ru
  | tup e t => exact big _ ru
  | dic0 e => exact big _ ru
  | dic e t => exact big _ ru
end
def kindD : PyData → String
  | .none => "NoneType"
  | .bool _ => "bool"
  | .int _ => "int"
  | .str _ => "str"
  | .list _ => "list"
  | .tuple _ => "tuple"
  | _ => "dict"
def tupB : PyData → Bool
  | .tuple _ => true
  | _ => false
def lisB : PyData → Bool
  | .list _ => true
  | _ => false
def booB : PyData → Bool
  | .bool _ => true
  | _ => false
def inD (lo hi : Int) : PyData → Bool
  | .int i => decide (lo ≤ i) && decide (i ≤ hi)
  | _ => false
section
variable {K : Frag} {H : Hp} {v : V} {d : PyData}
theorem Rds.ty (r : Rds H v d) : TyOf K H v (.type (kindD d)) := by
  cases r with
  | non => exact .non
  | bl b => exact .bl b
  | int i => exact .int i
  | str x => exact .str x
  | lst e _ => exact .lst e
  | tup e _ => exact .tup e
  | dic0 e => exact .dK e
  | dic e _ => exact .dK e
theorem Rds.kd (r : Rds H v d) : Kd K H v (.type (kindD d)) := .inl r.ty
theorem Rds.isT (r : Rds H v d) : kitOne K (.type (kindD d)) (.type "tuple") = some (tupB d) := by cases r <;> rfl
theorem Rds.isL (r : Rds H v d) : kitOne K (.type (kindD d)) (.type "list") = some (lisB d) := by cases r <;> rfl
theorem Rds.isB (r : Rds H v d) : kitOne K (.type (kindD d)) (.type "bool") = some (booB d) := by cases r <;> rfl
theorem Rds.th (r : Rds H v d) : Th K H v := by
  cases r with
  | int i => exact .inl ⟨i, rfl⟩
  | non => exact .inr ⟨fun i z => (by cases z), _, _, _, .inl .non, rfl, rfl, rfl⟩
  | bl b => exact .inr ⟨fun i z => (by cases z), _, _, _, .inl (.bl b), rfl, rfl, rfl⟩
  | str x => exact .inr ⟨fun i z => (by cases z), _, _, _, .inl (.str x), rfl, rfl, rfl⟩
  | lst e _ => exact .inr ⟨fun i z => (by cases z), _, _, _, .inl (.lst e), rfl, rfl, rfl⟩
  | tup e _ => exact .inr ⟨fun i z => (by cases z), _, _, _, .inl (.tup e), rfl, rfl, rfl⟩
  | dic0 e => exact .inr ⟨fun i z => (by cases z), _, _, _, .inl (.dK e), rfl, rfl, rfl⟩
  | dic e _ => exact .inr ⟨fun i z => (by cases z), _, _, _, .inl (.dK e), rfl, rfl, rfl⟩
theorem Rds.inB (r : Rds H v d) (lo hi : Int) : My.inB lo hi v = inD lo hi d := by cases r <;> rfl
theorem rds_tup (r : Rds H v (.tuple ds)) : ∃ a xs, v = .ref a ∧ H a = some (.tup xs) ∧ RdsAll H xs ds := by
  cases r with
  | tup e t => exact ⟨_, _, rfl, e, t⟩
theorem rds_lst (r : Rds H v (.list ds)) : ∃ a xs, v = .ref a ∧ H a = some (.lst xs) ∧ RdsAll H xs ds := by
  cases r with
  | lst e t => exact ⟨_, _, rfl, e, t⟩
theorem RdsAll.get {xs : List V} {ds : List PyData} (r : RdsAll H xs ds) : ∀ {i : Nat} {x : V}, xs[i]? = some x → ∃ d, ds[i]? = some d ∧ Rds H x d := by
  induction xs generalizing ds with
  | nil => intro i x h; simp at h
  | cons y ys ih =>
    cases r with
    | cons q t =>
      intro i x h
      cases i with
      | zero => cases h; exact ⟨_, rfl, q⟩
      | succ i => exact ih t h
end
end My
set_option Elab.async false
set_option linter.all false
set_option maxRecDepth 100000
set_option maxHeartbeats 1000000
namespace My
open PySem L2
structure Bx (p : Prop) : Prop where
  h : p
section
variable {X : Cx} {e a b : Expr} {es : List Expr} {te ta tb : TE} {t : TA} {pos : Pos} {st : Stmt} {rest : List Stmt} {ts u v : TS}
theorem bxa_nil : Bx (PA X [] tNil) := ⟨pa_nil⟩
theorem bxa_cons (ha : Bx (PE X e te)) (hr : Bx (PA X es t)) (hs : starEach (e :: es) X.env = (false, eval e X.env) :: starEach es X.env := by rfl) : Bx (PA X (e :: es) (tCons te t)) := ⟨pa_cons ha.h hr.h hs⟩
theorem bx_lst (h : Bx (PA X es t)) : Bx (PE X (.List es pos) (tLst t)) := ⟨pe_lst h.h⟩
theorem bx_ix {r : R2} (hr : IxR X r) (ha : Bx (PE X a ta)) (hb : Bx (PE X b tb)) (hs : PlainIx b) : Bx (PE X (.Subscript a b pos) (tOp r ta tb)) := ⟨pe_ix hr ha.h hb.h hs⟩
theorem bx_ret (h : Bx (PE X e te)) : Bx (PS X (.Return (some e) pos) (tRet te)) := ⟨ps_ret h.h⟩
theorem bxs_one (h : Bx (PS X st ts)) : Bx (PSs X [st] ts) := ⟨pss_one h.h⟩
theorem bxs_cons (h : Bx (PS X st ts)) (k : Bx (PSs X rest u)) : Bx (PSs X (st :: rest) (tSeq ts u)) := ⟨pss_cons h.h k.h⟩
theorem bx_set {i : Nat} {x : Str} {pos' : Pos} (hN : X.N.Nodup) (hi : X.N[i]? = some x) (hx : Loc X.env.scope x) (he : Bx (PE X e te)) (hs : swapsWith e (some (.Name x pos')) pos.line X.env = pure false := by rfl) (hf : X.fn x = true ∨ X.env.scope.names.lookup x = some .local := by first | exact .inl rfl | exact .inr rfl | assumption) :
    Bx (PS X (.Assign [.Name x pos'] e pos) (tAsg te (gName i))) := ⟨ps_set hN hi hx he.h hs hf⟩
end
end My
set_option Elab.async false
set_option linter.all false
set_option maxRecDepth 100000
set_option maxHeartbeats 1000000
namespace My
open PySem PySem.W L2
open AutoSeq1 (wpAny_loadPart')
section
variable {prog : Program} {w : World} {A : Around} {E : Value → Shared → Prop} {s : Shared} {r : Addr} {a b c : Int} {t u v : Tok} {n : Nat}
end
section
variable {X : Cx}
end
end My
set_option Elab.async false
set_option linter.all false
set_option maxRecDepth 100000
set_option maxHeartbeats 1000000
namespace My
open PySem L2
section
variable {X : Cx}
theorem all_range : ∀ (xs : List Bool), (List.range xs.length).all (fun i => xs.getD i false) = xs.all id
  | [] => rfl
  | x :: xs => by
    have ih := all_range xs
    rw [List.length_cons, List.range_succ_eq_map, List.all_cons, List.all_map, List.all_cons, ← ih]
    rfl
def rAll (K : PySem.W.Frag) : List V → Hp → VK → Prop := fun vs H Q => ∃ (l : Addr) (xs : List Bool), vs = [.ref l] ∧ SqL K H l (xs.map V.bl) ∧ Q (.bl (xs.all id)) H
theorem call_all (hc : X.calm = true) : CallR X (.builtin "all") (rAll X.K) := by
  intro pins s σ H vs us Q I r h
  obtain ⟨l, xs, rfl, hl, q⟩ := h
  obtain ⟨u, rfl, ru⟩ := vals1 r
  cases (show u = Value.ref l from ru)
  obtain ⟨its, rv, t, hz⟩ := I.list hl
  have ll : l < s.heap.objs.size := by obtain ⟨_, e, _⟩ := t.isList; exact Heap.lt_size e
  have len := rv.length
  rw [List.length_map] at len
  refine call_all_walk (wpAny_pyIter_list t.isList ?_)
  refine ⟨s.heap.objs.size, [s.heap.objs.size, l], [s.heap.objs.size], its.toArray.size, (fun i v => its.toArray[i]? = some v), _, fun i => xs.getD i false, rfl, Walks.list (A := X.A.in1) (I.ok.hd hc) s.heap.objs.size l (Nat.ne_of_lt ll) its.toArray,
    ⟨⟨_, Heap.get?_push_size _ rfl, rfl, rfl⟩, t.isList.push _⟩, fun i v s' Q' E' hv hq => ?_, fun h' tk hk => ⟨.bl _, H, I.kept (h' := h') (t' := tk) (fun b o e => hk b o (fun m => ?_) (Heap.get?_push_of_some _ e)), ?_, q⟩⟩
  · have hv' : its[i]? = some v := by simpa using hv
    have lt : i < its.length := (List.getElem?_eq_some_iff.mp hv').1
    have lt2 : i < xs.length := by omega
    obtain ⟨u1, e1, q1⟩ := rv.get (i := i) (x := V.bl xs[i]) (by rw [List.getElem?_map, List.getElem?_eq_getElem lt2]; rfl)
    rw [hv'] at e1
    cases e1
    cases (show v = Value.bool xs[i] from q1)
    refine wpAny_truthy_bool ?_
    have e : xs.getD i false = xs[i] := by simp [lt2]
    rw [← e]
    exact hq
  · rcases List.mem_cons.mp m with e2 | m
    · exact absurd (Heap.lt_size e) (by rw [e2]; exact Nat.lt_irrefl _)
    · cases m
  · show Value.bool _ = Value.bool _
    have e := all_range xs
    rw [← e, List.size_toArray, ← len]
theorem eqVs_refl : ∀ {xs : List V}, xs.all flatV = true → eqVs xs xs = true
  | [], _ => rfl
  | x :: xs, h => by
    rw [List.all_cons, Bool.and_eq_true] at h
    show (eqV x x && eqVs xs xs) = true
    rw [eqV_refl h.1, eqVs_refl h.2]
    rfl
theorem tup_eqAt {pins : List (Addr × Obj)} {σ : St} {H : Hp} {s : Shared} {A : Around} {p q : Addr} {xs ys : List V} (I : Inv X pins σ H s) (hu : A.units < cLine) (hp : SqT X.K H p xs) (hq : SqT X.K H q ys) (f1 : xs.all flatV = true) (f2 : ys.all flatV = true) :
    SeqAt.EqAt A s (.ref p) (.ref q) (eqVs xs ys) := by
  by_cases e : p = q
  · subst e
    have := I.tuple_inj hp hq
    subst this
    rw [eqVs_refl f1]
    exact SeqAt.EqAt.same _
  · obtain ⟨its, r1, t1, _⟩ := I.tuple hp
    obtain ⟨jts, r2, t2, _⟩ := I.tuple hq
    have a := SeqAt.RcAt.tuples t1 t2 hu (tup_eqs (A := A.in1) (pins := pins) (σ := σ) (H := H) (s := s) r1 r2 f1 f2)
    have z := eqVs_all xs ys
    rw [r1.length, r2.length] at z
    rw [List.size_toArray, List.size_toArray, z] at a
    exact .of_refs e a
def rCountT (K : PySem.W.Frag) : V → List V → Hp → VK → Prop := fun x vs H Q => ∃ (l q : Addr) (as : List (Addr × List V)) (ys : List V), x = .ref l ∧ vs = [.ref q] ∧ SqL K H l (as.map fun z => V.ref z.1) ∧ (∀ z ∈ as, SqT K H z.1 z.2 ∧ z.2.all flatV = true) ∧ SqT K H q ys ∧ ys.all flatV = true ∧ Q (.int (as.countP fun z => eqVs z.2 ys : Nat)) H
theorem mt_countT (hu : X.A.units + 1 < cLine) : MtR X "list.count" (rCountT X.K) := by
  intro pins s σ H x vs v us Q I rx rv h
  obtain ⟨l, q, as, ys, rfl, rfl, hl, hz, hq, f2, k⟩ := h
  cases rx
  obtain ⟨u, rfl, ru⟩ := vals1 rv
  cases (show u = Value.ref q from ru)
  obtain ⟨its, r, t, hz0⟩ := I.list hl
  obtain ⟨⟨c, dd, dt, sl⟩, h1, hc, n, hd⟩ := t.isList
  replace hc : c = .type "list" := hc
  replace hd : dt = .seq its.toArray n := hd
  subst hc hd
  have get : ∀ (i : Nat) (hi : i < its.length), ∃ z ∈ as, as[i]? = some z ∧ its[i] = Value.ref z.1 := fun i hi => by
    have k1 : i < as.length := by have := r.length; rw [List.length_map] at this; omega
    obtain ⟨u1, e1, q1⟩ := r.get (i := i) (x := V.ref as[i].1) (by rw [List.getElem?_map, List.getElem?_eq_getElem k1]; rfl)
    rw [List.getElem?_eq_getElem hi] at e1
    cases e1
    exact ⟨as[i], List.getElem_mem k1, List.getElem?_eq_getElem k1, q1⟩
  let e : Value → Bool := fun z => as.any fun a => z == Value.ref a.1 && eqVs a.2 ys
  have ee : ∀ z ∈ as, e (Value.ref z.1) = eqVs z.2 ys := fun z hz' => by
    show (as.any fun a => Value.ref z.1 == Value.ref a.1 && eqVs a.2 ys) = _
    cases b : eqVs z.2 ys with
    | true =>
      rw [List.any_eq_true]
      exact ⟨z, hz', by rw [b, beq_self_eq_true]; rfl⟩
    | false =>
      rw [List.any_eq_false]
      intro a ha
      intro c
      rw [Bool.and_eq_true] at c
      have c1 : z.1 = a.1 := Value.ref.inj (beq_iff_eq.mp c.1)
      have t1 := (hz z hz').1
      have t2 := (hz a ha).1
      rw [c1] at t1
      have := I.tuple_inj t1 t2
      rw [this, c.2] at b
      cases b
  refine call_meets F.slot_list_count ⟨_, h1, rfl⟩ F.entry_list_count (F.args_list_count_2 _ _) (SeqAt.list_countAt l its.toArray n dd sl (Value.ref q) e) ⟨h1, fun z hz' => ?_, ?_⟩
  · obtain ⟨i, hi, ez⟩ := List.getElem_of_mem (show z ∈ its by simpa using hz')
    obtain ⟨y, hy, _, ey⟩ := get i hi
    rw [ez] at ey
    subst ey
    rw [ee y hy]
    exact tup_eqAt I (by show X.A.in1.units < cLine; rw [in1_units]; exact hu) (hz y hy).1 hq (hz y hy).2 f2
  · refine ⟨.int _, H, I.tok _, ⟨_, rfl⟩, ?_⟩
    have z : its.toArray.toList.countP e = as.countP fun z => eqVs z.2 ys := by
      rw [List.toList_toArray]
      have gen : ∀ (bs : List (Addr × List V)) (js : List Value), (∀ z ∈ bs, z ∈ as) → Vals (bs.map fun z => V.ref z.1) js → js.countP e = bs.countP fun z => eqVs z.2 ys := by
        intro bs
        induction bs with
        | nil =>
          intro js _ rj
          cases rj
          rfl
        | cons b bs ih =>
          intro js sub rj
          rw [List.map_cons] at rj
          cases rj with
          | cons q1 rj =>
            cases (show _ = Value.ref b.1 from q1)
            rw [List.countP_cons, List.countP_cons, ih _ (fun z hz => sub z (List.mem_cons_of_mem _ hz)) rj, ee b (sub b (List.mem_cons_self ..))]
      exact gen as its (fun _ h => h) r
    rw [z]
    exact k
end
section
variable {X : Cx} {σ : St}
end
end My
set_option Elab.async false
set_option linter.all false
set_option maxRecDepth 100000
set_option maxHeartbeats 1000000
namespace My
open PySem PySem.W L2
section
variable {K : Frag} {te : TE} {tt : TT} {g : TG} {k : Nat} {cap : St} {D : Addr} {H1 : Hp} {Q : Hp → Prop} {a : Addr} {xs : List V}
end
end My
set_option Elab.async false
set_option linter.all false
set_option maxRecDepth 100000
set_option maxHeartbeats 4000000
namespace My
open PySem L2
section
variable {X : Cx} {sc : Scope} {cl : List (Str × Addr)} {ts zs : List Str} {js : List Nat} {elt iter c : Expr} {pos : Pos} {tg : Expr} {g : TG} {wi : TI} {te : TE} {tt : TT}
end
section
variable {X : Cx} {sc : Scope} {cl : List (Str × Addr)} {ts zs : List Str} {js : List Nat} {elt iter c : Expr} {pos : Pos} {tg : Expr} {g : TG} {wi : TI} {te : TE} {tt : TT}
end
end My
set_option Elab.async false
set_option linter.all false
set_option maxRecDepth 100000
set_option maxHeartbeats 1000000
namespace My
open PySem PySem.W L2
def gTupL (K : PySem.W.Frag) (n : Nat) (t : TGs) : TG := fun v σ H Q => ∃ a xs, v = .ref a ∧ SqL K H a xs ∧ xs.length = n ∧ t xs σ H Q
section
variable {X : Cx} {pos : Pos}
theorem pg_tupL {es : List Expr} {k : Nat} {t : TGs} {n : Nat} (hc : X.calm = true) (h : PGs X es t)
    (hn : (assignEach es X.env).length = n := by rfl) (hst : (assignEach es X.env).findIdx? (·.1) = none := by rfl) : PG X (.Tuple es k pos) (gTupL X.K n t) := by
  intro pins s σ H v u Q I r hw
  obtain ⟨a, xs, e1, hq, hl, hw⟩ := hw
  subst e1
  cases r
  obtain ⟨its, rv, ht, hz⟩ := I.list hq
  rw [PyProof.Rows.assign_Tuple]
  refine wpAny_bind (wpAny_standAt ?_)
  unfold unpack
  rw [hst, show (assignEach es X.env).length = its.toArray.size by rw [hn, List.size_toArray, ← rv.length]; exact hl.symm]
  refine wpAny_bind (wpAny_holding (kun_itemsOf (I.ok.hd hc) ht.isList fun h' hx => ?_))
  have I1 : Inv X pins σ H { s with heap := h' } := I.kept (t' := s.toks) fun b o e => hx b o (Nat.ne_of_lt (Heap.lt_size e)) e
  exact h pins _ σ H xs _ Q I1 (by simpa using rv) hw
end
section
variable {K : Frag} {te : TE} {g : TG} {k : Nat} {cap : St} {D : Addr} {H1 : Hp} {Q : Hp → Prop}
theorem lcG_range {lo : Int} {n : Nat} (Pv : Nat → List V → Hp → Prop) (hz : n < sizeLine) (h0 : Pv 0 [] (upd H1 D (.lst [])))
    (hs : ∀ i ys H, i < n → ys.length = i → H D = some (.lst ys) → Pv i ys H → ∀ os : St, os.length = k → ∀ R : VK, (∀ y H4, H4 D = some (.lst ys) → Pv (i + 1) (ys ++ [y]) (upd H4 D (.lst (ys ++ [y]))) → R y H4) → g (.int (lo + i)) (os ++ cap) H fun σ2 H0 => (∃ os' : St, os'.length = k ∧ σ2 = os' ++ cap) ∧ te σ2 H0 R)
    (hd : ∀ ys H, ys.length = n → H D = some (.lst ys) → Pv n ys H → Q H) :
    ∃ W : Nat → Nat → List V → Hp → Prop, (∃ m, W 0 m [] (upd H1 D (.lst []))) ∧
      ∀ i m ys H2, W i m ys H2 → H2 D = some (.lst ys) ∧ (((Itr lo n).stop i H2 ∧ Q H2) ∨ ((Itr lo n).go i H2 ∧ ys.length < sizeLine ∧
        ∀ x H3, (Itr lo n).yld i H2 x H3 → ∀ os : St, os.length = k → g x (os ++ cap) H3 fun σ2 H0 => (∃ os' : St, os'.length = k ∧ σ2 = os' ++ cap) ∧ te σ2 H0 fun y H4 => H4 D = some (.lst ys) ∧ ∃ m', m' < m ∧ W (i + 1) m' (ys ++ [y]) (upd H4 D (.lst (ys ++ [y]))))) := by
  refine ⟨fun i m ys H => m = n - i ∧ i ≤ n ∧ ys.length = i ∧ H D = some (.lst ys) ∧ Pv i ys H, ⟨n, by simp, Nat.zero_le _, rfl, upd_same, h0⟩, ?_⟩
  rintro i m ys H ⟨rfl, hi, hy, hD, p⟩
  refine ⟨hD, ?_⟩
  by_cases hlt : i < n
  · refine .inr ⟨hlt, by omega, fun x H' y => ?_⟩
    obtain ⟨e, y⟩ := y
    subst e y
    exact fun os los => hs i ys _ hlt hy hD p os los _ fun z H4 hD4 p4 => ⟨hD4, n - (i + 1), by omega, rfl, hlt, by rw [List.length_append, hy]; rfl, upd_same, p4⟩
  · have e : i = n := by omega
    subst e
    exact .inl ⟨Nat.le_refl _, hd ys H hy hD p⟩
end
end My
set_option Elab.async false
set_option linter.all false
set_option maxRecDepth 100000
set_option maxHeartbeats 1000000
namespace My
open PySem PySem.W L2
section
variable {X : Cx}
theorem ints_items : ∀ {ns : List Int} {its : List Value}, Vals (ns.map V.int) its → ∃ xs : List (Int × Tok), its = xs.map (fun p => Value.int p.1 p.2) ∧ ns = xs.map (·.1)
  | [], _, r => by cases r; exact ⟨[], rfl, rfl⟩
  | n :: ns, _, r => by
    rw [List.map_cons] at r
    cases r with
    | cons r1 r2 =>
      obtain ⟨t, rfl⟩ := r1
      obtain ⟨xs, e1, e2⟩ := ints_items r2
      exact ⟨(n, t) :: xs, by rw [e1]; rfl, by rw [e2]; rfl⟩
theorem numAt_get {xs : List (Int × Tok)} {i : Nat} (h : i < xs.length) : numAt xs.toArray i = (xs.map (·.1))[i]'(by rw [List.length_map]; exact h) := by
  simp [numAt, h]
end
end My
set_option Elab.async false
set_option linter.all false
set_option maxRecDepth 100000
set_option maxHeartbeats 1000000
namespace My
open PySem PySem.W L2
open Sem (wp)
open AutoSeq1 (wpAny_loadPart')
open PyProof.Rows (Call_ boot_enumerate)
section
variable {prog : Program} {w : World} {A : Around} {E : Value → Shared → Prop} {s : Shared}
end
section
variable {X : Cx}
end
end My
set_option Elab.async false
set_option linter.all false
set_option maxRecDepth 100000
set_option maxHeartbeats 1000000
namespace My
open PySem PySem.W L2 PyProof.Rows
section
variable {X : Cx} {e : Expr} {te : TE} {pos p1 p2 p3 : Pos}
def tRev (K : Frag) (te : TE) : TE := fun σ H Q => te σ H fun x H1 => ∃ a xs, x = .ref a ∧ SqL K H1 a xs ∧ ∀ p, H1 p = none → Q (.ref p) (upd H1 p (.lst xs.reverse))
theorem Vals.rev : ∀ {xs : List V} {us : List Value}, Vals xs us → Vals xs.reverse us.reverse
  | _, _, .nil => .nil
  | _, _, .cons r t => by
    rw [List.reverse_cons, List.reverse_cons]
    exact (Vals.rev t).append (.cons r .nil)
theorem pe_rev (he : PE X e te) : PE X (.Subscript e (.Slice none none (some (.UnaryOp .USub (.Constant (.int 1) 0 p1) p3)) p2) pos) (tRev X.K te) := by
  intro pins s σ H Q I h
  refine PyProof.Rows.Subscript_ (thn (he pins s σ H _ I h) fun v s1 ⟨x, H1, I1, r1, q1⟩ => ?_)
  obtain ⟨a, xs, rfl, hx, q⟩ := q1
  cases (show v = Value.ref a from r1)
  refine wpAny_Slice ?_
  rw [evalPart_none]
  refine wpAny_pure ?_
  refine wpAny_pure ?_
  rw [evalPart_some]
  refine thn (pe_un un_neg pe_int pins s1 σ H1 (fun y H2 => y = .int (-1) ∧ H2 = H1) I1 ⟨1, rfl, rfl, rfl⟩) fun vk s2 ⟨y, H2, I2, r2, e1, e2⟩ => ?_
  subst e1 e2
  obtain ⟨t, rfl⟩ := r2
  have I3 : Inv X pins σ H2 { s2 with heap := s2.heap.push { cls := .type "slice", data := .fields #[.none, .none, .int (-1) t] } } := I2.kept (t' := s2.toks) fun b ob q => Heap.get?_push_of_some _ q
  obtain ⟨its, r, ht, hz⟩ := I3.list hx
  show wpAny (model X.prog X.w) X.A (PyProof.Rows.subscriptTail e (.Slice none none (some (.UnaryOp .USub (.Constant (.int 1) 0 p1) p3)) p2) (.ref a) (.ref s2.heap.objs.size)) (EP X pins σ Q) X.xe { s2 with heap := s2.heap.push { cls := .type "slice", data := .fields #[.none, .none, .int (-1) t] } }
  refine tail_any (ops := [.ref a, .ref s2.heap.objs.size]) ht.isList.typeIs slot_list_getitem.lookup ?_ (by with_unfolding_all rfl)
  have hlen := r.length
  refine wpAny_getItem_list_slice ht.isList (Heap.IsSliceOf.new s2.heap .none .none (.int (-1) t)) .none .none (.int (-1) t) (by simp) ?_ (by rw [List.size_toArray] <;> omega)
  rw [krv_pick]
  refine ⟨.ref _, _, I3.laid (t' := s2.toks) (o := .lst xs.reverse) (fun b ob q => Heap.get?_push_of_some _ q) (Nat.le_refl _) ?_, rfl, q _ (I3.hok.fresh (Nat.le_refl _))⟩
  exact ⟨by rw [List.length_reverse]; exact hz, _, 0, Vals.rev r, Heap.get?_push_size _ rfl⟩
end
end My
set_option Elab.async false
set_option linter.all false
set_option maxRecDepth 100000
set_option maxHeartbeats 1000000
namespace My
open PySem PySem.W L2
structure OneF (K : Frag) (mg : Str → Option Value) (D : Addr) (nm fld : Str) (C f : Addr) (fd : FuncData) : Prop where
  cls : ErrC K D nm C f
  mgC : mg nm = some (.ref C)
  ok : ∀ (P : Program) (w : World) (base : Heap), FnOk P w K mg base CX0 1 f fd ["self", fld] (spErr C fld)
  bi : Binds K fd ["self", fld] []
structure Df (P : Program) (w : World) (K : Frag) (mg : Str → Option Value) (base : Heap) (cx : CXT) (k : Nat) (nm : Str) (ps : List Str) (sp : Sp) (g : Addr) (gd : FuncData) : Prop where
  G : FnOk P w K mg base cx k g gd ps sp
  b : Binds K gd ps []
  kp : keepIn K (.ref g) = true
  m : mg nm = some (.ref g)
theorem passN {P : Program} {w : World} {X : Cx} : Passes (CXE P w) X E0 := fun _ _ _ _ _ _ _ h => by
  obtain ⟨_, _, _, _, _, _, _, _, _, _, _, _, _, h⟩ := h
  exact h.elim
def ErrF (C : Addr) (fld : Str) (x : V) (H : Hp) (E : XK) : Prop := ∀ e dx, H e = none → H dx = none → dx ≠ e → E (.ref C) (some e) (upd (upd H dx (.xd [(fld, x)])) e (ErrT e C (some dx)))
theorem inD_int {lo hi : Int} {d : PyData} (h : inD lo hi d = true) : ∃ i, d = .int i ∧ lo ≤ i ∧ i ≤ hi := by
  cases d with
  | int i =>
    have h' : (decide (lo ≤ i) && decide (i ≤ hi)) = true := h
    rw [Bool.and_eq_true, decide_eq_true_iff, decide_eq_true_iff] at h'
    exact ⟨i, rfl, h'.1, h'.2⟩
  | _ => cases h
section
variable {P : Program} {w : World} {K : Frag} {mg : Str → Option Value} {base : Heap}
end
theorem ext_upd {H0 H : Hp} {l : Addr} (o : HO) (x : Ext H0 H) (h : H0 l = none) : Ext H0 (upd H l o) := fun b u e => by
  rw [upd_ne (fun z => by rw [z, h] at e; cases e)]
  exact x b u e
theorem take_all {α : Type} {xs : List α} {i : Nat} {x : α} (h : xs[i]? = some x) : xs.take (i + 1) = xs.take i ++ [x] := by
  rw [List.take_succ, h]
  rfl
def Kept (H H' : Hp) (p : Addr) : Prop := ∀ b o, H b = some o → b ≠ p → H' b = some o
theorem Kept.refl (H : Hp) (p : Addr) : Kept H H p := fun _ _ h _ => h
theorem Kept.trans {H H1 H2 : Hp} {p : Addr} (x : Kept H H1 p) (y : Kept H1 H2 p) : Kept H H2 p := fun b o h n => y b o (x b o h n) n
theorem Ext.kept {H H' : Hp} (x : Ext H H') (p : Addr) : Kept H H' p := fun b o h _ => x b o h
def wo (H : Hp) (p : Addr) : Hp := fun b => if b = p then none else H b
theorem wo_ext (H : Hp) (p : Addr) : Ext (wo H p) H := fun b o e => by
  unfold wo at e
  split at e
  · cases e
  · exact e
theorem wo_at {H : Hp} {p b : Addr} {o : HO} (n : b ≠ p) (e : H b = some o) : wo H p b = some o := by unfold wo; rw [if_neg n]; exact e
theorem wo_kept {H H' : Hp} {p : Addr} (k : Kept H H' p) : Ext (wo H p) (wo H' p) := fun b o e => by
  unfold wo at e
  split at e
  · cases e
  · rename_i n
    exact wo_at n (k b o e n)
structure BoxAt (H : Hp) (p : Addr) : Prop where
  ex : ∃ a b c : Int, H p = some (.lst [.int a, .int b, .int c]) ∧ 0 ≤ a ∧ 0 ≤ b ∧ 0 ≤ c ∧ c < 2147483647
def tCallZ (sp : Sp) (E : XK) (t : TA) : TE := fun σ H Q => t σ H fun vs H1 => H1 sysModules = none → sp vs H1 Q E
section
variable {X : Cx} {CX : CXT} {k : Nat} {f : Addr} {fd : FuncData} {ps : List Str} {sp : Sp} {E : XK} {x : Str} {p pos : Pos} {e : Expr} {es : List Expr} {t : TA} {σ : St}
theorem pe_callZ (hz : X.H₀ sysModules = none) (F : FnOk X.prog X.w X.K X.mg X.base CX k f fd ps sp) (hr : Room k X.A) (hg : Gl X x) (hm : X.mg x = some (.ref f)) (hk : PySem.W.keepIn X.K (.ref f) = true) (hb : Binds X.K fd ps []) (hx : Passes CX X E)
    (ha : PA X (e :: es) t) (hdb : (x == ("__debug__" : Str)) = false := by decide) (he : starEach (e :: es) X.env = (false, eval e X.env) :: starEach es X.env := by rfl) (hpl : (backTo pos (starEach es X.env)).any (·.1) = false := by rfl) :
    PE X (.Call (.Name x p) (e :: es) [] pos) (tCallZ sp E t) := by
  intro pins s σ H Q I h
  refine wpAny_Call_Name_kw (ld_glob I hg hm ?_ hdb)
  refine PySem.W.callWith_K (h₀ := X.base) I.ok.mod.kin hk (thn (ha pos pins s σ H _ I h) fun us s1 ⟨vs, H1, I1, r, q⟩ => ⟨I1.kIn, ?_⟩) he hpl
  exact run_fn (dvs := []) F hr hb .nil hx I1 r (by rw [List.append_nil]; exact q (I1.base.sys hz))
end
structure Fi (k n : Nat) (d : PyData) : Prop where
  sh : d.showable = true
  dp : d.depth ≤ k
  lv : d.leavesShort 64 = true
  bk : d.bulk ≤ n
structure Fis (k n : Nat) (ds : List PyData) : Prop where
  sh : PyData.showableAll ds = true
  dp : PyData.depthAll ds ≤ k
  lv : PyData.leavesShortAll 64 ds = true
  bk : PyData.bulkAll ds ≤ (n + 1) * ds.length
theorem Fi.mono {k k' n n' : Nat} {d : PyData} (f : Fi k n d) (h1 : k ≤ k') (h2 : n ≤ n') : Fi k' n' d := ⟨f.sh, Nat.le_trans f.dp h1, f.lv, Nat.le_trans f.bk h2⟩
theorem Fis.of {k n : Nat} : ∀ {ds : List PyData}, (∀ d ∈ ds, Fi k n d) → Fis k n ds
  | [], _ => ⟨by simp [PyData.showableAll], by simp [PyData.depthAll], by simp [PyData.leavesShortAll], by simp [PyData.bulkAll]⟩
  | d :: ds, h => by
    have f := h d (List.mem_cons_self ..)
    have g := Fis.of (ds := ds) fun x hx => h x (List.mem_cons_of_mem _ hx)
    refine ⟨?_, ?_, ?_, ?_⟩
    · simp only [PyData.showableAll, f.sh, g.sh, Bool.and_self]
    · have h1 := f.dp; have h2 := g.dp
      simp only [PyData.depthAll]; omega
    · simp only [PyData.leavesShortAll, f.lv, g.lv, Bool.and_self]
    · have h1 := f.bk; have h2 := g.bk
      simp only [PyData.bulkAll, List.length_cons, Nat.mul_add]; omega
theorem fi_list {k n m : Nat} {ds : List PyData} (h : ∀ d ∈ ds, Fi k n d) (hl : ds.length ≤ m) : Fi (k + 1) ((n + 1) * m + 1) (.list ds) := by
  have f := Fis.of h
  refine ⟨by simp only [PyData.showable, f.sh], ?_, by simp only [PyData.leavesShort, f.lv], ?_⟩
  · have := f.dp
    simp only [PyData.depth]; omega
  · have := f.bk
    have h2 := Nat.mul_le_mul_left (n + 1) hl
    simp only [PyData.bulk]; omega
theorem fi_tuple {k n m : Nat} {ds : List PyData} (h : ∀ d ∈ ds, Fi k n d) (hl : ds.length ≤ m) : Fi (k + 1) ((n + 1) * m + 1) (.tuple ds) := by
  have f := Fis.of h
  refine ⟨by simp only [PyData.showable, f.sh], ?_, by simp only [PyData.leavesShort, f.lv], ?_⟩
  · have := f.dp
    simp only [PyData.depth]; omega
  · have := f.bk
    have h2 := Nat.mul_le_mul_left (n + 1) hl
    simp only [PyData.bulk]; omega
theorem Fi.show {k n : Nat} {d : PyData} (f : Fi k n d) (hk : k ≤ 10) (hn : n ≤ 200000) : Show d := by
  refine ⟨f.sh, Nat.le_trans f.dp hk, ?_⟩
  have e := PyData.shown_le_bulk 64 (by decide) d f.lv
  have e2 : (64 + 2) * d.bulk ≤ 66 * 200000 := Nat.mul_le_mul_left _ (Nat.le_trans f.bk hn)
  rw [sizeLine_eq]
  omega
theorem fi_int {i : Int} (h : i.natAbs < 10 ^ 30) : Fi 0 2 (.int i) := by
  refine ⟨?_, by simp [PyData.depth], ?_, by simp [PyData.bulk]⟩
  · simp only [PyData.showable, decide_eq_true_eq]
    by_cases z : i.natAbs = 0
    · rw [z]; decide
    · exact (Nat.log2_lt z).mpr (Nat.lt_trans h (by decide +kernel))
  · have e := int_text_length_le10 (k := 30) (by decide) h
    simp only [PyData.leavesShort, PyData.shown]
    refine decide_eq_true (show (Str.ofString (toString i)).length ≤ 64 from ?_)
    rw [ofString_length]
    omega
theorem fi_none : Fi 0 2 .none := ⟨rfl, by simp [PyData.depth], rfl, by simp [PyData.bulk]⟩
theorem fi_bool {b : Bool} : Fi 0 2 (.bool b) := by cases b <;> exact ⟨rfl, by simp [PyData.depth], rfl, by simp [PyData.bulk]⟩
theorem fi_small {i : Int} (h1 : -1000000000 ≤ i) (h2 : i ≤ 1000000000) : Fi 0 2 (.int i) := fi_int (Nat.lt_of_le_of_lt (show i.natAbs ≤ 1000000000 by omega) (by decide))
section
variable {X : Cx} {σ : St} {e : Expr} {es : List Expr} {t : TA} {p pos : Pos} {x : Str} {r : List V → Hp → VK → Prop}
theorem px_callB {id : String} (hc : CallR X (.builtin id) r) (hg : Gl X x) (hm : X.mg x = none) (hv : bootBuiltins x = some (.builtin id)) (ha : PXA X σ (e :: es) t) (hn : x ≠ "__name__" := by decide) (hdb : (x == ("__debug__" : Str)) = false := by decide)
    (he : starEach (e :: es) X.env = (false, eval e X.env) :: starEach es X.env := by rfl) (hpl : (backTo pos (starEach es X.env)).any (·.1) = false := by rfl) : PX X σ (.Call (.Name x p) (e :: es) [] pos) (tCB r t) := by
  intro pins s H Q I h
  refine wpAny_Call_Name_kw (ld_blt I hg hm hv ?_ hn hdb)
  exact PyProof.Rows.callWith_builtin1 (thn (ha pos pins s H _ I h) fun us s1 ⟨vs, H1, I1, r1, q1⟩ => hc pins s1 σ H1 vs us Q I1 r1 q1) he hpl
end
structure FldOk (K : Frag) (C : Addr) (fld : Str) : Prop where
  it : ErrI K C
  hd : hasDictIn K C = true
  nf : findIn K (.ref C) fld = some none
section
variable {K : Frag} {H : Hp} {D : Ends} {σ : St} {p : Addr}
theorem rd_op {r : R2} {ta tb : TE} {Q : VK} (h : ta σ H fun x H1 => tb σ H1 fun y H2 => r x y H2 Q) : tOp r ta tb σ H Q := h
theorem kept_up {H' : Hp} {l : Addr} {o : HO} (k : Kept H H' p) (n : H l = none) : Kept H (upd H' l o) p := fun b u h nb => by
  rw [upd_ne (fun e => by rw [e, n] at h; cases h)]
  exact k b u h nb
theorem rd_set {te : TE} {i : Nat} {u : TS} (h : te σ H fun v H1 => u D (σ.set i (some v)) H1) : tSeq (tAsg te (gName i)) u D σ H := h
end
section
variable {G G' : Hp} {xs ys : List V} {n m : Nat}
end
theorem fr_ne {H : Hp} {a t : Addr} {u : HO} (h : H t = some u) (e : H a = none) : a ≠ t := fun z => by rw [z, h] at e; cases e
theorem wo_ne {H : Hp} {p a : Addr} {o : HO} (h : wo H p a = some o) : a ≠ p := fun e => by
  unfold wo at h
  rw [if_pos e] at h
  cases h
theorem wo_ex {H H' : Hp} (x : Ext H H') (p : Addr) : Ext (wo H p) (wo H' p) := wo_kept (x.kept p)
theorem at_to {α : Type} {xs : List α} {i : Int} (h0 : 0 ≤ i) (h : i.toNat < xs.length) : atI xs i = some xs[i.toNat] := by
  have e := atI_nat (List.getElem?_eq_getElem h)
  rwa [show ((i.toNat : Nat) : Int) = i by omega] at e
structure GE (p : Addr) (k m : Nat) (te : TE) : Prop where
  h : ∀ (σ : St) (H : Hp) (Q : VK), BoxAt H p → (∀ v H', Ext H H' → (∃ d, Rds (wo H' p) v d ∧ Fi k m d) → Q v H') → te σ H Q
section
variable {p : Addr} {k m k' m' n : Nat} {te ta tb : TE} {t : TA}
theorem ge_leaf {v : V} {d : PyData} (r : ∀ G, Rds G v d) (f : Fi k m d) : GE p k m (tC v) := ⟨fun σ H Q bx q => q v H (Ext.refl _) ⟨d, r _, f⟩⟩
theorem ge_int {i : Int} (h1 : -1000000000 ≤ i) (h2 : i ≤ 1000000000) : GE p 0 2 (tC (.int i)) := ge_leaf (fun _ => .int _) (fi_small h1 h2)
end
theorem err_at {C : Addr} {fld : Str} {v : V} {H1 : Hp} {E' : XK} (h : ∀ e dx H', Ext H1 H' → H' e = some (ErrT e C (some dx)) → H' dx = some (.xd [(fld, v)]) → E' (.ref C) (some e) H') : ErrF C fld v H1 E' := fun e dx he hdx ne => by
  have x2 := Ext.new (o := .xd [(fld, v)]) hdx
  have he2 : upd H1 dx (.xd [(fld, v)]) e = none := by rw [upd_ne ne.symm]; exact he
  have x3 := Ext.new (o := ErrT e C (some dx)) he2
  exact h e dx _ (x2.trans x3) upd_same (x3 _ _ upd_same)
section
variable {X : Cx}
end
theorem rd_lst {t : TA} {σ : St} {H : Hp} {Q : VK} (h : t σ H fun xs H1 => xs.length ≤ sizeLine ∧ ∀ p, H1 p = none → Q (.ref p) (upd H1 p (.lst xs))) : tLst t σ H Q := h
structure Pt (G : Hp → Hp) (H : Hp) : Prop where
  mono : ∀ {H1 H2 : Hp}, Ext H1 H2 → Ext (G H1) (G H2)
  new : ∀ {H1 : Hp} {a : Addr} {o : HO}, Ext H H1 → H1 a = none → G (upd H1 a o) a = some o
theorem Pt.ext {G : Hp → Hp} {H H' : Hp} (h : Pt G H) (x : Ext H H') : Pt G H' := ⟨h.mono, fun y => h.new (x.trans y)⟩
theorem pt_wo {H : Hp} {p : Addr} {u : HO} (h : H p = some u) : Pt (fun H => wo H p) H := ⟨fun x => wo_ex x p, fun x e => wo_at (fr_ne (x _ _ h) e) upd_same⟩
section
variable {G : Hp → Hp} {σ : St} {H0 : Hp} {k m k' m' n : Nat} {te ta tb : TE} {t : TA}
end
section
variable {H : Hp}
end
section
variable {K : Frag} {H : Hp}
end
section
variable {H : Hp} {De : Ends}
end
end My
set_option Elab.async false
set_option linter.all false
set_option maxRecDepth 100000
set_option maxHeartbeats 1000000
namespace My
open PySem PySem.W L2
theorem preSum_take (val : Nat → Int) (ns : List Int) (h : ∀ (i : Nat) (hi : i < ns.length), val i = ns[i]) : ∀ k, k ≤ ns.length → preSum val k = (ns.take k).sum
  | 0, _ => by simp [preSum]
  | k + 1, hk => by
    have ih := preSum_take val ns h k (by omega)
    have e : ns.take (k + 1) = ns.take k ++ [ns[k]] := take_all (List.getElem?_eq_getElem (by omega))
    show preSum val k + val k = _
    rw [ih, h k (by omega), e, List.sum_append]
    simp
section
variable {X : Cx}
def rSumL (K : Frag) : List V → Hp → VK → Prop := fun vs H Q => ∃ (l : Addr) (ns : List Int), vs = [.ref l] ∧ SqL K H l (ns.map V.int) ∧ Q (.int ns.sum) H
theorem call_sumL (hc : X.calm = true) : CallR X (.builtin "sum") (rSumL X.K) := by
  intro pins s σ H xs us Q I r h
  obtain ⟨l, ns, rfl, hl, q⟩ := h
  obtain ⟨u, rfl, ru⟩ := vals1 r
  cases (show u = Value.ref l from ru)
  obtain ⟨its, rv, p, hz⟩ := I.list hl
  obtain ⟨xs, rfl, rfl⟩ := ints_items rv
  have e : (xs.map fun p => Value.int p.1 p.2).toArray = intItems xs.toArray := by simp [intItems]
  have hL : s.heap.IsList l (intItems xs.toArray) := by rw [← e]; exact p.isList
  refine sum_intListG (I.ok.hd hc) hL fun h' tk t' hk => ?_
  have es : preSum (numAt xs.toArray) xs.toArray.size = (xs.map (·.1)).sum := by
    have := preSum_take (numAt xs.toArray) (xs.map (·.1)) (fun i hi => numAt_get (by simpa using hi)) xs.toArray.size (by simp)
    rw [this, List.take_of_length_le (by simp)]
  rw [es]
  exact ⟨.int _, H, I.kept hk, ⟨t', rfl⟩, q⟩
end
section
variable {X : Cx}
end
mutual
def eqD : PyData → PyData → Bool
  | .list xs, .list ys => eqDs xs ys
  | .tuple xs, .tuple ys => eqDs xs ys
  | .none, .none => true
  | .bool a, .bool b => a == b
  | .bool a, .int j => (if a then (1 : Int) else 0) == j
  | .int i, .bool b => i == (if b then (1 : Int) else 0)
  | .int i, .int j => i == j
  | .str x, .str y => x == y
  | _, _ => false
def eqDs : List PyData → List PyData → Bool
  | [], [] => true
  | x :: xs, y :: ys => eqD x y && eqDs xs ys
  | _, _ => false
end
mutual
def plainD : PyData → Bool
  | .list xs => plainDs xs
  | .tuple xs => plainDs xs
  | .dict _ => false
  | _ => true
def plainDs : List PyData → Bool
  | [] => true
  | x :: xs => plainD x && plainDs xs
end
mutual
theorem eqD_refl : ∀ {d : PyData}, plainD d = true → eqD d d = true
  | .none, _ => by simp [eqD]
  | .bool b, _ => by simp [eqD]
  | .int i, _ => by simp [eqD]
  | .str x, _ => by simp [eqD]
  | .list xs, h => by simp only [eqD]; exact eqDs_refl (by simpa only [plainD] using h)
  | .tuple xs, h => by simp only [eqD]; exact eqDs_refl (by simpa only [plainD] using h)
  | .dict _, h => by simp [plainD] at h
theorem eqDs_refl : ∀ {ds : List PyData}, plainDs ds = true → eqDs ds ds = true
  | [], _ => by simp [eqDs]
  | d :: ds, h => by
    simp only [plainDs, Bool.and_eq_true] at h
    simp only [eqDs, eqD_refl h.1, eqDs_refl h.2, Bool.and_self]
end
mutual
theorem Rds.det {G : Hp} : ∀ {v : V} {d e : PyData}, Rds G v d → Rds G v e → d = e
  | _, _, _, .non, r => by cases r; rfl
  | _, _, _, .bl b, r => by cases r; rfl
  | _, _, _, .int i, r => by cases r; rfl
  | _, _, _, .str x, r => by cases r; rfl
  | _, _, _, .lst h t, r => by
    cases r with
    | lst h' t' => rw [h] at h'; cases h'; rw [RdsAll.det t t']
    | tup h' _ => rw [h] at h'; cases h'
    | dic0 h' => rw [h] at h'; cases h'
    | dic h' _ => rw [h] at h'; cases h'
  | _, _, _, .tup h t, r => by
    cases r with
    | lst h' _ => rw [h] at h'; cases h'
    | tup h' t' => rw [h] at h'; cases h'; rw [RdsAll.det t t']
    | dic0 h' => rw [h] at h'; cases h'
    | dic h' _ => rw [h] at h'; cases h'
  | _, _, _, .dic0 h, r => by
    cases r with
    | lst h' _ => rw [h] at h'; cases h'
    | tup h' _ => rw [h] at h'; cases h'
    | dic0 h' => rfl
    | dic h' _ => rw [h] at h'; cases h'
  | _, _, _, .dic h t, r => by
    cases r with
    | lst h' _ => rw [h] at h'; cases h'
    | tup h' _ => rw [h] at h'; cases h'
    | dic0 h' => rw [h] at h'; cases h'
    | dic h' t' => rw [h] at h'; cases h'; rw [Rds.det t t']
theorem RdsAll.det {G : Hp} : ∀ {vs : List V} {ds es : List PyData}, RdsAll G vs ds → RdsAll G vs es → ds = es
  | _, _, _, .nil, r => by cases r; rfl
  | _, _, _, .cons h t, r => by
    cases r with
    | cons h' t' => rw [Rds.det h h', RdsAll.det t t']
end
theorem eqDs_all : ∀ (xs ys : List PyData), ((List.range (min xs.length ys.length)).all (fun j => eqD (xs.getD j .none) (ys.getD j .none)) && xs.length == ys.length) = eqDs xs ys
  | [], [] => by simp [eqDs]
  | [], y :: ys => by simp [eqDs]
  | x :: xs, [] => by simp [eqDs]
  | x :: xs, y :: ys => by
    have ih := eqDs_all xs ys
    simp only [eqDs]
    rw [← ih, List.length_cons, List.length_cons, Nat.succ_min_succ, List.range_succ_eq_map, List.all_cons, List.all_map, Bool.and_assoc]
    congr 1
    rw [show (xs.length + 1 == ys.length + 1) = (xs.length == ys.length) from by simp]
    rfl
section
variable {X : Cx}
structure Rc2 (A : Around) (s : Shared) (u v : Value) (b : Bool) : Prop where
  eq : SeqAt.RcAt A s u v b
  ne : SeqAt.RcNeAt A s u v (!b)
structure Rc3 (A : Around) (s : Shared) (u v : Value) (b : Bool) : Prop where
  eq : SeqAt.RcAt A s u v b
  ne : SeqAt.RcNeAt A s u v (!b)
  at_ : SeqAt.EqAt A s u v b
theorem tups_rc {A : Around} {s : Shared} {p q : Addr} {its jts : List Value} (hu : A.units < cLine) (t1 : s.heap.IsTuple p its.toArray) (t2 : s.heap.IsTuple q jts.toArray) (e : Nat → Bool) (he : ∀ j (h1 : j < its.length) (h2 : j < jts.length), SeqAt.EqAt A.in1 s its[j] jts[j] (e j)) :
    Rc2 A s (.ref p) (.ref q) ((List.range (min its.length jts.length)).all e && its.length == jts.length) := by
  have h' : ∀ j (h1 : j < its.toArray.size) (h2 : j < jts.toArray.size), SeqAt.EqAt A.in1 s its.toArray[j] jts.toArray[j] (e j) := fun j h1 h2 => by
    simpa using he j (by simpa using h1) (by simpa using h2)
  have a := SeqAt.RcAt.tuples (e := e) t1 t2 hu h'
  have b := SeqAt.RcNeAt.tuples (e := e) t1 t2 hu h'
  rw [List.size_toArray, List.size_toArray] at a b
  exact ⟨a, b⟩
theorem lsts_rc {A : Around} {s : Shared} {p q : Addr} {its jts : List Value} (hu : A.units < cLine) (t1 : s.heap.IsList p its.toArray) (t2 : s.heap.IsList q jts.toArray) (e : Nat → Bool) (he : ∀ j (h1 : j < its.length) (h2 : j < jts.length), SeqAt.EqAt A.in1 s its[j] jts[j] (e j)) :
    Rc2 A s (.ref p) (.ref q) ((List.range (min its.length jts.length)).all e && its.length == jts.length) := by
  have h' : ∀ j (h1 : j < its.toArray.size) (h2 : j < jts.toArray.size), SeqAt.EqAt A.in1 s its.toArray[j] jts.toArray[j] (e j) := fun j h1 h2 => by
    simpa using he j (by simpa using h1) (by simpa using h2)
  by_cases sz : its.length = jts.length
  · have a := SeqAt.RcAt.lists (e := e) t1 t2 (by simpa using sz) hu h'
    have b := SeqAt.RcNeAt.lists (e := e) t1 t2 (by simpa using sz) hu h'
    rw [List.size_toArray] at a b
    have z : ((List.range (min its.length jts.length)).all e && its.length == jts.length) = (List.range its.length).all e := by
      rw [sz, Nat.min_self]
      simp
    rw [z]
    exact ⟨a, b⟩
  · have z : ((List.range (min its.length jts.length)).all e && its.length == jts.length) = false := by
      rw [show (its.length == jts.length) = false from by simpa using sz]
      simp
    rw [z]
    exact ⟨SeqAt.RcAt.lists_lengths t1 t2 (by simpa using sz) hu, SeqAt.RcNeAt.lists_lengths t1 t2 (by simpa using sz) hu⟩
mutual
theorem eqD_rc {pins : List (Addr × Obj)} {σ : St} {H : Hp} {s : Shared} (I : Inv X pins σ H s) : ∀ {x : V} {d : PyData}, Rds H x d → ∀ {A : Around} {y : V} {e : PyData} {u v : Value}, Rds H y e → plainD d = true → plainD e = true → A.units + d.depth < cLine → RelV x u → RelV y v → Rc3 A s u v (eqD d e)
  | _, _, .non, A, y, e, u, v, ry, pd, pe, hu, ru, rv => by
    have h0 : A.units < cLine := by omega
    cases ru
    cases ry with
    | non => cases rv; simp only [eqD]; exact ⟨.none_none, .none_none, .same _⟩
    | bl b => cases rv; simp only [eqD]; exact ⟨.none_bool _, .none_bool _, .none_bool _⟩
    | int j => obtain ⟨t, rfl⟩ := rv; simp only [eqD]; exact ⟨.none_int _ _, .none_int _ _, .none_int _ _⟩
    | str z => obtain ⟨t, rfl⟩ := rv; simp only [eqD]; exact ⟨.none_str _ _, .none_str _ _, .none_str _ _⟩
    | lst h _ => cases rv; obtain ⟨its, _, t, _⟩ := I.list (SqL.of (K := X.K) h); simp only [eqD]; exact ⟨.none_list t.isList h0, .none_list t.isList h0, .none_list t.isList h0⟩
    | tup h _ => cases rv; obtain ⟨its, _, t, _⟩ := I.tuple (SqT.of (K := X.K) h); simp only [eqD]; exact ⟨.none_tuple t h0, .none_tuple t h0, .none_tuple t h0⟩
    | dic0 _ => simp [plainD] at pe
    | dic _ _ => simp [plainD] at pe
  | _, _, .bl a, A, y, e, u, v, ry, pd, pe, hu, ru, rv => by
    have h0 : A.units < cLine := by omega
    cases ru
    cases ry with
    | non => cases rv; simp only [eqD]; exact ⟨.bool_none _, .bool_none _, .bool_none _⟩
    | bl b => cases rv; simp only [eqD]; exact ⟨.bool_bool _ _, .bool_bool _ _, .bool_bool _ _⟩
    | int j => obtain ⟨t, rfl⟩ := rv; simp only [eqD]; exact ⟨.bool_int _ _ _, .bool_int _ _ _, .bool_int _ _ _⟩
    | str z => obtain ⟨t, rfl⟩ := rv; simp only [eqD]; exact ⟨.bool_str _ _ _, .bool_str _ _ _, .bool_str _ _ _⟩
    | lst h _ => cases rv; obtain ⟨its, _, t, _⟩ := I.list (SqL.of (K := X.K) h); simp only [eqD]; exact ⟨.bool_list _ t.isList h0, .bool_list _ t.isList h0, .bool_list _ t.isList h0⟩
    | tup h _ => cases rv; obtain ⟨its, _, t, _⟩ := I.tuple (SqT.of (K := X.K) h); simp only [eqD]; exact ⟨.bool_tuple _ t h0, .bool_tuple _ t h0, .bool_tuple _ t h0⟩
    | dic0 _ => simp [plainD] at pe
    | dic _ _ => simp [plainD] at pe
  | _, _, .int i, A, y, e, u, v, ry, pd, pe, hu, ru, rv => by
    have h0 : A.units < cLine := by omega
    obtain ⟨tu, rfl⟩ := ru
    cases ry with
    | non => cases rv; simp only [eqD]; exact ⟨.int_none _ _, .int_none _ _, .int_none _ _⟩
    | bl b => cases rv; simp only [eqD]; exact ⟨.int_bool _ _ _, .int_bool _ _ _, .int_bool _ _ _⟩
    | int j => obtain ⟨t, rfl⟩ := rv; simp only [eqD]; exact ⟨.int_int _ _ _ _, .int_int _ _ _ _, .int_int _ _ _ _⟩
    | str z => obtain ⟨t, rfl⟩ := rv; simp only [eqD]; exact ⟨.int_str _ _ _ _, .int_str _ _ _ _, .int_str _ _ _ _⟩
    | lst h _ => cases rv; obtain ⟨its, _, t, _⟩ := I.list (SqL.of (K := X.K) h); simp only [eqD]; exact ⟨.int_list _ _ t.isList h0, .int_list _ _ t.isList h0, .int_list _ _ t.isList h0⟩
    | tup h _ => cases rv; obtain ⟨its, _, t, _⟩ := I.tuple (SqT.of (K := X.K) h); simp only [eqD]; exact ⟨.int_tuple _ _ t h0, .int_tuple _ _ t h0, .int_tuple _ _ t h0⟩
    | dic0 _ => simp [plainD] at pe
    | dic _ _ => simp [plainD] at pe
  | _, _, .str x, A, y, e, u, v, ry, pd, pe, hu, ru, rv => by
    have h0 : A.units < cLine := by omega
    obtain ⟨tu, rfl⟩ := ru
    cases ry with
    | non => cases rv; simp only [eqD]; exact ⟨.str_none _ _, .str_none _ _, .str_none _ _⟩
    | bl b => cases rv; simp only [eqD]; exact ⟨.str_bool _ _ _, .str_bool _ _ _, .str_bool _ _ _⟩
    | int j => obtain ⟨t, rfl⟩ := rv; simp only [eqD]; exact ⟨.str_int _ _ _ _, .str_int _ _ _ _, .str_int _ _ _ _⟩
    | str z => obtain ⟨t, rfl⟩ := rv; simp only [eqD]; exact ⟨.str_str _ _ _ _, .str_str _ _ _ _, .str_str _ _ _ _⟩
    | lst h _ => cases rv; obtain ⟨its, _, t, _⟩ := I.list (SqL.of (K := X.K) h); simp only [eqD]; exact ⟨.str_list _ _ t.isList h0, .str_list _ _ t.isList h0, .str_list _ _ t.isList h0⟩
    | tup h _ => cases rv; obtain ⟨its, _, t, _⟩ := I.tuple (SqT.of (K := X.K) h); simp only [eqD]; exact ⟨.str_tuple _ _ t h0, .str_tuple _ _ t h0, .str_tuple _ _ t h0⟩
    | dic0 _ => simp [plainD] at pe
    | dic _ _ => simp [plainD] at pe
  | _, _, .lst (a := a') (xs := xs) (ds := ds) h rs, A, y, e, u, v, ry, pd, pe, hu, ru, rv => by
    have h0 : A.units < cLine := by omega
    cases ru
    obtain ⟨its, r1, t1, _⟩ := I.list (SqL.of (K := X.K) h)
    cases ry with
    | non => cases rv; simp only [eqD]; exact ⟨.list_none t1.isList h0, .list_none t1.isList h0, .list_none t1.isList h0⟩
    | bl b => cases rv; simp only [eqD]; exact ⟨.list_bool _ t1.isList h0, .list_bool _ t1.isList h0, .list_bool _ t1.isList h0⟩
    | int j => obtain ⟨t, rfl⟩ := rv; simp only [eqD]; exact ⟨.list_int _ _ t1.isList h0, .list_int _ _ t1.isList h0, .list_int _ _ t1.isList h0⟩
    | str z => obtain ⟨t, rfl⟩ := rv; simp only [eqD]; exact ⟨.list_str _ _ t1.isList h0, .list_str _ _ t1.isList h0, .list_str _ _ t1.isList h0⟩
    | @lst b' ys es h' ts =>
      cases rv
      obtain ⟨jts, r2, t2, _⟩ := I.list (SqL.of (K := X.K) h')
      have pds : plainDs ds = true := by simpa only [plainD] using pd
      have pes : plainDs es = true := by simpa only [plainD] using pe
      have dd : A.in1.units + PyData.depthAll ds < cLine := by rw [in1_units]; simp only [PyData.depth] at hu; omega
      have k := lsts_rc h0 t1.isList t2.isList (fun j => eqD (ds.getD j .none) (es.getD j .none)) (fun j h1 h2 => eqDs_at I rs ts pds pes dd r1 r2 h1 h2)
      rw [← r1.length, ← r2.length, rs.length, ts.length, eqDs_all] at k
      simp only [eqD]
      refine ⟨k.eq, k.ne, ?_⟩
      by_cases e : a' = b'
      · subst e
        rw [h] at h'
        cases h'
        have := RdsAll.det rs ts
        subst this
        rw [eqDs_refl pds]
        exact SeqAt.EqAt.same _
      · exact .of_refs e k.eq
    | tup h' _ => cases rv; obtain ⟨jts, _, t, _⟩ := I.tuple (SqT.of (K := X.K) h'); simp only [eqD]; exact ⟨.list_tuple t1.isList t h0, .list_tuple t1.isList t h0, .list_tuple t1.isList t h0⟩
    | dic0 _ => simp [plainD] at pe
    | dic _ _ => simp [plainD] at pe
  | _, _, .tup (a := a') (xs := xs) (ds := ds) h rs, A, y, e, u, v, ry, pd, pe, hu, ru, rv => by
    have h0 : A.units < cLine := by omega
    cases ru
    obtain ⟨its, r1, t1, _⟩ := I.tuple (SqT.of (K := X.K) h)
    cases ry with
    | non => cases rv; simp only [eqD]; exact ⟨.tuple_none t1 h0, .tuple_none t1 h0, .tuple_none t1 h0⟩
    | bl b => cases rv; simp only [eqD]; exact ⟨.tuple_bool _ t1 h0, .tuple_bool _ t1 h0, .tuple_bool _ t1 h0⟩
    | int j => obtain ⟨t, rfl⟩ := rv; simp only [eqD]; exact ⟨.tuple_int _ _ t1 h0, .tuple_int _ _ t1 h0, .tuple_int _ _ t1 h0⟩
    | str z => obtain ⟨t, rfl⟩ := rv; simp only [eqD]; exact ⟨.tuple_str _ _ t1 h0, .tuple_str _ _ t1 h0, .tuple_str _ _ t1 h0⟩
    | @tup b' ys es h' ts =>
      cases rv
      obtain ⟨jts, r2, t2, _⟩ := I.tuple (SqT.of (K := X.K) h')
      have pds : plainDs ds = true := by simpa only [plainD] using pd
      have pes : plainDs es = true := by simpa only [plainD] using pe
      have dd : A.in1.units + PyData.depthAll ds < cLine := by rw [in1_units]; simp only [PyData.depth] at hu; omega
      have k := tups_rc h0 t1 t2 (fun j => eqD (ds.getD j .none) (es.getD j .none)) (fun j h1 h2 => eqDs_at I rs ts pds pes dd r1 r2 h1 h2)
      rw [← r1.length, ← r2.length, rs.length, ts.length, eqDs_all] at k
      simp only [eqD]
      refine ⟨k.eq, k.ne, ?_⟩
      by_cases e : a' = b'
      · subst e
        rw [h] at h'
        cases h'
        have := RdsAll.det rs ts
        subst this
        rw [eqDs_refl pds]
        exact SeqAt.EqAt.same _
      · exact .of_refs e k.eq
    | lst h' _ => cases rv; obtain ⟨jts, _, t, _⟩ := I.list (SqL.of (K := X.K) h'); simp only [eqD]; exact ⟨.tuple_list t1 t.isList h0, .tuple_list t1 t.isList h0, .tuple_list t1 t.isList h0⟩
    | dic0 _ => simp [plainD] at pe
    | dic _ _ => simp [plainD] at pe
  | _, _, .dic0 _, _, _, _, _, _, _, pd, _, _, _, _ => by simp [plainD] at pd
  | _, _, .dic _ _, _, _, _, _, _, _, pd, _, _, _, _ => by simp [plainD] at pd
theorem eqDs_at {pins : List (Addr × Obj)} {σ : St} {H : Hp} {s : Shared} (I : Inv X pins σ H s) : ∀ {xs : List V} {ds : List PyData}, RdsAll H xs ds → ∀ {A : Around} {ys : List V} {es : List PyData} {its jts : List Value}, RdsAll H ys es → plainDs ds = true → plainDs es = true → A.units + PyData.depthAll ds < cLine → Vals xs its → Vals ys jts →
    ∀ {j : Nat} (h1 : j < its.length) (h2 : j < jts.length), SeqAt.EqAt A s its[j] jts[j] (eqD (ds.getD j .none) (es.getD j .none))
  | _, _, .nil, A, ys, es, its, jts, ts, pd, pe, hu, r1, r2, j, h1, h2 => by cases r1; exact absurd h1 (Nat.not_lt_zero _)
  | _, _, .cons (v := x) (d := d) r rs, A, ys, es, its, jts, ts, pd, pe, hu, r1, r2, j, h1, h2 => by
    cases ts with
    | nil => cases r2; exact absurd h2 (Nat.not_lt_zero _)
    | cons r' ts =>
      cases r1 with
      | cons q1 r1 =>
        cases r2 with
        | cons q2 r2 =>
          simp only [plainDs, Bool.and_eq_true] at pd pe
          simp only [PyData.depthAll] at hu
          cases j with
          | zero =>
            exact (eqD_rc I r (A := A) r' pd.1 pe.1 (by omega) q1 q2).at_
          | succ j => exact eqDs_at I rs (A := A) ts pd.2 pe.2 (by omega) r1 r2 (by simpa using h1) (by simpa using h2)
end
def rEqD (g : Bool → Bool) : R2 := fun x y H Q => ∃ d e, Rds H x d ∧ Rds H y e ∧ plainD d = true ∧ plainD e = true ∧ d.depth ≤ 20 ∧ Q (.bl (g (eqD d e))) H
theorem op_eqD (hu : X.A.units + 64 < cLine) : OpR X (compareOp .Eq) (rEqD id) := by
  intro pins s σ H x y v u Q I rx ry h
  obtain ⟨d, e, r1, r2, p1, p2, dd, k⟩ := h
  exact (eqD_rc I r1 r2 p1 p2 (by omega) rx ry).eq X.prog X.w X.xe _ ⟨.bl _, H, I, rfl, k⟩
theorem op_neD (hu : X.A.units + 64 < cLine) : OpR X (compareOp .NotEq) (rEqD not) := by
  intro pins s σ H x y v u Q I rx ry h
  obtain ⟨d, e, r1, r2, p1, p2, dd, k⟩ := h
  exact (eqD_rc I r1 r2 p1 p2 (by omega) rx ry).ne X.prog X.w X.xe _ ⟨.bl _, H, I, rfl, k⟩
end
end My
set_option Elab.async false
set_option linter.all false
set_option maxRecDepth 100000
set_option maxHeartbeats 1000000
namespace My
open PySem PySem.W L2
section
variable {X : Cx} {CX : CXT} {k : Nat} {S : Addr → Prop} {ps : List Str} {sp : Addr → Sp} {E : XK} {x m : Str} {p pos apos : Pos} {e o : Expr} {es : List Expr} {ta : TE} {t : TA} {σ : St}
end
end My
set_option Elab.async false
set_option linter.all false
set_option maxRecDepth 100000
set_option maxHeartbeats 1000000
namespace My
open PySem PySem.W L2
section
variable {X : Cx}
end
section
variable {X : Cx} {CX : CXT} {k : Nat} {W : Nat → Addr} {S : Nat → Prop} {ps : List Str} {sp : Nat → Sp} {E : XK} {x : Str} {p pos : Pos} {e : Expr} {es : List Expr} {ta : TE} {t : TA} {σ : St}
end
abbrev TJ := Str → St → Hp → (Str → Hp → Prop) → Prop
section
variable {X : Cx} {e a b : Expr} {es : List Expr} {te : TE} {tj : TJ} {pos : Pos}
end
end My
set_option Elab.async false
set_option linter.all false
set_option maxRecDepth 100000
set_option maxHeartbeats 1000000
namespace My
open PySem PySem.W L2
def oD : Option Nat → PyData
  | some n => .int n
  | none => .none
end My
set_option Elab.async false
set_option linter.all false
set_option maxRecDepth 100000
set_option maxHeartbeats 1000000
namespace My
open PySem PySem.W L2
section
variable {prog : Program} {w : World} {A : Around} {E : Value → Shared → Prop} {s : Shared} {it d : Addr} {i ep : Nat} {es : Array DictEntry} {od : Obj} {ok ov : Value} {e : DictEntry}
theorem nb_none (d : Addr) : ¬ ((Value.ref d == Value.none) = true) := Bool.false_ne_true
theorem own_it : Builtin.Dict_items.ownsTuple "dict_itemiterator" = true := by decide
theorem nxi_item {Q : Option Value → Shared → Prop} (hi : IsItemIter s.heap it d i es.size ep ok ov) (ho : s.heap.get? d = some od) (hdt : od.data = .dict es ep) (he : es[i]? = some e)
    (k : ∀ h', IsItemIterOut h' it d (i + 1) es.size ep e.key e.val s.heap.objs.size → h'.get? s.heap.objs.size = some { cls := .type "tuple", data := .seq #[e.key, e.val] } → (∀ b o, b ≠ it → s.heap.get? b = some o → h'.get? b = some o) → Q (some (.ref s.heap.objs.size)) { s with heap := h' }) : wpAny (model prog w) A (pyNext (.ref it)) Q E s := by
  obtain ⟨hp, gn, dr, tk, os⟩ := s
  have T0 : Shared.TypeIs ⟨hp, gn, dr, tk, os⟩ (.ref it) "dict_itemiterator" := ⟨_, hi, rfl⟩
  have lt : i < es.size := (Array.getElem?_eq_some_iff.mp he).1
  have ltI : it < hp.objs.size := Heap.lt_size hi
  unfold pyNext
  refine wpAny_bind (wpAny_attempt (wpAny_callSpecial?_slot (name := Str.ofString "__next__") T0 PySem.F.slot_dict_itemiterator_next (wpAny_call_entry PySem.F.slot_dict_itemiterator_next T0 PySem.F.entry_dict_itemiterator_next (wpAny_bind (wpAny_pure (wpAny_bind (wpAny_bind (wpAny_bind (wpAny_typeNameOfWhole_itemiter T0 (wpAny_pure (wpAny_bind (wpAny_fieldsOf hi rfl ?_)))))))))  (PySem.F.args_dict_itemiterator_next_1 _))))
  simp only [own_it, if_true]
  show wpAny _ _ (if (Value.ref d == Value.none) = true then _ else _) _ _ _
  rw [if_neg (nb_none d)]
  refine wpAny_bind (wpAny_pure (wpAny_bind (wpAny_dictEntries ho hdt ?_)))
  rw [if_neg (by simp)]
  refine wpAny_bind (wpAny_pure (wpAny_bind (wpAny_dictEpoch ho hdt ?_)))
  rw [if_neg (by simp)]
  refine wpAny_pure ?_
  simp only [show ¬ ((i : Int) < 0) from by omega, if_false, Int.toNat_natCast, he]
  refine wpAny_bind (wpAny_bind (wpAny_typeNameOfWhole_itemiter T0 (wpAny_pure (wpAny_bind (wpAny_isOneOf_itemiter T0 ?_)))))
  show wpAny _ _ (setField (.ref it) 3 (rawInt ((i : Int) + 1)) >>= _) _ _ ⟨hp, gn, dr, tk, os⟩
  refine wpAny_bind (wpAny_setField_rec hi (by simp) fun h1 e1 sb1 => ?_)
  replace sb1 : Heap.SameBut it hp h1 := sb1
  replace e1 : IsItemIter h1 it d (i + 1) es.size ep ok ov := by
    have q : ((i + 1 : Nat) : Int) = (i : Int) + 1 := by omega
    unfold IsItemIter; rw [q]; simpa [rawInt] using e1
  have T1 : Shared.TypeIs ⟨h1, gn, dr, tk, os⟩ (.ref it) "dict_itemiterator" := ⟨_, e1, rfl⟩
  refine wpAny_bind (wpAny_holding (wpAny_bind (wpAny_isOneOf_itemiter T1 (wpAny_bind (wpAny_isOneOf_itemiter T1 ?_)))))
  show wpAny _ _ (Builtin.Dict_items.pairFromOwner (.ref it) 6 e.key e.val) _ _ ⟨h1, gn, dr, tk, os⟩
  unfold Builtin.Dict_items.pairFromOwner
  refine wpAny_bind (wpAny_newTuple ?_)
  have z1 : h1.objs.size = hp.objs.size := sb1.1
  have e2 : IsItemIter (h1.push { cls := .type "tuple", data := .seq #[e.key, e.val] }) it d (i + 1) es.size ep ok ov := Heap.get?_push_of_some _ e1
  have t2 : (h1.push { cls := .type "tuple", data := .seq #[e.key, e.val] }).get? hp.objs.size = some { cls := .type "tuple", data := .seq #[e.key, e.val] } := by rw [← z1]; exact Heap.get?_push_size _ rfl
  have k2 : ∀ b o, b ≠ it → hp.get? b = some o → (h1.push { cls := .type "tuple", data := .seq #[e.key, e.val] }).get? b = some o := fun b o hb q => Heap.get?_push_of_some _ (sb1.extBut b o hb q)
  show wpAny _ _ (Builtin.Dict_items.ownedTupleIsFree (.ref it) >>= _) _ _ ⟨h1.push { cls := .type "tuple", data := .seq #[e.key, e.val] }, gn, dr, tk, os⟩
  rw [z1]
  generalize h1.push { cls := .type "tuple", data := .seq #[e.key, e.val] } = h2 at e2 t2 k2 ⊢
  unfold Builtin.Dict_items.ownedTupleIsFree
  refine wpAny_bind (wpAny_bind (wpAny_field e2 rfl (x := .none) rfl (wpAny_pure ?_)))
  simp only [if_true]
  refine wpAny_bind (wpAny_field e2 rfl (x := ok) rfl (wpAny_bind (wpAny_field e2 rfl (x := ov) rfl (wpAny_bind (wpAny_setField_rec e2 (by simp) fun h3 e3 s3 => ?_)))))
  replace s3 : Heap.SameBut it h2 h3 := s3
  replace e3 : IsItemIter h3 it d (i + 1) es.size ep e.key ov := e3
  refine wpAny_bind (wpAny_setField_rec e3 (by simp) fun h4 e4 s4 => ?_)
  replace s4 : Heap.SameBut it h3 h4 := s4
  replace e4 : IsItemIter h4 it d (i + 1) es.size ep e.key e.val := e4
  refine wpAny_bind (wpAny_setField_rec e4 (by simp) fun h5 e5 s5 => ?_)
  replace s5 : Heap.SameBut it h4 h5 := s5
  replace e5 : IsItemIterOut h5 it d (i + 1) es.size ep e.key e.val hp.objs.size := e5
  refine wpAny_bind (wpAny_setField_rec e5 (by simp) fun h6 e6 s6 => ?_)
  replace s6 : Heap.SameBut it h5 h6 := s6
  replace e6 : IsItemIterOut h6 it d (i + 1) es.size ep e.key e.val hp.objs.size := e6
  have up : ∀ b o, b ≠ it → h2.get? b = some o → h6.get? b = some o := fun b o hb q => s6.extBut b o hb (s5.extBut b o hb (s4.extBut b o hb (s3.extBut b o hb q)))
  exact wpAny_bind (wpAny_letGo (wpAny_pure (wpAny_pure ⟨_, rfl, wpAny_pure (k h6 e6 (up _ _ (Nat.ne_of_gt ltI) t2) fun b o hb q => up b o hb (k2 b o hb q))⟩)))
theorem nxi_end {Q : Option Value → Shared → Prop} (hh : A.handled = none) (hi : IsItemIter s.heap it d i es.size ep ok ov) (ho : s.heap.get? d = some od) (hdt : od.data = .dict es ep) (he : es.size ≤ i)
    (k : ∀ h', Heap.ExtBut it s.heap h' → Q none { s with heap := h' }) : wpAny (model prog w) A (pyNext (.ref it)) Q E s := by
  have T0 : s.TypeIs (.ref it) "dict_itemiterator" := ⟨_, hi, rfl⟩
  unfold pyNext
  refine wpAny_bind (wpAny_attempt (wpAny_callSpecial?_slot (name := Str.ofString "__next__") T0 PySem.F.slot_dict_itemiterator_next (wpAny_call_entry PySem.F.slot_dict_itemiterator_next T0 PySem.F.entry_dict_itemiterator_next (wpAny_bind (wpAny_pure (wpAny_bind (wpAny_bind (wpAny_bind (wpAny_typeNameOfWhole_itemiter T0 (wpAny_pure (wpAny_bind (wpAny_fieldsOf hi rfl ?_)))))))))  (PySem.F.args_dict_itemiterator_next_1 _))))
  simp only [own_it, if_true]
  show wpAny _ _ (if (Value.ref d == Value.none) = true then _ else _) _ _ _
  rw [if_neg (nb_none d)]
  refine wpAny_bind (wpAny_pure (wpAny_bind (wpAny_dictEntries ho hdt ?_)))
  rw [if_neg (by simp)]
  refine wpAny_bind (wpAny_pure (wpAny_bind (wpAny_dictEpoch ho hdt ?_)))
  rw [if_neg (by simp)]
  refine wpAny_pure ?_
  simp only [show ¬ ((i : Int) < 0) from by omega, if_false, Int.toNat_natCast, Array.getElem?_eq_none he]
  refine wpAny_bind (wpAny_bind (wpAny_typeNameOfWhole_itemiter T0 (wpAny_pure ?_)))
  show wpAny _ _ (setField (.ref it) 2 .none >>= _) _ _ s
  refine wpAny_bind (wpAny_setField hi rfl (by simp) (wpAny_bind ?_))
  simp only [newExc, newTuple]
  refine wpAny_bind (wpAny_newObj_type (wpAny_bind (m := firstArgMember _ _) (wpAny_of_eq (a := Value.none) (by first | rfl | (simp only [firstArgMember]; rfl)) (wpAny_newObj_type ?_ (by size_fits)))) (by size_fits))
  simp only [raiseNew]
  refine wpAny_bind (wpAny_handled ?_)
  rw [show A.in1.handled = none from hh]
  refine wpAny_bind (wpAny_pure (wpAny_throw (wpAny_bind ?_)))
  exact wpAny_isInstance (T := "StopIteration") (b := true) ⟨_, Heap.get?_push_size _ rfl, rfl⟩ isSubtype_stop (wpAny_pure (k _ (((Heap.SameBut.update ..).extBut.push _).push _)))
theorem call_itm {Q : Value → Shared → Prop} (hT : s.TypeIs (.ref d) "dict") (hd : (d == sysModules) = false) (k : Q (.ref s.heap.objs.size) { s with heap := s.heap.push { cls := .type "dict_items", data := .fields #[.ref d] } }) : wpAny (model prog w) A (call (.builtin "dict.items") [.ref d]) Q E s := by
  have m : MeetsIn prog w (Builtin.«dict.items» ⟨[.ref d], []⟩) (fun _ R s => s.TypeIs (.ref d) "dict" ∧ R (.ok (.ret (.ref s.heap.objs.size))) { s with heap := s.heap.push { cls := .type "dict_items", data := .fields #[.ref d] } }) := .of_wp fun A R s ⟨hT, h⟩ => by
    unfold Builtin.«dict.items» Builtin.Dict.noArgs Builtin.Dict.showsAll
    refine wpAny_bind (wpAny_bind (wpAny_notOrdered_dict hT (wpAny_pure ?_)))
    show wpAny _ _ ((if (d == sysModules) = true then _ else _) >>= _) _ _ s
    rw [if_neg (by rw [hd]; exact Bool.false_ne_true)]
    exact wpAny_bind (wpAny_pure (wpAny_bind (wpAny_newObj_type (wpAny_pure ⟨_, rfl, h⟩))))
  exact call_meetsIn PySem.F.slot_dict_items hT PySem.F.entry_dict_items (PySem.F.args_dict_items_1 _) m ⟨hT, k⟩
theorem call_vls {Q : Value → Shared → Prop} (hT : s.TypeIs (.ref d) "dict") (hd : (d == sysModules) = false) (k : Q (.ref s.heap.objs.size) { s with heap := s.heap.push { cls := .type "dict_values", data := .fields #[.ref d] } }) : wpAny (model prog w) A (call (.builtin "dict.values") [.ref d]) Q E s := by
  have m : MeetsIn prog w (Builtin.«dict.values» ⟨[.ref d], []⟩) (fun _ R s => s.TypeIs (.ref d) "dict" ∧ R (.ok (.ret (.ref s.heap.objs.size))) { s with heap := s.heap.push { cls := .type "dict_values", data := .fields #[.ref d] } }) := .of_wp fun A R s ⟨hT, h⟩ => by
    refine wpAny_bind ?_
    unfold Builtin.Dict.noArgs
    refine wpAny_bind (wpAny_notOrdered_dict hT (wpAny_pure ?_))
    show wpAny _ _ (Builtin.Dict.showsAll d >>= _) _ _ s
    unfold Builtin.Dict.showsAll
    show wpAny _ _ ((if (d == sysModules) = true then _ else _) >>= _) _ _ s
    rw [if_neg (by rw [hd]; exact Bool.false_ne_true)]
    exact wpAny_bind (wpAny_pure (wpAny_bind (wpAny_newObj_type (wpAny_pure ⟨_, rfl, h⟩))))
  exact call_meetsIn PySem.F.slot_dict_values hT PySem.F.entry_dict_values (PySem.F.args_dict_values_1 _) m ⟨hT, k⟩
theorem iter_itm {v : Addr} {Q : Value → Shared → Prop} (hv : s.heap.IsItemsView v d) (ho : s.heap.get? d = some od) (hdt : od.data = .dict es ep)
    (k : Q (.ref s.heap.objs.size) { s with heap := s.heap.push { cls := .type "dict_itemiterator", data := .fields #[.none, .bool false, .ref d, .int 0 0, .int es.size 0, .int ep 0, .none, .none] } }) : wpAny (model prog w) A (pyIter (.ref v)) Q E s := by
  obtain ⟨oi, hoi, hci, hdi⟩ := id hv
  refine wpAny_pyIter_slot hv.typeIs PySem.F.slot_dict_items_iter (wpAny_call_entry PySem.F.slot_dict_items_iter hv.typeIs PySem.F.entry_dict_items_iter ?_ (PySem.F.args_dict_items_iter_1 _))
  unfold Builtin.«dict_items.__iter__» Builtin.Dict_items.dictOf Builtin.Dict_items.newIterator
  refine wpAny_bind (wpAny_pure (wpAny_bind (wpAny_bind (wpAny_field hoi hdi (x := .ref d) rfl (wpAny_pure (wpAny_bind (wpAny_bind (wpAny_dictEntries ho hdt (wpAny_bind (wpAny_dictEpoch ho hdt ?_))))))))))
  simp only [own_it, if_true]
  refine wpAny_newObj_type (wpAny_pure ⟨_, rfl, "dict_itemiterator", _, ⟨_, Heap.get?_push_size _ rfl, rfl⟩, PySem.F.slot_dict_itemiterator_next.lookup, ?_⟩) (by simp only [sizeOk, Builtin.Dict_items.ownedTupleFields, List.size_toArray, List.length_append, List.length_cons, List.length_nil, sizeLine_eq]; omega)
  simpa [rawInt, Builtin.Dict_items.ownedTupleFields] using k
end
end My
set_option Elab.async false
set_option linter.all false
set_option maxRecDepth 100000
set_option maxHeartbeats 1000000
namespace My
open PySem PySem.W L2
def Dct : HO → Prop
  | .dK _ => True
  | .dT _ => True
  | _ => False
def lenD : HO → Nat
  | .dK kvs => kvs.length
  | .dT kvs => kvs.length
  | _ => 0
def PrAt (H : Hp) (u : HO) (i : Nat) (kx v : V) : Prop :=
  (∃ kvs k, u = .dK kvs ∧ kvs[i]? = some (k, v) ∧ kx = kV k) ∨ ∃ kvs k b, u = .dT kvs ∧ kvs[i]? = some (k, v) ∧ kx = .ref b ∧ H b = some (.tup (k.map kV))
theorem rel_kV {P : Program} {w : World} {k : Key} {u : Value} (h : (mixKind P w).is k u = true) : RelV (kV k) u := by
  rw [mixKind_is] at h
  rcases keyIs_shape h with ⟨i, t, rfl, rfl⟩ | ⟨x, t, rfl, rfl⟩ | ⟨rfl, rfl⟩
  · exact ⟨t, rfl⟩
  · exact ⟨t, rfl⟩
  · rfl
theorem paired_get {α β : Type} {R : α → β → Prop} : ∀ {xs : List α} {ys : List β}, Paired R xs ys → ∀ {i : Nat} {y : β}, ys[i]? = some y → ∃ x, xs[i]? = some x ∧ R x y
  | _, _, .nil, i, y, h => by simp at h
  | _, _, .cons r _, 0, y, h => by cases h; exact ⟨_, rfl, r⟩
  | _, _, .cons _ t, i + 1, y, h => paired_get t h
theorem raw_of {P : Program} {w : World} {H : Hp} {h : Heap} {d : Addr} {u : HO} (D : Dct u) (o : ObjOk P w H h d u) : ∃ ob es ep, h.get? d = some ob ∧ ob.ExactDict ∧ ob.data = .dict es ep ∧ (d == sysModules) = false ∧ es.size = lenD u ∧ ∀ (i : Nat) e, es[i]? = some e → ∃ kx v, PrAt H u i kx v ∧ RelV kx e.key ∧ RelV v e.val := by
  cases u with
  | dK kvs =>
    obtain ⟨z, hd, vs, rel, ob, es, ep, h1, h2, h3, h4, h5, h6⟩ := o
    refine ⟨ob, es, ep, h1, h2, h3, hd, ?_, fun i e he => ?_⟩
    · have l1 := h5.length
      have l2 : kvs.length = vs.length := Paired.length rel
      show es.size = kvs.length
      rw [l2, ← l1]
      simp
    · have l1 := h5.length
      have lt : i < es.size := (Array.getElem?_eq_some_iff.mp he).1
      have lt' : i < vs.length := by rw [← l1]; simpa using lt
      have hv := List.getElem?_eq_getElem lt'
      obtain ⟨a1, a2⟩ := h5.get? (e := e) (by simpa using he) (show vs[i]? = some (vs[i].1, vs[i].2) from hv)
      obtain ⟨p, hp, r1, r2⟩ := paired_get rel hv
      refine ⟨kV p.1, p.2, .inl ⟨kvs, p.1, rfl, hp, rfl⟩, ?_, ?_⟩
      · rw [r1]; exact rel_kV a1
      · rw [a2]; exact r2
  | dT kvs =>
    obtain ⟨z, hd, xs, rel, ob, es, ep, h1, h2, h3, h4, h5⟩ := o
    refine ⟨ob, es, ep, h1, h2, h3, hd, ?_, fun i e he => ?_⟩
    · have l2 : kvs.length = xs.length := Paired.length rel
      show es.size = kvs.length
      rw [l2, ← Array.length_toList, h4, List.length_map]
    · have he' : es.toList[i]? = some e := by simpa using he
      rw [h4, List.getElem?_map] at he'
      obtain ⟨x, hx, rfl⟩ := Option.map_eq_some_iff.mp he'
      obtain ⟨p, hp, r1, r2, r3⟩ := paired_get rel hx
      exact ⟨.ref x.2.1, p.2, .inr ⟨kvs, p.1, x.2.1, rfl, hp, rfl, r2⟩, rfl, r3⟩
  | _ => exact D.elim
def Fz (H : Hp) (d : Addr) (o : Obj) (u : HO) (H' : Hp) : Prop := H' d = some (.frz o u) ∧ ∀ b, b ≠ d → H' b = H b
theorem freeze {X : Cx} {pins : List (Addr × Obj)} {σ : St} {H : Hp} {s : Shared} {d : Addr} {u : HO} (I : Inv X pins σ H s) (D : Dct u) (e : Rd H d u) : ∃ o H', s.heap.get? d = some o ∧ Fz H d o u H' ∧ Inv X pins σ H' s := by
  rcases e with e | ⟨o, e⟩
  · have ok := I.hok d u e
    obtain ⟨ob, es, ep, h1, _⟩ := raw_of D ok
    refine ⟨ob, upd H d (.frz ob u), h1, ⟨upd_same, fun b hb => upd_ne hb⟩, ?_⟩
    have mu : Mut (H d) := by
      rw [e]
      cases u with
      | dK kvs => exact True.intro
      | dT kvs => exact True.intro
      | _ => exact D.elim
    have new : ObjOk X.prog X.w (upd H d (.frz ob u)) s.heap d (.frz ob u) := by
      refine ⟨h1, ?_⟩
      cases u with
      | dK kvs => exact ok
      | dT kvs =>
        obtain ⟨z, hd, xs, rel, r⟩ := ok
        refine ⟨z, hd, xs, KT.keeps rel fun c ys ec => ?_, r⟩
        rw [upd_ne (fun q => by rw [q, e] at ec; cases ec)]
        exact ec
      | _ => exact D.elim
    exact d_write (h' := s.heap) (t' := s.toks) I mu ⟨rfl, fun _ _ => rfl⟩ ⟨ob, h1⟩ new
  · exact ⟨o, H, (show ObjOk X.prog X.w H s.heap d (.frz o u) from I.hok d _ e).1, ⟨e, fun _ _ => rfl⟩, I⟩
def Iti (d : Addr) (o : Obj) (u : HO) : It :=
  ⟨fun i H => H d = some (.frz o u) ∧ i < lenD u, fun i H x H' => ∃ p kx v, x = .ref p ∧ H p = none ∧ PrAt H u i kx v ∧ H' = upd H p (.tup [kx, v]), fun i H => H d = some (.frz o u) ∧ lenD u ≤ i⟩
theorem frz_raw {P : Program} {w : World} {H : Hp} {h : Heap} {d : Addr} {u : HO} {o : Obj} {es : Array DictEntry} {ep : Nat} (D : Dct u) (ok : HOk P w H h) (e : H d = some (.frz o u)) (hd : o.data = .dict es ep) : h.get? d = some o ∧ es.size = lenD u ∧ ∀ (i : Nat) e, es[i]? = some e → ∃ kx v, PrAt H u i kx v ∧ RelV kx e.key ∧ RelV v e.val := by
  obtain ⟨h0, h1⟩ := (show ObjOk P w H h d (.frz o u) from ok d _ e)
  obtain ⟨ob, es', ep', g1, g2, g3, g4, g5, g6⟩ := raw_of D h1
  rw [h0] at g1
  cases g1
  rw [hd] at g3
  cases g3
  exact ⟨h0, g5, g6⟩
theorem turn_itm {P : Program} {w : World} {K : Frag} {elts : List Expr} {x1} {pos : Pos} {d it : Addr} {o : Obj} {u : HO} {es : Array DictEntry} {ep : Nat} (D : Dct u) (hd : o.data = .dict es ep) : Turn P w K (.Tuple elts x1 pos) (Iti d o u) [it] it (fun i h => ∃ ok ov, IsItemIter h it d i es.size ep ok ov) where
  mem := by simp
  obj := fun i h st b hb => by
    obtain ⟨ok, ov, q⟩ := st
    have e : b = it := by simpa using hb
    subst e
    exact ⟨_, q, fun v z => by cases z⟩
  keep := fun i h h' st k => let ⟨ok, ov, q⟩ := st; ⟨ok, ov, k it (by simp) _ q⟩
  item := by
    intro X hP hw hK hc i pins s σ H E I hf st hg
    subst hP hw hK
    obtain ⟨hfz, hlt⟩ := hg
    obtain ⟨ok, ov, hi⟩ := st
    obtain ⟨ho, hsz, rel⟩ := frz_raw D I.hok hfz hd
    obtain ⟨f0, f1, f2, f3, f4, f5⟩ := hf it (by simp)
    have he := Array.getElem?_eq_getElem (show i < es.size by omega)
    obtain ⟨kx, v, pr, rk, rv⟩ := rel i _ he
    generalize es[i]'(by omega) = e at he rk rv
    refine nxi_item hi ho hd he fun h1 hi1 ht1 kk => ⟨_, rfl, wpAny_letOwnedTupleGo_items (s := { s with heap := h1 }) hi1 fun h2 hi2 sb => ?_⟩
    have sb' : Heap.SameBut it h1 h2 := sb
    have ltI : it < s.heap.objs.size := Heap.lt_size hi
    have ne2 : s.heap.objs.size ≠ it := Nat.ne_of_gt ltI
    have ht2 : h2.get? s.heap.objs.size = some { cls := .type "tuple", data := .seq #[e.key, e.val] } := (sb'.2 _ ne2).trans ht1
    let hA : Heap := s.heap.update it fun _ => { cls := .type "dict_itemiterator", dict := none, data := .fields #[.none, .bool false, .ref d, .int ((i + 1 : Nat) : Int) 0, .int es.size 0, .int ep 0, e.key, e.val], slots := #[] }
    have IA : Inv X pins σ H { s with heap := hA, toks := s.toks } := I.turned (fun b ob hb q => by
      show hA.get? b = some ob
      rw [Heap.get?_update_ne _ _ _ _ hb]
      exact q) f0 f1 f3 f4 f5
    have szA : hA.objs.size = s.heap.objs.size := Heap.size_update _ _ _
    refine ⟨.ref s.heap.objs.size, upd H s.heap.objs.size (.tup [kx, v]), ?_, rfl, ⟨_, kx, v, rfl, I.hok.fresh (Nat.le_refl _), pr, rfl⟩, ⟨_, _, hi2⟩, fun b hb => ?_⟩
    · refine IA.laid (t' := s.toks) (fun b ob q => ?_) (Nat.le_of_eq szA) ⟨by show 2 ≤ sizeLine; decide, [e.key, e.val], .cons rk (.cons rv .nil), ⟨_, ht2, rfl, _, rfl⟩⟩
      have q' : hA.get? b = some ob := q
      by_cases z1 : b = it
      · subst z1
        rw [Heap.get?_update_self _ hi rfl] at q'
        cases q'
        exact hi2
      · rw [Heap.get?_update_ne _ _ _ _ z1] at q'
        exact (sb'.2 b z1).trans (kk b ob z1 q')
    · have e' : b = it := by simpa using hb
      subst e'
      rw [upd_ne (Ne.symm ne2)]
      exact f0
  done := by
    intro X hP hw hK hc i pins s σ H E I hf st hg
    subst hP hw hK
    obtain ⟨hfz, hlt⟩ := hg
    obtain ⟨ok, ov, hi⟩ := st
    obtain ⟨ho, hsz, rel⟩ := frz_raw D I.hok hfz hd
    obtain ⟨f0, f1, f2, f3, f4, f5⟩ := hf it (by simp)
    exact nxi_end (I.ok.hd hc) hi ho hd (by omega) fun h' eb => ⟨rfl, I.turned (t' := s.toks) (fun b ob hb q => eb b ob hb q) f0 f1 f3 f4 f5⟩
  self := fun A i s Q E st k => by
    obtain ⟨ok, ov, hi⟩ := st
    exact kcp_self hi k
section
variable {X : Cx} {o : Expr} {apos cpos : Pos} {tl : TE}
def iItm (tl : TE) : TI := fun σ H R => tl σ H fun x H1 => ∃ d u, x = .ref d ∧ Dct u ∧ Rd H1 d u ∧ ∀ ob H2, Fz H1 d ob u H2 → R (Iti d ob u) H2
theorem dct_is {P : Program} {w : World} {H : Hp} {h : Heap} {d : Addr} {u : HO} (D : Dct u) (ok : HOk P w H h) (e : Rd H d u) : ObjOk P w H h d u := by
  rcases e with e | ⟨o, e⟩
  · exact ok d u e
  · exact (show ObjOk P w H h d (.frz o u) from ok d _ e).2
theorem pi_items {elts : List Expr} {x1} {pt : Pos} (ho : PE X o tl) (hbase : attributeBase o "items" X.env (eval o X.env) = eval o X.env := by rfl) (hline : (apos.endLine == cpos.line) = true := by rfl) : PI X (.Tuple elts x1 pt) (.Call (.Attribute o "items" apos) [] [] cpos) (iItm tl) := by
  intro pins s σ H R I h
  refine wpAny_Call_method0_late hbase hline (thn (ho pins s σ H _ I h) fun v s1 ⟨x, H1, I1, r1, q1⟩ => ?_)
  obtain ⟨d, u, rfl, D, rd, q⟩ := q1
  cases (show v = Value.ref d from r1)
  obtain ⟨ob, es, ep, g1, g2, g3, g4, g5, g6⟩ := raw_of D (dct_is D I1.hok rd)
  have hT : s1.TypeIs (.ref d) "dict" := ⟨ob, g1, g2.1⟩
  refine ⟨"dict", "dict.items", PySem.F.plainAttrs_dict, PySem.F.slot_dict_items, PySem.F.type_dict_items, hT, fun b hb => by cases hb; exact ⟨ob, g1, g2.2.1⟩, Calls.callWith_builtin rfl (PySem.evalArgs_none (call_itm hT g4 ?_))⟩
  obtain ⟨ob', H2, f1, f2, I2⟩ := freeze I1 D rd
  have eo : ob' = ob := by rw [g1] at f1; exact (Option.some.inj f1).symm
  subst eo
  refine iter_itm (s := { s1 with heap := s1.heap.push { cls := .type "dict_items", data := .fields #[.ref d] } }) ⟨_, Heap.get?_push_size _ rfl, rfl, rfl⟩ (Heap.get?_push_of_some _ g1) g3 ?_
  have I3 : Inv X pins σ H2 { s1 with heap := (s1.heap.push { cls := .type "dict_items", data := .fields #[.ref d] }), toks := s1.toks } := I2.kept fun b ob e => Heap.get?_push_of_some _ e
  generalize hh : s1.heap.push { cls := .type "dict_items", data := .fields #[.ref d] } = hB at I3 ⊢
  refine ⟨hB.objs.size, [hB.objs.size], _, _, H2, rfl, I3.kept (t' := s1.toks) fun b ob e => Heap.get?_push_of_some _ e, turn_itm (es := es) (ep := ep) D g3, ⟨.none, .none, ?_⟩, fun b hb => ?_, q _ _ f2⟩
  · exact Heap.get?_push_size _ rfl
  · have e : b = hB.objs.size := by simpa using hb
    subst e
    exact I3.fpOk (Nat.le_refl _) (I3.hok.fresh (Nat.le_refl _))
end
theorem for_itm {d : Addr} {ob : Obj} {u : HO} {g : TG} {tb : TS} {D : Ends} {σ : St} {H : Hp} (Pv : Nat → St → Hp → Prop) (h0 : Pv 0 σ H) (hf : ∀ i σ H, Pv i σ H → H d = some (.frz ob u))
    (hs : ∀ i σ H p kx v, i < lenD u → Pv i σ H → H p = none → PrAt H u i kx v → g (.ref p) σ (upd H p (.tup [kx, v])) fun σ2 H2 => tb { D with nx := Pv (i + 1), ct := Pv (i + 1), bk := D.nx } σ2 H2) (hd : ∀ σ H, Pv (lenD u) σ H → D.nx σ H) :
    ∃ W : Nat → Nat → St → Hp → Prop, (∃ m, W 0 m σ H) ∧ ∀ i m σ H, W i m σ H →
      ((Iti d ob u).stop i H ∧ D.nx σ H) ∨ ((Iti d ob u).go i H ∧ ∃ N : St → Hp → Prop, (∀ σ' H', N σ' H' → ∃ m', m' < m ∧ W (i + 1) m' σ' H') ∧ ∀ x H', (Iti d ob u).yld i H x H' → g x σ H' fun σ2 H2 => tb { D with nx := N, ct := N, bk := D.nx } σ2 H2) := by
  refine ⟨fun i m σ H => m = lenD u - i ∧ i ≤ lenD u ∧ Pv i σ H, ⟨lenD u, by simp, Nat.zero_le _, h0⟩, ?_⟩
  rintro i m σ H ⟨rfl, hi, p⟩
  have q := hf i σ H p
  by_cases hlt : i < lenD u
  · refine .inr ⟨⟨q, hlt⟩, Pv (i + 1), fun σ' H' n => ⟨lenD u - (i + 1), by omega, rfl, hlt, n⟩, ?_⟩
    rintro x H' ⟨p', kx, v, rfl, hp, pr, rfl⟩
    exact hs i σ H p' kx v hlt p hp pr
  · have e : i = lenD u := by omega
    subst e
    exact .inl ⟨⟨q, Nat.le_refl _⟩, hd σ H p⟩
end My
set_option Elab.async false
set_option linter.all false
set_option maxRecDepth 100000
set_option maxHeartbeats 1000000
namespace My
open PySem PySem.W L2
section
variable {prog : Program} {w : World} {A : Around} {E : Value → Shared → Prop} {s : Shared} {it d : Addr} {i ep : Nat} {es : Array DictEntry} {od : Obj} {e : DictEntry}
theorem own_ky : Builtin.Dict_items.ownsTuple "dict_keyiterator" = false := by decide
theorem nxk_item {Q : Option Value → Shared → Prop} (hi : s.heap.IsKeyIter it d i es.size ep) (ho : s.heap.get? d = some od) (hdt : od.data = .dict es ep) (he : es[i]? = some e)
    (k : ∀ h', h'.IsKeyIter it d (i + 1) es.size ep → Heap.SameBut it s.heap h' → Q (some e.key) { s with heap := h' }) : wpAny (model prog w) A (pyNext (.ref it)) Q E s := by
  obtain ⟨oi, hoi, hci, hdi⟩ := id hi
  have T0 := hi.typeIs
  unfold pyNext
  refine wpAny_bind (wpAny_attempt (wpAny_callSpecial?_slot (name := Str.ofString "__next__") T0 PySem.F.slot_dict_keyiterator_next (wpAny_call_entry PySem.F.slot_dict_keyiterator_next T0 PySem.F.entry_dict_keyiterator_next (wpAny_bind (wpAny_pure (wpAny_bind (wpAny_bind (wpAny_bind (wpAny_typeNameOfWhole_keyiter T0 (wpAny_pure (wpAny_bind (wpAny_fieldsOf hoi hdi ?_)))))))))  (PySem.F.args_dict_keyiterator_next_1 _))))
  simp only [own_ky, Bool.false_eq_true, if_false]
  show wpAny _ _ (if (Value.ref d == Value.none) = true then _ else _) _ _ _
  rw [if_neg (nb_none d)]
  refine wpAny_bind (wpAny_pure (wpAny_bind (wpAny_dictEntries ho hdt ?_)))
  rw [if_neg (by simp)]
  refine wpAny_bind (wpAny_pure (wpAny_bind (wpAny_dictEpoch ho hdt ?_)))
  rw [if_neg (by simp)]
  refine wpAny_pure ?_
  simp only [show ¬ ((i : Int) < 0) from by omega, if_false, Int.toNat_natCast, he]
  refine wpAny_bind (wpAny_bind (wpAny_typeNameOfWhole_keyiter T0 (wpAny_pure (wpAny_bind (wpAny_isOneOf_keyiter T0 ?_)))))
  show wpAny _ _ (setField (.ref it) 1 (rawInt ((i : Int) + 1)) >>= _) _ _ s
  have hi' : (s.heap.update it (Obj.mapFields (·.setIfInBounds 1 (rawInt ((i : Int) + 1))))).IsKeyIter it d (i + 1) es.size ep :=
    ⟨_, Heap.get?_update_self _ hoi (Obj.isFreed_of_fields (Obj.data_mapFields hdi _)), (Obj.cls_mapFields ..).trans hci, by rw [Obj.data_mapFields hdi]; simp [rawInt]⟩
  have T1 : Shared.TypeIs { s with heap := s.heap.update it (Obj.mapFields (·.setIfInBounds 1 (rawInt ((i : Int) + 1)))) } (.ref it) "dict_keyiterator" := Heap.IsKeyIter.typeIs (s := { s with heap := s.heap.update it (Obj.mapFields (·.setIfInBounds 1 (rawInt ((i : Int) + 1)))) }) hi'
  refine wpAny_bind (wpAny_setField hoi hdi (by simp) (wpAny_bind (wpAny_holding (wpAny_bind (wpAny_isOneOf_keyiter T1 ?_)))))
  show wpAny _ _ (pure e.key) _ _ _
  exact wpAny_pure (wpAny_pure ⟨_, rfl, wpAny_pure (k _ hi' (Heap.SameBut.update ..))⟩)
theorem nxk_end {Q : Option Value → Shared → Prop} (hh : A.handled = none) (hi : s.heap.IsKeyIter it d i es.size ep) (ho : s.heap.get? d = some od) (hdt : od.data = .dict es ep) (he : es.size ≤ i)
    (k : ∀ h', Heap.ExtBut it s.heap h' → Q none { s with heap := h' }) : wpAny (model prog w) A (pyNext (.ref it)) Q E s := by
  obtain ⟨oi, hoi, hci, hdi⟩ := id hi
  have T0 := hi.typeIs
  unfold pyNext
  refine wpAny_bind (wpAny_attempt (wpAny_callSpecial?_slot (name := Str.ofString "__next__") T0 PySem.F.slot_dict_keyiterator_next (wpAny_call_entry PySem.F.slot_dict_keyiterator_next T0 PySem.F.entry_dict_keyiterator_next (wpAny_bind (wpAny_pure (wpAny_bind (wpAny_bind (wpAny_bind (wpAny_typeNameOfWhole_keyiter T0 (wpAny_pure (wpAny_bind (wpAny_fieldsOf hoi hdi ?_)))))))))  (PySem.F.args_dict_keyiterator_next_1 _))))
  simp only [own_ky, Bool.false_eq_true, if_false]
  show wpAny _ _ (if (Value.ref d == Value.none) = true then _ else _) _ _ _
  rw [if_neg (nb_none d)]
  refine wpAny_bind (wpAny_pure (wpAny_bind (wpAny_dictEntries ho hdt ?_)))
  rw [if_neg (by simp)]
  refine wpAny_bind (wpAny_pure (wpAny_bind (wpAny_dictEpoch ho hdt ?_)))
  rw [if_neg (by simp)]
  refine wpAny_pure ?_
  simp only [show ¬ ((i : Int) < 0) from by omega, if_false, Int.toNat_natCast, Array.getElem?_eq_none he]
  refine wpAny_bind (wpAny_bind (wpAny_typeNameOfWhole_keyiter T0 (wpAny_pure ?_)))
  show wpAny _ _ (setField (.ref it) 0 .none >>= _) _ _ s
  refine wpAny_bind (wpAny_setField hoi hdi (by simp) (wpAny_bind ?_))
  simp only [newExc, newTuple]
  refine wpAny_bind (wpAny_newObj_type (wpAny_bind (m := firstArgMember _ _) (wpAny_of_eq (a := Value.none) (by first | rfl | (simp only [firstArgMember]; rfl)) (wpAny_newObj_type ?_ (by size_fits)))) (by size_fits))
  simp only [raiseNew]
  refine wpAny_bind (wpAny_handled ?_)
  rw [show A.in1.handled = none from hh]
  refine wpAny_bind (wpAny_pure (wpAny_throw (wpAny_bind ?_)))
  exact wpAny_isInstance (T := "StopIteration") (b := true) ⟨_, Heap.get?_push_size _ rfl, rfl⟩ isSubtype_stop (wpAny_pure (k _ (((Heap.SameBut.update ..).extBut.push _).push _)))
theorem iter_kys {Q : Value → Shared → Prop} (hT : s.TypeIs (.ref d) "dict") (hd : (d == sysModules) = false) (ho : s.heap.get? d = some od) (hdt : od.data = .dict es ep)
    (k : Q (.ref s.heap.objs.size) { s with heap := s.heap.push { cls := .type "dict_keyiterator", data := .fields #[.ref d, .int 0 0, .int es.size 0, .int ep 0] } }) : wpAny (model prog w) A (pyIter (.ref d)) Q E s := by
  refine wpAny_pyIter_slot hT PySem.F.slot_dict_iter (wpAny_call_entry PySem.F.slot_dict_iter hT PySem.F.entry_dict_iter ?_ (PySem.F.args_dict_iter_1 _))
  unfold Builtin.«dict.__iter__» Builtin.Dict.dictSlotNone
  refine wpAny_bind (wpAny_bind (wpAny_notOrdered_dict hT (wpAny_bind ?_)))
  show wpAny _ _ (pure _) _ _ s
  refine wpAny_pure (wpAny_pure ?_)
  show wpAny _ _ (Builtin.Dict.showsAll d >>= _) _ _ s
  unfold Builtin.Dict.showsAll
  show wpAny _ _ ((if (d == sysModules) = true then _ else _) >>= _) _ _ s
  rw [if_neg (by rw [hd]; exact Bool.false_ne_true)]
  refine wpAny_bind (wpAny_pure (wpAny_bind (wpAny_dictEntries ho hdt (wpAny_bind (wpAny_dictEpoch ho hdt ?_)))))
  refine wpAny_bind (wpAny_newObj_type (wpAny_pure ⟨_, rfl, "dict_keyiterator", _, ⟨_, Heap.get?_push_size _ rfl, rfl⟩, PySem.F.slot_dict_keyiterator_next.lookup, ?_⟩))
  simpa [rawInt] using k
end
def Itk (d : Addr) (o : Obj) (u : HO) : It :=
  ⟨fun i H => H d = some (.frz o u) ∧ i < lenD u, fun i H x H' => H' = H ∧ ∃ v, PrAt H u i x v, fun i H => H d = some (.frz o u) ∧ lenD u ≤ i⟩
theorem turn_kys {P : Program} {w : World} {K : Frag} {tg : Expr} {d it : Addr} {o : Obj} {u : HO} {es : Array DictEntry} {ep : Nat} (D : Dct u) (hd : o.data = .dict es ep) : Turn P w K tg (Itk d o u) [it] it (fun i h => h.IsKeyIter it d i es.size ep) where
  mem := by simp
  obj := fun i h st b hb => by
    obtain ⟨oi, q, c, dd⟩ := st
    have e : b = it := by simpa using hb
    subst e
    exact ⟨oi, q, fun v z => by rw [dd] at z; cases z⟩
  keep := fun i h h' st k => by
    obtain ⟨oi, q, c, dd⟩ := st
    exact ⟨oi, k it (by simp) _ q, c, dd⟩
  item := by
    intro X hP hw hK hc i pins s σ H E I hf st hg
    subst hP hw hK
    obtain ⟨hfz, hlt⟩ := hg
    obtain ⟨ho, hsz, rel⟩ := frz_raw D I.hok hfz hd
    obtain ⟨f0, f1, f2, f3, f4, f5⟩ := hf it (by simp)
    have he := Array.getElem?_eq_getElem (show i < es.size by omega)
    obtain ⟨kx, v, pr, rk, rv⟩ := rel i _ he
    refine nxk_item st ho hd he fun h1 hi1 sb => ?_
    have I1 : Inv X pins σ H { s with heap := h1 } := I.turned (t' := s.toks) (fun b ob hb q => (sb.2 b hb).trans q) f0 f1 f3 f4 f5
    obtain ⟨oi, q, c, dd⟩ := id hi1
    exact ⟨_, rfl, go_of (s := { s with heap := h1 }) q c dd (by decide) ⟨kx, H, I1, rk, ⟨rfl, v, pr⟩, hi1, fun b hb => (hf b hb).1⟩⟩
  done := by
    intro X hP hw hK hc i pins s σ H E I hf st hg
    subst hP hw hK
    obtain ⟨hfz, hlt⟩ := hg
    obtain ⟨ho, hsz, rel⟩ := frz_raw D I.hok hfz hd
    obtain ⟨f0, f1, f2, f3, f4, f5⟩ := hf it (by simp)
    exact nxk_end (I.ok.hd hc) st ho hd (by omega) fun h' eb => ⟨rfl, I.turned (t' := s.toks) (fun b ob hb q => eb b ob hb q) f0 f1 f3 f4 f5⟩
  self := fun _ _ _ _ _ st k => wpAny_pyIter_keyiter st k
def iKys (tl : TE) : L2.TI := fun σ H R => tl σ H fun x H1 => ∃ d u, x = .ref d ∧ Dct u ∧ Rd H1 d u ∧ ∀ ob H2, Fz H1 d ob u H2 → R (Itk d ob u) H2
theorem pi_keys {X : Cx} {o tg : Expr} {tl : TE} (ho : PE X o tl) : PI X tg o (iKys tl) := by
  intro pins s σ H R I h
  refine thn (ho pins s σ H _ I h) fun v s1 ⟨x, H1, I1, r1, q1⟩ => ?_
  obtain ⟨d, u, rfl, D, rd, q⟩ := q1
  cases (show v = Value.ref d from r1)
  obtain ⟨ob, es, ep, g1, g2, g3, g4, g5, g6⟩ := raw_of D (dct_is D I1.hok rd)
  have hT : s1.TypeIs (.ref d) "dict" := ⟨ob, g1, g2.1⟩
  obtain ⟨ob', H2, f1, f2, I2⟩ := freeze I1 D rd
  have eo : ob' = ob := by rw [g1] at f1; exact (Option.some.inj f1).symm
  subst eo
  refine iter_kys hT g4 g1 g3 ?_
  refine ⟨s1.heap.objs.size, [s1.heap.objs.size], _, _, H2, rfl, I2.kept (t' := s1.toks) fun b ob e => Heap.get?_push_of_some _ e, turn_kys (es := es) (ep := ep) D g3, ⟨_, Heap.get?_push_size _ rfl, rfl, rfl⟩, fun b hb => ?_, q _ _ f2⟩
  have e : b = s1.heap.objs.size := by simpa using hb
  subst e
  exact I2.fpOk (Nat.le_refl _) (I2.hok.fresh (Nat.le_refl _))
theorem for_kys {d : Addr} {ob : Obj} {u : HO} {g : TG} {tb : TS} {D : Ends} {σ : St} {H : Hp} (Pv : Nat → St → Hp → Prop) (h0 : Pv 0 σ H) (hf : ∀ i σ H, Pv i σ H → H d = some (.frz ob u))
    (hs : ∀ i σ H kx v, i < lenD u → Pv i σ H → PrAt H u i kx v → g kx σ H fun σ2 H2 => tb { D with nx := Pv (i + 1), ct := Pv (i + 1), bk := D.nx } σ2 H2) (hd : ∀ σ H, Pv (lenD u) σ H → D.nx σ H) :
    ∃ W : Nat → Nat → St → Hp → Prop, (∃ m, W 0 m σ H) ∧ ∀ i m σ H, W i m σ H →
      ((Itk d ob u).stop i H ∧ D.nx σ H) ∨ ((Itk d ob u).go i H ∧ ∃ N : St → Hp → Prop, (∀ σ' H', N σ' H' → ∃ m', m' < m ∧ W (i + 1) m' σ' H') ∧ ∀ x H', (Itk d ob u).yld i H x H' → g x σ H' fun σ2 H2 => tb { D with nx := N, ct := N, bk := D.nx } σ2 H2) := by
  refine ⟨fun i m σ H => m = lenD u - i ∧ i ≤ lenD u ∧ Pv i σ H, ⟨lenD u, by simp, Nat.zero_le _, h0⟩, ?_⟩
  rintro i m σ H ⟨rfl, hi, p⟩
  have q := hf i σ H p
  by_cases hlt : i < lenD u
  · refine .inr ⟨⟨q, hlt⟩, Pv (i + 1), fun σ' H' n => ⟨lenD u - (i + 1), by omega, rfl, hlt, n⟩, ?_⟩
    rintro x H' ⟨rfl, v, pr⟩
    exact hs i σ _ x v hlt p pr
  · have e : i = lenD u := by omega
    subst e
    exact .inl ⟨⟨q, Nat.le_refl _⟩, hd σ H p⟩
end My
set_option Elab.async false
set_option linter.all false
set_option maxRecDepth 100000
set_option maxHeartbeats 1000000
namespace My
open PySem PySem.W L2
theorem vals_get : ∀ {xs : List V} {us : List Value}, xs.length = us.length → (∀ (j : Nat) x u, xs[j]? = some x → us[j]? = some u → RelV x u) → Vals xs us
  | [], [], _, _ => .nil
  | x :: xs, u :: us, l, h => .cons (h 0 x u rfl rfl) (vals_get (by simpa using l) fun j x u h1 h2 => h (j + 1) x u (by simpa using h1) (by simpa using h2))
  | [], _ :: _, l, _ => by simp at l
  | _ :: _, [], l, _ => by simp at l
section
variable {X : Cx} {pins : List (Addr × Obj)} {σ : St} {H : Hp} {s : Shared} {d : Addr} {kvs : List (Key × V)}
theorem inv_laidN {a : Addr} {o : HO} {t' : Nat} {h' : Heap} (I : Inv X pins σ H s) (k : ∀ b u, s.heap.get? b = some u → h'.get? b = some u) (hf : ∀ b u, s.heap.get? b = some u → b < a) (hn : H a = none) (new : ObjOk X.prog X.w (upd H a o) h' a o) :
    Inv X pins σ (upd H a o) { s with heap := h', toks := t' } := by
  have hs : sysModules ≠ a := by
    obtain ⟨ob, _, _, ho, _⟩ := I.mod.glob.keeps I.bk
    exact Nat.ne_of_lt (Nat.lt_trans (by decide : sysModules < mainGlobals) (hf _ _ ho))
  refine I.un ⟨fun b u q _ _ _ => k b u q, fun b u q _ _ _ => ⟨u.slots, k b u q⟩, fun b u q n _ => ?_, fun b u q _ => ⟨u, k b u q⟩, fun b xs q => ?_, fun b u xs q => ?_, fun b ps q => ⟨#[], ?_⟩, fun q => ?_⟩ fun b u e => ?_
  · rw [upd_ne (Nat.ne_of_lt (hf b u q))]; exact n
  · rw [upd_ne (ne_of_none q hn)]; exact q
  · rw [upd_ne (ne_of_none q hn)]; exact q
  · rw [upd_ne (ne_of_none q hn), q]; simp
  · rw [upd_ne hs]; exact q
  · by_cases hb : b = a
    · subst hb; rw [upd_same] at e; cases e; exact new
    · rw [upd_ne hb] at e
      exact (I.hok b u e).stay (fun c v _ q => k c v q) (fun c q => by rw [upd_ne (ne_of_none q hn)]; exact q) fun c xs q => by rw [upd_ne (ne_of_none q hn)]; exact q
theorem hok_noN {h' : Heap} (I : Inv X pins σ H s) (k : ∀ b u, s.heap.get? b = some u → h'.get? b = some u) : H h'.objs.size = none := by
  cases e : H h'.objs.size with
  | none => rfl
  | some o =>
    exact absurd ((I.hok.kept k).lt e) (Nat.lt_irrefl _)
theorem dk_at (I : Inv X pins σ H s) (e : Rd H d (.dK kvs)) : kvs.length ≤ sizeLine ∧ (d == sysModules) = false ∧ ∃ vs ep, KV kvs vs ∧ Heap.DictAt (mixKind X.prog X.w) s.heap d vs ep := by
  obtain ⟨z, hd, vs, rel, o⟩ := dk_rd I.hok e
  obtain ⟨ep, at'⟩ := o.dictAt
  exact ⟨z, hd, vs, ep, rel, at'⟩
theorem kv_keys {vs : List (Key × Value)} {acc : Array Value} (rel : KV kvs vs) (it : ItemsOf (fun i v => ∃ k x, vs[i]? = some (k, x) ∧ (mixKind X.prog X.w).is k v = true) acc vs.length) : Vals (kvs.map fun p => kV p.1) acc.toList := by
  have l : kvs.length = vs.length := Paired.length rel
  refine vals_get (by rw [List.length_map, l, ← it.1, Array.length_toList]) fun j x u h1 h2 => ?_
  obtain ⟨k, y, hk, is⟩ := it.2 j u (by simpa using h2)
  obtain ⟨p, hp, r1, _⟩ := paired_get rel hk
  rw [List.getElem?_map, hp] at h1
  cases h1
  show RelV (kV p.1) u
  rw [show p.1 = k from r1]
  exact rel_kV is
def rListD : List V → Hp → VK → Prop := fun xs H Q => ∃ (d : Addr) (kvs : List (Key × V)), xs = [.ref d] ∧ Rd H d (.dK kvs) ∧ ∀ l, H l = none → Q (.ref l) (upd H l (.lst (kvs.map fun p => kV p.1)))
theorem call_listD (hc : X.calm = true) : CallR X (.type "list") rListD := by
  intro pins s σ H xs us Q I r h
  obtain ⟨d, kvs, rfl, e, q⟩ := h
  obtain ⟨u, rfl, rx⟩ := vals1 r
  cases rx
  obtain ⟨z, hd, vs, ep, rel, at'⟩ := dk_at I e
  have l : kvs.length = vs.length := Paired.length rel
  refine kdl_call (kdl_dict hd) (I.ok.hd hc) at' (by omega) fun h' tk acc c kp eo it => ?_
  exact ⟨.ref s.heap.objs.size, _, I.laid (t' := tk) kp (Nat.le_refl _) (show ObjOk X.prog X.w _ h' _ (.lst (kvs.map fun p => kV p.1)) from ⟨by rw [List.length_map]; exact z, acc.toList, c, kv_keys rel it, by simpa using eo⟩), rfl, q _ (I.hok.fresh (Nat.le_refl _))⟩
def rSortD : List V → Hp → VK → Prop := fun xs H Q => ∃ (d : Addr) (kvs : List (Key × V)) (ns : List Int), xs = [.ref d] ∧ Rd H d (.dK kvs) ∧ (kvs.map fun p => kV p.1) = ns.map V.int ∧ ns.length < 64 ∧ ∀ (l : Addr) (ns' : List Int), H l = none → ns'.Perm ns → ns'.Pairwise (· ≤ ·) → Q (.ref l) (upd H l (.lst (ns'.map V.int)))
theorem call_sortD (hc : X.calm = true) : CallR X (.builtin "sorted") rSortD := by
  intro pins s σ H xs us Q I r h
  obtain ⟨d, kvs, ns, rfl, e, ek, hl, q⟩ := h
  obtain ⟨u, rfl, rx⟩ := vals1 r
  cases rx
  obtain ⟨z, hd, vs, ep, rel, at'⟩ := dk_at I e
  have l : kvs.length = vs.length := Paired.length rel
  have lk : kvs.length = ns.length := by have := congrArg List.length ek; rwa [List.length_map, List.length_map] at this
  refine call_function_tree PyProof.Rows.kind_sorted PyProof.Rows.plain_sorted PyProof.Rows.entry_sorted (PyProof.Rows.args_sorted1 _) ?_
  unfold Builtin.sorted
  refine wpAny_bind (wpAny_of_eq (show checkCount "sorted" 1 1 _ = pure () from rfl) (wpAny_bind (kdu_collect (kdl_dict hd) (show (X.A.in1).handled = none from I.ok.hd hc) at' (by omega) fun h' tk acc kp it => ?_)))
  have vk := kv_keys rel it
  rw [ek] at vk
  have ia := intsAre_of vk
  have la : acc.toList.length < 64 := by have := vk.length; rw [List.length_map] at this; omega
  refine wpAny_bind (wpAny_newObj_type (wpAny_bind (wpAny_holding ?_)) (by show acc.toList.length ≤ sizeLine; rw [sizeLine_eq]; omega))
  have hT : h'.objs.size < (h'.push { cls := .type "list", data := .seq acc.toList.toArray }).objs.size := by rw [Heap.size_push]; omega
  have hn := hok_noN I kp
  refine wpAny_call_entry (s := { heap := h'.push { cls := .type "list", data := .seq acc.toList.toArray }, gens := s.gens, drawn := s.drawn, toks := tk, os := s.os }) PyProof.Rows.slot_list_sort ⟨_, Heap.get?_push_size _ rfl, rfl⟩ PyProof.Rows.entry_list_sort (PyProof.Rows.list_sort_tree (Heap.get?_push_size _ rfl) ia la fun out ns' a1 a2 a3 => ?_) (PyProof.Rows.args_list_sort _)
  obtain ⟨c, he⟩ := PyProof.Rows.sortedHeap_at (h := h'.push { cls := .type "list", data := .seq acc.toList.toArray }) (a := h'.objs.size) (vs := acc.toList) (out := out) (Heap.get?_push_size _ rfl)
  refine ⟨.none, rfl, wpAny_pure ⟨.ref h'.objs.size, _, inv_laidN (s := s) (t' := tk) I (fun b o eb => ?_) (fun b o eb => Heap.lt_size (kp b o eb)) hn (show ObjOk X.prog X.w _ _ _ (.lst (ns'.map V.int)) from ⟨?_, out.toList, c, vals_ints a1, by simpa using he⟩), rfl, q _ ns' hn a2 a3⟩⟩
  · have eb' := kp b o eb
    have lt := Heap.lt_size eb'
    rw [PyProof.Rows.sortedHeap_old (Nat.ne_of_lt lt) (Nat.lt_trans lt hT)]
    exact Heap.get?_push_of_some _ eb'
  · rw [List.length_map, a2.length_eq, sizeLine_eq]
    omega
def VwO (p d : Addr) : HO := .ext fun h => h.IsValuesView p d
def rValues : V → List V → Hp → VK → Prop := fun x vs H Q => ∃ (d : Addr) (kvs : List (Key × V)), x = .ref d ∧ vs = [] ∧ Rd H d (.dK kvs) ∧ ∀ p, H p = none → Q (.ref p) (upd H p (VwO p d))
theorem mt_values : MtR X "dict.values" rValues := by
  intro pins s σ H x vs v us Q I rx rv h
  obtain ⟨d, kvs, rfl, rfl, e, q⟩ := h
  cases rx
  cases rv
  obtain ⟨z, hd, vs, ep, rel, at'⟩ := dk_at I e
  obtain ⟨o, es, ho, hx, _⟩ := id at'
  refine call_vls ⟨o, ho, hx.1⟩ hd ?_
  exact ⟨.ref s.heap.objs.size, _, I.laid (t' := s.toks) (fun b o e => Heap.get?_push_of_some _ e) (Nat.le_refl _) (show ObjOk X.prog X.w _ _ _ (VwO _ d) from ⟨⟨_, Heap.get?_push_size _ rfl, rfl, rfl⟩, ⟨_, Heap.get?_push_size _ rfl⟩, fun h1 h2 p k => by
    obtain ⟨o, e, r⟩ := p
    exact ⟨o, k _ e, r⟩⟩), rfl, q _ (I.hok.fresh (Nat.le_refl _))⟩
theorem pre_sum : ∀ ns : List Int, preSum (fun i => ns.getD i 0) ns.length = ns.sum
  | [] => rfl
  | n :: ns => by
    show preSum (fun i => (n :: ns).getD i 0) (ns.length + 1) = _
    rw [kdu_shift, List.sum_cons, ← pre_sum ns]
    rfl
def rSumV : List V → Hp → VK → Prop := fun xs H Q => ∃ (p d : Addr) (kvs : List (Key × V)) (ns : List Int), xs = [.ref p] ∧ H p = some (VwO p d) ∧ Rd H d (.dK kvs) ∧ (kvs.map (·.2)) = ns.map V.int ∧ Q (.int ns.sum) H
theorem call_sumV (hc : X.calm = true) : CallR X (.builtin "sum") rSumV := by
  intro pins s σ H xs us Q I r h
  obtain ⟨p, d, kvs, ns, rfl, hp, e, en, q⟩ := h
  obtain ⟨u, rfl, rx⟩ := vals1 r
  cases rx
  obtain ⟨z, hd, vs, ep, rel, at'⟩ := dk_at I e
  have l : kvs.length = vs.length := Paired.length rel
  have hv : s.heap.IsValuesView p d := (I.hok p _ hp).1
  obtain ⟨oI, St, it, W, st⟩ := (kdl_values (knd := mixKind X.prog X.w) (d := d) (r := p) (kvs := vs) (ep := ep)).iter X.A.in1 s (show (X.A.in1).handled = none from I.ok.hd hc) ⟨hv, at'⟩
  refine call_sum_walkG (it _ _ ?_)
  have val : ∀ i v, (∃ k, vs[i]? = some (k, v)) → ∃ t, v = Value.int (ns.getD i 0) t := fun i v ⟨k, hk⟩ => by
    obtain ⟨q', hq, r1, r2⟩ := paired_get rel hk
    have eq : (kvs.map (·.2))[i]? = some q'.2 := by rw [List.getElem?_map, hq]; rfl
    rw [en, List.getElem?_map] at eq
    cases e : ns[i]? with
    | none => rw [e] at eq; cases eq
    | some n =>
      rw [e] at eq
      have eq : V.int n = q'.2 := Option.some.inj eq
      rw [← eq] at r2
      obtain ⟨t, r2⟩ := r2
      refine ⟨t, ?_⟩
      rw [show v = Value.int n t from r2, List.getD_eq_getElem?_getD, e]
      rfl
  refine ⟨_, _, _, _, _, St, fun i => ns.getD i 0, rfl, W, st, ?_, val, fun h' tk t' k => ?_⟩
  · intro b hb
    show b < (s.heap.push oI).objs.size
    rw [Heap.size_push]
    simp only [List.mem_cons, List.not_mem_nil, or_false] at hb
    rcases hb with rfl | rfl
    · exact Nat.lt_succ_self _
    · exact Nat.lt_succ_of_lt at'.lt_size
  · have ln : vs.length = ns.length := by have := congrArg List.length en; rw [List.length_map, List.length_map] at this; omega
    rw [ln, pre_sum]
    exact ⟨.int _, H, I.kept (t' := tk) fun b o eb => k b o (fun z => by rw [List.mem_singleton.mp z] at eb; exact absurd (Heap.lt_size eb) (Nat.lt_irrefl _)) (Heap.get?_push_of_some _ eb), ⟨_, rfl⟩, q⟩
end
end My
set_option Elab.async false
set_option linter.all false
set_option maxRecDepth 100000
set_option maxHeartbeats 4000000
namespace My
open PySem L2
section
variable {prog : Program} {w : World} {A : Around} {R : Result → Shared → Prop} {s : Shared}
theorem compLoopTD {kx vx target iter : Expr} {scope : Scope} {pos : Pos} {it : Value} {D : Addr} {env : Env} (J : Nat → Shared → Prop)
    (turn : ∀ n s, J n s → wpAny (model prog w) A (pyNext it) (fun r s₁ => match r with
      | none => R (.ok .next) s₁
      | some v => wpAny (model prog w) A (letOwnedTupleGo target it v) (fun _ s₂ => wpAny (model prog w) A (assign target env v) (fun _ s₃ => wpAny (model prog w) A (eval kx env)
          (fun kv s₄ => wpAny (model prog w) A (eval vx env) (fun vv s₅ => wpAny (model prog w) A (dictSet D kv vv) (fun _ s₆ => ∃ m, m < n ∧ J m s₆) (fun _ _ => False) s₅) (fun _ _ => False) s₄) (fun _ _ => False) s₃) (fun _ _ => False) s₂) (fun _ _ => False) s₁) (fun _ _ => False) s)
    (n : Nat) (h : J n s) : codeAny (model prog w) A (.compLoop (.DictComp kx vx [⟨target, iter, [], 0⟩] scope pos) 0 it (.ref D) env) R s := by
  refine codeAny_loop rfl J (fun n s hJ => ?_) n h
  show wpAny _ _ (Sem.onRaise (compTurn (.DictComp kx vx [⟨target, iter, [], 0⟩] scope pos) 0 it (.ref D) env) (fun x => do noteFrame x env; theTreesLotGoes x)) _ _ s
  refine wpAny_noted ?_
  rw [compTurn_dict]
  refine wpAny_bind (wpAny_standAt (wpAny_bind (wpAny_mono (turn n s hJ) (fun r s₁ h₁ => ?_) fun _ _ z => z.elim)))
  cases r with
  | none => exact wpAny_pure h₁
  | some v =>
    refine wpAny_bind (wpAny_mono h₁ (fun _ s₂ h₂ => ?_) fun _ _ z => z.elim)
    refine wpAny_bind (wpAny_mono h₂ (fun _ s₃ h₃ => ?_) fun _ _ z => z.elim)
    refine wpAny_bind (wpAny_pure ?_)
    exact wpAny_bind (wpAny_bind (wpAny_mono h₃ (fun kv s₄ h₄ => wpAny_bind (wpAny_holding (wpAny_mono h₄ (fun vv s₅ h₅ => wpAny_bind (wpAny_standAt (wpAny_holding (wpAny_mono h₅ (fun _ s₆ h₆ => wpAny_pure ⟨rfl, h₆⟩) fun _ _ z => z.elim)))) fun _ _ z => z.elim))) fun _ _ z => z.elim))
end
section
variable {X : Cx}
theorem dk_set {pins : List (Addr × Obj)} {σ : St} {H : Hp} {s : Shared} {a : Addr} {kvs : List (Key × V)} {k : Key} {v : V} {u r : Value} {A : Around} {E : Value → Shared → Prop} {Q : Unit → Shared → Prop} (I : Inv X pins σ H s) (e : H a = some (.dK kvs)) (l : kvs.length < sizeLine) (ry : RelV (kV k) u) (rv : RelV v r)
    (h : ∀ s', Inv X pins σ (upd H a (.dK (putK kvs k v))) s' → Q () s') : wpAny (model X.prog X.w) A (dictSet a u r) Q E s := by
  obtain ⟨z, hd, vs, rel, dd⟩ := dk_of I.hok e
  refine wpAny_dictSet_pairs (kV_is ry) dd (fun h' dd' hs => h _ ?_) (by rw [← rel.length]; exact z)
  have he : ∃ q, h'.get? a = some q := let ⟨q, _, _, hq, _⟩ := dd'; ⟨q, hq⟩
  exact d_write I (by rw [e]; exact True.intro) hs he (dk_new (by have := length_putK kvs k v; omega) hd (rel.put k rv) dd')
end
def tDCG (wi : TI) (k : Nat) (js : List Nat) (g : TG) (tk tv : TE) : TE := fun σ H Q => wi σ H fun J H1 => ∀ D, H1 D = none → ∃ W : Nat → Nat → List (Key × V) → Hp → Prop, (∃ m, W 0 m [] (upd H1 D (.dK []))) ∧
  ∀ i m ys H2, W i m ys H2 → H2 D = some (.dK ys) ∧ ((J.stop i H2 ∧ Q (.ref D) H2) ∨ (J.go i H2 ∧ ys.length < sizeLine ∧
    ∀ x H3, J.yld i H2 x H3 → ∀ os : St, os.length = k → g x (os ++ capS js σ) H3 fun σ2 H0 => (∃ os' : St, os'.length = k ∧ σ2 = os' ++ capS js σ) ∧ tk σ2 H0 fun y H4 => tv σ2 H4 fun v H5 => ∃ key, y = kV key ∧ H5 D = some (.dK ys) ∧ ∃ m', m' < m ∧ W (i + 1) m' (putK ys key v) (upd H5 D (.dK (putK ys key v)))))
section
variable {X : Cx} {sc : Scope} {cl : List (Str × Addr)} {ts zs : List Str} {js : List Nat} {kx vx iter : Expr} {pos : Pos} {tg : Expr} {g : TG} {wi : TI} {tk tv : TE}
theorem pe_dcG (hc : X.calm = true) (S : CompG X sc cl ts zs js) (hi : PI X tg iter wi) (hg : ∀ s H C fp, PG (compCx X sc cl (ts ++ zs) s H C fp) tg g) (hk : ∀ s H C fp, PE (compCx X sc cl (ts ++ zs) s H C fp) kx tk) (hv : ∀ s H C fp, PE (compCx X sc cl (ts ++ zs) s H C fp) vx tv)
    (hs : ∀ v, foldedSetIterable iter X.env v = pure v := by intro _; rfl) : PE X (.DictComp kx vx [⟨tg, iter, [], 0⟩] sc pos) (tDCG wi ts.length js g tk tv) := by
  intro pins s σ H Q I h
  rw [arm_eval_DictComp]
  refine wpAny_comprehension_free (use := none) rfl hs S.clos S.kind S.names (thn (hi pins s σ H _ I h) fun v s1 h1 => thn h1 fun itv s2 h2 => ?_)
  obtain ⟨it, fp, tn, J, H2, e, I2, T, st2, f2, body⟩ := h2
  subst e
  have fr2 : H2 s2.heap.objs.size = none := I2.fresh
  obtain ⟨W, ⟨m0, w0⟩, turn⟩ := body _ fr2
  refine wpAny_newObj_type ?_
  have I3 : Inv X pins σ (upd H2 s2.heap.objs.size (.dK [])) { s2 with heap := s2.heap.push { cls := .type "dict", data := .dict #[] } } := I2.laid (a := s2.heap.objs.size) (o := .dK []) (t' := s2.toks) (fun _ _ q => Heap.get?_push_of_some _ q) (Nat.le_refl _) (dk_empty s2.heap I2.big)
  refine wpAny_newFunctionEnv S.noCell (by intro y hy; simp at hy) (fun h₁ hn hsb => ?_) S.kind
  generalize hs3 : ({ s2 with heap := s2.heap.push { cls := .type "dict", data := .dict #[] } } : Shared) = s3 at I3 hn hsb ⊢
  have fpl : ∀ b ∈ fp, FpOk X pins (upd H2 s2.heap.objs.size (.dK [])) b ∧ b < s3.heap.objs.size := fun b hb => by
    obtain ⟨o, ho, _⟩ := T.obj _ _ st2 b hb
    have hl := Heap.lt_size ho
    have hne : b ≠ s2.heap.objs.size := Nat.ne_of_lt hl
    obtain ⟨z1, z2⟩ := f2 b hb
    refine ⟨⟨by rw [upd_ne hne]; exact z1, z2⟩, ?_⟩
    rw [← hs3]
    show b < (s2.heap.push _).objs.size
    rw [Heap.size_push]
    exact Nat.lt_succ_of_lt hl
  have old : ∀ b o, s3.heap.get? b = some o → h₁.get? b = some o := fun b o e => hsb.extBut b o (Nat.ne_of_lt (Heap.lt_size e)) (Heap.get?_push_of_some _ e)
  have loop : ∀ sS : Shared, sS.heap = h₁ → sS.os = s3.os → sS.gens = s3.gens → codeAny (model X.prog X.w) X.A (.compLoop (.DictComp kx vx [⟨tg, iter, [], 0⟩] sc pos) 0 (.ref it) (.ref s2.heap.objs.size) (compEnvC sc cl s3.heap.objs.size X.env))
      (compPost (model X.prog X.w) X.A X.xe none (EP X pins σ Q) (.ref s2.heap.objs.size) s3.heap.objs.size) sS := by
    intro sS eh eo eg
    subst eh
    have J0 : Inv (compCx X sc cl (ts ++ zs) s3 (upd H2 s2.heap.objs.size (.dK [])) s3.heap.objs.size fp) [] (List.replicate ts.length none ++ capS js σ) (upd H2 s2.heap.objs.size (.dK [])) sS := compG_start I3 S fpl (Nat.le_refl _) eo eg old hn
    generalize hX : compCx X sc cl (ts ++ zs) s3 (upd H2 s2.heap.objs.size (.dK [])) s3.heap.objs.size fp = X' at J0
    have stat : ∀ {H' : Hp}, (∀ b ∈ fp, H' b = none) → ∀ b ∈ fp, FpOk X' [] H' b := fun {H'} hn b hb => by
      subst hX
      obtain ⟨⟨_, z1, z2, z3, z4, z5⟩, z6⟩ := fpl b hb
      refine ⟨hn b hb, Nat.ne_of_lt z6, fun q => ?_, .inl hb, fun y c e => z4 y c (S.sub _ _ e), fun p hp => absurd (show p ∈ ([] : List (Addr × Obj)) from hp) (by simp)⟩
      rcases List.mem_cons.mp (I3.stkSub b q) with e | e
      · exact z1 e
      · exact z2 e
    have st3 : tn 0 sS.heap := T.keep _ _ _ st2 fun b hb o e => old b o (by rw [← hs3]; exact Heap.get?_push_of_some _ e)
    refine compLoopTD (fun n s' => ∃ i ys os H', os.length = ts.length ∧ Inv X' [] (os ++ capS js σ) H' s' ∧ tn i s'.heap ∧ (∀ b ∈ fp, H' b = none) ∧ W i n ys H') ?_ m0 ⟨0, [], _, _, List.length_replicate, J0, st3, fun b hb => (fpl b hb).1.1, w0⟩
    rintro n s' ⟨i, ys, os, H', los, Iv, st, fr, w⟩
    obtain ⟨hD, alt⟩ := turn i n ys H' w
    have eP : X'.prog = X.prog := by subst hX; rfl
    have eW : X'.w = X.w := by subst hX; rfl
    have eK : X'.K = X.K := by subst hX; rfl
    have eC : X'.calm = true := by subst hX; exact hc
    have eA : X'.A = X.A := by subst hX; rfl
    have eE : X'.env = compEnvC sc cl s3.heap.objs.size X.env := by subst hX; rfl
    have eX : X'.xe = fun _ _ => False := by subst hX; rfl
    rcases alt with ⟨stop, q⟩ | ⟨go, hlen, step⟩
    · have d := T.done X' eP eW eK eC i [] s' _ H' (fun _ _ => False) Iv (stat fr) st stop
      rw [eA] at d
      refine thn d fun r s4 ⟨hr, I4⟩ => ?_
      subst hr
      obtain ⟨m, hm, _⟩ := id I4.loc
      rw [eE] at hm
      subst hX
      exact ⟨m, hm, fun h' hs' => ⟨.ref s2.heap.objs.size, H', compG_end I3 fpl (Nat.le_refl _) I4 hs', rfl, q⟩⟩
    · have d := T.item X' eP eW eK eC i [] s' _ H' (fun _ _ => False) Iv (stat fr) st go
      rw [eA] at d
      refine thn d fun r s4 ⟨u, hr, h4⟩ => ?_
      subst hr
      refine thn h4 fun _ s5 ⟨y, H5, I5, r5, y5, st5, fr5⟩ => ?_
      have I5' := I5.pinned (stat fr5) (T.obj _ _ st5)
      have hg' : PG X' tg g := by subst hX; exact hg _ _ _ _
      have g6 := hg' _ s5 _ H5 y u _ I5' r5 (step y H5 y5 os los)
      rw [eP, eW, eA, eE, eX] at g6
      refine thn g6 fun _ s6 ⟨σ6, H6, I6, ⟨os', los', e6⟩, st6⟩ => ?_
      subst e6
      have hk' : PE X' kx tk := by subst hX; exact hk _ _ _ _
      have g7 := hk' _ s6 _ H6 _ I6 st6
      rw [eP, eW, eA, eE, eX] at g7
      refine thn g7 fun ku s7 ⟨k7, H7, I7, rk7, st7⟩ => ?_
      have hv' : PE X' vx tv := by subst hX; exact hv _ _ _ _
      have g8 := hv' _ s7 _ H7 _ I7 st7
      rw [eP, eW, eA, eE, eX] at g8
      refine thn g8 fun uv s8 ⟨v8, H8', I8', r8, key, ek, hD8, m', hm', w8⟩ => ?_
      subst ek
      have g9 := dk_set (X := X') (A := X'.A) (E := X'.xe) (Q := fun _ s9 => Inv X' _ _ (upd H8' s2.heap.objs.size (.dK (putK ys key v8))) s9) I8' hD8 hlen rk7 r8 fun s9 I9 => I9
      rw [eP, eW, eA, eX] at g9
      refine thn g9 fun _ s9 I8 => ?_
      refine ⟨m', hm', i + 1, putK ys key v8, os', _, los', I8.unpinned, T.keep _ _ _ st5 fun b hb o e => (I8.pin (b, o) (List.mem_append_right _ (List.mem_append_right _ (mem_pinsAt hb e)))).1, fun b hb => ?_, w8⟩
      obtain ⟨o', e', _⟩ := T.obj _ _ st5 b hb
      exact (I8.pin (b, o') (List.mem_append_right _ (List.mem_append_right _ (mem_pinsAt hb e')))).2.1
  have st1 : tn 0 h₁ := T.keep _ _ _ st2 fun b hb o e => old b o (by rw [← hs3]; exact Heap.get?_push_of_some _ e)
  exact codeAny_compStart_dict (loop _ rfl rfl rfl) (T.self _ 0 _ _ _ st1 (loop _ rfl rfl rfl))
end
end My
set_option Elab.async false
set_option linter.all false
set_option maxRecDepth 100000
set_option maxHeartbeats 1000000
namespace My
open PySem PySem.W L2
section
variable {prog : Program} {w : World} {A : Around} {E : Value → Shared → Prop} {s : Shared}
theorem lk_list_keys : typeLookup (.type "list") (Str.ofString "keys") = pure none := by first | rfl | kernel_rfl
theorem ga_miss {a : Addr} {its : Array Value} {n : Nat} {u : Tok} {Q : Fin → Shared → Prop} (hh : A.handled = none) (ho : s.heap.get? a = some { cls := .type "list", data := .seq its n })
    (k : ∀ h' tk e, s.heap.NewAttrErr h' e (.ref a) (Str.ofString "keys") → E (.ref e) { s with heap := h', toks := tk }) : wpAny (model prog w) A (Builtin.«object.__getattribute__» { pos := [.ref a, .str (Str.ofString "keys") u] }) Q E s := by
  have hT : s.TypeIs (.ref a) "list" := ⟨_, ho, rfl⟩
  unfold Builtin.«object.__getattribute__»
  refine wpAny_bind (wpAny_of_eq (show slotArgs "__getattribute__" 1 { pos := [.ref a, .str (Str.ofString "keys") u] } = pure (.ref a, [.str (Str.ofString "keys") u]) from rfl) ?_)
  refine wpAny_bind (wpAny_pure (wpAny_bind (wpAny_typeOf hT ?_)))
  unfold Builtin.ObjectAttr.find
  rw [lk_list_keys]
  refine wpAny_bind (wpAny_bind (wpAny_pure (wpAny_bind (wpAny_pure (wpAny_bind (wpAny_pure ?_))))))
  show wpAny _ _ (Builtin.ObjectAttr.ownThenClass (.ref a) (Str.ofString "keys") none none) _ _ s
  unfold Builtin.ObjectAttr.ownThenClass Builtin.ObjectAttr.inOwnDict
  refine wpAny_bind (wpAny_bind ?_)
  unfold Builtin.ObjectAttr.ownDict
  refine wpAny_bind (wpAny_loadPart ho ?_)
  show wpAny _ _ (instanceDict a false) _ _ s
  unfold instanceDict
  refine wpAny_bind (wpAny_loadPart ho ?_)
  refine wpAny_pure (wpAny_pure ?_)
  refine wpAny_bind ?_
  show wpAny _ _ (pure ()) _ _ s
  refine wpAny_pure (wpAny_bind (wpAny_rule (wpAny_pure ?_)))
  show wpAny _ _ (Builtin.ObjectAttr.noSuchAttribute (.ref a) (Str.ofString "keys")) _ _ s
  unfold Builtin.ObjectAttr.noSuchAttribute typeNameOfCut shownTypeOf
  refine wpAny_bind (wpAny_bind (wpAny_bind (wpAny_typeOf hT (wpAny_pure ?_))))
  refine wpAny_pure ?_
  refine wpAny_raiseAttrError hh (fun h' tk e ne => k h' tk e ne) ?_
  decide +kernel
theorem ty_list_ga : typeOf (.builtin "list.__getattribute__") = pure (.type "wrapper_descriptor") := by first | rfl | kernel_rfl
theorem keys_miss {a : Addr} {its : Array Value} {n : Nat} {Q : Option Value → Shared → Prop} (hh : A.handled = none) (ho : s.heap.get? a = some { cls := .type "list", data := .seq its n })
    (k : ∀ h' tk, (∀ b ob, s.heap.get? b = some ob → h'.get? b = some ob) → Q none { s with heap := h', toks := tk }) : wpAny (model prog w) A (getAttr? (.ref a) (Str.ofString "keys")) Q E s := by
  have hT : s.TypeIs (.ref a) "list" := ⟨_, ho, rfl⟩
  unfold getAttr?
  refine wpAny_bind (wpAny_mkText ?_)
  generalize hs : ({ heap := s.heap, gens := s.gens, drawn := s.drawn, toks := s.toks + 1, os := s.os } : Shared) = s1
  have e1 : s1.heap = s.heap := by rw [← hs]
  have ho1 : s1.heap.get? a = some { cls := .type "list", data := .seq its n } := by rw [e1]; exact ho
  have hT1 : s1.TypeIs (.ref a) "list" := ⟨_, ho1, rfl⟩
  have fin : ∀ h' tk e, s1.heap.NewAttrErr h' e (.ref a) (Str.ofString "keys") → Q none { s1 with heap := h', toks := tk } := fun h' tk e ne => by
    rw [← hs]
    exact k h' tk fun b ob eb => ne.keeps b ob (by rw [e1]; exact eb)
  unfold getAttrBy?
  refine wpAny_bind (wpAny_attempt ?_)
  unfold getAttrBy
  refine wpAny_holding (wpAny_bind (wpAny_typeOf hT1 ?_))
  rw [F.slot_list_getattribute.lookup]
  refine wpAny_bind (wpAny_pure ?_)
  show wpAny _ _ (getAttrByItsOwn (.ref a) (.str (Str.ofString "keys") s.toks) (.type "list") (.builtin "list.__getattribute__") false false) _ _ s1
  unfold getAttrByItsOwn
  refine wpAny_bind (wpAny_pure (wpAny_bind (wpAny_attempt (wpAny_holding ?_))))
  show wpAny _ _ (boundAndCalled (.builtin "list.__getattribute__") (.ref a) (.str (Str.ofString "keys") s.toks)) _ _ s1
  unfold boundAndCalled bindSpecial
  refine wpAny_bind (wpAny_bind (wpAny_of_eq ty_list_ga ?_))
  refine wpAny_ite_true (by decide) (wpAny_pure ?_)
  refine wpAny_call_entry F.slot_list_getattribute hT1 F.entry_list_ga (ga_miss (A := A.in1) hh ho1 fun h' tk e ne => ?_) (F.args_list_getattribute_2 _ _)
  have te : ({ heap := h', gens := s1.gens, drawn := s1.drawn, toks := tk, os := s1.os } : Shared).TypeIs (.ref e) "AttributeError" := by
    obtain ⟨t, u, q⟩ := ne.there
    exact ⟨_, q, rfl⟩
  show wpAny _ _ (getattributeRaised (.ref a) (.str (Str.ofString "keys") s.toks) (.type "list") (.ref e) none false false) _ _ _
  unfold getattributeRaised
  refine wpAny_bind (wpAny_isInstance te sub_AttributeError (wpAny_ite_true (by decide) (wpAny_bind ?_)))
  show wpAny _ _ (typeLookup (.type "list") (Str.ofString "__getattr__")) _ _ _
  rw [F.plainAttrs_list.noGetattr]
  refine wpAny_pure ?_
  show wpAny _ _ (attributeErrorLeaves (.ref a) (.str (Str.ofString "keys") s.toks) (.ref e) false false) _ _ _
  unfold attributeErrorLeaves
  refine wpAny_ite_true (by decide) (wpAny_bind (wpAny_throw ?_))
  exact wpAny_bind (wpAny_isInstance te sub_AttributeError (wpAny_ite_true (by decide) (wpAny_pure (fin h' tk e ne))))
end
theorem dul_entry : entryFor table "dict.update.loop" = some Builtin.«dict.update.loop» := by first | rfl | kernel_rfl
theorem dul_plain : plainId "dict.update.loop" = true := by first | rfl | decide +kernel
section
variable {X : Cx} {pins : List (Addr × Obj)} {σ : St} {H : Hp} {s : Shared}
theorem dk_setB {a : Addr} {kvs : List (Key × V)} {k : Key} {v : V} {u r : Value} {A : Around} {E : Value → Shared → Prop} {Q : Unit → Shared → Prop} (I : Inv X pins σ H s) (e : H a = some (.dK kvs)) (l : kvs.length < sizeLine) (ry : RelV (kV k) u) (rv : RelV v r)
    (h : ∀ h', Heap.SameBut a s.heap h' → Inv X pins σ (upd H a (.dK (putK kvs k v))) { s with heap := h', toks := s.toks + 1 } → Q () { s with heap := h', toks := s.toks + 1 }) : wpAny (model X.prog X.w) A (dictSet a u r) Q E s := by
  obtain ⟨z, hd, vs, rel, dd⟩ := dk_of I.hok e
  refine wpAny_dictSet_pairs (kV_is ry) dd (fun h' dd' hs => h _ hs ?_) (by rw [← rel.length]; exact z)
  have he : ∃ q, h'.get? a = some q := let ⟨q, _, _, hq, _⟩ := dd'; ⟨q, hq⟩
  exact d_write I (by rw [e]; exact True.intro) hs he (dk_new (by have := length_putK kvs k v; omega) hd (rel.put k rv) dd')
def putAll (qs : List (Key × V)) : List (Key × V) := qs.foldl (fun a q => putK a q.1 q.2) []
theorem putAll_snoc (qs : List (Key × V)) (q : Key × V) : putAll (qs ++ [q]) = putK (putAll qs) q.1 q.2 := by
  unfold putAll
  rw [List.foldl_append]
  rfl
theorem putAll_len (qs : List (Key × V)) : (putAll qs).length ≤ qs.length := by
  have : ∀ (qs : List (Key × V)) (a : List (Key × V)), (qs.foldl (fun a q => putK a q.1 q.2) a).length ≤ a.length + qs.length := fun qs => by
    induction qs with
    | nil => intro a; exact Nat.le_refl _
    | cons q qs ih =>
      intro a
      have h1 := ih (putK a q.1 q.2)
      have h2 := length_putK a q.1 q.2
      simp only [List.foldl_cons, List.length_cons]
      omega
  have := this qs []
  simpa [putAll] using this
def PrL (H : Hp) (ys : List V) (qs : List (Key × V)) : Prop := ys.length = qs.length ∧ ∀ (j : Nat) y q, ys[j]? = some y → qs[j]? = some q → ∃ b, y = .ref b ∧ H b = some (.tup [kV q.1, q.2])
theorem up_loop {A : Around} {R : Result → Shared → Prop} {D J p : Addr} {ys : List V} {qs : List (Key × V)} (hh : A.handled = none) (nD : D ≠ J) (nDp : D ≠ p) (nJ : p ≠ J) (pr : PrL H ys qs) (hz : qs.length ≤ sizeLine) (hp : H p = some (.lst ys)) (hD : ∀ b, H b ≠ none → b ≠ D) (fp : FpOk X pins H J)
    (q : ∀ s', Inv X pins σ (upd H D (.dK (putAll qs))) s' → R (.ok (.ret .none)) s') (m : Nat) : ∀ (i : Nat) (s : Shared) (tk : Tok), i + m = qs.length → Inv X pins σ (upd H D (.dK (putAll (qs.take i)))) s → s.heap.IsListIter J p i → codeAny (model X.prog X.w) A (.builtin "dict.update.loop" ⟨[.ref D, .ref J, .int (i : Int) tk, .none], []⟩) R s := by
  have key : ∀ (i : Nat) (s : Shared), Inv X pins σ (upd H D (.dK (putAll (qs.take i)))) s → ∃ its : List Value, Vals ys its ∧ s.heap.IsList p its.toArray := fun i s I => by
    have e : upd H D (.dK (putAll (qs.take i))) p = some (.lst ys) := by rw [upd_ne (Ne.symm nDp)]; exact hp
    obtain ⟨_, its, n, r, eo⟩ := (show ObjOk X.prog X.w _ s.heap p (.lst ys) from I.hok p _ e)
    exact ⟨its, r, ⟨_, eo, rfl, n, rfl⟩⟩
  have fpD : ∀ i, FpOk X pins (upd H D (.dK (putAll (qs.take i)))) J := fun i => ⟨by rw [upd_ne (Ne.symm nD)]; exact fp.1, fp.2⟩
  induction m with
  | zero =>
    intro i s tk e I hi
    have e : i = qs.length := e
    obtain ⟨its, rv, il⟩ := key i s I
    have li : its.toArray.size = qs.length := by rw [List.size_toArray, ← rv.length, pr.1]
    refine codeAny_builtin dul_entry ?_
    rw [Around.under_plainId dul_plain _]
    refine wpAny_bind ?_
    have W := Walks.list (prog := X.prog) (w := X.w) (A := A.in1) hh J p nJ its.toArray
    refine W.done s _ _ (by rw [li, ← e]; exact ⟨hi, il⟩) fun h' tk' kp => ?_
    refine wpAny_bind ?_
    unfold Builtin.Dict.addKeywords
    refine wpAny_bind (wpAny_pure (wpAny_pure (wpAny_pure ?_)))
    obtain ⟨f0, f1, f2, f3, f4, f5⟩ := fpD i
    have I2 := I.turned (t' := tk') (fun b ob hb qb => kp b ob (fun z => hb (List.mem_singleton.mp z)) qb) f0 f1 f3 f4 f5
    rw [List.take_of_length_le (by omega)] at I2
    exact q _ I2
  | succ m ih =>
    intro i s tk e I hi
    obtain ⟨its, rv, il⟩ := key i s I
    have li : its.toArray.size = qs.length := by rw [List.size_toArray, ← rv.length, pr.1]
    refine codeAny_builtin dul_entry ?_
    rw [Around.under_plainId dul_plain _]
    refine wpAny_bind ?_
    have W := Walks.list (prog := X.prog) (w := X.w) (A := A.in1) hh J p nJ its.toArray
    refine W.item i s _ _ (by omega) ⟨hi, il⟩ fun v h' tk' hv st' kp => ?_
    obtain ⟨f0, f1, f2, f3, f4, f5⟩ := fpD i
    have I2 := I.turned (t' := tk') (fun b ob hb qb => kp b ob (fun z => hb (List.mem_singleton.mp z)) qb) f0 f1 f3 f4 f5
    have lq : i < qs.length := by omega
    have ly : i < ys.length := by rw [pr.1]; exact lq
    have ey := List.getElem?_eq_getElem ly
    have eq := List.getElem?_eq_getElem lq
    obtain ⟨b, eb, hb⟩ := pr.2 i _ _ ey eq
    have hv' : its[i]? = some v := by simpa using hv
    have rvi : RelV ys[i] v := by
      obtain ⟨x, hx, r⟩ := paired_get (R := RelV) rv hv'
      rw [ey] at hx
      cases hx
      exact r
    rw [eb] at rvi
    cases (show v = Value.ref b from rvi)
    generalize qs[i] = kv at eq hb
    have nb : b ≠ D := hD b (by rw [hb]; simp)
    have hb2 : upd H D (.dK (putAll (qs.take i))) b = some (.tup [kV kv.1, kv.2]) := by rw [upd_ne nb]; exact hb
    obtain ⟨_, jts, rt, ⟨ot, ho, hc, n, hd⟩⟩ := (show ObjOk X.prog X.w _ h' b (.tup [kV kv.1, kv.2]) from I2.hok b _ hb2)
    obtain ⟨uk, uv, rfl, rk, rvv⟩ := vals2 rt
    refine wpAny_bind (wpAny_holding (wpAny_bind (wpAny_tryCatch ?_)))
    unfold Builtin.Dict.pairItems
    refine wpAny_bind (wpAny_typeOf (T := "tuple") ⟨ot, ho, hc⟩ (wpAny_ite_true (by decide) (wpAny_bind ?_)))
    unfold seqItems?
    refine wpAny_bind (wpAny_load ho ?_)
    rw [hd]
    refine wpAny_pure (wpAny_pure (wpAny_holding ?_))
    refine dk_setB I2 upd_same (by have := putAll_len (qs.take i); rw [List.length_take] at this; omega) rk rvv fun h2 sb I3 => ?_
    rw [upd_upd, ← putAll_snoc, ← take_all eq] at I3
    refine wpAny_pure ⟨plainId_quiet dul_plain _, ?_⟩
    have hi3 : h2.IsListIter J p (i + 1) := by
      obtain ⟨oi, q1, q2⟩ := st'.1
      exact ⟨oi, (sb.2 _ (Ne.symm nD)).trans q1, q2⟩
    exact ih (i + 1) _ _ (by omega) I3 hi3
def rDictP : List V → Hp → VK → Prop := fun xs H Q => ∃ (p : Addr) (ys : List V) (qs : List (Key × V)), xs = [.ref p] ∧ H p = some (.lst ys) ∧ PrL H ys qs ∧ ∀ d, H d = none → Q (.ref d) (upd H d (.dK (putAll qs)))
theorem call_dictP (hc : X.calm = true) : CallR X (.type "dict") rDictP := by
  intro pins s σ H xs us Q I r h
  obtain ⟨p, ys, qs, rfl, hp, pr, q⟩ := h
  obtain ⟨u, rfl, rx⟩ := vals1 r
  cases rx
  have hh := I.ok.hd hc
  have fr := I.hok.fresh (a := s.heap.objs.size) (Nat.le_refl _)
  have hz : qs.length ≤ sizeLine := by
    have := (show ObjOk X.prog X.w H s.heap p (.lst ys) from I.hok p _ hp).1
    rw [← pr.1]; exact this
  refine callType_codes (Q₁ := fun obj s₁ => obj = .ref s.heap.objs.size ∧ s₁ = { s with heap := s.heap.push { cls := .type "dict", data := .dict #[] } }) F.kt_called_dict (F.kt_typeCall_dict_1 _) F.entry_dict_init (kt_code_dict_new _ ⟨rfl, rfl⟩) fun obj s₁ h1 => ?_
  obtain ⟨rfl, rfl⟩ := h1
  have I1 : Inv X pins σ (upd H s.heap.objs.size (.dK [])) { s with heap := s.heap.push { cls := .type "dict", data := .dict #[] } } := I.laid (a := s.heap.objs.size) (o := .dK []) (t' := s.toks) (fun _ _ q => Heap.get?_push_of_some _ q) (Nat.le_refl _) (dk_empty s.heap I.big)
  have hT : ({ s with heap := s.heap.push { cls := .type "dict", data := .dict #[] } } : Shared).TypeIs (.ref s.heap.objs.size) "dict" := ⟨_, Heap.get?_push_size _ rfl, rfl⟩
  refine ⟨hT, F.args_dict_init_2 _ _, ?_⟩
  unfold Builtin.«dict.__init__» Builtin.Dict.selfAndRest
  refine wpAny_bind (wpAny_bind (wpAny_notOrdered_dict hT (wpAny_bind (wpAny_pure (wpAny_pure ?_)))))
  show wpAny _ _ (Builtin.Dict.updateFrom "dict.__init__" s.heap.objs.size (.ref p) [] .none) _ _ _
  have npD : p ≠ s.heap.objs.size := ne_of_none hp fr
  have hp1 : upd H s.heap.objs.size (.dK []) p = some (.lst ys) := by rw [upd_ne npD]; exact hp
  generalize hs1 : ({ s with heap := s.heap.push { cls := .type "dict", data := .dict #[] } } : Shared) = s1 at I1 hT ⊢
  obtain ⟨_, its, n, rv, eo⟩ := (show ObjOk X.prog X.w _ s1.heap p (.lst ys) from I1.hok p _ hp1)
  unfold Builtin.Dict.updateFrom
  refine wpAny_bind (wpAny_typeOf (T := "list") ⟨_, eo, rfl⟩ (wpAny_ite_true (by decide) (wpAny_bind (keys_miss (A := X.A.in1.in1) hh eo fun h2 tk2 kp => ?_))))
  refine wpAny_ite_true (by decide) (wpAny_bind (wpAny_rule (wpAny_bind ?_)))
  have I2 : Inv X pins σ (upd H s.heap.objs.size (.dK [])) { s1 with heap := h2, toks := tk2 } := I1.kept (t' := tk2) kp
  have eo2 := kp _ _ eo
  refine wpAny_pyIter_list (items := its.toArray) ⟨_, eo2, rfl, n, rfl⟩ (wpAny_pure ⟨plainId_quiet dul_plain _, ?_⟩)
  have I3 : Inv X pins σ (upd H s.heap.objs.size (.dK [])) { s1 with heap := h2.push { cls := .type "list_iterator", data := .fields #[.ref p, .int 0 0] }, toks := tk2 } := I2.kept (t' := tk2) fun b ob e => Heap.get?_push_of_some _ e
  have frJ := I2.hok.fresh (a := h2.objs.size) (Nat.le_refl _)
  have nDJ : s.heap.objs.size ≠ h2.objs.size := fun z => by rw [← z, upd_same] at frJ; cases frJ
  have frJ' : H h2.objs.size = none := by rw [upd_ne (Ne.symm nDJ)] at frJ; exact frJ
  have fpJ : FpOk X pins H h2.objs.size := I2.fpOk (Nat.le_refl _) frJ'
  refine up_loop (A := X.A.in1) (D := s.heap.objs.size) (J := h2.objs.size) (p := p) (ys := ys) (qs := qs) (H := H) hh nDJ (Ne.symm npD) (ne_of_none hp frJ') pr hz hp (fun b hb z => hb (by rw [z]; exact fr)) fpJ (fun s' I' => ?_) qs.length 0 _ 0 (Nat.zero_add _) I3 ?_
  · exact ⟨rfl, .ref s.heap.objs.size, _, I', rfl, q _ fr⟩
  · exact ⟨_, Heap.get?_push_size _ rfl, rfl, rfl⟩
theorem keq_hits {A : Around} {kb : List (Key × V)} {vb : List (Key × Value)} (relb : KV kb vb) : ∀ {ka : List (Key × V)} {va : List (Key × Value)}, KV ka va → (∀ q ∈ ka, ∃ n : Int, q.2 = .int n ∧ valV kb q.1 = some (.int n)) → KeqHits A s vb va true := by
  intro ka va rel
  induction rel with
  | nil => exact fun _ => .nil
  | @cons p u ps us r t ih =>
    intro al
    obtain ⟨n, e1, e2⟩ := al p (List.mem_cons_self ..)
    have ro := relb.val p.1
    rw [e2] at ro
    obtain ⟨k, v⟩ := u
    obtain ⟨r1, r2⟩ := r
    have r1 : p.1 = k := r1
    subst r1
    rw [e1] at r2
    obtain ⟨t1, e3⟩ := (show ∃ t, v = Value.int n t from r2)
    subst e3
    cases ev : valueAt vb p.1 with
    | none => rw [ev] at ro; exact ro.elim
    | some y =>
      rw [ev] at ro
      obtain ⟨t2, e4⟩ := (show ∃ t, y = Value.int n t from ro)
      subst e4
      have h := KeqHits.hit (A := A) (s := s) (v := .int n t1) ev (keq_flat (d := .int n) (e := .int n) ?_ ?_) (ih fun q hq => al q (List.mem_cons_of_mem _ hq))
      · have e5 : (PyData.int n).eqv (.int n) = true := by simp [PyData.eqv]
        rw [e5] at h
        exact h
      all_goals (intro h; constructor)
def rNeDD : R2 := fun x y H Q => ∃ (a b : Addr) (ka kb : List (Key × V)), x = .ref a ∧ y = .ref b ∧ Rd H a (.dK ka) ∧ Rd H b (.dK kb) ∧ ka.length = kb.length ∧ (∀ q ∈ ka, ∃ n : Int, q.2 = .int n ∧ valV kb q.1 = some (.int n)) ∧ Q (.bl false) H
theorem op_neDD (hu : X.A.units < cLine) : OpR X (compareOp .NotEq) rNeDD := by
  intro pins s σ H x y v u Q I rx ry h
  obtain ⟨a, b, ka, kb, rfl, rfl, ea, eb, le, al, q⟩ := h
  cases rx
  cases ry
  obtain ⟨za, hda, va, rela, da⟩ := dk_rd I.hok ea
  obtain ⟨zb, hdb, vb, relb, db⟩ := dk_rd I.hok eb
  have la : ka.length = va.length := Paired.length rela
  have lb : kb.length = vb.length := Paired.length relb
  refine keq_ne hda hdb da db hu (fun _ => keq_hits relb rela al) ?_
  rw [show (va.length == vb.length) = true by rw [beq_iff_eq]; omega]
  exact ⟨.bl false, H, I, rfl, q⟩
end
end My
set_option Elab.async false
set_option linter.all false
set_option maxRecDepth 100000
set_option maxHeartbeats 1000000
namespace My
open PySem PySem.W L2
section
variable {X : Cx} {pins : List (Addr × Obj)} {σ : St} {H : Hp} {s : Shared}
theorem dt_setB {a b : Addr} {kvs : List (List Key × V)} {k : List Key} {v : V} {r : Value} {A : Around} {E : Value → Shared → Prop} {Q : Unit → Shared → Prop} (hu : A.units + 1 < cLine) (I : Inv X pins σ H s) (e : H a = some (.dT kvs)) (eb : H b = some (.tup (k.map kV))) (l : kvs.length < sizeLine) (rv : RelV v r)
    (h : ∀ s', Inv X pins σ (upd H a (.dT (putK kvs k v))) s' → Q () s') : wpAny (model X.prog X.w) A (dictSet a (.ref b) r) Q E s := by
  obtain ⟨z, hd, xs, rel, dd⟩ := dt_of I.hok e
  have hz : xs.length ≤ sizeLine := by rw [← Paired.length rel]; exact z
  have hl : (putK kvs k v).length ≤ sizeLine := by have := length_putK kvs k v; omega
  refine wpAny_dictSet_heap (hsz := hz) (show A.units < cLine by omega) (key_of I.hok eb) dd fun h' dd' hs => h _ ?_
  obtain ⟨q, es, ep, hq, h2, h3, h4, _, h5⟩ := dd'
  refine d_write I (by rw [e]; exact True.intro) hs ⟨q, hq⟩ ⟨hl, hd, _, (rel.put k eb rv).keeps fun c ys ec => ?_, q, es, ep, hq, h2, h3, h4, h5⟩
  rw [upd_ne (ne_of ec e (fun z => nomatch z))]
  exact ec
end
def tDisp1 (tk tv : TE) : TE := fun σ H Q => ∀ p, H p = none → tPairs [(tk, tv)] σ (upd H p (.dT [])) fun ps H2 => ∃ b ks y, ps = [(.ref b, y)] ∧ H2 b = some (.tup (ks.map kV)) ∧ H2 p = some (.dT []) ∧ Q (.ref p) (upd H2 p (.dT [(ks, y)]))
theorem pe_disp1 {X : Cx} {pos : Pos} {k v : Expr} {tk tv : TE} (hu : X.A.units + 64 < cLine) (hk : PE X k tk) (hv : PE X v tv) : PE X (.Dict [some k] [v] pos) (tDisp1 tk tv) := by
  intro pins s σ H Q I q
  have hn := I.hok.fresh (Nat.le_refl s.heap.objs.size)
  have I1 := I.laid (a := s.heap.objs.size) (o := .dT []) (h' := s.heap.push { cls := .type "dict", data := .dict #[] }) (t' := s.toks) (fun _ _ q => Heap.get?_push_of_some _ q) (Nat.le_refl _) (dt_empty s.heap I.big)
  refine wpAny_Dict_any rfl rfl (by simp) (by show 1 ≤ 15; decide) (thn ((pps_cons (pos := pos) hk hv pps_nil) pins _ σ _ _ I1 (q _ hn)) fun ws s2 ⟨ps, H2, I2, rel, b, ks, y, e1, eb, e, q2⟩ => ?_)
  subst e1
  cases rel with
  | @cons _ u _ _ r t =>
    cases t
    obtain ⟨u1, u2⟩ := u
    obtain ⟨r1, r2⟩ := r
    cases (show u1 = Value.ref b from r1)
    unfold storeAll
    refine wpAny_bind ?_
    refine wpAny_bind (dt_setB (by omega) I2 e eb (by decide) r2 fun s' I' => wpAny_pure (wpAny_pure ⟨.ref s.heap.objs.size, _, I', rfl, q2⟩))
section
variable {te : TE} {tt : TT} {g : TG} {k n : Nat} {cap : St} {D : Addr} {H1 : Hp} {Q : Hp → Prop} {J : It}
theorem lcGI_it (Pv : Nat → List V → Hp → Prop) (hz : n < sizeLine) (h0 : Pv 0 [] (upd H1 D (.lst []))) (hg : ∀ i ys H, i < n → Pv i ys H → J.go i H) (hst : ∀ ys H, Pv n ys H → J.stop n H)
    (hs : ∀ (i : Nat) x ys H H3, i < n → J.yld i H x H3 → ys.length ≤ i → H D = some (.lst ys) → Pv i ys H → ∀ os : St, os.length = k → ∀ N : List V → Hp → Prop, (∀ ys' H', Pv (i + 1) ys' H' → ys'.length ≤ i + 1 → H' D = some (.lst ys') → N ys' H') →
      g x (os ++ cap) H3 fun σ2 H0 => (∃ os' : St, os'.length = k ∧ σ2 = os' ++ cap) ∧ tt σ2 H0 fun b H5 => (b = false → N ys H5) ∧ (b = true → te σ2 H5 fun y H4 => H4 D = some (.lst ys) ∧ N (ys ++ [y]) (upd H4 D (.lst (ys ++ [y])))))
    (hd : ∀ ys H, ys.length ≤ n → H D = some (.lst ys) → Pv n ys H → Q H) :
    ∃ W : Nat → Nat → List V → Hp → Prop, (∃ m, W 0 m [] (upd H1 D (.lst []))) ∧
      ∀ i m ys H2, W i m ys H2 → H2 D = some (.lst ys) ∧ ((J.stop i H2 ∧ Q H2) ∨ (J.go i H2 ∧ ys.length < sizeLine ∧
        ∀ x H3, J.yld i H2 x H3 → ∀ os : St, os.length = k → g x (os ++ cap) H3 fun σ2 H0 => (∃ os' : St, os'.length = k ∧ σ2 = os' ++ cap) ∧ tt σ2 H0 fun b H5 => (b = false → ∃ m', m' < m ∧ W (i + 1) m' ys H5) ∧
          (b = true → te σ2 H5 fun y H4 => H4 D = some (.lst ys) ∧ ∃ m', m' < m ∧ W (i + 1) m' (ys ++ [y]) (upd H4 D (.lst (ys ++ [y])))))) := by
  refine ⟨fun i m ys H => m = n - i ∧ i ≤ n ∧ ys.length ≤ i ∧ H D = some (.lst ys) ∧ Pv i ys H, ⟨n, by simp, Nat.zero_le _, Nat.le_refl _, upd_same, h0⟩, ?_⟩
  rintro i m ys H ⟨rfl, hi, hy, hD', p⟩
  refine ⟨hD', ?_⟩
  by_cases hlt : i < n
  · refine .inr ⟨hg i ys H hlt p, by omega, fun x H' y os los => ?_⟩
    exact hs i x ys H H' hlt y hy hD' p os los (fun ys' H'' => ∃ m', m' < n - i ∧ (m' = n - (i + 1) ∧ i + 1 ≤ n ∧ ys'.length ≤ i + 1 ∧ H'' D = some (.lst ys') ∧ Pv (i + 1) ys' H'')) fun ys' H'' p' l' d' => ⟨n - (i + 1), by omega, rfl, hlt, l', d', p'⟩
  · have e : i = n := by omega
    subst e
    exact .inl ⟨hst ys H p, hd ys H hy hD' p⟩
theorem lcG_it (Pv : Nat → List V → Hp → Prop) (hz : n < sizeLine) (h0 : Pv 0 [] (upd H1 D (.lst []))) (hg : ∀ i ys H, i < n → Pv i ys H → J.go i H) (hst : ∀ ys H, Pv n ys H → J.stop n H)
    (hs : ∀ (i : Nat) x ys H H3, i < n → J.yld i H x H3 → ys.length = i → H D = some (.lst ys) → Pv i ys H → ∀ os : St, os.length = k → ∀ R : VK, (∀ y H4, H4 D = some (.lst ys) → Pv (i + 1) (ys ++ [y]) (upd H4 D (.lst (ys ++ [y]))) → R y H4) → g x (os ++ cap) H3 fun σ2 H0 => (∃ os' : St, os'.length = k ∧ σ2 = os' ++ cap) ∧ te σ2 H0 R)
    (hd : ∀ ys H, ys.length = n → H D = some (.lst ys) → Pv n ys H → Q H) :
    ∃ W : Nat → Nat → List V → Hp → Prop, (∃ m, W 0 m [] (upd H1 D (.lst []))) ∧
      ∀ i m ys H2, W i m ys H2 → H2 D = some (.lst ys) ∧ ((J.stop i H2 ∧ Q H2) ∨ (J.go i H2 ∧ ys.length < sizeLine ∧
        ∀ x H3, J.yld i H2 x H3 → ∀ os : St, os.length = k → g x (os ++ cap) H3 fun σ2 H0 => (∃ os' : St, os'.length = k ∧ σ2 = os' ++ cap) ∧ te σ2 H0 fun y H4 => H4 D = some (.lst ys) ∧ ∃ m', m' < m ∧ W (i + 1) m' (ys ++ [y]) (upd H4 D (.lst (ys ++ [y]))))) := by
  refine ⟨fun i m ys H => m = n - i ∧ i ≤ n ∧ ys.length = i ∧ H D = some (.lst ys) ∧ Pv i ys H, ⟨n, by simp, Nat.zero_le _, rfl, upd_same, h0⟩, ?_⟩
  rintro i m ys H ⟨rfl, hi, hy, hD', p⟩
  refine ⟨hD', ?_⟩
  by_cases hlt : i < n
  · refine .inr ⟨hg i ys H hlt p, by omega, fun x H' y os los => ?_⟩
    exact hs i x ys H H' hlt y hy hD' p os los _ fun z H4 hD4 p4 => ⟨hD4, n - (i + 1), by omega, rfl, hlt, by rw [List.length_append, hy]; rfl, upd_same, p4⟩
  · have e : i = n := by omega
    subst e
    exact .inl ⟨hst ys H p, hd ys H hy hD' p⟩
end
end My
set_option Elab.async false
set_option linter.all false
set_option maxRecDepth 100000
set_option maxHeartbeats 1000000
namespace My
open PySem PySem.W L2
theorem thaw {X : Cx} {pins : List (Addr × Obj)} {σ : St} {H : Hp} {s : Shared} {d : Addr} {o : Obj} {u : HO} (I : Inv X pins σ H s) (D : Dct u) (e : H d = some (.frz o u)) (nf : ∀ o' u', X.H₀ d ≠ some (.frz o' u')) : Inv X pins σ (upd H d u) s := by
  have nn : ∀ {b : Addr}, H b = none → upd H d u b = none := fun {b} h => by rw [upd_ne (fun z => by rw [z, e] at h; cases h)]; exact h
  have nt : ∀ {b : Addr} {xs : List V}, H b = some (.tup xs) → upd H d u b = some (.tup xs) := fun {b xs} h => by rw [upd_ne (fun z => by rw [z, e] at h; cases h)]; exact h
  have no : ∀ {b a : Addr}, H b = some (.own a) → upd H d u b = some (.own a) := fun {b a} h => by rw [upd_ne (fun z => by rw [z, e] at h; cases h)]; exact h
  refine ⟨I.ok, I.os, I.bare, ⟨I.base.keep, I.base.slot, fun b ob q n hx => nn (I.base.free b ob q n hx), I.base.there, fun b xs q => nt (I.base.tups b xs q), fun b ob v q => ?_, fun b ps q => ?_, fun q => nn (I.base.sys q)⟩, I.loc, I.cell, nn I.free, fun x c q => nn (I.freeC x c q), fun p hp => ?_, fun b v q => ?_, I.len⟩
  · rw [upd_ne (fun z => nf ob v (by rw [← z]; exact q))]
    exact I.base.frzs b ob v q
  · obtain ⟨more, h⟩ := I.base.tbls b ps q
    exact ⟨more, by rw [upd_ne (fun z => by rw [z, e] at h; cases h)]; exact h⟩
  · obtain ⟨h1, h2, h3⟩ := I.pin p hp
    exact ⟨h1, nn h2, h3⟩
  · by_cases z : b = d
    · subst z
      rw [upd_same] at q
      cases q
      have ok : ObjOk X.prog X.w H s.heap b u := (show ObjOk X.prog X.w H s.heap b (.frz o u) from I.hok b _ e).2
      exact ok.stay (fun _ _ _ q => q) (fun c q => no q) fun c xs q => nt q
    · rw [upd_ne z] at q
      exact (I.hok b v q).stay (fun _ _ _ q => q) (fun c q => no q) fun c xs q => nt q
def tCallT (sp : Sp) (E : XK) (t : TA) : TE := fun σ H Q => t σ H fun vs H1 => ∃ d u, H1 d = some u ∧ Dct u ∧ sp vs H1 (fun v H' => ∃ o u', Dct u' ∧ H' d = some (.frz o u') ∧ Q v (upd H' d u')) E
section
variable {X : Cx} {CX : CXT} {k : Nat} {f : Addr} {fd : FuncData} {ps : List Str} {sp : Sp} {E : XK} {x : Str} {p pos : Pos} {e : Expr} {es : List Expr} {t : TA} {σ : St}
theorem pe_callT (F : FnOk X.prog X.w X.K X.mg X.base CX k f fd ps sp) (hr : Room k X.A) (hg : Gl X x) (hm : X.mg x = some (.ref f)) (hk : PySem.W.keepIn X.K (.ref f) = true) (hb : Binds X.K fd ps []) (hx : Passes CX X E)
    (ha : PA X (e :: es) t) (hdb : (x == ("__debug__" : Str)) = false := by decide) (he : starEach (e :: es) X.env = (false, eval e X.env) :: starEach es X.env := by rfl) (hpl : (backTo pos (starEach es X.env)).any (·.1) = false := by rfl) :
    PE X (.Call (.Name x p) (e :: es) [] pos) (tCallT sp E t) := by
  intro pins s σ H Q I h
  refine wpAny_Call_Name_kw (ld_glob I hg hm ?_ hdb)
  refine PySem.W.callWith_K (h₀ := X.base) I.ok.mod.kin hk (thn (ha pos pins s σ H _ I h) fun us s1 ⟨vs, H1, I1, r, q⟩ => ⟨I1.kIn, ?_⟩) he hpl
  obtain ⟨d, u, hd, D, q⟩ := q
  refine thn (run_fn (dvs := []) (Q := fun v H' => ∃ o u', Dct u' ∧ H' d = some (.frz o u') ∧ Q v (upd H' d u')) F hr hb .nil hx I1 r (by rw [List.append_nil]; exact q)) fun v s2 ⟨y, H2, I2, r2, q3⟩ => ?_
  obtain ⟨o, u', D', e2, q2⟩ := q3
  exact ⟨y, _, thaw I2 D' e2 (fun o' v' z => by rw [I1.base.frzs d o' v' z] at hd; cases hd; exact D), r2, q2⟩
def rDClear : V → List V → Hp → VK → Prop := fun x vs H Q => ∃ (d : Addr) (kvs : List (Key × V)), x = .ref d ∧ vs = [] ∧ H d = some (.dK kvs) ∧ Q .non (upd H d (.dK []))
theorem mt_dclear : MtR X "dict.clear" rDClear := by
  intro pins s σ H x vs v us Q I rx rv h
  obtain ⟨d, kvs, rfl, rfl, e, q⟩ := h
  cases rx
  cases rv
  exact d_clear I e fun s' I' => ⟨.non, _, I', rfl, q⟩
end
end My
set_option Elab.async false
set_option linter.all false
set_option maxRecDepth 100000
set_option maxHeartbeats 1000000
set_option exponentiation.threshold 10000
namespace My
open PySem PySem.W L2
def partV : V → V → Bool
  | x, .int j => decide (1 ≤ j) && inB 0 j x
  | _, _ => false
theorem partV_no {x y : V} (h : ∀ i, y ≠ .int i) : partV x y = false := by
  cases y with
  | int i => exact absurd rfl (h i)
  | _ => rfl
section
variable {P : Program} {w : World} {K : Frag} {mg : Str → Option Value} {base : Heap}
abbrev sIsNum : Stmt := top 6
def spIsNum (K : Frag) : Sp := fun vs H Q _ => ∃ x, vs = [x] ∧ Th K H x ∧ Q (.bl (numB x)) H
theorem scIN : FnScope ["thing"] ["thing"] (defScope sIsNum) := ⟨rfl, rfl, rfl, by decide +kernel, rfl, by decide +kernel, by decide +kernel⟩
theorem ok_isnum {f : Addr} {fd : FuncData} (N : IsT K) (F : Fun K "is_number" "is_number" sIsNum f fd) (mi : mg "isinstance" = none) (m1 : mg "int" = none) (m2 : mg "bool" = none) : FnOk P w K mg base CX0 1 f fd ["thing"] (spIsNum K) := by
  refine F.ok scIN (fun vs H Q E h => ?_) (fun cdv A outer s H vs Q E hr h => ?_)
  · obtain ⟨c, rfl, _⟩ := h
    rfl
  obtain ⟨x, rfl, th, q⟩ := h
  refine ⟨_, pss_one (ps_ret (pe_and (pe_callB (call_isK N) rfl mi PyProof.Rows.boot_isinstance (pa_cons (pv 0) (pa_cons (pe_ty rfl m1 PyProof.Rows.boot_int) pa_nil)))
    (pe_one (pe_not (pe_callB (call_isK N) rfl mi PyProof.Rows.boot_isinstance (pa_cons (pv 0) (pa_cons (pe_ty rfl m2 PyProof.Rows.boot_bool) pa_nil))))))), ?_⟩
  rcases th with ⟨i, rfl⟩ | ⟨n, t, b1, b2, kd, k1, k2, z⟩
  · exact ⟨_, rfl, _, _, _, _, rfl, .inl (.int i), k_ii, _, rfl, ⟨_, rfl, _, _, _, _, rfl, .inl (.int i), k_ib, _, rfl, q⟩⟩
  · rw [numB_no n] at q
    refine ⟨_, rfl, _, _, _, _, rfl, kd, k1, _, rfl, ?_⟩
    cases b1 with
    | false => exact itF q
    | true =>
      refine itT ⟨_, rfl, _, _, _, _, rfl, kd, k2, _, rfl, ?_⟩
      have e : (!b2) = false := z
      rw [e]
      exact q
abbrev sIsWh : Stmt := top 7
def spIsWh (K : Frag) : Sp := fun vs H Q _ => ∃ x lo hi, vs = [x, .int lo, .int hi] ∧ Th K H x ∧ Q (.bl (inB lo hi x)) H
theorem scIW : FnScope ["thing", "low", "high"] ["thing", "low", "high"] (defScope sIsWh) := ⟨rfl, rfl, rfl, by decide +kernel, rfl, by decide +kernel, by decide +kernel⟩
theorem ok_iswh {f g : Addr} {fd gd : FuncData} (F : Fun K "is_whole" "is_whole" sIsWh f fd) (G : FnOk P w K mg base CX0 1 g gd ["thing"] (spIsNum K)) (bG : Binds K gd ["thing"] []) (kG : keepIn K (.ref g) = true) (mG : mg "is_number" = some (.ref g)) :
    FnOk P w K mg base CX0 2 f fd ["thing", "low", "high"] (spIsWh K) := by
  refine F.ok scIW (fun vs H Q E h => ?_) (fun cdv A outer s H vs Q E hr h => ?_)
  · obtain ⟨c, lo, hi, rfl, _⟩ := h
    rfl
  obtain ⟨x, lo, hi, rfl, th, q⟩ := h
  refine ⟨_, pss_one (ps_ret (pe_and (pe_call G hr rfl mG kG bG .nil pass0 (pa_cons (pv 0) pa_nil)) (pe_and (pe_cmpR op_le (pv 1) (pv 0) (nomark _)) (pe_one (pe_cmpR op_le (pv 0) (pv 2) (nomark _)))))), ?_⟩
  refine ⟨_, rfl, x, rfl, th, _, rfl, ?_⟩
  rcases th with ⟨i, rfl⟩ | ⟨n, _⟩
  · refine itT ⟨_, rfl, _, rfl, _, _, rfl, rfl, _, rfl, ?_⟩
    refine ite2 (fun c => ?_) (fun c => ?_)
    · refine ⟨_, rfl, _, rfl, _, _, rfl, rfl, ?_⟩
      have q' : Q (.bl (decide (lo ≤ i) && decide (i ≤ hi))) H := q
      rw [decide_eq_true (of_decide_eq_true c), Bool.true_and] at q'
      exact q'
    · have q' : Q (.bl (decide (lo ≤ i) && decide (i ≤ hi))) H := q
      rw [decide_eq_false (fun z => c (decide_eq_true z)), Bool.false_and] at q'
      exact q'
  · rw [numB_no n]
    rw [inB_no n] at q
    exact itF q
abbrev sGcd : Stmt := top 9
def spGcd : Sp := fun vs H Q _ => ∃ a b : Nat, vs = [.int a, .int b] ∧ Q (.int (Nat.gcd a b)) H
theorem scG : FnScope ["one", "other"] ["one", "other"] (defScope sGcd) := ⟨rfl, rfl, rfl, by decide +kernel, rfl, by decide +kernel, by decide +kernel⟩
def secN : St → Nat
  | [_, some (.int b)] => b.toNat
  | _ => 0
theorem ok_gcd {f : Addr} {fd : FuncData} (F : Fun K "greatest_common" "greatest_common" sGcd f fd) : FnOk P w K mg base CX0 1 f fd ["one", "other"] spGcd := by
  refine F.ok scG (fun vs H Q E h => ?_) (fun cdv A outer s H vs Q E hr h => ?_)
  · obtain ⟨c, lo, rfl, _⟩ := h
    rfl
  obtain ⟨a, b, rfl, q⟩ := h
  have nd := scG.nd
  refine ⟨_, pss_cons (ps_while PassesOwn.never (pt_cmpR op_gt (pv 1) pe_int (nomark _)) (pss_one (ps_par (i := 0) (j := 1) rfl nd rfl rfl (by decide) rfl rfl (pa_cons (pv 1) (pa_cons (pe_op op_mod (pv 0) (pv 1)) pa_nil)) rfl))) (pss_one (ps_ret (pv 0))), ?_⟩
  refine while_by (fun σ H' => H' = H ∧ ∃ x y : Nat, σ = [some (.int x), some (.int y)] ∧ Nat.gcd x y = Nat.gcd a b) (fun σ _ => secN σ) ⟨rfl, a, b, rfl, rfl⟩ ?_ ?_
  · rintro σ H' ⟨rfl, x, y, rfl, e⟩
    refine ⟨_, rfl, _, _, rfl, rfl, _, rfl, ?_⟩
    refine ite2 (fun c => ?_) (fun c => ?_)
    · have c' : (0 : Int) < (y : Int) := of_decide_eq_true c
      refine ⟨_, rfl, _, rfl, _, rfl, _, _, rfl, rfl, c', _, _, rfl, ⟨rfl, y, x % y, ?_, ?_⟩, ?_⟩
      · show [some (V.int y), some (V.int ((x : Int) % (y : Int)))] = _
        rw [show ((x : Int) % (y : Int)) = ((x % y : Nat) : Int) from by simp]
      · rw [← e, Nat.gcd_comm x y, Nat.gcd_rec y x, Nat.gcd_comm]
      · show ((x : Int) % (y : Int)).toNat < (y : Int).toNat
        have := Int.emod_lt_of_pos (x : Int) c'
        omega
    · have c' : ¬ (0 : Int) < (y : Int) := fun z => c (decide_eq_true z)
      have y0 : y = 0 := by omega
      subst y0
      rw [Nat.gcd_zero_right] at e
      refine ⟨_, rfl, ?_⟩
      rw [e]
      exact q
  · rintro σ H Q Q' m ⟨x, e, i, j, h1, h2, b, hb, q⟩
    exact ⟨x, e, i, j, h1, h2, b, hb, m _ _ q⟩
abbrev sPart : Stmt := top 10
def spPart (K : Frag) : Sp := fun vs H Q _ => ∃ x y, vs = [x, y] ∧ Th K H x ∧ Th K H y ∧ Q (.bl (partV x y)) H
theorem scPt : FnScope ["top", "bottom"] ["top", "bottom"] (defScope sPart) := ⟨rfl, rfl, rfl, by decide +kernel, rfl, by decide +kernel, by decide +kernel⟩
theorem ok_part {f g k : Addr} {fd gd kd : FuncData} (F : Fun K "is_part" "is_part" sPart f fd) (G : FnOk P w K mg base CX0 1 g gd ["thing"] (spIsNum K)) (bG : Binds K gd ["thing"] []) (kG : keepIn K (.ref g) = true) (mG : mg "is_number" = some (.ref g))
    (W : FnOk P w K mg base CX0 2 k kd ["thing", "low", "high"] (spIsWh K)) (bW : Binds K kd ["thing", "low", "high"] []) (kW : keepIn K (.ref k) = true) (mW : mg "is_whole" = some (.ref k)) : FnOk P w K mg base CX0 3 f fd ["top", "bottom"] (spPart K) := by
  refine F.ok scPt (fun vs H Q E h => ?_) (fun cdv A outer s H vs Q E hr h => ?_)
  · obtain ⟨x, y, rfl, _⟩ := h
    rfl
  obtain ⟨x, y, rfl, tx, ty, q⟩ := h
  have hr1 := hr.mono (show 1 ≤ 2 by decide)
  refine ⟨_, pss_one (ps_ret (pe_and (pe_call G hr1 rfl mG kG bG .nil pass0 (pa_cons (pv 1) pa_nil)) (pe_and (pe_cmpR op_ge (pv 1) pe_int (nomark _)) (pe_one (pe_call W hr rfl mW kW bW .nil pass0 (pa_cons (pv 0) (pa_cons pe_int (pa_cons (pv 1) pa_nil)))))))), ?_⟩
  refine ⟨_, rfl, y, rfl, ty, _, rfl, ?_⟩
  rcases ty with ⟨j, rfl⟩ | ⟨n, _⟩
  · refine itT ⟨_, rfl, _, _, rfl, rfl, _, rfl, ?_⟩
    have q' : Q (.bl (decide (1 ≤ j) && inB 0 j x)) H := q
    refine ite2 (fun c => ?_) (fun c => ?_)
    · rw [decide_eq_true (of_decide_eq_true c), Bool.true_and] at q'
      exact ⟨_, rfl, _, rfl, x, 0, j, rfl, tx, q'⟩
    · rw [decide_eq_false (fun z => c (decide_eq_true z)), Bool.false_and] at q'
      exact q'
  · rw [numB_no n]
    rw [partV_no n] at q
    exact itF q
abbrev sNN : Stmt := top 14
def spNN (CN : Addr) : Sp := fun vs H Q E => ∃ x d lo hi, vs = [x, .int lo, .int hi] ∧ Rds H x d ∧ (inD lo hi d = true → Q .non H) ∧ (inD lo hi d = false → ErrF CN "found" x H E)
theorem scNN : FnScope ["thing", "low", "high"] ["thing", "low", "high"] (defScope sNN) := ⟨rfl, rfl, rfl, by decide +kernel, rfl, by decide +kernel, by decide +kernel⟩
theorem ok_nn {f a1 D CN fC : Addr} {fd d1 fdC : FuncData} (F : Fun K "need_number" "need_number" sNN f fd) (B : BaseC K D) (T : OneF K mg D "NoNumber" "found" CN fC fdC) (A1 : Df P w K mg base CX0 2 "is_whole" ["thing", "low", "high"] (spIsWh K) a1 d1) : FnOk P w K mg base (CXE P w) 3 f fd ["thing", "low", "high"] (spNN CN) := by
  refine okE F scNN (fun vs H Q E h => ?_) (fun cdv A outer s H vs Q E hr h => ?_)
  · obtain ⟨_, _, _, _, rfl, _⟩ := h
    rfl
  obtain ⟨x, d, lo, hi, rfl, rd, q1, q2⟩ := h
  refine ⟨_, pss_one (ps_if (pt_not (pt_val (pe_call A1.G hr rfl A1.m A1.kp A1.b .nil pass0 (pa_cons (pv 0) (pa_cons (pv 1) (pa_cons (pv 2) pa_nil)))))) (pss_one (ps_raise B T.cls (T.ok P w base) hr T.bi rfl T.mgC (pv 0))) pss_nil), ?_⟩
  refine ⟨_, rfl, _, rfl, _, rfl, x, lo, hi, rfl, rd.th, _, rfl, ?_⟩
  rw [rd.inB]
  cases e : inD lo hi d with
  | true => exact itF (q1 e)
  | false => exact itT ⟨_, rfl, fun e' dx h1 h2 nd => qR_of nd (q2 e e' dx h1 h2 nd)⟩
def Sz (n : Nat) : Prop := n < 2 ^ 8999
theorem Sz.log {n : Nat} (h : Sz n) : ((n : Nat) : Int).natAbs.log2 < 9000 := by
  rw [Int.natAbs_natCast]
  by_cases z : n = 0
  · rw [z]; decide
  · exact (Nat.log2_lt z).mpr (Nat.lt_trans h (Nat.pow_lt_pow_right (by decide) (by decide)))
theorem Sz.mono {m n : Nat} (h : Sz n) (e : m ≤ n) : Sz m := Nat.lt_of_le_of_lt e h
def lowT (a b : Nat) : Nat := a / Nat.gcd a b
def lowBt (a b : Nat) : Nat := b / Nat.gcd a b
abbrev sSo : Stmt := top 11
def spSo : Sp := fun vs H Q _ => ∃ a b : Nat, vs = [.int a, .int b] ∧ 1 ≤ b ∧ a ≤ b ∧ Sz b ∧ ∀ p, H p = none → Q (.ref p) (upd H p (.tup [.int (lowT a b : Nat), .int (lowBt a b : Nat)]))
theorem scSo : FnScope ["top", "bottom", "common"] ["top", "bottom"] (defScope sSo) := ⟨rfl, rfl, rfl, by decide +kernel, rfl, by decide +kernel, by decide +kernel⟩
theorem ok_so {f a1 a2 : Addr} {fd d1 d2 : FuncData} (F : Fun K "share_of" "share_of" sSo f fd) (A1 : Df P w K mg base CX0 3 "is_part" ["top", "bottom"] (spPart K) a1 d1) (A2 : Df P w K mg base CX0 1 "greatest_common" ["one", "other"] spGcd a2 d2) : FnOk P w K mg base CX0 4 f fd ["top", "bottom"] spSo := by
  refine F.ok scSo (fun vs H Q E h => ?_) (fun cdv A outer s H vs Q E hr h => ?_)
  · obtain ⟨a, b, rfl, _⟩ := h
    rfl
  obtain ⟨a, b, rfl, b1, ab, sb, q⟩ := h
  have nd := scSo.nd
  have hr1 : Room 1 _ := hr.mono (by decide)
  refine ⟨_, pss_cons (ps_if (pt_not (pt_val (pe_call A1.G hr rfl A1.m A1.kp A1.b .nil pass0 (pa_cons (pv 0) (pa_cons (pv 1) pa_nil))))) (pss_one ps_never) pss_nil)
    (pss_cons (ps_set (i := 2) nd rfl (Or.inl rfl) (pe_call A2.G hr1 rfl A2.m A2.kp A2.b .nil pass0 (pa_cons (pv 0) (pa_cons (pv 1) pa_nil))))
    (pss_one (ps_ret (pe_tup (pa_cons (pe_op op_gdiv (pv 0) (pv 2)) (pa_cons (pe_op op_gdiv (pv 1) (pv 2)) pa_nil)))))), ?_⟩
  have pv1 : partV (.int (a : Nat)) (.int (b : Nat)) = true := by
    show (decide ((1 : Int) ≤ (b : Nat)) && (decide ((0 : Int) ≤ (a : Nat)) && decide (((a : Nat) : Int) ≤ (b : Nat)))) = true
    rw [decide_eq_true (by omega), decide_eq_true (by omega), decide_eq_true (by omega)]
    rfl
  have g0 : 0 < Nat.gcd a b := Nat.gcd_pos_of_pos_right a b1
  have gl : Sz (Nat.gcd a b) := sb.mono (Nat.le_of_dvd b1 (Nat.gcd_dvd_right a b))
  have gd : ∀ n : Nat, GDiv ((n : Nat) : Int) ((Nat.gcd a b : Nat) : Int) := fun n => ⟨by omega, gl.log⟩
  refine ⟨_, rfl, _, rfl, _, _, rfl, .inl ⟨_, rfl⟩, .inl ⟨_, rfl⟩, ?_⟩
  rw [pv1]
  refine ⟨_, rfl, itF ⟨_, rfl, _, rfl, a, b, rfl, ?_⟩⟩
  refine ⟨_, rfl, _, rfl, _, _, rfl, rfl, gd a, _, rfl, _, rfl, _, _, rfl, rfl, gd b, by show 2 ≤ sizeLine; decide, fun p hp => ?_⟩
  have e1 : ((a : Int) / ((Nat.gcd a b : Nat) : Int)) = ((lowT a b : Nat) : Int) := by simp [lowT]
  have e2 : ((b : Int) / ((Nat.gcd a b : Nat) : Int)) = ((lowBt a b : Nat) : Int) := by simp [lowBt]
  show Q (.ref p) (upd H p (.tup [.int ((a : Int) / ((Nat.gcd a b : Nat) : Int)), .int ((b : Int) / ((Nat.gcd a b : Nat) : Int))]))
  rw [e1, e2]
  exact q p hp
end
end My
set_option Elab.async false
set_option linter.all false
set_option maxRecDepth 100000
set_option maxHeartbeats 1000000
set_option exponentiation.threshold 10000
namespace My
open PySem PySem.W L2
def lstdD : PyData → Bool
  | .tuple [a, b] => inD 0 1 a && inD 0 1 b
  | _ => false
def lgD : PyData → Bool
  | .list ds => decide (1 ≤ ds.length) && decide (ds.length ≤ 20) && ds.all lstdD
  | _ => false
section
variable {P : Program} {w : World} {K : Frag} {mg : Str → Option Value} {base : Heap}
abbrev sIL : Stmt := top 22
def spIL : Sp := fun vs H Q _ => ∃ v d, vs = [v] ∧ Rds H v d ∧ Q (.bl (lstdD d)) H
theorem scIL : FnScope ["thing"] ["thing"] (defScope sIL) := ⟨rfl, rfl, rfl, by decide +kernel, rfl, by decide +kernel, by decide +kernel⟩
theorem ok_il {f a1 : Addr} {fd d1 : FuncData} (N : IsT K) (F : Fun K "is_listed" "is_listed" sIL f fd) (A1 : Df P w K mg base CX0 2 "is_whole" ["thing", "low", "high"] (spIsWh K) a1 d1)
    (mi : mg "isinstance" = none) (mt : mg "tuple" = none) (ml : mg "len" = none) : FnOk P w K mg base CX0 3 f fd ["thing"] spIL := by
  refine F.ok scIL (fun vs H Q E h => ?_) (fun cdv A outer s H vs Q E hr h => ?_)
  · obtain ⟨v, d, rfl, _⟩ := h
    rfl
  obtain ⟨v, d, rfl, rd, q⟩ := h
  refine ⟨_, pss_cons (ps_if (PW.pt (pw_or (pt_not (pt_val (pe_callB (call_isK N) rfl mi PyProof.Rows.boot_isinstance (pa_cons (pv 0) (pa_cons (pe_ty rfl mt PyProof.Rows.boot_tuple) pa_nil))))) (pw_or1 (pt_cmpR op_ne (pe_callB call_len_seq rfl ml PySem.boot_len (pa_cons (pv 0) pa_nil)) pe_int (nomark _))))) (pss_one (ps_ret pe_bl)) pss_nil)
    (pss_one (ps_ret (pe_and (pe_call A1.G hr rfl A1.m A1.kp A1.b .nil pass0 (pa_cons (pe_ix ix_tup (pv 0) pe_int (fun _ _ => rfl)) (pa_cons pe_int (pa_cons pe_int pa_nil)))) (pe_one (pe_call A1.G hr rfl A1.m A1.kp A1.b .nil pass0 (pa_cons (pe_ix ix_tup (pv 0) pe_int (fun _ _ => rfl)) (pa_cons pe_int (pa_cons pe_int pa_nil)))))))), ?_⟩
  refine ⟨_, rfl, _, _, _, _, rfl, rd.kd, rd.isT, _, rfl, ?_⟩
  cases e : tupB d with
  | false =>
    refine itT (itT ?_)
    have z : lstdD d = false := by cases d <;> first | rfl | cases e
    rw [z] at q
    exact q
  | true =>
    obtain ⟨ds, rfl⟩ : ∃ ds, d = .tuple ds := by cases d <;> first | exact ⟨_, rfl⟩ | cases e
    obtain ⟨a, xs, rfl, ha, rs⟩ := rds_tup rd
    refine itF ⟨_, rfl, a, _, rfl, .inr (SqT.of ha), rfl, _, rfl, ?_⟩
    have len := rs.length
    by_cases l2 : xs.length = 2
    · obtain ⟨u, v, rfl⟩ : ∃ u v, xs = [u, v] := by
        match xs, l2 with
        | [u, v], _ => exact ⟨u, v, rfl⟩
      cases rs with
      | cons r1 rs =>
        cases rs with
        | cons r2 rs =>
          cases rs
          refine itF ⟨_, rfl, a, _, _, _, rfl, rfl, SqT.of ha, rfl, u, 0, 1, rfl, r1.th, _, rfl, ?_⟩
          rw [r1.inB]
          rename_i d1 d2
          have qq : Q (.bl (inD 0 1 d1 && inD 0 1 d2)) H := q
          cases e1 : inD 0 1 d1 with
          | false =>
            rw [e1] at qq
            exact itF qq
          | true =>
            rw [e1] at qq
            refine itT ⟨_, rfl, a, _, _, _, rfl, rfl, SqT.of ha, rfl, v, 0, 1, rfl, r2.th, ?_⟩
            rw [r2.inB]
            exact qq
    · have e1 : (!decide (V.int (xs.length : Nat) = V.int 2)) = true := by
        rw [decide_eq_false]
        · rfl
        · intro h
          injection h with h
          omega
      rw [e1]
      refine itT ?_
      have z : lstdD (.tuple ds) = false := by
        match ds, len, l2 with
        | [], _, _ => rfl
        | [_], _, _ => rfl
        | [_, _], l, n => exact absurd l n
        | _ :: _ :: _ :: _, _, _ => rfl
      rw [z] at q
      exact q
end
section
variable {P : Program} {w : World} {K : Frag} {mg : Str → Option Value} {base : Heap}
abbrev sIG : Stmt := top 23
def spIG : Sp := fun vs H Q _ => ∃ v d, vs = [v] ∧ Rds H v d ∧ (∀ ds, d = .list ds → ds.length < 10000) ∧ ∀ H', Ext H H' → Q (.bl (lgD d)) H'
theorem scIG : FnScope ["thing"] ["thing"] (defScope sIG) := ⟨rfl, rfl, rfl, by decide +kernel, rfl, by decide +kernel, by decide +kernel⟩
abbrev scIGc : Scope := { kind := .function, names := [(".0", .local), ("each", .local), ("is_listed", .globalImplicit)], isGenerator := false, isCoroutine := false }
theorem compIG {X : Cx} : CompSc X scIGc [] "each" [] [] := by
  refine ⟨rfl, rfl, by decide +kernel, by decide +kernel, by decide +kernel, (fun z c h => nomatch h), (fun z h => ?_), by decide +kernel, (fun k z h => by simp at h), rfl⟩
  exfalso
  have h' : List.lookup z [((".0" : Str), NameKind.local), (("each" : Str), NameKind.local), (("is_listed" : Str), NameKind.globalImplicit)] = some .cell ∨ List.lookup z [((".0" : Str), NameKind.local), (("each" : Str), NameKind.local), (("is_listed" : Str), NameKind.globalImplicit)] = some .free := h
  simp only [List.lookup_cons, List.lookup_nil] at h'
  repeat' (split at h')
  all_goals simp at h'
theorem ok_ig {f a1 a2 : Addr} {fd d1 d2 : FuncData} {t20 : Tok} (N : IsT K) (F : Fun K "is_listing" "is_listing" sIG f fd) (A1 : Df P w K mg base CX0 2 "is_whole" ["thing", "low", "high"] (spIsWh K) a1 d1) (A2 : Df P w K mg base CX0 3 "is_listed" ["thing"] spIL a2 d2) (m20 : mg "MOST_FOLK" = some (.int 20 t20))
    (mi : mg "isinstance" = none) (mt : mg "list" = none) (ml : mg "len" = none) (ma : mg "all" = none) : FnOk P w K mg base CX0 4 f fd ["thing"] spIG := by
  refine F.ok scIG (fun vs H Q E h => ?_) (fun cdv A outer s H vs Q E hr h => ?_)
  · obtain ⟨v, d, rfl, _⟩ := h
    rfl
  obtain ⟨v, d, rfl, rd, big, q⟩ := h
  have hr2 := hr.mono (show 2 ≤ 3 by decide)
  refine ⟨_, pss_cons (ps_if (PW.pt (pw_or (pt_not (pt_val (pe_callB (call_isK N) rfl mi PyProof.Rows.boot_isinstance (pa_cons (pv 0) (pa_cons (pe_ty rfl mt PyProof.Rows.boot_list) pa_nil)))))
      (pw_or1 (pt_not (pt_val (pe_call A1.G hr2 rfl A1.m A1.kp A1.b .nil pass0 (pa_cons (pe_callB call_len_seq rfl ml PySem.boot_len (pa_cons (pv 0) pa_nil)) (pa_cons pe_int (pa_cons (pe_glob (v := .int 20) rfl m20 ⟨_, rfl⟩) pa_nil))))))))) (pss_one (ps_ret pe_bl)) pss_nil)
    (pss_one (ps_ret (pe_callB (call_all rfl) rfl ma PyProof.Rows.boot_all (pa_cons (pe_lc (te := tCall spIL [] E0 (tCons (tVar 0) tNil)) rfl compIG (pi_list (pv 0)) (fun s H C fp => by exact pe_call A2.G hr rfl A2.m A2.kp A2.b .nil pass0 (pa_cons (pv 0) pa_nil))) pa_nil)))), ?_⟩
  refine ⟨_, rfl, _, _, _, _, rfl, rd.kd, rd.isL, _, rfl, ?_⟩
  cases e : lisB d with
  | false =>
    refine itT (itT ?_)
    have z : lgD d = false := by cases d <;> first | rfl | cases e
    rw [z] at q
    exact q H (Ext.refl _)
  | true =>
    obtain ⟨ds, rfl⟩ : ∃ ds, d = .list ds := by cases d <;> first | exact ⟨_, rfl⟩ | cases e
    obtain ⟨a, xs, rfl, ha, rs⟩ := rds_lst rd
    have len := rs.length
    have bg := big ds rfl
    refine itF ⟨_, rfl, a, _, rfl, .inl (SqL.of ha), .int (xs.length : Nat), 1, 20, rfl, .inl ⟨_, rfl⟩, _, rfl, ?_⟩
    show if (!(decide ((1 : Int) ≤ (xs.length : Nat)) && decide (((xs.length : Nat) : Int) ≤ 20))) = true then _ else _
    have el : (decide ((1 : Int) ≤ (xs.length : Nat)) && decide (((xs.length : Nat) : Int) ≤ 20)) = (decide (1 ≤ ds.length) && decide (ds.length ≤ 20)) := by
      rw [len, Bool.eq_iff_iff, Bool.and_eq_true, Bool.and_eq_true, decide_eq_true_iff, decide_eq_true_iff, decide_eq_true_iff, decide_eq_true_iff]
      omega
    rw [el]
    have qq : ∀ H', Ext H H' → Q (.bl (decide (1 ≤ ds.length) && decide (ds.length ≤ 20) && ds.all lstdD)) H' := q
    cases el2 : decide (1 ≤ ds.length) && decide (ds.length ≤ 20) with
    | false =>
      rw [el2] at qq
      exact itT (qq H (Ext.refl _))
    | true =>
      rw [el2] at qq
      refine itF ?_
      refine ⟨_, rfl, a, rfl, ⟨_, SqL.of ha⟩, fun D hD => ?_⟩
      refine lc_list (a := a) (xs := xs) (fun i ys H' => Ext H H' ∧ ys = (ds.take i).map fun d => V.bl (lstdD d)) (by rw [len]; exact Nat.lt_trans bg (by decide)) ⟨Ext.new hD, rfl⟩ (fun i ys H' p => SqL.of (p.1 _ _ ha)) ?_ ?_
      · rintro i x ys H' ex ly hD' ⟨x', rfl⟩ R k
        obtain ⟨d, ed, rv⟩ := rs.get ex
        refine ⟨_, rfl, x, d, rfl, rv.mono x', k _ H' hD' ⟨ext_upd _ x' hD, ?_⟩⟩
        rw [take_all ed, List.map_append]
        rfl
      · rintro ys H' ly hD' ⟨x', rfl⟩
        refine ⟨D, ds.map lstdD, rfl, ?_, ?_⟩
        · have e3 : xs.length = ds.length := len
          rw [e3, List.take_length] at hD'
          rw [List.map_map]
          exact SqL.of hD'
        · have e3 : (ds.map lstdD).all id = ds.all lstdD := by rw [List.all_map]; rfl
          rw [e3]
          exact qq H' x'
abbrev sNG : Stmt := top 24
def spNG (C : Addr) : Sp := fun vs H Q E => ∃ v d, vs = [v] ∧ Rds H v d ∧ (∀ ds, d = .list ds → ds.length < 10000) ∧ (lgD d = true → ∀ H', Ext H H' → Q .non H') ∧ (lgD d = false → ∀ H', Ext H H' → ErrF C "found" v H' E)
theorem scNG : FnScope ["thing"] ["thing"] (defScope sNG) := ⟨rfl, rfl, rfl, by decide +kernel, rfl, by decide +kernel, by decide +kernel⟩
theorem ok_ng {f D C fC a1 : Addr} {fd fdC d1 : FuncData} (F : Fun K "need_listing" "need_listing" sNG f fd) (B : BaseC K D) (T : OneF K mg D "NoListing" "found" C fC fdC) (A1 : Df P w K mg base CX0 4 "is_listing" ["thing"] spIG a1 d1) : FnOk P w K mg base (CXE P w) 5 f fd ["thing"] (spNG C) := by
  refine okE F scNG (fun vs H Q E h => ?_) (fun cdv A outer s H vs Q E hr h => ?_)
  · obtain ⟨v, d, rfl, _⟩ := h
    rfl
  obtain ⟨v, d, rfl, rd, big, q1, q2⟩ := h
  have hr2 := hr.mono (show 2 ≤ 4 by decide)
  refine ⟨_, pss_one (ps_if (pt_not (pt_val (pe_call A1.G hr rfl A1.m A1.kp A1.b .nil pass0 (pa_cons (pv 0) pa_nil)))) (pss_one (ps_raise B T.cls (T.ok P w base) hr2 T.bi rfl T.mgC (pv 0))) pss_nil), ?_⟩
  refine ⟨_, rfl, v, d, rfl, rd, big, fun H' x' => ⟨_, rfl, ?_⟩⟩
  cases e : lgD d with
  | false => exact itT ⟨_, rfl, fun e' dx h1 h2 nd => qR_of nd (q2 e H' x' e' dx h1 h2 nd)⟩
  | true => exact itF (q1 e H' x')
end
def isPair (a b : Int) : PyData → Bool
  | .tuple [.int x, .int y] => x == a && y == b
  | _ => false
def cnt (a b : Int) (ds : List PyData) : Nat := ds.countP (isPair a b)
section
variable {P : Program} {w : World} {K : Frag} {mg : Str → Option Value} {base : Heap} {H : Hp}
theorem lstd_two {d : PyData} (h : lstdD d = true) : ∃ x y : Int, d = .tuple [.int x, .int y] ∧ (0 ≤ x ∧ x ≤ 1) ∧ (0 ≤ y ∧ y ≤ 1) := by
  match d, h with
  | .tuple [a, b], h =>
    have h' : (inD 0 1 a && inD 0 1 b) = true := h
    rw [Bool.and_eq_true] at h'
    obtain ⟨x, rfl, hx⟩ := inD_int h'.1
    obtain ⟨y, rfl, hy⟩ := inD_int h'.2
    exact ⟨x, y, rfl, hx, hy⟩
structure Rws (H : Hp) (xs : List V) (ds : List PyData) (as : List (Addr × Int × Int)) : Prop where
  xs_ : xs = as.map fun z => V.ref z.1
  ds_ : ds = as.map fun z => .tuple [.int z.2.1, .int z.2.2]
  at_ : ∀ z ∈ as, H z.1 = some (.tup [.int z.2.1, .int z.2.2])
  bit : ∀ z ∈ as, (0 ≤ z.2.1 ∧ z.2.1 ≤ 1) ∧ (0 ≤ z.2.2 ∧ z.2.2 ≤ 1)
theorem rds_int {v : V} {i : Int} (r : Rds H v (.int i)) : v = .int i := by cases r; rfl
theorem rws_of : ∀ {xs : List V} {ds : List PyData}, RdsAll H xs ds → ds.all lstdD = true → ∃ as, Rws H xs ds as
  | _, _, .nil, _ => ⟨[], rfl, rfl, (fun _ h => nomatch h), (fun _ h => nomatch h)⟩
  | _, _, .cons r t, h => by
    rw [List.all_cons, Bool.and_eq_true] at h
    obtain ⟨as, w⟩ := rws_of t h.2
    obtain ⟨x, y, rfl, hx, hy⟩ := lstd_two h.1
    obtain ⟨a, us, rfl, ha, rs⟩ := rds_tup r
    cases rs with
    | cons r1 rs =>
      cases rs with
      | cons r2 rs =>
        cases rs
        have e1 := rds_int r1
        have e2 := rds_int r2
        subst e1 e2
        refine ⟨(a, x, y) :: as, by rw [w.xs_]; rfl, by rw [w.ds_]; rfl, fun z hz => ?_, fun z hz => ?_⟩
        · rcases List.mem_cons.mp hz with rfl | hz
          · exact ha
          · exact w.at_ z hz
        · rcases List.mem_cons.mp hz with rfl | hz
          · exact ⟨hx, hy⟩
          · exact w.bit z hz
theorem cnt_eq {as : List (Addr × Int × Int)} {a b : Int} : ((as.map fun z => (z.1, [V.int z.2.1, V.int z.2.2])).countP fun z => eqVs z.2 [V.int a, V.int b]) = cnt a b (as.map fun z => .tuple [.int z.2.1, .int z.2.2]) := by
  unfold cnt
  rw [List.countP_map, List.countP_map]
  congr 1
  funext z
  show (((z.2.1 == a)) && ((z.2.2 == b) && true)) = (z.2.1 == a && z.2.2 == b)
  rw [Bool.and_true]
theorem rd_count {Q : VK} {l q : Addr} {xs : List V} {ds : List PyData} {as : List (Addr × Int × Int)} {a b : Int} (w : Rws H xs ds as) (hl : SqL K H l xs) (hq : SqT K H q [.int a, .int b]) (k : Q (.int (cnt a b ds : Nat)) H) : rCountT K (.ref l) [.ref q] H Q := by
  refine ⟨l, q, as.map fun z => (z.1, [V.int z.2.1, V.int z.2.2]), [.int a, .int b], rfl, rfl, ?_, fun z hz => ?_, hq, rfl, ?_⟩
  · rw [List.map_map]
    have e := w.xs_
    rw [e] at hl
    exact hl
  · obtain ⟨y, hy, rfl⟩ := List.mem_map.mp hz
    exact ⟨SqT.of (w.at_ y hy), rfl⟩
  · rw [cnt_eq, ← w.ds_]
    exact k
theorem rd_countT {Q : VK} {σ : St} {i : Nat} {l q : Addr} {xs : List V} {ds : List PyData} {as : List (Addr × Int × Int)} {a b : Int} (h0 : σ[i]? = some (some (.ref l))) (w : Rws H xs ds as) (hl : SqL K H l xs) (hq : SqT K H q [.int a, .int b]) (k : Q (.int (cnt a b ds : Nat)) H) : tBM K "list" (rCountT K) (tVar i) (tCons (tC (.ref q)) tNil) σ H Q :=
  ⟨_, h0, .inl ⟨rfl, _, hl⟩, show rCountT K (.ref l) [.ref q] H Q from rd_count w hl hq k⟩
abbrev sCO : Stmt := top 25
def four (ds : List PyData) : List V := [.int (cnt 1 0 ds : Nat), .int (cnt 0 1 ds : Nat), .int (cnt 1 1 ds : Nat), .int (cnt 0 0 ds : Nat)]
def spCO : Sp := fun vs H Q _ => ∃ a xs ds, vs = [.ref a] ∧ H a = some (.lst xs) ∧ RdsAll H xs ds ∧ ds.all lstdD = true ∧ ∀ l H', Ext H H' → H' l = some (.tup (four ds)) → Q (.ref l) H'
theorem scCO : FnScope ["listing"] ["listing"] (defScope sCO) := ⟨rfl, rfl, rfl, by decide +kernel, rfl, by decide +kernel, by decide +kernel⟩
structure Four (K : Frag) (mg : Str → Option Value) (k0 k1 k2 k3 : Addr) : Prop where
  m0 : mg "BETTERED" = some (.ref k0)
  m1 : mg "WORSENED" = some (.ref k1)
  m2 : mg "ALWAYS" = some (.ref k2)
  m3 : mg "NEVER" = some (.ref k3)
  t0 : ∀ H, SqT K H k0 [.int 1, .int 0]
  t1 : ∀ H, SqT K H k1 [.int 0, .int 1]
  t2 : ∀ H, SqT K H k2 [.int 1, .int 1]
  t3 : ∀ H, SqT K H k3 [.int 0, .int 0]
theorem ok_co {f k0 k1 k2 k3 : Addr} {fd : FuncData} (F : Fun K "counts_of" "counts_of" sCO f fd) (T : Four K mg k0 k1 k2 k3) : FnOk P w K mg base CX0 1 f fd ["listing"] spCO := by
  refine F.ok scCO (fun vs H Q E h => ?_) (fun cdv A outer s H vs Q E hr h => ?_)
  · obtain ⟨a, xs, ds, rfl, _⟩ := h
    rfl
  obtain ⟨a, xs, ds, rfl, ha, rs, al, q⟩ := h
  have hu : (A.deeper (PyProof.Rows.envOfC "counts_of" (defScope sCO) s.heap.objs.size f cdv)).units + 1 < cLine := by have := hr.units; omega
  refine ⟨_, pss_one (ps_ret (pe_tup (pa_cons (pe_bm PySem.F.plainAttrs_list PySem.F.slot_list_count PySem.F.type_list_count (mt_countT hu) (pv 0) (pa_cons (pe_glob (v := .ref k0) rfl T.m0 rfl) pa_nil)) (pa_cons (pe_bm PySem.F.plainAttrs_list PySem.F.slot_list_count PySem.F.type_list_count (mt_countT hu) (pv 0) (pa_cons (pe_glob (v := .ref k1) rfl T.m1 rfl) pa_nil))
    (pa_cons (pe_bm PySem.F.plainAttrs_list PySem.F.slot_list_count PySem.F.type_list_count (mt_countT hu) (pv 0) (pa_cons (pe_glob (v := .ref k2) rfl T.m2 rfl) pa_nil)) (pa_cons (pe_bm PySem.F.plainAttrs_list PySem.F.slot_list_count PySem.F.type_list_count (mt_countT hu) (pv 0) (pa_cons (pe_glob (v := .ref k3) rfl T.m3 rfl) pa_nil)) pa_nil)))))), ?_⟩
  obtain ⟨as, w⟩ := rws_of rs al
  have hl := SqL.of (K := K) ha
  have fin : ∀ l, H l = none → Q (.ref l) (upd H l (.tup (four ds))) := fun l hl => q l _ (Ext.new hl) upd_same
  exact rd_countT (i := 0) rfl w hl (T.t0 H) (rd_countT (i := 0) rfl w hl (T.t1 H) (rd_countT (i := 0) rfl w hl (T.t2 H) (rd_countT (i := 0) rfl w hl (T.t3 H) ⟨by show 4 ≤ sizeLine; decide, fin⟩)))
abbrev sLC : Stmt := top 26
def spLC (C : Addr) : Sp := fun vs H Q E => ∃ v d, vs = [v] ∧ Rds H v d ∧ (∀ ds, d = .list ds → ds.length < 10000) ∧ (lgD d = false → ∀ H', Ext H H' → ErrF C "found" v H' E) ∧ (lgD d = true → ∀ ds, d = .list ds → ∀ l H', Ext H H' → H' l = some (.tup (four ds)) → Q (.ref l) H')
theorem scLC : FnScope ["listing"] ["listing"] (defScope sLC) := ⟨rfl, rfl, rfl, by decide +kernel, rfl, by decide +kernel, by decide +kernel⟩
theorem lg_list {d : PyData} (h : lgD d = true) : ∃ ds, d = .list ds ∧ 1 ≤ ds.length ∧ ds.length ≤ 20 ∧ ds.all lstdD = true := by
  match d, h with
  | .list ds, h =>
    have h' : (decide (1 ≤ ds.length) && decide (ds.length ≤ 20) && ds.all lstdD) = true := h
    rw [Bool.and_eq_true, Bool.and_eq_true, decide_eq_true_iff, decide_eq_true_iff] at h'
    exact ⟨ds, rfl, h'.1.1, h'.1.2, h'.2⟩
theorem ok_lc {f C a1 a2 : Addr} {fd d1 d2 : FuncData} (F : Fun K "listing_counts" "listing_counts" sLC f fd) (A1 : Df P w K mg base (CXE P w) 5 "need_listing" ["thing"] (spNG C) a1 d1) (A2 : Df P w K mg base CX0 1 "counts_of" ["listing"] spCO a2 d2) : FnOk P w K mg base (CXE P w) 6 f fd ["listing"] (spLC C) := by
  refine okE F scLC (fun vs H Q E h => ?_) (fun cdv A outer s H vs Q E hr h => ?_)
  · obtain ⟨v, d, rfl, _⟩ := h
    rfl
  obtain ⟨v, d, rfl, rd, big, q1, q2⟩ := h
  have hr1 := hr.mono (show 1 ≤ 5 by decide)
  refine ⟨_, pss_cons (ps_expr (pe_call A1.G hr rfl A1.m A1.kp A1.b .nil passE (pa_cons (pv 0) pa_nil))) (pss_one (ps_ret (pe_call A2.G hr1 rfl A2.m A2.kp A2.b .nil pass0 (pa_cons (pv 0) pa_nil)))), ?_⟩
  refine ⟨_, rfl, v, d, rfl, rd, big, fun lg H' x' => ?_, q1⟩
  obtain ⟨ds, rfl, l1, l20, al⟩ := lg_list lg
  obtain ⟨a, xs, rfl, ha, rs⟩ := rds_lst (rd.mono x')
  exact ⟨_, rfl, a, xs, ds, rfl, ha, rs, al, fun l H2 x2 f2 => q2 lg ds rfl l H2 (x'.trans x2) f2⟩
end
end My
set_option Elab.async false
set_option linter.all false
set_option maxRecDepth 100000
set_option maxHeartbeats 1000000
set_option exponentiation.threshold 10000
namespace My
open PySem PySem.W L2
structure BoxC (H : Hp) (p : Addr) : Prop where
  ex : ∃ a b c : Int, H p = some (.lst [.int a, .int b, .int c]) ∧ 0 ≤ a ∧ 0 ≤ b ∧ b < 2147483629
theorem BoxC.ext {H H' : Hp} {p : Addr} (h : BoxC H p) (x : Ext H H') : BoxC H' p := by
  obtain ⟨a, b, c, e, r⟩ := h.ex
  exact ⟨a, b, c, x _ _ e, r⟩
section
variable {P : Program} {w : World} {K : Frag} {mg : Str → Option Value} {base : Heap}
abbrev sCell : Stmt := top 34
def spCell (K : Frag) : Sp := fun vs H Q _ => ∃ (a : Addr) (ns : List Int) (k : Int), vs = [.ref a, .int k] ∧ SqL K H a (ns.map V.int) ∧ 0 ≤ k ∧ k < 100 ∧ ∀ c : Int, Q (.int c) H
theorem scC : FnScope ["_law_script", "_law_k"] ["_law_script", "_law_k"] (defScope sCell) := ⟨rfl, rfl, rfl, by decide +kernel, rfl, by decide +kernel, by decide +kernel⟩
theorem ok_cell {f : Addr} {fd : FuncData} (F : Fun K "_law_cell" "_law_cell" sCell f fd) (ml : mg "len" = none) : FnOk P w K mg base CX0 1 f fd ["_law_script", "_law_k"] (spCell K) := by
  refine F.ok scC (fun vs H Q E h => ?_) (fun cdv A outer s H vs Q E hr h => ?_)
  · obtain ⟨a, ns, k, rfl, _⟩ := h
    rfl
  obtain ⟨a, ns, k, rfl, hS, h0, h1, q⟩ := h
  refine ⟨_, pss_cons (ps_if (pt_cmpR op_lt (pv 1) (pe_callB call_len_seq rfl ml PySem.boot_len (pa_cons (pv 0) pa_nil)) (nomark _)) (pss_one (ps_ret (pe_ix ix_list (pv 0) (pv 1) (fun _ _ => rfl)))) pss_nil)
    (pss_one (ps_ret (pe_op op_add (pe_op op_mul pe_int (pv 1)) pe_int))), ?_⟩
  refine ⟨_, rfl, _, rfl, a, _, rfl, .inl hS, _, _, rfl, rfl, _, rfl, ?_⟩
  refine ite2 (fun c => ?_) (fun c => ?_)
  · have c' : k < (((ns.map V.int).length : Nat) : Int) := of_decide_eq_true c
    rw [List.length_map] at c'
    have hk : k.toNat < ns.length := by omega
    have ek : k = ((k.toNat : Nat) : Int) := by omega
    have z : atI (ns.map V.int) ((k.toNat : Nat) : Int) = some (.int ns[k.toNat]) := atI_nat (by rw [List.getElem?_map, List.getElem?_eq_getElem hk] <;> rfl)
    rw [← ek] at z
    exact ⟨_, rfl, _, rfl, a, _, _, _, rfl, rfl, hS, z, q _⟩
  · exact ⟨_, rfl, _, _, rfl, rfl, .inl ⟨by decide, by decide⟩, _, _, rfl, rfl, q _⟩
abbrev sBox : Stmt := top 35
def spBox : Sp := fun vs H Q _ => ∃ c : Int, vs = [.int c] ∧ ∀ p H', H p = none → Ext H H' → BoxC H' p → Q (.ref p) H'
theorem scB : FnScope ["_law_cell_here"] ["_law_cell_here"] (defScope sBox) := ⟨rfl, rfl, rfl, by decide +kernel, rfl, by decide +kernel, by decide +kernel⟩
theorem ok_box {f : Addr} {fd : FuncData} (F : Fun K "_law_box" "_law_box" sBox f fd) (mi : mg "int" = none) : FnOk P w K mg base CX0 1 f fd ["_law_cell_here"] spBox := by
  refine F.ok scB (fun vs H Q E h => ?_) (fun cdv A outer s H vs Q E hr h => ?_)
  · obtain ⟨c, rfl, _⟩ := h
    rfl
  obtain ⟨c, rfl, q⟩ := h
  refine ⟨_, pss_one (ps_ret (pe_lst (pa_cons (pe_op op_mul (pv 0) (pe_callTy call_int1 rfl mi PyProof.Rows.boot_int (pa_cons (pe_cmpR op_ge (pv 0) (pe_op op_pow pe_int pe_int) (nomark _)) pa_nil))) (pa_cons (pe_op op_mod (pv 0) pe_int) (pa_cons pe_int pa_nil))))), ?_⟩
  refine ⟨_, rfl, _, rfl, _, _, rfl, rfl, ⟨by decide, by decide, by decide⟩, _, _, rfl, rfl, .inr ⟨_, rfl, _, _, rfl, rfl, ?_, _, rfl, _, _, rfl, rfl, (by show (0 : Int) < 2147483629; decide), by show 3 ≤ sizeLine; decide, fun p hp => ?_⟩⟩
  · refine .inr ⟨?_, ?_⟩ <;> split <;> decide
  · refine q p _ hp (Ext.new hp) ⟨_, _, _, upd_same, ?_, Int.emod_nonneg _ (by decide), Int.emod_lt_of_pos _ (by decide)⟩
    show 0 ≤ c * (if decide ((10 : Int) ^ (18 : Int).toNat ≤ c) = true then 1 else 0)
    split
    · rename_i z
      have z' : (10 : Int) ^ (18 : Int).toNat ≤ c := of_decide_eq_true z
      have z2 : (0 : Int) ≤ 10 ^ (18 : Int).toNat := by decide
      omega
    · omega
abbrev sTake : Stmt := top 36
def spTake : Sp := fun vs H Q _ => ∃ (p : Addr) (m : Int), vs = [.ref p, .int m] ∧ BoxC H p ∧ 0 < m ∧ m < 1073741824 ∧ ∀ (r : Int) (H' : Hp), 0 ≤ r → r < m → BoxC H' p → Kept H H' p → (∀ b, H b = none → H' b = none) → Q (.int r) H'
theorem scT : FnScope ["_law_box_here", "_law_many", "_law_digit", "_law_number"] ["_law_box_here", "_law_many"] (defScope sTake) := ⟨rfl, rfl, rfl, by decide +kernel, rfl, by decide +kernel, by decide +kernel⟩
theorem keptUpd {H : Hp} {p : Addr} (o : HO) : Kept H (upd H p o) p := fun b u h n => by rw [upd_ne n]; exact h
theorem noneUpd {H : Hp} {p : Addr} {o u : HO} (h : H p = some u) : ∀ b, H b = none → upd H p o b = none := fun b hb => by
  rw [upd_ne (fun e => by subst e; rw [h] at hb; cases hb)]; exact hb
theorem ok_take {f : Addr} {fd : FuncData} (F : Fun K "_law_take" "_law_take" sTake f fd) : FnOk P w K mg base CX0 1 f fd ["_law_box_here", "_law_many"] spTake := by
  refine F.ok scT (fun vs H Q E h => ?_) (fun cdv A outer s H vs Q E hr h => ?_)
  · obtain ⟨p, m, rfl, _⟩ := h
    rfl
  obtain ⟨p, m, rfl, ⟨a, b, c, hp, a0, b0, b1⟩, m0, m1, q⟩ := h
  have nd := scT.nd
  refine ⟨_, pss_cons (ps_if (pt_cmpR op_gt (pe_ix ix_list (pv 0) pe_int (fun _ _ => rfl)) pe_int (nomark _))
      (pss_cons (ps_set (i := 2) nd rfl (Or.inl rfl) (pe_op op_mod (pe_ix ix_list (pv 0) pe_int (fun _ _ => rfl)) (pv 1)))
      (pss_cons (ps_asg (pe_op op_fdiv (pe_ix ix_list (pv 0) pe_int (fun _ _ => rfl)) (pv 1)) (pg_sub (pv 0) pe_int set_list))
      (pss_one (ps_ret (pv 2))))) pss_nil)
    (pss_cons (ps_asg (pe_op op_add (pe_ix ix_list (pv 0) pe_int (fun _ _ => rfl)) pe_int) (pg_sub (pv 0) pe_int set_list))
    (pss_cons (ps_set (i := 3) nd rfl (Or.inl rfl) (pe_op op_mod (pe_op op_add (pe_op op_add (pe_op op_mul (pe_ix ix_list (pv 0) pe_int (fun _ _ => rfl)) pe_int) (pe_op op_mul pe_int (pe_ix ix_list (pv 0) pe_int (fun _ _ => rfl)))) pe_int) pe_int))
    (pss_cons (ps_set (i := 3) nd rfl (Or.inl rfl) (pe_op op_mod (pe_op op_add (pe_op op_add (pe_op op_mul (pv 3) (pv 3)) (pe_op op_mul pe_int (pe_ix ix_list (pv 0) pe_int (fun _ _ => rfl)))) pe_int) pe_int))
    (pss_one (ps_ret (pe_op op_mod (pe_op op_fdiv (pe_op op_mod (pe_op op_mul (pv 3) (pe_op op_add (pv 3) pe_int)) pe_int) pe_int) (pv 1))))))), ?_⟩
  have hl := SqL.of (K := K) hp
  refine ⟨_, rfl, p, _, _, _, rfl, rfl, hl, rfl, _, _, rfl, rfl, _, rfl, ?_⟩
  refine ite2 (fun c1 => ?_) (fun c1 => ?_)
  · have c2 : 0 < a := of_decide_eq_true c1
    refine ⟨_, rfl, p, _, _, _, rfl, rfl, hl, rfl, _, rfl, _, _, rfl, rfl, m0, ?_⟩
    refine ⟨_, rfl, p, _, _, _, rfl, rfl, hl, rfl, _, rfl, _, _, rfl, rfl, ⟨m0, m1⟩, _, rfl, p, _, 0, 0, rfl, rfl, hp, rfl, ?_⟩
    exact ⟨_, rfl, q _ _ (Int.emod_nonneg _ (by omega)) (Int.emod_lt_of_pos _ m0) ⟨_, _, _, upd_same, Int.ediv_nonneg (by omega) (by omega), b0, b1⟩ (keptUpd _) (noneUpd hp)⟩
  · refine ⟨_, rfl, p, _, _, _, rfl, rfl, hl, rfl, _, _, rfl, rfl, _, rfl, p, _, 2, 2, rfl, rfl, hp, rfl, ?_⟩
    have k1 : Kept H (upd H p (.lst [.int a, .int b, .int (c + 1)])) p := keptUpd _
    have k2 : ∀ b', H b' = none → upd H p (.lst [.int a, .int b, .int (c + 1)]) b' = none := noneUpd hp
    have f1 : upd H p (.lst [.int a, .int b, .int (c + 1)]) p = some (.lst [.int a, .int b, .int (c + 1)]) := upd_same
    have bx : BoxC (upd H p (.lst [.int a, .int b, .int (c + 1)])) p := ⟨_, _, _, f1, a0, b0, b1⟩
    have hl1 := SqL.of (K := K) f1
    have q1 := fun r h0 h1 => q r _ h0 h1 bx k1 k2
    refine ⟨_, rfl, p, _, _, _, rfl, rfl, hl1, rfl, _, _, rfl, rfl, .inr ⟨by decide, by decide⟩, _, rfl, p, _, _, _, rfl, rfl, hl1, rfl, _, _, rfl, rfl, .inl ⟨by decide, by decide⟩, _, _, rfl, rfl, _, _, rfl, rfl, _, _, rfl, rfl, (by show (0 : Int) < 2147483647; decide), ?_⟩
    have n0 : 0 ≤ (b * 48271 + 12289 * (c + 1) + 77) % 2147483647 := Int.emod_nonneg _ (by decide)
    have n1 : (b * 48271 + 12289 * (c + 1) + 77) % 2147483647 < 2147483647 := Int.emod_lt_of_pos _ (by decide)
    have cm : CMul ((b * 48271 + 12289 * (c + 1) + 77) % 2147483647) ((b * 48271 + 12289 * (c + 1) + 77) % 2147483647) := .inl ⟨Int.lt_of_lt_of_le (by decide) n0, Int.lt_trans n1 (by decide)⟩
    refine ⟨_, rfl, _, rfl, _, _, rfl, rfl, cm, _, rfl, p, _, _, _, rfl, rfl, hl1, rfl, _, _, rfl, rfl, .inl ⟨by decide, by decide⟩, _, _, rfl, rfl, _, _, rfl, rfl, _, _, rfl, rfl, (by show (0 : Int) < 2147483629; decide), ?_⟩
    generalize hn : ((b * 48271 + 12289 * (c + 1) + 77) % 2147483647 * ((b * 48271 + 12289 * (c + 1) + 77) % 2147483647) + 40961 * (c + 1) + 5) % 2147483629 = n2
    have e0 : 0 ≤ n2 := by rw [← hn]; exact Int.emod_nonneg _ (by decide)
    have e1 : n2 < 2147483629 := by rw [← hn]; exact Int.emod_lt_of_pos _ (by decide)
    have cm2 : ∀ y, CMul n2 y := fun y => .inl ⟨Int.lt_of_lt_of_le (by decide) e0, Int.lt_trans e1 (by decide)⟩
    subst hn
    refine ⟨_, rfl, _, rfl, _, _, rfl, rfl, _, _, rfl, rfl, cm2 _, _, _, rfl, rfl, (by show (0 : Int) < 2147483587; decide), _, _, rfl, rfl, ⟨(by show (0 : Int) < 8; decide), (by show (8 : Int) < 1073741824; decide)⟩, _, rfl, _, _, rfl, rfl, m0, ?_⟩
    exact q1 _ (Int.emod_nonneg _ (by omega)) (Int.emod_lt_of_pos _ m0)
end
def intB : PyData → Bool
  | .int _ => true
  | _ => false
section
variable {P : Program} {w : World} {K : Frag} {mg : Str → Option Value} {base : Heap}
abbrev sWh : Stmt := top 37
def spWh : Sp := fun vs H Q _ => ∃ v d, vs = [v] ∧ Rds H v d ∧ Q (.bl (intB d)) H
theorem scWh : FnScope ["_law_found"] ["_law_found"] (defScope sWh) := ⟨rfl, rfl, rfl, by decide +kernel, rfl, by decide +kernel, by decide +kernel⟩
theorem ok_wh {f : Addr} {fd : FuncData} (N : IsT K) (F : Fun K "_law_whole" "_law_whole" sWh f fd) (mi : mg "isinstance" = none) (m1 : mg "int" = none) (m2 : mg "bool" = none) : FnOk P w K mg base CX0 1 f fd ["_law_found"] spWh := by
  refine F.ok scWh (fun vs H Q E h => ?_) (fun cdv A outer s H vs Q E hr h => ?_)
  · obtain ⟨v, d, rfl, _⟩ := h
    rfl
  obtain ⟨v, d, rfl, rd, q⟩ := h
  refine ⟨_, pss_one (ps_ret (pe_and (pe_callB (call_isK N) rfl mi PyProof.Rows.boot_isinstance (pa_cons (pv 0) (pa_cons (pe_ty rfl m1 PyProof.Rows.boot_int) pa_nil)))
    (pe_one (pe_not (pe_callB (call_isK N) rfl mi PyProof.Rows.boot_isinstance (pa_cons (pv 0) (pa_cons (pe_ty rfl m2 PyProof.Rows.boot_bool) pa_nil))))))), ?_⟩
  have isI : kitOne K (.type (kindD d)) (.type "int") = some (intB d || booB d) := by cases rd <;> rfl
  refine ⟨_, rfl, _, _, _, _, rfl, rd.kd, isI, _, rfl, ?_⟩
  cases e1 : intB d with
  | true =>
    rw [e1] at q
    have e2 : booB d = false := by cases d <;> first | rfl | cases e1
    refine itT ⟨_, rfl, _, _, _, _, rfl, rd.kd, rd.isB, _, rfl, ?_⟩
    rw [e2]
    exact q
  | false =>
    rw [e1] at q
    cases e2 : booB d with
    | true =>
      refine itT ⟨_, rfl, _, _, _, _, rfl, rd.kd, rd.isB, _, rfl, ?_⟩
      rw [e2]
      exact q
    | false => exact itF q
end
end My
set_option Elab.async false
set_option linter.all false
set_option maxRecDepth 100000
set_option maxHeartbeats 1000000
namespace My
open PySem PySem.W L2
def bin : Nat → Nat → Nat
  | _, 0 => 1
  | 0, _ + 1 => 0
  | n + 1, k + 1 => bin n k + bin n (k + 1)
theorem bin_0 (n : Nat) : bin n 0 = 1 := by cases n <;> rfl
theorem bin_gt : ∀ {n k : Nat}, n < k → bin n k = 0
  | 0, k + 1, _ => rfl
  | n + 1, k + 1, h => by
    show bin n k + bin n (k + 1) = 0
    rw [bin_gt (by omega), bin_gt (by omega)]
theorem bin_pos : ∀ {n k : Nat}, k ≤ n → 0 < bin n k
  | n, 0, _ => by rw [bin_0]; decide
  | n + 1, k + 1, h => by
    show 0 < bin n k + bin n (k + 1)
    have := bin_pos (n := n) (k := k) (by omega)
    omega
theorem bin_mul : ∀ (n k : Nat), bin n (k + 1) * (k + 1) = bin n k * (n - k)
  | 0, k => by
    show 0 * (k + 1) = bin 0 k * (0 - k)
    rw [Nat.zero_sub, Nat.zero_mul, Nat.mul_zero]
  | n + 1, 0 => by
    have h := bin_mul n 0
    rw [bin_0] at h
    show (bin n 0 + bin n (0 + 1)) * (0 + 1) = bin (n + 1) 0 * (n + 1 - 0)
    rw [bin_0, bin_0, Nat.add_mul, h]
    omega
  | n + 1, k + 1 => by
    have h1 := bin_mul n k
    have h2 := bin_mul n (k + 1)
    show (bin n (k + 1) + bin n (k + 1 + 1)) * (k + 1 + 1) = (bin n k + bin n (k + 1)) * (n + 1 - (k + 1))
    by_cases hk : n ≤ k
    · rw [bin_gt (show n < k + 1 by omega), bin_gt (show n < k + 1 + 1 by omega), show n + 1 - (k + 1) = 0 by omega, Nat.mul_zero]
      omega
    · obtain ⟨x, hx⟩ : ∃ x, n - (k + 1) = x := ⟨_, rfl⟩
      have hy : n - k = x + 1 := by omega
      rw [hx] at h2
      rw [show n + 1 - (k + 1) = x + 1 by omega, Nat.add_mul, Nat.add_mul, h2, ← hy, ← h1, hy, Nat.mul_add, Nat.mul_add, Nat.mul_add]
      omega
theorem bin_next (n k : Nat) : bin n k * (n - k) / (k + 1) = bin n (k + 1) := by
  rw [← bin_mul, Nat.mul_div_cancel _ (by omega)]
def Sm : Nat → (Nat → Nat) → Nat
  | 0, _ => 0
  | n + 1, f => Sm n f + f n
theorem Sm_congr {f g : Nat → Nat} : ∀ {n : Nat}, (∀ i, i < n → f i = g i) → Sm n f = Sm n g
  | 0, _ => rfl
  | n + 1, h => by
    show Sm n f + f n = Sm n g + g n
    rw [Sm_congr fun i hi => h i (by omega), h n (by omega)]
theorem Sm_front (f : Nat → Nat) : ∀ n, Sm (n + 1) f = f 0 + Sm n fun i => f (i + 1)
  | 0 => by show 0 + f 0 = f 0 + 0; omega
  | n + 1 => by
    show Sm (n + 1) f + f (n + 1) = f 0 + (Sm n (fun i => f (i + 1)) + f (n + 1))
    rw [Sm_front f n]
    omega
theorem Sm_add (f g : Nat → Nat) : ∀ n, Sm n (fun i => f i + g i) = Sm n f + Sm n g
  | 0 => rfl
  | n + 1 => by
    show Sm n (fun i => f i + g i) + (f n + g n) = (Sm n f + f n) + (Sm n g + g n)
    rw [Sm_add f g n]
    omega
theorem Sm_zero : ∀ n, Sm n (fun _ => 0) = 0
  | 0 => rfl
  | n + 1 => by show Sm n (fun _ => 0) + 0 = 0; rw [Sm_zero n]
theorem Sm_one {f : Nat → Nat} {k : Nat} : ∀ {n : Nat}, (∀ i, i < n → i ≠ k → f i = 0) → Sm n f = if k < n then f k else 0
  | 0, _ => rfl
  | n + 1, h => by
    show Sm n f + f n = _
    rw [Sm_one (k := k) fun i hi ne => h i (by omega) ne]
    by_cases e : n = k
    · subst e
      rw [if_neg (Nat.lt_irrefl _), if_pos (by omega)]
      omega
    · rw [h n (by omega) e]
      by_cases l : k < n
      · rw [if_pos l, if_pos (by omega)]; omega
      · rw [if_neg l, if_neg (by omega)]
theorem Sm_pascal (a : Nat) (G : Nat → Nat) : Sm (a + 2) (fun i => bin (a + 1) i * G i) = Sm (a + 1) (fun i => bin a i * G i) + Sm (a + 1) (fun i => bin a i * G (i + 1)) := by
  rw [Sm_front]
  have e : ∀ i, bin (a + 1) (i + 1) * G (i + 1) = bin a i * G (i + 1) + bin a (i + 1) * G (i + 1) := fun i => by
    show (bin a i + bin a (i + 1)) * G (i + 1) = _
    rw [Nat.add_mul]
  rw [Sm_congr fun i _ => e i, Sm_add]
  have e2 : bin a 0 * G 0 + Sm (a + 1) (fun i => bin a (i + 1) * G (i + 1)) = Sm (a + 1) (fun i => bin a i * G i) := by
    rw [← Sm_front (fun i => bin a i * G i) (a + 1)]
    show Sm (a + 1) (fun i => bin a i * G i) + bin a (a + 1) * G (a + 1) = _
    rw [bin_gt (by omega), Nat.zero_mul, Nat.add_zero]
  rw [← e2, bin_0, bin_0]
  omega
def EE (f : Int → Int → Nat) : List (Int × Int) → Int → Int → Nat
  | [], u, v => f u v
  | p :: ps, u, v => EE f ps u (v + p.1) + EE f ps (u + 1) (v + p.2)
theorem EE_perm {f : Int → Int → Nat} {L M : List (Int × Int)} (h : L.Perm M) : ∀ u v, EE f L u v = EE f M u v := by
  induction h with
  | nil => exact fun u v => rfl
  | cons p _ ih =>
    intro u v
    show EE f _ u (v + p.1) + EE f _ (u + 1) (v + p.2) = _
    rw [ih, ih]
    rfl
  | swap p q L =>
    intro u v
    show (EE f L u (v + q.1 + p.1) + EE f L (u + 1) (v + q.1 + p.2)) + (EE f L (u + 1) (v + q.2 + p.1) + EE f L (u + 1 + 1) (v + q.2 + p.2)) = (EE f L u (v + p.1 + q.1) + EE f L (u + 1) (v + p.1 + q.2)) + (EE f L (u + 1) (v + p.2 + q.1) + EE f L (u + 1 + 1) (v + p.2 + q.2))
    rw [show v + q.1 + p.1 = v + p.1 + q.1 by omega, show v + q.1 + p.2 = v + p.2 + q.1 by omega, show v + q.2 + p.1 = v + p.1 + q.2 by omega, show v + q.2 + p.2 = v + p.2 + q.2 by omega]
    omega
  | trans _ _ i1 i2 => exact fun u v => (i1 u v).trans (i2 u v)
theorem EE_rep {f : Int → Int → Nat} {p : Int × Int} {M : List (Int × Int)} : ∀ (a : Nat) (u v : Int), EE f (List.replicate a p ++ M) u v = Sm (a + 1) fun i => bin a i * EE f M (u + i) (v + i * p.2 + ((a : Int) - i) * p.1)
  | 0, u, v => by
    show EE f M u v = 0 + bin 0 0 * EE f M (u + ((0 : Nat) : Int)) (v + ((0 : Nat) : Int) * p.2 + (((0 : Nat) : Int) - ((0 : Nat) : Int)) * p.1)
    rw [bin_0]
    simp
  | a + 1, u, v => by
    rw [List.replicate_succ, List.cons_append]
    show EE f (List.replicate a p ++ M) u (v + p.1) + EE f (List.replicate a p ++ M) (u + 1) (v + p.2) = _
    rw [EE_rep a, EE_rep a, Sm_pascal a fun i => EE f M (u + i) (v + i * p.2 + (((a + 1 : Nat) : Int) - i) * p.1)]
    congr 1
    · refine Sm_congr fun i _ => ?_
      congr 2
      rw [show (((a + 1 : Nat) : Int) - i) = ((a : Int) - i) + 1 by omega, Int.add_mul ((a : Int) - i) 1 p.1]
      omega
    · refine Sm_congr fun i _ => ?_
      congr 2
      · omega
      · rw [show (((a + 1 : Nat) : Int) - ((i + 1 : Nat) : Int)) = ((a : Int) - i) by omega, show (((i + 1 : Nat) : Int)) = (i : Int) + 1 by omega, Int.add_mul (i : Int) 1 p.2]
        omega
theorem EE_le {f : Int → Int → Nat} (h : ∀ u v, f u v ≤ 1) : ∀ (L : List (Int × Int)) (u v : Int), EE f L u v ≤ 2 ^ L.length
  | [], u, v => h u v
  | p :: L, u, v => by
    have h1 := EE_le h L u (v + p.1)
    have h2 := EE_le h L (u + 1) (v + p.2)
    show EE f L u (v + p.1) + EE f L (u + 1) (v + p.2) ≤ 2 ^ (L.length + 1)
    rw [Nat.pow_succ]
    omega
theorem EE_pos {f : Int → Int → Nat} {o : Nat} (hf : ∀ v, 0 < f o v) : ∀ (L : List (Int × Int)) (u : Nat) (v : Int), u ≤ o → o - u ≤ L.length → 0 < EE f L u v
  | [], u, v, h1, h2 => by
    have e : u = o := by simp at h2; omega
    subst e
    exact hf v
  | p :: L, u, v, h1, h2 => by
    rw [List.length_cons] at h2
    show 0 < EE f L u (v + p.1) + EE f L (((u : Nat) : Int) + 1) (v + p.2)
    by_cases c : o - u ≤ L.length
    · have := EE_pos hf L u (v + p.1) h1 c
      omega
    · have := EE_pos hf L (u + 1) (v + p.2) (by omega) (by omega)
      rw [show (((u + 1 : Nat) : Int)) = (u : Int) + 1 by omega] at this
      omega
end My
set_option Elab.async false
set_option linter.all false
set_option maxRecDepth 100000
set_option maxHeartbeats 1000000
namespace My
open PySem PySem.W L2
section
variable {α κ : Type} [DecidableEq α] [DecidableEq κ]
def dAt : List (α × Nat) → α → Nat
  | [], _ => 0
  | p :: r, k => if p.1 = k then p.2 else dAt r k
def dAdd : List (α × Nat) → α → Nat → List (α × Nat)
  | [], k, c => [(k, c)]
  | p :: r, k, c => if p.1 = k then (p.1, p.2 + c) :: r else p :: dAdd r k c
def dSet : List (α × Nat) → α → Nat → List (α × Nat)
  | [], k, c => [(k, c)]
  | p :: r, k, c => if p.1 = k then (p.1, c) :: r else p :: dSet r k c
def dS (g : α → Nat) : List (α × Nat) → Nat
  | [] => 0
  | p :: r => p.2 * g p.1 + dS g r
theorem dS_app (g : α → Nat) : ∀ ps qs : List (α × Nat), dS g (ps ++ qs) = dS g ps + dS g qs
  | [], qs => by show dS g qs = 0 + dS g qs; omega
  | p :: r, qs => by show p.2 * g p.1 + dS g (r ++ qs) = p.2 * g p.1 + dS g r + dS g qs; rw [dS_app g r qs]; omega
theorem dS_add (g : α → Nat) (k : α) (c : Nat) : ∀ ps : List (α × Nat), dS g (dAdd ps k c) = dS g ps + c * g k
  | [] => by show c * g k + 0 = 0 + c * g k; omega
  | p :: r => by
    unfold dAdd
    split
    · rename_i e
      show (p.2 + c) * g p.1 + dS g r = p.2 * g p.1 + dS g r + c * g k
      rw [e, Nat.add_mul]
      omega
    · show p.2 * g p.1 + dS g (dAdd r k c) = p.2 * g p.1 + dS g r + c * g k
      rw [dS_add g k c r]
      omega
theorem dAdd_key {k : α} {c : Nat} {x : α} : ∀ {ps : List (α × Nat)}, x ∈ (dAdd ps k c).map (·.1) → x = k ∨ x ∈ ps.map (·.1)
  | [], h => by
    have h' : x ∈ [k] := h
    exact .inl (List.mem_singleton.mp h')
  | p :: r, h => by
    unfold dAdd at h
    split at h
    · exact .inr h
    · rw [List.map_cons] at h
      rcases List.mem_cons.mp h with h | h
      · exact .inr (by rw [List.map_cons]; exact List.mem_cons.mpr (.inl h))
      · rcases dAdd_key h with h | h
        · exact .inl h
        · exact .inr (by rw [List.map_cons]; exact List.mem_cons_of_mem _ h)
theorem dSet_key {k : α} {c : Nat} {x : α} : ∀ {ps : List (α × Nat)}, x ∈ (dSet ps k c).map (·.1) → x = k ∨ x ∈ ps.map (·.1)
  | [], h => by
    have h' : x ∈ [k] := h
    exact .inl (List.mem_singleton.mp h')
  | p :: r, h => by
    unfold dSet at h
    split at h
    · exact .inr h
    · rw [List.map_cons] at h
      rcases List.mem_cons.mp h with h | h
      · exact .inr (by rw [List.map_cons]; exact List.mem_cons.mpr (.inl h))
      · rcases dSet_key h with h | h
        · exact .inl h
        · exact .inr (by rw [List.map_cons]; exact List.mem_cons_of_mem _ h)
structure DOk (ps : List (α × Nat)) : Prop where
  nd : (ps.map (·.1)).Nodup
  pos : ∀ q ∈ ps, 0 < q.2
theorem dok_nil : DOk ([] : List (α × Nat)) := ⟨List.nodup_nil, fun q h => nomatch h⟩
theorem DOk.tail {p : α × Nat} {r : List (α × Nat)} (h : DOk (p :: r)) : DOk r := by
  have nd := h.nd
  rw [List.map_cons, List.nodup_cons] at nd
  exact ⟨nd.2, fun q hq => h.pos q (List.mem_cons_of_mem _ hq)⟩
theorem DOk.add {k : α} {c : Nat} (hc : 0 < c) : ∀ {ps : List (α × Nat)}, DOk ps → DOk (dAdd ps k c)
  | [], _ => ⟨by show ([k] : List α).Nodup; simp, fun q hq => by cases List.mem_singleton.mp (show q ∈ [(k, c)] from hq); exact hc⟩
  | p :: r, h => by
    have nd := h.nd
    rw [List.map_cons, List.nodup_cons] at nd
    have pp := h.pos p (List.mem_cons_self ..)
    unfold dAdd
    split
    · exact ⟨by rw [List.map_cons, List.nodup_cons]; exact nd, fun q hq => by
        rcases List.mem_cons.mp hq with rfl | hq
        · show 0 < p.2 + c; omega
        · exact h.pos q (List.mem_cons_of_mem _ hq)⟩
    · rename_i ne
      have t := (DOk.tail h).add (k := k) hc
      exact ⟨by
        rw [List.map_cons, List.nodup_cons]
        exact ⟨fun z => by
          rcases dAdd_key z with z | z
          · exact ne z
          · exact nd.1 z, t.nd⟩, fun q hq => by
        rcases List.mem_cons.mp hq with rfl | hq
        · exact pp
        · exact t.pos q hq⟩
theorem DOk.set {k : α} {c : Nat} (hc : 0 < c) : ∀ {ps : List (α × Nat)}, DOk ps → DOk (dSet ps k c)
  | [], _ => ⟨by show ([k] : List α).Nodup; simp, fun q hq => by cases List.mem_singleton.mp (show q ∈ [(k, c)] from hq); exact hc⟩
  | p :: r, h => by
    have nd := h.nd
    rw [List.map_cons, List.nodup_cons] at nd
    have pp := h.pos p (List.mem_cons_self ..)
    unfold dSet
    split
    · exact ⟨by rw [List.map_cons, List.nodup_cons]; exact nd, fun q hq => by
        rcases List.mem_cons.mp hq with rfl | hq
        · exact hc
        · exact h.pos q (List.mem_cons_of_mem _ hq)⟩
    · rename_i ne
      have t := (DOk.tail h).set (k := k) hc
      exact ⟨by
        rw [List.map_cons, List.nodup_cons]
        exact ⟨fun z => by
          rcases dSet_key z with z | z
          · exact ne z
          · exact nd.1 z, t.nd⟩, fun q hq => by
        rcases List.mem_cons.mp hq with rfl | hq
        · exact pp
        · exact t.pos q hq⟩
theorem dAt_set {k x : α} {c : Nat} : ∀ {ps : List (α × Nat)}, dAt (dSet ps k c) x = if x = k then c else dAt ps x
  | [] => by
    show (if k = x then c else 0) = if x = k then c else 0
    by_cases e : x = k
    · rw [if_pos e, if_pos e.symm]
    · rw [if_neg e, if_neg (fun z => e z.symm)]
  | p :: r => by
    unfold dSet
    split
    · rename_i e
      show (if p.1 = x then c else dAt r x) = if x = k then c else (if p.1 = x then p.2 else dAt r x)
      by_cases e2 : x = k
      · rw [if_pos e2, if_pos (e.trans e2.symm)]
      · rw [if_neg e2, if_neg (fun z => e2 (z.symm.trans e)), if_neg (fun z => e2 (z.symm.trans e))]
    · rename_i ne
      show (if p.1 = x then p.2 else dAt (dSet r k c) x) = if x = k then c else (if p.1 = x then p.2 else dAt r x)
      by_cases e2 : x = k
      · rw [if_pos e2, if_neg (fun z => ne (z.trans e2)), dAt_set, if_pos e2]
      · rw [if_neg e2, dAt_set, if_neg e2]
theorem dAt_no {k : α} : ∀ {ps : List (α × Nat)}, k ∉ ps.map (·.1) → dAt ps k = 0
  | [], _ => rfl
  | p :: r, h => by
    rw [List.map_cons, List.mem_cons] at h
    unfold dAt
    rw [if_neg (fun z => h (.inl z.symm)), dAt_no (fun z => h (.inr z))]
theorem dS_no {k : α} : ∀ {ps : List (α × Nat)}, k ∉ ps.map (·.1) → dS (fun x => if x = k then 1 else 0) ps = 0
  | [], _ => rfl
  | p :: r, h => by
    rw [List.map_cons, List.mem_cons] at h
    show p.2 * (if p.1 = k then 1 else 0) + dS _ r = 0
    rw [if_neg (fun z => h (.inl z.symm)), dS_no (fun z => h (.inr z))]
    rfl
theorem dAt_S {k : α} : ∀ {ps : List (α × Nat)}, (ps.map (·.1)).Nodup → dAt ps k = dS (fun x => if x = k then 1 else 0) ps
  | [], _ => rfl
  | p :: r, nd => by
    rw [List.map_cons, List.nodup_cons] at nd
    show (if p.1 = k then p.2 else dAt r k) = p.2 * (if p.1 = k then 1 else 0) + dS _ r
    by_cases e : p.1 = k
    · rw [if_pos e, if_pos e, dS_no (by rw [← e]; exact nd.1)]
      omega
    · rw [if_neg e, if_neg e, dAt_S nd.2]
      omega
theorem dAt_mem {q : α × Nat} : ∀ {ps : List (α × Nat)}, (ps.map (·.1)).Nodup → q ∈ ps → dAt ps q.1 = q.2
  | p :: r, nd, h => by
    rw [List.map_cons, List.nodup_cons] at nd
    unfold dAt
    rcases List.mem_cons.mp h with rfl | h
    · rw [if_pos rfl]
    · rw [if_neg (fun z => nd.1 (by rw [z]; exact List.mem_map.mpr ⟨q, h, rfl⟩)), dAt_mem nd.2 h]
theorem DOk.mem {ps : List (α × Nat)} (h : DOk ps) {k : α} : k ∈ ps.map (·.1) ↔ 0 < dAt ps k := by
  constructor
  · intro hk
    obtain ⟨q, hq, rfl⟩ := List.mem_map.mp hk
    rw [dAt_mem h.nd hq]
    exact h.pos q hq
  · intro hk
    refine Classical.byContradiction fun z => ?_
    rw [dAt_no z] at hk
    exact absurd hk (Nat.lt_irrefl _)
theorem dS_sum : ∀ ps : List (α × Nat), ((ps.map fun q => ((q.2 : Nat) : Int)).sum) = ((dS (fun _ => 1) ps : Nat) : Int)
  | [] => rfl
  | p :: r => by
    show ((p.2 : Nat) : Int) + (r.map fun q => ((q.2 : Nat) : Int)).sum = ((p.2 * 1 + dS (fun _ => 1) r : Nat) : Int)
    rw [dS_sum r]
    omega
theorem dS_le {g : α → Nat} : ∀ {ps : List (α × Nat)} {q : α × Nat}, q ∈ ps → q.2 * g q.1 ≤ dS g ps
  | p :: r, q, h => by
    show q.2 * g q.1 ≤ p.2 * g p.1 + dS g r
    rcases List.mem_cons.mp h with rfl | h
    · omega
    · have := dS_le (g := g) h
      omega
theorem dS_fun {g h : α → Nat} : ∀ {ps : List (α × Nat)}, (∀ q ∈ ps, g q.1 = h q.1) → dS g ps = dS h ps
  | [], _ => rfl
  | p :: r, e => by
    show p.2 * g p.1 + dS g r = p.2 * h p.1 + dS h r
    rw [e p (List.mem_cons_self ..), dS_fun fun q hq => e q (List.mem_cons_of_mem _ hq)]
def enc (f : α → κ) (ps : List (α × Nat)) : List (κ × V) := ps.map fun p => (f p.1, V.int (p.2 : Nat))
theorem enc_len {f : α → κ} {ps : List (α × Nat)} : (enc f ps).length = ps.length := List.length_map ..
theorem enc_val {f : α → κ} (inj : ∀ a b, f a = f b → a = b) (k : α) : ∀ {ps : List (α × Nat)}, (valV (enc f ps) (f k) = none ∧ dAt ps k = 0 ∧ k ∉ ps.map (·.1)) ∨ (valV (enc f ps) (f k) = some (.int (dAt ps k : Nat)) ∧ k ∈ ps.map (·.1))
  | [] => .inl ⟨rfl, rfl, by simp⟩
  | p :: r => by
    by_cases e : p.1 = k
    · refine .inr ⟨?_, by rw [List.map_cons, e]; exact List.mem_cons_self ..⟩
      show valV ((f p.1, V.int (p.2 : Nat)) :: enc f r) (f k) = _
      rw [valV_pos (by rw [e])]
      unfold dAt
      rw [if_pos e]
    · have ne : ¬ f p.1 = f k := fun z => e (inj _ _ z)
      have e2 : valV (enc f (p :: r)) (f k) = valV (enc f r) (f k) := by
        show valV ((f p.1, V.int (p.2 : Nat)) :: enc f r) (f k) = _
        rw [valV_neg ne]
      unfold dAt
      rw [if_neg e, e2, List.map_cons, List.mem_cons]
      rcases enc_val inj k (ps := r) with ⟨h1, h2, h3⟩ | ⟨h1, h2⟩
      · exact .inl ⟨h1, h2, fun z => by
          rcases z with z | z
          · exact e z.symm
          · exact h3 z⟩
      · exact .inr ⟨h1, .inr h2⟩
theorem putK_ne' {p : κ × V} {r : List (κ × V)} {k : κ} {v : V} (h : ¬ p.1 = k) : putK (p :: r) k v = p :: putK r k v := by
  unfold putK
  rw [List.any_cons, decide_eq_false h, Bool.false_or]
  split
  · rw [List.map_cons, if_neg h]
  · rfl
theorem putK_eq' {p : κ × V} {r : List (κ × V)} {k : κ} {v : V} (h : p.1 = k) (n : k ∉ r.map (·.1)) : putK (p :: r) k v = (p.1, v) :: r := by
  unfold putK
  rw [List.any_cons, decide_eq_true h, Bool.true_or, if_pos rfl, List.map_cons, if_pos h]
  congr 1
  refine (List.map_congr_left fun q hq => ?_).trans (List.map_id r)
  rw [if_neg (fun z => n (List.mem_map.mpr ⟨q, hq, z⟩))]
  rfl
theorem enc_keys {f : α → κ} {ps : List (α × Nat)} : (enc f ps).map (·.1) = ps.map fun q => f q.1 := by
  unfold enc
  rw [List.map_map]
  rfl
theorem enc_no {f : α → κ} (inj : ∀ a b, f a = f b → a = b) {k : α} {ps : List (α × Nat)} (h : k ∉ ps.map (·.1)) : f k ∉ (enc f ps).map (·.1) := fun z => by
  rw [enc_keys] at z
  obtain ⟨q, hq, e⟩ := List.mem_map.mp z
  exact h (List.mem_map.mpr ⟨q, hq, inj _ _ e⟩)
theorem enc_set {f : α → κ} (inj : ∀ a b, f a = f b → a = b) (k : α) (c : Nat) : ∀ {ps : List (α × Nat)}, (ps.map (·.1)).Nodup → putK (enc f ps) (f k) (.int (c : Nat)) = enc f (dSet ps k c)
  | [], _ => rfl
  | p :: r, nd => by
    rw [List.map_cons, List.nodup_cons] at nd
    show putK ((f p.1, V.int (p.2 : Nat)) :: enc f r) (f k) _ = enc f (dSet (p :: r) k c)
    by_cases e : p.1 = k
    · rw [putK_eq' (by rw [e]) (enc_no inj (by rw [← e]; exact nd.1))]
      unfold dSet
      rw [if_pos e]
      rfl
    · rw [putK_ne' (fun z => e (inj _ _ z)), enc_set inj k c nd.2]
      show _ = enc f (if p.1 = k then (p.1, c) :: r else p :: dSet r k c)
      rw [if_neg e]
      rfl
theorem dSet_add {k : α} {c : Nat} : ∀ {ps : List (α × Nat)}, dSet ps k (dAt ps k + c) = dAdd ps k c
  | [] => by show [(k, 0 + c)] = [(k, c)]; rw [Nat.zero_add]
  | p :: r => by
    unfold dSet dAdd dAt
    by_cases e : p.1 = k
    · rw [if_pos e, if_pos e, if_pos e]
    · rw [if_neg e, if_neg e, if_neg e, dSet_add]
theorem enc_put {f : α → κ} (inj : ∀ a b, f a = f b → a = b) (k : α) (c : Nat) {ps : List (α × Nat)} (nd : (ps.map (·.1)).Nodup) : putK (enc f ps) (f k) (.int (dAt ps k + c : Nat)) = enc f (dAdd ps k c) := by
  rw [enc_set inj k _ nd, dSet_add]
theorem dAdd_len {k : α} {c : Nat} : ∀ (ps : List (α × Nat)), (dAdd ps k c).length ≤ ps.length + 1
  | [] => Nat.le_refl _
  | p :: r => by
    unfold dAdd
    split
    · exact Nat.le_succ _
    · have := dAdd_len (k := k) (c := c) r
      rw [List.length_cons, List.length_cons]
      omega
end
theorem sorted_eq : ∀ {xs ys : List Int}, xs.Pairwise (· ≤ ·) → ys.Pairwise (· ≤ ·) → xs.Nodup → ys.Nodup → (∀ x, x ∈ xs ↔ x ∈ ys) → xs = ys
  | [], [], _, _, _, _, _ => rfl
  | [], y :: ys, _, _, _, _, h => by have := (h y).mpr (List.mem_cons_self ..); cases this
  | x :: xs, [], _, _, _, _, h => by have := (h x).mp (List.mem_cons_self ..); cases this
  | x :: xs, y :: ys, p1, p2, n1, n2, h => by
    rw [List.pairwise_cons] at p1 p2
    rw [List.nodup_cons] at n1 n2
    have e : x = y := by
      have h1 : x ≤ y := by
        rcases List.mem_cons.mp ((h y).mpr (List.mem_cons_self ..)) with e | e
        · omega
        · exact p1.1 y e
      have h2 : y ≤ x := by
        rcases List.mem_cons.mp ((h x).mp (List.mem_cons_self ..)) with e | e
        · omega
        · exact p2.1 x e
      omega
    subst e
    rw [sorted_eq p1.2 p2.2 n1.2 n2.2 fun z => ⟨fun hz => ?_, fun hz => ?_⟩]
    · rcases List.mem_cons.mp ((h z).mp (List.mem_cons_of_mem _ hz)) with e | e
      · subst e; exact absurd hz n1.1
      · exact e
    · rcases List.mem_cons.mp ((h z).mpr (List.mem_cons_of_mem _ hz)) with e | e
      · subst e; exact absurd hz n2.1
      · exact e
theorem few {β : Type} [DecidableEq β] : ∀ {xs ys : List β}, xs.Nodup → (∀ x ∈ xs, x ∈ ys) → xs.length ≤ ys.length
  | [], _, _, _ => Nat.zero_le _
  | x :: xs, ys, nd, h => by
    rw [List.nodup_cons] at nd
    have hx := h x (List.mem_cons_self ..)
    have l := List.length_erase_of_mem hx
    have := few (xs := xs) (ys := ys.erase x) nd.2 fun z hz => (List.mem_erase_of_ne (fun e => by subst e; exact nd.1 hz)).mpr (h z (List.mem_cons_of_mem _ hz))
    have p : 0 < ys.length := List.length_pos_of_mem hx
    rw [List.length_cons]
    omega
end My
set_option Elab.async false
set_option linter.all false
set_option maxRecDepth 100000
set_option maxHeartbeats 1000000
namespace My
open PySem PySem.W L2
def wt2 (O n : Int) (p : Int × Int) : Int × Int := (0 - O * p.2, (n - O) * p.1)
def fg (O : Int) (g : Int → Nat) (u v : Int) : Nat := if u = O then g v else 0
def Bits (L : List (Int × Int)) : Prop := ∀ p ∈ L, (p.1 = 0 ∨ p.1 = 1) ∧ (p.2 = 0 ∨ p.2 = 1)
def rep4 (a b c d : Nat) : List (Int × Int) := List.replicate a (1, 0) ++ (List.replicate b (0, 1) ++ (List.replicate c (1, 1) ++ List.replicate d (0, 0)))
theorem bits_perm : ∀ {L : List (Int × Int)}, Bits L → L.Perm (rep4 (L.count (1, 0)) (L.count (0, 1)) (L.count (1, 1)) (L.count (0, 0)))
  | [], _ => by simp [rep4]
  | p :: L, h => by
    have ih := bits_perm (L := L) fun q hq => h q (List.mem_cons_of_mem _ hq)
    obtain ⟨h1, h2⟩ := h p (List.mem_cons_self ..)
    obtain ⟨x, y⟩ := p
    have h1 : x = 0 ∨ x = 1 := h1
    have h2 : y = 0 ∨ y = 1 := h2
    have st := List.Perm.cons (x, y) ih
    refine st.trans ?_
    unfold rep4
    rcases h1 with rfl | rfl <;> rcases h2 with rfl | rfl
    · rw [List.count_cons_of_ne (by decide), List.count_cons_of_ne (by decide), List.count_cons_of_ne (by decide), List.count_cons_self, List.replicate_succ]
      rw [← List.append_assoc, ← List.append_assoc, ← List.append_assoc, ← List.append_assoc]
      exact List.perm_middle.symm
    · rw [List.count_cons_of_ne (by decide), List.count_cons_self, List.count_cons_of_ne (by decide), List.count_cons_of_ne (by decide), List.replicate_succ (n := List.count (0, 1) L), List.cons_append]
      exact List.perm_middle.symm
    · rw [List.count_cons_self, List.count_cons_of_ne (by decide), List.count_cons_of_ne (by decide), List.count_cons_of_ne (by decide), List.replicate_succ, List.cons_append]
    · rw [List.count_cons_of_ne (by decide), List.count_cons_of_ne (by decide), List.count_cons_self, List.count_cons_of_ne (by decide), List.replicate_succ (n := List.count (1, 1) L), List.cons_append]
      generalize List.replicate (List.count (1, 0) L) ((1 : Int), (0 : Int)) = A
      generalize List.replicate (List.count (0, 1) L) ((0 : Int), (1 : Int)) = B
      generalize List.replicate (List.count (1, 1) L) ((1 : Int), (1 : Int)) = C
      generalize List.replicate (List.count (0, 0) L) ((0 : Int), (0 : Int)) = D
      rw [← List.append_assoc A B (C ++ D), ← List.append_assoc A B ((1, 1) :: (C ++ D))]
      exact List.perm_middle.symm
def valU (O n b c : Int) (i j k : Int) : Int := (n - O) * (i + k) - O * (b - j + c - k)
abbrev Q4 := Int × Int × Int × Int
def rows1 (O : Int) (a b c d : Nat) (i j k : Nat) : List (Q4 × Nat) := if 0 ≤ O - i - j - k ∧ O - i - j - k ≤ d then [(((i : Int), (j : Int), (k : Int), O - i - j - k), bin a i * bin b j * bin c k * bin d (O - i - j - k).toNat)] else []
def rows2 (O : Int) (a b c d : Nat) (i j m : Nat) : List (Q4 × Nat) := (List.range m).flatMap (rows1 O a b c d i j)
def rows3 (O : Int) (a b c d : Nat) (i m : Nat) : List (Q4 × Nat) := (List.range m).flatMap fun j => rows2 O a b c d i j (c + 1)
def rows4 (O : Int) (a b c d : Nat) (m : Nat) : List (Q4 × Nat) := (List.range m).flatMap fun i => rows3 O a b c d i (b + 1)
theorem flat_succ {β : Type} (f : Nat → List β) (n : Nat) : (List.range (n + 1)).flatMap f = (List.range n).flatMap f ++ f n := by
  rw [List.range_succ, List.flatMap_append]
  simp
theorem dS_flat {α : Type} [DecidableEq α] (G : α → Nat) (f : Nat → List (α × Nat)) : ∀ n, dS G ((List.range n).flatMap f) = Sm n fun i => dS G (f i)
  | 0 => rfl
  | n + 1 => by
    rw [flat_succ, dS_app, dS_flat G f n]
    rfl
def v4 (O n b c : Int) (q : Q4) : Int := valU O n b c q.1 q.2.1 q.2.2.1
theorem EE_last {O : Int} {g : Int → Nat} (d : Nat) (u v : Int) : EE (fg O g) (List.replicate d ((0 : Int), (0 : Int))) u v = if 0 ≤ O - u ∧ O - u ≤ d then bin d (O - u).toNat * g v else 0 := by
  have e := EE_rep (f := fg O g) (p := (0, 0)) (M := []) d u v
  rw [List.append_nil] at e
  rw [e]
  have e2 : ∀ i : Nat, bin d i * EE (fg O g) [] (u + i) (v + i * (0 : Int) + ((d : Int) - i) * (0 : Int)) = bin d i * fg O g (u + i) v := fun i => by
    rw [Int.mul_zero, Int.mul_zero, Int.add_zero, Int.add_zero]
    rfl
  rw [Sm_congr fun i _ => e2 i]
  by_cases h : 0 ≤ O - u
  · rw [Sm_one (k := (O - u).toNat) fun i _ ne => ?_]
    · by_cases h2 : O - u ≤ d
      · rw [if_pos (by omega), if_pos ⟨h, h2⟩]
        unfold fg
        rw [if_pos (by omega)]
      · rw [if_neg (by omega), if_neg (fun z => h2 z.2)]
    · unfold fg
      rw [if_neg (by omega), Nat.mul_zero]
  · rw [if_neg (fun z => h z.1)]
    rw [Sm_congr (g := fun _ => 0) fun i _ => ?_, Sm_zero]
    unfold fg
    rw [if_neg (by omega), Nat.mul_zero]
theorem Sm_mul (x : Nat) (f : Nat → Nat) : ∀ n, x * Sm n f = Sm n fun i => x * f i
  | 0 => rfl
  | n + 1 => by
    show x * (Sm n f + f n) = Sm n (fun i => x * f i) + x * f n
    rw [Nat.mul_add, Sm_mul x f n]
theorem ways_eq {L : List (Int × Int)} (h : Bits L) (O n : Int) (g : Int → Nat) : EE (fg O g) (L.map (wt2 O n)) 0 0 = dS (fun q => g (v4 O n (L.count (0, 1) : Nat) (L.count (1, 1) : Nat) q)) (rows4 O (L.count (1, 0)) (L.count (0, 1)) (L.count (1, 1)) (L.count (0, 0)) (L.count (1, 0) + 1)) := by
  rw [EE_perm ((bits_perm h).map (wt2 O n))]
  generalize L.count (1, 0) = a
  generalize L.count (0, 1) = b
  generalize L.count (1, 1) = c
  generalize L.count (0, 0) = d
  unfold rep4
  rw [List.map_append, List.map_append, List.map_append, List.map_replicate, List.map_replicate, List.map_replicate, List.map_replicate]
  have w0 : wt2 O n (1, 0) = (0, n - O) := by show (0 - O * 0, (n - O) * 1) = _; rw [Int.mul_zero, Int.mul_one, Int.sub_zero]
  have w1 : wt2 O n (0, 1) = (- O, 0) := by show (0 - O * 1, (n - O) * 0) = _; rw [Int.mul_zero, Int.mul_one, Int.zero_sub]
  have w2 : wt2 O n (1, 1) = (- O, n - O) := by show (0 - O * 1, (n - O) * 1) = _; rw [Int.mul_one, Int.mul_one, Int.zero_sub]
  have w3 : wt2 O n (0, 0) = (0, 0) := by show (0 - O * 0, (n - O) * 0) = _; rw [Int.mul_zero, Int.mul_zero, Int.sub_zero]
  rw [w0, w1, w2, w3, EE_rep]
  unfold rows4
  rw [dS_flat]
  refine Sm_congr fun i _ => ?_
  rw [EE_rep, Sm_mul]
  unfold rows3
  rw [dS_flat]
  refine Sm_congr fun j _ => ?_
  rw [EE_rep, Sm_mul, Sm_mul]
  unfold rows2
  rw [dS_flat]
  refine Sm_congr fun k _ => ?_
  rw [EE_last]
  unfold rows1
  have eu : O - (0 + (i : Int) + (j : Int) + (k : Int)) = O - i - j - k := by omega
  rw [eu]
  by_cases hc : 0 ≤ O - i - j - k ∧ O - i - j - k ≤ d
  · rw [if_pos hc, if_pos hc]
    show _ = bin a i * bin b j * bin c k * bin d (O - i - j - k).toNat * g (valU O n b c i j k) + 0
    simp only [Nat.add_zero, Nat.mul_assoc]
    congr 5
    unfold valU
    show 0 + (i : Int) * (n - O) + ((a : Int) - i) * 0 + (j : Int) * 0 + ((b : Int) - j) * (- O) + (k : Int) * (n - O) + ((c : Int) - k) * (- O) = (n - O) * ((i : Int) + k) - O * ((b : Int) - j + c - k)
    rw [Int.mul_zero, Int.mul_zero, Int.mul_neg, Int.mul_neg, Int.mul_add, show (b : Int) - j + c - k = (b - j) + (c - k) by omega, Int.mul_add, Int.mul_comm (i : Int), Int.mul_comm (k : Int), Int.mul_comm O, Int.mul_comm O]
    omega
  · rw [if_neg hc, if_neg hc]
    rfl
def pop : Nat → Nat → Nat
  | 0, _ => 0
  | n + 1, x => x % 2 + pop n (x / 2)
def wor : List (Int × Int) → Nat → Int
  | [], _ => 0
  | p :: W, x => (if x % 2 = 1 then p.2 else p.1) + wor W (x / 2)
theorem Sm_two (f : Nat → Nat) : ∀ m, Sm (2 * m) f = Sm m fun y => f (2 * y) + f (2 * y + 1)
  | 0 => rfl
  | m + 1 => by
    show Sm (2 * m + 1 + 1) f = Sm m (fun y => f (2 * y) + f (2 * y + 1)) + (f (2 * m) + f (2 * m + 1))
    show Sm (2 * m) f + f (2 * m) + f (2 * m + 1) = _
    rw [Sm_two f m]
    omega
theorem brute_eq {f : Int → Int → Nat} : ∀ (W : List (Int × Int)) (u v : Int), Sm (2 ^ W.length) (fun x => f (u + (pop W.length x : Nat)) (v + wor W x)) = EE f W u v
  | [], u, v => by
    show 0 + f (u + ((0 : Nat) : Int)) (v + 0) = f u v
    simp
  | p :: W, u, v => by
    rw [List.length_cons, Nat.pow_succ, Nat.mul_comm, Sm_two, Sm_add]
    show _ = EE f W u (v + p.1) + EE f W (u + 1) (v + p.2)
    rw [← brute_eq W u (v + p.1), ← brute_eq W (u + 1) (v + p.2)]
    congr 1
    · refine Sm_congr fun y _ => ?_
      have e1 : 2 * y % 2 = 0 := by omega
      have e2 : 2 * y / 2 = y := by omega
      congr 1
      · show u + ((2 * y % 2 + pop W.length (2 * y / 2) : Nat) : Int) = _
        rw [e1, e2, Nat.zero_add]
      · show v + ((if 2 * y % 2 = 1 then p.2 else p.1) + wor W (2 * y / 2)) = _
        rw [e1, e2, if_neg (by decide)]
        omega
    · refine Sm_congr fun y _ => ?_
      have e1 : (2 * y + 1) % 2 = 1 := by omega
      have e2 : (2 * y + 1) / 2 = y := by omega
      congr 1
      · show u + (((2 * y + 1) % 2 + pop W.length ((2 * y + 1) / 2) : Nat) : Int) = _
        rw [e1, e2]
        omega
      · show v + ((if (2 * y + 1) % 2 = 1 then p.2 else p.1) + wor W ((2 * y + 1) / 2)) = _
        rw [e1, e2, if_pos rfl]
        omega
end My
set_option Elab.async false
set_option linter.all false
set_option maxRecDepth 100000
set_option maxHeartbeats 1000000
namespace My
open PySem PySem.W L2
theorem compG0 {X : Cx} {sc : Scope} {ts : List Str} {L : List (Str × NameKind)} (clos : closureFor sc X.env = pure []) (kind : sc.kind = .function) (nc : ∀ y ∈ sc.names, y.2 ≠ .cell) (nm : ∀ y ∈ sc.names, y.2 = .local → sc.names.lookup y.1 = some .local) (var : ∀ x ∈ ts, sc.names.lookup x = some .local)
    (rl : (relabel sc X.env).names = L) (has : ∀ y ∈ L, ¬(y.2 = .cell ∨ y.2 = .free)) (nd : (ts ++ []).Nodup) : CompG X sc [] ts [] [] := by
  refine ⟨clos, kind, nc, nm, var, (fun z c h => by cases h), fun z h => ?_, nd, (fun k z h => by simp at h), rfl⟩
  rw [rl] at h
  rcases h with h | h
  · exact absurd (.inl rfl) (has _ (PySem.mem_of_lookup h))
  · exact absurd (.inr rfl) (has _ (PySem.mem_of_lookup h))
end My
set_option Elab.async false
set_option linter.all false
set_option maxRecDepth 100000
set_option maxHeartbeats 4000000
namespace My
open PySem L2
theorem look_ne {z x : Str} {c d : Addr} {cl : List (Str × Addr)} (n : z ≠ x) (h : cl.lookup z = some c) : List.lookup z ((x, d) :: cl) = some c := by
  rw [List.lookup_cons, beq_eq_false_iff_ne.mpr n]; exact h
theorem look_eq {x : Str} {d : Addr} {cl : List (Str × Addr)} : List.lookup x ((x, d) :: cl) = some d := by
  rw [List.lookup_cons, beq_self_eq_true]
section
variable {X : Cx} {pins : List (Addr × Obj)} {σ : St} {H : Hp} {s : Shared} {sc : Scope} {cl : List (Str × Addr)} {x : Str} {ts zs : List Str} {js : List Nat} {C : Addr} {fp : List Addr}
end
section
variable {X : Cx} {sc : Scope} {cl : List (Str × Addr)} {x : Str} {ts zs : List Str} {js : List Nat} {elt iter : Expr} {pos : Pos} {tg : Expr} {g : TG} {wi : TI} {te : TE}
end
end My
set_option Elab.async false
set_option linter.all false
set_option maxRecDepth 100000
set_option maxHeartbeats 1000000
namespace My
open PySem PySem.W L2
theorem look_some : ∀ {cl : List (Str × Addr)} {z : Str}, z ∈ cl.map (·.1) → ∃ c, cl.lookup z = some c
  | (x, d) :: cl, z, h => by
    by_cases e : z = x
    · subst e; exact ⟨d, look_eq⟩
    · rw [List.map_cons, List.mem_cons] at h
      rcases h with h | h
      · exact absurd h e
      · obtain ⟨c, hc⟩ := look_some h
        exact ⟨c, look_ne e hc⟩
theorem compGn {X : Cx} {sc : Scope} {cl : List (Str × Addr)} {ts zs : List Str} {js : List Nat} {M : List Str} {L : List (Str × NameKind)} (clos : closureFor sc X.env = pure cl) (kind : sc.kind = .function) (nc : ∀ y ∈ sc.names, y.2 ≠ .cell) (nm : ∀ y ∈ sc.names, y.2 = .local → sc.names.lookup y.1 = some .local) (var : ∀ x ∈ ts, sc.names.lookup x = some .local)
    (hM : cl.map (·.1) = M) (hc : cl.map (fun y => X.env.cells.lookup y.1) = cl.map (fun y => some y.2)) (rl : (relabel sc X.env).names = L) (has : ∀ y ∈ L, (y.2 = .cell ∨ y.2 = .free) → y.1 ∈ M) (nd : (ts ++ zs).Nodup)
    (hj : zs.map some = js.map (fun j => X.N[j]?)) (hv : zs.map (fun z => X.env.scope.names.lookup z) = zs.map (fun _ => some .cell)) (hl : zs.map (fun z => L.lookup z) = zs.map (fun _ => some .cell)) : CompG X sc cl ts zs js := by
  have ln : js.length = zs.length := by have := congrArg List.length hj; simpa using this.symm
  refine ⟨clos, kind, nc, nm, var, fun z c h => ?_, fun z h => ?_, nd, fun k z h => ?_, ln⟩
  · have m := PySem.mem_of_lookup h
    obtain ⟨i, hi, e⟩ := List.getElem_of_mem m
    have q := congrArg (fun l => l[i]?) hc
    simp only [List.getElem?_map, List.getElem?_eq_getElem hi, e, Option.map_some] at q
    exact Option.some.inj q
  · rw [rl] at h
    refine look_some ?_
    rw [hM]
    rcases h with h | h
    · exact has _ (PySem.mem_of_lookup h) (.inl rfl)
    · exact has _ (PySem.mem_of_lookup h) (.inr rfl)
  · have hk : k < zs.length := (List.getElem?_eq_some_iff.mp h).1
    have hk' : k < js.length := by rw [ln]; exact hk
    have q := congrArg (fun l => l[k]?) hj
    simp only [List.getElem?_map, h, List.getElem?_eq_getElem hk', Option.map_some] at q
    have v := congrArg (fun l => l[k]?) hv
    simp only [List.getElem?_map, h, Option.map_some] at v
    have u := congrArg (fun l => l[k]?) hl
    simp only [List.getElem?_map, h, Option.map_some] at u
    have v' : X.env.scope.names.lookup z = some .cell := Option.some.inj v
    refine ⟨js[k], List.getElem?_eq_getElem hk', (Option.some.inj q).symm, .inr (.inl v'), fun e => ?_, .inl (by rw [rl]; exact Option.some.inj u)⟩
    have e' : X.env.scope.names.lookup z = some .local := e
    rw [v'] at e'; cases e'
end My
set_option Elab.async false
set_option linter.all false
set_option maxRecDepth 100000
set_option maxHeartbeats 1000000
namespace My
open PySem PySem.W L2
section
variable {X : Cx}
def rSumT (K : Frag) : List V → Hp → VK → Prop := fun vs H Q => ∃ (l : Addr) (ns : List Int), vs = [.ref l] ∧ SqT K H l (ns.map V.int) ∧ Q (.int ns.sum) H
theorem call_sumT (hc : X.calm = true) : CallR X (.builtin "sum") (rSumT X.K) := by
  intro pins s σ H xs us Q I r h
  obtain ⟨l, ns, rfl, hl, q⟩ := h
  obtain ⟨u, rfl, ru⟩ := vals1 r
  cases (show u = Value.ref l from ru)
  obtain ⟨its, rv, p, hz⟩ := I.tuple hl
  have hT : s.heap.IsTuple l its.toArray := p
  have hlt : l < s.heap.objs.size := by
    obtain ⟨o, h, _⟩ := hT
    exact Heap.lt_size h
  refine call_sum_walkG (wpAny_pyIter_tuple hT ?_)
  refine ⟨s.heap.objs.size, _, _, _, _, _, fun i => ns.getD i 0, rfl, Walks.tuple (A := X.A.in1) (show (X.A.in1).handled = none from I.ok.hd hc) _ l (Nat.ne_of_lt hlt) its.toArray, ⟨⟨_, Heap.get?_push_size _ rfl, rfl, rfl⟩, ?_⟩, ?_, ?_, ?_⟩
  · obtain ⟨o, h1, h2⟩ := hT
    exact ⟨o, Heap.get?_push_of_some _ h1, h2⟩
  · intro b hb
    show b < (s.heap.push _).objs.size
    rw [Heap.size_push]
    simp only [List.mem_cons, List.not_mem_nil, or_false] at hb
    rcases hb with rfl | rfl
    · exact Nat.lt_succ_self _
    · exact Nat.lt_succ_of_lt hlt
  · intro i v hv
    have hv' : its[i]? = some v := by simpa using hv
    obtain ⟨xs, rfl, rfl⟩ := ints_items rv
    rw [List.getElem?_map] at hv'
    obtain ⟨p, hp, rfl⟩ := Option.map_eq_some_iff.mp hv'
    refine ⟨p.2, ?_⟩
    show Value.int p.1 p.2 = Value.int ((xs.map (·.1)).getD i 0) p.2
    rw [List.getD_eq_getElem?_getD, List.getElem?_map, hp]
    rfl
  · intro h' tk t' k
    have ln : its.toArray.size = ns.length := by have := rv.length; rw [List.length_map] at this; simp; omega
    rw [ln, pre_sum]
    exact ⟨.int _, H, I.kept (t' := tk) fun b o eb => k b o (fun z => by rw [List.mem_singleton.mp z] at eb; exact absurd (Heap.lt_size eb) (Nat.lt_irrefl _)) (Heap.get?_push_of_some _ eb), ⟨_, rfl⟩, q⟩
end
end My
set_option Elab.async false
set_option linter.all false
set_option maxRecDepth 100000
set_option maxHeartbeats 1000000
set_option exponentiation.threshold 10000
namespace My
open PySem PySem.W L2
def sumD : List PyData → Int
  | .int i :: r => i + sumD r
  | _ :: r => sumD r
  | [] => 0
def cntsD : PyData → Bool
  | .tuple ds => decide (ds.length = 4) && (ds.all (inD 0 20) && inD 1 20 (.int (sumD ds)))
  | _ => false
theorem ints_of {G : Hp} : ∀ {xs : List V} {ds : List PyData}, RdsAll G xs ds → ds.all (inD 0 20) = true → ∃ ns : List Int, xs = ns.map V.int ∧ ds = ns.map PyData.int ∧ sumD ds = ns.sum ∧ ∀ n ∈ ns, 0 ≤ n ∧ n ≤ 20
  | _, _, .nil, _ => ⟨[], rfl, rfl, rfl, fun n h => nomatch h⟩
  | _, _, .cons (d := d) r t, h => by
    rw [List.all_cons, Bool.and_eq_true] at h
    obtain ⟨i, rfl, h1, h2⟩ := inD_int h.1
    obtain ⟨ns, rfl, rfl, e, b⟩ := ints_of t h.2
    cases r
    refine ⟨i :: ns, rfl, rfl, ?_, fun n hn => ?_⟩
    · show i + sumD _ = _
      rw [e, List.sum_cons]
    · rcases List.mem_cons.mp hn with rfl | hn
      · exact ⟨h1, h2⟩
      · exact b n hn
section
variable {P : Program} {w : World} {K : Frag} {mg : Str → Option Value} {base : Heap}
abbrev sAC : Stmt := top 27
def spAC : Sp := fun vs H Q _ => ∃ v d, vs = [v] ∧ Rds H v d ∧ (∀ H', Ext H H' → Q (.bl (cntsD d)) H')
theorem scAC : FnScope ["thing"] ["thing"] (defScope sAC) := ⟨rfl, rfl, rfl, by decide +kernel, rfl, by decide +kernel, by decide +kernel⟩
abbrev scACc : Scope := { kind := .function, names := [(".0", .local), ("count", .local), ("is_whole", .globalImplicit), ("MOST_FOLK", .globalImplicit)], isGenerator := false, isCoroutine := false }
theorem compAC {X : Cx} : CompG X scACc [] ["count"] [] [] := compG0 (L := [(".0", .local), ("count", .local), ("is_whole", .globalImplicit), ("MOST_FOLK", .globalImplicit)]) rfl rfl (by decide +kernel) (by decide +kernel) (by decide +kernel) rfl (by decide +kernel) (by decide +kernel)
theorem nd_count : ((["count"] : List Str) ++ ([] : List Str)).Nodup := by decide +kernel
theorem ok_ac {f a1 : Addr} {fd d1 : FuncData} {t20 : Tok} (N : IsT K) (F : Fun K "are_counts" "are_counts" sAC f fd) (A1 : Df P w K mg base CX0 2 "is_whole" ["thing", "low", "high"] (spIsWh K) a1 d1) (m20 : mg "MOST_FOLK" = some (.int 20 t20))
    (mi : mg "isinstance" = none) (mt : mg "tuple" = none) (ml : mg "len" = none) (ma : mg "all" = none) (ms : mg "sum" = none) : FnOk P w K mg base CX0 3 f fd ["thing"] spAC := by
  refine F.ok scAC (fun vs H Q E h => ?_) (fun cdv A outer s H vs Q E hr h => ?_)
  · obtain ⟨v, d, rfl, _⟩ := h
    rfl
  obtain ⟨v, d, rfl, rd, q⟩ := h
  refine ⟨_, pss_cons (ps_if (PW.pt (pw_or (pt_not (pt_val (pe_callB (call_isK N) rfl mi PyProof.Rows.boot_isinstance (pa_cons (pv 0) (pa_cons (pe_ty rfl mt PyProof.Rows.boot_tuple) pa_nil))))) (pw_or1 (pt_cmpR op_ne (pe_callB call_len_seq rfl ml PySem.boot_len (pa_cons (pv 0) pa_nil)) pe_int (nomark _))))) (pss_one (ps_ret pe_bl)) pss_nil)
    (pss_cons (ps_if (pt_not (pt_val (pe_callB (call_all rfl) rfl ma PyProof.Rows.boot_all (pa_cons (pe_lcG (te := tCall (spIsWh K) [] E0 (tCons (tVar 0) (tCons (tC (.int 0)) (tCons (tC (.int 20)) tNil)))) rfl compAC (pi_tup (pv 0)) (fun s H C fp => pg_name (i := 0) nd_count rfl (Or.inl rfl)) (fun s H C fp => by exact pe_call A1.G hr rfl A1.m A1.kp A1.b .nil pass0 (pa_cons (pv 0) (pa_cons pe_int (pa_cons (pe_glob (v := .int 20) rfl m20 ⟨_, rfl⟩) pa_nil))))) pa_nil)))) (pss_one (ps_ret pe_bl)) pss_nil)
    (pss_one (ps_ret (pe_call A1.G hr rfl A1.m A1.kp A1.b .nil pass0 (pa_cons (pe_callB (call_sumT rfl) rfl ms PyProof.Rows.boot_sum (pa_cons (pv 0) pa_nil)) (pa_cons pe_int (pa_cons (pe_glob (v := .int 20) rfl m20 ⟨_, rfl⟩) pa_nil))))))), ?_⟩
  refine ⟨_, rfl, _, _, _, _, rfl, rd.kd, rd.isT, _, rfl, ?_⟩
  cases e : tupB d with
  | false =>
    refine itT (itT ?_)
    have z : cntsD d = false := by cases d <;> first | rfl | cases e
    rw [z] at q
    exact q H (Ext.refl _)
  | true =>
    obtain ⟨ds, rfl⟩ : ∃ ds, d = .tuple ds := by cases d <;> first | exact ⟨_, rfl⟩ | cases e
    obtain ⟨a, xs, rfl, ha, rs⟩ := rds_tup rd
    have len := rs.length
    refine itF ⟨_, rfl, a, _, rfl, .inr (SqT.of ha), rfl, _, rfl, ?_⟩
    have qq : ∀ H', Ext H H' → Q (.bl (decide (ds.length = 4) && (ds.all (inD 0 20) && inD 1 20 (.int (sumD ds))))) H' := q
    by_cases l4 : ds.length = 4
    · have e1 : (!decide (V.int (xs.length : Nat) = V.int 4)) = false := by
        rw [len, l4]
        rfl
      rw [e1]
      refine itF ?_
      rw [decide_eq_true l4, Bool.true_and] at qq
      refine ⟨_, rfl, a, rfl, ⟨_, SqT.of ha⟩, fun D hD => ?_⟩
      refine lcG_it (n := xs.length) (fun i ys H' => Ext H H' ∧ ys = (ds.take i).map fun d => V.bl (inD 0 20 d)) (by rw [len, l4, sizeLine_eq]; omega) ⟨Ext.new hD, rfl⟩ (fun i ys H' hi p => ⟨xs, xs[i], SqT.of (p.1 _ _ ha), List.getElem?_eq_getElem hi⟩) (fun ys H' p => ⟨xs, SqT.of (p.1 _ _ ha), Nat.le_refl _⟩) ?_ ?_
      · rintro i x ys H' H3 hi ⟨rfl, hy⟩ ly hD' ⟨x', rfl⟩ os los R k
        have ex := hy xs (SqT.of (x' _ _ ha))
        obtain ⟨d, ed, rv⟩ := rs.get ex
        match os, los with
        | [o0], _ =>
          refine ⟨⟨[some x], rfl, rfl⟩, _, rfl, x, 0, 20, rfl, (rv.mono x').th, ?_⟩
          rw [rv.inB]
          refine k _ _ hD' ⟨ext_upd _ x' hD, ?_⟩
          rw [take_all ed, List.map_append]
          rfl
      · rintro ys H' ly hD' ⟨x', rfl⟩
        refine ⟨D, ds.map (inD 0 20), rfl, ?_, ?_⟩
        · rw [len, List.take_length] at hD'
          rw [List.map_map]
          exact SqL.of hD'
        · have e3 : (ds.map (inD 0 20)).all id = ds.all (inD 0 20) := by rw [List.all_map]; rfl
          rw [e3]
          refine ⟨_, rfl, ?_⟩
          cases ea : ds.all (inD 0 20) with
          | false =>
            rw [ea] at qq
            exact itT (qq H' x')
          | true =>
            rw [ea, Bool.true_and] at qq
            obtain ⟨ns, rfl, rfl, es, _⟩ := ints_of rs ea
            refine itF ⟨_, rfl, a, ns, rfl, SqT.of (x' _ _ ha), .int ns.sum, 1, 20, rfl, .inl ⟨_, rfl⟩, ?_⟩
            rw [es] at qq
            exact qq H' x'
    · have e1 : (!decide (V.int (xs.length : Nat) = V.int 4)) = true := by
        rw [decide_eq_false]
        · rfl
        · intro h
          injection h with h
          omega
      rw [e1]
      refine itT ?_
      rw [decide_eq_false l4] at qq
      exact qq H (Ext.refl _)
abbrev sCh : Stmt := top 28
def binL (n m : Nat) : List Int := (List.range m).map fun i => ((bin n i : Nat) : Int)
def spCh : Sp := fun vs H Q _ => ∃ n : Nat, vs = [.int (n : Nat)] ∧ n ≤ 20 ∧ ∀ l H', H l = none → H' l = some (.lst ((binL n (n + 1)).map V.int)) → (∀ b, b ≠ l → H' b = H b) → Q (.ref l) H'
theorem scCh : FnScope ["many", "ways", "chosen"] ["many"] (defScope sCh) := ⟨rfl, rfl, rfl, by decide +kernel, rfl, by decide +kernel, by decide +kernel⟩
theorem binL_succ (n m : Nat) : binL n (m + 1) = binL n m ++ [((bin n m : Nat) : Int)] := by
  unfold binL
  rw [List.range_succ, List.map_append]
  rfl
theorem atI_last {α : Type} {xs : List α} {x : α} : atI (xs ++ [x]) (-1) = some x := by
  unfold atI ixN
  rw [if_neg (by decide), if_pos (by rw [List.length_append]; simp; omega)]
  show (xs ++ [x])[_]? = some x
  rw [show ((-1 : Int) + ((xs ++ [x]).length : Nat)).toNat = xs.length by rw [List.length_append]; simp; omega]
  simp
theorem bin_lt {n k : Nat} (h : n ≤ 20) : bin n k ≤ 2 ^ 20 := by
  have : ∀ n k, bin n k ≤ 2 ^ n := by
    intro n
    induction n with
    | zero =>
      intro k
      cases k with
      | zero => exact Nat.le_refl _
      | succ k => exact Nat.zero_le _
    | succ n ih =>
      intro k
      cases k with
      | zero => rw [bin_0]; exact Nat.one_le_two_pow
      | succ k =>
        show bin n k + bin n (k + 1) ≤ 2 ^ (n + 1)
        have h1 := ih k
        have h2 := ih (k + 1)
        rw [Nat.pow_succ]
        omega
  exact Nat.le_trans (this n k) (Nat.pow_le_pow_right (by decide) h)
theorem ok_ch {f : Addr} {fd : FuncData} (F : Fun K "choices" "choices" sCh f fd) (mr : mg "range" = none) : FnOk P w K mg base CX0 1 f fd ["many"] spCh := by
  refine F.ok scCh (fun vs H Q E h => ?_) (fun cdv A outer s H vs Q E hr h => ?_)
  · obtain ⟨n, rfl, _⟩ := h
    rfl
  obtain ⟨n, rfl, n20, q⟩ := h
  have nd := scCh.nd
  refine ⟨_, pss_cons (ps_set (i := 1) nd rfl (Or.inl rfl) (pe_lst (pa_cons pe_int pa_nil)))
    (pss_cons (ps_for PassesOwn.never rfl (pi_range1 rfl mr (pa_cons (pv 0) pa_nil)) (pg_name (i := 2) nd rfl (Or.inl rfl))
      (pss_one (ps_expr (pe_bm PySem.F.plainAttrs_list PySem.F.slot_list_append PySem.F.type_list_append mt_append (pv 1) (pa_cons (pe_op op_fdiv (pe_op op_mul (pe_ix ix_list (pv 1) (pe_un un_neg pe_int) (fun _ _ => rfl)) (pe_op op_sub (pv 0) (pv 2))) (pe_op op_add (pv 2) pe_int)) pa_nil)))))
    (pss_one (ps_ret (pv 1)))), ?_⟩
  have e0 : binL n (0 + 1) = [1] := by show [((bin n 0 : Nat) : Int)] = [1]; rw [bin_0]; rfl
  refine ⟨by show 1 ≤ sizeLine; decide, fun l hl => ?_⟩
  refine ⟨_, rfl, _, rfl, by omega, by omega, for_range (lo := 0) (n := ((n : Nat) : Int).toNat) (fun i σ H' => (∀ b, b ≠ l → H' b = H b) ∧ H' l = some (.lst ((binL n (i + 1)).map V.int)) ∧ ∃ o, σ = [some (.int (n : Nat)), some (.ref l), o]) ⟨fun b hb => upd_ne hb, by rw [upd_same, e0]; rfl, _, rfl⟩ ?_ ?_⟩
  · rintro i σ H' hi ⟨x', h', o, rfl⟩
    have hi' : i < n := by simpa using hi
    have hl' := SqL.of (K := K) h'
    have ea : atI ((binL n (i + 1)).map V.int) (-1) = some (.int ((bin n i : Nat) : Int)) := by
      rw [binL_succ, List.map_append]
      exact atI_last
    have b1 := bin_lt (n := n) (k := i) n20
    refine ⟨_, rfl, .inl ⟨rfl, _, hl'⟩, _, rfl, 1, rfl, l, _, _, _, rfl, rfl, hl', ea, _, rfl, _, rfl, _, _, rfl, rfl, _, _, rfl, rfl, .inl ⟨by omega, by omega⟩, _, rfl, _, _, rfl, rfl, _, _, rfl, rfl, ⟨by omega, by omega⟩, l, _, _, rfl, rfl, h', ?_, ?_⟩
    · rw [List.length_map]
      unfold binL
      rw [List.length_map, List.length_range, sizeLine_eq]
      omega
    · refine ⟨fun b hb => by rw [upd_ne hb]; exact x' b hb, ?_, _, rfl⟩
      rw [upd_same, binL_succ n (i + 1), List.map_append]
      congr 4
      show V.int _ = V.int _
      congr 1
      show (((bin n i : Nat) : Int) * (((n : Nat) : Int) - (0 + (i : Int)))) / ((0 + (i : Int)) + 1) = ((bin n (i + 1) : Nat) : Int)
      rw [← bin_next, Int.zero_add, show ((n : Nat) : Int) - (i : Int) = ((n - i : Nat) : Int) by omega]
      simp
  · rintro σ H' ⟨x', h', o, rfl⟩
    rw [Int.toNat_natCast] at h'
    exact ⟨_, rfl, q l H' hl h' x'⟩
abbrev sVU : Stmt := top 29
def spVU (K : Frag) : Sp := fun vs H Q _ => ∃ (p r : Addr) (a b c d i j k l : Int), vs = [.ref p, .ref r] ∧ SqT K H p [.int a, .int b, .int c, .int d] ∧ SqT K H r [.int i, .int j, .int k, .int l] ∧ (0 ≤ i + j + k + l ∧ i + j + k + l ≤ 1000 ∧ 0 ≤ a + b + c + d ∧ a + b + c + d ≤ 1000) ∧ Q (.int (valU (i + j + k + l) (a + b + c + d) b c i j k)) H
abbrev NVU : List Str := ["counts", "dealt", "ones", "zeros", "yes_one", "yes_zero"]
theorem scVU : FnScope NVU ["counts", "dealt"] (defScope sVU) := ⟨rfl, rfl, rfl, by decide +kernel, rfl, by decide +kernel, by decide +kernel⟩
theorem ok_vu {f : Addr} {fd : FuncData} (F : Fun K "value_under" "value_under" sVU f fd) (ms : mg "sum" = none) : FnOk P w K mg base CX0 1 f fd ["counts", "dealt"] (spVU K) := by
  refine F.ok scVU (fun vs H Q E h => ?_) (fun cdv A outer s H vs Q E hr h => ?_)
  · obtain ⟨p, r, a, b, c, d, i, j, k, l, rfl, _⟩ := h
    rfl
  obtain ⟨p, r, a, b, c, d, i, j, k, l, rfl, hp, hr', ⟨s1, s2, s3, s4⟩, q⟩ := h
  have nd := scVU.nd
  refine ⟨_, pss_cons (ps_set (i := 2) nd rfl (Or.inl rfl) (pe_callB (call_sumT rfl) rfl ms PyProof.Rows.boot_sum (pa_cons (pv 1) pa_nil)))
    (pss_cons (ps_set (i := 3) nd rfl (Or.inl rfl) (pe_op op_sub (pe_callB (call_sumT rfl) rfl ms PyProof.Rows.boot_sum (pa_cons (pv 0) pa_nil)) (pv 2)))
    (pss_cons (ps_set (i := 4) nd rfl (Or.inl rfl) (pe_op op_add (pe_ix ix_tup (pv 1) pe_int (fun _ _ => rfl)) (pe_ix ix_tup (pv 1) pe_int (fun _ _ => rfl))))
    (pss_cons (ps_set (i := 5) nd rfl (Or.inl rfl) (pe_op op_sub (pe_op op_add (pe_op op_sub (pe_ix ix_tup (pv 0) pe_int (fun _ _ => rfl)) (pe_ix ix_tup (pv 1) pe_int (fun _ _ => rfl))) (pe_ix ix_tup (pv 0) pe_int (fun _ _ => rfl))) (pe_ix ix_tup (pv 1) pe_int (fun _ _ => rfl))))
    (pss_one (ps_ret (pe_op op_sub (pe_op op_mul (pv 3) (pv 4)) (pe_op op_mul (pv 2) (pv 5)))))))), ?_⟩
  have e1 : ([i, j, k, l] : List Int).sum = i + j + k + l := by simp; omega
  have e2 : ([a, b, c, d] : List Int).sum = a + b + c + d := by simp; omega
  refine ⟨_, rfl, r, [i, j, k, l], rfl, hr', ?_⟩
  rw [e1]
  refine ⟨_, rfl, p, [a, b, c, d], rfl, hp, ?_⟩
  rw [e2]
  refine ⟨_, rfl, _, _, rfl, rfl, ?_⟩
  refine ⟨_, rfl, r, _, _, _, rfl, rfl, hr', rfl, _, rfl, r, _, _, _, rfl, rfl, hr', rfl, _, _, rfl, rfl, ?_⟩
  refine ⟨_, rfl, p, _, _, _, rfl, rfl, hp, rfl, _, rfl, r, _, _, _, rfl, rfl, hr', rfl, _, _, rfl, rfl, _, rfl, p, _, _, _, rfl, rfl, hp, rfl, _, _, rfl, rfl, _, rfl, r, _, _, _, rfl, rfl, hr', rfl, _, _, rfl, rfl, ?_⟩
  exact ⟨_, rfl, _, rfl, _, _, rfl, rfl, .inl ⟨by omega, by omega⟩, _, rfl, _, rfl, _, _, rfl, rfl, .inl ⟨by omega, by omega⟩, _, _, rfl, rfl, q⟩
end
end My
set_option Elab.async false
set_option linter.all false
set_option maxRecDepth 100000
set_option maxHeartbeats 2000000
set_option exponentiation.threshold 10000
namespace My
open PySem PySem.W L2
theorem paired_snoc {α β : Type} {R : α → β → Prop} {x : α} {y : β} (r : R x y) : ∀ {xs : List α} {ys : List β}, Paired R xs ys → Paired R (xs ++ [x]) (ys ++ [y])
  | _, _, .nil => .cons r .nil
  | _, _, .cons h t => .cons h (paired_snoc r t)
theorem paired_at' {α β : Type} {R : α → β → Prop} : ∀ {xs : List α} {ys : List β}, Paired R xs ys → ∀ {i : Nat} {x : α}, xs[i]? = some x → ∃ y, ys[i]? = some y ∧ R x y
  | _, _, .nil, i, y, h => by simp at h
  | _, _, .cons r _, 0, y, h => by cases h; exact ⟨_, rfl, r⟩
  | _, _, .cons _ t, i + 1, y, h => paired_at' t h
def Rw1 (H : Hp) (y : V) (q : Q4 × Nat) : Prop := ∃ t u, y = .ref t ∧ H t = some (.tup [.ref u, .int (q.2 : Nat)]) ∧ H u = some (.tup [.int q.1.1, .int q.1.2.1, .int q.1.2.2.1, .int q.1.2.2.2])
def RwA (H : Hp) (ys : List V) (rs : List (Q4 × Nat)) : Prop := Paired (Rw1 H) ys rs
def KpU (H H' : Hp) : Prop := ∀ b xs, H b = some (.tup xs) → H' b = some (.tup xs)
theorem Rw1.kp {H H' : Hp} {y : V} {q : Q4 × Nat} (h : Rw1 H y q) (k : KpU H H') : Rw1 H' y q := by
  obtain ⟨t, u, e, h1, h2⟩ := h
  exact ⟨t, u, e, k _ _ h1, k _ _ h2⟩
theorem RwA.kp {H H' : Hp} {ys : List V} {rs : List (Q4 × Nat)} (h : RwA H ys rs) (k : KpU H H') : RwA H' ys rs := Paired.imp' (fun _ _ r => r.kp k) h
theorem Ext.kpU {H H' : Hp} (x : Ext H H') : KpU H H' := fun b xs h => x _ _ h
theorem kpU_lst {H : Hp} {l : Addr} {xs ys : List V} (h : H l = some (.lst xs)) : KpU H (upd H l (.lst ys)) := fun b zs e => by rw [upd_ne (fun z => by rw [z, h] at e; cases e)]; exact e
theorem flat_le {β : Type} {f : Nat → List β} {k : Nat} (h : ∀ i, (f i).length ≤ k) : ∀ n, ((List.range n).flatMap f).length ≤ n * k
  | 0 => Nat.zero_le _
  | n + 1 => by
    rw [flat_succ, List.length_append, Nat.succ_mul]
    have := flat_le h n
    have := h n
    omega
theorem rows1_le {O : Int} {a b c d i j k : Nat} : (rows1 O a b c d i j k).length ≤ 1 := by unfold rows1; split <;> simp
theorem rows2_le {O : Int} {a b c d i j m : Nat} : (rows2 O a b c d i j m).length ≤ m := by
  have := flat_le (f := rows1 O a b c d i j) (k := 1) (fun k => rows1_le) m
  unfold rows2
  omega
theorem rows3_le {O : Int} {a b c d i m : Nat} (hc : c ≤ 20) : (rows3 O a b c d i m).length ≤ m * 21 := flat_le (fun j => Nat.le_trans rows2_le (by omega)) m
theorem rows4_le {O : Int} {a b c d m : Nat} (hb : b ≤ 20) (hc : c ≤ 20) : (rows4 O a b c d m).length ≤ m * 441 := flat_le (fun j => Nat.le_trans (rows3_le hc) (by omega)) m
section
variable {P : Program} {w : World} {K : Frag} {mg : Str → Option Value} {base : Heap}
abbrev sWD : Stmt := top 30
def spWD (K : Frag) : Sp := fun vs H Q _ => ∃ (O : Int) (p : Addr) (a b c d : Nat), vs = [.int O, .ref p] ∧ SqT K H p [.int (a : Nat), .int (b : Nat), .int (c : Nat), .int (d : Nat)] ∧ a ≤ 20 ∧ b ≤ 20 ∧ c ≤ 20 ∧ d ≤ 20 ∧
  ∀ l H' ys, H l = none → Ext H H' → H' l = some (.lst ys) → RwA H' ys (rows4 O a b c d (a + 1)) → Q (.ref l) H'
abbrev NWD : List Str := ["ones", "counts", "bettered", "worsened", "always", "never", "rows", "first", "ways", "second", "more", "third", "again", "rest"]
theorem scWD : FnScope NWD ["ones", "counts"] (defScope sWD) := ⟨rfl, rfl, rfl, by decide +kernel, rfl, by decide +kernel, by decide +kernel⟩
abbrev scWDc : Scope := { kind := .function, names := [(".0", .local), ("count", .local), ("choices", .globalImplicit)], isGenerator := false, isCoroutine := false }
theorem compWD {X : Cx} : CompG X scWDc [] ["count"] [] [] := compG0 (L := [(".0", .local), ("count", .local), ("choices", .globalImplicit)]) rfl rfl (by decide +kernel) (by decide +kernel) (by decide +kernel) rfl (by decide +kernel) (by decide +kernel)
def tW0 (K : Frag) : TS := tAsg (tLCG (iTup K (tVar 1)) 1 [] (gName 0) (tCall spCh [] E0 (tCons (tVar 0) tNil))) (gTupL K 4 (gCons (gName 2) (gCons (gName 3) (gCons (gName 4) (gCons (gName 5) gNil)))))
def tWrow (K : Frag) : TE := tTup (tCons (tTup (tCons (tVar 7) (tCons (tVar 9) (tCons (tVar 11) (tCons (tVar 13) tNil))))) (tCons (tOp (rI CMul fun i j => .int (i * j)) (tOp (rI CMul fun i j => .int (i * j)) (tOp (rI CMul fun i j => .int (i * j)) (tVar 8) (tVar 10)) (tVar 12)) (tOp (rIxL K) (tVar 5) (tVar 13))) tNil))
def tWb (K : Frag) : TS := tSeq (tAsg (tOp (rI0 fun i j => .int (i - j)) (tOp (rI0 fun i j => .int (i - j)) (tOp (rI0 fun i j => .int (i - j)) (tVar 0) (tVar 7)) (tVar 9)) (tVar 11)) (gName 13))
  (tIfS (tB (tCall (spIsWh K) [] E0 (tCons (tVar 13) (tCons (tC (.int 0)) (tCons (tOp (rIxT K) (tVar 1) (tC (.int 3))) tNil))))) (tDrop (tBM K "list" rAppend (tVar 6) (tCons (tWrow K) tNil))) tNext)
def gW (K : Frag) (i j : Nat) : TG := gTup K 2 (gCons (gName i) (gCons (gName j) gNil))
def tW3 (K : Frag) : TS := tFor (iEnum K (tCons (tVar 4) tNil)) (gW K 11 12) (tWb K)
def tW2 (K : Frag) : TS := tFor (iEnum K (tCons (tVar 3) tNil)) (gW K 9 10) (tW3 K)
def tW1 (K : Frag) : TS := tFor (iEnum K (tCons (tVar 2) tNil)) (gW K 7 8) (tW2 K)
section
variable {f a1 a2 : Addr} {d1 d2 : FuncData} {cdv : Value} {A : Around} {outer : List Env} {s : Shared} {H : Hp} {E : XK}
theorem wd_der (A1 : Df P w K mg base CX0 1 "choices" ["many"] spCh a1 d1) (A2 : Df P w K mg base CX0 2 "is_whole" ["thing", "low", "high"] (spIsWh K) a2 d2) (me : mg "enumerate" = none) (hr : Room 2 (A.deeper (PyProof.Rows.envOfC "ways_to_deal" (defScope sWD) s.heap.objs.size f cdv))) :
    PSs (cxOf CX0 P w K mg base NWD "ways_to_deal" (defScope sWD) f cdv A outer s H E).nox (defBody sWD) (tSeq (tW0 K) (tSeq (tAsg (tLst tNil) (gName 6)) (tSeq (tW1 K) (tRet (tVar 6))))) := by
  have nd := scWD.nd
  have hr1 : Room 1 _ := hr.mono (by decide)
  exact pss_cons (ps_asg (pe_lcG (te := tCall spCh [] E0 (tCons (tVar 0) tNil)) rfl compWD (pi_tup (pv 1)) (fun s H C fp => pg_name (i := 0) nd_count rfl (Or.inl rfl)) (fun s H C fp => by exact pe_call A1.G hr1 rfl A1.m A1.kp A1.b .nil pass0 (pa_cons (pv 0) pa_nil)))
      (pg_tupL rfl (pgs_cons (pg_name (i := 2) nd rfl (Or.inl rfl)) (pgs_cons (pg_name (i := 3) nd rfl (Or.inl rfl)) (pgs_cons (pg_name (i := 4) nd rfl (Or.inl rfl)) (pgs_cons (pg_name (i := 5) nd rfl (Or.inl rfl)) pgs_nil))))))
    (pss_cons (ps_set (i := 6) nd rfl (Or.inl rfl) (pe_lst pa_nil))
    (pss_cons (ps_for PassesOwn.never rfl (pi_enum rfl me (pa_cons (pv 2) pa_nil)) (pg_tup rfl (pgs_cons (pg_name (i := 7) nd rfl (Or.inl rfl)) (pgs_cons (pg_name (i := 8) nd rfl (Or.inl rfl)) pgs_nil)))
      (pss_one (ps_for PassesOwn.never rfl (pi_enum rfl me (pa_cons (pv 3) pa_nil)) (pg_tup rfl (pgs_cons (pg_name (i := 9) nd rfl (Or.inl rfl)) (pgs_cons (pg_name (i := 10) nd rfl (Or.inl rfl)) pgs_nil)))
        (pss_one (ps_for PassesOwn.never rfl (pi_enum rfl me (pa_cons (pv 4) pa_nil)) (pg_tup rfl (pgs_cons (pg_name (i := 11) nd rfl (Or.inl rfl)) (pgs_cons (pg_name (i := 12) nd rfl (Or.inl rfl)) pgs_nil)))
          (pss_cons (ps_set (i := 13) nd rfl (Or.inl rfl) (pe_op op_sub (pe_op op_sub (pe_op op_sub (pv 0) (pv 7)) (pv 9)) (pv 11)))
          (pss_one (ps_if (pt_val (pe_call A2.G hr rfl A2.m A2.kp A2.b .nil pass0 (pa_cons (pv 13) (pa_cons pe_int (pa_cons (pe_ix ix_tup (pv 1) pe_int (fun _ _ => rfl)) pa_nil)))))
            (pss_one (ps_expr (pe_bm PySem.F.plainAttrs_list PySem.F.slot_list_append PySem.F.type_list_append mt_append (pv 6) (pa_cons (pe_tup (pa_cons (pe_tup (pa_cons (pv 7) (pa_cons (pv 9) (pa_cons (pv 11) (pa_cons (pv 13) pa_nil))))) (pa_cons (pe_op op_mul (pe_op op_mul (pe_op op_mul (pv 8) (pv 10)) (pv 12)) (pe_ix ix_list (pv 5) (pv 13) (fun _ _ => rfl))) pa_nil))) pa_nil)))) pss_nil))))))))
    (pss_one (ps_ret (pv 6)))))
end
end
structure Ctx5 (K : Frag) (H : Hp) (l p b0 b1 b2 b3 : Addr) (a b c d : Nat) : Prop where
  hp : SqT K H p [.int (a : Nat), .int (b : Nat), .int (c : Nat), .int (d : Nat)]
  h0 : H b0 = some (.lst ((binL a (a + 1)).map V.int))
  h1 : H b1 = some (.lst ((binL b (b + 1)).map V.int))
  h2 : H b2 = some (.lst ((binL c (c + 1)).map V.int))
  h3 : H b3 = some (.lst ((binL d (d + 1)).map V.int))
  n0 : b0 ≠ l
  n1 : b1 ≠ l
  n2 : b2 ≠ l
  n3 : b3 ≠ l
  a20 : a ≤ 20
  b20 : b ≤ 20
  c20 : c ≤ 20
  d20 : d ≤ 20
theorem SqT.kpU {K : Frag} {H H' : Hp} {p : Addr} {xs : List V} (h : SqT K H p xs) (k : KpU H H') (fz : ∀ b o u, H b = some (.frz o u) → H' b = some (.frz o u)) : SqT K H' p xs := by
  rcases h with (h | ⟨o, h⟩) | h
  · exact .inl (.inl (k _ _ h))
  · exact .inl (.inr ⟨o, fz _ _ _ h⟩)
  · exact .inr h
section
variable {K : Frag} {H H' : Hp} {l p b0 b1 b2 b3 : Addr} {a b c d : Nat} {O : Int}
theorem Ctx5.kept (C : Ctx5 K H l p b0 b1 b2 b3 a b c d) {zs : List V} (hl : H l = some (.lst zs)) (k : Kept H H' l) : Ctx5 K H' l p b0 b1 b2 b3 a b c d := by
  refine ⟨?_, k _ _ C.h0 C.n0, k _ _ C.h1 C.n1, k _ _ C.h2 C.n2, k _ _ C.h3 C.n3, C.n0, C.n1, C.n2, C.n3, C.a20, C.b20, C.c20, C.d20⟩
  exact SqT.kpU C.hp (fun b xs e => k _ _ e (fun z => by rw [z, hl] at e; cases e)) (fun b o u e => k _ _ e (fun z => by rw [z, hl] at e; cases e))
abbrev sg (O : Int) (p b0 b1 b2 b3 l : Addr) (r : List (Option V)) : St := some (.int O) :: some (.ref p) :: some (.ref b0) :: some (.ref b1) :: some (.ref b2) :: some (.ref b3) :: some (.ref l) :: r
def Iv5 (H H' : Hp) (l : Addr) (rs : List (Q4 × Nat)) : Prop := Kept H H' l ∧ ∃ ys, H' l = some (.lst ys) ∧ RwA H' ys rs
theorem binL_get {n m i : Nat} (h : i < m) : ((binL n m).map V.int)[i]? = some (.int ((bin n i : Nat) : Int)) := by
  unfold binL
  rw [List.map_map, List.getElem?_map, List.getElem?_range h]
  rfl
theorem binL_len (n m : Nat) : ((binL n m).map V.int).length = m := by unfold binL; simp
theorem rd_wb {D : Ends} {rs : List (Q4 × Nat)} {ys : List V} {i j k : Nat} {o13 : Option V} (C : Ctx5 K H l p b0 b1 b2 b3 a b c d) (hl : H l = some (.lst ys)) (rw' : RwA H ys rs) (small : rs.length < 16000000) (hi : i ≤ a) (hj : j ≤ b) (hk : k ≤ c)
    (q : ∀ H' o13 ys', Kept H H' l → H' l = some (.lst ys') → RwA H' ys' (rs ++ rows1 O a b c d i j k) → D.nx (sg O p b0 b1 b2 b3 l [some (.int (i : Nat)), some (.int (bin a i : Nat)), some (.int (j : Nat)), some (.int (bin b j : Nat)), some (.int (k : Nat)), some (.int (bin c k : Nat)), o13]) H') :
    tWb K D (sg O p b0 b1 b2 b3 l [some (.int (i : Nat)), some (.int (bin a i : Nat)), some (.int (j : Nat)), some (.int (bin b j : Nat)), some (.int (k : Nat)), some (.int (bin c k : Nat)), o13]) H := by
  refine ⟨_, rfl, _, rfl, _, _, rfl, rfl, _, rfl, _, _, rfl, rfl, _, rfl, _, _, rfl, rfl, ?_⟩
  refine ⟨_, rfl, _, rfl, p, _, _, _, rfl, rfl, C.hp, atI_nat (j := 3) rfl, .int (O - i - j - k), 0, (d : Nat), rfl, .inl ⟨_, rfl⟩, _, rfl, ?_⟩
  show if (decide ((0 : Int) ≤ O - i - j - k) && decide (O - i - j - k ≤ (d : Nat))) = true then _ else _
  by_cases hc : 0 ≤ O - i - j - k ∧ O - i - j - k ≤ d
  · rw [decide_eq_true hc.1, decide_eq_true hc.2]
    refine itT ⟨_, rfl, .inl ⟨rfl, _, SqL.of hl⟩, ?_⟩
    have hL := SqL.of (K := K) C.h3
    have ix : atI ((binL d (d + 1)).map V.int) (O - i - j - k) = some (.int ((bin d (O - i - j - k).toNat : Nat) : Int)) := by
      have e := atI_nat (xs := (binL d (d + 1)).map V.int) (j := (O - i - j - k).toNat) (binL_get (n := d) (m := d + 1) (by omega))
      rwa [show (((O - i - j - k).toNat : Nat) : Int) = O - i - j - k by omega] at e
    refine ⟨_, rfl, _, rfl, _, rfl, _, rfl, by show 4 ≤ sizeLine; decide, fun u hu => ?_⟩
    have x1 := Ext.new (o := .tup [.int (i : Nat), .int (j : Nat), .int (k : Nat), .int (O - i - j - k)]) hu
    have b1 := bin_lt (n := a) (k := i) C.a20
    have b2' := bin_lt (n := b) (k := j) C.b20
    have b3' := bin_lt (n := c) (k := k) C.c20
    have b4 := bin_lt (n := d) (k := (O - i - j - k).toNat) C.d20
    refine ⟨_, rfl, _, rfl, _, _, rfl, rfl, .inl ⟨by omega, by omega⟩, _, rfl, _, _, rfl, rfl, .inr ⟨by omega, by omega⟩, _, rfl, _, rfl, _, _, _, _, rfl, rfl, My.SqL.ext hL x1, ix, _, _, rfl, rfl, .inr ⟨by omega, by omega⟩, by show 2 ≤ sizeLine; decide, fun t ht => ?_⟩
    have x2 := x1.trans (Ext.new (o := .tup [.ref u, .int (((bin a i : Nat) : Int) * ((bin b j : Nat) : Int) * ((bin c k : Nat) : Int) * ((bin d (O - i - j - k).toNat : Nat) : Int))]) ht)
    have hl2 := x2 _ _ hl
    refine ⟨l, ys, _, rfl, rfl, hl2, ?_, ?_⟩
    · have e : ys.length = rs.length := Paired.length rw'
      rw [e, sizeLine_eq]
      omega
    · have kl : KpU _ _ := kpU_lst (ys := ys ++ [.ref t]) hl2
      refine q _ _ (ys ++ [.ref t]) ((x2.kept l).trans (keptUpd _)) upd_same ?_
      unfold rows1
      rw [if_pos hc]
      have x3 := Ext.new (o := .tup [.ref u, .int (((bin a i : Nat) : Int) * ((bin b j : Nat) : Int) * ((bin c k : Nat) : Int) * ((bin d (O - i - j - k).toNat : Nat) : Int))]) ht
      refine paired_snoc ⟨t, u, rfl, kl _ _ ?_, kl _ _ (x3 _ _ upd_same)⟩ ((rw'.kp x2.kpU).kp kl)
      rw [upd_same]
      simp
  · have e0 : (decide ((0 : Int) ≤ O - i - j - k) && decide (O - i - j - k ≤ (d : Nat))) = false := by
      rw [Bool.and_eq_false_iff, decide_eq_false_iff_not, decide_eq_false_iff_not]
      omega
    rw [e0]
    refine itF (q H _ ys (Kept.refl _ _) hl ?_)
    unfold rows1
    rw [if_neg hc, List.append_nil]
    exact rw'
end
end My
set_option Elab.async false
set_option linter.all false
set_option maxRecDepth 100000
set_option maxHeartbeats 2000000
set_option exponentiation.threshold 10000
namespace My
open PySem PySem.W L2
theorem paired_cons {α β : Type} {R : α → β → Prop} {xs : List α} {y : β} {ys : List β} (h : Paired R xs (y :: ys)) : ∃ x xs', xs = x :: xs' ∧ R x y ∧ Paired R xs' ys := by
  cases h with
  | cons r t => exact ⟨_, _, rfl, r, t⟩
section
variable {K : Frag} {H : Hp} {l p b0 b1 b2 b3 : Addr} {a b c d : Nat} {O : Int}
theorem Iv5.ctx {H' : Hp} {rs : List (Q4 × Nat)} {zs : List V} (C : Ctx5 K H l p b0 b1 b2 b3 a b c d) (hl : H l = some (.lst zs)) (v : Iv5 H H' l rs) : Ctx5 K H' l p b0 b1 b2 b3 a b c d := C.kept hl v.1
theorem Iv5.kept {H1 H2 : Hp} {rs : List (Q4 × Nat)} {ys : List V} (v : Iv5 H H1 l rs) (k : Kept H1 H2 l) (h : H2 l = some (.lst ys)) {rs' : List (Q4 × Nat)} (r : RwA H2 ys rs') : Iv5 H H2 l rs' := ⟨v.1.trans k, ys, h, r⟩
theorem Iv5.new {H1 : Hp} {rs : List (Q4 × Nat)} {t : Addr} {o : HO} (v : Iv5 H H1 l rs) (ht : H1 t = none) : Iv5 H (upd H1 t o) l rs := by
  obtain ⟨k, ys, h, r⟩ := v
  have x := Ext.new (o := o) ht
  exact ⟨k.trans (x.kept l), ys, x _ _ h, r.kp x.kpU⟩
theorem rd_w3 {D : Ends} {rs : List (Q4 × Nat)} {zs : List V} {i j : Nat} {o11 o12 o13 : Option V} (C : Ctx5 K H l p b0 b1 b2 b3 a b c d) (hl : H l = some (.lst zs)) (v : RwA H zs rs) (small : rs.length < 15000000) (hi : i ≤ a) (hj : j ≤ b)
    (q : ∀ H' o11 o12 o13, Iv5 H H' l (rs ++ rows2 O a b c d i j (c + 1)) → D.nx (sg O p b0 b1 b2 b3 l [some (.int (i : Nat)), some (.int (bin a i : Nat)), some (.int (j : Nat)), some (.int (bin b j : Nat)), o11, o12, o13]) H') :
    tW3 K D (sg O p b0 b1 b2 b3 l [some (.int (i : Nat)), some (.int (bin a i : Nat)), some (.int (j : Nat)), some (.int (bin b j : Nat)), o11, o12, o13]) H := by
  refine ⟨_, rfl, b2, rfl, ⟨_, SqL.of C.h2⟩, for_enum (xs := (binL c (c + 1)).map V.int) (fun m σ H' => Iv5 H H' l (rs ++ rows2 O a b c d i j m) ∧ ∃ o11 o12 o13, σ = sg O p b0 b1 b2 b3 l [some (.int (i : Nat)), some (.int (bin a i : Nat)), some (.int (j : Nat)), some (.int (bin b j : Nat)), o11, o12, o13]) ⟨⟨Kept.refl _ _, zs, hl, ?_⟩, _, _, _, rfl⟩ ?_ ?_ ?_⟩
  · show RwA H zs (rs ++ [])
    rw [List.append_nil]
    exact v
  · rintro m σ H' _ ⟨iv, _⟩
    exact SqL.of (iv.ctx C hl).h2
  · rintro m x σ H' t ex ⟨iv, o11, o12, o13, rfl⟩ ht
    have lm : m < ((binL c (c + 1)).map V.int).length := (List.getElem?_eq_some_iff.mp ex).1
    rw [binL_len] at lm
    rw [binL_get lm] at ex
    cases ex
    have iv' := iv.new (o := .tup [.int (m : Nat), .int (bin c m : Nat)]) ht
    obtain ⟨k2, ys, h2, r2⟩ := id iv'
    refine ⟨t, _, rfl, SqT.of upd_same, rfl, _, _, rfl, _, _, rfl, rfl, ?_⟩
    have l2 := rows2_le (O := O) (a := a) (b := b) (c := c) (d := d) (i := i) (j := j) (m := m)
    have c20 := C.c20
    refine rd_wb (K := K) (iv'.ctx C hl) h2 r2 (by rw [List.length_append]; omega) hi hj (by omega) fun H3 o13 ys' k3 h3 r3 => ?_
    refine ⟨?_, _, _, _, rfl⟩
    have e : rows2 O a b c d i j (m + 1) = rows2 O a b c d i j m ++ rows1 O a b c d i j m := flat_succ _ _
    rw [e, ← List.append_assoc]
    exact iv'.kept k3 h3 r3
  · rintro σ H' ⟨iv, o11, o12, o13, rfl⟩
    rw [binL_len] at iv
    exact q H' _ _ _ iv
theorem rd_w2 {D : Ends} {rs : List (Q4 × Nat)} {zs : List V} {i : Nat} {o9 o10 o11 o12 o13 : Option V} (C : Ctx5 K H l p b0 b1 b2 b3 a b c d) (hl : H l = some (.lst zs)) (v : RwA H zs rs) (small : rs.length < 14000000) (hi : i ≤ a)
    (q : ∀ H' o9 o10 o11 o12 o13, Iv5 H H' l (rs ++ rows3 O a b c d i (b + 1)) → D.nx (sg O p b0 b1 b2 b3 l [some (.int (i : Nat)), some (.int (bin a i : Nat)), o9, o10, o11, o12, o13]) H') :
    tW2 K D (sg O p b0 b1 b2 b3 l [some (.int (i : Nat)), some (.int (bin a i : Nat)), o9, o10, o11, o12, o13]) H := by
  refine ⟨_, rfl, b1, rfl, ⟨_, SqL.of C.h1⟩, for_enum (xs := (binL b (b + 1)).map V.int) (fun m σ H' => Iv5 H H' l (rs ++ rows3 O a b c d i m) ∧ ∃ o9 o10 o11 o12 o13, σ = sg O p b0 b1 b2 b3 l [some (.int (i : Nat)), some (.int (bin a i : Nat)), o9, o10, o11, o12, o13]) ⟨⟨Kept.refl _ _, zs, hl, ?_⟩, _, _, _, _, _, rfl⟩ ?_ ?_ ?_⟩
  · show RwA H zs (rs ++ [])
    rw [List.append_nil]
    exact v
  · rintro m σ H' _ ⟨iv, _⟩
    exact SqL.of (iv.ctx C hl).h1
  · rintro m x σ H' t ex ⟨iv, o9, o10, o11, o12, o13, rfl⟩ ht
    have lm : m < ((binL b (b + 1)).map V.int).length := (List.getElem?_eq_some_iff.mp ex).1
    rw [binL_len] at lm
    rw [binL_get lm] at ex
    cases ex
    have iv' := iv.new (o := .tup [.int (m : Nat), .int (bin b m : Nat)]) ht
    obtain ⟨k2, ys, h2, r2⟩ := id iv'
    refine ⟨t, _, rfl, SqT.of upd_same, rfl, _, _, rfl, _, _, rfl, rfl, ?_⟩
    have l2 := rows3_le (O := O) (a := a) (b := b) (c := c) (d := d) (i := i) (m := m) C.c20
    have b20 := C.b20
    refine rd_w3 (K := K) (iv'.ctx C hl) h2 r2 (by rw [List.length_append]; omega) hi (by omega) fun H3 o11 o12 o13 iv3 => ?_
    refine ⟨?_, _, _, _, _, _, rfl⟩
    have e : rows3 O a b c d i (m + 1) = rows3 O a b c d i m ++ rows2 O a b c d i m (c + 1) := flat_succ _ _
    obtain ⟨k3, ys3, h3, r3⟩ := iv3
    rw [e, ← List.append_assoc]
    exact iv'.kept k3 h3 r3
  · rintro σ H' ⟨iv, o9, o10, o11, o12, o13, rfl⟩
    rw [binL_len] at iv
    exact q H' _ _ _ _ _ iv
theorem rd_w1 {D : Ends} {zs : List V} {o7 o8 o9 o10 o11 o12 o13 : Option V} (C : Ctx5 K H l p b0 b1 b2 b3 a b c d) (hl : H l = some (.lst []))
    (q : ∀ H' o7 o8 o9 o10 o11 o12 o13, Iv5 H H' l (rows4 O a b c d (a + 1)) → D.nx (sg O p b0 b1 b2 b3 l [o7, o8, o9, o10, o11, o12, o13]) H') :
    tW1 K D (sg O p b0 b1 b2 b3 l [o7, o8, o9, o10, o11, o12, o13]) H := by
  refine ⟨_, rfl, b0, rfl, ⟨_, SqL.of C.h0⟩, for_enum (xs := (binL a (a + 1)).map V.int) (fun m σ H' => Iv5 H H' l (rows4 O a b c d m) ∧ ∃ o7 o8 o9 o10 o11 o12 o13, σ = sg O p b0 b1 b2 b3 l [o7, o8, o9, o10, o11, o12, o13]) ⟨⟨Kept.refl _ _, [], hl, .nil⟩, _, _, _, _, _, _, _, rfl⟩ ?_ ?_ ?_⟩
  · rintro m σ H' _ ⟨iv, _⟩
    exact SqL.of (iv.ctx C hl).h0
  · rintro m x σ H' t ex ⟨iv, o7, o8, o9, o10, o11, o12, o13, rfl⟩ ht
    have lm : m < ((binL a (a + 1)).map V.int).length := (List.getElem?_eq_some_iff.mp ex).1
    rw [binL_len] at lm
    rw [binL_get lm] at ex
    cases ex
    have iv' := iv.new (o := .tup [.int (m : Nat), .int (bin a m : Nat)]) ht
    obtain ⟨k2, ys, h2, r2⟩ := id iv'
    refine ⟨t, _, rfl, SqT.of upd_same, rfl, _, _, rfl, _, _, rfl, rfl, ?_⟩
    have l2 := rows4_le (O := O) (a := a) (b := b) (c := c) (d := d) (m := m) C.b20 C.c20
    have a20 := C.a20
    refine rd_w2 (K := K) (iv'.ctx C hl) h2 r2 (by omega) (by omega) fun H3 o9 o10 o11 o12 o13 iv3 => ?_
    refine ⟨?_, _, _, _, _, _, _, _, rfl⟩
    have e : rows4 O a b c d (m + 1) = rows4 O a b c d m ++ rows3 O a b c d m (b + 1) := flat_succ _ _
    obtain ⟨k3, ys3, h3, r3⟩ := iv3
    rw [e]
    exact iv'.kept k3 h3 r3
  · rintro σ H' ⟨iv, o7, o8, o9, o10, o11, o12, o13, rfl⟩
    rw [binL_len] at iv
    exact q H' _ _ _ _ _ _ _ iv
def ChL (H : Hp) (D : Addr) (y : V) (n : Nat) : Prop := ∃ r, y = .ref r ∧ r ≠ D ∧ H r = some (.lst ((binL n (n + 1)).map V.int))
end
section
variable {P : Program} {w : World} {K : Frag} {mg : Str → Option Value} {base : Heap}
theorem ok_wd {f a1 a2 : Addr} {fd d1 d2 : FuncData} (F : Fun K "ways_to_deal" "ways_to_deal" sWD f fd) (A1 : Df P w K mg base CX0 1 "choices" ["many"] spCh a1 d1) (A2 : Df P w K mg base CX0 2 "is_whole" ["thing", "low", "high"] (spIsWh K) a2 d2) (me : mg "enumerate" = none) : FnOk P w K mg base CX0 3 f fd ["ones", "counts"] (spWD K) := by
  refine F.ok scWD (fun vs H Q E h => ?_) (fun cdv A outer s H vs Q E hr h => ?_)
  · obtain ⟨O, p, a, b, c, d, rfl, _⟩ := h
    rfl
  obtain ⟨O, p, a, b, c, d, rfl, hp, a20, b20, c20, d20, q⟩ := h
  refine ⟨_, wd_der A1 A2 me hr, ?_⟩
  refine ⟨_, rfl, p, rfl, ⟨_, hp⟩, fun D hD => ?_⟩
  have ns : ∀ n ∈ [a, b, c, d], n ≤ 20 := by
    intro n hn
    simp only [List.mem_cons, List.not_mem_nil, or_false] at hn
    rcases hn with rfl | rfl | rfl | rfl <;> assumption
  refine lcG_it (n := 4) (fun i ys H' => Ext H H' ∧ Paired (ChL H' D) ys ([a, b, c, d].take i)) (by rw [sizeLine_eq]; omega) ⟨Ext.new hD, .nil⟩ (fun i ys H' hi pv => ⟨_, _, My.SqT.ext hp pv.1, List.getElem?_eq_getElem (show i < 4 from hi)⟩) (fun ys H' pv => ⟨_, My.SqT.ext hp pv.1, Nat.le_refl _⟩) ?_ ?_
  · rintro i x ys H' H3 hi ⟨rfl, hy⟩ ly hD' ⟨x', pr⟩ os los R k
    have ex := hy _ (My.SqT.ext hp x')
    have ex' : ([a, b, c, d].map fun n : Nat => V.int (n : Nat))[i]? = some x := ex
    rw [List.getElem?_map] at ex'
    obtain ⟨n, en, rfl⟩ := Option.map_eq_some_iff.mp ex'
    match os, los with
    | [o0], _ =>
      refine ⟨⟨[some (.int (n : Nat))], rfl, rfl⟩, _, rfl, n, rfl, ns n (List.mem_of_getElem? en), fun l H4 hl h4 st => ?_⟩
      have nl : l ≠ D := fun z => by rw [z, hD'] at hl; cases hl
      have x4 : Ext H3 H4 := fun b o e => by rw [st b (fun z => by rw [z, hl] at e; cases e)]; exact e
      refine k _ _ (x4 _ _ hD') ⟨ext_upd _ (x'.trans x4) hD, ?_⟩
      rw [take_all en]
      refine paired_snoc ⟨l, rfl, nl, by rw [upd_ne nl]; exact h4⟩ (Paired.imp' (fun y m r => ?_) pr)
      obtain ⟨r', e, n', h'⟩ := r
      exact ⟨r', e, n', by rw [upd_ne n']; exact x4 _ _ h'⟩
  · rintro ys H1 ly hD1 ⟨x1, pr⟩
    have pr' : Paired (ChL H1 D) ys [a, b, c, d] := pr
    obtain ⟨_, ys0, rfl, ⟨b0, rfl, n0, h0⟩, pq0⟩ := paired_cons pr'
    obtain ⟨_, ys1, rfl, ⟨b1, rfl, n1, h1⟩, pq1⟩ := paired_cons pq0
    obtain ⟨_, ys2, rfl, ⟨b2, rfl, n2, h2⟩, pq2⟩ := paired_cons pq1
    obtain ⟨_, ys3, rfl, ⟨b3, rfl, n3, h3⟩, pq3⟩ := paired_cons pq2
    cases pq3
    refine ⟨D, _, rfl, SqL.of hD1, rfl, _, _, rfl, _, _, rfl, _, _, rfl, _, _, rfl, rfl, ?_⟩
    refine ⟨by show 0 ≤ sizeLine; decide, fun l hl => ?_⟩
    have x2 := Ext.new (o := .lst []) hl
    have ne : ∀ {r : Addr} {o : HO}, H1 r = some o → r ≠ l := fun e z => by rw [z, hl] at e; cases e
    have hl0 : H l = none := by
      cases e : H l with
      | none => rfl
      | some o => rw [x1 _ _ e] at hl; cases hl
    refine rd_w1 (K := K) (zs := []) (H := upd H1 l (.lst [])) ⟨My.SqT.ext hp (x1.trans x2), x2 _ _ h0, x2 _ _ h1, x2 _ _ h2, x2 _ _ h3, ne h0, ne h1, ne h2, ne h3, a20, b20, c20, d20⟩ upd_same fun H' o7 o8 o9 o10 o11 o12 o13 iv => ?_
    obtain ⟨k, ys, h', r⟩ := iv
    refine ⟨_, rfl, q l H' ys hl0 (fun b o e => ?_) h' r⟩
    have e1 := x1 _ _ e
    exact k b o (x2 _ _ e1) (ne e1)
end
end My
set_option Elab.async false
set_option linter.all false
set_option maxRecDepth 100000
set_option maxHeartbeats 1000000
namespace My
open PySem PySem.W L2
section
variable {tk tv : TE} {g : TG} {k n : Nat} {cap : St} {D : Addr} {H1 : Hp} {Q : Hp → Prop} {J : It}
theorem dcG_it (Pv : Nat → List (Key × V) → Hp → Prop) (hz : n < sizeLine) (h0 : Pv 0 [] (upd H1 D (.dK []))) (hg : ∀ i ys H, i < n → Pv i ys H → J.go i H) (hst : ∀ ys H, Pv n ys H → J.stop n H)
    (hs : ∀ (i : Nat) x ys H H3, i < n → J.yld i H x H3 → ys.length ≤ i → H D = some (.dK ys) → Pv i ys H → ∀ os : St, os.length = k → ∀ R : V → V → Hp → Prop, (∀ key v H5, H5 D = some (.dK ys) → Pv (i + 1) (putK ys key v) (upd H5 D (.dK (putK ys key v))) → R (kV key) v H5) →
      g x (os ++ cap) H3 fun σ2 H0 => (∃ os' : St, os'.length = k ∧ σ2 = os' ++ cap) ∧ tk σ2 H0 fun y H4 => tv σ2 H4 fun v H5 => R y v H5)
    (hd : ∀ ys H, H D = some (.dK ys) → Pv n ys H → Q H) :
    ∃ W : Nat → Nat → List (Key × V) → Hp → Prop, (∃ m, W 0 m [] (upd H1 D (.dK []))) ∧
      ∀ i m ys H2, W i m ys H2 → H2 D = some (.dK ys) ∧ ((J.stop i H2 ∧ Q H2) ∨ (J.go i H2 ∧ ys.length < sizeLine ∧
        ∀ x H3, J.yld i H2 x H3 → ∀ os : St, os.length = k → g x (os ++ cap) H3 fun σ2 H0 => (∃ os' : St, os'.length = k ∧ σ2 = os' ++ cap) ∧ tk σ2 H0 fun y H4 => tv σ2 H4 fun v H5 => ∃ key, y = kV key ∧ H5 D = some (.dK ys) ∧ ∃ m', m' < m ∧ W (i + 1) m' (putK ys key v) (upd H5 D (.dK (putK ys key v))))) := by
  refine ⟨fun i m ys H => m = n - i ∧ i ≤ n ∧ ys.length ≤ i ∧ H D = some (.dK ys) ∧ Pv i ys H, ⟨n, by simp, Nat.zero_le _, Nat.le_refl _, upd_same, h0⟩, ?_⟩
  rintro i m ys H ⟨rfl, hi, hy, hD', p⟩
  refine ⟨hD', ?_⟩
  by_cases hlt : i < n
  · refine .inr ⟨hg i ys H hlt p, by omega, fun x H' y os los => ?_⟩
    refine hs i x ys H H' hlt y hy hD' p os los _ fun key v H5 hD5 p5 => ⟨key, rfl, hD5, n - (i + 1), by omega, rfl, hlt, ?_, upd_same, p5⟩
    have := length_putK ys key v
    omega
  · have e : i = n := by omega
    subst e
    exact .inl ⟨hst ys H p, hd ys H hD' p⟩
end
theorem putK_new {κ : Type} [DecidableEq κ] {k : κ} {v : V} : ∀ {ys : List (κ × V)}, k ∉ ys.map (·.1) → putK ys k v = ys ++ [(k, v)] := by
  intro ys h
  unfold putK
  rw [if_neg]
  intro z
  obtain ⟨q, hq, e⟩ := List.any_eq_true.mp z
  exact h (List.mem_map.mpr ⟨q, hq, of_decide_eq_true e⟩)
theorem inl_inj : ∀ a b : Int, Key.inl a = Key.inl b → a = b := fun a b h => by injection h
end My
set_option Elab.async false
set_option linter.all false
set_option maxRecDepth 100000
set_option maxHeartbeats 2000000
set_option exponentiation.threshold 10000
namespace My
open PySem PySem.W L2
theorem mem_flat {β : Type} {f : Nat → List β} {n : Nat} {x : β} (h : x ∈ (List.range n).flatMap f) : ∃ i, i < n ∧ x ∈ f i := by
  obtain ⟨i, hi, hx⟩ := List.mem_flatMap.mp h
  exact ⟨i, List.mem_range.mp hi, hx⟩
theorem rows_mem {O : Int} {a b c d : Nat} {q : Q4 × Nat} (h : q ∈ rows4 O a b c d (a + 1)) : ∃ i j k : Nat, i ≤ a ∧ j ≤ b ∧ k ≤ c ∧ 0 ≤ O - i - j - k ∧ O - i - j - k ≤ d ∧ q.1 = ((i : Int), (j : Int), (k : Int), O - i - j - k) ∧ 0 < q.2 := by
  obtain ⟨i, hi, h⟩ := mem_flat h
  obtain ⟨j, hj, h⟩ := mem_flat h
  obtain ⟨k, hk, h⟩ := mem_flat h
  unfold rows1 at h
  split at h
  · rename_i hc
    cases List.mem_singleton.mp h
    refine ⟨i, j, k, by omega, by omega, by omega, hc.1, hc.2, rfl, ?_⟩
    exact Nat.mul_pos (Nat.mul_pos (Nat.mul_pos (bin_pos (by omega)) (bin_pos (by omega))) (bin_pos (by omega))) (bin_pos (by omega))
  · cases h
theorem dS_take {α : Type} [DecidableEq α] {g : α → Nat} {rs : List (α × Nat)} {i : Nat} {q : α × Nat} (h : rs[i]? = some q) : dS g (rs.take (i + 1)) = dS g (rs.take i) + q.2 * g q.1 := by
  rw [take_all h, dS_app]
  rfl
section
variable {P : Program} {w : World} {K : Frag} {mg : Str → Option Value} {base : Heap}
abbrev sVW : Stmt := top 31
def WaysOf (O : Int) (a b c d : Nat) (ps : List (Int × Nat)) : Prop := DOk ps ∧ ∀ g, dS g ps = dS (fun q => g (v4 O ((a + b + c + d : Nat) : Int) (b : Nat) (c : Nat) q)) (rows4 O a b c d (a + 1))
def spVW (K : Frag) : Sp := fun vs H Q _ => ∃ (O : Int) (p : Addr) (a b c d : Nat), vs = [.int O, .ref p] ∧ SqT K H p [.int (a : Nat), .int (b : Nat), .int (c : Nat), .int (d : Nat)] ∧ a ≤ 20 ∧ b ≤ 20 ∧ c ≤ 20 ∧ d ≤ 20 ∧
  ∀ r H' ps, H r = none → Ext H H' → H' r = some (.dK (enc Key.inl ps)) → WaysOf O a b c d ps → Q (.ref r) H'
abbrev NVW : List Str := ["ones", "counts", "values", "dealt", "ways", "value"]
theorem scVW : FnScope NVW ["ones", "counts"] (defScope sVW) := ⟨rfl, rfl, rfl, by decide +kernel, rfl, by decide +kernel, by decide +kernel⟩
theorem ok_vw {f a1 a2 : Addr} {fd d1 d2 : FuncData} (F : Fun K "value_ways" "value_ways" sVW f fd) (A1 : Df P w K mg base CX0 3 "ways_to_deal" ["ones", "counts"] (spWD K) a1 d1) (A2 : Df P w K mg base CX0 1 "value_under" ["counts", "dealt"] (spVU K) a2 d2) : FnOk P w K mg base CX0 4 f fd ["ones", "counts"] (spVW K) := by
  refine F.ok scVW (fun vs H Q E h => ?_) (fun cdv A outer s H vs Q E hr h => ?_)
  · obtain ⟨O, p, a, b, c, d, rfl, _⟩ := h
    rfl
  obtain ⟨O, p, a, b, c, d, rfl, hp, a20, b20, c20, d20, q⟩ := h
  have nd := scVW.nd
  have hr1 : Room 1 _ := hr.mono (by decide)
  have hu : (A.deeper (PyProof.Rows.envOfC "value_ways" (defScope sVW) s.heap.objs.size f cdv)).units + 1 < cLine := by have := hr.un; omega
  refine ⟨_, pss_cons (ps_set (i := 2) nd rfl (Or.inl rfl) pe_dnewK)
    (pss_cons (ps_for PassesOwn.never rfl (pi_list (pe_call A1.G hr rfl A1.m A1.kp A1.b .nil pass0 (pa_cons (pv 0) (pa_cons (pv 1) pa_nil)))) (pg_tup rfl (pgs_cons (pg_name (i := 3) nd rfl (Or.inl rfl)) (pgs_cons (pg_name (i := 4) nd rfl (Or.inl rfl)) pgs_nil)))
      (pss_cons (ps_set (i := 5) nd rfl (Or.inl rfl) (pe_call A2.G hr1 rfl A2.m A2.kp A2.b .nil pass0 (pa_cons (pv 1) (pa_cons (pv 3) pa_nil))))
      (pss_one (ps_dput hu (pv 2) (pv 5) (pe_op op_add (pe_dget2 hu (pv 2) (pv 5) pe_int ⟨rfl, rfl, rfl, rfl⟩) (pv 4)) rfl))))
    (pss_one (ps_ret (pv 2)))), ?_⟩
  intro r hr0
  have x0 := Ext.new (o := .dK []) hr0
  refine ⟨_, rfl, _, rfl, O, p, a, b, c, d, rfl, My.SqT.ext hp x0, a20, b20, c20, d20, fun l H1 ys hl x1 h1 rw1 => ?_⟩
  have xH := x0.trans x1
  have hr1' := x1 _ _ upd_same
  have nl : l ≠ r := fun z => by rw [z, upd_same] at hl; cases hl
  have len : ys.length = (rows4 O a b c d (a + 1)).length := Paired.length rw1
  have lr := rows4_le (O := O) (a := a) (b := b) (c := c) (d := d) (m := a + 1) b20 c20
  refine ⟨l, rfl, ⟨_, SqL.of h1⟩, for_list (xs := ys) (fun i σ H' => Kept H1 H' r ∧ (∃ ps, H' r = some (.dK (enc Key.inl ps)) ∧ DOk ps ∧ ps.length ≤ i ∧ ∀ g, dS g ps = dS (fun q => g (v4 O ((a + b + c + d : Nat) : Int) (b : Nat) (c : Nat) q)) ((rows4 O a b c d (a + 1)).take i)) ∧ ∃ o3 o4 o5, σ = [some (.int O), some (.ref p), some (.ref r), o3, o4, o5]) ⟨Kept.refl _ _, ⟨[], hr1', dok_nil, Nat.le_refl _, fun g => rfl⟩, _, _, _, rfl⟩ ?_ ?_ ?_⟩
  · rintro i σ H' _ ⟨k, _⟩
    exact SqL.of (k _ _ h1 nl)
  · rintro i y σ H' ey ⟨k, ⟨ps, hr', ok, lps, es⟩, o3, o4, o5, rfl⟩
    obtain ⟨qq, eq, t, u, rfl, ht, hu'⟩ := paired_at' rw1 ey
    have kU : KpU H1 H' := fun b xs e => k _ _ e (fun z => by rw [z, hr1'] at e; cases e)
    obtain ⟨ii, jj, kk, hi, hj, hk, h5, h6, e4, pos⟩ := rows_mem (List.mem_of_getElem? eq)
    have hp' : SqT K H' p [.int (a : Nat), .int (b : Nat), .int (c : Nat), .int (d : Nat)] := SqT.kpU (My.SqT.ext hp xH) kU (fun b o u e => k _ _ e (fun z => by rw [z, hr1'] at e; cases e))
    refine ⟨t, _, rfl, SqT.of (kU _ _ ht), rfl, _, _, rfl, _, _, rfl, rfl, ?_⟩
    obtain ⟨⟨q1, q2, q3, q4⟩, qn⟩ := qq
    cases e4
    refine ⟨_, rfl, _, rfl, p, u, (a : Nat), (b : Nat), (c : Nat), (d : Nat), (ii : Int), (jj : Int), (kk : Int), O - ii - jj - kk, rfl, hp', SqT.of (kU _ _ hu'), ⟨by omega, by omega, by omega, by omega⟩, ?_⟩
    have ev : valU ((ii : Int) + jj + kk + (O - ii - jj - kk)) (((a : Nat) : Int) + (b : Nat) + (c : Nat) + (d : Nat)) (b : Nat) (c : Nat) ii jj kk = v4 O ((a + b + c + d : Nat) : Int) (b : Nat) (c : Nat) ((ii : Int), (jj : Int), (kk : Int), O - ii - jj - kk) := by
      unfold v4
      rw [show (ii : Int) + jj + kk + (O - ii - jj - kk) = O by omega, show ((a : Nat) : Int) + (b : Nat) + (c : Nat) + (d : Nat) = ((a + b + c + d : Nat) : Int) by omega]
    refine ⟨_, rfl, r, rfl, .inl ⟨_, .inl hr'⟩, _, rfl, _, DGet.k hr' (k := .inl _), ?_⟩
    generalize hv : valU ((ii : Int) + jj + kk + (O - ii - jj - kk)) (((a : Nat) : Int) + (b : Nat) + (c : Nat) + (d : Nat)) (b : Nat) (c : Nat) ii jj kk = v
    rw [hv] at ev
    have eg : (valV (enc Key.inl ps) (Key.inl v)).getD (.int 0) = .int ((dAt ps v : Nat) : Int) := by
      rcases enc_val inl_inj v (ps := ps) with ⟨h1, h2, _⟩ | ⟨h1, _⟩
      · rw [h1, h2]; rfl
      · rw [h1]; rfl
    rw [eg]
    refine ⟨_, rfl, _, _, rfl, rfl, _, rfl, _, rfl, r, _, rfl, DPut.k hr' (k := .inl v) (by rw [enc_len, sizeLine_eq]; have := (List.getElem?_eq_some_iff.mp ey).1; omega), ?_⟩
    refine ⟨k.trans (keptUpd _), ⟨dAdd ps v qn, ?_, ok.add pos, Nat.le_trans (dAdd_len ps) (by omega), fun g => ?_⟩, _, _, _, rfl⟩
    · rw [upd_same, ← enc_put inl_inj v qn ok.nd]
      congr 4
    · rw [dS_add, es g, dS_take eq, ev]
  · rintro σ H' ⟨k, ⟨ps, hr', ok, lps, es⟩, o3, o4, o5, rfl⟩
    refine ⟨_, rfl, q r H' ps hr0 (fun b' o e => k _ _ (xH _ _ e) (fun z => by rw [z, hr0] at e; cases e)) hr' ⟨ok, fun g => ?_⟩⟩
    rw [es g, len, List.take_length]
def Sh1 (H : Hp) (v : V) (t b : Nat) : Prop := ∃ p, v = .ref p ∧ H p = some (.tup [.int (t : Nat), .int (b : Nat)])
theorem Sh1.kp {H H' : Hp} {v : V} {t b : Nat} (h : Sh1 H v t b) (k : KpU H H') : Sh1 H' v t b := by
  obtain ⟨p, e, h⟩ := h
  exact ⟨p, e, k _ _ h⟩
def Tl (H : Hp) (ps : List (Int × Nat)) (T : Nat) (kv : Key × V) (n : Int) : Prop := kv.1 = Key.inl n ∧ Sh1 H kv.2 (lowT (dAt ps n) T) (lowBt (dAt ps n) T)
structure Told (H : Hp) (kvs : List (Key × V)) (ns : List Int) (ps : List (Int × Nat)) (T : Nat) : Prop where
  pm : ns.Perm (ps.map (·.1))
  so : ns.Pairwise (· ≤ ·)
  pr : Paired (Tl H ps T) kvs ns
abbrev sTS : Stmt := top 16
def spTS (K : Frag) : Sp := fun vs H Q _ => ∃ (pp d : Addr) (ps : List (Int × Nat)) (T : Nat), vs = [.ref pp] ∧ SqT K H pp [.int (T : Nat), .ref d] ∧ H d = some (.dK (enc Key.inl ps)) ∧ DOk ps ∧ ps.length < 64 ∧ Sz T ∧ (∀ q ∈ ps, q.2 ≤ T) ∧ 1 ≤ T ∧
  ∀ r H' kvs ns, H r = none → Ext H H' → H' r = some (.dK kvs) → Told H' kvs ns ps T → Q (.ref r) H'
abbrev NTS : List Str := ["parts", "bottom", "tops"]
theorem scTS : FnScope NTS ["parts"] (defScope sTS) := ⟨rfl, rfl, rfl, by decide +kernel, rfl, by decide +kernel, by decide +kernel⟩
abbrev scTSc : Scope := { kind := .function, names := [(".0", .local), ("value", .local), ("share_of", .globalImplicit), ("bottom", .free), ("tops", .free)], isGenerator := false, isCoroutine := false }
theorem ndTS : ((["value"] : List Str) ++ (["bottom", "tops"] : List Str)).Nodup := by decide +kernel
section
variable {f : Addr} {cdv : Value} {A : Around} {outer : List Env} {s : Shared} {H : Hp} {E : XK}
theorem compTS : CompG (cxOf CX0 P w K mg base NTS "told_spread" (defScope sTS) f cdv A outer s H E).nox scTSc [("tops", s.heap.objs.size + 2), ("bottom", s.heap.objs.size + 1)] ["value"] ["bottom", "tops"] [1, 2] :=
  compGn (M := ["tops", "bottom"]) (L := [(".0", .local), ("value", .local), ("share_of", .globalImplicit), ("bottom", .cell), ("tops", .cell)]) rfl rfl (by decide +kernel) (by decide +kernel) (by decide +kernel) rfl rfl rfl (by decide +kernel) (by decide +kernel) rfl rfl rfl
end
theorem ok_ts {f a1 : Addr} {fd d1 : FuncData} (F : Fun K "told_spread" "told_spread" sTS f fd) (A1 : Df P w K mg base CX0 4 "share_of" ["top", "bottom"] spSo a1 d1) (ms : mg "sorted" = none) : FnOk P w K mg base CX0 5 f fd ["parts"] (spTS K) := by
  refine F.ok scTS (fun vs H Q E h => ?_) (fun cdv A outer s H vs Q E hr h => ?_)
  · obtain ⟨pp, d, ps, T, rfl, _⟩ := h
    rfl
  obtain ⟨pp, d, ps, T, rfl, hp, hd, ok, l64, sz, le, T1, q⟩ := h
  have nd := scTS.nd
  have hu : (A.deeper (PyProof.Rows.envOfC "told_spread" (defScope sTS) s.heap.objs.size f cdv)).units + 1 < cLine := by have := hr.un; omega
  refine ⟨_, pss_cons (ps_asg (pv 0) (pg_tup rfl (pgs_cons (pg_name (i := 1) nd rfl (Or.inr rfl)) (pgs_cons (pg_name (i := 2) nd rfl (Or.inr rfl)) pgs_nil))))
    (pss_one (ps_ret (pe_dcG (tk := tVar 0) (tv := tCall spSo [] E0 (tCons (tDGet (tVar 2) (tVar 0)) (tCons (tVar 1) tNil))) (g := gName 0) rfl compTS (pi_list (pe_callB (call_sortD rfl) rfl ms PyProof.Rows.boot_sorted (pa_cons (pv 2) pa_nil))) (fun s H C fp => by exact pg_name (i := 0) ndTS rfl (.inl rfl)) (fun s H C fp => by exact pv 0) (fun s H C fp => by exact pe_call A1.G hr rfl A1.m A1.kp A1.b .nil pass0 (pa_cons (pe_dget hu (pv 2) (pv 0) (fun _ _ => rfl)) (pa_cons (pv 1) pa_nil)))))), ?_⟩
  refine ⟨_, rfl, pp, _, rfl, hp, rfl, _, _, rfl, _, _, rfl, rfl, ?_⟩
  have ek : ((enc Key.inl ps).map fun p => kV p.1) = (ps.map (·.1)).map V.int := by
    unfold enc
    rw [List.map_map, List.map_map]
    rfl
  refine ⟨_, rfl, d, _, ps.map (·.1), rfl, .inl hd, ek, by rw [List.length_map]; exact l64, fun l ns hl pm so => ?_⟩
  have x1 := Ext.new (o := .lst (ns.map V.int)) hl
  have ln : ns.length = ps.length := by rw [pm.length_eq, List.length_map]
  refine ⟨l, rfl, ⟨_, SqL.of upd_same⟩, fun D hD => ?_⟩
  have x2 := x1.trans (Ext.new (o := .dK []) hD)
  have hD0 : H D = none := by
    cases e : H D with
    | none => rfl
    | some o => rw [x1 _ _ e] at hD; cases hD
  have nlD : l ≠ D := fun z => by rw [← z, upd_same] at hD; cases hD
  have ndn : ns.Nodup := pm.nodup_iff.mpr ok.nd
  have hsq : ∀ {H' : Hp}, Ext (upd H l (.lst (ns.map V.int))) H' → SqL K H' l (ns.map V.int) := fun x => SqL.of (x _ _ upd_same)
  refine dcG_it (n := ns.length) (fun i ys H' => Ext (upd H l (.lst (ns.map V.int))) H' ∧ Paired (Tl H' ps T) ys (ns.take i)) (by rw [ln, sizeLine_eq]; omega) ⟨Ext.new hD, .nil⟩ (fun i ys H' hi pv => ⟨_, _, hsq pv.1, by rw [List.getElem?_map, List.getElem?_eq_getElem hi]; rfl⟩) (fun ys H' pv => ⟨_, hsq pv.1, by rw [List.length_map]; exact Nat.le_refl _⟩) ?_ ?_
  · rintro i x ys H' H3 hi ⟨rfl, hy⟩ ly hD' ⟨x', pr⟩ os los R k
    have ex := hy _ (hsq x')
    rw [List.getElem?_map, List.getElem?_eq_getElem hi] at ex
    have ex : V.int ns[i] = x := Option.some.inj ex
    subst ex
    have en : ns[i]? = some ns[i] := List.getElem?_eq_getElem hi
    generalize hn : ns[i] = n at en
    have mem : n ∈ ps.map (·.1) := pm.mem_iff.mp (List.mem_of_getElem? en)
    have x03 : Ext H H3 := x1.trans x'
    have gv : DGet H3 d (.int n) (some (.int (dAt ps n : Nat))) := by
      have g := DGet.k (k := .inl n) (x03 _ _ hd)
      rcases enc_val inl_inj n (ps := ps) with ⟨_, _, h3⟩ | ⟨h1, _⟩
      · exact absurd mem h3
      · rw [h1] at g; exact g
    obtain ⟨qq, hq, eq⟩ := List.mem_map.mp mem
    have dat : dAt ps n ≤ T := by rw [← eq, dAt_mem ok.nd hq]; exact le qq hq
    match os, los with
    | [o0], _ =>
      refine ⟨⟨[some (.int n)], rfl, rfl⟩, _, rfl, _, rfl, _, rfl, d, _, rfl, gv, _, rfl, _, T, rfl, T1, dat, sz, fun t ht => ?_⟩
      have x4 := Ext.new (o := .tup [.int (lowT (dAt ps n) T : Nat), .int (lowBt (dAt ps n) T : Nat)]) ht
      have hD4 := x4 _ _ hD'
      refine k (.inl n) _ _ hD4 ⟨ext_upd _ (x'.trans x4) hD, ?_⟩
      have nk : Key.inl n ∉ ys.map (·.1) := by
        intro z
        obtain ⟨kv, hkv, ekv⟩ := List.mem_map.mp z
        obtain ⟨j, hj, ej⟩ := List.getElem_of_mem hkv
        obtain ⟨m, em, r1, _⟩ := paired_at' pr (show ys[j]? = some kv by rw [List.getElem?_eq_getElem hj, ej])
        rw [ekv] at r1
        cases inl_inj _ _ r1
        rw [List.getElem?_take] at em
        split at em
        · rename_i lt
          exact absurd ((List.getElem?_inj (by omega) ndn).mp (em.trans en.symm)) (by omega)
        · cases em
      have kU : KpU H3 (upd (upd H3 t (.tup [.int (lowT (dAt ps n) T : Nat), .int (lowBt (dAt ps n) T : Nat)])) D (.dK (putK ys (.inl n) (.ref t)))) := fun b xs e => by
        rw [upd_ne (fun z => by rw [z, hD'] at e; cases e)]
        exact x4 _ _ e
      rw [putK_new nk, take_all en]
      rw [putK_new nk] at kU
      refine paired_snoc ⟨rfl, t, rfl, ?_⟩ (Paired.imp' (fun kv m r => ⟨r.1, r.2.kp kU⟩) pr)
      rw [upd_ne (fun z => by rw [z, hD'] at ht; cases ht), upd_same]
  · rintro ys H' hD' ⟨x', pr⟩
    refine q D H' ys ns hD0 (x1.trans x') hD' ⟨pm, so, ?_⟩
    rw [List.take_length] at pr
    exact pr
end
end My
set_option Elab.async false
set_option linter.all false
set_option maxRecDepth 100000
set_option maxHeartbeats 1000000
namespace My
open PySem PySem.W L2
theorem two_val (O n b c i j k : Int) : 2 * valU O n b c i j k = (n - 2 * O) * (i - j) + n * (k - (O - i - j - k)) + n * O - 2 * O * (b + c) := by
  unfold valU
  grind
def prs (A W e : Nat) : List (Nat × Nat) := (List.range (A + 1)).flatMap fun U => ((List.range (W + 1)).filter fun v => decide ((U + v) % 2 = e)).map fun v => (U, v)
theorem prs_len : ∀ A, A < 21 → ∀ W, W < 21 - A → ∀ e, e < 2 → (prs A W e).length ≤ 61 := by decide +kernel
theorem prs_mem {A W e U v : Nat} (h1 : U ≤ A) (h2 : v ≤ W) (h3 : (U + v) % 2 = e) : (U, v) ∈ prs A W e :=
  List.mem_flatMap.mpr ⟨U, List.mem_range.mpr (by omega), List.mem_map.mpr ⟨v, List.mem_filter.mpr ⟨List.mem_range.mpr (by omega), decide_eq_true h3⟩, rfl⟩⟩
def valF (O n b c d : Int) (z : Nat × Nat) : Int := ((n - 2 * O) * ((z.1 : Int) - b) + n * ((z.2 : Int) - d) + n * O - 2 * O * (b + c)) / 2
theorem dS_pos {α : Type} [DecidableEq α] {g : α → Nat} : ∀ {ps : List (α × Nat)}, 0 < dS g ps → ∃ q ∈ ps, 0 < g q.1
  | [], h => absurd h (Nat.lt_irrefl _)
  | p :: r, h => by
    by_cases z : 0 < g p.1
    · exact ⟨p, List.mem_cons_self .., z⟩
    · have e : g p.1 = 0 := by omega
      have h' : 0 < p.2 * g p.1 + dS g r := h
      rw [e, Nat.mul_zero, Nat.zero_add] at h'
      obtain ⟨q, hq, hz⟩ := dS_pos h'
      exact ⟨q, List.mem_cons_of_mem _ hq, hz⟩
theorem few_keys {O : Int} {a b c d : Nat} {keys : List Int} (hn : a + b + c + d ≤ 20) (nd : keys.Nodup)
    (h : ∀ x ∈ keys, ∃ i j k : Nat, i ≤ a ∧ j ≤ b ∧ k ≤ c ∧ 0 ≤ O - i - j - k ∧ O - i - j - k ≤ d ∧ x = valU O ((a + b + c + d : Nat) : Int) b c i j k) : keys.length ≤ 61 := by
  have l := few (xs := keys) (ys := (prs (a + b) (c + d) ((O + b + d) % 2).toNat).map (valF O ((a + b + c + d : Nat) : Int) b c d)) nd fun x hx => ?_
  · rw [List.length_map] at l
    exact Nat.le_trans l (prs_len (a + b) (by omega) (c + d) (by omega) _ (by omega))
  · obtain ⟨i, j, k, h1, h2, h3, h4, h5, rfl⟩ := h x hx
    obtain ⟨m, hm⟩ : ∃ m : Nat, O - i - j - k = (m : Int) := ⟨(O - i - j - k).toNat, by omega⟩
    refine List.mem_map.mpr ⟨(i + b - j, k + d - m), prs_mem (by omega) (by omega) (by omega), ?_⟩
    have e := two_val O ((a + b + c + d : Nat) : Int) b c i j k
    unfold valF
    rw [show (((i + b - j : Nat) : Int)) - b = (i : Int) - j by omega, show (((k + d - m : Nat) : Int)) - d = (k : Int) - (O - i - j - k) by omega, ← e]
    omega
end My
set_option Elab.async false
set_option linter.all false
set_option maxRecDepth 100000
set_option maxHeartbeats 2000000
set_option exponentiation.threshold 10000
namespace My
open PySem PySem.W L2
theorem cnts_four {d : PyData} (h : cntsD d = true) : ∃ a b c e : Nat, d = .tuple [.int a, .int b, .int c, .int e] ∧ a ≤ 20 ∧ b ≤ 20 ∧ c ≤ 20 ∧ e ≤ 20 ∧ 1 ≤ a + b + c + e ∧ a + b + c + e ≤ 20 := by
  cases d with
  | tuple ds =>
    have h' : (decide (ds.length = 4) && (ds.all (inD 0 20) && inD 1 20 (.int (sumD ds)))) = true := h
    rw [Bool.and_eq_true, Bool.and_eq_true, decide_eq_true_iff] at h'
    obtain ⟨l, al, su⟩ := h'
    match ds, l with
    | [x, y, z, t], _ =>
      simp only [List.all_cons, List.all_nil, Bool.and_eq_true, Bool.and_true] at al
      obtain ⟨h1, h2, h3, h4⟩ := al
      obtain ⟨i, rfl, i1, i2⟩ := inD_int h1
      obtain ⟨j, rfl, j1, j2⟩ := inD_int h2
      obtain ⟨k, rfl, k1, k2⟩ := inD_int h3
      obtain ⟨m, rfl, m1, m2⟩ := inD_int h4
      have su' : (decide ((1 : Int) ≤ i + (j + (k + (m + 0)))) && decide (i + (j + (k + (m + 0))) ≤ 20)) = true := su
      rw [Bool.and_eq_true, decide_eq_true_iff, decide_eq_true_iff] at su'
      refine ⟨i.toNat, j.toNat, k.toNat, m.toNat, ?_, by omega, by omega, by omega, by omega, by omega, by omega⟩
      rw [Int.toNat_of_nonneg i1, Int.toNat_of_nonneg j1, Int.toNat_of_nonneg k1, Int.toNat_of_nonneg m1]
  | _ => cases h
theorem cnts_of {a b c e : Nat} (h1 : 1 ≤ a + b + c + e) (h2 : a + b + c + e ≤ 20) : cntsD (.tuple [.int a, .int b, .int c, .int e]) = true := by
  have f : ∀ n : Nat, n ≤ 20 → inD 0 20 (.int n) = true := fun n hn => by
    show (decide ((0 : Int) ≤ (n : Nat)) && decide (((n : Nat) : Int) ≤ 20)) = true
    rw [decide_eq_true (by omega), decide_eq_true (by omega)]
    rfl
  show (decide (4 = 4) && ((inD 0 20 (.int a) && (inD 0 20 (.int b) && (inD 0 20 (.int c) && (inD 0 20 (.int e) && true)))) && (decide ((1 : Int) ≤ (a : Int) + ((b : Int) + ((c : Int) + ((e : Int) + 0)))) && decide ((a : Int) + ((b : Int) + ((c : Int) + ((e : Int) + 0))) ≤ 20)))) = true
  rw [f a (by omega), f b (by omega), f c (by omega), f e (by omega), decide_eq_true (show (1 : Int) ≤ (a : Int) + ((b : Int) + ((c : Int) + ((e : Int) + 0))) by omega), decide_eq_true (show (a : Int) + ((b : Int) + ((c : Int) + ((e : Int) + 0))) ≤ 20 by omega)]
  rfl
theorem rep_bits {a b c d : Nat} : Bits (rep4 a b c d) := by
  intro p hp
  unfold rep4 at hp
  simp only [List.mem_append, List.mem_replicate] at hp
  rcases hp with ⟨_, rfl⟩ | ⟨_, rfl⟩ | ⟨_, rfl⟩ | ⟨_, rfl⟩ <;> simp
theorem rep_count {a b c d : Nat} : (rep4 a b c d).count (1, 0) = a ∧ (rep4 a b c d).count (0, 1) = b ∧ (rep4 a b c d).count (1, 1) = c ∧ (rep4 a b c d).count (0, 0) = d := by
  unfold rep4
  simp [List.count_append, List.count_replicate]
theorem rep_len {a b c d : Nat} : (rep4 a b c d).length = a + b + c + d := by
  unfold rep4
  simp
  omega
theorem sum_all {O : Int} {a b c d : Nat} (h0 : 0 ≤ O) (h1 : O ≤ (a + b + c + d : Nat)) : 1 ≤ dS (fun _ => 1) (rows4 O a b c d (a + 1)) ∧ dS (fun _ => 1) (rows4 O a b c d (a + 1)) ≤ 2 ^ (a + b + c + d) := by
  have e := ways_eq (rep_bits (a := a) (b := b) (c := c) (d := d)) O ((a + b + c + d : Nat) : Int) (fun _ => 1)
  obtain ⟨e1, e2, e3, e4⟩ := rep_count (a := a) (b := b) (c := c) (d := d)
  rw [e1, e2, e3, e4] at e
  rw [← e]
  constructor
  · have := EE_pos (f := fg O fun _ => 1) (o := O.toNat) (fun v => by unfold fg; rw [if_pos (by omega)]; exact Nat.one_pos) ((rep4 a b c d).map (wt2 O ((a + b + c + d : Nat) : Int))) 0 0 (Nat.zero_le _) (by rw [List.length_map, rep_len]; omega)
    exact this
  · have := EE_le (f := fg O fun _ => 1) (fun u v => by unfold fg; split; exact Nat.le_refl _; exact Nat.zero_le _) ((rep4 a b c d).map (wt2 O ((a + b + c + d : Nat) : Int))) 0 0
    rw [List.length_map, rep_len] at this
    exact this
theorem ways_few {O : Int} {a b c d : Nat} {ps : List (Int × Nat)} (h : WaysOf O a b c d ps) (hn : a + b + c + d ≤ 20) : ps.length < 64 := by
  have := few_keys (O := O) (a := a) (b := b) (c := c) (d := d) (keys := ps.map (·.1)) hn h.1.nd fun x hx => ?_
  · rw [List.length_map] at this
    omega
  · have p := h.1.mem.mp hx
    rw [dAt_S h.1.nd, h.2] at p
    obtain ⟨q, hq, hz⟩ := dS_pos p
    obtain ⟨i, j, k, h1, h2, h3, h4, h5, e4, _⟩ := rows_mem hq
    refine ⟨i, j, k, h1, h2, h3, h4, h5, ?_⟩
    by_cases z : v4 O ((a + b + c + d : Nat) : Int) (b : Nat) (c : Nat) q.1 = x
    · rw [← z, e4]
      rfl
    · rw [if_neg z] at hz
      exact absurd hz (Nat.lt_irrefl _)
section
variable {P : Program} {w : World} {K : Frag} {mg : Str → Option Value} {base : Heap}
abbrev sCS : Stmt := top 32
def spCS (CL CN : Addr) : Sp := fun vs H Q E => ∃ (x y : V) (dx dy : PyData), vs = [x, y] ∧ Rds H x dx ∧ Rds H y dy ∧ (cntsD dy = false → ∀ H', Ext H H' → ErrF CL "found" y H' E) ∧
  ∀ a b c d : Nat, dy = .tuple [.int a, .int b, .int c, .int d] → cntsD dy = true → (inD 0 ((a + b + c + d : Nat) : Int) dx = false → ∀ H', Ext H H' → ErrF CN "found" x H' E) ∧
    ∀ O, dx = .int O → 0 ≤ O → O ≤ (a + b + c + d : Nat) → ∀ r H' kvs ns ps, H r = none → Ext H H' → H' r = some (.dK kvs) → WaysOf O a b c d ps → Told H' kvs ns ps (dS (fun _ => 1) ps) → Q (.ref r) H'
abbrev NCS : List Str := ["ones", "counts", "values"]
theorem scCS : FnScope NCS ["ones", "counts"] (defScope sCS) := ⟨rfl, rfl, rfl, by decide +kernel, rfl, by decide +kernel, by decide +kernel⟩
theorem ok_cs {f D CL CN fL a1 a2 a3 a4 : Addr} {fd fdL d1 d2 d3 d4 : FuncData} (F : Fun K "counts_spread" "counts_spread" sCS f fd) (B : BaseC K D) (T : OneF K mg D "NoListing" "found" CL fL fdL) (A1 : Df P w K mg base CX0 3 "are_counts" ["thing"] spAC a1 d1) (A2 : Df P w K mg base (CXE P w) 3 "need_number" ["thing", "low", "high"] (spNN CN) a2 d2)
    (A3 : Df P w K mg base CX0 4 "value_ways" ["ones", "counts"] (spVW K) a3 d3) (A4 : Df P w K mg base CX0 5 "told_spread" ["parts"] (spTS K) a4 d4) (ms : mg "sum" = none) : FnOk P w K mg base (CXE P w) 6 f fd ["ones", "counts"] (spCS CL CN) := by
  refine okE F scCS (fun vs H Q E h => ?_) (fun cdv A outer s H vs Q E hr h => ?_)
  · obtain ⟨_, _, _, _, rfl, _⟩ := h
    rfl
  obtain ⟨x, y, dx, dy, rfl, rx, ry, q1, q2⟩ := h
  have nd := scCS.nd
  have hr2 : Room 2 _ := hr.mono (by decide)
  have hr3 : Room 3 _ := hr.mono (by decide)
  have hr4 : Room 4 _ := hr.mono (by decide)
  refine ⟨_, pss_cons (ps_if (pt_not (pt_val (pe_call A1.G hr3 rfl A1.m A1.kp A1.b .nil pass0 (pa_cons (pv 1) pa_nil)))) (pss_one (ps_raise B T.cls (T.ok P w base) hr2 T.bi rfl T.mgC (pv 1))) pss_nil)
    (pss_cons (ps_expr (pe_call A2.G hr3 rfl A2.m A2.kp A2.b .nil passE (pa_cons (pv 0) (pa_cons pe_int (pa_cons (pe_callB (call_sumT rfl) rfl ms PyProof.Rows.boot_sum (pa_cons (pv 1) pa_nil)) pa_nil)))))
    (pss_cons (ps_set (i := 2) nd rfl (Or.inl rfl) (pe_call A3.G hr4 rfl A3.m A3.kp A3.b .nil pass0 (pa_cons (pv 0) (pa_cons (pv 1) pa_nil))))
    (pss_one (ps_ret (pe_call A4.G hr rfl A4.m A4.kp A4.b .nil pass0 (pa_cons (pe_tup (pa_cons (pe_callB (call_sumV rfl) rfl ms PyProof.Rows.boot_sum (pa_cons (pe_bm0 PySem.F.plainAttrs_dict PySem.F.slot_dict_values PySem.F.type_dict_values mt_values (pv 2)) pa_nil)) (pa_cons (pv 2) pa_nil))) pa_nil)))))), ?_⟩
  refine ⟨_, rfl, y, dy, rfl, ry, fun H1 x1 => ⟨_, rfl, ?_⟩⟩
  cases ec : cntsD dy with
  | false => exact itT ⟨_, rfl, fun e' dx h1 h2 nd => qR_of nd (q1 ec H1 x1 e' dx h1 h2 nd)⟩
  | true =>
    obtain ⟨a, b, c, d, rfl, a20, b20, c20, d20, n1, n20⟩ := cnts_four ec
    obtain ⟨qn, qg⟩ := q2 a b c d rfl ec
    obtain ⟨p, xs, rfl, hp, rs⟩ := rds_tup ry
    cases rs with
    | cons r1 rs =>
    cases rs with
    | cons r2 rs =>
    cases rs with
    | cons r3 rs =>
    cases rs with
    | cons r4 rs =>
    cases rs
    cases r1
    cases r2
    cases r3
    cases r4
    have hp1 := SqT.of (K := K) (x1 _ _ hp)
    have es : ([((a : Nat) : Int), ((b : Nat) : Int), ((c : Nat) : Int), ((d : Nat) : Int)] : List Int).sum = ((a + b + c + d : Nat) : Int) := by simp; omega
    refine itF ⟨_, rfl, _, rfl, p, [((a : Nat) : Int), ((b : Nat) : Int), ((c : Nat) : Int), ((d : Nat) : Int)], rfl, hp1, x, dx, 0, _, rfl, rx.mono x1, ?_, ?_⟩
    · intro ei
      rw [es] at ei
      obtain ⟨O, rfl, o1, o2⟩ := inD_int ei
      cases rx
      refine ⟨_, rfl, _, rfl, O, p, a, b, c, d, rfl, hp1, a20, b20, c20, d20, fun r H2 ps hr0 x2 hr2 ws => ?_⟩
      refine ⟨_, rfl, .inr (.inr (.inl ⟨rfl, .inl ⟨_, hr2⟩⟩)), r, _, rfl, rfl, .inl hr2, fun vp hvp => ?_⟩
      have x3 := Ext.new (o := VwO vp r) hvp
      have em : ((enc Key.inl ps).map (·.2)) = (ps.map fun q => ((q.2 : Nat) : Int)).map V.int := by
        unfold enc
        rw [List.map_map, List.map_map]
        rfl
      refine ⟨vp, r, _, ps.map fun q => ((q.2 : Nat) : Int), rfl, upd_same, .inl (x3 _ _ hr2), em, ?_⟩
      rw [dS_sum]
      refine ⟨_, rfl, by show 2 ≤ sizeLine; decide, fun t ht => ?_⟩
      have x4 := x3.trans (Ext.new (o := .tup [.int ((dS (fun _ => 1) ps : Nat) : Int), .ref r]) ht)
      have sa := sum_all (O := O) (a := a) (b := b) (c := c) (d := d) o1 o2
      rw [← ws.2 fun _ => 1] at sa
      have s20 : 2 ^ (a + b + c + d) ≤ 2 ^ 20 := Nat.pow_le_pow_right (by decide) n20
      refine ⟨t, r, ps, dS (fun _ => 1) ps, rfl, SqT.of upd_same, x4 _ _ hr2, ws.1, ways_few ws n20, ?_, fun q hq => ?_, sa.1, fun r' H5 kvs ns hr' x5 h5 tl => ?_⟩
      · exact Nat.lt_of_le_of_lt (Nat.le_trans sa.2 s20) (Nat.pow_lt_pow_right (by decide) (by decide))
      · have := dS_le (g := fun _ => 1) hq
        omega
      · have xx := (x1.trans x2).trans (x4.trans x5)
        have hr0' : H r' = none := by
          cases e : H r' with
          | none => rfl
          | some o => rw [((x1.trans x2).trans x4) _ _ e] at hr'; cases hr'
        exact qg O rfl o1 o2 r' H5 kvs ns ps hr0' xx h5 ws tl
    · intro ei
      rw [es] at ei
      exact qn ei H1 x1
end
end My
set_option Elab.async false
set_option linter.all false
set_option maxRecDepth 100000
set_option maxHeartbeats 2000000
set_option exponentiation.threshold 10000
namespace My
open PySem PySem.W L2
theorem rds_nums (G : Hp) : ∀ (ns : List Int), RdsAll G (ns.map V.int) (ns.map PyData.int)
  | [] => .nil
  | n :: ns => .cons (.int _) (rds_nums G ns)
theorem plain_nums : ∀ (ns : List Int), plainDs (ns.map PyData.int) = true
  | [] => rfl
  | n :: ns => by
    show (plainD (.int n) && plainDs (ns.map PyData.int)) = true
    rw [plain_nums ns]
    rfl
theorem depth_nums : ∀ (ns : List Int), PyData.depthAll (ns.map PyData.int) = 0
  | [] => by simp [PyData.depthAll]
  | n :: ns => by
    rw [List.map_cons]
    simp [PyData.depthAll, depth_nums ns, PyData.depth]
section
variable {P : Program} {w : World} {K : Frag} {mg : Str → Option Value} {base : Heap}
abbrev sDvr : Stmt := top 38
theorem scDvr : FnScope ["_law_one", "_law_other"] ["_law_one", "_law_other"] (defScope sDvr) := ⟨rfl, rfl, rfl, by decide +kernel, rfl, by decide +kernel, by decide +kernel⟩
theorem ok_dvr {f : Addr} {fd : FuncData} (F : Fun K "_law_divisor" "_law_divisor" sDvr f fd) : FnOk P w K mg base CX0 1 f fd ["_law_one", "_law_other"] spGcd := by
  refine F.ok scDvr (fun vs H Q E h => ?_) (fun cdv A outer s H vs Q E hr h => ?_)
  · obtain ⟨c, lo, rfl, _⟩ := h
    rfl
  obtain ⟨a, b, rfl, q⟩ := h
  have nd := scDvr.nd
  refine ⟨_, pss_cons (ps_while PassesOwn.never (pt_cmpR op_gt (pv 1) pe_int (nomark _)) (pss_one (ps_par (i := 0) (j := 1) rfl nd rfl rfl (by decide) rfl rfl (pa_cons (pv 1) (pa_cons (pe_op op_mod (pv 0) (pv 1)) pa_nil)) rfl))) (pss_one (ps_ret (pv 0))), ?_⟩
  refine while_by (fun σ H' => H' = H ∧ ∃ x y : Nat, σ = [some (.int x), some (.int y)] ∧ Nat.gcd x y = Nat.gcd a b) (fun σ _ => secN σ) ⟨rfl, a, b, rfl, rfl⟩ ?_ ?_
  · rintro σ H' ⟨rfl, x, y, rfl, e⟩
    refine ⟨_, rfl, _, _, rfl, rfl, _, rfl, ?_⟩
    refine ite2 (fun c => ?_) (fun c => ?_)
    · have c' : (0 : Int) < (y : Int) := of_decide_eq_true c
      refine ⟨_, rfl, _, rfl, _, rfl, _, _, rfl, rfl, c', _, _, rfl, ⟨rfl, y, x % y, ?_, ?_⟩, ?_⟩
      · show [some (V.int y), some (V.int ((x : Int) % (y : Int)))] = _
        rw [show ((x : Int) % (y : Int)) = ((x % y : Nat) : Int) from by simp]
      · rw [← e, Nat.gcd_comm x y, Nat.gcd_rec y x, Nat.gcd_comm]
      · show ((x : Int) % (y : Int)).toNat < (y : Int).toNat
        have := Int.emod_lt_of_pos (x : Int) c'
        omega
    · have c' : ¬ (0 : Int) < (y : Int) := fun z => c (decide_eq_true z)
      have y0 : y = 0 := by omega
      subst y0
      rw [Nat.gcd_zero_right] at e
      refine ⟨_, rfl, ?_⟩
      rw [e]
      exact q
  · rintro σ H Q Q' m ⟨x, e, i, j, h1, h2, b, hb, q⟩
    exact ⟨x, e, i, j, h1, h2, b, hb, m _ _ q⟩
theorem low_gcd {t T : Nat} (h : 1 ≤ T) : Nat.gcd (lowT t T) (lowBt t T) = 1 := by
  unfold lowT lowBt
  have g0 : 0 < Nat.gcd t T := Nat.gcd_pos_of_pos_right t h
  rw [Nat.gcd_div (Nat.gcd_dvd_left t T) (Nat.gcd_dvd_right t T), Nat.div_self g0]
theorem low_pos {t T : Nat} (h : 1 ≤ T) : 1 ≤ lowBt t T := by
  have g0 : 0 < Nat.gcd t T := Nat.gcd_pos_of_pos_right t h
  exact Nat.div_pos (Nat.le_of_dvd h (Nat.gcd_dvd_right t T)) g0
theorem low_mul {t T : Nat} (h : 1 ≤ T) : lowT t T * T = t * lowBt t T := by
  have g0 : 0 < Nat.gcd t T := Nat.gcd_pos_of_pos_right t h
  unfold lowT lowBt
  obtain ⟨x, hx⟩ := Nat.gcd_dvd_left t T
  obtain ⟨y, hy⟩ := Nat.gcd_dvd_right t T
  generalize Nat.gcd t T = g at *
  subst hx hy
  rw [Nat.mul_div_cancel_left _ g0, Nat.mul_div_cancel_left _ g0]
  grind
abbrev sISr : Stmt := top 39
def spISr : Sp := fun vs H Q _ => ∃ (v : V) (t T : Nat), vs = [v, .int (t : Nat), .int (T : Nat)] ∧ Sh1 H v (lowT t T) (lowBt t T) ∧ 1 ≤ T ∧ T ≤ 2 ^ 20 ∧ t ≤ T ∧ Q (.bl true) H
theorem scISr : FnScope ["_law_found", "_law_top", "_law_bottom"] ["_law_found", "_law_top", "_law_bottom"] (defScope sISr) := ⟨rfl, rfl, rfl, by decide +kernel, rfl, by decide +kernel, by decide +kernel⟩
theorem ok_isr {f a1 a2 : Addr} {fd d1 d2 : FuncData} (N : IsT K) (F : Fun K "_law_is_share" "_law_is_share" sISr f fd) (A1 : Df P w K mg base CX0 1 "_law_whole" ["_law_found"] spWh a1 d1) (A2 : Df P w K mg base CX0 1 "_law_divisor" ["_law_one", "_law_other"] spGcd a2 d2)
    (mi : mg "isinstance" = none) (mt : mg "tuple" = none) (ml : mg "len" = none) : FnOk P w K mg base CX0 2 f fd ["_law_found", "_law_top", "_law_bottom"] spISr := by
  refine F.ok scISr (fun vs H Q E h => ?_) (fun cdv A outer s H vs Q E hr h => ?_)
  · obtain ⟨v, t, T, rfl, _⟩ := h
    rfl
  obtain ⟨_, t, T, rfl, ⟨p, rfl, hp⟩, T1, T20, tT, q⟩ := h
  refine ⟨_, pss_cons (ps_if (PW.pt (pw_or (pt_not (pt_val (pe_callB (call_isK N) rfl mi PyProof.Rows.boot_isinstance (pa_cons (pv 0) (pa_cons (pe_ty rfl mt PyProof.Rows.boot_tuple) pa_nil))))) (pw_or (pt_cmpR op_ne (pe_callB call_len_seq rfl ml PySem.boot_len (pa_cons (pv 0) pa_nil)) pe_int (nomark _))
      (pw_or (pt_not (pt_val (pe_call A1.G hr rfl A1.m A1.kp A1.b .nil pass0 (pa_cons (pe_ix ix_tup (pv 0) pe_int (fun _ _ => rfl)) pa_nil)))) (pw_or1 (pt_not (pt_val (pe_call A1.G hr rfl A1.m A1.kp A1.b .nil pass0 (pa_cons (pe_ix ix_tup (pv 0) pe_int (fun _ _ => rfl)) pa_nil))))))))) (pss_one (ps_ret pe_bl)) pss_nil)
    (pss_cons (ps_if (PW.pt (pw_or (pt_cmpR op_lt (pe_ix ix_tup (pv 0) pe_int (fun _ _ => rfl)) pe_int (nomark _)) (pw_or1 (pt_cmpR op_ne (pe_call A2.G hr rfl A2.m A2.kp A2.b .nil pass0 (pa_cons (pe_ix ix_tup (pv 0) pe_int (fun _ _ => rfl)) (pa_cons (pe_ix ix_tup (pv 0) pe_int (fun _ _ => rfl)) pa_nil))) pe_int (nomark _))))) (pss_one (ps_ret pe_bl)) pss_nil)
    (pss_one (ps_ret (pe_cmpR op_eq (pe_op op_mul (pe_ix ix_tup (pv 0) pe_int (fun _ _ => rfl)) (pv 2)) (pe_op op_mul (pv 1) (pe_ix ix_tup (pv 0) pe_int (fun _ _ => rfl))) (nomark _))))), ?_⟩
  have hq := SqT.of (K := K) hp
  have lp := low_pos (t := t) T1
  have lT : lowT t T ≤ t := Nat.div_le_self _ _
  refine ⟨_, rfl, _, _, _, _, rfl, .inl (.tup hp), rfl, _, rfl, itF ⟨_, rfl, p, _, rfl, .inr hq, rfl, _, rfl, itF ⟨_, rfl, p, _, _, _, rfl, rfl, hq, rfl, _, _, rfl, .int _, _, rfl, itF ⟨_, rfl, p, _, _, _, rfl, rfl, hq, rfl, _, _, rfl, .int _, _, rfl, itF ?_⟩⟩⟩⟩
  refine ⟨_, rfl, p, _, _, _, rfl, rfl, hq, rfl, _, _, rfl, rfl, _, rfl, ?_⟩
  rw [decide_eq_false (show ¬ (((lowBt t T : Nat) : Int) < 1) by omega)]
  refine itF ⟨_, rfl, p, _, _, _, rfl, rfl, hq, rfl, _, rfl, p, _, _, _, rfl, rfl, hq, rfl, _, _, rfl, ?_⟩
  rw [low_gcd T1]
  refine ⟨rfl, _, rfl, itF ?_⟩
  refine ⟨_, rfl, p, _, _, _, rfl, rfl, hq, rfl, _, rfl, _, _, rfl, rfl, .inr ⟨by omega, by omega⟩, _, rfl, _, rfl, p, _, _, _, rfl, rfl, hq, rfl, _, _, rfl, rfl, .inl ⟨by omega, by omega⟩, rfl, ?_⟩
  have e : (((lowT t T : Nat) : Int) * ((T : Nat) : Int)) = (((t : Nat) : Int) * ((lowBt t T : Nat) : Int)) := by
    have := low_mul (t := t) T1
    rw [← Int.natCast_mul, ← Int.natCast_mul, this]
  show Q (.bl (decide (V.int (((lowT t T : Nat) : Int) * ((T : Nat) : Int)) = V.int (((t : Nat) : Int) * ((lowBt t T : Nat) : Int))))) H
  rw [e, decide_eq_true rfl]
  exact q
theorem valV_at {κ : Type} [DecidableEq κ] {k : κ} {v : V} : ∀ {kvs : List (κ × V)}, (kvs.map (·.1)).Nodup → (k, v) ∈ kvs → valV kvs k = some v
  | p :: r, nd, h => by
    rw [List.map_cons, List.nodup_cons] at nd
    rcases List.mem_cons.mp h with rfl | h
    · exact valV_pos rfl
    · rw [valV_neg (fun z => nd.1 (by rw [z]; exact List.mem_map.mpr ⟨(k, v), h, rfl⟩))]
      exact valV_at nd.2 h
theorem told_keys {H : Hp} {ps : List (Int × Nat)} {T : Nat} : ∀ {kvs : List (Key × V)} {ns : List Int}, Paired (Tl H ps T) kvs ns → kvs.map (·.1) = ns.map Key.inl
  | _, _, .nil => rfl
  | _, _, .cons r t => by rw [List.map_cons, List.map_cons, r.1, told_keys t]
abbrev sSR : Stmt := top 40
def spSR (K : Frag) : Sp := fun vs H Q _ => ∃ (r u : Addr) (kvs : List (Key × V)) (ns : List Int) (ps qs : List (Int × Nat)), vs = [.ref r, .ref u] ∧ r ≠ u ∧ H r = some (.dK kvs) ∧ Told H kvs ns ps (dS (fun _ => 1) ps) ∧ H u = some (.dK (enc Key.inl qs)) ∧ DOk ps ∧ DOk qs ∧ (∀ g, dS g ps = dS g qs) ∧ qs.length < 64 ∧ 1 ≤ dS (fun _ => 1) ps ∧ dS (fun _ => 1) ps ≤ 2 ^ 20 ∧
  ∀ H' o, Kept H H' r → H' r = some (.frz o (.dK kvs)) → Q (.bl true) H'
abbrev NSR : List Str := ["_law_found", "_law_due", "_law_total", "_law_value"]
theorem scSR : FnScope NSR ["_law_found", "_law_due"] (defScope sSR) := ⟨rfl, rfl, rfl, by decide +kernel, rfl, by decide +kernel, by decide +kernel⟩
theorem ok_sr {f a1 a2 : Addr} {fd d1 d2 : FuncData} (N : IsT K) (F : Fun K "_law_spread_right" "_law_spread_right" sSR f fd) (A1 : Df P w K mg base CX0 1 "_law_whole" ["_law_found"] spWh a1 d1) (A2 : Df P w K mg base CX0 2 "_law_is_share" ["_law_found", "_law_top", "_law_bottom"] spISr a2 d2)
    (mi : mg "isinstance" = none) (md : mg "dict" = none) (ml : mg "list" = none) (ms : mg "sum" = none) (mo : mg "sorted" = none) : FnOk P w K mg base CX0 3 f fd ["_law_found", "_law_due"] (spSR K) := by
  refine F.ok scSR (fun vs H Q E h => ?_) (fun cdv A outer s H vs Q E hr h => ?_)
  · obtain ⟨r, u, kvs, ns, ps, qs, rfl, _⟩ := h
    rfl
  obtain ⟨r, u, kvs, ns, ps, qs, rfl, nru, hr0, tl, hu0, okp, okq, eqS, q64, T1, T20, q⟩ := h
  have nd := scSR.nd
  have hr1 : Room 1 _ := hr.mono (by decide)
  have hu : (A.deeper (PyProof.Rows.envOfC "_law_spread_right" (defScope sSR) s.heap.objs.size f cdv)).units + 1 < cLine := by have := hr.un; omega
  have hu64 := hr.units
  refine ⟨_, pss_cons (ps_set (i := 2) nd rfl (Or.inl rfl) (pe_callB (call_sumV rfl) rfl ms PyProof.Rows.boot_sum (pa_cons (pe_bm0 PySem.F.plainAttrs_dict PySem.F.slot_dict_values PySem.F.type_dict_values mt_values (pv 1)) pa_nil)))
    (pss_cons (ps_if (PW.pt (pw_or (pt_not (pt_val (pe_callB (call_isK N) rfl mi PyProof.Rows.boot_isinstance (pa_cons (pv 0) (pa_cons (pe_ty rfl md PyProof.Rows.boot_dict) pa_nil))))) (pw_or1 (pt_cmpR (op_neD hu64) (pe_callTy (call_listD rfl) rfl ml PyProof.Rows.boot_list (pa_cons (pv 0) pa_nil)) (pe_callB (call_sortD rfl) rfl mo PyProof.Rows.boot_sorted (pa_cons (pv 1) pa_nil)) (nomark _))))) (pss_one (ps_ret pe_bl)) pss_nil)
    (pss_cons (ps_for PassesOwn.never rfl (pi_keys (pv 0)) (pg_name (i := 3) nd rfl (Or.inl rfl))
      (pss_one (ps_if (PW.pt (pw_or (pt_not (pt_val (pe_call A1.G hr1 rfl A1.m A1.kp A1.b .nil pass0 (pa_cons (pv 3) pa_nil)))) (pw_or1 (pt_not (pt_val (pe_call A2.G hr rfl A2.m A2.kp A2.b .nil pass0 (pa_cons (pe_dget hu (pv 0) (pv 3) (fun _ _ => rfl)) (pa_cons (pe_dget hu (pv 1) (pv 3) (fun _ _ => rfl)) (pa_cons (pv 2) pa_nil))))))))) (pss_one (ps_ret pe_bl)) pss_nil)))
    (pss_one (ps_ret pe_bl)))), ?_⟩
  have keq : ∀ n, dAt ps n = dAt qs n := fun n => by rw [dAt_S okp.nd, dAt_S okq.nd, eqS]
  refine ⟨_, rfl, .inr (.inr (.inl ⟨rfl, .inl ⟨_, hu0⟩⟩)), u, _, rfl, rfl, .inl hu0, fun vp hvp => ?_⟩
  have x1 := Ext.new (o := VwO vp u) hvp
  have em : ((enc Key.inl qs).map (·.2)) = (qs.map fun q => ((q.2 : Nat) : Int)).map V.int := by
    unfold enc
    rw [List.map_map, List.map_map]
    rfl
  refine ⟨vp, u, _, qs.map fun q => ((q.2 : Nat) : Int), rfl, upd_same, .inl (x1 _ _ hu0), em, ?_⟩
  rw [dS_sum, ← eqS]
  refine ⟨_, rfl, _, _, _, _, rfl, .inl (.dK (x1 _ _ hr0)), rfl, _, rfl, itF ?_⟩
  have kk := told_keys tl.pr
  refine ⟨_, rfl, r, kvs, rfl, .inl (x1 _ _ hr0), fun l1 hl1 => ?_⟩
  have x2 := x1.trans (Ext.new (o := .lst (kvs.map fun p => kV p.1)) hl1)
  have ek : ((enc Key.inl qs).map fun p => kV p.1) = (qs.map (·.1)).map V.int := by
    unfold enc
    rw [List.map_map, List.map_map]
    rfl
  refine ⟨_, rfl, u, _, qs.map (·.1), rfl, .inl (x2 _ _ hu0), ek, by rw [List.length_map]; exact q64, fun l2 ns2 hl2 pm2 so2 => ?_⟩
  have x3 := Ext.new (o := .lst (ns2.map V.int)) hl2
  have ndn : ns.Nodup := tl.pm.nodup_iff.mpr okp.nd
  have ens : ns = ns2 := sorted_eq tl.so so2 ndn (pm2.nodup_iff.mpr okq.nd) fun n => by rw [tl.pm.mem_iff, pm2.mem_iff, okp.mem, okq.mem, keq]
  subst ens
  have e1 : (kvs.map fun p => kV p.1) = ns.map V.int := by
    have : (kvs.map fun p => kV p.1) = (kvs.map (·.1)).map kV := by rw [List.map_map]; rfl
    rw [this, kk, List.map_map]
    rfl
  have hl1' := x3 _ _ (upd_same (H := upd H vp (VwO vp u)) (a := l1) (o := .lst (kvs.map fun p => kV p.1)))
  refine ⟨.list (ns.map .int), .list (ns.map .int),   .lst hl1' (by rw [e1]; exact rds_nums _ _), .lst upd_same (rds_nums _ _), plain_nums ns, plain_nums ns, ?_, _, rfl, ?_⟩
  · simp only [PyData.depth, depth_nums]
    decide
  rw [eqD_refl (show plainD (.list (ns.map .int)) = true from plain_nums ns)]
  refine itF ?_
  have xx := x2.trans x3
  generalize upd _ l2 _ = H3 at xx
  refine ⟨_, rfl, r, .dK kvs, rfl, True.intro, .inl (xx _ _ hr0), fun ob H4 fz => ?_⟩
  have hr4 := fz.1
  have k4 : Kept H H4 r := fun b o e n => by rw [fz.2 b n]; exact xx _ _ e
  have lk : kvs.length = ns.length := Paired.length tl.pr
  have ndk : (kvs.map (·.1)).Nodup := by
    rw [kk]
    exact List.pairwise_map.mpr (List.Pairwise.imp (fun h z => h (inl_inj _ _ z)) ndn)
  refine for_kys (fun i σ H' => H' = H4 ∧ ∃ o3, σ = [some (.ref r), some (.ref u), some (.int ((dS (fun _ => 1) ps : Nat) : Int)), o3]) ⟨rfl, _, rfl⟩ (fun i σ H' p => by rw [p.1]; exact hr4) ?_ ?_
  · rintro i σ H' kx v hi ⟨rfl, o3, rfl⟩ pr
    rcases pr with ⟨kvs', k, e, hk, rfl⟩ | ⟨_, _, _, e, _⟩
    · cases e
      obtain ⟨n, en, e1, sh⟩ := paired_at' tl.pr hk
      have e1 : k = Key.inl n := e1
      subst e1
      have mem : n ∈ qs.map (·.1) := by rw [okq.mem, ← keq, ← okp.mem, ← tl.pm.mem_iff]; exact List.mem_of_getElem? en
      have kU : KpU H H' := fun b xs e => k4 _ _ e (fun z => by rw [z, hr0] at e; cases e)
      have g1 : DGet H' r (.int n) (some v) := .inl ⟨kvs, .inl n, .inr ⟨ob, hr4⟩, rfl, (valV_at ndk (List.mem_of_getElem? hk)).symm⟩
      have g2 : DGet H' u (.int n) (some (.int (dAt qs n : Nat))) := by
        have g := DGet.k (k := .inl n) (k4 _ _ hu0 nru.symm)
        rcases enc_val inl_inj n (ps := qs) with ⟨_, _, h3⟩ | ⟨h1, _⟩
        · exact absurd mem h3
        · rw [h1] at g; exact g
      obtain ⟨qq, hq, eq⟩ := List.mem_map.mp mem
      have le : dAt qs n ≤ dS (fun _ => 1) ps := by
        rw [eqS, ← eq, dAt_mem okq.nd hq]
        have := dS_le (g := fun _ => 1) hq
        omega
      have sh' : Sh1 H' v (lowT (dAt qs n) (dS (fun _ => 1) ps)) (lowBt (dAt qs n) (dS (fun _ => 1) ps)) := by
        rw [← keq]
        exact sh.kp kU
      refine ⟨_, rfl, _, _, rfl, .int n, _, rfl, itF ⟨_, rfl, _, rfl, r, v, rfl, g1, _, rfl, _, rfl, u, _, rfl, g2, _, rfl, v, _, _, rfl, sh', T1, T20, le, _, rfl, itF ⟨rfl, _, rfl⟩⟩⟩
    · cases e
  · rintro σ H' ⟨rfl, o3, rfl⟩
    exact q H' ob k4 hr4
end
end My
set_option Elab.async false
set_option linter.all false
set_option maxRecDepth 100000
set_option maxHeartbeats 1000000
namespace My
open PySem PySem.W L2
section
variable {X : Cx} {op : Operator} {r : R2} {a b : Expr} {ta tb : TE} {pos p : Pos} {CX : CXT} {k : Nat} {f : Addr} {fd : FuncData} {ps : List Str} {sp : Sp} {E : XK} {x : Str} {e : Expr} {es : List Expr} {t : TA} {tg iter l : Expr} {body : List Stmt} {wi : L2.TI} {g : TG} {tb' : TS} {tl : TE}
theorem bx_op (ho : OpR X (binaryOp op) r) (ha : Bx (PE X a ta)) (hb : Bx (PE X b tb)) : Bx (PE X (.BinOp a op b pos) (tOp r ta tb)) := ⟨pe_op ho ha.h hb.h⟩
theorem bx_piL (h : Bx (PE X l tl)) : Bx (PI X tg l (iList X.K tl)) := ⟨pi_list h.h⟩
theorem bx_forL (hp : PassesOwn (model X.prog X.w) X.A X.env X.xe) (hc : X.calm = true) (hi : Bx (PI X tg iter wi)) (hg : PG X tg g) (hb : Bx (PSs X body tb')) (hs : ∀ x, foldedSetIterable iter X.env x = pure x := by intro _; rfl) : Bx (PS X (.For tg iter body [] pos) (tFor wi g tb')) := ⟨ps_for hp hc hi.h hg hb.h hs⟩
end
end My
set_option Elab.async false
set_option linter.all false
set_option maxRecDepth 100000
set_option maxHeartbeats 2000000
set_option exponentiation.threshold 10000
namespace My
open PySem PySem.W L2
def Pr2 (H : Hp) (y : V) (p : Int × Int) : Prop := ∃ t, y = .ref t ∧ H t = some (.tup [.int p.1, .int p.2])
theorem Pr2.kp {H H' : Hp} {y : V} {p : Int × Int} (h : Pr2 H y p) (k : KpU H H') : Pr2 H' y p := by
  obtain ⟨t, e, h⟩ := h
  exact ⟨t, e, k _ _ h⟩
def LsAt (H : Hp) (a : Addr) (L : List (Int × Int)) : Prop := ∃ xs, H a = some (.lst xs) ∧ Paired (Pr2 H) xs L
theorem LsAt.ext {H H' : Hp} {a : Addr} {L : List (Int × Int)} (h : LsAt H a L) (x : Ext H H') : LsAt H' a L := by
  obtain ⟨xs, h1, h2⟩ := h
  exact ⟨xs, x _ _ h1, Paired.imp' (fun _ _ r => r.kp x.kpU) h2⟩
def f2 (z : Int × Int) : List Key := [.inl z.1, .inl z.2]
theorem f2_inj : ∀ a b : Int × Int, f2 a = f2 b → a = b := fun a b h => by
  obtain ⟨a1, a2⟩ := a
  obtain ⟨b1, b2⟩ := b
  injection h with h1 h2
  injection h1 with h1
  injection h2 with h2 _
  injection h2 with h2
  have h1 : a1 = b1 := h1
  have h2 : a2 = b2 := h2
  rw [h1, h2]
def twoW (w : Int × Int) (G : Int × Int → Nat) (z : Int × Int) : Nat := G (z.1, z.2 + w.1) + G (z.1 + 1, z.2 + w.2)
section
variable {P : Program} {w : World} {K : Frag} {mg : Str → Option Value} {base : Heap}
abbrev sTb : Stmt := top 50
abbrev NTb : List Str := ["_law_listing_here", "_law_ones_here", "_law_found", "_law_here", "_law_there", "_law_more", "_law_used", "_law_value", "_law_ways", "_law_hand", "_law_added", "_law_key"]
theorem scTb : FnScope NTb ["_law_listing_here", "_law_ones_here"] (defScope sTb) := ⟨rfl, rfl, rfl, by decide +kernel, rfl, by decide +kernel, by decide +kernel⟩
abbrev scTbc : Scope := { kind := .function, names := [(".0", .local), ("_law_used", .local), ("_law_value", .local), ("_law_ways", .local), ("_law_ones_here", .free)], isGenerator := false, isCoroutine := false }
theorem ndTb : ((["_law_used", "_law_value", "_law_ways"] : List Str) ++ (["_law_ones_here"] : List Str)).Nodup := by decide +kernel
def rLen (K : Frag) : List V → Hp → VK → Prop := fun xs H Q => ∃ p ys, xs = [.ref p] ∧ (SqL K H p ys ∨ SqT K H p ys) ∧ Q (.int ys.length) H
abbrev oAdd : R2 := rI0 fun i j => .int (i + j)
abbrev oSub : R2 := rI0 fun i j => .int (i - j)
abbrev oMul : R2 := rI CMul fun i j => .int (i * j)
def tKey : TE := tTup (tCons (tOp oAdd (tVar 6) (tVar 9)) (tCons (tOp oAdd (tVar 7) (tVar 10)) tNil))
def tB3 : TS := tSeq (tAsg tKey (gName 11)) (sDPut (tVar 5) (tVar 11) (tOp oAdd (tDGet2 (tVar 5) (tVar 11) (tC (.int 0))) (tVar 8)))
def tHands (K : Frag) : TE := tLst (tCons (tTup (tCons (tC (.int 0)) (tCons (tOp oSub (tC (.int 0)) (tOp oMul (tVar 1) (tVar 4))) tNil))) (tCons (tTup (tCons (tC (.int 1)) (tCons (tOp oMul (tOp oSub (tCB (rLen K) (tCons (tVar 0) tNil)) (tVar 1)) (tVar 3)) tNil))) tNil))
def tB2 (K : Frag) : TS := tFor (iList K (tHands K)) (gW K 9 10) tB3
def gItm (K : Frag) (i j k : Nat) : TG := gTup K 2 (gCons (gTup K 2 (gCons (gName i) (gCons (gName j) gNil))) (gCons (gName k) gNil))
def tB1 (K : Frag) : TS := tFor (iItm (tVar 2)) (gItm K 6 7 8) (tB2 K)
def tB0 (K : Frag) : TS := tFor (iList K (tVar 0)) (gW K 3 4) (tSeq (tAsg tDNewT (gName 5)) (tSeq (tB1 K) (tAsg (tVar 5) (gName 2))))
def tBc (K : Frag) : TE := tLCGif (iItm (tVar 2)) 3 [1] (gItm K 0 1 2) (tB (tOp rEq (tVar 0) (tVar 3))) (tTup (tCons (tVar 1) (tCons (tVar 2) tNil)))
def tTb (K : Frag) : TS := tSeq (tAsg (tDisp1 (tTup (tCons (tC (.int 0)) (tCons (tC (.int 0)) tNil))) (tC (.int 1))) (gName 2)) (tSeq (tB0 K) (tRet (tCB rDictP (tCons (tBc K) tNil))))
abbrev forT : Stmt → Expr × List Stmt
  | .For _ it b _ _ => (it, b)
  | _ => (.Name "" ⟨0, 0, 0, 0⟩, [])
abbrev s0 : Stmt := .Pass ⟨0, 0, 0, 0⟩
abbrev forB1 : Stmt := (forT ((defBody sTb).getD 1 s0)).2.getD 1 s0
abbrev forB2 : Stmt := (forT forB1).2.getD 0 s0
abbrev bodyB3 : List Stmt := (forT forB2).2
abbrev iterB2 : Expr := (forT forB2).1
abbrev compBc : Expr := match (defBody sTb).getD 2 s0 with
  | .Return (some (.Call _ [e] _ _)) _ => e
  | _ => .Name "" ⟨0, 0, 0, 0⟩
section
variable {f : Addr} {cdv : Value} {A : Around} {outer : List Env} {s : Shared} {H : Hp} {E : XK}
theorem compTb : CompG (cxOf CX0 P w K mg base NTb "_law_table" (defScope sTb) f cdv A outer s H E).nox scTbc [("_law_ones_here", s.heap.objs.size + 1)] ["_law_used", "_law_value", "_law_ways"] ["_law_ones_here"] [1] :=
  compGn (M := ["_law_ones_here"]) (L := [(".0", .local), ("_law_used", .local), ("_law_value", .local), ("_law_ways", .local), ("_law_ones_here", .cell)]) rfl rfl (by decide +kernel) (by decide +kernel) (by decide +kernel) rfl rfl rfl (by decide +kernel) (by decide +kernel) rfl rfl rfl
theorem tb_3 (hr : Room 0 (A.deeper (PyProof.Rows.envOfC "_law_table" (defScope sTb) s.heap.objs.size f cdv))) :
    Bx (PSs (cxOf CX0 P w K mg base NTb "_law_table" (defScope sTb) f cdv A outer s H E).nox (bodyB3) tB3) := by
  have nd := scTb.nd
  have hu : (A.deeper (PyProof.Rows.envOfC "_law_table" (defScope sTb) s.heap.objs.size f cdv)).units + 1 < cLine := by have := hr.units; omega
  exact ⟨pss_cons (ps_set (i := 11) nd rfl (Or.inl rfl) (pe_tup (pa_cons (pe_op op_add (pv 6) (pv 9)) (pa_cons (pe_op op_add (pv 7) (pv 10)) pa_nil))))
          (pss_one (ps_dput hu (pv 5) (pv 11) (pe_op op_add (pe_dget2 hu (pv 5) (pv 11) pe_int ⟨rfl, rfl, rfl, rfl⟩) (pv 8)) rfl))⟩
theorem tb_h (ml : mg "len" = none) : Bx (PE (cxOf CX0 P w K mg base NTb "_law_table" (defScope sTb) f cdv A outer s H E).nox (iterB2) (tHands K)) :=
  ⟨pe_lst (pa_cons (pe_tup (pa_cons pe_int (pa_cons (pe_op op_sub pe_int (pe_op op_mul (pv 1) (pv 4))) pa_nil))) (pa_cons (pe_tup (pa_cons pe_int (pa_cons (pe_op op_mul (pe_op op_sub (pe_callB call_len_seq rfl ml PySem.boot_len (pa_cons (pv 0) pa_nil)) (pv 1)) (pv 3)) pa_nil))) pa_nil))⟩
theorem tb_c : Bx (PE (cxOf CX0 P w K mg base NTb "_law_table" (defScope sTb) f cdv A outer s H E).nox (compBc) (tBc K)) :=
  ⟨pe_lcGI (tt := tB (tOp rEq (tVar 0) (tVar 3))) (te := tTup (tCons (tVar 1) (tCons (tVar 2) tNil))) (g := gItm K 0 1 2) rfl compTb (pi_items (pv 2)) (fun s H C fp => by exact pg_tup rfl (pgs_cons (pg_tup rfl (pgs_cons (pg_name (i := 0) ndTb rfl (.inl rfl)) (pgs_cons (pg_name (i := 1) ndTb rfl (.inl rfl)) pgs_nil))) (pgs_cons (pg_name (i := 2) ndTb rfl (.inl rfl)) pgs_nil))) (fun s H C fp => by exact pt_cmpR op_eq (pv 0) (pv 3) (nomark _)) (fun s H C fp => by exact pe_tup (pa_cons (pv 1) (pa_cons (pv 2) pa_nil)))⟩
theorem bx_callTy1 {X : Cx} {n : String} {r : List V → Hp → VK → Prop} {x : Str} {e : Expr} {te : TE} {p pos : Pos} (hc : CallR X (.type n) r) (hg : Gl X x) (hm : X.mg x = none) (hv : bootBuiltins x = some (.type n)) (ha : Bx (PE X e te)) (hn : x ≠ "__name__" := by decide) (hdb : (x == ("__debug__" : Str)) = false := by decide)
    (he : starEach [e] X.env = (false, eval e X.env) :: starEach [] X.env := by rfl) (hpl : (backTo pos (starEach [] X.env)).any (·.1) = false := by rfl) : Bx (PE X (.Call (.Name x p) [e] [] pos) (tCB r (tCons te tNil))) := ⟨pe_callTy hc hg hm hv (pa_cons ha.h pa_nil (hs := he)) hn hdb he hpl⟩
theorem tb_der (ml : mg "len" = none) (md : mg "dict" = none) (hr : Room 0 (A.deeper (PyProof.Rows.envOfC "_law_table" (defScope sTb) s.heap.objs.size f cdv))) :
    Bx (PSs (cxOf CX0 P w K mg base NTb "_law_table" (defScope sTb) f cdv A outer s H E).nox (defBody sTb) (tTb K)) := by
  have nd := scTb.nd
  exact bxs_cons ⟨ps_set (i := 2) nd rfl (Or.inl rfl) (pe_disp1 hr.units (pe_tup (pa_cons pe_int (pa_cons pe_int pa_nil))) pe_int)⟩
    (bxs_cons (bx_forL PassesOwn.never rfl ⟨pi_list (pv 0)⟩ (pg_tup rfl (pgs_cons (pg_name (i := 3) nd rfl (Or.inl rfl)) (pgs_cons (pg_name (i := 4) nd rfl (Or.inl rfl)) pgs_nil)))
      (bxs_cons ⟨ps_set (i := 5) nd rfl (Or.inl rfl) pe_dnewT⟩
      (bxs_cons (bx_forL PassesOwn.never rfl ⟨pi_items (pv 2)⟩ (pg_tup rfl (pgs_cons (pg_tup rfl (pgs_cons (pg_name (i := 6) nd rfl (Or.inl rfl)) (pgs_cons (pg_name (i := 7) nd rfl (Or.inl rfl)) pgs_nil))) (pgs_cons (pg_name (i := 8) nd rfl (Or.inl rfl)) pgs_nil)))
        (bxs_one (bx_forL PassesOwn.never rfl (bx_piL (tb_h ml)) (pg_tup rfl (pgs_cons (pg_name (i := 9) nd rfl (Or.inl rfl)) (pgs_cons (pg_name (i := 10) nd rfl (Or.inl rfl)) pgs_nil))) (tb_3 hr))))
      (bxs_one ⟨ps_set (i := 2) nd rfl (Or.inl rfl) (pv 5)⟩))))
    (bxs_one (bx_ret (bx_callTy1 (call_dictP rfl) rfl md PyProof.Rows.boot_dict tb_c))))
end
end
end My
set_option Elab.async false
set_option linter.all false
set_option maxRecDepth 100000
set_option maxHeartbeats 2000000
set_option exponentiation.threshold 10000
namespace My
open PySem PySem.W L2
abbrev sT (a : Addr) (O : Int) (fd : Addr) (r : List (Option V)) : St := some (.ref a) :: some (.int O) :: some (.ref fd) :: r
def TD (H : Hp) (m : Addr) (qs : List ((Int × Int) × Nat)) : Prop := H m = some (.dT (enc f2 qs))
section
variable {K : Frag} {H : Hp} {a m fd : Addr} {O : Int}
theorem rd_b3 {D : Ends} {qs : List ((Int × Int) × Nat)} {h t u v hd ad : Int} {wy : Nat} {o11 : Option V} (hm : TD H m qs) (ok : DOk qs) (sm : qs.length < 16000000) (wp : 0 < wy)
    (q : ∀ H' o11, Kept H H' m → TD H' m (dAdd qs (u + hd, v + ad) wy) → D.nx (sT a O fd [some (.int h), some (.int t), some (.ref m), some (.int u), some (.int v), some (.int (wy : Nat)), some (.int hd), some (.int ad), o11]) H') :
    tB3 D (sT a O fd [some (.int h), some (.int t), some (.ref m), some (.int u), some (.int v), some (.int (wy : Nat)), some (.int hd), some (.int ad), o11]) H := by
  refine ⟨_, rfl, _, rfl, _, _, rfl, rfl, _, rfl, _, rfl, _, _, rfl, rfl, by show 2 ≤ sizeLine; decide, fun kt hkt => ?_⟩
  have x1 := Ext.new (o := .tup [.int (u + hd), .int (v + ad)]) hkt
  have hm1 : upd H kt (.tup [.int (u + hd), .int (v + ad)]) m = some (.dT (enc f2 qs)) := x1 _ _ hm
  have hk1 : upd H kt (.tup [.int (u + hd), .int (v + ad)]) kt = some (.tup ((f2 (u + hd, v + ad)).map kV)) := upd_same
  refine ⟨_, rfl, m, rfl, .inr ⟨_, .inl hm1⟩, _, rfl, _, DGet.t hm1 hk1, ?_⟩
  have eg : (valV (enc f2 qs) (f2 (u + hd, v + ad))).getD (.int 0) = .int ((dAt qs (u + hd, v + ad) : Nat) : Int) := by
    rcases enc_val f2_inj (u + hd, v + ad) (ps := qs) with ⟨h1, h2, _⟩ | ⟨h1, _⟩
    · rw [h1, h2]; rfl
    · rw [h1]; rfl
  rw [eg]
  refine ⟨_, rfl, _, _, rfl, rfl, _, rfl, _, rfl, m, _, rfl, DPut.t hm1 hk1 (by rw [enc_len, sizeLine_eq]; omega), ?_⟩
  refine q _ _ ((x1.kept m).trans (keptUpd _)) ?_
  unfold TD
  rw [upd_same, ← enc_put f2_inj _ wy ok.nd]
  rfl
theorem rd_b2 {D : Ends} {qs : List ((Int × Int) × Nat)} {h t u v : Int} {wy : Nat} {L : List (Int × Int)} {o9 o10 o11 : Option V} (ls : LsAt H a L) (nam : a ≠ m) (hm : TD H m qs) (ok : DOk qs) (sm : qs.length < 15000000) (wp : 0 < wy) (hh : h = 0 ∨ h = 1) (ht : t = 0 ∨ t = 1)
    (q : ∀ H' qs' o9 o10 o11, Kept H H' m → TD H' m qs' → DOk qs' → qs'.length ≤ qs.length + 2 → (∀ G, dS G qs' = dS G qs + wy * twoW (wt2 O L.length (h, t)) G (u, v)) → D.nx (sT a O fd [some (.int h), some (.int t), some (.ref m), some (.int u), some (.int v), some (.int (wy : Nat)), o9, o10, o11]) H') :
    tB2 K D (sT a O fd [some (.int h), some (.int t), some (.ref m), some (.int u), some (.int v), some (.int (wy : Nat)), o9, o10, o11]) H := by
  obtain ⟨xs, ha, pr⟩ := id ls
  have lx : xs.length = L.length := Paired.length pr
  refine ⟨_, rfl, _, rfl, _, _, rfl, rfl, .inr ⟨by omega, by omega⟩, _, _, rfl, rfl, by show 2 ≤ sizeLine; decide, fun t0 ht0 => ?_⟩
  have x1 := Ext.new (o := .tup [.int 0, .int (0 - O * t)]) ht0
  refine ⟨_, rfl, a, xs, rfl, .inl (SqL.of (x1 _ _ ha)), _, rfl, _, _, rfl, rfl, _, rfl, _, _, rfl, rfl, .inr ⟨by omega, by omega⟩, by show 2 ≤ sizeLine; decide, fun t1 ht1 => ?_⟩
  have x2 := Ext.new (o := .tup [.int 1, .int ((((xs.length : Nat) : Int) - O) * h)]) ht1
  refine ⟨by show 2 ≤ sizeLine; decide, fun l hl => ?_⟩
  have x3 := Ext.new (o := .lst [.ref t0, .ref t1]) hl
  have X3 := (x1.trans x2).trans x3
  have h0 := x3 _ _ (x2 _ _ (upd_same (H := H) (a := t0) (o := .tup [.int 0, .int (0 - O * t)])))
  have h1 := x3 _ _ (upd_same (H := upd H t0 (.tup [.int 0, .int (0 - O * t)])) (a := t1) (o := .tup [.int 1, .int ((((xs.length : Nat) : Int) - O) * h)]))
  have hl3 : upd (upd (upd H t0 (.tup [.int 0, .int (0 - O * t)])) t1 (.tup [.int 1, .int ((((xs.length : Nat) : Int) - O) * h)])) l (.lst [.ref t0, .ref t1]) l = some (.lst [.ref t0, .ref t1]) := upd_same
  have hm3 : TD (upd (upd (upd H t0 (.tup [.int 0, .int (0 - O * t)])) t1 (.tup [.int 1, .int ((((xs.length : Nat) : Int) - O) * h)])) l (.lst [.ref t0, .ref t1])) m qs := X3 _ _ hm
  generalize upd (upd (upd H t0 (.tup [.int 0, .int (0 - O * t)])) t1 (.tup [.int 1, .int ((((xs.length : Nat) : Int) - O) * h)])) l (.lst [.ref t0, .ref t1]) = H3 at X3 h0 h1 hl3 hm3
  rw [lx] at h1
  have nlm : l ≠ m := fun z => by
    unfold TD at hm3
    rw [← z, hl3] at hm3
    cases hm3
  have n0 : t0 ≠ m := fun z => by
    unfold TD at hm3
    rw [← z, h0] at hm3
    cases hm3
  have n1 : t1 ≠ m := fun z => by
    unfold TD at hm3
    rw [← z, h1] at hm3
    cases hm3
  refine ⟨l, rfl, ⟨_, SqL.of hl3⟩, for_list (xs := [.ref t0, .ref t1]) (fun i σ H' => Kept H3 H' m ∧ (∃ qs', TD H' m qs' ∧ DOk qs' ∧ qs'.length ≤ qs.length + i ∧ ∀ G, dS G qs' = dS G qs + wy * ((if 1 ≤ i then G (u, v + (0 - O * t)) else 0) + if 2 ≤ i then G (u + 1, v + (((L.length : Nat) : Int) - O) * h) else 0)) ∧ ∃ o9 o10 o11, σ = sT a O fd [some (.int h), some (.int t), some (.ref m), some (.int u), some (.int v), some (.int (wy : Nat)), o9, o10, o11]) ⟨Kept.refl _ _, ⟨qs, hm3, ok, Nat.le_refl _, fun G => by simp⟩, _, _, _, rfl⟩ ?_ ?_ ?_⟩
  · rintro i σ H' _ ⟨k, _⟩
    exact SqL.of (k _ _ hl3 nlm)
  · rintro i x σ H' ex ⟨k, ⟨qs', hm', ok', l', es⟩, o9, o10, o11, rfl⟩
    have li : i < 2 := (List.getElem?_eq_some_iff.mp ex).1
    rcases (show i = 0 ∨ i = 1 by omega) with rfl | rfl
    · cases ex
      refine ⟨t0, _, rfl, SqT.of (k _ _ h0 n0), rfl, _, _, rfl, _, _, rfl, rfl, ?_⟩
      refine rd_b3 hm' ok' (by omega) wp fun H4 o11 k4 hm4 => ⟨k.trans k4, ⟨_, hm4, ok'.add wp, Nat.le_trans (dAdd_len _) (by omega), fun G => ?_⟩, _, _, _, rfl⟩
      rw [dS_add, es G, show u + 0 = u by omega]
      simp
    · cases ex
      refine ⟨t1, _, rfl, SqT.of (k _ _ h1 n1), rfl, _, _, rfl, _, _, rfl, rfl, ?_⟩
      refine rd_b3 hm' ok' (by omega) wp fun H4 o11 k4 hm4 => ⟨k.trans k4, ⟨_, hm4, ok'.add wp, Nat.le_trans (dAdd_len _) (by omega), fun G => ?_⟩, _, _, _, rfl⟩
      rw [dS_add, es G]
      simp [Nat.mul_add, Nat.add_assoc]
  · rintro σ H' ⟨k, ⟨qs', hm', ok', l', es⟩, o9, o10, o11, rfl⟩
    refine q H' qs' _ _ _ ((X3.kept m).trans k) hm' ok' (by simpa using l') fun G => ?_
    rw [es G]
    simp [twoW, wt2]
end
end My
set_option Elab.async false
set_option linter.all false
set_option maxRecDepth 100000
set_option maxHeartbeats 2000000
set_option exponentiation.threshold 10000
namespace My
open PySem PySem.W L2
theorem enc_get {α κ : Type} [DecidableEq α] [DecidableEq κ] {f : α → κ} {ps : List (α × Nat)} {i : Nat} {k : κ} {v : V} (h : (enc f ps)[i]? = some (k, v)) : ∃ q, ps[i]? = some q ∧ k = f q.1 ∧ v = .int (q.2 : Nat) := by
  unfold enc at h
  rw [List.getElem?_map] at h
  obtain ⟨q, hq, e⟩ := Option.map_eq_some_iff.mp h
  cases e
  exact ⟨q, hq, rfl, rfl⟩
theorem prAt_get {H : Hp} {ps : List ((Int × Int) × Nat)} {i : Nat} {kx v : V} (h : PrAt H (.dT (enc f2 ps)) i kx v) : ∃ q b, ps[i]? = some q ∧ kx = .ref b ∧ H b = some (.tup [.int q.1.1, .int q.1.2]) ∧ v = .int (q.2 : Nat) := by
  rcases h with ⟨_, _, e, _⟩ | ⟨kvs, k, b, e, hk, rfl, hb⟩
  · cases e
  · cases e
    obtain ⟨q, hq, rfl, rfl⟩ := enc_get hk
    exact ⟨q, b, hq, rfl, hb, rfl⟩
def selO (O : Int) (ps : List ((Int × Int) × Nat)) : List (Int × Nat) := (ps.filter fun q => decide (q.1.1 = O)).map fun q => (q.1.2, q.2)
theorem selO_snoc {O : Int} {ps : List ((Int × Int) × Nat)} {q : (Int × Int) × Nat} : selO O (ps ++ [q]) = selO O ps ++ (if q.1.1 = O then [(q.1.2, q.2)] else []) := by
  unfold selO
  rw [List.filter_append, List.map_append]
  congr 1
  by_cases e : q.1.1 = O
  · rw [if_pos e]
    simp [e]
  · rw [if_neg e]
    simp [e]
theorem selO_S {O : Int} (g : Int → Nat) : ∀ ps : List ((Int × Int) × Nat), dS g (selO O ps) = dS (fun z => fg O g z.1 z.2) ps
  | [] => rfl
  | p :: r => by
    have ih := selO_S (O := O) g r
    unfold selO at ih ⊢
    show _ = p.2 * fg O g p.1.1 p.1.2 + dS _ r
    rw [← ih]
    by_cases e : p.1.1 = O
    · rw [List.filter_cons, if_pos (decide_eq_true e), List.map_cons]
      show p.2 * g p.1.2 + _ = _
      unfold fg
      rw [if_pos e]
    · rw [List.filter_cons, if_neg (by simpa using e)]
      unfold fg
      rw [if_neg e]
      omega
theorem selO_ok {O : Int} : ∀ {ps : List ((Int × Int) × Nat)}, DOk ps → DOk (selO O ps)
  | [], _ => dok_nil
  | p :: r, h => by
    have ih := selO_ok (O := O) h.tail
    have nd := h.nd
    rw [List.map_cons, List.nodup_cons] at nd
    unfold selO at ih ⊢
    by_cases e : p.1.1 = O
    · rw [List.filter_cons, if_pos (decide_eq_true e), List.map_cons]
      refine ⟨?_, fun q hq => ?_⟩
      · rw [List.map_cons, List.nodup_cons]
        refine ⟨fun z => nd.1 ?_, ih.nd⟩
        obtain ⟨q, hq, e2⟩ := List.mem_map.mp z
        obtain ⟨q', hq', rfl⟩ := List.mem_map.mp hq
        obtain ⟨m1, m2⟩ := List.mem_filter.mp hq'
        have m2 : q'.1.1 = O := of_decide_eq_true m2
        have e2 : q'.1.2 = p.1.2 := e2
        exact List.mem_map.mpr ⟨q', m1, Prod.ext (m2.trans e.symm) e2⟩
      · rcases List.mem_cons.mp hq with rfl | hq
        · exact h.pos p (List.mem_cons_self ..)
        · exact ih.pos q hq
    · rw [List.filter_cons, if_neg (by simpa using e)]
      exact ih
theorem putAll_nd : ∀ (n : Nat) {qs : List (Key × V)}, qs.length = n → (qs.map (·.1)).Nodup → putAll qs = qs
  | 0, qs, h, _ => by cases List.length_eq_zero_iff.mp h; rfl
  | n + 1, qs, h, nd => by
    obtain ⟨r, q, rfl⟩ : ∃ r q, qs = r ++ [q] := by
      refine ⟨qs.dropLast, qs.getLast (fun z => by rw [z] at h; cases h), (List.dropLast_concat_getLast _).symm⟩
    rw [List.length_append] at h
    rw [List.map_append] at nd
    have nd1 := (List.nodup_append.mp nd).1
    rw [putAll_snoc, putAll_nd n (by simpa using h) nd1, putK_new]
    intro z
    exact (List.nodup_append.mp nd).2.2 _ z _ (List.mem_singleton.mpr rfl) rfl
section
variable {K : Frag} {H : Hp} {a m fd : Addr} {O : Int}
theorem rd_b1 {D : Ends} {ps : List ((Int × Int) × Nat)} {h t : Int} {L : List (Int × Int)} {N : Nat} {o6 o7 o8 o9 o10 o11 : Option V} (ls : LsAt H a L) (naf : a ≠ fd) (nmf : m ≠ fd) (hm : TD H m []) (hf : TD H fd ps) (ok : DOk ps) (sm : ps.length ≤ 2 ^ 19) (hh : h = 0 ∨ h = 1) (ht : t = 0 ∨ t = 1)
    (q : ∀ H' qs o6 o7 o8 o9 o10 o11, (∀ b o, H b = some o → b ≠ m → b ≠ fd → H' b = some o) → TD H' m qs → DOk qs → qs.length ≤ 2 * ps.length → (∀ G, dS G qs = dS (twoW (wt2 O L.length (h, t)) G) ps) → D.nx (sT a O fd [some (.int h), some (.int t), some (.ref m), o6, o7, o8, o9, o10, o11]) H') :
    tB1 K D (sT a O fd [some (.int h), some (.int t), some (.ref m), o6, o7, o8, o9, o10, o11]) H := by
  refine ⟨_, rfl, fd, .dT (enc f2 ps), rfl, True.intro, .inl hf, fun ob H2 fz => ?_⟩
  have k2 : ∀ b o, H b = some o → b ≠ fd → H2 b = some o := fun b o e n => by rw [fz.2 b n]; exact e
  have nam : a ≠ m := fun z => by
    obtain ⟨xs, ha, _⟩ := ls
    unfold TD at hm
    rw [z, hm] at ha
    cases ha
  have kU2 : KpU H H2 := fun b xs e => k2 _ _ e (fun z => by unfold TD at hf; rw [z, hf] at e; cases e)
  have ls2 : LsAt H2 a L := by
    obtain ⟨xs, ha, pr⟩ := ls
    exact ⟨xs, k2 _ _ ha naf, Paired.imp' (fun _ _ r => r.kp kU2) pr⟩
  have hm2 : TD H2 m [] := k2 _ _ hm nmf
  have ln : lenD (.dT (enc f2 ps)) = ps.length := enc_len
  refine for_itm (fun j σ H' => Kept H2 H' m ∧ (∃ qs, TD H' m qs ∧ DOk qs ∧ qs.length ≤ 2 * j ∧ ∀ G, dS G qs = dS (twoW (wt2 O L.length (h, t)) G) (ps.take j)) ∧ ∃ o6 o7 o8 o9 o10 o11, σ = sT a O fd [some (.int h), some (.int t), some (.ref m), o6, o7, o8, o9, o10, o11]) ⟨Kept.refl _ _, ⟨[], hm2, dok_nil, Nat.le_refl _, fun G => rfl⟩, _, _, _, _, _, _, rfl⟩ (fun i σ H' p => p.1 _ _ fz.1 nmf.symm) ?_ ?_
  · rintro j σ H' p kx v hj ⟨k, ⟨qs, hm', ok', l', es⟩, o6, o7, o8, o9, o10, o11, rfl⟩ hp pr
    obtain ⟨z, b, ez, rfl, hb, rfl⟩ := prAt_get pr
    have x1 := Ext.new (o := .tup [.ref b, .int (z.2 : Nat)]) hp
    rw [ln] at hj
    refine ⟨p, _, rfl, SqT.of upd_same, rfl, _, _, rfl, b, _, rfl, SqT.of (x1 _ _ hb), rfl, _, _, rfl, _, _, rfl, rfl, _, _, rfl, rfl, ?_⟩
    have ls3 : LsAt (upd H' p (.tup [.ref b, .int (z.2 : Nat)])) a L := by
      obtain ⟨xs, ha, pr⟩ := ls2
      have kk : KpU H2 H' := fun b xs e => k _ _ e (fun z => by unfold TD at hm2; rw [z, hm2] at e; cases e)
      exact ⟨xs, x1 _ _ (k _ _ ha nam), Paired.imp' (fun _ _ r => (r.kp kk).kp x1.kpU) pr⟩
    have hm3 : TD (upd H' p (.tup [.ref b, .int (z.2 : Nat)])) m qs := x1 _ _ hm'
    refine rd_b2 (K := K) ls3 nam hm3 ok' (by omega) (ok.pos z (List.mem_of_getElem? ez)) hh ht fun H4 qs' o9 o10 o11 k4 hm4 ok4 l4 es4 => ⟨k.trans ((x1.kept m).trans k4), ⟨qs', hm4, ok4, by omega, fun G => ?_⟩, _, _, _, _, _, _, rfl⟩
    rw [es4 G, es G, dS_take ez]
  · rintro σ H' ⟨k, ⟨qs, hm', ok', l', es⟩, o6, o7, o8, o9, o10, o11, rfl⟩
    rw [ln] at l' es
    refine q H' qs _ _ _ _ _ _ (fun b o e n1 n2 => k _ _ (k2 _ _ e n2) n1) hm' ok' l' fun G => ?_
    rw [es G, List.take_length]
theorem EE_drop {f : Int → Int → Nat} {W : List (Int × Int)} {i : Nat} {w : Int × Int} (h : W[i]? = some w) (z : Int × Int) : EE f (W.drop i) z.1 z.2 = twoW w (fun z => EE f (W.drop (i + 1)) z.1 z.2) z := by
  have hi := (List.getElem?_eq_some_iff.mp h)
  rw [List.drop_eq_getElem_cons hi.1, hi.2]
  rfl
theorem rd_b0 {D : Ends} {L : List (Int × Int)} {o3 o4 o5 o6 o7 o8 o9 o10 o11 : Option V} (ls : LsAt H a L) (bt : Bits L) (l20 : L.length ≤ 20) (hf : TD H fd [((0, 0), 1)])
    (naf : a ≠ fd) {H0 : Hp} (x0 : Ext H0 H) (nf : H0 fd = none) (ls0 : LsAt H0 a L)
    (q : ∀ H' fd ps o3 o4 o5 o6 o7 o8 o9 o10 o11, Ext H0 H' → H0 fd = none → TD H' fd ps → DOk ps → ps.length ≤ 2 ^ 20 → (∀ f, dS (fun z => f z.1 z.2) ps = EE f (L.map (wt2 O L.length)) 0 0) → D.nx (sT a O fd [o3, o4, o5, o6, o7, o8, o9, o10, o11]) H') :
    tB0 K D (sT a O fd [o3, o4, o5, o6, o7, o8, o9, o10, o11]) H := by
  obtain ⟨xs, ha, pr⟩ := id ls
  have lx : xs.length = L.length := Paired.length pr
  refine ⟨_, rfl, a, rfl, ⟨_, SqL.of ha⟩, for_list (xs := xs) (fun i σ H' => Ext H0 H' ∧ LsAt H' a L ∧ H' a = some (.lst xs) ∧ Paired (Pr2 H') xs L ∧ ∃ fd ps, TD H' fd ps ∧ H0 fd = none ∧ DOk ps ∧ ps.length ≤ 2 ^ i ∧ (∀ f, dS (fun z => EE f ((L.map (wt2 O L.length)).drop i) z.1 z.2) ps = EE f (L.map (wt2 O L.length)) 0 0) ∧ ∃ o3 o4 o5 o6 o7 o8 o9 o10 o11, σ = sT a O fd [o3, o4, o5, o6, o7, o8, o9, o10, o11]) ⟨x0, ls, ha, pr, fd, _, hf, nf, ⟨by simp, fun q hq => by cases List.mem_singleton.mp hq; exact Nat.one_pos⟩, Nat.le_refl _, fun f => ?_, _, _, _, _, _, _, _, _, _, rfl⟩ ?_ ?_ ?_⟩
  · show 1 * EE f _ 0 0 + 0 = _
    rw [Nat.one_mul, Nat.add_zero]
    rfl
  · rintro i σ H' _ ⟨_, _, h, _⟩
    exact SqL.of h
  · rintro i x σ H' ex ⟨x', ls', ha', pr', fd, ps, hf', nf', ok, l', es, o3, o4, o5, o6, o7, o8, o9, o10, o11, rfl⟩
    obtain ⟨⟨h, t⟩, eL, tt, rfl, htt⟩ := paired_at' pr' ex
    have li : i < L.length := (List.getElem?_eq_some_iff.mp eL).1
    obtain ⟨b1, b2⟩ := bt _ (List.mem_of_getElem? eL)
    refine ⟨tt, _, rfl, SqT.of htt, rfl, _, _, rfl, _, _, rfl, rfl, ?_⟩
    intro m hm
    have x1 := Ext.new (o := .dT []) hm
    have nmf : m ≠ fd := fun z => by unfold TD at hf'; rw [z, hf'] at hm; cases hm
    have naf' : a ≠ fd := fun z => by unfold TD at hf'; rw [z, hf'] at ha'; cases ha'
    have nm0 : H0 m = none := by
      cases e : H0 m with
      | none => rfl
      | some o => rw [x' _ _ e] at hm; cases hm
    have p19 : 2 ^ i ≤ 2 ^ 19 := Nat.pow_le_pow_right (by decide) (by omega)
    refine rd_b1 (K := K) (N := i) (ls'.ext x1) naf' nmf (show TD (upd H' m (.dT [])) m [] from upd_same) (show TD (upd H' m (.dT [])) fd ps from x1 _ _ hf') ok (Nat.le_trans l' p19) b1 b2 fun H4 qs o6 o7 o8 o9 o10 o11 k4 hm4 ok4 l4 es4 => ?_
    have x4 : Ext H0 H4 := fun b o e => k4 _ _ (x1 _ _ (x' _ _ e)) (fun z => by rw [z, nm0] at e; cases e) (fun z => by rw [z, nf'] at e; cases e)
    have ha0 : ∃ ys, H0 a = some (.lst ys) := let ⟨ys, h, _⟩ := ls0; ⟨ys, h⟩
    have na : a ≠ m := fun z => by rw [z, hm] at ha'; cases ha'
    have ha4 := k4 _ _ (x1 _ _ ha') na naf'
    have pr4 : Paired (Pr2 H4) xs L := Paired.imp' (fun _ _ r => by
      obtain ⟨t, e, ht⟩ := r
      exact ⟨t, e, k4 _ _ (x1 _ _ ht) (fun z => by rw [z, hm] at ht; cases ht) (fun z => by unfold TD at hf'; rw [z, hf'] at ht; cases ht)⟩) pr'
    refine ⟨_, rfl, x4, ⟨xs, ha4, pr4⟩, ha4, pr4, m, qs, hm4, nm0, ok4, ?_, fun f => ?_, _, _, _, _, _, _, _, _, _, rfl⟩
    · rw [Nat.pow_succ]
      omega
    · have eW : (L.map (wt2 O L.length))[i]? = some (wt2 O L.length (h, t)) := by rw [List.getElem?_map, eL]; rfl
      rw [es4, ← es f]
      exact dS_fun fun z _ => (EE_drop eW z.1).symm
  · rintro σ H' ⟨x', ls', ha', pr', fd, ps, hf', nf', ok, l', es, o3, o4, o5, o6, o7, o8, o9, o10, o11, rfl⟩
    refine q H' fd ps _ _ _ _ _ _ _ _ _ x' nf' hf' ok (Nat.le_trans l' (Nat.pow_le_pow_right (by decide) (by omega))) fun f => ?_
    rw [← es f, lx]
    refine dS_fun fun z _ => ?_
    rw [List.drop_of_length_le (by rw [List.length_map]; exact Nat.le_refl _)]
    rfl
def Pv2 (H : Hp) (y : V) (q : Int × Nat) : Prop := ∃ b, y = .ref b ∧ H b = some (.tup [.int q.1, .int (q.2 : Nat)])
theorem Pv2.kp {H H' : Hp} {y : V} {q : Int × Nat} (h : Pv2 H y q) (k : KpU H H') : Pv2 H' y q := by
  obtain ⟨b, e, h⟩ := h
  exact ⟨b, e, k _ _ h⟩
theorem prL_of {H : Hp} {ys : List V} {ps : List (Int × Nat)} (h : Paired (Pv2 H) ys ps) : PrL H ys (enc Key.inl ps) := by
  refine ⟨by rw [enc_len]; exact Paired.length h, fun j y q hy hq => ?_⟩
  obtain ⟨z, ez, b, e, hb⟩ := paired_at' h hy
  obtain ⟨z', ez', e1, e2⟩ := enc_get (k := q.1) (v := q.2) hq
  rw [ez] at ez'
  cases ez'
  exact ⟨b, e, by rw [hb, e1, e2]; rfl⟩
theorem rd_bc {Q : VK} {ps : List ((Int × Int) × Nat)} {r : List (Option V)} (hf : TD H fd ps) (sm : ps.length ≤ 2 ^ 20)
    (q : ∀ D ys H', H D = none → (∀ b o, H b = some o → b ≠ fd → H' b = some o) → H' D = some (.lst ys) → Paired (Pv2 H') ys (selO O ps) → Q (.ref D) H') : tBc K (sT a O fd r) H Q := by
  refine ⟨_, rfl, fd, .dT (enc f2 ps), rfl, True.intro, .inl hf, fun ob H2 fz D hD => ?_⟩
  have k2 : ∀ b o, H b = some o → b ≠ fd → H2 b = some o := fun b o e n => by rw [fz.2 b n]; exact e
  have ln : lenD (.dT (enc f2 ps)) = ps.length := enc_len
  have nDf : D ≠ fd := fun z => by rw [z, fz.1] at hD; cases hD
  have hD0 : H D = none := by rw [← fz.2 D nDf]; exact hD
  refine lcGI_it (n := ps.length) (fun i ys H' => Ext H2 H' ∧ Paired (Pv2 H') ys (selO O (ps.take i))) (by rw [sizeLine_eq]; omega) ⟨Ext.new hD, .nil⟩ (fun i ys H' hi p => ⟨p.1 _ _ fz.1, by rw [ln]; exact hi⟩) (fun ys H' p => ⟨p.1 _ _ fz.1, by rw [ln]; exact Nat.le_refl _⟩) ?_ ?_
  · rintro i x ys H' H3 hi ⟨p, kx, v, rfl, hp, pr, rfl⟩ ly hD' ⟨x', pv⟩ os los N k
    obtain ⟨z, b, ez, rfl, hb, rfl⟩ := prAt_get pr
    have x1 := Ext.new (o := .tup [.ref b, .int (z.2 : Nat)]) hp
    have hD1 := x1 _ _ hD'
    match os, los with
    | [p0, p1, p2], _ =>
      refine ⟨p, _, rfl, SqT.of upd_same, rfl, _, _, rfl, b, _, rfl, SqT.of (x1 _ _ hb), rfl, _, _, rfl, _, _, rfl, rfl, _, _, rfl, rfl, ⟨[_, _, _], rfl, rfl⟩, ?_⟩
      refine ⟨_, rfl, _, rfl, rfl, _, rfl, fun e => ?_, fun e => ?_⟩
      · have ne : ¬ z.1.1 = O := fun w => by
          rw [w, decide_eq_true rfl] at e
          cases e
        refine k ys _ ⟨x'.trans x1, ?_⟩ (by omega) hD1
        rw [take_all ez, selO_snoc, if_neg ne, List.append_nil]
        exact Paired.imp' (fun _ _ r => r.kp x1.kpU) pv
      · have eq : z.1.1 = O := by
          have := of_decide_eq_true e
          injection this
        refine ⟨_, rfl, _, rfl, by show 2 ≤ sizeLine; decide, fun t ht => ?_⟩
        have x2 := Ext.new (o := .tup [.int z.1.2, .int (z.2 : Nat)]) ht
        have hD2 := x2 _ _ hD1
        refine ⟨hD2, k _ _ ⟨ext_upd _ ((x'.trans x1).trans x2) hD, ?_⟩ (by rw [List.length_append, List.length_singleton]; omega) upd_same⟩
        rw [take_all ez, selO_snoc, if_pos eq]
        have kl : KpU _ _ := kpU_lst (ys := ys ++ [.ref t]) hD2
        exact paired_snoc ⟨t, rfl, kl _ _ upd_same⟩ (Paired.imp' (fun _ _ r => (r.kp (x1.trans x2).kpU).kp kl) pv)
  · rintro ys H' ly hD' ⟨x', pv⟩
    rw [List.take_length] at pv
    exact q D ys H' hD0 (fun b o e n => x' _ _ (k2 _ _ e n)) hD' pv
end
section
variable {P : Program} {w : World} {K : Frag} {mg : Str → Option Value} {base : Heap}
def DueOf (O : Int) (L : List (Int × Int)) (ps : List (Int × Nat)) : Prop := DOk ps ∧ ∀ g, dS g ps = EE (fg O g) (L.map (wt2 O L.length)) 0 0
def spTb : Sp := fun vs H Q _ => ∃ (a : Addr) (O : Int) (L : List (Int × Int)), vs = [.ref a, .int O] ∧ LsAt H a L ∧ Bits L ∧ L.length ≤ 20 ∧ ∀ r H' ps, H r = none → Ext H H' → H' r = some (.dK (enc Key.inl ps)) → DueOf O L ps → Q (.ref r) H'
theorem rd_retC {te : TE} {r : List V → Hp → VK → Prop} {D : Ends} {σ : St} {H : Hp} (h : te σ H fun x H1 => r [x] H1 D.rt) : tRet (tCB r (tCons te tNil)) D σ H := h
theorem okBxL {X : Cx} {body : List Stmt} {t : TS} {D : Ends} {σ : St} {H : Hp} (h : Bx (PSs X body t)) (r : Bx (t D σ H)) : ∃ t, PSs X body t ∧ t D σ H := ⟨t, h.h, r.h⟩
theorem rd_tb {H : Hp} {a : Addr} {O : Int} {L : List (Int × Int)} {D : Ends} (ls : LsAt H a L) (bt : Bits L) (l20 : L.length ≤ 20) (q : ∀ r H' ps, H r = none → Ext H H' → H' r = some (.dK (enc Key.inl ps)) → DueOf O L ps → D.rt (.ref r) H') : tTb K D [some (.ref a), some (.int O), none, none, none, none, none, none, none, none, none, none] H := by
  intro fd0 hf0
  have x1 := Ext.new (o := .dT []) hf0
  refine ⟨by show 2 ≤ sizeLine; decide, fun kt hkt => ?_⟩
  have x2 := Ext.new (o := .tup [.int 0, .int 0]) hkt
  have hf2 := x2 _ _ (upd_same (H := H) (a := fd0) (o := .dT []))
  refine ⟨kt, f2 (0, 0), .int 1, rfl, upd_same, hf2, ?_⟩
  have x3 : Ext H (upd (upd (upd H fd0 (.dT [])) kt (.tup [.int 0, .int 0])) fd0 (.dT [(f2 (0, 0), .int 1)])) := ext_upd _ (x1.trans x2) hf0
  have hf3 : TD (upd (upd (upd H fd0 (.dT [])) kt (.tup [.int 0, .int 0])) fd0 (.dT [(f2 (0, 0), .int 1)])) fd0 [((0, 0), 1)] := upd_same
  generalize upd (upd (upd H fd0 (.dT [])) kt (.tup [.int 0, .int 0])) fd0 (.dT [(f2 (0, 0), .int 1)]) = H3 at x3 hf3
  have naf : a ≠ fd0 := fun z => by
    obtain ⟨xs, ha, _⟩ := ls
    rw [z, hf0] at ha
    cases ha
  refine rd_b0 (K := K) (ls.ext x3) bt l20 hf3 naf x3 hf0 ls fun H4 fd4 ps o3 o4 o5 o6 o7 o8 o9 o10 o11 x4 nf4 hf4 ok4 l4 es4 => ?_
  refine rd_retC (rd_bc (K := K) hf4 l4 fun D' ys H5 hD k5 h5 pv => ?_)
  have ok5 := selO_ok (O := O) ok4
  have nds : ((enc Key.inl (selO O ps)).map (·.1)).Nodup := by
    rw [enc_keys]
    have : (selO O ps).map (fun q => Key.inl q.1) = ((selO O ps).map (·.1)).map Key.inl := by rw [List.map_map]; rfl
    rw [this]
    exact List.pairwise_map.mpr (List.Pairwise.imp (fun h z => h (inl_inj _ _ z)) ok5.nd)
  refine ⟨D', ys, enc Key.inl (selO O ps), rfl, h5, prL_of pv, fun r hr => ?_⟩
  rw [putAll_nd _ rfl nds]
  have x5 : Ext H H5 := fun b o e => k5 _ _ (x4 _ _ e) (fun z => by rw [z, nf4] at e; cases e)
  have x6 := x5.trans (Ext.new (o := .dK (enc Key.inl (selO O ps))) hr)
  have hr0 : H r = none := by
    cases e : H r with
    | none => rfl
    | some o => rw [x5 _ _ e] at hr; cases hr
  refine q r _ (selO O ps) hr0 x6 upd_same ⟨ok5, fun g => ?_⟩
  rw [selO_S, ← es4 (fg O g)]
theorem ok_tb {f : Addr} {fd : FuncData} (F : Fun K "_law_table" "_law_table" sTb f fd) (ml : mg "len" = none) (md : mg "dict" = none) : FnOk P w K mg base CX0 1 f fd ["_law_listing_here", "_law_ones_here"] spTb := by
  refine F.ok scTb (fun vs H Q E h => ?_) (fun cdv A outer s H vs Q E hr h => ?_)
  · obtain ⟨a, O, L, rfl, _⟩ := h
    rfl
  obtain ⟨a, O, L, rfl, ls, bt, l20, q⟩ := h
  exact okBxL (tb_der ml md hr) ⟨rd_tb ls bt l20 q⟩
end
end My
set_option Elab.async false
set_option linter.all false
set_option maxRecDepth 100000
set_option maxHeartbeats 2000000
set_option exponentiation.threshold 10000
namespace My
open PySem PySem.W L2
def tP2 (p : Int × Int) : TE := tTup (tCons (tC (.int p.1)) (tCons (tC (.int p.2)) tNil))
def tPs : List (Int × Int) → TA
  | [] => tNil
  | p :: r => tCons (tP2 p) (tPs r)
theorem rd_ps {σ : St} : ∀ {ps : List (Int × Int)} {H : Hp} {Q : List V → Hp → Prop}, (∀ vs H', Ext H H' → Paired (Pr2 H') vs ps → Q vs H') → tPs ps σ H Q
  | [], H, Q, q => q [] H (Ext.refl _) .nil
  | p :: r, H, Q, q => by
    refine ⟨by show 2 ≤ sizeLine; decide, fun t ht => ?_⟩
    have x1 := Ext.new (o := .tup [.int p.1, .int p.2]) ht
    exact rd_ps (ps := r) fun vs H' x' pr => q _ _ (x1.trans x') (.cons ⟨t, rfl, x' _ _ upd_same⟩ pr)
theorem rd_lps {σ : St} {ps : List (Int × Int)} {H : Hp} {Q : VK} (l : ps.length ≤ 100) (q : ∀ l vs H', H l = none → Ext H H' → H' l = some (.lst vs) → Paired (Pr2 H') vs ps → Q (.ref l) H') : tLst (tPs ps) σ H Q := by
  refine rd_ps fun vs H' x' pr => ⟨?_, fun l hl => ?_⟩
  · have e : vs.length = ps.length := Paired.length pr
    rw [e, sizeLine_eq]
    omega
  · have x2 := Ext.new (o := .lst vs) hl
    have hl0 : H l = none := by
      cases e : H l with
      | none => rfl
      | some o => rw [x' _ _ e] at hl; cases hl
    exact q l vs _ hl0 (x'.trans x2) upd_same (Paired.imp' (fun _ _ r => r.kp x2.kpU) pr)
def k5 : List (Int × Int) := [(1, 0), (0, 1), (1, 1), (0, 0), (1, 0)]
def k4 : List (Int × Int) := [(1, 0), (0, 1), (1, 1), (0, 0)]
theorem Kept.kpU {H H' : Hp} {p : Addr} (k : Kept H H' p) (b : BoxC H p) : KpU H H' := fun c xs e => k _ _ e (fun z => by
  obtain ⟨_, _, _, h, _⟩ := b.ex
  rw [z, h] at e
  cases e)
theorem BoxC.up {H : Hp} {p l : Addr} {o : HO} (b : BoxC H p) (n : l ≠ p) : BoxC (upd H l o) p := by
  obtain ⟨x, y, z, hp, r⟩ := b
  exact ⟨x, y, z, by rw [upd_ne n.symm]; exact hp, r⟩
theorem BoxC.some {H : Hp} {p : Addr} (b : BoxC H p) : ∃ u, H p = some u := by
  obtain ⟨_, _, _, h, _⟩ := b.ex
  exact ⟨_, h⟩
theorem LsAt.kept {H H' : Hp} {a p : Addr} {L : List (Int × Int)} (h : LsAt H a L) (k : Kept H H' p) (b : BoxC H p) (n : a ≠ p) : LsAt H' a L := by
  obtain ⟨xs, h1, h2⟩ := h
  exact ⟨xs, k _ _ h1 n, Paired.imp' (fun _ _ r => r.kp (k.kpU b)) h2⟩
def tTk (i : Nat) (te : TE) : TE := tCall spTake [] E0 (tCons (tVar i) (tCons te tNil))
theorem rd_take {i : Nat} {te : TE} {m : Int} {Q : VK} {σ : St} {H : Hp} {p : Addr} (h0 : σ[i]? = some (some (.ref p))) (bx : BoxC H p) (hm : ∀ R : VK, R (.int m) H → te σ H R) (m0 : 0 < m) (m1 : m < 1073741824) (q : ∀ r H', 0 ≤ r → r < m → BoxC H' p → Kept H H' p → Q (.int r) H') : tTk i te σ H Q :=
  ⟨_, h0, hm _ ⟨p, m, rfl, bx, m0, m1, fun r H' a b c d _ => q r H' a b c d⟩⟩
theorem k5_bits : Bits k5 := by
  intro p hp
  simp only [k5, List.mem_cons, List.not_mem_nil, or_false] at hp
  rcases hp with rfl | rfl | rfl | rfl | rfl <;> simp
theorem bxl_lcG {X : Cx} {sc : Scope} {cl : List (Str × Addr)} {ts zs : List Str} {js : List Nat} {elt tg iter : Expr} {wi : TI} {g : TG} {te : TE} {pos : Pos} (hc : X.calm = true) (S : CompG X sc cl ts zs js) (hi : Bx (PI X tg iter wi)) (hg : ∀ s H C fp, PG (compCx X sc cl (ts ++ zs) s H C fp) tg g) (he : ∀ s H C fp, Bx (PE (compCx X sc cl (ts ++ zs) s H C fp) elt te))
    (hs : ∀ v, foldedSetIterable iter X.env v = pure v := by intro _; rfl) : Bx (PE X (.ListComp elt [⟨tg, iter, [], 0⟩] sc pos) (tLCG wi ts.length js g te)) := ⟨pe_lcG hc S hi.h hg (fun s H C fp => (he s H C fp).h) hs⟩
section
variable {P : Program} {w : World} {K : Frag} {mg : Str → Option Value} {base : Heap}
abbrev sLi : Stmt := top 42
def spLi : Sp := fun vs H Q _ => ∃ (p : Addr) (n : Nat), vs = [.ref p, .int (n : Nat)] ∧ BoxC H p ∧ n ≤ 20 ∧ ∀ l L H', H l = none → Kept H H' p → BoxC H' p → LsAt H' l L → Bits L → L.length = n → Q (.ref l) H'
abbrev NLi : List Str := ["_law_box_here", "_law_folk"]
theorem scLi : FnScope NLi ["_law_box_here", "_law_folk"] (defScope sLi) := ⟨rfl, rfl, rfl, by decide +kernel, rfl, by decide +kernel, by decide +kernel⟩
abbrev scLic : Scope := { kind := .function, names := [(".0", .local), ("_law_k", .local), ("_law_take", .globalImplicit), ("_law_box_here", .free)], isGenerator := false, isCoroutine := false }
theorem ndLi : ((["_law_k"] : List Str) ++ (["_law_box_here"] : List Str)).Nodup := by decide +kernel
def tLiE (K : Frag) : TE := tOp (rIxL K) (tLst (tPs k5)) (tTk 1 (tC (.int 5)))
section
variable {f a1 : Addr} {d1 : FuncData} {cdv : Value} {A : Around} {outer : List Env} {s : Shared} {H : Hp} {E : XK}
theorem compLi : CompG (cxOf CX0 P w K mg base NLi "_law_listing" (defScope sLi) f cdv A outer s H E).nox scLic [("_law_box_here", s.heap.objs.size + 1)] ["_law_k"] ["_law_box_here"] [0] :=
  compGn (M := ["_law_box_here"]) (L := [(".0", .local), ("_law_k", .local), ("_law_take", .globalImplicit), ("_law_box_here", .cell)]) rfl rfl (by decide +kernel) (by decide +kernel) (by decide +kernel) rfl rfl rfl (by decide +kernel) (by decide +kernel) rfl rfl rfl
abbrev eltLi : Expr := match (defBody sLi).getD 0 s0 with
  | .Return (some (.ListComp e _ _ _)) _ => e
  | _ => .Name "" ⟨0, 0, 0, 0⟩
theorem li_e (A1 : Df P w K mg base CX0 1 "_law_take" ["_law_box_here", "_law_many"] spTake a1 d1) (hr : Room 1 (A.deeper (PyProof.Rows.envOfC "_law_listing" (defScope sLi) s.heap.objs.size f cdv))) {s' : Shared} {H' : Hp} {C : Addr} {fp : List Addr} :
    Bx (PE (compCx (cxOf CX0 P w K mg base NLi "_law_listing" (defScope sLi) f cdv A outer s H E).nox scLic [("_law_box_here", s.heap.objs.size + 1)] ((["_law_k"] : List Str) ++ (["_law_box_here"] : List Str)) s' H' C fp) eltLi (tLiE K)) :=
  bx_ix ix_list (bx_lst (bxa_cons ⟨pe_tup (pa_cons pe_int (pa_cons pe_int pa_nil))⟩ (bxa_cons ⟨pe_tup (pa_cons pe_int (pa_cons pe_int pa_nil))⟩ (bxa_cons ⟨pe_tup (pa_cons pe_int (pa_cons pe_int pa_nil))⟩ (bxa_cons ⟨pe_tup (pa_cons pe_int (pa_cons pe_int pa_nil))⟩ (bxa_cons ⟨pe_tup (pa_cons pe_int (pa_cons pe_int pa_nil))⟩ bxa_nil)))))) ⟨pe_call A1.G hr rfl A1.m A1.kp A1.b .nil pass0 (pa_cons (pv 1) (pa_cons pe_int pa_nil))⟩ (fun _ _ => rfl)
theorem li_der (A1 : Df P w K mg base CX0 1 "_law_take" ["_law_box_here", "_law_many"] spTake a1 d1) (mr : mg "range" = none) (hr : Room 1 (A.deeper (PyProof.Rows.envOfC "_law_listing" (defScope sLi) s.heap.objs.size f cdv))) :
    Bx (PSs (cxOf CX0 P w K mg base NLi "_law_listing" (defScope sLi) f cdv A outer s H E).nox (defBody sLi) (tRet (tLCG (iRng1 (tCons (tVar 1) tNil)) 1 [0] (gName 0) (tLiE K)))) :=
  bxs_one (bx_ret (bxl_lcG (te := tLiE K) (g := gName 0) rfl compLi ⟨pi_range1 rfl mr (pa_cons (pv 1) pa_nil)⟩ (fun s H C fp => by exact pg_name (i := 0) ndLi rfl (.inl rfl)) (fun s H C fp => li_e A1 hr)))
end
theorem rd_liE {H : Hp} {p : Addr} {Q : VK} {o0 : Option V} (bx : BoxC H p) (q : ∀ y z H', BoxC H' p → Kept H H' p → (z ∈ k5) → Pr2 H' y z → Q y H') : tLiE K [o0, some (.ref p)] H Q := by
  refine rd_op (rd_lps (by decide) fun l vs H1 hl x1 h1 pr => ?_)
  refine rd_take (i := 1) rfl (bx.ext x1) (fun R r => r) (by decide) (by decide) fun r H2 r0 r5 bx2 k2 => ?_
  have lv : vs.length = 5 := Paired.length pr
  have nl : l ≠ p := fun z => by
    obtain ⟨u, hu⟩ := bx.some
    rw [z, hu] at hl
    cases hl
  have hi : r.toNat < vs.length := by omega
  obtain ⟨z, ez, pz⟩ := paired_at' pr (List.getElem?_eq_getElem hi)
  refine ⟨l, _, _, _, rfl, rfl, SqL.of (k2 _ _ h1 nl), at_to r0 hi, ?_⟩
  exact q _ z H2 bx2 ((x1.kept p).trans k2) (List.mem_of_getElem? ez) (pz.kp (k2.kpU (bx.ext x1)))
theorem ok_li {f a1 : Addr} {fd d1 : FuncData} (F : Fun K "_law_listing" "_law_listing" sLi f fd) (A1 : Df P w K mg base CX0 1 "_law_take" ["_law_box_here", "_law_many"] spTake a1 d1) (mr : mg "range" = none) : FnOk P w K mg base CX0 2 f fd ["_law_box_here", "_law_folk"] spLi := by
  refine F.ok scLi (fun vs H Q E h => ?_) (fun cdv A outer s H vs Q E hr h => ?_)
  · obtain ⟨p, n, rfl, _⟩ := h
    rfl
  obtain ⟨p, n, rfl, bx, n20, q⟩ := h
  refine okBxL (li_der A1 mr hr) ⟨?_⟩
  refine ⟨_, rfl, _, rfl, by omega, by omega, fun D hD => ?_⟩
  have nD : D ≠ p := fun z => by
    obtain ⟨u, hu⟩ := bx.some
    rw [z, hu] at hD
    cases hD
  refine lcG_range (n := ((n : Nat) : Int).toNat) (fun i ys H' => Kept H H' p ∧ BoxC H' p ∧ ∃ L, Paired (Pr2 H') ys L ∧ Bits L ∧ L.length = i) (by rw [sizeLine_eq]; omega) ⟨(Ext.new hD).kept p, bx.ext (Ext.new hD), [], .nil, (fun _ h => nomatch h), rfl⟩ ?_ ?_
  · rintro i ys H' hi ly hD' ⟨k, bx', L, pr, bt, lL⟩ os los R kk
    match os, los with
    | [o0], _ =>
      refine ⟨⟨[_], rfl, rfl⟩, ?_⟩
      refine rd_liE bx' fun y z H4 bx4 k4 mz pz => ?_
      have hD4 := k4 _ _ hD' nD
      have kl : KpU H4 (upd H4 D (.lst (ys ++ [y]))) := kpU_lst hD4
      refine kk y H4 hD4 ⟨kept_up (k.trans k4) hD, bx4.up nD, L ++ [z], paired_snoc (pz.kp kl) (Paired.imp' (fun _ _ r => (r.kp (k4.kpU bx')).kp kl) pr), fun w hw => ?_, by rw [List.length_append, lL]; rfl⟩
      rcases List.mem_append.mp hw with hw | hw
      · exact bt w hw
      · cases List.mem_singleton.mp hw
        exact k5_bits z mz
  · rintro ys H' ly hD' ⟨k, bx', L, pr, bt, lL⟩
    exact q D L H' hD k bx' ⟨ys, hD', pr⟩ bt (by simpa using lL)
def pD (p : Int × Int) : PyData := .tuple [.int p.1, .int p.2]
theorem cnt_count {a b : Int} : ∀ L : List (Int × Int), cnt a b (L.map pD) = L.count (a, b)
  | [] => rfl
  | p :: L => by
    have ih := cnt_count (a := a) (b := b) L
    unfold cnt at ih ⊢
    rw [List.map_cons, List.countP_cons, List.count_cons, ih]
    congr 1
theorem Paired.rws {H : Hp} : ∀ {xs : List V} {L : List (Int × Int)}, Paired (Pr2 H) xs L → Bits L → ∃ as, Rws H xs (L.map pD) as
  | _, _, .nil, _ => ⟨[], rfl, rfl, (fun _ h => nomatch h), (fun _ h => nomatch h)⟩
  | _, _, .cons ⟨t, rfl, ht⟩ r, bt => by
    obtain ⟨as, w⟩ := Paired.rws r fun q hq => bt q (List.mem_cons_of_mem _ hq)
    rename_i p _ _
    obtain ⟨b1, b2⟩ := bt p (List.mem_cons_self ..)
    refine ⟨(t, p.1, p.2) :: as, by rw [w.xs_]; rfl, by rw [List.map_cons, w.ds_]; rfl, fun z hz => ?_, fun z hz => ?_⟩
    · rcases List.mem_cons.mp hz with rfl | hz
      · exact ht
      · exact w.at_ z hz
    · rcases List.mem_cons.mp hz with rfl | hz
      · show (0 ≤ p.1 ∧ p.1 ≤ 1) ∧ (0 ≤ p.2 ∧ p.2 ≤ 1)
        omega
      · exact w.bit z hz
theorem Paired.rds {H : Hp} : ∀ {xs : List V} {L : List (Int × Int)}, Paired (Pr2 H) xs L → RdsAll H xs (L.map pD)
  | _, _, .nil => .nil
  | _, _, .cons ⟨t, rfl, ht⟩ r => .cons (.tup ht (.cons (.int _) (.cons (.int _) .nil))) (Paired.rds r)
theorem LsAt.rds {H : Hp} {a : Addr} {L : List (Int × Int)} (h : LsAt H a L) : Rds H (.ref a) (.list (L.map pD)) := by
  obtain ⟨xs, h1, h2⟩ := h
  exact .lst h1 (Paired.rds h2)
theorem bits_lstd : ∀ {L : List (Int × Int)}, Bits L → (L.map pD).all lstdD = true
  | [], _ => rfl
  | p :: L, bt => by
    obtain ⟨b1, b2⟩ := bt p (List.mem_cons_self ..)
    rw [List.map_cons, List.all_cons, bits_lstd fun q hq => bt q (List.mem_cons_of_mem _ hq), Bool.and_true]
    show (decide ((0 : Int) ≤ p.1) && decide (p.1 ≤ 1) && (decide ((0 : Int) ≤ p.2) && decide (p.2 ≤ 1))) = true
    rw [decide_eq_true (show (0 : Int) ≤ p.1 by omega), decide_eq_true (show p.1 ≤ 1 by omega), decide_eq_true (show (0 : Int) ≤ p.2 by omega), decide_eq_true (show p.2 ≤ 1 by omega)]
    rfl
def cnt4 (L : List (Int × Int)) : List V := [.int (L.count (1, 0) : Nat), .int (L.count (0, 1) : Nat), .int (L.count (1, 1) : Nat), .int (L.count (0, 0) : Nat)]
abbrev sCn : Stmt := top 44
def spCn : Sp := fun vs H Q _ => ∃ (a : Addr) (L : List (Int × Int)), vs = [.ref a] ∧ LsAt H a L ∧ Bits L ∧ ∀ l H', Ext H H' → H l = none → H' l = some (.tup (cnt4 L)) → Q (.ref l) H'
abbrev NCn : List Str := ["_law_listing_here"]
theorem scCn : FnScope NCn ["_law_listing_here"] (defScope sCn) := ⟨rfl, rfl, rfl, by decide +kernel, rfl, by decide +kernel, by decide +kernel⟩
abbrev scCnc : Scope := { kind := .function, names := [(".0", .local), ("_law_kind", .local), ("_law_listing_here", .free)], isGenerator := false, isCoroutine := false }
theorem ndCn : ((["_law_kind"] : List Str) ++ (["_law_listing_here"] : List Str)).Nodup := by decide +kernel
def tCnE (K : Frag) : TE := tBM K "list" (rCountT K) (tVar 1) (tCons (tVar 0) tNil)
def rTupOf (K : Frag) : List V → Hp → VK → Prop := fun xs H Q => ∃ p ys, xs = [.ref p] ∧ ((SqL K H p ys ∧ ∀ l, H l = none → Q (.ref l) (upd H l (.tup ys))) ∨ (SqT K H p ys ∧ Q (.ref p) H))
def tCn (K : Frag) : TE := tLCG (iList K (tLst (tPs k4))) 1 [0] (gName 0) (tCnE K)
section
variable {f : Addr} {cdv : Value} {A : Around} {outer : List Env} {s : Shared} {H : Hp} {E : XK}
theorem compCn : CompG (cxOf CX0 P w K mg base NCn "_law_counts" (defScope sCn) f cdv A outer s H E).nox scCnc [("_law_listing_here", s.heap.objs.size + 1)] ["_law_kind"] ["_law_listing_here"] [0] :=
  compGn (M := ["_law_listing_here"]) (L := [(".0", .local), ("_law_kind", .local), ("_law_listing_here", .cell)]) rfl rfl (by decide +kernel) (by decide +kernel) (by decide +kernel) rfl rfl rfl (by decide +kernel) (by decide +kernel) rfl rfl rfl
abbrev iterCn : Expr := match (defBody sCn).getD 0 s0 with
  | .Return (some (.Call _ [.ListComp _ [c] _ _] _ _)) _ => c.iter
  | _ => .Name "" ⟨0, 0, 0, 0⟩
theorem cn_k {X : Cx} : Bx (PE X iterCn (tLst (tPs k4))) := bx_lst (bxa_cons ⟨pe_tup (pa_cons pe_int (pa_cons pe_int pa_nil))⟩ (bxa_cons ⟨pe_tup (pa_cons pe_int (pa_cons pe_int pa_nil))⟩ (bxa_cons ⟨pe_tup (pa_cons pe_int (pa_cons pe_int pa_nil))⟩ (bxa_cons ⟨pe_tup (pa_cons pe_int (pa_cons pe_int pa_nil))⟩ bxa_nil))))
theorem cn_der (mt : mg "tuple" = none) (hr : Room 0 (A.deeper (PyProof.Rows.envOfC "_law_counts" (defScope sCn) s.heap.objs.size f cdv))) :
    Bx (PSs (cxOf CX0 P w K mg base NCn "_law_counts" (defScope sCn) f cdv A outer s H E).nox (defBody sCn) (tRet (tCB (rTupOf K) (tCons (tCn K) tNil)))) := by
  have hu : (A.deeper (PyProof.Rows.envOfC "_law_counts" (defScope sCn) s.heap.objs.size f cdv)).units + 1 < cLine := by have := hr.un; omega
  exact bxs_one (bx_ret (bx_callTy1 call_tuple_of rfl mt PyProof.Rows.boot_tuple (bxl_lcG (te := tCnE K) (g := gName 0) rfl compCn (bx_piL cn_k) (fun s H C fp => by exact pg_name (i := 0) ndCn rfl (.inl rfl)) (fun s H C fp => ⟨by exact pe_bm PySem.F.plainAttrs_list PySem.F.slot_list_count PySem.F.type_list_count (mt_countT hu) (pv 1) (pa_cons (pv 0) pa_nil)⟩))))
end
theorem rd_cn {H : Hp} {a : Addr} {L : List (Int × Int)} {Q : VK} (ls : LsAt H a L) (bt : Bits L) (q : ∀ D H', H D = none → Ext H H' → H' D = some (.lst (cnt4 L)) → Q (.ref D) H') : tCn K [some (.ref a)] H Q := by
  unfold tCn tLCG iList
  refine rd_lps (by decide) fun l vs H1 hl x1 h1 pr => ⟨l, rfl, ⟨_, SqL.of h1⟩, fun D hD => ?_⟩
  have lv : vs.length = 4 := Paired.length pr
  have hD0 : H D = none := by
    cases e : H D with
    | none => rfl
    | some o => rw [x1 _ _ e] at hD; cases hD
  refine lcG_it (n := 4) (fun i ys H' => Ext H1 H' ∧ ys = (k4.take i).map fun z => V.int ((L.count z : Nat) : Int)) (by rw [sizeLine_eq]; omega) ⟨Ext.new hD, rfl⟩ (fun i ys H' hi p => ⟨vs, vs[i], SqL.of (p.1 _ _ h1), List.getElem?_eq_getElem (by omega)⟩) (fun ys H' p => ⟨vs, SqL.of (p.1 _ _ h1), by omega⟩) ?_ ?_
  · rintro i x ys H' H3 hi ⟨rfl, hy⟩ ly hD' ⟨x', rfl⟩ os los R kk
    have ex := hy vs (SqL.of (x' _ _ h1))
    obtain ⟨z, ez, t, rfl, ht⟩ := paired_at' pr ex
    obtain ⟨xs, ha, px⟩ := ls.ext (x1.trans x')
    obtain ⟨as, rw'⟩ := Paired.rws px bt
    match os, los with
    | [o0], _ =>
      refine ⟨⟨[_], rfl, rfl⟩, _, rfl, .inl ⟨rfl, _, SqL.of ha⟩, _, rfl, ?_⟩
      refine rd_count rw' (SqL.of ha) (SqT.of (x' _ _ ht)) ?_
      rw [cnt_count]
      refine kk _ _ hD' ⟨ext_upd _ x' hD, ?_⟩
      rw [take_all ez, List.map_append]
      rfl
  · rintro ys H' ly hD' ⟨x', rfl⟩
    exact q D H' hD0 (x1.trans x') hD'
theorem ok_cn {f : Addr} {fd : FuncData} (F : Fun K "_law_counts" "_law_counts" sCn f fd) (mt : mg "tuple" = none) : FnOk P w K mg base CX0 1 f fd ["_law_listing_here"] spCn := by
  refine F.ok scCn (fun vs H Q E h => ?_) (fun cdv A outer s H vs Q E hr h => ?_)
  · obtain ⟨a, L, rfl, _⟩ := h
    rfl
  obtain ⟨a, L, rfl, ls, bt, q⟩ := h
  refine okBxL (cn_der mt hr) ⟨rd_retC (rd_cn ls bt fun D H1 hD x1 h1 => ⟨D, _, rfl, .inl ⟨SqL.of h1, fun l hl => ?_⟩⟩)⟩
  have hl0 : H l = none := by
    cases e : H l with
    | none => rfl
    | some o => rw [x1 _ _ e] at hl; cases hl
  exact q l _ (x1.trans (Ext.new hl)) hl0 upd_same
end
end My
set_option Elab.async false
set_option linter.all false
set_option maxRecDepth 100000
set_option maxHeartbeats 1000000
namespace My
open PySem PySem.W L2
theorem half_pow (x i : Nat) : x / 2 / 2 ^ i = x / 2 ^ (i + 1) := by
  rw [Nat.div_div_eq_div_mul, Nat.pow_succ, Nat.mul_comm]
def cm : List (Int × Int) → Nat → List Int
  | [], _ => []
  | p :: L, x => (if x % 2 = 1 then p.1 else p.2) :: cm L (x / 2)
theorem cm_len : ∀ (L : List (Int × Int)) (x : Nat), (cm L x).length = L.length
  | [], _ => rfl
  | p :: L, x => by show (cm L (x / 2)).length + 1 = L.length + 1; rw [cm_len L]
theorem cm_get : ∀ {L : List (Int × Int)} {x i : Nat} {p : Int × Int}, L[i]? = some p → (cm L x)[i]? = some (if x / 2 ^ i % 2 = 1 then p.1 else p.2)
  | q :: L, x, 0, p, h => by
    cases h
    show some _ = _
    rw [Nat.pow_zero, Nat.div_one]
  | q :: L, x, i + 1, p, h => by
    show (cm L (x / 2))[i]? = _
    rw [cm_get (L := L) (x := x / 2) h, half_pow]
def bts : Nat → Nat → List Int
  | 0, _ => []
  | n + 1, x => ((x % 2 : Nat) : Int) :: bts n (x / 2)
theorem bts_len : ∀ (n x : Nat), (bts n x).length = n
  | 0, _ => rfl
  | n + 1, x => by show (bts n (x / 2)).length + 1 = n + 1; rw [bts_len n]
theorem bts_get : ∀ {n x i : Nat}, i < n → (bts n x)[i]? = some ((x / 2 ^ i % 2 : Nat) : Int)
  | n + 1, x, 0, h => by
    show some _ = _
    rw [Nat.pow_zero, Nat.div_one]
  | n + 1, x, i + 1, h => by
    show (bts n (x / 2))[i]? = _
    rw [bts_get (by omega), half_pow]
theorem bts_sum : ∀ (n x : Nat), (bts n x).sum = ((pop n x : Nat) : Int)
  | 0, _ => rfl
  | n + 1, x => by
    show (((x % 2 : Nat) : Int) :: bts n (x / 2)).sum = ((x % 2 + pop n (x / 2) : Nat) : Int)
    rw [List.sum_cons, bts_sum n]
    omega
theorem pop_le : ∀ (n x : Nat), pop n x ≤ n
  | 0, _ => Nat.le_refl _
  | n + 1, x => by
    show x % 2 + pop n (x / 2) ≤ n + 1
    have := pop_le n (x / 2)
    omega
def wl (c0 c1 : Int) : List Int → Nat → List Int
  | [], _ => []
  | y :: r, x => y * (if x % 2 = 1 then c1 else c0) :: wl c0 c1 r (x / 2)
theorem wl_len {c0 c1 : Int} : ∀ (r : List Int) (x : Nat), (wl c0 c1 r x).length = r.length
  | [], _ => rfl
  | y :: r, x => by show (wl c0 c1 r (x / 2)).length + 1 = r.length + 1; rw [wl_len r]
theorem wl_get {c0 c1 : Int} : ∀ {r : List Int} {x i : Nat} {y : Int}, r[i]? = some y → (wl c0 c1 r x)[i]? = some (y * (if x / 2 ^ i % 2 = 1 then c1 else c0))
  | z :: r, x, 0, y, h => by
    cases h
    show some _ = _
    rw [Nat.pow_zero, Nat.div_one]
  | z :: r, x, i + 1, y, h => by
    show (wl c0 c1 r (x / 2))[i]? = _
    rw [wl_get (r := r) (x := x / 2) h, half_pow]
theorem wl_cm (O n : Int) : ∀ (L : List (Int × Int)) (x : Nat), (wl (0 - O) (n - O) (cm L x) x).sum = wor (L.map (wt2 O n)) x
  | [], _ => rfl
  | p :: L, x => by
    show ((if x % 2 = 1 then p.1 else p.2) * (if x % 2 = 1 then n - O else 0 - O) :: wl (0 - O) (n - O) (cm L (x / 2)) (x / 2)).sum = (if x % 2 = 1 then (n - O) * p.1 else 0 - O * p.2) + wor (L.map (wt2 O n)) (x / 2)
    rw [List.sum_cons, wl_cm O n L (x / 2)]
    congr 1
    split
    · exact Int.mul_comm _ _
    · rw [Int.zero_sub, Int.zero_sub, Int.mul_neg, Int.mul_comm]
def dls (n : Nat) (O : Int) : List Nat := (List.range (2 ^ n)).filter fun x => decide (((pop n x : Nat) : Int) = O)
theorem sum_map {α : Type} (g : α → Nat) : ∀ (xs : List α) (ys : List α), ((xs ++ ys).map g).sum = (xs.map g).sum + (ys.map g).sum
  | [], ys => by simp
  | x :: xs, ys => by simp [Nat.add_assoc]
theorem Sm_list (g : Nat → Nat) : ∀ n, Sm n g = ((List.range n).map g).sum
  | 0 => rfl
  | n + 1 => by
    rw [List.range_succ, sum_map, ← Sm_list g n]
    show Sm n g + g n = _
    simp
theorem filt_list (p : Nat → Bool) (g : Nat → Nat) : ∀ xs : List Nat, ((xs.filter p).map g).sum = (xs.map fun x => if p x = true then g x else 0).sum
  | [] => rfl
  | x :: xs => by
    rw [List.filter_cons]
    by_cases h : p x = true
    · rw [if_pos h, List.map_cons, List.map_cons, List.sum_cons, List.sum_cons, filt_list p g xs, if_pos h]
    · rw [if_neg h, List.map_cons, List.sum_cons, filt_list p g xs, if_neg h, Nat.zero_add]
theorem brute_sum (W : List (Int × Int)) (O : Int) (g : Int → Nat) : (((dls W.length O).map (wor W)).map g).sum = EE (fg O g) W 0 0 := by
  rw [List.map_map]
  unfold dls
  rw [filt_list, ← Sm_list, ← brute_eq W 0 0]
  refine Sm_congr fun x _ => ?_
  unfold fg
  rw [Int.zero_add, Int.zero_add]
  by_cases h : ((pop W.length x : Nat) : Int) = O
  · rw [if_pos (decide_eq_true h), if_pos h]
    rfl
  · rw [if_neg (by simpa using h), if_neg h]
theorem count_sum (v : Int) : ∀ vs : List Int, (vs.map fun x => if x = v then 1 else 0).sum = vs.count v
  | [] => rfl
  | x :: vs => by
    rw [List.map_cons, List.sum_cons, count_sum v vs, List.count_cons]
    by_cases h : x = v
    · rw [if_pos h, if_pos (by simpa using h)]
      omega
    · rw [if_neg h, if_neg (by simpa using h)]
      omega
end My
set_option Elab.async false
set_option linter.all false
set_option maxRecDepth 100000
set_option maxHeartbeats 2000000
set_option exponentiation.threshold 10000
namespace My
open PySem PySem.W L2
theorem band (x i : Nat) : Builtin.bitAnd (((x : Nat) : Int) / 2 ^ ((i : Nat) : Int).toNat) 1 = ((x / 2 ^ i % 2 : Nat) : Int) := by
  rw [PyProof.Rows.bitAnd_m1, Int.toNat_natCast]
  simp
abbrev oShr : R2 := rI (fun _ j => 0 ≤ j) fun i j => .int (i / 2 ^ j.toNat)
abbrev oAnd : R2 := rI0 fun i j => .int (Builtin.bitAnd i j)
def tBit (i j : Nat) : TE := tOp oAnd (tOp oShr (tVar i) (tVar j)) (tC (.int 1))
theorem rd_bit {σ : St} {H : Hp} {Q : VK} {i j x k : Nat} (h1 : σ[i]? = some (some (.int (x : Nat)))) (h2 : σ[j]? = some (some (.int (k : Nat)))) (q : Q (.int ((x / 2 ^ k % 2 : Nat) : Int)) H) : tBit i j σ H Q := by
  refine ⟨_, h1, _, h2, _, _, rfl, rfl, by omega, _, _, rfl, rfl, ?_⟩
  show Q (.int (Builtin.bitAnd (((x : Nat) : Int) / 2 ^ ((k : Nat) : Int).toNat) 1)) H
  rw [band]
  exact q
theorem at2 {a b : V} {x i : Nat} : atI [a, b] (1 - ((x / 2 ^ i % 2 : Nat) : Int)) = some (if x / 2 ^ i % 2 = 1 then a else b) := by
  rcases (show x / 2 ^ i % 2 = 0 ∨ x / 2 ^ i % 2 = 1 by omega) with h | h <;> rw [h] <;> rfl
theorem at2' {a b : V} {x i : Nat} : atI [a, b] ((x / 2 ^ i % 2 : Nat) : Int) = some (if x / 2 ^ i % 2 = 1 then b else a) := by
  rcases (show x / 2 ^ i % 2 = 0 ∨ x / 2 ^ i % 2 = 1 by omega) with h | h <;> rw [h] <;> rfl
section
variable {P : Program} {w : World} {K : Frag} {mg : Str → Option Value} {base : Heap}
abbrev sCm : Stmt := top 43
def spCm : Sp := fun vs H Q _ => ∃ (a : Addr) (x : Nat) (L : List (Int × Int)), vs = [.ref a, .int (x : Nat)] ∧ LsAt H a L ∧ L.length ≤ 20 ∧ ∀ l H', H l = none → Ext H H' → H' l = some (.lst ((cm L x).map V.int)) → Q (.ref l) H'
abbrev NCm : List Str := ["_law_listing_here", "_law_dealing"]
theorem scCm : FnScope NCm ["_law_listing_here", "_law_dealing"] (defScope sCm) := ⟨rfl, rfl, rfl, by decide +kernel, rfl, by decide +kernel, by decide +kernel⟩
abbrev scCmc : Scope := { kind := .function, names := [(".0", .local), ("_law_k", .local), ("_law_row", .local), ("_law_dealing", .free)], isGenerator := false, isCoroutine := false }
theorem ndCm : ((["_law_k", "_law_row"] : List Str) ++ (["_law_dealing"] : List Str)).Nodup := by decide +kernel
section
variable {f : Addr} {cdv : Value} {A : Around} {outer : List Env} {s : Shared} {H : Hp} {E : XK}
theorem compCm : CompG (cxOf CX0 P w K mg base NCm "_law_came" (defScope sCm) f cdv A outer s H E).nox scCmc [("_law_dealing", s.heap.objs.size + 1)] ["_law_k", "_law_row"] ["_law_dealing"] [1] :=
  compGn (M := ["_law_dealing"]) (L := [(".0", .local), ("_law_k", .local), ("_law_row", .local), ("_law_dealing", .cell)]) rfl rfl (by decide +kernel) (by decide +kernel) (by decide +kernel) rfl rfl rfl (by decide +kernel) (by decide +kernel) rfl rfl rfl
end
def tCmE (K : Frag) : TE := tOp (rIxT K) (tVar 1) (tOp oSub (tC (.int 1)) (tBit 2 0))
theorem ok_cm {f : Addr} {fd : FuncData} (F : Fun K "_law_came" "_law_came" sCm f fd) (me : mg "enumerate" = none) : FnOk P w K mg base CX0 1 f fd ["_law_listing_here", "_law_dealing"] spCm := by
  refine F.ok scCm (fun vs H Q E h => ?_) (fun cdv A outer s H vs Q E hr h => ?_)
  · obtain ⟨a, x, L, rfl, _⟩ := h
    rfl
  obtain ⟨a, x, L, rfl, ls, l20, q⟩ := h
  refine okBxL (t := tRet (tLCG (iEnum K (tCons (tVar 0) tNil)) 2 [1] (gW K 0 1) (tCmE K))) (bxs_one (bx_ret (bxl_lcG (te := tCmE K) (g := gW K 0 1) rfl compCm ⟨pi_enum rfl me (pa_cons (pv 0) pa_nil)⟩ (fun s H C fp => by exact pg_tup rfl (pgs_cons (pg_name (i := 0) ndCm rfl (.inl rfl)) (pgs_cons (pg_name (i := 1) ndCm rfl (.inl rfl)) pgs_nil))) (fun s H C fp => ⟨by exact pe_ix ix_tup (pv 1) (pe_op op_sub pe_int (pe_op op_and (pe_op op_shr (pv 2) (pv 0)) pe_int)) (fun _ _ => rfl)⟩)))) ⟨?_⟩
  obtain ⟨xs, ha, pr⟩ := ls
  have lx : xs.length = L.length := Paired.length pr
  refine ⟨_, rfl, a, rfl, ⟨_, SqL.of ha⟩, fun D hD => ?_⟩
  refine lcG_it (n := xs.length) (fun i ys H' => Ext H H' ∧ ys = ((cm L x).take i).map V.int) (by rw [lx, sizeLine_eq]; omega) ⟨Ext.new hD, rfl⟩ (fun i ys H' hi p => ⟨xs, xs[i], SqL.of (p.1 _ _ ha), List.getElem?_eq_getElem hi⟩) (fun ys H' p => ⟨xs, SqL.of (p.1 _ _ ha), Nat.le_refl _⟩) ?_ ?_
  · rintro i y ys H' H3 hi yl ly hD' ⟨x', rfl⟩ os los R kk
    obtain ⟨t, v, rfl, ht, rfl, hv⟩ := yl
    have ev := hv xs (SqL.of (x' _ _ ha))
    obtain ⟨z, ez, u, rfl, hu⟩ := paired_at' pr ev
    have x3 := Ext.new (o := .tup [.int (i : Nat), .ref u]) ht
    match os, los with
    | [p0, p1], _ =>
      refine ⟨t, _, rfl, SqT.of upd_same, rfl, _, _, rfl, _, _, rfl, rfl, ⟨[_, _], rfl, rfl⟩, ?_⟩
      refine ⟨_, rfl, rd_bit (i := 2) (j := 0) rfl rfl ⟨_, _, rfl, rfl, u, _, _, _, rfl, rfl, SqT.of (x3 _ _ (x' _ _ hu)), at2, ?_⟩⟩
      refine kk _ _ (x3 _ _ hD') ⟨ext_upd _ (x'.trans x3) hD, ?_⟩
      rw [take_all (cm_get (x := x) ez), List.map_append]
      congr 1
      show [_] = [V.int _]
      split <;> rfl
  · rintro ys H' ly hD' ⟨x', rfl⟩
    rw [lx, List.take_of_length_le (by rw [cm_len]; exact Nat.le_refl _)] at hD'
    exact q D H' hD x' hD'
abbrev sOn : Stmt := top 45
def spOn : Sp := fun vs H Q _ => ∃ (n x : Nat), vs = [.int (n : Nat), .int (x : Nat)] ∧ n ≤ 20 ∧ ∀ H', Ext H H' → Q (.int (pop n x : Nat)) H'
abbrev NOn : List Str := ["_law_folk", "_law_dealing"]
theorem scOn : FnScope NOn ["_law_folk", "_law_dealing"] (defScope sOn) := ⟨rfl, rfl, rfl, by decide +kernel, rfl, by decide +kernel, by decide +kernel⟩
abbrev scOnc : Scope := { kind := .function, names := [(".0", .local), ("_law_k", .local), ("_law_dealing", .free)], isGenerator := false, isCoroutine := false }
theorem ndOn : ((["_law_k"] : List Str) ++ (["_law_dealing"] : List Str)).Nodup := by decide +kernel
section
variable {f : Addr} {cdv : Value} {A : Around} {outer : List Env} {s : Shared} {H : Hp} {E : XK}
theorem compOn : CompG (cxOf CX0 P w K mg base NOn "_law_ones" (defScope sOn) f cdv A outer s H E).nox scOnc [("_law_dealing", s.heap.objs.size + 1)] ["_law_k"] ["_law_dealing"] [1] :=
  compGn (M := ["_law_dealing"]) (L := [(".0", .local), ("_law_k", .local), ("_law_dealing", .cell)]) rfl rfl (by decide +kernel) (by decide +kernel) (by decide +kernel) rfl rfl rfl (by decide +kernel) (by decide +kernel) rfl rfl rfl
end
theorem bx_callB1 {X : Cx} {n : String} {r : List V → Hp → VK → Prop} {x : Str} {e : Expr} {te : TE} {p pos : Pos} (hc : CallR X (.builtin n) r) (hg : Gl X x) (hm : X.mg x = none) (hv : bootBuiltins x = some (.builtin n)) (ha : Bx (PE X e te)) (hn : x ≠ "__name__" := by decide) (hdb : (x == ("__debug__" : Str)) = false := by decide)
    (he : starEach [e] X.env = (false, eval e X.env) :: starEach [] X.env := by rfl) (hpl : (backTo pos (starEach [] X.env)).any (·.1) = false := by rfl) : Bx (PE X (.Call (.Name x p) [e] [] pos) (tCB r (tCons te tNil))) := ⟨pe_callB hc hg hm hv (pa_cons ha.h pa_nil (hs := he)) hn hdb he hpl⟩
theorem ok_on {f : Addr} {fd : FuncData} (F : Fun K "_law_ones" "_law_ones" sOn f fd) (mr : mg "range" = none) (ms : mg "sum" = none) : FnOk P w K mg base CX0 1 f fd ["_law_folk", "_law_dealing"] spOn := by
  refine F.ok scOn (fun vs H Q E h => ?_) (fun cdv A outer s H vs Q E hr h => ?_)
  · obtain ⟨n, x, rfl, _⟩ := h
    rfl
  obtain ⟨n, x, rfl, n20, q⟩ := h
  refine okBxL (t := tRet (tCB (rSumL K) (tCons (tLCG (iRng1 (tCons (tVar 0) tNil)) 1 [1] (gName 0) (tBit 1 0)) tNil))) (bxs_one (bx_ret (bx_callB1 (call_sumL rfl) rfl ms PyProof.Rows.boot_sum (bxl_lcG (te := tBit 1 0) (g := gName 0) rfl compOn ⟨pi_range1 rfl mr (pa_cons (pv 0) pa_nil)⟩ (fun s H C fp => by exact pg_name (i := 0) ndOn rfl (.inl rfl)) (fun s H C fp => ⟨by exact pe_op op_and (pe_op op_shr (pv 1) (pv 0)) pe_int⟩))))) ⟨rd_retC ?_⟩
  refine ⟨_, rfl, _, rfl, by omega, by omega, fun D hD => ?_⟩
  refine lcG_range (n := ((n : Nat) : Int).toNat) (fun i ys H' => Ext H H' ∧ ys = ((bts n x).take i).map V.int) (by rw [sizeLine_eq]; omega) ⟨Ext.new hD, rfl⟩ ?_ ?_
  · rintro i ys H' hi ly hD' ⟨x', rfl⟩ os los R kk
    have hi' : i < n := by simpa using hi
    match os, los with
    | [p0], _ =>
      refine ⟨⟨[_], rfl, rfl⟩, rd_bit (i := 1) (j := 0) (k := i) rfl ?_ ?_⟩
      · show some (some (V.int (0 + (i : Int)))) = _
        rw [Int.zero_add]
      · refine kk _ _ hD' ⟨ext_upd _ x' hD, ?_⟩
        rw [take_all (bts_get (x := x) hi'), List.map_append]
        rfl
  · rintro ys H' ly hD' ⟨x', rfl⟩
    rw [Int.toNat_natCast, List.take_of_length_le (by rw [bts_len]; exact Nat.le_refl _)] at hD'
    refine ⟨D, bts n x, rfl, SqL.of hD', ?_⟩
    rw [bts_sum]
    exact q H' x'
abbrev sDl : Stmt := top 46
def spDl : Sp := fun vs H Q _ => ∃ (n : Nat) (O : Int), vs = [.int (n : Nat), .int O] ∧ n ≤ 20 ∧ ∀ l H', H l = none → Ext H H' → H' l = some (.lst ((dls n O).map fun x => V.int (x : Nat))) → Q (.ref l) H'
abbrev NDl : List Str := ["_law_folk", "_law_ones_here"]
theorem scDl : FnScope NDl ["_law_folk", "_law_ones_here"] (defScope sDl) := ⟨rfl, rfl, rfl, by decide +kernel, rfl, by decide +kernel, by decide +kernel⟩
abbrev scDlc : Scope := { kind := .function, names := [(".0", .local), ("_law_dealing", .local), ("_law_ones", .globalImplicit), ("_law_folk", .free), ("_law_ones_here", .free)], isGenerator := false, isCoroutine := false }
theorem ndDl : ((["_law_dealing"] : List Str) ++ (["_law_folk", "_law_ones_here"] : List Str)).Nodup := by decide +kernel
section
variable {f : Addr} {cdv : Value} {A : Around} {outer : List Env} {s : Shared} {H : Hp} {E : XK}
theorem compDl : CompG (cxOf CX0 P w K mg base NDl "_law_dealings" (defScope sDl) f cdv A outer s H E).nox scDlc [("_law_ones_here", s.heap.objs.size + 2), ("_law_folk", s.heap.objs.size + 1)] ["_law_dealing"] ["_law_folk", "_law_ones_here"] [0, 1] :=
  compGn (M := ["_law_ones_here", "_law_folk"]) (L := [(".0", .local), ("_law_dealing", .local), ("_law_ones", .globalImplicit), ("_law_folk", .cell), ("_law_ones_here", .cell)]) rfl rfl (by decide +kernel) (by decide +kernel) (by decide +kernel) rfl rfl rfl (by decide +kernel) (by decide +kernel) rfl rfl rfl
end
theorem bxl_lcGI {X : Cx} {sc : Scope} {cl : List (Str × Addr)} {ts zs : List Str} {js : List Nat} {elt tg iter c : Expr} {wi : TI} {g : TG} {te : TE} {tt : TT} {pos : Pos} (hc : X.calm = true) (S : CompG X sc cl ts zs js) (hi : Bx (PI X tg iter wi)) (hg : ∀ s H C fp, PG (compCx X sc cl (ts ++ zs) s H C fp) tg g) (ht : ∀ s H C fp, Bx (PT (compCx X sc cl (ts ++ zs) s H C fp) c tt)) (he : ∀ s H C fp, Bx (PE (compCx X sc cl (ts ++ zs) s H C fp) elt te))
    (hs : ∀ v, foldedSetIterable iter X.env v = pure v := by intro _; rfl) : Bx (PE X (.ListComp elt [⟨tg, iter, [c], 0⟩] sc pos) (tLCGif wi ts.length js g tt te)) := ⟨pe_lcGI hc S hi.h hg (fun s H C fp => (ht s H C fp).h) (fun s H C fp => (he s H C fp).h) hs⟩
def tDlT : TT := tB (tOp rEq (tCall spOn [] E0 (tCons (tVar 1) (tCons (tVar 0) tNil))) (tVar 2))
theorem ok_dl {f a1 : Addr} {fd d1 : FuncData} (F : Fun K "_law_dealings" "_law_dealings" sDl f fd) (A1 : Df P w K mg base CX0 1 "_law_ones" ["_law_folk", "_law_dealing"] spOn a1 d1) (mr : mg "range" = none) : FnOk P w K mg base CX0 2 f fd ["_law_folk", "_law_ones_here"] spDl := by
  refine F.ok scDl (fun vs H Q E h => ?_) (fun cdv A outer s H vs Q E hr h => ?_)
  · obtain ⟨n, O, rfl, _⟩ := h
    rfl
  obtain ⟨n, O, rfl, n20, q⟩ := h
  refine okBxL (t := tRet (tLCGif (iRng1 (tCons (tOp (rI CPow fun i j => .int (i * 2 ^ j.toNat)) (tC (.int 1)) (tVar 0)) tNil)) 1 [0, 1] (gName 0) tDlT (tVar 0))) (bxs_one (bx_ret (bxl_lcGI (te := tVar 0) (tt := tDlT) (g := gName 0) rfl compDl ⟨pi_range1 rfl mr (pa_cons (pe_op op_shl pe_int (pv 0)) pa_nil)⟩ (fun s H C fp => by exact pg_name (i := 0) ndDl rfl (.inl rfl)) (fun s H C fp => ⟨by exact pt_cmpR op_eq (pe_call A1.G hr rfl A1.m A1.kp A1.b .nil pass0 (pa_cons (pv 1) (pa_cons (pv 0) pa_nil))) (pv 2) (nomark _)⟩) (fun s H C fp => ⟨by exact pv 0⟩)))) ⟨?_⟩
  obtain ⟨m, hm⟩ : ∃ m, m = 2 ^ n := ⟨_, rfl⟩
  have p20 : m ≤ 1048576 := by rw [hm]; exact Nat.le_trans (Nat.pow_le_pow_right (by decide) n20) (by decide)
  have ee : (1 : Int) * 2 ^ ((n : Nat) : Int).toNat = ((m : Nat) : Int) := by
    rw [Int.one_mul, Int.toNat_natCast, hm]
    simp
  refine ⟨_, rfl, _, _, rfl, rfl, ⟨by omega, by omega, by decide⟩, _, rfl, ?_, ?_, fun D hD => ?_⟩
  · show -(2 ^ 62) ≤ (1 : Int) * 2 ^ ((n : Nat) : Int).toNat
    rw [ee]
    omega
  · show (1 : Int) * 2 ^ ((n : Nat) : Int).toNat < 2 ^ 62
    rw [ee]
    omega
  · have et : ((1 : Int) * 2 ^ ((n : Nat) : Int).toNat).toNat = m := by rw [ee, Int.toNat_natCast]
    refine lcGI_it (n := m) (fun i ys H' => Ext H H' ∧ ys = ((List.range i).filter fun x => decide (((pop n x : Nat) : Int) = O)).map fun x => V.int (x : Nat)) (by rw [sizeLine_eq]; omega) ⟨Ext.new hD, rfl⟩ (fun i ys H' hi p => by show i < _; rw [et]; exact hi) (fun ys H' p => by show _ ≤ _; rw [et]; exact Nat.le_refl _) ?_ ?_
    · rintro i y ys H' H3 hi ⟨rfl, rfl⟩ ly hD' ⟨x', rfl⟩ os los N kk
      match os, los with
      | [p0], _ =>
        refine ⟨⟨[_], rfl, rfl⟩, ?_⟩
        refine ⟨_, rfl, _, rfl, n, i, ?_, n20, fun H4 x4 => ⟨_, rfl, rfl, _, rfl, fun e => ?_, fun e => ?_⟩⟩
        · show [V.int (n : Nat), V.int (0 + (i : Int))] = _
          rw [Int.zero_add]
        · refine kk _ _ ⟨x'.trans x4, ?_⟩ (by omega) (x4 _ _ hD')
          have ne : ¬ ((pop n i : Nat) : Int) = O := fun z => by rw [z, decide_eq_true rfl] at e; cases e
          rw [List.range_succ, List.filter_append]
          simp [ne]
        · have eq : ((pop n i : Nat) : Int) = O := by
            have := of_decide_eq_true e
            injection this
          refine ⟨_, rfl, x4 _ _ hD', kk _ _ ⟨ext_upd _ (x'.trans x4) hD, ?_⟩ (by rw [List.length_append, List.length_singleton]; omega) upd_same⟩
          rw [List.range_succ, List.filter_append, List.map_append]
          simp [eq]
    · rintro ys H' ly hD' ⟨x', rfl⟩
      rw [hm] at hD'
      exact q D H' hD x' hD'
end
end My
set_option Elab.async false
set_option linter.all false
set_option maxRecDepth 100000
set_option maxHeartbeats 2000000
set_option exponentiation.threshold 10000
namespace My
open PySem PySem.W L2
def wrt (ns : List Int) (x : Nat) : Int := (wl (0 - ((pop ns.length x : Nat) : Int)) (((ns.length : Nat) : Int) - ((pop ns.length x : Nat) : Int)) ns x).sum
section
variable {P : Program} {w : World} {K : Frag} {mg : Str → Option Value} {base : Heap}
abbrev sWo : Stmt := top 47
def spWo : Sp := fun vs H Q _ => ∃ (r : Addr) (x : Nat) (ns : List Int), vs = [.ref r, .int (x : Nat)] ∧ H r = some (.lst (ns.map V.int)) ∧ ns.length ≤ 20 ∧ ∀ H', Ext H H' → Q (.int (wrt ns x)) H'
abbrev NWo : List Str := ["_law_row", "_law_dealing", "_law_ones_here"]
theorem scWo : FnScope NWo ["_law_row", "_law_dealing"] (defScope sWo) := ⟨rfl, rfl, rfl, by decide +kernel, rfl, by decide +kernel, by decide +kernel⟩
abbrev scWoc : Scope := { kind := .function, names := [(".0", .local), ("_law_k", .local), ("_law_yes", .local), ("len", .globalImplicit), ("_law_dealing", .free), ("_law_ones_here", .free), ("_law_row", .free)], isGenerator := false, isCoroutine := false }
theorem ndWo : ((["_law_k", "_law_yes"] : List Str) ++ (["_law_dealing", "_law_ones_here", "_law_row"] : List Str)).Nodup := by decide +kernel
def tWoE (K : Frag) : TE := tOp oMul (tVar 1) (tOp (rIxL K) (tLst (tCons (tOp oSub (tC (.int 0)) (tVar 3)) (tCons (tOp oSub (tCB (rLen K) (tCons (tVar 4) tNil)) (tVar 3)) tNil))) (tBit 2 0))
section
variable {f a1 : Addr} {d1 : FuncData} {cdv : Value} {A : Around} {outer : List Env} {s : Shared} {H : Hp} {E : XK}
theorem compWo : CompG (cxOf CX0 P w K mg base NWo "_law_worth" (defScope sWo) f cdv A outer s H E).nox scWoc [("_law_row", s.heap.objs.size + 1), ("_law_ones_here", s.heap.objs.size + 3), ("_law_dealing", s.heap.objs.size + 2)] ["_law_k", "_law_yes"] ["_law_dealing", "_law_ones_here", "_law_row"] [1, 2, 0] :=
  compGn (M := ["_law_row", "_law_ones_here", "_law_dealing"]) (L := [(".0", .local), ("_law_k", .local), ("_law_yes", .local), ("len", .globalImplicit), ("_law_dealing", .cell), ("_law_ones_here", .cell), ("_law_row", .cell)]) rfl rfl (by decide +kernel) (by decide +kernel) (by decide +kernel) rfl rfl rfl (by decide +kernel) (by decide +kernel) rfl rfl rfl
abbrev eltWo : Expr := match (defBody sWo).getD 1 s0 with
  | .Return (some (.Call _ [.ListComp e _ _ _] _ _)) _ => e
  | _ => .Name "" ⟨0, 0, 0, 0⟩
theorem wo_e (ml : mg "len" = none) {s' : Shared} {H' : Hp} {C : Addr} {fp : List Addr} :
    Bx (PE (compCx (cxOf CX0 P w K mg base NWo "_law_worth" (defScope sWo) f cdv A outer s H E).nox scWoc [("_law_row", s.heap.objs.size + 1), ("_law_ones_here", s.heap.objs.size + 3), ("_law_dealing", s.heap.objs.size + 2)] ((["_law_k", "_law_yes"] : List Str) ++ (["_law_dealing", "_law_ones_here", "_law_row"] : List Str)) s' H' C fp) eltWo (tWoE K)) :=
  bx_op op_mul ⟨pv 1⟩ (bx_ix ix_list (bx_lst (bxa_cons ⟨pe_op op_sub pe_int (pv 3)⟩ (bxa_cons ⟨pe_op op_sub (pe_callB call_len_seq rfl ml PySem.boot_len (pa_cons (pv 4) pa_nil)) (pv 3)⟩ bxa_nil))) ⟨pe_op op_and (pe_op op_shr (pv 2) (pv 0)) pe_int⟩ (fun _ _ => rfl))
theorem wo_der (A1 : Df P w K mg base CX0 1 "_law_ones" ["_law_folk", "_law_dealing"] spOn a1 d1) (ml : mg "len" = none) (me : mg "enumerate" = none) (ms : mg "sum" = none) (hr : Room 1 (A.deeper (PyProof.Rows.envOfC "_law_worth" (defScope sWo) s.heap.objs.size f cdv))) :
    Bx (PSs (cxOf CX0 P w K mg base NWo "_law_worth" (defScope sWo) f cdv A outer s H E).nox (defBody sWo) (tSeq (tAsg (tCall spOn [] E0 (tCons (tCB (rLen K) (tCons (tVar 0) tNil)) (tCons (tVar 1) tNil))) (gName 2)) (tRet (tCB (rSumL K) (tCons (tLCG (iEnum K (tCons (tVar 0) tNil)) 2 [1, 2, 0] (gW K 0 1) (tWoE K)) tNil))))) :=
  bxs_cons ⟨ps_set (i := 2) scWo.nd rfl (Or.inr rfl) (pe_call A1.G hr rfl A1.m A1.kp A1.b .nil pass0 (pa_cons (pe_callB call_len_seq rfl ml PySem.boot_len (pa_cons (pv 0) pa_nil)) (pa_cons (pv 1) pa_nil)))⟩
    (bxs_one (bx_ret (bx_callB1 (call_sumL rfl) rfl ms PyProof.Rows.boot_sum (bxl_lcG (te := tWoE K) (g := gW K 0 1) rfl compWo ⟨pi_enum rfl me (pa_cons (pv 0) pa_nil)⟩ (fun s H C fp => by exact pg_tup rfl (pgs_cons (pg_name (i := 0) ndWo rfl (.inl rfl)) (pgs_cons (pg_name (i := 1) ndWo rfl (.inl rfl)) pgs_nil))) (fun s H C fp => wo_e ml)))))
end
theorem rd_woE {H : Hp} {Q : VK} {r : Addr} {ns : List Int} {x k o : Nat} {y : Int} (hr : H r = some (.lst (ns.map V.int))) (l20 : ns.length ≤ 20) (o20 : o ≤ 20) (q : ∀ H', Ext H H' → Q (.int (y * (if x / 2 ^ k % 2 = 1 then ((ns.length : Nat) : Int) - (o : Nat) else 0 - (o : Nat)))) H') : tWoE K [some (.int (k : Nat)), some (.int y), some (.int (x : Nat)), some (.int (o : Nat)), some (.ref r)] H Q := by
  refine ⟨_, rfl, _, rfl, _, _, rfl, rfl, _, rfl, r, _, rfl, .inl (SqL.of hr), _, rfl, _, _, rfl, rfl, by show 2 ≤ sizeLine; decide, fun l hl => ?_⟩
  refine rd_bit (i := 2) (j := 0) rfl rfl ⟨l, _, _, _, rfl, rfl, SqL.of upd_same, at2', ?_⟩
  rw [List.length_map]
  have e : (if x / 2 ^ k % 2 = 1 then V.int (((ns.length : Nat) : Int) - (o : Nat)) else V.int (0 - (o : Nat))) = V.int (if x / 2 ^ k % 2 = 1 then ((ns.length : Nat) : Int) - (o : Nat) else 0 - (o : Nat)) := by split <;> rfl
  show oMul (.int y) (if x / 2 ^ k % 2 = 1 then V.int (((ns.length : Nat) : Int) - (o : Nat)) else V.int (0 - (o : Nat))) _ Q
  rw [e]
  refine ⟨_, _, rfl, rfl, .inr ?_, q _ (Ext.new hl)⟩
  split
  · exact ⟨by omega, by omega⟩
  · exact ⟨by omega, by omega⟩
theorem ok_wo {f a1 : Addr} {fd d1 : FuncData} (F : Fun K "_law_worth" "_law_worth" sWo f fd) (A1 : Df P w K mg base CX0 1 "_law_ones" ["_law_folk", "_law_dealing"] spOn a1 d1) (ml : mg "len" = none) (me : mg "enumerate" = none) (ms : mg "sum" = none) : FnOk P w K mg base CX0 2 f fd ["_law_row", "_law_dealing"] spWo := by
  refine F.ok scWo (fun vs H Q E h => ?_) (fun cdv A outer s H vs Q E hr h => ?_)
  · obtain ⟨r, x, ns, rfl, _⟩ := h
    rfl
  obtain ⟨r, x, ns, rfl, hr0, l20, q⟩ := h
  refine okBxL (wo_der A1 ml me ms hr) ⟨?_⟩
  refine ⟨_, rfl, r, _, rfl, .inl (SqL.of hr0), _, rfl, ns.length, x, ?_, l20, fun H1 x1 => ?_⟩
  · rw [List.length_map]
    rfl
  have hr1 := x1 _ _ hr0
  refine ⟨_, rfl, r, rfl, ⟨_, SqL.of hr1⟩, fun D hD => ?_⟩
  have pl := pop_le ns.length x
  refine lcG_it (n := ns.length) (fun i ys H' => Ext H1 H' ∧ ys = ((wl (0 - ((pop ns.length x : Nat) : Int)) (((ns.length : Nat) : Int) - ((pop ns.length x : Nat) : Int)) ns x).take i).map V.int) (by rw [sizeLine_eq]; omega) ⟨Ext.new hD, rfl⟩ (fun i ys H' hi p => ⟨ns.map V.int, .int ns[i], SqL.of (p.1 _ _ hr1), by rw [List.getElem?_map, List.getElem?_eq_getElem hi]; rfl⟩) (fun ys H' p => ⟨ns.map V.int, SqL.of (p.1 _ _ hr1), by rw [List.length_map]; exact Nat.le_refl _⟩) ?_ ?_
  · rintro i y ys H' H3 hi yl ly hD' ⟨x', rfl⟩ os los R kk
    obtain ⟨t, v, rfl, ht, rfl, hv⟩ := yl
    have ev := hv _ (SqL.of (x' _ _ hr1))
    rw [List.getElem?_map, List.getElem?_eq_getElem hi] at ev
    have ev : V.int ns[i] = v := Option.some.inj ev
    subst ev
    have en : ns[i]? = some ns[i] := List.getElem?_eq_getElem hi
    generalize ns[i] = n at en
    have x3 := Ext.new (o := .tup [.int (i : Nat), .int n]) ht
    match os, los with
    | [p0, p1], _ =>
      refine ⟨t, _, rfl, SqT.of upd_same, rfl, _, _, rfl, _, _, rfl, rfl, ⟨[_, _], rfl, rfl⟩, ?_⟩
      refine rd_woE (x3 _ _ (x' _ _ hr1)) l20 (by omega) fun H4 x4 => ?_
      refine kk _ _ (x4 _ _ (x3 _ _ hD')) ⟨ext_upd _ ((x'.trans x3).trans x4) hD, ?_⟩
      rw [take_all (wl_get (x := x) en), List.map_append]
      rfl
  · rintro ys H' ly hD' ⟨x', rfl⟩
    rw [List.take_of_length_le (by rw [wl_len]; exact Nat.le_refl _)] at hD'
    exact ⟨D, _, rfl, SqL.of hD', q H' (x1.trans x')⟩
abbrev sVs : Stmt := top 48
def spVs : Sp := fun vs H Q _ => ∃ (a dl : Addr) (L : List (Int × Int)) (xs : List Nat), vs = [.ref a, .ref dl] ∧ LsAt H a L ∧ L.length ≤ 20 ∧ H dl = some (.lst (xs.map fun x => V.int (x : Nat))) ∧ xs.length < 16000000 ∧ ∀ l H', H l = none → Ext H H' → H' l = some (.lst ((xs.map fun x => wrt (cm L x) x).map V.int)) → Q (.ref l) H'
abbrev NVs : List Str := ["_law_listing_here", "_law_dealings_here"]
theorem scVs : FnScope NVs ["_law_listing_here", "_law_dealings_here"] (defScope sVs) := ⟨rfl, rfl, rfl, by decide +kernel, rfl, by decide +kernel, by decide +kernel⟩
abbrev scVsc : Scope := { kind := .function, names := [(".0", .local), ("_law_dealing", .local), ("_law_worth", .globalImplicit), ("_law_came", .globalImplicit), ("_law_listing_here", .free)], isGenerator := false, isCoroutine := false }
theorem ndVs : ((["_law_dealing"] : List Str) ++ (["_law_listing_here"] : List Str)).Nodup := by decide +kernel
section
variable {f : Addr} {cdv : Value} {A : Around} {outer : List Env} {s : Shared} {H : Hp} {E : XK}
theorem compVs : CompG (cxOf CX0 P w K mg base NVs "_law_values" (defScope sVs) f cdv A outer s H E).nox scVsc [("_law_listing_here", s.heap.objs.size + 1)] ["_law_dealing"] ["_law_listing_here"] [0] :=
  compGn (M := ["_law_listing_here"]) (L := [(".0", .local), ("_law_dealing", .local), ("_law_worth", .globalImplicit), ("_law_came", .globalImplicit), ("_law_listing_here", .cell)]) rfl rfl (by decide +kernel) (by decide +kernel) (by decide +kernel) rfl rfl rfl (by decide +kernel) (by decide +kernel) rfl rfl rfl
end
def tVsE : TE := tCall spWo [] E0 (tCons (tCall spCm [] E0 (tCons (tVar 1) (tCons (tVar 0) tNil))) (tCons (tVar 0) tNil))
theorem ok_vs {f a1 a2 : Addr} {fd d1 d2 : FuncData} (F : Fun K "_law_values" "_law_values" sVs f fd) (A1 : Df P w K mg base CX0 1 "_law_came" ["_law_listing_here", "_law_dealing"] spCm a1 d1) (A2 : Df P w K mg base CX0 2 "_law_worth" ["_law_row", "_law_dealing"] spWo a2 d2) : FnOk P w K mg base CX0 3 f fd ["_law_listing_here", "_law_dealings_here"] spVs := by
  refine F.ok scVs (fun vs H Q E h => ?_) (fun cdv A outer s H vs Q E hr h => ?_)
  · obtain ⟨a, dl, L, xs, rfl, _⟩ := h
    rfl
  obtain ⟨a, dl, L, xs, rfl, ls, l20, hd, sm, q⟩ := h
  have hr1 : Room 1 _ := hr.mono (by decide)
  refine okBxL (t := tRet (tLCG (iList K (tVar 1)) 1 [0] (gName 0) tVsE)) (bxs_one (bx_ret (bxl_lcG (te := tVsE) (g := gName 0) rfl compVs ⟨pi_list (pv 1)⟩ (fun s H C fp => by exact pg_name (i := 0) ndVs rfl (.inl rfl)) (fun s H C fp => ⟨by exact pe_call A2.G hr rfl A2.m A2.kp A2.b .nil pass0 (pa_cons (pe_call A1.G hr1 rfl A1.m A1.kp A1.b .nil pass0 (pa_cons (pv 1) (pa_cons (pv 0) pa_nil))) (pa_cons (pv 0) pa_nil))⟩)))) ⟨?_⟩
  refine ⟨_, rfl, dl, rfl, ⟨_, SqL.of hd⟩, fun D hD => ?_⟩
  refine lcG_it (n := xs.length) (fun i ys H' => Ext H H' ∧ ys = ((xs.take i).map fun x => wrt (cm L x) x).map V.int) (by rw [sizeLine_eq]; omega) ⟨Ext.new hD, rfl⟩ (fun i ys H' hi p => ⟨_, _, SqL.of (p.1 _ _ hd), by rw [List.getElem?_map, List.getElem?_eq_getElem hi]; rfl⟩) (fun ys H' p => ⟨_, SqL.of (p.1 _ _ hd), by rw [List.length_map]; exact Nat.le_refl _⟩) ?_ ?_
  · rintro i y ys H' H3 hi ⟨rfl, hy⟩ ly hD' ⟨x', rfl⟩ os los R kk
    have ey := hy _ (SqL.of (x' _ _ hd))
    rw [List.getElem?_map, List.getElem?_eq_getElem hi] at ey
    have ey : V.int ((xs[i] : Nat) : Int) = y := Option.some.inj ey
    subst ey
    have en : xs[i]? = some xs[i] := List.getElem?_eq_getElem hi
    generalize xs[i] = x at en
    match os, los with
    | [p0], _ =>
      refine ⟨⟨[_], rfl, rfl⟩, ?_⟩
      refine ⟨_, rfl, _, rfl, a, x, L, rfl, ls.ext x', l20, fun l H4 hl x4 h4 => ⟨_, rfl, l, x, cm L x, rfl, h4, by rw [cm_len]; exact l20, fun H5 x5 => ?_⟩⟩
      refine kk _ _ (x5 _ _ (x4 _ _ hD')) ⟨ext_upd _ ((x'.trans x4).trans x5) hD, ?_⟩
      rw [take_all en, List.map_append, List.map_append]
      rfl
  · rintro ys H' ly hD' ⟨x', rfl⟩
    rw [List.take_length] at hD'
    exact q D H' hD x' hD'
end
end My
set_option Elab.async false
set_option linter.all false
set_option maxRecDepth 100000
set_option maxHeartbeats 1000000
namespace My
open PySem PySem.W L2
section
variable {H0 : Hp} {σ : St} {te : TE} {ta : TA} {d : PyData} {ds : List PyData}
end
end My
set_option Elab.async false
set_option linter.all false
set_option maxRecDepth 100000
set_option maxHeartbeats 1000000
set_option exponentiation.threshold 10000
namespace My
open PySem PySem.W L2
def GX (G : Hp → Hp) (H0 : Hp) (σ : St) (te : TE) (d : PyData) : Prop := ∀ (H : Hp) (Q : VK), Pt G H → Ext H0 H → (∀ v H', Ext H H' → Rds (G H') v d → Q v H') → te σ H Q
def GXs (G : Hp → Hp) (H0 : Hp) (σ : St) (ta : TA) (ds : List PyData) : Prop := ∀ (H : Hp) (Q : List V → Hp → Prop), Pt G H → Ext H0 H → (∀ vs H', Ext H H' → RdsAll (G H') vs ds → Q vs H') → ta σ H Q
section
variable {G : Hp → Hp} {H0 : Hp} {σ : St} {te : TE} {ta : TA} {d : PyData} {ds : List PyData}
theorem GX.int (i : Int) : GX G H0 σ (tC (.int i)) (.int i) := fun H Q _ _ q => q _ H (Ext.refl _) (.int i)
theorem GX.bl (b : Bool) : GX G H0 σ (tC (.bl b)) (.bool b) := fun H Q _ _ q => q _ H (Ext.refl _) (.bl b)
theorem GX.non : GX G H0 σ (tC .non) .none := fun H Q _ _ q => q _ H (Ext.refl _) .non
theorem GX.str (z : Str) : GX G H0 σ (tC (.str z)) (.str z) := fun H Q _ _ q => q _ H (Ext.refl _) (.str z)
theorem GXs.nil : GXs G H0 σ tNil [] := fun H Q _ _ q => q [] H (Ext.refl _) .nil
theorem GXs.cons (h : GX G H0 σ te d) (k : GXs G H0 σ ta ds) : GXs G H0 σ (tCons te ta) (d :: ds) := fun H Q pt x q =>
  h H _ pt x fun v H1 x1 r => k H1 _ (pt.ext x1) (x.trans x1) fun vs H2 x2 rs => q (v :: vs) H2 (x1.trans x2) (.cons (r.mono (pt.mono x2)) rs)
theorem GX.tup (k : GXs G H0 σ ta ds) (hz : ds.length ≤ 1000) : GX G H0 σ (tTup ta) (.tuple ds) := fun H Q pt x q =>
  k H _ pt x fun vs H1 x1 rs => ⟨by rw [rs.length, sizeLine_eq]; omega, fun p hp => q _ _ (x1.trans (Ext.new hp)) (.tup (pt.new x1 hp) (rs.mono (pt.mono (Ext.new hp))))⟩
theorem GXs.use {Q : VK} (k : GXs G H0 σ ta ds) (pt : Pt G H0) (hz : ds.length ≤ 1000) (q : ∀ l vs H', Ext H0 H' → H0 l = none → G H' l = some (.lst vs) → H' l = some (.lst vs) → RdsAll (G H') vs ds → Q (.ref l) H') : tLst ta σ H0 Q :=
  k H0 _ pt (Ext.refl _) fun vs H1 x1 rs => ⟨by rw [rs.length, sizeLine_eq]; omega, fun p hp => q p vs _ (x1.trans (Ext.new hp)) (by
    cases e : H0 p with
    | none => rfl
    | some o => rw [x1 _ _ e] at hp; cases hp) (pt.new x1 hp) upd_same (rs.mono (pt.mono (Ext.new hp)))⟩
end
end My
set_option Elab.async false
set_option linter.all false
set_option maxRecDepth 100000
set_option maxHeartbeats 2000000
set_option exponentiation.threshold 10000
namespace My
open PySem PySem.W L2
structure KitB (K : Frag) (mg : Str → Option Value) (D CL CN : Addr) : Prop where
  T : IsT K
  cL : Catch K CL
  cN : Catch K CN
  mD : mg "DealError" = some (.ref D)
  mL : mg "NoListing" = some (.ref CL)
  mN : mg "NoNumber" = some (.ref CN)
  fL : FldOk K CL "found"
  fN : FldOk K CN "found"
  ll : mroIn K CL (.ref CL) = some true
  nl : mroIn K CN (.ref CL) = some false
  nn : mroIn K CN (.ref CN) = some true
  kL : kitOne K (.ref CL) (.ref D) = some true
  kN : kitOne K (.ref CN) (.ref D) = some true
def thAk (K : Frag) (D : Addr) (z : Str) : TS := tRet (tLst (tCons (tC (.str z)) (tCons (tCB rRepr (tCons (tErrFT K (tVar 2) "found") tNil)) (tCons (tCB (rIsT1 K) (tCons (tVar 2) (tCons (tC (.ref D)) tNil))) tNil))))
def hAk (K : Frag) (D CL CN : Addr) : TH := hAs K CL 2 (thAk K D "listing") (hAs K CN 2 (thAk K D "number") hNil)
def tbAk (CL CN : Addr) (E : XK) : TS := tRet (tLst (tCons (tC (.str "told")) (tCons (tCB rSortD (tCons (tCall (spCS CL CN) [] E (tCons (tVar 0) (tCons (tVar 1) tNil))) tNil)) tNil)))
section
variable {P : Program} {w : World} {K : Frag} {mg : Str → Option Value} {base : Heap} {D CL CN : Addr}
abbrev sAk : Stmt := top 51
abbrev NAk : List Str := ["_law_ones_here", "_law_counts_here", "e"]
theorem scAk : FnScope NAk ["_law_ones_here", "_law_counts_here"] (defScope sAk) := ⟨rfl, rfl, rfl, by decide +kernel, rfl, by decide +kernel, by decide +kernel⟩
def RefD (dx dy : PyData) (z : Str × PyData) : Prop := (cntsD dy = false ∧ z = (("listing" : Str), dy)) ∨ ∃ a b c d : Nat, dy = .tuple [.int a, .int b, .int c, .int d] ∧ cntsD dy = true ∧ inD 0 ((a + b + c + d : Nat) : Int) dx = false ∧ z = (("number" : Str), dx)
def Ans (H : Hp) (l : Addr) (z : Str × PyData) : Prop := H l = some (.lst [.str z.1, .str z.2.shown, .bl true])
def spAk : Sp := fun vs H Q _ => ∃ (x y : V) (dx dy : PyData) (z : Str × PyData), vs = [x, y] ∧ H sysModules = none ∧ Rds H x dx ∧ Rds H y dy ∧ RefD dx dy z ∧ Show z.2 ∧ ∀ l H', H l = none → Ext H H' → Ans H' l z → Q (.ref l) H'
variable {f : Addr} {cdv : Value} {A : Around} {outer : List Env} {s : Shared} {H : Hp} {E : XK}
theorem ak_suite {z : Str} {p0 p1 p2 p3 p4 p5 p6 p7 p8 p9 p10 : Pos} {x : Addr} (hz : H sysModules = none) (Z : KitB K mg D CL CN) (mp : mg "repr" = none) (mi : mg "isinstance" = none) (hr : Room 6 (A.deeper (PyProof.Rows.envOfC "_law_asked" (defScope sAk) s.heap.objs.size f cdv))) :
    PSs (exCx (cxOf CX0 P w K mg base NAk "_law_asked" (defScope sAk) f cdv A outer s H E).nox x) [.Return (some (.List [.Constant (.str z) 0 p0, .Call (.Name "repr" p1) [.Attribute (.Name "e" p2) "found" p3] [] p4, .Call (.Name "isinstance" p5) [.Name "e" p6, .Name "DealError" p7] [] p8] p9)) p10] (thAk K D z) :=
  pss_one (ps_ret (pe_lst (pa_cons pe_str (pa_cons (pe_callB (call_repr hz hr.gd hr.units) rfl mp PyProof.Rows.boot_repr (pa_cons (pe_errFT (pv 2) rfl) pa_nil)) (pa_cons (pe_callB (call_isT1 Z.T) rfl mi PyProof.Rows.boot_isinstance (pa_cons (pv 2) (pa_cons (pe_glob (v := .ref D) rfl Z.mD rfl) pa_nil))) pa_nil)))))
theorem ak_der {a1 : Addr} {d1 : FuncData} (hz : H sysModules = none) (Z : KitB K mg D CL CN) (A1 : Df P w K mg base (CXE P w) 6 "counts_spread" ["ones", "counts"] (spCS CL CN) a1 d1) (mp : mg "repr" = none) (mi : mg "isinstance" = none) (mo : mg "sorted" = none) (hr : Room 6 (A.deeper (PyProof.Rows.envOfC "_law_asked" (defScope sAk) s.heap.objs.size f cdv))) :
    Bx (PSs (cxOf CX0 P w K mg base NAk "_law_asked" (defScope sAk) f cdv A outer s H E).nox (defBody sAk) (tTryN (tbAk CL CN) (hAk K D CL CN))) := by
  have nd := scAk.nd
  refine bxs_one ⟨ps_tryN (tb := tbAk CL CN) (th := hAk K D CL CN) rfl rfl (fun σ E' pn xe hp => ?_) ?_⟩
  · exact pxs_ret (px_lst (pxa_cons (px_of pe_str) (pxa_cons (px_callB (call_sortD rfl) rfl mo PyProof.Rows.boot_sorted (pxa_cons (px_call (E := E') A1.G hr rfl A1.m A1.kp A1.b .nil hp (pxa_of (pa_cons (pv 0) (pa_cons (pv 1) pa_nil)))) pxa_nil)) pxa_nil)))
  · exact phs_as (i := 2) nd rfl rfl Z.cL rfl Z.mL (fun x => ak_suite hz Z mp mi hr) (phs_as (i := 2) nd rfl rfl Z.cN rfl Z.mN (fun x => ak_suite hz Z mp mi hr) phs_nil)
theorem rd_ak {C e dx : Addr} {z : Str} {v : V} {d : PyData} {D' : Ends} {v0 v1 o2 : Option V} (F : FldOk K C "found") (kk : kitOne K (.ref C) (.ref D) = some true) (fe : H e = some (ErrT e C (some dx))) (fd : H dx = some (.xd [("found", v)])) (rv : Rds H v d) (sw : Show d) (q : ∀ l H', H l = none → Ext H H' → Ans H' l (z, d) → D'.rt (.ref l) H') :
    thAk K D z (unEnds D' 2) (([v0, v1, o2] : St).set 2 (some (.ref e))) H := by
  refine ⟨_, rfl, e, C, dx, _, v, rfl, fe, fd, by rw [List.lookup_cons, beq_self_eq_true], F.it, F.hd, F.nf, v, d, rfl, rv, sw, _, rfl, e, C, dx, _, _, _, rfl, fe, fd, F.it, .inl ⟨_, rfl⟩, kk, by show 3 ≤ sizeLine; decide, fun l hl => ?_⟩
  exact q l _ hl (Ext.new hl) upd_same
theorem ok_ak {fd : FuncData} {a1 : Addr} {d1 : FuncData} (Z : KitB K mg D CL CN) (F : Fun K "_law_asked" "_law_asked" sAk f fd) (A1 : Df P w K mg base (CXE P w) 6 "counts_spread" ["ones", "counts"] (spCS CL CN) a1 d1) (mp : mg "repr" = none) (mi : mg "isinstance" = none) (mo : mg "sorted" = none) : FnOk P w K mg base CX0 7 f fd ["_law_ones_here", "_law_counts_here"] spAk := by
  refine F.ok scAk (fun vs H Q E h => ?_) (fun cdv A outer s H vs Q E hr h => ?_)
  · obtain ⟨x, y, dx, dy, z, rfl, _⟩ := h
    rfl
  obtain ⟨x, y, dx, dy, z, rfl, hz, rx, ry, ref, sw, q⟩ := h
  have ex : ∀ {H1 : Hp} {l : Addr}, Ext H H1 → H1 l = none → H l = none := fun {H1 l} x h => by
    cases e : H l with
    | none => rfl
    | some o => rw [x _ _ e] at h; cases h
  refine okBxL (ak_der hz Z A1 mp mi mo hr) ⟨?_⟩
  refine ⟨_, rfl, _, rfl, x, y, dx, dy, rfl, rx, ry, ?_, fun a b c d ed et => ⟨?_, ?_⟩⟩
  · intro ef H1 x1
    rcases ref with ⟨_, rfl⟩ | ⟨_, _, _, _, _, et, _⟩
    · exact err_at fun e dx' H2 x2 fe fd => ⟨e, CL, rfl, rfl, true, Z.ll, itT (rd_ak (D' := ⟨_, Q, _, _⟩) Z.fL Z.kL fe fd (ry.mono (x1.trans x2)) sw fun l H3 hl x3 an => q l H3 (ex (x1.trans x2) hl) ((x1.trans x2).trans x3) an)⟩
    · rw [et] at ef; cases ef
  · intro ei H1 x1
    rcases ref with ⟨ef, _⟩ | ⟨a', b', c', d', e', et', ei', rfl⟩
    · rw [et] at ef; cases ef
    · exact err_at fun e dx' H2 x2 fe fd => ⟨e, CN, rfl, rfl, false, Z.nl, itF ⟨true, Z.nn, itT (rd_ak (D' := ⟨_, Q, _, _⟩) Z.fN Z.kN fe fd (rx.mono (x1.trans x2)) sw fun l H3 hl x3 an => q l H3 (ex (x1.trans x2) hl) ((x1.trans x2).trans x3) an)⟩⟩
  · intro O eO o1 o2
    rcases ref with ⟨ef, _⟩ | ⟨a', b', c', d', e', et', ei', rfl⟩
    · rw [et] at ef; cases ef
    · exfalso
      subst ed
      injection e' with e'
      injection e' with h1 e'
      injection e' with h2 e'
      injection e' with h3 e'
      injection e' with h4 _
      injection h1 with h1
      injection h2 with h2
      injection h3 with h3
      injection h4 with h4
      subst eO
      have : (decide ((0 : Int) ≤ O) && decide (O ≤ ((a' + b' + c' + d' : Nat) : Int))) = false := ei'
      rw [Bool.and_eq_false_iff, decide_eq_false_iff_not, decide_eq_false_iff_not] at this
      omega
end
end My
set_option Elab.async false
set_option linter.all false
set_option maxRecDepth 100000
set_option maxHeartbeats 2000000
set_option exponentiation.threshold 10000
namespace My
open PySem PySem.W L2
def rListOf (K : Frag) : List V → Hp → VK → Prop := fun xs H Q => ∃ p ys, xs = [.ref p] ∧ (SqL K H p ys ∨ SqT K H p ys) ∧ ∀ l, H l = none → Q (.ref l) (upd H l (.lst ys))
def tTail (K : Frag) : TE := tSl (rSlT K) (tVar 2) (tPart (tC (.int 1))) tNoPart
def taB1 (K : Frag) : TA := tCons (tC .non) (tCons (tCB (rListOf K) (tCons (tVar 2) tNil)) (tCons (tSl (rSlT K) (tVar 2) tNoPart (tPart (tC (.int 3)))) (tCons (tOp (rCatT K) (tVar 2) (tTup (tCons (tC (.int 0)) tNil)))
  (tCons (tOp (rCatT K) (tTup (tCons (tUn (rU fun i => .int (-i)) (tC (.int 1))) tNil)) (tTail K)) (tCons (tOp (rCatT K) (tTup (tCons (tC (.bl true)) tNil)) (tTail K)) (tCons (tTup (tCons (tC (.int 0)) (tCons (tC (.int 0)) (tCons (tC (.int 0)) (tCons (tC (.int 0)) tNil))))) tNil))))))
abbrev tI4 (a b c d : Int) : TE := tTup (tCons (tC (.int a)) (tCons (tC (.int b)) (tCons (tC (.int c)) (tCons (tC (.int d)) tNil))))
def taB2 : TA := tCons (tI4 21 0 0 0) (tCons (tI4 7 7 7 0) (tCons (tC (.str "1234")) (tCons (tC (.int 5)) (tCons (tTup (tCons (tC .non) (tCons (tC (.int 1)) (tCons (tC (.int 1)) (tCons (tC (.int 1)) tNil))))) tNil))))
def taB3 (K : Frag) : TA := tCons (tUn (rU fun i => .int (-i)) (tC (.int 1))) (tCons (tOp oAdd (tCB (rSumT K) (tCons (tVar 2) tNil)) (tC (.int 1))) (tCons (tC .non) (tCons (tC (.bl true)) (tCons (tC (.str "1")) (tCons (tLst (tCons (tVar 1) tNil)) (tCons (tOp (rI CPow fun i j => .int (i ^ j.toNat)) (tC (.int 10)) (tC (.int 29))) tNil))))))
def tR0 (K : Frag) : TS := tAsg (tLst (taB1 K)) (gName 3)
def tR1 (K : Frag) : TS := tAsg (tOp (rIxL K) (tOp rCat (tVar 3) (tLst taB2)) (tTk 0 (tC (.int 12)))) (gName 3)
def tR2 (K : Frag) : TS := tAsg (tOp (rIxL K) (tLst (taB3 K)) (tTk 0 (tC (.int 7)))) (gName 4)
def tAnsE (z : Str) (i : Nat) : TE := tLst (tCons (tC (.str z)) (tCons (tCB rRepr (tCons (tVar i) tNil)) (tCons (tC (.bl true)) tNil)))
def tR3 (K : Frag) : TS := tFor (iList K (tLst (tCons (tVar 1) (tCons (tVar 4) tNil)))) (gName 5) (tIfS (tB (tOp (rEqD not) (tCallZ spAk E0 (tCons (tVar 5) (tCons (tVar 3) tNil))) (tAnsE "listing" 3))) (tRet (tC (.bl false))) tNext)
def tR4 : TS := tRet (tOp (rEqD id) (tCallZ spAk E0 (tCons (tVar 4) (tCons (tVar 2) tNil))) (tAnsE "number" 4))
def tRR (K : Frag) : TS := tSeq (tR0 K) (tSeq (tR1 K) (tSeq (tR2 K) (tSeq (tR3 K) tR4)))
section
variable {P : Program} {w : World} {K : Frag} {mg : Str → Option Value} {base : Heap} {f a1 a2 : Addr} {d1 d2 : FuncData}
abbrev sRR : Stmt := top 52
abbrev NRR : List Str := ["_law_box_here", "_law_ones_here", "_law_counts_here", "_law_bad", "_law_number", "_law_one"]
theorem scRR : FnScope NRR ["_law_box_here", "_law_ones_here", "_law_counts_here"] (defScope sRR) := ⟨rfl, rfl, rfl, by decide +kernel, rfl, by decide +kernel, by decide +kernel⟩
abbrev stRR (i : Nat) : Stmt := (defBody sRR).getD i s0
section
variable {cdv : Value} {A : Around} {outer : List Env} {s : Shared} {H : Hp} {E : XK}
theorem rr_0 (ml : mg "list" = none) : Bx (PS (cxOf CX0 P w K mg base NRR "_law_refused_right" (defScope sRR) f cdv A outer s H E).nox (stRR 0) (tR0 K)) :=
  bx_set (i := 3) scRR.nd rfl (Or.inl rfl) (bx_lst (bxa_cons ⟨pe_non⟩ (bxa_cons ⟨pe_callTy call_list_of rfl ml PyProof.Rows.boot_list (pa_cons (pv 2) pa_nil)⟩ (bxa_cons ⟨pe_slice sl_tup (pv 2) po_none (po_some pe_int)⟩ (bxa_cons ⟨pe_op op_catT (pv 2) (pe_tup (pa_cons pe_int pa_nil))⟩
    (bxa_cons ⟨pe_op op_catT (pe_tup (pa_cons (pe_un un_neg pe_int) pa_nil)) (pe_slice sl_tup (pv 2) (po_some pe_int) po_none)⟩ (bxa_cons ⟨pe_op op_catT (pe_tup (pa_cons pe_bl pa_nil)) (pe_slice sl_tup (pv 2) (po_some pe_int) po_none)⟩ (bxa_cons ⟨pe_tup (pa_cons pe_int (pa_cons pe_int (pa_cons pe_int (pa_cons pe_int pa_nil))))⟩ bxa_nil))))))))
theorem rr_1 (A1 : Df P w K mg base CX0 1 "_law_take" ["_law_box_here", "_law_many"] spTake a1 d1) (hr : Room 1 (A.deeper (PyProof.Rows.envOfC "_law_refused_right" (defScope sRR) s.heap.objs.size f cdv))) : Bx (PS (cxOf CX0 P w K mg base NRR "_law_refused_right" (defScope sRR) f cdv A outer s H E).nox (stRR 1) (tR1 K)) :=
  bx_set (i := 3) scRR.nd rfl (Or.inl rfl) (bx_ix ix_list (bx_op op_cat ⟨pv 3⟩ (bx_lst (bxa_cons ⟨pe_tup (pa_cons pe_int (pa_cons pe_int (pa_cons pe_int (pa_cons pe_int pa_nil))))⟩ (bxa_cons ⟨pe_tup (pa_cons pe_int (pa_cons pe_int (pa_cons pe_int (pa_cons pe_int pa_nil))))⟩ (bxa_cons ⟨pe_str⟩ (bxa_cons ⟨pe_int⟩ (bxa_cons ⟨pe_tup (pa_cons pe_non (pa_cons pe_int (pa_cons pe_int (pa_cons pe_int pa_nil))))⟩ bxa_nil)))))))
    ⟨pe_call A1.G hr rfl A1.m A1.kp A1.b .nil pass0 (pa_cons (pv 0) (pa_cons pe_int pa_nil))⟩ (fun _ _ => rfl))
theorem rr_2 (A1 : Df P w K mg base CX0 1 "_law_take" ["_law_box_here", "_law_many"] spTake a1 d1) (ms : mg "sum" = none) (hr : Room 1 (A.deeper (PyProof.Rows.envOfC "_law_refused_right" (defScope sRR) s.heap.objs.size f cdv))) : Bx (PS (cxOf CX0 P w K mg base NRR "_law_refused_right" (defScope sRR) f cdv A outer s H E).nox (stRR 2) (tR2 K)) :=
  bx_set (i := 4) scRR.nd rfl (Or.inl rfl) (bx_ix ix_list (bx_lst (bxa_cons ⟨pe_un un_neg pe_int⟩ (bxa_cons ⟨pe_op op_add (pe_callB (call_sumT rfl) rfl ms PyProof.Rows.boot_sum (pa_cons (pv 2) pa_nil)) pe_int⟩ (bxa_cons ⟨pe_non⟩ (bxa_cons ⟨pe_bl⟩ (bxa_cons ⟨pe_str⟩ (bxa_cons ⟨pe_lst (pa_cons (pv 1) pa_nil)⟩ (bxa_cons ⟨pe_op op_pow pe_int pe_int⟩ bxa_nil))))))))
    ⟨pe_call A1.G hr rfl A1.m A1.kp A1.b .nil pass0 (pa_cons (pv 0) (pa_cons pe_int pa_nil))⟩ (fun _ _ => rfl))
theorem rr_3 (hz : H sysModules = none) (A2 : Df P w K mg base CX0 7 "_law_asked" ["_law_ones_here", "_law_counts_here"] spAk a2 d2) (mp : mg "repr" = none) (hr : Room 7 (A.deeper (PyProof.Rows.envOfC "_law_refused_right" (defScope sRR) s.heap.objs.size f cdv))) : Bx (PS (cxOf CX0 P w K mg base NRR "_law_refused_right" (defScope sRR) f cdv A outer s H E).nox (stRR 3) (tR3 K)) :=
  bx_forL PassesOwn.never rfl (bx_piL ⟨pe_lst (pa_cons (pv 1) (pa_cons (pv 4) pa_nil))⟩) (pg_name (i := 5) scRR.nd rfl (Or.inl rfl))
    (bxs_one ⟨ps_if (pt_cmpR (op_neD hr.units) (pe_callZ hz A2.G hr rfl A2.m A2.kp A2.b pass0 (pa_cons (pv 5) (pa_cons (pv 3) pa_nil))) (pe_lst (pa_cons pe_str (pa_cons (pe_callB (call_repr hz hr.gd hr.units) rfl mp PyProof.Rows.boot_repr (pa_cons (pv 3) pa_nil)) (pa_cons pe_bl pa_nil)))) (nomark _)) (pss_one (ps_ret pe_bl)) pss_nil⟩)
theorem rr_4 (hz : H sysModules = none) (A2 : Df P w K mg base CX0 7 "_law_asked" ["_law_ones_here", "_law_counts_here"] spAk a2 d2) (mp : mg "repr" = none) (hr : Room 7 (A.deeper (PyProof.Rows.envOfC "_law_refused_right" (defScope sRR) s.heap.objs.size f cdv))) : Bx (PS (cxOf CX0 P w K mg base NRR "_law_refused_right" (defScope sRR) f cdv A outer s H E).nox (stRR 4) tR4) :=
  ⟨ps_ret (pe_cmpR (op_eqD hr.units) (pe_callZ hz A2.G hr rfl A2.m A2.kp A2.b pass0 (pa_cons (pv 4) (pa_cons (pv 2) pa_nil))) (pe_lst (pa_cons pe_str (pa_cons (pe_callB (call_repr hz hr.gd hr.units) rfl mp PyProof.Rows.boot_repr (pa_cons (pv 4) pa_nil)) (pa_cons pe_bl pa_nil)))) (nomark _))⟩
theorem rr_der (hz : H sysModules = none) (A1 : Df P w K mg base CX0 1 "_law_take" ["_law_box_here", "_law_many"] spTake a1 d1) (A2 : Df P w K mg base CX0 7 "_law_asked" ["_law_ones_here", "_law_counts_here"] spAk a2 d2) (ml : mg "list" = none) (ms : mg "sum" = none) (mp : mg "repr" = none) (hr : Room 7 (A.deeper (PyProof.Rows.envOfC "_law_refused_right" (defScope sRR) s.heap.objs.size f cdv))) :
    Bx (PSs (cxOf CX0 P w K mg base NRR "_law_refused_right" (defScope sRR) f cdv A outer s H E).nox (defBody sRR) (tRR K)) := by
  have hr1 : Room 1 _ := hr.mono (by decide)
  exact bxs_cons (rr_0 ml) (bxs_cons (rr_1 A1 hr1) (bxs_cons (rr_2 A1 ms hr1) (bxs_cons (rr_3 hz A2 mp hr) (bxs_one (rr_4 hz A2 mp hr)))))
end
end
end My
set_option Elab.async false
set_option linter.all false
set_option maxRecDepth 100000
set_option maxHeartbeats 2000000
set_option exponentiation.threshold 10000
namespace My
open PySem PySem.W L2
abbrev dI (n : Nat) : PyData := .int ((n : Nat) : Int)
def bads1 (a b c d : Nat) : List PyData := [.none, .list [dI a, dI b, dI c, dI d], .tuple [dI a, dI b, dI c], .tuple [dI a, dI b, dI c, dI d, .int 0], .tuple [.int (-1), dI b, dI c, dI d], .tuple [.bool true, dI b, dI c, dI d], .tuple [.int 0, .int 0, .int 0, .int 0]]
def bads2 : List PyData := [.tuple [.int 21, .int 0, .int 0, .int 0], .tuple [.int 7, .int 7, .int 7, .int 0], .str "1234", .int 5, .tuple [.none, .int 1, .int 1, .int 1]]
def numsB (n : Nat) (O : Int) : List PyData := [.int (-1), .int ((n : Int) + 1), .none, .bool true, .str "1", .list [.int O], .int (10 ^ 29)]
theorem fi_nat {n : Nat} (h : n ≤ 20) : Fi 0 2 (dI n) := fi_small (by omega) (by omega)
theorem fi_in {k n : Nat} {ds : List PyData} (h : ∀ d ∈ ds, Fi 0 2 d) (l : ds.length ≤ 5) : Fi 2 60 (.tuple ds) ∧ Fi 2 60 (.list ds) := ⟨(fi_tuple h l).mono (by decide) (by decide), (fi_list h l).mono (by decide) (by decide)⟩
theorem bads_ok {a b c d : Nat} (ha : a ≤ 20) (hb : b ≤ 20) (hc : c ≤ 20) (hd : d ≤ 20) : ∀ e ∈ bads1 a b c d ++ bads2, cntsD e = false ∧ Fi 2 60 e := by
  have fa := fi_nat ha
  have fb := fi_nat hb
  have fc := fi_nat hc
  have fd := fi_nat hd
  have f0 : Fi 0 2 (.int 0) := fi_small (by decide) (by decide)
  have f1 : Fi 0 2 (.int 1) := fi_small (by decide) (by decide)
  have f7 : Fi 0 2 (.int 7) := fi_small (by decide) (by decide)
  have f21 : Fi 0 2 (.int 21) := fi_small (by decide) (by decide)
  have fm : Fi 0 2 (.int (-1)) := fi_small (by decide) (by decide)
  have all : ∀ {ds : List PyData}, (∀ d ∈ ds, Fi 0 2 d) → ds.length ≤ 5 → Fi 2 60 (.tuple ds) := fun h l => (fi_in (k := 0) (n := 0) h l).1
  intro e he
  simp only [bads1, bads2, List.cons_append, List.nil_append, List.mem_cons, List.not_mem_nil, or_false] at he
  rcases he with rfl | rfl | rfl | rfl | rfl | rfl | rfl | rfl | rfl | rfl | rfl | rfl
  · exact ⟨rfl, fi_none.mono (by decide) (by decide)⟩
  · exact ⟨rfl, (fi_in (k := 0) (n := 0) (by simp only [List.mem_cons, List.not_mem_nil, or_false]; rintro x (rfl | rfl | rfl | rfl) <;> assumption) (by simp)).2⟩
  · exact ⟨rfl, all (by simp only [List.mem_cons, List.not_mem_nil, or_false]; rintro x (rfl | rfl | rfl) <;> assumption) (by simp)⟩
  · exact ⟨rfl, all (by simp only [List.mem_cons, List.not_mem_nil, or_false]; rintro x (rfl | rfl | rfl | rfl | rfl) <;> assumption) (by simp)⟩
  · exact ⟨rfl, all (by simp only [List.mem_cons, List.not_mem_nil, or_false]; rintro x (rfl | rfl | rfl | rfl) <;> assumption) (by simp)⟩
  · exact ⟨rfl, all (by simp only [List.mem_cons, List.not_mem_nil, or_false]; rintro x (rfl | rfl | rfl | rfl) <;> first | assumption | exact fi_bool) (by simp)⟩
  · exact ⟨rfl, all (by simp only [List.mem_cons, List.not_mem_nil, or_false]; rintro x (rfl | rfl | rfl | rfl) <;> assumption) (by simp)⟩
  · exact ⟨rfl, all (by simp only [List.mem_cons, List.not_mem_nil, or_false]; rintro x (rfl | rfl | rfl | rfl) <;> assumption) (by simp)⟩
  · exact ⟨rfl, all (by simp only [List.mem_cons, List.not_mem_nil, or_false]; rintro x (rfl | rfl | rfl | rfl) <;> assumption) (by simp)⟩
  · exact ⟨rfl, ⟨rfl, by simp [PyData.depth], by decide +kernel, by decide +kernel⟩⟩
  · exact ⟨rfl, (fi_small (by decide) (by decide)).mono (by decide) (by decide)⟩
  · exact ⟨rfl, all (by simp only [List.mem_cons, List.not_mem_nil, or_false]; rintro x (rfl | rfl | rfl | rfl) <;> first | assumption | exact fi_none) (by simp)⟩
theorem nums_ok {n : Nat} {O : Int} (h1 : n ≤ 20) (h2 : 0 ≤ O) (h3 : O ≤ 20) : ∀ e ∈ numsB n O, inD 0 ((n : Nat) : Int) e = false ∧ Fi 2 60 e := by
  have fO : Fi 0 2 (.int O) := fi_small (by omega) (by omega)
  intro e he
  simp only [numsB, List.mem_cons, List.not_mem_nil, or_false] at he
  rcases he with rfl | rfl | rfl | rfl | rfl | rfl | rfl
  · exact ⟨rfl, (fi_small (by decide) (by decide)).mono (by decide) (by decide)⟩
  · refine ⟨?_, (fi_small (by omega) (by omega)).mono (by decide) (by decide)⟩
    show (decide ((0 : Int) ≤ (n : Int) + 1) && decide ((n : Int) + 1 ≤ ((n : Nat) : Int))) = false
    rw [decide_eq_false (show ¬ ((n : Int) + 1 ≤ ((n : Nat) : Int)) by omega), Bool.and_false]
  · exact ⟨rfl, fi_none.mono (by decide) (by decide)⟩
  · exact ⟨rfl, fi_bool.mono (by decide) (by decide)⟩
  · exact ⟨rfl, ⟨rfl, by simp [PyData.depth], by decide +kernel, by decide +kernel⟩⟩
  · exact ⟨rfl, (fi_in (k := 0) (n := 0) (by simp only [List.mem_cons, List.not_mem_nil, or_false]; rintro x rfl; assumption) (by simp)).2⟩
  · refine ⟨?_, (fi_int (by decide)).mono (by decide) (by decide)⟩
    show (decide ((0 : Int) ≤ 10 ^ 29) && decide ((10 : Int) ^ 29 ≤ ((n : Nat) : Int))) = false
    rw [decide_eq_false (show ¬ ((10 : Int) ^ 29 ≤ ((n : Nat) : Int)) by omega), Bool.and_false]
section
variable {K : Frag} {G : Hp → Hp} {H0 : Hp} {σ : St} {te : TE} {xs : List V} {ds : List PyData} {p c : Addr} {a b cc d : Nat} {O : Int}
theorem GX.newT (h : ∀ H (Q : VK), Ext H0 H → (∀ p H1, Ext H H1 → H1 p = none → Q (.ref p) (upd H1 p (.tup xs))) → te σ H Q) (r : ∀ G', RdsAll G' xs ds) : GX G H0 σ te (.tuple ds) := fun H Q pt x q => h H Q x fun p H1 x1 hp => q _ _ (x1.trans (Ext.new hp)) (.tup (pt.new x1 hp) (r _))
theorem GX.newL (h : ∀ H (Q : VK), Ext H0 H → (∀ p H1, Ext H H1 → H1 p = none → Q (.ref p) (upd H1 p (.lst xs))) → te σ H Q) (r : ∀ G', RdsAll G' xs ds) : GX G H0 σ te (.list ds) := fun H Q pt x q => h H Q x fun p H1 x1 hp => q _ _ (x1.trans (Ext.new hp)) (.lst (pt.new x1 hp) (r _))
abbrev v4s (a b c d : Nat) : List V := [.int (a : Nat), .int (b : Nat), .int (c : Nat), .int (d : Nat)]
theorem rd_tail (s2 : σ[2]? = some (some (.ref c))) {H : Hp} {Q : VK} (hc : H c = some (.tup (v4s a b cc d))) (q : ∀ p, H p = none → Q (.ref p) (upd H p (.tup [.int (b : Nat), .int (cc : Nat), .int (d : Nat)]))) : tTail K σ H Q :=
  ⟨_, s2, 1, rfl, c, v4s a b cc d, rfl, SqT.of hc, (fun z => by have : (1 : Nat) = 0 := z.1; cases this), q⟩
theorem rd_catT (s2 : σ[2]? = some (some (.ref c))) {H : Hp} {Q : VK} {x : V} {tx : TE} (hx : ∀ H (R : VK), R x H → tx σ H R) (hc : H c = some (.tup (v4s a b cc d))) (q : ∀ p H1, Ext H H1 → H1 p = none → Q (.ref p) (upd H1 p (.tup [x, .int (b : Nat), .int (cc : Nat), .int (d : Nat)]))) : tOp (rCatT K) (tTup (tCons tx tNil)) (tTail K) σ H Q := by
  refine hx H _ ⟨by show 1 ≤ sizeLine; decide, fun t ht => ?_⟩
  have x1 := Ext.new (o := .tup [x]) ht
  refine rd_tail s2 (x1 _ _ hc) fun u hu => ?_
  have x2 := Ext.new (o := .tup [.int (b : Nat), .int (cc : Nat), .int (d : Nat)]) hu
  refine ⟨t, u, _, _, rfl, rfl, SqT.of (x2 _ _ upd_same), SqT.of upd_same, by simp, by show 4 ≤ sizeLine; decide, (fun z => by cases z), fun _ p hp => q p _ (x1.trans x2) hp⟩
theorem gx_b1 (s2 : σ[2]? = some (some (.ref c))) (hc : H0 c = some (.tup (v4s a b cc d))) : GXs G H0 σ (taB1 K) (bads1 a b cc d) := by
  refine .cons .non (.cons ?_ (.cons ?_ (.cons ?_ (.cons ?_ (.cons ?_ (.cons ?_ .nil))))))
  · exact GX.newL (xs := v4s a b cc d) (fun H Q x q => ⟨_, s2, c, _, rfl, .inr (SqT.of (x _ _ hc)), fun l hl => q l H (Ext.refl _) hl⟩) fun G' => .cons (.int _) (.cons (.int _) (.cons (.int _) (.cons (.int _) .nil)))
  · exact GX.newT (xs := [.int (a : Nat), .int (b : Nat), .int (cc : Nat)]) (fun H Q x q => ⟨_, s2, 3, rfl, c, v4s a b cc d, rfl, SqT.of (x _ _ hc), (fun z => by have : (3 : Nat) = 4 := z.2; cases this), fun l hl => q l H (Ext.refl _) hl⟩) fun G' => .cons (.int _) (.cons (.int _) (.cons (.int _) .nil))
  · refine GX.newT (xs := v4s a b cc d ++ [.int 0]) (fun H Q x q => ⟨_, s2, by show 1 ≤ sizeLine; decide, fun t ht => ?_⟩) fun G' => .cons (.int _) (.cons (.int _) (.cons (.int _) (.cons (.int _) (.cons (.int _) .nil))))
    have x1 := Ext.new (o := .tup [.int 0]) ht
    exact ⟨c, t, _, _, rfl, rfl, SqT.of (x1 _ _ (x _ _ hc)), SqT.of upd_same, by simp, by show 5 ≤ sizeLine; decide, (fun z => by cases z), fun _ p hp => q p _ x1 hp⟩
  · exact GX.newT (xs := [.int (-1), .int (b : Nat), .int (cc : Nat), .int (d : Nat)]) (fun H Q x q => rd_catT s2 (fun H R r => ⟨1, rfl, r⟩) (x _ _ hc) q) fun G' => .cons (.int _) (.cons (.int _) (.cons (.int _) (.cons (.int _) .nil)))
  · exact GX.newT (xs := [.bl true, .int (b : Nat), .int (cc : Nat), .int (d : Nat)]) (fun H Q x q => rd_catT s2 (fun H R r => r) (x _ _ hc) q) fun G' => .cons (.bl _) (.cons (.int _) (.cons (.int _) (.cons (.int _) .nil)))
  · exact .tup (.cons (.int _) (.cons (.int _) (.cons (.int _) (.cons (.int _) .nil)))) (by decide)
theorem gx_b2 : GXs G H0 σ taB2 bads2 :=
  .cons (.tup (.cons (.int _) (.cons (.int _) (.cons (.int _) (.cons (.int _) .nil)))) (by decide)) (.cons (.tup (.cons (.int _) (.cons (.int _) (.cons (.int _) (.cons (.int _) .nil)))) (by decide)) (.cons (.str _) (.cons (.int _) (.cons (.tup (.cons .non (.cons (.int _) (.cons (.int _) (.cons (.int _) .nil)))) (by decide)) .nil))))
theorem gx_b3 (s1 : σ[1]? = some (some (.int O))) (s2 : σ[2]? = some (some (.ref c))) (hc : H0 c = some (.tup (v4s a b cc d))) : GXs G H0 σ (taB3 K) (numsB (a + b + cc + d) O) := by
  refine .cons (fun H Q _ _ q => ⟨1, rfl, q _ H (Ext.refl _) (.int _)⟩) (.cons ?_ (.cons .non (.cons (.bl _) (.cons (.str _) (.cons ?_ (.cons ?_ .nil))))))
  · intro H Q pt x q
    have es : ([((a : Nat) : Int), ((b : Nat) : Int), ((cc : Nat) : Int), ((d : Nat) : Int)] : List Int).sum = ((a + b + cc + d : Nat) : Int) := by simp; omega
    refine ⟨_, s2, c, [((a : Nat) : Int), ((b : Nat) : Int), ((cc : Nat) : Int), ((d : Nat) : Int)], rfl, SqT.of (x _ _ hc), _, _, rfl, rfl, ?_⟩
    rw [es]
    exact q _ H (Ext.refl _) (.int _)
  · exact GX.newL (xs := [.int O]) (fun H Q x q => ⟨_, s1, by show 1 ≤ sizeLine; decide, fun l hl => q l H (Ext.refl _) hl⟩) fun G' => .cons (.int _) .nil
  · exact fun H Q pt x q => ⟨_, _, rfl, rfl, ⟨by decide, by decide, by decide⟩, q _ H (Ext.refl _) (.int _)⟩
end
section
variable {P : Program} {w : World} {K : Frag} {mg : Str → Option Value} {base : Heap} {H : Hp} {p c : Addr} {a b cc d : Nat} {O : Int} {De : Ends} {o3 o4 o5 : Option V}
theorem BoxC.pt (bx : BoxC H p) : Pt (fun H => wo H p) H := by
  obtain ⟨u, hu⟩ := bx.some
  exact pt_wo hu
theorem boxc_neT {t : Addr} {xs : List V} (bx : BoxC H p) (h : H t = some (.tup xs)) : t ≠ p := fun e => by
  subst e
  obtain ⟨_, _, _, hp, _⟩ := bx
  rw [h] at hp
  cases hp
theorem rd_r01 {u : TS} (bx : BoxC H p) (hc : H c = some (.tup (v4s a b cc d))) (l : a ≤ 20 ∧ b ≤ 20 ∧ cc ≤ 20 ∧ d ≤ 20)
    (q : ∀ v e H', BoxC H' p → Kept H H' p → Rds (wo H' p) v e → cntsD e = false → Fi 2 60 e → u De [some (.ref p), some (.int O), some (.ref c), some v, o4, o5] H') : tSeq (tR0 K) (tSeq (tR1 K) u) De [some (.ref p), some (.int O), some (.ref c), o3, o4, o5] H := by
  refine rd_set ?_
  refine GXs.use (gx_b1 (K := K) (σ := [some (.ref p), some (.int O), some (.ref c), o3, o4, o5]) rfl hc) bx.pt (by show 7 ≤ 1000; decide) fun l1 vs H1 x1 a0 hg ha rs => ?_
  have bx1 := bx.ext x1
  refine rd_set (rd_op (rd_op ⟨_, rfl, ?_⟩))
  refine GXs.use gx_b2 bx1.pt (by decide) fun l2 us H2 x2 b0 hg2 hb rs2 => ?_
  have ha2 := x2 _ _ ha
  have rs1 : RdsAll (wo H2 p) vs (bads1 a b cc d) := RdsAll.mono (wo_ex x2 p) rs
  have rA := rs1.append rs2
  have lA : (vs ++ us).length = 12 := rA.length
  refine ⟨l1, l2, vs, us, rfl, rfl, ha2, hb, by rw [List.length_append] at lA; rw [lA, sizeLine_eq]; omega, fun l3 hl3 => ?_⟩
  have x3 := Ext.new (o := .lst (vs ++ us)) hl3
  have bx3 := (bx1.ext x2).ext x3
  refine rd_take (i := 0) rfl bx3 (fun R r => r) (by decide) (by decide) fun r H4 r0 r12 bx4 k4 => ?_
  have hi : r.toNat < (vs ++ us).length := by omega
  have n3 : l3 ≠ p := fun z => by
    obtain ⟨u, hu⟩ := (bx1.ext x2).some
    rw [z, hu] at hl3
    cases hl3
  obtain ⟨e, ee, re⟩ := rA.get (List.getElem?_eq_getElem hi)
  obtain ⟨c1, c2⟩ := bads_ok l.1 l.2.1 l.2.2.1 l.2.2.2 e (List.mem_of_getElem? ee)
  refine ⟨l3, _, _, _, rfl, rfl, SqL.of (k4 _ _ upd_same n3), at_to r0 hi, ?_⟩
  exact q _ e H4 bx4 (((x1.trans (x2.trans x3)).kept p).trans k4) ((re.mono (wo_ex x3 p)).mono (wo_kept k4)) c1 c2
theorem rd_r2 {u : TS} {v3 : Option V} (bx : BoxC H p) (hc : H c = some (.tup (v4s a b cc d))) (l : a + b + cc + d ≤ 20) (h2 : 0 ≤ O) (h3 : O ≤ 20)
    (q : ∀ v e H', BoxC H' p → Kept H H' p → Rds (wo H' p) v e → inD 0 ((a + b + cc + d : Nat) : Int) e = false → Fi 2 60 e → u De [some (.ref p), some (.int O), some (.ref c), v3, some v, o5] H') : tSeq (tR2 K) u De [some (.ref p), some (.int O), some (.ref c), v3, o4, o5] H := by
  refine rd_set (rd_op ?_)
  refine GXs.use (gx_b3 (K := K) (O := O) (σ := [some (.ref p), some (.int O), some (.ref c), v3, o4, o5]) rfl rfl hc) bx.pt (by show 7 ≤ 1000; decide) fun l1 vs H1 x1 a0 hg ha rs => ?_
  have bx1 := bx.ext x1
  have lA : vs.length = 7 := rs.length
  refine rd_take (i := 0) rfl bx1 (fun R r => r) (by decide) (by decide) fun r H4 r0 r7 bx4 k4 => ?_
  have hi : r.toNat < vs.length := by omega
  obtain ⟨e, ee, re⟩ := rs.get (List.getElem?_eq_getElem hi)
  obtain ⟨c1, c2⟩ := nums_ok l h2 h3 e (List.mem_of_getElem? ee)
  refine ⟨l1, _, _, _, rfl, rfl, SqL.of (k4 _ _ ha (wo_ne hg)), at_to r0 hi, ?_⟩
  exact q _ e H4 bx4 ((x1.kept p).trans k4) (re.mono (wo_kept k4)) c1 c2
def ansD (z : Str × PyData) : PyData := .list [.str z.1, .str z.2.shown, .bool true]
theorem ans_rds {l : Addr} {z : Str × PyData} (h : Ans H l z) : Rds H (.ref l) (ansD z) := .lst h (.cons (.str _) (.cons (.str _) (.cons (.bl _) .nil)))
theorem ans_pl (z : Str × PyData) : plainD (ansD z) = true := rfl
theorem ans_dp (z : Str × PyData) : (ansD z).depth ≤ 20 := by simp [ansD, PyData.depth, PyData.depthAll]
theorem rd_ansE {Q : VK} {z : Str} {i : Nat} {v : V} {e : PyData} {σ : St} (si : σ[i]? = some (some v)) (rv : Rds H v e) (sw : Show e) (q : ∀ l H', Ext H H' → Ans H' l (z, e) → Q (.ref l) H') : tAnsE z i σ H Q :=
  ⟨_, si, v, e, rfl, rv, sw, by show 3 ≤ sizeLine; decide, fun l hl => q l _ (Ext.new hl) upd_same⟩
theorem rd_two {Q : VK} {g : Bool → Bool} {z : Str} {i j k : Nat} {x y v : V} {dx dy e : PyData} {σ : St} (si : σ[i]? = some (some x)) (sj : σ[j]? = some (some y)) (sk : σ[k]? = some (some v)) (rx : Rds H x dx) (ry : Rds H y dy) (rv : Rds H v e) (ref : RefD dx dy (z, e)) (sw : Show e)
    (q : ∀ H', Ext H H' → Q (.bl (g true)) H') : tOp (rEqD g) (tCallZ spAk E0 (tCons (tVar i) (tCons (tVar j) tNil))) (tAnsE z k) σ H Q := by
  refine ⟨_, si, _, sj, fun hz => ⟨x, y, dx, dy, (z, e), rfl, hz, rx, ry, ref, sw, fun l H1 hl x1 an => ?_⟩⟩
  refine rd_ansE sk (rv.mono x1) sw fun l2 H2 x2 an2 => ?_
  refine ⟨ansD (z, e), ansD (z, e), ans_rds (x2 _ _ an), ans_rds an2, ans_pl _, ans_pl _, ans_dp _, ?_⟩
  rw [eqD_refl (ans_pl _)]
  exact q H2 (x1.trans x2)
def spRR : Sp := fun vs H Q _ => ∃ (p c : Addr) (O : Int) (a b cc d : Nat), vs = [.ref p, .int O, .ref c] ∧ H sysModules = none ∧ BoxC H p ∧ H c = some (.tup (v4s a b cc d)) ∧ 1 ≤ a + b + cc + d ∧ a + b + cc + d ≤ 20 ∧ 0 ≤ O ∧ O ≤ (a + b + cc + d : Nat) ∧ ∀ H', Kept H H' p → BoxC H' p → Q (.bl true) H'
theorem ok_rr {f a1 a2 : Addr} {fd d1 d2 : FuncData} (F : Fun K "_law_refused_right" "_law_refused_right" sRR f fd) (A1 : Df P w K mg base CX0 1 "_law_take" ["_law_box_here", "_law_many"] spTake a1 d1) (A2 : Df P w K mg base CX0 7 "_law_asked" ["_law_ones_here", "_law_counts_here"] spAk a2 d2) (ml : mg "list" = none) (ms : mg "sum" = none) (mp : mg "repr" = none) : FnOk P w K mg base CX0 8 f fd ["_law_box_here", "_law_ones_here", "_law_counts_here"] spRR := by
  refine F.ok scRR (fun vs H Q E h => ?_) (fun cdv A outer s H vs Q E hr h => ?_)
  · obtain ⟨p, c, O, a, b, cc, d, rfl, _⟩ := h
    rfl
  obtain ⟨p, c, O, a, b, cc, d, rfl, hz, bx, hc, n1, n20, o1, o2, q⟩ := h
  refine okBxL (rr_der hz A1 A2 ml ms mp hr) ⟨?_⟩
  refine rd_r01 bx hc ⟨by omega, by omega, by omega, by omega⟩ fun vb eb H1 bx1 k1 rb cb fb => ?_
  have hc1 := k1 _ _ hc (boxc_neT bx hc)
  refine rd_r2 bx1 hc1 n20 o1 (by omega) fun vn en H2 bx2 k2 rn cn fn => ?_
  have hc2 := k2 _ _ hc1 (boxc_neT bx1 hc1)
  have rb2 : Rds H2 vb eb := (rb.mono (wo_kept k2)).mono (wo_ext _ _)
  have rn2 : Rds H2 vn en := rn.mono (wo_ext _ _)
  refine ⟨_, rfl, _, rfl, by show 2 ≤ sizeLine; decide, fun l hl => ?_⟩
  have x3 := Ext.new (o := .lst [.int O, vn]) hl
  have hl3 : upd H2 l (.lst [.int O, vn]) l = some (.lst [.int O, vn]) := upd_same
  refine ⟨l, rfl, ⟨_, SqL.of hl3⟩, for_list (xs := [.int O, vn]) (fun i σ H' => Ext (upd H2 l (.lst [.int O, vn])) H' ∧ ∃ o5, σ = [some (.ref p), some (.int O), some (.ref c), some vb, some vn, o5]) ⟨Ext.refl _, _, rfl⟩ ?_ ?_ ?_⟩
  · rintro i σ H' _ ⟨x', _⟩
    exact SqL.of (x' _ _ hl3)
  · rintro i x σ H' ex ⟨x', o5, rfl⟩
    have xx := x3.trans x'
    have rx : ∃ dx, Rds H' x dx := by
      match i, ex with
      | 0, ex => cases ex; exact ⟨_, .int O⟩
      | 1, ex => cases ex; exact ⟨_, rn2.mono xx⟩
    obtain ⟨dx, rx⟩ := rx
    refine rd_two (g := not) (z := "listing") (σ := [some (.ref p), some (.int O), some (.ref c), some vb, some vn, some x]) (i := 5) (j := 3) (k := 3) rfl rfl rfl rx (rb2.mono xx) (rb2.mono xx) (.inl ⟨cb, rfl⟩) (fb.show (by decide) (by decide)) fun H4 x4 => ⟨_, rfl, itF ⟨x'.trans x4, _, rfl⟩⟩
  · rintro σ H' ⟨x', o5, rfl⟩
    have xx := x3.trans x'
    refine rd_two (g := id) (z := "number") (σ := [some (.ref p), some (.int O), some (.ref c), some vb, some vn, o5]) (i := 4) (j := 2) (k := 4) rfl rfl rfl (rn2.mono xx) (.tup (xx _ _ hc2) (.cons (.int _) (.cons (.int _) (.cons (.int _) (.cons (.int _) .nil))))) (rn2.mono xx) (.inr ⟨a, b, cc, d, rfl, cnts_of n1 n20, cn, rfl⟩) (fn.show (by decide) (by decide)) fun H4 x4 => ?_
    exact q H4 (k1.trans (k2.trans ((xx.trans x4).kept p))) (bx2.ext (xx.trans x4))
end
end My
set_option Elab.async false
set_option linter.all false
set_option maxRecDepth 100000
set_option maxHeartbeats 2000000
set_option exponentiation.threshold 10000
namespace My
open PySem PySem.W L2
abbrev rInt1 : List V → Hp → VK → Prop := fun xs H Q => (∃ i, xs = [.int i] ∧ Q (.int i) H) ∨ ∃ k, xs = [.bl k] ∧ Q (.int (if k then 1 else 0)) H
def tG0 (K : Frag) : TS := tAsg (tOp (rIxL K) (tLst (tCons (tOp oAdd (tC (.int 1)) (tTk 0 (tC (.int 7)))) (tCons (tOp oAdd (tC (.int 1)) (tTk 0 (tC (.int 20)))) tNil))) (tCB rInt1 (tCons (tOp rEq (tTk 0 (tC (.int 4))) (tC (.int 0))) tNil))) (gName 1)
def tG1 : TS := tAsg (tCall spLi [] E0 (tCons (tVar 0) (tCons (tVar 1) tNil))) (gName 2)
def tG2 : TS := tAsg (tCall spCn [] E0 (tCons (tVar 2) tNil)) (gName 3)
def tG3 (K : Frag) : TS := tAsg (tOp (rIxL K) (tLst (tCons (tTk 0 (tOp oAdd (tVar 1) (tC (.int 1)))) (tCons (tC (.int 0)) (tCons (tVar 1) (tCons (tOp (rI CDiv fun i j => .int (i / j)) (tVar 1) (tC (.int 2))) tNil))))) (tTk 0 (tC (.int 4)))) (gName 4)
def tG4 : TS := tAsg (tCall spTb [] E0 (tCons (tVar 2) (tCons (tVar 4) tNil))) (gName 5)
def tG5 (CL : Addr) : TS := tIfS (tB (tOp (rEqD not) (tCall (spLC CL) [] E0 (tCons (tVar 2) tNil)) (tVar 3))) (tRet (tC (.bl false))) tNext
def tG6c (K : Frag) : TE := tLCG (iList K (tVar 6)) 1 [6] (gName 0) (tTup (tCons (tVar 0) (tCons (tBM K "list" (rCount K) (tVar 1) (tCons (tVar 0) tNil)) tNil)))
def tG6a (K : Frag) : TS := tAsg (tCall spVs [] E0 (tCons (tRev K (tVar 2)) (tCons (tCall spDl [] E0 (tCons (tVar 1) (tCons (tVar 4) tNil))) tNil))) (gName 6)
def tG6b (K : Frag) : TS := tIfS (tB (tOp rNeDD (tCB rDictP (tCons (tG6c K) tNil)) (tVar 5))) (tRet (tC (.bl false))) tNext
def tG6 (K : Frag) : TS := tIfS (tB (tOp (rI0 fun i j => .bl (decide (i < j))) (tVar 1) (tC (.int 8)))) (tSeq (tG6a K) (tG6b K)) tNext
def tG7b (K : Frag) (CL CN : Addr) : TS := tSeq (tAsg (tCall (spCS CL CN) [] E0 (tCons (tVar 4) (tCons (tVar 3) tNil))) (gName 8)) (tSeq (tIfS (tNot (tB (tCallT (spSR K) E0 (tCons (tVar 8) (tCons (tVar 5) tNil))))) (tRet (tC (.bl false))) tNext) (tDrop (tBM0 K "dict" rDClear (tVar 8))))
def tG7 (K : Frag) (CL CN : Addr) : TS := tFor (iRng1 (tCons (tC (.int 2)) tNil)) (gName 7) (tG7b K CL CN)
def tG8 : TS := tRet (tCallZ spRR E0 (tCons (tVar 0) (tCons (tVar 4) (tCons (tVar 3) tNil))))
def tRg (K : Frag) (CL CN : Addr) : TS := tSeq (tG0 K) (tSeq tG1 (tSeq tG2 (tSeq (tG3 K) (tSeq tG4 (tSeq (tG5 CL) (tSeq (tG6 K) (tSeq (tG7 K CL CN) tG8)))))))
section
variable {P : Program} {w : World} {K : Frag} {mg : Str → Option Value} {base : Heap} {CL CN : Addr}
abbrev sRg : Stmt := top 53
abbrev NRg : List Str := ["_law_box_here", "_law_folk", "_law_listing_here", "_law_counts_here", "_law_ones_here", "_law_due", "_law_values_here", "_law_turn", "_law_found"]
theorem scRg : FnScope NRg ["_law_box_here"] (defScope sRg) := ⟨rfl, rfl, rfl, by decide +kernel, rfl, by decide +kernel, by decide +kernel⟩
abbrev scRgc : Scope := { kind := .function, names := [(".0", .local), ("_law_value", .local), ("_law_values_here", .free)], isGenerator := false, isCoroutine := false }
theorem ndRg : ((["_law_value"] : List Str) ++ (["_law_values_here"] : List Str)).Nodup := by decide +kernel
abbrev stRg (i : Nat) : Stmt := (defBody sRg).getD i s0
structure LawB (P : Program) (w : World) (K : Frag) (mg : Str → Option Value) (base : Heap) (CL CN : Addr) (a1 a2 a3 a4 a5 a6 a7 a8 a9 a10 : Addr) (d1 d2 d3 d4 d5 d6 d7 d8 d9 d10 : FuncData) : Prop where
  tk : Df P w K mg base CX0 1 "_law_take" ["_law_box_here", "_law_many"] spTake a1 d1
  li : Df P w K mg base CX0 2 "_law_listing" ["_law_box_here", "_law_folk"] spLi a2 d2
  cn : Df P w K mg base CX0 1 "_law_counts" ["_law_listing_here"] spCn a3 d3
  tb : Df P w K mg base CX0 1 "_law_table" ["_law_listing_here", "_law_ones_here"] spTb a4 d4
  lc : Df P w K mg base (CXE P w) 6 "listing_counts" ["listing"] (spLC CL) a5 d5
  vs : Df P w K mg base CX0 3 "_law_values" ["_law_listing_here", "_law_dealings_here"] spVs a6 d6
  dl : Df P w K mg base CX0 2 "_law_dealings" ["_law_folk", "_law_ones_here"] spDl a7 d7
  cs : Df P w K mg base (CXE P w) 6 "counts_spread" ["ones", "counts"] (spCS CL CN) a8 d8
  sr : Df P w K mg base CX0 3 "_law_spread_right" ["_law_found", "_law_due"] (spSR K) a9 d9
  rr : Df P w K mg base CX0 8 "_law_refused_right" ["_law_box_here", "_law_ones_here", "_law_counts_here"] spRR a10 d10
  mi : mg "int" = none
  md : mg "dict" = none
  mr : mg "range" = none
variable {f a1 a2 a3 a4 a5 a6 a7 a8 a9 a10 : Addr} {d1 d2 d3 d4 d5 d6 d7 d8 d9 d10 : FuncData}
section
variable {cdv : Value} {A : Around} {outer : List Env} {s : Shared} {H : Hp} {E : XK} (L : LawB P w K mg base CL CN a1 a2 a3 a4 a5 a6 a7 a8 a9 a10 d1 d2 d3 d4 d5 d6 d7 d8 d9 d10) (hr : Room 8 (A.deeper (PyProof.Rows.envOfC "_law_right" (defScope sRg) s.heap.objs.size f cdv)))
theorem compRg : CompG (cxOf CX0 P w K mg base NRg "_law_right" (defScope sRg) f cdv A outer s H E).nox scRgc [("_law_values_here", s.heap.objs.size + 1)] ["_law_value"] ["_law_values_here"] [6] :=
  compGn (M := ["_law_values_here"]) (L := [(".0", .local), ("_law_value", .local), ("_law_values_here", .cell)]) rfl rfl (by decide +kernel) (by decide +kernel) (by decide +kernel) rfl rfl rfl (by decide +kernel) (by decide +kernel) rfl rfl rfl
include L hr
theorem rg_0 : Bx (PS (cxOf CX0 P w K mg base NRg "_law_right" (defScope sRg) f cdv A outer s H E).nox (stRg 0) (tG0 K)) := by
  have hr1 : Room 1 _ := hr.mono (by decide)
  exact bx_set (i := 1) scRg.nd rfl (Or.inl rfl) (bx_ix ix_list (bx_lst (bxa_cons ⟨pe_op op_add pe_int (pe_call L.tk.G hr1 rfl L.tk.m L.tk.kp L.tk.b .nil pass0 (pa_cons (pv 0) (pa_cons pe_int pa_nil)))⟩ (bxa_cons ⟨pe_op op_add pe_int (pe_call L.tk.G hr1 rfl L.tk.m L.tk.kp L.tk.b .nil pass0 (pa_cons (pv 0) (pa_cons pe_int pa_nil)))⟩ bxa_nil))) ⟨pe_callTy call_int1 rfl L.mi PyProof.Rows.boot_int (pa_cons (pe_cmpR op_eq (pe_call L.tk.G hr1 rfl L.tk.m L.tk.kp L.tk.b .nil pass0 (pa_cons (pv 0) (pa_cons pe_int pa_nil))) pe_int (nomark _)) pa_nil)⟩ (fun _ _ => rfl))
theorem rg_1 : Bx (PS (cxOf CX0 P w K mg base NRg "_law_right" (defScope sRg) f cdv A outer s H E).nox (stRg 1) tG1) :=
  ⟨ps_set (i := 2) scRg.nd rfl (Or.inl rfl) (pe_call L.li.G (hr.mono (by decide)) rfl L.li.m L.li.kp L.li.b .nil pass0 (pa_cons (pv 0) (pa_cons (pv 1) pa_nil)))⟩
theorem rg_2 : Bx (PS (cxOf CX0 P w K mg base NRg "_law_right" (defScope sRg) f cdv A outer s H E).nox (stRg 2) tG2) :=
  ⟨ps_set (i := 3) scRg.nd rfl (Or.inl rfl) (pe_call L.cn.G (hr.mono (by decide)) rfl L.cn.m L.cn.kp L.cn.b .nil pass0 (pa_cons (pv 2) pa_nil))⟩
theorem rg_3 : Bx (PS (cxOf CX0 P w K mg base NRg "_law_right" (defScope sRg) f cdv A outer s H E).nox (stRg 3) (tG3 K)) := by
  have hr1 : Room 1 _ := hr.mono (by decide)
  exact bx_set (i := 4) scRg.nd rfl (Or.inl rfl) (bx_ix ix_list (bx_lst (bxa_cons ⟨pe_call L.tk.G hr1 rfl L.tk.m L.tk.kp L.tk.b .nil pass0 (pa_cons (pv 0) (pa_cons (pe_op op_add (pv 1) pe_int) pa_nil))⟩ (bxa_cons ⟨pe_int⟩ (bxa_cons ⟨pv 1⟩ (bxa_cons ⟨pe_op op_fdiv (pv 1) pe_int⟩ bxa_nil))))) ⟨pe_call L.tk.G hr1 rfl L.tk.m L.tk.kp L.tk.b .nil pass0 (pa_cons (pv 0) (pa_cons pe_int pa_nil))⟩ (fun _ _ => rfl))
theorem rg_4 : Bx (PS (cxOf CX0 P w K mg base NRg "_law_right" (defScope sRg) f cdv A outer s H E).nox (stRg 4) tG4) :=
  ⟨ps_set (i := 5) scRg.nd rfl (Or.inl rfl) (pe_call L.tb.G (hr.mono (by decide)) rfl L.tb.m L.tb.kp L.tb.b .nil pass0 (pa_cons (pv 2) (pa_cons (pv 4) pa_nil)))⟩
theorem rg_5 : Bx (PS (cxOf CX0 P w K mg base NRg "_law_right" (defScope sRg) f cdv A outer s H E).nox (stRg 5) (tG5 CL)) :=
  ⟨ps_if (pt_cmpR (op_neD hr.units) (pe_call L.lc.G (hr.mono (by decide)) rfl L.lc.m L.lc.kp L.lc.b .nil passN (pa_cons (pv 2) pa_nil)) (pv 3) (nomark _)) (pss_one (ps_ret pe_bl)) pss_nil⟩
theorem rg_6c : Bx (PE (cxOf CX0 P w K mg base NRg "_law_right" (defScope sRg) f cdv A outer s H E).nox (match stRg 6 with
    | .If _ [_, .If (.Compare (.Call _ [e] _ _) _ _ _) _ _ _] _ _ => e
    | _ => .Name "" ⟨0, 0, 0, 0⟩) (tG6c K)) :=
  bxl_lcG (te := tTup (tCons (tVar 0) (tCons (tBM K "list" (rCount K) (tVar 1) (tCons (tVar 0) tNil)) tNil))) (g := gName 0) rfl compRg ⟨pi_list (pv 6)⟩ (fun s H C fp => by exact pg_name (i := 0) ndRg rfl (.inl rfl)) (fun s H C fp => ⟨by exact pe_tup (pa_cons (pv 0) (pa_cons (pe_bm PySem.F.plainAttrs_list PySem.F.slot_list_count PySem.F.type_list_count mt_count (pv 1) (pa_cons (pv 0) pa_nil)) pa_nil))⟩)
theorem rg_6 : Bx (PS (cxOf CX0 P w K mg base NRg "_law_right" (defScope sRg) f cdv A outer s H E).nox (stRg 6) (tG6 K)) := by
  have hr3 : Room 3 _ := hr.mono (by decide)
  have hr2 : Room 2 _ := hr.mono (by decide)
  have hu : (A.deeper (PyProof.Rows.envOfC "_law_right" (defScope sRg) s.heap.objs.size f cdv)).units < cLine := hr.units0
  exact ⟨ps_if (pt_cmpR op_lt (pv 1) pe_int (nomark _)) (pss_cons (ps_set (i := 6) scRg.nd rfl (Or.inr rfl) (pe_call L.vs.G hr3 rfl L.vs.m L.vs.kp L.vs.b .nil pass0 (pa_cons (pe_rev (pv 2)) (pa_cons (pe_call L.dl.G hr2 rfl L.dl.m L.dl.kp L.dl.b .nil pass0 (pa_cons (pv 1) (pa_cons (pv 4) pa_nil))) pa_nil))))
    (pss_one (ps_if (pt_cmpR (op_neDD hu) (pe_callTy (call_dictP rfl) rfl L.md PyProof.Rows.boot_dict (pa_cons (rg_6c L hr).h pa_nil)) (pv 5) (nomark _)) (pss_one (ps_ret pe_bl)) pss_nil))) pss_nil⟩
theorem rg_7 : Bx (PS (cxOf CX0 P w K mg base NRg "_law_right" (defScope sRg) f cdv A outer s H E).nox (stRg 7) (tG7 K CL CN)) := by
  have hr3 : Room 3 _ := hr.mono (by decide)
  have hr6 : Room 6 _ := hr.mono (by decide)
  exact ⟨ps_for PassesOwn.never rfl (pi_range1 rfl L.mr (pa_cons pe_int pa_nil)) (pg_name (i := 7) scRg.nd rfl (Or.inl rfl)) (pss_cons (ps_set (i := 8) scRg.nd rfl (Or.inl rfl) (pe_call L.cs.G hr6 rfl L.cs.m L.cs.kp L.cs.b .nil passN (pa_cons (pv 4) (pa_cons (pv 3) pa_nil))))
    (pss_cons (ps_if (pt_not (pt_val (pe_callT L.sr.G hr3 rfl L.sr.m L.sr.kp L.sr.b pass0 (pa_cons (pv 8) (pa_cons (pv 5) pa_nil))))) (pss_one (ps_ret pe_bl)) pss_nil) (pss_one (ps_expr (pe_bm0 PySem.F.plainAttrs_dict PySem.F.slot_dict_clear PySem.F.type_dict_clear mt_dclear (pv 8))))))⟩
theorem rg_8 (hz : H sysModules = none) : Bx (PS (cxOf CX0 P w K mg base NRg "_law_right" (defScope sRg) f cdv A outer s H E).nox (stRg 8) tG8) :=
  ⟨ps_ret (pe_callZ hz L.rr.G hr rfl L.rr.m L.rr.kp L.rr.b pass0 (pa_cons (pv 0) (pa_cons (pv 4) (pa_cons (pv 3) pa_nil))))⟩
theorem rg_der (hz : H sysModules = none) : Bx (PSs (cxOf CX0 P w K mg base NRg "_law_right" (defScope sRg) f cdv A outer s H E).nox (defBody sRg) (tRg K CL CN)) :=
  bxs_cons (rg_0 L hr) (bxs_cons (rg_1 L hr) (bxs_cons (rg_2 L hr) (bxs_cons (rg_3 L hr) (bxs_cons (rg_4 L hr) (bxs_cons (rg_5 L hr) (bxs_cons (rg_6 L hr) (bxs_cons (rg_7 L hr) (bxs_one (rg_8 L hr hz)))))))))
omit L hr
end
end
def dAll (rs : List (Int × Nat)) : List (Int × Nat) := rs.foldl (fun a q => dSet a q.1 q.2) []
theorem dAll_snoc (rs : List (Int × Nat)) (q : Int × Nat) : dAll (rs ++ [q]) = dSet (dAll rs) q.1 q.2 := by
  unfold dAll
  rw [List.foldl_append]
  rfl
theorem snoc_ind {α : Type} {C : List α → Prop} (h0 : C []) (h1 : ∀ xs x, C xs → C (xs ++ [x])) : ∀ (n : Nat) (xs : List α), xs.length = n → C xs
  | 0, xs, h => by cases List.length_eq_zero_iff.mp h; exact h0
  | n + 1, xs, h => by
    obtain ⟨r, q, rfl⟩ : ∃ r q, xs = r ++ [q] := ⟨xs.dropLast, xs.getLast (fun z => by rw [z] at h; cases h), (List.dropLast_concat_getLast _).symm⟩
    rw [List.length_append] at h
    exact h1 r q (snoc_ind h0 h1 n r (by simpa using h))
theorem dAll_ok {rs : List (Int × Nat)} : (∀ q ∈ rs, 0 < q.2) → DOk (dAll rs) ∧ putAll (enc Key.inl rs) = enc Key.inl (dAll rs) := by
  refine snoc_ind (C := fun rs => (∀ q ∈ rs, 0 < q.2) → DOk (dAll rs) ∧ putAll (enc Key.inl rs) = enc Key.inl (dAll rs)) (fun _ => ⟨dok_nil, rfl⟩) (fun xs x ih h => ?_) _ rs rfl
  obtain ⟨h1, h2⟩ := ih fun q hq => h q (List.mem_append_left _ hq)
  have hx : 0 < x.2 := h x (List.mem_append_right _ (List.mem_singleton.mpr rfl))
  refine ⟨by rw [dAll_snoc]; exact h1.set hx, ?_⟩
  have e : enc Key.inl (xs ++ [x]) = enc Key.inl xs ++ [(Key.inl x.1, V.int (x.2 : Nat))] := by unfold enc; rw [List.map_append]; rfl
  rw [e, putAll_snoc, h2, dAll_snoc]
  exact enc_set inl_inj x.1 x.2 h1.nd
theorem dAll_at (f : Int → Nat) (x : Int) : ∀ (vs : List Int), dAt (dAll (vs.map fun v => (v, f v))) x = if x ∈ vs then f x else 0 := by
  intro vs
  refine snoc_ind (C := fun vs => dAt (dAll (vs.map fun v => (v, f v))) x = if x ∈ vs then f x else 0) rfl (fun xs y ih => ?_) _ vs rfl
  rw [List.map_append]
  show dAt (dAll (xs.map (fun v => (v, f v)) ++ [(y, f y)])) x = _
  rw [dAll_snoc, dAt_set, ih]
  by_cases e : x = y
  · subst e
    simp
  · simp [e]
end My
set_option Elab.async false
set_option linter.all false
set_option maxRecDepth 100000
set_option maxHeartbeats 2000000
set_option exponentiation.threshold 10000
namespace My
open PySem PySem.W L2
theorem boxc_ne {H : Hp} {p q : Addr} (b : BoxC H p) (h : H q = none) : q ≠ p := fun z => by
  obtain ⟨u, hu⟩ := b.some
  rw [z, hu] at h
  cases h
theorem ext_back {H H1 : Hp} {l : Addr} (x : Ext H H1) (h : H1 l = none) : H l = none := by
  cases e : H l with
  | none => rfl
  | some o => rw [x _ _ e] at h; cases h
section
variable {K : Frag} {H : Hp} {p : Addr} {D : Ends} {u : TS}
theorem rd_g0 {o1 o2 o3 o4 o5 o6 o7 o8 : Option V} (bx : BoxC H p) (nx : ∀ (n : Nat) H', 1 ≤ n → n ≤ 20 → BoxC H' p → Kept H H' p → u D [some (.ref p), some (.int (n : Nat)), o2, o3, o4, o5, o6, o7, o8] H') : tSeq (tG0 K) u D [some (.ref p), o1, o2, o3, o4, o5, o6, o7, o8] H := by
  refine rd_set (rd_op (rd_lst ?_))
  refine rd_take (i := 0) (m := 7) rfl bx (fun R r => r) (by decide) (by decide) fun r1 H1 a0 a7 bx1 k1 => ⟨1, r1, rfl, rfl, ?_⟩
  refine rd_take (i := 0) (m := 20) rfl bx1 (fun R r => r) (by decide) (by decide) fun r2 H2 b0 b20 bx2 k2 => ⟨1, r2, rfl, rfl, by show 2 ≤ sizeLine; decide, fun l hl => ?_⟩
  have x3 := Ext.new (o := .lst [.int (1 + r1), .int (1 + r2)]) hl
  have f3 : upd H2 l (.lst [.int (1 + r1), .int (1 + r2)]) l = some (.lst [.int (1 + r1), .int (1 + r2)]) := upd_same
  have bx3 := bx2.ext x3
  refine rd_take (i := 0) (m := 4) rfl bx3 (fun R r => r) (by decide) (by decide) fun r3 H4 c0 c4 bx4 k4 => ⟨rfl, .inr ⟨_, rfl, ?_⟩⟩
  have f4 := k4 _ _ f3 (boxc_ne bx2 hl)
  have kk := ((k1.trans k2).trans (x3.kept p)).trans k4
  cases decide (V.int r3 = V.int 0) with
  | true =>
    have e : (1 + r2 : Int) = (((1 + r2).toNat : Nat) : Int) := by omega
    have z := nx (1 + r2).toNat H4 (by omega) (by omega) bx4 kk
    rw [← e] at z
    exact ⟨l, _, _, _, rfl, rfl, SqL.of f4, rfl, z⟩
  | false =>
    have e : (1 + r1 : Int) = (((1 + r1).toNat : Nat) : Int) := by omega
    have z := nx (1 + r1).toNat H4 (by omega) (by omega) bx4 kk
    rw [← e] at z
    exact ⟨l, _, _, _, rfl, rfl, SqL.of f4, rfl, z⟩
theorem rd_g3 {n : Nat} {o2 o3 o4 o5 o6 o7 o8 : Option V} (bx : BoxC H p) (n20 : n ≤ 20) (nx : ∀ (O : Int) H', 0 ≤ O → O ≤ n → BoxC H' p → Kept H H' p → u D [some (.ref p), some (.int (n : Nat)), o2, o3, some (.int O), o5, o6, o7, o8] H') : tSeq (tG3 K) u D [some (.ref p), some (.int (n : Nat)), o2, o3, o4, o5, o6, o7, o8] H := by
  refine rd_set (rd_op (rd_lst ?_))
  refine rd_take (i := 0) (m := ((n : Nat) : Int) + 1) rfl bx (fun R r => ⟨_, rfl, _, _, rfl, rfl, r⟩) (by omega) (by omega) fun r1 H1 a0 a1 bx1 k1 => ?_
  refine ⟨_, rfl, _, rfl, _, _, rfl, rfl, ⟨by decide, by decide⟩, by show 4 ≤ sizeLine; decide, fun l hl => ?_⟩
  have x3 := Ext.new (o := .lst [.int r1, .int 0, .int (n : Nat), .int (((n : Nat) : Int) / 2)]) hl
  have f3 : upd H1 l (.lst [.int r1, .int 0, .int (n : Nat), .int (((n : Nat) : Int) / 2)]) l = some (.lst [.int r1, .int 0, .int (n : Nat), .int (((n : Nat) : Int) / 2)]) := upd_same
  have bx3 := bx1.ext x3
  refine rd_take (i := 0) (m := 4) rfl bx3 (fun R r => r) (by decide) (by decide) fun r3 H4 c0 c4 bx4 k4 => ?_
  have f4 := k4 _ _ f3 (boxc_ne bx1 hl)
  have kk := (k1.trans (x3.kept p)).trans k4
  rcases (show r3 = 0 ∨ r3 = 1 ∨ r3 = 2 ∨ r3 = 3 by omega) with rfl | rfl | rfl | rfl
  · exact ⟨l, _, _, _, rfl, rfl, SqL.of f4, rfl, nx _ H4 a0 (by omega) bx4 kk⟩
  · exact ⟨l, _, _, _, rfl, rfl, SqL.of f4, rfl, nx _ H4 (by omega) (by omega) bx4 kk⟩
  · exact ⟨l, _, _, _, rfl, rfl, SqL.of f4, rfl, nx _ H4 (by omega) (by omega) bx4 kk⟩
  · exact ⟨l, _, _, _, rfl, rfl, SqL.of f4, rfl, nx _ H4 (by omega) (by omega) bx4 kk⟩
theorem bits_sum {L : List (Int × Int)} (bt : Bits L) : L.length = L.count (1, 0) + L.count (0, 1) + L.count (1, 1) + L.count (0, 0) := by
  have := (bits_perm bt).length_eq
  rw [rep_len] at this
  exact this
theorem lg_of {L : List (Int × Int)} (bt : Bits L) (l1 : 1 ≤ L.length) (l20 : L.length ≤ 20) : lgD (.list (L.map pD)) = true := by
  show (decide (1 ≤ (L.map pD).length) && decide ((L.map pD).length ≤ 20) && (L.map pD).all lstdD) = true
  rw [bits_lstd bt, List.length_map, decide_eq_true l1, decide_eq_true l20]
  rfl
def cntD (L : List (Int × Int)) : PyData := .tuple [dI (L.count (1, 0)), dI (L.count (0, 1)), dI (L.count (1, 1)), dI (L.count (0, 0))]
theorem cnt_rds {c : Addr} {L : List (Int × Int)} (h : H c = some (.tup (cnt4 L))) : Rds H (.ref c) (cntD L) := .tup h (.cons (.int _) (.cons (.int _) (.cons (.int _) (.cons (.int _) .nil))))
theorem four_cnt (L : List (Int × Int)) : four (L.map pD) = cnt4 L := by
  unfold four cnt4
  rw [cnt_count, cnt_count, cnt_count, cnt_count]
theorem rd_g5 {CL l c : Addr} {L : List (Int × Int)} {σ : St} (s2 : σ[2]? = some (some (.ref l))) (s3 : σ[3]? = some (some (.ref c))) (ls : LsAt H l L) (bt : Bits L) (l1 : 1 ≤ L.length) (l20 : L.length ≤ 20) (hc : H c = some (.tup (cnt4 L))) (nx : ∀ H', Ext H H' → u D σ H') : tSeq (tG5 CL) u D σ H := by
  have lg := lg_of bt l1 l20
  refine ⟨_, s2, _, _, rfl, ls.rds, (fun ds e => by cases e; rw [List.length_map]; omega), (fun z => by rw [lg] at z; cases z), fun _ ds e l' H1 x1 h1 => ?_⟩
  cases e
  rw [four_cnt] at h1
  refine ⟨_, s3, cntD L, cntD L, cnt_rds h1, cnt_rds (x1 _ _ hc), rfl, rfl, by simp [cntD, PyData.depth, PyData.depthAll], _, rfl, ?_⟩
  rw [eqD_refl (show plainD (cntD L) = true from rfl)]
  exact itF (nx H1 x1)
theorem paired_rev {α β : Type} {R : α → β → Prop} : ∀ {xs : List α} {ys : List β}, Paired R xs ys → Paired R xs.reverse ys.reverse
  | _, _, .nil => .nil
  | _, _, .cons r t => by
    rw [List.reverse_cons, List.reverse_cons]
    exact paired_snoc r (paired_rev t)
theorem count_ints (vals : List Int) (x : Int) : (vals.map V.int).countP (fun z => eqV z (.int x)) = vals.count x := by
  rw [List.countP_map]
  show vals.countP _ = vals.countP _
  congr 1
theorem flat_nums : ∀ xs : List Int, (xs.map V.int).all flatV = true
  | [] => rfl
  | x :: xs => by rw [List.map_cons, List.all_cons, flat_nums xs]; rfl
theorem rd_g6c {Q : VK} {v : Addr} {vals : List Int} {σ : St} (s6 : σ[6]? = some (some (.ref v))) (cp : capS [6] σ = [some (.ref v)]) (hv : H v = some (.lst (vals.map V.int))) (sm : vals.length < 16000000)
    (q : ∀ l ys H', H l = none → Ext H H' → H' l = some (.lst ys) → Paired (Pv2 H') ys (vals.map fun x => (x, vals.count x)) → Q (.ref l) H') : tG6c K σ H Q := by
  unfold tG6c tLCG iList
  refine ⟨_, s6, v, rfl, ⟨_, SqL.of hv⟩, fun E hE => ?_⟩
  rw [cp]
  refine lcG_it (n := vals.length) (fun i ys H' => Ext H H' ∧ Paired (Pv2 H') ys ((vals.take i).map fun x => (x, vals.count x))) (by rw [sizeLine_eq]; omega) ⟨Ext.new hE, .nil⟩ (fun i ys H' hi pv => ⟨_, _, SqL.of (pv.1 _ _ hv), by rw [List.getElem?_map, List.getElem?_eq_getElem hi]; rfl⟩) (fun ys H' pv => ⟨_, SqL.of (pv.1 _ _ hv), by rw [List.length_map]; exact Nat.le_refl _⟩) ?_ ?_
  · rintro i y ys H' H3 hi ⟨rfl, hy⟩ ly hD' ⟨x', pr⟩ os los R kk
    have ey := hy _ (SqL.of (x' _ _ hv))
    rw [List.getElem?_map, List.getElem?_eq_getElem hi] at ey
    have ey : V.int vals[i] = y := Option.some.inj ey
    subst ey
    have en : vals[i]? = some vals[i] := List.getElem?_eq_getElem hi
    generalize vals[i] = x at en
    match os, los with
    | [p0], _ =>
      refine ⟨⟨[_], rfl, rfl⟩, _, rfl, _, rfl, .inl ⟨rfl, _, SqL.of (x' _ _ hv)⟩, _, rfl, v, _, _, rfl, rfl, SqL.of (x' _ _ hv), flat_nums _, rfl, by show 2 ≤ sizeLine; decide, fun t ht => ?_⟩
      have x4 := Ext.new (o := .tup [.int x, .int ((vals.map V.int).countP (fun z => eqV z (.int x)) : Nat)]) ht
      have hD4 := x4 _ _ hD'
      have kl : KpU _ _ := kpU_lst (ys := ys ++ [.ref t]) hD4
      refine kk _ _ hD4 ⟨ext_upd _ (x'.trans x4) hE, ?_⟩
      rw [take_all en, List.map_append]
      refine paired_snoc ⟨t, rfl, kl _ _ ?_⟩ (Paired.imp' (fun _ _ r => (r.kp x4.kpU).kp kl) pr)
      rw [upd_same, count_ints]
  · rintro ys H' ly hD' ⟨x', pr⟩
    rw [List.take_length] at pr
    exact q E ys H' hE x' hD' pr
def valsB (L : List (Int × Int)) (O : Int) : List Int := (dls L.length O).map fun x => wrt (cm L.reverse x) x
theorem valsB_eq (L : List (Int × Int)) (O : Int) : valsB L O = (dls (L.reverse.map (wt2 O L.length)).length O).map (wor (L.reverse.map (wt2 O L.length))) := by
  unfold valsB
  rw [List.length_map, List.length_reverse]
  refine List.map_congr_left fun x hx => ?_
  have hp : ((pop L.length x : Nat) : Int) = O := of_decide_eq_true (List.mem_filter.mp hx).2
  unfold wrt
  rw [cm_len, List.length_reverse, hp, wl_cm]
theorem valsB_count {L : List (Int × Int)} {O : Int} {qs : List (Int × Nat)} (du : DueOf O L qs) (x : Int) : (valsB L O).count x = dAt qs x := by
  rw [← count_sum, valsB_eq, brute_sum (L.reverse.map (wt2 O L.length)) O (fun y => if y = x then 1 else 0), dAt_S du.1.nd, du.2]
  exact EE_perm ((List.reverse_perm L).map _) 0 0
theorem valsB_len {L : List (Int × Int)} {O : Int} (h : L.length ≤ 20) : (valsB L O).length < 16000000 := by
  unfold valsB dls
  rw [List.length_map]
  refine Nat.lt_of_le_of_lt (List.length_filter_le _ _) ?_
  rw [List.length_range]
  exact Nat.lt_of_le_of_lt (Nat.pow_le_pow_right (by decide) h) (by decide)
theorem same_len {ps qs : List (Int × Nat)} (h1 : DOk ps) (h2 : DOk qs) (e : ∀ x, dAt ps x = dAt qs x) : ps.length ≤ qs.length := by
  have := few (xs := ps.map (·.1)) (ys := qs.map (·.1)) h1.nd fun x hx => by rw [h2.mem, ← e, ← h1.mem]; exact hx
  rw [List.length_map, List.length_map] at this
  exact this
theorem rd_6b {De : Ends} {σ : St} (h : tG6c K σ H fun x H1 => rDictP [x] H1 fun y H2 => ∃ w, σ[5]? = some (some w) ∧ rNeDD y w H2 fun r H3 => ∃ b, r = .bl b ∧ (if b = true then De.rt (.bl false) H3 else De.nx σ H3)) : tG6b K De σ H := h
theorem rd_g6 {l d : Addr} {L : List (Int × Int)} {O : Int} {n : Nat} {qs : List (Int × Nat)} {o3 o6 o7 o8 : Option V} (ls : LsAt H l L) (ln : L.length = n) (n20 : n ≤ 20) (hd : H d = some (.dK (enc Key.inl qs))) (du : DueOf O L qs)
    (nx : ∀ H' o6, Ext H H' → u D [some (.ref p), some (.int (n : Nat)), some (.ref l), o3, some (.int O), some (.ref d), o6, o7, o8] H') : tSeq (tG6 K) u D [some (.ref p), some (.int (n : Nat)), some (.ref l), o3, some (.int O), some (.ref d), o6, o7, o8] H := by
  refine ⟨_, rfl, _, _, rfl, rfl, _, rfl, ?_⟩
  refine ite2 (fun c => ?_) (fun c => nx H _ (Ext.refl _))
  obtain ⟨xs, hl, pr⟩ := ls
  refine ⟨_, rfl, l, xs, rfl, SqL.of hl, fun a ha => ?_⟩
  have x1 := Ext.new (o := .lst xs.reverse) ha
  have ls1 : LsAt (upd H a (.lst xs.reverse)) a L.reverse := ⟨_, upd_same, Paired.imp' (fun _ _ r => r.kp x1.kpU) (paired_rev pr)⟩
  refine ⟨_, rfl, _, rfl, n, O, rfl, n20, fun dl H2 hdl x2 h2 => ?_⟩
  have lr : L.reverse.length = n := by rw [List.length_reverse, ln]
  subst ln
  refine ⟨a, dl, L.reverse, dls L.length O, rfl, ls1.ext x2, by omega, h2, ?_, fun v H3 hv x3 h3 => ?_⟩
  · have := valsB_len (O := O) n20
    unfold valsB at this
    rw [List.length_map] at this
    exact this
  have h3 : H3 v = some (.lst ((valsB L O).map V.int)) := h3
  have X3 := x1.trans (x2.trans x3)
  show tG6b K _ [some (.ref p), some (.int (L.length : Nat)), some (.ref l), o3, some (.int O), some (.ref d), some (.ref v), o7, o8] H3
  refine rd_6b (rd_g6c (K := K) rfl rfl h3 (valsB_len n20) fun e ys H4 he x4 h4 pr4 => ?_)
  have pos : ∀ q ∈ (valsB L O).map fun x => (x, (valsB L O).count x), 0 < q.2 := fun q hq => by
    obtain ⟨x, hx, rfl⟩ := List.mem_map.mp hq
    exact List.count_pos_iff.mpr hx
  obtain ⟨ok, ep⟩ := dAll_ok pos
  refine ⟨e, ys, _, rfl, h4, prL_of pr4, fun r hr => ?_⟩
  rw [ep]
  have x5 := Ext.new (o := .dK (enc Key.inl (dAll ((valsB L O).map fun x => (x, (valsB L O).count x))))) hr
  have XX := (X3.trans x4).trans x5
  have same : ∀ x, dAt (dAll ((valsB L O).map fun x => (x, (valsB L O).count x))) x = dAt qs x := fun x => by
    rw [dAll_at (fun x => (valsB L O).count x), ← valsB_count du]
    by_cases hx : x ∈ valsB L O
    · rw [if_pos hx]
    · rw [if_neg hx, List.count_eq_zero_of_not_mem hx]
  refine ⟨_, rfl, r, d, _, _, rfl, rfl, .inl upd_same, .inl (XX _ _ hd), ?_, fun q hq => ?_, _, rfl, itF (nx _ _ XX)⟩
  · rw [enc_len, enc_len]
    exact Nat.le_antisymm (same_len ok du.1 same) (same_len du.1 ok fun x => (same x).symm)
  · obtain ⟨i, hi, ei⟩ := List.getElem_of_mem hq
    obtain ⟨z, ez, e1, e2⟩ := enc_get (k := q.1) (v := q.2) (by rw [List.getElem?_eq_getElem hi, ei])
    have hz := List.mem_of_getElem? ez
    refine ⟨_, e2, ?_⟩
    rw [e1]
    rcases enc_val inl_inj z.1 (ps := qs) with ⟨_, _, h3⟩ | ⟨h1, _⟩
    · exfalso
      refine h3 (du.1.mem.mpr ?_)
      rw [← same, ← ok.mem]
      exact List.mem_map.mpr ⟨z, hz, rfl⟩
    · rw [h1, ← same, dAt_mem ok.nd hz]
end
end My
set_option Elab.async false
set_option linter.all false
set_option maxRecDepth 100000
set_option maxHeartbeats 2000000
set_option exponentiation.threshold 10000
namespace My
open PySem PySem.W L2
section
variable {K : Frag} {H : Hp} {p : Addr} {D : Ends} {u : TS} {CL CN : Addr}
theorem rd_g7 {l c d : Addr} {L : List (Int × Int)} {O : Int} {n : Nat} {qs : List (Int × Nat)} {o6 o7 o8 : Option V} (bt : Bits L) (ln : L.length = n) (n1 : 1 ≤ n) (n20 : n ≤ 20) (hc : H c = some (.tup (cnt4 L))) (hd : H d = some (.dK (enc Key.inl qs))) (du : DueOf O L qs) (o1 : 0 ≤ O) (o2 : O ≤ (n : Nat))
    (nx : ∀ H' o7 o8, Ext H H' → u D [some (.ref p), some (.int (n : Nat)), some (.ref l), some (.ref c), some (.int O), some (.ref d), o6, o7, o8] H') : tSeq (tG7 K CL CN) u D [some (.ref p), some (.int (n : Nat)), some (.ref l), some (.ref c), some (.int O), some (.ref d), o6, o7, o8] H := by
  have sm := bits_sum bt
  refine ⟨2, rfl, by decide, by decide, ?_⟩
  refine for_range (lo := 0) (n := 2) (fun i σ H' => Ext H H' ∧ ∃ o7 o8, σ = [some (.ref p), some (.int (n : Nat)), some (.ref l), some (.ref c), some (.int O), some (.ref d), o6, o7, o8]) ⟨Ext.refl _, _, _, rfl⟩ ?_ ?_
  · rintro i σ H1 hi ⟨x1, o7, o8, rfl⟩
    have hc1 := x1 _ _ hc
    have hd1 := x1 _ _ hd
    have cd : cntsD (cntD L) = true := cnts_of (by omega) (by omega)
    refine ⟨_, rfl, _, rfl, .int O, .ref c, .int O, cntD L, rfl, .int O, cnt_rds hc1, (fun z => by rw [cd] at z; cases z), fun a b e f ed _ => ?_⟩
    have e4 : a = L.count (1, 0) ∧ b = L.count (0, 1) ∧ e = L.count (1, 1) ∧ f = L.count (0, 0) := by
      unfold cntD at ed
      injection ed with ed
      injection ed with h1 ed
      injection ed with h2 ed
      injection ed with h3 ed
      injection ed with h4 _
      injection h1 with h1
      injection h2 with h2
      injection h3 with h3
      injection h4 with h4
      omega
    obtain ⟨rfl, rfl, rfl, rfl⟩ := e4
    refine ⟨fun z => ?_, fun O' eO _ _ r H2 kvs ns ps hr x2 h2 ws tl => ?_⟩
    · exfalso
      have z' : (decide ((0 : Int) ≤ O) && decide (O ≤ ((L.count (1, 0) + L.count (0, 1) + L.count (1, 1) + L.count (0, 0) : Nat) : Int))) = false := z
      rw [Bool.and_eq_false_iff, decide_eq_false_iff_not, decide_eq_false_iff_not] at z'
      omega
    injection eO with eO
    subst eO
    have eqS : ∀ g, dS g ps = dS g qs := fun g => by
      rw [ws.2, du.2, ways_eq bt, ← sm]
    have keq : ∀ x, dAt ps x = dAt qs x := fun x => by rw [dAt_S ws.1.nd, dAt_S du.1.nd, eqS]
    have p64 := ways_few ws (by omega)
    have q64 : qs.length < 64 := Nat.lt_of_le_of_lt (same_len du.1 ws.1 fun x => (keq x).symm) p64
    have sa := sum_all (O := O) (a := L.count (1, 0)) (b := L.count (0, 1)) (c := L.count (1, 1)) (d := L.count (0, 0)) o1 (by omega)
    rw [← ws.2 fun _ => 1] at sa
    have s20 : 2 ^ (L.count (1, 0) + L.count (0, 1) + L.count (1, 1) + L.count (0, 0)) ≤ 2 ^ 20 := Nat.pow_le_pow_right (by decide) (by omega)
    have nrd : r ≠ d := fun z => by rw [z, hd1] at hr; cases hr
    have x12 := x1.trans x2
    refine ⟨_, rfl, _, rfl, r, .dK kvs, h2, True.intro, ?_⟩
    refine ⟨r, d, kvs, ns, ps, qs, rfl, nrd, h2, tl, x2 _ _ hd1, ws.1, du.1, eqS, q64, sa.1, Nat.le_trans sa.2 s20, fun H3 o k3 h3 => ⟨o, .dK kvs, True.intro, h3, _, rfl, itF ?_⟩⟩
    have hr0 : H r = none := ext_back x1 hr
    have h3' : upd H3 r (.dK kvs) r = some (.dK kvs) := upd_same
    refine ⟨_, rfl, .inr (.inr (.inl ⟨rfl, .inl ⟨_, h3'⟩⟩)), r, kvs, rfl, rfl, h3', fun b' o' e' => ?_, _, _, rfl⟩
    have nb : b' ≠ r := fun z => by rw [z, hr0] at e'; cases e'
    rw [upd_ne nb, upd_ne nb]
    exact k3 _ _ (x12 _ _ e') nb
  · rintro σ H1 ⟨x1, o7, o8, rfl⟩
    exact nx H1 _ _ x1
end
section
variable {P : Program} {w : World} {K : Frag} {mg : Str → Option Value} {base : Heap} {CL CN : Addr}
def spRg : Sp := fun vs H Q _ => ∃ p, vs = [.ref p] ∧ BoxC H p ∧ H sysModules = none ∧ ∀ H', Kept H H' p → Q (.bl true) H'
theorem ok_rg {f a1 a2 a3 a4 a5 a6 a7 a8 a9 a10 : Addr} {fd d1 d2 d3 d4 d5 d6 d7 d8 d9 d10 : FuncData} (F : Fun K "_law_right" "_law_right" sRg f fd) (L : LawB P w K mg base CL CN a1 a2 a3 a4 a5 a6 a7 a8 a9 a10 d1 d2 d3 d4 d5 d6 d7 d8 d9 d10) : FnOk P w K mg base CX0 9 f fd ["_law_box_here"] spRg := by
  refine F.ok scRg (fun vs H Q E h => ?_) (fun cdv A outer s H vs Q E hr h => ?_)
  · obtain ⟨p, rfl, _⟩ := h
    rfl
  obtain ⟨p, rfl, bx, hz, q⟩ := h
  refine okBxL (rg_der L hr hz) ⟨?_⟩
  refine rd_g0 bx fun n H1 n1 n20 bx1 k1 => ?_
  refine ⟨_, rfl, _, rfl, p, n, rfl, bx1, n20, fun l Ls H2 hl k2 bx2 ls bt ln => ?_⟩
  refine ⟨_, rfl, l, Ls, rfl, ls, bt, fun c H3 x3 hc0 hc => ?_⟩
  have bx3 := bx2.ext x3
  refine rd_g3 bx3 n20 fun O H4 o1 o2 bx4 k4 => ?_
  have nl : l ≠ p := boxc_ne bx1 hl
  have ls4 : LsAt H4 l Ls := (ls.ext x3).kept k4 bx3 nl
  have hc4 := k4 _ _ hc (boxc_neT bx3 hc)
  refine ⟨_, rfl, _, rfl, l, O, Ls, rfl, ls4, bt, by omega, fun u H5 qs hu x5 h5 du => ?_⟩
  refine rd_g5 rfl rfl (ls4.ext x5) bt (by omega) (by omega) (x5 _ _ hc4) fun H6 x6 => ?_
  have X6 := x5.trans x6
  refine rd_g6 (ls4.ext X6) ln n20 (x6 _ _ h5) du fun H7 o6 x7 => ?_
  have X7 := X6.trans x7
  refine rd_g7 bt ln n1 n20 (X7 _ _ hc4) (x7 _ _ (x6 _ _ h5)) du o1 o2 fun H8 o7 o8 x8 => ?_
  have X8 := X7.trans x8
  have sm := bits_sum bt
  refine ⟨_, rfl, _, rfl, _, rfl, fun hz8 => ⟨p, c, O, _, _, _, _, rfl, hz8, bx4.ext X8, X8 _ _ hc4, by omega, by omega, o1, by omega, fun H9 k9 bx9 => ?_⟩⟩
  exact q H9 ((k1.trans (k2.trans ((x3.kept p).trans k4))).trans ((X8.kept p).trans k9))
abbrev sLaw : Stmt := top 54
def spLaw (K : Frag) : Sp := fun vs H Q _ => ∃ (a : Addr) (ns : List Int), vs = [.ref a] ∧ SqL K H a (ns.map V.int) ∧ ns.length ≤ 63 ∧ H sysModules = none ∧ ∀ H', Q (.bl true) H'
abbrev NLw : List Str := ["_law_script", "_law_k"]
theorem scLw : FnScope NLw ["_law_script"] (defScope sLaw) := ⟨rfl, rfl, rfl, by decide +kernel, rfl, by decide +kernel, by decide +kernel⟩
theorem ok_law {f a1 a2 a3 : Addr} {fd d1 d2 d3 : FuncData} (F : Fun K "law" "law" sLaw f fd) (Ar : Df P w K mg base CX0 9 "_law_right" ["_law_box_here"] spRg a1 d1) (Ab : Df P w K mg base CX0 1 "_law_box" ["_law_cell_here"] spBox a2 d2) (Ac : Df P w K mg base CX0 1 "_law_cell" ["_law_script", "_law_k"] (spCell K) a3 d3)
    (ml : mg "len" = none) (mr : mg "range" = none) (mx : mg "max" = none) (mm : mg "min" = none) : FnOk P w K mg base CX0 10 f fd ["_law_script"] (spLaw K) := by
  refine F.ok scLw (fun vs H Q E h => ?_) (fun cdv A outer s H vs Q E hr h => ?_)
  · obtain ⟨a, ns, rfl, _⟩ := h
    rfl
  obtain ⟨a, ns, rfl, ha, l63, hz, q⟩ := h
  have nd := scLw.nd
  have hr1 : Room 1 _ := hr.mono (by decide)
  refine ⟨_, pss_cons (ps_for PassesOwn.never rfl (pi_range1 rfl mr (pa_cons (pe_callB (call_max2 rfl) rfl mx PyProof.Rows.boot_max (pa_cons pe_int (pa_cons (pe_callB (call_min2 rfl) rfl mm PyProof.Rows.boot_min (pa_cons (pe_callB call_len_seq rfl ml PySem.boot_len (pa_cons (pv 0) pa_nil)) (pa_cons pe_int pa_nil))) pa_nil))) pa_nil)) (pg_name (i := 1) nd rfl (Or.inl rfl))
      (pss_one (ps_if (pt_not (pt_val (pe_callZ hz Ar.G hr rfl Ar.m Ar.kp Ar.b pass0 (pa_cons (pe_call Ab.G hr1 rfl Ab.m Ab.kp Ab.b .nil pass0 (pa_cons (pe_call Ac.G hr1 rfl Ac.m Ac.kp Ac.b .nil pass0 (pa_cons (pv 0) (pa_cons (pv 1) pa_nil))) pa_nil)) pa_nil)))) (pss_one (ps_ret pe_bl)) pss_nil)))
    (pss_one (ps_ret pe_bl)), ?_⟩
  have hn : ∃ n : Nat, n ≤ 5 ∧ (if (if (5 : Int) < (((ns.map V.int).length : Nat) : Int) then 5 else (((ns.map V.int).length : Nat) : Int)) > 1 then (if (5 : Int) < (((ns.map V.int).length : Nat) : Int) then 5 else (((ns.map V.int).length : Nat) : Int)) else 1) = (n : Int) := by
    refine ⟨(if (if (5 : Int) < (((ns.map V.int).length : Nat) : Int) then 5 else (((ns.map V.int).length : Nat) : Int)) > 1 then (if (5 : Int) < (((ns.map V.int).length : Nat) : Int) then 5 else (((ns.map V.int).length : Nat) : Int)) else 1).toNat, ?_, ?_⟩ <;> (repeat' split) <;> omega
  obtain ⟨n, n5, en⟩ := hn
  refine ⟨_, rfl, a, _, rfl, .inl ha, _, _, rfl, _, _, rfl, _, rfl, ?_⟩
  rw [en]
  refine ⟨by omega, by omega, ?_⟩
  rw [Int.toNat_natCast]
  refine for_range (n := n) (fun i σ H' => Ext H H' ∧ ∃ o1, σ = [some (.ref a), o1]) ⟨Ext.refl _, _, rfl⟩ ?_ ?_
  · rintro i σ H' hi ⟨x', o1, rfl⟩
    refine ⟨_, rfl, _, rfl, a, ns, _, rfl, My.SqL.ext ha x', by omega, by omega, fun c => ⟨c, rfl, fun p H2 hp x2 bx => fun hz2 => ⟨p, rfl, bx, hz2, fun H3 k3 => ⟨_, rfl, itF ⟨?_, _, rfl⟩⟩⟩⟩⟩
    exact fun b o h => k3 b o (x2 _ _ (x' b o h)) (fun e => by have := x' b o h; rw [e, hp] at this; cases this)
  · rintro σ H' ⟨x', o1, rfl⟩
    exact q H'
end
end My
set_option Elab.async false
set_option linter.all false
set_option maxRecDepth 100000
set_option maxHeartbeats 4000000
set_option exponentiation.threshold 10000
namespace My
open PySem PySem.W L2
theorem mroC {K : Frag} {D C f : Addr} {nm : Str} (T : ErrC K D nm C f) (b : Value) : mroIn K C b = some ((Value.ref C :: .ref D :: bmV).contains b) := by
  obtain ⟨cd, h1, _, h3⟩ := T.clsIn
  unfold mroIn
  rw [h1, Option.bind_some, h3]
  rfl
theorem neD_of {K : Frag} {D C f : Addr} {nm : Str} (T : ErrC K D nm C f) (B : BaseC K D) : C ≠ D := by
  intro e
  obtain ⟨q, N, bs, sn, sub, ab, col, dd, k0, k1, k2, k3, k5, l⟩ := T.cls
  obtain ⟨nm', q', N', bs', sn', sub', ab', col', dd', k0', k1', k2', k3', k5', l', _⟩ := B.cls
  rw [e, l'] at l
  have z := Option.some.inj l
  injection z with _ _ z _
  injection z with z
  injection z with _ _ z
  cases z
theorem ne_names {K : Frag} {D C f C' f' : Addr} {nm nm' : Str} (T : ErrC K D nm C f) (T' : ErrC K D nm' C' f') (h : nm ≠ nm') : C' ≠ C := by
  intro e
  obtain ⟨q, N, bs, sn, sub, ab, col, dd, k0, k1, k2, k3, k5, l⟩ := T.cls
  obtain ⟨q', N', bs', sn', sub', ab', col', dd', k0', k1', k2', k3', k5', l'⟩ := T'.cls
  rw [e, l] at l'
  have z := Option.some.inj l'
  injection z with _ _ z _
  injection z with z
  injection z with z
  exact h z
theorem baseType {K : Frag} {D : Addr} (B : BaseC K D) : typeIn K (.ref D) = some (.type "type") := by
  obtain ⟨nm', q', N', bs', sn', sub', ab', col', dd', k0', k1', k2', k3', k5', l', _⟩ := B.cls
  show (List.lookup D K).map (·.cls) = _
  rw [l']
  rfl
theorem baseCls {K : Frag} {D : Addr} (B : BaseC K D) : ∃ cd, clsIn K D = some cd := by
  obtain ⟨nm', q', N', bs', sn', sub', ab', col', dd', k0', k1', k2', k3', k5', l', _⟩ := B.cls
  unfold clsIn
  rw [l']
  exact ⟨_, rfl⟩
abbrev sIni3 : Stmt := inClass (top 3) 0
theorem scIni3 : FnScope ["self", "found"] ["self", "found"] (defScope sIni3) := ⟨rfl, rfl, rfl, by decide +kernel, rfl, by decide +kernel, by decide +kernel⟩
theorem one3 {K : Frag} {mg : Str → Option Value} {D C f : Addr} {fd : FuncData} (B : BaseC K D) (T : ErrC K D "NoNumber" C f) (mD : mg "DealError" = some (.ref D)) (mC : mg "NoNumber" = some (.ref C)) (F : Fun K "__init__" "NoNumber.__init__" sIni3 f fd) (tk : takerIn K C "found" = some none) : OneF K mg D "NoNumber" "found" C f fd := by
  refine ⟨T, mC, fun P w base => ?_, F.binds fun _ _ _ _ _ _ us hl => match us, hl with | [_, _], _ => rfl⟩
  refine F.ok scIni3 (fun vs H Q E h => ?_) (fun cdv A outer s H vs Q E hr h => ?_)
  · obtain ⟨x, v, rfl, _⟩ := h
    rfl
  obtain ⟨x, v, rfl, hx, q⟩ := h
  refine ⟨_, pss_cons (ps_expr (pe_baseInit B T rfl mD (pv 0) pe_str)) (pss_one (ps_err T (pv 0) (pv 1) rfl)), ?_⟩
  exact ⟨_, rfl, x, rfl, hx, _, rfl, _, rfl, x, rfl, hx, tk, q⟩
abbrev sIni4 : Stmt := inClass (top 4) 0
theorem scIni4 : FnScope ["self", "found"] ["self", "found"] (defScope sIni4) := ⟨rfl, rfl, rfl, by decide +kernel, rfl, by decide +kernel, by decide +kernel⟩
theorem one4 {K : Frag} {mg : Str → Option Value} {D C f : Addr} {fd : FuncData} (B : BaseC K D) (T : ErrC K D "NoListing" C f) (mD : mg "DealError" = some (.ref D)) (mC : mg "NoListing" = some (.ref C)) (F : Fun K "__init__" "NoListing.__init__" sIni4 f fd) (tk : takerIn K C "found" = some none) : OneF K mg D "NoListing" "found" C f fd := by
  refine ⟨T, mC, fun P w base => ?_, F.binds fun _ _ _ _ _ _ us hl => match us, hl with | [_, _], _ => rfl⟩
  refine F.ok scIni4 (fun vs H Q E h => ?_) (fun cdv A outer s H vs Q E hr h => ?_)
  · obtain ⟨x, v, rfl, _⟩ := h
    rfl
  obtain ⟨x, v, rfl, hx, q⟩ := h
  refine ⟨_, pss_cons (ps_expr (pe_baseInit B T rfl mD (pv 0) pe_str)) (pss_one (ps_err T (pv 0) (pv 1) rfl)), ?_⟩
  exact ⟨_, rfl, x, rfl, hx, _, rfl, _, rfl, x, rfl, hx, tk, q⟩
theorem fld_of {K : Frag} {D C f : Addr} {nm fld : Str} (T : ErrC K D nm C f) (nf : findIn K (.ref C) fld = some none) : FldOk K C fld := by
  obtain ⟨cd, h1, h2, h3⟩ := T.clsIn
  refine ⟨T.it, ?_, nf⟩
  unfold hasDictIn
  rw [h1]
  exact h2
theorem cat_of {K : Frag} {D C f : Addr} {nm : Str} (T : ErrC K D nm C f) : Catch K C := by
  obtain ⟨cd, h1, h2, h3⟩ := T.clsIn
  exact ⟨⟨cd, h1⟩, T.type, T.it.mb⟩
theorem mro_self {K : Frag} {D C f : Addr} {nm : Str} (T : ErrC K D nm C f) : mroIn K C (.ref C) = some true := by
  rw [mroC T, List.contains_cons, beq_self_eq_true]
  rfl
theorem mro_base {K : Frag} {D C f : Addr} {nm : Str} (T : ErrC K D nm C f) : mroIn K C (.ref D) = some true := by
  rw [mroC T, List.contains_cons, List.contains_cons, beq_self_eq_true, Bool.true_or, Bool.or_true]
theorem mro_no {K : Frag} {D C f C' f' : Addr} {nm nm' : Str} (B : BaseC K D) (T : ErrC K D nm C f) (T' : ErrC K D nm' C' f') (h : nm ≠ nm') : mroIn K C (.ref C') = some false := by
  have ne := ne_names T T' h
  have nd := neD_of T' B
  rw [mroC T, List.contains_cons, List.contains_cons]
  have n1 : (Value.ref C' == Value.ref C) = false := beq_eq_false_iff_ne.mpr fun z => ne (Value.ref.inj z)
  have n2 : (Value.ref C' == Value.ref D) = false := beq_eq_false_iff_ne.mpr fun z => nd (Value.ref.inj z)
  rw [n1, n2]
  rfl
end My
set_option Elab.async false
set_option linter.all false
set_option maxRecDepth 100000
set_option maxHeartbeats 4000000
set_option exponentiation.threshold 10000
namespace My
open PySem PySem.W L2
def keyStr : Value → Bool
  | .str _ _ => true
  | _ => false
theorem strKeys_of {es : Array DictEntry} (h : (es.toList.all fun e => keyStr e.key) = true) : StrKeys es := fun e he => by
  have z := List.all_eq_true.mp h e (by simpa using he)
  cases k : e.key with
  | str n t => exact ⟨n, t, rfl⟩
  | _ => rw [k] at z; cases z
theorem mro_of {K : Frag} {C : Addr} {cd : ClassData} {b : Value} (h : clsIn K C = some cd) (hb : cd.mro.isEmpty = false) (hc : cd.mro.contains b = true) : mroIn K C b = some true := by
  unfold mroIn
  rw [h, Option.bind_some, hb, hc]
  rfl
theorem base_mk {K : Frag} {D N : Addr} {nm q : Str} {bs : List Value} {sn : List Str} {sub : List Value} {ab : Bool} {col : Option Bool} {dd : Option Addr} {k0 k1 k2 k3 k5 : Option Value}
    {cN : Value} {dN : Option Addr} {es : Array DictEntry} {ep : Nat} {sN : Array (Option Value)}
    (lD : K.lookup D = some (excClassObj nm q D N bs bmV true sn sub ab col dd k0 k1 k2 k3 k5 "ValueError.__new__"))
    (lN : K.lookup N = some ⟨cN, dN, .dict es ep, sN⟩) (sk : StrKeys es) (ni : nsFind es "__init__" = none)
    (ga : specialIn K (.ref D) "__getattribute__" = some (some (.builtin "type.__getattribute__"))) (rd : readsIn K D (.type "type") = true)
    (ini : findCls K (.ref D) (.type "type") "__init__" = some (.val (.builtin "ValueError.__init__"))) (fi : findIn K (.ref D) "__init__" = some (some (.builtin "ValueError.__init__"))) (kp : keepIn K (.ref D) = true)
    (gb : findIn K (.ref D) "__getattribute__" = some (some (.builtin bga))) (hk : findIn K (.ref D) "__getattr__" = some none) (ca : findIn K (.ref D) "__class__" = some (some (.builtin "object.__class__"))) : BaseC K D := by
  have hc : clsIn K D = some { name := nm, bases := bs, mro := .ref D :: bmV, ns := N, qualname := q, hasDict := true, slotNames := sn, subclasses := sub, abstract := ab, collection := col, hasDel := false } := by
    unfold clsIn
    rw [lD]
  refine ⟨⟨nm, q, N, bs, sn, sub, ab, col, dd, k0, k1, k2, k3, k5, lD, _, es, ep, lN, rfl, sk, ni⟩, ga, rd, ini, fi, kp, ⟨by rw [hc]; rfl, gb, hk, mro_of hc rfl ?_, mro_of hc rfl ?_, ca⟩⟩
  · show (Value.ref D :: bmV).contains (.type "BaseException") = true
    rw [List.contains_cons]
    rfl
  · show (Value.ref D :: bmV).contains (.type "object") = true
    rw [List.contains_cons]
    rfl
theorem err_mk {K : Frag} {D C N f : Addr} (nm : Str)
    {q : Str} {bs : List Value} {sn : List Str} {sub : List Value} {ab : Bool} {col : Option Bool} {dd : Option Addr} {k0 k1 k2 k3 k5 : Option Value}
    (lC : K.lookup C = some (excClassObj nm q C N bs (.ref D :: bmV) true sn sub ab col dd k0 k1 k2 k3 k5 "ValueError.__new__"))
    (ini : findIn K (.ref C) "__init__" = some (some (.ref f))) (fn : typeIn K (.ref f) = some (.type "function")) (kp : keepIn K (.ref C) = true)
    (sa : findIn K (.ref C) "__setattr__" = some (some (.builtin "object.__setattr__"))) (ga : findIn K (.ref C) "__getattribute__" = some (some (.builtin bga))) (hk : findIn K (.ref C) "__getattr__" = some none)
    (ca : findIn K (.ref C) "__class__" = some (some (.builtin "object.__class__"))) : ErrC K D nm C f := by
  have hc : clsIn K C = some { name := nm, bases := bs, mro := .ref C :: .ref D :: bmV, ns := N, qualname := q, hasDict := true, slotNames := sn, subclasses := sub, abstract := ab, collection := col, hasDel := false } := by
    unfold clsIn
    rw [lC]
  refine ⟨⟨q, N, bs, sn, sub, ab, col, dd, k0, k1, k2, k3, k5, lC⟩, ini, fn, kp, sa, ⟨by rw [hc]; rfl, ga, hk, mro_of hc rfl ?_, mro_of hc rfl ?_, ca⟩⟩
  · show (Value.ref C :: .ref D :: bmV).contains (.type "BaseException") = true
    rw [List.contains_cons, List.contains_cons]
    rfl
  · show (Value.ref C :: .ref D :: bmV).contains (.type "object") = true
    rw [List.contains_cons, List.contains_cons]
    rfl
structure Dn (K : Frag) (mg : Str → Option Value) (nm : Str) (st : Stmt) (ps : List Str) (f : Addr) (fd : FuncData) : Prop where
  fn : Fun K nm nm st f fd
  bi : Binds K fd ps []
  kp : keepIn K (.ref f) = true
  mg : mg nm = some (.ref f)
section
variable {P : Program} {w : World} {K : Frag} {mg : Str → Option Value} {base : Heap}
theorem Dn.df {nm : Str} {st : Stmt} {ps : List Str} {f : Addr} {fd : FuncData} (d : Dn K mg nm st ps f fd) {cx : CXT} {k : Nat} {sp : Sp} (h : FnOk P w K mg base cx k f fd ps sp) : Df P w K mg base cx k nm ps sp f fd := ⟨h, d.bi, d.kp, d.mg⟩
theorem top_two {p : Addr} {i j : Int} {od : Option Addr} {t u : Tok} {n : Nat} {sl : Array (Option Value)} (l : K.lookup p = some ⟨.type "tuple", od, .seq #[.int i t, .int j u] n, sl⟩) (H : Hp) : SqT K H p [.int i, .int j] :=
  .inr ⟨_, _, _, l, rfl, rfl, by show 2 ≤ sizeLine; decide, .cons ⟨_, rfl⟩ (.cons ⟨_, rfl⟩ .nil)⟩
end
theorem kit_base {K : Frag} {D C f : Addr} {nm : Str} (B : BaseC K D) (T : ErrC K D nm C f) : kitOne K (.ref C) (.ref D) = some true := by
  obtain ⟨cd, hc⟩ := baseCls B
  have ne := neD_of T B
  unfold kitOne
  rw [if_neg (by intro z; exact ne (Value.ref.inj (beq_iff_eq.mp z)))]
  show (if ((clsIn K D).isSome && typeIn K (.ref D) == some (.type "type")) = true then subIn K (.ref C) (.ref D) else none) = _
  rw [hc, baseType B]
  simp only [Option.isSome_some, beq_self_eq_true, Bool.and_self, if_true]
  exact mro_base T
abbrev BP (nm qn : Str) (st : Stmt) (ps : List Str) : Prop := ∀ (kV doc pm : Value) (an : Option Addr) (cdv ct : Value) (us : List Value), us.length = ps.length → bindArgs (PySem.W.fnOf nm qn (defArgs st) (defBody st) (defScope st) .none kV doc pm an cdv ct) ⟨us, []⟩ = pure (ps.zip us)
theorem dn_of {nm : Str} {st : Stmt} {ps : List Str} (hb : BP nm nm st ps) {K : Frag} {h : Heap} {mg : Str → Option Value} {g : Addr} {oc kV dc pm cd ct : Value} {od an : Option Addr} {sl : Array (Option Value)} (X : K.In h) (G : h.Ns mainGlobals mg)
    (a : nsIn K mainGlobals nm = some (some (.ref g))) (l : K.lookup g = some ⟨oc, od, .func (fnOf nm nm (defArgs st) (defBody st) (defScope st) .none kV dc pm an cd ct), sl⟩) (c : codeIn K cd nm = true) (k : keepIn K (.ref g) = true) :
    Dn K mg nm st ps g (fnOf nm nm (defArgs st) (defBody st) (defScope st) .none kV dc pm an cd ct) := by
  have F := fun_mk (st := st) l c k
  exact ⟨F, F.binds hb, k, mg_of X G a⟩
theorem bp0 : BP "is_number" "is_number" sIsNum ["thing"] := fun _ _ _ _ _ _ us hl => match us, hl with | [_], _ => rfl
theorem bp1 : BP "is_whole" "is_whole" sIsWh ["thing", "low", "high"] := fun _ _ _ _ _ _ us hl => match us, hl with | [_, _, _], _ => rfl
theorem bp2 : BP "greatest_common" "greatest_common" sGcd ["one", "other"] := fun _ _ _ _ _ _ us hl => match us, hl with | [_, _], _ => rfl
theorem bp3 : BP "is_part" "is_part" sPart ["top", "bottom"] := fun _ _ _ _ _ _ us hl => match us, hl with | [_, _], _ => rfl
theorem bp4 : BP "share_of" "share_of" sSo ["top", "bottom"] := fun _ _ _ _ _ _ us hl => match us, hl with | [_, _], _ => rfl
theorem bp5 : BP "need_number" "need_number" sNN ["thing", "low", "high"] := fun _ _ _ _ _ _ us hl => match us, hl with | [_, _, _], _ => rfl
theorem bp6 : BP "told_spread" "told_spread" sTS ["parts"] := fun _ _ _ _ _ _ us hl => match us, hl with | [_], _ => rfl
theorem bp7 : BP "is_listed" "is_listed" sIL ["thing"] := fun _ _ _ _ _ _ us hl => match us, hl with | [_], _ => rfl
theorem bp8 : BP "is_listing" "is_listing" sIG ["thing"] := fun _ _ _ _ _ _ us hl => match us, hl with | [_], _ => rfl
theorem bp9 : BP "need_listing" "need_listing" sNG ["thing"] := fun _ _ _ _ _ _ us hl => match us, hl with | [_], _ => rfl
theorem bp10 : BP "counts_of" "counts_of" sCO ["listing"] := fun _ _ _ _ _ _ us hl => match us, hl with | [_], _ => rfl
theorem bp11 : BP "listing_counts" "listing_counts" sLC ["listing"] := fun _ _ _ _ _ _ us hl => match us, hl with | [_], _ => rfl
theorem bp12 : BP "are_counts" "are_counts" sAC ["thing"] := fun _ _ _ _ _ _ us hl => match us, hl with | [_], _ => rfl
theorem bp13 : BP "choices" "choices" sCh ["many"] := fun _ _ _ _ _ _ us hl => match us, hl with | [_], _ => rfl
theorem bp14 : BP "value_under" "value_under" sVU ["counts", "dealt"] := fun _ _ _ _ _ _ us hl => match us, hl with | [_, _], _ => rfl
theorem bp15 : BP "ways_to_deal" "ways_to_deal" sWD ["ones", "counts"] := fun _ _ _ _ _ _ us hl => match us, hl with | [_, _], _ => rfl
theorem bp16 : BP "value_ways" "value_ways" sVW ["ones", "counts"] := fun _ _ _ _ _ _ us hl => match us, hl with | [_, _], _ => rfl
theorem bp17 : BP "counts_spread" "counts_spread" sCS ["ones", "counts"] := fun _ _ _ _ _ _ us hl => match us, hl with | [_, _], _ => rfl
theorem bp18 : BP "_law_cell" "_law_cell" sCell ["_law_script", "_law_k"] := fun _ _ _ _ _ _ us hl => match us, hl with | [_, _], _ => rfl
theorem bp19 : BP "_law_box" "_law_box" sBox ["_law_cell_here"] := fun _ _ _ _ _ _ us hl => match us, hl with | [_], _ => rfl
theorem bp20 : BP "_law_take" "_law_take" sTake ["_law_box_here", "_law_many"] := fun _ _ _ _ _ _ us hl => match us, hl with | [_, _], _ => rfl
theorem bp21 : BP "_law_whole" "_law_whole" sWh ["_law_found"] := fun _ _ _ _ _ _ us hl => match us, hl with | [_], _ => rfl
theorem bp22 : BP "_law_divisor" "_law_divisor" sDvr ["_law_one", "_law_other"] := fun _ _ _ _ _ _ us hl => match us, hl with | [_, _], _ => rfl
theorem bp23 : BP "_law_is_share" "_law_is_share" sISr ["_law_found", "_law_top", "_law_bottom"] := fun _ _ _ _ _ _ us hl => match us, hl with | [_, _, _], _ => rfl
theorem bp24 : BP "_law_spread_right" "_law_spread_right" sSR ["_law_found", "_law_due"] := fun _ _ _ _ _ _ us hl => match us, hl with | [_, _], _ => rfl
theorem bp25 : BP "_law_listing" "_law_listing" sLi ["_law_box_here", "_law_folk"] := fun _ _ _ _ _ _ us hl => match us, hl with | [_, _], _ => rfl
theorem bp26 : BP "_law_came" "_law_came" sCm ["_law_listing_here", "_law_dealing"] := fun _ _ _ _ _ _ us hl => match us, hl with | [_, _], _ => rfl
theorem bp27 : BP "_law_counts" "_law_counts" sCn ["_law_listing_here"] := fun _ _ _ _ _ _ us hl => match us, hl with | [_], _ => rfl
theorem bp28 : BP "_law_ones" "_law_ones" sOn ["_law_folk", "_law_dealing"] := fun _ _ _ _ _ _ us hl => match us, hl with | [_, _], _ => rfl
theorem bp29 : BP "_law_dealings" "_law_dealings" sDl ["_law_folk", "_law_ones_here"] := fun _ _ _ _ _ _ us hl => match us, hl with | [_, _], _ => rfl
theorem bp30 : BP "_law_worth" "_law_worth" sWo ["_law_row", "_law_dealing"] := fun _ _ _ _ _ _ us hl => match us, hl with | [_, _], _ => rfl
theorem bp31 : BP "_law_values" "_law_values" sVs ["_law_listing_here", "_law_dealings_here"] := fun _ _ _ _ _ _ us hl => match us, hl with | [_, _], _ => rfl
theorem bp32 : BP "_law_table" "_law_table" sTb ["_law_listing_here", "_law_ones_here"] := fun _ _ _ _ _ _ us hl => match us, hl with | [_, _], _ => rfl
theorem bp33 : BP "_law_asked" "_law_asked" sAk ["_law_ones_here", "_law_counts_here"] := fun _ _ _ _ _ _ us hl => match us, hl with | [_, _], _ => rfl
theorem bp34 : BP "_law_refused_right" "_law_refused_right" sRR ["_law_box_here", "_law_ones_here", "_law_counts_here"] := fun _ _ _ _ _ _ us hl => match us, hl with | [_, _, _], _ => rfl
theorem bp35 : BP "_law_right" "_law_right" sRg ["_law_box_here"] := fun _ _ _ _ _ _ us hl => match us, hl with | [_], _ => rfl
theorem bp36 : BP "law" "law" sLaw ["_law_script"] := fun _ _ _ _ _ _ us hl => match us, hl with | [_], _ => rfl
theorem all_mk {l : OpenLaw} {w : World} {K : Frag} {h : Heap} {mg : Str → Option Value} {fa D CE3 fE3 CE4 fE4 g0 g1 g2 g3 g4 g5 g6 g7 g8 g9 g10 g11 g12 g13 g14 g15 g16 g17 g18 g19 g20 g21 g22 g23 g24 g25 g26 g27 g28 g29 g30 g31 g32 g33 g34 g35 g36 : Addr} {d0 d1 d2 d3 d4 d5 d6 d7 d8 d9 d10 d11 d12 d13 d14 d15 d16 d17 d18 d19 d20 d21 d22 d23 d24 d25 d26 d27 d28 d29 d30 d31 d32 d33 d34 d35 d36 : FuncData} (X : K.In h) (G : h.Ns mainGlobals mg) (hfa : mg "law" = some (.ref fa))
    {oc3 kV3 dc3 pm3 cd3 ct3 oc4 kV4 dc4 pm4 cd4 ct4 : Value} {od3 an3 od4 an4 : Option Addr} {sl3 sl4 : Array (Option Value)}
    {t_MOST_FOLK : Tok}
    {n0 n1 n2 n3 : Addr} {od_0 od_1 od_2 od_3 : Option Addr} {tt0 tt1 tt2 tt3 uu0 uu1 uu2 uu3 : Tok} {nm0 nm1 nm2 nm3 : Nat} {sl_0 sl_1 sl_2 sl_3 : Array (Option Value)}
    (B : BaseC K D) (eE3 : ErrC K D "NoNumber" CE3 fE3) (eE4 : ErrC K D "NoListing" CE4 fE4)
    (aD : nsIn K mainGlobals "DealError" = some (some (.ref D)))
    (a3 : nsIn K mainGlobals "NoNumber" = some (some (.ref CE3)))
    (a4 : nsIn K mainGlobals "NoListing" = some (some (.ref CE4)))
    (lf3 : K.lookup fE3 = some ⟨oc3, od3, .func (fnOf "__init__" "NoNumber.__init__" (defArgs sIni3) (defBody sIni3) (defScope sIni3) .none kV3 dc3 pm3 an3 cd3 ct3), sl3⟩)
    (cf3 : codeIn K cd3 "NoNumber.__init__" = true)
    (kf3 : keepIn K (.ref fE3) = true)
    (tk3 : takerIn K CE3 "found" = some none)
    (nf3 : findIn K (.ref CE3) "found" = some none)
    (lf4 : K.lookup fE4 = some ⟨oc4, od4, .func (fnOf "__init__" "NoListing.__init__" (defArgs sIni4) (defBody sIni4) (defScope sIni4) .none kV4 dc4 pm4 an4 cd4 ct4), sl4⟩)
    (cf4 : codeIn K cd4 "NoListing.__init__" = true)
    (kf4 : keepIn K (.ref fE4) = true)
    (tk4 : takerIn K CE4 "found" = some none)
    (nf4 : findIn K (.ref CE4) "found" = some none)
    (i_MOST_FOLK : nsIn K mainGlobals "MOST_FOLK" = some (some (.int (20) t_MOST_FOLK)))
    (gt : specialIn K (.builtin "object.__class__") "__get__" = some (some (.builtin "getset_descriptor.__get__")))
    (tkT : takesIn K (.builtin "object.__class__") = some true)
    (b0 : nsIn K mainGlobals "BETTERED" = some (some (.ref n0)))
    (c0 : K.lookup n0 = some ⟨.type "tuple", od_0, .seq #[.int 1 tt0, .int 0 uu0] nm0, sl_0⟩)
    (b1 : nsIn K mainGlobals "WORSENED" = some (some (.ref n1)))
    (c1 : K.lookup n1 = some ⟨.type "tuple", od_1, .seq #[.int 0 tt1, .int 1 uu1] nm1, sl_1⟩)
    (b2 : nsIn K mainGlobals "ALWAYS" = some (some (.ref n2)))
    (c2 : K.lookup n2 = some ⟨.type "tuple", od_2, .seq #[.int 1 tt2, .int 1 uu2] nm2, sl_2⟩)
    (b3 : nsIn K mainGlobals "NEVER" = some (some (.ref n3)))
    (c3 : K.lookup n3 = some ⟨.type "tuple", od_3, .seq #[.int 0 tt3, .int 0 uu3] nm3, sl_3⟩)
    (z_isinstance : nsIn K mainGlobals "isinstance" = some none)
    (z_int : nsIn K mainGlobals "int" = some none)
    (z_bool : nsIn K mainGlobals "bool" = some none)
    (z_len : nsIn K mainGlobals "len" = some none)
    (z_range : nsIn K mainGlobals "range" = some none)
    (z_tuple : nsIn K mainGlobals "tuple" = some none)
    (z_list : nsIn K mainGlobals "list" = some none)
    (z_enumerate : nsIn K mainGlobals "enumerate" = some none)
    (z_all : nsIn K mainGlobals "all" = some none)
    (z_repr : nsIn K mainGlobals "repr" = some none)
    (z_max : nsIn K mainGlobals "max" = some none)
    (z_min : nsIn K mainGlobals "min" = some none)
    (z_sum : nsIn K mainGlobals "sum" = some none)
    (z_sorted : nsIn K mainGlobals "sorted" = some none)
    (z_dict : nsIn K mainGlobals "dict" = some none)
    (e0 : Dn K mg "is_number" sIsNum ["thing"] g0 d0)
    (e1 : Dn K mg "is_whole" sIsWh ["thing", "low", "high"] g1 d1)
    (e2 : Dn K mg "greatest_common" sGcd ["one", "other"] g2 d2)
    (e3 : Dn K mg "is_part" sPart ["top", "bottom"] g3 d3)
    (e4 : Dn K mg "share_of" sSo ["top", "bottom"] g4 d4)
    (e5 : Dn K mg "need_number" sNN ["thing", "low", "high"] g5 d5)
    (e6 : Dn K mg "told_spread" sTS ["parts"] g6 d6)
    (e7 : Dn K mg "is_listed" sIL ["thing"] g7 d7)
    (e8 : Dn K mg "is_listing" sIG ["thing"] g8 d8)
    (e9 : Dn K mg "need_listing" sNG ["thing"] g9 d9)
    (e10 : Dn K mg "counts_of" sCO ["listing"] g10 d10)
    (e11 : Dn K mg "listing_counts" sLC ["listing"] g11 d11)
    (e12 : Dn K mg "are_counts" sAC ["thing"] g12 d12)
    (e13 : Dn K mg "choices" sCh ["many"] g13 d13)
    (e14 : Dn K mg "value_under" sVU ["counts", "dealt"] g14 d14)
    (e15 : Dn K mg "ways_to_deal" sWD ["ones", "counts"] g15 d15)
    (e16 : Dn K mg "value_ways" sVW ["ones", "counts"] g16 d16)
    (e17 : Dn K mg "counts_spread" sCS ["ones", "counts"] g17 d17)
    (e18 : Dn K mg "_law_cell" sCell ["_law_script", "_law_k"] g18 d18)
    (e19 : Dn K mg "_law_box" sBox ["_law_cell_here"] g19 d19)
    (e20 : Dn K mg "_law_take" sTake ["_law_box_here", "_law_many"] g20 d20)
    (e21 : Dn K mg "_law_whole" sWh ["_law_found"] g21 d21)
    (e22 : Dn K mg "_law_divisor" sDvr ["_law_one", "_law_other"] g22 d22)
    (e23 : Dn K mg "_law_is_share" sISr ["_law_found", "_law_top", "_law_bottom"] g23 d23)
    (e24 : Dn K mg "_law_spread_right" sSR ["_law_found", "_law_due"] g24 d24)
    (e25 : Dn K mg "_law_listing" sLi ["_law_box_here", "_law_folk"] g25 d25)
    (e26 : Dn K mg "_law_came" sCm ["_law_listing_here", "_law_dealing"] g26 d26)
    (e27 : Dn K mg "_law_counts" sCn ["_law_listing_here"] g27 d27)
    (e28 : Dn K mg "_law_ones" sOn ["_law_folk", "_law_dealing"] g28 d28)
    (e29 : Dn K mg "_law_dealings" sDl ["_law_folk", "_law_ones_here"] g29 d29)
    (e30 : Dn K mg "_law_worth" sWo ["_law_row", "_law_dealing"] g30 d30)
    (e31 : Dn K mg "_law_values" sVs ["_law_listing_here", "_law_dealings_here"] g31 d31)
    (e32 : Dn K mg "_law_table" sTb ["_law_listing_here", "_law_ones_here"] g32 d32)
    (e33 : Dn K mg "_law_asked" sAk ["_law_ones_here", "_law_counts_here"] g33 d33)
    (e34 : Dn K mg "_law_refused_right" sRR ["_law_box_here", "_law_ones_here", "_law_counts_here"] g34 d34)
    (e35 : Dn K mg "_law_right" sRg ["_law_box_here"] g35 d35)
    (e36 : Dn K mg "law" sLaw ["_law_script"] g36 d36)
    (hb : ∀ (s : Shared) (v : Value), BindsTo s d36 ⟨[v], []⟩ [("_law_script", v)])
    : ∃ fd : FuncData, (∀ (s : Shared) (v : Value), BindsTo s fd ⟨[v], []⟩ [("_law_script", v)]) ∧ ∀ base : Heap, K.In base → base.Ns mainGlobals mg → FnOk l.prog w K mg base CX0 10 fa fd ["_law_script"] (spLaw K) := by
  have e := hfa.symm.trans e36.mg
  cases e
  refine ⟨_, hb, fun base _ _ => ?_⟩
  have m_isinstance := mg_none_of X G z_isinstance
  have m_int := mg_none_of X G z_int
  have m_bool := mg_none_of X G z_bool
  have m_len := mg_none_of X G z_len
  have m_range := mg_none_of X G z_range
  have m_tuple := mg_none_of X G z_tuple
  have m_list := mg_none_of X G z_list
  have m_enumerate := mg_none_of X G z_enumerate
  have m_all := mg_none_of X G z_all
  have m_repr := mg_none_of X G z_repr
  have m_max := mg_none_of X G z_max
  have m_min := mg_none_of X G z_min
  have m_sum := mg_none_of X G z_sum
  have m_sorted := mg_none_of X G z_sorted
  have m_dict := mg_none_of X G z_dict
  have T : IsT K := ⟨gt, tkT⟩
  have mD := mg_of X G aD
  have o3 := one3 B eE3 mD (mg_of X G a3) (fun_mk (st := sIni3) lf3 cf3 kf3) tk3
  have o4 := one4 B eE4 mD (mg_of X G a4) (fun_mk (st := sIni4) lf4 cf4 kf4) tk4
  have n_MOST_FOLK := mg_of X G i_MOST_FOLK
  have GN_ := ok_isnum (P := l.prog) (w := w) (mg := mg) (base := base) T e0.fn m_isinstance m_int m_bool
  have GN := (e0.df GN_)
  have GW_ := ok_iswh e1.fn GN_ e0.bi e0.kp e0.mg
  have GW := (e1.df GW_)
  have GG_ := ok_gcd (P := l.prog) (w := w) (mg := mg) (base := base) e2.fn
  have GG := (e2.df GG_)
  have GP_ := ok_part e3.fn GN_ e0.bi e0.kp e0.mg GW_ e1.bi e1.kp e1.mg
  have GP := (e3.df GP_)
  have GS_ := ok_so e4.fn GP GG
  have GS := (e4.df GS_)
  have GM_ := ok_nn e5.fn B o3 GW
  have GM := (e5.df GM_)
  have GT_ := ok_ts e6.fn GS m_sorted
  have GT := (e6.df GT_)
  have Gl_ := ok_il T e7.fn GW m_isinstance m_tuple m_len
  have Gl := (e7.df Gl_)
  have Gg_ := ok_ig T e8.fn GW Gl n_MOST_FOLK m_isinstance m_list m_len m_all
  have Gg := (e8.df Gg_)
  have Gn_ := ok_ng e9.fn B o4 Gg
  have Gn := (e9.df Gn_)
  have Fo : Four K mg n0 n1 n2 n3 := ⟨mg_of X G b0, mg_of X G b1, mg_of X G b2, mg_of X G b3, top_two c0, top_two c1, top_two c2, top_two c3⟩
  have Gc_ := ok_co (P := l.prog) (w := w) (mg := mg) (base := base) e10.fn Fo
  have Gc := (e10.df Gc_)
  have Gk_ := ok_lc e11.fn Gn Gc
  have Gk := (e11.df Gk_)
  have Ga_ := ok_ac T e12.fn GW n_MOST_FOLK m_isinstance m_tuple m_len m_all m_sum
  have Ga := (e12.df Ga_)
  have Gh_ := ok_ch (P := l.prog) (w := w) (mg := mg) (base := base) e13.fn m_range
  have Gh := (e13.df Gh_)
  have Gu_ := ok_vu (P := l.prog) (w := w) (mg := mg) (base := base) e14.fn m_sum
  have Gu := (e14.df Gu_)
  have Gd_ := ok_wd e15.fn Gh GW m_enumerate
  have Gd := (e15.df Gd_)
  have Gv_ := ok_vw e16.fn Gd Gu
  have Gv := (e16.df Gv_)
  have Gs_ := ok_cs e17.fn B o4 Ga GM Gv GT m_sum
  have Gs := (e17.df Gs_)
  have Lc_ := ok_cell (P := l.prog) (w := w) (mg := mg) (base := base) e18.fn m_len
  have Lc := (e18.df Lc_)
  have Lb_ := ok_box (P := l.prog) (w := w) (mg := mg) (base := base) e19.fn m_int
  have Lb := (e19.df Lb_)
  have Lt_ := ok_take (P := l.prog) (w := w) (mg := mg) (base := base) e20.fn
  have Lt := (e20.df Lt_)
  have Lw_ := ok_wh (P := l.prog) (w := w) (mg := mg) (base := base) T e21.fn m_isinstance m_int m_bool
  have Lw := (e21.df Lw_)
  have Ld_ := ok_dvr (P := l.prog) (w := w) (mg := mg) (base := base) e22.fn
  have Ld := (e22.df Ld_)
  have Li_ := ok_isr T e23.fn Lw Ld m_isinstance m_tuple m_len
  have Li := (e23.df Li_)
  have Ls_ := ok_sr T e24.fn Lw Li m_isinstance m_dict m_list m_sum m_sorted
  have Ls := (e24.df Ls_)
  have Ll_ := ok_li e25.fn Lt m_range
  have Ll := (e25.df Ll_)
  have Lm_ := ok_cm (P := l.prog) (w := w) (mg := mg) (base := base) e26.fn m_enumerate
  have Lm := (e26.df Lm_)
  have Ln_ := ok_cn (P := l.prog) (w := w) (mg := mg) (base := base) e27.fn m_tuple
  have Ln := (e27.df Ln_)
  have Lo_ := ok_on (P := l.prog) (w := w) (mg := mg) (base := base) e28.fn m_range m_sum
  have Lo := (e28.df Lo_)
  have Lg_ := ok_dl e29.fn Lo m_range
  have Lg := (e29.df Lg_)
  have Lh_ := ok_wo e30.fn Lo m_len m_enumerate m_sum
  have Lh := (e30.df Lh_)
  have Lv_ := ok_vs e31.fn Lm Lh
  have Lv := (e31.df Lv_)
  have Lx_ := ok_tb (P := l.prog) (w := w) (mg := mg) (base := base) e32.fn m_len m_dict
  have Lx := (e32.df Lx_)
  have Z : KitB K mg D CE4 CE3 := ⟨T, cat_of eE4, cat_of eE3, mD, mg_of X G a4, mg_of X G a3, fld_of eE4 nf4, fld_of eE3 nf3, mro_self eE4, mro_no B eE3 eE4 (by decide +kernel), mro_self eE3, kit_base B eE4, kit_base B eE3⟩
  have La_ := ok_ak Z e33.fn Gs m_repr m_isinstance m_sorted
  have La := (e33.df La_)
  have Lr_ := ok_rr e34.fn Lt La m_list m_sum m_repr
  have Lr := (e34.df Lr_)
  have Lq_ := ok_rg e35.fn ⟨Lt, Ll, Ln, Lx, Gk, Lv, Lg, Gs, Ls, Lr, m_int, m_dict, m_range⟩
  have Lq := (e35.df Lq_)
  exact ok_law e36.fn Lq Lb Lc m_len m_range m_max m_min
theorem walk {l : OpenLaw} {q : Program} {loose : List Str} {XP : (Str → Option Value) → Heap → Prop} {YP : World → Heap → Prop} {d : DefRec} {K : Params → Frag} (hn : l.most = some 63) (hdf : d.params.defaults = [])
    (hY : ∀ (w : World) (h : Heap), YP w h → (K w.params).In h)
    (F : ∀ (w : World) (mg : Str → Option Value) (fa : Addr) (h : Heap), (K w.params).In h → h.Ns mainGlobals mg → mg d.name = some (.ref fa) →
      ∃ fd : FuncData, (∀ (s : Shared) (u : Value), BindsTo s fd ⟨[u], []⟩ [("_law_script", u)]) ∧ ∀ base : Heap, (K w.params).In base → base.Ns mainGlobals mg → FnOk l.prog w (K w.params) mg base CX0 10 fa fd ["_law_script"] (spLaw (K w.params))) :
    WalkO q loose XP YP l.row.toRowW d [] (fun f vs => PySem.call f vs) :=
  L2.walk_ofS (n := 63) (k := 10) (x := "_law_script") (CX := fun _ => CX0) (sp := fun w => spLaw (K w.params)) hn (by decide) hdf ⟨rfl, by decide, by decide, rfl⟩ hY F (fun _ _ a ns hl _ hS hz => ⟨a, ns, rfl, hS, hl, hz, fun _ => rfl⟩) fun _ _ _ _ _ z => z
end My
open PySem PySem.W PyProof.Rows
set_option Elab.async false
def PySem.W.Fast.tw11969471236551154965 : Unit := ()
def PySem.W.Fast.tw17994059722258782289 : Unit := ()
def PySem.W.Fast.tw13599337834324035271 : Unit := ()
def PySem.W.Fast.tw8802856405716242916 : Unit := ()
def PySem.W.Fast.tw6956222238702035546 : Unit := ()
set_option maxRecDepth 100000 in
set_option maxHeartbeats 0 in
theorem PySem.Challenge.cw_trialdeal_k54_spreads_by_counts_holds : PySem.Challenge.rw_trialdeal_k54_spreads_by_counts.Holds := by
  w_on; o_law; k_head; (case hw => w_witness2)
  k_fill
  refine My.walk (l := PySem.Challenge.rw_trialdeal_k54_spreads_by_counts) rfl rfl (fun w h Y => PySem.W.kIn_of Y) ?F
  case F =>
    intro w mg fa h KX G hmg
    refine' My.all_mk KX G hmg (My.base_mk ?my_lD ?my_lN ?my_sk ?my_ni ?my_gaD ?my_rdD ?my_inD ?my_fiD ?my_kpD ?my_gbD ?my_hkD ?my_caD)
      (My.err_mk "NoNumber" ?my_l3 ?my_i3 ?my_t3 ?my_k3 ?my_s3 ?my_g3 ?my_h3 ?my_c3)
      (My.err_mk "NoListing" ?my_l4 ?my_i4 ?my_t4 ?my_k4 ?my_s4 ?my_g4 ?my_h4 ?my_c4)
      ?f_aD ?f_a3 ?f_a4 ?f_lf3 ?f_cf3 ?f_kf3 ?f_tk3 ?f_nf3 ?f_lf4 ?f_cf4 ?f_kf4 ?f_tk4 ?f_nf4 ?f_i_MOST_FOLK ?f_gt ?f_tkT ?f_b0 ?f_c0 ?f_b1 ?f_c1 ?f_b2 ?f_c2 ?f_b3 ?f_c3 ?f_z_isinstance ?f_z_int ?f_z_bool ?f_z_len ?f_z_range ?f_z_tuple ?f_z_list ?f_z_enumerate ?f_z_all ?f_z_repr ?f_z_max ?f_z_min ?f_z_sum ?f_z_sorted ?f_z_dict
      (My.dn_of My.bp0 KX G ?my_A0 ?my_L0 ?my_C0 ?my_K0)
      (My.dn_of My.bp1 KX G ?my_A1 ?my_L1 ?my_C1 ?my_K1)
      (My.dn_of My.bp2 KX G ?my_A2 ?my_L2 ?my_C2 ?my_K2)
      (My.dn_of My.bp3 KX G ?my_A3 ?my_L3 ?my_C3 ?my_K3)
      (My.dn_of My.bp4 KX G ?my_A4 ?my_L4 ?my_C4 ?my_K4)
      (My.dn_of My.bp5 KX G ?my_A5 ?my_L5 ?my_C5 ?my_K5)
      (My.dn_of My.bp6 KX G ?my_A6 ?my_L6 ?my_C6 ?my_K6)
      (My.dn_of My.bp7 KX G ?my_A7 ?my_L7 ?my_C7 ?my_K7)
      (My.dn_of My.bp8 KX G ?my_A8 ?my_L8 ?my_C8 ?my_K8)
      (My.dn_of My.bp9 KX G ?my_A9 ?my_L9 ?my_C9 ?my_K9)
      (My.dn_of My.bp10 KX G ?my_A10 ?my_L10 ?my_C10 ?my_K10)
      (My.dn_of My.bp11 KX G ?my_A11 ?my_L11 ?my_C11 ?my_K11)
      (My.dn_of My.bp12 KX G ?my_A12 ?my_L12 ?my_C12 ?my_K12)
      (My.dn_of My.bp13 KX G ?my_A13 ?my_L13 ?my_C13 ?my_K13)
      (My.dn_of My.bp14 KX G ?my_A14 ?my_L14 ?my_C14 ?my_K14)
      (My.dn_of My.bp15 KX G ?my_A15 ?my_L15 ?my_C15 ?my_K15)
      (My.dn_of My.bp16 KX G ?my_A16 ?my_L16 ?my_C16 ?my_K16)
      (My.dn_of My.bp17 KX G ?my_A17 ?my_L17 ?my_C17 ?my_K17)
      (My.dn_of My.bp18 KX G ?my_A18 ?my_L18 ?my_C18 ?my_K18)
      (My.dn_of My.bp19 KX G ?my_A19 ?my_L19 ?my_C19 ?my_K19)
      (My.dn_of My.bp20 KX G ?my_A20 ?my_L20 ?my_C20 ?my_K20)
      (My.dn_of My.bp21 KX G ?my_A21 ?my_L21 ?my_C21 ?my_K21)
      (My.dn_of My.bp22 KX G ?my_A22 ?my_L22 ?my_C22 ?my_K22)
      (My.dn_of My.bp23 KX G ?my_A23 ?my_L23 ?my_C23 ?my_K23)
      (My.dn_of My.bp24 KX G ?my_A24 ?my_L24 ?my_C24 ?my_K24)
      (My.dn_of My.bp25 KX G ?my_A25 ?my_L25 ?my_C25 ?my_K25)
      (My.dn_of My.bp26 KX G ?my_A26 ?my_L26 ?my_C26 ?my_K26)
      (My.dn_of My.bp27 KX G ?my_A27 ?my_L27 ?my_C27 ?my_K27)
      (My.dn_of My.bp28 KX G ?my_A28 ?my_L28 ?my_C28 ?my_K28)
      (My.dn_of My.bp29 KX G ?my_A29 ?my_L29 ?my_C29 ?my_K29)
      (My.dn_of My.bp30 KX G ?my_A30 ?my_L30 ?my_C30 ?my_K30)
      (My.dn_of My.bp31 KX G ?my_A31 ?my_L31 ?my_C31 ?my_K31)
      (My.dn_of My.bp32 KX G ?my_A32 ?my_L32 ?my_C32 ?my_K32)
      (My.dn_of My.bp33 KX G ?my_A33 ?my_L33 ?my_C33 ?my_K33)
      (My.dn_of My.bp34 KX G ?my_A34 ?my_L34 ?my_C34 ?my_K34)
      (My.dn_of My.bp35 KX G ?my_A35 ?my_L35 ?my_C35 ?my_K35)
      (My.dn_of My.bp36 KX G ?my_A36 ?my_L36 ?my_C36 ?my_K36)
      (fun s v => .of_eq rfl)
    (case f_aD => k_is); (case f_a3 => k_is); (case f_a4 => k_is); (case my_lD => k_is); (case my_lN => k_is)
    (case my_sk => exact My.strKeys_of rfl)
    (case my_ni => first | rfl | decide +kernel)
    (case my_gaD => k_is); (case my_rdD => k_is); (case my_inD => k_is); (case my_fiD => k_is); (case my_kpD => k_is); (case my_gbD => k_is); (case my_hkD => k_is); (case my_caD => k_is)
    (case my_l3 => k_is); (case my_i3 => k_is); (case my_t3 => k_is); (case my_k3 => k_is); (case my_s3 => k_is); (case my_g3 => k_is); (case my_h3 => k_is); (case my_c3 => k_is)
    (case my_l4 => k_is); (case my_i4 => k_is); (case my_t4 => k_is); (case my_k4 => k_is); (case my_s4 => k_is); (case my_g4 => k_is); (case my_h4 => k_is); (case my_c4 => k_is)
    (case f_lf3 => k_is); (case f_cf3 => k_is); (case f_kf3 => k_is); (case f_tk3 => k_is); (case f_nf3 => k_is); (case f_lf4 => k_is); (case f_cf4 => k_is); (case f_kf4 => k_is)
    (case f_tk4 => k_is); (case f_nf4 => k_is); (case f_i_MOST_FOLK => k_is); (case f_gt => k_is); (case f_tkT => k_is); (case f_b0 => k_is); (case f_c0 => k_is); (case f_b1 => k_is)
    (case f_c1 => k_is); (case f_b2 => k_is); (case f_c2 => k_is); (case f_b3 => k_is); (case f_c3 => k_is); (case f_z_isinstance => k_is); (case f_z_int => k_is); (case f_z_bool => k_is)
    (case f_z_len => k_is); (case f_z_range => k_is); (case f_z_tuple => k_is); (case f_z_list => k_is); (case f_z_enumerate => k_is); (case f_z_all => k_is); (case f_z_repr => k_is); (case f_z_max => k_is)
    (case f_z_min => k_is); (case f_z_sum => k_is); (case f_z_sorted => k_is); (case f_z_dict => k_is)
    (case my_A0 => k_is); (case my_L0 => k_is); (case my_C0 => k_is); (case my_K0 => k_is)
    (case my_A1 => k_is); (case my_L1 => k_is); (case my_C1 => k_is); (case my_K1 => k_is)
    (case my_A2 => k_is); (case my_L2 => k_is); (case my_C2 => k_is); (case my_K2 => k_is)
    (case my_A3 => k_is); (case my_L3 => k_is); (case my_C3 => k_is); (case my_K3 => k_is)
    (case my_A4 => k_is); (case my_L4 => k_is); (case my_C4 => k_is); (case my_K4 => k_is)
    (case my_A5 => k_is); (case my_L5 => k_is); (case my_C5 => k_is); (case my_K5 => k_is)
    (case my_A6 => k_is); (case my_L6 => k_is); (case my_C6 => k_is); (case my_K6 => k_is)
    (case my_A7 => k_is); (case my_L7 => k_is); (case my_C7 => k_is); (case my_K7 => k_is)
    (case my_A8 => k_is); (case my_L8 => k_is); (case my_C8 => k_is); (case my_K8 => k_is)
    (case my_A9 => k_is); (case my_L9 => k_is); (case my_C9 => k_is); (case my_K9 => k_is)
    (case my_A10 => k_is); (case my_L10 => k_is); (case my_C10 => k_is); (case my_K10 => k_is)
    (case my_A11 => k_is); (case my_L11 => k_is); (case my_C11 => k_is); (case my_K11 => k_is)
    (case my_A12 => k_is); (case my_L12 => k_is); (case my_C12 => k_is); (case my_K12 => k_is)
    (case my_A13 => k_is); (case my_L13 => k_is); (case my_C13 => k_is); (case my_K13 => k_is)
    (case my_A14 => k_is); (case my_L14 => k_is); (case my_C14 => k_is); (case my_K14 => k_is)
    (case my_A15 => k_is); (case my_L15 => k_is); (case my_C15 => k_is); (case my_K15 => k_is)
    (case my_A16 => k_is); (case my_L16 => k_is); (case my_C16 => k_is); (case my_K16 => k_is)
    (case my_A17 => k_is); (case my_L17 => k_is); (case my_C17 => k_is); (case my_K17 => k_is)
    (case my_A18 => k_is); (case my_L18 => k_is); (case my_C18 => k_is); (case my_K18 => k_is)
    (case my_A19 => k_is); (case my_L19 => k_is); (case my_C19 => k_is); (case my_K19 => k_is)
    (case my_A20 => k_is); (case my_L20 => k_is); (case my_C20 => k_is); (case my_K20 => k_is)
    (case my_A21 => k_is); (case my_L21 => k_is); (case my_C21 => k_is); (case my_K21 => k_is)
    (case my_A22 => k_is); (case my_L22 => k_is); (case my_C22 => k_is); (case my_K22 => k_is)
    (case my_A23 => k_is); (case my_L23 => k_is); (case my_C23 => k_is); (case my_K23 => k_is)
    (case my_A24 => k_is); (case my_L24 => k_is); (case my_C24 => k_is); (case my_K24 => k_is)
    (case my_A25 => k_is); (case my_L25 => k_is); (case my_C25 => k_is); (case my_K25 => k_is)
    (case my_A26 => k_is); (case my_L26 => k_is); (case my_C26 => k_is); (case my_K26 => k_is)
    (case my_A27 => k_is); (case my_L27 => k_is); (case my_C27 => k_is); (case my_K27 => k_is)
    (case my_A28 => k_is); (case my_L28 => k_is); (case my_C28 => k_is); (case my_K28 => k_is)
    (case my_A29 => k_is); (case my_L29 => k_is); (case my_C29 => k_is); (case my_K29 => k_is)
    (case my_A30 => k_is); (case my_L30 => k_is); (case my_C30 => k_is); (case my_K30 => k_is)
    (case my_A31 => k_is); (case my_L31 => k_is); (case my_C31 => k_is); (case my_K31 => k_is)
    (case my_A32 => k_is); (case my_L32 => k_is); (case my_C32 => k_is); (case my_K32 => k_is)
    (case my_A33 => k_is); (case my_L33 => k_is); (case my_C33 => k_is); (case my_K33 => k_is)
    (case my_A34 => k_is); (case my_L34 => k_is); (case my_C34 => k_is); (case my_K34 => k_is)
    (case my_A35 => k_is); (case my_L35 => k_is); (case my_C35 => k_is); (case my_K35 => k_is)
    (case my_A36 => k_is); (case my_L36 => k_is); (case my_C36 => k_is); (case my_K36 => k_is)
