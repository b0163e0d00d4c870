import PyProof.Rows.All
import Wide.All
import OpenK.AllK
import Wide.FinOn
import Lean
import PyProof.EqAt
import PyProof.EqKinds
import PyProof.TupleCall
import PyProof.ExcClass2
import PyProof.InstStoreFacts
import PyProof.ExcArgs
import PyProof.ExcInit
import PyProof.ExcBaseAll.ValueError
import KE.KIsAll
import PyProof.RulesRaise
import PyProof.RulesAs
import PyProof.RaisesMany
import PyProof.NeKinds
import PyProof.EnumFor
import PyProof.EnumStmt
import PyProof.EnumMake
import PyProof.Rows.EnumRows
import PyProof.CompFree
import KE.KIntText
import PyProof.StrBlockG
import PyProof.StrBlockH
import PyProof.StrWalks
import PyProof.Rows.StrNews2
import PyProof.Rows.StrOr
import PyProof.Rows.Digits
import PyProof.StrBlockL
import PyProof.MeetsStr2
import PyProof.CompMap
import KE.IntTextLaws
import PyProof.Rows.StrPartPair
import PyProof.StrLawsTight
import PyProof.StrLawsChain
import PyProof.Rows.StrIntSpec
import PyProof.Rows.StrItems
import KE.KNest
import KE.KLam
import PyProof.ReprRoads
import PyProof.ReprBulk
import PyProof.FitsInt
import PyProof.CallFns
import PyProof.Rows.FactsT3
import PyProof.ListRange
import PyProof.TupleOfSeq
import PyProof.TupleOfGen
import PyProof.ConsumeWalk
import PyProof.Rows.SeqGen
import PyProof.CompUse
import KE.KUnpack
import PyProof.Draws
import PyProof.Rows.RuleB_bool
import PyProof.WalkInts
import PyProof.SeqI3
import KE.KRevSl
import KE.BitLaws
import PyProof.Rows.SumAny
import PySem.Challenge.RW_trialdeal_k62_makers
set_option Elab.async false
set_option linter.all false
set_option maxRecDepth 100000
namespace L2
open PySem PySem.Spec PyProof.Rows
inductive Key where
  | inl (i : Int) | inr (x : Str) | non
  deriving DecidableEq
def keyIs : Key → Value → Bool
  | .inl k, v => Value.isInt k v
  | .inr x, v => Value.isStrOf x v
  | .non, v => v == .none
def keyH (w : World) : Key → Int
  | .inl k => hashInt k
  | .inr x => hashStr w x
  | .non => 0xFCA86420
theorem pyHash_none {prog : Program} {w : World} {A : Around} {E : Value → Shared → Prop} {s : Shared} {Q : Int → Shared → Prop} (h : Q 0xFCA86420 { s with toks := s.toks + 1 }) : wpAny (model prog w) A (pyHash .none) Q E s := by
  unfold pyHash
  have hT : s.TypeIs .none "NoneType" := rfl
  have hv : [Value.none].any Value.onHeap = false := rfl
  refine wpAny_bind ?_
  rw [cRoomFor, if_neg (by rw [hv]; exact Bool.false_ne_true)]; refine wpAny_pure ?_
  refine wpAny_bind (wpAny_specialOf hT PySem.F.slot_NoneType_hash.lookup ?_)
  show wpAny _ _ (if (some (Value.builtin "NoneType.__hash__") == some Value.none) = true then _ else _) Q E s
  rw [if_neg (by rw [beq_builtin_none]; exact Bool.false_ne_true)]
  refine wpAny_bind (wpAny_specialOf hT PySem.F.slot_NoneType_hash.lookup ?_)
  show wpAny _ _ (callSpecialIfBoundUnlessNone? .none "__hash__" _ >>= _) Q E s
  refine wpAny_bind (wpAny_callSpecialIfBoundUnlessNone?_slot hT PySem.F.slot_NoneType_hash
    (wpAny_call_entry PySem.F.slot_NoneType_hash hT PySem.F.entry_NoneType_hash
      (show wpAny _ _ (do ret (← mkInt 0xFCA86420)) _ _ s from wpAny_ret_mkInt ?_) (PySem.F.args_NoneType_hash_1 _)))
  show wpAny _ _ (if (decide (-(2 : Int) ^ 63 ≤ 0xFCA86420) && decide ((0xFCA86420 : Int) < 2 ^ 63)) = true then _ else _) Q E _
  rw [if_pos (by decide)]
  exact wpAny_pure h
theorem keyIs_shape : ∀ {k : Key} {v : Value}, keyIs k v = true → (∃ i t, k = Key.inl i ∧ v = Value.int i t) ∨ (∃ x t, k = Key.inr x ∧ v = Value.str x t) ∨ (k = Key.non ∧ v = Value.none)
  | .inl i, v, h => by
    obtain ⟨t, e⟩ := Value.isInt_shape (k := i) (v := v) h
    exact .inl ⟨i, t, rfl, e⟩
  | .inr x, v, h => by
    obtain ⟨t, e⟩ := Value.isStrOf_shape (x := x) (v := v) h
    exact .inr (.inl ⟨x, t, rfl, e⟩)
  | .non, v, h => .inr (.inr ⟨rfl, eq_of_beq h⟩)
theorem key_ll (a b : Int) : decide (Key.inl a = Key.inl b) = (a == b) := by
  by_cases e : a = b
  · subst e; simp
  · rw [decide_eq_false (fun q => e (Key.inl.inj q))]
    exact (beq_eq_false_iff_ne.mpr e).symm
theorem key_rr (a b : Str) : decide (Key.inr a = Key.inr b) = decide (a = b) := by
  by_cases e : a = b
  · subst e; simp
  · rw [decide_eq_false (fun q => e (Key.inr.inj q)), decide_eq_false e]
theorem key_lr (a : Int) (b : Str) : decide (Key.inl a = Key.inr b) = false := decide_eq_false (fun q => nomatch q)
theorem key_rl (a : Str) (b : Int) : decide (Key.inr a = Key.inl b) = false := decide_eq_false (fun q => nomatch q)
theorem key_ln (a : Int) : decide (Key.inl a = Key.non) = false := decide_eq_false (fun q => nomatch q)
theorem key_nl (a : Int) : decide (Key.non = Key.inl a) = false := decide_eq_false (fun q => nomatch q)
theorem key_rn (a : Str) : decide (Key.inr a = Key.non) = false := decide_eq_false (fun q => nomatch q)
theorem key_nr (a : Str) : decide (Key.non = Key.inr a) = false := decide_eq_false (fun q => nomatch q)
def mixKind (prog : Program) (w : World) : PySem.KeyKind prog w Key where
  is := keyIs
  hash := keyH w
  inj := fun v a b ha hb => by
    rcases keyIs_shape ha with ⟨i, t, rfl, rfl⟩ | ⟨x, t, rfl, rfl⟩ | ⟨rfl, rfl⟩
    · rcases keyIs_shape hb with ⟨j, u, rfl, e⟩ | ⟨y, u, rfl, e⟩ | ⟨rfl, e⟩
      · injection e with e1 _; rw [e1]
      · exact nomatch e
      · exact nomatch e
    · rcases keyIs_shape hb with ⟨j, u, rfl, e⟩ | ⟨y, u, rfl, e⟩ | ⟨rfl, e⟩
      · exact nomatch e
      · injection e with e1 _; rw [e1]
      · exact nomatch e
    · rcases keyIs_shape hb with ⟨j, u, rfl, e⟩ | ⟨y, u, rfl, e⟩ | ⟨rfl, e⟩
      · exact nomatch e
      · exact nomatch e
      · rfl
  byValue := fun k v h => by
    rcases keyIs_shape h with ⟨i, t, rfl, rfl⟩ | ⟨x, t, rfl, rfl⟩ | ⟨rfl, rfl⟩ <;> rfl
  pyHash := fun hv h => by
    rcases keyIs_shape hv with ⟨i, t, rfl, rfl⟩ | ⟨x, t, rfl, rfl⟩ | ⟨rfl, rfl⟩
    · exact wpAny_pyHash_int h
    · exact wpAny_pyHash_str h
    · exact pyHash_none h
  eqBool := fun hu hv h => by
    rcases keyIs_shape hu with ⟨i, t, rfl, rfl⟩ | ⟨x, t, rfl, rfl⟩ | ⟨rfl, rfl⟩
    · rcases keyIs_shape hv with ⟨j, u, rfl, rfl⟩ | ⟨y, u, rfl, rfl⟩ | ⟨rfl, rfl⟩
      · rw [key_ll] at h; exact wpAny_eqBool_int h
      · rw [key_lr] at h; exact SeqAt.EqAt.int_str i t y u _ _ _ _ h
      · rw [key_ln] at h; exact SeqAt.EqAt.int_none i t _ _ _ _ h
    · rcases keyIs_shape hv with ⟨j, u, rfl, rfl⟩ | ⟨y, u, rfl, rfl⟩ | ⟨rfl, rfl⟩
      · rw [key_rl] at h; exact SeqAt.EqAt.str_int x t j u _ _ _ _ h
      · rw [key_rr] at h; exact wpAny_eqBool_str h
      · rw [key_rn] at h; exact SeqAt.EqAt.str_none x t _ _ _ _ h
    · rcases keyIs_shape hv with ⟨j, u, rfl, rfl⟩ | ⟨y, u, rfl, rfl⟩ | ⟨rfl, rfl⟩
      · rw [key_nl] at h; exact SeqAt.EqAt.none_int j u _ _ _ _ h
      · rw [key_nr] at h; exact SeqAt.EqAt.none_str y u _ _ _ _ h
      · exact SeqAt.EqAt.same _ _ _ _ _ (by simpa using h)
  «strs» := fun k x t v h => by
    rcases keyIs_shape h with ⟨i, u, rfl, e⟩ | ⟨y, u, rfl, e⟩ | ⟨rfl, e⟩
    · exact nomatch e
    · injection e with e1 _
      subst e1
      cases v <;> rfl
    · exact nomatch e
theorem mixKind_is (prog : Program) (w : World) (k : Key) (v : Value) : (mixKind prog w).is k v = keyIs k v := rfl
end L2
namespace L2
open PySem PySem.Spec PyProof.Rows
inductive V where
  | non | bl (b : Bool) | int (i : Int) | str (x : Str) | byt (b : Array UInt8) | flt (b : UInt64) | ref (a : Addr) | ty (n : String)
  deriving DecidableEq
def RelV : V → Value → Prop
  | .non, u => u = Value.none
  | .bl b, u => u = Value.bool b
  | .int i, u => ∃ t, u = Value.int i t
  | .str x, u => ∃ t, u = Value.str x t
  | .byt b, u => ∃ t, u = Value.bytes b t
  | .flt b, u => ∃ t, u = Value.float b t
  | .ref a, u => u = Value.ref a
  | .ty n, u => u = Value.type n
abbrev Vals : List V → List Value → Prop := Paired RelV
theorem Vals.length {xs : List V} {us : List Value} (r : Vals xs us) : xs.length = us.length := Paired.length r
theorem Vals.get : ∀ {xs : List V} {us : List Value} {i : Nat} {x : V}, Vals xs us → xs[i]? = some x → ∃ u, us[i]? = some u ∧ RelV x u
  | _, _, _, _, .nil, e => by simp at e
  | _, _, 0, _, .cons r _, e => by simp at e; subst e; exact ⟨_, rfl, r⟩
  | _, _, i + 1, x, .cons _ t, e => by
    obtain ⟨u, h1, h2⟩ := Vals.get (i := i) (x := x) t (by simpa using e)
    exact ⟨u, by simpa using h1, h2⟩
theorem Vals.set {x : V} {u : Value} (r : RelV x u) : ∀ {xs : List V} {us : List Value} (i : Nat), Vals xs us → Vals (xs.set i x) (us.set i u)
  | _, _, _, .nil => .nil
  | _, _, 0, .cons _ t => .cons r t
  | _, _, i + 1, .cons q t => .cons q (Vals.set r i t)
theorem Vals.append : ∀ {xs ys : List V} {us ws : List Value}, Vals xs us → Vals ys ws → Vals (xs ++ ys) (us ++ ws)
  | _, _, _, _, .nil, s => s
  | _, _, _, _, .cons r t, s => .cons r (Vals.append t s)
def RelO : Option V → Option Value → Prop
  | some v, some u => RelV v u
  | none, none => True
  | _, _ => False
def KV {κ : Type} : List (κ × V) → List (κ × Value) → Prop := Paired fun (p : κ × V) (q : κ × Value) => p.1 = q.1 ∧ RelV p.2 q.2
def kV : Key → V
  | .inl i => .int i
  | .inr x => .str x
  | .non => .non
inductive HO where
  | lst (xs : List V)
  | tup (xs : List V)
  | dK (kvs : List (Key × V)) | dT (kvs : List (List Key × V))
  | set (S : Int → Bool) (n : Nat)
  | ins (C dx : Addr) (fs : List (Str × V))
  | own (x : Addr)
  | xd (fs : List (Str × V))
  | met (f x : Addr)
  | rng (lo hi : Int)
  | frz (o : Obj) (u : HO)
  | tbl (ps : Array Value)
  | ext (φ : Heap → Prop)
abbrev Hp := Addr → Option HO
def upd (H : Hp) (a : Addr) (o : HO) : Hp := fun b => if b = a then some o else H b
theorem upd_same {H : Hp} {a : Addr} {o : HO} : upd H a o a = some o := by unfold upd; rw [if_pos rfl]
theorem upd_ne {H : Hp} {a b : Addr} {o : HO} (h : b ≠ a) : upd H a o b = H b := by unfold upd; rw [if_neg h]
theorem upd_upd {H : Hp} {a : Addr} {o u : HO} : upd (upd H a o) a u = upd H a u := by
  funext b; unfold upd; split <;> rfl
theorem ne_of_none {H : Hp} {a b : Addr} {o : HO} (h : H a = some o) (h' : H b = none) : a ≠ b := by
  intro e; subst e; rw [h] at h'; cases h'
section
variable (P : Program) (w : World)
def ObjOk (H : Hp) (h : Heap) (a : Addr) : HO → Prop
  | .lst xs => xs.length ≤ sizeLine ∧ ∃ (its : List Value) (n : Nat), Vals xs its ∧ h.get? a = some { cls := .type "list", data := .seq its.toArray n }
  | .tup xs => xs.length ≤ sizeLine ∧ ∃ its : List Value, Vals xs its ∧ IsTup h a its.toArray
  | .dK kvs => kvs.length ≤ sizeLine ∧ (a == sysModules) = false ∧ ∃ vs, KV kvs vs ∧ h.DictOf (mixKind P w) a vs
  | .dT kvs => kvs.length ≤ sizeLine ∧ (a == sysModules) = false ∧ ∃ xs : List (List Key × Addr × Value),
      Paired (fun (p : List Key × V) (q : List Key × Addr × Value) => p.1 = q.1 ∧ H q.2.1 = some (.tup (p.1.map kV)) ∧ RelV p.2 q.2.2) kvs xs ∧
      ∃ o es ep, h.get? a = some o ∧ o.ExactDict ∧ o.data = .dict es ep ∧ es.toList = xs.map (entryOfKey (tupleKind (mixKind P w))) ∧ (xs.map (·.1)).Nodup
  | .set S n => h.SetOf (intKind P w) a S n
  | .ins C dx fs => H dx = some (.own a) ∧ fs.length ≤ 1000 ∧ dx ≠ a ∧ h.get? a = some (PySem.W.instObj C dx) ∧
      ∃ mA, h.Ns1 dx mA ∧ (∀ f, RelO (fs.lookup f) (mA f)) ∧ PySem.Within mA (fs.map (·.1))
  | .own _ => ∃ o, h.get? a = some o
  | .xd fs => ∃ mA, h.Ns1 a mA ∧ ∀ f, RelO (fs.lookup f) (mA f)
  | .rng lo hi => ∃ t u v, h.get? a = some { cls := .type "range", data := .fields #[.int lo t, .int hi u, .int 1 v] }
  | .frz o u => h.get? a = some o ∧ ObjOk H h a u
  | .tbl ps => h.get? a = some { cls := .none, data := .fields ps }
  | .met f x => h.get? a = some (PySem.W.methodObj (.ref f) (.ref x))
  | .ext φ => φ h ∧ (∃ o, h.get? a = some o) ∧ ∀ h1 h2 : Heap, φ h1 → (∀ o, h1.get? a = some o → h2.get? a = some o) → φ h2
def HOk (H : Hp) (h : Heap) : Prop := ∀ a o, H a = some o → ObjOk P w H h a o
end
section
variable {P : Program} {w : World} {H H' : Hp} {h h' : Heap} {a : Addr} {o : HO}
theorem ObjOk.lt (x : ObjOk P w H h a o) : a < h.objs.size := by
  cases o with
  | lst xs => obtain ⟨_, _, _, _, e⟩ := x; exact Heap.lt_size e
  | tup xs => obtain ⟨_, _, _, p⟩ := x; exact p.lt
  | dK kvs => obtain ⟨_, _, _, _, o, _, _, e, _⟩ := x; exact Heap.lt_size e
  | dT kvs => obtain ⟨_, _, _, _, o, _, _, e, _⟩ := x; exact Heap.lt_size e
  | set S n => obtain ⟨o, _, _, _, e, _⟩ := x; exact Heap.lt_size e
  | ins C dx fs => obtain ⟨_, _, _, e, _⟩ := x; exact Heap.lt_size e
  | own y => obtain ⟨_, e⟩ := x; exact Heap.lt_size e
  | xd fs => obtain ⟨_, ⟨_, _, _, e, _⟩, _⟩ := x; exact Heap.lt_size e
  | rng lo hi => obtain ⟨_, _, _, e⟩ := x; exact Heap.lt_size e
  | frz ob u => obtain ⟨e, _⟩ := x; exact Heap.lt_size e
  | tbl ps => exact Heap.lt_size (show h.get? a = some _ from x)
  | met f y => exact Heap.lt_size (show h.get? a = some _ from x)
  | ext φ => obtain ⟨_, ⟨_, e⟩, _⟩ := x; exact Heap.lt_size e
theorem Paired.mapP {α β : Type} {F G : α → β → Prop} : ∀ {l₁ : List α} {l₂ : List β}, Paired F l₁ l₂ → (∀ a b, F a b → G a b) → Paired G l₁ l₂
  | _, _, .nil, _ => .nil
  | _, _, .cons r t, f => .cons (f _ _ r) (Paired.mapP t f)
theorem ObjOk.stay (x : ObjOk P w H h a o) (k : ∀ b u, (b = a ∨ H b = some (.own a)) → h.get? b = some u → h'.get? b = some u)
    (ho : ∀ b, H b = some (.own a) → H' b = some (.own a)) (ht : ∀ b xs, H b = some (.tup xs) → H' b = some (.tup xs)) : ObjOk P w H' h' a o := by
  induction o with
  | lst xs => obtain ⟨z, its, n, r, e⟩ := x; exact ⟨z, its, n, r, k _ _ (.inl rfl) e⟩
  | tup xs => obtain ⟨z, its, r, ob, e, c⟩ := x; exact ⟨z, its, r, ob, k _ _ (.inl rfl) e, c⟩
  | dK kvs => obtain ⟨z, y, vs, r, ob, es, ep, e, c⟩ := x; exact ⟨z, y, vs, r, ob, es, ep, k _ _ (.inl rfl) e, c⟩
  | dT kvs =>
    obtain ⟨z, y, xs, r, ob, es, ep, e, c⟩ := x
    exact ⟨z, y, xs, Paired.mapP r fun p q z => ⟨z.1, ht _ _ z.2.1, z.2.2⟩, ob, es, ep, k _ _ (.inl rfl) e, c⟩
  | set S n => obtain ⟨ob, es, ep, t, e, c⟩ := x; exact ⟨ob, es, ep, t, k _ _ (.inl rfl) e, c⟩
  | ins C dx fs =>
    obtain ⟨d, z, ne, e, mA, ⟨od, es, ep, e2, c⟩, r⟩ := x
    exact ⟨ho _ d, z, ne, k _ _ (.inl rfl) e, mA, ⟨od, es, ep, k _ _ (.inr d) e2, c⟩, r⟩
  | own y => obtain ⟨ob, e⟩ := x; exact ⟨ob, k _ _ (.inl rfl) e⟩
  | xd fs => obtain ⟨mA, ⟨od, es, ep, e, c⟩, r⟩ := x; exact ⟨mA, ⟨od, es, ep, k _ _ (.inl rfl) e, c⟩, r⟩
  | rng lo hi => obtain ⟨t, u, v, e⟩ := x; exact ⟨t, u, v, k _ _ (.inl rfl) e⟩
  | frz ob u ih => obtain ⟨e, q⟩ := x; exact ⟨k _ _ (.inl rfl) e, ih q⟩
  | tbl ps =>
    have e : h.get? a = some { cls := .none, data := .fields ps } := x
    show h'.get? a = some { cls := .none, data := .fields ps }
    exact k a _ (.inl rfl) e
  | met f y =>
    have e : h.get? a = some (PySem.W.methodObj (.ref f) (.ref y)) := x
    show h'.get? a = some (PySem.W.methodObj (.ref f) (.ref y))
    exact k a _ (.inl rfl) e
  | ext φ => obtain ⟨p, ⟨o, e⟩, st⟩ := x; exact ⟨st _ _ p fun o q => k _ _ (.inl rfl) q, ⟨o, k _ _ (.inl rfl) e⟩, st⟩
theorem HOk.lt (x : HOk P w H h) (e : H a = some o) : a < h.objs.size := (x a o e).lt
theorem HOk.fresh (x : HOk P w H h) (e : h.objs.size ≤ a) : H a = none := by
  cases q : H a with
  | none => rfl
  | some u => exact absurd (Nat.lt_of_lt_of_le (x.lt q) e) (Nat.lt_irrefl _)
theorem HOk.kept (x : HOk P w H h) (k : ∀ b u, h.get? b = some u → h'.get? b = some u) : HOk P w H h' := fun a o e =>
  (x a o e).stay (fun b u _ q => k b u q) (fun _ q => q) fun _ _ q => q
theorem HOk.laid (x : HOk P w H h) (k : ∀ b u, h.get? b = some u → h'.get? b = some u) (hp : h.objs.size ≤ a) (new : ObjOk P w (upd H a o) h' a o) : HOk P w (upd H a o) h' := fun b u e => by
  have hn := x.fresh hp
  by_cases hb : b = a
  · subst hb; rw [upd_same] at e; cases e; exact new
  · rw [upd_ne hb] at e
    exact (x b u e).stay (fun c v _ q => k c v q) (fun c q => by rw [upd_ne (ne_of_none q hn)]; exact q) fun c xs q => by rw [upd_ne (ne_of_none q hn)]; exact q
end
def Rd (H : Hp) (a : Addr) (u : HO) : Prop := H a = some u ∨ ∃ o, H a = some (.frz o u)
theorem Rd.ok {P : Program} {w : World} {H : Hp} {h : Heap} {a : Addr} {u : HO} (r : Rd H a u) (x : HOk P w H h) : ObjOk P w H h a u := by
  rcases r with r | ⟨o, r⟩
  · exact x a u r
  · obtain ⟨_, q⟩ := x a _ r
    exact q
def Mut : Option HO → Prop
  | some (.lst _) => True
  | some (.dK _) => True
  | some (.dT _) => True
  | some (.set _ _) => True
  | some (.ins _ _ _) => True
  | some (.ext _) => True
  | _ => False
section
variable {P : Program} {w : World} {H : Hp} {h h' : Heap} {x e : Addr} {o' : HO}
theorem HOk.write (ok : HOk P w H h) (mu : Mut (H x)) (he : e = x ∨ H e = some (.own x)) (k : ∀ b u, b ≠ e → h.get? b = some u → h'.get? b = some u) (heo : ∃ u, h'.get? e = some u)
    (new : ObjOk P w (upd H x o') h' x o') : HOk P w (upd H x o') h' := fun b u q => by
  have nown : ∀ c y, H c = some (.own y) → c ≠ x := fun c y r z => by subst z; rw [r] at mu; exact mu
  have ntup : ∀ c xs, H c = some (.tup xs) → c ≠ x := fun c xs r z => by subst z; rw [r] at mu; exact mu
  by_cases hb : b = x
  · subst hb; rw [upd_same] at q; cases q; exact new
  · rw [upd_ne hb] at q
    by_cases hbe : b = e
    · have q' : H b = some (.own x) := by
        rcases he with z | z
        · exact absurd (hbe.trans z) hb
        · rw [hbe]; exact z
      rw [q] at q'; cases q'
      obtain ⟨v, hv⟩ := heo
      exact ⟨v, by rw [hbe]; exact hv⟩
    · refine (ok b u q).stay (fun c v hc r => k c v ?_ r) (fun c r => by rw [upd_ne (nown c b r)]; exact r) fun c xs r => by rw [upd_ne (ntup c xs r)]; exact r
      rcases hc with rfl | hc
      · exact hbe
      · rintro rfl
        rcases he with z | z
        · exact nown c b hc z
        · rw [hc] at z; cases z; exact hb rfl
end
structure Un (fs ex : List Addr) (H H' : Hp) (h h' : Heap) : Prop where
  keep : ∀ b o, h.get? b = some o → H b = none → b ∉ fs → b ∉ ex → h'.get? b = some o
  slot : ∀ b o, h.get? b = some o → H b = none → b ∈ fs → b ∉ ex → ∃ sl, h'.get? b = some { o with slots := sl }
  free : ∀ b o, h.get? b = some o → H b = none → b ∉ ex → H' b = none
  there : ∀ b o, h.get? b = some o → b ∉ ex → ∃ o', h'.get? b = some o'
  tups : ∀ b xs, H b = some (.tup xs) → H' b = some (.tup xs)
  frzs : ∀ b o u, H b = some (.frz o u) → H' b = some (.frz o u)
  tbls : ∀ b ps, H b = some (.tbl ps) → ∃ more, H' b = some (.tbl (ps ++ more))
  sys : H sysModules = none → H' sysModules = none
section
variable {fs fs' ex ex' : List Addr} {H H1 H2 : Hp} {h h1 h2 h' : Heap} {a x e : Addr} {o : HO}
theorem Un.any (u : Un fs ex H H1 h h1) {b : Addr} {ob : Obj} (q : h.get? b = some ob) (n : H b = none) (hx : b ∉ ex) : ∃ sl, h1.get? b = some { ob with slots := sl } := by
  by_cases hb : b ∈ fs
  · exact u.slot b ob q n hb hx
  · exact ⟨ob.slots, u.keep b ob q n hb hx⟩
theorem Un.kept (k : ∀ b u, h.get? b = some u → h'.get? b = some u) : Un fs ex H H h h' :=
  ⟨fun b ob q _ _ _ => k b ob q, fun b ob q _ _ _ => ⟨ob.slots, k b ob q⟩, fun _ _ _ n _ => n, fun b ob q _ => ⟨ob, k b ob q⟩, fun _ _ q => q, fun _ _ _ q => q, fun _ ps q => ⟨#[], by rw [q]; simp⟩, fun q => q⟩
theorem Un.refl : Un fs ex H H h h := Un.kept fun _ _ q => q
theorem Un.laid (k : ∀ b u, h.get? b = some u → h'.get? b = some u) (hp : h.objs.size ≤ a) (hn : H a = none) (hz : sysModules < h.objs.size) : Un fs ex H (upd H a o) h h' where
  sys := fun q => by rw [upd_ne (Nat.ne_of_lt (Nat.lt_of_lt_of_le hz hp))]; exact q
  keep := fun b u q _ _ _ => k b u q
  slot := fun b u q _ _ _ => ⟨u.slots, k b u q⟩
  free := fun b u q n _ => by rw [upd_ne (Nat.ne_of_lt (Nat.lt_of_lt_of_le (Heap.lt_size q) hp))]; exact n
  there := fun b u q _ => ⟨u, k b u q⟩
  tups := fun b xs q => by rw [upd_ne (ne_of_none q hn)]; exact q
  frzs := fun b u xs q => by rw [upd_ne (ne_of_none q hn)]; exact q
  tbls := fun b ps q => ⟨#[], by rw [upd_ne (ne_of_none q hn), q]; simp⟩
theorem Un.write (mu : Mut (H x)) (he : e = x ∨ H e = some (.own x)) (k : ∀ b u, b ≠ e → h.get? b = some u → h'.get? b = some u) (heo : ∃ u, h'.get? e = some u) : Un fs ex H (upd H x o) h h' := by
  have hx : ∀ b, H b = none → b ≠ x := fun b n z => by subst z; rw [n] at mu; exact mu
  have hb : ∀ b, H b = none → b ≠ e := fun b n z => by
    subst z
    rcases he with r | r
    · exact hx b n r
    · rw [n] at r; cases r
  have hm : ∀ b u, H b = some u → ¬ Mut (some u) → b ≠ x := fun b u q nm z => by subst z; rw [q] at mu; exact nm mu
  refine ⟨fun b u q n _ _ => k b u (hb b n) q, fun b u q n _ _ => ⟨u.slots, k b u (hb b n) q⟩, fun b u q n _ => by rw [upd_ne (hx b n)]; exact n, fun b u q _ => ?_,
    fun b xs q => by rw [upd_ne (hm b _ q fun z => z)]; exact q, fun b u xs q => by rw [upd_ne (hm b _ q fun z => z)]; exact q, fun b ps q => ⟨#[], by rw [upd_ne (hm b _ q fun z => z), q]; simp⟩, fun q => by rw [upd_ne (hx _ q)]; exact q⟩
  by_cases hbe : b = e
  · subst hbe; exact heo
  · exact ⟨u, k b u hbe q⟩
end
def trk (h : Heap) (H : Hp) : List Addr := (List.range h.objs.size).filter fun a => (H a).isSome
def hidT (h : Heap) (H : Hp) : Heap := PySem.W.hideAll h (trk h H)
theorem hidT_size (h : Heap) (H : Hp) : (hidT h H).objs.size = h.objs.size := PySem.W.hideAll_size _ _
theorem hidT_get {h : Heap} {H : Hp} {b : Addr} {o : Obj} (e : h.get? b = some o) (n : H b = none) : (hidT h H).get? b = some o :=
  PySem.W.hideAll_get _ e fun hm => by
    have q : (H b).isSome = true := (List.mem_filter.mp hm).2
    rw [n] at q; simp at q
theorem of_hidT {h : Heap} {H : Hp} {b : Addr} {o : Obj} (e : (hidT h H).get? b = some o) : h.get? b = some o ∧ H b = none := by
  have e' : h.get? b = some o := PySem.W.of_hideAll (trk h H) e
  refine ⟨e', ?_⟩
  cases q : H b with
  | none => rfl
  | some x =>
    have hm : b ∈ trk h H := List.mem_filter.mpr ⟨List.mem_range.mpr (Heap.lt_size e'), by simp [q]⟩
    have z : (hidT h H).get? b = none := PySem.W.hideAll_none (trk h H) hm
    rw [z] at e; cases e
def allNews (g h : Heap) (L : Addr) : List (Addr × Obj) := (List.range h.objs.size).filterMap fun a => if a = L ∨ (g.get? a).isSome = true then none else (h.get? a).map fun o => (a, o)
def rest (g h : Heap) (L d : Addr) : List (Addr × Obj) := (allNews g h L).filter fun p => decide (p.1 ≠ d)
end L2
namespace L2
open PySem PySem.Spec PyProof.Rows
structure Mod (K : PySem.W.Frag) (mg : Str → Option Value) (base : Heap) : Prop where
  kin : K.In base
  glob : base.Ns mainGlobals mg
  blt : ∃ mb, base.Ns builtinsNs mb ∧ ∀ x : Str, x ≠ "__name__" → mb x = bootBuiltins x
  nolimit : base.NoLimit
structure Cx where
  prog : Program
  w : World
  K : PySem.W.Frag
  mg : Str → Option Value
  base : Heap
  A : Around
  N : List Str
  s₀ : Shared
  H₀ : Hp
  env : Env
  outer : List Env
  stack : List Env
  ex : List Addr
  fn : Str → Bool
  calm : Bool
  pn : List (Addr × Obj)
  xe : Value → Shared → Prop
def frs (l : List Env) : List Addr := l.filterMap (·.frame)
abbrev Cx.fs (X : Cx) : List Addr := frs X.outer
def Vis (sc : Scope) (x : Str) : Prop := sc.names.lookup x = some .local ∨ sc.names.lookup x = some .cell ∨ sc.names.lookup x = some .free
def Loc (sc : Scope) (x : Str) : Prop := sc.names.lookup x = some .local ∨ sc.names.lookup x = some .cell
def Look (env : Env) (h : Heap) (m : Str → Option Value) (x : Str) (u : Value) : Prop :=
  (env.kindOf x = some .local ∧ m x = some u) ∨ ((env.kindOf x = some .cell ∨ env.kindOf x = some .free) ∧ ∃ c, env.cells.lookup x = some c ∧ h.IsCell c (some u))
structure Cx.Ok (X : Cx) : Prop where
  mod : Mod X.K X.mg X.base
  kind : X.env.scope.kind = .function
  glob : X.env.globals = mainGlobals
  blt : X.env.builtins = builtinsNs
  above : X.s₀.heap.objs.size ≤ X.env.locals
  inj : ∀ x y c, X.env.cells.lookup x = some c → X.env.cells.lookup y = some c → x = y
  has : ∀ x, (X.env.kindOf x = some .cell ∨ X.env.kindOf x = some .free) → ∃ c, X.env.cells.lookup x = some c
  cab : ∀ x c, X.fn x = true → X.env.cells.lookup x = some c → X.s₀.heap.objs.size ≤ c
  hd : X.calm = true → X.A.handled = none
  frames : X.A.frames = some X.stack
  stk : X.stack = X.outer ∨ (X.stack = X.env :: X.outer ∧ X.env.frame = some X.env.locals)
  exf : ∀ b ∈ X.ex, b ≠ X.env.locals ∧ ∀ x c, X.env.cells.lookup x = some c → c ≠ b
  bs : ∀ b o, X.base.get? b = some o → X.s₀.heap.get? b = some o ∧ X.H₀ b = none
  bsz : X.base.objs.size ≤ X.s₀.heap.objs.size
  noex : ∀ b o, X.base.get? b = some o → b ∉ X.ex
  exfs : ∀ b ∈ X.ex, b ∉ X.fs
  funs : X.s₀.heap.FunFrames X.base X.outer
  frf : ∀ b ∈ X.fs, X.H₀ b = none
structure Inv (X : Cx) (pins : List (Addr × Obj)) (σ : List (Option V)) (H : Hp) (s : Shared) : Prop where
  ok : X.Ok
  os : s.os = X.s₀.os
  bare : AllBare s.gens
  base : Un X.fs X.ex X.H₀ H X.s₀.heap s.heap
  loc : ∃ m, s.heap.Ns X.env.locals m ∧ ∀ (i : Nat) (x : Str) (v : V), X.N[i]? = some x → σ[i]? = some (some v) → Vis X.env.scope x → ∃ u, RelV v u ∧ Look X.env s.heap m x u
  cell : ∀ x c, X.env.cells.lookup x = some c → ∃ v, s.heap.IsCell c v
  free : H X.env.locals = none
  freeC : ∀ x c, X.env.cells.lookup x = some c → H c = none
  pin : ∀ p ∈ X.pn ++ pins, s.heap.get? p.1 = some p.2 ∧ H p.1 = none ∧ p.1 ≠ X.env.locals ∧ p.1 ∉ X.fs ∧ ∀ v, p.2.data ≠ .cell v
  hok : HOk X.prog X.w H s.heap
  len : σ.length = X.N.length
section
variable {X : Cx} {pins : List (Addr × Obj)} {σ : List (Option V)} {H H' : Hp} {s : Shared} {h' : Heap}
theorem Cx.Ok.nofr (ok : X.Ok) {b : Addr} {o : Obj} (e : X.base.get? b = some o) : b ∉ X.fs := fun hb => by
  have := (ok.funs.mem hb).1
  rw [e] at this; cases this
theorem Inv.bs (I : Inv X pins σ H s) : ∀ b o, X.base.get? b = some o → s.heap.get? b = some o ∧ H b = none := fun b o e =>
  ⟨I.base.keep b o (I.ok.bs b o e).1 (I.ok.bs b o e).2 (I.ok.nofr e) (I.ok.noex b o e), I.base.free b o (I.ok.bs b o e).1 (I.ok.bs b o e).2 (I.ok.noex b o e)⟩
theorem Inv.bk (I : Inv X pins σ H s) : ∀ b o, X.base.get? b = some o → s.heap.get? b = some o := fun b o e => (I.bs b o e).1
theorem Inv.mod (I : Inv X pins σ H s) : Mod X.K X.mg X.base := I.ok.mod
theorem Inv.kIn (I : Inv X pins σ H s) : X.K.In s.heap := I.ok.mod.kin.keeps I.bk
theorem Inv.lt (I : Inv X pins σ H s) : X.env.locals < s.heap.objs.size := let ⟨_, hn, _⟩ := I.loc; hn.lt
theorem Inv.sz (I : Inv X pins σ H s) : X.s₀.heap.objs.size ≤ s.heap.objs.size := Nat.le_trans I.ok.above (Nat.le_of_lt I.lt)
theorem Inv.nofs (I : Inv X pins σ H s) {a : Addr} (h : s.heap.objs.size ≤ a) : a ∉ X.fs := fun hb => by
  obtain ⟨_, o, ho, _⟩ := I.ok.funs.mem hb
  exact absurd (Nat.lt_of_lt_of_le (Heap.lt_size ho) (Nat.le_trans I.sz h)) (Nat.lt_irrefl _)
theorem Inv.cne (I : Inv X pins σ H s) : ∀ x c, X.env.cells.lookup x = some c → c ≠ X.env.locals := fun x c e z => by
  obtain ⟨v, o, ho, hd⟩ := I.cell x c e
  obtain ⟨m, ⟨o', es, ep, ho', hd', _⟩, _⟩ := I.loc
  rw [z, ho'] at ho; cases ho; rw [hd'] at hd; cases hd
theorem Inv.funs (I : Inv X pins σ H s) : s.heap.FunFrames X.base X.outer := by
  have all : ∀ (l : List Env), (∀ b ∈ frs l, b ∈ X.fs) → X.s₀.heap.FunFrames X.base l → s.heap.FunFrames X.base l := by
    intro l
    induction l with
    | nil => intro _ _; trivial
    | cons env r ih =>
      intro hs hl
      obtain ⟨hk, ⟨L, o, hf, hn, ho, hd⟩, hr⟩ := hl
      have hL : L ∈ X.fs := hs L (by unfold frs; rw [List.filterMap_cons, hf]; exact List.mem_cons_self)
      obtain ⟨sl, e⟩ := I.base.slot L o ho (I.ok.frf L hL) hL fun z => I.ok.exfs L z hL
      exact ⟨hk, ⟨L, _, hf, hn, e, hd⟩, ih (fun b hb => hs b (by unfold frs; rw [List.filterMap_cons, hf]; exact List.mem_cons_of_mem _ hb)) hr⟩
  exact all X.outer (fun _ hb => hb) I.ok.funs
theorem Inv.stack (I : Inv X pins σ H s) : s.heap.FunFrames X.base X.stack := by
  rcases I.ok.stk with e | ⟨e, hf⟩
  · rw [e]; exact I.funs
  · rw [e]
    obtain ⟨m, hn, _⟩ := I.loc
    refine .cons (by rw [I.ok.kind]; decide) hf hn ?_ I.funs
    exact Heap.get?_none_of_le (Nat.le_trans I.ok.bsz I.ok.above)
theorem Inv.stkSub (I : Inv X pins σ H s) : ∀ b ∈ frs X.stack, b ∈ X.env.locals :: X.fs := fun b hb => by
  rcases I.ok.stk with e | ⟨e, hf⟩
  · rw [e] at hb; exact List.mem_cons_of_mem _ hb
  · rw [e] at hb
    unfold frs at hb
    rw [List.filterMap_cons, hf] at hb
    exact hb
theorem Inv.stkFree (I : Inv X pins σ H s) : ∀ b ∈ frs X.stack, H b = none := fun b hb => by
  rcases List.mem_cons.mp (I.stkSub b hb) with e | hb
  · rw [e]; exact I.free
  · obtain ⟨_, o, ho, _⟩ := I.ok.funs.mem hb
    exact I.base.free b o ho (I.ok.frf b hb) fun z => I.ok.exfs b z hb
theorem Inv.step {g' : Array GenState} {t' : Nat} {d' : Drawn} {ch : List Addr} (I : Inv X pins σ H s)
    (hch : ∀ b ∈ ch, (b ∈ X.ex ∨ X.s₀.heap.objs.size ≤ b) ∧ b ≠ X.env.locals ∧ (∀ x c, X.env.cells.lookup x = some c → c ≠ b) ∧ ∀ p ∈ X.pn ++ pins, p.1 ≠ b)
    (keep : ∀ b o, b ≠ X.env.locals → b ∉ X.fs → b ∉ ch → s.heap.get? b = some o → H b = none → h'.get? b = some o)
    (slot : ∀ b o, b ≠ X.env.locals → b ∈ X.fs → b ∉ ch → s.heap.get? b = some o → H b = none → ∃ sl, h'.get? b = some { o with slots := sl }) (free : ∀ b o, b ∉ ch → s.heap.get? b = some o → H b = none → H' b = none)
    (there : ∀ b o, b ∉ ch → s.heap.get? b = some o → ∃ o', h'.get? b = some o')
    (tups : ∀ b xs, H b = some (.tup xs) → H' b = some (.tup xs)) (frzs : ∀ b o u, H b = some (.frz o u) → H' b = some (.frz o u)) (tbls : ∀ b ps, H b = some (.tbl ps) → ∃ more, H' b = some (.tbl (ps ++ more))) (sys : H sysModules = none → H' sysModules = none)
    (ns : ∀ m, s.heap.Ns X.env.locals m → h'.Ns X.env.locals m) (hok : HOk X.prog X.w H' h') (hg : AllBare g') :
    Inv X pins σ H' { s with heap := h', gens := g', drawn := d', toks := t' } := by
  have neL : ∀ b o, X.s₀.heap.get? b = some o → b ≠ X.env.locals := fun b o e => Nat.ne_of_lt (Nat.lt_of_lt_of_le (Heap.lt_size e) I.ok.above)
  have neC : ∀ b o, X.s₀.heap.get? b = some o → b ∉ X.ex → b ∉ ch := fun b o e hx hb => by
    rcases (hch b hb).1 with z | z
    · exact hx z
    · exact absurd (Nat.lt_of_lt_of_le (Heap.lt_size e) z) (Nat.lt_irrefl _)
  have cellK : ∀ x c, X.env.cells.lookup x = some c → ∀ v, s.heap.IsCell c v → h'.IsCell c v := fun x c e v ⟨o, ho, hd⟩ => by
    have nch : c ∉ ch := fun z => (hch c z).2.2.1 x c e rfl
    by_cases hc : c ∈ X.fs
    · obtain ⟨sl, q⟩ := slot c o (I.cne x c e) hc nch ho (I.freeC x c e)
      exact ⟨_, q, hd⟩
    · exact ⟨o, keep c o (I.cne x c e) hc nch ho (I.freeC x c e), hd⟩
  refine ⟨I.ok, I.os, hg, ⟨fun b o e n hb hx => ?_, fun b o e n hb hx => ?_, fun b o e n hx => ?_, fun b o e hx => ?_, fun b xs e => tups b xs (I.base.tups b xs e), fun b o xs e => frzs b o xs (I.base.frzs b o xs e), fun b ps e => ?_, fun q => sys (I.base.sys q)⟩, ?_, fun x c e => ?_, ?_, fun x c e => ?_, fun p hp => ?_, hok, I.len⟩
  · exact keep b o (neL b o e) hb (neC b o e hx) (I.base.keep b o e n hb hx) (I.base.free b o e n hx)
  · obtain ⟨sl, e1⟩ := I.base.slot b o e n hb hx
    obtain ⟨sl', e2⟩ := slot b _ (neL b o e) hb (neC b o e hx) e1 (I.base.free b o e n hx)
    exact ⟨sl', e2⟩
  · obtain ⟨o', e1⟩ := I.base.there b o e hx
    exact free b o' (neC b o e hx) e1 (I.base.free b o e n hx)
  · obtain ⟨o', e1⟩ := I.base.there b o e hx
    exact there b o' (neC b o e hx) e1
  · obtain ⟨m1, e1⟩ := I.base.tbls b ps e
    obtain ⟨m2, e2⟩ := tbls b _ e1
    exact ⟨m1 ++ m2, by rw [e2, Array.append_assoc]⟩
  · obtain ⟨m, hn, hl⟩ := I.loc
    refine ⟨m, ns m hn, fun i x v e1 e2 e3 => ?_⟩
    obtain ⟨u, r, l⟩ := hl i x v e1 e2 e3
    refine ⟨u, r, ?_⟩
    rcases l with l | ⟨k, c, e, z⟩
    · exact .inl l
    · exact .inr ⟨k, c, e, cellK x c e _ z⟩
  · obtain ⟨v, z⟩ := I.cell x c e
    exact ⟨v, cellK x c e v z⟩
  · obtain ⟨m, ⟨o, _, _, ho, _⟩, _⟩ := I.loc
    exact free _ o (fun z => (hch _ z).2.1 rfl) ho I.free
  · obtain ⟨v, o, ho, hd⟩ := I.cell x c e
    exact free c o (fun z => (hch c z).2.2.1 x c e rfl) ho (I.freeC x c e)
  · obtain ⟨e, n, ne, nf, d⟩ := I.pin p hp
    have nch : p.1 ∉ ch := fun z => (hch p.1 z).2.2.2 p hp rfl
    exact ⟨keep p.1 p.2 ne nf nch e n, free p.1 p.2 nch e n, ne, nf, d⟩
theorem Inv.un {t' : Nat} (I : Inv X pins σ H s) (u : Un X.fs [] H H' s.heap h') (hok : HOk X.prog X.w H' h') : Inv X pins σ H' { s with heap := h', toks := t' } := by
  obtain ⟨m, ⟨o, es, ep, ho, r⟩, _⟩ := id I.loc
  obtain ⟨sl, hL⟩ := u.any ho I.free (by simp)
  exact I.step (g' := s.gens) (d' := s.drawn) (ch := []) (fun _ z => nomatch z) (fun b o _ hb _ e n => u.keep b o e n hb (by simp)) (fun b o _ hb _ e n => u.slot b o e n hb (by simp)) (fun b o _ e n => u.free b o e n (by simp)) (fun b o _ e => u.there b o e (by simp)) u.tups u.frzs u.tbls u.sys (fun m' hm => by
    obtain ⟨o', es', ep', ho', r'⟩ := hm
    rw [ho] at ho'; cases ho'
    exact ⟨_, es', ep', hL, r'⟩) hok I.bare
theorem Inv.call {g' : Array GenState} {t' : Nat} {d' : Drawn} {ch : List Addr} (I : Inv X pins σ H s) (u : Un (frs X.stack) ch H H' s.heap h') (hok : HOk X.prog X.w H' h') (hg : AllBare g')
    (hch : ∀ b ∈ ch, (b ∈ X.ex ∨ X.s₀.heap.objs.size ≤ b) ∧ b ≠ X.env.locals ∧ (∀ x c, X.env.cells.lookup x = some c → c ≠ b) ∧ ∀ p ∈ X.pn ++ pins, p.1 ≠ b) :
    Inv X pins σ H' { s with heap := h', gens := g', drawn := d', toks := t' } := by
  obtain ⟨m, ⟨o, es, ep, ho, r⟩, _⟩ := id I.loc
  obtain ⟨sl, hL⟩ := u.any ho I.free fun z => (hch _ z).2.1 rfl
  exact I.step (ch := ch) hch (fun b o hL hb hc e n => u.keep b o e n (fun z => (List.mem_cons.mp (I.stkSub b z)).elim hL hb) hc) (fun b o _ _ hc e n => u.any e n hc) (fun b o hc e n => u.free b o e n hc) (fun b o hc e => u.there b o e hc) u.tups u.frzs u.tbls u.sys (fun m' hm => by
    obtain ⟨o', es', ep', ho', r'⟩ := hm
    rw [ho] at ho'; cases ho'
    exact ⟨_, es', ep', hL, r'⟩) hok hg
theorem Inv.turned {t' : Nat} {it : Addr} (I : Inv X pins σ H s) (k : ∀ b o, b ≠ it → s.heap.get? b = some o → h'.get? b = some o) (hn : H it = none) (hL : it ≠ X.env.locals)
    (h1 : it ∈ X.ex ∨ X.s₀.heap.objs.size ≤ it) (h2 : ∀ x c, X.env.cells.lookup x = some c → c ≠ it) (h3 : ∀ p ∈ X.pn ++ pins, p.1 ≠ it) : Inv X pins σ H { s with heap := h', toks := t' } := by
  have nit : ∀ b u, H b = some u → b ≠ it := fun b u e z => by rw [z, hn] at e; cases e
  refine I.step (g' := s.gens) (d' := s.drawn) (ch := [it]) (fun b hb => ?_) (fun b o _ _ hc e _ => k b o (fun z => hc (by simp [z])) e) (fun b o _ _ hc e _ => ⟨o.slots, k b o (fun z => hc (by simp [z])) e⟩) (fun _ _ _ _ n => n)
    (fun b o hc e => ⟨o, k b o (fun z => hc (by simp [z])) e⟩) (fun _ _ e => e) (fun _ _ _ e => e) (fun b ps e => ⟨#[], by rw [e]; simp⟩) (fun q => q) (fun m hm => ?_) (fun b u e => ?_) I.bare
  · have e : b = it := by simpa using hb
    subst e
    exact ⟨h1, hL, h2, h3⟩
  · obtain ⟨o, es, ep, ho, r⟩ := hm
    exact ⟨o, es, ep, k _ o (Ne.symm hL) ho, r⟩
  · refine (I.hok b u e).stay (fun c v hc q => k c v ?_ q) (fun _ q => q) fun _ _ q => q
    rcases hc with z | z
    · rw [z]; exact nit b u e
    · exact nit c _ z
theorem Inv.tok (I : Inv X pins σ H s) (t : Nat) : Inv X pins σ H { s with toks := t } := I.un (h' := s.heap) (t' := t) Un.refl I.hok
theorem Inv.kept {t' : Nat} (I : Inv X pins σ H s) (k : ∀ b u, s.heap.get? b = some u → h'.get? b = some u) : Inv X pins σ H { s with heap := h', toks := t' } := I.un (Un.kept k) (I.hok.kept k)
theorem Inv.laid {a : Addr} {o : HO} {t' : Nat} (I : Inv X pins σ H s) (k : ∀ b u, s.heap.get? b = some u → h'.get? b = some u) (hp : s.heap.objs.size ≤ a) (new : ObjOk X.prog X.w (upd H a o) h' a o) :
    Inv X pins σ (upd H a o) { s with heap := h', toks := t' } := I.un (Un.laid k hp (I.hok.fresh hp) (Nat.lt_trans (by decide : sysModules < mainGlobals) (I.mod.glob.keeps I.bk).lt)) (I.hok.laid k hp new)
theorem Inv.write {x e : Addr} {o : HO} {t' : Nat} (I : Inv X pins σ H s) (mu : Mut (H x)) (he : e = x ∨ H e = some (.own x)) (k : ∀ b u, b ≠ e → s.heap.get? b = some u → h'.get? b = some u) (heo : ∃ u, h'.get? e = some u)
    (new : ObjOk X.prog X.w (upd H x o) h' x o) : Inv X pins σ (upd H x o) { s with heap := h', toks := t' } := I.un (Un.write mu he k heo) (I.hok.write mu he k heo new)
theorem Inv.pins_of {pins' : List (Addr × Obj)} (I : Inv X pins σ H s) (h : ∀ p ∈ pins', s.heap.get? p.1 = some p.2 ∧ H p.1 = none ∧ p.1 ≠ X.env.locals ∧ p.1 ∉ X.fs ∧ ∀ v, p.2.data ≠ .cell v) : Inv X pins' σ H s :=
  ⟨I.ok, I.os, I.bare, I.base, I.loc, I.cell, I.free, I.freeC, fun p hp => (List.mem_append.mp hp).elim (fun z => I.pin p (List.mem_append_left _ z)) (h p), I.hok, I.len⟩
theorem nodup_ix {N : List Str} (hN : N.Nodup) {i j : Nat} {x : Str} (a : N[i]? = some x) (b : N[j]? = some x) : i = j := by
  obtain ⟨h1, e1⟩ := List.getElem?_eq_some_iff.mp a
  obtain ⟨h2, e2⟩ := List.getElem?_eq_some_iff.mp b
  exact (List.getElem_inj hN).mp (e1.trans e2.symm)
theorem store_ok2 {M : Model} {A : Around} {E : Value → Shared → Prop} {i : Nat} {x : Str} {v : V} {u : Value} {Q : Unit → Shared → Prop} (I : Inv X pins σ H s) (hN : X.N.Nodup) (hi : X.N[i]? = some x) (hx : Loc X.env.scope x) (r : RelV v u)
    (h : ∀ s', Inv X pins (σ.set i (some v)) H s' → (∃ a, Heap.SameBut a s.heap s'.heap ∧ (a = X.env.locals ∨ X.env.cells.lookup x = some a)) → Q () s') (hf : X.fn x = true ∨ X.env.scope.names.lookup x = some .local := by first | exact .inl rfl | exact .inr rfl | assumption) : wpAny M A (storeName X.env x u) Q E s := by
  obtain ⟨m, hn, hl⟩ := id I.loc
  have hcls : (X.env.scope.kind == .class || (X.env.scope.kind == .module && X.env.locals != X.env.globals)) = false := by rw [I.ok.kind]; rfl
  have hiσ : i < σ.length := by rw [I.len]; exact (List.getElem?_eq_some_iff.mp hi).1
  have cne := I.cne
  have tracked : ∀ {a : Addr} {h' : Heap}, (∃ o, s.heap.get? a = some o ∧ H a = none) → Heap.SameBut a s.heap h' → HOk X.prog X.w H h' := fun {a h'} ha hs b ob e => by
    obtain ⟨_, _, hfree⟩ := ha
    refine (I.hok b ob e).stay (fun c w' hc q => (hs.2 c ?_).trans q) (fun _ q => q) fun _ _ q => q
    rintro rfl
    rcases hc with rfl | hc
    · rw [hfree] at e; cases e
    · rw [hfree] at hc; cases hc
  rcases hx with hk | hk
  · refine wpAny_storeName_local hk hn (fun h' hn' hs => ?_) hcls
    obtain ⟨oL, _, _, hoL, _⟩ := id hn
    refine h _ ⟨I.ok, I.os, I.bare, ⟨fun b o e n hb hx => ?_, fun b o e n hb hx => ?_, I.base.free, fun b o e hx => ?_, I.base.tups, I.base.frzs, I.base.tbls, I.base.sys⟩, ⟨_, hn', fun j y v' e1 e2 e3 => ?_⟩, fun y c e => ?_, I.free, I.freeC, fun p hp => ?_, tracked ⟨oL, hoL, I.free⟩ hs, by simpa using I.len⟩ ⟨_, hs, .inl rfl⟩
    · exact (hs.2 b (Nat.ne_of_lt (Nat.lt_of_lt_of_le (Heap.lt_size e) I.ok.above))).trans (I.base.keep b o e n hb hx)
    · obtain ⟨sl, e1⟩ := I.base.slot b o e n hb hx
      exact ⟨sl, (hs.2 b (Nat.ne_of_lt (Nat.lt_of_lt_of_le (Heap.lt_size e) I.ok.above))).trans e1⟩
    · obtain ⟨o', e1⟩ := I.base.there b o e hx
      exact ⟨o', (hs.2 b (Nat.ne_of_lt (Nat.lt_of_lt_of_le (Heap.lt_size e) I.ok.above))).trans e1⟩
    · by_cases hj : j = i
      · subst hj
        rw [hi] at e1; cases e1
        rw [List.getElem?_set_self hiσ] at e2
        cases e2
        exact ⟨u, r, .inl ⟨hk, by simp⟩⟩
      · rw [List.getElem?_set_ne (Ne.symm hj)] at e2
        obtain ⟨u', r', q⟩ := hl j y v' e1 e2 e3
        refine ⟨u', r', ?_⟩
        rcases q with ⟨k, e⟩ | ⟨k, c, e, z⟩
        · refine .inl ⟨k, ?_⟩
          have : y ≠ x := fun e => hj (nodup_ix hN e1 (e ▸ hi))
          simp [this, e]
        · exact .inr ⟨k, c, e, z.sameBut hs (cne y c e)⟩
    · obtain ⟨w', z⟩ := I.cell y c e
      exact ⟨w', z.sameBut hs (cne y c e)⟩
    · obtain ⟨e, n, ne, nf, d⟩ := I.pin p hp
      exact ⟨(hs.2 p.1 ne).trans e, n, ne, nf, d⟩
  · have hfn : X.fn x = true := by
      rcases hf with z | z
      · exact z
      · rw [z] at hk; cases hk
    obtain ⟨c, hc⟩ := I.ok.has x (.inl hk)
    obtain ⟨w', z⟩ := I.cell x c hc
    refine wpAny_storeName_cell I.ok.kind hk hc z (fun h' hc' hs => ?_)
    obtain ⟨oc, hoc, hocd⟩ := id z
    refine h { s with heap := h' } ⟨I.ok, I.os, I.bare, ⟨fun b o e n hb hx => ?_, fun b o e n hb hx => ?_, I.base.free, fun b o e hx => ?_, I.base.tups, I.base.frzs, I.base.tbls, I.base.sys⟩, ⟨m, hn.sameBut hs (Ne.symm (cne x c hc)), fun j y v' e1 e2 e3 => ?_⟩, fun y c' e => ?_, I.free, I.freeC, fun p hp => ?_, tracked ⟨oc, hoc, I.freeC x c hc⟩ hs, by simpa using I.len⟩ ⟨c, hs, .inr hc⟩
    · exact (hs.2 b (Nat.ne_of_lt (Nat.lt_of_lt_of_le (Heap.lt_size e) (I.ok.cab x c hfn hc)))).trans (I.base.keep b o e n hb hx)
    · obtain ⟨sl, e1⟩ := I.base.slot b o e n hb hx
      exact ⟨sl, (hs.2 b (Nat.ne_of_lt (Nat.lt_of_lt_of_le (Heap.lt_size e) (I.ok.cab x c hfn hc)))).trans e1⟩
    · obtain ⟨o', e1⟩ := I.base.there b o e hx
      exact ⟨o', (hs.2 b (Nat.ne_of_lt (Nat.lt_of_lt_of_le (Heap.lt_size e) (I.ok.cab x c hfn hc)))).trans e1⟩
    · by_cases hj : j = i
      · subst hj
        rw [hi] at e1; cases e1
        rw [List.getElem?_set_self hiσ] at e2
        cases e2
        exact ⟨u, r, .inr ⟨.inl hk, c, hc, hc'⟩⟩
      · rw [List.getElem?_set_ne (Ne.symm hj)] at e2
        obtain ⟨u', r', q⟩ := hl j y v' e1 e2 e3
        refine ⟨u', r', ?_⟩
        rcases q with q | ⟨k, c', e, z'⟩
        · exact .inl q
        · refine .inr ⟨k, c', e, z'.sameBut hs ?_⟩
          rintro rfl
          exact hj (nodup_ix hN e1 (I.ok.inj _ _ _ e hc ▸ hi))
    · by_cases hcc : c' = c
      · subst hcc; exact ⟨_, hc'⟩
      · obtain ⟨w2, z2⟩ := I.cell y c' e
        exact ⟨w2, z2.sameBut hs hcc⟩
    · obtain ⟨e, n, ne, nf, d⟩ := I.pin p hp
      refine ⟨(hs.2 p.1 ?_).trans e, n, ne, nf, d⟩
      intro q
      rw [q, hoc] at e
      have q' : oc = p.2 := Option.some.inj e
      exact d w' (by rw [← q']; exact hocd)
theorem store_ok {M : Model} {A : Around} {E : Value → Shared → Prop} {i : Nat} {x : Str} {v : V} {u : Value} {Q : Unit → Shared → Prop} (I : Inv X pins σ H s) (hN : X.N.Nodup) (hi : X.N[i]? = some x) (hx : Loc X.env.scope x) (r : RelV v u)
    (h : ∀ s', Inv X pins (σ.set i (some v)) H s' → Q () s') (hf : X.fn x = true ∨ X.env.scope.names.lookup x = some .local := by first | exact .inl rfl | exact .inr rfl | assumption) : wpAny M A (storeName X.env x u) Q E s :=
  store_ok2 I hN hi hx r (fun s' I' _ => h s' I') hf
theorem Inv.call' {s' : Shared} {ch : List Addr} (I : Inv X pins σ H s) (ho : s'.os = s.os) (u : Un (frs X.stack) ch H H' s.heap s'.heap) (hok : HOk X.prog X.w H' s'.heap) (hg : AllBare s'.gens)
    (hch : ∀ b ∈ ch, (b ∈ X.ex ∨ X.s₀.heap.objs.size ≤ b) ∧ b ≠ X.env.locals ∧ (∀ x c, X.env.cells.lookup x = some c → c ≠ b) ∧ ∀ p ∈ X.pn ++ pins, p.1 ≠ b) : Inv X pins σ H' s' := by
  obtain ⟨h', g', d', t', o'⟩ := s'
  have e : o' = s.os := ho
  subst e
  exact I.call (g' := g') (t' := t') (d' := d') u hok hg hch
end
abbrev XK := Value → Option Addr → Hp → Prop
abbrev St := List (Option V)
abbrev VK := V → Hp → Prop
abbrev TE := St → Hp → VK → Prop
abbrev TT := St → Hp → (Bool → Hp → Prop) → Prop
abbrev TA := St → Hp → (List V → Hp → Prop) → Prop
structure Ends where
  nx : St → Hp → Prop
  rt : VK
  bk : St → Hp → Prop := fun _ _ => False
  ct : St → Hp → Prop := fun _ _ => False
abbrev TS := Ends → St → Hp → Prop
def EP (X : Cx) (pins : List (Addr × Obj)) (σ : St) (Q : VK) (u : Value) (s' : Shared) : Prop := ∃ v H', Inv X pins σ H' s' ∧ RelV v u ∧ Q v H'
def TP (X : Cx) (pins : List (Addr × Obj)) (σ : St) (Q : Bool → Hp → Prop) (b : Bool) (s' : Shared) : Prop := ∃ H', Inv X pins σ H' s' ∧ Q b H'
def AP (X : Cx) (pins : List (Addr × Obj)) (σ : St) (Q : List V → Hp → Prop) (us : List Value) (s' : Shared) : Prop := ∃ vs H', Inv X pins σ H' s' ∧ Vals vs us ∧ Q vs H'
def SP (X : Cx) (pins : List (Addr × Obj)) (D : Ends) (f : Flow) (s' : Shared) : Prop :=
  match f with
  | .next => ∃ σ' H', Inv X pins σ' H' s' ∧ D.nx σ' H'
  | .brk => ∃ σ' H', Inv X pins σ' H' s' ∧ D.bk σ' H'
  | .cont => ∃ σ' H', Inv X pins σ' H' s' ∧ D.ct σ' H'
  | .ret u => ∃ v σ' H', Inv X pins σ' H' s' ∧ RelV v u ∧ D.rt v H'
def PE (X : Cx) (e : Expr) (t : TE) : Prop :=
  ∀ (pins : List (Addr × Obj)) (s : Shared) (σ : St) (H : Hp) (Q : VK), Inv X pins σ H s → t σ H Q → wpAny (model X.prog X.w) X.A (eval e X.env) (EP X pins σ Q) X.xe s
def PT (X : Cx) (e : Expr) (t : TT) : Prop :=
  ∀ (pins : List (Addr × Obj)) (s : Shared) (σ : St) (H : Hp) (Q : Bool → Hp → Prop), Inv X pins σ H s → t σ H Q → wpAny (model X.prog X.w) X.A (isTrue e X.env (eval e X.env)) (TP X pins σ Q) X.xe s
def PW (X : Cx) (e : Expr) (t : TT) : Prop :=
  ∀ (whole : Sem Value) (pins : List (Addr × Obj)) (s : Shared) (σ : St) (H : Hp) (Q : Bool → Hp → Prop), Inv X pins σ H s → t σ H Q → wpAny (model X.prog X.w) X.A (isTrue e X.env whole) (TP X pins σ Q) X.xe s
theorem PW.pt {X : Cx} {e : Expr} {t : TT} (h : PW X e t) : PT X e t := h _
def PA (X : Cx) (es : List Expr) (t : TA) : Prop :=
  ∀ (pos : Pos) (pins : List (Addr × Obj)) (s : Shared) (σ : St) (H : Hp) (Q : List V → Hp → Prop), Inv X pins σ H s → t σ H Q → wpAny (model X.prog X.w) X.A (spliced (backTo pos (starEach es X.env))) (AP X pins σ Q) X.xe s
def PS (X : Cx) (st : Stmt) (t : TS) : Prop :=
  ∀ (pins : List (Addr × Obj)) (s : Shared) (σ : St) (H : Hp) (D : Ends), Inv X pins σ H s → t D σ H → wpAny (model X.prog X.w) X.A (exec st X.env) (SP X pins D) X.xe s
def PSs (X : Cx) (st : List Stmt) (t : TS) : Prop :=
  ∀ (pins : List (Addr × Obj)) (s : Shared) (σ : St) (H : Hp) (D : Ends), Inv X pins σ H s → t D σ H → wpAny (model X.prog X.w) X.A (execs st X.env) (SP X pins D) X.xe s
theorem thn {α : Type} {t : Sem α} {Q Q' : α → Shared → Prop} {M : Model} {A : Around} {E : Value → Shared → Prop} {s : Shared} (h : wpAny M A t Q E s) (hQ : ∀ a s, Q a s → Q' a s) : wpAny M A t Q' E s := wpAny_mono h hQ fun _ _ x => x
end L2
namespace L2
open PySem PySem.Spec PyProof.Rows
section
variable {X : Cx}
theorem bin {a b : Expr} {ta tb : TE} (ha : PE X a ta) (hb : PE X b tb) {pins : List (Addr × Obj)} {s : Shared} {σ : St} {H : Hp} {R : V → V → Hp → Prop} (I : Inv X pins σ H s) (h : ta σ H fun x H1 => tb σ H1 fun y H2 => R x y H2)
    {α : Type} {Q : α → Shared → Prop} {f : Value → Value → Sem α}
    (hf : ∀ v u s2 x y H2, Inv X pins σ H2 s2 → RelV x v → RelV y u → R x y H2 → wpAny (model X.prog X.w) X.A (f v u) Q X.xe s2) :
    wpAny (model X.prog X.w) X.A (eval a X.env) (fun v s₁ => wpAny (model X.prog X.w) X.A (eval b X.env) (fun u s₂ => wpAny (model X.prog X.w) X.A (f v u) Q X.xe s₂) X.xe s₁) X.xe s := by
  refine thn (ha pins s σ H _ I h) fun v s1 ⟨x, H1, I1, r1, q1⟩ => ?_
  refine thn (hb pins s1 σ H1 _ I1 q1) fun u s2 ⟨y, H2, I2, r2, q2⟩ => ?_
  exact hf v u s2 x y H2 I2 r1 r2 q2
def tVar (i : Nat) : TE := fun σ H Q => ∃ v, σ[i]? = some (some v) ∧ Q v H
def tC (v : V) : TE := fun _ H Q => Q v H
theorem pe_var {i : Nat} {x : Str} {pos : Pos} (hN : X.N[i]? = some x) (hv : Vis X.env.scope x) (hd : (x == ("__debug__" : Str)) = false := by decide) (hcd : (x == ("__classdict__" : Str)) = false := by decide) : PE X (.Name x pos) (tVar i) := by
  intro pins s σ H Q I h
  obtain ⟨v, e, h⟩ := h
  obtain ⟨m, hn, hl⟩ := I.loc
  obtain ⟨u, r, l⟩ := hl i x v hN e hv
  have fin : EP X pins σ Q u s := ⟨v, H, I, r, h⟩
  rcases l with ⟨hk, hm⟩ | ⟨hk, c, hc, hcell⟩
  · exact wpAny_Name (wpAny_loadName_local I.ok.kind hk hn hm fin) hd
  · rcases hk with hk | hk
    · exact wpAny_Name (wpAny_loadName_cell I.ok.kind hk hc hcell fin) hd
    · exact wpAny_Name (wpAny_loadName_free I.ok.kind hk hc hcell fin hcd) hd
theorem pe_int {i j pos} : PE X (.Constant (.int i) j pos) (tC (.int i)) := fun _ _ _ H _ I h => wpAny_Constant_int ⟨.int i, H, I.tok _, ⟨_, rfl⟩, h⟩
theorem pe_bl {b j pos} : PE X (.Constant (.bool b) j pos) (tC (.bl b)) := fun _ _ _ H _ I h => Constant_bool ⟨.bl b, H, I, rfl, h⟩
theorem pe_non {j pos} : PE X (.Constant .none j pos) (tC .non) := fun _ _ _ H _ I h => Constant_none ⟨.non, H, I, rfl, h⟩
theorem pe_str {x j pos} : PE X (.Constant (.str x) j pos) (tC (.str x)) := fun _ _ _ H _ I h => Calls.Constant_str ⟨.str x, H, I.tok _, ⟨_, rfl⟩, h⟩
def Gl (X : Cx) (x : Str) : Prop := X.env.kindOf x = some .globalImplicit
theorem ld_glob {E : Value → Shared → Prop} {pins : List (Addr × Obj)} {s : Shared} {σ : St} {H : Hp} {x : Str} {u : Value} {pos : Pos} {Q : Value → Shared → Prop} (I : Inv X pins σ H s) (hg : Gl X x) (hm : X.mg x = some u) (h : Q u s)
    (hd : (x == ("__debug__" : Str)) = false := by decide) : wpAny (model X.prog X.w) X.A (eval (.Name x pos) X.env) Q E s :=
  Calls.Name_function_global I.ok.kind hg (Calls.loadGlobal_global (by rw [I.ok.glob]; exact I.mod.glob.keeps I.bk) hm h) hd
theorem ld_blt {E : Value → Shared → Prop} {pins : List (Addr × Obj)} {s : Shared} {σ : St} {H : Hp} {x : Str} {u : Value} {pos : Pos} {Q : Value → Shared → Prop} (I : Inv X pins σ H s) (hg : Gl X x) (hm : X.mg x = none) (hv : bootBuiltins x = some u) (h : Q u s)
    (hn : x ≠ "__name__" := by decide) (hd : (x == ("__debug__" : Str)) = false := by decide) : wpAny (model X.prog X.w) X.A (eval (.Name x pos) X.env) Q E s := by
  obtain ⟨mb, h1, h2⟩ := I.mod.blt
  exact Calls.Name_function_global I.ok.kind hg (Calls.loadGlobal_builtin (by rw [I.ok.glob]; exact I.mod.glob.keeps I.bk) hm (by rw [I.ok.blt]; exact h1.keeps I.bk) ((h2 x hn).trans hv) h) hd
theorem pe_glob {x : Str} {v : V} {u : Value} {pos : Pos} (hg : Gl X x) (hm : X.mg x = some u) (r : RelV v u) (hd : (x == ("__debug__" : Str)) = false := by decide) : PE X (.Name x pos) (tC v) :=
  fun _ _ _ H _ I h => ld_glob I hg hm ⟨v, H, I, r, h⟩ hd
theorem pe_bltn {x : Str} {v : V} {u : Value} {pos : Pos} (hg : Gl X x) (hm : X.mg x = none) (hv : bootBuiltins x = some u) (r : RelV v u) (hn : x ≠ "__name__" := by decide) (hd : (x == ("__debug__" : Str)) = false := by decide) : PE X (.Name x pos) (tC v) :=
  fun _ _ _ H _ I h => ld_blt I hg hm hv ⟨v, H, I, r, h⟩ hn hd
variable {a b : Expr} {ta tb : TE} {pos : Pos}
def PC (X : Cx) (op : CmpOp) (a b : Expr) (t : TE) : Prop :=
  ∀ (pins : List (Addr × Obj)) (s : Shared) (σ : St) (H : Hp) (Q : VK), Inv X pins σ H s → t σ H Q →
    wpAny (model X.prog X.w) X.A (eval a X.env) (fun v s₁ => wpAny (model X.prog X.w) X.A (eval b X.env) (fun u s₂ => wpAny (model X.prog X.w) X.A (compareOp op v u) (EP X pins σ Q) X.xe s₂) X.xe s₁) X.xe s
theorem nobehind (b : Expr) {op : CmpOp} (h : op ≠ .In) (h2 : op ≠ .NotIn) : behindInMarks op b = false := by
  have e1 : (op == CmpOp.In) = false := by cases op <;> first | rfl | exact absurd rfl h
  have e2 : (op == CmpOp.NotIn) = false := by cases op <;> first | rfl | exact absurd rfl h2
  cases b <;> simp [behindInMarks, e1, e2]
def tB (t : TE) : TT := fun σ H Q => t σ H fun x H1 => ∃ c, x = .bl c ∧ Q c H1
theorem pt_cmp {op : CmpOp} {t : TE} (h : PC X op a b t) (h1 : behindInMarks op b = false := by first | exact nobehind _ (by decide) (by decide) | rfl) : PT X (.Compare a [op] [b] pos) (tB t) := by
  intro pins s σ H Q I hw
  refine wpAny_isTrue_Compare1 (thn (h pins s σ H _ I hw) fun v s1 h1 => thn h1 fun u s2 h2 => thn h2 fun c s3 ⟨x, H1, I1, r1, q1⟩ => ?_) h1
  obtain ⟨d, rfl, q⟩ := q1
  cases r1
  exact wpAny_truthy_bool ⟨H1, I1, q⟩
theorem pt_val {e : Expr} {t : TE} (h : PE X e t) (he : ∀ whole, isTrue e X.env whole = (do let v ← whole; standAt e.pos; holding [v] (truthy v)) := by intro _; rfl) : PT X e (tB t) := by
  intro pins s σ H Q I hw
  refine isTrue_plain (thn (h pins s σ H _ I hw) fun v s1 ⟨x, H1, I1, r1, q1⟩ => ?_) (he _)
  obtain ⟨d, rfl, q⟩ := q1
  cases r1
  exact wpAny_truthy_bool ⟨H1, I1, q⟩
variable {tA tB' : TT} {rest : List Expr}
def tAnd (t u : TT) : TT := fun σ H Q => t σ H fun c H1 => if c = true then u σ H1 Q else Q false H1
def tOr (t u : TT) : TT := fun σ H Q => t σ H fun c H1 => if c = true then Q true H1 else u σ H1 Q
def tNot (t : TT) : TT := fun σ H Q => t σ H fun c H1 => Q (!c) H1
theorem pw_and1 (ha : PT X a tA) : PW X (.BoolOp .And [a] pos) tA := by
  intro wh pins s σ H Q I h
  refine isTrue_and (thn (ha pins s σ H Q I h) fun c s1 e => ?_)
  cases c with
  | true => exact isTrue_and_nil e
  | false => exact e
theorem pw_or1 (ha : PT X a tA) : PW X (.BoolOp .Or [a] pos) tA := by
  intro wh pins s σ H Q I h
  refine isTrue_or (thn (ha pins s σ H Q I h) fun c s1 e => ?_)
  cases c with
  | false => exact isTrue_or_nil e
  | true => exact e
theorem pw_and (ha : PT X a tA) (hb : PW X (.BoolOp .And (b :: rest) pos) tB') : PW X (.BoolOp .And (a :: b :: rest) pos) (tAnd tA tB') := by
  intro wh pins s σ H Q I h
  refine isTrue_and (thn (ha pins s σ H _ I h) fun c s1 ⟨H1, I1, q1⟩ => ?_)
  cases c with
  | true => exact hb wh pins s1 σ H1 Q I1 q1
  | false => exact ⟨H1, I1, q1⟩
theorem pw_or (ha : PT X a tA) (hb : PW X (.BoolOp .Or (b :: rest) pos) tB') : PW X (.BoolOp .Or (a :: b :: rest) pos) (tOr tA tB') := by
  intro wh pins s σ H Q I h
  refine isTrue_or (thn (ha pins s σ H _ I h) fun c s1 ⟨H1, I1, q1⟩ => ?_)
  cases c with
  | true => exact ⟨H1, I1, q1⟩
  | false => exact hb wh pins s1 σ H1 Q I1 q1
theorem pt_not (ha : PT X a tA) : PT X (.UnaryOp .Not a pos) (tNot tA) := by
  intro pins s σ H Q I h
  exact isTrue_not (ha pins s σ H (fun c H1 => Q (!c) H1) I h)
def tAndV (ta tb : TE) : TE := fun σ H Q => ta σ H fun x H1 => ∃ c, x = .bl c ∧ if c = true then tb σ H1 Q else Q (.bl false) H1
def tNotV (ta : TE) : TE := fun σ H Q => ta σ H fun x H1 => ∃ c, x = .bl c ∧ Q (.bl (!c)) H1
theorem pe_one {op} {t : TE} (h : PE X a t) : PE X (.BoolOp op [a] pos) t := fun pins s σ H Q I hw => BoolOp_one (h pins s σ H Q I hw)
theorem pe_and (ha : PE X a ta) (hb : PE X (.BoolOp .And (b :: rest) pos) tb) : PE X (.BoolOp .And (a :: b :: rest) pos) (tAndV ta tb) := by
  intro pins s σ H Q I h
  refine BoolOp_and (thn (ha pins s σ H _ I h) fun v s1 ⟨x, H1, I1, r1, q1⟩ => ?_)
  obtain ⟨c, rfl, q1⟩ := q1
  cases r1
  refine wpAny_truthy_bool ?_
  cases c with
  | true => exact hb pins s1 σ H1 Q I1 q1
  | false => exact ⟨.bl false, H1, I1, rfl, q1⟩
theorem pe_not (ha : PE X a ta) : PE X (.UnaryOp .Not a pos) (tNotV ta) := by
  intro pins s σ H Q I h
  refine UnaryOp_ (thn (ha pins s σ H _ I h) fun v s1 ⟨x, H1, I1, r1, q1⟩ => ?_)
  obtain ⟨c, rfl, q1⟩ := q1
  cases r1
  exact not_of (wpAny_truthy_bool ⟨.bl (!c), H1, I1, rfl, q1⟩)
def tIf (t : TT) (ta tb : TE) : TE := fun σ H Q => t σ H fun c H1 => if c = true then ta σ H1 Q else tb σ H1 Q
theorem pe_ifExp {c : Expr} (hc : PT X c tA) (ha : PE X a ta) (hb : PE X b tb) : PE X (.IfExp c a b pos) (tIf tA ta tb) := by
  intro pins s σ H Q I h
  refine wpAny_IfExp (thn (hc pins s σ H _ I h) fun d s1 ⟨H1, I1, q1⟩ => ?_)
  cases d with
  | true => exact ha pins s1 σ H1 Q I1 q1
  | false => exact hb pins s1 σ H1 Q I1 q1
end
end L2
namespace L2
open PySem PySem.Spec PyProof.Rows
def SqL (K : PySem.W.Frag) (H : Hp) (a : Addr) (xs : List V) : Prop :=
  Rd H a (.lst xs) ∨
    ∃ (o : Obj) (its : Array Value) (n : Nat), K.lookup a = some o ∧ o.cls = .type "list" ∧ o.dict = none ∧ o.data = .seq its n ∧ its.size ≤ sizeLine ∧ Vals xs its.toList
def SqT (K : PySem.W.Frag) (H : Hp) (a : Addr) (xs : List V) : Prop :=
  Rd H a (.tup xs) ∨
    ∃ (o : Obj) (its : Array Value) (n : Nat), K.lookup a = some o ∧ o.cls = .type "tuple" ∧ o.data = .seq its n ∧ its.size ≤ sizeLine ∧ Vals xs its.toList
def absV : Value → Option V
  | .none => some .non
  | .bool b => some (.bl b)
  | .int i _ => some (.int i)
  | .str x _ => some (.str x)
  | .bytes b _ => some (.byt b)
  | .float b _ => some (.flt b)
  | .ref a => some (.ref a)
  | .type n => some (.ty n)
  | _ => none
theorem RelV.abs {x : V} {u : Value} (r : RelV x u) : absV u = some x := by
  cases x with
  | non => cases r; rfl
  | bl _ => cases r; rfl
  | int _ => obtain ⟨t, rfl⟩ := r; rfl
  | str _ => obtain ⟨t, rfl⟩ := r; rfl
  | byt _ => obtain ⟨t, rfl⟩ := r; rfl
  | flt _ => obtain ⟨t, rfl⟩ := r; rfl
  | ref _ => cases r; rfl
  | ty _ => cases r; rfl
theorem RelV.inj {x y : V} {u : Value} (r : RelV x u) (q : RelV y u) : x = y := Option.some.inj (r.abs.symm.trans q.abs)
theorem Vals.inj : ∀ {xs ys : List V} {us : List Value}, Vals xs us → Vals ys us → xs = ys
  | _, _, _, .nil, .nil => rfl
  | _, _, _, .cons r t, .cons r' t' => by rw [r.inj r', Vals.inj t t']
section
variable {X : Cx} {pins : List (Addr × Obj)} {σ : St} {H : Hp} {s : Shared} {a : Addr} {xs ys : List V}
theorem SqL.of {K : PySem.W.Frag} (h : H a = some (.lst xs)) : SqL K H a xs := .inl (.inl h)
theorem SqT.of {K : PySem.W.Frag} (h : H a = some (.tup xs)) : SqT K H a xs := .inl (.inl h)
theorem Inv.list (I : Inv X pins σ H s) (h : SqL X.K H a xs) : ∃ its : List Value, Vals xs its ∧ PlainL s.heap a its.toArray ∧ xs.length ≤ sizeLine := by
  rcases h with h | ⟨o, its, n, hk, hc, hd, hs, hz, r⟩
  · obtain ⟨z, its, n, r, e⟩ := h.ok I.hok
    exact ⟨its, r, ⟨_, n, e, rfl, rfl, rfl⟩, z⟩
  · refine ⟨its.toList, r, ⟨o, n, I.kIn a o hk, hc, hd, by simpa using hs⟩, ?_⟩
    have e := r.length
    simp only [Array.length_toList] at e
    omega
theorem Inv.tuple (I : Inv X pins σ H s) (h : SqT X.K H a xs) : ∃ its : List Value, Vals xs its ∧ IsTup s.heap a its.toArray ∧ xs.length ≤ sizeLine := by
  rcases h with h | ⟨o, its, n, hk, hc, hs, hz, r⟩
  · obtain ⟨z, its, r, p⟩ := h.ok I.hok
    exact ⟨its, r, p, z⟩
  · refine ⟨its.toList, r, ⟨o, I.kIn a o hk, hc, n, by simpa using hs⟩, ?_⟩
    have e := r.length
    simp only [Array.length_toList] at e
    omega
theorem Inv.list_inj (I : Inv X pins σ H s) (h : SqL X.K H a xs) (h' : SqL X.K H a ys) : xs = ys := by
  obtain ⟨its, r, ⟨o, n, e, _, _, d⟩, _⟩ := I.list h
  obtain ⟨its', r', ⟨o', n', e', _, _, d'⟩, _⟩ := I.list h'
  rw [e] at e'; cases e'
  rw [d] at d'
  injection d' with d1 _
  have : its = its' := by simpa using congrArg Array.toList d1
  subst this
  exact r.inj r'
end
abbrev Cx.wish (X : Cx) (E : Value → Shared → Prop) : Cx := { X with xe := E }
abbrev Cx.nox (X : Cx) : Cx := X.wish fun _ _ => False
theorem Cx.Ok.wish {X : Cx} (ok : X.Ok) (E : Value → Shared → Prop) : (X.wish E).Ok :=
  ⟨ok.mod, ok.kind, ok.glob, ok.blt, ok.above, ok.inj, ok.has, ok.cab, ok.hd, ok.frames, ok.stk, ok.exf, ok.bs, ok.bsz, ok.noex, ok.exfs, ok.funs, ok.frf⟩
theorem Cx.Ok.unwish {X : Cx} {E : Value → Shared → Prop} (ok : (X.wish E).Ok) : X.Ok :=
  ⟨ok.mod, ok.kind, ok.glob, ok.blt, ok.above, ok.inj, ok.has, ok.cab, ok.hd, ok.frames, ok.stk, ok.exf, ok.bs, ok.bsz, ok.noex, ok.exfs, ok.funs, ok.frf⟩
section
variable {X : Cx} {pins : List (Addr × Obj)} {σ : St} {H : Hp} {s : Shared} {E : Value → Shared → Prop}
theorem Inv.wish (I : Inv X pins σ H s) (E : Value → Shared → Prop) : Inv (X.wish E) pins σ H s := ⟨I.ok.wish E, I.os, I.bare, I.base, I.loc, I.cell, I.free, I.freeC, I.pin, I.hok, I.len⟩
theorem Inv.unwish (I : Inv (X.wish E) pins σ H s) : Inv X pins σ H s := ⟨I.ok.unwish, I.os, I.bare, I.base, I.loc, I.cell, I.free, I.freeC, I.pin, I.hok, I.len⟩
theorem SP.unwish {D : Ends} {f : Flow} {s' : Shared} (h : SP (X.wish E) pins D f s') : SP X pins D f s' := by
  cases f with
  | next => obtain ⟨σ', H', I, q⟩ := h; exact ⟨σ', H', I.unwish, q⟩
  | brk => obtain ⟨σ', H', I, q⟩ := h; exact ⟨σ', H', I.unwish, q⟩
  | cont => obtain ⟨σ', H', I, q⟩ := h; exact ⟨σ', H', I.unwish, q⟩
  | ret u => obtain ⟨v, σ', H', I, r, q⟩ := h; exact ⟨v, σ', H', I.unwish, r, q⟩
theorem PSs.nox {st : List Stmt} {t : TS} (h : PSs X.nox st t) : PSs X st t := fun pins s σ H D I hw =>
  wpAny_mono (h pins s σ H D (I.wish _) hw) (fun _ _ q => q.unwish) fun _ _ z => False.elim z
end
section
variable {X : Cx} {st : Stmt} {rest : List Stmt} {t u : TS} {e : Expr} {te : TE} {pos : Pos}
def tNext : TS := fun D σ H => D.nx σ H
def tSeq (t u : TS) : TS := fun D σ H => t { D with nx := u D } σ H
theorem pss_nil : PSs X [] tNext := fun _ _ σ H _ I h => wpAny_execs_nil ⟨σ, H, I, h⟩
theorem pss_cons (h1 : PS X st t) (h2 : PSs X rest u) : PSs X (st :: rest) (tSeq t u) := by
  intro pins s σ H D I h
  refine wpAny_execs_cons (thn (h1 pins s σ H { D with nx := u D } I h) fun f s1 q => ?_)
  cases f with
  | next =>
    obtain ⟨σ', H', I', q⟩ := q
    exact h2 pins s1 σ' H' D I' q
  | ret v => exact q
  | brk => exact q
  | cont => exact q
theorem pss_one (h1 : PS X st t) : PSs X [st] t := by
  intro pins s σ H D I h
  refine wpAny_execs_cons (thn (h1 pins s σ H D I h) fun f s1 q => ?_)
  cases f with
  | next => exact wpAny_execs_nil q
  | ret v => exact q
  | brk => exact q
  | cont => exact q
theorem Inv.quiet {pins : List (Addr × Obj)} {σ : St} {H : Hp} {s : Shared} (I : Inv X pins σ H s) : interactive X.env = false := by simp [interactive, I.ok.kind]
def tDrop (te : TE) : TS := fun D σ H => te σ H fun _ H1 => D.nx σ H1
theorem ps_expr (he : PE X e te) (hs : swapsWith e none pos.line X.env = pure false := by rfl) : PS X (.Expr e pos) (tDrop te) := by
  intro pins s σ H D I h
  exact wpAny_Expr_any (thn (he pins s σ H _ I h) fun v s1 ⟨x, H1, I1, r1, q1⟩ => ⟨σ, H1, I1, q1⟩) I.quiet hs
def tRet (te : TE) : TS := fun D σ H => te σ H D.rt
theorem ps_ret (he : PE X e te) : PS X (.Return (some e) pos) (tRet te) := by
  intro pins s σ H D I h
  exact wpAny_Return_some (thn (he pins s σ H _ I h) fun v s1 ⟨x, H1, I1, r1, q1⟩ => ⟨x, σ, H1, I1, r1, q1⟩)
def tIfS (c : TT) (t u : TS) : TS := fun D σ H => c σ H fun b H1 => if b = true then t D σ H1 else u D σ H1
theorem ps_if {c : Expr} {a b : List Stmt} {tc : TT} (hc : PT X c tc) (ha : PSs X a t) (hb : PSs X b u) : PS X (.If c a b pos) (tIfS tc t u) := by
  intro pins s σ H D I h
  refine wpAny_If (thn (hc pins s σ H _ I h) fun d s1 ⟨H1, I1, q1⟩ => ?_)
  cases d with
  | true => exact ha pins s1 σ H1 D I1 q1
  | false => exact hb pins s1 σ H1 D I1 q1
end
abbrev TG := V → St → Hp → (St → Hp → Prop) → Prop
abbrev TGs := List V → St → Hp → (St → Hp → Prop) → Prop
def PG (X : Cx) (target : Expr) (t : TG) : Prop :=
  ∀ (pins : List (Addr × Obj)) (s : Shared) (σ : St) (H : Hp) (v : V) (u : Value) (Q : St → Hp → Prop), Inv X pins σ H s → RelV v u → t v σ H Q →
    wpAny (model X.prog X.w) X.A (assign target X.env u) (fun _ s' => ∃ σ' H', Inv X pins σ' H' s' ∧ Q σ' H') X.xe s
def PGs (X : Cx) (ts : List Expr) (t : TGs) : Prop :=
  ∀ (pins : List (Addr × Obj)) (s : Shared) (σ : St) (H : Hp) (vs : List V) (us : List Value) (Q : St → Hp → Prop), Inv X pins σ H s → Vals vs us → t vs σ H Q →
    wpAny (model X.prog X.w) X.A (assignInOrder ((assignEach ts X.env).map (·.2)) us) (fun _ s' => ∃ σ' H', Inv X pins σ' H' s' ∧ Q σ' H') X.xe s
abbrev TSet := V → V → V → Hp → (Hp → Prop) → Prop
def PSet (X : Cx) (t : TSet) : Prop :=
  ∀ (pins : List (Addr × Obj)) (s : Shared) (σ : St) (H : Hp) (o i v : V) (ov iv u : Value) (Q : Hp → Prop), Inv X pins σ H s → RelV o ov → RelV i iv → RelV v u → t o i v H Q →
    wpAny (model X.prog X.w) X.A (setItem ov iv u) (fun _ s' => ∃ H', Inv X pins σ H' s' ∧ Q H') X.xe s
section
variable {X : Cx} {pos : Pos}
def gName (i : Nat) : TG := fun v σ H Q => Q (σ.set i (some v)) H
theorem pg_name {i : Nat} {x : Str} (hN : X.N.Nodup) (hi : X.N[i]? = some x) (hx : Loc X.env.scope x) (hf : X.fn x = true ∨ X.env.scope.names.lookup x = some .local := by first | exact .inl rfl | exact .inr rfl | assumption) : PG X (.Name x pos) (gName i) := by
  intro pins s σ H v u Q I r h
  exact wpAny_assign_Name (store_ok I hN hi hx r (fun s' I' => ⟨_, H, I', h⟩) hf)
def gNil : TGs := fun vs σ H Q => vs = [] ∧ Q σ H
def gCons (t : TG) (u : TGs) : TGs := fun vs σ H Q => ∃ v r, vs = v :: r ∧ t v σ H fun σ' H' => u r σ' H' Q
theorem pgs_nil : PGs X [] gNil := by
  intro pins s σ H vs us Q I r h
  obtain ⟨e, h⟩ := h
  subst e
  cases r
  exact assignInOrder_nil ⟨σ, H, I, h⟩
theorem pgs_cons {e : Expr} {es : List Expr} {t : TG} {u : TGs} (h1 : PG X e t) (h2 : PGs X es u)
    (hs : (assignEach (e :: es) X.env).map (·.2) = assign e X.env :: (assignEach es X.env).map (·.2) := by rfl) : PGs X (e :: es) (gCons t u) := by
  intro pins s σ H vs us Q I r h
  obtain ⟨v, vr, e1, h⟩ := h
  subst e1
  cases r with
  | cons r rr =>
    rw [hs]
    refine assignInOrder_cons (thn (h1 pins s σ H _ _ _ I r h) fun _ s1 ⟨σ1, H1, I1, q1⟩ => ?_)
    exact h2 pins s1 σ1 H1 _ _ Q I1 rr q1
def gTup (K : PySem.W.Frag) (n : Nat) (t : TGs) : TG := fun v σ H Q => ∃ a xs, v = .ref a ∧ SqT K H a xs ∧ xs.length = n ∧ t xs σ H Q
theorem pg_tup {es : List Expr} {k : Nat} {t : TGs} {n : Nat} (hc : X.calm = true) (h : PGs X es t)
    (hn : (assignEach es X.env).length = n := by rfl) (hst : (assignEach es X.env).findIdx? (·.1) = none := by rfl) : PG X (.Tuple es k pos) (gTup X.K n t) := by
  intro pins s σ H v u Q I r hw
  obtain ⟨a, xs, e1, hq, hl, hw⟩ := hw
  subst e1
  cases r
  obtain ⟨its, rv, ht, hz⟩ := I.tuple hq
  refine assign_Tuple_tuple (I.ok.hd hc) ht (by simp [hn, ← hl, rv.length]) hst fun h' hx => ?_
  have I1 : Inv X pins σ H { s with heap := h' } := I.kept (t' := s.toks) fun b o e => hx b o (Nat.ne_of_lt (Heap.lt_size e)) e
  exact h pins _ σ H xs _ Q I1 (by simpa using rv) hw
def gSub (to ti : TE) (t : TSet) : TG := fun v σ H Q => to σ H fun o H1 => ti σ H1 fun i H2 => t o i v H2 fun H3 => Q σ H3
theorem pg_sub {o i : Expr} {to ti : TE} {t : TSet} (ho : PE X o to) (hi : PE X i ti) (hs : PSet X t)
    (ha : ∀ v, assign (.Subscript o i pos) X.env v = (do
      let ov ← holding [v] (eval o X.env)
      let iv ← holding [v, ov] (eval i X.env)
      standAt pos
      holding [v, ov, iv] (setItem ov iv v)
      release [v, ov, iv] []) := by intro _; rfl) : PG X (.Subscript o i pos) (gSub to ti t) := by
  intro pins s σ H v u Q I r h
  rw [ha]
  refine wpAny_bind (wpAny_holding (thn (ho pins s σ H _ I h) fun ov s1 ⟨x, H1, I1, r1, q1⟩ => ?_))
  refine wpAny_bind (wpAny_holding (thn (hi pins s1 σ H1 _ I1 q1) fun iv s2 ⟨y, H2, I2, r2, q2⟩ => ?_))
  refine wpAny_bind (wpAny_standAt (wpAny_bind (wpAny_holding (thn (hs pins s2 σ H2 x y v ov iv u _ I2 r1 r2 r q2) fun _ s3 ⟨H3, I3, q3⟩ => ?_))))
  exact wpAny_release ⟨σ, H3, I3, q3⟩
def tAsg (te : TE) (g : TG) : TS := fun D σ H => te σ H fun x H1 => g x σ H1 D.nx
theorem ps_asg {tg e : Expr} {te : TE} {g : TG} (he : PE X e te) (hg : PG X tg g) (hs : swapsWithSole [tg] e pos.line X.env = pure false := by rfl) (hw : swappedStores [tg] e X.env = pure none := by rfl)
    (h1 : (assignEach [tg] X.env).map (·.2) = [assign tg X.env] := by rfl) : PS X (.Assign [tg] e pos) (tAsg te g) := by
  intro pins s σ H D I h
  refine wpAny_Assign_stores (thn (he pins s σ H _ I h) fun v s1 ⟨x, H1, I1, r1, q1⟩ => ?_) hs hw
  rw [h1]
  exact thn (hg pins s1 σ H1 x v _ I1 r1 q1) fun _ s2 q => q
theorem ps_set {i : Nat} {x : Str} {e : Expr} {te : TE} {pos' : Pos} (hN : X.N.Nodup) (hi : X.N[i]? = some x) (hx : Loc X.env.scope x) (he : PE X e te) (hs : swapsWith e (some (.Name x pos')) pos.line X.env = pure false := by rfl) (hf : X.fn x = true ∨ X.env.scope.names.lookup x = some .local := by first | exact .inl rfl | exact .inr rfl | assumption) :
    PS X (.Assign [.Name x pos'] e pos) (tAsg te (gName i)) := by
  intro pins s σ H D I h
  refine wpAny_Assign_Name (thn (he pins s σ H _ I h) fun v s1 ⟨y, H1, I1, r1, q1⟩ => ?_) hs
  exact store_ok I1 hN hi hx r1 (fun s2 I2 => ⟨_, H1, I2, q1⟩) hf
def tPar (i j : Nat) (ta : TA) : TS := fun D σ H => ta σ H fun vs H1 => ∃ v w, vs = [v, w] ∧ D.nx ((σ.set i (some v)).set j (some w)) H1
theorem ps_par {i j : Nat} {x y : Str} {a b : Expr} {ta : TA} {px py pt : Pos} {kt k2 pt2} (hc : X.calm = true) (hN : X.N.Nodup) (hi : X.N[i]? = some x) (hj : X.N[j]? = some y) (hij : i ≠ j)
    (hx : X.env.scope.names.lookup x = some .local) (hy : X.env.scope.names.lookup y = some .local) (ha : PA X [a, b] ta)
    (hw : swappedStores [.Tuple [.Name x px, .Name y py] kt pt] (.Tuple [a, b] k2 pt2) X.env = pure (some [x, y]))
    (hs : swapsWithSole [.Tuple [.Name x px, .Name y py] kt pt] (.Tuple [a, b] k2 pt2) pos.line X.env = pure false := by rfl) :
    PS X (.Assign [.Tuple [.Name x px, .Name y py] kt pt] (.Tuple [a, b] k2 pt2) pos) (tPar i j ta) := by
  intro pins s σ H D I h
  rw [exec_Assign_arm]
  refine wpAny_bind (wpAny_standAt ?_)
  rw [hs]
  refine wpAny_bind (wpAny_pure ?_)
  rw [if_neg (by decide)]
  refine wpAny_bind (Tuple_ (thn (ha _ pins s σ H _ I h) fun us s1 ⟨vs, H1, I1, r1, q1⟩ => ?_))
  obtain ⟨v, w, e1, q1⟩ := q1
  subst e1
  obtain ⟨u1, u2, rfl, rv, rw'⟩ : ∃ u1 u2, us = [u1, u2] ∧ RelV v u1 ∧ RelV w u2 := by
    cases r1 with
    | cons p q =>
      cases q with
      | cons p' q' =>
        cases q'
        exact ⟨_, _, rfl, p, p'⟩
  refine wpAny_newObj_type ?_ (by show 2 ≤ sizeLine; decide)
  have I2 : Inv X pins σ H1 { s1 with heap := s1.heap.push { cls := .type "tuple", data := .seq [u1, u2].toArray } } := I1.kept (t' := s1.toks) fun b o e => Heap.get?_push_of_some _ e
  rw [hw]
  refine wpAny_bind (wpAny_pure ?_)
  show wpAny (model X.prog X.w) X.A (do rule "assign.swapped-stores"; let items ← unpackItems (.ref s1.heap.objs.size) 2 none; assignInOrder [fun v => bindName X.env y v, fun v => bindName X.env x v] items.reverse; pure Flow.next) _ _ _
  refine wpAny_bind (wpAny_rule (wpAny_bind (unpackItems_tuple (items := #[u1, u2]) (I.ok.hd hc) (IsTup.new s1.heap _) fun h' hx' => ?_)))
  have I3 := I2.kept (h' := h') (t' := s1.toks) fun b o e => hx' b o (Nat.ne_of_lt (Heap.lt_size e)) e
  show wpAny _ _ (assignInOrder [fun v => bindName X.env y v, fun v => bindName X.env x v] [u2, u1] >>= fun _ => pure Flow.next) _ _ _
  refine wpAny_bind (assignInOrder_cons (wpAny_bindName (store_ok I3 hN hj (.inl hy) rw' (fun s2 I4 => ?_) (.inr hy))))
  refine assignInOrder_cons (wpAny_bindName (store_ok I4 hN hi (.inl hx) rv (fun s3 I5 => assignInOrder_nil (wpAny_pure ?_)) (.inr hx)))
  rw [List.set_comm _ _ (Ne.symm hij)] at I5
  exact ⟨_, H1, I5, q1⟩
end
section
variable {X : Cx} {pos : Pos}
def tWhile (c : TT) (tb : TS) : TS := fun D σ H => ∃ W : Nat → St → Hp → Prop, (∃ m, W m σ H) ∧ ∀ m σ H, W m σ H →
  c σ H fun b H1 => if b = true then ∃ N : St → Hp → Prop, (∀ σ' H', N σ' H' → ∃ m', m' < m ∧ W m' σ' H') ∧ tb { D with nx := N, ct := N, bk := D.nx } σ H1 else D.nx σ H1
theorem ps_while {c : Expr} {body : List Stmt} {tc : TT} {tb : TS} (hp : PassesOwn (model X.prog X.w) X.A X.env X.xe) (hc : PT X c tc) (hb : PSs X body tb) : PS X (.While c body [] pos) (tWhile tc tb) := by
  intro pins s σ H D I h
  obtain ⟨W, ⟨m0, w0⟩, turn⟩ := h
  refine wpAny_While (codeAny_whileLoop (fun n s' => ∃ σ' H', Inv X pins σ' H' s' ∧ W n σ' H') ?_ m0 ⟨σ, H, I, w0⟩)
  rintro n s1 ⟨σ1, H1, I1, w1⟩
  refine wpAny_passesOwn hp (thn (hc pins s1 σ1 H1 _ I1 (turn n σ1 H1 w1)) fun b s2 ⟨H2, I2, q2⟩ => ?_)
  cases b with
  | true =>
    obtain ⟨N, hN, q2⟩ := q2
    rw [if_pos rfl]
    refine wpAny_passesOwn hp (thn (hb pins s2 σ1 H2 _ I2 q2) fun f s3 q3 => ?_)
    cases f with
    | next =>
      obtain ⟨σ3, H3, I3, n3⟩ := q3
      obtain ⟨m', hm, w3⟩ := hN σ3 H3 n3
      exact ⟨m', hm, σ3, H3, I3, w3⟩
    | cont =>
      obtain ⟨σ3, H3, I3, n3⟩ := q3
      obtain ⟨m', hm, w3⟩ := hN σ3 H3 n3
      exact ⟨m', hm, σ3, H3, I3, w3⟩
    | brk => exact q3
    | ret v => exact q3
  | false =>
    rw [if_neg Bool.false_ne_true]
    exact wpAny_execs_nil ⟨σ1, H2, I2, q2⟩
end
structure It where
  go : Nat → Hp → Prop
  yld : Nat → Hp → V → Hp → Prop
  stop : Nat → Hp → Prop
def FpOk (X : Cx) (pins : List (Addr × Obj)) (H : Hp) (b : Addr) : Prop :=
  H b = none ∧ b ≠ X.env.locals ∧ b ∉ X.fs ∧ (b ∈ X.ex ∨ X.s₀.heap.objs.size ≤ b) ∧ (∀ x c, X.env.cells.lookup x = some c → c ≠ b) ∧ ∀ p ∈ X.pn ++ pins, p.1 ≠ b
theorem Inv.fpOk {X : Cx} {pins : List (Addr × Obj)} {σ : St} {H H' : Hp} {s : Shared} {b : Addr} (I : Inv X pins σ H s) (hb : s.heap.objs.size ≤ b) (hn : H' b = none) : FpOk X pins H' b := by
  refine ⟨hn, Nat.ne_of_gt (Nat.lt_of_lt_of_le I.lt hb), I.nofs hb, .inr (Nat.le_trans I.sz hb), fun x c e z => ?_, fun p hp z => ?_⟩
  · obtain ⟨v, q⟩ := I.cell x c e
    exact absurd (Nat.lt_of_lt_of_le q.lt (by rw [z]; exact hb)) (Nat.lt_irrefl _)
  · exact absurd (Nat.lt_of_lt_of_le (Heap.lt_size (I.pin p hp).1) (by rw [z]; exact hb)) (Nat.lt_irrefl _)
structure Turn (P : Program) (w : World) (K : PySem.W.Frag) (tg : Expr) (J : It) (fp : List Addr) (it : Addr) (tn : Nat → Heap → Prop) : Prop where
  mem : it ∈ fp
  obj : ∀ i h, tn i h → ∀ b ∈ fp, ∃ o, h.get? b = some o ∧ ∀ v, o.data ≠ .cell v
  keep : ∀ i h h', tn i h → (∀ b ∈ fp, ∀ o, h.get? b = some o → h'.get? b = some o) → tn i h'
  item : ∀ (X : Cx), X.prog = P → X.w = w → X.K = K → X.calm = true → ∀ (i : Nat) (pins : List (Addr × Obj)) (s : Shared) (σ : St) (H : Hp) (E : Value → Shared → Prop), Inv X pins σ H s → (∀ b ∈ fp, FpOk X pins H b) → tn i s.heap → J.go i H →
    wpAny (model P w) X.A (pyNext (.ref it)) (fun r s1 => ∃ u, r = some u ∧
      wpAny (model P w) X.A (letOwnedTupleGo tg (.ref it) u) (fun _ s2 => ∃ x H', Inv X pins σ H' s2 ∧ RelV x u ∧ J.yld i H x H' ∧ tn (i + 1) s2.heap ∧ ∀ b ∈ fp, H' b = none) E s1) E s
  done : ∀ (X : Cx), X.prog = P → X.w = w → X.K = K → X.calm = true → ∀ (i : Nat) (pins : List (Addr × Obj)) (s : Shared) (σ : St) (H : Hp) (E : Value → Shared → Prop), Inv X pins σ H s → (∀ b ∈ fp, FpOk X pins H b) → tn i s.heap → J.stop i H →
    wpAny (model P w) X.A (pyNext (.ref it)) (fun r s1 => r = none ∧ Inv X pins σ H s1) E s
  self : ∀ (A : Around) (i : Nat) (s : Shared) (Q : Value → Shared → Prop) (E : Value → Shared → Prop), tn i s.heap → Q (.ref it) s → wpAny (model P w) A (pyIter (.ref it)) Q E s
abbrev TI := St → Hp → (It → Hp → Prop) → Prop
def PIE (X : Cx) (pins : List (Addr × Obj)) (σ : St) (tg : Expr) (R : It → Hp → Prop) (itv : Value) (s2 : Shared) : Prop :=
  ∃ (it : Addr) (fp : List Addr) (tn : Nat → Heap → Prop) (J : It) (H' : Hp), itv = .ref it ∧ Inv X pins σ H' s2 ∧ Turn X.prog X.w X.K tg J fp it tn ∧ tn 0 s2.heap ∧ (∀ b ∈ fp, FpOk X pins H' b) ∧ R J H'
def PI (X : Cx) (tg iter : Expr) (wi : TI) : Prop :=
  ∀ (pins : List (Addr × Obj)) (s : Shared) (σ : St) (H : Hp) (R : It → Hp → Prop), Inv X pins σ H s → wi σ H R →
    wpAny (model X.prog X.w) X.A (eval iter X.env) (fun v s1 => wpAny (model X.prog X.w) X.A (pyIter v) (PIE X pins σ tg R) X.xe s1) X.xe s
theorem go_of {M : Model} {A : Around} {E : Value → Shared → Prop} {s : Shared} {tg : Expr} {it : Addr} {u : Value} {o : Obj} {n : String} {vs : Array Value} {Q : Unit → Shared → Prop} (ho : s.heap.get? it = some o) (hc : o.cls = .type n) (hd : o.data = .fields vs)
    (hn : ["enumerate", "zip", "dict_itemiterator", "dict_reverseitemiterator", "odict_iterator", "itertools.zip_longest", "itertools.pairwise"].contains n = false) (hQ : Q () s) : wpAny M A (letOwnedTupleGo tg (.ref it) u) Q E s := by
  unfold letOwnedTupleGo
  cases tg <;> first
    | exact wpAny_pure hQ
    | (cases u <;> first
        | exact wpAny_pure hQ
        | (refine wpAny_bind (wpAny_load ho ?_)
           rw [hc, hd]
           show wpAny M A (if (["enumerate", "zip", "dict_itemiterator", "dict_reverseitemiterator", "odict_iterator", "itertools.zip_longest", "itertools.pairwise"].contains n && vs[0]? == some (rawInt _)) = true then _ else _) Q E s
           rw [if_neg (by intro h; rw [hn, Bool.false_and] at h; cases h)]
           exact wpAny_pure hQ))
def Itl (K : PySem.W.Frag) (a : Addr) : It :=
  ⟨fun i H => ∃ xs x, SqL K H a xs ∧ xs[i]? = some x, fun i H x H' => H' = H ∧ ∀ xs, SqL K H a xs → xs[i]? = some x, fun i H => ∃ xs, SqL K H a xs ∧ xs.length ≤ i⟩
def Itr (lo : Int) (n : Nat) : It := ⟨fun i _ => i < n, fun i H x H' => H' = H ∧ x = .int (lo + i), fun i _ => n ≤ i⟩
theorem turn_list {P : Program} {w : World} {K : PySem.W.Frag} {tg : Expr} (a it : Addr) : Turn P w K tg (Itl K a) [it] it (fun i h => h.IsListIter it a i) where
  mem := by simp
  obj := fun i h st b hb => by
    have e : b = it := by simpa using hb
    subst e
    obtain ⟨o, e, c, d⟩ := st
    exact ⟨o, e, fun v z => by rw [d] at z; cases z⟩
  keep := fun i h h' st k => st.at fun o e => k it (by simp) o e
  item := by
    intro X hP hw hK hc i pins s σ H E I hf st hg
    subst hP hw hK
    obtain ⟨xs, x, hq, hx⟩ := hg
    obtain ⟨its, rv, p, hz⟩ := I.list hq
    obtain ⟨u, hu, ru⟩ := rv.get hx
    obtain ⟨f0, f1, f2, f3, f4, f5⟩ := hf it (by simp)
    refine wpAny_pyNext_list_item st p.isList (x := u) (by simpa using hu) fun h' st' sb => ?_
    have I1 : Inv X pins σ H { s with heap := h' } := I.turned (t' := s.toks) (fun b o hb e => (sb.2 b hb).trans e) f0 f1 f3 f4 f5
    obtain ⟨o, e, c, d⟩ := id st'
    exact ⟨u, rfl, go_of (s := { s with heap := h' }) e c d (by decide) ⟨x, H, I1, ru, ⟨rfl, fun ys hy => by rw [I.list_inj hy hq]; exact hx⟩, st', fun b hb => (hf b hb).1⟩⟩
  done := by
    intro X hP hw hK hc i pins s σ H E I hf st hg
    subst hP hw hK
    obtain ⟨xs, hq, hx⟩ := hg
    obtain ⟨its, rv, p, hz⟩ := I.list hq
    obtain ⟨f0, f1, f2, f3, f4, f5⟩ := hf it (by simp)
    have hl := rv.length
    exact wpAny_pyNext_list_end (I.ok.hd hc) st p.isList (by simp; omega) fun h' eb => ⟨rfl, I.turned (t' := s.toks) (fun b o hb e => eb b o hb e) f0 f1 f3 f4 f5⟩
  self := fun _ _ _ _ _ st h => wpAny_pyIter_listiter st h
theorem turn_range {P : Program} {w : World} {K : PySem.W.Frag} {tg : Expr} (it : Addr) (lo : Int) (n : Nat) : Turn P w K tg (Itr lo n) [it] it (fun i h => IsRangeIter h it (lo + (i : Nat) * 1) ((n : Int) - (i : Nat)) 1) where
  mem := by simp
  obj := fun i h st b hb => by
    have e : b = it := by simpa using hb
    subst e
    exact ⟨_, st, fun v z => by
      have z' : Data.fields _ = Data.cell v := z
      cases z'⟩
  keep := fun i h h' st k => k it (by simp) _ st
  item := by
    intro X hP hw hK hc i pins s σ H E I hf st hg
    subst hP hw hK
    obtain ⟨f0, f1, f2, f3, f4, f5⟩ := hf it (by simp)
    have W := Walks.range (prog := X.prog) (w := X.w) (I.ok.hd hc) it lo 1 n
    refine W.item i s _ _ hg st fun v h' tk hv st' kk => ?_
    obtain ⟨t, rfl⟩ := hv
    have I1 : Inv X pins σ H { s with heap := h', toks := tk } := I.turned (fun b o hb e => kk b o (by simpa using hb) e) f0 f1 f3 f4 f5
    refine ⟨_, rfl, go_of (s := { s with heap := h', toks := tk }) (n := "range_iterator") st' rfl rfl (by decide) ⟨.int (lo + i), H, I1, ⟨t, ?_⟩, ⟨rfl, rfl⟩, st', fun b hb => (hf b hb).1⟩⟩
    rw [Int.mul_one]
  done := by
    intro X hP hw hK hc i pins s σ H E I hf st hg
    subst hP hw hK
    obtain ⟨f0, f1, f2, f3, f4, f5⟩ := hf it (by simp)
    exact wpAny_pyNext_range_end (I.ok.hd hc) st (by have : n ≤ i := hg; omega) fun h' eb => ⟨rfl, I.turned (t' := s.toks) (fun b o hb e => eb b o hb e) f0 f1 f3 f4 f5⟩
  self := fun _ _ _ _ _ st h => wpAny_pyIter_rangeiter st h
end L2
namespace L2
open PySem PySem.Spec PyProof.Rows
section
variable {X : Cx} {tg : Expr}
def iList (K : PySem.W.Frag) (tl : TE) : TI := fun σ H R => tl σ H fun x H1 => ∃ a, x = .ref a ∧ (∃ xs, SqL K H1 a xs) ∧ R (Itl K a) H1
theorem pi_list {l : Expr} {tl : TE} (hl : PE X l tl) : PI X tg l (iList X.K tl) := by
  intro pins s σ H R I h
  refine thn (hl pins s σ H _ I h) fun v s1 ⟨x, H1, I1, r1, q1⟩ => ?_
  obtain ⟨a, e, ⟨xs, hq⟩, q⟩ := q1
  subst e
  cases r1
  obtain ⟨its, rv, p, hz⟩ := I1.list hq
  refine wpAny_pyIter_list p.isList ?_
  refine ⟨s1.heap.objs.size, [s1.heap.objs.size], _, _, H1, rfl, I1.kept (t' := s1.toks) fun b o e => Heap.get?_push_of_some _ e, turn_list a _, ⟨_, Heap.get?_push_size _ rfl, rfl, rfl⟩, fun b hb => ?_, q⟩
  have e : b = s1.heap.objs.size := by simpa using hb
  subst e
  exact I1.fpOk (Nat.le_refl _) (I1.hok.fresh (Nat.le_refl _))
theorem range_it {pins : List (Addr × Obj)} {σ : St} {H : Hp} {s : Shared} {R : It → Hp → Prop} {E : Value → Shared → Prop} {lo hi : Int} {t u v : Tok} {tk : Nat} (I : Inv X pins σ H s) (h1 : -(2 ^ 62) ≤ lo) (h2 : lo < 2 ^ 62) (h3 : -(2 ^ 62) ≤ hi) (h4 : hi < 2 ^ 62)
    (q : R (Itr lo (hi - lo).toNat) H) : wpAny (model X.prog X.w) X.A (pyIter (.ref s.heap.objs.size)) (PIE X pins σ tg R) E { s with heap := s.heap.push { cls := .type "range", data := .fields #[.int lo t, .int hi u, .int 1 v] }, toks := tk } := by
  refine wpAny_pyIter_range (IsRange.new ..) (small_one h1 h2 h3 h4) ?_
  have I1 : Inv X pins σ H { s with heap := s.heap.push { cls := .type "range", data := .fields #[.int lo t, .int hi u, .int 1 v] }, toks := tk } := I.kept fun b o e => Heap.get?_push_of_some _ e
  refine ⟨(s.heap.push { cls := .type "range", data := .fields #[.int lo t, .int hi u, .int 1 v] }).objs.size, [(s.heap.push { cls := .type "range", data := .fields #[.int lo t, .int hi u, .int 1 v] }).objs.size], _, _, H, rfl,
    I1.kept (t' := tk) fun b o e => Heap.get?_push_of_some _ e, turn_range _ lo (hi - lo).toNat, ?_, fun b hb => ?_, q⟩
  · have e1 : lo + ((0 : Nat) : Int) * 1 = lo := by simp
    have e2 : (((hi - lo).toNat : Nat) : Int) - ((0 : Nat) : Int) = Builtin.Range.rangeSize lo hi 1 := by rw [rangeSize_one]; split <;> omega
    show IsRangeIter _ _ (lo + ((0 : Nat) : Int) * 1) ((((hi - lo).toNat : Nat) : Int) - ((0 : Nat) : Int)) 1
    rw [e1, e2]
    exact Heap.get?_push_size _ rfl
  · have e : b = (s.heap.push { cls := .type "range", data := .fields #[.int lo t, .int hi u, .int 1 v] }).objs.size := by simpa using hb
    subst e
    exact I1.fpOk (Nat.le_refl _) (I1.hok.fresh (Nat.le_refl _))
def iRng1 (ta : TA) : TI := fun σ H R => ta σ H fun vs H1 => ∃ j : Int, vs = [.int j] ∧ -(2 ^ 62) ≤ j ∧ j < 2 ^ 62 ∧ R (Itr 0 j.toNat) H1
theorem pi_range1 {a : Expr} {ta : TA} {p pos : Pos} (hg : Gl X "range") (hm : X.mg "range" = none) (ha : PA X [a] ta) (hs : starEach [a] X.env = [(false, eval a X.env)] := by rfl) : PI X tg (.Call (.Name "range" p) [a] [] pos) (iRng1 ta) := by
  intro pins s σ H R I h
  refine Call_ (ld_blt I hg hm boot_range (PyProof.Rows.callWith_type1 (thn (ha pos pins s σ H _ I h) fun us s1 ⟨vs, H1, I1, r1, q1⟩ => ?_) hs rfl))
  obtain ⟨j, e, q1, q2, q⟩ := q1
  subst e
  cases r1 with
  | cons r rr =>
    cases rr
    obtain ⟨t, rfl⟩ := r
    exact call_range_1 (range_it I1 (by omega) (by omega) q1 q2 (by simpa using q))
def tFor (wi : TI) (g : TG) (tb : TS) : TS := fun D σ H => wi σ H fun J H1 => ∃ W : Nat → Nat → St → Hp → Prop, (∃ m, W 0 m σ H1) ∧ ∀ i m σ H, W i m σ H →
  (J.stop i H ∧ D.nx σ H) ∨ (J.go i H ∧ ∃ N : St → Hp → Prop, (∀ σ' H', N σ' H' → ∃ m', m' < m ∧ W (i + 1) m' σ' H') ∧ ∀ x H', J.yld i H x H' → g x σ H' fun σ2 H2 => tb { D with nx := N, ct := N, bk := D.nx } σ2 H2)
def pinsAt (fp : List Addr) (h : Heap) : List (Addr × Obj) := fp.filterMap fun b => (h.get? b).map fun o => (b, o)
theorem mem_pinsAt {fp : List Addr} {h : Heap} {b : Addr} {o : Obj} (hb : b ∈ fp) (e : h.get? b = some o) : (b, o) ∈ pinsAt fp h := List.mem_filterMap.mpr ⟨b, hb, by rw [e]; rfl⟩
theorem of_pinsAt {fp : List Addr} {h : Heap} {p : Addr × Obj} (hp : p ∈ pinsAt fp h) : p.1 ∈ fp ∧ h.get? p.1 = some p.2 := by
  obtain ⟨b, hb, e⟩ := List.mem_filterMap.mp hp
  cases q : h.get? b with
  | none => rw [q] at e; cases e
  | some o =>
    rw [q] at e
    have e' : (b, o) = p := Option.some.inj e
    subst e'
    exact ⟨hb, q⟩
theorem Inv.pinned {pins : List (Addr × Obj)} {σ : St} {H : Hp} {s : Shared} {fp : List Addr} (I : Inv X pins σ H s) (hf : ∀ b ∈ fp, FpOk X pins H b) (ho : ∀ b ∈ fp, ∃ o, s.heap.get? b = some o ∧ ∀ v, o.data ≠ .cell v) : Inv X (pins ++ pinsAt fp s.heap) σ H s :=
  I.pins_of fun p hp => (List.mem_append.mp hp).elim (fun z => I.pin p (List.mem_append_right _ z)) fun z => by
    obtain ⟨hb, e⟩ := of_pinsAt z
    obtain ⟨f0, f1, f2, _⟩ := hf p.1 hb
    obtain ⟨o, e', d⟩ := ho p.1 hb
    rw [e] at e'; cases e'
    exact ⟨e, f0, f1, f2, d⟩
theorem Inv.unpinned {pins pl : List (Addr × Obj)} {σ : St} {H : Hp} {s : Shared} (I : Inv X (pins ++ pl) σ H s) : Inv X pins σ H s := I.pins_of fun p hp => I.pin p (List.mem_append_right _ (List.mem_append_left _ hp))
theorem ps_for {iter : Expr} {body : List Stmt} {wi : TI} {g : TG} {tb : TS} {pos : Pos} (hp : PassesOwn (model X.prog X.w) X.A X.env X.xe) (hc : X.calm = true) (hi : PI X tg iter wi) (hg : PG X tg g) (hb : PSs X body tb)
    (hs : ∀ x, foldedSetIterable iter X.env x = pure x := by intro _; rfl) : PS X (.For tg iter body [] pos) (tFor wi g tb) := by
  intro pins s σ H D I h
  refine wpAny_For (thn (hi pins s σ H _ I h) fun v s1 h1 => thn h1 fun itv s2 h2 => ?_) hs
  obtain ⟨it, fp, tn, J, H2, e, I2, T, st2, f2, W, ⟨m0, w0⟩, turn⟩ := h2
  subst e
  have stat : ∀ {H' : Hp}, (∀ b ∈ fp, H' b = none) → ∀ b ∈ fp, FpOk X pins H' b := fun hn b hb => ⟨hn b hb, (f2 b hb).2⟩
  refine codeAny_forLoop_any (fun n s' => ∃ i σ' H', Inv X pins σ' H' s' ∧ tn i s'.heap ∧ (∀ b ∈ fp, H' b = none) ∧ W i n σ' H') ?_ m0 ⟨0, σ, H2, I2, st2, fun b hb => (f2 b hb).1, w0⟩
  rintro n s3 ⟨i, σ3, H3, I3, st3, fr3, w3⟩
  rcases turn i n σ3 H3 w3 with ⟨stop, qn⟩ | ⟨go, N, hN, step⟩
  · refine wpAny_passesOwn hp (thn (T.done X rfl rfl rfl hc i pins s3 σ3 H3 X.xe I3 (stat fr3) st3 stop) fun r s4 ⟨hr, I4⟩ => ?_)
    subst hr
    exact wpAny_execs_nil ⟨σ3, H3, I4, qn⟩
  · refine wpAny_passesOwn hp (thn (T.item X rfl rfl rfl hc i pins s3 σ3 H3 X.xe I3 (stat fr3) st3 go) fun r s4 ⟨u, hr, h4⟩ => ?_)
    subst hr
    refine wpAny_passesOwn hp (thn h4 fun _ s5 ⟨x, H5, I5, r5, y5, st5, fr5⟩ => ?_)
    have I5' := I5.pinned (stat fr5) (T.obj _ _ st5)
    refine wpAny_passesOwn hp (thn (hg _ s5 σ3 H5 x u _ I5' r5 (step x H5 y5)) fun _ s6 ⟨σ6, H6, I6, q6⟩ => ?_)
    refine wpAny_passesOwn hp (thn (hb _ s6 σ6 H6 _ I6 q6) fun f s7 q7 => ?_)
    have again : ∀ {σ7 : St} {H7 : Hp}, Inv X (pins ++ pinsAt fp s5.heap) σ7 H7 s7 → N σ7 H7 → ∃ m, m < n ∧ ∃ i σ' H', Inv X pins σ' H' s7 ∧ tn i s7.heap ∧ (∀ b ∈ fp, H' b = none) ∧ W i m σ' H' := fun {σ7 H7} I7 n7 => by
      obtain ⟨m', hm, w7⟩ := hN σ7 H7 n7
      refine ⟨m', hm, i + 1, σ7, H7, I7.unpinned, T.keep _ _ _ st5 fun b hb o e => (I7.pin (b, o) (List.mem_append_right _ (List.mem_append_right _ (mem_pinsAt hb e)))).1, fun b hb => ?_, w7⟩
      obtain ⟨o, e, d⟩ := T.obj _ _ st5 b hb
      exact (I7.pin (b, o) (List.mem_append_right _ (List.mem_append_right _ (mem_pinsAt hb e)))).2.1
    cases f with
    | next => obtain ⟨σ7, H7, I7, n7⟩ := q7; exact again I7 n7
    | cont => obtain ⟨σ7, H7, I7, n7⟩ := q7; exact again I7 n7
    | brk => obtain ⟨σ7, H7, I7, q7⟩ := q7; exact ⟨σ7, H7, I7.unpinned, q7⟩
    | ret v => obtain ⟨x7, σ7, H7, I7, r7, q7⟩ := q7; exact ⟨x7, σ7, H7, I7.unpinned, r7, q7⟩
end
theorem for_list {K : PySem.W.Frag} {a : Addr} {xs : List V} {g : TG} {tb : TS} {D : Ends} {σ : St} {H : Hp} (Pv : Nat → St → Hp → Prop) (h0 : Pv 0 σ H) (hl : ∀ i σ H, i ≤ xs.length → Pv i σ H → SqL K H a xs)
    (hs : ∀ i x σ H, xs[i]? = some x → Pv i σ H → g x σ H fun σ2 H2 => tb { D with nx := Pv (i + 1), ct := Pv (i + 1), bk := D.nx } σ2 H2) (hd : ∀ σ H, Pv xs.length σ H → D.nx σ H) :
    ∃ W : Nat → Nat → St → Hp → Prop, (∃ m, W 0 m σ H) ∧ ∀ i m σ H, W i m σ H →
      ((Itl K a).stop i H ∧ D.nx σ H) ∨ ((Itl K a).go i H ∧ ∃ N : St → Hp → Prop, (∀ σ' H', N σ' H' → ∃ m', m' < m ∧ W (i + 1) m' σ' H') ∧ ∀ x H', (Itl K a).yld i H x H' → g x σ H' fun σ2 H2 => tb { D with nx := N, ct := N, bk := D.nx } σ2 H2) := by
  refine ⟨fun i m σ H => m = xs.length - i ∧ i ≤ xs.length ∧ Pv i σ H, ⟨xs.length, by simp, Nat.zero_le _, h0⟩, ?_⟩
  rintro i m σ H ⟨rfl, hi, p⟩
  have q := hl i σ H hi p
  by_cases hlt : i < xs.length
  · refine .inr ⟨⟨xs, xs[i], q, by simp [hlt]⟩, Pv (i + 1), fun σ' H' p' => ⟨xs.length - (i + 1), by omega, rfl, hlt, p'⟩, fun x H' y => ?_⟩
    obtain ⟨e, y⟩ := y
    subst e
    exact hs i x σ _ (y xs q) p
  · have e : i = xs.length := by omega
    subst e
    exact .inl ⟨⟨xs, q, Nat.le_refl _⟩, hd σ H p⟩
theorem for_range {lo : Int} {n : Nat} {g : TG} {tb : TS} {D : Ends} {σ : St} {H : Hp} (Pv : Nat → St → Hp → Prop) (h0 : Pv 0 σ H)
    (hs : ∀ i σ H, i < n → Pv i σ H → g (.int (lo + i)) σ H fun σ2 H2 => tb { D with nx := Pv (i + 1), ct := Pv (i + 1), bk := D.nx } σ2 H2) (hd : ∀ σ H, Pv n σ H → D.nx σ H) :
    ∃ W : Nat → Nat → St → Hp → Prop, (∃ m, W 0 m σ H) ∧ ∀ i m σ H, W i m σ H →
      ((Itr lo n).stop i H ∧ D.nx σ H) ∨ ((Itr lo n).go i H ∧ ∃ N : St → Hp → Prop, (∀ σ' H', N σ' H' → ∃ m', m' < m ∧ W (i + 1) m' σ' H') ∧ ∀ x H', (Itr lo n).yld i H x H' → g x σ H' fun σ2 H2 => tb { D with nx := N, ct := N, bk := D.nx } σ2 H2) := by
  refine ⟨fun i m σ H => m = n - i ∧ i ≤ n ∧ Pv i σ H, ⟨n, by simp, Nat.zero_le _, h0⟩, ?_⟩
  rintro i m σ H ⟨rfl, hi, p⟩
  by_cases hlt : i < n
  · refine .inr ⟨hlt, Pv (i + 1), fun σ' H' p' => ⟨n - (i + 1), by omega, rfl, hlt, p'⟩, fun x H' y => ?_⟩
    obtain ⟨e, y⟩ := y
    subst e y
    exact hs i σ _ hlt p
  · have e : i = n := by omega
    subst e
    exact .inl ⟨Nat.le_refl _, hd σ H p⟩
theorem while_by {c : TT} {tb : TS} {D : Ends} {σ : St} {H : Hp} (Pv : St → Hp → Prop) (μ : St → Hp → Nat) (h0 : Pv σ H)
    (hs : ∀ σ H, Pv σ H → c σ H fun b H1 => if b = true then tb { D with nx := fun σ' H' => Pv σ' H' ∧ μ σ' H' < μ σ H, ct := fun σ' H' => Pv σ' H' ∧ μ σ' H' < μ σ H, bk := D.nx } σ H1 else D.nx σ H1)
    (mono : ∀ σ H Q Q', (∀ b H1, Q b H1 → Q' b H1) → c σ H Q → c σ H Q') : tWhile c tb D σ H := by
  refine ⟨fun m σ H => m = μ σ H ∧ Pv σ H, ⟨_, rfl, h0⟩, ?_⟩
  rintro m σ H ⟨rfl, p⟩
  refine mono σ H _ _ (fun b H1 q => ?_) (hs σ H p)
  cases b with
  | true => exact ⟨_, fun σ' H' ⟨p', l⟩ => ⟨_, l, rfl, p'⟩, q⟩
  | false => exact q
end L2
namespace L2
open PySem PySem.Spec PyProof.Rows
abbrev R2 := V → V → Hp → VK → Prop
def OpR (X : Cx) (f : Value → Value → Sem Value) (r : R2) : Prop :=
  ∀ (pins : List (Addr × Obj)) (s : Shared) (σ : St) (H : Hp) (x y : V) (v u : Value) (Q : VK), Inv X pins σ H s → RelV x v → RelV y u → r x y H Q →
    wpAny (model X.prog X.w) X.A (f v u) (EP X pins σ Q) X.xe s
def UnR (X : Cx) (f : Value → Sem Value) (r : V → Hp → VK → Prop) : Prop :=
  ∀ (pins : List (Addr × Obj)) (s : Shared) (σ : St) (H : Hp) (x : V) (v : Value) (Q : VK), Inv X pins σ H s → RelV x v → r x H Q →
    wpAny (model X.prog X.w) X.A (f v) (EP X pins σ Q) X.xe s
def CallR (X : Cx) (f : Value) (r : List V → Hp → VK → Prop) : Prop :=
  ∀ (pins : List (Addr × Obj)) (s : Shared) (σ : St) (H : Hp) (xs : List V) (us : List Value) (Q : VK), Inv X pins σ H s → Vals xs us → r xs H Q →
    wpAny (model X.prog X.w) X.A (call f us) (EP X pins σ Q) X.xe s
def tOp (r : R2) (ta tb : TE) : TE := fun σ H Q => ta σ H fun x H1 => tb σ H1 fun y H2 => r x y H2 Q
def tUn (r : V → Hp → VK → Prop) (ta : TE) : TE := fun σ H Q => ta σ H fun x H1 => r x H1 Q
def rI (C : Int → Int → Prop) (g : Int → Int → V) : R2 := fun x y H Q => ∃ i j, x = .int i ∧ y = .int j ∧ C i j ∧ Q (g i j) H
def rI0 (g : Int → Int → V) : R2 := fun x y H Q => ∃ i j, x = .int i ∧ y = .int j ∧ Q (g i j) H
def rU (g : Int → V) : V → Hp → VK → Prop := fun x H Q => ∃ i, x = .int i ∧ Q (g i) H
section
variable {X : Cx} {a b c : Expr} {ta tb tc : TE} {pos : Pos}
theorem binT (ha : PE X a ta) (hb : PE X b tb) {pins : List (Addr × Obj)} {s : Shared} {σ : St} {H : Hp} {R : V → V → Hp → Prop} (I : Inv X pins σ H s)
    (h : ta σ H fun x H1 => tb σ H1 fun y H2 => R x y H2) {Q : Value → Shared → Prop} {f : Value → Value → Sem Value}
    (hf : ∀ v u s2 x y H2, Inv X pins σ H2 s2 → RelV x v → RelV y u → R x y H2 → wpAny (model X.prog X.w) X.A (f v u) Q X.xe s2) :
    wpAny (model X.prog X.w) X.A (eval a X.env) (fun v s₁ => wpAny (model X.prog X.w) X.A (eval b X.env) (fun u s₂ => wpAny (model X.prog X.w) X.A (f v u) Q X.xe s₂) X.xe s₁) X.xe s := by
  refine thn (ha pins s σ H _ I h) fun v s1 ⟨x, H1, I1, r1, q1⟩ => ?_
  refine thn (hb pins s1 σ H1 _ I1 q1) fun u s2 ⟨y, H2, I2, r2, q2⟩ => ?_
  exact hf v u s2 x y H2 I2 r1 r2 q2
theorem pe_op {op : Operator} {r : R2} (ho : OpR X (binaryOp op) r) (ha : PE X a ta) (hb : PE X b tb) : PE X (.BinOp a op b pos) (tOp r ta tb) := by
  intro pins s σ H Q I h
  exact wpAny_BinOp (binT ha hb I h fun v u s2 x y H2 I2 rx ry q => ho pins s2 σ H2 x y v u Q I2 rx ry q)
theorem pe_un {op : UnaryOp} {r : V → Hp → VK → Prop} (ho : UnR X (unaryOp op) r) (ha : PE X a ta) : PE X (.UnaryOp op a pos) (tUn r ta) := by
  intro pins s σ H Q I h
  exact UnaryOp_ (thn (ha pins s σ H _ I h) fun v s1 ⟨x, H1, I1, r1, q1⟩ => ho pins s1 σ H1 x v Q I1 r1 q1)
theorem opI {f : Value → Value → Sem Value} {C : Int → Int → Prop} {g : Int → Int → Int}
    (rule : ∀ (i j : Int) (t u : Tok) (s : Shared) (Q : Value → Shared → Prop) (E : Value → Shared → Prop), C i j → Q (.int (g i j) s.toks) { s with toks := s.toks + 1 } → wpAny (model X.prog X.w) X.A (f (.int i t) (.int j u)) Q E s) :
    OpR X f (rI C fun i j => .int (g i j)) := by
  intro pins s σ H x y v u Q I rx ry h
  obtain ⟨i, j, rfl, rfl, hc, q⟩ := h
  obtain ⟨t, rfl⟩ := rx
  obtain ⟨t', rfl⟩ := ry
  exact rule i j t t' s _ _ hc ⟨.int (g i j), H, I.tok _, ⟨_, rfl⟩, q⟩
theorem opI0 {f : Value → Value → Sem Value} {g : Int → Int → Int}
    (rule : ∀ (i j : Int) (t u : Tok) (s : Shared) (Q : Value → Shared → Prop) (E : Value → Shared → Prop), Q (.int (g i j) s.toks) { s with toks := s.toks + 1 } → wpAny (model X.prog X.w) X.A (f (.int i t) (.int j u)) Q E s) :
    OpR X f (rI0 fun i j => .int (g i j)) := by
  intro pins s σ H x y v u Q I rx ry h
  obtain ⟨i, j, rfl, rfl, q⟩ := h
  obtain ⟨t, rfl⟩ := rx
  obtain ⟨t', rfl⟩ := ry
  exact rule i j t t' s _ _ ⟨.int (g i j), H, I.tok _, ⟨_, rfl⟩, q⟩
theorem opB0 {f : Value → Value → Sem Value} {g : Int → Int → Bool}
    (rule : ∀ (i j : Int) (t u : Tok) (s : Shared) (Q : Value → Shared → Prop) (E : Value → Shared → Prop), Q (.bool (g i j)) s → wpAny (model X.prog X.w) X.A (f (.int i t) (.int j u)) Q E s) :
    OpR X f (rI0 fun i j => .bl (g i j)) := by
  intro pins s σ H x y v u Q I rx ry h
  obtain ⟨i, j, rfl, rfl, q⟩ := h
  obtain ⟨t, rfl⟩ := rx
  obtain ⟨t', rfl⟩ := ry
  exact rule i j t t' s _ _ ⟨.bl (g i j), H, I, rfl, q⟩
def CDiv (i j : Int) : Prop := 0 < j ∧ j < 1073741824
def CPow (i j : Int) : Prop := 0 ≤ j ∧ j ≤ 1000000 ∧ i.natAbs < 2 ^ 64
def CMul (i j : Int) : Prop := (-(2 ^ 64) < i ∧ i < 2 ^ 64) ∨ (-(2 ^ 64) < j ∧ j < 2 ^ 64)
theorem CMul.ok {i j : Int} (h : CMul i j) : IntMulOk i j := by
  rcases h with ⟨h1, h2⟩ | ⟨h1, h2⟩
  · exact .of_left (intBits_le_64 h1 h2)
  · exact .of_right (intBits_le_64 h1 h2)
theorem op_add : OpR X (binaryOp .Add) (rI0 fun i j => .int (i + j)) := opI0 fun _ _ _ _ _ _ _ q => add_int q
theorem op_sub : OpR X (binaryOp .Sub) (rI0 fun i j => .int (i - j)) := opI0 fun _ _ _ _ _ _ _ q => sub_int q
theorem op_mul : OpR X (binaryOp .Mult) (rI CMul fun i j => .int (i * j)) := opI fun _ _ _ _ _ _ _ hc q => mul_int q hc.ok
theorem op_fdiv : OpR X (binaryOp .FloorDiv) (rI CDiv fun i j => .int (i / j)) := opI fun i j _ _ _ _ _ hc q => by
  have h1 : (0 : Int) < j := hc.1
  have h2 : j < 1073741824 := hc.2
  exact floordiv_int (by omega) (by rw [Int.fdiv_eq_ediv_of_nonneg i (by omega)]; exact q) (.inl (PyProof.noPylong_small (by omega)))
theorem op_mod : OpR X (binaryOp .Mod) (rI (fun _ j => 0 < j) fun i j => .int (i % j)) := opI fun i j _ _ _ _ _ hc q => by
  have h1 : (0 : Int) < j := hc
  exact mod_int' (by omega) (by rw [Int.fmod_eq_emod_of_nonneg i (by omega)]; exact q)
theorem op_pow : OpR X (binaryOp .Pow) (rI CPow fun i j => .int (i ^ j.toNat)) := opI fun _ _ _ _ _ _ _ hc q => pow_int_small hc.1 hc.2.1 hc.2.2 q
theorem unI {f : Value → Sem Value} {g : Int → Int}
    (rule : ∀ (i : Int) (t : Tok) (s : Shared) (Q : Value → Shared → Prop) (E : Value → Shared → Prop), Q (.int (g i) s.toks) { s with toks := s.toks + 1 } → wpAny (model X.prog X.w) X.A (f (.int i t)) Q E s) :
    UnR X f (rU fun i => .int (g i)) := by
  intro pins s σ H x v Q I rx h
  obtain ⟨i, rfl, q⟩ := h
  obtain ⟨t, rfl⟩ := rx
  exact rule i t s _ _ ⟨.int (g i), H, I.tok _, ⟨_, rfl⟩, q⟩
theorem un_neg : UnR X (unaryOp .USub) (rU fun i => .int (-i)) := unI fun _ _ _ _ _ q => neg_int q
end
def scal : V → V → Bool
  | .non, .non => true | .non, .int _ => true | .int _, .non => true | .non, .bl _ => true | .bl _, .non => true | .non, .str _ => true | .str _, .non => true
  | .int _, .int _ => true | .bl _, .bl _ => true | .str _, .str _ => true | .byt _, .byt _ => true
  | .int _, .str _ => true | .str _, .int _ => true | .bl _, .str _ => true | .str _, .bl _ => true
  | _, _ => false
def rEq : R2 := fun x y H Q => scal x y = true ∧ Q (.bl (decide (x = y))) H
def rNe : R2 := fun x y H Q => scal x y = true ∧ Q (.bl (!decide (x = y))) H
theorem dec_int {i j : Int} : decide (V.int i = V.int j) = (i == j) := by
  rw [Bool.eq_iff_iff]
  simp
theorem dec_bl {i j : Bool} : decide (V.bl i = V.bl j) = (i == j) := by
  rw [Bool.eq_iff_iff]
  simp
theorem dec_str {i j : Str} : decide (V.str i = V.str j) = (i == j) := by
  rw [Bool.eq_iff_iff]
  simp
theorem dec_byt {i j : Array UInt8} : decide (V.byt i = V.byt j) = (i.toList == j.toList) := by
  rw [Bool.eq_iff_iff]
  cases i
  cases j
  simp
section
variable {X : Cx} {a b c : Expr} {ta tb tc : TE} {pos : Pos}
theorem fin_bl {pins : List (Addr × Obj)} {σ : St} {H : Hp} {s : Shared} {Q : VK} {k k' : Bool} (I : Inv X pins σ H s) (q : Q (.bl k) H) (e : k = k') : EP X pins σ Q (.bool k') s := by
  subst e
  exact ⟨.bl k, H, I, rfl, q⟩
theorem op_eq : OpR X (compareOp .Eq) rEq := by
  intro pins s σ H x y v u Q I rx ry h
  obtain ⟨hs, q⟩ := h
  cases x with
  | non =>
    cases rx
    cases y with
    | non => cases ry; exact PySem.EqNone.eq_none_none (fin_bl I q (by simp))
    | bl j => cases ry; exact PySem.EqNone.eq_none_bool (fin_bl I q (by simp))
    | int j => obtain ⟨t', rfl⟩ := ry; exact PySem.EqNone.eq_none_int (fin_bl I q (by simp))
    | str j => obtain ⟨t', rfl⟩ := ry; exact PySem.EqNone.eq_none_str (fin_bl I q (by simp))
    | _ => exact absurd (show false = true from hs) Bool.false_ne_true
  | bl i =>
    cases rx
    cases y with
    | non => cases ry; exact PySem.EqNone.eq_bool_none (fin_bl I q (by simp))
    | bl j => cases ry; exact eq_bool (fin_bl I q dec_bl)
    | str j => obtain ⟨t', rfl⟩ := ry; exact PySem.EqMixed.eq_bool_str (fin_bl I q (by simp))
    | _ => exact absurd (show false = true from hs) Bool.false_ne_true
  | int i =>
    obtain ⟨t, rfl⟩ := rx
    cases y with
    | non => cases ry; exact PySem.EqNone.eq_int_none (fin_bl I q (by simp))
    | int j => obtain ⟨t', rfl⟩ := ry; exact eq_int (fin_bl I q dec_int)
    | str j => obtain ⟨t', rfl⟩ := ry; exact PySem.EqMixed.eq_int_str (fin_bl I q (by simp))
    | _ => exact absurd (show false = true from hs) Bool.false_ne_true
  | str i =>
    obtain ⟨t, rfl⟩ := rx
    cases y with
    | non => cases ry; exact PySem.EqNone.eq_str_none (fin_bl I q (by simp))
    | bl j => cases ry; exact PySem.EqMixed.eq_str_bool (fin_bl I q (by simp))
    | int j => obtain ⟨t', rfl⟩ := ry; exact PySem.EqMixed.eq_str_int (fin_bl I q (by simp))
    | str j => obtain ⟨t', rfl⟩ := ry; exact eq_str (fin_bl I q dec_str)
    | _ => exact absurd (show false = true from hs) Bool.false_ne_true
  | byt i =>
    obtain ⟨t, rfl⟩ := rx
    cases y with
    | byt j => obtain ⟨t', rfl⟩ := ry; exact PySem.W.eq_bytes (fin_bl I q dec_byt)
    | _ => exact absurd (show false = true from hs) Bool.false_ne_true
  | _ => cases y <;> exact absurd (show false = true from hs) Bool.false_ne_true
theorem op_ne : OpR X (compareOp .NotEq) rNe := by
  intro pins s σ H x y v u Q I rx ry h
  obtain ⟨hs, q⟩ := h
  cases x with
  | non =>
    cases rx
    cases y with
    | non => cases ry; exact PySem.EqNone.ne_none_none (fin_bl I q (by simp))
    | bl j => cases ry; exact PySem.EqNone.ne_none_bool (fin_bl I q (by simp))
    | int j => obtain ⟨t', rfl⟩ := ry; exact PySem.EqNone.ne_none_int (fin_bl I q (by simp))
    | str j => obtain ⟨t', rfl⟩ := ry; exact PySem.EqNone.ne_none_str (fin_bl I q (by simp))
    | _ => exact absurd (show false = true from hs) Bool.false_ne_true
  | bl i =>
    cases rx
    cases y with
    | non => cases ry; exact PySem.EqNone.ne_bool_none (fin_bl I q (by simp))
    | bl j => cases ry; exact ne_bool (fin_bl I q (congrArg not dec_bl))
    | str j => obtain ⟨t', rfl⟩ := ry; exact PySem.EqMixed.ne_bool_str (fin_bl I q (by simp))
    | _ => exact absurd (show false = true from hs) Bool.false_ne_true
  | int i =>
    obtain ⟨t, rfl⟩ := rx
    cases y with
    | non => cases ry; exact PySem.EqNone.ne_int_none (fin_bl I q (by simp))
    | int j => obtain ⟨t', rfl⟩ := ry; exact ne_int (fin_bl I q (congrArg not dec_int))
    | str j => obtain ⟨t', rfl⟩ := ry; exact PySem.EqMixed.ne_int_str (fin_bl I q (by simp))
    | _ => exact absurd (show false = true from hs) Bool.false_ne_true
  | str i =>
    obtain ⟨t, rfl⟩ := rx
    cases y with
    | non => cases ry; exact PySem.EqNone.ne_str_none (fin_bl I q (by simp))
    | bl j => cases ry; exact PySem.EqMixed.ne_str_bool (fin_bl I q (by simp))
    | int j => obtain ⟨t', rfl⟩ := ry; exact PySem.EqMixed.ne_str_int (fin_bl I q (by simp))
    | str j => obtain ⟨t', rfl⟩ := ry; exact ne_str (fin_bl I q (congrArg not dec_str))
    | _ => exact absurd (show false = true from hs) Bool.false_ne_true
  | byt i =>
    obtain ⟨t, rfl⟩ := rx
    cases y with
    | byt j => obtain ⟨t', rfl⟩ := ry; exact PySem.W.ne_bytes (fin_bl I q (congrArg not dec_byt))
    | _ => exact absurd (show false = true from hs) Bool.false_ne_true
  | _ => cases y <;> exact absurd (show false = true from hs) Bool.false_ne_true
theorem op_lt : OpR X (compareOp .Lt) (rI0 fun i j => .bl (decide (i < j))) := opB0 fun _ _ _ _ _ _ _ q => lt_int q
theorem op_le : OpR X (compareOp .LtE) (rI0 fun i j => .bl (decide (i ≤ j))) := opB0 fun _ _ _ _ _ _ _ q => le_int q
theorem op_gt : OpR X (compareOp .Gt) (rI0 fun i j => .bl (decide (j < i))) := opB0 fun _ _ _ _ _ _ _ q => gt_int q
theorem op_ge : OpR X (compareOp .GtE) (rI0 fun i j => .bl (decide (j ≤ i))) := opB0 fun _ _ _ _ _ _ _ q => ge_int q
theorem op_isN : OpR X (compareOp .Is) (fun x y H Q => y = .non ∧ Q (.bl (decide (x = .non))) H) := by
  intro pins s σ H x y v u Q I rx ry h
  obtain ⟨rfl, q⟩ := h
  cases ry
  refine is_none_gen (fin_bl I q ?_)
  cases x <;> first
    | (cases rx; rfl)
    | (obtain ⟨t, rfl⟩ := rx; rfl)
theorem nomark (b : Expr) {op : CmpOp} (h : op ≠ .In := by decide) (h2 : op ≠ .NotIn := by decide) : behindInMarks op b = false := by
  have e1 : (op == CmpOp.In) = false := by cases op <;> first | rfl | exact absurd rfl h
  have e2 : (op == CmpOp.NotIn) = false := by cases op <;> first | rfl | exact absurd rfl h2
  cases b <;> simp [behindInMarks, e1, e2]
theorem pe_cmpR {op : CmpOp} {r : R2} (ho : OpR X (compareOp op) r) (ha : PE X a ta) (hb : PE X b tb) (hm : behindInMarks op b = false) : PE X (.Compare a [op] [b] pos) (tOp r ta tb) := by
  intro pins s σ H Q I h
  exact wpAny_Compare1 (binT ha hb I h fun v u s2 x y H2 I2 rx ry q => ho pins s2 σ H2 x y v u Q I2 rx ry q) hm
def tTest (t : TE) : TT := fun σ H Q => t σ H fun x H' => ∃ k, x = .bl k ∧ Q k H'
theorem pt_cmpR {op : CmpOp} {r : R2} (ho : OpR X (compareOp op) r) (ha : PE X a ta) (hb : PE X b tb) (hm : behindInMarks op b = false) : PT X (.Compare a [op] [b] pos) (tTest (tOp r ta tb)) := by
  intro pins s σ H Q I h
  refine wpAny_isTrue_Compare1 (thn (ha pins s σ H _ I h) fun v s1 ⟨x, H1, I1, r1, q1⟩ => thn (hb pins s1 σ H1 _ I1 q1) fun u s2 ⟨y, H2, I2, r2, q2⟩ =>
    thn (ho pins s2 σ H2 x y v u _ I2 r1 r2 q2) fun c s3 ⟨z, H3, I3, r3, k, e, q3⟩ => ?_) hm
  subst e
  cases r3
  exact wpAny_truthy_bool ⟨H3, I3, q3⟩
theorem line63 : (sizeLine : Nat) < 2 ^ 63 := by rw [sizeLine_eq]; decide
theorem vals1 {x : V} {us : List Value} (r : Vals [x] us) : ∃ u, us = [u] ∧ RelV x u := by
  cases r with
  | cons r1 r2 => cases r2; exact ⟨_, rfl, r1⟩
theorem vals2 {x y : V} {us : List Value} (r : Vals [x, y] us) : ∃ u w', us = [u, w'] ∧ RelV x u ∧ RelV y w' := by
  cases r with
  | cons r1 r2 =>
    cases r2 with
    | cons r3 r4 => cases r4; exact ⟨_, _, rfl, r1, r3⟩
theorem call_max2 (hc : X.calm = true) : CallR X (.builtin "max") (fun xs H Q => ∃ i j, xs = [.int i, .int j] ∧ Q (.int (if j > i then j else i)) H) := by
  intro pins s σ H xs us Q I r h
  obtain ⟨i, j, rfl, q⟩ := h
  obtain ⟨u, w', rfl, ⟨t, rfl⟩, ⟨t', rfl⟩⟩ := vals2 r
  refine max_two_ints (I.ok.hd hc) fun h' tk k => ⟨_, H, I.kept k, ?_, q⟩
  by_cases hj : j > i
  · rw [if_pos hj, if_pos hj]; exact ⟨_, rfl⟩
  · rw [if_neg hj, if_neg hj]; exact ⟨_, rfl⟩
theorem call_min2 (hc : X.calm = true) : CallR X (.builtin "min") (fun xs H Q => ∃ i j, xs = [.int i, .int j] ∧ Q (.int (if j < i then j else i)) H) := by
  intro pins s σ H xs us Q I r h
  obtain ⟨i, j, rfl, q⟩ := h
  obtain ⟨u, w', rfl, ⟨t, rfl⟩, ⟨t', rfl⟩⟩ := vals2 r
  refine min_two_ints (I.ok.hd hc) fun h' tk k => ⟨_, H, I.kept k, ?_, q⟩
  by_cases hj : j < i
  · rw [if_pos hj, if_pos hj]; exact ⟨_, rfl⟩
  · rw [if_neg hj, if_neg hj]; exact ⟨_, rfl⟩
end
end L2
namespace L2
open PySem PySem.Spec PyProof.Rows
structure ObjM (h : Heap) (x dx C : Addr) (mA : Str → Option Value) : Prop where
  obj : h.get? x = some (PySem.W.instObj C dx)
  ns : h.Ns1 dx mA
  ne : dx ≠ x
theorem lookIn_ns {h : Heap} {dx : Addr} {mA : Str → Option Value} (n : h.Ns1 dx mA) : ∃ od, h.get? dx = some od ∧ ∀ name, PySem.W.lookIn name od = some (mA name) := by
  obtain ⟨o, es, ep, ho, hd, hk, _, hm⟩ := n
  refine ⟨o, ho, fun name => ?_⟩
  have e := hm name
  unfold nsFind findBy at e
  rw [← Array.find?_toList] at e
  unfold PySem.W.lookIn
  rw [hd]
  dsimp only
  split
  · rename_i y q
    rw [q] at e
    exact congrArg some e
  · rename_i q
    rw [q] at e
    have a : es.toList.any (·.refKey) = false := by
      rw [List.any_eq_false]
      intro y hy
      obtain ⟨z, t, hkey⟩ := hk y (Array.mem_toList_iff.mp hy)
      simp [DictEntry.refKey, hkey]
    have a' : ¬ es.toList.any (·.refKey) = true := by rw [a]; exact Bool.false_ne_true
    rw [if_neg a']
    exact congrArg some e
theorem ObjM.look {h : Heap} {x dx C : Addr} {mA : Str → Option Value} (I : ObjM h x dx C mA) : ∃ od, PySem.W.InstAt h x (PySem.W.instObj C dx) C (some od) ∧ ∀ name, PySem.W.lookIn name od = some (mA name) :=
  let ⟨od, ho, hl⟩ := lookIn_ns I.ns
  ⟨od, ⟨I.obj, rfl, rfl, ho⟩, hl⟩
section
variable {prog : Program} {w : World} {A : Around} {E : Value → Shared → Prop} {s : Shared} {K : PySem.W.Frag} {x dx C f : Addr} {mA : Str → Option Value} {name : Str} {v : Value}
theorem get_map {expr : Bool} {Q : Value → Shared → Prop} (X : K.In s.heap) (I : ObjM s.heap x dx C mA) (hg : PySem.W.plainGet K C name = true) (hh : PySem.W.hasDictIn K C = true)
    (ha : PySem.W.findIn K (.ref C) name = some none) (hv : mA name = some v) (hv' : PySem.W.handedIn v = true) (h : Q v { s with toks := s.toks + 1 }) :
    wpAny (model prog w) A (getAttr (.ref x) name expr) Q E s := by
  obtain ⟨od, J, hl⟩ := I.look
  exact PySem.W.get_value X J (PySem.W.plainGet_of hg).1 (PySem.W.findObj_own hh ha rfl (by rw [hl, hv])) hv' h
theorem get_meth {pl : Sem Bool} {Q : Value × List Value → Shared → Prop} (X : K.In s.heap) (I : ObjM s.heap x dx C mA) (hg : PySem.W.plainGet K C name = true)
    (hf : PySem.W.findIn K (.ref C) name = some (some (.ref f))) (ht : PySem.W.isFn K (.ref f) = true) (hv : mA name = none) (h : Q (.ref f, [.ref x]) s) :
    wpAny (model prog w) A (getMethod (.ref x) name pl) Q E s := by
  obtain ⟨od, J, hl⟩ := I.look
  exact PySem.W.method_fn X J (PySem.W.plainGet_of hg).1 (PySem.W.plainGet_of hg).2 hf (beq_iff_eq.mp ht) (by show (PySem.W.lookIn name od).map (·.isSome) = some false; rw [hl, hv]; rfl) h
theorem set_map {ns : List Str} {Q : Unit → Shared → Prop} (X : K.In s.heap) (I : ObjM s.heap x dx C mA)
    (hs : PySem.W.findIn K (.ref C) "__setattr__" = some (some (.builtin "object.__setattr__"))) (hp : PySem.W.plainOver K C = true) (ht : PySem.W.takerIn K C name = some none) (hh : PySem.W.hasDictIn K C = true)
    (hw : PySem.Within mA ns) (hsz : ns.length ≤ sizeLine)
    (h : ∀ h', ObjM h' x dx C (fun y => if y = name then some v else mA y) → Heap.SameBut dx s.heap h' → Q () { s with heap := h', toks := s.toks + 2 }) :
    wpAny (model prog w) A (setAttr (.ref x) name v) Q E s := by
  obtain ⟨od, J, hl⟩ := I.look
  refine PySem.W.set_plain X J hs (PySem.W.osa_open (s := { s with toks := s.toks + 1 }) (r := none) X J hp ht fun b => ?_)
  obtain ⟨cd, hc, hd'⟩ := PySem.W.any_some hh
  have hx : s.heap.get? x = some ⟨.ref C, some dx, .plain, #[]⟩ := I.obj
  refine wpAny_bind (wpAny_pure (wpAny_bind (wpAny_bind (wpAny_loadPart hx (wpAny_bind (PySem.W.Looks.here (s := { s with toks := s.toks + 1 }) (PySem.W.looks_clsIn X hc) ?_))))))
  rw [hd']
  refine wpAny_pure (a := some dx) (wpAny_bind (wpAny_pure (wpAny_bind ?_)))
  refine wpAny_nsSet1 (s := { s with toks := s.toks + 1 }) I.ns fun h' hn2 hs2 => ?_
  obtain ⟨oD, esD, epD, hoD, hdD, hcD⟩ := hn2.count (PySem.Within.cons name v hw)
  refine wpAny_bind (wpAny_lookBehind hoD (by rw [hdD]; exact pastItsLine_dict (Nat.le_trans hcD (by rw [List.length_cons]; omega))) ?_)
  exact wpAny_pure (h _ ⟨(hs2.2 _ (Ne.symm I.ne)).trans I.obj, hn2, I.ne⟩ hs2)
theorem make_map {R : Result → Shared → Prop} {vs : List Value} {kw : List (Str × Value)} (X : K.In s.heap) (hm : PySem.W.makesIn K C = true)
    (hi : PySem.W.findIn K (.ref C) "__init__" = some (some (.ref f))) (hf : PySem.W.typeIn K (.ref f) = some (.type "function"))
    (h : codeAny (model prog w) (A.under (.builtin "type.__call__" ⟨.ref C :: vs, kw⟩)) (.call (.ref f) ⟨.ref (s.heap.objs.size + 1) :: vs, kw⟩) (PySem.W.InitBack (s.heap.objs.size + 1) R)
      { s with heap := (s.heap.push PySem.W.emptyDict).push (PySem.W.instObj C s.heap.objs.size) }) :
    codeAny (model prog w) A (.call (.ref C) ⟨vs, kw⟩) R s := by
  obtain ⟨hh, g, d, t, os⟩ := s
  exact PySem.W.make_core (PySem.W.makes_of X hm) (PySem.W.looks_findIn X hi) (fun self => PySem.W.bind_fn X self hf) (.inl rfl) h
end
def putF (f : Str) (v : V) : List (Str × V) → List (Str × V)
  | [] => [(f, v)]
  | (g, x) :: r => if g = f then (g, v) :: r else (g, x) :: putF f v r
theorem lookup_putF (f g : Str) (v : V) : ∀ fs : List (Str × V), (putF f v fs).lookup g = if g = f then some v else fs.lookup g
  | [] => by
    show List.lookup g [(f, v)] = _
    by_cases h : g = f
    · have hb : (g == f) = true := beq_iff_eq.mpr h
      simp only [List.lookup, hb, if_pos h]
    · have hb : (g == f) = false := beq_eq_false_iff_ne.mpr h
      simp only [List.lookup, hb, if_neg h]
  | (k, x) :: r => by
    have ih := lookup_putF f g v r
    rw [show putF f v ((k, x) :: r) = (if k = f then (k, v) :: r else (k, x) :: putF f v r) from rfl]
    by_cases hk : k = f
    · rw [if_pos hk]
      by_cases h : g = k
      · have hb : (g == k) = true := beq_iff_eq.mpr h
        simp only [List.lookup, hb, if_pos (h.trans hk)]
      · have hb : (g == k) = false := beq_eq_false_iff_ne.mpr h
        simp only [List.lookup, hb, if_neg (fun e : g = f => h (e.trans hk.symm))]
    · rw [if_neg hk]
      by_cases h : g = k
      · have hb : (g == k) = true := beq_iff_eq.mpr h
        simp only [List.lookup, hb, if_neg (fun e : g = f => hk (h.symm.trans e))]
      · have hb : (g == k) = false := beq_eq_false_iff_ne.mpr h
        simp only [List.lookup, hb]
        exact ih
theorem keys_putF (f : Str) (v : V) : ∀ fs : List (Str × V), f ∈ (putF f v fs).map (·.1) ∧ ∀ g, g ∈ fs.map (·.1) → g ∈ (putF f v fs).map (·.1)
  | [] => ⟨by simp [putF], fun g h => by simp at h⟩
  | (k, x) :: r => by
    obtain ⟨i1, i2⟩ := keys_putF f v r
    rw [show putF f v ((k, x) :: r) = (if k = f then (k, v) :: r else (k, x) :: putF f v r) from rfl]
    by_cases hk : k = f
    · rw [if_pos hk]
      subst hk
      exact ⟨by simp, fun g h => by simpa using h⟩
    · rw [if_neg hk]
      refine ⟨?_, fun g h => ?_⟩
      · rw [List.map_cons]
        exact List.mem_cons_of_mem _ i1
      · rw [List.map_cons] at h ⊢
        rcases List.mem_cons.mp h with e | e
        · exact List.mem_cons.mpr (.inl e)
        · exact List.mem_cons_of_mem _ (i2 g e)
theorem length_putF (f : Str) (v : V) : ∀ fs : List (Str × V), (putF f v fs).length ≤ fs.length + 1
  | [] => by simp [putF]
  | (k, x) :: r => by
    have ih := length_putF f v r
    rw [show putF f v ((k, x) :: r) = (if k = f then (k, v) :: r else (k, x) :: putF f v r) from rfl]
    by_cases hk : k = f
    · rw [if_pos hk, List.length_cons, List.length_cons]; omega
    · rw [if_neg hk, List.length_cons, List.length_cons]; omega
theorem RelO.some_of {v : V} {o : Option Value} (r : RelO (some v) o) : ∃ u, o = some u ∧ RelV v u := by
  cases o with
  | none => exact (show False from r).elim
  | some u => exact ⟨u, rfl, r⟩
theorem RelO.none_of {o : Option Value} (r : RelO none o) : o = none := by
  cases o with
  | none => rfl
  | some u => exact (show False from r).elim
theorem handed_of {v : V} {u : Value} (r : RelV v u) : PySem.W.handedIn u = true := by
  cases v with
  | non => cases (show u = Value.none from r); rfl
  | bl b => cases (show u = Value.bool b from r); rfl
  | int i => obtain ⟨t, e⟩ := (show ∃ t, u = Value.int i t from r); cases e; rfl
  | str x => obtain ⟨t, e⟩ := (show ∃ t, u = Value.str x t from r); cases e; rfl
  | byt b => obtain ⟨t, e⟩ := (show ∃ t, u = Value.bytes b t from r); cases e; rfl
  | flt b => obtain ⟨t, e⟩ := (show ∃ t, u = Value.float b t from r); cases e; rfl
  | ref a => cases (show u = Value.ref a from r); rfl
  | ty n => cases (show u = Value.type n from r); rfl
section
variable {P : Program} {w : World} {H H' : Hp} {h h' : Heap} {a C dx : Addr} {fs fs' : List (Str × V)}
theorem ins_get (hok : HOk P w H h) (e : H a = some (.ins C dx fs)) : ∃ mA, ObjM h a dx C mA ∧ (∀ f, RelO (fs.lookup f) (mA f)) ∧ PySem.Within mA (fs.map (·.1)) ∧ fs.length ≤ 1000 ∧ H dx = some (.own a) := by
  obtain ⟨d, z, ne, ob, mA, n, r, q⟩ := (show ObjOk P w H h a (.ins C dx fs) from hok a _ e)
  exact ⟨mA, ⟨ob, n, ne⟩, r, q, z, d⟩
end
structure Cls (K : PySem.W.Frag) (C : Addr) : Prop where
  pg : PySem.W.plainGet K C Str.empty = true
  hd : PySem.W.hasDictIn K C = true
  po : PySem.W.plainOver K C = true
  sa : PySem.W.findIn K (.ref C) "__setattr__" = some (some (.builtin "object.__setattr__"))
theorem Cls.get {K : PySem.W.Frag} {C : Addr} (c : Cls K C) (f : Str) : PySem.W.plainGet K C f = true := c.pg
def NoAttr (K : PySem.W.Frag) (C : Addr) (f : Str) : Prop := PySem.W.findIn K (.ref C) f = some none
theorem NoAttr.taker {K : PySem.W.Frag} {C : Addr} {f : Str} (n : NoAttr K C f) : PySem.W.takerIn K C f = some none := by
  unfold PySem.W.takerIn
  rw [show PySem.W.findIn K (.ref C) f = some none from n]
  rfl
structure Meth (K : PySem.W.Frag) (C : Addr) (m : Str) (f : Addr) : Prop where
  at_ : PySem.W.findIn K (.ref C) m = some (some (.ref f))
  fn : PySem.W.isFn K (.ref f) = true
  kp : PySem.W.keepIn K (.ref f) = true
section
variable {X : Cx} {pins : List (Addr × Obj)} {σ : St} {H : Hp} {s : Shared} {a C dx : Addr} {fs : List (Str × V)} {f : Str} {v : V} {A : Around} {E : Value → Shared → Prop}
theorem getattr_ok {b : Bool} {Q : Value → Shared → Prop} (I : Inv X pins σ H s) (e : H a = some (.ins C dx fs)) (c : Cls X.K C) (n : NoAttr X.K C f) (l : fs.lookup f = some v)
    (h : ∀ u s', Inv X pins σ H s' → RelV v u → Q u s') : wpAny (model X.prog X.w) A (getAttr (.ref a) f b) Q E s := by
  obtain ⟨mA, O, r, _, _, _⟩ := ins_get I.hok e
  obtain ⟨u, hu, ru⟩ := RelO.some_of (v := v) (o := mA f) (by rw [← l]; exact r f)
  exact get_map I.kIn O (c.get f) c.hd n hu (handed_of ru) (h u _ (I.tok _) ru)
theorem getmeth_ok {m : Str} {g : Addr} {pl : Sem Bool} {Q : Value × List Value → Shared → Prop} (I : Inv X pins σ H s) (e : H a = some (.ins C dx fs)) (c : Cls X.K C) (k : Meth X.K C m g) (l : fs.lookup m = none)
    (h : Q (.ref g, [.ref a]) s) : wpAny (model X.prog X.w) A (getMethod (.ref a) m pl) Q E s := by
  obtain ⟨mA, O, r, _, _, _⟩ := ins_get I.hok e
  have hn : mA m = none := RelO.none_of (by rw [← l]; exact r m)
  exact get_meth I.kIn O (c.get m) k.at_ k.fn hn h
theorem setattr_ok {y : V} {u : Value} {Q : Unit → Shared → Prop} (I : Inv X pins σ H s) (e : H a = some (.ins C dx fs)) (c : Cls X.K C) (n : NoAttr X.K C f) (hl : fs.length < 1000) (ry : RelV y u)
    (h : ∀ s', Inv X pins σ (upd H a (.ins C dx (putF f y fs))) s' → Q () s') : wpAny (model X.prog X.w) A (setAttr (.ref a) f u) Q E s := by
  obtain ⟨mA, O, r, wi, _, ho⟩ := ins_get I.hok e
  have hz : (fs.map (·.1)).length ≤ sizeLine := by rw [List.length_map, sizeLine_eq]; omega
  refine set_map I.kIn O c.sa c.po n.taker c.hd wi hz fun h' O' sb => h _ ?_
  have hd : ∃ o, h'.get? dx = some o := let ⟨o, _, _, e', _⟩ := O'.ns; ⟨o, e'⟩
  refine I.write (x := a) (e := dx) (by rw [e]; exact True.intro) (.inr ho) (fun b q hb z => (sb.2 b hb).trans z) hd ?_
  refine ⟨by rw [upd_ne O.ne]; exact ho, ?_, O.ne, O'.obj, _, O'.ns, fun g => ?_, fun g hg => ?_⟩
  · have := length_putF f y fs; omega
  · show RelO ((putF f y fs).lookup g) (if g = f then some u else mA g)
    rw [lookup_putF]
    by_cases q : g = f
    · rw [if_pos q, if_pos q]; exact ry
    · rw [if_neg q, if_neg q]; exact r g
  · by_cases q : g = f
    · rw [q]; exact (keys_putF f y fs).1
    · refine (keys_putF f y fs).2 g (wi g fun z => hg ?_)
      show (if g = f then some u else mA g) = none
      rw [if_neg q]; exact z
theorem Inv.made (I : Inv X pins σ H s) : Inv X pins σ (upd (upd H s.heap.objs.size (.own (s.heap.objs.size + 1))) (s.heap.objs.size + 1) (.ins C s.heap.objs.size []))
    { s with heap := (s.heap.push PySem.W.emptyDict).push (PySem.W.instObj C s.heap.objs.size) } := by
  have e1 : (s.heap.push PySem.W.emptyDict).get? s.heap.objs.size = some PySem.W.emptyDict := Heap.get?_push_size s.heap rfl
  have e2 : ((s.heap.push PySem.W.emptyDict).push (PySem.W.instObj C s.heap.objs.size)).get? (s.heap.objs.size + 1) = some (PySem.W.instObj C s.heap.objs.size) := by
    have := Heap.get?_push_size (s.heap.push PySem.W.emptyDict) (o := PySem.W.instObj C s.heap.objs.size) rfl
    rwa [Heap.size_push] at this
  have e3 : (s.heap.push PySem.W.emptyDict).Ns s.heap.objs.size (fun _ => none) := ⟨PySem.W.emptyDict, #[], _, e1, rfl, (fun e he => absurd he (by simp)), fun _ => rfl⟩
  have I1 := I.laid (a := s.heap.objs.size) (o := .own (s.heap.objs.size + 1)) (h' := s.heap.push PySem.W.emptyDict) (t' := s.toks) (fun b u q => Heap.get?_push_of_some _ q) (Nat.le_refl _) ⟨_, e1⟩
  refine I1.laid (a := s.heap.objs.size + 1) (o := .ins C s.heap.objs.size []) (t' := s.toks) (fun b u q => Heap.get?_push_of_some _ q) (Nat.le_of_eq (Heap.size_push _ _)) ?_
  have ne : s.heap.objs.size ≠ s.heap.objs.size + 1 := Nat.ne_of_lt (Nat.lt_succ_self _)
  refine ⟨by rw [upd_ne ne, upd_same], Nat.zero_le _, ne, e2, fun _ => none, (Heap.Ns1.of_empty e3).at fun o q => Heap.get?_push_of_some _ q, fun _ => True.intro, fun y hy => absurd rfl hy⟩
theorem attr_of {prog : Program} {w : World} {env : Env} {e : Expr} {f : Str} {pos : Pos} {s : Shared} {Q : Value → Shared → Prop} (hb : attributeBase e f env (eval e env) = eval e env)
    (h : wpAny (model prog w) A (eval e env) (fun o s₁ => wpAny (model prog w) A (getAttr o f true) Q E s₁) E s) : wpAny (model prog w) A (eval (.Attribute e f pos) env) Q E s :=
  Attribute_any_ h (by rw [arm_eval_Attribute, hb])
end
def tFld (K : PySem.W.Frag) (ta : TE) (f : Str) : TE := fun σ H Q => ta σ H fun x H1 => ∃ a C dx fs v, x = .ref a ∧ H1 a = some (.ins C dx fs) ∧ Cls K C ∧ NoAttr K C f ∧ fs.lookup f = some v ∧ Q v H1
def sFld (K : PySem.W.Frag) (ta tv : TE) (f : Str) : TS := fun D σ H => tv σ H fun y H1 => ta σ H1 fun x H2 => ∃ a C dx fs, x = .ref a ∧ H2 a = some (.ins C dx fs) ∧ Cls K C ∧ NoAttr K C f ∧ fs.length < 1000 ∧
  D.nx σ (upd H2 a (.ins C dx (putF f y fs)))
section
variable {X : Cx} {o e value : Expr} {f : Str} {pos pos' tpos : Pos} {ta tv : TE}
theorem pe_fld (he : PE X e ta) (hb : attributeBase e f X.env (eval e X.env) = eval e X.env) : PE X (.Attribute e f pos) (tFld X.K ta f) := by
  intro pins s σ H Q I h
  refine attr_of hb (thn (he pins s σ H _ I h) fun u s1 ⟨x, H1, I1, rx, a, C, dx, fs, v, ex, ea, c, n, l, q⟩ => ?_)
  subst ex
  obtain rfl : u = Value.ref a := rx
  exact getattr_ok I1 ea c n l fun u' s2 I2 ru => ⟨v, H1, I2, ru, q⟩
theorem ps_fld (ha : PE X o ta) (hv : PE X value tv) (hs : swapsWith value (some (.Attribute o f pos')) pos.line X.env = pure false) : PS X (.Assign [.Attribute o f pos'] value pos) (sFld X.K ta tv f) := by
  intro pins s σ H D I h
  refine plainObj_wpAny_Assign_Attribute (thn (hv pins s σ H _ I h) fun u s1 ⟨y, H1, I1, ry, q⟩ => thn (ha pins s1 σ H1 _ I1 q) fun ov s2 ⟨x, H2, I2, rx, a, C, dx, fs, ex, ea, c, n, l, q2⟩ => ?_) hs
  subst ex
  obtain rfl : ov = Value.ref a := rx
  exact setattr_ok I2 ea c n l ry fun s3 I3 => ⟨σ, _, I3, q2⟩
end
section
variable {X : Cx} {pins : List (Addr × Obj)} {σ : St} {H : Hp} {s : Shared} {A : Around} {E : Value → Shared → Prop} {Q : Value → Shared → Prop} {c : Value} {b : Bool}
inductive TyOf (K : PySem.W.Frag) (H : Hp) : V → Value → Prop where
  | non : TyOf K H .non (.type "NoneType")
  | bl (x : Bool) : TyOf K H (.bl x) (.type "bool")
  | int (i : Int) : TyOf K H (.int i) (.type "int")
  | str (x : Str) : TyOf K H (.str x) (.type "str")
  | flt (x : UInt64) : TyOf K H (.flt x) (.type "float")
  | lst {a : Addr} {xs : List V} (e : H a = some (.lst xs)) : TyOf K H (.ref a) (.type "list")
  | frz {a : Addr} {o : Obj} {xs : List V} (e : H a = some (.frz o (.lst xs))) : TyOf K H (.ref a) (.type "list")
  | tup {a : Addr} {xs : List V} (e : H a = some (.tup xs)) : TyOf K H (.ref a) (.type "tuple")
  | dK {a : Addr} {kvs : List (Key × V)} (e : H a = some (.dK kvs)) : TyOf K H (.ref a) (.type "dict")
  | dT {a : Addr} {kvs : List (List Key × V)} (e : H a = some (.dT kvs)) : TyOf K H (.ref a) (.type "dict")
  | ins {a C dx : Addr} {fs : List (Str × V)} (e : H a = some (.ins C dx fs)) (cl : Cls K C) (ha : PySem.W.findIn K (.ref C) "__class__" = some (some (.builtin "object.__class__")))
      (hn : PySem.W.specialIn K (.builtin "object.__class__") "__get__" = some (some (.builtin "getset_descriptor.__get__"))) (htk : PySem.W.takesIn K (.builtin "object.__class__") = some true)
      (hm : PySem.W.mroIn K C (.type "object") = some true) : TyOf K H (.ref a) (.ref C)
theorem isinst_ok {x : V} {u t : Value} (I : Inv X pins σ H s) (rx : RelV x u) (ty : TyOf X.K H x t) (e : PySem.W.kitOne X.K t c = some b) (h : ∀ tk, Q (.bool b) { s with toks := tk }) :
    wpAny (model X.prog X.w) A (call (.builtin "isinstance") [u, c]) Q E s := by
  cases ty with
  | non => cases (show u = Value.none from rx); exact PySem.W.kia_one PySem.W.kitx_none I.kIn True.intro e (fun z => nomatch z) h
  | bl y => cases (show u = Value.bool y from rx); exact PySem.W.kia_one PySem.W.kitx_bool I.kIn True.intro e (fun z => nomatch z) h
  | int i => obtain ⟨t, q⟩ := (show ∃ t, u = Value.int i t from rx); cases q; exact PySem.W.kia_one PySem.W.kitx_int I.kIn True.intro e (fun z => nomatch z) h
  | str y => obtain ⟨t, q⟩ := (show ∃ t, u = Value.str y t from rx); cases q; exact PySem.W.kia_one PySem.W.kitx_str I.kIn True.intro e (fun z => nomatch z) h
  | flt y => obtain ⟨t, q⟩ := (show ∃ t, u = Value.float y t from rx); cases q; exact PySem.W.kia_one PySem.W.kitx_float I.kIn True.intro e (fun z => nomatch z) h
  | @lst a xs ea =>
    cases (show u = Value.ref a from rx)
    obtain ⟨_, _, n, _, h1⟩ := (show ObjOk X.prog X.w H s.heap a (.lst xs) from I.hok a _ ea)
    exact PySem.W.kia_one PySem.W.kitx_list I.kIn ⟨_, h1, rfl⟩ e (fun z => nomatch z) h
  | @frz a ob xs ea =>
    cases (show u = Value.ref a from rx)
    obtain ⟨_, _, _, n, _, h1⟩ := (show ObjOk X.prog X.w H s.heap a (.frz ob (.lst xs)) from I.hok a _ ea)
    exact PySem.W.kia_one PySem.W.kitx_list I.kIn ⟨_, h1, rfl⟩ e (fun z => nomatch z) h
  | @tup a xs ea =>
    cases (show u = Value.ref a from rx)
    obtain ⟨_, _, _, p⟩ := (show ObjOk X.prog X.w H s.heap a (.tup xs) from I.hok a _ ea)
    obtain ⟨o, h1, h2, _⟩ := p
    exact PySem.W.kia_one PySem.W.kitx_tuple I.kIn ⟨o, h1, h2⟩ e (fun z => nomatch z) h
  | @dK a kvs ea =>
    cases (show u = Value.ref a from rx)
    obtain ⟨_, _, vs, _, p⟩ := (show ObjOk X.prog X.w H s.heap a (.dK kvs) from I.hok a _ ea)
    obtain ⟨o, es, ep, h1, h2, _⟩ := p
    exact PySem.W.kia_one PySem.W.kitx_dict I.kIn ⟨o, h1, h2.1⟩ e (fun z => nomatch z) h
  | @dT a kvs ea =>
    cases (show u = Value.ref a from rx)
    obtain ⟨_, _, xs, _, o, es, ep, h1, h2, _⟩ := (show ObjOk X.prog X.w H s.heap a (.dT kvs) from I.hok a _ ea)
    exact PySem.W.kia_one PySem.W.kitx_dict I.kIn ⟨o, h1, h2.1⟩ e (fun z => nomatch z) h
  | @ins a C dx fs ea cl ha hn htk hm =>
    cases (show u = Value.ref a from rx)
    obtain ⟨mA, O, _⟩ := ins_get I.hok ea
    obtain ⟨od, J, _⟩ := O.look
    exact PySem.W.kia_one (PySem.W.kitx_own (cl.get _) cl.hd ha hn htk hm) I.kIn J e (fun z => nomatch z) h
end
end L2
namespace L2
open PySem PySem.Spec PyProof.Rows
structure Room (k : Nat) (A : Around) : Prop where
  hd : A.handled = none
  dp : A.depth + 3 * k + 5 < recursionLimit
  un : A.units + 16 * k + 200 < cLine
  gd : A.guards = some []
theorem Room.mono {j k : Nat} {A : Around} (r : Room k A) (h : j ≤ k) : Room j A := ⟨r.hd, by have := r.dp; omega, by have := r.un; omega, r.gd⟩
theorem Room.deeper {k : Nat} {A : Around} (r : Room (k + 1) A) (env : Env) : Room k (A.deeper env) :=
  ⟨r.hd, by have := r.dp; show A.depth + 1 + 3 * k + 5 < _; omega, by have := r.un; show A.units + 3 + 16 * k + 200 < _; omega, r.gd⟩
theorem make_depth {A : Around} {C : Addr} {us : List Value} {kw : List (Str × Value)} : (A.under (.builtin "type.__call__" ⟨.ref C :: us, kw⟩)).depth = A.depth + 1 := by
  first | rfl | simp [Around.under, Code.weight, Code.isCreation, Code.isGuard, Code.isCaller, Code.frames, Code.isFrame, guardIds]
theorem make_units {A : Around} {C : Addr} {us : List Value} {kw : List (Str × Value)} : (A.under (.builtin "type.__call__" ⟨.ref C :: us, kw⟩)).units = A.units + 1 := by
  first | rfl | simp [Around.under, Code.cUnits, Code.frames, Code.isFrame]
theorem Room.make {k : Nat} {A : Around} (r : Room (k + 1) A) (C : Addr) (us : List Value) (kw : List (Str × Value)) : Room k (A.under (.builtin "type.__call__" ⟨.ref C :: us, kw⟩)) :=
  ⟨r.hd, by have := r.dp; rw [make_depth]; omega, by have := r.un; rw [make_units]; omega, by have h := r.gd; first | (simp only [Around.under]; rw [h]; rfl) | simp [Around.under, h, pushGuards, Code.guards, Code.isGuard, guardIds]⟩
theorem Room.depth {k : Nat} {A : Around} (r : Room k A) : A.depth < recursionLimit := by have := r.dp; omega
theorem Room.units {k : Nat} {A : Around} (r : Room k A) : A.units + 64 < cLine := by have := r.un; omega
def tNil : TA := fun _ H Q => Q [] H
def tCons (ta : TE) (tr : TA) : TA := fun σ H Q => ta σ H fun x H1 => tr σ H1 fun xs H2 => Q (x :: xs) H2
section
variable {X : Cx} {e : Expr} {es : List Expr} {te : TE} {t : TA} {pos : Pos}
theorem pa_nil : PA X [] tNil := fun _ _ _ _ H Q I h => Calls.spliced_nil ⟨[], H, I, .nil, h⟩
theorem pa_cons (ha : PE X e te) (hr : PA X es t) (hs : starEach (e :: es) X.env = (false, eval e X.env) :: starEach es X.env := by rfl) : PA X (e :: es) (tCons te t) := by
  intro pos pins s σ H Q I h
  rw [hs]
  show wpAny _ _ (spliced ((false, eval e X.env) :: backTo pos (starEach es X.env))) _ _ s
  refine Calls.spliced_cons (thn (ha pins s σ H _ I h) fun u s1 ⟨x, H1, I1, r1, q1⟩ => ?_)
  exact thn (hr pos pins s1 σ H1 _ I1 q1) fun us s2 ⟨xs, H2, I2, r2, q2⟩ => ⟨x :: xs, H2, I2, .cons r1 r2, q2⟩
def tTup (t : TA) : TE := fun σ H Q => t σ H fun xs H1 => xs.length ≤ sizeLine ∧ ∀ p, H1 p = none → Q (.ref p) (upd H1 p (.tup xs))
def tLst (t : TA) : TE := fun σ H Q => t σ H fun xs H1 => xs.length ≤ sizeLine ∧ ∀ p, H1 p = none → Q (.ref p) (upd H1 p (.lst xs))
theorem pe_tup {x1} (h : PA X es t) : PE X (.Tuple es x1 pos) (tTup t) := by
  intro pins s σ H Q I hq
  refine wpAny_Tuple_spliced (thn (h pos pins s σ H _ I hq) fun us s1 ⟨xs, H1, I1, r, z, q⟩ => ⟨by rw [← r.length]; exact z, ?_⟩)
  have hf : H1 s1.heap.objs.size = none := I1.hok.fresh (Nat.le_refl _)
  refine ⟨.ref s1.heap.objs.size, upd H1 s1.heap.objs.size (.tup xs), I1.laid (t' := s1.toks) (fun b u e => Heap.get?_push_of_some _ e) (Nat.le_refl _) ?_, rfl, q _ hf⟩
  exact ⟨z, us, r, ⟨_, Heap.get?_push_size _ rfl, rfl, _, rfl⟩⟩
theorem pe_lst (h : PA X es t) : PE X (.List es pos) (tLst t) := by
  intro pins s σ H Q I hq
  refine wpAny_List_spliced (thn (h pos pins s σ H _ I hq) fun us s1 ⟨xs, H1, I1, r, z, q⟩ => ⟨by rw [← r.length]; exact z, ?_⟩)
  have hf : H1 s1.heap.objs.size = none := I1.hok.fresh (Nat.le_refl _)
  refine ⟨.ref s1.heap.objs.size, upd H1 s1.heap.objs.size (.lst xs), I1.laid (t' := s1.toks) (fun b u e => Heap.get?_push_of_some _ e) (Nat.le_refl _) ?_, rfl, q _ hf⟩
  exact ⟨z, us, 0, r, Heap.get?_push_size _ rfl⟩
end
abbrev Sp := List V → Hp → VK → XK → Prop
abbrev CXT := List Env → Hp → Shared → XK → Value → Shared → Prop
structure Env0 (P : Program) (w : World) (K : PySem.W.Frag) (mg : Str → Option Value) (base : Heap) (A : Around) (outer : List Env) (s : Shared) (H : Hp) : Prop where
  frames : A.frames = some outer
  mod : Mod K mg base
  bs : ∀ b o, base.get? b = some o → s.heap.get? b = some o ∧ H b = none
  bsz : base.objs.size ≤ s.heap.objs.size
  funs : s.heap.FunFrames base outer
  frf : ∀ b ∈ frs outer, H b = none
  hok : HOk P w H s.heap
  bare : AllBare s.gens
def CE (outer : List Env) (P : Program) (w : World) (H : Hp) (s : Shared) (Q : VK) (u : Value) (s' : Shared) : Prop :=
  ∃ v H', s'.os = s.os ∧ AllBare s'.gens ∧ Un (frs outer) [] H H' s.heap s'.heap ∧ HOk P w H' s'.heap ∧ RelV v u ∧ Q v H'
def CR (CX : CXT) (outer : List Env) (P : Program) (w : World) (H : Hp) (s : Shared) (Q : VK) (E : XK) (r : Result) (s' : Shared) : Prop :=
  match r with
  | .ok (.ret u) => CE outer P w H s Q u s'
  | .ok _ => False
  | .error e => CX outer H s E e s'
structure FnOk (P : Program) (w : World) (K : PySem.W.Frag) (mg : Str → Option Value) (base : Heap) (CX : CXT) (k : Nat) (f : Addr) (fd : FuncData) (ps : List Str) (sp : Sp) : Prop where
  len : ∀ vs H Q E, sp vs H Q E → vs.length = ps.length
  run : ∀ (A : Around) (outer : List Env) (s : Shared) (H : Hp) (args : Args) (us : List Value) (vs : List V) (Q : VK) (E : XK), Room k A → Env0 P w K mg base A outer s H → BindsTo s fd args (ps.zip us) → Vals vs us → sp vs H Q E →
    codeAny (model P w) A (.call (.ref f) args) (CR CX outer P w H s Q E) s
theorem Env0.make {P : Program} {w : World} {K : PySem.W.Frag} {mg : Str → Option Value} {base : Heap} {A : Around} {outer : List Env} {s : Shared} {H : Hp} (e : Env0 P w K mg base A outer s H) (C : Addr) (us : List Value) (kw : List (Str × Value)) :
    Env0 P w K mg base (A.under (.builtin "type.__call__" ⟨.ref C :: us, kw⟩)) outer s H := ⟨by first | exact e.frames | (simpa [Around.under, Code.envs, Code.isFrame, pushEnvs] using e.frames), e.mod, e.bs, e.bsz, e.funs, e.frf, e.hok, e.bare⟩
section
variable {X : Cx} {pins : List (Addr × Obj)} {σ : St} {H : Hp} {s s' : Shared}
theorem Inv.env0 (I : Inv X pins σ H s) : Env0 X.prog X.w X.K X.mg X.base X.A X.stack s H :=
  ⟨I.ok.frames, I.ok.mod, I.bs, Nat.le_trans I.ok.bsz I.sz, I.stack, I.stkFree, I.hok, I.bare⟩
theorem Inv.after {Q : VK} {u : Value} (I : Inv X pins σ H s) (h : CE X.stack X.prog X.w H s Q u s') : EP X pins σ Q u s' := by
  obtain ⟨v, H', os, bare, un, hok, r, q⟩ := h
  obtain ⟨hh, g, d, t, os'⟩ := s'
  obtain rfl : os' = s.os := os
  exact ⟨v, H', I.call (h' := hh) (g' := g) (d' := d) (t' := t) (ch := []) un hok bare (fun b z => absurd z (by simp)), r, q⟩
end
def tCall (sp : Sp) (dvs : List V) (E : XK) (t : TA) : TE := fun σ H Q => t σ H fun vs H1 => sp (vs ++ dvs) H1 Q E
def tMake (C : Addr) (sp : Sp) (dvs : List V) (E : XK) (t : TA) : TE := fun σ H Q => t σ H fun vs H1 => ∀ x dx, H1 x = none → H1 dx = none → dx ≠ x →
  sp (.ref x :: (vs ++ dvs)) (upd (upd H1 dx (.own x)) x (.ins C dx [])) (fun v H2 => v = .non ∧ Q (.ref x) H2) E
def Binds (K : PySem.W.Frag) (fd : FuncData) (ps : List Str) (ds : List Value) : Prop :=
  ∀ (s : Shared) (us : List Value), K.In s.heap → (us ++ ds).length = ps.length → BindsTo s fd ⟨us, []⟩ (ps.zip (us ++ ds))
theorem Binds.all {K : PySem.W.Frag} {fd : FuncData} {ps : List Str} (h : ∀ us : List Value, us.length = ps.length → bindArgs fd ⟨us, []⟩ = pure (ps.zip us)) : Binds K fd ps [] := fun s us _ hl => by
  rw [List.append_nil] at hl ⊢
  exact .of_eq (h us hl)
def Passes (CX : CXT) (X : Cx) (E : XK) : Prop := ∀ (pins : List (Addr × Obj)) (σ : St) (H : Hp) (s : Shared) (e : Value) (s' : Shared), Inv X pins σ H s → CX X.stack H s E e s' → X.xe e s'
section
variable {X : Cx} {CX : CXT} {k : Nat} {f C : Addr} {fd : FuncData} {ps : List Str} {sp : Sp} {dvs : List V} {ds : List Value} {E : XK} {x m : Str} {p pos apos : Pos} {e o : Expr} {es : List Expr} {ta : TE} {t : TA}
theorem run_fn {pins : List (Addr × Obj)} {σ : St} {H : Hp} {s : Shared} {Q : VK} {us : List Value} {vs : List V} (F : FnOk X.prog X.w X.K X.mg X.base CX k f fd ps sp) (hr : Room k X.A) (hb : Binds X.K fd ps ds) (hd : Vals dvs ds) (hx : Passes CX X E)
    (I : Inv X pins σ H s) (r : Vals vs us) (h : sp (vs ++ dvs) H Q E) : wpAny (model X.prog X.w) X.A (call (.ref f) us) (EP X pins σ Q) X.xe s := by
  have r2 : Vals (vs ++ dvs) (us ++ ds) := r.append hd
  have hl : (us ++ ds).length = ps.length := by rw [← r2.length]; exact F.len _ _ _ _ h
  refine wpAny_call (codeAny_mono (F.run X.A X.stack s H ⟨us, []⟩ (us ++ ds) (vs ++ dvs) Q E hr I.env0 (hb s us I.kIn hl) r2 h) fun r s' hq => ?_)
  cases r with
  | error e => exact hx pins σ H s e s' I hq
  | ok fl =>
    cases fl with
    | ret u => exact I.after hq
    | next => exact False.elim hq
    | brk => exact False.elim hq
    | cont => exact False.elim hq
theorem pe_call (F : FnOk X.prog X.w X.K X.mg X.base CX k f fd ps sp) (hr : Room k X.A) (hg : Gl X x) (hm : X.mg x = some (.ref f)) (hk : PySem.W.keepIn X.K (.ref f) = true) (hb : Binds X.K fd ps ds) (hd : Vals dvs ds) (hx : Passes CX X E)
    (ha : PA X (e :: es) t) (hdb : (x == ("__debug__" : Str)) = false := by decide) (he : starEach (e :: es) X.env = (false, eval e X.env) :: starEach es X.env := by rfl) (hpl : (backTo pos (starEach es X.env)).any (·.1) = false := by rfl) :
    PE X (.Call (.Name x p) (e :: es) [] pos) (tCall sp dvs E t) := by
  intro pins s σ H Q I h
  refine wpAny_Call_Name_kw (ld_glob I hg hm ?_ hdb)
  refine PySem.W.callWith_K (h₀ := X.base) I.ok.mod.kin hk (thn (ha pos pins s σ H _ I h) fun us s1 ⟨vs, H1, I1, r, q⟩ => ⟨I1.kIn, ?_⟩) he hpl
  exact run_fn F hr hb hd hx I1 r q
theorem pe_call0 (F : FnOk X.prog X.w X.K X.mg X.base CX k f fd ps sp) (hr : Room k X.A) (hg : Gl X x) (hm : X.mg x = some (.ref f)) (hk : PySem.W.keepIn X.K (.ref f) = true) (hb : Binds X.K fd ps ds) (hd : Vals dvs ds) (hx : Passes CX X E)
    (hdb : (x == ("__debug__" : Str)) = false := by decide) : PE X (.Call (.Name x p) [] [] pos) (tCall sp dvs E tNil) := by
  intro pins s σ H Q I h
  refine wpAny_Call_Name_kw (ld_glob I hg hm ?_ hdb)
  exact PySem.W.callWith_K0 I.kIn hk (run_fn (us := []) F hr hb hd hx I .nil h)
structure Mk (K : PySem.W.Frag) (C f : Addr) : Prop where
  makes : PySem.W.makesIn K C = true
  init : PySem.W.findIn K (.ref C) "__init__" = some (some (.ref f))
  fn : PySem.W.isFn K (.ref f) = true
  kp : PySem.W.keepIn K (.ref C) = true
theorem run_make {pins : List (Addr × Obj)} {σ : St} {H : Hp} {s : Shared} {Q : VK} {us : List Value} {vs : List V} (M : Mk X.K C f) (F : FnOk X.prog X.w X.K X.mg X.base CX k f fd ps sp) (hr : Room (k + 1) X.A) (hb : Binds X.K fd ps ds) (hd : Vals dvs ds)
    (hx : Passes CX X E) (I : Inv X pins σ H s) (r : Vals vs us)
    (h : ∀ x dx, H x = none → H dx = none → dx ≠ x → sp (.ref x :: (vs ++ dvs)) (upd (upd H dx (.own x)) x (.ins C dx [])) (fun v H2 => v = .non ∧ Q (.ref x) H2) E) :
    wpAny (model X.prog X.w) X.A (call (.ref C) us) (EP X pins σ Q) X.xe s := by
  have hq := h (s.heap.objs.size + 1) s.heap.objs.size (I.hok.fresh (Nat.le_succ _)) (I.hok.fresh (Nat.le_refl _)) (Nat.ne_of_lt (Nat.lt_succ_self _))
  have I2 := Inv.made (C := C) I
  have r2 : Vals (V.ref (s.heap.objs.size + 1) :: (vs ++ dvs)) (Value.ref (s.heap.objs.size + 1) :: (us ++ ds)) := .cons rfl (r.append hd)
  have hl : (Value.ref (s.heap.objs.size + 1) :: us ++ ds).length = ps.length := by
    have e := r2.length
    rw [F.len _ _ _ _ hq] at e
    exact e.symm
  refine wpAny_call (make_map (f := f) I.kIn M.makes M.init (beq_iff_eq.mp M.fn) (codeAny_mono (F.run _ X.stack _ _ ⟨Value.ref (s.heap.objs.size + 1) :: us, []⟩ (Value.ref (s.heap.objs.size + 1) :: (us ++ ds)) _ _ E (hr.make C us [])
    (I2.env0.make C us []) (hb _ (Value.ref (s.heap.objs.size + 1) :: us) I2.kIn hl) r2 hq) fun r s' hq' => ?_))
  cases r with
  | error e => exact hx pins σ _ _ e s' I2 hq'
  | ok fl =>
    cases fl with
    | ret u =>
      obtain ⟨v, H', I3, rv, ev, q3⟩ := I2.after hq'
      subst ev
      exact ⟨rv, ⟨V.ref (s.heap.objs.size + 1), H', I3, rfl, q3⟩⟩
    | next => exact False.elim hq'
    | brk => exact False.elim hq'
    | cont => exact False.elim hq'
theorem pe_make (M : Mk X.K C f) (F : FnOk X.prog X.w X.K X.mg X.base CX k f fd ps sp) (hr : Room (k + 1) X.A) (hg : Gl X x) (hm : X.mg x = some (.ref C)) (hb : Binds X.K fd ps ds) (hd : Vals dvs ds) (hx : Passes CX X E)
    (ha : PA X (e :: es) t) (hdb : (x == ("__debug__" : Str)) = false := by decide) (he : starEach (e :: es) X.env = (false, eval e X.env) :: starEach es X.env := by rfl) (hpl : (backTo pos (starEach es X.env)).any (·.1) = false := by rfl) :
    PE X (.Call (.Name x p) (e :: es) [] pos) (tMake C sp dvs E t) := by
  intro pins s σ H Q I h
  refine wpAny_Call_Name_kw (ld_glob I hg hm ?_ hdb)
  refine PySem.W.callWith_K (h₀ := X.base) I.ok.mod.kin M.kp (thn (ha pos pins s σ H _ I h) fun us s1 ⟨vs, H1, I1, r, q⟩ => ⟨I1.kIn, ?_⟩) he hpl
  exact run_make M F hr hb hd hx I1 r q
end
section
variable {X : Cx} {CX : CXT} {k : Nat} {f C : Addr} {fd : FuncData} {ps ks : List Str} {sp : Sp} {E : XK} {x m : Str} {p pos apos kpos : Pos} {e o : Expr} {es : List Expr} {kws : List Keyword} {te ta : TE} {t tk : TA} {nm : Option Str}
variable {g : List Value → List Value → List Value} {gV : List V → List V → List V}
end
structure FnScope (N P : List Str) (sc : Scope) : Prop where
  kind : sc.kind = .function
  co : sc.isCoroutine = false
  gen : sc.isGenerator = false
  nd : N.Nodup
  pre : N.take P.length = P
  par : ∀ x ∈ P, sc.names.lookup x = some .local ∨ sc.names.lookup x = some .cell
  nofree : ∀ y ∈ sc.names, y.2 ≠ .free
theorem bindL_out {kindOf : Str → Option NameKind} {x : Str} : ∀ {binds : List (Str × Value)} {m : Str → Option Value}, (∀ v, (x, v) ∉ binds) → bindL kindOf binds m x = m x
  | [], _, _ => rfl
  | (n, v) :: r, m, h => by
    unfold bindL
    rw [bindL_out fun w hw => h w (List.mem_cons_of_mem _ hw)]
    split
    · have : x ≠ n := by rintro rfl; exact h v List.mem_cons_self
      simp [this]
    · rfl
theorem bindC_out {kindOf : Str → Option NameKind} {x : Str} : ∀ {binds : List (Str × Value)} {m : Str → Option Value}, (∀ v, (x, v) ∉ binds) → bindC kindOf binds m x = m x
  | [], _, _ => rfl
  | (n, v) :: r, m, h => by
    unfold bindC
    rw [bindC_out fun w hw => h w (List.mem_cons_of_mem _ hw)]
    split
    · rfl
    · have : x ≠ n := by rintro rfl; exact h v List.mem_cons_self
      simp [this]
theorem bindL_get {kindOf : Str → Option NameKind} {x : Str} {v : Value} : ∀ {P : List Str} {vs : List Value} {i : Nat} {m : Str → Option Value}, P.Nodup → P[i]? = some x → vs[i]? = some v → kindOf x = some .local →
    bindL kindOf (P.zip vs) m x = some v
  | [], _, _, _, _, h, _, _ => by simp at h
  | _ :: _, [], _, _, _, _, h, _ => by simp at h
  | p :: P, w :: vs, 0, m, nd, h1, h2, hk => by
    simp at h1 h2; subst h1; subst h2
    show bindL kindOf ((p, w) :: P.zip vs) m p = _
    unfold bindL
    rw [bindL_out fun v hv => (List.nodup_cons.mp nd).1 (List.of_mem_zip hv).1, if_pos hk]
    simp
  | p :: P, w :: vs, i + 1, m, nd, h1, h2, hk => by
    show bindL kindOf ((p, w) :: P.zip vs) m x = _
    unfold bindL
    exact bindL_get (i := i) (List.nodup_cons.mp nd).2 (by simpa using h1) (by simpa using h2) hk
theorem bindC_get {kindOf : Str → Option NameKind} {x : Str} {v : Value} : ∀ {P : List Str} {vs : List Value} {i : Nat} {m : Str → Option Value}, P.Nodup → P[i]? = some x → vs[i]? = some v → kindOf x ≠ some .local →
    bindC kindOf (P.zip vs) m x = some v
  | [], _, _, _, _, h, _, _ => by simp at h
  | _ :: _, [], _, _, _, _, h, _ => by simp at h
  | p :: P, w :: vs, 0, m, nd, h1, h2, hk => by
    simp at h1 h2; subst h1; subst h2
    show bindC kindOf ((p, w) :: P.zip vs) m p = _
    unfold bindC
    rw [bindC_out fun v hv => (List.nodup_cons.mp nd).1 (List.of_mem_zip hv).1, if_neg hk]
    simp
  | p :: P, w :: vs, i + 1, m, nd, h1, h2, hk => by
    show bindC kindOf ((p, w) :: P.zip vs) m x = _
    unfold bindC
    exact bindC_get (i := i) (List.nodup_cons.mp nd).2 (by simpa using h1) (by simpa using h2) hk
def start (N : List Str) (vs : List V) : St := vs.map some ++ List.replicate (N.length - vs.length) none
def cxOf (CX : CXT) (P : Program) (w : World) (K : PySem.W.Frag) (mg : Str → Option Value) (base : Heap) (N : List Str) (qual : Str) (scope : Scope) (f : Addr) (cd : Value) (A : Around) (outer : List Env) (s : Shared) (H : Hp) (E : XK) : Cx where
  prog := P
  w := w
  K := K
  mg := mg
  base := base
  A := A.deeper (envOfC qual scope s.heap.objs.size f cd)
  N := N
  s₀ := s
  H₀ := H
  env := envOfC qual scope s.heap.objs.size f cd
  outer := outer
  stack := envOfC qual scope s.heap.objs.size f cd :: outer
  ex := []
  calm := true
  fn := fun _ => true
  pn := []
  xe := fun e s' => wpAny (model P w) (A.deeper (envOfC qual scope s.heap.objs.size f cd)) (leaving (envOfC qual scope s.heap.objs.size f cd) e) (fun _ s'' => CX outer H s E e s'') (fun e' s'' => CX outer H s E e' s'') s'
theorem cell_has {sc : Scope} {n : Nat} {x : Str} (h : sc.names.lookup x = some .cell) : ∃ c, (cellsFrom n sc.names []).lookup x = some c := by
  have q := PySem.W.cellsFrom_some sc.names n [] (.inl h)
  exact Option.isSome_iff_exists.mp q
theorem inv_start {CX : CXT} {P : Program} {w : World} {K : PySem.W.Frag} {mg : Str → Option Value} {base : Heap} {N ps : List Str} {qual : Str} {scope : Scope} {f : Addr} {cd : Value} {A : Around} {outer : List Env} {s s1 : Shared} {H : Hp} {E : XK} {us : List Value} {vs : List V}
    (S : FnScope N ps scope) (hd : A.handled = none) (e0 : Env0 P w K mg base A outer s H) (hl : vs.length = ps.length) (r : Vals vs us)
    (x : InCallC s s.heap.objs.size (bindL (envOfC qual scope s.heap.objs.size f cd).kindOf (ps.zip us) fun _ => none) (cellsFrom (s.heap.objs.size + 1) scope.names []) (bindC (envOfC qual scope s.heap.objs.size f cd).kindOf (ps.zip us) fun _ => none) s1) :
    Inv (cxOf CX P w K mg base N qual scope f cd A outer s H E) [] (start N vs) H s1 := by
  have hpl : ps.length ≤ N.length := by have := congrArg List.length S.pre; rw [List.length_take] at this; omega
  obtain ⟨h1, tk, rfl, hk⟩ := x.done
  have noA : ∀ b : Addr, b ∉ (cxOf CX P w K mg base N qual scope f cd A outer s H E).ex := fun b z => absurd (show b ∈ ([] : List Addr) from z) (by simp)
  refine ⟨⟨e0.mod, S.kind, rfl, rfl, Nat.le_refl _, fun y z c h1 h2 => ?_, fun y hy => ?_, fun y c _ h => ?_, fun _ => hd, Around.frames_deeper e0.frames, .inr ⟨rfl, rfl⟩, fun b z => absurd z (noA b), e0.bs, e0.bsz, fun b _ _ => noA b, fun b z => absurd z (noA b), e0.funs, e0.frf⟩,
    rfl, e0.bare, Un.kept hk, ⟨_, x.toInCall.ns, fun i y v h1 h2 h3 => ?_⟩, fun y c h => ⟨_, x.cell y c h⟩, e0.hok.fresh (Nat.le_refl _), fun y c h => ?_, fun p hp => absurd (show p ∈ ([] : List (Addr × Obj)) from hp) (by simp), e0.hok.kept hk, ?_⟩
  · exact name_of_addr x.apart (PySem.mem_of_lookup h1) (PySem.mem_of_lookup h2)
  · have hy : scope.names.lookup y = some .cell ∨ scope.names.lookup y = some .free := hy
    rcases hy with hy | hy
    · exact cell_has hy
    · exact absurd rfl (S.nofree _ (PySem.mem_of_lookup hy))
  · exact Nat.le_of_lt (x.above y c (PySem.mem_of_lookup h))
  · have hi : i < vs.length := by
      unfold start at h2
      by_cases hi : i < vs.length
      · exact hi
      · rw [List.getElem?_append_right (by simpa using hi)] at h2
        rw [List.getElem?_replicate] at h2
        split at h2 <;> cases h2
    have ha : vs[i]? = some v := by
      unfold start at h2
      rw [List.getElem?_append_left (by simpa using hi), List.getElem?_map] at h2
      cases e : vs[i]? with
      | none => rw [e] at h2; cases h2
      | some a => rw [e] at h2; cases h2; rfl
    obtain ⟨u, hu, rv⟩ := r.get ha
    have hp : ps[i]? = some y := by
      rw [← S.pre, List.getElem?_take_of_lt (by omega)]; exact h1
    have ndP : ps.Nodup := by rw [← S.pre]; exact S.nd.sublist (List.take_sublist _ _)
    refine ⟨u, rv, ?_⟩
    rcases S.par y (List.mem_of_getElem? hp) with k | k
    · exact .inl ⟨k, bindL_get ndP hp hu k⟩
    · obtain ⟨c, e⟩ := cell_has (n := s.heap.objs.size + 1) k
      refine .inr ⟨.inl k, c, e, ?_⟩
      have q := x.cell y c e
      rw [bindC_get ndP hp hu (by show scope.names.lookup y ≠ _; rw [k]; decide)] at q
      exact q
  · exact e0.hok.fresh (Nat.le_of_lt (x.above y c (PySem.mem_of_lookup h)))
  · unfold start
    show _ = N.length
    rw [List.length_append, List.length_map, List.length_replicate]
    omega
theorem fn_of {CX : CXT} {P : Program} {w : World} {K : PySem.W.Frag} {mg : Str → Option Value} {base : Heap} {k : Nat} {f : Addr} {name qual : Str} {params : Arguments} {body : List Stmt} {scope : Scope} {dV kV doc pm cdv ct oc : Value} {an od : Option Addr}
    {osl : Array (Option Value)} {N ps : List Str} {sp : Sp} (lk : K.lookup f = some ⟨oc, od, .func (PySem.W.fnOf name qual params body scope dV kV doc pm an cdv ct), osl⟩) (hcd : PySem.W.codeIn K cdv qual = true) (S : FnScope N ps scope)
    (len : ∀ vs H Q E, sp vs H Q E → vs.length = ps.length)
    (hbody : ∀ (A : Around) (outer : List Env) (s : Shared) (H : Hp) (vs : List V) (Q : VK) (E : XK), Room k (A.deeper (envOfC qual scope s.heap.objs.size f cdv)) → sp vs H Q E →
      ∃ t, PSs (cxOf CX P w K mg base N qual scope f cdv A outer s H E) body t ∧ t { nx := fun _ H' => Q .non H', rt := Q } (start N vs) H) :
    FnOk P w K mg base CX (k + 1) f (PySem.W.fnOf name qual params body scope dV kV doc pm an cdv ct) ps sp := by
  refine ⟨len, fun A outer s H args us vs Q E hr e0 hb r hsp => ?_⟩
  have hl := len _ _ _ _ hsp
  have KX : K.In s.heap := e0.mod.kin.keeps fun b o e => (e0.bs b o e).1
  have lim : s.heap.NoLimit := e0.mod.nolimit.keeps fun b o e => (e0.bs b o e).1
  have hkind : ∀ y ∈ ps.zip us, scope.names.lookup y.1 = some .local ∨ (scope.names.lookup y.1 = some .cell ∧ ((cellsFrom (s.heap.objs.size + 1) scope.names []).lookup y.1).isSome = true) := fun ⟨n, v⟩ hy => by
    rcases S.par n (List.of_mem_zip hy).1 with q | q
    · exact .inl q
    · exact .inr ⟨q, PySem.W.cellsFrom_some _ _ _ (.inl q)⟩
  refine codeAny_call_function hr.depth (KX _ _ lk) rfl S.co S.gen rfl (PySem.W.codeRec_of KX hcd) (hb _ _ _ _ ?_)
  refine wpAny_newFunctionEnv_cells S.kind hkind fun env he s1 x => ?_
  subst he
  refine ⟨lim.keeps x.toInCall.keep, codeAny_func ?_⟩
  obtain ⟨t, ht, hq⟩ := hbody A outer s H vs Q E (hr.deeper _) hsp
  have I : Inv (cxOf CX P w K mg base N qual scope f cdv A outer s H E) [] (start N vs) H s1 := inv_start S hr.hd e0 hl r x
  refine wpAny_mono (ht [] s1 (start N vs) H _ I hq) (fun fl s' hs => ?_) fun e s' hs => hs
  have fin : ∀ {σ' : St} {H' : Hp} {v : V} {u : Value}, Inv (cxOf CX P w K mg base N qual scope f cdv A outer s H E) [] σ' H' s' → RelV v u → Q v H' → CE outer P w H s Q u s' :=
    fun {σ' H' v u} J rv q => ⟨v, H', J.os, J.bare, J.base, J.hok, rv, q⟩
  cases fl with
  | ret u =>
    obtain ⟨v, σ', H', J, rv, q⟩ := hs
    exact fin J rv q
  | next =>
    obtain ⟨σ', H', J, q⟩ := hs
    exact fin (v := V.non) (u := Value.none) J rfl q
  | brk =>
    obtain ⟨_, _, _, q⟩ := hs
    exact False.elim q
  | cont =>
    obtain ⟨_, _, _, q⟩ := hs
    exact False.elim q
end L2
namespace L2
open PySem PySem.Spec PyProof.Rows
section
variable {X : Cx} {x : Str} {p pos : Pos} {e : Expr} {es : List Expr} {t : TA} {id T : String} {r : List V → Hp → VK → Prop}
def tCB (r : List V → Hp → VK → Prop) (t : TA) : TE := fun σ H Q => t σ H fun vs H1 => r vs H1 Q
theorem pe_callB (hc : CallR X (.builtin id) r) (hg : Gl X x) (hm : X.mg x = none) (hv : bootBuiltins x = some (.builtin id)) (ha : PA X (e :: es) t) (hn : x ≠ "__name__" := by decide) (hdb : (x == ("__debug__" : Str)) = false := by decide)
    (he : starEach (e :: es) X.env = (false, eval e X.env) :: starEach es X.env := by rfl) (hpl : (backTo pos (starEach es X.env)).any (·.1) = false := by rfl) : PE X (.Call (.Name x p) (e :: es) [] pos) (tCB r t) := by
  intro pins s σ H Q I h
  refine wpAny_Call_Name_kw (ld_blt I hg hm hv ?_ hn hdb)
  exact PyProof.Rows.callWith_builtin1 (thn (ha pos pins s σ H _ I h) fun us s1 ⟨vs, H1, I1, r1, q1⟩ => hc pins s1 σ H1 vs us Q I1 r1 q1) he hpl
theorem pe_callTy (hc : CallR X (.type T) r) (hg : Gl X x) (hm : X.mg x = none) (hv : bootBuiltins x = some (.type T)) (ha : PA X (e :: es) t) (hn : x ≠ "__name__" := by decide) (hdb : (x == ("__debug__" : Str)) = false := by decide)
    (he : starEach (e :: es) X.env = (false, eval e X.env) :: starEach es X.env := by rfl) (hpl : (backTo pos (starEach es X.env)).any (·.1) = false := by rfl) : PE X (.Call (.Name x p) (e :: es) [] pos) (tCB r t) := by
  intro pins s σ H Q I h
  refine wpAny_Call_Name_kw (ld_blt I hg hm hv ?_ hn hdb)
  exact PyProof.Rows.callWith_type1 (thn (ha pos pins s σ H _ I h) fun us s1 ⟨vs, H1, I1, r1, q1⟩ => hc pins s1 σ H1 vs us Q I1 r1 q1) he hpl
end
end L2
namespace HT
open PySem PyProof.Rows
section
open PySem.SeqAt
open PySem.AutoSeq1 (wpAny_loadPart')
open PySem.MeetsSeq PySem.MeetsSeq2 PySem.MeetsSeq3
end
section
variable {prog : Program} {w : World} {A : Around} {E : Value → Shared → Prop} {s : Shared}
end
end HT
namespace L2
open PySem PySem.Spec PyProof.Rows
abbrev TO := St → Hp → (Option Int → Hp → Prop) → Prop
section
variable {X : Cx} {e : Expr} {te : TE} {lo hi : Option Expr} {tl th : TO} {pos p2 : Pos}
end
end L2
namespace L2
open PySem PySem.Spec PyProof.Rows
def ixN (n : Nat) (i : Int) : Option Nat := if 0 ≤ i then (if i < n then some i.toNat else none) else if -(n : Int) ≤ i then some (i + n).toNat else none
def atI {α : Type} (xs : List α) (i : Int) : Option α := (ixN xs.length i).bind fun j => xs[j]?
theorem ixN_seq {n : Nat} {i : Int} {j : Nat} (h : ixN n i = some j) : seqIndex? i n = some j ∧ j < n ∧ -(n : Int) ≤ i ∧ i < n := by
  unfold ixN at h
  by_cases h0 : 0 ≤ i
  · rw [if_pos h0] at h
    by_cases h1 : i < n
    · rw [if_pos h1] at h
      have e : i.toNat = j := Option.some.inj h
      exact ⟨by rw [seqIndex_of h0 h1, e], by omega, by omega, h1⟩
    · rw [if_neg h1] at h; cases h
  · rw [if_neg h0] at h
    by_cases h1 : -(n : Int) ≤ i
    · rw [if_pos h1] at h
      have e : (i + n).toNat = j := Option.some.inj h
      exact ⟨by rw [seqIndex_neg (by omega) h1, e], by omega, h1, by omega⟩
    · rw [if_neg h1] at h; cases h
theorem atI_get {α : Type} {xs : List α} {i : Int} {v : α} (h : atI xs i = some v) : ∃ j, seqIndex? i xs.length = some j ∧ xs[j]? = some v ∧ j < xs.length ∧ -(xs.length : Int) ≤ i ∧ i < xs.length := by
  unfold atI at h
  cases e : ixN xs.length i with
  | none => rw [e] at h; cases h
  | some j =>
    rw [e] at h
    obtain ⟨h1, h2, h3, h4⟩ := ixN_seq e
    exact ⟨j, h1, h, h2, h3, h4⟩
theorem atI_nat {α : Type} {xs : List α} {j : Nat} {v : α} (h : xs[j]? = some v) : atI xs (j : Int) = some v := by
  have hj : j < xs.length := (List.getElem?_eq_some_iff.mp h).1
  have e : ixN xs.length (j : Int) = some j := by
    unfold ixN
    rw [if_pos (by omega), if_pos (by omega)]; simp
  unfold atI; rw [e]; exact h
def PlainIx (b : Expr) : Prop := ∀ o i, subscripted b false o i = operate [o, i] (getItem o i)
def IxR (X : Cx) (r : R2) : Prop :=
  ∀ (value slice : Expr) (pins : List (Addr × Obj)) (s : Shared) (σ : St) (H : Hp) (x y : V) (v u : Value) (Q : VK), Inv X pins σ H s → RelV x v → RelV y u → r x y H Q →
    subscripted slice false v u = operate [v, u] (getItem v u) → wpAny (model X.prog X.w) X.A (subscriptTail value slice v u) (EP X pins σ Q) X.xe s
def MtR (X : Cx) (id : String) (r : V → List V → Hp → VK → Prop) : Prop :=
  ∀ (pins : List (Addr × Obj)) (s : Shared) (σ : St) (H : Hp) (x : V) (xs : List V) (v : Value) (us : List Value) (Q : VK), Inv X pins σ H s → RelV x v → Vals xs us → r x xs H Q →
    wpAny (model X.prog X.w) X.A (call (.builtin id) (v :: us)) (EP X pins σ Q) X.xe s
section
variable {X : Cx} {a b : Expr} {ta tb : TE} {pos : Pos}
theorem pe_ix {r : R2} (hr : IxR X r) (ha : PE X a ta) (hb : PE X b tb) (hs : PlainIx b) : PE X (.Subscript a b pos) (tOp r ta tb) := by
  intro pins s σ H Q I h
  exact Subscript_ (binT ha hb I h fun v u s2 x y H2 I2 rx ry q => hr a b pins s2 σ H2 x y v u Q I2 rx ry q (hs _ _))
def rIxL (K : PySem.W.Frag) : R2 := fun x y H Q => ∃ p xs i v, x = .ref p ∧ y = .int i ∧ SqL K H p xs ∧ atI xs i = some v ∧ Q v H
def rIxT (K : PySem.W.Frag) : R2 := fun x y H Q => ∃ p xs i v, x = .ref p ∧ y = .int i ∧ SqT K H p xs ∧ atI xs i = some v ∧ Q v H
theorem ix_list : IxR X (rIxL X.K) := by
  intro value slice pins s σ H x y v u Q I rx ry h hs
  obtain ⟨p, xs, i, z, rfl, rfl, hq, he, q⟩ := h
  cases rx
  obtain ⟨t, rfl⟩ := ry
  obtain ⟨its, r, pl, hz⟩ := I.list hq
  obtain ⟨j, h1, h2, h3, h4, h5⟩ := atI_get he
  obtain ⟨w, ew, rw'⟩ := r.get h2
  have hl := r.length
  have hn := line63
  have fin : EP X pins σ Q w s := ⟨z, H, I, rw', q⟩
  by_cases h0 : 0 ≤ i
  · have hj : i.toNat = j := by
      rw [seqIndex_of h0 h5] at h1
      exact Option.some.inj h1
    exact item_listR pl.isList h0 (by omega) (by rw [hj]; simpa using ew) fin hs
  · have hj : (i + (its.toArray.size : Int)).toNat = j := by
      rw [seqIndex_neg (by omega) h4] at h1
      rw [List.size_toArray, ← hl]
      exact Option.some.inj h1
    exact subscriptTail_builtinR (x := w) pl.isList.typeIs slot_list_getitem.lookup
      (wpAny_getItem_list_neg (Q := fun r s' => r = w ∧ EP X pins σ Q r s') pl.isList (by omega) (by rw [List.size_toArray] <;> omega) (by omega) (by rw [hj]; simpa using ew) ⟨rfl, fin⟩) hs
theorem ix_tup : IxR X (rIxT X.K) := by
  intro value slice pins s σ H x y v u Q I rx ry h hs
  obtain ⟨p, xs, i, z, rfl, rfl, hq, he, q⟩ := h
  cases rx
  obtain ⟨t, rfl⟩ := ry
  obtain ⟨its, r, pl, hz⟩ := I.tuple hq
  obtain ⟨j, h1, h2, h3, h4, h5⟩ := atI_get he
  obtain ⟨w, ew, rw'⟩ := r.get h2
  have hl := r.length
  have hn := line63
  have fin : EP X pins σ Q w s := ⟨z, H, I, rw', q⟩
  exact subscriptTail_builtinR (x := w) pl.typeIs slot_tuple_getitem.lookup
    (getItem_tuple (j := j) (Q := fun r s' => r = w ∧ EP X pins σ Q r s') pl (by omega) (by omega) (by rw [List.size_toArray, ← hl]; exact h1) (by simpa using ew) ⟨rfl, fin⟩) hs
theorem mapSeq_set (its : List Value) (n j : Nat) (u : Value) : Obj.mapSeq (·.setIfInBounds j u) { cls := .type "list", data := .seq its.toArray n } = { cls := .type "list", data := .seq (its.set j u).toArray n } := by
  simp [Obj.mapSeq]
theorem Inv.lst {pins : List (Addr × Obj)} {σ : St} {H : Hp} {s : Shared} {p : Addr} {xs : List V} (I : Inv X pins σ H s) (h : H p = some (.lst xs)) :
    ∃ (its : List Value) (n : Nat), Vals xs its ∧ s.heap.get? p = some { cls := .type "list", data := .seq its.toArray n } ∧ xs.length ≤ sizeLine := by
  obtain ⟨z, its, n, r, e⟩ := I.hok p _ h
  exact ⟨its, n, r, e, z⟩
theorem Inv.lstUpd {pins : List (Addr × Obj)} {σ : St} {H : Hp} {s : Shared} {p : Addr} {xs ys : List V} {its its' : List Value} {n n' : Nat} {f : Obj → Obj} (I : Inv X pins σ H s) (h : H p = some (.lst xs))
    (ho : s.heap.get? p = some { cls := .type "list", data := .seq its.toArray n }) (hf : f { cls := .type "list", data := .seq its.toArray n } = { cls := .type "list", data := .seq its'.toArray n' }) (r : Vals ys its') (hz : ys.length ≤ sizeLine) (t : Nat) :
    Inv X pins σ (upd H p (.lst ys)) { s with heap := s.heap.update p f, toks := t } := by
  have e : (s.heap.update p f).get? p = some { cls := .type "list", data := .seq its'.toArray n' } := by
    rw [Heap.get?_update_self f ho (by rw [hf] <;> rfl), hf]
  refine I.write (x := p) (e := p) (by rw [h]; trivial) (.inl rfl) (fun b u hb q => (Heap.get?_update_other _ _ (Ne.symm hb)).trans q) ⟨_, e⟩ ?_
  exact ⟨hz, its', n', r, e⟩
def rSetL : V → V → V → Hp → (Hp → Prop) → Prop := fun o i v H Q => ∃ p xs k j, o = .ref p ∧ i = .int k ∧ H p = some (.lst xs) ∧ ixN xs.length k = some j ∧ Q (upd H p (.lst (xs.set j v)))
theorem set_list : PSet X rSetL := by
  intro pins s σ H o i v ov iv u Q I ro ri rv h
  obtain ⟨p, xs, k, j, rfl, rfl, hp, hj, q⟩ := h
  cases ro
  obtain ⟨t, rfl⟩ := ri
  obtain ⟨its, n, r, ho, hz⟩ := I.lst hp
  obtain ⟨h1, h2, h3, h4⟩ := ixN_seq hj
  have hl := r.length
  have hn := line63
  have I' : Inv X pins σ (upd H p (.lst (xs.set j v))) { s with heap := s.heap.update p (Obj.mapSeq (·.setIfInBounds j u)) } :=
    I.lstUpd hp ho (mapSeq_set its n j u) (r.set rv j) (by rw [List.length_set]; exact hz) s.toks
  by_cases h0 : 0 ≤ k
  · have hk : k.toNat = j := by
      rw [seqIndex_of h0 h4] at h1
      exact Option.some.inj h1
    exact PySem.W.ki_setAt ho h0 (by omega) (by rw [List.size_toArray, ← hl]; exact h4) (by rw [hk]; exact ⟨_, I', q⟩)
  · have hk : (k + (its.toArray.size : Int)).toNat = j := by
      rw [seqIndex_neg (by omega) h3] at h1
      rw [List.size_toArray, ← hl]
      exact Option.some.inj h1
    exact PySem.W.ki_setBack ho (by omega) (by rw [List.size_toArray, ← hl]; exact h3) (by omega) (by rw [hk]; exact ⟨_, I', q⟩)
theorem call_len_seq : CallR X (.builtin "len") (fun xs H Q => ∃ p ys, xs = [.ref p] ∧ (SqL X.K H p ys ∨ SqT X.K H p ys) ∧ Q (.int ys.length) H) := by
  intro pins s σ H xs us Q I r h
  obtain ⟨p, ys, rfl, hq, q⟩ := h
  obtain ⟨u, rfl, rx⟩ := vals1 r
  cases rx
  have hn := line63
  rcases hq with hq | hq
  · obtain ⟨its, r', pl, hz⟩ := I.list hq
    have hlen := r'.length
    exact Calls.call_len_list pl.isList (by simp only [List.size_toArray] <;> omega) ⟨.int ys.length, H, I.tok _, ⟨s.toks + 1, by rw [List.size_toArray, hlen]⟩, q⟩
  · obtain ⟨its, r', pl, hz⟩ := I.tuple hq
    have hlen := r'.length
    exact len_tuple pl (by simp only [List.size_toArray] <;> omega) ⟨.int ys.length, H, I.tok _, ⟨s.toks + 1, by rw [List.size_toArray, hlen]⟩, q⟩
def tyV (K : PySem.W.Frag) (T : String) (x : V) (H : Hp) : Prop := match x with
  | .str _ => T = "str"
  | .int _ => T = "int"
  | .ref p => (T = "list" ∧ ∃ xs, SqL K H p xs) ∨ (T = "tuple" ∧ ∃ o, K.lookup p = some o ∧ o.cls = .type "tuple" ∧ o.dict = none) ∨
      (T = "dict" ∧ ((∃ kvs, H p = some (.dK kvs)) ∨ ∃ kvs, H p = some (.dT kvs))) ∨ (T = "set" ∧ ∃ S n, H p = some (.set S n))
  | _ => False
theorem tyV_is {pins : List (Addr × Obj)} {σ : St} {H : Hp} {s : Shared} {T : String} {x : V} {v : Value} (I : Inv X pins σ H s) (r : RelV x v) (ty : tyV X.K T x H) :
    s.TypeIs v T ∧ ∀ a, v = .ref a → ∃ ob, s.heap.get? a = some ob ∧ ob.dict = none := by
  cases x with
  | str z =>
    obtain ⟨t, rfl⟩ := r
    cases (show T = "str" from ty)
    exact ⟨typeIs_str s z t, fun _ e => nomatch e⟩
  | int i =>
    obtain ⟨t, rfl⟩ := r
    cases (show T = "int" from ty)
    exact ⟨typeIs_int s i t, fun _ e => nomatch e⟩
  | ref p =>
    cases r
    rcases ty with ⟨rfl, xs, hq⟩ | ⟨rfl, o, hk, hc, hd⟩ | ⟨rfl, hk⟩ | ⟨rfl, S, n, hk⟩
    · obtain ⟨its, _, pl, _⟩ := I.list hq
      refine ⟨pl.isList.typeIs, fun a e => ?_⟩
      cases e
      obtain ⟨o, n, e, c, hd, _⟩ := pl
      exact ⟨o, e, hd⟩
    · refine ⟨⟨o, I.kIn p o hk, hc⟩, fun a e => ?_⟩
      cases e
      exact ⟨o, I.kIn _ o hk, hd⟩
    · have z : ∃ o, s.heap.get? p = some o ∧ o.ExactDict := by
        rcases hk with ⟨kvs, hk⟩ | ⟨kvs, hk⟩
        · obtain ⟨_, _, _, _, o, _, _, e, ex, _⟩ := I.hok p _ hk
          exact ⟨o, e, ex⟩
        · obtain ⟨_, _, _, _, o, _, _, e, ex, _⟩ := I.hok p _ hk
          exact ⟨o, e, ex⟩
      obtain ⟨o, e, ex⟩ := z
      refine ⟨⟨o, e, ex.1⟩, fun a e2 => ?_⟩
      cases e2
      exact ⟨o, e, ex.2.1⟩
    · obtain ⟨o, _, _, _, e, ex, _⟩ := I.hok p _ hk
      refine ⟨⟨o, e, ex.1⟩, fun a e2 => ?_⟩
      cases e2
      exact ⟨o, e, ex.2.1⟩
  | _ => exact False.elim ty
def tBM (K : PySem.W.Frag) (T : String) (r : V → List V → Hp → VK → Prop) (to : TE) (t : TA) : TE := fun σ H Q => to σ H fun x H1 => tyV K T x H1 ∧ t σ H1 fun xs H2 => r x xs H2 Q
variable {o e : Expr} {es : List Expr} {to : TE} {t : TA} {name : Str} {apos cpos : Pos} {T id : String} {r : V → List V → Hp → VK → Prop}
theorem pe_bm (pa : PlainAttrs T) (slot : Slot T name id) (hty : typeOf (.builtin id) = pure (.type "method_descriptor")) (hm : MtR X id r) (ho : PE X o to) (ha : PA X (e :: es) t)
    (hbase : attributeBase o name X.env (eval o X.env) = eval o X.env := by rfl)
    (hfew : ((backTo cpos (starEach (e :: es) X.env)).all (fun x => !x.1) && (backToKw cpos (keywordEach [] X.env)).all (fun x => x.1.isSome)
      && decide ((e :: es).length + ([] : List Keyword).length + (if ([] : List Keyword).isEmpty then 0 else 1) < 30)) = true := by rfl)
    (hline : (apos.endLine == cpos.line) = true := by rfl) (hs : starEach (e :: es) X.env = (false, eval e X.env) :: starEach es X.env := by rfl) (hplain : (backTo cpos (starEach es X.env)).any (·.1) = false := by rfl) :
    PE X (.Call (.Attribute o name apos) (e :: es) [] cpos) (tBM X.K T r to t) := by
  intro pins s σ H Q I h
  refine wpAny_Call_method_late hbase hfew hline rfl (thn (ho pins s σ H _ I h) fun v s1 ⟨x, H1, I1, r1, ty, q1⟩ => ?_)
  obtain ⟨h1, h2⟩ := tyV_is I1 r1 ty
  refine ⟨T, id, pa, slot, hty, h1, h2, ?_⟩
  have hA := ha cpos pins s1 σ H1 _ I1 q1
  rw [hs] at hA ⊢
  refine Calls.callWith_builtin (by show (false || (backTo cpos (starEach es X.env)).any (·.1)) = false; rw [hplain] <;> rfl) (Calls.evalArgs_plain ?_)
  exact thn hA fun us s2 ⟨vs, H2, I2, r2, q2⟩ => hm pins s2 σ H2 x vs v us Q I2 r1 r2 q2
end
end L2
namespace L2
open PySem PySem.Spec PyProof.Rows
def MtM (X : Cx) (id : String) (r : V → List V → Hp → VK → Prop) : Prop :=
  ∀ (pins : List (Addr × Obj)) (s : Shared) (σ : St) (H : Hp) (x : V) (xs : List V) (v : Value) (us : List Value) (Q : VK), Inv X pins σ H s → RelV x v → Vals xs us → r x xs H Q →
    wpAny (model X.prog X.w) X.A (call (.builtin id) (v :: us)) (EP X pins σ Q) X.xe s
theorem Vals.one : ∀ {x : V} {us : List Value}, Vals [x] us → ∃ u, us = [u] ∧ RelV x u
  | _, _, .cons r .nil => ⟨_, rfl, r⟩
section
variable {X : Cx} {pins : List (Addr × Obj)} {σ : St} {H : Hp} {s : Shared} {l b : Addr} {xs ys zs : List V}
theorem Inv.lset {its its' : List Value} {n : Nat} {f : Array Value → Array Value} {t' : Nat} (I : Inv X pins σ H s) (hH : H l = some (.lst xs))
    (e : s.heap.get? l = some { cls := .type "list", data := .seq its.toArray n }) (hf : f its.toArray = its'.toArray) (hv : Vals ys its') (hz : ys.length ≤ sizeLine) :
    Inv X pins σ (upd H l (.lst ys)) { s with heap := s.heap.update l (Obj.mapSeq f), toks := t' } := by
  have q := PySem.IsL.update e f
  rw [hf] at q
  refine I.write (x := l) (e := l) (by rw [hH]; exact trivial) (.inl rfl) (fun b' u hb hu => (Heap.get?_update_other s.heap (Obj.mapSeq f) (Ne.symm hb)).trans hu) ⟨_, q⟩ ?_
  exact ⟨hz, its', _, hv, q⟩
theorem Inv.fresh (I : Inv X pins σ H s) : H s.heap.objs.size = none := I.hok.fresh (Nat.le_refl _)
theorem Inv.lstM (I : Inv X pins σ H s) (hH : H l = some (.lst xs)) : xs.length ≤ sizeLine ∧ ∃ (its : List Value) (n : Nat), Vals xs its ∧ xs.length = its.length ∧ s.heap.get? l = some { cls := .type "list", data := .seq its.toArray n } := by
  obtain ⟨z, its, n, r, e⟩ := I.hok l _ hH
  exact ⟨z, its, n, r, r.length, e⟩
end
section
variable {X : Cx}
def rAppend : V → List V → Hp → VK → Prop := fun x vs H Q => ∃ l xs y, x = .ref l ∧ vs = [y] ∧ H l = some (.lst xs) ∧ xs.length < sizeLine ∧ Q .non (upd H l (.lst (xs ++ [y])))
theorem mt_append : MtM X "list.append" rAppend := by
  intro pins s σ H x vs v us Q I rx rv h
  obtain ⟨l, xs, y, rfl, rfl, hH, hz, q⟩ := h
  cases rx
  obtain ⟨u, rfl, ru⟩ := rv.one
  obtain ⟨z, its, n, r, hl, e⟩ := I.lstM hH
  refine call_meets F.slot_list_append ⟨_, e, rfl⟩ F.entry_list_append (F.args_list_append_2 _ _) (PySem.list_append l its.toArray n u (by rw [List.size_toArray]; omega)) ⟨e, ?_⟩
  refine ⟨.non, _, I.lset (its' := its ++ [u]) hH e (by simp) (r.append (.cons ru .nil)) ?_, rfl, q⟩
  rw [List.length_append, List.length_singleton]
  omega
end
section
variable {prog : Program} {w : World} {A : Around} {E : Value → Shared → Prop} {s : Shared}
end
section
variable {X : Cx}
end
end L2
namespace L2
open PySem PySem.Spec PyProof.Rows
section
variable {κ : Type} [DecidableEq κ]
end
abbrev KT (H : Hp) : List (List Key × V) → List (List Key × Addr × Value) → Prop := Paired fun p q => p.1 = q.1 ∧ H q.2.1 = some (.tup (p.1.map kV)) ∧ RelV p.2 q.2.2
section
variable {P : Program} {w : World} {H : Hp} {h : Heap} {a : Addr}
end
section
variable {X : Cx} {pins : List (Addr × Obj)} {σ : St} {H : Hp} {s : Shared} {a : Addr} {y v : V} {u r : Value} {o : Option V} {A : Around} {E : Value → Shared → Prop}
theorem Inv.big (I : Inv X pins σ H s) : sysModules < s.heap.objs.size := by
  have h : mainGlobals < s.heap.objs.size := (I.mod.glob.keeps I.bk).lt
  exact Nat.lt_trans (by decide) h
end
section
variable {X : Cx} {pins : List (Addr × Obj)} {σ : St} {H : Hp} {s : Shared} {a : Addr} {kvs : List (Key × V)} {k : Key} {u : Value} {A : Around} {E : Value → Shared → Prop}
end
section
variable {X : Cx} {o i e value : Expr} {pos pos' tpos : Pos} {td ty tv : TE}
end
theorem dk_empty {P : Program} {w : World} {H : Hp} (h : Heap) (hb : sysModules < h.objs.size) : ObjOk P w H (h.push { cls := .type "dict", data := .dict #[] }) h.objs.size (.dK []) :=
  ⟨Nat.zero_le _, beq_eq_false_iff_ne.mpr (Ne.symm (Nat.ne_of_lt hb)), [], .nil, Heap.DictOf.new h⟩
def tDNewK : TE := fun _ H Q => ∀ p, H p = none → Q (.ref p) (upd H p (.dK []))
section
variable {X : Cx} {pos : Pos}
theorem pe_dnewK : PE X (.Dict [] [] pos) tDNewK := fun pins s σ H Q I h =>
  wpAny_Dict_empty ⟨.ref s.heap.objs.size, _, I.laid (a := s.heap.objs.size) (o := .dK []) (t' := s.toks) (fun _ _ q => Heap.get?_push_of_some _ q) (Nat.le_refl _) (dk_empty s.heap I.big), rfl, h _ (I.hok.fresh (Nat.le_refl _))⟩
end
section
variable {X : Cx} {pins : List (Addr × Obj)} {σ : St} {H : Hp} {s : Shared} {a : Addr} {y d : V} {u r : Value} {o : Option V} {A : Around} {E : Value → Shared → Prop}
end
section
variable {X : Cx} {o e f : Expr} {apos cpos : Pos} {td ty tx : TE}
end
section
variable {X : Cx} {pins : List (Addr × Obj)} {σ : St} {H : Hp} {s : Shared} {a : Addr} {kvs : List (Key × V)} {A : Around} {E : Value → Shared → Prop}
end
section
variable {X : Cx} {pins : List (Addr × Obj)} {σ : St} {H : Hp} {s : Shared} {a : Addr} {y : V} {u : Value} {A : Around} {E : Value → Shared → Prop}
end
end L2
namespace Att
open PySem PySem.W PySem.Calls PyProof.Rows
theorem ints_of_wellAll {P : Params} {h : Heap} : ∀ (ns : List Int) (vs : List Value), WellAll P h vs (ns.map WData.int) → IntsAre vs ns := by
  intro ns
  induction ns with
  | nil =>
    intro vs w
    rw [List.map_nil] at w
    cases w
    exact .nil
  | cons n ns ih =>
    intro vs w
    rw [List.map_cons] at w
    cases w with
    | cons a b =>
      cases a
      exact .cons _ _ (ih _ b)
theorem script_of {l : OpenLaw} {n : Nat} (hn : l.most = some n) {P : Params} {h : Heap} {args : List WData} {vals : List Value}
    (hpre : l.row.toRowW.claim.pre args = true) (hwl : WellAll P h vals args) :
    ∃ a vs ns, vals = [Value.ref a] ∧ args = [WData.list (ns.map WData.int)] ∧ h.get? a = some { cls := .type "list", data := .seq vs.toArray } ∧ IntsAre vs ns ∧ ns.length ≤ n := by
  have hsh : WShape.hasAll [] args [.list .int] = true := (pre_splitW hpre).1
  have hc : l.pre.holds [] { args := args } = true := (pre_splitW hpre).2
  obtain ⟨d, r, rfl, h1, h2⟩ := hasAllW_cons hsh
  obtain rfl := hasAllW_nil h2
  obtain ⟨xs, rfl, h3⟩ := hasW_list h1
  obtain ⟨ns, rfl⟩ := items_int h3
  have hlen : ns.length ≤ n := by
    unfold OpenLaw.pre at hc
    have h4 : (WTm.not (.lt (.lit (.int (n : Int))) (.len (.arg 0)))).holds [] { args := [.list (ns.map .int)] } = true := by
      have h4 := (holds_andW hc).1
      rw [hn] at h4
      exact h4
    have h5 := condW_of h4 (w_not (w_lt w_lit (w_len_list (w_arg rfl))))
    rw [List.length_map] at h5
    refine Nat.le_of_not_lt fun q => ?_
    have q' : (n : Int) < ((ns.length : Nat) : Int) := by omega
    first
      | (rw [decide_eq_true q'] at h5; exact absurd h5 (by decide))
      | (simp at h5; omega)
  cases hwl with
  | cons w1 w2 =>
    cases w2
    cases w1 with
    | list ho hall => exact ⟨_, _, ns, rfl, rfl, ho, ints_of_wellAll ns _ hall, hlen⟩
theorem post_true (l : OpenLaw) (args : List WData) : l.row.toRowW.claim.post args (.bool true) args = true :=
  postW_of (r := l.row.toRowW) (X := (true == true))
    (show WShape.has [] (.bool true) .bool = true by first | rfl | decide | simp [WShape.has, WShape.arms, WShape.armsAll])
    (show (WTm.eq .res (.lit (.bool true))).value [] { args := args, res := some (.bool true), after := args } = some (.bool (true == true)) from w_eq_bool (w_res rfl) w_lit) rfl
section
variable {prog : Program} {w : World} {A : Around} {E : Value → Shared → Prop} {s : Shared} {K : Frag}
end
end Att
namespace L2
open PySem PySem.Spec PyProof.Rows
theorem vals_ints : ∀ {vs : List Value} {ns : List Int}, IntsAre vs ns → Vals (ns.map V.int) vs
  | _, _, .nil => .nil
  | _, _, .cons n t h => .cons ⟨t, rfl⟩ (vals_ints h)
end L2
namespace L2
open PySem PySem.Spec PyProof.Rows
end L2
namespace L2
open PySem PySem.Spec PyProof.Rows
def inClass (s : Stmt) (j : Nat) : Stmt := match s with
  | .ClassDef _ _ _ body _ _ _ _ _ _ _ => body.getD j (.Pass ⟨0, 0, 0, 0⟩)
  | _ => .Pass ⟨0, 0, 0, 0⟩
def defArgs (s : Stmt) : Arguments := match s with
  | .FunctionDef _ a _ _ _ _ _ _ _ _ => a
  | _ => { posonlyargs := [], args := [], vararg := none, kwonlyargs := [], kw_defaults := [], kwarg := none, defaults := [] }
def defBody (s : Stmt) : List Stmt := match s with
  | .FunctionDef _ _ b _ _ _ _ _ _ _ => b
  | _ => []
def defScope (s : Stmt) : Scope := match s with
  | .FunctionDef _ _ _ _ _ _ sc _ _ _ => sc
  | _ => { kind := .function, names := [], isGenerator := false, isCoroutine := false }
abbrev CX0 : CXT := fun _ _ _ _ _ _ => False
abbrev E0 : XK := fun _ _ _ => False
theorem pass0 {X : Cx} : Passes CX0 X E0 := fun _ _ _ _ _ _ _ h => h.elim
structure Fun (K : PySem.W.Frag) (x qual : Str) (st : Stmt) (f : Addr) (fd : FuncData) : Prop where
  ex : ∃ (oc : Value) (od : Option Addr) (kV doc pm : Value) (an : Option Addr) (cdv ct : Value) (osl : Array (Option Value)),
    fd = PySem.W.fnOf x qual (defArgs st) (defBody st) (defScope st) .none kV doc pm an cdv ct ∧ K.lookup f = some ⟨oc, od, .func fd, osl⟩ ∧ PySem.W.codeIn K cdv qual = true
  kp : PySem.W.keepIn K (.ref f) = true
section
variable {P : Program} {w : World} {K : PySem.W.Frag} {mg : Str → Option Value} {base : Heap}
theorem Fun.ok {x qual : Str} {st : Stmt} {f : Addr} {fd : FuncData} {N ps : List Str} {k : Nat} {sp : Sp} (F : Fun K x qual st f fd) (S : FnScope N ps (defScope st)) (len : ∀ vs H Q E, sp vs H Q E → vs.length = ps.length)
    (hbody : ∀ (cdv : Value) (A : Around) (outer : List Env) (s : Shared) (H : Hp) (vs : List V) (Q : VK) (E : XK), Room k (A.deeper (envOfC qual (defScope st) s.heap.objs.size f cdv)) → sp vs H Q E →
      ∃ t, PSs (cxOf CX0 P w K mg base N qual (defScope st) f cdv A outer s H E).nox (defBody st) t ∧ t { nx := fun _ H' => Q .non H', rt := Q } (start N vs) H) : FnOk P w K mg base CX0 (k + 1) f fd ps sp := by
  obtain ⟨oc, od, kV, doc, pm, an, cdv, ct, osl, rfl, lk, hcd⟩ := F.ex
  refine fn_of lk hcd S len fun A outer s H vs Q E hr hsp => ?_
  obtain ⟨t, h, q⟩ := hbody cdv A outer s H vs Q E hr hsp
  exact ⟨t, h.nox, q⟩
theorem Fun.binds {x qual : Str} {st : Stmt} {f : Addr} {fd : FuncData} {ps : List Str} (F : Fun K x qual st f fd)
    (h : ∀ (kV doc pm : Value) (an : Option Addr) (cdv ct : Value) (us : List Value), us.length = ps.length → bindArgs (PySem.W.fnOf x qual (defArgs st) (defBody st) (defScope st) .none kV doc pm an cdv ct) ⟨us, []⟩ = pure (ps.zip us)) : Binds K fd ps [] := by
  obtain ⟨oc, od, kV, doc, pm, an, cdv, ct, osl, rfl, lk, hcd⟩ := F.ex
  exact .all (h kV doc pm an cdv ct)
theorem fun_mk {x qual : Str} {st : Stmt} {f : Addr} {oc : Value} {od an : Option Addr} {osl : Array (Option Value)} {kV doc pm cdv ct : Value} (l : K.lookup f = some ⟨oc, od, .func (PySem.W.fnOf x qual (defArgs st) (defBody st) (defScope st) .none kV doc pm an cdv ct), osl⟩)
    (c : PySem.W.codeIn K cdv qual = true) (k : PySem.W.keepIn K (.ref f) = true) : Fun K x qual st f (PySem.W.fnOf x qual (defArgs st) (defBody st) (defScope st) .none kV doc pm an cdv ct) := ⟨⟨oc, od, kV, doc, pm, an, cdv, ct, osl, rfl, l, c⟩, k⟩
end
section
variable {X : Cx}
theorem pv (i : Nat) {x : Str} {pos : Pos} (hN : X.N[i]? = some x := by rfl) (hv : Vis X.env.scope x := by first | exact Or.inl rfl | exact Or.inr (Or.inl rfl) | exact Or.inr (Or.inr rfl)) (hd : (x == ("__debug__" : Str)) = false := by decide)
    (hcd : (x == ("__classdict__" : Str)) = false := by decide) : PE X (.Name x pos) (tVar i) := pe_var hN hv hd hcd
end
theorem ite2 {c A B : Prop} [Decidable c] (h1 : c → A) (h2 : ¬ c → B) : if c then A else B := by
  by_cases h : c
  · rw [if_pos h]
    exact h1 h
  · rw [if_neg h]
    exact h2 h
section
variable {X : Cx}
end
section
variable {κ : Type} [DecidableEq κ]
end
end L2
set_option Elab.async false
set_option linter.all false
set_option maxRecDepth 100000
set_option maxHeartbeats 4000000
namespace Att
open PySem PySem.W PySem.Calls PyProof.Rows
theorem script_low {R : WRecords} {cl : Str → Option Addr} {h : Heap} {a : Addr} {ds : List WData} {as : List Addr} (r : ReadsAllW R cl h [.ref a] [.list ds] as) : a ∈ as := by
  cases r with
  | cons r1 r2 =>
    cases r1 with
    | list => simp
theorem attach_callS {l : OpenLaw} {n : Nat} {q : Program} {loose : List Str} {XP : (Str → Option Value) → Heap → Prop} {YP : World → Heap → Prop} {d : DefRec}
    (hn : l.most = some n) (hdf : d.params.defaults = [])
    (call : ∀ (w : World) (s₀ s₁ : Shared) (mg mb : Str → Option Value) (fa : Addr) (o : Obj) (pm cd doc : Value) (a : Addr) (vs : List Value) (ns : List Int),
      Ground q loose [] XP w s₀ mg mb s₁.heap → YP w s₁.heap →
      s₁.heap.get? fa = some o → o.data = .func (docDef d.name d.params d.body d.scope pm cd doc) → s₁.heap.CodeRec cd d.name → mg d.name = some (.ref fa) →
      s₁.heap.get? a = some { cls := .type "list", data := .seq vs.toArray } → IntsAre vs ns → ns.length ≤ n → s₁.gens = #[] → a ≠ sysModules →
      codeAny (model l.prog w) callerA (.call (.ref fa) ⟨[.ref a], []⟩) (fun r s' => r = .ok (.ret (.bool true)) ∧ OldK s₁.heap s'.heap ∧ s'.os = s₁.os ∧ AllBare s'.gens) s₁) :
    WalkO q loose XP YP l.row.toRowW d [] (fun f vs => PySem.call f vs) := by
  intro w s₀ s₁ mg mb G Y fa o pm cd doc dV kV ho hd hcd hD hmg hg args vals as hpre hlay hrd hwl hlo
  obtain rfl : dV = .none := Dflts.none hD hdf
  obtain rfl : kV = .none := Dflts.noKw hD
  obtain ⟨a, vs, ns, rfl, rfl, hobj, hints, hlen⟩ := script_of hn hpre hwl
  have low : a ≠ sysModules := beq_eq_false_iff_ne.mp (hlo a (script_low hrd))
  refine enter_call (codeAny_mono (call w s₀ s₁ mg mb fa o pm cd doc a vs ns G Y ho (fd_plain hd) hcd hmg hobj hints hlen hg low) fun r s' hq => ?_)
  obtain ⟨rfl, h2, h3, h4⟩ := hq
  exact ⟨.inl ⟨.bool true, .bool true, [], rfl, fun _ => rfl, .bool true, post_true l _, fun _ => ⟨List.Pairwise.nil, fun _ hm => (nomatch hm)⟩⟩, h2, h3, h4⟩
end Att
namespace L2
open PySem PySem.Spec PyProof.Rows
end L2
set_option Elab.async false
set_option linter.all false
set_option maxRecDepth 100000
set_option maxHeartbeats 4000000
namespace My
open PySem
section
variable {prog : Program} {w : World} {A : Around} {h : Heap} {g : Array GenState} {d : Drawn} {tk : Nat} {os : OsState} {C N e t0 : Addr}
variable {nm q : Str} {bs bm bmB : List Value} {hdct ab : Bool} {sn : List Str} {sub : List Value} {col : Option Bool} {dd : Option Addr}
variable {k0 k1 k2 k3 k5 : Option Value} {B newId initId : String}
abbrev excAt (C t : Addr) : Obj := { cls := .ref C, data := .fields #[.ref t, .none, .none, .none, .bool false, .none] }
theorem viCall {R : Result → Shared → Prop} {v : Value} (F : ExcBaseFacts B newId initId bmB) (T : OwnTail h bmB bm)
    (hC : h.get? C = some (excClassObj nm q C N bs bm hdct sn sub ab col dd k0 k1 k2 k3 k5 newId)) (he : h.get? e = some (excAt C t0))
    (hR : ∀ h', h'.get? e = some (excAt C h.objs.size) → (∀ b o, b ≠ e → h.get? b = some o → h'.get? b = some o) → R (.ok (.ret .none)) ⟨h', g, d, tk, os⟩) :
    codeAny (model prog w) A (.call (.builtin initId) ⟨[.ref e, v], []⟩) R ⟨h, g, d, tk, os⟩ := by
  refine codeAny_call_builtin F.init.plain F.initEntry (wpAny_check_init_subT F T hC he rfl ?_)
  wp_walk
  refine hR _ ?_ fun b o hb eb => ?_
  · exact Heap.get?_update_self _ (Heap.get?_push_of_some _ he) rfl
  · exact (Heap.get?_update_ne _ _ _ _ hb).trans (Heap.get?_push_of_some _ eb)
end
end My
set_option Elab.async false
set_option linter.all false
set_option maxRecDepth 100000
set_option maxHeartbeats 4000000
namespace My
open PySem PySem.W Builtin Builtin.ObjectAttr
section
variable {prog : Program} {w : World} {A : Around} {s : Shared} {K : Frag} {C x : Addr}
theorem osaPass {R : Result → Shared → Prop} {ox : Obj} {od : Option Obj} {name : Str} {tk : Tok} {v : Value} {cd : ClassData} (X : K.In s.heap) (I : InstAt s.heap x ox C od)
    (hc : clsIn K C = some cd) (hp : refuseLoop (.ref x) "__setattr__" cd.mro = pure ()) (hm0 : mroIn K C (.type "object") = some true) (ht : takerIn K C name = some none)
    (h : ∀ b, wpAny (model prog w) A.in1 (storeInOwnDict (.ref x) (.ref C) (.str name tk) name v b)
      (fun fin s' => match fin with | .done f => R (.ok f) s' | .again c' => c'.quiet = true ∧ codeAny (model prog w) A c' R s') (fun e s' => R (.error e) s') s) :
    codeAny (model prog w) A (.call (.builtin "object.__setattr__") ⟨[.ref x, .str name tk, v], []⟩) R s := by
  have SF := PySem.F.store_object
  have sub : Looks (model prog w) s.heap (isInstance (.ref x) (.type "object")) true := I.type.andThen (looks_mroIn X hm0)
  refine codeAny_call_builtin SF.slot.plain SF.entry (@check_slot (model prog w) _ _ s "object.__setattr__" "object" "__setattr__" (.ref x) [.str name tk, v] [] _ SF.kind SF.split sub (SF.args _ _ _) ?_)
  obtain ⟨attr, ha, hr⟩ := Option.bind_eq_some_iff.mp ht
  have hm : Looks (model prog w) s.heap (mroOf (.ref C)) cd.mro := (looks_clsIn X hc).andThen .now
  have L3 : Looks (model prog w) s.heap (storeTaker? attr) none := by
    cases attr with
    | none => exact .now
    | some a =>
      obtain ⟨b, hb, e⟩ := Option.map_eq_some_iff.mp hr
      refine (looks_takesIn X hb).andThen ?_
      cases b
      · exact .now
      · cases e
  rw [osa_eq, refuse_eq]
  refine wpAny_bind (wpAny_bind (I.type.here (wpAny_bind (hm.here ?_))))
  rw [hp]
  refine wpAny_pure (wpAny_bind (I.type.here (wpAny_bind ((looks_findIn X ha).here (wpAny_bind (L3.here ?_))))))
  exact h _
end
end My
set_option Elab.async false
set_option linter.all false
set_option maxRecDepth 100000
set_option maxHeartbeats 4000000
namespace My
open PySem PySem.W Builtin Builtin.ObjectAttr
section
variable {prog : Program} {w : World} {A : Around} {E : Value → Shared → Prop} {s : Shared} {K : Frag} {C x : Addr}
theorem setExc {fs : Array Value} {sl : Array (Option Value)} {name : Str} {v : Value} {cd : ClassData} {Q : Unit → Shared → Prop} (X : K.In s.heap) (hx : s.heap.get? x = some ⟨.ref C, none, .fields fs, sl⟩)
    (hs : findIn K (.ref C) "__setattr__" = some (some (.builtin "object.__setattr__"))) (hc : clsIn K C = some cd) (hd : cd.hasDict = true)
    (hp : refuseLoop (.ref x) "__setattr__" cd.mro = pure ()) (hm0 : mroIn K C (.type "object") = some true) (ht : takerIn K C name = some none)
    (h : ∀ h' tk, h'.get? x = some ⟨.ref C, some s.heap.objs.size, .fields fs, sl⟩ → h'.Ns1 s.heap.objs.size (fun y => if y = name then some v else none) →
      (∀ b o, b ≠ x → s.heap.get? b = some o → h'.get? b = some o) → Q () { s with heap := h', toks := tk }) : wpAny (model prog w) A (setAttr (.ref x) name v) Q E s := by
  have J : InstAt s.heap x ⟨.ref C, none, .fields fs, sl⟩ C none := ⟨hx, rfl, rfl, True.intro⟩
  refine set_plain X J hs (osaPass (s := { s with toks := s.toks + 1 }) X J hc hp hm0 ht fun b => ?_)
  refine wpAny_bind (wpAny_pure (wpAny_bind (wpAny_bind (wpAny_loadPart hx (wpAny_bind (Looks.here (s := { s with toks := s.toks + 1 }) (looks_clsIn X hc) ?_))))))
  rw [hd]
  have hx1 : (s.heap.push { cls := .type "dict", data := .dict #[] }).get? x = some ⟨.ref C, none, .fields fs, sl⟩ := Heap.get?_push_of_some _ hx
  have hxs : x ≠ s.heap.objs.size := Nat.ne_of_lt (Heap.lt_size hx)
  refine wpAny_bind (wpAny_alloc' ?_)
  refine wpAny_bind (wpAny_update' hx1 ?_)
  refine wpAny_pure ?_
  generalize eU : ((s.heap.push { cls := .type "dict", data := .dict #[] }).update x fun o => { cls := o.cls, dict := some s.heap.objs.size, data := o.data, slots := o.slots } : Heap) = hU
  have gd : hU.get? s.heap.objs.size = some { cls := .type "dict", data := .dict #[] } := by
    rw [← eU]
    exact (Heap.get?_update_ne _ _ _ _ hxs.symm).trans (Heap.get?_push_at rfl rfl)
  have gx : hU.get? x = some ⟨.ref C, some s.heap.objs.size, .fields fs, sl⟩ := by
    rw [← eU]
    exact Heap.get?_update_self _ hx1 rfl
  have nd : hU.Ns s.heap.objs.size (fun _ => none) := ⟨_, #[], _, gd, rfl, fun e he => absurd he (by simp), fun _ => rfl⟩
  show wpAny _ _ (storeInDict s.heap.objs.size (.str name _) name v) _ _ _
  unfold storeInDict newKeyGuard
  refine wpAny_bind (wpAny_pure (wpAny_bind (wpAny_nsSet1 (Heap.Ns1.of_empty nd) fun h' hn' hsb => ?_)))
  obtain ⟨oD, esD, epD, hoD, hdD, hcD⟩ := hn'.count (Within.cons name v Within.nil)
  refine wpAny_bind (wpAny_lookBehind hoD (by
    rw [hdD]
    exact pastItsLine_dict (Nat.le_trans hcD (by rw [List.length_cons, List.length_nil, sizeLine_eq]; omega))) ?_)
  refine wpAny_pure ?_
  refine h h' _ ((hsb.2 x hxs).trans gx) hn' fun b o hb e => ?_
  refine (hsb.2 b (Nat.ne_of_lt (Heap.lt_size e))).trans ?_
  rw [← eU]
  exact (Heap.get?_update_ne _ _ _ _ hb).trans (Heap.get?_push_of_some _ e)
end
end My
set_option Elab.async false
set_option linter.all false
set_option maxRecDepth 100000
set_option maxHeartbeats 4000000
namespace My
open PySem PySem.W Builtin Builtin.ObjectAttr
section
variable {prog : Program} {w : World} {A : Around} {E : Value → Shared → Prop} {s : Shared} {K : Frag} {C x dx : Addr}
abbrev bga : String := "BaseException.__getattribute__"
theorem bgaCall {R : Result → Shared → Prop} {ox : Obj} {od : Option Obj} {name : Str} {tk : Tok} {v : Value} (X : K.In s.heap) (I : InstAt s.heap x ox C od)
    (hm0 : mroIn K C (.type "BaseException") = some true) (hf : findObj K C od name = some (.value v)) (h : R (.ok (.ret v)) s) :
    codeAny (model prog w) A (.call (.builtin bga) ⟨[.ref x, .str name tk], []⟩) R s := by
  have sub : Looks (model prog w) s.heap (isInstance (.ref x) (.type "BaseException")) true := I.type.andThen (looks_mroIn X hm0)
  have L1 := looks_find (M := model prog w) X I hf
  refine codeAny_call_builtin PySem.F.excAttr_ValueError.ga.plain PySem.F.entry_bexc_ga (@check_slot (model prog w) _ _ s bga "BaseException" "__getattribute__" (.ref x) [.str name tk] [] _ (by decide +kernel) (by decide +kernel) sub (PySem.F.args_bexc_ga _ _) ?_)
  refine wpAny_bind (wpAny_pure (wpAny_bind (wpAny_pure (wpAny_bind (I.type.here (wpAny_bind (L1.here ?_)))))))
  exact wpAny_pure h
theorem getExc {expr : Bool} {ox : Obj} {od : Option Obj} {name : Str} {v : Value} {Q : Value → Shared → Prop} (X : K.In s.heap) (I : InstAt s.heap x ox C od)
    (hga : findIn K (.ref C) "__getattribute__" = some (some (.builtin bga))) (hk : findIn K (.ref C) "__getattr__" = some none)
    (hm0 : mroIn K C (.type "BaseException") = some true) (hf : findObj K C od name = some (.value v)) (hv' : handedIn v = true) (h : Q v { s with toks := s.toks + 1 }) :
    wpAny (model prog w) A (getAttr (.ref x) name expr) Q E s := by
  have L0 := I.type (M := model prog w)
  have L1 := looks_findIn (M := model prog w) X hga
  have L2 := looks_findIn (M := model prog w) X hk
  have f3 := PySem.F.excAttr_ValueError.ga.bind (.ref x)
  unfold getAttr getAttrBy
  refine wpAny_bind (wpAny_mkText (wpAny_holding (wpAny_bind (Looks.here (s := { s with toks := s.toks + 1 }) L0 (wpAny_bind (Looks.here (s := { s with toks := s.toks + 1 }) L1 ?_))))))
  have hx1 : (onTheHeap (Value.ref C) && Value.builtin bga == Value.builtin "object.__getattribute__") = false := by
    rw [show (Value.builtin bga == Value.builtin "object.__getattribute__") = false from by decide +kernel]
    rfl
  show wpAny _ _ (if (onTheHeap (Value.ref C) && Value.builtin bga == Value.builtin "object.__getattribute__") = true then _ else _) _ _ _
  rw [if_neg (by rw [hx1]; decide)]
  unfold getAttrByItsOwn
  refine wpAny_bind ?_
  show wpAny _ _ (typeLookup (.ref C) "__getattr__") _ _ _
  refine Looks.here (s := { s with toks := s.toks + 1 }) L2 ?_
  have hx0 : (expr && onTheHeap (Value.builtin bga)) = false := by cases expr <;> rfl
  refine wpAny_bind (wpAny_attempt (wpAny_holding ?_))
  unfold callGetattribute
  rw [if_neg (by rw [hx0]; decide)]
  unfold boundAndCalled
  rw [f3]
  refine wpAny_bind (wpAny_pure ?_)
  refine wpAny_call (bgaCall (s := { s with toks := s.toks + 1 }) X I hm0 hf ?_)
  show wpAny _ _ (handedOut v) _ _ _
  rw [handedOut_of hv']
  exact wpAny_pure h
end
end My
set_option Elab.async false
set_option linter.all false
set_option maxRecDepth 100000
set_option maxHeartbeats 4000000
namespace My
open PySem PySem.W
section
variable {prog : Program} {w : World} {A : Around} {E : Value → Shared → Prop} {h : Heap} {g : Array GenState}
variable {d : Drawn} {t : Nat} {os : OsState} {nm q : Str} {C N : Addr} {bs bm bmB : List Value} {hdct ab : Bool}
variable {sn : List Str} {sub : List Value} {col : Option Bool} {dd : Option Addr}
variable {k0 k1 k2 k3 k5 : Option Value} {B newId initId : String} {K : Frag}
abbrev tupO (vs : List Value) : Obj := { cls := .type "tuple", data := .seq vs.toArray }
theorem tcallK (X : K.In h) (F : ExcBaseFacts B newId initId bmB) (T : OwnTail h bmB bm) {rest : List Value}
    {fI : Addr} {Q : Fin → Shared → Prop}
    (hC : h.get? C = some (excClassObj nm q C N bs bm hdct sn sub ab col dd k0 k1 k2 k3 k5 newId))
    (hi : findIn K (.ref C) "__init__" = some (some (.ref fI))) (hfI : typeIn K (.ref fI) = some (.type "function"))
    (hq : wpAny (model prog w) A (call (.ref fI) (.ref (h.objs.size + 1) :: rest))
      (fun r s' => r = .none ∧ Q (.done (.ret (.ref (h.objs.size + 1)))) s') E ⟨(h.push (tupO rest)).push (excAt C h.objs.size), g, d, t, os⟩)
    (hrest : rest.length ≤ sizeLine) :
    wpAny (model prog w) A (Builtin.«type.__call__» ⟨.ref C :: rest, []⟩) Q E ⟨h, g, d, t, os⟩ := by
  repeat (first
    | with_reducible refine wpAny_loadPart_at hC ?_
    | with_reducible refine wpAny_madeBy_exc hC ?_
    | wp_step)
  refine codeAny_call_builtin_code (Code.quiet_builtin _ F.quiet) (wpAny_check_new_subT F T hC ?_)
  refine codeAny_exc_new_subT F T hC ?_ hrest
  show wpAny _ _ _ _ _ _
  have up : ∀ b o, h.get? b = some o → ((h.push (tupO rest)).push (excAt C h.objs.size)).get? b = some o :=
    fun b o e => Heap.get?_push_of_some _ (Heap.get?_push_of_some _ e)
  have hC1 := up _ _ hC
  have X1 : K.In ((h.push (tupO rest)).push (excAt C h.objs.size)) := X.keeps up
  have hg1 : ((h.push (tupO rest)).push (excAt C h.objs.size)).get? (h.objs.size + 1) = some (excAt C h.objs.size) := by heap_get
  have hcC : (Value.ref C :: bm).contains (.ref C) = true := by simp
  unfold isInstance
  repeat (first
    | with_reducible refine wpAny_loadPart_at hg1 ?_
    | (with_reducible refine wpAny_isSubtype_exc hC1 ?_; rw [hcC])
    | wp_step)
  show wpAny _ _ (typeLookup (.ref C) _) _ _ _
  refine Looks.here (s := ⟨(h.push (tupO rest)).push (excAt C h.objs.size), g, d, t, os⟩) (looks_findIn X1 hi) ?_
  refine wpAny_holding (wpAny_bind ?_)
  unfold bindSpecial
  refine wpAny_bind (Looks.here (s := ⟨(h.push (tupO rest)).push (excAt C h.objs.size), g, d, t, os⟩) (looks_typeIn X1 hfI) ?_)
  rw [if_pos (by decide)]
  refine wpAny_pure (wpAny_bind (wpAny_mono hq (fun r s' hr => ?_) fun _ _ x => x))
  obtain ⟨rfl, hQ⟩ := hr
  wp_walk
  exact hQ
theorem callK (X : K.In h) (F : ExcBaseFacts B newId initId bmB) (T : OwnTail h bmB bm) {rest : List Value}
    {fI : Addr} {Q : Value → Shared → Prop}
    (hC : h.get? C = some (excClassObj nm q C N bs bm hdct sn sub ab col dd k0 k1 k2 k3 k5 newId))
    (hi : findIn K (.ref C) "__init__" = some (some (.ref fI))) (hfI : typeIn K (.ref fI) = some (.type "function"))
    (hq : wpAny (model prog w) (A.under (.builtin "type.__call__" ⟨.ref C :: rest, []⟩))
      (call (.ref fI) (.ref (h.objs.size + 1) :: rest)) (fun r s' => r = .none ∧ Q (.ref (h.objs.size + 1)) s') E ⟨(h.push (tupO rest)).push (excAt C h.objs.size), g, d, t, os⟩)
    (hrest : rest.length ≤ sizeLine) : wpAny (model prog w) A (call (.ref C) rest) Q E ⟨h, g, d, t, os⟩ := by
  have f1 := tc_lookup
  have f2 := tc_bind (.ref C)
  have hT : Shared.TypeIs ⟨h, g, d, t, os⟩ (.ref C) "type" := ⟨_, hC, rfl⟩
  refine wpAny_call (codeAny_of_tree ?_)
  show wpAny _ _ (callAny (.ref C) _) _ _ _
  repeat (any_goals (first
    | assumption
    | with_reducible refine wpAny_loadPart_at hC ?_
    | wp_step))
  refine ⟨rfl, ?_⟩
  refine codeAny_call_builtin_at (Code.quiet_builtin _ (by decide +kernel)) entry_typeCall (wpAny_check_type_call_sub hC ?_)
  exact tcallK X F T hC hi hfI hq hrest
end
section
variable {prog : Program} {w : World} {A : Around} {E : Value → Shared → Prop} {s : Shared} {K : Frag} {x C : Addr} {ox : Obj} {od : Option Obj}
theorem findData {a g : Value} {name : Str} (hc : (clsIn K C).isSome = true) (ha : findIn K (.ref C) name = some (some a)) (hg : specialIn K a "__get__" = some (some g)) (ht : takesIn K a = some true) : findObj K C od name = some (.bind g a) := by
  obtain ⟨cd, hc⟩ := Option.isSome_iff_exists.mp hc
  unfold findObj
  rw [hc, Option.bind_some, ha, Option.bind_some]
  simp [hg, ht]
theorem bgaBind {R : Result → Shared → Prop} {name : Str} {tk : Tok} {a g : Value} (X : K.In s.heap) (I : InstAt s.heap x ox C od)
    (hm0 : mroIn K C (.type "BaseException") = some true) (hf : findObj K C od name = some (.bind g a))
    (h : wpAny (model prog w) A.in1 (call g [a, .ref x, .ref C]) (fun v s' => R (.ok (.ret v)) s') (fun e s' => R (.error e) s') s) :
    codeAny (model prog w) A (.call (.builtin bga) ⟨[.ref x, .str name tk], []⟩) R s := by
  have sub : Looks (model prog w) s.heap (isInstance (.ref x) (.type "BaseException")) true := I.type.andThen (looks_mroIn X hm0)
  have L1 := looks_find (M := model prog w) X I hf
  refine codeAny_call_builtin PySem.F.excAttr_ValueError.ga.plain PySem.F.entry_bexc_ga (@check_slot (model prog w) _ _ s bga "BaseException" "__getattribute__" (.ref x) [.str name tk] [] _ (by decide +kernel) (by decide +kernel) sub (PySem.F.args_bexc_ga _ _) ?_)
  refine wpAny_bind (wpAny_pure (wpAny_bind (wpAny_pure (wpAny_bind (I.type.here (wpAny_bind (L1.here ?_)))))))
  show wpAny _ _ (holding [a] (call g [a, .ref x, .ref C]) >>= ret) _ _ _
  exact wpAny_bind (wpAny_holding (wpAny_mono h (fun v s' z => wpAny_pure z) fun _ _ z => z))
structure ErrI (K : Frag) (C : Addr) : Prop where
  cls : (clsIn K C).isSome = true
  ga : findIn K (.ref C) "__getattribute__" = some (some (.builtin bga))
  hk : findIn K (.ref C) "__getattr__" = some none
  mb : mroIn K C (.type "BaseException") = some true
  mo : mroIn K C (.type "object") = some true
  ca : findIn K (.ref C) "__class__" = some (some (.builtin "object.__class__"))
theorem errClass {Q : Option Value → Shared → Prop} (T : ErrI K C) (hn : specialIn K (.builtin "object.__class__") "__get__" = some (some (.builtin "getset_descriptor.__get__"))) (htk : takesIn K (.builtin "object.__class__") = some true)
    (X : K.In s.heap) (I : InstAt s.heap x ox C od) (h : Q (some (.ref C)) { s with toks := s.toks + 1 }) : wpAny (model prog w) A (getAttr? (.ref x) "__class__") Q E s := by
  have hf : findObj K C od "__class__" = some (.bind (.builtin "getset_descriptor.__get__") (.builtin "object.__class__")) := findData T.cls T.ca hn htk
  have L0 := I.type (M := model prog w)
  have L1 := looks_findIn (M := model prog w) X T.ga
  have L2 := looks_findIn (M := model prog w) X T.hk
  have f3 := PySem.F.excAttr_ValueError.ga.bind (.ref x)
  unfold getAttr? getAttrBy? getAttrBy
  refine wpAny_bind (wpAny_mkText (wpAny_bind (wpAny_attempt (wpAny_holding (wpAny_bind (Looks.here (s := { s with toks := s.toks + 1 }) L0 (wpAny_bind (Looks.here (s := { s with toks := s.toks + 1 }) L1 ?_))))))))
  have hx1 : (onTheHeap (Value.ref C) && Value.builtin bga == Value.builtin "object.__getattribute__") = false := by
    rw [show (Value.builtin bga == Value.builtin "object.__getattribute__") = false from by decide +kernel]
    rfl
  show wpAny _ _ (if (onTheHeap (Value.ref C) && Value.builtin bga == Value.builtin "object.__getattribute__") = true then _ else _) _ _ _
  rw [if_neg (by rw [hx1]; decide)]
  unfold getAttrByItsOwn
  refine wpAny_bind ?_
  show wpAny _ _ (typeLookup (.ref C) "__getattr__") _ _ _
  refine Looks.here (s := { s with toks := s.toks + 1 }) L2 ?_
  refine wpAny_bind (wpAny_attempt (wpAny_holding ?_))
  unfold callGetattribute
  rw [if_neg (by decide)]
  unfold boundAndCalled
  rw [f3]
  refine wpAny_bind (wpAny_pure ?_)
  refine wpAny_call (bgaBind (s := { s with toks := s.toks + 1 }) X I T.mb hf ?_)
  refine wpAny_call (class_get (s := { s with toks := s.toks + 1 }) (ox := ox) (od := od) X I T.mo ?_)
  show wpAny _ _ (handedOut (.ref C)) _ _ _
  rw [handedOut_of rfl]
  exact wpAny_pure (wpAny_pure h)
theorem kitErr (T : ErrI K C) (hn : specialIn K (.builtin "object.__class__") "__get__" = some (some (.builtin "getset_descriptor.__get__"))) (htk : takesIn K (.builtin "object.__class__") = some true) :
    KitX K (.ref x) (.ref C) (fun h => ∃ ox od, InstAt h x ox C od) where
  ty := fun _ _ _ ⟨_, _, I⟩ => I.type
  it := fun _ _ X _ => by
    obtain ⟨cdD, hcD⟩ := Option.isSome_iff_exists.mp T.cls
    unfold clsIn at hcD
    split at hcD
    · rename_i c' d' cd' sl' ho
      intro A' Q' E' s' k q
      unfold isType loadHead
      exact wpAny_bind (wpAny_loadPart (k _ _ (X _ _ ho)) (wpAny_pure q))
    · cases hcD
  ne := fun h tp dd its n sl X htp => by
    obtain ⟨cdD, hcD⟩ := Option.isSome_iff_exists.mp T.cls
    refine Bool.eq_false_iff.mpr fun q => ?_
    have e : C = tp := Value.ref.inj (beq_iff_eq.mp q)
    subst e
    unfold clsIn at hcD
    split at hcD
    · rename_i c' d' cd' sl' ho
      have z := (X _ _ ho).symm.trans htp
      cases z
    · cases hcD
  ca := fun X ⟨_, _, I⟩ k => errClass T hn htk X I k
end
end My
set_option Elab.async false
set_option linter.all false
set_option maxRecDepth 100000
set_option maxHeartbeats 4000000
namespace My
open PySem PySem.W L2
abbrev bmV : List Value := [.type "ValueError", .type "Exception", .type "BaseException", .type "object"]
abbrev errAt (C : Addr) (d : Option Addr) (t : Addr) : Obj := { cls := .ref C, dict := d, data := .fields #[.ref t, .none, .none, .none, .bool false, .none] }
def ErrO (x C : Addr) (d : Option Addr) : HO := .ext fun h => ∃ t, h.get? x = some (errAt C d t)
theorem errO_ok {P : Program} {w : World} {H : Hp} {h : Heap} {x C : Addr} {d : Option Addr} {t : Addr} (e : h.get? x = some (errAt C d t)) : ObjOk P w H h x (ErrO x C d) :=
  ⟨⟨t, e⟩, ⟨_, e⟩, fun _ _ ⟨t', e'⟩ k => ⟨t', k _ e'⟩⟩
theorem errO_at {P : Program} {w : World} {H : Hp} {h : Heap} {x C : Addr} {d : Option Addr} (ok : HOk P w H h) (e : H x = some (ErrO x C d)) : ∃ t, h.get? x = some (errAt C d t) := (ok x _ e).1
theorem upd_id {H : Hp} {a : Addr} {o : HO} (h : H a = some o) : upd H a o = H := by
  funext b
  unfold upd
  split
  · rename_i e; rw [e, h]
  · rfl
structure BaseC (K : Frag) (D : Addr) : Prop where
  cls : ∃ nm q N bs sn sub ab col dd k0 k1 k2 k3 k5, K.lookup D = some (excClassObj nm q D N bs bmV true sn sub ab col dd k0 k1 k2 k3 k5 "ValueError.__new__") ∧
     ∃ o es ep, K.lookup N = some o ∧ o.data = .dict es ep ∧ StrKeys es ∧ nsFind es "__init__" = none
  ga : specialIn K (.ref D) "__getattribute__" = some (some (.builtin "type.__getattribute__"))
  reads : readsIn K D (.type "type") = true
  ini : findCls K (.ref D) (.type "type") "__init__" = some (.val (.builtin "ValueError.__init__"))
  fi : findIn K (.ref D) "__init__" = some (some (.builtin "ValueError.__init__"))
  kp : keepIn K (.ref D) = true
  it : ErrI K D
theorem BaseC.tail {K : Frag} {D : Addr} (B : BaseC K D) {h : Heap} (X : K.In h) : OwnTail h bmV (.ref D :: bmV) := by
  obtain ⟨nm, q, N, bs, sn, sub, ab, col, dd, k0, k1, k2, k3, k5, l, o, es, ep, lN, hd, hs, hn⟩ := B.cls
  exact .own (X _ _ l) ⟨o, es, ep, X _ _ lN, hd, hs, fun _ => rfl⟩ hn .base
structure ErrC (K : Frag) (D : Addr) (nm : Str) (C f : Addr) : Prop where
  cls : ∃ q N bs sn sub ab col dd k0 k1 k2 k3 k5, K.lookup C = some (excClassObj nm q C N bs (.ref D :: bmV) true sn sub ab col dd k0 k1 k2 k3 k5 "ValueError.__new__")
  init : findIn K (.ref C) "__init__" = some (some (.ref f))
  fn : typeIn K (.ref f) = some (.type "function")
  kp : keepIn K (.ref C) = true
  sa : findIn K (.ref C) "__setattr__" = some (some (.builtin "object.__setattr__"))
  it : ErrI K C
theorem ErrC.clsIn {K : Frag} {D C f : Addr} {nm : Str} (T : ErrC K D nm C f) : ∃ cd, PySem.W.clsIn K C = some cd ∧ cd.hasDict = true ∧ cd.mro = .ref C :: .ref D :: bmV := by
  obtain ⟨q, N, bs, sn, sub, ab, col, dd, k0, k1, k2, k3, k5, l⟩ := T.cls
  unfold PySem.W.clsIn
  rw [l]
  exact ⟨_, rfl, rfl, rfl⟩
theorem ErrC.refuse {K : Frag} {D C f : Addr} {nm : Str} (T : ErrC K D nm C f) (x : Addr) : ∃ cd, PySem.W.clsIn K C = some cd ∧ cd.hasDict = true ∧ refuseLoop (.ref x) "__setattr__" cd.mro = pure () := by
  obtain ⟨cd, h1, h2, h3⟩ := T.clsIn
  refine ⟨cd, h1, h2, ?_⟩
  rw [h3, refuseLoop_ref, refuseLoop_ref]
  exact PySem.F.store_ValueError.passes _
section
variable {X : Cx} {pins : List (Addr × Obj)} {σ : St} {H : Hp} {s : Shared}
def spErr (C : Addr) (fld : Str) : Sp := fun vs H Q _ => ∃ x v, vs = [.ref x, v] ∧ H x = some (ErrO x C none) ∧ ∀ dx, H dx = none → dx ≠ x → Q .non (upd (upd H dx (.xd [(fld, v)])) x (ErrO x C (some dx)))
def tErr (C : Addr) (fld : Str) (te : TE) : TE := fun σ H Q => te σ H fun v H1 => ∀ x dx, H1 x = none → H1 dx = none → dx ≠ x → Q (.ref x) (upd (upd H1 dx (.xd [(fld, v)])) x (ErrO x C (some dx)))
theorem upd3 {H : Hp} {x dx : Addr} {a b c : HO} (n : dx ≠ x) : upd (upd (upd H x a) dx b) x c = upd (upd H dx b) x c := by
  funext z
  unfold upd
  by_cases h1 : z = x
  · rw [if_pos h1, if_pos h1]
  · rw [if_neg h1, if_neg h1]
    by_cases h2 : z = dx
    · rw [if_pos h2, if_neg h1]
    · rw [if_neg h2, if_neg h1]
theorem make_err {D C f : Addr} {nm fld : Str} {k : Nat} {fd : FuncData} {ps : List Str} {u : Value} {v : V} {Q : VK} (B : BaseC X.K D) (T : ErrC X.K D nm C f) (F : FnOk X.prog X.w X.K X.mg X.base CX0 k f fd ps (spErr C fld)) (hr : Room (k + 1) X.A) (hb : Binds X.K fd ps [])
    (I : Inv X pins σ H s) (r : RelV v u) (h : ∀ x dx, H x = none → H dx = none → dx ≠ x → Q (.ref x) (upd (upd H dx (.xd [(fld, v)])) x (ErrO x C (some dx)))) :
    wpAny (model X.prog X.w) X.A (call (.ref C) [u]) (EP X pins σ Q) X.xe s := by
  obtain ⟨hp, g, dr, tk, os⟩ := s
  obtain ⟨q, N, bs, sn, sub, ab, col, dd, k0, k1, k2, k3, k5, l⟩ := T.cls
  refine callK (C := C) I.kIn PySem.F.excBase_ValueError (B.tail I.kIn) (I.kIn _ _ l) T.init T.fn ?_ (by rw [List.length_cons, List.length_nil, sizeLine_eq]; omega)
  have f0 : H hp.objs.size = none := I.fresh
  have I1 : Inv X pins σ H ⟨hp.push (tupO [u]), g, dr, tk, os⟩ := I.kept (h' := hp.push (tupO [u])) (t' := tk) fun b o e => Heap.get?_push_of_some _ e
  have sz : (hp.push (tupO [u])).objs.size = hp.objs.size + 1 := Heap.size_push _ _
  have fx : H (hp.objs.size + 1) = none := by rw [← sz]; exact I1.fresh
  have I2 : Inv X pins σ (upd H (hp.objs.size + 1) (ErrO (hp.objs.size + 1) C none)) ⟨(hp.push (tupO [u])).push (excAt C hp.objs.size), g, dr, tk, os⟩ :=
    I1.laid (h' := (hp.push (tupO [u])).push (excAt C hp.objs.size)) (t' := tk) (a := hp.objs.size + 1) (fun b o e => Heap.get?_push_of_some _ e) (Nat.le_of_eq sz)
      (errO_ok (t := hp.objs.size) (Heap.get?_push_at sz.symm rfl))
  generalize (⟨(hp.push (tupO [u])).push (excAt C hp.objs.size), g, dr, tk, os⟩ : Shared) = s2 at I2 ⊢
  generalize hp.objs.size + 1 = x at fx I2 ⊢
  have r2 : Vals [V.ref x, v] [Value.ref x, u] := .cons rfl (.cons r .nil)
  have hsp : spErr C fld [V.ref x, v] (upd H x (ErrO x C none)) (fun y H2 => y = .non ∧ Q (.ref x) H2) E0 :=
    ⟨x, v, rfl, upd_same, fun dx hd nd => ⟨rfl, by
      rw [upd3 nd]
      rw [upd_ne nd] at hd
      exact h x dx fx hd nd⟩⟩
  have hl : ([Value.ref x, u] ++ [] : List Value).length = ps.length := by
    rw [List.append_nil, ← r2.length]
    exact F.len _ _ _ _ hsp
  have hbd := hb s2 [Value.ref x, u] I2.kIn hl
  rw [List.append_nil] at hbd
  refine wpAny_call (codeAny_mono (F.run _ X.stack s2 _ ⟨[Value.ref x, u], []⟩ [Value.ref x, u] _ _ E0 (hr.make C [u] []) (I2.env0.make C [u] []) hbd r2 hsp) fun r s' hq' => ?_)
  cases r with
  | error e => exact False.elim hq'
  | ok fl =>
    cases fl with
    | ret u' =>
      obtain ⟨y, H', I3, ry, ey, q3⟩ := I2.after hq'
      subst ey
      exact ⟨ry, V.ref x, H', I3, rfl, q3⟩
    | next => exact False.elim hq'
    | brk => exact False.elim hq'
    | cont => exact False.elim hq'
end
end My
set_option Elab.async false
set_option linter.all false
set_option maxRecDepth 100000
set_option maxHeartbeats 1000000
namespace My
open PySem PySem.W L2
def Head (h : Heap) (e : Addr) (vs : Array Value) : Prop := vs[1]? = some .none ∨ ∃ T oT ts, vs[1]? = some (.ref T) ∧ T ≠ e ∧ h.get? T = some oT ∧ oT.data = .fields ts ∧ ts[3]? = some .none
structure LeftX (fr : List Addr) (e T : Addr) (oe : Obj) (h h' : Heap) (r : Value) : Prop where
  keep : ∀ b o, b ≠ e → b ∉ fr → h.get? b = some o → h'.get? b = some o
  slot : ∀ b o, b ≠ e → h.get? b = some o → ∃ sl, h'.get? b = some { o with slots := sl }
  new : h.objs.size ≤ T
  exc : h'.get? e = some (oe.mapFields (fun x => x.setIfInBounds 1 (.ref T)))
  trc : ∃ oT ts, h'.get? T = some oT ∧ oT.data = .fields ts ∧ ts[3]? = some r ∧ T ≠ e
theorem set_same {vs : Array Value} {i : Nat} {v : Value} (h : vs[i]? = some v) : vs.setIfInBounds i v = vs := by
  obtain ⟨hi, e⟩ := Array.getElem?_eq_some_iff.mp h
  apply Array.ext
  · simp
  · intro j h1 h2
    simp only [Array.size_setIfInBounds] at h1
    rw [Array.getElem_setIfInBounds h1]
    split
    · rename_i z; subst z; exact e.symm
    · rfl
theorem mapF {o : Obj} {vs : Array Value} (hd : o.data = .fields vs) (f : Array Value → Array Value) : o.mapFields f = { o with data := .fields (f vs) } := by
  obtain ⟨c, d, dt, sl⟩ := o
  have e : dt = .fields vs := hd
  subst e
  rfl
theorem wp_newFields {M : Model} {A : Around} {E : Value → Shared → Prop} {s : Shared} {c : String} {vs : List Value} {Q : Value → Shared → Prop} (hl : vs.length ≤ sizeLine + 2)
    (q : Q (.ref s.heap.objs.size) { s with heap := s.heap.push { cls := .type c, data := .fields vs.toArray } }) : wpAny M A (newFields c vs) Q E s := by
  unfold newFields newObj
  refine wpAny_ite_false (decide_eq_false (by rw [List.size_toArray]; omega)) ?_
  unfold newObjAsIs
  exact wpAny_bind (wpAny_alloc (wpAny_pure q))
theorem place_len {pl : List Value} (h : IsPlace pl) : pl.length ≤ 6 := by
  rcases h with rfl | ⟨a, b, c, d, c9, b10, _, rfl⟩
  · decide
  · exact Nat.le_refl _
section
variable {M : Model} {A : Around} {E : Value → Shared → Prop} {s : Shared} {base : Heap} {env : Env} {outer : List Env} {L e : Addr} {oe : Obj} {vs : Array Value} {Q : Unit → Shared → Prop}
theorem note_jp {head : Value} {hn : Bool} (hA : A.frames = some (env :: outer)) (hF : s.heap.FunFrames base (env :: outer)) (hL : env.frame = some L) (he : s.heap.get? e = some oe) (hd : oe.data = .fields vs) (h1 : 1 < vs.size)
    (q : ∀ h' T, LeftX (frs (env :: outer)) e T oe s.heap h' (rawInt ↑L) → Q () { s with heap := h' }) :
    wpAny M A (do
      let a ← frameOf env
      let pl ← entryPlaceOf L hn
      let b ← EntryCells.newEntry head a .none (rawInt ↑L) .none pl
      setField (.ref e) 1 b) Q E s := by
  have nfr : e ∉ frs (env :: outer) := fun z => by
    obtain ⟨_, o, ho, hn⟩ := hF.mem z
    rw [he] at ho; cases ho
    exact hn vs hd
  refine wpAny_bind (wpAny_frameOf_fun hA hF hL fun h1' so => ?_)
  refine wpAny_bind (wpAny_entryPlaceOf fun pl hpl => ?_)
  refine wpAny_bind ?_
  unfold EntryCells.newEntry
  refine wp_newFields ?_ ?_
  · have := place_len hpl
    have b : 100 ≤ sizeLine := by decide
    rw [List.length_append]
    split
    · rw [List.length_replicate]; show 5 + 6 ≤ _; omega
    · show 5 + pl.length ≤ _; omega
  have e1 : h1'.get? e = some oe := by rw [so.2.1 e nfr]; exact he
  have lt := Heap.lt_size e1
  generalize hob : ({ cls := .type "traceback", data := .fields ([head, Value.ref L, .none, rawInt ↑L, .none] ++ if pl.isEmpty = true then List.replicate 6 Value.none else pl).toArray } : Obj) = ob
  have e2 : (h1'.push ob).get? e = some oe := Heap.get?_push_of_some _ e1
  refine wpAny_setField e2 hd h1 ?_
  refine q _ h1'.objs.size ⟨fun b o nb nf hb => ?_, fun b o nb hb => ?_, Nat.le_of_eq so.1.symm, ?_, ?_⟩
  · rw [Heap.get?_update_ne _ _ _ _ nb]
    exact Heap.get?_push_of_some _ (by rw [so.2.1 b nf]; exact hb)
  · obtain ⟨sl, z⟩ := so.2.2 b o hb
    exact ⟨sl, by rw [Heap.get?_update_ne _ _ _ _ nb]; exact Heap.get?_push_of_some _ z⟩
  · exact Heap.get?_update_self _ e2 (by rw [mapF hd]; rfl)
  · have nT : h1'.objs.size ≠ e := Ne.symm (Nat.ne_of_lt lt)
    refine ⟨ob, _, ?_, by rw [← hob], ?_, nT⟩
    · rw [Heap.get?_update_ne _ _ _ _ nT]
      exact Heap.get?_push_at rfl (by rw [← hob]; rfl)
    · rfl
theorem note_exact (hA : A.frames = some (env :: outer)) (hF : s.heap.FunFrames base (env :: outer)) (hL : env.frame = some L) (he : s.heap.get? e = some oe) (hd : oe.data = .fields vs) (hv : Head s.heap e vs)
    (q : ∀ h' T, LeftX (frs (env :: outer)) e T oe s.heap h' (rawInt ↑L) → Q () { s with heap := h' }) : wpAny M A (noteFrame (.ref e) env) Q E s := by
  unfold noteFrame
  rw [hL]
  rcases hv with hv | ⟨T, oT, ts, hv, nT, hT, hTd, h3⟩
  · have h1 : 1 < vs.size := (Array.getElem?_eq_some_iff.mp hv).1
    refine wpAny_bind (wpAny_field he hd hv ?_)
    refine wpAny_ite_false rfl ?_
    exact note_jp hA hF hL he hd h1 q
  · have h1 : 1 < vs.size := (Array.getElem?_eq_some_iff.mp hv).1
    have h3' : 3 < ts.size := (Array.getElem?_eq_some_iff.mp h3).1
    refine wpAny_bind (wpAny_field he hd hv ?_)
    refine wpAny_ite_true rfl ?_
    refine wpAny_bind (wpAny_field hT hTd h3 ?_)
    refine wpAny_ite_false rfl ?_
    refine wpAny_bind (wpAny_setField hT hTd h3' ?_)
    have g : ∀ b, (s.heap.update T (Obj.mapFields fun x => x.setIfInBounds 3 Value.none)).get? b = s.heap.get? b := fun b => by
      by_cases z : b = T
      · subst z
        rw [Heap.get?_update_self _ hT (by rw [mapF hTd]; rfl), hT, mapF hTd, set_same h3, ← hTd]
      · exact Heap.get?_update_ne _ _ _ _ z
    have sz : (s.heap.update T (Obj.mapFields fun x => x.setIfInBounds 3 Value.none)).objs.size = s.heap.objs.size := Heap.size_update _ _ _
    generalize s.heap.update T (Obj.mapFields fun x => x.setIfInBounds 3 Value.none) = h0 at g sz
    have hF0 : h0.FunFrames base (env :: outer) := Heap.FunFrames.of_keeps (fun b o hb _ => ⟨o, by rw [g]; exact hb, rfl⟩) hF
    refine note_jp (s := { s with heap := h0 }) hA hF0 hL (by show h0.get? e = _; rw [g]; exact he) hd h1 fun h' T' x => ?_
    exact q h' T' ⟨fun b o nb nf hb => x.keep b o nb nf (by show h0.get? b = _; rw [g]; exact hb), fun b o nb hb => x.slot b o nb (by show h0.get? b = _; rw [g]; exact hb), by rw [← sz]; exact x.new, x.exc, x.trc⟩
theorem LeftX.flight {fr : List Addr} {T : Addr} {h h' : Heap} {r : Value} (x : LeftX fr e T oe h h' r) (hd : oe.data = .fields vs) (h1 : 1 < vs.size) (s' : Shared) (es : s'.heap = h')
    (q : ∀ h2, LeftX fr e T oe h h2 .none → Q () { s' with heap := h2 }) : wpAny M A (setFlight (.ref e) none) Q E s' := by
  subst es
  obtain ⟨oT, ts, hT, hTd, h3, nT⟩ := x.trc
  have h3' : 3 < ts.size := (Array.getElem?_eq_some_iff.mp h3).1
  have e1 : (oe.mapFields (fun x => x.setIfInBounds 1 (.ref T))).data = .fields (vs.setIfInBounds 1 (.ref T)) := Obj.data_mapFields hd _
  have e2 : (vs.setIfInBounds 1 (Value.ref T))[1]? = some (.ref T) := by simp [h1]
  refine wpAny_setFlight_none x.exc e1 e2 hT hTd h3' (q _ ⟨fun b o nb nf hb => ?_, fun b o nb hb => ?_, x.new, ?_, ?_⟩)
  · have z := x.keep b o nb nf hb
    rw [Heap.get?_update_ne _ _ _ _ (fun w => ?_)]
    · exact z
    · rw [w] at hb
      exact absurd (Nat.lt_of_lt_of_le (Heap.lt_size hb) x.new) (Nat.lt_irrefl _)
  · obtain ⟨sl, z⟩ := x.slot b o nb hb
    refine ⟨sl, ?_⟩
    rw [Heap.get?_update_ne _ _ _ _ (fun w => ?_)]
    · exact z
    · rw [w] at hb
      exact absurd (Nat.lt_of_lt_of_le (Heap.lt_size hb) x.new) (Nat.lt_irrefl _)
  · rw [Heap.get?_update_ne _ _ _ _ nT.symm]
    exact x.exc
  · refine ⟨_, _, Heap.get?_update_self _ hT (by rw [mapF hTd]; rfl), Obj.data_mapFields hTd _, ?_, nT⟩
    simp [h3']
theorem leave_exact (hA : A.frames = some (env :: outer)) (hF : s.heap.FunFrames base (env :: outer)) (hL : env.frame = some L) (he : s.heap.get? e = some oe) (hd : oe.data = .fields vs) (hv : Head s.heap e vs)
    (q : ∀ h' T, LeftX (frs (env :: outer)) e T oe s.heap h' .none → Q () { s with heap := h' }) : wpAny M A (leaving env (.ref e)) Q E s := by
  have h1 : 1 < vs.size := by
    rcases hv with hv | ⟨T, oT, ts, hv, _⟩
    · exact (Array.getElem?_eq_some_iff.mp hv).1
    · exact (Array.getElem?_eq_some_iff.mp hv).1
  unfold leaving
  exact wpAny_bind (note_exact hA hF hL he hd hv fun h' T x => x.flight hd h1 _ rfl fun h2 x2 => q h2 T x2)
end
end My
set_option Elab.async false
set_option linter.all false
set_option maxRecDepth 100000
set_option maxHeartbeats 4000000
namespace My
open PySem PySem.W L2
def one (P : V → Hp → Prop) (vs : List V) (H : Hp) : Prop := match vs with
  | [v] => P v H
  | _ => False
theorem one_of {P : V → Hp → Prop} {vs : List V} {H : Hp} (h : one P vs H) : ∃ v, vs = [v] ∧ P v H := by
  cases vs with
  | nil => exact h.elim
  | cons v r =>
    cases r with
    | nil => exact ⟨v, rfl, h⟩
    | cons _ _ => exact h.elim
def two (P : V → V → Hp → Prop) (vs : List V) (H : Hp) : Prop := match vs with
  | [v, u] => P v u H
  | _ => False
theorem two_of {P : V → V → Hp → Prop} {vs : List V} {H : Hp} (h : two P vs H) : ∃ v u, vs = [v, u] ∧ P v u H := by
  match vs, h with
  | [v, u], h => exact ⟨v, u, rfl, h⟩
section
variable {X : Cx} {pins : List (Addr × Obj)} {σ : St} {H : Hp} {s : Shared}
theorem pe_err {D C f : Addr} {nm fld x : Str} {k : Nat} {fd : FuncData} {ps : List Str} {e : Expr} {te : TE} {p pos : Pos} (B : BaseC X.K D) (T : ErrC X.K D nm C f) (F : FnOk X.prog X.w X.K X.mg X.base CX0 k f fd ps (spErr C fld)) (hr : Room (k + 1) X.A) (hb : Binds X.K fd ps [])
    (hg : Gl X x) (hm : X.mg x = some (.ref C)) (ha : PE X e te) (hdb : (x == ("__debug__" : Str)) = false := by decide) (he : starEach [e] X.env = (false, eval e X.env) :: starEach [] X.env := by rfl) (hpl : (backTo pos (starEach [] X.env)).any (·.1) = false := by rfl) :
    PE X (.Call (.Name x p) [e] [] pos) (tErr C fld te) := by
  intro pins s σ H Q I h
  refine wpAny_Call_Name_kw (ld_glob I hg hm ?_ hdb)
  have pa : PA X [e] (tCons te tNil) := pa_cons ha pa_nil he
  have h' : tCons te tNil σ H (one fun v H1 => ∀ x dx, H1 x = none → H1 dx = none → dx ≠ x → Q (.ref x) (upd (upd H1 dx (.xd [(fld, v)])) x (ErrO x C (some dx)))) := h
  refine PySem.W.callWith_K (h₀ := X.base) I.ok.mod.kin T.kp (thn (pa pos pins s σ H _ I h') fun us s1 ⟨vs, H1, I1, r, q⟩ => ⟨I1.kIn, ?_⟩) he hpl
  obtain ⟨v, rfl, q⟩ := one_of q
  obtain ⟨u, rfl, ru⟩ := vals1 r
  exact make_err B T F hr hb I1 ru q
def tBI (ts tt : TE) (C : Addr) : TE := fun σ H Q => ts σ H fun x H1 => tt σ H1 fun v H2 => ∃ a, x = .ref a ∧ H2 a = some (ErrO a C none) ∧ Q .non H2
theorem pe_baseInit {D C f : Addr} {nm x : Str} {o e : Expr} {ts tt : TE} {p apos pos : Pos} {pl : Sem Bool} (B : BaseC X.K D) (T : ErrC X.K D nm C f) (hg : Gl X x) (hm : X.mg x = some (.ref D)) (hs : PE X o ts) (ht : PE X e tt) (hdb : (x == ("__debug__" : Str)) = false := by decide)
    (hst : starEach [o, e] X.env = (false, eval o X.env) :: starEach [e] X.env := by rfl) (hst2 : starEach [e] X.env = (false, eval e X.env) :: starEach [] X.env := by rfl) (hpl : (backTo pos (starEach [e] X.env)).any (·.1) = false := by rfl)
    (htr : eval (.Call (.Attribute (.Name x p) "__init__" apos) [o, e] [] pos) X.env = (do
      let ov ← eval (.Name x p) X.env
      standAt apos.atName
      let (f, first) ← holding [ov] (getMethod ov "__init__" pl)
      callWith pos f first (backTo pos (starEach [o, e] X.env)) (backToKw pos (keywordEach [] X.env))) := by rfl) :
    PE X (.Call (.Attribute (.Name x p) "__init__" apos) [o, e] [] pos) (tBI ts tt C) := by
  intro pins s σ H Q I h
  refine PySem.W.methodCall_KW (pl := pl) (ld_glob I hg hm ?_ hdb) htr
  refine method_cls I.kIn B.ga (cls_value I.kIn B.reads B.ini rfl ?_)
  have I0 : Inv X pins σ H { s with toks := s.toks + 1 } := I.tok _
  have pa : PA X [o, e] (tCons ts (tCons tt tNil)) := pa_cons hs (pa_cons ht pa_nil hst2) hst
  have h' : tCons ts (tCons tt tNil) σ H (two fun x v H2 => ∃ a, x = .ref a ∧ H2 a = some (ErrO a C none) ∧ Q .non H2) := h
  refine PyProof.Rows.callWith_builtin1 (thn (pa pos pins _ σ H _ I0 h') fun us s1 ⟨vs, H1, I1, r, q⟩ => ?_) hst hpl
  obtain ⟨_, v, rfl, a, rfl, ha, q⟩ := two_of q
  obtain ⟨u, u', rfl, ru, ru'⟩ := vals2 r
  cases (show u = Value.ref a from ru)
  obtain ⟨t0, hx⟩ := errO_at I1.hok ha
  obtain ⟨q', N, bs, sn, sub, ab, col, dd, k0, k1, k2, k3, k5, l⟩ := T.cls
  obtain ⟨hp, g, dr, tk, os⟩ := s1
  refine wpAny_call (viCall (C := C) PySem.F.excBase_ValueError (B.tail I1.kIn) (I1.kIn _ _ l) hx fun h' hx' hk => ?_)
  have I2 : Inv X pins σ (upd H1 a (ErrO a C none)) ⟨h', g, dr, tk, os⟩ := I1.write (h' := h') (t' := tk) (x := a) (e := a) (by rw [ha]; exact True.intro) (.inl rfl) (fun b o hb e => hk b o hb e) ⟨_, hx'⟩ (errO_ok hx')
  rw [upd_id ha] at I2
  exact ⟨.non, H1, I2, rfl, q⟩
def sErr (K : Frag) (C : Addr) (ta tv : TE) (f : Str) : TS := fun D σ H => tv σ H fun y H1 => ta σ H1 fun x H2 => ∃ a, x = .ref a ∧ H2 a = some (ErrO a C none) ∧ takerIn K C f = some none ∧ ∀ dx, H2 dx = none → dx ≠ a → D.nx σ (upd (upd H2 dx (.xd [(f, y)])) a (ErrO a C (some dx)))
theorem ps_err {D C fI : Addr} {nm f : Str} {o value : Expr} {ta tv : TE} {pos pos' : Pos} (T : ErrC X.K D nm C fI) (ha : PE X o ta) (hv : PE X value tv) (hs : swapsWith value (some (.Attribute o f pos')) pos.line X.env = pure false) :
    PS X (.Assign [.Attribute o f pos'] value pos) (sErr X.K C ta tv f) := by
  intro pins s σ H D' I h
  refine plainObj_wpAny_Assign_Attribute (thn (hv pins s σ H _ I h) fun u s1 ⟨y, H1, I1, ry, q⟩ => thn (ha pins s1 σ H1 _ I1 q) fun ov s2 ⟨x, H2, I2, rx, a, ex, ea, tk, q2⟩ => ?_) hs
  subst ex
  obtain rfl : ov = Value.ref a := rx
  obtain ⟨t0, hx⟩ := errO_at I2.hok ea
  obtain ⟨cd, hc, hd, hp⟩ := T.refuse a
  refine setExc I2.kIn hx T.sa hc hd hp T.it.mo tk fun h' tk' hx' hn' hk => ?_
  have fr : H2 s2.heap.objs.size = none := I2.fresh
  have nz : s2.heap.objs.size ≠ a := fun z => by rw [← z, fr] at ea; cases ea
  obtain ⟨oD, es, ep, hoD, rD⟩ := id hn'
  have nf : oD.isFreed = false := Obj.isFreed_of_dict rD.1
  have I3 : Inv X pins σ (upd H2 s2.heap.objs.size (.xd [(f, y)])) { s2 with heap := s2.heap.push oD, toks := s2.toks } := by
    refine I2.laid (h' := s2.heap.push oD) (t' := s2.toks) (a := s2.heap.objs.size) (fun b o e => Heap.get?_push_of_some _ e) (Nat.le_refl _) ⟨_, ⟨oD, es, ep, Heap.get?_push_at rfl nf, rD⟩, fun g => ?_⟩
    by_cases e : g = f
    · subst e
      rw [if_pos rfl, List.lookup_cons_self]
      exact ry
    · rw [if_neg e, List.lookup_cons, beq_eq_false_iff_ne.mpr e]
      exact True.intro
  have ea3 : upd H2 s2.heap.objs.size (.xd [(f, y)]) a = some (ErrO a C none) := by rw [upd_ne nz.symm]; exact ea
  have I4 : Inv X pins σ (upd (upd H2 s2.heap.objs.size (.xd [(f, y)])) a (ErrO a C (some s2.heap.objs.size))) { s2 with heap := h', toks := tk' } := by
    refine I3.write (h' := h') (t' := tk') (x := a) (e := a) (by rw [ea3]; exact True.intro) (.inl rfl) (fun b o hb e => ?_) ⟨_, hx'⟩ (errO_ok (t := t0) hx')
    by_cases z : b = s2.heap.objs.size
    · subst z
      have e' : (s2.heap.push oD).get? s2.heap.objs.size = some o := e
      rw [Heap.get?_push_at rfl nf] at e'
      cases e'
      exact hoD
    · have e' : (s2.heap.push oD).get? b = some o := e
      exact hk b o hb (by rw [← Heap.get?_push_ne _ _ oD z]; exact e')
  exact ⟨σ, _, I4, q2 _ fr nz⟩
end
end My
set_option Elab.async false
set_option linter.all false
set_option maxRecDepth 100000
set_option maxHeartbeats 4000000
namespace My
open PySem PySem.W L2
section
variable {prog : Program} {w : World} {A : Around} {E : Value → Shared → Prop} {h : Heap} {g : Array GenState}
variable {d : Drawn} {t : Nat} {os : OsState} {nm q : Str} {C N : Addr} {bs bm bmB : List Value} {hdct ab : Bool}
variable {sn : List Str} {sub : List Value} {col : Option Bool} {dd : Option Addr}
variable {k0 k1 k2 k3 k5 : Option Value} {B newId initId : String} {K : Frag}
end
section
variable {X : Cx} {pins : List (Addr × Obj)} {σ : St} {H : Hp} {s : Shared}
theorem err_inst {P : Program} {w : World} {H : Hp} {h : Heap} {a C dx : Addr} {fs : List (Str × V)} (ok : HOk P w H h) (ea : H a = some (ErrO a C (some dx))) (ed : H dx = some (.xd fs)) :
    ∃ (ox od : Obj), InstAt h a ox C (some od) ∧ ∃ mA : Str → Option Value, (∀ f, RelO (fs.lookup f) (mA f)) ∧ ∀ name, lookIn name od = some (mA name) := by
  obtain ⟨t, hx⟩ := errO_at ok ea
  obtain ⟨mA, hn, hr⟩ := (show ObjOk P w H h dx (.xd fs) from ok dx _ ed)
  obtain ⟨od, hod, hl⟩ := lookIn_ns hn
  exact ⟨_, od, ⟨hx, rfl, rfl, hod⟩, mA, hr, hl⟩
structure IsT (K : Frag) : Prop where
  gt : specialIn K (.builtin "object.__class__") "__get__" = some (some (.builtin "getset_descriptor.__get__"))
  tk : takesIn K (.builtin "object.__class__") = some true
def ErrAt (H : Hp) (a C : Addr) : Prop := H a = some (ErrO a C none) ∨ ∃ dx fs, H a = some (ErrO a C (some dx)) ∧ H dx = some (.xd fs)
theorem ErrAt.inst {P : Program} {w : World} {H : Hp} {h : Heap} {a C : Addr} (E : ErrAt H a C) (ok : HOk P w H h) : ∃ ox od, InstAt h a ox C od := by
  rcases E with e | ⟨dx, fs, ea, ed⟩
  · obtain ⟨t, hx⟩ := errO_at ok e
    exact ⟨_, none, ⟨hx, rfl, rfl, True.intro⟩⟩
  · obtain ⟨ox, od, J, _⟩ := err_inst ok ea ed
    exact ⟨ox, some od, J⟩
def isV : V → Value
  | .ref a => .ref a
  | .ty n => .type n
  | _ => .none
end
end My
set_option Elab.async false
set_option linter.all false
set_option maxRecDepth 100000
set_option maxHeartbeats 1000000
namespace My
open PySem PySem.W L2
open PyProof.Rows (AllBare)
abbrev errW (C : Addr) (d : Option Addr) (t : Addr) (v : Value) : Obj := { cls := .ref C, dict := d, data := .fields #[.ref t, v, .none, .none, .bool false, .none] }
def ErrT (x C : Addr) (d : Option Addr) : HO := .ext fun h => ∃ t v, h.get? x = some (errW C d t v)
theorem errT_ok {P : Program} {w : World} {H : Hp} {h : Heap} {x C : Addr} {d : Option Addr} {t : Addr} {v : Value} (e : h.get? x = some (errW C d t v)) : ObjOk P w H h x (ErrT x C d) :=
  ⟨⟨t, v, e⟩, ⟨_, e⟩, fun _ _ ⟨t', v', e'⟩ k => ⟨t', v', k _ e'⟩⟩
theorem errT_at {P : Program} {w : World} {H : Hp} {h : Heap} {x C : Addr} {d : Option Addr} (ok : HOk P w H h) (e : H x = some (ErrT x C d)) : ∃ t v, h.get? x = some (errW C d t v) := (ok x _ e).1
def Fly (n : Nat) (H : Hp) (h : Heap) (x C : Addr) (d : Option Addr) : Prop := ∃ t T oT ts, h.get? x = some (errW C d t (.ref T)) ∧ T ≠ x ∧ n ≤ T ∧ H T = none ∧ h.get? T = some oT ∧ oT.data = .fields ts ∧ ts[3]? = some Value.none
def CXE (P : Program) (w : World) : CXT := fun outer H s E e s' => ∃ x C dx fs H', e = .ref x ∧ s'.os = s.os ∧ AllBare s'.gens ∧ Un (frs outer) [] H H' s.heap s'.heap ∧ HOk P w H' s'.heap ∧ H' x = some (ErrT x C (some dx)) ∧ H' dx = some (.xd fs) ∧ Fly s.heap.objs.size H' s'.heap x C (some dx) ∧ E (.ref C) (some x) H'
section
variable {X : Cx} {pins : List (Addr × Obj)} {σ : St} {H : Hp} {s : Shared}
theorem Inv.left {x C : Addr} {d : Option Addr} {t T : Addr} {v r : Value} {h' : Heap} {o : HO} (I : Inv X pins σ H s) (hS : X.stack = X.env :: X.outer) (hx : H x = some o) (ho : (∃ φ, o = .ext φ)) (he : s.heap.get? x = some (errW C d t v))
    (l : LeftX (frs (X.env :: X.outer)) x T (errW C d t v) s.heap h' r) : Inv X pins σ (upd H x (ErrT x C d)) { s with heap := h' } := by
  obtain ⟨φ, rfl⟩ := ho
  have nx : ∀ b u, H b = some u → (∀ φ, u ≠ .ext φ) → b ≠ x := fun b u e n z => by
    subst z
    rw [hx] at e
    exact n φ (Option.some.inj e).symm
  have fr0 : ∀ b ∈ frs (X.env :: X.outer), H b = none := fun b hb => I.stkFree b (by rw [hS]; exact hb)
  have nfr : ∀ b u, H b = some u → b ∉ frs (X.env :: X.outer) := fun b u e z => by rw [fr0 b z] at e; cases e
  have exc : h'.get? x = some (errW C d t (.ref T)) := l.exc
  have sub : ∀ b, b ∈ frs (X.env :: X.outer) → b = X.env.locals ∨ b ∈ X.fs := fun b hb => List.mem_cons.mp (I.stkSub b (by rw [hS]; exact hb))
  refine I.step (g' := s.gens) (d' := s.drawn) (t' := s.toks) (ch := []) (fun _ z => nomatch z) (fun b o hL hf _ e n => ?_) (fun b o hL hf _ e n => ?_) (fun b o _ e n => ?_) (fun b o _ e => ?_) (fun b xs e => ?_) (fun b o u e => ?_) (fun b ps e => ⟨#[], ?_⟩) (fun e => ?_) (fun m hm => ?_) (fun b u e => ?_) I.bare
  · refine l.keep b o (fun z => by rw [z, hx] at n; cases n) (fun z => ?_) e
    rcases sub b z with q | q
    · exact hL q
    · exact hf q
  · exact l.slot b o (fun z => by rw [z, hx] at n; cases n) e
  · rw [upd_ne (fun z => by rw [z, hx] at n; cases n)]; exact n
  · by_cases z : b = x
    · subst z; exact ⟨_, exc⟩
    · obtain ⟨sl, q⟩ := l.slot b o z e
      exact ⟨_, q⟩
  · rw [upd_ne (nx b _ e fun _ => by intro z; cases z)]; exact e
  · rw [upd_ne (nx b _ e fun _ => by intro z; cases z)]; exact e
  · rw [upd_ne (nx b _ e fun _ => by intro z; cases z), e]; simp
  · rw [upd_ne (fun z => by rw [z, hx] at e; cases e)]; exact e
  · obtain ⟨o, es, ep, ho, r⟩ := hm
    obtain ⟨sl, q⟩ := l.slot _ o (fun z => by have := I.free; rw [z, hx] at this; cases this) ho
    exact ⟨_, es, ep, q, r⟩
  · by_cases z : b = x
    · subst z
      rw [upd_same] at e
      cases e
      exact errT_ok exc
    · rw [upd_ne z] at e
      refine (I.hok b u e).stay (fun c o' hc q => ?_) (fun c q => ?_) fun c xs q => ?_
      · rcases hc with rfl | hc
        · exact l.keep c o' z (nfr c u e) q
        · exact l.keep c o' (nx c _ hc fun _ => by intro w; cases w) (nfr c _ hc) q
      · rw [upd_ne (nx c _ q fun _ => by intro w; cases w)]; exact q
      · rw [upd_ne (nx c _ q fun _ => by intro w; cases w)]; exact q
end
section
variable {P : Program} {w : World} {K : Frag} {mg : Str → Option Value} {base : Heap} {N : List Str} {qual : Str} {scope : Scope} {f : Addr} {cd : Value} {A : Around} {outer : List Env} {s0 : Shared} {H0 : Hp} {E : XK} {pins : List (Addr × Obj)} {σ : St} {H : Hp} {s : Shared}
theorem xe_of {x C dx : Addr} {t : Addr} {v : Value} {o : HO} {fs : List (Str × V)} (I : Inv (cxOf (CXE P w) P w K mg base N qual scope f cd A outer s0 H0 E) pins σ H s) (hx : H x = some o) (ho : (∃ φ, o = .ext φ)) (hdx : H dx = some (.xd fs)) (he : s.heap.get? x = some (errW C (some dx) t v))
    (hv : Head s.heap x #[.ref t, v, .none, .none, .bool false, .none]) (q : E (.ref C) (some x) (upd H x (ErrT x C (some dx)))) : (cxOf (CXE P w) P w K mg base N qual scope f cd A outer s0 H0 E).xe (.ref x) s := by
  have hA := I.ok.frames
  refine leave_exact hA I.stack rfl he rfl hv fun h' T l => ?_
  have J := Inv.left I rfl hx ho he l
  have nT : H T = none := I.hok.fresh l.new
  obtain ⟨oT, ts, h1, h2, h3, h4⟩ := l.trc
  have nd : dx ≠ x := fun z => by
    obtain ⟨φ, rfl⟩ := ho
    rw [z, hx] at hdx; cases hdx
  refine ⟨x, C, dx, fs, _, rfl, J.os, J.bare, J.base, J.hok, upd_same, by rw [upd_ne nd]; exact hdx, ⟨t, T, oT, ts, l.exc, h4, Nat.le_trans I.sz l.new, ?_, h1, h2, h3⟩, q⟩
  rw [upd_ne h4]; exact nT
theorem passE : Passes (CXE P w) (cxOf (CXE P w) P w K mg base N qual scope f cd A outer s0 H0 E) E := by
  intro pins σ H s e s' I h
  obtain ⟨x, C, dx, fs, H', rfl, os, bare, un, hok, hx, hdx, ⟨t, T, oT, ts, h1, h2, _, h4, h5, h6, h7⟩, q⟩ := h
  have J := I.call' os un hok bare (fun b z => absurd z (by simp))
  refine xe_of J hx ⟨_, rfl⟩ hdx h1 (.inr ⟨T, oT, ts, rfl, h2, h5, h6, h7⟩) ?_
  rw [upd_id hx]
  exact q
end
end My
set_option Elab.async false
set_option linter.all false
set_option maxRecDepth 100000
set_option maxHeartbeats 1000000
namespace My
open PySem PySem.W L2
open PyProof.Rows (AllBare)
section
variable {prog : Program} {w : World} {A : Around} {E : Value → Shared → Prop} {s : Shared} {env : Env} {x : Sem Value} {Q : Flow → Shared → Prop} {K : Frag} {C : Addr}
theorem wp_raise (T : ErrI K C) (ht : typeIn K (.ref C) = some (.type "type")) (hA : A.handled = none)
    (hx : wpAny (model prog w) A x (fun v s1 => ∃ e t d od, v = .ref e ∧ InstAt s1.heap e (errAt C d t) C od ∧ K.In s1.heap ∧ E (.ref e) s1) E s) : wpAny (model prog w) A (raiseStmt env (some x) none) Q E s := by
  unfold raiseStmt
  refine wpAny_bind (wpAny_mono hx (fun v s1 h => ?_) (fun _ _ z => z))
  obtain ⟨e, t, d, od, rfl, I, KX, q⟩ := h
  obtain ⟨hp, g, dr, tk, os⟩ := s1
  have noC : ∀ c : ClassData, (errAt C d t).data ≠ Data.cls c := fun c z => by cases z
  refine wpAny_bind (wpAny_pure ?_)
  refine wpAny_bind ?_
  show wpAny _ _ (excFromValue (.ref e) _) _ _ _
  unfold excFromValue
  refine wpAny_bind ?_
  unfold isExcClass
  refine wpAny_bind (ks_wpAny_isType_inst I.at_ noC ?_)
  refine wpAny_ite_false rfl (wpAny_pure ?_)
  refine wpAny_ite_false rfl ?_
  refine wpAny_bind ?_
  have sub : Looks (model prog w) hp (isInstance (.ref e) (.type "BaseException")) true := I.type.andThen (looks_mroIn KX T.mb)
  refine Looks.here (s := ⟨hp, g, dr, tk, os⟩) sub ?_
  refine wpAny_ite_true rfl (wpAny_pure ?_)
  refine wpAny_bind (ks_wpAny_isType_inst I.at_ noC ?_)
  refine wpAny_ite_false rfl ?_
  refine wpAny_bind ?_
  unfold raisedInstance
  refine wpAny_bind (Looks.here (s := ⟨hp, g, dr, tk, os⟩) I.type ?_)
  refine wpAny_bind (Looks.here (s := ⟨hp, g, dr, tk, os⟩) (looks_typeIn KX ht) ?_)
  refine wpAny_ite_true rfl (wpAny_pure ?_)
  refine wpAny_bind ?_
  unfold setFlight
  refine wpAny_bind (wpAny_field I.at_ rfl rfl ?_)
  refine wpAny_ite_false rfl (wpAny_pure ?_)
  exact wpAny_raiseNew_none hA q
end
theorem ErrC.type {K : Frag} {D : Addr} {nm : Str} {C f : Addr} (T : ErrC K D nm C f) : typeIn K (.ref C) = some (.type "type") := by
  obtain ⟨q, N, bs, sn, sub, ab, col, dd, k0, k1, k2, k3, k5, l⟩ := T.cls
  show (K.lookup C).map (fun o => o.cls) = _
  rw [l]
  rfl
def qR (E : XK) (C : Addr) : VK := fun y H' => ∃ x dx fs, y = .ref x ∧ H' x = some (ErrO x C (some dx)) ∧ H' dx = some (.xd fs) ∧ E (.ref C) (some x) (upd H' x (ErrT x C (some dx)))
def tRaise (E : XK) (C : Addr) (fld : Str) (te : TE) : TS := fun _ σ H => tErr C fld te σ H (qR E C)
theorem upd_upd {H : Hp} {x : Addr} {a b : HO} : upd (upd H x a) x b = upd H x b := by
  funext z
  unfold upd
  by_cases h : z = x
  · rw [if_pos h, if_pos h]
  · rw [if_neg h, if_neg h, if_neg h]
section
variable {P : Program} {w : World} {K : Frag} {mg : Str → Option Value} {base : Heap} {N : List Str} {qual : Str} {scope : Scope} {f : Addr} {cd : Value} {A : Around} {outer : List Env} {s0 : Shared} {H0 : Hp} {E : XK}
abbrev cxE (P : Program) (w : World) (K : Frag) (mg : Str → Option Value) (base : Heap) (N : List Str) (qual : Str) (scope : Scope) (f : Addr) (cd : Value) (A : Around) (outer : List Env) (s0 : Shared) (H0 : Hp) (E : XK) : Cx := cxOf (CXE P w) P w K mg base N qual scope f cd A outer s0 H0 E
theorem ps_raise {D C fI : Addr} {nm fld x : Str} {k : Nat} {fd : FuncData} {ps : List Str} {e : Expr} {te : TE} {p pos pos' : Pos} (B : BaseC K D) (T : ErrC K D nm C fI) (F : FnOk P w K mg base CX0 k fI fd ps (spErr C fld)) (hr : Room (k + 1) (cxE P w K mg base N qual scope f cd A outer s0 H0 E).A) (hb : Binds K fd ps [])
    (hg : Gl (cxE P w K mg base N qual scope f cd A outer s0 H0 E) x) (hm : mg x = some (.ref C)) (ha : PE (cxE P w K mg base N qual scope f cd A outer s0 H0 E) e te)
    (hdb : (x == ("__debug__" : Str)) = false := by decide) (he : starEach [e] (cxE P w K mg base N qual scope f cd A outer s0 H0 E).env = (false, eval e (cxE P w K mg base N qual scope f cd A outer s0 H0 E).env) :: starEach [] (cxE P w K mg base N qual scope f cd A outer s0 H0 E).env := by rfl) (hpl : (backTo pos (starEach [] (cxE P w K mg base N qual scope f cd A outer s0 H0 E).env)).any (·.1) = false := by rfl) :
    PS (cxE P w K mg base N qual scope f cd A outer s0 H0 E) (.Raise (some (.Call (.Name x p) [e] [] pos)) none pos') (tRaise E C fld te) := by
  intro pins s σ H D' I h
  have pe := pe_err (X := cxE P w K mg base N qual scope f cd A outer s0 H0 E) (p := p) (pos := pos) B T F hr hb hg hm ha hdb he hpl
  have hd : (cxE P w K mg base N qual scope f cd A outer s0 H0 E).A.handled = none := I.ok.hd rfl
  rw [arm_exec_Raise]
  refine wpAny_bind (wpAny_standAt ?_)
  refine wp_raise T.it T.type hd ?_
  refine wpAny_bind (thn (pe pins s σ H (qR E C) I h) fun u s1 h1 => ?_)
  obtain ⟨y, H1, I1, ry, x, dx, fs, rfl, e1, e2, q⟩ := h1
  refine wpAny_bind (wpAny_standAt (wpAny_pure ?_))
  obtain ⟨t, ht⟩ := errO_at I1.hok e1
  obtain ⟨ox, od, J, _⟩ := err_inst I1.hok e1 e2
  have eo : ox = errAt C (some dx) t := Option.some.inj (J.at_.symm.trans ht)
  subst eo
  exact ⟨x, t, some dx, some od, ry, J, I1.kIn, xe_of I1 e1 ⟨_, rfl⟩ e2 ht (.inl rfl) q⟩
theorem qR_of {C x dx : Addr} {fld : Str} {v : V} {H1 : Hp} (nd : dx ≠ x) (q : E (.ref C) (some x) (upd (upd H1 dx (.xd [(fld, v)])) x (ErrT x C (some dx)))) : qR E C (.ref x) (upd (upd H1 dx (.xd [(fld, v)])) x (ErrO x C (some dx))) :=
  ⟨x, dx, _, rfl, upd_same, by rw [upd_ne nd, upd_same], by rw [upd_upd]; exact q⟩
theorem okE {x qual : Str} {st : Stmt} {f : Addr} {fd : FuncData} {N ps : List Str} {k : Nat} {sp : Sp} (F : Fun K x qual st f fd) (S : FnScope N ps (defScope st)) (len : ∀ vs H Q E, sp vs H Q E → vs.length = ps.length)
    (hbody : ∀ (cdv : Value) (A : Around) (outer : List Env) (s : Shared) (H : Hp) (vs : List V) (Q : VK) (E : XK), Room k (A.deeper (PyProof.Rows.envOfC qual (defScope st) s.heap.objs.size f cdv)) → sp vs H Q E →
      ∃ t, PSs (cxE P w K mg base N qual (defScope st) f cdv A outer s H E) (defBody st) t ∧ t { nx := fun _ H' => Q .non H', rt := Q } (start N vs) H) : FnOk P w K mg base (CXE P w) (k + 1) f fd ps sp := by
  obtain ⟨oc, od, kV, doc, pm, an, cdv, ct, osl, rfl, lk, hcd⟩ := F.ex
  refine fn_of lk hcd S len fun A outer s H vs Q E hr hsp => ?_
  obtain ⟨t, h, q⟩ := hbody cdv A outer s H vs Q E hr hsp
  exact ⟨t, h, q⟩
end
end My
set_option Elab.async false
set_option linter.all false
set_option maxRecDepth 100000
set_option maxHeartbeats 1000000
namespace My
open PySem PySem.W L2
open PyProof.Rows (AllBare)
def PX (X : Cx) (σ : St) (e : Expr) (t : TE) : Prop := ∀ (pins : List (Addr × Obj)) (s : Shared) (H : Hp) (Q : VK), Inv X pins σ H s → t σ H Q → wpAny (model X.prog X.w) X.A (eval e X.env) (EP X pins σ Q) X.xe s
def PXA (X : Cx) (σ : St) (es : List Expr) (t : TA) : Prop := ∀ (pos : Pos) (pins : List (Addr × Obj)) (s : Shared) (H : Hp) (Q : List V → Hp → Prop), Inv X pins σ H s → t σ H Q → wpAny (model X.prog X.w) X.A (spliced (backTo pos (starEach es X.env))) (AP X pins σ Q) X.xe s
section
variable {X : Cx} {σ : St} {e : Expr} {es : List Expr} {te : TE} {t : TA} {pos : Pos}
theorem pxa_of (h : PA X es t) : PXA X σ es t := fun pos pins s H Q I q => h pos pins s σ H Q I q
def PassX (CX : CXT) (X : Cx) (σ : St) (E : XK) : Prop := ∀ (pins : List (Addr × Obj)) (H : Hp) (s : Shared) (e : Value) (s' : Shared), Inv X pins σ H s → CX X.stack H s E e s' → X.xe e s'
variable {CX : CXT} {k : Nat} {f C : Addr} {fd : FuncData} {ps : List Str} {sp : Sp} {dvs : List V} {ds : List Value} {E : XK} {x : Str} {p : Pos}
theorem run_fnX {pins : List (Addr × Obj)} {H : Hp} {s : Shared} {Q : VK} {us : List Value} {vs : List V} (F : FnOk X.prog X.w X.K X.mg X.base CX k f fd ps sp) (hr : Room k X.A) (hb : Binds X.K fd ps ds) (hd : Vals dvs ds) (hx : PassX CX X σ E)
    (I : Inv X pins σ H s) (r : Vals vs us) (h : sp (vs ++ dvs) H Q E) : wpAny (model X.prog X.w) X.A (call (.ref f) us) (EP X pins σ Q) X.xe s := by
  have r2 : Vals (vs ++ dvs) (us ++ ds) := r.append hd
  have hl : (us ++ ds).length = ps.length := by rw [← r2.length]; exact F.len _ _ _ _ h
  refine wpAny_call (codeAny_mono (F.run X.A X.stack s H ⟨us, []⟩ (us ++ ds) (vs ++ dvs) Q E hr I.env0 (hb s us I.kIn hl) r2 h) fun r s' hq => ?_)
  cases r with
  | error e => exact hx pins H s e s' I hq
  | ok fl =>
    cases fl with
    | ret u => exact I.after hq
    | next => exact False.elim hq
    | brk => exact False.elim hq
    | cont => exact False.elim hq
theorem px_call (F : FnOk X.prog X.w X.K X.mg X.base CX k f fd ps sp) (hr : Room k X.A) (hg : Gl X x) (hm : X.mg x = some (.ref f)) (hk : PySem.W.keepIn X.K (.ref f) = true) (hb : Binds X.K fd ps ds) (hd : Vals dvs ds) (hx : PassX CX X σ E)
    (ha : PXA X σ (e :: es) t) (hdb : (x == ("__debug__" : Str)) = false := by decide) (he : starEach (e :: es) X.env = (false, eval e X.env) :: starEach es X.env := by rfl) (hpl : (backTo pos (starEach es X.env)).any (·.1) = false := by rfl) :
    PX X σ (.Call (.Name x p) (e :: es) [] pos) (tCall sp dvs E t) := by
  intro pins s H Q I h
  refine wpAny_Call_Name_kw (ld_glob I hg hm ?_ hdb)
  refine PySem.W.callWith_K (h₀ := X.base) I.ok.mod.kin hk (thn (ha pos pins s H _ I h) fun us s1 ⟨vs, H1, I1, r, q⟩ => ⟨I1.kIn, ?_⟩) he hpl
  exact run_fnX F hr hb hd hx I1 r q
end
section
variable {prog : Program} {w : World} {A : Around} {E : Value → Shared → Prop} {s : Shared} {K : Frag} {C D e : Addr} {Q : Bool → Shared → Prop} {ox : Obj} {od : Option Obj} {b : Bool}
theorem wp_matches (KX : K.In s.heap) (hD : ∃ cd, clsIn K D = some cd) (hT : typeIn K (.ref D) = some (.type "type")) (hB : mroIn K D (.type "BaseException") = some true) (I : InstAt s.heap e ox C od) (hC : mroIn K C (.ref D) = some b) (q : Q b s) : wpAny (model prog w) A (excMatches (.ref e) (.ref D)) Q E s := by
  unfold excMatches
  have L1 : Looks (model prog w) s.heap (isInstance (.ref D) (.type "tuple")) false := (looks_typeIn KX hT).andThen (Looks.of_pure rfl)
  refine wpAny_bind (Looks.here L1 ?_)
  refine wpAny_ite_false rfl ?_
  refine wpAny_bind (wpAny_pure ?_)
  refine wpAny_bind ?_
  obtain ⟨cd, hc⟩ := hD
  obtain ⟨hp, g, dr, tk, os⟩ := s
  obtain ⟨oD, hoD, hdD⟩ : ∃ oD, K.lookup D = some oD ∧ oD.data = .cls cd := by
    unfold clsIn at hc
    split at hc
    · rename_i h
      exact ⟨_, h, by cases hc; rfl⟩
    · cases hc
  rw [List.forIn_cons]
  refine wpAny_bind (wpAny_bind ?_)
  unfold isExcClass
  refine wpAny_bind (ks_wpAny_isType_cls (KX _ _ hoD) hdD ?_)
  refine wpAny_ite_true rfl ?_
  refine Looks.here (s := ⟨hp, g, dr, tk, os⟩) (looks_mroIn KX hB) ?_
  refine wpAny_ite_false rfl (wpAny_pure ?_)
  show wpAny _ _ (forIn ([] : List Value) PUnit.unit _) _ _ _
  rw [List.forIn_nil]
  refine wpAny_pure ?_
  refine wpAny_bind (Looks.here (s := ⟨hp, g, dr, tk, os⟩) I.type ?_)
  refine wpAny_bind ?_
  rw [List.forIn_cons]
  refine wpAny_bind (wpAny_bind (Looks.here (s := ⟨hp, g, dr, tk, os⟩) (looks_mroIn KX hC) ?_))
  cases b with
  | true =>
    refine wpAny_ite_true rfl (wpAny_pure ?_)
    exact wpAny_pure (wpAny_pure q)
  | false =>
    refine wpAny_ite_false rfl (wpAny_pure ?_)
    show wpAny _ _ (forIn ([] : List Value) _ _) _ _ _
    rw [List.forIn_nil]
    exact wpAny_pure (wpAny_pure q)
end
end My
set_option Elab.async false
set_option linter.all false
set_option maxRecDepth 100000
set_option maxHeartbeats 1000000
namespace My
open PySem PySem.W L2
open PyProof.Rows (AllBare)
def PXS (X : Cx) (σ : St) (st : Stmt) (t : TS) : Prop := ∀ (pins : List (Addr × Obj)) (s : Shared) (H : Hp) (D : Ends), Inv X pins σ H s → t D σ H → wpAny (model X.prog X.w) X.A (exec st X.env) (SP X pins D) X.xe s
section
variable {X : Cx} {σ : St} {e : Expr} {te : TE} {pos : Pos}
end
abbrev tryCx (X : Cx) (pn : List (Addr × Obj)) (xe : Value → Shared → Prop) : Cx := { X with pn := pn, xe := xe }
abbrev exCx (X : Cx) (x : Addr) : Cx := { X with A := X.A.mark (some (.ref x)), calm := false, xe := fun _ _ => False }
section
variable {X : Cx} {pins pins' pn : List (Addr × Obj)} {σ : St} {H : Hp} {s : Shared} {xe : Value → Shared → Prop} {x : Addr}
theorem Ok.toTry (ok : X.Ok) : (tryCx X pn xe).Ok := ⟨ok.mod, ok.kind, ok.glob, ok.blt, ok.above, ok.inj, ok.has, ok.cab, ok.hd, ok.frames, ok.stk, ok.exf, ok.bs, ok.bsz, ok.noex, ok.exfs, ok.funs, ok.frf⟩
theorem Ok.ofTry (ok : (tryCx X pn xe).Ok) : X.Ok := ⟨ok.mod, ok.kind, ok.glob, ok.blt, ok.above, ok.inj, ok.has, ok.cab, ok.hd, ok.frames, ok.stk, ok.exf, ok.bs, ok.bsz, ok.noex, ok.exfs, ok.funs, ok.frf⟩
theorem Inv.toTry (I : Inv X pins σ H s) : Inv (tryCx X (X.pn ++ pins) xe) [] σ H s :=
  ⟨Ok.toTry I.ok, I.os, I.bare, I.base, I.loc, I.cell, I.free, I.freeC, fun p hp => I.pin p (by rw [List.append_nil] at hp; exact hp), I.hok, I.len⟩
theorem Inv.ofTry (I : Inv (tryCx X (X.pn ++ pins) xe) pins' σ H s) : Inv X pins σ H s :=
  ⟨Ok.ofTry I.ok, I.os, I.bare, I.base, I.loc, I.cell, I.free, I.freeC, fun p hp => I.pin p (List.mem_append_left _ hp), I.hok, I.len⟩
theorem Inv.toEx (I : Inv X pins σ H s) : Inv (exCx X x) pins σ H s :=
  ⟨⟨I.ok.mod, I.ok.kind, I.ok.glob, I.ok.blt, I.ok.above, I.ok.inj, I.ok.has, I.ok.cab, fun z => Bool.noConfusion z, I.ok.frames, I.ok.stk, I.ok.exf, I.ok.bs, I.ok.bsz, I.ok.noex, I.ok.exfs, I.ok.funs, I.ok.frf⟩, I.os, I.bare, I.base, I.loc, I.cell, I.free, I.freeC, I.pin, I.hok, I.len⟩
theorem Inv.ofEx (ok : X.Ok) (I : Inv (exCx X x) pins σ H s) : Inv X pins σ H s := ⟨ok, I.os, I.bare, I.base, I.loc, I.cell, I.free, I.freeC, I.pin, I.hok, I.len⟩
theorem SP.ofEx {D : Ends} {f : Flow} (ok : X.Ok) (h : SP (exCx X x) pins D f s) : SP X pins D f s := by
  cases f with
  | next => obtain ⟨σ', H', I, q⟩ := h; exact ⟨σ', H', Inv.ofEx ok I, q⟩
  | brk => obtain ⟨σ', H', I, q⟩ := h; exact ⟨σ', H', Inv.ofEx ok I, q⟩
  | cont => obtain ⟨σ', H', I, q⟩ := h; exact ⟨σ', H', Inv.ofEx ok I, q⟩
  | ret u => obtain ⟨v, σ', H', I, r, q⟩ := h; exact ⟨v, σ', H', Inv.ofEx ok I, r, q⟩
theorem SP.ofTry {D : Ends} {f : Flow} (h : SP (tryCx X (X.pn ++ pins) xe) pins' D f s) : SP X pins D f s := by
  cases f with
  | next => obtain ⟨σ', H', I, q⟩ := h; exact ⟨σ', H', Inv.ofTry I, q⟩
  | brk => obtain ⟨σ', H', I, q⟩ := h; exact ⟨σ', H', Inv.ofTry I, q⟩
  | cont => obtain ⟨σ', H', I, q⟩ := h; exact ⟨σ', H', Inv.ofTry I, q⟩
  | ret u => obtain ⟨v, σ', H', I, r, q⟩ := h; exact ⟨v, σ', H', Inv.ofTry I, r, q⟩
theorem unbind_ok {M : Model} {A : Around} {E : Value → Shared → Prop} {i : Nat} {n : Str} {v : V} {Q : Unit → Shared → Prop} (I : Inv X pins σ H s) (hN : X.N.Nodup) (hi : X.N[i]? = some n) (hk : X.env.scope.names.lookup n = some .local) (hv : σ[i]? = some (some v))
    (h : ∀ s', Inv X pins (σ.set i none) H s' → Q () s') : wpAny M A (unbindName X.env n) Q E s := by
  obtain ⟨m, hn, hl⟩ := id I.loc
  have hcls : (X.env.scope.kind == .class || (X.env.scope.kind == .module && X.env.locals != X.env.globals)) = false := by rw [I.ok.kind]; rfl
  have hiσ : i < σ.length := by rw [I.len]; exact (List.getElem?_eq_some_iff.mp hi).1
  obtain ⟨u, _, lk⟩ := hl i n v hi hv (.inl hk)
  have mu : m n = some u := by
    rcases lk with ⟨_, z⟩ | ⟨z, _⟩
    · exact z
    · have k' : X.env.kindOf n = some .local := hk
      rcases z with z | z <;> (rw [k'] at z; cases z)
  have cne := I.cne
  refine wpAny_unbindName_local hk hn mu hcls fun h' u' hn' hs => ?_
  obtain ⟨oL, _, _, hoL, _⟩ := id hn
  have tracked : HOk X.prog X.w H h' := fun b ob e => by
    refine (I.hok b ob e).stay (fun c w' hc q => (hs.2 c ?_).trans q) (fun _ q => q) fun _ _ q => q
    rintro rfl
    rcases hc with rfl | hc
    · rw [I.free] at e; cases e
    · rw [I.free] at hc; cases hc
  refine h _ ⟨I.ok, I.os, I.bare, ⟨fun b o e n hb hx => ?_, fun b o e n hb hx => ?_, I.base.free, fun b o e hx => ?_, I.base.tups, I.base.frzs, I.base.tbls, I.base.sys⟩, ⟨_, hn', fun j y v' e1 e2 e3 => ?_⟩, fun y c e => ?_, I.free, I.freeC, fun p hp => ?_, tracked, by simpa using I.len⟩
  · exact (hs.2 b (Nat.ne_of_lt (Nat.lt_of_lt_of_le (Heap.lt_size e) I.ok.above))).trans (I.base.keep b o e n hb hx)
  · obtain ⟨sl, e1⟩ := I.base.slot b o e n hb hx
    exact ⟨sl, (hs.2 b (Nat.ne_of_lt (Nat.lt_of_lt_of_le (Heap.lt_size e) I.ok.above))).trans e1⟩
  · obtain ⟨o', e1⟩ := I.base.there b o e hx
    exact ⟨o', (hs.2 b (Nat.ne_of_lt (Nat.lt_of_lt_of_le (Heap.lt_size e) I.ok.above))).trans e1⟩
  · by_cases hj : j = i
    · subst hj
      rw [List.getElem?_set_self hiσ] at e2
      cases e2
    · rw [List.getElem?_set_ne (Ne.symm hj)] at e2
      obtain ⟨u2, r', q⟩ := hl j y v' e1 e2 e3
      refine ⟨u2, r', ?_⟩
      rcases q with ⟨k, e⟩ | ⟨k, c, e, z⟩
      · refine .inl ⟨k, ?_⟩
        have : y ≠ n := fun e => hj (nodup_ix hN e1 (e ▸ hi))
        simp [this, e]
      · exact .inr ⟨k, c, e, z.sameBut hs (cne y c e)⟩
  · obtain ⟨w', z⟩ := I.cell y c e
    exact ⟨w', z.sameBut hs (cne y c e)⟩
  · obtain ⟨e, n, ne, nf, d⟩ := I.pin p hp
    exact ⟨(hs.2 p.1 ne).trans e, n, ne, nf, d⟩
end
structure Catch (K : Frag) (D : Addr) : Prop where
  cls : ∃ cd, clsIn K D = some cd
  ty : typeIn K (.ref D) = some (.type "type")
  mb : mroIn K D (.type "BaseException") = some true
def unEnds (D : Ends) (i : Nat) : Ends := ⟨fun σ H => D.nx (σ.set i none) H, D.rt, fun σ H => D.bk (σ.set i none) H, fun σ H => D.ct (σ.set i none) H⟩
def eTry (K : Frag) (B : Addr) (i : Nat) (th : TS) (D : Ends) (σ : St) : XK := fun c o H' => ∃ x C, c = .ref C ∧ o = some x ∧ mroIn K C (.ref B) = some true ∧ th (unEnds D i) (σ.set i (some (.ref x))) H'
def tTry (K : Frag) (B : Addr) (i : Nat) (tb : XK → TS) (th : TS) : TS := fun D σ H => tb (eTry K B i th D σ) D σ H
end My
set_option Elab.async false
set_option linter.all false
set_option maxRecDepth 100000
set_option maxHeartbeats 1000000
namespace My
open PySem PySem.W L2
open PyProof.Rows (AllBare)
section
variable {X : Cx} {pins : List (Addr × Obj)} {σ : St} {H : Hp} {s : Shared}
theorem name_goes {i : Nat} {n : Str} {pos : Pos} {E : Value → Shared → Prop} {D : Ends} {f : Flow} (ok : X.Ok) (hN : X.N.Nodup) (hi : X.N[i]? = some n) (hk : X.env.scope.names.lookup n = some .local) (h : SP X pins (unEnds D i) f s) :
    wpAny (model X.prog X.w) X.A (do
      bindName X.env n .none
      unbindBehindTheSuite X.env n pos) (fun _ s' => SP X pins D f s') E s := by
  have go : ∀ {σ' : St} {H' : Hp}, Inv X pins σ' H' s → (∀ s', Inv X pins (σ'.set i none) H' s' → SP X pins D f s') → wpAny (model X.prog X.w) X.A (do
      bindName X.env n .none
      unbindBehindTheSuite X.env n pos) (fun _ s' => SP X pins D f s') E s := fun {σ' H'} I q => by
    have hiσ : i < σ'.length := by rw [I.len]; exact (List.getElem?_eq_some_iff.mp hi).1
    refine wpAny_bind (wpAny_bindName (store_ok I hN hi (.inl hk) (v := V.non) (u := Value.none) rfl (fun s1 I1 => ?_) (.inr hk)))
    unfold unbindBehindTheSuite
    refine wpAny_onRaise (unbind_ok (v := V.non) I1 hN hi hk (List.getElem?_set_self hiσ) fun s2 I2 => ?_)
    rw [List.set_set] at I2
    exact q s2 I2
  cases f with
  | next => obtain ⟨σ', H', I, q⟩ := h; exact go I fun s' I' => ⟨_, H', I', q⟩
  | brk => obtain ⟨σ', H', I, q⟩ := h; exact go I fun s' I' => ⟨_, H', I', q⟩
  | cont => obtain ⟨σ', H', I, q⟩ := h; exact go I fun s' I' => ⟨_, H', I', q⟩
  | ret u => obtain ⟨v, σ', H', I, r, q⟩ := h; exact go I fun s' I' => ⟨v, _, H', I', r, q⟩
end
section
variable {X : Cx} {pins : List (Addr × Obj)} {σ : St} {H : Hp} {s : Shared}
theorem errT_inst {P : Program} {w : World} {H : Hp} {h : Heap} {a C dx : Addr} {fs : List (Str × V)} (ok : HOk P w H h) (ea : H a = some (ErrT a C (some dx))) (ed : H dx = some (.xd fs)) :
    ∃ (ox od : Obj), InstAt h a ox C (some od) ∧ ∃ mA : Str → Option Value, (∀ f, RelO (fs.lookup f) (mA f)) ∧ ∀ name, lookIn name od = some (mA name) := by
  obtain ⟨t, v, hx⟩ := errT_at ok ea
  obtain ⟨mA, hn, hr⟩ := (show ObjOk P w H h dx (.xd fs) from ok dx _ ed)
  obtain ⟨od, hod, hl⟩ := lookIn_ns hn
  exact ⟨_, od, ⟨hx, rfl, rfl, hod⟩, mA, hr, hl⟩
def tErrFT (K : Frag) (ta : TE) (f : Str) : TE := fun σ H Q => ta σ H fun x H1 => ∃ a C dx fs v, x = .ref a ∧ H1 a = some (ErrT a C (some dx)) ∧ H1 dx = some (.xd fs) ∧ fs.lookup f = some v ∧ ErrI K C ∧ hasDictIn K C = true ∧ findIn K (.ref C) f = some none ∧ Q v H1
theorem pe_errFT {e : Expr} {ta : TE} {f : Str} {pos : Pos} (he : PE X e ta) (hb : attributeBase e f X.env (eval e X.env) = eval e X.env) : PE X (.Attribute e f pos) (tErrFT X.K ta f) := by
  intro pins s σ H Q I h
  refine attr_of hb (thn (he pins s σ H _ I h) fun u s1 ⟨x, H1, I1, rx, a, C, dx, fs, v, ex, ea, ed, l, T, hd, nf, q⟩ => ?_)
  subst ex
  obtain rfl : u = Value.ref a := rx
  obtain ⟨ox, od, J, mA, hr, hl⟩ := errT_inst I1.hok ea ed
  obtain ⟨u, eu, ru⟩ := RelO.some_of (l ▸ hr f)
  exact getExc I1.kIn J T.ga T.hk T.mb (findObj_own hd nf rfl (by rw [hl, eu])) (handed_of ru) ⟨v, H1, I1.tok _, ru, q⟩
def rIsT1 (K : Frag) : List V → Hp → VK → Prop := fun vs H Q => ∃ a C dx fs c b, vs = [.ref a, c] ∧ H a = some (ErrT a C (some dx)) ∧ H dx = some (.xd fs) ∧ ErrI K C ∧ ((∃ z, c = .ref z) ∨ ∃ n, c = .ty n) ∧ kitOne K (.ref C) (isV c) = some b ∧ Q (.bl b) H
theorem call_isT1 (N : IsT X.K) : CallR X (.builtin "isinstance") (rIsT1 X.K) := by
  intro pins s σ H xs us Q I r h
  obtain ⟨a, C, dx, fs, c, b, rfl, ea, ed, T, hc, e, q⟩ := h
  obtain ⟨u, u', rfl, ru, ru'⟩ := vals2 r
  cases (show u = Value.ref a from ru)
  have ec : u' = isV c := by
    rcases hc with ⟨z, rfl⟩ | ⟨n, rfl⟩
    · exact ru'
    · exact ru'
  subst ec
  obtain ⟨ox, od, J, _⟩ := errT_inst I.hok ea ed
  exact kia_one (kitErr T N.gt N.tk) I.kIn ⟨ox, some od, J⟩ e (fun z => nomatch z) fun tk => ⟨.bl b, H, I.tok _, rfl, q⟩
def rIsTn (K : Frag) : List V → Hp → VK → Prop := fun vs H Q => ∃ (a C dx : Addr) (fs : List (Str × V)) (p : Addr) (cs : List Addr) (b : Bool), vs = [.ref a, .ref p] ∧ H a = some (ErrT a C (some dx)) ∧ H dx = some (.xd fs) ∧ ErrI K C ∧ H p = some (.tup (cs.map V.ref)) ∧ kitAny K (.ref C) (cs.map Value.ref) = some b ∧ Q (.bl b) H
theorem vals_refs : ∀ {cs : List Addr} {us : List Value}, Vals (cs.map V.ref) us → us = cs.map Value.ref
  | [], _, .nil => rfl
  | c :: cs, _, .cons r t => by
    rw [vals_refs t]
    cases (show _ = Value.ref c from r)
    rfl
theorem call_isTn (N : IsT X.K) : CallR X (.builtin "isinstance") (rIsTn X.K) := by
  intro pins s σ H xs us Q I r h
  obtain ⟨a, C, dx, fs, p, cs, b, rfl, ea, ed, T, hp, e, q⟩ := h
  obtain ⟨u, u', rfl, ru, ru'⟩ := vals2 r
  cases (show u = Value.ref a from ru)
  cases (show u' = Value.ref p from ru')
  obtain ⟨ox, od, J, _⟩ := errT_inst I.hok ea ed
  obtain ⟨_, its, rv, ⟨o, h1, h2, n, h3⟩⟩ := (show ObjOk X.prog X.w H s.heap p (.tup (cs.map V.ref)) from I.hok p _ hp)
  have ei := vals_refs rv
  subst ei
  obtain ⟨c0, d0, dt0, sl0⟩ := o
  have hc0 : c0 = .type "tuple" := h2
  have hd0 : dt0 = .seq (cs.map Value.ref).toArray n := h3
  subst hc0
  subst hd0
  exact kia_tup (kitErr T N.gt N.tk) I.kIn ⟨ox, some od, J⟩ h1 e (fun z => nomatch z) fun tk => ⟨.bl b, H, I.tok _, rfl, q⟩
end
theorem ps_try {X : Cx} {st : Stmt} {tb : XK → TS} {th : TS} {B : Addr} {n cn : Str} {i : Nat} {b₀ : Stmt} {suite : List Stmt} {pc ph pos : Pos} (hS : X.stack = X.env :: X.outer) (hL : X.env.frame = some X.env.locals) (hc : X.calm = true) (hN : X.N.Nodup) (hi : X.N[i]? = some n)
    (hk : X.env.scope.names.lookup n = some .local) (cB : Catch X.K B) (hg : Gl X cn) (hm : X.mg cn = some (.ref B)) (hb : ∀ (σ : St) (E : XK) (pn : List (Addr × Obj)) (xe : Value → Shared → Prop), PassX (CXE X.prog X.w) (tryCx X pn xe) σ E → PXS (tryCx X pn xe) σ st (tb E)) (hh : ∀ x, PSs (exCx X x) (b₀ :: suite) th)
    (hdb : (cn == ("__debug__" : Str)) = false := by decide) :
    PS X (.Try [st] [.ExceptHandler (some (.Name cn pc)) (some n) (b₀ :: suite) ph] [] [] pos) (tTry X.K B i tb th) := by
  intro pins s σ H D I h
  refine wpAny_Try_except ?_
  have px := hb σ (eTry X.K B i th D σ) (X.pn ++ pins) (fun e s₁ => wpAny (model X.prog X.w) X.A (noteFrame e X.env) (fun _ s₂ => wpAny (model X.prog X.w) X.A (setFlight e none) (fun _ s₃ => wpAny (model X.prog X.w) X.A (handleBy e X.env [.ExceptHandler (some (.Name cn pc)) (some n) (b₀ :: suite) ph]) (SP X pins D) X.xe s₃) X.xe s₂) X.xe s₁) ?_
  · refine wpAny_execs_cons (thn (px [] s H D (Inv.toTry I) h) fun f s1 q => ?_)
    cases f with
    | next => exact wpAny_execs_nil (wpAny_execs_nil (SP.ofTry (f := .next) q))
    | ret v => exact SP.ofTry (f := .ret v) q
    | brk => exact SP.ofTry (f := .brk) q
    | cont => exact SP.ofTry (f := .cont) q
  intro pins' H1 s1 ev s' I1 h1
  obtain ⟨x, C, dx, fs, H', rfl, os, bare, un, hok, hx, hdx, ⟨t, T, oT, ts, e1, e2, _, e4, e5, e6, e7⟩, x', C', ec, eo, hm', q⟩ := h1
  cases ec
  cases eo
  have J : Inv X pins σ H' s' := Inv.ofTry (I1.call' os un hok bare (fun b z => absurd z (by simp)))
  have hA : X.A.frames = some (X.env :: X.outer) := by rw [← hS]; exact J.ok.frames
  have hF : s'.heap.FunFrames X.base (X.env :: X.outer) := by rw [← hS]; exact J.stack
  refine note_exact hA hF hL e1 rfl (.inr ⟨T, oT, ts, rfl, e2, e5, e6, e7⟩) fun h' T' l => ?_
  refine l.flight rfl (by show 1 < 6; decide) _ rfl fun h2 l2 => ?_
  have J2 := Inv.left J hS hx ⟨_, rfl⟩ e1 l2
  rw [upd_id hx] at J2
  have ex2 : h2.get? x = some (errW C (some dx) t (.ref T')) := l2.exc
  obtain ⟨oT', ts', f1, f2, f3, f4⟩ := l2.trc
  generalize hs2 : ({ s' with heap := h2 } : Shared) = s2 at J2
  have g2 : s2.heap = h2 := by rw [← hs2]
  rw [← g2] at ex2 f1
  refine wpAny_handleBy_cons ?_ (by intro z; cases z)
  refine codeAny_handlers_test ?_
  refine ld_glob (X := exCx X x) (Inv.toEx J2) hg hm ?_ hdb
  obtain ⟨ox, odd, JI⟩ : ∃ ox od, InstAt s2.heap x ox C od := by
    obtain ⟨ox, od, J, _⟩ := errT_inst J2.hok hx hdx
    exact ⟨ox, some od, J⟩
  refine wp_matches J2.kIn cB.cls cB.ty cB.mb JI hm' ?_
  show codeAny _ _ _ _ _
  refine codeAny_handlers_suite_as ?_
  have h3 : 3 < ts'.size := (Array.getElem?_eq_some_iff.mp f3).1
  refine wpAny_setFlight_none ex2 rfl rfl f1 f2 h3 ?_
  have J3 : Inv X pins σ H' { s2 with heap := s2.heap.update T' (Obj.mapFields fun x => x.setIfInBounds 3 Value.none) } := by
    refine J2.kept (t' := s2.toks) fun b u hb => ?_
    by_cases z : b = T'
    · subst z
      have e : oT' = u := Option.some.inj (f1.symm.trans hb)
      subst e
      rw [Heap.get?_update_self _ f1 (by rw [mapF f2]; rfl), mapF f2, set_same f3, ← f2]
    · rw [Heap.get?_update_ne _ _ _ _ z]; exact hb
  generalize ({ s2 with heap := s2.heap.update T' (Obj.mapFields fun x => x.setIfInBounds 3 Value.none) } : Shared) = s3 at J3
  refine store_ok (X := exCx X x) (Inv.toEx J3) hN hi (.inl hk) (v := V.ref x) (u := Value.ref x) rfl (fun s4 I4 => ?_) (.inr hk)
  refine wpAny_mono (hh x pins s4 _ H' (unEnds D i) I4 q) (fun f s5 q5 => ?_) (fun _ _ z => False.elim z)
  exact name_goes J3.ok hN hi hk (SP.ofEx J3.ok q5)
end My
set_option Elab.async false
set_option linter.all false
set_option maxRecDepth 100000
set_option maxHeartbeats 1000000
namespace My
open PySem PySem.W L2
open PyProof.Rows (AllBare)
abbrev TH := Addr → Addr → TS
def hNo (K : Frag) (B : Addr) (th : TS) (rest : TH) : TH := fun x C D σ H => ∃ b, mroIn K C (.ref B) = some b ∧ if b = true then th D σ H else rest x C D σ H
section
variable {X : Cx} {hs : List ExceptHandler} {rest : TH}
end
section
variable {X : Cx} {σ : St} {e : Expr} {te : TE} {pos : Pos}
theorem pxs_expr (he : PX X σ e te) (hs : swapsWith e none pos.line X.env = pure false := by rfl) : PXS X σ (.Expr e pos) (tDrop te) := by
  intro pins s H D I h
  exact wpAny_Expr_any (thn (he pins s H _ I h) fun v s1 ⟨x, H1, I1, r1, q1⟩ => ⟨σ, H1, I1, q1⟩) I.quiet hs
end
end My
set_option Elab.async false
set_option linter.all false
set_option maxRecDepth 100000
set_option maxHeartbeats 4000000
namespace My
open PySem L2
section
variable {X : Cx}
end
end My
set_option Elab.async false
set_option linter.all false
set_option maxRecDepth 100000
set_option maxHeartbeats 1000000
namespace My
open PySem L2
section
variable {X : Cx}
end
end My
set_option Elab.async false
set_option linter.all false
set_option maxRecDepth 100000
set_option maxHeartbeats 1000000
namespace My
open PySem L2
section
variable {X : Cx}
theorem in1_units {A : Around} : A.in1.units = A.units + 1 := rfl
end
end My
set_option Elab.async false
set_option linter.all false
set_option maxRecDepth 100000
set_option maxHeartbeats 1000000
namespace My
open PySem PySem.W L2
open PyProof.Rows (Call_ boot_enumerate)
section
variable {X : Cx} {pins : List (Addr × Obj)} {σ : St} {H : Hp} {s : Shared} {h' : Heap}
end
theorem nofree {o : Obj} {vs : Array Value} (d : o.data = .fields vs) : o.isFreed = false := by
  obtain ⟨c, dd, dt, sl⟩ := o
  cases d
  rfl
section
variable {X : Cx}
end
end My
set_option Elab.async false
set_option linter.all false
set_option maxRecDepth 100000
set_option maxHeartbeats 4000000
namespace My
open PySem L2
section
variable {prog : Program} {w : World} {A : Around} {R : Result → Shared → Prop} {s : Shared}
end
section
variable {X : Cx} {pins : List (Addr × Obj)} {σ : St} {H : Hp} {s : Shared} {sc : Scope} {cl : List (Str × Addr)} {x : Str} {zs : List Str} {js : List Nat} {C : Addr} {fp : List Addr}
end
section
variable {X : Cx} {sc : Scope} {cl : List (Str × Addr)} {x : Str} {zs : List Str} {js : List Nat} {elt iter : Expr} {px pos : Pos} {wi : TI} {te : TE}
end
end My
set_option Elab.async false
set_option linter.all false
set_option maxRecDepth 100000
set_option maxHeartbeats 1000000
namespace My
open PySem PySem.W L2
section
variable {K : Frag} {te : TE} {cap : St} {D : Addr} {H1 : Hp} {Q : Hp → Prop}
end
end My
set_option Elab.async false
set_option linter.all false
set_option maxRecDepth 100000
set_option maxHeartbeats 4000000
namespace My
open PySem L2 PySem.Calls PyProof.Rows
open PySem.Builtin.Str (occurrences partsBetween strSub)
section
variable {X : Cx}
section
variable {P : Program} {w : World} {K : PySem.W.Frag} {tg : Expr}
end
end
end My
set_option Elab.async false
set_option linter.all false
set_option maxRecDepth 100000
set_option maxHeartbeats 4000000
namespace My
open PySem L2
section
variable {prog : Program} {w : World} {A : Around} {R : Result → Shared → Prop} {s : Shared}
end
section
variable {X : Cx} {sc : Scope} {cl : List (Str × Addr)} {x : Str} {zs : List Str} {js : List Nat} {elt iter c : Expr} {px pos : Pos} {wi : TI} {te : TE} {tt : TT}
end
end My
set_option Elab.async false
set_option linter.all false
set_option maxRecDepth 100000
set_option maxHeartbeats 4000000
namespace My
open PySem L2
section
variable {X : Cx} {pins : List (Addr × Obj)} {σ : St} {H : Hp} {s : Shared} {sc : Scope} {cl : List (Str × Addr)} {ts zs : List Str} {js : List Nat} {C : Addr} {fp : List Addr}
end
section
variable {X : Cx} {sc : Scope} {cl : List (Str × Addr)} {ts zs : List Str} {js : List Nat} {elt iter : Expr} {pos : Pos} {tg : Expr} {g : TG} {wi : TI} {te : TE}
end
section
variable {X : Cx} {sc : Scope} {cl : List (Str × Addr)} {ts zs : List Str} {js : List Nat} {elt iter c : Expr} {pos : Pos} {tg : Expr} {g : TG} {wi : TI} {te : TE} {tt : TT}
end
end My
set_option Elab.async false
set_option linter.all false
set_option maxRecDepth 100000
set_option maxHeartbeats 1000000
namespace My
open PySem PySem.W L2
structure ClsFn (K : Frag) (D : Addr) (m : Str) (f : Addr) : Prop where
  ga : specialIn K (.ref D) "__getattribute__" = some (some (.builtin "type.__getattribute__"))
  reads : readsIn K D (.type "type") = true
  at_ : findCls K (.ref D) (.type "type") m = some (.val (.ref f))
  kp : keepIn K (.ref f) = true
section
variable {X : Cx} {CX : CXT} {k : Nat} {f D : Addr} {fd : FuncData} {ps : List Str} {sp : Sp} {E : XK} {x m : Str} {p pos apos : Pos} {e : Expr} {es : List Expr} {t : TA} {dvs : List V} {ds : List Value}
theorem pe_clsCall {pl : Sem Bool} (C : ClsFn X.K D m f) (F : FnOk X.prog X.w X.K X.mg X.base CX k f fd ps sp) (hr : Room k X.A) (hg : Gl X x) (hm : X.mg x = some (.ref D)) (hb : Binds X.K fd ps ds) (hd : Vals dvs ds) (hx : Passes CX X E) (ha : PA X (e :: es) t)
    (hdb : (x == ("__debug__" : Str)) = false := by decide) (hst : starEach (e :: es) X.env = (false, eval e X.env) :: starEach es X.env := by rfl) (hpl : (backTo pos (starEach es X.env)).any (·.1) = false := by rfl)
    (htr : eval (.Call (.Attribute (.Name x p) m apos) (e :: es) [] pos) X.env = (do
      let ov ← eval (.Name x p) X.env
      standAt apos.atName
      let (f, first) ← holding [ov] (getMethod ov m pl)
      callWith pos f first (backTo pos (starEach (e :: es) X.env)) (backToKw pos (keywordEach [] X.env))) := by rfl) :
    PE X (.Call (.Attribute (.Name x p) m apos) (e :: es) [] pos) (tCall sp dvs E t) := by
  intro pins s σ H Q I h
  refine PySem.W.methodCall_KW (pl := pl) (ld_glob I hg hm ?_ hdb) htr
  refine method_cls I.kIn C.ga (cls_value I.kIn C.reads C.at_ rfl ?_)
  have I0 : Inv X pins σ H { s with toks := s.toks + 1 } := I.tok _
  refine PySem.W.callWith_K (h₀ := X.base) I.ok.mod.kin C.kp (thn (ha pos pins _ σ H _ I0 h) fun us s1 ⟨vs, H1, I1, r, q⟩ => ⟨I1.kIn, ?_⟩) hst hpl
  exact run_fn F hr hb hd hx I1 r q
end
end My
set_option Elab.async false
set_option linter.all false
set_option maxRecDepth 100000
set_option maxHeartbeats 4000000
namespace My
open PySem L2
open PySem.Builtin.Str (occurrences partsBetween strSub)
def fig (c : Nat) : Bool := decide (48 ≤ c) && decide (c ≤ 57)
def figs (L : List Nat) : Bool := !L.isEmpty && !(L.head? == some 48 && L != [48]) && L.all fig
abbrev cs (z : Str) : List Nat := z.cps.toList
abbrev val (L : List Nat) : Nat := NumText.digitsVal L
def okS (a b : List Nat) : Bool := figs a && figs b && decide (2 ≤ val b) && decide (1 ≤ val a) && decide (val a < val b) && decide (Nat.gcd (val a) (val b) = 1)
def rd (z : Str) : Option (Nat × Nat) :=
  if z = "0" then some (0, 1) else if z = "1" then some (1, 1) else
    match Txt.split z ⟨#[47]⟩ with
    | [a, b] => if okS (cs a) (cs b) = true then some (val (cs a), val (cs b)) else none
    | _ => none
abbrev tx (n : Nat) : Str := Str.ofString (toString ((n : Nat) : Int))
end My
set_option Elab.async false
set_option linter.all false
set_option maxRecDepth 100000
set_option maxHeartbeats 1000000
namespace My
open PySem PySem.W L2
theorem itT {A B : Prop} (h : A) : if true = true then A else B := by rw [if_pos rfl]; exact h
theorem itF {A B : Prop} (h : B) : if false = true then A else B := by rw [if_neg (by decide)]; exact h
def Ext (H H' : Hp) : Prop := ∀ b o, H b = some o → H' b = some o
theorem Ext.refl (H : Hp) : Ext H H := fun _ _ h => h
theorem Ext.trans {H H1 H2 : Hp} (a : Ext H H1) (b : Ext H1 H2) : Ext H H2 := fun x o h => b x o (a x o h)
theorem Ext.new {H : Hp} {p : Addr} {o : HO} (h : H p = none) : Ext H (upd H p o) := fun b u e => by rw [upd_ne (ne_of_none e h)]; exact e
theorem pe_ty {X : Cx} {x : Str} {n : String} {pos : Pos} (hg : Gl X x) (hm : X.mg x = none) (hv : bootBuiltins x = some (.type n)) (hn : x ≠ "__name__" := by decide +kernel) (hd : (x == ("__debug__" : Str)) = false := by decide) : PE X (.Name x pos) (tC (.ty n)) :=
  pe_bltn hg hm hv (show RelV (.ty n) (.type n) from rfl) hn hd
def Kd (K : Frag) (H : Hp) (x : V) (t : Value) : Prop := TyOf K H x t ∨ (∃ p xs, x = .ref p ∧ SqT K H p xs ∧ t = .type "tuple") ∨ (∃ a C, x = .ref a ∧ ErrAt H a C ∧ ErrI K C ∧ t = .ref C)
def rIsK (K : Frag) : List V → Hp → VK → Prop := fun vs H Q => ∃ x n t b, vs = [x, .ty n] ∧ Kd K H x t ∧ kitOne K t (.type n) = some b ∧ Q (.bl b) H
theorem call_isK {X : Cx} (N : IsT X.K) : CallR X (.builtin "isinstance") (rIsK X.K) := by
  intro pins s σ H xs us Q I r h
  obtain ⟨x, n, t, b, rfl, kd, e, q⟩ := h
  obtain ⟨u, u', rfl, ru, ru'⟩ := vals2 r
  cases (show u' = Value.type n from ru')
  rcases kd with ty | ⟨p, ys, rfl, hq, rfl⟩ | ⟨a, C, rfl, ea, T, rfl⟩
  · exact isinst_ok I ru ty e fun tk => ⟨.bl b, H, I.tok _, rfl, q⟩
  · cases (show u = Value.ref p from ru)
    obtain ⟨its, _, ⟨o, h1, h2, _⟩, _⟩ := I.tuple hq
    exact kia_one kitx_tuple I.kIn ⟨o, h1, h2⟩ e (fun z => nomatch z) fun tk => ⟨.bl b, H, I.tok _, rfl, q⟩
  · cases (show u = Value.ref a from ru)
    exact kia_one (kitErr T N.gt N.tk) I.kIn (ea.inst I.hok) e (fun z => nomatch z) fun tk => ⟨.bl b, H, I.tok _, rfl, q⟩
def NoInt (K : Frag) (H : Hp) (x : V) : Prop := (∀ i, x ≠ .int i) ∧ ∃ t b1 b2, Kd K H x t ∧ kitOne K t (.type "int") = some b1 ∧ kitOne K t (.type "bool") = some b2 ∧ (b1 && !b2) = false
def Th (K : Frag) (H : Hp) (x : V) : Prop := (∃ i, x = .int i) ∨ NoInt K H x
def numB : V → Bool
  | .int _ => true
  | _ => false
def inB (lo hi : Int) : V → Bool
  | .int i => decide (lo ≤ i) && decide (i ≤ hi)
  | _ => false
theorem numB_no {x : V} (h : ∀ i, x ≠ .int i) : numB x = false := by
  cases x with
  | int i => exact absurd rfl (h i)
  | _ => rfl
theorem inB_no {lo hi : Int} {x : V} (h : ∀ i, x ≠ .int i) : inB lo hi x = false := by
  cases x with
  | int i => exact absurd rfl (h i)
  | _ => rfl
section
variable {P : Program} {w : World} {K : Frag} {mg : Str → Option Value} {base : Heap}
theorem k_ii : kitOne K (.type "int") (.type "int") = some true := rfl
theorem k_ib : kitOne K (.type "int") (.type "bool") = some false := rfl
end
end My
set_option Elab.async false
set_option linter.all false
set_option maxRecDepth 100000
set_option maxHeartbeats 1000000
namespace My
open PySem PySem.W L2
def FncO (f : Addr) (fd : FuncData) : HO := .ext fun h => h.get? f = some { cls := .type "function", data := .func fd }
def CodO (c : Addr) (q : Str) : HO := .ext fun h => h.CodeRec (.ref c) q
def CelO (c : Addr) (v : V) : HO := .ext fun h => ∃ u, RelV v u ∧ h.IsCell c (some u)
section
variable {P : Program} {w : World} {H : Hp} {h : Heap} {f c : Addr} {fd : FuncData} {q : Str} {v : V} {u : Value}
theorem fncO_ok (e : h.get? f = some { cls := .type "function", data := .func fd }) : ObjOk P w H h f (FncO f fd) := ⟨e, ⟨_, e⟩, fun h1 h2 p k => k _ p⟩
theorem codO_ok (e : h.CodeRec (.ref c) q) : ObjOk P w H h c (CodO c q) := by
  obtain ⟨c', o, vs, t, e0, e1, e2, e3⟩ := id e
  cases e0
  exact ⟨e, ⟨o, e1⟩, fun h1 h2 p k => by
    obtain ⟨c', o, vs, t, e0, e1, e2, e3⟩ := p
    cases e0
    exact ⟨_, o, vs, t, rfl, k _ e1, e2, e3⟩⟩
theorem celO_ok (r : RelV v u) (e : h.IsCell c (some u)) : ObjOk P w H h c (CelO c v) := by
  obtain ⟨o, e1, e2⟩ := id e
  exact ⟨⟨u, r, e⟩, ⟨o, e1⟩, fun h1 h2 p k => by
    obtain ⟨u, r, o, e1, e2⟩ := p
    exact ⟨u, r, o, k _ e1, e2⟩⟩
end
def ExtP (pl : Addr) (H H' : Hp) : Prop := ∀ b o, H b = some o → b ≠ pl → H' b = some o
def trip : List (Pos × Addr × Str) → List Value
  | [] => []
  | (pos, c, _) :: L => rawInt pos.line :: rawInt pos.col :: .ref c :: trip L
def TabOk (H : Hp) (pl : Addr) (al : List (Pos × Str)) : Prop := ∃ L, H pl = some (.tbl (trip L).toArray) ∧ ∀ e ∈ L, (e.1, e.2.2) ∈ al ∧ H e.2.1 = some (CodO e.2.1 e.2.2)
structure TabP (al : List (Pos × Str)) (pos : Pos) (q : Str) : Prop where
  mem : (pos, q) ∈ al
  uq : ∀ a ∈ al, a.1.line = pos.line → a.1.col = pos.col → a.2 = q
theorem trip_ok : ∀ L, TriplesOk (trip L)
  | [] => by simp [trip, TriplesOk]
  | (pos, c, q) :: L => by simp only [trip, rawInt, TriplesOk]; exact trip_ok L
theorem trip_among (pos : Pos) : ∀ L, codeAmong pos (trip L) = none ∨ ∃ e ∈ L, e.1.line = pos.line ∧ e.1.col = pos.col ∧ codeAmong pos (trip L) = some (.ref e.2.1)
  | [] => .inl (by simp [trip, codeAmong])
  | (p, c, q) :: L => by
    simp only [trip, rawInt, codeAmong]
    by_cases z : ((p.line : Int) == (pos.line : Int) && (p.col : Int) == (pos.col : Int)) = true
    · rw [if_pos z]
      rw [Bool.and_eq_true, beq_iff_eq, beq_iff_eq] at z
      exact .inr ⟨(p, c, q), List.mem_cons_self .., Int.ofNat.inj z.1, Int.ofNat.inj z.2, rfl⟩
    · rw [if_neg z]
      rcases trip_among pos L with h | ⟨e, he, h1, h2, h3⟩
      · exact .inl h
      · exact .inr ⟨e, List.mem_cons_of_mem _ he, h1, h2, h3⟩
theorem trip_snoc {pos : Pos} {c : Addr} {q : Str} : ∀ L, trip (L ++ [(pos, c, q)]) = trip L ++ [rawInt pos.line, rawInt pos.col, .ref c]
  | [] => rfl
  | (p, c', q') :: L => by simp only [List.cons_append, trip]; rw [trip_snoc L]
structure MkK (K : Frag) (mg : Str → Option Value) (base : Heap) (c pl : Addr) : Prop where
  ch : ∀ h : Heap, K.In h → CodeHd h c pl
  ba : base.BuiltinsAt mg pl
structure Made (H H' : Hp) (pl : Addr) (al : List (Pos × Str)) (qual : Str) (f : Addr) (fd : FuncData) (c' : Addr) : Prop where
  ext : ExtP pl H H'
  new : H f = none
  fn : H' f = some (FncO f fd)
  cd : H' c' = some (CodO c' qual)
  tb : TabOk H' pl al
section
variable {X : Cx} {pins : List (Addr × Obj)} {σ : St} {H : Hp} {s : Shared}
theorem mk_new {h1 : Heap} {pl c' : Addr} {pos : Pos} {qual : Str} {fd : FuncData} {tk : Nat} {al : List (Pos × Str)} {L : List (Pos × Addr × Str)} (I : Inv X pins σ H s) (e : H pl = some (.tbl (trip L).toArray)) (hL : ∀ e ∈ L, (e.1, e.2.2) ∈ al ∧ H e.2.1 = some (CodO e.2.1 e.2.2)) (mem : (pos, qual) ∈ al) (eb : Heap.ExtBut pl s.heap h1) (lc : s.heap.objs.size ≤ c') (cl : c' < h1.objs.size) (cr : h1.CodeRec (.ref c') qual) (et : h1.get? pl = some (tabObj (trip (L ++ [(pos, c', qual)])).toArray)) :
    ∃ H', Inv X pins σ H' { s with heap := h1.push { cls := .type "function", data := .func fd }, toks := tk } ∧ Made H H' pl al qual h1.objs.size fd c' := by
  have lf : s.heap.objs.size ≤ h1.objs.size := Nat.le_trans lc (Nat.le_of_lt cl)
  have old : ∀ b o, b ≠ pl → s.heap.get? b = some o → (h1.push { cls := .type "function", data := .func fd }).get? b = some o := fun b o n q => Heap.get?_push_of_some _ (eb b o n q)
  have lt : ∀ b u, H b = some u → b < s.heap.objs.size := fun b u q => I.hok.lt q
  have ncf : c' ≠ h1.objs.size := Nat.ne_of_lt cl
  have plt := lt _ _ e
  have ncp : c' ≠ pl := Nat.ne_of_gt (Nat.lt_of_lt_of_le plt lc)
  have nfp : h1.objs.size ≠ pl := Nat.ne_of_gt (Nat.lt_of_lt_of_le plt lf)
  let H' : Hp := fun b => if b = h1.objs.size then some (FncO h1.objs.size fd) else if b = c' then some (CodO c' qual) else if b = pl then some (.tbl (trip (L ++ [(pos, c', qual)])).toArray) else H b
  have hf : H' h1.objs.size = some (FncO h1.objs.size fd) := if_pos rfl
  have hc : H' c' = some (CodO c' qual) := by show (if _ then _ else _) = _; rw [if_neg ncf, if_pos rfl]
  have hp : H' pl = some (.tbl (trip (L ++ [(pos, c', qual)])).toArray) := by show (if _ then _ else _) = _; rw [if_neg (Ne.symm nfp), if_neg (Ne.symm ncp), if_pos rfl]
  have ho : ∀ b, b < s.heap.objs.size → b ≠ pl → H' b = H b := fun b l n => by
    show (if _ then _ else _) = _
    rw [if_neg (Nat.ne_of_lt (Nat.lt_of_lt_of_le l lf)), if_neg (Nat.ne_of_lt (Nat.lt_of_lt_of_le l lc)), if_neg n]
  have np : ∀ b u, H b = some u → u ≠ .tbl (trip L).toArray → b ≠ pl := fun b u q n z => by
    rw [z, e] at q
    exact n (Option.some.inj q).symm
  have keepH : ∀ b u, H b = some u → u ≠ .tbl (trip L).toArray → H' b = some u := fun b u q n => by rw [ho b (lt b u q) (np b u q n)]; exact q
  have un : Un X.fs [] H H' s.heap (h1.push { cls := .type "function", data := .func fd }) := by
    have nn : ∀ b, H b = none → b ≠ pl := fun b q z => by rw [z, e] at q; cases q
    refine ⟨fun b o q n _ _ => old b o (nn b n) q, fun b o q n _ _ => ⟨o.slots, old b o (nn b n) q⟩, fun b o q n _ => ?_, fun b o q _ => ?_, fun b xs q => keepH b _ q (fun z => by cases z), fun b o u q => keepH b _ q (fun z => by cases z), fun b ps q => ?_, fun q => ?_⟩
    · rw [ho b (Heap.lt_size q) (nn b n)]; exact n
    · by_cases z : b = pl
      · subst z; exact ⟨_, Heap.get?_push_of_some _ et⟩
      · exact ⟨o, old b o z q⟩
    · by_cases z : b = pl
      · subst z
        rw [e] at q
        cases q
        exact ⟨#[rawInt pos.line, rawInt pos.col, .ref c'], by rw [hp, trip_snoc]; simp⟩
      · exact ⟨#[], by rw [ho b (lt b _ q) z, q]; simp⟩
    · rw [ho _ I.big (nn _ q)]; exact q
  have hok : HOk X.prog X.w H' (h1.push { cls := .type "function", data := .func fd }) := fun b u q => by
    by_cases z1 : b = h1.objs.size
    · subst z1
      rw [hf] at q
      cases q
      exact fncO_ok (Heap.get?_push_size _ rfl)
    by_cases z2 : b = c'
    · subst z2
      rw [hc] at q
      cases q
      obtain ⟨c0, o, vs, t, e0, e1, e2, e3⟩ := cr
      cases e0
      exact codO_ok ⟨_, o, vs, t, rfl, Heap.get?_push_of_some _ e1, e2, e3⟩
    by_cases z3 : b = pl
    · subst z3
      rw [hp] at q
      cases q
      exact Heap.get?_push_of_some _ et
    have q' : H b = some u := by
      have : H' b = H b := by show (if _ then _ else _) = _; rw [if_neg z1, if_neg z2, if_neg z3]
      rw [← this]; exact q
    refine (I.hok b u q').stay (fun d v hd g => old d v ?_ g) (fun d g => keepH d _ g (fun z => by cases z)) fun d xs g => keepH d _ g (fun z => by cases z)
    rcases hd with rfl | hd
    · exact z3
    · exact np d _ hd (fun z => by cases z)
  refine ⟨H', I.un un hok, ⟨fun b o q n => by rw [ho b (lt b o q) n]; exact q, I.hok.fresh lf, hf, hc, L ++ [(pos, c', qual)], hp, fun d hd => ?_⟩⟩
  rcases List.mem_append.mp hd with hd | hd
  · exact ⟨(hL d hd).1, keepH _ _ (hL d hd).2 (fun z => by cases z)⟩
  · rw [List.mem_singleton.mp hd]
    exact ⟨mem, hc⟩
theorem mk_hit {h1 : Heap} {pl c' : Addr} {qual : Str} {fd : FuncData} {tk : Nat} {al : List (Pos × Str)} (I : Inv X pins σ H s) (tb : TabOk H pl al) (ec : H c' = some (CodO c' qual)) (k : ∀ b o, s.heap.get? b = some o → h1.get? b = some o) (le : s.heap.objs.size ≤ h1.objs.size) :
    ∃ H', Inv X pins σ H' { s with heap := h1.push { cls := .type "function", data := .func fd }, toks := tk } ∧ Made H H' pl al qual h1.objs.size fd c' := by
  have fr : H h1.objs.size = none := I.hok.fresh le
  have I1 : Inv X pins σ (upd H h1.objs.size (FncO h1.objs.size fd)) { s with heap := h1.push { cls := .type "function", data := .func fd }, toks := tk } := I.laid (fun b u q => Heap.get?_push_of_some _ (k b u q)) le (fncO_ok (Heap.get?_push_size _ rfl))
  have x : Ext H (upd H h1.objs.size (FncO h1.objs.size fd)) := Ext.new fr
  obtain ⟨L, e, hL⟩ := tb
  exact ⟨_, I1, ⟨fun b o q _ => x b o q, fr, upd_same, x _ _ ec, L, x _ _ e, fun d hd => ⟨(hL d hd).1, x _ _ (hL d hd).2⟩⟩⟩
theorem wp_mkLam {M : Model} {A : Around} {E : Value → Shared → Prop} {name qual : Str} {params : Arguments} {body : Expr} {scope : Scope} {c pl : Addr} {pos : Pos} {fl : Nat} {clos : List (Str × Addr)} {Q : Value → Shared → Prop} (I : Inv X pins σ H s) (hcd : X.env.code = .ref c) (Z : MkK X.K X.mg X.base c pl) {al : List (Pos × Str)} (tb : TabOk H pl al) (tp : TabP al pos qual) (hcl : closureFor scope X.env = pure clos)
    (h : ∀ f c' ctv pm H' s', Inv X pins σ H' s' → Made H H' pl al qual f (kla_fn name qual params body scope clos pm (.ref c') ctv) c' → Q (.ref f) s') : wpAny M A (makeFunction name qual params (.expr body) scope X.env [] [] [] pos fl) Q E s := by
  have kin := I.kIn
  have ns := I.mod.glob.keeps I.bk
  obtain ⟨L, e, hL⟩ := id tb
  have et : s.heap.get? pl = some (tabObj (trip L).toArray) := I.hok pl _ e
  rcases trip_among pos L with am | ⟨d, hd, l1, l2, am⟩
  · skip
    have nm : mainGlobals ≠ pl := fun z => by
      obtain ⟨o, _, _, ho, _⟩ := I.mod.glob
      have := (I.bs _ _ ho).2
      rw [z, e] at this
      cases this
    refine kla_makeFunction hcl I.ok.glob ns hcd (Z.ch _ kin) et (by simpa using trip_ok L) (by simpa using am) nm (Z.ba.keeps I.bk) fun c' ctv h1 tk eb lc cl cr ht => ?_
    obtain ⟨H', I', m⟩ := mk_new (fd := kla_fn name qual params body scope clos ((X.mg (Str.ofString "__name__")).getD .none) (.ref c') ctv) (tk := tk) I e hL tp.mem eb lc cl cr (by rw [ht, trip_snoc]; simp)
    exact h _ c' ctv _ H' _ I' m
  · have ec : H d.2.1 = some (CodO d.2.1 qual) := by
      have := tp.uq _ (hL d hd).1 l1 l2
      rw [← this]
      exact (hL d hd).2
    refine kla_makeFunctionHit hcl I.ok.glob ns hcd (Z.ch _ kin) et (by simpa using trip_ok L) (by simpa using am) (Z.ba.keeps I.bk) fun ctv h1 tk k le => ?_
    obtain ⟨H', I', m⟩ := mk_hit (fd := kla_fn name qual params body scope clos ((X.mg (Str.ofString "__name__")).getD .none) (.ref d.2.1) ctv) (tk := tk) I tb ec k le
    exact h _ d.2.1 ctv _ H' _ I' m
end
end My
set_option Elab.async false
set_option linter.all false
set_option maxRecDepth 100000
set_option maxHeartbeats 1000000
namespace My
open PySem PySem.W L2
def hidC (H : Hp) (cs : List Addr) : Hp := fun b => if b ∈ cs then none else H b
def unhid (H : Hp) (cs : List Addr) (H' : Hp) : Hp := fun b => if b ∈ cs then H b else H' b
theorem hidC_in {H : Hp} {cs : List Addr} {b : Addr} (h : b ∈ cs) : hidC H cs b = none := if_pos h
theorem hidC_out {H : Hp} {cs : List Addr} {b : Addr} (h : b ∉ cs) : hidC H cs b = H b := if_neg h
theorem hidC_some {H : Hp} {cs : List Addr} {b : Addr} {o : HO} (h : hidC H cs b = some o) : b ∉ cs ∧ H b = some o := by
  unfold hidC at h
  split at h
  · cases h
  · rename_i n; exact ⟨n, h⟩
theorem unhid_ext {H H' : Hp} {cs : List Addr} (x : Ext (hidC H cs) H') : Ext H (unhid H cs H') := fun b o e => by
  unfold unhid
  by_cases z : b ∈ cs
  · rw [if_pos z]; exact e
  · rw [if_neg z]; exact x b o (by rw [hidC_out z]; exact e)
def CelR (H : Hp) (a : Addr) (v : V) : Prop := H a = some (CelO a v) ∨ ∃ o, H a = some (.frz o (CelO a v))
theorem CelR.heap {P : Program} {w : World} {H : Hp} {h : Heap} {a : Addr} {v : V} (c : CelR H a v) (hok : HOk P w H h) : ∃ u, RelV v u ∧ h.IsCell a (some u) := by
  rcases c with c | ⟨o, c⟩
  · exact (hok a _ c).1
  · exact (hok a _ c).2.1
theorem CelR.no {H : Hp} {a : Addr} {v : V} (c : CelR H a v) {o : HO} (e : H a = some o) (n1 : ∀ v, o ≠ CelO a v) (n2 : ∀ ob v, o ≠ .frz ob (CelO a v)) : False := by
  rcases c with c | ⟨ob, c⟩
  · rw [e] at c; exact n1 v (Option.some.inj c)
  · rw [e] at c; exact n2 ob v (Option.some.inj c)
theorem CelR.some {H : Hp} {a : Addr} {v : V} (c : CelR H a v) : H a ≠ none := by
  rcases c with c | ⟨ob, c⟩ <;> (rw [c]; simp)
def Cells (H : Hp) (cl : List (Str × Addr)) (cv : List (Str × V)) : Prop := cl.map (·.1) = cv.map (·.1) ∧ (∀ (i : Nat) x a y v, cl[i]? = some (x, a) → cv[i]? = some (y, v) → CelR H a v) ∧ (cl.map (·.2)).Nodup ∧ (cl.map (·.1)).Nodup
theorem mem_ix {α : Type} {l : List α} {x : α} (h : x ∈ l) : ∃ i : Nat, l[i]? = some x := by
  obtain ⟨i, hi, e⟩ := List.getElem_of_mem h
  exact ⟨i, by rw [List.getElem?_eq_getElem hi, e]⟩
theorem lookup_ex {α : Type} {x : Str} {a : α} : ∀ {l : List (Str × α)}, (x, a) ∈ l → ∃ b, l.lookup x = some b
  | [], h => nomatch h
  | (y, b) :: l, h => by
    rw [List.lookup_cons]
    cases e : x == y with
    | true => exact ⟨b, rfl⟩
    | false =>
      rcases List.mem_cons.mp h with z | z
      · injection z with z1 z2
        rw [z1, beq_self_eq_true] at e
        cases e
      · exact lookup_ex z
section
variable {H : Hp} {cl : List (Str × Addr)} {cv : List (Str × V)}
theorem Cells.at (C : Cells H cl cv) {x : Str} {a : Addr} (h : cl.lookup x = some a) : ∃ v, (x, v) ∈ cv ∧ CelR H a v := by
  obtain ⟨i, hi⟩ := mem_ix (PySem.mem_of_lookup h)
  have l : cl.length = cv.length := by have := congrArg List.length C.1; rwa [List.length_map, List.length_map] at this
  have li : i < cv.length := by have := (List.getElem?_eq_some_iff.mp hi).1; omega
  have e1 : (cl.map (·.1))[i]? = some x := by rw [List.getElem?_map, hi]; rfl
  rw [C.1, List.getElem?_map, List.getElem?_eq_getElem li] at e1
  have e2 : (cv[i]).1 = x := Option.some.inj e1
  have e3 := C.2.1 i x a (cv[i]).1 (cv[i]).2 hi (List.getElem?_eq_getElem li)
  exact ⟨(cv[i]).2, by rw [← e2]; exact List.getElem_mem li, e3⟩
theorem Cells.cel (C : Cells H cl cv) {a : Addr} (h : a ∈ cl.map (·.2)) : ∃ v, CelR H a v := by
  obtain ⟨⟨x, a'⟩, hm, rfl⟩ := List.mem_map.mp h
  obtain ⟨i, hi⟩ := mem_ix hm
  have l : cl.length = cv.length := by have := congrArg List.length C.1; rwa [List.length_map, List.length_map] at this
  have li : i < cv.length := by have := (List.getElem?_eq_some_iff.mp hi).1; omega
  exact ⟨_, C.2.1 i x a' (cv[i]).1 (cv[i]).2 hi (List.getElem?_eq_getElem li)⟩
end
def cxC (P : Program) (w : World) (K : Frag) (mg : Str → Option Value) (base : Heap) (N : List Str) (qual : Str) (scope : Scope) (f : Addr) (cd : Value) (cl : List (Str × Addr)) (A : Around) (outer : List Env) (s : Shared) (H : Hp) : Cx where
  prog := P
  w := w
  K := K
  mg := mg
  base := base
  A := A.deeper (envX qual scope s.heap.objs.size f cd cl)
  N := N
  s₀ := s
  H₀ := H
  env := envX qual scope s.heap.objs.size f cd cl
  outer := outer
  stack := envX qual scope s.heap.objs.size f cd cl :: outer
  ex := []
  calm := true
  fn := fun _ => false
  pn := []
  xe := fun _ _ => False
structure ClScope (N : List Str) (p : Str) (zs : List Str) (sc : Scope) : Prop where
  kind : sc.kind = .function
  co : sc.isCoroutine = false
  gen : sc.isGenerator = false
  nd : N.Nodup
  pre : N[0]? = some p
  par : sc.names.lookup p = some .local
  nocell : ∀ y ∈ sc.names, y.2 ≠ .cell
  frees : ∀ x, sc.names.lookup x = some .free → x ∈ zs
  vis : ∀ z ∈ zs, sc.names.lookup z = some .free
section
variable {P : Program} {w : World} {K : Frag} {mg : Str → Option Value} {base : Heap} {N zs : List Str} {p qual : Str} {scope : Scope} {f c : Addr} {cl : List (Str × Addr)} {cv : List (Str × V)} {A : Around} {outer : List Env} {s : Shared} {H : Hp}
theorem env0_hid (e0 : Env0 P w K mg base A outer s H) (C : Cells H cl cv) : Env0 P w K mg base A outer s (hidC H (cl.map (·.2))) := by
  refine ⟨e0.frames, e0.mod, fun b o e => ⟨(e0.bs b o e).1, ?_⟩, e0.bsz, e0.funs, fun b hb => ?_, fun b o e => ?_, e0.bare⟩
  · unfold hidC; split
    · rfl
    · exact (e0.bs b o e).2
  · unfold hidC; split
    · rfl
    · exact e0.frf b hb
  · obtain ⟨n, e⟩ := hidC_some e
    refine (e0.hok b o e).stay (fun _ _ _ q => q) (fun d g => ?_) fun d xs g => ?_
    · rw [hidC_out (fun z => by obtain ⟨v, q⟩ := C.cel z; exact q.no g (fun _ y => nomatch y) fun _ _ y => nomatch y)]; exact g
    · rw [hidC_out (fun z => by obtain ⟨v, q⟩ := C.cel z; exact q.no g (fun _ y => nomatch y) fun _ _ y => nomatch y)]; exact g
theorem inv_clo {h1 : Heap} {tk : Nat} {vp : V} {up : Value} {σ : St} (S : ClScope N p zs scope) (hd : A.handled = none) (e0 : Env0 P w K mg base A outer s H) (C : Cells H cl cv) (hz : cl.map (·.1) = zs) (hv : RelV vp up) (hl : σ.length = N.length)
    (hσ : ∀ (i : Nat) x v, N[i]? = some x → σ[i]? = some (some v) → (x = p ∧ v = vp) ∨ (x, v) ∈ cv)
    (hn : h1.Ns s.heap.objs.size fun x => List.lookup x [(p, up)]) (sb : Heap.SameBut s.heap.objs.size (s.heap.push { cls := .type "frame", data := .dict #[] }) h1) :
    Inv (cxC P w K mg base N qual scope f (.ref c) cl A outer s (hidC H (cl.map (·.2)))) [] σ (hidC H (cl.map (·.2))) { s with heap := h1, toks := tk } := by
  have E := env0_hid e0 C
  have hk : ∀ b o, s.heap.get? b = some o → h1.get? b = some o := fun b o e => (sb.2 b (Nat.ne_of_lt (Heap.lt_size e))).trans (Heap.get?_push_of_some _ e)
  have noA : ∀ b : Addr, b ∉ (cxC P w K mg base N qual scope f (.ref c) cl A outer s (hidC H (cl.map (·.2)))).ex := fun b z => absurd (show b ∈ ([] : List Addr) from z) (by simp)
  have kin : ∀ {x : Str} {a : Addr}, cl.lookup x = some a → ∃ v u, (x, v) ∈ cv ∧ RelV v u ∧ s.heap.IsCell a (some u) := fun {x a} e => by
    obtain ⟨v, hm, q⟩ := C.at e
    obtain ⟨u, r, z⟩ := q.heap e0.hok
    exact ⟨v, u, hm, r, z⟩
  have uniq : ∀ {x : Str} {v v' : V}, (x, v) ∈ cv → (x, v') ∈ cv → v = v' := fun {x v v'} h1 h2 => by
    obtain ⟨i, hi⟩ := mem_ix h1
    obtain ⟨j, hj⟩ := mem_ix h2
    have nd : (cv.map (·.1)).Nodup := by rw [← C.1]; exact C.2.2.2
    have ei : (cv.map (·.1))[i]? = some x := by rw [List.getElem?_map, hi]; rfl
    have ej : (cv.map (·.1))[j]? = some x := by rw [List.getElem?_map, hj]; rfl
    have := nodup_ix nd ei ej
    subst this
    rw [hi] at hj
    injection hj with hj
    injection hj
  refine ⟨⟨E.mod, S.kind, rfl, rfl, Nat.le_refl _, fun y z a h1 h2 => ?_, fun y hy => ?_, (fun y a h _ => nomatch h), fun _ => hd, Around.frames_deeper E.frames, .inr ⟨rfl, rfl⟩, fun b z => absurd z (noA b), E.bs, E.bsz, fun b _ _ => noA b, fun b z => absurd z (noA b), E.funs, E.frf⟩,
    rfl, E.bare, Un.kept hk, ⟨_, hn, fun i y v h1 h2 h3 => ?_⟩, fun y a h => ?_, E.hok.fresh (Nat.le_refl _), fun y a h => ?_, fun p hp => absurd (show p ∈ ([] : List (Addr × Obj)) from hp) (by simp), E.hok.kept hk, hl⟩
  · have m1 : (y, a) ∈ cl := PySem.mem_of_lookup h1
    have m2 : (z, a) ∈ cl := PySem.mem_of_lookup h2
    obtain ⟨i, hi⟩ := mem_ix m1
    obtain ⟨j, hj⟩ := mem_ix m2
    have ei : (cl.map (·.2))[i]? = some a := by rw [List.getElem?_map, hi]; rfl
    have ej : (cl.map (·.2))[j]? = some a := by rw [List.getElem?_map, hj]; rfl
    have hij : i = j := by
      obtain ⟨k1, e1⟩ := List.getElem?_eq_some_iff.mp ei
      obtain ⟨k2, e2⟩ := List.getElem?_eq_some_iff.mp ej
      exact (List.getElem_inj C.2.2.1).mp (e1.trans e2.symm)
    subst hij
    rw [hi] at hj
    injection hj with hj
    injection hj
  · have hy : scope.names.lookup y = some .cell ∨ scope.names.lookup y = some .free := hy
    rcases hy with hy | hy
    · exact absurd rfl (S.nocell _ (PySem.mem_of_lookup hy))
    · have := S.frees y hy
      rw [← hz] at this
      obtain ⟨⟨y', a⟩, hm, rfl⟩ := List.mem_map.mp this
      exact lookup_ex hm
  · rcases hσ i y v h1 h2 with ⟨rfl, rfl⟩ | hm
    · exact ⟨up, hv, .inl ⟨S.par, by simp [List.lookup]⟩⟩
    · have hy : y ∈ cl.map (·.1) := by rw [C.1]; exact List.mem_map.mpr ⟨_, hm, rfl⟩
      obtain ⟨⟨y', a0⟩, hm0, e0'⟩ := List.mem_map.mp hy
      have e0' : y' = y := e0'
      subst e0'
      obtain ⟨a, ha⟩ := lookup_ex hm0
      obtain ⟨v', u, hm', r, z⟩ := kin ha
      have := uniq hm hm'
      subst this
      obtain ⟨o, ho, hd'⟩ := z
      exact ⟨u, r, .inr ⟨.inr (S.vis y' (by rw [← hz]; exact hy)), a, ha, ⟨o, hk a o ho, hd'⟩⟩⟩
  · obtain ⟨v, u, _, _, o, ho, hd'⟩ := kin h
    exact ⟨_, o, hk a o ho, hd'⟩
  · exact hidC_in (List.mem_map.mpr ⟨_, PySem.mem_of_lookup h, rfl⟩)
end
end My
set_option Elab.async false
set_option linter.all false
set_option maxRecDepth 100000
set_option maxHeartbeats 1000000
namespace My
open PySem PySem.W L2
section
variable {P : Program} {w : World} {K : Frag} {mg : Str → Option Value} {base : Heap} {N zs : List Str} {p qual name : Str} {scope : Scope} {f c : Addr} {cl : List (Str × Addr)} {cv : List (Str × V)} {A : Around} {outer : List Env} {s s' : Shared} {H : Hp}
theorem ce_unhid {u : Value} {Q : VK} (e0 : Env0 P w K mg base A outer s H) (C : Cells H cl cv) (h : CE outer P w (hidC H (cl.map (·.2))) s (fun v H' => (∀ b ∈ cl.map (·.2), H' b = none) → Q v (unhid H (cl.map (·.2)) H')) u s') : CE outer P w H s Q u s' := by
  obtain ⟨v, H', os, bare, un, hok, r, q⟩ := h
  have isc : ∀ {b : Addr}, b ∈ cl.map (·.2) → ∃ v u, RelV v u ∧ s.heap.IsCell b (some u) ∧ CelR H b v := fun {b} y => by
    obtain ⟨v, q⟩ := C.cel y
    obtain ⟨u, r, z⟩ := q.heap e0.hok
    exact ⟨v, u, r, z, q⟩
  have q := q fun b y => by
    obtain ⟨v, u, r, ⟨ob, h1, _⟩, _⟩ := isc y
    exact un.free b ob h1 (hidC_in y) (by simp)
  have nc : ∀ {b : Addr} {o : HO}, H b = some o → (∀ v, o ≠ CelO b v) → (∀ ob v, o ≠ .frz ob (CelO b v)) → b ∉ cl.map (·.2) := fun {b o} e n1 n2 z => by
    obtain ⟨v, q⟩ := C.cel z
    exact q.no e n1 n2
  have nn : ∀ {b : Addr}, H b = none → hidC H (cl.map (·.2)) b = none := fun {b} e => by unfold hidC; split <;> first | rfl | exact e
  have out : ∀ {b : Addr}, b ∉ cl.map (·.2) → unhid H (cl.map (·.2)) H' b = H' b := fun n => if_neg n
  have kept : ∀ {b : Addr}, b ∈ cl.map (·.2) → ∀ o, s.heap.get? b = some o → s'.heap.get? b = some o := fun {b} hb o e => by
    refine un.keep b o e (hidC_in hb) (fun z => ?_) (by simp)
    obtain ⟨v, q⟩ := C.cel hb
    exact q.some (e0.frf b z)
  refine ⟨v, unhid H (cl.map (·.2)) H', os, bare, ⟨fun b o e n nf nx => un.keep b o e (nn n) nf nx, fun b o e n nf nx => un.slot b o e (nn n) nf nx, fun b o e n nx => ?_, un.there, fun b xs e => ?_, fun b o x e => ?_, fun b ps e => ?_, fun e => ?_⟩, fun b o e => ?_, r, q⟩
  · rw [out (fun z => by obtain ⟨v, q⟩ := C.cel z; exact q.some n)]
    exact un.free b o e (nn n) nx
  · have n := nc e (fun v z => by cases z) fun _ v z => by cases z
    rw [out n]
    exact un.tups b xs (by rw [hidC_out n]; exact e)
  · by_cases z : b ∈ cl.map (·.2)
    · have : unhid H (cl.map (·.2)) H' b = H b := if_pos z
      rw [this]; exact e
    · rw [out z]
      exact un.frzs b o x (by rw [hidC_out z]; exact e)
  · have n := nc e (fun v z => by cases z) fun _ v z => by cases z
    rw [out n]
    exact un.tbls b ps (by rw [hidC_out n]; exact e)
  · unfold unhid
    split
    · exact e
    · exact un.sys (nn e)
  · by_cases z : b ∈ cl.map (·.2)
    · have e' : H b = some o := by
        have : unhid H (cl.map (·.2)) H' b = H b := if_pos z
        rw [← this]; exact e
      obtain ⟨v, q⟩ := C.cel z
      rcases q with q | ⟨oq, q⟩
      · rw [e'] at q
        cases q
        obtain ⟨⟨u, ru, ob, h1, h2⟩, _⟩ := (show ObjOk P w H s.heap b (CelO b v) from e0.hok b _ e')
        exact celO_ok ru ⟨ob, kept z ob h1, h2⟩
      · rw [e'] at q
        cases q
        obtain ⟨h0, ⟨u, ru, ob, h1, h2⟩, _⟩ := (show ObjOk P w H s.heap b (.frz oq (CelO b v)) from e0.hok b _ e')
        exact ⟨kept z _ h0, celO_ok ru ⟨ob, kept z ob h1, h2⟩⟩
    · rw [out z] at e
      have nd : ∀ d o, H' d = some o → d ∉ cl.map (·.2) := fun d o g y => by
        obtain ⟨v, u, r, ⟨ob, h1, _⟩, _⟩ := isc y
        rw [un.free d ob h1 (hidC_in y) (by simp)] at g
        cases g
      exact (hok b o e).stay (fun _ _ _ q => q) (fun d g => by rw [out (nd d _ g)]; exact g) fun d xs g => by rw [out (nd d _ g)]; exact g
theorem lam_run {k : Nat} {params : Arguments} {body : Expr} {pm ctv : Value} {vp : V} {up : Value} {σ : St} {Q : VK} {E : XK} (hr : Room (k + 1) A) (e0 : Env0 P w K mg base A outer s H) (hf : H f = some (FncO f (kla_fn name qual params body scope cl pm (.ref c) ctv))) (hc : H c = some (CodO c qual)) (C : Cells H cl cv) (S : ClScope N p zs scope) (hz : cl.map (·.1) = zs)
    (hb : ∀ (s : Shared) (u : Value), BindsTo s (kla_fn name qual params body scope cl pm (.ref c) ctv) ⟨[u], []⟩ [(p, u)]) (rv : RelV vp up) (hl : σ.length = N.length) (hσ : ∀ (i : Nat) x v, N[i]? = some x → σ[i]? = some (some v) → (x = p ∧ v = vp) ∨ (x, v) ∈ cv)
    (hbody : Room k (A.deeper (envX qual scope s.heap.objs.size f (.ref c) cl)) → ∃ t, PE (cxC P w K mg base N qual scope f (.ref c) cl A outer s (hidC H (cl.map (·.2)))) body t ∧ t σ (hidC H (cl.map (·.2))) fun v H' => (∀ b ∈ cl.map (·.2), H' b = none) → Q v (unhid H (cl.map (·.2)) H')) :
    codeAny (model P w) A (.call (.ref f) ⟨[up], []⟩) (CR CX0 outer P w H s Q E) s := by
  have ef : s.heap.get? f = some { cls := .type "function", data := .func (kla_fn name qual params body scope cl pm (.ref c) ctv) } := (e0.hok f _ hf).1
  have ec : s.heap.CodeRec (.ref c) qual := (e0.hok c _ hc).1
  have lim : s.heap.NoLimit := e0.mod.nolimit.keeps fun b o e => (e0.bs b o e).1
  refine kla_callFunE hr.depth ef rfl S.co S.gen rfl ec (hb _ _ _ _ _ _ ?_)
  refine wpAny_newFunctionEnv S.nocell (fun x hx => ?_) (fun h1 hn sb => ?_) S.kind
  · have e : x = (p, up) := by simpa using hx
    rw [e]; exact S.par
  have hk : ∀ b o, s.heap.get? b = some o → h1.get? b = some o := fun b o e => (sb.2 b (Nat.ne_of_lt (Heap.lt_size e))).trans (Heap.get?_push_of_some _ e)
  refine ⟨lim.keeps hk, kla_codeExpr ?_⟩
  obtain ⟨t, ht, hq⟩ := hbody (hr.deeper _)
  have I := inv_clo (qual := qual) (f := f) (c := c) (tk := s.toks + 1) S hr.hd e0 C hz rv hl hσ (by simpa using hn) sb
  refine wpAny_mono (ht [] _ σ _ _ I hq) (fun u s' hs => ?_) fun e s' hs => hs.elim
  obtain ⟨v, H', J, rv, q⟩ := hs
  exact ce_unhid e0 C ⟨v, H', J.os, J.bare, J.base, J.hok, rv, q⟩
end
structure ClOk (P : Program) (w : World) (K : Frag) (mg : Str → Option Value) (base : Heap) (k : Nat) (W : Addr → V → Hp → VK → Prop) : Prop where
  run : ∀ (A : Around) (outer : List Env) (s : Shared) (H : Hp) (f : Addr) (u : Value) (v : V) (Q : VK), Room k A → Env0 P w K mg base A outer s H → RelV v u → W f v H Q → codeAny (model P w) A (.call (.ref f) ⟨[u], []⟩) (CR CX0 outer P w H s Q E0) s
def tCallF (W : Addr → V → Hp → VK → Prop) (ta te : TE) : TE := fun σ H Q => ta σ H fun x H1 => ∃ f fd, x = .ref f ∧ H1 f = some (FncO f fd) ∧ te σ H1 fun y H2 => H2 f = some (FncO f fd) ∧ W f y H2 Q
section
variable {X : Cx} {k : Nat} {W : Addr → V → Hp → VK → Prop} {x : Str} {p pos : Pos} {e : Expr} {ta te : TE}
theorem pe_callF (hv : PE X (.Name x p) ta) (M : ClOk X.prog X.w X.K X.mg X.base k W) (hr : Room k X.A) (ha : PE X e te)
    (he : starEach [e] X.env = (false, eval e X.env) :: starEach [] X.env := by rfl) (hpl : (backTo pos (starEach [] X.env)).any (·.1) = false := by rfl) : PE X (.Call (.Name x p) [e] [] pos) (tCallF W ta te) := by
  intro pins s σ H Q I h
  refine wpAny_Call_Name_kw (thn (hv pins s σ H _ I h) fun u s1 ⟨x, H1, I1, rx, f, fd, ex, ef, q⟩ => ?_)
  subst ex
  obtain rfl : u = Value.ref f := rx
  have kin : ∀ {H2 : Hp} {s2 : Shared}, Inv X pins σ H2 s2 → H2 f = some (FncO f fd) → Frag.In [(f, { cls := .type "function", data := .func fd })] s2.heap := fun {H2 s2} J g a o l => by
    have eo : s2.heap.get? f = some { cls := .type "function", data := .func fd } := (J.hok f _ g).1
    rw [List.lookup_cons] at l
    cases z : a == f with
    | true => rw [z] at l; cases l; rw [beq_iff_eq.mp z]; exact eo
    | false => rw [z] at l; cases l
  refine PySem.W.callWith_K (K := [(f, { cls := .type "function", data := .func fd })]) (h₀ := s1.heap) (kin I1 ef) (by simp [keepIn, List.lookup]) (thn ((pa_cons ha pa_nil he) pos pins s1 σ H1 (fun vs H2 => match vs with | [y] => H2 f = some (FncO f fd) ∧ W f y H2 Q | _ => False) I1 q) fun us s2 ⟨vs, H2, I2, r, q2⟩ => ?_) he hpl
  match vs, r, q2 with
  | [y], r, ⟨g, q2⟩ =>
    obtain ⟨u, rfl, ru⟩ := vals1 r
    refine ⟨kin I2 g, ?_⟩
    refine wpAny_call (codeAny_mono (M.run X.A X.stack s2 H2 f u y Q hr I2.env0 ru q2) fun r s' hq => ?_)
    cases r with
    | error e => exact False.elim hq
    | ok fl =>
      cases fl with
      | ret u => exact I2.after hq
      | next => exact False.elim hq
      | brk => exact False.elim hq
      | cont => exact False.elim hq
end
end My
set_option Elab.async false
set_option linter.all false
set_option maxRecDepth 100000
set_option maxHeartbeats 1000000
namespace My
open PySem PySem.W L2
open PyProof.Rows (envOfC)
theorem un_cell {P : Program} {w : World} {fs : List Addr} {H₀ H : Hp} {h₀ h : Heap} {a : Addr} {v : V} {u : Value} (un : Un fs [] H₀ H h₀ h) (hok : HOk P w H h) (big : sysModules < h₀.objs.size) (la : h₀.objs.size ≤ a) (n : H a = none) (r : RelV v u) (c : h.IsCell a (some u)) : Un fs [] H₀ (upd H a (CelO a v)) h₀ h ∧ HOk P w (upd H a (CelO a v)) h := by
  have ne : ∀ b o, H b = some o → b ≠ a := fun b o e => ne_of_none e n
  refine ⟨⟨un.keep, un.slot, fun b o e m x => ?_, un.there, fun b xs e => ?_, fun b o x e => ?_, fun b ps e => ?_, fun e => ?_⟩, fun b o e => ?_⟩
  · rw [upd_ne (Nat.ne_of_lt (Nat.lt_of_lt_of_le (Heap.lt_size e) la))]; exact un.free b o e m x
  · have q := un.tups b xs e
    rw [upd_ne (ne _ _ q)]; exact q
  · have q := un.frzs b o x e
    rw [upd_ne (ne _ _ q)]; exact q
  · obtain ⟨m, q⟩ := un.tbls b ps e
    exact ⟨m, by rw [upd_ne (ne _ _ q)]; exact q⟩
  · rw [upd_ne (Nat.ne_of_lt (Nat.lt_of_lt_of_le big la))]; exact un.sys e
  · by_cases z : b = a
    · subst z
      rw [upd_same] at e
      cases e
      exact celO_ok r c
    · rw [upd_ne z] at e
      exact (hok b o e).stay (fun _ _ _ q => q) (fun d g => by rw [upd_ne (ne _ _ g)]; exact g) fun d xs g => by rw [upd_ne (ne _ _ g)]; exact g
def addC (H : Hp) : List (Str × Addr) → List (Str × V) → Hp
  | (_, a) :: cl, (_, v) :: cv => upd (addC H cl cv) a (CelO a v)
  | _, _ => H
theorem addC_out {H : Hp} {b : Addr} : ∀ {cl : List (Str × Addr)} {cv : List (Str × V)}, b ∉ cl.map (·.2) → addC H cl cv b = H b
  | [], _, _ => by simp [addC]
  | (x, a) :: cl, [], _ => by simp [addC]
  | (x, a) :: cl, (y, v) :: cv, h => by
    simp only [List.map_cons, List.mem_cons, not_or] at h
    show upd (addC H cl cv) a (CelO a v) b = H b
    rw [upd_ne h.1]
    exact addC_out h.2
theorem addC_ext {H : Hp} {cl : List (Str × Addr)} {cv : List (Str × V)} (h : ∀ a ∈ cl.map (·.2), H a = none) : Ext H (addC H cl cv) := fun b o e => by
  rw [addC_out (fun z => by rw [h b z] at e; cases e)]
  exact e
theorem addC_cells {H : Hp} : ∀ {cl : List (Str × Addr)} {cv : List (Str × V)}, (cl.map (·.2)).Nodup → ∀ (i : Nat) x a y v, cl[i]? = some (x, a) → cv[i]? = some (y, v) → addC H cl cv a = some (CelO a v)
  | [], _, _, i, x, a, y, v, h, _ => by simp at h
  | (x0, a0) :: cl, [], _, i, x, a, y, v, _, h => by simp at h
  | (x0, a0) :: cl, (y0, v0) :: cv, nd, 0, x, a, y, v, h1, h2 => by
    cases h1
    cases h2
    exact upd_same
  | (x0, a0) :: cl, (y0, v0) :: cv, nd, i + 1, x, a, y, v, h1, h2 => by
    simp only [List.map_cons, List.nodup_cons] at nd
    have h1' : cl[i]? = some (x, a) := by simpa using h1
    have ma : a ∈ cl.map (·.2) := List.mem_map.mpr ⟨_, List.mem_of_getElem? h1', rfl⟩
    show upd (addC H cl cv) a0 (CelO a0 v0) a = _
    rw [upd_ne (fun z => nd.1 (by rw [← z]; exact ma))]
    exact addC_cells nd.2 i x a y v h1' (by simpa using h2)
theorem addC_ok {P : Program} {w : World} {fs : List Addr} {H₀ H : Hp} {h₀ h : Heap} (un : Un fs [] H₀ H h₀ h) (hok : HOk P w H h) (big : sysModules < h₀.objs.size) : ∀ {cl : List (Str × Addr)} {cv : List (Str × V)}, (cl.map (·.2)).Nodup → (∀ a ∈ cl.map (·.2), h₀.objs.size ≤ a ∧ H a = none) → (∀ (i : Nat) x a y v, cl[i]? = some (x, a) → cv[i]? = some (y, v) → ∃ u, RelV v u ∧ h.IsCell a (some u)) → Un fs [] H₀ (addC H cl cv) h₀ h ∧ HOk P w (addC H cl cv) h
  | [], _, _, _, _ => by simp only [addC]; exact ⟨un, hok⟩
  | (x, a) :: cl, [], _, _, _ => by simp only [addC]; exact ⟨un, hok⟩
  | (x, a) :: cl, (y, v) :: cv, nd, ha, hc => by
    simp only [List.map_cons, List.nodup_cons] at nd
    obtain ⟨u1, k1⟩ := addC_ok un hok big (cl := cl) (cv := cv) nd.2 (fun b hb => ha b (by simp only [List.map_cons, List.mem_cons]; exact .inr hb)) fun i x a y v h1 h2 => hc (i + 1) x a y v (by simpa using h1) (by simpa using h2)
    obtain ⟨la, na⟩ := ha a (by simp)
    obtain ⟨u, r, c⟩ := hc 0 x a y v rfl rfl
    exact un_cell u1 k1 big la (by rw [addC_out nd.1]; exact na) r c
def MkQ (H : Hp) (pl : Addr) (al : List (Pos × Str)) (qn : Str) (zs : List Str) (cv : List (Str × V)) (fd : List (Str × Addr) → Value → Value → Value → Addr → FuncData) (Q : VK) : Prop :=
  TabOk H pl al ∧ ∀ f c' cl a b d H', ExtP pl H H' → H f = none → H' f = some (FncO f (fd cl a b d c')) → H' c' = some (CodO c' qn) → Cells H' cl cv → cl.map (·.1) = zs → (∀ x ∈ cl.map (·.2), H x = none ∧ x ≠ f ∧ x ≠ c') → TabOk H' pl al → Q (.ref f) H'
section
variable {CX : CXT} {P : Program} {w : World} {K : Frag} {mg : Str → Option Value} {base : Heap} {N ps zs : List Str} {qual : Str} {scope : Scope} {g c pl : Addr} {A : Around} {outer : List Env} {s s1 : Shared} {H H1 : Hp} {E : XK} {σ : St} {cv : List (Str × V)} {Q : VK}
theorem ce_cells {cl : List (Str × Addr)} {v : V} {u : Value} (J : Inv (cxOf CX P w K mg base N qual scope g (.ref c) A outer s H E) [] σ H1 s1) (hc : ∀ x a, (x, a) ∈ cl → (cellsFrom (s.heap.objs.size + 1) scope.names []).lookup x = some a) (nd : (cl.map (·.2)).Nodup) (hz : cl.map (·.1) = cv.map (·.1))
    (hv : ∀ x v, (x, v) ∈ cv → scope.names.lookup x = some .cell ∧ ∃ j : Nat, N[j]? = some x ∧ σ[j]? = some (some v)) (r : RelV v u) (q : Q v (addC H1 cl cv)) : CE outer P w H s Q u s1 := by
  obtain ⟨m, hn, hl⟩ := J.loc
  have big : sysModules < s.heap.objs.size := by
    obtain ⟨o, _, _, ho, _⟩ := J.mod.glob
    exact Nat.lt_trans (by decide : sysModules < mainGlobals) (Heap.lt_size (J.ok.bs _ _ ho).1)
  have h1 : ∀ a ∈ cl.map (·.2), s.heap.objs.size ≤ a ∧ H1 a = none := fun a ha => by
    obtain ⟨⟨x, a'⟩, hm, rfl⟩ := List.mem_map.mp ha
    have e := hc x a' hm
    exact ⟨J.ok.cab x a' rfl e, J.freeC x a' e⟩
  have h2 : ∀ (i : Nat) x a y v, cl[i]? = some (x, a) → cv[i]? = some (y, v) → ∃ u, RelV v u ∧ s1.heap.IsCell a (some u) := fun i x a y v h1 h2 => by
    have e := hc x a (List.mem_of_getElem? h1)
    have ex : (cl.map (·.1))[i]? = some x := by rw [List.getElem?_map, h1]; rfl
    rw [hz, List.getElem?_map, h2] at ex
    have ex : y = x := Option.some.inj ex
    subst ex
    obtain ⟨k, j, hj, hs⟩ := hv y v (List.mem_of_getElem? h2)
    obtain ⟨u, ru, l⟩ := hl j y v hj hs (.inr (.inl k))
    rcases l with ⟨k', _⟩ | ⟨_, a', e', z⟩
    · have k' : scope.names.lookup y = some .local := k'
      rw [k] at k'
      cases k'
    · have e' : (cellsFrom (s.heap.objs.size + 1) scope.names []).lookup y = some a' := e'
      rw [e] at e'
      cases e'
      exact ⟨u, ru, z⟩
  obtain ⟨un, hok⟩ := addC_ok (cl := cl) (cv := cv) J.base J.hok big nd h1 h2
  exact ⟨v, addC H1 cl cv, J.os, J.bare, un, hok, r, q⟩
end
end My
set_option Elab.async false
set_option linter.all false
set_option maxRecDepth 100000
set_option maxHeartbeats 1000000
namespace My
open PySem PySem.W L2
open PyProof.Rows (envOfC)
section
variable {CX : CXT} {P : Program} {w : World} {K : Frag} {mg : Str → Option Value} {base : Heap} {k : Nat} {N ps zs : List Str} {name qual nm qn : Str} {params args : Arguments} {scope sc : Scope} {g c pl : Addr} {dV kV doc pm ct oc : Value} {an od : Option Addr} {osl : Array (Option Value)} {sp : Sp} {body b : List Stmt} {i : Nat} {pos pn pr : Pos} {cl : Nat → List (Str × Addr)}
theorem fn_start (lk : K.lookup g = some ⟨oc, od, .func (fnOf name qual params body scope dV kV doc pm an (.ref c) ct), osl⟩) (hcd : codeIn K (.ref c) qual = true) (S : FnScope N ps scope) (len : ∀ vs H Q E, sp vs H Q E → vs.length = ps.length)
    (hbody : ∀ (A : Around) (outer : List Env) (s s1 : Shared) (H : Hp) (vs : List V) (Q : VK) (E : XK), Room k (A.deeper (envOfC qual scope s.heap.objs.size g (.ref c))) → sp vs H Q E → Inv (cxOf CX P w K mg base N qual scope g (.ref c) A outer s H E) [] (start N vs) H s1 →
      wpAny (model P w) (A.deeper (envOfC qual scope s.heap.objs.size g (.ref c))) (execs body (envOfC qual scope s.heap.objs.size g (.ref c))) (fun fl s' => CE outer P w H s Q (match fl with | .ret v => v | _ => .none) s') (cxOf CX P w K mg base N qual scope g (.ref c) A outer s H E).xe s1) :
    FnOk P w K mg base CX (k + 1) g (fnOf name qual params body scope dV kV doc pm an (.ref c) ct) ps sp := by
  refine ⟨len, fun A outer s H args us vs Q E hr e0 hb r hsp => ?_⟩
  have hl := len _ _ _ _ hsp
  have KX : K.In s.heap := e0.mod.kin.keeps fun b o e => (e0.bs b o e).1
  have lim : s.heap.NoLimit := e0.mod.nolimit.keeps fun b o e => (e0.bs b o e).1
  have hkind : ∀ y ∈ ps.zip us, scope.names.lookup y.1 = some .local ∨ (scope.names.lookup y.1 = some .cell ∧ ((cellsFrom (s.heap.objs.size + 1) scope.names []).lookup y.1).isSome = true) := fun ⟨n, v⟩ hy => by
    rcases S.par n (List.of_mem_zip hy).1 with q | q
    · exact .inl q
    · exact .inr ⟨q, PySem.W.cellsFrom_some _ _ _ (.inl q)⟩
  refine codeAny_call_function hr.depth (KX _ _ lk) rfl S.co S.gen rfl (PySem.W.codeRec_of KX hcd) (hb _ _ _ _ ?_)
  refine wpAny_newFunctionEnv_cells S.kind hkind fun env he s1 x => ?_
  subst he
  refine ⟨lim.keeps x.toInCall.keep, codeAny_func ?_⟩
  have I : Inv (cxOf CX P w K mg base N qual scope g (.ref c) A outer s H E) [] (start N vs) H s1 := inv_start S hr.hd e0 hl r x
  exact wpAny_mono (hbody A outer s s1 H vs Q E (hr.deeper _) hsp I) (fun fl s' h => h) fun e s' h => h
def Kpt (scope : Scope) (N zs : List Str) (σ : St) (cv : List (Str × V)) : Prop := zs = cv.map (·.1) ∧ ∀ x v, (x, v) ∈ cv → scope.names.lookup x = some .cell ∧ ∃ j : Nat, N[j]? = some x ∧ σ[j]? = some (some v)
theorem fn_lam {e : Expr} (lk : K.lookup g = some ⟨oc, od, .func (fnOf name qual params [.Return (some (.Lambda args e sc pos)) pr] scope dV kV doc pm an (.ref c) ct), osl⟩) (hcd : codeIn K (.ref c) qual = true) (S : FnScope N ps scope) (len : ∀ vs H Q E, sp vs H Q E → vs.length = ps.length) (Z : MkK K mg base c pl) {al : List (Pos × Str)} (tp : TabP al pos qn)
    (hd : ∀ L, defaultsOf args (envOfC qual scope L g (.ref c)) = ([], [])) (hqn : ∀ L, (envOfC qual scope L g (.ref c)).qual ++ Str.ofString "<lambda>" = qn) (hcl : ∀ L, closureFor sc (envOfC qual scope L g (.ref c)) = pure (cl L)) (hc : ∀ L x a, (x, a) ∈ cl L → (cellsFrom (L + 1) scope.names []).lookup x = some a) (ndA : ∀ L, ((cl L).map (·.2)).Nodup) (ndX : ∀ L, ((cl L).map (·.1)).Nodup) (hz : ∀ L, (cl L).map (·.1) = zs)
    (hsp : ∀ vs H Q E, sp vs H Q E → ∃ cv, Kpt scope N zs (start N vs) cv ∧ MkQ H pl al qn zs cv (fun cl _ pm ctv c' => kla_fn (Str.ofString "<lambda>") qn args e sc cl pm (.ref c') ctv) Q) :
    FnOk P w K mg base CX (k + 1) g (fnOf name qual params [.Return (some (.Lambda args e sc pos)) pr] scope dV kV doc pm an (.ref c) ct) ps sp := by
  refine fn_start lk hcd S len fun A outer s s1 H vs Q E hr h I => ?_
  obtain ⟨cv, ⟨k1, k2⟩, q⟩ := hsp vs H Q E h
  refine wpAny_execs_cons (wpAny_Return_some (kla_eval (hd _) ?_))
  rw [hqn]
  refine wp_mkLam (X := cxOf CX P w K mg base N qual scope g (.ref c) A outer s H E) I rfl Z q.1 tp (hcl _) fun f c' ctv pm H2 s2 I2 M => ?_
  have fresh : ∀ x ∈ (cl s.heap.objs.size).map (·.2), H2 x = none := fun x hx => by
    obtain ⟨⟨y, a⟩, hm, rfl⟩ := List.mem_map.mp hx
    exact I2.freeC y a (hc _ y a hm)
  refine ce_cells (v := .ref f) (cv := cv) I2 (hc _) (ndA _) (by rw [hz, k1]) k2 rfl ?_
  have x := addC_ext (cv := cv) fresh
  refine q.2 f c' _ .none pm ctv _ (fun b o e n => x b o (M.ext b o e n)) M.new (x _ _ M.fn) (x _ _ M.cd) ⟨by rw [hz, k1], fun i x a y v h1 h2 => .inl (addC_cells (ndA _) i x a y v h1 h2), ndA _, ndX _⟩ (hz _) (fun y hy => ⟨?_, fun e => ?_, fun e => ?_⟩) ?_
  · have n := fresh y hy
    cases e : H y with
    | none => rfl
    | some o =>
      by_cases z : y = pl
      · subst z
        obtain ⟨_, t, _⟩ := M.tb
        rw [t] at n; cases n
      · rw [M.ext y o e z] at n; cases n
  · exact absurd M.fn (by rw [← e, fresh y hy]; simp)
  · exact absurd M.cd (by rw [← e, fresh y hy]; simp)
  · obtain ⟨L, t, td⟩ := M.tb
    exact ⟨L, x _ _ t, fun e he => ⟨(td e he).1, x _ _ (td e he).2⟩⟩
end
end My
set_option Elab.async false
set_option linter.all false
set_option maxRecDepth 100000
set_option maxHeartbeats 4000000
set_option exponentiation.threshold 5000
namespace My
open PySem PySem.W L2
def keyD : Key → PyData
  | .inl i => .int i
  | .inr x => .str x
  | .non => .none
mutual
inductive Rds (G : Hp) : V → PyData → Prop
  | non : Rds G .non .none
  | bl (b : Bool) : Rds G (.bl b) (.bool b)
  | int (i : Int) : Rds G (.int i) (.int i)
  | str (x : Str) : Rds G (.str x) (.str x)
  | lst {a : Addr} {xs : List V} {ds : List PyData} : G a = some (.lst xs) → RdsAll G xs ds → Rds G (.ref a) (.list ds)
  | tup {a : Addr} {xs : List V} {ds : List PyData} : G a = some (.tup xs) → RdsAll G xs ds → Rds G (.ref a) (.tuple ds)
  | dic0 {a : Addr} : G a = some (.dK []) → Rds G (.ref a) (.dict [])
  | dic {a : Addr} {k : Key} {v : V} {d : PyData} : G a = some (.dK [(k, v)]) → Rds G v d → Rds G (.ref a) (.dict [(keyD k, d)])
inductive RdsAll (G : Hp) : List V → List PyData → Prop
  | nil : RdsAll G [] []
  | cons {v : V} {vs : List V} {d : PyData} {ds : List PyData} : Rds G v d → RdsAll G vs ds → RdsAll G (v :: vs) (d :: ds)
end
mutual
theorem Rds.mono {G G' : Hp} (s : Ext G G') : ∀ {v : V} {d : PyData}, Rds G v d → Rds G' v d
  | _, _, .non => .non
  | _, _, .bl b => .bl b
  | _, _, .int i => .int i
  | _, _, .str x => .str x
  | _, _, .lst e r => .lst (s _ _ e) (RdsAll.mono s r)
  | _, _, .tup e r => .tup (s _ _ e) (RdsAll.mono s r)
  | _, _, .dic0 e => .dic0 (s _ _ e)
  | _, _, .dic e r => .dic (s _ _ e) (Rds.mono s r)
theorem RdsAll.mono {G G' : Hp} (s : Ext G G') : ∀ {vs : List V} {ds : List PyData}, RdsAll G vs ds → RdsAll G' vs ds
  | _, _, .nil => .nil
  | _, _, .cons r t => .cons (Rds.mono s r) (RdsAll.mono s t)
end
theorem RdsAll.length {G : Hp} : ∀ {vs : List V} {ds : List PyData}, RdsAll G vs ds → vs.length = ds.length
  | _, _, .nil => rfl
  | _, _, .cons _ t => by rw [List.length_cons, List.length_cons, t.length]
section
variable {P : Program} {w : World} {H : Hp} {h : Heap}
theorem key_reads {k : Key} {u : Value} (r : (mixKind P w).is k u = true) : Reads h u (keyD k) [] := by
  rw [mixKind_is] at r
  rcases keyIs_shape r with ⟨i, t, rfl, rfl⟩ | ⟨x, t, rfl, rfl⟩ | ⟨rfl, rfl⟩
  · exact .int i t
  · exact .str x t
  · exact .none
theorem pairs0 {es : List DictEntry} (ps : Pairs (mixKind P w) es ([] : List (Key × Value))) : es = [] := by
  cases ps
  rfl
theorem pairs1 {es : List DictEntry} {k : Key} {u : Value} (ps : Pairs (mixKind P w) es [(k, u)]) : ∃ e, es = [e] ∧ (mixKind P w).is k e.key = true ∧ e.val = u := by
  cases ps with
  | cons h1 h2 h3 =>
    cases h3
    exact ⟨_, rfl, h1, h2⟩
mutual
theorem reads_of (ok : HOk P w H h) (z : H sysModules = none) : ∀ {v : V} {d : PyData} {u : Value}, Rds H v d → RelV v u → ∃ as, Reads h u d as ∧ sysModules ∉ as
  | _, _, _, .non, r => by cases r; exact ⟨[], .none, by simp⟩
  | _, _, _, .bl b, r => by cases r; exact ⟨[], .bool b, by simp⟩
  | _, _, _, .int i, r => by obtain ⟨t, rfl⟩ := r; exact ⟨[], .int i t, by simp⟩
  | _, _, _, .str x, r => by obtain ⟨t, rfl⟩ := r; exact ⟨[], .str x t, by simp⟩
  | _, _, _, .lst (a := a) e t, r => by
    cases r
    obtain ⟨_, its, n, rv, ho⟩ := (show ObjOk P w H h _ (.lst _) from ok _ _ e)
    obtain ⟨as, ra, na⟩ := readsAll_of ok z t rv
    refine ⟨a :: as, .list ho rfl rfl (by simpa using ra), ?_⟩
    intro m
    rcases List.mem_cons.mp m with m | m
    · rw [← m, z] at e; cases e
    · exact na m
  | _, _, _, .tup (a := a) e t, r => by
    cases r
    obtain ⟨_, its, rv, o, ho, hc, n, hd⟩ := (show ObjOk P w H h _ (.tup _) from ok _ _ e)
    obtain ⟨as, ra, na⟩ := readsAll_of ok z t rv
    exact ⟨as, .tuple ho hc hd (by simpa using ra), na⟩
  | _, _, _, .dic0 (a := a) e, r => by
    cases r
    obtain ⟨_, hs, vs, kv, o, es, ep, ho, hx, hd, hks, hps, hnd⟩ := (show ObjOk P w H h _ (.dK _) from ok _ _ e)
    cases kv
    have ee : es.toList = [] := pairs0 hps
    refine ⟨a :: [] ++ [], .dict (kvs := []) ho hx.1 hd (by rw [ee]; exact .nil) (by rw [ee]; exact .nil), ?_⟩
    intro m
    have m' : sysModules = a := by simpa using m
    rw [← m', z] at e; cases e
  | _, _, _, .dic (a := a) (k := k) e t, r => by
    cases r
    obtain ⟨_, hs, vs, kv, o, es, ep, ho, hx, hd, hks, hps, hnd⟩ := (show ObjOk P w H h _ (.dK _) from ok _ _ e)
    cases kv with
    | cons q q' =>
      cases q'
      obtain ⟨hq1, hq2⟩ := q
      obtain ⟨e0, ee, ek, ev⟩ := pairs1 hps
      rw [← ev] at hq2
      rw [← hq1] at ek
      obtain ⟨as, ra, na⟩ := reads_of ok z t hq2
      have rk : ReadsAll h [e0.key] [keyD k] ([] ++ []) := .cons (key_reads ek) .nil
      have rv : ReadsAll h [e0.val] [_] (as ++ []) := .cons ra .nil
      refine ⟨a :: ([] ++ []) ++ (as ++ []), .dict (kvs := [(keyD k, _)]) ho hx.1 hd (by rw [ee]; exact rk) (by rw [ee]; exact rv), ?_⟩
      intro m
      rw [List.append_nil, List.append_nil] at m
      rcases List.mem_cons.mp m with m | m
      · rw [← m, z] at e; cases e
      · exact na (by simpa using m)
theorem readsAll_of (ok : HOk P w H h) (z : H sysModules = none) : ∀ {vs : List V} {ds : List PyData} {us : List Value}, RdsAll H vs ds → Vals vs us → ∃ as, ReadsAll h us ds as ∧ sysModules ∉ as
  | _, _, _, .nil, r => by cases r; exact ⟨[], .nil, by simp⟩
  | _, _, _, .cons r t, rv => by
    cases rv with
    | cons q qs =>
      obtain ⟨as, ra, na⟩ := reads_of ok z r q
      obtain ⟨bs, rb, nb⟩ := readsAll_of ok z t qs
      refine ⟨as ++ bs, .cons ra rb, fun m => ?_⟩
      rcases List.mem_append.mp m with m | m
      · exact na m
      · exact nb m
end
end
section
variable {X : Cx}
end
def kindD : PyData → String
  | .none => "NoneType"
  | .bool _ => "bool"
  | .int _ => "int"
  | .str _ => "str"
  | .list _ => "list"
  | .tuple _ => "tuple"
  | _ => "dict"
def tupB : PyData → Bool
  | .tuple _ => true
  | _ => false
def inD (lo hi : Int) : PyData → Bool
  | .int i => decide (lo ≤ i) && decide (i ≤ hi)
  | _ => false
section
variable {K : Frag} {H : Hp} {v : V} {d : PyData}
theorem Rds.ty (r : Rds H v d) : TyOf K H v (.type (kindD d)) := by
  cases r with
  | non => exact .non
  | bl b => exact .bl b
  | int i => exact .int i
  | str x => exact .str x
  | lst e _ => exact .lst e
  | tup e _ => exact .tup e
  | dic0 e => exact .dK e
  | dic e _ => exact .dK e
theorem Rds.kd (r : Rds H v d) : Kd K H v (.type (kindD d)) := .inl r.ty
theorem Rds.isT (r : Rds H v d) : kitOne K (.type (kindD d)) (.type "tuple") = some (tupB d) := by cases r <;> rfl
theorem Rds.th (r : Rds H v d) : Th K H v := by
  cases r with
  | int i => exact .inl ⟨i, rfl⟩
  | non => exact .inr ⟨fun i z => (by cases z), _, _, _, .inl .non, rfl, rfl, rfl⟩
  | bl b => exact .inr ⟨fun i z => (by cases z), _, _, _, .inl (.bl b), rfl, rfl, rfl⟩
  | str x => exact .inr ⟨fun i z => (by cases z), _, _, _, .inl (.str x), rfl, rfl, rfl⟩
  | lst e _ => exact .inr ⟨fun i z => (by cases z), _, _, _, .inl (.lst e), rfl, rfl, rfl⟩
  | tup e _ => exact .inr ⟨fun i z => (by cases z), _, _, _, .inl (.tup e), rfl, rfl, rfl⟩
  | dic0 e => exact .inr ⟨fun i z => (by cases z), _, _, _, .inl (.dK e), rfl, rfl, rfl⟩
  | dic e _ => exact .inr ⟨fun i z => (by cases z), _, _, _, .inl (.dK e), rfl, rfl, rfl⟩
theorem Rds.inB (r : Rds H v d) (lo hi : Int) : My.inB lo hi v = inD lo hi d := by cases r <;> rfl
theorem rds_tup (r : Rds H v (.tuple ds)) : ∃ a xs, v = .ref a ∧ H a = some (.tup xs) ∧ RdsAll H xs ds := by
  cases r with
  | tup e t => exact ⟨_, _, rfl, e, t⟩
theorem RdsAll.get {xs : List V} {ds : List PyData} (r : RdsAll H xs ds) : ∀ {i : Nat} {x : V}, xs[i]? = some x → ∃ d, ds[i]? = some d ∧ Rds H x d := by
  induction xs generalizing ds with
  | nil => intro i x h; simp at h
  | cons y ys ih =>
    cases r with
    | cons q t =>
      intro i x h
      cases i with
      | zero => cases h; exact ⟨_, rfl, q⟩
      | succ i => exact ih t h
end
end My
set_option Elab.async false
set_option linter.all false
set_option maxRecDepth 100000
set_option maxHeartbeats 1000000
namespace My
open PySem L2
structure Bx (p : Prop) : Prop where
  h : p
section
variable {X : Cx} {e a b : Expr} {es : List Expr} {te ta tb : TE} {t : TA} {pos : Pos} {st : Stmt} {rest : List Stmt} {ts u v : TS}
theorem bxa_nil : Bx (PA X [] tNil) := ⟨pa_nil⟩
theorem bxa_cons (ha : Bx (PE X e te)) (hr : Bx (PA X es t)) (hs : starEach (e :: es) X.env = (false, eval e X.env) :: starEach es X.env := by rfl) : Bx (PA X (e :: es) (tCons te t)) := ⟨pa_cons ha.h hr.h hs⟩
theorem bx_lst (h : Bx (PA X es t)) : Bx (PE X (.List es pos) (tLst t)) := ⟨pe_lst h.h⟩
theorem bx_ix {r : R2} (hr : IxR X r) (ha : Bx (PE X a ta)) (hb : Bx (PE X b tb)) (hs : PlainIx b) : Bx (PE X (.Subscript a b pos) (tOp r ta tb)) := ⟨pe_ix hr ha.h hb.h hs⟩
theorem bxs_one (h : Bx (PS X st ts)) : Bx (PSs X [st] ts) := ⟨pss_one h.h⟩
theorem bxs_cons (h : Bx (PS X st ts)) (k : Bx (PSs X rest u)) : Bx (PSs X (st :: rest) (tSeq ts u)) := ⟨pss_cons h.h k.h⟩
theorem bx_set {i : Nat} {x : Str} {pos' : Pos} (hN : X.N.Nodup) (hi : X.N[i]? = some x) (hx : Loc X.env.scope x) (he : Bx (PE X e te)) (hs : swapsWith e (some (.Name x pos')) pos.line X.env = pure false := by rfl) (hf : X.fn x = true ∨ X.env.scope.names.lookup x = some .local := by first | exact .inl rfl | exact .inr rfl | assumption) :
    Bx (PS X (.Assign [.Name x pos'] e pos) (tAsg te (gName i))) := ⟨ps_set hN hi hx he.h hs hf⟩
end
end My
set_option Elab.async false
set_option linter.all false
set_option maxRecDepth 100000
set_option maxHeartbeats 1000000
namespace My
open PySem PySem.W L2
open AutoSeq1 (wpAny_loadPart')
section
variable {prog : Program} {w : World} {A : Around} {E : Value → Shared → Prop} {s : Shared} {r : Addr} {a b c : Int} {t u v : Tok} {n : Nat}
theorem collect_range {Q : List Value → Shared → Prop} (hh : A.handled = none) (hr : IsRange s.heap r a b c t u v) (hsmall : Builtin.Range.small a b c = true) (hn : Builtin.Range.rangeSize a b c = n) (hlen : n ≤ 2 ^ 24)
    (hQ : ∀ h' tk acc, (∀ b o, s.heap.get? b = some o → h'.get? b = some o) → ItemsOf (fun i v => ∃ t, v = .int (a + i * c) t) acc n → Q acc.toList { s with heap := h', toks := tk }) :
    wpAny (model prog w) A (collect (.ref r)) Q E s := by
  unfold collect
  refine wpAny_bind (wpAny_runValue (codeAny_builtin F.entry_proto_collect ?_))
  rw [Around.under_plainId F.plain_proto_collect _]
  show wpAny _ A.in1 (newList [] >>= fun l => again (.builtin "list.__iadd__" ⟨[l, .ref r], []⟩)) _ _ s
  refine wpAny_bind (wpAny_newObj_type ?_)
  refine wpAny_pure ⟨plainId_quiet F.plain_list_iadd _, codeAny_builtin F.entry_list_iadd ?_⟩
  rw [Around.under_plainId F.plain_list_iadd _]
  show wpAny _ A.in1 (Builtin.List.listExtendWith (.ref s.heap.objs.size) (.ref r) (.ref s.heap.objs.size)) _ _ _
  have hS : (s.heap.push { cls := .type "list", data := .seq ([] : List Value).toArray }).get? s.heap.objs.size = some { cls := .type "list", data := .seq #[] 0 } := Heap.get?_push_size _ rfl
  refine wpAny_mono (wpAny_extend_range (A := A) (R := fun x s' => ∃ h' tk acc c', x = .ok (.ret (.ref s.heap.objs.size)) ∧ s' = { s with heap := h', toks := tk } ∧ (∀ b o, s.heap.get? b = some o → h'.get? b = some o) ∧ h'.get? s.heap.objs.size = some { cls := .type "list", dict := none, data := .seq acc c', slots := #[] } ∧ ItemsOf (fun i v => ∃ t, v = .int (a + i * c) t) acc n)
    (s := { s with heap := s.heap.push { cls := .type "list", data := .seq ([] : List Value).toArray } }) hh (Heap.get?_push_of_some _ hr) hsmall hn hlen s.heap.objs.size (.ref s.heap.objs.size) 0 hS (fun h' tk acc c' hk hS' hacc => ⟨h', tk, acc, c', rfl, rfl, fun b o e => hk b o (Nat.ne_of_lt (Heap.lt_size e)) (Heap.get?_push_of_some _ e), hS', hacc⟩)) (fun fin s' h => ?_) (fun e s' h => ?_)
  · have fin' : ∀ s'', (∃ h' tk acc c', s'' = { s with heap := h', toks := tk } ∧ (∀ b o, s.heap.get? b = some o → h'.get? b = some o) ∧ h'.get? s.heap.objs.size = some { cls := .type "list", dict := none, data := .seq acc c', slots := #[] } ∧ ItemsOf (fun i v => ∃ t, v = .int (a + i * c) t) acc n) → wpAny (model prog w) A (match Value.ref s.heap.objs.size with
      | Value.ref a => do
        match (← load a).data with
          | Data.seq xs _ => pure xs.toList
          | _ => unsupported "internal:collect"
      | _ => unsupported "internal:collect") Q E s'' := fun s'' hx => by
      obtain ⟨h', tk, acc, c', rfl, hk, hS', hacc⟩ := hx
      show wpAny _ A (load s.heap.objs.size >>= _) _ _ _
      refine wpAny_bind (wpAny_load hS' ?_)
      exact wpAny_pure (hQ h' tk acc hk hacc)
    cases fin with
    | done f =>
      obtain ⟨h', tk, acc, c', e, h⟩ := h
      cases e
      exact fin' _ ⟨h', tk, acc, c', h⟩
    | again c' => exact ⟨h.1, codeAny_mono h.2 fun x s'' hr => by obtain ⟨h', tk, acc, c', rfl, hr⟩ := hr; exact fin' _ ⟨h', tk, acc, c', hr⟩⟩
  · obtain ⟨_, _, _, _, e, _⟩ := h
    cases e
end
theorem meets_tuple_new_range (r : Addr) (a b c : Int) (t u v : Tok) (n : Nat) (hsmall : Builtin.Range.small a b c = true) (hn : Builtin.Range.rangeSize a b c = n) (hlen : n ≤ 2 ^ 24) :
    Meets (Builtin.«tuple.__new__» ⟨[.type "tuple", .ref r], []⟩)
      (fun A R s => A.handled = none ∧ IsRange s.heap r a b c t u v ∧ ∀ (h' : Heap) (tk : Nat) (acc : Array Value), (∀ b o', s.heap.get? b = some o' → h'.get? b = some o') → ItemsOf (fun i v => ∃ t, v = .int (a + i * c) t) acc n → R (.ok (.ret (.ref h'.objs.size))) { s with heap := h'.push { cls := .type "tuple", data := .seq acc }, toks := tk }) :=
  .of_wp fun prog w A R s h => by
    obtain ⟨hh, hr, h⟩ := h
    have hsub := sub_tuple_self
    have hinit := init_tuple_lookup
    have hmh := madeHere_tuple
    have hT : s.TypeIs (.ref r) "range" := ⟨_, hr, rfl⟩
    have hh1 : A.in1.handled = none := hh
    wp_walk using wpAny_typeOf hT, collect_range hh1 hr hsmall hn hlen
    intro h' tk acc hk hacc
    show wpAny _ _ (Builtin.Tuple.tupleExact acc.toList.toArray >>= fun v => ret v) _ _ _
    unfold Builtin.Tuple.tupleExact
    refine wpAny_bind (wpAny_newObj_type ?_ (show acc.toList.toArray.size ≤ sizeLine by simp only [Array.toArray_toList]; rw [hacc.1, sizeLine_eq]; omega))
    refine wpAny_pure ⟨_, rfl, ?_⟩
    have e : acc.toList.toArray = acc := by simp
    rw [e]
    exact h h' tk acc hk hacc
theorem call_tuple_range {prog : Program} {w : World} {A : Around} {E : Value → Shared → Prop} {s : Shared} {r : Addr} {a b c : Int} {t u v : Tok} {n : Nat} {Q : Value → Shared → Prop} (hh : A.handled = none) (hr : IsRange s.heap r a b c t u v) (hsmall : Builtin.Range.small a b c = true) (hn : Builtin.Range.rangeSize a b c = n) (hlen : n ≤ 2 ^ 24)
    (h : ∀ (h' : Heap) (tk : Nat) (acc : Array Value), (∀ b o', s.heap.get? b = some o' → h'.get? b = some o') → ItemsOf (fun i v => ∃ t, v = .int (a + i * c) t) acc n → Q (.ref h'.objs.size) { s with heap := h'.push { cls := .type "tuple", data := .seq acc }, toks := tk }) :
    wpAny (model prog w) A (call (.type "tuple") [.ref r]) Q E s :=
  callType_new F.called_tuple (by decide) (F.typeCall_tuple_1 _) (F.newCall_tuple_1 _) (fun obj => F.args_object_init_2 obj _) F.entry_tuple_new
    (meets_tuple_new_range r a b c t u v n hsmall hn hlen) ⟨hh, hr, fun h' tk acc hk hacc => ⟨⟨_, Heap.get?_push_size _ rfl, rfl⟩, h h' tk acc hk hacc⟩⟩
def upL (lo : Int) (n : Nat) : List V := (List.range n).map fun i => V.int (lo + (i : Nat))
theorem upL_length (lo : Int) (n : Nat) : (upL lo n).length = n := by unfold upL; simp
theorem upL_vals {lo : Int} {n : Nat} {acc : Array Value} (h : ItemsOf (fun i v => ∃ t, v = Value.int (lo + i * 1) t) acc n) : Vals (upL lo n) acc.toList := by
  have gen : ∀ (xs : List V) (us : List Value), xs.length = us.length → (∀ (i : Nat) x u, xs[i]? = some x → us[i]? = some u → RelV x u) → Vals xs us := by
    intro xs
    induction xs with
    | nil => intro us l _; cases us with | nil => exact .nil | cons _ _ => cases l
    | cons x xs ih =>
      intro us l g
      cases us with
      | nil => cases l
      | cons u us => exact .cons (g 0 x u rfl rfl) (ih us (by simpa using l) fun i x' u' h1 h2 => g (i + 1) x' u' h1 h2)
  refine gen _ _ (by rw [upL_length]; simp [h.1]) fun i x u hx hu => ?_
  unfold upL at hx
  rw [List.getElem?_map] at hx
  obtain ⟨j, hj, rfl⟩ := Option.map_eq_some_iff.mp hx
  have ej : i = j := by
    have := List.getElem?_eq_some_iff.mp hj
    simpa using this.2
  subst ej
  obtain ⟨t, e⟩ := h.2 i u (by simpa using hu)
  refine ⟨t, ?_⟩
  rw [e, Int.mul_one]
section
variable {X : Cx}
def rRng1 : List V → Hp → VK → Prop := fun vs H Q => ∃ j : Int, vs = [.int j] ∧ ∀ r, H r = none → Q (.ref r) (upd H r (.rng 0 j))
theorem call_rng1 : CallR X (.type "range") rRng1 := by
  intro pins s σ H xs us Q I r h
  obtain ⟨j, rfl, q⟩ := h
  obtain ⟨u, rfl, t, rfl⟩ := vals1 r
  refine call_range_1 ⟨.ref s.heap.objs.size, _, I.laid (t' := s.toks + 1 + 1) (o := .rng 0 j) (fun b o e => Heap.get?_push_of_some _ e) (Nat.le_refl _) ?_, rfl, q _ (I.hok.fresh (Nat.le_refl _))⟩
  exact ⟨_, _, _, Heap.get?_push_size _ rfl⟩
def rTupR : List V → Hp → VK → Prop := fun vs H Q => ∃ (p : Addr) (lo hi : Int), vs = [.ref p] ∧ H p = some (.rng lo hi) ∧ (-(2 ^ 62) ≤ lo ∧ lo < 2 ^ 62 ∧ -(2 ^ 62) ≤ hi ∧ hi < 2 ^ 62) ∧ (hi - lo).toNat ≤ 2 ^ 24 ∧ ∀ l, H l = none → Q (.ref l) (upd H l (.tup (upL lo (hi - lo).toNat)))
theorem call_tupR (hc : X.calm = true) : CallR X (.type "tuple") rTupR := by
  intro pins s σ H xs us Q I r h
  obtain ⟨p, lo, hi, rfl, hp, ⟨b1, b2, b3, b4⟩, hl, q⟩ := h
  obtain ⟨u, rfl, rx⟩ := vals1 r
  cases (show u = Value.ref p from rx)
  obtain ⟨t, u, v, e⟩ := (show ObjOk X.prog X.w H s.heap p (.rng lo hi) from I.hok p _ hp)
  have en : Builtin.Range.rangeSize lo hi 1 = (((hi - lo).toNat : Nat) : Int) := by rw [rangeSize_one]; split <;> omega
  refine call_tuple_range (I.ok.hd hc) e (small_one b1 b2 b3 b4) en hl fun h' tk acc kp hacc => ?_
  have I1 : Inv X pins σ H { s with heap := h' } := I.kept (t' := s.toks) kp
  have ha : acc.toList.toArray = acc := by simp
  have I2 : Inv X pins σ (upd H h'.objs.size (.tup (upL lo (hi - lo).toNat))) { s with heap := h'.push { cls := .type "tuple", data := .seq acc }, toks := tk } :=
    I1.laid (t' := tk) (fun b o e => Heap.get?_push_of_some _ e) (Nat.le_refl _) (show ObjOk X.prog X.w _ _ _ (.tup _) from ⟨by rw [upL_length, sizeLine_eq]; omega, acc.toList, upL_vals hacc, by rw [ha]; exact PyProof.Rows.IsTup.new _ _⟩)
  exact ⟨.ref h'.objs.size, _, I2, rfl, q _ (I1.hok.fresh (Nat.le_refl _))⟩
end
end My
set_option Elab.async false
set_option linter.all false
set_option maxRecDepth 100000
set_option maxHeartbeats 1000000
namespace My
open PySem L2
section
variable {X : Cx}
end
section
variable {X : Cx} {σ : St}
def PXSs (X : Cx) (σ : St) (sts : List Stmt) (t : TS) : Prop := ∀ (pins : List (Addr × Obj)) (s : Shared) (H : Hp) (D : Ends), Inv X pins σ H s → t D σ H → wpAny (model X.prog X.w) X.A (execs sts X.env) (SP X pins D) X.xe s
theorem pxss_one {st : Stmt} {t : TS} (h1 : PXS X σ st t) : PXSs X σ [st] t := by
  intro pins s H D I h
  refine wpAny_execs_cons (thn (h1 pins s H _ I h) fun f s1 q => ?_)
  cases f with
  | next => obtain ⟨σ1, H1, I1, q⟩ := q; exact wpAny_execs_nil ⟨σ1, H1, I1, q⟩
  | ret v => exact q
  | brk => exact q
  | cont => exact q
theorem pxs_if {c : Expr} {a b : List Stmt} {tc : TT} {t u : TS} {pos : Pos} (hc : PT X c tc) (ha : PXSs X σ a t) (hb : PXSs X σ b u) : PXS X σ (.If c a b pos) (tIfS tc t u) := by
  intro pins s H D I h
  refine wpAny_If (thn (hc pins s σ H _ I h) fun d s1 ⟨H1, I1, q1⟩ => ?_)
  cases d with
  | true => exact ha pins s1 H1 D I1 q1
  | false => exact hb pins s1 H1 D I1 q1
end
end My
set_option Elab.async false
set_option linter.all false
set_option maxRecDepth 100000
set_option maxHeartbeats 1000000
namespace My
open PySem PySem.W L2
section
variable {K : Frag} {te : TE} {tt : TT} {g : TG} {k : Nat} {cap : St} {D : Addr} {H1 : Hp} {Q : Hp → Prop} {a : Addr} {xs : List V}
end
end My
set_option Elab.async false
set_option linter.all false
set_option maxRecDepth 100000
set_option maxHeartbeats 4000000
namespace My
open PySem L2
section
variable {X : Cx} {sc : Scope} {cl : List (Str × Addr)} {ts zs : List Str} {js : List Nat} {elt iter c : Expr} {pos : Pos} {tg : Expr} {g : TG} {wi : TI} {te : TE} {tt : TT}
end
section
variable {X : Cx} {sc : Scope} {cl : List (Str × Addr)} {ts zs : List Str} {js : List Nat} {elt iter c : Expr} {pos : Pos} {tg : Expr} {g : TG} {wi : TI} {te : TE} {tt : TT}
end
end My
set_option Elab.async false
set_option linter.all false
set_option maxRecDepth 100000
set_option maxHeartbeats 1000000
namespace My
open PySem PySem.W L2
section
variable {X : Cx} {pos : Pos}
end
section
variable {K : Frag} {te : TE} {g : TG} {k : Nat} {cap : St} {D : Addr} {H1 : Hp} {Q : Hp → Prop}
end
end My
set_option Elab.async false
set_option linter.all false
set_option maxRecDepth 100000
set_option maxHeartbeats 1000000
namespace My
open PySem PySem.W L2
section
variable {X : Cx}
end
end My
set_option Elab.async false
set_option linter.all false
set_option maxRecDepth 100000
set_option maxHeartbeats 1000000
namespace My
open PySem PySem.W L2
open Sem (wp)
open AutoSeq1 (wpAny_loadPart')
open PyProof.Rows (Call_ boot_enumerate)
section
variable {prog : Program} {w : World} {A : Around} {E : Value → Shared → Prop} {s : Shared}
end
section
variable {X : Cx}
end
end My
set_option Elab.async false
set_option linter.all false
set_option maxRecDepth 100000
set_option maxHeartbeats 1000000
namespace My
open PySem PySem.W L2 PyProof.Rows
section
variable {X : Cx} {e : Expr} {te : TE} {pos p1 p2 p3 : Pos}
end
end My
set_option Elab.async false
set_option linter.all false
set_option maxRecDepth 100000
set_option maxHeartbeats 1000000
namespace My
open PySem PySem.W L2
structure OneF (K : Frag) (mg : Str → Option Value) (D : Addr) (nm fld : Str) (C f : Addr) (fd : FuncData) : Prop where
  cls : ErrC K D nm C f
  mgC : mg nm = some (.ref C)
  ok : ∀ (P : Program) (w : World) (base : Heap), FnOk P w K mg base CX0 1 f fd ["self", fld] (spErr C fld)
  bi : Binds K fd ["self", fld] []
structure Df (P : Program) (w : World) (K : Frag) (mg : Str → Option Value) (base : Heap) (cx : CXT) (k : Nat) (nm : Str) (ps : List Str) (sp : Sp) (g : Addr) (gd : FuncData) : Prop where
  G : FnOk P w K mg base cx k g gd ps sp
  b : Binds K gd ps []
  kp : keepIn K (.ref g) = true
  m : mg nm = some (.ref g)
theorem passN {P : Program} {w : World} {X : Cx} : Passes (CXE P w) X E0 := fun _ _ _ _ _ _ _ h => by
  obtain ⟨_, _, _, _, _, _, _, _, _, _, _, _, _, h⟩ := h
  exact h.elim
def ErrF (C : Addr) (fld : Str) (x : V) (H : Hp) (E : XK) : Prop := ∀ e dx, H e = none → H dx = none → dx ≠ e → E (.ref C) (some e) (upd (upd H dx (.xd [(fld, x)])) e (ErrT e C (some dx)))
theorem inD_int {lo hi : Int} {d : PyData} (h : inD lo hi d = true) : ∃ i, d = .int i ∧ lo ≤ i ∧ i ≤ hi := by
  cases d with
  | int i =>
    have h' : (decide (lo ≤ i) && decide (i ≤ hi)) = true := h
    rw [Bool.and_eq_true, decide_eq_true_iff, decide_eq_true_iff] at h'
    exact ⟨i, rfl, h'.1, h'.2⟩
  | _ => cases h
section
variable {P : Program} {w : World} {K : Frag} {mg : Str → Option Value} {base : Heap}
end
def Kept (H H' : Hp) (p : Addr) : Prop := ∀ b o, H b = some o → b ≠ p → H' b = some o
theorem Kept.trans {H H1 H2 : Hp} {p : Addr} (x : Kept H H1 p) (y : Kept H1 H2 p) : Kept H H2 p := fun b o h n => y b o (x b o h n) n
theorem Ext.kept {H H' : Hp} (x : Ext H H') (p : Addr) : Kept H H' p := fun b o h _ => x b o h
def wo (H : Hp) (p : Addr) : Hp := fun b => if b = p then none else H b
structure BoxAt (H : Hp) (p : Addr) : Prop where
  ex : ∃ a b c : Int, H p = some (.lst [.int a, .int b, .int c]) ∧ 0 ≤ a ∧ 0 ≤ b ∧ 0 ≤ c ∧ c < 2147483647
section
variable {X : Cx} {CX : CXT} {k : Nat} {f : Addr} {fd : FuncData} {ps : List Str} {sp : Sp} {E : XK} {x : Str} {p pos : Pos} {e : Expr} {es : List Expr} {t : TA} {σ : St}
end
structure Fi (k n : Nat) (d : PyData) : Prop where
  sh : d.showable = true
  dp : d.depth ≤ k
  lv : d.leavesShort 64 = true
  bk : d.bulk ≤ n
theorem fi_int {i : Int} (h : i.natAbs < 10 ^ 30) : Fi 0 2 (.int i) := by
  refine ⟨?_, by simp [PyData.depth], ?_, by simp [PyData.bulk]⟩
  · simp only [PyData.showable, decide_eq_true_eq]
    by_cases z : i.natAbs = 0
    · rw [z]; decide
    · exact (Nat.log2_lt z).mpr (Nat.lt_trans h (by decide +kernel))
  · have e := int_text_length_le10 (k := 30) (by decide) h
    simp only [PyData.leavesShort, PyData.shown]
    refine decide_eq_true (show (Str.ofString (toString i)).length ≤ 64 from ?_)
    rw [ofString_length]
    omega
theorem fi_small {i : Int} (h1 : -1000000000 ≤ i) (h2 : i ≤ 1000000000) : Fi 0 2 (.int i) := fi_int (Nat.lt_of_le_of_lt (show i.natAbs ≤ 1000000000 by omega) (by decide))
section
variable {X : Cx} {σ : St} {e : Expr} {es : List Expr} {t : TA} {p pos : Pos} {x : Str} {r : List V → Hp → VK → Prop}
end
structure FldOk (K : Frag) (C : Addr) (fld : Str) : Prop where
  it : ErrI K C
  hd : hasDictIn K C = true
  nf : findIn K (.ref C) fld = some none
section
variable {K : Frag} {H : Hp} {D : Ends} {σ : St} {p : Addr}
theorem rd_op {r : R2} {ta tb : TE} {Q : VK} (h : ta σ H fun x H1 => tb σ H1 fun y H2 => r x y H2 Q) : tOp r ta tb σ H Q := h
theorem rd_set {te : TE} {i : Nat} {u : TS} (h : te σ H fun v H1 => u D (σ.set i (some v)) H1) : tSeq (tAsg te (gName i)) u D σ H := h
end
section
variable {G G' : Hp} {xs ys : List V} {n m : Nat}
end
structure GE (p : Addr) (k m : Nat) (te : TE) : Prop where
  h : ∀ (σ : St) (H : Hp) (Q : VK), BoxAt H p → (∀ v H', Ext H H' → (∃ d, Rds (wo H' p) v d ∧ Fi k m d) → Q v H') → te σ H Q
section
variable {p : Addr} {k m k' m' n : Nat} {te ta tb : TE} {t : TA}
theorem ge_leaf {v : V} {d : PyData} (r : ∀ G, Rds G v d) (f : Fi k m d) : GE p k m (tC v) := ⟨fun σ H Q bx q => q v H (Ext.refl _) ⟨d, r _, f⟩⟩
theorem ge_int {i : Int} (h1 : -1000000000 ≤ i) (h2 : i ≤ 1000000000) : GE p 0 2 (tC (.int i)) := ge_leaf (fun _ => .int _) (fi_small h1 h2)
end
theorem err_at {C : Addr} {fld : Str} {v : V} {H1 : Hp} {E' : XK} (h : ∀ e dx H', Ext H1 H' → H' e = some (ErrT e C (some dx)) → H' dx = some (.xd [(fld, v)]) → E' (.ref C) (some e) H') : ErrF C fld v H1 E' := fun e dx he hdx ne => by
  have x2 := Ext.new (o := .xd [(fld, v)]) hdx
  have he2 : upd H1 dx (.xd [(fld, v)]) e = none := by rw [upd_ne ne.symm]; exact he
  have x3 := Ext.new (o := ErrT e C (some dx)) he2
  exact h e dx _ (x2.trans x3) upd_same (x3 _ _ upd_same)
section
variable {X : Cx}
end
section
variable {G : Hp → Hp} {σ : St} {H0 : Hp} {k m k' m' n : Nat} {te ta tb : TE} {t : TA}
end
section
variable {H : Hp}
end
section
variable {K : Frag} {H : Hp}
end
section
variable {H : Hp} {De : Ends}
end
end My
set_option Elab.async false
set_option linter.all false
set_option maxRecDepth 100000
set_option maxHeartbeats 1000000
namespace My
open PySem PySem.W L2
section
variable {X : Cx}
end
section
variable {X : Cx}
end
mutual
def eqD : PyData → PyData → Bool
  | .list xs, .list ys => eqDs xs ys
  | .tuple xs, .tuple ys => eqDs xs ys
  | .none, .none => true
  | .bool a, .bool b => a == b
  | .bool a, .int j => (if a then (1 : Int) else 0) == j
  | .int i, .bool b => i == (if b then (1 : Int) else 0)
  | .int i, .int j => i == j
  | .str x, .str y => x == y
  | _, _ => false
def eqDs : List PyData → List PyData → Bool
  | [], [] => true
  | x :: xs, y :: ys => eqD x y && eqDs xs ys
  | _, _ => false
end
mutual
def plainD : PyData → Bool
  | .list xs => plainDs xs
  | .tuple xs => plainDs xs
  | .dict _ => false
  | _ => true
def plainDs : List PyData → Bool
  | [] => true
  | x :: xs => plainD x && plainDs xs
end
mutual
theorem eqD_refl : ∀ {d : PyData}, plainD d = true → eqD d d = true
  | .none, _ => by simp [eqD]
  | .bool b, _ => by simp [eqD]
  | .int i, _ => by simp [eqD]
  | .str x, _ => by simp [eqD]
  | .list xs, h => by simp only [eqD]; exact eqDs_refl (by simpa only [plainD] using h)
  | .tuple xs, h => by simp only [eqD]; exact eqDs_refl (by simpa only [plainD] using h)
  | .dict _, h => by simp [plainD] at h
theorem eqDs_refl : ∀ {ds : List PyData}, plainDs ds = true → eqDs ds ds = true
  | [], _ => by simp [eqDs]
  | d :: ds, h => by
    simp only [plainDs, Bool.and_eq_true] at h
    simp only [eqDs, eqD_refl h.1, eqDs_refl h.2, Bool.and_self]
end
mutual
theorem Rds.det {G : Hp} : ∀ {v : V} {d e : PyData}, Rds G v d → Rds G v e → d = e
  | _, _, _, .non, r => by cases r; rfl
  | _, _, _, .bl b, r => by cases r; rfl
  | _, _, _, .int i, r => by cases r; rfl
  | _, _, _, .str x, r => by cases r; rfl
  | _, _, _, .lst h t, r => by
    cases r with
    | lst h' t' => rw [h] at h'; cases h'; rw [RdsAll.det t t']
    | tup h' _ => rw [h] at h'; cases h'
    | dic0 h' => rw [h] at h'; cases h'
    | dic h' _ => rw [h] at h'; cases h'
  | _, _, _, .tup h t, r => by
    cases r with
    | lst h' _ => rw [h] at h'; cases h'
    | tup h' t' => rw [h] at h'; cases h'; rw [RdsAll.det t t']
    | dic0 h' => rw [h] at h'; cases h'
    | dic h' _ => rw [h] at h'; cases h'
  | _, _, _, .dic0 h, r => by
    cases r with
    | lst h' _ => rw [h] at h'; cases h'
    | tup h' _ => rw [h] at h'; cases h'
    | dic0 h' => rfl
    | dic h' _ => rw [h] at h'; cases h'
  | _, _, _, .dic h t, r => by
    cases r with
    | lst h' _ => rw [h] at h'; cases h'
    | tup h' _ => rw [h] at h'; cases h'
    | dic0 h' => rw [h] at h'; cases h'
    | dic h' t' => rw [h] at h'; cases h'; rw [Rds.det t t']
theorem RdsAll.det {G : Hp} : ∀ {vs : List V} {ds es : List PyData}, RdsAll G vs ds → RdsAll G vs es → ds = es
  | _, _, _, .nil, r => by cases r; rfl
  | _, _, _, .cons h t, r => by
    cases r with
    | cons h' t' => rw [Rds.det h h', RdsAll.det t t']
end
theorem eqDs_all : ∀ (xs ys : List PyData), ((List.range (min xs.length ys.length)).all (fun j => eqD (xs.getD j .none) (ys.getD j .none)) && xs.length == ys.length) = eqDs xs ys
  | [], [] => by simp [eqDs]
  | [], y :: ys => by simp [eqDs]
  | x :: xs, [] => by simp [eqDs]
  | x :: xs, y :: ys => by
    have ih := eqDs_all xs ys
    simp only [eqDs]
    rw [← ih, List.length_cons, List.length_cons, Nat.succ_min_succ, List.range_succ_eq_map, List.all_cons, List.all_map, Bool.and_assoc]
    congr 1
    rw [show (xs.length + 1 == ys.length + 1) = (xs.length == ys.length) from by simp]
    rfl
section
variable {X : Cx}
def EqE (H : Hp) (n : Nat) (x y : V) (b : Bool) : Prop := (∃ a, x = .ref a ∧ y = .ref a ∧ b = true) ∨ ∃ d e, Rds H x d ∧ Rds H y e ∧ plainD d = true ∧ plainD e = true ∧ d.depth ≤ n ∧ b = eqD d e
structure Rc2 (A : Around) (s : Shared) (u v : Value) (b : Bool) : Prop where
  eq : SeqAt.RcAt A s u v b
  ne : SeqAt.RcNeAt A s u v (!b)
structure Rc3 (A : Around) (s : Shared) (u v : Value) (b : Bool) : Prop where
  eq : SeqAt.RcAt A s u v b
  ne : SeqAt.RcNeAt A s u v (!b)
  at_ : SeqAt.EqAt A s u v b
theorem tups_rc {A : Around} {s : Shared} {p q : Addr} {its jts : List Value} (hu : A.units < cLine) (t1 : s.heap.IsTuple p its.toArray) (t2 : s.heap.IsTuple q jts.toArray) (e : Nat → Bool) (he : ∀ j (h1 : j < its.length) (h2 : j < jts.length), SeqAt.EqAt A.in1 s its[j] jts[j] (e j)) :
    Rc2 A s (.ref p) (.ref q) ((List.range (min its.length jts.length)).all e && its.length == jts.length) := by
  have h' : ∀ j (h1 : j < its.toArray.size) (h2 : j < jts.toArray.size), SeqAt.EqAt A.in1 s its.toArray[j] jts.toArray[j] (e j) := fun j h1 h2 => by
    simpa using he j (by simpa using h1) (by simpa using h2)
  have a := SeqAt.RcAt.tuples (e := e) t1 t2 hu h'
  have b := SeqAt.RcNeAt.tuples (e := e) t1 t2 hu h'
  rw [List.size_toArray, List.size_toArray] at a b
  exact ⟨a, b⟩
theorem lsts_rc {A : Around} {s : Shared} {p q : Addr} {its jts : List Value} (hu : A.units < cLine) (t1 : s.heap.IsList p its.toArray) (t2 : s.heap.IsList q jts.toArray) (e : Nat → Bool) (he : ∀ j (h1 : j < its.length) (h2 : j < jts.length), SeqAt.EqAt A.in1 s its[j] jts[j] (e j)) :
    Rc2 A s (.ref p) (.ref q) ((List.range (min its.length jts.length)).all e && its.length == jts.length) := by
  have h' : ∀ j (h1 : j < its.toArray.size) (h2 : j < jts.toArray.size), SeqAt.EqAt A.in1 s its.toArray[j] jts.toArray[j] (e j) := fun j h1 h2 => by
    simpa using he j (by simpa using h1) (by simpa using h2)
  by_cases sz : its.length = jts.length
  · have a := SeqAt.RcAt.lists (e := e) t1 t2 (by simpa using sz) hu h'
    have b := SeqAt.RcNeAt.lists (e := e) t1 t2 (by simpa using sz) hu h'
    rw [List.size_toArray] at a b
    have z : ((List.range (min its.length jts.length)).all e && its.length == jts.length) = (List.range its.length).all e := by
      rw [sz, Nat.min_self]
      simp
    rw [z]
    exact ⟨a, b⟩
  · have z : ((List.range (min its.length jts.length)).all e && its.length == jts.length) = false := by
      rw [show (its.length == jts.length) = false from by simpa using sz]
      simp
    rw [z]
    exact ⟨SeqAt.RcAt.lists_lengths t1 t2 (by simpa using sz) hu, SeqAt.RcNeAt.lists_lengths t1 t2 (by simpa using sz) hu⟩
theorem get_val {xs : List V} {its : List Value} (r : Vals xs its) {j : Nat} (h : j < its.length) : ∃ x, xs[j]? = some x ∧ RelV x its[j] := by
  have k : j < xs.length := by rw [r.length]; exact h
  obtain ⟨u, e, q⟩ := r.get (List.getElem?_eq_getElem k)
  rw [List.getElem?_eq_getElem h] at e
  cases e
  exact ⟨_, List.getElem?_eq_getElem k, q⟩
mutual
theorem eqD_rc {pins : List (Addr × Obj)} {σ : St} {H : Hp} {s : Shared} (I : Inv X pins σ H s) : ∀ {x : V} {d : PyData}, Rds H x d → ∀ {A : Around} {y : V} {e : PyData} {u v : Value}, Rds H y e → plainD d = true → plainD e = true → A.units + d.depth < cLine → RelV x u → RelV y v → Rc3 A s u v (eqD d e)
  | _, _, .non, A, y, e, u, v, ry, pd, pe, hu, ru, rv => by
    have h0 : A.units < cLine := by omega
    cases ru
    cases ry with
    | non => cases rv; simp only [eqD]; exact ⟨.none_none, .none_none, .same _⟩
    | bl b => cases rv; simp only [eqD]; exact ⟨.none_bool _, .none_bool _, .none_bool _⟩
    | int j => obtain ⟨t, rfl⟩ := rv; simp only [eqD]; exact ⟨.none_int _ _, .none_int _ _, .none_int _ _⟩
    | str z => obtain ⟨t, rfl⟩ := rv; simp only [eqD]; exact ⟨.none_str _ _, .none_str _ _, .none_str _ _⟩
    | lst h _ => cases rv; obtain ⟨its, _, t, _⟩ := I.list (SqL.of (K := X.K) h); simp only [eqD]; exact ⟨.none_list t.isList h0, .none_list t.isList h0, .none_list t.isList h0⟩
    | tup h _ => cases rv; obtain ⟨its, _, t, _⟩ := I.tuple (SqT.of (K := X.K) h); simp only [eqD]; exact ⟨.none_tuple t h0, .none_tuple t h0, .none_tuple t h0⟩
    | dic0 _ => simp [plainD] at pe
    | dic _ _ => simp [plainD] at pe
  | _, _, .bl a, A, y, e, u, v, ry, pd, pe, hu, ru, rv => by
    have h0 : A.units < cLine := by omega
    cases ru
    cases ry with
    | non => cases rv; simp only [eqD]; exact ⟨.bool_none _, .bool_none _, .bool_none _⟩
    | bl b => cases rv; simp only [eqD]; exact ⟨.bool_bool _ _, .bool_bool _ _, .bool_bool _ _⟩
    | int j => obtain ⟨t, rfl⟩ := rv; simp only [eqD]; exact ⟨.bool_int _ _ _, .bool_int _ _ _, .bool_int _ _ _⟩
    | str z => obtain ⟨t, rfl⟩ := rv; simp only [eqD]; exact ⟨.bool_str _ _ _, .bool_str _ _ _, .bool_str _ _ _⟩
    | lst h _ => cases rv; obtain ⟨its, _, t, _⟩ := I.list (SqL.of (K := X.K) h); simp only [eqD]; exact ⟨.bool_list _ t.isList h0, .bool_list _ t.isList h0, .bool_list _ t.isList h0⟩
    | tup h _ => cases rv; obtain ⟨its, _, t, _⟩ := I.tuple (SqT.of (K := X.K) h); simp only [eqD]; exact ⟨.bool_tuple _ t h0, .bool_tuple _ t h0, .bool_tuple _ t h0⟩
    | dic0 _ => simp [plainD] at pe
    | dic _ _ => simp [plainD] at pe
  | _, _, .int i, A, y, e, u, v, ry, pd, pe, hu, ru, rv => by
    have h0 : A.units < cLine := by omega
    obtain ⟨tu, rfl⟩ := ru
    cases ry with
    | non => cases rv; simp only [eqD]; exact ⟨.int_none _ _, .int_none _ _, .int_none _ _⟩
    | bl b => cases rv; simp only [eqD]; exact ⟨.int_bool _ _ _, .int_bool _ _ _, .int_bool _ _ _⟩
    | int j => obtain ⟨t, rfl⟩ := rv; simp only [eqD]; exact ⟨.int_int _ _ _ _, .int_int _ _ _ _, .int_int _ _ _ _⟩
    | str z => obtain ⟨t, rfl⟩ := rv; simp only [eqD]; exact ⟨.int_str _ _ _ _, .int_str _ _ _ _, .int_str _ _ _ _⟩
    | lst h _ => cases rv; obtain ⟨its, _, t, _⟩ := I.list (SqL.of (K := X.K) h); simp only [eqD]; exact ⟨.int_list _ _ t.isList h0, .int_list _ _ t.isList h0, .int_list _ _ t.isList h0⟩
    | tup h _ => cases rv; obtain ⟨its, _, t, _⟩ := I.tuple (SqT.of (K := X.K) h); simp only [eqD]; exact ⟨.int_tuple _ _ t h0, .int_tuple _ _ t h0, .int_tuple _ _ t h0⟩
    | dic0 _ => simp [plainD] at pe
    | dic _ _ => simp [plainD] at pe
  | _, _, .str x, A, y, e, u, v, ry, pd, pe, hu, ru, rv => by
    have h0 : A.units < cLine := by omega
    obtain ⟨tu, rfl⟩ := ru
    cases ry with
    | non => cases rv; simp only [eqD]; exact ⟨.str_none _ _, .str_none _ _, .str_none _ _⟩
    | bl b => cases rv; simp only [eqD]; exact ⟨.str_bool _ _ _, .str_bool _ _ _, .str_bool _ _ _⟩
    | int j => obtain ⟨t, rfl⟩ := rv; simp only [eqD]; exact ⟨.str_int _ _ _ _, .str_int _ _ _ _, .str_int _ _ _ _⟩
    | str z => obtain ⟨t, rfl⟩ := rv; simp only [eqD]; exact ⟨.str_str _ _ _ _, .str_str _ _ _ _, .str_str _ _ _ _⟩
    | lst h _ => cases rv; obtain ⟨its, _, t, _⟩ := I.list (SqL.of (K := X.K) h); simp only [eqD]; exact ⟨.str_list _ _ t.isList h0, .str_list _ _ t.isList h0, .str_list _ _ t.isList h0⟩
    | tup h _ => cases rv; obtain ⟨its, _, t, _⟩ := I.tuple (SqT.of (K := X.K) h); simp only [eqD]; exact ⟨.str_tuple _ _ t h0, .str_tuple _ _ t h0, .str_tuple _ _ t h0⟩
    | dic0 _ => simp [plainD] at pe
    | dic _ _ => simp [plainD] at pe
  | _, _, .lst (a := a') (xs := xs) (ds := ds) h rs, A, y, e, u, v, ry, pd, pe, hu, ru, rv => by
    have h0 : A.units < cLine := by omega
    cases ru
    obtain ⟨its, r1, t1, _⟩ := I.list (SqL.of (K := X.K) h)
    cases ry with
    | non => cases rv; simp only [eqD]; exact ⟨.list_none t1.isList h0, .list_none t1.isList h0, .list_none t1.isList h0⟩
    | bl b => cases rv; simp only [eqD]; exact ⟨.list_bool _ t1.isList h0, .list_bool _ t1.isList h0, .list_bool _ t1.isList h0⟩
    | int j => obtain ⟨t, rfl⟩ := rv; simp only [eqD]; exact ⟨.list_int _ _ t1.isList h0, .list_int _ _ t1.isList h0, .list_int _ _ t1.isList h0⟩
    | str z => obtain ⟨t, rfl⟩ := rv; simp only [eqD]; exact ⟨.list_str _ _ t1.isList h0, .list_str _ _ t1.isList h0, .list_str _ _ t1.isList h0⟩
    | @lst b' ys es h' ts =>
      cases rv
      obtain ⟨jts, r2, t2, _⟩ := I.list (SqL.of (K := X.K) h')
      have pds : plainDs ds = true := by simpa only [plainD] using pd
      have pes : plainDs es = true := by simpa only [plainD] using pe
      have dd : A.in1.units + PyData.depthAll ds < cLine := by rw [in1_units]; simp only [PyData.depth] at hu; omega
      have k := lsts_rc h0 t1.isList t2.isList (fun j => eqD (ds.getD j .none) (es.getD j .none)) (fun j h1 h2 => eqDs_at I rs ts pds pes dd r1 r2 h1 h2)
      rw [← r1.length, ← r2.length, rs.length, ts.length, eqDs_all] at k
      simp only [eqD]
      refine ⟨k.eq, k.ne, ?_⟩
      by_cases e : a' = b'
      · subst e
        rw [h] at h'
        cases h'
        have := RdsAll.det rs ts
        subst this
        rw [eqDs_refl pds]
        exact SeqAt.EqAt.same _
      · exact .of_refs e k.eq
    | tup h' _ => cases rv; obtain ⟨jts, _, t, _⟩ := I.tuple (SqT.of (K := X.K) h'); simp only [eqD]; exact ⟨.list_tuple t1.isList t h0, .list_tuple t1.isList t h0, .list_tuple t1.isList t h0⟩
    | dic0 _ => simp [plainD] at pe
    | dic _ _ => simp [plainD] at pe
  | _, _, .tup (a := a') (xs := xs) (ds := ds) h rs, A, y, e, u, v, ry, pd, pe, hu, ru, rv => by
    have h0 : A.units < cLine := by omega
    cases ru
    obtain ⟨its, r1, t1, _⟩ := I.tuple (SqT.of (K := X.K) h)
    cases ry with
    | non => cases rv; simp only [eqD]; exact ⟨.tuple_none t1 h0, .tuple_none t1 h0, .tuple_none t1 h0⟩
    | bl b => cases rv; simp only [eqD]; exact ⟨.tuple_bool _ t1 h0, .tuple_bool _ t1 h0, .tuple_bool _ t1 h0⟩
    | int j => obtain ⟨t, rfl⟩ := rv; simp only [eqD]; exact ⟨.tuple_int _ _ t1 h0, .tuple_int _ _ t1 h0, .tuple_int _ _ t1 h0⟩
    | str z => obtain ⟨t, rfl⟩ := rv; simp only [eqD]; exact ⟨.tuple_str _ _ t1 h0, .tuple_str _ _ t1 h0, .tuple_str _ _ t1 h0⟩
    | @tup b' ys es h' ts =>
      cases rv
      obtain ⟨jts, r2, t2, _⟩ := I.tuple (SqT.of (K := X.K) h')
      have pds : plainDs ds = true := by simpa only [plainD] using pd
      have pes : plainDs es = true := by simpa only [plainD] using pe
      have dd : A.in1.units + PyData.depthAll ds < cLine := by rw [in1_units]; simp only [PyData.depth] at hu; omega
      have k := tups_rc h0 t1 t2 (fun j => eqD (ds.getD j .none) (es.getD j .none)) (fun j h1 h2 => eqDs_at I rs ts pds pes dd r1 r2 h1 h2)
      rw [← r1.length, ← r2.length, rs.length, ts.length, eqDs_all] at k
      simp only [eqD]
      refine ⟨k.eq, k.ne, ?_⟩
      by_cases e : a' = b'
      · subst e
        rw [h] at h'
        cases h'
        have := RdsAll.det rs ts
        subst this
        rw [eqDs_refl pds]
        exact SeqAt.EqAt.same _
      · exact .of_refs e k.eq
    | lst h' _ => cases rv; obtain ⟨jts, _, t, _⟩ := I.list (SqL.of (K := X.K) h'); simp only [eqD]; exact ⟨.tuple_list t1 t.isList h0, .tuple_list t1 t.isList h0, .tuple_list t1 t.isList h0⟩
    | dic0 _ => simp [plainD] at pe
    | dic _ _ => simp [plainD] at pe
  | _, _, .dic0 _, _, _, _, _, _, _, pd, _, _, _, _ => by simp [plainD] at pd
  | _, _, .dic _ _, _, _, _, _, _, _, pd, _, _, _, _ => by simp [plainD] at pd
theorem eqDs_at {pins : List (Addr × Obj)} {σ : St} {H : Hp} {s : Shared} (I : Inv X pins σ H s) : ∀ {xs : List V} {ds : List PyData}, RdsAll H xs ds → ∀ {A : Around} {ys : List V} {es : List PyData} {its jts : List Value}, RdsAll H ys es → plainDs ds = true → plainDs es = true → A.units + PyData.depthAll ds < cLine → Vals xs its → Vals ys jts →
    ∀ {j : Nat} (h1 : j < its.length) (h2 : j < jts.length), SeqAt.EqAt A s its[j] jts[j] (eqD (ds.getD j .none) (es.getD j .none))
  | _, _, .nil, A, ys, es, its, jts, ts, pd, pe, hu, r1, r2, j, h1, h2 => by cases r1; exact absurd h1 (Nat.not_lt_zero _)
  | _, _, .cons (v := x) (d := d) r rs, A, ys, es, its, jts, ts, pd, pe, hu, r1, r2, j, h1, h2 => by
    cases ts with
    | nil => cases r2; exact absurd h2 (Nat.not_lt_zero _)
    | cons r' ts =>
      cases r1 with
      | cons q1 r1 =>
        cases r2 with
        | cons q2 r2 =>
          simp only [plainDs, Bool.and_eq_true] at pd pe
          simp only [PyData.depthAll] at hu
          cases j with
          | zero =>
            exact (eqD_rc I r (A := A) r' pd.1 pe.1 (by omega) q1 q2).at_
          | succ j => exact eqDs_at I rs (A := A) ts pd.2 pe.2 (by omega) r1 r2 (by simpa using h1) (by simpa using h2)
end
theorem eqE_at {pins : List (Addr × Obj)} {σ : St} {H : Hp} {s : Shared} {A : Around} {n : Nat} {x y : V} {b : Bool} {u v : Value} (I : Inv X pins σ H s) (h : EqE H n x y b) (hu : A.units + n < cLine) (ru : RelV x u) (rv : RelV y v) : SeqAt.EqAt A s u v b := by
  rcases h with ⟨a, rfl, rfl, rfl⟩ | ⟨d, e, r1, r2, p1, p2, dd, rfl⟩
  · cases (show u = Value.ref a from ru)
    cases (show v = Value.ref a from rv)
    exact SeqAt.EqAt.same _
  · exact (eqD_rc I r1 r2 p1 p2 (by omega) ru rv).at_
def rEqD (g : Bool → Bool) : R2 := fun x y H Q => ∃ d e, Rds H x d ∧ Rds H y e ∧ plainD d = true ∧ plainD e = true ∧ d.depth ≤ 20 ∧ Q (.bl (g (eqD d e))) H
theorem op_eqD (hu : X.A.units + 64 < cLine) : OpR X (compareOp .Eq) (rEqD id) := by
  intro pins s σ H x y v u Q I rx ry h
  obtain ⟨d, e, r1, r2, p1, p2, dd, k⟩ := h
  exact (eqD_rc I r1 r2 p1 p2 (by omega) rx ry).eq X.prog X.w X.xe _ ⟨.bl _, H, I, rfl, k⟩
def rEqR (K : Frag) (g : Bool → Bool) : R2 := fun x y H Q => ∃ p q xs ys, ∃ e : Nat → Bool, x = .ref p ∧ y = .ref q ∧ ((SqT K H p xs ∧ SqT K H q ys) ∨ (SqL K H p xs ∧ SqL K H q ys)) ∧ (∀ (j : Nat) a b, xs[j]? = some a → ys[j]? = some b → EqE H 20 a b (e j)) ∧
  Q (.bl (g ((List.range (min xs.length ys.length)).all e && xs.length == ys.length))) H
theorem rows_rcE {pins : List (Addr × Obj)} {σ : St} {H : Hp} {s : Shared} {A : Around} {p q : Addr} {xs ys : List V} {e : Nat → Bool} (I : Inv X pins σ H s) (hu : A.units + 64 < cLine) (h : (SqT X.K H p xs ∧ SqT X.K H q ys) ∨ (SqL X.K H p xs ∧ SqL X.K H q ys))
    (he : ∀ (j : Nat) a b, xs[j]? = some a → ys[j]? = some b → EqE H 20 a b (e j)) : Rc2 A s (.ref p) (.ref q) ((List.range (min xs.length ys.length)).all e && xs.length == ys.length) := by
  have he' : ∀ {its jts : List Value}, Vals xs its → Vals ys jts → ∀ j (h1 : j < its.length) (h2 : j < jts.length), SeqAt.EqAt A.in1 s its[j] jts[j] (e j) := fun {its jts} r1 r2 j h1 h2 => by
    obtain ⟨a, ea, qa⟩ := get_val r1 h1
    obtain ⟨b, eb, qb⟩ := get_val r2 h2
    exact eqE_at I (he j a b ea eb) (by rw [in1_units]; omega) qa qb
  rcases h with ⟨hp, hq⟩ | ⟨hp, hq⟩
  · obtain ⟨its, r1, t1, _⟩ := I.tuple hp
    obtain ⟨jts, r2, t2, _⟩ := I.tuple hq
    rw [r1.length, r2.length]
    exact tups_rc (by omega) t1 t2 e (he' r1 r2)
  · obtain ⟨its, r1, t1, _⟩ := I.list hp
    obtain ⟨jts, r2, t2, _⟩ := I.list hq
    rw [r1.length, r2.length]
    exact lsts_rc (by omega) t1.isList t2.isList e (he' r1 r2)
theorem op_eqR (hu : X.A.units + 64 < cLine) : OpR X (compareOp .Eq) (rEqR X.K id) := by
  intro pins s σ H x y v u Q I rx ry h
  obtain ⟨p, q, xs, ys, e, rfl, rfl, hs, he, k⟩ := h
  cases rx
  cases ry
  exact (rows_rcE I hu hs he).eq X.prog X.w X.xe _ ⟨.bl _, H, I, rfl, k⟩
theorem op_neR (hu : X.A.units + 64 < cLine) : OpR X (compareOp .NotEq) (rEqR X.K not) := by
  intro pins s σ H x y v u Q I rx ry h
  obtain ⟨p, q, xs, ys, e, rfl, rfl, hs, he, k⟩ := h
  cases rx
  cases ry
  exact (rows_rcE I hu hs he).ne X.prog X.w X.xe _ ⟨.bl _, H, I, rfl, k⟩
end
end My
set_option Elab.async false
set_option linter.all false
set_option maxRecDepth 100000
set_option maxHeartbeats 1000000
namespace My
open PySem PySem.W L2
def nt (H : Hp) (ps : List Addr) : Hp := fun b => if b ∈ ps then none else match H b with
  | some (.tbl _) => none
  | o => o
def Gr (p : Addr) (H H' : Hp) : Prop := ∀ b o, H b = some o → b ≠ p → (∀ t, o ≠ .tbl t) → H' b = some o
section
variable {H H' H1 H2 : Hp} {ps : List Addr} {b p : Addr} {o : HO}
theorem nt_in (n : b ∉ ps) (e : H b = some o) (t : ∀ t, o ≠ .tbl t) : nt H ps b = some o := by
  unfold nt
  rw [if_neg n, e]
  cases o with
  | tbl t' => exact absurd rfl (t t')
  | _ => rfl
theorem nt_of (e : nt H ps b = some o) : b ∉ ps ∧ H b = some o ∧ ∀ t, o ≠ .tbl t := by
  unfold nt at e
  split at e
  · cases e
  · rename_i n
    cases h : H b with
    | none => rw [h] at e; cases e
    | some u =>
      rw [h] at e
      cases u with
      | tbl t => cases e
      | _ => cases e; exact ⟨n, rfl, fun t z => nomatch z⟩
theorem nt_ext (H : Hp) (ps : List Addr) : Ext (nt H ps) H := fun b o e => (nt_of e).2.1
theorem Gr.trans (a : Gr p H H1) (c : Gr p H1 H2) : Gr p H H2 := fun b o e n t => c b o (a b o e n t) n t
theorem Ext.gr (x : Ext H H') (p : Addr) : Gr p H H' := fun b o e _ _ => x b o e
theorem Kept.gr (x : Kept H H' p) : Gr p H H' := fun b o e n _ => x b o e n
theorem Gr.nt (g : Gr p H H') (h : p ∈ ps) : Ext (nt H ps) (nt H' ps) := fun b o e => by
  obtain ⟨n, e, t⟩ := nt_of e
  exact nt_in n (g b o e (fun z => n (by rw [z]; exact h)) t) t
theorem Gr.upd {l : Addr} {u : HO} (g : Gr p H H') (n : H l = none) : Gr p H (upd H' l u) := fun b o e m t => by
  rw [upd_ne (ne_of_none e n)]
  exact g b o e m t
end
abbrev Tbs := List (Addr × List (Pos × Str))
structure TI (T : Tbs) (H : Hp) : Prop where
  it : ∀ e ∈ T, TabOk H e.1 e.2
  nd : (T.map (·.1)).Nodup
section
variable {T : Tbs} {H H' : Hp} {p pl : Addr} {al : List (Pos × Str)}
theorem TabOk.tb (t : TabOk H pl al) : ∃ ps, H pl = some (.tbl ps) := by
  obtain ⟨L, t, _⟩ := t
  exact ⟨_, t⟩
theorem TI.ext (t : TI T H) (x : Ext H H') : TI T H' := ⟨fun e he => by
  obtain ⟨L, z, zc⟩ := t.it e he
  exact ⟨L, x _ _ z, fun d hd => ⟨(zc d hd).1, x _ _ (zc d hd).2⟩⟩, t.nd⟩
theorem TI.kept {xs : List V} (t : TI T H) (k : Kept H H' p) (hp : H p = some (.lst xs)) : TI T H' := ⟨fun e he => by
  have n : ∀ {b : Addr} {o : HO}, H b = some o → (∀ ys, o ≠ .lst ys) → b ≠ p := fun {b o} g n z => by
    rw [z, hp] at g
    exact n xs (Option.some.inj g).symm
  obtain ⟨L, z, zc⟩ := t.it e he
  exact ⟨L, k _ _ z (n z fun _ y => nomatch y), fun d hd => ⟨(zc d hd).1, k _ _ (zc d hd).2 (n (zc d hd).2 fun _ y => nomatch y)⟩⟩, t.nd⟩
theorem nd_fst {T : Tbs} (nd : (T.map (·.1)).Nodup) {a b : Addr × List (Pos × Str)} (ha : a ∈ T) (hb : b ∈ T) (e : a.1 = b.1) : a = b := by
  obtain ⟨i, hi⟩ := mem_ix ha
  obtain ⟨j, hj⟩ := mem_ix hb
  have ei : (T.map (·.1))[i]? = some a.1 := by rw [List.getElem?_map, hi]; rfl
  have ej : (T.map (·.1))[j]? = some a.1 := by rw [List.getElem?_map, hj, e]; rfl
  obtain ⟨k1, e1⟩ := List.getElem?_eq_some_iff.mp ei
  obtain ⟨k2, e2⟩ := List.getElem?_eq_some_iff.mp ej
  have hij : i = j := (List.getElem_inj nd).mp (e1.trans e2.symm)
  subst hij
  rw [hi] at hj
  exact Option.some.inj hj
theorem TI.made (t : TI T H) (x : ExtP pl H H') (m : (pl, al) ∈ T) (n : TabOk H' pl al) : TI T H' := by
  refine ⟨fun e he => ?_, t.nd⟩
  by_cases z : e.1 = pl
  · have := nd_fst t.nd he m z
    rw [this]; exact n
  · obtain ⟨ps, tp⟩ := (t.it _ m).tb
    obtain ⟨L, y, yc⟩ := t.it e he
    refine ⟨L, x _ _ y z, fun d hd => ⟨(yc d hd).1, x _ _ (yc d hd).2 (fun w => ?_)⟩⟩
    have := (yc d hd).2
    rw [w, tp] at this
    cases this
theorem ExtP.kept (x : ExtP pl H H') (t : TabOk H pl al) {o : HO} {b : Addr} (e : H b = some o) (n : ∀ t, o ≠ .tbl t) : H' b = some o := x b o e fun z => by
  obtain ⟨ps, tp⟩ := t.tb
  rw [z, tp] at e
  exact n ps (Option.some.inj e).symm
end
structure BoxW (H : Hp) (p : Addr) : Prop where
  ex : ∃ a b c : Int, H p = some (.lst [.int a, .int b, .int c]) ∧ 0 ≤ a ∧ 0 ≤ b ∧ b < 2147483629
theorem BoxW.ext {H H' : Hp} {p : Addr} (h : BoxW H p) (x : Ext H H') : BoxW H' p := by
  obtain ⟨a, b, c, e, r⟩ := h.ex
  exact ⟨a, b, c, x _ _ e, r⟩
theorem BoxW.up {H : Hp} {p l : Addr} {o : HO} (h : BoxW H p) (n : l ≠ p) : BoxW (upd H l o) p := by
  obtain ⟨a, b, c, e, r⟩ := h.ex
  exact ⟨a, b, c, by rw [upd_ne (Ne.symm n)]; exact e, r⟩
structure OkS (T : Tbs) (ps : List Addr) (p : Addr) (H : Hp) : Prop where
  bx : BoxW H p
  ti : TI T H
  mem : p ∈ ps
  ex : ∀ x ∈ ps, ∃ xs, H x = some (.lst xs)
section
variable {T : Tbs} {ps : List Addr} {H H' : Hp} {p pl : Addr} {al : List (Pos × Str)}
theorem OkS.ext (k : OkS T ps p H) (x : Ext H H') : OkS T ps p H' := ⟨k.bx.ext x, k.ti.ext x, k.mem, fun y h => by obtain ⟨o, e⟩ := k.ex y h; exact ⟨o, x _ _ e⟩⟩
theorem OkS.kept (k : OkS T ps p H) (x : Kept H H' p) (b : BoxW H' p) : OkS T ps p H' := by
  obtain ⟨a0, b0, c0, hp, _⟩ := k.bx.ex
  refine ⟨b, k.ti.kept x hp, k.mem, fun y h => ?_⟩
  by_cases z : y = p
  · obtain ⟨a, b, c, e, _⟩ := b.ex
    exact ⟨_, by rw [z]; exact e⟩
  · obtain ⟨o, e⟩ := k.ex y h
    exact ⟨o, x _ _ e z⟩
theorem OkS.upd {l : Addr} {xs ys : List V} (k : OkS T ps p H) (e : H l = some (.lst xs)) (n : l ≠ p) : OkS T ps p (upd H l (.lst ys)) := by
  refine ⟨k.bx.up n, k.ti.kept (p := l) (fun b o e n => by rw [upd_ne n]; exact e) e, k.mem, fun y h => ?_⟩
  by_cases z : y = l
  · rw [z, upd_same]; exact ⟨ys, rfl⟩
  · rw [upd_ne z]; exact k.ex y h
theorem OkS.new {l : Addr} (k : OkS T ps p H) (e : H l = none) : l ∉ ps := fun h => by
  obtain ⟨o, z⟩ := k.ex l h
  rw [e] at z
  cases z
end
abbrev Oc := Int × Bool
abbrev Rw := Oc × Oc
def TK (G G' : Hp) : Prop := ∀ b xs, G b = some (.tup xs) → G' b = some (.tup xs)
theorem Ext.tk {G G' : Hp} (x : Ext G G') : TK G G' := fun b xs e => x b _ e
section
variable {G G' : Hp} {v : V} {vs : List V} {o : Oc} {r : Rw} {rs : List Rw}
end
def CloA (H : Hp) (f : Addr) (fd : List (Str × Addr) → Value → Value → Value → Addr → FuncData) (qn : Str) (zs : List Str) (cl : List (Str × Addr)) (cv : List (Str × V)) : Prop := ∃ a b d c', H f = some (FncO f (fd cl a b d c')) ∧ H c' = some (CodO c' qn) ∧ Cells H cl cv ∧ cl.map (·.1) = zs
def NL (H H' : Hp) : Prop := ∀ b o, H b = some o → (∀ xs, o ≠ .lst xs) → (∀ t, o ≠ .tbl t) → H' b = some o
theorem Ext.nl {H H' : Hp} (x : Ext H H') : NL H H' := fun b o e _ _ => x b o e
theorem NL.tk {H H' : Hp} (x : NL H H') : TK H H' := fun b xs e => x b _ e (fun _ z => nomatch z) fun _ z => nomatch z
theorem CloA.nl {H H' : Hp} {f : Addr} {fd : List (Str × Addr) → Value → Value → Value → Addr → FuncData} {qn : Str} {zs : List Str} {cl : List (Str × Addr)} {cv : List (Str × V)} (h : CloA H f fd qn zs cl cv) (x : NL H H') : CloA H' f fd qn zs cl cv := by
  obtain ⟨a, b, d, c', h1, h2, h3, h4⟩ := h
  have k : ∀ b o, H b = some (HO.ext o) → H' b = some (HO.ext o) := fun b o e => x b _ e (fun _ z => nomatch z) fun _ z => nomatch z
  have NLk : ∀ b o u, H b = some (HO.frz o u) → H' b = some (HO.frz o u) := fun b o u e => x b _ e (fun _ z => nomatch z) fun _ z => nomatch z
  exact ⟨a, b, d, c', k _ _ h1, k _ _ h2, ⟨h3.1, fun i x a y v e1 e2 => (h3.2.1 i x a y v e1 e2).elim (fun z => .inl (k _ _ z)) fun ⟨o, z⟩ => .inr ⟨o, NLk _ _ _ z⟩, h3.2.2⟩, h4⟩
theorem nl_upd {H : Hp} {l : Addr} {xs ys : List V} (e : H l = some (.lst xs)) : NL H (upd H l (.lst ys)) := fun b o g n _ => by
  rw [upd_ne (fun z => by rw [z, e] at g; exact n xs (Option.some.inj g).symm)]
  exact g
theorem hidC_tk {H : Hp} {cl : List (Str × Addr)} {cv : List (Str × V)} (C : Cells H cl cv) : TK H (hidC H (cl.map (·.2))) := fun b xs e => by
  rw [hidC_out (fun z => by obtain ⟨v, q⟩ := C.cel z; exact q.no e (fun _ y => nomatch y) fun _ _ y => nomatch y)]
  exact e
theorem unhid_hid {H : Hp} {cs : List Addr} : unhid H cs (hidC H cs) = H := by
  funext b
  unfold unhid hidC
  split <;> rfl
end My
set_option Elab.async false
set_option linter.all false
set_option maxRecDepth 100000
set_option maxHeartbeats 4000000
namespace My
open PySem PySem.W L2
def pls (T : Tbs) : List Addr := T.map (·.1)
structure TbH (T : Tbs) (h : Heap) : Prop where
  tab : ∀ e ∈ T, h.get? e.1 = some (tabObj #[])
  cod : ∀ e ∈ T, isCodeTable h e.1
  nd : (T.map (·.1)).Nodup
theorem mem_pls {T : Tbs} {b : Addr} (h : b ∈ pls T) : ∃ e ∈ T, e.1 = b := by
  obtain ⟨e, he, rfl⟩ := List.mem_map.mp h
  exact ⟨e, he, rfl⟩
end My
namespace L2
open PySem PySem.Spec PyProof.Rows My
theorem law_callT {P : Program} {w : World} {K : PySem.W.Frag} {T : Tbs} {mg mb : Str → Option Value} {k : Nat} {fa a : Addr} {fd : FuncData} {x : Str} {sp : Sp} {s₁ : Shared} {vs : List Value} {ns : List Int}
    (KX : K.In s₁.heap) (KT : ∀ b ∈ pls T, K.lookup b = none) (B : TbH T s₁.heap) (hns : s₁.heap.Ns mainGlobals mg) (hb : s₁.heap.Ns builtinsNs mb) (hbb : ∀ x : Str, x ≠ "__name__" → mb x = bootBuiltins x) (hlim : s₁.heap.NoLimit) (hg : s₁.gens = #[])
    (hbm : ∃ bm ob, mg "__builtins__" = some (.ref bm) ∧ bm ≠ builtinsNs ∧ s₁.heap.get? bm = some ob ∧ ob.cls = .type "module" ∧ ob.dict = some builtinsNs ∧ ob.data = .plain) (ha : s₁.heap.get? a = some { cls := .type "list", data := .seq vs.toArray }) (hi : IntsAre vs ns) (hl : ns.length ≤ sizeLine) (hr : Room k callerA)
    (F : ∀ base : Heap, K.In base → base.Ns mainGlobals mg → (∀ b ∈ pls T, base.BuiltinsAt mg b) → FnOk P w K mg base CX0 k fa fd [x] sp) (hbind : ∀ (s : Shared) (u : Value), BindsTo s fd ⟨[u], []⟩ [(x, u)])
    (hsp : ∀ H : Hp, SqL K H a (ns.map V.int) → My.TI T H → sp [.ref a] H (fun v _ => v = .bl true) fun _ _ _ => False) :
    codeAny (model P w) callerA (.call (.ref fa) ⟨[.ref a], []⟩) (fun r s' => r = .ok (.ret (.bool true)) ∧ OldK s₁.heap s'.heap ∧ s'.os = s₁.os ∧ AllBare s'.gens) s₁ := by
  have rv := vals_ints hi
  have lenV := hi.length
  have tab : ∀ {b : Addr}, b ∈ pls T → s₁.heap.get? b = some (PySem.W.tabObj #[]) := fun {b} h => by
    obtain ⟨e, he, rfl⟩ := mem_pls h
    exact B.tab e he
  have na : a ∉ pls T := fun h => by
    have := tab h
    rw [ha] at this
    cases this
  have core : ∀ H : Hp, (∀ b, b ∈ pls T → H b = some (.tbl #[])) → (∀ b, b ∉ pls T → H b = none ∨ ∃ ob xs, H b = some (.frz ob (.lst xs))) → SqL K H a (ns.map V.int) → HOk P w H s₁.heap → (∀ b, H b ≠ none → b = a ∨ b ∈ pls T) → (H a ≠ none → K.lookup a = none) →
      codeAny (model P w) callerA (.call (.ref fa) ⟨[.ref a], []⟩) (fun r s' => r = .ok (.ret (.bool true)) ∧ OldK s₁.heap s'.heap ∧ s'.os = s₁.os ∧ AllBare s'.gens) s₁ := by
    intro H hT hO hS hok hA hK
    have base_of : ∀ {b : Addr} {o : Obj}, s₁.heap.get? b = some o → H b = none → (hidT s₁.heap H).get? b = some o := fun e n => hidT_get e n
    have noA : ∀ {b : Addr} {o : Obj} {es : Array DictEntry} {ep : Nat}, s₁.heap.get? b = some o → o.data = .dict es ep → H b = none := fun {b o es ep} e d => by
      cases q : H b with
      | none => rfl
      | some u =>
        rcases hA b (by rw [q]; simp) with e' | e'
        · subst e'
          rw [ha] at e; cases e
          have d' : Data.seq vs.toArray _ = Data.dict es ep := d
          cases d'
        · rw [tab e'] at e; cases e
          have d' : Data.fields #[] = Data.dict es ep := d
          cases d'
    have nsK : ∀ {b : Addr} {m : Str → Option Value}, s₁.heap.Ns b m → (hidT s₁.heap H).Ns b m := fun {b m} ⟨o, es, ep, e, d, r⟩ => ⟨o, es, ep, base_of e (noA e d), d, r⟩
    have hKb : K.In (hidT s₁.heap H) := fun b o e => by
      have nb : b ∉ pls T := fun z => by rw [KT b z] at e; cases e
      refine base_of (KX b o e) ?_
      cases q : H b with
      | none => rfl
      | some u =>
        rcases hA b (by rw [q]; simp) with e' | e'
        · subst e'
          rw [hK (by rw [q]; simp)] at e; cases e
        · exact absurd e' nb
    have hM : Mod K mg (hidT s₁.heap H) := ⟨hKb, nsK hns, ⟨mb, nsK hb, hbb⟩, let ⟨mc, h1, h2⟩ := hlim; ⟨mc, nsK h1, h2⟩⟩
    have e0 : Env0 P w K mg (hidT s₁.heap H) callerA [] s₁ H := ⟨rfl, hM, fun b o e => of_hidT e, Nat.le_of_eq (hidT_size _ _), trivial, fun b hb => absurd (show b ∈ ([] : List Addr) from hb) (by simp), hok, .of_eq hg⟩
    have ti : My.TI T H := ⟨fun e he => ⟨[], hT _ (List.mem_map.mpr ⟨e, he, rfl⟩), fun d hd => by cases hd⟩, B.nd⟩
    have hBA : ∀ b ∈ pls T, (hidT s₁.heap H).BuiltinsAt mg b := fun b hb => by
      obtain ⟨bm, ob, M, n1, ho, c1, c2, c3⟩ := hbm
      have nb : ∀ {o : Obj}, s₁.heap.get? bm = some o → o.data = .plain := fun e => by rw [ho] at e; cases e; exact c3
      refine ⟨bm, ob, M, n1, fun z => ?_, fun z => ?_, base_of ho ?_, c1, c2, c3⟩
      · obtain ⟨o, es, ep, e, d, _⟩ := hns
        rw [z, e] at ho; cases ho; rw [d] at c3; cases c3
      · have := nb (by rw [z]; exact tab hb)
        cases this
      · cases q : H bm with
        | none => rfl
        | some u =>
          rcases hA bm (by rw [q]; simp) with e' | e'
          · have := nb (by rw [e']; exact ha); cases this
          · have := nb (tab e'); cases this
    refine codeAny_mono ((F _ hKb (nsK hns) hBA).run callerA [] s₁ H ⟨[.ref a], []⟩ [.ref a] [.ref a] _ _ hr e0 (hbind s₁ (.ref a)) (.cons rfl .nil) (hsp H hS ti)) fun r s' h => ?_
    cases r with
    | error e => exact False.elim h
    | ok fl =>
      cases fl with
      | next => exact False.elim h
      | brk => exact False.elim h
      | cont => exact False.elim h
      | ret u =>
        obtain ⟨v, H', os, bare, un, hok', r', q⟩ := h
        have q' : v = .bl true := q
        subst q'
        obtain rfl : u = Value.bool true := r'
        have kept : ∀ b o, s₁.heap.get? b = some o → b ∉ pls T → s'.heap.get? b = some o := fun b o e nb => by
          rcases hO b nb with z | ⟨ob, xs, z⟩
          · exact un.keep b o e z (by intro z; exact absurd (show b ∈ ([] : List Addr) from z) (by simp)) (by simp)
          · have z2 := un.frzs b ob _ z
            obtain ⟨e1, _⟩ := hok b _ z
            obtain ⟨e2, _⟩ := hok' b _ z2
            rw [e] at e1; cases e1
            exact e2
        have grown : ∀ b, b ∈ pls T → ∃ more, s'.heap.get? b = some (PySem.W.tabObj (#[] ++ more)) := fun b hb => by
          obtain ⟨m, z⟩ := un.tbls b _ (hT b hb)
          exact ⟨m, hok' b _ z⟩
        refine ⟨rfl, ⟨fun b o e => ?_, fun b o e => ?_⟩, os, bare⟩
        · by_cases hb : b ∈ pls T
          · obtain ⟨m, z⟩ := grown b hb
            have t := tab hb
            rw [t] at e; cases e
            obtain ⟨en, he, rfl⟩ := mem_pls hb
            exact .inr (.inl ⟨B.cod en he, rfl, _, m, rfl, z⟩)
          · exact .inl (kept b o e hb)
        · by_cases hb : b ∈ pls T
          · obtain ⟨m, z⟩ := grown b hb
            exact ⟨_, z⟩
          · exact ⟨_, kept b o e hb⟩
  cases hk : K.lookup a with
  | some o =>
    have e := KX a o hk
    rw [ha] at e
    cases e
    refine core (fun b => if b ∈ pls T then some (.tbl #[]) else none) (fun b hb => if_pos hb) (fun b hb => .inl (if_neg hb)) (.inr ⟨_, vs.toArray, _, hk, rfl, rfl, rfl, by rw [List.size_toArray, lenV]; exact hl, by simpa using rv⟩) (fun b u z => ?_) (fun b z => ?_) fun z => absurd (if_neg na) z
    · by_cases hb : b ∈ pls T
      · have z' := (if_pos hb).symm.trans z
        cases z'
        exact tab hb
      · have z' := (if_neg hb).symm.trans z
        cases z'
    · by_cases hb : b ∈ pls T
      · exact .inr hb
      · exact absurd (if_neg hb) z
  | none =>
    have e1 : ∀ {b : Addr}, b ∈ pls T → (fun b => if b ∈ pls T then some (HO.tbl #[]) else if b = a then some (.frz { cls := .type "list", data := .seq vs.toArray } (.lst (ns.map V.int))) else none : Hp) b = some (.tbl #[]) := fun hb => if_pos hb
    have e2 : (fun b => if b ∈ pls T then some (HO.tbl #[]) else if b = a then some (.frz { cls := .type "list", data := .seq vs.toArray } (.lst (ns.map V.int))) else none : Hp) a = some (.frz { cls := .type "list", data := .seq vs.toArray } (.lst (ns.map V.int))) := (if_neg na).trans (if_pos rfl)
    have e3 : ∀ {b : Addr}, b ∉ pls T → b ≠ a → (fun b => if b ∈ pls T then some (HO.tbl #[]) else if b = a then some (.frz { cls := .type "list", data := .seq vs.toArray } (.lst (ns.map V.int))) else none : Hp) b = none := fun hb n => (if_neg hb).trans (if_neg n)
    refine core _ (fun b hb => e1 hb) (fun b hb => ?_) (.inl (.inr ⟨_, e2⟩)) (fun b u z => ?_) (fun b z => ?_) fun _ => hk
    · by_cases n : b = a
      · subst n; exact .inr ⟨_, _, e2⟩
      · exact .inl (e3 hb n)
    · by_cases hb : b ∈ pls T
      · rw [e1 hb] at z
        cases z
        exact tab hb
      · by_cases n : b = a
        · subst n
          rw [e2] at z
          cases z
          exact ⟨ha, by rw [List.length_map]; exact hl, vs, _, rv, ha⟩
        · rw [e3 hb n] at z
          cases z
    · by_cases hb : b ∈ pls T
      · exact .inr hb
      · by_cases n : b = a
        · exact .inl n
        · exact absurd (e3 hb n) z
theorem walk_ofT {l : PySem.W.OpenLaw} {n k : Nat} {q : Program} {loose : List Str} {XP : (Str → Option Value) → Heap → Prop} {YP : World → Heap → Prop} {d : DefRec} {K : Params → PySem.W.Frag} {sp : PySem.W.Frag → Tbs → Sp} {x : Str}
    (hn : l.most = some n) (hn2 : n ≤ sizeLine) (hdf : d.params.defaults = []) (hr : Room k callerA)
    {ts : List Addr} (hY : ∀ (w : World) (h : Heap), YP w h → (K w.params).In h ∧ ∀ b ∈ ts, h.get? b = some (PySem.W.tabObj #[]))
    (F : ∀ (w : World) (mg : Str → Option Value) (fa : Addr) (h : Heap), (K w.params).In h → (∀ b ∈ ts, h.get? b = some (PySem.W.tabObj #[])) → h.Ns mainGlobals mg → (∃ bm ob, mg "__builtins__" = some (.ref bm) ∧ bm ≠ builtinsNs ∧ h.get? bm = some ob ∧ ob.cls = .type "module" ∧ ob.dict = some builtinsNs ∧ ob.data = .plain) → mg d.name = some (.ref fa) →
      ∃ (fd : FuncData) (T : Tbs) (K2 : PySem.W.Frag), (∀ (s : Shared) (u : Value), BindsTo s fd ⟨[u], []⟩ [(x, u)]) ∧ K2.In h ∧ (∀ b ∈ pls T, K2.lookup b = none) ∧ TbH T h ∧
        ∀ base : Heap, K2.In base → base.Ns mainGlobals mg → (∀ b ∈ pls T, base.BuiltinsAt mg b) → FnOk l.prog w K2 mg base CX0 k fa fd [x] (sp K2 T))
    (hsp : ∀ (K2 : PySem.W.Frag) (T : Tbs) (H : Hp) (a : Addr) (ns : List Int), ns.length ≤ n → SqL K2 H a (ns.map V.int) → My.TI T H → sp K2 T [.ref a] H (fun v _ => v = .bl true) fun _ _ _ => False) :
    PySem.W.WalkO q loose XP YP l.row.toRowW d [] (fun f vs => PySem.call f vs) := by
  refine Att.attach_callS hn hdf fun w s₀ s₁ mg mb fa o pm cd doc a vs ns G Y ho hd hcd hmg hobj hints hlen hg low => ?_
  obtain ⟨KX, tabs⟩ := hY w _ Y
  obtain ⟨fd, T, K2, hb, X2, KT, B, hF⟩ := F w mg fa _ KX tabs G.T.g G.T.bmain hmg
  exact law_callT X2 KT B G.T.g G.T.b G.T.builtins G.T.nolimit hg G.T.bmain hobj hints (Nat.le_trans hlen hn2) hr hF hb fun H hS ti => hsp K2 T H a ns hlen hS ti
end L2
set_option Elab.async false
set_option linter.all false
set_option maxRecDepth 100000
set_option maxHeartbeats 4000000
namespace My
open PySem L2
def top (i : Nat) : Stmt := PySem.Challenge.pw_trialdeal_k62_makers.main.body.getD i (.Pass ⟨0, 0, 0, 0⟩)
end My
set_option Elab.async false
set_option linter.all false
set_option maxRecDepth 100000
set_option maxHeartbeats 1000000
namespace My
open PySem PySem.W L2
def MethS (P : Program) (w : World) (K : Frag) (mg : Str → Option Value) (base : Heap) (CX : CXT) (k : Nat) (m : Str) (ps : List Str) (S : Addr → Prop) (sp : Addr → Sp) : Prop :=
  ∀ C, S C → Cls K C ∧ ∃ f fd, Meth K C m f ∧ FnOk P w K mg base CX k f fd ps (sp C) ∧ Binds K fd ps []
def tMethD (S : Addr → Prop) (m : Str) (sp : Addr → Sp) (E : XK) (ta : TE) (t : TA) : TE := fun σ H Q => ta σ H fun x H1 => ∃ a C dx fs, x = .ref a ∧ S C ∧ H1 a = some (.ins C dx fs) ∧ fs.lookup m = none ∧
  t σ H1 fun vs H2 => sp C (x :: vs) H2 Q E
section
variable {X : Cx} {CX : CXT} {k : Nat} {S : Addr → Prop} {ps : List Str} {sp : Addr → Sp} {E : XK} {x m : Str} {p pos apos : Pos} {e o : Expr} {es : List Expr} {ta : TE} {t : TA} {σ : St}
theorem pe_methD {pl : Sem Bool} (he : PE X o ta) (M : MethS X.prog X.w X.K X.mg X.base CX k m ps S sp) (hr : Room k X.A) (hx : Passes CX X E) (ha : PA X (e :: es) t)
    (hst : starEach (e :: es) X.env = (false, eval e X.env) :: starEach es X.env := by rfl) (hpl : (backTo pos (starEach es X.env)).any (·.1) = false := by rfl)
    (ht : eval (.Call (.Attribute o m apos) (e :: es) [] pos) X.env = (do
      let ov ← eval o X.env
      standAt apos.atName
      let (f, first) ← holding [ov] (getMethod ov m pl)
      callWith pos f first (backTo pos (starEach (e :: es) X.env)) (backToKw pos (keywordEach [] X.env))) := by rfl) :
    PE X (.Call (.Attribute o m apos) (e :: es) [] pos) (tMethD S m sp E ta t) := by
  intro pins s σ H Q I h
  refine PySem.W.methodCall_KW (pl := pl) (thn (he pins s σ H _ I h) fun u s1 ⟨x, H1, I1, rx, a, C, dx, fs, ex, hS, ea, l, q⟩ => ?_) ht
  subst ex
  obtain ⟨c, f, fd, hm, F, hb⟩ := M C hS
  obtain rfl : u = Value.ref a := rx
  refine getmeth_ok I1 ea c hm l ?_
  refine PySem.W.callWith_K (first := [.ref a]) (h₀ := X.base) I.ok.mod.kin hm.kp (thn (ha pos pins s1 σ H1 _ I1 q) fun us s2 ⟨vs, H2, I2, r, q2⟩ => ⟨I2.kIn, ?_⟩) hst hpl
  exact run_fn (us := .ref a :: us) (vs := .ref a :: vs) (dvs := []) F hr hb .nil hx I2 (.cons rfl r) (by rw [List.append_nil]; exact q2)
theorem pe_methD0 {pl : Sem Bool} (he : PE X o ta) (M : MethS X.prog X.w X.K X.mg X.base CX k m ps S sp) (hr : Room k X.A) (hx : Passes CX X E)
    (ht : eval (.Call (.Attribute o m apos) [] [] pos) X.env = (do
      let ov ← eval o X.env
      standAt apos.atName
      let (f, first) ← holding [ov] (getMethod ov m pl)
      callWith pos f first (backTo pos (starEach [] X.env)) (backToKw pos (keywordEach [] X.env))) := by rfl) :
    PE X (.Call (.Attribute o m apos) [] [] pos) (tMethD S m sp E ta tNil) := by
  intro pins s σ H Q I h
  refine PySem.W.methodCall_KW (pl := pl) (thn (he pins s σ H _ I h) fun u s1 ⟨x, H1, I1, rx, a, C, dx, fs, ex, hS, ea, l, q⟩ => ?_) ht
  subst ex
  obtain ⟨c, f, fd, hm, F, hb⟩ := M C hS
  obtain rfl : u = Value.ref a := rx
  refine getmeth_ok I1 ea c hm l ?_
  exact PySem.W.callWith_K0 (first := [.ref a]) I1.kIn hm.kp (run_fn (us := [.ref a]) (vs := [.ref a]) (dvs := []) F hr hb .nil hx I1 (.cons rfl .nil) q)
end
end My
set_option Elab.async false
set_option linter.all false
set_option maxRecDepth 100000
set_option maxHeartbeats 1000000
namespace My
open PySem PySem.W L2
section
variable {K : Frag} {te : TE} {tt : TT} {g : TG} {k : Nat} {cap : St} {D : Addr} {H1 : Hp} {Q : Hp → Prop} {a : Addr} {xs : List V}
end
theorem keptUpd {H : Hp} {p : Addr} (o : HO) : Kept H (upd H p o) p := fun b u h n => by rw [upd_ne n]; exact h
def shareD : PyData → Bool
  | .tuple [.int a, .int b] => (decide (1 ≤ b) && (decide (0 ≤ a) && decide (a ≤ b))) && decide (Nat.gcd a.toNat b.toNat = 1)
  | _ => false
def coinD : PyData → Bool
  | .tuple [.int a, .int b] => shareD (.tuple [.int a, .int b]) && (decide (2 ≤ b) && decide (b ≤ 100))
  | _ => false
def upI (lo : Int) (n : Nat) : List Int := (List.range n).map fun k => lo + (k : Nat)
def tupD (p : List Int) : PyData := .tuple (p.map .int)
theorem upL_eq (lo : Int) (n : Nat) : upL lo n = (upI lo n).map V.int := by unfold upL upI; rw [List.map_map]; rfl
theorem rds_intsD (G : Hp) : ∀ (ns : List Int), RdsAll G (ns.map V.int) (ns.map PyData.int)
  | [] => .nil
  | n :: ns => .cons (.int _) (rds_intsD G ns)
def dataO : HO → Bool
  | .lst _ => true
  | .tup _ => true
  | .dK _ => true
  | _ => false
mutual
theorem Rds.keep {G G' : Hp} (s : ∀ b o, G b = some o → dataO o = true → G' b = some o) : ∀ {v : V} {d : PyData}, Rds G v d → Rds G' v d
  | _, _, .non => .non
  | _, _, .bl b => .bl b
  | _, _, .int i => .int i
  | _, _, .str x => .str x
  | _, _, .lst e r => .lst (s _ _ e rfl) (RdsAll.keep s r)
  | _, _, .tup e r => .tup (s _ _ e rfl) (RdsAll.keep s r)
  | _, _, .dic0 e => .dic0 (s _ _ e rfl)
  | _, _, .dic e r => .dic (s _ _ e rfl) (Rds.keep s r)
theorem RdsAll.keep {G G' : Hp} (s : ∀ b o, G b = some o → dataO o = true → G' b = some o) : ∀ {vs : List V} {ds : List PyData}, RdsAll G vs ds → RdsAll G' vs ds
  | _, _, .nil => .nil
  | _, _, .cons r t => .cons (Rds.keep s r) (RdsAll.keep s t)
end
theorem Rds.kept {H H' : Hp} {x : Addr} {v : V} {d : PyData} {C dx : Addr} {fs : List (Str × V)} (r : Rds H v d) (hx : H x = some (.ins C dx fs)) (k : Kept H H' x) : Rds H' v d :=
  r.keep fun b o e h => k b o e fun z => by rw [z, hx] at e; cases e; cases h
inductive R0 where
  | split (n k : Int)
  | pairs (n a b : Int)
  | coins (n a b f : Int)
def R0.folk : R0 → Int
  | .split n _ => n
  | .pairs n _ _ => 2 * n
  | .coins n _ _ _ => n
def R0.begin : R0 → PyData
  | .split _ k => .int k
  | .pairs _ _ _ => .none
  | .coins _ _ _ _ => .int 0
def R0.told : R0 → PyData
  | .split n k => .tuple [.str "split", .int n, .int k]
  | .pairs n a b => .tuple [.str "pairs", .int n, .tuple [.int a, .int b]]
  | .coins n a b f => .tuple [.str "coins", .int n, .tuple [.int a, .int b], .int f]
def R0.kind : R0 → Nat
  | .split _ _ => 0
  | .pairs _ _ _ => 1
  | .coins _ _ _ _ => 2
def R0.ok : R0 → Prop
  | .split n k => 1 ≤ n ∧ n ≤ 20 ∧ 0 ≤ k ∧ k ≤ n
  | .pairs n a b => 1 ≤ n ∧ n ≤ 10 ∧ coinD (.tuple [.int a, .int b]) = true
  | .coins n a b f => 1 ≤ n ∧ n ≤ 20 ∧ coinD (.tuple [.int a, .int b]) = true ∧ 1 ≤ f ∧ f ≤ 20
def secs : Int → List Int → List (List Int)
  | _, [] => []
  | s, n :: ns => upI s n.toNat :: secs (s + n) ns
def cutP (m : Int) (ps : List (List Int)) : List (List Int) := (ps.map (·.filter fun x => decide (x < m))).filter fun p => decide (0 < p.length)
inductive Rl where
  | one (r : R0)
  | blocks (rs : List R0)
  | first (t : Rl) (m : Int)
def Rl.folk : Rl → Int
  | .one r => r.folk
  | .blocks rs => (rs.map R0.folk).sum
  | .first _ m => m
def Rl.begin : Rl → PyData
  | .one r => r.begin
  | .blocks [] => .tuple [.int 0, .none]
  | .blocks (r :: _) => .tuple [.int 0, r.begin]
  | .first t _ => t.begin
def Rl.told : Rl → PyData
  | .one r => r.told
  | .blocks rs => .tuple [.str "blocks", .tuple (rs.map R0.told)]
  | .first t m => .tuple [.str "first", t.told, .int m]
def Rl.parts : Rl → List (List Int)
  | .one r => [upI 0 r.folk.toNat]
  | .blocks rs => secs 0 (rs.map R0.folk)
  | .first t m => cutP m t.parts
def Rl.kind : Rl → Nat
  | .one r => r.kind
  | .blocks _ => 2
  | .first _ _ => 2
def Rl.inner : Rl → Rl
  | .first t _ => t.inner
  | t => t
def partsD (ps : List (List Int)) : PyData := .tuple (ps.map tupD)
def mNames : List Str := ["folk", "begin", "steps", "told", "blocks", "state_ahead", "state_behind"]
structure Ob (C : Addr) (H : Hp) (v : V) (fk : Int) (bg tl pt : PyData) (X : List (Str × V) → Prop) : Prop where
  ex : ∃ a dx fs, v = .ref a ∧ H a = some (.ins C dx fs) ∧ fs.lookup ("size" : Str) = some (.int fk) ∧ (∃ b, fs.lookup ("first_state" : Str) = some b ∧ Rds H b bg) ∧ (∃ m, fs.lookup ("mark" : Str) = some m ∧ Rds H m tl) ∧ (∃ p, fs.lookup ("parts" : Str) = some p ∧ Rds H p pt) ∧ (∀ m ∈ mNames, fs.lookup m = none) ∧ X fs
def R0.extra (H : Hp) : R0 → List (Str × V) → Prop
  | .split _ _, _ => True
  | .pairs _ a b, fs => ∃ c, fs.lookup ("coin" : Str) = some c ∧ Rds H c (.tuple [.int a, .int b])
  | .coins _ a b f, fs => (∃ c, fs.lookup ("coin" : Str) = some c ∧ Rds H c (.tuple [.int a, .int b])) ∧ fs.lookup ("far" : Str) = some (.int f)
def Ru0 (C : Nat → Addr) (H : Hp) (r : R0) (v : V) : Prop := Ob (C r.kind) H v r.folk r.begin r.told (partsD [upI 0 r.folk.toNat]) (r.extra H)
def All0 (C : Nat → Addr) (H : Hp) (rs : List R0) (ws : List V) : Prop := rs.length = ws.length ∧ ∀ (i : Nat) r w, rs[i]? = some r → ws[i]? = some w → Ru0 C H r w
def RuB (C : Nat → Addr) (H : Hp) (rs : List R0) (v : V) : Prop := Ob (C 2) H v (Rl.blocks rs).folk (Rl.blocks rs).begin (Rl.blocks rs).told (partsD (Rl.blocks rs).parts) (fun fs => ∃ l ws, fs.lookup ("rules" : Str) = some (.ref l) ∧ H l = some (.tup ws) ∧ All0 C H rs ws)
def RuN (C : Nat → Addr) (H : Hp) : Rl → V → Prop
  | .one r, v => Ru0 C H r v
  | .blocks rs, v => RuB C H rs v
  | .first _ _, _ => False
def Ru (C : Nat → Addr) (H : Hp) : Rl → V → Prop
  | .one r, v => Ru0 C H r v
  | .blocks rs, v => RuB C H rs v
  | .first t m, v => Ob (C 2) H v m t.begin (Rl.first t m).told (partsD (Rl.first t m).parts) (fun fs => ∃ d, fs.lookup ("dealer" : Str) = some d ∧ RuN C H t.inner d)
theorem Ob.mono {C : Addr} {H H' : Hp} {v : V} {fk : Int} {bg tl pt : PyData} {X Y : List (Str × V) → Prop} (h : Ob C H v fk bg tl pt X) (x : Ext H H') (k : ∀ fs, X fs → Y fs) : Ob C H' v fk bg tl pt Y := by
  obtain ⟨a, dx, fs, rfl, ha, h1, ⟨b, h2, r2⟩, ⟨m, h3, r3⟩, ⟨p, h4, r4⟩, h5, h6⟩ := h.ex
  exact ⟨a, dx, fs, rfl, x _ _ ha, h1, ⟨b, h2, r2.mono x⟩, ⟨m, h3, r3.mono x⟩, ⟨p, h4, r4.mono x⟩, h5, k fs h6⟩
section
variable {C : Nat → Addr} {H H' : Hp}
theorem Ru0.ext {r : R0} {v : V} (h : Ru0 C H r v) (x : Ext H H') : Ru0 C H' r v := Ob.mono h x fun fs e => by
  cases r with
  | split _ _ => trivial
  | pairs _ a b =>
    obtain ⟨c, e1, e2⟩ := e
    exact ⟨c, e1, e2.mono x⟩
  | coins _ a b f =>
    obtain ⟨⟨c, e1, e2⟩, e3⟩ := e
    exact ⟨⟨c, e1, e2.mono x⟩, e3⟩
theorem All0.ext {rs : List R0} {ws : List V} (h : All0 C H rs ws) (x : Ext H H') : All0 C H' rs ws := ⟨h.1, fun i r w a b => Ru0.ext (h.2 i r w a b) x⟩
theorem RuB.ext {rs : List R0} {v : V} (h : RuB C H rs v) (x : Ext H H') : RuB C H' rs v := Ob.mono h x fun fs e => by
  obtain ⟨l, ws, e1, e2, e3⟩ := e
  exact ⟨l, ws, e1, x _ _ e2, e3.ext x⟩
theorem RuN.ext {t : Rl} {v : V} (h : RuN C H t v) (x : Ext H H') : RuN C H' t v := by
  cases t with
  | one r => exact Ru0.ext h x
  | blocks rs => exact RuB.ext h x
  | first _ _ => exact h.elim
theorem Ru.ext {t : Rl} {v : V} (h : Ru C H t v) (x : Ext H H') : Ru C H' t v := by
  cases t with
  | one r => exact Ru0.ext h x
  | blocks rs => exact RuB.ext h x
  | first t m => exact Ob.mono h x fun fs ⟨d, e1, e2⟩ => ⟨d, e1, e2.ext x⟩
theorem Ru.ob {t : Rl} {v : V} (h : Ru C H t v) : Ob (C t.kind) H v t.folk t.begin t.told (partsD t.parts) (fun _ => True) := by
  cases t with
  | one r => exact Ob.mono h (Ext.refl _) fun _ _ => trivial
  | blocks rs => exact Ob.mono h (Ext.refl _) fun _ _ => trivial
  | first t m => exact Ob.mono h (Ext.refl _) fun _ _ => trivial
theorem Ru.ref {t : Rl} {v : V} (h : Ru C H t v) : ∃ a, v = .ref a := by
  obtain ⟨a, _, _, e, _⟩ := h.ob.ex
  exact ⟨a, e⟩
end
theorem R0.kind_lt (r : R0) : r.kind < 3 := by cases r <;> simp [R0.kind]
theorem Rl.kind_lt (t : Rl) : t.kind < 3 := by
  cases t with
  | one r => have := r.kind_lt; show r.kind < 3; omega
  | blocks _ => show 2 < 3; decide
  | first _ _ => show 2 < 3; decide
def fNames : List Str := ["size", "first_state", "mark", "parts", "coin", "far", "rules", "dealer"]
structure KR (K : Frag) (C : Nat → Addr) (CR : Addr) : Prop where
  cls : ∀ i, i < 3 → Cls K (C i)
  no : ∀ i, i < 3 → ∀ f ∈ fNames, NoAttr K (C i) f
  ha : ∀ i, i < 3 → PySem.W.findIn K (.ref (C i)) "__class__" = some (some (.builtin "object.__class__"))
  hn : PySem.W.specialIn K (.builtin "object.__class__") "__get__" = some (some (.builtin "getset_descriptor.__get__"))
  htk : PySem.W.takesIn K (.builtin "object.__class__") = some true
  hm : ∀ i, i < 3 → PySem.W.mroIn K (C i) (.type "object") = some true
  kk : ∀ i j, i < 3 → j < 3 → kitOne K (.ref (C i)) (.ref (C j)) = some (i == j)
  kR : ∀ i, i < 3 → kitOne K (.ref (C i)) (.ref CR) = some true
  kl : ∀ i, i < 3 → kitOne K (.ref (C i)) (.type "list") = some false
  kt : ∀ i, i < 3 → kitOne K (.ref (C i)) (.type "tuple") = some false
  ki : ∀ i, i < 3 → kitOne K (.ref (C i)) (.type "int") = some false
  kb : ∀ i, i < 3 → kitOne K (.ref (C i)) (.type "bool") = some false
def Is5 (C : Nat → Addr) (c : Addr) : Prop := ∃ i, i < 3 ∧ c = C i
section
variable {K : Frag} {C : Nat → Addr} {CR : Addr} {H : Hp}
theorem rd_meth0 {m : Str} {sp : Addr → Sp} {E : XK} {ta : TE} {σ : St} {Q : VK} {t : Rl} {v : V} (hm : m ∈ mNames) (h : Ru C H t v) (ht : ∀ R : VK, R v H → ta σ H R) (q : sp (C t.kind) [v] H Q E) : tMethD (Is5 C) m sp E ta tNil σ H Q := by
  obtain ⟨a, dx, fs, rfl, ha, _, _, _, _, h5, _⟩ := h.ob.ex
  exact ht _ ⟨a, C t.kind, dx, fs, rfl, ⟨_, t.kind_lt, rfl⟩, ha, h5 m hm, q⟩
end
theorem R0.plain (r : R0) : plainD r.told = true := by cases r <;> simp [R0.told, plainD, plainDs]
end My
set_option Elab.async false
set_option linter.all false
set_option maxRecDepth 100000
set_option maxHeartbeats 1000000
set_option exponentiation.threshold 5000
namespace My
open PySem PySem.W L2
def partV : V → V → Bool
  | x, .int j => decide (1 ≤ j) && inB 0 j x
  | _, _ => false
theorem partV_no {x y : V} (h : ∀ i, y ≠ .int i) : partV x y = false := by
  cases y with
  | int i => exact absurd rfl (h i)
  | _ => rfl
section
variable {P : Program} {w : World} {K : Frag} {mg : Str → Option Value} {base : Heap}
abbrev sIsNum : Stmt := top 7
def spIsNum (K : Frag) : Sp := fun vs H Q _ => ∃ x, vs = [x] ∧ Th K H x ∧ Q (.bl (numB x)) H
theorem scIN : FnScope ["thing"] ["thing"] (defScope sIsNum) := ⟨rfl, rfl, rfl, by decide +kernel, rfl, by decide +kernel, by decide +kernel⟩
theorem ok_isnum {f : Addr} {fd : FuncData} (N : IsT K) (F : Fun K "is_number" "is_number" sIsNum f fd) (mi : mg "isinstance" = none) (m1 : mg "int" = none) (m2 : mg "bool" = none) : FnOk P w K mg base CX0 1 f fd ["thing"] (spIsNum K) := by
  refine F.ok scIN (fun vs H Q E h => ?_) (fun cdv A outer s H vs Q E hr h => ?_)
  · obtain ⟨c, rfl, _⟩ := h
    rfl
  obtain ⟨x, rfl, th, q⟩ := h
  refine ⟨_, pss_one (ps_ret (pe_and (pe_callB (call_isK N) rfl mi PyProof.Rows.boot_isinstance (pa_cons (pv 0) (pa_cons (pe_ty rfl m1 PyProof.Rows.boot_int) pa_nil)))
    (pe_one (pe_not (pe_callB (call_isK N) rfl mi PyProof.Rows.boot_isinstance (pa_cons (pv 0) (pa_cons (pe_ty rfl m2 PyProof.Rows.boot_bool) pa_nil))))))), ?_⟩
  rcases th with ⟨i, rfl⟩ | ⟨n, t, b1, b2, kd, k1, k2, z⟩
  · exact ⟨_, rfl, _, _, _, _, rfl, .inl (.int i), k_ii, _, rfl, ⟨_, rfl, _, _, _, _, rfl, .inl (.int i), k_ib, _, rfl, q⟩⟩
  · rw [numB_no n] at q
    refine ⟨_, rfl, _, _, _, _, rfl, kd, k1, _, rfl, ?_⟩
    cases b1 with
    | false => exact itF q
    | true =>
      refine itT ⟨_, rfl, _, _, _, _, rfl, kd, k2, _, rfl, ?_⟩
      have e : (!b2) = false := z
      rw [e]
      exact q
abbrev sIsWh : Stmt := top 8
def spIsWh (K : Frag) : Sp := fun vs H Q _ => ∃ x lo hi, vs = [x, .int lo, .int hi] ∧ Th K H x ∧ Q (.bl (inB lo hi x)) H
theorem scIW : FnScope ["thing", "low", "high"] ["thing", "low", "high"] (defScope sIsWh) := ⟨rfl, rfl, rfl, by decide +kernel, rfl, by decide +kernel, by decide +kernel⟩
theorem ok_iswh {f g : Addr} {fd gd : FuncData} (F : Fun K "is_whole" "is_whole" sIsWh f fd) (G : FnOk P w K mg base CX0 1 g gd ["thing"] (spIsNum K)) (bG : Binds K gd ["thing"] []) (kG : keepIn K (.ref g) = true) (mG : mg "is_number" = some (.ref g)) :
    FnOk P w K mg base CX0 2 f fd ["thing", "low", "high"] (spIsWh K) := by
  refine F.ok scIW (fun vs H Q E h => ?_) (fun cdv A outer s H vs Q E hr h => ?_)
  · obtain ⟨c, lo, hi, rfl, _⟩ := h
    rfl
  obtain ⟨x, lo, hi, rfl, th, q⟩ := h
  refine ⟨_, pss_one (ps_ret (pe_and (pe_call G hr rfl mG kG bG .nil pass0 (pa_cons (pv 0) pa_nil)) (pe_and (pe_cmpR op_le (pv 1) (pv 0) (nomark _)) (pe_one (pe_cmpR op_le (pv 0) (pv 2) (nomark _)))))), ?_⟩
  refine ⟨_, rfl, x, rfl, th, _, rfl, ?_⟩
  rcases th with ⟨i, rfl⟩ | ⟨n, _⟩
  · refine itT ⟨_, rfl, _, rfl, _, _, rfl, rfl, _, rfl, ?_⟩
    refine ite2 (fun c => ?_) (fun c => ?_)
    · refine ⟨_, rfl, _, rfl, _, _, rfl, rfl, ?_⟩
      have q' : Q (.bl (decide (lo ≤ i) && decide (i ≤ hi))) H := q
      rw [decide_eq_true (of_decide_eq_true c), Bool.true_and] at q'
      exact q'
    · have q' : Q (.bl (decide (lo ≤ i) && decide (i ≤ hi))) H := q
      rw [decide_eq_false (fun z => c (decide_eq_true z)), Bool.false_and] at q'
      exact q'
  · rw [numB_no n]
    rw [inB_no n] at q
    exact itF q
abbrev sGcd : Stmt := top 11
def spGcd : Sp := fun vs H Q _ => ∃ a b : Nat, vs = [.int a, .int b] ∧ Q (.int (Nat.gcd a b)) H
theorem scG : FnScope ["one", "other"] ["one", "other"] (defScope sGcd) := ⟨rfl, rfl, rfl, by decide +kernel, rfl, by decide +kernel, by decide +kernel⟩
def secN : St → Nat
  | [_, some (.int b)] => b.toNat
  | _ => 0
theorem ok_gcd {f : Addr} {fd : FuncData} (F : Fun K "greatest_common" "greatest_common" sGcd f fd) : FnOk P w K mg base CX0 1 f fd ["one", "other"] spGcd := by
  refine F.ok scG (fun vs H Q E h => ?_) (fun cdv A outer s H vs Q E hr h => ?_)
  · obtain ⟨c, lo, rfl, _⟩ := h
    rfl
  obtain ⟨a, b, rfl, q⟩ := h
  have nd := scG.nd
  refine ⟨_, pss_cons (ps_while PassesOwn.never (pt_cmpR op_gt (pv 1) pe_int (nomark _)) (pss_one (ps_par (i := 0) (j := 1) rfl nd rfl rfl (by decide) rfl rfl (pa_cons (pv 1) (pa_cons (pe_op op_mod (pv 0) (pv 1)) pa_nil)) rfl))) (pss_one (ps_ret (pv 0))), ?_⟩
  refine while_by (fun σ H' => H' = H ∧ ∃ x y : Nat, σ = [some (.int x), some (.int y)] ∧ Nat.gcd x y = Nat.gcd a b) (fun σ _ => secN σ) ⟨rfl, a, b, rfl, rfl⟩ ?_ ?_
  · rintro σ H' ⟨rfl, x, y, rfl, e⟩
    refine ⟨_, rfl, _, _, rfl, rfl, _, rfl, ?_⟩
    refine ite2 (fun c => ?_) (fun c => ?_)
    · have c' : (0 : Int) < (y : Int) := of_decide_eq_true c
      refine ⟨_, rfl, _, rfl, _, rfl, _, _, rfl, rfl, c', _, _, rfl, ⟨rfl, y, x % y, ?_, ?_⟩, ?_⟩
      · show [some (V.int y), some (V.int ((x : Int) % (y : Int)))] = _
        rw [show ((x : Int) % (y : Int)) = ((x % y : Nat) : Int) from by simp]
      · rw [← e, Nat.gcd_comm x y, Nat.gcd_rec y x, Nat.gcd_comm]
      · show ((x : Int) % (y : Int)).toNat < (y : Int).toNat
        have := Int.emod_lt_of_pos (x : Int) c'
        omega
    · have c' : ¬ (0 : Int) < (y : Int) := fun z => c (decide_eq_true z)
      have y0 : y = 0 := by omega
      subst y0
      rw [Nat.gcd_zero_right] at e
      refine ⟨_, rfl, ?_⟩
      rw [e]
      exact q
  · rintro σ H Q Q' m ⟨x, e, i, j, h1, h2, b, hb, q⟩
    exact ⟨x, e, i, j, h1, h2, b, hb, m _ _ q⟩
abbrev sPart : Stmt := top 12
def spPart (K : Frag) : Sp := fun vs H Q _ => ∃ x y, vs = [x, y] ∧ Th K H x ∧ Th K H y ∧ Q (.bl (partV x y)) H
theorem scPt : FnScope ["top", "bottom"] ["top", "bottom"] (defScope sPart) := ⟨rfl, rfl, rfl, by decide +kernel, rfl, by decide +kernel, by decide +kernel⟩
theorem ok_part {f g k : Addr} {fd gd kd : FuncData} (F : Fun K "is_part" "is_part" sPart f fd) (G : FnOk P w K mg base CX0 1 g gd ["thing"] (spIsNum K)) (bG : Binds K gd ["thing"] []) (kG : keepIn K (.ref g) = true) (mG : mg "is_number" = some (.ref g))
    (W : FnOk P w K mg base CX0 2 k kd ["thing", "low", "high"] (spIsWh K)) (bW : Binds K kd ["thing", "low", "high"] []) (kW : keepIn K (.ref k) = true) (mW : mg "is_whole" = some (.ref k)) : FnOk P w K mg base CX0 3 f fd ["top", "bottom"] (spPart K) := by
  refine F.ok scPt (fun vs H Q E h => ?_) (fun cdv A outer s H vs Q E hr h => ?_)
  · obtain ⟨x, y, rfl, _⟩ := h
    rfl
  obtain ⟨x, y, rfl, tx, ty, q⟩ := h
  have hr1 := hr.mono (show 1 ≤ 2 by decide)
  refine ⟨_, pss_one (ps_ret (pe_and (pe_call G hr1 rfl mG kG bG .nil pass0 (pa_cons (pv 1) pa_nil)) (pe_and (pe_cmpR op_ge (pv 1) pe_int (nomark _)) (pe_one (pe_call W hr rfl mW kW bW .nil pass0 (pa_cons (pv 0) (pa_cons pe_int (pa_cons (pv 1) pa_nil)))))))), ?_⟩
  refine ⟨_, rfl, y, rfl, ty, _, rfl, ?_⟩
  rcases ty with ⟨j, rfl⟩ | ⟨n, _⟩
  · refine itT ⟨_, rfl, _, _, rfl, rfl, _, rfl, ?_⟩
    have q' : Q (.bl (decide (1 ≤ j) && inB 0 j x)) H := q
    refine ite2 (fun c => ?_) (fun c => ?_)
    · rw [decide_eq_true (of_decide_eq_true c), Bool.true_and] at q'
      exact ⟨_, rfl, _, rfl, x, 0, j, rfl, tx, q'⟩
    · rw [decide_eq_false (fun z => c (decide_eq_true z)), Bool.false_and] at q'
      exact q'
  · rw [numB_no n]
    rw [partV_no n] at q
    exact itF q
abbrev sISh : Stmt := top 14
def spISh : Sp := fun vs H Q _ => ∃ x d, vs = [x] ∧ Rds H x d ∧ Q (.bl (shareD d)) H
theorem scISh : FnScope ["thing", "top", "bottom"] ["thing"] (defScope sISh) := ⟨rfl, rfl, rfl, by decide +kernel, rfl, by decide +kernel, by decide +kernel⟩
theorem shareD_two {d1 d2 : PyData} {H : Hp} {u v : V} (r1 : Rds H u d1) (r2 : Rds H v d2) : partV u v = false → shareD (.tuple [d1, d2]) = false := by
  intro h
  cases r1 with
  | int i =>
    cases r2 with
    | int j =>
      have h' : (decide (1 ≤ j) && (decide (0 ≤ i) && decide (i ≤ j))) = false := h
      show ((decide (1 ≤ j) && (decide (0 ≤ i) && decide (i ≤ j))) && _) = false
      rw [h']
      rfl
    | _ => rfl
  | _ => cases r2 <;> rfl
theorem part_nat {x y : V} (h : partV x y = true) : ∃ a b : Nat, x = .int a ∧ y = .int b ∧ 1 ≤ b ∧ a ≤ b := by
  cases y with
  | int j =>
    have h' : (decide (1 ≤ j) && inB 0 j x) = true := h
    rw [Bool.and_eq_true, decide_eq_true_iff] at h'
    obtain ⟨h1, h2⟩ := h'
    cases x with
    | int i =>
      have h3 : (decide (0 ≤ i) && decide (i ≤ j)) = true := h2
      rw [Bool.and_eq_true, decide_eq_true_iff, decide_eq_true_iff] at h3
      refine ⟨i.toNat, j.toNat, ?_, ?_, by omega, by omega⟩
      · congr 1; omega
      · congr 1; omega
    | _ => cases h2
  | _ => cases h
theorem ok_ish {f a1 a2 : Addr} {fd d1 d2 : FuncData} (N : IsT K) (F : Fun K "is_share" "is_share" sISh f fd) (A1 : Df P w K mg base CX0 3 "is_part" ["top", "bottom"] (spPart K) a1 d1) (A2 : Df P w K mg base CX0 1 "greatest_common" ["one", "other"] spGcd a2 d2)
    (mi : mg "isinstance" = none) (mt : mg "tuple" = none) (ml : mg "len" = none) : FnOk P w K mg base CX0 4 f fd ["thing"] spISh := by
  refine F.ok scISh (fun vs H Q E h => ?_) (fun cdv A outer s H vs Q E hr h => ?_)
  · obtain ⟨v, d, rfl, _⟩ := h
    rfl
  obtain ⟨v, d, rfl, rd, q⟩ := h
  have nd := scISh.nd
  have hr1 : Room 1 _ := hr.mono (by decide)
  refine ⟨_, pss_cons (ps_if (PW.pt (pw_or (pt_not (pt_val (pe_callB (call_isK N) rfl mi PyProof.Rows.boot_isinstance (pa_cons (pv 0) (pa_cons (pe_ty rfl mt PyProof.Rows.boot_tuple) pa_nil))))) (pw_or1 (pt_cmpR op_ne (pe_callB call_len_seq rfl ml PySem.boot_len (pa_cons (pv 0) pa_nil)) pe_int (nomark _))))) (pss_one (ps_ret pe_bl)) pss_nil)
    (pss_cons (ps_asg (pv 0) (pg_tup rfl (pgs_cons (pg_name (i := 1) nd rfl (Or.inl rfl)) (pgs_cons (pg_name (i := 2) nd rfl (Or.inl rfl)) pgs_nil))))
    (pss_one (ps_ret (pe_and (pe_call A1.G hr rfl A1.m A1.kp A1.b .nil pass0 (pa_cons (pv 1) (pa_cons (pv 2) pa_nil))) (pe_one (pe_cmpR op_eq (pe_call A2.G hr1 rfl A2.m A2.kp A2.b .nil pass0 (pa_cons (pv 1) (pa_cons (pv 2) pa_nil))) pe_int (nomark _))))))), ?_⟩
  refine ⟨_, rfl, _, _, _, _, rfl, rd.kd, rd.isT, _, rfl, ?_⟩
  cases e : tupB d with
  | false =>
    refine itT (itT ?_)
    have z : shareD d = false := by cases d <;> first | rfl | cases e
    rw [z] at q
    exact q
  | true =>
    obtain ⟨ds, rfl⟩ : ∃ ds, d = .tuple ds := by cases d <;> first | exact ⟨_, rfl⟩ | cases e
    obtain ⟨a, xs, rfl, ha, rs⟩ := rds_tup rd
    refine itF ⟨_, rfl, a, _, rfl, .inr (SqT.of ha), rfl, _, rfl, ?_⟩
    have len := rs.length
    by_cases l2 : xs.length = 2
    · obtain ⟨u, v, rfl⟩ : ∃ u v, xs = [u, v] := by
        match xs, l2 with
        | [u, v], _ => exact ⟨u, v, rfl⟩
      cases rs with
      | cons r1 rs =>
        cases rs with
        | cons r2 rs =>
          cases rs
          refine itF ⟨_, rfl, a, _, rfl, SqT.of ha, rfl, _, _, rfl, _, _, rfl, rfl, ?_⟩
          refine ⟨_, rfl, _, rfl, u, v, rfl, r1.th, r2.th, _, rfl, ?_⟩
          cases pv : partV u v with
          | false =>
            rw [shareD_two r1 r2 pv] at q
            exact itF q
          | true =>
            obtain ⟨x, y, rfl, rfl, y1, xy⟩ := part_nat pv
            cases r1
            cases r2
            refine itT ⟨_, rfl, _, rfl, x, y, rfl, rfl, ?_⟩
            have q' : Q (.bl ((decide ((1 : Int) ≤ (y : Int)) && (decide ((0 : Int) ≤ (x : Int)) && decide ((x : Int) ≤ (y : Int)))) && decide (Nat.gcd (x : Int).toNat (y : Int).toNat = 1))) H := q
            rw [decide_eq_true (show (1 : Int) ≤ (y : Int) by omega), decide_eq_true (show (0 : Int) ≤ (x : Int) by omega), decide_eq_true (show (x : Int) ≤ (y : Int) by omega), Int.toNat_natCast, Int.toNat_natCast, Bool.and_self, Bool.and_self, Bool.true_and] at q'
            have ee : decide (V.int ((Nat.gcd x y : Nat) : Int) = V.int 1) = decide (Nat.gcd x y = 1) := by
              by_cases g : Nat.gcd x y = 1
              · rw [decide_eq_true g, g]; rfl
              · rw [decide_eq_false g, decide_eq_false]
                intro z
                injection z with z
                omega
            rw [ee]
            exact q'
    · have e1 : (!decide (V.int (xs.length : Nat) = V.int 2)) = true := by
        rw [decide_eq_false]
        · rfl
        · intro h
          injection h with h
          omega
      rw [e1]
      refine itT ?_
      have z : shareD (.tuple ds) = false := by
        match ds, len, l2 with
        | [], _, _ => rfl
        | [_], _, _ => simp [shareD]
        | [_, _], l, n => exact absurd l n
        | _ :: _ :: _ :: _, _, _ => simp [shareD]
      rw [z] at q
      exact q
abbrev sNN : Stmt := top 23
def spNN (CN : Addr) : Sp := fun vs H Q E => ∃ x d lo hi, vs = [x, .int lo, .int hi] ∧ Rds H x d ∧ (inD lo hi d = true → Q .non H) ∧ (inD lo hi d = false → ErrF CN "found" x H E)
theorem scNN : FnScope ["thing", "low", "high"] ["thing", "low", "high"] (defScope sNN) := ⟨rfl, rfl, rfl, by decide +kernel, rfl, by decide +kernel, by decide +kernel⟩
theorem ok_nn {f a1 D CN fC : Addr} {fd d1 fdC : FuncData} (F : Fun K "need_number" "need_number" sNN f fd) (B : BaseC K D) (T : OneF K mg D "NoNumber" "found" CN fC fdC) (A1 : Df P w K mg base CX0 2 "is_whole" ["thing", "low", "high"] (spIsWh K) a1 d1) : FnOk P w K mg base (CXE P w) 3 f fd ["thing", "low", "high"] (spNN CN) := by
  refine okE F scNN (fun vs H Q E h => ?_) (fun cdv A outer s H vs Q E hr h => ?_)
  · obtain ⟨_, _, _, _, rfl, _⟩ := h
    rfl
  obtain ⟨x, d, lo, hi, rfl, rd, q1, q2⟩ := h
  refine ⟨_, pss_one (ps_if (pt_not (pt_val (pe_call A1.G hr rfl A1.m A1.kp A1.b .nil pass0 (pa_cons (pv 0) (pa_cons (pv 1) (pa_cons (pv 2) pa_nil)))))) (pss_one (ps_raise B T.cls (T.ok P w base) hr T.bi rfl T.mgC (pv 0))) pss_nil), ?_⟩
  refine ⟨_, rfl, _, rfl, _, rfl, x, lo, hi, rfl, rd.th, _, rfl, ?_⟩
  rw [rd.inB]
  cases e : inD lo hi d with
  | true => exact itF (q1 e)
  | false => exact itT ⟨_, rfl, fun e' dx h1 h2 nd => qR_of nd (q2 e e' dx h1 h2 nd)⟩
abbrev sNC : Stmt := top 24
def spNC (CS : Addr) : Sp := fun vs H Q E => ∃ x d, vs = [x] ∧ Rds H x d ∧ (coinD d = true → Q .non H) ∧ (coinD d = false → ErrF CS "found" x H E)
theorem scNC : FnScope ["thing"] ["thing"] (defScope sNC) := ⟨rfl, rfl, rfl, by decide +kernel, rfl, by decide +kernel, by decide +kernel⟩
theorem share_shape {d : PyData} (h : shareD d = true) : ∃ a b, d = .tuple [.int a, .int b] := by
  match d, h with
  | .tuple [.int a, .int b], _ => exact ⟨a, b, rfl⟩
theorem ok_nc {f a1 a2 D CS fC : Addr} {fd d1 d2 fdC : FuncData} {t : Tok} (F : Fun K "need_coin" "need_coin" sNC f fd) (B : BaseC K D) (T : OneF K mg D "NoShare" "found" CS fC fdC) (A1 : Df P w K mg base CX0 2 "is_whole" ["thing", "low", "high"] (spIsWh K) a1 d1) (A2 : Df P w K mg base CX0 4 "is_share" ["thing"] spISh a2 d2) (mB : mg "MOST_BOTTOM" = some (.int 100 t)) :
    FnOk P w K mg base (CXE P w) 5 f fd ["thing"] (spNC CS) := by
  refine okE F scNC (fun vs H Q E h => ?_) (fun cdv A outer s H vs Q E hr h => ?_)
  · obtain ⟨_, _, rfl, _⟩ := h
    rfl
  obtain ⟨x, d, rfl, rd, q1, q2⟩ := h
  have hr2 : Room 2 _ := hr.mono (by decide)
  refine ⟨_, pss_one (ps_if (PW.pt (pw_or (pt_not (pt_val (pe_call A2.G hr rfl A2.m A2.kp A2.b .nil pass0 (pa_cons (pv 0) pa_nil)))) (pw_or1 (pt_not (pt_val (pe_call A1.G hr2 rfl A1.m A1.kp A1.b .nil pass0 (pa_cons (pe_ix ix_tup (pv 0) pe_int (fun _ _ => rfl)) (pa_cons pe_int (pa_cons (pe_glob (v := .int 100) rfl mB ⟨_, rfl⟩) pa_nil)))))))))
    (pss_one (ps_raise B T.cls (T.ok P w base) hr2 T.bi rfl T.mgC (pv 0))) pss_nil), ?_⟩
  refine ⟨_, rfl, x, d, rfl, rd, _, rfl, ?_⟩
  cases e : shareD d with
  | false =>
    have z : coinD d = false := by
      match d, e with
      | .tuple [.int a, .int b], e => show (shareD (.tuple [.int a, .int b]) && _) = false; rw [e]; rfl
      | .none, _ | .bool _, _ | .int _, _ | .str _, _ | .list _, _ | .dict _, _ => rfl
      | .tuple [], _ => rfl
      | .tuple [_], _ => simp [coinD]
      | .tuple (_ :: _ :: _ :: _), _ => simp [coinD]
      | .tuple [.int _, .none], _ | .tuple [.int _, .bool _], _ | .tuple [.int _, .str _], _ | .tuple [.int _, .list _], _ | .tuple [.int _, .tuple _], _ | .tuple [.int _, .dict _], _ => rfl
      | .tuple [.none, _], _ | .tuple [.bool _, _], _ | .tuple [.str _, _], _ | .tuple [.list _, _], _ | .tuple [.tuple _, _], _ | .tuple [.dict _, _], _ => rfl
    exact itT (itT ⟨_, rfl, fun e' dx h1 h2 nd => qR_of nd (q2 z e' dx h1 h2 nd)⟩)
  | true =>
    obtain ⟨a, b, rfl⟩ := share_shape e
    obtain ⟨p, xs, rfl, hp, rs⟩ := rds_tup rd
    cases rs with
    | cons r1 rs =>
      cases rs with
      | cons r2 rs =>
        cases rs
        cases r1
        cases r2
        refine itF ⟨_, rfl, p, _, _, _, rfl, rfl, SqT.of hp, atI_nat (j := 1) rfl, _, 2, 100, rfl, .inl ⟨b, rfl⟩, _, rfl, ?_⟩
        have ec : coinD (.tuple [.int a, .int b]) = inB 2 100 (.int b) := by
          show (shareD (.tuple [.int a, .int b]) && (decide (2 ≤ b) && decide (b ≤ 100))) = _
          rw [e, Bool.true_and]
          rfl
        cases z : inB 2 100 (.int b) with
        | true => exact itF (q1 (by rw [ec, z]))
        | false => exact itT ⟨_, rfl, fun e' dx h1 h2 nd => qR_of nd (q2 (by rw [ec, z]) e' dx h1 h2 nd)⟩
abbrev sOP : Stmt := top 25
def spOP : Sp := fun vs H Q _ => ∃ i : Int, vs = [.int i] ∧ 0 ≤ i ∧ i ≤ 20 ∧ ∀ l H', Ext H H' → Rds H' (.ref l) (partsD [upI 0 i.toNat]) → Q (.ref l) H'
theorem scOP : FnScope ["folk"] ["folk"] (defScope sOP) := ⟨rfl, rfl, rfl, by decide +kernel, rfl, by decide +kernel, by decide +kernel⟩
theorem ok_op {f : Addr} {fd : FuncData} (F : Fun K "one_part" "one_part" sOP f fd) (mt : mg "tuple" = none) (mr : mg "range" = none) : FnOk P w K mg base CX0 1 f fd ["folk"] spOP := by
  refine F.ok scOP (fun vs H Q E h => ?_) (fun cdv A outer s H vs Q E hr h => ?_)
  · obtain ⟨_, rfl, _⟩ := h
    rfl
  obtain ⟨i, rfl, h1, h2, q⟩ := h
  refine ⟨_, pss_one (ps_ret (pe_tup (pa_cons (pe_callTy (call_tupR rfl) rfl mt PyProof.Rows.boot_tuple (pa_cons (pe_callTy call_rng1 rfl mr PyProof.Rows.boot_range (pa_cons (pv 0) pa_nil)) pa_nil)) pa_nil))), ?_⟩
  refine ⟨_, rfl, i, rfl, fun r hr => ⟨r, 0, i, rfl, upd_same, ⟨by omega, by omega, by omega, by omega⟩, by omega, fun l hl => ⟨by show 1 ≤ sizeLine; decide, fun m hm => ?_⟩⟩⟩
  have x2 := Ext.new (o := .tup [.ref l]) hm
  refine q m _ (((Ext.new hr).trans (Ext.new hl)).trans x2) (.tup upd_same (.cons (.tup (x2 _ _ upd_same) ?_) .nil))
  rw [Int.sub_zero, upL_eq]
  exact rds_intsD _ _
end
end My
set_option Elab.async false
set_option linter.all false
set_option maxRecDepth 100000
set_option maxHeartbeats 1000000
set_option exponentiation.threshold 5000
namespace My
open PySem PySem.W L2
section
variable {P : Program} {w : World} {K : Frag} {mg : Str → Option Value} {base : Heap} {C : Nat → Addr} {CR : Addr}
abbrev sRuI : Stmt := inClass (top 27) 0
abbrev sRuF : Stmt := inClass (top 27) 1
abbrev sRuT : Stmt := inClass (top 27) 4
def put4 (v1 v2 v3 v4 : V) (fs : List (Str × V)) : List (Str × V) := putF "parts" v4 (putF "mark" v3 (putF "first_state" v2 (putF "size" v1 fs)))
def spRuI (C : Nat → Addr) : Sp := fun vs H Q _ => ∃ x v1 v2 v3 v4 i dx fs, vs = [.ref x, v1, v2, v3, v4] ∧ i < 3 ∧ H x = some (.ins (C i) dx fs) ∧ fs.length ≤ 5 ∧ Q .non (upd H x (.ins (C i) dx (put4 v1 v2 v3 v4 fs)))
theorem scRuI : FnScope ["self", "size", "first_state", "mark", "parts"] ["self", "size", "first_state", "mark", "parts"] (defScope sRuI) := ⟨rfl, rfl, rfl, by decide +kernel, rfl, by decide +kernel, by decide +kernel⟩
theorem putF_len (f : Str) (v : V) : ∀ fs : List (Str × V), (putF f v fs).length ≤ fs.length + 1
  | [] => Nat.le_refl _
  | (g, x) :: r => by
    have := putF_len f v r
    show (if g = f then (g, v) :: r else (g, x) :: putF f v r).length ≤ _
    split <;> simp only [List.length_cons] <;> omega
theorem ok_rui {f : Addr} {fd : FuncData} (Z : KR K C CR) (F : Fun K "__init__" "Rule.__init__" sRuI f fd) : FnOk P w K mg base CX0 1 f fd ["self", "size", "first_state", "mark", "parts"] (spRuI C) := by
  refine F.ok scRuI (fun vs H Q E h => ?_) (fun cdv A outer s H vs Q E hr h => ?_)
  · obtain ⟨_, _, _, _, _, _, _, _, rfl, _⟩ := h
    rfl
  obtain ⟨x, v1, v2, v3, v4, i, dx, fs, rfl, hi, hx, l5, q⟩ := h
  refine ⟨_, pss_cons (ps_fld (pv 0) (pv 1) rfl) (pss_cons (ps_fld (pv 0) (pv 2) rfl) (pss_cons (ps_fld (pv 0) (pv 3) rfl) (pss_one (ps_fld (pv 0) (pv 4) rfl)))), ?_⟩
  have c := Z.cls i hi
  have n := Z.no i hi
  have k1 := putF_len "size" v1 fs
  have k2 := putF_len "first_state" v2 (putF "size" v1 fs)
  have k3 := putF_len "mark" v3 (putF "first_state" v2 (putF "size" v1 fs))
  refine ⟨_, rfl, _, rfl, x, C i, dx, fs, rfl, hx, c, n _ (by decide +kernel), by omega, ?_⟩
  refine ⟨_, rfl, _, rfl, x, C i, dx, _, rfl, upd_same, c, n _ (by decide +kernel), by omega, ?_⟩
  rw [upd_upd]
  refine ⟨_, rfl, _, rfl, x, C i, dx, _, rfl, upd_same, c, n _ (by decide +kernel), by omega, ?_⟩
  rw [upd_upd]
  refine ⟨_, rfl, _, rfl, x, C i, dx, _, rfl, upd_same, c, n _ (by decide +kernel), by omega, ?_⟩
  rw [upd_upd]
  exact q
def spFolk (C : Nat → Addr) : Sp := fun vs H Q _ => ∃ v t, vs = [v] ∧ Ru C H t v ∧ Q (.int t.folk) H
theorem scRuF : FnScope ["self"] ["self"] (defScope sRuF) := ⟨rfl, rfl, rfl, by decide +kernel, rfl, by decide +kernel, by decide +kernel⟩
theorem ok_ruf {f : Addr} {fd : FuncData} (Z : KR K C CR) (F : Fun K "folk" "Rule.folk" sRuF f fd) : FnOk P w K mg base CX0 1 f fd ["self"] (spFolk C) := by
  refine F.ok scRuF (fun vs H Q E h => ?_) (fun cdv A outer s H vs Q E hr h => ?_)
  · obtain ⟨_, _, rfl, _⟩ := h
    rfl
  obtain ⟨v, t, rfl, ru, q⟩ := h
  obtain ⟨a, dx, fs, rfl, ha, h1, _⟩ := ru.ob.ex
  exact ⟨_, pss_one (ps_ret (pe_fld (pv 0) rfl)), _, rfl, a, _, dx, fs, _, rfl, ha, Z.cls _ t.kind_lt, Z.no _ t.kind_lt _ (by decide +kernel), h1, q⟩
def spTold (C : Nat → Addr) : Sp := fun vs H Q _ => ∃ v t G, vs = [v] ∧ Ext G H ∧ Ru C G t v ∧ ∀ b, Rds G b t.told → Q b H
theorem scRuT : FnScope ["self"] ["self"] (defScope sRuT) := ⟨rfl, rfl, rfl, by decide +kernel, rfl, by decide +kernel, by decide +kernel⟩
theorem ok_rut {f : Addr} {fd : FuncData} (Z : KR K C CR) (F : Fun K "told" "Rule.told" sRuT f fd) : FnOk P w K mg base CX0 1 f fd ["self"] (spTold C) := by
  refine F.ok scRuT (fun vs H Q E h => ?_) (fun cdv A outer s H vs Q E hr h => ?_)
  · obtain ⟨_, _, _, rfl, _⟩ := h
    rfl
  obtain ⟨v, t, G, rfl, xG, ru, q⟩ := h
  obtain ⟨a, dx, fs, rfl, ha, _, _, ⟨b, h2, r2⟩, _⟩ := ru.ob.ex
  exact ⟨_, pss_one (ps_ret (pe_fld (pv 0) rfl)), _, rfl, a, _, dx, fs, _, rfl, xG _ _ ha, Z.cls _ t.kind_lt, Z.no _ t.kind_lt _ (by decide +kernel), h2, q b r2⟩
end
end My
set_option Elab.async false
set_option linter.all false
set_option maxRecDepth 100000
set_option maxHeartbeats 1000000
set_option exponentiation.threshold 5000
namespace My
open PySem PySem.W L2
theorem lk_put {f g : Str} {v : V} {fs : List (Str × V)} : (putF f v fs).lookup g = if g = f then some v else fs.lookup g := lookup_putF f g v fs
section
variable {v1 v2 v3 v4 : V} {fs : List (Str × V)}
theorem put4_size : (put4 v1 v2 v3 v4 fs).lookup ("size" : Str) = some v1 := by
  unfold put4
  rw [lk_put, if_neg (by decide +kernel), lk_put, if_neg (by decide +kernel), lk_put, if_neg (by decide +kernel), lk_put, if_pos rfl]
theorem put4_fst : (put4 v1 v2 v3 v4 fs).lookup ("first_state" : Str) = some v2 := by
  unfold put4
  rw [lk_put, if_neg (by decide +kernel), lk_put, if_neg (by decide +kernel), lk_put, if_pos rfl]
theorem put4_mark : (put4 v1 v2 v3 v4 fs).lookup ("mark" : Str) = some v3 := by
  unfold put4
  rw [lk_put, if_neg (by decide +kernel), lk_put, if_pos rfl]
theorem put4_parts : (put4 v1 v2 v3 v4 fs).lookup ("parts" : Str) = some v4 := by
  unfold put4
  rw [lk_put, if_pos rfl]
theorem put4_other {g : Str} (h : g ≠ "size" ∧ g ≠ "first_state" ∧ g ≠ "mark" ∧ g ≠ "parts") : (put4 v1 v2 v3 v4 fs).lookup g = fs.lookup g := by
  unfold put4
  rw [lk_put, if_neg h.2.2.2, lk_put, if_neg h.2.2.1, lk_put, if_neg h.2.1, lk_put, if_neg h.1]
theorem mN_other {g : Str} (h : g ∈ mNames) : g ≠ "size" ∧ g ≠ "first_state" ∧ g ≠ "mark" ∧ g ≠ "parts" := by
  have : ∀ g ∈ mNames, g ≠ "size" ∧ g ≠ "first_state" ∧ g ≠ "mark" ∧ g ≠ "parts" := by decide +kernel
  exact this g h
theorem mN_nil {g : Str} {ns : List Str} (h : g ∈ mNames) (hn : ∀ n ∈ fs.map (·.1), n ∈ fNames) : fs.lookup g = none := by
  have nf : ∀ g ∈ mNames, ∀ n ∈ fNames, g ≠ n := by decide +kernel
  cases e : fs.lookup g with
  | none => rfl
  | some v =>
    exfalso
    have : ∀ (l : List (Str × V)), l.lookup g = some v → g ∈ l.map (·.1) := by
      intro l
      induction l with
      | nil => intro h; cases h
      | cons y l ih =>
        intro h
        obtain ⟨k, x⟩ := y
        rw [List.lookup_cons] at h
        cases e : g == k with
        | true => rw [beq_iff_eq.mp e]; exact List.mem_cons_self ..
        | false => rw [e] at h; exact List.mem_cons_of_mem _ (ih h)
    exact nf g h g (hn g (this fs e)) rfl
theorem ob_put4 {Cl a dx : Addr} {H : Hp} {fk : Int} {bg tl pt : PyData} {X : List (Str × V) → Prop} (ha : H a = some (.ins Cl dx (put4 (.int fk) v2 v3 v4 fs))) (r2 : Rds H v2 bg) (r3 : Rds H v3 tl) (r4 : Rds H v4 pt) (hn : ∀ n ∈ fs.map (·.1), n ∈ fNames) (hx : X (put4 (.int fk) v2 v3 v4 fs)) : Ob Cl H (.ref a) fk bg tl pt X :=
  ⟨a, dx, _, rfl, ha, put4_size, ⟨_, put4_fst, r2⟩, ⟨_, put4_mark, r3⟩, ⟨_, put4_parts, r4⟩, fun m hm => by rw [put4_other (mN_other hm)]; exact mN_nil (ns := []) hm hn, hx⟩
end
section
variable {P : Program} {w : World} {K : Frag} {mg : Str → Option Value} {base : Heap} {C : Nat → Addr} {CR CN CS : Addr}
abbrev sSpI : Stmt := inClass (top 28) 0
abbrev sPaI : Stmt := inClass (top 29) 0
abbrev sCoI : Stmt := inClass (top 30) 0
def spSpI (C : Nat → Addr) (CN : Addr) : Sp := fun vs H Q E => ∃ x u1 u2 d1 d2 dx, vs = [.ref x, u1, u2] ∧ H x = some (.ins (C 0) dx []) ∧ Rds H u1 d1 ∧ Rds H u2 d2 ∧ (inD 1 20 d1 = false → ErrF CN "found" u1 H E) ∧ (∀ n, d1 = .int n → 1 ≤ n → n ≤ 20 → inD 0 n d2 = false → ErrF CN "found" u2 H E) ∧
  ∀ n k, d1 = .int n → d2 = .int k → (R0.split n k).ok → ∀ H', Kept H H' x → Ru0 C H' (.split n k) (.ref x) → Q .non H'
theorem scSpI : FnScope ["self", "folk", "ones"] ["self", "folk", "ones"] (defScope sSpI) := ⟨rfl, rfl, rfl, by decide +kernel, rfl, by decide +kernel, by decide +kernel⟩
variable {S g a1 a2 a3 : Addr} {gd d1 d2 d3 : FuncData} {t : Tok}
theorem ok_spi {f : Addr} {fd : FuncData} (F : Fun K "__init__" "Split.__init__" sSpI f fd) (Cf : ClsFn K S "__init__" g) (G : FnOk P w K mg base CX0 1 g gd ["self", "size", "first_state", "mark", "parts"] (spRuI C)) (bG : Binds K gd ["self", "size", "first_state", "mark", "parts"] []) (mS : mg "Rule" = some (.ref S))
    (A1 : Df P w K mg base (CXE P w) 3 "need_number" ["thing", "low", "high"] (spNN CN) a1 d1) (A2 : Df P w K mg base CX0 1 "one_part" ["folk"] spOP a2 d2) (mF : mg "MOST_FOLK" = some (.int 20 t)) : FnOk P w K mg base (CXE P w) 4 f fd ["self", "folk", "ones"] (spSpI C CN) := by
  refine okE F scSpI (fun vs H Q E h => ?_) (fun cdv A outer s H vs Q E hr h => ?_)
  · obtain ⟨_, _, _, _, _, _, rfl, _⟩ := h
    rfl
  obtain ⟨x, u1, u2, e1, e2, dx, rfl, hx, r1, r2, q1, q2, q⟩ := h
  have hr1 : Room 1 _ := hr.mono (by decide)
  refine ⟨_, pss_cons (ps_expr (pe_call A1.G hr rfl A1.m A1.kp A1.b .nil passE (pa_cons (pv 1) (pa_cons pe_int (pa_cons (pe_glob (v := .int 20) rfl mF ⟨_, rfl⟩) pa_nil))))) (pss_cons (ps_expr (pe_call A1.G hr rfl A1.m A1.kp A1.b .nil passE (pa_cons (pv 2) (pa_cons pe_int (pa_cons (pv 1) pa_nil)))))
    (pss_one (ps_expr (pe_clsCall Cf G hr1 rfl mS bG .nil pass0 (pa_cons (pv 0) (pa_cons (pv 1) (pa_cons (pv 2) (pa_cons (pe_tup (pa_cons pe_str (pa_cons (pv 1) (pa_cons (pv 2) pa_nil)))) (pa_cons (pe_call A2.G hr1 rfl A2.m A2.kp A2.b .nil pass0 (pa_cons (pv 1) pa_nil)) pa_nil))))))))), ?_⟩
  refine ⟨_, rfl, u1, e1, 1, 20, rfl, r1, fun h1 => ?_, fun h1 => q1 h1⟩
  obtain ⟨n, rfl, n1, n20⟩ := inD_int h1
  cases r1
  refine ⟨_, rfl, _, rfl, u2, e2, 0, n, rfl, r2, fun h2 => ?_, fun h2 => q2 n rfl n1 n20 h2⟩
  obtain ⟨k, rfl, k0, kn⟩ := inD_int h2
  cases r2
  refine ⟨_, rfl, _, rfl, _, rfl, _, rfl, _, rfl, by show 3 ≤ sizeLine; decide, fun m hm => ⟨_, rfl, n, rfl, by omega, n20, fun l H2 x2 rl => ?_⟩⟩
  have xm := Ext.new (o := .tup [.str "split", .int n, .int k]) hm
  have x12 := xm.trans x2
  have hm2 := x2 _ _ (show upd H m (.tup [.str "split", .int n, .int k]) m = _ from upd_same)
  have hx2 := x12 _ _ hx
  refine ⟨x, _, _, _, _, 0, dx, [], rfl, by decide, hx2, by decide, q n k rfl rfl ⟨n1, n20, k0, kn⟩ _ ((x12.kept x).trans (keptUpd _)) ?_⟩
  have kk : Kept H2 (upd H2 x (.ins (C 0) dx (put4 (.int n) (.int k) (.ref m) (.ref l) []))) x := keptUpd _
  exact ob_put4 upd_same (.int _) ((Rds.tup hm2 (.cons (.str _) (.cons (.int _) (.cons (.int _) .nil)))).kept hx2 kk) (rl.kept hx2 kk) (by simp) trivial
def spPaI (C : Nat → Addr) (CN CS : Addr) : Sp := fun vs H Q E => ∃ x u1 u2 d1 d2 dx, vs = [.ref x, u1, u2] ∧ H x = some (.ins (C 1) dx []) ∧ Rds H u1 d1 ∧ Rds H u2 d2 ∧ (inD 1 10 d1 = false → ErrF CN "found" u1 H E) ∧ (inD 1 10 d1 = true → coinD d2 = false → ErrF CS "found" u2 H E) ∧
  ∀ n a b, d1 = .int n → d2 = .tuple [.int a, .int b] → (R0.pairs n a b).ok → ∀ H', Kept H H' x → Ru0 C H' (.pairs n a b) (.ref x) → Q .non H'
theorem scPaI : FnScope ["self", "pairs", "coin"] ["self", "pairs", "coin"] (defScope sPaI) := ⟨rfl, rfl, rfl, by decide +kernel, rfl, by decide +kernel, by decide +kernel⟩
theorem coin_shape {d : PyData} (h : coinD d = true) : ∃ a b, d = .tuple [.int a, .int b] := by
  match d, h with
  | .tuple [.int a, .int b], _ => exact ⟨a, b, rfl⟩
theorem ok_pai {f : Addr} {fd : FuncData} (Z : KR K C CR) (F : Fun K "__init__" "Pairs.__init__" sPaI f fd) (Cf : ClsFn K S "__init__" g) (G : FnOk P w K mg base CX0 1 g gd ["self", "size", "first_state", "mark", "parts"] (spRuI C)) (bG : Binds K gd ["self", "size", "first_state", "mark", "parts"] []) (mS : mg "Rule" = some (.ref S))
    (A1 : Df P w K mg base (CXE P w) 3 "need_number" ["thing", "low", "high"] (spNN CN) a1 d1) (A2 : Df P w K mg base CX0 1 "one_part" ["folk"] spOP a2 d2) (A3 : Df P w K mg base (CXE P w) 5 "need_coin" ["thing"] (spNC CS) a3 d3) (mF : mg "MOST_PAIRS" = some (.int 10 t)) : FnOk P w K mg base (CXE P w) 6 f fd ["self", "pairs", "coin"] (spPaI C CN CS) := by
  refine okE F scPaI (fun vs H Q E h => ?_) (fun cdv A outer s H vs Q E hr h => ?_)
  · obtain ⟨_, _, _, _, _, _, rfl, _⟩ := h
    rfl
  obtain ⟨x, u1, u2, e1, e2, dx, rfl, hx, r1, r2, q1, q2, q⟩ := h
  have hr1 : Room 1 _ := hr.mono (by decide)
  have hr3 : Room 3 _ := hr.mono (by decide)
  refine ⟨_, pss_cons (ps_expr (pe_call A1.G hr3 rfl A1.m A1.kp A1.b .nil passE (pa_cons (pv 1) (pa_cons pe_int (pa_cons (pe_glob (v := .int 10) rfl mF ⟨_, rfl⟩) pa_nil))))) (pss_cons (ps_expr (pe_call A3.G hr rfl A3.m A3.kp A3.b .nil passE (pa_cons (pv 2) pa_nil))) (pss_cons (ps_fld (pv 0) (pv 2) rfl)
    (pss_one (ps_expr (pe_clsCall Cf G hr1 rfl mS bG .nil pass0 (pa_cons (pv 0) (pa_cons (pe_op op_mul pe_int (pv 1)) (pa_cons pe_non (pa_cons (pe_tup (pa_cons pe_str (pa_cons (pv 1) (pa_cons (pv 2) pa_nil)))) (pa_cons (pe_call A2.G hr1 rfl A2.m A2.kp A2.b .nil pass0 (pa_cons (pe_op op_mul pe_int (pv 1)) pa_nil)) pa_nil)))))))))), ?_⟩
  refine ⟨_, rfl, u1, e1, 1, 10, rfl, r1, fun h1 => ?_, fun h1 => q1 h1⟩
  refine ⟨_, rfl, u2, e2, rfl, r2, fun h2 => ?_, fun h2 => q2 h1 h2⟩
  obtain ⟨n, rfl, n1, n10⟩ := inD_int h1
  obtain ⟨a, b, rfl⟩ := coin_shape h2
  cases r1
  refine ⟨_, rfl, _, rfl, x, C 1, dx, [], rfl, hx, Z.cls 1 (by decide), Z.no 1 (by decide) _ (by decide +kernel), by decide, ?_⟩
  have k1 : Kept H (upd H x (.ins (C 1) dx (putF "coin" u2 []))) x := keptUpd _
  have r2' := r2.kept hx k1
  have hx1 : upd H x (.ins (C 1) dx (putF "coin" u2 [])) x = some (.ins (C 1) dx [("coin", u2)]) := upd_same
  generalize upd H x (.ins (C 1) dx (putF "coin" u2 [])) = H1 at k1 r2' hx1 ⊢
  have cm : CMul 2 n := .inl ⟨by decide, by decide⟩
  refine ⟨_, rfl, _, rfl, _, _, rfl, rfl, cm, _, rfl, _, rfl, by show 3 ≤ sizeLine; decide, fun m hm => ⟨_, rfl, _, _, rfl, rfl, cm, 2 * n, rfl, by omega, by omega, fun l H2 x2 rl => ?_⟩⟩
  have xm := Ext.new (o := .tup [.str "pairs", .int n, u2]) hm
  have x12 := xm.trans x2
  have hm2 := x2 _ _ (show upd H1 m (.tup [.str "pairs", .int n, u2]) m = _ from upd_same)
  have hx2 := x12 _ _ hx1
  have r22 := r2'.mono x12
  refine ⟨x, _, _, _, _, 1, dx, [("coin", u2)], rfl, by decide, hx2, (by show 1 ≤ 5; decide), q n a b rfl rfl ⟨n1, n10, h2⟩ _ ((k1.trans (x12.kept x)).trans (keptUpd _)) ?_⟩
  have kk : Kept H2 (upd H2 x (.ins (C 1) dx (put4 (.int (2 * n)) .non (.ref m) (.ref l) [("coin", u2)]))) x := keptUpd _
  refine ob_put4 upd_same .non ((Rds.tup hm2 (.cons (.str _) (.cons (.int _) (.cons r22 .nil)))).kept hx2 kk) (rl.kept hx2 kk) (fun n hn => ?_) ⟨u2, ?_, r22.kept hx2 kk⟩
  · have e : n = "coin" := by simpa using hn
    rw [e]
    decide +kernel
  · rw [put4_other (by decide +kernel)]
    rfl
def spCoI (C : Nat → Addr) (CN CS : Addr) : Sp := fun vs H Q E => ∃ x u1 u2 u3 d1 d2 d3 dx, vs = [.ref x, u1, u2, u3] ∧ H x = some (.ins (C 2) dx []) ∧ Rds H u1 d1 ∧ Rds H u2 d2 ∧ Rds H u3 d3 ∧ (inD 1 20 d1 = false → ErrF CN "found" u1 H E) ∧ (inD 1 20 d1 = true → coinD d2 = false → ErrF CS "found" u2 H E) ∧ (inD 1 20 d1 = true → coinD d2 = true → inD 1 20 d3 = false → ErrF CN "found" u3 H E) ∧
  ∀ n a b f, d1 = .int n → d2 = .tuple [.int a, .int b] → d3 = .int f → (R0.coins n a b f).ok → ∀ H', Kept H H' x → Ru0 C H' (.coins n a b f) (.ref x) → Q .non H'
theorem scCoI : FnScope ["self", "folk", "coin", "far"] ["self", "folk", "coin", "far"] (defScope sCoI) := ⟨rfl, rfl, rfl, by decide +kernel, rfl, by decide +kernel, by decide +kernel⟩
theorem ok_coi {f : Addr} {fd : FuncData} {t2 : Tok} (Z : KR K C CR) (F : Fun K "__init__" "Coins.__init__" sCoI f fd) (Cf : ClsFn K S "__init__" g) (G : FnOk P w K mg base CX0 1 g gd ["self", "size", "first_state", "mark", "parts"] (spRuI C)) (bG : Binds K gd ["self", "size", "first_state", "mark", "parts"] []) (mS : mg "Rule" = some (.ref S))
    (A1 : Df P w K mg base (CXE P w) 3 "need_number" ["thing", "low", "high"] (spNN CN) a1 d1) (A2 : Df P w K mg base CX0 1 "one_part" ["folk"] spOP a2 d2) (A3 : Df P w K mg base (CXE P w) 5 "need_coin" ["thing"] (spNC CS) a3 d3) (mF : mg "MOST_FOLK" = some (.int 20 t)) (mR : mg "MOST_FAR" = some (.int 20 t2)) : FnOk P w K mg base (CXE P w) 6 f fd ["self", "folk", "coin", "far"] (spCoI C CN CS) := by
  refine okE F scCoI (fun vs H Q E h => ?_) (fun cdv A outer s H vs Q E hr h => ?_)
  · obtain ⟨_, _, _, _, _, _, _, _, rfl, _⟩ := h
    rfl
  obtain ⟨x, u1, u2, u3, e1, e2, e3, dx, rfl, hx, r1, r2, r3, q1, q2, q3, q⟩ := h
  have hr1 : Room 1 _ := hr.mono (by decide)
  have hr3 : Room 3 _ := hr.mono (by decide)
  refine ⟨_, pss_cons (ps_expr (pe_call A1.G hr3 rfl A1.m A1.kp A1.b .nil passE (pa_cons (pv 1) (pa_cons pe_int (pa_cons (pe_glob (v := .int 20) rfl mF ⟨_, rfl⟩) pa_nil))))) (pss_cons (ps_expr (pe_call A3.G hr rfl A3.m A3.kp A3.b .nil passE (pa_cons (pv 2) pa_nil))) (pss_cons (ps_expr (pe_call A1.G hr3 rfl A1.m A1.kp A1.b .nil passE (pa_cons (pv 3) (pa_cons pe_int (pa_cons (pe_glob (v := .int 20) rfl mR ⟨_, rfl⟩) pa_nil)))))
    (pss_cons (ps_fld (pv 0) (pv 2) rfl) (pss_cons (ps_fld (pv 0) (pv 3) rfl)
    (pss_one (ps_expr (pe_clsCall Cf G hr1 rfl mS bG .nil pass0 (pa_cons (pv 0) (pa_cons (pv 1) (pa_cons pe_int (pa_cons (pe_tup (pa_cons pe_str (pa_cons (pv 1) (pa_cons (pv 2) (pa_cons (pv 3) pa_nil))))) (pa_cons (pe_call A2.G hr1 rfl A2.m A2.kp A2.b .nil pass0 (pa_cons (pv 1) pa_nil)) pa_nil)))))))))))), ?_⟩
  refine ⟨_, rfl, u1, e1, 1, 20, rfl, r1, fun h1 => ?_, fun h1 => q1 h1⟩
  refine ⟨_, rfl, u2, e2, rfl, r2, fun h2 => ?_, fun h2 => q2 h1 h2⟩
  refine ⟨_, rfl, u3, e3, 1, 20, rfl, r3, fun h3 => ?_, fun h3 => q3 h1 h2 h3⟩
  obtain ⟨n, rfl, n1, n20⟩ := inD_int h1
  obtain ⟨a, b, rfl⟩ := coin_shape h2
  obtain ⟨k, rfl, k1', k20⟩ := inD_int h3
  cases r1
  cases r3
  refine ⟨_, rfl, _, rfl, x, C 2, dx, [], rfl, hx, Z.cls 2 (by decide), Z.no 2 (by decide) _ (by decide +kernel), by decide, ?_⟩
  have k1 : Kept H (upd H x (.ins (C 2) dx (putF "coin" u2 []))) x := keptUpd _
  have r2' := r2.kept hx k1
  have hx1 : upd H x (.ins (C 2) dx (putF "coin" u2 [])) x = some (.ins (C 2) dx [("coin", u2)]) := upd_same
  generalize upd H x (.ins (C 2) dx (putF "coin" u2 [])) = H1 at k1 r2' hx1 ⊢
  refine ⟨_, rfl, _, rfl, x, C 2, dx, [("coin", u2)], rfl, hx1, Z.cls 2 (by decide), Z.no 2 (by decide) _ (by decide +kernel), (by show 1 < 1000; decide), ?_⟩
  have ef : putF "far" (.int k) [(("coin" : Str), u2)] = [(("coin" : Str), u2), (("far" : Str), .int k)] := by
    show (if ("coin" : Str) = "far" then _ else _) = _
    rw [if_neg (by decide +kernel)]
    rfl
  rw [ef]
  have kf : Kept H1 (upd H1 x (.ins (C 2) dx [("coin", u2), ("far", .int k)])) x := keptUpd _
  have r2'' := r2'.kept hx1 kf
  have hx1' : upd H1 x (.ins (C 2) dx [("coin", u2), ("far", .int k)]) x = some (.ins (C 2) dx [("coin", u2), ("far", .int k)]) := upd_same
  generalize upd H1 x (.ins (C 2) dx [("coin", u2), ("far", .int k)]) = H1' at kf r2'' hx1' ⊢
  refine ⟨_, rfl, _, rfl, _, rfl, _, rfl, _, rfl, by show 4 ≤ sizeLine; decide, fun m hm => ⟨_, rfl, n, rfl, by omega, n20, fun l H2 x2 rl => ?_⟩⟩
  have xm := Ext.new (o := .tup [.str "coins", .int n, u2, .int k]) hm
  have x12 := xm.trans x2
  have hm2 := x2 _ _ (show upd H1' m (.tup [.str "coins", .int n, u2, .int k]) m = _ from upd_same)
  have hx2 := x12 _ _ hx1'
  have r22 := r2''.mono x12
  refine ⟨x, _, _, _, _, 2, dx, [("coin", u2), ("far", .int k)], rfl, by decide, hx2, (by show 2 ≤ 5; decide), q n a b k rfl rfl rfl ⟨n1, n20, h2, k1', k20⟩ _ (((k1.trans kf).trans (x12.kept x)).trans (keptUpd _)) ?_⟩
  have kk : Kept H2 (upd H2 x (.ins (C 2) dx (put4 (.int n) (.int 0) (.ref m) (.ref l) [("coin", u2), ("far", .int k)]))) x := keptUpd _
  refine ob_put4 upd_same (.int _) ((Rds.tup hm2 (.cons (.str _) (.cons (.int _) (.cons r22 (.cons (.int _) .nil))))).kept hx2 kk) (rl.kept hx2 kk) (fun n hn => ?_) ⟨⟨u2, ?_, r22.kept hx2 kk⟩, ?_⟩
  · have e : n = "coin" ∨ n = "far" := by simpa using hn
    rcases e with e | e <;> rw [e] <;> decide +kernel
  · rw [put4_other (by decide +kernel)]
    rfl
  · rw [put4_other (by decide +kernel)]
    rfl
end
end My
set_option Elab.async false
set_option linter.all false
set_option maxRecDepth 100000
set_option maxHeartbeats 1000000
namespace My
open PySem PySem.W L2
theorem Ext.kp {G H H' : Hp} {x : Addr} (e : Ext G H) (n : G x = none) (k : Kept H H' x) : Ext G H' := fun b o h => k b o (e b o h) fun z => by rw [z, n] at h; cases h
section
variable {X : Cx}
end
section
variable {X : Cx} {pins : List (Addr × Obj)} {σ : St} {H : Hp} {s : Shared} {A : Around} {Q : Value → Shared → Prop} {E : Value → Shared → Prop} {b : Bool} {tp : Addr} {dd : Option Addr} {its : List Value} {n : Nat} {sl : Array (Option Value)}
end
section
variable {X : Cx}
end
end My
set_option Elab.async false
set_option linter.all false
set_option maxRecDepth 100000
set_option maxHeartbeats 1000000
namespace My
open PySem PySem.W L2
def KpT (H H' : Hp) : Prop := ∀ b o, H b = some o → (∀ xs, o ≠ .lst xs) → H' b = some o
mutual
def noLst : PyData → Bool
  | .list _ => false
  | .dict _ => false
  | .tuple xs => noLsts xs
  | _ => true
def noLsts : List PyData → Bool
  | [] => true
  | x :: xs => noLst x && noLsts xs
end
mutual
theorem Rds.keepT {G G' : Hp} (s : KpT G G') : ∀ {v : V} {d : PyData}, noLst d = true → Rds G v d → Rds G' v d
  | _, _, _, .non => .non
  | _, _, _, .bl b => .bl b
  | _, _, _, .int i => .int i
  | _, _, _, .str x => .str x
  | _, _, h, .lst e r => by simp [noLst] at h
  | _, _, h, .tup e r => .tup (s _ _ e (fun _ z => by cases z)) (RdsAll.keepT s (by simpa only [noLst] using h) r)
  | _, _, h, .dic0 e => by simp [noLst] at h
  | _, _, h, .dic e r => by simp [noLst] at h
theorem RdsAll.keepT {G G' : Hp} (s : KpT G G') : ∀ {vs : List V} {ds : List PyData}, noLsts ds = true → RdsAll G vs ds → RdsAll G' vs ds
  | _, _, _, .nil => .nil
  | _, _, h, .cons r t => by
    simp only [noLsts, Bool.and_eq_true] at h
    exact .cons (Rds.keepT s h.1 r) (RdsAll.keepT s h.2 t)
end
section
variable {C : Nat → Addr} {H H' : Hp}
end
theorem made_ext {H : Hp} {x dx : Addr} {u v : HO} (hx : H x = none) (hd : H dx = none) (ne : dx ≠ x) : Ext H (upd (upd H dx u) x v) := by
  have h2 : upd H dx u x = none := by rw [upd_ne ne.symm]; exact hx
  exact (Ext.new hd).trans (Ext.new h2)
end My
set_option Elab.async false
set_option linter.all false
set_option maxRecDepth 100000
set_option maxHeartbeats 1000000
set_option exponentiation.threshold 10000
namespace My
open PySem PySem.W L2
structure Mk3 (P : Program) (w : World) (K : Frag) (mg : Str → Option Value) (base : Heap) (C : Nat → Addr) (CN CS : Addr) (f0 f1 f2 : Addr) (e0 e1 e2 : FuncData) : Prop where
  k0 : Mk K (C 0) f0
  k1 : Mk K (C 1) f1
  k2 : Mk K (C 2) f2
  g0 : FnOk P w K mg base (CXE P w) 4 f0 e0 ["self", "folk", "ones"] (spSpI C CN)
  g1 : FnOk P w K mg base (CXE P w) 6 f1 e1 ["self", "pairs", "coin"] (spPaI C CN CS)
  g2 : FnOk P w K mg base (CXE P w) 6 f2 e2 ["self", "folk", "coin", "far"] (spCoI C CN CS)
  b0 : Binds K e0 ["self", "folk", "ones"] []
  b1 : Binds K e1 ["self", "pairs", "coin"] []
  b2 : Binds K e2 ["self", "folk", "coin", "far"] []
  m0 : mg "Split" = some (.ref (C 0))
  m1 : mg "Pairs" = some (.ref (C 1))
  m2 : mg "Coins" = some (.ref (C 2))
section
variable {K : Frag} {C : Nat → Addr} {CN CS CT CM : Addr} {H : Hp} {σ : St} {Q : VK} {E : XK}
theorem inD_of {lo hi n : Int} (h1 : lo ≤ n) (h2 : n ≤ hi) : inD lo hi (.int n) = true := by
  show (decide (lo ≤ n) && decide (n ≤ hi)) = true
  rw [decide_eq_true h1, decide_eq_true h2]
  rfl
theorem mk_split {n k : Int} {t : TA} (ht : ∀ R : List V → Hp → Prop, R [.int n, .int k] H → t σ H R) (ok : (R0.split n k).ok) (q : ∀ x H', Ext H H' → Ru C H' (.one (.split n k)) (.ref x) → Q (.ref x) H') : tMake (C 0) (spSpI C CN) [] E0 t σ H Q :=
  ht _ fun x dx hx hd ne => by
    have xe := made_ext (u := .own x) (v := .ins (C 0) dx []) hx hd ne
    obtain ⟨o1, o2, o3, o4⟩ := id ok
    refine ⟨x, _, _, _, _, dx, rfl, upd_same, .int _, .int _, fun h => (by rw [inD_of o1 o2] at h; cases h), fun m e _ _ h => (by cases e; rw [inD_of o3 o4] at h; cases h), fun n' k' e1 e2 _ H' kp ru => ⟨rfl, ?_⟩⟩
    cases e1
    cases e2
    exact q x H' (xe.kp hx kp) ru
theorem mk_pairs {n a b : Int} {c : V} {t : TA} (ht : ∀ R : List V → Hp → Prop, R [.int n, c] H → t σ H R) (rc : Rds H c (.tuple [.int a, .int b])) (ok : (R0.pairs n a b).ok) (q : ∀ x H', Ext H H' → Ru C H' (.one (.pairs n a b)) (.ref x) → Q (.ref x) H') : tMake (C 1) (spPaI C CN CS) [] E0 t σ H Q :=
  ht _ fun x dx hx hd ne => by
    have xe := made_ext (u := .own x) (v := .ins (C 1) dx []) hx hd ne
    obtain ⟨o1, o2, o3⟩ := id ok
    refine ⟨x, _, _, _, _, dx, rfl, upd_same, .int _, rc.mono xe, fun h => (by rw [inD_of o1 o2] at h; cases h), fun _ h => (by rw [o3] at h; cases h), fun n' a' b' e1 e2 _ H' kp ru => ⟨rfl, ?_⟩⟩
    cases e1
    cases e2
    exact q x H' (xe.kp hx kp) ru
theorem mk_coins {n a b f : Int} {c : V} {t : TA} (ht : ∀ R : List V → Hp → Prop, R [.int n, c, .int f] H → t σ H R) (rc : Rds H c (.tuple [.int a, .int b])) (ok : (R0.coins n a b f).ok) (q : ∀ x H', Ext H H' → Ru C H' (.one (.coins n a b f)) (.ref x) → Q (.ref x) H') : tMake (C 2) (spCoI C CN CS) [] E0 t σ H Q :=
  ht _ fun x dx hx hd ne => by
    have xe := made_ext (u := .own x) (v := .ins (C 2) dx []) hx hd ne
    obtain ⟨o1, o2, o3, o4, o5⟩ := id ok
    refine ⟨x, _, _, _, _, _, _, dx, rfl, upd_same, .int _, rc.mono xe, .int _, fun h => (by rw [inD_of o1 o2] at h; cases h), fun _ h => (by rw [o3] at h; cases h), fun _ _ h => (by rw [inD_of o4 o5] at h; cases h), fun n' a' b' f' e1 e2 e3 _ H' kp ru => ⟨rfl, ?_⟩⟩
    cases e1
    cases e2
    cases e3
    exact q x H' (xe.kp hx kp) ru
end
end My
set_option Elab.async false
set_option linter.all false
set_option maxRecDepth 100000
set_option maxHeartbeats 1000000
namespace My
open PySem PySem.W L2
section
variable {X : Cx} {pins : List (Addr × Obj)} {σ : St} {H : Hp} {s s' : Shared}
end
section
variable {X : Cx} {k : Nat} {f : Addr} {fd : FuncData} {ps : List Str} {sp : Sp} {x z : Str} {p pos : Pos} {e : Expr} {es : List Expr} {t : TA} {c : Addr} {j : Nat}
end
def tLam (pl : Addr) (al : List (Pos × Str)) (qn : Str) (fd : Value → Value → Addr → FuncData) : TE := fun σ H Q => TabOk H pl al ∧ ∀ f c' a b H', ExtP pl H H' → H f = none → H' f = some (FncO f (fd a b c')) → H' c' = some (CodO c' qn) → TabOk H' pl al → Q (.ref f) H'
section
variable {X : Cx} {args : Arguments} {e : Expr} {sc : Scope} {pos : Pos} {c pl : Addr} {cl : List (Str × Addr)} {al : List (Pos × Str)} {qn : Str}
theorem pe_lam (Z : MkK X.K X.mg X.base c pl) (hcd : X.env.code = .ref c) (tp : TabP al pos qn) (hd : defaultsOf args X.env = ([], [])) (hqn : X.env.qual ++ Str.ofString "<lambda>" = qn) (hcl : closureFor sc X.env = pure cl) :
    PE X (.Lambda args e sc pos) (tLam pl al qn (fun pm ctv c' => kla_fn (Str.ofString "<lambda>") qn args e sc cl pm (.ref c') ctv)) := by
  intro pins s σ H Q I h
  refine kla_eval hd ?_
  rw [hqn]
  refine wp_mkLam I hcd Z h.1 tp hcl fun f c' ctv pm H' s' I' M => ?_
  exact ⟨.ref f, H', I', rfl, h.2 f c' pm ctv H' M.ext M.new M.fn M.cd M.tb⟩
end
end My
set_option Elab.async false
set_option linter.all false
set_option maxRecDepth 100000
set_option maxHeartbeats 1000000
namespace My
open PySem PySem.W L2
open PyProof.Rows (envOfC)
section
variable {CX : CXT} {P : Program} {w : World} {K : Frag} {mg : Str → Option Value} {base : Heap} {k : Nat} {N ps zs : List Str} {name qual : Str} {params : Arguments} {scope : Scope} {g c : Addr} {dV kV doc pm ct oc : Value} {an od : Option Addr} {osl : Array (Option Value)} {sp : Sp} {pr : Pos} {e : Expr}
def RetC (scope : Scope) (N : List Str) (L : Nat) (cl : List (Str × Addr)) (te : TE) (Q : VK) : St → Hp → Prop := fun σ H => te σ H fun v H1 => ∃ cv, cl.map (·.1) = cv.map (·.1) ∧ (∀ x v, (x, v) ∈ cv → scope.names.lookup x = some .cell ∧ ∃ j : Nat, N[j]? = some x ∧ σ[j]? = some (some v)) ∧ ((∀ a ∈ cl.map (·.2), H1 a = none) → Q v (addC H1 cl cv))
theorem ret_cells {A : Around} {outer : List Env} {s s1 : Shared} {H H1 : Hp} {E : XK} {σ : St} {Q : VK} {te : TE} {cl : List (Str × Addr)} (J : Inv (cxOf CX P w K mg base N qual scope g (.ref c) A outer s H E) [] σ H1 s1) (he : PE (cxOf CX P w K mg base N qual scope g (.ref c) A outer s H E) e te) (hc : ∀ x a, (x, a) ∈ cl → (cellsFrom (s.heap.objs.size + 1) scope.names []).lookup x = some a) (nd : (cl.map (·.2)).Nodup) (q : RetC scope N s.heap.objs.size cl te Q σ H1) :
    wpAny (model P w) (A.deeper (envOfC qual scope s.heap.objs.size g (.ref c))) (execs [.Return (some e) pr] (envOfC qual scope s.heap.objs.size g (.ref c))) (fun fl s' => CE outer P w H s Q (match fl with | .ret v => v | _ => .none) s') (cxOf CX P w K mg base N qual scope g (.ref c) A outer s H E).xe s1 := by
  refine wpAny_execs_cons (wpAny_Return_some ?_)
  refine thn (he [] s1 σ H1 _ J q) fun u s2 ⟨v, H2, I2, r, cv, h1, h2, h3⟩ => ?_
  refine ce_cells (cv := cv) I2 hc nd h1 h2 r (h3 fun a ha => ?_)
  obtain ⟨⟨x, a'⟩, hm, rfl⟩ := List.mem_map.mp ha
  exact I2.freeC x a' (hc x a' hm)
theorem fn_ret0 (cl : Nat → List (Str × Addr)) (lk : K.lookup g = some ⟨oc, od, .func (fnOf name qual params [.Return (some e) pr] scope dV kV doc pm an (.ref c) ct), osl⟩) (hcd : codeIn K (.ref c) qual = true) (S : FnScope N ps scope) (len : ∀ vs H Q E, sp vs H Q E → vs.length = ps.length) (hc : ∀ L x a, (x, a) ∈ cl L → (cellsFrom (L + 1) scope.names []).lookup x = some a) (nd : ∀ L, ((cl L).map (·.2)).Nodup)
    (hsp : ∀ (A : Around) (outer : List Env) (s : Shared) (vs : List V) (H : Hp) (Q : VK) (E : XK), Room k (A.deeper (envOfC qual scope s.heap.objs.size g (.ref c))) → sp vs H Q E → ∃ te, PE (cxOf CX P w K mg base N qual scope g (.ref c) A outer s H E) e te ∧ RetC scope N s.heap.objs.size (cl s.heap.objs.size) te Q (start N vs) H) :
    FnOk P w K mg base CX (k + 1) g (fnOf name qual params [.Return (some e) pr] scope dV kV doc pm an (.ref c) ct) ps sp := by
  refine fn_start lk hcd S len fun A outer s s1 H vs Q E hr h I => ?_
  obtain ⟨te, he, q⟩ := hsp A outer s vs H Q E hr h
  exact ret_cells I he (hc _) (nd _) q
theorem fn_ret1 {st : Stmt} (cl : Nat → List (Str × Addr)) (lk : K.lookup g = some ⟨oc, od, .func (fnOf name qual params [st, .Return (some e) pr] scope dV kV doc pm an (.ref c) ct), osl⟩) (hcd : codeIn K (.ref c) qual = true) (S : FnScope N ps scope) (len : ∀ vs H Q E, sp vs H Q E → vs.length = ps.length) (hc : ∀ L x a, (x, a) ∈ cl L → (cellsFrom (L + 1) scope.names []).lookup x = some a) (nd : ∀ L, ((cl L).map (·.2)).Nodup)
    (hsp : ∀ (A : Around) (outer : List Env) (s : Shared) (vs : List V) (H : Hp) (Q : VK) (E : XK), Room k (A.deeper (envOfC qual scope s.heap.objs.size g (.ref c))) → sp vs H Q E → ∃ t te, PS (cxOf CX P w K mg base N qual scope g (.ref c) A outer s H E) st t ∧ PE (cxOf CX P w K mg base N qual scope g (.ref c) A outer s H E) e te ∧ t ⟨RetC scope N s.heap.objs.size (cl s.heap.objs.size) te Q, fun _ _ => False, fun _ _ => False, fun _ _ => False⟩ (start N vs) H) :
    FnOk P w K mg base CX (k + 1) g (fnOf name qual params [st, .Return (some e) pr] scope dV kV doc pm an (.ref c) ct) ps sp := by
  refine fn_start lk hcd S len fun A outer s s1 H vs Q E hr h I => ?_
  obtain ⟨t, te, ht, he, hq⟩ := hsp A outer s vs H Q E hr h
  refine wpAny_execs_cons (wpAny_mono (ht [] s1 _ H _ I hq) (fun fl s2 h2 => ?_) fun _ _ z => z)
  cases fl with
  | next =>
    obtain ⟨σ, H2, I2, q⟩ := h2
    exact ret_cells I2 he (hc _) (nd _) q
  | brk => obtain ⟨_, _, _, z⟩ := h2; exact z.elim
  | cont => obtain ⟨_, _, _, z⟩ := h2; exact z.elim
  | ret u => obtain ⟨_, _, _, _, _, z⟩ := h2; exact z.elim
end
end My
set_option Elab.async false
set_option linter.all false
set_option maxRecDepth 100000
set_option maxHeartbeats 1000000
namespace My
open PySem PySem.W L2
section
variable {α β : Type} {R : Hp → V → α → Prop} {R' : Hp → V → β → Prop} {G G' : Hp} {vs : List V} {rs : List α} {v : V} {r : α}
end
section
variable {T : Tbs} {ps : List Addr} {p D a : Addr} {H H1 : Hp}
variable {K : Frag} {Q : Hp → Prop} {k : Nat} {cap : St} {g : TG} {te : TE}
end
end My
set_option Elab.async false
set_option linter.all false
set_option maxRecDepth 100000
set_option maxHeartbeats 1000000
namespace My
open PySem PySem.W L2
def GN (T : Tbs) (ps : List Addr) (p : Addr) (H0 : Hp) (σ : St) (te : TE) (d : PyData) : Prop := ∀ (H : Hp) (Q : VK), OkS T ps p H → Ext H0 H → (∀ v H', Ext H H' → Rds (nt H' ps) v d → Q v H') → te σ H Q
def GNs (T : Tbs) (ps : List Addr) (p : Addr) (H0 : Hp) (σ : St) (ta : TA) (ds : List PyData) : Prop := ∀ (H : Hp) (Q : List V → Hp → Prop), OkS T ps p H → Ext H0 H → (∀ vs H', Ext H H' → RdsAll (nt H' ps) vs ds → Q vs H') → ta σ H Q
section
variable {T : Tbs} {ps : List Addr} {p : Addr} {H0 : Hp} {σ : St} {te : TE} {ta : TA} {d : PyData} {ds : List PyData}
theorem nt_x {H H' : Hp} (x : Ext H H') (m : p ∈ ps) : Ext (nt H ps) (nt H' ps) := (x.gr p).nt m
theorem GN.int (i : Int) : GN T ps p H0 σ (tC (.int i)) (.int i) := fun H Q _ _ q => q _ H (Ext.refl _) (.int i)
theorem GN.bl (b : Bool) : GN T ps p H0 σ (tC (.bl b)) (.bool b) := fun H Q _ _ q => q _ H (Ext.refl _) (.bl b)
theorem GN.non : GN T ps p H0 σ (tC .non) .none := fun H Q _ _ q => q _ H (Ext.refl _) .non
theorem GN.str (z : Str) : GN T ps p H0 σ (tC (.str z)) (.str z) := fun H Q _ _ q => q _ H (Ext.refl _) (.str z)
theorem GN.neg (i : Int) : GN T ps p H0 σ (tUn (rU fun i => .int (-i)) (tC (.int i))) (.int (-i)) := fun H Q _ _ q => ⟨i, rfl, q _ H (Ext.refl _) (.int _)⟩
theorem GNs.nil : GNs T ps p H0 σ tNil [] := fun H Q _ _ q => q [] H (Ext.refl _) .nil
theorem GNs.cons (h : GN T ps p H0 σ te d) (k : GNs T ps p H0 σ ta ds) : GNs T ps p H0 σ (tCons te ta) (d :: ds) := fun H Q ok x q =>
  h H _ ok x fun v H1 x1 r => k H1 _ (ok.ext x1) (x.trans x1) fun vs H2 x2 rs => q (v :: vs) H2 (x1.trans x2) (.cons (r.mono (nt_x x2 ok.mem)) rs)
theorem nt_new {H : Hp} {a : Addr} {o : HO} (ok : OkS T ps p H) (e : H a = none) (t : ∀ t, o ≠ .tbl t) : nt (upd H a o) ps a = some o := nt_in (ok.new e) upd_same t
theorem GN.tup (k : GNs T ps p H0 σ ta ds) (hz : ds.length ≤ sizeLine) : GN T ps p H0 σ (tTup ta) (.tuple ds) := fun H Q ok x q =>
  k H _ ok x fun vs H1 x1 rs => ⟨by rw [rs.length]; exact hz, fun a ha => q _ _ (x1.trans (Ext.new ha)) (.tup (nt_new (ok.ext x1) ha fun _ z => nomatch z) (rs.mono (nt_x (Ext.new ha) ok.mem)))⟩
theorem GN.lst (k : GNs T ps p H0 σ ta ds) (hz : ds.length ≤ sizeLine) : GN T ps p H0 σ (tLst ta) (.list ds) := fun H Q ok x q =>
  k H _ ok x fun vs H1 x1 rs => ⟨by rw [rs.length]; exact hz, fun a ha => q _ _ (x1.trans (Ext.new ha)) (.lst (nt_new (ok.ext x1) ha fun _ z => nomatch z) (rs.mono (nt_x (Ext.new ha) ok.mem)))⟩
theorem GN.dic : GN T ps p H0 σ tDNewK (.dict []) := fun H Q ok x q => fun a ha => q _ _ (Ext.new ha) (.dic0 (nt_new ok ha fun _ z => nomatch z))
theorem GNs.use {Q : VK} {H : Hp} (k : GNs T ps p H0 σ ta ds) (ok : OkS T ps p H) (x : Ext H0 H) (hz : ds.length ≤ sizeLine) (q : ∀ l vs H', Ext H H' → H' l = some (.lst vs) → RdsAll (nt H' ps) vs ds → Q (.ref l) H') : tLst ta σ H Q :=
  k H _ ok x fun vs H1 x1 rs => ⟨by rw [rs.length]; exact hz, fun a ha => q a vs _ (x1.trans (Ext.new ha)) upd_same (rs.mono (nt_x (Ext.new ha) ok.mem))⟩
end
end My
set_option Elab.async false
set_option linter.all false
set_option maxRecDepth 100000
set_option maxHeartbeats 1000000
set_option exponentiation.threshold 10000
namespace My
open PySem PySem.W L2
open PyProof.Rows (envOfC)
def nstF (s : Stmt) (i : Nat) : Stmt := (defBody s).getD i (.Pass ⟨0, 0, 0, 0⟩)
def retE : Stmt → Expr
  | .Return (some e) _ => e
  | _ => .Constant .none 0 ⟨0, 0, 0, 0⟩
def argL : Expr → Expr
  | .Call _ (l :: _) _ _ => l
  | e => e
def lamA : Expr → Arguments
  | .Lambda a _ _ _ => a
  | _ => ⟨[], [], none, [], [], none, []⟩
def lamE : Expr → Expr
  | .Lambda _ e _ _ => e
  | e => e
def lamS : Expr → Scope
  | .Lambda _ _ sc _ => sc
  | _ => { kind := .function, names := [], isGenerator := false, isCoroutine := false }
def posL : Expr → Pos
  | .Lambda _ _ _ p => p
  | _ => ⟨0, 0, 0, 0⟩
abbrev sMB : Stmt := top 32
abbrev sM0 : Stmt := top 33
abbrev sM1 : Stmt := top 34
abbrev sM2 : Stmt := top 35
abbrev lamM : Expr := retE (nstF sMB 0)
abbrev lam0 : Expr := argL (retE (nstF sM0 0))
abbrev lam1 : Expr := argL (retE (nstF sM1 1))
abbrev lam2 : Expr := argL (retE (nstF sM2 1))
abbrev qM : Str := "maker_by.<locals>.<lambda>"
abbrev q0 : Str := "split_maker.<locals>.<lambda>"
abbrev q1 : Str := "pairs_maker.<locals>.<lambda>"
abbrev q2 : Str := "coins_maker.<locals>.<lambda>"
abbrev fdLm (q : Str) (l : Expr) : List (Str × Addr) → Value → Value → Value → Addr → FuncData := fun cl _ pm ctv c' => kla_fn (Str.ofString "<lambda>") q (lamA l) (lamE l) (lamS l) cl pm (.ref c') ctv
inductive Mkd where
  | split
  | pairs (a b : Int)
  | coins (a b f : Int)
def Mkd.rule : Mkd → Int → Option R0
  | .split, n => some (.split n (n / 2))
  | .pairs a b, n => if n % 2 = 0 then some (.pairs (n / 2) a b) else none
  | .coins a b f, n => some (.coins n a b f)
def Mkd.ok : Mkd → Prop
  | .split => True
  | .pairs a b => coinD (.tuple [.int a, .int b]) = true
  | .coins a b f => coinD (.tuple [.int a, .int b]) = true ∧ 1 ≤ f ∧ f ≤ 20
def CoinV (H : Hp) (v : V) (a b : Int) : Prop := ∃ t, v = .ref t ∧ H t = some (.tup [.int a, .int b])
def InnM (H : Hp) (f : Addr) : Mkd → Prop
  | .split => ∃ cl, CloA H f (fdLm q0 lam0) q0 [] cl []
  | .pairs a b => ∃ cl v, CloA H f (fdLm q1 lam1) q1 ["coin"] cl [("coin", v)] ∧ CoinV H v a b
  | .coins a b r => ∃ cl v, CloA H f (fdLm q2 lam2) q2 ["far", "coin"] cl [("far", .int r), ("coin", v)] ∧ CoinV H v a b
def MkF (H : Hp) (g : Addr) (k : Mkd) : Prop := k.ok ∧ ∃ cl f, CloA H g (fdLm qM lamM) qM ["make"] cl [("make", .ref f)] ∧ InnM (hidC H (cl.map (·.2))) f k
section
variable {H H' : Hp} {v : V} {a b : Int} {f g : Addr} {k : Mkd} {cs : List Addr}
theorem CoinV.tk (h : CoinV H v a b) (x : TK H H') : CoinV H' v a b := by
  obtain ⟨t, e, ht⟩ := h
  exact ⟨t, e, x _ _ ht⟩
theorem CoinV.rds (h : CoinV H v a b) : Rds H v (.tuple [.int a, .int b]) := by
  obtain ⟨t, rfl, ht⟩ := h
  exact .tup ht (.cons (.int _) (.cons (.int _) .nil))
theorem hidC_nl (x : NL H H') : NL (hidC H cs) (hidC H' cs) := fun c o e l t => by
  obtain ⟨n, e⟩ := hidC_some e
  rw [hidC_out n]
  exact x c o e l t
theorem InnM.nl (h : InnM H f k) (x : NL H H') : InnM H' f k := by
  cases k with
  | split =>
    obtain ⟨cl, c⟩ := h
    exact ⟨cl, c.nl x⟩
  | pairs a b =>
    obtain ⟨cl, v, c, e⟩ := h
    exact ⟨cl, v, c.nl x, e.tk x.tk⟩
  | coins a b r =>
    obtain ⟨cl, v, c, e⟩ := h
    exact ⟨cl, v, c.nl x, e.tk x.tk⟩
theorem InnM.fn (h : InnM H f k) : ∃ fd, H f = some (FncO f fd) := by
  cases k with
  | split =>
    obtain ⟨cl, _, _, _, _, c, _⟩ := h
    exact ⟨_, c⟩
  | pairs a b =>
    obtain ⟨cl, v, ⟨_, _, _, _, c, _⟩, e⟩ := h
    exact ⟨_, c⟩
  | coins a b r =>
    obtain ⟨cl, v, ⟨_, _, _, _, c, _⟩, e⟩ := h
    exact ⟨_, c⟩
theorem MkF.nl (h : MkF H g k) (x : NL H H') : MkF H' g k := by
  obtain ⟨ok, cl, f, c, i⟩ := h
  exact ⟨ok, cl, f, c.nl x, i.nl (hidC_nl x)⟩
theorem MkF.fn (h : MkF H g k) : ∃ fd, H g = some (FncO g fd) := by
  obtain ⟨ok, cl, f, ⟨_, _, _, _, c, _⟩, i⟩ := h
  exact ⟨_, c⟩
theorem unx (n : ∀ b ∈ cs, H' b = none) : Ext H' (unhid H cs H') := fun b o e => by
  unfold unhid
  rw [if_neg (fun z => by rw [n b z] at e; cases e)]
  exact e
end
def RuO (C : Nat → Addr) (H : Hp) : Option R0 → V → Prop
  | none, u => u = .non
  | some r, u => Ru C H (.one r) u
theorem RuO.ext {C : Nat → Addr} {H H' : Hp} {r : Option R0} {u : V} (h : RuO C H r u) (x : Ext H H') : RuO C H' r u := by
  cases r with
  | none => exact h
  | some r => exact Ru.ext (t := .one r) h x
def WspI (C : Nat → Addr) (f : Addr) (v : V) (H : Hp) (Q : VK) : Prop := ∃ k n, InnM H f k ∧ k.ok ∧ v = .int n ∧ 1 ≤ n ∧ n ≤ 20 ∧ ∀ u H', Ext H H' → RuO C H' (k.rule n) u → Q u H'
def WspM (C : Nat → Addr) (f : Addr) (v : V) (H : Hp) (Q : VK) : Prop := ∃ k n, MkF H f k ∧ v = .int n ∧ 1 ≤ n ∧ n ≤ 20 ∧ ∀ u H', Ext H H' → RuO C H' (k.rule n) u → Q u H'
theorem scL0 : ClScope ["folk"] "folk" [] (lamS lam0) := ⟨rfl, rfl, rfl, by decide +kernel, rfl, by decide +kernel, by decide +kernel, fun x h => by
  have m := PySem.mem_of_lookup h
  have : ∀ y ∈ (lamS lam0).names, y.2 = .free → y.1 ∈ ([] : List Str) := by decide +kernel
  exact this _ m rfl, by decide +kernel⟩
theorem scL1 : ClScope ["folk", "coin"] "folk" ["coin"] (lamS lam1) := ⟨rfl, rfl, rfl, by decide +kernel, rfl, by decide +kernel, by decide +kernel, fun x h => by
  have m := PySem.mem_of_lookup h
  have : ∀ y ∈ (lamS lam1).names, y.2 = .free → y.1 ∈ (["coin"] : List Str) := by decide +kernel
  exact this _ m rfl, by decide +kernel⟩
theorem scL2 : ClScope ["folk", "coin", "far"] "folk" ["far", "coin"] (lamS lam2) := ⟨rfl, rfl, rfl, by decide +kernel, rfl, by decide +kernel, by decide +kernel, fun x h => by
  have m := PySem.mem_of_lookup h
  have : ∀ y ∈ (lamS lam2).names, y.2 = .free → y.1 ∈ (["far", "coin"] : List Str) := by decide +kernel
  exact this _ m rfl, by decide +kernel⟩
theorem scLM : ClScope ["folk", "make"] "folk" ["make"] (lamS lamM) := ⟨rfl, rfl, rfl, by decide +kernel, rfl, by decide +kernel, by decide +kernel, fun x h => by
  have m := PySem.mem_of_lookup h
  have : ∀ y ∈ (lamS lamM).names, y.2 = .free → y.1 ∈ (["make"] : List Str) := by decide +kernel
  exact this _ m rfl, by decide +kernel⟩
section
variable {P : Program} {w : World} {K : Frag} {mg : Str → Option Value} {base : Heap} {T : Tbs} {C : Nat → Addr} {CN CS f0 f1 f2 : Addr} {e0 e1 e2 : FuncData}
theorem ok_inn (M : Mk3 P w K mg base C CN CS f0 f1 f2 e0 e1 e2) : ClOk P w K mg base 8 (WspI C) := by
  refine ⟨fun A outer s H f u v Q hr ev rv h => ?_⟩
  obtain ⟨k, n, im, ok, rfl, n1, n20, q⟩ := h
  cases k with
  | split =>
    obtain ⟨cl, a, _, d, c', hf, hc, Cc, hz⟩ := im
    refine lam_run (N := ["folk"]) (p := "folk") (zs := []) (cv := []) (σ := [some (.int n)]) hr ev hf hc Cc scL0 hz (fun s u => .of_eq rfl) rv rfl (fun j x v h1 h2 => ?_) fun hr2 => ?_
    · match j, h1, h2 with
      | 0, h1, h2 => cases h1; cases h2; exact .inl ⟨rfl, rfl⟩
      | j + 1, h1, _ => simp at h1
    refine ⟨_, pe_make M.k0 M.g0 (hr2.mono (show 5 ≤ 7 by decide)) rfl M.m0 M.b0 .nil passN (pa_cons (pv 0) (pa_cons (pe_op op_fdiv (pv 0) pe_int) pa_nil)), ?_⟩
    refine mk_split (n := n) (k := n / 2) (fun R k => ⟨_, rfl, _, rfl, _, _, rfl, rfl, ⟨by decide, by decide⟩, k⟩) ⟨n1, n20, by omega, by omega⟩ fun x H' xe ru hn => ?_
    exact q _ _ (unhid_ext xe) (ru.ext (unx hn))
  | pairs a b =>
    obtain ⟨cl, vc, ⟨_, _, d, c', hf, hc, Cc, hz⟩, t, rfl, ht⟩ := im
    refine lam_run (N := ["folk", "coin"]) (p := "folk") (zs := ["coin"]) (cv := [("coin", .ref t)]) (σ := [some (.int n), some (.ref t)]) hr ev hf hc Cc scL1 hz (fun s u => .of_eq rfl) rv rfl (fun j x v h1 h2 => ?_) fun hr2 => ?_
    · match j, h1, h2 with
      | 0, h1, h2 => cases h1; cases h2; exact .inl ⟨rfl, rfl⟩
      | 1, h1, h2 => cases h1; cases h2; exact .inr (by simp)
      | j + 2, h1, _ => simp at h1
    refine ⟨_, pe_ifExp (pt_cmpR op_eq (pe_op op_mod (pv 0) pe_int) pe_int (nomark _)) (pe_make M.k1 M.g1 hr2 rfl M.m1 M.b1 .nil passN (pa_cons (pe_op op_fdiv (pv 0) pe_int) (pa_cons (pv 1) pa_nil))) pe_non, ?_⟩
    have ht' := hidC_tk Cc t _ ht
    refine ⟨_, rfl, _, _, rfl, rfl, (by show (0 : Int) < 2; decide), rfl, _, rfl, ?_⟩
    by_cases e : n % 2 = 0
    · rw [decide_eq_true (congrArg V.int e)]
      refine itT (mk_pairs (n := n / 2) (a := a) (b := b) (c := .ref t) (fun R k => ⟨_, rfl, _, _, rfl, rfl, ⟨by decide, by decide⟩, _, rfl, k⟩) (CoinV.rds ⟨t, rfl, ht'⟩) ⟨by omega, by omega, ok⟩ fun x H' xe ru hn => ?_)
      refine q _ _ (unhid_ext xe) ?_
      show RuO C _ (if n % 2 = 0 then some (.pairs (n / 2) a b) else none) _
      rw [if_pos e]
      exact ru.ext (unx hn)
    · rw [decide_eq_false (fun z => e (V.int.inj z))]
      refine itF fun hn => ?_
      rw [unhid_hid]
      refine q _ _ (Ext.refl _) ?_
      show RuO C _ (if n % 2 = 0 then some (.pairs (n / 2) a b) else none) _
      rw [if_neg e]
      rfl
  | coins a b r =>
    obtain ⟨cl, vc, ⟨_, _, d, c', hf, hc, Cc, hz⟩, t, rfl, ht⟩ := im
    obtain ⟨ok1, ok2, ok3⟩ := ok
    refine lam_run (N := ["folk", "coin", "far"]) (p := "folk") (zs := ["far", "coin"]) (cv := [("far", .int r), ("coin", .ref t)]) (σ := [some (.int n), some (.ref t), some (.int r)]) hr ev hf hc Cc scL2 hz (fun s u => .of_eq rfl) rv rfl (fun j x v h1 h2 => ?_) fun hr2 => ?_
    · match j, h1, h2 with
      | 0, h1, h2 => cases h1; cases h2; exact .inl ⟨rfl, rfl⟩
      | 1, h1, h2 => cases h1; cases h2; exact .inr (by simp)
      | 2, h1, h2 => cases h1; cases h2; exact .inr (by simp)
      | j + 3, h1, _ => simp at h1
    refine ⟨_, pe_make M.k2 M.g2 hr2 rfl M.m2 M.b2 .nil passN (pa_cons (pv 0) (pa_cons (pv 1) (pa_cons (pv 2) pa_nil))), ?_⟩
    have ht' := hidC_tk Cc t _ ht
    refine mk_coins (n := n) (a := a) (b := b) (f := r) (c := .ref t) (fun R k => ⟨_, rfl, _, rfl, _, rfl, k⟩) (CoinV.rds ⟨t, rfl, ht'⟩) ⟨n1, n20, ok1, ok2, ok3⟩ fun x H' xe ru hn => ?_
    exact q _ _ (unhid_ext xe) (ru.ext (unx hn))
theorem ok_mkf {g : Addr} {gd : FuncData} {t : Tok} (M : ClOk P w K mg base 8 (WspI C)) (A1 : Df P w K mg base CX0 2 "is_whole" ["thing", "low", "high"] (spIsWh K) g gd) (mF : mg "MOST_FOLK" = some (.int 20 t)) : ClOk P w K mg base 9 (WspM C) := by
  refine ⟨fun A outer s H f u v Q hr ev rv h => ?_⟩
  obtain ⟨k, n, ⟨ok, cl, fi, ⟨_, _, d, c', hf, hc, Cc, hz⟩, im⟩, rfl, n1, n20, q⟩ := h
  refine lam_run (N := ["folk", "make"]) (p := "folk") (zs := ["make"]) (cv := [("make", .ref fi)]) (σ := [some (.int n), some (.ref fi)]) hr ev hf hc Cc scLM hz (fun s u => .of_eq rfl) rv rfl (fun j x v h1 h2 => ?_) fun hr2 => ?_
  · match j, h1, h2 with
    | 0, h1, h2 => cases h1; cases h2; exact .inl ⟨rfl, rfl⟩
    | 1, h1, h2 => cases h1; cases h2; exact .inr (by simp)
    | j + 2, h1, _ => simp at h1
  refine ⟨_, pe_ifExp (pt_val (pe_call A1.G (hr2.mono (show 2 ≤ 8 by decide)) rfl A1.m A1.kp A1.b .nil pass0 (pa_cons (pv 0) (pa_cons pe_int (pa_cons (pe_glob (v := .int 20) rfl mF ⟨_, rfl⟩) pa_nil))))) (pe_callF (pv 1) M hr2 (pv 0)) pe_non, ?_⟩
  refine ⟨_, rfl, _, _, _, rfl, .inl ⟨_, rfl⟩, _, rfl, ?_⟩
  obtain ⟨fd, hfi⟩ := im.fn
  rw [show My.inB 1 20 (.int n) = true by show (decide ((1 : Int) ≤ n) && decide (n ≤ 20)) = true; rw [decide_eq_true n1, decide_eq_true n20]; rfl]
  refine itT ⟨_, rfl, fi, fd, rfl, hfi, _, rfl, hfi, k, n, im, ok, rfl, n1, n20, fun u H' x ru hn => ?_⟩
  exact q _ _ (unhid_ext x) (ru.ext (unx hn))
end
end My
set_option Elab.async false
set_option linter.all false
set_option maxRecDepth 100000
set_option maxHeartbeats 1000000
set_option exponentiation.threshold 10000
namespace My
open PySem PySem.W L2
open PyProof.Rows (envOfC)
def Ktb (H H' : Hp) : Prop := ∀ b o, H b = some o → (∀ t, o ≠ .tbl t) → H' b = some o
section
variable {H H' H1 : Hp} {p pl : Addr} {al : List (Pos × Str)} {T : Tbs} {ps : List Addr}
theorem Ktb.trans (a : Ktb H H1) (b : Ktb H1 H') : Ktb H H' := fun x o e t => b x o (a x o e t) t
theorem Ext.ktb (x : Ext H H') : Ktb H H' := fun b o e _ => x b o e
theorem ExtP.ktb (x : ExtP pl H H') (t : TabOk H pl al) : Ktb H H' := fun b o e n => ExtP.kept x t e n
theorem Ktb.nl (x : Ktb H H') : NL H H' := fun b o e _ t => x b o e t
theorem Ktb.gr (x : Ktb H H') (p : Addr) : Gr p H H' := fun b o e _ t => x b o e t
theorem OkS.ktb (k : OkS T ps p H) (x : Ktb H H') (t : TI T H') : OkS T ps p H' := by
  obtain ⟨a, b, c, e, r⟩ := k.bx.ex
  refine ⟨⟨a, b, c, x _ _ e (fun _ z => nomatch z), r⟩, t, k.mem, fun y h => ?_⟩
  obtain ⟨o, e⟩ := k.ex y h
  exact ⟨o, x _ _ e fun _ z => nomatch z⟩
theorem celN {cl : List (Str × Addr)} {cv : List (Str × V)} (C : Cells H cl cv) {b : Addr} (h : b ∈ cl.map (·.2)) : H b ≠ none := by
  obtain ⟨v, q⟩ := C.cel h
  exact q.some
end
structure FunM (K : Frag) (mg : Str → Option Value) (base : Heap) (x qual : Str) (st : Stmt) (f : Addr) (fd : FuncData) (c pl : Addr) : Prop where
  ex : ∃ (oc : Value) (od : Option Addr) (kV doc pm : Value) (an : Option Addr) (ct : Value) (osl : Array (Option Value)),
    fd = fnOf x qual (defArgs st) (defBody st) (defScope st) .none kV doc pm an (.ref c) ct ∧ K.lookup f = some ⟨oc, od, .func fd, osl⟩ ∧ codeIn K (.ref c) qual = true
  mkk : MkK K mg base c pl
section
variable {P : Program} {w : World} {K : Frag} {mg : Str → Option Value} {base : Heap} {T : Tbs} {C : Nat → Addr} {CN CS f0 f1 f2 f c pl g : Addr} {e0 e1 e2 fd gd : FuncData} {al : List (Pos × Str)}
def spMB (T : Tbs) : Sp := fun vs H Q _ => ∃ f, vs = [.ref f] ∧ TI T H ∧ ∀ g cl H', TI T H' → Ktb H H' → CloA H' g (fdLm qM lamM) qM ["make"] cl [("make", .ref f)] → (∀ x ∈ cl.map (·.2), H x = none) → Q (.ref g) H'
theorem scMB : FnScope ["make"] ["make"] (defScope sMB) := ⟨rfl, rfl, rfl, by decide +kernel, rfl, by decide +kernel, by decide +kernel⟩
theorem ok_MB (F : FunM K mg base "maker_by" "maker_by" sMB f fd c pl) (hm : (pl, al) ∈ T) (tp : TabP al (posL lamM) qM) : FnOk P w K mg base CX0 1 f fd ["make"] (spMB T) := by
  obtain ⟨oc, od, kV, doc, pm, an, ct, osl, rfl, lk, hcd⟩ := F.ex
  refine fn_lam (qn := qM) (cl := fun L => [("make", L + 1)]) (zs := ["make"]) lk hcd scMB (fun vs H Q E h => ?_) F.mkk tp (fun L => rfl) (fun L => rfl) (fun L => rfl) (fun L x a h => ?_) (fun L => by simp) (fun L => by simp) (fun L => rfl) (fun vs H Q E h => ?_)
  · obtain ⟨_, rfl, _⟩ := h
    rfl
  · simp only [List.mem_singleton] at h
    cases h
    rfl
  obtain ⟨fi, rfl, ti, q⟩ := h
  refine ⟨[("make", .ref fi)], ⟨rfl, fun x v h => ?_⟩, ?_⟩
  · simp only [List.mem_singleton] at h
    cases h
    exact ⟨rfl, 0, rfl, rfl⟩
  have t1 := ti.it _ hm
  exact ⟨t1, fun f c' cl a b d H' xp nf hf hc C hz hn tb => q f cl H' (ti.made xp hm tb) (ExtP.ktb xp t1) ⟨a, b, d, c', hf, hc, C, hz⟩ fun x hx => (hn x hx).1⟩
def spM0 (T : Tbs) : Sp := fun vs H Q _ => vs = [] ∧ TI T H ∧ ∀ g H', TI T H' → Ktb H H' → MkF H' g .split → Q (.ref g) H'
theorem scM0 : FnScope [] [] (defScope sM0) := ⟨rfl, rfl, rfl, by decide +kernel, rfl, by decide +kernel, by decide +kernel⟩
theorem ok_M0 (F : FunM K mg base "split_maker" "split_maker" sM0 f fd c pl) (hm : (pl, al) ∈ T) (tp : TabP al (posL lam0) q0) (A1 : Df P w K mg base CX0 1 "maker_by" ["make"] (spMB T) g gd) : FnOk P w K mg base CX0 2 f fd [] (spM0 T) := by
  obtain ⟨oc, od, kV, doc, pm, an, ct, osl, rfl, lk, hcd⟩ := F.ex
  refine fn_ret0 (fun _ => []) lk hcd scM0 (fun vs H Q E h => ?_) (fun L x a h => nomatch h) (fun L => by simp) (fun A outer s vs H Q E hr h => ?_)
  · obtain ⟨rfl, _⟩ := h
    rfl
  obtain ⟨rfl, ti, q⟩ := h
  refine ⟨_, pe_call A1.G hr rfl A1.m A1.kp A1.b .nil pass0 (pa_cons (pe_lam (cl := []) F.mkk rfl tp rfl rfl rfl) pa_nil), ?_⟩
  have t1 := ti.it _ hm
  refine ⟨t1, fun fi c' a b H2 xp nf hf hc tb => ⟨fi, rfl, ti.made xp hm tb, fun g cl H3 ti3 k3 cg hn => ⟨[], rfl, (fun x v h => nomatch h), fun _ => q g H3 ti3 ((ExtP.ktb xp t1).trans k3) ⟨trivial, cl, fi, cg, [], ?_⟩⟩⟩⟩
  have out : ∀ {b : Addr} {o : HO}, H2 b = some o → b ∉ cl.map (·.2) := fun e z => by rw [hn _ z] at e; cases e
  refine ⟨.none, a, b, c', ?_, ?_, ⟨rfl, (fun i x a y v e => by simp at e), by simp, by simp⟩, rfl⟩
  · rw [hidC_out (out hf)]
    exact k3 _ _ hf fun _ z => nomatch z
  · rw [hidC_out (out hc)]
    exact k3 _ _ hc fun _ z => nomatch z
def spM1 (T : Tbs) (CS : Addr) : Sp := fun vs H Q E => ∃ v d, vs = [v] ∧ Rds H v d ∧ TI T H ∧ (coinD d = false → ∀ H', Ext H H' → ErrF CS "found" v H' E) ∧
  ∀ a b, d = .tuple [.int a, .int b] → coinD d = true → ∀ g H', TI T H' → Ktb H H' → MkF H' g (.pairs a b) → Q (.ref g) H'
theorem scM1 : FnScope ["coin"] ["coin"] (defScope sM1) := ⟨rfl, rfl, rfl, by decide +kernel, rfl, by decide +kernel, by decide +kernel⟩
theorem coinV_of {H : Hp} {v : V} {a b : Int} (r : Rds H v (.tuple [.int a, .int b])) : CoinV H v a b := by
  obtain ⟨t, xs, rfl, ht, rs⟩ := rds_tup r
  cases rs with
  | cons r1 rs =>
    cases rs with
    | cons r2 rs =>
      cases rs
      cases r1
      cases r2
      exact ⟨t, rfl, ht⟩
theorem ok_M1 (M : Mk3 P w K mg base C CN CS f0 f1 f2 e0 e1 e2) (F : FunM K mg base "pairs_maker" "pairs_maker" sM1 f fd c pl) (hm : (pl, al) ∈ T) (tp : TabP al (posL lam1) q1) (A1 : Df P w K mg base CX0 1 "maker_by" ["make"] (spMB T) g gd) : FnOk P w K mg base (CXE P w) 8 f fd ["coin"] (spM1 T CS) := by
  obtain ⟨oc, od, kV, doc, pm, an, ct, osl, rfl, lk, hcd⟩ := F.ex
  refine fn_ret1 (fun L => [("coin", L + 1)]) lk hcd scM1 (fun vs H Q E h => ?_) (fun L x a h => ?_) (fun L => by simp) (fun A outer s vs H Q E hr h => ?_)
  · obtain ⟨_, _, rfl, _⟩ := h
    rfl
  · simp only [List.mem_singleton] at h
    cases h
    rfl
  obtain ⟨v, d, rfl, rd, ti, qe, q⟩ := h
  refine ⟨_, _, ps_expr (pe_make M.k1 M.g1 hr rfl M.m1 M.b1 .nil passE (pa_cons pe_int (pa_cons (pv 0) pa_nil))), pe_call A1.G (hr.mono (show 1 ≤ 7 by decide)) rfl A1.m A1.kp A1.b .nil pass0 (pa_cons (pe_lam (cl := [("coin", s.heap.objs.size + 1)]) F.mkk rfl tp rfl rfl rfl) pa_nil), ?_⟩
  refine ⟨_, rfl, fun x dx hx hd ne => ?_⟩
  have xe := made_ext (u := .own x) (v := .ins (C 1) dx []) hx hd ne
  refine ⟨x, _, _, .int 1, d, dx, rfl, upd_same, .int _, rd.mono xe, fun h => (by cases h), fun _ h => qe h _ xe, fun n a b e1 e2 ok H1 kp ru => ⟨rfl, ?_⟩⟩
  cases e1
  subst e2
  have cd := ok.2.2
  have x1 := xe.kp hx kp
  have ti1 := ti.ext x1
  have t1 := ti1.it _ hm
  refine ⟨t1, fun fi c' a' b' H2 xp nf hf hc tb => ⟨fi, rfl, ti1.made xp hm tb, fun g cl H3 ti3 k3 cg hn => ⟨[("coin", v)], rfl, fun x v h => ?_, fun fresh => ?_⟩⟩⟩
  · simp only [List.mem_singleton] at h
    cases h
    exact ⟨rfl, 0, rfl, rfl⟩
  have k2 := ExtP.ktb xp t1
  have x4 := addC_ext (cv := [("coin", v)]) fresh
  refine q a b rfl cd g _ (ti3.ext x4) (x1.ktb.trans (k2.trans (k3.trans x4.ktb))) ⟨cd, cl, fi, cg.nl x4.nl, [("coin", s.heap.objs.size + 1)], v, ?_⟩
  have out : ∀ {b : Addr} {o : HO}, H2 b = some o → b ∉ cl.map (·.2) := fun e z => by rw [hn _ z] at e; cases e
  obtain ⟨_, _, _, _, _, _, Cg, _⟩ := id cg
  have outL : s.heap.objs.size + 1 ∉ cl.map (·.2) := fun z => celN Cg z (fresh _ (by simp))
  have up : ∀ {b : Addr} {o : HO}, H2 b = some o → (∀ t, o ≠ .tbl t) → hidC (addC H3 [("coin", s.heap.objs.size + 1)] [("coin", v)]) (cl.map (·.2)) b = some o := fun {b o} e n => by
    rw [hidC_out (out e)]
    exact x4 _ _ (k3 _ _ e n)
  refine ⟨⟨.none, a', b', c', up hf (fun _ z => nomatch z), up hc (fun _ z => nomatch z), ⟨rfl, fun i x a y v e1 e2 => .inl ?_, by simp, by simp⟩, rfl⟩, ?_⟩
  · match i, e1, e2 with
    | 0, e1, e2 => cases e1; cases e2; rw [hidC_out outL]; exact addC_cells (by simp) 0 _ _ _ _ rfl rfl
    | i + 1, e1, _ => simp at e1
  · obtain ⟨t, e, ht⟩ := coinV_of (rd.mono x1)
    exact ⟨t, e, up (k2 _ _ ht fun _ z => nomatch z) fun _ z => nomatch z⟩
def spM2 (T : Tbs) (CN CS : Addr) : Sp := fun vs H Q E => ∃ v u d e, vs = [v, u] ∧ Rds H v d ∧ Rds H u e ∧ TI T H ∧ (coinD d = false → ∀ H', Ext H H' → ErrF CS "found" v H' E) ∧ (coinD d = true → inD 1 20 e = false → ∀ H', Ext H H' → ErrF CN "found" u H' E) ∧
  ∀ a b r, d = .tuple [.int a, .int b] → e = .int r → coinD d = true → 1 ≤ r → r ≤ 20 → ∀ g H', TI T H' → Ktb H H' → MkF H' g (.coins a b r) → Q (.ref g) H'
theorem scM2 : FnScope ["coin", "far"] ["coin", "far"] (defScope sM2) := ⟨rfl, rfl, rfl, by decide +kernel, rfl, by decide +kernel, by decide +kernel⟩
theorem ok_M2 (M : Mk3 P w K mg base C CN CS f0 f1 f2 e0 e1 e2) (F : FunM K mg base "coins_maker" "coins_maker" sM2 f fd c pl) (hm : (pl, al) ∈ T) (tp : TabP al (posL lam2) q2) (A1 : Df P w K mg base CX0 1 "maker_by" ["make"] (spMB T) g gd) : FnOk P w K mg base (CXE P w) 8 f fd ["coin", "far"] (spM2 T CN CS) := by
  obtain ⟨oc, od, kV, doc, pm, an, ct, osl, rfl, lk, hcd⟩ := F.ex
  refine fn_ret1 (fun L => [("far", L + 2), ("coin", L + 1)]) lk hcd scM2 (fun vs H Q E h => ?_) (fun L x a h => ?_) (fun L => by simp) (fun A outer s vs H Q E hr h => ?_)
  · obtain ⟨_, _, _, _, rfl, _⟩ := h
    rfl
  · simp only [List.mem_cons, List.not_mem_nil, or_false] at h
    rcases h with h | h <;> cases h <;> rfl
  obtain ⟨v, u, d, e, rfl, rd, re, ti, qe, qf, q⟩ := h
  refine ⟨_, _, ps_expr (pe_make M.k2 M.g2 hr rfl M.m2 M.b2 .nil passE (pa_cons pe_int (pa_cons (pv 0) (pa_cons (pv 1) pa_nil)))), pe_call A1.G (hr.mono (show 1 ≤ 7 by decide)) rfl A1.m A1.kp A1.b .nil pass0 (pa_cons (pe_lam (cl := [("far", s.heap.objs.size + 2), ("coin", s.heap.objs.size + 1)]) F.mkk rfl tp rfl rfl rfl) pa_nil), ?_⟩
  refine ⟨_, rfl, _, rfl, fun x dx hx hd ne => ?_⟩
  have xe := made_ext (u := .own x) (v := .ins (C 2) dx []) hx hd ne
  refine ⟨x, _, _, _, .int 1, d, e, dx, rfl, upd_same, .int _, rd.mono xe, re.mono xe, fun h => (by cases h), fun _ h => qe h _ xe, fun _ h1 h2 => qf h1 h2 _ xe, fun n a b r e1 e2 e3 ok H1 kp ru => ⟨rfl, ?_⟩⟩
  cases e1
  subst e2
  subst e3
  obtain ⟨_, _, cd, r1, r20⟩ := ok
  cases re
  have x1 := xe.kp hx kp
  have ti1 := ti.ext x1
  have t1 := ti1.it _ hm
  refine ⟨t1, fun fi c' a' b' H2 xp nf hf hc tb => ⟨fi, rfl, ti1.made xp hm tb, fun g cl H3 ti3 k3 cg hn => ⟨[("far", .int r), ("coin", v)], rfl, fun x v h => ?_, fun fresh => ?_⟩⟩⟩
  · simp only [List.mem_cons, List.not_mem_nil, or_false] at h
    rcases h with h | h <;> cases h
    · exact ⟨rfl, 1, rfl, rfl⟩
    · exact ⟨rfl, 0, rfl, rfl⟩
  have k2 := ExtP.ktb xp t1
  have x4 := addC_ext (cv := [("far", .int r), ("coin", v)]) fresh
  refine q a b r rfl rfl cd r1 r20 g _ (ti3.ext x4) (x1.ktb.trans (k2.trans (k3.trans x4.ktb))) ⟨⟨cd, r1, r20⟩, cl, fi, cg.nl x4.nl, [("far", s.heap.objs.size + 2), ("coin", s.heap.objs.size + 1)], v, ?_⟩
  have out : ∀ {b : Addr} {o : HO}, H2 b = some o → b ∉ cl.map (·.2) := fun e z => by rw [hn _ z] at e; cases e
  obtain ⟨_, _, _, _, _, _, Cg, _⟩ := id cg
  have outL : ∀ a ∈ ([s.heap.objs.size + 2, s.heap.objs.size + 1] : List Addr), a ∉ cl.map (·.2) := fun a ha z => celN Cg z (fresh _ (by simpa using ha))
  have up : ∀ {b : Addr} {o : HO}, H2 b = some o → (∀ t, o ≠ .tbl t) → hidC (addC H3 [("far", s.heap.objs.size + 2), ("coin", s.heap.objs.size + 1)] [("far", .int r), ("coin", v)]) (cl.map (·.2)) b = some o := fun {b o} e n => by
    rw [hidC_out (out e)]
    exact x4 _ _ (k3 _ _ e n)
  refine ⟨⟨.none, a', b', c', up hf (fun _ z => nomatch z), up hc (fun _ z => nomatch z), ⟨rfl, fun i x a y v e1 e2 => .inl ?_, by simp, by show (["far", "coin"] : List Str).Nodup; decide +kernel⟩, rfl⟩, ?_⟩
  · match i, e1, e2 with
    | 0, e1, e2 => cases e1; cases e2; rw [hidC_out (outL _ (by simp))]; exact addC_cells (by simp) 0 _ _ _ _ rfl rfl
    | 1, e1, e2 => cases e1; cases e2; rw [hidC_out (outL _ (by simp))]; exact addC_cells (by simp) 1 _ _ _ _ rfl rfl
    | i + 2, e1, _ => simp at e1
  · obtain ⟨t, e, ht⟩ := coinV_of (rd.mono x1)
    exact ⟨t, e, up (k2 _ _ ht fun _ z => nomatch z) fun _ z => nomatch z⟩
end
end My
set_option Elab.async false
set_option linter.all false
set_option maxRecDepth 100000
set_option maxHeartbeats 1000000
namespace My
open PySem PySem.W L2
section
variable {P : Program} {w : World} {K : Frag} {mg : Str → Option Value} {base : Heap} {T : Tbs}
abbrev sCell : Stmt := top 37
def spCell (K : Frag) : Sp := fun vs H Q _ => ∃ (a : Addr) (ns : List Int) (k : Int), vs = [.ref a, .int k] ∧ SqL K H a (ns.map V.int) ∧ 0 ≤ k ∧ k < 100 ∧ ∀ c : Int, Q (.int c) H
theorem scC : FnScope ["_law_script", "_law_k"] ["_law_script", "_law_k"] (defScope sCell) := ⟨rfl, rfl, rfl, by decide +kernel, rfl, by decide +kernel, by decide +kernel⟩
theorem ok_cell {f : Addr} {fd : FuncData} (F : Fun K "_law_cell" "_law_cell" sCell f fd) (ml : mg "len" = none) : FnOk P w K mg base CX0 1 f fd ["_law_script", "_law_k"] (spCell K) := by
  refine F.ok scC (fun vs H Q E h => ?_) (fun cdv A outer s H vs Q E hr h => ?_)
  · obtain ⟨a, ns, k, rfl, _⟩ := h
    rfl
  obtain ⟨a, ns, k, rfl, hS, h0, h1, q⟩ := h
  refine ⟨_, pss_cons (ps_if (pt_cmpR op_lt (pv 1) (pe_callB call_len_seq rfl ml PySem.boot_len (pa_cons (pv 0) pa_nil)) (nomark _)) (pss_one (ps_ret (pe_ix ix_list (pv 0) (pv 1) (fun _ _ => rfl)))) pss_nil)
    (pss_one (ps_ret (pe_op op_add (pe_op op_mul pe_int (pv 1)) pe_int))), ?_⟩
  refine ⟨_, rfl, _, rfl, a, _, rfl, .inl hS, _, _, rfl, rfl, _, rfl, ?_⟩
  refine ite2 (fun c => ?_) (fun c => ?_)
  · have c' : k < (((ns.map V.int).length : Nat) : Int) := of_decide_eq_true c
    rw [List.length_map] at c'
    have hk : k.toNat < ns.length := by omega
    have ek : k = ((k.toNat : Nat) : Int) := by omega
    have z : atI (ns.map V.int) ((k.toNat : Nat) : Int) = some (.int ns[k.toNat]) := atI_nat (by rw [List.getElem?_map, List.getElem?_eq_getElem hk] <;> rfl)
    rw [← ek] at z
    exact ⟨_, rfl, _, rfl, a, _, _, _, rfl, rfl, hS, z, q _⟩
  · exact ⟨_, rfl, _, _, rfl, rfl, .inl ⟨by decide, by decide⟩, _, _, rfl, rfl, q _⟩
abbrev sMix : Stmt := top 38
def spMix : Sp := fun vs H Q _ => ∃ c k : Int, vs = [.int c, .int k] ∧ ∀ r : Int, 0 ≤ r → r < 268435456 → Q (.int r) H
theorem scMx : FnScope ["_law_cell_here", "_law_k", "_law_number"] ["_law_cell_here", "_law_k"] (defScope sMix) := ⟨rfl, rfl, rfl, by decide +kernel, rfl, by decide +kernel, by decide +kernel⟩
theorem ok_mix {f : Addr} {fd : FuncData} (F : Fun K "_law_mix" "_law_mix" sMix f fd) : FnOk P w K mg base CX0 1 f fd ["_law_cell_here", "_law_k"] spMix := by
  refine F.ok scMx (fun vs H Q E h => ?_) (fun cdv A outer s H vs Q E hr h => ?_)
  · obtain ⟨c, k, rfl, _⟩ := h
    rfl
  obtain ⟨c, k, rfl, q⟩ := h
  have nd := scMx.nd
  refine ⟨_, pss_cons (ps_set (i := 2) nd rfl (Or.inl rfl) (pe_op op_mod (pe_op op_add (pe_op op_add (pv 0) (pe_op op_mul pe_int (pv 1))) pe_int) pe_int))
    (pss_cons (ps_set (i := 2) nd rfl (Or.inl rfl) (pe_op op_mod (pe_op op_mul (pe_op op_mod (pe_op op_mul (pv 2) (pv 2)) pe_int) pe_int) pe_int))
    (pss_one (ps_ret (pe_op op_fdiv (pe_op op_mod (pe_op op_mul (pv 2) (pe_op op_add (pv 2) pe_int)) pe_int) pe_int)))), ?_⟩
  refine ⟨_, rfl, _, rfl, _, _, rfl, rfl, .inl ⟨by decide, by decide⟩, _, _, rfl, rfl, _, _, rfl, rfl, _, _, rfl, rfl, (by show (0 : Int) < 2147483629; decide), ?_⟩
  generalize hn : (c + 7919 * k + 12345) % 2147483629 = n1
  have a0 : 0 ≤ n1 := by rw [← hn]; exact Int.emod_nonneg _ (by decide)
  have a1 : n1 < 2147483629 := by rw [← hn]; exact Int.emod_lt_of_pos _ (by decide)
  have cm : CMul n1 n1 := .inl ⟨Int.lt_of_lt_of_le (by decide) a0, Int.lt_trans a1 (by decide)⟩
  subst hn
  refine ⟨_, rfl, _, rfl, _, _, rfl, rfl, cm, _, _, rfl, rfl, (by show (0 : Int) < 2147483587; decide), _, _, rfl, rfl, .inr ⟨by decide, by decide⟩, _, _, rfl, rfl, (by show (0 : Int) < 2147483549; decide), ?_⟩
  generalize hn : ((c + 7919 * k + 12345) % 2147483629 * ((c + 7919 * k + 12345) % 2147483629)) % 2147483587 * 48271 % 2147483549 = n2
  have b0 : 0 ≤ n2 := by rw [← hn]; exact Int.emod_nonneg _ (by decide)
  have b1 : n2 < 2147483549 := by rw [← hn]; exact Int.emod_lt_of_pos _ (by decide)
  have cm2 : ∀ y, CMul n2 y := fun y => .inl ⟨Int.lt_of_lt_of_le (by decide) b0, Int.lt_trans b1 (by decide)⟩
  subst hn
  refine ⟨_, rfl, _, rfl, _, _, rfl, rfl, _, _, rfl, rfl, cm2 _, _, _, rfl, rfl, (by show (0 : Int) < 2147483543; decide), _, _, rfl, rfl, ⟨(by show (0 : Int) < 8; decide), (by show (8 : Int) < 1073741824; decide)⟩, q _ ?_ ?_⟩
  · exact Int.ediv_nonneg (Int.emod_nonneg _ (by decide)) (by decide)
  · generalize hz : ((c + 7919 * k + 12345) % 2147483629 * ((c + 7919 * k + 12345) % 2147483629)) % 2147483587 * 48271 % 2147483549 = z
    have := Int.emod_lt_of_pos (z * (z + 31)) (show (0 : Int) < 2147483543 by decide)
    omega
abbrev sBeg : Stmt := top 39
def spBeg : Sp := fun vs H Q _ => ∃ c : Int, vs = [.int c] ∧ ∀ p H', H p = none → Ext H H' → BoxW H' p → Q (.ref p) H'
theorem scBg : FnScope ["_law_cell_here"] ["_law_cell_here"] (defScope sBeg) := ⟨rfl, rfl, rfl, by decide +kernel, rfl, by decide +kernel, by decide +kernel⟩
theorem ok_beg {f : Addr} {fd : FuncData} (F : Fun K "_law_begun" "_law_begun" sBeg f fd) (mx : mg "max" = none) : FnOk P w K mg base CX0 1 f fd ["_law_cell_here"] spBeg := by
  refine F.ok scBg (fun vs H Q E h => ?_) (fun cdv A outer s H vs Q E hr h => ?_)
  · obtain ⟨c, rfl, _⟩ := h
    rfl
  obtain ⟨c, rfl, q⟩ := h
  refine ⟨_, pss_one (ps_ret (pe_lst (pa_cons (pe_callB (call_max2 rfl) rfl mx PyProof.Rows.boot_max (pa_cons pe_int (pa_cons (pe_op op_sub (pv 0) (pe_op op_pow pe_int pe_int)) pa_nil))) (pa_cons (pe_op op_mod (pv 0) pe_int) (pa_cons pe_int pa_nil))))), ?_⟩
  refine ⟨_, rfl, 10, 18, rfl, rfl, ⟨by decide, by decide, by decide⟩, _, _, rfl, rfl, _, _, rfl, _, rfl, _, _, rfl, rfl, (by show (0 : Int) < 2147483629; decide), by show 3 ≤ sizeLine; decide, fun p hp => ?_⟩
  refine q p _ hp (Ext.new hp) ⟨_, _, _, upd_same, ?_, Int.emod_nonneg _ (by decide), Int.emod_lt_of_pos _ (by decide)⟩
  show 0 ≤ (if c - (10 : Int) ^ (18 : Int).toNat > 0 then c - (10 : Int) ^ (18 : Int).toNat else 0)
  split <;> omega
abbrev sPull : Stmt := top 40
def spPull (T : Tbs) : Sp := fun vs H Q _ => ∃ ps p, ∃ m : Int, vs = [.ref p, .int m] ∧ OkS T ps p H ∧ 0 < m ∧ m < 1073741824 ∧ ∀ (r : Int) (H' : Hp), 0 ≤ r → r < m → OkS T ps p H' → Kept H H' p → Q (.int r) H'
theorem scPl : FnScope ["_law_state", "_law_many", "_law_digit", "_law_high", "_law_low"] ["_law_state", "_law_many"] (defScope sPull) := ⟨rfl, rfl, rfl, by decide +kernel, rfl, by decide +kernel, by decide +kernel⟩
theorem kept_upd {H : Hp} {p : Addr} (o : HO) : Kept H (upd H p o) p := fun b u h n => by rw [upd_ne n]; exact h
theorem ok_pull {f a1 : Addr} {fd d1 : FuncData} (F : Fun K "_law_pull" "_law_pull" sPull f fd) (A1 : Df P w K mg base CX0 1 "_law_mix" ["_law_cell_here", "_law_k"] spMix a1 d1) : FnOk P w K mg base CX0 2 f fd ["_law_state", "_law_many"] (spPull T) := by
  refine F.ok scPl (fun vs H Q E h => ?_) (fun cdv A outer s H vs Q E hr h => ?_)
  · obtain ⟨_, _, _, rfl, _⟩ := h
    rfl
  obtain ⟨ps, p, m, rfl, ok, m0, m1, q⟩ := h
  obtain ⟨a, b, c, hp, a0, b0, b1⟩ := ok.bx.ex
  have nd := scPl.nd
  refine ⟨_, pss_cons (ps_if (pt_cmpR op_gt (pe_ix ix_list (pv 0) pe_int (fun _ _ => rfl)) pe_int (nomark _))
      (pss_cons (ps_set (i := 2) nd rfl (Or.inl rfl) (pe_op op_mod (pe_ix ix_list (pv 0) pe_int (fun _ _ => rfl)) (pv 1)))
      (pss_cons (ps_asg (pe_op op_fdiv (pe_ix ix_list (pv 0) pe_int (fun _ _ => rfl)) (pv 1)) (pg_sub (pv 0) pe_int set_list))
      (pss_one (ps_ret (pv 2))))) pss_nil)
    (pss_cons (ps_asg (pe_op op_add (pe_ix ix_list (pv 0) pe_int (fun _ _ => rfl)) pe_int) (pg_sub (pv 0) pe_int set_list))
    (pss_cons (ps_set (i := 3) nd rfl (Or.inl rfl) (pe_call A1.G hr rfl A1.m A1.kp A1.b .nil pass0 (pa_cons (pe_ix ix_list (pv 0) pe_int (fun _ _ => rfl)) (pa_cons (pe_op op_mul pe_int (pe_ix ix_list (pv 0) pe_int (fun _ _ => rfl))) pa_nil))))
    (pss_cons (ps_set (i := 4) nd rfl (Or.inl rfl) (pe_call A1.G hr rfl A1.m A1.kp A1.b .nil pass0 (pa_cons (pe_ix ix_list (pv 0) pe_int (fun _ _ => rfl)) (pa_cons (pe_op op_add (pe_op op_mul pe_int (pe_ix ix_list (pv 0) pe_int (fun _ _ => rfl))) pe_int) pa_nil))))
    (pss_one (ps_ret (pe_op op_mod (pe_op op_add (pe_op op_mul (pv 3) pe_int) (pv 4)) (pv 1))))))), ?_⟩
  have hl := SqL.of (K := K) hp
  refine ⟨_, rfl, p, _, _, _, rfl, rfl, hl, rfl, _, _, rfl, rfl, _, rfl, ?_⟩
  refine ite2 (fun c1 => ?_) (fun c1 => ?_)
  · have c2 : 0 < a := of_decide_eq_true c1
    refine ⟨_, rfl, p, _, _, _, rfl, rfl, hl, rfl, _, rfl, _, _, rfl, rfl, m0, ?_⟩
    refine ⟨_, rfl, p, _, _, _, rfl, rfl, hl, rfl, _, rfl, _, _, rfl, rfl, ⟨m0, m1⟩, _, rfl, p, _, 0, 0, rfl, rfl, hp, rfl, ?_⟩
    exact ⟨_, rfl, q _ _ (Int.emod_nonneg _ (by omega)) (Int.emod_lt_of_pos _ m0) (ok.kept (kept_upd _) ⟨_, _, _, upd_same, Int.ediv_nonneg (by omega) (by omega), b0, b1⟩) (kept_upd _)⟩
  · refine ⟨_, rfl, p, _, _, _, rfl, rfl, hl, rfl, _, _, rfl, rfl, _, rfl, p, _, 2, 2, rfl, rfl, hp, rfl, ?_⟩
    have k1 : Kept H (upd H p (.lst [.int a, .int b, .int (c + 1)])) p := kept_upd _
    have f1 : upd H p (.lst [.int a, .int b, .int (c + 1)]) p = some (.lst [.int a, .int b, .int (c + 1)]) := upd_same
    have ok1 := ok.kept k1 ⟨_, _, _, f1, a0, b0, b1⟩
    have hl1 := SqL.of (K := K) f1
    have q1 := fun r h0 h1 => q r _ h0 h1 ok1 k1
    refine ⟨_, rfl, p, _, _, _, rfl, rfl, hl1, rfl, _, rfl, p, _, _, _, rfl, rfl, hl1, rfl, _, _, rfl, rfl, .inl ⟨by decide, by decide⟩, _, _, rfl, fun r1 r10 r11 => ?_⟩
    refine ⟨_, rfl, p, _, _, _, rfl, rfl, hl1, rfl, _, rfl, p, _, _, _, rfl, rfl, hl1, rfl, _, _, rfl, rfl, .inl ⟨by decide, by decide⟩, _, _, rfl, rfl, _, _, rfl, fun r2 r20 r21 => ?_⟩
    refine ⟨_, rfl, _, _, rfl, rfl, .inl ⟨by omega, by omega⟩, _, rfl, _, _, rfl, rfl, _, rfl, _, _, rfl, rfl, m0, ?_⟩
    exact q1 _ (Int.emod_nonneg _ (by omega)) (Int.emod_lt_of_pos _ m0)
end
end My
set_option Elab.async false
set_option linter.all false
set_option maxRecDepth 100000
set_option maxHeartbeats 1000000
set_option exponentiation.threshold 10000
namespace My
open PySem PySem.W L2
theorem Gr.nlB {p : Addr} {H H' : Hp} (g : Gr p H H') (b : BoxW H p) : NL H H' := fun x o e l t => g x o e (fun z => by
  obtain ⟨_, _, _, hp, _⟩ := b.ex
  rw [z, hp] at e
  exact l _ (Option.some.inj e).symm) t
theorem coin_low {a b : Nat} (h1 : 1 ≤ a) (h2 : a < b) (h3 : b ≤ 100) : coinD (.tuple [.int ((a / Nat.gcd a b : Nat) : Int), .int ((b / Nat.gcd a b : Nat) : Int)]) = true := by
  have g0 : 0 < Nat.gcd a b := Nat.gcd_pos_of_pos_left _ h1
  have ea := Nat.div_mul_cancel (Nat.gcd_dvd_left a b)
  have eb := Nat.div_mul_cancel (Nat.gcd_dvd_right a b)
  have eg : Nat.gcd (a / Nat.gcd a b) (b / Nat.gcd a b) = 1 := by rw [Nat.gcd_div (Nat.gcd_dvd_left a b) (Nat.gcd_dvd_right a b), Nat.div_self g0]
  generalize Nat.gcd a b = g at g0 ea eb eg ⊢
  generalize a / g = x at ea eg ⊢
  generalize b / g = y at eb eg ⊢
  have x1 : 1 ≤ x := by
    rcases Nat.eq_zero_or_pos x with z | z
    · rw [z, Nat.zero_mul] at ea; omega
    · exact z
  have xy : x < y := by
    rcases Nat.lt_or_ge x y with z | z
    · exact z
    · have := Nat.mul_le_mul_right g z
      omega
  have yb : y ≤ b := by
    have := Nat.le_mul_of_pos_right y g0
    omega
  show (((decide ((1 : Int) ≤ (y : Int)) && (decide ((0 : Int) ≤ (x : Int)) && decide ((x : Int) ≤ (y : Int)))) && decide (Nat.gcd (x : Int).toNat (y : Int).toNat = 1)) && (decide ((2 : Int) ≤ (y : Int)) && decide ((y : Int) ≤ 100))) = true
  rw [Int.toNat_natCast, Int.toNat_natCast, decide_eq_true eg, decide_eq_true (by omega), decide_eq_true (by omega), decide_eq_true (by omega), decide_eq_true (by omega), decide_eq_true (by omega)]
  rfl
section
variable {P : Program} {w : World} {K : Frag} {mg : Str → Option Value} {base : Heap} {T : Tbs} {C : Nat → Addr} {f g a1 a2 : Addr} {fd gd d1 d2 : FuncData}
abbrev sLSh : Stmt := top 41
def spLSh : Sp := fun vs H Q _ => ∃ a b : Nat, vs = [.int (a : Int), .int (b : Int)] ∧ 1 ≤ a ∧ a ≤ 100 ∧ ∀ t H', Ext H H' → H' t = some (.tup [.int ((a / Nat.gcd a b : Nat) : Int), .int ((b / Nat.gcd a b : Nat) : Int)]) → Q (.ref t) H'
theorem scLSh : FnScope ["_law_top", "_law_bottom", "_law_one", "_law_other"] ["_law_top", "_law_bottom"] (defScope sLSh) := ⟨rfl, rfl, rfl, by decide +kernel, rfl, by decide +kernel, by decide +kernel⟩
def secM : St → Nat
  | [_, _, _, some (.int b)] => b.toNat
  | _ => 0
theorem ok_lsh (F : Fun K "_law_share" "_law_share" sLSh f fd) : FnOk P w K mg base CX0 1 f fd ["_law_top", "_law_bottom"] spLSh := by
  refine F.ok scLSh (fun vs H Q E h => ?_) (fun cdv A outer s H vs Q E hr h => ?_)
  · obtain ⟨_, _, rfl, _⟩ := h
    rfl
  obtain ⟨a, b, rfl, a1, a2, q⟩ := h
  have nd := scLSh.nd
  refine ⟨_, pss_cons (ps_par (i := 2) (j := 3) rfl nd rfl rfl (by decide) rfl rfl (pa_cons (pv 0) (pa_cons (pv 1) pa_nil)) rfl) (pss_cons (ps_while PassesOwn.never (pt_cmpR op_gt (pv 3) pe_int (nomark _)) (pss_one (ps_par (i := 2) (j := 3) rfl nd rfl rfl (by decide) rfl rfl (pa_cons (pv 3) (pa_cons (pe_op op_mod (pv 2) (pv 3)) pa_nil)) rfl))) (pss_one (ps_ret (pe_tup (pa_cons (pe_op op_fdiv (pv 0) (pv 2)) (pa_cons (pe_op op_fdiv (pv 1) (pv 2)) pa_nil)))))), ?_⟩
  refine ⟨_, rfl, _, rfl, _, _, rfl, ?_⟩
  refine while_by (fun σ H' => H' = H ∧ ∃ x y : Nat, σ = [some (.int (a : Int)), some (.int (b : Int)), some (.int x), some (.int y)] ∧ Nat.gcd x y = Nat.gcd a b) (fun σ _ => secM σ) ⟨rfl, a, b, rfl, rfl⟩ ?_ ?_
  · rintro σ H' ⟨rfl, x, y, rfl, e⟩
    refine ⟨_, rfl, _, _, rfl, rfl, _, rfl, ?_⟩
    refine ite2 (fun c => ?_) (fun c => ?_)
    · have c' : (0 : Int) < (y : Int) := of_decide_eq_true c
      refine ⟨_, rfl, _, rfl, _, rfl, _, _, rfl, rfl, c', _, _, rfl, ⟨rfl, y, x % y, ?_, ?_⟩, ?_⟩
      · show [some (V.int (a : Int)), some (V.int (b : Int)), some (V.int y), some (V.int ((x : Int) % (y : Int)))] = _
        rw [show ((x : Int) % (y : Int)) = ((x % y : Nat) : Int) from by simp]
      · rw [← e, Nat.gcd_comm x y, Nat.gcd_rec y x, Nat.gcd_comm]
      · show ((x : Int) % (y : Int)).toNat < (y : Int).toNat
        have := Int.emod_lt_of_pos (x : Int) c'
        omega
    · have c' : ¬ (0 : Int) < (y : Int) := fun z => c (decide_eq_true z)
      have y0 : y = 0 := by omega
      subst y0
      rw [Nat.gcd_zero_right] at e
      subst e
      have g0 : 0 < Nat.gcd a b := Nat.gcd_pos_of_pos_left _ a1
      have g1 : Nat.gcd a b ≤ a := Nat.gcd_le_left _ a1
      have gd : CDiv 0 (Nat.gcd a b : Int) := ⟨by omega, by omega⟩
      refine ⟨_, rfl, _, rfl, _, _, rfl, rfl, ⟨by omega, by omega⟩, _, rfl, _, rfl, _, _, rfl, rfl, ⟨by omega, by omega⟩, by show 2 ≤ sizeLine; decide, fun t ht => ?_⟩
      exact q t _ (Ext.new ht) (by rw [upd_same]; simp)
  · rintro σ H Q Q' m ⟨x, e, i, j, h1, h2, b, hb, q⟩
    exact ⟨x, e, i, j, h1, h2, b, hb, m _ _ q⟩
abbrev sCo : Stmt := top 44
def spCo (T : Tbs) : Sp := fun vs H Q _ => ∃ ps p, vs = [.ref p] ∧ OkS T ps p H ∧ ∀ v a b H', OkS T ps p H' → Gr p H H' → CoinV H' v a b → coinD (.tuple [.int a, .int b]) = true → Q v H'
theorem scCo : FnScope ["_law_state", "_law_bottom"] ["_law_state"] (defScope sCo) := ⟨rfl, rfl, rfl, by decide +kernel, rfl, by decide +kernel, by decide +kernel⟩
theorem ok_co (F : Fun K "_law_coin" "_law_coin" sCo f fd) (A1 : Df P w K mg base CX0 2 "_law_pull" ["_law_state", "_law_many"] (spPull T) a1 d1) (A2 : Df P w K mg base CX0 1 "_law_share" ["_law_top", "_law_bottom"] spLSh a2 d2) : FnOk P w K mg base CX0 3 f fd ["_law_state"] (spCo T) := by
  refine F.ok scCo (fun vs H Q E h => ?_) (fun cdv A outer s H vs Q E hr h => ?_)
  · obtain ⟨_, _, rfl, _⟩ := h
    rfl
  obtain ⟨ps, p, rfl, ok, q⟩ := h
  have nd := scCo.nd
  have hr1 : Room 1 _ := hr.mono (by decide)
  refine ⟨_, pss_cons (ps_set (i := 1) nd rfl (Or.inl rfl) (pe_ix ix_list (pe_lst (pa_cons pe_int (pa_cons pe_int (pa_cons pe_int (pa_cons (pe_op op_add pe_int (pe_call A1.G hr rfl A1.m A1.kp A1.b .nil pass0 (pa_cons (pv 0) (pa_cons pe_int pa_nil)))) (pa_cons pe_int pa_nil)))))) (pe_call A1.G hr rfl A1.m A1.kp A1.b .nil pass0 (pa_cons (pv 0) (pa_cons pe_int pa_nil))) (fun _ _ => rfl)))
    (pss_one (ps_ret (pe_call A2.G hr1 rfl A2.m A2.kp A2.b .nil pass0 (pa_cons (pe_op op_add pe_int (pe_call A1.G hr rfl A1.m A1.kp A1.b .nil pass0 (pa_cons (pv 0) (pa_cons (pe_op op_sub (pv 1) pe_int) pa_nil)))) (pa_cons (pv 1) pa_nil))))), ?_⟩
  refine ⟨_, rfl, ps, p, 99, rfl, ok, by decide, by decide, fun r H1 r0 r1 ok1 k1 => ⟨_, _, rfl, rfl, by show 5 ≤ sizeLine; decide, fun l hl => ?_⟩⟩
  have x2 := Ext.new (o := .lst [.int 2, .int 3, .int 7, .int (2 + r), .int 100]) hl
  have g2 : upd H1 l (.lst [.int 2, .int 3, .int 7, .int (2 + r), .int 100]) l = some (.lst ([2, 3, 7, 2 + r, 100].map V.int)) := upd_same
  have ok2 := ok1.ext x2
  have nl : l ≠ p := fun z => by obtain ⟨_, _, _, e, _⟩ := ok1.bx.ex; rw [← z, hl] at e; cases e
  generalize upd H1 l (.lst [.int 2, .int 3, .int 7, .int (2 + r), .int 100]) = H2 at x2 g2 ok2 ⊢
  refine ⟨_, rfl, ps, p, 5, rfl, ok2, by decide, by decide, fun j H3 j0 j1 ok3 k3 => ?_⟩
  have lj : j.toNat < ([2, 3, 7, 2 + r, 100] : List Int).length := by show j.toNat < 5; omega
  have ej : ((j.toNat : Nat) : Int) = j := by omega
  have ea : atI (([2, 3, 7, 2 + r, 100] : List Int).map V.int) j = some (.int ([2, 3, 7, 2 + r, 100] : List Int)[j.toNat]) := by
    have := atI_nat (xs := ([2, 3, 7, 2 + r, 100] : List Int).map V.int) (j := j.toNat) (by rw [List.getElem?_map, List.getElem?_eq_getElem lj]; rfl)
    rwa [ej] at this
  have mem : ([2, 3, 7, 2 + r, 100] : List Int)[j.toNat] ∈ ([2, 3, 7, 2 + r, 100] : List Int) := List.getElem_mem lj
  generalize ([2, 3, 7, 2 + r, 100] : List Int)[j.toNat] = m at ea mem
  have m2 : 2 ≤ m ∧ m ≤ 100 := by
    simp only [List.mem_cons, List.not_mem_nil, or_false] at mem
    rcases mem with rfl | rfl | rfl | rfl | rfl <;> omega
  refine ⟨l, _, j, _, rfl, rfl, SqL.of (k3 _ _ g2 nl), ea, ?_⟩
  refine ⟨_, rfl, _, rfl, _, _, rfl, rfl, ps, p, m - 1, rfl, ok3, by omega, by omega, fun r' H4 r0' r1' ok4 k4 => ⟨_, _, rfl, rfl, _, rfl, ?_⟩⟩
  obtain ⟨a, ha⟩ : ∃ a : Nat, 1 + r' = a := ⟨(1 + r').toNat, by omega⟩
  obtain ⟨b, hb⟩ : ∃ b : Nat, m = b := ⟨m.toNat, by omega⟩
  refine ⟨a, b, by show [V.int (1 + r'), V.int m] = _; rw [ha, hb], by omega, by omega, fun t H5 x5 ht => ?_⟩
  exact q _ _ _ H5 (ok4.ext x5) ((k1.gr.trans (x2.gr p)).trans (k3.gr.trans (k4.gr.trans (x5.gr p)))) ⟨t, rfl, ht⟩ (coin_low (by omega) (by omega) (by omega))
def Mkd.word : Mkd → Str
  | .split => "split"
  | .pairs _ _ => "pairs"
  | .coins _ _ _ => "coins"
def Mkd.args (H : Hp) (c : V) (far : Int) : Mkd → Prop
  | .split => True
  | .pairs a b => CoinV H c a b
  | .coins a b f => CoinV H c a b ∧ far = f
theorem Mkd.args_tk {H H' : Hp} {c : V} {far : Int} {k : Mkd} (h : k.args H c far) (x : TK H H') : k.args H' c far := by
  cases k with
  | split => trivial
  | pairs a b => exact CoinV.tk h x
  | coins a b r => exact ⟨CoinV.tk h.1 x, h.2⟩
def DueO (H : Hp) : Option R0 → V → Prop
  | none, u => u = .non
  | some r, u => Rds H u r.told
theorem DueO.ext {H H' : Hp} {r : Option R0} {u : V} (h : DueO H r u) (x : Ext H H') : DueO H' r u := by
  cases r with
  | none => exact h
  | some r => exact (show Rds H u r.told from h).mono x
abbrev sDu : Stmt := top 45
abbrev PDu : List Str := ["_law_word", "_law_coin_here", "_law_far", "_law_folk"]
def spDu : Sp := fun vs H Q _ => ∃ (k : Mkd) (c : V) (far n : Int), vs = [.str k.word, c, .int far, .int n] ∧ k.args H c far ∧ ∀ u H', Ext H H' → DueO H' (k.rule n) u → Q u H'
theorem scDu : FnScope PDu PDu (defScope sDu) := ⟨rfl, rfl, rfl, by decide +kernel, rfl, by decide +kernel, by decide +kernel⟩
theorem ok_du (F : Fun K "_law_due" "_law_due" sDu f fd) : FnOk P w K mg base CX0 1 f fd PDu spDu := by
  refine F.ok scDu (fun vs H Q E h => ?_) (fun cdv A outer s H vs Q E hr h => ?_)
  · obtain ⟨_, _, _, _, rfl, _⟩ := h
    rfl
  obtain ⟨k, c, far, n, rfl, ar, q⟩ := h
  refine ⟨_, pss_cons (ps_if (pt_cmpR op_eq (pv 0) pe_str (nomark _)) (pss_one (ps_ret (pe_tup (pa_cons pe_str (pa_cons (pv 3) (pa_cons (pe_op op_fdiv (pv 3) pe_int) pa_nil)))))) pss_nil)
    (pss_cons (ps_if (pt_cmpR op_eq (pv 0) pe_str (nomark _)) (pss_one (ps_ret (pe_tup (pa_cons pe_str (pa_cons (pv 3) (pa_cons (pv 1) (pa_cons (pv 2) pa_nil))))))) pss_nil)
    (pss_cons (ps_if (pt_cmpR op_eq (pe_op op_mod (pv 3) pe_int) pe_int (nomark _)) (pss_one (ps_ret pe_non)) pss_nil)
    (pss_one (ps_ret (pe_tup (pa_cons pe_str (pa_cons (pe_op op_fdiv (pv 3) pe_int) (pa_cons (pv 1) pa_nil)))))))), ?_⟩
  cases k with
  | split =>
    refine ⟨_, rfl, rfl, _, rfl, ?_⟩
    rw [decide_eq_true (show V.str (Mkd.word .split) = .str "split" from rfl)]
    refine itT ⟨_, rfl, _, rfl, _, _, rfl, rfl, ⟨by decide, by decide⟩, by show 3 ≤ sizeLine; decide, fun t ht => ?_⟩
    exact q _ _ (Ext.new ht) (.tup upd_same (.cons (.str _) (.cons (.int _) (.cons (.int _) .nil))))
  | coins a b r =>
    obtain ⟨cv, rfl⟩ := ar
    refine ⟨_, rfl, rfl, _, rfl, ?_⟩
    rw [decide_eq_false (p := V.str (Mkd.word (.coins a b far)) = .str "split") (fun z => absurd (show ("coins" : Str) = "split" from V.str.inj z) (by decide +kernel))]
    refine itF ⟨_, rfl, rfl, _, rfl, ?_⟩
    rw [decide_eq_true (show V.str (Mkd.word (.coins a b far)) = .str "coins" from rfl)]
    refine itT ⟨_, rfl, _, rfl, _, rfl, by show 4 ≤ sizeLine; decide, fun t ht => ?_⟩
    exact q _ _ (Ext.new ht) (.tup upd_same (.cons (.str _) (.cons (.int _) (.cons (cv.rds.mono (Ext.new ht)) (.cons (.int _) .nil)))))
  | pairs a b =>
    refine ⟨_, rfl, rfl, _, rfl, ?_⟩
    rw [decide_eq_false (p := V.str (Mkd.word (.pairs a b)) = .str "split") (fun z => absurd (show ("pairs" : Str) = "split" from V.str.inj z) (by decide +kernel))]
    refine itF ⟨_, rfl, rfl, _, rfl, ?_⟩
    rw [decide_eq_false (p := V.str (Mkd.word (.pairs a b)) = .str "coins") (fun z => absurd (show ("pairs" : Str) = "coins" from V.str.inj z) (by decide +kernel))]
    refine itF ⟨_, rfl, _, _, rfl, rfl, (by show (0 : Int) < 2; decide), rfl, _, rfl, ?_⟩
    by_cases e : n % 2 = 1
    · rw [decide_eq_true (congrArg V.int e)]
      refine itT (q _ _ (Ext.refl _) ?_)
      show DueO H (if n % 2 = 0 then some (.pairs (n / 2) a b) else none) .non
      rw [if_neg (by omega)]
      rfl
    · rw [decide_eq_false (fun z => e (V.int.inj z))]
      refine itF ⟨_, rfl, _, _, rfl, rfl, ⟨by decide, by decide⟩, _, rfl, by show 3 ≤ sizeLine; decide, fun t ht => ?_⟩
      refine q _ _ (Ext.new ht) ?_
      show DueO _ (if n % 2 = 0 then some (.pairs (n / 2) a b) else none) _
      rw [if_pos (by omega)]
      exact .tup upd_same (.cons (.str _) (.cons (.int _) (.cons (CoinV.rds ar |>.mono (Ext.new ht)) .nil)))
end
end My
set_option Elab.async false
set_option linter.all false
set_option maxRecDepth 100000
set_option maxHeartbeats 1000000
set_option exponentiation.threshold 10000
namespace My
open PySem PySem.W L2
theorem told_depth (r : R0) : r.told.depth ≤ 20 := by
  cases r <;> simp [R0.told, PyData.depth, PyData.depthAll]
theorem rd_andV {ta tb : TE} {σ : St} {H : Hp} {Q : VK} (h : ta σ H fun x H1 => ∃ c, x = .bl c ∧ if c = true then tb σ H1 Q else Q (.bl false) H1) : tAndV ta tb σ H Q := h
section
variable {P : Program} {w : World} {K : Frag} {mg : Str → Option Value} {base : Heap} {T : Tbs} {C : Nat → Addr} {f g a1 a2 : Addr} {fd gd d1 d2 : FuncData}
abbrev sRt : Stmt := top 46
abbrev PRt : List Str := ["_law_maker", "_law_word", "_law_coin_here", "_law_far", "_law_folk"]
def spRt : Sp := fun vs H Q _ => ∃ (g : Addr) (k : Mkd) (c : V) (far n : Int), vs = [.ref g, .str k.word, c, .int far, .int n] ∧ MkF H g k ∧ k.args H c far ∧ 1 ≤ n ∧ n ≤ 20 ∧ ∀ H', Ext H H' → Q (.bl true) H'
theorem scRt : FnScope ["_law_maker", "_law_word", "_law_coin_here", "_law_far", "_law_folk", "_law_due_here", "_law_found"] PRt (defScope sRt) := ⟨rfl, rfl, rfl, by decide +kernel, rfl, by decide +kernel, by decide +kernel⟩
theorem rule_folk {k : Mkd} {n : Int} {r : R0} (h : k.rule n = some r) : r.folk = n := by
  cases k with
  | split => cases h; rfl
  | pairs a b =>
    have h : (if n % 2 = 0 then some (R0.pairs (n / 2) a b) else none) = some r := h
    by_cases e : n % 2 = 0
    · rw [if_pos e] at h
      cases h
      show 2 * (n / 2) = n
      omega
    · rw [if_neg e] at h
      cases h
  | coins a b c => cases h; rfl
theorem ok_rt (F : Fun K "_law_right" "_law_right" sRt f fd) (M : ClOk P w K mg base 9 (WspM C)) (A1 : Df P w K mg base CX0 1 "_law_due" PDu spDu a1 d1) (Mt : MethS P w K mg base CX0 1 "told" ["self"] (Is5 C) (fun _ => spTold C)) (Mf : MethS P w K mg base CX0 1 "folk" ["self"] (Is5 C) (fun _ => spFolk C)) : FnOk P w K mg base CX0 10 f fd PRt spRt := by
  refine F.ok scRt (fun vs H Q E h => ?_) (fun cdv A outer s H vs Q E hr h => ?_)
  · obtain ⟨_, _, _, _, _, rfl, _⟩ := h
    rfl
  obtain ⟨g, k, c, far, n, rfl, mk, ar, n1, n20, q⟩ := h
  have nd := scRt.nd
  have hr1 : Room 1 _ := hr.mono (by decide)
  have hu := hr.units
  refine ⟨_, pss_cons (ps_set (i := 5) nd rfl (Or.inl rfl) (pe_call A1.G hr1 rfl A1.m A1.kp A1.b .nil pass0 (pa_cons (pv 1) (pa_cons (pv 2) (pa_cons (pv 3) (pa_cons (pv 4) pa_nil))))))
    (pss_cons (ps_set (i := 6) nd rfl (Or.inl rfl) (pe_callF (pv 0) M hr (pv 4)))
    (pss_cons (ps_if (PW.pt (pw_or (pt_cmpR op_isN (pv 5) pe_non (nomark _)) (pw_or1 (pt_cmpR op_isN (pv 6) pe_non (nomark _))))) (pss_one (ps_ret (pe_and (pe_cmpR op_isN (pv 5) pe_non (nomark _)) (pe_one (pe_cmpR op_isN (pv 6) pe_non (nomark _)))))) pss_nil)
    (pss_one (ps_ret (pe_and (pe_cmpR (op_eqD hu) (pe_methD0 (pv 6) Mt hr1 pass0) (pv 5) (nomark _)) (pe_one (pe_cmpR op_eq (pe_methD0 (pv 6) Mf hr1 pass0) (pv 4) (nomark _)))))))), ?_⟩
  refine ⟨_, rfl, _, rfl, _, rfl, _, rfl, k, c, far, n, rfl, ar, fun u H1 x1 du => ?_⟩
  have mk1 := mk.nl x1.nl
  obtain ⟨fd', hg⟩ := mk1.fn
  refine ⟨_, rfl, g, fd', rfl, hg, _, rfl, hg, k, n, mk1, rfl, n1, n20, fun v H2 x2 ru => ?_⟩
  have du2 := du.ext x2
  cases e : k.rule n with
  | none =>
    rw [e] at du2 ru
    cases (show u = .non from du2)
    cases (show v = .non from ru)
    refine ⟨_, rfl, rfl, _, rfl, ?_⟩
    rw [decide_eq_true rfl]
    refine itT (itT ⟨_, rfl, rfl, _, rfl, ?_⟩)
    rw [decide_eq_true rfl]
    refine itT ⟨_, rfl, rfl, ?_⟩
    exact q _ (x1.trans x2)
  | some r =>
    rw [e] at du2 ru
    have du2 : Rds H2 u r.told := du2
    have ru : Ru C H2 (.one r) v := ru
    obtain ⟨a, ea⟩ := ru.ref
    have un : u ≠ .non := fun z => by
      rw [z] at du2
      cases r <;> cases du2
    refine ⟨_, rfl, rfl, _, rfl, ?_⟩
    rw [decide_eq_false un]
    refine itF ⟨_, rfl, rfl, _, rfl, ?_⟩
    rw [decide_eq_false (p := v = .non) (fun z => by rw [ea] at z; cases z)]
    refine itF ?_
    show tAndV (tOp (rEqD id) (tMethD (Is5 C) "told" (fun _ => spTold C) E0 (tVar 6) tNil) (tVar 5)) (tOp rEq (tMethD (Is5 C) "folk" (fun _ => spFolk C) E0 (tVar 6) tNil) (tVar 4)) [some (.ref g), some (.str k.word), some c, some (.int far), some (.int n), some u, some v] H2 Q
    refine rd_andV (rd_op ?_)
    refine rd_meth0 (m := "told") (by decide +kernel) ru (fun R r => ⟨_, rfl, r⟩) ⟨v, _, H2, rfl, Ext.refl _, ru, fun b rb => ⟨_, rfl, ?_⟩⟩
    refine ⟨r.told, r.told, rb, du2, r.plain, r.plain, told_depth r, _, rfl, ?_⟩
    rw [show id (eqD r.told r.told) = true from eqD_refl r.plain]
    refine itT (rd_op (rd_meth0 (m := "folk") (by decide +kernel) ru (fun R r => ⟨_, rfl, r⟩) ⟨v, _, rfl, ru, ⟨_, rfl, rfl, ?_⟩⟩))
    rw [decide_eq_true (congrArg V.int (show (Rl.one r).folk = n from rule_folk e))]
    exact q _ (x1.trans x2)
end
end My
set_option Elab.async false
set_option linter.all false
set_option maxRecDepth 100000
set_option maxHeartbeats 1000000
set_option exponentiation.threshold 10000
namespace My
open PySem PySem.W L2
structure KitF (K : Frag) (mg : Str → Option Value) (D CN CS CL : Addr) : Prop where
  T : IsT K
  cat : Catch K D
  mD : mg "DealError" = some (.ref D)
  mS : mg "NoShare" = some (.ref CS)
  mN : mg "NoNumber" = some (.ref CN)
  mL : mg "NoRule" = some (.ref CL)
  flS : FldOk K CS "found"
  flN : FldOk K CN "found"
  roS : mroIn K CS (.ref D) = some true
  roN : mroIn K CN (.ref D) = some true
  kS1 : kitOne K (.ref CS) (.ref CS) = some true
  kS2 : kitAny K (.ref CS) [.ref CN, .ref CL] = some false
  kN1 : kitOne K (.ref CN) (.ref CS) = some false
  kN2 : kitOne K (.ref CN) (.ref CN) = some true
  kN3 : kitOne K (.ref CN) (.ref CL) = some false
def tIsC (K : Frag) (c : Addr) : TE := tCB (rIsT1 K) (tCons (tVar 4) (tCons (tC (.ref c)) tNil))
def tIs2 (K : Frag) (c1 c2 : Addr) : TE := tCB (rIsTn K) (tCons (tVar 4) (tCons (tTup (tCons (tC (.ref c1)) (tCons (tC (.ref c2)) tNil))) tNil))
def tTold (K : Frag) (wd fld : Str) : TS := tAsg (tTup (tCons (tC (.str wd)) (tCons (tErrFT K (tVar 4) fld) tNil))) (gName 3)
def thRl (K : Frag) (CN CS CL : Addr) : TS := tSeq (tAsg (tTup (tCons (tC (.str "other")) (tCons (tC .non) tNil))) (gName 3))
  (tIfS (tAnd (tB (tIsC K CS)) (tNot (tB (tIs2 K CN CL)))) (tTold K "share" "found") (tIfS (tAnd (tB (tIsC K CN)) (tNot (tB (tIsC K CL)))) (tTold K "number" "found") tNext))
section
variable {K : Frag} {σ : St} {H : Hp} {e C dx c c1 c2 c3 : Addr} {fs : List (Str × V)} {b : Bool} {Q : Bool → Hp → Prop}
theorem rd_isC (s4 : σ[4]? = some (some (.ref e))) (fe : H e = some (ErrT e C (some dx))) (fx : H dx = some (.xd fs)) (it : ErrI K C) (k : kitOne K (.ref C) (.ref c) = some b) (q : Q b H) : tB (tIsC K c) σ H Q :=
  ⟨_, s4, e, C, dx, _, _, _, rfl, fe, fx, it, .inl ⟨_, rfl⟩, k, _, rfl, q⟩
theorem rd_is2 (s4 : σ[4]? = some (some (.ref e))) (fe : H e = some (ErrT e C (some dx))) (fx : H dx = some (.xd fs)) (it : ErrI K C) (k : kitAny K (.ref C) [.ref c1, .ref c2] = some b) (q : ∀ H', Ext H H' → Q b H') : tB (tIs2 K c1 c2) σ H Q :=
  ⟨_, s4, (by show 2 ≤ sizeLine; decide), fun l hl => ⟨e, C, dx, _, l, [c1, c2], _, rfl, Ext.new hl _ _ fe, Ext.new hl _ _ fx, it, upd_same, k, _, rfl, q _ (Ext.new hl)⟩⟩
theorem rd_told {wd fld : Str} {x : V} {De : Ends} (s4 : σ[4]? = some (some (.ref e))) (fe : H e = some (ErrT e C (some dx))) (fx : H dx = some (.xd [(fld, x)])) (fl : FldOk K C fld) (q : ∀ a H', Ext H H' → H' a = some (.tup [.str wd, x]) → De.nx (σ.set 3 (some (.ref a))) H') : tTold K wd fld De σ H := by
  refine ⟨_, s4, e, C, dx, _, x, rfl, fe, fx, by simp [List.lookup], fl.it, fl.hd, fl.nf, (by show 2 ≤ sizeLine; decide), fun l hl => q l _ (Ext.new hl) upd_same⟩
end
section
variable {K : Frag} {mg : Str → Option Value} {D CN CS CL e dx : Addr} {H : Hp} {De : Ends} {x0 x1 x2 x3 : Option V} {v : V}
theorem rd_oth {u : TS} {C : Addr} {fld : Str} (fe : H e = some (ErrT e C (some dx))) (fx : H dx = some (.xd [(fld, v)])) (k : ∀ l H2, Ext H H2 → H2 e = some (ErrT e C (some dx)) → H2 dx = some (.xd [(fld, v)]) → u De [x0, x1, x2, some (.ref l), some (.ref e)] H2) : tSeq (tAsg (tTup (tCons (tC (.str "other")) (tCons (tC .non) tNil))) (gName 3)) u De [x0, x1, x2, x3, some (.ref e)] H :=
  ⟨(by show 2 ≤ sizeLine; decide), fun l hl => k l _ (Ext.new hl) (Ext.new hl _ _ fe) (Ext.new hl _ _ fx)⟩
theorem rd_thS (Z : KitF K mg D CN CS CL) (fe : H e = some (ErrT e CS (some dx))) (fx : H dx = some (.xd [("found", v)])) (k : ∀ a H', Ext H H' → H' a = some (.tup [.str "share", v]) → De.nx [x0, x1, x2, some (.ref a), some (.ref e)] H') : thRl K CN CS CL De [x0, x1, x2, x3, some (.ref e)] H := by
  unfold thRl
  refine rd_oth fe fx fun l H2 y2 fe2 fx2 => rd_isC rfl fe2 fx2 Z.flS.it Z.kS1 (itT (rd_is2 rfl fe2 fx2 Z.flS.it Z.kS2 fun H3 y3 => itT (rd_told rfl (y3 _ _ fe2) (y3 _ _ fx2) Z.flS fun a H4 y4 ea => k a H4 (y2.trans (y3.trans y4)) ea)))
theorem rd_thN (Z : KitF K mg D CN CS CL) (fe : H e = some (ErrT e CN (some dx))) (fx : H dx = some (.xd [("found", v)])) (k : ∀ a H', Ext H H' → H' a = some (.tup [.str "number", v]) → De.nx [x0, x1, x2, some (.ref a), some (.ref e)] H') : thRl K CN CS CL De [x0, x1, x2, x3, some (.ref e)] H := by
  unfold thRl
  refine rd_oth fe fx fun l H2 y2 fe2 fx2 => rd_isC rfl fe2 fx2 Z.flN.it Z.kN1 (itF (itF (rd_isC rfl fe2 fx2 Z.flN.it Z.kN2 (itT (rd_isC rfl fe2 fx2 Z.flN.it Z.kN3 (itT (rd_told rfl fe2 fx2 Z.flN fun a H4 y4 ea => k a H4 (y2.trans y4) ea)))))))
end
section
variable {P : Program} {w : World} {K : Frag} {mg : Str → Option Value} {base : Heap} {T : Tbs} {D CN CS CL : Addr}
abbrev sRl : Stmt := top 47
abbrev NRl : List Str := ["_law_coin_here", "_law_far", "_law_paired", "_law_told", "e"]
abbrev PRl : List Str := ["_law_coin_here", "_law_far", "_law_paired"]
def RflQ (H : Hp) (wd : Str) (x : V) (Q : VK) : Prop := ∀ a H', Ext H H' → H' a = some (.tup [.str wd, x]) → Q (.ref a) H'
def spRl (T : Tbs) : Sp := fun vs H Q _ => ∃ ps p v u d e b, vs = [v, u, .bl b] ∧ OkS T ps p H ∧ Rds H v d ∧ Rds H u e ∧
  ((coinD d = false ∧ RflQ H "share" v Q) ∨ (b = false ∧ coinD d = true ∧ inD 1 20 e = false ∧ RflQ H "number" u Q) ∨ (b = false ∧ coinD d = true ∧ inD 1 20 e = true ∧ ∀ H', OkS T ps p H' → Gr p H H' → Q .non H'))
theorem scRl : FnScope NRl PRl (defScope sRl) := ⟨rfl, rfl, rfl, by decide +kernel, rfl, by decide +kernel, by decide +kernel⟩
def tbRl (T : Tbs) (CN CS : Addr) (E : XK) : TS := tIfS (tB (tVar 2)) (tDrop (tCall (spM1 T CS) [] E (tCons (tVar 0) tNil))) (tDrop (tCall (spM2 T CN CS) [] E (tCons (tVar 0) (tCons (tVar 1) tNil))))
theorem ok_Rl {f g1 g2 : Addr} {fd gd1 gd2 : FuncData} (F : Fun K "_law_refusal" "_law_refusal" sRl f fd) (Z : KitF K mg D CN CS CL) (A1 : Df P w K mg base (CXE P w) 8 "pairs_maker" ["coin"] (spM1 T CS) g1 gd1) (A2 : Df P w K mg base (CXE P w) 8 "coins_maker" ["coin", "far"] (spM2 T CN CS) g2 gd2) (mi : mg "isinstance" = none) : FnOk P w K mg base CX0 9 f fd PRl (spRl T) := by
  refine F.ok scRl (fun vs H Q E h => ?_) (fun cdv A outer s H vs Q E hr h => ?_)
  · obtain ⟨_, _, _, _, _, _, _, rfl, _⟩ := h
    rfl
  obtain ⟨ps, p, v, u, d, e, b, rfl, ok, rv, ru, q⟩ := h
  have nd := scRl.nd
  refine ⟨_, pss_cons (ps_set (i := 3) nd rfl (Or.inl rfl) pe_non) (pss_cons (ps_try (i := 4) (B := D) (tb := tbRl T CN CS) (th := thRl K CN CS CL) rfl rfl rfl nd rfl rfl Z.cat rfl Z.mD
      (fun σ E pn xe hp => pxs_if (pt_val (pv 2)) (pxss_one (pxs_expr (px_call (E := E) A1.G hr rfl A1.m A1.kp A1.b .nil hp (pxa_of (pa_cons (pv 0) pa_nil))))) (pxss_one (pxs_expr (px_call (E := E) A2.G hr rfl A2.m A2.kp A2.b .nil hp (pxa_of (pa_cons (pv 0) (pa_cons (pv 1) pa_nil)))))))
      (fun x => pss_cons (ps_set (i := 3) nd rfl (Or.inl rfl) (pe_tup (pa_cons pe_str (pa_cons pe_non pa_nil))))
        (pss_one (ps_if (PW.pt (pw_and (pt_val (pe_callB (call_isT1 Z.T) rfl mi PyProof.Rows.boot_isinstance (pa_cons (pv 4) (pa_cons (pe_glob (v := .ref CS) rfl Z.mS rfl) pa_nil)))) (pw_and1 (pt_not (pt_val (pe_callB (call_isTn Z.T) rfl mi PyProof.Rows.boot_isinstance (pa_cons (pv 4) (pa_cons (pe_tup (pa_cons (pe_glob (v := .ref CN) rfl Z.mN rfl) (pa_cons (pe_glob (v := .ref CL) rfl Z.mL rfl) pa_nil))) pa_nil))))))))
          (pss_one (ps_set (i := 3) nd rfl (Or.inl rfl) (pe_tup (pa_cons pe_str (pa_cons (pe_errFT (pv 4) rfl) pa_nil)))))
          (pss_one (ps_if (PW.pt (pw_and (pt_val (pe_callB (call_isT1 Z.T) rfl mi PyProof.Rows.boot_isinstance (pa_cons (pv 4) (pa_cons (pe_glob (v := .ref CN) rfl Z.mN rfl) pa_nil)))) (pw_and1 (pt_not (pt_val (pe_callB (call_isT1 Z.T) rfl mi PyProof.Rows.boot_isinstance (pa_cons (pv 4) (pa_cons (pe_glob (v := .ref CL) rfl Z.mL rfl) pa_nil))))))))
            (pss_one (ps_set (i := 3) nd rfl (Or.inl rfl) (pe_tup (pa_cons pe_str (pa_cons (pe_errFT (pv 4) rfl) pa_nil))))) pss_nil))))))
    (pss_one (ps_ret (pv 3)))), ?_⟩
  refine ⟨_, rfl, _, rfl, ?_⟩
  rcases q with ⟨cd, q⟩ | ⟨rfl, cd, bn, q⟩ | ⟨rfl, cd, gn, q⟩
  · cases b with
    | true => exact itT ⟨_, rfl, v, d, rfl, rv, ok.ti, fun _ H1 x1 => err_at fun e dx' H2 x2 fe fx => ⟨e, CS, rfl, rfl, Z.roS, rd_thS Z fe fx fun a H4 x4 ea => ⟨_, rfl, q a H4 (x1.trans (x2.trans x4)) ea⟩⟩, fun a b _ c => by rw [cd] at c; cases c⟩
    | false => exact itF ⟨_, rfl, _, rfl, v, u, d, e, rfl, rv, ru, ok.ti, fun _ H1 x1 => err_at fun e dx' H2 x2 fe fx => ⟨e, CS, rfl, rfl, Z.roS, rd_thS Z fe fx fun a H4 x4 ea => ⟨_, rfl, q a H4 (x1.trans (x2.trans x4)) ea⟩⟩, fun c => (by rw [cd] at c; cases c), fun a b r _ _ c => by rw [cd] at c; cases c⟩
  · refine itF ⟨_, rfl, _, rfl, v, u, d, e, rfl, rv, ru, ok.ti, fun c => (by rw [cd] at c; cases c), fun _ _ H1 x1 => ?_, fun a b r _ er _ r1 r2 => ?_⟩
    · exact err_at fun e dx' H2 x2 fe fx => ⟨e, CN, rfl, rfl, Z.roN, rd_thN Z fe fx fun a H4 x4 ea => ⟨_, rfl, q a H4 (x1.trans (x2.trans x4)) ea⟩⟩
    · rw [er, inD_of r1 r2] at bn
      cases bn
  · refine itF ⟨_, rfl, _, rfl, v, u, d, e, rfl, rv, ru, ok.ti, fun c => (by rw [cd] at c; cases c), fun _ c => (by rw [gn] at c; cases c), fun a b r _ _ _ _ _ g H' ti k _ => ⟨_, rfl, q H' (ok.ktb k ti) (k.gr p)⟩⟩
end
end My
set_option Elab.async false
set_option linter.all false
set_option maxRecDepth 100000
set_option maxHeartbeats 1000000
namespace My
open PySem PySem.W L2
section
variable {X : Cx} {op : Operator} {r : R2} {a b : Expr} {ta tb : TE} {pos p : Pos} {CX : CXT} {k : Nat} {f : Addr} {fd : FuncData} {ps : List Str} {sp : Sp} {E : XK} {x : Str} {e : Expr} {es : List Expr} {t : TA} {tg iter l : Expr} {body : List Stmt} {wi : L2.TI} {g : TG} {tb' : TS} {tl : TE}
theorem bx_forL (hp : PassesOwn (model X.prog X.w) X.A X.env X.xe) (hc : X.calm = true) (hi : Bx (PI X tg iter wi)) (hg : PG X tg g) (hb : Bx (PSs X body tb')) (hs : ∀ x, foldedSetIterable iter X.env x = pure x := by intro _; rfl) : Bx (PS X (.For tg iter body [] pos) (tFor wi g tb')) := ⟨ps_for hp hc hi.h hg hb.h hs⟩
end
theorem rd_forL {K : Frag} {σ : St} {H : Hp} {De : Ends} {te : TE} {g : TG} {tb : TS} (h : te σ H fun x H1 => ∃ a, x = .ref a ∧ (∃ xs, SqL K H1 a xs) ∧ ∃ W : Nat → Nat → St → Hp → Prop, (∃ m, W 0 m σ H1) ∧ ∀ i m σ H, W i m σ H →
      ((Itl K a).stop i H ∧ De.nx σ H) ∨ ((Itl K a).go i H ∧ ∃ N : St → Hp → Prop, (∀ σ' H', N σ' H' → ∃ m', m' < m ∧ W (i + 1) m' σ' H') ∧ ∀ x H', (Itl K a).yld i H x H' → g x σ H' fun σ2 H2 => tb { De with nx := N, ct := N, bk := De.nx } σ2 H2)) : tFor (iList K te) g tb De σ H := h
end My
set_option Elab.async false
set_option linter.all false
set_option maxRecDepth 100000
set_option maxHeartbeats 1000000
set_option exponentiation.threshold 10000
namespace My
open PySem PySem.W L2
theorem rds_self {H : Hp} {v : V} {d : PyData} (r : Rds H v d) : EqE H 20 v v true := by
  cases r with
  | non => exact .inr ⟨.none, .none, .non, .non, rfl, rfl, by decide, rfl⟩
  | bl b => exact .inr ⟨.bool b, .bool b, .bl b, .bl b, rfl, rfl, by simp [PyData.depth], (eqD_refl rfl).symm⟩
  | int i => exact .inr ⟨.int i, .int i, .int i, .int i, rfl, rfl, by simp [PyData.depth], (eqD_refl rfl).symm⟩
  | str z => exact .inr ⟨.str z, .str z, .str z, .str z, rfl, rfl, by simp [PyData.depth], (eqD_refl rfl).symm⟩
  | lst _ _ => exact .inl ⟨_, rfl, rfl, rfl⟩
  | tup _ _ => exact .inl ⟨_, rfl, rfl, rfl⟩
  | dic0 _ => exact .inl ⟨_, rfl, rfl, rfl⟩
  | dic _ _ => exact .inl ⟨_, rfl, rfl, rfl⟩
def badC : List PyData := [.tuple [.int 0, .int 1], .tuple [.int 1, .int 1], .tuple [.int 2, .int 4], .tuple [.int 1, .int 101], .tuple [.int 3, .int 2], .tuple [.int 1, .int 0], .list [.int 1, .int 2], .tuple [.int 1], .none, .str "1/2", .tuple [.bool true, .int 2], .tuple [.int 1, .int 2, .int 3], .int 0, .dict []]
def badN : List PyData := [.int 0, .int 21, .int (-1), .bool true, .none, .str "3", .list [.int 1], .int (10 ^ 29)]
theorem badC_in : ∀ d ∈ badC, coinD d = false := by decide +kernel
theorem badN_in : ∀ d ∈ badN, inD 1 20 d = false := by decide +kernel
def tLen1 (K : Frag) (i : Nat) : TE := tCB (fun xs H Q => ∃ p ys, xs = [.ref p] ∧ (SqL K H p ys ∨ SqT K H p ys) ∧ Q (.int ys.length) H) (tCons (tVar i) tNil)
def tT2 (a b : V) : TE := tTup (tCons (tC a) (tCons (tC b) tNil))
def taBC : TA := tCons (tT2 (.int 0) (.int 1)) (tCons (tT2 (.int 1) (.int 1)) (tCons (tT2 (.int 2) (.int 4)) (tCons (tT2 (.int 1) (.int 101)) (tCons (tT2 (.int 3) (.int 2)) (tCons (tT2 (.int 1) (.int 0)) (tCons (tLst (tCons (tC (.int 1)) (tCons (tC (.int 2)) tNil))) (tCons (tTup (tCons (tC (.int 1)) tNil)) (tCons (tC .non) (tCons (tC (.str "1/2")) (tCons (tT2 (.bl true) (.int 2)) (tCons (tTup (tCons (tC (.int 1)) (tCons (tC (.int 2)) (tCons (tC (.int 3)) tNil)))) (tCons (tC (.int 0)) (tCons tDNewK tNil)))))))))))))
abbrev tPw : TE := tOp (rI CPow fun i j => .int (i ^ j.toNat)) (tC (.int 10)) (tC (.int 29))
def taBN : TA := tCons (tC (.int 0)) (tCons (tC (.int 21)) (tCons (tUn (rU fun i => .int (-i)) (tC (.int 1))) (tCons (tC (.bl true)) (tCons (tC .non) (tCons (tC (.str "3")) (tCons (tLst (tCons (tC (.int 1)) tNil)) (tCons tPw tNil)))))))
section
variable {T : Tbs} {ps : List Addr} {p : Addr} {H0 : Hp} {σ : St}
theorem GN.pw : GN T ps p H0 σ tPw (.int (10 ^ 29)) := fun H Q _ _ q => ⟨10, 29, rfl, rfl, ⟨by decide, by decide, by decide⟩, q _ H (Ext.refl _) (.int _)⟩
theorem gn_ii (a b : Int) : GN T ps p H0 σ (tT2 (.int a) (.int b)) (.tuple [.int a, .int b]) := .tup (.cons (.int _) (.cons (.int _) .nil)) (by show 2 ≤ sizeLine; decide)
theorem g_bc : GNs T ps p H0 σ taBC badC := .cons (gn_ii _ _) (.cons (gn_ii _ _) (.cons (gn_ii _ _) (.cons (gn_ii _ _) (.cons (gn_ii _ _) (.cons (gn_ii _ _) (.cons (.lst (.cons (.int _) (.cons (.int _) .nil)) (by show 2 ≤ sizeLine; decide)) (.cons (.tup (.cons (.int _) .nil) (by show 1 ≤ sizeLine; decide)) (.cons .non (.cons (.str _) (.cons (.tup (.cons (.bl _) (.cons (.int _) .nil)) (by show 2 ≤ sizeLine; decide)) (.cons (.tup (.cons (.int _) (.cons (.int _) (.cons (.int _) .nil))) (by show 3 ≤ sizeLine; decide)) (.cons (.int _) (.cons .dic .nil)))))))))))))
theorem g_bn : GNs T ps p H0 σ taBN badN := .cons (.int _) (.cons (.int _) (.cons (.neg 1) (.cons (.bl _) (.cons .non (.cons (.str _) (.cons (.lst (.cons (.int _) .nil) (by show 1 ≤ sizeLine; decide)) (.cons .pw .nil)))))))
end
section
variable {P : Program} {w : World} {K : Frag} {mg : Str → Option Value} {base : Heap} {T : Tbs} {f a1 a2 : Addr} {fd d1 d2 : FuncData}
abbrev sRd : Stmt := top 48
abbrev NRd : List Str := ["_law_state", "_law_coin_here", "_law_bad", "_law_thing", "_law_number", "_law_far"]
theorem scRd : FnScope NRd ["_law_state", "_law_coin_here"] (defScope sRd) := ⟨rfl, rfl, rfl, by decide +kernel, rfl, by decide +kernel, by decide +kernel⟩
def tPu (T : Tbs) (te : TE) : TE := tCall (spPull T) [] E0 (tCons (tVar 0) (tCons te tNil))
def tRf (T : Tbs) (i : Nat) (te : TE) (b : Bool) : TE := tCall (spRl T) [] E0 (tCons (tVar i) (tCons te (tCons (tC (.bl b)) tNil)))
def tWT (z : Str) (i : Nat) : TE := tTup (tCons (tC (.str z)) (tCons (tVar i) tNil))
def tRd0 : TS := tAsg (tLst taBC) (gName 2)
def tRd1 (K : Frag) (T : Tbs) : TS := tAsg (tOp (rIxL K) (tVar 2) (tPu T (tLen1 K 2))) (gName 3)
def tRd2 (K : Frag) (T : Tbs) : TS := tAsg (tOp (rIxL K) (tLst taBN) (tPu T (tC (.int 8)))) (gName 4)
def tRd3 (K : Frag) (T : Tbs) : TS := tFor (iList K (tLst (tCons (tC (.int 3)) (tCons (tVar 4) tNil)))) (gName 5) (tIfS (tB (tOp (rEqR K not) (tRf T 3 (tVar 5) false) (tWT "share" 3))) (tRet (tC (.bl false))) tNext)
def tRd4 (K : Frag) (T : Tbs) : TS := tIfS (tB (tOp (rEqR K not) (tRf T 3 (tC (.int 0)) true) (tWT "share" 3))) (tRet (tC (.bl false))) tNext
def tRd5 (K : Frag) (T : Tbs) : TS := tRet (tAndV (tOp (rEqR K id) (tRf T 1 (tVar 4) false) (tWT "number" 4)) (tOp (fun x y H Q => y = .non ∧ Q (.bl (decide (x = .non))) H) (tRf T 1 (tC (.int 20)) false) (tC .non)))
section
variable {cdv : Value} {A : Around} {outer : List Env} {s : Shared} {H : Hp} {E : XK}
theorem rd_der (A1 : Df P w K mg base CX0 2 "_law_pull" ["_law_state", "_law_many"] (spPull T) a1 d1) (A2 : Df P w K mg base CX0 9 "_law_refusal" PRl (spRl T) a2 d2) (mn : mg "len" = none) (hr : Room 9 (A.deeper (PyProof.Rows.envOfC "_law_refused" (defScope sRd) s.heap.objs.size f cdv))) :
    Bx (PSs (cxOf CX0 P w K mg base NRd "_law_refused" (defScope sRd) f cdv A outer s H E).nox (defBody sRd) (tSeq tRd0 (tSeq (tRd1 K T) (tSeq (tRd2 K T) (tSeq (tRd3 K T) (tSeq (tRd4 K T) (tRd5 K T))))))) := by
  have nd := scRd.nd
  have hr2 : Room 2 _ := hr.mono (by decide)
  have hu := hr.units
  exact bxs_cons (bx_set (i := 2) nd rfl (Or.inl rfl) (bx_lst (bxa_cons ⟨pe_tup (pa_cons pe_int (pa_cons pe_int pa_nil))⟩ (bxa_cons ⟨pe_tup (pa_cons pe_int (pa_cons pe_int pa_nil))⟩ (bxa_cons ⟨pe_tup (pa_cons pe_int (pa_cons pe_int pa_nil))⟩ (bxa_cons ⟨pe_tup (pa_cons pe_int (pa_cons pe_int pa_nil))⟩ (bxa_cons ⟨pe_tup (pa_cons pe_int (pa_cons pe_int pa_nil))⟩ (bxa_cons ⟨pe_tup (pa_cons pe_int (pa_cons pe_int pa_nil))⟩ (bxa_cons ⟨pe_lst (pa_cons pe_int (pa_cons pe_int pa_nil))⟩ (bxa_cons ⟨pe_tup (pa_cons pe_int pa_nil)⟩ (bxa_cons ⟨pe_non⟩ (bxa_cons ⟨pe_str⟩ (bxa_cons ⟨pe_tup (pa_cons pe_bl (pa_cons pe_int pa_nil))⟩ (bxa_cons ⟨pe_tup (pa_cons pe_int (pa_cons pe_int (pa_cons pe_int pa_nil)))⟩ (bxa_cons ⟨pe_int⟩ (bxa_cons ⟨pe_dnewK⟩ bxa_nil))))))))))))))))
    (bxs_cons (bx_set (i := 3) nd rfl (Or.inl rfl) ⟨pe_ix ix_list (pv 2) (pe_call A1.G hr2 rfl A1.m A1.kp A1.b .nil pass0 (pa_cons (pv 0) (pa_cons (pe_callB call_len_seq rfl mn PySem.boot_len (pa_cons (pv 2) pa_nil)) pa_nil))) (fun _ _ => rfl)⟩)
    (bxs_cons (bx_set (i := 4) nd rfl (Or.inl rfl) (bx_ix ix_list (bx_lst (bxa_cons ⟨pe_int⟩ (bxa_cons ⟨pe_int⟩ (bxa_cons ⟨pe_un un_neg pe_int⟩ (bxa_cons ⟨pe_bl⟩ (bxa_cons ⟨pe_non⟩ (bxa_cons ⟨pe_str⟩ (bxa_cons ⟨pe_lst (pa_cons pe_int pa_nil)⟩ (bxa_cons ⟨pe_op op_pow pe_int pe_int⟩ bxa_nil))))))))) ⟨pe_call A1.G hr2 rfl A1.m A1.kp A1.b .nil pass0 (pa_cons (pv 0) (pa_cons pe_int pa_nil))⟩ (fun _ _ => rfl)))
    (bxs_cons ⟨ps_for PassesOwn.never rfl (pi_list (pe_lst (pa_cons pe_int (pa_cons (pv 4) pa_nil)))) (pg_name (i := 5) nd rfl (Or.inl rfl)) (pss_one (ps_if (pt_cmpR (op_neR hu) (pe_call A2.G hr rfl A2.m A2.kp A2.b .nil pass0 (pa_cons (pv 3) (pa_cons (pv 5) (pa_cons pe_bl pa_nil)))) (pe_tup (pa_cons pe_str (pa_cons (pv 3) pa_nil))) (nomark _)) (pss_one (ps_ret pe_bl)) pss_nil))⟩
    (bxs_cons ⟨ps_if (pt_cmpR (op_neR hu) (pe_call A2.G hr rfl A2.m A2.kp A2.b .nil pass0 (pa_cons (pv 3) (pa_cons pe_int (pa_cons pe_bl pa_nil)))) (pe_tup (pa_cons pe_str (pa_cons (pv 3) pa_nil))) (nomark _)) (pss_one (ps_ret pe_bl)) pss_nil⟩
    (bxs_one ⟨ps_ret (pe_and (pe_cmpR (op_eqR hu) (pe_call A2.G hr rfl A2.m A2.kp A2.b .nil pass0 (pa_cons (pv 1) (pa_cons (pv 4) (pa_cons pe_bl pa_nil)))) (pe_tup (pa_cons pe_str (pa_cons (pv 4) pa_nil))) (nomark _)) (pe_one (pe_cmpR op_isN (pe_call A2.G hr rfl A2.m A2.kp A2.b .nil pass0 (pa_cons (pv 1) (pa_cons pe_int (pa_cons pe_bl pa_nil)))) pe_non (nomark _))))⟩)))))
end
end
end My
set_option Elab.async false
set_option linter.all false
set_option maxRecDepth 100000
set_option maxHeartbeats 1000000
set_option exponentiation.threshold 10000
namespace My
open PySem PySem.W L2
theorem okBxL {X : Cx} {body : List Stmt} {t : TS} {D : Ends} {σ : St} {H : Hp} (h : Bx (PSs X body t)) (r : Bx (t D σ H)) : ∃ t, PSs X body t ∧ t D σ H := ⟨t, h.h, r.h⟩
section
variable {P : Program} {w : World} {K : Frag} {mg : Str → Option Value} {base : Heap} {T : Tbs} {f a1 a2 p : Addr} {ps : List Addr} {fd d1 d2 : FuncData} {H : Hp} {De : Ends} {U : TS} {v u : V} {d : PyData} {o0 o1 o2 o3 o4 o5 : Option V} {σ : St}
theorem rd_pull {te tl : TE} {l : Addr} {vs : List V} {ds : List PyData} {Q : VK} (hte : ∀ R : VK, R (.ref l) H → te σ H R) (htl : ∀ R : VK, R (.int (vs.length : Nat)) H → tl σ H R) (hl : H l = some (.lst vs)) (rs : RdsAll (nt H ps) vs ds) (l4 : 4 ≤ vs.length) (m1 : vs.length ≤ 1000) (ok : OkS T ps p H) (s0 : σ[0]? = some (some (.ref p)))
    (q : ∀ v d H', d ∈ ds → Rds (nt H' ps) v d → OkS T ps p H' → Gr p H H' → Q v H') : tOp (rIxL K) te (tPu T tl) σ H Q := by
  have nl : l ≠ p := fun z => by
    obtain ⟨_, _, _, e, _⟩ := ok.bx.ex
    rw [← z, hl] at e
    have e := HO.lst.inj (Option.some.inj e)
    rw [e] at l4
    exact absurd l4 (by show ¬ 4 ≤ 3; decide)
  refine rd_op (hte _ ⟨_, s0, htl _ ⟨ps, p, _, rfl, ok, by omega, by omega, fun j H3 j0 j1 ok3 k3 => ?_⟩⟩)
  have lk : j.toNat < vs.length := by omega
  have ek : ((j.toNat : Nat) : Int) = j := by omega
  have ea : atI vs j = some vs[j.toNat] := by
    have := atI_nat (List.getElem?_eq_getElem lk)
    rwa [ek] at this
  obtain ⟨d, ed, rd⟩ := rs.get (List.getElem?_eq_getElem lk)
  exact ⟨l, vs, j, _, rfl, rfl, SqL.of (k3 _ _ hl nl), ea, q _ d H3 (List.mem_of_getElem? ed) (rd.mono (k3.gr.nt ok.mem)) ok3 k3.gr⟩
theorem eq_rows {g : Bool → Bool} {a b : Addr} {z : Str} {Q : VK} (ha : H a = some (.tup [.str z, v])) (hb : H b = some (.tup [.str z, v])) (r : Rds H v d) (q : Q (.bl (g true)) H) : rEqR K g (.ref a) (.ref b) H Q := by
  refine ⟨a, b, _, _, fun _ => true, rfl, rfl, .inl ⟨SqT.of ha, SqT.of hb⟩, fun j x y h1 h2 => ?_, q⟩
  match j, h1, h2 with
  | 0, h1, h2 => cases h1; cases h2; exact rds_self (.str z)
  | 1, h1, h2 => cases h1; cases h2; exact rds_self r
  | j + 2, h1, _ => simp at h1
theorem rd_same {g : Bool → Bool} {z : Str} {i : Nat} {te : TE} {Q : VK} (si : σ[i]? = some (some v)) (r : Rds H v d) (hte : ∀ R : VK, (∀ a H', Ext H H' → H' a = some (.tup [.str z, v]) → R (.ref a) H') → te σ H R) (q : ∀ H', Ext H H' → Q (.bl (g true)) H') : tOp (rEqR K g) te (tWT z i) σ H Q := by
  refine rd_op (hte _ fun a H1 x1 ha => ⟨_, si, by show 2 ≤ sizeLine; decide, fun b hb => ?_⟩)
  have x2 := Ext.new (o := .tup [.str z, v]) hb
  exact eq_rows (x2 _ _ ha) upd_same (r.mono (x1.trans x2)) (q _ (x1.trans x2))
def spRd (T : Tbs) : Sp := fun vs H Q _ => ∃ ps p c a b, vs = [.ref p, c] ∧ OkS T ps p H ∧ CoinV H c a b ∧ coinD (.tuple [.int a, .int b]) = true ∧ ∀ H', OkS T ps p H' → Gr p H H' → Q (.bl true) H'
theorem ok_rd (F : Fun K "_law_refused" "_law_refused" sRd f fd) (A1 : Df P w K mg base CX0 2 "_law_pull" ["_law_state", "_law_many"] (spPull T) a1 d1) (A2 : Df P w K mg base CX0 9 "_law_refusal" PRl (spRl T) a2 d2) (mn : mg "len" = none) : FnOk P w K mg base CX0 10 f fd ["_law_state", "_law_coin_here"] (spRd T) := by
  refine F.ok scRd (fun vs H Q E h => ?_) (fun cdv A outer s H vs Q E hr h => ?_)
  · obtain ⟨_, _, _, _, _, rfl, _⟩ := h
    rfl
  obtain ⟨ps, p, c, a, b, rfl, ok, cv, cd, q⟩ := h
  refine okBxL (rd_der A1 A2 mn hr) ⟨?_⟩
  refine rd_set (te := tLst taBC) (i := 2) (GNs.use (p := p) g_bc ok (Ext.refl _) (by decide) fun l vs H1 x1 hl rs => ?_)
  have ok1 := ok.ext x1
  have lv := rs.length
  have lv : vs.length = 14 := lv
  refine rd_set (te := tOp (rIxL K) (tVar 2) (tPu T (tLen1 K 2))) (i := 3) (rd_pull (fun R k => ⟨_, rfl, k⟩) (fun R k => ⟨_, rfl, l, vs, rfl, .inl (SqL.of hl), k⟩) hl rs (by omega) (by omega) ok1 rfl fun v d H2 hd rd ok2 g2 => ?_)
  have bd := badC_in d hd
  refine rd_set (te := tOp (rIxL K) (tLst taBN) (tPu T (tC (.int 8)))) (i := 4) (rd_op (GNs.use (p := p) g_bn ok2 (Ext.refl _) (by decide) fun l3 vs3 H3 x3 hl3 rs3 => ?_))
  have ok3 := ok2.ext x3
  have lv3 := rs3.length
  have lv3 : vs3.length = 8 := lv3
  refine rd_pull (te := tC (.ref l3)) (tl := tC (.int 8)) (σ := [some (.ref p), some c, some (.ref l), some v, none, none]) (fun R k => k) (fun R k => by rw [lv3] at k; exact k) hl3 rs3 (by omega) (by omega) ok3 rfl fun u e H4 he re ok4 g4 => ?_
  have be := badN_in e he
  have gr := (x1.gr p).trans (g2.trans ((x3.gr p).trans g4))
  have cv4 := cv.tk (gr.nlB ok.bx).tk
  have rd4 : Rds H4 v d := (rd.mono ((nt_x x3 ok2.mem).trans (g4.nt ok3.mem))).mono (nt_ext _ _)
  have re4 : Rds H4 u e := re.mono (nt_ext _ _)
  show tSeq (tRd3 K T) _ _ [some (.ref p), some c, some (.ref l), some v, some u, none] H4
  refine rd_forL (te := tLst (tCons (tC (.int 3)) (tCons (tVar 4) tNil))) ⟨_, rfl, by show 2 ≤ sizeLine; decide, fun l5 hl5 => ?_⟩
  have x5 := Ext.new (o := .lst [.int 3, u]) hl5
  have g5 : upd H4 l5 (.lst [.int 3, u]) l5 = some (.lst [.int 3, u]) := upd_same
  generalize upd H4 l5 (.lst [.int 3, u]) = H5 at x5 g5 ⊢
  refine ⟨l5, rfl, ⟨_, SqL.of g5⟩, for_list (fun _ σ H' => ∃ o5, σ = [some (.ref p), some c, some (.ref l), some v, some u, o5] ∧ Ext H5 H') ⟨_, rfl, Ext.refl _⟩ (fun _ _ H' _ pv => SqL.of (by obtain ⟨_, _, x'⟩ := pv; exact x' _ _ g5)) ?_ ?_⟩
  · rintro n x σ H' hx ⟨o5, rfl, x'⟩
    have xx := x5.trans x'
    obtain ⟨ex, rx⟩ : ∃ ex, Rds H' x ex := by
      match n, hx with
      | 0, hx => cases hx; exact ⟨_, .int 3⟩
      | 1, hx => cases hx; exact ⟨e, re4.mono xx⟩
    show tOp (rEqR K not) (tRf T 3 (tVar 5) false) (tWT "share" 3) [some (.ref p), some c, some (.ref l), some v, some u, some x] H' _
    refine rd_same (z := "share") (v := v) rfl (rd4.mono xx) (fun R k => ⟨_, rfl, _, rfl, ps, p, v, x, d, ex, false, rfl, ok4.ext xx, rd4.mono xx, rx, .inl ⟨bd, k⟩⟩) fun H7 x7 => ⟨_, rfl, itF ⟨_, rfl, x'.trans x7⟩⟩
  · rintro σ H' ⟨o5, rfl, x'⟩
    have xx := x5.trans x'
    show tOp (rEqR K not) (tRf T 3 (tC (.int 0)) true) (tWT "share" 3) [some (.ref p), some c, some (.ref l), some v, some u, o5] H' _
    refine rd_same (z := "share") (v := v) rfl (rd4.mono xx) (fun R k => ⟨_, rfl, ps, p, v, .int 0, d, .int 0, true, rfl, ok4.ext xx, rd4.mono xx, .int 0, .inl ⟨bd, k⟩⟩) fun H7 x7 => ⟨_, rfl, itF ?_⟩
    have xy := xx.trans x7
    show tAndV (tOp (rEqR K id) (tRf T 1 (tVar 4) false) (tWT "number" 4)) (tOp (fun x y H Q => y = .non ∧ Q (.bl (decide (x = .non))) H) (tRf T 1 (tC (.int 20)) false) (tC .non)) [some (.ref p), some c, some (.ref l), some v, some u, o5] H7 Q
    refine rd_andV (rd_same (z := "number") (v := u) rfl (re4.mono xy) (fun R k => ⟨_, rfl, _, rfl, ps, p, c, u, _, e, false, rfl, ok4.ext xy, (cv4.rds).mono xy, re4.mono xy, .inr (.inl ⟨rfl, cd, be, k⟩)⟩) fun H8 x8 => ⟨_, rfl, itT (rd_op ?_)⟩)
    have xz := xy.trans x8
    refine ⟨_, rfl, ps, p, c, .int 20, _, .int 20, false, rfl, ok4.ext xz, (cv4.rds).mono xz, .int 20, .inr (.inr ⟨rfl, cd, rfl, fun H9 ok9 g9 => ⟨rfl, ?_⟩⟩)⟩
    rw [decide_eq_true rfl]
    exact q H9 ok9 (gr.trans ((xz.gr p).trans g9))
end
end My
set_option Elab.async false
set_option linter.all false
set_option maxRecDepth 100000
set_option maxHeartbeats 1000000
set_option exponentiation.threshold 10000
namespace My
open PySem PySem.W L2
theorem sqL_gr {K : Frag} {H H' : Hp} {a p : Addr} {xs : List V} (h : SqL K H a xs) (hp : H p = none) (g : Gr p H H') : SqL K H' a xs := by
  have ne : ∀ {o : HO}, H a = some o → a ≠ p := fun {o} e z => by rw [z, hp] at e; cases e
  rcases h with (h | ⟨o, h⟩) | h
  · exact .inl (.inl (g _ _ h (ne h) fun _ z => nomatch z))
  · exact .inl (.inr ⟨o, g _ _ h (ne h) fun _ z => nomatch z⟩)
  · exact .inr h
section
variable {P : Program} {w : World} {K : Frag} {mg : Str → Option Value} {base : Heap} {T : Tbs} {CN CS f a0 a1 a2 a3 a4 a5 a6 a7 a8 : Addr} {fd d0 d1 d2 d3 d4 d5 d6 d7 d8 : FuncData}
abbrev sLaw : Stmt := top 49
abbrev NLw : List Str := ["_law_script", "_law_k", "_law_state", "_law_makers", "_law_turn", "_law_coin_here", "_law_far", "_law_maker", "_law_word"]
theorem scLw : FnScope NLw ["_law_script"] (defScope sLaw) := ⟨rfl, rfl, rfl, by decide +kernel, rfl, by decide +kernel, by decide +kernel⟩
structure Dl (P : Program) (w : World) (K : Frag) (mg : Str → Option Value) (base : Heap) (T : Tbs) (CN CS a0 a1 a2 a3 a4 a5 a6 a7 a8 : Addr) (d0 d1 d2 d3 d4 d5 d6 d7 d8 : FuncData) : Prop where
  ce : Df P w K mg base CX0 1 "_law_cell" ["_law_script", "_law_k"] (spCell K) a0 d0
  be : Df P w K mg base CX0 1 "_law_begun" ["_law_cell_here"] spBeg a1 d1
  pu : Df P w K mg base CX0 2 "_law_pull" ["_law_state", "_law_many"] (spPull T) a2 d2
  co : Df P w K mg base CX0 3 "_law_coin" ["_law_state"] (spCo T) a3 d3
  m0 : Df P w K mg base CX0 2 "split_maker" [] (spM0 T) a4 d4
  m1 : Df P w K mg base (CXE P w) 8 "pairs_maker" ["coin"] (spM1 T CS) a5 d5
  m2 : Df P w K mg base (CXE P w) 8 "coins_maker" ["coin", "far"] (spM2 T CN CS) a6 d6
  rt : Df P w K mg base CX0 10 "_law_right" PRt spRt a7 d7
  rf : Df P w K mg base CX0 10 "_law_refused" ["_law_state", "_law_coin_here"] (spRd T) a8 d8
  mr : mg "range" = none
  mx : mg "max" = none
  mn : mg "min" = none
  ml : mg "len" = none
def tPl (T : Tbs) (n : Int) : TE := tCall (spPull T) [] E0 (tCons (tVar 2) (tCons (tC (.int n)) tNil))
def tAp (K : Frag) (z : Str) (te : TE) : TS := tDrop (tBM K "list" rAppend (tVar 3) (tCons (tTup (tCons te (tCons (tC (.str z)) (tCons (tVar 5) (tCons (tVar 6) tNil))))) tNil))
def tL0 (K : Frag) : TS := tAsg (tCall spBeg [] E0 (tCons (tCall (spCell K) [] E0 (tCons (tVar 0) (tCons (tVar 1) tNil))) tNil)) (gName 2)
def tL1 : TS := tAsg (tLst tNil) (gName 3)
def tLa (T : Tbs) : TS := tAsg (tCall (spCo T) [] E0 (tCons (tVar 2) tNil)) (gName 5)
def tLb (T : Tbs) : TS := tAsg (tOp (rI0 fun i j => .int (i + j)) (tC (.int 1)) (tPl T 20)) (gName 6)
def tMk0 (T : Tbs) : TE := tCall (spM0 T) [] E0 tNil
def tMk1 (T : Tbs) (CS : Addr) : TE := tCall (spM1 T CS) [] E0 (tCons (tVar 5) tNil)
def tMk2 (T : Tbs) (CN CS : Addr) : TE := tCall (spM2 T CN CS) [] E0 (tCons (tVar 5) (tCons (tVar 6) tNil))
def tL2 (K : Frag) (T : Tbs) (CN CS : Addr) : TS := tFor (iRng1 (tCons (tC (.int 2)) tNil)) (gName 4) (tSeq (tLa T) (tSeq (tLb T) (tSeq (tAp K "split" (tMk0 T)) (tSeq (tAp K "pairs" (tMk1 T CS)) (tAp K "coins" (tMk2 T CN CS))))))
def tLc (K : Frag) (T : Tbs) : TS := tAsg (tOp (rIxL K) (tVar 3) (tPl T 6)) (gTup K 4 (gCons (gName 7) (gCons (gName 8) (gCons (gName 5) (gCons (gName 6) gNil)))))
def tLd (T : Tbs) : TS := tIfS (tNot (tB (tCall spRt [] E0 (tCons (tVar 7) (tCons (tVar 8) (tCons (tVar 5) (tCons (tVar 6) (tCons (tOp (rI0 fun i j => .int (i + j)) (tC (.int 1)) (tPl T 20)) tNil)))))))) (tRet (tC (.bl false))) tNext
def tL3 (K : Frag) (T : Tbs) : TS := tFor (iRng1 (tCons (tC (.int 12)) tNil)) (gName 4) (tSeq (tLc K T) (tLd T))
def tL4 (T : Tbs) : TS := tIfS (tNot (tB (tCall (spRd T) [] E0 (tCons (tVar 2) (tCons (tVar 5) tNil))))) (tRet (tC (.bl false))) tNext
def tLap (K : Frag) (T : Tbs) (CN CS : Addr) : TS := tSeq (tL0 K) (tSeq tL1 (tSeq (tL2 K T CN CS) (tSeq (tL3 K T) (tL4 T))))
section
variable {cdv : Value} {A : Around} {outer : List Env} {s : Shared} {H : Hp} {E : XK}
theorem lap_der (D : Dl P w K mg base T CN CS a0 a1 a2 a3 a4 a5 a6 a7 a8 d0 d1 d2 d3 d4 d5 d6 d7 d8) (hr : Room 10 (A.deeper (PyProof.Rows.envOfC "law" (defScope sLaw) s.heap.objs.size f cdv))) : Bx (PSs (cxOf CX0 P w K mg base NLw "law" (defScope sLaw) f cdv A outer s H E).nox (match (defBody sLaw).getD 0 (.Pass ⟨0, 0, 0, 0⟩) with | .For _ _ b _ _ => b | _ => []) (tLap K T CN CS)) := by
  have nd := scLw.nd
  have hr1 : Room 1 _ := hr.mono (by decide)
  have hr2 : Room 2 _ := hr.mono (by decide)
  have hr3 : Room 3 _ := hr.mono (by decide)
  have hr8 : Room 8 _ := hr.mono (by decide)
  exact bxs_cons (bx_set (i := 2) nd rfl (Or.inl rfl) ⟨pe_call D.be.G hr1 rfl D.be.m D.be.kp D.be.b .nil pass0 (pa_cons (pe_call D.ce.G hr1 rfl D.ce.m D.ce.kp D.ce.b .nil pass0 (pa_cons (pv 0) (pa_cons (pv 1) pa_nil))) pa_nil)⟩)
    (bxs_cons (bx_set (i := 3) nd rfl (Or.inl rfl) ⟨pe_lst pa_nil⟩)
    (bxs_cons (bx_forL PassesOwn.never rfl ⟨pi_range1 rfl D.mr (pa_cons pe_int pa_nil)⟩ (pg_name (i := 4) nd rfl (Or.inl rfl))
      (bxs_cons (bx_set (i := 5) nd rfl (Or.inl rfl) ⟨pe_call D.co.G hr3 rfl D.co.m D.co.kp D.co.b .nil pass0 (pa_cons (pv 2) pa_nil)⟩)
      (bxs_cons (bx_set (i := 6) nd rfl (Or.inl rfl) ⟨pe_op op_add pe_int (pe_call D.pu.G hr2 rfl D.pu.m D.pu.kp D.pu.b .nil pass0 (pa_cons (pv 2) (pa_cons pe_int pa_nil)))⟩)
      (bxs_cons ⟨ps_expr (pe_bm PySem.F.plainAttrs_list PySem.F.slot_list_append PySem.F.type_list_append mt_append (pv 3) (pa_cons (pe_tup (pa_cons (pe_call0 D.m0.G hr2 rfl D.m0.m D.m0.kp D.m0.b .nil pass0) (pa_cons pe_str (pa_cons (pv 5) (pa_cons (pv 6) pa_nil))))) pa_nil))⟩
      (bxs_cons ⟨ps_expr (pe_bm PySem.F.plainAttrs_list PySem.F.slot_list_append PySem.F.type_list_append mt_append (pv 3) (pa_cons (pe_tup (pa_cons (pe_call D.m1.G hr8 rfl D.m1.m D.m1.kp D.m1.b .nil passN (pa_cons (pv 5) pa_nil)) (pa_cons pe_str (pa_cons (pv 5) (pa_cons (pv 6) pa_nil))))) pa_nil))⟩
      (bxs_one ⟨ps_expr (pe_bm PySem.F.plainAttrs_list PySem.F.slot_list_append PySem.F.type_list_append mt_append (pv 3) (pa_cons (pe_tup (pa_cons (pe_call D.m2.G hr8 rfl D.m2.m D.m2.kp D.m2.b .nil passN (pa_cons (pv 5) (pa_cons (pv 6) pa_nil))) (pa_cons pe_str (pa_cons (pv 5) (pa_cons (pv 6) pa_nil))))) pa_nil))⟩))))))
    (bxs_cons (bx_forL PassesOwn.never rfl ⟨pi_range1 rfl D.mr (pa_cons pe_int pa_nil)⟩ (pg_name (i := 4) nd rfl (Or.inl rfl))
      (bxs_cons ⟨ps_asg (pe_ix ix_list (pv 3) (pe_call D.pu.G hr2 rfl D.pu.m D.pu.kp D.pu.b .nil pass0 (pa_cons (pv 2) (pa_cons pe_int pa_nil))) (fun _ _ => rfl)) (pg_tup rfl (pgs_cons (pg_name (i := 7) nd rfl (Or.inl rfl)) (pgs_cons (pg_name (i := 8) nd rfl (Or.inl rfl)) (pgs_cons (pg_name (i := 5) nd rfl (Or.inl rfl)) (pgs_cons (pg_name (i := 6) nd rfl (Or.inl rfl)) pgs_nil)))))⟩
      (bxs_one ⟨ps_if (pt_not (pt_val (pe_call D.rt.G hr rfl D.rt.m D.rt.kp D.rt.b .nil pass0 (pa_cons (pv 7) (pa_cons (pv 8) (pa_cons (pv 5) (pa_cons (pv 6) (pa_cons (pe_op op_add pe_int (pe_call D.pu.G hr2 rfl D.pu.m D.pu.kp D.pu.b .nil pass0 (pa_cons (pv 2) (pa_cons pe_int pa_nil)))) pa_nil)))))))) (pss_one (ps_ret pe_bl)) pss_nil⟩)))
    (bxs_one ⟨ps_if (pt_not (pt_val (pe_call D.rf.G hr rfl D.rf.m D.rf.kp D.rf.b .nil pass0 (pa_cons (pv 2) (pa_cons (pv 5) pa_nil))))) (pss_one (ps_ret pe_bl)) pss_nil⟩))))
end
def ItM (H : Hp) (m : V) : Prop := ∃ t g k c far a b, m = .ref t ∧ H t = some (.tup [.ref g, .str (Mkd.word k), c, .int far]) ∧ MkF H g k ∧ k.args H c far ∧ CoinV H c a b ∧ coinD (.tuple [.int a, .int b]) = true
theorem ItM.nl {H H' : Hp} {m : V} (h : ItM H m) (x : NL H H') : ItM H' m := by
  obtain ⟨t, g, k, c, far, a, b, e, ht, mk, ar, cv, cd⟩ := h
  exact ⟨t, g, k, c, far, a, b, e, x.tk _ _ ht, mk.nl x, Mkd.args_tk ar x.tk, cv.tk x.tk, cd⟩
structure MI (T : Tbs) (p l : Addr) (H1 : Hp) (ms : List V) (H : Hp) : Prop where
  ok : OkS T [p] p H
  gr : Gr p H1 H
  hl : H l = some (.lst ms)
  it : ∀ m ∈ ms, ItM H m
section
variable {H H' H1 : Hp} {p l : Addr} {ms : List V} {σ : St} {Q : VK}
theorem MI.go (h : MI T p l H1 ms H) (np : l ≠ p) (ok : OkS T [p] p H') (g : Gr p H H') : MI T p l H1 ms H' := ⟨ok, h.gr.trans g, g _ _ h.hl np (fun _ z => nomatch z), fun m hm => (h.it m hm).nl (g.nlB h.ok.bx)⟩
theorem rd_app {te : TE} {k : Mkd} {c : V} {far a b : Int} (h : MI T p l H1 ms H) (n1 : H1 l = none) (np : l ≠ p) (lm : ms.length < 100) (s3 : σ[3]? = some (some (.ref l))) (s5 : σ[5]? = some (some c)) (s6 : σ[6]? = some (some (.int far))) (cv : CoinV H c a b) (cd : coinD (.tuple [.int a, .int b]) = true) (ar : k.args H c far)
    (hte : ∀ R : VK, (∀ g H', TI T H' → Ktb H H' → MkF H' g k → R (.ref g) H') → te σ H R) (q : ∀ m H', MI T p l H1 (ms ++ [m]) H' → NL H H' → Q .non H') :
    tBM K "list" rAppend (tVar 3) (tCons (tTup (tCons te (tCons (tC (.str k.word)) (tCons (tVar 5) (tCons (tVar 6) tNil))))) tNil) σ H Q := by
  refine ⟨_, s3, .inl ⟨rfl, _, SqL.of h.hl⟩, hte _ fun g H2 ti k2 mk => ⟨_, s5, _, s6, by show 4 ≤ sizeLine; decide, fun t ht => ?_⟩⟩
  have x3 := Ext.new (o := .tup [.ref g, .str k.word, c, .int far]) ht
  have g3 : upd H2 t (.tup [.ref g, .str k.word, c, .int far]) t = some (.tup [.ref g, .str k.word, c, .int far]) := upd_same
  generalize upd H2 t (.tup [.ref g, .str k.word, c, .int far]) = H3 at x3 g3 ⊢
  have kk : Ktb H H3 := k2.trans x3.ktb
  have h3 := h.go np (h.ok.ktb kk (ti.ext x3)) (kk.gr p)
  have nl : NL H H3 := kk.nl
  have nu : NL H3 (upd H3 l (.lst (ms ++ [.ref t]))) := nl_upd h3.hl
  have itm : ItM H3 (.ref t) := ⟨t, g, k, c, far, a, b, rfl, g3, mk.nl x3.nl, Mkd.args_tk ar nl.tk, cv.tk nl.tk, cd⟩
  refine ⟨l, ms, _, rfl, rfl, h3.hl, Nat.lt_of_lt_of_le lm (by decide), q (.ref t) _ ⟨h3.ok.upd h3.hl np, h3.gr.upd n1, upd_same, fun m hm => ?_⟩ fun b o e l' t' => nu b o (nl b o e l' t') l' t'⟩
  rcases List.mem_append.mp hm with hm | hm
  · exact (h3.it m hm).nl nu
  · rw [List.mem_singleton.mp hm]
    exact itm.nl nu
end
end
end My
set_option Elab.async false
set_option linter.all false
set_option maxRecDepth 100000
set_option maxHeartbeats 1000000
set_option exponentiation.threshold 10000
namespace My
open PySem PySem.W L2
section
variable {P : Program} {w : World} {K : Frag} {mg : Str → Option Value} {base : Heap} {T : Tbs} {CN CS f a0 a1 a2 a3 a4 a5 a6 a7 a8 : Addr} {fd d0 d1 d2 d3 d4 d5 d6 d7 d8 : FuncData} {H H1 : Hp} {p l a : Addr} {ms : List V} {De : Ends} {ns : List Int} {o1 o2 o3 o4 o5 o6 o7 o8 : Option V}
theorem rd_turn {kk : V} (h : MI T p l H1 ms H) (n1 : H1 l = none) (np : l ≠ p) (lm : ms.length ≤ 50)
    (q : ∀ ms' c a b o6 H', MI T p l H1 ms' H' → ms'.length = ms.length + 3 → CoinV H' c a b → coinD (.tuple [.int a, .int b]) = true → De.nx [o1, o2, some (.ref p), some (.ref l), some kk, some c, o6, o7, o8] H') :
    (tSeq (tLa T) (tSeq (tLb T) (tSeq (tAp K "split" (tMk0 T)) (tSeq (tAp K "pairs" (tMk1 T CS)) (tAp K "coins" (tMk2 T CN CS)))))) De [o1, o2, some (.ref p), some (.ref l), some kk, o5, o6, o7, o8] H := by
  refine rd_set (te := tCall (spCo T) [] E0 (tCons (tVar 2) tNil)) (i := 5) ⟨_, rfl, [p], p, rfl, h.ok, fun c a b H2 ok2 g2 cv cd => ?_⟩
  have h2 := h.go np ok2 g2
  refine rd_set (te := tOp (rI0 fun i j => .int (i + j)) (tC (.int 1)) (tPl T 20)) (i := 6) ⟨_, rfl, [p], p, 20, rfl, ok2, by decide, by decide, fun r H3 r0 r1 ok3 k3 => ⟨_, _, rfl, rfl, ?_⟩⟩
  have h3 := h2.go np ok3 k3.gr
  have cv3 := cv.tk (k3.gr.nlB ok2.bx).tk
  show tSeq (tAp K "split" (tMk0 T)) _ _ [o1, o2, some (.ref p), some (.ref l), some kk, some c, some (.int (1 + r)), o7, o8] H3
  refine rd_app (k := .split) (c := c) (far := 1 + r) h3 n1 np (by omega) rfl rfl rfl cv3 cd trivial (fun R k => ⟨rfl, h3.ok.ti, fun g H' ti kt mk => k g H' ti kt mk⟩) fun m4 H4 h4 x4 => ?_
  have cv4 := cv3.tk x4.tk
  show tSeq (tAp K "pairs" (tMk1 T CS)) _ _ [o1, o2, some (.ref p), some (.ref l), some kk, some c, some (.int (1 + r)), o7, o8] H4
  refine rd_app (k := .pairs a b) (c := c) (far := 1 + r) h4 n1 np (by rw [List.length_append]; show _ + 1 < _; omega) rfl rfl rfl cv4 cd cv4 (fun R k => ⟨_, rfl, c, _, rfl, cv4.rds, h4.ok.ti, fun z => (by rw [cd] at z; cases z), fun a' b' e _ g H' ti kt mk => ?_⟩) fun m5 H5 h5 x5 => ?_
  · cases e
    exact k g H' ti kt mk
  have cv5 := cv4.tk x5.tk
  show (tAp K "coins" (tMk2 T CN CS)) _ [o1, o2, some (.ref p), some (.ref l), some kk, some c, some (.int (1 + r)), o7, o8] H5
  refine rd_app (k := .coins a b (1 + r)) (c := c) (far := 1 + r) h5 n1 np (by rw [List.length_append, List.length_append]; show _ + 1 + 1 < _; omega) rfl rfl rfl cv5 cd ⟨cv5, rfl⟩ (fun R k => ⟨_, rfl, _, rfl, c, .int (1 + r), _, .int (1 + r), rfl, cv5.rds, .int _, h5.ok.ti, fun z => (by rw [cd] at z; cases z), fun _ z => (by rw [inD_of (by omega) (by omega)] at z; cases z), fun a' b' r' e e' _ _ _ g H' ti kt mk => ?_⟩) fun m6 H6 h6 x6 => ?_
  · cases e
    cases e'
    exact k g H' ti kt mk
  exact q _ c a b _ H6 h6 (by rw [List.length_append, List.length_append, List.length_append]; rfl) (cv5.tk x6.tk) cd
theorem rd_ask {kk : V} (h : MI T p l H1 ms H) (np : l ≠ p) (lm : ms.length = 6)
    (q : ∀ c a b o6 o7 o8 H', MI T p l H1 ms H' → CoinV H' c a b → coinD (.tuple [.int a, .int b]) = true → De.nx [o1, o2, some (.ref p), some (.ref l), some kk, some c, o6, o7, o8] H') :
    (tSeq (tLc K T) (tLd T)) De [o1, o2, some (.ref p), some (.ref l), some kk, o5, o6, o7, o8] H := by
  refine ⟨_, rfl, _, rfl, [p], p, 6, rfl, h.ok, by decide, by decide, fun j H2 j0 j1 ok2 k2 => ?_⟩
  have h2 := h.go np ok2 k2.gr
  have lj : j.toNat < ms.length := by omega
  have ej : ((j.toNat : Nat) : Int) = j := by omega
  have ea : atI ms j = some ms[j.toNat] := by
    have := atI_nat (List.getElem?_eq_getElem lj)
    rwa [ej] at this
  obtain ⟨t, g, k, c, far, ca, cb, e, ht, mk, ar, cv, cd⟩ := h2.it _ (List.getElem_mem lj)
  rw [e] at ea
  refine ⟨l, ms, j, _, rfl, rfl, SqL.of h2.hl, ea, t, _, rfl, SqT.of ht, rfl, _, _, rfl, _, _, rfl, _, _, rfl, _, _, rfl, rfl, ?_⟩
  show tLd T _ [o1, o2, some (.ref p), some (.ref l), some kk, some c, some (.int far), some (.ref g), some (.str k.word)] H2
  refine ⟨_, rfl, _, rfl, _, rfl, _, rfl, _, rfl, [p], p, 20, rfl, ok2, by decide, by decide, fun r H3 r0 r1 ok3 k3 => ⟨_, _, rfl, rfl, ?_⟩⟩
  have x3 := k3.gr.nlB ok2.bx
  have h3 := h2.go np ok3 k3.gr
  refine ⟨g, k, c, far, 1 + r, rfl, mk.nl x3, Mkd.args_tk ar x3.tk, by omega, by omega, fun H4 x4 => ⟨_, rfl, itF ?_⟩⟩
  exact q c ca cb _ _ _ H4 (h3.go np (ok3.ext x4) (x4.gr p)) ((cv.tk x3.tk).tk x4.tk) cd
theorem rd_lap {i : Int} (hS : SqL K H a (ns.map V.int)) (ti : TI T H) (i0 : 0 ≤ i) (i1 : i < 100) (q : ∀ o2 o3 o4 o5 o6 o7 o8 H', SqL K H' a (ns.map V.int) → TI T H' → De.nx [some (.ref a), some (.int i), o2, o3, o4, o5, o6, o7, o8] H') :
    tLap K T CN CS De [some (.ref a), some (.int i), o2, o3, o4, o5, o6, o7, o8] H := by
  refine rd_set (te := tCall spBeg [] E0 (tCons (tCall (spCell K) [] E0 (tCons (tVar 0) (tCons (tVar 1) tNil))) tNil)) (i := 2) ⟨_, rfl, _, rfl, a, ns, i, rfl, hS, i0, i1, fun c => ⟨c, rfl, fun p H1 hp x1 bx1 => ?_⟩⟩
  have ok1 : OkS T [p] p H1 := ⟨bx1, ti.ext x1, List.mem_singleton.mpr rfl, fun x hx => by
    rw [List.mem_singleton.mp hx]
    obtain ⟨_, _, _, e, _⟩ := bx1.ex
    exact ⟨_, e⟩⟩
  refine rd_set (te := tLst tNil) (i := 3) ⟨by show 0 ≤ sizeLine; decide, fun l hl => ?_⟩
  have np : l ≠ p := fun z => by obtain ⟨_, _, _, e, _⟩ := bx1.ex; rw [← z, hl] at e; cases e
  have x2 := Ext.new (o := .lst []) hl
  have m2 : MI T p l H1 [] (upd H1 l (.lst [])) := ⟨ok1.ext x2, x2.gr p, upd_same, fun m hm => nomatch hm⟩
  show tSeq (tL2 K T CN CS) _ _ [some (.ref a), some (.int i), some (.ref p), some (.ref l), o4, o5, o6, o7, o8] (upd H1 l (.lst []))
  generalize upd H1 l (.lst []) = H2 at m2 ⊢
  refine ⟨2, rfl, by decide, by decide, for_range (lo := 0) (n := 2) (fun j σ H' => ∃ ms o4 o5 o6 o7 o8, σ = [some (.ref a), some (.int i), some (.ref p), some (.ref l), o4, o5, o6, o7, o8] ∧ MI T p l H1 ms H' ∧ ms.length = 3 * j ∧ (j = 0 ∨ ∃ c ca cb, o5 = some c ∧ CoinV H' c ca cb ∧ coinD (.tuple [.int ca, .int cb]) = true)) ⟨[], _, _, _, _, _, rfl, m2, rfl, .inl rfl⟩ ?_ ?_⟩
  · rintro j σ H' hj ⟨ms, o4, o5, o6, o7, o8, rfl, m', lm, _⟩
    exact rd_turn m' hl np (by omega) fun ms' c ca cb o6 H3 m3 l3 cv cd => ⟨ms', _, _, _, _, _, rfl, m3, by omega, .inr ⟨c, ca, cb, rfl, cv, cd⟩⟩
  · rintro σ H3 ⟨ms, o4, o5, o6, o7, o8, rfl, m3, lm, co⟩
    rcases co with z | ⟨c, ca, cb, rfl, cv, cd⟩
    · cases z
    refine ⟨12, rfl, by decide, by decide, for_range (lo := 0) (n := 12) (fun j σ H' => ∃ c ca cb o4 o6 o7 o8, σ = [some (.ref a), some (.int i), some (.ref p), some (.ref l), o4, some c, o6, o7, o8] ∧ MI T p l H1 ms H' ∧ CoinV H' c ca cb ∧ coinD (.tuple [.int ca, .int cb]) = true) ⟨c, ca, cb, _, _, _, _, rfl, m3, cv, cd⟩ ?_ ?_⟩
    · rintro j σ H' hj ⟨c, ca, cb, o4, o6, o7, o8, rfl, m', cv, cd⟩
      exact rd_ask m' np lm fun c ca cb o6 o7 o8 H4 m4 cv cd => ⟨c, ca, cb, _, _, _, _, rfl, m4, cv, cd⟩
    · rintro σ H4 ⟨c, ca, cb, o4, o6, o7, o8, rfl, m4, cv, cd⟩
      refine ⟨_, rfl, _, rfl, [p], p, c, ca, cb, rfl, m4.ok, cv, cd, fun H5 ok5 g5 => ⟨_, rfl, itF ?_⟩⟩
      exact q _ _ _ _ _ _ _ H5 (sqL_gr hS hp ((x1.gr p).trans (m4.gr.trans g5))) ok5.ti
def spLaw (K : Frag) (T : Tbs) : Sp := fun vs H Q _ => ∃ (a : Addr) (ns : List Int), vs = [.ref a] ∧ SqL K H a (ns.map V.int) ∧ ns.length ≤ 63 ∧ TI T H ∧ ∀ H', Q (.bl true) H'
theorem ok_law (F : Fun K "law" "law" sLaw f fd) (D : Dl P w K mg base T CN CS a0 a1 a2 a3 a4 a5 a6 a7 a8 d0 d1 d2 d3 d4 d5 d6 d7 d8) : FnOk P w K mg base CX0 11 f fd ["_law_script"] (spLaw K T) := by
  refine F.ok scLw (fun vs H Q E h => ?_) (fun cdv A outer s H vs Q E hr h => ?_)
  · obtain ⟨_, _, rfl, _⟩ := h
    rfl
  obtain ⟨a, ns, rfl, hS, ln, ti, q⟩ := h
  have nd := scLw.nd
  obtain ⟨lap⟩ := lap_der D hr (f := f) (cdv := cdv) (A := A) (outer := outer) (s := s) (H := H) (E := E)
  refine ⟨_, pss_cons (ps_for PassesOwn.never rfl (pi_range1 rfl D.mr (pa_cons (pe_callB (call_max2 rfl) rfl D.mx PyProof.Rows.boot_max (pa_cons pe_int (pa_cons (pe_callB (call_min2 rfl) rfl D.mn PyProof.Rows.boot_min (pa_cons pe_int (pa_cons (pe_callB call_len_seq rfl D.ml PySem.boot_len (pa_cons (pv 0) pa_nil)) pa_nil))) pa_nil))) pa_nil)) (pg_name (i := 1) nd rfl (Or.inl rfl)) lap) (pss_one (ps_ret pe_bl)), ?_⟩
  refine ⟨_, rfl, a, _, rfl, .inl hS, _, _, rfl, _, _, rfl, ?_⟩
  obtain ⟨mm, em, mm0, mm1⟩ : ∃ m : Int, (if (if (((ns.map V.int).length : Nat) : Int) < 12 then (((ns.map V.int).length : Nat) : Int) else 12) > 2 then (if (((ns.map V.int).length : Nat) : Int) < 12 then (((ns.map V.int).length : Nat) : Int) else 12) else 2) = m ∧ 0 ≤ m ∧ m ≤ 12 := ⟨_, rfl, by split <;> split <;> omega, by split <;> split <;> omega⟩
  rw [em]
  refine ⟨mm, rfl, by omega, by omega, for_range (n := mm.toNat) (fun i σ H' => (∃ o1 o2 o3 o4 o5 o6 o7 o8, σ = [some (.ref a), o1, o2, o3, o4, o5, o6, o7, o8]) ∧ SqL K H' a (ns.map V.int) ∧ TI T H') ⟨⟨_, _, _, _, _, _, _, _, rfl⟩, hS, ti⟩ ?_ (fun σ H' _ => q H')⟩
  rintro i σ H0 hi ⟨⟨o1, o2, o3, o4, o5, o6, o7, o8, rfl⟩, hS0, ti0⟩
  exact rd_lap hS0 ti0 (by omega) (by omega) fun o2 o3 o4 o5 o6 o7 o8 H' s' t' => ⟨⟨_, _, _, _, _, _, _, _, rfl⟩, s', t'⟩
end
end My
set_option Elab.async false
set_option linter.all false
set_option maxRecDepth 100000
set_option maxHeartbeats 4000000
set_option exponentiation.threshold 10000
namespace My
open PySem PySem.W L2
theorem mroC {K : Frag} {D C f : Addr} {nm : Str} (T : ErrC K D nm C f) (b : Value) : mroIn K C b = some ((Value.ref C :: .ref D :: bmV).contains b) := by
  obtain ⟨cd, h1, _, h3⟩ := T.clsIn
  unfold mroIn
  rw [h1, Option.bind_some, h3]
  rfl
theorem kit_cc {K : Frag} {D C f C' f' : Addr} {nm nm' : Str} (T : ErrC K D nm C f) (T' : ErrC K D nm' C' f') (ne : C' ≠ C) (nd : C' ≠ D) : kitOne K (.ref C) (.ref C') = some false := by
  unfold kitOne
  rw [if_neg (by intro e; exact ne (Value.ref.inj (beq_iff_eq.mp e)).symm)]
  show (if ((clsIn K C').isSome && typeIn K (.ref C') == some (.type "type")) = true then subIn K (.ref C) (.ref C') else none) = _
  obtain ⟨cd, h1, _⟩ := T'.clsIn
  rw [h1, T'.type]
  simp only [Option.isSome_some, beq_self_eq_true, Bool.and_self, if_true]
  show mroIn K C _ = _
  rw [mroC T, List.contains_cons, List.contains_cons]
  have n1 : (Value.ref C' == Value.ref C) = false := beq_eq_false_iff_ne.mpr fun z => ne (Value.ref.inj z)
  have n2 : (Value.ref C' == Value.ref D) = false := beq_eq_false_iff_ne.mpr fun z => nd (Value.ref.inj z)
  rw [n1, n2]
  rfl
theorem neD_of {K : Frag} {D C f : Addr} {nm : Str} (T : ErrC K D nm C f) (B : BaseC K D) : C ≠ D := by
  intro e
  obtain ⟨q, N, bs, sn, sub, ab, col, dd, k0, k1, k2, k3, k5, l⟩ := T.cls
  obtain ⟨nm', q', N', bs', sn', sub', ab', col', dd', k0', k1', k2', k3', k5', l', _⟩ := B.cls
  rw [e, l'] at l
  have z := Option.some.inj l
  injection z with _ _ z _
  injection z with z
  injection z with _ _ z
  cases z
theorem ne_names {K : Frag} {D C f C' f' : Addr} {nm nm' : Str} (T : ErrC K D nm C f) (T' : ErrC K D nm' C' f') (h : nm ≠ nm') : C' ≠ C := by
  intro e
  obtain ⟨q, N, bs, sn, sub, ab, col, dd, k0, k1, k2, k3, k5, l⟩ := T.cls
  obtain ⟨q', N', bs', sn', sub', ab', col', dd', k0', k1', k2', k3', k5', l'⟩ := T'.cls
  rw [e, l] at l'
  have z := Option.some.inj l'
  injection z with _ _ z _
  injection z with z
  injection z with z
  exact h z
theorem baseType {K : Frag} {D : Addr} (B : BaseC K D) : typeIn K (.ref D) = some (.type "type") := by
  obtain ⟨nm', q', N', bs', sn', sub', ab', col', dd', k0', k1', k2', k3', k5', l', _⟩ := B.cls
  show (List.lookup D K).map (·.cls) = _
  rw [l']
  rfl
theorem baseCls {K : Frag} {D : Addr} (B : BaseC K D) : ∃ cd, clsIn K D = some cd := by
  obtain ⟨nm', q', N', bs', sn', sub', ab', col', dd', k0', k1', k2', k3', k5', l', _⟩ := B.cls
  unfold clsIn
  rw [l']
  exact ⟨_, rfl⟩
abbrev BP (nm qn : Str) (st : Stmt) (ps : List Str) : Prop := ∀ (kV doc pm : Value) (an : Option Addr) (cdv ct : Value) (us : List Value), us.length = ps.length → bindArgs (PySem.W.fnOf nm qn (defArgs st) (defBody st) (defScope st) .none kV doc pm an cdv ct) ⟨us, []⟩ = pure (ps.zip us)
abbrev BQ (nm qn : Str) (st : Stmt) (ps : List Str) (us : List Value) : Prop := ∀ (kV doc pm : Value) (an : Option Addr) (cdv ct : Value), bindArgs (PySem.W.fnOf nm qn (defArgs st) (defBody st) (defScope st) .none kV doc pm an cdv ct) ⟨us, []⟩ = pure (ps.zip us)
theorem b1 {nm qn a : Str} {st : Stmt} (h : ∀ u, BQ nm qn st [a] [u] := by exact fun _ _ _ _ _ _ _ => rfl) : BP nm qn st [a] := fun _ _ _ _ _ _ us hl => match us, hl with | [_], _ => h _ _ _ _ _ _ _
theorem b2 {nm qn a b : Str} {st : Stmt} (h : ∀ u v, BQ nm qn st [a, b] [u, v] := by exact fun _ _ _ _ _ _ _ _ => rfl) : BP nm qn st [a, b] := fun _ _ _ _ _ _ us hl => match us, hl with | [_, _], _ => h _ _ _ _ _ _ _ _
theorem b3 {nm qn a b c : Str} {st : Stmt} (h : ∀ u v w, BQ nm qn st [a, b, c] [u, v, w] := by exact fun _ _ _ _ _ _ _ _ _ => rfl) : BP nm qn st [a, b, c] := fun _ _ _ _ _ _ us hl => match us, hl with | [_, _, _], _ => h _ _ _ _ _ _ _ _ _
theorem b4 {nm qn a b c d : Str} {st : Stmt} (h : ∀ u v w x, BQ nm qn st [a, b, c, d] [u, v, w, x] := by exact fun _ _ _ _ _ _ _ _ _ _ => rfl) : BP nm qn st [a, b, c, d] := fun _ _ _ _ _ _ us hl => match us, hl with | [_, _, _, _], _ => h _ _ _ _ _ _ _ _ _ _
theorem b5 {nm qn a b c d e : Str} {st : Stmt} (h : ∀ u v w x y, BQ nm qn st [a, b, c, d, e] [u, v, w, x, y] := by exact fun _ _ _ _ _ _ _ _ _ _ _ => rfl) : BP nm qn st [a, b, c, d, e] := fun _ _ _ _ _ _ us hl => match us, hl with | [_, _, _, _, _], _ => h _ _ _ _ _ _ _ _ _ _ _
abbrev OQ (K : Frag) (mg : Str → Option Value) (D : Addr) (nm fl : Str) (C f : Addr) (fd : FuncData) : Prop := BaseC K D → mg "DealError" = some (.ref D) → OneF K mg D nm fl C f fd
theorem oneG {K : Frag} {mg : Str → Option Value} {D C f : Addr} {fd : FuncData} {nm qn fl txt : Str} {st : Stmt} (T : ErrC K D nm C f) (mC : mg nm = some (.ref C)) (F : Fun K "__init__" qn st f fd) (tk : takerIn K C fl = some none) (S : FnScope ["self", fl] ["self", fl] (defScope st)) (hb : BP "__init__" qn st ["self", fl])
    (der : BaseC K D → mg "DealError" = some (.ref D) → ∀ (P : Program) (w : World) (base : Heap) (cdv : Value) (A : Around) (outer : List Env) (s : Shared) (H : Hp) (E : XK), PSs (cxOf CX0 P w K mg base ["self", fl] qn (defScope st) f cdv A outer s H E).nox (defBody st) (tSeq (tDrop (tBI (tVar 0) (tC (.str txt)) C)) (sErr K C (tVar 0) (tVar 1) fl))) : OQ K mg D nm fl C f fd := by
  refine fun B mD => ⟨T, mC, fun P w base => ?_, F.binds hb⟩
  refine F.ok S (fun vs H Q E h => ?_) (fun cdv A outer s H vs Q E hr h => ?_)
  · obtain ⟨x, v, rfl, _⟩ := h
    rfl
  obtain ⟨x, v, rfl, hx, q⟩ := h
  exact ⟨_, der B mD P w base cdv A outer s H E, _, rfl, x, rfl, hx, _, rfl, _, rfl, x, rfl, hx, tk, q⟩
abbrev sIni3 : Stmt := inClass (top 3) 0
theorem of3 {K : Frag} {mg : Str → Option Value} {D C f : Addr} {fd : FuncData} (T : ErrC K D "NoShare" C f) (mC : mg "NoShare" = some (.ref C)) (F : Fun K "__init__" "NoShare.__init__" sIni3 f fd) (tk : takerIn K C "found" = some none) : OQ K mg D "NoShare" "found" C f fd :=
  oneG T mC F tk ⟨rfl, rfl, rfl, by decide +kernel, rfl, by decide +kernel, by decide +kernel⟩ b2 fun B mD _ _ _ _ _ _ _ _ _ => pss_cons (ps_expr (pe_baseInit B T rfl mD (pv 0) pe_str)) (pss_one (ps_err T (pv 0) (pv 1) rfl))
abbrev sIni4 : Stmt := inClass (top 4) 0
theorem of4 {K : Frag} {mg : Str → Option Value} {D C f : Addr} {fd : FuncData} (T : ErrC K D "NoNumber" C f) (mC : mg "NoNumber" = some (.ref C)) (F : Fun K "__init__" "NoNumber.__init__" sIni4 f fd) (tk : takerIn K C "found" = some none) : OQ K mg D "NoNumber" "found" C f fd :=
  oneG T mC F tk ⟨rfl, rfl, rfl, by decide +kernel, rfl, by decide +kernel, by decide +kernel⟩ b2 fun B mD _ _ _ _ _ _ _ _ _ => pss_cons (ps_expr (pe_baseInit B T rfl mD (pv 0) pe_str)) (pss_one (ps_err T (pv 0) (pv 1) rfl))
abbrev sIni5 : Stmt := inClass (top 5) 0
theorem of5 {K : Frag} {mg : Str → Option Value} {D C f : Addr} {fd : FuncData} (T : ErrC K D "NoRule" C f) (mC : mg "NoRule" = some (.ref C)) (F : Fun K "__init__" "NoRule.__init__" sIni5 f fd) (tk : takerIn K C "line" = some none) : OQ K mg D "NoRule" "line" C f fd :=
  oneG T mC F tk ⟨rfl, rfl, rfl, by decide +kernel, rfl, by decide +kernel, by decide +kernel⟩ b2 fun B mD _ _ _ _ _ _ _ _ _ => pss_cons (ps_expr (pe_baseInit B T rfl mD (pv 0) pe_str)) (pss_one (ps_err T (pv 0) (pv 1) rfl))
theorem fld_of {K : Frag} {D C f : Addr} {nm fld : Str} (T : ErrC K D nm C f) (nf : findIn K (.ref C) fld = some none) : FldOk K C fld := by
  obtain ⟨cd, h1, h2, h3⟩ := T.clsIn
  refine ⟨T.it, ?_, nf⟩
  unfold hasDictIn
  rw [h1]
  exact h2
theorem cat_base {K : Frag} {D : Addr} (B : BaseC K D) : Catch K D := ⟨baseCls B, baseType B, B.it.mb⟩
theorem mro_base {K : Frag} {D C f : Addr} {nm : Str} (T : ErrC K D nm C f) : mroIn K C (.ref D) = some true := by
  rw [mroC T, List.contains_cons, List.contains_cons, beq_self_eq_true, Bool.true_or, Bool.or_true]
theorem kit_no {K : Frag} {D C f C' f' : Addr} {nm nm' : Str} (B : BaseC K D) (T : ErrC K D nm C f) (T' : ErrC K D nm' C' f') (h : nm ≠ nm') : kitOne K (.ref C) (.ref C') = some false := kit_cc T T' (ne_names T T' h) (neD_of T' B)
theorem kit_any0 {K : Frag} {t : Value} : kitAny K t [] = some false := rfl
theorem kit_anyC {K : Frag} {t a : Value} {as : List Value} (h1 : kitOne K t a = some false) (h2 : kitAny K t as = some false) : kitAny K t (a :: as) = some false := by
  simp [kitAny, h1, h2]
theorem kit_tyM {K : Frag} {C : Addr} {n : String} {b : Bool} (hm : kitMeta n = true) (h : mroIn K C (.type n) = some b) : kitOne K (.ref C) (.type n) = some b := by
  unfold kitOne
  rw [if_neg (by intro e; cases beq_iff_eq.mp e)]
  show (if kitMeta n = true then subIn K (.ref C) (.type n) else none) = _
  rw [if_pos hm]
  exact h
theorem kit_mro {K : Frag} {C C' : Addr} {b : Bool} (hc : isClsIn K C' = true) (ht : typeIn K (.ref C') = some (.type "type")) (hs : mroIn K C' (.ref C') = some true) (hm : mroIn K C (.ref C') = some b) : kitOne K (.ref C) (.ref C') = some b := by
  unfold kitOne
  by_cases e : C = C'
  · subst e
    rw [hs] at hm
    cases hm
    rw [if_pos (beq_self_eq_true _)]
  · rw [if_neg (by intro z; exact e (Value.ref.inj (beq_iff_eq.mp z)))]
    show (if ((clsIn K C').isSome && typeIn K (.ref C') == some (.type "type")) = true then subIn K (.ref C) (.ref C') else none) = _
    have hc' : (clsIn K C').isSome = true := hc
    rw [hc', ht]
    simp only [beq_self_eq_true, Bool.and_self, if_true]
    exact hm
structure Dm (K : Frag) (nm qual : Str) (st : Stmt) (ps : List Str) (f : Addr) (fd : FuncData) : Prop where
  fn : Fun K nm qual st f fd
  bi : Binds K fd ps []
  kp : keepIn K (.ref f) = true
  isf : isFn K (.ref f) = true
end My
set_option Elab.async false
set_option linter.all false
set_option maxRecDepth 100000
set_option maxHeartbeats 4000000
set_option exponentiation.threshold 10000
namespace My
open PySem PySem.W L2
def keyStr : Value → Bool
  | .str _ _ => true
  | _ => false
theorem strKeys_of {es : Array DictEntry} (h : (es.toList.all fun e => keyStr e.key) = true) : StrKeys es := fun e he => by
  have z := List.all_eq_true.mp h e (by simpa using he)
  cases k : e.key with
  | str n t => exact ⟨n, t, rfl⟩
  | _ => rw [k] at z; cases z
theorem mro_of {K : Frag} {C : Addr} {cd : ClassData} {b : Value} (h : clsIn K C = some cd) (hb : cd.mro.isEmpty = false) (hc : cd.mro.contains b = true) : mroIn K C b = some true := by
  unfold mroIn
  rw [h, Option.bind_some, hb, hc]
  rfl
theorem base_mk {K : Frag} {D N : Addr} {nm q : Str} {bs : List Value} {sn : List Str} {sub : List Value} {ab : Bool} {col : Option Bool} {dd : Option Addr} {k0 k1 k2 k3 k5 : Option Value}
    {cN : Value} {dN : Option Addr} {es : Array DictEntry} {ep : Nat} {sN : Array (Option Value)}
    (lD : K.lookup D = some (excClassObj nm q D N bs bmV true sn sub ab col dd k0 k1 k2 k3 k5 "ValueError.__new__"))
    (lN : K.lookup N = some ⟨cN, dN, .dict es ep, sN⟩) (sk : StrKeys es) (ni : nsFind es "__init__" = none)
    (ga : specialIn K (.ref D) "__getattribute__" = some (some (.builtin "type.__getattribute__"))) (rd : readsIn K D (.type "type") = true)
    (ini : findCls K (.ref D) (.type "type") "__init__" = some (.val (.builtin "ValueError.__init__"))) (fi : findIn K (.ref D) "__init__" = some (some (.builtin "ValueError.__init__"))) (kp : keepIn K (.ref D) = true)
    (gb : findIn K (.ref D) "__getattribute__" = some (some (.builtin bga))) (hk : findIn K (.ref D) "__getattr__" = some none) (ca : findIn K (.ref D) "__class__" = some (some (.builtin "object.__class__"))) : BaseC K D := by
  have hc : clsIn K D = some { name := nm, bases := bs, mro := .ref D :: bmV, ns := N, qualname := q, hasDict := true, slotNames := sn, subclasses := sub, abstract := ab, collection := col, hasDel := false } := by
    unfold clsIn
    rw [lD]
  refine ⟨⟨nm, q, N, bs, sn, sub, ab, col, dd, k0, k1, k2, k3, k5, lD, _, es, ep, lN, rfl, sk, ni⟩, ga, rd, ini, fi, kp, ⟨by rw [hc]; rfl, gb, hk, mro_of hc rfl ?_, mro_of hc rfl ?_, ca⟩⟩
  · show (Value.ref D :: bmV).contains (.type "BaseException") = true
    rw [List.contains_cons]
    rfl
  · show (Value.ref D :: bmV).contains (.type "object") = true
    rw [List.contains_cons]
    rfl
theorem err_mk {K : Frag} {D C N f : Addr} (nm : Str)
    {q : Str} {bs : List Value} {sn : List Str} {sub : List Value} {ab : Bool} {col : Option Bool} {dd : Option Addr} {k0 k1 k2 k3 k5 : Option Value}
    (lC : K.lookup C = some (excClassObj nm q C N bs (.ref D :: bmV) true sn sub ab col dd k0 k1 k2 k3 k5 "ValueError.__new__"))
    (ini : findIn K (.ref C) "__init__" = some (some (.ref f))) (fn : typeIn K (.ref f) = some (.type "function")) (kp : keepIn K (.ref C) = true)
    (sa : findIn K (.ref C) "__setattr__" = some (some (.builtin "object.__setattr__"))) (ga : findIn K (.ref C) "__getattribute__" = some (some (.builtin bga))) (hk : findIn K (.ref C) "__getattr__" = some none)
    (ca : findIn K (.ref C) "__class__" = some (some (.builtin "object.__class__"))) : ErrC K D nm C f := by
  have hc : clsIn K C = some { name := nm, bases := bs, mro := .ref C :: .ref D :: bmV, ns := N, qualname := q, hasDict := true, slotNames := sn, subclasses := sub, abstract := ab, collection := col, hasDel := false } := by
    unfold clsIn
    rw [lC]
  refine ⟨⟨q, N, bs, sn, sub, ab, col, dd, k0, k1, k2, k3, k5, lC⟩, ini, fn, kp, sa, ⟨by rw [hc]; rfl, ga, hk, mro_of hc rfl ?_, mro_of hc rfl ?_, ca⟩⟩
  · show (Value.ref C :: .ref D :: bmV).contains (.type "BaseException") = true
    rw [List.contains_cons, List.contains_cons]
    rfl
  · show (Value.ref C :: .ref D :: bmV).contains (.type "object") = true
    rw [List.contains_cons, List.contains_cons]
    rfl
structure Dn (K : Frag) (mg : Str → Option Value) (nm : Str) (st : Stmt) (ps : List Str) (f : Addr) (fd : FuncData) : Prop where
  fn : Fun K nm nm st f fd
  bi : Binds K fd ps []
  kp : keepIn K (.ref f) = true
  mg : mg nm = some (.ref f)
section
variable {P : Program} {w : World} {K : Frag} {mg : Str → Option Value} {base : Heap}
theorem Dn.df {nm : Str} {st : Stmt} {ps : List Str} {f : Addr} {fd : FuncData} (d : Dn K mg nm st ps f fd) {cx : CXT} {k : Nat} {sp : Sp} (h : FnOk P w K mg base cx k f fd ps sp) : Df P w K mg base cx k nm ps sp f fd := ⟨h, d.bi, d.kp, d.mg⟩
end
def tri (a b c : Addr) : Nat → Addr
  | 0 => a
  | 1 => b
  | _ => c
theorem kit_self {K : Frag} {v : Value} : kitOne K v v = some true := by
  unfold kitOne
  rw [if_pos (beq_self_eq_true _)]
theorem chd_of {K : Frag} {h h2 : Heap} {c pl : Addr} {od : Option Addr} {vs : Array Value} {sl : Array (Option Value)} (X : K.In h) (X2 : K.In h2) (lc : K.lookup c = some ⟨.type "code", od, .fields vs, sl⟩) (v11 : vs[11]? = some (.ref pl)) (v18 : ∃ file tf, vs.getD 18 .none = .str file tf) (v7 : ∃ i t, vs.getD 7 .none = .int i t) (v9 : ∃ b, vs.getD 9 .none = .bool b) (v10 : ∃ i t, vs.getD 10 .none = .int i t) (tb : h.get? pl = some (tabObj #[])) : CodeHd h2 c pl := by
  obtain ⟨f1, f2, e18⟩ := v18
  obtain ⟨i1, i2, e7⟩ := v7
  obtain ⟨b1, e9⟩ := v9
  obtain ⟨j1, j2, e10⟩ := v10
  refine ⟨_, vs, f1, f2, i1, i2, b1, j1, j2, X2 _ _ lc, rfl, rfl, v11, ?_, e18, e7, e9, e10, fun z => ?_⟩
  · rw [Array.getD_eq_getD_getElem?, v11]
    rfl
  · have y := X _ _ lc
    rw [z, tb] at y
    cases y
abbrev BPm (nm : Str) (st : Stmt) (ps : List Str) : Prop := ∀ (kV doc pm : Value) (an : Option Addr) (cdv ct : Value) (us : List Value), us.length = ps.length → bindArgs (PySem.W.fnOf nm nm (defArgs st) (defBody st) (defScope st) .none kV doc pm an cdv ct) ⟨us, []⟩ = pure (ps.zip us)
theorem mk_df {P : Program} {w : World} {K : Frag} {mg : Str → Option Value} {base : Heap} {nm : Str} {st : Stmt} {ps : List Str} {g c : Addr} {oc kV dc pm ct : Value} {od an : Option Addr} {sl : Array (Option Value)} {cx : CXT} {k : Nat} {sp : Sp} (lk : K.lookup g = some ⟨oc, od, .func (fnOf nm nm (defArgs st) (defBody st) (defScope st) .none kV dc pm an (.ref c) ct), sl⟩) (kp : keepIn K (.ref g) = true) (m : mg nm = some (.ref g)) (hb : BPm nm st ps) (h : FnOk P w K mg base cx k g (fnOf nm nm (defArgs st) (defBody st) (defScope st) .none kV dc pm an (.ref c) ct) ps sp) : Df P w K mg base cx k nm ps sp g (fnOf nm nm (defArgs st) (defBody st) (defScope st) .none kV dc pm an (.ref c) ct) := ⟨h, .all (hb _ _ _ _ _ _), kp, m⟩
theorem bk0 : BPm "maker_by" sMB ["make"] := fun _ _ _ _ _ _ us hl => match us, hl with | [_], _ => rfl
theorem bk1 : BPm "split_maker" sM0 [] := fun _ _ _ _ _ _ us hl => match us, hl with | [], _ => rfl
theorem bk2 : BPm "pairs_maker" sM1 ["coin"] := fun _ _ _ _ _ _ us hl => match us, hl with | [_], _ => rfl
theorem bk3 : BPm "coins_maker" sM2 ["coin", "far"] := fun _ _ _ _ _ _ us hl => match us, hl with | [_, _], _ => rfl
structure Cf (K : Frag) (C : Addr) : Prop where
  cls : Cls K C
  mks : makesIn K C = true
  kp : keepIn K (.ref C) = true
  ca : findIn K (.ref C) "__class__" = some (some (.builtin "object.__class__"))
  hm : mroIn K C (.type "object") = some true
  icl : isClsIn K C = true
  tyl : typeIn K (.ref C) = some (.type "type")
theorem cf_mk {K : Frag} {C : Addr} (h1 : plainGet K C Str.empty = true) (h2 : hasDictIn K C = true) (h3 : plainOver K C = true) (h4 : findIn K (.ref C) "__setattr__" = some (some (.builtin "object.__setattr__"))) (h5 : makesIn K C = true) (h6 : keepIn K (.ref C) = true) (h7 : findIn K (.ref C) "__class__" = some (some (.builtin "object.__class__"))) (h8 : mroIn K C (.type "object") = some true) (h9 : isClsIn K C = true) (h0 : typeIn K (.ref C) = some (.type "type")) : Cf K C := ⟨⟨h1, h2, h3, h4⟩, h5, h6, h7, h8, h9, h0⟩
def NoL (K : Frag) (C : Addr) : List Str → Prop
  | [] => True
  | f :: l => findIn K (.ref C) f = some none ∧ NoL K C l
theorem noS {K : Frag} {C : Addr} {f : Str} {l : List Str} (h : findIn K (.ref C) f = some none) (t : NoL K C l) : NoL K C (f :: l) := ⟨h, t⟩
theorem NoL.all {K : Frag} {C : Addr} : ∀ {l : List Str}, NoL K C l → ∀ f ∈ l, NoAttr K C f
  | _ :: _, h, f, hf => by
    rcases List.mem_cons.mp hf with rfl | hf
    · exact h.1
    · exact h.2.all f hf
def Mrs (K : Frag) (C : Addr) : List (Value × Bool) → Prop
  | [] => True
  | x :: l => mroIn K C x.1 = some x.2 ∧ Mrs K C l
theorem mrS {K : Frag} {C : Addr} {v : Value} {b : Bool} {l : List (Value × Bool)} (h : mroIn K C v = some b) (t : Mrs K C l) : Mrs K C ((v, b) :: l) := ⟨h, t⟩
theorem dn_of {nm : Str} {st : Stmt} {ps : List Str} (hb : BP nm nm st ps) {K : Frag} {h : Heap} {mg : Str → Option Value} {g : Addr} {oc kV dc pm cd ct : Value} {od an : Option Addr} {sl : Array (Option Value)} (X : K.In h) (G : h.Ns mainGlobals mg)
    (a : nsIn K mainGlobals nm = some (some (.ref g))) (l : K.lookup g = some ⟨oc, od, .func (fnOf nm nm (defArgs st) (defBody st) (defScope st) .none kV dc pm an cd ct), sl⟩) (c : codeIn K cd nm = true) (k : keepIn K (.ref g) = true) :
    Dn K mg nm st ps g (fnOf nm nm (defArgs st) (defBody st) (defScope st) .none kV dc pm an cd ct) := by
  have F := fun_mk (st := st) l c k
  exact ⟨F, F.binds hb, k, mg_of X G a⟩
theorem dm_of {nm qn : Str} {st : Stmt} {ps : List Str} (hb : BP nm qn st ps) {K : Frag} {g : Addr} {oc kV dc pm cd ct : Value} {od an : Option Addr} {sl : Array (Option Value)}
    (l : K.lookup g = some ⟨oc, od, .func (fnOf nm qn (defArgs st) (defBody st) (defScope st) .none kV dc pm an cd ct), sl⟩) (c : codeIn K cd qn = true) (k : keepIn K (.ref g) = true) (f : isFn K (.ref g) = true) :
    Dm K nm qn st ps g (fnOf nm qn (defArgs st) (defBody st) (defScope st) .none kV dc pm an cd ct) := by
  have F := fun_mk (st := st) l c k
  exact ⟨F, F.binds hb, k, f⟩
abbrev tyL : List (Value × Bool) := [(.type "tuple", false), (.type "list", false), (.type "int", false), (.type "bool", false)]
theorem all_mk {l : OpenLaw} {w : World} {K : Frag} {h : Heap} {mg : Str → Option Value} {fa D CE3 fE3 CE4 fE4 CE5 fE5 g0 g1 g2 g3 g4 g5 g6 g7 g8 g9 g10 g11 g12 g13 g14 g15 g16 g17 g18 m0 m1 m2 m3 m4 m5 R C0 C1 C2 : Addr} {d0 d1 d2 d3 d4 d5 d6 d7 d8 d9 d10 d11 d12 d13 d14 d15 d16 d17 d18 x0 x1 x2 x3 x4 x5 xE3 xE4 xE5 : FuncData} (X : K.In h) (G : h.Ns mainGlobals mg) (hfa : mg "law" = some (.ref fa))
    {t_MOST_FOLK t_MOST_PAIRS t_MOST_FAR t_MOST_BOTTOM : Tok}
    {ts : List Addr} {mk0 mc0 pl0 mk1 mc1 pl1 mk2 mc2 pl2 mk3 mc3 pl3 : Addr} {moc0 mkV0 mdc0 mpm0 mct0 moc1 mkV1 mdc1 mpm1 mct1 moc2 mkV2 mdc2 mpm2 mct2 moc3 mkV3 mdc3 mpm3 mct3 : Value} {mod0 man0 modc0 mod1 man1 modc1 mod2 man2 modc2 mod3 man3 modc3 : Option Addr} {msl0 mslc0 msl1 mslc1 msl2 mslc2 msl3 mslc3 : Array (Option Value)} {mvs0 mvs1 mvs2 mvs3 : Array Value}
    (B : BaseC K D) (q3 : OQ K mg D "NoShare" "found" CE3 fE3 xE3) (q4 : OQ K mg D "NoNumber" "found" CE4 fE4 xE4) (q5 : OQ K mg D "NoRule" "line" CE5 fE5 xE5)
    (aD : nsIn K mainGlobals "DealError" = some (some (.ref D)))
    (nf3 : findIn K (.ref CE3) "found" = some none)
    (nf4 : findIn K (.ref CE4) "found" = some none)
    (ns_R : nsIn K mainGlobals "Rule" = some (some (.ref R)))
    (sga_R : specialIn K (.ref R) "__getattribute__" = some (some (.builtin "type.__getattribute__")))
    (srd_R : readsIn K R (.type "type") = true)
    (sat_R_init : findCls K (.ref R) (.type "type") "__init__" = some (.val (.ref m0)))
    (ic_R : isClsIn K R = true)
    (ty_R : typeIn K (.ref R) = some (.type "type"))
    (ss_R : mroIn K R (.ref R) = some true)
    (nc_C0 : nsIn K mainGlobals "Split" = some (some (.ref C0)))
    (cf_C0 : Cf K C0)
    (nl_C0 : NoL K C0 fNames)
    (fi_C0_init : findIn K (.ref C0) "__init__" = some (some (.ref m3)))
    (fi_C0_folk : findIn K (.ref C0) "folk" = some (some (.ref m1)))
    (fi_C0_told : findIn K (.ref C0) "told" = some (some (.ref m2)))
    (mr_C0 : Mrs K C0 [(.ref C0, true), (.ref C1, false), (.ref C2, false), (.ref R, true)])
    (mt_C0 : Mrs K C0 tyL)
    (nc_C1 : nsIn K mainGlobals "Pairs" = some (some (.ref C1)))
    (cf_C1 : Cf K C1)
    (nl_C1 : NoL K C1 fNames)
    (fi_C1_init : findIn K (.ref C1) "__init__" = some (some (.ref m4)))
    (fi_C1_folk : findIn K (.ref C1) "folk" = some (some (.ref m1)))
    (fi_C1_told : findIn K (.ref C1) "told" = some (some (.ref m2)))
    (mr_C1 : Mrs K C1 [(.ref C0, false), (.ref C1, true), (.ref C2, false), (.ref R, true)])
    (mt_C1 : Mrs K C1 tyL)
    (nc_C2 : nsIn K mainGlobals "Coins" = some (some (.ref C2)))
    (cf_C2 : Cf K C2)
    (nl_C2 : NoL K C2 fNames)
    (fi_C2_init : findIn K (.ref C2) "__init__" = some (some (.ref m5)))
    (fi_C2_folk : findIn K (.ref C2) "folk" = some (some (.ref m1)))
    (fi_C2_told : findIn K (.ref C2) "told" = some (some (.ref m2)))
    (mr_C2 : Mrs K C2 [(.ref C0, false), (.ref C1, false), (.ref C2, true), (.ref R, true)])
    (mt_C2 : Mrs K C2 tyL)
    (i_MOST_FOLK : nsIn K mainGlobals "MOST_FOLK" = some (some (.int (20) t_MOST_FOLK)))
    (i_MOST_PAIRS : nsIn K mainGlobals "MOST_PAIRS" = some (some (.int (10) t_MOST_PAIRS)))
    (i_MOST_FAR : nsIn K mainGlobals "MOST_FAR" = some (some (.int (20) t_MOST_FAR)))
    (i_MOST_BOTTOM : nsIn K mainGlobals "MOST_BOTTOM" = some (some (.int (100) t_MOST_BOTTOM)))
    (gt : specialIn K (.builtin "object.__class__") "__get__" = some (some (.builtin "getset_descriptor.__get__")))
    (tkT : takesIn K (.builtin "object.__class__") = some true)
    (MA0 : nsIn K mainGlobals "maker_by" = some (some (.ref mk0)))
    (ML0 : K.lookup mk0 = some ⟨moc0, mod0, .func (fnOf "maker_by" "maker_by" (defArgs sMB) (defBody sMB) (defScope sMB) .none mkV0 mdc0 mpm0 man0 (.ref mc0) mct0), msl0⟩)
    (MC0 : codeIn K (.ref mc0) "maker_by" = true)
    (MK0 : keepIn K (.ref mk0) = true)
    (MD0 : K.lookup mc0 = some ⟨.type "code", modc0, .fields mvs0, mslc0⟩)
    (ME0 : mvs0[11]? = some (.ref pl0))
    (MF0 : ∃ file tf, mvs0.getD 18 .none = .str file tf)
    (MG0 : ∃ i t, mvs0.getD 7 .none = .int i t)
    (MH0 : ∃ b, mvs0.getD 9 .none = .bool b)
    (MI0 : ∃ i t, mvs0.getD 10 .none = .int i t)
    (MA1 : nsIn K mainGlobals "split_maker" = some (some (.ref mk1)))
    (ML1 : K.lookup mk1 = some ⟨moc1, mod1, .func (fnOf "split_maker" "split_maker" (defArgs sM0) (defBody sM0) (defScope sM0) .none mkV1 mdc1 mpm1 man1 (.ref mc1) mct1), msl1⟩)
    (MC1 : codeIn K (.ref mc1) "split_maker" = true)
    (MK1 : keepIn K (.ref mk1) = true)
    (MD1 : K.lookup mc1 = some ⟨.type "code", modc1, .fields mvs1, mslc1⟩)
    (ME1 : mvs1[11]? = some (.ref pl1))
    (MF1 : ∃ file tf, mvs1.getD 18 .none = .str file tf)
    (MG1 : ∃ i t, mvs1.getD 7 .none = .int i t)
    (MH1 : ∃ b, mvs1.getD 9 .none = .bool b)
    (MI1 : ∃ i t, mvs1.getD 10 .none = .int i t)
    (MA2 : nsIn K mainGlobals "pairs_maker" = some (some (.ref mk2)))
    (ML2 : K.lookup mk2 = some ⟨moc2, mod2, .func (fnOf "pairs_maker" "pairs_maker" (defArgs sM1) (defBody sM1) (defScope sM1) .none mkV2 mdc2 mpm2 man2 (.ref mc2) mct2), msl2⟩)
    (MC2 : codeIn K (.ref mc2) "pairs_maker" = true)
    (MK2 : keepIn K (.ref mk2) = true)
    (MD2 : K.lookup mc2 = some ⟨.type "code", modc2, .fields mvs2, mslc2⟩)
    (ME2 : mvs2[11]? = some (.ref pl2))
    (MF2 : ∃ file tf, mvs2.getD 18 .none = .str file tf)
    (MG2 : ∃ i t, mvs2.getD 7 .none = .int i t)
    (MH2 : ∃ b, mvs2.getD 9 .none = .bool b)
    (MI2 : ∃ i t, mvs2.getD 10 .none = .int i t)
    (MA3 : nsIn K mainGlobals "coins_maker" = some (some (.ref mk3)))
    (ML3 : K.lookup mk3 = some ⟨moc3, mod3, .func (fnOf "coins_maker" "coins_maker" (defArgs sM2) (defBody sM2) (defScope sM2) .none mkV3 mdc3 mpm3 man3 (.ref mc3) mct3), msl3⟩)
    (MC3 : codeIn K (.ref mc3) "coins_maker" = true)
    (MK3 : keepIn K (.ref mk3) = true)
    (MD3 : K.lookup mc3 = some ⟨.type "code", modc3, .fields mvs3, mslc3⟩)
    (ME3 : mvs3[11]? = some (.ref pl3))
    (MF3 : ∃ file tf, mvs3.getD 18 .none = .str file tf)
    (MG3 : ∃ i t, mvs3.getD 7 .none = .int i t)
    (MH3 : ∃ b, mvs3.getD 9 .none = .bool b)
    (MI3 : ∃ i t, mvs3.getD 10 .none = .int i t)
    (z_isinstance : nsIn K mainGlobals "isinstance" = some none)
    (z_int : nsIn K mainGlobals "int" = some none)
    (z_bool : nsIn K mainGlobals "bool" = some none)
    (z_len : nsIn K mainGlobals "len" = some none)
    (z_range : nsIn K mainGlobals "range" = some none)
    (z_tuple : nsIn K mainGlobals "tuple" = some none)
    (z_list : nsIn K mainGlobals "list" = some none)
    (z_max : nsIn K mainGlobals "max" = some none)
    (z_min : nsIn K mainGlobals "min" = some none)
    (e0 : Dn K mg "is_number" sIsNum ["thing"] g0 d0)
    (e1 : Dn K mg "is_whole" sIsWh ["thing", "low", "high"] g1 d1)
    (e2 : Dn K mg "greatest_common" sGcd ["one", "other"] g2 d2)
    (e3 : Dn K mg "is_part" sPart ["top", "bottom"] g3 d3)
    (e4 : Dn K mg "is_share" sISh ["thing"] g4 d4)
    (e5 : Dn K mg "need_number" sNN ["thing", "low", "high"] g5 d5)
    (e6 : Dn K mg "need_coin" sNC ["thing"] g6 d6)
    (e7 : Dn K mg "one_part" sOP ["folk"] g7 d7)
    (e8 : Dn K mg "_law_cell" sCell ["_law_script", "_law_k"] g8 d8)
    (e9 : Dn K mg "_law_mix" sMix ["_law_cell_here", "_law_k"] g9 d9)
    (e10 : Dn K mg "_law_begun" sBeg ["_law_cell_here"] g10 d10)
    (e11 : Dn K mg "_law_pull" sPull ["_law_state", "_law_many"] g11 d11)
    (e12 : Dn K mg "_law_share" sLSh ["_law_top", "_law_bottom"] g12 d12)
    (e13 : Dn K mg "_law_coin" sCo ["_law_state"] g13 d13)
    (e14 : Dn K mg "_law_due" sDu ["_law_word", "_law_coin_here", "_law_far", "_law_folk"] g14 d14)
    (e15 : Dn K mg "_law_right" sRt ["_law_maker", "_law_word", "_law_coin_here", "_law_far", "_law_folk"] g15 d15)
    (e16 : Dn K mg "_law_refusal" sRl ["_law_coin_here", "_law_far", "_law_paired"] g16 d16)
    (e17 : Dn K mg "_law_refused" sRd ["_law_state", "_law_coin_here"] g17 d17)
    (e18 : Dn K mg "law" sLaw ["_law_script"] g18 d18)
    (y0 : Dm K "__init__" "Rule.__init__" sRuI ["self", "size", "first_state", "mark", "parts"] m0 x0)
    (y1 : Dm K "folk" "Rule.folk" sRuF ["self"] m1 x1)
    (y2 : Dm K "told" "Rule.told" sRuT ["self"] m2 x2)
    (y3 : Dm K "__init__" "Split.__init__" sSpI ["self", "folk", "ones"] m3 x3)
    (y4 : Dm K "__init__" "Pairs.__init__" sPaI ["self", "pairs", "coin"] m4 x4)
    (y5 : Dm K "__init__" "Coins.__init__" sCoI ["self", "folk", "coin", "far"] m5 x5)
    (hb : ∀ (s : Shared) (v : Value), BindsTo s d18 ⟨[v], []⟩ [("_law_script", v)])
    (tabs : ∀ b ∈ ts, h.get? b = some (tabObj #[])) (tq0 : pl0 ∈ ts) (tq1 : pl1 ∈ ts) (tq2 : pl2 ∈ ts) (tq3 : pl3 ∈ ts) (ty0 : K.lookup pl0 = none) (ty1 : K.lookup pl1 = none) (ty2 : K.lookup pl2 = none) (ty3 : K.lookup pl3 = none) (nd : [pl0, pl1, pl2, pl3].Nodup)
    : ∃ (fd : FuncData) (T : Tbs) (K2 : Frag), (∀ (s : Shared) (v : Value), BindsTo s fd ⟨[v], []⟩ [("_law_script", v)]) ∧ K2.In h ∧ (∀ b ∈ pls T, K2.lookup b = none) ∧ TbH T h ∧ ∀ base : Heap, K2.In base → base.Ns mainGlobals mg → (∀ b ∈ pls T, base.BuiltinsAt mg b) → FnOk l.prog w K2 mg base CX0 11 fa fd ["_law_script"] (spLaw K2 T) := by
  have e := hfa.symm.trans e18.mg
  cases e
  have hTb : TbH [(pl0, [(posL lamM, qM)]), (pl1, [(posL lam0, q0)]), (pl2, [(posL lam1, q1)]), (pl3, [(posL lam2, q2)])] h := by
    refine ⟨fun e he => ?_, fun e he => ?_, nd⟩
    · simp only [List.mem_cons, List.not_mem_nil, or_false] at he
      rcases he with rfl | rfl | rfl | rfl
      · exact tabs _ tq0
      · exact tabs _ tq1
      · exact tabs _ tq2
      · exact tabs _ tq3
    · simp only [List.mem_cons, List.not_mem_nil, or_false] at he
      rcases he with rfl | rfl | rfl | rfl
      · exact ⟨mc0, _, mvs0, X _ _ MD0, rfl, rfl, ME0⟩
      · exact ⟨mc1, _, mvs1, X _ _ MD1, rfl, rfl, ME1⟩
      · exact ⟨mc2, _, mvs2, X _ _ MD2, rfl, rfl, ME2⟩
      · exact ⟨mc3, _, mvs3, X _ _ MD3, rfl, rfl, ME3⟩
  have hNo : ∀ b ∈ pls [(pl0, [(posL lamM, qM)]), (pl1, [(posL lam0, q0)]), (pl2, [(posL lam1, q1)]), (pl3, [(posL lam2, q2)])], K.lookup b = none := fun b hm => by
    simp only [pls, List.map_cons, List.map_nil, List.mem_cons, List.not_mem_nil, or_false] at hm
    rcases hm with rfl | rfl | rfl | rfl
    · exact ty0
    · exact ty1
    · exact ty2
    · exact ty3
  refine ⟨_, _, K, hb, X, hNo, hTb, fun base _ _ hba => ?_⟩
  have m_isinstance := mg_none_of X G z_isinstance
  have m_int := mg_none_of X G z_int
  have m_bool := mg_none_of X G z_bool
  have m_len := mg_none_of X G z_len
  have m_range := mg_none_of X G z_range
  have m_tuple := mg_none_of X G z_tuple
  have m_list := mg_none_of X G z_list
  have m_max := mg_none_of X G z_max
  have m_min := mg_none_of X G z_min
  have T : IsT K := ⟨gt, tkT⟩
  have mD := mg_of X G aD
  have o3 := q3 B mD
  have o4 := q4 B mD
  have o5 := q5 B mD
  have n_MOST_FOLK := mg_of X G i_MOST_FOLK
  have n_MOST_PAIRS := mg_of X G i_MOST_PAIRS
  have n_MOST_FAR := mg_of X G i_MOST_FAR
  have n_MOST_BOTTOM := mg_of X G i_MOST_BOTTOM
  have mB_R := mg_of X G ns_R
  have CF_R_init : ClsFn K R "__init__" m0 := ⟨sga_R, srd_R, sat_R_init, y0.kp⟩
  have mC_C0 := mg_of X G nc_C0
  have mk_C0 : Mk K C0 m3 := ⟨cf_C0.mks, fi_C0_init, y3.isf, cf_C0.kp⟩
  have mC_C1 := mg_of X G nc_C1
  have mk_C1 : Mk K C1 m4 := ⟨cf_C1.mks, fi_C1_init, y4.isf, cf_C1.kp⟩
  have mC_C2 := mg_of X G nc_C2
  have mk_C2 : Mk K C2 m5 := ⟨cf_C2.mks, fi_C2_init, y5.isf, cf_C2.kp⟩
  have FM0 : FunM K mg base "maker_by" "maker_by" sMB mk0 _ mc0 pl0 := ⟨⟨_, _, _, _, _, _, _, _, rfl, ML0, MC0⟩, ⟨fun h2 X2 => chd_of X X2 MD0 ME0 MF0 MG0 MH0 MI0 (tabs _ tq0), hba _ (by simp [pls])⟩⟩
  have FM1 : FunM K mg base "split_maker" "split_maker" sM0 mk1 _ mc1 pl1 := ⟨⟨_, _, _, _, _, _, _, _, rfl, ML1, MC1⟩, ⟨fun h2 X2 => chd_of X X2 MD1 ME1 MF1 MG1 MH1 MI1 (tabs _ tq1), hba _ (by simp [pls])⟩⟩
  have FM2 : FunM K mg base "pairs_maker" "pairs_maker" sM1 mk2 _ mc2 pl2 := ⟨⟨_, _, _, _, _, _, _, _, rfl, ML2, MC2⟩, ⟨fun h2 X2 => chd_of X X2 MD2 ME2 MF2 MG2 MH2 MI2 (tabs _ tq2), hba _ (by simp [pls])⟩⟩
  have FM3 : FunM K mg base "coins_maker" "coins_maker" sM2 mk3 _ mc3 pl3 := ⟨⟨_, _, _, _, _, _, _, _, rfl, ML3, MC3⟩, ⟨fun h2 X2 => chd_of X X2 MD3 ME3 MF3 MG3 MH3 MI3 (tabs _ tq3), hba _ (by simp [pls])⟩⟩
  have GN_ := ok_isnum (P := l.prog) (w := w) (mg := mg) (base := base) T e0.fn m_isinstance m_int m_bool
  have GN := (e0.df GN_)
  have GW_ := ok_iswh e1.fn GN_ e0.bi e0.kp e0.mg
  have GW := (e1.df GW_)
  have GG_ := ok_gcd (P := l.prog) (w := w) (mg := mg) (base := base) e2.fn
  have GG := (e2.df GG_)
  have GPa_ := ok_part e3.fn GN_ e0.bi e0.kp e0.mg GW_ e1.bi e1.kp e1.mg
  have GPa := (e3.df GPa_)
  have GSh_ := ok_ish T e4.fn GPa GG m_isinstance m_tuple m_len
  have GSh := (e4.df GSh_)
  have GM_ := ok_nn e5.fn B o4 GW
  have GM := (e5.df GM_)
  have GC_ := ok_nc e6.fn B o3 GW GSh n_MOST_BOTTOM
  have GC := (e6.df GC_)
  have GP_ := ok_op (P := l.prog) (w := w) (mg := mg) (base := base) e7.fn m_tuple m_range
  have GP := (e7.df GP_)
  have Z : KR K (tri C0 C1 C2) R := {
    cls := fun i hi => match i, hi with
      | 0, _ => cf_C0.cls
      | 1, _ => cf_C1.cls
      | 2, _ => cf_C2.cls
    no := fun i hi => match i, hi with
      | 0, _ => nl_C0.all
      | 1, _ => nl_C1.all
      | 2, _ => nl_C2.all
    ha := fun i hi => match i, hi with
      | 0, _ => cf_C0.ca
      | 1, _ => cf_C1.ca
      | 2, _ => cf_C2.ca
    hn := gt
    htk := tkT
    hm := fun i hi => match i, hi with
      | 0, _ => cf_C0.hm
      | 1, _ => cf_C1.hm
      | 2, _ => cf_C2.hm
    kk := fun i j hi hj => match i, j, hi, hj with
      | 0, 0, _, _ => kit_mro cf_C0.icl cf_C0.tyl mr_C0.1 mr_C0.1
      | 0, 1, _, _ => kit_mro cf_C1.icl cf_C1.tyl mr_C1.2.1 mr_C0.2.1
      | 0, 2, _, _ => kit_mro cf_C2.icl cf_C2.tyl mr_C2.2.2.1 mr_C0.2.2.1
      | 1, 0, _, _ => kit_mro cf_C0.icl cf_C0.tyl mr_C0.1 mr_C1.1
      | 1, 1, _, _ => kit_mro cf_C1.icl cf_C1.tyl mr_C1.2.1 mr_C1.2.1
      | 1, 2, _, _ => kit_mro cf_C2.icl cf_C2.tyl mr_C2.2.2.1 mr_C1.2.2.1
      | 2, 0, _, _ => kit_mro cf_C0.icl cf_C0.tyl mr_C0.1 mr_C2.1
      | 2, 1, _, _ => kit_mro cf_C1.icl cf_C1.tyl mr_C1.2.1 mr_C2.2.1
      | 2, 2, _, _ => kit_mro cf_C2.icl cf_C2.tyl mr_C2.2.2.1 mr_C2.2.2.1
    kR := fun i hi => match i, hi with
      | 0, _ => kit_mro ic_R ty_R ss_R mr_C0.2.2.2.1
      | 1, _ => kit_mro ic_R ty_R ss_R mr_C1.2.2.2.1
      | 2, _ => kit_mro ic_R ty_R ss_R mr_C2.2.2.2.1
    kl := fun i hi => match i, hi with
      | 0, _ => kit_tyM (by decide +kernel) mt_C0.2.1
      | 1, _ => kit_tyM (by decide +kernel) mt_C1.2.1
      | 2, _ => kit_tyM (by decide +kernel) mt_C2.2.1
    kt := fun i hi => match i, hi with
      | 0, _ => kit_tyM (by decide +kernel) mt_C0.1
      | 1, _ => kit_tyM (by decide +kernel) mt_C1.1
      | 2, _ => kit_tyM (by decide +kernel) mt_C2.1
    ki := fun i hi => match i, hi with
      | 0, _ => kit_tyM (by decide +kernel) mt_C0.2.2.1
      | 1, _ => kit_tyM (by decide +kernel) mt_C1.2.2.1
      | 2, _ => kit_tyM (by decide +kernel) mt_C2.2.2.1
    kb := fun i hi => match i, hi with
      | 0, _ => kit_tyM (by decide +kernel) mt_C0.2.2.2.1
      | 1, _ => kit_tyM (by decide +kernel) mt_C1.2.2.2.1
      | 2, _ => kit_tyM (by decide +kernel) mt_C2.2.2.2.1
  }
  have I0 := ok_rui (P := l.prog) (w := w) (mg := mg) (base := base) Z y0.fn
  have I1 := ok_ruf (P := l.prog) (w := w) (mg := mg) (base := base) Z y1.fn
  have I2 := ok_rut (P := l.prog) (w := w) (mg := mg) (base := base) Z y2.fn
  have M_folk : MethS l.prog w K mg base CX0 1 "folk" ["self"] (Is5 (tri C0 C1 C2)) (fun _ => spFolk (tri C0 C1 C2)) := by
    rintro c ⟨i, hi, rfl⟩
    match i, hi with
    | 0, _ => exact ⟨cf_C0.cls, m1, x1, ⟨fi_C0_folk, y1.isf, y1.kp⟩, I1, y1.bi⟩
    | 1, _ => exact ⟨cf_C1.cls, m1, x1, ⟨fi_C1_folk, y1.isf, y1.kp⟩, I1, y1.bi⟩
    | 2, _ => exact ⟨cf_C2.cls, m1, x1, ⟨fi_C2_folk, y1.isf, y1.kp⟩, I1, y1.bi⟩
  have M_told : MethS l.prog w K mg base CX0 1 "told" ["self"] (Is5 (tri C0 C1 C2)) (fun _ => spTold (tri C0 C1 C2)) := by
    rintro c ⟨i, hi, rfl⟩
    match i, hi with
    | 0, _ => exact ⟨cf_C0.cls, m2, x2, ⟨fi_C0_told, y2.isf, y2.kp⟩, I2, y2.bi⟩
    | 1, _ => exact ⟨cf_C1.cls, m2, x2, ⟨fi_C1_told, y2.isf, y2.kp⟩, I2, y2.bi⟩
    | 2, _ => exact ⟨cf_C2.cls, m2, x2, ⟨fi_C2_told, y2.isf, y2.kp⟩, I2, y2.bi⟩
  have I3 := ok_spi y3.fn CF_R_init I0 y0.bi mB_R GM GP n_MOST_FOLK
  have I4 := ok_pai Z y4.fn CF_R_init I0 y0.bi mB_R GM GP GC n_MOST_PAIRS
  have I5 := ok_coi Z y5.fn CF_R_init I0 y0.bi mB_R GM GP GC n_MOST_FOLK n_MOST_FAR
  have Lk : Mk3 l.prog w K mg base (tri C0 C1 C2) CE4 CE3 m3 m4 m5 x3 x4 x5 := ⟨mk_C0, mk_C1, mk_C2, I3, I4, I5, y3.bi, y4.bi, y5.bi, mC_C0, mC_C1, mC_C2⟩
  have MM := ok_mkf (ok_inn Lk) GW n_MOST_FOLK
  have W0 := mk_df ML0 MK0 (mg_of X G MA0) bk0 (ok_MB (P := l.prog) (w := w) (T := [(pl0, [(posL lamM, qM)]), (pl1, [(posL lam0, q0)]), (pl2, [(posL lam1, q1)]), (pl3, [(posL lam2, q2)])]) (al := [(posL lamM, qM)]) FM0 (by simp) ⟨List.mem_singleton.mpr rfl, fun a h _ _ => by rw [List.mem_singleton.mp h]⟩)
  have W1 := mk_df ML1 MK1 (mg_of X G MA1) bk1 (ok_M0 (P := l.prog) (w := w) (T := [(pl0, [(posL lamM, qM)]), (pl1, [(posL lam0, q0)]), (pl2, [(posL lam1, q1)]), (pl3, [(posL lam2, q2)])]) (al := [(posL lam0, q0)]) FM1 (by simp) ⟨List.mem_singleton.mpr rfl, fun a h _ _ => by rw [List.mem_singleton.mp h]⟩ W0)
  have W2 := mk_df ML2 MK2 (mg_of X G MA2) bk2 (ok_M1 (T := [(pl0, [(posL lamM, qM)]), (pl1, [(posL lam0, q0)]), (pl2, [(posL lam1, q1)]), (pl3, [(posL lam2, q2)])]) (al := [(posL lam1, q1)]) Lk FM2 (by simp) ⟨List.mem_singleton.mpr rfl, fun a h _ _ => by rw [List.mem_singleton.mp h]⟩ W0)
  have W3 := mk_df ML3 MK3 (mg_of X G MA3) bk3 (ok_M2 (T := [(pl0, [(posL lamM, qM)]), (pl1, [(posL lam0, q0)]), (pl2, [(posL lam1, q1)]), (pl3, [(posL lam2, q2)])]) (al := [(posL lam2, q2)]) Lk FM3 (by simp) ⟨List.mem_singleton.mpr rfl, fun a h _ _ => by rw [List.mem_singleton.mp h]⟩ W0)
  have Zk : KitF K mg D CE4 CE3 CE5 := ⟨T, cat_base B, mD, o3.mgC, o4.mgC, o5.mgC, fld_of o3.cls nf3, fld_of o4.cls nf4, mro_base o3.cls, mro_base o4.cls, kit_self, kit_anyC (kit_no B o3.cls o4.cls (by decide +kernel)) (kit_anyC (kit_no B o3.cls o5.cls (by decide +kernel)) kit_any0), kit_no B o4.cls o3.cls (by decide +kernel), kit_self, kit_no B o4.cls o5.cls (by decide +kernel)⟩
  have Lc_ := ok_cell (P := l.prog) (w := w) (mg := mg) (base := base) e8.fn m_len
  have Lc := (e8.df Lc_)
  have Lm_ := ok_mix (P := l.prog) (w := w) (mg := mg) (base := base) e9.fn
  have Lm := (e9.df Lm_)
  have Lb_ := ok_beg (P := l.prog) (w := w) (mg := mg) (base := base) e10.fn m_max
  have Lb := (e10.df Lb_)
  have Lp_ := ok_pull (T := [(pl0, [(posL lamM, qM)]), (pl1, [(posL lam0, q0)]), (pl2, [(posL lam1, q1)]), (pl3, [(posL lam2, q2)])]) e11.fn Lm
  have Lp := (e11.df Lp_)
  have Ls_ := ok_lsh (P := l.prog) (w := w) (mg := mg) (base := base) e12.fn
  have Ls := (e12.df Ls_)
  have Lo_ := ok_co e13.fn Lp Ls
  have Lo := (e13.df Lo_)
  have Ld_ := ok_du (P := l.prog) (w := w) (mg := mg) (base := base) e14.fn
  have Ld := (e14.df Ld_)
  have Lr_ := ok_rt e15.fn MM Ld M_told M_folk
  have Lr := (e15.df Lr_)
  have Lf_ := ok_Rl e16.fn Zk W2 W3 m_isinstance
  have Lf := (e16.df Lf_)
  have Lg_ := ok_rd e17.fn Lp Lf m_len
  have Lg := (e17.df Lg_)
  exact ok_law e18.fn ⟨Lc, Lb, Lp, Lo, W1, W2, W3, Lr, Lg, m_range, m_max, m_min, m_len⟩
theorem walk {l : OpenLaw} {q : Program} {loose : List Str} {XP : (Str → Option Value) → Heap → Prop} {YP : World → Heap → Prop} {d : DefRec} {K : Params → Frag} (hn : l.most = some 63) (hdf : d.params.defaults = [])
    {ts : List Addr} (hY : ∀ (w : World) (h : Heap), YP w h → (K w.params).In h ∧ ∀ b ∈ ts, h.get? b = some (tabObj #[]))
    (F : ∀ (w : World) (mg : Str → Option Value) (fa : Addr) (h : Heap), (K w.params).In h → (∀ b ∈ ts, h.get? b = some (tabObj #[])) → h.Ns mainGlobals mg → (∃ bm ob, mg "__builtins__" = some (.ref bm) ∧ bm ≠ builtinsNs ∧ h.get? bm = some ob ∧ ob.cls = .type "module" ∧ ob.dict = some builtinsNs ∧ ob.data = .plain) → mg d.name = some (.ref fa) →
      ∃ (fd : FuncData) (T : Tbs) (K2 : Frag), (∀ (s : Shared) (v : Value), BindsTo s fd ⟨[v], []⟩ [("_law_script", v)]) ∧ K2.In h ∧ (∀ b ∈ pls T, K2.lookup b = none) ∧ TbH T h ∧ ∀ base : Heap, K2.In base → base.Ns mainGlobals mg → (∀ b ∈ pls T, base.BuiltinsAt mg b) → FnOk l.prog w K2 mg base CX0 11 fa fd ["_law_script"] (spLaw K2 T)) :
    WalkO q loose XP YP l.row.toRowW d [] (fun f vs => PySem.call f vs) :=
  L2.walk_ofT (n := 63) (k := 11) (x := "_law_script") (sp := fun K2 T => spLaw K2 T) hn (by decide) hdf ⟨rfl, by decide, by decide, rfl⟩ hY F fun _ T H a ns hl hS ti => ⟨a, ns, rfl, hS, hl, ti, fun _ => rfl⟩
end My
open PySem PySem.W PyProof.Rows
set_option Elab.async false
def PySem.W.Fast.tw18057894962812454615 : Unit := ()
def PySem.W.Fast.tw5406952559621453023 : Unit := ()
def PySem.W.Fast.tw5080040641732700819 : Unit := ()
def PySem.W.Fast.tw12522383301011773649 : Unit := ()
def PySem.W.Fast.tw10228700287031984074 : Unit := ()
def PySem.W.Fast.tw7500103107546417728 : Unit := ()
def PySem.W.Fast.tw8539969965563138109 : Unit := ()
def PySem.W.Fast.tw5995241934994521059 : Unit := ()
def PySem.W.Fast.tw16016405070754777014 : Unit := ()
def PySem.W.Fast.tw3751893577181976937 : Unit := ()
set_option maxRecDepth 100000 in
set_option maxHeartbeats 0 in
theorem PySem.Challenge.cw_trialdeal_k62_makers_holds : PySem.Challenge.rw_trialdeal_k62_makers.Holds := by
  w_on; o_law; k_head; (case hw => w_witness2)
  k_fill
  refine My.walk (l := PySem.Challenge.rw_trialdeal_k62_makers) rfl rfl (fun w h Y => ⟨PySem.W.km_in_of Y, PySem.W.km_tabs_of Y⟩) ?F
  case F =>
    intro w mg fa h KX tabs G hbm hmg
    refine' My.all_mk KX G hmg (My.base_mk ?my_lD ?my_lN ?my_sk ?my_ni ?my_gaD ?my_rdD ?my_inD ?my_fiD ?my_kpD ?my_gbD ?my_hkD ?my_caD)
      (My.of3 (My.err_mk "NoShare" ?my_l3 ?my_i3 ?my_t3 ?my_k3 ?my_s3 ?my_g3 ?my_h3 ?my_c3) (mg_of KX G ?my_ea3) (L2.fun_mk ?my_el3 ?my_ec3 ?my_ek3) ?my_et3)
      (My.of4 (My.err_mk "NoNumber" ?my_l4 ?my_i4 ?my_t4 ?my_k4 ?my_s4 ?my_g4 ?my_h4 ?my_c4) (mg_of KX G ?my_ea4) (L2.fun_mk ?my_el4 ?my_ec4 ?my_ek4) ?my_et4)
      (My.of5 (My.err_mk "NoRule" ?my_l5 ?my_i5 ?my_t5 ?my_k5 ?my_s5 ?my_g5 ?my_h5 ?my_c5) (mg_of KX G ?my_ea5) (L2.fun_mk ?my_el5 ?my_ec5 ?my_ek5) ?my_et5)
      ?f_aD ?f_nf3 ?f_nf4 ?f_ns_R ?f_sga_R ?f_srd_R ?f_sat_R_init ?f_ic_R ?f_ty_R ?f_ss_R ?f_nc_C0 ?f_cf_C0 ?f_nl_C0 ?f_fi_C0_init ?f_fi_C0_folk ?f_fi_C0_told ?f_mr_C0 ?f_mt_C0 ?f_nc_C1 ?f_cf_C1 ?f_nl_C1 ?f_fi_C1_init ?f_fi_C1_folk ?f_fi_C1_told ?f_mr_C1 ?f_mt_C1 ?f_nc_C2 ?f_cf_C2 ?f_nl_C2 ?f_fi_C2_init ?f_fi_C2_folk ?f_fi_C2_told ?f_mr_C2 ?f_mt_C2 ?f_i_MOST_FOLK ?f_i_MOST_PAIRS ?f_i_MOST_FAR ?f_i_MOST_BOTTOM ?f_gt ?f_tkT ?f_MA0 ?f_ML0 ?f_MC0 ?f_MK0 ?f_MD0 ?f_ME0 ?f_MF0 ?f_MG0 ?f_MH0 ?f_MI0 ?f_MA1 ?f_ML1 ?f_MC1 ?f_MK1 ?f_MD1 ?f_ME1 ?f_MF1 ?f_MG1 ?f_MH1 ?f_MI1 ?f_MA2 ?f_ML2 ?f_MC2 ?f_MK2 ?f_MD2 ?f_ME2 ?f_MF2 ?f_MG2 ?f_MH2 ?f_MI2 ?f_MA3 ?f_ML3 ?f_MC3 ?f_MK3 ?f_MD3 ?f_ME3 ?f_MF3 ?f_MG3 ?f_MH3 ?f_MI3 ?f_z_isinstance ?f_z_int ?f_z_bool ?f_z_len ?f_z_range ?f_z_tuple ?f_z_list ?f_z_max ?f_z_min
      (My.dn_of My.b1 KX G ?my_A0 ?my_L0 ?my_C0 ?my_K0)
      (My.dn_of My.b3 KX G ?my_A1 ?my_L1 ?my_C1 ?my_K1)
      (My.dn_of My.b2 KX G ?my_A2 ?my_L2 ?my_C2 ?my_K2)
      (My.dn_of My.b2 KX G ?my_A3 ?my_L3 ?my_C3 ?my_K3)
      (My.dn_of My.b1 KX G ?my_A4 ?my_L4 ?my_C4 ?my_K4)
      (My.dn_of My.b3 KX G ?my_A5 ?my_L5 ?my_C5 ?my_K5)
      (My.dn_of My.b1 KX G ?my_A6 ?my_L6 ?my_C6 ?my_K6)
      (My.dn_of My.b1 KX G ?my_A7 ?my_L7 ?my_C7 ?my_K7)
      (My.dn_of My.b2 KX G ?my_A8 ?my_L8 ?my_C8 ?my_K8)
      (My.dn_of My.b2 KX G ?my_A9 ?my_L9 ?my_C9 ?my_K9)
      (My.dn_of My.b1 KX G ?my_A10 ?my_L10 ?my_C10 ?my_K10)
      (My.dn_of My.b2 KX G ?my_A11 ?my_L11 ?my_C11 ?my_K11)
      (My.dn_of My.b2 KX G ?my_A12 ?my_L12 ?my_C12 ?my_K12)
      (My.dn_of My.b1 KX G ?my_A13 ?my_L13 ?my_C13 ?my_K13)
      (My.dn_of My.b4 KX G ?my_A14 ?my_L14 ?my_C14 ?my_K14)
      (My.dn_of My.b5 KX G ?my_A15 ?my_L15 ?my_C15 ?my_K15)
      (My.dn_of My.b3 KX G ?my_A16 ?my_L16 ?my_C16 ?my_K16)
      (My.dn_of My.b2 KX G ?my_A17 ?my_L17 ?my_C17 ?my_K17)
      (My.dn_of My.b1 KX G ?my_A18 ?my_L18 ?my_C18 ?my_K18)
      (My.dm_of My.b5 ?my_ML0 ?my_MC0 ?my_MK0 ?my_MF0)
      (My.dm_of My.b1 ?my_ML1 ?my_MC1 ?my_MK1 ?my_MF1)
      (My.dm_of My.b1 ?my_ML2 ?my_MC2 ?my_MK2 ?my_MF2)
      (My.dm_of My.b3 ?my_ML3 ?my_MC3 ?my_MK3 ?my_MF3)
      (My.dm_of My.b3 ?my_ML4 ?my_MC4 ?my_MK4 ?my_MF4)
      (My.dm_of My.b4 ?my_ML5 ?my_MC5 ?my_MK5 ?my_MF5)
      (fun s v => .of_eq rfl) tabs ?f_tq0 ?f_tq1 ?f_tq2 ?f_tq3 ?f_ty0 ?f_ty1 ?f_ty2 ?f_ty3 ?f_nd
    (case f_aD => k_is); (case my_ea3 => k_is); (case my_ea4 => k_is); (case my_ea5 => k_is); (case my_lD => k_is); (case my_lN => k_is)
    (case my_sk => exact My.strKeys_of rfl)
    (case my_ni => first | rfl | decide +kernel)
    (case my_gaD => k_is); (case my_rdD => k_is); (case my_inD => k_is); (case my_fiD => k_is); (case my_kpD => k_is); (case my_gbD => k_is); (case my_hkD => k_is); (case my_caD => k_is)
    (case my_l3 => k_is); (case my_i3 => k_is); (case my_t3 => k_is); (case my_k3 => k_is); (case my_s3 => k_is); (case my_g3 => k_is); (case my_h3 => k_is); (case my_c3 => k_is); (case my_el3 => k_is); (case my_ec3 => k_is); (case my_ek3 => k_is); (case my_et3 => k_is)
    (case my_l4 => k_is); (case my_i4 => k_is); (case my_t4 => k_is); (case my_k4 => k_is); (case my_s4 => k_is); (case my_g4 => k_is); (case my_h4 => k_is); (case my_c4 => k_is); (case my_el4 => k_is); (case my_ec4 => k_is); (case my_ek4 => k_is); (case my_et4 => k_is)
    (case my_l5 => k_is); (case my_i5 => k_is); (case my_t5 => k_is); (case my_k5 => k_is); (case my_s5 => k_is); (case my_g5 => k_is); (case my_h5 => k_is); (case my_c5 => k_is); (case my_el5 => k_is); (case my_ec5 => k_is); (case my_ek5 => k_is); (case my_et5 => k_is)
    (case f_ns_R => k_is); (case f_nc_C0 => k_is); (case f_nc_C1 => k_is); (case f_nc_C2 => k_is)
    (case f_sat_R_init => k_is); (case f_fi_C0_init => k_is); (case f_fi_C0_folk => k_is); (case f_fi_C0_told => k_is); (case f_fi_C1_init => k_is); (case f_fi_C1_folk => k_is); (case f_fi_C1_told => k_is); (case f_fi_C2_init => k_is); (case f_fi_C2_folk => k_is); (case f_fi_C2_told => k_is)
    case f_cf_C0 | f_cf_C1 | f_cf_C2 =>
      exact My.cf_mk (by k_is) (by k_is) (by k_is) (by k_is) (by k_is) (by k_is) (by k_is) (by k_is) (by k_is) (by k_is)
    case f_nl_C0 | f_nl_C1 | f_nl_C2 =>
      repeat (refine My.noS (by k_is) ?_)
      exact trivial
    case f_mr_C0 | f_mt_C0 | f_mr_C1 | f_mt_C1 | f_mr_C2 | f_mt_C2 =>
      repeat (refine My.mrS (by k_is) ?_)
      exact trivial
    (case f_nf3 => k_is); (case f_nf4 => k_is); (case f_sga_R => k_is); (case f_srd_R => k_is); (case f_ic_R => k_is); (case f_ty_R => k_is); (case f_ss_R => k_is); (case f_i_MOST_FOLK => k_is)
    (case f_i_MOST_PAIRS => k_is); (case f_i_MOST_FAR => k_is); (case f_i_MOST_BOTTOM => k_is); (case f_gt => k_is); (case f_tkT => k_is); (case f_MA0 => k_is); (case f_ML0 => k_is); (case f_MC0 => k_is)
    (case f_MK0 => k_is); (case f_MD0 => k_is); (case f_ME0 => exact rfl); (case f_MF0 => exact ⟨_, _, rfl⟩); (case f_MG0 => exact ⟨_, _, rfl⟩); (case f_MH0 => exact ⟨_, rfl⟩); (case f_MI0 => exact ⟨_, _, rfl⟩); (case f_MA1 => k_is)
    (case f_ML1 => k_is); (case f_MC1 => k_is); (case f_MK1 => k_is); (case f_MD1 => k_is); (case f_ME1 => exact rfl); (case f_MF1 => exact ⟨_, _, rfl⟩); (case f_MG1 => exact ⟨_, _, rfl⟩); (case f_MH1 => exact ⟨_, rfl⟩)
    (case f_MI1 => exact ⟨_, _, rfl⟩); (case f_MA2 => k_is); (case f_ML2 => k_is); (case f_MC2 => k_is); (case f_MK2 => k_is); (case f_MD2 => k_is); (case f_ME2 => exact rfl); (case f_MF2 => exact ⟨_, _, rfl⟩)
    (case f_MG2 => exact ⟨_, _, rfl⟩); (case f_MH2 => exact ⟨_, rfl⟩); (case f_MI2 => exact ⟨_, _, rfl⟩); (case f_MA3 => k_is); (case f_ML3 => k_is); (case f_MC3 => k_is); (case f_MK3 => k_is); (case f_MD3 => k_is)
    (case f_ME3 => exact rfl); (case f_MF3 => exact ⟨_, _, rfl⟩); (case f_MG3 => exact ⟨_, _, rfl⟩); (case f_MH3 => exact ⟨_, rfl⟩); (case f_MI3 => exact ⟨_, _, rfl⟩); (case f_z_isinstance => k_is); (case f_z_int => k_is); (case f_z_bool => k_is)
    (case f_z_len => k_is); (case f_z_range => k_is); (case f_z_tuple => k_is); (case f_z_list => k_is); (case f_z_max => k_is); (case f_z_min => k_is)
    (case my_A0 => k_is); (case my_L0 => k_is); (case my_C0 => k_is); (case my_K0 => k_is)
    (case my_A1 => k_is); (case my_L1 => k_is); (case my_C1 => k_is); (case my_K1 => k_is)
    (case my_A2 => k_is); (case my_L2 => k_is); (case my_C2 => k_is); (case my_K2 => k_is)
    (case my_A3 => k_is); (case my_L3 => k_is); (case my_C3 => k_is); (case my_K3 => k_is)
    (case my_A4 => k_is); (case my_L4 => k_is); (case my_C4 => k_is); (case my_K4 => k_is)
    (case my_A5 => k_is); (case my_L5 => k_is); (case my_C5 => k_is); (case my_K5 => k_is)
    (case my_A6 => k_is); (case my_L6 => k_is); (case my_C6 => k_is); (case my_K6 => k_is)
    (case my_A7 => k_is); (case my_L7 => k_is); (case my_C7 => k_is); (case my_K7 => k_is)
    (case my_A8 => k_is); (case my_L8 => k_is); (case my_C8 => k_is); (case my_K8 => k_is)
    (case my_A9 => k_is); (case my_L9 => k_is); (case my_C9 => k_is); (case my_K9 => k_is)
    (case my_A10 => k_is); (case my_L10 => k_is); (case my_C10 => k_is); (case my_K10 => k_is)
    (case my_A11 => k_is); (case my_L11 => k_is); (case my_C11 => k_is); (case my_K11 => k_is)
    (case my_A12 => k_is); (case my_L12 => k_is); (case my_C12 => k_is); (case my_K12 => k_is)
    (case my_A13 => k_is); (case my_L13 => k_is); (case my_C13 => k_is); (case my_K13 => k_is)
    (case my_A14 => k_is); (case my_L14 => k_is); (case my_C14 => k_is); (case my_K14 => k_is)
    (case my_A15 => k_is); (case my_L15 => k_is); (case my_C15 => k_is); (case my_K15 => k_is)
    (case my_A16 => k_is); (case my_L16 => k_is); (case my_C16 => k_is); (case my_K16 => k_is)
    (case my_A17 => k_is); (case my_L17 => k_is); (case my_C17 => k_is); (case my_K17 => k_is)
    (case my_A18 => k_is); (case my_L18 => k_is); (case my_C18 => k_is); (case my_K18 => k_is)
    (case my_ML0 => k_is); (case my_MC0 => k_is); (case my_MK0 => k_is); (case my_MF0 => k_is)
    (case my_ML1 => k_is); (case my_MC1 => k_is); (case my_MK1 => k_is); (case my_MF1 => k_is)
    (case my_ML2 => k_is); (case my_MC2 => k_is); (case my_MK2 => k_is); (case my_MF2 => k_is)
    (case my_ML3 => k_is); (case my_MC3 => k_is); (case my_MK3 => k_is); (case my_MF3 => k_is)
    (case my_ML4 => k_is); (case my_MC4 => k_is); (case my_MK4 => k_is); (case my_MF4 => k_is)
    (case my_ML5 => k_is); (case my_MC5 => k_is); (case my_MK5 => k_is); (case my_MF5 => k_is)
    (case f_tq0 => decide); (case f_tq1 => decide); (case f_tq2 => decide); (case f_tq3 => decide); (case f_ty0 => kernel_rfl); (case f_ty1 => kernel_rfl); (case f_ty2 => kernel_rfl); (case f_ty3 => kernel_rfl); (case f_nd => decide)
