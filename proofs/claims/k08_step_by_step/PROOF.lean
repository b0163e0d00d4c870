import PyProof.Rows.All
import Wide.All
import OpenK.AllK
import Wide.FinOn
import Lean
import PyProof.EqAt
import PyProof.EqKinds
import PyProof.TupleCall
import PyProof.ExcClass2
import PyProof.InstStoreFacts
import PyProof.ExcArgs
import PyProof.ExcInit
import PyProof.ExcBaseAll.ValueError
import KE.KIsAll
import PyProof.RulesRaise
import PyProof.RulesAs
import PyProof.RaisesMany
import PyProof.NeKinds
import PyProof.EnumFor
import PyProof.EnumStmt
import PyProof.EnumMake
import PyProof.Rows.EnumRows
import PyProof.CompFree
import KE.KIntText
import PyProof.StrBlockG
import PyProof.StrBlockH
import PyProof.StrWalks
import PyProof.Rows.StrNews2
import PyProof.Rows.StrOr
import PyProof.Rows.Digits
import PyProof.StrBlockL
import PyProof.MeetsStr2
import PyProof.CompMap
import KE.IntTextLaws
import PyProof.Rows.StrPartPair
import PyProof.StrLawsTight
import PyProof.StrLawsChain
import PyProof.Rows.StrIntSpec
import PyProof.Rows.StrItems
import PyProof.ReprRoads
import PyProof.ReprBulk
import PyProof.FitsInt
import PyProof.CallFns
import PyProof.Rows.FactsT3
import PyProof.ListRange
import PyProof.TupleOfSeq
import PyProof.TupleOfGen
import PyProof.ConsumeWalk
import PyProof.Rows.SeqGen
import PyProof.CompUse
import KE.KUnpack
import PyProof.Draws
import PyProof.Rows.RuleB_bool
import PyProof.WalkInts
import PyProof.SeqI3
import KE.KRevSl
import KE.BitLaws
import PyProof.Rows.SumAny
import OpenK.KTop
import PyProof.Rows.FStr
import PyProof.DictItems
import PyProof.DictValues
import PySem.Challenge.RW_trialdeal_k08_step_by_step
set_option Elab.async false
set_option linter.all false
set_option maxRecDepth 100000
namespace L2
open PySem PySem.Spec PyProof.Rows
inductive Key where
 | inl (i : Int) | inr (x : Str) | non
 deriving DecidableEq
def keyIs : Key -> Value -> Bool
 | .inl k, v => Value.isInt k v
 | .inr x, v => Value.isStrOf x v
 | .non, v => v == .none
def keyH (w : World) : Key -> Int
 | .inl k => hashInt k
 | .inr x => hashStr w x
 | .non => 0xFCA86420
theorem pyHash_none {prog : Program} {w : World} {A : Around} {E : Value -> Shared -> Prop} {s : Shared} {Q : Int -> Shared -> Prop} (h : Q 0xFCA86420 { s with toks := s.toks + 1 }) : wpAny (model prog w) A (pyHash .none) Q E s := by
 unfold pyHash;have hT : s.TypeIs .none "NoneType" := rfl;have hv : [Value.none].any Value.onHeap = false := rfl;refine wpAny_bind ?_;rw [cRoomFor, if_neg (by rw [hv]; exact Bool.false_ne_true)]; refine wpAny_pure ?_
 refine wpAny_bind (wpAny_specialOf hT PySem.F.slot_NoneType_hash.lookup ?_);show wpAny _ _ (if (some (Value.builtin "NoneType.__hash__") == some Value.none) = true then _ else _) Q E s
 rw [if_neg (by rw [beq_builtin_none]; exact Bool.false_ne_true)]
 refine wpAny_bind (wpAny_specialOf hT PySem.F.slot_NoneType_hash.lookup ?_);show wpAny _ _ (callSpecialIfBoundUnlessNone? .none "__hash__" _ >>= _) Q E s;refine wpAny_bind (wpAny_callSpecialIfBoundUnlessNone?_slot hT PySem.F.slot_NoneType_hash
  (wpAny_call_entry PySem.F.slot_NoneType_hash hT PySem.F.entry_NoneType_hash
   (show wpAny _ _ (do ret (<- mkInt 0xFCA86420)) _ _ s from wpAny_ret_mkInt ?_) (PySem.F.args_NoneType_hash_1 _)))
 show wpAny _ _ (if (decide (-(2 : Int) ^ 63 <= 0xFCA86420) && decide ((0xFCA86420 : Int) < 2 ^ 63)) = true then _ else _) Q E _
 rw [if_pos (by decide)]
 exact wpAny_pure h
theorem keyIs_shape : ∀ {k : Key} {v : Value}, keyIs k v = true -> (∃ i t, k = Key.inl i /\ v = Value.int i t) \/ (∃ x t, k = Key.inr x /\ v = Value.str x t) \/ (k = Key.non /\ v = Value.none)
 | .inl i, v, h => by
  obtain ⟨t, e⟩ := Value.isInt_shape (k := i) (v := v) h;exact .inl ⟨i, t, rfl, e⟩
 | .inr x, v, h => by
  obtain ⟨t, e⟩ := Value.isStrOf_shape (x := x) (v := v) h;exact .inr (.inl ⟨x, t, rfl, e⟩)
 | .non, v, h => .inr (.inr ⟨rfl, eq_of_beq h⟩)
theorem keyIs_int (i : Int) (t : Tok) : keyIs (.inl i) (.int i t) = true := by simp [keyIs, Value.isInt]
theorem keyIs_str (x : Str) (t : Tok) : keyIs (.inr x) (.str x t) = true := by simp [keyIs, Value.isStrOf]
theorem key_ll (a b : Int) : decide (Key.inl a = Key.inl b) = (a == b) := by
 by_cases e : a = b
 ·subst e; simp
 ·rw [decide_eq_false (fun q => e (Key.inl.inj q))];exact (beq_eq_false_iff_ne.mpr e).symm
theorem key_rr (a b : Str) : decide (Key.inr a = Key.inr b) = decide (a = b) := by
 by_cases e : a = b
 ·subst e; simp
 ·rw [decide_eq_false (fun q => e (Key.inr.inj q)), decide_eq_false e]
theorem key_lr (a : Int) (b : Str) : decide (Key.inl a = Key.inr b) = false := decide_eq_false (fun q => nomatch q)
theorem key_rl (a : Str) (b : Int) : decide (Key.inr a = Key.inl b) = false := decide_eq_false (fun q => nomatch q)
theorem key_ln (a : Int) : decide (Key.inl a = Key.non) = false := decide_eq_false (fun q => nomatch q)
theorem key_nl (a : Int) : decide (Key.non = Key.inl a) = false := decide_eq_false (fun q => nomatch q)
theorem key_rn (a : Str) : decide (Key.inr a = Key.non) = false := decide_eq_false (fun q => nomatch q)
theorem key_nr (a : Str) : decide (Key.non = Key.inr a) = false := decide_eq_false (fun q => nomatch q)
def mixKind (prog : Program) (w : World) : PySem.KeyKind prog w Key where
 is := keyIs
 hash := keyH w
 inj := fun v a b ha hb => by
  rcases keyIs_shape ha with ⟨i, t, rfl, rfl⟩ | ⟨x, t, rfl, rfl⟩ | ⟨rfl, rfl⟩
  ·rcases keyIs_shape hb with ⟨j, u, rfl, e⟩ | ⟨y, u, rfl, e⟩ | ⟨rfl, e⟩
   ·injection e with e1 _; rw [e1]
   ·exact nomatch e
   ·exact nomatch e
  ·rcases keyIs_shape hb with ⟨j, u, rfl, e⟩ | ⟨y, u, rfl, e⟩ | ⟨rfl, e⟩
   ·exact nomatch e
   ·injection e with e1 _; rw [e1]
   ·exact nomatch e
  ·rcases keyIs_shape hb with ⟨j, u, rfl, e⟩ | ⟨y, u, rfl, e⟩ | ⟨rfl, e⟩
   ·exact nomatch e
   ·exact nomatch e
   ·rfl
 byValue := fun k v h => by
  rcases keyIs_shape h with ⟨i, t, rfl, rfl⟩ | ⟨x, t, rfl, rfl⟩ | ⟨rfl, rfl⟩ <;> rfl
 pyHash := fun hv h => by
  rcases keyIs_shape hv with ⟨i, t, rfl, rfl⟩ | ⟨x, t, rfl, rfl⟩ | ⟨rfl, rfl⟩
  ·exact wpAny_pyHash_int h
  ·exact wpAny_pyHash_str h
  ·exact pyHash_none h
 eqBool := fun hu hv h => by
  rcases keyIs_shape hu with ⟨i, t, rfl, rfl⟩ | ⟨x, t, rfl, rfl⟩ | ⟨rfl, rfl⟩
  ·rcases keyIs_shape hv with ⟨j, u, rfl, rfl⟩ | ⟨y, u, rfl, rfl⟩ | ⟨rfl, rfl⟩
   ·rw [key_ll] at h; exact wpAny_eqBool_int h
   ·rw [key_lr] at h; exact SeqAt.EqAt.int_str i t y u _ _ _ _ h
   ·rw [key_ln] at h; exact SeqAt.EqAt.int_none i t _ _ _ _ h
  ·rcases keyIs_shape hv with ⟨j, u, rfl, rfl⟩ | ⟨y, u, rfl, rfl⟩ | ⟨rfl, rfl⟩
   ·rw [key_rl] at h; exact SeqAt.EqAt.str_int x t j u _ _ _ _ h
   ·rw [key_rr] at h; exact wpAny_eqBool_str h
   ·rw [key_rn] at h; exact SeqAt.EqAt.str_none x t _ _ _ _ h
  ·rcases keyIs_shape hv with ⟨j, u, rfl, rfl⟩ | ⟨y, u, rfl, rfl⟩ | ⟨rfl, rfl⟩
   ·rw [key_nl] at h; exact SeqAt.EqAt.none_int j u _ _ _ _ h
   ·rw [key_nr] at h; exact SeqAt.EqAt.none_str y u _ _ _ _ h
   ·exact SeqAt.EqAt.same _ _ _ _ _ (by simpa using h)
 «strs» := fun k x t v h => by
  rcases keyIs_shape h with ⟨i, u, rfl, e⟩ | ⟨y, u, rfl, e⟩ | ⟨rfl, e⟩
  ·exact nomatch e
  ·injection e with e1 _
   subst e1;cases v <;> rfl
  ·exact nomatch e
theorem mixKind_is (prog : Program) (w : World) (k : Key) (v : Value) : (mixKind prog w).is k v = keyIs k v := rfl
theorem mixKind_int (prog : Program) (w : World) (i : Int) (t : Tok) : (mixKind prog w).is (.inl i) (.int i t) = true := keyIs_int i t
theorem mixKind_str (prog : Program) (w : World) (x : Str) (t : Tok) : (mixKind prog w).is (.inr x) (.str x t) = true := keyIs_str x t
inductive V where
 | non | bl (b : Bool) | int (i : Int) | str (x : Str) | byt (b : Array UInt8) | flt (b : UInt64) | ref (a : Addr) | ty (n : String)
 deriving DecidableEq
def RelV : V -> Value -> Prop
 | .non, u => u = Value.none
 | .bl b, u => u = Value.bool b
 | .int i, u => ∃ t, u = Value.int i t
 | .str x, u => ∃ t, u = Value.str x t
 | .byt b, u => ∃ t, u = Value.bytes b t
 | .flt b, u => ∃ t, u = Value.float b t
 | .ref a, u => u = Value.ref a
 | .ty n, u => u = Value.type n
abbrev Vals : List V -> List Value -> Prop := Paired RelV
theorem Vals.length {xs : List V} {us : List Value} (r : Vals xs us) : xs.length = us.length := Paired.length r
theorem Vals.get : ∀ {xs : List V} {us : List Value} {i : Nat} {x : V}, Vals xs us -> xs[i]? = some x -> ∃ u, us[i]? = some u /\ RelV x u
 | _, _, _, _, .nil, e => by simp at e
 | _, _, 0, _, .cons r _, e => by simp at e; subst e; exact ⟨_, rfl, r⟩
 | _, _, i + 1, x, .cons _ t, e => by
  obtain ⟨u, h1, h2⟩ := Vals.get (i := i) (x := x) t (by simpa using e)
  exact ⟨u, by simpa using h1, h2⟩
theorem Vals.set {x : V} {u : Value} (r : RelV x u) : ∀ {xs : List V} {us : List Value} (i : Nat), Vals xs us -> Vals (xs.set i x) (us.set i u)
 | _, _, _, .nil => .nil
 | _, _, 0, .cons _ t => .cons r t
 | _, _, i + 1, .cons q t => .cons q (Vals.set r i t)
theorem Vals.append : ∀ {xs ys : List V} {us ws : List Value}, Vals xs us -> Vals ys ws -> Vals (xs ++ ys) (us ++ ws)
 | _, _, _, _, .nil, s => s
 | _, _, _, _, .cons r t, s => .cons r (Vals.append t s)
theorem Vals.take : ∀ {xs : List V} {us : List Value} (n : Nat), Vals xs us -> Vals (xs.take n) (us.take n)
 | _, _, 0, _ => .nil
 | _, _, _ + 1, .nil => .nil
 | _, _, n + 1, .cons r t => .cons r (Vals.take n t)
theorem Vals.drop : ∀ {xs : List V} {us : List Value} (n : Nat), Vals xs us -> Vals (xs.drop n) (us.drop n)
 | _, _, 0, r => r
 | _, _, _ + 1, .nil => .nil
 | _, _, n + 1, .cons _ t => Vals.drop n t
def RelO : Option V -> Option Value -> Prop
 | some v, some u => RelV v u
 | none, none => True
 | _, _ => False
def KV {κ : Type} : List (κ × V) -> List (κ × Value) -> Prop := Paired fun (p : κ × V) (q : κ × Value) => p.1 = q.1 /\ RelV p.2 q.2
def kV : Key -> V
 | .inl i => .int i
 | .inr x => .str x
 | .non => .non
inductive HO where
 | lst (xs : List V)
 | tup (xs : List V)
 | dK (kvs : List (Key × V)) | dT (kvs : List (List Key × V))
 | set (S : Int -> Bool) (n : Nat)
 | ins (C dx : Addr) (fs : List (Str × V))
 | own (x : Addr)
 | xd (fs : List (Str × V))
 | met (f x : Addr)
 | rng (lo hi : Int)
 | frz (o : Obj) (u : HO)
 | tbl (ps : Array Value)
 | ext (φ : Heap -> Prop)
abbrev Hp := Addr -> Option HO
def upd (H : Hp) (a : Addr) (o : HO) : Hp := fun b => if b = a then some o else H b
theorem uds {H : Hp} {a : Addr} {o : HO} : upd H a o a = some o := by unfold upd; rw [if_pos rfl]
theorem upd_ne {H : Hp} {a b : Addr} {o : HO} (h : b ≠ a) : upd H a o b = H b := by unfold upd; rw [if_neg h]
theorem upd_upd {H : Hp} {a : Addr} {o u : HO} : upd (upd H a o) a u = upd H a u := by
 funext b; unfold upd; split <;> rfl
theorem ne_of {H : Hp} {a b : Addr} {o u : HO} (h : H a = some o) (h' : H b = some u) (d : o ≠ u) : a ≠ b := by
 intro e; subst e; rw [h] at h'; exact d (Option.some.inj h')
theorem ne_of_none {H : Hp} {a b : Addr} {o : HO} (h : H a = some o) (h' : H b = none) : a ≠ b := by
 intro e; subst e; rw [h] at h'; cases h'
section
variable (P : Program) (w : World)
def ObjOk (H : Hp) (h : Heap) (a : Addr) : HO -> Prop
 | .lst xs => xs.length <= sizeLine /\ ∃ (its : List Value) (n : Nat), Vals xs its /\ h.get? a = some { cls := .type "list", data := .seq its.toArray n }
 | .tup xs => xs.length <= sizeLine /\ ∃ its : List Value, Vals xs its /\ IsTup h a its.toArray
 | .dK kvs => kvs.length <= sizeLine /\ (a == sysModules) = false /\ ∃ vs, KV kvs vs /\ h.DictOf (mixKind P w) a vs
 | .dT kvs => kvs.length <= sizeLine /\ (a == sysModules) = false /\ ∃ xs : List (List Key × Addr × Value),
   Paired (fun (p : List Key × V) (q : List Key × Addr × Value) => p.1 = q.1 /\ H q.2.1 = some (.tup (p.1.map kV)) /\ RelV p.2 q.2.2) kvs xs /\
   ∃ o es ep, h.get? a = some o /\ o.ExactDict /\ o.data = .dict es ep /\ es.toList = xs.map (entryOfKey (tupleKind (mixKind P w))) /\ (xs.map (·.1)).Nodup
 | .set S n => h.SetOf (intKind P w) a S n
 | .ins C dx fs => H dx = some (.own a) /\ fs.length <= 1000 /\ dx ≠ a /\ h.get? a = some (PySem.W.instObj C dx) /\
   ∃ mA, h.Ns1 dx mA /\ (∀ f, RelO (fs.lookup f) (mA f)) /\ PySem.Within mA (fs.map (·.1))
 | .own _ => ∃ o, h.get? a = some o
 | .xd fs => ∃ mA, h.Ns1 a mA /\ ∀ f, RelO (fs.lookup f) (mA f)
 | .rng lo hi => ∃ t u v, h.get? a = some { cls := .type "range", data := .fields #[.int lo t, .int hi u, .int 1 v] }
 | .frz o u => h.get? a = some o /\ ObjOk H h a u
 | .tbl ps => h.get? a = some { cls := .none, data := .fields ps }
 | .met f x => h.get? a = some (PySem.W.methodObj (.ref f) (.ref x))
 | .ext φ => φ h /\ (∃ o, h.get? a = some o) /\ ∀ h1 h2 : Heap, φ h1 -> (∀ o, h1.get? a = some o -> h2.get? a = some o) -> φ h2
def HOk (H : Hp) (h : Heap) : Prop := ∀ a o, H a = some o -> ObjOk P w H h a o
end
section
variable {P : Program} {w : World} {H H' : Hp} {h h' : Heap} {a : Addr} {o : HO}
theorem ObjOk.lt (x : ObjOk P w H h a o) : a < h.objs.size := by
 cases o with
 | lst xs => obtain ⟨_, _, _, _, e⟩ := x; exact Heap.lt_size e
 | tup xs => obtain ⟨_, _, _, p⟩ := x; exact p.lt
 | dK kvs => obtain ⟨_, _, _, _, o, _, _, e, _⟩ := x; exact Heap.lt_size e
 | dT kvs => obtain ⟨_, _, _, _, o, _, _, e, _⟩ := x; exact Heap.lt_size e
 | set S n => obtain ⟨o, _, _, _, e, _⟩ := x; exact Heap.lt_size e
 | ins C dx fs => obtain ⟨_, _, _, e, _⟩ := x; exact Heap.lt_size e
 | own y => obtain ⟨_, e⟩ := x; exact Heap.lt_size e
 | xd fs => obtain ⟨_, ⟨_, _, _, e, _⟩, _⟩ := x; exact Heap.lt_size e
 | rng lo hi => obtain ⟨_, _, _, e⟩ := x; exact Heap.lt_size e
 | frz ob u => obtain ⟨e, _⟩ := x; exact Heap.lt_size e
 | tbl ps => exact Heap.lt_size (show h.get? a = some _ from x)
 | met f y => exact Heap.lt_size (show h.get? a = some _ from x)
 | ext φ => obtain ⟨_, ⟨_, e⟩, _⟩ := x; exact Heap.lt_size e
theorem Paired.mapP {α β : Type} {F G : α -> β -> Prop} : ∀ {l₁ : List α} {l₂ : List β}, Paired F l₁ l₂ -> (∀ a b, F a b -> G a b) -> Paired G l₁ l₂
 | _, _, .nil, _ => .nil
 | _, _, .cons r t, f => .cons (f _ _ r) (Paired.mapP t f)
theorem ObjOk.stay (x : ObjOk P w H h a o) (k : ∀ b u, (b = a \/ H b = some (.own a)) -> h.get? b = some u -> h'.get? b = some u)
  (ho : ∀ b, H b = some (.own a) -> H' b = some (.own a)) (ht : ∀ b xs, H b = some (.tup xs) -> H' b = some (.tup xs)) : ObjOk P w H' h' a o := by
 induction o with
 | lst xs => obtain ⟨z, its, n, r, e⟩ := x; exact ⟨z, its, n, r, k _ _ (.inl rfl) e⟩
 | tup xs => obtain ⟨z, its, r, ob, e, c⟩ := x; exact ⟨z, its, r, ob, k _ _ (.inl rfl) e, c⟩
 | dK kvs => obtain ⟨z, y, vs, r, ob, es, ep, e, c⟩ := x; exact ⟨z, y, vs, r, ob, es, ep, k _ _ (.inl rfl) e, c⟩
 | dT kvs =>
  obtain ⟨z, y, xs, r, ob, es, ep, e, c⟩ := x;exact ⟨z, y, xs, Paired.mapP r fun p q z => ⟨z.1, ht _ _ z.2.1, z.2.2⟩, ob, es, ep, k _ _ (.inl rfl) e, c⟩
 | set S n => obtain ⟨ob, es, ep, t, e, c⟩ := x; exact ⟨ob, es, ep, t, k _ _ (.inl rfl) e, c⟩
 | ins C dx fs =>
  obtain ⟨d, z, ne, e, mA, ⟨od, es, ep, e2, c⟩, r⟩ := x;exact ⟨ho _ d, z, ne, k _ _ (.inl rfl) e, mA, ⟨od, es, ep, k _ _ (.inr d) e2, c⟩, r⟩
 | own y => obtain ⟨ob, e⟩ := x; exact ⟨ob, k _ _ (.inl rfl) e⟩
 | xd fs => obtain ⟨mA, ⟨od, es, ep, e, c⟩, r⟩ := x; exact ⟨mA, ⟨od, es, ep, k _ _ (.inl rfl) e, c⟩, r⟩
 | rng lo hi => obtain ⟨t, u, v, e⟩ := x; exact ⟨t, u, v, k _ _ (.inl rfl) e⟩
 | frz ob u ih => obtain ⟨e, q⟩ := x; exact ⟨k _ _ (.inl rfl) e, ih q⟩
 | tbl ps =>
  have e : h.get? a = some { cls := .none, data := .fields ps } := x;show h'.get? a = some { cls := .none, data := .fields ps };exact k a _ (.inl rfl) e
 | met f y =>
  have e : h.get? a = some (PySem.W.methodObj (.ref f) (.ref y)) := x;show h'.get? a = some (PySem.W.methodObj (.ref f) (.ref y));exact k a _ (.inl rfl) e
 | ext φ => obtain ⟨p, ⟨o, e⟩, st⟩ := x; exact ⟨st _ _ p fun o q => k _ _ (.inl rfl) q, ⟨o, k _ _ (.inl rfl) e⟩, st⟩
theorem HOk.lt (x : HOk P w H h) (e : H a = some o) : a < h.objs.size := (x a o e).lt
theorem HOk.fresh (x : HOk P w H h) (e : h.objs.size <= a) : H a = none := by
 cases q : H a with
 | none => rfl
 | some u => exact absurd (Nat.lt_of_lt_of_le (x.lt q) e) (Nat.lt_irrefl _)
theorem HOk.kept (x : HOk P w H h) (k : ∀ b u, h.get? b = some u -> h'.get? b = some u) : HOk P w H h' := fun a o e =>
 (x a o e).stay (fun b u _ q => k b u q) (fun _ q => q) fun _ _ q => q
theorem HOk.laid (x : HOk P w H h) (k : ∀ b u, h.get? b = some u -> h'.get? b = some u) (hp : h.objs.size <= a) (new : ObjOk P w (upd H a o) h' a o) : HOk P w (upd H a o) h' := fun b u e => by
 have hn := x.fresh hp;by_cases hb : b = a
 ·subst hb; rw [uds] at e; cases e; exact new
 ·rw [upd_ne hb] at e;exact (x b u e).stay (fun c v _ q => k c v q) (fun c q => by rw [upd_ne (ne_of_none q hn)]; exact q) fun c xs q => by rw [upd_ne (ne_of_none q hn)]; exact q
end
def Rd (H : Hp) (a : Addr) (u : HO) : Prop := H a = some u \/ ∃ o, H a = some (.frz o u)
theorem Rd.ok {P : Program} {w : World} {H : Hp} {h : Heap} {a : Addr} {u : HO} (r : Rd H a u) (x : HOk P w H h) : ObjOk P w H h a u := by
 rcases r with r | ⟨o, r⟩
 ·exact x a u r
 ·obtain ⟨_, q⟩ := x a _ r;exact q
def Mut : Option HO -> Prop
 | some (.lst _) => True
 | some (.dK _) => True
 | some (.dT _) => True
 | some (.set _ _) => True
 | some (.ins _ _ _) => True
 | some (.ext _) => True
 | _ => False
section
variable {P : Program} {w : World} {H : Hp} {h h' : Heap} {x e : Addr} {o' : HO}
theorem HOk.write (ok : HOk P w H h) (mu : Mut (H x)) (he : e = x \/ H e = some (.own x)) (k : ∀ b u, b ≠ e -> h.get? b = some u -> h'.get? b = some u) (heo : ∃ u, h'.get? e = some u)
  (new : ObjOk P w (upd H x o') h' x o') : HOk P w (upd H x o') h' := fun b u q => by
 have nown : ∀ c y, H c = some (.own y) -> c ≠ x := fun c y r z => by subst z; rw [r] at mu; exact mu
 have ntup : ∀ c xs, H c = some (.tup xs) -> c ≠ x := fun c xs r z => by subst z; rw [r] at mu; exact mu
 by_cases hb : b = x
 ·subst hb; rw [uds] at q; cases q; exact new
 ·rw [upd_ne hb] at q;by_cases hbe : b = e
  ·have q' : H b = some (.own x) := by
    rcases he with z | z
    ·exact absurd (hbe.trans z) hb
    ·rw [hbe]; exact z
   rw [q] at q'; cases q';obtain ⟨v, hv⟩ := heo;exact ⟨v, by rw [hbe]; exact hv⟩
  ·refine (ok b u q).stay (fun c v hc r => k c v ?_ r) (fun c r => by rw [upd_ne (nown c b r)]; exact r) fun c xs r => by rw [upd_ne (ntup c xs r)]; exact r
   rcases hc with rfl | hc
   ·exact hbe
   ·rintro rfl;rcases he with z | z
    ·exact nown c b hc z
    ·rw [hc] at z; cases z; exact hb rfl
end
structure Un (fs ex : List Addr) (H H' : Hp) (h h' : Heap) : Prop where
 keep : ∀ b o, h.get? b = some o -> H b = none -> b ∉ fs -> b ∉ ex -> h'.get? b = some o
 slot : ∀ b o, h.get? b = some o -> H b = none -> b ∈ fs -> b ∉ ex -> ∃ sl, h'.get? b = some { o with slots := sl }
 free : ∀ b o, h.get? b = some o -> H b = none -> b ∉ ex -> H' b = none
 there : ∀ b o, h.get? b = some o -> b ∉ ex -> ∃ o', h'.get? b = some o'
 tups : ∀ b xs, H b = some (.tup xs) -> H' b = some (.tup xs)
 frzs : ∀ b o u, H b = some (.frz o u) -> H' b = some (.frz o u)
 tbls : ∀ b ps, H b = some (.tbl ps) -> ∃ more, H' b = some (.tbl (ps ++ more))
 sys : H sysModules = none -> H' sysModules = none
section
variable {fs fs' ex ex' : List Addr} {H H1 H2 : Hp} {h h1 h2 h' : Heap} {a x e : Addr} {o : HO}
theorem Un.any (u : Un fs ex H H1 h h1) {b : Addr} {ob : Obj} (q : h.get? b = some ob) (n : H b = none) (hx : b ∉ ex) : ∃ sl, h1.get? b = some { ob with slots := sl } := by
 by_cases hb : b ∈ fs
 ·exact u.slot b ob q n hb hx
 ·exact ⟨ob.slots, u.keep b ob q n hb hx⟩
theorem Un.kept (k : ∀ b u, h.get? b = some u -> h'.get? b = some u) : Un fs ex H H h h' :=
 ⟨fun b ob q _ _ _ => k b ob q, fun b ob q _ _ _ => ⟨ob.slots, k b ob q⟩, fun _ _ _ n _ => n, fun b ob q _ => ⟨ob, k b ob q⟩, fun _ _ q => q, fun _ _ _ q => q, fun _ ps q => ⟨#[], by rw [q]; simp⟩, fun q => q⟩
theorem Un.refl : Un fs ex H H h h := Un.kept fun _ _ q => q
theorem Un.laid (k : ∀ b u, h.get? b = some u -> h'.get? b = some u) (hp : h.objs.size <= a) (hn : H a = none) (hz : sysModules < h.objs.size) : Un fs ex H (upd H a o) h h' where
 sys := fun q => by rw [upd_ne (Nat.ne_of_lt (Nat.lt_of_lt_of_le hz hp))]; exact q
 keep := fun b u q _ _ _ => k b u q
 slot := fun b u q _ _ _ => ⟨u.slots, k b u q⟩
 free := fun b u q n _ => by rw [upd_ne (Nat.ne_of_lt (Nat.lt_of_lt_of_le (Heap.lt_size q) hp))]; exact n
 there := fun b u q _ => ⟨u, k b u q⟩
 tups := fun b xs q => by rw [upd_ne (ne_of_none q hn)]; exact q
 frzs := fun b u xs q => by rw [upd_ne (ne_of_none q hn)]; exact q
 tbls := fun b ps q => ⟨#[], by rw [upd_ne (ne_of_none q hn), q]; simp⟩
theorem Un.write (mu : Mut (H x)) (he : e = x \/ H e = some (.own x)) (k : ∀ b u, b ≠ e -> h.get? b = some u -> h'.get? b = some u) (heo : ∃ u, h'.get? e = some u) : Un fs ex H (upd H x o) h h' := by
 have hx : ∀ b, H b = none -> b ≠ x := fun b n z => by subst z; rw [n] at mu; exact mu
 have hb : ∀ b, H b = none -> b ≠ e := fun b n z => by
  subst z;rcases he with r | r
  ·exact hx b n r
  ·rw [n] at r; cases r
 have hm : ∀ b u, H b = some u -> ¬ Mut (some u) -> b ≠ x := fun b u q nm z => by subst z; rw [q] at mu; exact nm mu
 refine ⟨fun b u q n _ _ => k b u (hb b n) q, fun b u q n _ _ => ⟨u.slots, k b u (hb b n) q⟩, fun b u q n _ => by rw [upd_ne (hx b n)]; exact n, fun b u q _ => ?_,
  fun b xs q => by rw [upd_ne (hm b _ q fun z => z)]; exact q, fun b u xs q => by rw [upd_ne (hm b _ q fun z => z)]; exact q, fun b ps q => ⟨#[], by rw [upd_ne (hm b _ q fun z => z), q]; simp⟩, fun q => by rw [upd_ne (hx _ q)]; exact q⟩
 by_cases hbe : b = e
 ·subst hbe; exact heo
 ·exact ⟨u, k b u hbe q⟩
end
def trk (h : Heap) (H : Hp) : List Addr := (List.range h.objs.size).filter fun a => (H a).isSome
def hidT (h : Heap) (H : Hp) : Heap := PySem.W.hideAll h (trk h H)
theorem hidT_size (h : Heap) (H : Hp) : (hidT h H).objs.size = h.objs.size := PySem.W.hideAll_size _ _
theorem hidT_get {h : Heap} {H : Hp} {b : Addr} {o : Obj} (e : h.get? b = some o) (n : H b = none) : (hidT h H).get? b = some o :=
 PySem.W.hideAll_get _ e fun hm => by
  have q : (H b).isSome = true := (List.mem_filter.mp hm).2;rw [n] at q; simp at q
theorem of_hidT {h : Heap} {H : Hp} {b : Addr} {o : Obj} (e : (hidT h H).get? b = some o) : h.get? b = some o /\ H b = none := by
 have e' : h.get? b = some o := PySem.W.of_hideAll (trk h H) e;refine ⟨e', ?_⟩;cases q : H b with
 | none => rfl
 | some x =>
  have hm : b ∈ trk h H := List.mem_filter.mpr ⟨List.mem_range.mpr (Heap.lt_size e'), by simp [q]⟩
  have z : (hidT h H).get? b = none := PySem.W.hideAll_none (trk h H) hm;rw [z] at e; cases e
def allNews (g h : Heap) (L : Addr) : List (Addr × Obj) := (List.range h.objs.size).filterMap fun a => if a = L \/ (g.get? a).isSome = true then none else (h.get? a).map fun o => (a, o)
def rest (g h : Heap) (L d : Addr) : List (Addr × Obj) := (allNews g h L).filter fun p => decide (p.1 ≠ d)
structure Mod (K : PySem.W.Frag) (mg : Str -> Option Value) (base : Heap) : Prop where
 kin : K.In base
 glob : base.Ns mainGlobals mg
 blt : ∃ mb, base.Ns builtinsNs mb /\ ∀ x : Str, x ≠ "__name__" -> mb x = bootBuiltins x
 nolimit : base.NoLimit
structure Cx where
 prog : Program
 w : World
 K : PySem.W.Frag
 mg : Str -> Option Value
 base : Heap
 A : Around
 N : List Str
 s₀ : Shared
 H₀ : Hp
 env : Env
 outer : List Env
 stack : List Env
 ex : List Addr
 fn : Str -> Bool
 calm : Bool
 pn : List (Addr × Obj)
 xe : Value -> Shared -> Prop
def frs (l : List Env) : List Addr := l.filterMap (·.frame)
abbrev Cx.fs (X : Cx) : List Addr := frs X.outer
def Vis (sc : Scope) (x : Str) : Prop := sc.names.lookup x = some .local \/ sc.names.lookup x = some .cell \/ sc.names.lookup x = some .free
def Loc (sc : Scope) (x : Str) : Prop := sc.names.lookup x = some .local \/ sc.names.lookup x = some .cell
def Look (env : Env) (h : Heap) (m : Str -> Option Value) (x : Str) (u : Value) : Prop :=
 (env.kindOf x = some .local /\ m x = some u) \/ ((env.kindOf x = some .cell \/ env.kindOf x = some .free) /\ ∃ c, env.cells.lookup x = some c /\ h.IsCell c (some u))
structure Cx.Ok (X : Cx) : Prop where
 mod : Mod X.K X.mg X.base
 kind : X.env.scope.kind = .function
 glob : X.env.globals = mainGlobals
 blt : X.env.builtins = builtinsNs
 above : X.s₀.heap.objs.size <= X.env.locals
 inj : ∀ x y c, X.env.cells.lookup x = some c -> X.env.cells.lookup y = some c -> x = y
 has : ∀ x, (X.env.kindOf x = some .cell \/ X.env.kindOf x = some .free) -> ∃ c, X.env.cells.lookup x = some c
 cab : ∀ x c, X.fn x = true -> X.env.cells.lookup x = some c -> X.s₀.heap.objs.size <= c
 hd : X.calm = true -> X.A.handled = none
 frames : X.A.frames = some X.stack
 stk : X.stack = X.outer \/ (X.stack = X.env :: X.outer /\ X.env.frame = some X.env.locals)
 exf : ∀ b ∈ X.ex, b ≠ X.env.locals /\ ∀ x c, X.env.cells.lookup x = some c -> c ≠ b
 bs : ∀ b o, X.base.get? b = some o -> X.s₀.heap.get? b = some o /\ X.H₀ b = none
 bsz : X.base.objs.size <= X.s₀.heap.objs.size
 noex : ∀ b o, X.base.get? b = some o -> b ∉ X.ex
 exfs : ∀ b ∈ X.ex, b ∉ X.fs
 funs : X.s₀.heap.FunFrames X.base X.outer
 frf : ∀ b ∈ X.fs, X.H₀ b = none
structure Inv (X : Cx) (pins : List (Addr × Obj)) (σ : List (Option V)) (H : Hp) (s : Shared) : Prop where
 ok : X.Ok
 os : s.os = X.s₀.os
 bare : AllBare s.gens
 base : Un X.fs X.ex X.H₀ H X.s₀.heap s.heap
 loc : ∃ m, s.heap.Ns X.env.locals m /\ ∀ (i : Nat) (x : Str) (v : V), X.N[i]? = some x -> σ[i]? = some (some v) -> Vis X.env.scope x -> ∃ u, RelV v u /\ Look X.env s.heap m x u
 cell : ∀ x c, X.env.cells.lookup x = some c -> ∃ v, s.heap.IsCell c v
 free : H X.env.locals = none
 freeC : ∀ x c, X.env.cells.lookup x = some c -> H c = none
 pin : ∀ p ∈ X.pn ++ pins, s.heap.get? p.1 = some p.2 /\ H p.1 = none /\ p.1 ≠ X.env.locals /\ p.1 ∉ X.fs /\ ∀ v, p.2.data ≠ .cell v
 hok : HOk X.prog X.w H s.heap
 len : σ.length = X.N.length
section
variable {X : Cx} {pins : List (Addr × Obj)} {σ : List (Option V)} {H H' : Hp} {s : Shared} {h' : Heap}
theorem Cx.Ok.nofr (ok : X.Ok) {b : Addr} {o : Obj} (e : X.base.get? b = some o) : b ∉ X.fs := fun hb => by
 have := (ok.funs.mem hb).1;rw [e] at this; cases this
theorem Inv.bs (I : Inv X pins σ H s) : ∀ b o, X.base.get? b = some o -> s.heap.get? b = some o /\ H b = none := fun b o e =>
 ⟨I.base.keep b o (I.ok.bs b o e).1 (I.ok.bs b o e).2 (I.ok.nofr e) (I.ok.noex b o e), I.base.free b o (I.ok.bs b o e).1 (I.ok.bs b o e).2 (I.ok.noex b o e)⟩
theorem Inv.bk (I : Inv X pins σ H s) : ∀ b o, X.base.get? b = some o -> s.heap.get? b = some o := fun b o e => (I.bs b o e).1
theorem Inv.mod (I : Inv X pins σ H s) : Mod X.K X.mg X.base := I.ok.mod
theorem Inv.kIn (I : Inv X pins σ H s) : X.K.In s.heap := I.ok.mod.kin.keeps I.bk
theorem Inv.lt (I : Inv X pins σ H s) : X.env.locals < s.heap.objs.size := let ⟨_, hn, _⟩ := I.loc; hn.lt
theorem Inv.sz (I : Inv X pins σ H s) : X.s₀.heap.objs.size <= s.heap.objs.size := Nat.le_trans I.ok.above (Nat.le_of_lt I.lt)
theorem Inv.nofs (I : Inv X pins σ H s) {a : Addr} (h : s.heap.objs.size <= a) : a ∉ X.fs := fun hb => by
 obtain ⟨_, o, ho, _⟩ := I.ok.funs.mem hb;exact absurd (Nat.lt_of_lt_of_le (Heap.lt_size ho) (Nat.le_trans I.sz h)) (Nat.lt_irrefl _)
theorem Inv.cne (I : Inv X pins σ H s) : ∀ x c, X.env.cells.lookup x = some c -> c ≠ X.env.locals := fun x c e z => by
 obtain ⟨v, o, ho, hd⟩ := I.cell x c e;obtain ⟨m, ⟨o', es, ep, ho', hd', _⟩, _⟩ := I.loc;rw [z, ho'] at ho; cases ho; rw [hd'] at hd; cases hd
theorem Inv.funs (I : Inv X pins σ H s) : s.heap.FunFrames X.base X.outer := by
 have all : ∀ (l : List Env), (∀ b ∈ frs l, b ∈ X.fs) -> X.s₀.heap.FunFrames X.base l -> s.heap.FunFrames X.base l := by
  intro l
  induction l with
  | nil => intro _ _; trivial
  | cons env r ih =>
   intro hs hl;obtain ⟨hk, ⟨L, o, hf, hn, ho, hd⟩, hr⟩ := hl;have hL : L ∈ X.fs := hs L (by unfold frs; rw [List.filterMap_cons, hf]; exact List.mem_cons_self)
   obtain ⟨sl, e⟩ := I.base.slot L o ho (I.ok.frf L hL) hL fun z => I.ok.exfs L z hL;exact ⟨hk, ⟨L, _, hf, hn, e, hd⟩, ih (fun b hb => hs b (by unfold frs; rw [List.filterMap_cons, hf]; exact List.mem_cons_of_mem _ hb)) hr⟩
 exact all X.outer (fun _ hb => hb) I.ok.funs
theorem Inv.stack (I : Inv X pins σ H s) : s.heap.FunFrames X.base X.stack := by
 rcases I.ok.stk with e | ⟨e, hf⟩
 ·rw [e]; exact I.funs
 ·rw [e];obtain ⟨m, hn, _⟩ := I.loc;refine .cons (by rw [I.ok.kind]; decide) hf hn ?_ I.funs
  exact Heap.get?_none_of_le (Nat.le_trans I.ok.bsz I.ok.above)
theorem Inv.stkSub (I : Inv X pins σ H s) : ∀ b ∈ frs X.stack, b ∈ X.env.locals :: X.fs := fun b hb => by
 rcases I.ok.stk with e | ⟨e, hf⟩
 ·rw [e] at hb; exact List.mem_cons_of_mem _ hb
 ·rw [e] at hb;unfold frs at hb;rw [List.filterMap_cons, hf] at hb;exact hb
theorem Inv.stkFree (I : Inv X pins σ H s) : ∀ b ∈ frs X.stack, H b = none := fun b hb => by
 rcases List.mem_cons.mp (I.stkSub b hb) with e | hb
 ·rw [e]; exact I.free
 ·obtain ⟨_, o, ho, _⟩ := I.ok.funs.mem hb;exact I.base.free b o ho (I.ok.frf b hb) fun z => I.ok.exfs b z hb
theorem Inv.step {g' : Array GenState} {t' : Nat} {d' : Drawn} {ch : List Addr} (I : Inv X pins σ H s)
  (hch : ∀ b ∈ ch, (b ∈ X.ex \/ X.s₀.heap.objs.size <= b) /\ b ≠ X.env.locals /\ (∀ x c, X.env.cells.lookup x = some c -> c ≠ b) /\ ∀ p ∈ X.pn ++ pins, p.1 ≠ b)
  (keep : ∀ b o, b ≠ X.env.locals -> b ∉ X.fs -> b ∉ ch -> s.heap.get? b = some o -> H b = none -> h'.get? b = some o)
  (slot : ∀ b o, b ≠ X.env.locals -> b ∈ X.fs -> b ∉ ch -> s.heap.get? b = some o -> H b = none -> ∃ sl, h'.get? b = some { o with slots := sl }) (free : ∀ b o, b ∉ ch -> s.heap.get? b = some o -> H b = none -> H' b = none)
  (there : ∀ b o, b ∉ ch -> s.heap.get? b = some o -> ∃ o', h'.get? b = some o')
  (tups : ∀ b xs, H b = some (.tup xs) -> H' b = some (.tup xs)) (frzs : ∀ b o u, H b = some (.frz o u) -> H' b = some (.frz o u)) (tbls : ∀ b ps, H b = some (.tbl ps) -> ∃ more, H' b = some (.tbl (ps ++ more))) (sys : H sysModules = none -> H' sysModules = none)
  (ns : ∀ m, s.heap.Ns X.env.locals m -> h'.Ns X.env.locals m) (hok : HOk X.prog X.w H' h') (hg : AllBare g') :
  Inv X pins σ H' { s with heap := h', gens := g', drawn := d', toks := t' } := by
 have neL : ∀ b o, X.s₀.heap.get? b = some o -> b ≠ X.env.locals := fun b o e => Nat.ne_of_lt (Nat.lt_of_lt_of_le (Heap.lt_size e) I.ok.above);have neC : ∀ b o, X.s₀.heap.get? b = some o -> b ∉ X.ex -> b ∉ ch := fun b o e hx hb => by
  rcases (hch b hb).1 with z | z
  ·exact hx z
  ·exact absurd (Nat.lt_of_lt_of_le (Heap.lt_size e) z) (Nat.lt_irrefl _)
 have cellK : ∀ x c, X.env.cells.lookup x = some c -> ∀ v, s.heap.IsCell c v -> h'.IsCell c v := fun x c e v ⟨o, ho, hd⟩ => by
  have nch : c ∉ ch := fun z => (hch c z).2.2.1 x c e rfl;by_cases hc : c ∈ X.fs
  ·obtain ⟨sl, q⟩ := slot c o (I.cne x c e) hc nch ho (I.freeC x c e);exact ⟨_, q, hd⟩
  ·exact ⟨o, keep c o (I.cne x c e) hc nch ho (I.freeC x c e), hd⟩
 refine ⟨I.ok, I.os, hg, ⟨fun b o e n hb hx => ?_, fun b o e n hb hx => ?_, fun b o e n hx => ?_, fun b o e hx => ?_, fun b xs e => tups b xs (I.base.tups b xs e), fun b o xs e => frzs b o xs (I.base.frzs b o xs e), fun b ps e => ?_, fun q => sys (I.base.sys q)⟩, ?_, fun x c e => ?_, ?_, fun x c e => ?_, fun p hp => ?_, hok, I.len⟩
 ·exact keep b o (neL b o e) hb (neC b o e hx) (I.base.keep b o e n hb hx) (I.base.free b o e n hx)
 ·obtain ⟨sl, e1⟩ := I.base.slot b o e n hb hx;obtain ⟨sl', e2⟩ := slot b _ (neL b o e) hb (neC b o e hx) e1 (I.base.free b o e n hx);exact ⟨sl', e2⟩
 ·obtain ⟨o', e1⟩ := I.base.there b o e hx;exact free b o' (neC b o e hx) e1 (I.base.free b o e n hx)
 ·obtain ⟨o', e1⟩ := I.base.there b o e hx;exact there b o' (neC b o e hx) e1
 ·obtain ⟨m1, e1⟩ := I.base.tbls b ps e;obtain ⟨m2, e2⟩ := tbls b _ e1;exact ⟨m1 ++ m2, by rw [e2, Array.append_assoc]⟩
 ·obtain ⟨m, hn, hl⟩ := I.loc;refine ⟨m, ns m hn, fun i x v e1 e2 e3 => ?_⟩;obtain ⟨u, r, l⟩ := hl i x v e1 e2 e3;refine ⟨u, r, ?_⟩;rcases l with l | ⟨k, c, e, z⟩
  ·exact .inl l
  ·exact .inr ⟨k, c, e, cellK x c e _ z⟩
 ·obtain ⟨v, z⟩ := I.cell x c e;exact ⟨v, cellK x c e v z⟩
 ·obtain ⟨m, ⟨o, _, _, ho, _⟩, _⟩ := I.loc;exact free _ o (fun z => (hch _ z).2.1 rfl) ho I.free
 ·obtain ⟨v, o, ho, hd⟩ := I.cell x c e;exact free c o (fun z => (hch c z).2.2.1 x c e rfl) ho (I.freeC x c e)
 ·obtain ⟨e, n, ne, nf, d⟩ := I.pin p hp;have nch : p.1 ∉ ch := fun z => (hch p.1 z).2.2.2 p hp rfl;exact ⟨keep p.1 p.2 ne nf nch e n, free p.1 p.2 nch e n, ne, nf, d⟩
theorem Inv.un {t' : Nat} (I : Inv X pins σ H s) (u : Un X.fs [] H H' s.heap h') (hok : HOk X.prog X.w H' h') : Inv X pins σ H' { s with heap := h', toks := t' } := by
 obtain ⟨m, ⟨o, es, ep, ho, r⟩, _⟩ := id I.loc;obtain ⟨sl, hL⟩ := u.any ho I.free (by simp)
 exact I.step (g' := s.gens) (d' := s.drawn) (ch := []) (fun _ z => nomatch z) (fun b o _ hb _ e n => u.keep b o e n hb (by simp)) (fun b o _ hb _ e n => u.slot b o e n hb (by simp)) (fun b o _ e n => u.free b o e n (by simp)) (fun b o _ e => u.there b o e (by simp)) u.tups u.frzs u.tbls u.sys (fun m' hm => by
  obtain ⟨o', es', ep', ho', r'⟩ := hm;rw [ho] at ho'; cases ho';exact ⟨_, es', ep', hL, r'⟩) hok I.bare
theorem Inv.call {g' : Array GenState} {t' : Nat} {d' : Drawn} {ch : List Addr} (I : Inv X pins σ H s) (u : Un (frs X.stack) ch H H' s.heap h') (hok : HOk X.prog X.w H' h') (hg : AllBare g')
  (hch : ∀ b ∈ ch, (b ∈ X.ex \/ X.s₀.heap.objs.size <= b) /\ b ≠ X.env.locals /\ (∀ x c, X.env.cells.lookup x = some c -> c ≠ b) /\ ∀ p ∈ X.pn ++ pins, p.1 ≠ b) :
  Inv X pins σ H' { s with heap := h', gens := g', drawn := d', toks := t' } := by
 obtain ⟨m, ⟨o, es, ep, ho, r⟩, _⟩ := id I.loc;obtain ⟨sl, hL⟩ := u.any ho I.free fun z => (hch _ z).2.1 rfl;exact I.step (ch := ch) hch (fun b o hL hb hc e n => u.keep b o e n (fun z => (List.mem_cons.mp (I.stkSub b z)).elim hL hb) hc) (fun b o _ _ hc e n => u.any e n hc) (fun b o hc e n => u.free b o e n hc) (fun b o hc e => u.there b o e hc) u.tups u.frzs u.tbls u.sys (fun m' hm => by
  obtain ⟨o', es', ep', ho', r'⟩ := hm;rw [ho] at ho'; cases ho';exact ⟨_, es', ep', hL, r'⟩) hok hg
theorem Inv.turned {t' : Nat} {it : Addr} (I : Inv X pins σ H s) (k : ∀ b o, b ≠ it -> s.heap.get? b = some o -> h'.get? b = some o) (hn : H it = none) (hL : it ≠ X.env.locals)
  (h1 : it ∈ X.ex \/ X.s₀.heap.objs.size <= it) (h2 : ∀ x c, X.env.cells.lookup x = some c -> c ≠ it) (h3 : ∀ p ∈ X.pn ++ pins, p.1 ≠ it) : Inv X pins σ H { s with heap := h', toks := t' } := by
 have nit : ∀ b u, H b = some u -> b ≠ it := fun b u e z => by rw [z, hn] at e; cases e
 refine I.step (g' := s.gens) (d' := s.drawn) (ch := [it]) (fun b hb => ?_) (fun b o _ _ hc e _ => k b o (fun z => hc (by simp [z])) e) (fun b o _ _ hc e _ => ⟨o.slots, k b o (fun z => hc (by simp [z])) e⟩) (fun _ _ _ _ n => n)
  (fun b o hc e => ⟨o, k b o (fun z => hc (by simp [z])) e⟩) (fun _ _ e => e) (fun _ _ _ e => e) (fun b ps e => ⟨#[], by rw [e]; simp⟩) (fun q => q) (fun m hm => ?_) (fun b u e => ?_) I.bare
 ·have e : b = it := by simpa using hb
  subst e;exact ⟨h1, hL, h2, h3⟩
 ·obtain ⟨o, es, ep, ho, r⟩ := hm;exact ⟨o, es, ep, k _ o (Ne.symm hL) ho, r⟩
 ·refine (I.hok b u e).stay (fun c v hc q => k c v ?_ q) (fun _ q => q) fun _ _ q => q;rcases hc with z | z
  ·rw [z]; exact nit b u e
  ·exact nit c _ z
theorem Inv.tok (I : Inv X pins σ H s) (t : Nat) : Inv X pins σ H { s with toks := t } := I.un (h' := s.heap) (t' := t) Un.refl I.hok
theorem Inv.kept {t' : Nat} (I : Inv X pins σ H s) (k : ∀ b u, s.heap.get? b = some u -> h'.get? b = some u) : Inv X pins σ H { s with heap := h', toks := t' } := I.un (Un.kept k) (I.hok.kept k)
theorem Inv.laid {a : Addr} {o : HO} {t' : Nat} (I : Inv X pins σ H s) (k : ∀ b u, s.heap.get? b = some u -> h'.get? b = some u) (hp : s.heap.objs.size <= a) (new : ObjOk X.prog X.w (upd H a o) h' a o) :
  Inv X pins σ (upd H a o) { s with heap := h', toks := t' } := I.un (Un.laid k hp (I.hok.fresh hp) (Nat.lt_trans (by decide : sysModules < mainGlobals) (I.mod.glob.keeps I.bk).lt)) (I.hok.laid k hp new)
theorem Inv.write {x e : Addr} {o : HO} {t' : Nat} (I : Inv X pins σ H s) (mu : Mut (H x)) (he : e = x \/ H e = some (.own x)) (k : ∀ b u, b ≠ e -> s.heap.get? b = some u -> h'.get? b = some u) (heo : ∃ u, h'.get? e = some u)
  (new : ObjOk X.prog X.w (upd H x o) h' x o) : Inv X pins σ (upd H x o) { s with heap := h', toks := t' } := I.un (Un.write mu he k heo) (I.hok.write mu he k heo new)
theorem Inv.pins_of {pins' : List (Addr × Obj)} (I : Inv X pins σ H s) (h : ∀ p ∈ pins', s.heap.get? p.1 = some p.2 /\ H p.1 = none /\ p.1 ≠ X.env.locals /\ p.1 ∉ X.fs /\ ∀ v, p.2.data ≠ .cell v) : Inv X pins' σ H s :=
 ⟨I.ok, I.os, I.bare, I.base, I.loc, I.cell, I.free, I.freeC, fun p hp => (List.mem_append.mp hp).elim (fun z => I.pin p (List.mem_append_left _ z)) (h p), I.hok, I.len⟩
theorem nodup_ix {N : List Str} (hN : N.Nodup) {i j : Nat} {x : Str} (a : N[i]? = some x) (b : N[j]? = some x) : i = j := by
 obtain ⟨h1, e1⟩ := List.getElem?_eq_some_iff.mp a;obtain ⟨h2, e2⟩ := List.getElem?_eq_some_iff.mp b;exact (List.getElem_inj hN).mp (e1.trans e2.symm)
theorem store_ok2 {M : Model} {A : Around} {E : Value -> Shared -> Prop} {i : Nat} {x : Str} {v : V} {u : Value} {Q : Unit -> Shared -> Prop} (I : Inv X pins σ H s) (hN : X.N.Nodup) (hi : X.N[i]? = some x) (hx : Loc X.env.scope x) (r : RelV v u)
  (h : ∀ s', Inv X pins (σ.set i (some v)) H s' -> (∃ a, Heap.SameBut a s.heap s'.heap /\ (a = X.env.locals \/ X.env.cells.lookup x = some a)) -> Q () s') (hf : X.fn x = true \/ X.env.scope.names.lookup x = some .local := by first | exact .inl rfl | exact .inr rfl | assumption) : wpAny M A (storeName X.env x u) Q E s := by
 obtain ⟨m, hn, hl⟩ := id I.loc;have hcls : (X.env.scope.kind == .class || (X.env.scope.kind == .module && X.env.locals != X.env.globals)) = false := by rw [I.ok.kind]; rfl
 have hiσ : i < σ.length := by rw [I.len]; exact (List.getElem?_eq_some_iff.mp hi).1
 have cne := I.cne;have tracked : ∀ {a : Addr} {h' : Heap}, (∃ o, s.heap.get? a = some o /\ H a = none) -> Heap.SameBut a s.heap h' -> HOk X.prog X.w H h' := fun {a h'} ha hs b ob e => by
  obtain ⟨_, _, hfree⟩ := ha;refine (I.hok b ob e).stay (fun c w' hc q => (hs.2 c ?_).trans q) (fun _ q => q) fun _ _ q => q;rintro rfl;rcases hc with rfl | hc
  ·rw [hfree] at e; cases e
  ·rw [hfree] at hc; cases hc
 rcases hx with hk | hk
 ·refine wpAny_storeName_local hk hn (fun h' hn' hs => ?_) hcls;obtain ⟨oL, _, _, hoL, _⟩ := id hn;refine h _ ⟨I.ok, I.os, I.bare, ⟨fun b o e n hb hx => ?_, fun b o e n hb hx => ?_, I.base.free, fun b o e hx => ?_, I.base.tups, I.base.frzs, I.base.tbls, I.base.sys⟩, ⟨_, hn', fun j y v' e1 e2 e3 => ?_⟩, fun y c e => ?_, I.free, I.freeC, fun p hp => ?_, tracked ⟨oL, hoL, I.free⟩ hs, by simpa using I.len⟩ ⟨_, hs, .inl rfl⟩
  ·exact (hs.2 b (Nat.ne_of_lt (Nat.lt_of_lt_of_le (Heap.lt_size e) I.ok.above))).trans (I.base.keep b o e n hb hx)
  ·obtain ⟨sl, e1⟩ := I.base.slot b o e n hb hx;exact ⟨sl, (hs.2 b (Nat.ne_of_lt (Nat.lt_of_lt_of_le (Heap.lt_size e) I.ok.above))).trans e1⟩
  ·obtain ⟨o', e1⟩ := I.base.there b o e hx;exact ⟨o', (hs.2 b (Nat.ne_of_lt (Nat.lt_of_lt_of_le (Heap.lt_size e) I.ok.above))).trans e1⟩
  ·by_cases hj : j = i
   ·subst hj;rw [hi] at e1; cases e1;rw [List.getElem?_set_self hiσ] at e2;cases e2;exact ⟨u, r, .inl ⟨hk, by simp⟩⟩
   ·rw [List.getElem?_set_ne (Ne.symm hj)] at e2;obtain ⟨u', r', q⟩ := hl j y v' e1 e2 e3;refine ⟨u', r', ?_⟩;rcases q with ⟨k, e⟩ | ⟨k, c, e, z⟩
    ·refine .inl ⟨k, ?_⟩;have : y ≠ x := fun e => hj (nodup_ix hN e1 (e ▸ hi));simp [this, e]
    ·exact .inr ⟨k, c, e, z.sameBut hs (cne y c e)⟩
  ·obtain ⟨w', z⟩ := I.cell y c e;exact ⟨w', z.sameBut hs (cne y c e)⟩
  ·obtain ⟨e, n, ne, nf, d⟩ := I.pin p hp;exact ⟨(hs.2 p.1 ne).trans e, n, ne, nf, d⟩
 ·have hfn : X.fn x = true := by
   rcases hf with z | z
   ·exact z
   ·rw [z] at hk; cases hk
  obtain ⟨c, hc⟩ := I.ok.has x (.inl hk);obtain ⟨w', z⟩ := I.cell x c hc;refine wpAny_storeName_cell I.ok.kind hk hc z (fun h' hc' hs => ?_);obtain ⟨oc, hoc, hocd⟩ := id z;refine h { s with heap := h' } ⟨I.ok, I.os, I.bare, ⟨fun b o e n hb hx => ?_, fun b o e n hb hx => ?_, I.base.free, fun b o e hx => ?_, I.base.tups, I.base.frzs, I.base.tbls, I.base.sys⟩, ⟨m, hn.sameBut hs (Ne.symm (cne x c hc)), fun j y v' e1 e2 e3 => ?_⟩, fun y c' e => ?_, I.free, I.freeC, fun p hp => ?_, tracked ⟨oc, hoc, I.freeC x c hc⟩ hs, by simpa using I.len⟩ ⟨c, hs, .inr hc⟩
  ·exact (hs.2 b (Nat.ne_of_lt (Nat.lt_of_lt_of_le (Heap.lt_size e) (I.ok.cab x c hfn hc)))).trans (I.base.keep b o e n hb hx)
  ·obtain ⟨sl, e1⟩ := I.base.slot b o e n hb hx;exact ⟨sl, (hs.2 b (Nat.ne_of_lt (Nat.lt_of_lt_of_le (Heap.lt_size e) (I.ok.cab x c hfn hc)))).trans e1⟩
  ·obtain ⟨o', e1⟩ := I.base.there b o e hx;exact ⟨o', (hs.2 b (Nat.ne_of_lt (Nat.lt_of_lt_of_le (Heap.lt_size e) (I.ok.cab x c hfn hc)))).trans e1⟩
  ·by_cases hj : j = i
   ·subst hj;rw [hi] at e1; cases e1;rw [List.getElem?_set_self hiσ] at e2;cases e2;exact ⟨u, r, .inr ⟨.inl hk, c, hc, hc'⟩⟩
   ·rw [List.getElem?_set_ne (Ne.symm hj)] at e2;obtain ⟨u', r', q⟩ := hl j y v' e1 e2 e3;refine ⟨u', r', ?_⟩;rcases q with q | ⟨k, c', e, z'⟩
    ·exact .inl q
    ·refine .inr ⟨k, c', e, z'.sameBut hs ?_⟩;rintro rfl;exact hj (nodup_ix hN e1 (I.ok.inj _ _ _ e hc ▸ hi))
  ·by_cases hcc : c' = c
   ·subst hcc; exact ⟨_, hc'⟩
   ·obtain ⟨w2, z2⟩ := I.cell y c' e;exact ⟨w2, z2.sameBut hs hcc⟩
  ·obtain ⟨e, n, ne, nf, d⟩ := I.pin p hp;refine ⟨(hs.2 p.1 ?_).trans e, n, ne, nf, d⟩;intro q;rw [q, hoc] at e;have q' : oc = p.2 := Option.some.inj e;exact d w' (by rw [<- q']; exact hocd)
theorem store_ok {M : Model} {A : Around} {E : Value -> Shared -> Prop} {i : Nat} {x : Str} {v : V} {u : Value} {Q : Unit -> Shared -> Prop} (I : Inv X pins σ H s) (hN : X.N.Nodup) (hi : X.N[i]? = some x) (hx : Loc X.env.scope x) (r : RelV v u)
  (h : ∀ s', Inv X pins (σ.set i (some v)) H s' -> Q () s') (hf : X.fn x = true \/ X.env.scope.names.lookup x = some .local := by first | exact .inl rfl | exact .inr rfl | assumption) : wpAny M A (storeName X.env x u) Q E s :=
 store_ok2 I hN hi hx r (fun s' I' _ => h s' I') hf
theorem Inv.call' {s' : Shared} {ch : List Addr} (I : Inv X pins σ H s) (ho : s'.os = s.os) (u : Un (frs X.stack) ch H H' s.heap s'.heap) (hok : HOk X.prog X.w H' s'.heap) (hg : AllBare s'.gens)
  (hch : ∀ b ∈ ch, (b ∈ X.ex \/ X.s₀.heap.objs.size <= b) /\ b ≠ X.env.locals /\ (∀ x c, X.env.cells.lookup x = some c -> c ≠ b) /\ ∀ p ∈ X.pn ++ pins, p.1 ≠ b) : Inv X pins σ H' s' := by
 obtain ⟨h', g', d', t', o'⟩ := s';have e : o' = s.os := ho;subst e;exact I.call (g' := g') (t' := t') (d' := d') u hok hg hch
end
abbrev XK := Value -> Option Addr -> Hp -> Prop
abbrev St := List (Option V)
abbrev VK := V -> Hp -> Prop
abbrev TE := St -> Hp -> VK -> Prop
abbrev TT := St -> Hp -> (Bool -> Hp -> Prop) -> Prop
abbrev TA := St -> Hp -> (List V -> Hp -> Prop) -> Prop
structure Ends where
 nx : St -> Hp -> Prop
 rt : VK
 bk : St -> Hp -> Prop := fun _ _ => False
 ct : St -> Hp -> Prop := fun _ _ => False
abbrev TS := Ends -> St -> Hp -> Prop
def EP (X : Cx) (pins : List (Addr × Obj)) (σ : St) (Q : VK) (u : Value) (s' : Shared) : Prop := ∃ v H', Inv X pins σ H' s' /\ RelV v u /\ Q v H'
def TP (X : Cx) (pins : List (Addr × Obj)) (σ : St) (Q : Bool -> Hp -> Prop) (b : Bool) (s' : Shared) : Prop := ∃ H', Inv X pins σ H' s' /\ Q b H'
def AP (X : Cx) (pins : List (Addr × Obj)) (σ : St) (Q : List V -> Hp -> Prop) (us : List Value) (s' : Shared) : Prop := ∃ vs H', Inv X pins σ H' s' /\ Vals vs us /\ Q vs H'
def SP (X : Cx) (pins : List (Addr × Obj)) (D : Ends) (f : Flow) (s' : Shared) : Prop :=
 match f with
 | .next => ∃ σ' H', Inv X pins σ' H' s' /\ D.nx σ' H'
 | .brk => ∃ σ' H', Inv X pins σ' H' s' /\ D.bk σ' H'
 | .cont => ∃ σ' H', Inv X pins σ' H' s' /\ D.ct σ' H'
 | .ret u => ∃ v σ' H', Inv X pins σ' H' s' /\ RelV v u /\ D.rt v H'
def PE (X : Cx) (e : Expr) (t : TE) : Prop :=
 ∀ (pins : List (Addr × Obj)) (s : Shared) (σ : St) (H : Hp) (Q : VK), Inv X pins σ H s -> t σ H Q -> wpAny (model X.prog X.w) X.A (eval e X.env) (EP X pins σ Q) X.xe s
def PT (X : Cx) (e : Expr) (t : TT) : Prop :=
 ∀ (pins : List (Addr × Obj)) (s : Shared) (σ : St) (H : Hp) (Q : Bool -> Hp -> Prop), Inv X pins σ H s -> t σ H Q -> wpAny (model X.prog X.w) X.A (isTrue e X.env (eval e X.env)) (TP X pins σ Q) X.xe s
def PW (X : Cx) (e : Expr) (t : TT) : Prop :=
 ∀ (whole : Sem Value) (pins : List (Addr × Obj)) (s : Shared) (σ : St) (H : Hp) (Q : Bool -> Hp -> Prop), Inv X pins σ H s -> t σ H Q -> wpAny (model X.prog X.w) X.A (isTrue e X.env whole) (TP X pins σ Q) X.xe s
theorem PW.pt {X : Cx} {e : Expr} {t : TT} (h : PW X e t) : PT X e t := h _
def PA (X : Cx) (es : List Expr) (t : TA) : Prop :=
 ∀ (pos : Pos) (pins : List (Addr × Obj)) (s : Shared) (σ : St) (H : Hp) (Q : List V -> Hp -> Prop), Inv X pins σ H s -> t σ H Q -> wpAny (model X.prog X.w) X.A (spliced (backTo pos (starEach es X.env))) (AP X pins σ Q) X.xe s
def PS (X : Cx) (st : Stmt) (t : TS) : Prop :=
 ∀ (pins : List (Addr × Obj)) (s : Shared) (σ : St) (H : Hp) (D : Ends), Inv X pins σ H s -> t D σ H -> wpAny (model X.prog X.w) X.A (exec st X.env) (SP X pins D) X.xe s
def PSs (X : Cx) (st : List Stmt) (t : TS) : Prop :=
 ∀ (pins : List (Addr × Obj)) (s : Shared) (σ : St) (H : Hp) (D : Ends), Inv X pins σ H s -> t D σ H -> wpAny (model X.prog X.w) X.A (execs st X.env) (SP X pins D) X.xe s
theorem thn {α : Type} {t : Sem α} {Q Q' : α -> Shared -> Prop} {M : Model} {A : Around} {E : Value -> Shared -> Prop} {s : Shared} (h : wpAny M A t Q E s) (hQ : ∀ a s, Q a s -> Q' a s) : wpAny M A t Q' E s := wpAny_mono h hQ fun _ _ x => x
section
variable {X : Cx}
theorem bin {a b : Expr} {ta tb : TE} (ha : PE X a ta) (hb : PE X b tb) {pins : List (Addr × Obj)} {s : Shared} {σ : St} {H : Hp} {R : V -> V -> Hp -> Prop} (I : Inv X pins σ H s) (h : ta σ H fun x H1 => tb σ H1 fun y H2 => R x y H2)
  {α : Type} {Q : α -> Shared -> Prop} {f : Value -> Value -> Sem α}
  (hf : ∀ v u s2 x y H2, Inv X pins σ H2 s2 -> RelV x v -> RelV y u -> R x y H2 -> wpAny (model X.prog X.w) X.A (f v u) Q X.xe s2) :
  wpAny (model X.prog X.w) X.A (eval a X.env) (fun v s₁ => wpAny (model X.prog X.w) X.A (eval b X.env) (fun u s₂ => wpAny (model X.prog X.w) X.A (f v u) Q X.xe s₂) X.xe s₁) X.xe s := by
 refine thn (ha pins s σ H _ I h) fun v s1 ⟨x, H1, I1, r1, q1⟩ => ?_;refine thn (hb pins s1 σ H1 _ I1 q1) fun u s2 ⟨y, H2, I2, r2, q2⟩ => ?_;exact hf v u s2 x y H2 I2 r1 r2 q2
def tVr (i : Nat) : TE := fun σ H Q => ∃ v, σ[i]? = some (some v) /\ Q v H
def tC (v : V) : TE := fun _ H Q => Q v H
theorem pe_var {i : Nat} {x : Str} {pos : Pos} (hN : X.N[i]? = some x) (hv : Vis X.env.scope x) (hd : (x == ("__debug__" : Str)) = false := by decide) (hcd : (x == ("__classdict__" : Str)) = false := by decide) : PE X (.Name x pos) (tVr i) := by
 intro pins s σ H Q I h;obtain ⟨v, e, h⟩ := h;obtain ⟨m, hn, hl⟩ := I.loc;obtain ⟨u, r, l⟩ := hl i x v hN e hv;have fin : EP X pins σ Q u s := ⟨v, H, I, r, h⟩;rcases l with ⟨hk, hm⟩ | ⟨hk, c, hc, hcell⟩
 ·exact wpAny_Name (wpAny_loadName_local I.ok.kind hk hn hm fin) hd
 ·rcases hk with hk | hk
  ·exact wpAny_Name (wpAny_loadName_cell I.ok.kind hk hc hcell fin) hd
  ·exact wpAny_Name (wpAny_loadName_free I.ok.kind hk hc hcell fin hcd) hd
theorem pei {i j pos} : PE X (.Constant (.int i) j pos) (tC (.int i)) := fun _ _ _ H _ I h => wpAny_Constant_int ⟨.int i, H, I.tok _, ⟨_, rfl⟩, h⟩
theorem peb {b j pos} : PE X (.Constant (.bool b) j pos) (tC (.bl b)) := fun _ _ _ H _ I h => Constant_bool ⟨.bl b, H, I, rfl, h⟩
theorem pe_non {j pos} : PE X (.Constant .none j pos) (tC .non) := fun _ _ _ H _ I h => Constant_none ⟨.non, H, I, rfl, h⟩
theorem pe_str {x j pos} : PE X (.Constant (.str x) j pos) (tC (.str x)) := fun _ _ _ H _ I h => Calls.Constant_str ⟨.str x, H, I.tok _, ⟨_, rfl⟩, h⟩
def Gl (X : Cx) (x : Str) : Prop := X.env.kindOf x = some .globalImplicit
theorem ld_glob {E : Value -> Shared -> Prop} {pins : List (Addr × Obj)} {s : Shared} {σ : St} {H : Hp} {x : Str} {u : Value} {pos : Pos} {Q : Value -> Shared -> Prop} (I : Inv X pins σ H s) (hg : Gl X x) (hm : X.mg x = some u) (h : Q u s)
  (hd : (x == ("__debug__" : Str)) = false := by decide) : wpAny (model X.prog X.w) X.A (eval (.Name x pos) X.env) Q E s :=
 Calls.Name_function_global I.ok.kind hg (Calls.loadGlobal_global (by rw [I.ok.glob]; exact I.mod.glob.keeps I.bk) hm h) hd
theorem ld_blt {E : Value -> Shared -> Prop} {pins : List (Addr × Obj)} {s : Shared} {σ : St} {H : Hp} {x : Str} {u : Value} {pos : Pos} {Q : Value -> Shared -> Prop} (I : Inv X pins σ H s) (hg : Gl X x) (hm : X.mg x = none) (hv : bootBuiltins x = some u) (h : Q u s)
  (hn : x ≠ "__name__" := by decide) (hd : (x == ("__debug__" : Str)) = false := by decide) : wpAny (model X.prog X.w) X.A (eval (.Name x pos) X.env) Q E s := by
 obtain ⟨mb, h1, h2⟩ := I.mod.blt;exact Calls.Name_function_global I.ok.kind hg (Calls.loadGlobal_builtin (by rw [I.ok.glob]; exact I.mod.glob.keeps I.bk) hm (by rw [I.ok.blt]; exact h1.keeps I.bk) ((h2 x hn).trans hv) h) hd
theorem pe_glob {x : Str} {v : V} {u : Value} {pos : Pos} (hg : Gl X x) (hm : X.mg x = some u) (r : RelV v u) (hd : (x == ("__debug__" : Str)) = false := by decide) : PE X (.Name x pos) (tC v) :=
 fun _ _ _ H _ I h => ld_glob I hg hm ⟨v, H, I, r, h⟩ hd
theorem pe_bltn {x : Str} {v : V} {u : Value} {pos : Pos} (hg : Gl X x) (hm : X.mg x = none) (hv : bootBuiltins x = some u) (r : RelV v u) (hn : x ≠ "__name__" := by decide) (hd : (x == ("__debug__" : Str)) = false := by decide) : PE X (.Name x pos) (tC v) :=
 fun _ _ _ H _ I h => ld_blt I hg hm hv ⟨v, H, I, r, h⟩ hn hd
variable {a b : Expr} {ta tb : TE} {pos : Pos}
def PC (X : Cx) (op : CmpOp) (a b : Expr) (t : TE) : Prop :=
 ∀ (pins : List (Addr × Obj)) (s : Shared) (σ : St) (H : Hp) (Q : VK), Inv X pins σ H s -> t σ H Q ->
  wpAny (model X.prog X.w) X.A (eval a X.env) (fun v s₁ => wpAny (model X.prog X.w) X.A (eval b X.env) (fun u s₂ => wpAny (model X.prog X.w) X.A (compareOp op v u) (EP X pins σ Q) X.xe s₂) X.xe s₁) X.xe s
theorem nobehind (b : Expr) {op : CmpOp} (h : op ≠ .In) (h2 : op ≠ .NotIn) : behindInMarks op b = false := by
 have e1 : (op == CmpOp.In) = false := by cases op <;> first | rfl | exact absurd rfl h
 have e2 : (op == CmpOp.NotIn) = false := by cases op <;> first | rfl | exact absurd rfl h2
 cases b <;> simp [behindInMarks, e1, e2]
def tIsN (ta : TE) : TE := fun σ H Q => ta σ H fun x H1 => Q (.bl (decide (x = .non))) H1
theorem RelV.none_iff {x : V} {v : Value} (r : RelV x v) : (v == Value.none) = decide (x = .non) := by
 cases x with
 | non => cases r; rfl
 | bl _ => cases r; rfl
 | int _ => obtain ⟨t, rfl⟩ := r; rfl
 | str _ => obtain ⟨t, rfl⟩ := r; rfl
 | byt _ => obtain ⟨t, rfl⟩ := r; rfl
 | flt _ => obtain ⟨t, rfl⟩ := r; rfl
 | ref _ => cases r; rfl
 | ty _ => cases r; rfl
theorem pc_isN {j pos'} (ha : PE X a ta) : PC X .Is a (.Constant .none j pos') (tIsN ta) := by
 intro pins s σ H Q I h;refine thn (ha pins s σ H _ I h) fun v s1 ⟨x, H1, I1, r1, q1⟩ => ?_;exact Constant_none (is_none_gen ⟨.bl _, H1, I1, by rw [r1.none_iff]; rfl, q1⟩)
def tB (t : TE) : TT := fun σ H Q => t σ H fun x H1 => ∃ c, x = .bl c /\ Q c H1
theorem pt_cmp {op : CmpOp} {t : TE} (h : PC X op a b t) (h1 : behindInMarks op b = false := by first | exact nobehind _ (by decide) (by decide) | rfl) : PT X (.Compare a [op] [b] pos) (tB t) := by
 intro pins s σ H Q I hw;refine wpAny_isTrue_Compare1 (thn (h pins s σ H _ I hw) fun v s1 h1 => thn h1 fun u s2 h2 => thn h2 fun c s3 ⟨x, H1, I1, r1, q1⟩ => ?_) h1;obtain ⟨d, rfl, q⟩ := q1;cases r1;exact wpAny_truthy_bool ⟨H1, I1, q⟩
theorem pt_val {e : Expr} {t : TE} (h : PE X e t) (he : ∀ whole, isTrue e X.env whole = (do let v <- whole; standAt e.pos; holding [v] (truthy v)) := by intro _; rfl) : PT X e (tB t) := by
 intro pins s σ H Q I hw;refine isTrue_plain (thn (h pins s σ H _ I hw) fun v s1 ⟨x, H1, I1, r1, q1⟩ => ?_) (he _);obtain ⟨d, rfl, q⟩ := q1;cases r1;exact wpAny_truthy_bool ⟨H1, I1, q⟩
variable {tA tB' : TT} {rest : List Expr}
def tAnd (t u : TT) : TT := fun σ H Q => t σ H fun c H1 => if c = true then u σ H1 Q else Q false H1
def tOr (t u : TT) : TT := fun σ H Q => t σ H fun c H1 => if c = true then Q true H1 else u σ H1 Q
def tNot (t : TT) : TT := fun σ H Q => t σ H fun c H1 => Q (!c) H1
theorem pw_and1 (ha : PT X a tA) : PW X (.BoolOp .And [a] pos) tA := by
 intro wh pins s σ H Q I h;refine isTrue_and (thn (ha pins s σ H Q I h) fun c s1 e => ?_);cases c with
 | true => exact isTrue_and_nil e
 | false => exact e
theorem pw_or1 (ha : PT X a tA) : PW X (.BoolOp .Or [a] pos) tA := by
 intro wh pins s σ H Q I h;refine isTrue_or (thn (ha pins s σ H Q I h) fun c s1 e => ?_);cases c with
 | false => exact isTrue_or_nil e
 | true => exact e
theorem pw_and (ha : PT X a tA) (hb : PW X (.BoolOp .And (b :: rest) pos) tB') : PW X (.BoolOp .And (a :: b :: rest) pos) (tAnd tA tB') := by
 intro wh pins s σ H Q I h;refine isTrue_and (thn (ha pins s σ H _ I h) fun c s1 ⟨H1, I1, q1⟩ => ?_);cases c with
 | true => exact hb wh pins s1 σ H1 Q I1 q1
 | false => exact ⟨H1, I1, q1⟩
theorem pw_or (ha : PT X a tA) (hb : PW X (.BoolOp .Or (b :: rest) pos) tB') : PW X (.BoolOp .Or (a :: b :: rest) pos) (tOr tA tB') := by
 intro wh pins s σ H Q I h;refine isTrue_or (thn (ha pins s σ H _ I h) fun c s1 ⟨H1, I1, q1⟩ => ?_);cases c with
 | true => exact ⟨H1, I1, q1⟩
 | false => exact hb wh pins s1 σ H1 Q I1 q1
theorem pt_not (ha : PT X a tA) : PT X (.UnaryOp .Not a pos) (tNot tA) := by
 intro pins s σ H Q I h;exact isTrue_not (ha pins s σ H (fun c H1 => Q (!c) H1) I h)
def tAndV (ta tb : TE) : TE := fun σ H Q => ta σ H fun x H1 => ∃ c, x = .bl c /\ if c = true then tb σ H1 Q else Q (.bl false) H1
def tNotV (ta : TE) : TE := fun σ H Q => ta σ H fun x H1 => ∃ c, x = .bl c /\ Q (.bl (!c)) H1
theorem pe_one {op} {t : TE} (h : PE X a t) : PE X (.BoolOp op [a] pos) t := fun pins s σ H Q I hw => BoolOp_one (h pins s σ H Q I hw)
theorem pe_and (ha : PE X a ta) (hb : PE X (.BoolOp .And (b :: rest) pos) tb) : PE X (.BoolOp .And (a :: b :: rest) pos) (tAndV ta tb) := by
 intro pins s σ H Q I h;refine BoolOp_and (thn (ha pins s σ H _ I h) fun v s1 ⟨x, H1, I1, r1, q1⟩ => ?_);obtain ⟨c, rfl, q1⟩ := q1;cases r1;refine wpAny_truthy_bool ?_;cases c with
 | true => exact hb pins s1 σ H1 Q I1 q1
 | false => exact ⟨.bl false, H1, I1, rfl, q1⟩
theorem pe_not (ha : PE X a ta) : PE X (.UnaryOp .Not a pos) (tNotV ta) := by
 intro pins s σ H Q I h;refine UnaryOp_ (thn (ha pins s σ H _ I h) fun v s1 ⟨x, H1, I1, r1, q1⟩ => ?_);obtain ⟨c, rfl, q1⟩ := q1;cases r1;exact not_of (wpAny_truthy_bool ⟨.bl (!c), H1, I1, rfl, q1⟩)
def tIf (t : TT) (ta tb : TE) : TE := fun σ H Q => t σ H fun c H1 => if c = true then ta σ H1 Q else tb σ H1 Q
theorem pe_ifExp {c : Expr} (hc : PT X c tA) (ha : PE X a ta) (hb : PE X b tb) : PE X (.IfExp c a b pos) (tIf tA ta tb) := by
 intro pins s σ H Q I h;refine wpAny_IfExp (thn (hc pins s σ H _ I h) fun d s1 ⟨H1, I1, q1⟩ => ?_);cases d with
 | true => exact ha pins s1 σ H1 Q I1 q1
 | false => exact hb pins s1 σ H1 Q I1 q1
end
def SqL (K : PySem.W.Frag) (H : Hp) (a : Addr) (xs : List V) : Prop :=
 Rd H a (.lst xs) \/
  ∃ (o : Obj) (its : Array Value) (n : Nat), K.lookup a = some o /\ o.cls = .type "list" /\ o.dict = none /\ o.data = .seq its n /\ its.size <= sizeLine /\ Vals xs its.toList
def SqT (K : PySem.W.Frag) (H : Hp) (a : Addr) (xs : List V) : Prop :=
 Rd H a (.tup xs) \/
  ∃ (o : Obj) (its : Array Value) (n : Nat), K.lookup a = some o /\ o.cls = .type "tuple" /\ o.data = .seq its n /\ its.size <= sizeLine /\ Vals xs its.toList
def absV : Value -> Option V
 | .none => some .non
 | .bool b => some (.bl b)
 | .int i _ => some (.int i)
 | .str x _ => some (.str x)
 | .bytes b _ => some (.byt b)
 | .float b _ => some (.flt b)
 | .ref a => some (.ref a)
 | .type n => some (.ty n)
 | _ => none
theorem RelV.abs {x : V} {u : Value} (r : RelV x u) : absV u = some x := by
 cases x with
 | non => cases r; rfl
 | bl _ => cases r; rfl
 | int _ => obtain ⟨t, rfl⟩ := r; rfl
 | str _ => obtain ⟨t, rfl⟩ := r; rfl
 | byt _ => obtain ⟨t, rfl⟩ := r; rfl
 | flt _ => obtain ⟨t, rfl⟩ := r; rfl
 | ref _ => cases r; rfl
 | ty _ => cases r; rfl
theorem RelV.inj {x y : V} {u : Value} (r : RelV x u) (q : RelV y u) : x = y := Option.some.inj (r.abs.symm.trans q.abs)
theorem Vals.inj : ∀ {xs ys : List V} {us : List Value}, Vals xs us -> Vals ys us -> xs = ys
 | _, _, _, .nil, .nil => rfl
 | _, _, _, .cons r t, .cons r' t' => by rw [r.inj r', Vals.inj t t']
section
variable {X : Cx} {pins : List (Addr × Obj)} {σ : St} {H : Hp} {s : Shared} {a : Addr} {xs ys : List V}
theorem SqL.of {K : PySem.W.Frag} (h : H a = some (.lst xs)) : SqL K H a xs := .inl (.inl h)
theorem SqT.of {K : PySem.W.Frag} (h : H a = some (.tup xs)) : SqT K H a xs := .inl (.inl h)
theorem Inv.list (I : Inv X pins σ H s) (h : SqL X.K H a xs) : ∃ its : List Value, Vals xs its /\ PlainL s.heap a its.toArray /\ xs.length <= sizeLine := by
 rcases h with h | ⟨o, its, n, hk, hc, hd, hs, hz, r⟩
 ·obtain ⟨z, its, n, r, e⟩ := h.ok I.hok;exact ⟨its, r, ⟨_, n, e, rfl, rfl, rfl⟩, z⟩
 ·refine ⟨its.toList, r, ⟨o, n, I.kIn a o hk, hc, hd, by simpa using hs⟩, ?_⟩
  have e := r.length;simp only [Array.length_toList] at e;omega
theorem Inv.tuple (I : Inv X pins σ H s) (h : SqT X.K H a xs) : ∃ its : List Value, Vals xs its /\ IsTup s.heap a its.toArray /\ xs.length <= sizeLine := by
 rcases h with h | ⟨o, its, n, hk, hc, hs, hz, r⟩
 ·obtain ⟨z, its, r, p⟩ := h.ok I.hok;exact ⟨its, r, p, z⟩
 ·refine ⟨its.toList, r, ⟨o, I.kIn a o hk, hc, n, by simpa using hs⟩, ?_⟩
  have e := r.length;simp only [Array.length_toList] at e;omega
theorem Inv.list_inj (I : Inv X pins σ H s) (h : SqL X.K H a xs) (h' : SqL X.K H a ys) : xs = ys := by
 obtain ⟨its, r, ⟨o, n, e, _, _, d⟩, _⟩ := I.list h;obtain ⟨its', r', ⟨o', n', e', _, _, d'⟩, _⟩ := I.list h';rw [e] at e'; cases e';rw [d] at d';injection d' with d1 _
 have : its = its' := by simpa using congrArg Array.toList d1
 subst this;exact r.inj r'
theorem Inv.tuple_inj (I : Inv X pins σ H s) (h : SqT X.K H a xs) (h' : SqT X.K H a ys) : xs = ys := by
 obtain ⟨its, r, ⟨o, e, _, n, d⟩, _⟩ := I.tuple h;obtain ⟨its', r', ⟨o', e', _, n', d'⟩, _⟩ := I.tuple h';rw [e] at e'; cases e';rw [d] at d';injection d' with d1 _
 have : its = its' := by simpa using congrArg Array.toList d1
 subst this;exact r.inj r'
end
abbrev Cx.wish (X : Cx) (E : Value -> Shared -> Prop) : Cx := { X with xe := E }
abbrev Cx.nox (X : Cx) : Cx := X.wish fun _ _ => False
theorem Cx.Ok.wish {X : Cx} (ok : X.Ok) (E : Value -> Shared -> Prop) : (X.wish E).Ok :=
 ⟨ok.mod, ok.kind, ok.glob, ok.blt, ok.above, ok.inj, ok.has, ok.cab, ok.hd, ok.frames, ok.stk, ok.exf, ok.bs, ok.bsz, ok.noex, ok.exfs, ok.funs, ok.frf⟩
theorem Cx.Ok.unwish {X : Cx} {E : Value -> Shared -> Prop} (ok : (X.wish E).Ok) : X.Ok :=
 ⟨ok.mod, ok.kind, ok.glob, ok.blt, ok.above, ok.inj, ok.has, ok.cab, ok.hd, ok.frames, ok.stk, ok.exf, ok.bs, ok.bsz, ok.noex, ok.exfs, ok.funs, ok.frf⟩
section
variable {X : Cx} {pins : List (Addr × Obj)} {σ : St} {H : Hp} {s : Shared} {E : Value -> Shared -> Prop}
theorem Inv.wish (I : Inv X pins σ H s) (E : Value -> Shared -> Prop) : Inv (X.wish E) pins σ H s := ⟨I.ok.wish E, I.os, I.bare, I.base, I.loc, I.cell, I.free, I.freeC, I.pin, I.hok, I.len⟩
theorem Inv.unwish (I : Inv (X.wish E) pins σ H s) : Inv X pins σ H s := ⟨I.ok.unwish, I.os, I.bare, I.base, I.loc, I.cell, I.free, I.freeC, I.pin, I.hok, I.len⟩
theorem SP.unwish {D : Ends} {f : Flow} {s' : Shared} (h : SP (X.wish E) pins D f s') : SP X pins D f s' := by
 cases f with
 | next => obtain ⟨σ', H', I, q⟩ := h; exact ⟨σ', H', I.unwish, q⟩
 | brk => obtain ⟨σ', H', I, q⟩ := h; exact ⟨σ', H', I.unwish, q⟩
 | cont => obtain ⟨σ', H', I, q⟩ := h; exact ⟨σ', H', I.unwish, q⟩
 | ret u => obtain ⟨v, σ', H', I, r, q⟩ := h; exact ⟨v, σ', H', I.unwish, r, q⟩
theorem PSs.nox {st : List Stmt} {t : TS} (h : PSs X.nox st t) : PSs X st t := fun pins s σ H D I hw =>
 wpAny_mono (h pins s σ H D (I.wish _) hw) (fun _ _ q => q.unwish) fun _ _ z => False.elim z
variable {st : Stmt} {rest : List Stmt} {t u : TS} {e : Expr} {te : TE} {pos : Pos}
def tNext : TS := fun D σ H => D.nx σ H
def tSq (t u : TS) : TS := fun D σ H => t { D with nx := u D } σ H
theorem psn : PSs X [] tNext := fun _ _ σ H _ I h => wpAny_execs_nil ⟨σ, H, I, h⟩
theorem psc (h1 : PS X st t) (h2 : PSs X rest u) : PSs X (st :: rest) (tSq t u) := by
 intro pins s σ H D I h;refine wpAny_execs_cons (thn (h1 pins s σ H { D with nx := u D } I h) fun f s1 q => ?_)
 cases f with
 | next =>
  obtain ⟨σ', H', I', q⟩ := q;exact h2 pins s1 σ' H' D I' q
 | ret v => exact q
 | brk => exact q
 | cont => exact q
theorem pss_one (h1 : PS X st t) : PSs X [st] t := by
 intro pins s σ H D I h;refine wpAny_execs_cons (thn (h1 pins s σ H D I h) fun f s1 q => ?_);cases f with
 | next => exact wpAny_execs_nil q
 | ret v => exact q
 | brk => exact q
 | cont => exact q
theorem Inv.quiet {pins : List (Addr × Obj)} {σ : St} {H : Hp} {s : Shared} (I : Inv X pins σ H s) : interactive X.env = false := by simp [interactive, I.ok.kind]
def tDrop (te : TE) : TS := fun D σ H => te σ H fun _ H1 => D.nx σ H1
theorem ps_expr (he : PE X e te) (hs : swapsWith e none pos.line X.env = pure false := by rfl) : PS X (.Expr e pos) (tDrop te) := by
 intro pins s σ H D I h;exact wpAny_Expr_any (thn (he pins s σ H _ I h) fun v s1 ⟨x, H1, I1, r1, q1⟩ => ⟨σ, H1, I1, q1⟩) I.quiet hs
def tRet (te : TE) : TS := fun D σ H => te σ H D.rt
theorem prt (he : PE X e te) : PS X (.Return (some e) pos) (tRet te) := by
 intro pins s σ H D I h;exact wpAny_Return_some (thn (he pins s σ H _ I h) fun v s1 ⟨x, H1, I1, r1, q1⟩ => ⟨x, σ, H1, I1, r1, q1⟩)
def tIfS (c : TT) (t u : TS) : TS := fun D σ H => c σ H fun b H1 => if b = true then t D σ H1 else u D σ H1
theorem ps_if {c : Expr} {a b : List Stmt} {tc : TT} (hc : PT X c tc) (ha : PSs X a t) (hb : PSs X b u) : PS X (.If c a b pos) (tIfS tc t u) := by
 intro pins s σ H D I h;refine wpAny_If (thn (hc pins s σ H _ I h) fun d s1 ⟨H1, I1, q1⟩ => ?_);cases d with
 | true => exact ha pins s1 σ H1 D I1 q1
 | false => exact hb pins s1 σ H1 D I1 q1
def tNever : TS := fun _ _ _ => False
theorem ps_never : PS X st tNever := fun _ _ _ _ _ _ h => h.elim
end
abbrev TG := V -> St -> Hp -> (St -> Hp -> Prop) -> Prop
abbrev TGs := List V -> St -> Hp -> (St -> Hp -> Prop) -> Prop
def PG (X : Cx) (target : Expr) (t : TG) : Prop :=
 ∀ (pins : List (Addr × Obj)) (s : Shared) (σ : St) (H : Hp) (v : V) (u : Value) (Q : St -> Hp -> Prop), Inv X pins σ H s -> RelV v u -> t v σ H Q ->
  wpAny (model X.prog X.w) X.A (assign target X.env u) (fun _ s' => ∃ σ' H', Inv X pins σ' H' s' /\ Q σ' H') X.xe s
def PGs (X : Cx) (ts : List Expr) (t : TGs) : Prop :=
 ∀ (pins : List (Addr × Obj)) (s : Shared) (σ : St) (H : Hp) (vs : List V) (us : List Value) (Q : St -> Hp -> Prop), Inv X pins σ H s -> Vals vs us -> t vs σ H Q ->
  wpAny (model X.prog X.w) X.A (assignInOrder ((assignEach ts X.env).map (·.2)) us) (fun _ s' => ∃ σ' H', Inv X pins σ' H' s' /\ Q σ' H') X.xe s
section
variable {X : Cx} {pos : Pos}
def gNm (i : Nat) : TG := fun v σ H Q => Q (σ.set i (some v)) H
theorem pgn {i : Nat} {x : Str} (hN : X.N.Nodup) (hi : X.N[i]? = some x) (hx : Loc X.env.scope x) (hf : X.fn x = true \/ X.env.scope.names.lookup x = some .local := by first | exact .inl rfl | exact .inr rfl | assumption) : PG X (.Name x pos) (gNm i) := by
 intro pins s σ H v u Q I r h;exact wpAny_assign_Name (store_ok I hN hi hx r (fun s' I' => ⟨_, H, I', h⟩) hf)
def gNil : TGs := fun vs σ H Q => vs = [] /\ Q σ H
def gCons (t : TG) (u : TGs) : TGs := fun vs σ H Q => ∃ v r, vs = v :: r /\ t v σ H fun σ' H' => u r σ' H' Q
theorem pgs_nil : PGs X [] gNil := by
 intro pins s σ H vs us Q I r h;obtain ⟨e, h⟩ := h;subst e;cases r;exact assignInOrder_nil ⟨σ, H, I, h⟩
theorem pgc {e : Expr} {es : List Expr} {t : TG} {u : TGs} (h1 : PG X e t) (h2 : PGs X es u)
  (hs : (assignEach (e :: es) X.env).map (·.2) = assign e X.env :: (assignEach es X.env).map (·.2) := by rfl) : PGs X (e :: es) (gCons t u) := by
 intro pins s σ H vs us Q I r h;obtain ⟨v, vr, e1, h⟩ := h;subst e1;cases r with
 | cons r rr =>
  rw [hs];refine assignInOrder_cons (thn (h1 pins s σ H _ _ _ I r h) fun _ s1 ⟨σ1, H1, I1, q1⟩ => ?_);exact h2 pins s1 σ1 H1 _ _ Q I1 rr q1
def gTup (K : PySem.W.Frag) (n : Nat) (t : TGs) : TG := fun v σ H Q => ∃ a xs, v = .ref a /\ SqT K H a xs /\ xs.length = n /\ t xs σ H Q
theorem pg_tup {es : List Expr} {k : Nat} {t : TGs} {n : Nat} (hc : X.calm = true) (h : PGs X es t)
  (hn : (assignEach es X.env).length = n := by rfl) (hst : (assignEach es X.env).findIdx? (·.1) = none := by rfl) : PG X (.Tuple es k pos) (gTup X.K n t) := by
 intro pins s σ H v u Q I r hw;obtain ⟨a, xs, e1, hq, hl, hw⟩ := hw;subst e1;cases r;obtain ⟨its, rv, ht, hz⟩ := I.tuple hq;refine assign_Tuple_tuple (I.ok.hd hc) ht (by simp [hn, <- hl, rv.length]) hst fun h' hx => ?_
 have I1 : Inv X pins σ H { s with heap := h' } := I.kept (t' := s.toks) fun b o e => hx b o (Nat.ne_of_lt (Heap.lt_size e)) e
 exact h pins _ σ H xs _ Q I1 (by simpa using rv) hw
def tAg (te : TE) (g : TG) : TS := fun D σ H => te σ H fun x H1 => g x σ H1 D.nx
theorem ps_asg {tg e : Expr} {te : TE} {g : TG} (he : PE X e te) (hg : PG X tg g) (hs : swapsWithSole [tg] e pos.line X.env = pure false := by rfl) (hw : swappedStores [tg] e X.env = pure none := by rfl)
  (h1 : (assignEach [tg] X.env).map (·.2) = [assign tg X.env] := by rfl) : PS X (.Assign [tg] e pos) (tAg te g) := by
 intro pins s σ H D I h;refine wpAny_Assign_stores (thn (he pins s σ H _ I h) fun v s1 ⟨x, H1, I1, r1, q1⟩ => ?_) hs hw;rw [h1];exact thn (hg pins s1 σ H1 x v _ I1 r1 q1) fun _ s2 q => q
theorem pst {i : Nat} {x : Str} {e : Expr} {te : TE} {pos' : Pos} (hN : X.N.Nodup) (hi : X.N[i]? = some x) (hx : Loc X.env.scope x) (he : PE X e te) (hs : swapsWith e (some (.Name x pos')) pos.line X.env = pure false := by rfl) (hf : X.fn x = true \/ X.env.scope.names.lookup x = some .local := by first | exact .inl rfl | exact .inr rfl | assumption) :
  PS X (.Assign [.Name x pos'] e pos) (tAg te (gNm i)) := by
 intro pins s σ H D I h;refine wpAny_Assign_Name (thn (he pins s σ H _ I h) fun v s1 ⟨y, H1, I1, r1, q1⟩ => ?_) hs;exact store_ok I1 hN hi hx r1 (fun s2 I2 => ⟨_, H1, I2, q1⟩) hf
def tPar (i j : Nat) (ta : TA) : TS := fun D σ H => ta σ H fun vs H1 => ∃ v w, vs = [v, w] /\ D.nx ((σ.set i (some v)).set j (some w)) H1
theorem ps_par {i j : Nat} {x y : Str} {a b : Expr} {ta : TA} {px py pt : Pos} {kt k2 pt2} (hc : X.calm = true) (hN : X.N.Nodup) (hi : X.N[i]? = some x) (hj : X.N[j]? = some y) (hij : i ≠ j)
  (hx : X.env.scope.names.lookup x = some .local) (hy : X.env.scope.names.lookup y = some .local) (ha : PA X [a, b] ta)
  (hw : swappedStores [.Tuple [.Name x px, .Name y py] kt pt] (.Tuple [a, b] k2 pt2) X.env = pure (some [x, y]))
  (hs : swapsWithSole [.Tuple [.Name x px, .Name y py] kt pt] (.Tuple [a, b] k2 pt2) pos.line X.env = pure false := by rfl) :
  PS X (.Assign [.Tuple [.Name x px, .Name y py] kt pt] (.Tuple [a, b] k2 pt2) pos) (tPar i j ta) := by
 intro pins s σ H D I h;rw [exec_Assign_arm];refine wpAny_bind (wpAny_standAt ?_);rw [hs];refine wpAny_bind (wpAny_pure ?_);rw [if_neg (by decide)]
 refine wpAny_bind (Tuple_ (thn (ha _ pins s σ H _ I h) fun us s1 ⟨vs, H1, I1, r1, q1⟩ => ?_));obtain ⟨v, w, e1, q1⟩ := q1;subst e1;obtain ⟨u1, u2, rfl, rv, rw'⟩ : ∃ u1 u2, us = [u1, u2] /\ RelV v u1 /\ RelV w u2 := by
  cases r1 with
  | cons p q =>
   cases q with
   | cons p' q' =>
    cases q';exact ⟨_, _, rfl, p, p'⟩
 refine wpAny_newObj_type ?_ (by show 2 <= sizeLine; decide)
 have I2 : Inv X pins σ H1 { s1 with heap := s1.heap.push { cls := .type "tuple", data := .seq [u1, u2].toArray } } := I1.kept (t' := s1.toks) fun b o e => Heap.get?_push_of_some _ e
 rw [hw];refine wpAny_bind (wpAny_pure ?_);show wpAny (model X.prog X.w) X.A (do rule "assign.swapped-stores"; let items <- unpackItems (.ref s1.heap.objs.size) 2 none; assignInOrder [fun v => bindName X.env y v, fun v => bindName X.env x v] items.reverse; pure Flow.next) _ _ _
 refine wpAny_bind (wpAny_rule (wpAny_bind (unpackItems_tuple (items := #[u1, u2]) (I.ok.hd hc) (IsTup.new s1.heap _) fun h' hx' => ?_)));have I3 := I2.kept (h' := h') (t' := s1.toks) fun b o e => hx' b o (Nat.ne_of_lt (Heap.lt_size e)) e;show wpAny _ _ (assignInOrder [fun v => bindName X.env y v, fun v => bindName X.env x v] [u2, u1] >>= fun _ => pure Flow.next) _ _ _;refine wpAny_bind (assignInOrder_cons (wpAny_bindName (store_ok I3 hN hj (.inl hy) rw' (fun s2 I4 => ?_) (.inr hy))));refine assignInOrder_cons (wpAny_bindName (store_ok I4 hN hi (.inl hx) rv (fun s3 I5 => assignInOrder_nil (wpAny_pure ?_)) (.inr hx)));rw [List.set_comm _ _ (Ne.symm hij)] at I5;exact ⟨_, H1, I5, q1⟩
def tWhile (c : TT) (tb : TS) : TS := fun D σ H => ∃ W : Nat -> St -> Hp -> Prop, (∃ m, W m σ H) /\ ∀ m σ H, W m σ H ->
 c σ H fun b H1 => if b = true then ∃ N : St -> Hp -> Prop, (∀ σ' H', N σ' H' -> ∃ m', m' < m /\ W m' σ' H') /\ tb { D with nx := N, ct := N, bk := D.nx } σ H1 else D.nx σ H1
theorem ps_while {c : Expr} {body : List Stmt} {tc : TT} {tb : TS} (hp : PassesOwn (model X.prog X.w) X.A X.env X.xe) (hc : PT X c tc) (hb : PSs X body tb) : PS X (.While c body [] pos) (tWhile tc tb) := by
 intro pins s σ H D I h;obtain ⟨W, ⟨m0, w0⟩, turn⟩ := h;refine wpAny_While (codeAny_whileLoop (fun n s' => ∃ σ' H', Inv X pins σ' H' s' /\ W n σ' H') ?_ m0 ⟨σ, H, I, w0⟩);rintro n s1 ⟨σ1, H1, I1, w1⟩;refine wpAny_passesOwn hp (thn (hc pins s1 σ1 H1 _ I1 (turn n σ1 H1 w1)) fun b s2 ⟨H2, I2, q2⟩ => ?_);cases b with
 | true =>
  obtain ⟨N, hN, q2⟩ := q2;rw [if_pos rfl];refine wpAny_passesOwn hp (thn (hb pins s2 σ1 H2 _ I2 q2) fun f s3 q3 => ?_);cases f with
  | next =>
   obtain ⟨σ3, H3, I3, n3⟩ := q3;obtain ⟨m', hm, w3⟩ := hN σ3 H3 n3;exact ⟨m', hm, σ3, H3, I3, w3⟩
  | cont =>
   obtain ⟨σ3, H3, I3, n3⟩ := q3;obtain ⟨m', hm, w3⟩ := hN σ3 H3 n3;exact ⟨m', hm, σ3, H3, I3, w3⟩
  | brk => exact q3
  | ret v => exact q3
 | false =>
  rw [if_neg Bool.false_ne_true];exact wpAny_execs_nil ⟨σ1, H2, I2, q2⟩
end
structure It where
 go : Nat -> Hp -> Prop
 yld : Nat -> Hp -> V -> Hp -> Prop
 stop : Nat -> Hp -> Prop
def FpOk (X : Cx) (pins : List (Addr × Obj)) (H : Hp) (b : Addr) : Prop :=
 H b = none /\ b ≠ X.env.locals /\ b ∉ X.fs /\ (b ∈ X.ex \/ X.s₀.heap.objs.size <= b) /\ (∀ x c, X.env.cells.lookup x = some c -> c ≠ b) /\ ∀ p ∈ X.pn ++ pins, p.1 ≠ b
theorem Inv.fpOk {X : Cx} {pins : List (Addr × Obj)} {σ : St} {H H' : Hp} {s : Shared} {b : Addr} (I : Inv X pins σ H s) (hb : s.heap.objs.size <= b) (hn : H' b = none) : FpOk X pins H' b := by
 refine ⟨hn, Nat.ne_of_gt (Nat.lt_of_lt_of_le I.lt hb), I.nofs hb, .inr (Nat.le_trans I.sz hb), fun x c e z => ?_, fun p hp z => ?_⟩
 ·obtain ⟨v, q⟩ := I.cell x c e;exact absurd (Nat.lt_of_lt_of_le q.lt (by rw [z]; exact hb)) (Nat.lt_irrefl _)
 ·exact absurd (Nat.lt_of_lt_of_le (Heap.lt_size (I.pin p hp).1) (by rw [z]; exact hb)) (Nat.lt_irrefl _)
structure Turn (P : Program) (w : World) (K : PySem.W.Frag) (tg : Expr) (J : It) (fp : List Addr) (it : Addr) (tn : Nat -> Heap -> Prop) : Prop where
 mem : it ∈ fp
 obj : ∀ i h, tn i h -> ∀ b ∈ fp, ∃ o, h.get? b = some o /\ ∀ v, o.data ≠ .cell v
 keep : ∀ i h h', tn i h -> (∀ b ∈ fp, ∀ o, h.get? b = some o -> h'.get? b = some o) -> tn i h'
 item : ∀ (X : Cx), X.prog = P -> X.w = w -> X.K = K -> X.calm = true -> ∀ (i : Nat) (pins : List (Addr × Obj)) (s : Shared) (σ : St) (H : Hp) (E : Value -> Shared -> Prop), Inv X pins σ H s -> (∀ b ∈ fp, FpOk X pins H b) -> tn i s.heap -> J.go i H ->
  wpAny (model P w) X.A (pyNext (.ref it)) (fun r s1 => ∃ u, r = some u /\
   wpAny (model P w) X.A (letOwnedTupleGo tg (.ref it) u) (fun _ s2 => ∃ x H', Inv X pins σ H' s2 /\ RelV x u /\ J.yld i H x H' /\ tn (i + 1) s2.heap /\ ∀ b ∈ fp, H' b = none) E s1) E s
 done : ∀ (X : Cx), X.prog = P -> X.w = w -> X.K = K -> X.calm = true -> ∀ (i : Nat) (pins : List (Addr × Obj)) (s : Shared) (σ : St) (H : Hp) (E : Value -> Shared -> Prop), Inv X pins σ H s -> (∀ b ∈ fp, FpOk X pins H b) -> tn i s.heap -> J.stop i H ->
  wpAny (model P w) X.A (pyNext (.ref it)) (fun r s1 => r = none /\ Inv X pins σ H s1) E s
 self : ∀ (A : Around) (i : Nat) (s : Shared) (Q : Value -> Shared -> Prop) (E : Value -> Shared -> Prop), tn i s.heap -> Q (.ref it) s -> wpAny (model P w) A (pyIter (.ref it)) Q E s
abbrev TI := St -> Hp -> (It -> Hp -> Prop) -> Prop
def PIE (X : Cx) (pins : List (Addr × Obj)) (σ : St) (tg : Expr) (R : It -> Hp -> Prop) (itv : Value) (s2 : Shared) : Prop :=
 ∃ (it : Addr) (fp : List Addr) (tn : Nat -> Heap -> Prop) (J : It) (H' : Hp), itv = .ref it /\ Inv X pins σ H' s2 /\ Turn X.prog X.w X.K tg J fp it tn /\ tn 0 s2.heap /\ (∀ b ∈ fp, FpOk X pins H' b) /\ R J H'
def PI (X : Cx) (tg iter : Expr) (wi : TI) : Prop :=
 ∀ (pins : List (Addr × Obj)) (s : Shared) (σ : St) (H : Hp) (R : It -> Hp -> Prop), Inv X pins σ H s -> wi σ H R ->
  wpAny (model X.prog X.w) X.A (eval iter X.env) (fun v s1 => wpAny (model X.prog X.w) X.A (pyIter v) (PIE X pins σ tg R) X.xe s1) X.xe s
theorem go_of {M : Model} {A : Around} {E : Value -> Shared -> Prop} {s : Shared} {tg : Expr} {it : Addr} {u : Value} {o : Obj} {n : String} {vs : Array Value} {Q : Unit -> Shared -> Prop} (ho : s.heap.get? it = some o) (hc : o.cls = .type n) (hd : o.data = .fields vs)
  (hn : ["enumerate", "zip", "dict_itemiterator", "dict_reverseitemiterator", "odict_iterator", "itertools.zip_longest", "itertools.pairwise"].contains n = false) (hQ : Q () s) : wpAny M A (letOwnedTupleGo tg (.ref it) u) Q E s := by
 unfold letOwnedTupleGo;cases tg <;> first
  | exact wpAny_pure hQ
  | (cases u <;> first
    | exact wpAny_pure hQ
    | (refine wpAny_bind (wpAny_load ho ?_)
       rw [hc, hd];show wpAny M A (if (["enumerate", "zip", "dict_itemiterator", "dict_reverseitemiterator", "odict_iterator", "itertools.zip_longest", "itertools.pairwise"].contains n && vs[0]? == some (rawInt _)) = true then _ else _) Q E s
       rw [if_neg (by intro h; rw [hn, Bool.false_and] at h; cases h)]
       exact wpAny_pure hQ))
def Itl (K : PySem.W.Frag) (a : Addr) : It :=
 ⟨fun i H => ∃ xs x, SqL K H a xs /\ xs[i]? = some x, fun i H x H' => H' = H /\ ∀ xs, SqL K H a xs -> xs[i]? = some x, fun i H => ∃ xs, SqL K H a xs /\ xs.length <= i⟩
def Itt (K : PySem.W.Frag) (a : Addr) : It :=
 ⟨fun i H => ∃ xs x, SqT K H a xs /\ xs[i]? = some x, fun i H x H' => H' = H /\ ∀ xs, SqT K H a xs -> xs[i]? = some x, fun i H => ∃ xs, SqT K H a xs /\ xs.length <= i⟩
def Itr (lo : Int) (n : Nat) : It := ⟨fun i _ => i < n, fun i H x H' => H' = H /\ x = .int (lo + i), fun i _ => n <= i⟩
theorem turn_list {P : Program} {w : World} {K : PySem.W.Frag} {tg : Expr} (a it : Addr) : Turn P w K tg (Itl K a) [it] it (fun i h => h.IsListIter it a i) where
 mem := by simp
 obj := fun i h st b hb => by
  have e : b = it := by simpa using hb
  subst e;obtain ⟨o, e, c, d⟩ := st;exact ⟨o, e, fun v z => by rw [d] at z; cases z⟩
 keep := fun i h h' st k => st.at fun o e => k it (by simp) o e
 item := by
  intro X hP hw hK hc i pins s σ H E I hf st hg;subst hP hw hK;obtain ⟨xs, x, hq, hx⟩ := hg;obtain ⟨its, rv, p, hz⟩ := I.list hq;obtain ⟨u, hu, ru⟩ := rv.get hx;obtain ⟨f0, f1, f2, f3, f4, f5⟩ := hf it (by simp)
  refine wpAny_pyNext_list_item st p.isList (x := u) (by simpa using hu) fun h' st' sb => ?_
  have I1 : Inv X pins σ H { s with heap := h' } := I.turned (t' := s.toks) (fun b o hb e => (sb.2 b hb).trans e) f0 f1 f3 f4 f5
  obtain ⟨o, e, c, d⟩ := id st';exact ⟨u, rfl, go_of (s := { s with heap := h' }) e c d (by decide) ⟨x, H, I1, ru, ⟨rfl, fun ys hy => by rw [I.list_inj hy hq]; exact hx⟩, st', fun b hb => (hf b hb).1⟩⟩
 done := by
  intro X hP hw hK hc i pins s σ H E I hf st hg;subst hP hw hK;obtain ⟨xs, hq, hx⟩ := hg;obtain ⟨its, rv, p, hz⟩ := I.list hq;obtain ⟨f0, f1, f2, f3, f4, f5⟩ := hf it (by simp)
  have hl := rv.length;exact wpAny_pyNext_list_end (I.ok.hd hc) st p.isList (by simp; omega) fun h' eb => ⟨rfl, I.turned (t' := s.toks) (fun b o hb e => eb b o hb e) f0 f1 f3 f4 f5⟩
 self := fun _ _ _ _ _ st h => wpAny_pyIter_listiter st h
theorem turn_tuple {P : Program} {w : World} {K : PySem.W.Frag} {tg : Expr} (a it : Addr) : Turn P w K tg (Itt K a) [it] it (fun i h => h.IsTupleIter it a i) where
 mem := by simp
 obj := fun i h st b hb => by
  have e : b = it := by simpa using hb
  subst e;obtain ⟨o, e, c, d⟩ := st;exact ⟨o, e, fun v z => by rw [d] at z; cases z⟩
 keep := fun i h h' st k => st.at fun o e => k it (by simp) o e
 item := by
  intro X hP hw hK hc i pins s σ H E I hf st hg;subst hP hw hK;obtain ⟨xs, x, hq, hx⟩ := hg;obtain ⟨its, rv, p, hz⟩ := I.tuple hq;obtain ⟨u, hu, ru⟩ := rv.get hx;obtain ⟨f0, f1, f2, f3, f4, f5⟩ := hf it (by simp)
  refine wpAny_pyNext_tuple_item st (show s.heap.IsTuple a its.toArray from p) (x := u) (by simpa using hu) fun h' st' sb => ?_
  have I1 : Inv X pins σ H { s with heap := h' } := I.turned (t' := s.toks) (fun b o hb e => (sb.2 b hb).trans e) f0 f1 f3 f4 f5
  obtain ⟨o, e, c, d⟩ := id st';exact ⟨u, rfl, go_of (s := { s with heap := h' }) e c d (by decide) ⟨x, H, I1, ru, ⟨rfl, fun ys hy => by rw [I.tuple_inj hy hq]; exact hx⟩, st', fun b hb => (hf b hb).1⟩⟩
 done := by
  intro X hP hw hK hc i pins s σ H E I hf st hg;subst hP hw hK;obtain ⟨xs, hq, hx⟩ := hg;obtain ⟨its, rv, p, hz⟩ := I.tuple hq;obtain ⟨f0, f1, f2, f3, f4, f5⟩ := hf it (by simp)
  have hl := rv.length;exact wpAny_pyNext_tuple_end (I.ok.hd hc) st (show s.heap.IsTuple a its.toArray from p) (by simp; omega) fun h' eb => ⟨rfl, I.turned (t' := s.toks) (fun b o hb e => eb b o hb e) f0 f1 f3 f4 f5⟩
 self := fun _ _ _ _ _ st h => wpAny_pyIter_tupleiter st h
theorem turn_range {P : Program} {w : World} {K : PySem.W.Frag} {tg : Expr} (it : Addr) (lo : Int) (n : Nat) : Turn P w K tg (Itr lo n) [it] it (fun i h => IsRangeIter h it (lo + (i : Nat) * 1) ((n : Int) - (i : Nat)) 1) where
 mem := by simp
 obj := fun i h st b hb => by
  have e : b = it := by simpa using hb
  subst e;exact ⟨_, st, fun v z => by
   have z' : Data.fields _ = Data.cell v := z;cases z'⟩
 keep := fun i h h' st k => k it (by simp) _ st
 item := by
  intro X hP hw hK hc i pins s σ H E I hf st hg;subst hP hw hK;obtain ⟨f0, f1, f2, f3, f4, f5⟩ := hf it (by simp)
  have W := Walks.range (prog := X.prog) (w := X.w) (I.ok.hd hc) it lo 1 n;refine W.item i s _ _ hg st fun v h' tk hv st' kk => ?_;obtain ⟨t, rfl⟩ := hv;have I1 : Inv X pins σ H { s with heap := h', toks := tk } := I.turned (fun b o hb e => kk b o (by simpa using hb) e) f0 f1 f3 f4 f5
  refine ⟨_, rfl, go_of (s := { s with heap := h', toks := tk }) (n := "range_iterator") st' rfl rfl (by decide) ⟨.int (lo + i), H, I1, ⟨t, ?_⟩, ⟨rfl, rfl⟩, st', fun b hb => (hf b hb).1⟩⟩
  rw [Int.mul_one]
 done := by
  intro X hP hw hK hc i pins s σ H E I hf st hg;subst hP hw hK;obtain ⟨f0, f1, f2, f3, f4, f5⟩ := hf it (by simp)
  exact wpAny_pyNext_range_end (I.ok.hd hc) st (by have : n <= i := hg; omega) fun h' eb => ⟨rfl, I.turned (t' := s.toks) (fun b o hb e => eb b o hb e) f0 f1 f3 f4 f5⟩
 self := fun _ _ _ _ _ st h => wpAny_pyIter_rangeiter st h
section
variable {X : Cx} {tg : Expr}
def iList (K : PySem.W.Frag) (tl : TE) : TI := fun σ H R => tl σ H fun x H1 => ∃ a, x = .ref a /\ (∃ xs, SqL K H1 a xs) /\ R (Itl K a) H1
def iTup (K : PySem.W.Frag) (tl : TE) : TI := fun σ H R => tl σ H fun x H1 => ∃ a, x = .ref a /\ (∃ xs, SqT K H1 a xs) /\ R (Itt K a) H1
theorem pi_list {l : Expr} {tl : TE} (hl : PE X l tl) : PI X tg l (iList X.K tl) := by
 intro pins s σ H R I h;refine thn (hl pins s σ H _ I h) fun v s1 ⟨x, H1, I1, r1, q1⟩ => ?_;obtain ⟨a, e, ⟨xs, hq⟩, q⟩ := q1;subst e;cases r1;obtain ⟨its, rv, p, hz⟩ := I1.list hq;refine wpAny_pyIter_list p.isList ?_;refine ⟨s1.heap.objs.size, [s1.heap.objs.size], _, _, H1, rfl, I1.kept (t' := s1.toks) fun b o e => Heap.get?_push_of_some _ e, turn_list a _, ⟨_, Heap.get?_push_size _ rfl, rfl, rfl⟩, fun b hb => ?_, q⟩;have e : b = s1.heap.objs.size := by simpa using hb
 subst e;exact I1.fpOk (Nat.le_refl _) (I1.hok.fresh (Nat.le_refl _))
theorem pi_tup {l : Expr} {tl : TE} (hl : PE X l tl) : PI X tg l (iTup X.K tl) := by
 intro pins s σ H R I h;refine thn (hl pins s σ H _ I h) fun v s1 ⟨x, H1, I1, r1, q1⟩ => ?_;obtain ⟨a, e, ⟨xs, hq⟩, q⟩ := q1;subst e;cases r1;obtain ⟨its, rv, p, hz⟩ := I1.tuple hq;refine wpAny_pyIter_tuple (show s1.heap.IsTuple a its.toArray from p) ?_;refine ⟨s1.heap.objs.size, [s1.heap.objs.size], _, _, H1, rfl, I1.kept (t' := s1.toks) fun b o e => Heap.get?_push_of_some _ e, turn_tuple a _, ⟨_, Heap.get?_push_size _ rfl, rfl, rfl⟩, fun b hb => ?_, q⟩;have e : b = s1.heap.objs.size := by simpa using hb
 subst e;exact I1.fpOk (Nat.le_refl _) (I1.hok.fresh (Nat.le_refl _))
theorem range_it {pins : List (Addr × Obj)} {σ : St} {H : Hp} {s : Shared} {R : It -> Hp -> Prop} {E : Value -> Shared -> Prop} {lo hi : Int} {t u v : Tok} {tk : Nat} (I : Inv X pins σ H s) (h1 : -(2 ^ 62) <= lo) (h2 : lo < 2 ^ 62) (h3 : -(2 ^ 62) <= hi) (h4 : hi < 2 ^ 62)
  (q : R (Itr lo (hi - lo).toNat) H) : wpAny (model X.prog X.w) X.A (pyIter (.ref s.heap.objs.size)) (PIE X pins σ tg R) E { s with heap := s.heap.push { cls := .type "range", data := .fields #[.int lo t, .int hi u, .int 1 v] }, toks := tk } := by
 refine wpAny_pyIter_range (IsRange.new ..) (small_one h1 h2 h3 h4) ?_;have I1 : Inv X pins σ H { s with heap := s.heap.push { cls := .type "range", data := .fields #[.int lo t, .int hi u, .int 1 v] }, toks := tk } := I.kept fun b o e => Heap.get?_push_of_some _ e
 refine ⟨(s.heap.push { cls := .type "range", data := .fields #[.int lo t, .int hi u, .int 1 v] }).objs.size, [(s.heap.push { cls := .type "range", data := .fields #[.int lo t, .int hi u, .int 1 v] }).objs.size], _, _, H, rfl,
  I1.kept (t' := tk) fun b o e => Heap.get?_push_of_some _ e, turn_range _ lo (hi - lo).toNat, ?_, fun b hb => ?_, q⟩
 ·have e1 : lo + ((0 : Nat) : Int) * 1 = lo := by simp
  have e2 : (((hi - lo).toNat : Nat) : Int) - ((0 : Nat) : Int) = Builtin.Range.rangeSize lo hi 1 := by rw [rangeSize_one]; split <;> omega
  show IsRangeIter _ _ (lo + ((0 : Nat) : Int) * 1) ((((hi - lo).toNat : Nat) : Int) - ((0 : Nat) : Int)) 1;rw [e1, e2];exact Heap.get?_push_size _ rfl
 ·have e : b = (s.heap.push { cls := .type "range", data := .fields #[.int lo t, .int hi u, .int 1 v] }).objs.size := by simpa using hb
  subst e;exact I1.fpOk (Nat.le_refl _) (I1.hok.fresh (Nat.le_refl _))
def iRng1 (ta : TA) : TI := fun σ H R => ta σ H fun vs H1 => ∃ j : Int, vs = [.int j] /\ -(2 ^ 62) <= j /\ j < 2 ^ 62 /\ R (Itr 0 j.toNat) H1
theorem pi_range1 {a : Expr} {ta : TA} {p pos : Pos} (hg : Gl X "range") (hm : X.mg "range" = none) (ha : PA X [a] ta) (hs : starEach [a] X.env = [(false, eval a X.env)] := by rfl) : PI X tg (.Call (.Name "range" p) [a] [] pos) (iRng1 ta) := by
 intro pins s σ H R I h;refine Call_ (ld_blt I hg hm boot_range (PyProof.Rows.callWith_type1 (thn (ha pos pins s σ H _ I h) fun us s1 ⟨vs, H1, I1, r1, q1⟩ => ?_) hs rfl));obtain ⟨j, e, q1, q2, q⟩ := q1;subst e;cases r1 with
 | cons r rr =>
  cases rr;obtain ⟨t, rfl⟩ := r;exact call_range_1 (range_it I1 (by omega) (by omega) q1 q2 (by simpa using q))
def tFor (wi : TI) (g : TG) (tb : TS) : TS := fun D σ H => wi σ H fun J H1 => ∃ W : Nat -> Nat -> St -> Hp -> Prop, (∃ m, W 0 m σ H1) /\ ∀ i m σ H, W i m σ H ->
 (J.stop i H /\ D.nx σ H) \/ (J.go i H /\ ∃ N : St -> Hp -> Prop, (∀ σ' H', N σ' H' -> ∃ m', m' < m /\ W (i + 1) m' σ' H') /\ ∀ x H', J.yld i H x H' -> g x σ H' fun σ2 H2 => tb { D with nx := N, ct := N, bk := D.nx } σ2 H2)
def pinsAt (fp : List Addr) (h : Heap) : List (Addr × Obj) := fp.filterMap fun b => (h.get? b).map fun o => (b, o)
theorem mem_pinsAt {fp : List Addr} {h : Heap} {b : Addr} {o : Obj} (hb : b ∈ fp) (e : h.get? b = some o) : (b, o) ∈ pinsAt fp h := List.mem_filterMap.mpr ⟨b, hb, by rw [e]; rfl⟩
theorem of_pinsAt {fp : List Addr} {h : Heap} {p : Addr × Obj} (hp : p ∈ pinsAt fp h) : p.1 ∈ fp /\ h.get? p.1 = some p.2 := by
 obtain ⟨b, hb, e⟩ := List.mem_filterMap.mp hp;cases q : h.get? b with
 | none => rw [q] at e; cases e
 | some o =>
  rw [q] at e;have e' : (b, o) = p := Option.some.inj e;subst e';exact ⟨hb, q⟩
theorem Inv.pinned {pins : List (Addr × Obj)} {σ : St} {H : Hp} {s : Shared} {fp : List Addr} (I : Inv X pins σ H s) (hf : ∀ b ∈ fp, FpOk X pins H b) (ho : ∀ b ∈ fp, ∃ o, s.heap.get? b = some o /\ ∀ v, o.data ≠ .cell v) : Inv X (pins ++ pinsAt fp s.heap) σ H s :=
 I.pins_of fun p hp => (List.mem_append.mp hp).elim (fun z => I.pin p (List.mem_append_right _ z)) fun z => by
  obtain ⟨hb, e⟩ := of_pinsAt z;obtain ⟨f0, f1, f2, _⟩ := hf p.1 hb;obtain ⟨o, e', d⟩ := ho p.1 hb;rw [e] at e'; cases e';exact ⟨e, f0, f1, f2, d⟩
theorem Inv.unpinned {pins pl : List (Addr × Obj)} {σ : St} {H : Hp} {s : Shared} (I : Inv X (pins ++ pl) σ H s) : Inv X pins σ H s := I.pins_of fun p hp => I.pin p (List.mem_append_right _ (List.mem_append_left _ hp))
theorem ps_for {iter : Expr} {body : List Stmt} {wi : TI} {g : TG} {tb : TS} {pos : Pos} (hp : PassesOwn (model X.prog X.w) X.A X.env X.xe) (hc : X.calm = true) (hi : PI X tg iter wi) (hg : PG X tg g) (hb : PSs X body tb)
  (hs : ∀ x, foldedSetIterable iter X.env x = pure x := by intro _; rfl) : PS X (.For tg iter body [] pos) (tFor wi g tb) := by
 intro pins s σ H D I h;refine wpAny_For (thn (hi pins s σ H _ I h) fun v s1 h1 => thn h1 fun itv s2 h2 => ?_) hs;obtain ⟨it, fp, tn, J, H2, e, I2, T, st2, f2, W, ⟨m0, w0⟩, turn⟩ := h2;subst e;have stat : ∀ {H' : Hp}, (∀ b ∈ fp, H' b = none) -> ∀ b ∈ fp, FpOk X pins H' b := fun hn b hb => ⟨hn b hb, (f2 b hb).2⟩;refine codeAny_forLoop_any (fun n s' => ∃ i σ' H', Inv X pins σ' H' s' /\ tn i s'.heap /\ (∀ b ∈ fp, H' b = none) /\ W i n σ' H') ?_ m0 ⟨0, σ, H2, I2, st2, fun b hb => (f2 b hb).1, w0⟩;rintro n s3 ⟨i, σ3, H3, I3, st3, fr3, w3⟩;rcases turn i n σ3 H3 w3 with ⟨stop, qn⟩ | ⟨go, N, hN, step⟩
 ·refine wpAny_passesOwn hp (thn (T.done X rfl rfl rfl hc i pins s3 σ3 H3 X.xe I3 (stat fr3) st3 stop) fun r s4 ⟨hr, I4⟩ => ?_);subst hr;exact wpAny_execs_nil ⟨σ3, H3, I4, qn⟩
 ·refine wpAny_passesOwn hp (thn (T.item X rfl rfl rfl hc i pins s3 σ3 H3 X.xe I3 (stat fr3) st3 go) fun r s4 ⟨u, hr, h4⟩ => ?_);subst hr;refine wpAny_passesOwn hp (thn h4 fun _ s5 ⟨x, H5, I5, r5, y5, st5, fr5⟩ => ?_);have I5' := I5.pinned (stat fr5) (T.obj _ _ st5);refine wpAny_passesOwn hp (thn (hg _ s5 σ3 H5 x u _ I5' r5 (step x H5 y5)) fun _ s6 ⟨σ6, H6, I6, q6⟩ => ?_);refine wpAny_passesOwn hp (thn (hb _ s6 σ6 H6 _ I6 q6) fun f s7 q7 => ?_);have again : ∀ {σ7 : St} {H7 : Hp}, Inv X (pins ++ pinsAt fp s5.heap) σ7 H7 s7 -> N σ7 H7 -> ∃ m, m < n /\ ∃ i σ' H', Inv X pins σ' H' s7 /\ tn i s7.heap /\ (∀ b ∈ fp, H' b = none) /\ W i m σ' H' := fun {σ7 H7} I7 n7 => by
   obtain ⟨m', hm, w7⟩ := hN σ7 H7 n7;refine ⟨m', hm, i + 1, σ7, H7, I7.unpinned, T.keep _ _ _ st5 fun b hb o e => (I7.pin (b, o) (List.mem_append_right _ (List.mem_append_right _ (mem_pinsAt hb e)))).1, fun b hb => ?_, w7⟩;obtain ⟨o, e, d⟩ := T.obj _ _ st5 b hb;exact (I7.pin (b, o) (List.mem_append_right _ (List.mem_append_right _ (mem_pinsAt hb e)))).2.1
  cases f with
  | next => obtain ⟨σ7, H7, I7, n7⟩ := q7; exact again I7 n7
  | cont => obtain ⟨σ7, H7, I7, n7⟩ := q7; exact again I7 n7
  | brk => obtain ⟨σ7, H7, I7, q7⟩ := q7; exact ⟨σ7, H7, I7.unpinned, q7⟩
  | ret v => obtain ⟨x7, σ7, H7, I7, r7, q7⟩ := q7; exact ⟨x7, σ7, H7, I7.unpinned, r7, q7⟩
end
theorem for_list {K : PySem.W.Frag} {a : Addr} {xs : List V} {g : TG} {tb : TS} {D : Ends} {σ : St} {H : Hp} (Pv : Nat -> St -> Hp -> Prop) (h0 : Pv 0 σ H) (hl : ∀ i σ H, i <= xs.length -> Pv i σ H -> SqL K H a xs)
  (hs : ∀ i x σ H, xs[i]? = some x -> Pv i σ H -> g x σ H fun σ2 H2 => tb { D with nx := Pv (i + 1), ct := Pv (i + 1), bk := D.nx } σ2 H2) (hd : ∀ σ H, Pv xs.length σ H -> D.nx σ H) :
  ∃ W : Nat -> Nat -> St -> Hp -> Prop, (∃ m, W 0 m σ H) /\ ∀ i m σ H, W i m σ H ->
   ((Itl K a).stop i H /\ D.nx σ H) \/ ((Itl K a).go i H /\ ∃ N : St -> Hp -> Prop, (∀ σ' H', N σ' H' -> ∃ m', m' < m /\ W (i + 1) m' σ' H') /\ ∀ x H', (Itl K a).yld i H x H' -> g x σ H' fun σ2 H2 => tb { D with nx := N, ct := N, bk := D.nx } σ2 H2) := by
 refine ⟨fun i m σ H => m = xs.length - i /\ i <= xs.length /\ Pv i σ H, ⟨xs.length, by simp, Nat.zero_le _, h0⟩, ?_⟩
 rintro i m σ H ⟨rfl, hi, p⟩;have q := hl i σ H hi p;by_cases hlt : i < xs.length
 ·refine .inr ⟨⟨xs, xs[i], q, by simp [hlt]⟩, Pv (i + 1), fun σ' H' p' => ⟨xs.length - (i + 1), by omega, rfl, hlt, p'⟩, fun x H' y => ?_⟩
  obtain ⟨e, y⟩ := y;subst e;exact hs i x σ _ (y xs q) p
 ·have e : i = xs.length := by omega
  subst e;exact .inl ⟨⟨xs, q, Nat.le_refl _⟩, hd σ H p⟩
theorem for_range {lo : Int} {n : Nat} {g : TG} {tb : TS} {D : Ends} {σ : St} {H : Hp} (Pv : Nat -> St -> Hp -> Prop) (h0 : Pv 0 σ H)
  (hs : ∀ i σ H, i < n -> Pv i σ H -> g (.int (lo + i)) σ H fun σ2 H2 => tb { D with nx := Pv (i + 1), ct := Pv (i + 1), bk := D.nx } σ2 H2) (hd : ∀ σ H, Pv n σ H -> D.nx σ H) :
  ∃ W : Nat -> Nat -> St -> Hp -> Prop, (∃ m, W 0 m σ H) /\ ∀ i m σ H, W i m σ H ->
   ((Itr lo n).stop i H /\ D.nx σ H) \/ ((Itr lo n).go i H /\ ∃ N : St -> Hp -> Prop, (∀ σ' H', N σ' H' -> ∃ m', m' < m /\ W (i + 1) m' σ' H') /\ ∀ x H', (Itr lo n).yld i H x H' -> g x σ H' fun σ2 H2 => tb { D with nx := N, ct := N, bk := D.nx } σ2 H2) := by
 refine ⟨fun i m σ H => m = n - i /\ i <= n /\ Pv i σ H, ⟨n, by simp, Nat.zero_le _, h0⟩, ?_⟩
 rintro i m σ H ⟨rfl, hi, p⟩;by_cases hlt : i < n
 ·refine .inr ⟨hlt, Pv (i + 1), fun σ' H' p' => ⟨n - (i + 1), by omega, rfl, hlt, p'⟩, fun x H' y => ?_⟩
  obtain ⟨e, y⟩ := y;subst e y;exact hs i σ _ hlt p
 ·have e : i = n := by omega
  subst e;exact .inl ⟨Nat.le_refl _, hd σ H p⟩
theorem while_by {c : TT} {tb : TS} {D : Ends} {σ : St} {H : Hp} (Pv : St -> Hp -> Prop) (μ : St -> Hp -> Nat) (h0 : Pv σ H)
  (hs : ∀ σ H, Pv σ H -> c σ H fun b H1 => if b = true then tb { D with nx := fun σ' H' => Pv σ' H' /\ μ σ' H' < μ σ H, ct := fun σ' H' => Pv σ' H' /\ μ σ' H' < μ σ H, bk := D.nx } σ H1 else D.nx σ H1)
  (mono : ∀ σ H Q Q', (∀ b H1, Q b H1 -> Q' b H1) -> c σ H Q -> c σ H Q') : tWhile c tb D σ H := by
 refine ⟨fun m σ H => m = μ σ H /\ Pv σ H, ⟨_, rfl, h0⟩, ?_⟩;rintro m σ H ⟨rfl, p⟩;refine mono σ H _ _ (fun b H1 q => ?_) (hs σ H p);cases b with
 | true => exact ⟨_, fun σ' H' ⟨p', l⟩ => ⟨_, l, rfl, p'⟩, q⟩
 | false => exact q
abbrev R2 := V -> V -> Hp -> VK -> Prop
def OpR (X : Cx) (f : Value -> Value -> Sem Value) (r : R2) : Prop :=
 ∀ (pins : List (Addr × Obj)) (s : Shared) (σ : St) (H : Hp) (x y : V) (v u : Value) (Q : VK), Inv X pins σ H s -> RelV x v -> RelV y u -> r x y H Q ->
  wpAny (model X.prog X.w) X.A (f v u) (EP X pins σ Q) X.xe s
def UnR (X : Cx) (f : Value -> Sem Value) (r : V -> Hp -> VK -> Prop) : Prop :=
 ∀ (pins : List (Addr × Obj)) (s : Shared) (σ : St) (H : Hp) (x : V) (v : Value) (Q : VK), Inv X pins σ H s -> RelV x v -> r x H Q ->
  wpAny (model X.prog X.w) X.A (f v) (EP X pins σ Q) X.xe s
def CallR (X : Cx) (f : Value) (r : List V -> Hp -> VK -> Prop) : Prop :=
 ∀ (pins : List (Addr × Obj)) (s : Shared) (σ : St) (H : Hp) (xs : List V) (us : List Value) (Q : VK), Inv X pins σ H s -> Vals xs us -> r xs H Q ->
  wpAny (model X.prog X.w) X.A (call f us) (EP X pins σ Q) X.xe s
def tOp (r : R2) (ta tb : TE) : TE := fun σ H Q => ta σ H fun x H1 => tb σ H1 fun y H2 => r x y H2 Q
def tUn (r : V -> Hp -> VK -> Prop) (ta : TE) : TE := fun σ H Q => ta σ H fun x H1 => r x H1 Q
def rI (C : Int -> Int -> Prop) (g : Int -> Int -> V) : R2 := fun x y H Q => ∃ i j, x = .int i /\ y = .int j /\ C i j /\ Q (g i j) H
def rI0 (g : Int -> Int -> V) : R2 := fun x y H Q => ∃ i j, x = .int i /\ y = .int j /\ Q (g i j) H
def rU (g : Int -> V) : V -> Hp -> VK -> Prop := fun x H Q => ∃ i, x = .int i /\ Q (g i) H
section
variable {X : Cx} {a b c : Expr} {ta tb tc : TE} {pos : Pos}
theorem binT (ha : PE X a ta) (hb : PE X b tb) {pins : List (Addr × Obj)} {s : Shared} {σ : St} {H : Hp} {R : V -> V -> Hp -> Prop} (I : Inv X pins σ H s)
  (h : ta σ H fun x H1 => tb σ H1 fun y H2 => R x y H2) {Q : Value -> Shared -> Prop} {f : Value -> Value -> Sem Value}
  (hf : ∀ v u s2 x y H2, Inv X pins σ H2 s2 -> RelV x v -> RelV y u -> R x y H2 -> wpAny (model X.prog X.w) X.A (f v u) Q X.xe s2) :
  wpAny (model X.prog X.w) X.A (eval a X.env) (fun v s₁ => wpAny (model X.prog X.w) X.A (eval b X.env) (fun u s₂ => wpAny (model X.prog X.w) X.A (f v u) Q X.xe s₂) X.xe s₁) X.xe s := by
 refine thn (ha pins s σ H _ I h) fun v s1 ⟨x, H1, I1, r1, q1⟩ => ?_;refine thn (hb pins s1 σ H1 _ I1 q1) fun u s2 ⟨y, H2, I2, r2, q2⟩ => ?_;exact hf v u s2 x y H2 I2 r1 r2 q2
theorem pe_op {op : Operator} {r : R2} (ho : OpR X (binaryOp op) r) (ha : PE X a ta) (hb : PE X b tb) : PE X (.BinOp a op b pos) (tOp r ta tb) := by
 intro pins s σ H Q I h;exact wpAny_BinOp (binT ha hb I h fun v u s2 x y H2 I2 rx ry q => ho pins s2 σ H2 x y v u Q I2 rx ry q)
theorem pe_un {op : UnaryOp} {r : V -> Hp -> VK -> Prop} (ho : UnR X (unaryOp op) r) (ha : PE X a ta) : PE X (.UnaryOp op a pos) (tUn r ta) := by
 intro pins s σ H Q I h;exact UnaryOp_ (thn (ha pins s σ H _ I h) fun v s1 ⟨x, H1, I1, r1, q1⟩ => ho pins s1 σ H1 x v Q I1 r1 q1)
theorem opI {f : Value -> Value -> Sem Value} {C : Int -> Int -> Prop} {g : Int -> Int -> Int}
  (rule : ∀ (i j : Int) (t u : Tok) (s : Shared) (Q : Value -> Shared -> Prop) (E : Value -> Shared -> Prop), C i j -> Q (.int (g i j) s.toks) { s with toks := s.toks + 1 } -> wpAny (model X.prog X.w) X.A (f (.int i t) (.int j u)) Q E s) :
  OpR X f (rI C fun i j => .int (g i j)) := by
 intro pins s σ H x y v u Q I rx ry h;obtain ⟨i, j, rfl, rfl, hc, q⟩ := h;obtain ⟨t, rfl⟩ := rx;obtain ⟨t', rfl⟩ := ry;exact rule i j t t' s _ _ hc ⟨.int (g i j), H, I.tok _, ⟨_, rfl⟩, q⟩
theorem opI0 {f : Value -> Value -> Sem Value} {g : Int -> Int -> Int}
  (rule : ∀ (i j : Int) (t u : Tok) (s : Shared) (Q : Value -> Shared -> Prop) (E : Value -> Shared -> Prop), Q (.int (g i j) s.toks) { s with toks := s.toks + 1 } -> wpAny (model X.prog X.w) X.A (f (.int i t) (.int j u)) Q E s) :
  OpR X f (rI0 fun i j => .int (g i j)) := by
 intro pins s σ H x y v u Q I rx ry h;obtain ⟨i, j, rfl, rfl, q⟩ := h;obtain ⟨t, rfl⟩ := rx;obtain ⟨t', rfl⟩ := ry;exact rule i j t t' s _ _ ⟨.int (g i j), H, I.tok _, ⟨_, rfl⟩, q⟩
theorem opB0 {f : Value -> Value -> Sem Value} {g : Int -> Int -> Bool}
  (rule : ∀ (i j : Int) (t u : Tok) (s : Shared) (Q : Value -> Shared -> Prop) (E : Value -> Shared -> Prop), Q (.bool (g i j)) s -> wpAny (model X.prog X.w) X.A (f (.int i t) (.int j u)) Q E s) :
  OpR X f (rI0 fun i j => .bl (g i j)) := by
 intro pins s σ H x y v u Q I rx ry h;obtain ⟨i, j, rfl, rfl, q⟩ := h;obtain ⟨t, rfl⟩ := rx;obtain ⟨t', rfl⟩ := ry;exact rule i j t t' s _ _ ⟨.bl (g i j), H, I, rfl, q⟩
def CDiv (i j : Int) : Prop := 0 < j /\ j < 1073741824
def CPow (i j : Int) : Prop := 0 <= j /\ j <= 1000000 /\ i.natAbs < 2 ^ 64
def CMul (i j : Int) : Prop := (-(2 ^ 64) < i /\ i < 2 ^ 64) \/ (-(2 ^ 64) < j /\ j < 2 ^ 64)
theorem CMul.ok {i j : Int} (h : CMul i j) : IntMulOk i j := by
 rcases h with ⟨h1, h2⟩ | ⟨h1, h2⟩
 ·exact .of_left (intBits_le_64 h1 h2)
 ·exact .of_right (intBits_le_64 h1 h2)
theorem op_add : OpR X (binaryOp .Add) (rI0 fun i j => .int (i + j)) := opI0 fun _ _ _ _ _ _ _ q => add_int q
theorem op_sub : OpR X (binaryOp .Sub) (rI0 fun i j => .int (i - j)) := opI0 fun _ _ _ _ _ _ _ q => sub_int q
theorem op_mul : OpR X (binaryOp .Mult) (rI CMul fun i j => .int (i * j)) := opI fun _ _ _ _ _ _ _ hc q => mul_int q hc.ok
theorem op_fdiv : OpR X (binaryOp .FloorDiv) (rI CDiv fun i j => .int (i / j)) := opI fun i j _ _ _ _ _ hc q => by
 have h1 : (0 : Int) < j := hc.1;have h2 : j < 1073741824 := hc.2;exact floordiv_int (by omega) (by rw [Int.fdiv_eq_ediv_of_nonneg i (by omega)]; exact q) (.inl (PyProof.noPylong_small (by omega)))
theorem op_mod : OpR X (binaryOp .Mod) (rI (fun _ j => 0 < j) fun i j => .int (i % j)) := opI fun i j _ _ _ _ _ hc q => by
 have h1 : (0 : Int) < j := hc;exact mod_int' (by omega) (by rw [Int.fmod_eq_emod_of_nonneg i (by omega)]; exact q)
theorem op_pow : OpR X (binaryOp .Pow) (rI CPow fun i j => .int (i ^ j.toNat)) := opI fun _ _ _ _ _ _ _ hc q => pow_int_small hc.1 hc.2.1 hc.2.2 q
theorem unI {f : Value -> Sem Value} {g : Int -> Int}
  (rule : ∀ (i : Int) (t : Tok) (s : Shared) (Q : Value -> Shared -> Prop) (E : Value -> Shared -> Prop), Q (.int (g i) s.toks) { s with toks := s.toks + 1 } -> wpAny (model X.prog X.w) X.A (f (.int i t)) Q E s) :
  UnR X f (rU fun i => .int (g i)) := by
 intro pins s σ H x v Q I rx h;obtain ⟨i, rfl, q⟩ := h;obtain ⟨t, rfl⟩ := rx;exact rule i t s _ _ ⟨.int (g i), H, I.tok _, ⟨_, rfl⟩, q⟩
theorem un_neg : UnR X (unaryOp .USub) (rU fun i => .int (-i)) := unI fun _ _ _ _ _ q => neg_int q
end
def scal : V -> V -> Bool
 | .non, .non => true | .non, .int _ => true | .int _, .non => true | .non, .bl _ => true | .bl _, .non => true | .non, .str _ => true | .str _, .non => true
 | .int _, .int _ => true | .bl _, .bl _ => true | .str _, .str _ => true | .byt _, .byt _ => true
 | .int _, .str _ => true | .str _, .int _ => true | .bl _, .str _ => true | .str _, .bl _ => true
 | _, _ => false
def rEq : R2 := fun x y H Q => scal x y = true /\ Q (.bl (decide (x = y))) H
def rNe : R2 := fun x y H Q => scal x y = true /\ Q (.bl (!decide (x = y))) H
theorem dec_int {i j : Int} : decide (V.int i = V.int j) = (i == j) := by
 rw [Bool.eq_iff_iff];simp
theorem dec_bl {i j : Bool} : decide (V.bl i = V.bl j) = (i == j) := by
 rw [Bool.eq_iff_iff];simp
theorem dec_str {i j : Str} : decide (V.str i = V.str j) = (i == j) := by
 rw [Bool.eq_iff_iff];simp
theorem dec_byt {i j : Array UInt8} : decide (V.byt i = V.byt j) = (i.toList == j.toList) := by
 rw [Bool.eq_iff_iff];cases i;cases j;simp
section
variable {X : Cx} {a b c : Expr} {ta tb tc : TE} {pos : Pos}
theorem fin_bl {pins : List (Addr × Obj)} {σ : St} {H : Hp} {s : Shared} {Q : VK} {k k' : Bool} (I : Inv X pins σ H s) (q : Q (.bl k) H) (e : k = k') : EP X pins σ Q (.bool k') s := by
 subst e;exact ⟨.bl k, H, I, rfl, q⟩
theorem op_eq : OpR X (compareOp .Eq) rEq := by
 intro pins s σ H x y v u Q I rx ry h;obtain ⟨hs, q⟩ := h;cases x with
 | non =>
  cases rx;cases y with
  | non => cases ry; exact PySem.EqNone.eq_none_none (fin_bl I q (by simp))
  | bl j => cases ry; exact PySem.EqNone.eq_none_bool (fin_bl I q (by simp))
  | int j => obtain ⟨t', rfl⟩ := ry; exact PySem.EqNone.eq_none_int (fin_bl I q (by simp))
  | str j => obtain ⟨t', rfl⟩ := ry; exact PySem.EqNone.eq_none_str (fin_bl I q (by simp))
  | _ => exact absurd (show false = true from hs) Bool.false_ne_true
 | bl i =>
  cases rx;cases y with
  | non => cases ry; exact PySem.EqNone.eq_bool_none (fin_bl I q (by simp))
  | bl j => cases ry; exact eq_bool (fin_bl I q dec_bl)
  | str j => obtain ⟨t', rfl⟩ := ry; exact PySem.EqMixed.eq_bool_str (fin_bl I q (by simp))
  | _ => exact absurd (show false = true from hs) Bool.false_ne_true
 | int i =>
  obtain ⟨t, rfl⟩ := rx;cases y with
  | non => cases ry; exact PySem.EqNone.eq_int_none (fin_bl I q (by simp))
  | int j => obtain ⟨t', rfl⟩ := ry; exact eq_int (fin_bl I q dec_int)
  | str j => obtain ⟨t', rfl⟩ := ry; exact PySem.EqMixed.eq_int_str (fin_bl I q (by simp))
  | _ => exact absurd (show false = true from hs) Bool.false_ne_true
 | str i =>
  obtain ⟨t, rfl⟩ := rx;cases y with
  | non => cases ry; exact PySem.EqNone.eq_str_none (fin_bl I q (by simp))
  | bl j => cases ry; exact PySem.EqMixed.eq_str_bool (fin_bl I q (by simp))
  | int j => obtain ⟨t', rfl⟩ := ry; exact PySem.EqMixed.eq_str_int (fin_bl I q (by simp))
  | str j => obtain ⟨t', rfl⟩ := ry; exact eq_str (fin_bl I q dec_str)
  | _ => exact absurd (show false = true from hs) Bool.false_ne_true
 | byt i =>
  obtain ⟨t, rfl⟩ := rx;cases y with
  | byt j => obtain ⟨t', rfl⟩ := ry; exact PySem.W.eq_bytes (fin_bl I q dec_byt)
  | _ => exact absurd (show false = true from hs) Bool.false_ne_true
 | _ => cases y <;> exact absurd (show false = true from hs) Bool.false_ne_true
theorem op_ne : OpR X (compareOp .NotEq) rNe := by
 intro pins s σ H x y v u Q I rx ry h;obtain ⟨hs, q⟩ := h;cases x with
 | non =>
  cases rx;cases y with
  | non => cases ry; exact PySem.EqNone.ne_none_none (fin_bl I q (by simp))
  | bl j => cases ry; exact PySem.EqNone.ne_none_bool (fin_bl I q (by simp))
  | int j => obtain ⟨t', rfl⟩ := ry; exact PySem.EqNone.ne_none_int (fin_bl I q (by simp))
  | str j => obtain ⟨t', rfl⟩ := ry; exact PySem.EqNone.ne_none_str (fin_bl I q (by simp))
  | _ => exact absurd (show false = true from hs) Bool.false_ne_true
 | bl i =>
  cases rx;cases y with
  | non => cases ry; exact PySem.EqNone.ne_bool_none (fin_bl I q (by simp))
  | bl j => cases ry; exact ne_bool (fin_bl I q (congrArg not dec_bl))
  | str j => obtain ⟨t', rfl⟩ := ry; exact PySem.EqMixed.ne_bool_str (fin_bl I q (by simp))
  | _ => exact absurd (show false = true from hs) Bool.false_ne_true
 | int i =>
  obtain ⟨t, rfl⟩ := rx;cases y with
  | non => cases ry; exact PySem.EqNone.ne_int_none (fin_bl I q (by simp))
  | int j => obtain ⟨t', rfl⟩ := ry; exact ne_int (fin_bl I q (congrArg not dec_int))
  | str j => obtain ⟨t', rfl⟩ := ry; exact PySem.EqMixed.ne_int_str (fin_bl I q (by simp))
  | _ => exact absurd (show false = true from hs) Bool.false_ne_true
 | str i =>
  obtain ⟨t, rfl⟩ := rx;cases y with
  | non => cases ry; exact PySem.EqNone.ne_str_none (fin_bl I q (by simp))
  | bl j => cases ry; exact PySem.EqMixed.ne_str_bool (fin_bl I q (by simp))
  | int j => obtain ⟨t', rfl⟩ := ry; exact PySem.EqMixed.ne_str_int (fin_bl I q (by simp))
  | str j => obtain ⟨t', rfl⟩ := ry; exact ne_str (fin_bl I q (congrArg not dec_str))
  | _ => exact absurd (show false = true from hs) Bool.false_ne_true
 | byt i =>
  obtain ⟨t, rfl⟩ := rx;cases y with
  | byt j => obtain ⟨t', rfl⟩ := ry; exact PySem.W.ne_bytes (fin_bl I q (congrArg not dec_byt))
  | _ => exact absurd (show false = true from hs) Bool.false_ne_true
 | _ => cases y <;> exact absurd (show false = true from hs) Bool.false_ne_true
theorem op_lt : OpR X (compareOp .Lt) (rI0 fun i j => .bl (decide (i < j))) := opB0 fun _ _ _ _ _ _ _ q => lt_int q
theorem op_le : OpR X (compareOp .LtE) (rI0 fun i j => .bl (decide (i <= j))) := opB0 fun _ _ _ _ _ _ _ q => le_int q
theorem op_gt : OpR X (compareOp .Gt) (rI0 fun i j => .bl (decide (j < i))) := opB0 fun _ _ _ _ _ _ _ q => gt_int q
theorem op_ge : OpR X (compareOp .GtE) (rI0 fun i j => .bl (decide (j <= i))) := opB0 fun _ _ _ _ _ _ _ q => ge_int q
theorem nomark (b : Expr) {op : CmpOp} (h : op ≠ .In := by decide) (h2 : op ≠ .NotIn := by decide) : behindInMarks op b = false := by
 have e1 : (op == CmpOp.In) = false := by cases op <;> first | rfl | exact absurd rfl h
 have e2 : (op == CmpOp.NotIn) = false := by cases op <;> first | rfl | exact absurd rfl h2
 cases b <;> simp [behindInMarks, e1, e2]
theorem pe_cmpR {op : CmpOp} {r : R2} (ho : OpR X (compareOp op) r) (ha : PE X a ta) (hb : PE X b tb) (hm : behindInMarks op b = false) : PE X (.Compare a [op] [b] pos) (tOp r ta tb) := by
 intro pins s σ H Q I h;exact wpAny_Compare1 (binT ha hb I h fun v u s2 x y H2 I2 rx ry q => ho pins s2 σ H2 x y v u Q I2 rx ry q) hm
def tTest (t : TE) : TT := fun σ H Q => t σ H fun x H' => ∃ k, x = .bl k /\ Q k H'
theorem pt_cmpR {op : CmpOp} {r : R2} (ho : OpR X (compareOp op) r) (ha : PE X a ta) (hb : PE X b tb) (hm : behindInMarks op b = false) : PT X (.Compare a [op] [b] pos) (tTest (tOp r ta tb)) := by
 intro pins s σ H Q I h;refine wpAny_isTrue_Compare1 (thn (ha pins s σ H _ I h) fun v s1 ⟨x, H1, I1, r1, q1⟩ => thn (hb pins s1 σ H1 _ I1 q1) fun u s2 ⟨y, H2, I2, r2, q2⟩ =>
  thn (ho pins s2 σ H2 x y v u _ I2 r1 r2 q2) fun c s3 ⟨z, H3, I3, r3, k, e, q3⟩ => ?_) hm
 subst e;cases r3;exact wpAny_truthy_bool ⟨H3, I3, q3⟩
theorem line63 : (sizeLine : Nat) < 2 ^ 63 := by rw [sizeLine_eq]; decide
theorem vals1 {x : V} {us : List Value} (r : Vals [x] us) : ∃ u, us = [u] /\ RelV x u := by
 cases r with
 | cons r1 r2 => cases r2; exact ⟨_, rfl, r1⟩
theorem vals2 {x y : V} {us : List Value} (r : Vals [x, y] us) : ∃ u w', us = [u, w'] /\ RelV x u /\ RelV y w' := by
 cases r with
 | cons r1 r2 =>
  cases r2 with
  | cons r3 r4 => cases r4; exact ⟨_, _, rfl, r1, r3⟩
theorem call_max2 (hc : X.calm = true) : CallR X (.builtin "max") (fun xs H Q => ∃ i j, xs = [.int i, .int j] /\ Q (.int (if j > i then j else i)) H) := by
 intro pins s σ H xs us Q I r h;obtain ⟨i, j, rfl, q⟩ := h;obtain ⟨u, w', rfl, ⟨t, rfl⟩, ⟨t', rfl⟩⟩ := vals2 r;refine max_two_ints (I.ok.hd hc) fun h' tk k => ⟨_, H, I.kept k, ?_, q⟩;by_cases hj : j > i
 ·rw [if_pos hj, if_pos hj]; exact ⟨_, rfl⟩
 ·rw [if_neg hj, if_neg hj]; exact ⟨_, rfl⟩
theorem call_int1 : CallR X (.type "int") (fun xs H Q => (∃ i, xs = [.int i] /\ Q (.int i) H) \/ ∃ k, xs = [.bl k] /\ Q (.int (if k then 1 else 0)) H) := by
 intro pins s σ H xs us Q I r h;rcases h with ⟨i, rfl, q⟩ | ⟨k, rfl, q⟩
 ·obtain ⟨u, rfl, t, rfl⟩ := vals1 r;exact call_int_int ⟨.int i, H, I, ⟨_, rfl⟩, q⟩
 ·obtain ⟨u, rfl, r1⟩ := vals1 r;cases r1;exact call_int_bool ⟨.int (if k then 1 else 0), H, I.tok _, ⟨_, rfl⟩, q⟩
end
structure ObjM (h : Heap) (x dx C : Addr) (mA : Str -> Option Value) : Prop where
 obj : h.get? x = some (PySem.W.instObj C dx)
 ns : h.Ns1 dx mA
 ne : dx ≠ x
theorem lookIn_ns {h : Heap} {dx : Addr} {mA : Str -> Option Value} (n : h.Ns1 dx mA) : ∃ od, h.get? dx = some od /\ ∀ name, PySem.W.lookIn name od = some (mA name) := by
 obtain ⟨o, es, ep, ho, hd, hk, _, hm⟩ := n;refine ⟨o, ho, fun name => ?_⟩;have e := hm name;unfold nsFind findBy at e;rw [<- Array.find?_toList] at e;unfold PySem.W.lookIn;rw [hd]
 dsimp only
 split
 ·rename_i y q
  rw [q] at e;exact congrArg some e
 ·rename_i q
  rw [q] at e;have a : es.toList.any (·.refKey) = false := by
   rw [List.any_eq_false];intro y hy;obtain ⟨z, t, hkey⟩ := hk y (Array.mem_toList_iff.mp hy);simp [DictEntry.refKey, hkey]
  have a' : ¬ es.toList.any (·.refKey) = true := by rw [a]; exact Bool.false_ne_true
  rw [if_neg a'];exact congrArg some e
theorem ObjM.look {h : Heap} {x dx C : Addr} {mA : Str -> Option Value} (I : ObjM h x dx C mA) : ∃ od, PySem.W.InstAt h x (PySem.W.instObj C dx) C (some od) /\ ∀ name, PySem.W.lookIn name od = some (mA name) :=
 let ⟨od, ho, hl⟩ := lookIn_ns I.ns
 ⟨od, ⟨I.obj, rfl, rfl, ho⟩, hl⟩
section
variable {prog : Program} {w : World} {A : Around} {E : Value -> Shared -> Prop} {s : Shared} {K : PySem.W.Frag} {x dx C f : Addr} {mA : Str -> Option Value} {name : Str} {v : Value}
theorem get_map {expr : Bool} {Q : Value -> Shared -> Prop} (X : K.In s.heap) (I : ObjM s.heap x dx C mA) (hg : PySem.W.plainGet K C name = true) (hh : PySem.W.hasDictIn K C = true)
  (ha : PySem.W.findIn K (.ref C) name = some none) (hv : mA name = some v) (hv' : PySem.W.handedIn v = true) (h : Q v { s with toks := s.toks + 1 }) :
  wpAny (model prog w) A (getAttr (.ref x) name expr) Q E s := by
 obtain ⟨od, J, hl⟩ := I.look;exact PySem.W.get_value X J (PySem.W.plainGet_of hg).1 (PySem.W.findObj_own hh ha rfl (by rw [hl, hv])) hv' h
theorem get_meth {pl : Sem Bool} {Q : Value × List Value -> Shared -> Prop} (X : K.In s.heap) (I : ObjM s.heap x dx C mA) (hg : PySem.W.plainGet K C name = true)
  (hf : PySem.W.findIn K (.ref C) name = some (some (.ref f))) (ht : PySem.W.isFn K (.ref f) = true) (hv : mA name = none) (h : Q (.ref f, [.ref x]) s) :
  wpAny (model prog w) A (getMethod (.ref x) name pl) Q E s := by
 obtain ⟨od, J, hl⟩ := I.look;exact PySem.W.method_fn X J (PySem.W.plainGet_of hg).1 (PySem.W.plainGet_of hg).2 hf (beq_iff_eq.mp ht) (by show (PySem.W.lookIn name od).map (·.isSome) = some false; rw [hl, hv]; rfl) h
theorem set_map {ns : List Str} {Q : Unit -> Shared -> Prop} (X : K.In s.heap) (I : ObjM s.heap x dx C mA)
  (hs : PySem.W.findIn K (.ref C) "__setattr__" = some (some (.builtin "object.__setattr__"))) (hp : PySem.W.plainOver K C = true) (ht : PySem.W.takerIn K C name = some none) (hh : PySem.W.hasDictIn K C = true)
  (hw : PySem.Within mA ns) (hsz : ns.length <= sizeLine)
  (h : ∀ h', ObjM h' x dx C (fun y => if y = name then some v else mA y) -> Heap.SameBut dx s.heap h' -> Q () { s with heap := h', toks := s.toks + 2 }) :
  wpAny (model prog w) A (setAttr (.ref x) name v) Q E s := by
 obtain ⟨od, J, hl⟩ := I.look;refine PySem.W.set_plain X J hs (PySem.W.osa_open (s := { s with toks := s.toks + 1 }) (r := none) X J hp ht fun b => ?_)
 obtain ⟨cd, hc, hd'⟩ := PySem.W.any_some hh;have hx : s.heap.get? x = some ⟨.ref C, some dx, .plain, #[]⟩ := I.obj;refine wpAny_bind (wpAny_pure (wpAny_bind (wpAny_bind (wpAny_loadPart hx (wpAny_bind (PySem.W.Looks.here (s := { s with toks := s.toks + 1 }) (PySem.W.looks_clsIn X hc) ?_))))))
 rw [hd'];refine wpAny_pure (a := some dx) (wpAny_bind (wpAny_pure (wpAny_bind ?_)));refine wpAny_nsSet1 (s := { s with toks := s.toks + 1 }) I.ns fun h' hn2 hs2 => ?_
 obtain ⟨oD, esD, epD, hoD, hdD, hcD⟩ := hn2.count (PySem.Within.cons name v hw);refine wpAny_bind (wpAny_lookBehind hoD (by rw [hdD]; exact pastItsLine_dict (Nat.le_trans hcD (by rw [List.length_cons]; omega))) ?_)
 exact wpAny_pure (h _ ⟨(hs2.2 _ (Ne.symm I.ne)).trans I.obj, hn2, I.ne⟩ hs2)
theorem make_map {R : Result -> Shared -> Prop} {vs : List Value} {kw : List (Str × Value)} (X : K.In s.heap) (hm : PySem.W.makesIn K C = true)
  (hi : PySem.W.findIn K (.ref C) "__init__" = some (some (.ref f))) (hf : PySem.W.typeIn K (.ref f) = some (.type "function"))
  (h : codeAny (model prog w) (A.under (.builtin "type.__call__" ⟨.ref C :: vs, kw⟩)) (.call (.ref f) ⟨.ref (s.heap.objs.size + 1) :: vs, kw⟩) (PySem.W.InitBack (s.heap.objs.size + 1) R)
   { s with heap := (s.heap.push PySem.W.emptyDict).push (PySem.W.instObj C s.heap.objs.size) }) :
  codeAny (model prog w) A (.call (.ref C) ⟨vs, kw⟩) R s := by
 obtain ⟨hh, g, d, t, os⟩ := s;exact PySem.W.make_core (PySem.W.makes_of X hm) (PySem.W.looks_findIn X hi) (fun self => PySem.W.bind_fn X self hf) (.inl rfl) h
end
def putF (f : Str) (v : V) : List (Str × V) -> List (Str × V)
 | [] => [(f, v)]
 | (g, x) :: r => if g = f then (g, v) :: r else (g, x) :: putF f v r
theorem lookup_putF (f g : Str) (v : V) : ∀ fs : List (Str × V), (putF f v fs).lookup g = if g = f then some v else fs.lookup g
 | [] => by
  show List.lookup g [(f, v)] = _;by_cases h : g = f
  ·have hb : (g == f) = true := beq_iff_eq.mpr h;simp only [List.lookup, hb, if_pos h]
  ·have hb : (g == f) = false := beq_eq_false_iff_ne.mpr h;simp only [List.lookup, hb, if_neg h]
 | (k, x) :: r => by
  have ih := lookup_putF f g v r;rw [show putF f v ((k, x) :: r) = (if k = f then (k, v) :: r else (k, x) :: putF f v r) from rfl]
  by_cases hk : k = f
  ·rw [if_pos hk];by_cases h : g = k
   ·have hb : (g == k) = true := beq_iff_eq.mpr h;simp only [List.lookup, hb, if_pos (h.trans hk)]
   ·have hb : (g == k) = false := beq_eq_false_iff_ne.mpr h;simp only [List.lookup, hb, if_neg (fun e : g = f => h (e.trans hk.symm))]
  ·rw [if_neg hk];by_cases h : g = k
   ·have hb : (g == k) = true := beq_iff_eq.mpr h;simp only [List.lookup, hb, if_neg (fun e : g = f => hk (h.symm.trans e))]
   ·have hb : (g == k) = false := beq_eq_false_iff_ne.mpr h;simp only [List.lookup, hb];exact ih
theorem keys_putF (f : Str) (v : V) : ∀ fs : List (Str × V), f ∈ (putF f v fs).map (·.1) /\ ∀ g, g ∈ fs.map (·.1) -> g ∈ (putF f v fs).map (·.1)
 | [] => ⟨by simp [putF], fun g h => by simp at h⟩
 | (k, x) :: r => by
  obtain ⟨i1, i2⟩ := keys_putF f v r;rw [show putF f v ((k, x) :: r) = (if k = f then (k, v) :: r else (k, x) :: putF f v r) from rfl]
  by_cases hk : k = f
  ·rw [if_pos hk];subst hk;exact ⟨by simp, fun g h => by simpa using h⟩
  ·rw [if_neg hk];refine ⟨?_, fun g h => ?_⟩
   ·rw [List.map_cons];exact List.mem_cons_of_mem _ i1
   ·rw [List.map_cons] at h ⊢;rcases List.mem_cons.mp h with e | e
    ·exact List.mem_cons.mpr (.inl e)
    ·exact List.mem_cons_of_mem _ (i2 g e)
theorem length_putF (f : Str) (v : V) : ∀ fs : List (Str × V), (putF f v fs).length <= fs.length + 1
 | [] => by simp [putF]
 | (k, x) :: r => by
  have ih := length_putF f v r;rw [show putF f v ((k, x) :: r) = (if k = f then (k, v) :: r else (k, x) :: putF f v r) from rfl]
  by_cases hk : k = f
  ·rw [if_pos hk, List.length_cons, List.length_cons]; omega
  ·rw [if_neg hk, List.length_cons, List.length_cons]; omega
theorem RelO.some_of {v : V} {o : Option Value} (r : RelO (some v) o) : ∃ u, o = some u /\ RelV v u := by
 cases o with
 | none => exact (show False from r).elim
 | some u => exact ⟨u, rfl, r⟩
theorem RelO.none_of {o : Option Value} (r : RelO none o) : o = none := by
 cases o with
 | none => rfl
 | some u => exact (show False from r).elim
theorem handed_of {v : V} {u : Value} (r : RelV v u) : PySem.W.handedIn u = true := by
 cases v with
 | non => cases (show u = Value.none from r); rfl
 | bl b => cases (show u = Value.bool b from r); rfl
 | int i => obtain ⟨t, e⟩ := (show ∃ t, u = Value.int i t from r); cases e; rfl
 | str x => obtain ⟨t, e⟩ := (show ∃ t, u = Value.str x t from r); cases e; rfl
 | byt b => obtain ⟨t, e⟩ := (show ∃ t, u = Value.bytes b t from r); cases e; rfl
 | flt b => obtain ⟨t, e⟩ := (show ∃ t, u = Value.float b t from r); cases e; rfl
 | ref a => cases (show u = Value.ref a from r); rfl
 | ty n => cases (show u = Value.type n from r); rfl
section
variable {P : Program} {w : World} {H H' : Hp} {h h' : Heap} {a C dx : Addr} {fs fs' : List (Str × V)}
theorem ins_get (hok : HOk P w H h) (e : H a = some (.ins C dx fs)) : ∃ mA, ObjM h a dx C mA /\ (∀ f, RelO (fs.lookup f) (mA f)) /\ PySem.Within mA (fs.map (·.1)) /\ fs.length <= 1000 /\ H dx = some (.own a) := by
 obtain ⟨d, z, ne, ob, mA, n, r, q⟩ := (show ObjOk P w H h a (.ins C dx fs) from hok a _ e);exact ⟨mA, ⟨ob, n, ne⟩, r, q, z, d⟩
end
structure Cls (K : PySem.W.Frag) (C : Addr) : Prop where
 pg : PySem.W.plainGet K C Str.empty = true
 hd : PySem.W.hasDictIn K C = true
 po : PySem.W.plainOver K C = true
 sa : PySem.W.findIn K (.ref C) "__setattr__" = some (some (.builtin "object.__setattr__"))
theorem Cls.get {K : PySem.W.Frag} {C : Addr} (c : Cls K C) (f : Str) : PySem.W.plainGet K C f = true := c.pg
def NoAttr (K : PySem.W.Frag) (C : Addr) (f : Str) : Prop := PySem.W.findIn K (.ref C) f = some none
theorem NoAttr.taker {K : PySem.W.Frag} {C : Addr} {f : Str} (n : NoAttr K C f) : PySem.W.takerIn K C f = some none := by
 unfold PySem.W.takerIn;rw [show PySem.W.findIn K (.ref C) f = some none from n];rfl
structure Meth (K : PySem.W.Frag) (C : Addr) (m : Str) (f : Addr) : Prop where
 at_ : PySem.W.findIn K (.ref C) m = some (some (.ref f))
 fn : PySem.W.isFn K (.ref f) = true
 kp : PySem.W.keepIn K (.ref f) = true
section
variable {X : Cx} {pins : List (Addr × Obj)} {σ : St} {H : Hp} {s : Shared} {a C dx : Addr} {fs : List (Str × V)} {f : Str} {v : V} {A : Around} {E : Value -> Shared -> Prop}
theorem getattr_ok {b : Bool} {Q : Value -> Shared -> Prop} (I : Inv X pins σ H s) (e : H a = some (.ins C dx fs)) (c : Cls X.K C) (n : NoAttr X.K C f) (l : fs.lookup f = some v)
  (h : ∀ u s', Inv X pins σ H s' -> RelV v u -> Q u s') : wpAny (model X.prog X.w) A (getAttr (.ref a) f b) Q E s := by
 obtain ⟨mA, O, r, _, _, _⟩ := ins_get I.hok e;obtain ⟨u, hu, ru⟩ := RelO.some_of (v := v) (o := mA f) (by rw [<- l]; exact r f)
 exact get_map I.kIn O (c.get f) c.hd n hu (handed_of ru) (h u _ (I.tok _) ru)
theorem getmeth_ok {m : Str} {g : Addr} {pl : Sem Bool} {Q : Value × List Value -> Shared -> Prop} (I : Inv X pins σ H s) (e : H a = some (.ins C dx fs)) (c : Cls X.K C) (k : Meth X.K C m g) (l : fs.lookup m = none)
  (h : Q (.ref g, [.ref a]) s) : wpAny (model X.prog X.w) A (getMethod (.ref a) m pl) Q E s := by
 obtain ⟨mA, O, r, _, _, _⟩ := ins_get I.hok e;have hn : mA m = none := RelO.none_of (by rw [<- l]; exact r m)
 exact get_meth I.kIn O (c.get m) k.at_ k.fn hn h
theorem setattr_ok {y : V} {u : Value} {Q : Unit -> Shared -> Prop} (I : Inv X pins σ H s) (e : H a = some (.ins C dx fs)) (c : Cls X.K C) (n : NoAttr X.K C f) (hl : fs.length < 1000) (ry : RelV y u)
  (h : ∀ s', Inv X pins σ (upd H a (.ins C dx (putF f y fs))) s' -> Q () s') : wpAny (model X.prog X.w) A (setAttr (.ref a) f u) Q E s := by
 obtain ⟨mA, O, r, wi, _, ho⟩ := ins_get I.hok e;have hz : (fs.map (·.1)).length <= sizeLine := by rw [List.length_map, sizeLine_eq]; omega
 refine set_map I.kIn O c.sa c.po n.taker c.hd wi hz fun h' O' sb => h _ ?_;have hd : ∃ o, h'.get? dx = some o := let ⟨o, _, _, e', _⟩ := O'.ns; ⟨o, e'⟩
 refine I.write (x := a) (e := dx) (by rw [e]; exact True.intro) (.inr ho) (fun b q hb z => (sb.2 b hb).trans z) hd ?_
 refine ⟨by rw [upd_ne O.ne]; exact ho, ?_, O.ne, O'.obj, _, O'.ns, fun g => ?_, fun g hg => ?_⟩
 ·have := length_putF f y fs; omega
 ·show RelO ((putF f y fs).lookup g) (if g = f then some u else mA g)
  rw [lookup_putF];by_cases q : g = f
  ·rw [if_pos q, if_pos q]; exact ry
  ·rw [if_neg q, if_neg q]; exact r g
 ·by_cases q : g = f
  ·rw [q]; exact (keys_putF f y fs).1
  ·refine (keys_putF f y fs).2 g (wi g fun z => hg ?_);show (if g = f then some u else mA g) = none
   rw [if_neg q]; exact z
theorem Inv.made (I : Inv X pins σ H s) : Inv X pins σ (upd (upd H s.heap.objs.size (.own (s.heap.objs.size + 1))) (s.heap.objs.size + 1) (.ins C s.heap.objs.size []))
  { s with heap := (s.heap.push PySem.W.emptyDict).push (PySem.W.instObj C s.heap.objs.size) } := by
 have e1 : (s.heap.push PySem.W.emptyDict).get? s.heap.objs.size = some PySem.W.emptyDict := Heap.get?_push_size s.heap rfl;have e2 : ((s.heap.push PySem.W.emptyDict).push (PySem.W.instObj C s.heap.objs.size)).get? (s.heap.objs.size + 1) = some (PySem.W.instObj C s.heap.objs.size) := by
  have := Heap.get?_push_size (s.heap.push PySem.W.emptyDict) (o := PySem.W.instObj C s.heap.objs.size) rfl
  rwa [Heap.size_push] at this
 have e3 : (s.heap.push PySem.W.emptyDict).Ns s.heap.objs.size (fun _ => none) := ⟨PySem.W.emptyDict, #[], _, e1, rfl, (fun e he => absurd he (by simp)), fun _ => rfl⟩
 have I1 := I.laid (a := s.heap.objs.size) (o := .own (s.heap.objs.size + 1)) (h' := s.heap.push PySem.W.emptyDict) (t' := s.toks) (fun b u q => Heap.get?_push_of_some _ q) (Nat.le_refl _) ⟨_, e1⟩;refine I1.laid (a := s.heap.objs.size + 1) (o := .ins C s.heap.objs.size []) (t' := s.toks) (fun b u q => Heap.get?_push_of_some _ q) (Nat.le_of_eq (Heap.size_push _ _)) ?_;have ne : s.heap.objs.size ≠ s.heap.objs.size + 1 := Nat.ne_of_lt (Nat.lt_succ_self _);refine ⟨by rw [upd_ne ne, uds], Nat.zero_le _, ne, e2, fun _ => none, (Heap.Ns1.of_empty e3).at fun o q => Heap.get?_push_of_some _ q, fun _ => True.intro, fun y hy => absurd rfl hy⟩
theorem attr_of {prog : Program} {w : World} {env : Env} {e : Expr} {f : Str} {pos : Pos} {s : Shared} {Q : Value -> Shared -> Prop} (hb : attributeBase e f env (eval e env) = eval e env)
  (h : wpAny (model prog w) A (eval e env) (fun o s₁ => wpAny (model prog w) A (getAttr o f true) Q E s₁) E s) : wpAny (model prog w) A (eval (.Attribute e f pos) env) Q E s :=
 Attribute_any_ h (by rw [arm_eval_Attribute, hb])
end
def tFld (K : PySem.W.Frag) (ta : TE) (f : Str) : TE := fun σ H Q => ta σ H fun x H1 => ∃ a C dx fs v, x = .ref a /\ H1 a = some (.ins C dx fs) /\ Cls K C /\ NoAttr K C f /\ fs.lookup f = some v /\ Q v H1
def sFld (K : PySem.W.Frag) (ta tv : TE) (f : Str) : TS := fun D σ H => tv σ H fun y H1 => ta σ H1 fun x H2 => ∃ a C dx fs, x = .ref a /\ H2 a = some (.ins C dx fs) /\ Cls K C /\ NoAttr K C f /\ fs.length < 1000 /\
 D.nx σ (upd H2 a (.ins C dx (putF f y fs)))
section
variable {X : Cx} {o e value : Expr} {f : Str} {pos pos' tpos : Pos} {ta tv : TE}
theorem pef (he : PE X e ta) (hb : attributeBase e f X.env (eval e X.env) = eval e X.env) : PE X (.Attribute e f pos) (tFld X.K ta f) := by
 intro pins s σ H Q I h;refine attr_of hb (thn (he pins s σ H _ I h) fun u s1 ⟨x, H1, I1, rx, a, C, dx, fs, v, ex, ea, c, n, l, q⟩ => ?_);subst ex;obtain rfl : u = Value.ref a := rx;exact getattr_ok I1 ea c n l fun u' s2 I2 ru => ⟨v, H1, I2, ru, q⟩
theorem ps_fld (ha : PE X o ta) (hv : PE X value tv) (hs : swapsWith value (some (.Attribute o f pos')) pos.line X.env = pure false) : PS X (.Assign [.Attribute o f pos'] value pos) (sFld X.K ta tv f) := by
 intro pins s σ H D I h;refine plainObj_wpAny_Assign_Attribute (thn (hv pins s σ H _ I h) fun u s1 ⟨y, H1, I1, ry, q⟩ => thn (ha pins s1 σ H1 _ I1 q) fun ov s2 ⟨x, H2, I2, rx, a, C, dx, fs, ex, ea, c, n, l, q2⟩ => ?_) hs;subst ex;obtain rfl : ov = Value.ref a := rx;exact setattr_ok I2 ea c n l ry fun s3 I3 => ⟨σ, _, I3, q2⟩
variable {pins : List (Addr × Obj)} {σ : St} {H : Hp} {s : Shared} {A : Around} {E : Value -> Shared -> Prop} {Q : Value -> Shared -> Prop} {c : Value} {b : Bool}
inductive TyOf (K : PySem.W.Frag) (H : Hp) : V -> Value -> Prop where
 | non : TyOf K H .non (.type "NoneType")
 | bl (x : Bool) : TyOf K H (.bl x) (.type "bool")
 | int (i : Int) : TyOf K H (.int i) (.type "int")
 | str (x : Str) : TyOf K H (.str x) (.type "str")
 | flt (x : UInt64) : TyOf K H (.flt x) (.type "float")
 | lst {a : Addr} {xs : List V} (e : H a = some (.lst xs)) : TyOf K H (.ref a) (.type "list")
 | frz {a : Addr} {o : Obj} {xs : List V} (e : H a = some (.frz o (.lst xs))) : TyOf K H (.ref a) (.type "list")
 | tup {a : Addr} {xs : List V} (e : H a = some (.tup xs)) : TyOf K H (.ref a) (.type "tuple")
 | dK {a : Addr} {kvs : List (Key × V)} (e : H a = some (.dK kvs)) : TyOf K H (.ref a) (.type "dict")
 | dT {a : Addr} {kvs : List (List Key × V)} (e : H a = some (.dT kvs)) : TyOf K H (.ref a) (.type "dict")
 | ins {a C dx : Addr} {fs : List (Str × V)} (e : H a = some (.ins C dx fs)) (cl : Cls K C) (ha : PySem.W.findIn K (.ref C) "__class__" = some (some (.builtin "object.__class__")))
   (hn : PySem.W.specialIn K (.builtin "object.__class__") "__get__" = some (some (.builtin "getset_descriptor.__get__"))) (htk : PySem.W.takesIn K (.builtin "object.__class__") = some true)
   (hm : PySem.W.mroIn K C (.type "object") = some true) : TyOf K H (.ref a) (.ref C)
theorem isinst_ok {x : V} {u t : Value} (I : Inv X pins σ H s) (rx : RelV x u) (ty : TyOf X.K H x t) (e : PySem.W.kitOne X.K t c = some b) (h : ∀ tk, Q (.bool b) { s with toks := tk }) :
  wpAny (model X.prog X.w) A (call (.builtin "isinstance") [u, c]) Q E s := by
 cases ty with
 | non => cases (show u = Value.none from rx); exact PySem.W.kia_one PySem.W.kitx_none I.kIn True.intro e (fun z => nomatch z) h
 | bl y => cases (show u = Value.bool y from rx); exact PySem.W.kia_one PySem.W.kitx_bool I.kIn True.intro e (fun z => nomatch z) h
 | int i => obtain ⟨t, q⟩ := (show ∃ t, u = Value.int i t from rx); cases q; exact PySem.W.kia_one PySem.W.kitx_int I.kIn True.intro e (fun z => nomatch z) h
 | str y => obtain ⟨t, q⟩ := (show ∃ t, u = Value.str y t from rx); cases q; exact PySem.W.kia_one PySem.W.kitx_str I.kIn True.intro e (fun z => nomatch z) h
 | flt y => obtain ⟨t, q⟩ := (show ∃ t, u = Value.float y t from rx); cases q; exact PySem.W.kia_one PySem.W.kitx_float I.kIn True.intro e (fun z => nomatch z) h
 | @lst a xs ea =>
  cases (show u = Value.ref a from rx);obtain ⟨_, _, n, _, h1⟩ := (show ObjOk X.prog X.w H s.heap a (.lst xs) from I.hok a _ ea);exact PySem.W.kia_one PySem.W.kitx_list I.kIn ⟨_, h1, rfl⟩ e (fun z => nomatch z) h
 | @frz a ob xs ea =>
  cases (show u = Value.ref a from rx);obtain ⟨_, _, _, n, _, h1⟩ := (show ObjOk X.prog X.w H s.heap a (.frz ob (.lst xs)) from I.hok a _ ea);exact PySem.W.kia_one PySem.W.kitx_list I.kIn ⟨_, h1, rfl⟩ e (fun z => nomatch z) h
 | @tup a xs ea =>
  cases (show u = Value.ref a from rx);obtain ⟨_, _, _, p⟩ := (show ObjOk X.prog X.w H s.heap a (.tup xs) from I.hok a _ ea);obtain ⟨o, h1, h2, _⟩ := p;exact PySem.W.kia_one PySem.W.kitx_tuple I.kIn ⟨o, h1, h2⟩ e (fun z => nomatch z) h
 | @dK a kvs ea =>
  cases (show u = Value.ref a from rx);obtain ⟨_, _, vs, _, p⟩ := (show ObjOk X.prog X.w H s.heap a (.dK kvs) from I.hok a _ ea);obtain ⟨o, es, ep, h1, h2, _⟩ := p;exact PySem.W.kia_one PySem.W.kitx_dict I.kIn ⟨o, h1, h2.1⟩ e (fun z => nomatch z) h
 | @dT a kvs ea =>
  cases (show u = Value.ref a from rx);obtain ⟨_, _, xs, _, o, es, ep, h1, h2, _⟩ := (show ObjOk X.prog X.w H s.heap a (.dT kvs) from I.hok a _ ea);exact PySem.W.kia_one PySem.W.kitx_dict I.kIn ⟨o, h1, h2.1⟩ e (fun z => nomatch z) h
 | @ins a C dx fs ea cl ha hn htk hm =>
  cases (show u = Value.ref a from rx);obtain ⟨mA, O, _⟩ := ins_get I.hok ea;obtain ⟨od, J, _⟩ := O.look;exact PySem.W.kia_one (PySem.W.kitx_own (cl.get _) cl.hd ha hn htk hm) I.kIn J e (fun z => nomatch z) h
end
structure Room (k : Nat) (A : Around) : Prop where
 hd : A.handled = none
 dp : A.depth + 3 * k + 5 < recursionLimit
 un : A.units + 16 * k + 200 < cLine
 gd : A.guards = some []
theorem Room.mono {j k : Nat} {A : Around} (r : Room k A) (h : j <= k) : Room j A := ⟨r.hd, by have := r.dp; omega, by have := r.un; omega, r.gd⟩
theorem Room.deeper {k : Nat} {A : Around} (r : Room (k + 1) A) (env : Env) : Room k (A.deeper env) :=
 ⟨r.hd, by have := r.dp; show A.depth + 1 + 3 * k + 5 < _; omega, by have := r.un; show A.units + 3 + 16 * k + 200 < _; omega, r.gd⟩
theorem make_depth {A : Around} {C : Addr} {us : List Value} {kw : List (Str × Value)} : (A.under (.builtin "type.__call__" ⟨.ref C :: us, kw⟩)).depth = A.depth + 1 := by
 first | rfl | simp [Around.under, Code.weight, Code.isCreation, Code.isGuard, Code.isCaller, Code.frames, Code.isFrame, guardIds]
theorem make_units {A : Around} {C : Addr} {us : List Value} {kw : List (Str × Value)} : (A.under (.builtin "type.__call__" ⟨.ref C :: us, kw⟩)).units = A.units + 1 := by
 first | rfl | simp [Around.under, Code.cUnits, Code.frames, Code.isFrame]
theorem Room.make {k : Nat} {A : Around} (r : Room (k + 1) A) (C : Addr) (us : List Value) (kw : List (Str × Value)) : Room k (A.under (.builtin "type.__call__" ⟨.ref C :: us, kw⟩)) :=
 ⟨r.hd, by have := r.dp; rw [make_depth]; omega, by have := r.un; rw [make_units]; omega, by have h := r.gd; first | (simp only [Around.under]; rw [h]; rfl) | simp [Around.under, h, pushGuards, Code.guards, Code.isGuard, guardIds]⟩
theorem Room.depth {k : Nat} {A : Around} (r : Room k A) : A.depth < recursionLimit := by have := r.dp; omega
def tNl : TA := fun _ H Q => Q [] H
def tCn (ta : TE) (tr : TA) : TA := fun σ H Q => ta σ H fun x H1 => tr σ H1 fun xs H2 => Q (x :: xs) H2
section
variable {X : Cx} {e : Expr} {es : List Expr} {te : TE} {t : TA} {pos : Pos}
theorem pan : PA X [] tNl := fun _ _ _ _ H Q I h => Calls.spliced_nil ⟨[], H, I, .nil, h⟩
theorem pac (ha : PE X e te) (hr : PA X es t) (hs : starEach (e :: es) X.env = (false, eval e X.env) :: starEach es X.env := by rfl) : PA X (e :: es) (tCn te t) := by
 intro pos pins s σ H Q I h;rw [hs];show wpAny _ _ (spliced ((false, eval e X.env) :: backTo pos (starEach es X.env))) _ _ s;refine Calls.spliced_cons (thn (ha pins s σ H _ I h) fun u s1 ⟨x, H1, I1, r1, q1⟩ => ?_);exact thn (hr pos pins s1 σ H1 _ I1 q1) fun us s2 ⟨xs, H2, I2, r2, q2⟩ => ⟨x :: xs, H2, I2, .cons r1 r2, q2⟩
def tTup (t : TA) : TE := fun σ H Q => t σ H fun xs H1 => xs.length <= sizeLine /\ ∀ p, H1 p = none -> Q (.ref p) (upd H1 p (.tup xs))
def tLst (t : TA) : TE := fun σ H Q => t σ H fun xs H1 => xs.length <= sizeLine /\ ∀ p, H1 p = none -> Q (.ref p) (upd H1 p (.lst xs))
theorem pe_tup {x1} (h : PA X es t) : PE X (.Tuple es x1 pos) (tTup t) := by
 intro pins s σ H Q I hq;refine wpAny_Tuple_spliced (thn (h pos pins s σ H _ I hq) fun us s1 ⟨xs, H1, I1, r, z, q⟩ => ⟨by rw [<- r.length]; exact z, ?_⟩)
 have hf : H1 s1.heap.objs.size = none := I1.hok.fresh (Nat.le_refl _);refine ⟨.ref s1.heap.objs.size, upd H1 s1.heap.objs.size (.tup xs), I1.laid (t' := s1.toks) (fun b u e => Heap.get?_push_of_some _ e) (Nat.le_refl _) ?_, rfl, q _ hf⟩;exact ⟨z, us, r, ⟨_, Heap.get?_push_size _ rfl, rfl, _, rfl⟩⟩
theorem pe_lst (h : PA X es t) : PE X (.List es pos) (tLst t) := by
 intro pins s σ H Q I hq;refine wpAny_List_spliced (thn (h pos pins s σ H _ I hq) fun us s1 ⟨xs, H1, I1, r, z, q⟩ => ⟨by rw [<- r.length]; exact z, ?_⟩)
 have hf : H1 s1.heap.objs.size = none := I1.hok.fresh (Nat.le_refl _);refine ⟨.ref s1.heap.objs.size, upd H1 s1.heap.objs.size (.lst xs), I1.laid (t' := s1.toks) (fun b u e => Heap.get?_push_of_some _ e) (Nat.le_refl _) ?_, rfl, q _ hf⟩;exact ⟨z, us, 0, r, Heap.get?_push_size _ rfl⟩
end
abbrev Sp := List V -> Hp -> VK -> XK -> Prop
abbrev CXT := List Env -> Hp -> Shared -> XK -> Value -> Shared -> Prop
structure Env0 (P : Program) (w : World) (K : PySem.W.Frag) (mg : Str -> Option Value) (base : Heap) (A : Around) (outer : List Env) (s : Shared) (H : Hp) : Prop where
 frames : A.frames = some outer
 mod : Mod K mg base
 bs : ∀ b o, base.get? b = some o -> s.heap.get? b = some o /\ H b = none
 bsz : base.objs.size <= s.heap.objs.size
 funs : s.heap.FunFrames base outer
 frf : ∀ b ∈ frs outer, H b = none
 hok : HOk P w H s.heap
 bare : AllBare s.gens
def CE (outer : List Env) (P : Program) (w : World) (H : Hp) (s : Shared) (Q : VK) (u : Value) (s' : Shared) : Prop :=
 ∃ v H', s'.os = s.os /\ AllBare s'.gens /\ Un (frs outer) [] H H' s.heap s'.heap /\ HOk P w H' s'.heap /\ RelV v u /\ Q v H'
def CR (CX : CXT) (outer : List Env) (P : Program) (w : World) (H : Hp) (s : Shared) (Q : VK) (E : XK) (r : Result) (s' : Shared) : Prop :=
 match r with
 | .ok (.ret u) => CE outer P w H s Q u s'
 | .ok _ => False
 | .error e => CX outer H s E e s'
structure FnOk (P : Program) (w : World) (K : PySem.W.Frag) (mg : Str -> Option Value) (base : Heap) (CX : CXT) (k : Nat) (f : Addr) (fd : FuncData) (ps : List Str) (sp : Sp) : Prop where
 len : ∀ vs H Q E, sp vs H Q E -> vs.length = ps.length
 run : ∀ (A : Around) (outer : List Env) (s : Shared) (H : Hp) (args : Args) (us : List Value) (vs : List V) (Q : VK) (E : XK), Room k A -> Env0 P w K mg base A outer s H -> BindsTo s fd args (ps.zip us) -> Vals vs us -> sp vs H Q E ->
  codeAny (model P w) A (.call (.ref f) args) (CR CX outer P w H s Q E) s
theorem FnOk.mono {P : Program} {w : World} {K : PySem.W.Frag} {mg : Str -> Option Value} {base : Heap} {CX : CXT} {j k : Nat} {f : Addr} {fd : FuncData} {ps : List Str} {sp : Sp} (F : FnOk P w K mg base CX j f fd ps sp) (h : j <= k) :
  FnOk P w K mg base CX k f fd ps sp := ⟨F.len, fun A outer s H args us vs Q E hr => F.run A outer s H args us vs Q E (hr.mono h)⟩
theorem FnOk.imp {P : Program} {w : World} {K : PySem.W.Frag} {mg : Str -> Option Value} {base : Heap} {CX : CXT} {k : Nat} {f : Addr} {fd : FuncData} {ps : List Str} {sp sp' : Sp} (F : FnOk P w K mg base CX k f fd ps sp)
  (h : ∀ vs H Q E, sp' vs H Q E -> sp vs H Q E) : FnOk P w K mg base CX k f fd ps sp' :=
 ⟨fun vs H Q E q => F.len vs H Q E (h _ _ _ _ q), fun A outer s H args us vs Q E hr he hb hv hs => F.run A outer s H args us vs Q E hr he hb hv (h _ _ _ _ hs)⟩
theorem Env0.make {P : Program} {w : World} {K : PySem.W.Frag} {mg : Str -> Option Value} {base : Heap} {A : Around} {outer : List Env} {s : Shared} {H : Hp} (e : Env0 P w K mg base A outer s H) (C : Addr) (us : List Value) (kw : List (Str × Value)) :
  Env0 P w K mg base (A.under (.builtin "type.__call__" ⟨.ref C :: us, kw⟩)) outer s H := ⟨by first | exact e.frames | (simpa [Around.under, Code.envs, Code.isFrame, pushEnvs] using e.frames), e.mod, e.bs, e.bsz, e.funs, e.frf, e.hok, e.bare⟩
section
variable {X : Cx} {pins : List (Addr × Obj)} {σ : St} {H : Hp} {s s' : Shared}
theorem Inv.env0 (I : Inv X pins σ H s) : Env0 X.prog X.w X.K X.mg X.base X.A X.stack s H :=
 ⟨I.ok.frames, I.ok.mod, I.bs, Nat.le_trans I.ok.bsz I.sz, I.stack, I.stkFree, I.hok, I.bare⟩
theorem Inv.after {Q : VK} {u : Value} (I : Inv X pins σ H s) (h : CE X.stack X.prog X.w H s Q u s') : EP X pins σ Q u s' := by
 obtain ⟨v, H', os, bare, un, hok, r, q⟩ := h;obtain ⟨hh, g, d, t, os'⟩ := s';obtain rfl : os' = s.os := os;exact ⟨v, H', I.call (h' := hh) (g' := g) (d' := d) (t' := t) (ch := []) un hok bare (fun b z => absurd z (by simp)), r, q⟩
end
def tCl (sp : Sp) (dvs : List V) (E : XK) (t : TA) : TE := fun σ H Q => t σ H fun vs H1 => sp (vs ++ dvs) H1 Q E
def tMake (C : Addr) (sp : Sp) (dvs : List V) (E : XK) (t : TA) : TE := fun σ H Q => t σ H fun vs H1 => ∀ x dx, H1 x = none -> H1 dx = none -> dx ≠ x ->
 sp (.ref x :: (vs ++ dvs)) (upd (upd H1 dx (.own x)) x (.ins C dx [])) (fun v H2 => v = .non /\ Q (.ref x) H2) E
def Binds (K : PySem.W.Frag) (fd : FuncData) (ps : List Str) (ds : List Value) : Prop :=
 ∀ (s : Shared) (us : List Value), K.In s.heap -> (us ++ ds).length = ps.length -> BindsTo s fd ⟨us, []⟩ (ps.zip (us ++ ds))
theorem Binds.all {K : PySem.W.Frag} {fd : FuncData} {ps : List Str} (h : ∀ us : List Value, us.length = ps.length -> bindArgs fd ⟨us, []⟩ = pure (ps.zip us)) : Binds K fd ps [] := fun s us _ hl => by
 rw [List.append_nil] at hl ⊢;exact .of_eq (h us hl)
def Passes (CX : CXT) (X : Cx) (E : XK) : Prop := ∀ (pins : List (Addr × Obj)) (σ : St) (H : Hp) (s : Shared) (e : Value) (s' : Shared), Inv X pins σ H s -> CX X.stack H s E e s' -> X.xe e s'
section
variable {X : Cx} {CX : CXT} {k : Nat} {f C : Addr} {fd : FuncData} {ps : List Str} {sp : Sp} {dvs : List V} {ds : List Value} {E : XK} {x m : Str} {p pos apos : Pos} {e o : Expr} {es : List Expr} {ta : TE} {t : TA}
theorem run_fn {pins : List (Addr × Obj)} {σ : St} {H : Hp} {s : Shared} {Q : VK} {us : List Value} {vs : List V} (F : FnOk X.prog X.w X.K X.mg X.base CX k f fd ps sp) (hr : Room k X.A) (hb : Binds X.K fd ps ds) (hd : Vals dvs ds) (hx : Passes CX X E)
  (I : Inv X pins σ H s) (r : Vals vs us) (h : sp (vs ++ dvs) H Q E) : wpAny (model X.prog X.w) X.A (call (.ref f) us) (EP X pins σ Q) X.xe s := by
 have r2 : Vals (vs ++ dvs) (us ++ ds) := r.append hd;have hl : (us ++ ds).length = ps.length := by rw [<- r2.length]; exact F.len _ _ _ _ h
 refine wpAny_call (codeAny_mono (F.run X.A X.stack s H ⟨us, []⟩ (us ++ ds) (vs ++ dvs) Q E hr I.env0 (hb s us I.kIn hl) r2 h) fun r s' hq => ?_);cases r with
 | error e => exact hx pins σ H s e s' I hq
 | ok fl =>
  cases fl with
  | ret u => exact I.after hq
  | next => exact False.elim hq
  | brk => exact False.elim hq
  | cont => exact False.elim hq
theorem pec (F : FnOk X.prog X.w X.K X.mg X.base CX k f fd ps sp) (hr : Room k X.A) (hg : Gl X x) (hm : X.mg x = some (.ref f)) (hk : PySem.W.keepIn X.K (.ref f) = true) (hb : Binds X.K fd ps ds) (hd : Vals dvs ds) (hx : Passes CX X E)
  (ha : PA X (e :: es) t) (hdb : (x == ("__debug__" : Str)) = false := by decide) (he : starEach (e :: es) X.env = (false, eval e X.env) :: starEach es X.env := by rfl) (hpl : (backTo pos (starEach es X.env)).any (·.1) = false := by rfl) :
  PE X (.Call (.Name x p) (e :: es) [] pos) (tCl sp dvs E t) := by
 intro pins s σ H Q I h;refine wpAny_Call_Name_kw (ld_glob I hg hm ?_ hdb);refine PySem.W.callWith_K (h₀ := X.base) I.ok.mod.kin hk (thn (ha pos pins s σ H _ I h) fun us s1 ⟨vs, H1, I1, r, q⟩ => ⟨I1.kIn, ?_⟩) he hpl;exact run_fn F hr hb hd hx I1 r q
structure Mk (K : PySem.W.Frag) (C f : Addr) : Prop where
 makes : PySem.W.makesIn K C = true
 init : PySem.W.findIn K (.ref C) "__init__" = some (some (.ref f))
 fn : PySem.W.isFn K (.ref f) = true
 kp : PySem.W.keepIn K (.ref C) = true
theorem run_make {pins : List (Addr × Obj)} {σ : St} {H : Hp} {s : Shared} {Q : VK} {us : List Value} {vs : List V} (M : Mk X.K C f) (F : FnOk X.prog X.w X.K X.mg X.base CX k f fd ps sp) (hr : Room (k + 1) X.A) (hb : Binds X.K fd ps ds) (hd : Vals dvs ds)
  (hx : Passes CX X E) (I : Inv X pins σ H s) (r : Vals vs us)
  (h : ∀ x dx, H x = none -> H dx = none -> dx ≠ x -> sp (.ref x :: (vs ++ dvs)) (upd (upd H dx (.own x)) x (.ins C dx [])) (fun v H2 => v = .non /\ Q (.ref x) H2) E) :
  wpAny (model X.prog X.w) X.A (call (.ref C) us) (EP X pins σ Q) X.xe s := by
 have hq := h (s.heap.objs.size + 1) s.heap.objs.size (I.hok.fresh (Nat.le_succ _)) (I.hok.fresh (Nat.le_refl _)) (Nat.ne_of_lt (Nat.lt_succ_self _));have I2 := Inv.made (C := C) I;have r2 : Vals (V.ref (s.heap.objs.size + 1) :: (vs ++ dvs)) (Value.ref (s.heap.objs.size + 1) :: (us ++ ds)) := .cons rfl (r.append hd);have hl : (Value.ref (s.heap.objs.size + 1) :: us ++ ds).length = ps.length := by
  have e := r2.length;rw [F.len _ _ _ _ hq] at e;exact e.symm
 refine wpAny_call (make_map (f := f) I.kIn M.makes M.init (beq_iff_eq.mp M.fn) (codeAny_mono (F.run _ X.stack _ _ ⟨Value.ref (s.heap.objs.size + 1) :: us, []⟩ (Value.ref (s.heap.objs.size + 1) :: (us ++ ds)) _ _ E (hr.make C us [])
  (I2.env0.make C us []) (hb _ (Value.ref (s.heap.objs.size + 1) :: us) I2.kIn hl) r2 hq) fun r s' hq' => ?_))
 cases r with
 | error e => exact hx pins σ _ _ e s' I2 hq'
 | ok fl =>
  cases fl with
  | ret u =>
   obtain ⟨v, H', I3, rv, ev, q3⟩ := I2.after hq';subst ev;exact ⟨rv, ⟨V.ref (s.heap.objs.size + 1), H', I3, rfl, q3⟩⟩
  | next => exact False.elim hq'
  | brk => exact False.elim hq'
  | cont => exact False.elim hq'
theorem pe_make (M : Mk X.K C f) (F : FnOk X.prog X.w X.K X.mg X.base CX k f fd ps sp) (hr : Room (k + 1) X.A) (hg : Gl X x) (hm : X.mg x = some (.ref C)) (hb : Binds X.K fd ps ds) (hd : Vals dvs ds) (hx : Passes CX X E)
  (ha : PA X (e :: es) t) (hdb : (x == ("__debug__" : Str)) = false := by decide) (he : starEach (e :: es) X.env = (false, eval e X.env) :: starEach es X.env := by rfl) (hpl : (backTo pos (starEach es X.env)).any (·.1) = false := by rfl) :
  PE X (.Call (.Name x p) (e :: es) [] pos) (tMake C sp dvs E t) := by
 intro pins s σ H Q I h;refine wpAny_Call_Name_kw (ld_glob I hg hm ?_ hdb);refine PySem.W.callWith_K (h₀ := X.base) I.ok.mod.kin M.kp (thn (ha pos pins s σ H _ I h) fun us s1 ⟨vs, H1, I1, r, q⟩ => ⟨I1.kIn, ?_⟩) he hpl;exact run_make M F hr hb hd hx I1 r q
end
structure FnScope (N P : List Str) (sc : Scope) : Prop where
 kind : sc.kind = .function
 co : sc.isCoroutine = false
 gen : sc.isGenerator = false
 nd : N.Nodup
 pre : N.take P.length = P
 par : ∀ x ∈ P, sc.names.lookup x = some .local \/ sc.names.lookup x = some .cell
 nofree : ∀ y ∈ sc.names, y.2 ≠ .free
theorem mkSc {N P : List Str} {sc : Scope} (a : sc.kind = .function := by rfl) (b : sc.isCoroutine = false := by rfl) (c : sc.isGenerator = false := by rfl) (d : N.Nodup := by decide +kernel) (e : N.take P.length = P := by rfl) (f : ∀ x ∈ P, sc.names.lookup x = some .local \/ sc.names.lookup x = some .cell := by decide +kernel) (g : ∀ y ∈ sc.names, y.2 ≠ .free := by decide +kernel) : FnScope N P sc := ⟨a, b, c, d, e, f, g⟩
theorem bindL_out {kindOf : Str -> Option NameKind} {x : Str} : ∀ {binds : List (Str × Value)} {m : Str -> Option Value}, (∀ v, (x, v) ∉ binds) -> bindL kindOf binds m x = m x
 | [], _, _ => rfl
 | (n, v) :: r, m, h => by
  unfold bindL;rw [bindL_out fun w hw => h w (List.mem_cons_of_mem _ hw)];split
  ·have : x ≠ n := by rintro rfl; exact h v List.mem_cons_self
   simp [this]
  ·rfl
theorem bindC_out {kindOf : Str -> Option NameKind} {x : Str} : ∀ {binds : List (Str × Value)} {m : Str -> Option Value}, (∀ v, (x, v) ∉ binds) -> bindC kindOf binds m x = m x
 | [], _, _ => rfl
 | (n, v) :: r, m, h => by
  unfold bindC;rw [bindC_out fun w hw => h w (List.mem_cons_of_mem _ hw)];split
  ·rfl
  ·have : x ≠ n := by rintro rfl; exact h v List.mem_cons_self
   simp [this]
theorem bindL_get {kindOf : Str -> Option NameKind} {x : Str} {v : Value} : ∀ {P : List Str} {vs : List Value} {i : Nat} {m : Str -> Option Value}, P.Nodup -> P[i]? = some x -> vs[i]? = some v -> kindOf x = some .local ->
  bindL kindOf (P.zip vs) m x = some v
 | [], _, _, _, _, h, _, _ => by simp at h
 | _ :: _, [], _, _, _, _, h, _ => by simp at h
 | p :: P, w :: vs, 0, m, nd, h1, h2, hk => by
  simp at h1 h2; subst h1; subst h2;show bindL kindOf ((p, w) :: P.zip vs) m p = _;unfold bindL;rw [bindL_out fun v hv => (List.nodup_cons.mp nd).1 (List.of_mem_zip hv).1, if_pos hk];simp
 | p :: P, w :: vs, i + 1, m, nd, h1, h2, hk => by
  show bindL kindOf ((p, w) :: P.zip vs) m x = _;unfold bindL;exact bindL_get (i := i) (List.nodup_cons.mp nd).2 (by simpa using h1) (by simpa using h2) hk
theorem bindC_get {kindOf : Str -> Option NameKind} {x : Str} {v : Value} : ∀ {P : List Str} {vs : List Value} {i : Nat} {m : Str -> Option Value}, P.Nodup -> P[i]? = some x -> vs[i]? = some v -> kindOf x ≠ some .local ->
  bindC kindOf (P.zip vs) m x = some v
 | [], _, _, _, _, h, _, _ => by simp at h
 | _ :: _, [], _, _, _, _, h, _ => by simp at h
 | p :: P, w :: vs, 0, m, nd, h1, h2, hk => by
  simp at h1 h2; subst h1; subst h2;show bindC kindOf ((p, w) :: P.zip vs) m p = _;unfold bindC;rw [bindC_out fun v hv => (List.nodup_cons.mp nd).1 (List.of_mem_zip hv).1, if_neg hk];simp
 | p :: P, w :: vs, i + 1, m, nd, h1, h2, hk => by
  show bindC kindOf ((p, w) :: P.zip vs) m x = _;unfold bindC;exact bindC_get (i := i) (List.nodup_cons.mp nd).2 (by simpa using h1) (by simpa using h2) hk
def start (N : List Str) (vs : List V) : St := vs.map some ++ List.replicate (N.length - vs.length) none
def cxOf (CX : CXT) (P : Program) (w : World) (K : PySem.W.Frag) (mg : Str -> Option Value) (base : Heap) (N : List Str) (qual : Str) (scope : Scope) (f : Addr) (cd : Value) (A : Around) (outer : List Env) (s : Shared) (H : Hp) (E : XK) : Cx where
 prog := P
 w := w
 K := K
 mg := mg
 base := base
 A := A.deeper (envOfC qual scope s.heap.objs.size f cd)
 N := N
 s₀ := s
 H₀ := H
 env := envOfC qual scope s.heap.objs.size f cd
 outer := outer
 stack := envOfC qual scope s.heap.objs.size f cd :: outer
 ex := []
 calm := true
 fn := fun _ => true
 pn := []
 xe := fun e s' => wpAny (model P w) (A.deeper (envOfC qual scope s.heap.objs.size f cd)) (leaving (envOfC qual scope s.heap.objs.size f cd) e) (fun _ s'' => CX outer H s E e s'') (fun e' s'' => CX outer H s E e' s'') s'
theorem cell_has {sc : Scope} {n : Nat} {x : Str} (h : sc.names.lookup x = some .cell) : ∃ c, (cellsFrom n sc.names []).lookup x = some c := by
 have q := PySem.W.cellsFrom_some sc.names n [] (.inl h);exact Option.isSome_iff_exists.mp q
theorem inv_start {CX : CXT} {P : Program} {w : World} {K : PySem.W.Frag} {mg : Str -> Option Value} {base : Heap} {N ps : List Str} {qual : Str} {scope : Scope} {f : Addr} {cd : Value} {A : Around} {outer : List Env} {s s1 : Shared} {H : Hp} {E : XK} {us : List Value} {vs : List V}
  (S : FnScope N ps scope) (hd : A.handled = none) (e0 : Env0 P w K mg base A outer s H) (hl : vs.length = ps.length) (r : Vals vs us)
  (x : InCallC s s.heap.objs.size (bindL (envOfC qual scope s.heap.objs.size f cd).kindOf (ps.zip us) fun _ => none) (cellsFrom (s.heap.objs.size + 1) scope.names []) (bindC (envOfC qual scope s.heap.objs.size f cd).kindOf (ps.zip us) fun _ => none) s1) :
  Inv (cxOf CX P w K mg base N qual scope f cd A outer s H E) [] (start N vs) H s1 := by
 have hpl : ps.length <= N.length := by have := congrArg List.length S.pre; rw [List.length_take] at this; omega
 obtain ⟨h1, tk, rfl, hk⟩ := x.done;have noA : ∀ b : Addr, b ∉ (cxOf CX P w K mg base N qual scope f cd A outer s H E).ex := fun b z => absurd (show b ∈ ([] : List Addr) from z) (by simp)
 refine ⟨⟨e0.mod, S.kind, rfl, rfl, Nat.le_refl _, fun y z c h1 h2 => ?_, fun y hy => ?_, fun y c _ h => ?_, fun _ => hd, Around.frames_deeper e0.frames, .inr ⟨rfl, rfl⟩, fun b z => absurd z (noA b), e0.bs, e0.bsz, fun b _ _ => noA b, fun b z => absurd z (noA b), e0.funs, e0.frf⟩,
  rfl, e0.bare, Un.kept hk, ⟨_, x.toInCall.ns, fun i y v h1 h2 h3 => ?_⟩, fun y c h => ⟨_, x.cell y c h⟩, e0.hok.fresh (Nat.le_refl _), fun y c h => ?_, fun p hp => absurd (show p ∈ ([] : List (Addr × Obj)) from hp) (by simp), e0.hok.kept hk, ?_⟩
 ·exact name_of_addr x.apart (PySem.mem_of_lookup h1) (PySem.mem_of_lookup h2)
 ·have hy : scope.names.lookup y = some .cell \/ scope.names.lookup y = some .free := hy;rcases hy with hy | hy
  ·exact cell_has hy
  ·exact absurd rfl (S.nofree _ (PySem.mem_of_lookup hy))
 ·exact Nat.le_of_lt (x.above y c (PySem.mem_of_lookup h))
 ·have hi : i < vs.length := by
   unfold start at h2;by_cases hi : i < vs.length
   ·exact hi
   ·rw [List.getElem?_append_right (by simpa using hi)] at h2
    rw [List.getElem?_replicate] at h2;split at h2 <;> cases h2
  have ha : vs[i]? = some v := by
   unfold start at h2;rw [List.getElem?_append_left (by simpa using hi), List.getElem?_map] at h2
   cases e : vs[i]? with
   | none => rw [e] at h2; cases h2
   | some a => rw [e] at h2; cases h2; rfl
  obtain ⟨u, hu, rv⟩ := r.get ha;have hp : ps[i]? = some y := by
   rw [<- S.pre, List.getElem?_take_of_lt (by omega)]; exact h1
  have ndP : ps.Nodup := by rw [<- S.pre]; exact S.nd.sublist (List.take_sublist _ _)
  refine ⟨u, rv, ?_⟩;rcases S.par y (List.mem_of_getElem? hp) with k | k
  ·exact .inl ⟨k, bindL_get ndP hp hu k⟩
  ·obtain ⟨c, e⟩ := cell_has (n := s.heap.objs.size + 1) k;refine .inr ⟨.inl k, c, e, ?_⟩;have q := x.cell y c e;rw [bindC_get ndP hp hu (by show scope.names.lookup y ≠ _; rw [k]; decide)] at q
   exact q
 ·exact e0.hok.fresh (Nat.le_of_lt (x.above y c (PySem.mem_of_lookup h)))
 ·unfold start;show _ = N.length;rw [List.length_append, List.length_map, List.length_replicate];omega
theorem fn_of {CX : CXT} {P : Program} {w : World} {K : PySem.W.Frag} {mg : Str -> Option Value} {base : Heap} {k : Nat} {f : Addr} {name qual : Str} {params : Arguments} {body : List Stmt} {scope : Scope} {dV kV doc pm cdv ct oc : Value} {an od : Option Addr}
  {osl : Array (Option Value)} {N ps : List Str} {sp : Sp} (lk : K.lookup f = some ⟨oc, od, .func (PySem.W.fnOf name qual params body scope dV kV doc pm an cdv ct), osl⟩) (hcd : PySem.W.codeIn K cdv qual = true) (S : FnScope N ps scope)
  (len : ∀ vs H Q E, sp vs H Q E -> vs.length = ps.length)
  (hbody : ∀ (A : Around) (outer : List Env) (s : Shared) (H : Hp) (vs : List V) (Q : VK) (E : XK), Room k (A.deeper (envOfC qual scope s.heap.objs.size f cdv)) -> sp vs H Q E ->
   ∃ t, PSs (cxOf CX P w K mg base N qual scope f cdv A outer s H E) body t /\ t { nx := fun _ H' => Q .non H', rt := Q } (start N vs) H) :
  FnOk P w K mg base CX (k + 1) f (PySem.W.fnOf name qual params body scope dV kV doc pm an cdv ct) ps sp := by
 refine ⟨len, fun A outer s H args us vs Q E hr e0 hb r hsp => ?_⟩;have hl := len _ _ _ _ hsp;have KX : K.In s.heap := e0.mod.kin.keeps fun b o e => (e0.bs b o e).1;have lim : s.heap.NoLimit := e0.mod.nolimit.keeps fun b o e => (e0.bs b o e).1;have hkind : ∀ y ∈ ps.zip us, scope.names.lookup y.1 = some .local \/ (scope.names.lookup y.1 = some .cell /\ ((cellsFrom (s.heap.objs.size + 1) scope.names []).lookup y.1).isSome = true) := fun ⟨n, v⟩ hy => by
  rcases S.par n (List.of_mem_zip hy).1 with q | q
  ·exact .inl q
  ·exact .inr ⟨q, PySem.W.cellsFrom_some _ _ _ (.inl q)⟩
 refine codeAny_call_function hr.depth (KX _ _ lk) rfl S.co S.gen rfl (PySem.W.codeRec_of KX hcd) (hb _ _ _ _ ?_);refine wpAny_newFunctionEnv_cells S.kind hkind fun env he s1 x => ?_;subst he;refine ⟨lim.keeps x.toInCall.keep, codeAny_func ?_⟩;obtain ⟨t, ht, hq⟩ := hbody A outer s H vs Q E (hr.deeper _) hsp;have I : Inv (cxOf CX P w K mg base N qual scope f cdv A outer s H E) [] (start N vs) H s1 := inv_start S hr.hd e0 hl r x;refine wpAny_mono (ht [] s1 (start N vs) H _ I hq) (fun fl s' hs => ?_) fun e s' hs => hs;have fin : ∀ {σ' : St} {H' : Hp} {v : V} {u : Value}, Inv (cxOf CX P w K mg base N qual scope f cdv A outer s H E) [] σ' H' s' -> RelV v u -> Q v H' -> CE outer P w H s Q u s' :=
  fun {σ' H' v u} J rv q => ⟨v, H', J.os, J.bare, J.base, J.hok, rv, q⟩
 cases fl with
 | ret u =>
  obtain ⟨v, σ', H', J, rv, q⟩ := hs;exact fin J rv q
 | next =>
  obtain ⟨σ', H', J, q⟩ := hs;exact fin (v := V.non) (u := Value.none) J rfl q
 | brk =>
  obtain ⟨_, _, _, q⟩ := hs;exact False.elim q
 | cont =>
  obtain ⟨_, _, _, q⟩ := hs;exact False.elim q
section
variable {X : Cx} {x : Str} {p pos : Pos} {e : Expr} {es : List Expr} {t : TA} {id T : String} {r : List V -> Hp -> VK -> Prop}
def tCB (r : List V -> Hp -> VK -> Prop) (t : TA) : TE := fun σ H Q => t σ H fun vs H1 => r vs H1 Q
theorem pe_callB (hc : CallR X (.builtin id) r) (hg : Gl X x) (hm : X.mg x = none) (hv : bootBuiltins x = some (.builtin id)) (ha : PA X (e :: es) t) (hn : x ≠ "__name__" := by decide) (hdb : (x == ("__debug__" : Str)) = false := by decide)
  (he : starEach (e :: es) X.env = (false, eval e X.env) :: starEach es X.env := by rfl) (hpl : (backTo pos (starEach es X.env)).any (·.1) = false := by rfl) : PE X (.Call (.Name x p) (e :: es) [] pos) (tCB r t) := by
 intro pins s σ H Q I h;refine wpAny_Call_Name_kw (ld_blt I hg hm hv ?_ hn hdb);exact PyProof.Rows.callWith_builtin1 (thn (ha pos pins s σ H _ I h) fun us s1 ⟨vs, H1, I1, r1, q1⟩ => hc pins s1 σ H1 vs us Q I1 r1 q1) he hpl
theorem pe_callTy (hc : CallR X (.type T) r) (hg : Gl X x) (hm : X.mg x = none) (hv : bootBuiltins x = some (.type T)) (ha : PA X (e :: es) t) (hn : x ≠ "__name__" := by decide) (hdb : (x == ("__debug__" : Str)) = false := by decide)
  (he : starEach (e :: es) X.env = (false, eval e X.env) :: starEach es X.env := by rfl) (hpl : (backTo pos (starEach es X.env)).any (·.1) = false := by rfl) : PE X (.Call (.Name x p) (e :: es) [] pos) (tCB r t) := by
 intro pins s σ H Q I h;refine wpAny_Call_Name_kw (ld_blt I hg hm hv ?_ hn hdb);exact PyProof.Rows.callWith_type1 (thn (ha pos pins s σ H _ I h) fun us s1 ⟨vs, H1, I1, r1, q1⟩ => hc pins s1 σ H1 vs us Q I1 r1 q1) he hpl
end
end L2
namespace HT
open PySem PyProof.Rows
section
variable {prog : Program} {w : World} {A : Around} {E : Value -> Shared -> Prop} {s : Shared}
def sIx (n d : Nat) : Option Int -> Nat
 | none => d
 | some v => if v < 0 then (v + (n : Int)).toNat else min v.toNat n
theorem sIx_none (n d : Nat) : sIx n d none = d := rfl
theorem sIx_nat (n d k : Nat) : sIx n d (some (k : Int)) = min k n := by
 show (if (k : Int) < 0 then ((k : Int) + (n : Int)).toNat else min (k : Int).toNat n) = min k n
 rw [if_neg (by omega), Int.toNat_natCast]
theorem sIx_le (n d : Nat) (hd : d <= n) (o : Option Int) : sIx n d o <= n := by
 cases o with
 | none => exact hd
 | some v =>
  show (if v < 0 then (v + (n : Int)).toNat else min v.toNat n) <= n
  by_cases hv : v < 0
  ·rw [if_pos hv]; omega
  ·rw [if_neg hv]; exact Nat.min_le_right _ _
theorem clip_eq (v : Int) (n d : Nat) : (if v < 0 then max (v + (n : Int)) 0 else min v (n : Int)) = ((sIx n d (some v) : Nat) : Int) := by
 show (if v < 0 then max (v + (n : Int)) 0 else min v (n : Int)) = (((if v < 0 then (v + (n : Int)).toNat else min v.toNat n) : Nat) : Int)
 by_cases hv : v < 0
 ·simp only [if_pos hv]; omega
 ·simp only [if_neg hv]; omega
theorem adjust_gen (lo hi : Option Int) (n : Nat) : Builtin.Slice.sliceAdjust lo hi 1 (n : Int) = (((sIx n 0 lo : Nat) : Int), ((sIx n n hi : Nat) : Int)) := by
 have h1 : ¬ ((1 : Int) < 0) := by omega
 unfold Builtin.Slice.sliceAdjust;simp only [h1, if_false];refine Prod.ext ?_ ?_
 ·cases lo with
  | none => rfl
  | some v => exact clip_eq v n 0
 ·cases hi with
  | none => rfl
  | some v => exact clip_eq v n n
theorem places_gen (i j : Nat) : Builtin.Slice.slicePlaces (i : Int) (j : Int) 1 = j - i := by
 unfold Builtin.Slice.slicePlaces;have h1 : (1 : Int) > 0 := by omega
 simp only [h1, if_true, Int.ediv_one];split <;> omega
theorem slicePart_ {v : Value} {o : Option Int} {Q : Option Int -> Shared -> Prop} (p : IsPart v o) (h : Q o s) : wpAny (model prog w) A (Builtin.Slice.slicePartIndex v) Q E s := by
 cases p with
 | none => exact slicePart_none h
 | int i t => exact slicePart_int h
theorem sliceApplied_gen {sl : Addr} {vl vu : Value} {lo hi : Option Int} {n : Nat} {Q : Int × Int × Nat -> Shared -> Prop} (hs : s.heap.IsSliceOf sl vl vu .none) (pl : IsPart vl lo) (pu : IsPart vu hi)
  (h : Q (((sIx n 0 lo : Nat) : Int), 1, sIx n n hi - sIx n 0 lo) s) : wpAny (model prog w) A (Builtin.Slice.sliceApplied (.ref sl) (pure (n : Int))) Q E s := by
 obtain ⟨os, hos, hcs, hds⟩ := id hs;unfold Builtin.Slice.sliceApplied Builtin.Slice.sliceFields;refine wpAny_bind (wpAny_bind (wpAny_field hos hds (x := vl) rfl (wpAny_bind (wpAny_field hos hds (x := vu) rfl (wpAny_bind (wpAny_field hos hds (x := .none) rfl (wpAny_pure ?_)))))));refine wpAny_bind (slicePart_none ?_);show wpAny _ _ (if ((1 : Int) == 0) = true then _ else _) _ _ s
 rw [if_neg (by decide)]
 refine wpAny_bind (slicePart_ pl (wpAny_bind (slicePart_ pu (wpAny_bind (wpAny_pure ?_)))));show wpAny _ _ (match Builtin.Slice.sliceAdjust lo hi 1 (n : Int) with | (lo, hi) => pure (lo, (1 : Int), Builtin.Slice.slicePlaces lo hi 1)) _ _ s
 rw [adjust_gen lo hi n];show wpAny _ _ (pure (((sIx n 0 lo : Nat) : Int), (1 : Int), Builtin.Slice.slicePlaces ((sIx n 0 lo : Nat) : Int) ((sIx n n hi : Nat) : Int) 1)) _ _ s;rw [places_gen];exact wpAny_pure h
theorem pick_gen (xs : Array Value) (i k : Nat) : ((List.range k).filterMap fun (m : Nat) => xs[((i : Int) + (m : Int) * 1).toNat]?).toArray = ((xs.toList.drop i).take k).toArray := by
 have e : (fun (m : Nat) => xs[((i : Int) + (m : Int) * 1).toNat]?) = fun m => xs[i + m]? := by
  funext m
  have : ((i : Int) + (m : Int) * 1).toNat = i + m := by omega
  rw [this]
 rw [e];have := pick_run xs i k;rw [List.filterMap_map] at this;have e2 : ((fun x => xs[x]?) ∘ fun x => i + x) = fun m => xs[i + m]? := rfl;rw [e2] at this;rw [this]
theorem getItem_tuple_cut {t sl : Addr} {items : Array Value} {vl vu : Value} {lo hi : Option Int} {Q : Value -> Shared -> Prop} (ht : IsTup s.heap t items) (hs : s.heap.IsSliceOf sl vl vu .none) (pl : IsPart vl lo) (pu : IsPart vu hi)
  (hw : ¬ (sIx items.size 0 lo = 0 /\ sIx items.size items.size hi = items.size))
  (h : Q (.ref s.heap.objs.size) { s with heap := s.heap.push { cls := .type "tuple", data := .seq ((items.toList.drop (sIx items.size 0 lo)).take (sIx items.size items.size hi - sIx items.size 0 lo)).toArray } })
  (hsz : items.size <= sizeLine) : wpAny (model prog w) A (getItem (.ref t) (.ref sl)) Q E s := by
 have htake : sizeOk (.seq ((items.toList.drop (sIx items.size 0 lo)).take (sIx items.size items.size hi - sIx items.size 0 lo)).toArray) := by
  show ((items.toList.drop (sIx items.size 0 lo)).take (sIx items.size items.size hi - sIx items.size 0 lo)).toArray.size <= sizeLine;rw [List.size_toArray, List.length_take, List.length_drop, Array.length_toList];omega
 have hj : sIx items.size items.size hi <= items.size := sIx_le _ _ (Nat.le_refl _) hi;obtain ⟨os, hos, hcs, hds⟩ := id hs;have hTs : s.TypeIs (.ref sl) "slice" := ⟨os, hos, hcs⟩;unfold getItem
 try with_reducible refine wpAny_holding ?_
 first | refine wpAny_bind (wpAny_pure ?_) | skip
 refine wpAny_bind (wpAny_sequenceKey ht.typeIs (by decide) ?_)
 refine wpAny_bind (wpAny_callSpecial?_slot (name := Str.ofString "__getitem__") ht.typeIs PyProof.Rows.slot_tuple_getitem
  (wpAny_call_entry PyProof.Rows.slot_tuple_getitem ht.typeIs entry_tuple_getitem ?_ (args_tuple_getitem _ _)))
 show wpAny _ _ (Builtin.Tuple.tupleItemsOf (.ref t) >>= _) _ _ s;refine wpAny_bind (tupleItemsOf_ ht ?_);refine wpAny_bind (wpAny_typeOf hTs ?_);rw [if_pos (by decide)]
 refine wpAny_bind (sliceApplied_gen hs pl pu ?_);have hno : ¬ ((((sIx items.size 0 lo : Nat) : Int) == 0 && (1 : Int) == 1 && (sIx items.size items.size hi - sIx items.size 0 lo) == items.size) = true) := by
  intro q;rw [Bool.and_eq_true, Bool.and_eq_true] at q;have q1 : ((sIx items.size 0 lo : Nat) : Int) = 0 := eq_of_beq q.1.1;have q2 : sIx items.size items.size hi - sIx items.size 0 lo = items.size := eq_of_beq q.2;exact hw ⟨by omega, by omega⟩
 show wpAny _ _ (if (((sIx items.size 0 lo : Nat) : Int) == 0 && (1 : Int) == 1 && (sIx items.size items.size hi - sIx items.size 0 lo) == items.size) = true then _ else _) _ _ s
 rw [if_neg hno, pick_gen]
 first
  | exact wpAny_bind (m := Builtin.Tuple.tupleExact _) (wpAny_newObj_type (wpAny_pure ⟨_, rfl, wpAny_pure h⟩) htake)
  | exact wpAny_bind (m := Builtin.Tuple.tupleExact _) (wpAny_newObj_type (wpAny_bind (wpAny_pure (wpAny_pure ⟨_, rfl, wpAny_pure h⟩))) htake)
  | exact wpAny_bind (wpAny_bind (m := Builtin.Tuple.tupleExact _) (wpAny_newObj_type (wpAny_pure (wpAny_pure ⟨_, rfl, wpAny_pure h⟩)) htake))
  | exact wpAny_bind (wpAny_bind (m := Builtin.Tuple.tupleExact _) (wpAny_newObj_type (wpAny_pure ⟨_, rfl, wpAny_pure h⟩) htake))
end
end HT
namespace L2
open PySem PySem.Spec PyProof.Rows
abbrev TO := St -> Hp -> (Option Int -> Hp -> Prop) -> Prop
def PO (X : Cx) (e : Option Expr) (t : TO) : Prop :=
 ∀ (pins : List (Addr × Obj)) (s : Shared) (σ : St) (H : Hp) (Q : Option Int -> Hp -> Prop), Inv X pins σ H s -> t σ H Q ->
  wpAny (model X.prog X.w) X.A (evalPart e X.env) (fun u s' => ∃ o H', Inv X pins σ H' s' /\ IsPart u o /\ Q o H') X.xe s
def tNoPart : TO := fun _ H Q => Q none H
def tPart (t : TE) : TO := fun σ H Q => t σ H fun x H1 => ∃ i, x = .int i /\ Q (some i) H1
section
variable {X : Cx} {e : Expr} {te : TE} {lo hi : Option Expr} {tl th : TO} {pos p2 : Pos}
theorem po_none : PO X none tNoPart := by
 intro pins s σ H Q I h;rw [evalPart_none];exact wpAny_pure ⟨none, H, I, .none, h⟩
theorem po_some (h : PE X e te) : PO X (some e) (tPart te) := by
 intro pins s σ H Q I hw;rw [evalPart_some];refine thn (h pins s σ H _ I hw) fun u s1 ⟨x, H1, I1, r1, q1⟩ => ?_;obtain ⟨i, rfl, q⟩ := q1;obtain ⟨t, rfl⟩ := r1;exact ⟨some i, H1, I1, .int i t, q⟩
def SlR (X : Cx) (r : V -> Option Int -> Option Int -> Hp -> VK -> Prop) : Prop :=
 ∀ (pins : List (Addr × Obj)) (s : Shared) (σ : St) (H : Hp) (x : V) (v vl vu : Value) (lo hi : Option Int) (sl : Addr) (Q : VK), Inv X pins σ H s -> RelV x v -> s.heap.IsSliceOf sl vl vu .none -> IsPart vl lo -> IsPart vu hi -> r x lo hi H Q ->
  ∃ T id, typeLookup (.type T) "__getitem__" = pure (some (.builtin id)) /\ s.TypeIs v T /\ wpAny (model X.prog X.w) X.A (getItem v (.ref sl)) (EP X pins σ Q) X.xe s
def tSl (r : V -> Option Int -> Option Int -> Hp -> VK -> Prop) (te : TE) (tl th : TO) : TE := fun σ H Q => te σ H fun x H1 => tl σ H1 fun l H2 => th σ H2 fun u H3 => r x l u H3 Q
theorem pe_slice {r : V -> Option Int -> Option Int -> Hp -> VK -> Prop} (hr : SlR X r) (he : PE X e te) (hl : PO X lo tl) (hu : PO X hi th) : PE X (.Subscript e (.Slice lo hi none p2) pos) (tSl r te tl th) := by
 intro pins s σ H Q I h;refine Subscript_ (thn (he pins s σ H _ I h) fun v s1 ⟨x, H1, I1, r1, q1⟩ => ?_);refine wpAny_Slice (thn (hl pins s1 σ H1 _ I1 q1) fun vl s2 ⟨l, H2, I2, pl, q2⟩ => thn (hu pins s2 σ H2 _ I2 q2) fun vu s3 ⟨u, H3, I3, pu, q3⟩ => ?_);rw [evalPart_none];refine wpAny_pure ?_;have I4 : Inv X pins σ H3 { s3 with heap := s3.heap.push { cls := .type "slice", data := .fields #[vl, vu, .none] } } := I3.kept (t' := s3.toks) fun b ob q => Heap.get?_push_of_some _ q
 obtain ⟨T, id, hT, ht, hg⟩ := hr pins { s3 with heap := s3.heap.push { cls := .type "slice", data := .fields #[vl, vu, .none] } } σ H3 x v vl vu l u s3.heap.objs.size Q I4 r1 (Heap.IsSliceOf.new ..) pl pu q3;show wpAny (model X.prog X.w) X.A (subscriptTail e (.Slice lo hi none p2) v (.ref s3.heap.objs.size)) (EP X pins σ Q) X.xe { s3 with heap := s3.heap.push { cls := .type "slice", data := .fields #[vl, vu, .none] } }
 exact tail_any (ops := [.ref s3.heap.objs.size, v]) ht hT hg (by with_unfolding_all rfl)
def cutV (xs : List V) (lo hi : Option Int) : List V := (xs.drop (HT.sIx xs.length 0 lo)).take (HT.sIx xs.length xs.length hi - HT.sIx xs.length 0 lo)
theorem cutV_length (xs : List V) (lo hi : Option Int) : (cutV xs lo hi).length <= xs.length := by
 unfold cutV;rw [List.length_take, List.length_drop];omega
def rSlT (K : PySem.W.Frag) : V -> Option Int -> Option Int -> Hp -> VK -> Prop := fun x lo hi H Q => ∃ a xs, x = .ref a /\ SqT K H a xs /\
 ¬ (HT.sIx xs.length 0 lo = 0 /\ HT.sIx xs.length xs.length hi = xs.length) /\ ∀ p, H p = none -> Q (.ref p) (upd H p (.tup (cutV xs lo hi)))
theorem sl_tup : SlR X (rSlT X.K) := by
 intro pins s σ H x v vl vu lo hi sl Q I rx hs pl pu h;obtain ⟨a, xs, rfl, hx, hw, q⟩ := h;cases rx;obtain ⟨its, r, ht, hz⟩ := I.tuple hx;have hlen : its.toArray.size = xs.length := by rw [List.size_toArray]; exact r.length.symm
 refine ⟨"tuple", _, PyProof.Rows.slot_tuple_getitem.lookup, ht.typeIs, ?_⟩;refine HT.getItem_tuple_cut ht hs pl pu (by rw [hlen]; exact hw) ?_ (by rw [hlen]; exact hz)
 rw [hlen];refine ⟨.ref s.heap.objs.size, _, I.laid (t' := s.toks) (o := .tup (cutV xs lo hi)) (fun b ob q => Heap.get?_push_of_some _ q) (Nat.le_refl _) ?_, rfl, q _ (I.hok.fresh (Nat.le_refl _))⟩;exact ⟨Nat.le_trans (cutV_length xs lo hi) hz, _, (r.drop (HT.sIx xs.length 0 lo)).take (HT.sIx xs.length xs.length hi - HT.sIx xs.length 0 lo), IsTup.new _ _⟩
end
def ixN (n : Nat) (i : Int) : Option Nat := if 0 <= i then (if i < n then some i.toNat else none) else if -(n : Int) <= i then some (i + n).toNat else none
def atI {α : Type} (xs : List α) (i : Int) : Option α := (ixN xs.length i).bind fun j => xs[j]?
theorem ixN_seq {n : Nat} {i : Int} {j : Nat} (h : ixN n i = some j) : seqIndex? i n = some j /\ j < n /\ -(n : Int) <= i /\ i < n := by
 unfold ixN at h;by_cases h0 : 0 <= i
 ·rw [if_pos h0] at h;by_cases h1 : i < n
  ·rw [if_pos h1] at h;have e : i.toNat = j := Option.some.inj h;exact ⟨by rw [seqIndex_of h0 h1, e], by omega, by omega, h1⟩
  ·rw [if_neg h1] at h; cases h
 ·rw [if_neg h0] at h;by_cases h1 : -(n : Int) <= i
  ·rw [if_pos h1] at h;have e : (i + n).toNat = j := Option.some.inj h;exact ⟨by rw [seqIndex_neg (by omega) h1, e], by omega, h1, by omega⟩
  ·rw [if_neg h1] at h; cases h
theorem atI_get {α : Type} {xs : List α} {i : Int} {v : α} (h : atI xs i = some v) : ∃ j, seqIndex? i xs.length = some j /\ xs[j]? = some v /\ j < xs.length /\ -(xs.length : Int) <= i /\ i < xs.length := by
 unfold atI at h;cases e : ixN xs.length i with
 | none => rw [e] at h; cases h
 | some j =>
  rw [e] at h;obtain ⟨h1, h2, h3, h4⟩ := ixN_seq e;exact ⟨j, h1, h, h2, h3, h4⟩
theorem atN {α : Type} {xs : List α} {j : Nat} {v : α} (h : xs[j]? = some v) : atI xs (j : Int) = some v := by
 have hj : j < xs.length := (List.getElem?_eq_some_iff.mp h).1;have e : ixN xs.length (j : Int) = some j := by
  unfold ixN;rw [if_pos (by omega), if_pos (by omega)]; simp
 unfold atI; rw [e]; exact h
theorem atI_last {α : Type} (xs : List α) (v : α) : atI (xs ++ [v]) (-1) = some v := by
 have hl : (xs ++ [v]).length = xs.length + 1 := by simp
 have e : ixN (xs ++ [v]).length (-1) = some xs.length := by
  unfold ixN;rw [hl, if_neg (by decide), if_pos (by omega)]
  congr 1
  omega
 unfold atI;rw [e];show (xs ++ [v])[xs.length]? = some v;simp
def PlainIx (b : Expr) : Prop := ∀ o i, subscripted b false o i = operate [o, i] (getItem o i)
def IxR (X : Cx) (r : R2) : Prop :=
 ∀ (value slice : Expr) (pins : List (Addr × Obj)) (s : Shared) (σ : St) (H : Hp) (x y : V) (v u : Value) (Q : VK), Inv X pins σ H s -> RelV x v -> RelV y u -> r x y H Q ->
  subscripted slice false v u = operate [v, u] (getItem v u) -> wpAny (model X.prog X.w) X.A (subscriptTail value slice v u) (EP X pins σ Q) X.xe s
def MtR (X : Cx) (id : String) (r : V -> List V -> Hp -> VK -> Prop) : Prop :=
 ∀ (pins : List (Addr × Obj)) (s : Shared) (σ : St) (H : Hp) (x : V) (xs : List V) (v : Value) (us : List Value) (Q : VK), Inv X pins σ H s -> RelV x v -> Vals xs us -> r x xs H Q ->
  wpAny (model X.prog X.w) X.A (call (.builtin id) (v :: us)) (EP X pins σ Q) X.xe s
section
variable {X : Cx} {a b : Expr} {ta tb : TE} {pos : Pos}
theorem pe_ix {r : R2} (hr : IxR X r) (ha : PE X a ta) (hb : PE X b tb) (hs : PlainIx b) : PE X (.Subscript a b pos) (tOp r ta tb) := by
 intro pins s σ H Q I h;exact Subscript_ (binT ha hb I h fun v u s2 x y H2 I2 rx ry q => hr a b pins s2 σ H2 x y v u Q I2 rx ry q (hs _ _))
theorem pxr {r : R2} (hr : IxR X r) (ha : PE X a ta) (hb : PE X b tb) (hs : PlainIx b := by exact fun _ _ => rfl) : PE X (.Subscript a b pos) (tOp r ta tb) := pe_ix hr ha hb hs
def rIxL (K : PySem.W.Frag) : R2 := fun x y H Q => ∃ p xs i v, x = .ref p /\ y = .int i /\ SqL K H p xs /\ atI xs i = some v /\ Q v H
def rIxT (K : PySem.W.Frag) : R2 := fun x y H Q => ∃ p xs i v, x = .ref p /\ y = .int i /\ SqT K H p xs /\ atI xs i = some v /\ Q v H
theorem ixl : IxR X (rIxL X.K) := by
 intro value slice pins s σ H x y v u Q I rx ry h hs;obtain ⟨p, xs, i, z, rfl, rfl, hq, he, q⟩ := h;cases rx;obtain ⟨t, rfl⟩ := ry;obtain ⟨its, r, pl, hz⟩ := I.list hq;obtain ⟨j, h1, h2, h3, h4, h5⟩ := atI_get he;obtain ⟨w, ew, rw'⟩ := r.get h2;have hl := r.length;have hn := line63;have fin : EP X pins σ Q w s := ⟨z, H, I, rw', q⟩;by_cases h0 : 0 <= i
 ·have hj : i.toNat = j := by
   rw [seqIndex_of h0 h5] at h1;exact Option.some.inj h1
  exact item_listR pl.isList h0 (by omega) (by rw [hj]; simpa using ew) fin hs
 ·have hj : (i + (its.toArray.size : Int)).toNat = j := by
   rw [seqIndex_neg (by omega) h4] at h1
   rw [List.size_toArray, <- hl];exact Option.some.inj h1
  exact subscriptTail_builtinR (x := w) pl.isList.typeIs slot_list_getitem.lookup
   (wpAny_getItem_list_neg (Q := fun r s' => r = w /\ EP X pins σ Q r s') pl.isList (by omega) (by rw [List.size_toArray] <;> omega) (by omega) (by rw [hj]; simpa using ew) ⟨rfl, fin⟩) hs
theorem ixt : IxR X (rIxT X.K) := by
 intro value slice pins s σ H x y v u Q I rx ry h hs;obtain ⟨p, xs, i, z, rfl, rfl, hq, he, q⟩ := h;cases rx;obtain ⟨t, rfl⟩ := ry;obtain ⟨its, r, pl, hz⟩ := I.tuple hq;obtain ⟨j, h1, h2, h3, h4, h5⟩ := atI_get he;obtain ⟨w, ew, rw'⟩ := r.get h2;have hl := r.length;have hn := line63;have fin : EP X pins σ Q w s := ⟨z, H, I, rw', q⟩;exact subscriptTail_builtinR (x := w) pl.typeIs slot_tuple_getitem.lookup
  (getItem_tuple (j := j) (Q := fun r s' => r = w /\ EP X pins σ Q r s') pl (by omega) (by omega) (by rw [List.size_toArray, <- hl]; exact h1) (by simpa using ew) ⟨rfl, fin⟩) hs
theorem slice_bounds (lo hi : Option Int) (n : Nat) : (sliceBounds lo hi none n).1 = ((HT.sIx n 0 lo : Nat) : Int) /\ (sliceBounds lo hi none n).2.1 = ((HT.sIx n n hi : Nat) : Int) /\ (sliceBounds lo hi none n).2.2 = 1 := by
 refine ⟨?_, ?_, rfl⟩
 ·cases lo with
  | none => simp [sliceBounds, HT.sIx]
  | some i =>
   simp only [sliceBounds, HT.sIx, Option.getD_none, show (1 : Int) > 0 by decide, if_true]
   by_cases h : i < 0
   ·simp only [h, if_true] <;> omega
   ·simp only [h, if_false] <;> omega
 ·cases hi with
  | none => simp [sliceBounds, HT.sIx]
  | some i =>
   simp only [sliceBounds, HT.sIx, Option.getD_none, show (1 : Int) > 0 by decide, if_true]
   by_cases h : i < 0
   ·simp only [h, if_true] <;> omega
   ·simp only [h, if_false] <;> omega
theorem slicePick_cut (its : List Value) (lo hi : Option Int) : slicePick its.toArray lo hi none = ((its.drop (HT.sIx its.length 0 lo)).take (HT.sIx its.length its.length hi - HT.sIx its.length 0 lo)).toArray := by
 obtain ⟨h1, h2, h3⟩ := slice_bounds lo hi its.toArray.size;unfold slicePick;rw [h1, h2, h3];simp only [sliceRange_one, pick_run, List.size_toArray] <;> rfl
def rSlL (K : PySem.W.Frag) : V -> Option Int -> Option Int -> Hp -> VK -> Prop := fun x lo hi H Q => ∃ a xs, x = .ref a /\ SqL K H a xs /\ ∀ p, H p = none -> Q (.ref p) (upd H p (.lst (cutV xs lo hi)))
theorem sl_list : SlR X (rSlL X.K) := by
 intro pins s σ H x v vl vu lo hi sl Q I rx hs pl pu h;obtain ⟨a, xs, rfl, hx, q⟩ := h;cases rx;obtain ⟨its, r, ht, hz⟩ := I.list hx;have hlen := r.length;refine ⟨"list", _, slot_list_getitem.lookup, ht.isList.typeIs, ?_⟩;refine wpAny_getItem_list_slice ht.isList hs pl pu .none (by simp) ?_ (by rw [List.size_toArray] <;> omega)
 rw [slicePick_cut, <- hlen];refine ⟨.ref s.heap.objs.size, _, I.laid (t' := s.toks) (o := .lst (cutV xs lo hi)) (fun b ob q => Heap.get?_push_of_some _ q) (Nat.le_refl _) ?_, rfl, q _ (I.hok.fresh (Nat.le_refl _))⟩;exact ⟨Nat.le_trans (cutV_length xs lo hi) hz, _, 0, (r.drop (HT.sIx xs.length 0 lo)).take (HT.sIx xs.length xs.length hi - HT.sIx xs.length 0 lo), Heap.get?_push_size _ rfl⟩
def flatV : V -> Bool
 | .non => true
 | .bl _ => true
 | .int _ => true
 | .str _ => true
 | _ => false
def eqV : V -> V -> Bool
 | .non, .non => true
 | .bl a, .bl b => a == b
 | .bl a, .int b => (if a then 1 else 0) == b
 | .int a, .bl b => a == (if b then 1 else 0)
 | .int a, .int b => a == b
 | .str a, .str b => a == b
 | _, _ => false
theorem eqAt_V {A : Around} {s : Shared} {y x : V} {u v : Value} (ry : RelV y u) (rx : RelV x v) (fy : flatV y = true) (fx : flatV x = true) : SeqAt.EqAt A s u v (eqV y x) := by
 cases y with
 | non =>
  cases ry;cases x with
  | non => cases rx; exact SeqAt.EqAt.same _
  | bl b => cases rx; exact SeqAt.EqAt.none_bool b
  | int b => obtain ⟨t, rfl⟩ := rx; exact SeqAt.EqAt.none_int b t
  | str b => obtain ⟨t, rfl⟩ := rx; exact SeqAt.EqAt.none_str b t
  | _ => exact absurd (show false = true from fx) Bool.false_ne_true
 | bl a =>
  cases ry;cases x with
  | non => cases rx; exact SeqAt.EqAt.bool_none a
  | bl b => cases rx; exact SeqAt.EqAt.bool_bool a b
  | int b => obtain ⟨t, rfl⟩ := rx; exact SeqAt.EqAt.bool_int a b t
  | str b => obtain ⟨t, rfl⟩ := rx; exact SeqAt.EqAt.bool_str a b t
  | _ => exact absurd (show false = true from fx) Bool.false_ne_true
 | int a =>
  obtain ⟨t', rfl⟩ := ry;cases x with
  | non => cases rx; exact SeqAt.EqAt.int_none a t'
  | bl b => cases rx; exact SeqAt.EqAt.int_bool a t' b
  | int b => obtain ⟨t, rfl⟩ := rx; exact SeqAt.EqAt.int_int a t' b t
  | str b => obtain ⟨t, rfl⟩ := rx; exact SeqAt.EqAt.int_str a t' b t
  | _ => exact absurd (show false = true from fx) Bool.false_ne_true
 | str a =>
  obtain ⟨t', rfl⟩ := ry;cases x with
  | non => cases rx; exact SeqAt.EqAt.str_none a t'
  | bl b => cases rx; exact SeqAt.EqAt.str_bool a t' b
  | int b => obtain ⟨t, rfl⟩ := rx; exact SeqAt.EqAt.str_int a t' b t
  | str b => obtain ⟨t, rfl⟩ := rx; exact SeqAt.EqAt.str_str a t' b t
  | _ => exact absurd (show false = true from fx) Bool.false_ne_true
 | _ => exact absurd (show false = true from fy) Bool.false_ne_true
def eqU (x : V) (u : Value) : Bool := match u with
 | .none => eqV .non x
 | .bool b => eqV (.bl b) x
 | .int i _ => eqV (.int i) x
 | .str z _ => eqV (.str z) x
 | _ => false
theorem eqU_of {x y : V} {u : Value} (r : RelV y u) (f : flatV y = true) : eqU x u = eqV y x := by
 cases y with
 | non => cases r; rfl
 | bl b => cases r; rfl
 | int i => obtain ⟨t, rfl⟩ := r; rfl
 | str z => obtain ⟨t, rfl⟩ := r; rfl
 | _ => exact absurd (show false = true from f) Bool.false_ne_true
theorem any_eqU {x : V} : ∀ {xs : List V} {us : List Value}, Vals xs us -> xs.all flatV = true -> us.any (eqU x) = xs.any fun y => eqV y x
 | _, _, .nil, _ => rfl
 | y :: xs, u :: us, .cons r t, f => by
  rw [List.all_cons, Bool.and_eq_true] at f;rw [List.any_cons, List.any_cons, eqU_of r f.1, any_eqU t f.2]
theorem mem_eqAt {A : Around} {s : Shared} {x : V} {v : Value} (rx : RelV x v) (fx : flatV x = true) : ∀ {xs : List V} {us : List Value}, Vals xs us -> xs.all flatV = true -> ∀ u ∈ us, SeqAt.EqAt A s u v (eqU x u)
 | _, _, .nil, _ => fun u hu => by cases hu
 | y :: xs, u :: us, .cons r t, f => fun u' hu => by
  rw [List.all_cons, Bool.and_eq_true] at f;rcases List.mem_cons.mp hu with rfl | hu
  ·rw [eqU_of r f.1]; exact eqAt_V r rx f.1 fx
  ·exact mem_eqAt rx fx t f.2 u' hu
def inV (x : V) (xs : List V) : Bool := xs.any fun y => eqV y x
def rIn (K : PySem.W.Frag) (neg : Bool) : R2 := fun x y H Q => ∃ p xs, y = .ref p /\ (SqL K H p xs \/ SqT K H p xs) /\ flatV x = true /\ xs.all flatV = true /\ Q (.bl (if neg then !inV x xs else inV x xs)) H
theorem op_in_seq : OpR X (compareOp .In) (rIn X.K false) := by
 intro pins s σ H x y v u Q I rx ry h;obtain ⟨p, xs, rfl, hq, fx, fs, q⟩ := h;cases ry;rcases hq with hq | hq
 ·obtain ⟨its, r, pl, hz⟩ := I.list hq;refine SeqAt.in_listAt (eqU x) pl.isList (fun w hw => mem_eqAt rx fx r fs w (by simpa using hw)) ⟨.bl _, H, I, rfl, ?_⟩
  rw [show its.toArray.any (eqU x) = its.any (eqU x) by simp, any_eqU r fs]
  exact q
 ·obtain ⟨its, r, pl, hz⟩ := I.tuple hq;refine SeqAt.in_tupleAt (eqU x) pl (fun w hw => mem_eqAt rx fx r fs w (by simpa using hw)) ⟨.bl _, H, I, rfl, ?_⟩
  rw [show its.toArray.any (eqU x) = its.any (eqU x) by simp, any_eqU r fs]
  exact q
theorem call_len_seq : CallR X (.builtin "len") (fun xs H Q => ∃ p ys, xs = [.ref p] /\ (SqL X.K H p ys \/ SqT X.K H p ys) /\ Q (.int ys.length) H) := by
 intro pins s σ H xs us Q I r h;obtain ⟨p, ys, rfl, hq, q⟩ := h;obtain ⟨u, rfl, rx⟩ := vals1 r;cases rx;have hn := line63;rcases hq with hq | hq
 ·obtain ⟨its, r', pl, hz⟩ := I.list hq;have hlen := r'.length;exact Calls.call_len_list pl.isList (by simp only [List.size_toArray] <;> omega) ⟨.int ys.length, H, I.tok _, ⟨s.toks + 1, by rw [List.size_toArray, hlen]⟩, q⟩
 ·obtain ⟨its, r', pl, hz⟩ := I.tuple hq;have hlen := r'.length;exact len_tuple pl (by simp only [List.size_toArray] <;> omega) ⟨.int ys.length, H, I.tok _, ⟨s.toks + 1, by rw [List.size_toArray, hlen]⟩, q⟩
theorem call_list_of : CallR X (.type "list") (fun xs H Q => ∃ p ys, xs = [.ref p] /\ (SqL X.K H p ys \/ SqT X.K H p ys) /\ ∀ l, H l = none -> Q (.ref l) (upd H l (.lst ys))) := by
 intro pins s σ H xs us Q I r h;obtain ⟨p, ys, rfl, hq, q⟩ := h;obtain ⟨u, rfl, rx⟩ := vals1 r;cases rx;have fin : ∀ (its : List Value), Vals ys its -> ys.length <= sizeLine -> ∀ (h' : Heap) (c' : Nat), (∀ b o', s.heap.get? b = some o' -> h'.get? b = some o') ->
   h'.get? s.heap.objs.size = some { cls := .type "list", dict := none, data := .seq its.toArray c', slots := #[] } -> EP X pins σ Q (.ref s.heap.objs.size) { s with heap := h' } := fun its r' hz h' c' kp e =>
  ⟨.ref s.heap.objs.size, _, I.laid (t' := s.toks) kp (Nat.le_refl _) (show ObjOk X.prog X.w _ h' _ (.lst ys) from ⟨hz, its, c', r', e⟩), rfl, q _ (I.hok.fresh (Nat.le_refl _))⟩
 rcases hq with hq | hq
 ·obtain ⟨its, r', pl, hz⟩ := I.list hq;have hlen := r'.length;obtain ⟨o, ho, hc, n, hd⟩ := pl.isList;exact call_list_seq p (.inl rfl) ho hc hd (fun h' c' kp e => fin its r' hz h' c' kp e) (by simp only [List.size_toArray] <;> omega)
 ·obtain ⟨its, r', pl, hz⟩ := I.tuple hq;have hlen := r'.length;obtain ⟨o, ho, hc, n, hd⟩ := pl;exact call_list_seq p (.inr rfl) ho hc hd (fun h' c' kp e => fin its r' hz h' c' kp e) (by simp only [List.size_toArray] <;> omega)
theorem call_tuple_of : CallR X (.type "tuple") (fun xs H Q => ∃ p ys, xs = [.ref p] /\ ((SqL X.K H p ys /\ ∀ l, H l = none -> Q (.ref l) (upd H l (.tup ys))) \/ (SqT X.K H p ys /\ Q (.ref p) H))) := by
 intro pins s σ H xs us Q I r h;obtain ⟨p, ys, rfl, h⟩ := h;obtain ⟨u, rfl, rx⟩ := vals1 r;cases rx;rcases h with ⟨hq, q⟩ | ⟨hq, q⟩
 ·obtain ⟨its, r', pl, hz⟩ := I.list hq;have hlen := r'.length;refine call_tuple_list pl.isList (fun h' kp => ?_) (by simp only [List.size_toArray] <;> omega)
  have I1 : Inv X pins σ H { s with heap := h' } := I.kept (t' := s.toks) kp
  have I2 : Inv X pins σ (upd H h'.objs.size (.tup ys)) { s with heap := h'.push { cls := .type "tuple", data := .seq its.toArray } } :=
   I1.laid (t' := s.toks) (fun b o e => Heap.get?_push_of_some _ e) (Nat.le_refl _) (show ObjOk X.prog X.w _ _ _ (.tup ys) from ⟨hz, its, r', IsTup.new _ _⟩)
  exact ⟨.ref h'.objs.size, _, I2, rfl, q _ (I1.hok.fresh (Nat.le_refl _))⟩
 ·obtain ⟨its, r', pl, hz⟩ := I.tuple hq;exact call_tuple_same pl ⟨.ref p, H, I, rfl, q⟩
def tyV (K : PySem.W.Frag) (T : String) (x : V) (H : Hp) : Prop := match x with
 | .str _ => T = "str"
 | .int _ => T = "int"
 | .ref p => (T = "list" /\ ∃ xs, SqL K H p xs) \/ (T = "tuple" /\ ∃ o, K.lookup p = some o /\ o.cls = .type "tuple" /\ o.dict = none) \/
   (T = "dict" /\ ((∃ kvs, H p = some (.dK kvs)) \/ ∃ kvs, H p = some (.dT kvs))) \/ (T = "set" /\ ∃ S n, H p = some (.set S n))
 | _ => False
theorem tyV_is {pins : List (Addr × Obj)} {σ : St} {H : Hp} {s : Shared} {T : String} {x : V} {v : Value} (I : Inv X pins σ H s) (r : RelV x v) (ty : tyV X.K T x H) :
  s.TypeIs v T /\ ∀ a, v = .ref a -> ∃ ob, s.heap.get? a = some ob /\ ob.dict = none := by
 cases x with
 | str z =>
  obtain ⟨t, rfl⟩ := r;cases (show T = "str" from ty);exact ⟨typeIs_str s z t, fun _ e => nomatch e⟩
 | int i =>
  obtain ⟨t, rfl⟩ := r;cases (show T = "int" from ty);exact ⟨typeIs_int s i t, fun _ e => nomatch e⟩
 | ref p =>
  cases r;rcases ty with ⟨rfl, xs, hq⟩ | ⟨rfl, o, hk, hc, hd⟩ | ⟨rfl, hk⟩ | ⟨rfl, S, n, hk⟩
  ·obtain ⟨its, _, pl, _⟩ := I.list hq;refine ⟨pl.isList.typeIs, fun a e => ?_⟩;cases e;obtain ⟨o, n, e, c, hd, _⟩ := pl;exact ⟨o, e, hd⟩
  ·refine ⟨⟨o, I.kIn p o hk, hc⟩, fun a e => ?_⟩;cases e;exact ⟨o, I.kIn _ o hk, hd⟩
  ·have z : ∃ o, s.heap.get? p = some o /\ o.ExactDict := by
    rcases hk with ⟨kvs, hk⟩ | ⟨kvs, hk⟩
    ·obtain ⟨_, _, _, _, o, _, _, e, ex, _⟩ := I.hok p _ hk;exact ⟨o, e, ex⟩
    ·obtain ⟨_, _, _, _, o, _, _, e, ex, _⟩ := I.hok p _ hk;exact ⟨o, e, ex⟩
   obtain ⟨o, e, ex⟩ := z;refine ⟨⟨o, e, ex.1⟩, fun a e2 => ?_⟩;cases e2;exact ⟨o, e, ex.2.1⟩
  ·obtain ⟨o, _, _, _, e, ex, _⟩ := I.hok p _ hk;refine ⟨⟨o, e, ex.1⟩, fun a e2 => ?_⟩;cases e2;exact ⟨o, e, ex.2.1⟩
 | _ => exact False.elim ty
def tBM (K : PySem.W.Frag) (T : String) (r : V -> List V -> Hp -> VK -> Prop) (to : TE) (t : TA) : TE := fun σ H Q => to σ H fun x H1 => tyV K T x H1 /\ t σ H1 fun xs H2 => r x xs H2 Q
variable {o e : Expr} {es : List Expr} {to : TE} {t : TA} {name : Str} {apos cpos : Pos} {T id : String} {r : V -> List V -> Hp -> VK -> Prop}
theorem pe_bm (pa : PlainAttrs T) (slot : Slot T name id) (hty : typeOf (.builtin id) = pure (.type "method_descriptor")) (hm : MtR X id r) (ho : PE X o to) (ha : PA X (e :: es) t)
  (hbase : attributeBase o name X.env (eval o X.env) = eval o X.env := by rfl)
  (hfew : ((backTo cpos (starEach (e :: es) X.env)).all (fun x => !x.1) && (backToKw cpos (keywordEach [] X.env)).all (fun x => x.1.isSome)
   && decide ((e :: es).length + ([] : List Keyword).length + (if ([] : List Keyword).isEmpty then 0 else 1) < 30)) = true := by rfl)
  (hline : (apos.endLine == cpos.line) = true := by rfl) (hs : starEach (e :: es) X.env = (false, eval e X.env) :: starEach es X.env := by rfl) (hplain : (backTo cpos (starEach es X.env)).any (·.1) = false := by rfl) :
  PE X (.Call (.Attribute o name apos) (e :: es) [] cpos) (tBM X.K T r to t) := by
 intro pins s σ H Q I h;refine wpAny_Call_method_late hbase hfew hline rfl (thn (ho pins s σ H _ I h) fun v s1 ⟨x, H1, I1, r1, ty, q1⟩ => ?_);obtain ⟨h1, h2⟩ := tyV_is I1 r1 ty;refine ⟨T, id, pa, slot, hty, h1, h2, ?_⟩;have hA := ha cpos pins s1 σ H1 _ I1 q1;rw [hs] at hA ⊢;refine Calls.callWith_builtin (by show (false || (backTo cpos (starEach es X.env)).any (·.1)) = false; rw [hplain] <;> rfl) (Calls.evalArgs_plain ?_)
 exact thn hA fun us s2 ⟨vs, H2, I2, r2, q2⟩ => hm pins s2 σ H2 x vs v us Q I2 r1 r2 q2
end
def MtM (X : Cx) (id : String) (r : V -> List V -> Hp -> VK -> Prop) : Prop :=
 ∀ (pins : List (Addr × Obj)) (s : Shared) (σ : St) (H : Hp) (x : V) (xs : List V) (v : Value) (us : List Value) (Q : VK), Inv X pins σ H s -> RelV x v -> Vals xs us -> r x xs H Q ->
  wpAny (model X.prog X.w) X.A (call (.builtin id) (v :: us)) (EP X pins σ Q) X.xe s
theorem Vals.one : ∀ {x : V} {us : List Value}, Vals [x] us -> ∃ u, us = [u] /\ RelV x u
 | _, _, .cons r .nil => ⟨_, rfl, r⟩
theorem Vals.eraseIdx : ∀ {xs : List V} {us : List Value} (i : Nat), Vals xs us -> Vals (xs.eraseIdx i) (us.eraseIdx i)
 | _, _, _, .nil => .nil
 | _, _, 0, .cons _ t => t
 | _, _, i + 1, .cons r t => .cons r (Vals.eraseIdx i t)
theorem Vals.rep {xs : List V} {us : List Value} (h : Vals xs us) : ∀ k : Nat, Vals (List.replicate k xs).flatten (List.replicate k us).flatten
 | 0 => .nil
 | k + 1 => by
  rw [List.replicate_succ, List.replicate_succ, List.flatten_cons, List.flatten_cons];exact Vals.append h (Vals.rep h k)
theorem len_erase {α : Type} : ∀ (l : List α) (i : Nat), (l.eraseIdx i).length <= l.length
 | [], _ => Nat.le_refl _
 | _ :: _, 0 => Nat.le_succ _
 | _ :: r, i + 1 => Nat.succ_le_succ (len_erase r i)
theorem foldl_rep (its : List Value) : ∀ (k : Nat) (acc : List Value),
  List.foldl (fun x1 x2 => x1 ++ x2) acc.toArray (List.replicate k its.toArray) = (acc ++ (List.replicate k its).flatten).toArray
 | 0, acc => by simp
 | k + 1, acc => by
  have e : acc.toArray ++ its.toArray = (acc ++ its).toArray := by simp
  have e2 : (acc ++ its) ++ (List.replicate k its).flatten = acc ++ (List.replicate (k + 1) its).flatten := by
   rw [List.replicate_succ, List.flatten_cons, List.append_assoc]
  rw [<- e2, <- foldl_rep its k (acc ++ its), <- e, List.replicate_succ, List.foldl_cons]
section
variable {X : Cx} {pins : List (Addr × Obj)} {σ : St} {H : Hp} {s : Shared} {l b : Addr} {xs ys zs : List V}
theorem Inv.lset {its its' : List Value} {n : Nat} {f : Array Value -> Array Value} {t' : Nat} (I : Inv X pins σ H s) (hH : H l = some (.lst xs))
  (e : s.heap.get? l = some { cls := .type "list", data := .seq its.toArray n }) (hf : f its.toArray = its'.toArray) (hv : Vals ys its') (hz : ys.length <= sizeLine) :
  Inv X pins σ (upd H l (.lst ys)) { s with heap := s.heap.update l (Obj.mapSeq f), toks := t' } := by
 have q := PySem.IsL.update e f;rw [hf] at q;refine I.write (x := l) (e := l) (by rw [hH]; exact trivial) (.inl rfl) (fun b' u hb hu => (Heap.get?_update_other s.heap (Obj.mapSeq f) (Ne.symm hb)).trans hu) ⟨_, q⟩ ?_
 exact ⟨hz, its', _, hv, q⟩
theorem Inv.lnew {its : List Value} {t' : Nat} (I : Inv X pins σ H s) (hv : Vals ys its) (hz : ys.length <= sizeLine) :
  Inv X pins σ (upd H s.heap.objs.size (.lst ys)) { s with heap := s.heap.push { cls := .type "list", data := .seq its.toArray }, toks := t' } :=
 I.laid (fun _ _ q => Heap.get?_push_of_some _ q) (Nat.le_refl _) ⟨hz, its, 0, hv, Heap.get?_push_size _ rfl⟩
theorem Inv.fresh (I : Inv X pins σ H s) : H s.heap.objs.size = none := I.hok.fresh (Nat.le_refl _)
theorem Inv.lstM (I : Inv X pins σ H s) (hH : H l = some (.lst xs)) : xs.length <= sizeLine /\ ∃ (its : List Value) (n : Nat), Vals xs its /\ xs.length = its.length /\ s.heap.get? l = some { cls := .type "list", data := .seq its.toArray n } := by
 obtain ⟨z, its, n, r, e⟩ := I.hok l _ hH;exact ⟨z, its, n, r, r.length, e⟩
theorem notLongL {n : Nat} (h : n <= sizeLine) : Builtin.List.listTooLong n = false := by
 unfold Builtin.List.listTooLong;exact decide_eq_false (by omega)
def rAppend : V -> List V -> Hp -> VK -> Prop := fun x vs H Q => ∃ l xs y, x = .ref l /\ vs = [y] /\ H l = some (.lst xs) /\ xs.length < sizeLine /\ Q .non (upd H l (.lst (xs ++ [y])))
theorem mt_append : MtM X "list.append" rAppend := by
 intro pins s σ H x vs v us Q I rx rv h;obtain ⟨l, xs, y, rfl, rfl, hH, hz, q⟩ := h;cases rx;obtain ⟨u, rfl, ru⟩ := rv.one;obtain ⟨z, its, n, r, hl, e⟩ := I.lstM hH;refine call_meets F.slot_list_append ⟨_, e, rfl⟩ F.entry_list_append (F.args_list_append_2 _ _) (PySem.list_append l its.toArray n u (by rw [List.size_toArray]; omega)) ⟨e, ?_⟩
 refine ⟨.non, _, I.lset (its' := its ++ [u]) hH e (by simp) (r.append (.cons ru .nil)) ?_, rfl, q⟩
 rw [List.length_append, List.length_singleton];omega
def rPopAt : V -> List V -> Hp -> VK -> Prop := fun x vs H Q => ∃ l xs i k y, x = .ref l /\ vs = [.int i] /\ H l = some (.lst xs) /\ -(2 ^ 63) <= i /\ i < 2 ^ 63 /\ seqIndex? i xs.length = some k /\ xs[k]? = some y /\ Q y (upd H l (.lst (xs.eraseIdx k)))
theorem mt_popAt : MtM X "list.pop" rPopAt := by
 intro pins s σ H x vs v us Q I rx rv h;obtain ⟨l, xs, i, k, y, rfl, rfl, hH, h1, h2, hk, hy, q⟩ := h;cases rx;obtain ⟨u, rfl, ru⟩ := rv.one;obtain ⟨t, rfl⟩ := ru;obtain ⟨z, its, n, r, hl, e⟩ := I.lstM hH;obtain ⟨w, hw, rw'⟩ := r.get hy;refine call_meets F.slot_list_pop ⟨_, e, rfl⟩ F.entry_list_pop (F.args_list_pop_2 _ _)
  (MeetsSeq.list_pop_at l its.toArray n i t k w (fitsIndex_both h1 h2) (by rw [List.size_toArray, <- hl]; exact hk) (by rw [<- Array.getElem?_toList]; exact hw) (by rw [List.size_toArray]; omega)) ⟨e, ?_⟩
 refine ⟨y, _, I.lset (its' := its.eraseIdx k) hH e ?_ (r.eraseIdx k) ?_, rw', q⟩
 ·show its.toArray.eraseIdxIfInBounds k = (its.eraseIdx k).toArray;rw [List.eraseIdxIfInBounds_toArray]
 ·have := len_erase xs k;omega
def rCat : R2 := fun x y H Q => ∃ l b xs zs, x = .ref l /\ y = .ref b /\ H l = some (.lst xs) /\ H b = some (.lst zs) /\ xs.length + zs.length <= sizeLine /\ ∀ p, H p = none -> Q (.ref p) (upd H p (.lst (xs ++ zs)))
theorem op_cat : OpR X (binaryOp .Add) rCat := by
 intro pins s σ H x y v u Q I rx ry h;obtain ⟨l, b, xs, zs, rfl, rfl, hH, hB, hz, q⟩ := h;cases rx;cases ry;obtain ⟨z, its, n, r, hl, e⟩ := I.lstM hH;obtain ⟨z2, its2, n2, r2, hl2, e2⟩ := I.lstM hB;refine PySem.P.add_list e e2 ?_ (by rw [List.size_toArray, List.size_toArray]; omega)
 have ea : its.toArray ++ its2.toArray = (its ++ its2).toArray := by simp
 rw [ea];exact ⟨.ref _, _, I.lnew (t' := s.toks) (r.append r2) (by rw [List.length_append]; omega), rfl, q _ I.fresh⟩
def rRep : R2 := fun x y H Q => ∃ l k xs, x = .ref l /\ y = .int k /\ H l = some (.lst xs) /\ -(2 ^ 63) <= k /\ k < 2 ^ 63 /\ xs.length * k.toNat <= sizeLine /\
 ∀ p, H p = none -> Q (.ref p) (upd H p (.lst (List.replicate k.toNat xs).flatten))
theorem len_rep {α : Type} (xs : List α) (k : Nat) : (List.replicate k xs).flatten.length = k * xs.length := by
 induction k with
 | zero => simp
 | succ k ih => rw [List.replicate_succ, List.flatten_cons, List.length_append, ih, Nat.succ_mul, Nat.add_comm]
theorem op_rep : OpR X (binaryOp .Mult) rRep := by
 intro pins s σ H x y v u Q I rx ry h;obtain ⟨l, k, xs, rfl, rfl, hH, h1, h2, hz, q⟩ := h;cases rx;obtain ⟨t, rfl⟩ := ry;obtain ⟨z, its, n, r, hl, e⟩ := I.lstM hH;have hlen : its.toArray.size * k.toNat <= sizeLine := by rw [List.size_toArray, <- hl]; exact hz
 have hcap : ¬ its.toArray.size * k.toNat > (2 ^ 63 - 1) / 8 := by
  have : (sizeLine : Nat) <= (2 ^ 63 - 1) / 8 := by decide
  omega
 have hfit : ¬ (!Builtin.List.listFitsIndex k) = true := by
  rw [fitsIndex_both h1 h2];exact Bool.false_ne_true
 have hlong : ¬ Builtin.List.listTooLong (its.toArray.size * k.toNat) = true := by
  rw [notLongL hlen];exact Bool.false_ne_true
 have hnew : List.foldl (fun x1 x2 => x1 ++ x2) #[] (List.replicate (if its.toArray.isEmpty = true then 0 else k.toNat) its.toArray) = (List.replicate k.toNat its).flatten.toArray := by
  have f0 : ∀ m : Nat, List.foldl (fun x1 x2 => x1 ++ x2) #[] (List.replicate m its.toArray) = (List.replicate m its).flatten.toArray := fun m => by
   have := foldl_rep its m [];rw [List.nil_append] at this;exact this
  rw [f0];cases its with
  | nil => simp
  | cons a r' => rw [if_neg (by simp)]
 refine wpAny_binaryOp_repeat_ref (T := "list") (U := "int") (by decide) ⟨_, e, rfl⟩ (fun s' => typeIs_int s' k t) noFill_list_mul F.fills_int_mul F.slot_int_rmul repeat_list F.slot_int_index.lookup
  (call_meets F.slot_int_rmul (typeIs_int s k t) F.entry_int_rmul (F.args_int_rmul_2 _ _) (int___rmul___int_list k t l its.toArray n)
   ⟨e, rfl, ⟨_, e, rfl⟩, call_meets F.slot_list_mul ⟨_, e, rfl⟩ F.entry_list_mul (F.args_list_mul_2 _ _) (AutoListH.list___mul___list_int_3 l its.toArray n k t hfit hcap hlong) ⟨e, ?_⟩⟩)
 rw [hnew];exact ⟨.ref _, _, I.lnew (t' := s.toks) (r.rep k.toNat) (by rw [len_rep, Nat.mul_comm]; exact hz), rfl, q _ I.fresh⟩
end
section
variable {κ : Type} [DecidableEq κ]
def valV (kvs : List (κ × V)) (k : κ) : Option V := (kvs.find? fun kv => decide (kv.1 = k)).map (·.2)
def putK (kvs : List (κ × V)) (k : κ) (v : V) : List (κ × V) :=
 if (kvs.any fun kv => decide (kv.1 = k)) = true then kvs.map (fun kv => if kv.1 = k then (kv.1, v) else kv) else kvs ++ [(k, v)]
theorem valV_pos {p : κ × V} {r : List (κ × V)} {k : κ} (e : p.1 = k) : valV (p :: r) k = some p.2 := by simp [valV, List.find?_cons, e]
theorem valV_neg {p : κ × V} {r : List (κ × V)} {k : κ} (e : ¬ p.1 = k) : valV (p :: r) k = valV r k := by simp [valV, List.find?_cons, e]
theorem valV_any (k : κ) : ∀ kvs : List (κ × V), (kvs.any fun kv => decide (kv.1 = k)) = (valV kvs k).isSome
 | [] => rfl
 | p :: r => by
  rw [List.any_cons];by_cases e : p.1 = k
  ·simp only [valV_pos e, decide_eq_true e, Bool.true_or, Option.isSome_some]
  ·rw [valV_neg e, decide_eq_false e, Bool.false_or]; exact valV_any k r
theorem length_putK (kvs : List (κ × V)) (k : κ) (v : V) : (putK kvs k v).length <= kvs.length + 1 := by
 unfold putK;split
 ·rw [List.length_map]; omega
 ·rw [List.length_append, List.length_cons, List.length_nil]; omega
theorem RelO.isSome_eq {o : Option V} {u : Option Value} (r : RelO o u) : o.isSome = u.isSome := by
 cases o with
 | none => cases u with
  | none => rfl
  | some _ => exact (show False from r).elim
 | some _ => cases u with
  | none => exact (show False from r).elim
  | some _ => rfl
theorem RelO.getD {o : Option V} {u : Option Value} {d : V} {d' : Value} (r : RelO o u) (rd : RelV d d') : RelV (o.getD d) (u.getD d') := by
 cases o with
 | none => cases u with
  | none => exact rd
  | some _ => exact (show False from r).elim
 | some _ => cases u with
  | none => exact (show False from r).elim
  | some _ => exact r
theorem KV.val {kvs : List (κ × V)} {vs : List (κ × Value)} (r : KV kvs vs) (k : κ) : RelO (valV kvs k) (valueAt vs k) := by
 unfold KV at r
 induction r with
 | nil => exact True.intro
 | @cons p q ps qs h t ih =>
  obtain ⟨h1, h2⟩ := h;by_cases e : p.1 = k
  ·have e' : q.1 = k := h1.symm.trans e;have b : valueAt (q :: qs) k = some q.2 := by simp [valueAt, List.find?_cons, e']
   rw [valV_pos e, b]; exact h2
  ·have e' : ¬ q.1 = k := fun z => e (h1.trans z);have b : valueAt (q :: qs) k = valueAt qs k := by simp [valueAt, List.find?_cons, e']
   rw [valV_neg e, b]; exact ih
theorem KV.any {kvs : List (κ × V)} {vs : List (κ × Value)} (r : KV kvs vs) (k : κ) : (kvs.any fun kv => decide (kv.1 = k)) = vs.any fun kv => decide (kv.1 = k) := by
 unfold KV at r
 induction r with
 | nil => rfl
 | cons h t ih => rw [List.any_cons, List.any_cons, ih, h.1]
theorem KV.repl {kvs : List (κ × V)} {vs : List (κ × Value)} (r : KV kvs vs) (k : κ) {y : V} {u : Value} (ry : RelV y u) :
  KV (kvs.map fun kv => if kv.1 = k then (kv.1, y) else kv) (vs.map fun kv => if kv.1 = k then (kv.1, u) else kv) := by
 unfold KV at r ⊢
 induction r with
 | nil => exact .nil
 | @cons p q ps qs h t ih =>
  rw [List.map_cons, List.map_cons];refine .cons ?_ ih;obtain ⟨h1, h2⟩ := h;by_cases e : p.1 = k
  ·rw [if_pos e, if_pos (h1.symm.trans e)]; exact ⟨h1, ry⟩
  ·rw [if_neg e, if_neg (fun z => e (h1.trans z))]; exact ⟨h1, h2⟩
theorem KV.put {kvs : List (κ × V)} {vs : List (κ × Value)} (r : KV kvs vs) (k : κ) {y : V} {u : Value} (ry : RelV y u) : KV (putK kvs k y) (stored vs k u) := by
 unfold putK stored;rw [r.any k];by_cases e : (vs.any fun kv => decide (kv.1 = k)) = true
 ·rw [if_pos e, if_pos e]; exact r.repl k ry
 ·rw [if_neg e, if_neg e]; exact Paired.snoc r ⟨rfl, ry⟩
theorem KV.length {kvs : List (κ × V)} {vs : List (κ × Value)} (r : KV kvs vs) : kvs.length = vs.length := Paired.length r
end
theorem kV_is {P : Program} {w : World} {k : Key} {u : Value} (r : RelV (kV k) u) : (mixKind P w).is k u = true := by
 cases k with
 | inl i => obtain ⟨t, e⟩ := (show ∃ t, u = Value.int i t from r); subst e; exact mixKind_int P w i t
 | inr x => obtain ⟨t, e⟩ := (show ∃ t, u = Value.str x t from r); subst e; exact mixKind_str P w x t
 | non => cases (show u = Value.none from r); rfl
theorem items_are {P : Program} {w : World} : ∀ {ks : List Key} {us : List Value}, Vals (ks.map kV) us -> ItemsAre (mixKind P w) ks us
 | [], _, r => by rw [List.map_nil] at r; cases r; exact .nil
 | k :: ks, _, r => by
  rw [List.map_cons] at r;cases r with
  | cons h t => exact .cons (kV_is h) (items_are t)
abbrev KT (H : Hp) : List (List Key × V) -> List (List Key × Addr × Value) -> Prop := Paired fun p q => p.1 = q.1 /\ H q.2.1 = some (.tup (p.1.map kV)) /\ RelV p.2 q.2.2
theorem KT.val {H : Hp} {kvs : List (List Key × V)} {xs : List (List Key × Addr × Value)} (r : KT H kvs xs) (k : List Key) : RelO (valV kvs k) ((atKey xs k).map (·.2)) := by
 induction r with
 | nil => exact True.intro
 | @cons p q ps qs h t ih =>
  obtain ⟨h1, _, h2⟩ := h;by_cases e : p.1 = k
  ·have e' : q.1 = k := h1.symm.trans e;have b : atKey (q :: qs) k = some q.2 := by simp [atKey, List.find?_cons, e']
   rw [valV_pos e, b]; exact h2
  ·have e' : ¬ q.1 = k := fun z => e (h1.trans z);have b : atKey (q :: qs) k = atKey qs k := by simp [atKey, List.find?_cons, e']
   rw [valV_neg e, b]; exact ih
theorem KT.repl {H : Hp} {kvs : List (List Key × V)} {xs : List (List Key × Addr × Value)} (r : KT H kvs xs) (k : List Key) {y : V} {u : Value} (ry : RelV y u) :
  KT H (kvs.map fun kv => if kv.1 = k then (kv.1, y) else kv) (xs.map (putAt k u)) := by
 induction r with
 | nil => exact .nil
 | @cons p q ps qs h t ih =>
  rw [List.map_cons, List.map_cons];refine .cons ?_ ih;obtain ⟨h1, h2, h3⟩ := h;unfold putAt;by_cases e : p.1 = k
  ·rw [if_pos e, if_pos (h1.symm.trans e)]; exact ⟨h1, h2, ry⟩
  ·rw [if_neg e, if_neg (fun z => e (h1.trans z))]; exact ⟨h1, h2, h3⟩
theorem KT.put {H : Hp} {kvs : List (List Key × V)} {xs : List (List Key × Addr × Value)} (r : KT H kvs xs) (k : List Key) {b : Addr} {y : V} {u : Value} (hb : H b = some (.tup (k.map kV))) (ry : RelV y u) :
  KT H (putK kvs k y) (storedH xs k b u) := by
 have e : (kvs.any fun kv => decide (kv.1 = k)) = (atKey xs k).isSome := by
  rw [valV_any, (r.val k).isSome_eq, Option.isSome_map]
 unfold putK storedH;rw [e];by_cases q : (atKey xs k).isSome = true
 ·rw [if_pos q, if_pos q]; exact r.repl k ry
 ·rw [if_neg q, if_neg q]; exact Paired.snoc r ⟨rfl, hb, ry⟩
theorem KT.keeps {H H' : Hp} {kvs : List (List Key × V)} {xs : List (List Key × Addr × Value)} (r : KT H kvs xs) (ht : ∀ b ys, H b = some (.tup ys) -> H' b = some (.tup ys)) : KT H' kvs xs :=
 Paired.mapP r fun _ _ z => ⟨z.1, ht _ _ z.2.1, z.2.2⟩
section
variable {P : Program} {w : World} {H : Hp} {h : Heap} {a : Addr}
theorem rd_of {u : HO} (ok : HOk P w H h) (e : Rd H a u) : ObjOk P w H h a u := e.ok ok
theorem dk_rd {kvs : List (Key × V)} (ok : HOk P w H h) (e : Rd H a (.dK kvs)) : kvs.length <= sizeLine /\ (a == sysModules) = false /\ ∃ vs, KV kvs vs /\ h.DictOf (mixKind P w) a vs :=
 show ObjOk P w H h a (.dK kvs) from rd_of ok e
theorem dk_of {kvs : List (Key × V)} (ok : HOk P w H h) (e : H a = some (.dK kvs)) : kvs.length <= sizeLine /\ (a == sysModules) = false /\ ∃ vs, KV kvs vs /\ h.DictOf (mixKind P w) a vs := dk_rd ok (.inl e)
theorem key_of {ks : List Key} (ok : HOk P w H h) (e : H a = some (.tup (ks.map kV))) : (tupleKind (mixKind P w)).is h ks a := by
 obtain ⟨_, its, r, o, h1, h2, n, h3⟩ := (show ObjOk P w H h a (.tup (ks.map kV)) from ok a _ e);exact ⟨o, its.toArray, n, h1, h2, h3, by simpa using items_are r⟩
theorem dt_rd {kvs : List (List Key × V)} (ok : HOk P w H h) (e : Rd H a (.dT kvs)) : kvs.length <= sizeLine /\ (a == sysModules) = false /\
  ∃ xs, KT H kvs xs /\ h.DictOfH (tupleKind (mixKind P w)) a xs := by
 obtain ⟨z, y, xs, r, o, es, ep, h1, h2, h3, h4, h5⟩ := (show ObjOk P w H h a (.dT kvs) from rd_of ok e);refine ⟨z, y, xs, r, o, es, ep, h1, h2, h3, h4, fun x hx => ?_, h5⟩;have all : ∀ {l : List (List Key × V)} {m : List (List Key × Addr × Value)}, KT H l m -> ∀ x ∈ m, (tupleKind (mixKind P w)).is h x.1 x.2.1 := by
  intro l m q
  induction q with
  | nil => intro x hx; exact nomatch hx
  | @cons p q ps qs hq t ih =>
   intro x hx;rcases List.mem_cons.mp hx with e | hx
   ·subst e;exact key_of ok (by rw [<- hq.1]; exact hq.2.1)
   ·exact ih x hx
 exact all r x hx
theorem dt_of {kvs : List (List Key × V)} (ok : HOk P w H h) (e : H a = some (.dT kvs)) : kvs.length <= sizeLine /\ (a == sysModules) = false /\
  ∃ xs, KT H kvs xs /\ h.DictOfH (tupleKind (mixKind P w)) a xs := dt_rd ok (.inl e)
end
def DGet (H : Hp) (a : Addr) (y : V) (r : Option V) : Prop :=
 (∃ kvs k, Rd H a (.dK kvs) /\ y = kV k /\ r = valV kvs k) \/ ∃ kvs k b, Rd H a (.dT kvs) /\ y = .ref b /\ H b = some (.tup (k.map kV)) /\ r = valV kvs k
def DPut (H : Hp) (a : Addr) (y v : V) (H' : Hp) : Prop :=
 (∃ kvs k, H a = some (.dK kvs) /\ y = kV k /\ kvs.length < sizeLine /\ H' = upd H a (.dK (putK kvs k v))) \/
 ∃ kvs k b, H a = some (.dT kvs) /\ y = .ref b /\ H b = some (.tup (k.map kV)) /\ kvs.length < sizeLine /\ H' = upd H a (.dT (putK kvs k v))
section
variable {X : Cx} {pins : List (Addr × Obj)} {σ : St} {H : Hp} {s : Shared} {a : Addr} {y v : V} {u r : Value} {o : Option V} {A : Around} {E : Value -> Shared -> Prop}
theorem Inv.big (I : Inv X pins σ H s) : sysModules < s.heap.objs.size := by
 have h : mainGlobals < s.heap.objs.size := (I.mod.glob.keeps I.bk).lt;exact Nat.lt_trans (by decide) h
theorem d_write {h' : Heap} {t' : Nat} {ob : HO} (I : Inv X pins σ H s) (mu : Mut (H a)) (hs : Heap.SameBut a s.heap h') (he : ∃ q, h'.get? a = some q) (new : ObjOk X.prog X.w (upd H a ob) h' a ob) :
  Inv X pins σ (upd H a ob) { s with heap := h', toks := t' } :=
 I.write (x := a) (e := a) mu (.inl rfl) (fun b q hb z => (hs.2 b hb).trans z) he new
theorem dk_new {P : Program} {w : World} {H' : Hp} {h' : Heap} {kvs : List (Key × V)} {vs : List (Key × Value)} (z : kvs.length <= sizeLine) (hd : (a == sysModules) = false) (rel : KV kvs vs) (dd : h'.DictOf (mixKind P w) a vs) :
  ObjOk P w H' h' a (.dK kvs) := ⟨z, hd, vs, rel, dd⟩
theorem d_setItem {H' : Hp} {Q : Unit -> Shared -> Prop} (hu : A.units + 1 < cLine) (I : Inv X pins σ H s) (g : DPut H a y v H') (ry : RelV y u) (rv : RelV v r) (h : ∀ s', Inv X pins σ H' s' -> Q () s') :
  wpAny (model X.prog X.w) A (setItem (.ref a) u r) Q E s := by
 rcases g with ⟨kvs, k, e, ey, l, eH⟩ | ⟨kvs, k, b, e, ey, eb, l, eH⟩
 ·subst ey eH;obtain ⟨z, hd, vs, rel, dd⟩ := dk_of I.hok e;have hz : vs.length <= sizeLine := by rw [<- rel.length]; exact z
  have hl : (putK kvs k v).length <= sizeLine := by have := length_putK kvs k v; omega
  refine wpAny_setItem_pairs (hsz := hz) (kV_is ry) dd fun h' dd' hs => h _ ?_;have he : ∃ q, h'.get? a = some q := let ⟨q, _, _, hq, _⟩ := dd'; ⟨q, hq⟩
  exact d_write I (by rw [e]; exact True.intro) hs he (dk_new hl hd (rel.put k rv) dd')
 ·subst ey eH;cases (show u = Value.ref b from ry);obtain ⟨z, hd, xs, rel, dd⟩ := dt_of I.hok e;have hz : xs.length <= sizeLine := by rw [<- Paired.length rel]; exact z
  have hl : (putK kvs k v).length <= sizeLine := by have := length_putK kvs k v; omega
  refine wpAny_setItem_heap (hsz := hz) (tupleKind_room_in1 hu) (key_of I.hok eb) dd fun h' dd' hs => h _ ?_;obtain ⟨q, es, ep, hq, h2, h3, h4, _, h5⟩ := dd';refine d_write I (by rw [e]; exact True.intro) hs ⟨q, hq⟩ ⟨hl, hd, _, (rel.put k eb rv).keeps fun c ys ec => ?_, q, es, ep, hq, h2, h3, h4, h5⟩
  rw [upd_ne (ne_of ec e (fun z => nomatch z))];exact ec
end
def sDPut (td ty tv : TE) : TS := fun D σ H => tv σ H fun v H1 => td σ H1 fun x H2 => ty σ H2 fun y H3 => ∃ a H4, x = .ref a /\ DPut H3 a y v H4 /\ D.nx σ H4
section
variable {X : Cx} {o i e value : Expr} {pos pos' tpos : Pos} {td ty tv : TE}
theorem ps_dput (hu : X.A.units + 1 < cLine) (ho : PE X o td) (hi : PE X i ty) (hv : PE X value tv) (hs : swapsWith value (some (.Subscript o i pos')) pos.line X.env = pure false) :
  PS X (.Assign [.Subscript o i pos'] value pos) (sDPut td ty tv) := by
 intro pins s σ H D I h;refine wpAny_Assign_Subscript (thn (hv pins s σ H _ I h) fun r s1 ⟨v, H1, I1, rv, q1⟩ => thn (ho pins s1 σ H1 _ I1 q1) fun u s2 ⟨x, H2, I2, rx, q2⟩ => thn (hi pins s2 σ H2 _ I2 q2) fun iv s3 ⟨y, H3, I3, ry, a, H4, ex, g, q3⟩ => ?_) hs;subst ex;obtain rfl : u = Value.ref a := rx;exact d_setItem hu I3 g ry rv fun s4 I4 => ⟨σ, H4, I4, q3⟩
end
theorem dk_empty {P : Program} {w : World} {H : Hp} (h : Heap) (hb : sysModules < h.objs.size) : ObjOk P w H (h.push { cls := .type "dict", data := .dict #[] }) h.objs.size (.dK []) :=
 ⟨Nat.zero_le _, beq_eq_false_iff_ne.mpr (Ne.symm (Nat.ne_of_lt hb)), [], .nil, Heap.DictOf.new h⟩
theorem dt_empty {P : Program} {w : World} {H : Hp} (h : Heap) (hb : sysModules < h.objs.size) : ObjOk P w H (h.push { cls := .type "dict", data := .dict #[] }) h.objs.size (.dT []) :=
 ⟨Nat.zero_le _, beq_eq_false_iff_ne.mpr (Ne.symm (Nat.ne_of_lt hb)), [], .nil, _, #[], 0, Heap.get?_push_size _ rfl, ⟨rfl, rfl, rfl⟩, rfl, rfl, List.nodup_nil⟩
def tDNewK : TE := fun _ H Q => ∀ p, H p = none -> Q (.ref p) (upd H p (.dK []))
def tDNewT : TE := fun _ H Q => ∀ p, H p = none -> Q (.ref p) (upd H p (.dT []))
section
variable {X : Cx} {pos : Pos}
theorem pe_dnewK : PE X (.Dict [] [] pos) tDNewK := fun pins s σ H Q I h =>
 wpAny_Dict_empty ⟨.ref s.heap.objs.size, _, I.laid (a := s.heap.objs.size) (o := .dK []) (t' := s.toks) (fun _ _ q => Heap.get?_push_of_some _ q) (Nat.le_refl _) (dk_empty s.heap I.big), rfl, h _ (I.hok.fresh (Nat.le_refl _))⟩
theorem pe_dnewT : PE X (.Dict [] [] pos) tDNewT := fun pins s σ H Q I h =>
 wpAny_Dict_empty ⟨.ref s.heap.objs.size, _, I.laid (a := s.heap.objs.size) (o := .dT []) (t' := s.toks) (fun _ _ q => Heap.get?_push_of_some _ q) (Nat.le_refl _) (dt_empty s.heap I.big), rfl, h _ (I.hok.fresh (Nat.le_refl _))⟩
end
structure M1 (X : Cx) (o : Expr) (m : Str) (apos : Pos) (e : Expr) (cpos : Pos) : Prop where
 base : attributeBase o m X.env (eval o X.env) = eval o X.env
 few : ((backTo cpos (starEach [e] X.env)).all (fun x => !x.1) && (backToKw cpos (keywordEach [] X.env)).all (fun x => x.1.isSome)
  && decide (([e] : List Expr).length + ([] : List Keyword).length + (if ([] : List Keyword).isEmpty then 0 else 1) < 30)) = true
 line : (apos.endLine == cpos.line) = true
 trees : backTo cpos (starEach [e] X.env) = [(false, eval e X.env)]
structure M2 (X : Cx) (o : Expr) (m : Str) (apos : Pos) (e f : Expr) (cpos : Pos) : Prop where
 base : attributeBase o m X.env (eval o X.env) = eval o X.env
 few : ((backTo cpos (starEach [e, f] X.env)).all (fun x => !x.1) && (backToKw cpos (keywordEach [] X.env)).all (fun x => x.1.isSome)
  && decide (([e, f] : List Expr).length + ([] : List Keyword).length + (if ([] : List Keyword).isEmpty then 0 else 1) < 30)) = true
 line : (apos.endLine == cpos.line) = true
 trees : backTo cpos (starEach [e, f] X.env) = [(false, eval e X.env), (false, eval f X.env)]
def IsD (H : Hp) (a : Addr) : Prop := (∃ kvs, Rd H a (.dK kvs)) \/ ∃ kvs, Rd H a (.dT kvs)
theorem isD_at {X : Cx} {pins : List (Addr × Obj)} {σ : St} {H : Hp} {s : Shared} {a : Addr} (I : Inv X pins σ H s) (d : IsD H a) :
  s.TypeIs (.ref a) "dict" /\ (∀ b, Value.ref a = .ref b -> ∃ ob, s.heap.get? b = some ob /\ ob.dict = none) /\ (a == sysModules) = false := by
 rcases d with ⟨kvs, e⟩ | ⟨kvs, e⟩
 ·obtain ⟨_, hd, vs, _, dd⟩ := dk_rd I.hok e;refine ⟨dd.typeIs, fun b q => ?_, hd⟩;cases q;obtain ⟨ob, _, _, h1, h2, _⟩ := dd;exact ⟨ob, h1, h2.2.1⟩
 ·obtain ⟨_, hd, xs, _, dd⟩ := dt_rd I.hok e;refine ⟨dd.typeIs, fun b q => ?_, hd⟩;cases q;obtain ⟨ob, _, _, h1, h2, _⟩ := dd;exact ⟨ob, h1, h2.2.1⟩
section
variable {X : Cx} {pins : List (Addr × Obj)} {σ : St} {H : Hp} {s : Shared} {a : Addr} {y d : V} {u r : Value} {o : Option V} {A : Around} {E : Value -> Shared -> Prop}
theorem d_get2 {Q : Value -> Shared -> Prop} (hu : A.units + 1 < cLine) (I : Inv X pins σ H s) (g : DGet H a y o) (ry : RelV y u) (rd : RelV d r) (h : ∀ w' s', Inv X pins σ H s' -> RelV (o.getD d) w' -> Q w' s') :
  wpAny (model X.prog X.w) A (call (.builtin "dict.get") [.ref a, u, r]) Q E s := by
 rcases g with ⟨kvs, k, e, ey, l⟩ | ⟨kvs, k, b, e, ey, eb, l⟩
 ·subst ey;obtain ⟨z, hd, vs, rel, dd⟩ := dk_rd I.hok e;refine call_meetsIn PySem.F.slot_dict_get dd.typeIs PySem.F.entry_dict_get (PySem.F.args_dict_get_3 _ _ _) (meets_dict_get_default (mixKind X.prog X.w) a (kV_is ry) hd r) ⟨_, dd.mapOf, h _ _ (I.tok _) ?_⟩;rw [l];exact (rel.val k).getD rd
 ·subst ey;cases (show u = Value.ref b from ry);obtain ⟨z, hd, xs, rel, dd⟩ := dt_rd I.hok e;refine call_meetsIn PySem.F.slot_dict_get dd.typeIs PySem.F.entry_dict_get (PySem.F.args_dict_get_3 _ _ _) (meetsH_dict_get_default (tupleKind (mixKind X.prog X.w)) a b hd r) ⟨tupleKind_room_in1 hu, k, xs, key_of I.hok eb, dd, h _ _ (I.tok _) ?_⟩;rw [l];exact (rel.val k).getD rd
end
def tDGet2 (td ty tx : TE) : TE := fun σ H Q => td σ H fun x H1 => ∃ a, x = .ref a /\ IsD H1 a /\ ty σ H1 fun y H2 => tx σ H2 fun z H3 => ∃ o, DGet H3 a y o /\ Q (o.getD z) H3
section
variable {X : Cx} {o e f : Expr} {apos cpos : Pos} {td ty tx : TE}
theorem pe_dget2 (hu : X.A.units + 1 < cLine) (ho : PE X o td) (he : PE X e ty) (hf : PE X f tx) (m : M2 X o "get" apos e f cpos) : PE X (.Call (.Attribute o "get" apos) [e, f] [] cpos) (tDGet2 td ty tx) := by
 intro pins s σ H Q I h;refine wpAny_Call_method m.base m.few m.line PySem.F.plainAttrs_dict PySem.F.slot_dict_get PySem.F.type_dict_get (thn (ho pins s σ H _ I h) fun u s1 ⟨x, H1, I1, rx, a, ex, d, q1⟩ => ?_);subst ex;obtain rfl : u = Value.ref a := rx;obtain ⟨t1, t2, _⟩ := isD_at I1 d;refine ⟨t1, t2, ?_⟩;rw [m.trees];refine Calls.callWith_builtin rfl (Calls.evalArgs_plain (Calls.spliced_cons (thn (he pins s1 σ H1 _ I1 q1) fun iv s2 ⟨y, H2, I2, ry, q2⟩ =>
  Calls.spliced_cons (thn (hf pins s2 σ H2 _ I2 q2) fun fv s3 ⟨z, H3, I3, rz, ov, g, q3⟩ => Calls.spliced_nil ?_))))
 exact d_get2 hu I3 g ry rz fun w' s4 I4 rw' => ⟨_, H3, I4, rw', q3⟩
end
end L2
namespace Att
open PySem PySem.W PySem.Calls PyProof.Rows
theorem ints_of_wellAll {P : Params} {h : Heap} : ∀ (ns : List Int) (vs : List Value), WellAll P h vs (ns.map WData.int) -> IntsAre vs ns := by
 intro ns
 induction ns with
 | nil =>
  intro vs w;rw [List.map_nil] at w;cases w;exact .nil
 | cons n ns ih =>
  intro vs w;rw [List.map_cons] at w;cases w with
  | cons a b =>
   cases a;exact .cons _ _ (ih _ b)
theorem script_of {l : OpenLaw} {n : Nat} (hn : l.most = some n) {P : Params} {h : Heap} {args : List WData} {vals : List Value}
  (hpre : l.row.toRowW.claim.pre args = true) (hwl : WellAll P h vals args) :
  ∃ a vs ns, vals = [Value.ref a] /\ args = [WData.list (ns.map WData.int)] /\ h.get? a = some { cls := .type "list", data := .seq vs.toArray } /\ IntsAre vs ns /\ ns.length <= n := by
 have hsh : WShape.hasAll [] args [.list .int] = true := (pre_splitW hpre).1;have hc : l.pre.holds [] { args := args } = true := (pre_splitW hpre).2;obtain ⟨d, r, rfl, h1, h2⟩ := hasAllW_cons hsh;obtain rfl := hasAllW_nil h2;obtain ⟨xs, rfl, h3⟩ := hasW_list h1;obtain ⟨ns, rfl⟩ := items_int h3;have hlen : ns.length <= n := by
  unfold OpenLaw.pre at hc;have h4 : (WTm.not (.lt (.lit (.int (n : Int))) (.len (.arg 0)))).holds [] { args := [.list (ns.map .int)] } = true := by
   have h4 := (holds_andW hc).1;rw [hn] at h4;exact h4
  have h5 := condW_of h4 (w_not (w_lt w_lit (w_len_list (w_arg rfl))));rw [List.length_map] at h5;refine Nat.le_of_not_lt fun q => ?_;have q' : (n : Int) < ((ns.length : Nat) : Int) := by omega
  first
   | (rw [decide_eq_true q'] at h5; exact absurd h5 (by decide))
   | (simp at h5; omega)
 cases hwl with
 | cons w1 w2 =>
  cases w2;cases w1 with
  | list ho hall => exact ⟨_, _, ns, rfl, rfl, ho, ints_of_wellAll ns _ hall, hlen⟩
theorem post_true (l : OpenLaw) (args : List WData) : l.row.toRowW.claim.post args (.bool true) args = true :=
 postW_of (r := l.row.toRowW) (X := (true == true))
  (show WShape.has [] (.bool true) .bool = true by first | rfl | decide | simp [WShape.has, WShape.arms, WShape.armsAll])
  (show (WTm.eq .res (.lit (.bool true))).value [] { args := args, res := some (.bool true), after := args } = some (.bool (true == true)) from w_eq_bool (w_res rfl) w_lit) rfl
end Att
namespace L2
open PySem PySem.Spec PyProof.Rows
theorem vals_ints : ∀ {vs : List Value} {ns : List Int}, IntsAre vs ns -> Vals (ns.map V.int) vs
 | _, _, .nil => .nil
 | _, _, .cons n t h => .cons ⟨t, rfl⟩ (vals_ints h)
def Only (H : Hp) : Prop := ∀ b, H b = none \/ ∃ o xs, H b = some (.frz o (.lst xs))
def inClass (s : Stmt) (j : Nat) : Stmt := match s with
 | .ClassDef _ _ _ body _ _ _ _ _ _ _ => body.getD j (.Pass ⟨0, 0, 0, 0⟩)
 | _ => .Pass ⟨0, 0, 0, 0⟩
def defArgs (s : Stmt) : Arguments := match s with
 | .FunctionDef _ a _ _ _ _ _ _ _ _ => a
 | _ => { posonlyargs := [], args := [], vararg := none, kwonlyargs := [], kw_defaults := [], kwarg := none, defaults := [] }
def defBody (s : Stmt) : List Stmt := match s with
 | .FunctionDef _ _ b _ _ _ _ _ _ _ => b
 | _ => []
def defScope (s : Stmt) : Scope := match s with
 | .FunctionDef _ _ _ _ _ _ sc _ _ _ => sc
 | _ => { kind := .function, names := [], isGenerator := false, isCoroutine := false }
abbrev CX0 : CXT := fun _ _ _ _ _ _ => False
abbrev E0 : XK := fun _ _ _ => False
theorem pass0 {X : Cx} : Passes CX0 X E0 := fun _ _ _ _ _ _ _ h => h.elim
structure Fun (K : PySem.W.Frag) (x qual : Str) (st : Stmt) (f : Addr) (fd : FuncData) : Prop where
 ex : ∃ (oc : Value) (od : Option Addr) (kV doc pm : Value) (an : Option Addr) (cdv ct : Value) (osl : Array (Option Value)),
  fd = PySem.W.fnOf x qual (defArgs st) (defBody st) (defScope st) .none kV doc pm an cdv ct /\ K.lookup f = some ⟨oc, od, .func fd, osl⟩ /\ PySem.W.codeIn K cdv qual = true
 kp : PySem.W.keepIn K (.ref f) = true
section
variable {P : Program} {w : World} {K : PySem.W.Frag} {mg : Str -> Option Value} {base : Heap}
theorem Fun.ok {x qual : Str} {st : Stmt} {f : Addr} {fd : FuncData} {N ps : List Str} {k : Nat} {sp : Sp} (F : Fun K x qual st f fd) (S : FnScope N ps (defScope st)) (len : ∀ vs H Q E, sp vs H Q E -> vs.length = ps.length)
  (hbody : ∀ (cdv : Value) (A : Around) (outer : List Env) (s : Shared) (H : Hp) (vs : List V) (Q : VK) (E : XK), Room k (A.deeper (envOfC qual (defScope st) s.heap.objs.size f cdv)) -> sp vs H Q E ->
   ∃ t, PSs (cxOf CX0 P w K mg base N qual (defScope st) f cdv A outer s H E).nox (defBody st) t /\ t { nx := fun _ H' => Q .non H', rt := Q } (start N vs) H) : FnOk P w K mg base CX0 (k + 1) f fd ps sp := by
 obtain ⟨oc, od, kV, doc, pm, an, cdv, ct, osl, rfl, lk, hcd⟩ := F.ex;refine fn_of lk hcd S len fun A outer s H vs Q E hr hsp => ?_;obtain ⟨t, h, q⟩ := hbody cdv A outer s H vs Q E hr hsp;exact ⟨t, h.nox, q⟩
theorem Fun.binds {x qual : Str} {st : Stmt} {f : Addr} {fd : FuncData} {ps : List Str} (F : Fun K x qual st f fd)
  (h : ∀ (kV doc pm : Value) (an : Option Addr) (cdv ct : Value) (us : List Value), us.length = ps.length -> bindArgs (PySem.W.fnOf x qual (defArgs st) (defBody st) (defScope st) .none kV doc pm an cdv ct) ⟨us, []⟩ = pure (ps.zip us)) : Binds K fd ps [] := by
 obtain ⟨oc, od, kV, doc, pm, an, cdv, ct, osl, rfl, lk, hcd⟩ := F.ex;exact .all (h kV doc pm an cdv ct)
theorem fun_mk {x qual : Str} {st : Stmt} {f : Addr} {oc : Value} {od an : Option Addr} {osl : Array (Option Value)} {kV doc pm cdv ct : Value} (l : K.lookup f = some ⟨oc, od, .func (PySem.W.fnOf x qual (defArgs st) (defBody st) (defScope st) .none kV doc pm an cdv ct), osl⟩)
  (c : PySem.W.codeIn K cdv qual = true) (k : PySem.W.keepIn K (.ref f) = true) : Fun K x qual st f (PySem.W.fnOf x qual (defArgs st) (defBody st) (defScope st) .none kV doc pm an cdv ct) := ⟨⟨oc, od, kV, doc, pm, an, cdv, ct, osl, rfl, l, c⟩, k⟩
variable {X : Cx}
theorem pv (i : Nat) {x : Str} {pos : Pos} (hN : X.N[i]? = some x := by rfl) (hv : Vis X.env.scope x := by first | exact Or.inl rfl | exact Or.inr (Or.inl rfl) | exact Or.inr (Or.inr rfl)) (hd : (x == ("__debug__" : Str)) = false := by decide)
  (hcd : (x == ("__classdict__" : Str)) = false := by decide) : PE X (.Name x pos) (tVr i) := pe_var hN hv hd hcd
end
theorem ite2 {c A B : Prop} [Decidable c] (h1 : c -> A) (h2 : ¬ c -> B) : if c then A else B := by
 by_cases h : c
 ·rw [if_pos h];exact h1 h
 ·rw [if_neg h];exact h2 h
end L2
set_option maxHeartbeats 4000000
namespace Att
open PySem PySem.W PySem.Calls PyProof.Rows
theorem script_low {R : WRecords} {cl : Str -> Option Addr} {h : Heap} {a : Addr} {ds : List WData} {as : List Addr} (r : ReadsAllW R cl h [.ref a] [.list ds] as) : a ∈ as := by
 cases r with
 | cons r1 r2 =>
  cases r1 with
  | list => simp
theorem attach_callS {l : OpenLaw} {n : Nat} {q : Program} {loose : List Str} {XP : (Str -> Option Value) -> Heap -> Prop} {YP : World -> Heap -> Prop} {d : DefRec}
  (hn : l.most = some n) (hdf : d.params.defaults = [])
  (call : ∀ (w : World) (s₀ s₁ : Shared) (mg mb : Str -> Option Value) (fa : Addr) (o : Obj) (pm cd doc : Value) (a : Addr) (vs : List Value) (ns : List Int),
   Ground q loose [] XP w s₀ mg mb s₁.heap -> YP w s₁.heap ->
   s₁.heap.get? fa = some o -> o.data = .func (docDef d.name d.params d.body d.scope pm cd doc) -> s₁.heap.CodeRec cd d.name -> mg d.name = some (.ref fa) ->
   s₁.heap.get? a = some { cls := .type "list", data := .seq vs.toArray } -> IntsAre vs ns -> ns.length <= n -> s₁.gens = #[] -> a ≠ sysModules ->
   codeAny (model l.prog w) callerA (.call (.ref fa) ⟨[.ref a], []⟩) (fun r s' => r = .ok (.ret (.bool true)) /\ OldK s₁.heap s'.heap /\ s'.os = s₁.os /\ AllBare s'.gens) s₁) :
  WalkO q loose XP YP l.row.toRowW d [] (fun f vs => PySem.call f vs) := by
 intro w s₀ s₁ mg mb G Y fa o pm cd doc dV kV ho hd hcd hD hmg hg args vals as hpre hlay hrd hwl hlo;obtain rfl : dV = .none := Dflts.none hD hdf;obtain rfl : kV = .none := Dflts.noKw hD;obtain ⟨a, vs, ns, rfl, rfl, hobj, hints, hlen⟩ := script_of hn hpre hwl;have low : a ≠ sysModules := beq_eq_false_iff_ne.mp (hlo a (script_low hrd));refine enter_call (codeAny_mono (call w s₀ s₁ mg mb fa o pm cd doc a vs ns G Y ho (fd_plain hd) hcd hmg hobj hints hlen hg low) fun r s' hq => ?_);obtain ⟨rfl, h2, h3, h4⟩ := hq;exact ⟨.inl ⟨.bool true, .bool true, [], rfl, fun _ => rfl, .bool true, post_true l _, fun _ => ⟨List.Pairwise.nil, fun _ hm => (nomatch hm)⟩⟩, h2, h3, h4⟩
end Att
namespace L2
open PySem PySem.Spec PyProof.Rows
theorem law_callS {P : Program} {w : World} {K : PySem.W.Frag} {mg mb : Str -> Option Value} {CX : CXT} {k : Nat} {fa a : Addr} {fd : FuncData} {x : Str} {sp : Sp} {s₁ : Shared} {vs : List Value} {ns : List Int}
  (KX : K.In s₁.heap) (hns : s₁.heap.Ns mainGlobals mg) (hb : s₁.heap.Ns builtinsNs mb) (hbb : ∀ x : Str, x ≠ "__name__" -> mb x = bootBuiltins x) (hlim : s₁.heap.NoLimit) (hg : s₁.gens = #[])
  (ha : s₁.heap.get? a = some { cls := .type "list", data := .seq vs.toArray }) (hi : IntsAre vs ns) (hl : ns.length <= sizeLine) (hr : Room k callerA) (low : a ≠ sysModules)
  (F : ∀ base : Heap, K.In base -> base.Ns mainGlobals mg -> FnOk P w K mg base CX k fa fd [x] sp) (hbind : ∀ (s : Shared) (u : Value), BindsTo s fd ⟨[u], []⟩ [(x, u)])
  (hsp : ∀ H : Hp, Only H -> SqL K H a (ns.map V.int) -> H sysModules = none -> sp [.ref a] H (fun v _ => v = .bl true) fun _ _ _ => False)
  (hCX : ∀ H e s', CX [] H s₁ (fun _ _ _ => False) e s' -> False) :
  codeAny (model P w) callerA (.call (.ref fa) ⟨[.ref a], []⟩) (fun r s' => r = .ok (.ret (.bool true)) /\ OldK s₁.heap s'.heap /\ s'.os = s₁.os /\ AllBare s'.gens) s₁ := by
 have rv := vals_ints hi;have lenV := hi.length;have core : ∀ H : Hp, Only H -> SqL K H a (ns.map V.int) -> HOk P w H s₁.heap -> (∀ b, H b ≠ none -> b = a) -> (H a ≠ none -> K.lookup a = none) ->
   codeAny (model P w) callerA (.call (.ref fa) ⟨[.ref a], []⟩) (fun r s' => r = .ok (.ret (.bool true)) /\ OldK s₁.heap s'.heap /\ s'.os = s₁.os /\ AllBare s'.gens) s₁ := by
  intro H hO hS hok hA hK;have hz : H sysModules = none := by
   cases q : H sysModules with
   | none => rfl
   | some u => exact absurd (hA _ (by rw [q]; simp)).symm low
  have base_of : ∀ {b : Addr} {o : Obj}, s₁.heap.get? b = some o -> H b = none -> (hidT s₁.heap H).get? b = some o := fun e n => hidT_get e n;have noA : ∀ {b : Addr} {o : Obj} {es : Array DictEntry} {ep : Nat}, s₁.heap.get? b = some o -> o.data = .dict es ep -> H b = none := fun {b o es ep} e d => by
   cases q : H b with
   | none => rfl
   | some u =>
    have e' : b = a := hA b (by rw [q]; simp)
    subst e';rw [ha] at e; cases e;have d' : Data.seq vs.toArray _ = Data.dict es ep := d;cases d'
  have nsK : ∀ {b : Addr} {m : Str -> Option Value}, s₁.heap.Ns b m -> (hidT s₁.heap H).Ns b m := fun {b m} ⟨o, es, ep, e, d, r⟩ => ⟨o, es, ep, base_of e (noA e d), d, r⟩;have hKb : K.In (hidT s₁.heap H) := fun b o e => base_of (KX b o e) (by
   cases q : H b with
   | none => rfl
   | some u =>
    have e' : b = a := hA b (by rw [q]; simp)
    subst e';rw [hK (by rw [q]; simp)] at e; cases e)
  have hM : Mod K mg (hidT s₁.heap H) := ⟨hKb, nsK hns, ⟨mb, nsK hb, hbb⟩, let ⟨mc, h1, h2⟩ := hlim; ⟨mc, nsK h1, h2⟩⟩
  have e0 : Env0 P w K mg (hidT s₁.heap H) callerA [] s₁ H := ⟨rfl, hM, fun b o e => of_hidT e, Nat.le_of_eq (hidT_size _ _), trivial, fun b hb => absurd (show b ∈ ([] : List Addr) from hb) (by simp), hok, .of_eq hg⟩
  refine codeAny_mono ((F _ hKb (nsK hns)).run callerA [] s₁ H ⟨[.ref a], []⟩ [.ref a] [.ref a] _ _ hr e0 (hbind s₁ (.ref a)) (.cons rfl .nil) (hsp H hO hS hz)) fun r s' h => ?_;cases r with
  | error e => exact (hCX H e s' h).elim
  | ok fl =>
   cases fl with
   | next => exact False.elim h
   | brk => exact False.elim h
   | cont => exact False.elim h
   | ret u =>
    obtain ⟨v, H', os, bare, un, hok', r', q⟩ := h;have q' : v = .bl true := q;subst q';obtain rfl : u = Value.bool true := r';refine ⟨rfl, OldK.of_keep fun b o e => ?_, os, bare⟩;cases q : H b with
    | none => exact un.keep b o e q (by intro z; exact absurd (show b ∈ ([] : List Addr) from z) (by simp)) (by simp)
    | some u =>
     rcases hO b with z | ⟨ob, xs, z⟩
     ·rw [q] at z; cases z
     ·have z2 := un.frzs b ob _ z;obtain ⟨e1, _⟩ := hok b _ z;obtain ⟨e2, _⟩ := hok' b _ z2;rw [e] at e1; cases e1;exact e2
 cases hk : K.lookup a with
 | some o =>
  have e := KX a o hk;rw [ha] at e;cases e;refine core (fun _ => none) (fun _ => .inl rfl) (.inr ⟨_, vs.toArray, _, hk, rfl, rfl, rfl, by rw [List.size_toArray, lenV]; exact hl, by simpa using rv⟩) (fun b u z => by have z' : (none : Option HO) = some u := z; cases z') (fun b z => absurd rfl z) fun z => absurd rfl z
 | none =>
  refine core (fun b => if b = a then some (.frz { cls := .type "list", data := .seq vs.toArray } (.lst (ns.map V.int))) else none) (fun b => ?_) (.inl (.inr ⟨{ cls := .type "list", data := .seq vs.toArray }, if_pos rfl⟩)) (fun b u z => ?_) (fun b z => ?_) fun _ => hk
  ·by_cases hb : b = a
   ·exact .inr ⟨_, _, if_pos hb⟩
   ·exact .inl (if_neg hb)
  ·by_cases hb : b = a
   ·have z' := (if_pos hb).symm.trans z;cases z';subst hb;exact ⟨ha, by rw [List.length_map]; exact hl, vs, _, rv, ha⟩
   ·have z' := (if_neg hb).symm.trans z;cases z'
  ·by_cases hb : b = a
   ·exact hb
   ·exact absurd (if_neg hb) z
theorem walk_ofS {l : PySem.W.OpenLaw} {n k : Nat} {q : Program} {loose : List Str} {XP : (Str -> Option Value) -> Heap -> Prop} {YP : World -> Heap -> Prop} {d : DefRec} {K : Params -> PySem.W.Frag} {CX : World -> CXT} {sp : World -> Sp} {x : Str}
  (hn : l.most = some n) (hn2 : n <= sizeLine) (hdf : d.params.defaults = []) (hr : Room k callerA)
  (hY : ∀ (w : World) (h : Heap), YP w h -> (K w.params).In h)
  (F : ∀ (w : World) (mg : Str -> Option Value) (fa : Addr) (h : Heap), (K w.params).In h -> h.Ns mainGlobals mg -> mg d.name = some (.ref fa) ->
   ∃ fd : FuncData, (∀ (s : Shared) (u : Value), BindsTo s fd ⟨[u], []⟩ [(x, u)]) /\
    ∀ base : Heap, (K w.params).In base -> base.Ns mainGlobals mg -> FnOk l.prog w (K w.params) mg base (CX w) k fa fd [x] (sp w))
  (hsp : ∀ (w : World) (H : Hp) (a : Addr) (ns : List Int), ns.length <= n -> Only H -> SqL (K w.params) H a (ns.map V.int) -> H sysModules = none -> sp w [.ref a] H (fun v _ => v = .bl true) fun _ _ _ => False)
  (hCX : ∀ (w : World) (H : Hp) (s : Shared) (e : Value) (s' : Shared), CX w [] H s (fun _ _ _ => False) e s' -> False) :
  PySem.W.WalkO q loose XP YP l.row.toRowW d [] (fun f vs => PySem.call f vs) := by
 refine Att.attach_callS hn hdf fun w s₀ s₁ mg mb fa o pm cd doc a vs ns G Y ho hd hcd hmg hobj hints hlen hg low => ?_;have KX := hY w _ Y;obtain ⟨fd, hb, hF⟩ := F w mg fa _ KX G.T.g hmg;exact law_callS KX G.T.g G.T.b G.T.builtins G.T.nolimit hg hobj hints (Nat.le_trans hlen hn2) hr low hF hb (fun H hO hS hz => hsp w H a ns hlen hO hS hz) fun H e s' => hCX w H s₁ e s'
end L2
namespace My
open PySem L2
def top (i : Nat) : Stmt := PySem.Challenge.pw_trialdeal_k08_step_by_step.main.body.getD i (.Pass ⟨0, 0, 0, 0⟩)
end My
namespace My
open PySem
section
variable {prog : Program} {w : World} {A : Around} {h : Heap} {g : Array GenState} {d : Drawn} {tk : Nat} {os : OsState} {C N e t0 : Addr}
variable {nm q : Str} {bs bm bmB : List Value} {hdct ab : Bool} {sn : List Str} {sub : List Value} {col : Option Bool} {dd : Option Addr}
variable {k0 k1 k2 k3 k5 : Option Value} {B newId initId : String}
abbrev excAt (C t : Addr) : Obj := { cls := .ref C, data := .fields #[.ref t, .none, .none, .none, .bool false, .none] }
theorem viCall {R : Result -> Shared -> Prop} {v : Value} (F : ExcBaseFacts B newId initId bmB) (T : OwnTail h bmB bm)
  (hC : h.get? C = some (excClassObj nm q C N bs bm hdct sn sub ab col dd k0 k1 k2 k3 k5 newId)) (he : h.get? e = some (excAt C t0))
  (hR : ∀ h', h'.get? e = some (excAt C h.objs.size) -> (∀ b o, b ≠ e -> h.get? b = some o -> h'.get? b = some o) -> R (.ok (.ret .none)) ⟨h', g, d, tk, os⟩) :
  codeAny (model prog w) A (.call (.builtin initId) ⟨[.ref e, v], []⟩) R ⟨h, g, d, tk, os⟩ := by
 refine codeAny_call_builtin F.init.plain F.initEntry (wpAny_check_init_subT F T hC he rfl ?_)
 wp_walk
 refine hR _ ?_ fun b o hb eb => ?_
 ·exact Heap.get?_update_self _ (Heap.get?_push_of_some _ he) rfl
 ·exact (Heap.get?_update_ne _ _ _ _ hb).trans (Heap.get?_push_of_some _ eb)
end
end My
namespace My
open PySem PySem.W Builtin Builtin.ObjectAttr
section
variable {prog : Program} {w : World} {A : Around} {s : Shared} {K : Frag} {C x : Addr}
theorem osaPass {R : Result -> Shared -> Prop} {ox : Obj} {od : Option Obj} {name : Str} {tk : Tok} {v : Value} {cd : ClassData} (X : K.In s.heap) (I : InstAt s.heap x ox C od)
  (hc : clsIn K C = some cd) (hp : refuseLoop (.ref x) "__setattr__" cd.mro = pure ()) (hm0 : mroIn K C (.type "object") = some true) (ht : takerIn K C name = some none)
  (h : ∀ b, wpAny (model prog w) A.in1 (storeInOwnDict (.ref x) (.ref C) (.str name tk) name v b)
   (fun fin s' => match fin with | .done f => R (.ok f) s' | .again c' => c'.quiet = true /\ codeAny (model prog w) A c' R s') (fun e s' => R (.error e) s') s) :
  codeAny (model prog w) A (.call (.builtin "object.__setattr__") ⟨[.ref x, .str name tk, v], []⟩) R s := by
 have SF := PySem.F.store_object;have sub : Looks (model prog w) s.heap (isInstance (.ref x) (.type "object")) true := I.type.andThen (looks_mroIn X hm0);refine codeAny_call_builtin SF.slot.plain SF.entry (@check_slot (model prog w) _ _ s "object.__setattr__" "object" "__setattr__" (.ref x) [.str name tk, v] [] _ SF.kind SF.split sub (SF.args _ _ _) ?_);obtain ⟨attr, ha, hr⟩ := Option.bind_eq_some_iff.mp ht;have hm : Looks (model prog w) s.heap (mroOf (.ref C)) cd.mro := (looks_clsIn X hc).andThen .now;have L3 : Looks (model prog w) s.heap (storeTaker? attr) none := by
  cases attr with
  | none => exact .now
  | some a =>
   obtain ⟨b, hb, e⟩ := Option.map_eq_some_iff.mp hr;refine (looks_takesIn X hb).andThen ?_;cases b
   ·exact .now
   ·cases e
 rw [osa_eq, refuse_eq];refine wpAny_bind (wpAny_bind (I.type.here (wpAny_bind (hm.here ?_))));rw [hp];refine wpAny_pure (wpAny_bind (I.type.here (wpAny_bind ((looks_findIn X ha).here (wpAny_bind (L3.here ?_))))));exact h _
variable {E : Value -> Shared -> Prop}
theorem setExc {fs : Array Value} {sl : Array (Option Value)} {name : Str} {v : Value} {cd : ClassData} {Q : Unit -> Shared -> Prop} (X : K.In s.heap) (hx : s.heap.get? x = some ⟨.ref C, none, .fields fs, sl⟩)
  (hs : findIn K (.ref C) "__setattr__" = some (some (.builtin "object.__setattr__"))) (hc : clsIn K C = some cd) (hd : cd.hasDict = true)
  (hp : refuseLoop (.ref x) "__setattr__" cd.mro = pure ()) (hm0 : mroIn K C (.type "object") = some true) (ht : takerIn K C name = some none)
  (h : ∀ h' tk, h'.get? x = some ⟨.ref C, some s.heap.objs.size, .fields fs, sl⟩ -> h'.Ns1 s.heap.objs.size (fun y => if y = name then some v else none) ->
   (∀ b o, b ≠ x -> s.heap.get? b = some o -> h'.get? b = some o) -> Q () { s with heap := h', toks := tk }) : wpAny (model prog w) A (setAttr (.ref x) name v) Q E s := by
 have J : InstAt s.heap x ⟨.ref C, none, .fields fs, sl⟩ C none := ⟨hx, rfl, rfl, True.intro⟩;refine set_plain X J hs (osaPass (s := { s with toks := s.toks + 1 }) X J hc hp hm0 ht fun b => ?_)
 refine wpAny_bind (wpAny_pure (wpAny_bind (wpAny_bind (wpAny_loadPart hx (wpAny_bind (Looks.here (s := { s with toks := s.toks + 1 }) (looks_clsIn X hc) ?_))))))
 rw [hd];have hx1 : (s.heap.push { cls := .type "dict", data := .dict #[] }).get? x = some ⟨.ref C, none, .fields fs, sl⟩ := Heap.get?_push_of_some _ hx;have hxs : x ≠ s.heap.objs.size := Nat.ne_of_lt (Heap.lt_size hx);refine wpAny_bind (wpAny_alloc' ?_);refine wpAny_bind (wpAny_update' hx1 ?_);refine wpAny_pure ?_;generalize eU : ((s.heap.push { cls := .type "dict", data := .dict #[] }).update x fun o => { cls := o.cls, dict := some s.heap.objs.size, data := o.data, slots := o.slots } : Heap) = hU;have gd : hU.get? s.heap.objs.size = some { cls := .type "dict", data := .dict #[] } := by
  rw [<- eU];exact (Heap.get?_update_ne _ _ _ _ hxs.symm).trans (Heap.get?_push_at rfl rfl)
 have gx : hU.get? x = some ⟨.ref C, some s.heap.objs.size, .fields fs, sl⟩ := by
  rw [<- eU];exact Heap.get?_update_self _ hx1 rfl
 have nd : hU.Ns s.heap.objs.size (fun _ => none) := ⟨_, #[], _, gd, rfl, fun e he => absurd he (by simp), fun _ => rfl⟩
 show wpAny _ _ (storeInDict s.heap.objs.size (.str name _) name v) _ _ _;unfold storeInDict newKeyGuard;refine wpAny_bind (wpAny_pure (wpAny_bind (wpAny_nsSet1 (Heap.Ns1.of_empty nd) fun h' hn' hsb => ?_)));obtain ⟨oD, esD, epD, hoD, hdD, hcD⟩ := hn'.count (Within.cons name v Within.nil);refine wpAny_bind (wpAny_lookBehind hoD (by
  rw [hdD];exact pastItsLine_dict (Nat.le_trans hcD (by rw [List.length_cons, List.length_nil, sizeLine_eq]; omega))) ?_)
 refine wpAny_pure ?_;refine h h' _ ((hsb.2 x hxs).trans gx) hn' fun b o hb e => ?_;refine (hsb.2 b (Nat.ne_of_lt (Heap.lt_size e))).trans ?_;rw [<- eU];exact (Heap.get?_update_ne _ _ _ _ hb).trans (Heap.get?_push_of_some _ e)
variable {dx : Addr}
abbrev bga : String := "BaseException.__getattribute__"
end
end My
namespace My
open PySem PySem.W
section
variable {prog : Program} {w : World} {A : Around} {E : Value -> Shared -> Prop} {h : Heap} {g : Array GenState}
variable {d : Drawn} {t : Nat} {os : OsState} {nm q : Str} {C N : Addr} {bs bm bmB : List Value} {hdct ab : Bool}
variable {sn : List Str} {sub : List Value} {col : Option Bool} {dd : Option Addr}
variable {k0 k1 k2 k3 k5 : Option Value} {B newId initId : String} {K : Frag}
abbrev tupO (vs : List Value) : Obj := { cls := .type "tuple", data := .seq vs.toArray }
theorem tcallK (X : K.In h) (F : ExcBaseFacts B newId initId bmB) (T : OwnTail h bmB bm) {rest : List Value}
  {fI : Addr} {Q : Fin -> Shared -> Prop}
  (hC : h.get? C = some (excClassObj nm q C N bs bm hdct sn sub ab col dd k0 k1 k2 k3 k5 newId))
  (hi : findIn K (.ref C) "__init__" = some (some (.ref fI))) (hfI : typeIn K (.ref fI) = some (.type "function"))
  (hq : wpAny (model prog w) A (call (.ref fI) (.ref (h.objs.size + 1) :: rest))
   (fun r s' => r = .none /\ Q (.done (.ret (.ref (h.objs.size + 1)))) s') E ⟨(h.push (tupO rest)).push (excAt C h.objs.size), g, d, t, os⟩)
  (hrest : rest.length <= sizeLine) :
  wpAny (model prog w) A (Builtin.«type.__call__» ⟨.ref C :: rest, []⟩) Q E ⟨h, g, d, t, os⟩ := by
 repeat (first
  | with_reducible refine wpAny_loadPart_at hC ?_
  | with_reducible refine wpAny_madeBy_exc hC ?_
  | wp_step)
 refine codeAny_call_builtin_code (Code.quiet_builtin _ F.quiet) (wpAny_check_new_subT F T hC ?_);refine codeAny_exc_new_subT F T hC ?_ hrest;show wpAny _ _ _ _ _ _;have up : ∀ b o, h.get? b = some o -> ((h.push (tupO rest)).push (excAt C h.objs.size)).get? b = some o :=
  fun b o e => Heap.get?_push_of_some _ (Heap.get?_push_of_some _ e)
 have hC1 := up _ _ hC;have X1 : K.In ((h.push (tupO rest)).push (excAt C h.objs.size)) := X.keeps up;have hg1 : ((h.push (tupO rest)).push (excAt C h.objs.size)).get? (h.objs.size + 1) = some (excAt C h.objs.size) := by heap_get
 have hcC : (Value.ref C :: bm).contains (.ref C) = true := by simp
 unfold isInstance
 repeat (first
  | with_reducible refine wpAny_loadPart_at hg1 ?_
  | (with_reducible refine wpAny_isSubtype_exc hC1 ?_; rw [hcC])
  | wp_step)
 show wpAny _ _ (typeLookup (.ref C) _) _ _ _;refine Looks.here (s := ⟨(h.push (tupO rest)).push (excAt C h.objs.size), g, d, t, os⟩) (looks_findIn X1 hi) ?_;refine wpAny_holding (wpAny_bind ?_);unfold bindSpecial;refine wpAny_bind (Looks.here (s := ⟨(h.push (tupO rest)).push (excAt C h.objs.size), g, d, t, os⟩) (looks_typeIn X1 hfI) ?_);rw [if_pos (by decide)]
 refine wpAny_pure (wpAny_bind (wpAny_mono hq (fun r s' hr => ?_) fun _ _ x => x));obtain ⟨rfl, hQ⟩ := hr
 wp_walk
 exact hQ
theorem callK (X : K.In h) (F : ExcBaseFacts B newId initId bmB) (T : OwnTail h bmB bm) {rest : List Value}
  {fI : Addr} {Q : Value -> Shared -> Prop}
  (hC : h.get? C = some (excClassObj nm q C N bs bm hdct sn sub ab col dd k0 k1 k2 k3 k5 newId))
  (hi : findIn K (.ref C) "__init__" = some (some (.ref fI))) (hfI : typeIn K (.ref fI) = some (.type "function"))
  (hq : wpAny (model prog w) (A.under (.builtin "type.__call__" ⟨.ref C :: rest, []⟩))
   (call (.ref fI) (.ref (h.objs.size + 1) :: rest)) (fun r s' => r = .none /\ Q (.ref (h.objs.size + 1)) s') E ⟨(h.push (tupO rest)).push (excAt C h.objs.size), g, d, t, os⟩)
  (hrest : rest.length <= sizeLine) : wpAny (model prog w) A (call (.ref C) rest) Q E ⟨h, g, d, t, os⟩ := by
 have f1 := tc_lookup;have f2 := tc_bind (.ref C);have hT : Shared.TypeIs ⟨h, g, d, t, os⟩ (.ref C) "type" := ⟨_, hC, rfl⟩;refine wpAny_call (codeAny_of_tree ?_);show wpAny _ _ (callAny (.ref C) _) _ _ _
 repeat (any_goals (first
  | assumption
  | with_reducible refine wpAny_loadPart_at hC ?_
  | wp_step))
 refine ⟨rfl, ?_⟩;refine codeAny_call_builtin_at (Code.quiet_builtin _ (by decide +kernel)) entry_typeCall (wpAny_check_type_call_sub hC ?_)
 exact tcallK X F T hC hi hfI hq hrest
variable {s : Shared} {x : Addr} {ox : Obj} {od : Option Obj}
theorem findData {a g : Value} {name : Str} (hc : (clsIn K C).isSome = true) (ha : findIn K (.ref C) name = some (some a)) (hg : specialIn K a "__get__" = some (some g)) (ht : takesIn K a = some true) : findObj K C od name = some (.bind g a) := by
 obtain ⟨cd, hc⟩ := Option.isSome_iff_exists.mp hc;unfold findObj;rw [hc, Option.bind_some, ha, Option.bind_some];simp [hg, ht]
theorem bgaBind {R : Result -> Shared -> Prop} {name : Str} {tk : Tok} {a g : Value} (X : K.In s.heap) (I : InstAt s.heap x ox C od)
  (hm0 : mroIn K C (.type "BaseException") = some true) (hf : findObj K C od name = some (.bind g a))
  (h : wpAny (model prog w) A.in1 (call g [a, .ref x, .ref C]) (fun v s' => R (.ok (.ret v)) s') (fun e s' => R (.error e) s') s) :
  codeAny (model prog w) A (.call (.builtin bga) ⟨[.ref x, .str name tk], []⟩) R s := by
 have sub : Looks (model prog w) s.heap (isInstance (.ref x) (.type "BaseException")) true := I.type.andThen (looks_mroIn X hm0);have L1 := looks_find (M := model prog w) X I hf;refine codeAny_call_builtin PySem.F.excAttr_ValueError.ga.plain PySem.F.entry_bexc_ga (@check_slot (model prog w) _ _ s bga "BaseException" "__getattribute__" (.ref x) [.str name tk] [] _ (by decide +kernel) (by decide +kernel) sub (PySem.F.args_bexc_ga _ _) ?_)
 refine wpAny_bind (wpAny_pure (wpAny_bind (wpAny_pure (wpAny_bind (I.type.here (wpAny_bind (L1.here ?_)))))));show wpAny _ _ (holding [a] (call g [a, .ref x, .ref C]) >>= ret) _ _ _;exact wpAny_bind (wpAny_holding (wpAny_mono h (fun v s' z => wpAny_pure z) fun _ _ z => z))
structure ErrI (K : Frag) (C : Addr) : Prop where
 cls : (clsIn K C).isSome = true
 ga : findIn K (.ref C) "__getattribute__" = some (some (.builtin bga))
 hk : findIn K (.ref C) "__getattr__" = some none
 mb : mroIn K C (.type "BaseException") = some true
 mo : mroIn K C (.type "object") = some true
 ca : findIn K (.ref C) "__class__" = some (some (.builtin "object.__class__"))
theorem errClass {Q : Option Value -> Shared -> Prop} (T : ErrI K C) (hn : specialIn K (.builtin "object.__class__") "__get__" = some (some (.builtin "getset_descriptor.__get__"))) (htk : takesIn K (.builtin "object.__class__") = some true)
  (X : K.In s.heap) (I : InstAt s.heap x ox C od) (h : Q (some (.ref C)) { s with toks := s.toks + 1 }) : wpAny (model prog w) A (getAttr? (.ref x) "__class__") Q E s := by
 have hf : findObj K C od "__class__" = some (.bind (.builtin "getset_descriptor.__get__") (.builtin "object.__class__")) := findData T.cls T.ca hn htk;have L0 := I.type (M := model prog w);have L1 := looks_findIn (M := model prog w) X T.ga;have L2 := looks_findIn (M := model prog w) X T.hk;have f3 := PySem.F.excAttr_ValueError.ga.bind (.ref x);unfold getAttr? getAttrBy? getAttrBy;refine wpAny_bind (wpAny_mkText (wpAny_bind (wpAny_attempt (wpAny_holding (wpAny_bind (Looks.here (s := { s with toks := s.toks + 1 }) L0 (wpAny_bind (Looks.here (s := { s with toks := s.toks + 1 }) L1 ?_))))))))
 have hx1 : (onTheHeap (Value.ref C) && Value.builtin bga == Value.builtin "object.__getattribute__") = false := by
  rw [show (Value.builtin bga == Value.builtin "object.__getattribute__") = false from by decide +kernel]
  rfl
 show wpAny _ _ (if (onTheHeap (Value.ref C) && Value.builtin bga == Value.builtin "object.__getattribute__") = true then _ else _) _ _ _
 rw [if_neg (by rw [hx1]; decide)]
 unfold getAttrByItsOwn;refine wpAny_bind ?_;show wpAny _ _ (typeLookup (.ref C) "__getattr__") _ _ _;refine Looks.here (s := { s with toks := s.toks + 1 }) L2 ?_
 refine wpAny_bind (wpAny_attempt (wpAny_holding ?_));unfold callGetattribute;rw [if_neg (by decide)]
 unfold boundAndCalled;rw [f3];refine wpAny_bind (wpAny_pure ?_);refine wpAny_call (bgaBind (s := { s with toks := s.toks + 1 }) X I T.mb hf ?_)
 refine wpAny_call (class_get (s := { s with toks := s.toks + 1 }) (ox := ox) (od := od) X I T.mo ?_)
 show wpAny _ _ (handedOut (.ref C)) _ _ _;rw [handedOut_of rfl];exact wpAny_pure (wpAny_pure h)
theorem kitErr (T : ErrI K C) (hn : specialIn K (.builtin "object.__class__") "__get__" = some (some (.builtin "getset_descriptor.__get__"))) (htk : takesIn K (.builtin "object.__class__") = some true) :
  KitX K (.ref x) (.ref C) (fun h => ∃ ox od, InstAt h x ox C od) where
 ty := fun _ _ _ ⟨_, _, I⟩ => I.type
 it := fun _ _ X _ => by
  obtain ⟨cdD, hcD⟩ := Option.isSome_iff_exists.mp T.cls;unfold clsIn at hcD;split at hcD
  ·rename_i c' d' cd' sl' ho
   intro A' Q' E' s' k q;unfold isType loadHead;exact wpAny_bind (wpAny_loadPart (k _ _ (X _ _ ho)) (wpAny_pure q))
  ·cases hcD
 ne := fun h tp dd its n sl X htp => by
  obtain ⟨cdD, hcD⟩ := Option.isSome_iff_exists.mp T.cls;refine Bool.eq_false_iff.mpr fun q => ?_;have e : C = tp := Value.ref.inj (beq_iff_eq.mp q);subst e;unfold clsIn at hcD;split at hcD
  ·rename_i c' d' cd' sl' ho
   have z := (X _ _ ho).symm.trans htp;cases z
  ·cases hcD
 ca := fun X ⟨_, _, I⟩ k => errClass T hn htk X I k
end
end My
namespace My
open PySem PySem.W L2
abbrev bmV : List Value := [.type "ValueError", .type "Exception", .type "BaseException", .type "object"]
abbrev errAt (C : Addr) (d : Option Addr) (t : Addr) : Obj := { cls := .ref C, dict := d, data := .fields #[.ref t, .none, .none, .none, .bool false, .none] }
def ErrO (x C : Addr) (d : Option Addr) : HO := .ext fun h => ∃ t, h.get? x = some (errAt C d t)
theorem errO_ok {P : Program} {w : World} {H : Hp} {h : Heap} {x C : Addr} {d : Option Addr} {t : Addr} (e : h.get? x = some (errAt C d t)) : ObjOk P w H h x (ErrO x C d) :=
 ⟨⟨t, e⟩, ⟨_, e⟩, fun _ _ ⟨t', e'⟩ k => ⟨t', k _ e'⟩⟩
theorem errO_at {P : Program} {w : World} {H : Hp} {h : Heap} {x C : Addr} {d : Option Addr} (ok : HOk P w H h) (e : H x = some (ErrO x C d)) : ∃ t, h.get? x = some (errAt C d t) := (ok x _ e).1
theorem upd_id {H : Hp} {a : Addr} {o : HO} (h : H a = some o) : upd H a o = H := by
 funext b
 unfold upd;split
 ·rename_i e; rw [e, h]
 ·rfl
structure BaseC (K : Frag) (D : Addr) : Prop where
 cls : ∃ nm q N bs sn sub ab col dd k0 k1 k2 k3 k5, K.lookup D = some (excClassObj nm q D N bs bmV true sn sub ab col dd k0 k1 k2 k3 k5 "ValueError.__new__") /\
    ∃ o es ep, K.lookup N = some o /\ o.data = .dict es ep /\ StrKeys es /\ nsFind es "__init__" = none
 ga : specialIn K (.ref D) "__getattribute__" = some (some (.builtin "type.__getattribute__"))
 reads : readsIn K D (.type "type") = true
 ini : findCls K (.ref D) (.type "type") "__init__" = some (.val (.builtin "ValueError.__init__"))
 fi : findIn K (.ref D) "__init__" = some (some (.builtin "ValueError.__init__"))
 kp : keepIn K (.ref D) = true
 it : ErrI K D
theorem BaseC.tail {K : Frag} {D : Addr} (B : BaseC K D) {h : Heap} (X : K.In h) : OwnTail h bmV (.ref D :: bmV) := by
 obtain ⟨nm, q, N, bs, sn, sub, ab, col, dd, k0, k1, k2, k3, k5, l, o, es, ep, lN, hd, hs, hn⟩ := B.cls;exact .own (X _ _ l) ⟨o, es, ep, X _ _ lN, hd, hs, fun _ => rfl⟩ hn .base
structure ErrC (K : Frag) (D : Addr) (nm : Str) (C f : Addr) : Prop where
 cls : ∃ q N bs sn sub ab col dd k0 k1 k2 k3 k5, K.lookup C = some (excClassObj nm q C N bs (.ref D :: bmV) true sn sub ab col dd k0 k1 k2 k3 k5 "ValueError.__new__")
 init : findIn K (.ref C) "__init__" = some (some (.ref f))
 fn : typeIn K (.ref f) = some (.type "function")
 kp : keepIn K (.ref C) = true
 sa : findIn K (.ref C) "__setattr__" = some (some (.builtin "object.__setattr__"))
 it : ErrI K C
theorem ErrC.clsIn {K : Frag} {D C f : Addr} {nm : Str} (T : ErrC K D nm C f) : ∃ cd, PySem.W.clsIn K C = some cd /\ cd.hasDict = true /\ cd.mro = .ref C :: .ref D :: bmV := by
 obtain ⟨q, N, bs, sn, sub, ab, col, dd, k0, k1, k2, k3, k5, l⟩ := T.cls;unfold PySem.W.clsIn;rw [l];exact ⟨_, rfl, rfl, rfl⟩
theorem ErrC.refuse {K : Frag} {D C f : Addr} {nm : Str} (T : ErrC K D nm C f) (x : Addr) : ∃ cd, PySem.W.clsIn K C = some cd /\ cd.hasDict = true /\ refuseLoop (.ref x) "__setattr__" cd.mro = pure () := by
 obtain ⟨cd, h1, h2, h3⟩ := T.clsIn;refine ⟨cd, h1, h2, ?_⟩;rw [h3, refuseLoop_ref, refuseLoop_ref];exact PySem.F.store_ValueError.passes _
section
variable {X : Cx} {pins : List (Addr × Obj)} {σ : St} {H : Hp} {s : Shared}
def spErr (C : Addr) (fld : Str) : Sp := fun vs H Q _ => ∃ x v, vs = [.ref x, v] /\ H x = some (ErrO x C none) /\ ∀ dx, H dx = none -> dx ≠ x -> Q .non (upd (upd H dx (.xd [(fld, v)])) x (ErrO x C (some dx)))
def tErr (C : Addr) (fld : Str) (te : TE) : TE := fun σ H Q => te σ H fun v H1 => ∀ x dx, H1 x = none -> H1 dx = none -> dx ≠ x -> Q (.ref x) (upd (upd H1 dx (.xd [(fld, v)])) x (ErrO x C (some dx)))
theorem upd3 {H : Hp} {x dx : Addr} {a b c : HO} (n : dx ≠ x) : upd (upd (upd H x a) dx b) x c = upd (upd H dx b) x c := by
 funext z
 unfold upd;by_cases h1 : z = x
 ·rw [if_pos h1, if_pos h1]
 ·rw [if_neg h1, if_neg h1];by_cases h2 : z = dx
  ·rw [if_pos h2, if_neg h1]
  ·rw [if_neg h2, if_neg h1]
theorem make_err {D C f : Addr} {nm fld : Str} {k : Nat} {fd : FuncData} {ps : List Str} {u : Value} {v : V} {Q : VK} (B : BaseC X.K D) (T : ErrC X.K D nm C f) (F : FnOk X.prog X.w X.K X.mg X.base CX0 k f fd ps (spErr C fld)) (hr : Room (k + 1) X.A) (hb : Binds X.K fd ps [])
  (I : Inv X pins σ H s) (r : RelV v u) (h : ∀ x dx, H x = none -> H dx = none -> dx ≠ x -> Q (.ref x) (upd (upd H dx (.xd [(fld, v)])) x (ErrO x C (some dx)))) :
  wpAny (model X.prog X.w) X.A (call (.ref C) [u]) (EP X pins σ Q) X.xe s := by
 obtain ⟨hp, g, dr, tk, os⟩ := s;obtain ⟨q, N, bs, sn, sub, ab, col, dd, k0, k1, k2, k3, k5, l⟩ := T.cls;refine callK (C := C) I.kIn PySem.F.excBase_ValueError (B.tail I.kIn) (I.kIn _ _ l) T.init T.fn ?_ (by rw [List.length_cons, List.length_nil, sizeLine_eq]; omega)
 have f0 : H hp.objs.size = none := I.fresh;have I1 : Inv X pins σ H ⟨hp.push (tupO [u]), g, dr, tk, os⟩ := I.kept (h' := hp.push (tupO [u])) (t' := tk) fun b o e => Heap.get?_push_of_some _ e;have sz : (hp.push (tupO [u])).objs.size = hp.objs.size + 1 := Heap.size_push _ _;have fx : H (hp.objs.size + 1) = none := by rw [<- sz]; exact I1.fresh
 have I2 : Inv X pins σ (upd H (hp.objs.size + 1) (ErrO (hp.objs.size + 1) C none)) ⟨(hp.push (tupO [u])).push (excAt C hp.objs.size), g, dr, tk, os⟩ :=
  I1.laid (h' := (hp.push (tupO [u])).push (excAt C hp.objs.size)) (t' := tk) (a := hp.objs.size + 1) (fun b o e => Heap.get?_push_of_some _ e) (Nat.le_of_eq sz)
   (errO_ok (t := hp.objs.size) (Heap.get?_push_at sz.symm rfl))
 generalize (⟨(hp.push (tupO [u])).push (excAt C hp.objs.size), g, dr, tk, os⟩ : Shared) = s2 at I2 ⊢;generalize hp.objs.size + 1 = x at fx I2 ⊢;have r2 : Vals [V.ref x, v] [Value.ref x, u] := .cons rfl (.cons r .nil);have hsp : spErr C fld [V.ref x, v] (upd H x (ErrO x C none)) (fun y H2 => y = .non /\ Q (.ref x) H2) E0 :=
  ⟨x, v, rfl, uds, fun dx hd nd => ⟨rfl, by
   rw [upd3 nd];rw [upd_ne nd] at hd;exact h x dx fx hd nd⟩⟩
 have hl : ([Value.ref x, u] ++ [] : List Value).length = ps.length := by
  rw [List.append_nil, <- r2.length];exact F.len _ _ _ _ hsp
 have hbd := hb s2 [Value.ref x, u] I2.kIn hl;rw [List.append_nil] at hbd;refine wpAny_call (codeAny_mono (F.run _ X.stack s2 _ ⟨[Value.ref x, u], []⟩ [Value.ref x, u] _ _ E0 (hr.make C [u] []) (I2.env0.make C [u] []) hbd r2 hsp) fun r s' hq' => ?_);cases r with
 | error e => exact False.elim hq'
 | ok fl =>
  cases fl with
  | ret u' =>
   obtain ⟨y, H', I3, ry, ey, q3⟩ := I2.after hq';subst ey;exact ⟨ry, V.ref x, H', I3, rfl, q3⟩
  | next => exact False.elim hq'
  | brk => exact False.elim hq'
  | cont => exact False.elim hq'
end
def Head (h : Heap) (e : Addr) (vs : Array Value) : Prop := vs[1]? = some .none \/ ∃ T oT ts, vs[1]? = some (.ref T) /\ T ≠ e /\ h.get? T = some oT /\ oT.data = .fields ts /\ ts[3]? = some .none
structure LeftX (fr : List Addr) (e T : Addr) (oe : Obj) (h h' : Heap) (r : Value) : Prop where
 keep : ∀ b o, b ≠ e -> b ∉ fr -> h.get? b = some o -> h'.get? b = some o
 slot : ∀ b o, b ≠ e -> h.get? b = some o -> ∃ sl, h'.get? b = some { o with slots := sl }
 new : h.objs.size <= T
 exc : h'.get? e = some (oe.mapFields (fun x => x.setIfInBounds 1 (.ref T)))
 trc : ∃ oT ts, h'.get? T = some oT /\ oT.data = .fields ts /\ ts[3]? = some r /\ T ≠ e
theorem set_same {vs : Array Value} {i : Nat} {v : Value} (h : vs[i]? = some v) : vs.setIfInBounds i v = vs := by
 obtain ⟨hi, e⟩ := Array.getElem?_eq_some_iff.mp h;apply Array.ext
 ·simp
 ·intro j h1 h2;simp only [Array.size_setIfInBounds] at h1;rw [Array.getElem_setIfInBounds h1];split
  ·rename_i z; subst z; exact e.symm
  ·rfl
theorem mapF {o : Obj} {vs : Array Value} (hd : o.data = .fields vs) (f : Array Value -> Array Value) : o.mapFields f = { o with data := .fields (f vs) } := by
 obtain ⟨c, d, dt, sl⟩ := o;have e : dt = .fields vs := hd;subst e;rfl
theorem wp_newFields {M : Model} {A : Around} {E : Value -> Shared -> Prop} {s : Shared} {c : String} {vs : List Value} {Q : Value -> Shared -> Prop} (hl : vs.length <= sizeLine + 2)
  (q : Q (.ref s.heap.objs.size) { s with heap := s.heap.push { cls := .type c, data := .fields vs.toArray } }) : wpAny M A (newFields c vs) Q E s := by
 unfold newFields newObj;refine wpAny_ite_false (decide_eq_false (by rw [List.size_toArray]; omega)) ?_
 unfold newObjAsIs;exact wpAny_bind (wpAny_alloc (wpAny_pure q))
theorem place_len {pl : List Value} (h : IsPlace pl) : pl.length <= 6 := by
 rcases h with rfl | ⟨a, b, c, d, c9, b10, _, rfl⟩
 ·decide
 ·exact Nat.le_refl _
section
variable {M : Model} {A : Around} {E : Value -> Shared -> Prop} {s : Shared} {base : Heap} {env : Env} {outer : List Env} {L e : Addr} {oe : Obj} {vs : Array Value} {Q : Unit -> Shared -> Prop}
theorem note_jp {head : Value} {hn : Bool} (hA : A.frames = some (env :: outer)) (hF : s.heap.FunFrames base (env :: outer)) (hL : env.frame = some L) (he : s.heap.get? e = some oe) (hd : oe.data = .fields vs) (h1 : 1 < vs.size)
  (q : ∀ h' T, LeftX (frs (env :: outer)) e T oe s.heap h' (rawInt ↑L) -> Q () { s with heap := h' }) :
  wpAny M A (do
   let a <- frameOf env
   let pl <- entryPlaceOf L hn
   let b <- EntryCells.newEntry head a .none (rawInt ↑L) .none pl
   setField (.ref e) 1 b) Q E s := by
 have nfr : e ∉ frs (env :: outer) := fun z => by
  obtain ⟨_, o, ho, hn⟩ := hF.mem z;rw [he] at ho; cases ho;exact hn vs hd
 refine wpAny_bind (wpAny_frameOf_fun hA hF hL fun h1' so => ?_);refine wpAny_bind (wpAny_entryPlaceOf fun pl hpl => ?_);refine wpAny_bind ?_;unfold EntryCells.newEntry;refine wp_newFields ?_ ?_
 ·have := place_len hpl;have b : 100 <= sizeLine := by decide
  rw [List.length_append];split
  ·rw [List.length_replicate]; show 5 + 6 <= _; omega
  ·show 5 + pl.length <= _; omega
 have e1 : h1'.get? e = some oe := by rw [so.2.1 e nfr]; exact he
 have lt := Heap.lt_size e1;generalize hob : ({ cls := .type "traceback", data := .fields ([head, Value.ref L, .none, rawInt ↑L, .none] ++ if pl.isEmpty = true then List.replicate 6 Value.none else pl).toArray } : Obj) = ob
 have e2 : (h1'.push ob).get? e = some oe := Heap.get?_push_of_some _ e1;refine wpAny_setField e2 hd h1 ?_;refine q _ h1'.objs.size ⟨fun b o nb nf hb => ?_, fun b o nb hb => ?_, Nat.le_of_eq so.1.symm, ?_, ?_⟩
 ·rw [Heap.get?_update_ne _ _ _ _ nb];exact Heap.get?_push_of_some _ (by rw [so.2.1 b nf]; exact hb)
 ·obtain ⟨sl, z⟩ := so.2.2 b o hb;exact ⟨sl, by rw [Heap.get?_update_ne _ _ _ _ nb]; exact Heap.get?_push_of_some _ z⟩
 ·exact Heap.get?_update_self _ e2 (by rw [mapF hd]; rfl)
 ·have nT : h1'.objs.size ≠ e := Ne.symm (Nat.ne_of_lt lt);refine ⟨ob, _, ?_, by rw [<- hob], ?_, nT⟩
  ·rw [Heap.get?_update_ne _ _ _ _ nT];exact Heap.get?_push_at rfl (by rw [<- hob]; rfl)
  ·rfl
theorem note_exact (hA : A.frames = some (env :: outer)) (hF : s.heap.FunFrames base (env :: outer)) (hL : env.frame = some L) (he : s.heap.get? e = some oe) (hd : oe.data = .fields vs) (hv : Head s.heap e vs)
  (q : ∀ h' T, LeftX (frs (env :: outer)) e T oe s.heap h' (rawInt ↑L) -> Q () { s with heap := h' }) : wpAny M A (noteFrame (.ref e) env) Q E s := by
 unfold noteFrame;rw [hL];rcases hv with hv | ⟨T, oT, ts, hv, nT, hT, hTd, h3⟩
 ·have h1 : 1 < vs.size := (Array.getElem?_eq_some_iff.mp hv).1;refine wpAny_bind (wpAny_field he hd hv ?_);refine wpAny_ite_false rfl ?_;exact note_jp hA hF hL he hd h1 q
 ·have h1 : 1 < vs.size := (Array.getElem?_eq_some_iff.mp hv).1;have h3' : 3 < ts.size := (Array.getElem?_eq_some_iff.mp h3).1;refine wpAny_bind (wpAny_field he hd hv ?_);refine wpAny_ite_true rfl ?_;refine wpAny_bind (wpAny_field hT hTd h3 ?_);refine wpAny_ite_false rfl ?_;refine wpAny_bind (wpAny_setField hT hTd h3' ?_);have g : ∀ b, (s.heap.update T (Obj.mapFields fun x => x.setIfInBounds 3 Value.none)).get? b = s.heap.get? b := fun b => by
   by_cases z : b = T
   ·subst z;rw [Heap.get?_update_self _ hT (by rw [mapF hTd]; rfl), hT, mapF hTd, set_same h3, <- hTd]
   ·exact Heap.get?_update_ne _ _ _ _ z
  have sz : (s.heap.update T (Obj.mapFields fun x => x.setIfInBounds 3 Value.none)).objs.size = s.heap.objs.size := Heap.size_update _ _ _;generalize s.heap.update T (Obj.mapFields fun x => x.setIfInBounds 3 Value.none) = h0 at g sz;have hF0 : h0.FunFrames base (env :: outer) := Heap.FunFrames.of_keeps (fun b o hb _ => ⟨o, by rw [g]; exact hb, rfl⟩) hF
  refine note_jp (s := { s with heap := h0 }) hA hF0 hL (by show h0.get? e = _; rw [g]; exact he) hd h1 fun h' T' x => ?_
  exact q h' T' ⟨fun b o nb nf hb => x.keep b o nb nf (by show h0.get? b = _; rw [g]; exact hb), fun b o nb hb => x.slot b o nb (by show h0.get? b = _; rw [g]; exact hb), by rw [<- sz]; exact x.new, x.exc, x.trc⟩
theorem LeftX.flight {fr : List Addr} {T : Addr} {h h' : Heap} {r : Value} (x : LeftX fr e T oe h h' r) (hd : oe.data = .fields vs) (h1 : 1 < vs.size) (s' : Shared) (es : s'.heap = h')
  (q : ∀ h2, LeftX fr e T oe h h2 .none -> Q () { s' with heap := h2 }) : wpAny M A (setFlight (.ref e) none) Q E s' := by
 subst es;obtain ⟨oT, ts, hT, hTd, h3, nT⟩ := x.trc;have h3' : 3 < ts.size := (Array.getElem?_eq_some_iff.mp h3).1;have e1 : (oe.mapFields (fun x => x.setIfInBounds 1 (.ref T))).data = .fields (vs.setIfInBounds 1 (.ref T)) := Obj.data_mapFields hd _;have e2 : (vs.setIfInBounds 1 (Value.ref T))[1]? = some (.ref T) := by simp [h1]
 refine wpAny_setFlight_none x.exc e1 e2 hT hTd h3' (q _ ⟨fun b o nb nf hb => ?_, fun b o nb hb => ?_, x.new, ?_, ?_⟩)
 ·have z := x.keep b o nb nf hb;rw [Heap.get?_update_ne _ _ _ _ (fun w => ?_)]
  ·exact z
  ·rw [w] at hb;exact absurd (Nat.lt_of_lt_of_le (Heap.lt_size hb) x.new) (Nat.lt_irrefl _)
 ·obtain ⟨sl, z⟩ := x.slot b o nb hb;refine ⟨sl, ?_⟩;rw [Heap.get?_update_ne _ _ _ _ (fun w => ?_)]
  ·exact z
  ·rw [w] at hb;exact absurd (Nat.lt_of_lt_of_le (Heap.lt_size hb) x.new) (Nat.lt_irrefl _)
 ·rw [Heap.get?_update_ne _ _ _ _ nT.symm];exact x.exc
 ·refine ⟨_, _, Heap.get?_update_self _ hT (by rw [mapF hTd]; rfl), Obj.data_mapFields hTd _, ?_, nT⟩
  simp [h3']
theorem leave_exact (hA : A.frames = some (env :: outer)) (hF : s.heap.FunFrames base (env :: outer)) (hL : env.frame = some L) (he : s.heap.get? e = some oe) (hd : oe.data = .fields vs) (hv : Head s.heap e vs)
  (q : ∀ h' T, LeftX (frs (env :: outer)) e T oe s.heap h' .none -> Q () { s with heap := h' }) : wpAny M A (leaving env (.ref e)) Q E s := by
 have h1 : 1 < vs.size := by
  rcases hv with hv | ⟨T, oT, ts, hv, _⟩
  ·exact (Array.getElem?_eq_some_iff.mp hv).1
  ·exact (Array.getElem?_eq_some_iff.mp hv).1
 unfold leaving;exact wpAny_bind (note_exact hA hF hL he hd hv fun h' T x => x.flight hd h1 _ rfl fun h2 x2 => q h2 T x2)
end
def one (P : V -> Hp -> Prop) (vs : List V) (H : Hp) : Prop := match vs with
 | [v] => P v H
 | _ => False
theorem one_of {P : V -> Hp -> Prop} {vs : List V} {H : Hp} (h : one P vs H) : ∃ v, vs = [v] /\ P v H := by
 cases vs with
 | nil => exact h.elim
 | cons v r =>
  cases r with
  | nil => exact ⟨v, rfl, h⟩
  | cons _ _ => exact h.elim
def two (P : V -> V -> Hp -> Prop) (vs : List V) (H : Hp) : Prop := match vs with
 | [v, u] => P v u H
 | _ => False
theorem two_of {P : V -> V -> Hp -> Prop} {vs : List V} {H : Hp} (h : two P vs H) : ∃ v u, vs = [v, u] /\ P v u H := by
 match vs, h with
 | [v, u], h => exact ⟨v, u, rfl, h⟩
section
variable {X : Cx} {pins : List (Addr × Obj)} {σ : St} {H : Hp} {s : Shared}
theorem pe_err {D C f : Addr} {nm fld x : Str} {k : Nat} {fd : FuncData} {ps : List Str} {e : Expr} {te : TE} {p pos : Pos} (B : BaseC X.K D) (T : ErrC X.K D nm C f) (F : FnOk X.prog X.w X.K X.mg X.base CX0 k f fd ps (spErr C fld)) (hr : Room (k + 1) X.A) (hb : Binds X.K fd ps [])
  (hg : Gl X x) (hm : X.mg x = some (.ref C)) (ha : PE X e te) (hdb : (x == ("__debug__" : Str)) = false := by decide) (he : starEach [e] X.env = (false, eval e X.env) :: starEach [] X.env := by rfl) (hpl : (backTo pos (starEach [] X.env)).any (·.1) = false := by rfl) :
  PE X (.Call (.Name x p) [e] [] pos) (tErr C fld te) := by
 intro pins s σ H Q I h;refine wpAny_Call_Name_kw (ld_glob I hg hm ?_ hdb);have pa : PA X [e] (tCn te tNl) := pac ha pan he;have h' : tCn te tNl σ H (one fun v H1 => ∀ x dx, H1 x = none -> H1 dx = none -> dx ≠ x -> Q (.ref x) (upd (upd H1 dx (.xd [(fld, v)])) x (ErrO x C (some dx)))) := h;refine PySem.W.callWith_K (h₀ := X.base) I.ok.mod.kin T.kp (thn (pa pos pins s σ H _ I h') fun us s1 ⟨vs, H1, I1, r, q⟩ => ⟨I1.kIn, ?_⟩) he hpl;obtain ⟨v, rfl, q⟩ := one_of q;obtain ⟨u, rfl, ru⟩ := vals1 r;exact make_err B T F hr hb I1 ru q
def tBI (ts tt : TE) (C : Addr) : TE := fun σ H Q => ts σ H fun x H1 => tt σ H1 fun v H2 => ∃ a, x = .ref a /\ H2 a = some (ErrO a C none) /\ Q .non H2
theorem pe_baseInit {D C f : Addr} {nm x : Str} {o e : Expr} {ts tt : TE} {p apos pos : Pos} {pl : Sem Bool} (B : BaseC X.K D) (T : ErrC X.K D nm C f) (hg : Gl X x) (hm : X.mg x = some (.ref D)) (hs : PE X o ts) (ht : PE X e tt) (hdb : (x == ("__debug__" : Str)) = false := by decide)
  (hst : starEach [o, e] X.env = (false, eval o X.env) :: starEach [e] X.env := by rfl) (hst2 : starEach [e] X.env = (false, eval e X.env) :: starEach [] X.env := by rfl) (hpl : (backTo pos (starEach [e] X.env)).any (·.1) = false := by rfl)
  (htr : eval (.Call (.Attribute (.Name x p) "__init__" apos) [o, e] [] pos) X.env = (do
   let ov <- eval (.Name x p) X.env
   standAt apos.atName
   let (f, first) <- holding [ov] (getMethod ov "__init__" pl)
   callWith pos f first (backTo pos (starEach [o, e] X.env)) (backToKw pos (keywordEach [] X.env))) := by rfl) :
  PE X (.Call (.Attribute (.Name x p) "__init__" apos) [o, e] [] pos) (tBI ts tt C) := by
 intro pins s σ H Q I h;refine PySem.W.methodCall_KW (pl := pl) (ld_glob I hg hm ?_ hdb) htr;refine method_cls I.kIn B.ga (cls_value I.kIn B.reads B.ini rfl ?_);have I0 : Inv X pins σ H { s with toks := s.toks + 1 } := I.tok _
 have pa : PA X [o, e] (tCn ts (tCn tt tNl)) := pac hs (pac ht pan hst2) hst;have h' : tCn ts (tCn tt tNl) σ H (two fun x v H2 => ∃ a, x = .ref a /\ H2 a = some (ErrO a C none) /\ Q .non H2) := h;refine PyProof.Rows.callWith_builtin1 (thn (pa pos pins _ σ H _ I0 h') fun us s1 ⟨vs, H1, I1, r, q⟩ => ?_) hst hpl;obtain ⟨_, v, rfl, a, rfl, ha, q⟩ := two_of q;obtain ⟨u, u', rfl, ru, ru'⟩ := vals2 r;cases (show u = Value.ref a from ru);obtain ⟨t0, hx⟩ := errO_at I1.hok ha;obtain ⟨q', N, bs, sn, sub, ab, col, dd, k0, k1, k2, k3, k5, l⟩ := T.cls;obtain ⟨hp, g, dr, tk, os⟩ := s1;refine wpAny_call (viCall (C := C) PySem.F.excBase_ValueError (B.tail I1.kIn) (I1.kIn _ _ l) hx fun h' hx' hk => ?_);have I2 : Inv X pins σ (upd H1 a (ErrO a C none)) ⟨h', g, dr, tk, os⟩ := I1.write (h' := h') (t' := tk) (x := a) (e := a) (by rw [ha]; exact True.intro) (.inl rfl) (fun b o hb e => hk b o hb e) ⟨_, hx'⟩ (errO_ok hx')
 rw [upd_id ha] at I2;exact ⟨.non, H1, I2, rfl, q⟩
def sErr (K : Frag) (C : Addr) (ta tv : TE) (f : Str) : TS := fun D σ H => tv σ H fun y H1 => ta σ H1 fun x H2 => ∃ a, x = .ref a /\ H2 a = some (ErrO a C none) /\ takerIn K C f = some none /\ ∀ dx, H2 dx = none -> dx ≠ a -> D.nx σ (upd (upd H2 dx (.xd [(f, y)])) a (ErrO a C (some dx)))
theorem ps_err {D C fI : Addr} {nm f : Str} {o value : Expr} {ta tv : TE} {pos pos' : Pos} (T : ErrC X.K D nm C fI) (ha : PE X o ta) (hv : PE X value tv) (hs : swapsWith value (some (.Attribute o f pos')) pos.line X.env = pure false) :
  PS X (.Assign [.Attribute o f pos'] value pos) (sErr X.K C ta tv f) := by
 intro pins s σ H D' I h;refine plainObj_wpAny_Assign_Attribute (thn (hv pins s σ H _ I h) fun u s1 ⟨y, H1, I1, ry, q⟩ => thn (ha pins s1 σ H1 _ I1 q) fun ov s2 ⟨x, H2, I2, rx, a, ex, ea, tk, q2⟩ => ?_) hs;subst ex;obtain rfl : ov = Value.ref a := rx;obtain ⟨t0, hx⟩ := errO_at I2.hok ea;obtain ⟨cd, hc, hd, hp⟩ := T.refuse a;refine setExc I2.kIn hx T.sa hc hd hp T.it.mo tk fun h' tk' hx' hn' hk => ?_;have fr : H2 s2.heap.objs.size = none := I2.fresh;have nz : s2.heap.objs.size ≠ a := fun z => by rw [<- z, fr] at ea; cases ea
 obtain ⟨oD, es, ep, hoD, rD⟩ := id hn';have nf : oD.isFreed = false := Obj.isFreed_of_dict rD.1;have I3 : Inv X pins σ (upd H2 s2.heap.objs.size (.xd [(f, y)])) { s2 with heap := s2.heap.push oD, toks := s2.toks } := by
  refine I2.laid (h' := s2.heap.push oD) (t' := s2.toks) (a := s2.heap.objs.size) (fun b o e => Heap.get?_push_of_some _ e) (Nat.le_refl _) ⟨_, ⟨oD, es, ep, Heap.get?_push_at rfl nf, rD⟩, fun g => ?_⟩;by_cases e : g = f
  ·subst e;rw [if_pos rfl, List.lookup_cons_self];exact ry
  ·rw [if_neg e, List.lookup_cons, beq_eq_false_iff_ne.mpr e];exact True.intro
 have ea3 : upd H2 s2.heap.objs.size (.xd [(f, y)]) a = some (ErrO a C none) := by rw [upd_ne nz.symm]; exact ea
 have I4 : Inv X pins σ (upd (upd H2 s2.heap.objs.size (.xd [(f, y)])) a (ErrO a C (some s2.heap.objs.size))) { s2 with heap := h', toks := tk' } := by
  refine I3.write (h' := h') (t' := tk') (x := a) (e := a) (by rw [ea3]; exact True.intro) (.inl rfl) (fun b o hb e => ?_) ⟨_, hx'⟩ (errO_ok (t := t0) hx')
  by_cases z : b = s2.heap.objs.size
  ·subst z;have e' : (s2.heap.push oD).get? s2.heap.objs.size = some o := e;rw [Heap.get?_push_at rfl nf] at e';cases e';exact hoD
  ·have e' : (s2.heap.push oD).get? b = some o := e;exact hk b o hb (by rw [<- Heap.get?_push_ne _ _ oD z]; exact e')
 exact ⟨σ, _, I4, q2 _ fr nz⟩
theorem err_inst {P : Program} {w : World} {H : Hp} {h : Heap} {a C dx : Addr} {fs : List (Str × V)} (ok : HOk P w H h) (ea : H a = some (ErrO a C (some dx))) (ed : H dx = some (.xd fs)) :
  ∃ (ox od : Obj), InstAt h a ox C (some od) /\ ∃ mA : Str -> Option Value, (∀ f, RelO (fs.lookup f) (mA f)) /\ ∀ name, lookIn name od = some (mA name) := by
 obtain ⟨t, hx⟩ := errO_at ok ea;obtain ⟨mA, hn, hr⟩ := (show ObjOk P w H h dx (.xd fs) from ok dx _ ed);obtain ⟨od, hod, hl⟩ := lookIn_ns hn;exact ⟨_, od, ⟨hx, rfl, rfl, hod⟩, mA, hr, hl⟩
structure IsT (K : Frag) : Prop where
 gt : specialIn K (.builtin "object.__class__") "__get__" = some (some (.builtin "getset_descriptor.__get__"))
 tk : takesIn K (.builtin "object.__class__") = some true
def ErrAt (H : Hp) (a C : Addr) : Prop := H a = some (ErrO a C none) \/ ∃ dx fs, H a = some (ErrO a C (some dx)) /\ H dx = some (.xd fs)
theorem ErrAt.inst {P : Program} {w : World} {H : Hp} {h : Heap} {a C : Addr} (E : ErrAt H a C) (ok : HOk P w H h) : ∃ ox od, InstAt h a ox C od := by
 rcases E with e | ⟨dx, fs, ea, ed⟩
 ·obtain ⟨t, hx⟩ := errO_at ok e;exact ⟨_, none, ⟨hx, rfl, rfl, True.intro⟩⟩
 ·obtain ⟨ox, od, J, _⟩ := err_inst ok ea ed;exact ⟨ox, some od, J⟩
end
end My
namespace My
open PySem PySem.W L2
open PyProof.Rows (AllBare)
abbrev errW (C : Addr) (d : Option Addr) (t : Addr) (v : Value) : Obj := { cls := .ref C, dict := d, data := .fields #[.ref t, v, .none, .none, .bool false, .none] }
def ErrT (x C : Addr) (d : Option Addr) : HO := .ext fun h => ∃ t v, h.get? x = some (errW C d t v)
theorem errT_ok {P : Program} {w : World} {H : Hp} {h : Heap} {x C : Addr} {d : Option Addr} {t : Addr} {v : Value} (e : h.get? x = some (errW C d t v)) : ObjOk P w H h x (ErrT x C d) :=
 ⟨⟨t, v, e⟩, ⟨_, e⟩, fun _ _ ⟨t', v', e'⟩ k => ⟨t', v', k _ e'⟩⟩
def Fly (n : Nat) (H : Hp) (h : Heap) (x C : Addr) (d : Option Addr) : Prop := ∃ t T oT ts, h.get? x = some (errW C d t (.ref T)) /\ T ≠ x /\ n <= T /\ H T = none /\ h.get? T = some oT /\ oT.data = .fields ts /\ ts[3]? = some Value.none
def CXE (P : Program) (w : World) : CXT := fun outer H s E e s' => ∃ x C dx fs H', e = .ref x /\ s'.os = s.os /\ AllBare s'.gens /\ Un (frs outer) [] H H' s.heap s'.heap /\ HOk P w H' s'.heap /\ H' x = some (ErrT x C (some dx)) /\ H' dx = some (.xd fs) /\ Fly s.heap.objs.size H' s'.heap x C (some dx) /\ E (.ref C) (some x) H'
section
variable {X : Cx} {pins : List (Addr × Obj)} {σ : St} {H : Hp} {s : Shared}
theorem Inv.left {x C : Addr} {d : Option Addr} {t T : Addr} {v r : Value} {h' : Heap} {o : HO} (I : Inv X pins σ H s) (hS : X.stack = X.env :: X.outer) (hx : H x = some o) (ho : (∃ φ, o = .ext φ)) (he : s.heap.get? x = some (errW C d t v))
  (l : LeftX (frs (X.env :: X.outer)) x T (errW C d t v) s.heap h' r) : Inv X pins σ (upd H x (ErrT x C d)) { s with heap := h' } := by
 obtain ⟨φ, rfl⟩ := ho;have nx : ∀ b u, H b = some u -> (∀ φ, u ≠ .ext φ) -> b ≠ x := fun b u e n z => by
  subst z;rw [hx] at e;exact n φ (Option.some.inj e).symm
 have fr0 : ∀ b ∈ frs (X.env :: X.outer), H b = none := fun b hb => I.stkFree b (by rw [hS]; exact hb)
 have nfr : ∀ b u, H b = some u -> b ∉ frs (X.env :: X.outer) := fun b u e z => by rw [fr0 b z] at e; cases e
 have exc : h'.get? x = some (errW C d t (.ref T)) := l.exc;have sub : ∀ b, b ∈ frs (X.env :: X.outer) -> b = X.env.locals \/ b ∈ X.fs := fun b hb => List.mem_cons.mp (I.stkSub b (by rw [hS]; exact hb))
 refine I.step (g' := s.gens) (d' := s.drawn) (t' := s.toks) (ch := []) (fun _ z => nomatch z) (fun b o hL hf _ e n => ?_) (fun b o hL hf _ e n => ?_) (fun b o _ e n => ?_) (fun b o _ e => ?_) (fun b xs e => ?_) (fun b o u e => ?_) (fun b ps e => ⟨#[], ?_⟩) (fun e => ?_) (fun m hm => ?_) (fun b u e => ?_) I.bare
 ·refine l.keep b o (fun z => by rw [z, hx] at n; cases n) (fun z => ?_) e
  rcases sub b z with q | q
  ·exact hL q
  ·exact hf q
 ·exact l.slot b o (fun z => by rw [z, hx] at n; cases n) e
 ·rw [upd_ne (fun z => by rw [z, hx] at n; cases n)]; exact n
 ·by_cases z : b = x
  ·subst z; exact ⟨_, exc⟩
  ·obtain ⟨sl, q⟩ := l.slot b o z e;exact ⟨_, q⟩
 ·rw [upd_ne (nx b _ e fun _ => by intro z; cases z)]; exact e
 ·rw [upd_ne (nx b _ e fun _ => by intro z; cases z)]; exact e
 ·rw [upd_ne (nx b _ e fun _ => by intro z; cases z), e]; simp
 ·rw [upd_ne (fun z => by rw [z, hx] at e; cases e)]; exact e
 ·obtain ⟨o, es, ep, ho, r⟩ := hm;obtain ⟨sl, q⟩ := l.slot _ o (fun z => by have := I.free; rw [z, hx] at this; cases this) ho
  exact ⟨_, es, ep, q, r⟩
 ·by_cases z : b = x
  ·subst z;rw [uds] at e;cases e;exact errT_ok exc
  ·rw [upd_ne z] at e;refine (I.hok b u e).stay (fun c o' hc q => ?_) (fun c q => ?_) fun c xs q => ?_
   ·rcases hc with rfl | hc
    ·exact l.keep c o' z (nfr c u e) q
    ·exact l.keep c o' (nx c _ hc fun _ => by intro w; cases w) (nfr c _ hc) q
   ·rw [upd_ne (nx c _ q fun _ => by intro w; cases w)]; exact q
   ·rw [upd_ne (nx c _ q fun _ => by intro w; cases w)]; exact q
variable {P : Program} {w : World} {K : Frag} {mg : Str -> Option Value} {base : Heap} {N : List Str} {qual : Str} {scope : Scope} {f : Addr} {cd : Value} {A : Around} {outer : List Env} {s0 : Shared} {H0 : Hp} {E : XK}
theorem xe_of {x C dx : Addr} {t : Addr} {v : Value} {o : HO} {fs : List (Str × V)} (I : Inv (cxOf (CXE P w) P w K mg base N qual scope f cd A outer s0 H0 E) pins σ H s) (hx : H x = some o) (ho : (∃ φ, o = .ext φ)) (hdx : H dx = some (.xd fs)) (he : s.heap.get? x = some (errW C (some dx) t v))
  (hv : Head s.heap x #[.ref t, v, .none, .none, .bool false, .none]) (q : E (.ref C) (some x) (upd H x (ErrT x C (some dx)))) : (cxOf (CXE P w) P w K mg base N qual scope f cd A outer s0 H0 E).xe (.ref x) s := by
 have hA := I.ok.frames;refine leave_exact hA I.stack rfl he rfl hv fun h' T l => ?_;have J := Inv.left I rfl hx ho he l;have nT : H T = none := I.hok.fresh l.new;obtain ⟨oT, ts, h1, h2, h3, h4⟩ := l.trc;have nd : dx ≠ x := fun z => by
  obtain ⟨φ, rfl⟩ := ho;rw [z, hx] at hdx; cases hdx
 refine ⟨x, C, dx, fs, _, rfl, J.os, J.bare, J.base, J.hok, uds, by rw [upd_ne nd]; exact hdx, ⟨t, T, oT, ts, l.exc, h4, Nat.le_trans I.sz l.new, ?_, h1, h2, h3⟩, q⟩
 rw [upd_ne h4]; exact nT
theorem passE : Passes (CXE P w) (cxOf (CXE P w) P w K mg base N qual scope f cd A outer s0 H0 E) E := by
 intro pins σ H s e s' I h;obtain ⟨x, C, dx, fs, H', rfl, os, bare, un, hok, hx, hdx, ⟨t, T, oT, ts, h1, h2, _, h4, h5, h6, h7⟩, q⟩ := h;have J := I.call' os un hok bare (fun b z => absurd z (by simp))
 refine xe_of J hx ⟨_, rfl⟩ hdx h1 (.inr ⟨T, oT, ts, rfl, h2, h5, h6, h7⟩) ?_;rw [upd_id hx];exact q
end
end My
namespace My
open PySem PySem.W L2
open PyProof.Rows (AllBare)
section
variable {prog : Program} {w : World} {A : Around} {E : Value -> Shared -> Prop} {s : Shared} {env : Env} {x : Sem Value} {Q : Flow -> Shared -> Prop} {K : Frag} {C : Addr}
theorem wp_raise (T : ErrI K C) (ht : typeIn K (.ref C) = some (.type "type")) (hA : A.handled = none)
  (hx : wpAny (model prog w) A x (fun v s1 => ∃ e t d od, v = .ref e /\ InstAt s1.heap e (errAt C d t) C od /\ K.In s1.heap /\ E (.ref e) s1) E s) : wpAny (model prog w) A (raiseStmt env (some x) none) Q E s := by
 unfold raiseStmt;refine wpAny_bind (wpAny_mono hx (fun v s1 h => ?_) (fun _ _ z => z));obtain ⟨e, t, d, od, rfl, I, KX, q⟩ := h;obtain ⟨hp, g, dr, tk, os⟩ := s1;have noC : ∀ c : ClassData, (errAt C d t).data ≠ Data.cls c := fun c z => by cases z
 refine wpAny_bind (wpAny_pure ?_);refine wpAny_bind ?_;show wpAny _ _ (excFromValue (.ref e) _) _ _ _;unfold excFromValue;refine wpAny_bind ?_;unfold isExcClass;refine wpAny_bind (ks_wpAny_isType_inst I.at_ noC ?_);refine wpAny_ite_false rfl (wpAny_pure ?_);refine wpAny_ite_false rfl ?_;refine wpAny_bind ?_;have sub : Looks (model prog w) hp (isInstance (.ref e) (.type "BaseException")) true := I.type.andThen (looks_mroIn KX T.mb);refine Looks.here (s := ⟨hp, g, dr, tk, os⟩) sub ?_;refine wpAny_ite_true rfl (wpAny_pure ?_);refine wpAny_bind (ks_wpAny_isType_inst I.at_ noC ?_);refine wpAny_ite_false rfl ?_;refine wpAny_bind ?_;unfold raisedInstance;refine wpAny_bind (Looks.here (s := ⟨hp, g, dr, tk, os⟩) I.type ?_);refine wpAny_bind (Looks.here (s := ⟨hp, g, dr, tk, os⟩) (looks_typeIn KX ht) ?_);refine wpAny_ite_true rfl (wpAny_pure ?_);refine wpAny_bind ?_;unfold setFlight;refine wpAny_bind (wpAny_field I.at_ rfl rfl ?_);refine wpAny_ite_false rfl (wpAny_pure ?_);exact wpAny_raiseNew_none hA q
end
theorem ErrC.type {K : Frag} {D : Addr} {nm : Str} {C f : Addr} (T : ErrC K D nm C f) : typeIn K (.ref C) = some (.type "type") := by
 obtain ⟨q, N, bs, sn, sub, ab, col, dd, k0, k1, k2, k3, k5, l⟩ := T.cls;show (K.lookup C).map (fun o => o.cls) = _;rw [l];rfl
def qR (E : XK) (C : Addr) : VK := fun y H' => ∃ x dx fs, y = .ref x /\ H' x = some (ErrO x C (some dx)) /\ H' dx = some (.xd fs) /\ E (.ref C) (some x) (upd H' x (ErrT x C (some dx)))
def tRaise (E : XK) (C : Addr) (fld : Str) (te : TE) : TS := fun _ σ H => tErr C fld te σ H (qR E C)
theorem upd_upd {H : Hp} {x : Addr} {a b : HO} : upd (upd H x a) x b = upd H x b := by
 funext z
 unfold upd;by_cases h : z = x
 ·rw [if_pos h, if_pos h]
 ·rw [if_neg h, if_neg h, if_neg h]
section
variable {P : Program} {w : World} {K : Frag} {mg : Str -> Option Value} {base : Heap} {N : List Str} {qual : Str} {scope : Scope} {f : Addr} {cd : Value} {A : Around} {outer : List Env} {s0 : Shared} {H0 : Hp} {E : XK}
abbrev cxE (P : Program) (w : World) (K : Frag) (mg : Str -> Option Value) (base : Heap) (N : List Str) (qual : Str) (scope : Scope) (f : Addr) (cd : Value) (A : Around) (outer : List Env) (s0 : Shared) (H0 : Hp) (E : XK) : Cx := cxOf (CXE P w) P w K mg base N qual scope f cd A outer s0 H0 E
theorem ps_raise {D C fI : Addr} {nm fld x : Str} {k : Nat} {fd : FuncData} {ps : List Str} {e : Expr} {te : TE} {p pos pos' : Pos} (B : BaseC K D) (T : ErrC K D nm C fI) (F : FnOk P w K mg base CX0 k fI fd ps (spErr C fld)) (hr : Room (k + 1) (cxE P w K mg base N qual scope f cd A outer s0 H0 E).A) (hb : Binds K fd ps [])
  (hg : Gl (cxE P w K mg base N qual scope f cd A outer s0 H0 E) x) (hm : mg x = some (.ref C)) (ha : PE (cxE P w K mg base N qual scope f cd A outer s0 H0 E) e te)
  (hdb : (x == ("__debug__" : Str)) = false := by decide) (he : starEach [e] (cxE P w K mg base N qual scope f cd A outer s0 H0 E).env = (false, eval e (cxE P w K mg base N qual scope f cd A outer s0 H0 E).env) :: starEach [] (cxE P w K mg base N qual scope f cd A outer s0 H0 E).env := by rfl) (hpl : (backTo pos (starEach [] (cxE P w K mg base N qual scope f cd A outer s0 H0 E).env)).any (·.1) = false := by rfl) :
  PS (cxE P w K mg base N qual scope f cd A outer s0 H0 E) (.Raise (some (.Call (.Name x p) [e] [] pos)) none pos') (tRaise E C fld te) := by
 intro pins s σ H D' I h;have pe := pe_err (X := cxE P w K mg base N qual scope f cd A outer s0 H0 E) (p := p) (pos := pos) B T F hr hb hg hm ha hdb he hpl;have hd : (cxE P w K mg base N qual scope f cd A outer s0 H0 E).A.handled = none := I.ok.hd rfl;rw [arm_exec_Raise];refine wpAny_bind (wpAny_standAt ?_);refine wp_raise T.it T.type hd ?_;refine wpAny_bind (thn (pe pins s σ H (qR E C) I h) fun u s1 h1 => ?_);obtain ⟨y, H1, I1, ry, x, dx, fs, rfl, e1, e2, q⟩ := h1;refine wpAny_bind (wpAny_standAt (wpAny_pure ?_));obtain ⟨t, ht⟩ := errO_at I1.hok e1;obtain ⟨ox, od, J, _⟩ := err_inst I1.hok e1 e2;have eo : ox = errAt C (some dx) t := Option.some.inj (J.at_.symm.trans ht);subst eo;exact ⟨x, t, some dx, some od, ry, J, I1.kIn, xe_of I1 e1 ⟨_, rfl⟩ e2 ht (.inl rfl) q⟩
theorem qR_of {C x dx : Addr} {fld : Str} {v : V} {H1 : Hp} (nd : dx ≠ x) (q : E (.ref C) (some x) (upd (upd H1 dx (.xd [(fld, v)])) x (ErrT x C (some dx)))) : qR E C (.ref x) (upd (upd H1 dx (.xd [(fld, v)])) x (ErrO x C (some dx))) :=
 ⟨x, dx, _, rfl, uds, by rw [upd_ne nd, uds], by rw [upd_upd]; exact q⟩
theorem okE {x qual : Str} {st : Stmt} {f : Addr} {fd : FuncData} {N ps : List Str} {k : Nat} {sp : Sp} (F : Fun K x qual st f fd) (S : FnScope N ps (defScope st)) (len : ∀ vs H Q E, sp vs H Q E -> vs.length = ps.length)
  (hbody : ∀ (cdv : Value) (A : Around) (outer : List Env) (s : Shared) (H : Hp) (vs : List V) (Q : VK) (E : XK), Room k (A.deeper (PyProof.Rows.envOfC qual (defScope st) s.heap.objs.size f cdv)) -> sp vs H Q E ->
   ∃ t, PSs (cxE P w K mg base N qual (defScope st) f cdv A outer s H E) (defBody st) t /\ t { nx := fun _ H' => Q .non H', rt := Q } (start N vs) H) : FnOk P w K mg base (CXE P w) (k + 1) f fd ps sp := by
 obtain ⟨oc, od, kV, doc, pm, an, cdv, ct, osl, rfl, lk, hcd⟩ := F.ex;refine fn_of lk hcd S len fun A outer s H vs Q E hr hsp => ?_;obtain ⟨t, h, q⟩ := hbody cdv A outer s H vs Q E hr hsp;exact ⟨t, h, q⟩
theorem ps_never {X : Cx} {st : Stmt} : PS X st (fun _ _ _ => False) := fun _ _ _ _ _ _ h => h.elim
end
end My
namespace My
open PySem PySem.W L2
open PyProof.Rows (AllBare)
section
variable {X : Cx} {pins : List (Addr × Obj)} {σ : St} {H : Hp} {s : Shared}
theorem vals_refs : ∀ {cs : List Addr} {us : List Value}, Vals (cs.map V.ref) us -> us = cs.map Value.ref
 | [], _, .nil => rfl
 | c :: cs, _, .cons r t => by
  rw [vals_refs t];cases (show _ = Value.ref c from r);rfl
end
end My
namespace My
open PySem PySem.W L2
open PyProof.Rows (AllBare)
abbrev TH := Addr -> Addr -> TS
end My
namespace My
open PySem L2
section
variable {X : Cx}
def eqVs : List V -> List V -> Bool
 | [], [] => true
 | x :: xs, y :: ys => eqV x y && eqVs xs ys
 | _, _ => false
theorem eqVs_all : ∀ (xs ys : List V), ((List.range (min xs.length ys.length)).all (fun j => eqV (xs.getD j .non) (ys.getD j .non)) && xs.length == ys.length) = eqVs xs ys
 | [], [] => rfl
 | [], y :: ys => by simp [eqVs]
 | x :: xs, [] => by simp [eqVs]
 | x :: xs, y :: ys => by
  have ih := eqVs_all xs ys;show _ = (eqV x y && eqVs xs ys);rw [<- ih, List.length_cons, List.length_cons, Nat.succ_min_succ, List.range_succ_eq_map, List.all_cons, List.all_map, Bool.and_assoc]
  congr 1
  rw [show (xs.length + 1 == ys.length + 1) = (xs.length == ys.length) from by simp]
  rfl
theorem tup_eqs {pins : List (Addr × Obj)} {σ : St} {H : Hp} {s : Shared} {A : Around} {xs ys : List V} {its jts : List Value} (r1 : Vals xs its) (r2 : Vals ys jts) (f1 : xs.all flatV = true) (f2 : ys.all flatV = true) :
  ∀ j (h1 : j < its.toArray.size) (h2 : j < jts.toArray.size), SeqAt.EqAt A s its.toArray[j] jts.toArray[j] (eqV (xs.getD j .non) (ys.getD j .non)) := by
 intro j h1 h2;have h1' : j < its.length := by simpa using h1
 have h2' : j < jts.length := by simpa using h2
 have k1 : j < xs.length := by rw [r1.length]; exact h1'
 have k2 : j < ys.length := by rw [r2.length]; exact h2'
 obtain ⟨u1, e1, q1⟩ := r1.get (List.getElem?_eq_getElem k1);obtain ⟨u2, e2, q2⟩ := r2.get (List.getElem?_eq_getElem k2);have a1 : its.toArray[j] = u1 := by
  have := List.getElem?_eq_getElem h1';rw [e1] at this
  simpa using (Option.some.inj this).symm
 have a2 : jts.toArray[j] = u2 := by
  have := List.getElem?_eq_getElem h2';rw [e2] at this
  simpa using (Option.some.inj this).symm
 have z1 : xs.getD j .non = xs[j] := by simp [k1]
 have z2 : ys.getD j .non = ys[j] := by simp [k2]
 rw [a1, a2, z1, z2];exact eqAt_V q1 q2 (List.all_eq_true.mp f1 _ (List.getElem_mem k1)) (List.all_eq_true.mp f2 _ (List.getElem_mem k2))
def rTT (K : PySem.W.Frag) (g : Bool -> Bool) : R2 := fun x y H Q => ∃ p q xs ys, x = .ref p /\ y = .ref q /\ SqT K H p xs /\ SqT K H q ys /\ xs.all flatV = true /\ ys.all flatV = true /\ Q (.bl (g (eqVs xs ys))) H
theorem op_eqT (hu : X.A.units < cLine) : OpR X (compareOp .Eq) (rTT X.K id) := by
 intro pins s σ H x y v u Q I rx ry h;obtain ⟨p, q, xs, ys, rfl, rfl, hp, hq, f1, f2, k⟩ := h;cases rx;cases ry;obtain ⟨its, r1, t1, _⟩ := I.tuple hp;obtain ⟨jts, r2, t2, _⟩ := I.tuple hq;refine SeqAt.eq_tupleAt t1 t2 hu (tup_eqs (pins := pins) (σ := σ) (H := H) r1 r2 f1 f2) ?_;refine ⟨.bl _, H, I, ?_, k⟩;have z := eqVs_all xs ys;rw [r1.length, r2.length] at z;show Value.bool _ = Value.bool _;rw [id, <- z];simp
def Flats (x y : V) : Prop := flatV x = true /\ flatV y = true /\ eqV x y = true
def Alike (K : PySem.W.Frag) (H : Hp) : Nat -> V -> V -> Prop
 | 0, x, y => (∃ a, x = .ref a /\ y = .ref a) \/ Flats x y
 | n + 1, x, y => ((∃ a, x = .ref a /\ y = .ref a) \/ Flats x y) \/
  ∃ p q xs ys, x = .ref p /\ y = .ref q /\ ((SqT K H p xs /\ SqT K H q ys) \/ (SqL K H p xs /\ SqL K H q ys)) /\ xs.length = ys.length /\ ∀ (i : Nat) x y, xs[i]? = some x -> ys[i]? = some y -> Alike K H n x y
theorem Alike.same {K : PySem.W.Frag} {H : Hp} {n : Nat} {x y : V} (h : (∃ a, x = .ref a /\ y = .ref a) \/ Flats x y) : Alike K H n x y := by
 cases n with
 | zero => exact h
 | succ n => exact .inl h
theorem flats_of {A : Around} {s : Shared} {x y : V} {u v : Value} (ru : RelV x u) (rv : RelV y v) (h : Flats x y) : SeqAt.EqAt A s u v true := by
 have f := eqAt_V (A := A) (s := s) ru rv h.1 h.2.1;rw [h.2.2] at f;exact f
theorem same_or {A : Around} {s : Shared} {x y : V} {u v : Value} (ru : RelV x u) (rv : RelV y v) (h : (∃ a, x = .ref a /\ y = .ref a) \/ Flats x y) : SeqAt.EqAt A s u v true := by
 rcases h with ⟨a, rfl, rfl⟩ | h
 ·cases (show u = Value.ref a from ru);cases (show v = Value.ref a from rv);exact SeqAt.EqAt.same _
 ·exact flats_of ru rv h
theorem items_eq {A : Around} {s : Shared} {xs ys : List V} {its jts : List Value} (r1 : Vals xs its) (r2 : Vals ys jts) (h : ∀ (i : Nat) x y u v, xs[i]? = some x -> ys[i]? = some y -> RelV x u -> RelV y v -> SeqAt.EqAt A s u v true) :
  ∀ j (h1 : j < its.toArray.size) (h2 : j < jts.toArray.size), SeqAt.EqAt A s its.toArray[j] jts.toArray[j] true := by
 intro j h1 h2;have h1' : j < its.length := by simpa using h1
 have h2' : j < jts.length := by simpa using h2
 have k1 : j < xs.length := by rw [r1.length]; exact h1'
 have k2 : j < ys.length := by rw [r2.length]; exact h2'
 obtain ⟨u1, e1, q1⟩ := r1.get (List.getElem?_eq_getElem k1);obtain ⟨u2, e2, q2⟩ := r2.get (List.getElem?_eq_getElem k2);have a1 : its.toArray[j] = u1 := by
  have := List.getElem?_eq_getElem h1';rw [e1] at this
  simpa using (Option.some.inj this).symm
 have a2 : jts.toArray[j] = u2 := by
  have := List.getElem?_eq_getElem h2';rw [e2] at this
  simpa using (Option.some.inj this).symm
 rw [a1, a2];exact h j _ _ _ _ (List.getElem?_eq_getElem k1) (List.getElem?_eq_getElem k2) q1 q2
theorem in1_units {A : Around} : A.in1.units = A.units + 1 := rfl
theorem rows_rc {pins : List (Addr × Obj)} {σ : St} {H : Hp} {s : Shared} {A : Around} {p q : Addr} {xs ys : List V} (I : Inv X pins σ H s) (hu : A.units < cLine) (h : (SqT X.K H p xs /\ SqT X.K H q ys) \/ (SqL X.K H p xs /\ SqL X.K H q ys)) (len : xs.length = ys.length)
  (he : ∀ (i : Nat) x y u v, xs[i]? = some x -> ys[i]? = some y -> RelV x u -> RelV y v -> SeqAt.EqAt A.in1 s u v true) : SeqAt.RcAt A s (.ref p) (.ref q) true /\ SeqAt.RcNeAt A s (.ref p) (.ref q) false := by
 rcases h with ⟨hp, hq⟩ | ⟨hp, hq⟩
 ·obtain ⟨its, r1, t1, _⟩ := I.tuple hp;obtain ⟨jts, r2, t2, _⟩ := I.tuple hq;have l1 := r1.length;have l2 := r2.length;have e := items_eq r1 r2 he;have z : ((List.range (min its.toArray.size jts.toArray.size)).all (fun _ => true) && its.toArray.size == jts.toArray.size) = true := by
   simp; omega
  have a := SeqAt.RcAt.tuples (e := fun _ => true) t1 t2 hu e;have b := SeqAt.RcNeAt.tuples (e := fun _ => true) t1 t2 hu e;rw [z] at a b;exact ⟨a, b⟩
 ·obtain ⟨its, r1, t1, _⟩ := I.list hp;obtain ⟨jts, r2, t2, _⟩ := I.list hq;have l1 := r1.length;have l2 := r2.length;have e := items_eq r1 r2 he;have z : ((List.range its.toArray.size).all (fun _ => true)) = true := by simp
  have sz : its.toArray.size = jts.toArray.size := by simp; omega
  have a := SeqAt.RcAt.lists (e := fun _ => true) t1.isList t2.isList sz hu e;have b := SeqAt.RcNeAt.lists (e := fun _ => true) t1.isList t2.isList sz hu e;rw [z] at a b;exact ⟨a, b⟩
theorem alike_eq {pins : List (Addr × Obj)} {σ : St} {H : Hp} {s : Shared} (I : Inv X pins σ H s) : ∀ (n : Nat) {A : Around} {x y : V} {u v : Value}, A.units + n < cLine -> Alike X.K H n x y -> RelV x u -> RelV y v -> SeqAt.EqAt A s u v true
 | 0, A, x, y, u, v, hu, h, ru, rv => same_or ru rv h
 | n + 1, A, x, y, u, v, hu, h, ru, rv => by
  rcases h with h | ⟨p, q, xs, ys, rfl, rfl, hs, len, all⟩
  ·exact same_or ru rv h
  ·cases (show u = Value.ref p from ru);cases (show v = Value.ref q from rv);by_cases e : p = q
   ·subst e;exact SeqAt.EqAt.same _
   ·exact .of_refs e (rows_rc I (by omega) hs len fun i x y u v hx hy ru rv => alike_eq I n (by rw [in1_units]; omega) (all i x y hx hy) ru rv).1
def rAlike (K : PySem.W.Frag) (n : Nat) (b : Bool) : R2 := fun x y H Q => ∃ p q xs ys, x = .ref p /\ y = .ref q /\ ((SqT K H p xs /\ SqT K H q ys) \/ (SqL K H p xs /\ SqL K H q ys)) /\ xs.length = ys.length /\ (∀ (i : Nat) x y, xs[i]? = some x -> ys[i]? = some y -> Alike K H n x y) /\ Q (.bl b) H
theorem op_neA {n : Nat} (hu : X.A.units + (n + 1) < cLine) : OpR X (compareOp .NotEq) (rAlike X.K n false) := by
 intro pins s σ H x y v u Q I rx ry h;obtain ⟨p, q, xs, ys, rfl, rfl, hs, len, all, k⟩ := h;cases rx;cases ry;exact (rows_rc I (A := X.A) (by omega) hs len fun i x y u v hx hy ru rv => alike_eq I n (by rw [in1_units]; omega) (all i x y hx hy) ru rv).2 X.prog X.w X.xe _ ⟨.bl false, H, I, rfl, k⟩
end
end My
namespace My
open PySem PySem.W L2
open PyProof.Rows (Call_ boot_enumerate)
theorem nofree {o : Obj} {vs : Array Value} (d : o.data = .fields vs) : o.isFreed = false := by
 obtain ⟨c, dd, dt, sl⟩ := o;cases d;rfl
end My
namespace My
open PySem L2
section
variable {prog : Program} {w : World} {A : Around} {R : Result -> Shared -> Prop} {s : Shared}
theorem compLoopT {elt target iter : Expr} {scope : Scope} {pos : Pos} {it acc : Value} {env : Env} (J : Nat -> Shared -> Prop)
  (turn : ∀ n s, J n s -> wpAny (model prog w) A (pyNext it) (fun r s₁ => match r with
   | none => R (.ok .next) s₁
   | some v => wpAny (model prog w) A (letOwnedTupleGo target it v) (fun _ s₂ => wpAny (model prog w) A (assign target env v) (fun _ s₃ => wpAny (model prog w) A (eval elt env)
     (fun x s₄ => wpAny (model prog w) A (call (.builtin "list.append") [acc, x]) (fun _ s₅ => ∃ m, m < n /\ J m s₅) (fun _ _ => False) s₄) (fun _ _ => False) s₃) (fun _ _ => False) s₂) (fun _ _ => False) s₁) (fun _ _ => False) s)
  (n : Nat) (h : J n s) : codeAny (model prog w) A (.compLoop (.ListComp elt [⟨target, iter, [], 0⟩] scope pos) 0 it acc env) R s := by
 refine codeAny_loop rfl J (fun n s hJ => ?_) n h;show wpAny _ _ (Sem.onRaise (compTurn (.ListComp elt [⟨target, iter, [], 0⟩] scope pos) 0 it acc env) (fun x => do noteFrame x env; theTreesLotGoes x)) _ _ s
 refine wpAny_noted ?_;rw [compTurn_list1];refine wpAny_bind (wpAny_standAt (wpAny_bind (wpAny_mono (turn n s hJ) (fun r s₁ h₁ => ?_) fun _ _ z => z.elim)));cases r with
 | none => exact wpAny_pure h₁
 | some v =>
  refine wpAny_bind (wpAny_mono h₁ (fun _ s₂ h₂ => ?_) fun _ _ z => z.elim);refine wpAny_bind (wpAny_mono h₂ (fun _ s₃ h₃ => ?_) fun _ _ z => z.elim);refine wpAny_bind (wpAny_bind (wpAny_mono h₃ (fun x s₄ h₄ => ?_) fun _ _ z => z.elim));refine wpAny_bind (wpAny_mono h₄ (fun _ s₅ h₅ => wpAny_pure (wpAny_pure ⟨rfl, h₅⟩)) fun _ _ z => z.elim)
end
def compCx (X : Cx) (sc : Scope) (cl : List (Str × Addr)) (N : List Str) (s : Shared) (H : Hp) (C : Addr) (fp : List Addr) : Cx where
 prog := X.prog
 w := X.w
 K := X.K
 mg := X.mg
 base := X.base
 A := X.A
 N := N
 s₀ := s
 H₀ := H
 env := compEnvC sc cl C X.env
 outer := X.stack
 stack := X.stack
 ex := fp
 fn := fun _ => false
 calm := X.calm
 pn := []
 xe := fun _ _ => False
def capS (js : List Nat) (σ : St) : St := js.map fun j => (σ[j]?).join
end My
namespace My
open PySem L2 PySem.Calls PyProof.Rows
open PySem.Builtin.Str (occurrences partsBetween strSub)
section
variable {X : Cx}
def GDiv (i j : Int) : Prop := 0 < j /\ j.natAbs.log2 < 9000
theorem op_gdiv : OpR X (binaryOp .FloorDiv) (rI GDiv fun i j => .int (i / j)) := opI fun i j _ _ _ _ _ hc q => by
 have z := hc.1;exact floordiv_int (by omega) (by rw [Int.fdiv_eq_ediv_of_nonneg i (Int.le_of_lt z)]; exact q) (.inl (PyProof.noPylong_of_log2 hc.2))
def GMul (i j : Int) : Prop := Builtin.Int.intBits i + Builtin.Int.intBits j <= 1000000
theorem GMul.ok {i j : Int} (h : GMul i j) : IntMulOk i j := by
 unfold IntMulOk;have z : Builtin.Int.intTooBig (Builtin.Int.intBits i + Builtin.Int.intBits j) = false := by
  unfold Builtin.Int.intTooBig;refine decide_eq_false ?_;have h' : Builtin.Int.intBits i + Builtin.Int.intBits j <= 1000000 := h;have hb : (1000000 : Int) <= bitsLine := by decide +kernel
  omega
 rw [z]; simp
theorem op_gmul : OpR X (binaryOp .Mult) (rI GMul fun i j => .int (i * j)) := opI fun _ _ _ _ _ _ _ hc q => PyProof.Rows.mul_int q hc.ok
end
end My
namespace My
open PySem L2
section
variable {prog : Program} {w : World} {A : Around} {R : Result -> Shared -> Prop} {s : Shared}
theorem compLoopT1 {elt target iter c : Expr} {scope : Scope} {pos : Pos} {it acc : Value} {env : Env} (J : Nat -> Shared -> Prop)
  (turn : ∀ n s, J n s -> wpAny (model prog w) A (pyNext it) (fun r s₁ => match r with
   | none => R (.ok .next) s₁
   | some v => wpAny (model prog w) A (letOwnedTupleGo target it v) (fun _ s₂ => wpAny (model prog w) A (assign target env v) (fun _ s₃ => wpAny (model prog w) A (isTrue c env (eval c env)) (fun k s₀ =>
     (k = false -> ∃ m, m < n /\ J m s₀) /\ (k = true -> wpAny (model prog w) A (eval elt env)
     (fun x s₄ => wpAny (model prog w) A (call (.builtin "list.append") [acc, x]) (fun _ s₅ => ∃ m, m < n /\ J m s₅) (fun _ _ => False) s₄) (fun _ _ => False) s₀)) (fun _ _ => False) s₃) (fun _ _ => False) s₂) (fun _ _ => False) s₁) (fun _ _ => False) s)
  (n : Nat) (h : J n s) : codeAny (model prog w) A (.compLoop (.ListComp elt [⟨target, iter, [c], 0⟩] scope pos) 0 it acc env) R s := by
 refine codeAny_loop rfl J (fun n s hJ => ?_) n h;show wpAny _ _ (Sem.onRaise (compTurn (.ListComp elt [⟨target, iter, [c], 0⟩] scope pos) 0 it acc env) (fun x => do noteFrame x env; theTreesLotGoes x)) _ _ s
 refine wpAny_noted ?_;rw [compTurn_list];refine wpAny_bind (wpAny_standAt (wpAny_bind (wpAny_mono (turn n s hJ) (fun r s₁ h₁ => ?_) fun _ _ z => z.elim)));cases r with
 | none => exact wpAny_pure h₁
 | some v =>
  refine wpAny_bind (wpAny_mono h₁ (fun _ s₂ h₂ => ?_) fun _ _ z => z.elim);refine wpAny_bind (wpAny_mono h₂ (fun _ s₃ h₃ => ?_) fun _ _ z => z.elim);refine wpAny_bind (wpAny_tests_one (wpAny_mono h₃ (fun k s₀ h₀ => ?_) fun _ _ z => z.elim));cases k with
  | false => exact wpAny_pure ⟨rfl, h₀.1 rfl⟩
  | true =>
   refine wpAny_bind (wpAny_bind (wpAny_mono (h₀.2 rfl) (fun x s₄ h₄ => ?_) fun _ _ z => z.elim));refine wpAny_bind (wpAny_mono h₄ (fun _ s₅ h₅ => wpAny_pure (wpAny_pure ⟨rfl, h₅⟩)) fun _ _ z => z.elim)
end
structure CompG (X : Cx) (sc : Scope) (cl : List (Str × Addr)) (ts zs : List Str) (js : List Nat) : Prop where
 clos : closureFor sc X.env = pure cl
 kind : sc.kind = .function
 noCell : ∀ y ∈ sc.names, y.2 ≠ .cell
 names : ∀ y ∈ sc.names, y.2 = .local -> sc.names.lookup y.1 = some .local
 var : ∀ x ∈ ts, sc.names.lookup x = some .local
 sub : ∀ z c, cl.lookup z = some c -> X.env.cells.lookup z = some c
 has : ∀ z, ((relabel sc X.env).names.lookup z = some .cell \/ (relabel sc X.env).names.lookup z = some .free) -> ∃ c, cl.lookup z = some c
 nd : (ts ++ zs).Nodup
 cap : ∀ (k : Nat) (z : Str), zs[k]? = some z -> ∃ j : Nat, js[k]? = some j /\ X.N[j]? = some z /\ Vis X.env.scope z /\ X.env.kindOf z ≠ some .local /\
  ((relabel sc X.env).names.lookup z = some .cell \/ (relabel sc X.env).names.lookup z = some .free)
 len : js.length = zs.length
def tLCG (wi : TI) (k : Nat) (js : List Nat) (g : TG) (te : TE) : TE := fun σ H Q => wi σ H fun J H1 => ∀ D, H1 D = none -> ∃ W : Nat -> Nat -> List V -> Hp -> Prop, (∃ m, W 0 m [] (upd H1 D (.lst []))) /\
 ∀ i m ys H2, W i m ys H2 -> H2 D = some (.lst ys) /\ ((J.stop i H2 /\ Q (.ref D) H2) \/ (J.go i H2 /\ ys.length < sizeLine /\
  ∀ x H3, J.yld i H2 x H3 -> ∀ os : St, os.length = k -> g x (os ++ capS js σ) H3 fun σ2 H0 => (∃ os' : St, os'.length = k /\ σ2 = os' ++ capS js σ) /\ te σ2 H0 fun y H4 => H4 D = some (.lst ys) /\ ∃ m', m' < m /\ W (i + 1) m' (ys ++ [y]) (upd H4 D (.lst (ys ++ [y])))))
def tLCGif (wi : TI) (k : Nat) (js : List Nat) (g : TG) (tt : TT) (te : TE) : TE := fun σ H Q => wi σ H fun J H1 => ∀ D, H1 D = none -> ∃ W : Nat -> Nat -> List V -> Hp -> Prop, (∃ m, W 0 m [] (upd H1 D (.lst []))) /\
 ∀ i m ys H2, W i m ys H2 -> H2 D = some (.lst ys) /\ ((J.stop i H2 /\ Q (.ref D) H2) \/ (J.go i H2 /\ ys.length < sizeLine /\
  ∀ x H3, J.yld i H2 x H3 -> ∀ os : St, os.length = k -> g x (os ++ capS js σ) H3 fun σ2 H0 => (∃ os' : St, os'.length = k /\ σ2 = os' ++ capS js σ) /\ tt σ2 H0 fun b H5 => (b = false -> ∃ m', m' < m /\ W (i + 1) m' ys H5) /\
   (b = true -> te σ2 H5 fun y H4 => H4 D = some (.lst ys) /\ ∃ m', m' < m /\ W (i + 1) m' (ys ++ [y]) (upd H4 D (.lst (ys ++ [y]))))))
section
variable {X : Cx} {pins : List (Addr × Obj)} {σ : St} {H : Hp} {s : Shared} {sc : Scope} {cl : List (Str × Addr)} {ts zs : List Str} {js : List Nat} {C : Addr} {fp : List Addr}
theorem compG_ok (I : Inv X pins σ H s) (S : CompG X sc cl ts zs js) (hf : ∀ b ∈ fp, FpOk X pins H b /\ b < s.heap.objs.size) (hC : s.heap.objs.size <= C) : (compCx X sc cl (ts ++ zs) s H C fp).Ok := by
 refine ⟨I.ok.mod, S.kind, I.ok.glob, I.ok.blt, hC, fun y z c h1 h2 => I.ok.inj y z c (S.sub _ _ h1) (S.sub _ _ h2), fun z h => S.has z h, (fun _ _ h => nomatch h), I.ok.hd, I.ok.frames, .inl rfl, fun b hb => ?_, I.bs, ?_, fun b o e hb => ?_, fun b hb hs => ?_, I.stack, I.stkFree⟩
 ·obtain ⟨⟨_, h1, _, _, h4, _⟩, h6⟩ := hf b hb;exact ⟨fun e => absurd h6 (Nat.not_lt.mpr (by rw [show b = C from e]; exact hC)), fun z c e => h4 z c (S.sub _ _ e)⟩
 ·exact Nat.le_trans I.ok.bsz I.sz
 ·obtain ⟨⟨_, _, _, h3, _⟩, _⟩ := hf b hb;rcases h3 with h | h
  ·exact I.ok.noex b o e h
  ·exact absurd (Heap.lt_size e) (Nat.not_lt.mpr (Nat.le_trans I.ok.bsz h))
 ·obtain ⟨⟨_, h1, h2, _⟩, _⟩ := hf b hb;rcases List.mem_cons.mp (I.stkSub b hs) with e | e
  ·exact h1 e
  ·exact h2 e
theorem compG_start {s1 : Shared} (I : Inv X pins σ H s) (S : CompG X sc cl ts zs js) (hf : ∀ b ∈ fp, FpOk X pins H b /\ b < s.heap.objs.size) (hC : s.heap.objs.size <= C) (ho : s1.os = s.os) (hg : s1.gens = s.gens)
  (hk : ∀ b o, s.heap.get? b = some o -> s1.heap.get? b = some o) {m : Str -> Option Value} (hn : s1.heap.Ns C m) : Inv (compCx X sc cl (ts ++ zs) s H C fp) [] (List.replicate ts.length none ++ capS js σ) H s1 := by
 refine ⟨compG_ok I S hf hC, ho, by rw [hg]; exact I.bare, Un.kept hk, ⟨m, hn, fun i y v h1 h2 h3 => ?_⟩, fun z c e => ?_, I.hok.fresh hC, fun z c e => I.freeC z c (S.sub _ _ e), fun p hp => absurd (show p ∈ ([] : List (Addr × Obj)) from hp) (by simp), I.hok.kept hk, ?_⟩
 ·rcases Nat.lt_or_ge i ts.length with lt | ge
  ·rw [List.getElem?_append_left (by rw [List.length_replicate]; exact lt), List.getElem?_replicate, if_pos lt] at h2
   cases h2
  ·have h1' : zs[i - ts.length]? = some y := by
    have h1'' : (ts ++ zs)[i]? = some y := h1;rw [List.getElem?_append_right ge] at h1'';exact h1''
   obtain ⟨j, hj, hN, hv, nl, k'⟩ := S.cap _ y h1';have h2' : (capS js σ)[i - ts.length]? = some (some v) := by
    rw [List.getElem?_append_right (by rw [List.length_replicate]; exact ge), List.length_replicate] at h2
    exact h2
   have h5 : σ[j]? = some (some v) := by
    unfold capS at h2';rw [List.getElem?_map, hj] at h2';have h6 : (σ[j]?).join = some v := Option.some.inj h2';cases e : σ[j]? with
    | none => rw [e] at h6; cases h6
    | some o => rw [e] at h6; exact congrArg some h6
   obtain ⟨m0, hn0, hl⟩ := I.loc;obtain ⟨u, ru, lk⟩ := hl j y v hN h5 hv;refine ⟨u, ru, ?_⟩;rcases lk with ⟨k1, _⟩ | ⟨_, c, ec, hc⟩
   ·exact absurd k1 nl
   ·obtain ⟨c', ec'⟩ := S.has y k';have e2 := S.sub _ _ ec';rw [ec] at e2;cases e2;exact .inr ⟨k', c, ec', hc.keeps hk⟩
 ·obtain ⟨v, hv⟩ := I.cell z c (S.sub _ _ e);exact ⟨v, hv.keeps hk⟩
 ·show (List.replicate ts.length none ++ capS js σ : St).length = (ts ++ zs).length;unfold capS;rw [List.length_append, List.length_append, List.length_map, List.length_replicate, S.len]
theorem compG_end {s1 : Shared} {σ' : St} {H' : Hp} {h' : Heap} (I : Inv X pins σ H s) (hf : ∀ b ∈ fp, FpOk X pins H b /\ b < s.heap.objs.size) (hC : s.heap.objs.size <= C) (J : Inv (compCx X sc cl (ts ++ zs) s H C fp) [] σ' H' s1)
  (hs : Heap.SameBut C s1.heap h') : Inv X pins σ H' { s1 with heap := h' } := by
 have old : ∀ b o, s1.heap.get? b = some o -> b ≠ C -> h'.get? b = some o := fun b o e n => (hs.2 b n).trans e;have lt : ∀ {b o}, s.heap.get? b = some o -> b ≠ C := fun {b o} e z => by
  have q := Heap.lt_size e;rw [z] at q;exact absurd q (Nat.not_lt.mpr hC)
 have B := J.base;refine I.call' (s' := { s1 with heap := h' }) (ch := fp) J.os ⟨fun b o e n hb hx => old b o (B.keep b o e n hb hx) (lt e), fun b o e n hb hx => ?_, B.free, fun b o e hx => ?_, B.tups, B.frzs, B.tbls, B.sys⟩ (fun b o e => ?_) J.bare fun b hb => ?_
 ·obtain ⟨sl, q⟩ := B.slot b o e n hb hx;exact ⟨sl, old _ _ q (lt e)⟩
 ·obtain ⟨o', q⟩ := B.there b o e hx;exact ⟨o', old _ _ q (lt e)⟩
 ·have nC : ∀ c u, H' c = some u -> c ≠ C := fun c u q z => by
   have f : H' C = none := J.free;rw [z, f] at q; cases q
  refine (J.hok b o e).stay (fun c v hc q => old c v q ?_) (fun _ q => q) fun _ _ q => q;rcases hc with rfl | hc
  ·exact nC _ _ e
  ·exact nC _ _ hc
 ·obtain ⟨⟨_, h1, _, h3, h4, h5⟩, _⟩ := hf b hb;exact ⟨h3, h1, h4, h5⟩
variable {elt iter : Expr} {pos : Pos} {tg : Expr} {g : TG} {wi : TI} {te : TE}
theorem pe_lcG (hc : X.calm = true) (S : CompG X sc cl ts zs js) (hi : PI X tg iter wi) (hg : ∀ s H C fp, PG (compCx X sc cl (ts ++ zs) s H C fp) tg g) (he : ∀ s H C fp, PE (compCx X sc cl (ts ++ zs) s H C fp) elt te)
  (hs : ∀ v, foldedSetIterable iter X.env v = pure v := by intro _; rfl) : PE X (.ListComp elt [⟨tg, iter, [], 0⟩] sc pos) (tLCG wi ts.length js g te) := by
 intro pins s σ H Q I h;rw [eval_ListComp];refine wpAny_comprehension_free (use := none) rfl hs S.clos S.kind S.names (thn (hi pins s σ H _ I h) fun v s1 h1 => thn h1 fun itv s2 h2 => ?_);obtain ⟨it, fp, tn, J, H2, e, I2, T, st2, f2, body⟩ := h2;subst e;have fr2 : H2 s2.heap.objs.size = none := I2.fresh;obtain ⟨W, ⟨m0, w0⟩, turn⟩ := body _ fr2;refine wpAny_newObj_type ?_;have I3 : Inv X pins σ (upd H2 s2.heap.objs.size (.lst [])) { s2 with heap := s2.heap.push { cls := .type "list", data := .seq ([] : List Value).toArray } } := I2.lnew (t' := s2.toks) (ys := []) (its := []) .nil (Nat.zero_le _)
 refine wpAny_newFunctionEnv S.noCell (by intro y hy; simp at hy) (fun h₁ hn hsb => ?_) S.kind
 generalize hs3 : ({ s2 with heap := s2.heap.push { cls := .type "list", data := .seq ([] : List Value).toArray } } : Shared) = s3 at I3 hn hsb ⊢
 have fpl : ∀ b ∈ fp, FpOk X pins (upd H2 s2.heap.objs.size (.lst [])) b /\ b < s3.heap.objs.size := fun b hb => by
  obtain ⟨o, ho, _⟩ := T.obj _ _ st2 b hb;have hl := Heap.lt_size ho;have hne : b ≠ s2.heap.objs.size := Nat.ne_of_lt hl;obtain ⟨z1, z2⟩ := f2 b hb;refine ⟨⟨by rw [upd_ne hne]; exact z1, z2⟩, ?_⟩
  rw [<- hs3];show b < (s2.heap.push _).objs.size;rw [Heap.size_push];exact Nat.lt_succ_of_lt hl
 have old : ∀ b o, s3.heap.get? b = some o -> h₁.get? b = some o := fun b o e => hsb.extBut b o (Nat.ne_of_lt (Heap.lt_size e)) (Heap.get?_push_of_some _ e);have loop : ∀ sS : Shared, sS.heap = h₁ -> sS.os = s3.os -> sS.gens = s3.gens -> codeAny (model X.prog X.w) X.A (.compLoop (.ListComp elt [⟨tg, iter, [], 0⟩] sc pos) 0 (.ref it) (.ref s2.heap.objs.size) (compEnvC sc cl s3.heap.objs.size X.env))
   (compPost (model X.prog X.w) X.A X.xe none (EP X pins σ Q) (.ref s2.heap.objs.size) s3.heap.objs.size) sS := by
  intro sS eh eo eg;subst eh;have J0 : Inv (compCx X sc cl (ts ++ zs) s3 (upd H2 s2.heap.objs.size (.lst [])) s3.heap.objs.size fp) [] (List.replicate ts.length none ++ capS js σ) (upd H2 s2.heap.objs.size (.lst [])) sS := compG_start I3 S fpl (Nat.le_refl _) eo eg old hn;generalize hX : compCx X sc cl (ts ++ zs) s3 (upd H2 s2.heap.objs.size (.lst [])) s3.heap.objs.size fp = X' at J0;have stat : ∀ {H' : Hp}, (∀ b ∈ fp, H' b = none) -> ∀ b ∈ fp, FpOk X' [] H' b := fun {H'} hn b hb => by
   subst hX;obtain ⟨⟨_, z1, z2, z3, z4, z5⟩, z6⟩ := fpl b hb;refine ⟨hn b hb, Nat.ne_of_lt z6, fun q => ?_, .inl hb, fun y c e => z4 y c (S.sub _ _ e), fun p hp => absurd (show p ∈ ([] : List (Addr × Obj)) from hp) (by simp)⟩
   rcases List.mem_cons.mp (I3.stkSub b q) with e | e
   ·exact z1 e
   ·exact z2 e
  have st3 : tn 0 sS.heap := T.keep _ _ _ st2 fun b hb o e => old b o (by rw [<- hs3]; exact Heap.get?_push_of_some _ e)
  refine compLoopT (fun n s' => ∃ i ys os H', os.length = ts.length /\ Inv X' [] (os ++ capS js σ) H' s' /\ tn i s'.heap /\ (∀ b ∈ fp, H' b = none) /\ W i n ys H') ?_ m0 ⟨0, [], _, _, List.length_replicate, J0, st3, fun b hb => (fpl b hb).1.1, w0⟩;rintro n s' ⟨i, ys, os, H', los, Iv, st, fr, w⟩;obtain ⟨hD, alt⟩ := turn i n ys H' w;have eP : X'.prog = X.prog := by subst hX; rfl
  have eW : X'.w = X.w := by subst hX; rfl
  have eK : X'.K = X.K := by subst hX; rfl
  have eC : X'.calm = true := by subst hX; exact hc
  have eA : X'.A = X.A := by subst hX; rfl
  have eE : X'.env = compEnvC sc cl s3.heap.objs.size X.env := by subst hX; rfl
  have eX : X'.xe = fun _ _ => False := by subst hX; rfl
  rcases alt with ⟨stop, q⟩ | ⟨go, hlen, step⟩
  ·have d := T.done X' eP eW eK eC i [] s' _ H' (fun _ _ => False) Iv (stat fr) st stop;rw [eA] at d;refine thn d fun r s4 ⟨hr, I4⟩ => ?_;subst hr;obtain ⟨m, hm, _⟩ := id I4.loc;rw [eE] at hm;subst hX;exact ⟨m, hm, fun h' hs' => ⟨.ref s2.heap.objs.size, H', compG_end I3 fpl (Nat.le_refl _) I4 hs', rfl, q⟩⟩
  ·have d := T.item X' eP eW eK eC i [] s' _ H' (fun _ _ => False) Iv (stat fr) st go;rw [eA] at d;refine thn d fun r s4 ⟨u, hr, h4⟩ => ?_;subst hr;refine thn h4 fun _ s5 ⟨y, H5, I5, r5, y5, st5, fr5⟩ => ?_;have I5' := I5.pinned (stat fr5) (T.obj _ _ st5);have hg' : PG X' tg g := by subst hX; exact hg _ _ _ _
   have g6 := hg' _ s5 _ H5 y u _ I5' r5 (step y H5 y5 os los);rw [eP, eW, eA, eE, eX] at g6;refine thn g6 fun _ s6 ⟨σ6, H6, I6, ⟨os', los', e6⟩, st6⟩ => ?_;subst e6;have he' : PE X' elt te := by subst hX; exact he _ _ _ _
   have g7 := he' _ s6 _ H6 _ I6 st6;rw [eP, eW, eA, eE, eX] at g7;refine thn g7 fun uv s7 ⟨v7, H7, I7, r7, hD7, m', hm', w7⟩ => ?_;have g8 := (mt_append (X := X')) _ s7 _ H7 (.ref s2.heap.objs.size) [v7] (.ref s2.heap.objs.size) [uv] (fun _ H8 => H8 = upd H7 s2.heap.objs.size (.lst (ys ++ [v7]))) I7 rfl (.cons r7 .nil) ⟨_, ys, v7, rfl, rfl, hD7, hlen, rfl⟩;rw [eP, eW, eA, eX] at g8;refine thn g8 fun _ s8 ⟨_, H8, I8, _, e8⟩ => ?_;subst e8;refine ⟨m', hm', i + 1, ys ++ [v7], os', _, los', I8.unpinned, T.keep _ _ _ st5 fun b hb o e => (I8.pin (b, o) (List.mem_append_right _ (List.mem_append_right _ (mem_pinsAt hb e)))).1, fun b hb => ?_, w7⟩;obtain ⟨o', e', _⟩ := T.obj _ _ st5 b hb;exact (I8.pin (b, o') (List.mem_append_right _ (List.mem_append_right _ (mem_pinsAt hb e')))).2.1
 have st1 : tn 0 h₁ := T.keep _ _ _ st2 fun b hb o e => old b o (by rw [<- hs3]; exact Heap.get?_push_of_some _ e)
 exact codeAny_compStart_list (loop _ rfl rfl rfl) (T.self _ 0 _ _ _ st1 (loop _ rfl rfl rfl))
variable {c : Expr} {tt : TT}
theorem pe_lcGI (hc : X.calm = true) (S : CompG X sc cl ts zs js) (hi : PI X tg iter wi) (hg : ∀ s H C fp, PG (compCx X sc cl (ts ++ zs) s H C fp) tg g) (ht : ∀ s H C fp, PT (compCx X sc cl (ts ++ zs) s H C fp) c tt) (he : ∀ s H C fp, PE (compCx X sc cl (ts ++ zs) s H C fp) elt te)
  (hs : ∀ v, foldedSetIterable iter X.env v = pure v := by intro _; rfl) : PE X (.ListComp elt [⟨tg, iter, [c], 0⟩] sc pos) (tLCGif wi ts.length js g tt te) := by
 intro pins s σ H Q I h;rw [eval_ListComp];refine wpAny_comprehension_free (use := none) rfl hs S.clos S.kind S.names (thn (hi pins s σ H _ I h) fun v s1 h1 => thn h1 fun itv s2 h2 => ?_);obtain ⟨it, fp, tn, J, H2, e, I2, T, st2, f2, body⟩ := h2;subst e;have fr2 : H2 s2.heap.objs.size = none := I2.fresh;obtain ⟨W, ⟨m0, w0⟩, turn⟩ := body _ fr2;refine wpAny_newObj_type ?_;have I3 : Inv X pins σ (upd H2 s2.heap.objs.size (.lst [])) { s2 with heap := s2.heap.push { cls := .type "list", data := .seq ([] : List Value).toArray } } := I2.lnew (t' := s2.toks) (ys := []) (its := []) .nil (Nat.zero_le _)
 refine wpAny_newFunctionEnv S.noCell (by intro y hy; simp at hy) (fun h₁ hn hsb => ?_) S.kind
 generalize hs3 : ({ s2 with heap := s2.heap.push { cls := .type "list", data := .seq ([] : List Value).toArray } } : Shared) = s3 at I3 hn hsb ⊢
 have fpl : ∀ b ∈ fp, FpOk X pins (upd H2 s2.heap.objs.size (.lst [])) b /\ b < s3.heap.objs.size := fun b hb => by
  obtain ⟨o, ho, _⟩ := T.obj _ _ st2 b hb;have hl := Heap.lt_size ho;have hne : b ≠ s2.heap.objs.size := Nat.ne_of_lt hl;obtain ⟨z1, z2⟩ := f2 b hb;refine ⟨⟨by rw [upd_ne hne]; exact z1, z2⟩, ?_⟩
  rw [<- hs3];show b < (s2.heap.push _).objs.size;rw [Heap.size_push];exact Nat.lt_succ_of_lt hl
 have old : ∀ b o, s3.heap.get? b = some o -> h₁.get? b = some o := fun b o e => hsb.extBut b o (Nat.ne_of_lt (Heap.lt_size e)) (Heap.get?_push_of_some _ e);have loop : ∀ sS : Shared, sS.heap = h₁ -> sS.os = s3.os -> sS.gens = s3.gens -> codeAny (model X.prog X.w) X.A (.compLoop (.ListComp elt [⟨tg, iter, [c], 0⟩] sc pos) 0 (.ref it) (.ref s2.heap.objs.size) (compEnvC sc cl s3.heap.objs.size X.env))
   (compPost (model X.prog X.w) X.A X.xe none (EP X pins σ Q) (.ref s2.heap.objs.size) s3.heap.objs.size) sS := by
  intro sS eh eo eg;subst eh;have J0 : Inv (compCx X sc cl (ts ++ zs) s3 (upd H2 s2.heap.objs.size (.lst [])) s3.heap.objs.size fp) [] (List.replicate ts.length none ++ capS js σ) (upd H2 s2.heap.objs.size (.lst [])) sS := compG_start I3 S fpl (Nat.le_refl _) eo eg old hn;generalize hX : compCx X sc cl (ts ++ zs) s3 (upd H2 s2.heap.objs.size (.lst [])) s3.heap.objs.size fp = X' at J0;have stat : ∀ {H' : Hp}, (∀ b ∈ fp, H' b = none) -> ∀ b ∈ fp, FpOk X' [] H' b := fun {H'} hn b hb => by
   subst hX;obtain ⟨⟨_, z1, z2, z3, z4, z5⟩, z6⟩ := fpl b hb;refine ⟨hn b hb, Nat.ne_of_lt z6, fun q => ?_, .inl hb, fun y c e => z4 y c (S.sub _ _ e), fun p hp => absurd (show p ∈ ([] : List (Addr × Obj)) from hp) (by simp)⟩
   rcases List.mem_cons.mp (I3.stkSub b q) with e | e
   ·exact z1 e
   ·exact z2 e
  have st3 : tn 0 sS.heap := T.keep _ _ _ st2 fun b hb o e => old b o (by rw [<- hs3]; exact Heap.get?_push_of_some _ e)
  refine compLoopT1 (fun n s' => ∃ i ys os H', os.length = ts.length /\ Inv X' [] (os ++ capS js σ) H' s' /\ tn i s'.heap /\ (∀ b ∈ fp, H' b = none) /\ W i n ys H') ?_ m0 ⟨0, [], _, _, List.length_replicate, J0, st3, fun b hb => (fpl b hb).1.1, w0⟩;rintro n s' ⟨i, ys, os, H', los, Iv, st, fr, w⟩;obtain ⟨hD, alt⟩ := turn i n ys H' w;have eP : X'.prog = X.prog := by subst hX; rfl
  have eW : X'.w = X.w := by subst hX; rfl
  have eK : X'.K = X.K := by subst hX; rfl
  have eC : X'.calm = true := by subst hX; exact hc
  have eA : X'.A = X.A := by subst hX; rfl
  have eE : X'.env = compEnvC sc cl s3.heap.objs.size X.env := by subst hX; rfl
  have eX : X'.xe = fun _ _ => False := by subst hX; rfl
  rcases alt with ⟨stop, q⟩ | ⟨go, hlen, step⟩
  ·have d := T.done X' eP eW eK eC i [] s' _ H' (fun _ _ => False) Iv (stat fr) st stop;rw [eA] at d;refine thn d fun r s4 ⟨hr, I4⟩ => ?_;subst hr;obtain ⟨m, hm, _⟩ := id I4.loc;rw [eE] at hm;subst hX;exact ⟨m, hm, fun h' hs' => ⟨.ref s2.heap.objs.size, H', compG_end I3 fpl (Nat.le_refl _) I4 hs', rfl, q⟩⟩
  ·have d := T.item X' eP eW eK eC i [] s' _ H' (fun _ _ => False) Iv (stat fr) st go;rw [eA] at d;refine thn d fun r s4 ⟨u, hr, h4⟩ => ?_;subst hr;refine thn h4 fun _ s5 ⟨y, H5, I5, r5, y5, st5, fr5⟩ => ?_;have I5' := I5.pinned (stat fr5) (T.obj _ _ st5);have hg' : PG X' tg g := by subst hX; exact hg _ _ _ _
   have g6 := hg' _ s5 _ H5 y u _ I5' r5 (step y H5 y5 os los);rw [eP, eW, eA, eE, eX] at g6;refine thn g6 fun _ s6 ⟨σ6, H6, I6, ⟨os', los', e6⟩, st6⟩ => ?_;subst e6;have ht' : PT X' c tt := by subst hX; exact ht _ _ _ _
   have g0 := ht' _ s6 _ H6 _ I6 st6;rw [eP, eW, eA, eE, eX] at g0;refine thn g0 fun k sk ⟨Hk, Ik, qk⟩ => ?_;cases k with
   | false =>
    obtain ⟨m', hm', w7⟩ := qk.1 rfl;refine ⟨fun _ => ?_, fun z => nomatch z⟩;refine ⟨m', hm', i + 1, ys, os', _, los', Ik.unpinned, T.keep _ _ _ st5 fun b hb o e => (Ik.pin (b, o) (List.mem_append_right _ (List.mem_append_right _ (mem_pinsAt hb e)))).1, fun b hb => ?_, w7⟩;obtain ⟨o', e', _⟩ := T.obj _ _ st5 b hb;exact (Ik.pin (b, o') (List.mem_append_right _ (List.mem_append_right _ (mem_pinsAt hb e')))).2.1
   | true =>
   refine ⟨fun z => (nomatch z), fun _ => ?_⟩;have he' : PE X' elt te := by subst hX; exact he _ _ _ _
   have g7 := he' _ sk _ Hk _ Ik (qk.2 rfl);rw [eP, eW, eA, eE, eX] at g7;refine thn g7 fun uv s7 ⟨v7, H7, I7, r7, hD7, m', hm', w7⟩ => ?_;have g8 := (mt_append (X := X')) _ s7 _ H7 (.ref s2.heap.objs.size) [v7] (.ref s2.heap.objs.size) [uv] (fun _ H8 => H8 = upd H7 s2.heap.objs.size (.lst (ys ++ [v7]))) I7 rfl (.cons r7 .nil) ⟨_, ys, v7, rfl, rfl, hD7, hlen, rfl⟩;rw [eP, eW, eA, eX] at g8;refine thn g8 fun _ s8 ⟨_, H8, I8, _, e8⟩ => ?_;subst e8;refine ⟨m', hm', i + 1, ys ++ [v7], os', _, los', I8.unpinned, T.keep _ _ _ st5 fun b hb o e => (I8.pin (b, o) (List.mem_append_right _ (List.mem_append_right _ (mem_pinsAt hb e)))).1, fun b hb => ?_, w7⟩;obtain ⟨o', e', _⟩ := T.obj _ _ st5 b hb;exact (I8.pin (b, o') (List.mem_append_right _ (List.mem_append_right _ (mem_pinsAt hb e')))).2.1
 have st1 : tn 0 h₁ := T.keep _ _ _ st2 fun b hb o e => old b o (by rw [<- hs3]; exact Heap.get?_push_of_some _ e)
 exact codeAny_compStart_list (loop _ rfl rfl rfl) (T.self _ 0 _ _ _ st1 (loop _ rfl rfl rfl))
end
end My
namespace My
open PySem PySem.W L2
structure ClsFn (K : Frag) (D : Addr) (m : Str) (f : Addr) : Prop where
 ga : specialIn K (.ref D) "__getattribute__" = some (some (.builtin "type.__getattribute__"))
 reads : readsIn K D (.type "type") = true
 at_ : findCls K (.ref D) (.type "type") m = some (.val (.ref f))
 kp : keepIn K (.ref f) = true
section
variable {X : Cx} {CX : CXT} {k : Nat} {f D : Addr} {fd : FuncData} {ps : List Str} {sp : Sp} {E : XK} {x m : Str} {p pos apos : Pos} {e : Expr} {es : List Expr} {t : TA} {dvs : List V} {ds : List Value}
theorem pe_clsCall {pl : Sem Bool} (C : ClsFn X.K D m f) (F : FnOk X.prog X.w X.K X.mg X.base CX k f fd ps sp) (hr : Room k X.A) (hg : Gl X x) (hm : X.mg x = some (.ref D)) (hb : Binds X.K fd ps ds) (hd : Vals dvs ds) (hx : Passes CX X E) (ha : PA X (e :: es) t)
  (hdb : (x == ("__debug__" : Str)) = false := by decide) (hst : starEach (e :: es) X.env = (false, eval e X.env) :: starEach es X.env := by rfl) (hpl : (backTo pos (starEach es X.env)).any (·.1) = false := by rfl)
  (htr : eval (.Call (.Attribute (.Name x p) m apos) (e :: es) [] pos) X.env = (do
   let ov <- eval (.Name x p) X.env
   standAt apos.atName
   let (f, first) <- holding [ov] (getMethod ov m pl)
   callWith pos f first (backTo pos (starEach (e :: es) X.env)) (backToKw pos (keywordEach [] X.env))) := by rfl) :
  PE X (.Call (.Attribute (.Name x p) m apos) (e :: es) [] pos) (tCl sp dvs E t) := by
 intro pins s σ H Q I h;refine PySem.W.methodCall_KW (pl := pl) (ld_glob I hg hm ?_ hdb) htr;refine method_cls I.kIn C.ga (cls_value I.kIn C.reads C.at_ rfl ?_);have I0 : Inv X pins σ H { s with toks := s.toks + 1 } := I.tok _
 refine PySem.W.callWith_K (h₀ := X.base) I.ok.mod.kin C.kp (thn (ha pos pins _ σ H _ I0 h) fun us s1 ⟨vs, H1, I1, r, q⟩ => ⟨I1.kIn, ?_⟩) hst hpl;exact run_fn F hr hb hd hx I1 r q
end
end My
namespace My
open PySem L2
open PySem.Builtin.Str (occurrences partsBetween strSub)
def fig (c : Nat) : Bool := decide (48 <= c) && decide (c <= 57)
def figs (L : List Nat) : Bool := !L.isEmpty && !(L.head? == some 48 && L != [48]) && L.all fig
abbrev cs (z : Str) : List Nat := z.cps.toList
abbrev val (L : List Nat) : Nat := NumText.digitsVal L
def okS (a b : List Nat) : Bool := figs a && figs b && decide (2 <= val b) && decide (1 <= val a) && decide (val a < val b) && decide (Nat.gcd (val a) (val b) = 1)
def rd (z : Str) : Option (Nat × Nat) :=
 if z = "0" then some (0, 1) else if z = "1" then some (1, 1) else
  match Txt.split z ⟨#[47]⟩ with
  | [a, b] => if okS (cs a) (cs b) = true then some (val (cs a), val (cs b)) else none
  | _ => none
abbrev tx (n : Nat) : Str := Str.ofString (toString ((n : Nat) : Int))
def Low (t b : Nat) : Prop := 1 <= b /\ t <= b /\ Nat.gcd t b = 1
end My
namespace My
open PySem PySem.W L2
theorem itT {A B : Prop} (h : A) : if true = true then A else B := by rw [if_pos rfl]; exact h
theorem itF {A B : Prop} (h : B) : if false = true then A else B := by rw [if_neg (by decide)]; exact h
def Ext (H H' : Hp) : Prop := ∀ b o, H b = some o -> H' b = some o
theorem Ext.refl (H : Hp) : Ext H H := fun _ _ h => h
theorem Ext.trans {H H1 H2 : Hp} (a : Ext H H1) (b : Ext H1 H2) : Ext H H2 := fun x o h => b x o (a x o h)
theorem Ext.new {H : Hp} {p : Addr} {o : HO} (h : H p = none) : Ext H (upd H p o) := fun b u e => by rw [upd_ne (ne_of_none e h)]; exact e
theorem SqT.ext {K : Frag} {H H' : Hp} {p : Addr} {xs : List V} (h : SqT K H p xs) (e : Ext H H') : SqT K H' p xs := by
 rcases h with h | h
 ·left;rcases h with h | ⟨o, h⟩
  ·exact .inl (e _ _ h)
  ·exact .inr ⟨o, e _ _ h⟩
 ·exact .inr h
theorem SqL.ext {K : Frag} {H H' : Hp} {s : Addr} {xs : List V} (h : SqL K H s xs) (x : Ext H H') : SqL K H' s xs := by
 rcases h with h | h
 ·rcases h with h | ⟨o, h⟩
  ·exact .inl (.inl (x _ _ h))
  ·exact .inl (.inr ⟨o, x _ _ h⟩)
 ·exact .inr h
theorem pe_ty {X : Cx} {x : Str} {n : String} {pos : Pos} (hg : Gl X x) (hm : X.mg x = none) (hv : bootBuiltins x = some (.type n)) (hn : x ≠ "__name__" := by decide +kernel) (hd : (x == ("__debug__" : Str)) = false := by decide) : PE X (.Name x pos) (tC (.ty n)) :=
 pe_bltn hg hm hv (show RelV (.ty n) (.type n) from rfl) hn hd
def Kd (K : Frag) (H : Hp) (x : V) (t : Value) : Prop := TyOf K H x t \/ (∃ p xs, x = .ref p /\ SqT K H p xs /\ t = .type "tuple") \/ (∃ a C, x = .ref a /\ ErrAt H a C /\ ErrI K C /\ t = .ref C)
def rIsK (K : Frag) : List V -> Hp -> VK -> Prop := fun vs H Q => ∃ x n t b, vs = [x, .ty n] /\ Kd K H x t /\ kitOne K t (.type n) = some b /\ Q (.bl b) H
theorem call_isK {X : Cx} (N : IsT X.K) : CallR X (.builtin "isinstance") (rIsK X.K) := by
 intro pins s σ H xs us Q I r h;obtain ⟨x, n, t, b, rfl, kd, e, q⟩ := h;obtain ⟨u, u', rfl, ru, ru'⟩ := vals2 r;cases (show u' = Value.type n from ru');rcases kd with ty | ⟨p, ys, rfl, hq, rfl⟩ | ⟨a, C, rfl, ea, T, rfl⟩
 ·exact isinst_ok I ru ty e fun tk => ⟨.bl b, H, I.tok _, rfl, q⟩
 ·cases (show u = Value.ref p from ru);obtain ⟨its, _, ⟨o, h1, h2, _⟩, _⟩ := I.tuple hq;exact kia_one kitx_tuple I.kIn ⟨o, h1, h2⟩ e (fun z => nomatch z) fun tk => ⟨.bl b, H, I.tok _, rfl, q⟩
 ·cases (show u = Value.ref a from ru);exact kia_one (kitErr T N.gt N.tk) I.kIn (ea.inst I.hok) e (fun z => nomatch z) fun tk => ⟨.bl b, H, I.tok _, rfl, q⟩
theorem ErrAt.ext {H H' : Hp} {a C : Addr} (e : ErrAt H a C) (x : Ext H H') : ErrAt H' a C := by
 rcases e with e | ⟨dx, fs, e1, e2⟩
 ·exact .inl (x _ _ e)
 ·exact .inr ⟨dx, fs, x _ _ e1, x _ _ e2⟩
theorem TyOf.ext {K : Frag} {H H' : Hp} {x : V} {t : Value} (h : TyOf K H x t) (e : Ext H H') : TyOf K H' x t := by
 cases h with
 | non => exact .non
 | bl b => exact .bl b
 | int i => exact .int i
 | str z => exact .str z
 | flt z => exact .flt z
 | lst q => exact .lst (e _ _ q)
 | frz q => exact .frz (e _ _ q)
 | tup q => exact .tup (e _ _ q)
 | dK q => exact .dK (e _ _ q)
 | dT q => exact .dT (e _ _ q)
 | ins q cl ha hn htk hm => exact .ins (e _ _ q) cl ha hn htk hm
theorem Kd.ext {K : Frag} {H H' : Hp} {x : V} {t : Value} (h : Kd K H x t) (e : Ext H H') : Kd K H' x t := by
 rcases h with ty | ⟨p, ys, rfl, hq, rfl⟩ | ⟨a, C, rfl, ea, T, rfl⟩
 ·exact .inl (My.TyOf.ext ty e)
 ·exact .inr (.inl ⟨p, ys, rfl, My.SqT.ext hq e, rfl⟩)
 ·exact .inr (.inr ⟨a, C, rfl, ea.ext e, T, rfl⟩)
def NoInt (K : Frag) (H : Hp) (x : V) : Prop := (∀ i, x ≠ .int i) /\ ∃ t b1 b2, Kd K H x t /\ kitOne K t (.type "int") = some b1 /\ kitOne K t (.type "bool") = some b2 /\ (b1 && !b2) = false
def Th (K : Frag) (H : Hp) (x : V) : Prop := (∃ i, x = .int i) \/ NoInt K H x
def numB : V -> Bool
 | .int _ => true
 | _ => false
def inB (lo hi : Int) : V -> Bool
 | .int i => decide (lo <= i) && decide (i <= hi)
 | _ => false
theorem numB_no {x : V} (h : ∀ i, x ≠ .int i) : numB x = false := by
 cases x with
 | int i => exact absurd rfl (h i)
 | _ => rfl
theorem inB_no {lo hi : Int} {x : V} (h : ∀ i, x ≠ .int i) : inB lo hi x = false := by
 cases x with
 | int i => exact absurd rfl (h i)
 | _ => rfl
section
variable {P : Program} {w : World} {K : Frag} {mg : Str -> Option Value} {base : Heap}
theorem k_ii : kitOne K (.type "int") (.type "int") = some true := rfl
theorem k_ib : kitOne K (.type "int") (.type "bool") = some false := rfl
end
set_option exponentiation.threshold 10000
def keyD : Key -> PyData
 | .inl i => .int i
 | .inr x => .str x
 | .non => .none
mutual
inductive Rds (G : Hp) : V -> PyData -> Prop
 | non : Rds G .non .none
 | bl (b : Bool) : Rds G (.bl b) (.bool b)
 | int (i : Int) : Rds G (.int i) (.int i)
 | str (x : Str) : Rds G (.str x) (.str x)
 | lst {a : Addr} {xs : List V} {ds : List PyData} : G a = some (.lst xs) -> RdsAll G xs ds -> Rds G (.ref a) (.list ds)
 | tup {a : Addr} {xs : List V} {ds : List PyData} : G a = some (.tup xs) -> RdsAll G xs ds -> Rds G (.ref a) (.tuple ds)
 | dic0 {a : Addr} : G a = some (.dK []) -> Rds G (.ref a) (.dict [])
 | dic {a : Addr} {k : Key} {v : V} {d : PyData} : G a = some (.dK [(k, v)]) -> Rds G v d -> Rds G (.ref a) (.dict [(keyD k, d)])
inductive RdsAll (G : Hp) : List V -> List PyData -> Prop
 | nil : RdsAll G [] []
 | cons {v : V} {vs : List V} {d : PyData} {ds : List PyData} : Rds G v d -> RdsAll G vs ds -> RdsAll G (v :: vs) (d :: ds)
end
mutual
theorem Rds.mono {G G' : Hp} (s : Ext G G') : ∀ {v : V} {d : PyData}, Rds G v d -> Rds G' v d
 | _, _, .non => .non
 | _, _, .bl b => .bl b
 | _, _, .int i => .int i
 | _, _, .str x => .str x
 | _, _, .lst e r => .lst (s _ _ e) (RdsAll.mono s r)
 | _, _, .tup e r => .tup (s _ _ e) (RdsAll.mono s r)
 | _, _, .dic0 e => .dic0 (s _ _ e)
 | _, _, .dic e r => .dic (s _ _ e) (Rds.mono s r)
theorem RdsAll.mono {G G' : Hp} (s : Ext G G') : ∀ {vs : List V} {ds : List PyData}, RdsAll G vs ds -> RdsAll G' vs ds
 | _, _, .nil => .nil
 | _, _, .cons r t => .cons (Rds.mono s r) (RdsAll.mono s t)
end
theorem RdsAll.length {G : Hp} : ∀ {vs : List V} {ds : List PyData}, RdsAll G vs ds -> vs.length = ds.length
 | _, _, .nil => rfl
 | _, _, .cons _ t => by rw [List.length_cons, List.length_cons, t.length]
theorem RdsAll.append {G : Hp} : ∀ {vs ws : List V} {ds es : List PyData}, RdsAll G vs ds -> RdsAll G ws es -> RdsAll G (vs ++ ws) (ds ++ es)
 | _, _, _, _, .nil, s => s
 | _, _, _, _, .cons r t, s => .cons r (t.append s)
section
variable {P : Program} {w : World} {H : Hp} {h : Heap}
theorem key_reads {k : Key} {u : Value} (r : (mixKind P w).is k u = true) : Reads h u (keyD k) [] := by
 rw [mixKind_is] at r;rcases keyIs_shape r with ⟨i, t, rfl, rfl⟩ | ⟨x, t, rfl, rfl⟩ | ⟨rfl, rfl⟩
 ·exact .int i t
 ·exact .str x t
 ·exact .none
theorem pairs0 {es : List DictEntry} (ps : Pairs (mixKind P w) es ([] : List (Key × Value))) : es = [] := by
 cases ps;rfl
theorem pairs1 {es : List DictEntry} {k : Key} {u : Value} (ps : Pairs (mixKind P w) es [(k, u)]) : ∃ e, es = [e] /\ (mixKind P w).is k e.key = true /\ e.val = u := by
 cases ps with
 | cons h1 h2 h3 =>
  cases h3;exact ⟨_, rfl, h1, h2⟩
mutual
theorem reads_of (ok : HOk P w H h) (z : H sysModules = none) : ∀ {v : V} {d : PyData} {u : Value}, Rds H v d -> RelV v u -> ∃ as, Reads h u d as /\ sysModules ∉ as
 | _, _, _, .non, r => by cases r; exact ⟨[], .none, by simp⟩
 | _, _, _, .bl b, r => by cases r; exact ⟨[], .bool b, by simp⟩
 | _, _, _, .int i, r => by obtain ⟨t, rfl⟩ := r; exact ⟨[], .int i t, by simp⟩
 | _, _, _, .str x, r => by obtain ⟨t, rfl⟩ := r; exact ⟨[], .str x t, by simp⟩
 | _, _, _, .lst (a := a) e t, r => by
  cases r;obtain ⟨_, its, n, rv, ho⟩ := (show ObjOk P w H h _ (.lst _) from ok _ _ e);obtain ⟨as, ra, na⟩ := readsAll_of ok z t rv;refine ⟨a :: as, .list ho rfl rfl (by simpa using ra), ?_⟩
  intro m;rcases List.mem_cons.mp m with m | m
  ·rw [<- m, z] at e; cases e
  ·exact na m
 | _, _, _, .tup (a := a) e t, r => by
  cases r;obtain ⟨_, its, rv, o, ho, hc, n, hd⟩ := (show ObjOk P w H h _ (.tup _) from ok _ _ e);obtain ⟨as, ra, na⟩ := readsAll_of ok z t rv;exact ⟨as, .tuple ho hc hd (by simpa using ra), na⟩
 | _, _, _, .dic0 (a := a) e, r => by
  cases r;obtain ⟨_, hs, vs, kv, o, es, ep, ho, hx, hd, hks, hps, hnd⟩ := (show ObjOk P w H h _ (.dK _) from ok _ _ e);cases kv;have ee : es.toList = [] := pairs0 hps;refine ⟨a :: [] ++ [], .dict (kvs := []) ho hx.1 hd (by rw [ee]; exact .nil) (by rw [ee]; exact .nil), ?_⟩
  intro m;have m' : sysModules = a := by simpa using m
  rw [<- m', z] at e; cases e
 | _, _, _, .dic (a := a) (k := k) e t, r => by
  cases r;obtain ⟨_, hs, vs, kv, o, es, ep, ho, hx, hd, hks, hps, hnd⟩ := (show ObjOk P w H h _ (.dK _) from ok _ _ e);cases kv with
  | cons q q' =>
   cases q';obtain ⟨hq1, hq2⟩ := q;obtain ⟨e0, ee, ek, ev⟩ := pairs1 hps;rw [<- ev] at hq2;rw [<- hq1] at ek;obtain ⟨as, ra, na⟩ := reads_of ok z t hq2;have rk : ReadsAll h [e0.key] [keyD k] ([] ++ []) := .cons (key_reads ek) .nil;have rv : ReadsAll h [e0.val] [_] (as ++ []) := .cons ra .nil;refine ⟨a :: ([] ++ []) ++ (as ++ []), .dict (kvs := [(keyD k, _)]) ho hx.1 hd (by rw [ee]; exact rk) (by rw [ee]; exact rv), ?_⟩
   intro m;rw [List.append_nil, List.append_nil] at m;rcases List.mem_cons.mp m with m | m
   ·rw [<- m, z] at e; cases e
   ·exact na (by simpa using m)
theorem readsAll_of (ok : HOk P w H h) (z : H sysModules = none) : ∀ {vs : List V} {ds : List PyData} {us : List Value}, RdsAll H vs ds -> Vals vs us -> ∃ as, ReadsAll h us ds as /\ sysModules ∉ as
 | _, _, _, .nil, r => by cases r; exact ⟨[], .nil, by simp⟩
 | _, _, _, .cons r t, rv => by
  cases rv with
  | cons q qs =>
   obtain ⟨as, ra, na⟩ := reads_of ok z r q;obtain ⟨bs, rb, nb⟩ := readsAll_of ok z t qs;refine ⟨as ++ bs, .cons ra rb, fun m => ?_⟩;rcases List.mem_append.mp m with m | m
   ·exact na m
   ·exact nb m
end
end
def kindD : PyData -> String
 | .none => "NoneType"
 | .bool _ => "bool"
 | .int _ => "int"
 | .str _ => "str"
 | .list _ => "list"
 | .tuple _ => "tuple"
 | _ => "dict"
def tupB : PyData -> Bool
 | .tuple _ => true
 | _ => false
def inD (lo hi : Int) : PyData -> Bool
 | .int i => decide (lo <= i) && decide (i <= hi)
 | _ => false
section
variable {K : Frag} {H : Hp} {v : V} {d : PyData}
theorem Rds.ty (r : Rds H v d) : TyOf K H v (.type (kindD d)) := by
 cases r with
 | non => exact .non
 | bl b => exact .bl b
 | int i => exact .int i
 | str x => exact .str x
 | lst e _ => exact .lst e
 | tup e _ => exact .tup e
 | dic0 e => exact .dK e
 | dic e _ => exact .dK e
theorem Rds.kd (r : Rds H v d) : Kd K H v (.type (kindD d)) := .inl r.ty
theorem Rds.isT (r : Rds H v d) : kitOne K (.type (kindD d)) (.type "tuple") = some (tupB d) := by cases r <;> rfl
theorem Rds.th (r : Rds H v d) : Th K H v := by
 cases r with
 | int i => exact .inl ⟨i, rfl⟩
 | non => exact .inr ⟨fun i z => (by cases z), _, _, _, .inl .non, rfl, rfl, rfl⟩
 | bl b => exact .inr ⟨fun i z => (by cases z), _, _, _, .inl (.bl b), rfl, rfl, rfl⟩
 | str x => exact .inr ⟨fun i z => (by cases z), _, _, _, .inl (.str x), rfl, rfl, rfl⟩
 | lst e _ => exact .inr ⟨fun i z => (by cases z), _, _, _, .inl (.lst e), rfl, rfl, rfl⟩
 | tup e _ => exact .inr ⟨fun i z => (by cases z), _, _, _, .inl (.tup e), rfl, rfl, rfl⟩
 | dic0 e => exact .inr ⟨fun i z => (by cases z), _, _, _, .inl (.dK e), rfl, rfl, rfl⟩
 | dic e _ => exact .inr ⟨fun i z => (by cases z), _, _, _, .inl (.dK e), rfl, rfl, rfl⟩
theorem Rds.inB (r : Rds H v d) (lo hi : Int) : My.inB lo hi v = inD lo hi d := by cases r <;> rfl
theorem rds_tup (r : Rds H v (.tuple ds)) : ∃ a xs, v = .ref a /\ H a = some (.tup xs) /\ RdsAll H xs ds := by
 cases r with
 | tup e t => exact ⟨_, _, rfl, e, t⟩
theorem RdsAll.get {xs : List V} {ds : List PyData} (r : RdsAll H xs ds) : ∀ {i : Nat} {x : V}, xs[i]? = some x -> ∃ d, ds[i]? = some d /\ Rds H x d := by
 induction xs generalizing ds with
 | nil => intro i x h; simp at h
 | cons y ys ih =>
  cases r with
  | cons q t =>
   intro i x h;cases i with
   | zero => cases h; exact ⟨_, rfl, q⟩
   | succ i => exact ih t h
end
end My
namespace My
open PySem L2
structure Bx (p : Prop) : Prop where
 h : p
section
variable {X : Cx} {e a b : Expr} {es : List Expr} {te ta tb : TE} {t : TA} {pos : Pos} {st : Stmt} {rest : List Stmt} {ts u v : TS}
theorem bxa_nil : Bx (PA X [] tNl) := ⟨pan⟩
theorem bac (ha : Bx (PE X e te)) (hr : Bx (PA X es t)) (hs : starEach (e :: es) X.env = (false, eval e X.env) :: starEach es X.env := by rfl) : Bx (PA X (e :: es) (tCn te t)) := ⟨pac ha.h hr.h hs⟩
theorem bx_lst (h : Bx (PA X es t)) : Bx (PE X (.List es pos) (tLst t)) := ⟨pe_lst h.h⟩
theorem bx_ret (h : Bx (PE X e te)) : Bx (PS X (.Return (some e) pos) (tRet te)) := ⟨prt h.h⟩
theorem bxs_one (h : Bx (PS X st ts)) : Bx (PSs X [st] ts) := ⟨pss_one h.h⟩
theorem bsc (h : Bx (PS X st ts)) (k : Bx (PSs X rest u)) : Bx (PSs X (st :: rest) (tSq ts u)) := ⟨psc h.h k.h⟩
theorem bx_set {i : Nat} {x : Str} {pos' : Pos} (hN : X.N.Nodup) (hi : X.N[i]? = some x) (hx : Loc X.env.scope x) (he : Bx (PE X e te)) (hs : swapsWith e (some (.Name x pos')) pos.line X.env = pure false := by rfl) (hf : X.fn x = true \/ X.env.scope.names.lookup x = some .local := by first | exact .inl rfl | exact .inr rfl | assumption) :
  Bx (PS X (.Assign [.Name x pos'] e pos) (tAg te (gNm i))) := ⟨pst hN hi hx he.h hs hf⟩
end
end My
namespace My
open PySem PySem.W L2
open AutoSeq1 (wpAny_loadPart')
section
variable {prog : Program} {w : World} {A : Around} {E : Value -> Shared -> Prop} {s : Shared} {r : Addr} {a b c : Int} {t u v : Tok} {n : Nat}
theorem collect_range {Q : List Value -> Shared -> Prop} (hh : A.handled = none) (hr : IsRange s.heap r a b c t u v) (hsmall : Builtin.Range.small a b c = true) (hn : Builtin.Range.rangeSize a b c = n) (hlen : n <= 2 ^ 24)
  (hQ : ∀ h' tk acc, (∀ b o, s.heap.get? b = some o -> h'.get? b = some o) -> ItemsOf (fun i v => ∃ t, v = .int (a + i * c) t) acc n -> Q acc.toList { s with heap := h', toks := tk }) :
  wpAny (model prog w) A (collect (.ref r)) Q E s := by
 unfold collect;refine wpAny_bind (wpAny_runValue (codeAny_builtin F.entry_proto_collect ?_));rw [Around.under_plainId F.plain_proto_collect _];show wpAny _ A.in1 (newList [] >>= fun l => again (.builtin "list.__iadd__" ⟨[l, .ref r], []⟩)) _ _ s;refine wpAny_bind (wpAny_newObj_type ?_);refine wpAny_pure ⟨plainId_quiet F.plain_list_iadd _, codeAny_builtin F.entry_list_iadd ?_⟩;rw [Around.under_plainId F.plain_list_iadd _];show wpAny _ A.in1 (Builtin.List.listExtendWith (.ref s.heap.objs.size) (.ref r) (.ref s.heap.objs.size)) _ _ _;have hS : (s.heap.push { cls := .type "list", data := .seq ([] : List Value).toArray }).get? s.heap.objs.size = some { cls := .type "list", data := .seq #[] 0 } := Heap.get?_push_size _ rfl;refine wpAny_mono (wpAny_extend_range (A := A) (R := fun x s' => ∃ h' tk acc c', x = .ok (.ret (.ref s.heap.objs.size)) /\ s' = { s with heap := h', toks := tk } /\ (∀ b o, s.heap.get? b = some o -> h'.get? b = some o) /\ h'.get? s.heap.objs.size = some { cls := .type "list", dict := none, data := .seq acc c', slots := #[] } /\ ItemsOf (fun i v => ∃ t, v = .int (a + i * c) t) acc n)
  (s := { s with heap := s.heap.push { cls := .type "list", data := .seq ([] : List Value).toArray } }) hh (Heap.get?_push_of_some _ hr) hsmall hn hlen s.heap.objs.size (.ref s.heap.objs.size) 0 hS (fun h' tk acc c' hk hS' hacc => ⟨h', tk, acc, c', rfl, rfl, fun b o e => hk b o (Nat.ne_of_lt (Heap.lt_size e)) (Heap.get?_push_of_some _ e), hS', hacc⟩)) (fun fin s' h => ?_) (fun e s' h => ?_)
 ·have fin' : ∀ s'', (∃ h' tk acc c', s'' = { s with heap := h', toks := tk } /\ (∀ b o, s.heap.get? b = some o -> h'.get? b = some o) /\ h'.get? s.heap.objs.size = some { cls := .type "list", dict := none, data := .seq acc c', slots := #[] } /\ ItemsOf (fun i v => ∃ t, v = .int (a + i * c) t) acc n) -> wpAny (model prog w) A (match Value.ref s.heap.objs.size with
   | Value.ref a => do
    match (<- load a).data with
     | Data.seq xs _ => pure xs.toList
     | _ => unsupported "internal:collect"
   | _ => unsupported "internal:collect") Q E s'' := fun s'' hx => by
   obtain ⟨h', tk, acc, c', rfl, hk, hS', hacc⟩ := hx;show wpAny _ A (load s.heap.objs.size >>= _) _ _ _;refine wpAny_bind (wpAny_load hS' ?_);exact wpAny_pure (hQ h' tk acc hk hacc)
  cases fin with
  | done f =>
   obtain ⟨h', tk, acc, c', e, h⟩ := h;cases e;exact fin' _ ⟨h', tk, acc, c', h⟩
  | again c' => exact ⟨h.1, codeAny_mono h.2 fun x s'' hr => by obtain ⟨h', tk, acc, c', rfl, hr⟩ := hr; exact fin' _ ⟨h', tk, acc, c', hr⟩⟩
 ·obtain ⟨_, _, _, _, e, _⟩ := h;cases e
end
theorem meets_tuple_new_range (r : Addr) (a b c : Int) (t u v : Tok) (n : Nat) (hsmall : Builtin.Range.small a b c = true) (hn : Builtin.Range.rangeSize a b c = n) (hlen : n <= 2 ^ 24) :
  Meets (Builtin.«tuple.__new__» ⟨[.type "tuple", .ref r], []⟩)
   (fun A R s => A.handled = none /\ IsRange s.heap r a b c t u v /\ ∀ (h' : Heap) (tk : Nat) (acc : Array Value), (∀ b o', s.heap.get? b = some o' -> h'.get? b = some o') -> ItemsOf (fun i v => ∃ t, v = .int (a + i * c) t) acc n -> R (.ok (.ret (.ref h'.objs.size))) { s with heap := h'.push { cls := .type "tuple", data := .seq acc }, toks := tk }) :=
 .of_wp fun prog w A R s h => by
  obtain ⟨hh, hr, h⟩ := h;have hsub := sub_tuple_self;have hinit := init_tuple_lookup;have hmh := madeHere_tuple;have hT : s.TypeIs (.ref r) "range" := ⟨_, hr, rfl⟩;have hh1 : A.in1.handled = none := hh
  wp_walk using wpAny_typeOf hT, collect_range hh1 hr hsmall hn hlen
  intro h' tk acc hk hacc;show wpAny _ _ (Builtin.Tuple.tupleExact acc.toList.toArray >>= fun v => ret v) _ _ _;unfold Builtin.Tuple.tupleExact;refine wpAny_bind (wpAny_newObj_type ?_ (show acc.toList.toArray.size <= sizeLine by simp only [Array.toArray_toList]; rw [hacc.1, sizeLine_eq]; omega))
  refine wpAny_pure ⟨_, rfl, ?_⟩;have e : acc.toList.toArray = acc := by simp
  rw [e];exact h h' tk acc hk hacc
theorem call_tuple_range {prog : Program} {w : World} {A : Around} {E : Value -> Shared -> Prop} {s : Shared} {r : Addr} {a b c : Int} {t u v : Tok} {n : Nat} {Q : Value -> Shared -> Prop} (hh : A.handled = none) (hr : IsRange s.heap r a b c t u v) (hsmall : Builtin.Range.small a b c = true) (hn : Builtin.Range.rangeSize a b c = n) (hlen : n <= 2 ^ 24)
  (h : ∀ (h' : Heap) (tk : Nat) (acc : Array Value), (∀ b o', s.heap.get? b = some o' -> h'.get? b = some o') -> ItemsOf (fun i v => ∃ t, v = .int (a + i * c) t) acc n -> Q (.ref h'.objs.size) { s with heap := h'.push { cls := .type "tuple", data := .seq acc }, toks := tk }) :
  wpAny (model prog w) A (call (.type "tuple") [.ref r]) Q E s :=
 callType_new F.called_tuple (by decide) (F.typeCall_tuple_1 _) (F.newCall_tuple_1 _) (fun obj => F.args_object_init_2 obj _) F.entry_tuple_new
  (meets_tuple_new_range r a b c t u v n hsmall hn hlen) ⟨hh, hr, fun h' tk acc hk hacc => ⟨⟨_, Heap.get?_push_size _ rfl, rfl⟩, h h' tk acc hk hacc⟩⟩
def upL (lo : Int) (n : Nat) : List V := (List.range n).map fun i => V.int (lo + (i : Nat))
theorem upL_length (lo : Int) (n : Nat) : (upL lo n).length = n := by unfold upL; simp
theorem upL_vals {lo : Int} {n : Nat} {acc : Array Value} (h : ItemsOf (fun i v => ∃ t, v = Value.int (lo + i * 1) t) acc n) : Vals (upL lo n) acc.toList := by
 have gen : ∀ (xs : List V) (us : List Value), xs.length = us.length -> (∀ (i : Nat) x u, xs[i]? = some x -> us[i]? = some u -> RelV x u) -> Vals xs us := by
  intro xs
  induction xs with
  | nil => intro us l _; cases us with | nil => exact .nil | cons _ _ => cases l
  | cons x xs ih =>
   intro us l g;cases us with
   | nil => cases l
   | cons u us => exact .cons (g 0 x u rfl rfl) (ih us (by simpa using l) fun i x' u' h1 h2 => g (i + 1) x' u' h1 h2)
 refine gen _ _ (by rw [upL_length]; simp [h.1]) fun i x u hx hu => ?_
 unfold upL at hx;rw [List.getElem?_map] at hx;obtain ⟨j, hj, rfl⟩ := Option.map_eq_some_iff.mp hx;have ej : i = j := by
  have := List.getElem?_eq_some_iff.mp hj
  simpa using this.2
 subst ej;obtain ⟨t, e⟩ := h.2 i u (by simpa using hu)
 refine ⟨t, ?_⟩;rw [e, Int.mul_one]
section
variable {X : Cx}
def rRng1 : List V -> Hp -> VK -> Prop := fun vs H Q => ∃ j : Int, vs = [.int j] /\ ∀ r, H r = none -> Q (.ref r) (upd H r (.rng 0 j))
theorem call_rng1 : CallR X (.type "range") rRng1 := by
 intro pins s σ H xs us Q I r h;obtain ⟨j, rfl, q⟩ := h;obtain ⟨u, rfl, t, rfl⟩ := vals1 r;refine call_range_1 ⟨.ref s.heap.objs.size, _, I.laid (t' := s.toks + 1 + 1) (o := .rng 0 j) (fun b o e => Heap.get?_push_of_some _ e) (Nat.le_refl _) ?_, rfl, q _ (I.hok.fresh (Nat.le_refl _))⟩;exact ⟨_, _, _, Heap.get?_push_size _ rfl⟩
def rTupR : List V -> Hp -> VK -> Prop := fun vs H Q => ∃ (p : Addr) (lo hi : Int), vs = [.ref p] /\ H p = some (.rng lo hi) /\ (-(2 ^ 62) <= lo /\ lo < 2 ^ 62 /\ -(2 ^ 62) <= hi /\ hi < 2 ^ 62) /\ (hi - lo).toNat <= 2 ^ 24 /\ ∀ l, H l = none -> Q (.ref l) (upd H l (.tup (upL lo (hi - lo).toNat)))
theorem call_tupR (hc : X.calm = true) : CallR X (.type "tuple") rTupR := by
 intro pins s σ H xs us Q I r h;obtain ⟨p, lo, hi, rfl, hp, ⟨b1, b2, b3, b4⟩, hl, q⟩ := h;obtain ⟨u, rfl, rx⟩ := vals1 r;cases (show u = Value.ref p from rx);obtain ⟨t, u, v, e⟩ := (show ObjOk X.prog X.w H s.heap p (.rng lo hi) from I.hok p _ hp);have en : Builtin.Range.rangeSize lo hi 1 = (((hi - lo).toNat : Nat) : Int) := by rw [rangeSize_one]; split <;> omega
 refine call_tuple_range (I.ok.hd hc) e (small_one b1 b2 b3 b4) en hl fun h' tk acc kp hacc => ?_;have I1 : Inv X pins σ H { s with heap := h' } := I.kept (t' := s.toks) kp
 have ha : acc.toList.toArray = acc := by simp
 have I2 : Inv X pins σ (upd H h'.objs.size (.tup (upL lo (hi - lo).toNat))) { s with heap := h'.push { cls := .type "tuple", data := .seq acc }, toks := tk } :=
  I1.laid (t' := tk) (fun b o e => Heap.get?_push_of_some _ e) (Nat.le_refl _) (show ObjOk X.prog X.w _ _ _ (.tup _) from ⟨by rw [upL_length, sizeLine_eq]; omega, acc.toList, upL_vals hacc, by rw [ha]; exact PyProof.Rows.IsTup.new _ _⟩)
 exact ⟨.ref h'.objs.size, _, I2, rfl, q _ (I1.hok.fresh (Nat.le_refl _))⟩
end
end My
namespace My
open PySem L2
section
variable {X : Cx}
theorem all_range : ∀ (xs : List Bool), (List.range xs.length).all (fun i => xs.getD i false) = xs.all id
 | [] => rfl
 | x :: xs => by
  have ih := all_range xs;rw [List.length_cons, List.range_succ_eq_map, List.all_cons, List.all_map, List.all_cons, <- ih];rfl
def rAll (K : PySem.W.Frag) : List V -> Hp -> VK -> Prop := fun vs H Q => ∃ (l : Addr) (xs : List Bool), vs = [.ref l] /\ SqL K H l (xs.map V.bl) /\ Q (.bl (xs.all id)) H
theorem call_all (hc : X.calm = true) : CallR X (.builtin "all") (rAll X.K) := by
 intro pins s σ H vs us Q I r h;obtain ⟨l, xs, rfl, hl, q⟩ := h;obtain ⟨u, rfl, ru⟩ := vals1 r;cases (show u = Value.ref l from ru);obtain ⟨its, rv, t, hz⟩ := I.list hl;have ll : l < s.heap.objs.size := by obtain ⟨_, e, _⟩ := t.isList; exact Heap.lt_size e
 have len := rv.length;rw [List.length_map] at len;refine call_all_walk (wpAny_pyIter_list t.isList ?_);refine ⟨s.heap.objs.size, [s.heap.objs.size, l], [s.heap.objs.size], its.toArray.size, (fun i v => its.toArray[i]? = some v), _, fun i => xs.getD i false, rfl, Walks.list (A := X.A.in1) (I.ok.hd hc) s.heap.objs.size l (Nat.ne_of_lt ll) its.toArray,
  ⟨⟨_, Heap.get?_push_size _ rfl, rfl, rfl⟩, t.isList.push _⟩, fun i v s' Q' E' hv hq => ?_, fun h' tk hk => ⟨.bl _, H, I.kept (h' := h') (t' := tk) (fun b o e => hk b o (fun m => ?_) (Heap.get?_push_of_some _ e)), ?_, q⟩⟩
 ·have hv' : its[i]? = some v := by simpa using hv
  have lt : i < its.length := (List.getElem?_eq_some_iff.mp hv').1;have lt2 : i < xs.length := by omega
  obtain ⟨u1, e1, q1⟩ := rv.get (i := i) (x := V.bl xs[i]) (by rw [List.getElem?_map, List.getElem?_eq_getElem lt2]; rfl)
  rw [hv'] at e1;cases e1;cases (show v = Value.bool xs[i] from q1);refine wpAny_truthy_bool ?_;have e : xs.getD i false = xs[i] := by simp [lt2]
  rw [<- e];exact hq
 ·rcases List.mem_cons.mp m with e2 | m
  ·exact absurd (Heap.lt_size e) (by rw [e2]; exact Nat.lt_irrefl _)
  ·cases m
 ·show Value.bool _ = Value.bool _;have e := all_range xs;rw [<- e, List.size_toArray, <- len]
end
end My
namespace My
open PySem PySem.W L2
section
variable {K : Frag} {te : TE} {tt : TT} {g : TG} {k : Nat} {cap : St} {D : Addr} {H1 : Hp} {Q : Hp -> Prop} {a : Addr} {xs : List V}
theorem lcG_list (Pv : Nat -> List V -> Hp -> Prop) (hz : xs.length < sizeLine) (h0 : Pv 0 [] (upd H1 D (.lst [])))
  (hl : ∀ i ys H, Pv i ys H -> SqL K H a xs)
  (hs : ∀ i x ys H, xs[i]? = some x -> ys.length = i -> H D = some (.lst ys) -> Pv i ys H -> ∀ os : St, os.length = k -> ∀ R : VK, (∀ y H4, H4 D = some (.lst ys) -> Pv (i + 1) (ys ++ [y]) (upd H4 D (.lst (ys ++ [y]))) -> R y H4) -> g x (os ++ cap) H fun σ2 H0 => (∃ os' : St, os'.length = k /\ σ2 = os' ++ cap) /\ te σ2 H0 R)
  (hd : ∀ ys H, ys.length = xs.length -> H D = some (.lst ys) -> Pv xs.length ys H -> Q H) :
  ∃ W : Nat -> Nat -> List V -> Hp -> Prop, (∃ m, W 0 m [] (upd H1 D (.lst []))) /\
   ∀ i m ys H2, W i m ys H2 -> H2 D = some (.lst ys) /\ (((Itl K a).stop i H2 /\ Q H2) \/ ((Itl K a).go i H2 /\ ys.length < sizeLine /\
    ∀ x H3, (Itl K a).yld i H2 x H3 -> ∀ os : St, os.length = k -> g x (os ++ cap) H3 fun σ2 H0 => (∃ os' : St, os'.length = k /\ σ2 = os' ++ cap) /\ te σ2 H0 fun y H4 => H4 D = some (.lst ys) /\ ∃ m', m' < m /\ W (i + 1) m' (ys ++ [y]) (upd H4 D (.lst (ys ++ [y]))))) := by
 refine ⟨fun i m ys H => m = xs.length - i /\ i <= xs.length /\ ys.length = i /\ H D = some (.lst ys) /\ Pv i ys H, ⟨xs.length, by simp, Nat.zero_le _, rfl, uds, h0⟩, ?_⟩
 rintro i m ys H ⟨rfl, hi, hy, hD, p⟩;refine ⟨hD, ?_⟩;have q := hl i ys H p;by_cases hlt : i < xs.length
 ·refine .inr ⟨⟨xs, xs[i], q, by simp [hlt]⟩, by omega, fun x H' y => ?_⟩
  obtain ⟨e, y⟩ := y;subst e;exact fun os los => hs i x ys _ (y xs q) hy hD p os los _ fun z H4 hD4 p4 => ⟨hD4, xs.length - (i + 1), by omega, rfl, hlt, by rw [List.length_append, hy]; rfl, uds, p4⟩
 ·have e : i = xs.length := by omega
  subst e;exact .inl ⟨⟨xs, q, Nat.le_refl _⟩, hd ys H hy hD p⟩
end
end My
namespace My
open PySem L2
section
variable {X : Cx} {sc : Scope} {cl : List (Str × Addr)} {ts zs : List Str} {js : List Nat} {elt iter c : Expr} {pos : Pos} {tg : Expr} {g : TG} {wi : TI} {te : TE} {tt : TT}
theorem ps_lcG {y : Str} {py spos : Pos} {iy : Nat} (hc : X.calm = true) (S : CompG X sc cl ts zs js) (hi : PI X tg iter wi) (hg : ∀ s H C fp, PG (compCx X sc cl (ts ++ zs) s H C fp) tg g) (he : ∀ s H C fp, PE (compCx X sc cl (ts ++ zs) s H C fp) elt te)
  (hN : X.N.Nodup) (hiy : X.N[iy]? = some y) (hy : Loc X.env.scope y) (hsw : swapsWith (.ListComp elt [⟨tg, iter, [], 0⟩] sc pos) (some (.Name y py)) spos.line X.env = pure true)
  (hf : X.fn y = true \/ X.env.scope.names.lookup y = some .local := by first | exact .inl rfl | exact .inr rfl | assumption)
  (hs : ∀ v, foldedSetIterable iter X.env v = pure v := by intro _; rfl) : PS X (.Assign [.Name y py] (.ListComp elt [⟨tg, iter, [], 0⟩] sc pos) spos) (tAg (tLCG wi ts.length js g te) (gNm iy)) := by
 intro pins s σ H De I h;rw [exec_Assign_Name_used _ _ _ _ hsw];refine wpAny_bind (wpAny_standAt (wpAny_bind ?_));show wpAny _ _ (do let _ <- comprehension (.ListComp elt [⟨tg, iter, [], 0⟩] sc pos) sc X.env _ (newList []) false (eval iter X.env) (some (assign (.Name y py) X.env))) _ _ s
 refine wpAny_bind (wpAny_mono (wpAny_comprehension_free (use := some (assign (.Name y py) X.env)) (Q := fun _ s' => SP X pins De .next s') rfl hs S.clos S.kind S.names ?_) (fun _ s' hq => wpAny_pure (wpAny_pure hq)) fun _ _ e => e);refine (thn (hi pins s σ H _ I h) fun v s1 h1 => thn h1 fun itv s2 h2 => ?_);obtain ⟨it, fp, tn, J, H2, e, I2, T, st2, f2, body⟩ := h2;subst e;have fr2 : H2 s2.heap.objs.size = none := I2.fresh;obtain ⟨W, ⟨m0, w0⟩, turn⟩ := body _ fr2;refine wpAny_newObj_type ?_;have I3 : Inv X pins σ (upd H2 s2.heap.objs.size (.lst [])) { s2 with heap := s2.heap.push { cls := .type "list", data := .seq ([] : List Value).toArray } } := I2.lnew (t' := s2.toks) (ys := []) (its := []) .nil (Nat.zero_le _)
 refine wpAny_newFunctionEnv S.noCell (by intro y hy; simp at hy) (fun h₁ hn hsb => ?_) S.kind
 generalize hs3 : ({ s2 with heap := s2.heap.push { cls := .type "list", data := .seq ([] : List Value).toArray } } : Shared) = s3 at I3 hn hsb ⊢
 have fpl : ∀ b ∈ fp, FpOk X pins (upd H2 s2.heap.objs.size (.lst [])) b /\ b < s3.heap.objs.size := fun b hb => by
  obtain ⟨o, ho, _⟩ := T.obj _ _ st2 b hb;have hl := Heap.lt_size ho;have hne : b ≠ s2.heap.objs.size := Nat.ne_of_lt hl;obtain ⟨z1, z2⟩ := f2 b hb;refine ⟨⟨by rw [upd_ne hne]; exact z1, z2⟩, ?_⟩
  rw [<- hs3];show b < (s2.heap.push _).objs.size;rw [Heap.size_push];exact Nat.lt_succ_of_lt hl
 have old : ∀ b o, s3.heap.get? b = some o -> h₁.get? b = some o := fun b o e => hsb.extBut b o (Nat.ne_of_lt (Heap.lt_size e)) (Heap.get?_push_of_some _ e);have loop : ∀ sS : Shared, sS.heap = h₁ -> sS.os = s3.os -> sS.gens = s3.gens -> codeAny (model X.prog X.w) X.A (.compLoop (.ListComp elt [⟨tg, iter, [], 0⟩] sc pos) 0 (.ref it) (.ref s2.heap.objs.size) (compEnvC sc cl s3.heap.objs.size X.env))
   (compPost (model X.prog X.w) X.A X.xe (some (assign (.Name y py) X.env)) (fun _ s' => SP X pins De .next s') (.ref s2.heap.objs.size) s3.heap.objs.size) sS := by
  intro sS eh eo eg;subst eh;have J0 : Inv (compCx X sc cl (ts ++ zs) s3 (upd H2 s2.heap.objs.size (.lst [])) s3.heap.objs.size fp) [] (List.replicate ts.length none ++ capS js σ) (upd H2 s2.heap.objs.size (.lst [])) sS := compG_start I3 S fpl (Nat.le_refl _) eo eg old hn;generalize hX : compCx X sc cl (ts ++ zs) s3 (upd H2 s2.heap.objs.size (.lst [])) s3.heap.objs.size fp = X' at J0;have stat : ∀ {H' : Hp}, (∀ b ∈ fp, H' b = none) -> ∀ b ∈ fp, FpOk X' [] H' b := fun {H'} hn b hb => by
   subst hX;obtain ⟨⟨_, z1, z2, z3, z4, z5⟩, z6⟩ := fpl b hb;refine ⟨hn b hb, Nat.ne_of_lt z6, fun q => ?_, .inl hb, fun y c e => z4 y c (S.sub _ _ e), fun p hp => absurd (show p ∈ ([] : List (Addr × Obj)) from hp) (by simp)⟩
   rcases List.mem_cons.mp (I3.stkSub b q) with e | e
   ·exact z1 e
   ·exact z2 e
  have st3 : tn 0 sS.heap := T.keep _ _ _ st2 fun b hb o e => old b o (by rw [<- hs3]; exact Heap.get?_push_of_some _ e)
  refine compLoopT (fun n s' => ∃ i ys os H', os.length = ts.length /\ Inv X' [] (os ++ capS js σ) H' s' /\ tn i s'.heap /\ (∀ b ∈ fp, H' b = none) /\ W i n ys H') ?_ m0 ⟨0, [], _, _, List.length_replicate, J0, st3, fun b hb => (fpl b hb).1.1, w0⟩;rintro n s' ⟨i, ys, os, H', los, Iv, st, fr, w⟩;obtain ⟨hD, alt⟩ := turn i n ys H' w;have eP : X'.prog = X.prog := by subst hX; rfl
  have eW : X'.w = X.w := by subst hX; rfl
  have eK : X'.K = X.K := by subst hX; rfl
  have eC : X'.calm = true := by subst hX; exact hc
  have eA : X'.A = X.A := by subst hX; rfl
  have eE : X'.env = compEnvC sc cl s3.heap.objs.size X.env := by subst hX; rfl
  have eX : X'.xe = fun _ _ => False := by subst hX; rfl
  rcases alt with ⟨stop, q⟩ | ⟨go, hlen, step⟩
  ·have d := T.done X' eP eW eK eC i [] s' _ H' (fun _ _ => False) Iv (stat fr) st stop;rw [eA] at d;refine thn d fun r s4 ⟨hr, I4⟩ => ?_;subst hr;obtain ⟨m, hm, _⟩ := id I4.loc;have fC : H' s3.heap.objs.size = none := by
    have z := I4.free;rw [eE] at z;exact z
   rw [eE] at hm;subst hX;have I5 : Inv X pins σ H' s4 := compG_end (h' := s4.heap) I3 fpl (Nat.le_refl _) I4 ⟨rfl, fun _ _ => rfl⟩;show wpAny _ _ (assign (.Name y py) X.env (.ref s2.heap.objs.size)) _ _ s4;have nC : ∀ b, b < s3.heap.objs.size -> b ≠ s3.heap.objs.size := fun b hb => Nat.ne_of_lt hb;have nL : X.env.locals ≠ s3.heap.objs.size := nC _ I3.lt;have cl3 : ∀ z c, X.env.cells.lookup z = some c -> c ≠ s3.heap.objs.size := fun z c e => by
    obtain ⟨v, o, ho, _⟩ := I3.cell z c e;exact nC _ (Heap.lt_size ho)
   refine wpAny_assign_Name (store_ok2 I5 hN hiy hy (v := .ref s2.heap.objs.size) rfl (fun s5 I6 hb => ?_) hf);obtain ⟨a5, sb5, ha5⟩ := hb;have na5 : s3.heap.objs.size ≠ a5 := by
    rcases ha5 with e | e
    ·rw [e]; exact nL.symm
    ·exact (cl3 _ _ e).symm
   refine ⟨m, hm.sameBut sb5 na5, fun h' hs' => ?_⟩;have I7 : Inv X pins (σ.set iy (some (.ref s2.heap.objs.size))) H' { s5 with heap := h', toks := s5.toks } :=
    I6.turned (h' := h') (t' := s5.toks) (it := s3.heap.objs.size) (fun b o hb e => (hs'.2 b hb).trans e) fC nL.symm (.inr I3.sz) cl3 fun p hp => by
     obtain ⟨e1, _⟩ := I3.pin p hp;exact nC _ (Heap.lt_size e1)
   exact ⟨_, H', I7, q⟩
  ·have d := T.item X' eP eW eK eC i [] s' _ H' (fun _ _ => False) Iv (stat fr) st go;rw [eA] at d;refine thn d fun r s4 ⟨u, hr, h4⟩ => ?_;subst hr;refine thn h4 fun _ s5 ⟨y, H5, I5, r5, y5, st5, fr5⟩ => ?_;have I5' := I5.pinned (stat fr5) (T.obj _ _ st5);have hg' : PG X' tg g := by subst hX; exact hg _ _ _ _
   have g6 := hg' _ s5 _ H5 y u _ I5' r5 (step y H5 y5 os los);rw [eP, eW, eA, eE, eX] at g6;refine thn g6 fun _ s6 ⟨σ6, H6, I6, ⟨os', los', e6⟩, st6⟩ => ?_;subst e6;have he' : PE X' elt te := by subst hX; exact he _ _ _ _
   have g7 := he' _ s6 _ H6 _ I6 st6;rw [eP, eW, eA, eE, eX] at g7;refine thn g7 fun uv s7 ⟨v7, H7, I7, r7, hD7, m', hm', w7⟩ => ?_;have g8 := (mt_append (X := X')) _ s7 _ H7 (.ref s2.heap.objs.size) [v7] (.ref s2.heap.objs.size) [uv] (fun _ H8 => H8 = upd H7 s2.heap.objs.size (.lst (ys ++ [v7]))) I7 rfl (.cons r7 .nil) ⟨_, ys, v7, rfl, rfl, hD7, hlen, rfl⟩;rw [eP, eW, eA, eX] at g8;refine thn g8 fun _ s8 ⟨_, H8, I8, _, e8⟩ => ?_;subst e8;refine ⟨m', hm', i + 1, ys ++ [v7], os', _, los', I8.unpinned, T.keep _ _ _ st5 fun b hb o e => (I8.pin (b, o) (List.mem_append_right _ (List.mem_append_right _ (mem_pinsAt hb e)))).1, fun b hb => ?_, w7⟩;obtain ⟨o', e', _⟩ := T.obj _ _ st5 b hb;exact (I8.pin (b, o') (List.mem_append_right _ (List.mem_append_right _ (mem_pinsAt hb e')))).2.1
 have st1 : tn 0 h₁ := T.keep _ _ _ st2 fun b hb o e => old b o (by rw [<- hs3]; exact Heap.get?_push_of_some _ e)
 exact codeAny_compStart_list (loop _ rfl rfl rfl) (T.self _ 0 _ _ _ st1 (loop _ rfl rfl rfl))
end
end My
namespace My
open PySem PySem.W L2
section
variable {K : Frag} {te : TE} {g : TG} {k : Nat} {cap : St} {D : Addr} {H1 : Hp} {Q : Hp -> Prop}
theorem lcG_range {lo : Int} {n : Nat} (Pv : Nat -> List V -> Hp -> Prop) (hz : n < sizeLine) (h0 : Pv 0 [] (upd H1 D (.lst [])))
  (hs : ∀ i ys H, i < n -> ys.length = i -> H D = some (.lst ys) -> Pv i ys H -> ∀ os : St, os.length = k -> ∀ R : VK, (∀ y H4, H4 D = some (.lst ys) -> Pv (i + 1) (ys ++ [y]) (upd H4 D (.lst (ys ++ [y]))) -> R y H4) -> g (.int (lo + i)) (os ++ cap) H fun σ2 H0 => (∃ os' : St, os'.length = k /\ σ2 = os' ++ cap) /\ te σ2 H0 R)
  (hd : ∀ ys H, ys.length = n -> H D = some (.lst ys) -> Pv n ys H -> Q H) :
  ∃ W : Nat -> Nat -> List V -> Hp -> Prop, (∃ m, W 0 m [] (upd H1 D (.lst []))) /\
   ∀ i m ys H2, W i m ys H2 -> H2 D = some (.lst ys) /\ (((Itr lo n).stop i H2 /\ Q H2) \/ ((Itr lo n).go i H2 /\ ys.length < sizeLine /\
    ∀ x H3, (Itr lo n).yld i H2 x H3 -> ∀ os : St, os.length = k -> g x (os ++ cap) H3 fun σ2 H0 => (∃ os' : St, os'.length = k /\ σ2 = os' ++ cap) /\ te σ2 H0 fun y H4 => H4 D = some (.lst ys) /\ ∃ m', m' < m /\ W (i + 1) m' (ys ++ [y]) (upd H4 D (.lst (ys ++ [y]))))) := by
 refine ⟨fun i m ys H => m = n - i /\ i <= n /\ ys.length = i /\ H D = some (.lst ys) /\ Pv i ys H, ⟨n, by simp, Nat.zero_le _, rfl, uds, h0⟩, ?_⟩
 rintro i m ys H ⟨rfl, hi, hy, hD, p⟩;refine ⟨hD, ?_⟩;by_cases hlt : i < n
 ·refine .inr ⟨hlt, by omega, fun x H' y => ?_⟩
  obtain ⟨e, y⟩ := y;subst e y;exact fun os los => hs i ys _ hlt hy hD p os los _ fun z H4 hD4 p4 => ⟨hD4, n - (i + 1), by omega, rfl, hlt, by rw [List.length_append, hy]; rfl, uds, p4⟩
 ·have e : i = n := by omega
  subst e;exact .inl ⟨Nat.le_refl _, hd ys H hy hD p⟩
variable {X : Cx}
theorem ints_items : ∀ {ns : List Int} {its : List Value}, Vals (ns.map V.int) its -> ∃ xs : List (Int × Tok), its = xs.map (fun p => Value.int p.1 p.2) /\ ns = xs.map (·.1)
 | [], _, r => by cases r; exact ⟨[], rfl, rfl⟩
 | n :: ns, _, r => by
  rw [List.map_cons] at r;cases r with
  | cons r1 r2 =>
   obtain ⟨t, rfl⟩ := r1;obtain ⟨xs, e1, e2⟩ := ints_items r2;exact ⟨(n, t) :: xs, by rw [e1]; rfl, by rw [e2]; rfl⟩
theorem numAt_get {xs : List (Int × Tok)} {i : Nat} (h : i < xs.length) : numAt xs.toArray i = (xs.map (·.1))[i]'(by rw [List.length_map]; exact h) := by
 simp [numAt, h]
end
structure OneF (K : Frag) (mg : Str -> Option Value) (D : Addr) (nm fld : Str) (C f : Addr) (fd : FuncData) : Prop where
 cls : ErrC K D nm C f
 mgC : mg nm = some (.ref C)
 ok : ∀ (P : Program) (w : World) (base : Heap), FnOk P w K mg base CX0 1 f fd ["self", fld] (spErr C fld)
 bi : Binds K fd ["self", fld] []
structure Df (P : Program) (w : World) (K : Frag) (mg : Str -> Option Value) (base : Heap) (cx : CXT) (k : Nat) (nm : Str) (ps : List Str) (sp : Sp) (g : Addr) (gd : FuncData) : Prop where
 G : FnOk P w K mg base cx k g gd ps sp
 b : Binds K gd ps []
 kp : keepIn K (.ref g) = true
 m : mg nm = some (.ref g)
theorem passN {P : Program} {w : World} {X : Cx} : Passes (CXE P w) X E0 := fun _ _ _ _ _ _ _ h => by
 obtain ⟨_, _, _, _, _, _, _, _, _, _, _, _, _, h⟩ := h;exact h.elim
def ErrF (C : Addr) (fld : Str) (x : V) (H : Hp) (E : XK) : Prop := ∀ e dx, H e = none -> H dx = none -> dx ≠ e -> E (.ref C) (some e) (upd (upd H dx (.xd [(fld, x)])) e (ErrT e C (some dx)))
def NoK (K : Frag) (H : Hp) (v : V) (n : String) : Prop := ∃ t, Kd K H v t /\ kitOne K t (.type n) = some false
theorem NoK.ext {K : Frag} {H H' : Hp} {v : V} {n : String} (h : NoK K H v n) (x : Ext H H') : NoK K H' v n := by
 obtain ⟨t, k, e⟩ := h;exact ⟨t, k.ext x, e⟩
theorem inD_int {lo hi : Int} {d : PyData} (h : inD lo hi d = true) : ∃ i, d = .int i /\ lo <= i /\ i <= hi := by
 cases d with
 | int i =>
  have h' : (decide (lo <= i) && decide (i <= hi)) = true := h;rw [Bool.and_eq_true, decide_eq_true_iff, decide_eq_true_iff] at h';exact ⟨i, rfl, h'.1, h'.2⟩
 | _ => cases h
theorem ext_upd {H0 H : Hp} {l : Addr} (o : HO) (x : Ext H0 H) (h : H0 l = none) : Ext H0 (upd H l o) := fun b u e => by
 rw [upd_ne (fun z => by rw [z, h] at e; cases e)]
 exact x b u e
theorem take_all {α : Type} {xs : List α} {i : Nat} {x : α} (h : xs[i]? = some x) : xs.take (i + 1) = xs.take i ++ [x] := by
 rw [List.take_succ, h];rfl
def Kept (H H' : Hp) (p : Addr) : Prop := ∀ b o, H b = some o -> b ≠ p -> H' b = some o
theorem Kept.trans {H H1 H2 : Hp} {p : Addr} (x : Kept H H1 p) (y : Kept H1 H2 p) : Kept H H2 p := fun b o h n => y b o (x b o h n) n
theorem Ext.kept {H H' : Hp} (x : Ext H H') (p : Addr) : Kept H H' p := fun b o h _ => x b o h
def wo (H : Hp) (p : Addr) : Hp := fun b => if b = p then none else H b
theorem wo_ext (H : Hp) (p : Addr) : Ext (wo H p) H := fun b o e => by
 unfold wo at e;split at e
 ·cases e
 ·exact e
theorem wo_at {H : Hp} {p b : Addr} {o : HO} (n : b ≠ p) (e : H b = some o) : wo H p b = some o := by unfold wo; rw [if_neg n]; exact e
theorem wo_kept {H H' : Hp} {p : Addr} (k : Kept H H' p) : Ext (wo H p) (wo H' p) := fun b o e => by
 unfold wo at e;split at e
 ·cases e
 ·rename_i n
  exact wo_at n (k b o e n)
structure BoxAt (H : Hp) (p : Addr) : Prop where
 ex : ∃ a b c : Int, H p = some (.lst [.int a, .int b, .int c]) /\ 0 <= a /\ 0 <= b /\ 0 <= c /\ c < 2147483647
structure Fi (k n : Nat) (d : PyData) : Prop where
 sh : d.showable = true
 dp : d.depth <= k
 lv : d.leavesShort 64 = true
 bk : d.bulk <= n
theorem fi_int {i : Int} (h : i.natAbs < 10 ^ 30) : Fi 0 2 (.int i) := by
 refine ⟨?_, by simp [PyData.depth], ?_, by simp [PyData.bulk]⟩
 ·simp only [PyData.showable, decide_eq_true_eq];by_cases z : i.natAbs = 0
  ·rw [z]; decide
  ·exact (Nat.log2_lt z).mpr (Nat.lt_trans h (by decide +kernel))
 ·have e := int_text_length_le10 (k := 30) (by decide) h
  simp only [PyData.leavesShort, PyData.shown];refine decide_eq_true (show (Str.ofString (toString i)).length <= 64 from ?_);rw [ofString_length];omega
theorem fi_small {i : Int} (h1 : -1000000000 <= i) (h2 : i <= 1000000000) : Fi 0 2 (.int i) := fi_int (Nat.lt_of_le_of_lt (show i.natAbs <= 1000000000 by omega) (by decide))
section
variable {K : Frag} {H : Hp} {D : Ends} {σ : St} {p : Addr}
theorem rd_op {r : R2} {ta tb : TE} {Q : VK} (h : ta σ H fun x H1 => tb σ H1 fun y H2 => r x y H2 Q) : tOp r ta tb σ H Q := h
theorem rd_set {te : TE} {i : Nat} {u : TS} (h : te σ H fun v H1 => u D (σ.set i (some v)) H1) : tSq (tAg te (gNm i)) u D σ H := h
variable {G G' : Hp} {xs ys : List V} {n m : Nat}
theorem RdsAll.drop : ∀ {xs : List V} {ds : List PyData} (i : Nat), RdsAll G xs ds -> RdsAll G (xs.drop i) (ds.drop i)
 | _, _, 0, h => h
 | _, _, i + 1, .nil => .nil
 | _, _, i + 1, .cons _ t => RdsAll.drop i t
theorem RdsAll.take : ∀ {xs : List V} {ds : List PyData} (i : Nat), RdsAll G xs ds -> RdsAll G (xs.take i) (ds.take i)
 | _, _, 0, h => .nil
 | _, _, i + 1, .nil => .nil
 | _, _, i + 1, .cons r t => .cons r (RdsAll.take i t)
end
def wt (H : Hp) (p t : Addr) : Hp := wo (wo H p) t
theorem wt_ext (H : Hp) (p t : Addr) : Ext (wt H p t) H := (wo_ext _ t).trans (wo_ext H p)
theorem wt_at {H : Hp} {p t b : Addr} {o : HO} (n : b ≠ p) (m : b ≠ t) (e : H b = some o) : wt H p t b = some o := wo_at m (wo_at n e)
theorem wt_kept {H H' : Hp} {p t : Addr} (k : Kept H H' p) : Ext (wt H p t) (wt H' p t) := wo_kept ((wo_kept k).kept t)
theorem wt_ex {H H' : Hp} (x : Ext H H') (p t : Addr) : Ext (wt H p t) (wt H' p t) := wt_kept (x.kept p)
theorem wo_ne {H : Hp} {p a : Addr} {o : HO} (h : wo H p a = some o) : a ≠ p := fun e => by
 unfold wo at h;rw [if_pos e] at h;cases h
theorem wo_ex {H H' : Hp} (x : Ext H H') (p : Addr) : Ext (wo H p) (wo H' p) := wo_kept (x.kept p)
structure GE (p : Addr) (k m : Nat) (te : TE) : Prop where
 h : ∀ (σ : St) (H : Hp) (Q : VK), BoxAt H p -> (∀ v H', Ext H H' -> (∃ d, Rds (wo H' p) v d /\ Fi k m d) -> Q v H') -> te σ H Q
section
variable {p : Addr} {k m k' m' n : Nat} {te ta tb : TE} {t : TA}
theorem ge_leaf {v : V} {d : PyData} (r : ∀ G, Rds G v d) (f : Fi k m d) : GE p k m (tC v) := ⟨fun σ H Q bx q => q v H (Ext.refl _) ⟨d, r _, f⟩⟩
theorem ge_int {i : Int} (h1 : -1000000000 <= i) (h2 : i <= 1000000000) : GE p 0 2 (tC (.int i)) := ge_leaf (fun _ => .int _) (fi_small h1 h2)
end
theorem rd_lst {t : TA} {σ : St} {H : Hp} {Q : VK} (h : t σ H fun xs H1 => xs.length <= sizeLine /\ ∀ p, H1 p = none -> Q (.ref p) (upd H1 p (.lst xs))) : tLst t σ H Q := h
theorem preSum_take (val : Nat -> Int) (ns : List Int) (h : ∀ (i : Nat) (hi : i < ns.length), val i = ns[i]) : ∀ k, k <= ns.length -> preSum val k = (ns.take k).sum
 | 0, _ => by simp [preSum]
 | k + 1, hk => by
  have ih := preSum_take val ns h k (by omega)
  have e : ns.take (k + 1) = ns.take k ++ [ns[k]] := take_all (List.getElem?_eq_getElem (by omega))
  show preSum val k + val k = _;rw [ih, h k (by omega), e, List.sum_append]
  simp
section
variable {X : Cx}
def rSumL (K : Frag) : List V -> Hp -> VK -> Prop := fun vs H Q => ∃ (l : Addr) (ns : List Int), vs = [.ref l] /\ SqL K H l (ns.map V.int) /\ Q (.int ns.sum) H
theorem call_sumL (hc : X.calm = true) : CallR X (.builtin "sum") (rSumL X.K) := by
 intro pins s σ H xs us Q I r h;obtain ⟨l, ns, rfl, hl, q⟩ := h;obtain ⟨u, rfl, ru⟩ := vals1 r;cases (show u = Value.ref l from ru);obtain ⟨its, rv, p, hz⟩ := I.list hl;obtain ⟨xs, rfl, rfl⟩ := ints_items rv;have e : (xs.map fun p => Value.int p.1 p.2).toArray = intItems xs.toArray := by simp [intItems]
 have hL : s.heap.IsList l (intItems xs.toArray) := by rw [<- e]; exact p.isList
 refine sum_intListG (I.ok.hd hc) hL fun h' tk t' hk => ?_;have es : preSum (numAt xs.toArray) xs.toArray.size = (xs.map (·.1)).sum := by
  have := preSum_take (numAt xs.toArray) (xs.map (·.1)) (fun i hi => numAt_get (by simpa using hi)) xs.toArray.size (by simp)
  rw [this, List.take_of_length_le (by simp)]
 rw [es];exact ⟨.int _, H, I.kept hk, ⟨t', rfl⟩, q⟩
def rIsO (K : Frag) : List V -> Hp -> VK -> Prop := fun vs H Q => ∃ x S t b, vs = [x, .ref S] /\ Kd K H x t /\ kitOne K t (.ref S) = some b /\ Q (.bl b) H
theorem call_isO (N : IsT X.K) : CallR X (.builtin "isinstance") (rIsO X.K) := by
 intro pins s σ H xs us Q I r h;obtain ⟨x, S, t, b, rfl, kd, e, q⟩ := h;obtain ⟨u, u', rfl, ru, ru'⟩ := vals2 r;cases (show u' = Value.ref S from ru');rcases kd with ty | ⟨p, ys, rfl, hq, rfl⟩ | ⟨a, C, rfl, ea, T, rfl⟩
 ·exact isinst_ok I ru ty e fun tk => ⟨.bl b, H, I.tok _, rfl, q⟩
 ·cases (show u = Value.ref p from ru);obtain ⟨its, _, ⟨o, h1, h2, _⟩, _⟩ := I.tuple hq;exact kia_one kitx_tuple I.kIn ⟨o, h1, h2⟩ e (fun z => nomatch z) fun tk => ⟨.bl b, H, I.tok _, rfl, q⟩
 ·cases (show u = Value.ref a from ru);exact kia_one (kitErr T N.gt N.tk) I.kIn (ea.inst I.hok) e (fun z => nomatch z) fun tk => ⟨.bl b, H, I.tok _, rfl, q⟩
end
mutual
def eqD : PyData -> PyData -> Bool
 | .list xs, .list ys => eqDs xs ys
 | .tuple xs, .tuple ys => eqDs xs ys
 | .none, .none => true
 | .bool a, .bool b => a == b
 | .bool a, .int j => (if a then (1 : Int) else 0) == j
 | .int i, .bool b => i == (if b then (1 : Int) else 0)
 | .int i, .int j => i == j
 | .str x, .str y => x == y
 | _, _ => false
def eqDs : List PyData -> List PyData -> Bool
 | [], [] => true
 | x :: xs, y :: ys => eqD x y && eqDs xs ys
 | _, _ => false
end
mutual
def plainD : PyData -> Bool
 | .list xs => plainDs xs
 | .tuple xs => plainDs xs
 | .dict _ => false
 | _ => true
def plainDs : List PyData -> Bool
 | [] => true
 | x :: xs => plainD x && plainDs xs
end
mutual
theorem eqD_refl : ∀ {d : PyData}, plainD d = true -> eqD d d = true
 | .none, _ => by simp [eqD]
 | .bool b, _ => by simp [eqD]
 | .int i, _ => by simp [eqD]
 | .str x, _ => by simp [eqD]
 | .list xs, h => by simp only [eqD]; exact eqDs_refl (by simpa only [plainD] using h)
 | .tuple xs, h => by simp only [eqD]; exact eqDs_refl (by simpa only [plainD] using h)
 | .dict _, h => by simp [plainD] at h
theorem eqDs_refl : ∀ {ds : List PyData}, plainDs ds = true -> eqDs ds ds = true
 | [], _ => by simp [eqDs]
 | d :: ds, h => by
  simp only [plainDs, Bool.and_eq_true] at h;simp only [eqDs, eqD_refl h.1, eqDs_refl h.2, Bool.and_self]
end
mutual
theorem Rds.det {G : Hp} : ∀ {v : V} {d e : PyData}, Rds G v d -> Rds G v e -> d = e
 | _, _, _, .non, r => by cases r; rfl
 | _, _, _, .bl b, r => by cases r; rfl
 | _, _, _, .int i, r => by cases r; rfl
 | _, _, _, .str x, r => by cases r; rfl
 | _, _, _, .lst h t, r => by
  cases r with
  | lst h' t' => rw [h] at h'; cases h'; rw [RdsAll.det t t']
  | tup h' _ => rw [h] at h'; cases h'
  | dic0 h' => rw [h] at h'; cases h'
  | dic h' _ => rw [h] at h'; cases h'
 | _, _, _, .tup h t, r => by
  cases r with
  | lst h' _ => rw [h] at h'; cases h'
  | tup h' t' => rw [h] at h'; cases h'; rw [RdsAll.det t t']
  | dic0 h' => rw [h] at h'; cases h'
  | dic h' _ => rw [h] at h'; cases h'
 | _, _, _, .dic0 h, r => by
  cases r with
  | lst h' _ => rw [h] at h'; cases h'
  | tup h' _ => rw [h] at h'; cases h'
  | dic0 h' => rfl
  | dic h' _ => rw [h] at h'; cases h'
 | _, _, _, .dic h t, r => by
  cases r with
  | lst h' _ => rw [h] at h'; cases h'
  | tup h' _ => rw [h] at h'; cases h'
  | dic0 h' => rw [h] at h'; cases h'
  | dic h' t' => rw [h] at h'; cases h'; rw [Rds.det t t']
theorem RdsAll.det {G : Hp} : ∀ {vs : List V} {ds es : List PyData}, RdsAll G vs ds -> RdsAll G vs es -> ds = es
 | _, _, _, .nil, r => by cases r; rfl
 | _, _, _, .cons h t, r => by
  cases r with
  | cons h' t' => rw [Rds.det h h', RdsAll.det t t']
end
theorem eqDs_all : ∀ (xs ys : List PyData), ((List.range (min xs.length ys.length)).all (fun j => eqD (xs.getD j .none) (ys.getD j .none)) && xs.length == ys.length) = eqDs xs ys
 | [], [] => by simp [eqDs]
 | [], y :: ys => by simp [eqDs]
 | x :: xs, [] => by simp [eqDs]
 | x :: xs, y :: ys => by
  have ih := eqDs_all xs ys;simp only [eqDs];rw [<- ih, List.length_cons, List.length_cons, Nat.succ_min_succ, List.range_succ_eq_map, List.all_cons, List.all_map, Bool.and_assoc]
  congr 1
  rw [show (xs.length + 1 == ys.length + 1) = (xs.length == ys.length) from by simp]
  rfl
section
variable {X : Cx}
structure Rc2 (A : Around) (s : Shared) (u v : Value) (b : Bool) : Prop where
 eq : SeqAt.RcAt A s u v b
 ne : SeqAt.RcNeAt A s u v (!b)
structure Rc3 (A : Around) (s : Shared) (u v : Value) (b : Bool) : Prop where
 eq : SeqAt.RcAt A s u v b
 ne : SeqAt.RcNeAt A s u v (!b)
 at_ : SeqAt.EqAt A s u v b
theorem tups_rc {A : Around} {s : Shared} {p q : Addr} {its jts : List Value} (hu : A.units < cLine) (t1 : s.heap.IsTuple p its.toArray) (t2 : s.heap.IsTuple q jts.toArray) (e : Nat -> Bool) (he : ∀ j (h1 : j < its.length) (h2 : j < jts.length), SeqAt.EqAt A.in1 s its[j] jts[j] (e j)) :
  Rc2 A s (.ref p) (.ref q) ((List.range (min its.length jts.length)).all e && its.length == jts.length) := by
 have h' : ∀ j (h1 : j < its.toArray.size) (h2 : j < jts.toArray.size), SeqAt.EqAt A.in1 s its.toArray[j] jts.toArray[j] (e j) := fun j h1 h2 => by
  simpa using he j (by simpa using h1) (by simpa using h2)
 have a := SeqAt.RcAt.tuples (e := e) t1 t2 hu h';have b := SeqAt.RcNeAt.tuples (e := e) t1 t2 hu h';rw [List.size_toArray, List.size_toArray] at a b;exact ⟨a, b⟩
theorem lsts_rc {A : Around} {s : Shared} {p q : Addr} {its jts : List Value} (hu : A.units < cLine) (t1 : s.heap.IsList p its.toArray) (t2 : s.heap.IsList q jts.toArray) (e : Nat -> Bool) (he : ∀ j (h1 : j < its.length) (h2 : j < jts.length), SeqAt.EqAt A.in1 s its[j] jts[j] (e j)) :
  Rc2 A s (.ref p) (.ref q) ((List.range (min its.length jts.length)).all e && its.length == jts.length) := by
 have h' : ∀ j (h1 : j < its.toArray.size) (h2 : j < jts.toArray.size), SeqAt.EqAt A.in1 s its.toArray[j] jts.toArray[j] (e j) := fun j h1 h2 => by
  simpa using he j (by simpa using h1) (by simpa using h2)
 by_cases sz : its.length = jts.length
 ·have a := SeqAt.RcAt.lists (e := e) t1 t2 (by simpa using sz) hu h'
  have b := SeqAt.RcNeAt.lists (e := e) t1 t2 (by simpa using sz) hu h'
  rw [List.size_toArray] at a b;have z : ((List.range (min its.length jts.length)).all e && its.length == jts.length) = (List.range its.length).all e := by
   rw [sz, Nat.min_self];simp
  rw [z];exact ⟨a, b⟩
 ·have z : ((List.range (min its.length jts.length)).all e && its.length == jts.length) = false := by
   rw [show (its.length == jts.length) = false from by simpa using sz]
   simp
  rw [z];exact ⟨SeqAt.RcAt.lists_lengths t1 t2 (by simpa using sz) hu, SeqAt.RcNeAt.lists_lengths t1 t2 (by simpa using sz) hu⟩
mutual
theorem eqD_rc {pins : List (Addr × Obj)} {σ : St} {H : Hp} {s : Shared} (I : Inv X pins σ H s) : ∀ {x : V} {d : PyData}, Rds H x d -> ∀ {A : Around} {y : V} {e : PyData} {u v : Value}, Rds H y e -> plainD d = true -> plainD e = true -> A.units + d.depth < cLine -> RelV x u -> RelV y v -> Rc3 A s u v (eqD d e)
 | _, _, .non, A, y, e, u, v, ry, pd, pe, hu, ru, rv => by
  have h0 : A.units < cLine := by omega
  cases ru;cases ry with
  | non => cases rv; simp only [eqD]; exact ⟨.none_none, .none_none, .same _⟩
  | bl b => cases rv; simp only [eqD]; exact ⟨.none_bool _, .none_bool _, .none_bool _⟩
  | int j => obtain ⟨t, rfl⟩ := rv; simp only [eqD]; exact ⟨.none_int _ _, .none_int _ _, .none_int _ _⟩
  | str z => obtain ⟨t, rfl⟩ := rv; simp only [eqD]; exact ⟨.none_str _ _, .none_str _ _, .none_str _ _⟩
  | lst h _ => cases rv; obtain ⟨its, _, t, _⟩ := I.list (SqL.of (K := X.K) h); simp only [eqD]; exact ⟨.none_list t.isList h0, .none_list t.isList h0, .none_list t.isList h0⟩
  | tup h _ => cases rv; obtain ⟨its, _, t, _⟩ := I.tuple (SqT.of (K := X.K) h); simp only [eqD]; exact ⟨.none_tuple t h0, .none_tuple t h0, .none_tuple t h0⟩
  | dic0 _ => simp [plainD] at pe
  | dic _ _ => simp [plainD] at pe
 | _, _, .bl a, A, y, e, u, v, ry, pd, pe, hu, ru, rv => by
  have h0 : A.units < cLine := by omega
  cases ru;cases ry with
  | non => cases rv; simp only [eqD]; exact ⟨.bool_none _, .bool_none _, .bool_none _⟩
  | bl b => cases rv; simp only [eqD]; exact ⟨.bool_bool _ _, .bool_bool _ _, .bool_bool _ _⟩
  | int j => obtain ⟨t, rfl⟩ := rv; simp only [eqD]; exact ⟨.bool_int _ _ _, .bool_int _ _ _, .bool_int _ _ _⟩
  | str z => obtain ⟨t, rfl⟩ := rv; simp only [eqD]; exact ⟨.bool_str _ _ _, .bool_str _ _ _, .bool_str _ _ _⟩
  | lst h _ => cases rv; obtain ⟨its, _, t, _⟩ := I.list (SqL.of (K := X.K) h); simp only [eqD]; exact ⟨.bool_list _ t.isList h0, .bool_list _ t.isList h0, .bool_list _ t.isList h0⟩
  | tup h _ => cases rv; obtain ⟨its, _, t, _⟩ := I.tuple (SqT.of (K := X.K) h); simp only [eqD]; exact ⟨.bool_tuple _ t h0, .bool_tuple _ t h0, .bool_tuple _ t h0⟩
  | dic0 _ => simp [plainD] at pe
  | dic _ _ => simp [plainD] at pe
 | _, _, .int i, A, y, e, u, v, ry, pd, pe, hu, ru, rv => by
  have h0 : A.units < cLine := by omega
  obtain ⟨tu, rfl⟩ := ru;cases ry with
  | non => cases rv; simp only [eqD]; exact ⟨.int_none _ _, .int_none _ _, .int_none _ _⟩
  | bl b => cases rv; simp only [eqD]; exact ⟨.int_bool _ _ _, .int_bool _ _ _, .int_bool _ _ _⟩
  | int j => obtain ⟨t, rfl⟩ := rv; simp only [eqD]; exact ⟨.int_int _ _ _ _, .int_int _ _ _ _, .int_int _ _ _ _⟩
  | str z => obtain ⟨t, rfl⟩ := rv; simp only [eqD]; exact ⟨.int_str _ _ _ _, .int_str _ _ _ _, .int_str _ _ _ _⟩
  | lst h _ => cases rv; obtain ⟨its, _, t, _⟩ := I.list (SqL.of (K := X.K) h); simp only [eqD]; exact ⟨.int_list _ _ t.isList h0, .int_list _ _ t.isList h0, .int_list _ _ t.isList h0⟩
  | tup h _ => cases rv; obtain ⟨its, _, t, _⟩ := I.tuple (SqT.of (K := X.K) h); simp only [eqD]; exact ⟨.int_tuple _ _ t h0, .int_tuple _ _ t h0, .int_tuple _ _ t h0⟩
  | dic0 _ => simp [plainD] at pe
  | dic _ _ => simp [plainD] at pe
 | _, _, .str x, A, y, e, u, v, ry, pd, pe, hu, ru, rv => by
  have h0 : A.units < cLine := by omega
  obtain ⟨tu, rfl⟩ := ru;cases ry with
  | non => cases rv; simp only [eqD]; exact ⟨.str_none _ _, .str_none _ _, .str_none _ _⟩
  | bl b => cases rv; simp only [eqD]; exact ⟨.str_bool _ _ _, .str_bool _ _ _, .str_bool _ _ _⟩
  | int j => obtain ⟨t, rfl⟩ := rv; simp only [eqD]; exact ⟨.str_int _ _ _ _, .str_int _ _ _ _, .str_int _ _ _ _⟩
  | str z => obtain ⟨t, rfl⟩ := rv; simp only [eqD]; exact ⟨.str_str _ _ _ _, .str_str _ _ _ _, .str_str _ _ _ _⟩
  | lst h _ => cases rv; obtain ⟨its, _, t, _⟩ := I.list (SqL.of (K := X.K) h); simp only [eqD]; exact ⟨.str_list _ _ t.isList h0, .str_list _ _ t.isList h0, .str_list _ _ t.isList h0⟩
  | tup h _ => cases rv; obtain ⟨its, _, t, _⟩ := I.tuple (SqT.of (K := X.K) h); simp only [eqD]; exact ⟨.str_tuple _ _ t h0, .str_tuple _ _ t h0, .str_tuple _ _ t h0⟩
  | dic0 _ => simp [plainD] at pe
  | dic _ _ => simp [plainD] at pe
 | _, _, .lst (a := a') (xs := xs) (ds := ds) h rs, A, y, e, u, v, ry, pd, pe, hu, ru, rv => by
  have h0 : A.units < cLine := by omega
  cases ru;obtain ⟨its, r1, t1, _⟩ := I.list (SqL.of (K := X.K) h);cases ry with
  | non => cases rv; simp only [eqD]; exact ⟨.list_none t1.isList h0, .list_none t1.isList h0, .list_none t1.isList h0⟩
  | bl b => cases rv; simp only [eqD]; exact ⟨.list_bool _ t1.isList h0, .list_bool _ t1.isList h0, .list_bool _ t1.isList h0⟩
  | int j => obtain ⟨t, rfl⟩ := rv; simp only [eqD]; exact ⟨.list_int _ _ t1.isList h0, .list_int _ _ t1.isList h0, .list_int _ _ t1.isList h0⟩
  | str z => obtain ⟨t, rfl⟩ := rv; simp only [eqD]; exact ⟨.list_str _ _ t1.isList h0, .list_str _ _ t1.isList h0, .list_str _ _ t1.isList h0⟩
  | @lst b' ys es h' ts =>
   cases rv;obtain ⟨jts, r2, t2, _⟩ := I.list (SqL.of (K := X.K) h');have pds : plainDs ds = true := by simpa only [plainD] using pd
   have pes : plainDs es = true := by simpa only [plainD] using pe
   have dd : A.in1.units + PyData.depthAll ds < cLine := by rw [in1_units]; simp only [PyData.depth] at hu; omega
   have k := lsts_rc h0 t1.isList t2.isList (fun j => eqD (ds.getD j .none) (es.getD j .none)) (fun j h1 h2 => eqDs_at I rs ts pds pes dd r1 r2 h1 h2);rw [<- r1.length, <- r2.length, rs.length, ts.length, eqDs_all] at k;simp only [eqD];refine ⟨k.eq, k.ne, ?_⟩;by_cases e : a' = b'
   ·subst e;rw [h] at h';cases h';have := RdsAll.det rs ts;subst this;rw [eqDs_refl pds];exact SeqAt.EqAt.same _
   ·exact .of_refs e k.eq
  | tup h' _ => cases rv; obtain ⟨jts, _, t, _⟩ := I.tuple (SqT.of (K := X.K) h'); simp only [eqD]; exact ⟨.list_tuple t1.isList t h0, .list_tuple t1.isList t h0, .list_tuple t1.isList t h0⟩
  | dic0 _ => simp [plainD] at pe
  | dic _ _ => simp [plainD] at pe
 | _, _, .tup (a := a') (xs := xs) (ds := ds) h rs, A, y, e, u, v, ry, pd, pe, hu, ru, rv => by
  have h0 : A.units < cLine := by omega
  cases ru;obtain ⟨its, r1, t1, _⟩ := I.tuple (SqT.of (K := X.K) h);cases ry with
  | non => cases rv; simp only [eqD]; exact ⟨.tuple_none t1 h0, .tuple_none t1 h0, .tuple_none t1 h0⟩
  | bl b => cases rv; simp only [eqD]; exact ⟨.tuple_bool _ t1 h0, .tuple_bool _ t1 h0, .tuple_bool _ t1 h0⟩
  | int j => obtain ⟨t, rfl⟩ := rv; simp only [eqD]; exact ⟨.tuple_int _ _ t1 h0, .tuple_int _ _ t1 h0, .tuple_int _ _ t1 h0⟩
  | str z => obtain ⟨t, rfl⟩ := rv; simp only [eqD]; exact ⟨.tuple_str _ _ t1 h0, .tuple_str _ _ t1 h0, .tuple_str _ _ t1 h0⟩
  | @tup b' ys es h' ts =>
   cases rv;obtain ⟨jts, r2, t2, _⟩ := I.tuple (SqT.of (K := X.K) h');have pds : plainDs ds = true := by simpa only [plainD] using pd
   have pes : plainDs es = true := by simpa only [plainD] using pe
   have dd : A.in1.units + PyData.depthAll ds < cLine := by rw [in1_units]; simp only [PyData.depth] at hu; omega
   have k := tups_rc h0 t1 t2 (fun j => eqD (ds.getD j .none) (es.getD j .none)) (fun j h1 h2 => eqDs_at I rs ts pds pes dd r1 r2 h1 h2);rw [<- r1.length, <- r2.length, rs.length, ts.length, eqDs_all] at k;simp only [eqD];refine ⟨k.eq, k.ne, ?_⟩;by_cases e : a' = b'
   ·subst e;rw [h] at h';cases h';have := RdsAll.det rs ts;subst this;rw [eqDs_refl pds];exact SeqAt.EqAt.same _
   ·exact .of_refs e k.eq
  | lst h' _ => cases rv; obtain ⟨jts, _, t, _⟩ := I.list (SqL.of (K := X.K) h'); simp only [eqD]; exact ⟨.tuple_list t1 t.isList h0, .tuple_list t1 t.isList h0, .tuple_list t1 t.isList h0⟩
  | dic0 _ => simp [plainD] at pe
  | dic _ _ => simp [plainD] at pe
 | _, _, .dic0 _, _, _, _, _, _, _, pd, _, _, _, _ => by simp [plainD] at pd
 | _, _, .dic _ _, _, _, _, _, _, _, pd, _, _, _, _ => by simp [plainD] at pd
theorem eqDs_at {pins : List (Addr × Obj)} {σ : St} {H : Hp} {s : Shared} (I : Inv X pins σ H s) : ∀ {xs : List V} {ds : List PyData}, RdsAll H xs ds -> ∀ {A : Around} {ys : List V} {es : List PyData} {its jts : List Value}, RdsAll H ys es -> plainDs ds = true -> plainDs es = true -> A.units + PyData.depthAll ds < cLine -> Vals xs its -> Vals ys jts ->
  ∀ {j : Nat} (h1 : j < its.length) (h2 : j < jts.length), SeqAt.EqAt A s its[j] jts[j] (eqD (ds.getD j .none) (es.getD j .none))
 | _, _, .nil, A, ys, es, its, jts, ts, pd, pe, hu, r1, r2, j, h1, h2 => by cases r1; exact absurd h1 (Nat.not_lt_zero _)
 | _, _, .cons (v := x) (d := d) r rs, A, ys, es, its, jts, ts, pd, pe, hu, r1, r2, j, h1, h2 => by
  cases ts with
  | nil => cases r2; exact absurd h2 (Nat.not_lt_zero _)
  | cons r' ts =>
   cases r1 with
   | cons q1 r1 =>
    cases r2 with
    | cons q2 r2 =>
     simp only [plainDs, Bool.and_eq_true] at pd pe;simp only [PyData.depthAll] at hu;cases j with
     | zero =>
      exact (eqD_rc I r (A := A) r' pd.1 pe.1 (by omega) q1 q2).at_
     | succ j => exact eqDs_at I rs (A := A) ts pd.2 pe.2 (by omega) r1 r2 (by simpa using h1) (by simpa using h2)
end
def rEqD (g : Bool -> Bool) : R2 := fun x y H Q => ∃ d e, Rds H x d /\ Rds H y e /\ plainD d = true /\ plainD e = true /\ d.depth <= 20 /\ Q (.bl (g (eqD d e))) H
theorem op_neD (hu : X.A.units + 64 < cLine) : OpR X (compareOp .NotEq) (rEqD not) := by
 intro pins s σ H x y v u Q I rx ry h;obtain ⟨d, e, r1, r2, p1, p2, dd, k⟩ := h;exact (eqD_rc I r1 r2 p1 p2 (by omega) rx ry).ne X.prog X.w X.xe _ ⟨.bl _, H, I, rfl, k⟩
end
end My
namespace My
open PySem PySem.W L2
def MethS (P : Program) (w : World) (K : Frag) (mg : Str -> Option Value) (base : Heap) (CX : CXT) (k : Nat) (m : Str) (ps : List Str) (S : Addr -> Prop) (sp : Addr -> Sp) : Prop :=
 ∀ C, S C -> Cls K C /\ ∃ f fd, Meth K C m f /\ FnOk P w K mg base CX k f fd ps (sp C) /\ Binds K fd ps []
def tMethD (S : Addr -> Prop) (m : Str) (sp : Addr -> Sp) (E : XK) (ta : TE) (t : TA) : TE := fun σ H Q => ta σ H fun x H1 => ∃ a C dx fs, x = .ref a /\ S C /\ H1 a = some (.ins C dx fs) /\ fs.lookup m = none /\
 t σ H1 fun vs H2 => sp C (x :: vs) H2 Q E
section
variable {X : Cx} {CX : CXT} {k : Nat} {S : Addr -> Prop} {ps : List Str} {sp : Addr -> Sp} {E : XK} {x m : Str} {p pos apos : Pos} {e o : Expr} {es : List Expr} {ta : TE} {t : TA} {σ : St}
theorem pe_methD {pl : Sem Bool} (he : PE X o ta) (M : MethS X.prog X.w X.K X.mg X.base CX k m ps S sp) (hr : Room k X.A) (hx : Passes CX X E) (ha : PA X (e :: es) t)
  (hst : starEach (e :: es) X.env = (false, eval e X.env) :: starEach es X.env := by rfl) (hpl : (backTo pos (starEach es X.env)).any (·.1) = false := by rfl)
  (ht : eval (.Call (.Attribute o m apos) (e :: es) [] pos) X.env = (do
   let ov <- eval o X.env
   standAt apos.atName
   let (f, first) <- holding [ov] (getMethod ov m pl)
   callWith pos f first (backTo pos (starEach (e :: es) X.env)) (backToKw pos (keywordEach [] X.env))) := by rfl) :
  PE X (.Call (.Attribute o m apos) (e :: es) [] pos) (tMethD S m sp E ta t) := by
 intro pins s σ H Q I h;refine PySem.W.methodCall_KW (pl := pl) (thn (he pins s σ H _ I h) fun u s1 ⟨x, H1, I1, rx, a, C, dx, fs, ex, hS, ea, l, q⟩ => ?_) ht;subst ex;obtain ⟨c, f, fd, hm, F, hb⟩ := M C hS;obtain rfl : u = Value.ref a := rx;refine getmeth_ok I1 ea c hm l ?_;refine PySem.W.callWith_K (first := [.ref a]) (h₀ := X.base) I.ok.mod.kin hm.kp (thn (ha pos pins s1 σ H1 _ I1 q) fun us s2 ⟨vs, H2, I2, r, q2⟩ => ⟨I2.kIn, ?_⟩) hst hpl
 exact run_fn (us := .ref a :: us) (vs := .ref a :: vs) (dvs := []) F hr hb .nil hx I2 (.cons rfl r) (by rw [List.append_nil]; exact q2)
theorem pe_methD0 {pl : Sem Bool} (he : PE X o ta) (M : MethS X.prog X.w X.K X.mg X.base CX k m ps S sp) (hr : Room k X.A) (hx : Passes CX X E)
  (ht : eval (.Call (.Attribute o m apos) [] [] pos) X.env = (do
   let ov <- eval o X.env
   standAt apos.atName
   let (f, first) <- holding [ov] (getMethod ov m pl)
   callWith pos f first (backTo pos (starEach [] X.env)) (backToKw pos (keywordEach [] X.env))) := by rfl) :
  PE X (.Call (.Attribute o m apos) [] [] pos) (tMethD S m sp E ta tNl) := by
 intro pins s σ H Q I h;refine PySem.W.methodCall_KW (pl := pl) (thn (he pins s σ H _ I h) fun u s1 ⟨x, H1, I1, rx, a, C, dx, fs, ex, hS, ea, l, q⟩ => ?_) ht;subst ex;obtain ⟨c, f, fd, hm, F, hb⟩ := M C hS;obtain rfl : u = Value.ref a := rx;refine getmeth_ok I1 ea c hm l ?_;exact PySem.W.callWith_K0 (first := [.ref a]) I1.kIn hm.kp (run_fn (us := [.ref a]) (vs := [.ref a]) (dvs := []) F hr hb .nil hx I1 (.cons rfl .nil) q)
variable {K : Frag} {te : TE} {tt : TT} {g : TG} {cap : St} {D : Addr} {H1 : Hp} {Q : Hp -> Prop} {a : Addr} {xs : List V}
theorem lcG_tup (Pv : Nat -> List V -> Hp -> Prop) (hz : xs.length < sizeLine) (h0 : Pv 0 [] (upd H1 D (.lst [])))
  (hl : ∀ i ys H, Pv i ys H -> SqT K H a xs)
  (hs : ∀ i x ys H, xs[i]? = some x -> ys.length = i -> H D = some (.lst ys) -> Pv i ys H -> ∀ os : St, os.length = k -> ∀ R : VK, (∀ y H4, H4 D = some (.lst ys) -> Pv (i + 1) (ys ++ [y]) (upd H4 D (.lst (ys ++ [y]))) -> R y H4) -> g x (os ++ cap) H fun σ2 H0 => (∃ os' : St, os'.length = k /\ σ2 = os' ++ cap) /\ te σ2 H0 R)
  (hd : ∀ ys H, ys.length = xs.length -> H D = some (.lst ys) -> Pv xs.length ys H -> Q H) :
  ∃ W : Nat -> Nat -> List V -> Hp -> Prop, (∃ m, W 0 m [] (upd H1 D (.lst []))) /\
   ∀ i m ys H2, W i m ys H2 -> H2 D = some (.lst ys) /\ (((Itt K a).stop i H2 /\ Q H2) \/ ((Itt K a).go i H2 /\ ys.length < sizeLine /\
    ∀ x H3, (Itt K a).yld i H2 x H3 -> ∀ os : St, os.length = k -> g x (os ++ cap) H3 fun σ2 H0 => (∃ os' : St, os'.length = k /\ σ2 = os' ++ cap) /\ te σ2 H0 fun y H4 => H4 D = some (.lst ys) /\ ∃ m', m' < m /\ W (i + 1) m' (ys ++ [y]) (upd H4 D (.lst (ys ++ [y]))))) := by
 refine ⟨fun i m ys H => m = xs.length - i /\ i <= xs.length /\ ys.length = i /\ H D = some (.lst ys) /\ Pv i ys H, ⟨xs.length, by simp, Nat.zero_le _, rfl, uds, h0⟩, ?_⟩
 rintro i m ys H ⟨rfl, hi, hy, hD, p⟩;refine ⟨hD, ?_⟩;have q := hl i ys H p;by_cases hlt : i < xs.length
 ·refine .inr ⟨⟨xs, xs[i], q, by simp [hlt]⟩, by omega, fun x H' y => ?_⟩
  obtain ⟨e, y⟩ := y;subst e;exact fun os los => hs i x ys _ (y xs q) hy hD p os los _ fun z H4 hD4 p4 => ⟨hD4, xs.length - (i + 1), by omega, rfl, hlt, by rw [List.length_append, hy]; rfl, uds, p4⟩
 ·have e : i = xs.length := by omega
  subst e;exact .inl ⟨⟨xs, q, Nat.le_refl _⟩, hd ys H hy hD p⟩
end
theorem keptUpd {H : Hp} {p : Addr} (o : HO) : Kept H (upd H p o) p := fun b u h n => by rw [upd_ne n]; exact h
def shareD : PyData -> Bool
 | .tuple [.int a, .int b] => (decide (1 <= b) && (decide (0 <= a) && decide (a <= b))) && decide (Nat.gcd a.toNat b.toNat = 1)
 | _ => false
def coinD : PyData -> Bool
 | .tuple [.int a, .int b] => shareD (.tuple [.int a, .int b]) && (decide (2 <= b) && decide (b <= 100))
 | _ => false
def upI (lo : Int) (n : Nat) : List Int := (List.range n).map fun k => lo + (k : Nat)
def tupD (p : List Int) : PyData := .tuple (p.map .int)
theorem upL_eq (lo : Int) (n : Nat) : upL lo n = (upI lo n).map V.int := by unfold upL upI; rw [List.map_map]; rfl
theorem rds_intsD (G : Hp) : ∀ (ns : List Int), RdsAll G (ns.map V.int) (ns.map PyData.int)
 | [] => .nil
 | n :: ns => .cons (.int _) (rds_intsD G ns)
theorem ints_of {G : Hp} : ∀ {p : List Int} {ys : List V}, RdsAll G ys (p.map PyData.int) -> ys = p.map V.int
 | [], _, h => by cases h; rfl
 | n :: p, _, h => by
  cases h with
  | cons r t =>
   cases r;rw [ints_of t];rfl
theorem rds_tups {G : Hp} {ps : List (List Int)} {xs : List V} (rs : RdsAll G xs (ps.map tupD)) {i : Nat} {x : V} {p : List Int} (hx : xs[i]? = some x) (hp : ps[i]? = some p) : ∃ a, x = .ref a /\ G a = some (.tup (p.map V.int)) := by
 obtain ⟨d, ed, rd⟩ := rs.get hx;rw [List.getElem?_map, hp] at ed;cases ed;obtain ⟨a, ys, rfl, ha, ry⟩ := rds_tup rd;refine ⟨a, rfl, ?_⟩;rw [<- ints_of ry];exact ha
def dataO : HO -> Bool
 | .lst _ => true
 | .tup _ => true
 | .dK _ => true
 | _ => false
mutual
theorem Rds.keep {G G' : Hp} (s : ∀ b o, G b = some o -> dataO o = true -> G' b = some o) : ∀ {v : V} {d : PyData}, Rds G v d -> Rds G' v d
 | _, _, .non => .non
 | _, _, .bl b => .bl b
 | _, _, .int i => .int i
 | _, _, .str x => .str x
 | _, _, .lst e r => .lst (s _ _ e rfl) (RdsAll.keep s r)
 | _, _, .tup e r => .tup (s _ _ e rfl) (RdsAll.keep s r)
 | _, _, .dic0 e => .dic0 (s _ _ e rfl)
 | _, _, .dic e r => .dic (s _ _ e rfl) (Rds.keep s r)
theorem RdsAll.keep {G G' : Hp} (s : ∀ b o, G b = some o -> dataO o = true -> G' b = some o) : ∀ {vs : List V} {ds : List PyData}, RdsAll G vs ds -> RdsAll G' vs ds
 | _, _, .nil => .nil
 | _, _, .cons r t => .cons (Rds.keep s r) (RdsAll.keep s t)
end
theorem Rds.kept {H H' : Hp} {x : Addr} {v : V} {d : PyData} {C dx : Addr} {fs : List (Str × V)} (r : Rds H v d) (hx : H x = some (.ins C dx fs)) (k : Kept H H' x) : Rds H' v d :=
 r.keep fun b o e h => k b o e fun z => by rw [z, hx] at e; cases e; cases h
inductive R0 where
 | split (n k : Int)
 | pairs (n a b : Int)
 | coins (n a b f : Int)
def R0.folk : R0 -> Int
 | .split n _ => n
 | .pairs n _ _ => 2 * n
 | .coins n _ _ _ => n
def R0.begin : R0 -> PyData
 | .split _ k => .int k
 | .pairs _ _ _ => .none
 | .coins _ _ _ _ => .int 0
def R0.told : R0 -> PyData
 | .split n k => .tuple [.str "split", .int n, .int k]
 | .pairs n a b => .tuple [.str "pairs", .int n, .tuple [.int a, .int b]]
 | .coins n a b f => .tuple [.str "coins", .int n, .tuple [.int a, .int b], .int f]
def R0.kind : R0 -> Nat
 | .split _ _ => 0
 | .pairs _ _ _ => 1
 | .coins _ _ _ _ => 2
def R0.ok : R0 -> Prop
 | .split n k => 1 <= n /\ n <= 20 /\ 0 <= k /\ k <= n
 | .pairs n a b => 1 <= n /\ n <= 10 /\ coinD (.tuple [.int a, .int b]) = true
 | .coins n a b f => 1 <= n /\ n <= 20 /\ coinD (.tuple [.int a, .int b]) = true /\ 1 <= f /\ f <= 20
theorem R0.folk_ok {r : R0} (h : r.ok) : 1 <= r.folk /\ r.folk <= 20 := by
 cases r <;> simp only [R0.ok, R0.folk] at * <;> omega
def secs : Int -> List Int -> List (List Int)
 | _, [] => []
 | s, n :: ns => upI s n.toNat :: secs (s + n) ns
def cutP (m : Int) (ps : List (List Int)) : List (List Int) := (ps.map (·.filter fun x => decide (x < m))).filter fun p => decide (0 < p.length)
inductive Rl where
 | one (r : R0)
 | blocks (rs : List R0)
 | first (t : Rl) (m : Int)
def Rl.folk : Rl -> Int
 | .one r => r.folk
 | .blocks rs => (rs.map R0.folk).sum
 | .first _ m => m
def Rl.begin : Rl -> PyData
 | .one r => r.begin
 | .blocks [] => .tuple [.int 0, .none]
 | .blocks (r :: _) => .tuple [.int 0, r.begin]
 | .first t _ => t.begin
def Rl.told : Rl -> PyData
 | .one r => r.told
 | .blocks rs => .tuple [.str "blocks", .tuple (rs.map R0.told)]
 | .first t m => .tuple [.str "first", t.told, .int m]
def Rl.parts : Rl -> List (List Int)
 | .one r => [upI 0 r.folk.toNat]
 | .blocks rs => secs 0 (rs.map R0.folk)
 | .first t m => cutP m t.parts
def Rl.kind : Rl -> Nat
 | .one r => r.kind
 | .blocks _ => 3
 | .first _ _ => 4
def Rl.inner : Rl -> Rl
 | .first t _ => t.inner
 | t => t
def partsD (ps : List (List Int)) : PyData := .tuple (ps.map tupD)
def Rl.ok : Rl -> Prop
 | .one r => r.ok
 | .blocks rs => 1 <= rs.length /\ rs.length <= 6 /\ (∀ r ∈ rs, r.ok) /\ (rs.map R0.folk).sum <= 20
 | .first t m => t.ok /\ 0 <= m /\ m <= t.folk
theorem sum_nonneg : ∀ {ns : List Int}, (∀ n ∈ ns, 0 <= n) -> 0 <= ns.sum
 | [], _ => by simp
 | n :: ns, h => by
  have := h n (List.mem_cons_self ..);have := sum_nonneg fun x hx => h x (List.mem_cons_of_mem _ hx);simp only [List.sum_cons];omega
theorem Rl.folk_ok : ∀ {t : Rl}, t.ok -> 0 <= t.folk /\ t.folk <= 20
 | .one r, h => by have := R0.folk_ok h; simp only [Rl.folk]; omega
 | .blocks rs, h => by
  obtain ⟨_, _, h3, h4⟩ := h;refine ⟨sum_nonneg fun n hn => ?_, h4⟩;obtain ⟨r, hr, rfl⟩ := List.mem_map.mp hn;have := R0.folk_ok (h3 r hr);omega
 | .first t m, h => by
  obtain ⟨h1, h2, h3⟩ := h;have := Rl.folk_ok h1;simp only [Rl.folk];omega
def mNames : List Str := ["folk", "begin", "steps", "told", "blocks", "state_ahead", "state_behind"]
structure Ob (C : Addr) (H : Hp) (v : V) (fk : Int) (bg tl pt : PyData) (X : List (Str × V) -> Prop) : Prop where
 ex : ∃ a dx fs, v = .ref a /\ H a = some (.ins C dx fs) /\ fs.lookup ("size" : Str) = some (.int fk) /\ (∃ b, fs.lookup ("first_state" : Str) = some b /\ Rds H b bg) /\ (∃ m, fs.lookup ("mark" : Str) = some m /\ Rds H m tl) /\ (∃ p, fs.lookup ("parts" : Str) = some p /\ Rds H p pt) /\ (∀ m ∈ mNames, fs.lookup m = none) /\ X fs
def R0.extra (H : Hp) : R0 -> List (Str × V) -> Prop
 | .split _ _, _ => True
 | .pairs _ a b, fs => ∃ c, fs.lookup ("coin" : Str) = some c /\ Rds H c (.tuple [.int a, .int b])
 | .coins _ a b f, fs => (∃ c, fs.lookup ("coin" : Str) = some c /\ Rds H c (.tuple [.int a, .int b])) /\ fs.lookup ("far" : Str) = some (.int f)
def Ru0 (C : Nat -> Addr) (H : Hp) (r : R0) (v : V) : Prop := Ob (C r.kind) H v r.folk r.begin r.told (partsD [upI 0 r.folk.toNat]) (r.extra H)
def All0 (C : Nat -> Addr) (H : Hp) (rs : List R0) (ws : List V) : Prop := rs.length = ws.length /\ ∀ (i : Nat) r w, rs[i]? = some r -> ws[i]? = some w -> Ru0 C H r w
def RuB (C : Nat -> Addr) (H : Hp) (rs : List R0) (v : V) : Prop := Ob (C 3) H v (Rl.blocks rs).folk (Rl.blocks rs).begin (Rl.blocks rs).told (partsD (Rl.blocks rs).parts) (fun fs => ∃ l ws, fs.lookup ("rules" : Str) = some (.ref l) /\ H l = some (.tup ws) /\ All0 C H rs ws)
def RuN (C : Nat -> Addr) (H : Hp) : Rl -> V -> Prop
 | .one r, v => Ru0 C H r v
 | .blocks rs, v => RuB C H rs v
 | .first _ _, _ => False
def Ru (C : Nat -> Addr) (H : Hp) : Rl -> V -> Prop
 | .one r, v => Ru0 C H r v
 | .blocks rs, v => RuB C H rs v
 | .first t m, v => Ob (C 4) H v m t.begin (Rl.first t m).told (partsD (Rl.first t m).parts) (fun fs => ∃ d, fs.lookup ("dealer" : Str) = some d /\ RuN C H t.inner d)
theorem Ob.mono {C : Addr} {H H' : Hp} {v : V} {fk : Int} {bg tl pt : PyData} {X Y : List (Str × V) -> Prop} (h : Ob C H v fk bg tl pt X) (x : Ext H H') (k : ∀ fs, X fs -> Y fs) : Ob C H' v fk bg tl pt Y := by
 obtain ⟨a, dx, fs, rfl, ha, h1, ⟨b, h2, r2⟩, ⟨m, h3, r3⟩, ⟨p, h4, r4⟩, h5, h6⟩ := h.ex;exact ⟨a, dx, fs, rfl, x _ _ ha, h1, ⟨b, h2, r2.mono x⟩, ⟨m, h3, r3.mono x⟩, ⟨p, h4, r4.mono x⟩, h5, k fs h6⟩
section
variable {C : Nat -> Addr} {H H' : Hp}
theorem Ru0.ext {r : R0} {v : V} (h : Ru0 C H r v) (x : Ext H H') : Ru0 C H' r v := Ob.mono h x fun fs e => by
 cases r with
 | split _ _ => trivial
 | pairs _ a b =>
  obtain ⟨c, e1, e2⟩ := e;exact ⟨c, e1, e2.mono x⟩
 | coins _ a b f =>
  obtain ⟨⟨c, e1, e2⟩, e3⟩ := e;exact ⟨⟨c, e1, e2.mono x⟩, e3⟩
theorem All0.ext {rs : List R0} {ws : List V} (h : All0 C H rs ws) (x : Ext H H') : All0 C H' rs ws := ⟨h.1, fun i r w a b => Ru0.ext (h.2 i r w a b) x⟩
theorem RuB.ext {rs : List R0} {v : V} (h : RuB C H rs v) (x : Ext H H') : RuB C H' rs v := Ob.mono h x fun fs e => by
 obtain ⟨l, ws, e1, e2, e3⟩ := e;exact ⟨l, ws, e1, x _ _ e2, e3.ext x⟩
theorem RuN.ext {t : Rl} {v : V} (h : RuN C H t v) (x : Ext H H') : RuN C H' t v := by
 cases t with
 | one r => exact Ru0.ext h x
 | blocks rs => exact RuB.ext h x
 | first _ _ => exact h.elim
theorem Ru.ext {t : Rl} {v : V} (h : Ru C H t v) (x : Ext H H') : Ru C H' t v := by
 cases t with
 | one r => exact Ru0.ext h x
 | blocks rs => exact RuB.ext h x
 | first t m => exact Ob.mono h x fun fs ⟨d, e1, e2⟩ => ⟨d, e1, e2.ext x⟩
theorem Ru.ob {t : Rl} {v : V} (h : Ru C H t v) : Ob (C t.kind) H v t.folk t.begin t.told (partsD t.parts) (fun _ => True) := by
 cases t with
 | one r => exact Ob.mono h (Ext.refl _) fun _ _ => trivial
 | blocks rs => exact Ob.mono h (Ext.refl _) fun _ _ => trivial
 | first t m => exact Ob.mono h (Ext.refl _) fun _ _ => trivial
theorem RuN.ru {t : Rl} {v : V} (h : RuN C H t v) : Ru C H t v := by
 cases t with
 | one r => exact h
 | blocks rs => exact h
 | first _ _ => exact h.elim
end
theorem R0.kind_lt (r : R0) : r.kind < 3 := by cases r <;> simp [R0.kind]
theorem Rl.kind_lt (t : Rl) : t.kind < 5 := by
 cases t with
 | one r => have := r.kind_lt; show r.kind < 5; omega
 | blocks _ => show 3 < 5; decide
 | first _ _ => show 4 < 5; decide
def fNames : List Str := ["size", "first_state", "mark", "parts", "coin", "far", "rules", "dealer"]
structure KR (K : Frag) (C : Nat -> Addr) (CR : Addr) : Prop where
 cls : ∀ i, i < 5 -> Cls K (C i)
 no : ∀ i, i < 5 -> ∀ f ∈ fNames, NoAttr K (C i) f
 ha : ∀ i, i < 5 -> PySem.W.findIn K (.ref (C i)) "__class__" = some (some (.builtin "object.__class__"))
 hn : PySem.W.specialIn K (.builtin "object.__class__") "__get__" = some (some (.builtin "getset_descriptor.__get__"))
 htk : PySem.W.takesIn K (.builtin "object.__class__") = some true
 hm : ∀ i, i < 5 -> PySem.W.mroIn K (C i) (.type "object") = some true
 kk : ∀ i j, i < 5 -> j < 5 -> kitOne K (.ref (C i)) (.ref (C j)) = some (i == j)
 kR : ∀ i, i < 5 -> kitOne K (.ref (C i)) (.ref CR) = some true
 kl : ∀ i, i < 5 -> kitOne K (.ref (C i)) (.type "list") = some false
 kt : ∀ i, i < 5 -> kitOne K (.ref (C i)) (.type "tuple") = some false
 ki : ∀ i, i < 5 -> kitOne K (.ref (C i)) (.type "int") = some false
 kb : ∀ i, i < 5 -> kitOne K (.ref (C i)) (.type "bool") = some false
def Is5 (C : Nat -> Addr) (c : Addr) : Prop := ∃ i, i < 5 /\ c = C i
section
variable {K : Frag} {C : Nat -> Addr} {CR : Addr} {H : Hp}
theorem Ob.kd {i : Nat} {v : V} {fk : Int} {bg tl pt : PyData} {X : List (Str × V) -> Prop} (Z : KR K C CR) (hi : i < 5) (h : Ob (C i) H v fk bg tl pt X) : Kd K H v (.ref (C i)) := by
 obtain ⟨a, dx, fs, rfl, ha, _⟩ := h.ex;exact .inl (.ins ha (Z.cls i hi) (Z.ha i hi) Z.hn Z.htk (Z.hm i hi))
theorem Ru.kd {t : Rl} {v : V} (Z : KR K C CR) (h : Ru C H t v) : Kd K H v (.ref (C t.kind)) := h.ob.kd Z t.kind_lt
theorem rd_meth0 {m : Str} {sp : Addr -> Sp} {E : XK} {ta : TE} {σ : St} {Q : VK} {t : Rl} {v : V} (hm : m ∈ mNames) (h : Ru C H t v) (ht : ∀ R : VK, R v H -> ta σ H R) (q : sp (C t.kind) [v] H Q E) : tMethD (Is5 C) m sp E ta tNl σ H Q := by
 obtain ⟨a, dx, fs, rfl, ha, _, _, _, _, h5, _⟩ := h.ob.ex;exact ht _ ⟨a, C t.kind, dx, fs, rfl, ⟨_, t.kind_lt, rfl⟩, ha, h5 m hm, q⟩
end
theorem R0.plainB (r : R0) : plainD r.begin = true := by cases r <;> simp [R0.begin, plainD]
theorem Rl.plainB : ∀ t : Rl, plainD t.begin = true
 | .one r => r.plainB
 | .blocks [] => by simp [Rl.begin, plainD, plainDs]
 | .blocks (r :: _) => by simp only [Rl.begin, plainD, plainDs, r.plainB, Bool.and_self]
 | .first t _ => t.plainB
end My
namespace My
open PySem PySem.W L2
def partV : V -> V -> Bool
 | x, .int j => decide (1 <= j) && inB 0 j x
 | _, _ => false
theorem partV_no {x y : V} (h : ∀ i, y ≠ .int i) : partV x y = false := by
 cases y with
 | int i => exact absurd rfl (h i)
 | _ => rfl
section
variable {P : Program} {w : World} {K : Frag} {mg : Str -> Option Value} {base : Heap}
abbrev sIsNum : Stmt := top 7
def spIsNum (K : Frag) : Sp := fun vs H Q _ => ∃ x, vs = [x] /\ Th K H x /\ Q (.bl (numB x)) H
theorem scIN : FnScope ["thing"] ["thing"] (defScope sIsNum) := mkSc
theorem ok_isnum {f : Addr} {fd : FuncData} (N : IsT K) (F : Fun K "is_number" "is_number" sIsNum f fd) (mi : mg "isinstance" = none) (m1 : mg "int" = none) (m2 : mg "bool" = none) : FnOk P w K mg base CX0 1 f fd ["thing"] (spIsNum K) := by
 refine F.ok scIN (fun vs H Q E h => ?_) (fun cdv A outer s H vs Q E hr h => ?_)
 ·obtain ⟨c, rfl, _⟩ := h;rfl
 obtain ⟨x, rfl, th, q⟩ := h;refine ⟨_, pss_one (prt (pe_and (pe_callB (call_isK N) rfl mi PyProof.Rows.boot_isinstance (pac (pv 0) (pac (pe_ty rfl m1 PyProof.Rows.boot_int) pan)))
  (pe_one (pe_not (pe_callB (call_isK N) rfl mi PyProof.Rows.boot_isinstance (pac (pv 0) (pac (pe_ty rfl m2 PyProof.Rows.boot_bool) pan))))))), ?_⟩
 rcases th with ⟨i, rfl⟩ | ⟨n, t, b1, b2, kd, k1, k2, z⟩
 ·exact ⟨_, rfl, _, _, _, _, rfl, .inl (.int i), k_ii, _, rfl, ⟨_, rfl, _, _, _, _, rfl, .inl (.int i), k_ib, _, rfl, q⟩⟩
 ·rw [numB_no n] at q;refine ⟨_, rfl, _, _, _, _, rfl, kd, k1, _, rfl, ?_⟩;cases b1 with
  | false => exact itF q
  | true =>
   refine itT ⟨_, rfl, _, _, _, _, rfl, kd, k2, _, rfl, ?_⟩;have e : (!b2) = false := z;rw [e];exact q
abbrev sIsWh : Stmt := top 8
def spIsWh (K : Frag) : Sp := fun vs H Q _ => ∃ x lo hi, vs = [x, .int lo, .int hi] /\ Th K H x /\ Q (.bl (inB lo hi x)) H
theorem scIW : FnScope ["thing", "low", "high"] ["thing", "low", "high"] (defScope sIsWh) := mkSc
theorem ok_iswh {f g : Addr} {fd gd : FuncData} (F : Fun K "is_whole" "is_whole" sIsWh f fd) (G : FnOk P w K mg base CX0 1 g gd ["thing"] (spIsNum K)) (bG : Binds K gd ["thing"] []) (kG : keepIn K (.ref g) = true) (mG : mg "is_number" = some (.ref g)) :
  FnOk P w K mg base CX0 2 f fd ["thing", "low", "high"] (spIsWh K) := by
 refine F.ok scIW (fun vs H Q E h => ?_) (fun cdv A outer s H vs Q E hr h => ?_)
 ·obtain ⟨c, lo, hi, rfl, _⟩ := h;rfl
 obtain ⟨x, lo, hi, rfl, th, q⟩ := h;refine ⟨_, pss_one (prt (pe_and (pec G hr rfl mG kG bG .nil pass0 (pac (pv 0) pan)) (pe_and (pe_cmpR op_le (pv 1) (pv 0) (nomark _)) (pe_one (pe_cmpR op_le (pv 0) (pv 2) (nomark _)))))), ?_⟩;refine ⟨_, rfl, x, rfl, th, _, rfl, ?_⟩;rcases th with ⟨i, rfl⟩ | ⟨n, _⟩
 ·refine itT ⟨_, rfl, _, rfl, _, _, rfl, rfl, _, rfl, ?_⟩;refine ite2 (fun c => ?_) (fun c => ?_)
  ·refine ⟨_, rfl, _, rfl, _, _, rfl, rfl, ?_⟩;have q' : Q (.bl (decide (lo <= i) && decide (i <= hi))) H := q;rw [decide_eq_true (of_decide_eq_true c), Bool.true_and] at q';exact q'
  ·have q' : Q (.bl (decide (lo <= i) && decide (i <= hi))) H := q;rw [decide_eq_false (fun z => c (decide_eq_true z)), Bool.false_and] at q';exact q'
 ·rw [numB_no n];rw [inB_no n] at q;exact itF q
abbrev sGcd : Stmt := top 11
def spGcd : Sp := fun vs H Q _ => ∃ a b : Nat, vs = [.int a, .int b] /\ Q (.int (Nat.gcd a b)) H
theorem scG : FnScope ["one", "other"] ["one", "other"] (defScope sGcd) := mkSc
def secN : St -> Nat
 | [_, some (.int b)] => b.toNat
 | _ => 0
theorem ok_gcd {f : Addr} {fd : FuncData} (F : Fun K "greatest_common" "greatest_common" sGcd f fd) : FnOk P w K mg base CX0 1 f fd ["one", "other"] spGcd := by
 refine F.ok scG (fun vs H Q E h => ?_) (fun cdv A outer s H vs Q E hr h => ?_)
 ·obtain ⟨c, lo, rfl, _⟩ := h;rfl
 obtain ⟨a, b, rfl, q⟩ := h;have nd := scG.nd;refine ⟨_, psc (ps_while PassesOwn.never (pt_cmpR op_gt (pv 1) pei (nomark _)) (pss_one (ps_par (i := 0) (j := 1) rfl nd rfl rfl (by decide) rfl rfl (pac (pv 1) (pac (pe_op op_mod (pv 0) (pv 1)) pan)) rfl))) (pss_one (prt (pv 0))), ?_⟩
 refine while_by (fun σ H' => H' = H /\ ∃ x y : Nat, σ = [some (.int x), some (.int y)] /\ Nat.gcd x y = Nat.gcd a b) (fun σ _ => secN σ) ⟨rfl, a, b, rfl, rfl⟩ ?_ ?_
 ·rintro σ H' ⟨rfl, x, y, rfl, e⟩;refine ⟨_, rfl, _, _, rfl, rfl, _, rfl, ?_⟩;refine ite2 (fun c => ?_) (fun c => ?_)
  ·have c' : (0 : Int) < (y : Int) := of_decide_eq_true c;refine ⟨_, rfl, _, rfl, _, rfl, _, _, rfl, rfl, c', _, _, rfl, ⟨rfl, y, x % y, ?_, ?_⟩, ?_⟩
   ·show [some (V.int y), some (V.int ((x : Int) % (y : Int)))] = _;rw [show ((x : Int) % (y : Int)) = ((x % y : Nat) : Int) from by simp]
   ·rw [<- e, Nat.gcd_comm x y, Nat.gcd_rec y x, Nat.gcd_comm]
   ·show ((x : Int) % (y : Int)).toNat < (y : Int).toNat;have := Int.emod_lt_of_pos (x : Int) c';omega
  ·have c' : ¬ (0 : Int) < (y : Int) := fun z => c (decide_eq_true z);have y0 : y = 0 := by omega
   subst y0;rw [Nat.gcd_zero_right] at e;refine ⟨_, rfl, ?_⟩;rw [e];exact q
 ·rintro σ H Q Q' m ⟨x, e, i, j, h1, h2, b, hb, q⟩;exact ⟨x, e, i, j, h1, h2, b, hb, m _ _ q⟩
abbrev sPart : Stmt := top 12
def spPart (K : Frag) : Sp := fun vs H Q _ => ∃ x y, vs = [x, y] /\ Th K H x /\ Th K H y /\ Q (.bl (partV x y)) H
theorem scPt : FnScope ["top", "bottom"] ["top", "bottom"] (defScope sPart) := mkSc
theorem ok_part {f g k : Addr} {fd gd kd : FuncData} (F : Fun K "is_part" "is_part" sPart f fd) (G : FnOk P w K mg base CX0 1 g gd ["thing"] (spIsNum K)) (bG : Binds K gd ["thing"] []) (kG : keepIn K (.ref g) = true) (mG : mg "is_number" = some (.ref g))
  (W : FnOk P w K mg base CX0 2 k kd ["thing", "low", "high"] (spIsWh K)) (bW : Binds K kd ["thing", "low", "high"] []) (kW : keepIn K (.ref k) = true) (mW : mg "is_whole" = some (.ref k)) : FnOk P w K mg base CX0 3 f fd ["top", "bottom"] (spPart K) := by
 refine F.ok scPt (fun vs H Q E h => ?_) (fun cdv A outer s H vs Q E hr h => ?_)
 ·obtain ⟨x, y, rfl, _⟩ := h;rfl
 obtain ⟨x, y, rfl, tx, ty, q⟩ := h;have hr1 := hr.mono (show 1 <= 2 by decide)
 refine ⟨_, pss_one (prt (pe_and (pec G hr1 rfl mG kG bG .nil pass0 (pac (pv 1) pan)) (pe_and (pe_cmpR op_ge (pv 1) pei (nomark _)) (pe_one (pec W hr rfl mW kW bW .nil pass0 (pac (pv 0) (pac pei (pac (pv 1) pan)))))))), ?_⟩;refine ⟨_, rfl, y, rfl, ty, _, rfl, ?_⟩;rcases ty with ⟨j, rfl⟩ | ⟨n, _⟩
 ·refine itT ⟨_, rfl, _, _, rfl, rfl, _, rfl, ?_⟩;have q' : Q (.bl (decide (1 <= j) && inB 0 j x)) H := q;refine ite2 (fun c => ?_) (fun c => ?_)
  ·rw [decide_eq_true (of_decide_eq_true c), Bool.true_and] at q';exact ⟨_, rfl, _, rfl, x, 0, j, rfl, tx, q'⟩
  ·rw [decide_eq_false (fun z => c (decide_eq_true z)), Bool.false_and] at q';exact q'
 ·rw [numB_no n];rw [partV_no n] at q;exact itF q
abbrev sISh : Stmt := top 14
def spISh : Sp := fun vs H Q _ => ∃ x d, vs = [x] /\ Rds H x d /\ Q (.bl (shareD d)) H
theorem scISh : FnScope ["thing", "top", "bottom"] ["thing"] (defScope sISh) := mkSc
theorem shareD_two {d1 d2 : PyData} {H : Hp} {u v : V} (r1 : Rds H u d1) (r2 : Rds H v d2) : partV u v = false -> shareD (.tuple [d1, d2]) = false := by
 intro h;cases r1 with
 | int i =>
  cases r2 with
  | int j =>
   have h' : (decide (1 <= j) && (decide (0 <= i) && decide (i <= j))) = false := h;show ((decide (1 <= j) && (decide (0 <= i) && decide (i <= j))) && _) = false;rw [h'];rfl
  | _ => rfl
 | _ => cases r2 <;> rfl
theorem part_nat {x y : V} (h : partV x y = true) : ∃ a b : Nat, x = .int a /\ y = .int b /\ 1 <= b /\ a <= b := by
 cases y with
 | int j =>
  have h' : (decide (1 <= j) && inB 0 j x) = true := h;rw [Bool.and_eq_true, decide_eq_true_iff] at h';obtain ⟨h1, h2⟩ := h';cases x with
  | int i =>
   have h3 : (decide (0 <= i) && decide (i <= j)) = true := h2;rw [Bool.and_eq_true, decide_eq_true_iff, decide_eq_true_iff] at h3;refine ⟨i.toNat, j.toNat, ?_, ?_, by omega, by omega⟩
   ·congr 1; omega
   ·congr 1; omega
  | _ => cases h2
 | _ => cases h
theorem ok_ish {f a1 a2 : Addr} {fd d1 d2 : FuncData} (N : IsT K) (F : Fun K "is_share" "is_share" sISh f fd) (A1 : Df P w K mg base CX0 3 "is_part" ["top", "bottom"] (spPart K) a1 d1) (A2 : Df P w K mg base CX0 1 "greatest_common" ["one", "other"] spGcd a2 d2)
  (mi : mg "isinstance" = none) (mt : mg "tuple" = none) (ml : mg "len" = none) : FnOk P w K mg base CX0 4 f fd ["thing"] spISh := by
 refine F.ok scISh (fun vs H Q E h => ?_) (fun cdv A outer s H vs Q E hr h => ?_)
 ·obtain ⟨v, d, rfl, _⟩ := h;rfl
 obtain ⟨v, d, rfl, rd, q⟩ := h;have nd := scISh.nd;have hr1 : Room 1 _ := hr.mono (by decide)
 refine ⟨_, psc (ps_if (PW.pt (pw_or (pt_not (pt_val (pe_callB (call_isK N) rfl mi PyProof.Rows.boot_isinstance (pac (pv 0) (pac (pe_ty rfl mt PyProof.Rows.boot_tuple) pan))))) (pw_or1 (pt_cmpR op_ne (pe_callB call_len_seq rfl ml PySem.boot_len (pac (pv 0) pan)) pei (nomark _))))) (pss_one (prt peb)) psn)
  (psc (ps_asg (pv 0) (pg_tup rfl (pgc (pgn (i := 1) nd rfl (Or.inl rfl)) (pgc (pgn (i := 2) nd rfl (Or.inl rfl)) pgs_nil))))
  (pss_one (prt (pe_and (pec A1.G hr rfl A1.m A1.kp A1.b .nil pass0 (pac (pv 1) (pac (pv 2) pan))) (pe_one (pe_cmpR op_eq (pec A2.G hr1 rfl A2.m A2.kp A2.b .nil pass0 (pac (pv 1) (pac (pv 2) pan))) pei (nomark _))))))), ?_⟩
 refine ⟨_, rfl, _, _, _, _, rfl, rd.kd, rd.isT, _, rfl, ?_⟩;cases e : tupB d with
 | false =>
  refine itT (itT ?_);have z : shareD d = false := by cases d <;> first | rfl | cases e
  rw [z] at q;exact q
 | true =>
  obtain ⟨ds, rfl⟩ : ∃ ds, d = .tuple ds := by cases d <;> first | exact ⟨_, rfl⟩ | cases e
  obtain ⟨a, xs, rfl, ha, rs⟩ := rds_tup rd;refine itF ⟨_, rfl, a, _, rfl, .inr (SqT.of ha), rfl, _, rfl, ?_⟩;have len := rs.length;by_cases l2 : xs.length = 2
  ·obtain ⟨u, v, rfl⟩ : ∃ u v, xs = [u, v] := by
    match xs, l2 with
    | [u, v], _ => exact ⟨u, v, rfl⟩
   cases rs with
   | cons r1 rs =>
    cases rs with
    | cons r2 rs =>
     cases rs;refine itF ⟨_, rfl, a, _, rfl, SqT.of ha, rfl, _, _, rfl, _, _, rfl, rfl, ?_⟩;refine ⟨_, rfl, _, rfl, u, v, rfl, r1.th, r2.th, _, rfl, ?_⟩;cases pv : partV u v with
     | false =>
      rw [shareD_two r1 r2 pv] at q;exact itF q
     | true =>
      obtain ⟨x, y, rfl, rfl, y1, xy⟩ := part_nat pv;cases r1;cases r2;refine itT ⟨_, rfl, _, rfl, x, y, rfl, rfl, ?_⟩;have q' : Q (.bl ((decide ((1 : Int) <= (y : Int)) && (decide ((0 : Int) <= (x : Int)) && decide ((x : Int) <= (y : Int)))) && decide (Nat.gcd (x : Int).toNat (y : Int).toNat = 1))) H := q;rw [decide_eq_true (show (1 : Int) <= (y : Int) by omega), decide_eq_true (show (0 : Int) <= (x : Int) by omega), decide_eq_true (show (x : Int) <= (y : Int) by omega), Int.toNat_natCast, Int.toNat_natCast, Bool.and_self, Bool.and_self, Bool.true_and] at q'
      have ee : decide (V.int ((Nat.gcd x y : Nat) : Int) = V.int 1) = decide (Nat.gcd x y = 1) := by
       by_cases g : Nat.gcd x y = 1
       ·rw [decide_eq_true g, g]; rfl
       ·rw [decide_eq_false g, decide_eq_false];intro z;injection z with z
        omega
      rw [ee];exact q'
  ·have e1 : (!decide (V.int (xs.length : Nat) = V.int 2)) = true := by
    rw [decide_eq_false]
    ·rfl
    ·intro h;injection h with h
     omega
   rw [e1];refine itT ?_;have z : shareD (.tuple ds) = false := by
    match ds, len, l2 with
    | [], _, _ => rfl
    | [_], _, _ => simp [shareD]
    | [_, _], l, n => exact absurd l n
    | _ :: _ :: _ :: _, _, _ => simp [shareD]
   rw [z] at q;exact q
abbrev sNN : Stmt := top 24
def spNN (CN : Addr) : Sp := fun vs H Q E => ∃ x d lo hi, vs = [x, .int lo, .int hi] /\ Rds H x d /\ (inD lo hi d = true -> Q .non H) /\ (inD lo hi d = false -> ErrF CN "found" x H E)
theorem scNN : FnScope ["thing", "low", "high"] ["thing", "low", "high"] (defScope sNN) := mkSc
theorem ok_nn {f a1 D CN fC : Addr} {fd d1 fdC : FuncData} (F : Fun K "need_number" "need_number" sNN f fd) (B : BaseC K D) (T : OneF K mg D "NoNumber" "found" CN fC fdC) (A1 : Df P w K mg base CX0 2 "is_whole" ["thing", "low", "high"] (spIsWh K) a1 d1) : FnOk P w K mg base (CXE P w) 3 f fd ["thing", "low", "high"] (spNN CN) := by
 refine okE F scNN (fun vs H Q E h => ?_) (fun cdv A outer s H vs Q E hr h => ?_)
 ·obtain ⟨_, _, _, _, rfl, _⟩ := h;rfl
 obtain ⟨x, d, lo, hi, rfl, rd, q1, q2⟩ := h;refine ⟨_, pss_one (ps_if (pt_not (pt_val (pec A1.G hr rfl A1.m A1.kp A1.b .nil pass0 (pac (pv 0) (pac (pv 1) (pac (pv 2) pan)))))) (pss_one (ps_raise B T.cls (T.ok P w base) hr T.bi rfl T.mgC (pv 0))) psn), ?_⟩;refine ⟨_, rfl, _, rfl, _, rfl, x, lo, hi, rfl, rd.th, _, rfl, ?_⟩;rw [rd.inB];cases e : inD lo hi d with
 | true => exact itF (q1 e)
 | false => exact itT ⟨_, rfl, fun e' dx h1 h2 nd => qR_of nd (q2 e e' dx h1 h2 nd)⟩
abbrev sNC : Stmt := top 25
def spNC (CS : Addr) : Sp := fun vs H Q E => ∃ x d, vs = [x] /\ Rds H x d /\ (coinD d = true -> Q .non H) /\ (coinD d = false -> ErrF CS "found" x H E)
theorem scNC : FnScope ["thing"] ["thing"] (defScope sNC) := mkSc
theorem share_shape {d : PyData} (h : shareD d = true) : ∃ a b, d = .tuple [.int a, .int b] := by
 match d, h with
 | .tuple [.int a, .int b], _ => exact ⟨a, b, rfl⟩
theorem ok_nc {f a1 a2 D CS fC : Addr} {fd d1 d2 fdC : FuncData} {t : Tok} (F : Fun K "need_coin" "need_coin" sNC f fd) (B : BaseC K D) (T : OneF K mg D "NoShare" "found" CS fC fdC) (A1 : Df P w K mg base CX0 2 "is_whole" ["thing", "low", "high"] (spIsWh K) a1 d1) (A2 : Df P w K mg base CX0 4 "is_share" ["thing"] spISh a2 d2) (mB : mg "MOST_BOTTOM" = some (.int 100 t)) :
  FnOk P w K mg base (CXE P w) 5 f fd ["thing"] (spNC CS) := by
 refine okE F scNC (fun vs H Q E h => ?_) (fun cdv A outer s H vs Q E hr h => ?_)
 ·obtain ⟨_, _, rfl, _⟩ := h;rfl
 obtain ⟨x, d, rfl, rd, q1, q2⟩ := h;have hr2 : Room 2 _ := hr.mono (by decide)
 refine ⟨_, pss_one (ps_if (PW.pt (pw_or (pt_not (pt_val (pec A2.G hr rfl A2.m A2.kp A2.b .nil pass0 (pac (pv 0) pan)))) (pw_or1 (pt_not (pt_val (pec A1.G hr2 rfl A1.m A1.kp A1.b .nil pass0 (pac (pxr ixt (pv 0) pei) (pac pei (pac (pe_glob (v := .int 100) rfl mB ⟨_, rfl⟩) pan)))))))))
  (pss_one (ps_raise B T.cls (T.ok P w base) hr2 T.bi rfl T.mgC (pv 0))) psn), ?_⟩
 refine ⟨_, rfl, x, d, rfl, rd, _, rfl, ?_⟩;cases e : shareD d with
 | false =>
  have z : coinD d = false := by
   match d, e with
   | .tuple [.int a, .int b], e => show (shareD (.tuple [.int a, .int b]) && _) = false; rw [e]; rfl
   | .none, _ | .bool _, _ | .int _, _ | .str _, _ | .list _, _ | .dict _, _ => rfl
   | .tuple [], _ => rfl
   | .tuple [_], _ => simp [coinD]
   | .tuple (_ :: _ :: _ :: _), _ => simp [coinD]
   | .tuple [.int _, .none], _ | .tuple [.int _, .bool _], _ | .tuple [.int _, .str _], _ | .tuple [.int _, .list _], _ | .tuple [.int _, .tuple _], _ | .tuple [.int _, .dict _], _ => rfl
   | .tuple [.none, _], _ | .tuple [.bool _, _], _ | .tuple [.str _, _], _ | .tuple [.list _, _], _ | .tuple [.tuple _, _], _ | .tuple [.dict _, _], _ => rfl
  exact itT (itT ⟨_, rfl, fun e' dx h1 h2 nd => qR_of nd (q2 z e' dx h1 h2 nd)⟩)
 | true =>
  obtain ⟨a, b, rfl⟩ := share_shape e;obtain ⟨p, xs, rfl, hp, rs⟩ := rds_tup rd;cases rs with
  | cons r1 rs =>
   cases rs with
   | cons r2 rs =>
    cases rs;cases r1;cases r2;refine itF ⟨_, rfl, p, _, _, _, rfl, rfl, SqT.of hp, atN (j := 1) rfl, _, 2, 100, rfl, .inl ⟨b, rfl⟩, _, rfl, ?_⟩;have ec : coinD (.tuple [.int a, .int b]) = inB 2 100 (.int b) := by
     show (shareD (.tuple [.int a, .int b]) && (decide (2 <= b) && decide (b <= 100))) = _;rw [e, Bool.true_and];rfl
    cases z : inB 2 100 (.int b) with
    | true => exact itF (q1 (by rw [ec, z]))
    | false => exact itT ⟨_, rfl, fun e' dx h1 h2 nd => qR_of nd (q2 (by rw [ec, z]) e' dx h1 h2 nd)⟩
abbrev sOP : Stmt := top 26
def spOP : Sp := fun vs H Q _ => ∃ i : Int, vs = [.int i] /\ 0 <= i /\ i <= 20 /\ ∀ l H', Ext H H' -> Rds H' (.ref l) (partsD [upI 0 i.toNat]) -> Q (.ref l) H'
theorem scOP : FnScope ["folk"] ["folk"] (defScope sOP) := mkSc
theorem ok_op {f : Addr} {fd : FuncData} (F : Fun K "one_part" "one_part" sOP f fd) (mt : mg "tuple" = none) (mr : mg "range" = none) : FnOk P w K mg base CX0 1 f fd ["folk"] spOP := by
 refine F.ok scOP (fun vs H Q E h => ?_) (fun cdv A outer s H vs Q E hr h => ?_)
 ·obtain ⟨_, rfl, _⟩ := h;rfl
 obtain ⟨i, rfl, h1, h2, q⟩ := h;refine ⟨_, pss_one (prt (pe_tup (pac (pe_callTy (call_tupR rfl) rfl mt PyProof.Rows.boot_tuple (pac (pe_callTy call_rng1 rfl mr PyProof.Rows.boot_range (pac (pv 0) pan)) pan)) pan))), ?_⟩;refine ⟨_, rfl, i, rfl, fun r hr => ⟨r, 0, i, rfl, uds, ⟨by omega, by omega, by omega, by omega⟩, by omega, fun l hl => ⟨by show 1 <= sizeLine; decide, fun m hm => ?_⟩⟩⟩
 have x2 := Ext.new (o := .tup [.ref l]) hm;refine q m _ (((Ext.new hr).trans (Ext.new hl)).trans x2) (.tup uds (.cons (.tup (x2 _ _ uds) ?_) .nil));rw [Int.sub_zero, upL_eq];exact rds_intsD _ _
variable {C : Nat -> Addr} {CR : Addr}
abbrev sRuI : Stmt := inClass (top 30) 0
abbrev sRuF : Stmt := inClass (top 30) 1
abbrev sRuB : Stmt := inClass (top 30) 2
abbrev sRuT : Stmt := inClass (top 30) 4
abbrev sRuK : Stmt := inClass (top 30) 5
def put4 (v1 v2 v3 v4 : V) (fs : List (Str × V)) : List (Str × V) := putF "parts" v4 (putF "mark" v3 (putF "first_state" v2 (putF "size" v1 fs)))
def spRuI (C : Nat -> Addr) : Sp := fun vs H Q _ => ∃ x v1 v2 v3 v4 i dx fs, vs = [.ref x, v1, v2, v3, v4] /\ i < 5 /\ H x = some (.ins (C i) dx fs) /\ fs.length <= 5 /\ Q .non (upd H x (.ins (C i) dx (put4 v1 v2 v3 v4 fs)))
theorem scRuI : FnScope ["self", "size", "first_state", "mark", "parts"] ["self", "size", "first_state", "mark", "parts"] (defScope sRuI) := mkSc
theorem putF_len (f : Str) (v : V) : ∀ fs : List (Str × V), (putF f v fs).length <= fs.length + 1
 | [] => Nat.le_refl _
 | (g, x) :: r => by
  have := putF_len f v r;show (if g = f then (g, v) :: r else (g, x) :: putF f v r).length <= _
  split <;> simp only [List.length_cons] <;> omega
theorem ok_rui {f : Addr} {fd : FuncData} (Z : KR K C CR) (F : Fun K "__init__" "Rule.__init__" sRuI f fd) : FnOk P w K mg base CX0 1 f fd ["self", "size", "first_state", "mark", "parts"] (spRuI C) := by
 refine F.ok scRuI (fun vs H Q E h => ?_) (fun cdv A outer s H vs Q E hr h => ?_)
 ·obtain ⟨_, _, _, _, _, _, _, _, rfl, _⟩ := h;rfl
 obtain ⟨x, v1, v2, v3, v4, i, dx, fs, rfl, hi, hx, l5, q⟩ := h;refine ⟨_, psc (ps_fld (pv 0) (pv 1) rfl) (psc (ps_fld (pv 0) (pv 2) rfl) (psc (ps_fld (pv 0) (pv 3) rfl) (pss_one (ps_fld (pv 0) (pv 4) rfl)))), ?_⟩;have c := Z.cls i hi;have n := Z.no i hi;have k1 := putF_len "size" v1 fs;have k2 := putF_len "first_state" v2 (putF "size" v1 fs);have k3 := putF_len "mark" v3 (putF "first_state" v2 (putF "size" v1 fs));refine ⟨_, rfl, _, rfl, x, C i, dx, fs, rfl, hx, c, n _ (by decide +kernel), by omega, ?_⟩
 refine ⟨_, rfl, _, rfl, x, C i, dx, _, rfl, uds, c, n _ (by decide +kernel), by omega, ?_⟩
 rw [upd_upd];refine ⟨_, rfl, _, rfl, x, C i, dx, _, rfl, uds, c, n _ (by decide +kernel), by omega, ?_⟩
 rw [upd_upd];refine ⟨_, rfl, _, rfl, x, C i, dx, _, rfl, uds, c, n _ (by decide +kernel), by omega, ?_⟩
 rw [upd_upd];exact q
def spFolk (C : Nat -> Addr) : Sp := fun vs H Q _ => ∃ v t, vs = [v] /\ Ru C H t v /\ Q (.int t.folk) H
theorem scRuF : FnScope ["self"] ["self"] (defScope sRuF) := mkSc
theorem ok_ruf {f : Addr} {fd : FuncData} (Z : KR K C CR) (F : Fun K "folk" "Rule.folk" sRuF f fd) : FnOk P w K mg base CX0 1 f fd ["self"] (spFolk C) := by
 refine F.ok scRuF (fun vs H Q E h => ?_) (fun cdv A outer s H vs Q E hr h => ?_)
 ·obtain ⟨_, _, rfl, _⟩ := h;rfl
 obtain ⟨v, t, rfl, ru, q⟩ := h;obtain ⟨a, dx, fs, rfl, ha, h1, _⟩ := ru.ob.ex;exact ⟨_, pss_one (prt (pef (pv 0) rfl)), _, rfl, a, _, dx, fs, _, rfl, ha, Z.cls _ t.kind_lt, Z.no _ t.kind_lt _ (by decide +kernel), h1, q⟩
def spBegin (C : Nat -> Addr) : Sp := fun vs H Q _ => ∃ v t G, vs = [v] /\ Ext G H /\ Ru C G t v /\ ∀ b, Rds G b t.begin -> Q b H
theorem scRuB : FnScope ["self"] ["self"] (defScope sRuB) := mkSc
theorem ok_rub {f : Addr} {fd : FuncData} (Z : KR K C CR) (F : Fun K "begin" "Rule.begin" sRuB f fd) : FnOk P w K mg base CX0 1 f fd ["self"] (spBegin C) := by
 refine F.ok scRuB (fun vs H Q E h => ?_) (fun cdv A outer s H vs Q E hr h => ?_)
 ·obtain ⟨_, _, _, rfl, _⟩ := h;rfl
 obtain ⟨v, t, G, rfl, xG, ru, q⟩ := h;obtain ⟨a, dx, fs, rfl, ha, _, ⟨b, h2, r2⟩, _⟩ := ru.ob.ex;exact ⟨_, pss_one (prt (pef (pv 0) rfl)), _, rfl, a, _, dx, fs, _, rfl, xG _ _ ha, Z.cls _ t.kind_lt, Z.no _ t.kind_lt _ (by decide +kernel), h2, q b r2⟩
def spTold (C : Nat -> Addr) : Sp := fun vs H Q _ => ∃ v t G, vs = [v] /\ Ext G H /\ Ru C G t v /\ ∀ b, Rds G b t.told -> Q b H
theorem scRuT : FnScope ["self"] ["self"] (defScope sRuT) := mkSc
theorem ok_rut {f : Addr} {fd : FuncData} (Z : KR K C CR) (F : Fun K "told" "Rule.told" sRuT f fd) : FnOk P w K mg base CX0 1 f fd ["self"] (spTold C) := by
 refine F.ok scRuT (fun vs H Q E h => ?_) (fun cdv A outer s H vs Q E hr h => ?_)
 ·obtain ⟨_, _, _, rfl, _⟩ := h;rfl
 obtain ⟨v, t, G, rfl, xG, ru, q⟩ := h;obtain ⟨a, dx, fs, rfl, ha, _, _, ⟨b, h2, r2⟩, _⟩ := ru.ob.ex;exact ⟨_, pss_one (prt (pef (pv 0) rfl)), _, rfl, a, _, dx, fs, _, rfl, xG _ _ ha, Z.cls _ t.kind_lt, Z.no _ t.kind_lt _ (by decide +kernel), h2, q b r2⟩
def spBlk (C : Nat -> Addr) : Sp := fun vs H Q _ => ∃ v t, vs = [v] /\ Ru C H t v /\ t.parts.length <= 20 /\ (∀ p ∈ t.parts, p.length <= 20) /\ ∀ (l : Addr) (bs : List Addr) (H' : Hp), Ext H H' -> H l = none -> H' l = some (.lst (bs.map V.ref)) -> l ∉ bs -> (∀ b ∈ bs, H b = none) -> bs.length = t.parts.length -> (∀ (i : Nat) b p, bs[i]? = some b -> t.parts[i]? = some p -> H' b = some (.lst (p.map V.int))) -> Q (.ref l) H'
theorem scRuK : FnScope ["self"] ["self"] (defScope sRuK) := mkSc
abbrev scRuKC : Scope := { kind := .function, names := [(".0", .local), ("part", .local), ("list", .globalImplicit)], isGenerator := false, isCoroutine := false }
theorem compK {X : Cx} : CompG X scRuKC [] ["part"] [] [] := by
 refine ⟨rfl, rfl, by decide +kernel, by decide +kernel, by decide +kernel, (fun z c h => nomatch h), (fun z h => ?_), by decide +kernel, (fun k z h => by simp at h), rfl⟩
 exfalso;have h' : List.lookup z [((".0" : Str), NameKind.local), (("part" : Str), NameKind.local), (("list" : Str), NameKind.globalImplicit)] = some .cell \/ List.lookup z [((".0" : Str), NameKind.local), (("part" : Str), NameKind.local), (("list" : Str), NameKind.globalImplicit)] = some .free := h;simp only [List.lookup_cons, List.lookup_nil] at h'
 repeat' (split at h')
 all_goals simp at h'
theorem ndK : ((["part"] : List Str) ++ ([] : List Str)).Nodup := by decide +kernel
def rListOf (K : Frag) : List V -> Hp -> VK -> Prop := fun xs H Q => ∃ p ys, xs = [.ref p] /\ (SqL K H p ys \/ SqT K H p ys) /\ ∀ l, H l = none -> Q (.ref l) (upd H l (.lst ys))
theorem ok_ruk {f : Addr} {fd : FuncData} (Z : KR K C CR) (F : Fun K "blocks" "Rule.blocks" sRuK f fd) (ml : mg "list" = none) : FnOk P w K mg base CX0 1 f fd ["self"] (spBlk C) := by
 refine F.ok scRuK (fun vs H Q E h => ?_) (fun cdv A outer s H vs Q E hr h => ?_)
 ·obtain ⟨_, _, rfl, _⟩ := h;rfl
 obtain ⟨v, t, rfl, ru, l20, p20, q⟩ := h;obtain ⟨a, dx, fs, rfl, ha, _, _, _, ⟨b, h2, r2⟩, _⟩ := ru.ob.ex;refine ⟨_, pss_one (prt (pe_lcG (te := tCB (rListOf K) (tCn (tVr 0) tNl)) (g := gNm 0) rfl compK (pi_tup (pef (pv 0) rfl)) (fun s H C fp => by exact pgn (i := 0) ndK rfl (.inl rfl)) (fun s H C fp => by exact pe_callTy call_list_of rfl ml PyProof.Rows.boot_list (pac (pv 0) pan)))), ?_⟩
 obtain ⟨p, xs, rfl, hp, rs⟩ := rds_tup r2;have lx := rs.length;rw [List.length_map] at lx;refine ⟨_, rfl, a, _, dx, fs, _, rfl, ha, Z.cls _ t.kind_lt, Z.no _ t.kind_lt _ (by decide +kernel), h2, p, rfl, ⟨_, SqT.of hp⟩, fun D hD => ?_⟩
 refine lcG_tup (a := p) (xs := xs) (fun i ys H' => Ext H H' /\ ∃ bs : List Addr, ys = bs.map V.ref /\ D ∉ bs /\ (∀ b ∈ bs, H b = none) /\ ∀ (j : Nat) b q, bs[j]? = some b -> t.parts[j]? = some q -> H' b = some (.lst (q.map V.int))) (by rw [sizeLine_eq]; omega) ⟨Ext.new hD, [], rfl, by simp, by simp, by simp⟩ (fun i ys H' pv => SqT.of (pv.1 _ _ hp)) ?_ ?_
 ·rintro i x ys H' ex ly hDD ⟨x', bs, rfl, nD, fr, ct⟩ os los R k;obtain ⟨o0, rfl⟩ : ∃ o0, os = [o0] := by
   match os, los with
   | [o0], _ => exact ⟨o0, rfl⟩
  have hi : i < t.parts.length := by have := (List.getElem?_eq_some_iff.mp ex).1; omega
  obtain ⟨c, rfl, hc⟩ := rds_tups rs ex (List.getElem?_eq_getElem hi);refine ⟨⟨[some (.ref c)], rfl, rfl⟩, _, rfl, c, _, rfl, .inr (SqT.of (x' _ _ hc)), fun m hm => ?_⟩;have x2 := Ext.new (o := .lst ((t.parts[i]).map V.int)) hm;have nm : m ≠ D := fun e => by rw [e, hDD] at hm; cases hm
  have hm0 : H m = none := by
   cases e : H m with
   | none => rfl
   | some o => rw [x' _ _ e] at hm; cases hm
  have hDD2 := x2 _ _ hDD;have lb : bs.length = i := by rw [List.length_map] at ly; exact ly
  refine k _ _ hDD2 ⟨ext_upd _ (x'.trans x2) hD, bs ++ [m], by rw [List.map_append]; rfl, ?_, fun b hb => ?_, fun j b q hb hq => ?_⟩
  ·intro hmem;rcases List.mem_append.mp hmem with h | h
   ·exact nD h
   ·exact nm (List.mem_singleton.mp h).symm
  ·rcases List.mem_append.mp hb with h | h
   ·exact fr b h
   ·rw [List.mem_singleton.mp h]; exact hm0
  ·rcases Nat.lt_or_ge j bs.length with lt | ge
   ·rw [List.getElem?_append_left lt] at hb;have nb : b ≠ D := fun e => nD (e ▸ List.mem_of_getElem? hb);rw [upd_ne nb];exact x2 _ _ (ct j b q hb hq)
   ·rw [List.getElem?_append_right ge] at hb;have j0 : j = bs.length := by
     rcases Nat.lt_or_ge (j - bs.length) 1 with z | z
     ·omega
     ·rw [List.getElem?_eq_none (by simpa using z)] at hb; cases hb
    subst j0;rw [Nat.sub_self] at hb;cases hb;rw [lb, List.getElem?_eq_getElem hi] at hq;cases hq;rw [upd_ne nm];exact uds
 ·rintro ys H' ly hDD ⟨x', bs, rfl, nD, fr, ct⟩;rw [List.length_map] at ly;exact q D bs H' x' hD hDD nD fr (by omega) ct
end
theorem lk_put {f g : Str} {v : V} {fs : List (Str × V)} : (putF f v fs).lookup g = if g = f then some v else fs.lookup g := lookup_putF f g v fs
section
variable {v1 v2 v3 v4 : V} {fs : List (Str × V)}
theorem put4_size : (put4 v1 v2 v3 v4 fs).lookup ("size" : Str) = some v1 := by
 unfold put4;rw [lk_put, if_neg (by decide +kernel), lk_put, if_neg (by decide +kernel), lk_put, if_neg (by decide +kernel), lk_put, if_pos rfl]
theorem put4_fst : (put4 v1 v2 v3 v4 fs).lookup ("first_state" : Str) = some v2 := by
 unfold put4;rw [lk_put, if_neg (by decide +kernel), lk_put, if_neg (by decide +kernel), lk_put, if_pos rfl]
theorem put4_mark : (put4 v1 v2 v3 v4 fs).lookup ("mark" : Str) = some v3 := by
 unfold put4;rw [lk_put, if_neg (by decide +kernel), lk_put, if_pos rfl]
theorem put4_parts : (put4 v1 v2 v3 v4 fs).lookup ("parts" : Str) = some v4 := by
 unfold put4;rw [lk_put, if_pos rfl]
theorem put4_other {g : Str} (h : g ≠ "size" /\ g ≠ "first_state" /\ g ≠ "mark" /\ g ≠ "parts") : (put4 v1 v2 v3 v4 fs).lookup g = fs.lookup g := by
 unfold put4;rw [lk_put, if_neg h.2.2.2, lk_put, if_neg h.2.2.1, lk_put, if_neg h.2.1, lk_put, if_neg h.1]
theorem mN_other {g : Str} (h : g ∈ mNames) : g ≠ "size" /\ g ≠ "first_state" /\ g ≠ "mark" /\ g ≠ "parts" := by
 have : ∀ g ∈ mNames, g ≠ "size" /\ g ≠ "first_state" /\ g ≠ "mark" /\ g ≠ "parts" := by decide +kernel
 exact this g h
theorem mN_nil {g : Str} {ns : List Str} (h : g ∈ mNames) (hn : ∀ n ∈ fs.map (·.1), n ∈ fNames) : fs.lookup g = none := by
 have nf : ∀ g ∈ mNames, ∀ n ∈ fNames, g ≠ n := by decide +kernel
 cases e : fs.lookup g with
 | none => rfl
 | some v =>
  exfalso;have : ∀ (l : List (Str × V)), l.lookup g = some v -> g ∈ l.map (·.1) := by
   intro l
   induction l with
   | nil => intro h; cases h
   | cons y l ih =>
    intro h;obtain ⟨k, x⟩ := y;rw [List.lookup_cons] at h;cases e : g == k with
    | true => rw [beq_iff_eq.mp e]; exact List.mem_cons_self ..
    | false => rw [e] at h; exact List.mem_cons_of_mem _ (ih h)
  exact nf g h g (hn g (this fs e)) rfl
theorem ob_put4 {Cl a dx : Addr} {H : Hp} {fk : Int} {bg tl pt : PyData} {X : List (Str × V) -> Prop} (ha : H a = some (.ins Cl dx (put4 (.int fk) v2 v3 v4 fs))) (r2 : Rds H v2 bg) (r3 : Rds H v3 tl) (r4 : Rds H v4 pt) (hn : ∀ n ∈ fs.map (·.1), n ∈ fNames) (hx : X (put4 (.int fk) v2 v3 v4 fs)) : Ob Cl H (.ref a) fk bg tl pt X :=
 ⟨a, dx, _, rfl, ha, put4_size, ⟨_, put4_fst, r2⟩, ⟨_, put4_mark, r3⟩, ⟨_, put4_parts, r4⟩, fun m hm => by rw [put4_other (mN_other hm)]; exact mN_nil (ns := []) hm hn, hx⟩
variable {P : Program} {w : World} {K : Frag} {mg : Str -> Option Value} {base : Heap} {C : Nat -> Addr} {CR CN CS : Addr}
abbrev sSpI : Stmt := inClass (top 31) 0
abbrev sPaI : Stmt := inClass (top 32) 0
abbrev sCoI : Stmt := inClass (top 33) 0
def spSpI (C : Nat -> Addr) (CN : Addr) : Sp := fun vs H Q E => ∃ x u1 u2 d1 d2 dx, vs = [.ref x, u1, u2] /\ H x = some (.ins (C 0) dx []) /\ Rds H u1 d1 /\ Rds H u2 d2 /\ (inD 1 20 d1 = false -> ErrF CN "found" u1 H E) /\ (∀ n, d1 = .int n -> 1 <= n -> n <= 20 -> inD 0 n d2 = false -> ErrF CN "found" u2 H E) /\
 ∀ n k, d1 = .int n -> d2 = .int k -> (R0.split n k).ok -> ∀ H', Kept H H' x -> Ru0 C H' (.split n k) (.ref x) -> Q .non H'
theorem scSpI : FnScope ["self", "folk", "ones"] ["self", "folk", "ones"] (defScope sSpI) := mkSc
variable {S g a1 a2 a3 : Addr} {gd d1 d2 d3 : FuncData} {t : Tok}
theorem ok_spi {f : Addr} {fd : FuncData} (F : Fun K "__init__" "Split.__init__" sSpI f fd) (Cf : ClsFn K S "__init__" g) (G : FnOk P w K mg base CX0 1 g gd ["self", "size", "first_state", "mark", "parts"] (spRuI C)) (bG : Binds K gd ["self", "size", "first_state", "mark", "parts"] []) (mS : mg "Rule" = some (.ref S))
  (A1 : Df P w K mg base (CXE P w) 3 "need_number" ["thing", "low", "high"] (spNN CN) a1 d1) (A2 : Df P w K mg base CX0 1 "one_part" ["folk"] spOP a2 d2) (mF : mg "MOST_FOLK" = some (.int 20 t)) : FnOk P w K mg base (CXE P w) 4 f fd ["self", "folk", "ones"] (spSpI C CN) := by
 refine okE F scSpI (fun vs H Q E h => ?_) (fun cdv A outer s H vs Q E hr h => ?_)
 ·obtain ⟨_, _, _, _, _, _, rfl, _⟩ := h;rfl
 obtain ⟨x, u1, u2, e1, e2, dx, rfl, hx, r1, r2, q1, q2, q⟩ := h;have hr1 : Room 1 _ := hr.mono (by decide)
 refine ⟨_, psc (ps_expr (pec A1.G hr rfl A1.m A1.kp A1.b .nil passE (pac (pv 1) (pac pei (pac (pe_glob (v := .int 20) rfl mF ⟨_, rfl⟩) pan))))) (psc (ps_expr (pec A1.G hr rfl A1.m A1.kp A1.b .nil passE (pac (pv 2) (pac pei (pac (pv 1) pan)))))
  (pss_one (ps_expr (pe_clsCall Cf G hr1 rfl mS bG .nil pass0 (pac (pv 0) (pac (pv 1) (pac (pv 2) (pac (pe_tup (pac pe_str (pac (pv 1) (pac (pv 2) pan)))) (pac (pec A2.G hr1 rfl A2.m A2.kp A2.b .nil pass0 (pac (pv 1) pan)) pan))))))))), ?_⟩
 refine ⟨_, rfl, u1, e1, 1, 20, rfl, r1, fun h1 => ?_, fun h1 => q1 h1⟩;obtain ⟨n, rfl, n1, n20⟩ := inD_int h1;cases r1;refine ⟨_, rfl, _, rfl, u2, e2, 0, n, rfl, r2, fun h2 => ?_, fun h2 => q2 n rfl n1 n20 h2⟩;obtain ⟨k, rfl, k0, kn⟩ := inD_int h2;cases r2;refine ⟨_, rfl, _, rfl, _, rfl, _, rfl, _, rfl, by show 3 <= sizeLine; decide, fun m hm => ⟨_, rfl, n, rfl, by omega, n20, fun l H2 x2 rl => ?_⟩⟩
 have xm := Ext.new (o := .tup [.str "split", .int n, .int k]) hm;have x12 := xm.trans x2;have hm2 := x2 _ _ (show upd H m (.tup [.str "split", .int n, .int k]) m = _ from uds);have hx2 := x12 _ _ hx;refine ⟨x, _, _, _, _, 0, dx, [], rfl, by decide, hx2, by decide, q n k rfl rfl ⟨n1, n20, k0, kn⟩ _ ((x12.kept x).trans (keptUpd _)) ?_⟩
 have kk : Kept H2 (upd H2 x (.ins (C 0) dx (put4 (.int n) (.int k) (.ref m) (.ref l) []))) x := keptUpd _;exact ob_put4 uds (.int _) ((Rds.tup hm2 (.cons (.str _) (.cons (.int _) (.cons (.int _) .nil)))).kept hx2 kk) (rl.kept hx2 kk) (by simp) trivial
def spPaI (C : Nat -> Addr) (CN CS : Addr) : Sp := fun vs H Q E => ∃ x u1 u2 d1 d2 dx, vs = [.ref x, u1, u2] /\ H x = some (.ins (C 1) dx []) /\ Rds H u1 d1 /\ Rds H u2 d2 /\ (inD 1 10 d1 = false -> ErrF CN "found" u1 H E) /\ (inD 1 10 d1 = true -> coinD d2 = false -> ErrF CS "found" u2 H E) /\
 ∀ n a b, d1 = .int n -> d2 = .tuple [.int a, .int b] -> (R0.pairs n a b).ok -> ∀ H', Kept H H' x -> Ru0 C H' (.pairs n a b) (.ref x) -> Q .non H'
theorem scPaI : FnScope ["self", "pairs", "coin"] ["self", "pairs", "coin"] (defScope sPaI) := mkSc
theorem coin_shape {d : PyData} (h : coinD d = true) : ∃ a b, d = .tuple [.int a, .int b] := by
 match d, h with
 | .tuple [.int a, .int b], _ => exact ⟨a, b, rfl⟩
theorem ok_pai {f : Addr} {fd : FuncData} (Z : KR K C CR) (F : Fun K "__init__" "Pairs.__init__" sPaI f fd) (Cf : ClsFn K S "__init__" g) (G : FnOk P w K mg base CX0 1 g gd ["self", "size", "first_state", "mark", "parts"] (spRuI C)) (bG : Binds K gd ["self", "size", "first_state", "mark", "parts"] []) (mS : mg "Rule" = some (.ref S))
  (A1 : Df P w K mg base (CXE P w) 3 "need_number" ["thing", "low", "high"] (spNN CN) a1 d1) (A2 : Df P w K mg base CX0 1 "one_part" ["folk"] spOP a2 d2) (A3 : Df P w K mg base (CXE P w) 5 "need_coin" ["thing"] (spNC CS) a3 d3) (mF : mg "MOST_PAIRS" = some (.int 10 t)) : FnOk P w K mg base (CXE P w) 6 f fd ["self", "pairs", "coin"] (spPaI C CN CS) := by
 refine okE F scPaI (fun vs H Q E h => ?_) (fun cdv A outer s H vs Q E hr h => ?_)
 ·obtain ⟨_, _, _, _, _, _, rfl, _⟩ := h;rfl
 obtain ⟨x, u1, u2, e1, e2, dx, rfl, hx, r1, r2, q1, q2, q⟩ := h;have hr1 : Room 1 _ := hr.mono (by decide)
 have hr3 : Room 3 _ := hr.mono (by decide)
 refine ⟨_, psc (ps_expr (pec A1.G hr3 rfl A1.m A1.kp A1.b .nil passE (pac (pv 1) (pac pei (pac (pe_glob (v := .int 10) rfl mF ⟨_, rfl⟩) pan))))) (psc (ps_expr (pec A3.G hr rfl A3.m A3.kp A3.b .nil passE (pac (pv 2) pan))) (psc (ps_fld (pv 0) (pv 2) rfl)
  (pss_one (ps_expr (pe_clsCall Cf G hr1 rfl mS bG .nil pass0 (pac (pv 0) (pac (pe_op op_mul pei (pv 1)) (pac pe_non (pac (pe_tup (pac pe_str (pac (pv 1) (pac (pv 2) pan)))) (pac (pec A2.G hr1 rfl A2.m A2.kp A2.b .nil pass0 (pac (pe_op op_mul pei (pv 1)) pan)) pan)))))))))), ?_⟩
 refine ⟨_, rfl, u1, e1, 1, 10, rfl, r1, fun h1 => ?_, fun h1 => q1 h1⟩;refine ⟨_, rfl, u2, e2, rfl, r2, fun h2 => ?_, fun h2 => q2 h1 h2⟩;obtain ⟨n, rfl, n1, n10⟩ := inD_int h1;obtain ⟨a, b, rfl⟩ := coin_shape h2;cases r1;refine ⟨_, rfl, _, rfl, x, C 1, dx, [], rfl, hx, Z.cls 1 (by decide), Z.no 1 (by decide) _ (by decide +kernel), by decide, ?_⟩
 have k1 : Kept H (upd H x (.ins (C 1) dx (putF "coin" u2 []))) x := keptUpd _;have r2' := r2.kept hx k1;have hx1 : upd H x (.ins (C 1) dx (putF "coin" u2 [])) x = some (.ins (C 1) dx [("coin", u2)]) := uds;generalize upd H x (.ins (C 1) dx (putF "coin" u2 [])) = H1 at k1 r2' hx1 ⊢;have cm : CMul 2 n := .inl ⟨by decide, by decide⟩
 refine ⟨_, rfl, _, rfl, _, _, rfl, rfl, cm, _, rfl, _, rfl, by show 3 <= sizeLine; decide, fun m hm => ⟨_, rfl, _, _, rfl, rfl, cm, 2 * n, rfl, by omega, by omega, fun l H2 x2 rl => ?_⟩⟩
 have xm := Ext.new (o := .tup [.str "pairs", .int n, u2]) hm;have x12 := xm.trans x2;have hm2 := x2 _ _ (show upd H1 m (.tup [.str "pairs", .int n, u2]) m = _ from uds);have hx2 := x12 _ _ hx1;have r22 := r2'.mono x12;refine ⟨x, _, _, _, _, 1, dx, [("coin", u2)], rfl, by decide, hx2, (by show 1 <= 5; decide), q n a b rfl rfl ⟨n1, n10, h2⟩ _ ((k1.trans (x12.kept x)).trans (keptUpd _)) ?_⟩
 have kk : Kept H2 (upd H2 x (.ins (C 1) dx (put4 (.int (2 * n)) .non (.ref m) (.ref l) [("coin", u2)]))) x := keptUpd _;refine ob_put4 uds .non ((Rds.tup hm2 (.cons (.str _) (.cons (.int _) (.cons r22 .nil)))).kept hx2 kk) (rl.kept hx2 kk) (fun n hn => ?_) ⟨u2, ?_, r22.kept hx2 kk⟩
 ·have e : n = "coin" := by simpa using hn
  rw [e]
  decide +kernel
 ·rw [put4_other (by decide +kernel)]
  rfl
def spCoI (C : Nat -> Addr) (CN CS : Addr) : Sp := fun vs H Q E => ∃ x u1 u2 u3 d1 d2 d3 dx, vs = [.ref x, u1, u2, u3] /\ H x = some (.ins (C 2) dx []) /\ Rds H u1 d1 /\ Rds H u2 d2 /\ Rds H u3 d3 /\ (inD 1 20 d1 = false -> ErrF CN "found" u1 H E) /\ (inD 1 20 d1 = true -> coinD d2 = false -> ErrF CS "found" u2 H E) /\ (inD 1 20 d1 = true -> coinD d2 = true -> inD 1 20 d3 = false -> ErrF CN "found" u3 H E) /\
 ∀ n a b f, d1 = .int n -> d2 = .tuple [.int a, .int b] -> d3 = .int f -> (R0.coins n a b f).ok -> ∀ H', Kept H H' x -> Ru0 C H' (.coins n a b f) (.ref x) -> Q .non H'
theorem scCoI : FnScope ["self", "folk", "coin", "far"] ["self", "folk", "coin", "far"] (defScope sCoI) := mkSc
theorem ok_coi {f : Addr} {fd : FuncData} {t2 : Tok} (Z : KR K C CR) (F : Fun K "__init__" "Coins.__init__" sCoI f fd) (Cf : ClsFn K S "__init__" g) (G : FnOk P w K mg base CX0 1 g gd ["self", "size", "first_state", "mark", "parts"] (spRuI C)) (bG : Binds K gd ["self", "size", "first_state", "mark", "parts"] []) (mS : mg "Rule" = some (.ref S))
  (A1 : Df P w K mg base (CXE P w) 3 "need_number" ["thing", "low", "high"] (spNN CN) a1 d1) (A2 : Df P w K mg base CX0 1 "one_part" ["folk"] spOP a2 d2) (A3 : Df P w K mg base (CXE P w) 5 "need_coin" ["thing"] (spNC CS) a3 d3) (mF : mg "MOST_FOLK" = some (.int 20 t)) (mR : mg "MOST_FAR" = some (.int 20 t2)) : FnOk P w K mg base (CXE P w) 6 f fd ["self", "folk", "coin", "far"] (spCoI C CN CS) := by
 refine okE F scCoI (fun vs H Q E h => ?_) (fun cdv A outer s H vs Q E hr h => ?_)
 ·obtain ⟨_, _, _, _, _, _, _, _, rfl, _⟩ := h;rfl
 obtain ⟨x, u1, u2, u3, e1, e2, e3, dx, rfl, hx, r1, r2, r3, q1, q2, q3, q⟩ := h;have hr1 : Room 1 _ := hr.mono (by decide)
 have hr3 : Room 3 _ := hr.mono (by decide)
 refine ⟨_, psc (ps_expr (pec A1.G hr3 rfl A1.m A1.kp A1.b .nil passE (pac (pv 1) (pac pei (pac (pe_glob (v := .int 20) rfl mF ⟨_, rfl⟩) pan))))) (psc (ps_expr (pec A3.G hr rfl A3.m A3.kp A3.b .nil passE (pac (pv 2) pan))) (psc (ps_expr (pec A1.G hr3 rfl A1.m A1.kp A1.b .nil passE (pac (pv 3) (pac pei (pac (pe_glob (v := .int 20) rfl mR ⟨_, rfl⟩) pan)))))
  (psc (ps_fld (pv 0) (pv 2) rfl) (psc (ps_fld (pv 0) (pv 3) rfl)
  (pss_one (ps_expr (pe_clsCall Cf G hr1 rfl mS bG .nil pass0 (pac (pv 0) (pac (pv 1) (pac pei (pac (pe_tup (pac pe_str (pac (pv 1) (pac (pv 2) (pac (pv 3) pan))))) (pac (pec A2.G hr1 rfl A2.m A2.kp A2.b .nil pass0 (pac (pv 1) pan)) pan)))))))))))), ?_⟩
 refine ⟨_, rfl, u1, e1, 1, 20, rfl, r1, fun h1 => ?_, fun h1 => q1 h1⟩;refine ⟨_, rfl, u2, e2, rfl, r2, fun h2 => ?_, fun h2 => q2 h1 h2⟩;refine ⟨_, rfl, u3, e3, 1, 20, rfl, r3, fun h3 => ?_, fun h3 => q3 h1 h2 h3⟩;obtain ⟨n, rfl, n1, n20⟩ := inD_int h1;obtain ⟨a, b, rfl⟩ := coin_shape h2;obtain ⟨k, rfl, k1', k20⟩ := inD_int h3;cases r1;cases r3;refine ⟨_, rfl, _, rfl, x, C 2, dx, [], rfl, hx, Z.cls 2 (by decide), Z.no 2 (by decide) _ (by decide +kernel), by decide, ?_⟩
 have k1 : Kept H (upd H x (.ins (C 2) dx (putF "coin" u2 []))) x := keptUpd _;have r2' := r2.kept hx k1;have hx1 : upd H x (.ins (C 2) dx (putF "coin" u2 [])) x = some (.ins (C 2) dx [("coin", u2)]) := uds;generalize upd H x (.ins (C 2) dx (putF "coin" u2 [])) = H1 at k1 r2' hx1 ⊢;refine ⟨_, rfl, _, rfl, x, C 2, dx, [("coin", u2)], rfl, hx1, Z.cls 2 (by decide), Z.no 2 (by decide) _ (by decide +kernel), (by show 1 < 1000; decide), ?_⟩
 have ef : putF "far" (.int k) [(("coin" : Str), u2)] = [(("coin" : Str), u2), (("far" : Str), .int k)] := by
  show (if ("coin" : Str) = "far" then _ else _) = _
  rw [if_neg (by decide +kernel)]
  rfl
 rw [ef];have kf : Kept H1 (upd H1 x (.ins (C 2) dx [("coin", u2), ("far", .int k)])) x := keptUpd _;have r2'' := r2'.kept hx1 kf;have hx1' : upd H1 x (.ins (C 2) dx [("coin", u2), ("far", .int k)]) x = some (.ins (C 2) dx [("coin", u2), ("far", .int k)]) := uds;generalize upd H1 x (.ins (C 2) dx [("coin", u2), ("far", .int k)]) = H1' at kf r2'' hx1' ⊢;refine ⟨_, rfl, _, rfl, _, rfl, _, rfl, _, rfl, by show 4 <= sizeLine; decide, fun m hm => ⟨_, rfl, n, rfl, by omega, n20, fun l H2 x2 rl => ?_⟩⟩
 have xm := Ext.new (o := .tup [.str "coins", .int n, u2, .int k]) hm;have x12 := xm.trans x2;have hm2 := x2 _ _ (show upd H1' m (.tup [.str "coins", .int n, u2, .int k]) m = _ from uds);have hx2 := x12 _ _ hx1';have r22 := r2''.mono x12;refine ⟨x, _, _, _, _, 2, dx, [("coin", u2), ("far", .int k)], rfl, by decide, hx2, (by show 2 <= 5; decide), q n a b k rfl rfl rfl ⟨n1, n20, h2, k1', k20⟩ _ (((k1.trans kf).trans (x12.kept x)).trans (keptUpd _)) ?_⟩
 have kk : Kept H2 (upd H2 x (.ins (C 2) dx (put4 (.int n) (.int 0) (.ref m) (.ref l) [("coin", u2), ("far", .int k)]))) x := keptUpd _;refine ob_put4 uds (.int _) ((Rds.tup hm2 (.cons (.str _) (.cons (.int _) (.cons r22 (.cons (.int _) .nil))))).kept hx2 kk) (rl.kept hx2 kk) (fun n hn => ?_) ⟨⟨u2, ?_, r22.kept hx2 kk⟩, ?_⟩
 ·have e : n = "coin" \/ n = "far" := by simpa using hn
  rcases e with e | e <;> rw [e] <;> decide +kernel
 ·rw [put4_other (by decide +kernel)]
  rfl
 ·rw [put4_other (by decide +kernel)]
  rfl
end
theorem wo_up {H : Hp} {p : Addr} {o : HO} : Ext (wo H p) (wo (upd H p o) p) := fun b u e => by
 have n := wo_ne e;exact wo_at n (by rw [upd_ne n]; exact wo_ext H p _ _ e)
theorem Ext.kp {G H H' : Hp} {x : Addr} (e : Ext G H) (n : G x = none) (k : Kept H H' x) : Ext G H' := fun b o h => k b o (e b o h) fun z => by rw [z, n] at h; cases h
section
variable {X : Cx}
def rRng2 : List V -> Hp -> VK -> Prop := fun vs H Q => ∃ i j : Int, vs = [.int i, .int j] /\ ∀ r, H r = none -> Q (.ref r) (upd H r (.rng i j))
theorem call_rng2 : CallR X (.type "range") rRng2 := by
 intro pins s σ H xs us Q I r h;obtain ⟨i, j, rfl, q⟩ := h;obtain ⟨u, v, rfl, ⟨t, rfl⟩, t', rfl⟩ := vals2 r;refine call_range_2 ⟨.ref s.heap.objs.size, _, I.laid (t' := s.toks + 1) (o := .rng i j) (fun b o e => Heap.get?_push_of_some _ e) (Nat.le_refl _) ?_, rfl, q _ (I.hok.fresh (Nat.le_refl _))⟩;exact ⟨_, _, _, Heap.get?_push_size _ rfl⟩
variable {pins : List (Addr × Obj)} {σ : St} {H : Hp} {s : Shared} {A : Around} {Q : Value -> Shared -> Prop} {E : Value -> Shared -> Prop} {b : Bool} {tp : Addr} {dd : Option Addr} {its : List Value} {n : Nat} {sl : Array (Option Value)}
theorem isinst_tup {x : V} {u t : Value} (I : Inv X pins σ H s) (rx : RelV x u) (ty : TyOf X.K H x t) (htp : s.heap.get? tp = some ⟨.type "tuple", dd, .seq its.toArray n, sl⟩) (e : PySem.W.kitAny X.K t its = some b) (h : ∀ tk, Q (.bool b) { s with toks := tk }) :
  wpAny (model X.prog X.w) A (call (.builtin "isinstance") [u, .ref tp]) Q E s := by
 cases ty with
 | non => cases (show u = Value.none from rx); exact PySem.W.kia_tup PySem.W.kitx_none I.kIn True.intro htp e (fun z => nomatch z) h
 | bl y => cases (show u = Value.bool y from rx); exact PySem.W.kia_tup PySem.W.kitx_bool I.kIn True.intro htp e (fun z => nomatch z) h
 | int i => obtain ⟨t, q⟩ := (show ∃ t, u = Value.int i t from rx); cases q; exact PySem.W.kia_tup PySem.W.kitx_int I.kIn True.intro htp e (fun z => nomatch z) h
 | str y => obtain ⟨t, q⟩ := (show ∃ t, u = Value.str y t from rx); cases q; exact PySem.W.kia_tup PySem.W.kitx_str I.kIn True.intro htp e (fun z => nomatch z) h
 | flt y => obtain ⟨t, q⟩ := (show ∃ t, u = Value.float y t from rx); cases q; exact PySem.W.kia_tup PySem.W.kitx_float I.kIn True.intro htp e (fun z => nomatch z) h
 | @lst a xs ea =>
  cases (show u = Value.ref a from rx);obtain ⟨_, _, n, _, h1⟩ := (show ObjOk X.prog X.w H s.heap a (.lst xs) from I.hok a _ ea);exact PySem.W.kia_tup PySem.W.kitx_list I.kIn ⟨_, h1, rfl⟩ htp e (fun z => nomatch z) h
 | @frz a ob xs ea =>
  cases (show u = Value.ref a from rx);obtain ⟨_, _, _, n, _, h1⟩ := (show ObjOk X.prog X.w H s.heap a (.frz ob (.lst xs)) from I.hok a _ ea);exact PySem.W.kia_tup PySem.W.kitx_list I.kIn ⟨_, h1, rfl⟩ htp e (fun z => nomatch z) h
 | @tup a xs ea =>
  cases (show u = Value.ref a from rx);obtain ⟨_, _, _, p⟩ := (show ObjOk X.prog X.w H s.heap a (.tup xs) from I.hok a _ ea);obtain ⟨o, h1, h2, _⟩ := p;exact PySem.W.kia_tup PySem.W.kitx_tuple I.kIn ⟨o, h1, h2⟩ htp e (fun z => nomatch z) h
 | @dK a kvs ea =>
  cases (show u = Value.ref a from rx);obtain ⟨_, _, vs, _, p⟩ := (show ObjOk X.prog X.w H s.heap a (.dK kvs) from I.hok a _ ea);obtain ⟨o, es, ep, h1, h2, _⟩ := p;exact PySem.W.kia_tup PySem.W.kitx_dict I.kIn ⟨o, h1, h2.1⟩ htp e (fun z => nomatch z) h
 | @dT a kvs ea =>
  cases (show u = Value.ref a from rx);obtain ⟨_, _, xs, _, o, es, ep, h1, h2, _⟩ := (show ObjOk X.prog X.w H s.heap a (.dT kvs) from I.hok a _ ea);exact PySem.W.kia_tup PySem.W.kitx_dict I.kIn ⟨o, h1, h2.1⟩ htp e (fun z => nomatch z) h
 | @ins a C dx fs ea cl ha hn htk hm =>
  cases (show u = Value.ref a from rx);obtain ⟨mA, O, _⟩ := ins_get I.hok ea;obtain ⟨od, J, _⟩ := O.look;exact PySem.W.kia_tup (PySem.W.kitx_own (cl.get _) cl.hd ha hn htk hm) I.kIn J htp e (fun z => nomatch z) h
def rIsOn (K : Frag) : List V -> Hp -> VK -> Prop := fun vs H Q => ∃ (x : V) (p : Addr) (cs : List Addr) (t : Value) (b : Bool), vs = [x, .ref p] /\ TyOf K H x t /\ H p = some (.tup (cs.map V.ref)) /\ kitAny K t (cs.map Value.ref) = some b /\ Q (.bl b) H
theorem call_isOn : CallR X (.builtin "isinstance") (rIsOn X.K) := by
 intro pins s σ H xs us Q I r h;obtain ⟨x, p, cs, t, b, rfl, ty, hp, e, q⟩ := h;obtain ⟨u, u', rfl, ru, ru'⟩ := vals2 r;cases (show u' = Value.ref p from ru');obtain ⟨_, its, rv, ⟨o, h1, h2, n, h3⟩⟩ := (show ObjOk X.prog X.w H s.heap p (.tup (cs.map V.ref)) from I.hok p _ hp);have ei := vals_refs rv;subst ei;obtain ⟨c0, d0, dt0, sl0⟩ := o;have hc0 : c0 = .type "tuple" := h2;have hd0 : dt0 = .seq (cs.map Value.ref).toArray n := h3;subst hc0;subst hd0;exact isinst_tup I ru ty h1 e fun tk => ⟨.bl b, H, I.tok _, rfl, q⟩
end
def BlkK (K : Frag) (C : Nat -> Addr) (H : Hp) (v : V) (b : Bool) : Prop := ∃ t, TyOf K H v t /\ kitAny K t [.ref (C 0), .ref (C 1), .ref (C 2)] = some b
theorem BlkK.ext {K : Frag} {C : Nat -> Addr} {H H' : Hp} {v : V} {b : Bool} (h : BlkK K C H v b) (x : Ext H H') : BlkK K C H' v b := by
 obtain ⟨t, k, e⟩ := h;exact ⟨t, My.TyOf.ext k x, e⟩
theorem kitAny3 {K : Frag} {t a b c : Value} {x y z : Bool} (h1 : kitOne K t a = some x) (h2 : kitOne K t b = some y) (h3 : kitOne K t c = some z) : kitAny K t [a, b, c] = some (x || (y || z)) := by
 cases x <;> cases y <;> cases z <;> simp [kitAny, h1, h2, h3]
theorem Ob.ty {K : Frag} {C : Nat -> Addr} {CR : Addr} {H : Hp} {i : Nat} {v : V} {fk : Int} {bg tl pt : PyData} {X : List (Str × V) -> Prop} (Z : KR K C CR) (hi : i < 5) (h : Ob (C i) H v fk bg tl pt X) : TyOf K H v (.ref (C i)) := by
 obtain ⟨a, dx, fs, rfl, ha, _⟩ := h.ex;exact .ins ha (Z.cls i hi) (Z.ha i hi) Z.hn Z.htk (Z.hm i hi)
theorem blk_rule {K : Frag} {C : Nat -> Addr} {CR : Addr} {H : Hp} {t : Rl} {v : V} (Z : KR K C CR) (h : Ru C H t v) : BlkK K C H v (t.kind == 0 || (t.kind == 1 || t.kind == 2)) :=
 ⟨_, h.ob.ty Z t.kind_lt, kitAny3 (Z.kk _ 0 t.kind_lt (by decide)) (Z.kk _ 1 t.kind_lt (by decide)) (Z.kk _ 2 t.kind_lt (by decide))⟩
theorem lcF {J : It} {tt : TT} {cap : St} {D : Addr} {H1 : Hp} {Q : Hp -> Prop} {xs : List V} (p : V -> Bool) (hz : xs.length < sizeLine) (hD : H1 D = none) (go : ∀ i H, Ext H1 H -> i < xs.length -> J.go i H) (st : ∀ H, Ext H1 H -> J.stop xs.length H) (yl : ∀ i H x H', Ext H1 H -> J.yld i H x H' -> H' = H /\ xs[i]? = some x)
  (hs : ∀ (i : Nat) x H, xs[i]? = some x -> Ext H1 H -> ∀ R : Bool -> Hp -> Prop, (∀ H', Ext H H' -> R (p x) H') -> tt (some x :: cap) H R) (hd : ∀ H, Ext H1 H -> H D = some (.lst (xs.filter p)) -> Q H) :
  ∃ W : Nat -> Nat -> List V -> Hp -> Prop, (∃ m, W 0 m [] (upd H1 D (.lst []))) /\
   ∀ i m ys H2, W i m ys H2 -> H2 D = some (.lst ys) /\ ((J.stop i H2 /\ Q H2) \/ (J.go i H2 /\ ys.length < sizeLine /\
    ∀ x H3, J.yld i H2 x H3 -> ∀ os : St, os.length = 1 -> gNm 0 x (os ++ cap) H3 fun σ2 H0 => (∃ os' : St, os'.length = 1 /\ σ2 = os' ++ cap) /\ tt σ2 H0 fun b H5 => (b = false -> ∃ m', m' < m /\ W (i + 1) m' ys H5) /\
     (b = true -> tVr 0 σ2 H5 fun y H4 => H4 D = some (.lst ys) /\ ∃ m', m' < m /\ W (i + 1) m' (ys ++ [y]) (upd H4 D (.lst (ys ++ [y])))))) := by
 refine ⟨fun i m ys H => m = xs.length - i /\ i <= xs.length /\ H D = some (.lst ys) /\ ys = (xs.take i).filter p /\ Ext H1 H, ⟨xs.length, by simp, Nat.zero_le _, uds, rfl, Ext.new hD⟩, ?_⟩
 rintro i m ys H ⟨rfl, hi, hD', rfl, x1⟩;refine ⟨hD', ?_⟩;by_cases hlt : i < xs.length
 ·refine .inr ⟨go i H x1 hlt, ?_, fun x H' hyl os los => ?_⟩
  ·have := List.length_filter_le p (xs.take i);rw [List.length_take] at this;omega
  obtain ⟨rfl, hx⟩ := yl i H x H' x1 hyl;obtain ⟨o0, rfl⟩ : ∃ o0, os = [o0] := by
   match os, los with
   | [o0], _ => exact ⟨o0, rfl⟩
  refine ⟨⟨[some x], rfl, rfl⟩, hs i x H' hx x1 _ fun H5 x5 => ⟨fun e => ?_, fun e => ?_⟩⟩
  ·refine ⟨xs.length - (i + 1), by omega, rfl, hlt, x5 _ _ hD', ?_, x1.trans x5⟩
   rw [take_all hx, List.filter_append, List.filter_cons_of_neg (by rw [e]; decide), List.filter_nil, List.append_nil]
  ·refine ⟨x, rfl, x5 _ _ hD', xs.length - (i + 1), by omega, rfl, hlt, uds, ?_, ext_upd _ (x1.trans x5) hD⟩
   rw [take_all hx, List.filter_append, List.filter_cons_of_pos e, List.filter_nil]
 ·have e : i = xs.length := by omega
  subst e;refine .inl ⟨st H x1, hd H x1 ?_⟩;rw [List.take_length] at hD';exact hD'
theorem filter_ints (p : Int -> Bool) (pv : V -> Bool) (h : ∀ i, pv (.int i) = p i) : ∀ ns : List Int, (ns.map V.int).filter pv = (ns.filter p).map V.int
 | [] => rfl
 | n :: ns => by
  rw [List.map_cons];cases e : p n with
  | true => rw [List.filter_cons_of_pos (by rw [h]; exact e), List.filter_cons_of_pos e, filter_ints p pv h ns]; rfl
  | false => rw [List.filter_cons_of_neg (by rw [h, e]; decide), List.filter_cons_of_neg (by rw [e]; decide), filter_ints p pv h ns]
theorem RdsAll.filter {G : Hp} {α : Type} {f : α -> PyData} {p : α -> Bool} {pv : V -> Bool} : ∀ {ys : List V} {qs : List α}, RdsAll G ys (qs.map f) -> (∀ (i : Nat) y q, ys[i]? = some y -> qs[i]? = some q -> pv y = p q) -> RdsAll G (ys.filter pv) ((qs.filter p).map f)
 | [], [], _, _ => .nil
 | [], _ :: _, h, _ => by cases h
 | _ :: _, [], h, _ => by cases h
 | y :: ys, q :: qs, h, k => by
  cases h with
  | cons r t =>
   have e0 := k 0 y q rfl rfl;have ih := RdsAll.filter t fun i y' q' a b => k (i + 1) y' q' a b;cases e : p q with
   | true => rw [List.filter_cons_of_pos (by rw [e0]; exact e), List.filter_cons_of_pos e]; exact .cons r ih
   | false => rw [List.filter_cons_of_neg (by rw [e0, e]; decide), List.filter_cons_of_neg (by rw [e]; decide)]; exact ih
def Sm (ps : List (List Int)) : Prop := ps.length <= 20 /\ ∀ p ∈ ps, p.length <= 20
theorem secs_len : ∀ (ns : List Int) (s : Int), (secs s ns).length = ns.length
 | [], _ => rfl
 | n :: ns, s => by show (secs (s + n) ns).length + 1 = _; rw [secs_len ns]; rfl
theorem secs_mem : ∀ (ns : List Int) (s : Int), (∀ n ∈ ns, n <= 20) -> ∀ p ∈ secs s ns, p.length <= 20
 | [], _, _, _, h => by cases h
 | n :: ns, s, hn, p, h => by
  rcases List.mem_cons.mp h with rfl | h
  ·have := hn n (List.mem_cons_self ..);unfold upI;simp only [List.length_map, List.length_range];omega
  ·exact secs_mem ns _ (fun m hm => hn m (List.mem_cons_of_mem _ hm)) p h
theorem Sm.cut {ps : List (List Int)} (m : Int) (h : Sm ps) : Sm (cutP m ps) := by
 unfold cutP;refine ⟨Nat.le_trans (List.length_filter_le _ _) (by rw [List.length_map]; exact h.1), fun p hp => ?_⟩
 obtain ⟨q, hq, rfl⟩ := List.mem_map.mp (List.mem_filter.mp hp).1;exact Nat.le_trans (List.length_filter_le _ _) (h.2 q hq)
theorem Rl.sm : ∀ {t : Rl}, t.ok -> Sm t.parts
 | .one r, h => by
  have := R0.folk_ok h;refine ⟨by show 1 <= 20; decide, fun p hp => ?_⟩
  rw [List.mem_singleton.mp hp];unfold upI;simp only [List.length_map, List.length_range];omega
 | .blocks rs, h => by
  obtain ⟨h1, h6, ok, s20⟩ := h;refine ⟨by show (secs 0 (rs.map R0.folk)).length <= 20; rw [secs_len, List.length_map]; omega, secs_mem _ _ fun n hn => ?_⟩
  obtain ⟨r, hr, rfl⟩ := List.mem_map.mp hn;exact (R0.folk_ok (ok r hr)).2
 | .first t m, h => (Rl.sm h.1).cut m
theorem secs_app (n : Int) : ∀ (ns : List Int) (s : Int), secs s (ns ++ [n]) = secs s ns ++ [upI (s + ns.sum) n.toNat]
 | [], s => by simp [secs]
 | m :: ns, s => by
  show upI s m.toNat :: secs (s + m) (ns ++ [n]) = _;rw [secs_app n ns (s + m), List.sum_cons, Int.add_assoc];rfl
structure Ms (P : Program) (w : World) (K : Frag) (mg : Str -> Option Value) (base : Heap) (C : Nat -> Addr) : Prop where
 folk : MethS P w K mg base CX0 1 "folk" ["self"] (Is5 C) (fun _ => spFolk C)
 begin : MethS P w K mg base CX0 1 "begin" ["self"] (Is5 C) (fun _ => spBegin C)
 told : MethS P w K mg base CX0 1 "told" ["self"] (Is5 C) (fun _ => spTold C)
 blocks : MethS P w K mg base CX0 1 "blocks" ["self"] (Is5 C) (fun _ => spBlk C)
section
variable {P : Program} {w : World} {K : Frag} {mg : Str -> Option Value} {base : Heap} {C : Nat -> Addr} {CR : Addr}
abbrev sMBk : Stmt := top 34
def spMBk (K : Frag) (C : Nat -> Addr) : Sp := fun vs H Q _ => ∃ v b, vs = [v] /\ BlkK K C H v b /\ ∀ H', Ext H H' -> Q (.bl b) H'
theorem scMBk : FnScope ["thing"] ["thing"] (defScope sMBk) := mkSc
theorem ok_mbk {f : Addr} {fd : FuncData} (F : Fun K "may_be_block" "may_be_block" sMBk f fd) (m0 : mg "Split" = some (.ref (C 0))) (m1 : mg "Pairs" = some (.ref (C 1))) (m2 : mg "Coins" = some (.ref (C 2))) (mi : mg "isinstance" = none) : FnOk P w K mg base CX0 1 f fd ["thing"] (spMBk K C) := by
 refine F.ok scMBk (fun vs H Q E h => ?_) (fun cdv A outer s H vs Q E hr h => ?_)
 ·obtain ⟨_, _, rfl, _⟩ := h;rfl
 obtain ⟨v, b, rfl, bk, q⟩ := h;refine ⟨_, pss_one (prt (pe_callB call_isOn rfl mi PyProof.Rows.boot_isinstance (pac (pv 0) (pac (pe_tup (pac (pe_glob (v := .ref (C 0)) rfl m0 rfl) (pac (pe_glob (v := .ref (C 1)) rfl m1 rfl) (pac (pe_glob (v := .ref (C 2)) rfl m2 rfl) pan)))) pan)))), ?_⟩;refine ⟨_, rfl, by show 3 <= sizeLine; decide, fun p hp => ?_⟩
 have x1 := Ext.new (o := .tup [.ref (C 0), .ref (C 1), .ref (C 2)]) hp;obtain ⟨t, ty, ka⟩ := bk.ext x1;exact ⟨v, p, [C 0, C 1, C 2], t, b, rfl, ty, uds, ka, q _ x1⟩
abbrev sAB : Stmt := top 35
def BlkAll (K : Frag) (C : Nat -> Addr) (H : Hp) (xs : List V) (bs : List Bool) : Prop := xs.length = bs.length /\ ∀ (i : Nat) x b, xs[i]? = some x -> bs[i]? = some b -> BlkK K C H x b
def abB (n : Nat) (bs : List Bool) : Bool := (decide (1 <= n) && decide (n <= 6)) && bs.all id
def spAB (K : Frag) (C : Nat -> Addr) : Sp := fun vs H Q _ => ∃ v, vs = [v] /\ ((NoK K H v "list" /\ ∀ H', Ext H H' -> Q (.bl false) H') \/ ∃ a xs bs, v = .ref a /\ H a = some (.lst xs) /\ xs.length < 1000 /\ BlkAll K C H xs bs /\ ∀ H', Ext H H' -> Q (.bl (abB xs.length bs)) H')
theorem scAB : FnScope ["thing"] ["thing"] (defScope sAB) := mkSc
abbrev scABC : Scope := { kind := .function, names := [(".0", .local), ("rule", .local), ("may_be_block", .globalImplicit)], isGenerator := false, isCoroutine := false }
theorem compAB {X : Cx} : CompG X scABC [] ["rule"] [] [] := by
 refine ⟨rfl, rfl, by decide +kernel, by decide +kernel, by decide +kernel, (fun z c h => nomatch h), (fun z h => ?_), by decide +kernel, (fun k z h => by simp at h), rfl⟩
 exfalso;have h' : List.lookup z [((".0" : Str), NameKind.local), (("rule" : Str), NameKind.local), (("may_be_block" : Str), NameKind.globalImplicit)] = some .cell \/ List.lookup z [((".0" : Str), NameKind.local), (("rule" : Str), NameKind.local), (("may_be_block" : Str), NameKind.globalImplicit)] = some .free := h;simp only [List.lookup_cons, List.lookup_nil] at h'
 repeat' (split at h')
 all_goals simp at h'
theorem ndAB : ((["rule"] : List Str) ++ ([] : List Str)).Nodup := by decide +kernel
theorem ok_ab {f a1 a2 : Addr} {fd d1 d2 : FuncData} {t : Tok} (N : IsT K) (F : Fun K "are_block_rules" "are_block_rules" sAB f fd) (A1 : Df P w K mg base CX0 1 "may_be_block" ["thing"] (spMBk K C) a1 d1) (A2 : Df P w K mg base CX0 2 "is_whole" ["thing", "low", "high"] (spIsWh K) a2 d2) (mR : mg "MOST_RULES" = some (.int 6 t))
  (mi : mg "isinstance" = none) (ml : mg "list" = none) (mn : mg "len" = none) (ma : mg "all" = none) : FnOk P w K mg base CX0 3 f fd ["thing"] (spAB K C) := by
 refine F.ok scAB (fun vs H Q E h => ?_) (fun cdv A outer s H vs Q E hr h => ?_)
 ·obtain ⟨_, rfl, _⟩ := h;rfl
 obtain ⟨v, rfl, h⟩ := h;have hr1 : Room 1 _ := hr.mono (by decide)
 refine ⟨_, psc (ps_if (PW.pt (pw_or (pt_not (pt_val (pe_callB (call_isK N) rfl mi PyProof.Rows.boot_isinstance (pac (pv 0) (pac (pe_ty rfl ml PyProof.Rows.boot_list) pan))))) (pw_or1 (pt_not (pt_val (pec A2.G hr rfl A2.m A2.kp A2.b .nil pass0 (pac (pe_callB call_len_seq rfl mn PySem.boot_len (pac (pv 0) pan)) (pac pei (pac (pe_glob (v := .int 6) rfl mR ⟨_, rfl⟩) pan))))))))) (pss_one (prt peb)) psn)
  (pss_one (prt (pe_callB (call_all rfl) rfl ma PyProof.Rows.boot_all (pac (pe_lcG (te := tCl (spMBk K C) [] E0 (tCn (tVr 0) tNl)) (g := gNm 0) rfl compAB (pi_list (pv 0)) (fun s H C fp => by exact pgn (i := 0) ndAB rfl (.inl rfl)) (fun s H C fp => by exact pec A1.G hr1 rfl A1.m A1.kp A1.b .nil pass0 (pac (pv 0) pan))) pan)))), ?_⟩
 rcases h with ⟨⟨t, kd, kt⟩, q⟩ | ⟨a, xs, bs, rfl, ha, l1000, ⟨lb, bk⟩, q⟩
 ·exact ⟨_, rfl, _, _, _, _, rfl, kd, kt, _, rfl, itT (itT (q H (Ext.refl _)))⟩
 refine ⟨_, rfl, _, _, _, _, rfl, .inl (.lst ha), rfl, _, rfl, itF ?_⟩;refine ⟨_, rfl, a, xs, rfl, .inl (SqL.of ha), _, 1, 6, rfl, .inl ⟨_, rfl⟩, _, rfl, ?_⟩;have ei : inB 1 6 (.int (xs.length : Nat)) = (decide (1 <= xs.length) && decide (xs.length <= 6)) := by
  show (decide ((1 : Int) <= (xs.length : Nat)) && decide (((xs.length : Nat) : Int) <= 6)) = _
  congr 1 <;> exact decide_eq_decide.mpr (by omega)
 rw [ei];unfold abB at q;cases e : decide (1 <= xs.length) && decide (xs.length <= 6) with
 | false =>
  rw [e, Bool.false_and] at q;exact itT (q H (Ext.refl _))
 | true =>
  rw [e, Bool.true_and] at q;refine itF ⟨_, rfl, a, rfl, ⟨_, SqL.of ha⟩, fun D hD => ?_⟩;refine lcG_list (a := a) (xs := xs) (fun i ys H' => Ext H H' /\ ys = (bs.take i).map V.bl) (by rw [sizeLine_eq]; omega) ⟨Ext.new hD, rfl⟩ (fun i ys H' pv => SqL.of (pv.1 _ _ ha)) ?_ ?_
  ·rintro i x ys H' ex ly hDD ⟨x', rfl⟩ os los R k;obtain ⟨o0, rfl⟩ : ∃ o0, os = [o0] := by
    match os, los with
    | [o0], _ => exact ⟨o0, rfl⟩
   have hi : i < bs.length := by have := (List.getElem?_eq_some_iff.mp ex).1; omega
   refine ⟨⟨[some x], rfl, rfl⟩, _, rfl, x, _, rfl, (bk i x _ ex (List.getElem?_eq_getElem hi)).ext x', fun H4 x4 => k _ H4 (x4 _ _ hDD) ⟨ext_upd _ (x'.trans x4) hD, ?_⟩⟩;rw [take_all (List.getElem?_eq_getElem hi), List.map_append];rfl
  ·rintro ys H' ly hDD ⟨x', rfl⟩;rw [lb, List.take_length] at hDD;exact ⟨D, bs, rfl, SqL.of hDD, q H' x'⟩
abbrev sPO : Stmt := top 27
def spPO (C : Nat -> Addr) : Sp := fun vs H Q _ => ∃ (a : Addr) (xs : List V) (rs : List R0), vs = [.ref a] /\ H a = some (.lst xs) /\ All0 C H rs xs /\ rs.length <= 6 /\ (∀ r ∈ rs, r.ok) /\ ∀ l H', Ext H H' -> Rds H' (.ref l) (partsD (secs 0 (rs.map R0.folk))) -> Q (.ref l) H'
abbrev NPO : List Str := ["rules", "parts", "start", "rule", "behind"]
theorem scPO : FnScope NPO ["rules"] (defScope sPO) := mkSc
theorem sum_take {ns : List Int} {i : Nat} {n : Int} (h : ns[i]? = some n) : (ns.take (i + 1)).sum = (ns.take i).sum + n := by
 rw [take_all h, List.sum_append];simp
theorem folk_bound {rs : List R0} (h6 : rs.length <= 6) (ok : ∀ r ∈ rs, r.ok) : ∀ i, 0 <= (((rs.take i).map R0.folk).sum) /\ ((rs.take i).map R0.folk).sum <= 120 := by
 have gen : ∀ (l : List R0), (∀ r ∈ l, r.ok) -> 0 <= (l.map R0.folk).sum /\ (l.map R0.folk).sum <= 20 * (l.length : Int) := by
  intro l
  induction l with
  | nil => intro _; simp
  | cons r l ih =>
   intro h;have h1 := R0.folk_ok (h r (List.mem_cons_self ..));have h2 := ih fun x hx => h x (List.mem_cons_of_mem _ hx);simp only [List.map_cons, List.sum_cons, List.length_cons];omega
 intro i;have := gen (rs.take i) fun r hr => ok r (List.mem_of_mem_take hr);have l : (rs.take i).length <= 6 := by rw [List.length_take]; omega
 omega
theorem ok_po {f : Addr} {fd : FuncData} (F : Fun K "parts_of" "parts_of" sPO f fd) (M : Ms P w K mg base C) (mt : mg "tuple" = none) (mr : mg "range" = none) : FnOk P w K mg base CX0 2 f fd ["rules"] (spPO C) := by
 refine F.ok scPO (fun vs H Q E h => ?_) (fun cdv A outer s H vs Q E hr h => ?_)
 ·obtain ⟨_, _, _, rfl, _⟩ := h;rfl
 obtain ⟨a, xs, rs, rfl, ha, al, l6, ok, q⟩ := h;have nd := scPO.nd;refine ⟨_, psc (pst (i := 1) nd rfl (Or.inl rfl) (pe_lst pan)) (psc (pst (i := 2) nd rfl (Or.inl rfl) pei)
  (psc (ps_for PassesOwn.never rfl (pi_list (pv 0)) (pgn (i := 3) nd rfl (Or.inl rfl)) (psc (pst (i := 4) nd rfl (Or.inl rfl) (pe_op op_add (pv 2) (pe_methD0 (pv 3) M.folk hr pass0)))
   (psc (ps_expr (pe_bm PySem.F.plainAttrs_list PySem.F.slot_list_append PySem.F.type_list_append mt_append (pv 1) (pac (pe_callTy (call_tupR rfl) rfl mt PyProof.Rows.boot_tuple (pac (pe_callTy call_rng2 rfl mr PyProof.Rows.boot_range (pac (pv 2) (pac (pv 4) pan))) pan)) pan)))
   (pss_one (pst (i := 2) nd rfl (Or.inl rfl) (pv 4))))))
  (pss_one (prt (pe_callTy call_tuple_of rfl mt PyProof.Rows.boot_tuple (pac (pv 1) pan)))))), ?_⟩
 refine ⟨by show 0 <= sizeLine; decide, fun p hp => ?_⟩
 have x1 := Ext.new (o := .lst []) hp;have f1 : upd H p (.lst []) p = some (.lst []) := uds;generalize upd H p (.lst []) = H1 at x1 f1 ⊢;have ap : a ≠ p := fun e => by rw [<- e, ha] at hp; cases hp
 refine ⟨_, rfl, a, rfl, ⟨_, SqL.of (x1 _ _ ha)⟩, for_list (xs := xs) (fun i σ H' => Ext H H' /\ (∃ qs, H' p = some (.lst qs) /\ RdsAll (wo H' p) qs ((secs 0 ((rs.take i).map R0.folk)).map tupD)) /\ ∃ o3 o4, σ = [some (.ref a), some (.ref p), some (.int ((rs.take i).map R0.folk).sum), o3, o4]) ⟨x1, ⟨[], f1, .nil⟩, _, _, rfl⟩ ?_ ?_ ?_⟩
 ·rintro i σ H' _ ⟨x', _⟩;exact SqL.of (x' _ _ ha)
 ·rintro i v σ H' ev ⟨x', ⟨qs, hq, rq⟩, o3, o4, rfl⟩;have hi : i < rs.length := by have := (List.getElem?_eq_some_iff.mp ev).1; rw [al.1]; exact this
  have er := List.getElem?_eq_getElem hi;have ru := (al.2 i _ v er ev).ext x';have em : (rs.map R0.folk)[i]? = some rs[i].folk := by rw [List.getElem?_map, er]; rfl
  have st : ((rs.take (i + 1)).map R0.folk).sum = ((rs.take i).map R0.folk).sum + rs[i].folk := by
   rw [List.map_take, List.map_take];exact sum_take em
  have b1 := folk_bound l6 ok i;have b2 := R0.folk_ok (ok _ (List.getElem_mem hi));have lq : qs.length <= 6 := by
   have := rq.length;rw [List.length_map] at this;have sl : ∀ (ns : List Int) (s : Int), (secs s ns).length = ns.length := by
    intro ns
    induction ns with
    | nil => intro s; rfl
    | cons n ns ih => intro s; show (secs (s + n) ns).length + 1 = _; rw [ih]; rfl
   rw [sl, List.length_map, List.length_take] at this;omega
  refine ⟨_, rfl, rd_meth0 (t := .one rs[i]) (by decide +kernel) ru (fun R r => ⟨_, rfl, r⟩) ⟨v, .one rs[i], rfl, ru, _, _, rfl, rfl, ?_⟩⟩
  refine ⟨_, rfl, .inl ⟨rfl, _, SqL.of hq⟩, _, rfl, _, rfl, _, _, rfl, fun r hr => ⟨r, _, _, rfl, uds, ⟨by show -(2 ^ 62) <= _; omega, by omega, by show -(2 ^ 62) <= _ + R0.folk _; omega, by show _ + R0.folk _ < _; omega⟩, by show (_ + R0.folk _ - _).toNat <= _; omega, fun l hl => ?_⟩⟩
  have xr := Ext.new (o := .rng ((rs.take i).map R0.folk).sum (((rs.take i).map R0.folk).sum + rs[i].folk)) hr;have ed : (((rs.take i).map R0.folk).sum + rs[i].folk - ((rs.take i).map R0.folk).sum).toNat = rs[i].folk.toNat := by congr 1; omega
  have ed' : (((rs.take i).map R0.folk).sum + (Rl.one rs[i]).folk - ((rs.take i).map R0.folk).sum).toNat = rs[i].folk.toNat := ed;rw [ed', upL_eq];have hl' : upd H' r (.rng ((rs.take i).map R0.folk).sum (((rs.take i).map R0.folk).sum + rs[i].folk)) l = none := hl;have xl := Ext.new (o := .tup ((upI ((rs.take i).map R0.folk).sum rs[i].folk.toNat).map V.int)) hl';have x2 := xr.trans xl;have hq2 := x2 _ _ hq;have np : l ≠ p := fun e => by rw [e, xr _ _ hq] at hl'; cases hl'
  have hl2 : upd (upd H' r (.rng ((rs.take i).map R0.folk).sum (((rs.take i).map R0.folk).sum + rs[i].folk))) l (.tup ((upI ((rs.take i).map R0.folk).sum rs[i].folk.toNat).map V.int)) l = some (.tup ((upI ((rs.take i).map R0.folk).sum rs[i].folk.toNat).map V.int)) := uds;refine ⟨p, qs, .ref l, rfl, rfl, hq2, by rw [sizeLine_eq]; omega, ?_⟩
  show tAg (tVr 4) (gNm 2) _ [some (.ref a), some (.ref p), some (.int ((rs.take i).map R0.folk).sum), some v, some (.int (((rs.take i).map R0.folk).sum + rs[i].folk))] (upd (upd (upd H' r (.rng ((rs.take i).map R0.folk).sum (((rs.take i).map R0.folk).sum + rs[i].folk))) l (.tup ((upI ((rs.take i).map R0.folk).sum rs[i].folk.toNat).map V.int))) p (.lst (qs ++ [.ref l])));generalize upd (upd H' r (.rng ((rs.take i).map R0.folk).sum (((rs.take i).map R0.folk).sum + rs[i].folk))) l (.tup ((upI ((rs.take i).map R0.folk).sum rs[i].folk.toNat).map V.int)) = H2 at x2 hq2 hl2 ⊢;refine ⟨_, rfl, ext_upd _ (x'.trans x2) hp, ⟨_, uds, ?_⟩, _, _, by rw [st]; rfl⟩
  have e1 : (secs 0 ((rs.take (i + 1)).map R0.folk)).map tupD = (secs 0 ((rs.take i).map R0.folk)).map tupD ++ [tupD (upI ((rs.take i).map R0.folk).sum rs[i].folk.toNat)] := by
   rw [take_all er, List.map_append, List.map_cons, List.map_nil, secs_app, List.map_append, Int.zero_add];rfl
  rw [e1];refine ((RdsAll.mono (wo_ex x2 p) rq).append (.cons (.tup (wo_at np hl2) (rds_intsD _ _)) .nil) |> RdsAll.mono wo_up)
 ·rintro σ H' ⟨x', ⟨qs, hq, rq⟩, o3, o4, rfl⟩;have lr : xs.length = rs.length := al.1.symm;rw [lr, List.take_length] at rq;refine ⟨_, rfl, p, qs, rfl, .inl ⟨SqL.of hq, fun l hl => ?_⟩⟩;have xl := Ext.new (o := .tup qs) hl;exact q l _ (x'.trans xl) (.tup uds (RdsAll.mono ((wo_ext H' p).trans xl) rq))
end
def aheadD (rs : List R0) (n : Nat) : PyData := match rs[n]? with
 | none => .tuple [.int (n : Nat), .none]
 | some r => .tuple [.int (n : Nat), r.begin]
theorem ahead0 (rs : List R0) : aheadD rs 0 = (Rl.blocks rs).begin := by cases rs <;> rfl
section
variable {P : Program} {w : World} {K : Frag} {mg : Str -> Option Value} {base : Heap} {C : Nat -> Addr} {CR : Addr}
abbrev sSA : Stmt := inClass (top 36) 1
def spSA (C : Nat -> Addr) : Sp := fun vs H Q _ => ∃ (x : Addr) (n : Nat) (dx : Addr) (fs : List (Str × V)) (l : Addr) (ws : List V) (rs : List R0), vs = [.ref x, .int (n : Nat)] /\ H x = some (.ins (C 3) dx fs) /\ fs.lookup ("rules" : Str) = some (.ref l) /\ H l = some (.tup ws) /\ All0 C H rs ws /\ n <= rs.length /\ ∀ m H', Ext H H' -> Rds H' (.ref m) (aheadD rs n) -> Q (.ref m) H'
theorem scSA : FnScope ["self", "number"] ["self", "number"] (defScope sSA) := mkSc
theorem ok_sa {f : Addr} {fd : FuncData} (Z : KR K C CR) (F : Fun K "state_ahead" "Blocks.state_ahead" sSA f fd) (M : Ms P w K mg base C) (ml : mg "len" = none) : FnOk P w K mg base CX0 2 f fd ["self", "number"] (spSA C) := by
 refine F.ok scSA (fun vs H Q E h => ?_) (fun cdv A outer s H vs Q E hr h => ?_)
 ·obtain ⟨_, _, _, _, _, _, _, rfl, _⟩ := h;rfl
 obtain ⟨x, n, dx, fs, l, ws, rs, rfl, hx, hr', hl, al, nl, q⟩ := h;refine ⟨_, psc (ps_if (pt_cmpR op_eq (pv 1) (pe_callB call_len_seq rfl ml PySem.boot_len (pac (pef (pv 0) rfl) pan)) (nomark _)) (pss_one (prt (pe_tup (pac (pv 1) (pac pe_non pan))))) psn)
  (pss_one (prt (pe_tup (pac (pv 1) (pac (pe_methD0 (pxr ixt (pef (pv 0) rfl) (pv 1)) M.begin hr pass0) pan))))), ?_⟩
 have c := Z.cls 3 (by decide)
 have no := Z.no 3 (by decide) "rules" (by decide +kernel)
 refine ⟨_, rfl, _, rfl, x, C 3, dx, fs, _, rfl, hx, c, no, hr', l, ws, rfl, .inr (SqT.of hl), rfl, _, rfl, ?_⟩;have lw := al.1;by_cases e : n = rs.length
 ·rw [decide_eq_true (by rw [<- lw, e])]
  refine itT ⟨_, rfl, by show 2 <= sizeLine; decide, fun m hm => q m _ (Ext.new hm) ?_⟩
  have ea : aheadD rs n = .tuple [.int (n : Nat), .none] := by unfold aheadD; rw [List.getElem?_eq_none (by omega)]
  rw [ea];exact .tup uds (.cons (.int _) (.cons .non .nil))
 ·rw [decide_eq_false (by intro z; injection z with z; omega)]
  have hn : n < rs.length := by omega
  have hw : n < ws.length := by omega
  have ru := al.2 n _ _ (List.getElem?_eq_getElem hn) (List.getElem?_eq_getElem hw);refine itF ⟨_, rfl, rd_meth0 (t := .one rs[n]) (v := ws[n]) (by decide +kernel) ru (fun R r => ⟨_, rfl, x, C 3, dx, fs, _, rfl, hx, c, no, hr', _, rfl, l, ws, _, _, rfl, rfl, SqT.of hl, atN (List.getElem?_eq_getElem hw), r⟩) ⟨_, .one rs[n], H, rfl, Ext.refl _, ru, fun b rb => ⟨by show 2 <= sizeLine; decide, fun m hm => q m _ (Ext.new hm) ?_⟩⟩⟩
  have ea : aheadD rs n = .tuple [.int (n : Nat), rs[n].begin] := by unfold aheadD; rw [List.getElem?_eq_getElem hn]
  rw [ea];exact .tup uds (.cons (.int _) (.cons (rb.mono (Ext.new hm)) .nil))
abbrev sBlI : Stmt := inClass (top 36) 0
abbrev NBl : List Str := ["self", "rules", "size", "mark"]
theorem scBl : FnScope NBl ["self", "rules"] (defScope sBlI) := mkSc
abbrev scBlC : Scope := { kind := .function, names := [(".0", .local), ("rule", .local)], isGenerator := false, isCoroutine := false }
theorem compBl {X : Cx} : CompG X scBlC [] ["rule"] [] [] := by
 refine ⟨rfl, rfl, by decide +kernel, by decide +kernel, by decide +kernel, (fun z c h => nomatch h), (fun z h => ?_), by decide +kernel, (fun k z h => by simp at h), rfl⟩
 exfalso;have h' : List.lookup z [((".0" : Str), NameKind.local), (("rule" : Str), NameKind.local)] = some .cell \/ List.lookup z [((".0" : Str), NameKind.local), (("rule" : Str), NameKind.local)] = some .free := h;simp only [List.lookup_cons, List.lookup_nil] at h'
 repeat' (split at h')
 all_goals simp at h'
def spBlI (K : Frag) (C : Nat -> Addr) (CT CM : Addr) : Sp := fun vs H Q E => ∃ (x : Addr) (v : V) (dx : Addr) (G : Hp), vs = [.ref x, v] /\ H x = some (.ins (C 3) dx []) /\ Ext G H /\ G x = none /\ ((NoK K G v "list" /\ ∀ H', Ext H H' -> ErrF CT "found" v H' E) \/
 (∃ a xs bs, v = .ref a /\ G a = some (.lst xs) /\ xs.length < 1000 /\ BlkAll K C G xs bs /\ abB xs.length bs = false /\ ∀ H', Ext H H' -> ErrF CT "found" v H' E) \/
 ∃ a xs rs, v = .ref a /\ G a = some (.lst xs) /\ All0 C G rs xs /\ 1 <= rs.length /\ rs.length <= 6 /\ (∀ r ∈ rs, r.ok) /\ (20 < (rs.map R0.folk).sum -> ∀ H', Ext H H' -> ErrF CM "many" (.int (rs.map R0.folk).sum) H' E) /\ ((rs.map R0.folk).sum <= 20 -> ∀ H', Kept H H' x -> RuB C H' rs (.ref x) -> Q .non H'))
theorem blk_all {G : Hp} {rs : List R0} {xs : List V} (Z : KR K C CR) (al : All0 C G rs xs) : BlkAll K C G xs (rs.map fun _ => true) := by
 refine ⟨by rw [List.length_map, al.1], fun i x b hx hb => ?_⟩
 have hi : i < rs.length := by have := (List.getElem?_eq_some_iff.mp hx).1; rw [al.1]; exact this
 rw [List.getElem?_map, List.getElem?_eq_getElem hi] at hb;cases hb;have k := blk_rule (t := .one rs[i]) Z (al.2 i _ x (List.getElem?_eq_getElem hi) hx);have e : ((Rl.one rs[i]).kind == 0 || ((Rl.one rs[i]).kind == 1 || (Rl.one rs[i]).kind == 2)) = true := by
  show (rs[i].kind == 0 || (rs[i].kind == 1 || rs[i].kind == 2)) = true;cases rs[i] <;> rfl
 rw [e] at k;exact k
theorem ab_true {n : Nat} (h1 : 1 <= n) (h6 : n <= 6) {rs : List R0} : abB n (rs.map fun _ => true) = true := by
 unfold abB;rw [decide_eq_true h1, decide_eq_true h6, List.all_map];simp
variable {S g a1 a2 D CT CM fT fM : Addr} {gd d1 d2 eT eM : FuncData} {t : Tok}
def tFk (C : Nat -> Addr) : TE := tMethD (Is5 C) "folk" (fun _ => spFolk C) E0 (tVr 0) tNl
def tTd (C : Nat -> Addr) : TE := tMethD (Is5 C) "told" (fun _ => spTold C) E0 (tVr 0) tNl
theorem ok_bli {f : Addr} {fd : FuncData} (Z : KR K C CR) (F : Fun K "__init__" "Blocks.__init__" sBlI f fd) (M : Ms P w K mg base C) (MA : MethS P w K mg base CX0 2 "state_ahead" ["self", "number"] (fun c => c = C 3) (fun _ => spSA C)) (B : BaseC K D) (T1 : OneF K mg D "NoTrials" "found" CT fT eT) (T2 : OneF K mg D "TooMany" "many" CM fM eM)
  (Cf : ClsFn K S "__init__" g) (G' : FnOk P w K mg base CX0 1 g gd ["self", "size", "first_state", "mark", "parts"] (spRuI C)) (bG : Binds K gd ["self", "size", "first_state", "mark", "parts"] []) (mS : mg "Rule" = some (.ref S))
  (A1 : Df P w K mg base CX0 3 "are_block_rules" ["thing"] (spAB K C) a1 d1) (A2 : Df P w K mg base CX0 2 "parts_of" ["rules"] (spPO C) a2 d2) (mF : mg "MOST_FOLK" = some (.int 20 t)) (ms : mg "sum" = none) (mt : mg "tuple" = none) : FnOk P w K mg base (CXE P w) 4 f fd ["self", "rules"] (spBlI K C CT CM) := by
 refine okE F scBl (fun vs H Q E h => ?_) (fun cdv A outer s H vs Q E hr h => ?_)
 ·obtain ⟨_, _, _, _, rfl, _⟩ := h;rfl
 obtain ⟨x, v, dx, G, rfl, hx, xG, nG, h⟩ := h;have nd := scBl.nd;have hr1 : Room 1 _ := hr.mono (by decide)
 have hr2 : Room 2 _ := hr.mono (by decide)
 refine ⟨_, psc (ps_if (pt_not (pt_val (pec A1.G hr rfl A1.m A1.kp A1.b .nil pass0 (pac (pv 1) pan)))) (pss_one (ps_raise B T1.cls (T1.ok P w base) hr2 T1.bi rfl T1.mgC (pv 1))) psn)
  (psc (pst (i := 2) nd rfl (Or.inl rfl) (pe_callB (call_sumL rfl) rfl ms PyProof.Rows.boot_sum (pac (pe_lcG (te := tFk C) (g := gNm 0) rfl compBl (pi_list (pv 1)) (fun s H C fp => by exact pgn (i := 0) ndAB rfl (.inl rfl)) (fun s H C fp => by exact pe_methD0 (pv 0) M.folk hr1 pass0)) pan)))
  (psc (ps_if (pt_cmpR op_gt (pv 2) (pe_glob (v := .int 20) rfl mF ⟨_, rfl⟩) (nomark _)) (pss_one (ps_raise B T2.cls (T2.ok P w base) hr2 T2.bi rfl T2.mgC (pv 2))) psn)
  (psc (ps_fld (pv 0) (pe_callTy call_tuple_of rfl mt PyProof.Rows.boot_tuple (pac (pv 1) pan)) rfl)
  (psc (pst (i := 3) nd rfl (Or.inl rfl) (pe_tup (pac pe_str (pac (pe_callTy call_tuple_of rfl mt PyProof.Rows.boot_tuple (pac (pe_lcG (te := tTd C) (g := gNm 0) rfl compBl (pi_list (pv 1)) (fun s H C fp => by exact pgn (i := 0) ndAB rfl (.inl rfl)) (fun s H C fp => by exact pe_methD0 (pv 0) M.told hr1 pass0)) pan)) pan))))
  (pss_one (ps_expr (pe_clsCall Cf G' hr1 rfl mS bG .nil pass0 (pac (pv 0) (pac (pv 2) (pac (pe_methD (pv 0) MA hr2 pass0 (pac pei pan)) (pac (pv 3) (pac (pec A2.G hr2 rfl A2.m A2.kp A2.b .nil pass0 (pac (pv 1) pan)) pan)))))))))))), ?_⟩
 rcases h with ⟨nk, q⟩ | ⟨a, xs, bs, rfl, ha, l1, bk, bad, q⟩ | ⟨a, xs, rs, rfl, ha, al, l1, l6, ok, qm, q⟩
 ·refine ⟨_, rfl, v, rfl, .inl ⟨nk.ext xG, fun H1 x1 => ⟨_, rfl, itT ⟨_, rfl, fun e' de h1 h2 nd => qR_of nd (q H1 x1 e' de h1 h2 nd)⟩⟩⟩⟩
 ·refine ⟨_, rfl, _, rfl, .inr ⟨a, xs, bs, rfl, xG _ _ ha, l1, ⟨bk.1, fun i x b h1 h2 => (bk.2 i x b h1 h2).ext xG⟩, fun H1 x1 => ⟨_, rfl, ?_⟩⟩⟩;rw [bad];exact itT ⟨_, rfl, fun e' de h1 h2 nd => qR_of nd (q H1 x1 e' de h1 h2 nd)⟩
 have bk := blk_all Z al;have lx := al.1;refine ⟨_, rfl, _, rfl, .inr ⟨a, xs, _, rfl, xG _ _ ha, by omega, ⟨bk.1, fun i x b h1 h2 => (bk.2 i x b h1 h2).ext xG⟩, fun H1 x1 => ⟨_, rfl, ?_⟩⟩⟩
 rw [<- lx, ab_true l1 l6];refine itF ?_;have xG1 := xG.trans x1;refine ⟨_, rfl, a, rfl, ⟨_, SqL.of (xG1 _ _ ha)⟩, fun D hD => ?_⟩;refine lcG_list (a := a) (xs := xs) (fun i ys H' => Ext H1 H' /\ ys = ((rs.take i).map R0.folk).map V.int) (by rw [sizeLine_eq]; omega) ⟨Ext.new hD, rfl⟩ (fun i ys H' pv => SqL.of ((xG1.trans pv.1) _ _ ha)) ?_ ?_
 ·rintro i v ys H' ev ly hDD ⟨x', rfl⟩ os los R k;obtain ⟨o0, rfl⟩ : ∃ o0, os = [o0] := by
   match os, los with
   | [o0], _ => exact ⟨o0, rfl⟩
  have hi : i < rs.length := by have := (List.getElem?_eq_some_iff.mp ev).1; omega
  have er := List.getElem?_eq_getElem hi;have ru := (al.2 i _ v er ev).ext (xG1.trans x');refine ⟨⟨[some v], rfl, rfl⟩, rd_meth0 (t := .one rs[i]) (by decide +kernel) ru (fun R r => ⟨_, rfl, r⟩) ⟨v, .one rs[i], rfl, ru, k _ H' hDD ⟨ext_upd _ x' hD, ?_⟩⟩⟩
  rw [take_all er, List.map_append, List.map_append];rfl
 rintro ys H2 ly hDD ⟨x2, rfl⟩;rw [<- lx, List.take_length] at hDD;refine ⟨D, _, rfl, SqL.of hDD, ?_⟩;refine ⟨_, rfl, _, _, rfl, rfl, _, rfl, ?_⟩;refine ite2 (fun c => ?_) (fun c => ?_)
 ·exact ⟨_, rfl, fun e' de h1 h2 nd => qR_of nd (qm (of_decide_eq_true c) H2 (x1.trans x2) e' de h1 h2 nd)⟩
 have s20 : (rs.map R0.folk).sum <= 20 := by
  have : ¬ ((rs.map R0.folk).sum > 20) := fun z => c (decide_eq_true z);omega
 have x12 := x1.trans x2;have xG2 := xG.trans x12;refine ⟨_, rfl, a, xs, rfl, .inl ⟨SqL.of (xG2 _ _ ha), fun l hl => ?_⟩⟩;have x3 := Ext.new (o := .tup xs) hl;have hl3 : upd H2 l (.tup xs) l = some (.tup xs) := uds;have hx3 := x3 _ _ (x12 _ _ hx);have hl0 : G l = none := by
  cases e : G l with
  | none => rfl
  | some o => rw [xG2 _ _ e] at hl; cases hl
 generalize upd H2 l (.tup xs) = H3 at x3 hl3 hx3 ⊢;have x03 := x12.trans x3;refine ⟨_, rfl, x, C 3, dx, [], rfl, hx3, Z.cls 3 (by decide), Z.no 3 (by decide) _ (by decide +kernel), by decide, ?_⟩
 have k4 : Kept H3 (upd H3 x (.ins (C 3) dx (putF "rules" (.ref l) []))) x := keptUpd _;have hx4 : upd H3 x (.ins (C 3) dx (putF "rules" (.ref l) [])) x = some (.ins (C 3) dx [("rules", .ref l)]) := uds;have xl : l ≠ x := fun e => by rw [e, hx3] at hl3; cases hl3
 have hl4 := k4 _ _ hl3 xl;generalize upd H3 x (.ins (C 3) dx (putF "rules" (.ref l) [])) = H4 at k4 hx4 hl4 ⊢;have kk4 : Kept H H4 x := (x03.kept x).trans k4;have xG4 := xG.kp nG kk4;refine ⟨_, rfl, a, rfl, ⟨_, SqL.of (xG4 _ _ ha)⟩, fun D2 hD2 => ?_⟩;refine lcG_list (a := a) (xs := xs) (fun i ys H' => Ext H4 H' /\ RdsAll G ys ((rs.take i).map R0.told)) (by rw [sizeLine_eq]; omega) ⟨Ext.new hD2, .nil⟩ (fun i ys H' pv => SqL.of ((xG4.trans pv.1) _ _ ha)) ?_ ?_
 ·rintro i v ys H' ev ly hDD ⟨x', ry⟩ os los R k;obtain ⟨o0, rfl⟩ : ∃ o0, os = [o0] := by
   match os, los with
   | [o0], _ => exact ⟨o0, rfl⟩
  have hi : i < rs.length := by have := (List.getElem?_eq_some_iff.mp ev).1; omega
  have er := List.getElem?_eq_getElem hi;have ru0 := al.2 i _ v er ev;have xg := xG4.trans x';have ru := ru0.ext xg;refine ⟨⟨[some v], rfl, rfl⟩, rd_meth0 (t := .one rs[i]) (by decide +kernel) ru (fun R r => ⟨_, rfl, r⟩) ⟨v, .one rs[i], G, rfl, xg, ru0, fun b rb => k b H' hDD ⟨ext_upd _ x' hD2, ?_⟩⟩⟩
  rw [take_all er, List.map_append];exact ry.append (.cons rb .nil)
 rintro ys H5 ly hDD2 ⟨x5, ry⟩;rw [<- lx, List.take_length] at ry;refine ⟨D2, ys, rfl, .inl ⟨SqL.of hDD2, fun m hm => ⟨by show 2 <= sizeLine; decide, fun k hk => ?_⟩⟩⟩
 have x6 := Ext.new (o := .tup ys) hm;have hm6 : upd H5 m (.tup ys) m = some (.tup ys) := uds;generalize upd H5 m (.tup ys) = H6 at x6 hm6 hk ⊢;have x7 := Ext.new (o := .tup [.str "blocks", .ref m]) hk;have hk7 : upd H6 k (.tup [.str "blocks", .ref m]) k = some (.tup [.str "blocks", .ref m]) := uds;generalize upd H6 k (.tup [.str "blocks", .ref m]) = H7 at x7 hk7 ⊢;have x47 := (x5.trans x6).trans x7;have xG7 := xG4.trans x47;have hx7 := x47 _ _ hx4;have hl7 := x47 _ _ hl4;have rk7 : Rds H7 (.ref k) (Rl.blocks rs).told := .tup hk7 (.cons (.str _) (.cons (.tup (x7 _ _ hm6) (RdsAll.mono xG7 ry)) .nil));have al7 := al.ext xG7;refine ⟨_, rfl, _, rfl, _, rfl, x, C 3, dx, _, rfl, rfl, hx7, rfl, ⟨x, 0, dx, _, l, xs, rs, rfl, hx7, rfl, hl7, al7, Nat.zero_le _, fun b H8 x8 rb => ?_⟩⟩;rw [ahead0] at rb;refine ⟨_, rfl, _, rfl, a, xs, rs, rfl, (xG7.trans x8) _ _ ha, al7.ext x8, l6, ok, fun pr H9 x9 rp => ?_⟩;have x79 := x8.trans x9;have hx9 := x79 _ _ hx7;have hl9 := x79 _ _ hl7;refine ⟨x, _, _, _, _, 3, dx, [("rules", .ref l)], rfl, by decide, hx9, (by show 1 <= 5; decide), q s20 _ ((kk4.trans ((x47.trans x79).kept x)).trans (keptUpd _)) ?_⟩
 have kk : Kept H9 (upd H9 x (.ins (C 3) dx (put4 (.int (rs.map R0.folk).sum) (.ref b) (.ref k) (.ref pr) [("rules", .ref l)]))) x := keptUpd _;have xGe := (xG7.trans x79).kp nG kk;refine ob_put4 uds ((rb.mono x9).kept hx9 kk) ((rk7.mono x79).kept hx9 kk) (rp.kept hx9 kk) (fun n hn => ?_) ⟨l, xs, ?_, ?_, al.ext xGe⟩
 ·have e : n = "rules" := by simpa using hn
  rw [e]
  decide +kernel
 ·rw [put4_other (by decide +kernel)]
  rfl
 ·exact kk _ _ hl9 xl
abbrev sPB : Stmt := top 28
abbrev NPB : List Str := ["parts", "many", "cut"]
theorem scPB : FnScope NPB ["parts", "many"] (defScope sPB) := mkSc
def spPB : Sp := fun vs H Q _ => ∃ (v : V) (m : Int) (ps : List (List Int)), vs = [v, .int m] /\ Rds H v (partsD ps) /\ Sm ps /\ ∀ l H', Ext H H' -> Rds H' (.ref l) (partsD (cutP m ps)) -> Q (.ref l) H'
abbrev scPB1 : Scope := { kind := .function, names := [(".0", .local), ("part", .local), ("tuple", .globalImplicit), ("many", .free)], isGenerator := false, isCoroutine := false }
abbrev scPB2 : Scope := { kind := .function, names := [(".0", .local), ("at", .local), ("many", .free)], isGenerator := false, isCoroutine := false }
abbrev scPB3 : Scope := { kind := .function, names := [(".0", .local), ("part", .local), ("len", .globalImplicit)], isGenerator := false, isCoroutine := false }
theorem lookup_one {n z : Str} {a c : Addr} (h : List.lookup z [(n, a)] = some c) : z = n /\ c = a := by
 rw [List.lookup_cons] at h;cases e : z == n with
 | true =>
  rw [e] at h;exact ⟨beq_iff_eq.mp e, (Option.some.inj h).symm⟩
 | false =>
  rw [e] at h;cases h
variable {f : Addr} {cdv : Value} {A : Around} {outer : List Env} {s : Shared} {H : Hp} {E : XK}
theorem compPB1 : CompG (cxOf CX0 P w K mg base NPB "parts_below" (defScope sPB) f cdv A outer s H E).nox scPB1 [("many", s.heap.objs.size + 1)] ["part"] ["many"] [1] := by
 refine ⟨rfl, rfl, by decide +kernel, by decide +kernel, by decide +kernel, (fun z c h => ?_), (fun z h => ?_), by decide +kernel, (fun k z h => ?_), rfl⟩
 ·obtain ⟨rfl, rfl⟩ := lookup_one h;rfl
 ·have h' : List.lookup z [((".0" : Str), NameKind.local), (("part" : Str), NameKind.local), (("tuple" : Str), NameKind.globalImplicit), (("many" : Str), NameKind.cell)] = some .cell \/ List.lookup z [((".0" : Str), NameKind.local), (("part" : Str), NameKind.local), (("tuple" : Str), NameKind.globalImplicit), (("many" : Str), NameKind.cell)] = some .free := h;have e : z = "many" := by
   simp only [List.lookup_cons, List.lookup_nil] at h'
   repeat' (split at h')
   all_goals first | (simp at h'; done) | (rename_i e; exact beq_iff_eq.mp e)
  subst e;exact ⟨_, rfl⟩
 ·cases k with
  | zero =>
   cases h;exact ⟨1, rfl, rfl, .inr (.inl rfl), (by show (defScope sPB).names.lookup ("many" : Str) ≠ some NameKind.local; decide +kernel), .inl rfl⟩
  | succ k => cases h
theorem ndPB1 : ((["part"] : List Str) ++ (["many"] : List Str)).Nodup := by decide +kernel
theorem ndPB2 : ((["at"] : List Str) ++ (["many"] : List Str)).Nodup := by decide +kernel
theorem compPB2 {s1 : Shared} {H1 : Hp} {C1 : Addr} {fp : List Addr} : CompG (compCx (cxOf CX0 P w K mg base NPB "parts_below" (defScope sPB) f cdv A outer s H E).nox scPB1 [("many", s.heap.objs.size + 1)] ((["part"] : List Str) ++ (["many"] : List Str)) s1 H1 C1 fp) scPB2 [("many", s.heap.objs.size + 1)] ["at"] ["many"] [1] := by
 refine ⟨rfl, rfl, by decide +kernel, by decide +kernel, by decide +kernel, (fun z c h => ?_), (fun z h => ?_), by decide +kernel, (fun k z h => ?_), rfl⟩
 ·obtain ⟨rfl, rfl⟩ := lookup_one h;rfl
 ·have h' : List.lookup z [((".0" : Str), NameKind.local), (("at" : Str), NameKind.local), (("many" : Str), NameKind.cell)] = some .cell \/ List.lookup z [((".0" : Str), NameKind.local), (("at" : Str), NameKind.local), (("many" : Str), NameKind.cell)] = some .free := h;have e : z = "many" := by
   simp only [List.lookup_cons, List.lookup_nil] at h'
   repeat' (split at h')
   all_goals first | (simp at h'; done) | (rename_i e; exact beq_iff_eq.mp e)
  subst e;exact ⟨_, rfl⟩
 ·cases k with
  | zero =>
   cases h;exact ⟨1, rfl, rfl, .inr (.inl rfl), (by intro z; cases z), .inl rfl⟩
  | succ k => cases h
theorem compPB3 {X : Cx} : CompG X scPB3 [] ["part"] [] [] := by
 refine ⟨rfl, rfl, by decide +kernel, by decide +kernel, by decide +kernel, (fun z c h => nomatch h), (fun z h => ?_), by decide +kernel, (fun k z h => by simp at h), rfl⟩
 exfalso;have h' : List.lookup z [((".0" : Str), NameKind.local), (("part" : Str), NameKind.local), (("len" : Str), NameKind.globalImplicit)] = some .cell \/ List.lookup z [((".0" : Str), NameKind.local), (("part" : Str), NameKind.local), (("len" : Str), NameKind.globalImplicit)] = some .free := h;simp only [List.lookup_cons, List.lookup_nil] at h'
 repeat' (split at h')
 all_goals simp at h'
def rTupOf (K : Frag) : List V -> Hp -> VK -> Prop := fun xs H Q => ∃ p ys, xs = [.ref p] /\ ((SqL K H p ys /\ ∀ l, H l = none -> Q (.ref l) (upd H l (.tup ys))) \/ (SqT K H p ys /\ Q (.ref p) H))
def tLt01 : TT := tB (tOp (rI0 fun i j => .bl (decide (i < j))) (tVr 0) (tVr 1))
def tCut (K : Frag) : TE := tCB (rTupOf K) (tCn (tLCGif (iTup K (tVr 0)) 1 [1] (gNm 0) tLt01 (tVr 0)) tNl)
def rLenS (K : Frag) : List V -> Hp -> VK -> Prop := fun xs H Q => ∃ p ys, xs = [.ref p] /\ (SqL K H p ys \/ SqT K H p ys) /\ Q (.int ys.length) H
def tHas (K : Frag) : TT := tB (tOp (rI0 fun i j => .bl (decide (i > j))) (tCB (rLenS K) (tCn (tVr 0) tNl)) (tC (.int 0)))
def ltV (m : Int) : V -> Bool
 | .int i => decide (i < m)
 | _ => false
def hasV (H : Hp) : V -> Bool
 | .ref a => match H a with
  | some (.tup ys) => decide (0 < ys.length)
  | _ => false
 | _ => false
theorem ok_pb {fd : FuncData} (F : Fun K "parts_below" "parts_below" sPB f fd) (mt : mg "tuple" = none) (ml : mg "len" = none) : FnOk P w K mg base CX0 1 f fd ["parts", "many"] spPB := by
 refine F.ok scPB (fun vs H Q E h => ?_) (fun cdv A outer s H vs Q E hr h => ?_)
 ·obtain ⟨_, _, _, rfl, _⟩ := h;rfl
 obtain ⟨v, m, ps, rfl, rv, sm, q⟩ := h;have nd := scPB.nd;refine ⟨_, psc (ps_lcG (iy := 2) (te := tCut K) (g := gNm 0) rfl compPB1 (pi_tup (pv 0)) (fun s H C fp => by exact pgn (i := 0) ndPB1 rfl (.inl rfl))
   (fun s H C fp => by exact pe_callTy call_tuple_of rfl mt PyProof.Rows.boot_tuple (pac (pe_lcGI (te := tVr 0) (tt := tLt01) (g := gNm 0) rfl compPB2 (pi_tup (pv 0)) (fun s H C fp => by exact pgn (i := 0) ndPB2 rfl (.inl rfl)) (fun s H C fp => by exact pt_cmpR op_lt (pv 0) (pv 1) (nomark _)) (fun s H C fp => by exact pv 0)) pan)) nd rfl (Or.inl rfl) rfl)
  (pss_one (prt (pe_callTy call_tuple_of rfl mt PyProof.Rows.boot_tuple (pac (pe_lcGI (te := tVr 0) (tt := tHas K) (g := gNm 0) rfl compPB3 (pi_list (pv 2)) (fun s H C fp => by exact pgn (i := 0) ndK rfl (.inl rfl)) (fun s H C fp => by exact pt_cmpR op_gt (pe_callB call_len_seq rfl ml PySem.boot_len (pac (pv 0) pan)) pei (nomark _)) (fun s H C fp => by exact pv 0)) pan)))), ?_⟩
 obtain ⟨p, xs, rfl, hp, rs⟩ := rds_tup rv;have lx := rs.length;rw [List.length_map] at lx;have l20 := sm.1;refine ⟨_, rfl, p, rfl, ⟨_, SqT.of hp⟩, fun D hD => ?_⟩;refine lcG_tup (a := p) (xs := xs) (fun i ys H' => Ext H H' /\ RdsAll (wo H' D) ys (((ps.take i).map (·.filter fun x => decide (x < m))).map tupD)) (by rw [sizeLine_eq]; omega) ⟨Ext.new hD, .nil⟩ (fun i ys H' pv => SqT.of (pv.1 _ _ hp)) ?_ ?_
 ·rintro i x ys H' ex ly hDD ⟨x', ry⟩ os los R k;obtain ⟨o0, rfl⟩ : ∃ o0, os = [o0] := by
   match os, los with
   | [o0], _ => exact ⟨o0, rfl⟩
  have hi : i < ps.length := by have := (List.getElem?_eq_some_iff.mp ex).1; omega
  have ep := List.getElem?_eq_getElem hi;obtain ⟨c, rfl, hc⟩ := rds_tups rs ex ep;have hc' := x' _ _ hc;have pl := sm.2 _ (List.getElem_mem hi);refine ⟨⟨[some (.ref c)], rfl, rfl⟩, _, rfl, c, rfl, ⟨_, SqT.of hc'⟩, fun D2 hD2 => ?_⟩;refine lcF (xs := ps[i].map V.int) (J := Itt K c) (ltV m) (by rw [List.length_map, sizeLine_eq]; omega) hD2 (fun j H1 x1 lt => ⟨_, _, SqT.of (x1 _ _ hc'), List.getElem?_eq_getElem lt⟩) (fun H1 x1 => ⟨_, SqT.of (x1 _ _ hc'), Nat.le_refl _⟩)
   (fun j H1 y H1' x1 ⟨e, hy⟩ => ⟨e, hy _ (SqT.of (x1 _ _ hc'))⟩) (fun j y H1 hy x1 R r => ?_) (fun H4 x4 h4 => ?_)
  ·rw [List.getElem?_map] at hy;obtain ⟨n, _, rfl⟩ := Option.map_eq_some_iff.mp hy;exact ⟨_, rfl, _, rfl, _, _, rfl, rfl, _, rfl, r H1 (Ext.refl _)⟩
  rw [filter_ints (fun n => decide (n < m)) (ltV m) (fun _ => rfl)] at h4;refine ⟨D2, _, rfl, .inl ⟨SqL.of h4, fun t ht => ?_⟩⟩;have x5 := Ext.new (o := .tup ((ps[i].filter fun n => decide (n < m)).map V.int)) ht;have x45 := x4.trans x5;have tD : t ≠ D := fun e => by rw [e, x4 _ _ hDD] at ht; cases ht
  refine k _ _ (x45 _ _ hDD) ⟨ext_upd _ (x'.trans x45) hD, ?_⟩;rw [take_all ep, List.map_append, List.map_append];exact RdsAll.mono wo_up ((RdsAll.mono (wo_ex x45 D) ry).append (.cons (.tup (wo_at tD uds) (rds_intsD _ _)) .nil))
 rintro ys H2 ly hDD ⟨x2, ry⟩;rw [lx, List.take_length] at ry;have ry2 := RdsAll.mono (wo_ext H2 D) ry;refine ⟨_, rfl, D, rfl, ⟨_, SqL.of hDD⟩, fun D3 hD3 => ?_⟩;have pp : ∀ (i : Nat) y qq, ys[i]? = some y -> (ps.map fun p : List Int => p.filter fun x => decide (x < m))[i]? = some qq -> ∃ a, y = .ref a /\ H2 a = some (.tup (qq.map V.int)) := fun i y qq hy hq => rds_tups ry2 hy hq;have ly2 := ry2.length;rw [List.length_map, List.length_map] at ly2;refine lcF (xs := ys) (J := Itl K D) (hasV H2) (by rw [sizeLine_eq]; omega) hD3 (fun j H1 x1 lt => ⟨_, _, SqL.of (x1 _ _ hDD), List.getElem?_eq_getElem lt⟩) (fun H1 x1 => ⟨_, SqL.of (x1 _ _ hDD), Nat.le_refl _⟩)
  (fun j H1 y H1' x1 ⟨e, hy⟩ => ⟨e, hy _ (SqL.of (x1 _ _ hDD))⟩) (fun j y H1 hy x1 R r => ?_) (fun H4 x4 h4 => ?_)
 ·have hj : j < (ps.map fun p : List Int => p.filter fun x => decide (x < m)).length := by have := (List.getElem?_eq_some_iff.mp hy).1; rw [List.length_map]; omega
  obtain ⟨a, rfl, ha⟩ := pp j y _ hy (List.getElem?_eq_getElem hj);have hv : hasV H2 (.ref a) = decide (0 < ((ps.map fun p : List Int => p.filter fun x => decide (x < m))[j].map V.int).length) := by
   show (match H2 a with | some (.tup ys) => decide (0 < ys.length) | _ => false) = _
   rw [ha]
  refine ⟨_, rfl, a, _, rfl, .inr (SqT.of (x1 _ _ ha)), _, _, rfl, rfl, _, rfl, ?_⟩;have := r H1 (Ext.refl _);rw [hv] at this;have e2 : decide ((((ps.map fun p : List Int => p.filter fun x => decide (x < m))[j].map V.int).length : Int) > 0) = decide (0 < ((ps.map fun p : List Int => p.filter fun x => decide (x < m))[j].map V.int).length) := decide_eq_decide.mpr (by omega)
  rw [e2];exact this
 refine ⟨D3, _, rfl, .inl ⟨SqL.of h4, fun l hl => ?_⟩⟩;have x5 := Ext.new (o := .tup (ys.filter (hasV H2))) hl;refine q l _ (x2.trans (x4.trans x5)) (.tup uds ?_);unfold cutP;refine RdsAll.filter (f := tupD) (RdsAll.mono (x4.trans x5) ry2) fun i y qq hy hq => ?_;obtain ⟨a, rfl, ha⟩ := pp i y qq hy hq;show (match H2 a with | some (.tup ys) => decide (0 < ys.length) | _ => false) = _
 rw [ha];show decide (0 < (qq.map V.int).length) = _;rw [List.length_map]
abbrev sFiI : Stmt := inClass (top 37) 0
abbrev NFi : List Str := ["self", "rule", "many"]
theorem scFi : FnScope NFi ["self", "rule", "many"] (defScope sFiI) := mkSc
def spFiI (C : Nat -> Addr) (CN : Addr) : Sp := fun vs H Q E => ∃ (x : Addr) (v u : V) (t : Rl) (d : PyData) (dx : Addr) (G : Hp), vs = [.ref x, v, u] /\ H x = some (.ins (C 4) dx []) /\ Ext G H /\ G x = none /\ Ru C G t v /\ Sm t.parts /\ Rds G u d /\ (inD 0 t.folk d = false -> ErrF CN "found" u H E) /\ ∀ m, d = .int m -> 0 <= m -> m <= t.folk -> ∀ H', Kept H H' x -> Ru C H' (.first t m) (.ref x) -> Q .non H'
variable {CN : Addr}
theorem dealer_of {G : Hp} {t : Rl} {v : V} (ru : Ru C G t v) : (t.kind = 4 -> ∃ a dx fs d, v = .ref a /\ G a = some (.ins (C 4) dx fs) /\ fs.lookup ("dealer" : Str) = some d /\ RuN C G t.inner d) /\ (t.kind ≠ 4 -> RuN C G t.inner v) := by
 cases t with
 | one r => exact ⟨fun e => by have := r.kind_lt; have e' : r.kind = 4 := e; omega, fun _ => ru⟩
 | blocks rs => exact ⟨fun e => (by cases e), fun _ => ru⟩
 | first t m =>
  refine ⟨fun _ => ?_, fun e => absurd rfl e⟩;obtain ⟨a, dx, fs, rfl, ha, _, _, _, _, _, d, hd, rn⟩ := ru.ex;exact ⟨a, dx, fs, d, rfl, ha, hd, rn⟩
theorem ok_fii {fd : FuncData} (N : IsT K) (Z : KR K C CR) (F : Fun K "__init__" "First.__init__" sFiI f fd) (M : Ms P w K mg base C) (Cf : ClsFn K S "__init__" g) (G' : FnOk P w K mg base CX0 1 g gd ["self", "size", "first_state", "mark", "parts"] (spRuI C)) (bG : Binds K gd ["self", "size", "first_state", "mark", "parts"] []) (mS : mg "Rule" = some (.ref S))
  (A1 : Df P w K mg base (CXE P w) 3 "need_number" ["thing", "low", "high"] (spNN CN) a1 d1) (A2 : Df P w K mg base CX0 1 "parts_below" ["parts", "many"] spPB a2 d2) (m4 : mg "First" = some (.ref (C 4))) (mi : mg "isinstance" = none) : FnOk P w K mg base (CXE P w) 4 f fd ["self", "rule", "many"] (spFiI C CN) := by
 refine okE F scFi (fun vs H Q E h => ?_) (fun cdv A outer s H vs Q E hr h => ?_)
 ·obtain ⟨_, _, _, _, _, _, _, rfl, _⟩ := h;rfl
 obtain ⟨x, v, u, t, d, dx, G, rfl, hx, xG, nG, ru, sm, rd, qe, q⟩ := h;have nd := scFi.nd;have hr1 : Room 1 _ := hr.mono (by decide)
 refine ⟨_, psc (ps_expr (pec A1.G hr rfl A1.m A1.kp A1.b .nil passE (pac (pv 2) (pac pei (pac (pe_methD0 (pv 1) M.folk hr1 pass0) pan)))))
  (psc (ps_fld (pv 0) (pe_ifExp (pt_val (pe_callB (call_isO N) rfl mi PyProof.Rows.boot_isinstance (pac (pv 1) (pac (pe_glob (v := .ref (C 4)) rfl m4 rfl) pan)))) (pef (pv 1) rfl) (pv 1)) rfl)
  (pss_one (ps_expr (pe_clsCall Cf G' hr1 rfl mS bG .nil pass0 (pac (pv 0) (pac (pv 2) (pac (pe_methD0 (pv 1) M.begin hr1 pass0) (pac (pe_tup (pac pe_str (pac (pe_methD0 (pv 1) M.told hr1 pass0) (pac (pv 2) pan)))) (pac (pec A2.G hr1 rfl A2.m A2.kp A2.b .nil pass0 (pac (pef (pv 1) rfl) (pac (pv 2) pan))) pan))))))))), ?_⟩
 have ruH := ru.ext xG;refine ⟨_, rfl, rd_meth0 (by decide +kernel) ruH (fun R r => ⟨_, rfl, r⟩) ⟨v, t, rfl, ruH, u, d, 0, t.folk, rfl, rd.mono xG, fun h1 => ?_, fun h1 => qe h1⟩⟩
 obtain ⟨m, rfl, m0, m1⟩ := inD_int h1;cases rd;have fin : ∀ dv, RuN C G t.inner dv -> sFld K (tVr 0) (tC dv) "dealer" ⟨fun σ' H' => tDrop (tCl (spRuI C) [] E0 (tCn (tVr 0) (tCn (tVr 2) (tCn (tMethD (Is5 C) "begin" (fun _ => spBegin C) E0 (tVr 1) tNl) (tCn (tTup (tCn (tC (.str "first")) (tCn (tMethD (Is5 C) "told" (fun _ => spTold C) E0 (tVr 1) tNl) (tCn (tVr 2) tNl)))) (tCn (tCl spPB [] E0 (tCn (tFld K (tVr 1) "parts") (tCn (tVr 2) tNl))) tNl)))))) ⟨fun _ H' => Q .non H', Q, fun _ _ => False, fun _ _ => False⟩ σ' H', Q, fun _ _ => False, fun _ _ => False⟩ [some (.ref x), some v, some (.int m)] H := fun dv rn => by
  refine ⟨_, rfl, x, C 4, dx, [], rfl, hx, Z.cls 4 (by decide), Z.no 4 (by decide) _ (by decide +kernel), by decide, ?_⟩
  have k1 : Kept H (upd H x (.ins (C 4) dx (putF "dealer" dv []))) x := keptUpd _;have hx1 : upd H x (.ins (C 4) dx (putF "dealer" dv [])) x = some (.ins (C 4) dx [("dealer", dv)]) := uds;generalize upd H x (.ins (C 4) dx (putF "dealer" dv [])) = H1 at k1 hx1 ⊢;have xG1 := xG.kp nG k1;have ru1 := ru.ext xG1;obtain ⟨a, da, fa, rfl, ha, _, _, _, ⟨pp, hpp, rpp⟩, _⟩ := ru.ob.ex;refine ⟨_, rfl, _, rfl, rd_meth0 (by decide +kernel) ru1 (fun R r => ⟨_, rfl, r⟩) ⟨_, t, G, rfl, xG1, ru, fun b rb => ?_⟩⟩
  refine rd_meth0 (by decide +kernel) ru1 (fun R r => ⟨_, rfl, r⟩) ⟨_, t, G, rfl, xG1, ru, fun c rc => ⟨_, rfl, by show 3 <= sizeLine; decide, fun k hk => ?_⟩⟩
  have x2 := Ext.new (o := .tup [.str "first", c, .int m]) hk;have hk2 : upd H1 k (.tup [.str "first", c, .int m]) k = some (.tup [.str "first", c, .int m]) := uds;generalize upd H1 k (.tup [.str "first", c, .int m]) = H2 at x2 hk2 ⊢;have xG2 := xG1.trans x2;refine ⟨_, rfl, a, C t.kind, da, fa, _, rfl, xG2 _ _ ha, Z.cls _ t.kind_lt, Z.no _ t.kind_lt _ (by decide +kernel), hpp, _, rfl, pp, m, t.parts, rfl, rpp.mono xG2, sm, fun l H3 x3 rl => ?_⟩
  have x13 := x2.trans x3;have xG3 := xG1.trans x13;have hx3 := x13 _ _ hx1;have hk3 := x3 _ _ hk2;refine ⟨x, _, _, _, _, 4, dx, [("dealer", dv)], rfl, by decide, hx3, (by show 1 <= 5; decide), q m rfl m0 m1 _ ((k1.trans (x13.kept x)).trans (keptUpd _)) ?_⟩
  have kk : Kept H3 (upd H3 x (.ins (C 4) dx (put4 (.int m) b (.ref k) (.ref l) [("dealer", dv)]))) x := keptUpd _;have xGe := xG3.kp nG kk;refine ob_put4 uds (rb.mono xGe) ((Rds.tup hk3 (.cons (.str _) (.cons (rc.mono xG3) (.cons (.int _) .nil)))).kept hx3 kk) (rl.kept hx3 kk) (fun n hn => ?_) ⟨dv, ?_, rn.ext xGe⟩
  ·have e : n = "dealer" := by simpa using hn
   rw [e]
   decide +kernel
  ·rw [put4_other (by decide +kernel)]
   rfl
 have dl := dealer_of ru;refine ⟨_, rfl, _, _, _, _, rfl, ruH.kd Z, Z.kk t.kind 4 t.kind_lt (by decide), _, rfl, ?_⟩
 by_cases e4 : t.kind = 4
 ·rw [show (t.kind == 4) = true from by simpa using e4]
  obtain ⟨a, da, fa, dv, rfl, ha, hd, rn⟩ := dl.1 e4;exact itT ⟨_, rfl, a, C 4, da, fa, _, rfl, xG _ _ ha, Z.cls 4 (by decide), Z.no 4 (by decide) _ (by decide +kernel), hd, fin dv rn⟩
 ·rw [show (t.kind == 4) = false from by simpa using e4]
  exact itF ⟨_, rfl, fin v (dl.2 e4)⟩
end
def KpT (H H' : Hp) : Prop := ∀ b o, H b = some o -> (∀ xs, o ≠ .lst xs) -> H' b = some o
theorem Ext.kpT {H H' : Hp} (x : Ext H H') : KpT H H' := fun b o h _ => x b o h
theorem KpT.trans {H H1 H2 : Hp} (a : KpT H H1) (b : KpT H1 H2) : KpT H H2 := fun x o h n => b x o (a x o h n) n
theorem KpT.refl (H : Hp) : KpT H H := fun _ _ h _ => h
theorem kpu {H : Hp} {D : Addr} {ys : List V} (o : HO) (h : H D = some (.lst ys)) : KpT H (upd H D o) := fun b u e n => by
 rw [upd_ne (fun z => by rw [z, h] at e; cases e; exact n ys rfl)]
 exact e
mutual
def noLst : PyData -> Bool
 | .list _ => false
 | .dict _ => false
 | .tuple xs => noLsts xs
 | _ => true
def noLsts : List PyData -> Bool
 | [] => true
 | x :: xs => noLst x && noLsts xs
end
theorem noLsts_of : ∀ {ds : List PyData}, (∀ d ∈ ds, noLst d = true) -> noLsts ds = true
 | [], _ => by simp [noLsts]
 | x :: xs, h => by
  simp only [noLsts, h x (List.mem_cons_self ..), noLsts_of fun d hd => h d (List.mem_cons_of_mem _ hd), Bool.and_self]
mutual
theorem Rds.keepT {G G' : Hp} (s : KpT G G') : ∀ {v : V} {d : PyData}, noLst d = true -> Rds G v d -> Rds G' v d
 | _, _, _, .non => .non
 | _, _, _, .bl b => .bl b
 | _, _, _, .int i => .int i
 | _, _, _, .str x => .str x
 | _, _, h, .lst e r => by simp [noLst] at h
 | _, _, h, .tup e r => .tup (s _ _ e (fun _ z => by cases z)) (RdsAll.keepT s (by simpa only [noLst] using h) r)
 | _, _, h, .dic0 e => by simp [noLst] at h
 | _, _, h, .dic e r => by simp [noLst] at h
theorem RdsAll.keepT {G G' : Hp} (s : KpT G G') : ∀ {vs : List V} {ds : List PyData}, noLsts ds = true -> RdsAll G vs ds -> RdsAll G' vs ds
 | _, _, _, .nil => .nil
 | _, _, h, .cons r t => by
  simp only [noLsts, Bool.and_eq_true] at h;exact .cons (Rds.keepT s h.1 r) (RdsAll.keepT s h.2 t)
end
theorem R0.nl (r : R0) : noLst r.told = true := by cases r <;> simp [R0.told, noLst, noLsts]
theorem R0.nlB (r : R0) : noLst r.begin = true := by cases r <;> simp [R0.begin, noLst]
theorem nl_ints : ∀ (ns : List Int), noLsts (ns.map PyData.int) = true
 | [] => by simp [noLsts]
 | n :: ns => by simp only [List.map_cons, noLsts, noLst, nl_ints ns, Bool.and_self]
theorem nl_parts (ps : List (List Int)) : noLst (partsD ps) = true := by
 show noLsts (ps.map tupD) = true;refine noLsts_of fun d hd => ?_;obtain ⟨p, _, rfl⟩ := List.mem_map.mp hd;exact nl_ints p
theorem Ob.keepT {C : Addr} {H H' : Hp} {v : V} {fk : Int} {bg tl pt : PyData} {X Y : List (Str × V) -> Prop} (h : Ob C H v fk bg tl pt X) (s : KpT H H') (n1 : noLst bg = true) (n2 : noLst tl = true) (n3 : noLst pt = true) (k : ∀ fs, X fs -> Y fs) : Ob C H' v fk bg tl pt Y := by
 obtain ⟨a, dx, fs, rfl, ha, h1, ⟨b, h2, r2⟩, ⟨m, h3, r3⟩, ⟨p, h4, r4⟩, h5, h6⟩ := h.ex;exact ⟨a, dx, fs, rfl, s _ _ ha (fun _ z => by cases z), h1, ⟨b, h2, r2.keepT s n1⟩, ⟨m, h3, r3.keepT s n2⟩, ⟨p, h4, r4.keepT s n3⟩, h5, k fs h6⟩
section
variable {C : Nat -> Addr} {H H' : Hp}
theorem nl_coin {a b : Int} : noLst (.tuple [.int a, .int b]) = true := by simp [noLst, noLsts]
theorem Ru0.keepT {r : R0} {v : V} (h : Ru0 C H r v) (s : KpT H H') : Ru0 C H' r v := Ob.keepT h s r.nlB r.nl (nl_parts _) fun fs e => by
 cases r with
 | split _ _ => trivial
 | pairs _ a b =>
  obtain ⟨c, e1, e2⟩ := e;exact ⟨c, e1, e2.keepT s nl_coin⟩
 | coins _ a b f =>
  obtain ⟨⟨c, e1, e2⟩, e3⟩ := e;exact ⟨⟨c, e1, e2.keepT s nl_coin⟩, e3⟩
theorem All0.keepT {rs : List R0} {ws : List V} (h : All0 C H rs ws) (s : KpT H H') : All0 C H' rs ws := ⟨h.1, fun i r w a b => Ru0.keepT (h.2 i r w a b) s⟩
theorem all0_app {rs : List R0} {ws : List V} {r : R0} {v : V} (h : All0 C H rs ws) (k : Ru0 C H r v) : All0 C H (rs ++ [r]) (ws ++ [v]) := by
 refine ⟨by rw [List.length_append, List.length_append, h.1]; rfl, fun i r' w' hr hw => ?_⟩
 rcases Nat.lt_or_ge i rs.length with lt | ge
 ·rw [List.getElem?_append_left lt] at hr;rw [List.getElem?_append_left (by rw [<- h.1]; exact lt)] at hw
  exact h.2 i r' w' hr hw
 ·rw [List.getElem?_append_right ge] at hr;rw [List.getElem?_append_right (by rw [<- h.1]; exact ge)] at hw
  have i0 : i = rs.length := by
   rcases Nat.lt_or_ge (i - rs.length) 1 with z | z
   ·omega
   ·rw [List.getElem?_eq_none (by simpa using z)] at hr; cases hr
  subst i0;rw [Nat.sub_self] at hr;rw [h.1, Nat.sub_self] at hw;cases hr;cases hw;exact k
end
theorem made_ext {H : Hp} {x dx : Addr} {u v : HO} (hx : H x = none) (hd : H dx = none) (ne : dx ≠ x) : Ext H (upd (upd H dx u) x v) := by
 have h2 : upd H dx u x = none := by rw [upd_ne ne.symm]; exact hx
 exact (Ext.new hd).trans (Ext.new h2)
end My
namespace My
open PySem PySem.W L2
structure Stp where
 hand : Int
 t : Nat
 b : Nat
 next : PyData
structure Stp.good (s : Stp) : Prop where
 h : s.hand = 0 \/ s.hand = 1
 t1 : 1 <= s.t
 tb : s.t <= s.b
 b100 : s.b <= 100
 lo : Nat.gcd s.t s.b = 1
 nl : noLst s.next = true
def lowT (a b : Nat) : Nat := a / Nat.gcd a b
def lowBt (a b : Nat) : Nat := b / Nat.gcd a b
theorem low_good {a b : Nat} (h1 : 1 <= a) (h2 : a <= b) (h3 : b <= 100) : 1 <= lowT a b /\ lowT a b <= lowBt a b /\ lowBt a b <= 100 /\ Nat.gcd (lowT a b) (lowBt a b) = 1 := by
 have g0 : 0 < Nat.gcd a b := Nat.gcd_pos_of_pos_left b h1;refine ⟨(Nat.le_div_iff_mul_le g0).mpr (by rw [Nat.one_mul]; exact Nat.le_of_dvd h1 (Nat.gcd_dvd_left a b)), Nat.div_le_div_right h2, Nat.le_trans (Nat.div_le_self _ _) h3, ?_⟩
 unfold lowT lowBt;rw [Nat.gcd_div (Nat.gcd_dvd_left a b) (Nat.gcd_dvd_right a b)];exact Nat.div_self g0
def R0.steps : R0 -> PyData -> Int -> List Stp
 | .split n _, .int s, x => (if s < n - x then [⟨0, lowT (n - x - s).toNat (n - x).toNat, lowBt (n - x - s).toNat (n - x).toNat, .int s⟩] else []) ++ (if 0 < s then [⟨1, lowT s.toNat (n - x).toNat, lowBt s.toNat (n - x).toNat, .int (s - 1)⟩] else [])
 | .pairs _ a b, .none, _ => [⟨0, (b - a).toNat, b.toNat, .int 0⟩, ⟨1, a.toNat, b.toNat, .int 1⟩]
 | .pairs _ _ _, .int h, _ => [⟨1 - h, 1, 1, .none⟩]
 | .coins _ a b f, .int s, _ => if f <= s then [⟨0, 1, 1, .int (s - 1)⟩] else if s <= -f then [⟨1, 1, 1, .int (s + 1)⟩] else [⟨0, (b - a).toNat, b.toNat, .int (s - 1)⟩, ⟨1, a.toNat, b.toNat, .int (s + 1)⟩]
 | _, _, _ => []
def R0.vst : R0 -> Int -> PyData -> Prop
 | .split n _, x, st => ∃ s, st = .int s /\ 0 <= s /\ s <= n - x
 | .pairs _ _ _, x, st => (x % 2 = 0 /\ st = .none) \/ (x % 2 = 1 /\ (st = .int 0 \/ st = .int 1))
 | .coins _ _ _ _, x, st => ∃ s, st = .int s /\ -x <= s /\ s <= x
theorem coin_parts {a b : Int} (h : coinD (.tuple [.int a, .int b]) = true) : ∃ x y : Nat, a = (x : Int) /\ b = (y : Int) /\ 1 <= x /\ x < y /\ y <= 100 /\ Nat.gcd x y = 1 := by
 have h' : (((decide (1 <= b) && (decide (0 <= a) && decide (a <= b))) && decide (Nat.gcd a.toNat b.toNat = 1)) && (decide (2 <= b) && decide (b <= 100))) = true := h;simp only [Bool.and_eq_true, decide_eq_true_iff] at h';obtain ⟨⟨⟨h1, h2, h3⟩, g⟩, h5, h6⟩ := h';obtain ⟨x, rfl⟩ : ∃ x : Nat, a = (x : Int) := ⟨a.toNat, by omega⟩
 obtain ⟨y, rfl⟩ : ∃ y : Nat, b = (y : Int) := ⟨b.toNat, by omega⟩
 rw [Int.toNat_natCast, Int.toNat_natCast] at g;refine ⟨x, y, rfl, rfl, ?_, ?_, by omega, g⟩
 ·rcases Nat.eq_zero_or_pos x with z | z
  ·rw [z, Nat.gcd_zero_left] at g; omega
  ·exact z
 ·rcases Nat.lt_or_ge x y with z | z
  ·exact z
  ·have : x = y := by omega
   rw [this, Nat.gcd_self] at g; omega
theorem coin_other {x y : Nat} (h : x < y) (g : Nat.gcd x y = 1) : Nat.gcd (y - x) y = 1 := by
 have h1 : Nat.gcd (y - x) y ∣ y - x := Nat.gcd_dvd_left _ _;have h2 : Nat.gcd (y - x) y ∣ y := Nat.gcd_dvd_right _ _;have h3 : Nat.gcd (y - x) y ∣ x := by
  have e : y - (y - x) = x := by omega
  have q := Nat.dvd_sub h2 h1
  rwa [e] at q
 exact Nat.dvd_one.mp (g ▸ Nat.dvd_gcd h3 h2)
theorem good_two {a b : Int} (h : coinD (.tuple [.int a, .int b]) = true) (n m : PyData) (hn : noLst n = true) (hm : noLst m = true) : (⟨0, (b - a).toNat, b.toNat, n⟩ : Stp).good /\ (⟨1, a.toNat, b.toNat, m⟩ : Stp).good := by
 obtain ⟨x, y, rfl, rfl, h1, h2, h3, g⟩ := coin_parts h;have e : ((y : Int) - (x : Int)).toNat = y - x := by omega
 rw [e, Int.toNat_natCast, Int.toNat_natCast];exact ⟨⟨.inl rfl, by show 1 <= y - x; omega, by show y - x <= y; omega, h3, coin_other h2 g, hn⟩, ⟨.inr rfl, h1, by show x <= y; omega, h3, g, hm⟩⟩
theorem good_one {hd : Int} (h : hd = 0 \/ hd = 1) (n : PyData) (hn : noLst n = true) : (⟨hd, 1, 1, n⟩ : Stp).good := ⟨h, Nat.le_refl _, Nat.le_refl _, by show 1 <= 100; decide, by show Nat.gcd 1 1 = 1; decide, hn⟩
theorem R0.steps_ok {r : R0} {x : Int} {st : PyData} (ok : r.ok) (x0 : 0 <= x) (x1 : x < r.folk) (v : r.vst x st) : (∀ s ∈ r.steps st x, s.good /\ r.vst (x + 1) s.next) /\ r.steps st x ≠ [] := by
 cases r with
 | split n k =>
  obtain ⟨s, rfl, s0, s1⟩ := v;obtain ⟨h1, h2, h3, h4⟩ := ok;have xn : x < n := x1;refine ⟨fun q hq => ?_, ?_⟩
  ·rcases List.mem_append.mp hq with hq | hq
   ·by_cases c : s < n - x
    ·rw [if_pos c] at hq;rw [List.mem_singleton.mp hq];obtain ⟨a1, a2, a3, a4⟩ := low_good (a := (n - x - s).toNat) (b := (n - x).toNat) (by omega) (by omega) (by omega)
     exact ⟨⟨.inl rfl, a1, a2, a3, a4, rfl⟩, s, rfl, s0, by omega⟩
    ·rw [if_neg c] at hq; cases hq
   ·by_cases c : 0 < s
    ·rw [if_pos c] at hq;rw [List.mem_singleton.mp hq];obtain ⟨a1, a2, a3, a4⟩ := low_good (a := s.toNat) (b := (n - x).toNat) (by omega) (by omega) (by omega)
     exact ⟨⟨.inr rfl, a1, a2, a3, a4, rfl⟩, s - 1, rfl, by omega, by omega⟩
    ·rw [if_neg c] at hq; cases hq
  ·intro e;have e' := List.append_eq_nil_iff.mp e;by_cases c : 0 < s
   ·have := e'.2;rw [if_pos c] at this;cases this
   ·have := e'.1;rw [if_pos (by omega)] at this
    cases this
 | pairs n a b =>
  obtain ⟨h1, h2, h3⟩ := ok;rcases v with ⟨p, rfl⟩ | ⟨p, rfl | rfl⟩
  ·obtain ⟨g0, g1⟩ := good_two h3 (.int 0) (.int 1) rfl rfl;refine ⟨fun q hq => ?_, fun e => nomatch e⟩;rcases List.mem_cons.mp hq with rfl | hq
   ·exact ⟨g0, .inr ⟨by omega, .inl rfl⟩⟩
   ·rw [List.mem_singleton.mp hq];exact ⟨g1, .inr ⟨by omega, .inr rfl⟩⟩
  ·refine ⟨fun q hq => ?_, fun e => nomatch e⟩;rw [List.mem_singleton.mp hq];exact ⟨good_one (.inr rfl) _ rfl, .inl ⟨by omega, rfl⟩⟩
  ·refine ⟨fun q hq => ?_, fun e => nomatch e⟩;rw [List.mem_singleton.mp hq];exact ⟨good_one (.inl rfl) _ rfl, .inl ⟨by omega, rfl⟩⟩
 | coins n a b f =>
  obtain ⟨h1, h2, h3, h4, h5⟩ := ok;obtain ⟨s, rfl, s0, s1⟩ := v;obtain ⟨g0, g1⟩ := good_two h3 (.int (s - 1)) (.int (s + 1)) rfl rfl;simp only [R0.steps];by_cases c : f <= s
  ·rw [if_pos c];refine ⟨fun q hq => ?_, fun e => nomatch e⟩;rw [List.mem_singleton.mp hq];exact ⟨good_one (.inl rfl) _ rfl, s - 1, rfl, by omega, by omega⟩
  ·rw [if_neg c];by_cases c2 : s <= -f
   ·rw [if_pos c2];refine ⟨fun q hq => ?_, fun e => nomatch e⟩;rw [List.mem_singleton.mp hq];exact ⟨good_one (.inr rfl) _ rfl, s + 1, rfl, by omega, by omega⟩
   ·rw [if_neg c2];refine ⟨fun q hq => ?_, fun e => nomatch e⟩;rcases List.mem_cons.mp hq with rfl | hq
    ·exact ⟨g0, s - 1, rfl, by omega, by omega⟩
    ·rw [List.mem_singleton.mp hq];exact ⟨g1, s + 1, rfl, by omega, by omega⟩
theorem R0.vst0 {r : R0} (ok : r.ok) : r.vst 0 r.begin := by
 cases r with
 | split n k => obtain ⟨h1, h2, h3, h4⟩ := ok; exact ⟨k, rfl, h3, by omega⟩
 | pairs n a b => exact .inl ⟨rfl, rfl⟩
 | coins n a b f => exact ⟨0, rfl, by omega, by omega⟩
def startB (rs : List R0) (i : Nat) : Int := ((rs.take i).map R0.folk).sum
theorem start_succ {rs : List R0} {i : Nat} {r : R0} (h : rs[i]? = some r) : startB rs (i + 1) = startB rs i + r.folk := by
 unfold startB;rw [take_all h, List.map_append, List.sum_append];simp
def nextB (rs : List R0) (i : Nat) (x : Int) (nx : PyData) : PyData := if x + 1 = startB rs (i + 1) then aheadD rs (i + 1) else .tuple [.int (i : Nat), nx]
theorem ahead_nl (rs : List R0) (n : Nat) : noLst (aheadD rs n) = true := by
 unfold aheadD;cases rs[n]? with
 | none => simp [noLst, noLsts]
 | some r => simp [noLst, noLsts, r.nlB]
theorem next_nl {rs : List R0} {i : Nat} {x : Int} {nx : PyData} (h : noLst nx = true) : noLst (nextB rs i x nx) = true := by
 unfold nextB;split
 ·exact ahead_nl rs _
 ·simp [noLst, noLsts, h]
def Rl.steps : Rl -> PyData -> Int -> List Stp
 | .one r, st, x => r.steps st x
 | .blocks rs, .tuple [.int i, inner], x => match rs[i.toNat]? with
  | none => []
  | some r => (r.steps inner (x - startB rs i.toNat)).map fun s => { s with next := nextB rs i.toNat x s.next }
 | .first t _, st, x => t.steps st x
 | _, _, _ => []
def Rl.vst : Rl -> Int -> PyData -> Prop
 | .one r, x, st => r.vst x st
 | .blocks rs, x, st => ∃ (i : Nat) (inner : PyData) (r : R0), st = .tuple [.int (i : Nat), inner] /\ rs[i]? = some r /\ startB rs i <= x /\ x < startB rs i + r.folk /\ r.vst (x - startB rs i) inner
 | .first t _, x, st => t.vst x st
theorem Rl.steps_ok : ∀ {t : Rl} {x : Int} {st : PyData}, t.ok -> 0 <= x -> x < t.folk -> t.vst x st -> (∀ s ∈ t.steps st x, s.good /\ (x + 1 < t.folk -> t.vst (x + 1) s.next)) /\ t.steps st x ≠ []
 | .one r, x, st, ok, x0, x1, v => by
  obtain ⟨h1, h2⟩ := R0.steps_ok ok x0 x1 v;exact ⟨fun s hs => ⟨(h1 s hs).1, fun _ => (h1 s hs).2⟩, h2⟩
 | .blocks rs, x, st, ok, x0, x1, v => by
  obtain ⟨i, inner, r, rfl, er, s0, s1, v⟩ := v;obtain ⟨o1, o6, oo, o20⟩ := ok;have okr := oo r (List.mem_of_getElem? er);obtain ⟨h1, h2⟩ := R0.steps_ok okr (x := x - startB rs i) (by omega) (by omega) v
  have es : (Rl.blocks rs).steps (.tuple [.int (i : Nat), inner]) x = (r.steps inner (x - startB rs i)).map fun s => { s with next := nextB rs i x s.next } := by
   simp only [Rl.steps, Int.toNat_natCast, er]
  rw [es];refine ⟨fun s hs => ?_, fun e => h2 (List.map_eq_nil_iff.mp e)⟩;obtain ⟨q, hq, rfl⟩ := List.mem_map.mp hs;obtain ⟨g, vn⟩ := h1 q hq;refine ⟨⟨g.h, g.t1, g.tb, g.b100, g.lo, next_nl g.nl⟩, fun lt => ?_⟩;have ss := start_succ er;by_cases c : x + 1 = startB rs (i + 1)
  ·have hi : i + 1 < rs.length := by
    rcases Nat.lt_or_ge (i + 1) rs.length with z | z
    ·exact z
    ·exfalso;have e : startB rs (i + 1) = (Rl.blocks rs).folk := by
      unfold startB;rw [List.take_of_length_le z];rfl
     omega
   have er' := List.getElem?_eq_getElem hi;have fk := R0.folk_ok (oo _ (List.getElem_mem hi));refine ⟨i + 1, rs[i + 1].begin, rs[i + 1], ?_, er', by omega, by omega, ?_⟩
   ·show nextB rs i x q.next = _;unfold nextB aheadD;rw [if_pos c, er']
   ·rw [show x + 1 - startB rs (i + 1) = 0 by omega]
    exact R0.vst0 (oo _ (List.getElem_mem hi))
  ·refine ⟨i, q.next, r, ?_, er, by omega, by omega, ?_⟩
   ·show nextB rs i x q.next = _;unfold nextB;rw [if_neg c]
   ·rw [show x + 1 - startB rs i = x - startB rs i + 1 by omega]
    exact vn
 | .first t m, x, st, ok, x0, x1, v => by
  obtain ⟨o1, o2, o3⟩ := ok;have xm : x < m := x1;obtain ⟨h1, h2⟩ := Rl.steps_ok (t := t) o1 x0 (by omega) v
  exact ⟨fun s hs => ⟨(h1 s hs).1, fun lt => (h1 s hs).2 (by have : x + 1 < m := lt; omega)⟩, h2⟩
theorem Rl.vst0 : ∀ {t : Rl}, t.ok -> 0 < t.folk -> t.vst 0 t.begin
 | .one r, ok, _ => R0.vst0 ok
 | .blocks rs, ok, f => by
  obtain ⟨o1, o6, oo, o20⟩ := ok;cases rs with
  | nil => exact absurd o1 (by decide)
  | cons r rs =>
   have okr := oo r (List.mem_cons_self ..);have fk := R0.folk_ok okr;exact ⟨0, r.begin, r, rfl, rfl, by show (0 : Int) <= 0; decide, by show (0 : Int) < 0 + r.folk; omega, R0.vst0 okr⟩
 | .first t m, ok, f => by
  obtain ⟨o1, o2, o3⟩ := ok;have : 0 < m := f;exact Rl.vst0 (t := t) o1 (by omega)
theorem Rl.inner_steps : ∀ (t : Rl) (st : PyData) (x : Int), t.inner.steps st x = t.steps st x
 | .one _, _, _ => rfl
 | .blocks _, _, _ => rfl
 | .first t _, st, x => Rl.inner_steps t st x
theorem Rl.inner_vst : ∀ (t : Rl) (x : Int) (st : PyData), t.vst x st -> t.inner.vst x st
 | .one _, _, _, h => h
 | .blocks _, _, _, h => h
 | .first t _, x, st, h => Rl.inner_vst t x st h
theorem Rl.inner_ok : ∀ {t : Rl}, t.ok -> t.inner.ok /\ t.folk <= t.inner.folk
 | .one _, h => ⟨h, Int.le_refl _⟩
 | .blocks _, h => ⟨h, Int.le_refl _⟩
 | .first t m, ⟨o1, o2, o3⟩ => by
  obtain ⟨h1, h2⟩ := Rl.inner_ok o1;exact ⟨h1, Int.le_trans o3 h2⟩
def R0.dd : R0 -> Int -> Nat
 | .split n _, x => (n - x).toNat
 | .pairs _ _ b, _ => b.toNat
 | .coins _ _ b _, _ => b.toNat
theorem low_dd {a b : Nat} : lowBt a b ∣ b := Nat.div_dvd_of_dvd (Nat.gcd_dvd_right a b)
theorem low_part {a b : Nat} (h : 1 <= b) : lowT a b * (b / lowBt a b) = a := by
 have g0 : 0 < Nat.gcd a b := Nat.gcd_pos_of_pos_right a h;have e : b / lowBt a b = Nat.gcd a b := by
  unfold lowBt;exact Nat.div_div_self (Nat.gcd_dvd_right a b) (by omega)
 rw [e];unfold lowT;exact Nat.div_mul_cancel (Nat.gcd_dvd_left a b)
def Stp.part (s : Stp) (d : Nat) : Nat := s.t * (d / s.b)
theorem R0.sum_one {r : R0} {x : Int} {st : PyData} (ok : r.ok) (x0 : 0 <= x) (x1 : x < r.folk) (v : r.vst x st) : 1 <= r.dd x /\ r.dd x <= 100 /\ (∀ s ∈ r.steps st x, s.b ∣ r.dd x) /\ ((r.steps st x).map fun s => s.part (r.dd x)).sum = r.dd x := by
 cases r with
 | split n k =>
  obtain ⟨s, rfl, s0, s1⟩ := v;obtain ⟨h1, h2, h3, h4⟩ := ok;have xn : x < n := x1;obtain ⟨b, eb⟩ : ∃ b : Nat, n - x = (b : Int) := ⟨(n - x).toNat, by omega⟩
  obtain ⟨c, rfl⟩ : ∃ c : Nat, s = (c : Int) := ⟨s.toNat, by omega⟩
  have ebn : (n - x).toNat = b := by omega
  have eb1 : (n - x - (c : Int)).toNat = b - c := by omega
  have b1 : 1 <= b := by omega
  show 1 <= (n - x).toNat /\ (n - x).toNat <= 100 /\ (∀ s ∈ (if (c : Int) < n - x then [(⟨0, lowT (n - x - (c : Int)).toNat (n - x).toNat, lowBt (n - x - (c : Int)).toNat (n - x).toNat, .int (c : Nat)⟩ : Stp)] else []) ++ (if (0 : Int) < (c : Int) then [(⟨1, lowT ((c : Int)).toNat (n - x).toNat, lowBt ((c : Int)).toNat (n - x).toNat, .int ((c : Int) - 1)⟩ : Stp)] else []), s.b ∣ (n - x).toNat) /\ (((if (c : Int) < n - x then [(⟨0, lowT (n - x - (c : Int)).toNat (n - x).toNat, lowBt (n - x - (c : Int)).toNat (n - x).toNat, .int (c : Nat)⟩ : Stp)] else []) ++ (if (0 : Int) < (c : Int) then [(⟨1, lowT ((c : Int)).toNat (n - x).toNat, lowBt ((c : Int)).toNat (n - x).toNat, .int ((c : Int) - 1)⟩ : Stp)] else [])).map fun s => s.part (n - x).toNat).sum = (n - x).toNat
  rw [ebn, eb1, Int.toNat_natCast];have p0 : (⟨0, lowT (b - c) b, lowBt (b - c) b, .int (c : Nat)⟩ : Stp).part b = b - c := low_part b1;have p1 : (⟨1, lowT c b, lowBt c b, .int ((c : Int) - 1)⟩ : Stp).part b = c := low_part b1;refine ⟨b1, by omega, fun s hs => ?_, ?_⟩
  ·rcases List.mem_append.mp hs with hs | hs
   ·split at hs
    ·rw [List.mem_singleton.mp hs]; exact low_dd
    ·cases hs
   ·split at hs
    ·rw [List.mem_singleton.mp hs]; exact low_dd
    ·cases hs
  ·rw [List.map_append, List.sum_append];by_cases c1 : (c : Int) < n - x
   ·rw [if_pos c1];by_cases c2 : (0 : Int) < (c : Int)
    ·rw [if_pos c2];simp only [List.map_cons, List.map_nil, List.sum_cons, List.sum_nil, p0, p1];omega
    ·rw [if_neg c2];simp only [List.map_cons, List.map_nil, List.sum_cons, List.sum_nil, p0];omega
   ·rw [if_neg c1];by_cases c2 : (0 : Int) < (c : Int)
    ·rw [if_pos c2];simp only [List.map_cons, List.map_nil, List.sum_cons, List.sum_nil, p1];omega
    ·omega
 | pairs n a b =>
  obtain ⟨h1, h2, h3⟩ := ok;obtain ⟨x', y, rfl, rfl, k1, k2, k3, kg⟩ := coin_parts h3;have e1 : ((y : Int) - (x' : Int)).toNat = y - x' := by omega
  have dy : y / y = 1 := Nat.div_self (by omega)
  rcases v with ⟨p, rfl⟩ | ⟨p, hh⟩
  ·refine ⟨by show 1 <= ((y : Int)).toNat; omega, by show ((y : Int)).toNat <= 100; omega, fun s hs => ?_, ?_⟩
   ·have hs' : s ∈ ([⟨0, ((y : Int) - (x' : Int)).toNat, (y : Int).toNat, .int 0⟩, ⟨1, (x' : Int).toNat, (y : Int).toNat, .int 1⟩] : List Stp) := hs;simp only [List.mem_cons, List.not_mem_nil, or_false] at hs';rcases hs' with rfl | rfl <;> exact Nat.dvd_refl _
   ·show ((y : Int) - (x' : Int)).toNat * ((y : Int).toNat / (y : Int).toNat) + ((x' : Int).toNat * ((y : Int).toNat / (y : Int).toNat) + 0) = (y : Int).toNat;rw [e1, Int.toNat_natCast, Int.toNat_natCast, dy];omega
  ·have one : ∀ h : Int, st = .int h -> 1 <= ((y : Int)).toNat /\ ((y : Int)).toNat <= 100 /\ (∀ s ∈ (R0.pairs n x' y).steps st x, s.b ∣ (y : Int).toNat) /\ (((R0.pairs n x' y).steps st x).map fun s => s.part (y : Int).toNat).sum = (y : Int).toNat := fun h e => by
    subst e;refine ⟨by omega, by omega, fun s hs => ?_, ?_⟩
    ·have hs' : s ∈ ([⟨1 - h, 1, 1, .none⟩] : List Stp) := hs;rw [List.mem_singleton.mp hs'];exact Nat.one_dvd _
    ·show 1 * ((y : Int).toNat / 1) + 0 = (y : Int).toNat;rw [Nat.div_one];omega
   rcases hh with e | e
   ·exact one _ e
   ·exact one _ e
 | coins n a b f =>
  obtain ⟨h1, h2, h3, h4, h5⟩ := ok;obtain ⟨x', y, rfl, rfl, k1, k2, k3, kg⟩ := coin_parts h3;obtain ⟨s, rfl, s0, s1⟩ := v;have e1 : ((y : Int) - (x' : Int)).toNat = y - x' := by omega
  have dy : y / y = 1 := Nat.div_self (by omega)
  refine ⟨by show 1 <= ((y : Int)).toNat; omega, by show ((y : Int)).toNat <= 100; omega, ?_⟩
  show (∀ q ∈ (R0.coins n x' y f).steps (.int s) x, q.b ∣ (y : Int).toNat) /\ (((R0.coins n x' y f).steps (.int s) x).map fun q => q.part (y : Int).toNat).sum = (y : Int).toNat;simp only [R0.steps];by_cases c : f <= s
  ·rw [if_pos c];refine ⟨fun q hq => by rw [List.mem_singleton.mp hq]; exact Nat.one_dvd _, ?_⟩
   show 1 * ((y : Int).toNat / 1) + 0 = (y : Int).toNat;rw [Nat.div_one]; omega
  ·rw [if_neg c];by_cases c2 : s <= -f
   ·rw [if_pos c2];refine ⟨fun q hq => by rw [List.mem_singleton.mp hq]; exact Nat.one_dvd _, ?_⟩
    show 1 * ((y : Int).toNat / 1) + 0 = (y : Int).toNat;rw [Nat.div_one]; omega
   ·rw [if_neg c2];refine ⟨fun q hq => ?_, ?_⟩
    ·simp only [List.mem_cons, List.not_mem_nil, or_false] at hq;rcases hq with rfl | rfl <;> exact Nat.dvd_refl _
    ·show ((y : Int) - (x' : Int)).toNat * ((y : Int).toNat / (y : Int).toNat) + ((x' : Int).toNat * ((y : Int).toNat / (y : Int).toNat) + 0) = (y : Int).toNat;rw [e1, Int.toNat_natCast, Int.toNat_natCast, dy];omega
theorem low_cross {a b : Nat} : lowT a b * b = lowBt a b * a := by
 unfold lowT lowBt;have e1 : Nat.gcd a b * (a / Nat.gcd a b) = a := Nat.mul_div_cancel' (Nat.gcd_dvd_left a b);have e2 : Nat.gcd a b * (b / Nat.gcd a b) = b := Nat.mul_div_cancel' (Nat.gcd_dvd_right a b);generalize a / Nat.gcd a b = u at e1 ⊢;generalize b / Nat.gcd a b = v at e2 ⊢;generalize Nat.gcd a b = g at e1 e2
 calc u * b = u * (g * v) := by rw [e2]
  _ = v * (g * u) := by ac_rfl
  _ = v * a := by rw [e1]
theorem low_ratio {a b c d : Nat} (hb : 0 < b) (hd : 0 < d) (h : a * d = c * b) : lowT a b = lowT c d /\ lowBt a b = lowBt c d := by
 unfold lowT lowBt;have e1 : a / Nat.gcd a b = a * d / Nat.gcd (a * d) (b * d) := by rw [Nat.gcd_mul_right, Nat.mul_div_mul_right _ _ hd]
 have e2 : b / Nat.gcd a b = b * d / Nat.gcd (a * d) (b * d) := by rw [Nat.gcd_mul_right, Nat.mul_div_mul_right _ _ hd]
 have e3 : c / Nat.gcd c d = c * b / Nat.gcd (c * b) (d * b) := by rw [Nat.gcd_mul_right, Nat.mul_div_mul_right _ _ hb]
 have e4 : d / Nat.gcd c d = d * b / Nat.gcd (c * b) (d * b) := by rw [Nat.gcd_mul_right, Nat.mul_div_mul_right _ _ hb]
 rw [e1, e2, e3, e4, h, Nat.mul_comm d b];exact ⟨rfl, rfl⟩
theorem tot_next {S F a b : Nat} (hF : 0 < F) (dv : b ∣ F) (hb : 0 < b) : lowT (lowT S F * b + a * lowBt S F) (lowBt S F * b) = lowT (S + a * (F / b)) F /\ lowBt (lowT S F * b + a * lowBt S F) (lowBt S F * b) = lowBt (S + a * (F / b)) F := by
 have g0 : 0 < lowBt S F := Nat.div_pos (Nat.le_of_dvd hF (Nat.gcd_dvd_right S F)) (Nat.gcd_pos_of_pos_right S hF);refine low_ratio (Nat.mul_pos g0 hb) hF ?_;have lc : lowT S F * F = lowBt S F * S := low_cross;obtain ⟨m, rfl⟩ := dv;rw [Nat.mul_div_cancel_left _ hb];generalize lowT S (b * m) = u at lc ⊢;generalize lowBt S (b * m) = v at lc ⊢
 calc (u * b + a * v) * (b * m) = b * (u * (b * m)) + a * v * (b * m) := by rw [Nat.add_mul]; ac_rfl
  _ = b * (v * S) + a * v * (b * m) := by rw [lc]
  _ = (S + a * m) * (v * b) := by rw [Nat.add_mul]; ac_rfl
theorem lowT_zero {F : Nat} (hF : 0 < F) : lowT 0 F = 0 /\ lowBt 0 F = 1 := by
 unfold lowT lowBt;rw [Nat.gcd_zero_left, Nat.zero_div, Nat.div_self hF];exact ⟨rfl, rfl⟩
theorem lowT_all {F : Nat} (hF : 0 < F) : lowT F F = 1 /\ lowBt F F = 1 := by
 unfold lowT lowBt;rw [Nat.gcd_self, Nat.div_self hF];exact ⟨rfl, rfl⟩
theorem lowBt_le {S F : Nat} : lowBt S F <= F := Nat.div_le_self _ _
theorem lowBt_pos {S F : Nat} (hF : 0 < F) : 0 < lowBt S F := Nat.div_pos (Nat.le_of_dvd hF (Nat.gcd_dvd_right S F)) (Nat.gcd_pos_of_pos_right S hF)
abbrev TJ := Str -> St -> Hp -> (Str -> Hp -> Prop) -> Prop
def TupK (K : Frag) (a : Addr) (xs : List V) : Prop := ∃ (o : Obj) (its : Array Value) (n : Nat), K.lookup a = some o /\ o.cls = .type "tuple" /\ o.data = .seq its n /\ its.size <= sizeLine /\ Vals xs its.toList
def oD : Option Nat -> PyData
 | some n => .int n
 | none => .none
section
variable {P : Program} {w : World} {K : Frag} {mg : Str -> Option Value} {base : Heap}
def Sz (n : Nat) : Prop := n < 2 ^ 8999
theorem Sz.log {n : Nat} (h : Sz n) : ((n : Nat) : Int).natAbs.log2 < 9000 := by
 rw [Int.natAbs_natCast];by_cases z : n = 0
 ·rw [z]; decide
 ·exact (Nat.log2_lt z).mpr (Nat.lt_trans h (Nat.pow_lt_pow_right (by decide) (by decide)))
theorem Sz.mono {m n : Nat} (h : Sz n) (e : m <= n) : Sz m := Nat.lt_of_le_of_lt e h
theorem bits_le {n : Nat} {k : Nat} (h : n < 2 ^ k) : Builtin.Int.intBits ((n : Nat) : Int) <= k := by
 unfold Builtin.Int.intBits;split
 ·exact Nat.zero_le _
 ·rename_i hz
  have hn : n ≠ 0 := fun e => by subst e; exact hz rfl
  have : n.log2 < k := (Nat.log2_lt hn).mpr h;rw [Int.natAbs_natCast];omega
theorem bits_neg (n : Nat) : Builtin.Int.intBits (-(n : Int)) = Builtin.Int.intBits ((n : Nat) : Int) := by
 unfold Builtin.Int.intBits;by_cases z : n = 0
 ·subst z; rfl
 ·rw [if_neg (by simp; omega), if_neg (by simp; omega), Int.natAbs_neg]
theorem gm {m n : Nat} (h : Sz m) (k : Sz n) : GMul ((m : Nat) : Int) ((n : Nat) : Int) := by
 have h1 := bits_le h;have h2 := bits_le k;show _ + _ <= 1000000;omega
def Sgn (C : Int) (c : Nat) : Prop := C = (c : Int) \/ C = -(c : Int)
theorem gmS {C : Int} {c n : Nat} (s : Sgn C c) (h : Sz c) (k : Sz n) : GMul C ((n : Nat) : Int) := by
 have h1 := bits_le h;have h2 := bits_le k;show _ + _ <= 1000000;rcases s with rfl | rfl
 ·omega
 ·rw [bits_neg]; omega
abbrev sAdd : Stmt := top 15
def spAdd (K : Frag) : Sp := fun vs H Q _ => ∃ (p : Addr) (a b c d W : Nat) (C : Int), vs = [.ref p, .int C, .int d] /\ SqT K H p [.int a, .int b] /\ Sgn C c /\ Sz a /\ Sz b /\ Sz c /\ Sz d /\ 1 <= b /\ 1 <= d /\
 (a : Int) * ((d / Nat.gcd b d : Nat) : Int) + C * ((b / Nat.gcd b d : Nat) : Int) = (W : Int) /\ ∀ r, H r = none -> Q (.ref r) (upd H r (.tup [.int (W / Nat.gcd W (Nat.gcd b d) : Nat), .int (b / Nat.gcd b d * (d / Nat.gcd W (Nat.gcd b d)) : Nat)]))
theorem scAdd : FnScope ["one", "top", "bottom", "common", "whole", "struck"] ["one", "top", "bottom"] (defScope sAdd) := mkSc
theorem ok_add {f g : Addr} {fd gd : FuncData} (F : Fun K "added" "added" sAdd f fd) (G : FnOk P w K mg base CX0 1 g gd ["one", "other"] spGcd) (bG : Binds K gd ["one", "other"] []) (kG : keepIn K (.ref g) = true) (mG : mg "greatest_common" = some (.ref g)) : FnOk P w K mg base CX0 2 f fd ["one", "top", "bottom"] (spAdd K) := by
 refine F.ok scAdd (fun vs H Q E h => ?_) (fun cdv A outer s H vs Q E hr h => ?_)
 ·obtain ⟨p, a, b, c, d, W, C, rfl, _⟩ := h;rfl
 obtain ⟨p, a, b, c, d, W, C, rfl, hp, sg, sa, sb, sc, sd, b1, d1, hW, q⟩ := h;have nd := scAdd.nd;refine ⟨_, psc (pst (i := 3) nd rfl (Or.inl rfl) (pec G hr rfl mG kG bG .nil pass0 (pac (pxr ixt (pv 0) pei) (pac (pv 2) pan))))
  (psc (pst (i := 4) nd rfl (Or.inl rfl) (pe_op op_add (pe_op op_gmul (pxr ixt (pv 0) pei) (pe_op op_gdiv (pv 2) (pv 3))) (pe_op op_gmul (pv 1) (pe_op op_gdiv (pxr ixt (pv 0) pei) (pv 3)))))
  (psc (pst (i := 5) nd rfl (Or.inl rfl) (pec G hr rfl mG kG bG .nil pass0 (pac (pv 4) (pac (pv 3) pan))))
  (pss_one (prt (pe_tup (pac (pe_op op_gdiv (pv 4) (pv 5)) (pac (pe_op op_gmul (pe_op op_gdiv (pxr ixt (pv 0) pei) (pv 3)) (pe_op op_gdiv (pv 2) (pv 5))) pan))))))), ?_⟩
 have g0 : 0 < Nat.gcd b d := Nat.gcd_pos_of_pos_left d b1;have sg' : Sz (Nat.gcd b d) := sb.mono (Nat.le_of_dvd b1 (Nat.gcd_dvd_left b d));have gi : GDiv ((d : Nat) : Int) ((Nat.gcd b d : Nat) : Int) := ⟨by omega, sg'.log⟩
 have gj : GDiv ((b : Nat) : Int) ((Nat.gcd b d : Nat) : Int) := ⟨by omega, sg'.log⟩
 have e1 : ((d : Int) / ((Nat.gcd b d : Nat) : Int)) = ((d / Nat.gcd b d : Nat) : Int) := by simp
 have e2 : ((b : Int) / ((Nat.gcd b d : Nat) : Int)) = ((b / Nat.gcd b d : Nat) : Int) := by simp
 have sd1 : Sz (d / Nat.gcd b d) := sd.mono (Nat.div_le_self _ _);have sb1 : Sz (b / Nat.gcd b d) := sb.mono (Nat.div_le_self _ _);refine ⟨_, rfl, p, _, _, _, rfl, rfl, hp, rfl, _, rfl, b, d, rfl, ?_⟩;refine ⟨_, rfl, p, _, _, _, rfl, rfl, hp, rfl, _, rfl, _, rfl, _, _, rfl, rfl, gi, _, _, rfl, rfl, by rw [e1]; exact gm sa sd1, ?_⟩
 refine ⟨_, rfl, _, rfl, p, _, _, _, rfl, rfl, hp, rfl, _, rfl, _, _, rfl, rfl, gj, _, _, rfl, rfl, by rw [e2]; exact gmS sg sc sb1, _, _, rfl, rfl, ?_⟩
 show (tSq _ _) _ [some (.ref p), some (.int C), some (.int d), some (.int (Nat.gcd b d : Nat)), some (.int ((a : Int) * ((d : Int) / ((Nat.gcd b d : Nat) : Int)) + C * ((b : Int) / ((Nat.gcd b d : Nat) : Int)))), none] H;rw [e1, e2, hW];have s0 : 0 < Nat.gcd W (Nat.gcd b d) := Nat.gcd_pos_of_pos_right W g0;have ss : Sz (Nat.gcd W (Nat.gcd b d)) := sg'.mono (Nat.le_of_dvd g0 (Nat.gcd_dvd_right W _));have gs : ∀ n : Nat, GDiv ((n : Nat) : Int) ((Nat.gcd W (Nat.gcd b d) : Nat) : Int) := fun n => ⟨by omega, ss.log⟩
 have e3 : ((W : Int) / ((Nat.gcd W (Nat.gcd b d) : Nat) : Int)) = ((W / Nat.gcd W (Nat.gcd b d) : Nat) : Int) := by simp
 have e4 : ((d : Int) / ((Nat.gcd W (Nat.gcd b d) : Nat) : Int)) = ((d / Nat.gcd W (Nat.gcd b d) : Nat) : Int) := by simp
 refine ⟨_, rfl, _, rfl, W, Nat.gcd b d, rfl, ?_⟩;refine ⟨_, rfl, _, rfl, _, _, rfl, rfl, gs W, _, rfl, p, _, _, _, rfl, rfl, hp, rfl, _, rfl, _, _, rfl, rfl, gj, _, rfl, _, rfl, _, _, rfl, rfl, gs d, _, _, rfl, rfl, by rw [e2, e4]; exact gm sb1 (sd.mono (Nat.div_le_self _ _)), by show 2 <= sizeLine; decide, fun r hr => ?_⟩
 have := q r hr;rw [Int.natCast_mul, <- e2, <- e3, <- e4] at this;exact this
abbrev sLes : Stmt := top 17
def spLes (K : Frag) : Sp := fun vs H Q _ => ∃ (p r : Addr) (a b c d : Nat), vs = [.ref p, .ref r] /\ SqT K H p [.int a, .int b] /\ SqT K H r [.int c, .int d] /\ Sz a /\ Sz b /\ Sz c /\ Sz d /\ Q (.bl (decide (a * d < c * b))) H
theorem scLes : FnScope ["one", "other"] ["one", "other"] (defScope sLes) := mkSc
theorem ok_les {f : Addr} {fd : FuncData} (F : Fun K "less_share" "less_share" sLes f fd) : FnOk P w K mg base CX0 1 f fd ["one", "other"] (spLes K) := by
 refine F.ok scLes (fun vs H Q E h => ?_) (fun cdv A outer s H vs Q E hr h => ?_)
 ·obtain ⟨p, r, a, b, c, d, rfl, _⟩ := h;rfl
 obtain ⟨p, r, a, b, c, d, rfl, hp, hr', sa, sb, sc, sd, q⟩ := h;refine ⟨_, pss_one (prt (pe_cmpR op_lt (pe_op op_gmul (pxr ixt (pv 0) pei) (pxr ixt (pv 1) pei)) (pe_op op_gmul (pxr ixt (pv 1) pei) (pxr ixt (pv 0) pei)) (nomark _))), ?_⟩;refine ⟨_, rfl, p, _, _, _, rfl, rfl, hp, rfl, _, rfl, r, _, _, _, rfl, rfl, hr', rfl, _, _, rfl, rfl, gm sa sd, ?_⟩;refine ⟨_, rfl, r, _, _, _, rfl, rfl, hr', rfl, _, rfl, p, _, _, _, rfl, rfl, hp, rfl, _, _, rfl, rfl, gm sc sb, _, _, rfl, rfl, ?_⟩;have e : decide ((a : Int) * (d : Int) < (c : Int) * (b : Int)) = decide (a * d < c * b) := by
  rw [Bool.eq_iff_iff, decide_eq_true_iff, decide_eq_true_iff];rw [<- Int.natCast_mul, <- Int.natCast_mul];omega
 show Q (.bl (decide ((a : Int) * (d : Int) < (c : Int) * (b : Int)))) H;rw [e];exact q
end
theorem sz100 {n : Nat} (h : n <= 100) : Sz n := Nat.lt_of_le_of_lt h (Nat.lt_of_lt_of_le (by decide : 100 < 2 ^ 7) (Nat.pow_le_pow_right (by decide) (by decide)))
def ShV (K : Frag) (H : Hp) (v : V) (t b : Nat) : Prop := ∃ p, v = .ref p /\ SqT K H p [.int (t : Nat), .int (b : Nat)]
theorem ShV.ext {K : Frag} {H H' : Hp} {v : V} {t b : Nat} (h : ShV K H v t b) (x : Ext H H') : ShV K H' v t b := by
 obtain ⟨p, e, q⟩ := h;exact ⟨p, e, My.SqT.ext q x⟩
def StV (K : Frag) (H : Hp) (p : V) (s : Stp) : Prop := ∃ a sv nv, p = .ref a /\ H a = some (.tup [.int s.hand, sv, nv]) /\ ShV K H sv s.t s.b /\ Rds H nv s.next
theorem StV.ext {K : Frag} {H H' : Hp} {p : V} {s : Stp} (h : StV K H p s) (x : Ext H H') : StV K H' p s := by
 obtain ⟨a, sv, nv, e, ha, hs, hn⟩ := h;exact ⟨a, sv, nv, e, x _ _ ha, hs.ext x, hn.mono x⟩
inductive StA (K : Frag) (H : Hp) : List V -> List Stp -> Prop
 | nil : StA K H [] []
 | cons {p : V} {s : Stp} {ps : List V} {ss : List Stp} : StV K H p s -> StA K H ps ss -> StA K H (p :: ps) (s :: ss)
theorem StA.ext {K : Frag} {H H' : Hp} (x : Ext H H') : ∀ {ps : List V} {ss : List Stp}, StA K H ps ss -> StA K H' ps ss
 | _, _, .nil => .nil
 | _, _, .cons a b => .cons (a.ext x) (b.ext x)
theorem StA.app {K : Frag} {H : Hp} : ∀ {ps qs : List V} {ss ts : List Stp}, StA K H ps ss -> StA K H qs ts -> StA K H (ps ++ qs) (ss ++ ts)
 | _, _, _, _, .nil, h => h
 | _, _, _, _, .cons a b, h => .cons a (b.app h)
theorem StA.len {K : Frag} {H : Hp} : ∀ {ps : List V} {ss : List Stp}, StA K H ps ss -> ps.length = ss.length
 | _, _, .nil => rfl
 | _, _, .cons _ b => by rw [List.length_cons, List.length_cons, b.len]
theorem StA.get {K : Frag} {H : Hp} : ∀ {ps : List V} {ss : List Stp}, StA K H ps ss -> ∀ {i : Nat} {p : V}, ps[i]? = some p -> ∃ s, ss[i]? = some s /\ StV K H p s
 | _, _, .nil, i, p, h => by simp at h
 | _, _, .cons a b, 0, p, h => by cases h; exact ⟨_, rfl, a⟩
 | _, _, .cons a b, i + 1, p, h => b.get h
def StL (K : Frag) (H : Hp) (l : Addr) (ss : List Stp) : Prop := ∃ ps, H l = some (.lst ps) /\ StA K H ps ss
def StF (K : Frag) (H H' : Hp) (l : Addr) (ss : List Stp) : Prop := H l = none /\ StL K H' l ss
theorem Ext.back {H H' : Hp} {l : Addr} (x : Ext H H') (h : H' l = none) : H l = none := by
 cases e : H l with
 | none => rfl
 | some o => rw [x _ _ e] at h; cases h
section
variable {P : Program} {w : World} {K : Frag} {mg : Str -> Option Value} {base : Heap} {f a1 a2 a3 n1 : Addr} {fd d1 d2 d3 : FuncData}
abbrev sSo : Stmt := top 13
def spSo : Sp := fun vs H Q _ => ∃ a b : Nat, vs = [.int a, .int b] /\ 1 <= b /\ a <= b /\ b <= 100 /\ ∀ p, H p = none -> Q (.ref p) (upd H p (.tup [.int (lowT a b : Nat), .int (lowBt a b : Nat)]))
theorem scSo : FnScope ["top", "bottom", "common"] ["top", "bottom"] (defScope sSo) := mkSc
theorem ok_so (F : Fun K "share_of" "share_of" sSo f fd) (A1 : Df P w K mg base CX0 3 "is_part" ["top", "bottom"] (spPart K) a1 d1) (A2 : Df P w K mg base CX0 1 "greatest_common" ["one", "other"] spGcd a2 d2) : FnOk P w K mg base CX0 4 f fd ["top", "bottom"] spSo := by
 refine F.ok scSo (fun vs H Q E h => ?_) (fun cdv A outer s H vs Q E hr h => ?_)
 ·obtain ⟨a, b, rfl, _⟩ := h;rfl
 obtain ⟨a, b, rfl, b1, ab, b100, q⟩ := h;have nd := scSo.nd;have hr1 : Room 1 _ := hr.mono (by decide)
 refine ⟨_, psc (ps_if (pt_not (pt_val (pec A1.G hr rfl A1.m A1.kp A1.b .nil pass0 (pac (pv 0) (pac (pv 1) pan))))) (pss_one ps_never) psn)
  (psc (pst (i := 2) nd rfl (Or.inl rfl) (pec A2.G hr1 rfl A2.m A2.kp A2.b .nil pass0 (pac (pv 0) (pac (pv 1) pan))))
  (pss_one (prt (pe_tup (pac (pe_op op_gdiv (pv 0) (pv 2)) (pac (pe_op op_gdiv (pv 1) (pv 2)) pan)))))), ?_⟩
 have pv1 : partV (.int (a : Nat)) (.int (b : Nat)) = true := by
  show (decide ((1 : Int) <= (b : Nat)) && (decide ((0 : Int) <= (a : Nat)) && decide (((a : Nat) : Int) <= (b : Nat)))) = true;rw [decide_eq_true (by omega), decide_eq_true (by omega), decide_eq_true (by omega)]
  rfl
 have g0 : 0 < Nat.gcd a b := Nat.gcd_pos_of_pos_right a b1;have gl : Sz (Nat.gcd a b) := sz100 (Nat.le_trans (Nat.le_of_dvd b1 (Nat.gcd_dvd_right a b)) b100);have gd : ∀ n : Nat, GDiv ((n : Nat) : Int) ((Nat.gcd a b : Nat) : Int) := fun n => ⟨by omega, gl.log⟩
 refine ⟨_, rfl, _, rfl, _, _, rfl, .inl ⟨_, rfl⟩, .inl ⟨_, rfl⟩, ?_⟩;rw [pv1];refine ⟨_, rfl, itF ⟨_, rfl, _, rfl, a, b, rfl, ?_⟩⟩;refine ⟨_, rfl, _, rfl, _, _, rfl, rfl, gd a, _, rfl, _, rfl, _, _, rfl, rfl, gd b, by show 2 <= sizeLine; decide, fun p hp => ?_⟩
 have e1 : ((a : Int) / ((Nat.gcd a b : Nat) : Int)) = ((lowT a b : Nat) : Int) := by simp [lowT]
 have e2 : ((b : Int) / ((Nat.gcd a b : Nat) : Int)) = ((lowBt a b : Nat) : Int) := by simp [lowBt]
 show Q (.ref p) (upd H p (.tup [.int ((a : Int) / ((Nat.gcd a b : Nat) : Int)), .int ((b : Int) / ((Nat.gcd a b : Nat) : Int))]));rw [e1, e2];exact q p hp
abbrev sMi : Stmt := top 16
def spMi (K : Frag) : Sp := fun vs H Q _ => ∃ (p r : Addr) (x y : Nat), vs = [.ref p, .ref r] /\ SqT K H p [.int (1 : Nat), .int (1 : Nat)] /\ SqT K H r [.int (x : Nat), .int (y : Nat)] /\ x < y /\ y <= 100 /\ ∀ l, H l = none -> Q (.ref l) (upd H l (.tup [.int (y - x : Nat), .int (y : Nat)]))
theorem scMi : FnScope ["one", "other"] ["one", "other"] (defScope sMi) := mkSc
theorem ok_mi (F : Fun K "minus_share" "minus_share" sMi f fd) (A1 : Df P w K mg base CX0 1 "less_share" ["one", "other"] (spLes K) a1 d1) (A2 : Df P w K mg base CX0 2 "added" ["one", "top", "bottom"] (spAdd K) a2 d2) : FnOk P w K mg base CX0 3 f fd ["one", "other"] (spMi K) := by
 refine F.ok scMi (fun vs H Q E h => ?_) (fun cdv A outer s H vs Q E hr h => ?_)
 ·obtain ⟨p, r, x, y, rfl, _⟩ := h;rfl
 obtain ⟨p, r, x, y, rfl, hp, hr', xy, y100, q⟩ := h;have hr1 : Room 1 _ := hr.mono (by decide)
 refine ⟨_, psc (ps_if (pt_val (pec A1.G hr1 rfl A1.m A1.kp A1.b .nil pass0 (pac (pv 0) (pac (pv 1) pan)))) (pss_one ps_never) psn)
  (pss_one (prt (pec A2.G hr rfl A2.m A2.kp A2.b .nil pass0 (pac (pv 0) (pac (pe_un un_neg (pxr ixt (pv 1) pei)) (pac (pxr ixt (pv 1) pei) pan)))))), ?_⟩
 have s1 : Sz 1 := sz100 (by decide)
 have sx : Sz x := sz100 (by omega)
 have sy : Sz y := sz100 y100;refine ⟨_, rfl, _, rfl, p, r, 1, 1, x, y, rfl, hp, hr', s1, s1, sx, sy, ?_⟩;rw [show decide (1 * y < x * 1) = false from decide_eq_false (by omega)]
 refine ⟨_, rfl, itF ⟨_, rfl, _, rfl, r, _, 0, _, rfl, rfl, hr', atN (j := 0) rfl, _, rfl, _, rfl, r, _, 1, _, rfl, rfl, hr', atN (j := 1) rfl, ?_⟩⟩;refine ⟨p, 1, 1, x, y, y - x, _, rfl, hp, .inr rfl, s1, s1, sx, sy, Nat.le_refl _, by omega, ?_, fun l hl => ?_⟩
 ·rw [Nat.gcd_one_left, Nat.div_one, Nat.div_one];omega
 ·have := q l hl;rw [Nat.gcd_one_left, Nat.gcd_one_right, Nat.div_one, Nat.div_one, Nat.div_one, Nat.one_mul];exact this
abbrev sCs : Stmt := top 29
def spCs (K : Frag) : Sp := fun vs H Q _ => ∃ (r : Addr) (z o : V) (x y : Nat) (dz dO : PyData), vs = [.ref r, z, o] /\ SqT K H r [.int (x : Nat), .int (y : Nat)] /\ x < y /\ y <= 100 /\ Rds H z dz /\ Rds H o dO /\ ∀ l H', Ext H H' -> StL K H' l [⟨0, y - x, y, dz⟩, ⟨1, x, y, dO⟩] -> Q (.ref l) H'
def spCsF (K : Frag) : Sp := fun vs H Q _ => ∃ (r : Addr) (z o : V) (x y : Nat) (dz dO : PyData), vs = [.ref r, z, o] /\ SqT K H r [.int (x : Nat), .int (y : Nat)] /\ x < y /\ y <= 100 /\ Rds H z dz /\ Rds H o dO /\ ∀ l H', Ext H H' -> StF K H H' l [⟨0, y - x, y, dz⟩, ⟨1, x, y, dO⟩] -> Q (.ref l) H'
theorem scCs : FnScope ["coin", "zero", "one"] ["coin", "zero", "one"] (defScope sCs) := mkSc
theorem ok_cs (F : Fun K "coin_steps" "coin_steps" sCs f fd) (A1 : Df P w K mg base CX0 3 "minus_share" ["one", "other"] (spMi K) a1 d1) (mA : mg "ALL" = some (.ref n1)) (tA : TupK K n1 [.int (1 : Nat), .int (1 : Nat)]) : FnOk P w K mg base CX0 4 f fd ["coin", "zero", "one"] (spCsF K) := by
 refine F.ok scCs (fun vs H Q E h => ?_) (fun cdv A outer s H vs Q E hr h => ?_)
 ·obtain ⟨r, z, o, x, y, dz, dO, rfl, _⟩ := h;rfl
 obtain ⟨r, z, o, x, y, dz, dO, rfl, hr', xy, y100, rz, ro, q⟩ := h;refine ⟨_, pss_one (prt (pe_lst (pac (pe_tup (pac pei (pac (pec A1.G hr rfl A1.m A1.kp A1.b .nil pass0 (pac (pe_glob (v := .ref n1) rfl mA rfl) (pac (pv 0) pan))) (pac (pv 1) pan)))) (pac (pe_tup (pac pei (pac (pv 0) (pac (pv 2) pan)))) pan)))), ?_⟩;refine ⟨_, rfl, n1, r, x, y, rfl, .inr tA, hr', xy, y100, fun m hm => ?_⟩;have x1 := Ext.new (o := .tup [.int (y - x : Nat), .int (y : Nat)]) hm;have g1 : upd H m (.tup [.int (y - x : Nat), .int (y : Nat)]) m = some (.tup [.int (y - x : Nat), .int (y : Nat)]) := uds;generalize upd H m (.tup [.int (y - x : Nat), .int (y : Nat)]) = H1 at x1 g1 ⊢;refine ⟨_, rfl, by show 3 <= sizeLine; decide, fun a ha => ?_⟩
 have x2 := Ext.new (o := .tup [.int 0, .ref m, z]) ha;have g2 : upd H1 a (.tup [.int 0, .ref m, z]) a = some (.tup [.int 0, .ref m, z]) := uds;generalize upd H1 a (.tup [.int 0, .ref m, z]) = H2 at x2 g2 ⊢;refine ⟨_, rfl, _, rfl, by show 3 <= sizeLine; decide, fun b hb => ⟨by show 2 <= sizeLine; decide, fun l hl => ?_⟩⟩
 have x3 := Ext.new (o := .tup [.int 1, .ref r, o]) hb;have g3 : upd H2 b (.tup [.int 1, .ref r, o]) b = some (.tup [.int 1, .ref r, o]) := uds;have x4 := Ext.new (o := .lst [.ref a, .ref b]) hl;have x24 := x3.trans x4;have x04 := (x1.trans x2).trans x24;exact q l _ x04 ⟨((x1.trans x2).trans x3).back hl, _, uds, .cons ⟨a, .ref m, z, rfl, x24 _ _ g2, ⟨m, rfl, SqT.of ((x2.trans x24) _ _ g1)⟩, rz.mono x04⟩ (.cons ⟨b, .ref r, o, rfl, x4 _ _ g3, ⟨r, rfl, My.SqT.ext hr' x04⟩, ro.mono x04⟩ .nil)⟩
variable {prog : Program} {A : Around} {E : Value -> Shared -> Prop} {s : Shared} {it d : Addr} {i ep : Nat} {es : Array DictEntry} {od : Obj} {ok ov : Value} {e : DictEntry}
theorem nb_none (d : Addr) : ¬ ((Value.ref d == Value.none) = true) := Bool.false_ne_true
theorem own_it : Builtin.Dict_items.ownsTuple "dict_itemiterator" = true := by decide
theorem own_vl : Builtin.Dict_items.ownsTuple "dict_valueiterator" = false := by decide
theorem nxi_item {Q : Option Value -> Shared -> Prop} (hi : IsItemIter s.heap it d i es.size ep ok ov) (ho : s.heap.get? d = some od) (hdt : od.data = .dict es ep) (he : es[i]? = some e)
  (k : ∀ h', IsItemIterOut h' it d (i + 1) es.size ep e.key e.val s.heap.objs.size -> h'.get? s.heap.objs.size = some { cls := .type "tuple", data := .seq #[e.key, e.val] } -> (∀ b o, b ≠ it -> s.heap.get? b = some o -> h'.get? b = some o) -> Q (some (.ref s.heap.objs.size)) { s with heap := h' }) : wpAny (model prog w) A (pyNext (.ref it)) Q E s := by
 obtain ⟨hp, gn, dr, tk, os⟩ := s;have T0 : Shared.TypeIs ⟨hp, gn, dr, tk, os⟩ (.ref it) "dict_itemiterator" := ⟨_, hi, rfl⟩;have lt : i < es.size := (Array.getElem?_eq_some_iff.mp he).1;have ltI : it < hp.objs.size := Heap.lt_size hi;unfold pyNext;refine wpAny_bind (wpAny_attempt (wpAny_callSpecial?_slot (name := Str.ofString "__next__") T0 PySem.F.slot_dict_itemiterator_next (wpAny_call_entry PySem.F.slot_dict_itemiterator_next T0 PySem.F.entry_dict_itemiterator_next (wpAny_bind (wpAny_pure (wpAny_bind (wpAny_bind (wpAny_bind (wpAny_typeNameOfWhole_itemiter T0 (wpAny_pure (wpAny_bind (wpAny_fieldsOf hi rfl ?_)))))))))  (PySem.F.args_dict_itemiterator_next_1 _))));simp only [own_it, if_true];show wpAny _ _ (if (Value.ref d == Value.none) = true then _ else _) _ _ _
 rw [if_neg (nb_none d)];refine wpAny_bind (wpAny_pure (wpAny_bind (wpAny_dictEntries ho hdt ?_)));rw [if_neg (by simp)]
 refine wpAny_bind (wpAny_pure (wpAny_bind (wpAny_dictEpoch ho hdt ?_)));rw [if_neg (by simp)]
 refine wpAny_pure ?_;simp only [show ¬ ((i : Int) < 0) from by omega, if_false, Int.toNat_natCast, he]
 refine wpAny_bind (wpAny_bind (wpAny_typeNameOfWhole_itemiter T0 (wpAny_pure (wpAny_bind (wpAny_isOneOf_itemiter T0 ?_)))));show wpAny _ _ (setField (.ref it) 3 (rawInt ((i : Int) + 1)) >>= _) _ _ ⟨hp, gn, dr, tk, os⟩;refine wpAny_bind (wpAny_setField_rec hi (by simp) fun h1 e1 sb1 => ?_)
 replace sb1 : Heap.SameBut it hp h1 := sb1;replace e1 : IsItemIter h1 it d (i + 1) es.size ep ok ov := by
  have q : ((i + 1 : Nat) : Int) = (i : Int) + 1 := by omega
  unfold IsItemIter; rw [q]; simpa [rawInt] using e1
 have T1 : Shared.TypeIs ⟨h1, gn, dr, tk, os⟩ (.ref it) "dict_itemiterator" := ⟨_, e1, rfl⟩;refine wpAny_bind (wpAny_holding (wpAny_bind (wpAny_isOneOf_itemiter T1 (wpAny_bind (wpAny_isOneOf_itemiter T1 ?_)))));show wpAny _ _ (Builtin.Dict_items.pairFromOwner (.ref it) 6 e.key e.val) _ _ ⟨h1, gn, dr, tk, os⟩;unfold Builtin.Dict_items.pairFromOwner;refine wpAny_bind (wpAny_newTuple ?_);have z1 : h1.objs.size = hp.objs.size := sb1.1;have e2 : IsItemIter (h1.push { cls := .type "tuple", data := .seq #[e.key, e.val] }) it d (i + 1) es.size ep ok ov := Heap.get?_push_of_some _ e1;have t2 : (h1.push { cls := .type "tuple", data := .seq #[e.key, e.val] }).get? hp.objs.size = some { cls := .type "tuple", data := .seq #[e.key, e.val] } := by rw [<- z1]; exact Heap.get?_push_size _ rfl
 have k2 : ∀ b o, b ≠ it -> hp.get? b = some o -> (h1.push { cls := .type "tuple", data := .seq #[e.key, e.val] }).get? b = some o := fun b o hb q => Heap.get?_push_of_some _ (sb1.extBut b o hb q);show wpAny _ _ (Builtin.Dict_items.ownedTupleIsFree (.ref it) >>= _) _ _ ⟨h1.push { cls := .type "tuple", data := .seq #[e.key, e.val] }, gn, dr, tk, os⟩;rw [z1];generalize h1.push { cls := .type "tuple", data := .seq #[e.key, e.val] } = h2 at e2 t2 k2 ⊢;unfold Builtin.Dict_items.ownedTupleIsFree;refine wpAny_bind (wpAny_bind (wpAny_field e2 rfl (x := .none) rfl (wpAny_pure ?_)));simp only [if_true];refine wpAny_bind (wpAny_field e2 rfl (x := ok) rfl (wpAny_bind (wpAny_field e2 rfl (x := ov) rfl (wpAny_bind (wpAny_setField_rec e2 (by simp) fun h3 e3 s3 => ?_)))))
 replace s3 : Heap.SameBut it h2 h3 := s3;replace e3 : IsItemIter h3 it d (i + 1) es.size ep e.key ov := e3;refine wpAny_bind (wpAny_setField_rec e3 (by simp) fun h4 e4 s4 => ?_)
 replace s4 : Heap.SameBut it h3 h4 := s4;replace e4 : IsItemIter h4 it d (i + 1) es.size ep e.key e.val := e4;refine wpAny_bind (wpAny_setField_rec e4 (by simp) fun h5 e5 s5 => ?_)
 replace s5 : Heap.SameBut it h4 h5 := s5;replace e5 : IsItemIterOut h5 it d (i + 1) es.size ep e.key e.val hp.objs.size := e5;refine wpAny_bind (wpAny_setField_rec e5 (by simp) fun h6 e6 s6 => ?_)
 replace s6 : Heap.SameBut it h5 h6 := s6;replace e6 : IsItemIterOut h6 it d (i + 1) es.size ep e.key e.val hp.objs.size := e6;have up : ∀ b o, b ≠ it -> h2.get? b = some o -> h6.get? b = some o := fun b o hb q => s6.extBut b o hb (s5.extBut b o hb (s4.extBut b o hb (s3.extBut b o hb q)));exact wpAny_bind (wpAny_letGo (wpAny_pure (wpAny_pure ⟨_, rfl, wpAny_pure (k h6 e6 (up _ _ (Nat.ne_of_gt ltI) t2) fun b o hb q => up b o hb (k2 b o hb q))⟩)))
theorem nxi_end {Q : Option Value -> Shared -> Prop} (hh : A.handled = none) (hi : IsItemIter s.heap it d i es.size ep ok ov) (ho : s.heap.get? d = some od) (hdt : od.data = .dict es ep) (he : es.size <= i)
  (k : ∀ h', Heap.ExtBut it s.heap h' -> Q none { s with heap := h' }) : wpAny (model prog w) A (pyNext (.ref it)) Q E s := by
 have T0 : s.TypeIs (.ref it) "dict_itemiterator" := ⟨_, hi, rfl⟩;unfold pyNext;refine wpAny_bind (wpAny_attempt (wpAny_callSpecial?_slot (name := Str.ofString "__next__") T0 PySem.F.slot_dict_itemiterator_next (wpAny_call_entry PySem.F.slot_dict_itemiterator_next T0 PySem.F.entry_dict_itemiterator_next (wpAny_bind (wpAny_pure (wpAny_bind (wpAny_bind (wpAny_bind (wpAny_typeNameOfWhole_itemiter T0 (wpAny_pure (wpAny_bind (wpAny_fieldsOf hi rfl ?_)))))))))  (PySem.F.args_dict_itemiterator_next_1 _))));simp only [own_it, if_true];show wpAny _ _ (if (Value.ref d == Value.none) = true then _ else _) _ _ _
 rw [if_neg (nb_none d)];refine wpAny_bind (wpAny_pure (wpAny_bind (wpAny_dictEntries ho hdt ?_)));rw [if_neg (by simp)]
 refine wpAny_bind (wpAny_pure (wpAny_bind (wpAny_dictEpoch ho hdt ?_)));rw [if_neg (by simp)]
 refine wpAny_pure ?_;simp only [show ¬ ((i : Int) < 0) from by omega, if_false, Int.toNat_natCast, Array.getElem?_eq_none he]
 refine wpAny_bind (wpAny_bind (wpAny_typeNameOfWhole_itemiter T0 (wpAny_pure ?_)));show wpAny _ _ (setField (.ref it) 2 .none >>= _) _ _ s;refine wpAny_bind (wpAny_setField hi rfl (by simp) (wpAny_bind ?_))
 simp only [newExc, newTuple];refine wpAny_bind (wpAny_newObj_type (wpAny_bind (m := firstArgMember _ _) (wpAny_of_eq (a := Value.none) (by first | rfl | (simp only [firstArgMember]; rfl)) (wpAny_newObj_type ?_ (by size_fits)))) (by size_fits))
 simp only [raiseNew];refine wpAny_bind (wpAny_handled ?_);rw [show A.in1.handled = none from hh];refine wpAny_bind (wpAny_pure (wpAny_throw (wpAny_bind ?_)));exact wpAny_isInstance (T := "StopIteration") (b := true) ⟨_, Heap.get?_push_size _ rfl, rfl⟩ isSubtype_stop (wpAny_pure (k _ (((Heap.SameBut.update ..).extBut.push _).push _)))
theorem nxv_item {Q : Option Value -> Shared -> Prop} (hi : s.heap.IsValIter it d i es.size ep) (ho : s.heap.get? d = some od) (hdt : od.data = .dict es ep) (he : es[i]? = some e)
  (k : ∀ h', h'.IsValIter it d (i + 1) es.size ep -> Heap.SameBut it s.heap h' -> Q (some e.val) { s with heap := h' }) : wpAny (model prog w) A (pyNext (.ref it)) Q E s := by
 obtain ⟨oi, hoi, hci, hdi⟩ := id hi;have T0 := hi.typeIs;unfold pyNext;refine wpAny_bind (wpAny_attempt (wpAny_callSpecial?_slot (name := Str.ofString "__next__") T0 PySem.F.slot_dict_valueiterator_next (wpAny_call_entry PySem.F.slot_dict_valueiterator_next T0 PySem.F.entry_dict_valueiterator_next (wpAny_bind (wpAny_pure (wpAny_bind (wpAny_bind (wpAny_bind (wpAny_typeNameOfWhole_valiter T0 (wpAny_pure (wpAny_bind (wpAny_fieldsOf hoi hdi ?_)))))))))  (PySem.F.args_dict_valueiterator_next_1 _))));simp only [own_vl, Bool.false_eq_true, if_false];show wpAny _ _ (if (Value.ref d == Value.none) = true then _ else _) _ _ _
 rw [if_neg (nb_none d)];refine wpAny_bind (wpAny_pure (wpAny_bind (wpAny_dictEntries ho hdt ?_)));rw [if_neg (by simp)]
 refine wpAny_bind (wpAny_pure (wpAny_bind (wpAny_dictEpoch ho hdt ?_)));rw [if_neg (by simp)]
 refine wpAny_pure ?_;simp only [show ¬ ((i : Int) < 0) from by omega, if_false, Int.toNat_natCast, he]
 refine wpAny_bind (wpAny_bind (wpAny_typeNameOfWhole_valiter T0 (wpAny_pure (wpAny_bind (wpAny_isOneOf_valiter T0 ?_)))));show wpAny _ _ (setField (.ref it) 1 (rawInt ((i : Int) + 1)) >>= _) _ _ s;have hi' : (s.heap.update it (Obj.mapFields (·.setIfInBounds 1 (rawInt ((i : Int) + 1))))).IsValIter it d (i + 1) es.size ep :=
  ⟨_, Heap.get?_update_self _ hoi (Obj.isFreed_of_fields (Obj.data_mapFields hdi _)), (Obj.cls_mapFields ..).trans hci, by rw [Obj.data_mapFields hdi]; simp [rawInt]⟩
 have T1 : Shared.TypeIs { s with heap := s.heap.update it (Obj.mapFields (·.setIfInBounds 1 (rawInt ((i : Int) + 1)))) } (.ref it) "dict_valueiterator" := Heap.IsValIter.typeIs (s := { s with heap := s.heap.update it (Obj.mapFields (·.setIfInBounds 1 (rawInt ((i : Int) + 1)))) }) hi'
 refine wpAny_bind (wpAny_setField hoi hdi (by simp) (wpAny_bind (wpAny_holding (wpAny_bind (wpAny_isOneOf_valiter T1 (wpAny_bind (wpAny_isOneOf_valiter T1 ?_)))))))
 show wpAny _ _ (pure e.val) _ _ _;exact wpAny_pure (wpAny_pure ⟨_, rfl, wpAny_pure (k _ hi' (Heap.SameBut.update ..))⟩)
theorem nxv_end {Q : Option Value -> Shared -> Prop} (hh : A.handled = none) (hi : s.heap.IsValIter it d i es.size ep) (ho : s.heap.get? d = some od) (hdt : od.data = .dict es ep) (he : es.size <= i)
  (k : ∀ h', Heap.ExtBut it s.heap h' -> Q none { s with heap := h' }) : wpAny (model prog w) A (pyNext (.ref it)) Q E s := by
 obtain ⟨oi, hoi, hci, hdi⟩ := id hi;have T0 := hi.typeIs;unfold pyNext;refine wpAny_bind (wpAny_attempt (wpAny_callSpecial?_slot (name := Str.ofString "__next__") T0 PySem.F.slot_dict_valueiterator_next (wpAny_call_entry PySem.F.slot_dict_valueiterator_next T0 PySem.F.entry_dict_valueiterator_next (wpAny_bind (wpAny_pure (wpAny_bind (wpAny_bind (wpAny_bind (wpAny_typeNameOfWhole_valiter T0 (wpAny_pure (wpAny_bind (wpAny_fieldsOf hoi hdi ?_)))))))))  (PySem.F.args_dict_valueiterator_next_1 _))));simp only [own_vl, Bool.false_eq_true, if_false];show wpAny _ _ (if (Value.ref d == Value.none) = true then _ else _) _ _ _
 rw [if_neg (nb_none d)];refine wpAny_bind (wpAny_pure (wpAny_bind (wpAny_dictEntries ho hdt ?_)));rw [if_neg (by simp)]
 refine wpAny_bind (wpAny_pure (wpAny_bind (wpAny_dictEpoch ho hdt ?_)));rw [if_neg (by simp)]
 refine wpAny_pure ?_;simp only [show ¬ ((i : Int) < 0) from by omega, if_false, Int.toNat_natCast, Array.getElem?_eq_none he]
 refine wpAny_bind (wpAny_bind (wpAny_typeNameOfWhole_valiter T0 (wpAny_pure ?_)));show wpAny _ _ (setField (.ref it) 0 .none >>= _) _ _ s;refine wpAny_bind (wpAny_setField hoi hdi (by simp) (wpAny_bind ?_))
 simp only [newExc, newTuple];refine wpAny_bind (wpAny_newObj_type (wpAny_bind (m := firstArgMember _ _) (wpAny_of_eq (a := Value.none) (by first | rfl | (simp only [firstArgMember]; rfl)) (wpAny_newObj_type ?_ (by size_fits)))) (by size_fits))
 simp only [raiseNew];refine wpAny_bind (wpAny_handled ?_);rw [show A.in1.handled = none from hh];refine wpAny_bind (wpAny_pure (wpAny_throw (wpAny_bind ?_)));exact wpAny_isInstance (T := "StopIteration") (b := true) ⟨_, Heap.get?_push_size _ rfl, rfl⟩ isSubtype_stop (wpAny_pure (k _ (((Heap.SameBut.update ..).extBut.push _).push _)))
theorem call_itm {Q : Value -> Shared -> Prop} (hT : s.TypeIs (.ref d) "dict") (hd : (d == sysModules) = false) (k : Q (.ref s.heap.objs.size) { s with heap := s.heap.push { cls := .type "dict_items", data := .fields #[.ref d] } }) : wpAny (model prog w) A (call (.builtin "dict.items") [.ref d]) Q E s := by
 have m : MeetsIn prog w (Builtin.«dict.items» ⟨[.ref d], []⟩) (fun _ R s => s.TypeIs (.ref d) "dict" /\ R (.ok (.ret (.ref s.heap.objs.size))) { s with heap := s.heap.push { cls := .type "dict_items", data := .fields #[.ref d] } }) := .of_wp fun A R s ⟨hT, h⟩ => by
  unfold Builtin.«dict.items» Builtin.Dict.noArgs Builtin.Dict.showsAll;refine wpAny_bind (wpAny_bind (wpAny_notOrdered_dict hT (wpAny_pure ?_)));show wpAny _ _ ((if (d == sysModules) = true then _ else _) >>= _) _ _ s
  rw [if_neg (by rw [hd]; exact Bool.false_ne_true)]
  exact wpAny_bind (wpAny_pure (wpAny_bind (wpAny_newObj_type (wpAny_pure ⟨_, rfl, h⟩))))
 exact call_meetsIn PySem.F.slot_dict_items hT PySem.F.entry_dict_items (PySem.F.args_dict_items_1 _) m ⟨hT, k⟩
theorem call_vls {Q : Value -> Shared -> Prop} (hT : s.TypeIs (.ref d) "dict") (hd : (d == sysModules) = false) (k : Q (.ref s.heap.objs.size) { s with heap := s.heap.push { cls := .type "dict_values", data := .fields #[.ref d] } }) : wpAny (model prog w) A (call (.builtin "dict.values") [.ref d]) Q E s := by
 have m : MeetsIn prog w (Builtin.«dict.values» ⟨[.ref d], []⟩) (fun _ R s => s.TypeIs (.ref d) "dict" /\ R (.ok (.ret (.ref s.heap.objs.size))) { s with heap := s.heap.push { cls := .type "dict_values", data := .fields #[.ref d] } }) := .of_wp fun A R s ⟨hT, h⟩ => by
  refine wpAny_bind ?_;unfold Builtin.Dict.noArgs;refine wpAny_bind (wpAny_notOrdered_dict hT (wpAny_pure ?_));show wpAny _ _ (Builtin.Dict.showsAll d >>= _) _ _ s;unfold Builtin.Dict.showsAll;show wpAny _ _ ((if (d == sysModules) = true then _ else _) >>= _) _ _ s
  rw [if_neg (by rw [hd]; exact Bool.false_ne_true)]
  exact wpAny_bind (wpAny_pure (wpAny_bind (wpAny_newObj_type (wpAny_pure ⟨_, rfl, h⟩))))
 exact call_meetsIn PySem.F.slot_dict_values hT PySem.F.entry_dict_values (PySem.F.args_dict_values_1 _) m ⟨hT, k⟩
theorem iter_itm {v : Addr} {Q : Value -> Shared -> Prop} (hv : s.heap.IsItemsView v d) (ho : s.heap.get? d = some od) (hdt : od.data = .dict es ep)
  (k : Q (.ref s.heap.objs.size) { s with heap := s.heap.push { cls := .type "dict_itemiterator", data := .fields #[.none, .bool false, .ref d, .int 0 0, .int es.size 0, .int ep 0, .none, .none] } }) : wpAny (model prog w) A (pyIter (.ref v)) Q E s := by
 obtain ⟨oi, hoi, hci, hdi⟩ := id hv;refine wpAny_pyIter_slot hv.typeIs PySem.F.slot_dict_items_iter (wpAny_call_entry PySem.F.slot_dict_items_iter hv.typeIs PySem.F.entry_dict_items_iter ?_ (PySem.F.args_dict_items_iter_1 _));unfold Builtin.«dict_items.__iter__» Builtin.Dict_items.dictOf Builtin.Dict_items.newIterator;refine wpAny_bind (wpAny_pure (wpAny_bind (wpAny_bind (wpAny_field hoi hdi (x := .ref d) rfl (wpAny_pure (wpAny_bind (wpAny_bind (wpAny_dictEntries ho hdt (wpAny_bind (wpAny_dictEpoch ho hdt ?_))))))))));simp only [own_it, if_true];refine wpAny_newObj_type (wpAny_pure ⟨_, rfl, "dict_itemiterator", _, ⟨_, Heap.get?_push_size _ rfl, rfl⟩, PySem.F.slot_dict_itemiterator_next.lookup, ?_⟩) (by simp only [sizeOk, Builtin.Dict_items.ownedTupleFields, List.size_toArray, List.length_append, List.length_cons, List.length_nil, sizeLine_eq]; omega)
 simpa [rawInt, Builtin.Dict_items.ownedTupleFields] using k
theorem iter_vls {v : Addr} {Q : Value -> Shared -> Prop} (hv : s.heap.IsValuesView v d) (ho : s.heap.get? d = some od) (hdt : od.data = .dict es ep)
  (k : Q (.ref s.heap.objs.size) { s with heap := s.heap.push { cls := .type "dict_valueiterator", data := .fields #[.ref d, .int 0 0, .int es.size 0, .int ep 0] } }) : wpAny (model prog w) A (pyIter (.ref v)) Q E s := by
 obtain ⟨oi, hoi, hci, hdi⟩ := id hv;refine wpAny_pyIter_slot hv.typeIs PySem.F.slot_dict_values_iter (wpAny_call_entry PySem.F.slot_dict_values_iter hv.typeIs PySem.F.entry_dict_values_iter ?_ (PySem.F.args_dict_values_iter_1 _));unfold Builtin.«dict_values.__iter__» Builtin.Dict_items.dictOf Builtin.Dict_items.newIterator;refine wpAny_bind (wpAny_pure (wpAny_bind (wpAny_bind (wpAny_field hoi hdi (x := .ref d) rfl (wpAny_pure (wpAny_bind (wpAny_bind (wpAny_dictEntries ho hdt (wpAny_bind (wpAny_dictEpoch ho hdt ?_))))))))));simp only [own_vl, Bool.false_eq_true, if_false];refine wpAny_newObj_type (wpAny_pure ⟨_, rfl, "dict_valueiterator", _, ⟨_, Heap.get?_push_size _ rfl, rfl⟩, PySem.F.slot_dict_valueiterator_next.lookup, ?_⟩)
 simpa [rawInt] using k
end
def Dct : HO -> Prop
 | .dK _ => True
 | .dT _ => True
 | _ => False
def lenD : HO -> Nat
 | .dK kvs => kvs.length
 | .dT kvs => kvs.length
 | _ => 0
def PrAt (H : Hp) (u : HO) (i : Nat) (kx v : V) : Prop :=
 (∃ kvs k, u = .dK kvs /\ kvs[i]? = some (k, v) /\ kx = kV k) \/ ∃ kvs k b, u = .dT kvs /\ kvs[i]? = some (k, v) /\ kx = .ref b /\ H b = some (.tup (k.map kV))
theorem rel_kV {P : Program} {w : World} {k : Key} {u : Value} (h : (mixKind P w).is k u = true) : RelV (kV k) u := by
 rw [mixKind_is] at h;rcases keyIs_shape h with ⟨i, t, rfl, rfl⟩ | ⟨x, t, rfl, rfl⟩ | ⟨rfl, rfl⟩
 ·exact ⟨t, rfl⟩
 ·exact ⟨t, rfl⟩
 ·rfl
theorem paired_get {α β : Type} {R : α -> β -> Prop} : ∀ {xs : List α} {ys : List β}, Paired R xs ys -> ∀ {i : Nat} {y : β}, ys[i]? = some y -> ∃ x, xs[i]? = some x /\ R x y
 | _, _, .nil, i, y, h => by simp at h
 | _, _, .cons r _, 0, y, h => by cases h; exact ⟨_, rfl, r⟩
 | _, _, .cons _ t, i + 1, y, h => paired_get t h
theorem raw_of {P : Program} {w : World} {H : Hp} {h : Heap} {d : Addr} {u : HO} (D : Dct u) (o : ObjOk P w H h d u) : ∃ ob es ep, h.get? d = some ob /\ ob.ExactDict /\ ob.data = .dict es ep /\ (d == sysModules) = false /\ es.size = lenD u /\ ∀ (i : Nat) e, es[i]? = some e -> ∃ kx v, PrAt H u i kx v /\ RelV kx e.key /\ RelV v e.val := by
 cases u with
 | dK kvs =>
  obtain ⟨z, hd, vs, rel, ob, es, ep, h1, h2, h3, h4, h5, h6⟩ := o;refine ⟨ob, es, ep, h1, h2, h3, hd, ?_, fun i e he => ?_⟩
  ·have l1 := h5.length;have l2 : kvs.length = vs.length := Paired.length rel;show es.size = kvs.length;rw [l2, <- l1];simp
  ·have l1 := h5.length;have lt : i < es.size := (Array.getElem?_eq_some_iff.mp he).1;have lt' : i < vs.length := by rw [<- l1]; simpa using lt
   have hv := List.getElem?_eq_getElem lt';obtain ⟨a1, a2⟩ := h5.get? (e := e) (by simpa using he) (show vs[i]? = some (vs[i].1, vs[i].2) from hv)
   obtain ⟨p, hp, r1, r2⟩ := paired_get rel hv;refine ⟨kV p.1, p.2, .inl ⟨kvs, p.1, rfl, hp, rfl⟩, ?_, ?_⟩
   ·rw [r1]; exact rel_kV a1
   ·rw [a2]; exact r2
 | dT kvs =>
  obtain ⟨z, hd, xs, rel, ob, es, ep, h1, h2, h3, h4, h5⟩ := o;refine ⟨ob, es, ep, h1, h2, h3, hd, ?_, fun i e he => ?_⟩
  ·have l2 : kvs.length = xs.length := Paired.length rel;show es.size = kvs.length;rw [l2, <- Array.length_toList, h4, List.length_map]
  ·have he' : es.toList[i]? = some e := by simpa using he
   rw [h4, List.getElem?_map] at he';obtain ⟨x, hx, rfl⟩ := Option.map_eq_some_iff.mp he';obtain ⟨p, hp, r1, r2, r3⟩ := paired_get rel hx;exact ⟨.ref x.2.1, p.2, .inr ⟨kvs, p.1, x.2.1, rfl, hp, rfl, r2⟩, rfl, r3⟩
 | _ => exact D.elim
def Fz (H : Hp) (d : Addr) (o : Obj) (u : HO) (H' : Hp) : Prop := H' d = some (.frz o u) /\ ∀ b, b ≠ d -> H' b = H b
theorem freeze {X : Cx} {pins : List (Addr × Obj)} {σ : St} {H : Hp} {s : Shared} {d : Addr} {u : HO} (I : Inv X pins σ H s) (D : Dct u) (e : Rd H d u) : ∃ o H', s.heap.get? d = some o /\ Fz H d o u H' /\ Inv X pins σ H' s := by
 rcases e with e | ⟨o, e⟩
 ·have ok := I.hok d u e;obtain ⟨ob, es, ep, h1, _⟩ := raw_of D ok;refine ⟨ob, upd H d (.frz ob u), h1, ⟨uds, fun b hb => upd_ne hb⟩, ?_⟩;have mu : Mut (H d) := by
   rw [e];cases u with
   | dK kvs => exact True.intro
   | dT kvs => exact True.intro
   | _ => exact D.elim
  have new : ObjOk X.prog X.w (upd H d (.frz ob u)) s.heap d (.frz ob u) := by
   refine ⟨h1, ?_⟩;cases u with
   | dK kvs => exact ok
   | dT kvs =>
    obtain ⟨z, hd, xs, rel, r⟩ := ok;refine ⟨z, hd, xs, KT.keeps rel fun c ys ec => ?_, r⟩;rw [upd_ne (fun q => by rw [q, e] at ec; cases ec)]
    exact ec
   | _ => exact D.elim
  exact d_write (h' := s.heap) (t' := s.toks) I mu ⟨rfl, fun _ _ => rfl⟩ ⟨ob, h1⟩ new
 ·exact ⟨o, H, (show ObjOk X.prog X.w H s.heap d (.frz o u) from I.hok d _ e).1, ⟨e, fun _ _ => rfl⟩, I⟩
def Iti (d : Addr) (o : Obj) (u : HO) : It :=
 ⟨fun i H => H d = some (.frz o u) /\ i < lenD u, fun i H x H' => ∃ p kx v, x = .ref p /\ H p = none /\ PrAt H u i kx v /\ H' = upd H p (.tup [kx, v]), fun i H => H d = some (.frz o u) /\ lenD u <= i⟩
def Itv (d : Addr) (o : Obj) (u : HO) : It :=
 ⟨fun i H => H d = some (.frz o u) /\ i < lenD u, fun i H x H' => H' = H /\ ∃ kx, PrAt H u i kx x, fun i H => H d = some (.frz o u) /\ lenD u <= i⟩
theorem frz_raw {P : Program} {w : World} {H : Hp} {h : Heap} {d : Addr} {u : HO} {o : Obj} {es : Array DictEntry} {ep : Nat} (D : Dct u) (ok : HOk P w H h) (e : H d = some (.frz o u)) (hd : o.data = .dict es ep) : h.get? d = some o /\ es.size = lenD u /\ ∀ (i : Nat) e, es[i]? = some e -> ∃ kx v, PrAt H u i kx v /\ RelV kx e.key /\ RelV v e.val := by
 obtain ⟨h0, h1⟩ := (show ObjOk P w H h d (.frz o u) from ok d _ e);obtain ⟨ob, es', ep', g1, g2, g3, g4, g5, g6⟩ := raw_of D h1;rw [h0] at g1;cases g1;rw [hd] at g3;cases g3;exact ⟨h0, g5, g6⟩
theorem turn_itm {P : Program} {w : World} {K : Frag} {elts : List Expr} {x1} {pos : Pos} {d it : Addr} {o : Obj} {u : HO} {es : Array DictEntry} {ep : Nat} (D : Dct u) (hd : o.data = .dict es ep) : Turn P w K (.Tuple elts x1 pos) (Iti d o u) [it] it (fun i h => ∃ ok ov, IsItemIter h it d i es.size ep ok ov) where
 mem := by simp
 obj := fun i h st b hb => by
  obtain ⟨ok, ov, q⟩ := st;have e : b = it := by simpa using hb
  subst e;exact ⟨_, q, fun v z => by cases z⟩
 keep := fun i h h' st k => let ⟨ok, ov, q⟩ := st; ⟨ok, ov, k it (by simp) _ q⟩
 item := by
  intro X hP hw hK hc i pins s σ H E I hf st hg;subst hP hw hK;obtain ⟨hfz, hlt⟩ := hg;obtain ⟨ok, ov, hi⟩ := st;obtain ⟨ho, hsz, rel⟩ := frz_raw D I.hok hfz hd;obtain ⟨f0, f1, f2, f3, f4, f5⟩ := hf it (by simp)
  have he := Array.getElem?_eq_getElem (show i < es.size by omega)
  obtain ⟨kx, v, pr, rk, rv⟩ := rel i _ he;generalize es[i]'(by omega) = e at he rk rv
  refine nxi_item hi ho hd he fun h1 hi1 ht1 kk => ⟨_, rfl, wpAny_letOwnedTupleGo_items (s := { s with heap := h1 }) hi1 fun h2 hi2 sb => ?_⟩
  have sb' : Heap.SameBut it h1 h2 := sb;have ltI : it < s.heap.objs.size := Heap.lt_size hi;have ne2 : s.heap.objs.size ≠ it := Nat.ne_of_gt ltI;have ht2 : h2.get? s.heap.objs.size = some { cls := .type "tuple", data := .seq #[e.key, e.val] } := (sb'.2 _ ne2).trans ht1
  let hA : Heap := s.heap.update it fun _ => { cls := .type "dict_itemiterator", dict := none, data := .fields #[.none, .bool false, .ref d, .int ((i + 1 : Nat) : Int) 0, .int es.size 0, .int ep 0, e.key, e.val], slots := #[] }
  have IA : Inv X pins σ H { s with heap := hA, toks := s.toks } := I.turned (fun b ob hb q => by
   show hA.get? b = some ob;rw [Heap.get?_update_ne _ _ _ _ hb];exact q) f0 f1 f3 f4 f5
  have szA : hA.objs.size = s.heap.objs.size := Heap.size_update _ _ _;refine ⟨.ref s.heap.objs.size, upd H s.heap.objs.size (.tup [kx, v]), ?_, rfl, ⟨_, kx, v, rfl, I.hok.fresh (Nat.le_refl _), pr, rfl⟩, ⟨_, _, hi2⟩, fun b hb => ?_⟩
  ·refine IA.laid (t' := s.toks) (fun b ob q => ?_) (Nat.le_of_eq szA) ⟨by show 2 <= sizeLine; decide, [e.key, e.val], .cons rk (.cons rv .nil), ⟨_, ht2, rfl, _, rfl⟩⟩
   have q' : hA.get? b = some ob := q;by_cases z1 : b = it
   ·subst z1;rw [Heap.get?_update_self _ hi rfl] at q';cases q';exact hi2
   ·rw [Heap.get?_update_ne _ _ _ _ z1] at q';exact (sb'.2 b z1).trans (kk b ob z1 q')
  ·have e' : b = it := by simpa using hb
   subst e';rw [upd_ne (Ne.symm ne2)];exact f0
 done := by
  intro X hP hw hK hc i pins s σ H E I hf st hg;subst hP hw hK;obtain ⟨hfz, hlt⟩ := hg;obtain ⟨ok, ov, hi⟩ := st;obtain ⟨ho, hsz, rel⟩ := frz_raw D I.hok hfz hd;obtain ⟨f0, f1, f2, f3, f4, f5⟩ := hf it (by simp)
  exact nxi_end (I.ok.hd hc) hi ho hd (by omega) fun h' eb => ⟨rfl, I.turned (t' := s.toks) (fun b ob hb q => eb b ob hb q) f0 f1 f3 f4 f5⟩
 self := fun A i s Q E st k => by
  obtain ⟨ok, ov, hi⟩ := st;exact kcp_self hi k
theorem turn_vls {P : Program} {w : World} {K : Frag} {tg : Expr} {d it : Addr} {o : Obj} {u : HO} {es : Array DictEntry} {ep : Nat} (D : Dct u) (hd : o.data = .dict es ep) : Turn P w K tg (Itv d o u) [it] it (fun i h => h.IsValIter it d i es.size ep) where
 mem := by simp
 obj := fun i h st b hb => by
  obtain ⟨oi, q, c, dd⟩ := st;have e : b = it := by simpa using hb
  subst e;exact ⟨oi, q, fun v z => by rw [dd] at z; cases z⟩
 keep := fun i h h' st k => by
  obtain ⟨oi, q, c, dd⟩ := st;exact ⟨oi, k it (by simp) _ q, c, dd⟩
 item := by
  intro X hP hw hK hc i pins s σ H E I hf st hg;subst hP hw hK;obtain ⟨hfz, hlt⟩ := hg;obtain ⟨ho, hsz, rel⟩ := frz_raw D I.hok hfz hd;obtain ⟨f0, f1, f2, f3, f4, f5⟩ := hf it (by simp)
  have he := Array.getElem?_eq_getElem (show i < es.size by omega)
  obtain ⟨kx, v, pr, rk, rv⟩ := rel i _ he;refine nxv_item st ho hd he fun h1 hi1 sb => ?_;have I1 : Inv X pins σ H { s with heap := h1 } := I.turned (t' := s.toks) (fun b ob hb q => (sb.2 b hb).trans q) f0 f1 f3 f4 f5
  obtain ⟨oi, q, c, dd⟩ := id hi1;exact ⟨_, rfl, go_of (s := { s with heap := h1 }) q c dd (by decide) ⟨v, H, I1, rv, ⟨rfl, kx, pr⟩, hi1, fun b hb => (hf b hb).1⟩⟩
 done := by
  intro X hP hw hK hc i pins s σ H E I hf st hg;subst hP hw hK;obtain ⟨hfz, hlt⟩ := hg;obtain ⟨ho, hsz, rel⟩ := frz_raw D I.hok hfz hd;obtain ⟨f0, f1, f2, f3, f4, f5⟩ := hf it (by simp)
  exact nxv_end (I.ok.hd hc) st ho hd (by omega) fun h' eb => ⟨rfl, I.turned (t' := s.toks) (fun b ob hb q => eb b ob hb q) f0 f1 f3 f4 f5⟩
 self := fun _ _ _ _ _ st k => wpAny_pyIter_valiter st k
section
variable {X : Cx} {o : Expr} {apos cpos : Pos} {tl : TE}
def iItm (tl : TE) : TI := fun σ H R => tl σ H fun x H1 => ∃ d u, x = .ref d /\ Dct u /\ Rd H1 d u /\ ∀ ob H2, Fz H1 d ob u H2 -> R (Iti d ob u) H2
def iVls (tl : TE) : TI := fun σ H R => tl σ H fun x H1 => ∃ d u, x = .ref d /\ Dct u /\ Rd H1 d u /\ ∀ ob H2, Fz H1 d ob u H2 -> R (Itv d ob u) H2
theorem dct_is {P : Program} {w : World} {H : Hp} {h : Heap} {d : Addr} {u : HO} (D : Dct u) (ok : HOk P w H h) (e : Rd H d u) : ObjOk P w H h d u := by
 rcases e with e | ⟨o, e⟩
 ·exact ok d u e
 ·exact (show ObjOk P w H h d (.frz o u) from ok d _ e).2
theorem pi_items {elts : List Expr} {x1} {pt : Pos} (ho : PE X o tl) (hbase : attributeBase o "items" X.env (eval o X.env) = eval o X.env := by rfl) (hline : (apos.endLine == cpos.line) = true := by rfl) : PI X (.Tuple elts x1 pt) (.Call (.Attribute o "items" apos) [] [] cpos) (iItm tl) := by
 intro pins s σ H R I h;refine wpAny_Call_method0_late hbase hline (thn (ho pins s σ H _ I h) fun v s1 ⟨x, H1, I1, r1, q1⟩ => ?_);obtain ⟨d, u, rfl, D, rd, q⟩ := q1;cases (show v = Value.ref d from r1);obtain ⟨ob, es, ep, g1, g2, g3, g4, g5, g6⟩ := raw_of D (dct_is D I1.hok rd);have hT : s1.TypeIs (.ref d) "dict" := ⟨ob, g1, g2.1⟩;refine ⟨"dict", "dict.items", PySem.F.plainAttrs_dict, PySem.F.slot_dict_items, PySem.F.type_dict_items, hT, fun b hb => by cases hb; exact ⟨ob, g1, g2.2.1⟩, Calls.callWith_builtin rfl (PySem.evalArgs_none (call_itm hT g4 ?_))⟩
 obtain ⟨ob', H2, f1, f2, I2⟩ := freeze I1 D rd;have eo : ob' = ob := by rw [g1] at f1; exact (Option.some.inj f1).symm
 subst eo;refine iter_itm (s := { s1 with heap := s1.heap.push { cls := .type "dict_items", data := .fields #[.ref d] } }) ⟨_, Heap.get?_push_size _ rfl, rfl, rfl⟩ (Heap.get?_push_of_some _ g1) g3 ?_
 have I3 : Inv X pins σ H2 { s1 with heap := (s1.heap.push { cls := .type "dict_items", data := .fields #[.ref d] }), toks := s1.toks } := I2.kept fun b ob e => Heap.get?_push_of_some _ e
 generalize hh : s1.heap.push { cls := .type "dict_items", data := .fields #[.ref d] } = hB at I3 ⊢;refine ⟨hB.objs.size, [hB.objs.size], _, _, H2, rfl, I3.kept (t' := s1.toks) fun b ob e => Heap.get?_push_of_some _ e, turn_itm (es := es) (ep := ep) D g3, ⟨.none, .none, ?_⟩, fun b hb => ?_, q _ _ f2⟩
 ·exact Heap.get?_push_size _ rfl
 ·have e : b = hB.objs.size := by simpa using hb
  subst e;exact I3.fpOk (Nat.le_refl _) (I3.hok.fresh (Nat.le_refl _))
theorem pi_values {tg : Expr} (ho : PE X o tl) (hbase : attributeBase o "values" X.env (eval o X.env) = eval o X.env := by rfl) (hline : (apos.endLine == cpos.line) = true := by rfl) : PI X tg (.Call (.Attribute o "values" apos) [] [] cpos) (iVls tl) := by
 intro pins s σ H R I h;refine wpAny_Call_method0_late hbase hline (thn (ho pins s σ H _ I h) fun v s1 ⟨x, H1, I1, r1, q1⟩ => ?_);obtain ⟨d, u, rfl, D, rd, q⟩ := q1;cases (show v = Value.ref d from r1);obtain ⟨ob, es, ep, g1, g2, g3, g4, g5, g6⟩ := raw_of D (dct_is D I1.hok rd);have hT : s1.TypeIs (.ref d) "dict" := ⟨ob, g1, g2.1⟩;refine ⟨"dict", "dict.values", PySem.F.plainAttrs_dict, PySem.F.slot_dict_values, PySem.F.type_dict_values, hT, fun b hb => by cases hb; exact ⟨ob, g1, g2.2.1⟩, Calls.callWith_builtin rfl (PySem.evalArgs_none (call_vls hT g4 ?_))⟩
 obtain ⟨ob', H2, f1, f2, I2⟩ := freeze I1 D rd;have eo : ob' = ob := by rw [g1] at f1; exact (Option.some.inj f1).symm
 subst eo;refine iter_vls (s := { s1 with heap := s1.heap.push { cls := .type "dict_values", data := .fields #[.ref d] } }) ⟨_, Heap.get?_push_size _ rfl, rfl, rfl⟩ (Heap.get?_push_of_some _ g1) g3 ?_
 have I3 : Inv X pins σ H2 { s1 with heap := (s1.heap.push { cls := .type "dict_values", data := .fields #[.ref d] }), toks := s1.toks } := I2.kept fun b ob e => Heap.get?_push_of_some _ e
 generalize hh : s1.heap.push { cls := .type "dict_values", data := .fields #[.ref d] } = hB at I3 ⊢;refine ⟨hB.objs.size, [hB.objs.size], _, _, H2, rfl, I3.kept (t' := s1.toks) fun b ob e => Heap.get?_push_of_some _ e, turn_vls (es := es) (ep := ep) D g3, ⟨_, Heap.get?_push_size _ rfl, rfl, rfl⟩, fun b hb => ?_, q _ _ f2⟩;have e : b = hB.objs.size := by simpa using hb
 subst e;exact I3.fpOk (Nat.le_refl _) (I3.hok.fresh (Nat.le_refl _))
end
theorem for_itm {d : Addr} {ob : Obj} {u : HO} {g : TG} {tb : TS} {D : Ends} {σ : St} {H : Hp} (Pv : Nat -> St -> Hp -> Prop) (h0 : Pv 0 σ H) (hf : ∀ i σ H, Pv i σ H -> H d = some (.frz ob u))
  (hs : ∀ i σ H p kx v, i < lenD u -> Pv i σ H -> H p = none -> PrAt H u i kx v -> g (.ref p) σ (upd H p (.tup [kx, v])) fun σ2 H2 => tb { D with nx := Pv (i + 1), ct := Pv (i + 1), bk := D.nx } σ2 H2) (hd : ∀ σ H, Pv (lenD u) σ H -> D.nx σ H) :
  ∃ W : Nat -> Nat -> St -> Hp -> Prop, (∃ m, W 0 m σ H) /\ ∀ i m σ H, W i m σ H ->
   ((Iti d ob u).stop i H /\ D.nx σ H) \/ ((Iti d ob u).go i H /\ ∃ N : St -> Hp -> Prop, (∀ σ' H', N σ' H' -> ∃ m', m' < m /\ W (i + 1) m' σ' H') /\ ∀ x H', (Iti d ob u).yld i H x H' -> g x σ H' fun σ2 H2 => tb { D with nx := N, ct := N, bk := D.nx } σ2 H2) := by
 refine ⟨fun i m σ H => m = lenD u - i /\ i <= lenD u /\ Pv i σ H, ⟨lenD u, by simp, Nat.zero_le _, h0⟩, ?_⟩
 rintro i m σ H ⟨rfl, hi, p⟩;have q := hf i σ H p;by_cases hlt : i < lenD u
 ·refine .inr ⟨⟨q, hlt⟩, Pv (i + 1), fun σ' H' n => ⟨lenD u - (i + 1), by omega, rfl, hlt, n⟩, ?_⟩
  rintro x H' ⟨p', kx, v, rfl, hp, pr, rfl⟩;exact hs i σ H p' kx v hlt p hp pr
 ·have e : i = lenD u := by omega
  subst e;exact .inl ⟨⟨q, Nat.le_refl _⟩, hd σ H p⟩
theorem for_vls {d : Addr} {ob : Obj} {u : HO} {g : TG} {tb : TS} {D : Ends} {σ : St} {H : Hp} (Pv : Nat -> St -> Hp -> Prop) (h0 : Pv 0 σ H) (hf : ∀ i σ H, Pv i σ H -> H d = some (.frz ob u))
  (hs : ∀ i σ H kx v, i < lenD u -> Pv i σ H -> PrAt H u i kx v -> g v σ H fun σ2 H2 => tb { D with nx := Pv (i + 1), ct := Pv (i + 1), bk := D.nx } σ2 H2) (hd : ∀ σ H, Pv (lenD u) σ H -> D.nx σ H) :
  ∃ W : Nat -> Nat -> St -> Hp -> Prop, (∃ m, W 0 m σ H) /\ ∀ i m σ H, W i m σ H ->
   ((Itv d ob u).stop i H /\ D.nx σ H) \/ ((Itv d ob u).go i H /\ ∃ N : St -> Hp -> Prop, (∀ σ' H', N σ' H' -> ∃ m', m' < m /\ W (i + 1) m' σ' H') /\ ∀ x H', (Itv d ob u).yld i H x H' -> g x σ H' fun σ2 H2 => tb { D with nx := N, ct := N, bk := D.nx } σ2 H2) := by
 refine ⟨fun i m σ H => m = lenD u - i /\ i <= lenD u /\ Pv i σ H, ⟨lenD u, by simp, Nat.zero_le _, h0⟩, ?_⟩
 rintro i m σ H ⟨rfl, hi, p⟩;have q := hf i σ H p;by_cases hlt : i < lenD u
 ·refine .inr ⟨⟨q, hlt⟩, Pv (i + 1), fun σ' H' n => ⟨lenD u - (i + 1), by omega, rfl, hlt, n⟩, ?_⟩
  rintro x H' ⟨rfl, kx, pr⟩;exact hs i σ _ kx x hlt p pr
 ·have e : i = lenD u := by omega
  subst e;exact .inl ⟨⟨q, Nat.le_refl _⟩, hd σ H p⟩
def kD (tp : Bool) (ks : List Key) : PyData := if tp = true then .tuple (ks.map keyD) else keyD (ks.headD .non)
def KyOk (tp : Bool) (ks : List Key) : Prop := tp = false -> ∃ k, ks = [k]
theorem key_rd {H : Hp} {x : V} {k : Key} (h : Rds H x (keyD k)) : x = kV k := by
 cases k with
 | inl i => cases h; rfl
 | inr s => cases h; rfl
 | non => cases h; rfl
theorem rd_key (H : Hp) (k : Key) : Rds H (kV k) (keyD k) := by
 cases k with
 | inl i => exact .int i
 | inr s => exact .str s
 | non => exact .non
theorem keys_rd {H : Hp} : ∀ {ks : List Key} {xs : List V}, RdsAll H xs (ks.map keyD) -> xs = ks.map kV
 | [], _, h => by cases h; rfl
 | k :: ks, _, h => by
  rw [List.map_cons] at h;cases h with
  | cons a b => rw [key_rd a, keys_rd b]; rfl
theorem rd_keys (H : Hp) : ∀ (ks : List Key), RdsAll H (ks.map kV) (ks.map keyD)
 | [] => .nil
 | k :: ks => .cons (rd_key H k) (rd_keys H ks)
abbrev Wts := List (List Key × Nat)
def wSum (ps : Wts) : Nat := (ps.map (·.2)).sum
def wAt : Wts -> List Key -> Nat
 | [], _ => 0
 | p :: ps, k => if p.1 = k then p.2 else wAt ps k
def wAdd : Wts -> List Key -> Nat -> Wts
 | [], k, c => [(k, c)]
 | p :: ps, k, c => if p.1 = k then (p.1, p.2 + c) :: ps else p :: wAdd ps k c
theorem wAdd_sum : ∀ (ps : Wts) (k : List Key) (c : Nat), wSum (wAdd ps k c) = wSum ps + c
 | [], k, c => by simp [wAdd, wSum]
 | p :: ps, k, c => by
  have ih := wAdd_sum ps k c;unfold wSum at ih ⊢;unfold wAdd;split
  ·simp only [List.map_cons, List.sum_cons]; omega
  ·simp only [List.map_cons, List.sum_cons, ih]; omega
theorem wAdd_len : ∀ (ps : Wts) (k : List Key) (c : Nat), (wAdd ps k c).length <= ps.length + 1
 | [], k, c => by simp [wAdd]
 | p :: ps, k, c => by
  have ih := wAdd_len ps k c;unfold wAdd;split
  ·simp
  ·simp only [List.length_cons]; omega
theorem wAdd_key : ∀ {ps : Wts} {k : List Key} {c : Nat} {q : List Key}, q ∈ (wAdd ps k c).map (·.1) -> q = k \/ q ∈ ps.map (·.1)
 | [], k, c, q, h => by
  left
  simpa [wAdd] using h
 | p :: ps, k, c, q, h => by
  unfold wAdd at h;split at h
  ·right; exact h
  ·rw [List.map_cons, List.mem_cons] at h;rcases h with h | h
   ·right; rw [h]; exact List.mem_cons_self ..
   ·rcases wAdd_key h with z | z
    ·exact .inl z
    ·right; rw [List.map_cons]; exact List.mem_cons_of_mem _ z
theorem wAdd_nd : ∀ {ps : Wts} {k : List Key} {c : Nat}, (ps.map (·.1)).Nodup -> ((wAdd ps k c).map (·.1)).Nodup
 | [], k, c, _ => by simp [wAdd]
 | p :: ps, k, c, h => by
  rw [List.map_cons, List.nodup_cons] at h;unfold wAdd;split
  ·rw [List.map_cons, List.nodup_cons]; exact h
  ·rename_i ne
   rw [List.map_cons, List.nodup_cons];refine ⟨fun z => ?_, wAdd_nd h.2⟩;rcases wAdd_key z with q | q
   ·exact ne q
   ·exact h.1 q
theorem wAt_le : ∀ (ps : Wts) (k : List Key), wAt ps k <= wSum ps
 | [], k => Nat.zero_le _
 | p :: ps, k => by
  have ih := wAt_le ps k;unfold wSum at ih ⊢;unfold wAt;simp only [List.map_cons, List.sum_cons];split <;> omega
theorem wMem_le : ∀ {ps : Wts} {q : List Key × Nat}, q ∈ ps -> q.2 <= wSum ps
 | p :: ps, q, h => by
  unfold wSum;simp only [List.map_cons, List.sum_cons];rcases List.mem_cons.mp h with rfl | h
  ·omega
  ·have := wMem_le h;unfold wSum at this;omega
theorem wSum_take {ps : Wts} {i : Nat} {q : List Key × Nat} (h : ps[i]? = some q) : wSum (ps.take (i + 1)) = wSum (ps.take i) + q.2 := by
 unfold wSum;rw [take_all h, List.map_append, List.sum_append];simp
section
variable {κ : Type} [DecidableEq κ] {f : κ -> List Key} {K : Frag} {G G' : Hp} {D : Nat} {kvs : List (κ × V)} {ps : Wts}
theorem putK_ne {p : κ × V} {r : List (κ × V)} {k : κ} {v : V} (h : ¬ p.1 = k) : putK (p :: r) k v = p :: putK r k v := by
 unfold putK;rw [List.any_cons, decide_eq_false h, Bool.false_or];split
 ·rw [List.map_cons, if_neg h]
 ·rfl
theorem putK_eqH {p : κ × V} {r : List (κ × V)} {k : κ} {v : V} (h : p.1 = k) (n : k ∉ r.map (·.1)) : putK (p :: r) k v = (p.1, v) :: r := by
 unfold putK;rw [List.any_cons, decide_eq_true h, Bool.true_or, if_pos rfl, List.map_cons, if_pos h]
 congr 1
 refine (List.map_congr_left fun q hq => ?_).trans (List.map_id r);rw [if_neg (fun z => n (List.mem_map.mpr ⟨q, hq, z⟩))];rfl
def WR (f : κ -> List Key) (K : Frag) (G : Hp) (D : Nat) (kvs : List (κ × V)) (ps : Wts) : Prop := Paired (fun kv p => p.1 = f kv.1 /\ ShV K G kv.2 (lowT p.2 D) (lowBt p.2 D)) kvs ps
theorem WR.mono (w : WR f K G D kvs ps) (x : Ext G G') : WR f K G' D kvs ps := by
 unfold WR at w ⊢
 induction w with
 | nil => exact .nil
 | cons h t ih => exact .cons ⟨h.1, h.2.ext x⟩ ih
theorem WR.keys (w : WR f K G D kvs ps) : ps.map (·.1) = kvs.map fun kv => f kv.1 := by
 unfold WR at w
 induction w with
 | nil => rfl
 | cons h t ih => rw [List.map_cons, List.map_cons, ih, h.1]
theorem WR.val (inj : ∀ a b, f a = f b -> a = b) (w : WR f K G D kvs ps) (k : κ) : (valV kvs k = none /\ wAt ps (f k) = 0) \/ ∃ v, valV kvs k = some v /\ ShV K G v (lowT (wAt ps (f k)) D) (lowBt (wAt ps (f k)) D) := by
 unfold WR at w
 induction w with
 | nil => exact .inl ⟨rfl, rfl⟩
 | @cons kv p t1 t2 h t ih =>
  by_cases e : kv.1 = k
  ·right;have e' : p.1 = f k := by rw [h.1, e]
   rw [valV_pos e];unfold wAt;rw [if_pos e'];exact ⟨kv.2, rfl, h.2⟩
  ·have e' : ¬ p.1 = f k := fun z => e (inj _ _ (by rw [<- h.1, z]))
   rw [valV_neg e];unfold wAt;rw [if_neg e'];exact ih
theorem WR.put (inj : ∀ a b, f a = f b -> a = b) (w : WR f K G D kvs ps) (nd : (ps.map (·.1)).Nodup) (k : κ) (c : Nat) {v : V} (sv : ShV K G v (lowT (wAt ps (f k) + c) D) (lowBt (wAt ps (f k) + c) D)) : WR f K G D (putK kvs k v) (wAdd ps (f k) c) := by
 unfold WR at w ⊢
 induction w with
 | nil =>
  have e : wAt [] (f k) + c = c := Nat.zero_add c;rw [e] at sv;exact .cons ⟨rfl, sv⟩ .nil
 | @cons kv p t1 t2 h t ih =>
  rw [List.map_cons, List.nodup_cons] at nd;by_cases e : kv.1 = k
  ·have e' : p.1 = f k := by rw [h.1, e]
   have n : k ∉ t1.map (·.1) := fun z => nd.1 (by
    obtain ⟨q, hq, eq⟩ := List.mem_map.mp z;rw [WR.keys (f := f) (K := K) (G := G) (D := D) t, e'];exact List.mem_map.mpr ⟨q, hq, by rw [eq]⟩)
   rw [putK_eqH e n];unfold wAdd;rw [if_pos e'];unfold wAt at sv;rw [if_pos e'] at sv;exact .cons ⟨h.1, sv⟩ t
  ·have e' : ¬ p.1 = f k := fun z => e (inj _ _ (by rw [<- h.1, z]))
   rw [putK_ne e];unfold wAdd;rw [if_neg e'];unfold wAt at sv;rw [if_neg e'] at sv;exact .cons h (ih nd.2 sv)
end
def WU (K : Frag) (G : Hp) (tp : Bool) (D : Nat) (u : HO) (ps : Wts) : Prop := (tp = true /\ ∃ kvs : List (List Key × V), u = .dT kvs /\ WR id K G D kvs ps) \/ (tp = false /\ ∃ kvs : List (Key × V), u = .dK kvs /\ WR (fun k => [k]) K G D kvs ps)
theorem sing_inj : ∀ a b : Key, [a] = [b] -> a = b := fun a b h => by injection h
section
variable {K : Frag} {G G' H : Hp} {tp : Bool} {D : Nat} {u : HO} {ps : Wts} {a : Addr} {kx v : V} {ks : List Key}
theorem WU.mono (w : WU K G tp D u ps) (x : Ext G G') : WU K G' tp D u ps := by
 rcases w with ⟨e, kvs, eu, w⟩ | ⟨e, kvs, eu, w⟩
 ·exact .inl ⟨e, kvs, eu, w.mono x⟩
 ·exact .inr ⟨e, kvs, eu, w.mono x⟩
theorem WU.dct (w : WU K G tp D u ps) : Dct u := by
 rcases w with ⟨_, kvs, rfl, _⟩ | ⟨_, kvs, rfl, _⟩
 ·exact True.intro
 ·exact True.intro
theorem WU.len (w : WU K G tp D u ps) : lenD u = ps.length := by
 rcases w with ⟨_, kvs, rfl, w⟩ | ⟨_, kvs, rfl, w⟩
 ·exact Paired.length w
 ·exact Paired.length w
theorem WU.get (w : WU K G tp D u ps) (hu : Rd H a u) (rk : Rds H kx (kD tp ks)) (ok : KyOk tp ks) : ∃ o, DGet H a kx o /\ ((o = none /\ wAt ps ks = 0) \/ ∃ v, o = some v /\ ShV K G v (lowT (wAt ps ks) D) (lowBt (wAt ps ks) D)) := by
 rcases w with ⟨rfl, kvs, rfl, w⟩ | ⟨rfl, kvs, rfl, w⟩
 ·have rk' : Rds H kx (.tuple (ks.map keyD)) := rk;cases rk' with
  | tup hb rb =>
   have e := keys_rd rb;subst e;exact ⟨_, .inr ⟨kvs, ks, _, hu, rfl, hb, rfl⟩, w.val (fun _ _ h => h) ks⟩
 ·obtain ⟨k, rfl⟩ := ok rfl;have e := key_rd (show Rds H kx (keyD k) from rk);exact ⟨_, .inl ⟨kvs, k, hu, e, rfl⟩, w.val sing_inj k⟩
theorem WU.put {c : Nat} (w : WU K G tp D u ps) (hu : H a = some u) (nd : (ps.map (·.1)).Nodup) (rk : Rds H kx (kD tp ks)) (ok : KyOk tp ks) (sv : ShV K G v (lowT (wAt ps ks + c) D) (lowBt (wAt ps ks + c) D)) (lt : ps.length < sizeLine) : ∃ u', DPut H a kx v (upd H a u') /\ WU K G tp D u' (wAdd ps ks c) := by
 have ln := w.len;rcases w with ⟨rfl, kvs, rfl, w⟩ | ⟨rfl, kvs, rfl, w⟩
 ·have rk' : Rds H kx (.tuple (ks.map keyD)) := rk;have l1 : kvs.length = ps.length := ln;cases rk' with
  | tup hb rb =>
   have e := keys_rd rb;subst e;exact ⟨.dT (putK kvs ks v), .inr ⟨kvs, ks, _, hu, rfl, hb, by omega, rfl⟩, .inl ⟨rfl, _, rfl, w.put (fun _ _ h => h) nd ks c sv⟩⟩
 ·obtain ⟨k, rfl⟩ := ok rfl;have l1 : kvs.length = ps.length := ln;have e := key_rd (show Rds H kx (keyD k) from rk);exact ⟨.dK (putK kvs k v), .inl ⟨kvs, k, hu, e, by omega, rfl⟩, .inr ⟨rfl, _, rfl, w.put sing_inj nd k c sv⟩⟩
theorem paired_at {α β : Type} {R : α -> β -> Prop} : ∀ {xs : List α} {ys : List β}, Paired R xs ys -> ∀ {i : Nat} {x : α}, xs[i]? = some x -> ∃ y, ys[i]? = some y /\ R x y
 | _, _, .nil, i, y, h => by simp at h
 | _, _, .cons r _, 0, y, h => by cases h; exact ⟨_, rfl, r⟩
 | _, _, .cons _ t, i + 1, y, h => paired_at t h
theorem WU.at {i : Nat} (w : WU K G tp D u ps) (h : PrAt H u i kx v) : ∃ ks n, ps[i]? = some (ks, n) /\ Rds H kx (kD tp ks) /\ KyOk tp ks /\ ShV K G v (lowT n D) (lowBt n D) := by
 rcases w with ⟨rfl, kvs, rfl, w⟩ | ⟨rfl, kvs, rfl, w⟩
 ·rcases h with ⟨l, k, e, _⟩ | ⟨l, k, b, e, hk, rfl, hb⟩
  ·cases e
  ·cases e;obtain ⟨⟨ks, n⟩, hp, e1, sv⟩ := paired_at w hk;have e1' : ks = k := e1;subst e1';exact ⟨ks, n, hp, .tup hb (rd_keys H ks), fun z => (nomatch z), sv⟩
 ·rcases h with ⟨l, k, e, hk, rfl⟩ | ⟨l, k, b, e, _⟩
  ·cases e;obtain ⟨⟨ks, n⟩, hp, e1, sv⟩ := paired_at w hk;have e1' : ks = [k] := e1;subst e1';exact ⟨[k], n, hp, rd_key H k, fun _ => ⟨k, rfl⟩, sv⟩
  ·cases e
end
def emp (tp : Bool) : HO := if tp = true then .dT [] else .dK []
theorem wu_emp (K : Frag) (G : Hp) (tp : Bool) (D : Nat) : WU K G tp D (emp tp) [] := by
 cases tp with
 | true => exact .inl ⟨rfl, [], rfl, .nil⟩
 | false => exact .inr ⟨rfl, [], rfl, .nil⟩
def tDN (tp : Bool) : TE := fun _ H Q => ∀ p, H p = none -> Q (.ref p) (upd H p (emp tp))
section
variable {X : Cx} {pos : Pos}
theorem pe_dn (tp : Bool) : PE X (.Dict [] [] pos) (tDN tp) := by
 cases tp with
 | true => exact pe_dnewT
 | false => exact pe_dnewK
theorem d_dset {pins : List (Addr × Obj)} {σ : St} {H H' : Hp} {s : Shared} {a : Addr} {y v : V} {u r : Value} {A : Around} {E : Value -> Shared -> Prop} {Q : Unit -> Shared -> Prop} (hu : A.units + 1 < cLine) (I : Inv X pins σ H s) (g : DPut H a y v H') (ry : RelV y u) (rv : RelV v r) (h : ∀ s', Inv X pins σ H' s' -> Q () s') : wpAny (model X.prog X.w) A (dictSet a u r) Q E s := by
 rcases g with ⟨kvs, k, e, rfl, l, rfl⟩ | ⟨kvs, k, b, e, rfl, eb, l, rfl⟩
 ·obtain ⟨z, hd, vs, rel, dd⟩ := dk_of I.hok e;refine wpAny_dictSet_pairs (kV_is ry) dd (fun h' dd' hs => h _ ?_) (by rw [<- rel.length]; exact z)
  have he : ∃ q, h'.get? a = some q := let ⟨q, _, _, hq, _⟩ := dd'; ⟨q, hq⟩
  exact d_write I (by rw [e]; exact True.intro) hs he (dk_new (by have := length_putK kvs k v; omega) hd (rel.put k rv) dd')
 ·cases (show u = Value.ref b from ry);obtain ⟨z, hd, xs, rel, dd⟩ := dt_of I.hok e;refine wpAny_dictSet_heap (show A.units < cLine by omega) (key_of I.hok eb) dd (fun h' dd' hs => h _ ?_) (by rw [<- Paired.length rel]; exact z)
  obtain ⟨q, es, ep, hq, h2, h3, h4, _, h5⟩ := dd';refine d_write I (by rw [e]; exact True.intro) hs ⟨q, hq⟩ ⟨by have := length_putK kvs k v; omega, hd, _, (rel.put k eb rv).keeps fun c ys ec => ?_, q, es, ep, hq, h2, h3, h4, h5⟩
  rw [upd_ne (ne_of ec e (fun z => nomatch z))];exact ec
def tD1 (tp : Bool) (tk tv : TE) : TE := fun σ H Q => ∀ p, H p = none -> tk σ (upd H p (emp tp)) fun x H1 => tv σ H1 fun y H2 => ∃ H4, DPut H2 p x y H4 /\ Q (.ref p) H4
theorem pe_d1 {tp : Bool} {k v : Expr} {tk tv : TE} (hu : X.A.units + 2 < cLine) (hk : PE X k tk) (hv : PE X v tv) : PE X (.Dict [some k] [v] pos) (tD1 tp tk tv) := by
 intro pins s σ H Q I q;have I1 : Inv X pins σ (upd H s.heap.objs.size (emp tp)) { s with heap := s.heap.push { cls := .type "dict", data := .dict #[] }, toks := s.toks } := by
  cases tp with
  | true => exact I.laid (a := s.heap.objs.size) (o := .dT []) (t' := s.toks) (fun _ _ q => Heap.get?_push_of_some _ q) (Nat.le_refl _) (dt_empty s.heap I.big)
  | false => exact I.laid (a := s.heap.objs.size) (o := .dK []) (t' := s.toks) (fun _ _ q => Heap.get?_push_of_some _ q) (Nat.le_refl _) (dk_empty s.heap I.big)
 refine wpAny_Dict_any rfl rfl (by simp) (by show 1 <= 15; decide) (pairTrees_cons_walk (thn (hk pins _ σ _ _ I1 (q _ (I.hok.fresh (Nat.le_refl _)))) fun kv s1 ⟨x, H1, J1, rx, q1⟩ => thn (hv pins s1 σ H1 _ J1 q1) fun vv s2 ⟨y, H2, J2, ry, H4, pt, q2⟩ => pairTrees_nil_walk ?_))
 unfold storeAll;rw [List.forIn_cons];refine wpAny_bind (wpAny_bind (d_dset (by omega) J2 pt rx ry fun s3 J3 => wpAny_pure ?_))
 show wpAny _ _ (forIn [] PUnit.unit _) _ _ _;rw [List.forIn_nil];exact wpAny_pure ⟨.ref s.heap.objs.size, H4, J3, rfl, q2⟩
end
theorem SqT.keepT {K : Frag} {H H' : Hp} {p : Addr} {xs : List V} (h : SqT K H p xs) (s : KpT H H') : SqT K H' p xs := by
 rcases h with h | h
 ·left;rcases h with h | ⟨o, h⟩
  ·exact .inl (s _ _ h (fun _ e => by cases e))
  ·exact .inr ⟨o, s _ _ h (fun _ e => by cases e)⟩
 ·exact .inr h
theorem StV.keepT {K : Frag} {H H' : Hp} {p : V} {s : Stp} (h : StV K H p s) (k : KpT H H') (n : noLst s.next = true) : StV K H' p s := by
 obtain ⟨a, sv, nv, e, ha, ⟨q, eq, hq⟩, hn⟩ := h;exact ⟨a, sv, nv, e, k _ _ ha (fun _ e => by cases e), ⟨q, eq, My.SqT.keepT hq k⟩, hn.keepT k n⟩
theorem StA.keepT {K : Frag} {H H' : Hp} (k : KpT H H') : ∀ {ps : List V} {ss : List Stp}, StA K H ps ss -> (∀ s ∈ ss, noLst s.next = true) -> StA K H' ps ss
 | _, _, .nil, _ => .nil
 | _, _, .cons a b, h => .cons (a.keepT k (h _ (List.mem_cons_self ..))) (b.keepT k fun s hs => h s (List.mem_cons_of_mem _ hs))
section
variable {P : Program} {w : World} {K : Frag} {mg : Str -> Option Value} {base : Heap} {C : Nat -> Addr} {CR f a1 n1 : Addr} {fd d1 : FuncData}
def spS0 (K : Frag) (C : Nat -> Addr) (i : Nat) : Sp := fun vs H Q _ => ∃ (v st : V) (x : Int) (r : R0) (sd : PyData), vs = [v, st, .int x] /\ Ru C H (.one r) v /\ r.kind = i /\ r.ok /\ 0 <= x /\ x < r.folk /\ r.vst x sd /\ Rds H st sd /\ ∀ l H', Ext H H' -> StF K H H' l (r.steps sd x) -> Q (.ref l) H'
abbrev sSpS : Stmt := inClass (top 31) 1
abbrev NSp : List Str := ["self", "state", "at", "left", "ways"]
theorem scSpS : FnScope NSp ["self", "state", "at"] (defScope sSpS) := mkSc
def tAppW (K : Frag) (te : TE) : TS := tDrop (tBM K "list" rAppend (tVr 4) (tCn te tNl))
def tWay (h : Int) (e n : TE) : TE := tTup (tCn (tC (.int h)) (tCn (tCl spSo [] E0 (tCn e (tCn (tVr 3) tNl))) (tCn n tNl)))
def oSub (a b : TE) : TE := tOp (rI0 fun i j => .int (i - j)) a b
theorem rd_way {De : Ends} {H : Hp} {σ : St} {l : Addr} {ys : List V} {ss : List Stp} {h y : Int} {e n : TE} {a b : Nat} (s4 : σ[4]? = some (some (.ref l))) (s3 : σ[3]? = some (some (.int (b : Nat)))) (hl : H l = some (.lst ys)) (al : StA K H ys ss) (nls : ∀ s ∈ ss, noLst s.next = true) (len : ys.length <= 10) (he : ∀ R : VK, R (.int (a : Nat)) H -> e σ H R) (hn : ∀ (H1 : Hp) (R : VK), R (.int y) H1 -> n σ H1 R) (b1 : 1 <= b) (ab : a <= b) (b100 : b <= 100)
  (k : ∀ p H', (∀ H0, Ext H0 H -> H0 l = none -> Ext H0 H') -> H' l = some (.lst (ys ++ [p])) -> StA K H' (ys ++ [p]) (ss ++ [⟨h, lowT a b, lowBt a b, .int y⟩]) -> De.nx σ H') : tAppW K (tWay h e n) De σ H := by
 refine ⟨_, s4, .inl ⟨rfl, _, SqL.of hl⟩, he _ ⟨_, s3, a, b, rfl, b1, ab, b100, fun m hm => ?_⟩⟩;have x1 := Ext.new (o := .tup [.int (lowT a b : Nat), .int (lowBt a b : Nat)]) hm;have g1 : upd H m (.tup [.int (lowT a b : Nat), .int (lowBt a b : Nat)]) m = some (.tup [.int (lowT a b : Nat), .int (lowBt a b : Nat)]) := uds;generalize upd H m (.tup [.int (lowT a b : Nat), .int (lowBt a b : Nat)]) = H1 at x1 g1 ⊢;refine hn H1 _ ⟨by show 3 <= sizeLine; decide, fun p hp => ?_⟩
 have x2 := Ext.new (o := .tup [.int h, .ref m, .int y]) hp;have g2 : upd H1 p (.tup [.int h, .ref m, .int y]) p = some (.tup [.int h, .ref m, .int y]) := uds;generalize upd H1 p (.tup [.int h, .ref m, .int y]) = H2 at x2 g2 ⊢;have x12 := x1.trans x2;have hl2 := x12 _ _ hl;refine ⟨l, ys, .ref p, rfl, rfl, hl2, by rw [sizeLine_eq]; omega, ?_⟩
 have kp := kpu (.lst (ys ++ [.ref p])) hl2;refine k (.ref p) _ (fun H0 x0 n0 => ext_upd _ (x0.trans x12) n0) uds ?_;refine StA.keepT kp (StA.app (al.ext x12) (.cons ⟨p, .ref m, .int y, rfl, g2, ⟨m, rfl, SqT.of (x2 _ _ g1)⟩, .int _⟩ .nil)) fun s hs => ?_;rcases List.mem_append.mp hs with z | z
 ·exact nls s z
 ·rw [List.mem_singleton.mp z];rfl
theorem ok_sps (Z : KR K C CR) (F : Fun K "steps" "Split.steps" sSpS f fd) (A1 : Df P w K mg base CX0 4 "share_of" ["top", "bottom"] spSo a1 d1) : FnOk P w K mg base CX0 5 f fd ["self", "state", "at"] (spS0 K C 0) := by
 refine F.ok scSpS (fun vs H Q E h => ?_) (fun cdv A outer s H vs Q E hr h => ?_)
 ·obtain ⟨v, st, x, r, sd, rfl, _⟩ := h;rfl
 obtain ⟨v, st, x, r, sd, rfl, ru, ek, ok, x0, x1, vs, rd, q⟩ := h;have nd := scSpS.nd;refine ⟨tSq (tAg (oSub (tFld K (tVr 0) "size") (tVr 2)) (gNm 3)) (tSq (tAg (tLst tNl) (gNm 4)) (tSq (tIfS (tB (tOp (rI0 fun i j => .bl (decide (i < j))) (tVr 1) (tVr 3))) (tAppW K (tWay 0 (oSub (tVr 3) (tVr 1)) (tVr 1))) tNext)
   (tSq (tIfS (tB (tOp (rI0 fun i j => .bl (decide (i > j))) (tVr 1) (tC (.int 0)))) (tAppW K (tWay 1 (tVr 1) (oSub (tVr 1) (tC (.int 1))))) tNext) (tRet (tVr 4))))),
  psc (pst (i := 3) nd rfl (Or.inl rfl) (pe_op op_sub (pef (pv 0) rfl) (pv 2)))
  (psc (pst (i := 4) nd rfl (Or.inl rfl) (pe_lst pan))
  (psc (ps_if (pt_cmpR op_lt (pv 1) (pv 3) (nomark _)) (pss_one (ps_expr (pe_bm PySem.F.plainAttrs_list PySem.F.slot_list_append PySem.F.type_list_append mt_append (pv 4) (pac (pe_tup (pac pei (pac (pec A1.G hr rfl A1.m A1.kp A1.b .nil pass0 (pac (pe_op op_sub (pv 3) (pv 1)) (pac (pv 3) pan))) (pac (pv 1) pan)))) pan)))) psn)
  (psc (ps_if (pt_cmpR op_gt (pv 1) pei (nomark _)) (pss_one (ps_expr (pe_bm PySem.F.plainAttrs_list PySem.F.slot_list_append PySem.F.type_list_append mt_append (pv 4) (pac (pe_tup (pac pei (pac (pec A1.G hr rfl A1.m A1.kp A1.b .nil pass0 (pac (pv 1) (pac (pv 3) pan))) (pac (pe_op op_sub (pv 1) pei) pan)))) pan)))) psn)
  (pss_one (prt (pv 4)))))), ?_⟩
 cases r with
 | pairs _ _ _ => cases ek
 | coins _ _ _ _ => cases ek
 | split n k =>
  obtain ⟨s, rfl, s0, s1⟩ := vs;cases rd;obtain ⟨h1, h2, h3, h4⟩ := ok;obtain ⟨a, dx, fs, rfl, ha, hz, _⟩ := ru.ob.ex;have xn : x < n := x1;obtain ⟨b, eb⟩ : ∃ b : Nat, n - x = (b : Int) := ⟨(n - x).toNat, by omega⟩
  refine rd_set (i := 3) (D := ⟨_, Q, _, _⟩) ⟨_, rfl, a, _, dx, fs, _, rfl, ha, Z.cls 0 (by decide), Z.no 0 (by decide) "size" (by decide +kernel), hz, _, rfl, _, _, rfl, rfl, ?_⟩
  show tSq _ _ _ [some (.ref a), some (.int s), some (.int x), some (.int (n - x)), none] H;rw [eb];refine rd_set (i := 4) (D := ⟨_, Q, _, _⟩) ⟨by show 0 <= sizeLine; decide, fun l hl => ?_⟩
  have y1 := Ext.new (o := .lst []) hl;have gl : upd H l (.lst []) l = some (.lst []) := uds;show tSq _ _ _ [some (.ref a), some (.int s), some (.int x), some (.int (b : Nat)), some (.ref l)] (upd H l (.lst []));generalize upd H l (.lst []) = H1 at y1 gl ⊢;have e1 : (n - x).toNat = b := by omega
  have second : ∀ (ys : List V) (ss : List Stp) (H2 : Hp), Ext H H2 -> H2 l = some (.lst ys) -> StA K H2 ys ss -> (∀ s ∈ ss, noLst s.next = true) -> ys.length <= 10 -> (ss ++ (if 0 < s then [⟨1, lowT s.toNat b, lowBt s.toNat b, .int (s - 1)⟩] else []) = R0.steps (.split n k) (.int s) x) -> tSq (tIfS (tB (tOp (rI0 fun i j => .bl (decide (i > j))) (tVr 1) (tC (.int 0)))) (tAppW K (tWay 1 (tVr 1) (oSub (tVr 1) (tC (.int 1))))) tNext) (tRet (tVr 4)) ⟨fun _ H' => Q .non H', Q, fun _ _ => False, fun _ _ => False⟩ [some (.ref a), some (.int s), some (.int x), some (.int (b : Nat)), some (.ref l)] H2 := fun ys ss H2 x2 h2 al nls len e => by
   refine ⟨_, rfl, _, _, rfl, rfl, _, rfl, ?_⟩;refine ite2 (fun c => ?_) (fun c => ⟨_, rfl, q l H2 x2 ⟨hl, ys, h2, ?_⟩⟩)
   ·have c' : 0 < s := of_decide_eq_true c;obtain ⟨t, rfl⟩ : ∃ t : Nat, s = (t : Int) := ⟨s.toNat, by omega⟩
    rw [if_pos c', Int.toNat_natCast] at e;refine rd_way (a := t) (b := b) (y := (t : Int) - 1) rfl rfl h2 al nls len (fun R r => ⟨_, rfl, r⟩) (fun H3 R r => ⟨_, rfl, _, _, rfl, rfl, r⟩) (by omega) (by omega) (by omega) fun p H3 x3 h3 al3 => ⟨_, rfl, q l H3 (x3 H x2 hl) ⟨hl, _, h3, ?_⟩⟩
    rw [<- e];exact al3
   ·rw [<- e, if_neg (fun z => c (decide_eq_true z)), List.append_nil];exact al
  refine ⟨_, rfl, _, rfl, _, _, rfl, rfl, _, rfl, ?_⟩;refine ite2 (fun c => ?_) (fun c => ?_)
  ·have c' : s < (b : Int) := of_decide_eq_true c;obtain ⟨t, et⟩ : ∃ t : Nat, (b : Int) - s = (t : Int) := ⟨((b : Int) - s).toNat, by omega⟩
   refine rd_way (a := t) (b := b) (y := s) rfl rfl gl .nil (fun _ h => nomatch h) (by show 0 <= 10; decide) (fun R r => ⟨_, rfl, _, rfl, _, _, rfl, rfl, by show R (.int ((b : Int) - s)) _; rw [et]; exact r⟩) (fun H3 R r => ⟨_, rfl, r⟩) (by omega) (by omega) (by omega) fun p H3 x3 h3 al3 => ?_
   refine second _ _ H3 (x3 H y1 hl) h3 al3 (fun z hz => by rw [List.mem_singleton.mp hz]; rfl) (by show 1 <= 10; decide) ?_
   show _ = (if s < n - x then _ else _) ++ _
   rw [if_pos (show s < n - x by omega), e1, show (n - x - s).toNat = t by omega]
   rfl
  ·refine second [] [] H1 y1 gl .nil (fun _ h => nomatch h) (by show 0 <= 10; decide) ?_
   have c' : ¬ s < (b : Int) := fun z => c (decide_eq_true z);show _ = (if s < n - x then _ else _) ++ _
   rw [if_neg (show ¬ s < n - x by omega), e1]
def tOneS (n1 : Addr) (e n : TE) : TS := tRet (tLst (tCn (tTup (tCn e (tCn (tC (.ref n1)) (tCn n tNl)))) tNl))
theorem rd_oneS {D : Ends} {H : Hp} {σ : St} {e n : TE} {h : Int} {nv : V} {nd : PyData} (tA : TupK K n1 [.int (1 : Nat), .int (1 : Nat)]) (he : ∀ R : VK, R (.int h) H -> e σ H R) (hn : ∀ R : VK, R nv H -> n σ H R) (rn : ∀ H', Rds H' nv nd) (q : ∀ l H', Ext H H' -> StF K H H' l [⟨h, 1, 1, nd⟩] -> D.rt (.ref l) H') : tOneS n1 e n D σ H := by
 refine he _ (hn _ ⟨by show 3 <= sizeLine; decide, fun p hp => ⟨by show 1 <= sizeLine; decide, fun l hl => ?_⟩⟩)
 have x1 := Ext.new (o := .tup [.int h, .ref n1, nv]) hp;have g1 : upd H p (.tup [.int h, .ref n1, nv]) p = some (.tup [.int h, .ref n1, nv]) := uds;have x2 := Ext.new (o := .lst [.ref p]) hl;exact q l _ (x1.trans x2) ⟨x1.back hl, _, uds, .cons ⟨p, .ref n1, nv, rfl, x2 _ _ g1, ⟨n1, rfl, .inr tA⟩, rn _⟩ .nil⟩
abbrev sPaS : Stmt := inClass (top 32) 1
theorem scPaS : FnScope ["self", "state", "at"] ["self", "state", "at"] (defScope sPaS) := mkSc
theorem ok_pas (Z : KR K C CR) (F : Fun K "steps" "Pairs.steps" sPaS f fd) (A1 : Df P w K mg base CX0 4 "coin_steps" ["coin", "zero", "one"] (spCsF K) a1 d1) (mA : mg "ALL" = some (.ref n1)) (tA : TupK K n1 [.int (1 : Nat), .int (1 : Nat)]) : FnOk P w K mg base CX0 5 f fd ["self", "state", "at"] (spS0 K C 1) := by
 refine F.ok scPaS (fun vs H Q E h => ?_) (fun cdv A outer s H vs Q E hr h => ?_)
 ·obtain ⟨v, st, x, r, sd, rfl, _⟩ := h;rfl
 obtain ⟨v, st, x, r, sd, rfl, ru, ek, ok, x0, x1, vs, rd, q⟩ := h;refine ⟨tSq (tIfS (tB (tIsN (tVr 1))) (tRet (tCl (spCsF K) [] E0 (tCn (tFld K (tVr 0) "coin") (tCn (tC (.int 0)) (tCn (tC (.int 1)) tNl))))) tNext) (tOneS n1 (oSub (tC (.int 1)) (tVr 1)) (tC .non)),
  psc (ps_if (pt_cmp (pc_isN (pv 1))) (pss_one (prt (pec A1.G hr rfl A1.m A1.kp A1.b .nil pass0 (pac (pef (pv 0) rfl) (pac pei (pac pei pan)))))) psn)
  (pss_one (prt (pe_lst (pac (pe_tup (pac (pe_op op_sub pei (pv 1)) (pac (pe_glob (v := .ref n1) rfl mA rfl) (pac pe_non pan)))) pan)))), ?_⟩
 cases r with
 | split _ _ => cases ek
 | coins _ _ _ _ => cases ek
 | pairs n a b =>
  obtain ⟨h1, h2, h3⟩ := ok;obtain ⟨x', y', ea, eb, k1, k2, k3, kg⟩ := coin_parts h3;subst ea eb;have late : ∀ h : Int, sd = .int h -> st = .int h := fun h e => by subst e; cases rd; rfl
  rcases vs with ⟨p, rfl⟩ | ⟨p, hh⟩
  ·cases rd;obtain ⟨o, dx, fs, rfl, ho, _, _, _, _, _, c, ec, rc⟩ := Ob.ex ru;cases rc with
   | tup hc ra =>
    cases ra with
    | cons r1 ra =>
     cases r1;cases ra with
     | cons r2 ra =>
      cases r2;cases ra;refine ⟨_, rfl, _, rfl, itT ⟨_, rfl, o, C 1, dx, fs, _, rfl, ho, Z.cls 1 (by decide), Z.no 1 (by decide) "coin" (by decide +kernel), ec, ?_⟩⟩
      refine ⟨_, .int 0, .int 1, x', y', .int 0, .int 1, rfl, SqT.of hc, k2, k3, .int _, .int _, fun l H' xe sl => q l H' xe ⟨sl.1, ?_⟩⟩;have e1 : ((y' : Int) - (x' : Int)).toNat = y' - x' := by omega
      show StL K H' l [⟨0, ((y' : Int) - (x' : Int)).toNat, (y' : Int).toNat, .int 0⟩, ⟨1, (x' : Int).toNat, (y' : Int).toNat, .int 1⟩];rw [e1, Int.toNat_natCast, Int.toNat_natCast];exact sl.2
  ·obtain ⟨h, e⟩ : ∃ h : Int, sd = .int h := by rcases hh with e | e <;> exact ⟨_, e⟩
   have e' := late h e;subst e e';refine ⟨_, rfl, _, rfl, itF ?_⟩;show tOneS n1 (oSub (tC (.int 1)) (tVr 1)) (tC .non) _ _ _;exact rd_oneS (h := 1 - h) (nv := .non) (nd := .none) tA (fun R r => ⟨_, rfl, _, _, rfl, rfl, r⟩) (fun R r => r) (fun H' => .non) fun l H' xe sl => q l H' xe sl
abbrev sCoS : Stmt := inClass (top 33) 1
theorem scCoS : FnScope ["self", "state", "at"] ["self", "state", "at"] (defScope sCoS) := mkSc
theorem ok_cos (Z : KR K C CR) (F : Fun K "steps" "Coins.steps" sCoS f fd) (A1 : Df P w K mg base CX0 4 "coin_steps" ["coin", "zero", "one"] (spCsF K) a1 d1) (mA : mg "ALL" = some (.ref n1)) (tA : TupK K n1 [.int (1 : Nat), .int (1 : Nat)]) : FnOk P w K mg base CX0 5 f fd ["self", "state", "at"] (spS0 K C 2) := by
 refine F.ok scCoS (fun vs H Q E h => ?_) (fun cdv A outer s H vs Q E hr h => ?_)
 ·obtain ⟨v, st, x, r, sd, rfl, _⟩ := h;rfl
 obtain ⟨v, st, x, r, sd, rfl, ru, ek, ok, x0, x1, vs, rd, q⟩ := h;refine ⟨tSq (tIfS (tB (tOp (rI0 fun i j => .bl (decide (j <= i))) (tVr 1) (tFld K (tVr 0) "far"))) (tOneS n1 (tC (.int 0)) (oSub (tVr 1) (tC (.int 1)))) tNext)
   (tSq (tIfS (tB (tOp (rI0 fun i j => .bl (decide (i <= j))) (tVr 1) (tUn (rU fun i => .int (-i)) (tFld K (tVr 0) "far")))) (tOneS n1 (tC (.int 1)) (tOp (rI0 fun i j => .int (i + j)) (tVr 1) (tC (.int 1)))) tNext)
   (tRet (tCl (spCsF K) [] E0 (tCn (tFld K (tVr 0) "coin") (tCn (oSub (tVr 1) (tC (.int 1))) (tCn (tOp (rI0 fun i j => .int (i + j)) (tVr 1) (tC (.int 1))) tNl)))))),
  psc (ps_if (pt_cmpR op_ge (pv 1) (pef (pv 0) rfl) (nomark _)) (pss_one (prt (pe_lst (pac (pe_tup (pac pei (pac (pe_glob (v := .ref n1) rfl mA rfl) (pac (pe_op op_sub (pv 1) pei) pan)))) pan)))) psn)
  (psc (ps_if (pt_cmpR op_le (pv 1) (pe_un un_neg (pef (pv 0) rfl)) (nomark _)) (pss_one (prt (pe_lst (pac (pe_tup (pac pei (pac (pe_glob (v := .ref n1) rfl mA rfl) (pac (pe_op op_add (pv 1) pei) pan)))) pan)))) psn)
  (pss_one (prt (pec A1.G hr rfl A1.m A1.kp A1.b .nil pass0 (pac (pef (pv 0) rfl) (pac (pe_op op_sub (pv 1) pei) (pac (pe_op op_add (pv 1) pei) pan))))))), ?_⟩
 cases r with
 | split _ _ => cases ek
 | pairs _ _ _ => cases ek
 | coins n a b g =>
  obtain ⟨h1, h2, h3, h4, h5⟩ := ok;obtain ⟨x', y', ea, eb, k1, k2, k3, kg⟩ := coin_parts h3;subst ea eb;obtain ⟨s, rfl, s0, s1⟩ := vs;cases rd;obtain ⟨o, dx, fs, rfl, ho, _, _, _, _, _, ⟨c, ec, rc⟩, ef⟩ := Ob.ex ru;have fld : ∀ {R : VK} {fn : Str} {y : V}, fn ∈ fNames -> fs.lookup fn = some y -> R y H -> tFld K (tVr 0) fn [some (.ref o), some (.int s), some (.int x)] H R := fun hf e r => ⟨_, rfl, o, C 2, dx, fs, _, rfl, ho, Z.cls 2 (by decide), Z.no 2 (by decide) _ hf, e, r⟩
  refine ⟨_, rfl, fld (by decide +kernel) ef ⟨_, _, rfl, rfl, _, rfl, ite2 (fun c => ?_) (fun c => ?_)⟩⟩
  ·have c' : g <= s := of_decide_eq_true c;refine rd_oneS (h := 0) (nv := .int (s - 1)) (nd := .int (s - 1)) tA (fun R r => r) (fun R r => ⟨_, rfl, _, _, rfl, rfl, r⟩) (fun H' => .int _) fun l H' xe sl => q l H' xe ⟨sl.1, ?_⟩;simp only [R0.steps];rw [if_pos c'];exact sl.2
  ·have c' : ¬ g <= s := fun z => c (decide_eq_true z);refine ⟨_, rfl, fld (by decide +kernel) ef ⟨_, rfl, _, _, rfl, rfl, _, rfl, ite2 (fun d => ?_) (fun d => ?_)⟩⟩
   ·have d' : s <= -g := of_decide_eq_true d;refine rd_oneS (h := 1) (nv := .int (s + 1)) (nd := .int (s + 1)) tA (fun R r => r) (fun R r => ⟨_, rfl, _, _, rfl, rfl, r⟩) (fun H' => .int _) fun l H' xe sl => q l H' xe ⟨sl.1, ?_⟩;simp only [R0.steps];rw [if_neg c', if_pos d'];exact sl.2
   ·have d' : ¬ s <= -g := fun z => d (decide_eq_true z);cases rc with
    | tup hc ra =>
     cases ra with
     | cons r1 ra =>
      cases r1;cases ra with
      | cons r2 ra =>
       cases r2;cases ra;refine ⟨_, rfl, o, C 2, dx, fs, _, rfl, ho, Z.cls 2 (by decide), Z.no 2 (by decide) "coin" (by decide +kernel), ec, _, rfl, _, _, rfl, rfl, _, rfl, _, _, rfl, rfl, ?_⟩
       refine ⟨_, .int (s - 1), .int (s + 1), x', y', .int (s - 1), .int (s + 1), rfl, SqT.of hc, k2, k3, .int _, .int _, fun l H' xe sl => q l H' xe ⟨sl.1, ?_⟩⟩;have e1 : ((y' : Int) - (x' : Int)).toNat = y' - x' := by omega
       simp only [R0.steps];rw [if_neg c', if_neg d', e1, Int.toNat_natCast, Int.toNat_natCast];exact sl.2
end
theorem KR.inj {K : Frag} {C : Nat -> Addr} {CR : Addr} (Z : KR K C CR) {i j : Nat} (hi : i < 5) (hj : j < 5) (e : C i = C j) : i = j := by
 have h1 := Z.kk i j hi hj;have h2 := Z.kk j j hj hj;rw [e, h2] at h1;have := Option.some.inj h1;rw [beq_self_eq_true] at this;exact beq_iff_eq.mp this.symm
theorem secs_get : ∀ {ns : List Int} {s n : Int} {i : Nat}, ns[i]? = some n -> (secs s ns)[i]? = some (upI (s + (ns.take i).sum) n.toNat)
 | [], _, _, i, h => by simp at h
 | m :: ms, s, n, 0, h => by
  cases h;simp [secs]
 | m :: ms, s, n, i + 1, h => by
  have := secs_get (ns := ms) (s := s + m) (n := n) (i := i) h;simp only [secs, List.getElem?_cons_succ, List.take_succ_cons, List.sum_cons];rw [this, Int.add_assoc]
theorem part_get {rs : List R0} {i : Nat} {r : R0} (h : rs[i]? = some r) : (Rl.blocks rs).parts[i]? = some (upI (startB rs i) r.folk.toNat) := by
 have e : (rs.map R0.folk)[i]? = some r.folk := by rw [List.getElem?_map, h]; rfl
 have := secs_get (s := 0) e;show (secs 0 (rs.map R0.folk))[i]? = _;rw [this, Int.zero_add, <- List.map_take];rfl
theorem upI_last (lo : Int) (n : Nat) : upI lo (n + 1) = upI lo n ++ [lo + n] := by
 unfold upI;rw [List.range_succ, List.map_append];rfl
theorem upI_head (lo : Int) (n : Nat) : (upI lo (n + 1))[0]? = some lo := by
 unfold upI;rw [List.getElem?_map, List.getElem?_range (by omega)]
 simp
theorem RdsAll.at {H : Hp} : ∀ {xs : List V} {ds : List PyData}, RdsAll H xs ds -> ∀ {i : Nat} {d : PyData}, ds[i]? = some d -> ∃ x, xs[i]? = some x /\ Rds H x d
 | _, _, .nil, i, d, h => by simp at h
 | _, _, .cons a b, 0, d, h => by cases h; exact ⟨_, rfl, a⟩
 | _, _, .cons a b, i + 1, d, h => RdsAll.at b h
section
variable {P : Program} {w : World} {K : Frag} {mg : Str -> Option Value} {base : Heap} {C : Nat -> Addr} {CR f a1 n1 : Addr} {fd d1 : FuncData}
theorem part_of {H : Hp} {p : V} {rs : List R0} {i : Nat} {r : R0} (h : Rds H p (partsD (Rl.blocks rs).parts)) (e : rs[i]? = some r) : ∃ a ws b, p = .ref a /\ H a = some (.tup ws) /\ ws[i]? = some (.ref b) /\ H b = some (.tup ((upI (startB rs i) r.folk.toNat).map V.int)) := by
 unfold partsD at h;cases h with
 | tup ha ra =>
  have e' : ((Rl.blocks rs).parts.map tupD)[i]? = some (tupD (upI (startB rs i) r.folk.toNat)) := by rw [List.getElem?_map, part_get e]; rfl
  obtain ⟨x, hx, rx⟩ := RdsAll.at ra e';unfold tupD at rx;cases rx with
  | tup hb rb =>
   rw [ints_of rb] at hb;exact ⟨_, _, _, rfl, ha, hx, hb⟩
abbrev sSB : Stmt := inClass (top 36) 2
def spSB (C : Nat -> Addr) : Sp := fun vs H Q _ => ∃ (o : Addr) (n : Nat) (x : Int) (nv : V) (nd : PyData) (rs : List R0) (r : R0), vs = [.ref o, .int (n : Nat), .int x, nv] /\ RuB C H rs (.ref o) /\ rs[n]? = some r /\ r.ok /\ Rds H nv nd /\ ∀ m H', Ext H H' -> Rds H' (.ref m) (nextB rs n x nd) -> Q (.ref m) H'
theorem scSB : FnScope ["self", "number", "at", "inner"] ["self", "number", "at", "inner"] (defScope sSB) := mkSc
theorem ok_sb (Z : KR K C CR) (F : Fun K "state_behind" "Blocks.state_behind" sSB f fd) (MA : MethS P w K mg base CX0 2 "state_ahead" ["self", "number"] (fun c => c = C 3) (fun _ => spSA C)) : FnOk P w K mg base CX0 3 f fd ["self", "number", "at", "inner"] (spSB C) := by
 refine F.ok scSB (fun vs H Q E h => ?_) (fun cdv A outer s H vs Q E hr h => ?_)
 ·obtain ⟨_, _, _, _, _, _, _, rfl, _⟩ := h;rfl
 obtain ⟨o, n, x, nv, nd, rs, r, rfl, ru, er, ok, rn, q⟩ := h;refine ⟨_, psc (ps_if (pt_cmpR op_eq (pv 2) (pxr ixt (pxr ixt (pef (pv 0) rfl) (pv 1)) (pe_un un_neg pei)) (nomark _)) (pss_one (prt (pe_methD (pv 0) MA hr pass0 (pac (pe_op op_add (pv 1) pei) pan)))) psn)
  (pss_one (prt (pe_tup (pac (pv 1) (pac (pv 3) pan))))), ?_⟩
 obtain ⟨o', dx, fs, e0, ho, _, _, _, ⟨p, hp, rp⟩, hm, l, ws, hl, hw, al⟩ := ru.ex;cases e0;obtain ⟨a, us, b, rfl, ha, hb, hu⟩ := part_of rp er;have fk := R0.folk_ok ok;obtain ⟨m, em⟩ : ∃ m, r.folk.toNat = m + 1 := ⟨r.folk.toNat - 1, by omega⟩
 rw [em, upI_last, List.map_append] at hu;refine ⟨_, rfl, _, rfl, o, C 3, dx, fs, _, rfl, ho, Z.cls 3 (by decide), Z.no 3 (by decide) "parts" (by decide +kernel), hp, _, rfl, a, us, _, _, rfl, rfl, SqT.of ha, atN hb, 1, rfl, b, _, -1, _, rfl, rfl, SqT.of hu, atI_last _ _, rfl, _, rfl, ?_⟩
 have ss := start_succ er;refine ite2 (fun c => ?_) (fun c => ?_)
 ·have c' : x = startB rs n + (m : Int) := V.int.inj (of_decide_eq_true c);have hn : n < rs.length := (List.getElem?_eq_some_iff.mp er).1;refine ⟨_, rfl, o, C 3, dx, fs, rfl, rfl, ho, hm _ (by decide +kernel), _, rfl, _, _, rfl, rfl, o, n + 1, dx, fs, l, ws, rs, rfl, ho, hl, hw, al, by omega, fun k H' x' rk => q k H' x' ?_⟩
  unfold nextB;rw [if_pos (by omega)]
  exact rk
 ·have c' : ¬ x = startB rs n + (m : Int) := fun z => c (decide_eq_true (by rw [z]))
  refine ⟨_, rfl, _, rfl, by show 2 <= sizeLine; decide, fun k hk => q k _ (Ext.new hk) ?_⟩
  unfold nextB;rw [if_neg (by omega)]
  exact .tup uds (.cons (.int _) (.cons (rn.mono (Ext.new hk)) .nil))
def spStp (K : Frag) (C : Nat -> Addr) (c : Addr) : Sp := fun vs H Q _ => ∃ (v st : V) (x : Int) (t : Rl) (sd : PyData), vs = [v, st, .int x] /\ Ru C H t v /\ C t.kind = c /\ t.ok /\ 0 <= x /\ x < t.folk /\ t.vst x sd /\ Rds H st sd /\ ∀ l H', Ext H H' -> StF K H H' l (t.steps sd x) -> Q (.ref l) H'
theorem imp_s0 (Z : KR K C CR) {i : Nat} (hi : i < 3) {k : Nat} (F : FnOk P w K mg base CX0 k f fd ["self", "state", "at"] (spS0 K C i)) : FnOk P w K mg base CX0 k f fd ["self", "state", "at"] (spStp K C (C i)) := by
 refine F.imp fun vs H Q E h => ?_;obtain ⟨v, st, x, t, sd, rfl, ru, ec, ok, x0, x1, vs, rd, q⟩ := h;have ek := Z.inj t.kind_lt (by omega) ec
 cases t with
 | one r => exact ⟨v, st, x, r, sd, rfl, ru, ek, ok, x0, x1, vs, rd, q⟩
 | blocks rs => have : 3 = i := ek; omega
 | first t m => have : 4 = i := ek; omega
theorem rd_methS {m : Str} {S : Addr -> Prop} {sp : Addr -> Sp} {E : XK} {ta : TE} {tg : TA} {σ : St} {H : Hp} {Q : VK} {t : Rl} {v : V} (hm : m ∈ mNames) (h : Ru C H t v) (hS : S (C t.kind)) (ht : ∀ R : VK, R v H -> ta σ H R) (q : tg σ H fun vs H2 => sp (C t.kind) (v :: vs) H2 Q E) : tMethD S m sp E ta tg σ H Q := by
 obtain ⟨a, dx, fs, rfl, ha, _, _, _, _, h5, _⟩ := h.ob.ex;exact ht _ ⟨a, C t.kind, dx, fs, rfl, hS, ha, h5 m hm, q⟩
abbrev sRow : Stmt := top 39
def Below (xs ss : List Int) : Prop := ∀ (i : Nat) x s, xs[i]? = some x -> ss[i]? = some s -> 0 <= x /\ x < s
def spRow (K : Frag) : Sp := fun vs H Q _ => ∃ (c : Int) (p : Addr) (ss : List Int), vs = [.int c, .ref p] /\ SqL K H p (ss.map V.int) /\ (∀ s ∈ ss, 0 < s /\ s <= 10 ^ 20) /\ ss.length <= 63 /\
 ∀ l xs H', Ext H H' -> H l = none -> H' l = some (.lst (xs.map V.int)) -> xs.length = ss.length -> Below xs ss -> Q (.ref l) H'
abbrev NRw : List Str := ["_law_cell", "_law_sizes", "_law_found", "_law_left", "_law_number", "_law_k", "_law_other"]
theorem scRw : FnScope NRw ["_law_cell", "_law_sizes"] (defScope sRow) := mkSc
def tApp (K : Frag) (te : TE) : TS := tDrop (tBM K "list" rAppend (tVr 2) (tCn te tNl))
abbrev oMd (a b : TE) : TE := tOp (rI (fun _ j => 0 < j) fun i j => .int (i % j)) a b
abbrev oMu (a b : TE) : TE := tOp (rI CMul fun i j => .int (i * j)) a b
abbrev oAd (a b : TE) : TE := tOp (rI0 fun i j => .int (i + j)) a b
def tSz (K : Frag) : TE := tOp (rIxL K) (tVr 1) (tVr 5)
def tR1 (K : Frag) : TS := tSq (tApp K (oMd (tVr 3) (tSz K))) (tAg (tOp (rI GDiv fun i j => .int (i / j)) (tVr 3) (tSz K)) (gNm 3))
def tR2 (K : Frag) : TS := tSq (tAg (oMd (oAd (oAd (oMu (tVr 4) (tC (.int 48271))) (oMu (tC (.int 7919)) (tVr 5))) (tC (.int 12345))) (tC (.int 2147483647))) (gNm 4))
 (tSq (tAg (oMd (oAd (oAd (oMu (tVr 4) (tVr 4)) (oMu (tC (.int 69621)) (tVr 5))) (tC (.int 271))) (tC (.int 2147483629))) (gNm 6)) (tApp K (oMd (tVr 6) (tSz K))))
def tRT (K : Frag) : TS := tIfS (tB (tOp (rI0 fun i j => .bl (decide (j <= i))) (tVr 3) (tC (.int 0)))) (tR1 K) (tR2 K)
theorem row_der {f : Addr} {cdv : Value} {A : Around} {outer : List Env} {s : Shared} {H : Hp} {E : XK} (mr : mg "range" = none) (ml : mg "len" = none) : PSs (cxOf CX0 P w K mg base NRw "_law_row" (defScope sRow) f cdv A outer s H E).nox (defBody sRow)
  (tSq (tAg (tLst tNl) (gNm 2)) (tSq (tAg (tOp (rI0 fun i j => .int (i - j)) (tVr 0) (tOp (rI CPow fun i j => .int (i ^ j.toNat)) (tC (.int 10)) (tC (.int 18)))) (gNm 3)) (tSq (tAg (oMd (tVr 0) (tC (.int 2147483647))) (gNm 4))
   (tSq (tFor (iRng1 (tCn (tCB (fun xs H Q => ∃ p ys, xs = [.ref p] /\ (SqL K H p ys \/ SqT K H p ys) /\ Q (.int ys.length) H) (tCn (tVr 1) tNl)) tNl)) (gNm 5) (tRT K)) (tRet (tVr 2)))))) := by
 have nd := scRw.nd;exact psc (pst (i := 2) nd rfl (Or.inl rfl) (pe_lst pan))
  (psc (pst (i := 3) nd rfl (Or.inl rfl) (pe_op op_sub (pv 0) (pe_op op_pow pei pei)))
  (psc (pst (i := 4) nd rfl (Or.inl rfl) (pe_op op_mod (pv 0) pei))
  (psc (ps_for PassesOwn.never rfl (pi_range1 rfl mr (pac (pe_callB call_len_seq rfl ml PySem.boot_len (pac (pv 1) pan)) pan)) (pgn (i := 5) nd rfl (Or.inl rfl))
   (pss_one (ps_if (pt_cmpR op_ge (pv 3) pei (nomark _))
    (psc (ps_expr (pe_bm PySem.F.plainAttrs_list PySem.F.slot_list_append PySem.F.type_list_append mt_append (pv 2) (pac (pe_op op_mod (pv 3) (pxr ixl (pv 1) (pv 5))) pan)))
     (pss_one (pst (i := 3) nd rfl (Or.inl rfl) (pe_op op_gdiv (pv 3) (pxr ixl (pv 1) (pv 5))))))
    (psc (pst (i := 4) nd rfl (Or.inl rfl) (pe_op op_mod (pe_op op_add (pe_op op_add (pe_op op_mul (pv 4) pei) (pe_op op_mul pei (pv 5))) pei) pei))
     (psc (pst (i := 6) nd rfl (Or.inl rfl) (pe_op op_mod (pe_op op_add (pe_op op_add (pe_op op_mul (pv 4) (pv 4)) (pe_op op_mul pei (pv 5))) pei) pei))
     (pss_one (ps_expr (pe_bm PySem.F.plainAttrs_list PySem.F.slot_list_append PySem.F.type_list_append mt_append (pv 2) (pac (pe_op op_mod (pv 6) (pxr ixl (pv 1) (pv 5))) pan)))))))))
  (pss_one (prt (pv 2))))))
theorem rd_app {D : Ends} {σ : St} {H : Hp} {te : TE} {l : Addr} {ys : List V} {v : V} (h2 : σ[2]? = some (some (.ref l))) (hl : H l = some (.lst ys)) (len : ys.length < sizeLine) (ht : ∀ Q : VK, Q v H -> te σ H Q) (nx : D.nx σ (upd H l (.lst (ys ++ [v])))) : tApp K te D σ H :=
 ⟨_, h2, .inl ⟨rfl, _, SqL.of hl⟩, ht _ ⟨l, _, _, rfl, rfl, hl, len, nx⟩⟩
theorem below_app {xs ss : List Int} {x s : Int} (h : Below xs ss) (hs : ss[xs.length]? = some s) (h0 : 0 <= x) (h1 : x < s) : Below (xs ++ [x]) ss := by
 intro i y t hy ht;rcases Nat.lt_or_ge i xs.length with lt | ge
 ·rw [List.getElem?_append_left lt] at hy;exact h i y t hy ht
 ·rw [List.getElem?_append_right ge] at hy;have i0 : i = xs.length := by
   rcases Nat.lt_or_ge (i - xs.length) 1 with z | z
   ·omega
   ·rw [List.getElem?_eq_none (by simpa using z)] at hy; cases hy
  subst i0;rw [Nat.sub_self] at hy;cases hy;rw [hs] at ht;cases ht;exact ⟨h0, h1⟩
theorem log20 {s : Int} (h0 : 0 < s) (h : s <= 10 ^ 20) : s.natAbs.log2 < 9000 := by
 have z : s.natAbs ≠ 0 := by omega
 refine (Nat.log2_lt z).mpr ?_;have : s.natAbs <= 10 ^ 20 := by omega
 exact Nat.lt_of_le_of_lt this (Nat.lt_of_lt_of_le (by decide : 10 ^ 20 < 2 ^ 67) (Nat.pow_le_pow_right (by decide) (by decide)))
theorem rd_rT {D : Ends} {H0 H : Hp} {p l : Addr} {ss xs : List Int} {c lf nb : Int} {o6 : Option V} {s : Int} {i : Nat} (hp0 : SqL K H0 p (ss.map V.int)) (x0 : Ext H0 H) (h0l : H0 l = none) (hl : H l = some (.lst (xs.map V.int))) (ei : xs.length = i) (hs : ss[i]? = some s) (s0 : 0 < s) (s1 : s <= 10 ^ 20) (i63 : i < 63) (n0 : 0 <= nb) (n1 : nb < 2147483647) (bl : Below xs ss)
  (nx : ∀ x lf nb o6, 0 <= nb -> nb < 2147483647 -> Below (xs ++ [x]) ss -> D.nx [some (.int c), some (.ref p), some (.ref l), some (.int lf), some (.int nb), some (.int (0 + (i : Int))), o6] (upd H l (.lst ((xs ++ [x]).map V.int)))) :
  tRT K D [some (.int c), some (.ref p), some (.ref l), some (.int lf), some (.int nb), some (.int (0 + (i : Int))), o6] H := by
 have hp := My.SqL.ext hp0 x0;have at_ : atI (ss.map V.int) (0 + (i : Int)) = some (.int s) := by
  rw [Int.zero_add];exact atN (by rw [List.getElem?_map, hs]; rfl)
 have len : (xs.map V.int).length < sizeLine := by rw [List.length_map, ei]; exact Nat.lt_trans i63 (by decide)
 have mp : ∀ x : Int, xs.map V.int ++ [V.int x] = (xs ++ [x]).map V.int := fun x => by rw [List.map_append]; rfl
 have hs' : ss[xs.length]? = some s := by rw [ei]; exact hs
 refine ⟨_, rfl, _, _, rfl, rfl, _, rfl, ?_⟩;refine ite2 (fun c => ?_) (fun c => ?_)
 ·refine rd_app (v := .int (lf % s)) rfl hl len (fun Q q => ⟨_, rfl, _, rfl, _, rfl, p, _, _, _, rfl, rfl, hp, at_, _, _, rfl, rfl, s0, q⟩) ?_;rw [mp];refine ⟨_, rfl, _, rfl, _, rfl, p, _, _, _, rfl, rfl, My.SqL.ext hp0 (ext_upd _ x0 h0l), at_, _, _, rfl, rfl, ⟨s0, log20 s0 s1⟩, ?_⟩;exact nx _ _ _ _ n0 n1 (below_app bl hs' (Int.emod_nonneg _ (by omega)) (Int.emod_lt_of_pos _ s0))
 ·have i0 : (0 : Int) <= 0 + (i : Int) := by omega
  have i1 : (0 : Int) + (i : Int) < 63 := by omega
  generalize hk : (0 : Int) + (i : Int) = k at i0 i1 at_ nx ⊢;refine ⟨_, rfl, _, _, rfl, rfl, .inl ⟨by omega, by omega⟩, _, rfl, _, _, rfl, rfl, .inl ⟨by decide, by decide⟩, _, _, rfl, rfl, _, _, rfl, rfl, _, _, rfl, rfl, (by show (0 : Int) < 2147483647; decide), ?_⟩
  have a0 : 0 <= (nb * 48271 + 7919 * k + 12345) % 2147483647 := Int.emod_nonneg _ (by decide)
  have a1 : (nb * 48271 + 7919 * k + 12345) % 2147483647 < 2147483647 := Int.emod_lt_of_pos _ (by decide)
  have c2 : CMul ((nb * 48271 + 7919 * k + 12345) % 2147483647) ((nb * 48271 + 7919 * k + 12345) % 2147483647) := .inl ⟨Int.lt_of_lt_of_le (by decide) a0, Int.lt_trans a1 (by decide)⟩
  refine ⟨_, rfl, _, rfl, _, _, rfl, rfl, c2, _, rfl, _, _, rfl, rfl, .inl ⟨by decide, by decide⟩, _, _, rfl, rfl, _, _, rfl, rfl, _, _, rfl, rfl, (by show (0 : Int) < 2147483629; decide), ?_⟩
  refine rd_app rfl hl len (fun Q q => ⟨_, rfl, _, rfl, _, rfl, p, _, _, _, rfl, rfl, hp, at_, _, _, rfl, rfl, s0, q⟩) ?_;show D.nx _ (upd H l (.lst (xs.map V.int ++ [V.int _])));rw [mp];exact nx _ _ _ _ a0 a1 (below_app bl hs' (Int.emod_nonneg _ (by omega)) (Int.emod_lt_of_pos _ s0))
theorem ok_row {f : Addr} {fd : FuncData} (F : Fun K "_law_row" "_law_row" sRow f fd) (mr : mg "range" = none) (ml : mg "len" = none) : FnOk P w K mg base CX0 1 f fd ["_law_cell", "_law_sizes"] (spRow K) := by
 refine F.ok scRw (fun vs H Q E h => ?_) (fun cdv A outer s H vs Q E hr h => ?_)
 ·obtain ⟨c, p, ss, rfl, _⟩ := h;rfl
 obtain ⟨c, p, ss, rfl, hp, hs, l63, q⟩ := h;refine ⟨_, row_der mr ml, ?_⟩;refine ⟨by show 0 <= sizeLine; decide, fun l hl => ?_⟩
 have x1 := Ext.new (o := .lst []) hl;have f1 : upd H l (.lst []) l = some (.lst []) := uds;generalize upd H l (.lst []) = H1 at x1 f1 ⊢;refine ⟨_, rfl, _, _, rfl, rfl, ⟨by decide, by decide, by decide⟩, _, _, rfl, rfl, _, rfl, _, _, rfl, rfl, (by show (0 : Int) < 2147483647; decide), ?_⟩
 have n0 : 0 <= c % 2147483647 := Int.emod_nonneg _ (by decide)
 have n1 : c % 2147483647 < 2147483647 := Int.emod_lt_of_pos _ (by decide)
 refine ⟨_, rfl, p, _, rfl, .inl (My.SqL.ext hp x1), _, rfl, by rw [List.length_map]; omega, by rw [List.length_map]; omega, ?_⟩
 refine for_range (n := (ss.map V.int).length) (fun i σ H' => ∃ xs : List Int, ∃ lf nb o5 o6, σ = [some (.int c), some (.ref p), some (.ref l), some (.int lf), some (.int nb), o5, o6] /\ 0 <= nb /\ nb < 2147483647 /\ xs.length = i /\ Below xs ss /\ Ext H H' /\ H' l = some (.lst (xs.map V.int))) ?_ ?_ ?_
 ·exact ⟨[], _, _, _, _, rfl, n0, n1, rfl, fun i x s h => by simp at h, x1, f1⟩
 ·rintro i σ H' hi ⟨xs, lf, nb, o5, o6, rfl, n0, n1, ei, bl, x, fl⟩;rw [List.length_map] at hi;have e := List.getElem?_eq_getElem hi;obtain ⟨s0, s1⟩ := hs _ (List.getElem_mem hi);refine rd_rT hp x hl fl ei e s0 s1 (by omega) n0 n1 bl fun y lf nb o6 m0 m1 bl' => ?_
  exact ⟨xs ++ [y], _, _, _, _, rfl, m0, m1, by rw [List.length_append, ei]; rfl, bl', ext_upd _ x hl, uds⟩
 ·rintro σ H' ⟨xs, lf, nb, o5, o6, rfl, n0, n1, ei, bl, x, fl⟩;rw [List.length_map] at ei;exact ⟨_, rfl, q l xs H' x hl fl ei bl⟩
abbrev sCom : Stmt := top 40
theorem scCo : FnScope ["_law_one_here", "_law_other"] ["_law_one_here", "_law_other"] (defScope sCom) := mkSc
theorem ok_com {f : Addr} {fd : FuncData} (F : Fun K "_law_common" "_law_common" sCom f fd) : FnOk P w K mg base CX0 1 f fd ["_law_one_here", "_law_other"] spGcd := by
 refine F.ok scCo (fun vs H Q E h => ?_) (fun cdv A outer s H vs Q E hr h => ?_)
 ·obtain ⟨c, lo, rfl, _⟩ := h;rfl
 obtain ⟨a, b, rfl, q⟩ := h;have nd := scCo.nd;refine ⟨_, psc (ps_while PassesOwn.never (pt_cmpR op_gt (pv 1) pei (nomark _)) (pss_one (ps_par (i := 0) (j := 1) rfl nd rfl rfl (by decide) rfl rfl (pac (pv 1) (pac (pe_op op_mod (pv 0) (pv 1)) pan)) rfl))) (pss_one (prt (pv 0))), ?_⟩
 refine while_by (fun σ H' => H' = H /\ ∃ x y : Nat, σ = [some (.int x), some (.int y)] /\ Nat.gcd x y = Nat.gcd a b) (fun σ _ => secN σ) ⟨rfl, a, b, rfl, rfl⟩ ?_ ?_
 ·rintro σ H' ⟨rfl, x, y, rfl, e⟩;refine ⟨_, rfl, _, _, rfl, rfl, _, rfl, ?_⟩;refine ite2 (fun c => ?_) (fun c => ?_)
  ·have c' : (0 : Int) < (y : Int) := of_decide_eq_true c;refine ⟨_, rfl, _, rfl, _, rfl, _, _, rfl, rfl, c', _, _, rfl, ⟨rfl, y, x % y, ?_, ?_⟩, ?_⟩
   ·show [some (V.int y), some (V.int ((x : Int) % (y : Int)))] = _;rw [show ((x : Int) % (y : Int)) = ((x % y : Nat) : Int) from by simp]
   ·rw [<- e, Nat.gcd_comm x y, Nat.gcd_rec y x, Nat.gcd_comm]
   ·show ((x : Int) % (y : Int)).toNat < (y : Int).toNat;have := Int.emod_lt_of_pos (x : Int) c';omega
  ·have c' : ¬ (0 : Int) < (y : Int) := fun z => c (decide_eq_true z);have y0 : y = 0 := by omega
   subst y0;rw [Nat.gcd_zero_right] at e;refine ⟨_, rfl, ?_⟩;rw [e];exact q
 ·rintro σ H Q Q' m ⟨x, e, i, j, h1, h2, b, hb, q⟩;exact ⟨x, e, i, j, h1, h2, b, hb, m _ _ q⟩
abbrev sLow : Stmt := top 41
def spLow : Sp := fun vs H Q _ => ∃ a b : Nat, vs = [.int a, .int b] /\ 1 <= b /\ b < 10 ^ 1000 /\ ∀ p, H p = none -> Q (.ref p) (upd H p (.tup [.int (a / Nat.gcd a b : Nat), .int (b / Nat.gcd a b : Nat)]))
theorem scLo : FnScope ["_law_top", "_law_bottom", "_law_by"] ["_law_top", "_law_bottom"] (defScope sLow) := mkSc
theorem log_lt {n : Nat} (h : n < 10 ^ 1000) : ((n : Nat) : Int).natAbs.log2 < 9000 := by
 rw [Int.natAbs_natCast];rcases Nat.eq_zero_or_pos n with z | z
 ·subst z; decide
 ·refine (Nat.log2_lt (by omega)).mpr (Nat.lt_of_lt_of_le h ?_)
  calc (10 : Nat) ^ 1000 <= (2 ^ 4) ^ 1000 := Nat.pow_le_pow_left (by decide) 1000
   _ = 2 ^ 4000 := by rw [<- Nat.pow_mul]
   _ <= 2 ^ 9000 := Nat.pow_le_pow_right (by decide) (by decide)
theorem ok_low {f g : Addr} {fd gd : FuncData} (F : Fun K "_law_lowest" "_law_lowest" sLow f fd) (G : FnOk P w K mg base CX0 1 g gd ["_law_one_here", "_law_other"] spGcd) (bG : Binds K gd ["_law_one_here", "_law_other"] []) (kG : PySem.W.keepIn K (.ref g) = true) (mG : mg "_law_common" = some (.ref g)) :
  FnOk P w K mg base CX0 2 f fd ["_law_top", "_law_bottom"] spLow := by
 refine F.ok scLo (fun vs H Q E h => ?_) (fun cdv A outer s H vs Q E hr h => ?_)
 ·obtain ⟨c, lo, rfl, _⟩ := h;rfl
 obtain ⟨a, b, rfl, h1, hb, q⟩ := h;have nd := scLo.nd;refine ⟨_, psc (pst (i := 2) nd rfl (Or.inl rfl) (pec G hr rfl mG kG bG .nil pass0 (pac (pv 0) (pac (pv 1) pan))))
  (pss_one (prt (pe_tup (pac (pe_op op_gdiv (pv 0) (pv 2)) (pac (pe_op op_gdiv (pv 1) (pv 2)) pan))))), ?_⟩
 have g0 : 0 < Nat.gcd a b := Nat.gcd_pos_of_pos_right a h1;have gle : Nat.gcd a b <= b := Nat.le_of_dvd h1 (Nat.gcd_dvd_right a b);have gi : (0 : Int) < ((Nat.gcd a b : Nat) : Int) := by omega
 have gl := log_lt (Nat.lt_of_le_of_lt gle hb);refine ⟨_, rfl, _, rfl, a, b, rfl, ?_⟩;refine ⟨_, rfl, _, rfl, _, _, rfl, rfl, ⟨gi, gl⟩, _, rfl, _, rfl, _, _, rfl, rfl, ⟨gi, gl⟩, by show 2 <= sizeLine; decide, fun p hp => ?_⟩
 have e1 : ((a : Int) / ((Nat.gcd a b : Nat) : Int)) = ((a / Nat.gcd a b : Nat) : Int) := by simp
 have e2 : ((b : Int) / ((Nat.gcd a b : Nat) : Int)) = ((b / Nat.gcd a b : Nat) : Int) := by simp
 show Q (.ref p) (upd H p (.tup [.int ((a : Int) / ((Nat.gcd a b : Nat) : Int)), .int ((b : Int) / ((Nat.gcd a b : Nat) : Int))]));rw [e1, e2];exact q p hp
theorem low_of {a b : Nat} (h1 : 1 <= b) (hab : a <= b) : Low (a / Nat.gcd a b) (b / Nat.gcd a b) := by
 have g0 : 0 < Nat.gcd a b := Nat.gcd_pos_of_pos_right a h1;have gle : Nat.gcd a b <= b := Nat.le_of_dvd h1 (Nat.gcd_dvd_right a b);refine ⟨(Nat.le_div_iff_mul_le g0).mpr (by omega), Nat.div_le_div_right hab, ?_⟩
 rw [Nat.gcd_div (Nat.gcd_dvd_left a b) (Nat.gcd_dvd_right a b)]; exact Nat.div_self g0
end
theorem cut_from (xs : List V) (k : Nat) : cutV xs (some (k : Int)) none = xs.drop k := by
 unfold cutV;rw [HT.sIx_nat, HT.sIx_none];rcases Nat.lt_or_ge k xs.length with h | h
 ·rw [Nat.min_eq_left (by omega), List.take_of_length_le (by rw [List.length_drop]; exact Nat.le_refl _)]
 ·rw [Nat.min_eq_right h, List.drop_eq_nil_of_le h, List.drop_eq_nil_of_le (Nat.le_refl _), List.take_nil]
structure Nx (H : Hp) (p : Addr) (ns : List Int) (k : Nat) : Prop where
 at_ : H p = some (.lst (ns.map V.int))
 len : k <= ns.length
 nn : ∀ n ∈ ns, 0 <= n
theorem Nx.ext {H H' : Hp} {p : Addr} {ns : List Int} {k : Nat} (h : Nx H p ns k) (x : Ext H H') : Nx H' p ns k := ⟨x _ _ h.at_, h.len, h.nn⟩
theorem Nx.get {H : Hp} {p : Addr} {ns : List Int} {k : Nat} (h : Nx H p ns k) {i : Nat} (hi : i < k) : ∃ n, ns[i]? = some n /\ 0 <= n := by
 have l : i < ns.length := Nat.lt_of_lt_of_le hi h.len;exact ⟨_, List.getElem?_eq_getElem l, h.nn _ (List.getElem_mem l)⟩
theorem Nx.drop {H : Hp} {p : Addr} {ns : List Int} {k j : Nat} (l : 0 <= 0) (h : H p = some (.lst ((ns.drop j).map V.int))) (hk : k + j <= ns.length) (nn : ∀ n ∈ ns, 0 <= n) : Nx H p (ns.drop j) k :=
 ⟨h, by rw [List.length_drop]; omega, fun n hn => nn n (List.mem_of_mem_drop hn)⟩
def tXs (K : Frag) (i : Nat) (k : Int) : TE := tOp (rIxL K) (tVr i) (tC (.int k))
theorem rd_xs {K : Frag} {H : Hp} {σ : St} {i : Nat} {p : Addr} {ns : List Int} {n : Int} {Q : VK} (k : Nat) (si : σ[i]? = some (some (.ref p))) (hp : H p = some (.lst (ns.map V.int))) (hk : ns[k]? = some n) (q : Q (.int n) H) : tXs K i (k : Nat) σ H Q :=
 ⟨_, si, p, _, _, _, rfl, rfl, SqL.of hp, atN (by rw [List.getElem?_map, hk]; rfl), q⟩
def rInt1 : List V -> Hp -> VK -> Prop := fun xs H Q => (∃ i, xs = [.int i] /\ Q (.int i) H) \/ ∃ k, xs = [.bl k] /\ Q (.int (if k then 1 else 0)) H
section
variable {P : Program} {w : World} {K : Frag} {mg : Str -> Option Value} {base : Heap}
abbrev sCn : Stmt := top 42
theorem scCn : FnScope ["_law_xs", "_law_bottom"] ["_law_xs"] (defScope sCn) := mkSc
def spCn : Sp := fun vs H Q _ => ∃ (p : Addr) (ns : List Int), vs = [.ref p] /\ Nx H p ns 3 /\ ∀ t a b H', Ext H H' -> H' t = some (.tup [.int a, .int b]) -> coinD (.tuple [.int a, .int b]) = true -> Q (.ref t) H'
theorem coin_ok {a b : Nat} (h1 : 1 <= a) (h2 : a < b) (h3 : b <= 100) : coinD (.tuple [.int (a / Nat.gcd a b : Nat), .int (b / Nat.gcd a b : Nat)]) = true := by
 have lo := low_of (a := a) (b := b) (by omega) (by omega)
 have g0 : 0 < Nat.gcd a b := Nat.gcd_pos_of_pos_left b h1;have da := Nat.gcd_dvd_left a b;have db := Nat.gcd_dvd_right a b;have ea := Nat.div_mul_cancel da;have eb := Nat.div_mul_cancel db;have a1 : 1 <= a / Nat.gcd a b := (Nat.le_div_iff_mul_le g0).mpr (by rw [Nat.one_mul]; exact Nat.le_of_dvd h1 da)
 have b2 : 2 <= b / Nat.gcd a b := by
  rcases Nat.lt_or_ge (b / Nat.gcd a b) 2 with lt | ge
  ·exfalso;have hle := lo.2.1;have e1 : b / Nat.gcd a b = 1 := by have := lo.1; omega
   have e2 : a / Nat.gcd a b = 1 := by omega
   rw [e1] at eb;rw [e2] at ea;omega
  ·exact ge
 have b100 : b / Nat.gcd a b <= 100 := Nat.le_trans (Nat.div_le_self _ _) h3;show (((decide ((1 : Int) <= (b / Nat.gcd a b : Nat)) && (decide ((0 : Int) <= (a / Nat.gcd a b : Nat)) && decide (((a / Nat.gcd a b : Nat) : Int) <= (b / Nat.gcd a b : Nat)))) && decide (Nat.gcd ((a / Nat.gcd a b : Nat) : Int).toNat ((b / Nat.gcd a b : Nat) : Int).toNat = 1)) && (decide ((2 : Int) <= (b / Nat.gcd a b : Nat)) && decide (((b / Nat.gcd a b : Nat) : Int) <= 100))) = true;have h3' := lo.2.1;rw [decide_eq_true (by omega), decide_eq_true (by omega), decide_eq_true (by omega), Int.toNat_natCast, Int.toNat_natCast, decide_eq_true lo.2.2, decide_eq_true (by omega), decide_eq_true (by omega)]
 rfl
variable {f a1 a2 : Addr} {d1 d2 : FuncData}
theorem ok_cn {fd : FuncData} (F : Fun K "_law_coin" "_law_coin" sCn f fd) (A1 : Df P w K mg base CX0 2 "_law_lowest" ["_law_top", "_law_bottom"] spLow a1 d1) (mi : mg "int" = none) : FnOk P w K mg base CX0 3 f fd ["_law_xs"] spCn := by
 refine F.ok scCn (fun vs H Q E h => ?_) (fun cdv A outer s H vs Q E hr h => ?_)
 ·obtain ⟨_, _, rfl, _⟩ := h;rfl
 obtain ⟨p, ns, rfl, nx, q⟩ := h;have nd := scCn.nd;refine ⟨tSq (tAg (tOp (rI0 fun i j => .int (i + j)) (tC (.int 2)) (tOp (rI (fun _ j => 0 < j) fun i j => .int (i % j)) (tXs K 0 0) (tOp (rIxL K) (tLst (tCn (tC (.int 6)) (tCn (tC (.int 99)) tNl))) (tCB rInt1 (tCn (tOp rEq (tXs K 0 2) (tC (.int 0))) tNl))))) (gNm 1)) (tRet (tCl spLow [] E0 (tCn (tOp (rI0 fun i j => .int (i + j)) (tC (.int 1)) (tOp (rI (fun _ j => 0 < j) fun i j => .int (i % j)) (tXs K 0 1) (tOp (rI0 fun i j => .int (i - j)) (tVr 1) (tC (.int 1))))) (tCn (tVr 1) tNl)))),
  psc (pst (i := 1) nd rfl (Or.inl rfl) (pe_op op_add pei (pe_op op_mod (pxr ixl (pv 0) pei) (pxr ixl (pe_lst (pac pei (pac pei pan))) (pe_callTy call_int1 rfl mi PyProof.Rows.boot_int (pac (pe_cmpR op_eq (pxr ixl (pv 0) pei) pei (nomark _)) pan))))))
  (pss_one (prt (pec A1.G hr rfl A1.m A1.kp A1.b .nil pass0 (pac (pe_op op_add pei (pe_op op_mod (pxr ixl (pv 0) pei) (pe_op op_sub (pv 1) pei))) (pac (pv 1) pan))))), ?_⟩
 obtain ⟨x0, e0, n0⟩ := nx.get (i := 0) (by decide)
 obtain ⟨x1, e1, n1⟩ := nx.get (i := 1) (by decide)
 obtain ⟨x2, e2, n2⟩ := nx.get (i := 2) (by decide)
 refine rd_set (i := 1) (D := ⟨_, Q, _, _⟩) (rd_op (rd_op (rd_xs 0 rfl nx.at_ e0 (rd_op (rd_lst ⟨by show 2 <= sizeLine; decide, fun l hl => ?_⟩)))))
 have x1' := Ext.new (o := .lst [.int 6, .int 99]) hl;have hl1 : upd H l (.lst [.int 6, .int 99]) l = some (.lst [.int 6, .int 99]) := uds;generalize upd H l (.lst [.int 6, .int 99]) = H1 at x1' hl1 ⊢;have nx1 := nx.ext x1';have go : ∀ wd : Int, (wd = 6 \/ wd = 99) -> tRet (tCl spLow [] E0 (tCn (tOp (rI0 fun i j => .int (i + j)) (tC (.int 1)) (tOp (rI (fun _ j => 0 < j) fun i j => .int (i % j)) (tXs K 0 1) (tOp (rI0 fun i j => .int (i - j)) (tVr 1) (tC (.int 1))))) (tCn (tVr 1) tNl))) ⟨fun _ H' => Q .non H', Q, fun _ _ => False, fun _ _ => False⟩ [some (.ref p), some (.int (2 + x0 % wd))] H1 := fun wd hw => by
  have m0 : 0 <= x0 % wd := Int.emod_nonneg _ (by omega)
  have m1 : x0 % wd < wd := Int.emod_lt_of_pos _ (by omega)
  refine rd_xs 1 rfl nx1.at_ e1 ⟨_, rfl, _, _, rfl, rfl, _, _, rfl, rfl, (by show (0 : Int) < 2 + x0 % wd - 1; omega), _, _, rfl, rfl, _, rfl, ?_⟩
  have k0 : 0 <= x1 % (2 + x0 % wd - 1) := Int.emod_nonneg _ (by omega)
  have k1 : x1 % (2 + x0 % wd - 1) < 2 + x0 % wd - 1 := Int.emod_lt_of_pos _ (by omega)
  obtain ⟨a, ea⟩ : ∃ a : Nat, 1 + x1 % (2 + x0 % wd - 1) = (a : Int) := ⟨(1 + x1 % (2 + x0 % wd - 1)).toNat, by omega⟩
  obtain ⟨b, eb⟩ : ∃ b : Nat, 2 + x0 % wd = (b : Int) := ⟨(2 + x0 % wd).toNat, by omega⟩
  refine ⟨a, b, by rw [<- ea, <- eb]; rfl, by omega, ?_, fun t ht => q t _ _ _ (x1'.trans (Ext.new ht)) uds (coin_ok (by omega) (by omega) (by omega))⟩
  have : b <= 100 := by omega
  exact Nat.lt_of_le_of_lt this (by decide +kernel)
 refine rd_xs 2 rfl nx1.at_ e2 ⟨rfl, .inr ⟨_, rfl, ?_⟩⟩;cases decide (V.int x2 = V.int 0) with
 | true => exact ⟨l, _, _, _, rfl, rfl, SqL.of hl1, atN (j := 1) rfl, _, _, rfl, rfl, (by show (0 : Int) < 99; decide), _, _, rfl, rfl, go 99 (.inr rfl)⟩
 | false => exact ⟨l, _, _, _, rfl, rfl, SqL.of hl1, atN (j := 0) rfl, _, _, rfl, rfl, (by show (0 : Int) < 6; decide), _, _, rfl, rfl, go 6 (.inl rfl)⟩
abbrev sOn : Stmt := top 43
abbrev NOn : List Str := ["_law_xs", "_law_most", "_law_folk_here"]
theorem scOn : FnScope NOn ["_law_xs", "_law_most"] (defScope sOn) := mkSc
def spOn : Sp := fun vs H Q _ => ∃ (p : Addr) (ns : List Int) (m : Int), vs = [.ref p, .int m] /\ Nx H p ns 6 /\ 1 <= m /\ m <= 20 /\ ∀ t r H', Ext H H' -> Rds H' (.ref t) (R0.told r) -> r.ok -> r.folk <= m -> Q (.ref t) H'
def tCoin (K : Frag) : TE := tCl spCn [] E0 (tCn (tSl (rSlL K) (tVr 0) (tPart (tC (.int 2))) tNoPart) tNl)
def tMd (a b : TE) : TE := tOp (rI (fun _ j => 0 < j) fun i j => .int (i % j)) a b
def tAd (a b : TE) : TE := tOp (rI0 fun i j => .int (i + j)) a b
def tDv (a b : TE) : TE := tOp (rI CDiv fun i j => .int (i / j)) a b
def tOn0 (K : Frag) : TS := tIfS (tAnd (tB (tOp rEq (tXs K 0 0) (tC (.int 0)))) (tB (tOp (rI0 fun i j => .bl (decide (i > j))) (tVr 1) (tC (.int 1))))) (tRet (tTup (tCn (tC (.str "pairs")) (tCn (tAd (tC (.int 1)) (tMd (tXs K 0 1) (tDv (tVr 1) (tC (.int 2))))) (tCn (tCoin K) tNl))))) tNext
def tOn1 (K : Frag) : TS := tAg (tAd (tC (.int 1)) (tMd (tXs K 0 1) (tVr 1))) (gNm 2)
def tFar (K : Frag) : TE := tOp (rIxL K) (tLst (tCn (tC (.int 1)) (tCn (tC (.int 2)) (tCn (tC (.int 3)) (tCn (tAd (tC (.int 1)) (tMd (tDv (tXs K 0 5) (tC (.int 4))) (tC (.int 20)))) tNl))))) (tMd (tXs K 0 5) (tC (.int 4)))
def tOn2 (K : Frag) : TS := tIfS (tB (tOp rEq (tXs K 0 0) (tC (.int 1)))) (tRet (tTup (tCn (tC (.str "coins")) (tCn (tVr 2) (tCn (tCoin K) (tCn (tFar K) tNl)))))) tNext
def tOn3 (K : Frag) : TS := tRet (tTup (tCn (tC (.str "split")) (tCn (tVr 2) (tCn (tMd (tXs K 0 2) (tAd (tVr 2) (tC (.int 1)))) tNl))))
def tOn (K : Frag) : TS := tSq (tOn0 K) (tSq (tOn1 K) (tSq (tOn2 K) (tOn3 K)))
variable {cdv : Value} {A : Around} {outer : List Env} {s : Shared} {H : Hp} {E : XK}
theorem on_der (A1 : Df P w K mg base CX0 3 "_law_coin" ["_law_xs"] spCn a1 d1) (hr : Room 3 (A.deeper (PyProof.Rows.envOfC "_law_one" (defScope sOn) s.heap.objs.size f cdv))) : Bx (PSs (cxOf CX0 P w K mg base NOn "_law_one" (defScope sOn) f cdv A outer s H E).nox (defBody sOn) (tOn K)) := by
 have nd := scOn.nd;exact bsc ⟨ps_if (PW.pt (pw_and (pt_cmpR op_eq (pxr ixl (pv 0) pei) pei (nomark _)) (pw_and1 (pt_cmpR op_gt (pv 1) pei (nomark _))))) (pss_one (prt (pe_tup (pac pe_str (pac (pe_op op_add pei (pe_op op_mod (pxr ixl (pv 0) pei) (pe_op op_fdiv (pv 1) pei))) (pac (pec A1.G hr rfl A1.m A1.kp A1.b .nil pass0 (pac (pe_slice sl_list (pv 0) (po_some pei) po_none) pan)) pan)))))) psn⟩
  (bsc (bx_set (i := 2) nd rfl (Or.inl rfl) ⟨pe_op op_add pei (pe_op op_mod (pxr ixl (pv 0) pei) (pv 1))⟩)
  (bsc ⟨ps_if (pt_cmpR op_eq (pxr ixl (pv 0) pei) pei (nomark _)) (pss_one (prt (pe_tup (pac pe_str (pac (pv 2) (pac (pec A1.G hr rfl A1.m A1.kp A1.b .nil pass0 (pac (pe_slice sl_list (pv 0) (po_some pei) po_none) pan))
    (pac (pxr ixl (pe_lst (pac pei (pac pei (pac pei (pac (pe_op op_add pei (pe_op op_mod (pe_op op_fdiv (pxr ixl (pv 0) pei) pei) pei)) pan))))) (pe_op op_mod (pxr ixl (pv 0) pei) pei)) pan))))))) psn⟩
  (bxs_one ⟨prt (pe_tup (pac pe_str (pac (pv 2) (pac (pe_op op_mod (pxr ixl (pv 0) pei) (pe_op op_add (pv 2) pei)) pan))))⟩)))
theorem rd_coin {σ : St} {p : Addr} {ns : List Int} {Q : VK} (s0 : σ[0]? = some (some (.ref p))) (nx : Nx H p ns 6) (q : ∀ t a b H', Ext H H' -> H' t = some (.tup [.int a, .int b]) -> coinD (.tuple [.int a, .int b]) = true -> Q (.ref t) H') : tCoin K σ H Q := by
 refine ⟨_, s0, 2, rfl, p, _, rfl, SqL.of nx.at_, fun l hl => ?_⟩;have x1 := Ext.new (o := .lst (cutV (ns.map V.int) (some 2) none)) hl;have hl1 : upd H l (.lst (cutV (ns.map V.int) (some 2) none)) l = some (.lst (cutV (ns.map V.int) (some 2) none)) := uds;have ec : cutV (ns.map V.int) (some 2) none = (ns.drop 2).map V.int := by rw [List.map_drop]; exact cut_from _ 2
 generalize upd H l (.lst (cutV (ns.map V.int) (some 2) none)) = H1 at x1 hl1 ⊢;rw [ec] at hl1;have := nx.len;exact ⟨l, ns.drop 2, rfl, Nx.drop (Nat.le_refl _) hl1 (by omega) nx.nn, fun t a b H' x' ht c => q t a b H' (x1.trans x') ht c⟩
theorem ok_on {fd : FuncData} (F : Fun K "_law_one" "_law_one" sOn f fd) (A1 : Df P w K mg base CX0 3 "_law_coin" ["_law_xs"] spCn a1 d1) : FnOk P w K mg base CX0 4 f fd ["_law_xs", "_law_most"] spOn := by
 refine F.ok scOn (fun vs H Q E h => ?_) (fun cdv A outer s H vs Q E hr h => ?_)
 ·obtain ⟨_, _, _, rfl, _⟩ := h;rfl
 obtain ⟨p, ns, m, rfl, nx, m1, m20, q⟩ := h;obtain ⟨der⟩ := on_der A1 hr (f := f) (cdv := cdv) (A := A) (outer := outer) (s := s) (H := H) (E := E) (P := P) (w := w) (base := base);refine ⟨_, der, ?_⟩;obtain ⟨x0, e0, n0⟩ := nx.get (i := 0) (by decide)
 obtain ⟨x1, e1, n1⟩ := nx.get (i := 1) (by decide)
 obtain ⟨x2, e2, n2⟩ := nx.get (i := 2) (by decide)
 obtain ⟨x5, e5, n5⟩ := nx.get (i := 5) (by decide)
 have rest : tSq (tOn1 K) (tSq (tOn2 K) (tOn3 K)) ⟨fun _ H' => Q .non H', Q, fun _ _ => False, fun _ _ => False⟩ [some (.ref p), some (.int m), none] H := by
  refine rd_set (te := tAd (tC (.int 1)) (tMd (tXs K 0 1) (tVr 1))) (i := 2) (D := ⟨_, Q, _, _⟩) (rd_op (rd_op (rd_xs 1 rfl nx.at_ e1 ⟨_, rfl, _, _, rfl, rfl, (by show (0 : Int) < m; omega), _, _, rfl, rfl, ?_⟩)))
  have f0 : 0 <= x1 % m := Int.emod_nonneg _ (by omega)
  have f1 : x1 % m < m := Int.emod_lt_of_pos _ (by omega)
  show tSq (tOn2 K) (tOn3 K) _ [some (.ref p), some (.int m), some (.int (1 + x1 % m))] H;generalize hf : 1 + x1 % m = fk;have g1 : 1 <= fk := by omega
  have gm : fk <= m := by omega
  refine rd_xs 0 rfl nx.at_ e0 ⟨rfl, _, rfl, ?_⟩;refine ite2 (fun c => ?_) (fun c => ?_)
  ·refine ⟨_, rfl, rd_coin rfl nx fun t a b H1 x1' ht cn => ?_⟩;have nx1 := nx.ext x1';refine rd_op (rd_lst (rd_xs 5 rfl nx1.at_ e5 ⟨_, _, rfl, rfl, ⟨(by show (0 : Int) < 4; decide), (by show (4 : Int) < 1073741824; decide)⟩, _, _, rfl, rfl, (by show (0 : Int) < 20; decide), _, _, rfl, rfl, by show 4 <= sizeLine; decide, fun l hl => ?_⟩))
   have d0 : 0 <= x5 / 4 % 20 := Int.emod_nonneg _ (by decide)
   have d1 : x5 / 4 % 20 < 20 := Int.emod_lt_of_pos _ (by decide)
   have x2' := Ext.new (o := .lst [.int 1, .int 2, .int 3, .int (1 + x5 / 4 % 20)]) hl;have hl2 : upd H1 l (.lst [.int 1, .int 2, .int 3, .int (1 + x5 / 4 % 20)]) l = some (.lst [.int 1, .int 2, .int 3, .int (1 + x5 / 4 % 20)]) := uds;show tMd (tXs K 0 5) (tC (.int 4)) _ (upd H1 l (.lst [.int 1, .int 2, .int 3, .int (1 + x5 / 4 % 20)])) _;generalize upd H1 l (.lst [.int 1, .int 2, .int 3, .int (1 + x5 / 4 % 20)]) = H2 at x2' hl2 ⊢;have ht2 := x2' _ _ ht;have r0 : 0 <= x5 % 4 := Int.emod_nonneg _ (by decide)
   have r1 : x5 % 4 < 4 := Int.emod_lt_of_pos _ (by decide)
   refine rd_op (rd_xs 5 rfl (nx1.ext x2').at_ e5 ⟨_, _, rfl, rfl, (by show (0 : Int) < 4; decide), ?_⟩)
   have fin : ∀ fr : Int, 1 <= fr -> fr <= 20 -> ([V.str "coins", V.int fk, V.ref t, V.int fr].length <= sizeLine /\ ∀ k, H2 k = none -> Q (.ref k) (upd H2 k (.tup [.str "coins", .int fk, .ref t, .int fr]))) := fun fr h1 h2 => ⟨by show 4 <= sizeLine; decide, fun k hk => by
    have x3 := Ext.new (o := .tup [.str "coins", .int fk, .ref t, .int fr]) hk;exact q k (.coins fk a b fr) _ ((x1'.trans x2').trans x3) (.tup uds (.cons (.str _) (.cons (.int _) (.cons (.tup (x3 _ _ ht2) (.cons (.int _) (.cons (.int _) .nil))) (.cons (.int _) .nil))))) ⟨g1, by omega, cn, h1, h2⟩ gm⟩
   obtain ⟨fr, at4, h1, h2⟩ : ∃ fr : Int, atI [V.int 1, V.int 2, V.int 3, V.int (1 + x5 / 4 % 20)] (x5 % 4) = some (V.int fr) /\ 1 <= fr /\ fr <= 20 := by
    have : x5 % 4 = 0 \/ x5 % 4 = 1 \/ x5 % 4 = 2 \/ x5 % 4 = 3 := by omega
    rcases this with e | e | e | e <;> rw [e]
    ·exact ⟨1, atN (j := 0) rfl, by decide, by decide⟩
    ·exact ⟨2, atN (j := 1) rfl, by decide, by decide⟩
    ·exact ⟨3, atN (j := 2) rfl, by decide, by decide⟩
    ·exact ⟨_, atN (j := 3) rfl, by omega, by omega⟩
   exact ⟨l, _, _, _, rfl, rfl, SqL.of hl2, at4, fin fr h1 h2⟩
  ·refine ⟨_, rfl, rd_op (rd_xs 2 rfl nx.at_ e2 ⟨_, rfl, _, _, rfl, rfl, _, _, rfl, rfl, (by show (0 : Int) < fk + 1; omega), by show 3 <= sizeLine; decide, fun k hk => ?_⟩)⟩
   have k0 : 0 <= x2 % (fk + 1) := Int.emod_nonneg _ (by omega)
   have k1 : x2 % (fk + 1) < fk + 1 := Int.emod_lt_of_pos _ (by omega)
   exact q k (.split fk (x2 % (fk + 1))) _ (Ext.new hk) (.tup uds (.cons (.str _) (.cons (.int _) (.cons (.int _) .nil)))) ⟨g1, by omega, k0, by omega⟩ gm
 refine rd_xs 0 rfl nx.at_ e0 ⟨rfl, _, rfl, ?_⟩;refine ite2 (fun c => ?_) (fun c => itF rest);refine ⟨_, rfl, _, _, rfl, rfl, _, rfl, ?_⟩;refine ite2 (fun c2 => ?_) (fun c2 => rest);have mm : m > 1 := of_decide_eq_true c2;have h0 : 0 < m / 2 := by omega
 refine rd_op (rd_op (rd_xs 1 rfl nx.at_ e1 ⟨_, rfl, _, _, rfl, rfl, ⟨(by show (0 : Int) < 2; decide), (by show (2 : Int) < 1073741824; decide)⟩, _, _, rfl, rfl, h0, _, _, rfl, rfl, ?_⟩))
 have f0 : 0 <= x1 % (m / 2) := Int.emod_nonneg _ (by omega)
 have f1 : x1 % (m / 2) < m / 2 := Int.emod_lt_of_pos _ h0;refine rd_coin rfl nx fun t a b H1 x1' ht cn => ⟨by show 3 <= sizeLine; decide, fun k hk => ?_⟩
 have x3 := Ext.new (o := .tup [.str "pairs", .int (1 + x1 % (m / 2)), .ref t]) hk;exact q k (.pairs (1 + x1 % (m / 2)) a b) _ (x1'.trans x3) (.tup uds (.cons (.str _) (.cons (.int _) (.cons (.tup (x3 _ _ ht) (.cons (.int _) (.cons (.int _) .nil))) .nil)))) ⟨by omega, by omega, cn⟩ (by show 2 * (1 + x1 % (m / 2)) <= m; omega)
end
def tIxT (K : Frag) (i : Nat) (k : Int) : TE := tOp (rIxT K) (tVr i) (tC (.int k))
def tW (K : Frag) (i : Nat) (z : Str) : TT := tB (tOp rEq (tIxT K i 0) (tC (.str z)))
section
variable {K : Frag} {H : Hp} {σ : St} {De : Ends} {i : Nat} {a : Addr} {xs : List V} {w z : Str} {t u : TS}
theorem rxT {v : V} {Q : VK} (k : Nat) (si : σ[i]? = some (some (.ref a))) (ha : H a = some (.tup xs)) (hk : xs[k]? = some v) (q : Q v H) : tIxT K i (k : Nat) σ H Q := ⟨_, si, a, _, _, _, rfl, rfl, SqT.of ha, atN hk, q⟩
theorem rd_w {Q : Bool -> Hp -> Prop} (si : σ[i]? = some (some (.ref a))) (ha : H a = some (.tup (.str w :: xs))) (q : Q (decide (V.str w = V.str z)) H) : tW K i z σ H Q := rxT 0 si ha rfl ⟨rfl, _, rfl, q⟩
theorem rd_ifT (si : σ[i]? = some (some (.ref a))) (ha : H a = some (.tup (.str z :: xs))) (h : t De σ H) : tIfS (tW K i z) t u De σ H := rd_w si ha (by rw [decide_eq_true rfl]; exact itT h)
theorem rd_ifF (ne : w ≠ z) (si : σ[i]? = some (some (.ref a))) (ha : H a = some (.tup (.str w :: xs))) (h : u De σ H) : tIfS (tW K i z) t u De σ H := rd_w si ha (by rw [decide_eq_false (fun e => ne (V.str.inj e))]; exact itF h)
variable {v : V}
theorem tl_split {n k : Int} (r : Rds H v (R0.split n k).told) : ∃ a, v = .ref a /\ H a = some (.tup [.str "split", .int n, .int k]) := by
 obtain ⟨a, xs, rfl, ha, rs⟩ := rds_tup r;cases rs with | cons r1 rs => cases rs with | cons r2 rs => cases rs with | cons r3 rs => cases rs; cases r1; cases r2; cases r3; exact ⟨a, rfl, ha⟩
theorem tl_pairs {n x y : Int} (r : Rds H v (R0.pairs n x y).told) : ∃ a c, v = .ref a /\ H a = some (.tup [.str "pairs", .int n, c]) /\ Rds H c (.tuple [.int x, .int y]) := by
 obtain ⟨a, xs, rfl, ha, rs⟩ := rds_tup r;cases rs with | cons r1 rs => cases rs with | cons r2 rs => cases rs with | cons r3 rs => cases rs; cases r1; cases r2; exact ⟨a, _, rfl, ha, r3⟩
theorem tl_coins {n x y f : Int} (r : Rds H v (R0.coins n x y f).told) : ∃ a c, v = .ref a /\ H a = some (.tup [.str "coins", .int n, c, .int f]) /\ Rds H c (.tuple [.int x, .int y]) := by
 obtain ⟨a, xs, rfl, ha, rs⟩ := rds_tup r;cases rs with | cons r1 rs => cases rs with | cons r2 rs => cases rs with | cons r3 rs => cases rs with | cons r4 rs => cases rs; cases r1; cases r2; cases r4; exact ⟨a, _, rfl, ha, r3⟩
theorem tl_blocks {rs0 : List R0} (r : Rds H v (Rl.blocks rs0).told) : ∃ a b ys, v = .ref a /\ H a = some (.tup [.str "blocks", .ref b]) /\ H b = some (.tup ys) /\ RdsAll H ys (rs0.map R0.told) := by
 obtain ⟨a, xs, rfl, ha, rs⟩ := rds_tup r;cases rs with | cons r1 rs => cases rs with | cons r2 rs => cases rs; cases r1; obtain ⟨b, ys, rfl, hb, ry⟩ := rds_tup r2; exact ⟨a, b, ys, rfl, ha, hb, ry⟩
theorem tl_first {t : Rl} {m : Int} (r : Rds H v (Rl.first t m).told) : ∃ a u, v = .ref a /\ H a = some (.tup [.str "first", u, .int m]) /\ Rds H u t.told := by
 obtain ⟨a, xs, rfl, ha, rs⟩ := rds_tup r;cases rs with | cons r1 rs => cases rs with | cons r2 rs => cases rs with | cons r3 rs => cases rs; cases r1; cases r3; exact ⟨a, _, rfl, ha, r2⟩
end
def Rl.hgt : Rl -> Nat
 | .one _ => 0
 | .blocks _ => 1
 | .first t _ => t.hgt + 1
section
variable {P : Program} {w : World} {K : Frag} {mg : Str -> Option Value} {base : Heap} {C : Nat -> Addr} {CR : Addr}
abbrev sFo : Stmt := top 45
theorem scFo : FnScope ["_law_told"] ["_law_told"] (defScope sFo) := mkSc
def spFo0 : Sp := fun vs H Q _ => ∃ v t, vs = [v] /\ Rds H v (Rl.told t) /\ t.ok /\ t.kind ≠ 3 /\ Q (.int t.folk) H
def spFo : Sp := fun vs H Q _ => ∃ v t, vs = [v] /\ Rds H v (Rl.told t) /\ t.ok /\ ∀ H', Ext H H' -> Q (.int t.folk) H'
def tFo1 (K : Frag) : TS := tIfS (tW K 0 "first") (tRet (tIxT K 0 2)) tNext
def tFo2 (K : Frag) : TS := tRet (tOp (rI CMul fun i j => .int (i * j)) (tIxT K 0 1) (tAd (tC (.int 1)) (tCB rInt1 (tCn (tOp rEq (tIxT K 0 0) (tC (.str "pairs"))) tNl))))
variable {f : Addr} {cdv : Value} {A : Around} {outer : List Env} {s : Shared} {H : Hp} {E : XK}
theorem fo_1 : Bx (PS (cxOf CX0 P w K mg base ["_law_told"] "_law_folk" (defScope sFo) f cdv A outer s H E).nox ((defBody sFo).getD 1 (.Pass ⟨0, 0, 0, 0⟩)) (tFo1 K)) :=
 ⟨ps_if (pt_cmpR op_eq (pxr ixt (pv 0) pei) pe_str (nomark _)) (pss_one (prt (pxr ixt (pv 0) pei))) psn⟩
theorem fo_2 (mi : mg "int" = none) : Bx (PS (cxOf CX0 P w K mg base ["_law_told"] "_law_folk" (defScope sFo) f cdv A outer s H E).nox ((defBody sFo).getD 2 (.Pass ⟨0, 0, 0, 0⟩)) (tFo2 K)) :=
 ⟨prt (pe_op op_mul (pxr ixt (pv 0) pei) (pe_op op_add pei (pe_callTy call_int1 rfl mi PyProof.Rows.boot_int (pac (pe_cmpR op_eq (pxr ixt (pv 0) pei) pe_str (nomark _)) pan))))⟩
theorem rd_fo2 {De : Ends} {v : V} {r : R0} (rd : Rds H v r.told) (ok : r.ok) (q : De.rt (.int r.folk) H) : ∃ a xs w, v = .ref a /\ H a = some (.tup (.str w :: xs)) /\ w ≠ "blocks" /\ w ≠ "first" /\ tFo2 K De [some (.ref a)] H := by
 cases r with
 | split n k =>
  obtain ⟨a, rfl, ha⟩ := tl_split rd;refine ⟨a, _, _, rfl, ha, by decide +kernel, by decide +kernel, rd_op (rxT 1 rfl ha rfl (rd_op (rd_op (rxT 0 rfl ha rfl ⟨rfl, .inr ⟨_, rfl, _, _, rfl, rfl, _, _, rfl, rfl, .inr ⟨?_, ?_⟩, ?_⟩⟩))))⟩
  ·rw [show decide (V.str "split" = V.str "pairs") = false from by decide +kernel]; decide
  ·rw [show decide (V.str "split" = V.str "pairs") = false from by decide +kernel]; decide
  ·rw [show decide (V.str "split" = V.str "pairs") = false from by decide +kernel]
   show De.rt (.int (n * (1 + 0))) H;rw [show n * (1 + 0) = n from by omega]
   exact q
 | coins n x y f =>
  obtain ⟨a, c, rfl, ha, _⟩ := tl_coins rd;refine ⟨a, _, _, rfl, ha, by decide +kernel, by decide +kernel, rd_op (rxT 1 rfl ha rfl (rd_op (rd_op (rxT 0 rfl ha rfl ⟨rfl, .inr ⟨_, rfl, _, _, rfl, rfl, _, _, rfl, rfl, .inr ⟨?_, ?_⟩, ?_⟩⟩))))⟩
  ·rw [show decide (V.str "coins" = V.str "pairs") = false from by decide +kernel]; decide
  ·rw [show decide (V.str "coins" = V.str "pairs") = false from by decide +kernel]; decide
  ·rw [show decide (V.str "coins" = V.str "pairs") = false from by decide +kernel]
   show De.rt (.int (n * (1 + 0))) H;rw [show n * (1 + 0) = n from by omega]
   exact q
 | pairs n x y =>
  obtain ⟨a, c, rfl, ha, _⟩ := tl_pairs rd;refine ⟨a, _, _, rfl, ha, by decide +kernel, by decide +kernel, rd_op (rxT 1 rfl ha rfl (rd_op (rd_op (rxT 0 rfl ha rfl ⟨rfl, .inr ⟨_, rfl, _, _, rfl, rfl, _, _, rfl, rfl, .inr ⟨?_, ?_⟩, ?_⟩⟩))))⟩
  ·rw [show decide (V.str "pairs" = V.str "pairs") = true from by decide +kernel]; decide
  ·rw [show decide (V.str "pairs" = V.str "pairs") = true from by decide +kernel]; decide
  ·rw [show decide (V.str "pairs" = V.str "pairs") = true from by decide +kernel]
   show De.rt (.int (n * (1 + 1))) H;rw [show n * (1 + 1) = 2 * n from by omega]
   exact q
theorem ok_fo0 {fd : FuncData} (F : Fun K "_law_folk" "_law_folk" sFo f fd) (mi : mg "int" = none) : FnOk P w K mg base CX0 1 f fd ["_law_told"] spFo0 := by
 refine F.ok scFo (fun vs H Q E h => ?_) (fun cdv A outer s H vs Q E hr h => ?_)
 ·obtain ⟨_, _, rfl, _⟩ := h;rfl
 obtain ⟨v, t, rfl, rd, ok, nk, q⟩ := h;obtain ⟨d1⟩ := fo_1 (f := f) (cdv := cdv) (A := A) (outer := outer) (s := s) (H := H) (E := E) (P := P) (w := w) (base := base) (mg := mg) (K := K);obtain ⟨d2⟩ := fo_2 mi (f := f) (cdv := cdv) (A := A) (outer := outer) (s := s) (H := H) (E := E) (P := P) (w := w) (base := base) (K := K);refine ⟨tSq (tIfS (tW K 0 "blocks") (fun _ _ _ => False) tNext) (tSq (tFo1 K) (tFo2 K)), psc (ps_if (pt_cmpR op_eq (pxr ixt (pv 0) pei) pe_str (nomark _)) (pss_one ps_never) psn) (psc d1 (pss_one d2)), ?_⟩;cases t with
 | one r =>
  obtain ⟨a, xs, w, rfl, ha, n1, n2, h2⟩ := rd_fo2 (K := K) (De := ⟨fun _ H' => Q .non H', Q, fun _ _ => False, fun _ _ => False⟩) rd ok q;exact rd_ifF n1 rfl ha (rd_ifF n2 rfl ha h2)
 | blocks rs => exact absurd rfl nk
 | first t m =>
  obtain ⟨a, u, rfl, ha, _⟩ := tl_first rd;exact rd_ifF (by decide +kernel) rfl ha (rd_ifT rfl ha (rxT 2 rfl ha rfl q))
abbrev scFoC : Scope := { kind := .function, names := [(".0", .local), ("_law_one_here", .local), ("_law_folk", .globalImplicit)], isGenerator := false, isCoroutine := false }
theorem compFo {X : Cx} : CompG X scFoC [] ["_law_one_here"] [] [] := by
 refine ⟨rfl, rfl, by decide +kernel, by decide +kernel, by decide +kernel, (fun z c h => nomatch h), (fun z h => ?_), by decide +kernel, (fun k z h => by simp at h), rfl⟩
 exfalso;have h' : List.lookup z [((".0" : Str), NameKind.local), (("_law_one_here" : Str), NameKind.local), (("_law_folk" : Str), NameKind.globalImplicit)] = some .cell \/ List.lookup z [((".0" : Str), NameKind.local), (("_law_one_here" : Str), NameKind.local), (("_law_folk" : Str), NameKind.globalImplicit)] = some .free := h;simp only [List.lookup_cons, List.lookup_nil] at h'
 repeat' (split at h')
 all_goals simp at h'
theorem ndFo : ((["_law_one_here"] : List Str) ++ ([] : List Str)).Nodup := by decide +kernel
theorem lc_folks {K : Frag} {H1 : Hp} {D b : Addr} {ys : List V} {rs : List R0} {Q : Hp -> Prop} (hb : H1 b = some (.tup ys)) (ry : RdsAll H1 ys (rs.map R0.told)) (ok : ∀ r ∈ rs, r.ok) (l6 : rs.length <= 6) (hD : H1 D = none) (hd : ∀ H, Ext H1 H -> H D = some (.lst ((rs.map R0.folk).map V.int)) -> Q H) :
  ∃ W : Nat -> Nat -> List V -> Hp -> Prop, (∃ m, W 0 m [] (upd H1 D (.lst []))) /\
   ∀ i m ys H2, W i m ys H2 -> H2 D = some (.lst ys) /\ (((Itt K b).stop i H2 /\ Q H2) \/ ((Itt K b).go i H2 /\ ys.length < sizeLine /\
    ∀ x H3, (Itt K b).yld i H2 x H3 -> ∀ os : St, os.length = 1 -> gNm 0 x (os ++ []) H3 fun σ2 H0 => (∃ os' : St, os'.length = 1 /\ σ2 = os' ++ []) /\ tCl spFo0 [] E0 (tCn (tVr 0) tNl) σ2 H0 fun y H4 => H4 D = some (.lst ys) /\ ∃ m', m' < m /\ W (i + 1) m' (ys ++ [y]) (upd H4 D (.lst (ys ++ [y]))))) := by
 have ly := ry.length;rw [List.length_map] at ly;refine lcG_tup (a := b) (xs := ys) (fun i zs H' => Ext H1 H' /\ zs = ((rs.take i).map R0.folk).map V.int) (by rw [sizeLine_eq]; omega) ⟨Ext.new hD, rfl⟩ (fun i zs H' pv => SqT.of (pv.1 _ _ hb)) ?_ ?_
 ·rintro i x zs H' ex lz hDD ⟨x', rfl⟩ os los R k;obtain ⟨o0, rfl⟩ : ∃ o0, os = [o0] := by
   match os, los with
   | [o0], _ => exact ⟨o0, rfl⟩
  have hi : i < rs.length := by have := (List.getElem?_eq_some_iff.mp ex).1; omega
  have er := List.getElem?_eq_getElem hi;obtain ⟨d, ed, rd⟩ := ry.get ex;rw [List.getElem?_map, er] at ed;cases ed;refine ⟨⟨[some x], rfl, rfl⟩, _, rfl, x, .one rs[i], rfl, rd.mono x', ok _ (List.getElem_mem hi), (by have := rs[i].kind_lt; show rs[i].kind ≠ 3; omega), k _ H' hDD ⟨ext_upd _ x' hD, ?_⟩⟩
  rw [take_all er, List.map_append, List.map_append];rfl
 ·rintro zs H' lz hDD ⟨x', rfl⟩;rw [ly, List.take_length] at hDD;exact hd H' x' hDD
variable {a1 : Addr} {d1 : FuncData}
theorem ok_fo {fd : FuncData} (F : Fun K "_law_folk" "_law_folk" sFo f fd) (A1 : Df P w K mg base CX0 1 "_law_folk" ["_law_told"] spFo0 a1 d1) (mi : mg "int" = none) (ms : mg "sum" = none) : FnOk P w K mg base CX0 2 f fd ["_law_told"] spFo := by
 refine F.ok scFo (fun vs H Q E h => ?_) (fun cdv A outer s H vs Q E hr h => ?_)
 ·obtain ⟨_, _, rfl, _⟩ := h;rfl
 obtain ⟨v, t, rfl, rd, ok, q⟩ := h;obtain ⟨d1⟩ := fo_1 (f := f) (cdv := cdv) (A := A) (outer := outer) (s := s) (H := H) (E := E) (P := P) (w := w) (base := base) (mg := mg) (K := K);obtain ⟨d2⟩ := fo_2 mi (f := f) (cdv := cdv) (A := A) (outer := outer) (s := s) (H := H) (E := E) (P := P) (w := w) (base := base) (K := K);refine ⟨tSq (tIfS (tW K 0 "blocks") (tRet (tCB (rSumL K) (tCn (tLCG (iTup K (tIxT K 0 1)) 1 [] (gNm 0) (tCl spFo0 [] E0 (tCn (tVr 0) tNl))) tNl))) tNext) (tSq (tFo1 K) (tFo2 K)),
  psc (ps_if (pt_cmpR op_eq (pxr ixt (pv 0) pei) pe_str (nomark _)) (pss_one (prt (pe_callB (call_sumL rfl) rfl ms PyProof.Rows.boot_sum (pac (pe_lcG (te := tCl spFo0 [] E0 (tCn (tVr 0) tNl)) (g := gNm 0) rfl compFo (pi_tup (pxr ixt (pv 0) pei)) (fun s H C fp => by exact pgn (i := 0) ndFo rfl (.inl rfl)) (fun s H C fp => by exact pec A1.G hr rfl A1.m A1.kp A1.b .nil pass0 (pac (pv 0) pan))) pan)))) psn) (psc d1 (pss_one d2)), ?_⟩
 cases t with
 | one r =>
  obtain ⟨a, xs, w, rfl, ha, n1, n2, h2⟩ := rd_fo2 (K := K) (De := ⟨fun _ H' => Q .non H', Q, fun _ _ => False, fun _ _ => False⟩) rd ok (q H (Ext.refl _));exact rd_ifF n1 rfl ha (rd_ifF n2 rfl ha h2)
 | blocks rs =>
  obtain ⟨a, b, ys, rfl, ha, hb, ry⟩ := tl_blocks rd;obtain ⟨o1, o6, oo, _⟩ := ok;refine rd_ifT rfl ha (rxT 1 rfl ha rfl ⟨b, rfl, ⟨_, SqT.of hb⟩, fun D hD => lc_folks hb ry oo o6 hD fun H' x' h' => ⟨D, _, rfl, SqL.of h', q H' x'⟩⟩)
 | first t m =>
  obtain ⟨a, u, rfl, ha, _⟩ := tl_first rd;exact rd_ifF (by decide +kernel) rfl ha (rd_ifT rfl ha (rxT 2 rfl ha rfl (q H (Ext.refl _))))
end
structure Mks (P : Program) (w : World) (K : Frag) (mg : Str -> Option Value) (base : Heap) (C : Nat -> Addr) (CN CS CT CM : Addr) (f0 f1 f2 f3 f4 : Addr) (e0 e1 e2 e3 e4 : FuncData) : Prop where
 k0 : Mk K (C 0) f0
 k1 : Mk K (C 1) f1
 k2 : Mk K (C 2) f2
 k3 : Mk K (C 3) f3
 k4 : Mk K (C 4) f4
 g0 : FnOk P w K mg base (CXE P w) 4 f0 e0 ["self", "folk", "ones"] (spSpI C CN)
 g1 : FnOk P w K mg base (CXE P w) 6 f1 e1 ["self", "pairs", "coin"] (spPaI C CN CS)
 g2 : FnOk P w K mg base (CXE P w) 6 f2 e2 ["self", "folk", "coin", "far"] (spCoI C CN CS)
 g3 : FnOk P w K mg base (CXE P w) 4 f3 e3 ["self", "rules"] (spBlI K C CT CM)
 g4 : FnOk P w K mg base (CXE P w) 4 f4 e4 ["self", "rule", "many"] (spFiI C CN)
 b0 : Binds K e0 ["self", "folk", "ones"] []
 b1 : Binds K e1 ["self", "pairs", "coin"] []
 b2 : Binds K e2 ["self", "folk", "coin", "far"] []
 b3 : Binds K e3 ["self", "rules"] []
 b4 : Binds K e4 ["self", "rule", "many"] []
 m0 : mg "Split" = some (.ref (C 0))
 m1 : mg "Pairs" = some (.ref (C 1))
 m2 : mg "Coins" = some (.ref (C 2))
 m3 : mg "Blocks" = some (.ref (C 3))
 m4 : mg "First" = some (.ref (C 4))
section
variable {K : Frag} {C : Nat -> Addr} {CN CS CT CM : Addr} {H : Hp} {σ : St} {Q : VK} {E : XK}
theorem inD_of {lo hi n : Int} (h1 : lo <= n) (h2 : n <= hi) : inD lo hi (.int n) = true := by
 show (decide (lo <= n) && decide (n <= hi)) = true;rw [decide_eq_true h1, decide_eq_true h2];rfl
theorem mk_split {n k : Int} {t : TA} (ht : ∀ R : List V -> Hp -> Prop, R [.int n, .int k] H -> t σ H R) (ok : (R0.split n k).ok) (q : ∀ x H', Ext H H' -> Ru C H' (.one (.split n k)) (.ref x) -> Q (.ref x) H') : tMake (C 0) (spSpI C CN) [] E0 t σ H Q :=
 ht _ fun x dx hx hd ne => by
  have xe := made_ext (u := .own x) (v := .ins (C 0) dx []) hx hd ne;obtain ⟨o1, o2, o3, o4⟩ := id ok;refine ⟨x, _, _, _, _, dx, rfl, uds, .int _, .int _, fun h => (by rw [inD_of o1 o2] at h; cases h), fun m e _ _ h => (by cases e; rw [inD_of o3 o4] at h; cases h), fun n' k' e1 e2 _ H' kp ru => ⟨rfl, ?_⟩⟩
  cases e1;cases e2;exact q x H' (xe.kp hx kp) ru
theorem mk_pairs {n a b : Int} {c : V} {t : TA} (ht : ∀ R : List V -> Hp -> Prop, R [.int n, c] H -> t σ H R) (rc : Rds H c (.tuple [.int a, .int b])) (ok : (R0.pairs n a b).ok) (q : ∀ x H', Ext H H' -> Ru C H' (.one (.pairs n a b)) (.ref x) -> Q (.ref x) H') : tMake (C 1) (spPaI C CN CS) [] E0 t σ H Q :=
 ht _ fun x dx hx hd ne => by
  have xe := made_ext (u := .own x) (v := .ins (C 1) dx []) hx hd ne;obtain ⟨o1, o2, o3⟩ := id ok;refine ⟨x, _, _, _, _, dx, rfl, uds, .int _, rc.mono xe, fun h => (by rw [inD_of o1 o2] at h; cases h), fun _ h => (by rw [o3] at h; cases h), fun n' a' b' e1 e2 _ H' kp ru => ⟨rfl, ?_⟩⟩
  cases e1;cases e2;exact q x H' (xe.kp hx kp) ru
theorem mk_coins {n a b f : Int} {c : V} {t : TA} (ht : ∀ R : List V -> Hp -> Prop, R [.int n, c, .int f] H -> t σ H R) (rc : Rds H c (.tuple [.int a, .int b])) (ok : (R0.coins n a b f).ok) (q : ∀ x H', Ext H H' -> Ru C H' (.one (.coins n a b f)) (.ref x) -> Q (.ref x) H') : tMake (C 2) (spCoI C CN CS) [] E0 t σ H Q :=
 ht _ fun x dx hx hd ne => by
  have xe := made_ext (u := .own x) (v := .ins (C 2) dx []) hx hd ne;obtain ⟨o1, o2, o3, o4, o5⟩ := id ok;refine ⟨x, _, _, _, _, _, _, dx, rfl, uds, .int _, rc.mono xe, .int _, fun h => (by rw [inD_of o1 o2] at h; cases h), fun _ h => (by rw [o3] at h; cases h), fun _ _ h => (by rw [inD_of o4 o5] at h; cases h), fun n' a' b' f' e1 e2 e3 _ H' kp ru => ⟨rfl, ?_⟩⟩
  cases e1;cases e2;cases e3;exact q x H' (xe.kp hx kp) ru
theorem mk_blocks {l : Addr} {ws : List V} {rs : List R0} {t : TA} (ht : ∀ R : List V -> Hp -> Prop, R [.ref l] H -> t σ H R) (hl : H l = some (.lst ws)) (al : All0 C H rs ws) (ok : (Rl.blocks rs).ok) (q : ∀ x H', Ext H H' -> Ru C H' (.blocks rs) (.ref x) -> Q (.ref x) H') : tMake (C 3) (spBlI K C CT CM) [] E0 t σ H Q :=
 ht _ fun x dx hx hd ne => by
  have xe := made_ext (u := .own x) (v := .ins (C 3) dx []) hx hd ne;obtain ⟨o1, o2, o3, o4⟩ := id ok;exact ⟨x, _, dx, H, rfl, uds, xe, hx, .inr (.inr ⟨l, ws, rs, rfl, hl, al, o1, o2, o3, fun h => absurd o4 (by omega), fun _ H' kp ru => ⟨rfl, q x H' (xe.kp hx kp) ru⟩⟩)⟩
theorem mk_first {v : V} {r : Rl} {m : Int} {t : TA} (ht : ∀ R : List V -> Hp -> Prop, R [v, .int m] H -> t σ H R) (ru : Ru C H r v) (ok : (Rl.first r m).ok) (q : ∀ x H', Ext H H' -> Ru C H' (.first r m) (.ref x) -> Q (.ref x) H') : tMake (C 4) (spFiI C CN) [] E0 t σ H Q :=
 ht _ fun x dx hx hd ne => by
  have xe := made_ext (u := .own x) (v := .ins (C 4) dx []) hx hd ne;obtain ⟨o1, o2, o3⟩ := id ok;refine ⟨x, _, _, r, _, dx, H, rfl, uds, xe, hx, ru, Rl.sm o1, .int m, fun h => (by rw [inD_of o2 o3] at h; cases h), fun m' e _ _ H' kp ru => ⟨rfl, ?_⟩⟩
  cases e;exact q x H' (xe.kp hx kp) ru
end
section
variable {P : Program} {w : World} {K : Frag} {mg : Str -> Option Value} {base : Heap} {C : Nat -> Addr} {CR CN CS CT CM f0 f1 f2 f3 f4 : Addr} {e0 e1 e2 e3 e4 : FuncData}
abbrev sMd : Stmt := top 46
theorem scMd : FnScope ["_law_told"] ["_law_told"] (defScope sMd) := mkSc
def spMd (C : Nat -> Addr) (n : Nat) : Sp := fun vs H Q _ => ∃ v t, vs = [v] /\ Rds H v (Rl.told t) /\ t.ok /\ t.hgt <= n /\ ∀ x H', Ext H H' -> Ru C H' t (.ref x) -> Q (.ref x) H'
abbrev stMd (i : Nat) : Stmt := (defBody sMd).getD i (.Pass ⟨0, 0, 0, 0⟩)
def tMd0 (K : Frag) (C : Nat -> Addr) (CN : Addr) : TS := tIfS (tW K 0 "split") (tRet (tMake (C 0) (spSpI C CN) [] E0 (tCn (tIxT K 0 1) (tCn (tIxT K 0 2) tNl)))) tNext
def tMd1 (K : Frag) (C : Nat -> Addr) (CN CS : Addr) : TS := tIfS (tW K 0 "pairs") (tRet (tMake (C 1) (spPaI C CN CS) [] E0 (tCn (tIxT K 0 1) (tCn (tIxT K 0 2) tNl)))) tNext
def tMd2 (K : Frag) (C : Nat -> Addr) (CN CS : Addr) : TS := tIfS (tW K 0 "coins") (tRet (tMake (C 2) (spCoI C CN CS) [] E0 (tCn (tIxT K 0 1) (tCn (tIxT K 0 2) (tCn (tIxT K 0 3) tNl))))) tNext
variable {f : Addr} {cdv : Value} {A : Around} {outer : List Env} {s : Shared} {H : Hp} {E : XK}
section
variable (L : Mks P w K mg base C CN CS CT CM f0 f1 f2 f3 f4 e0 e1 e2 e3 e4) (hr : Room 7 (A.deeper (PyProof.Rows.envOfC "_law_made" (defScope sMd) s.heap.objs.size f cdv)))
include L hr
theorem md_0 : Bx (PS (cxOf CX0 P w K mg base ["_law_told"] "_law_made" (defScope sMd) f cdv A outer s H E).nox (stMd 0) (tMd0 K C CN)) := by
 have hr5 : Room 5 _ := hr.mono (by decide)
 exact ⟨ps_if (pt_cmpR op_eq (pxr ixt (pv 0) pei) pe_str (nomark _)) (pss_one (prt (pe_make L.k0 L.g0 hr5 rfl L.m0 L.b0 .nil passN (pac (pxr ixt (pv 0) pei) (pac (pxr ixt (pv 0) pei) pan))))) psn⟩
theorem md_1 : Bx (PS (cxOf CX0 P w K mg base ["_law_told"] "_law_made" (defScope sMd) f cdv A outer s H E).nox (stMd 1) (tMd1 K C CN CS)) :=
 ⟨ps_if (pt_cmpR op_eq (pxr ixt (pv 0) pei) pe_str (nomark _)) (pss_one (prt (pe_make L.k1 L.g1 hr rfl L.m1 L.b1 .nil passN (pac (pxr ixt (pv 0) pei) (pac (pxr ixt (pv 0) pei) pan))))) psn⟩
theorem md_2 : Bx (PS (cxOf CX0 P w K mg base ["_law_told"] "_law_made" (defScope sMd) f cdv A outer s H E).nox (stMd 2) (tMd2 K C CN CS)) :=
 ⟨ps_if (pt_cmpR op_eq (pxr ixt (pv 0) pei) pe_str (nomark _)) (pss_one (prt (pe_make L.k2 L.g2 hr rfl L.m2 L.b2 .nil passN (pac (pxr ixt (pv 0) pei) (pac (pxr ixt (pv 0) pei) (pac (pxr ixt (pv 0) pei) pan)))))) psn⟩
omit L hr
end
theorem rd_md {De : Ends} {v : V} {r : R0} {t3 : TS} (rd : Rds H v r.told) (ok : r.ok) (q : ∀ x H', Ext H H' -> Ru C H' (.one r) (.ref x) -> De.rt (.ref x) H') : tSq (tMd0 K C CN) (tSq (tMd1 K C CN CS) (tSq (tMd2 K C CN CS) t3)) De [some v] H := by
 cases r with
 | split n k =>
  obtain ⟨a, rfl, ha⟩ := tl_split rd;exact rd_ifT rfl ha (mk_split (fun R r => rxT 1 rfl ha rfl (rxT 2 rfl ha rfl r)) ok q)
 | pairs n x y =>
  obtain ⟨a, c, rfl, ha, rc⟩ := tl_pairs rd;exact rd_ifF (by decide +kernel) rfl ha (rd_ifT rfl ha (mk_pairs (fun R r => rxT 1 rfl ha rfl (rxT 2 rfl ha rfl r)) rc ok q))
 | coins n x y g =>
  obtain ⟨a, c, rfl, ha, rc⟩ := tl_coins rd;exact rd_ifF (by decide +kernel) rfl ha (rd_ifF (by decide +kernel) rfl ha (rd_ifT rfl ha (mk_coins (fun R r => rxT 1 rfl ha rfl (rxT 2 rfl ha rfl (rxT 3 rfl ha rfl r))) rc ok q)))
theorem ok_md0 {fd : FuncData} (F : Fun K "_law_made" "_law_made" sMd f fd) (L : Mks P w K mg base C CN CS CT CM f0 f1 f2 f3 f4 e0 e1 e2 e3 e4) : FnOk P w K mg base CX0 8 f fd ["_law_told"] (spMd C 0) := by
 refine F.ok scMd (fun vs H Q E h => ?_) (fun cdv A outer s H vs Q E hr h => ?_)
 ·obtain ⟨_, _, rfl, _⟩ := h;rfl
 obtain ⟨v, t, rfl, rd, ok, hg, q⟩ := h;obtain ⟨q0⟩ := md_0 L hr (f := f) (cdv := cdv) (A := A) (outer := outer) (s := s) (H := H) (E := E);obtain ⟨q1⟩ := md_1 L hr (f := f) (cdv := cdv) (A := A) (outer := outer) (s := s) (H := H) (E := E);obtain ⟨q2⟩ := md_2 L hr (f := f) (cdv := cdv) (A := A) (outer := outer) (s := s) (H := H) (E := E);refine ⟨_, psc q0 (psc q1 (psc q2 (psc ps_never (pss_one ps_never)))), ?_⟩;cases t with
 | one r => exact rd_md (De := ⟨_, Q, _, _⟩) rd ok q
 | blocks rs => exact absurd hg (by show ¬ 1 <= 0; decide)
 | first t m => exact absurd hg (by show ¬ t.hgt + 1 <= 0; omega)
abbrev scMdC : Scope := { kind := .function, names := [(".0", .local), ("_law_one_here", .local), ("_law_made", .globalImplicit)], isGenerator := false, isCoroutine := false }
theorem compMd {X : Cx} : CompG X scMdC [] ["_law_one_here"] [] [] := by
 refine ⟨rfl, rfl, by decide +kernel, by decide +kernel, by decide +kernel, (fun z c h => nomatch h), (fun z h => ?_), by decide +kernel, (fun k z h => by simp at h), rfl⟩
 exfalso;have h' : List.lookup z [((".0" : Str), NameKind.local), (("_law_one_here" : Str), NameKind.local), (("_law_made" : Str), NameKind.globalImplicit)] = some .cell \/ List.lookup z [((".0" : Str), NameKind.local), (("_law_one_here" : Str), NameKind.local), (("_law_made" : Str), NameKind.globalImplicit)] = some .free := h;simp only [List.lookup_cons, List.lookup_nil] at h'
 repeat' (split at h')
 all_goals simp at h'
theorem lc_made {K : Frag} {H1 : Hp} {D b : Addr} {ys : List V} {rs : List R0} {n : Nat} {Q : Hp -> Prop} (hb : H1 b = some (.tup ys)) (ry : RdsAll H1 ys (rs.map R0.told)) (ok : ∀ r ∈ rs, r.ok) (l6 : rs.length <= 6) (hD : H1 D = none) (hd : ∀ ws H, Ext H1 H -> H D = some (.lst ws) -> All0 C H rs ws -> Q H) :
  ∃ W : Nat -> Nat -> List V -> Hp -> Prop, (∃ m, W 0 m [] (upd H1 D (.lst []))) /\
   ∀ i m ys H2, W i m ys H2 -> H2 D = some (.lst ys) /\ (((Itt K b).stop i H2 /\ Q H2) \/ ((Itt K b).go i H2 /\ ys.length < sizeLine /\
    ∀ x H3, (Itt K b).yld i H2 x H3 -> ∀ os : St, os.length = 1 -> gNm 0 x (os ++ []) H3 fun σ2 H0 => (∃ os' : St, os'.length = 1 /\ σ2 = os' ++ []) /\ tCl (spMd C n) [] E0 (tCn (tVr 0) tNl) σ2 H0 fun y H4 => H4 D = some (.lst ys) /\ ∃ m', m' < m /\ W (i + 1) m' (ys ++ [y]) (upd H4 D (.lst (ys ++ [y]))))) := by
 have ly := ry.length;rw [List.length_map] at ly;refine lcG_tup (a := b) (xs := ys) (fun i zs H' => Ext H1 H' /\ All0 C H' (rs.take i) zs) (by rw [sizeLine_eq]; omega) ⟨Ext.new hD, rfl, fun i r w h => by simp at h⟩ (fun i zs H' pv => SqT.of (pv.1 _ _ hb)) ?_ ?_
 ·rintro i x zs H' ex lz hDD ⟨x', al⟩ os los R k;obtain ⟨o0, rfl⟩ : ∃ o0, os = [o0] := by
   match os, los with
   | [o0], _ => exact ⟨o0, rfl⟩
  have hi : i < rs.length := by have := (List.getElem?_eq_some_iff.mp ex).1; omega
  have er := List.getElem?_eq_getElem hi;obtain ⟨d, ed, rd⟩ := ry.get ex;rw [List.getElem?_map, er] at ed;cases ed;refine ⟨⟨[some x], rfl, rfl⟩, _, rfl, x, .one rs[i], rfl, rd.mono x', ok _ (List.getElem_mem hi), Nat.zero_le _, fun y H4 x4 ru => k _ H4 (x4 _ _ hDD) ⟨ext_upd _ (x'.trans x4) hD, ?_⟩⟩;rw [take_all er];exact (all0_app (al.ext x4) ru).keepT (kpu _ (x4 _ _ hDD))
 ·rintro zs H' lz hDD ⟨x', al⟩;rw [ly, List.take_length] at al;exact hd zs H' x' hDD al
theorem ok_mdS {fd : FuncData} {n : Nat} (F : Fun K "_law_made" "_law_made" sMd f fd) (L : Mks P w K mg base C CN CS CT CM f0 f1 f2 f3 f4 e0 e1 e2 e3 e4) (A1 : Df P w K mg base CX0 (8 + n) "_law_made" ["_law_told"] (spMd C n) f fd) : FnOk P w K mg base CX0 (8 + (n + 1)) f fd ["_law_told"] (spMd C (n + 1)) := by
 refine F.ok scMd (fun vs H Q E h => ?_) (fun cdv A outer s H vs Q E hr h => ?_)
 ·obtain ⟨_, _, rfl, _⟩ := h;rfl
 obtain ⟨v, t, rfl, rd, ok, hg, q⟩ := h;have hr7 : Room 7 _ := hr.mono (show 7 <= 8 + n by omega)
 have hr5 : Room 5 _ := hr.mono (show 5 <= 8 + n by omega)
 obtain ⟨q0⟩ := md_0 L hr7 (f := f) (cdv := cdv) (A := A) (outer := outer) (s := s) (H := H) (E := E);obtain ⟨q1⟩ := md_1 L hr7 (f := f) (cdv := cdv) (A := A) (outer := outer) (s := s) (H := H) (E := E);obtain ⟨q2⟩ := md_2 L hr7 (f := f) (cdv := cdv) (A := A) (outer := outer) (s := s) (H := H) (E := E);refine ⟨tSq (tMd0 K C CN) (tSq (tMd1 K C CN CS) (tSq (tMd2 K C CN CS) (tSq (tIfS (tW K 0 "blocks") (tRet (tMake (C 3) (spBlI K C CT CM) [] E0 (tCn (tLCG (iTup K (tIxT K 0 1)) 1 [] (gNm 0) (tCl (spMd C n) [] E0 (tCn (tVr 0) tNl))) tNl))) tNext) (tRet (tMake (C 4) (spFiI C CN) [] E0 (tCn (tCl (spMd C n) [] E0 (tCn (tIxT K 0 1) tNl)) (tCn (tIxT K 0 2) tNl))))))),
  psc q0 (psc q1 (psc q2 (psc (ps_if (pt_cmpR op_eq (pxr ixt (pv 0) pei) pe_str (nomark _)) (pss_one (prt (pe_make L.k3 L.g3 hr5 rfl L.m3 L.b3 .nil passN (pac (pe_lcG (te := tCl (spMd C n) [] E0 (tCn (tVr 0) tNl)) (g := gNm 0) rfl compMd (pi_tup (pxr ixt (pv 0) pei)) (fun s H C fp => by exact pgn (i := 0) ndFo rfl (.inl rfl)) (fun s H C fp => by exact pec A1.G hr rfl A1.m A1.kp A1.b .nil pass0 (pac (pv 0) pan))) pan)))) psn)
   (pss_one (prt (pe_make L.k4 L.g4 hr5 rfl L.m4 L.b4 .nil passN (pac (pec A1.G hr rfl A1.m A1.kp A1.b .nil pass0 (pac (pxr ixt (pv 0) pei) pan)) (pac (pxr ixt (pv 0) pei) pan)))))))), ?_⟩
 cases t with
 | one r => exact rd_md (De := ⟨_, Q, _, _⟩) rd ok q
 | blocks rs =>
  obtain ⟨a, b, ys, rfl, ha, hb, ry⟩ := tl_blocks rd;obtain ⟨o1, o6, oo, o20⟩ := id ok;refine rd_ifF (by decide +kernel) rfl ha (rd_ifF (by decide +kernel) rfl ha (rd_ifF (by decide +kernel) rfl ha (rd_ifT rfl ha ?_)))
  refine rxT 1 rfl ha rfl ⟨b, rfl, ⟨_, SqT.of hb⟩, fun D hD => lc_made hb ry oo o6 hD fun ws H2 x2 h2 al => ?_⟩;exact mk_blocks (σ := [some (.ref a)]) (t := fun _ _ R => R [.ref D] H2) (fun R r => r) h2 al ok fun x H' x' ru => q x H' (x2.trans x') ru
 | first t m =>
  obtain ⟨a, u, rfl, ha, ru⟩ := tl_first rd;obtain ⟨o1, o2, o3⟩ := id ok;refine rd_ifF (by decide +kernel) rfl ha (rd_ifF (by decide +kernel) rfl ha (rd_ifF (by decide +kernel) rfl ha (rd_ifF (by decide +kernel) rfl ha ?_)))
  have hg' : t.hgt <= n := by have : t.hgt + 1 <= n + 1 := hg; omega
  refine rxT 1 rfl ha rfl ⟨u, t, rfl, ru, o1, hg', fun y H1 x1 r1 => rxT 2 rfl (x1 _ _ ha) rfl ?_⟩;exact mk_first (σ := [some (.ref a)]) (t := fun _ _ R => R [.ref y, .int m] H1) (fun R r => r) r1 ok fun x H' x' ru => q x H' (x1.trans x') ru
theorem ok_md {fd : FuncData} (F : Fun K "_law_made" "_law_made" sMd f fd) (L : Mks P w K mg base C CN CS CT CM f0 f1 f2 f3 f4 e0 e1 e2 e3 e4) (b : Binds K fd ["_law_told"] []) (kp : keepIn K (.ref f) = true) (m : mg "_law_made" = some (.ref f)) : ∀ n, FnOk P w K mg base CX0 (8 + n) f fd ["_law_told"] (spMd C n)
 | 0 => ok_md0 F L
 | n + 1 => ok_mdS F L ⟨ok_md F L b kp m n, b, kp, m⟩
end
section
variable {P : Program} {w : World} {K : Frag} {mg : Str -> Option Value} {base : Heap} {C : Nat -> Addr} {CR : Addr}
abbrev sBg : Stmt := top 47
theorem scBg : FnScope ["_law_told"] ["_law_told"] (defScope sBg) := mkSc
def spBg (n : Nat) : Sp := fun vs H Q _ => ∃ v t, vs = [v] /\ Rds H v (Rl.told t) /\ t.ok /\ t.hgt <= n /\ ∀ b H', Ext H H' -> Rds H' b t.begin -> Q b H'
variable {f : Addr}
theorem ok_bgA {fd : FuncData} {n k : Nat} {t2 t3 : TS} (F : Fun K "_law_begin" "_law_begin" sBg f fd) (hk : ∀ cdv A outer s H E, Room k (A.deeper (PyProof.Rows.envOfC "_law_begin" (defScope sBg) s.heap.objs.size f cdv)) -> PSs (cxOf CX0 P w K mg base ["_law_told"] "_law_begin" (defScope sBg) f cdv A outer s H E).nox (defBody sBg) (tSq (tIfS (tW K 0 "split") (tRet (tIxT K 0 2)) tNext) (tSq (tIfS (tW K 0 "coins") (tRet (tC (.int 0))) tNext) (tSq (tIfS (tW K 0 "blocks") t2 tNext) (tSq (tIfS (tW K 0 "first") t3 tNext) (tRet (tC .non)))))))
  (h2 : ∀ De a b ys (rs : List R0) H, H a = some (.tup [.str "blocks", .ref b]) -> H b = some (.tup ys) -> RdsAll H ys (rs.map R0.told) -> (Rl.blocks rs).ok -> 1 <= n -> (∀ b H', Ext H H' -> Rds H' b (Rl.blocks rs).begin -> De.rt b H') -> t2 De [some (.ref a)] H)
  (h3 : ∀ De a u t m H, H a = some (.tup [.str "first", u, .int m]) -> Rds H u (Rl.told t) -> t.ok -> t.hgt + 1 <= n -> (∀ b H', Ext H H' -> Rds H' b t.begin -> De.rt b H') -> t3 De [some (.ref a)] H) : FnOk P w K mg base CX0 (k + 1) f fd ["_law_told"] (spBg n) := by
 refine F.ok scBg (fun vs H Q E h => ?_) (fun cdv A outer s H vs Q E hr h => ?_)
 ·obtain ⟨_, _, rfl, _⟩ := h;rfl
 obtain ⟨v, t, rfl, rd, ok, hg, q⟩ := h;refine ⟨_, hk cdv A outer s H E hr, ?_⟩;cases t with
 | one r =>
  cases r with
  | split n k =>
   obtain ⟨a, rfl, ha⟩ := tl_split rd;exact rd_ifT rfl ha (rxT 2 rfl ha rfl (q _ H (Ext.refl _) (.int _)))
  | pairs n x y =>
   obtain ⟨a, c, rfl, ha, rc⟩ := tl_pairs rd;exact rd_ifF (by decide +kernel) rfl ha (rd_ifF (by decide +kernel) rfl ha (rd_ifF (by decide +kernel) rfl ha (rd_ifF (by decide +kernel) rfl ha (q _ H (Ext.refl _) .non))))
  | coins n x y g =>
   obtain ⟨a, c, rfl, ha, rc⟩ := tl_coins rd;exact rd_ifF (by decide +kernel) rfl ha (rd_ifT rfl ha (q _ H (Ext.refl _) (.int _)))
 | blocks rs =>
  obtain ⟨a, b, ys, rfl, ha, hb, ry⟩ := tl_blocks rd;exact rd_ifF (by decide +kernel) rfl ha (rd_ifF (by decide +kernel) rfl ha (rd_ifT rfl ha (h2 ⟨_, Q, _, _⟩ a b ys rs H ha hb ry ok hg q)))
 | first t m =>
  obtain ⟨a, u, rfl, ha, ru⟩ := tl_first rd;exact rd_ifF (by decide +kernel) rfl ha (rd_ifF (by decide +kernel) rfl ha (rd_ifF (by decide +kernel) rfl ha (rd_ifT rfl ha (h3 ⟨_, Q, _, _⟩ a u t m H ha ru ok.1 hg q))))
theorem ok_bg {fd : FuncData} (F : Fun K "_law_begin" "_law_begin" sBg f fd) (b : Binds K fd ["_law_told"] []) (kp : keepIn K (.ref f) = true) (m : mg "_law_begin" = some (.ref f)) : ∀ n, FnOk P w K mg base CX0 (n + 1) f fd ["_law_told"] (spBg n)
 | 0 => ok_bgA (n := 0) (k := 0) (t2 := fun _ _ _ => False) (t3 := fun _ _ _ => False) F (fun cdv A outer s H E hr => psc (ps_if (pt_cmpR op_eq (pxr ixt (pv 0) pei) pe_str (nomark _)) (pss_one (prt (pxr ixt (pv 0) pei))) psn) (psc (ps_if (pt_cmpR op_eq (pxr ixt (pv 0) pei) pe_str (nomark _)) (pss_one (prt pei)) psn)
   (psc (ps_if (pt_cmpR op_eq (pxr ixt (pv 0) pei) pe_str (nomark _)) (pss_one ps_never) psn) (psc (ps_if (pt_cmpR op_eq (pxr ixt (pv 0) pei) pe_str (nomark _)) (pss_one ps_never) psn) (pss_one (prt pe_non))))))
   (fun _ _ _ _ _ _ _ _ _ _ h => absurd h (by decide)) (fun _ _ _ _ _ _ _ _ _ h => absurd h (by omega))
 | n + 1 => ok_bgA (n := n + 1) (k := n + 1) (t2 := tRet (tTup (tCn (tC (.int 0)) (tCn (tCl (spBg n) [] E0 (tCn (tOp (rIxT K) (tIxT K 0 1) (tC (.int 0))) tNl)) tNl)))) (t3 := tRet (tCl (spBg n) [] E0 (tCn (tIxT K 0 1) tNl))) F
   (fun cdv A outer s H E hr => psc (ps_if (pt_cmpR op_eq (pxr ixt (pv 0) pei) pe_str (nomark _)) (pss_one (prt (pxr ixt (pv 0) pei))) psn) (psc (ps_if (pt_cmpR op_eq (pxr ixt (pv 0) pei) pe_str (nomark _)) (pss_one (prt pei)) psn)
    (psc (ps_if (pt_cmpR op_eq (pxr ixt (pv 0) pei) pe_str (nomark _)) (pss_one (prt (pe_tup (pac pei (pac (pec (ok_bg F b kp m n) hr rfl m kp b .nil pass0 (pac (pxr ixt (pxr ixt (pv 0) pei) pei) pan)) pan))))) psn)
    (psc (ps_if (pt_cmpR op_eq (pxr ixt (pv 0) pei) pe_str (nomark _)) (pss_one (prt (pec (ok_bg F b kp m n) hr rfl m kp b .nil pass0 (pac (pxr ixt (pv 0) pei) pan)))) psn) (pss_one (prt pe_non))))))
   (fun De a b ys rs H ha hb ry ok hn q => by
    obtain ⟨o1, o6, oo, o20⟩ := id ok;cases rs with
    | nil => exact absurd o1 (by show ¬ 1 <= 0; decide)
    | cons r rs =>
     cases ry with
     | cons r1 ry =>
      refine rd_op (rxT 1 rfl ha rfl ⟨b, _, _, _, rfl, rfl, SqT.of hb, atN (j := 0) rfl, _, .one r, rfl, r1, oo r (List.mem_cons_self ..), Nat.zero_le _, fun c H1 x1 rc => ⟨by show 2 <= sizeLine; decide, fun k hk => q _ _ (x1.trans (Ext.new hk)) (.tup uds (.cons (.int _) (.cons (rc.mono (Ext.new hk)) .nil)))⟩⟩))
   (fun De a u t m H ha ru ok hn q => rxT 1 rfl ha rfl ⟨u, t, rfl, ru, ok, by omega, q⟩)
end
theorem lookup_two {n m z : Str} {a b c : Addr} (h : List.lookup z [(n, a), (m, b)] = some c) : (z = n /\ c = a) \/ (z = m /\ c = b) := by
 rw [List.lookup_cons] at h;cases e : z == n with
 | true =>
  rw [e] at h;exact .inl ⟨beq_iff_eq.mp e, (Option.some.inj h).symm⟩
 | false =>
  rw [e] at h;exact .inr (lookup_one h)
theorem sum_le_of {m : Int} : ∀ {rs : List R0}, (∀ r ∈ rs, r.folk <= m) -> (rs.map R0.folk).sum <= rs.length * m
 | [], _ => by simp
 | r :: rs, h => by
  have h1 := h r (List.mem_cons_self ..);have h2 := sum_le_of fun x hx => h x (List.mem_cons_of_mem _ hx);simp only [List.map_cons, List.sum_cons, List.length_cons];have : ((rs.length + 1 : Nat) : Int) * m = rs.length * m + m := by rw [Int.natCast_add, Int.add_mul]; omega
  omega
section
variable {P : Program} {w : World} {K : Frag} {mg : Str -> Option Value} {base : Heap} {C : Nat -> Addr} {CR : Addr}
abbrev sDn : Stmt := top 44
abbrev NDn : List Str := ["_law_xs", "_law_most", "_law_told", "_law_many"]
theorem scDn : FnScope NDn ["_law_xs", "_law_most"] (defScope sDn) := mkSc
def spDn : Sp := fun vs H Q _ => ∃ (p : Addr) (ns : List Int), vs = [.ref p, .int 10] /\ Nx H p ns 53 /\ ∀ a t H', Ext H H' -> Rds H' (.ref a) (Rl.told t) -> t.ok -> t.hgt <= 3 -> Q (.ref a) H'
abbrev scDnC : Scope := { kind := .function, names := [(".0", .local), ("_law_k", .local), ("_law_one", .globalImplicit), ("_law_most", .free), ("_law_xs", .free)], isGenerator := false, isCoroutine := false }
variable {f : Addr} {cdv : Value} {A : Around} {outer : List Env} {s : Shared} {H : Hp} {E : XK}
theorem compDn : CompG (cxOf CX0 P w K mg base NDn "_law_drawn" (defScope sDn) f cdv A outer s H E).nox scDnC [("_law_xs", s.heap.objs.size + 1), ("_law_most", s.heap.objs.size + 2)] ["_law_k"] ["_law_most", "_law_xs"] [1, 0] := by
 refine ⟨rfl, rfl, by decide +kernel, by decide +kernel, by decide +kernel, (fun z c h => ?_), (fun z h => ?_), by decide +kernel, (fun k z h => ?_), rfl⟩
 ·rcases lookup_two h with ⟨rfl, rfl⟩ | ⟨rfl, rfl⟩
  ·rfl
  ·rfl
 ·have h' : List.lookup z [((".0" : Str), NameKind.local), (("_law_k" : Str), NameKind.local), (("_law_one" : Str), NameKind.globalImplicit), (("_law_most" : Str), NameKind.cell), (("_law_xs" : Str), NameKind.cell)] = some .cell \/ List.lookup z [((".0" : Str), NameKind.local), (("_law_k" : Str), NameKind.local), (("_law_one" : Str), NameKind.globalImplicit), (("_law_most" : Str), NameKind.cell), (("_law_xs" : Str), NameKind.cell)] = some .free := h;have e : z = "_law_most" \/ z = "_law_xs" := by
   simp only [List.lookup_cons, List.lookup_nil] at h'
   repeat' (split at h')
   all_goals first | (simp at h'; done) | (rename_i e; exact .inl (beq_iff_eq.mp e)) | (rename_i e; exact .inr (beq_iff_eq.mp e))
  rcases e with rfl | rfl
  ·exact ⟨_, rfl⟩
  ·exact ⟨_, rfl⟩
 ·match k, h with
  | 0, h => cases h; exact ⟨1, rfl, rfl, .inr (.inl rfl), (by show (defScope sDn).names.lookup ("_law_most" : Str) ≠ some NameKind.local; decide +kernel), .inl rfl⟩
  | 1, h => cases h; exact ⟨0, rfl, rfl, .inr (.inl rfl), (by show (defScope sDn).names.lookup ("_law_xs" : Str) ≠ some NameKind.local; decide +kernel), .inl rfl⟩
theorem ndDn : ((["_law_k"] : List Str) ++ (["_law_most", "_law_xs"] : List Str)).Nodup := by decide +kernel
def rMx2 : List V -> Hp -> VK -> Prop := fun xs H Q => ∃ i j, xs = [.int i, .int j] /\ Q (.int (if j > i then j else i)) H
def rTpO (K : Frag) : List V -> Hp -> VK -> Prop := fun xs H Q => ∃ p ys, xs = [.ref p] /\ ((SqL K H p ys /\ ∀ l, H l = none -> Q (.ref l) (upd H l (.tup ys))) \/ (SqT K H p ys /\ Q (.ref p) H))
def tDn0 : TS := tAg (tCl spOn [] E0 (tCn (tVr 0) (tCn (tVr 1) tNl))) (gNm 2)
def tDnA (K : Frag) : TS := tAg (tOp (rIxL K) (tLst (tCn (tC (.int 1)) (tCn (tC (.int 2)) (tCn (tC (.int 3)) (tCn (tAd (tC (.int 4)) (tMd (tXs K 0 8) (tC (.int 3)))) tNl))))) (tXs K 0 6)) (gNm 3)
def tDnB : TS := tAg (tCB rMx2 (tCn (tC (.int 1)) (tCn (tDv (tVr 1) (tCB rMx2 (tCn (tC (.int 2)) (tCn (tVr 3) tNl)))) tNl))) (gNm 1)
def tOnK (K : Frag) : TE := tCl spOn [] E0 (tCn (tSl (rSlL K) (tVr 2) (tPart (tAd (tC (.int 9)) (tOp (rI CMul fun i j => .int (i * j)) (tC (.int 7)) (tVr 0)))) tNoPart) (tCn (tVr 1) tNl))
def tDnC (K : Frag) : TS := tAg (tTup (tCn (tC (.str "blocks")) (tCn (tCB (rTpO K) (tCn (tLCG (iRng1 (tCn (tVr 3) tNl)) 1 [1, 0] (gNm 0) (tOnK K)) tNl)) tNl))) (gNm 2)
def tDn1 (K : Frag) : TS := tIfS (tB (tOp (rI0 fun i j => .bl (decide (i < j))) (tXs K 0 6) (tC (.int 4)))) (tSq (tDnA K) (tSq tDnB (tDnC K))) tNext
def tWrap (K : Frag) (j : Nat) : TS := tAg (tTup (tCn (tC (.str "first")) (tCn (tVr 2) (tCn (tMd (tXs K 0 j) (tAd (tCl spFo [] E0 (tCn (tVr 2) tNl)) (tC (.int 1)))) tNl)))) (gNm 2)
def tDn2 (K : Frag) : TS := tIfS (tB (tOp (rI0 fun i j => .bl (decide (i < j))) (tXs K 0 7) (tC (.int 3)))) (tWrap K 51) tNext
def tDn3 (K : Frag) : TS := tIfS (tB (tOp rEq (tXs K 0 7) (tC (.int 2)))) (tWrap K 52) tNext
def tDn4 : TS := tRet (tVr 2)
def tDn (K : Frag) : TS := tSq tDn0 (tSq (tDn1 K) (tSq (tDn2 K) (tSq (tDn3 K) tDn4)))
variable {a1 a2 : Addr} {d1 d2 : FuncData}
theorem dn_der (A1 : Df P w K mg base CX0 4 "_law_one" ["_law_xs", "_law_most"] spOn a1 d1) (A2 : Df P w K mg base CX0 2 "_law_folk" ["_law_told"] spFo a2 d2) (mx : mg "max" = none) (mt : mg "tuple" = none) (mr : mg "range" = none) (hr : Room 4 (A.deeper (PyProof.Rows.envOfC "_law_drawn" (defScope sDn) s.heap.objs.size f cdv))) : Bx (PSs (cxOf CX0 P w K mg base NDn "_law_drawn" (defScope sDn) f cdv A outer s H E).nox (defBody sDn) (tDn K)) := by
 have nd := scDn.nd;have hr2 : Room 2 _ := hr.mono (by decide)
 exact bsc (bx_set (i := 2) nd rfl (Or.inl rfl) ⟨pec A1.G hr rfl A1.m A1.kp A1.b .nil pass0 (pac (pv 0) (pac (pv 1) pan))⟩)
  (bsc ⟨ps_if (pt_cmpR op_lt (pxr ixl (pv 0) pei) pei (nomark _))
   (psc (pst (i := 3) nd rfl (Or.inl rfl) (pxr ixl (pe_lst (pac pei (pac pei (pac pei (pac (pe_op op_add pei (pe_op op_mod (pxr ixl (pv 0) pei) pei)) pan))))) (pxr ixl (pv 0) pei)))
   (psc (pst (i := 1) nd rfl (Or.inr rfl) (pe_callB (call_max2 rfl) rfl mx PyProof.Rows.boot_max (pac pei (pac (pe_op op_fdiv (pv 1) (pe_callB (call_max2 rfl) rfl mx PyProof.Rows.boot_max (pac pei (pac (pv 3) pan)))) pan))))
   (pss_one (pst (i := 2) nd rfl (Or.inl rfl) (pe_tup (pac pe_str (pac (pe_callTy call_tuple_of rfl mt PyProof.Rows.boot_tuple (pac (pe_lcG (te := tOnK K) (g := gNm 0) rfl compDn (pi_range1 rfl mr (pac (pv 3) pan)) (fun s H C fp => by exact pgn (i := 0) ndDn rfl (.inl rfl)) (fun s H C fp => by exact pec A1.G hr rfl A1.m A1.kp A1.b .nil pass0 (pac (pe_slice sl_list (pv 2) (po_some (pe_op op_add pei (pe_op op_mul pei (pv 0)))) po_none) (pac (pv 1) pan)))) pan)) pan))))))) psn⟩
  (bsc ⟨ps_if (pt_cmpR op_lt (pxr ixl (pv 0) pei) pei (nomark _)) (pss_one (pst (i := 2) nd rfl (Or.inl rfl) (pe_tup (pac pe_str (pac (pv 2) (pac (pe_op op_mod (pxr ixl (pv 0) pei) (pe_op op_add (pec A2.G hr2 rfl A2.m A2.kp A2.b .nil pass0 (pac (pv 2) pan)) pei)) pan)))))) psn⟩
  (bsc ⟨ps_if (pt_cmpR op_eq (pxr ixl (pv 0) pei) pei (nomark _)) (pss_one (pst (i := 2) nd rfl (Or.inl rfl) (pe_tup (pac pe_str (pac (pv 2) (pac (pe_op op_mod (pxr ixl (pv 0) pei) (pe_op op_add (pec A2.G hr2 rfl A2.m A2.kp A2.b .nil pass0 (pac (pv 2) pan)) pei)) pan)))))) psn⟩
  (bxs_one ⟨prt (pv 2)⟩))))
theorem rd_asgL {De : Ends} {σ : St} {te : TE} {g : TG} (h : te σ H fun x H1 => g x σ H1 De.nx) : tAg te g De σ H := h
theorem rd_wrap {De : Ends} {p a : Addr} {ns : List Int} {x : Int} {t : Rl} {o1 o3 : Option V} (j : Nat) (nx : Nx H p ns 53) (e : ns[j]? = some x) (x0 : 0 <= x) (rd : Rds H (.ref a) t.told) (ok : t.ok) (q : ∀ b m H', Ext H H' -> Rds H' (.ref b) (Rl.told (.first t m)) -> (Rl.first t m).ok -> De.nx [some (.ref p), o1, some (.ref b), o3] H') : tWrap K j De [some (.ref p), o1, some (.ref a), o3] H := by
 have fk := Rl.folk_ok ok;unfold tWrap;refine rd_asgL ⟨_, rfl, rd_op (rd_xs j rfl nx.at_ e (rd_op ⟨_, rfl, _, t, rfl, rd, ok, fun H1 x1 => ⟨_, _, rfl, rfl, _, _, rfl, rfl, (by show (0 : Int) < t.folk + 1; omega), by show 3 <= sizeLine; decide, fun b hb => ?_⟩⟩))⟩
 have x2 := Ext.new (o := .tup [.str "first", .ref a, .int (x % (t.folk + 1))]) hb;have m0 : 0 <= x % (t.folk + 1) := Int.emod_nonneg _ (by omega)
 have m1 : x % (t.folk + 1) < t.folk + 1 := Int.emod_lt_of_pos _ (by omega)
 exact q b (x % (t.folk + 1)) _ (x1.trans x2) (.tup uds (.cons (.str _) (.cons (rd.mono (x1.trans x2)) (.cons (.int _) .nil)))) ⟨ok, m0, by omega⟩
theorem rd_wraps {Q : VK} {p a : Addr} {ns : List Int} {t : Rl} {o1 o3 : Option V} (nx : Nx H p ns 53) (rd : Rds H (.ref a) t.told) (ok : t.ok) (hg : t.hgt <= 1) (q : ∀ b t' H', Ext H H' -> Rds H' (.ref b) (Rl.told t') -> t'.ok -> t'.hgt <= 3 -> Q (.ref b) H') : tSq (tDn2 K) (tSq (tDn3 K) tDn4) ⟨fun _ H' => Q .non H', Q, fun _ _ => False, fun _ _ => False⟩ [some (.ref p), o1, some (.ref a), o3] H := by
 obtain ⟨x7, e7, n7⟩ := nx.get (i := 7) (by decide)
 obtain ⟨x51, e51, n51⟩ := nx.get (i := 51) (by decide)
 obtain ⟨x52, e52, n52⟩ := nx.get (i := 52) (by decide)
 have last : ∀ {H1 : Hp} {a1 : Addr} {t1 : Rl}, Ext H H1 -> Rds H1 (.ref a1) t1.told -> t1.ok -> t1.hgt <= 2 -> tSq (tDn3 K) tDn4 ⟨fun _ H' => Q .non H', Q, fun _ _ => False, fun _ _ => False⟩ [some (.ref p), o1, some (.ref a1), o3] H1 := fun {H1 a1 t1} x1 r1 k1 h1 => by
  have nx1 := nx.ext x1;refine rd_xs 7 rfl nx1.at_ e7 ⟨rfl, _, rfl, ?_⟩;refine ite2 (fun c => ?_) (fun c => ⟨_, rfl, q a1 t1 H1 x1 r1 k1 (by omega)⟩)
  exact rd_wrap 52 nx1 e52 n52 r1 k1 fun b m H2 x2 r2 k2 => ⟨_, rfl, q b _ H2 (x1.trans x2) r2 k2 (by show t1.hgt + 1 <= 3; omega)⟩
 refine rd_xs 7 rfl nx.at_ e7 ⟨_, _, rfl, rfl, _, rfl, ?_⟩;refine ite2 (fun c => ?_) (fun c => last (Ext.refl _) rd ok (by omega))
 exact rd_wrap 51 nx e51 n51 rd ok fun b m H2 x2 r2 k2 => last x2 r2 k2 (by show t.hgt + 1 <= 2; omega)
theorem lc_ones {H1 : Hp} {D p : Addr} {ns : List Int} {m : Int} {n : Nat} {Q : Hp -> Prop} (nx : Nx H1 p ns 53) (n6 : n <= 6) (m1 : 1 <= m) (m20 : m <= 20) (hD : H1 D = none) (hd : ∀ zs rs H, Ext H1 H -> H D = some (.lst zs) -> RdsAll H zs (List.map R0.told rs) -> rs.length = n -> (∀ r ∈ rs, r.ok /\ r.folk <= m) -> Q H) :
  ∃ W : Nat -> Nat -> List V -> Hp -> Prop, (∃ m, W 0 m [] (upd H1 D (.lst []))) /\
   ∀ i m' ys H2, W i m' ys H2 -> H2 D = some (.lst ys) /\ (((Itr 0 n).stop i H2 /\ Q H2) \/ ((Itr 0 n).go i H2 /\ ys.length < sizeLine /\
    ∀ x H3, (Itr 0 n).yld i H2 x H3 -> ∀ os : St, os.length = 1 -> gNm 0 x (os ++ [some (.int m), some (.ref p)]) H3 fun σ2 H0 => (∃ os' : St, os'.length = 1 /\ σ2 = os' ++ [some (.int m), some (.ref p)]) /\ tOnK K σ2 H0 fun y H4 => H4 D = some (.lst ys) /\ ∃ m'', m'' < m' /\ W (i + 1) m'' (ys ++ [y]) (upd H4 D (.lst (ys ++ [y]))))) := by
 refine lcG_range (lo := 0) (n := n) (fun i zs H' => Ext H1 H' /\ ∃ rs : List R0, RdsAll H' zs (rs.map R0.told) /\ rs.length = i /\ ∀ r ∈ rs, r.ok /\ r.folk <= m) (by rw [sizeLine_eq]; omega) ⟨Ext.new hD, [], .nil, rfl, fun r h => nomatch h⟩ ?_ ?_
 ·rintro i zs H' hi lz hDD ⟨x', rs, rz, lr, ok⟩ os los R k;obtain ⟨o0, rfl⟩ : ∃ o0, os = [o0] := by
   match os, los with
   | [o0], _ => exact ⟨o0, rfl⟩
  have nx' := nx.ext x';refine ⟨⟨[some (.int (0 + i))], rfl, rfl⟩, ?_⟩;show tSl (rSlL K) (tVr 2) (tPart (tAd (tC (.int 9)) (tOp (rI CMul fun i j => .int (i * j)) (tC (.int 7)) (tVr 0)))) tNoPart [some (.int (0 + i)), some (.int m), some (.ref p)] H' _;refine ⟨_, rfl, _, rfl, 7, 0 + (i : Int), rfl, rfl, .inl ⟨by decide, by decide⟩, 9, 7 * (0 + (i : Int)), rfl, rfl, 9 + 7 * (0 + (i : Int)), rfl, p, _, rfl, SqL.of nx'.at_, fun l hl => ?_⟩
  have x1 := Ext.new (o := .lst (cutV (ns.map V.int) (some (9 + 7 * (0 + (i : Int)))) none)) hl;have hl1 : upd H' l (.lst (cutV (ns.map V.int) (some (9 + 7 * (0 + (i : Int)))) none)) l = some (.lst (cutV (ns.map V.int) (some (9 + 7 * (0 + (i : Int)))) none)) := uds;have ec : cutV (ns.map V.int) (some (9 + 7 * (0 + (i : Int)))) none = (ns.drop (9 + 7 * i)).map V.int := by
   rw [List.map_drop, show (9 + 7 * (0 + (i : Int))) = ((9 + 7 * i : Nat) : Int) from by omega]
   exact cut_from _ _
  generalize upd H' l (.lst (cutV (ns.map V.int) (some (9 + 7 * (0 + (i : Int)))) none)) = H2 at x1 hl1 ⊢;rw [ec] at hl1;have := nx.len;refine ⟨_, rfl, l, ns.drop (9 + 7 * i), m, rfl, Nx.drop (Nat.le_refl _) hl1 (by omega) nx.nn, m1, m20, fun t r H4 x4 rt ko fo => ?_⟩
  have hD4 : H4 D = some (.lst zs) := x4 _ _ (x1 _ _ hDD);have kp := kpu (.lst (zs ++ [.ref t])) hD4;refine k _ H4 hD4 ⟨ext_upd _ ((x'.trans x1).trans x4) hD, rs ++ [r], ?_, by rw [List.length_append, lr]; rfl, fun z hz => ?_⟩
  ·rw [List.map_append];refine RdsAll.append (RdsAll.keepT kp (noLsts_of fun d hd => ?_) (rz.mono (x1.trans x4))) (.cons (rt.keepT kp r.nl) .nil);obtain ⟨r', _, rfl⟩ := List.mem_map.mp hd;exact r'.nl
  ·rcases List.mem_append.mp hz with h | h
   ·exact ok z h
   ·rw [List.mem_singleton.mp h];exact ⟨ko, fo⟩
 ·rintro zs H' lz hDD ⟨x', rs, rz, lr, ok⟩;exact hd zs rs H' x' hDD rz lr ok
theorem ok_dn {fd : FuncData} (F : Fun K "_law_drawn" "_law_drawn" sDn f fd) (A1 : Df P w K mg base CX0 4 "_law_one" ["_law_xs", "_law_most"] spOn a1 d1) (A2 : Df P w K mg base CX0 2 "_law_folk" ["_law_told"] spFo a2 d2) (mx : mg "max" = none) (mt : mg "tuple" = none) (mr : mg "range" = none) : FnOk P w K mg base CX0 5 f fd ["_law_xs", "_law_most"] spDn := by
 refine F.ok scDn (fun vs H Q E h => ?_) (fun cdv A outer s H vs Q E hr h => ?_)
 ·obtain ⟨_, _, rfl, _⟩ := h;rfl
 obtain ⟨p, ns, rfl, nx, q⟩ := h;obtain ⟨der⟩ := dn_der A1 A2 mx mt mr hr (f := f) (cdv := cdv) (A := A) (outer := outer) (s := s) (H := H) (E := E);refine ⟨_, der, ?_⟩;obtain ⟨x6, e6, n6⟩ := nx.get (i := 6) (by decide)
 obtain ⟨x8, e8, n8⟩ := nx.get (i := 8) (by decide)
 have nx6 : Nx H p ns 6 := ⟨nx.at_, by have := nx.len; omega, nx.nn⟩
 refine rd_set (te := tCl spOn [] E0 (tCn (tVr 0) (tCn (tVr 1) tNl))) (i := 2) (D := ⟨_, Q, _, _⟩) ⟨_, rfl, _, rfl, p, ns, 10, rfl, nx6, by decide, by decide, fun t r H1 x1 rt ko _ => ?_⟩
 show tSq (tDn1 K) _ _ [some (.ref p), some (.int 10), some (.ref t), none] H1;have nx1 := nx.ext x1;refine rd_xs 6 rfl nx1.at_ e6 ⟨_, _, rfl, rfl, _, rfl, ?_⟩;refine ite2 (fun c => ?_) (fun c => rd_wraps nx1 (t := .one r) rt ko (Nat.zero_le _) fun b t' H' x' => q b t' H' (x1.trans x'));have c4 : x6 < 4 := of_decide_eq_true c;refine rd_set (te := tOp (rIxL K) (tLst (tCn (tC (.int 1)) (tCn (tC (.int 2)) (tCn (tC (.int 3)) (tCn (tAd (tC (.int 4)) (tMd (tXs K 0 8) (tC (.int 3)))) tNl))))) (tXs K 0 6)) (i := 3) (D := ⟨_, Q, _, _⟩) (rd_op (rd_lst (rd_op (rd_xs 8 rfl nx1.at_ e8 ⟨_, _, rfl, rfl, (by show (0 : Int) < 3; decide), _, _, rfl, rfl, by show 4 <= sizeLine; decide, fun l hl => ?_⟩))))
 have d0 : 0 <= x8 % 3 := Int.emod_nonneg _ (by decide)
 have d1 : x8 % 3 < 3 := Int.emod_lt_of_pos _ (by decide)
 have x2 := Ext.new (o := .lst [.int 1, .int 2, .int 3, .int (4 + x8 % 3)]) hl;have hl2 : upd H1 l (.lst [.int 1, .int 2, .int 3, .int (4 + x8 % 3)]) l = some (.lst [.int 1, .int 2, .int 3, .int (4 + x8 % 3)]) := uds;show tXs K 0 6 [some (.ref p), some (.int 10), some (.ref t), none] (upd H1 l (.lst [.int 1, .int 2, .int 3, .int (4 + x8 % 3)])) _;generalize upd H1 l (.lst [.int 1, .int 2, .int 3, .int (4 + x8 % 3)]) = H2 at x2 hl2 ⊢;have nx2 := nx1.ext x2;have x02 := x1.trans x2;have fin : ∀ n : Nat, 1 <= n -> n <= 6 -> tSq tDnB (tDnC K) ⟨fun σ' H' => tSq (tDn2 K) (tSq (tDn3 K) tDn4) ⟨fun _ H' => Q .non H', Q, fun _ _ => False, fun _ _ => False⟩ σ' H', Q, fun _ _ => False, fun _ _ => False⟩ [some (.ref p), some (.int 10), some (.ref t), some (.int n)] H2 := fun n h1 h6 => by
  refine rd_set (te := tCB rMx2 (tCn (tC (.int 1)) (tCn (tDv (tVr 1) (tCB rMx2 (tCn (tC (.int 2)) (tCn (tVr 3) tNl)))) tNl))) (i := 1) (D := ⟨_, Q, _, _⟩) ⟨_, rfl, _, rfl, 2, (n : Int), rfl, 10, (if (n : Int) > 2 then (n : Int) else 2), rfl, rfl, ⟨by split <;> omega, by split <;> omega⟩, 1, 10 / (if (n : Int) > 2 then (n : Int) else 2), rfl, ?_⟩
  obtain ⟨m, em, m1, m20, mn⟩ : ∃ m : Int, (if 10 / (if (n : Int) > 2 then (n : Int) else 2) > 1 then 10 / (if (n : Int) > 2 then (n : Int) else 2) else 1) = m /\ 1 <= m /\ m <= 20 /\ (n : Int) * m <= 20 := by
   refine ⟨_, rfl, ?_⟩
   match n, h1, h6 with
   | 1, _, _ | 2, _, _ | 3, _, _ | 4, _, _ | 5, _, _ | 6, _, _ => decide
  rw [em];show tDnC K _ [some (.ref p), some (.int m), some (.ref t), some (.int n)] H2;refine ⟨_, rfl, (n : Int), rfl, by omega, by omega, fun D hD => ?_⟩
  rw [show (n : Int).toNat = n from Int.toNat_natCast n];refine lc_ones (K := K) nx2 h6 m1 m20 hD fun zs rs H3 x3 h3 rz lr oks => ⟨D, zs, rfl, .inl ⟨SqL.of h3, fun b hb => ⟨by show 2 <= sizeLine; decide, fun a ha => ?_⟩⟩⟩
  have x4 := Ext.new (o := .tup zs) hb;have x5 := Ext.new (o := .tup [.str "blocks", .ref b]) ha;have hb4 : upd H3 b (.tup zs) b = some (.tup zs) := uds;have sl := sum_le_of fun r hr => (oks r hr).2;rw [lr] at sl;refine rd_wraps (t := .blocks rs) (nx2.ext ((x3.trans x4).trans x5)) (.tup uds (.cons (.str _) (.cons (.tup (x5 _ _ hb4) (rz.mono (x4.trans x5))) .nil))) ⟨by omega, by omega, fun r hr => (oks r hr).1, by omega⟩ (Nat.le_refl _) fun b t' H' x' => q b t' H' (((x02.trans x3).trans (x4.trans x5)).trans x')
 obtain ⟨n, hn, h1, h6⟩ : ∃ n : Nat, ([.int 1, .int 2, .int 3, .int (4 + x8 % 3)] : List V)[x6.toNat]? = some (.int n) /\ 1 <= n /\ n <= 6 := by
  obtain ⟨k, hk⟩ : ∃ k : Nat, x6.toNat = k := ⟨_, rfl⟩;have k4 : k < 4 := by omega
  rw [hk]
  match k, k4 with
  | 0, _ => exact ⟨1, rfl, by decide, by decide⟩
  | 1, _ => exact ⟨2, rfl, by decide, by decide⟩
  | 2, _ => exact ⟨3, rfl, by decide, by decide⟩
  | 3, _ => exact ⟨(4 + x8 % 3).toNat, by rw [Int.toNat_of_nonneg (by omega)]; rfl, by omega, by omega⟩
 have e6' : x6 = (x6.toNat : Int) := by omega
 refine rd_xs 6 rfl nx2.at_ e6 ⟨l, _, x6, _, rfl, rfl, SqL.of hl2, by rw [e6']; exact atN hn, fin n h1 h6⟩
end
theorem lookup_three {n m k z : Str} {a b d c : Addr} (h : List.lookup z [(n, a), (m, b), (k, d)] = some c) : (z = n /\ c = a) \/ (z = m /\ c = b) \/ (z = k /\ c = d) := by
 rw [List.lookup_cons] at h;cases e : z == n with
 | true =>
  rw [e] at h;exact .inl ⟨beq_iff_eq.mp e, (Option.some.inj h).symm⟩
 | false =>
  rw [e] at h;exact .inr (lookup_two h)
section
variable {P : Program} {w : World} {K : Frag} {mg : Str -> Option Value} {base : Heap} {C : Nat -> Addr} {CR f a1 n1 : Addr} {fd d1 : FuncData}
abbrev sBS : Stmt := inClass (top 36) 3
abbrev NBS : List Str := ["self", "state", "at", "number", "inner", "ways"]
theorem scBS : FnScope NBS ["self", "state", "at"] (defScope sBS) := mkSc
abbrev scBSC : Scope := { kind := .function, names := [(".0", .local), ("hand", .local), ("share", .local), ("behind", .local), ("at", .free), ("number", .free), ("self", .free)], isGenerator := false, isCoroutine := false }
section
variable {cdv : Value} {A : Around} {outer : List Env} {s : Shared} {H : Hp} {E : XK}
theorem compBS : CompG (cxOf CX0 P w K mg base NBS "Blocks.steps" (defScope sBS) f cdv A outer s H E).nox scBSC [("self", s.heap.objs.size + 1), ("number", s.heap.objs.size + 3), ("at", s.heap.objs.size + 2)] ["hand", "share", "behind"] ["at", "number", "self"] [2, 3, 0] := by
 refine ⟨rfl, rfl, by decide +kernel, by decide +kernel, by decide +kernel, (fun z c h => ?_), (fun z h => ?_), by decide +kernel, (fun k z h => ?_), rfl⟩
 ·rcases lookup_three h with ⟨rfl, rfl⟩ | ⟨rfl, rfl⟩ | ⟨rfl, rfl⟩
  ·rfl
  ·rfl
  ·rfl
 ·have h' : List.lookup z [((".0" : Str), NameKind.local), (("hand" : Str), NameKind.local), (("share" : Str), NameKind.local), (("behind" : Str), NameKind.local), (("at" : Str), NameKind.cell), (("number" : Str), NameKind.cell), (("self" : Str), NameKind.cell)] = some .cell \/ List.lookup z [((".0" : Str), NameKind.local), (("hand" : Str), NameKind.local), (("share" : Str), NameKind.local), (("behind" : Str), NameKind.local), (("at" : Str), NameKind.cell), (("number" : Str), NameKind.cell), (("self" : Str), NameKind.cell)] = some .free := h;have e : z = "at" \/ z = "number" \/ z = "self" := by
   simp only [List.lookup_cons, List.lookup_nil] at h'
   repeat' (split at h')
   all_goals first | (simp at h'; done) | (rename_i e; exact .inl (beq_iff_eq.mp e)) | (rename_i e; exact .inr (.inl (beq_iff_eq.mp e))) | (rename_i e; exact .inr (.inr (beq_iff_eq.mp e)))
  rcases e with rfl | rfl | rfl
  ·exact ⟨_, rfl⟩
  ·exact ⟨_, rfl⟩
  ·exact ⟨_, rfl⟩
 ·match k, h with
  | 0, h => cases h; exact ⟨2, rfl, rfl, .inr (.inl rfl), (by show (defScope sBS).names.lookup ("at" : Str) ≠ some NameKind.local; decide +kernel), .inl rfl⟩
  | 1, h => cases h; exact ⟨3, rfl, rfl, .inr (.inl rfl), (by show (defScope sBS).names.lookup ("number" : Str) ≠ some NameKind.local; decide +kernel), .inl rfl⟩
  | 2, h => cases h; exact ⟨0, rfl, rfl, .inr (.inl rfl), (by show (defScope sBS).names.lookup ("self" : Str) ≠ some NameKind.local; decide +kernel), .inl rfl⟩
end
theorem ndBS : ((["hand", "share", "behind"] : List Str) ++ (["at", "number", "self"] : List Str)).Nodup := by decide +kernel
def tSBk (C : Nat -> Addr) : TE := tMethD (fun c => c = C 3) "state_behind" (fun _ => spSB C) E0 (tVr 5) (tCn (tVr 4) (tCn (tVr 3) (tCn (tVr 2) tNl)))
def tStE (C : Nat -> Addr) : TE := tTup (tCn (tVr 0) (tCn (tVr 1) (tCn (tSBk C) tNl)))
def gSt (K : Frag) : TG := gTup K 3 (gCons (gNm 0) (gCons (gNm 1) (gCons (gNm 2) gNil)))
def tWaysB (K : Frag) (C : Nat -> Addr) : TE := tMethD (fun c => ∃ i, i < 3 /\ c = C i) "steps" (spStp K C) E0 (tOp (rIxT K) (tFld K (tVr 0) "rules") (tVr 3)) (tCn (tVr 4) (tCn (oSub (tVr 2) (tOp (rIxT K) (tOp (rIxT K) (tFld K (tVr 0) "parts") (tVr 3)) (tC (.int 0)))) tNl))
def tBS0 (K : Frag) : TS := tAg (tVr 1) (gTup K 2 (gCons (gNm 3) (gCons (gNm 4) gNil)))
def tBS2 (K : Frag) (C : Nat -> Addr) : TE := tLCG (iList K (tVr 5)) 3 [2, 3, 0] (gSt K) (tStE C)
def tBS (K : Frag) (C : Nat -> Addr) : TS := tSq (tBS0 K) (tSq (tAg (tWaysB K C) (gNm 5)) (tRet (tBS2 K C)))
section
variable {cdv : Value} {A : Around} {outer : List Env} {s : Shared} {H : Hp} {E : XK}
theorem bs_der (M0 : MethS P w K mg base CX0 5 "steps" ["self", "state", "at"] (fun c => ∃ i, i < 3 /\ c = C i) (spStp K C)) (MB : MethS P w K mg base CX0 3 "state_behind" ["self", "number", "at", "inner"] (fun c => c = C 3) (fun _ => spSB C)) (hr : Room 5 (A.deeper (PyProof.Rows.envOfC "Blocks.steps" (defScope sBS) s.heap.objs.size f cdv))) : Bx (PSs (cxOf CX0 P w K mg base NBS "Blocks.steps" (defScope sBS) f cdv A outer s H E).nox (defBody sBS) (tBS K C)) := by
 have nd := scBS.nd;have hr3 : Room 3 _ := hr.mono (by decide)
 exact bsc ⟨ps_asg (pv 1) (pg_tup rfl (pgc (pgn (i := 3) nd rfl (Or.inr rfl)) (pgc (pgn (i := 4) nd rfl (Or.inl rfl)) pgs_nil)))⟩
  (bsc (bx_set (i := 5) nd rfl (Or.inl rfl) ⟨pe_methD (pxr ixt (pef (pv 0) rfl) (pv 3)) M0 hr pass0 (pac (pv 4) (pac (pe_op op_sub (pv 2) (pxr ixt (pxr ixt (pef (pv 0) rfl) (pv 3)) pei)) pan))⟩)
  (bxs_one (bx_ret ⟨pe_lcG (te := tStE C) (g := gSt K) rfl compBS (pi_list (pv 5)) (fun s H C fp => by exact pg_tup rfl (pgc (pgn (i := 0) ndBS rfl (.inl rfl)) (pgc (pgn (i := 1) ndBS rfl (.inl rfl)) (pgc (pgn (i := 2) ndBS rfl (.inl rfl)) pgs_nil)))) (fun s H C fp => by exact pe_tup (pac (pv 0) (pac (pv 1) (pac (pe_methD (pv 5) MB hr3 pass0 (pac (pv 4) (pac (pv 3) (pac (pv 2) pan)))) pan))))⟩)))
end
theorem lc_st {H1 : Hp} {D l o : Addr} {ps : List V} {ss : List Stp} {x : Int} {n : Nat} {rs : List R0} {r : R0} {Q : Hp -> Prop} (hl : H1 l = some (.lst ps)) (al : StA K H1 ps ss) (gd : ∀ s ∈ ss, s.good) (len : ps.length <= 10) (ru : RuB C H1 rs (.ref o)) (er : rs[n]? = some r) (ok : r.ok) (hD : H1 D = none)
  (hd : ∀ zs H, Ext H1 H -> H D = some (.lst zs) -> StA K H zs (ss.map fun s => { s with next := nextB rs n x s.next }) -> Q H) :
  ∃ W : Nat -> Nat -> List V -> Hp -> Prop, (∃ m, W 0 m [] (upd H1 D (.lst []))) /\
   ∀ i m' ys H2, W i m' ys H2 -> H2 D = some (.lst ys) /\ (((Itl K l).stop i H2 /\ Q H2) \/ ((Itl K l).go i H2 /\ ys.length < sizeLine /\
    ∀ x' H3, (Itl K l).yld i H2 x' H3 -> ∀ os : St, os.length = 3 -> gSt K x' (os ++ [some (.int x), some (.int (n : Nat)), some (.ref o)]) H3 fun σ2 H0 => (∃ os' : St, os'.length = 3 /\ σ2 = os' ++ [some (.int x), some (.int (n : Nat)), some (.ref o)]) /\ tStE C σ2 H0 fun y H4 => H4 D = some (.lst ys) /\ ∃ m'', m'' < m' /\ W (i + 1) m'' (ys ++ [y]) (upd H4 D (.lst (ys ++ [y]))))) := by
 refine lcG_list (a := l) (xs := ps) (fun i zs H' => Ext H1 H' /\ StA K H' zs ((ss.take i).map fun s => { s with next := nextB rs n x s.next })) (by rw [sizeLine_eq]; omega) ⟨Ext.new hD, .nil⟩ (fun i ys H' pv => SqL.of (pv.1 _ _ hl)) ?_ ?_
 ·rintro i v ys H' ev ly hDD ⟨x', sy⟩ os los R k;obtain ⟨o0, o1, o2, rfl⟩ : ∃ o0 o1 o2, os = [o0, o1, o2] := by
   match os, los with
   | [o0, o1, o2], _ => exact ⟨o0, o1, o2, rfl⟩
  obtain ⟨t, et, ht⟩ := al.get ev;obtain ⟨a, sv, nv, rfl, ha, hs, hn⟩ := ht.ext x';refine ⟨a, _, rfl, SqT.of ha, rfl, _, _, rfl, _, _, rfl, _, _, rfl, rfl, ⟨[some (.int t.hand), some sv, some nv], rfl, rfl⟩, ?_⟩;have ru' := RuB.ext ru x';obtain ⟨o', dx, fs, e0, ho, _, _, _, _, hm, _⟩ := ru'.ex;cases e0;refine ⟨_, rfl, _, rfl, _, rfl, o, C 3, dx, fs, rfl, rfl, ho, hm _ (by decide +kernel), _, rfl, _, rfl, _, rfl, o, n, x, nv, t.next, rs, r, rfl, ru', er, ok, hn, fun m H4 x4 rm => ⟨by show 3 <= sizeLine; decide, fun p hp => ?_⟩⟩
  have x5 := Ext.new (o := .tup [.int t.hand, sv, .ref m]) hp;have g5 : upd H4 p (.tup [.int t.hand, sv, .ref m]) p = some (.tup [.int t.hand, sv, .ref m]) := uds;generalize upd H4 p (.tup [.int t.hand, sv, .ref m]) = H5 at x5 g5 ⊢;have x45 := x4.trans x5;have hD5 := x45 _ _ hDD;have kp := kpu (.lst (ys ++ [.ref p])) hD5;refine k _ H5 hD5 ⟨ext_upd _ (x'.trans x45) hD, ?_⟩;rw [take_all et, List.map_append];refine StA.keepT kp (StA.app (sy.ext x45) (.cons ⟨p, sv, .ref m, rfl, g5, hs.ext x45, rm.mono x5⟩ .nil)) fun z hz => ?_;rcases List.mem_append.mp hz with z1 | z1
  ·obtain ⟨q, hq, rfl⟩ := List.mem_map.mp z1;exact next_nl (gd q (List.mem_of_mem_take hq)).nl
  ·rw [List.mem_singleton.mp z1];exact next_nl (gd t (List.mem_of_getElem? et)).nl
 ·rintro ys H' ly hDD ⟨x', sy⟩;rw [al.len, List.take_length] at sy;exact hd ys H' x' hDD sy
theorem steps_len (r : R0) (sd : PyData) (x : Int) : (r.steps sd x).length <= 2 := by
 unfold R0.steps;split
 ·rw [List.length_append];split <;> split <;> simp
 ·simp
 ·simp
 ·split
  ·simp
  ·split <;> simp
 ·simp
theorem ok_bs (Z : KR K C CR) (F : Fun K "steps" "Blocks.steps" sBS f fd) (M0 : MethS P w K mg base CX0 5 "steps" ["self", "state", "at"] (fun c => ∃ i, i < 3 /\ c = C i) (spStp K C)) (MB : MethS P w K mg base CX0 3 "state_behind" ["self", "number", "at", "inner"] (fun c => c = C 3) (fun _ => spSB C)) : FnOk P w K mg base CX0 6 f fd ["self", "state", "at"] (spStp K C (C 3)) := by
 refine F.ok scBS (fun vs H Q E h => ?_) (fun cdv A outer s H vs Q E hr h => ?_)
 ·obtain ⟨_, _, _, _, _, rfl, _⟩ := h;rfl
 obtain ⟨v, st, x, t, sd, rfl, ru, ec, ok, x0, x1, vs, rd, q⟩ := h;obtain ⟨der⟩ := bs_der M0 MB hr (f := f) (cdv := cdv) (A := A) (outer := outer) (s := s) (H := H) (E := E);refine ⟨_, der, ?_⟩;have ek := Z.inj t.kind_lt (by decide) ec
 cases t with
 | one r => have : r.kind = 3 := ek; have := r.kind_lt; omega
 | first t m => have : 4 = 3 := ek; omega
 | blocks rs =>
  obtain ⟨i, inner, r, rfl, er, s0, s1, vr⟩ := vs;obtain ⟨o1, o6, oo, o20⟩ := ok;have okr := oo r (List.mem_of_getElem? er);cases rd with
  | tup ha ra =>
   rename_i a us
   cases ra with
   | cons r1 ra =>
    cases r1;cases ra with
    | cons rin ra =>
     cases ra
     rename_i iv
     obtain ⟨o, dx, fs, rfl, ho, _, _, _, ⟨p, hp, rp⟩, hm, l, ws, hl, hw, al⟩ := Ob.ex ru;obtain ⟨pa, us, b, rfl, hpa, hb, hu⟩ := part_of rp er;have fk := R0.folk_ok okr;obtain ⟨m, em⟩ : ∃ m, r.folk.toNat = m + 1 := ⟨r.folk.toNat - 1, by omega⟩
     have hi : i < rs.length := (List.getElem?_eq_some_iff.mp er).1;have lw := al.1;have ew : ws[i]? = some ws[i] := List.getElem?_eq_getElem (by omega)
     have ri := al.2 i r _ er ew;have u0 : ((upI (startB rs i) r.folk.toNat).map V.int)[0]? = some (.int (startB rs i)) := by rw [em, List.getElem?_map, upI_head]; rfl
     refine ⟨_, rfl, a, _, rfl, SqT.of ha, rfl, _, _, rfl, _, _, rfl, rfl, ?_⟩;show tSq (tAg (tWaysB K C) (gNm 5)) (tRet (tBS2 K C)) _ [some (.ref o), some (.ref a), some (.int x), some (.int (i : Nat)), some iv, none] H;have fld : ∀ {R : VK} {fn : Str} {y : V}, fn ∈ fNames -> fs.lookup fn = some y -> R y H -> tFld K (tVr 0) fn [some (.ref o), some (.ref a), some (.int x), some (.int (i : Nat)), some iv, none] H R := fun hf e r => ⟨_, rfl, o, C 3, dx, fs, _, rfl, ho, Z.cls 3 (by decide), Z.no 3 (by decide) _ hf, e, r⟩
     refine rd_set (te := tWaysB K C) (i := 5) (D := ⟨_, Q, _, _⟩) (rd_methS (t := .one r) (v := ws[i]) (by decide +kernel) ri ⟨_, r.kind_lt, rfl⟩ (fun R z => ⟨_, rfl, o, C 3, dx, fs, _, rfl, ho, Z.cls 3 (by decide), Z.no 3 (by decide) "rules" (by decide +kernel), hl, _, rfl, l, ws, _, _, rfl, rfl, SqT.of hw, atN ew, z⟩) ?_)
     refine ⟨_, rfl, _, rfl, _, rfl, o, C 3, dx, fs, _, rfl, ho, Z.cls 3 (by decide), Z.no 3 (by decide) "parts" (by decide +kernel), hp, _, rfl, pa, us, _, _, rfl, rfl, SqT.of hpa, atN hb, b, _, 0, _, rfl, rfl, SqT.of hu, atN (j := 0) u0, _, _, rfl, rfl, ?_⟩
     refine ⟨ws[i], iv, x - startB rs i, .one r, inner, rfl, ri, rfl, okr, by omega, by show x - startB rs i < r.folk; omega, vr, rin, fun lw' H1 x1 sl => ?_⟩
     obtain ⟨ps, hps, alp⟩ := sl.2;show tRet (tBS2 K C) _ [some (.ref o), some (.ref a), some (.int x), some (.int (i : Nat)), some iv, some (.ref lw')] H1;have ls : ps.length <= 10 := by
      have := steps_len r inner (x - startB rs i);rw [alp.len];exact Nat.le_trans this (by decide)
     have gd := (R0.steps_ok okr (x := x - startB rs i) (by omega) (by omega) vr).1
     refine ⟨_, rfl, lw', rfl, ⟨_, SqL.of hps⟩, fun D hD => ?_⟩;refine lc_st (K := K) hps alp (fun s hs => (gd s hs).1) ls (RuB.ext ru x1) er okr hD fun zs H2 x2 h2 al2 => q D H2 (x1.trans x2) ⟨x1.back hD, zs, h2, ?_⟩;have es : (Rl.blocks rs).steps (.tuple [.int (i : Nat), inner]) x = (r.steps inner (x - startB rs i)).map fun s => { s with next := nextB rs i x s.next } := by
      simp only [Rl.steps, Int.toNat_natCast, er]
     rw [es];exact al2
theorem Rl.steps_len : ∀ (t : Rl) (sd : PyData) (x : Int), (t.steps sd x).length <= 2
 | .one r, sd, x => My.steps_len r sd x
 | .first t _, sd, x => Rl.steps_len t sd x
 | .blocks rs, sd, x => by
  unfold Rl.steps
  repeat' split
  all_goals first | exact Nat.zero_le _ | (rw [List.length_map]; exact My.steps_len _ _ _) | (rename_i h; cases h) | (rename_i h _; cases h) | contradiction
abbrev sFS : Stmt := inClass (top 37) 1
theorem scFS : FnScope ["self", "state", "at"] ["self", "state", "at"] (defScope sFS) := mkSc
theorem Rl.inner_kind : ∀ (t : Rl), t.inner.kind < 4
 | .one r => by have := r.kind_lt; show r.kind < 4; omega
 | .blocks _ => by show 3 < 4; decide
 | .first t _ => Rl.inner_kind t
theorem ok_fs (Z : KR K C CR) (F : Fun K "steps" "First.steps" sFS f fd) (M1 : MethS P w K mg base CX0 6 "steps" ["self", "state", "at"] (fun c => ∃ i, i < 4 /\ c = C i) (spStp K C)) : FnOk P w K mg base CX0 7 f fd ["self", "state", "at"] (spStp K C (C 4)) := by
 refine F.ok scFS (fun vs H Q E h => ?_) (fun cdv A outer s H vs Q E hr h => ?_)
 ·obtain ⟨_, _, _, _, _, rfl, _⟩ := h;rfl
 obtain ⟨v, st, x, t, sd, rfl, ru, ec, ok, x0, x1, vs, rd, q⟩ := h;refine ⟨_, pss_one (prt (pe_methD (pef (pv 0) rfl) M1 hr pass0 (pac (pv 1) (pac (pv 2) pan)))), ?_⟩;have ek := Z.inj t.kind_lt (by decide) ec
 cases t with
 | one r => have : r.kind = 4 := ek; have := r.kind_lt; omega
 | blocks rs => have : 3 = 4 := ek; omega
 | first t m =>
  obtain ⟨o1, o2, o3⟩ := ok;obtain ⟨o, dx, fs, rfl, ho, _, _, _, _, hm, d, hd, rn⟩ := Ob.ex ru;obtain ⟨i1, i2⟩ := Rl.inner_ok o1;have xm : x < m := x1;refine rd_methS (t := t.inner) (v := d) (by decide +kernel) rn.ru ⟨_, t.inner_kind, rfl⟩ (fun R z => ⟨_, rfl, o, C 4, dx, fs, _, rfl, ho, Z.cls 4 (by decide), Z.no 4 (by decide) "dealer" (by decide +kernel), hd, z⟩) ?_
  refine ⟨_, rfl, _, rfl, d, st, x, t.inner, sd, rfl, rn.ru, rfl, i1, x0, by omega, Rl.inner_vst t x sd vs, rd, fun l H' x' sl => q l H' x' ⟨sl.1, ?_⟩⟩
  have sl' := sl.2;rw [Rl.inner_steps] at sl';exact sl'
end
def Rl.tp : Rl -> Bool
 | .one _ => false
 | .blocks _ => true
 | .first t _ => t.tp
theorem R0.vst_key {r : R0} {x : Int} {st : PyData} (v : r.vst x st) : ∃ k, st = keyD k := by
 cases r with
 | split n k => obtain ⟨s, rfl, _⟩ := v; exact ⟨.inl s, rfl⟩
 | pairs n a b =>
  rcases v with ⟨_, rfl⟩ | ⟨_, rfl | rfl⟩
  ·exact ⟨.non, rfl⟩
  ·exact ⟨.inl 0, rfl⟩
  ·exact ⟨.inl 1, rfl⟩
 | coins n a b f => obtain ⟨s, rfl, _⟩ := v; exact ⟨.inl s, rfl⟩
theorem R0.begin_key (r : R0) : ∃ k, r.begin = keyD k := by
 cases r with
 | split n k => exact ⟨.inl k, rfl⟩
 | pairs n a b => exact ⟨.non, rfl⟩
 | coins n a b f => exact ⟨.inl 0, rfl⟩
theorem one_ky {d : PyData} (h : ∃ k, d = keyD k) : ∃ ks, KyOk false ks /\ d = kD false ks := by
 obtain ⟨k, rfl⟩ := h;exact ⟨[k], fun _ => ⟨k, rfl⟩, rfl⟩
theorem two_ky {i : Int} {d : PyData} (h : ∃ k, d = keyD k) : ∃ ks, KyOk true ks /\ PyData.tuple [.int i, d] = kD true ks := by
 obtain ⟨k, rfl⟩ := h;exact ⟨[.inl i, k], (fun z => nomatch z), rfl⟩
theorem Rl.begin_key : ∀ (t : Rl), t.ok -> ∃ ks, KyOk t.tp ks /\ t.begin = kD t.tp ks
 | .one r, _ => one_ky r.begin_key
 | .blocks rs, ok => by
  obtain ⟨o1, o6, oo, o20⟩ := ok;cases rs with
  | nil => exact absurd o1 (by decide)
  | cons r rs => exact two_ky r.begin_key
 | .first t _, ok => Rl.begin_key t ok.1
theorem ahead_key (rs : List R0) (n : Nat) : ∃ ks, KyOk true ks /\ aheadD rs n = kD true ks := by
 unfold aheadD;cases rs[n]? with
 | none => exact two_ky ⟨.non, rfl⟩
 | some r => exact two_ky r.begin_key
theorem Rl.next_key : ∀ {t : Rl} {x : Int} {st : PyData}, t.ok -> 0 <= x -> x < t.folk -> t.vst x st -> ∀ s ∈ t.steps st x, ∃ ks, KyOk t.tp ks /\ s.next = kD t.tp ks
 | .one r, x, st, ok, x0, x1, v, s, hs => one_ky (R0.vst_key ((R0.steps_ok ok x0 x1 v).1 s hs).2)
 | .blocks rs, x, st, ok, x0, x1, v, s, hs => by
  obtain ⟨i, inner, r, rfl, er, s0, s1, v⟩ := v;obtain ⟨o1, o6, oo, o20⟩ := ok;have es : (Rl.blocks rs).steps (.tuple [.int (i : Nat), inner]) x = (r.steps inner (x - startB rs i)).map fun s => { s with next := nextB rs i x s.next } := by
   simp only [Rl.steps, Int.toNat_natCast, er]
  rw [es] at hs;obtain ⟨q, hq, rfl⟩ := List.mem_map.mp hs;have vn := ((R0.steps_ok (oo r (List.mem_of_getElem? er)) (x := x - startB rs i) (by omega) (by omega) v).1 q hq).2
  show ∃ ks, KyOk true ks /\ nextB rs i x q.next = kD true ks;unfold nextB;split
  ·exact ahead_key rs _
  ·exact two_ky (R0.vst_key vn)
 | .first t m, x, st, ok, x0, x1, v, s, hs => by
  obtain ⟨o1, o2, o3⟩ := ok;have xm : x < m := x1;exact Rl.next_key (t := t) o1 x0 (by omega) v s hs
def ddB : List R0 -> Int -> Nat
 | [], _ => 1
 | r :: rs, x => if x < r.folk then r.dd x else ddB rs (x - r.folk)
def Rl.dd : Rl -> Int -> Nat
 | .one r, x => r.dd x
 | .blocks rs, x => ddB rs x
 | .first t _, x => t.dd x
theorem start_cons (r : R0) (rs : List R0) (i : Nat) : startB (r :: rs) (i + 1) = r.folk + startB rs i := by
 unfold startB;rw [List.take_succ_cons, List.map_cons, List.sum_cons]
theorem start_nn : ∀ {rs : List R0}, (∀ r ∈ rs, r.ok) -> ∀ i, 0 <= startB rs i
 | _, _, 0 => by simp [startB]
 | [], _, i + 1 => by simp [startB]
 | r :: rs, oo, i + 1 => by
  have h1 := R0.folk_ok (oo r (List.mem_cons_self ..));have h2 := start_nn (fun q hq => oo q (List.mem_cons_of_mem _ hq)) i;rw [start_cons];omega
theorem ddB_at : ∀ {rs : List R0} {i : Nat} {r : R0} {x : Int}, (∀ r ∈ rs, r.ok) -> rs[i]? = some r -> startB rs i <= x -> x < startB rs i + r.folk -> ddB rs x = r.dd (x - startB rs i)
 | [], i, r, x, _, h, _, _ => by simp at h
 | q :: rs, 0, r, x, oo, h, h0, h1 => by
  cases h;have e : startB (q :: rs) 0 = 0 := by simp [startB]
  rw [e] at h0 h1 ⊢;unfold ddB;rw [if_pos (by omega), Int.sub_zero]
 | q :: rs, i + 1, r, x, oo, h, h0, h1 => by
  have oo' : ∀ r ∈ rs, r.ok := fun z hz => oo z (List.mem_cons_of_mem _ hz);have nn := start_nn oo' i;rw [start_cons] at h0 h1 ⊢;unfold ddB;rw [if_neg (by omega), ddB_at (rs := rs) (i := i) (r := r) oo' h (by omega) (by omega)]
  congr 1
  omega
theorem Rl.sum_dd : ∀ {t : Rl} {x : Int} {st : PyData}, t.ok -> 0 <= x -> x < t.folk -> t.vst x st -> 1 <= t.dd x /\ t.dd x <= 100 /\ (∀ s ∈ t.steps st x, s.b ∣ t.dd x) /\ ((t.steps st x).map fun s => s.part (t.dd x)).sum = t.dd x
 | .one r, x, st, ok, x0, x1, v => R0.sum_one ok x0 x1 v
 | .blocks rs, x, st, ok, x0, x1, v => by
  obtain ⟨i, inner, r, rfl, er, s0, s1, v⟩ := v;obtain ⟨o1, o6, oo, o20⟩ := ok;have es : (Rl.blocks rs).steps (.tuple [.int (i : Nat), inner]) x = (r.steps inner (x - startB rs i)).map fun s => { s with next := nextB rs i x s.next } := by
   simp only [Rl.steps, Int.toNat_natCast, er]
  have ed : (Rl.blocks rs).dd x = r.dd (x - startB rs i) := ddB_at oo er s0 s1;obtain ⟨h1, h2, h3, h4⟩ := R0.sum_one (oo r (List.mem_of_getElem? er)) (x := x - startB rs i) (by omega) (by omega) v
  rw [es, ed, List.map_map];refine ⟨h1, h2, fun s hs => ?_, h4⟩;obtain ⟨q, hq, rfl⟩ := List.mem_map.mp hs;exact h3 q hq
 | .first t m, x, st, ok, x0, x1, v => by
  obtain ⟨o1, o2, o3⟩ := ok;have xm : x < m := x1;exact Rl.sum_dd (t := t) o1 x0 (by omega) v
theorem low_step {A N D M t b : Nat} (hD : 0 < D) (hM : 0 < M) (hb : 0 < b) (dv : b ∣ M) : lowT (lowT A (D * M) * lowBt N D * b + lowT N D * t * lowBt A (D * M)) (lowBt A (D * M) * lowBt N D * b) = lowT (A + N * (t * (M / b))) (D * M) /\ lowBt (lowT A (D * M) * lowBt N D * b + lowT N D * t * lowBt A (D * M)) (lowBt A (D * M) * lowBt N D * b) = lowBt (A + N * (t * (M / b))) (D * M) := by
 have p1 : 0 < lowBt A (D * M) := lowBt_pos (Nat.mul_pos hD hM);have p2 : 0 < lowBt N D := lowBt_pos hD;have c1 : lowT A (D * M) * (D * M) = lowBt A (D * M) * A := low_cross;have c2 : lowT N D * D = lowBt N D * N := low_cross;obtain ⟨m, rfl⟩ := dv;rw [Nat.mul_div_cancel_left _ hb];refine low_ratio (Nat.mul_pos (Nat.mul_pos p1 p2) hb) (Nat.mul_pos hD hM) ?_;generalize lowT A (D * (b * m)) = a0 at c1 ⊢;generalize lowBt A (D * (b * m)) = a1 at c1 ⊢;generalize lowT N D = n0 at c2 ⊢;generalize lowBt N D = n1 at c2 ⊢
 calc (a0 * n1 * b + n0 * t * a1) * (D * (b * m)) = (a0 * (D * (b * m))) * (n1 * b) + (n0 * D) * (t * a1 * (b * m)) := by rw [Nat.add_mul]; congr 1 <;> ac_rfl
  _ = (a1 * A) * (n1 * b) + (n1 * N) * (t * a1 * (b * m)) := by rw [c1, c2]
  _ = (A + N * (t * m)) * (a1 * n1 * b) := by rw [Nat.add_mul]; congr 1 <;> ac_rfl
theorem low_tot {S N D : Nat} (hD : 0 < D) : lowT (lowT S D * lowBt N D + lowT N D * lowBt S D) (lowBt S D * lowBt N D) = lowT (S + N) D /\ lowBt (lowT S D * lowBt N D + lowT N D * lowBt S D) (lowBt S D * lowBt N D) = lowBt (S + N) D := by
 have h := tot_next (S := S) (F := D) (a := lowT N D) (b := lowBt N D) hD low_dd (lowBt_pos hD);rw [low_part hD] at h;exact h
theorem sz_of {n : Nat} (h : n <= 10 ^ 300) : Sz n := Nat.lt_of_le_of_lt h (Nat.lt_of_lt_of_le (by decide : (10 : Nat) ^ 300 < 2 ^ 1000) (Nat.pow_le_pow_right (by decide) (by decide)))
theorem lowT_le {N D : Nat} : lowT N D <= N := Nat.div_le_self _ _
section
variable {K : Frag} {te : TE} {tt : TT} {cap : St} {D : Addr} {H1 : Hp} {Q : Hp -> Prop} {a : Addr} {xs : List V}
theorem lcI_lst (p : V -> Bool) (hz : xs.length < sizeLine) (h1 : H1 a = some (.lst xs)) (hD : H1 D = none)
  (hs : ∀ (i : Nat) x H, xs[i]? = some x -> Ext H1 H -> ∀ R : Bool -> Hp -> Prop, R (p x) H -> tt (some x :: cap) H R)
  (hd : ∀ H, Ext H1 H -> H D = some (.lst (xs.filter p)) -> Q H) :
  ∃ W : Nat -> Nat -> List V -> Hp -> Prop, (∃ m, W 0 m [] (upd H1 D (.lst []))) /\
   ∀ i m ys H2, W i m ys H2 -> H2 D = some (.lst ys) /\ (((Itl K a).stop i H2 /\ Q H2) \/ ((Itl K a).go i H2 /\ ys.length < sizeLine /\
    ∀ x H3, (Itl K a).yld i H2 x H3 -> tt (some x :: cap) H3 fun b H0 => (b = false -> ∃ m', m' < m /\ W (i + 1) m' ys H0) /\
     (b = true -> tVr 0 (some x :: cap) H0 fun y H4 => H4 D = some (.lst ys) /\ ∃ m', m' < m /\ W (i + 1) m' (ys ++ [y]) (upd H4 D (.lst (ys ++ [y])))))) := by
 refine ⟨fun i m ys H => m = xs.length - i /\ i <= xs.length /\ ys.length <= i /\ H D = some (.lst ys) /\ Ext H1 H /\ ys = (xs.take i).filter p, ⟨xs.length, by simp, Nat.zero_le _, Nat.le_refl _, uds, Ext.new hD, rfl⟩, ?_⟩
 rintro i m ys H ⟨rfl, hi, hy, hD', x', ey⟩;refine ⟨hD', ?_⟩;have q : SqL K H a xs := SqL.of (x' _ _ h1);by_cases hlt : i < xs.length
 ·refine .inr ⟨⟨xs, xs[i], q, by simp [hlt]⟩, by omega, fun x H' y => ?_⟩
  obtain ⟨e, y⟩ := y;subst e;have ex := y xs q;have et : (xs.take (i + 1)).filter p = (xs.take i).filter p ++ (if p x then [x] else []) := by
   rw [take_all ex, List.filter_append, List.filter_cons, List.filter_nil]
  refine hs i x _ ex x' _ ⟨fun b => ⟨xs.length - (i + 1), by omega, rfl, hlt, by omega, hD', x', ?_⟩, fun b => ⟨x, rfl, hD', xs.length - (i + 1), by omega, rfl, hlt, by rw [List.length_append]; show ys.length + 1 <= i + 1; omega, uds, ext_upd _ x' hD, ?_⟩⟩
  ·rw [et, b, ey]; simp
  ·rw [et, b, ey]; simp
 ·have e : i = xs.length := by omega
  subst e;rw [List.take_length] at ey;subst ey;exact .inl ⟨⟨xs, q, Nat.le_refl _⟩, hd H x' hD'⟩
theorem lcGI_lst (p : V -> Bool) (hz : xs.length < sizeLine) (h1 : H1 a = some (.lst xs)) (hD : H1 D = none)
  (hs : ∀ (i : Nat) x H, xs[i]? = some x -> Ext H1 H -> ∀ R : Bool -> Hp -> Prop, R (p x) H -> tt (some x :: cap) H R)
  (hd : ∀ H, Ext H1 H -> H D = some (.lst (xs.filter p)) -> Q H) :
  ∃ W : Nat -> Nat -> List V -> Hp -> Prop, (∃ m, W 0 m [] (upd H1 D (.lst []))) /\
   ∀ i m ys H2, W i m ys H2 -> H2 D = some (.lst ys) /\ (((Itl K a).stop i H2 /\ Q H2) \/ ((Itl K a).go i H2 /\ ys.length < sizeLine /\
    ∀ x H3, (Itl K a).yld i H2 x H3 -> ∀ os : St, os.length = 1 -> gNm 0 x (os ++ cap) H3 fun σ2 H0 => (∃ os' : St, os'.length = 1 /\ σ2 = os' ++ cap) /\ tt σ2 H0 fun b H5 => (b = false -> ∃ m', m' < m /\ W (i + 1) m' ys H5) /\
     (b = true -> tVr 0 σ2 H5 fun y H4 => H4 D = some (.lst ys) /\ ∃ m', m' < m /\ W (i + 1) m' (ys ++ [y]) (upd H4 D (.lst (ys ++ [y])))))) := by
 obtain ⟨W, w0, turn⟩ := lcI_lst (K := K) (tt := tt) (cap := cap) (D := D) (H1 := H1) (Q := Q) p hz h1 hD hs hd;refine ⟨W, w0, fun i m ys H2 w => ?_⟩;obtain ⟨hD2, alt⟩ := turn i m ys H2 w;refine ⟨hD2, ?_⟩;rcases alt with a | ⟨go, hl, st⟩
 ·exact .inl a
 ·refine .inr ⟨go, hl, fun x H3 y os los => ?_⟩;obtain ⟨o, rfl⟩ : ∃ o, os = [o] := by
   match os, los with
   | [o], _ => exact ⟨o, rfl⟩
  exact ⟨⟨[some x], rfl, rfl⟩, st x H3 y⟩
end
section
variable {P : Program} {w : World} {K : Frag} {mg : Str -> Option Value} {base : Heap} {C : Nat -> Addr} {CR f a1 a2 a3 a4 n0 n1 : Addr} {fd d1 d2 d3 d4 : FuncData}
abbrev sBC : Stmt := top 48
theorem scBC : FnScope ["_law_coin_here", "_law_zero", "_law_one_here"] ["_law_coin_here", "_law_zero", "_law_one_here"] (defScope sBC) := mkSc
theorem ok_bc (F : Fun K "_law_by_coin" "_law_by_coin" sBC f fd) : FnOk P w K mg base CX0 1 f fd ["_law_coin_here", "_law_zero", "_law_one_here"] (spCs K) := by
 refine F.ok scBC (fun vs H Q E h => ?_) (fun cdv A outer s H vs Q E hr h => ?_)
 ·obtain ⟨r, z, o, x, y, dz, dO, rfl, _⟩ := h;rfl
 obtain ⟨r, z, o, x, y, dz, dO, rfl, hr', xy, y100, rz, ro, q⟩ := h;refine ⟨_, pss_one (prt (pe_lst (pac (pe_tup (pac pei (pac (pe_tup (pac (pe_op op_sub (pxr ixt (pv 0) pei) (pxr ixt (pv 0) pei)) (pac (pxr ixt (pv 0) pei) pan))) (pac (pv 1) pan)))) (pac (pe_tup (pac pei (pac (pv 0) (pac (pv 2) pan)))) pan)))), ?_⟩;have e : (y : Int) - (x : Int) = ((y - x : Nat) : Int) := by omega
 refine ⟨_, rfl, r, _, 1, _, rfl, rfl, hr', atN (j := 1) rfl, _, rfl, r, _, 0, _, rfl, rfl, hr', atN (j := 0) rfl, _, _, rfl, rfl, _, rfl, r, _, 1, _, rfl, rfl, hr', atN (j := 1) rfl, by show 2 <= sizeLine; decide, fun m hm => ?_⟩
 have g1 : upd H m (.tup [.int ((y : Int) - (x : Int)), .int (y : Nat)]) m = some (.tup [.int (y - x : Nat), .int (y : Nat)]) := by rw [e]; exact uds
 have x1 := Ext.new (o := .tup [.int ((y : Int) - (x : Int)), .int (y : Nat)]) hm;show tVr 1 _ (upd H m (.tup [.int ((y : Int) - (x : Int)), .int (y : Nat)])) _;generalize upd H m (.tup [.int ((y : Int) - (x : Int)), .int (y : Nat)]) = H1 at x1 g1 ⊢;refine ⟨_, rfl, by show 3 <= sizeLine; decide, fun a ha => ?_⟩
 have x2 := Ext.new (o := .tup [.int 0, .ref m, z]) ha;have g2 : upd H1 a (.tup [.int 0, .ref m, z]) a = some (.tup [.int 0, .ref m, z]) := uds;generalize upd H1 a (.tup [.int 0, .ref m, z]) = H2 at x2 g2 ⊢;refine ⟨_, rfl, _, rfl, by show 3 <= sizeLine; decide, fun b hb => ⟨by show 2 <= sizeLine; decide, fun l hl => ?_⟩⟩
 have x3 := Ext.new (o := .tup [.int 1, .ref r, o]) hb;have g3 : upd H2 b (.tup [.int 1, .ref r, o]) b = some (.tup [.int 1, .ref r, o]) := uds;have x4 := Ext.new (o := .lst [.ref a, .ref b]) hl;have x24 := x3.trans x4;have x04 := (x1.trans x2).trans x24;exact q l _ x04 ⟨_, uds, .cons ⟨a, .ref m, z, rfl, x24 _ _ g2, ⟨m, rfl, SqT.of ((x2.trans x24) _ _ g1)⟩, rz.mono x04⟩ (.cons ⟨b, .ref r, o, rfl, x4 _ _ g3, ⟨r, rfl, My.SqT.ext hr' x04⟩, ro.mono x04⟩ .nil)⟩
def tOneT (e n : TE) : TS := tRet (tLst (tCn (tTup (tCn e (tCn (tTup (tCn (tC (.int 1)) (tCn (tC (.int 1)) tNl))) (tCn n tNl)))) tNl))
theorem rd_oneT {D : Ends} {H : Hp} {σ : St} {e n : TE} {h : Int} {nv : V} {nd : PyData} (he : ∀ R : VK, R (.int h) H -> e σ H R) (hn : ∀ H1, ∀ R : VK, R nv H1 -> n σ H1 R) (rn : ∀ H', Rds H' nv nd) (q : ∀ l H', Ext H H' -> StL K H' l [⟨h, 1, 1, nd⟩] -> D.rt (.ref l) H') : tOneT e n D σ H := by
 refine he _ ⟨by show 2 <= sizeLine; decide, fun m hm => hn _ _ ⟨by show 3 <= sizeLine; decide, fun p hp => ⟨by show 1 <= sizeLine; decide, fun l hl => ?_⟩⟩⟩
 have x0 := Ext.new (o := .tup [.int 1, .int 1]) hm;have g0 : upd H m (.tup [.int 1, .int 1]) m = some (.tup [.int (1 : Nat), .int (1 : Nat)]) := uds;generalize upd H m (.tup [.int 1, .int 1]) = H0 at x0 g0 hp hl ⊢;have x1 := Ext.new (o := .tup [.int h, .ref m, nv]) hp;have g1 : upd H0 p (.tup [.int h, .ref m, nv]) p = some (.tup [.int h, .ref m, nv]) := uds;have x2 := Ext.new (o := .lst [.ref p]) hl;exact q l _ ((x0.trans x1).trans x2) ⟨_, uds, .cons ⟨p, .ref m, nv, rfl, x2 _ _ g1, ⟨m, rfl, SqT.of ((x1.trans x2) _ _ g0)⟩, rn _⟩ .nil⟩
abbrev sLS : Stmt := top 50
abbrev NLS : List Str := ["_law_told", "_law_state", "_law_at", "_law_left", "_law_found"]
theorem scLS : FnScope NLS ["_law_told", "_law_state", "_law_at"] (defScope sLS) := mkSc
def spLS (K : Frag) (n : Nat) : Sp := fun vs H Q _ => ∃ (v st : V) (x : Int) (t : Rl) (sd : PyData), vs = [v, st, .int x] /\ Rds H v (Rl.told t) /\ t.ok /\ t.hgt <= n /\ 0 <= x /\ x < t.folk /\ t.vst x sd /\ Rds H st sd /\ ∀ l H', Ext H H' -> StL K H' l (t.steps sd x) -> Q (.ref l) H'
abbrev scLSC : Scope := { kind := .function, names := [(".0", .local), ("_law_row_here", .local)], isGenerator := false, isCoroutine := false }
theorem compLS {X : Cx} : CompG X scLSC [] ["_law_row_here"] [] [] := by
 refine ⟨rfl, rfl, by decide +kernel, by decide +kernel, by decide +kernel, (fun z c h => nomatch h), (fun z h => ?_), by decide +kernel, (fun k z h => by simp at h), rfl⟩
 exfalso;have h' : List.lookup z scLSC.names = some .cell \/ List.lookup z scLSC.names = some .free := h;simp only [scLSC, List.lookup_cons, List.lookup_nil] at h'
 repeat' (split at h')
 all_goals simp at h'
theorem ndLS : ((["_law_row_here"] : List Str) ++ ([] : List Str)).Nodup := by decide +kernel
def oAdd (a b : TE) : TE := tOp (rI0 fun i j => .int (i + j)) a b
def tByC (K : Frag) (z o : TE) : TS := tRet (tCl (spCs K) [] E0 (tCn (tIxT K 0 2) (tCn z (tCn o tNl))))
def tLs3 (K : Frag) : TS := tIfS (tAnd (tW K 0 "pairs") (tB (tIsN (tVr 1)))) (tByC K (tC (.int 0)) (tC (.int 1))) tNext
def tLs4 (K : Frag) : TS := tIfS (tW K 0 "pairs") (tOneT (oSub (tC (.int 1)) (tVr 1)) (tC .non)) tNext
def tLs5 (K : Frag) : TS := tIfS (tW K 0 "coins") (tSq (tIfS (tB (tOp (rI0 fun i j => .bl (decide (j <= i))) (tVr 1) (tIxT K 0 3))) (tOneT (tC (.int 0)) (oSub (tVr 1) (tC (.int 1)))) tNext)
 (tSq (tIfS (tB (tOp (rI0 fun i j => .bl (decide (i <= j))) (tVr 1) (oSub (tC (.int 0)) (tIxT K 0 3)))) (tOneT (tC (.int 1)) (oAdd (tVr 1) (tC (.int 1)))) tNext)
 (tByC K (oSub (tVr 1) (tC (.int 1))) (oAdd (tVr 1) (tC (.int 1)))))) tNext
def tLs6 (K : Frag) : TS := tAg (oSub (tIxT K 0 1) (tVr 2)) (gNm 3)
def tLow (a b : TE) : TE := tCl spLow [] E0 (tCn a (tCn b tNl))
def tLs7 : TS := tAg (tLst (tCn (tTup (tCn (tC (.int 0)) (tCn (tLow (oSub (tVr 3) (tVr 1)) (tVr 3)) (tCn (tVr 1) tNl)))) (tCn (tTup (tCn (tC (.int 1)) (tCn (tLow (tVr 1) (tVr 3)) (tCn (oSub (tVr 1) (tC (.int 1))) tNl)))) tNl))) (gNm 4)
def tPos (K : Frag) : TT := tB (tOp (rI0 fun i j => .bl (decide (i > j))) (tOp (rIxT K) (tIxT K 0 1) (tC (.int 0))) (tC (.int 0)))
def tLs8 (K : Frag) : TS := tRet (tLCGif (iList K (tVr 4)) 1 [] (gNm 0) (tPos K) (tVr 0))
def tLsR (K : Frag) : TS := tSq (tLs3 K) (tSq (tLs4 K) (tSq (tLs5 K) (tSq (tLs6 K) (tSq tLs7 (tLs8 K)))))
section
variable {cdv : Value} {A : Around} {outer : List Env} {s : Shared} {H : Hp} {E : XK}
theorem ls_rest (A1 : Df P w K mg base CX0 1 "_law_by_coin" ["_law_coin_here", "_law_zero", "_law_one_here"] (spCs K) a1 d1) (A2 : Df P w K mg base CX0 2 "_law_lowest" ["_law_top", "_law_bottom"] spLow a2 d2) (hr : Room 2 (A.deeper (PyProof.Rows.envOfC "_law_steps" (defScope sLS) s.heap.objs.size f cdv))) : Bx (PSs (cxOf CX0 P w K mg base NLS "_law_steps" (defScope sLS) f cdv A outer s H E).nox ((defBody sLS).drop 2) (tLsR K)) := by
 have nd := scLS.nd;have hr1 : Room 1 _ := hr.mono (by decide)
 exact bsc ⟨ps_if (PW.pt (pw_and (pt_cmpR op_eq (pxr ixt (pv 0) pei) pe_str (nomark _)) (pw_and1 (pt_cmp (pc_isN (pv 1)))))) (pss_one (prt (pec A1.G hr1 rfl A1.m A1.kp A1.b .nil pass0 (pac (pxr ixt (pv 0) pei) (pac pei (pac pei pan)))))) psn⟩
  (bsc ⟨ps_if (pt_cmpR op_eq (pxr ixt (pv 0) pei) pe_str (nomark _)) (pss_one (prt (pe_lst (pac (pe_tup (pac (pe_op op_sub pei (pv 1)) (pac (pe_tup (pac pei (pac pei pan))) (pac pe_non pan)))) pan)))) psn⟩
  (bsc ⟨ps_if (pt_cmpR op_eq (pxr ixt (pv 0) pei) pe_str (nomark _))
   (psc (ps_if (pt_cmpR op_ge (pv 1) (pxr ixt (pv 0) pei) (nomark _)) (pss_one (prt (pe_lst (pac (pe_tup (pac pei (pac (pe_tup (pac pei (pac pei pan))) (pac (pe_op op_sub (pv 1) pei) pan)))) pan)))) psn)
   (psc (ps_if (pt_cmpR op_le (pv 1) (pe_op op_sub pei (pxr ixt (pv 0) pei)) (nomark _)) (pss_one (prt (pe_lst (pac (pe_tup (pac pei (pac (pe_tup (pac pei (pac pei pan))) (pac (pe_op op_add (pv 1) pei) pan)))) pan)))) psn)
   (pss_one (prt (pec A1.G hr1 rfl A1.m A1.kp A1.b .nil pass0 (pac (pxr ixt (pv 0) pei) (pac (pe_op op_sub (pv 1) pei) (pac (pe_op op_add (pv 1) pei) pan)))))))) psn⟩
  (bsc ⟨pst (i := 3) nd rfl (Or.inl rfl) (pe_op op_sub (pxr ixt (pv 0) pei) (pv 2))⟩
  (bsc ⟨pst (i := 4) nd rfl (Or.inl rfl) (pe_lst (pac (pe_tup (pac pei (pac (pec A2.G hr rfl A2.m A2.kp A2.b .nil pass0 (pac (pe_op op_sub (pv 3) (pv 1)) (pac (pv 3) pan))) (pac (pv 1) pan)))) (pac (pe_tup (pac pei (pac (pec A2.G hr rfl A2.m A2.kp A2.b .nil pass0 (pac (pv 1) (pac (pv 3) pan))) (pac (pe_op op_sub (pv 1) pei) pan)))) pan)))⟩
  (bxs_one (bx_ret ⟨pe_lcGI (te := tVr 0) (tt := tPos K) (g := gNm 0) rfl compLS (pi_list (pv 4)) (fun s H C fp => by exact pgn (i := 0) ndLS rfl (.inl rfl)) (fun s H C fp => by exact pt_cmpR op_gt (pxr ixt (pxr ixt (pv 0) pei) pei) pei (nomark _)) (fun s H C fp => by exact pv 0)⟩))))))
end
end
theorem coin_at {H : Hp} {c : V} {x y : Nat} (r : Rds H c (.tuple [.int (x : Nat), .int (y : Nat)])) : ∃ p, c = .ref p /\ H p = some (.tup [.int (x : Nat), .int (y : Nat)]) := by
 obtain ⟨p, xs, rfl, hp, rr⟩ := rds_tup r;obtain rfl : xs = [.int x, .int y] := ints_of (p := [(x : Int), (y : Int)]) rr;exact ⟨p, rfl, hp⟩
theorem low_pos {a b : Nat} (h1 : 1 <= b) : (0 < lowT a b) ↔ 0 < a := by
 unfold lowT;have g0 : 0 < Nat.gcd a b := Nat.gcd_pos_of_pos_right a h1;constructor
 ·intro h;rcases Nat.eq_zero_or_pos a with z | z
  ·rw [z, Nat.zero_div] at h; exact absurd h (by decide)
  ·exact z
 ·intro h;exact Nat.div_pos (Nat.le_of_dvd h (Nat.gcd_dvd_left a b)) g0
section
variable {P : Program} {w : World} {K : Frag} {mg : Str -> Option Value} {base : Heap} {C : Nat -> Addr} {CR f a1 a2 a3 a4 n0 n1 : Addr} {fd d1 d2 d3 d4 : FuncData}
theorem rd_andF {De : Ends} {H : Hp} {σ : St} {i : Nat} {a : Addr} {xs : List V} {w z : Str} {t u : TS} {b : TT} (ne : w ≠ z) (si : σ[i]? = some (some (.ref a))) (ha : H a = some (.tup (.str w :: xs))) (h : u De σ H) : tIfS (tAnd (tW K i z) b) t u De σ H := rd_w si ha (by rw [decide_eq_false (fun e => ne (V.str.inj e))]; exact itF (itF h))
theorem rd_andT {De : Ends} {H : Hp} {σ : St} {i : Nat} {a : Addr} {xs : List V} {z : Str} {t u : TS} {b : TT} (si : σ[i]? = some (some (.ref a))) (ha : H a = some (.tup (.str z :: xs))) (h : tIfS b t u De σ H) : tIfS (tAnd (tW K i z) b) t u De σ H := rd_w si ha (by rw [decide_eq_true rfl]; exact itT h)
theorem rd_spl {Q : VK} {H : Hp} {p : Addr} {n k x s : Int} {o3 o4 : Option V} (hp : H p = some (.tup [.str "split", .int n, .int k])) (x0 : 0 <= x) (x1 : x < n) (n20 : n <= 20) (s0 : 0 <= s) (s1 : s <= n - x)
  (q : ∀ l H', Ext H H' -> StL K H' l (R0.steps (.split n k) (.int s) x) -> Q (.ref l) H') : tSq (tLs6 K) (tSq tLs7 (tLs8 K)) ⟨fun _ H' => Q .non H', Q, fun _ _ => False, fun _ _ => False⟩ [some (.ref p), some (.int s), some (.int x), o3, o4] H := by
 obtain ⟨b, eb⟩ : ∃ b : Nat, n - x = (b : Int) := ⟨(n - x).toNat, by omega⟩
 obtain ⟨c, rfl⟩ : ∃ c : Nat, s = (c : Int) := ⟨s.toNat, by omega⟩
 obtain ⟨d, ed⟩ : ∃ d : Nat, (b : Int) - (c : Int) = (d : Int) := ⟨((b : Int) - c).toNat, by omega⟩
 refine rd_set (te := oSub (tIxT K 0 1) (tVr 2)) (i := 3) (D := ⟨_, Q, _, _⟩) (rxT 1 rfl hp rfl ⟨_, rfl, _, _, rfl, rfl, ?_⟩);show tSq tLs7 (tLs8 K) _ [some (.ref p), some (.int (c : Nat)), some (.int x), some (.int (n - x)), o4] H;rw [eb];have b10 : b < 10 ^ 1000 := Nat.lt_of_le_of_lt (show b <= 10 ^ 2 by omega) (Nat.pow_lt_pow_right (by decide) (by decide))
 refine ⟨_, rfl, _, rfl, _, _, rfl, rfl, _, rfl, d, b, by show [V.int ((b : Int) - (c : Int)), V.int (b : Nat)] = _; rw [ed], by omega, b10, fun m0 hm0 => ?_⟩
 have y1 := Ext.new (o := .tup [.int (d / Nat.gcd d b : Nat), .int (b / Nat.gcd d b : Nat)]) hm0;have g1 : upd H m0 (.tup [.int (d / Nat.gcd d b : Nat), .int (b / Nat.gcd d b : Nat)]) m0 = some (.tup [.int (lowT d b : Nat), .int (lowBt d b : Nat)]) := uds;generalize upd H m0 (.tup [.int (d / Nat.gcd d b : Nat), .int (b / Nat.gcd d b : Nat)]) = H1 at y1 g1 ⊢;refine ⟨_, rfl, by show 3 <= sizeLine; decide, fun p0 hp0 => ?_⟩
 have y2 := Ext.new (o := .tup [.int 0, .ref m0, .int (c : Nat)]) hp0;have g2 : upd H1 p0 (.tup [.int 0, .ref m0, .int (c : Nat)]) p0 = some (.tup [.int 0, .ref m0, .int (c : Nat)]) := uds;generalize upd H1 p0 (.tup [.int 0, .ref m0, .int (c : Nat)]) = H2 at y2 g2 ⊢;refine ⟨_, rfl, _, rfl, c, b, rfl, by omega, b10, fun m1 hm1 => ?_⟩
 have y3 := Ext.new (o := .tup [.int (c / Nat.gcd c b : Nat), .int (b / Nat.gcd c b : Nat)]) hm1;have g3 : upd H2 m1 (.tup [.int (c / Nat.gcd c b : Nat), .int (b / Nat.gcd c b : Nat)]) m1 = some (.tup [.int (lowT c b : Nat), .int (lowBt c b : Nat)]) := uds;generalize upd H2 m1 (.tup [.int (c / Nat.gcd c b : Nat), .int (b / Nat.gcd c b : Nat)]) = H3 at y3 g3 ⊢;refine ⟨_, rfl, _, _, rfl, rfl, by show 3 <= sizeLine; decide, fun p1 hp1 => ⟨by show 2 <= sizeLine; decide, fun l hl => ?_⟩⟩
 have ne : p1 ≠ p0 := fun e => by rw [e, y3 _ _ g2] at hp1; cases hp1
 have y4 := Ext.new (o := .tup [.int 1, .ref m1, .int ((c : Int) - 1)]) hp1;have g4 : upd H3 p1 (.tup [.int 1, .ref m1, .int ((c : Int) - 1)]) p1 = some (.tup [.int 1, .ref m1, .int ((c : Int) - 1)]) := uds;generalize upd H3 p1 (.tup [.int 1, .ref m1, .int ((c : Int) - 1)]) = H4 at y4 g4 hl ⊢;have y5 := Ext.new (o := .lst [.ref p0, .ref p1]) hl;have g5 : upd H4 l (.lst [.ref p0, .ref p1]) l = some (.lst [.ref p0, .ref p1]) := uds;show tLs8 K _ [some (.ref p), some (.int (c : Nat)), some (.int x), some (.int (b : Nat)), some (.ref l)] (upd H4 l (.lst [.ref p0, .ref p1]));generalize upd H4 l (.lst [.ref p0, .ref p1]) = H5 at y5 g5 ⊢;have z4 := y4.trans y5;have z3 := y3.trans z4;have z2 := y2.trans z3;have z1 := y1.trans z2;have k0 := z3 _ _ g2;have k1 := y5 _ _ g4;have l0 := z2 _ _ g1;have l1 := z4 _ _ g3;have b1 : 1 <= b := by omega
 refine ⟨_, rfl, l, rfl, ⟨_, SqL.of g5⟩, fun D hD => ?_⟩;refine lcGI_lst (K := K) (fun v => if v = .ref p0 then decide (0 < d) else decide (0 < c)) (by show 2 < sizeLine; rw [sizeLine_eq]; decide) g5 hD (fun i v H' ev x' R r => ?_) (fun H' x' h' => q D H' (z1.trans x') ⟨_, h', ?_⟩)
 ·match i, ev with
  | 0, ev =>
   cases ev;refine ⟨_, rfl, p0, _, 1, _, rfl, rfl, SqT.of (x' _ _ k0), atN (j := 1) rfl, m0, _, 0, _, rfl, rfl, SqT.of (x' _ _ l0), atN (j := 0) rfl, _, _, rfl, rfl, _, rfl, ?_⟩;rw [if_pos rfl] at r;rw [show decide (((lowT d b : Nat) : Int) > 0) = decide (0 < d) from decide_eq_decide.mpr (by have := low_pos (a := d) b1; omega)]
   exact r
  | 1, ev =>
   cases ev;refine ⟨_, rfl, p1, _, 1, _, rfl, rfl, SqT.of (x' _ _ k1), atN (j := 1) rfl, m1, _, 0, _, rfl, rfl, SqT.of (x' _ _ l1), atN (j := 0) rfl, _, _, rfl, rfl, _, rfl, ?_⟩;rw [if_neg (fun e => ne (V.ref.inj e))] at r;rw [show decide (((lowT c b : Nat) : Int) > 0) = decide (0 < c) from decide_eq_decide.mpr (by have := low_pos (a := c) b1; omega)]
   exact r
 ·have S0 : StV K H' (.ref p0) ⟨0, lowT d b, lowBt d b, .int (c : Nat)⟩ := ⟨p0, .ref m0, _, rfl, x' _ _ k0, ⟨m0, rfl, SqT.of (x' _ _ l0)⟩, .int _⟩;have S1 : StV K H' (.ref p1) ⟨1, lowT c b, lowBt c b, .int ((c : Int) - 1)⟩ := ⟨p1, .ref m1, _, rfl, x' _ _ k1, ⟨m1, rfl, SqT.of (x' _ _ l1)⟩, .int _⟩;have e1 : (n - x).toNat = b := by omega
  have e2 : (n - x - (c : Int)).toNat = d := by omega
  show StA K H' _ ((if (c : Int) < n - x then [⟨0, lowT (n - x - (c : Int)).toNat (n - x).toNat, lowBt (n - x - (c : Int)).toNat (n - x).toNat, .int (c : Nat)⟩] else []) ++ (if (0 : Int) < (c : Int) then [⟨1, lowT ((c : Int)).toNat (n - x).toNat, lowBt ((c : Int)).toNat (n - x).toNat, .int ((c : Int) - 1)⟩] else []))
  rw [e1, e2, Int.toNat_natCast, List.filter_cons, List.filter_cons, List.filter_nil, if_pos (rfl : V.ref p0 = .ref p0), if_neg (fun e => ne (V.ref.inj e))];by_cases cd : 0 < d
  ·rw [if_pos (decide_eq_true cd), if_pos (show (c : Int) < n - x by omega)]
   by_cases cc : 0 < c
   ·rw [if_pos (decide_eq_true cc), if_pos (show (0 : Int) < (c : Int) by omega)]
    exact .cons S0 (.cons S1 .nil)
   ·rw [if_neg (by simpa using cc), if_neg (show ¬ (0 : Int) < (c : Int) by omega)]
    exact .cons S0 .nil
  ·rw [if_neg (by simpa using cd), if_neg (show ¬ (c : Int) < n - x by omega)]
   by_cases cc : 0 < c
   ·rw [if_pos (decide_eq_true cc), if_pos (show (0 : Int) < (c : Int) by omega)]
    exact .cons S1 .nil
   ·rw [if_neg (by simpa using cc), if_neg (show ¬ (0 : Int) < (c : Int) by omega)]
    exact .nil
theorem rd_lsR {Q : VK} {H : Hp} {v st : V} {x : Int} {r : R0} {sd : PyData} {o3 o4 : Option V} (rt : Rds H v r.told) (ok : r.ok) (x0 : 0 <= x) (x1 : x < r.folk) (vs : r.vst x sd) (rd : Rds H st sd) (q : ∀ l H', Ext H H' -> StL K H' l (r.steps sd x) -> Q (.ref l) H') :
  tLsR K ⟨fun _ H' => Q .non H', Q, fun _ _ => False, fun _ _ => False⟩ [some v, some st, some (.int x), o3, o4] H := by
 cases r with
 | split n k =>
  obtain ⟨p, rfl, hp⟩ := tl_split rt;obtain ⟨h1, h2, h3, h4⟩ := ok;obtain ⟨s, rfl, s0, s1⟩ := vs;cases rd;exact rd_andF (by decide +kernel) rfl hp (rd_ifF (by decide +kernel) rfl hp (rd_ifF (by decide +kernel) rfl hp (rd_spl hp x0 x1 h2 s0 s1 q)))
 | pairs n a b =>
  obtain ⟨p, c, rfl, hp, rc⟩ := tl_pairs rt;obtain ⟨h1, h2, h3⟩ := ok;obtain ⟨x', y', ea, eb, k1, k2, k3, kg⟩ := coin_parts h3;subst ea eb;obtain ⟨cp, rfl, hc⟩ := coin_at rc;have late : ∀ h : Int, sd = .int h -> st = .int h := fun h e => by subst e; cases rd; rfl
  rcases vs with ⟨pp, rfl⟩ | ⟨pp, hh⟩
  ·cases rd;refine rd_andT rfl hp ⟨_, rfl, _, rfl, itT (rxT 2 rfl hp rfl ?_)⟩;refine ⟨_, .int 0, .int 1, x', y', .int 0, .int 1, rfl, SqT.of hc, k2, k3, .int _, .int _, fun l H' xe sl => q l H' xe ?_⟩;have e1 : ((y' : Int) - (x' : Int)).toNat = y' - x' := by omega
   show StL K H' l [⟨0, ((y' : Int) - (x' : Int)).toNat, (y' : Int).toNat, .int 0⟩, ⟨1, (x' : Int).toNat, (y' : Int).toNat, .int 1⟩];rw [e1, Int.toNat_natCast, Int.toNat_natCast];exact sl
  ·obtain ⟨h, e⟩ : ∃ h : Int, sd = .int h := by rcases hh with e | e <;> exact ⟨_, e⟩
   have e' := late h e;subst e e';refine rd_andT rfl hp ⟨_, rfl, _, rfl, itF (rd_ifT rfl hp ?_)⟩;exact rd_oneT (K := K) (h := 1 - h) (nv := .non) (nd := .none) (fun R r => ⟨_, rfl, _, _, rfl, rfl, r⟩) (fun H1 R r => r) (fun H' => .non) fun l H' xe sl => q l H' xe sl
 | coins n a b g =>
  obtain ⟨p, c, rfl, hp, rc⟩ := tl_coins rt;obtain ⟨h1, h2, h3, h4, h5⟩ := ok;obtain ⟨x', y', ea, eb, k1, k2, k3, kg⟩ := coin_parts h3;subst ea eb;obtain ⟨cp, rfl, hc⟩ := coin_at rc;obtain ⟨s, rfl, s0, s1⟩ := vs;cases rd;refine rd_andF (by decide +kernel) rfl hp (rd_ifF (by decide +kernel) rfl hp (rd_ifT rfl hp ?_))
  refine ⟨_, rfl, rxT 3 rfl hp rfl ⟨_, _, rfl, rfl, _, rfl, ite2 (fun c => ?_) (fun c => ?_)⟩⟩
  ·have c' : g <= s := of_decide_eq_true c;refine rd_oneT (K := K) (h := 0) (nv := .int (s - 1)) (nd := .int (s - 1)) (fun R r => r) (fun H1 R r => ⟨_, rfl, _, _, rfl, rfl, r⟩) (fun H' => .int _) fun l H' xe sl => q l H' xe ?_;simp only [R0.steps];rw [if_pos c'];exact sl
  ·have c' : ¬ g <= s := fun z => c (decide_eq_true z);refine ⟨_, rfl, rxT 3 rfl hp rfl ⟨_, _, rfl, rfl, _, _, rfl, rfl, _, rfl, ite2 (fun d => ?_) (fun d => ?_)⟩⟩
   ·have d' : s <= -g := by have : s <= 0 - g := of_decide_eq_true d; omega
    refine rd_oneT (K := K) (h := 1) (nv := .int (s + 1)) (nd := .int (s + 1)) (fun R r => r) (fun H1 R r => ⟨_, rfl, _, _, rfl, rfl, r⟩) (fun H' => .int _) fun l H' xe sl => q l H' xe ?_;simp only [R0.steps];rw [if_neg c', if_pos d'];exact sl
   ·have d' : ¬ s <= -g := fun z => d (decide_eq_true (by omega))
    refine rxT 2 rfl hp rfl ⟨_, rfl, _, _, rfl, rfl, _, rfl, _, _, rfl, rfl, ?_⟩;refine ⟨_, .int (s - 1), .int (s + 1), x', y', .int (s - 1), .int (s + 1), rfl, SqT.of hc, k2, k3, .int _, .int _, fun l H' xe sl => q l H' xe ?_⟩;have e1 : ((y' : Int) - (x' : Int)).toNat = y' - x' := by omega
    simp only [R0.steps];rw [if_neg c', if_neg d', e1, Int.toNat_natCast, Int.toNat_natCast];exact sl
end
theorem cut_to (xs : List V) (k : Nat) (h : k <= xs.length) : cutV xs none (some (k : Int)) = xs.take k := by
 unfold cutV;rw [HT.sIx_nat, HT.sIx_none, Nat.min_eq_left h, List.drop_zero, Nat.sub_zero]
section
variable {P : Program} {w : World} {K : Frag} {mg : Str -> Option Value} {base : Heap} {C : Nat -> Addr} {CR f a1 a2 a3 a4 n0 n1 : Addr} {fd d1 d2 d3 d4 : FuncData}
theorem ok_ls0 (F : Fun K "_law_steps" "_law_steps" sLS f fd) (A1 : Df P w K mg base CX0 1 "_law_by_coin" ["_law_coin_here", "_law_zero", "_law_one_here"] (spCs K) a1 d1) (A2 : Df P w K mg base CX0 2 "_law_lowest" ["_law_top", "_law_bottom"] spLow a2 d2) : FnOk P w K mg base CX0 3 f fd ["_law_told", "_law_state", "_law_at"] (spLS K 0) := by
 refine F.ok scLS (fun vs H Q E h => ?_) (fun cdv A outer s H vs Q E hr h => ?_)
 ·obtain ⟨_, _, _, _, _, rfl, _⟩ := h;rfl
 obtain ⟨v, st, x, t, sd, rfl, rt, ok, hg, x0, x1, vs, rd, q⟩ := h;obtain ⟨der⟩ := ls_rest A1 A2 hr (f := f) (cdv := cdv) (A := A) (outer := outer) (s := s) (H := H) (E := E);refine ⟨tSq (tIfS (tW K 0 "first") (fun _ _ _ => False) tNext) (tSq (tIfS (tW K 0 "blocks") (fun _ _ _ => False) tNext) (tLsR K)), psc (ps_if (pt_cmpR op_eq (pxr ixt (pv 0) pei) pe_str (nomark _)) (pss_one ps_never) psn) (psc (ps_if (pt_cmpR op_eq (pxr ixt (pv 0) pei) pe_str (nomark _)) (pss_one ps_never) psn) der), ?_⟩;cases t with
 | blocks rs => exact absurd hg (by show ¬ 1 <= 0; decide)
 | first t m => exact absurd hg (by show ¬ t.hgt + 1 <= 0; omega)
 | one r =>
  have fin := rd_lsR (K := K) (o3 := none) (o4 := none) rt ok x0 x1 vs rd q;cases r with
  | split n k =>
   obtain ⟨p, rfl, hp⟩ := tl_split rt;refine rd_ifF (by decide +kernel) rfl hp ?_
   show tSq (tIfS (tW K 0 "blocks") (fun _ _ _ => False) tNext) (tLsR K) ⟨fun _ H' => Q .non H', Q, fun _ _ => False, fun _ _ => False⟩ [some (.ref p), some st, some (.int x), none, none] H;exact rd_ifF (by decide +kernel) rfl hp fin
  | pairs n a b =>
   obtain ⟨p, c, rfl, hp, rc⟩ := tl_pairs rt;refine rd_ifF (by decide +kernel) rfl hp ?_
   show tSq (tIfS (tW K 0 "blocks") (fun _ _ _ => False) tNext) (tLsR K) ⟨fun _ H' => Q .non H', Q, fun _ _ => False, fun _ _ => False⟩ [some (.ref p), some st, some (.int x), none, none] H;exact rd_ifF (by decide +kernel) rfl hp fin
  | coins n a b g =>
   obtain ⟨p, c, rfl, hp, rc⟩ := tl_coins rt;refine rd_ifF (by decide +kernel) rfl hp ?_
   show tSq (tIfS (tW K 0 "blocks") (fun _ _ _ => False) tNext) (tLsR K) ⟨fun _ H' => Q .non H', Q, fun _ _ => False, fun _ _ => False⟩ [some (.ref p), some st, some (.int x), none, none] H;exact rd_ifF (by decide +kernel) rfl hp fin
abbrev sLB : Stmt := top 49
abbrev NLB : List Str := ["_law_parts", "_law_state", "_law_at", "_law_ahead", "_law_found", "_law_hand", "_law_share", "_law_onward", "_law_later"]
theorem scLB : FnScope NLB ["_law_parts", "_law_state", "_law_at"] (defScope sLB) := mkSc
def spLB (K : Frag) : Sp := fun vs H Q _ => ∃ (b : Addr) (st : V) (x : Int) (ys : List V) (rs : List R0) (sd : PyData), vs = [.ref b, st, .int x] /\ H b = some (.tup ys) /\ RdsAll H ys (rs.map R0.told) /\ (Rl.blocks rs).ok /\ (Rl.blocks rs).vst x sd /\ Rds H st sd /\ ∀ l H', Ext H H' -> StL K H' l ((Rl.blocks rs).steps sd x) -> Q (.ref l) H'
def tS0 (K : Frag) : TE := tIxT K 1 0
def tPt (K : Frag) (e : TE) : TE := tOp (rIxT K) (tVr 0) e
def tFk0 (e : TE) : TE := tCl spFo0 [] E0 (tCn e tNl)
def tLb1 (K : Frag) : TS := tAg (tCB (rSumL K) (tCn (tLCG (iTup K (tSl (rSlT K) (tVr 0) tNoPart (tPart (tS0 K)))) 1 [] (gNm 0) (tFk0 (tVr 0))) tNl)) (gNm 3)
def tLb2 : TS := tAg (tLst tNl) (gNm 4)
def tS1 (K : Frag) : TE := oAdd (tS0 K) (tC (.int 1))
def tLt1 (K : Frag) : TS := tAg (tTup (tCn (tS0 K) (tCn (tVr 7) tNl))) (gNm 8)
def rLenT (K : Frag) : List V -> Hp -> VK -> Prop := fun xs H Q => ∃ p ys, xs = [.ref p] /\ (SqL K H p ys \/ SqT K H p ys) /\ Q (.int ys.length) H
def tLt2b (K : Frag) : TS := tIfS (tB (tOp (rI0 fun i j => .bl (decide (i < j))) (tS1 K) (tCB (rLenT K) (tCn (tVr 0) tNl)))) (tAg (tTup (tCn (tS1 K) (tCn (tCl (spBg 0) [] E0 (tCn (tPt K (tS1 K)) tNl)) tNl))) (gNm 8)) tNext
def tLt2 (K : Frag) : TS := tIfS (tB (tOp rEq (oAdd (tVr 2) (tC (.int 1))) (oAdd (tVr 3) (tFk0 (tPt K (tS0 K))))))
 (tSq (tAg (tTup (tCn (tS1 K) (tCn (tC .non) tNl))) (gNm 8)) (tLt2b K)) tNext
def tLt3 (K : Frag) : TS := tDrop (tBM K "list" rAppend (tVr 4) (tCn (tTup (tCn (tVr 5) (tCn (tVr 6) (tCn (tVr 8) tNl)))) tNl))
def tLbT (K : Frag) : TS := tSq (tLt1 K) (tSq (tLt2 K) (tLt3 K))
def gLb (K : Frag) : TG := gTup K 3 (gCons (gNm 5) (gCons (gNm 6) (gCons (gNm 7) gNil)))
def tLb3 (K : Frag) : TS := tFor (iList K (tCl (spLS K 0) [] E0 (tCn (tPt K (tS0 K)) (tCn (tIxT K 1 1) (tCn (oSub (tVr 2) (tVr 3)) tNl))))) (gLb K) (tLbT K)
def tLb (K : Frag) : TS := tSq (tLb1 K) (tSq tLb2 (tSq (tLb3 K) (tRet (tVr 4))))
section
variable {cdv : Value} {A : Around} {outer : List Env} {s : Shared} {H : Hp} {E : XK}
theorem lb_der (A1 : Df P w K mg base CX0 3 "_law_steps" ["_law_told", "_law_state", "_law_at"] (spLS K 0) a1 d1) (A2 : Df P w K mg base CX0 1 "_law_folk" ["_law_told"] spFo0 a2 d2) (A3 : Df P w K mg base CX0 1 "_law_begin" ["_law_told"] (spBg 0) a3 d3) (ms : mg "sum" = none) (ml : mg "len" = none) (hr : Room 3 (A.deeper (PyProof.Rows.envOfC "_law_block_steps" (defScope sLB) s.heap.objs.size f cdv))) : Bx (PSs (cxOf CX0 P w K mg base NLB "_law_block_steps" (defScope sLB) f cdv A outer s H E).nox (defBody sLB) (tLb K)) := by
 have nd := scLB.nd;have hr1 : Room 1 _ := hr.mono (by decide)
 exact bsc ⟨pst (i := 3) nd rfl (Or.inl rfl) (pe_callB (call_sumL rfl) rfl ms PyProof.Rows.boot_sum (pac (pe_lcG (te := tFk0 (tVr 0)) (g := gNm 0) rfl compFo (pi_tup (pe_slice sl_tup (pv 0) po_none (po_some (pxr ixt (pv 1) pei)))) (fun s H C fp => by exact pgn (i := 0) ndFo rfl (.inl rfl)) (fun s H C fp => by exact pec A2.G hr1 rfl A2.m A2.kp A2.b .nil pass0 (pac (pv 0) pan))) pan))⟩
  (bsc ⟨pst (i := 4) nd rfl (Or.inl rfl) (pe_lst pan)⟩
  (bsc ⟨ps_for PassesOwn.never rfl (pi_list (pec A1.G hr rfl A1.m A1.kp A1.b .nil pass0 (pac (pxr ixt (pv 0) (pxr ixt (pv 1) pei)) (pac (pxr ixt (pv 1) pei) (pac (pe_op op_sub (pv 2) (pv 3)) pan))))) (pg_tup rfl (pgc (pgn (i := 5) nd rfl (Or.inl rfl)) (pgc (pgn (i := 6) nd rfl (Or.inl rfl)) (pgc (pgn (i := 7) nd rfl (Or.inl rfl)) pgs_nil))))
   (psc (pst (i := 8) nd rfl (Or.inl rfl) (pe_tup (pac (pxr ixt (pv 1) pei) (pac (pv 7) pan))))
   (psc (ps_if (pt_cmpR op_eq (pe_op op_add (pv 2) pei) (pe_op op_add (pv 3) (pec A2.G hr1 rfl A2.m A2.kp A2.b .nil pass0 (pac (pxr ixt (pv 0) (pxr ixt (pv 1) pei)) pan))) (nomark _))
    (psc (pst (i := 8) nd rfl (Or.inl rfl) (pe_tup (pac (pe_op op_add (pxr ixt (pv 1) pei) pei) (pac pe_non pan))))
    (pss_one (ps_if (pt_cmpR op_lt (pe_op op_add (pxr ixt (pv 1) pei) pei) (pe_callB call_len_seq rfl ml PySem.boot_len (pac (pv 0) pan)) (nomark _)) (pss_one (pst (i := 8) nd rfl (Or.inl rfl) (pe_tup (pac (pe_op op_add (pxr ixt (pv 1) pei) pei) (pac (pec A3.G hr1 rfl A3.m A3.kp A3.b .nil pass0 (pac (pxr ixt (pv 0) (pe_op op_add (pxr ixt (pv 1) pei) pei)) pan)) pan))))) psn))) psn)
   (pss_one (ps_expr (pe_bm PySem.F.plainAttrs_list PySem.F.slot_list_append PySem.F.type_list_append mt_append (pv 4) (pac (pe_tup (pac (pv 5) (pac (pv 6) (pac (pv 8) pan)))) pan))))))⟩
  (bxs_one (bx_ret ⟨pv 4⟩))))
end
end
section
variable {P : Program} {w : World} {K : Frag} {mg : Str -> Option Value} {base : Heap} {C : Nat -> Addr} {CR f a1 a2 a3 a4 n0 n1 : Addr} {fd d1 d2 d3 d4 : FuncData}
theorem told_at {H : Hp} {ys : List V} {rs : List R0} {i : Nat} {r : R0} (h : RdsAll H ys (rs.map R0.told)) (e : rs[i]? = some r) : ∃ v, ys[i]? = some v /\ Rds H v r.told := by
 have e' : (rs.map R0.told)[i]? = some r.told := by rw [List.getElem?_map, e]; rfl
 exact RdsAll.at h e'
theorem rd_later {De : Ends} {H : Hp} {b sa : Addr} {ys : List V} {rs : List R0} {r : R0} {i : Nat} {x : Int} {iv nv : V} {nd : PyData} {o4 o5 o6 o8 : Option V} {u : TS} (hb : H b = some (.tup ys)) (ry : RdsAll H ys (rs.map R0.told)) (hs : H sa = some (.tup [.int (i : Nat), iv])) (er : rs[i]? = some r) (oo : ∀ r ∈ rs, r.ok) (l6 : rs.length <= 6) (rn : Rds H nv nd)
  (q : ∀ m H', Ext H H' -> Rds H' (.ref m) (nextB rs i x nd) -> u De [some (.ref b), some (.ref sa), some (.int x), some (.int (startB rs i)), o4, o5, o6, some nv, some (.ref m)] H') :
  tSq (tLt1 K) (tSq (tLt2 K) u) De [some (.ref b), some (.ref sa), some (.int x), some (.int (startB rs i)), o4, o5, o6, some nv, o8] H := by
 have ss := start_succ er;have ly := ry.length;rw [List.length_map] at ly;have okr := oo r (List.mem_of_getElem? er);obtain ⟨v, ev, rv⟩ := told_at ry er;refine rd_set (te := tTup (tCn (tS0 K) (tCn (tVr 7) tNl))) (i := 8) (D := De) (rxT 0 rfl hs rfl ⟨_, rfl, by show 2 <= sizeLine; decide, fun m hm => ?_⟩)
 have x1 := Ext.new (o := .tup [.int (i : Nat), nv]) hm;have g1 : upd H m (.tup [.int (i : Nat), nv]) m = some (.tup [.int (i : Nat), nv]) := uds;show tSq (tLt2 K) u De [some (.ref b), some (.ref sa), some (.int x), some (.int (startB rs i)), o4, o5, o6, some nv, some (.ref m)] (upd H m (.tup [.int (i : Nat), nv]));generalize upd H m (.tup [.int (i : Nat), nv]) = H1 at x1 g1 ⊢;have hb1 := x1 _ _ hb;have hs1 := x1 _ _ hs;refine ⟨_, rfl, _, _, rfl, rfl, _, rfl, _, rfl, rxT 0 rfl hs1 rfl ⟨b, ys, _, _, rfl, rfl, SqT.of hb1, atN ev, ?_⟩⟩;refine ⟨v, .one r, rfl, rv.mono x1, okr, (by have := r.kind_lt; show r.kind ≠ 3; omega), _, _, rfl, rfl, rfl, _, rfl, ?_⟩
 refine ite2 (fun c => ?_) (fun c => ?_)
 ·have c' : x + 1 = startB rs (i + 1) := by
   have : x + 1 = startB rs i + r.folk := V.int.inj (of_decide_eq_true c);omega
  refine rxT 0 rfl hs1 rfl ⟨_, _, rfl, rfl, by show 2 <= sizeLine; decide, fun m2 hm2 => ?_⟩
  have x2 := Ext.new (o := .tup [.int ((i : Int) + 1), .non]) hm2;have g2 : upd H1 m2 (.tup [.int ((i : Int) + 1), .non]) m2 = some (.tup [.int ((i + 1 : Nat) : Int), .non]) := uds;show tLt2b K { De with nx := u De } [some (.ref b), some (.ref sa), some (.int x), some (.int (startB rs i)), o4, o5, o6, some nv, some (.ref m2)] (upd H1 m2 (.tup [.int ((i : Int) + 1), .non]))
  generalize upd H1 m2 (.tup [.int ((i : Int) + 1), .non]) = H2 at x2 g2 ⊢;have hb2 := x2 _ _ hb1;have hs2 := x2 _ _ hs1;have x12 := x1.trans x2;refine rxT 0 rfl hs2 rfl ⟨_, _, rfl, rfl, _, rfl, b, ys, rfl, .inr (SqT.of hb2), _, _, rfl, rfl, _, rfl, ite2 (fun d => ?_) (fun d => ?_)⟩
  ·have d' : i + 1 < rs.length := by
    have : (i : Int) + 1 < (ys.length : Nat) := of_decide_eq_true d;omega
   have er2 := List.getElem?_eq_getElem d';obtain ⟨v2, ev2, rv2⟩ := told_at ry er2;refine rxT 0 rfl hs2 rfl ⟨_, _, rfl, rfl, _, rfl, rxT 0 rfl hs2 rfl ⟨_, _, rfl, rfl, b, ys, _, _, rfl, rfl, SqT.of hb2, atN (j := i + 1) ev2, ?_⟩⟩;refine ⟨v2, .one rs[i + 1], rfl, rv2.mono x12, oo _ (List.getElem_mem d'), Nat.zero_le _, fun bv H3 x3 rb => ⟨by show 2 <= sizeLine; decide, fun m3 hm3 => ?_⟩⟩
   have x4 := Ext.new (o := .tup [.int ((i : Int) + 1), bv]) hm3;refine q m3 _ ((x12.trans x3).trans x4) ?_;have e : nextB rs i x nd = .tuple [.int ((i + 1 : Nat) : Int), rs[i + 1].begin] := by
    unfold nextB aheadD;rw [if_pos c', er2]
   rw [e];exact .tup uds (.cons (.int _) (.cons (rb.mono x4) .nil))
  ·have d' : ¬ i + 1 < rs.length := fun z => d (decide_eq_true (by omega))
   refine q m2 H2 x12 ?_;have e : nextB rs i x nd = .tuple [.int ((i + 1 : Nat) : Int), .none] := by
    unfold nextB aheadD;rw [if_pos c', List.getElem?_eq_none (by omega)]
   rw [e];exact .tup g2 (.cons (.int _) (.cons .non .nil))
 ·have c' : ¬ x + 1 = startB rs (i + 1) := fun z => c (decide_eq_true (by show V.int (x + 1) = V.int (startB rs i + r.folk); rw [z, ss]))
  refine q m H1 x1 ?_;unfold nextB;rw [if_neg c'];exact .tup g1 (.cons (.int _) (.cons (rn.mono x1) .nil))
theorem ok_lb (F : Fun K "_law_block_steps" "_law_block_steps" sLB f fd) (A1 : Df P w K mg base CX0 3 "_law_steps" ["_law_told", "_law_state", "_law_at"] (spLS K 0) a1 d1) (A2 : Df P w K mg base CX0 1 "_law_folk" ["_law_told"] spFo0 a2 d2) (A3 : Df P w K mg base CX0 1 "_law_begin" ["_law_told"] (spBg 0) a3 d3) (ms : mg "sum" = none) (ml : mg "len" = none) : FnOk P w K mg base CX0 4 f fd ["_law_parts", "_law_state", "_law_at"] (spLB K) := by
 refine F.ok scLB (fun vs H Q E h => ?_) (fun cdv A outer s H vs Q E hr h => ?_)
 ·obtain ⟨_, _, _, _, _, _, rfl, _⟩ := h;rfl
 obtain ⟨b, st, x, ys, rs, sd, rfl, hb, ry, ok, vs, rd, q⟩ := h;obtain ⟨der⟩ := lb_der A1 A2 A3 ms ml hr (f := f) (cdv := cdv) (A := A) (outer := outer) (s := s) (H := H) (E := E);refine ⟨_, der, ?_⟩;obtain ⟨o1, l6, oo, o20⟩ := ok;obtain ⟨i, inner, r, rfl, er, s0, s1, vr⟩ := vs;have okr := oo r (List.mem_of_getElem? er);have hi : i < rs.length := (List.getElem?_eq_some_iff.mp er).1;have ly := ry.length;rw [List.length_map] at ly;obtain ⟨sa, us, rfl, hs, ru⟩ := rds_tup rd;cases ru with
 | cons r1 ru =>
  cases r1;cases ru with
  | cons rin ru =>
   cases ru
   rename_i iv
   refine rd_set (te := tCB (rSumL K) (tCn (tLCG (iTup K (tSl (rSlT K) (tVr 0) tNoPart (tPart (tS0 K)))) 1 [] (gNm 0) (tFk0 (tVr 0))) tNl)) (i := 3) (D := ⟨_, Q, _, _⟩) ⟨_, rfl, rxT 0 rfl hs rfl ⟨_, rfl, b, ys, rfl, SqT.of hb, ?_, fun p hp => ?_⟩⟩
   ·rintro ⟨_, h2⟩;rw [HT.sIx_nat, Nat.min_eq_left (by omega)] at h2
    omega
   have x1 := Ext.new (o := .tup (cutV ys none (some (i : Int)))) hp;have g1 : upd H p (.tup (cutV ys none (some (i : Int)))) p = some (.tup (ys.take i)) := by rw [cut_to _ _ (by omega)]; exact uds
   generalize upd H p (.tup (cutV ys none (some (i : Int)))) = H1 at x1 g1 ⊢;have rt := RdsAll.take i (ry.mono x1);rw [<- List.map_take] at rt;refine ⟨p, rfl, ⟨_, SqT.of g1⟩, fun D hD => lc_folks (K := K) g1 rt (fun r hr => oo r (List.mem_of_mem_take hr)) (by rw [List.length_take]; omega) hD fun H2 x2 h2 => ⟨D, _, rfl, SqL.of h2, ?_⟩⟩
   show tSq tLb2 (tSq (tLb3 K) (tRet (tVr 4))) _ [some (.ref b), some (.ref sa), some (.int x), some (.int (startB rs i)), none, none, none, none, none] H2;have x02 := x1.trans x2;refine rd_set (te := tLst tNl) (i := 4) (D := ⟨_, Q, _, _⟩) ⟨by show 0 <= sizeLine; decide, fun lf hlf => ?_⟩
   have x3 := Ext.new (o := .lst []) hlf;have g3 : upd H2 lf (.lst []) lf = some (.lst []) := uds;show tSq (tLb3 K) (tRet (tVr 4)) _ [some (.ref b), some (.ref sa), some (.int x), some (.int (startB rs i)), some (.ref lf), none, none, none, none] (upd H2 lf (.lst []));generalize upd H2 lf (.lst []) = H3 at x3 g3 ⊢;have x03 := x02.trans x3;obtain ⟨v, ev, rv⟩ := told_at ry er;refine ⟨_, rfl, rxT 0 rfl (x03 _ _ hs) rfl ⟨b, ys, _, _, rfl, rfl, SqT.of (x03 _ _ hb), atN ev, rxT 1 rfl (x03 _ _ hs) rfl ⟨_, rfl, _, rfl, _, _, rfl, rfl, ?_⟩⟩⟩;refine ⟨v, iv, x - startB rs i, .one r, inner, rfl, rv.mono x03, okr, Nat.zero_le _, by omega, by show x - startB rs i < r.folk; omega, vr, rin.mono x03, fun l H4 x4 sl => ?_⟩
   obtain ⟨ps, hl, al⟩ := sl;have g4 := x4 _ _ g3;have nel : l ≠ lf := fun e => by
    rw [e, g4] at hl;injection hl with hl
    injection hl with hl
    have ne := (R0.steps_ok okr (x := x - startB rs i) (by omega) (by omega) vr).2
    rw [<- hl] at al;cases al' : (r.steps inner (x - startB rs i)) with
    | nil => exact ne al'
    | cons z zs =>
     have ln := al.len;have e2 : (Rl.one r).steps inner (x - startB rs i) = z :: zs := al';rw [e2] at ln;cases ln
   have gd := (R0.steps_ok okr (x := x - startB rs i) (by omega) (by omega) vr).1
   have e24 : Ext H2 H4 := x3.trans x4;refine ⟨l, rfl, ⟨_, SqL.of hl⟩, for_list (xs := ps) (fun j σ H' => Ext H2 H' /\ H' l = some (.lst ps) /\ KpT H4 H' /\ ∃ (zs : List V) (o5 o6 o7 o8 : Option V), σ = [some (.ref b), some (.ref sa), some (.int x), some (.int (startB rs i)), some (.ref lf), o5, o6, o7, o8] /\ H' lf = some (.lst zs) /\ StA K H' zs (((r.steps inner (x - startB rs i)).take j).map fun s => { s with next := nextB rs i x s.next })) ⟨e24, hl, KpT.refl _, [], none, none, none, none, rfl, g4, .nil⟩ ?_ ?_ ?_⟩
   ·rintro j σ H' _ ⟨_, h2, _⟩;exact SqL.of h2
   ·rintro j pv σ H' ep ⟨e2, h2, kp, zs, o5, o6, o7, o8, rfl, hz, sz⟩;obtain ⟨t, et, ht⟩ := al.get ep;have et' : (r.steps inner (x - startB rs i))[j]? = some t := et;have gt := (gd t (List.mem_of_getElem? et')).1;obtain ⟨a, sv, nv, rfl, ha, hsv, hn⟩ := ht.keepT kp gt.nl;have lj : j < (r.steps inner (x - startB rs i)).length := (List.getElem?_eq_some_iff.mp et').1;have l2 := steps_len r inner (x - startB rs i);have lz : zs.length <= 10 := by
     have := sz.len;rw [List.length_map, List.length_take] at this;omega
    have e02 := x02.trans e2;refine ⟨a, _, rfl, SqT.of ha, rfl, _, _, rfl, _, _, rfl, _, _, rfl, rfl, ?_⟩;show tLbT K _ [some (.ref b), some (.ref sa), some (.int x), some (.int (startB rs i)), some (.ref lf), some (.int t.hand), some sv, some nv, o8] H';refine rd_later (e02 _ _ hb) (ry.mono e02) (e02 _ _ hs) er oo l6 hn fun m H5 x5 rm => ?_;refine ⟨_, rfl, .inl ⟨rfl, _, SqL.of (x5 _ _ hz)⟩, _, rfl, _, rfl, _, rfl, by show 3 <= sizeLine; decide, fun p hp => ?_⟩
    have x6 := Ext.new (o := .tup [.int t.hand, sv, .ref m]) hp;have g6 : upd H5 p (.tup [.int t.hand, sv, .ref m]) p = some (.tup [.int t.hand, sv, .ref m]) := uds;generalize upd H5 p (.tup [.int t.hand, sv, .ref m]) = H6 at x6 g6 ⊢;have x56 := x5.trans x6;have hz6 := x56 _ _ hz;refine ⟨lf, zs, .ref p, rfl, rfl, hz6, by rw [sizeLine_eq]; omega, ?_⟩
    have kp6 := kpu (.lst (zs ++ [.ref p])) hz6;refine ⟨ext_upd _ (e2.trans x56) hlf, ?_, kp.trans (x56.kpT.trans kp6), _, _, _, _, _, rfl, uds, ?_⟩
    ·rw [upd_ne nel];exact x56 _ _ h2
    ·rw [take_all et', List.map_append];refine StA.keepT kp6 (StA.app (sz.ext x56) (.cons ⟨p, sv, .ref m, rfl, g6, hsv.ext x56, rm.mono x6⟩ .nil)) fun z hz => ?_;rcases List.mem_append.mp hz with z1 | z1
     ·obtain ⟨y, hy, rfl⟩ := List.mem_map.mp z1;exact next_nl (gd y (List.mem_of_mem_take hy)).1.nl
     ·rw [List.mem_singleton.mp z1];exact next_nl gt.nl
   ·rintro σ H' ⟨e2, h2, kp, zs, o5, o6, o7, o8, rfl, hz, sz⟩;refine ⟨_, rfl, q lf H' (x02.trans e2) ⟨zs, hz, ?_⟩⟩;have es : (Rl.blocks rs).steps (.tuple [.int (i : Nat), inner]) x = (r.steps inner (x - startB rs i)).map fun s => { s with next := nextB rs i x s.next } := by
     simp only [Rl.steps, Int.toNat_natCast, er]
    rw [es];have ln : ps.length = (r.steps inner (x - startB rs i)).length := al.len;rw [ln, List.take_length] at sz;exact sz
variable {a5 : Addr} {d5 : FuncData}
theorem ok_ls (F : Fun K "_law_steps" "_law_steps" sLS f fd) (b : Binds K fd ["_law_told", "_law_state", "_law_at"] []) (kp : keepIn K (.ref f) = true) (m : mg "_law_steps" = some (.ref f)) (A1 : Df P w K mg base CX0 1 "_law_by_coin" ["_law_coin_here", "_law_zero", "_law_one_here"] (spCs K) a1 d1) (A2 : Df P w K mg base CX0 2 "_law_lowest" ["_law_top", "_law_bottom"] spLow a2 d2) (A3 : Df P w K mg base CX0 4 "_law_block_steps" ["_law_parts", "_law_state", "_law_at"] (spLB K) a3 d3) : ∀ n, FnOk P w K mg base CX0 (n + 4) f fd ["_law_told", "_law_state", "_law_at"] (spLS K n)
 | 0 => (ok_ls0 F A1 A2).mono (by decide)
 | n + 1 => by
  refine F.ok scLS (fun vs H Q E h => ?_) (fun cdv A outer s H vs Q E hr h => ?_)
  ·obtain ⟨_, _, _, _, _, rfl, _⟩ := h;rfl
  obtain ⟨v, st, x, t, sd, rfl, rt, ok, hg, x0, x1, vs, rd, q⟩ := h;have hr4 : Room 4 _ := hr.mono (by omega)
  have hr2 : Room 2 _ := hr.mono (by omega)
  obtain ⟨der⟩ := ls_rest A1 A2 hr2 (f := f) (cdv := cdv) (A := A) (outer := outer) (s := s) (H := H) (E := E);refine ⟨tSq (tIfS (tW K 0 "first") (tRet (tCl (spLS K n) [] E0 (tCn (tIxT K 0 1) (tCn (tVr 1) (tCn (tVr 2) tNl))))) tNext) (tSq (tIfS (tW K 0 "blocks") (tRet (tCl (spLB K) [] E0 (tCn (tIxT K 0 1) (tCn (tVr 1) (tCn (tVr 2) tNl))))) tNext) (tLsR K)), psc (ps_if (pt_cmpR op_eq (pxr ixt (pv 0) pei) pe_str (nomark _)) (pss_one (prt (pec (ok_ls F b kp m A1 A2 A3 n) hr rfl m kp b .nil pass0 (pac (pxr ixt (pv 0) pei) (pac (pv 1) (pac (pv 2) pan)))))) psn) (psc (ps_if (pt_cmpR op_eq (pxr ixt (pv 0) pei) pe_str (nomark _)) (pss_one (prt (pec A3.G hr4 rfl A3.m A3.kp A3.b .nil pass0 (pac (pxr ixt (pv 0) pei) (pac (pv 1) (pac (pv 2) pan)))))) psn) der), ?_⟩;cases t with
  | blocks rs =>
   obtain ⟨a, c, ys, rfl, ha, hc, ry⟩ := tl_blocks rt;refine rd_ifF (by decide +kernel) rfl ha ?_
   show tSq (tIfS (tW K 0 "blocks") (tRet (tCl (spLB K) [] E0 (tCn (tIxT K 0 1) (tCn (tVr 1) (tCn (tVr 2) tNl))))) tNext) (tLsR K) ⟨fun _ H' => Q .non H', Q, fun _ _ => False, fun _ _ => False⟩ [some (.ref a), some st, some (.int x), none, none] H;refine rd_ifT rfl ha (rxT 1 rfl ha rfl ⟨_, rfl, _, rfl, c, st, x, ys, rs, sd, rfl, hc, ry, ok, vs, rd, q⟩)
  | first t m' =>
   obtain ⟨a, u, rfl, ha, ru⟩ := tl_first rt;obtain ⟨o1, o2, o3⟩ := ok;have hg' : t.hgt <= n := by have : t.hgt + 1 <= n + 1 := hg; omega
   have xm : x < m' := x1;exact rd_ifT rfl ha (rxT 1 rfl ha rfl ⟨_, rfl, _, rfl, u, st, x, t, sd, rfl, ru, o1, hg', x0, by omega, vs, rd, q⟩)
  | one r =>
   have fin := rd_lsR (K := K) (o3 := none) (o4 := none) rt ok x0 x1 vs rd q;have go : ∀ {p : Addr} {w : Str} {xs : List V}, v = .ref p -> H p = some (.tup (.str w :: xs)) -> w ≠ "first" -> w ≠ "blocks" -> tSq (tIfS (tW K 0 "first") (tRet (tCl (spLS K n) [] E0 (tCn (tIxT K 0 1) (tCn (tVr 1) (tCn (tVr 2) tNl))))) tNext) (tSq (tIfS (tW K 0 "blocks") (tRet (tCl (spLB K) [] E0 (tCn (tIxT K 0 1) (tCn (tVr 1) (tCn (tVr 2) tNl))))) tNext) (tLsR K)) ⟨fun _ H' => Q .non H', Q, fun _ _ => False, fun _ _ => False⟩ [some v, some st, some (.int x), none, none] H := fun {p w xs} e hp n1 n2 => by
    subst e;refine rd_ifF n1 rfl hp ?_;show tSq (tIfS (tW K 0 "blocks") (tRet (tCl (spLB K) [] E0 (tCn (tIxT K 0 1) (tCn (tVr 1) (tCn (tVr 2) tNl))))) tNext) (tLsR K) ⟨fun _ H' => Q .non H', Q, fun _ _ => False, fun _ _ => False⟩ [some (.ref p), some st, some (.int x), none, none] H;exact rd_ifF n2 rfl hp fin
   cases r with
   | split n k =>
    obtain ⟨p, e, hp⟩ := tl_split rt;exact go e hp (by decide +kernel) (by decide +kernel)
   | pairs n a b =>
    obtain ⟨p, c, e, hp, rc⟩ := tl_pairs rt;exact go e hp (by decide +kernel) (by decide +kernel)
   | coins n a b g =>
    obtain ⟨p, c, e, hp, rc⟩ := tl_coins rt;exact go e hp (by decide +kernel) (by decide +kernel)
end
section
variable {P : Program} {w : World} {K : Frag} {mg : Str -> Option Value} {base : Heap} {C : Nat -> Addr} {CR f a1 a2 a3 a4 : Addr} {fd d1 d2 d3 d4 : FuncData}
abbrev sLR : Stmt := top 51
abbrev NLR : List Str := ["_law_rule", "_law_told", "_law_at", "_law_states", "_law_onward", "_law_state", "_law_share", "_law_due", "_law_found", "_law_hand", "_law_part", "_law_later", "_law_ahead", "_law_top"]
theorem scLR : FnScope NLR ["_law_rule", "_law_told", "_law_at", "_law_states"] (defScope sLR) := mkSc
def tGm (a b : TE) : TE := tOp (rI GMul fun i j => .int (i * j)) a b
def tNo : TS := tRet (tC .non)
def tC0 : TS := tAg (tDGet2 (tVr 4) (tVr 11) (tTup (tCn (tC (.int 0)) (tCn (tC (.int 1)) tNl)))) (gNm 12)
def tC1 (K : Frag) : TS := tAg (tAd (tGm (tGm (tIxT K 12 0) (tIxT K 6 1)) (tIxT K 10 1)) (tGm (tGm (tIxT K 6 0) (tIxT K 10 0)) (tIxT K 12 1))) (gNm 13)
def tC2 (K : Frag) : TS := sDPut (tVr 4) (tVr 11) (tCl spLow [] E0 (tCn (tVr 13) (tCn (tGm (tGm (tIxT K 12 1) (tIxT K 6 1)) (tIxT K 10 1)) tNl)))
def tIn (K : Frag) : TS := tSq tC0 (tSq (tC1 K) (tC2 K))
def gIn (K : Frag) : TG := gTup K 3 (gCons (gNm 9) (gCons (gNm 10) (gCons (gNm 11) gNil)))
def tB0 (K : Frag) : TS := tAg (tCl (spLS K 3) [] E0 (tCn (tVr 1) (tCn (tVr 5) (tCn (tVr 2) tNl)))) (gNm 7)
def tStp (K : Frag) (C : Nat -> Addr) : TE := tMethD (Is5 C) "steps" (spStp K C) E0 (tVr 0) (tCn (tVr 5) (tCn (tVr 2) tNl))
def tB1 (K : Frag) (C : Nat -> Addr) : TS := tAg (tStp K C) (gNm 8)
def tB2 (K : Frag) : TS := tIfS (tOr (tNot (tB (tCB (rIsK K) (tCn (tVr 8) (tCn (tC (.ty "list")) tNl))))) (tB (tOp (rAlike K 3 false) (tVr 8) (tVr 7)))) tNo tNext
def tB3 (K : Frag) : TS := tDrop (tBM K "list" rAppend (tVr 8) (tCn (tTup (tCn (tC (.int 1)) (tCn (tTup (tCn (tC (.int 1)) (tCn (tC (.int 1)) tNl))) (tCn (tC .non) tNl)))) tNl))
def tB4 (K : Frag) : TS := tDrop (tBM K "list" rPopAt (tVr 8) (tCn (tC (.int 0)) tNl))
def tB5 (K : Frag) (C : Nat -> Addr) : TS := tIfS (tB (tOp (rAlike K 3 false) (tStp K C) (tVr 7))) tNo tNext
def tB6 (K : Frag) : TS := tFor (iList K (tVr 7)) (gIn K) (tIn K)
def tBo (K : Frag) (C : Nat -> Addr) : TS := tSq (tB0 K) (tSq (tB1 K C) (tSq (tB2 K) (tSq (tB3 K) (tSq (tB4 K) (tSq (tB5 K C) (tB6 K))))))
def gOu (K : Frag) : TG := gTup K 2 (gCons (gNm 5) (gCons (gNm 6) gNil))
def tL0 (tp : Bool) : TS := tAg (tDN tp) (gNm 4)
def tL1 (K : Frag) (C : Nat -> Addr) : TS := tFor (iItm (tVr 3)) (gOu K) (tBo K C)
def tLR (tp : Bool) (K : Frag) (C : Nat -> Addr) : TS := tSq (tL0 tp) (tSq (tL1 K C) (tRet (tVr 4)))
section
variable {tp : Bool} {cdv : Value} {A : Around} {outer : List Env} {s : Shared} {H : Hp} {E : XK}
def stLR (i : Nat) : Stmt := ((defBody sLR)[i]?).getD (.Pass default)
def bdLR : List Stmt := match stLR 1 with
 | .For _ _ b _ _ => b
 | _ => []
theorem lr_in (A2 : Df P w K mg base CX0 2 "_law_lowest" ["_law_top", "_law_bottom"] spLow a2 d2) (hr : Room 7 (A.deeper (PyProof.Rows.envOfC "_law_layer_right" (defScope sLR) s.heap.objs.size f cdv))) : Bx (PS (cxOf CX0 P w K mg base NLR "_law_layer_right" (defScope sLR) f cdv A outer s H E).nox ((bdLR[6]?).getD (.Pass default)) (tB6 K)) := by
 have nd := scLR.nd;have hr2 : Room 2 _ := hr.mono (by decide)
 have hu : (A.deeper (PyProof.Rows.envOfC "_law_layer_right" (defScope sLR) s.heap.objs.size f cdv)).units + 1 < cLine := by have := hr.un; omega
 exact ⟨ps_for PassesOwn.never rfl (pi_list (pv 7)) (pg_tup rfl (pgc (pgn (i := 9) nd rfl (Or.inl rfl)) (pgc (pgn (i := 10) nd rfl (Or.inl rfl)) (pgc (pgn (i := 11) nd rfl (Or.inl rfl)) pgs_nil))))
  (psc (pst (i := 12) nd rfl (Or.inl rfl) (pe_dget2 hu (pv 4) (pv 11) (pe_tup (pac pei (pac pei pan))) ⟨rfl, rfl, rfl, rfl⟩))
  (psc (pst (i := 13) nd rfl (Or.inl rfl) (pe_op op_add (pe_op op_gmul (pe_op op_gmul (pxr ixt (pv 12) pei) (pxr ixt (pv 6) pei)) (pxr ixt (pv 10) pei)) (pe_op op_gmul (pe_op op_gmul (pxr ixt (pv 6) pei) (pxr ixt (pv 10) pei)) (pxr ixt (pv 12) pei))))
  (pss_one (ps_dput hu (pv 4) (pv 11) (pec A2.G hr2 rfl A2.m A2.kp A2.b .nil pass0 (pac (pv 13) (pac (pe_op op_gmul (pe_op op_gmul (pxr ixt (pv 12) pei) (pxr ixt (pv 6) pei)) (pxr ixt (pv 10) pei)) pan))) rfl))))⟩
theorem lr_der (N : IsT K) (A1 : Df P w K mg base CX0 7 "_law_steps" ["_law_told", "_law_state", "_law_at"] (spLS K 3) a1 d1) (A2 : Df P w K mg base CX0 2 "_law_lowest" ["_law_top", "_law_bottom"] spLow a2 d2) (M : MethS P w K mg base CX0 7 "steps" ["self", "state", "at"] (Is5 C) (spStp K C)) (mi : mg "isinstance" = none) (ml : mg "list" = none) (hr : Room 7 (A.deeper (PyProof.Rows.envOfC "_law_layer_right" (defScope sLR) s.heap.objs.size f cdv))) : Bx (PSs (cxOf CX0 P w K mg base NLR "_law_layer_right" (defScope sLR) f cdv A outer s H E).nox (defBody sLR) (tLR tp K C)) := by
 have nd := scLR.nd;have hu : (A.deeper (PyProof.Rows.envOfC "_law_layer_right" (defScope sLR) s.heap.objs.size f cdv)).units + (3 + 1) < cLine := by have := hr.un; omega
 obtain ⟨inn⟩ := lr_in A2 hr (f := f) (cdv := cdv) (A := A) (outer := outer) (s := s) (H := H) (E := E);exact bsc ⟨pst (i := 4) nd rfl (Or.inl rfl) (pe_dn tp)⟩
  (bsc ⟨ps_for PassesOwn.never rfl (pi_items (pv 3)) (pg_tup rfl (pgc (pgn (i := 5) nd rfl (Or.inl rfl)) (pgc (pgn (i := 6) nd rfl (Or.inl rfl)) pgs_nil)))
   (psc (pst (i := 7) nd rfl (Or.inl rfl) (pec A1.G hr rfl A1.m A1.kp A1.b .nil pass0 (pac (pv 1) (pac (pv 5) (pac (pv 2) pan)))))
   (psc (pst (i := 8) nd rfl (Or.inl rfl) (pe_methD (pv 0) M hr pass0 (pac (pv 5) (pac (pv 2) pan))))
   (psc (ps_if (PW.pt (pw_or (pt_not (pt_val (pe_callB (call_isK N) rfl mi PyProof.Rows.boot_isinstance (pac (pv 8) (pac (pe_ty rfl ml PyProof.Rows.boot_list) pan))))) (pw_or1 (pt_cmpR (op_neA hu) (pv 8) (pv 7) (nomark _))))) (pss_one (prt pe_non)) psn)
   (psc (ps_expr (pe_bm PySem.F.plainAttrs_list PySem.F.slot_list_append PySem.F.type_list_append mt_append (pv 8) (pac (pe_tup (pac pei (pac (pe_tup (pac pei (pac pei pan))) (pac pe_non pan)))) pan)))
   (psc (ps_expr (pe_bm PySem.F.plainAttrs_list PySem.F.slot_list_pop PySem.F.type_list_pop mt_popAt (pv 8) (pac pei pan)))
   (psc (ps_if (pt_cmpR (op_neA hu) (pe_methD (pv 0) M hr pass0 (pac (pv 5) (pac (pv 2) pan))) (pv 7) (nomark _)) (pss_one (prt pe_non)) psn)
   (pss_one inn)))))))⟩
  (bxs_one (bx_ret ⟨pv 4⟩)))
end
end
theorem wt_same {H : Hp} {p t : Addr} {o : HO} : wt (upd H p o) p t = wt H p t := by
 funext b
 unfold wt wo;by_cases e : b = t
 ·rw [if_pos e, if_pos e]
 ·rw [if_neg e, if_neg e];by_cases e2 : b = p
  ·rw [if_pos e2, if_pos e2]
  ·rw [if_neg e2, if_neg e2, upd_ne e2]
theorem sum_takeN {α : Type} (f : α -> Nat) : ∀ (ss : List α) (j : Nat), ((ss.take j).map f).sum <= (ss.map f).sum
 | [], j => by simp
 | s :: ss, 0 => by simp
 | s :: ss, j + 1 => by
  have := sum_takeN f ss j;simp only [List.take_succ_cons, List.map_cons, List.sum_cons];omega
def OnW (K : Frag) (H : Hp) (aw d : Addr) (tp : Bool) (D : Nat) (ps : Wts) : Prop := (ps.map (·.1)).Nodup /\ ∃ u, H aw = some u /\ WU K (wt H aw d) tp D u ps
theorem WU.isD {K : Frag} {G H : Hp} {tp : Bool} {D : Nat} {u : HO} {ps : Wts} {a : Addr} (w : WU K G tp D u ps) (hu : Rd H a u) : IsD H a := by
 rcases w with ⟨_, kvs, rfl, _⟩ | ⟨_, kvs, rfl, _⟩
 ·exact .inr ⟨kvs, hu⟩
 ·exact .inl ⟨kvs, hu⟩
section
variable {K : Frag} {σ : St} {H : Hp}
theorem rd_ixS {i : Nat} {a : Addr} {xs : List V} {v : V} {Q : VK} (k : Nat) (si : σ[i]? = some (some (.ref a))) (ha : SqT K H a xs) (hk : xs[k]? = some v) (q : Q v H) : tIxT K i (k : Nat) σ H Q := ⟨_, si, a, _, _, _, rfl, rfl, ha, atN hk, q⟩
theorem rd_gm {ta tb : TE} {Q : VK} (h : ta σ H fun x H1 => tb σ H1 fun y H2 => ∃ i j : Int, x = .int i /\ y = .int j /\ GMul i j /\ Q (.int (i * j)) H2) : tGm ta tb σ H Q := h
end
theorem mul2 {a b m n c : Nat} (h1 : a <= m) (h2 : b <= n) (h : m * n <= c) : a * b <= c := Nat.le_trans (Nat.mul_le_mul h1 h2) h
section
variable {K : Frag} {De : Ends} {H0 : Hp} {aw d l1 : Addr} {v tv stv shv : V} {x : Int} {o8 : Option V}
abbrev Sg (v tv : V) (x : Int) (d aw : Addr) (stv shv : V) (l1 : Addr) (o8 o9 o10 o11 o12 o13 : Option V) : St := [some v, some tv, some (.int x), some (.ref d), some (.ref aw), some stv, some shv, some (.ref l1), o8, o9, o10, o11, o12, o13]
theorem rd_in {tp : Bool} {N D M : Nat} {ss : List Stp} {vs : List V} {ps1 : Wts} {z : HO} {o9 o10 o11 o12 o13 : Option V} (tpk : ∀ s ∈ ss, ∃ ks, KyOk tp ks /\ s.next = kD tp ks) (gd : ∀ s ∈ ss, s.good) (dv : ∀ s ∈ ss, s.b ∣ M) (M1 : 0 < M) (D1 : 0 < D) (bd : D * M <= 10 ^ 42) (hN : N <= D) (hl : H0 l1 = some (.lst vs)) (al : StA K (wt H0 aw d) vs ss) (sh : ShV K (wt H0 aw d) shv (lowT N D) (lowBt N D)) (on : OnW K H0 aw d tp (D * M) ps1) (sm : wSum ps1 + N * (ss.map fun s => s.part M).sum <= D * M) (ln : ps1.length + ss.length < sizeLine) (ne : aw ≠ d) (hd : H0 d = some z)
  (k : ∀ ps' H' o9 o10 o11 o12 o13, Ext (wt H0 aw d) (wt H' aw d) -> H' d = some z -> OnW K H' aw d tp (D * M) ps' -> wSum ps' = wSum ps1 + N * (ss.map fun s => s.part M).sum -> ps'.length <= ps1.length + ss.length -> (∀ q ∈ ps'.map (·.1), q ∈ ps1.map (·.1) \/ ∃ s ∈ ss, KyOk tp q /\ s.next = kD tp q) -> De.nx (Sg v tv x d aw stv shv l1 o8 o9 o10 o11 o12 o13) H') : tB6 K De (Sg v tv x d aw stv shv l1 o8 o9 o10 o11 o12 o13) H0 := by
 have n1 : l1 ≠ aw := fun e => by
  obtain ⟨_, u, hu, w⟩ := on;rw [<- e, hl] at hu;cases hu;exact w.dct
 refine ⟨_, rfl, l1, rfl, ⟨_, SqL.of hl⟩, for_list (xs := vs) (fun j σ H' => ∃ ps' o9 o10 o11 o12 o13, σ = Sg v tv x d aw stv shv l1 o8 o9 o10 o11 o12 o13 /\ Ext (wt H0 aw d) (wt H' aw d) /\ H' d = some z /\ H' l1 = some (.lst vs) /\ OnW K H' aw d tp (D * M) ps' /\ wSum ps' = wSum ps1 + N * ((ss.take j).map fun s => s.part M).sum /\ ps'.length <= ps1.length + j /\ (∀ q ∈ ps'.map (·.1), q ∈ ps1.map (·.1) \/ ∃ s ∈ ss, KyOk tp q /\ s.next = kD tp q)) ⟨ps1, _, _, _, _, _, rfl, Ext.refl _, hd, hl, on, by simp, Nat.le_refl _, fun q hq => .inl hq⟩ ?_ ?_ ?_⟩
 ·rintro i σ H' _ ⟨ps', _, _, _, _, _, _, _, _, h, _⟩;exact SqL.of h
 ·rintro j pv σ H' ej ⟨ps', o9, o10, o11, o12, o13, rfl, xt, hd', hl', on', sm', ln', kk⟩;obtain ⟨s, es, hs⟩ := al.get ej;have hm := List.mem_of_getElem? es;obtain ⟨ks, kok, ek⟩ := tpk s hm;have g := gd s hm;have hj : j < ss.length := (List.getElem?_eq_some_iff.mp es).1;have g1 := g.t1;have g2 := g.tb;have g3 := g.b100;have b1 : 0 < s.b := by omega
  obtain ⟨a, sv, nv, rfl, ha, ⟨pp, rfl, hpp⟩, hn⟩ := hs.ext xt;obtain ⟨spd, e0, hsp⟩ := sh.ext xt;subst e0;refine ⟨a, _, rfl, SqT.of (wt_ext _ _ _ _ _ ha), rfl, _, _, rfl, _, _, rfl, _, _, rfl, rfl, ?_⟩;obtain ⟨nd', u, hu, w'⟩ := on';refine rd_set (te := tDGet2 (tVr 4) (tVr 11) (tTup (tCn (tC (.int 0)) (tCn (tC (.int 1)) tNl)))) (i := 12) ⟨_, rfl, aw, rfl, w'.isD (.inl hu), _, rfl, by show 2 <= sizeLine; decide, fun zz hz => ?_⟩
  have x3 := Ext.new (o := .tup [.int 0, .int 1]) hz;have g3' : upd H' zz (.tup [.int 0, .int 1]) zz = some (.tup [.int 0, .int 1]) := uds;have nz1 : zz ≠ aw := fun e => by rw [e, hu] at hz; cases hz
  have nz2 : zz ≠ d := fun e => by rw [e, hd'] at hz; cases hz
  have q3 := wt_at nz1 nz2 g3';have xw3 := wt_ex x3 aw d;have hu3 := x3 _ _ hu;have hd3 := x3 _ _ hd';have hl3 := x3 _ _ hl';generalize upd H' zz (.tup [.int 0, .int 1]) = H3 at x3 g3' q3 xw3 hu3 hd3 hl3 ⊢;have w3 := w'.mono xw3;have rk3 : Rds H3 nv (kD tp ks) := by rw [<- ek]; exact (hn.mono xw3).mono (wt_ext _ _ _)
  obtain ⟨o, dg, alt⟩ := w3.get (.inl hu3) rk3 kok;refine ⟨o, dg, ?_⟩;have ah : ShV K (wt H3 aw d) (o.getD (.ref zz)) (lowT (wAt ps' ks) (D * M)) (lowBt (wAt ps' ks) (D * M)) := by
   rcases alt with ⟨rfl, e⟩ | ⟨av, rfl, h⟩
   ·rw [e, (lowT_zero (Nat.mul_pos D1 M1)).1, (lowT_zero (Nat.mul_pos D1 M1)).2];exact ⟨zz, rfl, SqT.of q3⟩
   ·exact h
  show tSq (tC1 K) (tC2 K) _ [some v, some tv, some (.int x), some (.ref d), some (.ref aw), some stv, some (.ref spd), some (.ref l1), o8, some (.int s.hand), some (.ref pp), some nv, some (o.getD (.ref zz)), o13] H3;generalize o.getD (.ref zz) = av at ah ⊢;obtain ⟨ap, e1, hap⟩ := ah;subst e1;have hap' := My.SqT.ext hap (wt_ext H3 aw d);have hsp' := My.SqT.ext (My.SqT.ext hsp xw3) (wt_ext H3 aw d);have hpp' := My.SqT.ext (My.SqT.ext hpp xw3) (wt_ext H3 aw d);have st := sum_takeN (fun s : Stp => s.part M) ss j;have sA : wAt ps' ks <= D * M := Nat.le_trans (wAt_le ps' ks) (by rw [sm']; exact Nat.le_trans (Nat.add_le_add_left (Nat.mul_le_mul_left _ st) _) sm)
  have ls := low_step (A := wAt ps' ks) (N := N) (t := s.t) D1 M1 b1 (dv s hm);have a0 : lowT (wAt ps' ks) (D * M) <= 10 ^ 42 := Nat.le_trans lowT_le (Nat.le_trans sA bd);have a1 : lowBt (wAt ps' ks) (D * M) <= 10 ^ 42 := Nat.le_trans lowBt_le bd;have a1p : 0 < lowBt (wAt ps' ks) (D * M) := lowBt_pos (Nat.mul_pos D1 M1);have dD : D <= 10 ^ 42 := Nat.le_trans (Nat.le_mul_of_pos_right D M1) bd;have n0 : lowT N D <= 10 ^ 42 := Nat.le_trans lowT_le (Nat.le_trans hN dD);have n1' : lowBt N D <= 10 ^ 42 := Nat.le_trans lowBt_le dD;have n1p : 0 < lowBt N D := lowBt_pos D1;generalize lowT (wAt ps' ks) (D * M) = A0 at ls a0 hap';generalize lowBt (wAt ps' ks) (D * M) = A1 at ls a1 a1p hap';generalize lowT N D = N0 at ls n0 hsp';generalize lowBt N D = N1 at ls n1' n1p hsp';have p1 : A0 * N1 <= 10 ^ 84 := mul2 a0 n1' (by decide)
  have p2 : N0 * s.t <= 10 ^ 84 := mul2 (n := 100) n0 (by omega) (by decide)
  have p3 : A1 * N1 <= 10 ^ 84 := mul2 a1 n1' (by decide)
  have p4 : A1 * N1 * s.b <= 10 ^ 86 := mul2 (n := 100) p3 g3 (by decide)
  have big : ∀ {m c : Nat}, m <= c -> c <= 10 ^ 300 -> Sz m := fun h1 h2 => sz_of (Nat.le_trans h1 h2);have zA0 := big a0 (by decide); have zA1 := big a1 (by decide); have zN0 := big n0 (by decide); have zN1 := big n1' (by decide)
  have zt : Sz s.t := sz100 (by omega)
  have zb : Sz s.b := sz100 g3;have z1 := big p1 (by decide); have z2 := big p2 (by decide); have z3 := big p3 (by decide)
  refine rd_set (te := tAd (tGm (tGm (tIxT K 12 0) (tIxT K 6 1)) (tIxT K 10 1)) (tGm (tGm (tIxT K 6 0) (tIxT K 10 0)) (tIxT K 12 1))) (i := 13)
   (rd_op (rd_gm (rd_gm (rd_ixS 0 rfl hap' rfl (rd_ixS 1 rfl hsp' rfl ⟨_, _, rfl, rfl, gm zA0 zN1, rd_ixS 1 rfl hpp' rfl ⟨_, _, rfl, rfl, by rw [<- Int.natCast_mul]; exact gm z1 zb,
    rd_gm (rd_gm (rd_ixS 0 rfl hsp' rfl (rd_ixS 0 rfl hpp' rfl ⟨_, _, rfl, rfl, gm zN0 zt, rd_ixS 1 rfl hap' rfl ⟨_, _, rfl, rfl, by rw [<- Int.natCast_mul]; exact gm z2 zA1, _, _, rfl, rfl, ?_⟩⟩)))⟩⟩)))))
  have e13 : ((A0 : Int) * N1 * s.b + (N0 : Int) * s.t * A1) = ((A0 * N1 * s.b + N0 * s.t * A1 : Nat) : Int) := by simp only [Int.natCast_add, Int.natCast_mul]
  show tC2 K _ [some v, some tv, some (.int x), some (.ref d), some (.ref aw), some stv, some (.ref spd), some (.ref l1), o8, some (.int s.hand), some (.ref pp), some nv, some (.ref ap), some (.int ((A0 : Int) * N1 * s.b + (N0 : Int) * s.t * A1))] H3;rw [e13];have pos : 0 < A1 * N1 * s.b := Nat.mul_pos (Nat.mul_pos a1p n1p) b1;have bnd : A1 * N1 * s.b < 10 ^ 1000 := Nat.lt_of_le_of_lt p4 (Nat.pow_lt_pow_right (by decide) (by decide))
  refine ⟨_, rfl, rd_gm (rd_gm (rd_ixS 1 rfl hap' rfl (rd_ixS 1 rfl hsp' rfl ⟨_, _, rfl, rfl, gm zA1 zN1, rd_ixS 1 rfl hpp' rfl ⟨_, _, rfl, rfl, by rw [<- Int.natCast_mul]; exact gm z3 zb, A0 * N1 * s.b + N0 * s.t * A1, A1 * N1 * s.b, by simp only [Int.natCast_mul, List.append_nil], pos, bnd, fun m hm' => ?_⟩⟩)))⟩
  have x4 := Ext.new (o := .tup [.int ((A0 * N1 * s.b + N0 * s.t * A1) / Nat.gcd (A0 * N1 * s.b + N0 * s.t * A1) (A1 * N1 * s.b) : Nat), .int (A1 * N1 * s.b / Nat.gcd (A0 * N1 * s.b + N0 * s.t * A1) (A1 * N1 * s.b) : Nat)]) hm';have g4 : upd H3 m (.tup [.int ((A0 * N1 * s.b + N0 * s.t * A1) / Nat.gcd (A0 * N1 * s.b + N0 * s.t * A1) (A1 * N1 * s.b) : Nat), .int (A1 * N1 * s.b / Nat.gcd (A0 * N1 * s.b + N0 * s.t * A1) (A1 * N1 * s.b) : Nat)]) m = some (.tup [.int (lowT (wAt ps' ks + N * s.part M) (D * M) : Nat), .int (lowBt (wAt ps' ks + N * s.part M) (D * M) : Nat)]) := by
   have l1' := ls.1;have l2' := ls.2;show _ = some (HO.tup [.int (lowT (wAt ps' ks + N * (s.t * (M / s.b))) (D * M) : Nat), .int (lowBt (wAt ps' ks + N * (s.t * (M / s.b))) (D * M) : Nat)]);rw [<- l1', <- l2'];exact uds
  have nm1 : m ≠ aw := fun e => by rw [e, hu3] at hm'; cases hm'
  have nm2 : m ≠ d := fun e => by rw [e, hd3] at hm'; cases hm'
  generalize upd H3 m (.tup [.int ((A0 * N1 * s.b + N0 * s.t * A1) / Nat.gcd (A0 * N1 * s.b + N0 * s.t * A1) (A1 * N1 * s.b) : Nat), .int (A1 * N1 * s.b / Nat.gcd (A0 * N1 * s.b + N0 * s.t * A1) (A1 * N1 * s.b) : Nat)]) = H4 at x4 g4 ⊢;have xw4 := wt_ex x4 aw d;obtain ⟨u', pt, wu'⟩ := WU.put (v := .ref m) (c := N * s.part M) (w3.mono xw4) (x4 _ _ hu3) nd' (rk3.mono x4) kok ⟨m, rfl, SqT.of (wt_at nm1 nm2 g4)⟩ (by omega)
  refine ⟨_, rfl, _, rfl, aw, _, rfl, pt, wAdd ps' ks (N * s.part M), _, _, _, _, _, rfl, ?_, ?_, ?_, ⟨wAdd_nd nd', u', uds, ?_⟩, ?_, ?_, ?_⟩
  ·rw [wt_same]; exact (xt.trans xw3).trans xw4
  ·rw [upd_ne (Ne.symm ne)]; exact x4 _ _ hd3
  ·rw [upd_ne n1]; exact x4 _ _ hl3
  ·rw [wt_same]; exact wu'
  ·rw [wAdd_sum, sm', take_all es, List.map_append, List.sum_append];simp only [List.map_cons, List.map_nil, List.sum_cons, List.sum_nil, Nat.add_zero, Nat.mul_add, Nat.add_assoc]
  ·have := wAdd_len ps' ks (N * s.part M);omega
  ·intro q hq;rcases wAdd_key hq with z | z
   ·exact .inr ⟨s, hm, by rw [z]; exact kok, by rw [z, ek]⟩
   ·exact kk q z
 ·rintro σ H' ⟨ps', o9, o10, o11, o12, o13, rfl, xt, hd', hl', on', sm', ln', kk⟩;have le := al.len;rw [le] at sm' ln';rw [List.take_length] at sm';exact k ps' H' _ _ _ _ _ xt hd' on' sm' ln' kk
end
structure Lok (t : Rl) (x : Nat) (D : Nat) (ps : Wts) : Prop where
 D1 : 0 < D
 Db : D <= 100 ^ x
 sum : wSum ps = D
 nd : (ps.map (·.1)).Nodup
 len : ps.length <= 2 ^ x
 keys : ∀ q ∈ ps.map (·.1), KyOk t.tp q /\ ((x : Int) < t.folk -> t.vst (x : Nat) (kD t.tp q))
theorem Lok.mul {t : Rl} {x D M : Nat} {ps ps' : Wts} (L : Lok t x D ps) (M1 : 0 < M) (Mb : M <= 100) (sm : wSum ps' = M * wSum ps) (nd : (ps'.map (·.1)).Nodup) (ln : ps'.length <= 2 * ps.length) (ky : ∀ q ∈ ps'.map (·.1), KyOk t.tp q /\ (((x + 1 : Nat) : Int) < t.folk -> t.vst ((x + 1 : Nat) : Int) (kD t.tp q))) : Lok t (x + 1) (D * M) ps' where
 D1 := Nat.mul_pos L.D1 M1
 Db := by rw [Nat.pow_succ]; exact Nat.mul_le_mul L.Db Mb
 sum := by rw [sm, L.sum, Nat.mul_comm]
 nd := nd
 len := by have := L.len; rw [Nat.pow_succ]; omega
 keys := ky
theorem flat_k (k : Key) : Flats (kV k) (kV k) := by
 cases k with
 | inl i => exact ⟨rfl, rfl, by show (i == i) = true; simp⟩
 | inr s => exact ⟨rfl, rfl, by show (s == s) = true; simp⟩
 | non => exact ⟨rfl, rfl, rfl⟩
theorem flat_i (i : Int) : Flats (.int i) (.int i) := ⟨rfl, rfl, by show (i == i) = true; simp⟩
section
variable {K : Frag} {H : Hp}
theorem alike_kd {tp : Bool} {ks : List Key} {x y : V} (h1 : Rds H x (kD tp ks)) (h2 : Rds H y (kD tp ks)) : Alike K H 2 x y := by
 cases tp with
 | false =>
  rw [key_rd (show Rds H x (keyD (ks.headD .non)) from h1), key_rd (show Rds H y (keyD (ks.headD .non)) from h2)];exact .same (.inr (flat_k _))
 | true =>
  have h1' : Rds H x (.tuple (ks.map keyD)) := h1;have h2' : Rds H y (.tuple (ks.map keyD)) := h2;cases h1' with
  | tup a1 r1 =>
   cases h2' with
   | tup a2 r2 =>
    have e1 := keys_rd r1;have e2 := keys_rd r2;subst e1 e2;refine .inr ⟨_, _, _, _, rfl, rfl, .inl ⟨SqT.of a1, SqT.of a2⟩, rfl, fun i u v hu hv => ?_⟩;rw [hu] at hv;cases hv;rw [List.getElem?_map] at hu;obtain ⟨k, _, rfl⟩ := Option.map_eq_some_iff.mp hu;exact .same (.inr (flat_k k))
theorem alike_sh {x y : V} {t b : Nat} (h1 : ShV K H x t b) (h2 : ShV K H y t b) : Alike K H 2 x y := by
 obtain ⟨p, rfl, a1⟩ := h1;obtain ⟨q, rfl, a2⟩ := h2;refine .inr ⟨_, _, _, _, rfl, rfl, .inl ⟨a1, a2⟩, rfl, fun i u v hu hv => ?_⟩;rw [hu] at hv;cases hv
 match i, hu with
 | 0, hu => cases hu; exact .same (.inr (flat_i _))
 | 1, hu => cases hu; exact .same (.inr (flat_i _))
theorem alike_st {tp : Bool} {x y : V} {s : Stp} (ek : ∃ ks, KyOk tp ks /\ s.next = kD tp ks) (h1 : StV K H x s) (h2 : StV K H y s) : Alike K H 3 x y := by
 obtain ⟨ks, _, e⟩ := ek;obtain ⟨a, sv, nv, rfl, ha, s1, n1⟩ := h1;obtain ⟨b, sw, nw, rfl, hb, s2, n2⟩ := h2;rw [e] at n1 n2;refine .inr ⟨_, _, _, _, rfl, rfl, .inl ⟨SqT.of ha, SqT.of hb⟩, rfl, fun i u v hu hv => ?_⟩
 match i, hu, hv with
 | 0, hu, hv => cases hu; cases hv; exact .same (.inr (flat_i _))
 | 1, hu, hv => cases hu; cases hv; exact alike_sh s1 s2
 | 2, hu, hv => cases hu; cases hv; exact alike_kd n1 n2
theorem alike_sts {tp : Bool} {ss : List Stp} {xs ys : List V} (ek : ∀ s ∈ ss, ∃ ks, KyOk tp ks /\ s.next = kD tp ks) (h1 : StA K H xs ss) (h2 : StA K H ys ss) : xs.length = ys.length /\ ∀ (i : Nat) x y, xs[i]? = some x -> ys[i]? = some y -> Alike K H 3 x y := by
 refine ⟨by rw [h1.len, h2.len], fun i x y hx hy => ?_⟩
 obtain ⟨s, es, a⟩ := h1.get hx;obtain ⟨s', es', b⟩ := h2.get hy;rw [es] at es';cases es';exact alike_st (ek s (List.mem_of_getElem? es)) a b
theorem kd_wt {tp : Bool} {ks : List Key} {x : V} {aw d : Addr} {u z : HO} {ob : Obj} (hu : H aw = some u) (du : Dct u) (hd : H d = some (.frz ob z)) (h : Rds H x (kD tp ks)) : Rds (wt H aw d) x (kD tp ks) := by
 cases tp with
 | false =>
  rw [key_rd (show Rds H x (keyD (ks.headD .non)) from h)];exact rd_key _ _
 | true =>
  have h' : Rds H x (.tuple (ks.map keyD)) := h;cases h' with
  | tup a r =>
   have e := keys_rd r;subst e;refine Rds.tup (wt_at (fun z => ?_) (fun z => ?_) a) (rd_keys _ ks)
   ·rw [z, hu] at a; cases a; exact du
   ·rw [z, hd] at a; cases a
theorem sh_wt {x : V} {t b : Nat} {aw d : Addr} {u z : HO} {ob : Obj} (hu : H aw = some u) (du : Dct u) (hd : H d = some (.frz ob z)) (dz : Dct z) (h : ShV K H x t b) : ShV K (wt H aw d) x t b := by
 obtain ⟨p, rfl, a⟩ := h;refine ⟨p, rfl, ?_⟩;rcases a with (a | ⟨o, a⟩) | a
 ·exact .inl (.inl (wt_at (fun z => by rw [z, hu] at a; cases a; exact du) (fun z => by rw [z, hd] at a; cases a) a))
 ·exact .inl (.inr ⟨o, wt_at (fun z => by rw [z, hu] at a; cases a; exact du) (fun z => by rw [z, hd] at a; cases a; exact dz) a⟩)
 ·exact .inr a
theorem sts_wt {tp : Bool} {aw d : Addr} {u z : HO} {ob : Obj} (hu : H aw = some u) (du : Dct u) (hd : H d = some (.frz ob z)) (dz : Dct z) {xs : List V} {ss : List Stp} (ek : ∀ s ∈ ss, ∃ ks, KyOk tp ks /\ s.next = kD tp ks) (h : StA K H xs ss) : StA K (wt H aw d) xs ss := by
 induction h with
 | nil => exact .nil
 | @cons p s ps ss h t ih =>
  refine .cons ?_ (ih fun q hq => ek q (List.mem_cons_of_mem _ hq));obtain ⟨ks, _, e⟩ := ek s (List.mem_cons_self ..);obtain ⟨a, sv, nv, rfl, ha, s1, n1⟩ := h;rw [e] at n1;exact ⟨a, sv, nv, rfl, wt_at (fun z => by rw [z, hu] at ha; cases ha; exact du) (fun z => by rw [z, hd] at ha; cases ha) ha, sh_wt hu du hd dz s1, by rw [e]; exact kd_wt hu du hd n1⟩
variable {P : Program} {w : World} {mg : Str -> Option Value} {base : Heap} {C : Nat -> Addr} {CR f a1 a2 a3 a4 : Addr} {fd d1 d2 d3 d4 : FuncData}
theorem rd_bo {De : Ends} {H0 : Hp} {aw d : Addr} {v tv kx shv : V} {x : Nat} {t : Rl} {ks : List Key} {n D : Nat} {ps1 : Wts} {z : HO} {ob : Obj} {o7 o8 o9 o10 o11 o12 o13 : Option V}
  (ru : Ru C (wt H0 aw d) t v) (rt : Rds (wt H0 aw d) tv (Rl.told t)) (ok : t.ok) (hg : t.hgt <= 3) (xf : (x : Int) < t.folk) (kok : KyOk t.tp ks) (vst : t.vst (x : Nat) (kD t.tp ks)) (rk : Rds (wt H0 aw d) kx (kD t.tp ks)) (D1 : 0 < D) (bd : D * t.dd x <= 10 ^ 42) (hn : n <= D)
  (sh : ShV K (wt H0 aw d) shv (lowT n D) (lowBt n D)) (on : OnW K H0 aw d t.tp (D * t.dd x) ps1) (sm : wSum ps1 + n * t.dd x <= D * t.dd x) (ln : ps1.length + 2 < sizeLine) (ne : aw ≠ d) (hd : H0 d = some (.frz ob z)) (dz : Dct z)
  (k : ∀ ps' H' o7 o8 o9 o10 o11 o12 o13, Ext (wt H0 aw d) (wt H' aw d) -> H' d = some (.frz ob z) -> OnW K H' aw d t.tp (D * t.dd x) ps' -> wSum ps' = wSum ps1 + n * t.dd x -> ps'.length <= ps1.length + 2 -> (∀ q ∈ ps'.map (·.1), q ∈ ps1.map (·.1) \/ (KyOk t.tp q /\ (((x + 1 : Nat) : Int) < t.folk -> t.vst ((x + 1 : Nat) : Int) (kD t.tp q)))) -> De.nx [some v, some tv, some (.int (x : Nat)), some (.ref d), some (.ref aw), some kx, some shv, o7, o8, o9, o10, o11, o12, o13] H') :
  tBo K C De [some v, some tv, some (.int (x : Nat)), some (.ref d), some (.ref aw), some kx, some shv, o7, o8, o9, o10, o11, o12, o13] H0 := by
 obtain ⟨M1, Mb, dv, sd⟩ := Rl.sum_dd ok (x := (x : Int)) (by omega) xf vst
 obtain ⟨gd, nn⟩ := Rl.steps_ok ok (x := (x : Int)) (by omega) xf vst
 have ek := Rl.next_key ok (x := (x : Int)) (by omega) xf vst
 have sl2 := Rl.steps_len t (kD t.tp ks) (x : Int);generalize hss : t.steps (kD t.tp ks) (x : Int) = ss at dv sd gd nn ek sl2;have w0 := wt_ext H0 aw d;refine rd_set (te := tCl (spLS K 3) [] E0 (tCn (tVr 1) (tCn (tVr 5) (tCn (tVr 2) tNl)))) (i := 7) ⟨_, rfl, _, rfl, _, rfl, tv, kx, (x : Int), t, kD t.tp ks, rfl, rt.mono w0, ok, hg, by omega, xf, vst, rk.mono w0, fun l1 H1 x1 sl => ?_⟩
 rw [hss] at sl;obtain ⟨vs1, hl1, al1⟩ := sl;show tSq (tB1 K C) _ _ [some v, some tv, some (.int (x : Nat)), some (.ref d), some (.ref aw), some kx, some shv, some (.ref l1), o8, o9, o10, o11, o12, o13] H1;have xw1 := wt_ex x1 aw d;have w1 := wt_ext H1 aw d;refine rd_set (te := tStp K C) (i := 8) (rd_methS (t := t) (v := v) (by decide +kernel) ((ru.ext xw1).ext w1) ⟨_, t.kind_lt, rfl⟩ (fun R r => ⟨_, rfl, r⟩) ⟨_, rfl, _, rfl, v, kx, (x : Int), t, kD t.tp ks, rfl, (ru.ext xw1).ext w1, rfl, ok, by omega, xf, vst, (rk.mono xw1).mono w1, fun l2 H2 x2 sf => ?_⟩)
 rw [hss] at sf;obtain ⟨fl2, vs2, hl2, al2⟩ := sf;show tSq (tB2 K) _ _ [some v, some tv, some (.int (x : Nat)), some (.ref d), some (.ref aw), some kx, some shv, some (.ref l1), some (.ref l2), o9, o10, o11, o12, o13] H2;obtain ⟨ll, la⟩ := alike_sts ek al2 (al1.ext x2);refine ⟨_, rfl, _, _, _, _, rfl, .inl (.lst hl2), rfl, _, rfl, itF ⟨_, rfl, _, rfl, l2, l1, vs2, vs1, rfl, rfl, .inr ⟨SqL.of hl2, SqL.of (x2 _ _ hl1)⟩, ll, la, _, rfl, itF ?_⟩⟩;show tSq (tB3 K) _ _ [some v, some tv, some (.int (x : Nat)), some (.ref d), some (.ref aw), some kx, some shv, some (.ref l1), some (.ref l2), o9, o10, o11, o12, o13] H2;refine ⟨_, rfl, .inl ⟨rfl, _, SqL.of hl2⟩, by show 2 <= sizeLine; decide, fun p1 hp1 => ⟨by show 3 <= sizeLine; decide, fun p2 hp2 => ?_⟩⟩
 have x3 := Ext.new (o := .tup [.int 1, .int 1]) hp1;have x4 := Ext.new (o := .tup [.int 1, .ref p1, .non]) hp2;have x24 := x3.trans x4;generalize upd (upd H2 p1 (.tup [.int 1, .int 1])) p2 (.tup [.int 1, .ref p1, .non]) = H4 at x4 x24 ⊢;have lv2 : vs2.length <= 2 := by rw [al2.len]; exact sl2
 have hl4 := x24 _ _ hl2;refine ⟨l2, vs2, .ref p2, rfl, rfl, hl4, by rw [sizeLine_eq]; omega, ?_⟩
 have x15 : Ext H1 (upd H4 l2 (.lst (vs2 ++ [.ref p2]))) := ext_upd _ (x2.trans x24) fl2;have hl5 : upd H4 l2 (.lst (vs2 ++ [.ref p2])) l2 = some (.lst (vs2 ++ [.ref p2])) := uds;show tSq (tB4 K) _ _ [some v, some tv, some (.int (x : Nat)), some (.ref d), some (.ref aw), some kx, some shv, some (.ref l1), some (.ref l2), o9, o10, o11, o12, o13] (upd H4 l2 (.lst (vs2 ++ [.ref p2])));generalize upd H4 l2 (.lst (vs2 ++ [.ref p2])) = H5 at x15 hl5 ⊢;obtain ⟨y0, ys0, e0⟩ : ∃ y0 ys0, vs2 ++ [.ref p2] = y0 :: ys0 := by
  cases vs2 with
  | nil => exact ⟨_, _, rfl⟩
  | cons a b => exact ⟨_, _, rfl⟩
 rw [e0] at hl5;refine ⟨_, rfl, .inl ⟨rfl, _, SqL.of hl5⟩, l2, y0 :: ys0, 0, 0, y0, rfl, rfl, hl5, by decide, by decide, by simp [seqIndex?], rfl, ?_⟩
 have x16 : Ext H1 (upd H5 l2 (.lst ((y0 :: ys0).eraseIdx 0))) := ext_upd _ x15 fl2;show tSq (tB5 K C) (tB6 K) _ [some v, some tv, some (.int (x : Nat)), some (.ref d), some (.ref aw), some kx, some shv, some (.ref l1), some (.ref l2), o9, o10, o11, o12, o13] (upd H5 l2 (.lst ((y0 :: ys0).eraseIdx 0)));generalize upd H5 l2 (.lst ((y0 :: ys0).eraseIdx 0)) = H6 at x16 ⊢;have x06 := x1.trans x16;have xw6 := wt_ex x06 aw d;have w6 := wt_ext H6 aw d;refine rd_methS (t := t) (v := v) (by decide +kernel) ((ru.ext xw6).ext w6) ⟨_, t.kind_lt, rfl⟩ (fun R r => ⟨_, rfl, r⟩) ⟨_, rfl, _, rfl, v, kx, (x : Int), t, kD t.tp ks, rfl, (ru.ext xw6).ext w6, rfl, ok, by omega, xf, vst, (rk.mono xw6).mono w6, fun l3 H7 x7 sf => ?_⟩
 rw [hss] at sf;obtain ⟨_, vs3, hl3, al3⟩ := sf;have x17 := x16.trans x7;have al7 := al1.ext x17;have hl7 := x17 _ _ hl1;obtain ⟨ll3, la3⟩ := alike_sts ek al3 al7;refine ⟨_, rfl, l3, l1, vs3, vs1, rfl, rfl, .inr ⟨SqL.of hl3, SqL.of hl7⟩, ll3, la3, _, rfl, itF ?_⟩;have x07 := x1.trans x17;have xw7 := wt_ex x07 aw d;obtain ⟨nd1, u1, hu1, wu1⟩ := on;have on7 : OnW K H7 aw d t.tp (D * t.dd x) ps1 := ⟨nd1, u1, x07 _ _ hu1, wu1.mono xw7⟩;refine rd_in (N := n) (M := t.dd x) ek (fun s hs => (gd s hs).1) dv M1 D1 bd hn hl7 (sts_wt (x07 _ _ hu1) wu1.dct (x07 _ _ hd) dz ek al7) (sh.ext xw7) on7 (by rw [sd]; exact sm) (by omega) ne (x07 _ _ hd) fun ps' H' o9 o10 o11 o12 o13 xt hd' on' sm' ln' kk => ?_
 refine k ps' H' _ _ _ _ _ _ _ (xw7.trans xt) hd' on' (by rw [sm', sd]) (by omega) fun q hq => ?_
 rcases kk q hq with z | ⟨s, hs, kq, es⟩
 ·exact .inl z
 ·refine .inr ⟨kq, fun lt => ?_⟩;have := (gd s hs).2 (by omega)
  rw [es] at this;exact this
def spLR (K : Frag) (C : Nat -> Addr) : Sp := fun vs H Q _ => ∃ (v tv : V) (x : Nat) (d : Addr) (t : Rl) (D : Nat) (u : HO) (ps : Wts), vs = [v, tv, .int (x : Nat), .ref d] /\ Ru C (wo H d) t v /\ Rds (wo H d) tv (Rl.told t) /\ t.ok /\ t.hgt <= 3 /\ (x : Int) < t.folk /\ Rd H d u /\ WU K (wo H d) t.tp D u ps /\ Lok t x D ps /\
 ∀ aw H' D' u' ps', Ext (wo H d) (wo H' aw) -> H' aw = some u' -> WU K (wo H' aw) t.tp D' u' ps' -> Lok t (x + 1) D' ps' -> Q (.ref aw) H'
theorem pow42 {x D M : Nat} (h : D <= 100 ^ x) (hx : x <= 20) (hM : M <= 100) : D * M <= 10 ^ 42 := by
 have e : (100 : Nat) ^ x <= 100 ^ 20 := Nat.pow_le_pow_right (by decide) hx
 exact mul2 (Nat.le_trans h e) hM (by decide)
theorem wSum_nil {ps : Wts} (h : 0 < wSum ps) : ∃ q, q ∈ ps := by
 cases ps with
 | nil => exact absurd h (by decide)
 | cons p ps => exact ⟨p, List.mem_cons_self ..⟩
theorem ok_lr (N : IsT K) (F : Fun K "_law_layer_right" "_law_layer_right" sLR f fd) (A1 : Df P w K mg base CX0 7 "_law_steps" ["_law_told", "_law_state", "_law_at"] (spLS K 3) a1 d1) (A2 : Df P w K mg base CX0 2 "_law_lowest" ["_law_top", "_law_bottom"] spLow a2 d2) (M : MethS P w K mg base CX0 7 "steps" ["self", "state", "at"] (Is5 C) (spStp K C)) (mi : mg "isinstance" = none) (ml : mg "list" = none) : FnOk P w K mg base CX0 8 f fd ["_law_rule", "_law_told", "_law_at", "_law_states"] (spLR K C) := by
 refine F.ok scLR (fun vs H Q E h => ?_) (fun cdv A outer s H vs Q E hr h => ?_)
 ·obtain ⟨_, _, _, _, _, _, _, _, rfl, _⟩ := h;rfl
 obtain ⟨v, tv, x, d, t, D, u, ps, rfl, ru, rt, ok, hg, xf, rd, wu, L, q⟩ := h;obtain ⟨der⟩ := lr_der (tp := t.tp) N A1 A2 M mi ml hr (f := f) (cdv := cdv) (A := A) (outer := outer) (s := s) (H := H) (E := E);refine ⟨_, der, ?_⟩;have fk := Rl.folk_ok ok;have vstAt : ∀ p ∈ ps, KyOk t.tp p.1 /\ t.vst (x : Nat) (kD t.tp p.1) := fun p hp => by
  obtain ⟨h1, h2⟩ := L.keys p.1 (List.mem_map.mpr ⟨p, hp, rfl⟩);exact ⟨h1, h2 xf⟩
 obtain ⟨q0, hq0⟩ := wSum_nil (ps := ps) (by rw [L.sum]; exact L.D1)
 obtain ⟨M1, Mb, _, _⟩ := Rl.sum_dd ok (x := (x : Int)) (by omega) xf (vstAt q0 hq0).2
 have bd : D * t.dd x <= 10 ^ 42 := pow42 L.Db (by omega) Mb
 have p20 : 2 ^ x <= 2 ^ 20 := Nat.pow_le_pow_right (by decide) (by omega)
 have Ll := L.len;refine rd_set (te := tDN t.tp) (i := 4) (D := ⟨_, Q, _, _⟩) fun aw haw => ?_;have hdn : H d ≠ none := fun z => by
  rcases rd with e | ⟨o, e⟩
  ·rw [z] at e; cases e
  ·rw [z] at e; cases e
 have ne : aw ≠ d := fun e => hdn (by rw [<- e]; exact haw)
 have rd1 : Rd (upd H aw (emp t.tp)) d u := by
  unfold Rd;rw [upd_ne (Ne.symm ne)];exact rd
 show tSq (tL1 K C) _ _ [some v, some tv, some (.int (x : Nat)), some (.ref d), some (.ref aw), none, none, none, none, none, none, none, none, none] (upd H aw (emp t.tp));refine ⟨_, rfl, d, u, rfl, wu.dct, rd1, fun ob H2 fz => ?_⟩;obtain ⟨hd2, same⟩ := fz;have hw2 : H2 aw = some (emp t.tp) := by rw [same aw ne]; exact uds
 have xb : Ext (wo H d) (wt H2 aw d) := fun b o e => by
  have nb := wo_ne e;have e' := wo_ext _ _ _ _ e;have na : b ≠ aw := fun z => by rw [z, haw] at e'; cases e'
  exact wt_at na nb (by rw [same b nb, upd_ne na]; exact e')
 have lu := wu.len;refine for_itm (d := d) (ob := ob) (u := u) (fun i σ H' => ∃ ps1 o5 o6 o7 o8 o9 o10 o11 o12 o13, σ = [some v, some tv, some (.int (x : Nat)), some (.ref d), some (.ref aw), o5, o6, o7, o8, o9, o10, o11, o12, o13] /\ Ext (wo H d) (wt H' aw d) /\ H' d = some (.frz ob u) /\ OnW K H' aw d t.tp (D * t.dd x) ps1 /\ wSum ps1 = t.dd x * wSum (ps.take i) /\ ps1.length <= 2 * i /\ (∀ q ∈ ps1.map (·.1), KyOk t.tp q /\ (((x + 1 : Nat) : Int) < t.folk -> t.vst ((x + 1 : Nat) : Int) (kD t.tp q)))) ⟨[], _, _, _, _, _, _, _, _, _, rfl, xb, hd2, ⟨List.nodup_nil, _, hw2, wu_emp _ _ _ _⟩, by simp [wSum], Nat.zero_le _, (fun q hq => nomatch hq)⟩ ?_ ?_ ?_
 ·rintro i σ H' ⟨_, _, _, _, _, _, _, _, _, _, _, _, h, _⟩;exact h
 ·rintro i σ H' p kx shv hi ⟨ps1, o5, o6, o7, o8, o9, o10, o11, o12, o13, rfl, xt, hd', on, sm, ln, kk⟩ hp pr;obtain ⟨ks, n, eps, rk, kok, shw⟩ := (wu.mono xt).at pr;have hm := List.mem_of_getElem? eps;have x1 := Ext.new (o := .tup [kx, shv]) hp;have g1 : upd H' p (.tup [kx, shv]) p = some (.tup [kx, shv]) := uds;generalize upd H' p (.tup [kx, shv]) = H1 at x1 g1 ⊢;have xw := wt_ex x1 aw d;refine ⟨p, _, rfl, SqT.of g1, rfl, _, _, rfl, _, _, rfl, rfl, ?_⟩;have ts := wSum_take eps;have tl : wSum (ps.take (i + 1)) <= wSum ps := sum_takeN (fun p : List Key × Nat => p.2) ps (i + 1);have nD : n <= D := by rw [<- L.sum]; exact wMem_le hm
  have ip : i < ps.length := (List.getElem?_eq_some_iff.mp eps).1;obtain ⟨nd1, u1, hu1, wu1⟩ := on;have on1 : OnW K H1 aw d t.tp (D * t.dd x) ps1 := ⟨nd1, u1, x1 _ _ hu1, wu1.mono xw⟩;have s1 : wSum ps1 + n * t.dd x = t.dd x * wSum (ps.take (i + 1)) := by
   rw [sm, ts, Nat.mul_add, Nat.mul_comm n]
  have xtw := xt.trans xw;refine rd_bo (t := t) (ks := ks) (n := n) (ru.ext xtw) (rt.mono xtw) ok hg xf kok (vstAt _ hm).2 (kd_wt (x1 _ _ hu1) wu1.dct (x1 _ _ hd') (rk.mono x1)) L.D1 bd nD (shw.ext xw) on1 ?_ ?_ ne (x1 _ _ hd') wu.dct fun ps' H3 o7 o8 o9 o10 o11 o12 o13 x3 hd3 on3 sm3 ln3 kk3 => ?_
  ·rw [s1, Nat.mul_comm D];exact Nat.mul_le_mul_left _ (by rw [<- L.sum]; exact tl)
  ·have : 2 ^ 20 = 1048576 := by decide
   rw [sizeLine_eq];omega
  ·refine ⟨ps', _, _, _, _, _, _, _, _, _, rfl, xtw.trans x3, hd3, on3, by rw [sm3, s1], by omega, fun q hq => ?_⟩
   rcases kk3 q hq with z | z
   ·exact kk q z
   ·exact z
 ·rintro σ H' ⟨ps1, o5, o6, o7, o8, o9, o10, o11, o12, o13, rfl, xt, hd', ⟨nd1, u1, hu1, wu1⟩, sm, ln, kk⟩;have xo := wo_ext (wo H' aw) d;rw [lu] at sm ln;rw [List.take_length] at sm;exact ⟨_, rfl, q aw H' (D * t.dd x) u1 ps1 (xt.trans xo) hu1 (wu1.mono xo) (L.mul M1 Mb sm nd1 ln kk)⟩
end
theorem wo_same {H : Hp} {p : Addr} {o : HO} : wo (upd H p o) p = wo H p := by
 funext b
 unfold wo;by_cases e : b = p
 ·rw [if_pos e, if_pos e]
 ·rw [if_neg e, if_neg e, upd_ne e]
theorem Rl.depth8 : ∀ t : Rl, t.begin.depth <= 2
 | .one r => by cases r <;> simp [Rl.begin, R0.begin, PyData.depth]
 | .blocks [] => by simp [Rl.begin, PyData.depth, PyData.depthAll]
 | .blocks (r :: rs) => by cases r <;> simp [Rl.begin, R0.begin, PyData.depth, PyData.depthAll]
 | .first t _ => Rl.depth8 t
section
variable {P : Program} {w : World} {K : Frag} {mg : Str -> Option Value} {base : Heap} {C : Nat -> Addr} {CR f a1 a2 a3 a4 : Addr} {fd d1 d2 d3 d4 : FuncData}
abbrev sR8 : Stmt := top 52
abbrev NR8 : List Str := ["_law_rule", "_law_told", "_law_states", "_law_at", "_law_total", "_law_share"]
theorem scR8 : FnScope NR8 ["_law_rule", "_law_told"] (defScope sR8) := mkSc
def spR8 (C : Nat -> Addr) : Sp := fun vs H Q _ => ∃ (v tv : V) (t : Rl), vs = [v, tv] /\ Ru C H t v /\ Rds H tv (Rl.told t) /\ t.ok /\ t.hgt <= 3 /\ ∀ H', Ext H H' -> Q (.bl true) H'
def tFa : TS := tRet (tC (.bl false))
def tBgC : TE := tCl (spBg 3) [] E0 (tCn (tVr 1) tNl)
def tE0 (C : Nat -> Addr) : TS := tIfS (tB (tOp (rEqD not) (tMethD (Is5 C) "begin" (fun _ => spBegin C) E0 (tVr 0) tNl) tBgC)) tFa tNext
def tE1 (tp : Bool) : TS := tAg (tD1 tp tBgC (tTup (tCn (tC (.int 1)) (tCn (tC (.int 1)) tNl)))) (gNm 2)
def tE2a (K : Frag) (C : Nat -> Addr) : TS := tAg (tCl (spLR K C) [] E0 (tCn (tVr 0) (tCn (tVr 1) (tCn (tVr 3) (tCn (tVr 2) tNl))))) (gNm 2)
def tE2b : TS := tIfS (tB (tIsN (tVr 2))) tFa tNext
def tE2 (K : Frag) (C : Nat -> Addr) : TS := tFor (iRng1 (tCn (tCl spFo [] E0 (tCn (tVr 1) tNl)) tNl)) (gNm 3) (tSq (tE2a K C) tE2b)
def tE3 : TS := tAg (tTup (tCn (tC (.int 0)) (tCn (tC (.int 1)) tNl))) (gNm 4)
def tE4a (K : Frag) : TS := tAg (tCl spLow [] E0 (tCn (tAd (tGm (tIxT K 4 0) (tIxT K 5 1)) (tGm (tIxT K 5 0) (tIxT K 4 1))) (tCn (tGm (tIxT K 4 1) (tIxT K 5 1)) tNl))) (gNm 4)
def tE4 (K : Frag) : TS := tFor (iVls (tVr 2)) (gNm 5) (tE4a K)
def tE5 (K : Frag) : TS := tRet (tOp (rTT K id) (tVr 4) (tTup (tCn (tC (.int 1)) (tCn (tC (.int 1)) tNl))))
def tR8 (tp : Bool) (K : Frag) (C : Nat -> Addr) : TS := tSq (tE0 C) (tSq (tE1 tp) (tSq (tE2 K C) (tSq tE3 (tSq (tE4 K) (tE5 K)))))
section
variable {tp : Bool} {cdv : Value} {A : Around} {outer : List Env} {s : Shared} {H : Hp} {E : XK}
theorem r8_der (M : Ms P w K mg base C) (A1 : Df P w K mg base CX0 4 "_law_begin" ["_law_told"] (spBg 3) a1 d1) (A2 : Df P w K mg base CX0 2 "_law_folk" ["_law_told"] spFo a2 d2) (A3 : Df P w K mg base CX0 8 "_law_layer_right" ["_law_rule", "_law_told", "_law_at", "_law_states"] (spLR K C) a3 d3) (A4 : Df P w K mg base CX0 2 "_law_lowest" ["_law_top", "_law_bottom"] spLow a4 d4) (mr : mg "range" = none) (hr : Room 8 (A.deeper (PyProof.Rows.envOfC "_law_right" (defScope sR8) s.heap.objs.size f cdv))) : Bx (PSs (cxOf CX0 P w K mg base NR8 "_law_right" (defScope sR8) f cdv A outer s H E).nox (defBody sR8) (tR8 tp K C)) := by
 have nd := scR8.nd;have hr1 : Room 1 _ := hr.mono (by decide)
 have hr2 : Room 2 _ := hr.mono (by decide)
 have hr4 : Room 4 _ := hr.mono (by decide)
 have hu : (A.deeper (PyProof.Rows.envOfC "_law_right" (defScope sR8) s.heap.objs.size f cdv)).units + 64 < cLine := by have := hr.un; omega
 have hu2 : (A.deeper (PyProof.Rows.envOfC "_law_right" (defScope sR8) s.heap.objs.size f cdv)).units + 2 < cLine := by omega
 exact bsc ⟨ps_if (pt_cmpR (op_neD hu) (pe_methD0 (pv 0) M.begin hr1 pass0) (pec A1.G hr4 rfl A1.m A1.kp A1.b .nil pass0 (pac (pv 1) pan)) (nomark _)) (pss_one (prt peb)) psn⟩
  (bsc ⟨pst (i := 2) nd rfl (Or.inl rfl) (pe_d1 hu2 (pec A1.G hr4 rfl A1.m A1.kp A1.b .nil pass0 (pac (pv 1) pan)) (pe_tup (pac pei (pac pei pan))))⟩
  (bsc ⟨ps_for PassesOwn.never rfl (pi_range1 rfl mr (pac (pec A2.G hr2 rfl A2.m A2.kp A2.b .nil pass0 (pac (pv 1) pan)) pan)) (pgn (i := 3) nd rfl (Or.inl rfl))
   (psc (pst (i := 2) nd rfl (Or.inl rfl) (pec A3.G hr rfl A3.m A3.kp A3.b .nil pass0 (pac (pv 0) (pac (pv 1) (pac (pv 3) (pac (pv 2) pan))))))
   (pss_one (ps_if (pt_cmp (pc_isN (pv 2))) (pss_one (prt peb)) psn)))⟩
  (bsc ⟨pst (i := 4) nd rfl (Or.inl rfl) (pe_tup (pac pei (pac pei pan)))⟩
  (bsc ⟨ps_for PassesOwn.never rfl (pi_values (pv 2)) (pgn (i := 5) nd rfl (Or.inl rfl))
   (pss_one (pst (i := 4) nd rfl (Or.inl rfl) (pec A4.G hr2 rfl A4.m A4.kp A4.b .nil pass0 (pac (pe_op op_add (pe_op op_gmul (pxr ixt (pv 4) pei) (pxr ixt (pv 5) pei)) (pe_op op_gmul (pxr ixt (pv 5) pei) (pxr ixt (pv 4) pei))) (pac (pe_op op_gmul (pxr ixt (pv 4) pei) (pxr ixt (pv 5) pei)) pan)))))⟩
  (bxs_one (bx_ret ⟨pe_cmpR (op_eqT (Nat.lt_of_le_of_lt (Nat.le_add_right _ 64) hu)) (pv 4) (pe_tup (pac pei (pac pei pan))) (nomark _)⟩))))))
end
theorem rd_tot {De : Ends} {H0 : Hp} {v tv : V} {d : Addr} {o3 o4 o5 : Option V} {t : Rl} {x D : Nat} {u : HO} {ps : Wts} (hx : x <= 20) (rd : Rd H0 d u) (wu : WU K (wo H0 d) t.tp D u ps) (L : Lok t x D ps) (k : ∀ H', Ext (wo H0 d) (wo H' d) -> De.rt (.bl true) H') : tSq tE3 (tSq (tE4 K) (tE5 K)) De [some v, some tv, some (.ref d), o3, o4, o5] H0 := by
 have dD : D <= 10 ^ 42 := by have := pow42 (M := 1) L.Db hx (by decide); rwa [Nat.mul_one] at this
 have D1 := L.D1;refine rd_set (te := tTup (tCn (tC (.int 0)) (tCn (tC (.int 1)) tNl))) (i := 4) ⟨by show 2 <= sizeLine; decide, fun m hm => ?_⟩
 have hdn : H0 d ≠ none := fun z => by
  rcases rd with e | ⟨o, e⟩
  ·rw [z] at e; cases e
  ·rw [z] at e; cases e
 have nm : m ≠ d := fun e => hdn (by rw [<- e]; exact hm)
 have x1 := Ext.new (o := .tup [.int 0, .int 1]) hm;have g1 : upd H0 m (.tup [.int 0, .int 1]) m = some (.tup [.int 0, .int 1]) := uds;have rd1 : Rd (upd H0 m (.tup [.int 0, .int 1])) d u := by
  unfold Rd;rw [upd_ne (Ne.symm nm)];exact rd
 show tSq (tE4 K) (tE5 K) _ [some v, some tv, some (.ref d), o3, some (.ref m), o5] (upd H0 m (.tup [.int 0, .int 1]));generalize upd H0 m (.tup [.int 0, .int 1]) = H1 at x1 g1 rd1 ⊢;have xw1 := wo_ex x1 d;refine ⟨_, rfl, d, u, rfl, wu.dct, rd1, fun ob H2 fz => ?_⟩;obtain ⟨hd2, same⟩ := fz;have xw2 : Ext (wo H1 d) (wo H2 d) := fun b o e => by
  have nb := wo_ne e;exact wo_at nb (by rw [same b nb]; exact wo_ext _ _ _ _ e)
 have x02 := xw1.trans xw2;have g2 := xw2 _ _ (wo_at nm g1);have lu := wu.len;refine for_vls (d := d) (ob := ob) (u := u) (fun i σ H' => ∃ tot o5, σ = [some v, some tv, some (.ref d), o3, some tot, o5] /\ Ext (wo H0 d) (wo H' d) /\ H' d = some (.frz ob u) /\ ShV K (wo H' d) tot (lowT (wSum (ps.take i)) D) (lowBt (wSum (ps.take i)) D)) ⟨.ref m, _, rfl, x02, hd2, ?_⟩ ?_ ?_ ?_
 ·have e : wSum (ps.take 0) = 0 := rfl;rw [e, (lowT_zero D1).1, (lowT_zero D1).2];exact ⟨m, rfl, SqT.of g2⟩
 ·rintro i σ H' ⟨_, _, _, _, h, _⟩;exact h
 ·rintro i σ H' kx shv hi ⟨tot, o5, rfl, xt, hd', sh⟩ pr;obtain ⟨ks, n, eps, _, _, shw⟩ := (wu.mono xt).at pr;have ts := wSum_take eps;have tl : wSum (ps.take i) <= D := by rw [<- L.sum]; exact sum_takeN (fun p : List Key × Nat => p.2) ps i
  have nD : n <= D := by rw [<- L.sum]; exact wMem_le (List.mem_of_getElem? eps)
  have lt := low_tot (S := wSum (ps.take i)) (N := n) D1;rw [<- ts] at lt;obtain ⟨tp, e1, htp⟩ := sh;subst e1;obtain ⟨sp, e2, hsp⟩ := shw;subst e2;have htp' := My.SqT.ext htp (wo_ext H' d);have hsp' := My.SqT.ext hsp (wo_ext H' d);have a0 : lowT (wSum (ps.take i)) D <= 10 ^ 42 := Nat.le_trans lowT_le (Nat.le_trans tl dD);have a1 : lowBt (wSum (ps.take i)) D <= 10 ^ 42 := Nat.le_trans lowBt_le dD;have a1p : 0 < lowBt (wSum (ps.take i)) D := lowBt_pos D1;have n0 : lowT n D <= 10 ^ 42 := Nat.le_trans lowT_le (Nat.le_trans nD dD);have n1 : lowBt n D <= 10 ^ 42 := Nat.le_trans lowBt_le dD;have n1p : 0 < lowBt n D := lowBt_pos D1;generalize lowT (wSum (ps.take i)) D = A0 at lt a0 htp';generalize lowBt (wSum (ps.take i)) D = A1 at lt a1 a1p htp';generalize lowT n D = N0 at lt n0 hsp';generalize lowBt n D = N1 at lt n1 n1p hsp';have big : ∀ {m c : Nat}, m <= c -> c <= 10 ^ 300 -> Sz m := fun h1 h2 => sz_of (Nat.le_trans h1 h2);have zA0 := big a0 (by decide); have zA1 := big a1 (by decide); have zN0 := big n0 (by decide); have zN1 := big n1 (by decide)
  have p3 : A1 * N1 <= 10 ^ 84 := mul2 a1 n1 (by decide)
  have e13 : ((A0 : Int) * N1 + (N0 : Int) * A1) = ((A0 * N1 + N0 * A1 : Nat) : Int) := by simp only [Int.natCast_add, Int.natCast_mul]
  show tE4a K _ [some v, some tv, some (.ref d), o3, some (.ref tp), some (.ref sp)] H';refine rd_asgL (te := tCl spLow [] E0 (tCn (tAd (tGm (tIxT K 4 0) (tIxT K 5 1)) (tGm (tIxT K 5 0) (tIxT K 4 1))) (tCn (tGm (tIxT K 4 1) (tIxT K 5 1)) tNl))) (g := gNm 4) ?_;refine rd_op (rd_gm (rd_ixS 0 rfl htp' rfl (rd_ixS 1 rfl hsp' rfl ⟨_, _, rfl, rfl, gm zA0 zN1, rd_gm (rd_ixS 0 rfl hsp' rfl (rd_ixS 1 rfl htp' rfl ⟨_, _, rfl, rfl, gm zN0 zA1, _, _, rfl, rfl, ?_⟩))⟩)));refine rd_gm (rd_ixS 1 rfl htp' rfl (rd_ixS 1 rfl hsp' rfl ⟨_, _, rfl, rfl, gm zA1 zN1, A0 * N1 + N0 * A1, A1 * N1, by show [V.int ((A0 : Int) * N1 + (N0 : Int) * A1), V.int ((A1 : Int) * N1)] = _; rw [e13, <- Int.natCast_mul], Nat.mul_pos a1p n1p, Nat.lt_of_le_of_lt p3 (Nat.pow_lt_pow_right (by decide) (by decide)), fun m2 hm2 => ?_⟩))
  have x4 := Ext.new (o := .tup [.int ((A0 * N1 + N0 * A1) / Nat.gcd (A0 * N1 + N0 * A1) (A1 * N1) : Nat), .int (A1 * N1 / Nat.gcd (A0 * N1 + N0 * A1) (A1 * N1) : Nat)]) hm2;have nm2 : m2 ≠ d := fun e => by rw [e, hd'] at hm2; cases hm2
  have g4 : upd H' m2 (.tup [.int ((A0 * N1 + N0 * A1) / Nat.gcd (A0 * N1 + N0 * A1) (A1 * N1) : Nat), .int (A1 * N1 / Nat.gcd (A0 * N1 + N0 * A1) (A1 * N1) : Nat)]) m2 = some (.tup [.int (lowT (wSum (ps.take (i + 1))) D : Nat), .int (lowBt (wSum (ps.take (i + 1))) D : Nat)]) := by
   rw [<- lt.1, <- lt.2];exact uds
  exact ⟨.ref m2, _, rfl, xt.trans (wo_ex x4 d), x4 _ _ hd', m2, rfl, SqT.of (wo_at nm2 g4)⟩
 ·rintro σ H' ⟨tot, o5, rfl, xt, hd', sh⟩;rw [lu, List.take_length, L.sum, (lowT_all D1).1, (lowT_all D1).2] at sh;obtain ⟨tp, e1, htp⟩ := sh;subst e1;have htp' := My.SqT.ext htp (wo_ext H' d);refine ⟨_, rfl, by show 2 <= sizeLine; decide, fun p2 hp2 => ?_⟩
  have x4 := Ext.new (o := .tup [.int 1, .int 1]) hp2;refine ⟨tp, p2, _, _, rfl, rfl, My.SqT.ext htp' x4, SqT.of uds, rfl, rfl, ?_⟩;exact k _ (xt.trans (wo_ex x4 d))
end
section
variable {P : Program} {w : World} {K : Frag} {mg : Str -> Option Value} {base : Heap} {C : Nat -> Addr} {CR f a1 a2 a3 a4 : Addr} {fd d1 d2 d3 d4 : FuncData}
theorem ok_r8 (F : Fun K "_law_right" "_law_right" sR8 f fd) (M : Ms P w K mg base C) (A1 : Df P w K mg base CX0 4 "_law_begin" ["_law_told"] (spBg 3) a1 d1) (A2 : Df P w K mg base CX0 2 "_law_folk" ["_law_told"] spFo a2 d2) (A3 : Df P w K mg base CX0 8 "_law_layer_right" ["_law_rule", "_law_told", "_law_at", "_law_states"] (spLR K C) a3 d3) (A4 : Df P w K mg base CX0 2 "_law_lowest" ["_law_top", "_law_bottom"] spLow a4 d4) (mr : mg "range" = none) : FnOk P w K mg base CX0 9 f fd ["_law_rule", "_law_told"] (spR8 C) := by
 refine F.ok scR8 (fun vs H Q E h => ?_) (fun cdv A outer s H vs Q E hr h => ?_)
 ·obtain ⟨_, _, _, rfl, _⟩ := h;rfl
 obtain ⟨v, tv, t, rfl, ru, rt, ok, hg, q⟩ := h;obtain ⟨der⟩ := r8_der (tp := t.tp) M A1 A2 A3 A4 mr hr (f := f) (cdv := cdv) (A := A) (outer := outer) (s := s) (H := H) (E := E);refine ⟨_, der, ?_⟩;have fk := Rl.folk_ok ok;obtain ⟨n, en⟩ : ∃ n : Nat, t.folk = (n : Int) := ⟨t.folk.toNat, by omega⟩
 obtain ⟨ks, kok, ekb⟩ := Rl.begin_key t ok;refine rd_methS (t := t) (v := v) (by decide +kernel) ru ⟨_, t.kind_lt, rfl⟩ (fun R r => ⟨_, rfl, r⟩) ⟨v, t, H, rfl, Ext.refl _, ru, fun b rb => ?_⟩
 refine ⟨_, rfl, tv, t, rfl, rt, ok, hg, fun c H1 x1 rc => ⟨t.begin, t.begin, rb.mono x1, rc, t.plainB, t.plainB, Nat.le_trans t.depth8 (by decide), _, rfl, ?_⟩⟩
 rw [eqD_refl t.plainB];refine itF ?_;refine rd_set (te := tD1 t.tp tBgC (tTup (tCn (tC (.int 1)) (tCn (tC (.int 1)) tNl)))) (i := 2) (D := ⟨_, Q, _, _⟩) fun d hd => ?_;have x2 := Ext.new (o := emp t.tp) hd;have g2 : upd H1 d (emp t.tp) d = some (emp t.tp) := uds;have b2 : Ext H1 (wo (upd H1 d (emp t.tp)) d) := fun b o e => wo_at (ne_of_none e hd) (x2 _ _ e);generalize upd H1 d (emp t.tp) = H2 at x2 g2 b2 ⊢;refine ⟨_, rfl, tv, t, rfl, rt.mono (x1.trans x2), ok, hg, fun b' H3 x3 rb' => ⟨by show 2 <= sizeLine; decide, fun z hz => ?_⟩⟩
 have x4 := Ext.new (o := .tup [.int 1, .int 1]) hz;have g4 : upd H3 z (.tup [.int 1, .int 1]) z = some (.tup [.int 1, .int 1]) := uds;have hd3 := x3 _ _ g2;have nz : z ≠ d := fun e => by rw [e, hd3] at hz; cases hz
 generalize upd H3 z (.tup [.int 1, .int 1]) = H4 at x4 g4 ⊢;have x24 := x3.trans x4;have hd4 := x24 _ _ g2;have s4 : ShV K (wo H4 d) (.ref z) (lowT (wAt [] ks + 1) 1) (lowBt (wAt [] ks + 1) 1) := by
  have e1 : lowT (wAt [] ks + 1) 1 = 1 := (lowT_all (F := 1) (by decide)).1
  have e2 : lowBt (wAt [] ks + 1) 1 = 1 := (lowT_all (F := 1) (by decide)).2
  rw [e1, e2];exact ⟨z, rfl, SqT.of (wo_at nz g4)⟩
 obtain ⟨u', pt, wu'⟩ := WU.put (v := .ref z) (c := 1) (ks := ks) (kx := b') (wu_emp K (wo H4 d) t.tp 1) hd4 List.nodup_nil (by rw [<- ekb]; exact rb'.mono x4) kok s4 (by show 0 < sizeLine; decide)
 refine ⟨_, pt, ?_⟩;have g5 : upd H4 d u' d = some u' := uds;have wu5 : WU K (wo (upd H4 d u') d) t.tp 1 u' [(ks, 1)] := by rw [wo_same]; exact wu'
 have b5 : Ext H (wo (upd H4 d u') d) := by
  rw [wo_same];exact x1.trans (b2.trans (wo_ex x24 d))
 show tSq (tE2 K C) _ _ [some v, some tv, some (.ref d), none, none, none] (upd H4 d u');generalize upd H4 d u' = H5 at g5 wu5 b5 ⊢;have L0 : Lok t 0 1 [(ks, 1)] := ⟨by decide, by decide, rfl, by simp, by show 1 <= 1; decide, fun q hq => by
  have e : q = ks := by simpa using hq
  rw [e];refine ⟨kok, fun lt => ?_⟩;rw [<- ekb];exact Rl.vst0 ok (by simpa using lt)⟩
 have h5 := wo_ext H5 d;refine ⟨_, rfl, tv, t, rfl, rt.mono (b5.trans h5), ok, fun H6 x6 => ?_⟩;rw [en];refine ⟨(n : Int), rfl, by omega, by omega, ?_⟩
 rw [Int.toNat_natCast];refine for_range (lo := 0) (n := n) (fun i σ H' => ∃ d D u ps o3, σ = [some v, some tv, some (.ref d), o3, none, none] /\ Ext H (wo H' d) /\ Rd H' d u /\ WU K (wo H' d) t.tp D u ps /\ Lok t i D ps) ⟨d, 1, u', _, _, rfl, b5.trans (wo_ex x6 d), .inl (x6 _ _ g5), wu5.mono (wo_ex x6 d), L0⟩ ?_ ?_
 ·rintro i σ H' hi ⟨d, D, u, ps, o3, rfl, xb, rd, wu, L⟩;have ei : (0 : Int) + (i : Int) = (i : Int) := Int.zero_add _;show tSq (tE2a K C) tE2b _ [some v, some tv, some (.ref d), some (.int (0 + (i : Int))), none, none] H';rw [ei];refine rd_set (te := tCl (spLR K C) [] E0 (tCn (tVr 0) (tCn (tVr 1) (tCn (tVr 3) (tCn (tVr 2) tNl))))) (i := 2) ⟨_, rfl, _, rfl, _, rfl, _, rfl, v, tv, i, d, t, D, u, ps, rfl, ru.ext xb, rt.mono xb, ok, hg, by omega, rd, wu, L, fun aw H7 D' u7 ps7 x7 h7 w7 L7 => ?_⟩
  exact ⟨_, rfl, _, rfl, itF ⟨aw, D', u7, ps7, _, rfl, xb.trans x7, .inl h7, w7, L7⟩⟩
 ·rintro σ H' ⟨d, D, u, ps, o3, rfl, xb, rd, wu, L⟩;exact rd_tot (x := n) (t := t) (by omega) rd wu L fun H8 x8 => q H8 ((xb.trans x8).trans (wo_ext H8 d))
end
theorem cut_ints {ns : List Int} {lo hi : Option Int} : ∀ v ∈ cutV (ns.map V.int) lo hi, ∃ i, v = V.int i := by
 intro v hv;unfold cutV at hv;have h1 := List.mem_of_mem_drop (List.mem_of_mem_take hv);obtain ⟨i, _, rfl⟩ := List.mem_map.mp h1;exact ⟨i, rfl⟩
def tInts : List Int -> TA
 | [] => tNl
 | n :: ns => tCn (tC (.int n)) (tInts ns)
section
variable {X : Cx} {op : Operator} {r : R2} {a b : Expr} {ta tb : TE} {pos p : Pos} {CX : CXT} {k : Nat} {f : Addr} {fd : FuncData} {ps : List Str} {sp : Sp} {E : XK} {x : Str} {e : Expr} {es : List Expr} {t : TA} {tg iter l : Expr} {body : List Stmt} {wi : TI} {g : TG} {tb' : TS} {tl : TE}
theorem bx_op (ho : OpR X (binaryOp op) r) (ha : Bx (PE X a ta)) (hb : Bx (PE X b tb)) : Bx (PE X (.BinOp a op b pos) (tOp r ta tb)) := ⟨pe_op ho ha.h hb.h⟩
end
theorem below_nn {xs ss : List Int} (h : Below xs ss) (l : xs.length = ss.length) : ∀ n ∈ xs, 0 <= n := fun n hn => by
 obtain ⟨i, hi, rfl⟩ := List.getElem_of_mem hn;exact (h i _ _ (List.getElem?_eq_getElem hi) (List.getElem?_eq_getElem (by omega))).1
def Rl.word : Rl -> Str
 | .one (.split _ _) => "split"
 | .one (.pairs _ _ _) => "pairs"
 | .one (.coins _ _ _ _) => "coins"
 | .blocks _ => "blocks"
 | .first _ _ => "first"
theorem tl_word {H : Hp} {v : V} {t : Rl} (r : Rds H v t.told) : ∃ a xs, v = .ref a /\ H a = some (.tup (.str t.word :: xs)) := by
 cases t with
 | one r' =>
  cases r' with
  | split n k => obtain ⟨a, e, h⟩ := tl_split r; exact ⟨a, _, e, h⟩
  | pairs n x y => obtain ⟨a, c, e, h, _⟩ := tl_pairs r; exact ⟨a, _, e, h⟩
  | coins n x y g => obtain ⟨a, c, e, h, _⟩ := tl_coins r; exact ⟨a, _, e, h⟩
 | blocks rs => obtain ⟨a, b, ys, e, h, _⟩ := tl_blocks r; exact ⟨a, _, e, h⟩
 | first t m => obtain ⟨a, u, e, h, _⟩ := tl_first r; exact ⟨a, _, e, h⟩
def w3 : List V := [.str "split", .str "pairs", .str "coins"]
theorem in3 (t : Rl) : inV (.str t.word) w3 = decide (t.kind < 3) := by
 have h0 : inV (.str "split") w3 = true := by decide +kernel
 have h1 : inV (.str "pairs") w3 = true := by decide +kernel
 have h2 : inV (.str "coins") w3 = true := by decide +kernel
 have h3 : inV (.str "blocks") w3 = false := by decide +kernel
 have h4 : inV (.str "first") w3 = false := by decide +kernel
 cases t with
 | one r =>
  cases r with
  | split _ _ => exact h0
  | pairs _ _ _ => exact h1
  | coins _ _ _ _ => exact h2
 | blocks rs => exact h3
 | first t m => exact h4
section
variable {P : Program} {w : World} {K : Frag} {mg : Str -> Option Value} {base : Heap} {C : Nat -> Addr} {CR CN CS CT CM f0 f1 f2 f3 f4 : Addr} {e0 e1 e2 e3 e4 : FuncData}
abbrev sLaw : Stmt := top 53
abbrev stLw (i : Nat) : Stmt := (defBody sLaw).getD i (.Pass ⟨0, 0, 0, 0⟩)
def forBody : Stmt -> List Stmt
 | .For _ _ b _ _ => b
 | _ => []
abbrev stB (i : Nat) : Stmt := (forBody (stLw 0)).getD i (.Pass ⟨0, 0, 0, 0⟩)
abbrev NLw : List Str := ["_law_script", "_law_cell", "_law_sizes", "_law_told", "_law_one_here"]
theorem scLw : FnScope NLw ["_law_script"] (defScope sLaw) := mkSc
def tQ0 : TS := tAg (tOp rCat (tLst (tInts [3, 20, 1000, 1000, 8, 80, 8, 12, 3])) (tOp rRep (tLst (tInts [3, 20, 1000, 1000, 8, 80, 5])) (tC (.int 6)))) (gNm 2)
def tRw9 (K : Frag) : TE := tCl (spRow K) [] E0 (tCn (tVr 1) (tCn (tOp rCat (tVr 2) (tLst (tInts [60, 60]))) tNl))
def tQ1 (K : Frag) : TS := tAg (tCl spDn [] E0 (tCn (tRw9 K) (tCn (tC (.int 10)) tNl))) (gNm 3)
def tMk (C : Nat -> Addr) : TE := tCl (spMd C 3) [] E0 (tCn (tVr 3) tNl)
def tRt (C : Nat -> Addr) (a b : TE) : TS := tIfS (tNot (tB (tCl (spR8 C) [] E0 (tCn a (tCn b tNl))))) tFa tNext
def tQ2 (C : Nat -> Addr) : TS := tRt C (tMk C) (tVr 3)
def tMkB (K : Frag) (C : Nat -> Addr) (CT CM : Addr) : TE := tMake (C 3) (spBlI K C CT CM) [] E0 (tCn (tLst (tCn (tVr 4) (tCn (tVr 4) tNl))) tNl)
def tTwice : TE := tTup (tCn (tC (.str "blocks")) (tCn (tTup (tCn (tVr 3) (tCn (tVr 3) tNl))) tNl))
def tIn3 (K : Frag) : TT := tB (tOp (rIn K false) (tIxT K 3 0) (tLst (tCn (tC (.str "split")) (tCn (tC (.str "pairs")) (tCn (tC (.str "coins")) tNl)))))
def tFkL : TE := tCl spFo [] E0 (tCn (tVr 3) tNl)
def tQ3 (K : Frag) (C : Nat -> Addr) (CT CM : Addr) : TS := tIfS (tAnd (tIn3 K) (tB (tOp (rI0 fun i j => .bl (decide (i < j))) tFkL (tC (.int 6))))) (tSq (tAg (tMk C) (gNm 4)) (tRt C (tMkB K C CT CM) tTwice)) tNext
def tBody (K : Frag) (C : Nat -> Addr) (CT CM : Addr) : TS := tSq tQ0 (tSq (tQ1 K) (tSq (tQ2 C) (tQ3 K C CT CM)))
def tSc (K : Frag) : TE := tOp rCat (tSl (rSlL K) (tVr 0) tNoPart (tPart (tC (.int 8)))) (tLst (tInts [4]))
def tLw (K : Frag) (C : Nat -> Addr) (CT CM : Addr) : TS := tSq (tFor (iList K (tSc K)) (gNm 1) (tBody K C CT CM)) (tRet (tC (.bl true)))
variable {f a0 a1 a2 a3 a4 : Addr} {fd d0 d1 d2 d3 d4 : FuncData} {cdv : Value} {A : Around} {outer : List Env} {s : Shared} {H : Hp} {E : XK}
structure Dl (P : Program) (w : World) (K : Frag) (mg : Str -> Option Value) (base : Heap) (C : Nat -> Addr) (CN CS CT CM f0 f1 f2 f3 f4 : Addr) (e0 e1 e2 e3 e4 : FuncData) (a0 a1 a2 a3 a4 : Addr) (d0 d1 d2 d3 d4 : FuncData) : Prop where
 ro : Df P w K mg base CX0 1 "_law_row" ["_law_cell", "_law_sizes"] (spRow K) a0 d0
 dn : Df P w K mg base CX0 5 "_law_drawn" ["_law_xs", "_law_most"] spDn a1 d1
 ri : Df P w K mg base CX0 9 "_law_right" ["_law_rule", "_law_told"] (spR8 C) a2 d2
 md : Df P w K mg base CX0 11 "_law_made" ["_law_told"] (spMd C 3) a3 d3
 fo : Df P w K mg base CX0 2 "_law_folk" ["_law_told"] spFo a4 d4
 L : Mks P w K mg base C CN CS CT CM f0 f1 f2 f3 f4 e0 e1 e2 e3 e4
section
variable (D : Dl P w K mg base C CN CS CT CM f0 f1 f2 f3 f4 e0 e1 e2 e3 e4 a0 a1 a2 a3 a4 d0 d1 d2 d3 d4) (hr : Room 11 (A.deeper (PyProof.Rows.envOfC "law" (defScope sLaw) s.heap.objs.size f cdv)))
include D hr
theorem b_0 : Bx (PS (cxOf CX0 P w K mg base NLw "law" (defScope sLaw) f cdv A outer s H E).nox (stB 0) tQ0) :=
 bx_set (i := 2) scLw.nd rfl (Or.inl rfl) (bx_op op_cat (bx_lst (bac ⟨pei⟩ (bac ⟨pei⟩ (bac ⟨pei⟩ (bac ⟨pei⟩ (bac ⟨pei⟩ (bac ⟨pei⟩ (bac ⟨pei⟩ (bac ⟨pei⟩ (bac ⟨pei⟩ bxa_nil)))))))))) (bx_op op_rep (bx_lst (bac ⟨pei⟩ (bac ⟨pei⟩ (bac ⟨pei⟩ (bac ⟨pei⟩ (bac ⟨pei⟩ (bac ⟨pei⟩ (bac ⟨pei⟩ bxa_nil)))))))) ⟨pei⟩))
theorem b_1 : Bx (PS (cxOf CX0 P w K mg base NLw "law" (defScope sLaw) f cdv A outer s H E).nox (stB 1) (tQ1 K)) := by
 have hr1 : Room 1 _ := hr.mono (by decide)
 have hr5 : Room 5 _ := hr.mono (by decide)
 exact ⟨pst (i := 3) scLw.nd rfl (Or.inl rfl) (pec D.dn.G hr5 rfl D.dn.m D.dn.kp D.dn.b .nil pass0 (pac (pec D.ro.G hr1 rfl D.ro.m D.ro.kp D.ro.b .nil pass0 (pac (pv 1) (pac (pe_op op_cat (pv 2) (pe_lst (pac pei (pac pei pan)))) pan))) (pac pei pan)))⟩
theorem b_2 : Bx (PS (cxOf CX0 P w K mg base NLw "law" (defScope sLaw) f cdv A outer s H E).nox (stB 2) (tQ2 C)) := by
 have hr9 : Room 9 _ := hr.mono (by decide)
 exact ⟨ps_if (pt_not (pt_val (pec D.ri.G hr9 rfl D.ri.m D.ri.kp D.ri.b .nil pass0 (pac (pec D.md.G hr rfl D.md.m D.md.kp D.md.b .nil pass0 (pac (pv 3) pan)) (pac (pv 3) pan))))) (pss_one (prt peb)) psn⟩
theorem b_3 : Bx (PS (cxOf CX0 P w K mg base NLw "law" (defScope sLaw) f cdv A outer s H E).nox (stB 3) (tQ3 K C CT CM)) := by
 have hr2 : Room 2 _ := hr.mono (by decide)
 have hr5 : Room 5 _ := hr.mono (by decide)
 have hr9 : Room 9 _ := hr.mono (by decide)
 exact ⟨ps_if (PW.pt (pw_and (pt_cmpR op_in_seq (pxr ixt (pv 3) pei) (pe_lst (pac pe_str (pac pe_str (pac pe_str pan)))) rfl) (pw_and1 (pt_cmpR op_lt (pec D.fo.G hr2 rfl D.fo.m D.fo.kp D.fo.b .nil pass0 (pac (pv 3) pan)) pei (nomark _)))))
  (psc (pst (i := 4) scLw.nd rfl (Or.inl rfl) (pec D.md.G hr rfl D.md.m D.md.kp D.md.b .nil pass0 (pac (pv 3) pan)))
  (pss_one (ps_if (pt_not (pt_val (pec D.ri.G hr9 rfl D.ri.m D.ri.kp D.ri.b .nil pass0 (pac (pe_make D.L.k3 D.L.g3 hr5 rfl D.L.m3 D.L.b3 .nil passN (pac (pe_lst (pac (pv 4) (pac (pv 4) pan))) pan)) (pac (pe_tup (pac pe_str (pac (pe_tup (pac (pv 3) (pac (pv 3) pan))) pan))) pan))))) (pss_one (prt peb)) psn))) psn⟩
theorem law_0 : Bx (PS (cxOf CX0 P w K mg base NLw "law" (defScope sLaw) f cdv A outer s H E).nox (stLw 0) (tFor (iList K (tSc K)) (gNm 1) (tBody K C CT CM))) := by
 obtain ⟨q⟩ : Bx (PSs (cxOf CX0 P w K mg base NLw "law" (defScope sLaw) f cdv A outer s H E).nox (forBody (stLw 0)) (tBody K C CT CM)) := bsc (b_0 D hr) (bsc (b_1 D hr) (bsc (b_2 D hr) (bxs_one (b_3 D hr))));exact ⟨ps_for PassesOwn.never rfl (pi_list (pe_op op_cat (pe_slice sl_list (pv 0) po_none (po_some pei)) (pe_lst (pac pei pan)))) (pgn (i := 1) scLw.nd rfl (Or.inl rfl)) q⟩
theorem law_der : Bx (PSs (cxOf CX0 P w K mg base NLw "law" (defScope sLaw) f cdv A outer s H E).nox (defBody sLaw) (tLw K C CT CM)) := bsc (law_0 D hr) (bxs_one ⟨prt peb⟩)
end
end
section
variable {K : Frag} {H : Hp} {De : Ends} {σ : St} {C : Nat -> Addr} {CT CM : Addr}
def szs : List Int := [3, 20, 1000, 1000, 8, 80, 8, 12, 3] ++ (List.replicate 6 [3, 20, 1000, 1000, 8, 80, 5]).flatten
def tailI : List Int := [60, 60]
theorem szs_len : szs.length = 51 := by decide +kernel
theorem szs_ok : ∀ s ∈ szs ++ tailI, 0 < s /\ s <= 10 ^ 20 := by decide +kernel
def A9 : List V := ([3, 20, 1000, 1000, 8, 80, 8, 12, 3] : List Int).map V.int
def A7 : List V := ([3, 20, 1000, 1000, 8, 80, 5] : List Int).map V.int
theorem rd_q0 {c : Int} {o0 o2 o3 o4 : Option V} {u : TS} (k : ∀ z H', Ext H H' -> H' z = some (.lst (szs.map V.int)) -> u De [o0, some (.int c), some (.ref z), o3, o4] H') : tSq tQ0 u De [o0, some (.int c), o2, o3, o4] H := by
 refine rd_set (te := tOp rCat (tLst (tInts [3, 20, 1000, 1000, 8, 80, 8, 12, 3])) (tOp rRep (tLst (tInts [3, 20, 1000, 1000, 8, 80, 5])) (tC (.int 6)))) (i := 2) (rd_op (rd_lst ⟨by show 9 <= sizeLine; decide, fun l1 h1 => rd_op (rd_lst ⟨by show 7 <= sizeLine; decide, fun l2 h2 => ?_⟩)⟩))
 have x1 : Ext H (upd H l1 (.lst A9)) := Ext.new h1;have g1 : upd H l1 (.lst A9) l1 = some (.lst A9) := uds;have x2 : Ext (upd H l1 (.lst A9)) (upd (upd H l1 (.lst A9)) l2 (.lst A7)) := Ext.new h2;have g12 := x2 _ _ g1;have x02 := x1.trans x2;refine ⟨l2, 6, A7, rfl, rfl, uds, by decide, by decide, by show 42 <= sizeLine; decide, fun l3 h3 => ?_⟩
 have x3 : Ext (upd (upd H l1 (.lst A9)) l2 (.lst A7)) (upd (upd (upd H l1 (.lst A9)) l2 (.lst A7)) l3 (.lst (List.replicate (6 : Int).toNat A7).flatten)) := Ext.new h3;refine ⟨l1, l3, A9, (List.replicate (6 : Int).toNat A7).flatten, rfl, rfl, x3 _ _ g12, uds, by show 51 <= sizeLine; decide, fun z hz => ?_⟩
 have x4 : Ext (upd (upd (upd H l1 (.lst A9)) l2 (.lst A7)) l3 (.lst (List.replicate (6 : Int).toNat A7).flatten)) (upd (upd (upd (upd H l1 (.lst A9)) l2 (.lst A7)) l3 (.lst (List.replicate (6 : Int).toNat A7).flatten)) z (.lst (szs.map V.int))) := Ext.new hz;exact k z _ ((x02.trans x3).trans x4) uds
theorem rd_q1 {c : Int} {o0 o3 o4 : Option V} {z : Addr} {u : TS} (gz : H z = some (.lst (szs.map V.int))) (k : ∀ a t H', Ext H H' -> Rds H' (.ref a) (Rl.told t) -> t.ok -> t.hgt <= 3 -> u De [o0, some (.int c), some (.ref z), some (.ref a), o4] H') : tSq (tQ1 K) u De [o0, some (.int c), some (.ref z), o3, o4] H := by
 have sl := szs_len;refine rd_set (te := tCl spDn [] E0 (tCn (tRw9 K) (tCn (tC (.int 10)) tNl))) (i := 3) ⟨_, rfl, _, rfl, by show 2 <= sizeLine; decide, fun l5 h5 => ?_⟩
 have x5 : Ext H (upd H l5 (.lst (tailI.map V.int))) := Ext.new h5;have g5 : upd H l5 (.lst (tailI.map V.int)) l5 = some (.lst (tailI.map V.int)) := uds;show rCat (.ref z) (.ref l5) (upd H l5 (.lst (tailI.map V.int))) _;generalize upd H l5 (.lst (tailI.map V.int)) = H5 at x5 g5 ⊢;refine ⟨z, l5, szs.map V.int, tailI.map V.int, rfl, rfl, x5 _ _ gz, g5, by rw [List.length_map, sl]; decide, fun l6 h6 => ?_⟩
 have x6 := Ext.new (o := .lst (szs.map V.int ++ tailI.map V.int)) h6;refine ⟨c, l6, szs ++ tailI, rfl, SqL.of (by rw [List.map_append]; exact uds), szs_ok, by rw [List.length_append, sl]; decide, fun p xs H7 x7 _ hp lx bl => ?_⟩
 have x07 := x5.trans (x6.trans x7);have nn := below_nn bl lx;have lx' : xs.length = 53 := by rw [lx, List.length_append, sl]; rfl
 exact ⟨p, xs, rfl, ⟨hp, by omega, nn⟩, fun a t H8 x8 rd ok hg => k a t H8 (x07.trans x8) rd ok hg⟩
theorem rd_q3 {o0 o1 o2 o4 : Option V} {a : Addr} {t : Rl} (rd : Rds H (.ref a) t.told) (ok : t.ok) (hg : t.hgt <= 3) (k : ∀ H' p4, Ext H H' -> De.nx [o0, o1, o2, some (.ref a), p4] H') : tQ3 K C CT CM De [o0, o1, o2, some (.ref a), o4] H := by
 obtain ⟨a', xs, e, ha⟩ := tl_word rd;cases e;refine rxT 0 rfl ha rfl ⟨by show 3 <= sizeLine; decide, fun l hl => ?_⟩
 have x1 : Ext H (upd H l (.lst w3)) := Ext.new hl;have hw : upd H l (.lst w3) l = some (.lst w3) := uds;show rIn K false (.str t.word) (.ref l) (upd H l (.lst w3)) _;generalize upd H l (.lst w3) = H1 at x1 hw ⊢;refine ⟨l, w3, rfl, .inl (SqL.of hw), rfl, rfl, ?_⟩;have i3 := in3 t;show (∃ c, V.bl (inV (.str t.word) w3) = .bl c /\ _);rw [i3];refine ⟨_, rfl, ?_⟩;refine ite2 (fun c3 => ?_) (fun c3 => itF (k _ _ x1));have k3 : t.kind < 3 := of_decide_eq_true c3;have rd1 := rd.mono x1;refine ⟨_, rfl, .ref a, t, rfl, rd1, ok, fun H2 x2 => ⟨_, _, rfl, rfl, _, rfl, ?_⟩⟩;refine ite2 (fun c6 => ?_) (fun c6 => k _ _ (x1.trans x2));have f6 : t.folk < 6 := of_decide_eq_true c6;cases t with
 | blocks rs => exact absurd k3 (by show ¬ 3 < 3; decide)
 | first t m => exact absurd k3 (by show ¬ 4 < 3; decide)
 | one r =>
  have rd2 := rd1.mono x2;refine rd_set (te := tMk C) (i := 4) ⟨_, rfl, .ref a, .one r, rfl, rd2, ok, hg, fun x H3 x3 ru => ?_⟩;show tRt C (tMkB K C CT CM) tTwice De [o0, o1, o2, some (.ref a), some (.ref x)] H3;refine ⟨_, rfl, _, rfl, by show 2 <= sizeLine; decide, fun m hm => ?_⟩
  have x4 := Ext.new (o := .lst [.ref x, .ref x]) hm;have h4 : upd H3 m (.lst [.ref x, .ref x]) m = some (.lst [.ref x, .ref x]) := uds;have ru4 := ru.ext x4;generalize upd H3 m (.lst [.ref x, .ref x]) = H4 at x4 h4 ru4 ⊢;have ok2 : (Rl.blocks [r, r]).ok := by
   refine ⟨by show 1 <= 2; decide, by show 2 <= 6; decide, fun r' hr' => ?_, ?_⟩
   ·have : r' = r := by simpa using hr'
    rw [this]; exact ok
   ·have : r.folk < 6 := f6;simp only [List.map_cons, List.map_nil, List.sum_cons, List.sum_nil];omega
  have al : All0 C H4 [r, r] [.ref x, .ref x] := ⟨rfl, fun i r' w hr' hw => by
   match i, hr', hw with
   | 0, hr', hw => cases hr'; cases hw; exact ru4
   | 1, hr', hw => cases hr'; cases hw; exact ru4⟩
  refine mk_blocks (K := K) (CT := CT) (CM := CM) (σ := [o0, o1, o2, some (.ref a), some (.ref x)]) (t := fun _ _ R => R [.ref m] H4) (Q := fun v H2 => tCn tTwice tNl [o0, o1, o2, some (.ref a), some (.ref x)] H2 fun xs H3 => spR8 C ((v :: xs) ++ []) H3 (fun xx H4 => ∃ cc, xx = .bl cc /\ (if (!cc) = true then tFa De [o0, o1, o2, some (.ref a), some (.ref x)] H4 else tNext De [o0, o1, o2, some (.ref a), some (.ref x)] H4)) E0) (fun R r => r) h4 al ok2 fun y H5 x5 ru5 => ?_
  refine ⟨_, rfl, _, rfl, by show 2 <= sizeLine; decide, fun n hn => ⟨by show 2 <= sizeLine; decide, fun j hj => ?_⟩⟩
  have x6 := Ext.new (o := .tup [.ref a, .ref a]) hn;have x7 := Ext.new (o := .tup [.str "blocks", .ref n]) hj;have hn6 : upd H5 n (.tup [.ref a, .ref a]) n = some (.tup [.ref a, .ref a]) := uds;have x37 := ((x3.trans x4).trans x5).trans (x6.trans x7);have rd7 := rd2.mono x37;refine ⟨.ref y, .ref j, .blocks [r, r], rfl, ru5.ext (x6.trans x7), .tup uds (.cons (.str _) (.cons (.tup (x7 _ _ hn6) (.cons rd7 (.cons rd7 .nil))) .nil)), ok2, by show 1 <= 3; decide, fun H' x' => ⟨_, rfl, itF (k H' _ ((((x1.trans x2).trans x37).trans x')))⟩⟩
end
def spLaw (K : Frag) : Sp := fun vs H Q _ => ∃ (a : Addr) (ns : List Int), vs = [.ref a] /\ SqL K H a (ns.map V.int) /\ ns.length <= 63 /\ H sysModules = none /\ ∀ H', Q (.bl true) H'
section
variable {P : Program} {w : World} {K : Frag} {mg : Str -> Option Value} {base : Heap} {C : Nat -> Addr} {CN CS CT CM f0 f1 f2 f3 f4 f a0 a1 a2 a3 a4 : Addr} {e0 e1 e2 e3 e4 fd d0 d1 d2 d3 d4 : FuncData}
theorem ok_law (F : Fun K "law" "law" sLaw f fd) (D : Dl P w K mg base C CN CS CT CM f0 f1 f2 f3 f4 e0 e1 e2 e3 e4 a0 a1 a2 a3 a4 d0 d1 d2 d3 d4) : FnOk P w K mg base CX0 12 f fd ["_law_script"] (spLaw K) := by
 refine F.ok scLw (fun vs H Q E h => ?_) (fun cdv A outer s H vs Q E hr h => ?_)
 ·obtain ⟨a, ns, rfl, _⟩ := h;rfl
 obtain ⟨a, ns, rfl, ha, l63, hz, q⟩ := h;obtain ⟨der⟩ := law_der D hr (f := f) (cdv := cdv) (A := A) (outer := outer) (s := s) (H := H) (E := E);refine ⟨_, der, ?_⟩;refine ⟨_, rfl, 8, rfl, a, _, rfl, ha, fun l1 h1 => ?_⟩;have ci := cut_ints (ns := ns) (lo := none) (hi := some 8);have cl := cutV_length (ns.map V.int) none (some 8);rw [List.length_map] at cl;generalize cutV (ns.map V.int) none (some 8) = cs at ci cl ⊢;have f1 : upd H l1 (.lst cs) l1 = some (.lst cs) := uds;generalize upd H l1 (.lst cs) = H1 at f1 ⊢;refine ⟨by show 1 <= sizeLine; decide, fun l2 h2 => ?_⟩
 have xb := Ext.new (o := .lst [V.int 4]) h2;have f2 : upd H1 l2 (.lst [V.int 4]) l2 = some (.lst [V.int 4]) := uds;generalize upd H1 l2 (.lst [V.int 4]) = H2 at xb f2 ⊢;refine ⟨l1, l2, cs, [V.int 4], rfl, rfl, xb _ _ f1, f2, ?_, fun l3 h3 => ?_⟩
 ·show cs.length + 1 <= sizeLine;exact Nat.le_trans (Nat.add_le_add_right (Nat.le_trans cl l63) 1) (by decide)
 have f3 : upd H2 l3 (.lst (cs ++ [V.int 4])) l3 = some (.lst (cs ++ [V.int 4])) := uds;have ai : ∀ v ∈ cs ++ [V.int 4], ∃ i, v = V.int i := fun v hv => by
  rcases List.mem_append.mp hv with hv | hv
  ·exact ci v hv
  ·exact ⟨4, List.mem_singleton.mp hv⟩
 generalize upd H2 l3 (.lst (cs ++ [V.int 4])) = H3 at f3 ⊢;generalize cs ++ [V.int 4] = es at f3 ai;refine ⟨l3, rfl, ⟨_, SqL.of f3⟩, for_list (xs := es) (fun i σ H' => Ext H3 H' /\ ∃ o1 o2 o3 o4, σ = [some (.ref a), o1, o2, o3, o4]) ⟨Ext.refl _, _, _, _, _, rfl⟩ ?_ ?_ ?_⟩
 ·rintro i σ H' _ ⟨x', _⟩;exact SqL.of (x' _ _ f3)
 ·rintro i x σ H' ex ⟨x', o1, o2, o3, o4, rfl⟩;obtain ⟨c, rfl⟩ := ai x (List.mem_of_getElem? ex);refine rd_q0 fun z H4 x4 gz => rd_q1 gz fun a' t H5 x5 rd ok hg => ?_;refine ⟨_, rfl, .ref a', t, rfl, rd, ok, hg, fun y H6 x6 ru => ⟨_, rfl, .ref y, .ref a', t, rfl, ru, rd.mono x6, ok, hg, fun H7 x7 => ⟨_, rfl, itF ?_⟩⟩⟩;exact rd_q3 ((rd.mono x6).mono x7) ok hg fun H8 p4 x8 => ⟨x'.trans ((x4.trans x5).trans ((x6.trans x7).trans x8)), _, _, _, _, rfl⟩
 ·rintro σ H' ⟨x', o1, o2, o3, o4, rfl⟩;exact q H'
end
abbrev sIni2 : Stmt := inClass (top 2) 0
theorem scIni2 : FnScope ["self", "found"] ["self", "found"] (defScope sIni2) := mkSc
theorem one2 {K : Frag} {mg : Str -> Option Value} {D C f : Addr} {fd : FuncData} (B : BaseC K D) (T : ErrC K D "NoShare" C f) (mD : mg "DealError" = some (.ref D)) (mC : mg "NoShare" = some (.ref C)) (F : Fun K "__init__" "NoShare.__init__" sIni2 f fd) (tk : takerIn K C "found" = some none) : OneF K mg D "NoShare" "found" C f fd := by
 refine ⟨T, mC, fun P w base => ?_, F.binds fun _ _ _ _ _ _ us hl => match us, hl with | [_, _], _ => rfl⟩
 refine F.ok scIni2 (fun vs H Q E h => ?_) (fun cdv A outer s H vs Q E hr h => ?_)
 ·obtain ⟨x, v, rfl, _⟩ := h;rfl
 obtain ⟨x, v, rfl, hx, q⟩ := h;refine ⟨_, psc (ps_expr (pe_baseInit B T rfl mD (pv 0) pe_str)) (pss_one (ps_err T (pv 0) (pv 1) rfl)), ?_⟩;exact ⟨_, rfl, x, rfl, hx, _, rfl, _, rfl, x, rfl, hx, tk, q⟩
abbrev sIni3 : Stmt := inClass (top 3) 0
theorem scIni3 : FnScope ["self", "found"] ["self", "found"] (defScope sIni3) := mkSc
theorem one3 {K : Frag} {mg : Str -> Option Value} {D C f : Addr} {fd : FuncData} (B : BaseC K D) (T : ErrC K D "NoNumber" C f) (mD : mg "DealError" = some (.ref D)) (mC : mg "NoNumber" = some (.ref C)) (F : Fun K "__init__" "NoNumber.__init__" sIni3 f fd) (tk : takerIn K C "found" = some none) : OneF K mg D "NoNumber" "found" C f fd := by
 refine ⟨T, mC, fun P w base => ?_, F.binds fun _ _ _ _ _ _ us hl => match us, hl with | [_, _], _ => rfl⟩
 refine F.ok scIni3 (fun vs H Q E h => ?_) (fun cdv A outer s H vs Q E hr h => ?_)
 ·obtain ⟨x, v, rfl, _⟩ := h;rfl
 obtain ⟨x, v, rfl, hx, q⟩ := h;refine ⟨_, psc (ps_expr (pe_baseInit B T rfl mD (pv 0) pe_str)) (pss_one (ps_err T (pv 0) (pv 1) rfl)), ?_⟩;exact ⟨_, rfl, x, rfl, hx, _, rfl, _, rfl, x, rfl, hx, tk, q⟩
abbrev sIni4 : Stmt := inClass (top 4) 0
theorem scIni4 : FnScope ["self", "found"] ["self", "found"] (defScope sIni4) := mkSc
theorem one4 {K : Frag} {mg : Str -> Option Value} {D C f : Addr} {fd : FuncData} (B : BaseC K D) (T : ErrC K D "NoTrials" C f) (mD : mg "DealError" = some (.ref D)) (mC : mg "NoTrials" = some (.ref C)) (F : Fun K "__init__" "NoTrials.__init__" sIni4 f fd) (tk : takerIn K C "found" = some none) : OneF K mg D "NoTrials" "found" C f fd := by
 refine ⟨T, mC, fun P w base => ?_, F.binds fun _ _ _ _ _ _ us hl => match us, hl with | [_, _], _ => rfl⟩
 refine F.ok scIni4 (fun vs H Q E h => ?_) (fun cdv A outer s H vs Q E hr h => ?_)
 ·obtain ⟨x, v, rfl, _⟩ := h;rfl
 obtain ⟨x, v, rfl, hx, q⟩ := h;refine ⟨_, psc (ps_expr (pe_baseInit B T rfl mD (pv 0) pe_str)) (pss_one (ps_err T (pv 0) (pv 1) rfl)), ?_⟩;exact ⟨_, rfl, x, rfl, hx, _, rfl, _, rfl, x, rfl, hx, tk, q⟩
abbrev sIni5 : Stmt := inClass (top 5) 0
theorem scIni5 : FnScope ["self", "many"] ["self", "many"] (defScope sIni5) := mkSc
theorem one5 {K : Frag} {mg : Str -> Option Value} {D C f : Addr} {fd : FuncData} (B : BaseC K D) (T : ErrC K D "TooMany" C f) (mD : mg "DealError" = some (.ref D)) (mC : mg "TooMany" = some (.ref C)) (F : Fun K "__init__" "TooMany.__init__" sIni5 f fd) (tk : takerIn K C "many" = some none) : OneF K mg D "TooMany" "many" C f fd := by
 refine ⟨T, mC, fun P w base => ?_, F.binds fun _ _ _ _ _ _ us hl => match us, hl with | [_, _], _ => rfl⟩
 refine F.ok scIni5 (fun vs H Q E h => ?_) (fun cdv A outer s H vs Q E hr h => ?_)
 ·obtain ⟨x, v, rfl, _⟩ := h;rfl
 obtain ⟨x, v, rfl, hx, q⟩ := h;refine ⟨_, psc (ps_expr (pe_baseInit B T rfl mD (pv 0) pe_str)) (pss_one (ps_err T (pv 0) (pv 1) rfl)), ?_⟩;exact ⟨_, rfl, x, rfl, hx, _, rfl, _, rfl, x, rfl, hx, tk, q⟩
theorem kit_tyM {K : Frag} {C : Addr} {n : String} {b : Bool} (hm : kitMeta n = true) (h : mroIn K C (.type n) = some b) : kitOne K (.ref C) (.type n) = some b := by
 unfold kitOne;rw [if_neg (by intro e; cases beq_iff_eq.mp e)]
 show (if kitMeta n = true then subIn K (.ref C) (.type n) else none) = _
 rw [if_pos hm];exact h
theorem kit_mro {K : Frag} {C C' : Addr} {b : Bool} (hc : isClsIn K C' = true) (ht : typeIn K (.ref C') = some (.type "type")) (hs : mroIn K C' (.ref C') = some true) (hm : mroIn K C (.ref C') = some b) : kitOne K (.ref C) (.ref C') = some b := by
 unfold kitOne;by_cases e : C = C'
 ·subst e;rw [hs] at hm;cases hm;rw [if_pos (beq_self_eq_true _)]
 ·rw [if_neg (by intro z; exact e (Value.ref.inj (beq_iff_eq.mp z)))]
  show (if ((clsIn K C').isSome && typeIn K (.ref C') == some (.type "type")) = true then subIn K (.ref C) (.ref C') else none) = _
  have hc' : (clsIn K C').isSome = true := hc;rw [hc', ht];simp only [beq_self_eq_true, Bool.and_self, if_true];exact hm
structure Dm (K : Frag) (nm qual : Str) (st : Stmt) (ps : List Str) (f : Addr) (fd : FuncData) : Prop where
 fn : Fun K nm qual st f fd
 bi : Binds K fd ps []
 kp : keepIn K (.ref f) = true
 isf : isFn K (.ref f) = true
def keyStr : Value -> Bool
 | .str _ _ => true
 | _ => false
theorem strKeys_of {es : Array DictEntry} (h : (es.toList.all fun e => keyStr e.key) = true) : StrKeys es := fun e he => by
 have z := List.all_eq_true.mp h e (by simpa using he)
 cases k : e.key with
 | str n t => exact ⟨n, t, rfl⟩
 | _ => rw [k] at z; cases z
theorem mro_of {K : Frag} {C : Addr} {cd : ClassData} {b : Value} (h : clsIn K C = some cd) (hb : cd.mro.isEmpty = false) (hc : cd.mro.contains b = true) : mroIn K C b = some true := by
 unfold mroIn;rw [h, Option.bind_some, hb, hc];rfl
theorem base_mk {K : Frag} {D N : Addr} {nm q : Str} {bs : List Value} {sn : List Str} {sub : List Value} {ab : Bool} {col : Option Bool} {dd : Option Addr} {k0 k1 k2 k3 k5 : Option Value}
  {cN : Value} {dN : Option Addr} {es : Array DictEntry} {ep : Nat} {sN : Array (Option Value)}
  (lD : K.lookup D = some (excClassObj nm q D N bs bmV true sn sub ab col dd k0 k1 k2 k3 k5 "ValueError.__new__"))
  (lN : K.lookup N = some ⟨cN, dN, .dict es ep, sN⟩) (sk : StrKeys es) (ni : nsFind es "__init__" = none)
  (ga : specialIn K (.ref D) "__getattribute__" = some (some (.builtin "type.__getattribute__"))) (rd : readsIn K D (.type "type") = true)
  (ini : findCls K (.ref D) (.type "type") "__init__" = some (.val (.builtin "ValueError.__init__"))) (fi : findIn K (.ref D) "__init__" = some (some (.builtin "ValueError.__init__"))) (kp : keepIn K (.ref D) = true)
  (gb : findIn K (.ref D) "__getattribute__" = some (some (.builtin bga))) (hk : findIn K (.ref D) "__getattr__" = some none) (ca : findIn K (.ref D) "__class__" = some (some (.builtin "object.__class__"))) : BaseC K D := by
 have hc : clsIn K D = some { name := nm, bases := bs, mro := .ref D :: bmV, ns := N, qualname := q, hasDict := true, slotNames := sn, subclasses := sub, abstract := ab, collection := col, hasDel := false } := by
  unfold clsIn;rw [lD]
 refine ⟨⟨nm, q, N, bs, sn, sub, ab, col, dd, k0, k1, k2, k3, k5, lD, _, es, ep, lN, rfl, sk, ni⟩, ga, rd, ini, fi, kp, ⟨by rw [hc]; rfl, gb, hk, mro_of hc rfl ?_, mro_of hc rfl ?_, ca⟩⟩
 ·show (Value.ref D :: bmV).contains (.type "BaseException") = true;rw [List.contains_cons];rfl
 ·show (Value.ref D :: bmV).contains (.type "object") = true;rw [List.contains_cons];rfl
theorem err_mk {K : Frag} {D C N f : Addr} (nm : Str)
  {q : Str} {bs : List Value} {sn : List Str} {sub : List Value} {ab : Bool} {col : Option Bool} {dd : Option Addr} {k0 k1 k2 k3 k5 : Option Value}
  (lC : K.lookup C = some (excClassObj nm q C N bs (.ref D :: bmV) true sn sub ab col dd k0 k1 k2 k3 k5 "ValueError.__new__"))
  (ini : findIn K (.ref C) "__init__" = some (some (.ref f))) (fn : typeIn K (.ref f) = some (.type "function")) (kp : keepIn K (.ref C) = true)
  (sa : findIn K (.ref C) "__setattr__" = some (some (.builtin "object.__setattr__"))) (ga : findIn K (.ref C) "__getattribute__" = some (some (.builtin bga))) (hk : findIn K (.ref C) "__getattr__" = some none)
  (ca : findIn K (.ref C) "__class__" = some (some (.builtin "object.__class__"))) : ErrC K D nm C f := by
 have hc : clsIn K C = some { name := nm, bases := bs, mro := .ref C :: .ref D :: bmV, ns := N, qualname := q, hasDict := true, slotNames := sn, subclasses := sub, abstract := ab, collection := col, hasDel := false } := by
  unfold clsIn;rw [lC]
 refine ⟨⟨q, N, bs, sn, sub, ab, col, dd, k0, k1, k2, k3, k5, lC⟩, ini, fn, kp, sa, ⟨by rw [hc]; rfl, ga, hk, mro_of hc rfl ?_, mro_of hc rfl ?_, ca⟩⟩
 ·show (Value.ref C :: .ref D :: bmV).contains (.type "BaseException") = true;rw [List.contains_cons, List.contains_cons];rfl
 ·show (Value.ref C :: .ref D :: bmV).contains (.type "object") = true;rw [List.contains_cons, List.contains_cons];rfl
structure Dn (K : Frag) (mg : Str -> Option Value) (nm : Str) (st : Stmt) (ps : List Str) (f : Addr) (fd : FuncData) : Prop where
 fn : Fun K nm nm st f fd
 bi : Binds K fd ps []
 kp : keepIn K (.ref f) = true
 mg : mg nm = some (.ref f)
section
variable {P : Program} {w : World} {K : Frag} {mg : Str -> Option Value} {base : Heap}
theorem Dn.df {nm : Str} {st : Stmt} {ps : List Str} {f : Addr} {fd : FuncData} (d : Dn K mg nm st ps f fd) {cx : CXT} {k : Nat} {sp : Sp} (h : FnOk P w K mg base cx k f fd ps sp) : Df P w K mg base cx k nm ps sp f fd := ⟨h, d.bi, d.kp, d.mg⟩
end
def five (a b c d e : Addr) : Nat -> Addr
 | 0 => a
 | 1 => b
 | 2 => c
 | 3 => d
 | _ => e
theorem no8 {K : Frag} {c : Addr} (h0 : findIn K (.ref c) "size" = some none) (h1 : findIn K (.ref c) "first_state" = some none) (h2 : findIn K (.ref c) "mark" = some none) (h3 : findIn K (.ref c) "parts" = some none) (h4 : findIn K (.ref c) "coin" = some none) (h5 : findIn K (.ref c) "far" = some none) (h6 : findIn K (.ref c) "rules" = some none) (h7 : findIn K (.ref c) "dealer" = some none) : ∀ f ∈ fNames, NoAttr K c f := by
 intro f hf;simp only [fNames, List.mem_cons, List.not_mem_nil, or_false] at hf;rcases hf with rfl | rfl | rfl | rfl | rfl | rfl | rfl | rfl
 ·exact h0
 ·exact h1
 ·exact h2
 ·exact h3
 ·exact h4
 ·exact h5
 ·exact h6
 ·exact h7
theorem tup_two {K : Frag} {p : Addr} {i j : Nat} {od : Option Addr} {t u : Tok} {n : Nat} {sl : Array (Option Value)} (l : K.lookup p = some ⟨.type "tuple", od, .seq #[.int i t, .int j u] n, sl⟩) : TupK K p [.int i, .int j] :=
 ⟨_, _, _, l, rfl, rfl, by show 2 <= sizeLine; decide, .cons ⟨_, rfl⟩ (.cons ⟨_, rfl⟩ .nil)⟩
abbrev BP (nm qn : Str) (st : Stmt) (ps : List Str) : Prop := ∀ (kV doc pm : Value) (an : Option Addr) (cdv ct : Value) (us : List Value), us.length = ps.length -> bindArgs (PySem.W.fnOf nm qn (defArgs st) (defBody st) (defScope st) .none kV doc pm an cdv ct) ⟨us, []⟩ = pure (ps.zip us)
theorem dn_of {nm : Str} {st : Stmt} {ps : List Str} (hb : BP nm nm st ps) {K : Frag} {h : Heap} {mg : Str -> Option Value} {g : Addr} {oc kV dc pm cd ct : Value} {od an : Option Addr} {sl : Array (Option Value)} (X : K.In h) (G : h.Ns mainGlobals mg)
  (a : nsIn K mainGlobals nm = some (some (.ref g))) (l : K.lookup g = some ⟨oc, od, .func (fnOf nm nm (defArgs st) (defBody st) (defScope st) .none kV dc pm an cd ct), sl⟩) (c : codeIn K cd nm = true) (k : keepIn K (.ref g) = true) :
  Dn K mg nm st ps g (fnOf nm nm (defArgs st) (defBody st) (defScope st) .none kV dc pm an cd ct) := by
 have F := fun_mk (st := st) l c k;exact ⟨F, F.binds hb, k, mg_of X G a⟩
theorem dm_of {nm qn : Str} {st : Stmt} {ps : List Str} (hb : BP nm qn st ps) {K : Frag} {g : Addr} {oc kV dc pm cd ct : Value} {od an : Option Addr} {sl : Array (Option Value)}
  (l : K.lookup g = some ⟨oc, od, .func (fnOf nm qn (defArgs st) (defBody st) (defScope st) .none kV dc pm an cd ct), sl⟩) (c : codeIn K cd qn = true) (k : keepIn K (.ref g) = true) (f : isFn K (.ref g) = true) :
  Dm K nm qn st ps g (fnOf nm qn (defArgs st) (defBody st) (defScope st) .none kV dc pm an cd ct) := by
 have F := fun_mk (st := st) l c k;exact ⟨F, F.binds hb, k, f⟩
theorem bp0 : BP "is_number" "is_number" sIsNum ["thing"] := fun _ _ _ _ _ _ us hl => match us, hl with | [_], _ => rfl
theorem bp1 : BP "is_whole" "is_whole" sIsWh ["thing", "low", "high"] := fun _ _ _ _ _ _ us hl => match us, hl with | [_, _, _], _ => rfl
theorem bp2 : BP "greatest_common" "greatest_common" sGcd ["one", "other"] := fun _ _ _ _ _ _ us hl => match us, hl with | [_, _], _ => rfl
theorem bp3 : BP "is_part" "is_part" sPart ["top", "bottom"] := fun _ _ _ _ _ _ us hl => match us, hl with | [_, _], _ => rfl
theorem bp4 : BP "is_share" "is_share" sISh ["thing"] := fun _ _ _ _ _ _ us hl => match us, hl with | [_], _ => rfl
theorem bp5 : BP "need_number" "need_number" sNN ["thing", "low", "high"] := fun _ _ _ _ _ _ us hl => match us, hl with | [_, _, _], _ => rfl
theorem bp6 : BP "need_coin" "need_coin" sNC ["thing"] := fun _ _ _ _ _ _ us hl => match us, hl with | [_], _ => rfl
theorem bp7 : BP "one_part" "one_part" sOP ["folk"] := fun _ _ _ _ _ _ us hl => match us, hl with | [_], _ => rfl
theorem bp8 : BP "may_be_block" "may_be_block" sMBk ["thing"] := fun _ _ _ _ _ _ us hl => match us, hl with | [_], _ => rfl
theorem bp9 : BP "are_block_rules" "are_block_rules" sAB ["thing"] := fun _ _ _ _ _ _ us hl => match us, hl with | [_], _ => rfl
theorem bp10 : BP "parts_of" "parts_of" sPO ["rules"] := fun _ _ _ _ _ _ us hl => match us, hl with | [_], _ => rfl
theorem bp11 : BP "parts_below" "parts_below" sPB ["parts", "many"] := fun _ _ _ _ _ _ us hl => match us, hl with | [_, _], _ => rfl
theorem bp12 : BP "share_of" "share_of" sSo ["top", "bottom"] := fun _ _ _ _ _ _ us hl => match us, hl with | [_, _], _ => rfl
theorem bp13 : BP "added" "added" sAdd ["one", "top", "bottom"] := fun _ _ _ _ _ _ us hl => match us, hl with | [_, _, _], _ => rfl
theorem bp14 : BP "minus_share" "minus_share" sMi ["one", "other"] := fun _ _ _ _ _ _ us hl => match us, hl with | [_, _], _ => rfl
theorem bp15 : BP "less_share" "less_share" sLes ["one", "other"] := fun _ _ _ _ _ _ us hl => match us, hl with | [_, _], _ => rfl
theorem bp16 : BP "coin_steps" "coin_steps" sCs ["coin", "zero", "one"] := fun _ _ _ _ _ _ us hl => match us, hl with | [_, _, _], _ => rfl
theorem bp17 : BP "_law_row" "_law_row" sRow ["_law_cell", "_law_sizes"] := fun _ _ _ _ _ _ us hl => match us, hl with | [_, _], _ => rfl
theorem bp18 : BP "_law_common" "_law_common" sCom ["_law_one_here", "_law_other"] := fun _ _ _ _ _ _ us hl => match us, hl with | [_, _], _ => rfl
theorem bp19 : BP "_law_lowest" "_law_lowest" sLow ["_law_top", "_law_bottom"] := fun _ _ _ _ _ _ us hl => match us, hl with | [_, _], _ => rfl
theorem bp20 : BP "_law_coin" "_law_coin" sCn ["_law_xs"] := fun _ _ _ _ _ _ us hl => match us, hl with | [_], _ => rfl
theorem bp21 : BP "_law_one" "_law_one" sOn ["_law_xs", "_law_most"] := fun _ _ _ _ _ _ us hl => match us, hl with | [_, _], _ => rfl
theorem bp22 : BP "_law_drawn" "_law_drawn" sDn ["_law_xs", "_law_most"] := fun _ _ _ _ _ _ us hl => match us, hl with | [_, _], _ => rfl
theorem bp23 : BP "_law_folk" "_law_folk" sFo ["_law_told"] := fun _ _ _ _ _ _ us hl => match us, hl with | [_], _ => rfl
theorem bp24 : BP "_law_made" "_law_made" sMd ["_law_told"] := fun _ _ _ _ _ _ us hl => match us, hl with | [_], _ => rfl
theorem bp25 : BP "_law_begin" "_law_begin" sBg ["_law_told"] := fun _ _ _ _ _ _ us hl => match us, hl with | [_], _ => rfl
theorem bp26 : BP "_law_by_coin" "_law_by_coin" sBC ["_law_coin_here", "_law_zero", "_law_one_here"] := fun _ _ _ _ _ _ us hl => match us, hl with | [_, _, _], _ => rfl
theorem bp27 : BP "_law_block_steps" "_law_block_steps" sLB ["_law_parts", "_law_state", "_law_at"] := fun _ _ _ _ _ _ us hl => match us, hl with | [_, _, _], _ => rfl
theorem bp28 : BP "_law_steps" "_law_steps" sLS ["_law_told", "_law_state", "_law_at"] := fun _ _ _ _ _ _ us hl => match us, hl with | [_, _, _], _ => rfl
theorem bp29 : BP "_law_layer_right" "_law_layer_right" sLR ["_law_rule", "_law_told", "_law_at", "_law_states"] := fun _ _ _ _ _ _ us hl => match us, hl with | [_, _, _, _], _ => rfl
theorem bp30 : BP "_law_right" "_law_right" sR8 ["_law_rule", "_law_told"] := fun _ _ _ _ _ _ us hl => match us, hl with | [_, _], _ => rfl
theorem bp31 : BP "law" "law" sLaw ["_law_script"] := fun _ _ _ _ _ _ us hl => match us, hl with | [_], _ => rfl
theorem bm0 : BP "__init__" "Rule.__init__" sRuI ["self", "size", "first_state", "mark", "parts"] := fun _ _ _ _ _ _ us hl => match us, hl with | [_, _, _, _, _], _ => rfl
theorem bm1 : BP "folk" "Rule.folk" sRuF ["self"] := fun _ _ _ _ _ _ us hl => match us, hl with | [_], _ => rfl
theorem bm2 : BP "begin" "Rule.begin" sRuB ["self"] := fun _ _ _ _ _ _ us hl => match us, hl with | [_], _ => rfl
theorem bm3 : BP "told" "Rule.told" sRuT ["self"] := fun _ _ _ _ _ _ us hl => match us, hl with | [_], _ => rfl
theorem bm4 : BP "blocks" "Rule.blocks" sRuK ["self"] := fun _ _ _ _ _ _ us hl => match us, hl with | [_], _ => rfl
theorem bm5 : BP "__init__" "Split.__init__" sSpI ["self", "folk", "ones"] := fun _ _ _ _ _ _ us hl => match us, hl with | [_, _, _], _ => rfl
theorem bm6 : BP "__init__" "Pairs.__init__" sPaI ["self", "pairs", "coin"] := fun _ _ _ _ _ _ us hl => match us, hl with | [_, _, _], _ => rfl
theorem bm7 : BP "__init__" "Coins.__init__" sCoI ["self", "folk", "coin", "far"] := fun _ _ _ _ _ _ us hl => match us, hl with | [_, _, _, _], _ => rfl
theorem bm8 : BP "__init__" "Blocks.__init__" sBlI ["self", "rules"] := fun _ _ _ _ _ _ us hl => match us, hl with | [_, _], _ => rfl
theorem bm9 : BP "__init__" "First.__init__" sFiI ["self", "rule", "many"] := fun _ _ _ _ _ _ us hl => match us, hl with | [_, _, _], _ => rfl
theorem bm10 : BP "state_ahead" "Blocks.state_ahead" sSA ["self", "number"] := fun _ _ _ _ _ _ us hl => match us, hl with | [_, _], _ => rfl
theorem bm11 : BP "state_behind" "Blocks.state_behind" sSB ["self", "number", "at", "inner"] := fun _ _ _ _ _ _ us hl => match us, hl with | [_, _, _, _], _ => rfl
theorem bm12 : BP "steps" "Split.steps" sSpS ["self", "state", "at"] := fun _ _ _ _ _ _ us hl => match us, hl with | [_, _, _], _ => rfl
theorem bm13 : BP "steps" "Pairs.steps" sPaS ["self", "state", "at"] := fun _ _ _ _ _ _ us hl => match us, hl with | [_, _, _], _ => rfl
theorem bm14 : BP "steps" "Coins.steps" sCoS ["self", "state", "at"] := fun _ _ _ _ _ _ us hl => match us, hl with | [_, _, _], _ => rfl
theorem bm15 : BP "steps" "Blocks.steps" sBS ["self", "state", "at"] := fun _ _ _ _ _ _ us hl => match us, hl with | [_, _, _], _ => rfl
theorem bm16 : BP "steps" "First.steps" sFS ["self", "state", "at"] := fun _ _ _ _ _ _ us hl => match us, hl with | [_, _, _], _ => rfl
theorem all_mk {l : OpenLaw} {w : World} {K : Frag} {h : Heap} {mg : Str -> Option Value} {fa D CE2 fE2 CE3 fE3 CE4 fE4 CE5 fE5 g0 g1 g2 g3 g4 g5 g6 g7 g8 g9 g10 g11 g12 g13 g14 g15 g16 g17 g18 g19 g20 g21 g22 g23 g24 g25 g26 g27 g28 g29 g30 g31 m0 m1 m2 m3 m4 m5 m6 m7 m8 m9 m10 m11 m12 m13 m14 m15 m16 R C0 C1 C2 C3 C4 : Addr} {d0 d1 d2 d3 d4 d5 d6 d7 d8 d9 d10 d11 d12 d13 d14 d15 d16 d17 d18 d19 d20 d21 d22 d23 d24 d25 d26 d27 d28 d29 d30 d31 x0 x1 x2 x3 x4 x5 x6 x7 x8 x9 x10 x11 x12 x13 x14 x15 x16 : FuncData} (X : K.In h) (G : h.Ns mainGlobals mg) (hfa : mg "law" = some (.ref fa))
  {oc2 kV2 dc2 pm2 cd2 ct2 oc3 kV3 dc3 pm3 cd3 ct3 oc4 kV4 dc4 pm4 cd4 ct4 oc5 kV5 dc5 pm5 cd5 ct5 : Value} {od2 an2 od3 an3 od4 an4 od5 an5 : Option Addr} {sl2 sl3 sl4 sl5 : Array (Option Value)}
  {t_MOST_FOLK t_MOST_PAIRS t_MOST_FAR t_MOST_RULES t_MOST_BOTTOM : Tok}
  {nA : Addr} {odA : Option Addr} {tA uA : Tok} {nmA : Nat} {slA : Array (Option Value)}
  (B : BaseC K D) (eE2 : ErrC K D "NoShare" CE2 fE2) (eE3 : ErrC K D "NoNumber" CE3 fE3) (eE4 : ErrC K D "NoTrials" CE4 fE4) (eE5 : ErrC K D "TooMany" CE5 fE5)
  (aD : nsIn K mainGlobals "DealError" = some (some (.ref D)))
  (a2 : nsIn K mainGlobals "NoShare" = some (some (.ref CE2)))
  (a3 : nsIn K mainGlobals "NoNumber" = some (some (.ref CE3)))
  (a4 : nsIn K mainGlobals "NoTrials" = some (some (.ref CE4)))
  (a5 : nsIn K mainGlobals "TooMany" = some (some (.ref CE5)))
  (lf2 : K.lookup fE2 = some ⟨oc2, od2, .func (fnOf "__init__" "NoShare.__init__" (defArgs sIni2) (defBody sIni2) (defScope sIni2) .none kV2 dc2 pm2 an2 cd2 ct2), sl2⟩)
  (cf2 : codeIn K cd2 "NoShare.__init__" = true)
  (kf2 : keepIn K (.ref fE2) = true)
  (tk2 : takerIn K CE2 "found" = some none)
  (nf2 : findIn K (.ref CE2) "found" = some none)
  (lf3 : K.lookup fE3 = some ⟨oc3, od3, .func (fnOf "__init__" "NoNumber.__init__" (defArgs sIni3) (defBody sIni3) (defScope sIni3) .none kV3 dc3 pm3 an3 cd3 ct3), sl3⟩)
  (cf3 : codeIn K cd3 "NoNumber.__init__" = true)
  (kf3 : keepIn K (.ref fE3) = true)
  (tk3 : takerIn K CE3 "found" = some none)
  (nf3 : findIn K (.ref CE3) "found" = some none)
  (lf4 : K.lookup fE4 = some ⟨oc4, od4, .func (fnOf "__init__" "NoTrials.__init__" (defArgs sIni4) (defBody sIni4) (defScope sIni4) .none kV4 dc4 pm4 an4 cd4 ct4), sl4⟩)
  (cf4 : codeIn K cd4 "NoTrials.__init__" = true)
  (kf4 : keepIn K (.ref fE4) = true)
  (tk4 : takerIn K CE4 "found" = some none)
  (nf4 : findIn K (.ref CE4) "found" = some none)
  (lf5 : K.lookup fE5 = some ⟨oc5, od5, .func (fnOf "__init__" "TooMany.__init__" (defArgs sIni5) (defBody sIni5) (defScope sIni5) .none kV5 dc5 pm5 an5 cd5 ct5), sl5⟩)
  (cf5 : codeIn K cd5 "TooMany.__init__" = true)
  (kf5 : keepIn K (.ref fE5) = true)
  (tk5 : takerIn K CE5 "many" = some none)
  (nf5 : findIn K (.ref CE5) "many" = some none)
  (ns_R : nsIn K mainGlobals "Rule" = some (some (.ref R)))
  (zaa : specialIn K (.ref R) "__getattribute__" = some (some (.builtin "type.__getattribute__")))
  (zab : readsIn K R (.type "type") = true)
  (zac : findCls K (.ref R) (.type "type") "__init__" = some (.val (.ref m0)))
  (ic_R : isClsIn K R = true)
  (ty_R : typeIn K (.ref R) = some (.type "type"))
  (ss_R : mroIn K R (.ref R) = some true)
  (zad : nsIn K mainGlobals "Split" = some (some (.ref C0)))
  (zae : plainGet K C0 Str.empty = true)
  (zaf : hasDictIn K C0 = true)
  (zag : plainOver K C0 = true)
  (zah : findIn K (.ref C0) "__setattr__" = some (some (.builtin "object.__setattr__")))
  (zai : makesIn K C0 = true)
  (zaj : keepIn K (.ref C0) = true)
  (zak : findIn K (.ref C0) "__class__" = some (some (.builtin "object.__class__")))
  (zal : mroIn K C0 (.type "object") = some true)
  (zam : isClsIn K C0 = true)
  (zan : typeIn K (.ref C0) = some (.type "type"))
  (zao : findIn K (.ref C0) "size" = some none)
  (zap : findIn K (.ref C0) "first_state" = some none)
  (zaq : findIn K (.ref C0) "mark" = some none)
  (zar : findIn K (.ref C0) "parts" = some none)
  (zas : findIn K (.ref C0) "coin" = some none)
  (zat : findIn K (.ref C0) "far" = some none)
  (zau : findIn K (.ref C0) "rules" = some none)
  (zav : findIn K (.ref C0) "dealer" = some none)
  (zaw : findIn K (.ref C0) "__init__" = some (some (.ref m5)))
  (zax : findIn K (.ref C0) "folk" = some (some (.ref m1)))
  (zay : findIn K (.ref C0) "begin" = some (some (.ref m2)))
  (zaz : findIn K (.ref C0) "told" = some (some (.ref m3)))
  (zaA : findIn K (.ref C0) "blocks" = some (some (.ref m4)))
  (zaB : findIn K (.ref C0) "steps" = some (some (.ref m12)))
  (zaC : mroIn K C0 (.ref C0) = some true)
  (zaD : mroIn K C0 (.ref C1) = some false)
  (zaE : mroIn K C0 (.ref C2) = some false)
  (zaF : mroIn K C0 (.ref C3) = some false)
  (zaG : mroIn K C0 (.ref C4) = some false)
  (zaH : mroIn K C0 (.ref R) = some true)
  (zaI : mroIn K C0 (.type "tuple") = some false)
  (zaJ : mroIn K C0 (.type "list") = some false)
  (zaK : mroIn K C0 (.type "int") = some false)
  (zaL : mroIn K C0 (.type "bool") = some false)
  (zaM : nsIn K mainGlobals "Pairs" = some (some (.ref C1)))
  (zaN : plainGet K C1 Str.empty = true)
  (zaO : hasDictIn K C1 = true)
  (zaP : plainOver K C1 = true)
  (zaQ : findIn K (.ref C1) "__setattr__" = some (some (.builtin "object.__setattr__")))
  (zaR : makesIn K C1 = true)
  (zaS : keepIn K (.ref C1) = true)
  (zaT : findIn K (.ref C1) "__class__" = some (some (.builtin "object.__class__")))
  (zaU : mroIn K C1 (.type "object") = some true)
  (zaV : isClsIn K C1 = true)
  (zaW : typeIn K (.ref C1) = some (.type "type"))
  (zaX : findIn K (.ref C1) "size" = some none)
  (zaY : findIn K (.ref C1) "first_state" = some none)
  (zaZ : findIn K (.ref C1) "mark" = some none)
  (za0 : findIn K (.ref C1) "parts" = some none)
  (za1 : findIn K (.ref C1) "coin" = some none)
  (za2 : findIn K (.ref C1) "far" = some none)
  (za3 : findIn K (.ref C1) "rules" = some none)
  (za4 : findIn K (.ref C1) "dealer" = some none)
  (za5 : findIn K (.ref C1) "__init__" = some (some (.ref m6)))
  (za6 : findIn K (.ref C1) "folk" = some (some (.ref m1)))
  (za7 : findIn K (.ref C1) "begin" = some (some (.ref m2)))
  (za8 : findIn K (.ref C1) "told" = some (some (.ref m3)))
  (za9 : findIn K (.ref C1) "blocks" = some (some (.ref m4)))
  (zba : findIn K (.ref C1) "steps" = some (some (.ref m13)))
  (zbb : mroIn K C1 (.ref C0) = some false)
  (zbc : mroIn K C1 (.ref C1) = some true)
  (zbd : mroIn K C1 (.ref C2) = some false)
  (zbe : mroIn K C1 (.ref C3) = some false)
  (zbf : mroIn K C1 (.ref C4) = some false)
  (zbg : mroIn K C1 (.ref R) = some true)
  (zbh : mroIn K C1 (.type "tuple") = some false)
  (zbi : mroIn K C1 (.type "list") = some false)
  (zbj : mroIn K C1 (.type "int") = some false)
  (zbk : mroIn K C1 (.type "bool") = some false)
  (zbl : nsIn K mainGlobals "Coins" = some (some (.ref C2)))
  (zbm : plainGet K C2 Str.empty = true)
  (zbn : hasDictIn K C2 = true)
  (zbo : plainOver K C2 = true)
  (zbp : findIn K (.ref C2) "__setattr__" = some (some (.builtin "object.__setattr__")))
  (zbq : makesIn K C2 = true)
  (zbr : keepIn K (.ref C2) = true)
  (zbs : findIn K (.ref C2) "__class__" = some (some (.builtin "object.__class__")))
  (zbt : mroIn K C2 (.type "object") = some true)
  (zbu : isClsIn K C2 = true)
  (zbv : typeIn K (.ref C2) = some (.type "type"))
  (zbw : findIn K (.ref C2) "size" = some none)
  (zbx : findIn K (.ref C2) "first_state" = some none)
  (zby : findIn K (.ref C2) "mark" = some none)
  (zbz : findIn K (.ref C2) "parts" = some none)
  (zbA : findIn K (.ref C2) "coin" = some none)
  (zbB : findIn K (.ref C2) "far" = some none)
  (zbC : findIn K (.ref C2) "rules" = some none)
  (zbD : findIn K (.ref C2) "dealer" = some none)
  (zbE : findIn K (.ref C2) "__init__" = some (some (.ref m7)))
  (zbF : findIn K (.ref C2) "folk" = some (some (.ref m1)))
  (zbG : findIn K (.ref C2) "begin" = some (some (.ref m2)))
  (zbH : findIn K (.ref C2) "told" = some (some (.ref m3)))
  (zbI : findIn K (.ref C2) "blocks" = some (some (.ref m4)))
  (zbJ : findIn K (.ref C2) "steps" = some (some (.ref m14)))
  (zbK : mroIn K C2 (.ref C0) = some false)
  (zbL : mroIn K C2 (.ref C1) = some false)
  (zbM : mroIn K C2 (.ref C2) = some true)
  (zbN : mroIn K C2 (.ref C3) = some false)
  (zbO : mroIn K C2 (.ref C4) = some false)
  (zbP : mroIn K C2 (.ref R) = some true)
  (zbQ : mroIn K C2 (.type "tuple") = some false)
  (zbR : mroIn K C2 (.type "list") = some false)
  (zbS : mroIn K C2 (.type "int") = some false)
  (zbT : mroIn K C2 (.type "bool") = some false)
  (zbU : nsIn K mainGlobals "Blocks" = some (some (.ref C3)))
  (zbV : plainGet K C3 Str.empty = true)
  (zbW : hasDictIn K C3 = true)
  (zbX : plainOver K C3 = true)
  (zbY : findIn K (.ref C3) "__setattr__" = some (some (.builtin "object.__setattr__")))
  (zbZ : makesIn K C3 = true)
  (zb0 : keepIn K (.ref C3) = true)
  (zb1 : findIn K (.ref C3) "__class__" = some (some (.builtin "object.__class__")))
  (zb2 : mroIn K C3 (.type "object") = some true)
  (zb3 : isClsIn K C3 = true)
  (zb4 : typeIn K (.ref C3) = some (.type "type"))
  (zb5 : findIn K (.ref C3) "size" = some none)
  (zb6 : findIn K (.ref C3) "first_state" = some none)
  (zb7 : findIn K (.ref C3) "mark" = some none)
  (zb8 : findIn K (.ref C3) "parts" = some none)
  (zb9 : findIn K (.ref C3) "coin" = some none)
  (zca : findIn K (.ref C3) "far" = some none)
  (zcb : findIn K (.ref C3) "rules" = some none)
  (zcc : findIn K (.ref C3) "dealer" = some none)
  (zcd : findIn K (.ref C3) "__init__" = some (some (.ref m8)))
  (zce : findIn K (.ref C3) "folk" = some (some (.ref m1)))
  (zcf : findIn K (.ref C3) "begin" = some (some (.ref m2)))
  (zcg : findIn K (.ref C3) "told" = some (some (.ref m3)))
  (zch : findIn K (.ref C3) "blocks" = some (some (.ref m4)))
  (zci : findIn K (.ref C3) "state_ahead" = some (some (.ref m10)))
  (zcj : findIn K (.ref C3) "steps" = some (some (.ref m15)))
  (zck : findIn K (.ref C3) "state_behind" = some (some (.ref m11)))
  (zcl : mroIn K C3 (.ref C0) = some false)
  (zcm : mroIn K C3 (.ref C1) = some false)
  (zcn : mroIn K C3 (.ref C2) = some false)
  (zco : mroIn K C3 (.ref C3) = some true)
  (zcp : mroIn K C3 (.ref C4) = some false)
  (zcq : mroIn K C3 (.ref R) = some true)
  (zcr : mroIn K C3 (.type "tuple") = some false)
  (zcs : mroIn K C3 (.type "list") = some false)
  (zct : mroIn K C3 (.type "int") = some false)
  (zcu : mroIn K C3 (.type "bool") = some false)
  (zcv : nsIn K mainGlobals "First" = some (some (.ref C4)))
  (zcw : plainGet K C4 Str.empty = true)
  (zcx : hasDictIn K C4 = true)
  (zcy : plainOver K C4 = true)
  (zcz : findIn K (.ref C4) "__setattr__" = some (some (.builtin "object.__setattr__")))
  (zcA : makesIn K C4 = true)
  (zcB : keepIn K (.ref C4) = true)
  (zcC : findIn K (.ref C4) "__class__" = some (some (.builtin "object.__class__")))
  (zcD : mroIn K C4 (.type "object") = some true)
  (zcE : isClsIn K C4 = true)
  (zcF : typeIn K (.ref C4) = some (.type "type"))
  (zcG : findIn K (.ref C4) "size" = some none)
  (zcH : findIn K (.ref C4) "first_state" = some none)
  (zcI : findIn K (.ref C4) "mark" = some none)
  (zcJ : findIn K (.ref C4) "parts" = some none)
  (zcK : findIn K (.ref C4) "coin" = some none)
  (zcL : findIn K (.ref C4) "far" = some none)
  (zcM : findIn K (.ref C4) "rules" = some none)
  (zcN : findIn K (.ref C4) "dealer" = some none)
  (zcO : findIn K (.ref C4) "__init__" = some (some (.ref m9)))
  (zcP : findIn K (.ref C4) "folk" = some (some (.ref m1)))
  (zcQ : findIn K (.ref C4) "begin" = some (some (.ref m2)))
  (zcR : findIn K (.ref C4) "told" = some (some (.ref m3)))
  (zcS : findIn K (.ref C4) "blocks" = some (some (.ref m4)))
  (zcT : findIn K (.ref C4) "steps" = some (some (.ref m16)))
  (zcU : mroIn K C4 (.ref C0) = some false)
  (zcV : mroIn K C4 (.ref C1) = some false)
  (zcW : mroIn K C4 (.ref C2) = some false)
  (zcX : mroIn K C4 (.ref C3) = some false)
  (zcY : mroIn K C4 (.ref C4) = some true)
  (zcZ : mroIn K C4 (.ref R) = some true)
  (zc0 : mroIn K C4 (.type "tuple") = some false)
  (zc1 : mroIn K C4 (.type "list") = some false)
  (zc2 : mroIn K C4 (.type "int") = some false)
  (zc3 : mroIn K C4 (.type "bool") = some false)
  (zc4 : nsIn K mainGlobals "MOST_FOLK" = some (some (.int (20) t_MOST_FOLK)))
  (zc5 : nsIn K mainGlobals "MOST_PAIRS" = some (some (.int (10) t_MOST_PAIRS)))
  (zc6 : nsIn K mainGlobals "MOST_FAR" = some (some (.int (20) t_MOST_FAR)))
  (zc7 : nsIn K mainGlobals "MOST_RULES" = some (some (.int (6) t_MOST_RULES)))
  (zc8 : nsIn K mainGlobals "MOST_BOTTOM" = some (some (.int (100) t_MOST_BOTTOM)))
  (gt : specialIn K (.builtin "object.__class__") "__get__" = some (some (.builtin "getset_descriptor.__get__")))
  (tkT : takesIn K (.builtin "object.__class__") = some true)
  (aA : nsIn K mainGlobals "ALL" = some (some (.ref nA)))
  (lA : K.lookup nA = some ⟨.type "tuple", odA, .seq #[.int 1 tA, .int 1 uA] nmA, slA⟩)
  (zc9 : nsIn K mainGlobals "isinstance" = some none)
  (zda : nsIn K mainGlobals "int" = some none)
  (zdb : nsIn K mainGlobals "bool" = some none)
  (zdc : nsIn K mainGlobals "len" = some none)
  (zdd : nsIn K mainGlobals "range" = some none)
  (zde : nsIn K mainGlobals "tuple" = some none)
  (zdf : nsIn K mainGlobals "list" = some none)
  (zdg : nsIn K mainGlobals "sum" = some none)
  (zdh : nsIn K mainGlobals "all" = some none)
  (zdi : nsIn K mainGlobals "max" = some none)
  (e0 : Dn K mg "is_number" sIsNum ["thing"] g0 d0)
  (e1 : Dn K mg "is_whole" sIsWh ["thing", "low", "high"] g1 d1)
  (e2 : Dn K mg "greatest_common" sGcd ["one", "other"] g2 d2)
  (e3 : Dn K mg "is_part" sPart ["top", "bottom"] g3 d3)
  (e4 : Dn K mg "is_share" sISh ["thing"] g4 d4)
  (e5 : Dn K mg "need_number" sNN ["thing", "low", "high"] g5 d5)
  (e6 : Dn K mg "need_coin" sNC ["thing"] g6 d6)
  (e7 : Dn K mg "one_part" sOP ["folk"] g7 d7)
  (e8 : Dn K mg "may_be_block" sMBk ["thing"] g8 d8)
  (e9 : Dn K mg "are_block_rules" sAB ["thing"] g9 d9)
  (e10 : Dn K mg "parts_of" sPO ["rules"] g10 d10)
  (e11 : Dn K mg "parts_below" sPB ["parts", "many"] g11 d11)
  (e12 : Dn K mg "share_of" sSo ["top", "bottom"] g12 d12)
  (e13 : Dn K mg "added" sAdd ["one", "top", "bottom"] g13 d13)
  (e14 : Dn K mg "minus_share" sMi ["one", "other"] g14 d14)
  (e15 : Dn K mg "less_share" sLes ["one", "other"] g15 d15)
  (e16 : Dn K mg "coin_steps" sCs ["coin", "zero", "one"] g16 d16)
  (e17 : Dn K mg "_law_row" sRow ["_law_cell", "_law_sizes"] g17 d17)
  (e18 : Dn K mg "_law_common" sCom ["_law_one_here", "_law_other"] g18 d18)
  (e19 : Dn K mg "_law_lowest" sLow ["_law_top", "_law_bottom"] g19 d19)
  (e20 : Dn K mg "_law_coin" sCn ["_law_xs"] g20 d20)
  (e21 : Dn K mg "_law_one" sOn ["_law_xs", "_law_most"] g21 d21)
  (e22 : Dn K mg "_law_drawn" sDn ["_law_xs", "_law_most"] g22 d22)
  (e23 : Dn K mg "_law_folk" sFo ["_law_told"] g23 d23)
  (e24 : Dn K mg "_law_made" sMd ["_law_told"] g24 d24)
  (e25 : Dn K mg "_law_begin" sBg ["_law_told"] g25 d25)
  (e26 : Dn K mg "_law_by_coin" sBC ["_law_coin_here", "_law_zero", "_law_one_here"] g26 d26)
  (e27 : Dn K mg "_law_block_steps" sLB ["_law_parts", "_law_state", "_law_at"] g27 d27)
  (e28 : Dn K mg "_law_steps" sLS ["_law_told", "_law_state", "_law_at"] g28 d28)
  (e29 : Dn K mg "_law_layer_right" sLR ["_law_rule", "_law_told", "_law_at", "_law_states"] g29 d29)
  (e30 : Dn K mg "_law_right" sR8 ["_law_rule", "_law_told"] g30 d30)
  (e31 : Dn K mg "law" sLaw ["_law_script"] g31 d31)
  (y0 : Dm K "__init__" "Rule.__init__" sRuI ["self", "size", "first_state", "mark", "parts"] m0 x0)
  (y1 : Dm K "folk" "Rule.folk" sRuF ["self"] m1 x1)
  (y2 : Dm K "begin" "Rule.begin" sRuB ["self"] m2 x2)
  (y3 : Dm K "told" "Rule.told" sRuT ["self"] m3 x3)
  (y4 : Dm K "blocks" "Rule.blocks" sRuK ["self"] m4 x4)
  (y5 : Dm K "__init__" "Split.__init__" sSpI ["self", "folk", "ones"] m5 x5)
  (y6 : Dm K "__init__" "Pairs.__init__" sPaI ["self", "pairs", "coin"] m6 x6)
  (y7 : Dm K "__init__" "Coins.__init__" sCoI ["self", "folk", "coin", "far"] m7 x7)
  (y8 : Dm K "__init__" "Blocks.__init__" sBlI ["self", "rules"] m8 x8)
  (y9 : Dm K "__init__" "First.__init__" sFiI ["self", "rule", "many"] m9 x9)
  (y10 : Dm K "state_ahead" "Blocks.state_ahead" sSA ["self", "number"] m10 x10)
  (y11 : Dm K "state_behind" "Blocks.state_behind" sSB ["self", "number", "at", "inner"] m11 x11)
  (y12 : Dm K "steps" "Split.steps" sSpS ["self", "state", "at"] m12 x12)
  (y13 : Dm K "steps" "Pairs.steps" sPaS ["self", "state", "at"] m13 x13)
  (y14 : Dm K "steps" "Coins.steps" sCoS ["self", "state", "at"] m14 x14)
  (y15 : Dm K "steps" "Blocks.steps" sBS ["self", "state", "at"] m15 x15)
  (y16 : Dm K "steps" "First.steps" sFS ["self", "state", "at"] m16 x16)
  (hb : ∀ (s : Shared) (v : Value), BindsTo s d31 ⟨[v], []⟩ [("_law_script", v)])
  : ∃ fd : FuncData, (∀ (s : Shared) (v : Value), BindsTo s fd ⟨[v], []⟩ [("_law_script", v)]) /\ ∀ base : Heap, K.In base -> base.Ns mainGlobals mg -> FnOk l.prog w K mg base CX0 12 fa fd ["_law_script"] (spLaw K) := by
 have e := hfa.symm.trans e31.mg;cases e;refine ⟨_, hb, fun base _ _ => ?_⟩;have m_isinstance := mg_none_of X G zc9;have m_int := mg_none_of X G zda;have m_bool := mg_none_of X G zdb;have m_len := mg_none_of X G zdc;have m_range := mg_none_of X G zdd;have m_tuple := mg_none_of X G zde;have m_list := mg_none_of X G zdf;have m_sum := mg_none_of X G zdg;have m_all := mg_none_of X G zdh;have m_max := mg_none_of X G zdi;have T : IsT K := ⟨gt, tkT⟩;have mD := mg_of X G aD;have o2 := one2 B eE2 mD (mg_of X G a2) (fun_mk (st := sIni2) lf2 cf2 kf2) tk2;have o3 := one3 B eE3 mD (mg_of X G a3) (fun_mk (st := sIni3) lf3 cf3 kf3) tk3;have o4 := one4 B eE4 mD (mg_of X G a4) (fun_mk (st := sIni4) lf4 cf4 kf4) tk4;have o5 := one5 B eE5 mD (mg_of X G a5) (fun_mk (st := sIni5) lf5 cf5 kf5) tk5;have n_MOST_FOLK := mg_of X G zc4;have n_MOST_PAIRS := mg_of X G zc5;have n_MOST_FAR := mg_of X G zc6;have n_MOST_RULES := mg_of X G zc7;have n_MOST_BOTTOM := mg_of X G zc8;have mB_R := mg_of X G ns_R;have CF_R_init : ClsFn K R "__init__" m0 := ⟨zaa, zab, zac, y0.kp⟩;have mC_C0 := mg_of X G zad;have cls_C0 : Cls K C0 := ⟨zae, zaf, zag, zah⟩;have mk_C0 : Mk K C0 m5 := ⟨zai, zaw, y5.isf, zaj⟩;have mC_C1 := mg_of X G zaM;have cls_C1 : Cls K C1 := ⟨zaN, zaO, zaP, zaQ⟩;have mk_C1 : Mk K C1 m6 := ⟨zaR, za5, y6.isf, zaS⟩;have mC_C2 := mg_of X G zbl;have cls_C2 : Cls K C2 := ⟨zbm, zbn, zbo, zbp⟩;have mk_C2 : Mk K C2 m7 := ⟨zbq, zbE, y7.isf, zbr⟩;have mC_C3 := mg_of X G zbU;have cls_C3 : Cls K C3 := ⟨zbV, zbW, zbX, zbY⟩;have mk_C3 : Mk K C3 m8 := ⟨zbZ, zcd, y8.isf, zb0⟩;have mC_C4 := mg_of X G zcv;have cls_C4 : Cls K C4 := ⟨zcw, zcx, zcy, zcz⟩;have mk_C4 : Mk K C4 m9 := ⟨zcA, zcO, y9.isf, zcB⟩;have GN_ := ok_isnum (P := l.prog) (w := w) (mg := mg) (base := base) T e0.fn m_isinstance m_int m_bool;have GN := (e0.df GN_);have GW_ := ok_iswh e1.fn GN_ e0.bi e0.kp e0.mg;have GW := (e1.df GW_);have GG_ := ok_gcd (P := l.prog) (w := w) (mg := mg) (base := base) e2.fn;have GG := (e2.df GG_);have GPa := e3.df (ok_part e3.fn GN_ e0.bi e0.kp e0.mg GW_ e1.bi e1.kp e1.mg);have GSh := e4.df (ok_ish T e4.fn GPa GG m_isinstance m_tuple m_len);have GM := e5.df (ok_nn e5.fn B o3 GW);have GC := e6.df (ok_nc e6.fn B o2 GW GSh n_MOST_BOTTOM);have GP := e7.df (ok_op (P := l.prog) (w := w) (mg := mg) (base := base) e7.fn m_tuple m_range);have Z : KR K (five C0 C1 C2 C3 C4) R := {
  cls := fun i hi => match i, hi with
   | 0, _ => cls_C0
   | 1, _ => cls_C1
   | 2, _ => cls_C2
   | 3, _ => cls_C3
   | 4, _ => cls_C4
  no := fun i hi => match i, hi with
   | 0, _ => no8 zao zap zaq zar zas zat zau zav
   | 1, _ => no8 zaX zaY zaZ za0 za1 za2 za3 za4
   | 2, _ => no8 zbw zbx zby zbz zbA zbB zbC zbD
   | 3, _ => no8 zb5 zb6 zb7 zb8 zb9 zca zcb zcc
   | 4, _ => no8 zcG zcH zcI zcJ zcK zcL zcM zcN
  ha := fun i hi => match i, hi with
   | 0, _ => zak
   | 1, _ => zaT
   | 2, _ => zbs
   | 3, _ => zb1
   | 4, _ => zcC
  hn := gt
  htk := tkT
  hm := fun i hi => match i, hi with
   | 0, _ => zal
   | 1, _ => zaU
   | 2, _ => zbt
   | 3, _ => zb2
   | 4, _ => zcD
  kk := fun i j hi hj => match i, j, hi, hj with
   | 0, 0, _, _ => kit_mro zam zan zaC zaC
   | 0, 1, _, _ => kit_mro zaV zaW zbc zaD
   | 0, 2, _, _ => kit_mro zbu zbv zbM zaE
   | 0, 3, _, _ => kit_mro zb3 zb4 zco zaF
   | 0, 4, _, _ => kit_mro zcE zcF zcY zaG
   | 1, 0, _, _ => kit_mro zam zan zaC zbb
   | 1, 1, _, _ => kit_mro zaV zaW zbc zbc
   | 1, 2, _, _ => kit_mro zbu zbv zbM zbd
   | 1, 3, _, _ => kit_mro zb3 zb4 zco zbe
   | 1, 4, _, _ => kit_mro zcE zcF zcY zbf
   | 2, 0, _, _ => kit_mro zam zan zaC zbK
   | 2, 1, _, _ => kit_mro zaV zaW zbc zbL
   | 2, 2, _, _ => kit_mro zbu zbv zbM zbM
   | 2, 3, _, _ => kit_mro zb3 zb4 zco zbN
   | 2, 4, _, _ => kit_mro zcE zcF zcY zbO
   | 3, 0, _, _ => kit_mro zam zan zaC zcl
   | 3, 1, _, _ => kit_mro zaV zaW zbc zcm
   | 3, 2, _, _ => kit_mro zbu zbv zbM zcn
   | 3, 3, _, _ => kit_mro zb3 zb4 zco zco
   | 3, 4, _, _ => kit_mro zcE zcF zcY zcp
   | 4, 0, _, _ => kit_mro zam zan zaC zcU
   | 4, 1, _, _ => kit_mro zaV zaW zbc zcV
   | 4, 2, _, _ => kit_mro zbu zbv zbM zcW
   | 4, 3, _, _ => kit_mro zb3 zb4 zco zcX
   | 4, 4, _, _ => kit_mro zcE zcF zcY zcY
  kR := fun i hi => match i, hi with
   | 0, _ => kit_mro ic_R ty_R ss_R zaH
   | 1, _ => kit_mro ic_R ty_R ss_R zbg
   | 2, _ => kit_mro ic_R ty_R ss_R zbP
   | 3, _ => kit_mro ic_R ty_R ss_R zcq
   | 4, _ => kit_mro ic_R ty_R ss_R zcZ
  kl := fun i hi => match i, hi with
   | 0, _ => kit_tyM (by decide +kernel) zaJ
   | 1, _ => kit_tyM (by decide +kernel) zbi
   | 2, _ => kit_tyM (by decide +kernel) zbR
   | 3, _ => kit_tyM (by decide +kernel) zcs
   | 4, _ => kit_tyM (by decide +kernel) zc1
  kt := fun i hi => match i, hi with
   | 0, _ => kit_tyM (by decide +kernel) zaI
   | 1, _ => kit_tyM (by decide +kernel) zbh
   | 2, _ => kit_tyM (by decide +kernel) zbQ
   | 3, _ => kit_tyM (by decide +kernel) zcr
   | 4, _ => kit_tyM (by decide +kernel) zc0
  ki := fun i hi => match i, hi with
   | 0, _ => kit_tyM (by decide +kernel) zaK
   | 1, _ => kit_tyM (by decide +kernel) zbj
   | 2, _ => kit_tyM (by decide +kernel) zbS
   | 3, _ => kit_tyM (by decide +kernel) zct
   | 4, _ => kit_tyM (by decide +kernel) zc2
  kb := fun i hi => match i, hi with
   | 0, _ => kit_tyM (by decide +kernel) zaL
   | 1, _ => kit_tyM (by decide +kernel) zbk
   | 2, _ => kit_tyM (by decide +kernel) zbT
   | 3, _ => kit_tyM (by decide +kernel) zcu
   | 4, _ => kit_tyM (by decide +kernel) zc3
 }
 have I0 := ok_rui (P := l.prog) (w := w) (mg := mg) (base := base) Z y0.fn;have I1 := ok_ruf (P := l.prog) (w := w) (mg := mg) (base := base) Z y1.fn;have I2 := ok_rub (P := l.prog) (w := w) (mg := mg) (base := base) Z y2.fn;have I3 := ok_rut (P := l.prog) (w := w) (mg := mg) (base := base) Z y3.fn;have I4 := ok_ruk (P := l.prog) (w := w) (mg := mg) (base := base) Z y4.fn m_list;have M_folk : MethS l.prog w K mg base CX0 1 "folk" ["self"] (Is5 (five C0 C1 C2 C3 C4)) (fun _ => spFolk (five C0 C1 C2 C3 C4)) := by
  rintro c ⟨i, hi, rfl⟩
  match i, hi with
  | 0, _ => exact ⟨cls_C0, m1, x1, ⟨zax, y1.isf, y1.kp⟩, I1, y1.bi⟩
  | 1, _ => exact ⟨cls_C1, m1, x1, ⟨za6, y1.isf, y1.kp⟩, I1, y1.bi⟩
  | 2, _ => exact ⟨cls_C2, m1, x1, ⟨zbF, y1.isf, y1.kp⟩, I1, y1.bi⟩
  | 3, _ => exact ⟨cls_C3, m1, x1, ⟨zce, y1.isf, y1.kp⟩, I1, y1.bi⟩
  | 4, _ => exact ⟨cls_C4, m1, x1, ⟨zcP, y1.isf, y1.kp⟩, I1, y1.bi⟩
 have M_begin : MethS l.prog w K mg base CX0 1 "begin" ["self"] (Is5 (five C0 C1 C2 C3 C4)) (fun _ => spBegin (five C0 C1 C2 C3 C4)) := by
  rintro c ⟨i, hi, rfl⟩
  match i, hi with
  | 0, _ => exact ⟨cls_C0, m2, x2, ⟨zay, y2.isf, y2.kp⟩, I2, y2.bi⟩
  | 1, _ => exact ⟨cls_C1, m2, x2, ⟨za7, y2.isf, y2.kp⟩, I2, y2.bi⟩
  | 2, _ => exact ⟨cls_C2, m2, x2, ⟨zbG, y2.isf, y2.kp⟩, I2, y2.bi⟩
  | 3, _ => exact ⟨cls_C3, m2, x2, ⟨zcf, y2.isf, y2.kp⟩, I2, y2.bi⟩
  | 4, _ => exact ⟨cls_C4, m2, x2, ⟨zcQ, y2.isf, y2.kp⟩, I2, y2.bi⟩
 have M_told : MethS l.prog w K mg base CX0 1 "told" ["self"] (Is5 (five C0 C1 C2 C3 C4)) (fun _ => spTold (five C0 C1 C2 C3 C4)) := by
  rintro c ⟨i, hi, rfl⟩
  match i, hi with
  | 0, _ => exact ⟨cls_C0, m3, x3, ⟨zaz, y3.isf, y3.kp⟩, I3, y3.bi⟩
  | 1, _ => exact ⟨cls_C1, m3, x3, ⟨za8, y3.isf, y3.kp⟩, I3, y3.bi⟩
  | 2, _ => exact ⟨cls_C2, m3, x3, ⟨zbH, y3.isf, y3.kp⟩, I3, y3.bi⟩
  | 3, _ => exact ⟨cls_C3, m3, x3, ⟨zcg, y3.isf, y3.kp⟩, I3, y3.bi⟩
  | 4, _ => exact ⟨cls_C4, m3, x3, ⟨zcR, y3.isf, y3.kp⟩, I3, y3.bi⟩
 have M_blocks : MethS l.prog w K mg base CX0 1 "blocks" ["self"] (Is5 (five C0 C1 C2 C3 C4)) (fun _ => spBlk (five C0 C1 C2 C3 C4)) := by
  rintro c ⟨i, hi, rfl⟩
  match i, hi with
  | 0, _ => exact ⟨cls_C0, m4, x4, ⟨zaA, y4.isf, y4.kp⟩, I4, y4.bi⟩
  | 1, _ => exact ⟨cls_C1, m4, x4, ⟨za9, y4.isf, y4.kp⟩, I4, y4.bi⟩
  | 2, _ => exact ⟨cls_C2, m4, x4, ⟨zbI, y4.isf, y4.kp⟩, I4, y4.bi⟩
  | 3, _ => exact ⟨cls_C3, m4, x4, ⟨zch, y4.isf, y4.kp⟩, I4, y4.bi⟩
  | 4, _ => exact ⟨cls_C4, m4, x4, ⟨zcS, y4.isf, y4.kp⟩, I4, y4.bi⟩
 have Mm : Ms l.prog w K mg base (five C0 C1 C2 C3 C4) := ⟨M_folk, M_begin, M_told, M_blocks⟩;have I10 := ok_sa Z y10.fn Mm m_len;have MA : MethS l.prog w K mg base CX0 2 "state_ahead" ["self", "number"] (fun c => c = (five C0 C1 C2 C3 C4) 3) (fun _ => spSA (five C0 C1 C2 C3 C4)) := by
  rintro c rfl;exact ⟨cls_C3, m10, x10, ⟨zci, y10.isf, y10.kp⟩, I10, y10.bi⟩
 have GMB := e8.df (ok_mbk (P := l.prog) (w := w) (mg := mg) (base := base) (K := K) (C := five C0 C1 C2 C3 C4) e8.fn mC_C0 mC_C1 mC_C2 m_isinstance);have GAB := e9.df (ok_ab T e9.fn GMB GW n_MOST_RULES m_isinstance m_list m_len m_all);have GPO := e10.df (ok_po e10.fn Mm m_tuple m_range);have GPB := e11.df (ok_pb (P := l.prog) (w := w) (mg := mg) (base := base) e11.fn m_tuple m_len);have I5 := ok_spi y5.fn CF_R_init I0 y0.bi mB_R GM GP n_MOST_FOLK;have I6 := ok_pai Z y6.fn CF_R_init I0 y0.bi mB_R GM GP GC n_MOST_PAIRS;have I7 := ok_coi Z y7.fn CF_R_init I0 y0.bi mB_R GM GP GC n_MOST_FOLK n_MOST_FAR;have I8 := ok_bli Z y8.fn Mm MA B o4 o5 CF_R_init I0 y0.bi mB_R GAB GPO n_MOST_FOLK m_sum m_tuple;have I9 := ok_fii T Z y9.fn Mm CF_R_init I0 y0.bi mB_R GM GPB mC_C4 m_isinstance;have Lk : Mks l.prog w K mg base (five C0 C1 C2 C3 C4) CE3 CE2 CE4 CE5 m5 m6 m7 m8 m9 x5 x6 x7 x8 x9 := ⟨mk_C0, mk_C1, mk_C2, mk_C3, mk_C4, I5, I6, I7, I8, I9, y5.bi, y6.bi, y7.bi, y8.bi, y9.bi, mC_C0, mC_C1, mC_C2, mC_C3, mC_C4⟩;have TA : TupK K nA [.int (1 : Nat), .int (1 : Nat)] := tup_two lA;have mA : mg "ALL" = some (.ref nA) := mg_of X G aA;have Sa := e13.df (ok_add e13.fn GG_ e2.bi e2.kp e2.mg);have Sl := e15.df (ok_les (P := l.prog) (w := w) (mg := mg) (base := base) (K := K) e15.fn);have So := e12.df (ok_so e12.fn GPa GG);have Sm := e14.df (ok_mi e14.fn Sl Sa);have Sc := e16.df (ok_cs e16.fn Sm mA TA);have I11 := ok_sb Z y11.fn MA;have MB : MethS l.prog w K mg base CX0 3 "state_behind" ["self", "number", "at", "inner"] (fun c => c = (five C0 C1 C2 C3 C4) 3) (fun _ => spSB (five C0 C1 C2 C3 C4)) := by
  rintro c rfl;exact ⟨cls_C3, m11, x11, ⟨zck, y11.isf, y11.kp⟩, I11, y11.bi⟩
 have I12 := imp_s0 Z (by decide) (ok_sps Z y12.fn So)
 have I13 := imp_s0 Z (by decide) (ok_pas Z y13.fn Sc mA TA)
 have I14 := imp_s0 Z (by decide) (ok_cos Z y14.fn Sc mA TA)
 have M0 : MethS l.prog w K mg base CX0 5 "steps" ["self", "state", "at"] (fun c => ∃ i, i < 3 /\ c = (five C0 C1 C2 C3 C4) i) (spStp K (five C0 C1 C2 C3 C4)) := by
  rintro c ⟨i, hi, rfl⟩
  match i, hi with
  | 0, _ => exact ⟨cls_C0, m12, x12, ⟨zaB, y12.isf, y12.kp⟩, I12, y12.bi⟩
  | 1, _ => exact ⟨cls_C1, m13, x13, ⟨zba, y13.isf, y13.kp⟩, I13, y13.bi⟩
  | 2, _ => exact ⟨cls_C2, m14, x14, ⟨zbJ, y14.isf, y14.kp⟩, I14, y14.bi⟩
 have I15 := ok_bs Z y15.fn M0 MB;have M1 : MethS l.prog w K mg base CX0 6 "steps" ["self", "state", "at"] (fun c => ∃ i, i < 4 /\ c = (five C0 C1 C2 C3 C4) i) (spStp K (five C0 C1 C2 C3 C4)) := by
  rintro c ⟨i, hi, rfl⟩
  match i, hi with
  | 0, _ => exact ⟨cls_C0, m12, x12, ⟨zaB, y12.isf, y12.kp⟩, I12.mono (by decide), y12.bi⟩
  | 1, _ => exact ⟨cls_C1, m13, x13, ⟨zba, y13.isf, y13.kp⟩, I13.mono (by decide), y13.bi⟩
  | 2, _ => exact ⟨cls_C2, m14, x14, ⟨zbJ, y14.isf, y14.kp⟩, I14.mono (by decide), y14.bi⟩
  | 3, _ => exact ⟨cls_C3, m15, x15, ⟨zcj, y15.isf, y15.kp⟩, I15, y15.bi⟩
 have I16 := ok_fs Z y16.fn M1;have M2 : MethS l.prog w K mg base CX0 7 "steps" ["self", "state", "at"] (Is5 (five C0 C1 C2 C3 C4)) (spStp K (five C0 C1 C2 C3 C4)) := by
  rintro c ⟨i, hi, rfl⟩
  match i, hi with
  | 0, _ => exact ⟨cls_C0, m12, x12, ⟨zaB, y12.isf, y12.kp⟩, I12.mono (by decide), y12.bi⟩
  | 1, _ => exact ⟨cls_C1, m13, x13, ⟨zba, y13.isf, y13.kp⟩, I13.mono (by decide), y13.bi⟩
  | 2, _ => exact ⟨cls_C2, m14, x14, ⟨zbJ, y14.isf, y14.kp⟩, I14.mono (by decide), y14.bi⟩
  | 3, _ => exact ⟨cls_C3, m15, x15, ⟨zcj, y15.isf, y15.kp⟩, I15.mono (by decide), y15.bi⟩
  | 4, _ => exact ⟨cls_C4, m16, x16, ⟨zcT, y16.isf, y16.kp⟩, I16, y16.bi⟩
 have Lr := e17.df (ok_row (P := l.prog) (w := w) (mg := mg) (base := base) e17.fn m_range m_len);have Lm_ := ok_com (P := l.prog) (w := w) (mg := mg) (base := base) e18.fn;have Lm := (e18.df Lm_);have Ll := e19.df (ok_low e19.fn Lm_ e18.bi e18.kp e18.mg);have Lc := e20.df (ok_cn e20.fn Ll m_int);have Lo := e21.df (ok_on e21.fn Lc);have Lf0 := e23.df (ok_fo0 (P := l.prog) (w := w) (mg := mg) (base := base) e23.fn m_int);have Lf := e23.df (ok_fo e23.fn Lf0 m_int m_sum);have Ln := e22.df (ok_dn e22.fn Lo Lf m_max m_tuple m_range);have Ld := e24.df (ok_md e24.fn Lk e24.bi e24.kp e24.mg 3);have Lb0 := e25.df (ok_bg (P := l.prog) (w := w) (mg := mg) (base := base) e25.fn e25.bi e25.kp e25.mg 0);have Lb := e25.df (ok_bg (P := l.prog) (w := w) (mg := mg) (base := base) e25.fn e25.bi e25.kp e25.mg 3);have Lbc := e26.df (ok_bc (P := l.prog) (w := w) (mg := mg) (base := base) (K := K) e26.fn);have Ls0 := e28.df (ok_ls0 e28.fn Lbc Ll);have Lbl := e27.df (ok_lb e27.fn Ls0 Lf0 Lb0 m_sum m_len);have Ls := e28.df (ok_ls e28.fn e28.bi e28.kp e28.mg Lbc Ll Lbl 3);have Ly := e29.df (ok_lr T e29.fn Ls Ll M2 m_isinstance m_list);have Lg := e30.df (ok_r8 e30.fn Mm Lb Lf Ly Ll m_range);exact ok_law e31.fn ⟨Lr, Ln, Lg, Ld, Lf, Lk⟩
theorem walk {l : OpenLaw} {q : Program} {loose : List Str} {XP : (Str -> Option Value) -> Heap -> Prop} {YP : World -> Heap -> Prop} {d : DefRec} {K : Params -> Frag} (hn : l.most = some 63) (hdf : d.params.defaults = [])
  (hY : ∀ (w : World) (h : Heap), YP w h -> (K w.params).In h)
  (F : ∀ (w : World) (mg : Str -> Option Value) (fa : Addr) (h : Heap), (K w.params).In h -> h.Ns mainGlobals mg -> mg d.name = some (.ref fa) ->
   ∃ fd : FuncData, (∀ (s : Shared) (u : Value), BindsTo s fd ⟨[u], []⟩ [("_law_script", u)]) /\ ∀ base : Heap, (K w.params).In base -> base.Ns mainGlobals mg -> FnOk l.prog w (K w.params) mg base CX0 12 fa fd ["_law_script"] (spLaw (K w.params))) :
  WalkO q loose XP YP l.row.toRowW d [] (fun f vs => PySem.call f vs) :=
 L2.walk_ofS (n := 63) (k := 12) (x := "_law_script") (CX := fun _ => CX0) (sp := fun w => spLaw (K w.params)) hn (by decide) hdf ⟨rfl, by decide, by decide, rfl⟩ hY F (fun _ _ a ns hl _ hS hz => ⟨a, ns, rfl, hS, hl, hz, fun _ => rfl⟩) fun _ _ _ _ _ z => z
end My
open PySem PySem.W PyProof.Rows
def PySem.W.Fast.tw2566774896082403027 : Unit := ()
def PySem.W.Fast.tw8822947505208053971 : Unit := ()
def PySem.W.Fast.tw16890746444879392947 : Unit := ()
def PySem.W.Fast.tw3312085730287117652 : Unit := ()
def PySem.W.Fast.tw15099351942467901930 : Unit := ()
def PySem.W.Fast.tw16129336640640739886 : Unit := ()
def PySem.W.Fast.tw8035774698274879021 : Unit := ()
def PySem.W.Fast.tw3259316118650482692 : Unit := ()
def PySem.W.Fast.tw3313081395223488763 : Unit := ()
def PySem.W.Fast.tw6147515706577407954 : Unit := ()
def PySem.W.Fast.tw11242421277922332181 : Unit := ()
def PySem.W.Fast.tw6496164961158347141 : Unit := ()
def PySem.W.Fast.tw12674711313187148203 : Unit := ()
def PySem.W.Fast.tw3536414589098512829 : Unit := ()
def PySem.W.Fast.tw17054430043013708163 : Unit := ()
def PySem.W.Fast.tw13941980482050555271 : Unit := ()
def PySem.W.Fast.tw7437382080008778435 : Unit := ()
def PySem.W.Fast.tw2996842866077883128 : Unit := ()
def PySem.W.Fast.tw4465430949187924613 : Unit := ()
def PySem.W.Fast.tw17124911379988793777 : Unit := ()
def PySem.W.Fast.tw10945084584803420121 : Unit := ()
def PySem.W.Fast.tw13564044449198385184 : Unit := ()
def PySem.W.Fast.tw18364264895177967511 : Unit := ()
def PySem.W.Fast.tw2516339626904297061 : Unit := ()
def PySem.W.Fast.tw1988680752483572328 : Unit := ()
def PySem.W.Fast.tw13471587149475459742 : Unit := ()
def PySem.W.Fast.tw10005345198003463486 : Unit := ()
def PySem.W.Fast.tw7804192551702917497 : Unit := ()
def PySem.W.Fast.tw835186855170067389 : Unit := ()
def PySem.W.Fast.tw17733829253720549023 : Unit := ()
def PySem.W.Fast.tw8173920692753810889 : Unit := ()
def PySem.W.Fast.tw14839217207402034438 : Unit := ()
def PySem.W.Fast.tw17307543188138193107 : Unit := ()
def PySem.W.Fast.tw14683776711291170451 : Unit := ()
def PySem.W.Fast.tw8463534874099360044 : Unit := ()
def PySem.W.Fast.tw13942986826889165769 : Unit := ()
def PySem.W.Fast.tw11627595539809680510 : Unit := ()
def PySem.W.Fast.tw4716087221541500097 : Unit := ()
def PySem.W.Fast.tw12747461764366687526 : Unit := ()
def PySem.W.Fast.tw8038456925118561397 : Unit := ()
def PySem.W.Fast.tw239210449631470036 : Unit := ()
set_option maxRecDepth 100000 in
set_option maxHeartbeats 0 in
theorem PySem.Challenge.cw_trialdeal_k08_step_by_step_holds : PySem.Challenge.rw_trialdeal_k08_step_by_step.Holds := by
 w_on; o_law; k_head; (case hw => w_witness2)
 k_fill
 refine My.walk (l := PySem.Challenge.rw_trialdeal_k08_step_by_step) rfl rfl (fun w h Y => PySem.W.kIn_of Y) ?F
 case F =>
  intro w mg fa h KX G hmg;refine' My.all_mk KX G hmg (My.base_mk ?jaa ?jab ?jac ?jad ?jae ?jaf ?jag ?jah ?jai ?jaj ?jak ?jal) (My.err_mk "NoShare" ?jam ?jan ?jao ?jap ?jaq ?jar ?jas ?jat) (My.err_mk "NoNumber" ?jau ?jav ?jaw ?jax ?jay ?jaz ?jaA ?jaB) (My.err_mk "NoTrials" ?jaC ?jaD ?jaE ?jaF ?jaG ?jaH ?jaI ?jaJ) (My.err_mk "TooMany" ?jaK ?jaL ?jaM ?jaN ?jaO ?jaP ?jaQ ?jaR)
   ?jaS ?jaT ?jaU ?jaV ?jaW ?jaX ?jaY ?jaZ ?ja0 ?ja1 ?ja2 ?ja3 ?ja4 ?ja5 ?ja6 ?ja7 ?ja8 ?ja9 ?jba ?jbb ?jbc ?jbd ?jbe ?jbf ?jbg ?jbh ?jbi ?jbj ?jbk ?jbl ?jbm ?jbn ?jbo ?jbp ?jbq ?jbr ?jbs ?jbt ?jbu ?jbv ?jbw ?jbx ?jby ?jbz ?jbA ?jbB ?jbC ?jbD ?jbE ?jbF ?jbG ?jbH ?jbI ?jbJ ?jbK ?jbL ?jbM ?jbN ?jbO ?jbP ?jbQ ?jbR ?jbS ?jbT ?jbU ?jbV ?jbW ?jbX ?jbY ?jbZ ?jb0 ?jb1 ?jb2 ?jb3 ?jb4 ?jb5 ?jb6 ?jb7 ?jb8 ?jb9 ?jca ?jcb ?jcc ?jcd ?jce ?jcf ?jcg ?jch ?jci ?jcj ?jck ?jcl ?jcm ?jcn ?jco ?jcp ?jcq ?jcr ?jcs ?jct ?jcu ?jcv ?jcw ?jcx ?jcy ?jcz ?jcA ?jcB ?jcC ?jcD ?jcE ?jcF ?jcG ?jcH ?jcI ?jcJ ?jcK ?jcL ?jcM ?jcN ?jcO ?jcP ?jcQ ?jcR ?jcS ?jcT ?jcU ?jcV ?jcW ?jcX ?jcY ?jcZ ?jc0 ?jc1 ?jc2 ?jc3 ?jc4 ?jc5 ?jc6 ?jc7 ?jc8 ?jc9 ?jda ?jdb ?jdc ?jdd ?jde ?jdf ?jdg ?jdh ?jdi ?jdj ?jdk ?jdl ?jdm ?jdn ?jdo ?jdp ?jdq ?jdr ?jds ?jdt ?jdu ?jdv ?jdw ?jdx ?jdy ?jdz ?jdA ?jdB ?jdC ?jdD ?jdE ?jdF ?jdG ?jdH ?jdI ?jdJ ?jdK ?jdL ?jdM ?jdN ?jdO ?jdP ?jdQ ?jdR ?jdS ?jdT ?jdU ?jdV ?jdW ?jdX ?jdY ?jdZ ?jd0 ?jd1 ?jd2 ?jd3 ?jd4 ?jd5 ?jd6 ?jd7 ?jd8 ?jd9 ?jea ?jeb ?jec ?jed ?jee ?jef ?jeg ?jeh ?jei ?jej ?jek ?jel ?jem ?jen ?jeo ?jep ?jeq ?jer ?jes ?jet ?jeu ?jev ?jew ?jex (My.dn_of My.bp0 KX G ?jey ?jez ?jeA ?jeB) (My.dn_of My.bp1 KX G ?jeC ?jeD ?jeE ?jeF) (My.dn_of My.bp2 KX G ?jeG ?jeH ?jeI ?jeJ) (My.dn_of My.bp3 KX G ?jeK ?jeL ?jeM ?jeN) (My.dn_of My.bp4 KX G ?jeO ?jeP ?jeQ ?jeR) (My.dn_of My.bp5 KX G ?jeS ?jeT ?jeU ?jeV) (My.dn_of My.bp6 KX G ?jeW ?jeX ?jeY ?jeZ) (My.dn_of My.bp7 KX G ?je0 ?je1 ?je2 ?je3) (My.dn_of My.bp8 KX G ?je4 ?je5 ?je6 ?je7) (My.dn_of My.bp9 KX G ?je8 ?je9 ?jfa ?jfb) (My.dn_of My.bp10 KX G ?jfc ?jfd ?jfe ?jff) (My.dn_of My.bp11 KX G ?jfg ?jfh ?jfi ?jfj) (My.dn_of My.bp12 KX G ?jfk ?jfl ?jfm ?jfn) (My.dn_of My.bp13 KX G ?jfo ?jfp ?jfq ?jfr) (My.dn_of My.bp14 KX G ?jfs ?jft ?jfu ?jfv) (My.dn_of My.bp15 KX G ?jfw ?jfx ?jfy ?jfz) (My.dn_of My.bp16 KX G ?jfA ?jfB ?jfC ?jfD) (My.dn_of My.bp17 KX G ?jfE ?jfF ?jfG ?jfH) (My.dn_of My.bp18 KX G ?jfI ?jfJ ?jfK ?jfL) (My.dn_of My.bp19 KX G ?jfM ?jfN ?jfO ?jfP) (My.dn_of My.bp20 KX G ?jfQ ?jfR ?jfS ?jfT) (My.dn_of My.bp21 KX G ?jfU ?jfV ?jfW ?jfX) (My.dn_of My.bp22 KX G ?jfY ?jfZ ?jf0 ?jf1) (My.dn_of My.bp23 KX G ?jf2 ?jf3 ?jf4 ?jf5) (My.dn_of My.bp24 KX G ?jf6 ?jf7 ?jf8 ?jf9) (My.dn_of My.bp25 KX G ?jga ?jgb ?jgc ?jgd) (My.dn_of My.bp26 KX G ?jge ?jgf ?jgg ?jgh) (My.dn_of My.bp27 KX G ?jgi ?jgj ?jgk ?jgl) (My.dn_of My.bp28 KX G ?jgm ?jgn ?jgo ?jgp) (My.dn_of My.bp29 KX G ?jgq ?jgr ?jgs ?jgt) (My.dn_of My.bp30 KX G ?jgu ?jgv ?jgw ?jgx) (My.dn_of My.bp31 KX G ?jgy ?jgz ?jgA ?jgB) (My.dm_of My.bm0 ?jgC ?jgD ?jgE ?jgF) (My.dm_of My.bm1 ?jgG ?jgH ?jgI ?jgJ) (My.dm_of My.bm2 ?jgK ?jgL ?jgM ?jgN) (My.dm_of My.bm3 ?jgO ?jgP ?jgQ ?jgR) (My.dm_of My.bm4 ?jgS ?jgT ?jgU ?jgV) (My.dm_of My.bm5 ?jgW ?jgX ?jgY ?jgZ) (My.dm_of My.bm6 ?jg0 ?jg1 ?jg2 ?jg3) (My.dm_of My.bm7 ?jg4 ?jg5 ?jg6 ?jg7) (My.dm_of My.bm8 ?jg8 ?jg9 ?jha ?jhb) (My.dm_of My.bm9 ?jhc ?jhd ?jhe ?jhf) (My.dm_of My.bm10 ?jhg ?jhh ?jhi ?jhj) (My.dm_of My.bm11 ?jhk ?jhl ?jhm ?jhn) (My.dm_of My.bm12 ?jho ?jhp ?jhq ?jhr) (My.dm_of My.bm13 ?jhs ?jht ?jhu ?jhv) (My.dm_of My.bm14 ?jhw ?jhx ?jhy ?jhz) (My.dm_of My.bm15 ?jhA ?jhB ?jhC ?jhD) (My.dm_of My.bm16 ?jhE ?jhF ?jhG ?jhH)
   (fun s v => .of_eq rfl)
  case jaS | jaT | jaU | jaV | jaW | jaa | jab => k_is
  (case jac => exact My.strKeys_of rfl)
  (case jad => first | rfl | decide +kernel)
  case jae | jaf | jag | jah | jai | jaj | jak | jal | jam | jan | jao | jap | jaq | jar | jas | jat | jau | jav | jaw | jax | jay | jaz | jaA | jaB | jaC | jaD | jaE | jaF | jaG | jaH | jaI | jaJ | jaK | jaL | jaM | jaN | jaO | jaP | jaQ | jaR | jbh | jbo | jbX | jcw | jc5 | jdG | jbk | jbH | jbI | jbJ | jbK | jbL | jbM | jcg | jch | jci | jcj | jck | jcl | jcP | jcQ | jcR | jcS | jcT | jcU | jdo | jdp | jdq | jdr | jds | jdt | jdu | jdv | jdZ | jd0 | jd1 | jd2 | jd3 | jd4 | jaX | jaY | jaZ | ja0 | ja1 | ja2 | ja3 | ja4 | ja5 | ja6 | ja7 | ja8 | ja9 | jba | jbb | jbc | jbd | jbe | jbf | jbg | jbi | jbj | jbl | jbm | jbn | jbp | jbq | jbr | jbs | jbt | jbu | jbv | jbw | jbx | jby | jbz | jbA | jbB | jbC | jbD | jbE | jbF | jbG | jbN | jbO | jbP | jbQ | jbR | jbS | jbT | jbU | jbV | jbW | jbY | jbZ | jb0 | jb1 | jb2 | jb3 | jb4 | jb5 | jb6 | jb7 | jb8 | jb9 | jca | jcb | jcc | jcd | jce | jcf | jcm | jcn | jco | jcp | jcq | jcr | jcs | jct | jcu | jcv | jcx | jcy | jcz | jcA | jcB | jcC | jcD | jcE | jcF | jcG | jcH | jcI | jcJ | jcK | jcL | jcM | jcN | jcO | jcV | jcW | jcX | jcY | jcZ | jc0 | jc1 | jc2 | jc3 | jc4 | jc6 | jc7 | jc8 | jc9 | jda | jdb | jdc | jdd | jde | jdf | jdg | jdh | jdi | jdj | jdk | jdl | jdm | jdn | jdw | jdx | jdy | jdz | jdA | jdB | jdC | jdD | jdE | jdF | jdH | jdI | jdJ | jdK | jdL | jdM | jdN | jdO | jdP | jdQ | jdR | jdS | jdT | jdU | jdV | jdW | jdX | jdY | jd5 | jd6 | jd7 | jd8 | jd9 | jea | jeb | jec | jed | jee | jef | jeg | jeh | jei | jej | jek | jel | jem | jen | jeo | jep | jeq | jer | jes | jet | jeu | jev | jew | jex | jey | jez | jeA | jeB | jeC | jeD | jeE | jeF | jeG | jeH | jeI | jeJ | jeK | jeL | jeM | jeN | jeO | jeP | jeQ | jeR | jeS | jeT | jeU | jeV | jeW | jeX | jeY | jeZ | je0 | je1 | je2 | je3 | je4 | je5 | je6 | je7 | je8 | je9 | jfa | jfb | jfc | jfd | jfe | jff | jfg | jfh | jfi | jfj | jfk | jfl | jfm | jfn | jfo | jfp | jfq | jfr | jfs | jft | jfu | jfv | jfw | jfx | jfy | jfz | jfA | jfB | jfC | jfD | jfE | jfF | jfG | jfH | jfI | jfJ | jfK | jfL | jfM | jfN | jfO | jfP | jfQ | jfR | jfS | jfT | jfU | jfV | jfW | jfX | jfY | jfZ | jf0 | jf1 | jf2 | jf3 | jf4 | jf5 | jf6 | jf7 | jf8 | jf9 | jga | jgb | jgc | jgd | jge | jgf | jgg | jgh | jgi | jgj | jgk | jgl | jgm | jgn | jgo | jgp | jgq | jgr | jgs | jgt | jgu | jgv | jgw | jgx | jgy | jgz | jgA | jgB | jgC | jgD | jgE | jgF | jgG | jgH | jgI | jgJ | jgK | jgL | jgM | jgN | jgO | jgP | jgQ | jgR | jgS | jgT | jgU | jgV | jgW | jgX | jgY | jgZ | jg0 | jg1 | jg2 | jg3 | jg4 | jg5 | jg6 | jg7 | jg8 | jg9 | jha | jhb | jhc | jhd | jhe | jhf | jhg | jhh | jhi | jhj | jhk | jhl | jhm | jhn | jho | jhp | jhq | jhr | jhs | jht | jhu | jhv | jhw | jhx | jhy | jhz | jhA | jhB | jhC | jhD | jhE | jhF | jhG | jhH => k_is
