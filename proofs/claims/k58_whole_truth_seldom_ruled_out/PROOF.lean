import PyProof.Rows.All
import Wide.All
import OpenK.AllK
import Wide.FinOn
import Lean
import PyProof.EqAt
import PyProof.EqKinds
import PyProof.TupleCall
import PyProof.ExcClass2
import PyProof.InstStoreFacts
import PyProof.ExcArgs
import PyProof.ExcInit
import PyProof.ExcBaseAll.ValueError
import KE.KIsAll
import PyProof.RulesRaise
import PyProof.RulesAs
import PyProof.RaisesMany
import PyProof.NeKinds
import PyProof.EnumFor
import PyProof.EnumStmt
import PyProof.EnumMake
import PyProof.Rows.EnumRows
import PyProof.CompFree
import KE.KIntText
import PyProof.StrBlockG
import PyProof.StrBlockH
import PyProof.StrWalks
import PyProof.Rows.StrNews2
import PyProof.Rows.StrOr
import PyProof.Rows.Digits
import PyProof.StrBlockL
import PyProof.MeetsStr2
import PyProof.CompMap
import KE.IntTextLaws
import PyProof.Rows.StrPartPair
import PyProof.StrLawsTight
import PyProof.StrLawsChain
import PyProof.Rows.StrIntSpec
import PyProof.Rows.StrItems
import PyProof.ReprRoads
import PyProof.ReprBulk
import PyProof.FitsInt
import PyProof.CallFns
import PyProof.Rows.FactsT3
import PyProof.ListRange
import PyProof.TupleOfSeq
import PyProof.TupleOfGen
import PyProof.ConsumeWalk
import PyProof.Rows.SeqGen
import PyProof.CompUse
import KE.KUnpack
import PyProof.Draws
import PyProof.Rows.RuleB_bool
import PyProof.WalkInts
import PyProof.SeqI3
import KE.KRevSl
import KE.BitLaws
import PyProof.Rows.SumAny
import OpenK.KTop
import PyProof.Rows.FStr
import PyProof.DictItems
import PyProof.DictValues
import KE.KDictSum
import KE.KDictList
import PyProof.SumWalkG
import PyProof.Rows.SortWalk
import PyProof.Rows.SeqMore2
import PyProof.DictCompW
import PyProof.AttrMiss
import PyProof.IsiH_list
import KE.KDictOf
import KE.KEqDict
import PyProof.Rows.TupDisplay
import PyProof.Cells
import PyProof.WalksMore
import PyProof.TupleIter
import PyProof.ZipIter
import PyProof.Rows.FactsT2
import PySem.Challenge.RW_trialdeal_k58_whole_truth_seldom_ruled_o
set_option autoImplicit true
set_option relaxedAutoImplicit true
set_option linter.all false
def À:=@PySem.wpAny_bind
def Á:=@PySem.Heap.get?_push_of_some
def Â:=@PySem.wpAny_pure
def Ã:=@List.getElem?_eq_getElem
def Ä:=@List.mem_append_right
def Å:=@Nat.le_refl
def Æ:=@List.length_map
def Ç:=@decide_eq_true
def È:=@PySem.Heap.lt_size
def É:=@if_neg
def Ê:=@PySem.Heap.get?_push_size
def Ë:=@Nat.ne_of_lt
def Ì:=@List.length_append
def Í:=@List.map_cons
def Î:=@List.mem_cons_of_mem
def Ï:=@List.mem_cons
def Ð:=@Bool.false_ne_true
def Ñ:=@List.length_cons
def Ò:=@Option.some.inj
def Ó:=@List.map_append
def Ô:=@if_pos
def Õ:=@List.getElem?_map
def Ö:=@PySem.Paired.length
def Ø:=@List.getElem?_eq_some_iff
def Ù:=@List.mem_cons_self
def Ú:=@Nat.le_trans
def Û:=@List.size_toArray
def Ü:=@PySem.wpAny_mono
def Ý:=@PySem.wpAny_newObj_type
def Þ:=@PySem.sizeLine_eq
def ß:=@PySem.Heap.get?_update_ne
def à:=@Nat.lt_of_lt_of_le
def á:=@List.mem_of_getElem?
def â:=@decide_eq_false
def ã:=@List.append_nil
def ä:=@PySem.boot_len
def å:=@PySem.PassesOwn.never
def æ:=@PySem.Heap.size_push
def ç:=@List.length_replicate
def è:=@List.count_cons_of_ne
def é:=@PyProof.Rows.boot_isinstance
def ê:=@List.mem_singleton
def ë:=@Array.getElem?_eq_some_iff
def ì:=@PySem.F.plainAttrs_list
def í:=@PySem.Heap.get?_update_self
def î:=@List.filter_cons
def ï:=@PySem.wpAny_holding
def ó:=@PySem.wpAny_field
def ô:=@PySem.wpAny_setField_rec
def õ:=@List.mem_map
def ö:=@List.take_length
def ø:=@of_decide_eq_true
def ù:=@List.append_assoc
def û:=@List.filter_append
def ü:=@PySem.wpAny_standAt
def ý:=@List.range_succ
def þ:=@List.nodup_cons
def ÿ:=@Nat.lt_irrefl
def Ā:=@Bool.and_eq_true
def ā:=@PySem.mem_of_lookup
def ă:=@PySem.wpAny_call_entry
def Ą:=@decide_eq_false_iff_not
def ć:=@PySem.wpAny_callSpecial?_slot
def Ċ:=@Nat.zero_le
def Č:=@PySem.F.slot_dict_itemiterator_next
def č:=@PySem.W.kia_one
def Ď:=@List.mem_filter
def ď:=@decide_eq_true_iff
def Đ:=@PySem.F.slot_dict_keyiterator_next
def đ:=@PySem.wpAny_comprehension_free
def ē:=@Nat.lt_succ_of_lt
def Ĕ:=@Int.toNat_natCast
def Ė:=@congrArg
def ė:=@PyProof.Rows.boot_sum
def Ę:=@List.length_singleton
def ę:=@PySem.W.mg_none_of
def Ě:=@Int.zero_add
def ě:=@List.length_range
def Ĝ:=@PySem.wpAny_newFunctionEnv
def ğ:=@Option.map_eq_some_iff
def Ġ:=@PySem.wpAny_truthy_bool
def Ģ:=@List.mem_range
def ģ:=@List.getD_eq_getElem?_getD
def ĥ:=@PyProof.Rows.boot_int
def Ħ:=@PySem.codeAny_compStart_list
def Ĩ:=@PySem.F.type_list_append
def ĩ:=@PySem.F.slot_list_append
def Ī:=@List.sum_cons
def ī:=@beq_eq_false_iff_ne
def Ĭ:=@List.getElem_of_mem
def ĭ:=@PySem.F.type_list_count
def Į:=@PySem.F.slot_list_count
def į:=@PyProof.Rows.boot_tuple
def İ:=@List.getElem_mem
def ĳ:=@List.range_succ_eq_map
def Ĵ:=@List.contains_cons
def ĵ:=@Int.emod_lt_of_pos
def Ķ:=@PySem.wpAny_typeNameOfWhole_itemiter
def ķ:=@PySem.wpAny_seqItems
def ĸ:=@Bool.eq_iff_iff
def Ĺ:=@List.all_cons
def ļ:=@List.length_filter_le
def ľ:=@PySem.wpAny_typeNameOfWhole_keyiter
def Ŀ:=@PyProof.Rows.callWith_type1
def Ł:=@PySem.wpAny_passesOwn
def ł:=@PySem.wpAny_ite_false
def Ń:=@PySem.F.slot_NoneType_hash
def ń:=@Nat.pow_le_pow_right
def Ň:=@PySem.wpAny_attempt
def ň:=@Nat.lt_trans
def ŉ:=@List.map_map
def Ŋ:=@List.length_take
def ŋ:=@List.all_eq_true
def Ō:=@Int.mul_zero
def ō:=@PySem.wpAny_dictEntries
def Ő:=@List.replicate_succ
def œ:=@Option.isSome_iff_exists
def Ŕ:=@Nat.gcd_pos_of_pos_right
def ŗ:=@List.mem_append
def ŝ:=@Nat.mul_le_mul
def Ş:=@Bool.false_and
def ş:=@PySem.wpAny_dictEpoch
def Š:=@PySem.SeqAt.EqAt.same
def š:=@PySem.wpAny_pyIter_tuple
def Ţ:=@PyProof.Rows.slot_tuple_getitem
def ţ:=@PySem.Obj.data_mapFields
def Ť:=@Bool.and_eq_false_iff
def Ŧ:=@PySem.W.Looks.here
def ŧ:=@List.cons_append
def ū:=@PySem.wpAny_setField
def Ŭ:=@Nat.pow_lt_pow_right
def ŭ:=@List.count_cons_self
def Ů:=@PySem.Heap.get?_push_at
def ů:=@PySem.Calls.callWith_builtin
def Ų:=@Int.emod_nonneg
def Ź:=@Nat.ne_of_gt
def ź:=@Int.mul_comm
def Ž:=@Nat.lt_of_le_of_lt
def ž:=@List.map_replicate
def ſ:=@List.getElem?_append_right
def Α:=@Int.fdiv_eq_ediv_of_nonneg
def Μ:=@PySem.F.slot_zip_next
def Ξ:=@Nat.gcd_dvd_right
def Ο:=@Nat.add_mul
def Ρ:=@PySem.Heap.SameBut.update
def Υ:=@List.any_cons
def Φ:=@Bool.true_and
def δ:=@PySem.wpAny_Call_Name_kw
def ε:=@PySem.tupleKind_room_in1
def ζ:=@beq_self_eq_true
def η:=@PySem.F.plainAttrs_dict
def θ:=@List.perm_middle
def ι:=@List.length_eq_zero_iff
def χ:=@Nat.not_lt
def ψ:=@Nat.mul_zero
def ω:=@Nat.le_of_eq
def a_:=@List.take_of_length_le
def b_:=@List.length_pos_of_mem
def g_:=@List.count_cons
def i_:=@PySem.wpAny_onRaise
def j_:=@PySem.F.slot_dict_get
def r_:=@Nat.mul_le_mul_right
def s_:=@List.mem_append_left
def t_:=@Int.mul_one
def u_:=@PySem.Heap.size_update
def F7:=@PySem.F.args_dict_itemiterator_next_1
def F8:=@PySem.wpAny_rule
def F9:=@PySem.wpAny_isOneOf_itemiter
def F':=@PySem.wpAny_call
def F_:=@PySem.codeAny_mono
def Ge:=@PySem.codeAny_loop
def Gf:=@PySem.F.entry_dict_itemiterator_next
def Gi:=@PySem.F.args_dict_keyiterator_next_1
def Gj:=@List.map_congr_left
def Gk:=@List.flatMap_append
def Gm:=@List.filterMap_cons
def Gx:=@PySem.wpAny_loadPart'
def Gy:=@PySem.wpAny_execs_nil
def Gz:=@PySem.F.entry_dict_keyiterator_next
def GB:=@PySem.wpAny_notOrdered_dict
def GQ:=@PySem.wpAny_noted
def GR:=@PySem.wpAny_letGo
def GT:=@PySem.wpAny_fieldsOf
def GU:=@PySem.codeAny_call_builtin
def GV:=@Nat.zero_add
def GX:=@Nat.pow_zero
def GY:=@Nat.pow_succ
def GZ:=@List.nodup_append
def G0:=@List.all_map
def G1:=@Int.zero_sub
def Hg:=@PySem.W.mg_of
def Hi:=@decide_eq_decide
def Hj:=@PyProof.Rows.callWith_builtin1
def Hm:=@Option.bind_some
def Hq:=@Nat.min_le_right
def Hr:=@List.lookup_cons
def Hs:=@List.countP_cons
def Ht:=@List.any_eq_true
def HH:=@PySem.eval_ListComp
def HI:=@Nat.mul_add
def HJ:=@Nat.div_one
def HK:=@Int.le_refl
def HU:=@PySem.F.slot_dict_items_iter
def HV:=@Nat.not_lt_zero
def HW:=@List.of_mem_zip
def HX:=@List.length_nil
def HY:=@Int.natCast_mul
def HZ:=@Int.natCast_add
def H_:=@PySem.Calls.spliced_cons
def Io:=@PySem.wpAny_pyIter_slot
def Ip:=@PySem.wpAny_pyIter_list
def Iq:=@PySem.wpAny_loadPart_at
def Ir:=@PySem.wpAny_assign_Name
def Iu:=@PySem.call_meetsIn
def Iw:=@PySem.F.excBase_ValueError
def Ix:=@PySem.F.excAttr_ValueError
def Ja:=@List.getElem?_append_left
def Jb:=@List.drop_eq_getElem_cons
def Jc:=@Array.getElem?_eq_getElem
def Jk:=@PySem.wpAny_isInstance
def Jl:=@PySem.W.looks_findIn
def Jm:=@PySem.F.slot_dict_values
def JC:=@PySem.F.slot_dict_items
def JD:=@PySem.F.args_dict_get_3
def JE:=@Nat.mul_div_cancel_left
def JF:=@List.getElem?_replicate
def JY:=@PySem.wpAny_specialOf
def JZ:=@PySem.W.cellsFrom_some
def J1:=@PySem.F.slot_dict_iter
def J3:=@PySem.F.entry_dict_get
def J4:=@PyProof.Rows.boot_list
def J5:=@PyProof.Rows.boot_bool
def J6:=@Nat.succ_mul
def J7:=@Nat.le_of_lt
def J8:=@Nat.add_comm
def J9:=@List.map_nil
def J':=@List.getElem?_set_self
def J_:=@Int.ofNat_lt
theorem aF {p : Prop} (h : p := by decide +kernel) : p := h
theorem ag {p : Prop} (h : p := by decide) : p := h
theorem ae {p : Prop} (h : p := by omega) : p := h
theorem fk {n : Nat} (h : Nat.ble n 1000 = true := by exact rfl) : n <= PySem.sizeLine := Ú (Nat.le_of_ble_eq_true h) (by decide)
abbrev bM := PySem.Value -> PySem.Shared -> Prop
abbrev bE := PySem.Str -> Option PySem.Value
abbrev cT (l : List (PySem.Str × PySem.NameKind)) : PySem.Scope := { kind := .function, names := (".0", .local) :: l, isGenerator := false, isCoroutine := false }
set_option Elab.async false
set_option maxRecDepth 100000
namespace L2
open PySem PySem.Spec PyProof.Rows
inductive Key where
 | inl (i : Int) | inr (x : Str) | ĉ
 deriving DecidableEq
def iK : Key -> Value -> Bool
 | .inl k, v => Value.isInt k v
 | .inr x, v => Value.isStrOf x v
 | .ĉ, v => v == .none
def Ek (w : World) : Key -> Int
 | .inl k => hashInt k
 | .inr x => hashStr w x
 | .ĉ => 0xFCA86420
theorem lH {prog : Program} {w : World} {A : Around} {E : bM} {s : Shared} {Q : Int -> Shared -> Prop} (h : Q 0xFCA86420 { s with toks := s.toks + 1 }) : wpAny (model prog w) A (pyHash .none) Q E s := by
 unfold pyHash;have hT : s.TypeIs .none "NoneType" := rfl;have hv : [Value.none].any Value.onHeap = false := rfl;refine À ?_;rw [cRoomFor, É (by rw [hv]; exact Ð)]; refine Â ?_
 refine À (JY hT Ń.lookup ?_);show wpAny _ _ (if (some (Value.builtin "NoneType.__hash__") == some Value.none) = true then _ else _) Q E s
 rw [É (by rw [beq_builtin_none]; exact Ð)]
 refine À (JY hT Ń.lookup ?_);show wpAny _ _ (callSpecialIfBoundUnlessNone? .none "__hash__" _ >>= _) Q E s;refine À (wpAny_callSpecialIfBoundUnlessNone?_slot hT Ń
  (ă Ń hT PySem.F.entry_NoneType_hash
   (show wpAny _ _ (do ret (<- mkInt 0xFCA86420)) _ _ s from wpAny_ret_mkInt ?_) (PySem.F.args_NoneType_hash_1 _)))
 show wpAny _ _ (if (decide (-(2 : Int) ^ 63 <= 0xFCA86420) && decide ((0xFCA86420 : Int) < 2 ^ 63)) = true then _ else _) Q E _
 rw [Ô ag];exact Â h
theorem aE : ∀ {k : Key} {v : Value}, iK k v = true -> (∃ i t, k = Key.inl i /\ v = Value.int i t) \/ (∃ x t, k = Key.inr x /\ v = Value.str x t) \/ (k = Key.ĉ /\ v = Value.none)
 | .inl i, v, h => by
  obtain ⟨t, e⟩ := Value.isInt_shape (k := i) (v := v) h;exact .inl ⟨i, t, rfl, e⟩
 | .inr x, v, h => by
  obtain ⟨t, e⟩ := Value.isStrOf_shape (x := x) (v := v) h;exact .inr (.inl ⟨x, t, rfl, e⟩)
 | .ĉ, v, h => .inr (.inr ⟨rfl, eq_of_beq h⟩)
theorem oW (i : Int) (t : Tok) : iK (.inl i) (.int i t) = true := by simp [iK, Value.isInt]
theorem oP (x : Str) (t : Tok) : iK (.inr x) (.str x t) = true := by simp [iK, Value.isStrOf]
theorem w9 (a b : Int) : decide (Key.inl a = Key.inl b) = (a == b) := by
 by_cases e : a = b
 ·subst e; simp
 ·rw [â (λ q => e (Key.inl.inj q))];exact (ī.mpr e).symm
theorem yj (a b : Str) : decide (Key.inr a = Key.inr b) = decide (a = b) := by
 by_cases e : a = b
 ·subst e; simp
 ·rw [â (λ q => e (Key.inr.inj q)), â e]
theorem wR (a : Int) (b : Str) : decide (Key.inl a = Key.inr b) = false := â (λ q => nomatch q)
theorem yg (a : Str) (b : Int) : decide (Key.inr a = Key.inl b) = false := â (λ q => nomatch q)
theorem wV (a : Int) : decide (Key.inl a = Key.ĉ) = false := â (λ q => nomatch q)
theorem wa (a : Int) : decide (Key.ĉ = Key.inl a) = false := â (λ q => nomatch q)
theorem yJ (a : Str) : decide (Key.inr a = Key.ĉ) = false := â (λ q => nomatch q)
theorem xb (a : Str) : decide (Key.ĉ = Key.inr a) = false := â (λ q => nomatch q)
def aJ (prog : Program) (w : World) : PySem.KeyKind prog w Key where
 is := iK
 hash := Ek w
 inj := λ v a b ha hb => by
  rcases aE ha with ⟨i, t, rfl, rfl⟩ | ⟨x, t, rfl, rfl⟩ | ⟨rfl, rfl⟩
  ·rcases aE hb with ⟨j, u, rfl, e⟩ | ⟨y, u, rfl, e⟩ | ⟨rfl, e⟩
   ·injection e with e1 _; rw [e1]
   ·exact nomatch e
   ·exact nomatch e
  ·rcases aE hb with ⟨j, u, rfl, e⟩ | ⟨y, u, rfl, e⟩ | ⟨rfl, e⟩
   ·exact nomatch e
   ·injection e with e1 _; rw [e1]
   ·exact nomatch e
  ·rcases aE hb with ⟨j, u, rfl, e⟩ | ⟨y, u, rfl, e⟩ | ⟨rfl, e⟩
   ·exact nomatch e
   ·exact nomatch e
   ·rfl
 byValue := λ k v h => by
  rcases aE h with ⟨i, t, rfl, rfl⟩ | ⟨x, t, rfl, rfl⟩ | ⟨rfl, rfl⟩ <;> rfl
 pyHash := λ hv h => by
  rcases aE hv with ⟨i, t, rfl, rfl⟩ | ⟨x, t, rfl, rfl⟩ | ⟨rfl, rfl⟩
  ·exact wpAny_pyHash_int h
  ·exact wpAny_pyHash_str h
  ·exact lH h
 eqBool := λ hu hv h => by
  rcases aE hu with ⟨i, t, rfl, rfl⟩ | ⟨x, t, rfl, rfl⟩ | ⟨rfl, rfl⟩
  ·rcases aE hv with ⟨j, u, rfl, rfl⟩ | ⟨y, u, rfl, rfl⟩ | ⟨rfl, rfl⟩
   ·rw [w9] at h; exact wpAny_eqBool_int h
   ·rw [wR] at h; exact SeqAt.EqAt.int_str i t y u _ _ _ _ h
   ·rw [wV] at h; exact SeqAt.EqAt.int_none i t _ _ _ _ h
  ·rcases aE hv with ⟨j, u, rfl, rfl⟩ | ⟨y, u, rfl, rfl⟩ | ⟨rfl, rfl⟩
   ·rw [yg] at h; exact SeqAt.EqAt.str_int x t j u _ _ _ _ h
   ·rw [yj] at h; exact wpAny_eqBool_str h
   ·rw [yJ] at h; exact SeqAt.EqAt.str_none x t _ _ _ _ h
  ·rcases aE hv with ⟨j, u, rfl, rfl⟩ | ⟨y, u, rfl, rfl⟩ | ⟨rfl, rfl⟩
   ·rw [wa] at h; exact SeqAt.EqAt.none_int j u _ _ _ _ h
   ·rw [xb] at h; exact SeqAt.EqAt.none_str y u _ _ _ _ h
   ·exact Š _ _ _ _ _ (by simpa using h)
 «strs» := λ k x t v h => by
  rcases aE h with ⟨i, u, rfl, e⟩ | ⟨y, u, rfl, e⟩ | ⟨rfl, e⟩
  ·exact nomatch e
  ·injection e with e1 _
   subst e1;cases v <;> rfl
  ·exact nomatch e
theorem iu (prog : Program) (w : World) (k : Key) (v : Value) : (aJ prog w).is k v = iK k v := rfl
theorem kK (prog : Program) (w : World) (i : Int) (t : Tok) : (aJ prog w).is (.inl i) (.int i t) = true := oW i t
theorem lE (prog : Program) (w : World) (x : Str) (t : Tok) : (aJ prog w).is (.inr x) (.str x t) = true := oP x t
inductive V where
 | ĉ | bl (b : Bool) | int (i : Int) | str (x : Str) | IX (b : Array UInt8) | Lh (b : UInt64) | ref (a : Addr) | ty (n : String)
 deriving DecidableEq
def RelV : V -> Value -> Prop
 | .ĉ, u => u = Value.none
 | .bl b, u => u = Value.bool b
 | .int i, u => ∃ t, u = Value.int i t
 | .str x, u => ∃ t, u = Value.str x t
 | .IX b, u => ∃ t, u = Value.bytes b t
 | .Lh b, u => ∃ t, u = Value.float b t
 | .ref a, u => u = Value.ref a
 | .ty n, u => u = Value.type n
abbrev Vals : List V -> List Value -> Prop := Paired RelV
theorem Vals.length {xs : List V} {us : List Value} (r : Vals xs us) : xs.length = us.length := Ö r
theorem Vals.get : ∀ {xs : List V} {us : List Value} {i : Nat} {x : V}, Vals xs us -> xs[i]? = some x -> ∃ u, us[i]? = some u /\ RelV x u
 | _, _, _, _, .nil, e => by simp at e
 | _, _, 0, _, .cons r _, e => by simp at e; subst e; exact ⟨_, rfl, r⟩
 | _, _, i + 1, x, .cons _ t, e => by
  obtain ⟨u, h1, h2⟩ := Vals.get (i := i) (x := x) t (by simpa using e)
  exact ⟨u, by simpa using h1, h2⟩
theorem Vals.set {x : V} {u : Value} (r : RelV x u) : ∀ {xs : List V} {us : List Value} (i : Nat), Vals xs us -> Vals (xs.set i x) (us.set i u)
 | _, _, _, .nil => .nil
 | _, _, 0, .cons _ t => .cons r t
 | _, _, i + 1, .cons q t => .cons q (Vals.set r i t)
theorem Vals.append : ∀ {xs ys : List V} {us ws : List Value}, Vals xs us -> Vals ys ws -> Vals (xs ++ ys) (us ++ ws)
 | _, _, _, _, .nil, s => s
 | _, _, _, _, .cons r t, s => .cons r (Vals.append t s)
theorem Vals.take : ∀ {xs : List V} {us : List Value} (n : Nat), Vals xs us -> Vals (xs.take n) (us.take n)
 | _, _, 0, _ => .nil
 | _, _, _ + 1, .nil => .nil
 | _, _, n + 1, .cons r t => .cons r (Vals.take n t)
theorem Vals.drop : ∀ {xs : List V} {us : List Value} (n : Nat), Vals xs us -> Vals (xs.drop n) (us.drop n)
 | _, _, 0, r => r
 | _, _, _ + 1, .nil => .nil
 | _, _, n + 1, .cons _ t => Vals.drop n t
def υ : Option V -> Option Value -> Prop
 | some v, some u => RelV v u
 | none, none => True
 | _, _ => False
def KV {κ : Type} : List (κ × V) -> List (κ × Value) -> Prop := Paired λ (p : κ × V) (q : κ × Value) => p.1 = q.1 /\ RelV p.2 q.2
def kV : Key -> V
 | .inl i => .int i
 | .inr x => .str x
 | .ĉ => .ĉ
inductive HO where
 | lst (xs : List V)
 | tup (xs : List V)
 | dK (kvs : List (Key × V)) | dT (kvs : List (List Key × V))
 | set (S : Int -> Bool) (n : Nat)
 | ins (C dx : Addr) (fs : List (Str × V))
 | own (x : Addr)
 | xd (fs : List (Str × V))
 | met (f x : Addr)
 | LY (lo hi : Int)
 | Ν (o : Obj) (u : HO)
 | Ko (ps : Array Value)
 | ext (φ : Heap -> Prop)
abbrev Hp := Addr -> Option HO
def ao (H : Hp) (a : Addr) (o : HO) : Hp := λ b => if b = a then some o else H b
theorem bh {H : Hp} {a : Addr} {o : HO} : ao H a o a = some o := by unfold ao; rw [Ô rfl]
theorem ah {H : Hp} {a b : Addr} {o : HO} (h : b ≠ a) : ao H a o b = H b := by unfold ao; rw [É h]
theorem nu {H : Hp} {a : Addr} {o u : HO} : ao (ao H a o) a u = ao H a u := by
 funext b; unfold ao; split <;> rfl
theorem vM {H : Hp} {a b : Addr} {o u : HO} (h : H a = some o) (h' : H b = some u) (d : o ≠ u) : a ≠ b := by
 intro e; subst e; rw [h] at h'; exact d (Ò h')
theorem bZ {H : Hp} {a b : Addr} {o : HO} (h : H a = some o) (h' : H b = none) : a ≠ b := by
 intro e; subst e; rw [h] at h'; cases h'
section
variable (P : Program) (w : World)
def Ĉ (H : Hp) (h : Heap) (a : Addr) : HO -> Prop
 | .lst xs => xs.length <= sizeLine /\ ∃ (its : List Value) (n : Nat), Vals xs its /\ h.get? a = some { cls := .type "list", data := .seq its.toArray n }
 | .tup xs => xs.length <= sizeLine /\ ∃ its : List Value, Vals xs its /\ IsTup h a its.toArray
 | .dK kvs => kvs.length <= sizeLine /\ (a == sysModules) = false /\ ∃ vs, KV kvs vs /\ h.DictOf (aJ P w) a vs
 | .dT kvs => kvs.length <= sizeLine /\ (a == sysModules) = false /\ ∃ xs : List (List Key × Addr × Value),
   Paired (λ (p : List Key × V) (q : List Key × Addr × Value) => p.1 = q.1 /\ H q.2.1 = some (.tup (p.1.map kV)) /\ RelV p.2 q.2.2) kvs xs /\
   ∃ o es ep, h.get? a = some o /\ o.ExactDict /\ o.data = .dict es ep /\ es.toList = xs.map (entryOfKey (tupleKind (aJ P w))) /\ (xs.map (·.1)).Nodup
 | .set S n => h.SetOf (intKind P w) a S n
 | .ins C dx fs => H dx = some (.own a) /\ fs.length <= 1000 /\ dx ≠ a /\ h.get? a = some (PySem.W.instObj C dx) /\
   ∃ mA, h.Ns1 dx mA /\ (∀ f, υ (fs.lookup f) (mA f)) /\ PySem.Within mA (fs.map (·.1))
 | .own _ => ∃ o, h.get? a = some o
 | .xd fs => ∃ mA, h.Ns1 a mA /\ ∀ f, υ (fs.lookup f) (mA f)
 | .LY lo hi => ∃ t u v, h.get? a = some { cls := .type "range", data := .fields #[.int lo t, .int hi u, .int 1 v] }
 | .Ν o u => h.get? a = some o /\ Ĉ H h a u
 | .Ko ps => h.get? a = some { cls := .none, data := .fields ps }
 | .met f x => h.get? a = some (PySem.W.methodObj (.ref f) (.ref x))
 | .ext φ => φ h /\ (∃ o, h.get? a = some o) /\ ∀ h1 h2 : Heap, φ h1 -> (∀ o, h1.get? a = some o -> h2.get? a = some o) -> φ h2
def ŷ (H : Hp) (h : Heap) : Prop := ∀ a o, H a = some o -> Ĉ P w H h a o
end
section
variable {P : Program} {w : World} {H H' : Hp} {h h' : Heap} {a : Addr} {o : HO}
theorem Ĉ.lt (x : Ĉ P w H h a o) : a < h.objs.size := by
 cases o with
 | lst xs => obtain ⟨_, _, _, _, e⟩ := x; exact È e
 | tup xs => obtain ⟨_, _, _, p⟩ := x; exact p.lt
 | dK kvs => obtain ⟨_, _, _, _, o, _, _, e, _⟩ := x; exact È e
 | dT kvs => obtain ⟨_, _, _, _, o, _, _, e, _⟩ := x; exact È e
 | set S n => obtain ⟨o, _, _, _, e, _⟩ := x; exact È e
 | ins C dx fs => obtain ⟨_, _, _, e, _⟩ := x; exact È e
 | own y => obtain ⟨_, e⟩ := x; exact È e
 | xd fs => obtain ⟨_, ⟨_, _, _, e, _⟩, _⟩ := x; exact È e
 | LY lo hi => obtain ⟨_, _, _, e⟩ := x; exact È e
 | Ν ob u => obtain ⟨e, _⟩ := x; exact È e
 | Ko ps => exact È (show h.get? a = some _ from x)
 | met f y => exact È (show h.get? a = some _ from x)
 | ext φ => obtain ⟨_, ⟨_, e⟩, _⟩ := x; exact È e
theorem Paired.Jr {α β : Type} {F G : α -> β -> Prop} : ∀ {IL : List α} {IK : List β}, Paired F IL IK -> (∀ a b, F a b -> G a b) -> Paired G IL IK
 | _, _, .nil, _ => .nil
 | _, _, .cons r t, f => .cons (f _ _ r) (Paired.Jr t f)
theorem Paired.imp' {α β : Type} {F G : α -> β -> Prop} (f : ∀ a b, F a b -> G a b) {IL : List α} {IK : List β} (r : Paired F IL IK) : Paired G IL IK := Paired.Jr r f
theorem Ĉ.w_ (x : Ĉ P w H h a o) (k : ∀ b u, (b = a \/ H b = some (.own a)) -> h.get? b = some u -> h'.get? b = some u)
  (ho : ∀ b, H b = some (.own a) -> H' b = some (.own a)) (ht : ∀ b xs, H b = some (.tup xs) -> H' b = some (.tup xs)) : Ĉ P w H' h' a o := by
 induction o with
 | lst xs => obtain ⟨z, its, n, r, e⟩ := x; exact ⟨z, its, n, r, k _ _ (.inl rfl) e⟩
 | tup xs => obtain ⟨z, its, r, ob, e, c⟩ := x; exact ⟨z, its, r, ob, k _ _ (.inl rfl) e, c⟩
 | dK kvs => obtain ⟨z, y, vs, r, ob, es, ep, e, c⟩ := x; exact ⟨z, y, vs, r, ob, es, ep, k _ _ (.inl rfl) e, c⟩
 | dT kvs =>
  obtain ⟨z, y, xs, r, ob, es, ep, e, c⟩ := x;exact ⟨z, y, xs, Paired.Jr r λ p q z => ⟨z.1, ht _ _ z.2.1, z.2.2⟩, ob, es, ep, k _ _ (.inl rfl) e, c⟩
 | set S n => obtain ⟨ob, es, ep, t, e, c⟩ := x; exact ⟨ob, es, ep, t, k _ _ (.inl rfl) e, c⟩
 | ins C dx fs =>
  obtain ⟨d, z, ne, e, mA, ⟨od, es, ep, e2, c⟩, r⟩ := x;exact ⟨ho _ d, z, ne, k _ _ (.inl rfl) e, mA, ⟨od, es, ep, k _ _ (.inr d) e2, c⟩, r⟩
 | own y => obtain ⟨ob, e⟩ := x; exact ⟨ob, k _ _ (.inl rfl) e⟩
 | xd fs => obtain ⟨mA, ⟨od, es, ep, e, c⟩, r⟩ := x; exact ⟨mA, ⟨od, es, ep, k _ _ (.inl rfl) e, c⟩, r⟩
 | LY lo hi => obtain ⟨t, u, v, e⟩ := x; exact ⟨t, u, v, k _ _ (.inl rfl) e⟩
 | Ν ob u ih => obtain ⟨e, q⟩ := x; exact ⟨k _ _ (.inl rfl) e, ih q⟩
 | Ko ps =>
  have e : h.get? a = some { cls := .none, data := .fields ps } := x;show h'.get? a = some { cls := .none, data := .fields ps };exact k a _ (.inl rfl) e
 | met f y =>
  have e : h.get? a = some (PySem.W.methodObj (.ref f) (.ref y)) := x;show h'.get? a = some (PySem.W.methodObj (.ref f) (.ref y));exact k a _ (.inl rfl) e
 | ext φ => obtain ⟨p, ⟨o, e⟩, st⟩ := x; exact ⟨st _ _ p λ o q => k _ _ (.inl rfl) q, ⟨o, k _ _ (.inl rfl) e⟩, st⟩
theorem ŷ.lt (x : ŷ P w H h) (e : H a = some o) : a < h.objs.size := (x a o e).lt
theorem ŷ.fresh (x : ŷ P w H h) (e : h.objs.size <= a) : H a = none := by
 cases q : H a with
 | none => rfl
 | some u => exact absurd (à (x.lt q) e) (ÿ _)
theorem ŷ.kept (x : ŷ P w H h) (k : ∀ b u, h.get? b = some u -> h'.get? b = some u) : ŷ P w H h' := λ a o e =>
 (x a o e).w_ (λ b u _ q => k b u q) (λ _ q => q) λ _ _ q => q
theorem ŷ.laid (x : ŷ P w H h) (k : ∀ b u, h.get? b = some u -> h'.get? b = some u) (hp : h.objs.size <= a) (new : Ĉ P w (ao H a o) h' a o) : ŷ P w (ao H a o) h' := λ b u e => by
 have hn := x.fresh hp;by_cases hb : b = a
 ·subst hb; rw [bh] at e; cases e; exact new
 ·rw [ah hb] at e;exact (x b u e).w_ (λ c v _ q => k c v q) (λ c q => by rw [ah (bZ q hn)]; exact q) λ c xs q => by rw [ah (bZ q hn)]; exact q
end
def Rd (H : Hp) (a : Addr) (u : HO) : Prop := H a = some u \/ ∃ o, H a = some (.Ν o u)
theorem Rd.ok {P : Program} {w : World} {H : Hp} {h : Heap} {a : Addr} {u : HO} (r : Rd H a u) (x : ŷ P w H h) : Ĉ P w H h a u := by
 rcases r with r | ⟨o, r⟩
 ·exact x a u r
 ·obtain ⟨_, q⟩ := x a _ r;exact q
def y8 : Option HO -> Prop
 | some (.lst _) => True
 | some (.dK _) => True
 | some (.dT _) => True
 | some (.set _ _) => True
 | some (.ins _ _ _) => True
 | some (.ext _) => True
 | _ => False
section
variable {P : Program} {w : World} {H : Hp} {h h' : Heap} {x e : Addr} {o' : HO}
theorem ŷ.write (ok : ŷ P w H h) (mu : y8 (H x)) (he : e = x \/ H e = some (.own x)) (k : ∀ b u, b ≠ e -> h.get? b = some u -> h'.get? b = some u) (Le : ∃ u, h'.get? e = some u)
  (new : Ĉ P w (ao H x o') h' x o') : ŷ P w (ao H x o') h' := λ b u q => by
 have L5 : ∀ c y, H c = some (.own y) -> c ≠ x := λ c y r z => by subst z; rw [r] at mu; exact mu
 have N0 : ∀ c xs, H c = some (.tup xs) -> c ≠ x := λ c xs r z => by subst z; rw [r] at mu; exact mu
 by_cases hb : b = x
 ·subst hb; rw [bh] at q; cases q; exact new
 ·rw [ah hb] at q;by_cases KO : b = e
  ·have q' : H b = some (.own x) := by
    rcases he with z | z
    ·exact absurd (KO.trans z) hb
    ·rw [KO]; exact z
   rw [q] at q'; cases q';obtain ⟨v, hv⟩ := Le;exact ⟨v, by rw [KO]; exact hv⟩
  ·refine (ok b u q).w_ (λ c v hc r => k c v ?_ r) (λ c r => by rw [ah (L5 c b r)]; exact r) λ c xs r => by rw [ah (N0 c xs r)]; exact r
   rcases hc with rfl | hc
   ·exact KO
   ·rintro rfl;rcases he with z | z
    ·exact L5 c b hc z
    ·rw [hc] at z; cases z; exact hb rfl
end
structure Un (fs ex : List Addr) (H H' : Hp) (h h' : Heap) : Prop where
 keep : ∀ b o, h.get? b = some o -> H b = none -> b ∉ fs -> b ∉ ex -> h'.get? b = some o
 slot : ∀ b o, h.get? b = some o -> H b = none -> b ∈ fs -> b ∉ ex -> ∃ sl, h'.get? b = some { o with slots := sl }
 free : ∀ b o, h.get? b = some o -> H b = none -> b ∉ ex -> H' b = none
 there : ∀ b o, h.get? b = some o -> b ∉ ex -> ∃ o', h'.get? b = some o'
 Gp : ∀ b xs, H b = some (.tup xs) -> H' b = some (.tup xs)
 B_ : ∀ b o u, H b = some (.Ν o u) -> H' b = some (.Ν o u)
 Gq : ∀ b ps, H b = some (.Ko ps) -> ∃ more, H' b = some (.Ko (ps ++ more))
 sys : H sysModules = none -> H' sysModules = none
section
variable {fs Vi ex O8 : List Addr} {H H1 H2 : Hp} {h h1 h2 h' : Heap} {a x e : Addr} {o : HO}
theorem Un.any (u : Un fs ex H H1 h h1) {b : Addr} {ob : Obj} (q : h.get? b = some ob) (n : H b = none) (hx : b ∉ ex) : ∃ sl, h1.get? b = some { ob with slots := sl } := by
 by_cases hb : b ∈ fs
 ·exact u.slot b ob q n hb hx
 ·exact ⟨ob.slots, u.keep b ob q n hb hx⟩
theorem Un.kept (k : ∀ b u, h.get? b = some u -> h'.get? b = some u) : Un fs ex H H h h' :=
 ⟨λ b ob q _ _ _ => k b ob q, λ b ob q _ _ _ => ⟨ob.slots, k b ob q⟩, λ _ _ _ n _ => n, λ b ob q _ => ⟨ob, k b ob q⟩, λ _ _ q => q, λ _ _ _ q => q, λ _ ps q => ⟨#[], by rw [q]; simp⟩, λ q => q⟩
theorem Un.refl : Un fs ex H H h h := Un.kept λ _ _ q => q
theorem Un.laid (k : ∀ b u, h.get? b = some u -> h'.get? b = some u) (hp : h.objs.size <= a) (hn : H a = none) (hz : sysModules < h.objs.size) : Un fs ex H (ao H a o) h h' where
 sys := λ q => by rw [ah (Ë (à hz hp))]; exact q
 keep := λ b u q _ _ _ => k b u q
 slot := λ b u q _ _ _ => ⟨u.slots, k b u q⟩
 free := λ b u q n _ => by rw [ah (Ë (à (È q) hp))]; exact n
 there := λ b u q _ => ⟨u, k b u q⟩
 Gp := λ b xs q => by rw [ah (bZ q hn)]; exact q
 B_ := λ b u xs q => by rw [ah (bZ q hn)]; exact q
 Gq := λ b ps q => ⟨#[], by rw [ah (bZ q hn), q]; simp⟩
theorem Un.write (mu : y8 (H x)) (he : e = x \/ H e = some (.own x)) (k : ∀ b u, b ≠ e -> h.get? b = some u -> h'.get? b = some u) (Le : ∃ u, h'.get? e = some u) : Un fs ex H (ao H x o) h h' := by
 have hx : ∀ b, H b = none -> b ≠ x := λ b n z => by subst z; rw [n] at mu; exact mu
 have hb : ∀ b, H b = none -> b ≠ e := λ b n z => by
  subst z;rcases he with r | r
  ·exact hx b n r
  ·rw [n] at r; cases r
 have hm : ∀ b u, H b = some u -> ¬ y8 (some u) -> b ≠ x := λ b u q nm z => by subst z; rw [q] at mu; exact nm mu
 refine ⟨λ b u q n _ _ => k b u (hb b n) q, λ b u q n _ _ => ⟨u.slots, k b u (hb b n) q⟩, λ b u q n _ => by rw [ah (hx b n)]; exact n, λ b u q _ => ?_,
  λ b xs q => by rw [ah (hm b _ q λ z => z)]; exact q, λ b u xs q => by rw [ah (hm b _ q λ z => z)]; exact q, λ b ps q => ⟨#[], by rw [ah (hm b _ q λ z => z), q]; simp⟩, λ q => by rw [ah (hx _ q)]; exact q⟩
 by_cases KO : b = e
 ·subst KO; exact Le
 ·exact ⟨u, k b u KO q⟩
end
def Cz (h : Heap) (H : Hp) : List Addr := (List.range h.objs.size).filter λ a => (H a).isSome
def jx (h : Heap) (H : Hp) : Heap := PySem.W.hideAll h (Cz h H)
theorem oN (h : Heap) (H : Hp) : (jx h H).objs.size = h.objs.size := PySem.W.hideAll_size _ _
theorem q8 {h : Heap} {H : Hp} {b : Addr} {o : Obj} (e : h.get? b = some o) (n : H b = none) : (jx h H).get? b = some o :=
 PySem.W.hideAll_get _ e λ hm => by
  have q : (H b).isSome = true := (Ď.mp hm).2;rw [n] at q; simp at q
theorem uu {h : Heap} {H : Hp} {b : Addr} {o : Obj} (e : (jx h H).get? b = some o) : h.get? b = some o /\ H b = none := by
 have e' : h.get? b = some o := PySem.W.of_hideAll (Cz h H) e;refine ⟨e', ?_⟩;cases q : H b with
 | none => rfl
 | some x =>
  have hm : b ∈ Cz h H := Ď.mpr ⟨Ģ.mpr (È e'), by simp [q]⟩
  have z : (jx h H).get? b = none := PySem.W.hideAll_none (Cz h H) hm;rw [z] at e; cases e
def uB (g h : Heap) (L : Addr) : List (Addr × Obj) := (List.range h.objs.size).filterMap λ a => if a = L \/ (g.get? a).isSome = true then none else (h.get? a).map λ o => (a, o)
def rest (g h : Heap) (L d : Addr) : List (Addr × Obj) := (uB g h L).filter λ p => decide (p.1 ≠ d)
structure Mod (K : PySem.W.Frag) (mg : bE) (base : Heap) : Prop where
 MY : K.In base
 glob : base.Ns mainGlobals mg
 blt : ∃ mb, base.Ns builtinsNs mb /\ ∀ x : Str, x ≠ "__name__" -> mb x = bootBuiltins x
 nolimit : base.NoLimit
structure Cx where
 prog : Program
 w : World
 K : PySem.W.Frag
 mg : Str -> Option Value
 base : Heap
 A : Around
 N : List Str
 ő : Shared
 IZ : Hp
 env : Env
 outer : List Env
 stack : List Env
 ex : List Addr
 fn : Str -> Bool
 calm : Bool
 pn : List (Addr × Obj)
 xe : Value -> Shared -> Prop
def i5 (l : List Env) : List Addr := l.filterMap (·.frame)
abbrev Cx.fs (X : Cx) : List Addr := i5 X.outer
def zC (sc : Scope) (x : Str) : Prop := sc.names.lookup x = some .local \/ sc.names.lookup x = some .cell \/ sc.names.lookup x = some .free
def wC (sc : Scope) (x : Str) : Prop := sc.names.lookup x = some .local \/ sc.names.lookup x = some .cell
def C0 (env : Env) (h : Heap) (m : bE) (x : Str) (u : Value) : Prop :=
 (env.kindOf x = some .local /\ m x = some u) \/ ((env.kindOf x = some .cell \/ env.kindOf x = some .free) /\ ∃ c, env.cells.lookup x = some c /\ h.IsCell c (some u))
structure Cx.Ok (X : Cx) : Prop where
 mod : Mod X.K X.mg X.base
 kind : X.env.scope.kind = .function
 glob : X.env.globals = mainGlobals
 blt : X.env.builtins = builtinsNs
 above : X.ő.heap.objs.size <= X.env.locals
 inj : ∀ x y c, X.env.cells.lookup x = some c -> X.env.cells.lookup y = some c -> x = y
 has : ∀ x, (X.env.kindOf x = some .cell \/ X.env.kindOf x = some .free) -> ∃ c, X.env.cells.lookup x = some c
 MG : ∀ x c, X.fn x = true -> X.env.cells.lookup x = some c -> X.ő.heap.objs.size <= c
 hd : X.calm = true -> X.A.handled = none
 frames : X.A.frames = some X.stack
 MQ : X.stack = X.outer \/ (X.stack = X.env :: X.outer /\ X.env.frame = some X.env.locals)
 QX : ∀ b ∈ X.ex, b ≠ X.env.locals /\ ∀ x c, X.env.cells.lookup x = some c -> c ≠ b
 bs : ∀ b o, X.base.get? b = some o -> X.ő.heap.get? b = some o /\ X.IZ b = none
 IY : X.base.objs.size <= X.ő.heap.objs.size
 Ic : ∀ b o, X.base.get? b = some o -> b ∉ X.ex
 JA : ∀ b ∈ X.ex, b ∉ X.fs
 m_ : X.ő.heap.FunFrames X.base X.outer
 KQ : ∀ b ∈ X.fs, X.IZ b = none
structure Inv (X : Cx) (pins : List (Addr × Obj)) (σ : List (Option V)) (H : Hp) (s : Shared) : Prop where
 ok : X.Ok
 os : s.os = X.ő.os
 bare : AllBare s.gens
 base : Un X.fs X.ex X.IZ H X.ő.heap s.heap
 loc : ∃ m, s.heap.Ns X.env.locals m /\ ∀ (i : Nat) (x : Str) (v : V), X.N[i]? = some x -> σ[i]? = some (some v) -> zC X.env.scope x -> ∃ u, RelV v u /\ C0 X.env s.heap m x u
 cell : ∀ x c, X.env.cells.lookup x = some c -> ∃ v, s.heap.IsCell c v
 free : H X.env.locals = none
 Θ : ∀ x c, X.env.cells.lookup x = some c -> H c = none
 pin : ∀ p ∈ X.pn ++ pins, s.heap.get? p.1 = some p.2 /\ H p.1 = none /\ p.1 ≠ X.env.locals /\ p.1 ∉ X.fs /\ ∀ v, p.2.data ≠ .cell v
 Ē : ŷ X.prog X.w H s.heap
 len : σ.length = X.N.length
section
variable {X : Cx} {pins : List (Addr × Obj)} {σ : List (Option V)} {H H' : Hp} {s : Shared} {h' : Heap}
theorem Cx.Ok.N3 (ok : X.Ok) {b : Addr} {o : Obj} (e : X.base.get? b = some o) : b ∉ X.fs := λ hb => by
 have := (ok.m_.mem hb).1;rw [e] at this; cases this
theorem Inv.bs (I : Inv X pins σ H s) : ∀ b o, X.base.get? b = some o -> s.heap.get? b = some o /\ H b = none := λ b o e =>
 ⟨I.base.keep b o (I.ok.bs b o e).1 (I.ok.bs b o e).2 (I.ok.N3 e) (I.ok.Ic b o e), I.base.free b o (I.ok.bs b o e).1 (I.ok.bs b o e).2 (I.ok.Ic b o e)⟩
theorem Inv.bk (I : Inv X pins σ H s) : ∀ b o, X.base.get? b = some o -> s.heap.get? b = some o := λ b o e => (I.bs b o e).1
theorem Inv.mod (I : Inv X pins σ H s) : Mod X.K X.mg X.base := I.ok.mod
theorem Inv.Ω (I : Inv X pins σ H s) : X.K.In s.heap := I.ok.mod.MY.keeps I.bk
theorem Inv.lt (I : Inv X pins σ H s) : X.env.locals < s.heap.objs.size := let ⟨_, hn, _⟩ := I.loc; hn.lt
theorem Inv.sz (I : Inv X pins σ H s) : X.ő.heap.objs.size <= s.heap.objs.size := Ú I.ok.above (J7 I.lt)
theorem Inv.N2 (I : Inv X pins σ H s) {a : Addr} (h : s.heap.objs.size <= a) : a ∉ X.fs := λ hb => by
 obtain ⟨_, o, ho, _⟩ := I.ok.m_.mem hb;exact absurd (à (È ho) (Ú I.sz h)) (ÿ _)
theorem Inv.K0 (I : Inv X pins σ H s) : ∀ x c, X.env.cells.lookup x = some c -> c ≠ X.env.locals := λ x c e z => by
 obtain ⟨v, o, ho, hd⟩ := I.cell x c e;obtain ⟨m, ⟨o', es, ep, Ju, QI, _⟩, _⟩ := I.loc;rw [z, Ju] at ho; cases ho; rw [QI] at hd; cases hd
theorem Inv.m_ (I : Inv X pins σ H s) : s.heap.FunFrames X.base X.outer := by
 have all : ∀ (l : List Env), (∀ b ∈ i5 l, b ∈ X.fs) -> X.ő.heap.FunFrames X.base l -> s.heap.FunFrames X.base l := by
  intro l
  induction l with
  | nil => intro _ _; trivial
  | cons env r ih =>
   intro hs hl;obtain ⟨hk, ⟨L, o, hf, hn, ho, hd⟩, hr⟩ := hl;have hL : L ∈ X.fs := hs L (by unfold i5; rw [Gm, hf]; exact Ù)
   obtain ⟨sl, e⟩ := I.base.slot L o ho (I.ok.KQ L hL) hL λ z => I.ok.JA L z hL;exact ⟨hk, ⟨L, _, hf, hn, e, hd⟩, ih (λ b hb => hs b (by unfold i5; rw [Gm, hf]; exact Î _ hb)) hr⟩
 exact all X.outer (λ _ hb => hb) I.ok.m_
theorem Inv.stack (I : Inv X pins σ H s) : s.heap.FunFrames X.base X.stack := by
 rcases I.ok.MQ with e | ⟨e, hf⟩
 ·rw [e]; exact I.m_
 ·rw [e];obtain ⟨m, hn, _⟩ := I.loc;refine .cons (by rw [I.ok.kind]; decide) hf hn ?_ I.m_
  exact Heap.get?_none_of_le (Ú I.ok.IY I.ok.above)
theorem Inv.ř (I : Inv X pins σ H s) : ∀ b ∈ i5 X.stack, b ∈ X.env.locals :: X.fs := λ b hb => by
 rcases I.ok.MQ with e | ⟨e, hf⟩
 ·rw [e] at hb; exact Î _ hb
 ·rw [e] at hb;unfold i5 at hb;rw [Gm, hf] at hb;exact hb
theorem Inv.o_ (I : Inv X pins σ H s) : ∀ b ∈ i5 X.stack, H b = none := λ b hb => by
 rcases Ï.mp (I.ř b hb) with e | hb
 ·rw [e]; exact I.free
 ·obtain ⟨_, o, ho, _⟩ := I.ok.m_.mem hb;exact I.base.free b o ho (I.ok.KQ b hb) λ z => I.ok.JA b z hb
theorem Inv.step {g' : Array GenState} {t' : Nat} {d' : Drawn} {ch : List Addr} (I : Inv X pins σ H s)
  (Jh : ∀ b ∈ ch, (b ∈ X.ex \/ X.ő.heap.objs.size <= b) /\ b ≠ X.env.locals /\ (∀ x c, X.env.cells.lookup x = some c -> c ≠ b) /\ ∀ p ∈ X.pn ++ pins, p.1 ≠ b)
  (keep : ∀ b o, b ≠ X.env.locals -> b ∉ X.fs -> b ∉ ch -> s.heap.get? b = some o -> H b = none -> h'.get? b = some o)
  (slot : ∀ b o, b ≠ X.env.locals -> b ∈ X.fs -> b ∉ ch -> s.heap.get? b = some o -> H b = none -> ∃ sl, h'.get? b = some { o with slots := sl }) (free : ∀ b o, b ∉ ch -> s.heap.get? b = some o -> H b = none -> H' b = none)
  (there : ∀ b o, b ∉ ch -> s.heap.get? b = some o -> ∃ o', h'.get? b = some o')
  (Gp : ∀ b xs, H b = some (.tup xs) -> H' b = some (.tup xs)) (B_ : ∀ b o u, H b = some (.Ν o u) -> H' b = some (.Ν o u)) (Gq : ∀ b ps, H b = some (.Ko ps) -> ∃ more, H' b = some (.Ko (ps ++ more))) (sys : H sysModules = none -> H' sysModules = none)
  (ns : ∀ m, s.heap.Ns X.env.locals m -> h'.Ns X.env.locals m) (Ē : ŷ X.prog X.w H' h') (hg : AllBare g') :
  Inv X pins σ H' { s with heap := h', gens := g', drawn := d', toks := t' } := by
 have Qo : ∀ b o, X.ő.heap.get? b = some o -> b ≠ X.env.locals := λ b o e => Ë (à (È e) I.ok.above);have MX : ∀ b o, X.ő.heap.get? b = some o -> b ∉ X.ex -> b ∉ ch := λ b o e hx hb => by
  rcases (Jh b hb).1 with z | z
  ·exact hx z
  ·exact absurd (à (È e) z) (ÿ _)
 have cellK : ∀ x c, X.env.cells.lookup x = some c -> ∀ v, s.heap.IsCell c v -> h'.IsCell c v := λ x c e v ⟨o, ho, hd⟩ => by
  have IF : c ∉ ch := λ z => (Jh c z).2.2.1 x c e rfl;by_cases hc : c ∈ X.fs
  ·obtain ⟨sl, q⟩ := slot c o (I.K0 x c e) hc IF ho (I.Θ x c e);exact ⟨_, q, hd⟩
  ·exact ⟨o, keep c o (I.K0 x c e) hc IF ho (I.Θ x c e), hd⟩
 refine ⟨I.ok, I.os, hg, ⟨λ b o e n hb hx => ?_, λ b o e n hb hx => ?_, λ b o e n hx => ?_, λ b o e hx => ?_, λ b xs e => Gp b xs (I.base.Gp b xs e), λ b o xs e => B_ b o xs (I.base.B_ b o xs e), λ b ps e => ?_, λ q => sys (I.base.sys q)⟩, ?_, λ x c e => ?_, ?_, λ x c e => ?_, λ p hp => ?_, Ē, I.len⟩
 ·exact keep b o (Qo b o e) hb (MX b o e hx) (I.base.keep b o e n hb hx) (I.base.free b o e n hx)
 ·obtain ⟨sl, e1⟩ := I.base.slot b o e n hb hx;obtain ⟨NK, e2⟩ := slot b _ (Qo b o e) hb (MX b o e hx) e1 (I.base.free b o e n hx);exact ⟨NK, e2⟩
 ·obtain ⟨o', e1⟩ := I.base.there b o e hx;exact free b o' (MX b o e hx) e1 (I.base.free b o e n hx)
 ·obtain ⟨o', e1⟩ := I.base.there b o e hx;exact there b o' (MX b o e hx) e1
 ·obtain ⟨m1, e1⟩ := I.base.Gq b ps e;obtain ⟨m2, e2⟩ := Gq b _ e1;exact ⟨m1 ++ m2, by rw [e2, Array.append_assoc]⟩
 ·obtain ⟨m, hn, hl⟩ := I.loc;refine ⟨m, ns m hn, λ i x v e1 e2 e3 => ?_⟩;obtain ⟨u, r, l⟩ := hl i x v e1 e2 e3;refine ⟨u, r, ?_⟩;rcases l with l | ⟨k, c, e, z⟩
  ·exact .inl l
  ·exact .inr ⟨k, c, e, cellK x c e _ z⟩
 ·obtain ⟨v, z⟩ := I.cell x c e;exact ⟨v, cellK x c e v z⟩
 ·obtain ⟨m, ⟨o, _, _, ho, _⟩, _⟩ := I.loc;exact free _ o (λ z => (Jh _ z).2.1 rfl) ho I.free
 ·obtain ⟨v, o, ho, hd⟩ := I.cell x c e;exact free c o (λ z => (Jh c z).2.2.1 x c e rfl) ho (I.Θ x c e)
 ·obtain ⟨e, n, ne, nf, d⟩ := I.pin p hp;have IF : p.1 ∉ ch := λ z => (Jh p.1 z).2.2.2 p hp rfl;exact ⟨keep p.1 p.2 ne nf IF e n, free p.1 p.2 IF e n, ne, nf, d⟩
theorem Inv.un {t' : Nat} (I : Inv X pins σ H s) (u : Un X.fs [] H H' s.heap h') (Ē : ŷ X.prog X.w H' h') : Inv X pins σ H' { s with heap := h', toks := t' } := by
 obtain ⟨m, ⟨o, es, ep, ho, r⟩, _⟩ := id I.loc;obtain ⟨sl, hL⟩ := u.any ho I.free (by simp)
 exact I.step (g' := s.gens) (d' := s.drawn) (ch := []) (λ _ z => nomatch z) (λ b o _ hb _ e n => u.keep b o e n hb (by simp)) (λ b o _ hb _ e n => u.slot b o e n hb (by simp)) (λ b o _ e n => u.free b o e n (by simp)) (λ b o _ e => u.there b o e (by simp)) u.Gp u.B_ u.Gq u.sys (λ m' hm => by
  obtain ⟨o', Ni, Nj, Ju, r'⟩ := hm;rw [ho] at Ju; cases Ju;exact ⟨_, Ni, Nj, hL, r'⟩) Ē I.bare
theorem Inv.call {g' : Array GenState} {t' : Nat} {d' : Drawn} {ch : List Addr} (I : Inv X pins σ H s) (u : Un (i5 X.stack) ch H H' s.heap h') (Ē : ŷ X.prog X.w H' h') (hg : AllBare g')
  (Jh : ∀ b ∈ ch, (b ∈ X.ex \/ X.ő.heap.objs.size <= b) /\ b ≠ X.env.locals /\ (∀ x c, X.env.cells.lookup x = some c -> c ≠ b) /\ ∀ p ∈ X.pn ++ pins, p.1 ≠ b) :
  Inv X pins σ H' { s with heap := h', gens := g', drawn := d', toks := t' } := by
 obtain ⟨m, ⟨o, es, ep, ho, r⟩, _⟩ := id I.loc;obtain ⟨sl, hL⟩ := u.any ho I.free λ z => (Jh _ z).2.1 rfl;exact I.step (ch := ch) Jh (λ b o hL hb hc e n => u.keep b o e n (λ z => (Ï.mp (I.ř b z)).elim hL hb) hc) (λ b o _ _ hc e n => u.any e n hc) (λ b o hc e n => u.free b o e n hc) (λ b o hc e => u.there b o e hc) u.Gp u.B_ u.Gq u.sys (λ m' hm => by
  obtain ⟨o', Ni, Nj, Ju, r'⟩ := hm;rw [ho] at Ju; cases Ju;exact ⟨_, Ni, Nj, hL, r'⟩) Ē hg
theorem Inv.turned {t' : Nat} {it : Addr} (I : Inv X pins σ H s) (k : ∀ b o, b ≠ it -> s.heap.get? b = some o -> h'.get? b = some o) (hn : H it = none) (hL : it ≠ X.env.locals)
  (h1 : it ∈ X.ex \/ X.ő.heap.objs.size <= it) (h2 : ∀ x c, X.env.cells.lookup x = some c -> c ≠ it) (h3 : ∀ p ∈ X.pn ++ pins, p.1 ≠ it) : Inv X pins σ H { s with heap := h', toks := t' } := by
 have Qk : ∀ b u, H b = some u -> b ≠ it := λ b u e z => by rw [z, hn] at e; cases e
 refine I.step (g' := s.gens) (d' := s.drawn) (ch := [it]) (λ b hb => ?_) (λ b o _ _ hc e _ => k b o (λ z => hc (by simp [z])) e) (λ b o _ _ hc e _ => ⟨o.slots, k b o (λ z => hc (by simp [z])) e⟩) (λ _ _ _ _ n => n)
  (λ b o hc e => ⟨o, k b o (λ z => hc (by simp [z])) e⟩) (λ _ _ e => e) (λ _ _ _ e => e) (λ b ps e => ⟨#[], by rw [e]; simp⟩) (λ q => q) (λ m hm => ?_) (λ b u e => ?_) I.bare
 ·have e : b = it := by simpa using hb
  subst e;exact ⟨h1, hL, h2, h3⟩
 ·obtain ⟨o, es, ep, ho, r⟩ := hm;exact ⟨o, es, ep, k _ o (Ne.symm hL) ho, r⟩
 ·refine (I.Ē b u e).w_ (λ c v hc q => k c v ?_ q) (λ _ q => q) λ _ _ q => q;rcases hc with z | z
  ·rw [z]; exact Qk b u e
  ·exact Qk c _ z
theorem Inv.tok (I : Inv X pins σ H s) (t : Nat) : Inv X pins σ H { s with toks := t } := I.un (h' := s.heap) (t' := t) Un.refl I.Ē
theorem Inv.kept {t' : Nat} (I : Inv X pins σ H s) (k : ∀ b u, s.heap.get? b = some u -> h'.get? b = some u) : Inv X pins σ H { s with heap := h', toks := t' } := I.un (Un.kept k) (I.Ē.kept k)
theorem Inv.laid {a : Addr} {o : HO} {t' : Nat} (I : Inv X pins σ H s) (k : ∀ b u, s.heap.get? b = some u -> h'.get? b = some u) (hp : s.heap.objs.size <= a) (new : Ĉ X.prog X.w (ao H a o) h' a o) :
  Inv X pins σ (ao H a o) { s with heap := h', toks := t' } := I.un (Un.laid k hp (I.Ē.fresh hp) (ň (by decide : sysModules < mainGlobals) (I.mod.glob.keeps I.bk).lt)) (I.Ē.laid k hp new)
theorem Inv.write {x e : Addr} {o : HO} {t' : Nat} (I : Inv X pins σ H s) (mu : y8 (H x)) (he : e = x \/ H e = some (.own x)) (k : ∀ b u, b ≠ e -> s.heap.get? b = some u -> h'.get? b = some u) (Le : ∃ u, h'.get? e = some u)
  (new : Ĉ X.prog X.w (ao H x o) h' x o) : Inv X pins σ (ao H x o) { s with heap := h', toks := t' } := I.un (Un.write mu he k Le) (I.Ē.write mu he k Le new)
theorem Inv.HL {JJ : List (Addr × Obj)} (I : Inv X pins σ H s) (h : ∀ p ∈ JJ, s.heap.get? p.1 = some p.2 /\ H p.1 = none /\ p.1 ≠ X.env.locals /\ p.1 ∉ X.fs /\ ∀ v, p.2.data ≠ .cell v) : Inv X JJ σ H s :=
 ⟨I.ok, I.os, I.bare, I.base, I.loc, I.cell, I.free, I.Θ, λ p hp => (ŗ.mp hp).elim (λ z => I.pin p (s_ _ z)) (h p), I.Ē, I.len⟩
theorem lP {N : List Str} (hN : N.Nodup) {i j : Nat} {x : Str} (a : N[i]? = some x) (b : N[j]? = some x) : i = j := by
 obtain ⟨h1, e1⟩ := Ø.mp a;obtain ⟨h2, e2⟩ := Ø.mp b;exact (List.getElem_inj hN).mp (e1.trans e2.symm)
theorem f9 {M : Model} {A : Around} {E : bM} {i : Nat} {x : Str} {v : V} {u : Value} {Q : Unit -> Shared -> Prop} (I : Inv X pins σ H s) (hN : X.N.Nodup) (hi : X.N[i]? = some x) (hx : wC X.env.scope x) (r : RelV v u)
  (h : ∀ s', Inv X pins (σ.set i (some v)) H s' -> (∃ a, Heap.SameBut a s.heap s'.heap /\ (a = X.env.locals \/ X.env.cells.lookup x = some a)) -> Q () s') (hf : X.fn x = true \/ X.env.scope.names.lookup x = some .local := by first | exact .inl rfl | exact .inr rfl | assumption) : wpAny M A (storeName X.env x u) Q E s := by
 obtain ⟨m, hn, hl⟩ := id I.loc;have OU : (X.env.scope.kind == .class || (X.env.scope.kind == .module && X.env.locals != X.env.globals)) = false := by rw [I.ok.kind]; rfl
 have Mv : i < σ.length := by rw [I.len]; exact (Ø.mp hi).1
 have K0 := I.K0;have tracked : ∀ {a : Addr} {h' : Heap}, (∃ o, s.heap.get? a = some o /\ H a = none) -> Heap.SameBut a s.heap h' -> ŷ X.prog X.w H h' := λ {a h'} ha hs b ob e => by
  obtain ⟨_, _, JS⟩ := ha;refine (I.Ē b ob e).w_ (λ c w' hc q => (hs.2 c ?_).trans q) (λ _ q => q) λ _ _ q => q;rintro rfl;rcases hc with rfl | hc
  ·rw [JS] at e; cases e
  ·rw [JS] at hc; cases hc
 rcases hx with hk | hk
 ·refine wpAny_storeName_local hk hn (λ h' JQ hs => ?_) OU;obtain ⟨oL, _, _, Uf, _⟩ := id hn;refine h _ ⟨I.ok, I.os, I.bare, ⟨λ b o e n hb hx => ?_, λ b o e n hb hx => ?_, I.base.free, λ b o e hx => ?_, I.base.Gp, I.base.B_, I.base.Gq, I.base.sys⟩, ⟨_, JQ, λ j y v' e1 e2 e3 => ?_⟩, λ y c e => ?_, I.free, I.Θ, λ p hp => ?_, tracked ⟨oL, Uf, I.free⟩ hs, by simpa using I.len⟩ ⟨_, hs, .inl rfl⟩
  ·exact (hs.2 b (Ë (à (È e) I.ok.above))).trans (I.base.keep b o e n hb hx)
  ·obtain ⟨sl, e1⟩ := I.base.slot b o e n hb hx;exact ⟨sl, (hs.2 b (Ë (à (È e) I.ok.above))).trans e1⟩
  ·obtain ⟨o', e1⟩ := I.base.there b o e hx;exact ⟨o', (hs.2 b (Ë (à (È e) I.ok.above))).trans e1⟩
  ·by_cases hj : j = i
   ·subst hj;rw [hi] at e1; cases e1;rw [J' Mv] at e2;cases e2;exact ⟨u, r, .inl ⟨hk, by simp⟩⟩
   ·rw [List.getElem?_set_ne (Ne.symm hj)] at e2;obtain ⟨u', r', q⟩ := hl j y v' e1 e2 e3;refine ⟨u', r', ?_⟩;rcases q with ⟨k, e⟩ | ⟨k, c, e, z⟩
    ·refine .inl ⟨k, ?_⟩;have : y ≠ x := λ e => hj (lP hN e1 (e ▸ hi));simp [this, e]
    ·exact .inr ⟨k, c, e, z.sameBut hs (K0 y c e)⟩
  ·obtain ⟨w', z⟩ := I.cell y c e;exact ⟨w', z.sameBut hs (K0 y c e)⟩
  ·obtain ⟨e, n, ne, nf, d⟩ := I.pin p hp;exact ⟨(hs.2 p.1 ne).trans e, n, ne, nf, d⟩
 ·have OR : X.fn x = true := by
   rcases hf with z | z
   ·exact z
   ·rw [z] at hk; cases hk
  obtain ⟨c, hc⟩ := I.ok.has x (.inl hk);obtain ⟨w', z⟩ := I.cell x c hc;refine wpAny_storeName_cell I.ok.kind hk hc z (λ h' Na hs => ?_);obtain ⟨oc, Qz, OI⟩ := id z;refine h { s with heap := h' } ⟨I.ok, I.os, I.bare, ⟨λ b o e n hb hx => ?_, λ b o e n hb hx => ?_, I.base.free, λ b o e hx => ?_, I.base.Gp, I.base.B_, I.base.Gq, I.base.sys⟩, ⟨m, hn.sameBut hs (Ne.symm (K0 x c hc)), λ j y v' e1 e2 e3 => ?_⟩, λ y c' e => ?_, I.free, I.Θ, λ p hp => ?_, tracked ⟨oc, Qz, I.Θ x c hc⟩ hs, by simpa using I.len⟩ ⟨c, hs, .inr hc⟩
  ·exact (hs.2 b (Ë (à (È e) (I.ok.MG x c OR hc)))).trans (I.base.keep b o e n hb hx)
  ·obtain ⟨sl, e1⟩ := I.base.slot b o e n hb hx;exact ⟨sl, (hs.2 b (Ë (à (È e) (I.ok.MG x c OR hc)))).trans e1⟩
  ·obtain ⟨o', e1⟩ := I.base.there b o e hx;exact ⟨o', (hs.2 b (Ë (à (È e) (I.ok.MG x c OR hc)))).trans e1⟩
  ·by_cases hj : j = i
   ·subst hj;rw [hi] at e1; cases e1;rw [J' Mv] at e2;cases e2;exact ⟨u, r, .inr ⟨.inl hk, c, hc, Na⟩⟩
   ·rw [List.getElem?_set_ne (Ne.symm hj)] at e2;obtain ⟨u', r', q⟩ := hl j y v' e1 e2 e3;refine ⟨u', r', ?_⟩;rcases q with q | ⟨k, c', e, z'⟩
    ·exact .inl q
    ·refine .inr ⟨k, c', e, z'.sameBut hs ?_⟩;rintro rfl;exact hj (lP hN e1 (I.ok.inj _ _ _ e hc ▸ hi))
  ·by_cases M_ : c' = c
   ·subst M_; exact ⟨_, Na⟩
   ·obtain ⟨w2, z2⟩ := I.cell y c' e;exact ⟨w2, z2.sameBut hs M_⟩
  ·obtain ⟨e, n, ne, nf, d⟩ := I.pin p hp;refine ⟨(hs.2 p.1 ?_).trans e, n, ne, nf, d⟩;intro q;rw [q, Qz] at e;have q' : oc = p.2 := Ò e;exact d w' (by rw [<- q']; exact OI)
theorem eZ {M : Model} {A : Around} {E : bM} {i : Nat} {x : Str} {v : V} {u : Value} {Q : Unit -> Shared -> Prop} (I : Inv X pins σ H s) (hN : X.N.Nodup) (hi : X.N[i]? = some x) (hx : wC X.env.scope x) (r : RelV v u)
  (h : ∀ s', Inv X pins (σ.set i (some v)) H s' -> Q () s') (hf : X.fn x = true \/ X.env.scope.names.lookup x = some .local := by first | exact .inl rfl | exact .inr rfl | assumption) : wpAny M A (storeName X.env x u) Q E s :=
 f9 I hN hi hx r (λ s' I' _ => h s' I') hf
theorem Inv.IV {s' : Shared} {ch : List Addr} (I : Inv X pins σ H s) (ho : s'.os = s.os) (u : Un (i5 X.stack) ch H H' s.heap s'.heap) (Ē : ŷ X.prog X.w H' s'.heap) (hg : AllBare s'.gens)
  (Jh : ∀ b ∈ ch, (b ∈ X.ex \/ X.ő.heap.objs.size <= b) /\ b ≠ X.env.locals /\ (∀ x c, X.env.cells.lookup x = some c -> c ≠ b) /\ ∀ p ∈ X.pn ++ pins, p.1 ≠ b) : Inv X pins σ H' s' := by
 obtain ⟨h', g', d', t', o'⟩ := s';have e : o' = s.os := ho;subst e;exact I.call (g' := g') (t' := t') (d' := d') u Ē hg Jh
end
abbrev XK := Value -> Option Addr -> Hp -> Prop
abbrev St := List (Option V)
abbrev VK := V -> Hp -> Prop
abbrev TE := St -> Hp -> VK -> Prop
abbrev TT := St -> Hp -> (Bool -> Hp -> Prop) -> Prop
abbrev TA := St -> Hp -> (List V -> Hp -> Prop) -> Prop
structure bQ where
 nx : St -> Hp -> Prop
 rt : VK
 bk : St -> Hp -> Prop := λ _ _ => False
 ct : St -> Hp -> Prop := λ _ _ => False
abbrev TS := bQ -> St -> Hp -> Prop
def EP (X : Cx) (pins : List (Addr × Obj)) (σ : St) (Q : VK) (u : Value) (s' : Shared) : Prop := ∃ v H', Inv X pins σ H' s' /\ RelV v u /\ Q v H'
def TP (X : Cx) (pins : List (Addr × Obj)) (σ : St) (Q : Bool -> Hp -> Prop) (b : Bool) (s' : Shared) : Prop := ∃ H', Inv X pins σ H' s' /\ Q b H'
def AP (X : Cx) (pins : List (Addr × Obj)) (σ : St) (Q : List V -> Hp -> Prop) (us : List Value) (s' : Shared) : Prop := ∃ vs H', Inv X pins σ H' s' /\ Vals vs us /\ Q vs H'
def SP (X : Cx) (pins : List (Addr × Obj)) (D : bQ) (f : Flow) (s' : Shared) : Prop :=
 match f with
 | .next => ∃ ĝ H', Inv X pins ĝ H' s' /\ D.nx ĝ H'
 | .brk => ∃ ĝ H', Inv X pins ĝ H' s' /\ D.bk ĝ H'
 | .cont => ∃ ĝ H', Inv X pins ĝ H' s' /\ D.ct ĝ H'
 | .ret u => ∃ v ĝ H', Inv X pins ĝ H' s' /\ RelV v u /\ D.rt v H'
def PE (X : Cx) (e : Expr) (t : TE) : Prop :=
 ∀ (pins : List (Addr × Obj)) (s : Shared) (σ : St) (H : Hp) (Q : VK), Inv X pins σ H s -> t σ H Q -> wpAny (model X.prog X.w) X.A (eval e X.env) (EP X pins σ Q) X.xe s
def PT (X : Cx) (e : Expr) (t : TT) : Prop :=
 ∀ (pins : List (Addr × Obj)) (s : Shared) (σ : St) (H : Hp) (Q : Bool -> Hp -> Prop), Inv X pins σ H s -> t σ H Q -> wpAny (model X.prog X.w) X.A (isTrue e X.env (eval e X.env)) (TP X pins σ Q) X.xe s
def PW (X : Cx) (e : Expr) (t : TT) : Prop :=
 ∀ (whole : Sem Value) (pins : List (Addr × Obj)) (s : Shared) (σ : St) (H : Hp) (Q : Bool -> Hp -> Prop), Inv X pins σ H s -> t σ H Q -> wpAny (model X.prog X.w) X.A (isTrue e X.env whole) (TP X pins σ Q) X.xe s
theorem PW.pt {X : Cx} {e : Expr} {t : TT} (h : PW X e t) : PT X e t := h _
def PA (X : Cx) (es : List Expr) (t : TA) : Prop :=
 ∀ (pos : Pos) (pins : List (Addr × Obj)) (s : Shared) (σ : St) (H : Hp) (Q : List V -> Hp -> Prop), Inv X pins σ H s -> t σ H Q -> wpAny (model X.prog X.w) X.A (spliced (backTo pos (starEach es X.env))) (AP X pins σ Q) X.xe s
def PS (X : Cx) (st : Stmt) (t : TS) : Prop :=
 ∀ (pins : List (Addr × Obj)) (s : Shared) (σ : St) (H : Hp) (D : bQ), Inv X pins σ H s -> t D σ H -> wpAny (model X.prog X.w) X.A (exec st X.env) (SP X pins D) X.xe s
def f_ (X : Cx) (st : List Stmt) (t : TS) : Prop :=
 ∀ (pins : List (Addr × Obj)) (s : Shared) (σ : St) (H : Hp) (D : bQ), Inv X pins σ H s -> t D σ H -> wpAny (model X.prog X.w) X.A (execs st X.env) (SP X pins D) X.xe s
theorem ax {α : Type} {t : Sem α} {Q Q' : α -> Shared -> Prop} {M : Model} {A : Around} {E : bM} {s : Shared} (h : wpAny M A t Q E s) (hQ : ∀ a s, Q a s -> Q' a s) : wpAny M A t Q' E s := Ü h hQ λ _ _ x => x
section
variable {X : Cx}
theorem be {a b : Expr} {ta tb : TE} (ha : PE X a ta) (hb : PE X b tb) {pins : List (Addr × Obj)} {s : Shared} {σ : St} {H : Hp} {R : V -> V -> Hp -> Prop} (I : Inv X pins σ H s) (h : ta σ H λ x H1 => tb σ H1 λ y H2 => R x y H2)
  {α : Type} {Q : α -> Shared -> Prop} {f : Value -> Value -> Sem α}
  (hf : ∀ v u s2 x y H2, Inv X pins σ H2 s2 -> RelV x v -> RelV y u -> R x y H2 -> wpAny (model X.prog X.w) X.A (f v u) Q X.xe s2) :
  wpAny (model X.prog X.w) X.A (eval a X.env) (λ v Ă => wpAny (model X.prog X.w) X.A (eval b X.env) (λ u Ř => wpAny (model X.prog X.w) X.A (f v u) Q X.xe Ř) X.xe Ă) X.xe s := by
 refine ax (ha pins s σ H _ I h) λ v s1 ⟨x, H1, I1, r1, q1⟩ => ?_;refine ax (hb pins s1 σ H1 _ I1 q1) λ u s2 ⟨y, H2, I2, r2, q2⟩ => ?_;exact hf v u s2 x y H2 I2 r1 r2 q2
def am (i : Nat) : TE := λ σ H Q => ∃ v, σ[i]? = some (some v) /\ Q v H
def tC (v : V) : TE := λ _ H Q => Q v H
theorem yc {i : Nat} {x : Str} {pos : Pos} (hN : X.N[i]? = some x) (hv : zC X.env.scope x) (hd : (x == ("__debug__" : Str)) = false := by decide) (Ih : (x == ("__classdict__" : Str)) = false := by decide) : PE X (.Name x pos) (am i) := by
 intro pins s σ H Q I h;obtain ⟨v, e, h⟩ := h;obtain ⟨m, hn, hl⟩ := I.loc;obtain ⟨u, r, l⟩ := hl i x v hN e hv;have fin : EP X pins σ Q u s := ⟨v, H, I, r, h⟩;rcases l with ⟨hk, hm⟩ | ⟨hk, c, hc, JT⟩
 ·exact wpAny_Name (wpAny_loadName_local I.ok.kind hk hn hm fin) hd
 ·rcases hk with hk | hk
  ·exact wpAny_Name (wpAny_loadName_cell I.ok.kind hk hc JT fin) hd
  ·exact wpAny_Name (wpAny_loadName_free I.ok.kind hk hc JT fin Ih) hd
theorem ay {i j pos} : PE X (.Constant (.int i) j pos) (tC (.int i)) := λ _ _ _ H _ I h => wpAny_Constant_int ⟨.int i, H, I.tok _, ⟨_, rfl⟩, h⟩
theorem oB {b j pos} : PE X (.Constant (.bool b) j pos) (tC (.bl b)) := λ _ _ _ H _ I h => Constant_bool ⟨.bl b, H, I, rfl, h⟩
theorem dz {j pos} : PE X (.Constant .none j pos) (tC .ĉ) := λ _ _ _ H _ I h => Constant_none ⟨.ĉ, H, I, rfl, h⟩
theorem pW {x j pos} : PE X (.Constant (.str x) j pos) (tC (.str x)) := λ _ _ _ H _ I h => Calls.Constant_str ⟨.str x, H, I.tok _, ⟨_, rfl⟩, h⟩
def Gl (X : Cx) (x : Str) : Prop := X.env.kindOf x = some .globalImplicit
theorem gZ {E : bM} {pins : List (Addr × Obj)} {s : Shared} {σ : St} {H : Hp} {x : Str} {u : Value} {pos : Pos} {Q : bM} (I : Inv X pins σ H s) (hg : Gl X x) (hm : X.mg x = some u) (h : Q u s)
  (hd : (x == ("__debug__" : Str)) = false := by decide) : wpAny (model X.prog X.w) X.A (eval (.Name x pos) X.env) Q E s :=
 Calls.Name_function_global I.ok.kind hg (Calls.loadGlobal_global (by rw [I.ok.glob]; exact I.mod.glob.keeps I.bk) hm h) hd
theorem gi {E : bM} {pins : List (Addr × Obj)} {s : Shared} {σ : St} {H : Hp} {x : Str} {u : Value} {pos : Pos} {Q : bM} (I : Inv X pins σ H s) (hg : Gl X x) (hm : X.mg x = none) (hv : bootBuiltins x = some u) (h : Q u s)
  (hn : x ≠ "__name__" := by decide) (hd : (x == ("__debug__" : Str)) = false := by decide) : wpAny (model X.prog X.w) X.A (eval (.Name x pos) X.env) Q E s := by
 obtain ⟨mb, h1, h2⟩ := I.mod.blt;exact Calls.Name_function_global I.ok.kind hg (Calls.loadGlobal_builtin (by rw [I.ok.glob]; exact I.mod.glob.keeps I.bk) hm (by rw [I.ok.blt]; exact h1.keeps I.bk) ((h2 x hn).trans hv) h) hd
theorem b8 {x : Str} {v : V} {u : Value} {pos : Pos} (hg : Gl X x) (hm : X.mg x = some u) (r : RelV v u) (hd : (x == ("__debug__" : Str)) = false := by decide) : PE X (.Name x pos) (tC v) :=
 λ _ _ _ H _ I h => gZ I hg hm ⟨v, H, I, r, h⟩ hd
theorem tq {x : Str} {v : V} {u : Value} {pos : Pos} (hg : Gl X x) (hm : X.mg x = none) (hv : bootBuiltins x = some u) (r : RelV v u) (hn : x ≠ "__name__" := by decide) (hd : (x == ("__debug__" : Str)) = false := by decide) : PE X (.Name x pos) (tC v) :=
 λ _ _ _ H _ I h => gi I hg hm hv ⟨v, H, I, r, h⟩ hn hd
def FO (ta tb : TE) (k : Int -> Int -> Hp -> Prop) : St -> Hp -> Prop := λ σ H => ta σ H λ x H1 => tb σ H1 λ y H2 => ∃ i j, x = .int i /\ y = .int j /\ k i j H2
variable {a b : Expr} {ta tb : TE} {pos : Pos}
def PC (X : Cx) (op : CmpOp) (a b : Expr) (t : TE) : Prop :=
 ∀ (pins : List (Addr × Obj)) (s : Shared) (σ : St) (H : Hp) (Q : VK), Inv X pins σ H s -> t σ H Q ->
  wpAny (model X.prog X.w) X.A (eval a X.env) (λ v Ă => wpAny (model X.prog X.w) X.A (eval b X.env) (λ u Ř => wpAny (model X.prog X.w) X.A (compareOp op v u) (EP X pins σ Q) X.xe Ř) X.xe Ă) X.xe s
theorem p6 (b : Expr) {op : CmpOp} (h : op ≠ .In) (h2 : op ≠ .NotIn) : behindInMarks op b = false := by
 have e1 : (op == CmpOp.In) = false := by cases op <;> first | rfl | exact absurd rfl h
 have e2 : (op == CmpOp.NotIn) = false := by cases op <;> first | rfl | exact absurd rfl h2
 cases b <;> simp [behindInMarks, e1, e2]
def z8 (p : Int -> Int -> Bool) (ta tb : TE) : TE := λ σ H Q => FO ta tb (λ i j H2 => Q (.bl (p i j)) H2) σ H
abbrev EG : TE -> TE -> TE := z8 λ i j => decide (i <= j)
abbrev E4 : TE -> TE -> TE := z8 λ i j => decide (j <= i)
def tB (t : TE) : TT := λ σ H Q => t σ H λ x H1 => ∃ c, x = .bl c /\ Q c H1
theorem wQ {op : CmpOp} {t : TE} (h : PC X op a b t) (h1 : behindInMarks op b = false := by first | exact p6 _ ag ag | rfl) : PT X (.Compare a [op] [b] pos) (tB t) := by
 intro pins s σ H Q I hw;refine wpAny_isTrue_Compare1 (ax (h pins s σ H _ I hw) λ v s1 h1 => ax h1 λ u s2 h2 => ax h2 λ c s3 ⟨x, H1, I1, r1, q1⟩ => ?_) h1;obtain ⟨d, rfl, q⟩ := q1;cases r1;exact Ġ ⟨H1, I1, q⟩
theorem aX {e : Expr} {t : TE} (h : PE X e t) (he : ∀ whole, isTrue e X.env whole = (do let v <- whole; standAt e.pos; holding [v] (truthy v)) := by intro _; rfl) : PT X e (tB t) := by
 intro pins s σ H Q I hw;refine isTrue_plain (ax (h pins s σ H _ I hw) λ v s1 ⟨x, H1, I1, r1, q1⟩ => ?_) (he _);obtain ⟨d, rfl, q⟩ := q1;cases r1;exact Ġ ⟨H1, I1, q⟩
variable {tA MP : TT} {rest : List Expr}
def qm (t u : TT) : TT := λ σ H Q => t σ H λ c H1 => if c = true then u σ H1 Q else Q false H1
def Fs (t u : TT) : TT := λ σ H Q => t σ H λ c H1 => if c = true then Q true H1 else u σ H1 Q
def zv (t : TT) : TT := λ σ H Q => t σ H λ c H1 => Q (!c) H1
theorem jE (ha : PT X a tA) : PW X (.BoolOp .And [a] pos) tA := by
 intro wh pins s σ H Q I h;refine isTrue_and (ax (ha pins s σ H Q I h) λ c s1 e => ?_);cases c with
 | true => exact isTrue_and_nil e
 | false => exact e
theorem eL (ha : PT X a tA) : PW X (.BoolOp .Or [a] pos) tA := by
 intro wh pins s σ H Q I h;refine isTrue_or (ax (ha pins s σ H Q I h) λ c s1 e => ?_);cases c with
 | false => exact isTrue_or_nil e
 | true => exact e
theorem mw (ha : PT X a tA) (hb : PW X (.BoolOp .And (b :: rest) pos) MP) : PW X (.BoolOp .And (a :: b :: rest) pos) (qm tA MP) := by
 intro wh pins s σ H Q I h;refine isTrue_and (ax (ha pins s σ H _ I h) λ c s1 ⟨H1, I1, q1⟩ => ?_);cases c with
 | true => exact hb wh pins s1 σ H1 Q I1 q1
 | false => exact ⟨H1, I1, q1⟩
theorem iI (ha : PT X a tA) (hb : PW X (.BoolOp .Or (b :: rest) pos) MP) : PW X (.BoolOp .Or (a :: b :: rest) pos) (Fs tA MP) := by
 intro wh pins s σ H Q I h;refine isTrue_or (ax (ha pins s σ H _ I h) λ c s1 ⟨H1, I1, q1⟩ => ?_);cases c with
 | true => exact ⟨H1, I1, q1⟩
 | false => exact hb wh pins s1 σ H1 Q I1 q1
theorem bF (ha : PT X a tA) : PT X (.UnaryOp .Not a pos) (zv tA) := by
 intro pins s σ H Q I h;exact isTrue_not (ha pins s σ H (λ c H1 => Q (!c) H1) I h)
def Ch (ta tb : TE) : TE := λ σ H Q => ta σ H λ x H1 => ∃ c, x = .bl c /\ if c = true then tb σ H1 Q else Q (.bl false) H1
def D0 (ta tb : TE) : TE := λ σ H Q => ta σ H λ x H1 => ∃ c, x = .bl c /\ if c = true then Q (.bl true) H1 else tb σ H1 Q
def pY (ta : TE) : TE := λ σ H Q => ta σ H λ x H1 => ∃ c, x = .bl c /\ Q (.bl (!c)) H1
theorem de {op} {t : TE} (h : PE X a t) : PE X (.BoolOp op [a] pos) t := λ pins s σ H Q I hw => BoolOp_one (h pins s σ H Q I hw)
theorem cj (ha : PE X a ta) (hb : PE X (.BoolOp .And (b :: rest) pos) tb) : PE X (.BoolOp .And (a :: b :: rest) pos) (Ch ta tb) := by
 intro pins s σ H Q I h;refine BoolOp_and (ax (ha pins s σ H _ I h) λ v s1 ⟨x, H1, I1, r1, q1⟩ => ?_);obtain ⟨c, rfl, q1⟩ := q1;cases r1;refine Ġ ?_;cases c with
 | true => exact hb pins s1 σ H1 Q I1 q1
 | false => exact ⟨.bl false, H1, I1, rfl, q1⟩
theorem zr (ha : PE X a ta) (hb : PE X (.BoolOp .Or (b :: rest) pos) tb) : PE X (.BoolOp .Or (a :: b :: rest) pos) (D0 ta tb) := by
 intro pins s σ H Q I h;refine BoolOp_or (ax (ha pins s σ H _ I h) λ v s1 ⟨x, H1, I1, r1, q1⟩ => ?_);obtain ⟨c, rfl, q1⟩ := q1;cases r1;refine Ġ ?_;cases c with
 | false => exact hb pins s1 σ H1 Q I1 q1
 | true => exact ⟨.bl true, H1, I1, rfl, q1⟩
theorem jC (ha : PE X a ta) : PE X (.UnaryOp .Not a pos) (pY ta) := by
 intro pins s σ H Q I h;refine UnaryOp_ (ax (ha pins s σ H _ I h) λ v s1 ⟨x, H1, I1, r1, q1⟩ => ?_);obtain ⟨c, rfl, q1⟩ := q1;cases r1;exact not_of (Ġ ⟨.bl (!c), H1, I1, rfl, q1⟩)
def EA (t : TT) (ta tb : TE) : TE := λ σ H Q => t σ H λ c H1 => if c = true then ta σ H1 Q else tb σ H1 Q
theorem lz {c : Expr} (hc : PT X c tA) (ha : PE X a ta) (hb : PE X b tb) : PE X (.IfExp c a b pos) (EA tA ta tb) := by
 intro pins s σ H Q I h;refine wpAny_IfExp (ax (hc pins s σ H _ I h) λ d s1 ⟨H1, I1, q1⟩ => ?_);cases d with
 | true => exact ha pins s1 σ H1 Q I1 q1
 | false => exact hb pins s1 σ H1 Q I1 q1
end
def ñ (K : PySem.W.Frag) (H : Hp) (a : Addr) (xs : List V) : Prop :=
 Rd H a (.lst xs) \/
  ∃ (o : Obj) (its : Array Value) (n : Nat), K.lookup a = some o /\ o.cls = .type "list" /\ o.dict = none /\ o.data = .seq its n /\ its.size <= sizeLine /\ Vals xs its.toList
def ą (K : PySem.W.Frag) (H : Hp) (a : Addr) (xs : List V) : Prop :=
 Rd H a (.tup xs) \/
  ∃ (o : Obj) (its : Array Value) (n : Nat), K.lookup a = some o /\ o.cls = .type "tuple" /\ o.data = .seq its n /\ its.size <= sizeLine /\ Vals xs its.toList
def Eo : Value -> Option V
 | .none => some .ĉ
 | .bool b => some (.bl b)
 | .int i _ => some (.int i)
 | .str x _ => some (.str x)
 | .bytes b _ => some (.IX b)
 | .float b _ => some (.Lh b)
 | .ref a => some (.ref a)
 | .type n => some (.ty n)
 | _ => none
theorem RelV.abs {x : V} {u : Value} (r : RelV x u) : Eo u = some x := by
 cases x with
 | ĉ => cases r; rfl
 | bl _ => cases r; rfl
 | int _ => obtain ⟨t, rfl⟩ := r; rfl
 | str _ => obtain ⟨t, rfl⟩ := r; rfl
 | IX _ => obtain ⟨t, rfl⟩ := r; rfl
 | Lh _ => obtain ⟨t, rfl⟩ := r; rfl
 | ref _ => cases r; rfl
 | ty _ => cases r; rfl
theorem RelV.inj {x y : V} {u : Value} (r : RelV x u) (q : RelV y u) : x = y := Ò (r.abs.symm.trans q.abs)
theorem Vals.inj : ∀ {xs ys : List V} {us : List Value}, Vals xs us -> Vals ys us -> xs = ys
 | _, _, _, .nil, .nil => rfl
 | _, _, _, .cons r t, .cons r' t' => by rw [r.inj r', Vals.inj t t']
section
variable {X : Cx} {pins : List (Addr × Obj)} {σ : St} {H : Hp} {s : Shared} {a : Addr} {xs ys : List V}
theorem ñ.of {K : PySem.W.Frag} (h : H a = some (.lst xs)) : ñ K H a xs := .inl (.inl h)
theorem ą.of {K : PySem.W.Frag} (h : H a = some (.tup xs)) : ą K H a xs := .inl (.inl h)
theorem Inv.list (I : Inv X pins σ H s) (h : ñ X.K H a xs) : ∃ its : List Value, Vals xs its /\ PlainL s.heap a its.toArray /\ xs.length <= sizeLine := by
 rcases h with h | ⟨o, its, n, hk, hc, hd, hs, hz, r⟩
 ·obtain ⟨z, its, n, r, e⟩ := h.ok I.Ē;exact ⟨its, r, ⟨_, n, e, rfl, rfl, rfl⟩, z⟩
 ·refine ⟨its.toList, r, ⟨o, n, I.Ω a o hk, hc, hd, by simpa using hs⟩, ?_⟩
  have e := r.length;simp only [Array.length_toList] at e;omega
theorem Inv.tuple (I : Inv X pins σ H s) (h : ą X.K H a xs) : ∃ its : List Value, Vals xs its /\ IsTup s.heap a its.toArray /\ xs.length <= sizeLine := by
 rcases h with h | ⟨o, its, n, hk, hc, hs, hz, r⟩
 ·obtain ⟨z, its, r, p⟩ := h.ok I.Ē;exact ⟨its, r, p, z⟩
 ·refine ⟨its.toList, r, ⟨o, I.Ω a o hk, hc, n, by simpa using hs⟩, ?_⟩
  have e := r.length;simp only [Array.length_toList] at e;omega
theorem Inv.y_ (I : Inv X pins σ H s) (h : ñ X.K H a xs) (h' : ñ X.K H a ys) : xs = ys := by
 obtain ⟨its, r, ⟨o, n, e, _, _, d⟩, _⟩ := I.list h;obtain ⟨its', r', ⟨o', n', e', _, _, d'⟩, _⟩ := I.list h';rw [e] at e'; cases e';rw [d] at d';injection d' with d1 _
 have : its = its' := by simpa using congrArg Array.toList d1
 subst this;exact r.inj r'
theorem Inv.Ŝ (I : Inv X pins σ H s) (h : ą X.K H a xs) (h' : ą X.K H a ys) : xs = ys := by
 obtain ⟨its, r, ⟨o, e, _, n, d⟩, _⟩ := I.tuple h;obtain ⟨its', r', ⟨o', e', _, n', d'⟩, _⟩ := I.tuple h';rw [e] at e'; cases e';rw [d] at d';injection d' with d1 _
 have : its = its' := by simpa using congrArg Array.toList d1
 subst this;exact r.inj r'
end
abbrev Cx.Go (X : Cx) (E : bM) : Cx := { X with xe := E }
abbrev Cx.ť (X : Cx) : Cx := X.Go λ _ _ => False
theorem Cx.Ok.Go {X : Cx} (ok : X.Ok) (E : bM) : (X.Go E).Ok :=
 ⟨ok.mod, ok.kind, ok.glob, ok.blt, ok.above, ok.inj, ok.has, ok.MG, ok.hd, ok.frames, ok.MQ, ok.QX, ok.bs, ok.IY, ok.Ic, ok.JA, ok.m_, ok.KQ⟩
theorem Cx.Ok.Β {X : Cx} {E : bM} (ok : (X.Go E).Ok) : X.Ok :=
 ⟨ok.mod, ok.kind, ok.glob, ok.blt, ok.above, ok.inj, ok.has, ok.MG, ok.hd, ok.frames, ok.MQ, ok.QX, ok.bs, ok.IY, ok.Ic, ok.JA, ok.m_, ok.KQ⟩
section
variable {X : Cx} {pins : List (Addr × Obj)} {σ : St} {H : Hp} {s : Shared} {E : bM}
theorem Inv.Go (I : Inv X pins σ H s) (E : bM) : Inv (X.Go E) pins σ H s := ⟨I.ok.Go E, I.os, I.bare, I.base, I.loc, I.cell, I.free, I.Θ, I.pin, I.Ē, I.len⟩
theorem Inv.Β (I : Inv (X.Go E) pins σ H s) : Inv X pins σ H s := ⟨I.ok.Β, I.os, I.bare, I.base, I.loc, I.cell, I.free, I.Θ, I.pin, I.Ē, I.len⟩
theorem SP.Β {D : bQ} {f : Flow} {s' : Shared} (h : SP (X.Go E) pins D f s') : SP X pins D f s' := by
 cases f with
 | next => obtain ⟨ĝ, H', I, q⟩ := h; exact ⟨ĝ, H', I.Β, q⟩
 | brk => obtain ⟨ĝ, H', I, q⟩ := h; exact ⟨ĝ, H', I.Β, q⟩
 | cont => obtain ⟨ĝ, H', I, q⟩ := h; exact ⟨ĝ, H', I.Β, q⟩
 | ret u => obtain ⟨v, ĝ, H', I, r, q⟩ := h; exact ⟨v, ĝ, H', I.Β, r, q⟩
theorem f_.ť {st : List Stmt} {t : TS} (h : f_ X.ť st t) : f_ X st t := λ pins s σ H D I hw =>
 Ü (h pins s σ H D (I.Go _) hw) (λ _ _ q => q.Β) λ _ _ z => False.elim z
end
section
variable {X : Cx} {st : Stmt} {rest : List Stmt} {t u : TS} {e : Expr} {te : TE} {pos : Pos}
def gE : TS := λ D σ H => D.nx σ H
def bB (t u : TS) : TS := λ D σ H => t { D with nx := u D } σ H
theorem gN : f_ X [] gE := λ _ _ σ H _ I h => Gy ⟨σ, H, I, h⟩
theorem b6 (h1 : PS X st t) (h2 : f_ X rest u) : f_ X (st :: rest) (bB t u) := by
 intro pins s σ H D I h;refine wpAny_execs_cons (ax (h1 pins s σ H { D with nx := u D } I h) λ f s1 q => ?_)
 cases f with
 | next =>
  obtain ⟨ĝ, H', I', q⟩ := q;exact h2 pins s1 ĝ H' D I' q
 | ret v => exact q
 | brk => exact q
 | cont => exact q
theorem bz (h1 : PS X st t) : f_ X [st] t := by
 intro pins s σ H D I h;refine wpAny_execs_cons (ax (h1 pins s σ H D I h) λ f s1 q => ?_);cases f with
 | next => exact Gy q
 | ret v => exact q
 | brk => exact q
 | cont => exact q
theorem Inv.quiet {pins : List (Addr × Obj)} {σ : St} {H : Hp} {s : Shared} (I : Inv X pins σ H s) : interactive X.env = false := by simp [interactive, I.ok.kind]
def eB (te : TE) : TS := λ D σ H => te σ H λ _ H1 => D.nx σ H1
theorem bu (he : PE X e te) (hs : swapsWith e none pos.line X.env = pure false := by rfl) : PS X (.Expr e pos) (eB te) := by
 intro pins s σ H D I h;exact wpAny_Expr_any (ax (he pins s σ H _ I h) λ v s1 ⟨x, H1, I1, r1, q1⟩ => ⟨σ, H1, I1, q1⟩) I.quiet hs
def bY (te : TE) : TS := λ D σ H => te σ H D.rt
theorem cp (he : PE X e te) : PS X (.Return (some e) pos) (bY te) := by
 intro pins s σ H D I h;exact wpAny_Return_some (ax (he pins s σ H _ I h) λ v s1 ⟨x, H1, I1, r1, q1⟩ => ⟨x, σ, H1, I1, r1, q1⟩)
def kn (c : TT) (t u : TS) : TS := λ D σ H => c σ H λ b H1 => if b = true then t D σ H1 else u D σ H1
theorem bA {c : Expr} {a b : List Stmt} {tc : TT} (hc : PT X c tc) (ha : f_ X a t) (hb : f_ X b u) : PS X (.If c a b pos) (kn tc t u) := by
 intro pins s σ H D I h;refine wpAny_If (ax (hc pins s σ H _ I h) λ d s1 ⟨H1, I1, q1⟩ => ?_);cases d with
 | true => exact ha pins s1 σ H1 D I1 q1
 | false => exact hb pins s1 σ H1 D I1 q1
def yS : TS := λ _ _ _ => False
theorem bV : PS X st yS := λ _ _ _ _ _ _ h => h.elim
end
abbrev TG := V -> St -> Hp -> (St -> Hp -> Prop) -> Prop
abbrev t9 := List V -> St -> Hp -> (St -> Hp -> Prop) -> Prop
def PG (X : Cx) (target : Expr) (t : TG) : Prop :=
 ∀ (pins : List (Addr × Obj)) (s : Shared) (σ : St) (H : Hp) (v : V) (u : Value) (Q : St -> Hp -> Prop), Inv X pins σ H s -> RelV v u -> t v σ H Q ->
  wpAny (model X.prog X.w) X.A (assign target X.env u) (λ _ s' => ∃ ĝ H', Inv X pins ĝ H' s' /\ Q ĝ H') X.xe s
def zV (X : Cx) (ts : List Expr) (t : t9) : Prop :=
 ∀ (pins : List (Addr × Obj)) (s : Shared) (σ : St) (H : Hp) (vs : List V) (us : List Value) (Q : St -> Hp -> Prop), Inv X pins σ H s -> Vals vs us -> t vs σ H Q ->
  wpAny (model X.prog X.w) X.A (assignInOrder ((assignEach ts X.env).map (·.2)) us) (λ _ s' => ∃ ĝ H', Inv X pins ĝ H' s' /\ Q ĝ H') X.xe s
abbrev qu := V -> V -> V -> Hp -> (Hp -> Prop) -> Prop
def wc (X : Cx) (t : qu) : Prop :=
 ∀ (pins : List (Addr × Obj)) (s : Shared) (σ : St) (H : Hp) (o i v : V) (ov iv u : Value) (Q : Hp -> Prop), Inv X pins σ H s -> RelV o ov -> RelV i iv -> RelV v u -> t o i v H Q ->
  wpAny (model X.prog X.w) X.A (setItem ov iv u) (λ _ s' => ∃ H', Inv X pins σ H' s' /\ Q H') X.xe s
abbrev CN := V -> V -> Hp -> VK -> Prop
def Fc (X : Cx) (op : Operator) (t : CN) : Prop :=
 ∀ (pins : List (Addr × Obj)) (s : Shared) (σ : St) (H : Hp) (x y : V) (v u : Value) (Q : VK), Inv X pins σ H s -> RelV x v -> RelV y u -> t x y H Q ->
  wpAny (model X.prog X.w) X.A (inplaceOp op v u) (EP X pins σ Q) X.xe s
section
variable {X : Cx} {pos : Pos}
def aP (i : Nat) : TG := λ v σ H Q => Q (σ.set i (some v)) H
theorem bf {i : Nat} {x : Str} (hN : X.N.Nodup) (hi : X.N[i]? = some x) (hx : wC X.env.scope x) (hf : X.fn x = true \/ X.env.scope.names.lookup x = some .local := by first | exact .inl rfl | exact .inr rfl | assumption) : PG X (.Name x pos) (aP i) := by
 intro pins s σ H v u Q I r h;exact Ir (eZ I hN hi hx r (λ s' I' => ⟨_, H, I', h⟩) hf)
def ke : t9 := λ vs σ H Q => vs = [] /\ Q σ H
def bq (t : TG) (u : t9) : t9 := λ vs σ H Q => ∃ v r, vs = v :: r /\ t v σ H λ ĝ H' => u r ĝ H' Q
theorem aC : zV X [] ke := by
 intro pins s σ H vs us Q I r h;obtain ⟨e, h⟩ := h;subst e;cases r;exact assignInOrder_nil ⟨σ, H, I, h⟩
theorem bT {e : Expr} {es : List Expr} {t : TG} {u : t9} (h1 : PG X e t) (h2 : zV X es u)
  (hs : (assignEach (e :: es) X.env).map (·.2) = assign e X.env :: (assignEach es X.env).map (·.2) := by rfl) : zV X (e :: es) (bq t u) := by
 intro pins s σ H vs us Q I r h;obtain ⟨v, vr, e1, h⟩ := h;subst e1;cases r with
 | cons r rr =>
  rw [hs];refine assignInOrder_cons (ax (h1 pins s σ H _ _ _ I r h) λ _ s1 ⟨K7, H1, I1, q1⟩ => ?_);exact h2 pins s1 K7 H1 _ _ Q I1 rr q1
def tW (K : PySem.W.Frag) (n : Nat) (t : t9) : TG := λ v σ H Q => ∃ a xs, v = .ref a /\ ą K H a xs /\ xs.length = n /\ t xs σ H Q
theorem bd {es : List Expr} {k : Nat} {t : t9} {n : Nat} (hc : X.calm = true) (h : zV X es t)
  (hn : (assignEach es X.env).length = n := by rfl) (He : (assignEach es X.env).findIdx? (·.1) = none := by rfl) : PG X (.Tuple es k pos) (tW X.K n t) := by
 intro pins s σ H v u Q I r hw;obtain ⟨a, xs, e1, hq, hl, hw⟩ := hw;subst e1;cases r;obtain ⟨its, rv, ht, hz⟩ := I.tuple hq;refine assign_Tuple_tuple (I.ok.hd hc) ht (by simp [hn, <- hl, rv.length]) He λ h' hx => ?_
 have I1 : Inv X pins σ H { s with heap := h' } := I.kept (t' := s.toks) λ b o e => hx b o (Ë (È e)) e
 exact h pins _ σ H xs _ Q I1 (by simpa using rv) hw
def En (to ti : TE) (t : qu) : TG := λ v σ H Q => to σ H λ o H1 => ti σ H1 λ i H2 => t o i v H2 λ H3 => Q σ H3
theorem qF {o i : Expr} {to ti : TE} {t : qu} (ho : PE X o to) (hi : PE X i ti) (hs : wc X t)
  (ha : ∀ v, assign (.Subscript o i pos) X.env v = (do
   let ov <- holding [v] (eval o X.env)
   let iv <- holding [v, ov] (eval i X.env)
   standAt pos
   holding [v, ov, iv] (setItem ov iv v)
   release [v, ov, iv] []) := by intro _; rfl) : PG X (.Subscript o i pos) (En to ti t) := by
 intro pins s σ H v u Q I r h;rw [ha];refine À (ï (ax (ho pins s σ H _ I h) λ ov s1 ⟨x, H1, I1, r1, q1⟩ => ?_));refine À (ï (ax (hi pins s1 σ H1 _ I1 q1) λ iv s2 ⟨y, H2, I2, r2, q2⟩ => ?_));refine À (ü (À (ï (ax (hs pins s2 σ H2 x y v ov iv u _ I2 r1 r2 r q2) λ _ s3 ⟨H3, I3, q3⟩ => ?_))));exact wpAny_release ⟨σ, H3, I3, q3⟩
def aT (te : TE) (g : TG) : TS := λ D σ H => te σ H λ x H1 => g x σ H1 D.nx
theorem cM {tg e : Expr} {te : TE} {g : TG} (he : PE X e te) (hg : PG X tg g) (hs : swapsWithSole [tg] e pos.line X.env = pure false := by rfl) (hw : swappedStores [tg] e X.env = pure none := by rfl)
  (h1 : (assignEach [tg] X.env).map (·.2) = [assign tg X.env] := by rfl) : PS X (.Assign [tg] e pos) (aT te g) := by
 intro pins s σ H D I h;refine wpAny_Assign_stores (ax (he pins s σ H _ I h) λ v s1 ⟨x, H1, I1, r1, q1⟩ => ?_) hs hw;rw [h1];exact ax (hg pins s1 σ H1 x v _ I1 r1 q1) λ _ s2 q => q
theorem cD {i : Nat} {x : Str} {e : Expr} {te : TE} {pos' : Pos} (hN : X.N.Nodup) (hi : X.N[i]? = some x) (hx : wC X.env.scope x) (he : PE X e te) (hs : swapsWith e (some (.Name x pos')) pos.line X.env = pure false := by rfl) (hf : X.fn x = true \/ X.env.scope.names.lookup x = some .local := by first | exact .inl rfl | exact .inr rfl | assumption) :
  PS X (.Assign [.Name x pos'] e pos) (aT te (aP i)) := by
 intro pins s σ H D I h;refine wpAny_Assign_Name (ax (he pins s σ H _ I h) λ v s1 ⟨y, H1, I1, r1, q1⟩ => ?_) hs;exact eZ I1 hN hi hx r1 (λ s2 I2 => ⟨_, H1, I2, q1⟩) hf
def C3 (i j : Nat) (ta : TA) : TS := λ D σ H => ta σ H λ vs H1 => ∃ v w, vs = [v, w] /\ D.nx ((σ.set i (some v)).set j (some w)) H1
theorem wG {i j : Nat} {x y : Str} {a b : Expr} {ta : TA} {px py pt : Pos} {kt k2 NQ} (hc : X.calm = true) (hN : X.N.Nodup) (hi : X.N[i]? = some x) (hj : X.N[j]? = some y) (Uq : i ≠ j)
  (hx : X.env.scope.names.lookup x = some .local) (hy : X.env.scope.names.lookup y = some .local) (ha : PA X [a, b] ta)
  (hw : swappedStores [.Tuple [.Name x px, .Name y py] kt pt] (.Tuple [a, b] k2 NQ) X.env = pure (some [x, y]))
  (hs : swapsWithSole [.Tuple [.Name x px, .Name y py] kt pt] (.Tuple [a, b] k2 NQ) pos.line X.env = pure false := by rfl) :
  PS X (.Assign [.Tuple [.Name x px, .Name y py] kt pt] (.Tuple [a, b] k2 NQ) pos) (C3 i j ta) := by
 intro pins s σ H D I h;rw [exec_Assign_arm];refine À (ü ?_);rw [hs];refine À (Â ?_);rw [É ag];refine À (Tuple_ (ax (ha _ pins s σ H _ I h) λ us s1 ⟨vs, H1, I1, r1, q1⟩ => ?_));obtain ⟨v, w, e1, q1⟩ := q1;subst e1;obtain ⟨u1, u2, rfl, rv, GC⟩ : ∃ u1 u2, us = [u1, u2] /\ RelV v u1 /\ RelV w u2 := by
  cases r1 with
  | cons p q =>
   cases q with
   | cons p' q' =>
    cases q';exact ⟨_, _, rfl, p, p'⟩
 refine Ý ?_ fk;have I2 : Inv X pins σ H1 { s1 with heap := s1.heap.push { cls := .type "tuple", data := .seq [u1, u2].toArray } } := I1.kept (t' := s1.toks) λ b o e => Á _ e
 rw [hw];refine À (Â ?_);show wpAny (model X.prog X.w) X.A (do rule "assign.swapped-stores"; let items <- unpackItems (.ref s1.heap.objs.size) 2 none; assignInOrder [λ v => bindName X.env y v, λ v => bindName X.env x v] items.reverse; pure Flow.next) _ _ _
 refine À (F8 (À (unpackItems_tuple (items := #[u1, u2]) (I.ok.hd hc) (IsTup.new s1.heap _) λ h' Jf => ?_)));have I3 := I2.kept (h' := h') (t' := s1.toks) λ b o e => Jf b o (Ë (È e)) e;show wpAny _ _ (assignInOrder [λ v => bindName X.env y v, λ v => bindName X.env x v] [u2, u1] >>= λ _ => pure Flow.next) _ _ _;refine À (assignInOrder_cons (wpAny_bindName (eZ I3 hN hj (.inl hy) GC (λ s2 I4 => ?_) (.inr hy))));refine assignInOrder_cons (wpAny_bindName (eZ I4 hN hi (.inl hx) rv (λ s3 I5 => assignInOrder_nil (Â ?_)) (.inr hx)));rw [List.set_comm _ _ (Ne.symm Uq)] at I5;exact ⟨_, H1, I5, q1⟩
def vH (to ti te : TE) (Jo : V -> V -> Hp -> VK -> Prop) (MO : CN) (Jn : qu) : TS := λ D σ H => to σ H λ o H1 => ti σ H1 λ i H2 => Jo o i H2 λ x H3 => te σ H3 λ y H4 => MO x y H4 λ z H5 => Jn o i z H5 λ H6 => D.nx σ H6
def Cf (X : Cx) (t : V -> V -> Hp -> VK -> Prop) : Prop :=
 ∀ (pins : List (Addr × Obj)) (s : Shared) (σ : St) (H : Hp) (o i : V) (ov iv : Value) (Q : VK), Inv X pins σ H s -> RelV o ov -> RelV i iv -> t o i H Q ->
  wpAny (model X.prog X.w) X.A (getItem ov iv) (EP X pins σ Q) X.xe s
theorem hZ {o i e : Expr} {to ti te : TE} {Jo : V -> V -> Hp -> VK -> Prop} {MO : CN} {Jn : qu} {op : Operator} {Lu : Pos} (ho : PE X o to) (hi : PE X i ti) (hg : Cf X Jo) (he : PE X e te) (hp : Fc X op MO) (hs : wc X Jn)
  (ha : ∀ ov iv new, augStore i ov iv new = (do holding [new, ov, iv] (setItem ov iv new); release [new, ov, iv] []; pure .next) := by intros; rfl) : PS X (.AugAssign (.Subscript o i Lu) op e pos) (vH to ti te Jo MO Jn) := by
 intro pins s σ H D I h;refine wpAny_AugAssign_SubscriptAny (ax (ho pins s σ H _ I h) λ ov s1 ⟨x1, H1, I1, r1, q1⟩ => ?_) ha;refine ax (hi pins s1 σ H1 _ I1 q1) λ iv s2 ⟨x2, H2, I2, r2, q2⟩ => ?_;refine ax (hg pins s2 σ H2 x1 x2 ov iv _ I2 r1 r2 q2) λ old s3 ⟨x3, H3, I3, r3, q3⟩ => ?_;refine ax (he pins s3 σ H3 _ I3 q3) λ v s4 ⟨x4, H4, I4, r4, q4⟩ => ?_;refine ax (hp pins s4 σ H4 x3 x4 old v _ I4 r3 r4 q4) λ new s5 ⟨x5, H5, I5, r5, q5⟩ => ?_;exact ax (hs pins s5 σ H5 x1 x2 x5 ov iv new _ I5 r1 r2 r5 q5) λ _ s6 ⟨H6, I6, q6⟩ => ⟨σ, H6, I6, q6⟩
def DV (f : Int -> Int -> Int) : CN := λ x y H Q => ∃ i j, x = .int i /\ y = .int j /\ Q (.int (f i j)) H
theorem jB : Fc X .Add (DV λ i j => i + j) := by
 intro pins s σ H x y v u Q I r1 r2 h;obtain ⟨i, j, e1, e2, q⟩ := h;subst e1; subst e2;obtain ⟨t, rfl⟩ := r1;obtain ⟨t', rfl⟩ := r2;exact iadd_int ⟨.int _, H, I.tok _, ⟨_, rfl⟩, q⟩
end
section
variable {X : Cx} {pos : Pos}
def rP (c : TT) (tb : TS) : TS := λ D σ H => ∃ W : Nat -> St -> Hp -> Prop, (∃ m, W m σ H) /\ ∀ m σ H, W m σ H ->
 c σ H λ b H1 => if b = true then ∃ N : St -> Hp -> Prop, (∀ ĝ H', N ĝ H' -> ∃ m', m' < m /\ W m' ĝ H') /\ tb { D with nx := N, ct := N, bk := D.nx } σ H1 else D.nx σ H1
theorem qd {c : Expr} {body : List Stmt} {tc : TT} {tb : TS} (hp : PassesOwn (model X.prog X.w) X.A X.env X.xe) (hc : PT X c tc) (hb : f_ X body tb) : PS X (.While c body [] pos) (rP tc tb) := by
 intro pins s σ H D I h;obtain ⟨W, ⟨m0, w0⟩, turn⟩ := h;refine wpAny_While (codeAny_whileLoop (λ n s' => ∃ ĝ H', Inv X pins ĝ H' s' /\ W n ĝ H') ?_ m0 ⟨σ, H, I, w0⟩);rintro n s1 ⟨K7, H1, I1, w1⟩;refine Ł hp (ax (hc pins s1 K7 H1 _ I1 (turn n K7 H1 w1)) λ b s2 ⟨H2, I2, q2⟩ => ?_);cases b with
 | true =>
  obtain ⟨N, hN, q2⟩ := q2;rw [Ô rfl];refine Ł hp (ax (hb pins s2 K7 H2 _ I2 q2) λ f s3 q3 => ?_);cases f with
  | next =>
   obtain ⟨Τ, H3, I3, n3⟩ := q3;obtain ⟨m', hm, w3⟩ := hN Τ H3 n3;exact ⟨m', hm, Τ, H3, I3, w3⟩
  | cont =>
   obtain ⟨Τ, H3, I3, n3⟩ := q3;obtain ⟨m', hm, w3⟩ := hN Τ H3 n3;exact ⟨m', hm, Τ, H3, I3, w3⟩
  | brk => exact q3
  | ret v => exact q3
 | false =>
  rw [É Ð];exact Gy ⟨K7, H2, I2, q2⟩
end
structure It where
 go : Nat -> Hp -> Prop
 Ψ : Nat -> Hp -> V -> Hp -> Prop
 stop : Nat -> Hp -> Prop
def bK (X : Cx) (pins : List (Addr × Obj)) (H : Hp) (b : Addr) : Prop :=
 H b = none /\ b ≠ X.env.locals /\ b ∉ X.fs /\ (b ∈ X.ex \/ X.ő.heap.objs.size <= b) /\ (∀ x c, X.env.cells.lookup x = some c -> c ≠ b) /\ ∀ p ∈ X.pn ++ pins, p.1 ≠ b
theorem Inv.HB {X : Cx} {pins : List (Addr × Obj)} {σ : St} {H H' : Hp} {s : Shared} {b : Addr} (I : Inv X pins σ H s) (hb : s.heap.objs.size <= b) (hn : H' b = none) : bK X pins H' b := by
 refine ⟨hn, Ź (à I.lt hb), I.N2 hb, .inr (Ú I.sz hb), λ x c e z => ?_, λ p hp z => ?_⟩
 ·obtain ⟨v, q⟩ := I.cell x c e;exact absurd (à q.lt (by rw [z]; exact hb)) (ÿ _)
 ·exact absurd (à (È (I.pin p hp).1) (by rw [z]; exact hb)) (ÿ _)
structure ki (P : Program) (w : World) (K : PySem.W.Frag) (tg : Expr) (J : It) (fp : List Addr) (it : Addr) (tn : Nat -> Heap -> Prop) : Prop where
 mem : it ∈ fp
 obj : ∀ i h, tn i h -> ∀ b ∈ fp, ∃ o, h.get? b = some o /\ ∀ v, o.data ≠ .cell v
 keep : ∀ i h h', tn i h -> (∀ b ∈ fp, ∀ o, h.get? b = some o -> h'.get? b = some o) -> tn i h'
 item : ∀ (X : Cx), X.prog = P -> X.w = w -> X.K = K -> X.calm = true -> ∀ (i : Nat) (pins : List (Addr × Obj)) (s : Shared) (σ : St) (H : Hp) (E : bM), Inv X pins σ H s -> (∀ b ∈ fp, bK X pins H b) -> tn i s.heap -> J.go i H ->
  wpAny (model P w) X.A (pyNext (.ref it)) (λ r s1 => ∃ u, r = some u /\
   wpAny (model P w) X.A (letOwnedTupleGo tg (.ref it) u) (λ _ s2 => ∃ x H', Inv X pins σ H' s2 /\ RelV x u /\ J.Ψ i H x H' /\ tn (i + 1) s2.heap /\ ∀ b ∈ fp, H' b = none) E s1) E s
 done : ∀ (X : Cx), X.prog = P -> X.w = w -> X.K = K -> X.calm = true -> ∀ (i : Nat) (pins : List (Addr × Obj)) (s : Shared) (σ : St) (H : Hp) (E : bM), Inv X pins σ H s -> (∀ b ∈ fp, bK X pins H b) -> tn i s.heap -> J.stop i H ->
  wpAny (model P w) X.A (pyNext (.ref it)) (λ r s1 => r = none /\ Inv X pins σ H s1) E s
 self : ∀ (A : Around) (i : Nat) (s : Shared) (Q : bM) (E : bM), tn i s.heap -> Q (.ref it) s -> wpAny (model P w) A (pyIter (.ref it)) Q E s
abbrev TI := St -> Hp -> (It -> Hp -> Prop) -> Prop
def E1 (X : Cx) (pins : List (Addr × Obj)) (σ : St) (tg : Expr) (R : It -> Hp -> Prop) (Js : Value) (s2 : Shared) : Prop :=
 ∃ (it : Addr) (fp : List Addr) (tn : Nat -> Heap -> Prop) (J : It) (H' : Hp), Js = .ref it /\ Inv X pins σ H' s2 /\ ki X.prog X.w X.K tg J fp it tn /\ tn 0 s2.heap /\ (∀ b ∈ fp, bK X pins H' b) /\ R J H'
def PI (X : Cx) (tg iter : Expr) (wi : TI) : Prop :=
 ∀ (pins : List (Addr × Obj)) (s : Shared) (σ : St) (H : Hp) (R : It -> Hp -> Prop), Inv X pins σ H s -> wi σ H R ->
  wpAny (model X.prog X.w) X.A (eval iter X.env) (λ v s1 => wpAny (model X.prog X.w) X.A (pyIter v) (E1 X pins σ tg R) X.xe s1) X.xe s
theorem oa {M : Model} {A : Around} {E : bM} {s : Shared} {tg : Expr} {it : Addr} {u : Value} {o : Obj} {n : String} {vs : Array Value} {Q : Unit -> Shared -> Prop} (ho : s.heap.get? it = some o) (hc : o.cls = .type n) (hd : o.data = .fields vs)
  (hn : ["enumerate", "zip", "dict_itemiterator", "dict_reverseitemiterator", "odict_iterator", "itertools.zip_longest", "itertools.pairwise"].contains n = false) (hQ : Q () s) : wpAny M A (letOwnedTupleGo tg (.ref it) u) Q E s := by
 unfold letOwnedTupleGo;cases tg <;> first
  | exact Â hQ
  | (cases u <;> first
    | exact Â hQ
    | (refine À (wpAny_load ho ?_)
       rw [hc, hd];show wpAny M A (if (["enumerate", "zip", "dict_itemiterator", "dict_reverseitemiterator", "odict_iterator", "itertools.zip_longest", "itertools.pairwise"].contains n && vs[0]? == some (rawInt _)) = true then _ else _) Q E s
       rw [É (by intro h; rw [hn, Ş] at h; cases h)]
       exact Â hQ))
def ss (K : PySem.W.Frag) (a : Addr) : It :=
 ⟨λ i H => ∃ xs x, ñ K H a xs /\ xs[i]? = some x, λ i H x H' => H' = H /\ ∀ xs, ñ K H a xs -> xs[i]? = some x, λ i H => ∃ xs, ñ K H a xs /\ xs.length <= i⟩
def vW (K : PySem.W.Frag) (a : Addr) : It :=
 ⟨λ i H => ∃ xs x, ą K H a xs /\ xs[i]? = some x, λ i H x H' => H' = H /\ ∀ xs, ą K H a xs -> xs[i]? = some x, λ i H => ∃ xs, ą K H a xs /\ xs.length <= i⟩
def uK (lo : Int) (n : Nat) : It := ⟨λ i _ => i < n, λ i H x H' => H' = H /\ x = .int (lo + i), λ i _ => n <= i⟩
theorem pB {P : Program} {w : World} {K : PySem.W.Frag} {tg : Expr} (a it : Addr) : ki P w K tg (ss K a) [it] it (λ i h => h.IsListIter it a i) where
 mem := by simp
 obj := λ i h st b hb => by
  have e : b = it := by simpa using hb
  subst e;obtain ⟨o, e, c, d⟩ := st;exact ⟨o, e, λ v z => by rw [d] at z; cases z⟩
 keep := λ i h h' st k => st.at λ o e => k it (by simp) o e
 item := by
  intro X hP hw hK hc i pins s σ H E I hf st hg;subst hP hw hK;obtain ⟨xs, x, hq, hx⟩ := hg;obtain ⟨its, rv, p, hz⟩ := I.list hq;obtain ⟨u, hu, ru⟩ := rv.get hx;obtain ⟨f0, f1, f2, f3, f4, f5⟩ := hf it (by simp)
  refine wpAny_pyNext_list_item st p.isList (x := u) (by simpa using hu) λ h' JI sb => ?_
  have I1 : Inv X pins σ H { s with heap := h' } := I.turned (t' := s.toks) (λ b o hb e => (sb.2 b hb).trans e) f0 f1 f3 f4 f5
  obtain ⟨o, e, c, d⟩ := id JI;exact ⟨u, rfl, oa (s := { s with heap := h' }) e c d ag ⟨x, H, I1, ru, ⟨rfl, λ ys hy => by rw [I.y_ hy hq]; exact hx⟩, JI, λ b hb => (hf b hb).1⟩⟩
 done := by
  intro X hP hw hK hc i pins s σ H E I hf st hg;subst hP hw hK;obtain ⟨xs, hq, hx⟩ := hg;obtain ⟨its, rv, p, hz⟩ := I.list hq;obtain ⟨f0, f1, f2, f3, f4, f5⟩ := hf it (by simp)
  have hl := rv.length;exact wpAny_pyNext_list_end (I.ok.hd hc) st p.isList (by simp; omega) λ h' eb => ⟨rfl, I.turned (t' := s.toks) (λ b o hb e => eb b o hb e) f0 f1 f3 f4 f5⟩
 self := λ _ _ _ _ _ st h => wpAny_pyIter_listiter st h
theorem my {P : Program} {w : World} {K : PySem.W.Frag} {tg : Expr} (a it : Addr) : ki P w K tg (vW K a) [it] it (λ i h => h.IsTupleIter it a i) where
 mem := by simp
 obj := λ i h st b hb => by
  have e : b = it := by simpa using hb
  subst e;obtain ⟨o, e, c, d⟩ := st;exact ⟨o, e, λ v z => by rw [d] at z; cases z⟩
 keep := λ i h h' st k => st.at λ o e => k it (by simp) o e
 item := by
  intro X hP hw hK hc i pins s σ H E I hf st hg;subst hP hw hK;obtain ⟨xs, x, hq, hx⟩ := hg;obtain ⟨its, rv, p, hz⟩ := I.tuple hq;obtain ⟨u, hu, ru⟩ := rv.get hx;obtain ⟨f0, f1, f2, f3, f4, f5⟩ := hf it (by simp)
  refine wpAny_pyNext_tuple_item st (show s.heap.IsTuple a its.toArray from p) (x := u) (by simpa using hu) λ h' JI sb => ?_
  have I1 : Inv X pins σ H { s with heap := h' } := I.turned (t' := s.toks) (λ b o hb e => (sb.2 b hb).trans e) f0 f1 f3 f4 f5
  obtain ⟨o, e, c, d⟩ := id JI;exact ⟨u, rfl, oa (s := { s with heap := h' }) e c d ag ⟨x, H, I1, ru, ⟨rfl, λ ys hy => by rw [I.Ŝ hy hq]; exact hx⟩, JI, λ b hb => (hf b hb).1⟩⟩
 done := by
  intro X hP hw hK hc i pins s σ H E I hf st hg;subst hP hw hK;obtain ⟨xs, hq, hx⟩ := hg;obtain ⟨its, rv, p, hz⟩ := I.tuple hq;obtain ⟨f0, f1, f2, f3, f4, f5⟩ := hf it (by simp)
  have hl := rv.length;exact wpAny_pyNext_tuple_end (I.ok.hd hc) st (show s.heap.IsTuple a its.toArray from p) (by simp; omega) λ h' eb => ⟨rfl, I.turned (t' := s.toks) (λ b o hb e => eb b o hb e) f0 f1 f3 f4 f5⟩
 self := λ _ _ _ _ _ st h => wpAny_pyIter_tupleiter st h
theorem mY {P : Program} {w : World} {K : PySem.W.Frag} {tg : Expr} (it : Addr) (lo : Int) (n : Nat) : ki P w K tg (uK lo n) [it] it (λ i h => IsRangeIter h it (lo + (i : Nat) * 1) ((n : Int) - (i : Nat)) 1) where
 mem := by simp
 obj := λ i h st b hb => by
  have e : b = it := by simpa using hb
  subst e;exact ⟨_, st, λ v z => by
   have z' : Data.fields _ = Data.cell v := z;cases z'⟩
 keep := λ i h h' st k => k it (by simp) _ st
 item := by
  intro X hP hw hK hc i pins s σ H E I hf st hg;subst hP hw hK;obtain ⟨f0, f1, f2, f3, f4, f5⟩ := hf it (by simp)
  have W := Walks.range (prog := X.prog) (w := X.w) (I.ok.hd hc) it lo 1 n;refine W.item i s _ _ hg st λ v h' tk hv JI kk => ?_;obtain ⟨t, rfl⟩ := hv;have I1 : Inv X pins σ H { s with heap := h', toks := tk } := I.turned (λ b o hb e => kk b o (by simpa using hb) e) f0 f1 f3 f4 f5
  refine ⟨_, rfl, oa (s := { s with heap := h', toks := tk }) (n := "range_iterator") JI rfl rfl ag ⟨.int (lo + i), H, I1, ⟨t, ?_⟩, ⟨rfl, rfl⟩, JI, λ b hb => (hf b hb).1⟩⟩
  rw [t_]
 done := by
  intro X hP hw hK hc i pins s σ H E I hf st hg;subst hP hw hK;obtain ⟨f0, f1, f2, f3, f4, f5⟩ := hf it (by simp)
  exact wpAny_pyNext_range_end (I.ok.hd hc) st (by have : n <= i := hg; omega) λ h' eb => ⟨rfl, I.turned (t' := s.toks) (λ b o hb e => eb b o hb e) f0 f1 f3 f4 f5⟩
 self := λ _ _ _ _ _ st h => wpAny_pyIter_rangeiter st h
section
variable {X : Cx} {tg : Expr}
def cX (K : PySem.W.Frag) (tl : TE) : TI := λ σ H R => tl σ H λ x H1 => ∃ a, x = .ref a /\ (∃ xs, ñ K H1 a xs) /\ R (ss K a) H1
def xM (K : PySem.W.Frag) (tl : TE) : TI := λ σ H R => tl σ H λ x H1 => ∃ a, x = .ref a /\ (∃ xs, ą K H1 a xs) /\ R (vW K a) H1
theorem bD {l : Expr} {tl : TE} (hl : PE X l tl) : PI X tg l (cX X.K tl) := by
 intro pins s σ H R I h;refine ax (hl pins s σ H _ I h) λ v s1 ⟨x, H1, I1, r1, q1⟩ => ?_;obtain ⟨a, e, ⟨xs, hq⟩, q⟩ := q1;subst e;cases r1;obtain ⟨its, rv, p, hz⟩ := I1.list hq;refine Ip p.isList ?_;refine ⟨s1.heap.objs.size, [s1.heap.objs.size], _, _, H1, rfl, I1.kept (t' := s1.toks) λ b o e => Á _ e, pB a _, ⟨_, Ê _ rfl, rfl, rfl⟩, λ b hb => ?_, q⟩;have e : b = s1.heap.objs.size := by simpa using hb
 subst e;exact I1.HB (Å _) (I1.Ē.fresh (Å _))
theorem rE {l : Expr} {tl : TE} (hl : PE X l tl) : PI X tg l (xM X.K tl) := by
 intro pins s σ H R I h;refine ax (hl pins s σ H _ I h) λ v s1 ⟨x, H1, I1, r1, q1⟩ => ?_;obtain ⟨a, e, ⟨xs, hq⟩, q⟩ := q1;subst e;cases r1;obtain ⟨its, rv, p, hz⟩ := I1.tuple hq;refine š (show s1.heap.IsTuple a its.toArray from p) ?_;refine ⟨s1.heap.objs.size, [s1.heap.objs.size], _, _, H1, rfl, I1.kept (t' := s1.toks) λ b o e => Á _ e, my a _, ⟨_, Ê _ rfl, rfl, rfl⟩, λ b hb => ?_, q⟩;have e : b = s1.heap.objs.size := by simpa using hb
 subst e;exact I1.HB (Å _) (I1.Ē.fresh (Å _))
theorem rX {pins : List (Addr × Obj)} {σ : St} {H : Hp} {s : Shared} {R : It -> Hp -> Prop} {E : bM} {lo hi : Int} {t u v : Tok} {tk : Nat} (I : Inv X pins σ H s) (h1 : -(2 ^ 62) <= lo) (h2 : lo < 2 ^ 62) (h3 : -(2 ^ 62) <= hi) (h4 : hi < 2 ^ 62)
  (q : R (uK lo (hi - lo).toNat) H) : wpAny (model X.prog X.w) X.A (pyIter (.ref s.heap.objs.size)) (E1 X pins σ tg R) E { s with heap := s.heap.push { cls := .type "range", data := .fields #[.int lo t, .int hi u, .int 1 v] }, toks := tk } := by
 refine wpAny_pyIter_range (IsRange.new ..) (small_one h1 h2 h3 h4) ?_;have I1 : Inv X pins σ H { s with heap := s.heap.push { cls := .type "range", data := .fields #[.int lo t, .int hi u, .int 1 v] }, toks := tk } := I.kept λ b o e => Á _ e
 refine ⟨(s.heap.push { cls := .type "range", data := .fields #[.int lo t, .int hi u, .int 1 v] }).objs.size, [(s.heap.push { cls := .type "range", data := .fields #[.int lo t, .int hi u, .int 1 v] }).objs.size], _, _, H, rfl,
  I1.kept (t' := tk) λ b o e => Á _ e, mY _ lo (hi - lo).toNat, ?_, λ b hb => ?_, q⟩
 ·have e1 : lo + ((0 : Nat) : Int) * 1 = lo := by simp
  have e2 : (((hi - lo).toNat : Nat) : Int) - ((0 : Nat) : Int) = Builtin.Range.rangeSize lo hi 1 := by rw [rangeSize_one]; split <;> omega
  show IsRangeIter _ _ (lo + ((0 : Nat) : Int) * 1) ((((hi - lo).toNat : Nat) : Int) - ((0 : Nat) : Int)) 1;rw [e1, e2];exact Ê _ rfl
 ·have e : b = (s.heap.push { cls := .type "range", data := .fields #[.int lo t, .int hi u, .int 1 v] }).objs.size := by simpa using hb
  subst e;exact I1.HB (Å _) (I1.Ē.fresh (Å _))
def dC (ta : TA) : TI := λ σ H R => ta σ H λ vs H1 => ∃ j : Int, vs = [.int j] /\ -(2 ^ 62) <= j /\ j < 2 ^ 62 /\ R (uK 0 j.toNat) H1
theorem bc {a : Expr} {ta : TA} {p pos : Pos} (hg : Gl X "range") (hm : X.mg "range" = none) (ha : PA X [a] ta) (hs : starEach [a] X.env = [(false, eval a X.env)] := by rfl) : PI X tg (.Call (.Name "range" p) [a] [] pos) (dC ta) := by
 intro pins s σ H R I h;refine Call_ (gi I hg hm boot_range (Ŀ (ax (ha pos pins s σ H _ I h) λ us s1 ⟨vs, H1, I1, r1, q1⟩ => ?_) hs rfl));obtain ⟨j, e, q1, q2, q⟩ := q1;subst e;cases r1 with
 | cons r rr =>
  cases rr;obtain ⟨t, rfl⟩ := r;exact call_range_1 (rX I1 ae ae q1 q2 (by simpa using q))
def fT (wi : TI) (g : TG) (tb : TS) : TS := λ D σ H => wi σ H λ J H1 => ∃ W : Nat -> Nat -> St -> Hp -> Prop, (∃ m, W 0 m σ H1) /\ ∀ i m σ H, W i m σ H ->
 (J.stop i H /\ D.nx σ H) \/ (J.go i H /\ ∃ N : St -> Hp -> Prop, (∀ ĝ H', N ĝ H' -> ∃ m', m' < m /\ W (i + 1) m' ĝ H') /\ ∀ x H', J.Ψ i H x H' -> g x σ H' λ ġ H2 => tb { D with nx := N, ct := N, bk := D.nx } ġ H2)
def dv (fp : List Addr) (h : Heap) : List (Addr × Obj) := fp.filterMap λ b => (h.get? b).map λ o => (b, o)
theorem ar {fp : List Addr} {h : Heap} {b : Addr} {o : Obj} (hb : b ∈ fp) (e : h.get? b = some o) : (b, o) ∈ dv fp h := List.mem_filterMap.mpr ⟨b, hb, by rw [e]; rfl⟩
theorem pL {fp : List Addr} {h : Heap} {p : Addr × Obj} (hp : p ∈ dv fp h) : p.1 ∈ fp /\ h.get? p.1 = some p.2 := by
 obtain ⟨b, hb, e⟩ := List.mem_filterMap.mp hp;cases q : h.get? b with
 | none => rw [q] at e; cases e
 | some o =>
  rw [q] at e;have e' : (b, o) = p := Ò e;subst e';exact ⟨hb, q⟩
theorem Inv.pinned {pins : List (Addr × Obj)} {σ : St} {H : Hp} {s : Shared} {fp : List Addr} (I : Inv X pins σ H s) (hf : ∀ b ∈ fp, bK X pins H b) (ho : ∀ b ∈ fp, ∃ o, s.heap.get? b = some o /\ ∀ v, o.data ≠ .cell v) : Inv X (pins ++ dv fp s.heap) σ H s :=
 I.HL λ p hp => (ŗ.mp hp).elim (λ z => I.pin p (Ä _ z)) λ z => by
  obtain ⟨hb, e⟩ := pL z;obtain ⟨f0, f1, f2, _⟩ := hf p.1 hb;obtain ⟨o, e', d⟩ := ho p.1 hb;rw [e] at e'; cases e';exact ⟨e, f0, f1, f2, d⟩
theorem Inv.Ĥ {pins pl : List (Addr × Obj)} {σ : St} {H : Hp} {s : Shared} (I : Inv X (pins ++ pl) σ H s) : Inv X pins σ H s := I.HL λ p hp => I.pin p (Ä _ (s_ _ hp))
theorem bO {iter : Expr} {body : List Stmt} {wi : TI} {g : TG} {tb : TS} {pos : Pos} (hp : PassesOwn (model X.prog X.w) X.A X.env X.xe) (hc : X.calm = true) (hi : PI X tg iter wi) (hg : PG X tg g) (hb : f_ X body tb)
  (hs : ∀ x, foldedSetIterable iter X.env x = pure x := by intro _; rfl) : PS X (.For tg iter body [] pos) (fT wi g tb) := by
 intro pins s σ H D I h;refine wpAny_For (ax (hi pins s σ H _ I h) λ v s1 h1 => ax h1 λ Js s2 h2 => ?_) hs;obtain ⟨it, fp, tn, J, H2, e, I2, T, ο, f2, W, ⟨m0, w0⟩, turn⟩ := h2;subst e;have Ľ : ∀ {H' : Hp}, (∀ b ∈ fp, H' b = none) -> ∀ b ∈ fp, bK X pins H' b := λ hn b hb => ⟨hn b hb, (f2 b hb).2⟩;refine codeAny_forLoop_any (λ n s' => ∃ i ĝ H', Inv X pins ĝ H' s' /\ tn i s'.heap /\ (∀ b ∈ fp, H' b = none) /\ W i n ĝ H') ?_ m0 ⟨0, σ, H2, I2, ο, λ b hb => (f2 b hb).1, w0⟩;rintro n s3 ⟨i, Τ, H3, I3, Hc, QV, w3⟩;rcases turn i n Τ H3 w3 with ⟨stop, qn⟩ | ⟨go, N, hN, step⟩
 ·refine Ł hp (ax (T.done X rfl rfl rfl hc i pins s3 Τ H3 X.xe I3 (Ľ QV) Hc stop) λ r s4 ⟨hr, I4⟩ => ?_);subst hr;exact Gy ⟨Τ, H3, I4, qn⟩
 ·refine Ł hp (ax (T.item X rfl rfl rfl hc i pins s3 Τ H3 X.xe I3 (Ľ QV) Hc go) λ r s4 ⟨u, hr, h4⟩ => ?_);subst hr;refine Ł hp (ax h4 λ _ s5 ⟨x, H5, I5, r5, y5, Δ, HA⟩ => ?_);have HE := I5.pinned (Ľ HA) (T.obj _ _ Δ);refine Ł hp (ax (hg _ s5 Τ H5 x u _ HE r5 (step x H5 y5)) λ _ s6 ⟨Ij, H6, I6, q6⟩ => ?_);refine Ł hp (ax (hb _ s6 Ij H6 _ I6 q6) λ f s7 q7 => ?_);have again : ∀ {Iy : St} {H7 : Hp}, Inv X (pins ++ dv fp s5.heap) Iy H7 s7 -> N Iy H7 -> ∃ m, m < n /\ ∃ i ĝ H', Inv X pins ĝ H' s7 /\ tn i s7.heap /\ (∀ b ∈ fp, H' b = none) /\ W i m ĝ H' := λ {Iy H7} I7 n7 => by
   obtain ⟨m', hm, w7⟩ := hN Iy H7 n7;refine ⟨m', hm, i + 1, Iy, H7, I7.Ĥ, T.keep _ _ _ Δ λ b hb o e => (I7.pin (b, o) (Ä _ (Ä _ (ar hb e)))).1, λ b hb => ?_, w7⟩;obtain ⟨o, e, d⟩ := T.obj _ _ Δ b hb;exact (I7.pin (b, o) (Ä _ (Ä _ (ar hb e)))).2.1
  cases f with
  | next => obtain ⟨Iy, H7, I7, n7⟩ := q7; exact again I7 n7
  | cont => obtain ⟨Iy, H7, I7, n7⟩ := q7; exact again I7 n7
  | brk => obtain ⟨Iy, H7, I7, q7⟩ := q7; exact ⟨Iy, H7, I7.Ĥ, q7⟩
  | ret v => obtain ⟨x7, Iy, H7, I7, r7, q7⟩ := q7; exact ⟨x7, Iy, H7, I7.Ĥ, r7, q7⟩
end
theorem fD {K : PySem.W.Frag} {a : Addr} {xs : List V} {g : TG} {tb : TS} {D : bQ} {σ : St} {H : Hp} (Pv : Nat -> St -> Hp -> Prop) (h0 : Pv 0 σ H) (hl : ∀ i σ H, i <= xs.length -> Pv i σ H -> ñ K H a xs)
  (hs : ∀ i x σ H, xs[i]? = some x -> Pv i σ H -> g x σ H λ ġ H2 => tb { D with nx := Pv (i + 1), ct := Pv (i + 1), bk := D.nx } ġ H2) (hd : ∀ σ H, Pv xs.length σ H -> D.nx σ H) :
  ∃ W : Nat -> Nat -> St -> Hp -> Prop, (∃ m, W 0 m σ H) /\ ∀ i m σ H, W i m σ H ->
   ((ss K a).stop i H /\ D.nx σ H) \/ ((ss K a).go i H /\ ∃ N : St -> Hp -> Prop, (∀ ĝ H', N ĝ H' -> ∃ m', m' < m /\ W (i + 1) m' ĝ H') /\ ∀ x H', (ss K a).Ψ i H x H' -> g x σ H' λ ġ H2 => tb { D with nx := N, ct := N, bk := D.nx } ġ H2) := by
 refine ⟨λ i m σ H => m = xs.length - i /\ i <= xs.length /\ Pv i σ H, ⟨xs.length, by simp, Nat.zero_le _, h0⟩, ?_⟩
 rintro i m σ H ⟨rfl, hi, p⟩;have q := hl i σ H hi p;by_cases ŏ : i < xs.length
 ·refine .inr ⟨⟨xs, xs[i], q, by simp [ŏ]⟩, Pv (i + 1), λ ĝ H' p' => ⟨xs.length - (i + 1), ae, rfl, ŏ, p'⟩, λ x H' y => ?_⟩
  obtain ⟨e, y⟩ := y;subst e;exact hs i x σ _ (y xs q) p
 ·have e : i = xs.length := ae;subst e;exact .inl ⟨⟨xs, q, Å _⟩, hd σ H p⟩
theorem tF {K : PySem.W.Frag} {a : Addr} {xs : List V} {g : TG} {tb : TS} {D : bQ} {σ : St} {H : Hp} (Pv : Nat -> St -> Hp -> Prop) (h0 : Pv 0 σ H) (hl : ∀ i σ H, i <= xs.length -> Pv i σ H -> ą K H a xs)
  (hs : ∀ i x σ H, xs[i]? = some x -> Pv i σ H -> g x σ H λ ġ H2 => tb { D with nx := Pv (i + 1), ct := Pv (i + 1), bk := D.nx } ġ H2) (hd : ∀ σ H, Pv xs.length σ H -> D.nx σ H) :
  ∃ W : Nat -> Nat -> St -> Hp -> Prop, (∃ m, W 0 m σ H) /\ ∀ i m σ H, W i m σ H ->
   ((vW K a).stop i H /\ D.nx σ H) \/ ((vW K a).go i H /\ ∃ N : St -> Hp -> Prop, (∀ ĝ H', N ĝ H' -> ∃ m', m' < m /\ W (i + 1) m' ĝ H') /\ ∀ x H', (vW K a).Ψ i H x H' -> g x σ H' λ ġ H2 => tb { D with nx := N, ct := N, bk := D.nx } ġ H2) := by
 refine ⟨λ i m σ H => m = xs.length - i /\ i <= xs.length /\ Pv i σ H, ⟨xs.length, by simp, Nat.zero_le _, h0⟩, ?_⟩
 rintro i m σ H ⟨rfl, hi, p⟩;have q := hl i σ H hi p;by_cases ŏ : i < xs.length
 ·refine .inr ⟨⟨xs, xs[i], q, by simp [ŏ]⟩, Pv (i + 1), λ ĝ H' p' => ⟨xs.length - (i + 1), ae, rfl, ŏ, p'⟩, λ x H' y => ?_⟩
  obtain ⟨e, y⟩ := y;subst e;exact hs i x σ _ (y xs q) p
 ·have e : i = xs.length := ae;subst e;exact .inl ⟨⟨xs, q, Å _⟩, hd σ H p⟩
theorem cV {lo : Int} {n : Nat} {g : TG} {tb : TS} {D : bQ} {σ : St} {H : Hp} (Pv : Nat -> St -> Hp -> Prop) (h0 : Pv 0 σ H)
  (hs : ∀ i σ H, i < n -> Pv i σ H -> g (.int (lo + i)) σ H λ ġ H2 => tb { D with nx := Pv (i + 1), ct := Pv (i + 1), bk := D.nx } ġ H2) (hd : ∀ σ H, Pv n σ H -> D.nx σ H) :
  ∃ W : Nat -> Nat -> St -> Hp -> Prop, (∃ m, W 0 m σ H) /\ ∀ i m σ H, W i m σ H ->
   ((uK lo n).stop i H /\ D.nx σ H) \/ ((uK lo n).go i H /\ ∃ N : St -> Hp -> Prop, (∀ ĝ H', N ĝ H' -> ∃ m', m' < m /\ W (i + 1) m' ĝ H') /\ ∀ x H', (uK lo n).Ψ i H x H' -> g x σ H' λ ġ H2 => tb { D with nx := N, ct := N, bk := D.nx } ġ H2) := by
 refine ⟨λ i m σ H => m = n - i /\ i <= n /\ Pv i σ H, ⟨n, by simp, Nat.zero_le _, h0⟩, ?_⟩
 rintro i m σ H ⟨rfl, hi, p⟩;by_cases ŏ : i < n
 ·refine .inr ⟨ŏ, Pv (i + 1), λ ĝ H' p' => ⟨n - (i + 1), ae, rfl, ŏ, p'⟩, λ x H' y => ?_⟩;obtain ⟨e, y⟩ := y;subst e y;exact hs i σ _ ŏ p
 ·have e : i = n := ae;subst e;exact .inl ⟨Å _, hd σ H p⟩
theorem re {c : TT} {tb : TS} {D : bQ} {σ : St} {H : Hp} (Pv : St -> Hp -> Prop) (μ : St -> Hp -> Nat) (h0 : Pv σ H)
  (hs : ∀ σ H, Pv σ H -> c σ H λ b H1 => if b = true then tb { D with nx := λ ĝ H' => Pv ĝ H' /\ μ ĝ H' < μ σ H, ct := λ ĝ H' => Pv ĝ H' /\ μ ĝ H' < μ σ H, bk := D.nx } σ H1 else D.nx σ H1)
  (mono : ∀ σ H Q Q', (∀ b H1, Q b H1 -> Q' b H1) -> c σ H Q -> c σ H Q') : rP c tb D σ H := by
 refine ⟨λ m σ H => m = μ σ H /\ Pv σ H, ⟨_, rfl, h0⟩, ?_⟩;rintro m σ H ⟨rfl, p⟩;refine mono σ H _ _ (λ b H1 q => ?_) (hs σ H p);cases b with
 | true => exact ⟨_, λ ĝ H' ⟨p', l⟩ => ⟨_, l, rfl, p'⟩, q⟩
 | false => exact q
abbrev R2 := V -> V -> Hp -> VK -> Prop
def fw (X : Cx) (f : Value -> Value -> Sem Value) (r : R2) : Prop :=
 ∀ (pins : List (Addr × Obj)) (s : Shared) (σ : St) (H : Hp) (x y : V) (v u : Value) (Q : VK), Inv X pins σ H s -> RelV x v -> RelV y u -> r x y H Q ->
  wpAny (model X.prog X.w) X.A (f v u) (EP X pins σ Q) X.xe s
def DX (X : Cx) (f : Value -> Sem Value) (r : V -> Hp -> VK -> Prop) : Prop :=
 ∀ (pins : List (Addr × Obj)) (s : Shared) (σ : St) (H : Hp) (x : V) (v : Value) (Q : VK), Inv X pins σ H s -> RelV x v -> r x H Q ->
  wpAny (model X.prog X.w) X.A (f v) (EP X pins σ Q) X.xe s
def ce (X : Cx) (f : Value) (r : List V -> Hp -> VK -> Prop) : Prop :=
 ∀ (pins : List (Addr × Obj)) (s : Shared) (σ : St) (H : Hp) (xs : List V) (us : List Value) (Q : VK), Inv X pins σ H s -> Vals xs us -> r xs H Q ->
  wpAny (model X.prog X.w) X.A (call f us) (EP X pins σ Q) X.xe s
def aZ (r : R2) (ta tb : TE) : TE := λ σ H Q => ta σ H λ x H1 => tb σ H1 λ y H2 => r x y H2 Q
def FJ (r : V -> Hp -> VK -> Prop) (ta : TE) : TE := λ σ H Q => ta σ H λ x H1 => r x H1 Q
def rI (C : Int -> Int -> Prop) (g : Int -> Int -> V) : R2 := λ x y H Q => ∃ i j, x = .int i /\ y = .int j /\ C i j /\ Q (g i j) H
def iS (g : Int -> Int -> V) : R2 := λ x y H Q => ∃ i j, x = .int i /\ y = .int j /\ Q (g i j) H
def rU (g : Int -> V) : V -> Hp -> VK -> Prop := λ x H Q => ∃ i, x = .int i /\ Q (g i) H
section
variable {X : Cx} {a b c : Expr} {ta tb tc : TE} {pos : Pos}
theorem wW (ha : PE X a ta) (hb : PE X b tb) {pins : List (Addr × Obj)} {s : Shared} {σ : St} {H : Hp} {R : V -> V -> Hp -> Prop} (I : Inv X pins σ H s)
  (h : ta σ H λ x H1 => tb σ H1 λ y H2 => R x y H2) {Q : bM} {f : Value -> Value -> Sem Value}
  (hf : ∀ v u s2 x y H2, Inv X pins σ H2 s2 -> RelV x v -> RelV y u -> R x y H2 -> wpAny (model X.prog X.w) X.A (f v u) Q X.xe s2) :
  wpAny (model X.prog X.w) X.A (eval a X.env) (λ v Ă => wpAny (model X.prog X.w) X.A (eval b X.env) (λ u Ř => wpAny (model X.prog X.w) X.A (f v u) Q X.xe Ř) X.xe Ă) X.xe s := by
 refine ax (ha pins s σ H _ I h) λ v s1 ⟨x, H1, I1, r1, q1⟩ => ?_;refine ax (hb pins s1 σ H1 _ I1 q1) λ u s2 ⟨y, H2, I2, r2, q2⟩ => ?_;exact hf v u s2 x y H2 I2 r1 r2 q2
theorem aj {op : Operator} {r : R2} (ho : fw X (binaryOp op) r) (ha : PE X a ta) (hb : PE X b tb) : PE X (.BinOp a op b pos) (aZ r ta tb) := by
 intro pins s σ H Q I h;exact wpAny_BinOp (wW ha hb I h λ v u s2 x y H2 I2 rx ry q => ho pins s2 σ H2 x y v u Q I2 rx ry q)
theorem BV {op : UnaryOp} {r : V -> Hp -> VK -> Prop} (ho : DX X (unaryOp op) r) (ha : PE X a ta) : PE X (.UnaryOp op a pos) (FJ r ta) := by
 intro pins s σ H Q I h;exact UnaryOp_ (ax (ha pins s σ H _ I h) λ v s1 ⟨x, H1, I1, r1, q1⟩ => ho pins s1 σ H1 x v Q I1 r1 q1)
theorem yF {f : Value -> Value -> Sem Value} {C : Int -> Int -> Prop} {g : Int -> Int -> Int}
  (rule : ∀ (i j : Int) (t u : Tok) (s : Shared) (Q : bM) (E : bM), C i j -> Q (.int (g i j) s.toks) { s with toks := s.toks + 1 } -> wpAny (model X.prog X.w) X.A (f (.int i t) (.int j u)) Q E s) :
  fw X f (rI C λ i j => .int (g i j)) := by
 intro pins s σ H x y v u Q I rx ry h;obtain ⟨i, j, rfl, rfl, hc, q⟩ := h;obtain ⟨t, rfl⟩ := rx;obtain ⟨t', rfl⟩ := ry;exact rule i j t t' s _ _ hc ⟨.int (g i j), H, I.tok _, ⟨_, rfl⟩, q⟩
theorem yB {f : Value -> Value -> Sem Value} {g : Int -> Int -> Int}
  (rule : ∀ (i j : Int) (t u : Tok) (s : Shared) (Q : bM) (E : bM), Q (.int (g i j) s.toks) { s with toks := s.toks + 1 } -> wpAny (model X.prog X.w) X.A (f (.int i t) (.int j u)) Q E s) :
  fw X f (iS λ i j => .int (g i j)) := by
 intro pins s σ H x y v u Q I rx ry h;obtain ⟨i, j, rfl, rfl, q⟩ := h;obtain ⟨t, rfl⟩ := rx;obtain ⟨t', rfl⟩ := ry;exact rule i j t t' s _ _ ⟨.int (g i j), H, I.tok _, ⟨_, rfl⟩, q⟩
theorem uA {f : Value -> Value -> Sem Value} {g : Int -> Int -> Bool}
  (rule : ∀ (i j : Int) (t u : Tok) (s : Shared) (Q : bM) (E : bM), Q (.bool (g i j)) s -> wpAny (model X.prog X.w) X.A (f (.int i t) (.int j u)) Q E s) :
  fw X f (iS λ i j => .bl (g i j)) := by
 intro pins s σ H x y v u Q I rx ry h;obtain ⟨i, j, rfl, rfl, q⟩ := h;obtain ⟨t, rfl⟩ := rx;obtain ⟨t', rfl⟩ := ry;exact rule i j t t' s _ _ ⟨.bl (g i j), H, I, rfl, q⟩
def D6 (i j : Int) : Prop := 0 < j /\ j < 1073741824
def xq (i j : Int) : Prop := 0 <= j /\ j <= 1000000 /\ i.natAbs < 2 ^ 64
def GM (i j : Int) : Prop := (-(2 ^ 64) < i /\ i < 2 ^ 64) \/ (-(2 ^ 64) < j /\ j < 2 ^ 64)
theorem GM.ok {i j : Int} (h : GM i j) : IntMulOk i j := by
 rcases h with ⟨h1, h2⟩ | ⟨h1, h2⟩
 ·exact .of_left (intBits_le_64 h1 h2)
 ·exact .of_right (intBits_le_64 h1 h2)
theorem l9 (k : Nat) : (0 : Int) <= 2 ^ k := by
 rw [two_pow_cast];exact Int.natCast_nonneg _
theorem aS : fw X (binaryOp .Add) (iS λ i j => .int (i + j)) := yB λ _ _ _ _ _ _ _ q => add_int q
theorem bp : fw X (binaryOp .Sub) (iS λ i j => .int (i - j)) := yB λ _ _ _ _ _ _ _ q => sub_int q
theorem bn : fw X (binaryOp .Mult) (rI GM λ i j => .int (i * j)) := yF λ _ _ _ _ _ _ _ hc q => mul_int q hc.ok
theorem j0 : fw X (binaryOp .FloorDiv) (rI D6 λ i j => .int (i / j)) := yF λ i j _ _ _ _ _ hc q => by
 have h1 : (0 : Int) < j := hc.1;have h2 : j < 1073741824 := hc.2;exact floordiv_int ae (by rw [Α i ae]; exact q) (.inl (PyProof.noPylong_small ae))
theorem eN : fw X (binaryOp .Mod) (rI (λ _ j => 0 < j) λ i j => .int (i % j)) := yF λ i j _ _ _ _ _ hc q => by
 have h1 : (0 : Int) < j := hc;exact mod_int' ae (by rw [Int.fmod_eq_emod_of_nonneg i ae]; exact q)
theorem xB : fw X (binaryOp .Pow) (rI xq λ i j => .int (i ^ j.toNat)) := yF λ _ _ _ _ _ _ _ hc q => pow_int_small hc.1 hc.2.1 hc.2.2 q
theorem qt : fw X (binaryOp .LShift) (rI xq λ i j => .int (i * 2 ^ j.toNat)) := yF λ _ _ _ _ _ _ _ hc q => lshift_int_small hc.1 hc.2.1 hc.2.2 q
theorem mH : fw X (binaryOp .RShift) (rI (λ _ j => 0 <= j) λ i j => .int (i / 2 ^ j.toNat)) := yF λ i j _ _ _ _ _ hc q =>
 rshift_int hc (by rw [Α i (l9 _)]; exact q)
theorem mF : fw X (binaryOp .BitAnd) (iS λ i j => .int (Builtin.bitAnd i j)) := yB λ _ _ _ _ _ _ _ q => and_int q
theorem FP {f : Value -> Sem Value} {g : Int -> Int}
  (rule : ∀ (i : Int) (t : Tok) (s : Shared) (Q : bM) (E : bM), Q (.int (g i) s.toks) { s with toks := s.toks + 1 } -> wpAny (model X.prog X.w) X.A (f (.int i t)) Q E s) :
  DX X f (rU λ i => .int (g i)) := by
 intro pins s σ H x v Q I rx h;obtain ⟨i, rfl, q⟩ := h;obtain ⟨t, rfl⟩ := rx;exact rule i t s _ _ ⟨.int (g i), H, I.tok _, ⟨_, rfl⟩, q⟩
theorem xk : DX X (unaryOp .USub) (rU λ i => .int (-i)) := FP λ _ _ _ _ _ q => neg_int q
end
def Bh : V -> V -> Bool
 | .ĉ, .ĉ => true | .ĉ, .int _ => true | .int _, .ĉ => true | .ĉ, .bl _ => true | .bl _, .ĉ => true | .ĉ, .str _ => true | .str _, .ĉ => true
 | .int _, .int _ => true | .bl _, .bl _ => true | .str _, .str _ => true | .IX _, .IX _ => true
 | .int _, .str _ => true | .str _, .int _ => true | .bl _, .str _ => true | .str _, .bl _ => true
 | _, _ => false
def vz : R2 := λ x y H Q => Bh x y = true /\ Q (.bl (decide (x = y))) H
def EO : R2 := λ x y H Q => Bh x y = true /\ Q (.bl (!decide (x = y))) H
theorem oF {i j : Int} : decide (V.int i = V.int j) = (i == j) := by
 rw [ĸ];simp
theorem qe {i j : Bool} : decide (V.bl i = V.bl j) = (i == j) := by
 rw [ĸ];simp
theorem nM {i j : Str} : decide (V.str i = V.str j) = (i == j) := by
 rw [ĸ];simp
theorem oo {i j : Array UInt8} : decide (V.IX i = V.IX j) = (i.toList == j.toList) := by
 rw [ĸ];cases i;cases j;simp
section
variable {X : Cx} {a b c : Expr} {ta tb tc : TE} {pos : Pos}
theorem aB {pins : List (Addr × Obj)} {σ : St} {H : Hp} {s : Shared} {Q : VK} {k k' : Bool} (I : Inv X pins σ H s) (q : Q (.bl k) H) (e : k = k') : EP X pins σ Q (.bool k') s := by
 subst e;exact ⟨.bl k, H, I, rfl, q⟩
theorem iQ : fw X (compareOp .Eq) vz := by
 intro pins s σ H x y v u Q I rx ry h;obtain ⟨hs, q⟩ := h;cases x with
 | ĉ =>
  cases rx;cases y with
  | ĉ => cases ry; exact PySem.EqNone.eq_none_none (aB I q (by simp))
  | bl j => cases ry; exact PySem.EqNone.eq_none_bool (aB I q (by simp))
  | int j => obtain ⟨t', rfl⟩ := ry; exact PySem.EqNone.eq_none_int (aB I q (by simp))
  | str j => obtain ⟨t', rfl⟩ := ry; exact PySem.EqNone.eq_none_str (aB I q (by simp))
  | _ => exact absurd (show false = true from hs) Ð
 | bl i =>
  cases rx;cases y with
  | ĉ => cases ry; exact PySem.EqNone.eq_bool_none (aB I q (by simp))
  | bl j => cases ry; exact eq_bool (aB I q qe)
  | str j => obtain ⟨t', rfl⟩ := ry; exact PySem.EqMixed.eq_bool_str (aB I q (by simp))
  | _ => exact absurd (show false = true from hs) Ð
 | int i =>
  obtain ⟨t, rfl⟩ := rx;cases y with
  | ĉ => cases ry; exact PySem.EqNone.eq_int_none (aB I q (by simp))
  | int j => obtain ⟨t', rfl⟩ := ry; exact eq_int (aB I q oF)
  | str j => obtain ⟨t', rfl⟩ := ry; exact PySem.EqMixed.eq_int_str (aB I q (by simp))
  | _ => exact absurd (show false = true from hs) Ð
 | str i =>
  obtain ⟨t, rfl⟩ := rx;cases y with
  | ĉ => cases ry; exact PySem.EqNone.eq_str_none (aB I q (by simp))
  | bl j => cases ry; exact PySem.EqMixed.eq_str_bool (aB I q (by simp))
  | int j => obtain ⟨t', rfl⟩ := ry; exact PySem.EqMixed.eq_str_int (aB I q (by simp))
  | str j => obtain ⟨t', rfl⟩ := ry; exact eq_str (aB I q nM)
  | _ => exact absurd (show false = true from hs) Ð
 | IX i =>
  obtain ⟨t, rfl⟩ := rx;cases y with
  | IX j => obtain ⟨t', rfl⟩ := ry; exact PySem.W.eq_bytes (aB I q oo)
  | _ => exact absurd (show false = true from hs) Ð
 | _ => cases y <;> exact absurd (show false = true from hs) Ð
theorem kj : fw X (compareOp .NotEq) EO := by
 intro pins s σ H x y v u Q I rx ry h;obtain ⟨hs, q⟩ := h;cases x with
 | ĉ =>
  cases rx;cases y with
  | ĉ => cases ry; exact PySem.EqNone.ne_none_none (aB I q (by simp))
  | bl j => cases ry; exact PySem.EqNone.ne_none_bool (aB I q (by simp))
  | int j => obtain ⟨t', rfl⟩ := ry; exact PySem.EqNone.ne_none_int (aB I q (by simp))
  | str j => obtain ⟨t', rfl⟩ := ry; exact PySem.EqNone.ne_none_str (aB I q (by simp))
  | _ => exact absurd (show false = true from hs) Ð
 | bl i =>
  cases rx;cases y with
  | ĉ => cases ry; exact PySem.EqNone.ne_bool_none (aB I q (by simp))
  | bl j => cases ry; exact ne_bool (aB I q (Ė not qe))
  | str j => obtain ⟨t', rfl⟩ := ry; exact PySem.EqMixed.ne_bool_str (aB I q (by simp))
  | _ => exact absurd (show false = true from hs) Ð
 | int i =>
  obtain ⟨t, rfl⟩ := rx;cases y with
  | ĉ => cases ry; exact PySem.EqNone.ne_int_none (aB I q (by simp))
  | int j => obtain ⟨t', rfl⟩ := ry; exact ne_int (aB I q (Ė not oF))
  | str j => obtain ⟨t', rfl⟩ := ry; exact PySem.EqMixed.ne_int_str (aB I q (by simp))
  | _ => exact absurd (show false = true from hs) Ð
 | str i =>
  obtain ⟨t, rfl⟩ := rx;cases y with
  | ĉ => cases ry; exact PySem.EqNone.ne_str_none (aB I q (by simp))
  | bl j => cases ry; exact PySem.EqMixed.ne_str_bool (aB I q (by simp))
  | int j => obtain ⟨t', rfl⟩ := ry; exact PySem.EqMixed.ne_str_int (aB I q (by simp))
  | str j => obtain ⟨t', rfl⟩ := ry; exact ne_str (aB I q (Ė not nM))
  | _ => exact absurd (show false = true from hs) Ð
 | IX i =>
  obtain ⟨t, rfl⟩ := rx;cases y with
  | IX j => obtain ⟨t', rfl⟩ := ry; exact PySem.W.ne_bytes (aB I q (Ė not oo))
  | _ => exact absurd (show false = true from hs) Ð
 | _ => cases y <;> exact absurd (show false = true from hs) Ð
theorem su : fw X (compareOp .Lt) (iS λ i j => .bl (decide (i < j))) := uA λ _ _ _ _ _ _ _ q => lt_int q
theorem kF : fw X (compareOp .LtE) (iS λ i j => .bl (decide (i <= j))) := uA λ _ _ _ _ _ _ _ q => le_int q
theorem nU : fw X (compareOp .Gt) (iS λ i j => .bl (decide (j < i))) := uA λ _ _ _ _ _ _ _ q => gt_int q
theorem q9 : fw X (compareOp .GtE) (iS λ i j => .bl (decide (j <= i))) := uA λ _ _ _ _ _ _ _ q => ge_int q
theorem jM : fw X (compareOp .Is) (λ x y H Q => y = .ĉ /\ Q (.bl (decide (x = .ĉ))) H) := by
 intro pins s σ H x y v u Q I rx ry h;obtain ⟨rfl, q⟩ := h;cases ry;refine is_none_gen (aB I q ?_);cases x <;> first
  | (cases rx; rfl)
  | (obtain ⟨t, rfl⟩ := rx; rfl)
theorem uU : fw X (compareOp .IsNot) (λ x y H Q => y = .ĉ /\ Q (.bl (!decide (x = .ĉ))) H) := by
 intro pins s σ H x y v u Q I rx ry h;obtain ⟨rfl, q⟩ := h;cases ry;refine isnot_none_gen (aB I q ?_);cases x <;> first
  | (cases rx; rfl)
  | (obtain ⟨t, rfl⟩ := rx; rfl)
theorem aA (b : Expr) {op : CmpOp} (h : op ≠ .In := by decide) (h2 : op ≠ .NotIn := by decide) : behindInMarks op b = false := by
 have e1 : (op == CmpOp.In) = false := by cases op <;> first | rfl | exact absurd rfl h
 have e2 : (op == CmpOp.NotIn) = false := by cases op <;> first | rfl | exact absurd rfl h2
 cases b <;> simp [behindInMarks, e1, e2]
theorem bN {op : CmpOp} {r : R2} (ho : fw X (compareOp op) r) (ha : PE X a ta) (hb : PE X b tb) (hm : behindInMarks op b = false) : PE X (.Compare a [op] [b] pos) (aZ r ta tb) := by
 intro pins s σ H Q I h;exact wpAny_Compare1 (wW ha hb I h λ v u s2 x y H2 I2 rx ry q => ho pins s2 σ H2 x y v u Q I2 rx ry q) hm
def BE (t : TE) : TT := λ σ H Q => t σ H λ x H' => ∃ k, x = .bl k /\ Q k H'
theorem aM {op : CmpOp} {r : R2} (ho : fw X (compareOp op) r) (ha : PE X a ta) (hb : PE X b tb) (hm : behindInMarks op b = false) : PT X (.Compare a [op] [b] pos) (BE (aZ r ta tb)) := by
 intro pins s σ H Q I h;refine wpAny_isTrue_Compare1 (ax (ha pins s σ H _ I h) λ v s1 ⟨x, H1, I1, r1, q1⟩ => ax (hb pins s1 σ H1 _ I1 q1) λ u s2 ⟨y, H2, I2, r2, q2⟩ =>
  ax (ho pins s2 σ H2 x y v u _ I2 r1 r2 q2) λ c s3 ⟨z, H3, I3, r3, k, e, q3⟩ => ?_) hm
 subst e;cases r3;exact Ġ ⟨H3, I3, q3⟩
def yr (r r' : R2) (ta tb tc : TE) : TE := λ σ H Q => ta σ H λ x H1 => tb σ H1 λ y H2 => r x y H2 λ z H3 => ∃ k, z = .bl k /\
 (if k = true then tc σ H3 λ w' H4 => r' y w' H4 Q else Q (.bl false) H3)
theorem qa {op NS : CmpOp} {r r' : R2} (ho : fw X (compareOp op) r) (Ju : fw X (compareOp NS) r') (ha : PE X a ta) (hb : PE X b tb) (hc : PE X c tc)
  (hm : lastMarks [op, NS] [b, c] = false := by with_unfolding_all rfl) : PE X (.Compare a [op, NS] [b, c] pos) (yr r r' ta tb tc) := by
 intro pins s σ H Q I h;refine Compare_chain (ax (ha pins s σ H _ I h) λ v s1 ⟨x, H1, I1, r1, q1⟩ => chain_link (ax (hb pins s1 σ H1 _ I1 q1) λ u s2 ⟨y, H2, I2, r2, q2⟩ =>
  ax (ho pins s2 σ H2 x y v u _ I2 r1 r2 q2) λ d s3 ⟨z, H3, I3, r3, k, e, q3⟩ => ?_)) hm
 subst e;cases r3;refine Ġ ?_;cases k with
 | false => exact ite_ff ⟨.bl false, H3, I3, rfl, q3⟩
 | true => exact ite_tt (chain_last (ax (hc pins s3 σ H3 _ I3 q3) λ w' s4 ⟨z', H4, I4, r4, q4⟩ => Ju pins s4 σ H4 y z' u w' Q I4 r2 r4 q4))
theorem ip : (sizeLine : Nat) < 2 ^ 63 := by rw [Þ]; decide
theorem cW {x : V} {us : List Value} (r : Vals [x] us) : ∃ u, us = [u] /\ RelV x u := by
 cases r with
 | cons r1 r2 => cases r2; exact ⟨_, rfl, r1⟩
theorem nw {x y : V} {us : List Value} (r : Vals [x, y] us) : ∃ u w', us = [u, w'] /\ RelV x u /\ RelV y w' := by
 cases r with
 | cons r1 r2 =>
  cases r2 with
  | cons r3 r4 => cases r4; exact ⟨_, _, rfl, r1, r3⟩
theorem pk (hc : X.calm = true) : ce X (.builtin "max") (λ xs H Q => ∃ i j, xs = [.int i, .int j] /\ Q (.int (if j > i then j else i)) H) := by
 intro pins s σ H xs us Q I r h;obtain ⟨i, j, rfl, q⟩ := h;obtain ⟨u, w', rfl, ⟨t, rfl⟩, ⟨t', rfl⟩⟩ := nw r;refine max_two_ints (I.ok.hd hc) λ h' tk k => ⟨_, H, I.kept k, ?_, q⟩;by_cases hj : j > i
 ·rw [Ô hj, Ô hj]; exact ⟨_, rfl⟩
 ·rw [É hj, É hj]; exact ⟨_, rfl⟩
theorem pC (hc : X.calm = true) : ce X (.builtin "min") (λ xs H Q => ∃ i j, xs = [.int i, .int j] /\ Q (.int (if j < i then j else i)) H) := by
 intro pins s σ H xs us Q I r h;obtain ⟨i, j, rfl, q⟩ := h;obtain ⟨u, w', rfl, ⟨t, rfl⟩, ⟨t', rfl⟩⟩ := nw r;refine min_two_ints (I.ok.hd hc) λ h' tk k => ⟨_, H, I.kept k, ?_, q⟩;by_cases hj : j < i
 ·rw [Ô hj, Ô hj]; exact ⟨_, rfl⟩
 ·rw [É hj, É hj]; exact ⟨_, rfl⟩
theorem cZ : ce X (.type "int") (λ xs H Q => (∃ i, xs = [.int i] /\ Q (.int i) H) \/ ∃ k, xs = [.bl k] /\ Q (.int (if k then 1 else 0)) H) := by
 intro pins s σ H xs us Q I r h;rcases h with ⟨i, rfl, q⟩ | ⟨k, rfl, q⟩
 ·obtain ⟨u, rfl, t, rfl⟩ := cW r;exact call_int_int ⟨.int i, H, I, ⟨_, rfl⟩, q⟩
 ·obtain ⟨u, rfl, r1⟩ := cW r;cases r1;exact call_int_bool ⟨.int (if k then 1 else 0), H, I.tok _, ⟨_, rfl⟩, q⟩
end
structure K4 (h : Heap) (x dx C : Addr) (mA : bE) : Prop where
 obj : h.get? x = some (PySem.W.instObj C dx)
 ns : h.Ns1 dx mA
 ne : dx ≠ x
theorem jm {h : Heap} {dx : Addr} {mA : bE} (n : h.Ns1 dx mA) : ∃ od, h.get? dx = some od /\ ∀ name, PySem.W.lookIn name od = some (mA name) := by
 obtain ⟨o, es, ep, ho, hd, hk, _, hm⟩ := n;refine ⟨o, ho, λ name => ?_⟩;have e := hm name;unfold nsFind findBy at e;rw [<- Array.find?_toList] at e;unfold PySem.W.lookIn;rw [hd]
 dsimp only
 split
 ·rename_i y q
  rw [q] at e;exact Ė some e
 ·rename_i q
  rw [q] at e;have a : es.toList.any (·.refKey) = false := by
   rw [List.any_eq_false];intro y hy;obtain ⟨z, t, OM⟩ := hk y (Array.mem_toList_iff.mp hy);simp [DictEntry.refKey, OM]
  have a' : ¬ es.toList.any (·.refKey) = true := by rw [a]; exact Ð
  rw [É a'];exact Ė some e
theorem K4.look {h : Heap} {x dx C : Addr} {mA : bE} (I : K4 h x dx C mA) : ∃ od, PySem.W.InstAt h x (PySem.W.instObj C dx) C (some od) /\ ∀ name, PySem.W.lookIn name od = some (mA name) :=
 let ⟨od, ho, hl⟩ := jm I.ns
 ⟨od, ⟨I.obj, rfl, rfl, ho⟩, hl⟩
theorem υ.some_of {v : V} {o : Option Value} (r : υ (some v) o) : ∃ u, o = some u /\ RelV v u := by
 cases o with
 | none => exact (show False from r).elim
 | some u => exact ⟨u, rfl, r⟩
section
variable {P : Program} {w : World} {H H' : Hp} {h h' : Heap} {a C dx : Addr} {fs Vi : List (Str × V)}
theorem uF (Ē : ŷ P w H h) (e : H a = some (.ins C dx fs)) : ∃ mA, K4 h a dx C mA /\ (∀ f, υ (fs.lookup f) (mA f)) /\ PySem.Within mA (fs.map (·.1)) /\ fs.length <= 1000 /\ H dx = some (.own a) := by
 obtain ⟨d, z, ne, ob, mA, n, r, q⟩ := (show Ĉ P w H h a (.ins C dx fs) from Ē a _ e);exact ⟨mA, ⟨ob, n, ne⟩, r, q, z, d⟩
end
structure P1 (K : PySem.W.Frag) (C : Addr) : Prop where
 pg : PySem.W.plainGet K C Str.empty = true
 hd : PySem.W.hasDictIn K C = true
 po : PySem.W.plainOver K C = true
 sa : PySem.W.findIn K (.ref C) "__setattr__" = some (some (.builtin "object.__setattr__"))
theorem P1.get {K : PySem.W.Frag} {C : Addr} (c : P1 K C) (f : Str) : PySem.W.plainGet K C f = true := c.pg
section
variable {X : Cx} {pins : List (Addr × Obj)} {σ : St} {H : Hp} {s : Shared} {A : Around} {E : bM} {Q : bM} {c : Value} {b : Bool}
inductive fo (K : PySem.W.Frag) (H : Hp) : V -> Value -> Prop where
 | ĉ : fo K H .ĉ (.type "NoneType")
 | bl (x : Bool) : fo K H (.bl x) (.type "bool")
 | int (i : Int) : fo K H (.int i) (.type "int")
 | str (x : Str) : fo K H (.str x) (.type "str")
 | Lh (x : UInt64) : fo K H (.Lh x) (.type "float")
 | lst {a : Addr} {xs : List V} (e : H a = some (.lst xs)) : fo K H (.ref a) (.type "list")
 | Ν {a : Addr} {o : Obj} {xs : List V} (e : H a = some (.Ν o (.lst xs))) : fo K H (.ref a) (.type "list")
 | tup {a : Addr} {xs : List V} (e : H a = some (.tup xs)) : fo K H (.ref a) (.type "tuple")
 | dK {a : Addr} {kvs : List (Key × V)} (e : H a = some (.dK kvs)) : fo K H (.ref a) (.type "dict")
 | dT {a : Addr} {kvs : List (List Key × V)} (e : H a = some (.dT kvs)) : fo K H (.ref a) (.type "dict")
 | ins {a C dx : Addr} {fs : List (Str × V)} (e : H a = some (.ins C dx fs)) (cl : P1 K C) (ha : PySem.W.findIn K (.ref C) "__class__" = some (some (.builtin "object.__class__")))
   (hn : PySem.W.specialIn K (.builtin "object.__class__") "__get__" = some (some (.builtin "getset_descriptor.__get__"))) (K_ : PySem.W.takesIn K (.builtin "object.__class__") = some true)
   (hm : PySem.W.mroIn K C (.type "object") = some true) : fo K H (.ref a) (.ref C)
theorem pP {x : V} {u t : Value} (I : Inv X pins σ H s) (rx : RelV x u) (ty : fo X.K H x t) (e : PySem.W.kitOne X.K t c = some b) (h : ∀ tk, Q (.bool b) { s with toks := tk }) :
  wpAny (model X.prog X.w) A (call (.builtin "isinstance") [u, c]) Q E s := by
 cases ty with
 | ĉ => cases (show u = Value.none from rx); exact č PySem.W.kitx_none I.Ω True.intro e (λ z => nomatch z) h
 | bl y => cases (show u = Value.bool y from rx); exact č PySem.W.kitx_bool I.Ω True.intro e (λ z => nomatch z) h
 | int i => obtain ⟨t, q⟩ := (show ∃ t, u = Value.int i t from rx); cases q; exact č PySem.W.kitx_int I.Ω True.intro e (λ z => nomatch z) h
 | str y => obtain ⟨t, q⟩ := (show ∃ t, u = Value.str y t from rx); cases q; exact č PySem.W.kitx_str I.Ω True.intro e (λ z => nomatch z) h
 | Lh y => obtain ⟨t, q⟩ := (show ∃ t, u = Value.float y t from rx); cases q; exact č PySem.W.kitx_float I.Ω True.intro e (λ z => nomatch z) h
 | @lst a xs ea =>
  cases (show u = Value.ref a from rx);obtain ⟨_, _, n, _, h1⟩ := (show Ĉ X.prog X.w H s.heap a (.lst xs) from I.Ē a _ ea);exact č PySem.W.kitx_list I.Ω ⟨_, h1, rfl⟩ e (λ z => nomatch z) h
 | @Ν a ob xs ea =>
  cases (show u = Value.ref a from rx);obtain ⟨_, _, _, n, _, h1⟩ := (show Ĉ X.prog X.w H s.heap a (.Ν ob (.lst xs)) from I.Ē a _ ea);exact č PySem.W.kitx_list I.Ω ⟨_, h1, rfl⟩ e (λ z => nomatch z) h
 | @tup a xs ea =>
  cases (show u = Value.ref a from rx);obtain ⟨_, _, _, p⟩ := (show Ĉ X.prog X.w H s.heap a (.tup xs) from I.Ē a _ ea);obtain ⟨o, h1, h2, _⟩ := p;exact č PySem.W.kitx_tuple I.Ω ⟨o, h1, h2⟩ e (λ z => nomatch z) h
 | @dK a kvs ea =>
  cases (show u = Value.ref a from rx);obtain ⟨_, _, vs, _, p⟩ := (show Ĉ X.prog X.w H s.heap a (.dK kvs) from I.Ē a _ ea);obtain ⟨o, es, ep, h1, h2, _⟩ := p;exact č PySem.W.kitx_dict I.Ω ⟨o, h1, h2.1⟩ e (λ z => nomatch z) h
 | @dT a kvs ea =>
  cases (show u = Value.ref a from rx);obtain ⟨_, _, xs, _, o, es, ep, h1, h2, _⟩ := (show Ĉ X.prog X.w H s.heap a (.dT kvs) from I.Ē a _ ea);exact č PySem.W.kitx_dict I.Ω ⟨o, h1, h2.1⟩ e (λ z => nomatch z) h
 | @ins a C dx fs ea cl ha hn K_ hm =>
  cases (show u = Value.ref a from rx);obtain ⟨mA, O, _⟩ := uF I.Ē ea;obtain ⟨od, J, _⟩ := O.look;exact č (PySem.W.kitx_own (cl.get _) cl.hd ha hn K_ hm) I.Ω J e (λ z => nomatch z) h
end
structure ċ (k : Nat) (A : Around) : Prop where
 hd : A.handled = none
 dp : A.depth + 3 * k + 5 < recursionLimit
 un : A.units + 16 * k + 200 < cLine
 gd : A.guards = some []
theorem ċ.mono {j k : Nat} {A : Around} (r : ċ k A) (h : j <= k) : ċ j A := ⟨r.hd, by have := r.dp; omega, by have := r.un; omega, r.gd⟩
theorem ċ.deeper {k : Nat} {A : Around} (r : ċ (k + 1) A) (env : Env) : ċ k (A.deeper env) :=
 ⟨r.hd, by have := r.dp; show A.depth + 1 + 3 * k + 5 < _; omega, by have := r.un; show A.units + 3 + 16 * k + 200 < _; omega, r.gd⟩
theorem m5 {A : Around} {C : Addr} {us : List Value} {kw : List (Str × Value)} : (A.under (.builtin "type.__call__" ⟨.ref C :: us, kw⟩)).depth = A.depth + 1 := by
 first | rfl | simp [Around.under, Code.weight, Code.isCreation, Code.isGuard, Code.isCaller, Code.frames, Code.isFrame, guardIds]
theorem md {A : Around} {C : Addr} {us : List Value} {kw : List (Str × Value)} : (A.under (.builtin "type.__call__" ⟨.ref C :: us, kw⟩)).units = A.units + 1 := by
 first | rfl | simp [Around.under, Code.cUnits, Code.frames, Code.isFrame]
theorem ċ.make {k : Nat} {A : Around} (r : ċ (k + 1) A) (C : Addr) (us : List Value) (kw : List (Str × Value)) : ċ k (A.under (.builtin "type.__call__" ⟨.ref C :: us, kw⟩)) :=
 ⟨r.hd, by have := r.dp; rw [m5]; omega, by have := r.un; rw [md]; omega, by have h := r.gd; first | (simp only [Around.under]; rw [h]; rfl) | simp [Around.under, h, pushGuards, Code.guards, Code.isGuard, guardIds]⟩
theorem ċ.depth {k : Nat} {A : Around} (r : ċ k A) : A.depth < recursionLimit := by have := r.dp; omega
theorem ċ.units {k : Nat} {A : Around} (r : ċ k A) : A.units + 64 < cLine := by have := r.un; omega
theorem ċ.Kn {k : Nat} {A : Around} (r : ċ k A) : A.units < cLine := by have := r.un; omega
def aH : TA := λ _ H Q => Q [] H
def ac (ta : TE) (tr : TA) : TA := λ σ H Q => ta σ H λ x H1 => tr σ H1 λ xs H2 => Q (x :: xs) H2
section
variable {X : Cx} {e : Expr} {es : List Expr} {te : TE} {t : TA} {pos : Pos}
theorem ap : PA X [] aH := λ _ _ _ _ H Q I h => Calls.spliced_nil ⟨[], H, I, .nil, h⟩
theorem ad (ha : PE X e te) (hr : PA X es t) (hs : starEach (e :: es) X.env = (false, eval e X.env) :: starEach es X.env := by rfl) : PA X (e :: es) (ac te t) := by
 intro pos pins s σ H Q I h;rw [hs];show wpAny _ _ (spliced ((false, eval e X.env) :: backTo pos (starEach es X.env))) _ _ s;refine H_ (ax (ha pins s σ H _ I h) λ u s1 ⟨x, H1, I1, r1, q1⟩ => ?_);exact ax (hr pos pins s1 σ H1 _ I1 q1) λ us s2 ⟨xs, H2, I2, r2, q2⟩ => ⟨x :: xs, H2, I2, .cons r1 r2, q2⟩
def dq (t : TA) : TE := λ σ H Q => t σ H λ xs H1 => xs.length <= sizeLine /\ ∀ p, H1 p = none -> Q (.ref p) (ao H1 p (.tup xs))
def fe (t : TA) : TE := λ σ H Q => t σ H λ xs H1 => xs.length <= sizeLine /\ ∀ p, H1 p = none -> Q (.ref p) (ao H1 p (.lst xs))
theorem aO {x1} (h : PA X es t) : PE X (.Tuple es x1 pos) (dq t) := by
 intro pins s σ H Q I hq;refine wpAny_Tuple_spliced (ax (h pos pins s σ H _ I hq) λ us s1 ⟨xs, H1, I1, r, z, q⟩ => ⟨by rw [<- r.length]; exact z, ?_⟩)
 have hf : H1 s1.heap.objs.size = none := I1.Ē.fresh (Å _);refine ⟨.ref s1.heap.objs.size, ao H1 s1.heap.objs.size (.tup xs), I1.laid (t' := s1.toks) (λ b u e => Á _ e) (Å _) ?_, rfl, q _ hf⟩;exact ⟨z, us, r, ⟨_, Ê _ rfl, rfl, _, rfl⟩⟩
theorem cK (h : PA X es t) : PE X (.List es pos) (fe t) := by
 intro pins s σ H Q I hq;refine wpAny_List_spliced (ax (h pos pins s σ H _ I hq) λ us s1 ⟨xs, H1, I1, r, z, q⟩ => ⟨by rw [<- r.length]; exact z, ?_⟩)
 have hf : H1 s1.heap.objs.size = none := I1.Ē.fresh (Å _);refine ⟨.ref s1.heap.objs.size, ao H1 s1.heap.objs.size (.lst xs), I1.laid (t' := s1.toks) (λ b u e => Á _ e) (Å _) ?_, rfl, q _ hf⟩;exact ⟨z, us, 0, r, Ê _ rfl⟩
end
abbrev Sp := List V -> Hp -> VK -> XK -> Prop
abbrev mK := List Env -> Hp -> Shared -> XK -> Value -> Shared -> Prop
structure HF (P : Program) (w : World) (K : PySem.W.Frag) (mg : bE) (base : Heap) (A : Around) (outer : List Env) (s : Shared) (H : Hp) : Prop where
 frames : A.frames = some outer
 mod : Mod K mg base
 bs : ∀ b o, base.get? b = some o -> s.heap.get? b = some o /\ H b = none
 IY : base.objs.size <= s.heap.objs.size
 m_ : s.heap.FunFrames base outer
 KQ : ∀ b ∈ i5 outer, H b = none
 Ē : ŷ P w H s.heap
 bare : AllBare s.gens
def CE (outer : List Env) (P : Program) (w : World) (H : Hp) (s : Shared) (Q : VK) (u : Value) (s' : Shared) : Prop :=
 ∃ v H', s'.os = s.os /\ AllBare s'.gens /\ Un (i5 outer) [] H H' s.heap s'.heap /\ ŷ P w H' s'.heap /\ RelV v u /\ Q v H'
def CR (CX : mK) (outer : List Env) (P : Program) (w : World) (H : Hp) (s : Shared) (Q : VK) (E : XK) (r : Result) (s' : Shared) : Prop :=
 match r with
 | .ok (.ret u) => CE outer P w H s Q u s'
 | .ok _ => False
 | .error e => CX outer H s E e s'
structure az (P : Program) (w : World) (K : PySem.W.Frag) (mg : bE) (base : Heap) (CX : mK) (k : Nat) (f : Addr) (fd : FuncData) (ps : List Str) (sp : Sp) : Prop where
 len : ∀ vs H Q E, sp vs H Q E -> vs.length = ps.length
 run : ∀ (A : Around) (outer : List Env) (s : Shared) (H : Hp) (args : Args) (us : List Value) (vs : List V) (Q : VK) (E : XK), ċ k A -> HF P w K mg base A outer s H -> BindsTo s fd args (ps.zip us) -> Vals vs us -> sp vs H Q E ->
  codeAny (model P w) A (.call (.ref f) args) (CR CX outer P w H s Q E) s
theorem HF.make {P : Program} {w : World} {K : PySem.W.Frag} {mg : bE} {base : Heap} {A : Around} {outer : List Env} {s : Shared} {H : Hp} (e : HF P w K mg base A outer s H) (C : Addr) (us : List Value) (kw : List (Str × Value)) :
  HF P w K mg base (A.under (.builtin "type.__call__" ⟨.ref C :: us, kw⟩)) outer s H := ⟨by first | exact e.frames | (simpa [Around.under, Code.envs, Code.isFrame, pushEnvs] using e.frames), e.mod, e.bs, e.IY, e.m_, e.KQ, e.Ē, e.bare⟩
section
variable {X : Cx} {pins : List (Addr × Obj)} {σ : St} {H : Hp} {s s' : Shared}
theorem Inv.MD (I : Inv X pins σ H s) : HF X.prog X.w X.K X.mg X.base X.A X.stack s H :=
 ⟨I.ok.frames, I.ok.mod, I.bs, Ú I.ok.IY I.sz, I.stack, I.o_, I.Ē, I.bare⟩
theorem Inv.after {Q : VK} {u : Value} (I : Inv X pins σ H s) (h : CE X.stack X.prog X.w H s Q u s') : EP X pins σ Q u s' := by
 obtain ⟨v, H', os, bare, un, Ē, r, q⟩ := h;obtain ⟨hh, g, d, t, ı⟩ := s';obtain rfl : ı = s.os := os;exact ⟨v, H', I.call (h' := hh) (g' := g) (d' := d) (t' := t) (ch := []) un Ē bare (λ b z => absurd z (by simp)), r, q⟩
end
def cC (sp : Sp) (JV : List V) (E : XK) (t : TA) : TE := λ σ H Q => t σ H λ vs H1 => sp (vs ++ JV) H1 Q E
def Binds (K : PySem.W.Frag) (fd : FuncData) (ps : List Str) (ds : List Value) : Prop :=
 ∀ (s : Shared) (us : List Value), K.In s.heap -> (us ++ ds).length = ps.length -> BindsTo s fd ⟨us, []⟩ (ps.zip (us ++ ds))
theorem Binds.all {K : PySem.W.Frag} {fd : FuncData} {ps : List Str} (h : ∀ us : List Value, us.length = ps.length -> bindArgs fd ⟨us, []⟩ = pure (ps.zip us)) : Binds K fd ps [] := λ s us _ hl => by
 rw [ã] at hl ⊢;exact .of_eq (h us hl)
def gg (CX : mK) (X : Cx) (E : XK) : Prop := ∀ (pins : List (Addr × Obj)) (σ : St) (H : Hp) (s : Shared) (e : Value) (s' : Shared), Inv X pins σ H s -> CX X.stack H s E e s' -> X.xe e s'
section
variable {X : Cx} {CX : mK} {k : Nat} {f C : Addr} {fd : FuncData} {ps : List Str} {sp : Sp} {JV : List V} {ds : List Value} {E : XK} {x m : Str} {p pos ż : Pos} {e o : Expr} {es : List Expr} {ta : TE} {t : TA}
theorem yH {pins : List (Addr × Obj)} {σ : St} {H : Hp} {s : Shared} {Q : VK} {us : List Value} {vs : List V} (F : az X.prog X.w X.K X.mg X.base CX k f fd ps sp) (hr : ċ k X.A) (hb : Binds X.K fd ps ds) (hd : Vals JV ds) (hx : gg CX X E)
  (I : Inv X pins σ H s) (r : Vals vs us) (h : sp (vs ++ JV) H Q E) : wpAny (model X.prog X.w) X.A (call (.ref f) us) (EP X pins σ Q) X.xe s := by
 have r2 : Vals (vs ++ JV) (us ++ ds) := r.append hd;have hl : (us ++ ds).length = ps.length := by rw [<- r2.length]; exact F.len _ _ _ _ h
 refine F' (F_ (F.run X.A X.stack s H ⟨us, []⟩ (us ++ ds) (vs ++ JV) Q E hr I.MD (hb s us I.Ω hl) r2 h) λ r s' hq => ?_);cases r with
 | error e => exact hx pins σ H s e s' I hq
 | ok fl =>
  cases fl with
  | ret u => exact I.after hq
  | next => exact False.elim hq
  | brk => exact False.elim hq
  | cont => exact False.elim hq
theorem gQ (F : az X.prog X.w X.K X.mg X.base CX k f fd ps sp) (hr : ċ k X.A) (hg : Gl X x) (hm : X.mg x = some (.ref f)) (hk : PySem.W.keepIn X.K (.ref f) = true) (hb : Binds X.K fd ps ds) (hd : Vals JV ds) (hx : gg CX X E)
  (ha : PA X (e :: es) t) (G7 : (x == ("__debug__" : Str)) = false := by decide) (he : starEach (e :: es) X.env = (false, eval e X.env) :: starEach es X.env := by rfl) (l_ : (backTo pos (starEach es X.env)).any (·.1) = false := by rfl) :
  PE X (.Call (.Name x p) (e :: es) [] pos) (cC sp JV E t) := by
 intro pins s σ H Q I h;refine δ (gZ I hg hm ?_ G7);refine PySem.W.callWith_K (h₀ := X.base) I.ok.mod.MY hk (ax (ha pos pins s σ H _ I h) λ us s1 ⟨vs, H1, I1, r, q⟩ => ⟨I1.Ω, ?_⟩) he l_;exact yH F hr hb hd hx I1 r q
end
structure af (N P : List Str) (sc : Scope) : Prop where
 kind : sc.kind = .function
 co : sc.isCoroutine = false
 gen : sc.isGenerator = false
 nd : N.Nodup
 pre : N.take P.length = P
 par : ∀ x ∈ P, sc.names.lookup x = some .local \/ sc.names.lookup x = some .cell
 Hw : ∀ y ∈ sc.names, y.2 ≠ .free
theorem aQ {N P : List Str} {sc : Scope} (a : sc.kind = .function := by rfl) (b : sc.isCoroutine = false := by rfl) (c : sc.isGenerator = false := by rfl) (d : N.Nodup := by decide +kernel) (e : N.take P.length = P := by rfl) (f : ∀ x ∈ P, sc.names.lookup x = some .local \/ sc.names.lookup x = some .cell := by decide +kernel) (g : ∀ y ∈ sc.names, y.2 ≠ .free := by decide +kernel) : af N P sc := ⟨a, b, c, d, e, f, g⟩
theorem i8 {kindOf : Str -> Option NameKind} {x : Str} : ∀ {binds : List (Str × Value)} {m : bE}, (∀ v, (x, v) ∉ binds) -> bindL kindOf binds m x = m x
 | [], _, _ => rfl
 | (n, v) :: r, m, h => by
  unfold bindL;rw [i8 λ w hw => h w (Î _ hw)];split
  ·have : x ≠ n := by rintro rfl; exact h v Ù
   simp [this]
  ·rfl
theorem je {kindOf : Str -> Option NameKind} {x : Str} : ∀ {binds : List (Str × Value)} {m : bE}, (∀ v, (x, v) ∉ binds) -> bindC kindOf binds m x = m x
 | [], _, _ => rfl
 | (n, v) :: r, m, h => by
  unfold bindC;rw [je λ w hw => h w (Î _ hw)];split
  ·rfl
  ·have : x ≠ n := by rintro rfl; exact h v Ù
   simp [this]
theorem i7 {kindOf : Str -> Option NameKind} {x : Str} {v : Value} : ∀ {P : List Str} {vs : List Value} {i : Nat} {m : bE}, P.Nodup -> P[i]? = some x -> vs[i]? = some v -> kindOf x = some .local ->
  bindL kindOf (P.zip vs) m x = some v
 | [], _, _, _, _, h, _, _ => by simp at h
 | _ :: _, [], _, _, _, _, h, _ => by simp at h
 | p :: P, w :: vs, 0, m, nd, h1, h2, hk => by
  simp at h1 h2; subst h1; subst h2;show bindL kindOf ((p, w) :: P.zip vs) m p = _;unfold bindL;rw [i8 λ v hv => (þ.mp nd).1 (HW hv).1, Ô hk];simp
 | p :: P, w :: vs, i + 1, m, nd, h1, h2, hk => by
  show bindL kindOf ((p, w) :: P.zip vs) m x = _;unfold bindL;exact i7 (i := i) (þ.mp nd).2 (by simpa using h1) (by simpa using h2) hk
theorem jf {kindOf : Str -> Option NameKind} {x : Str} {v : Value} : ∀ {P : List Str} {vs : List Value} {i : Nat} {m : bE}, P.Nodup -> P[i]? = some x -> vs[i]? = some v -> kindOf x ≠ some .local ->
  bindC kindOf (P.zip vs) m x = some v
 | [], _, _, _, _, h, _, _ => by simp at h
 | _ :: _, [], _, _, _, _, h, _ => by simp at h
 | p :: P, w :: vs, 0, m, nd, h1, h2, hk => by
  simp at h1 h2; subst h1; subst h2;show bindC kindOf ((p, w) :: P.zip vs) m p = _;unfold bindC;rw [je λ v hv => (þ.mp nd).1 (HW hv).1, É hk];simp
 | p :: P, w :: vs, i + 1, m, nd, h1, h2, hk => by
  show bindC kindOf ((p, w) :: P.zip vs) m x = _;unfold bindC;exact jf (i := i) (þ.mp nd).2 (by simpa using h1) (by simpa using h2) hk
def dB (N : List Str) (vs : List V) : St := vs.map some ++ List.replicate (N.length - vs.length) none
def aU (CX : mK) (P : Program) (w : World) (K : PySem.W.Frag) (mg : bE) (base : Heap) (N : List Str) (qual : Str) (scope : Scope) (f : Addr) (cd : Value) (A : Around) (outer : List Env) (s : Shared) (H : Hp) (E : XK) : Cx where
 prog := P
 w := w
 K := K
 mg := mg
 base := base
 A := A.deeper (envOfC qual scope s.heap.objs.size f cd)
 N := N
 ő := s
 IZ := H
 env := envOfC qual scope s.heap.objs.size f cd
 outer := outer
 stack := envOfC qual scope s.heap.objs.size f cd :: outer
 ex := []
 calm := true
 fn := λ _ => true
 pn := []
 xe := λ e s' => wpAny (model P w) (A.deeper (envOfC qual scope s.heap.objs.size f cd)) (leaving (envOfC qual scope s.heap.objs.size f cd) e) (λ _ NO => CX outer H s E e NO) (λ e' NO => CX outer H s E e' NO) s'
theorem lI {sc : Scope} {n : Nat} {x : Str} (h : sc.names.lookup x = some .cell) : ∃ c, (cellsFrom n sc.names []).lookup x = some c := by
 have q := JZ sc.names n [] (.inl h);exact œ.mp q
theorem pE {CX : mK} {P : Program} {w : World} {K : PySem.W.Frag} {mg : bE} {base : Heap} {N ps : List Str} {qual : Str} {scope : Scope} {f : Addr} {cd : Value} {A : Around} {outer : List Env} {s s1 : Shared} {H : Hp} {E : XK} {us : List Value} {vs : List V}
  (S : af N ps scope) (hd : A.handled = none) (e0 : HF P w K mg base A outer s H) (hl : vs.length = ps.length) (r : Vals vs us)
  (x : InCallC s s.heap.objs.size (bindL (envOfC qual scope s.heap.objs.size f cd).kindOf (ps.zip us) λ _ => none) (cellsFrom (s.heap.objs.size + 1) scope.names []) (bindC (envOfC qual scope s.heap.objs.size f cd).kindOf (ps.zip us) λ _ => none) s1) :
  Inv (aU CX P w K mg base N qual scope f cd A outer s H E) [] (dB N vs) H s1 := by
 have l_ : ps.length <= N.length := by have := Ė List.length S.pre; rw [Ŋ] at this; omega
 obtain ⟨h1, tk, rfl, hk⟩ := x.done;have L6 : ∀ b : Addr, b ∉ (aU CX P w K mg base N qual scope f cd A outer s H E).ex := λ b z => absurd (show b ∈ ([] : List Addr) from z) (by simp)
 refine ⟨⟨e0.mod, S.kind, rfl, rfl, Å _, λ y z c h1 h2 => ?_, λ y hy => ?_, λ y c _ h => ?_, λ _ => hd, Around.frames_deeper e0.frames, .inr ⟨rfl, rfl⟩, λ b z => absurd z (L6 b), e0.bs, e0.IY, λ b _ _ => L6 b, λ b z => absurd z (L6 b), e0.m_, e0.KQ⟩,
  rfl, e0.bare, Un.kept hk, ⟨_, x.toInCall.ns, λ i y v h1 h2 h3 => ?_⟩, λ y c h => ⟨_, x.cell y c h⟩, e0.Ē.fresh (Å _), λ y c h => ?_, λ p hp => absurd (show p ∈ ([] : List (Addr × Obj)) from hp) (by simp), e0.Ē.kept hk, ?_⟩
 ·exact name_of_addr x.apart (ā h1) (ā h2)
 ·have hy : scope.names.lookup y = some .cell \/ scope.names.lookup y = some .free := hy;rcases hy with hy | hy
  ·exact lI hy
  ·exact absurd rfl (S.Hw _ (ā hy))
 ·exact J7 (x.above y c (ā h))
 ·have hi : i < vs.length := by
   unfold dB at h2;by_cases hi : i < vs.length
   ·exact hi
   ·rw [ſ (by simpa using hi)] at h2
    rw [JF] at h2;split at h2 <;> cases h2
  have ha : vs[i]? = some v := by
   unfold dB at h2;rw [Ja (by simpa using hi), List.getElem?_map] at h2
   cases e : vs[i]? with
   | none => rw [e] at h2; cases h2
   | some a => rw [e] at h2; cases h2; rfl
  obtain ⟨u, hu, rv⟩ := r.get ha;have hp : ps[i]? = some y := by
   rw [<- S.pre, List.getElem?_take_of_lt ae]; exact h1
  have Qq : ps.Nodup := by rw [<- S.pre]; exact S.nd.sublist (List.take_sublist _ _)
  refine ⟨u, rv, ?_⟩;rcases S.par y (á hp) with k | k
  ·exact .inl ⟨k, i7 Qq hp hu k⟩
  ·obtain ⟨c, e⟩ := lI (n := s.heap.objs.size + 1) k;refine .inr ⟨.inl k, c, e, ?_⟩;have q := x.cell y c e;rw [jf Qq hp hu (by show scope.names.lookup y ≠ _; rw [k]; decide)] at q
   exact q
 ·exact e0.Ē.fresh (J7 (x.above y c (ā h)))
 ·unfold dB;show _ = N.length;rw [Ì, Æ, ç];omega
theorem vo {CX : mK} {P : Program} {w : World} {K : PySem.W.Frag} {mg : bE} {base : Heap} {k : Nat} {f : Addr} {name qual : Str} {params : Arguments} {body : List Stmt} {scope : Scope} {dV kV doc pm ò ct oc : Value} {an od : Option Addr}
  {Jq : Array (Option Value)} {N ps : List Str} {sp : Sp} (lk : K.lookup f = some ⟨oc, od, .func (PySem.W.fnOf name qual params body scope dV kV doc pm an ò ct), Jq⟩) (Ih : PySem.W.codeIn K ò qual = true) (S : af N ps scope)
  (len : ∀ vs H Q E, sp vs H Q E -> vs.length = ps.length)
  (ς : ∀ (A : Around) (outer : List Env) (s : Shared) (H : Hp) (vs : List V) (Q : VK) (E : XK), ċ k (A.deeper (envOfC qual scope s.heap.objs.size f ò)) -> sp vs H Q E ->
   ∃ t, f_ (aU CX P w K mg base N qual scope f ò A outer s H E) body t /\ t { nx := λ _ H' => Q .ĉ H', rt := Q } (dB N vs) H) :
  az P w K mg base CX (k + 1) f (PySem.W.fnOf name qual params body scope dV kV doc pm an ò ct) ps sp := by
 refine ⟨len, λ A outer s H args us vs Q E hr e0 hb r Ig => ?_⟩;have hl := len _ _ _ _ Ig;have KX : K.In s.heap := e0.mod.MY.keeps λ b o e => (e0.bs b o e).1;have lim : s.heap.NoLimit := e0.mod.nolimit.keeps λ b o e => (e0.bs b o e).1;have Mu : ∀ y ∈ ps.zip us, scope.names.lookup y.1 = some .local \/ (scope.names.lookup y.1 = some .cell /\ ((cellsFrom (s.heap.objs.size + 1) scope.names []).lookup y.1).isSome = true) := λ ⟨n, v⟩ hy => by
  rcases S.par n (HW hy).1 with q | q
  ·exact .inl q
  ·exact .inr ⟨q, JZ _ _ _ (.inl q)⟩
 refine codeAny_call_function hr.depth (KX _ _ lk) rfl S.co S.gen rfl (PySem.W.codeRec_of KX Ih) (hb _ _ _ _ ?_);refine wpAny_newFunctionEnv_cells S.kind Mu λ env he s1 x => ?_;subst he;refine ⟨lim.keeps x.toInCall.keep, codeAny_func ?_⟩;obtain ⟨t, ht, hq⟩ := ς A outer s H vs Q E (hr.deeper _) Ig;have I : Inv (aU CX P w K mg base N qual scope f ò A outer s H E) [] (dB N vs) H s1 := pE S hr.hd e0 hl r x;refine Ü (ht [] s1 (dB N vs) H _ I hq) (λ fl s' hs => ?_) λ e s' hs => hs;have fin : ∀ {ĝ : St} {H' : Hp} {v : V} {u : Value}, Inv (aU CX P w K mg base N qual scope f ò A outer s H E) [] ĝ H' s' -> RelV v u -> Q v H' -> CE outer P w H s Q u s' :=
  λ {ĝ H' v u} J rv q => ⟨v, H', J.os, J.bare, J.base, J.Ē, rv, q⟩
 cases fl with
 | ret u =>
  obtain ⟨v, ĝ, H', J, rv, q⟩ := hs;exact fin J rv q
 | next =>
  obtain ⟨ĝ, H', J, q⟩ := hs;exact fin (v := V.ĉ) (u := Value.none) J rfl q
 | brk =>
  obtain ⟨_, _, _, q⟩ := hs;exact False.elim q
 | cont =>
  obtain ⟨_, _, _, q⟩ := hs;exact False.elim q
section
variable {X : Cx} {x : Str} {p pos : Pos} {e : Expr} {es : List Expr} {t : TA} {id T : String} {r : List V -> Hp -> VK -> Prop}
def gI (r : List V -> Hp -> VK -> Prop) (t : TA) : TE := λ σ H Q => t σ H λ vs H1 => r vs H1 Q
theorem ak (hc : ce X (.builtin id) r) (hg : Gl X x) (hm : X.mg x = none) (hv : bootBuiltins x = some (.builtin id)) (ha : PA X (e :: es) t) (hn : x ≠ "__name__" := by decide) (G7 : (x == ("__debug__" : Str)) = false := by decide)
  (he : starEach (e :: es) X.env = (false, eval e X.env) :: starEach es X.env := by rfl) (l_ : (backTo pos (starEach es X.env)).any (·.1) = false := by rfl) : PE X (.Call (.Name x p) (e :: es) [] pos) (gI r t) := by
 intro pins s σ H Q I h;refine δ (gi I hg hm hv ?_ hn G7);exact Hj (ax (ha pos pins s σ H _ I h) λ us s1 ⟨vs, H1, I1, r1, q1⟩ => hc pins s1 σ H1 vs us Q I1 r1 q1) he l_
theorem cz (hc : ce X (.type T) r) (hg : Gl X x) (hm : X.mg x = none) (hv : bootBuiltins x = some (.type T)) (ha : PA X (e :: es) t) (hn : x ≠ "__name__" := by decide) (G7 : (x == ("__debug__" : Str)) = false := by decide)
  (he : starEach (e :: es) X.env = (false, eval e X.env) :: starEach es X.env := by rfl) (l_ : (backTo pos (starEach es X.env)).any (·.1) = false := by rfl) : PE X (.Call (.Name x p) (e :: es) [] pos) (gI r t) := by
 intro pins s σ H Q I h;refine δ (gi I hg hm hv ?_ hn G7);exact Ŀ (ax (ha pos pins s σ H _ I h) λ us s1 ⟨vs, H1, I1, r1, q1⟩ => hc pins s1 σ H1 vs us Q I1 r1 q1) he l_
end
end L2
namespace HT
open PySem PyProof.Rows
section
variable {prog : Program} {w : World} {A : Around} {E : bM} {s : Shared}
def ų (n d : Nat) : Option Int -> Nat
 | none => d
 | some v => if v < 0 then (v + (n : Int)).toNat else min v.toNat n
theorem yz (n d : Nat) (hd : d <= n) (o : Option Int) : ų n d o <= n := by
 cases o with
 | none => exact hd
 | some v =>
  show (if v < 0 then (v + (n : Int)).toNat else min v.toNat n) <= n
  by_cases hv : v < 0
  ·rw [Ô hv]; omega
  ·rw [É hv]; exact Hq _ _
theorem nQ (v : Int) (n d : Nat) : (if v < 0 then max (v + (n : Int)) 0 else min v (n : Int)) = ((ų n d (some v) : Nat) : Int) := by
 show (if v < 0 then max (v + (n : Int)) 0 else min v (n : Int)) = (((if v < 0 then (v + (n : Int)).toNat else min v.toNat n) : Nat) : Int)
 by_cases hv : v < 0
 ·simp only [if_pos hv]; omega
 ·simp only [if_neg hv]; omega
theorem mv (lo hi : Option Int) (n : Nat) : Builtin.Slice.sliceAdjust lo hi 1 (n : Int) = (((ų n 0 lo : Nat) : Int), ((ų n n hi : Nat) : Int)) := by
 have h1 : ¬ ((1 : Int) < 0) := ae;unfold Builtin.Slice.sliceAdjust;simp only [h1, if_false];refine Prod.ext ?_ ?_
 ·cases lo with
  | none => rfl
  | some v => exact nQ v n 0
 ·cases hi with
  | none => rfl
  | some v => exact nQ v n n
theorem mj (i j : Nat) : Builtin.Slice.slicePlaces (i : Int) (j : Int) 1 = j - i := by
 unfold Builtin.Slice.slicePlaces;have h1 : (1 : Int) > 0 := ae;simp only [h1, if_true, Int.ediv_one];split <;> omega
theorem iF {v : Value} {o : Option Int} {Q : Option Int -> Shared -> Prop} (p : IsPart v o) (h : Q o s) : wpAny (model prog w) A (Builtin.Slice.slicePartIndex v) Q E s := by
 cases p with
 | none => exact slicePart_none h
 | int i t => exact slicePart_int h
theorem gf {sl : Addr} {vl vu : Value} {lo hi : Option Int} {n : Nat} {Q : Int × Int × Nat -> Shared -> Prop} (hs : s.heap.IsSliceOf sl vl vu .none) (pl : IsPart vl lo) (pu : IsPart vu hi)
  (h : Q (((ų n 0 lo : Nat) : Int), 1, ų n n hi - ų n 0 lo) s) : wpAny (model prog w) A (Builtin.Slice.sliceApplied (.ref sl) (pure (n : Int))) Q E s := by
 obtain ⟨os, Mo, QJ, M'⟩ := id hs;unfold Builtin.Slice.sliceApplied Builtin.Slice.sliceFields;refine À (À (ó Mo M' (x := vl) rfl (À (ó Mo M' (x := vu) rfl (À (ó Mo M' (x := .none) rfl (Â ?_)))))));refine À (slicePart_none ?_);show wpAny _ _ (if ((1 : Int) == 0) = true then _ else _) _ _ s
 rw [É ag];refine À (iF pl (À (iF pu (À (Â ?_)))));show wpAny _ _ (match Builtin.Slice.sliceAdjust lo hi 1 (n : Int) with | (lo, hi) => pure (lo, (1 : Int), Builtin.Slice.slicePlaces lo hi 1)) _ _ s
 rw [mv lo hi n];show wpAny _ _ (pure (((ų n 0 lo : Nat) : Int), (1 : Int), Builtin.Slice.slicePlaces ((ų n 0 lo : Nat) : Int) ((ų n n hi : Nat) : Int) 1)) _ _ s;rw [mj];exact Â h
theorem sx (xs : Array Value) (i k : Nat) : ((List.range k).filterMap λ (m : Nat) => xs[((i : Int) + (m : Int) * 1).toNat]?).toArray = ((xs.toList.drop i).take k).toArray := by
 have e : (λ (m : Nat) => xs[((i : Int) + (m : Int) * 1).toNat]?) = λ m => xs[i + m]? := by
  funext m
  have : ((i : Int) + (m : Int) * 1).toNat = i + m := ae;rw [this]
 rw [e];have := pick_run xs i k;rw [List.filterMap_map] at this;have e2 : ((λ x => xs[x]?) ∘ λ x => i + x) = λ m => xs[i + m]? := rfl;rw [e2] at this;rw [this]
theorem τ {t sl : Addr} {items : Array Value} {vl vu : Value} {lo hi : Option Int} {Q : bM} (ht : IsTup s.heap t items) (hs : s.heap.IsSliceOf sl vl vu .none) (pl : IsPart vl lo) (pu : IsPart vu hi)
  (hw : ¬ (ų items.size 0 lo = 0 /\ ų items.size items.size hi = items.size))
  (h : Q (.ref s.heap.objs.size) { s with heap := s.heap.push { cls := .type "tuple", data := .seq ((items.toList.drop (ų items.size 0 lo)).take (ų items.size items.size hi - ų items.size 0 lo)).toArray } })
  (hsz : items.size <= sizeLine) : wpAny (model prog w) A (getItem (.ref t) (.ref sl)) Q E s := by
 have HN : sizeOk (.seq ((items.toList.drop (ų items.size 0 lo)).take (ų items.size items.size hi - ų items.size 0 lo)).toArray) := by
  show ((items.toList.drop (ų items.size 0 lo)).take (ų items.size items.size hi - ų items.size 0 lo)).toArray.size <= sizeLine;rw [Û, Ŋ, List.length_drop, Array.length_toList];omega
 have hj : ų items.size items.size hi <= items.size := yz _ _ (Å _) hi;obtain ⟨os, Mo, QJ, M'⟩ := id hs;have Uz : s.TypeIs (.ref sl) "slice" := ⟨os, Mo, QJ⟩;unfold getItem
 try with_reducible refine ï ?_
 first | refine À (Â ?_) | skip
 refine À (wpAny_sequenceKey ht.typeIs ag ?_);refine À (ć (name := Str.ofString "__getitem__") ht.typeIs Ţ
  (ă Ţ ht.typeIs entry_tuple_getitem ?_ (args_tuple_getitem _ _)))
 show wpAny _ _ (Builtin.Tuple.tupleItemsOf (.ref t) >>= _) _ _ s;refine À (tupleItemsOf_ ht ?_);refine À (wpAny_typeOf Uz ?_);rw [Ô ag];refine À (gf hs pl pu ?_);have Ug : ¬ ((((ų items.size 0 lo : Nat) : Int) == 0 && (1 : Int) == 1 && (ų items.size items.size hi - ų items.size 0 lo) == items.size) = true) := by
  intro q;rw [Ā, Ā] at q;have q1 : ((ų items.size 0 lo : Nat) : Int) = 0 := eq_of_beq q.1.1;have q2 : ų items.size items.size hi - ų items.size 0 lo = items.size := eq_of_beq q.2;exact hw ⟨ae, ae⟩
 show wpAny _ _ (if (((ų items.size 0 lo : Nat) : Int) == 0 && (1 : Int) == 1 && (ų items.size items.size hi - ų items.size 0 lo) == items.size) = true then _ else _) _ _ s
 rw [É Ug, sx]
 first
  | exact À (m := Builtin.Tuple.tupleExact _) (Ý (Â ⟨_, rfl, Â h⟩) HN)
  | exact À (m := Builtin.Tuple.tupleExact _) (Ý (À (Â (Â ⟨_, rfl, Â h⟩))) HN)
  | exact À (À (m := Builtin.Tuple.tupleExact _) (Ý (Â (Â ⟨_, rfl, Â h⟩)) HN))
  | exact À (À (m := Builtin.Tuple.tupleExact _) (Ý (Â ⟨_, rfl, Â h⟩) HN))
end
end HT
namespace L2
open PySem PySem.Spec PyProof.Rows
abbrev TO := St -> Hp -> (Option Int -> Hp -> Prop) -> Prop
def PO (X : Cx) (e : Option Expr) (t : TO) : Prop :=
 ∀ (pins : List (Addr × Obj)) (s : Shared) (σ : St) (H : Hp) (Q : Option Int -> Hp -> Prop), Inv X pins σ H s -> t σ H Q ->
  wpAny (model X.prog X.w) X.A (evalPart e X.env) (λ u s' => ∃ o H', Inv X pins σ H' s' /\ IsPart u o /\ Q o H') X.xe s
def n9 : TO := λ _ H Q => Q none H
def vj (t : TE) : TO := λ σ H Q => t σ H λ x H1 => ∃ i, x = .int i /\ Q (some i) H1
section
variable {X : Cx} {e : Expr} {te : TE} {lo hi : Option Expr} {tl th : TO} {pos p2 : Pos}
theorem tV : PO X none n9 := by
 intro pins s σ H Q I h;rw [evalPart_none];exact Â ⟨none, H, I, .none, h⟩
theorem sT (h : PE X e te) : PO X (some e) (vj te) := by
 intro pins s σ H Q I hw;rw [evalPart_some];refine ax (h pins s σ H _ I hw) λ u s1 ⟨x, H1, I1, r1, q1⟩ => ?_;obtain ⟨i, rfl, q⟩ := q1;obtain ⟨t, rfl⟩ := r1;exact ⟨some i, H1, I1, .int i t, q⟩
def FA (X : Cx) (r : V -> Option Int -> Option Int -> Hp -> VK -> Prop) : Prop :=
 ∀ (pins : List (Addr × Obj)) (s : Shared) (σ : St) (H : Hp) (x : V) (v vl vu : Value) (lo hi : Option Int) (sl : Addr) (Q : VK), Inv X pins σ H s -> RelV x v -> s.heap.IsSliceOf sl vl vu .none -> IsPart vl lo -> IsPart vu hi -> r x lo hi H Q ->
  ∃ T id, typeLookup (.type T) "__getitem__" = pure (some (.builtin id)) /\ s.TypeIs v T /\ wpAny (model X.prog X.w) X.A (getItem v (.ref sl)) (EP X pins σ Q) X.xe s
def EN (r : V -> Option Int -> Option Int -> Hp -> VK -> Prop) (te : TE) (tl th : TO) : TE := λ σ H Q => te σ H λ x H1 => tl σ H1 λ l H2 => th σ H2 λ u H3 => r x l u H3 Q
theorem qW {r : V -> Option Int -> Option Int -> Hp -> VK -> Prop} (hr : FA X r) (he : PE X e te) (hl : PO X lo tl) (hu : PO X hi th) : PE X (.Subscript e (.Slice lo hi none p2) pos) (EN r te tl th) := by
 intro pins s σ H Q I h;refine Subscript_ (ax (he pins s σ H _ I h) λ v s1 ⟨x, H1, I1, r1, q1⟩ => ?_);refine wpAny_Slice (ax (hl pins s1 σ H1 _ I1 q1) λ vl s2 ⟨l, H2, I2, pl, q2⟩ => ax (hu pins s2 σ H2 _ I2 q2) λ vu s3 ⟨u, H3, I3, pu, q3⟩ => ?_);rw [evalPart_none];refine Â ?_;have I4 : Inv X pins σ H3 { s3 with heap := s3.heap.push { cls := .type "slice", data := .fields #[vl, vu, .none] } } := I3.kept (t' := s3.toks) λ b ob q => Á _ q
 obtain ⟨T, id, hT, ht, hg⟩ := hr pins { s3 with heap := s3.heap.push { cls := .type "slice", data := .fields #[vl, vu, .none] } } σ H3 x v vl vu l u s3.heap.objs.size Q I4 r1 (Heap.IsSliceOf.new ..) pl pu q3;show wpAny (model X.prog X.w) X.A (subscriptTail e (.Slice lo hi none p2) v (.ref s3.heap.objs.size)) (EP X pins σ Q) X.xe { s3 with heap := s3.heap.push { cls := .type "slice", data := .fields #[vl, vu, .none] } }
 exact tail_any (ops := [.ref s3.heap.objs.size, v]) ht hT hg (by with_unfolding_all rfl)
def mS (xs : List V) (lo hi : Option Int) : List V := (xs.drop (HT.ų xs.length 0 lo)).take (HT.ų xs.length xs.length hi - HT.ų xs.length 0 lo)
theorem lq (xs : List V) (lo hi : Option Int) : (mS xs lo hi).length <= xs.length := by
 unfold mS;rw [Ŋ, List.length_drop];omega
def zg (K : PySem.W.Frag) : V -> Option Int -> Option Int -> Hp -> VK -> Prop := λ x lo hi H Q => ∃ a xs, x = .ref a /\ ą K H a xs /\
 ¬ (HT.ų xs.length 0 lo = 0 /\ HT.ų xs.length xs.length hi = xs.length) /\ ∀ p, H p = none -> Q (.ref p) (ao H p (.tup (mS xs lo hi)))
theorem xV : FA X (zg X.K) := by
 intro pins s σ H x v vl vu lo hi sl Q I rx hs pl pu h;obtain ⟨a, xs, rfl, hx, hw, q⟩ := h;cases rx;obtain ⟨its, r, ht, hz⟩ := I.tuple hx;have ņ : its.toArray.size = xs.length := by rw [Û]; exact r.length.symm
 refine ⟨"tuple", _, Ţ.lookup, ht.typeIs, ?_⟩;refine HT.τ ht hs pl pu (by rw [ņ]; exact hw) ?_ (by rw [ņ]; exact hz)
 rw [ņ];refine ⟨.ref s.heap.objs.size, _, I.laid (t' := s.toks) (o := .tup (mS xs lo hi)) (λ b ob q => Á _ q) (Å _) ?_, rfl, q _ (I.Ē.fresh (Å _))⟩;exact ⟨Ú (lq xs lo hi) hz, _, (r.drop (HT.ų xs.length 0 lo)).take (HT.ų xs.length xs.length hi - HT.ų xs.length 0 lo), IsTup.new _ _⟩
end
def sw (n : Nat) (i : Int) : Option Nat := if 0 <= i then (if i < n then some i.toNat else none) else if -(n : Int) <= i then some (i + n).toNat else none
def lW {α : Type} (xs : List α) (i : Int) : Option α := (sw xs.length i).bind λ j => xs[j]?
theorem np {n : Nat} {i : Int} {j : Nat} (h : sw n i = some j) : seqIndex? i n = some j /\ j < n /\ -(n : Int) <= i /\ i < n := by
 unfold sw at h;by_cases h0 : 0 <= i
 ·rw [Ô h0] at h;by_cases h1 : i < n
  ·rw [Ô h1] at h;have e : i.toNat = j := Ò h;exact ⟨by rw [seqIndex_of h0 h1, e], ae, ae, h1⟩
  ·rw [É h1] at h; cases h
 ·rw [É h0] at h;by_cases h1 : -(n : Int) <= i
  ·rw [Ô h1] at h;have e : (i + n).toNat = j := Ò h;exact ⟨by rw [seqIndex_neg ae h1, e], ae, h1, ae⟩
  ·rw [É h1] at h; cases h
theorem nS {α : Type} {xs : List α} {i : Int} {v : α} (h : lW xs i = some v) : ∃ j, seqIndex? i xs.length = some j /\ xs[j]? = some v /\ j < xs.length /\ -(xs.length : Int) <= i /\ i < xs.length := by
 unfold lW at h;cases e : sw xs.length i with
 | none => rw [e] at h; cases h
 | some j =>
  rw [e] at h;obtain ⟨h1, h2, h3, h4⟩ := np e;exact ⟨j, h1, h, h2, h3, h4⟩
theorem vP {α : Type} {xs : List α} {j : Nat} {v : α} (h : xs[j]? = some v) : lW xs (j : Int) = some v := by
 have hj : j < xs.length := (Ø.mp h).1;have e : sw xs.length (j : Int) = some j := by
  unfold sw;rw [Ô ae, Ô ae]; simp
 unfold lW; rw [e]; exact h
theorem kS {α : Type} (xs : List α) (v : α) : lW (xs ++ [v]) (-1) = some v := by
 have hl : (xs ++ [v]).length = xs.length + 1 := by simp
 have e : sw (xs ++ [v]).length (-1) = some xs.length := by
  unfold sw;rw [hl, É ag, Ô ae]
  congr 1
  omega
 unfold lW;rw [e];show (xs ++ [v])[xs.length]? = some v;simp
def jX (b : Expr) : Prop := ∀ o i, subscripted b false o i = operate [o, i] (getItem o i)
def zM (X : Cx) (r : R2) : Prop :=
 ∀ (value slice : Expr) (pins : List (Addr × Obj)) (s : Shared) (σ : St) (H : Hp) (x y : V) (v u : Value) (Q : VK), Inv X pins σ H s -> RelV x v -> RelV y u -> r x y H Q ->
  subscripted slice false v u = operate [v, u] (getItem v u) -> wpAny (model X.prog X.w) X.A (subscriptTail value slice v u) (EP X pins σ Q) X.xe s
def Dr (X : Cx) (id : String) (r : V -> List V -> Hp -> VK -> Prop) : Prop :=
 ∀ (pins : List (Addr × Obj)) (s : Shared) (σ : St) (H : Hp) (x : V) (xs : List V) (v : Value) (us : List Value) (Q : VK), Inv X pins σ H s -> RelV x v -> Vals xs us -> r x xs H Q ->
  wpAny (model X.prog X.w) X.A (call (.builtin id) (v :: us)) (EP X pins σ Q) X.xe s
section
variable {X : Cx} {a b : Expr} {ta tb : TE} {pos : Pos}
theorem zJ {r : R2} (hr : zM X r) (ha : PE X a ta) (hb : PE X b tb) (hs : jX b) : PE X (.Subscript a b pos) (aZ r ta tb) := by
 intro pins s σ H Q I h;exact Subscript_ (wW ha hb I h λ v u s2 x y H2 I2 rx ry q => hr a b pins s2 σ H2 x y v u Q I2 rx ry q (hs _ _))
theorem cq {r : R2} (hr : zM X r) (ha : PE X a ta) (hb : PE X b tb) (hs : jX b := by exact λ _ _ => rfl) : PE X (.Subscript a b pos) (aZ r ta tb) := zJ hr ha hb hs
def kb (K : PySem.W.Frag) : R2 := λ x y H Q => ∃ p xs i v, x = .ref p /\ y = .int i /\ ñ K H p xs /\ lW xs i = some v /\ Q v H
def dE (K : PySem.W.Frag) : R2 := λ x y H Q => ∃ p xs i v, x = .ref p /\ y = .int i /\ ą K H p xs /\ lW xs i = some v /\ Q v H
theorem lS : zM X (kb X.K) := by
 intro value slice pins s σ H x y v u Q I rx ry h hs;obtain ⟨p, xs, i, z, rfl, rfl, hq, he, q⟩ := h;cases rx;obtain ⟨t, rfl⟩ := ry;obtain ⟨its, r, pl, hz⟩ := I.list hq;obtain ⟨j, h1, h2, h3, h4, h5⟩ := nS he;obtain ⟨w, ew, GC⟩ := r.get h2;have hl := r.length;have hn := ip;have fin : EP X pins σ Q w s := ⟨z, H, I, GC, q⟩;by_cases h0 : 0 <= i
 ·have hj : i.toNat = j := by
   rw [seqIndex_of h0 h5] at h1;exact Ò h1
  exact item_listR pl.isList h0 ae (by rw [hj]; simpa using ew) fin hs
 ·have hj : (i + (its.toArray.size : Int)).toNat = j := by
   rw [seqIndex_neg ae h4] at h1;rw [Û, <- hl];exact Ò h1
  exact subscriptTail_builtinR (x := w) pl.isList.typeIs slot_list_getitem.lookup
   (wpAny_getItem_list_neg (Q := λ r s' => r = w /\ EP X pins σ Q r s') pl.isList ae (by rw [Û] <;> omega) ae (by rw [hj]; simpa using ew) ⟨rfl, fin⟩) hs
theorem dG : zM X (dE X.K) := by
 intro value slice pins s σ H x y v u Q I rx ry h hs;obtain ⟨p, xs, i, z, rfl, rfl, hq, he, q⟩ := h;cases rx;obtain ⟨t, rfl⟩ := ry;obtain ⟨its, r, pl, hz⟩ := I.tuple hq;obtain ⟨j, h1, h2, h3, h4, h5⟩ := nS he;obtain ⟨w, ew, GC⟩ := r.get h2;have hl := r.length;have hn := ip;have fin : EP X pins σ Q w s := ⟨z, H, I, GC, q⟩;exact subscriptTail_builtinR (x := w) pl.typeIs slot_tuple_getitem.lookup
  (getItem_tuple (j := j) (Q := λ r s' => r = w /\ EP X pins σ Q r s') pl ae ae (by rw [Û, <- hl]; exact h1) (by simpa using ew) ⟨rfl, fin⟩) hs
theorem mB (its : List Value) (n j : Nat) (u : Value) : Obj.mapSeq (·.setIfInBounds j u) { cls := .type "list", data := .seq its.toArray n } = { cls := .type "list", data := .seq (its.set j u).toArray n } := by
 simp [Obj.mapSeq]
theorem Inv.lst {pins : List (Addr × Obj)} {σ : St} {H : Hp} {s : Shared} {p : Addr} {xs : List V} (I : Inv X pins σ H s) (h : H p = some (.lst xs)) :
  ∃ (its : List Value) (n : Nat), Vals xs its /\ s.heap.get? p = some { cls := .type "list", data := .seq its.toArray n } /\ xs.length <= sizeLine := by
 obtain ⟨z, its, n, r, e⟩ := I.Ē p _ h;exact ⟨its, n, r, e, z⟩
theorem Inv.Kw {pins : List (Addr × Obj)} {σ : St} {H : Hp} {s : Shared} {p : Addr} {xs ys : List V} {its its' : List Value} {n n' : Nat} {f : Obj -> Obj} (I : Inv X pins σ H s) (h : H p = some (.lst xs))
  (ho : s.heap.get? p = some { cls := .type "list", data := .seq its.toArray n }) (hf : f { cls := .type "list", data := .seq its.toArray n } = { cls := .type "list", data := .seq its'.toArray n' }) (r : Vals ys its') (hz : ys.length <= sizeLine) (t : Nat) :
  Inv X pins σ (ao H p (.lst ys)) { s with heap := s.heap.update p f, toks := t } := by
 have e : (s.heap.update p f).get? p = some { cls := .type "list", data := .seq its'.toArray n' } := by
  rw [í f ho (by rw [hf] <;> rfl), hf]
 refine I.write (x := p) (e := p) (by rw [h]; trivial) (.inl rfl) (λ b u hb q => (Heap.get?_update_other _ _ (Ne.symm hb)).trans q) ⟨_, e⟩ ?_
 exact ⟨hz, its', n', r, e⟩
def sv : V -> V -> V -> Hp -> (Hp -> Prop) -> Prop := λ o i v H Q => ∃ p xs k j, o = .ref p /\ i = .int k /\ H p = some (.lst xs) /\ sw xs.length k = some j /\ Q (ao H p (.lst (xs.set j v)))
theorem c7 : wc X sv := by
 intro pins s σ H o i v ov iv u Q I ro ri rv h;obtain ⟨p, xs, k, j, rfl, rfl, hp, hj, q⟩ := h;cases ro;obtain ⟨t, rfl⟩ := ri;obtain ⟨its, n, r, ho, hz⟩ := I.lst hp;obtain ⟨h1, h2, h3, h4⟩ := np hj;have hl := r.length;have hn := ip;have I' : Inv X pins σ (ao H p (.lst (xs.set j v))) { s with heap := s.heap.update p (Obj.mapSeq (·.setIfInBounds j u)) } :=
  I.Kw hp ho (mB its n j u) (r.set rv j) (by rw [List.length_set]; exact hz) s.toks
 by_cases h0 : 0 <= k
 ·have hk : k.toNat = j := by
   rw [seqIndex_of h0 h4] at h1;exact Ò h1
  exact PySem.W.ki_setAt ho h0 ae (by rw [Û, <- hl]; exact h4) (by rw [hk]; exact ⟨_, I', q⟩)
 ·have hk : (k + (its.toArray.size : Int)).toNat = j := by
   rw [seqIndex_neg ae h3] at h1;rw [Û, <- hl];exact Ò h1
  exact PySem.W.ki_setBack ho ae (by rw [Û, <- hl]; exact h3) ae (by rw [hk]; exact ⟨_, I', q⟩)
def dZ : V -> Bool
 | .ĉ => true
 | .bl _ => true
 | .int _ => true
 | .str _ => true
 | _ => false
def yP : V -> V -> Bool
 | .ĉ, .ĉ => true
 | .bl a, .bl b => a == b
 | .bl a, .int b => (if a then 1 else 0) == b
 | .int a, .bl b => a == (if b then 1 else 0)
 | .int a, .int b => a == b
 | .str a, .str b => a == b
 | _, _ => false
theorem wy {A : Around} {s : Shared} {y x : V} {u v : Value} (ry : RelV y u) (rx : RelV x v) (fy : dZ y = true) (fx : dZ x = true) : SeqAt.EqAt A s u v (yP y x) := by
 cases y with
 | ĉ =>
  cases ry;cases x with
  | ĉ => cases rx; exact Š _
  | bl b => cases rx; exact SeqAt.EqAt.none_bool b
  | int b => obtain ⟨t, rfl⟩ := rx; exact SeqAt.EqAt.none_int b t
  | str b => obtain ⟨t, rfl⟩ := rx; exact SeqAt.EqAt.none_str b t
  | _ => exact absurd (show false = true from fx) Ð
 | bl a =>
  cases ry;cases x with
  | ĉ => cases rx; exact SeqAt.EqAt.bool_none a
  | bl b => cases rx; exact SeqAt.EqAt.bool_bool a b
  | int b => obtain ⟨t, rfl⟩ := rx; exact SeqAt.EqAt.bool_int a b t
  | str b => obtain ⟨t, rfl⟩ := rx; exact SeqAt.EqAt.bool_str a b t
  | _ => exact absurd (show false = true from fx) Ð
 | int a =>
  obtain ⟨t', rfl⟩ := ry;cases x with
  | ĉ => cases rx; exact SeqAt.EqAt.int_none a t'
  | bl b => cases rx; exact SeqAt.EqAt.int_bool a t' b
  | int b => obtain ⟨t, rfl⟩ := rx; exact SeqAt.EqAt.int_int a t' b t
  | str b => obtain ⟨t, rfl⟩ := rx; exact SeqAt.EqAt.int_str a t' b t
  | _ => exact absurd (show false = true from fx) Ð
 | str a =>
  obtain ⟨t', rfl⟩ := ry;cases x with
  | ĉ => cases rx; exact SeqAt.EqAt.str_none a t'
  | bl b => cases rx; exact SeqAt.EqAt.str_bool a t' b
  | int b => obtain ⟨t, rfl⟩ := rx; exact SeqAt.EqAt.str_int a t' b t
  | str b => obtain ⟨t, rfl⟩ := rx; exact SeqAt.EqAt.str_str a t' b t
  | _ => exact absurd (show false = true from fx) Ð
 | _ => exact absurd (show false = true from fy) Ð
theorem aq : ce X (.builtin "len") (λ xs H Q => ∃ p ys, xs = [.ref p] /\ (ñ X.K H p ys \/ ą X.K H p ys) /\ Q (.int ys.length) H) := by
 intro pins s σ H xs us Q I r h;obtain ⟨p, ys, rfl, hq, q⟩ := h;obtain ⟨u, rfl, rx⟩ := cW r;cases rx;have hn := ip;rcases hq with hq | hq
 ·obtain ⟨its, r', pl, hz⟩ := I.list hq;have ņ := r'.length;exact Calls.call_len_list pl.isList (by simp only [List.size_toArray] <;> omega) ⟨.int ys.length, H, I.tok _, ⟨s.toks + 1, by rw [Û, ņ]⟩, q⟩
 ·obtain ⟨its, r', pl, hz⟩ := I.tuple hq;have ņ := r'.length;exact len_tuple pl (by simp only [List.size_toArray] <;> omega) ⟨.int ys.length, H, I.tok _, ⟨s.toks + 1, by rw [Û, ņ]⟩, q⟩
theorem iT : ce X (.type "tuple") (λ xs H Q => ∃ p ys, xs = [.ref p] /\ ((ñ X.K H p ys /\ ∀ l, H l = none -> Q (.ref l) (ao H l (.tup ys))) \/ (ą X.K H p ys /\ Q (.ref p) H))) := by
 intro pins s σ H xs us Q I r h;obtain ⟨p, ys, rfl, h⟩ := h;obtain ⟨u, rfl, rx⟩ := cW r;cases rx;rcases h with ⟨hq, q⟩ | ⟨hq, q⟩
 ·obtain ⟨its, r', pl, hz⟩ := I.list hq;have ņ := r'.length;refine call_tuple_list pl.isList (λ h' kp => ?_) (by simp only [List.size_toArray] <;> omega)
  have I1 : Inv X pins σ H { s with heap := h' } := I.kept (t' := s.toks) kp
  have I2 : Inv X pins σ (ao H h'.objs.size (.tup ys)) { s with heap := h'.push { cls := .type "tuple", data := .seq its.toArray } } :=
   I1.laid (t' := s.toks) (λ b o e => Á _ e) (Å _) (show Ĉ X.prog X.w _ _ _ (.tup ys) from ⟨hz, its, r', IsTup.new _ _⟩)
  exact ⟨.ref h'.objs.size, _, I2, rfl, q _ (I1.Ē.fresh (Å _))⟩
 ·obtain ⟨its, r', pl, hz⟩ := I.tuple hq;exact call_tuple_same pl ⟨.ref p, H, I, rfl, q⟩
def Ec (K : PySem.W.Frag) (T : String) (x : V) (H : Hp) : Prop := match x with
 | .str _ => T = "str"
 | .int _ => T = "int"
 | .ref p => (T = "list" /\ ∃ xs, ñ K H p xs) \/ (T = "tuple" /\ ∃ o, K.lookup p = some o /\ o.cls = .type "tuple" /\ o.dict = none) \/
   (T = "dict" /\ ((∃ kvs, H p = some (.dK kvs)) \/ ∃ kvs, H p = some (.dT kvs))) \/ (T = "set" /\ ∃ S n, H p = some (.set S n))
 | _ => False
theorem qA {pins : List (Addr × Obj)} {σ : St} {H : Hp} {s : Shared} {T : String} {x : V} {v : Value} (I : Inv X pins σ H s) (r : RelV x v) (ty : Ec X.K T x H) :
  s.TypeIs v T /\ ∀ a, v = .ref a -> ∃ ob, s.heap.get? a = some ob /\ ob.dict = none := by
 cases x with
 | str z =>
  obtain ⟨t, rfl⟩ := r;cases (show T = "str" from ty);exact ⟨typeIs_str s z t, λ _ e => nomatch e⟩
 | int i =>
  obtain ⟨t, rfl⟩ := r;cases (show T = "int" from ty);exact ⟨typeIs_int s i t, λ _ e => nomatch e⟩
 | ref p =>
  cases r;rcases ty with ⟨rfl, xs, hq⟩ | ⟨rfl, o, hk, hc, hd⟩ | ⟨rfl, hk⟩ | ⟨rfl, S, n, hk⟩
  ·obtain ⟨its, _, pl, _⟩ := I.list hq;refine ⟨pl.isList.typeIs, λ a e => ?_⟩;cases e;obtain ⟨o, n, e, c, hd, _⟩ := pl;exact ⟨o, e, hd⟩
  ·refine ⟨⟨o, I.Ω p o hk, hc⟩, λ a e => ?_⟩;cases e;exact ⟨o, I.Ω _ o hk, hd⟩
  ·have z : ∃ o, s.heap.get? p = some o /\ o.ExactDict := by
    rcases hk with ⟨kvs, hk⟩ | ⟨kvs, hk⟩
    ·obtain ⟨_, _, _, _, o, _, _, e, ex, _⟩ := I.Ē p _ hk;exact ⟨o, e, ex⟩
    ·obtain ⟨_, _, _, _, o, _, _, e, ex, _⟩ := I.Ē p _ hk;exact ⟨o, e, ex⟩
   obtain ⟨o, e, ex⟩ := z;refine ⟨⟨o, e, ex.1⟩, λ a e2 => ?_⟩;cases e2;exact ⟨o, e, ex.2.1⟩
  ·obtain ⟨o, _, _, _, e, ex, _⟩ := I.Ē p _ hk;refine ⟨⟨o, e, ex.1⟩, λ a e2 => ?_⟩;cases e2;exact ⟨o, e, ex.2.1⟩
 | _ => exact False.elim ty
def vO (K : PySem.W.Frag) (T : String) (r : V -> List V -> Hp -> VK -> Prop) (to : TE) (t : TA) : TE := λ σ H Q => to σ H λ x H1 => Ec K T x H1 /\ t σ H1 λ xs H2 => r x xs H2 Q
variable {o e : Expr} {es : List Expr} {to : TE} {t : TA} {name : Str} {ż ũ : Pos} {T id : String} {r : V -> List V -> Hp -> VK -> Prop}
theorem eD (pa : PlainAttrs T) (slot : Slot T name id) (TW : typeOf (.builtin id) = pure (.type "method_descriptor")) (hm : Dr X id r) (ho : PE X o to) (ha : PA X (e :: es) t)
  (G8 : attributeBase o name X.env (eval o X.env) = eval o X.env := by rfl)
  (OS : ((backTo ũ (starEach (e :: es) X.env)).all (λ x => !x.1) && (backToKw ũ (keywordEach [] X.env)).all (λ x => x.1.isSome)
   && decide ((e :: es).length + ([] : List Keyword).length + (if ([] : List Keyword).isEmpty then 0 else 1) < 30)) = true := by rfl)
  (G5 : (ż.endLine == ũ.line) = true := by rfl) (hs : starEach (e :: es) X.env = (false, eval e X.env) :: starEach es X.env := by rfl) (KH : (backTo ũ (starEach es X.env)).any (·.1) = false := by rfl) :
  PE X (.Call (.Attribute o name ż) (e :: es) [] ũ) (vO X.K T r to t) := by
 intro pins s σ H Q I h;refine wpAny_Call_method_late G8 OS G5 rfl (ax (ho pins s σ H _ I h) λ v s1 ⟨x, H1, I1, r1, ty, q1⟩ => ?_);obtain ⟨h1, h2⟩ := qA I1 r1 ty;refine ⟨T, id, pa, slot, TW, h1, h2, ?_⟩;have hA := ha ũ pins s1 σ H1 _ I1 q1;rw [hs] at hA ⊢;refine ů (by show (false || (backTo ũ (starEach es X.env)).any (·.1)) = false; rw [KH] <;> rfl) (Calls.evalArgs_plain ?_)
 exact ax hA λ us s2 ⟨vs, H2, I2, r2, q2⟩ => hm pins s2 σ H2 x vs v us Q I2 r1 r2 q2
end
def F6 (X : Cx) (id : String) (r : V -> List V -> Hp -> VK -> Prop) : Prop :=
 ∀ (pins : List (Addr × Obj)) (s : Shared) (σ : St) (H : Hp) (x : V) (xs : List V) (v : Value) (us : List Value) (Q : VK), Inv X pins σ H s -> RelV x v -> Vals xs us -> r x xs H Q ->
  wpAny (model X.prog X.w) X.A (call (.builtin id) (v :: us)) (EP X pins σ Q) X.xe s
theorem Vals.one : ∀ {x : V} {us : List Value}, Vals [x] us -> ∃ u, us = [u] /\ RelV x u
 | _, _, .cons r .nil => ⟨_, rfl, r⟩
section
variable {X : Cx} {pins : List (Addr × Obj)} {σ : St} {H : Hp} {s : Shared} {l b : Addr} {xs ys zs : List V}
theorem Inv.Of {its its' : List Value} {n : Nat} {f : Array Value -> Array Value} {t' : Nat} (I : Inv X pins σ H s) (hH : H l = some (.lst xs))
  (e : s.heap.get? l = some { cls := .type "list", data := .seq its.toArray n }) (hf : f its.toArray = its'.toArray) (hv : Vals ys its') (hz : ys.length <= sizeLine) :
  Inv X pins σ (ao H l (.lst ys)) { s with heap := s.heap.update l (Obj.mapSeq f), toks := t' } := by
 have q := PySem.IsL.update e f;rw [hf] at q;refine I.write (x := l) (e := l) (by rw [hH]; exact trivial) (.inl rfl) (λ b' u hb hu => (Heap.get?_update_other s.heap (Obj.mapSeq f) (Ne.symm hb)).trans hu) ⟨_, q⟩ ?_
 exact ⟨hz, its', _, hv, q⟩
theorem Inv.Ie {its : List Value} {t' : Nat} (I : Inv X pins σ H s) (hv : Vals ys its) (hz : ys.length <= sizeLine) :
  Inv X pins σ (ao H s.heap.objs.size (.lst ys)) { s with heap := s.heap.push { cls := .type "list", data := .seq its.toArray }, toks := t' } :=
 I.laid (λ _ _ q => Á _ q) (Å _) ⟨hz, its, 0, hv, Ê _ rfl⟩
theorem Inv.fresh (I : Inv X pins σ H s) : H s.heap.objs.size = none := I.Ē.fresh (Å _)
theorem Inv.N_ (I : Inv X pins σ H s) (hH : H l = some (.lst xs)) : xs.length <= sizeLine /\ ∃ (its : List Value) (n : Nat), Vals xs its /\ xs.length = its.length /\ s.heap.get? l = some { cls := .type "list", data := .seq its.toArray n } := by
 obtain ⟨z, its, n, r, e⟩ := I.Ē l _ hH;exact ⟨z, its, n, r, r.length, e⟩
end
section
variable {X : Cx}
def dI : V -> List V -> Hp -> VK -> Prop := λ x vs H Q => ∃ l xs y, x = .ref l /\ vs = [y] /\ H l = some (.lst xs) /\ xs.length < sizeLine /\ Q .ĉ (ao H l (.lst (xs ++ [y])))
theorem bo : F6 X "list.append" dI := by
 intro pins s σ H x vs v us Q I rx rv h;obtain ⟨l, xs, y, rfl, rfl, hH, hz, q⟩ := h;cases rx;obtain ⟨u, rfl, ru⟩ := rv.one;obtain ⟨z, its, n, r, hl, e⟩ := I.N_ hH;refine call_meets F.slot_list_append ⟨_, e, rfl⟩ F.entry_list_append (F.args_list_append_2 _ _) (PySem.list_append l its.toArray n u (by rw [Û]; omega)) ⟨e, ?_⟩
 refine ⟨.ĉ, _, I.Of (its' := its ++ [u]) hH e (by simp) (r.append (.cons ru .nil)) ?_, rfl, q⟩
 rw [Ì, Ę];omega
end
section
variable {κ : Type} [DecidableEq κ]
def cL (kvs : List (κ × V)) (k : κ) : Option V := (kvs.find? λ kv => decide (kv.1 = k)).map (·.2)
def bI (kvs : List (κ × V)) (k : κ) (v : V) : List (κ × V) :=
 if (kvs.any λ kv => decide (kv.1 = k)) = true then kvs.map (λ kv => if kv.1 = k then (kv.1, v) else kv) else kvs ++ [(k, v)]
theorem du {p : κ × V} {r : List (κ × V)} {k : κ} (e : p.1 = k) : cL (p :: r) k = some p.2 := by simp [cL, List.find?_cons, e]
theorem dD {p : κ × V} {r : List (κ × V)} {k : κ} (e : ¬ p.1 = k) : cL (p :: r) k = cL r k := by simp [cL, List.find?_cons, e]
theorem iq (k : κ) : ∀ kvs : List (κ × V), (kvs.any λ kv => decide (kv.1 = k)) = (cL kvs k).isSome
 | [] => rfl
 | p :: r => by
  rw [Υ];by_cases e : p.1 = k
  ·simp only [du e, decide_eq_true e, Bool.true_or, Option.isSome_some]
  ·rw [dD e, â e, Bool.false_or]; exact iq k r
theorem cG (kvs : List (κ × V)) (k : κ) (v : V) : (bI kvs k v).length <= kvs.length + 1 := by
 unfold bI;split
 ·rw [Æ]; omega
 ·rw [Ì, Ñ, HX]; omega
theorem dA {kvs : List (κ × V)} {k : κ} (v : V) (h : cL kvs k = none) : bI kvs k v = kvs ++ [(k, v)] := by
 unfold bI;rw [iq, h];exact É ag
theorem υ.d_ {o : Option V} {u : Option Value} (r : υ o u) : o.isSome = u.isSome := by
 cases o with
 | none => cases u with
  | none => rfl
  | some _ => exact (show False from r).elim
 | some _ => cases u with
  | none => exact (show False from r).elim
  | some _ => rfl
theorem υ.getD {o : Option V} {u : Option Value} {d : V} {d' : Value} (r : υ o u) (rd : RelV d d') : RelV (o.getD d) (u.getD d') := by
 cases o with
 | none => cases u with
  | none => exact rd
  | some _ => exact (show False from r).elim
 | some _ => cases u with
  | none => exact (show False from r).elim
  | some _ => exact r
theorem KV.val {kvs : List (κ × V)} {vs : List (κ × Value)} (r : KV kvs vs) (k : κ) : υ (cL kvs k) (valueAt vs k) := by
 unfold KV at r
 induction r with
 | nil => exact True.intro
 | @cons p q ps qs h t ih =>
  obtain ⟨h1, h2⟩ := h;by_cases e : p.1 = k
  ·have e' : q.1 = k := h1.symm.trans e;have b : valueAt (q :: qs) k = some q.2 := by simp [valueAt, List.find?_cons, e']
   rw [du e, b]; exact h2
  ·have e' : ¬ q.1 = k := λ z => e (h1.trans z);have b : valueAt (q :: qs) k = valueAt qs k := by simp [valueAt, List.find?_cons, e']
   rw [dD e, b]; exact ih
theorem KV.any {kvs : List (κ × V)} {vs : List (κ × Value)} (r : KV kvs vs) (k : κ) : (kvs.any λ kv => decide (kv.1 = k)) = vs.any λ kv => decide (kv.1 = k) := by
 unfold KV at r
 induction r with
 | nil => rfl
 | cons h t ih => rw [Υ, Υ, ih, h.1]
theorem KV.Ks {kvs : List (κ × V)} {vs : List (κ × Value)} (r : KV kvs vs) (k : κ) {y : V} {u : Value} (ry : RelV y u) :
  KV (kvs.map λ kv => if kv.1 = k then (kv.1, y) else kv) (vs.map λ kv => if kv.1 = k then (kv.1, u) else kv) := by
 unfold KV at r ⊢
 induction r with
 | nil => exact .nil
 | @cons p q ps qs h t ih =>
  rw [Í, Í];refine .cons ?_ ih;obtain ⟨h1, h2⟩ := h;by_cases e : p.1 = k
  ·rw [Ô e, Ô (h1.symm.trans e)]; exact ⟨h1, ry⟩
  ·rw [É e, É (λ z => e (h1.trans z))]; exact ⟨h1, h2⟩
theorem KV.put {kvs : List (κ × V)} {vs : List (κ × Value)} (r : KV kvs vs) (k : κ) {y : V} {u : Value} (ry : RelV y u) : KV (bI kvs k y) (stored vs k u) := by
 unfold bI stored;rw [r.any k];by_cases e : (vs.any λ kv => decide (kv.1 = k)) = true
 ·rw [Ô e, Ô e]; exact r.Ks k ry
 ·rw [É e, É e]; exact Paired.snoc r ⟨rfl, ry⟩
theorem KV.length {kvs : List (κ × V)} {vs : List (κ × Value)} (r : KV kvs vs) : kvs.length = vs.length := Ö r
end
theorem kY {P : Program} {w : World} {k : Key} {u : Value} (r : RelV (kV k) u) : (aJ P w).is k u = true := by
 cases k with
 | inl i => obtain ⟨t, e⟩ := (show ∃ t, u = Value.int i t from r); subst e; exact kK P w i t
 | inr x => obtain ⟨t, e⟩ := (show ∃ t, u = Value.str x t from r); subst e; exact lE P w x t
 | ĉ => cases (show u = Value.none from r); rfl
theorem iZ {P : Program} {w : World} : ∀ {ks : List Key} {us : List Value}, Vals (ks.map kV) us -> ItemsAre (aJ P w) ks us
 | [], _, r => by rw [J9] at r; cases r; exact .nil
 | k :: ks, _, r => by
  rw [Í] at r;cases r with
  | cons h t => exact .cons (kY h) (iZ t)
abbrev KT (H : Hp) : List (List Key × V) -> List (List Key × Addr × Value) -> Prop := Paired λ p q => p.1 = q.1 /\ H q.2.1 = some (.tup (p.1.map kV)) /\ RelV p.2 q.2.2
theorem KT.val {H : Hp} {kvs : List (List Key × V)} {xs : List (List Key × Addr × Value)} (r : KT H kvs xs) (k : List Key) : υ (cL kvs k) ((atKey xs k).map (·.2)) := by
 induction r with
 | nil => exact True.intro
 | @cons p q ps qs h t ih =>
  obtain ⟨h1, _, h2⟩ := h;by_cases e : p.1 = k
  ·have e' : q.1 = k := h1.symm.trans e;have b : atKey (q :: qs) k = some q.2 := by simp [atKey, List.find?_cons, e']
   rw [du e, b]; exact h2
  ·have e' : ¬ q.1 = k := λ z => e (h1.trans z);have b : atKey (q :: qs) k = atKey qs k := by simp [atKey, List.find?_cons, e']
   rw [dD e, b]; exact ih
theorem KT.Ks {H : Hp} {kvs : List (List Key × V)} {xs : List (List Key × Addr × Value)} (r : KT H kvs xs) (k : List Key) {y : V} {u : Value} (ry : RelV y u) :
  KT H (kvs.map λ kv => if kv.1 = k then (kv.1, y) else kv) (xs.map (putAt k u)) := by
 induction r with
 | nil => exact .nil
 | @cons p q ps qs h t ih =>
  rw [Í, Í];refine .cons ?_ ih;obtain ⟨h1, h2, h3⟩ := h;unfold putAt;by_cases e : p.1 = k
  ·rw [Ô e, Ô (h1.symm.trans e)]; exact ⟨h1, h2, ry⟩
  ·rw [É e, É (λ z => e (h1.trans z))]; exact ⟨h1, h2, h3⟩
theorem KT.put {H : Hp} {kvs : List (List Key × V)} {xs : List (List Key × Addr × Value)} (r : KT H kvs xs) (k : List Key) {b : Addr} {y : V} {u : Value} (hb : H b = some (.tup (k.map kV))) (ry : RelV y u) :
  KT H (bI kvs k y) (storedH xs k b u) := by
 have e : (kvs.any λ kv => decide (kv.1 = k)) = (atKey xs k).isSome := by
  rw [iq, (r.val k).d_, Option.isSome_map]
 unfold bI storedH;rw [e];by_cases q : (atKey xs k).isSome = true
 ·rw [Ô q, Ô q]; exact r.Ks k ry
 ·rw [É q, É q]; exact Paired.snoc r ⟨rfl, hb, ry⟩
theorem KT.keeps {H H' : Hp} {kvs : List (List Key × V)} {xs : List (List Key × Addr × Value)} (r : KT H kvs xs) (ht : ∀ b ys, H b = some (.tup ys) -> H' b = some (.tup ys)) : KT H' kvs xs :=
 Paired.Jr r λ _ _ z => ⟨z.1, ht _ _ z.2.1, z.2.2⟩
section
variable {P : Program} {w : World} {H : Hp} {h : Heap} {a : Addr}
theorem vS {u : HO} (ok : ŷ P w H h) (e : Rd H a u) : Ĉ P w H h a u := e.ok ok
theorem gy {kvs : List (Key × V)} (ok : ŷ P w H h) (e : Rd H a (.dK kvs)) : kvs.length <= sizeLine /\ (a == sysModules) = false /\ ∃ vs, KV kvs vs /\ h.DictOf (aJ P w) a vs :=
 show Ĉ P w H h a (.dK kvs) from vS ok e
theorem Ah {kvs : List (Key × V)} (ok : ŷ P w H h) (e : H a = some (.dK kvs)) : kvs.length <= sizeLine /\ (a == sysModules) = false /\ ∃ vs, KV kvs vs /\ h.DictOf (aJ P w) a vs := gy ok (.inl e)
theorem fQ {ks : List Key} (ok : ŷ P w H h) (e : H a = some (.tup (ks.map kV))) : (tupleKind (aJ P w)).is h ks a := by
 obtain ⟨_, its, r, o, h1, h2, n, h3⟩ := (show Ĉ P w H h a (.tup (ks.map kV)) from ok a _ e);exact ⟨o, its.toArray, n, h1, h2, h3, by simpa using iZ r⟩
theorem iX {kvs : List (List Key × V)} (ok : ŷ P w H h) (e : Rd H a (.dT kvs)) : kvs.length <= sizeLine /\ (a == sysModules) = false /\
  ∃ xs, KT H kvs xs /\ h.DictOfH (tupleKind (aJ P w)) a xs := by
 obtain ⟨z, y, xs, r, o, es, ep, h1, h2, h3, h4, h5⟩ := (show Ĉ P w H h a (.dT kvs) from vS ok e);refine ⟨z, y, xs, r, o, es, ep, h1, h2, h3, h4, λ x hx => ?_, h5⟩;have all : ∀ {l : List (List Key × V)} {m : List (List Key × Addr × Value)}, KT H l m -> ∀ x ∈ m, (tupleKind (aJ P w)).is h x.1 x.2.1 := by
  intro l m q
  induction q with
  | nil => intro x hx; exact nomatch hx
  | @cons p q ps qs hq t ih =>
   intro x hx;rcases Ï.mp hx with e | hx
   ·subst e;exact fQ ok (by rw [<- hq.1]; exact hq.2.1)
   ·exact ih x hx
 exact all r x hx
theorem vn {kvs : List (List Key × V)} (ok : ŷ P w H h) (e : H a = some (.dT kvs)) : kvs.length <= sizeLine /\ (a == sysModules) = false /\
  ∃ xs, KT H kvs xs /\ h.DictOfH (tupleKind (aJ P w)) a xs := iX ok (.inl e)
end
def E_ (H : Hp) (a : Addr) (y : V) (r : Option V) : Prop :=
 (∃ kvs k, Rd H a (.dK kvs) /\ y = kV k /\ r = cL kvs k) \/ ∃ kvs k b, Rd H a (.dT kvs) /\ y = .ref b /\ H b = some (.tup (k.map kV)) /\ r = cL kvs k
def HG (H : Hp) (a : Addr) (y v : V) (H' : Hp) : Prop :=
 (∃ kvs k, H a = some (.dK kvs) /\ y = kV k /\ kvs.length < sizeLine /\ H' = ao H a (.dK (bI kvs k v))) \/
 ∃ kvs k b, H a = some (.dT kvs) /\ y = .ref b /\ H b = some (.tup (k.map kV)) /\ kvs.length < sizeLine /\ H' = ao H a (.dT (bI kvs k v))
theorem E_.k {H : Hp} {a : Addr} {kvs : List (Key × V)} {k : Key} (e : H a = some (.dK kvs)) : E_ H a (kV k) (cL kvs k) := .inl ⟨kvs, k, .inl e, rfl, rfl⟩
theorem HG.k {H : Hp} {a : Addr} {kvs : List (Key × V)} {k : Key} {v : V} (e : H a = some (.dK kvs)) (hl : kvs.length < sizeLine) : HG H a (kV k) v (ao H a (.dK (bI kvs k v))) := .inl ⟨kvs, k, e, rfl, hl, rfl⟩
section
variable {X : Cx} {pins : List (Addr × Obj)} {σ : St} {H : Hp} {s : Shared} {a : Addr} {y v : V} {u r : Value} {o : Option V} {A : Around} {E : bM}
theorem Inv.big (I : Inv X pins σ H s) : sysModules < s.heap.objs.size := by
 have h : mainGlobals < s.heap.objs.size := (I.mod.glob.keeps I.bk).lt;exact ň ag h
theorem pQ {Q : bM} (hu : A.units + 1 < cLine) (I : Inv X pins σ H s) (g : E_ H a y (some v)) (ry : RelV y u) (h : ∀ w' s', Inv X pins σ H s' -> RelV v w' -> Q w' s') :
  wpAny (model X.prog X.w) A (getItem (.ref a) u) Q E s := by
 rcases g with ⟨kvs, k, e, ey, l⟩ | ⟨kvs, k, b, e, ey, eb, l⟩
 ·subst ey;obtain ⟨z, hd, vs, rel, dd⟩ := gy I.Ē e;obtain ⟨w', hw, GC⟩ := υ.some_of (v := v) (o := valueAt vs k) (by rw [l]; exact rel.val k)
  exact wpAny_getItem_of (kY ry) dd.mapOf hw (h w' _ (I.tok _) GC)
 ·subst ey;cases (show u = Value.ref b from ry);obtain ⟨z, hd, xs, rel, dd⟩ := iX I.Ē e;obtain ⟨w', hw, GC⟩ := υ.some_of (v := v) (o := (atKey xs k).map (·.2)) (by rw [l]; exact rel.val k)
  obtain ⟨p, hp, Ub⟩ := ğ.mp hw;refine wpAny_getItem_heap (ε hu) (fQ I.Ē eb) dd hp ?_;rw [Ub];exact h w' _ (I.tok _) GC
theorem tS {Q : bM} (hu : A.units + 1 < cLine) (I : Inv X pins σ H s) (g : E_ H a y o) (ry : RelV y u) (h : ∀ s', Inv X pins σ H s' -> Q (.bool (!o.isSome)) s') :
  wpAny (model X.prog X.w) A (compareOp .NotIn u (.ref a)) Q E s := by
 rcases g with ⟨kvs, k, e, ey, l⟩ | ⟨kvs, k, b, e, ey, eb, l⟩
 ·subst ey;obtain ⟨z, hd, vs, rel, dd⟩ := gy I.Ē e;refine wpAny_notIn_of (kY ry) hd dd.mapOf ?_;rw [<- (rel.val k).d_, <- l];exact h _ (I.tok _)
 ·subst ey;cases (show u = Value.ref b from ry);obtain ⟨z, hd, xs, rel, dd⟩ := iX I.Ē e;refine wpAny_notIn_heap (ε hu) (fQ I.Ē eb) hd dd ?_;have q := (rel.val k).d_;rw [Option.isSome_map] at q;rw [<- q, <- l];exact h _ (I.tok _)
theorem gR {h' : Heap} {t' : Nat} {ob : HO} (I : Inv X pins σ H s) (mu : y8 (H a)) (hs : Heap.SameBut a s.heap h') (he : ∃ q, h'.get? a = some q) (new : Ĉ X.prog X.w (ao H a ob) h' a ob) :
  Inv X pins σ (ao H a ob) { s with heap := h', toks := t' } :=
 I.write (x := a) (e := a) mu (.inl rfl) (λ b q hb z => (hs.2 b hb).trans z) he new
theorem xW {P : Program} {w : World} {H' : Hp} {h' : Heap} {kvs : List (Key × V)} {vs : List (Key × Value)} (z : kvs.length <= sizeLine) (hd : (a == sysModules) = false) (rel : KV kvs vs) (dd : h'.DictOf (aJ P w) a vs) :
  Ĉ P w H' h' a (.dK kvs) := ⟨z, hd, vs, rel, dd⟩
theorem pK {H' : Hp} {Q : Unit -> Shared -> Prop} (hu : A.units + 1 < cLine) (I : Inv X pins σ H s) (g : HG H a y v H') (ry : RelV y u) (rv : RelV v r) (h : ∀ s', Inv X pins σ H' s' -> Q () s') :
  wpAny (model X.prog X.w) A (setItem (.ref a) u r) Q E s := by
 rcases g with ⟨kvs, k, e, ey, l, eH⟩ | ⟨kvs, k, b, e, ey, eb, l, eH⟩
 ·subst ey eH;obtain ⟨z, hd, vs, rel, dd⟩ := Ah I.Ē e;have hz : vs.length <= sizeLine := by rw [<- rel.length]; exact z
  have hl : (bI kvs k v).length <= sizeLine := by have := cG kvs k v; omega
  refine wpAny_setItem_pairs (hsz := hz) (kY ry) dd λ h' Lj hs => h _ ?_;have he : ∃ q, h'.get? a = some q := let ⟨q, _, _, hq, _⟩ := Lj; ⟨q, hq⟩
  exact gR I (by rw [e]; exact True.intro) hs he (xW hl hd (rel.put k rv) Lj)
 ·subst ey eH;cases (show u = Value.ref b from ry);obtain ⟨z, hd, xs, rel, dd⟩ := vn I.Ē e;have hz : xs.length <= sizeLine := by rw [<- Ö rel]; exact z
  have hl : (bI kvs k v).length <= sizeLine := by have := cG kvs k v; omega
  refine wpAny_setItem_heap (hsz := hz) (ε hu) (fQ I.Ē eb) dd λ h' Lj hs => h _ ?_;obtain ⟨q, es, ep, hq, h2, h3, h4, _, h5⟩ := Lj;refine gR I (by rw [e]; exact True.intro) hs ⟨q, hq⟩ ⟨hl, hd, _, (rel.put k eb rv).keeps λ c ys ec => ?_, q, es, ep, hq, h2, h3, h4, h5⟩
  rw [ah (vM ec e (λ z => nomatch z))];exact ec
end
section
variable {X : Cx} {pins : List (Addr × Obj)} {σ : St} {H : Hp} {s : Shared} {a : Addr} {kvs : List (Key × V)} {k : Key} {u : Value} {A : Around} {E : bM}
theorem zH {Q : bM} (I : Inv X pins σ H s) (e : Rd H a (.dK kvs)) (h : ∀ t s', Inv X pins σ H s' -> Q (.int kvs.length t) s') : wpAny (model X.prog X.w) A (call (.builtin "len") [.ref a]) Q E s := by
 obtain ⟨z, hd, vs, rel, dd⟩ := gy I.Ē e;refine call_len_dict hd dd (by rw [<- rel.length]; rw [Þ] at z; omega) ?_
 rw [<- rel.length];exact h _ _ (I.tok _)
end
def AY (i : Expr) : Prop := ∀ ov iv, subscripted i false ov iv = operate [ov, iv] (getItem ov iv)
theorem vh {prog : Program} {w : World} {A : Around} {E : bM} {s : Shared} {env : Env} {value slice : Expr} {pos : Pos} {T id : String} {Q : bM}
  (hl : typeLookup (.type T) "__getitem__" = pure (some (.builtin id))) (hs : AY slice)
  (h : wpAny (model prog w) A (eval value env) (λ o Ă => wpAny (model prog w) A (eval slice env) (λ i Ř => Ř.TypeIs o T /\ wpAny (model prog w) A (getItem o i) Q E Ř) E Ă) E s) :
  wpAny (model prog w) A (eval (.Subscript value slice pos) env) Q E s := by
 refine Subscript_ (Ü h (λ o Ă Ğ => Ü Ğ (λ i Ř e_ => ?_) λ _ _ x => x) λ _ _ x => x);obtain ⟨hT, e_⟩ := e_;unfold subscriptTail;refine À ?_;rw [getitemInPython_of_ne hT.not_modules];refine À (JY hT hl ?_);have fin : wpAny (model prog w) A (subscripted slice false o i) (λ r Γ => wpAny (model prog w) A (letTemporaryGo value o r >>= λ _ => pure r) Q E Γ) E Ř := by
  rw [hs o i];exact wpAny_operating (Ü e_ (λ r Γ Bk => À (wpAny_letTemporaryGo (Â Bk))) λ _ _ x => x)
 first
  | exact Â (À fin)
  | exact À (Â (À fin))
  | exact À fin
theorem kQ {X : Cx} {pins : List (Addr × Obj)} {σ : St} {H : Hp} {s : Shared} {a : Addr} {y : V} {o : Option V} (I : Inv X pins σ H s) (g : E_ H a y o) : s.TypeIs (.ref a) "dict" := by
 rcases g with ⟨kvs, k, e, _, _⟩ | ⟨kvs, k, b, e, _, _, _⟩
 ·obtain ⟨_, _, vs, _, dd⟩ := gy I.Ē e;exact dd.typeIs
 ·obtain ⟨_, _, xs, _, dd⟩ := iX I.Ē e;exact dd.typeIs
def gH (td ty : TE) : TE := λ σ H Q => td σ H λ x H1 => ty σ H1 λ y H2 => ∃ a v, x = .ref a /\ E_ H2 a y (some v) /\ Q v H2
def nB (ty td : TE) : TE := λ σ H Q => ty σ H λ y H1 => td σ H1 λ x H2 => ∃ a o, x = .ref a /\ E_ H2 a y o /\ Q (.bl (!o.isSome)) H2
def vI (td ty tv : TE) : TS := λ D σ H => tv σ H λ v H1 => td σ H1 λ x H2 => ty σ H2 λ y H3 => ∃ a H4, x = .ref a /\ HG H3 a y v H4 /\ D.nx σ H4
section
variable {X : Cx} {o i e value : Expr} {pos pos' Lu : Pos} {td ty tv : TE}
theorem fE (hu : X.A.units + 1 < cLine) (ho : PE X o td) (hi : PE X i ty) (hs : AY i := by exact λ _ _ => rfl) : PE X (.Subscript o i pos) (gH td ty) := by
 intro pins s σ H Q I h;refine vh PySem.F.slot_dict_getitem.lookup hs (ax (ho pins s σ H _ I h) λ u s1 ⟨x, H1, I1, rx, q1⟩ => ax (hi pins s1 σ H1 _ I1 q1) λ iv s2 ⟨y, H2, I2, ry, a, v, ex, g, q2⟩ => ?_);subst ex;obtain rfl : u = Value.ref a := rx;exact ⟨kQ I2 g, pQ hu I2 g ry λ w' s3 I3 GC => ⟨v, H2, I3, GC, q2⟩⟩
theorem oS (hu : X.A.units + 1 < cLine) (hi : PE X i ty) (ho : PE X o td) : PC X .NotIn i o (nB ty td) := by
 intro pins s σ H Q I h;refine ax (hi pins s σ H _ I h) λ iv s1 ⟨y, H1, I1, ry, q1⟩ => ax (ho pins s1 σ H1 _ I1 q1) λ u s2 ⟨x, H2, I2, rx, a, ov, ex, g, q2⟩ => ?_;subst ex;obtain rfl : u = Value.ref a := rx;exact tS hu I2 g ry λ s3 I3 => ⟨.bl (!ov.isSome), H2, I3, rfl, q2⟩
theorem oy (hu : X.A.units + 1 < cLine) (ho : PE X o td) (hi : PE X i ty) (hv : PE X value tv) (hs : swapsWith value (some (.Subscript o i pos')) pos.line X.env = pure false) :
  PS X (.Assign [.Subscript o i pos'] value pos) (vI td ty tv) := by
 intro pins s σ H D I h;refine wpAny_Assign_Subscript (ax (hv pins s σ H _ I h) λ r s1 ⟨v, H1, I1, rv, q1⟩ => ax (ho pins s1 σ H1 _ I1 q1) λ u s2 ⟨x, H2, I2, rx, q2⟩ => ax (hi pins s2 σ H2 _ I2 q2) λ iv s3 ⟨y, H3, I3, ry, a, H4, ex, g, q3⟩ => ?_) hs;subst ex;obtain rfl : u = Value.ref a := rx;exact pK hu I3 g ry rv λ s4 I4 => ⟨σ, H4, I4, q3⟩
end
theorem sj {P : Program} {w : World} {H : Hp} (h : Heap) (hb : sysModules < h.objs.size) : Ĉ P w H (h.push { cls := .type "dict", data := .dict #[] }) h.objs.size (.dK []) :=
 ⟨Ċ _, ī.mpr (Ne.symm (Ë hb)), [], .nil, Heap.DictOf.new h⟩
theorem qL {P : Program} {w : World} {H : Hp} (h : Heap) (hb : sysModules < h.objs.size) : Ĉ P w H (h.push { cls := .type "dict", data := .dict #[] }) h.objs.size (.dT []) :=
 ⟨Ċ _, ī.mpr (Ne.symm (Ë hb)), [], .nil, _, #[], 0, Ê _ rfl, ⟨rfl, rfl, rfl⟩, rfl, rfl, List.nodup_nil⟩
def rg : TE := λ _ H Q => ∀ p, H p = none -> Q (.ref p) (ao H p (.dK []))
section
variable {X : Cx} {pos : Pos}
theorem lQ : PE X (.Dict [] [] pos) rg := λ pins s σ H Q I h =>
 wpAny_Dict_empty ⟨.ref s.heap.objs.size, _, I.laid (a := s.heap.objs.size) (o := .dK []) (t' := s.toks) (λ _ _ q => Á _ q) (Å _) (sj s.heap I.big), rfl, h _ (I.Ē.fresh (Å _))⟩
end
structure M2 (X : Cx) (o : Expr) (m : Str) (ż : Pos) (e f : Expr) (ũ : Pos) : Prop where
 base : attributeBase o m X.env (eval o X.env) = eval o X.env
 Nh : ((backTo ũ (starEach [e, f] X.env)).all (λ x => !x.1) && (backToKw ũ (keywordEach [] X.env)).all (λ x => x.1.isSome)
  && decide (([e, f] : List Expr).length + ([] : List Keyword).length + (if ([] : List Keyword).isEmpty then 0 else 1) < 30)) = true
 line : (ż.endLine == ũ.line) = true
 trees : backTo ũ (starEach [e, f] X.env) = [(false, eval e X.env), (false, eval f X.env)]
def E5 (H : Hp) (a : Addr) : Prop := (∃ kvs, Rd H a (.dK kvs)) \/ ∃ kvs, Rd H a (.dT kvs)
theorem pV {X : Cx} {pins : List (Addr × Obj)} {σ : St} {H : Hp} {s : Shared} {a : Addr} (I : Inv X pins σ H s) (d : E5 H a) :
  s.TypeIs (.ref a) "dict" /\ (∀ b, Value.ref a = .ref b -> ∃ ob, s.heap.get? b = some ob /\ ob.dict = none) /\ (a == sysModules) = false := by
 rcases d with ⟨kvs, e⟩ | ⟨kvs, e⟩
 ·obtain ⟨_, hd, vs, _, dd⟩ := gy I.Ē e;refine ⟨dd.typeIs, λ b q => ?_, hd⟩;cases q;obtain ⟨ob, _, _, h1, h2, _⟩ := dd;exact ⟨ob, h1, h2.2.1⟩
 ·obtain ⟨_, hd, xs, _, dd⟩ := iX I.Ē e;refine ⟨dd.typeIs, λ b q => ?_, hd⟩;cases q;obtain ⟨ob, _, _, h1, h2, _⟩ := dd;exact ⟨ob, h1, h2.2.1⟩
section
variable {X : Cx} {pins : List (Addr × Obj)} {σ : St} {H : Hp} {s : Shared} {a : Addr} {y d : V} {u r : Value} {o : Option V} {A : Around} {E : bM}
theorem wM {Q : bM} (hu : A.units + 1 < cLine) (I : Inv X pins σ H s) (g : E_ H a y o) (ry : RelV y u) (rd : RelV d r) (h : ∀ w' s', Inv X pins σ H s' -> RelV (o.getD d) w' -> Q w' s') :
  wpAny (model X.prog X.w) A (call (.builtin "dict.get") [.ref a, u, r]) Q E s := by
 rcases g with ⟨kvs, k, e, ey, l⟩ | ⟨kvs, k, b, e, ey, eb, l⟩
 ·subst ey;obtain ⟨z, hd, vs, rel, dd⟩ := gy I.Ē e;refine Iu j_ dd.typeIs J3 (JD _ _ _) (meets_dict_get_default (aJ X.prog X.w) a (kY ry) hd r) ⟨_, dd.mapOf, h _ _ (I.tok _) ?_⟩;rw [l];exact (rel.val k).getD rd
 ·subst ey;cases (show u = Value.ref b from ry);obtain ⟨z, hd, xs, rel, dd⟩ := iX I.Ē e;refine Iu j_ dd.typeIs J3 (JD _ _ _) (meetsH_dict_get_default (tupleKind (aJ X.prog X.w)) a b hd r) ⟨ε hu, k, xs, fQ I.Ē eb, dd, h _ _ (I.tok _) ?_⟩;rw [l];exact (rel.val k).getD rd
end
def yG (td ty tx : TE) : TE := λ σ H Q => td σ H λ x H1 => ∃ a, x = .ref a /\ E5 H1 a /\ ty σ H1 λ y H2 => tx σ H2 λ z H3 => ∃ o, E_ H3 a y o /\ Q (o.getD z) H3
section
variable {X : Cx} {o e f : Expr} {ż ũ : Pos} {td ty tx : TE}
theorem qx (hu : X.A.units + 1 < cLine) (ho : PE X o td) (he : PE X e ty) (hf : PE X f tx) (m : M2 X o "get" ż e f ũ) : PE X (.Call (.Attribute o "get" ż) [e, f] [] ũ) (yG td ty tx) := by
 intro pins s σ H Q I h;refine wpAny_Call_method m.base m.Nh m.line η j_ PySem.F.type_dict_get (ax (ho pins s σ H _ I h) λ u s1 ⟨x, H1, I1, rx, a, ex, d, q1⟩ => ?_);subst ex;obtain rfl : u = Value.ref a := rx;obtain ⟨t1, t2, _⟩ := pV I1 d;refine ⟨t1, t2, ?_⟩;rw [m.trees];refine ů rfl (Calls.evalArgs_plain (H_ (ax (he pins s1 σ H1 _ I1 q1) λ iv s2 ⟨y, H2, I2, ry, q2⟩ =>
  H_ (ax (hf pins s2 σ H2 _ I2 q2) λ fv s3 ⟨z, H3, I3, rz, ov, g, q3⟩ => Calls.spliced_nil ?_))))
 exact wM hu I3 g ry rz λ w' s4 I4 GC => ⟨_, H3, I4, GC, q3⟩
end
end L2
namespace Att
open PySem PySem.W PySem.Calls PyProof.Rows
theorem gJ {P : Params} {h : Heap} : ∀ (ns : List Int) (vs : List Value), WellAll P h vs (ns.map WData.int) -> IntsAre vs ns := by
 intro ns
 induction ns with
 | nil =>
  intro vs w;rw [J9] at w;cases w;exact .nil
 | cons n ns ih =>
  intro vs w;rw [Í] at w;cases w with
  | cons a b =>
   cases a;exact .cons _ _ (ih _ b)
theorem pq {l : OpenLaw} {n : Nat} (hn : l.most = some n) {P : Params} {h : Heap} {args : List WData} {vals : List Value}
  (Jt : l.row.toRowW.claim.pre args = true) (Ov : WellAll P h vals args) :
  ∃ a vs ns, vals = [Value.ref a] /\ args = [WData.list (ns.map WData.int)] /\ h.get? a = some { cls := .type "list", data := .seq vs.toArray } /\ IntsAre vs ns /\ ns.length <= n := by
 have T5 : WShape.hasAll [] args [.list .int] = true := (pre_splitW Jt).1;have hc : l.pre.holds [] { args := args } = true := (pre_splitW Jt).2;obtain ⟨d, r, rfl, h1, h2⟩ := hasAllW_cons T5;obtain rfl := hasAllW_nil h2;obtain ⟨xs, rfl, h3⟩ := hasW_list h1;obtain ⟨ns, rfl⟩ := items_int h3;have ņ : ns.length <= n := by
  unfold OpenLaw.pre at hc;have h4 : (WTm.not (.lt (.lit (.int (n : Int))) (.len (.arg 0)))).holds [] { args := [.list (ns.map .int)] } = true := by
   have h4 := (holds_andW hc).1;rw [hn] at h4;exact h4
  have h5 := condW_of h4 (w_not (w_lt w_lit (w_len_list (w_arg rfl))));rw [Æ] at h5;refine Nat.le_of_not_lt λ q => ?_;have q' : (n : Int) < ((ns.length : Nat) : Int) := ae
  first
   | (rw [Ç q'] at h5; exact absurd h5 ag)
   | (simp at h5; omega)
 cases Ov with
 | cons w1 w2 =>
  cases w2;cases w1 with
  | list ho OX => exact ⟨_, _, ns, rfl, rfl, ho, gJ ns _ OX, ņ⟩
theorem oV (l : OpenLaw) (args : List WData) : l.row.toRowW.claim.post args (.bool true) args = true :=
 postW_of (r := l.row.toRowW) (X := (true == true))
  (show WShape.has [] (.bool true) .bool = true by first | rfl | decide | simp [WShape.has, WShape.arms, WShape.armsAll])
  (show (WTm.eq .res (.lit (.bool true))).value [] { args := args, res := some (.bool true), after := args } = some (.bool (true == true)) from w_eq_bool (w_res rfl) w_lit) rfl
end Att
namespace L2
open PySem PySem.Spec PyProof.Rows
theorem jd : ∀ {vs : List Value} {ns : List Int}, IntsAre vs ns -> Vals (ns.map V.int) vs
 | _, _, .nil => .nil
 | _, _, .cons n t h => .cons ⟨t, rfl⟩ (jd h)
def wD (H : Hp) : Prop := ∀ b, H b = none \/ ∃ o xs, H b = some (.Ν o (.lst xs))
def m8 (s : Stmt) (j : Nat) : Stmt := match s with
 | .ClassDef _ _ _ body _ _ _ _ _ _ _ => body.getD j (.Pass ⟨0, 0, 0, 0⟩)
 | _ => .Pass ⟨0, 0, 0, 0⟩
def cu (s : Stmt) : Arguments := match s with
 | .FunctionDef _ a _ _ _ _ _ _ _ _ => a
 | _ => { posonlyargs := [], args := [], vararg := none, kwonlyargs := [], kw_defaults := [], kwarg := none, defaults := [] }
def aK (s : Stmt) : List Stmt := match s with
 | .FunctionDef _ _ b _ _ _ _ _ _ _ => b
 | _ => []
def aa (s : Stmt) : Scope := match s with
 | .FunctionDef _ _ _ _ _ _ sc _ _ _ => sc
 | _ => { kind := .function, names := [], isGenerator := false, isCoroutine := false }
abbrev au : mK := λ _ _ _ _ _ _ => False
abbrev E0 : XK := λ _ _ _ => False
theorem ai {X : Cx} : gg au X E0 := λ _ _ _ _ _ _ _ h => h.elim
structure ŀ (K : PySem.W.Frag) (x qual : Str) (st : Stmt) (f : Addr) (fd : FuncData) : Prop where
 ex : ∃ (oc : Value) (od : Option Addr) (kV doc pm : Value) (an : Option Addr) (ò ct : Value) (Jq : Array (Option Value)),
  fd = PySem.W.fnOf x qual (cu st) (aK st) (aa st) .none kV doc pm an ò ct /\ K.lookup f = some ⟨oc, od, .func fd, Jq⟩ /\ PySem.W.codeIn K ò qual = true
 kp : PySem.W.keepIn K (.ref f) = true
section
variable {P : Program} {w : World} {K : PySem.W.Frag} {mg : bE} {base : Heap}
theorem ŀ.ok {x qual : Str} {st : Stmt} {f : Addr} {fd : FuncData} {N ps : List Str} {k : Nat} {sp : Sp} (F : ŀ K x qual st f fd) (S : af N ps (aa st)) (len : ∀ vs H Q E, sp vs H Q E -> vs.length = ps.length)
  (ς : ∀ (ò : Value) (A : Around) (outer : List Env) (s : Shared) (H : Hp) (vs : List V) (Q : VK) (E : XK), ċ k (A.deeper (envOfC qual (aa st) s.heap.objs.size f ò)) -> sp vs H Q E ->
   ∃ t, f_ (aU au P w K mg base N qual (aa st) f ò A outer s H E).ť (aK st) t /\ t { nx := λ _ H' => Q .ĉ H', rt := Q } (dB N vs) H) : az P w K mg base au (k + 1) f fd ps sp := by
 obtain ⟨oc, od, kV, doc, pm, an, ò, ct, Jq, rfl, lk, Ih⟩ := F.ex;refine vo lk Ih S len λ A outer s H vs Q E hr Ig => ?_;obtain ⟨t, h, q⟩ := ς ò A outer s H vs Q E hr Ig;exact ⟨t, h.ť, q⟩
theorem cE {x qual : Str} {st : Stmt} {f : Addr} {fd : FuncData} {N ps : List Str} {k : Nat} {sp : Sp} (F : ŀ K x qual st f fd) (S : af N ps (aa st))
  (ς : ∀ (ò : Value) (A : Around) (outer : List Env) (s : Shared) (H : Hp) (vs : List V) (Q : VK) (E : XK), ċ k (A.deeper (envOfC qual (aa st) s.heap.objs.size f ò)) -> sp vs H Q E ->
   ∃ t, f_ (aU au P w K mg base N qual (aa st) f ò A outer s H E).ť (aK st) t /\ t { nx := λ _ H' => Q .ĉ H', rt := Q } (dB N vs) H) (len : ∀ vs H Q E, sp vs H Q E -> vs.length = ps.length := by intro vs H Q E h; repeat (first | (obtain ⟨rfl, _⟩ := h; rfl) | (obtain ⟨_, h⟩ := h))) : az P w K mg base au (k + 1) f fd ps sp := F.ok S len ς
theorem ŀ.binds {x qual : Str} {st : Stmt} {f : Addr} {fd : FuncData} {ps : List Str} (F : ŀ K x qual st f fd)
  (h : ∀ (kV doc pm : Value) (an : Option Addr) (ò ct : Value) (us : List Value), us.length = ps.length -> bindArgs (PySem.W.fnOf x qual (cu st) (aK st) (aa st) .none kV doc pm an ò ct) ⟨us, []⟩ = pure (ps.zip us)) : Binds K fd ps [] := by
 obtain ⟨oc, od, kV, doc, pm, an, ò, ct, Jq, rfl, lk, Ih⟩ := F.ex;exact .all (h kV doc pm an ò ct)
theorem mn {x qual : Str} {st : Stmt} {f : Addr} {oc : Value} {od an : Option Addr} {Jq : Array (Option Value)} {kV doc pm ò ct : Value} (l : K.lookup f = some ⟨oc, od, .func (PySem.W.fnOf x qual (cu st) (aK st) (aa st) .none kV doc pm an ò ct), Jq⟩)
  (c : PySem.W.codeIn K ò qual = true) (k : PySem.W.keepIn K (.ref f) = true) : ŀ K x qual st f (PySem.W.fnOf x qual (cu st) (aK st) (aa st) .none kV doc pm an ò ct) := ⟨⟨oc, od, kV, doc, pm, an, ò, ct, Jq, rfl, l, c⟩, k⟩
end
section
variable {X : Cx}
theorem pv (i : Nat) {x : Str} {pos : Pos} (hN : X.N[i]? = some x := by rfl) (hv : zC X.env.scope x := by first | exact Or.inl rfl | exact Or.inr (Or.inl rfl) | exact Or.inr (Or.inr rfl)) (hd : (x == ("__debug__" : Str)) = false := by decide)
  (Ih : (x == ("__classdict__" : Str)) = false := by decide) : PE X (.Name x pos) (am i) := yc hN hv hd Ih
end
theorem lX {c A B : Prop} [Decidable c] (h1 : c -> A) (h2 : ¬ c -> B) : if c then A else B := by
 by_cases h : c
 ·rw [Ô h];exact h1 h
 ·rw [É h];exact h2 h
section
variable {X : Cx}
theorem ph : ce X (.builtin "len") (λ xs H Q => ∃ a kvs, xs = [V.ref a] /\ H a = some (.dK kvs) /\ Q (.int kvs.length) H) := by
 intro pins s σ H xs us Q I r h;obtain ⟨a, kvs, rfl, ha, q⟩ := h;obtain ⟨u, rfl, ru⟩ := cW r;cases ru;exact zH I (.inl ha) λ t s' I' => ⟨.int kvs.length, H, I', ⟨t, rfl⟩, q⟩
end
end L2
set_option maxHeartbeats 4000000
namespace Att
open PySem PySem.W PySem.Calls PyProof.Rows
theorem mq {R : WRecords} {cl : Str -> Option Addr} {h : Heap} {a : Addr} {ds : List WData} {as : List Addr} (r : ReadsAllW R cl h [.ref a] [.list ds] as) : a ∈ as := by
 cases r with
 | cons r1 r2 =>
  cases r1 with
  | list => simp
theorem GK {l : OpenLaw} {n : Nat} {q : Program} {loose : List Str} {XP : (Str -> Option Value) -> Heap -> Prop} {YP : World -> Heap -> Prop} {d : DefRec}
  (hn : l.most = some n) (Mx : d.params.defaults = [])
  (call : ∀ (w : World) (ő Ă : Shared) (mg mb : bE) (fa : Addr) (o : Obj) (pm cd doc : Value) (a : Addr) (vs : List Value) (ns : List Int),
   Ground q loose [] XP w ő mg mb Ă.heap -> YP w Ă.heap ->
   Ă.heap.get? fa = some o -> o.data = .func (docDef d.name d.params d.body d.scope pm cd doc) -> Ă.heap.CodeRec cd d.name -> mg d.name = some (.ref fa) ->
   Ă.heap.get? a = some { cls := .type "list", data := .seq vs.toArray } -> IntsAre vs ns -> ns.length <= n -> Ă.gens = #[] -> a ≠ sysModules ->
   codeAny (model l.prog w) callerA (.call (.ref fa) ⟨[.ref a], []⟩) (λ r s' => r = .ok (.ret (.bool true)) /\ OldK Ă.heap s'.heap /\ s'.os = Ă.os /\ AllBare s'.gens) Ă) :
  WalkO q loose XP YP l.row.toRowW d [] (λ f vs => PySem.call f vs) := by
 intro w ő Ă mg mb G Y fa o pm cd doc dV kV ho hd Ih hD Mq hg args vals as Jt Ul T9 Ov M8;obtain rfl : dV = .none := Dflts.none hD Mx;obtain rfl : kV = .none := Dflts.noKw hD;obtain ⟨a, vs, ns, rfl, rfl, KI, hints, ņ⟩ := pq hn Jt Ov;have low : a ≠ sysModules := ī.mp (M8 a (mq T9));refine enter_call (F_ (call w ő Ă mg mb fa o pm cd doc a vs ns G Y ho (fd_plain hd) Ih Mq KI hints ņ hg low) λ r s' hq => ?_);obtain ⟨rfl, h2, h3, h4⟩ := hq;exact ⟨.inl ⟨.bool true, .bool true, [], rfl, λ _ => rfl, .bool true, oV l _, λ _ => ⟨List.Pairwise.nil, λ _ hm => (nomatch hm)⟩⟩, h2, h3, h4⟩
end Att
namespace L2
open PySem PySem.Spec PyProof.Rows
theorem oK {P : Program} {w : World} {K : PySem.W.Frag} {mg mb : bE} {CX : mK} {k : Nat} {fa a : Addr} {fd : FuncData} {x : Str} {sp : Sp} {Ă : Shared} {vs : List Value} {ns : List Int}
  (KX : K.In Ă.heap) (QB : Ă.heap.Ns mainGlobals mg) (hb : Ă.heap.Ns builtinsNs mb) (Uy : ∀ x : Str, x ≠ "__name__" -> mb x = bootBuiltins x) (OK : Ă.heap.NoLimit) (hg : Ă.gens = #[])
  (ha : Ă.heap.get? a = some { cls := .type "list", data := .seq vs.toArray }) (hi : IntsAre vs ns) (hl : ns.length <= sizeLine) (hr : ċ k callerA) (low : a ≠ sysModules)
  (F : ∀ base : Heap, K.In base -> base.Ns mainGlobals mg -> az P w K mg base CX k fa fd [x] sp) (MA : ∀ (s : Shared) (u : Value), BindsTo s fd ⟨[u], []⟩ [(x, u)])
  (Ig : ∀ H : Hp, wD H -> ñ K H a (ns.map V.int) -> H sysModules = none -> sp [.ref a] H (λ v _ => v = .bl true) λ _ _ _ => False)
  (O1 : ∀ H e s', CX [] H Ă (λ _ _ _ => False) e s' -> False) :
  codeAny (model P w) callerA (.call (.ref fa) ⟨[.ref a], []⟩) (λ r s' => r = .ok (.ret (.bool true)) /\ OldK Ă.heap s'.heap /\ s'.os = Ă.os /\ AllBare s'.gens) Ă := by
 have rv := jd hi;have Oj := hi.length;have core : ∀ H : Hp, wD H -> ñ K H a (ns.map V.int) -> ŷ P w H Ă.heap -> (∀ b, H b ≠ none -> b = a) -> (H a ≠ none -> K.lookup a = none) ->
   codeAny (model P w) callerA (.call (.ref fa) ⟨[.ref a], []⟩) (λ r s' => r = .ok (.ret (.bool true)) /\ OldK Ă.heap s'.heap /\ s'.os = Ă.os /\ AllBare s'.gens) Ă := by
  intro H hO hS Ē hA hK;have hz : H sysModules = none := by
   cases q : H sysModules with
   | none => rfl
   | some u => exact absurd (hA _ (by rw [q]; simp)).symm low
  have HQ : ∀ {b : Addr} {o : Obj}, Ă.heap.get? b = some o -> H b = none -> (jx Ă.heap H).get? b = some o := λ e n => q8 e n;have L6 : ∀ {b : Addr} {o : Obj} {es : Array DictEntry} {ep : Nat}, Ă.heap.get? b = some o -> o.data = .dict es ep -> H b = none := λ {b o es ep} e d => by
   cases q : H b with
   | none => rfl
   | some u =>
    have e' : b = a := hA b (by rw [q]; simp)
    subst e';rw [ha] at e; cases e;have d' : Data.seq vs.toArray _ = Data.dict es ep := d;cases d'
  have MV : ∀ {b : Addr} {m : bE}, Ă.heap.Ns b m -> (jx Ă.heap H).Ns b m := λ {b m} ⟨o, es, ep, e, d, r⟩ => ⟨o, es, ep, HQ e (L6 e d), d, r⟩;have QP : K.In (jx Ă.heap H) := λ b o e => HQ (KX b o e) (by
   cases q : H b with
   | none => rfl
   | some u =>
    have e' : b = a := hA b (by rw [q]; simp)
    subst e';rw [hK (by rw [q]; simp)] at e; cases e)
  have hM : Mod K mg (jx Ă.heap H) := ⟨QP, MV QB, ⟨mb, MV hb, Uy⟩, let ⟨mc, h1, h2⟩ := OK; ⟨mc, MV h1, h2⟩⟩
  have e0 : HF P w K mg (jx Ă.heap H) callerA [] Ă H := ⟨rfl, hM, λ b o e => uu e, ω (oN _ _), trivial, λ b hb => absurd (show b ∈ ([] : List Addr) from hb) (by simp), Ē, .of_eq hg⟩
  refine F_ ((F _ QP (MV QB)).run callerA [] Ă H ⟨[.ref a], []⟩ [.ref a] [.ref a] _ _ hr e0 (MA Ă (.ref a)) (.cons rfl .nil) (Ig H hO hS hz)) λ r s' h => ?_;cases r with
  | error e => exact (O1 H e s' h).elim
  | ok fl =>
   cases fl with
   | next => exact False.elim h
   | brk => exact False.elim h
   | cont => exact False.elim h
   | ret u =>
    obtain ⟨v, H', os, bare, un, OF, r', q⟩ := h;have q' : v = .bl true := q;subst q';obtain rfl : u = Value.bool true := r';refine ⟨rfl, OldK.of_keep λ b o e => ?_, os, bare⟩;cases q : H b with
    | none => exact un.keep b o e q (by intro z; exact absurd (show b ∈ ([] : List Addr) from z) (by simp)) (by simp)
    | some u =>
     rcases hO b with z | ⟨ob, xs, z⟩
     ·rw [q] at z; cases z
     ·have z2 := un.B_ b ob _ z;obtain ⟨e1, _⟩ := Ē b _ z;obtain ⟨e2, _⟩ := OF b _ z2;rw [e] at e1; cases e1;exact e2
 cases hk : K.lookup a with
 | some o =>
  have e := KX a o hk;rw [ha] at e;cases e;refine core (λ _ => none) (λ _ => .inl rfl) (.inr ⟨_, vs.toArray, _, hk, rfl, rfl, rfl, by rw [Û, Oj]; exact hl, by simpa using rv⟩) (λ b u z => by have z' : (none : Option HO) = some u := z; cases z') (λ b z => absurd rfl z) λ z => absurd rfl z
 | none =>
  refine core (λ b => if b = a then some (.Ν { cls := .type "list", data := .seq vs.toArray } (.lst (ns.map V.int))) else none) (λ b => ?_) (.inl (.inr ⟨{ cls := .type "list", data := .seq vs.toArray }, Ô rfl⟩)) (λ b u z => ?_) (λ b z => ?_) λ _ => hk
  ·by_cases hb : b = a
   ·exact .inr ⟨_, _, Ô hb⟩
   ·exact .inl (É hb)
  ·by_cases hb : b = a
   ·have z' := (Ô hb).symm.trans z;cases z';subst hb;exact ⟨ha, by rw [Æ]; exact hl, vs, _, rv, ha⟩
   ·have z' := (É hb).symm.trans z;cases z'
  ·by_cases hb : b = a
   ·exact hb
   ·exact absurd (É hb) z
theorem Iz {l : PySem.W.OpenLaw} {n k : Nat} {q : Program} {loose : List Str} {XP : (Str -> Option Value) -> Heap -> Prop} {YP : World -> Heap -> Prop} {d : DefRec} {K : Params -> PySem.W.Frag} {CX : World -> mK} {sp : World -> Sp} {x : Str}
  (hn : l.most = some n) (Ui : n <= sizeLine) (Mx : d.params.defaults = []) (hr : ċ k callerA)
  (hY : ∀ (w : World) (h : Heap), YP w h -> (K w.params).In h)
  (F : ∀ (w : World) (mg : bE) (fa : Addr) (h : Heap), (K w.params).In h -> h.Ns mainGlobals mg -> mg d.name = some (.ref fa) ->
   ∃ fd : FuncData, (∀ (s : Shared) (u : Value), BindsTo s fd ⟨[u], []⟩ [(x, u)]) /\
    ∀ base : Heap, (K w.params).In base -> base.Ns mainGlobals mg -> az l.prog w (K w.params) mg base (CX w) k fa fd [x] (sp w))
  (Ig : ∀ (w : World) (H : Hp) (a : Addr) (ns : List Int), ns.length <= n -> wD H -> ñ (K w.params) H a (ns.map V.int) -> H sysModules = none -> sp w [.ref a] H (λ v _ => v = .bl true) λ _ _ _ => False)
  (O1 : ∀ (w : World) (H : Hp) (s : Shared) (e : Value) (s' : Shared), CX w [] H s (λ _ _ _ => False) e s' -> False) :
  PySem.W.WalkO q loose XP YP l.row.toRowW d [] (λ f vs => PySem.call f vs) := by
 refine Att.GK hn Mx λ w ő Ă mg mb fa o pm cd doc a vs ns G Y ho hd Ih Mq KI hints ņ hg low => ?_;have KX := hY w _ Y;obtain ⟨fd, hb, hF⟩ := F w mg fa _ KX G.T.g Mq;exact oK KX G.T.g G.T.b G.T.builtins G.T.nolimit hg KI hints (Ú ņ Ui) hr low hF hb (λ H hO hS hz => Ig w H a ns ņ hO hS hz) λ H e s' => O1 w H Ă e s'
end L2
namespace My
open PySem L2
def cf (i : Nat) : Stmt := PySem.Challenge.pw_trialdeal_k58_whole_truth_seldom_ruled_o.main.body.getD i (.Pass ⟨0, 0, 0, 0⟩)
end My
namespace My
open PySem
section
variable {prog : Program} {w : World} {A : Around} {h : Heap} {g : Array GenState} {d : Drawn} {tk : Nat} {os : OsState} {C N e t0 : Addr}
variable {nm q : Str} {bs bm K2 : List Value} {Jw ab : Bool} {sn : List Str} {sub : List Value} {col : Option Bool} {dd : Option Addr}
variable {k0 k1 k2 k3 k5 : Option Value} {B newId A_ : String}
abbrev cY (C t : Addr) : Obj := { cls := .ref C, data := .fields #[.ref t, .none, .none, .none, .bool false, .none] }
theorem we {R : Result -> Shared -> Prop} {v : Value} (F : ExcBaseFacts B newId A_ K2) (T : OwnTail h K2 bm)
  (hC : h.get? C = some (excClassObj nm q C N bs bm Jw sn sub ab col dd k0 k1 k2 k3 k5 newId)) (he : h.get? e = some (cY C t0))
  (hR : ∀ h', h'.get? e = some (cY C h.objs.size) -> (∀ b o, b ≠ e -> h.get? b = some o -> h'.get? b = some o) -> R (.ok (.ret .none)) ⟨h', g, d, tk, os⟩) :
  codeAny (model prog w) A (.call (.builtin A_) ⟨[.ref e, v], []⟩) R ⟨h, g, d, tk, os⟩ := by
 refine GU F.init.plain F.initEntry (wpAny_check_init_subT F T hC he rfl ?_)
 wp_walk
 refine hR _ ?_ λ b o hb eb => ?_
 ·exact í _ (Á _ he) rfl
 ·exact (ß _ _ _ _ hb).trans (Á _ eb)
end
end My
namespace My
open PySem PySem.W Builtin Builtin.ObjectAttr
section
variable {prog : Program} {w : World} {A : Around} {s : Shared} {K : Frag} {C x : Addr}
theorem sW {R : Result -> Shared -> Prop} {ox : Obj} {od : Option Obj} {name : Str} {tk : Tok} {v : Value} {cd : ClassData} (X : K.In s.heap) (I : InstAt s.heap x ox C od)
  (hc : clsIn K C = some cd) (hp : refuseLoop (.ref x) "__setattr__" cd.mro = pure ()) (Mr : mroIn K C (.type "object") = some true) (ht : takerIn K C name = some none)
  (h : ∀ b, wpAny (model prog w) A.in1 (storeInOwnDict (.ref x) (.ref C) (.str name tk) name v b)
   (λ fin s' => match fin with | .done f => R (.ok f) s' | .again c' => c'.quiet = true /\ codeAny (model prog w) A c' R s') (λ e s' => R (.error e) s') s) :
  codeAny (model prog w) A (.call (.builtin "object.__setattr__") ⟨[.ref x, .str name tk, v], []⟩) R s := by
 have SF := PySem.F.store_object;have sub : Looks (model prog w) s.heap (isInstance (.ref x) (.type "object")) true := I.type.andThen (looks_mroIn X Mr);refine GU SF.slot.plain SF.entry (@check_slot (model prog w) _ _ s "object.__setattr__" "object" "__setattr__" (.ref x) [.str name tk, v] [] _ SF.kind SF.split sub (SF.args _ _ _) ?_);obtain ⟨attr, ha, hr⟩ := Option.bind_eq_some_iff.mp ht;have hm : Looks (model prog w) s.heap (mroOf (.ref C)) cd.mro := (looks_clsIn X hc).andThen .now;have L3 : Looks (model prog w) s.heap (storeTaker? attr) none := by
  cases attr with
  | none => exact .now
  | some a =>
   obtain ⟨b, hb, e⟩ := ğ.mp hr;refine (looks_takesIn X hb).andThen ?_;cases b
   ·exact .now
   ·cases e
 rw [osa_eq, refuse_eq];refine À (À (I.type.here (À (hm.here ?_))));rw [hp];refine Â (À (I.type.here (À ((Jl X ha).here (À (L3.here ?_))))));exact h _
end
section
variable {prog : Program} {w : World} {A : Around} {E : bM} {s : Shared} {K : Frag} {C x : Addr}
theorem xo {fs : Array Value} {sl : Array (Option Value)} {name : Str} {v : Value} {cd : ClassData} {Q : Unit -> Shared -> Prop} (X : K.In s.heap) (hx : s.heap.get? x = some ⟨.ref C, none, .fields fs, sl⟩)
  (hs : findIn K (.ref C) "__setattr__" = some (some (.builtin "object.__setattr__"))) (hc : clsIn K C = some cd) (hd : cd.hasDict = true)
  (hp : refuseLoop (.ref x) "__setattr__" cd.mro = pure ()) (Mr : mroIn K C (.type "object") = some true) (ht : takerIn K C name = some none)
  (h : ∀ h' tk, h'.get? x = some ⟨.ref C, some s.heap.objs.size, .fields fs, sl⟩ -> h'.Ns1 s.heap.objs.size (λ y => if y = name then some v else none) ->
   (∀ b o, b ≠ x -> s.heap.get? b = some o -> h'.get? b = some o) -> Q () { s with heap := h', toks := tk }) : wpAny (model prog w) A (setAttr (.ref x) name v) Q E s := by
 have J : InstAt s.heap x ⟨.ref C, none, .fields fs, sl⟩ C none := ⟨hx, rfl, rfl, True.intro⟩;refine set_plain X J hs (sW (s := { s with toks := s.toks + 1 }) X J hc hp Mr ht λ b => ?_)
 refine À (Â (À (À (wpAny_loadPart hx (À (Ŧ (s := { s with toks := s.toks + 1 }) (looks_clsIn X hc) ?_))))))
 rw [hd];have M3 : (s.heap.push { cls := .type "dict", data := .dict #[] }).get? x = some ⟨.ref C, none, .fields fs, sl⟩ := Á _ hx;have Qy : x ≠ s.heap.objs.size := Ë (È hx);refine À (wpAny_alloc' ?_);refine À (wpAny_update' M3 ?_);refine Â ?_;generalize eU : ((s.heap.push { cls := .type "dict", data := .dict #[] }).update x λ o => { cls := o.cls, dict := some s.heap.objs.size, data := o.data, slots := o.slots } : Heap) = hU;have gd : hU.get? s.heap.objs.size = some { cls := .type "dict", data := .dict #[] } := by
  rw [<- eU];exact (ß _ _ _ _ Qy.symm).trans (Ů rfl rfl)
 have gx : hU.get? x = some ⟨.ref C, some s.heap.objs.size, .fields fs, sl⟩ := by
  rw [<- eU];exact í _ M3 rfl
 have nd : hU.Ns s.heap.objs.size (λ _ => none) := ⟨_, #[], _, gd, rfl, λ e he => absurd he (by simp), λ _ => rfl⟩
 show wpAny _ _ (storeInDict s.heap.objs.size (.str name _) name v) _ _ _;unfold storeInDict newKeyGuard;refine À (Â (À (wpAny_nsSet1 (Heap.Ns1.of_empty nd) λ h' JQ B' => ?_)));obtain ⟨oD, WH, WI, OJ, Uw, Jx⟩ := JQ.count (Within.cons name v Within.nil);refine À (wpAny_lookBehind OJ (by
  rw [Uw];exact pastItsLine_dict (Ú Jx (by rw [Ñ, HX, Þ]; omega))) ?_)
 refine Â ?_;refine h h' _ ((B'.2 x Qy).trans gx) JQ λ b o hb e => ?_;refine (B'.2 b (Ë (È e))).trans ?_;rw [<- eU];exact (ß _ _ _ _ hb).trans (Á _ e)
end
section
variable {prog : Program} {w : World} {A : Around} {E : bM} {s : Shared} {K : Frag} {C x dx : Addr}
abbrev vB : String := "BaseException.__getattribute__"
end
end My
namespace My
open PySem PySem.W
section
variable {prog : Program} {w : World} {A : Around} {E : bM} {h : Heap} {g : Array GenState}
variable {d : Drawn} {t : Nat} {os : OsState} {nm q : Str} {C N : Addr} {bs bm K2 : List Value} {Jw ab : Bool}
variable {sn : List Str} {sub : List Value} {col : Option Bool} {dd : Option Addr}
variable {k0 k1 k2 k3 k5 : Option Value} {B newId A_ : String} {K : Frag}
abbrev fV (vs : List Value) : Obj := { cls := .type "tuple", data := .seq vs.toArray }
theorem yR (X : K.In h) (F : ExcBaseFacts B newId A_ K2) (T : OwnTail h K2 bm) {rest : List Value}
  {fI : Addr} {Q : Fin -> Shared -> Prop}
  (hC : h.get? C = some (excClassObj nm q C N bs bm Jw sn sub ab col dd k0 k1 k2 k3 k5 newId))
  (hi : findIn K (.ref C) "__init__" = some (some (.ref fI))) (OT : typeIn K (.ref fI) = some (.type "function"))
  (hq : wpAny (model prog w) A (call (.ref fI) (.ref (h.objs.size + 1) :: rest))
   (λ r s' => r = .none /\ Q (.done (.ret (.ref (h.objs.size + 1)))) s') E ⟨(h.push (fV rest)).push (cY C h.objs.size), g, d, t, os⟩)
  (IN : rest.length <= sizeLine) :
  wpAny (model prog w) A (Builtin.«type.__call__» ⟨.ref C :: rest, []⟩) Q E ⟨h, g, d, t, os⟩ := by
 repeat (first
  | with_reducible refine Iq hC ?_
  | with_reducible refine wpAny_madeBy_exc hC ?_
  | wp_step)
 refine codeAny_call_builtin_code (Code.quiet_builtin _ F.quiet) (wpAny_check_new_subT F T hC ?_);refine codeAny_exc_new_subT F T hC ?_ IN;show wpAny _ _ _ _ _ _;have up : ∀ b o, h.get? b = some o -> ((h.push (fV rest)).push (cY C h.objs.size)).get? b = some o :=
  λ b o e => Á _ (Á _ e)
 have UD := up _ _ hC;have X1 : K.In ((h.push (fV rest)).push (cY C h.objs.size)) := X.keeps up;have Us : ((h.push (fV rest)).push (cY C h.objs.size)).get? (h.objs.size + 1) = some (cY C h.objs.size) := by heap_get
 have Ux : (Value.ref C :: bm).contains (.ref C) = true := by simp
 unfold isInstance
 repeat (first
  | with_reducible refine Iq Us ?_
  | (with_reducible refine wpAny_isSubtype_exc UD ?_; rw [Ux])
  | wp_step)
 show wpAny _ _ (typeLookup (.ref C) _) _ _ _;refine Ŧ (s := ⟨(h.push (fV rest)).push (cY C h.objs.size), g, d, t, os⟩) (Jl X1 hi) ?_;refine ï (À ?_);unfold bindSpecial;refine À (Ŧ (s := ⟨(h.push (fV rest)).push (cY C h.objs.size), g, d, t, os⟩) (looks_typeIn X1 OT) ?_);rw [Ô ag];refine Â (À (Ü hq (λ r s' hr => ?_) λ _ _ x => x));obtain ⟨rfl, hQ⟩ := hr
 wp_walk
 exact hQ
theorem Aq (X : K.In h) (F : ExcBaseFacts B newId A_ K2) (T : OwnTail h K2 bm) {rest : List Value}
  {fI : Addr} {Q : bM}
  (hC : h.get? C = some (excClassObj nm q C N bs bm Jw sn sub ab col dd k0 k1 k2 k3 k5 newId))
  (hi : findIn K (.ref C) "__init__" = some (some (.ref fI))) (OT : typeIn K (.ref fI) = some (.type "function"))
  (hq : wpAny (model prog w) (A.under (.builtin "type.__call__" ⟨.ref C :: rest, []⟩))
   (call (.ref fI) (.ref (h.objs.size + 1) :: rest)) (λ r s' => r = .none /\ Q (.ref (h.objs.size + 1)) s') E ⟨(h.push (fV rest)).push (cY C h.objs.size), g, d, t, os⟩)
  (IN : rest.length <= sizeLine) : wpAny (model prog w) A (call (.ref C) rest) Q E ⟨h, g, d, t, os⟩ := by
 have f1 := tc_lookup;have f2 := tc_bind (.ref C);have hT : Shared.TypeIs ⟨h, g, d, t, os⟩ (.ref C) "type" := ⟨_, hC, rfl⟩;refine F' (codeAny_of_tree ?_);show wpAny _ _ (callAny (.ref C) _) _ _ _
 repeat (any_goals (first
  | assumption
  | with_reducible refine Iq hC ?_
  | wp_step))
 refine ⟨rfl, ?_⟩;refine codeAny_call_builtin_at (Code.quiet_builtin _ aF) entry_typeCall (wpAny_check_type_call_sub hC ?_);exact yR X F T hC hi OT hq IN
end
section
variable {prog : Program} {w : World} {A : Around} {E : bM} {s : Shared} {K : Frag} {x C : Addr} {ox : Obj} {od : Option Obj}
theorem rA {a g : Value} {name : Str} (hc : (clsIn K C).isSome = true) (ha : findIn K (.ref C) name = some (some a)) (hg : specialIn K a "__get__" = some (some g)) (ht : takesIn K a = some true) : findObj K C od name = some (.bind g a) := by
 obtain ⟨cd, hc⟩ := œ.mp hc;unfold findObj;rw [hc, Hm, ha, Hm];simp [hg, ht]
theorem uq {R : Result -> Shared -> Prop} {name : Str} {tk : Tok} {a g : Value} (X : K.In s.heap) (I : InstAt s.heap x ox C od)
  (Mr : mroIn K C (.type "BaseException") = some true) (hf : findObj K C od name = some (.bind g a))
  (h : wpAny (model prog w) A.in1 (call g [a, .ref x, .ref C]) (λ v s' => R (.ok (.ret v)) s') (λ e s' => R (.error e) s') s) :
  codeAny (model prog w) A (.call (.builtin vB) ⟨[.ref x, .str name tk], []⟩) R s := by
 have sub : Looks (model prog w) s.heap (isInstance (.ref x) (.type "BaseException")) true := I.type.andThen (looks_mroIn X Mr);have L1 := looks_find (M := model prog w) X I hf;refine GU Ix.ga.plain PySem.F.entry_bexc_ga (@check_slot (model prog w) _ _ s vB "BaseException" "__getattribute__" (.ref x) [.str name tk] [] _ aF aF sub (PySem.F.args_bexc_ga _ _) ?_);refine À (Â (À (Â (À (I.type.here (À (L1.here ?_)))))));show wpAny _ _ (holding [a] (call g [a, .ref x, .ref C]) >>= ret) _ _ _;exact À (ï (Ü h (λ v s' z => Â z) λ _ _ z => z))
structure oZ (K : Frag) (C : Addr) : Prop where
 cls : (clsIn K C).isSome = true
 ga : findIn K (.ref C) "__getattribute__" = some (some (.builtin vB))
 hk : findIn K (.ref C) "__getattr__" = some none
 mb : mroIn K C (.type "BaseException") = some true
 mo : mroIn K C (.type "object") = some true
 ca : findIn K (.ref C) "__class__" = some (some (.builtin "object.__class__"))
theorem p8 {Q : Option Value -> Shared -> Prop} (T : oZ K C) (hn : specialIn K (.builtin "object.__class__") "__get__" = some (some (.builtin "getset_descriptor.__get__"))) (K_ : takesIn K (.builtin "object.__class__") = some true)
  (X : K.In s.heap) (I : InstAt s.heap x ox C od) (h : Q (some (.ref C)) { s with toks := s.toks + 1 }) : wpAny (model prog w) A (getAttr? (.ref x) "__class__") Q E s := by
 have hf : findObj K C od "__class__" = some (.bind (.builtin "getset_descriptor.__get__") (.builtin "object.__class__")) := rA T.cls T.ca hn K_;have L0 := I.type (M := model prog w);have L1 := Jl (M := model prog w) X T.ga;have L2 := Jl (M := model prog w) X T.hk;have f3 := Ix.ga.bind (.ref x);unfold getAttr? getAttrBy? getAttrBy;refine À (wpAny_mkText (À (Ň (ï (À (Ŧ (s := { s with toks := s.toks + 1 }) L0 (À (Ŧ (s := { s with toks := s.toks + 1 }) L1 ?_))))))))
 have M3 : (onTheHeap (Value.ref C) && Value.builtin vB == Value.builtin "object.__getattribute__") = false := by
  rw [show (Value.builtin vB == Value.builtin "object.__getattribute__") = false from by decide +kernel]
  rfl
 show wpAny _ _ (if (onTheHeap (Value.ref C) && Value.builtin vB == Value.builtin "object.__getattribute__") = true then _ else _) _ _ _
 rw [É (by rw [M3]; decide)]
 unfold getAttrByItsOwn;refine À ?_;show wpAny _ _ (typeLookup (.ref C) "__getattr__") _ _ _;refine Ŧ (s := { s with toks := s.toks + 1 }) L2 ?_
 refine À (Ň (ï ?_));unfold callGetattribute;rw [É ag];unfold boundAndCalled;rw [f3];refine À (Â ?_);refine F' (uq (s := { s with toks := s.toks + 1 }) X I T.mb hf ?_)
 refine F' (class_get (s := { s with toks := s.toks + 1 }) (ox := ox) (od := od) X I T.mo ?_)
 show wpAny _ _ (handedOut (.ref C)) _ _ _;rw [handedOut_of rfl];exact Â (Â h)
theorem wg (T : oZ K C) (hn : specialIn K (.builtin "object.__class__") "__get__" = some (some (.builtin "getset_descriptor.__get__"))) (K_ : takesIn K (.builtin "object.__class__") = some true) :
  KitX K (.ref x) (.ref C) (λ h => ∃ ox od, InstAt h x ox C od) where
 ty := λ _ _ _ ⟨_, _, I⟩ => I.type
 it := λ _ _ X _ => by
  obtain ⟨V', Jx⟩ := œ.mp T.cls;unfold clsIn at Jx;split at Jx
  ·rename_i c' d' V_ NK ho
   intro A' Q' E' s' k q;unfold isType loadHead;exact À (wpAny_loadPart (k _ _ (X _ _ ho)) (Â q))
  ·cases Jx
 ne := λ h tp dd its n sl X TY => by
  obtain ⟨V', Jx⟩ := œ.mp T.cls;refine Bool.eq_false_iff.mpr λ q => ?_;have e : C = tp := Value.ref.inj (beq_iff_eq.mp q);subst e;unfold clsIn at Jx;split at Jx
  ·rename_i c' d' V_ NK ho
   have z := (X _ _ ho).symm.trans TY;cases z
  ·cases Jx
 ca := λ X ⟨_, _, I⟩ k => p8 T hn K_ X I k
end
end My
namespace My
open PySem PySem.W L2
abbrev oU : List Value := [.type "ValueError", .type "Exception", .type "BaseException", .type "object"]
abbrev jb (C : Addr) (d : Option Addr) (t : Addr) : Obj := { cls := .ref C, dict := d, data := .fields #[.ref t, .none, .none, .none, .bool false, .none] }
def cJ (x C : Addr) (d : Option Addr) : HO := .ext λ h => ∃ t, h.get? x = some (jb C d t)
theorem jD {P : Program} {w : World} {H : Hp} {h : Heap} {x C : Addr} {d : Option Addr} {t : Addr} (e : h.get? x = some (jb C d t)) : Ĉ P w H h x (cJ x C d) :=
 ⟨⟨t, e⟩, ⟨_, e⟩, λ _ _ ⟨t', e'⟩ k => ⟨t', k _ e'⟩⟩
theorem fG {P : Program} {w : World} {H : Hp} {h : Heap} {x C : Addr} {d : Option Addr} (ok : ŷ P w H h) (e : H x = some (cJ x C d)) : ∃ t, h.get? x = some (jb C d t) := (ok x _ e).1
theorem qN {H : Hp} {a : Addr} {o : HO} (h : H a = some o) : ao H a o = H := by
 funext b
 unfold ao;split
 ·rename_i e; rw [e, h]
 ·rfl
structure Ÿ (K : Frag) (D : Addr) : Prop where
 cls : ∃ nm q N bs sn sub ab col dd k0 k1 k2 k3 k5, K.lookup D = some (excClassObj nm q D N bs oU true sn sub ab col dd k0 k1 k2 k3 k5 "ValueError.__new__") /\
    ∃ o es ep, K.lookup N = some o /\ o.data = .dict es ep /\ StrKeys es /\ nsFind es "__init__" = none
 ga : specialIn K (.ref D) "__getattribute__" = some (some (.builtin "type.__getattribute__"))
 reads : readsIn K D (.type "type") = true
 Mh : findCls K (.ref D) (.type "type") "__init__" = some (.val (.builtin "ValueError.__init__"))
 fi : findIn K (.ref D) "__init__" = some (some (.builtin "ValueError.__init__"))
 kp : keepIn K (.ref D) = true
 it : oZ K D
theorem Ÿ.tail {K : Frag} {D : Addr} (B : Ÿ K D) {h : Heap} (X : K.In h) : OwnTail h oU (.ref D :: oU) := by
 obtain ⟨nm, q, N, bs, sn, sub, ab, col, dd, k0, k1, k2, k3, k5, l, o, es, ep, lN, hd, hs, hn⟩ := B.cls;exact .own (X _ _ l) ⟨o, es, ep, X _ _ lN, hd, hs, λ _ => rfl⟩ hn .base
structure Κ (K : Frag) (D : Addr) (nm : Str) (C f : Addr) : Prop where
 cls : ∃ q N bs sn sub ab col dd k0 k1 k2 k3 k5, K.lookup C = some (excClassObj nm q C N bs (.ref D :: oU) true sn sub ab col dd k0 k1 k2 k3 k5 "ValueError.__new__")
 init : findIn K (.ref C) "__init__" = some (some (.ref f))
 fn : typeIn K (.ref f) = some (.type "function")
 kp : keepIn K (.ref C) = true
 sa : findIn K (.ref C) "__setattr__" = some (some (.builtin "object.__setattr__"))
 it : oZ K C
theorem Κ.clsIn {K : Frag} {D C f : Addr} {nm : Str} (T : Κ K D nm C f) : ∃ cd, PySem.W.clsIn K C = some cd /\ cd.hasDict = true /\ cd.mro = .ref C :: .ref D :: oU := by
 obtain ⟨q, N, bs, sn, sub, ab, col, dd, k0, k1, k2, k3, k5, l⟩ := T.cls;unfold PySem.W.clsIn;rw [l];exact ⟨_, rfl, rfl, rfl⟩
theorem Κ.refuse {K : Frag} {D C f : Addr} {nm : Str} (T : Κ K D nm C f) (x : Addr) : ∃ cd, PySem.W.clsIn K C = some cd /\ cd.hasDict = true /\ refuseLoop (.ref x) "__setattr__" cd.mro = pure () := by
 obtain ⟨cd, h1, h2, h3⟩ := T.clsIn;refine ⟨cd, h1, h2, ?_⟩;rw [h3, refuseLoop_ref, refuseLoop_ref];exact PySem.F.store_ValueError.passes _
section
variable {X : Cx} {pins : List (Addr × Obj)} {σ : St} {H : Hp} {s : Shared}
def lR (C : Addr) (fld : Str) : Sp := λ vs H Q _ => ∃ x v, vs = [.ref x, v] /\ H x = some (cJ x C none) /\ ∀ dx, H dx = none -> dx ≠ x -> Q .ĉ (ao (ao H dx (.xd [(fld, v)])) x (cJ x C (some dx)))
def zm (C : Addr) (fld : Str) (te : TE) : TE := λ σ H Q => te σ H λ v H1 => ∀ x dx, H1 x = none -> H1 dx = none -> dx ≠ x -> Q (.ref x) (ao (ao H1 dx (.xd [(fld, v)])) x (cJ x C (some dx)))
theorem Eg {H : Hp} {x dx : Addr} {a b c : HO} (n : dx ≠ x) : ao (ao (ao H x a) dx b) x c = ao (ao H dx b) x c := by
 funext z
 unfold ao;by_cases h1 : z = x
 ·rw [Ô h1, Ô h1]
 ·rw [É h1, É h1];by_cases h2 : z = dx
  ·rw [Ô h2, É h1]
  ·rw [É h2, É h1]
theorem qc {D C f : Addr} {nm fld : Str} {k : Nat} {fd : FuncData} {ps : List Str} {u : Value} {v : V} {Q : VK} (B : Ÿ X.K D) (T : Κ X.K D nm C f) (F : az X.prog X.w X.K X.mg X.base au k f fd ps (lR C fld)) (hr : ċ (k + 1) X.A) (hb : Binds X.K fd ps [])
  (I : Inv X pins σ H s) (r : RelV v u) (h : ∀ x dx, H x = none -> H dx = none -> dx ≠ x -> Q (.ref x) (ao (ao H dx (.xd [(fld, v)])) x (cJ x C (some dx)))) :
  wpAny (model X.prog X.w) X.A (call (.ref C) [u]) (EP X pins σ Q) X.xe s := by
 obtain ⟨hp, g, dr, tk, os⟩ := s;obtain ⟨q, N, bs, sn, sub, ab, col, dd, k0, k1, k2, k3, k5, l⟩ := T.cls;refine Aq (C := C) I.Ω Iw (B.tail I.Ω) (I.Ω _ _ l) T.init T.fn ?_ (by rw [Ñ, HX, Þ]; omega)
 have f0 : H hp.objs.size = none := I.fresh;have I1 : Inv X pins σ H ⟨hp.push (fV [u]), g, dr, tk, os⟩ := I.kept (h' := hp.push (fV [u])) (t' := tk) λ b o e => Á _ e;have sz : (hp.push (fV [u])).objs.size = hp.objs.size + 1 := æ _ _;have fx : H (hp.objs.size + 1) = none := by rw [<- sz]; exact I1.fresh
 have I2 : Inv X pins σ (ao H (hp.objs.size + 1) (cJ (hp.objs.size + 1) C none)) ⟨(hp.push (fV [u])).push (cY C hp.objs.size), g, dr, tk, os⟩ :=
  I1.laid (h' := (hp.push (fV [u])).push (cY C hp.objs.size)) (t' := tk) (a := hp.objs.size + 1) (λ b o e => Á _ e) (ω sz)
   (jD (t := hp.objs.size) (Ů sz.symm rfl))
 generalize (⟨(hp.push (fV [u])).push (cY C hp.objs.size), g, dr, tk, os⟩ : Shared) = s2 at I2 ⊢;generalize hp.objs.size + 1 = x at fx I2 ⊢;have r2 : Vals [V.ref x, v] [Value.ref x, u] := .cons rfl (.cons r .nil);have Ig : lR C fld [V.ref x, v] (ao H x (cJ x C none)) (λ y H2 => y = .ĉ /\ Q (.ref x) H2) E0 :=
  ⟨x, v, rfl, bh, λ dx hd nd => ⟨rfl, by
   rw [Eg nd];rw [ah nd] at hd;exact h x dx fx hd nd⟩⟩
 have hl : ([Value.ref x, u] ++ [] : List Value).length = ps.length := by
  rw [ã, <- r2.length];exact F.len _ _ _ _ Ig
 have QM := hb s2 [Value.ref x, u] I2.Ω hl;rw [ã] at QM;refine F' (F_ (F.run _ X.stack s2 _ ⟨[Value.ref x, u], []⟩ [Value.ref x, u] _ _ E0 (hr.make C [u] []) (I2.MD.make C [u] []) QM r2 Ig) λ r s' Mk => ?_);cases r with
 | error e => exact False.elim Mk
 | ok fl =>
  cases fl with
  | ret u' =>
   obtain ⟨y, H', I3, ry, ey, q3⟩ := I2.after Mk;subst ey;exact ⟨ry, V.ref x, H', I3, rfl, q3⟩
  | next => exact False.elim Mk
  | brk => exact False.elim Mk
  | cont => exact False.elim Mk
end
def yo (h : Heap) (e : Addr) (vs : Array Value) : Prop := vs[1]? = some .none \/ ∃ T oT ts, vs[1]? = some (.ref T) /\ T ≠ e /\ h.get? T = some oT /\ oT.data = .fields ts /\ ts[3]? = some .none
structure D_ (fr : List Addr) (e T : Addr) (oe : Obj) (h h' : Heap) (r : Value) : Prop where
 keep : ∀ b o, b ≠ e -> b ∉ fr -> h.get? b = some o -> h'.get? b = some o
 slot : ∀ b o, b ≠ e -> h.get? b = some o -> ∃ sl, h'.get? b = some { o with slots := sl }
 new : h.objs.size <= T
 exc : h'.get? e = some (oe.mapFields (λ x => x.setIfInBounds 1 (.ref T)))
 Nw : ∃ oT ts, h'.get? T = some oT /\ oT.data = .fields ts /\ ts[3]? = some r /\ T ≠ e
theorem pU {vs : Array Value} {i : Nat} {v : Value} (h : vs[i]? = some v) : vs.setIfInBounds i v = vs := by
 obtain ⟨hi, e⟩ := ë.mp h;apply Array.ext
 ·simp
 ·intro j h1 h2;simp only [Array.size_setIfInBounds] at h1;rw [Array.getElem_setIfInBounds h1];split
  ·rename_i z; subst z; exact e.symm
  ·rfl
theorem sQ {o : Obj} {vs : Array Value} (hd : o.data = .fields vs) (f : Array Value -> Array Value) : o.mapFields f = { o with data := .fields (f vs) } := by
 obtain ⟨c, d, dt, sl⟩ := o;have e : dt = .fields vs := hd;subst e;rfl
theorem jy {M : Model} {A : Around} {E : bM} {s : Shared} {c : String} {vs : List Value} {Q : bM} (hl : vs.length <= sizeLine + 2)
  (q : Q (.ref s.heap.objs.size) { s with heap := s.heap.push { cls := .type c, data := .fields vs.toArray } }) : wpAny M A (newFields c vs) Q E s := by
 unfold newFields newObj;refine ł (â (by rw [Û]; omega)) ?_
 unfold newObjAsIs;exact À (wpAny_alloc (Â q))
theorem pJ {pl : List Value} (h : IsPlace pl) : pl.length <= 6 := by
 rcases h with rfl | ⟨a, b, c, d, c9, WN, _, rfl⟩
 ·decide
 ·exact Å _
section
variable {M : Model} {A : Around} {E : bM} {s : Shared} {base : Heap} {env : Env} {outer : List Env} {L e : Addr} {oe : Obj} {vs : Array Value} {Q : Unit -> Shared -> Prop}
theorem oA {head : Value} {hn : Bool} (hA : A.frames = some (env :: outer)) (hF : s.heap.FunFrames base (env :: outer)) (hL : env.frame = some L) (he : s.heap.get? e = some oe) (hd : oe.data = .fields vs) (h1 : 1 < vs.size)
  (q : ∀ h' T, D_ (i5 (env :: outer)) e T oe s.heap h' (rawInt ↑L) -> Q () { s with heap := h' }) :
  wpAny M A (do
   let a <- frameOf env
   let pl <- entryPlaceOf L hn
   let b <- EntryCells.newEntry head a .none (rawInt ↑L) .none pl
   setField (.ref e) 1 b) Q E s := by
 have MW : e ∉ i5 (env :: outer) := λ z => by
  obtain ⟨_, o, ho, hn⟩ := hF.mem z;rw [he] at ho; cases ho;exact hn vs hd
 refine À (wpAny_frameOf_fun hA hF hL λ IT so => ?_);refine À (wpAny_entryPlaceOf λ pl l_ => ?_);refine À ?_;unfold EntryCells.newEntry;refine jy ?_ ?_
 ·have := pJ l_;have b : 100 <= sizeLine := ag;rw [Ì];split
  ·rw [ç]; show 5 + 6 <= _; omega
  ·show 5 + pl.length <= _; omega
 have e1 : IT.get? e = some oe := by rw [so.2.1 e MW]; exact he
 have lt := È e1;generalize QA : ({ cls := .type "traceback", data := .fields ([head, Value.ref L, .none, rawInt ↑L, .none] ++ if pl.isEmpty = true then List.replicate 6 Value.none else pl).toArray } : Obj) = ob
 have e2 : (IT.push ob).get? e = some oe := Á _ e1;refine ū e2 hd h1 ?_;refine q _ IT.objs.size ⟨λ b o nb nf hb => ?_, λ b o nb hb => ?_, ω so.1.symm, ?_, ?_⟩
 ·rw [ß _ _ _ _ nb];exact Á _ (by rw [so.2.1 b nf]; exact hb)
 ·obtain ⟨sl, z⟩ := so.2.2 b o hb;exact ⟨sl, by rw [ß _ _ _ _ nb]; exact Á _ z⟩
 ·exact í _ e2 (by rw [sQ hd]; rfl)
 ·have nT : IT.objs.size ≠ e := Ne.symm (Ë lt);refine ⟨ob, _, ?_, by rw [<- QA], ?_, nT⟩
  ·rw [ß _ _ _ _ nT];exact Ů rfl (by rw [<- QA]; rfl)
  ·rfl
theorem l8 (hA : A.frames = some (env :: outer)) (hF : s.heap.FunFrames base (env :: outer)) (hL : env.frame = some L) (he : s.heap.get? e = some oe) (hd : oe.data = .fields vs) (hv : yo s.heap e vs)
  (q : ∀ h' T, D_ (i5 (env :: outer)) e T oe s.heap h' (rawInt ↑L) -> Q () { s with heap := h' }) : wpAny M A (noteFrame (.ref e) env) Q E s := by
 unfold noteFrame;rw [hL];rcases hv with hv | ⟨T, oT, ts, hv, nT, hT, Jy, h3⟩
 ·have h1 : 1 < vs.size := (ë.mp hv).1;refine À (ó he hd hv ?_);refine ł rfl ?_;exact oA hA hF hL he hd h1 q
 ·have h1 : 1 < vs.size := (ë.mp hv).1;have Nc : 3 < ts.size := (ë.mp h3).1;refine À (ó he hd hv ?_);refine wpAny_ite_true rfl ?_;refine À (ó hT Jy h3 ?_);refine ł rfl ?_;refine À (ū hT Jy Nc ?_);have g : ∀ b, (s.heap.update T (Obj.mapFields λ x => x.setIfInBounds 3 Value.none)).get? b = s.heap.get? b := λ b => by
   by_cases z : b = T
   ·subst z;rw [í _ hT (by rw [sQ Jy]; rfl), hT, sQ Jy, pU h3, <- Jy]
   ·exact ß _ _ _ _ z
  have sz : (s.heap.update T (Obj.mapFields λ x => x.setIfInBounds 3 Value.none)).objs.size = s.heap.objs.size := u_ _ _ _;generalize s.heap.update T (Obj.mapFields λ x => x.setIfInBounds 3 Value.none) = h0 at g sz;have QR : h0.FunFrames base (env :: outer) := Heap.FunFrames.of_keeps (λ b o hb _ => ⟨o, by rw [g]; exact hb, rfl⟩) hF
  refine oA (s := { s with heap := h0 }) hA QR hL (by show h0.get? e = _; rw [g]; exact he) hd h1 λ h' T' x => ?_
  exact q h' T' ⟨λ b o nb nf hb => x.keep b o nb nf (by show h0.get? b = _; rw [g]; exact hb), λ b o nb hb => x.slot b o nb (by show h0.get? b = _; rw [g]; exact hb), by rw [<- sz]; exact x.new, x.exc, x.Nw⟩
theorem D_.KR {fr : List Addr} {T : Addr} {h h' : Heap} {r : Value} (x : D_ fr e T oe h h' r) (hd : oe.data = .fields vs) (h1 : 1 < vs.size) (s' : Shared) (es : s'.heap = h')
  (q : ∀ h2, D_ fr e T oe h h2 .none -> Q () { s' with heap := h2 }) : wpAny M A (setFlight (.ref e) none) Q E s' := by
 subst es;obtain ⟨oT, ts, hT, Jy, h3, nT⟩ := x.Nw;have Nc : 3 < ts.size := (ë.mp h3).1;have e1 : (oe.mapFields (λ x => x.setIfInBounds 1 (.ref T))).data = .fields (vs.setIfInBounds 1 (.ref T)) := ţ hd _;have e2 : (vs.setIfInBounds 1 (Value.ref T))[1]? = some (.ref T) := by simp [h1]
 refine wpAny_setFlight_none x.exc e1 e2 hT Jy Nc (q _ ⟨λ b o nb nf hb => ?_, λ b o nb hb => ?_, x.new, ?_, ?_⟩)
 ·have z := x.keep b o nb nf hb;rw [ß _ _ _ _ (λ w => ?_)]
  ·exact z
  ·rw [w] at hb;exact absurd (à (È hb) x.new) (ÿ _)
 ·obtain ⟨sl, z⟩ := x.slot b o nb hb;refine ⟨sl, ?_⟩;rw [ß _ _ _ _ (λ w => ?_)]
  ·exact z
  ·rw [w] at hb;exact absurd (à (È hb) x.new) (ÿ _)
 ·rw [ß _ _ _ _ nT.symm];exact x.exc
 ·refine ⟨_, _, í _ hT (by rw [sQ Jy]; rfl), ţ Jy _, ?_, nT⟩
  simp [Nc]
theorem kI (hA : A.frames = some (env :: outer)) (hF : s.heap.FunFrames base (env :: outer)) (hL : env.frame = some L) (he : s.heap.get? e = some oe) (hd : oe.data = .fields vs) (hv : yo s.heap e vs)
  (q : ∀ h' T, D_ (i5 (env :: outer)) e T oe s.heap h' .none -> Q () { s with heap := h' }) : wpAny M A (leaving env (.ref e)) Q E s := by
 have h1 : 1 < vs.size := by
  rcases hv with hv | ⟨T, oT, ts, hv, _⟩
  ·exact (ë.mp hv).1
  ·exact (ë.mp hv).1
 unfold leaving;exact À (l8 hA hF hL he hd hv λ h' T x => x.KR hd h1 _ rfl λ h2 x2 => q h2 T x2)
end
def one (P : V -> Hp -> Prop) (vs : List V) (H : Hp) : Prop := match vs with
 | [v] => P v H
 | _ => False
theorem xm {P : V -> Hp -> Prop} {vs : List V} {H : Hp} (h : one P vs H) : ∃ v, vs = [v] /\ P v H := by
 cases vs with
 | nil => exact h.elim
 | cons v r =>
  cases r with
  | nil => exact ⟨v, rfl, h⟩
  | cons _ _ => exact h.elim
def Fd (P : V -> V -> Hp -> Prop) (vs : List V) (H : Hp) : Prop := match vs with
 | [v, u] => P v u H
 | _ => False
theorem yC {P : V -> V -> Hp -> Prop} {vs : List V} {H : Hp} (h : Fd P vs H) : ∃ v u, vs = [v, u] /\ P v u H := by
 match vs, h with
 | [v, u], h => exact ⟨v, u, rfl, h⟩
section
variable {X : Cx} {pins : List (Addr × Obj)} {σ : St} {H : Hp} {s : Shared}
theorem xv {D C f : Addr} {nm fld x : Str} {k : Nat} {fd : FuncData} {ps : List Str} {e : Expr} {te : TE} {p pos : Pos} (B : Ÿ X.K D) (T : Κ X.K D nm C f) (F : az X.prog X.w X.K X.mg X.base au k f fd ps (lR C fld)) (hr : ċ (k + 1) X.A) (hb : Binds X.K fd ps [])
  (hg : Gl X x) (hm : X.mg x = some (.ref C)) (ha : PE X e te) (G7 : (x == ("__debug__" : Str)) = false := by decide) (he : starEach [e] X.env = (false, eval e X.env) :: starEach [] X.env := by rfl) (l_ : (backTo pos (starEach [] X.env)).any (·.1) = false := by rfl) :
  PE X (.Call (.Name x p) [e] [] pos) (zm C fld te) := by
 intro pins s σ H Q I h;refine δ (gZ I hg hm ?_ G7);have pa : PA X [e] (ac te aH) := ad ha ap he;have h' : ac te aH σ H (one λ v H1 => ∀ x dx, H1 x = none -> H1 dx = none -> dx ≠ x -> Q (.ref x) (ao (ao H1 dx (.xd [(fld, v)])) x (cJ x C (some dx)))) := h;refine PySem.W.callWith_K (h₀ := X.base) I.ok.mod.MY T.kp (ax (pa pos pins s σ H _ I h') λ us s1 ⟨vs, H1, I1, r, q⟩ => ⟨I1.Ω, ?_⟩) he l_;obtain ⟨v, rfl, q⟩ := xm q;obtain ⟨u, rfl, ru⟩ := cW r;exact qc B T F hr hb I1 ru q
def FX (ts tt : TE) (C : Addr) : TE := λ σ H Q => ts σ H λ x H1 => tt σ H1 λ v H2 => ∃ a, x = .ref a /\ H2 a = some (cJ a C none) /\ Q .ĉ H2
theorem gG {D C f : Addr} {nm x : Str} {o e : Expr} {ts tt : TE} {p ż pos : Pos} {pl : Sem Bool} (B : Ÿ X.K D) (T : Κ X.K D nm C f) (hg : Gl X x) (hm : X.mg x = some (.ref D)) (hs : PE X o ts) (ht : PE X e tt) (G7 : (x == ("__debug__" : Str)) = false := by decide)
  (He : starEach [o, e] X.env = (false, eval o X.env) :: starEach [e] X.env := by rfl) (Oz : starEach [e] X.env = (false, eval e X.env) :: starEach [] X.env := by rfl) (l_ : (backTo pos (starEach [e] X.env)).any (·.1) = false := by rfl)
  (TX : eval (.Call (.Attribute (.Name x p) "__init__" ż) [o, e] [] pos) X.env = (do
   let ov <- eval (.Name x p) X.env
   standAt ż.atName
   let (f, first) <- holding [ov] (getMethod ov "__init__" pl)
   callWith pos f first (backTo pos (starEach [o, e] X.env)) (backToKw pos (keywordEach [] X.env))) := by rfl) :
  PE X (.Call (.Attribute (.Name x p) "__init__" ż) [o, e] [] pos) (FX ts tt C) := by
 intro pins s σ H Q I h;refine PySem.W.methodCall_KW (pl := pl) (gZ I hg hm ?_ G7) TX;refine method_cls I.Ω B.ga (cls_value I.Ω B.reads B.Mh rfl ?_);have I0 : Inv X pins σ H { s with toks := s.toks + 1 } := I.tok _
 have pa : PA X [o, e] (ac ts (ac tt aH)) := ad hs (ad ht ap Oz) He;have h' : ac ts (ac tt aH) σ H (Fd λ x v H2 => ∃ a, x = .ref a /\ H2 a = some (cJ a C none) /\ Q .ĉ H2) := h;refine Hj (ax (pa pos pins _ σ H _ I0 h') λ us s1 ⟨vs, H1, I1, r, q⟩ => ?_) He l_;obtain ⟨_, v, rfl, a, rfl, ha, q⟩ := yC q;obtain ⟨u, u', rfl, ru, Qg⟩ := nw r;cases (show u = Value.ref a from ru);obtain ⟨t0, hx⟩ := fG I1.Ē ha;obtain ⟨q', N, bs, sn, sub, ab, col, dd, k0, k1, k2, k3, k5, l⟩ := T.cls;obtain ⟨hp, g, dr, tk, os⟩ := s1;refine F' (we (C := C) Iw (B.tail I1.Ω) (I1.Ω _ _ l) hx λ h' Jf hk => ?_);have I2 : Inv X pins σ (ao H1 a (cJ a C none)) ⟨h', g, dr, tk, os⟩ := I1.write (h' := h') (t' := tk) (x := a) (e := a) (by rw [ha]; exact True.intro) (.inl rfl) (λ b o hb e => hk b o hb e) ⟨_, Jf⟩ (jD Jf)
 rw [qN ha] at I2;exact ⟨.ĉ, H1, I2, rfl, q⟩
def Ev (K : Frag) (C : Addr) (ta tv : TE) (f : Str) : TS := λ D σ H => tv σ H λ y H1 => ta σ H1 λ x H2 => ∃ a, x = .ref a /\ H2 a = some (cJ a C none) /\ takerIn K C f = some none /\ ∀ dx, H2 dx = none -> dx ≠ a -> D.nx σ (ao (ao H2 dx (.xd [(f, y)])) a (cJ a C (some dx)))
theorem qU {D C fI : Addr} {nm f : Str} {o value : Expr} {ta tv : TE} {pos pos' : Pos} (T : Κ X.K D nm C fI) (ha : PE X o ta) (hv : PE X value tv) (hs : swapsWith value (some (.Attribute o f pos')) pos.line X.env = pure false) :
  PS X (.Assign [.Attribute o f pos'] value pos) (Ev X.K C ta tv f) := by
 intro pins s σ H D' I h;refine plainObj_wpAny_Assign_Attribute (ax (hv pins s σ H _ I h) λ u s1 ⟨y, H1, I1, ry, q⟩ => ax (ha pins s1 σ H1 _ I1 q) λ ov s2 ⟨x, H2, I2, rx, a, ex, ea, tk, q2⟩ => ?_) hs;subst ex;obtain rfl : ov = Value.ref a := rx;obtain ⟨t0, hx⟩ := fG I2.Ē ea;obtain ⟨cd, hc, hd, hp⟩ := T.refuse a;refine xo I2.Ω hx T.sa hc hd hp T.it.mo tk λ h' P6 Jf JQ hk => ?_;have fr : H2 s2.heap.objs.size = none := I2.fresh;have nz : s2.heap.objs.size ≠ a := λ z => by rw [<- z, fr] at ea; cases ea
 obtain ⟨oD, es, ep, OJ, rD⟩ := id JQ;have nf : oD.isFreed = false := Obj.isFreed_of_dict rD.1;have I3 : Inv X pins σ (ao H2 s2.heap.objs.size (.xd [(f, y)])) { s2 with heap := s2.heap.push oD, toks := s2.toks } := by
  refine I2.laid (h' := s2.heap.push oD) (t' := s2.toks) (a := s2.heap.objs.size) (λ b o e => Á _ e) (Å _) ⟨_, ⟨oD, es, ep, Ů rfl nf, rD⟩, λ g => ?_⟩;by_cases e : g = f
  ·subst e;rw [Ô rfl, List.lookup_cons_self];exact ry
  ·rw [É e, Hr, ī.mpr e];exact True.intro
 have Vo : ao H2 s2.heap.objs.size (.xd [(f, y)]) a = some (cJ a C none) := by rw [ah nz.symm]; exact ea
 have I4 : Inv X pins σ (ao (ao H2 s2.heap.objs.size (.xd [(f, y)])) a (cJ a C (some s2.heap.objs.size))) { s2 with heap := h', toks := P6 } := by
  refine I3.write (h' := h') (t' := P6) (x := a) (e := a) (by rw [Vo]; exact True.intro) (.inl rfl) (λ b o hb e => ?_) ⟨_, Jf⟩ (jD (t := t0) Jf)
  by_cases z : b = s2.heap.objs.size
  ·subst z;have e' : (s2.heap.push oD).get? s2.heap.objs.size = some o := e;rw [Ů rfl nf] at e';cases e';exact OJ
  ·have e' : (s2.heap.push oD).get? b = some o := e;exact hk b o hb (by rw [<- Heap.get?_push_ne _ _ oD z]; exact e')
 exact ⟨σ, _, I4, q2 _ fr nz⟩
end
section
variable {X : Cx} {pins : List (Addr × Obj)} {σ : St} {H : Hp} {s : Shared}
theorem kH {P : Program} {w : World} {H : Hp} {h : Heap} {a C dx : Addr} {fs : List (Str × V)} (ok : ŷ P w H h) (ea : H a = some (cJ a C (some dx))) (ed : H dx = some (.xd fs)) :
  ∃ (ox od : Obj), InstAt h a ox C (some od) /\ ∃ mA : Str -> Option Value, (∀ f, υ (fs.lookup f) (mA f)) /\ ∀ name, lookIn name od = some (mA name) := by
 obtain ⟨t, hx⟩ := fG ok ea;obtain ⟨mA, hn, hr⟩ := (show Ĉ P w H h dx (.xd fs) from ok dx _ ed);obtain ⟨od, Ue, hl⟩ := jm hn;exact ⟨_, od, ⟨hx, rfl, rfl, Ue⟩, mA, hr, hl⟩
structure tD (K : Frag) : Prop where
 gt : specialIn K (.builtin "object.__class__") "__get__" = some (some (.builtin "getset_descriptor.__get__"))
 tk : takesIn K (.builtin "object.__class__") = some true
def I_ (H : Hp) (a C : Addr) : Prop := H a = some (cJ a C none) \/ ∃ dx fs, H a = some (cJ a C (some dx)) /\ H dx = some (.xd fs)
theorem I_.inst {P : Program} {w : World} {H : Hp} {h : Heap} {a C : Addr} (E : I_ H a C) (ok : ŷ P w H h) : ∃ ox od, InstAt h a ox C od := by
 rcases E with e | ⟨dx, fs, ea, ed⟩
 ·obtain ⟨t, hx⟩ := fG ok e;exact ⟨_, none, ⟨hx, rfl, rfl, True.intro⟩⟩
 ·obtain ⟨ox, od, J, _⟩ := kH ok ea ed;exact ⟨ox, some od, J⟩
end
end My
namespace My
open PySem PySem.W L2
open PyProof.Rows (AllBare)
abbrev lZ (C : Addr) (d : Option Addr) (t : Addr) (v : Value) : Obj := { cls := .ref C, dict := d, data := .fields #[.ref t, v, .none, .none, .bool false, .none] }
def mQ (x C : Addr) (d : Option Addr) : HO := .ext λ h => ∃ t v, h.get? x = some (lZ C d t v)
theorem u8 {P : Program} {w : World} {H : Hp} {h : Heap} {x C : Addr} {d : Option Addr} {t : Addr} {v : Value} (e : h.get? x = some (lZ C d t v)) : Ĉ P w H h x (mQ x C d) :=
 ⟨⟨t, v, e⟩, ⟨_, e⟩, λ _ _ ⟨t', v', e'⟩ k => ⟨t', v', k _ e'⟩⟩
def FV (n : Nat) (H : Hp) (h : Heap) (x C : Addr) (d : Option Addr) : Prop := ∃ t T oT ts, h.get? x = some (lZ C d t (.ref T)) /\ T ≠ x /\ n <= T /\ H T = none /\ h.get? T = some oT /\ oT.data = .fields ts /\ ts[3]? = some Value.none
def kc (P : Program) (w : World) : mK := λ outer H s E e s' => ∃ x C dx fs H', e = .ref x /\ s'.os = s.os /\ AllBare s'.gens /\ Un (i5 outer) [] H H' s.heap s'.heap /\ ŷ P w H' s'.heap /\ H' x = some (mQ x C (some dx)) /\ H' dx = some (.xd fs) /\ FV s.heap.objs.size H' s'.heap x C (some dx) /\ E (.ref C) (some x) H'
section
variable {X : Cx} {pins : List (Addr × Obj)} {σ : St} {H : Hp} {s : Shared}
theorem Inv.left {x C : Addr} {d : Option Addr} {t T : Addr} {v r : Value} {h' : Heap} {o : HO} (I : Inv X pins σ H s) (hS : X.stack = X.env :: X.outer) (hx : H x = some o) (ho : (∃ φ, o = .ext φ)) (he : s.heap.get? x = some (lZ C d t v))
  (l : D_ (i5 (X.env :: X.outer)) x T (lZ C d t v) s.heap h' r) : Inv X pins σ (ao H x (mQ x C d)) { s with heap := h' } := by
 obtain ⟨φ, rfl⟩ := ho;have nx : ∀ b u, H b = some u -> (∀ φ, u ≠ .ext φ) -> b ≠ x := λ b u e n z => by
  subst z;rw [hx] at e;exact n φ (Ò e).symm
 have Vk : ∀ b ∈ i5 (X.env :: X.outer), H b = none := λ b hb => I.o_ b (by rw [hS]; exact hb)
 have MW : ∀ b u, H b = some u -> b ∉ i5 (X.env :: X.outer) := λ b u e z => by rw [Vk b z] at e; cases e
 have exc : h'.get? x = some (lZ C d t (.ref T)) := l.exc;have sub : ∀ b, b ∈ i5 (X.env :: X.outer) -> b = X.env.locals \/ b ∈ X.fs := λ b hb => Ï.mp (I.ř b (by rw [hS]; exact hb))
 refine I.step (g' := s.gens) (d' := s.drawn) (t' := s.toks) (ch := []) (λ _ z => nomatch z) (λ b o hL hf _ e n => ?_) (λ b o hL hf _ e n => ?_) (λ b o _ e n => ?_) (λ b o _ e => ?_) (λ b xs e => ?_) (λ b o u e => ?_) (λ b ps e => ⟨#[], ?_⟩) (λ e => ?_) (λ m hm => ?_) (λ b u e => ?_) I.bare
 ·refine l.keep b o (λ z => by rw [z, hx] at n; cases n) (λ z => ?_) e
  rcases sub b z with q | q
  ·exact hL q
  ·exact hf q
 ·exact l.slot b o (λ z => by rw [z, hx] at n; cases n) e
 ·rw [ah (λ z => by rw [z, hx] at n; cases n)]; exact n
 ·by_cases z : b = x
  ·subst z; exact ⟨_, exc⟩
  ·obtain ⟨sl, q⟩ := l.slot b o z e;exact ⟨_, q⟩
 ·rw [ah (nx b _ e λ _ => by intro z; cases z)]; exact e
 ·rw [ah (nx b _ e λ _ => by intro z; cases z)]; exact e
 ·rw [ah (nx b _ e λ _ => by intro z; cases z), e]; simp
 ·rw [ah (λ z => by rw [z, hx] at e; cases e)]; exact e
 ·obtain ⟨o, es, ep, ho, r⟩ := hm;obtain ⟨sl, q⟩ := l.slot _ o (λ z => by have := I.free; rw [z, hx] at this; cases this) ho
  exact ⟨_, es, ep, q, r⟩
 ·by_cases z : b = x
  ·subst z;rw [bh] at e;cases e;exact u8 exc
  ·rw [ah z] at e;refine (I.Ē b u e).w_ (λ c o' hc q => ?_) (λ c q => ?_) λ c xs q => ?_
   ·rcases hc with rfl | hc
    ·exact l.keep c o' z (MW c u e) q
    ·exact l.keep c o' (nx c _ hc λ _ => by intro w; cases w) (MW c _ hc) q
   ·rw [ah (nx c _ q λ _ => by intro w; cases w)]; exact q
   ·rw [ah (nx c _ q λ _ => by intro w; cases w)]; exact q
end
section
variable {P : Program} {w : World} {K : Frag} {mg : bE} {base : Heap} {N : List Str} {qual : Str} {scope : Scope} {f : Addr} {cd : Value} {A : Around} {outer : List Env} {s0 : Shared} {H0 : Hp} {E : XK} {pins : List (Addr × Obj)} {σ : St} {H : Hp} {s : Shared}
theorem vX {x C dx : Addr} {t : Addr} {v : Value} {o : HO} {fs : List (Str × V)} (I : Inv (aU (kc P w) P w K mg base N qual scope f cd A outer s0 H0 E) pins σ H s) (hx : H x = some o) (ho : (∃ φ, o = .ext φ)) (Mw : H dx = some (.xd fs)) (he : s.heap.get? x = some (lZ C (some dx) t v))
  (hv : yo s.heap x #[.ref t, v, .none, .none, .bool false, .none]) (q : E (.ref C) (some x) (ao H x (mQ x C (some dx)))) : (aU (kc P w) P w K mg base N qual scope f cd A outer s0 H0 E).xe (.ref x) s := by
 have hA := I.ok.frames;refine kI hA I.stack rfl he rfl hv λ h' T l => ?_;have J := Inv.left I rfl hx ho he l;have nT : H T = none := I.Ē.fresh l.new;obtain ⟨oT, ts, h1, h2, h3, h4⟩ := l.Nw;have nd : dx ≠ x := λ z => by
  obtain ⟨φ, rfl⟩ := ho;rw [z, hx] at Mw; cases Mw
 refine ⟨x, C, dx, fs, _, rfl, J.os, J.bare, J.base, J.Ē, bh, by rw [ah nd]; exact Mw, ⟨t, T, oT, ts, l.exc, h4, Ú I.sz l.new, ?_, h1, h2, h3⟩, q⟩
 rw [ah h4]; exact nT
theorem vD : gg (kc P w) (aU (kc P w) P w K mg base N qual scope f cd A outer s0 H0 E) E := by
 intro pins σ H s e s' I h;obtain ⟨x, C, dx, fs, H', rfl, os, bare, un, Ē, hx, Mw, ⟨t, T, oT, ts, h1, h2, _, h4, h5, h6, h7⟩, q⟩ := h;have J := I.IV os un Ē bare (λ b z => absurd z (by simp))
 refine vX J hx ⟨_, rfl⟩ Mw h1 (.inr ⟨T, oT, ts, rfl, h2, h5, h6, h7⟩) ?_;rw [qN hx];exact q
end
end My
namespace My
open PySem PySem.W L2
open PyProof.Rows (AllBare)
section
variable {prog : Program} {w : World} {A : Around} {E : bM} {s : Shared} {env : Env} {x : Sem Value} {Q : Flow -> Shared -> Prop} {K : Frag} {C : Addr}
theorem rm (T : oZ K C) (ht : typeIn K (.ref C) = some (.type "type")) (hA : A.handled = none)
  (hx : wpAny (model prog w) A x (λ v s1 => ∃ e t d od, v = .ref e /\ InstAt s1.heap e (jb C d t) C od /\ K.In s1.heap /\ E (.ref e) s1) E s) : wpAny (model prog w) A (raiseStmt env (some x) none) Q E s := by
 unfold raiseStmt;refine À (Ü hx (λ v s1 h => ?_) (λ _ _ z => z));obtain ⟨e, t, d, od, rfl, I, KX, q⟩ := h;obtain ⟨hp, g, dr, tk, os⟩ := s1;have Qj : ∀ c : ClassData, (jb C d t).data ≠ Data.cls c := λ c z => by cases z
 refine À (Â ?_);refine À ?_;show wpAny _ _ (excFromValue (.ref e) _) _ _ _;unfold excFromValue;refine À ?_;unfold isExcClass;refine À (ks_wpAny_isType_inst I.at_ Qj ?_);refine ł rfl (Â ?_);refine ł rfl ?_;refine À ?_;have sub : Looks (model prog w) hp (isInstance (.ref e) (.type "BaseException")) true := I.type.andThen (looks_mroIn KX T.mb);refine Ŧ (s := ⟨hp, g, dr, tk, os⟩) sub ?_;refine wpAny_ite_true rfl (Â ?_);refine À (ks_wpAny_isType_inst I.at_ Qj ?_);refine ł rfl ?_;refine À ?_;unfold raisedInstance;refine À (Ŧ (s := ⟨hp, g, dr, tk, os⟩) I.type ?_);refine À (Ŧ (s := ⟨hp, g, dr, tk, os⟩) (looks_typeIn KX ht) ?_);refine wpAny_ite_true rfl (Â ?_);refine À ?_;unfold setFlight;refine À (ó I.at_ rfl rfl ?_);refine ł rfl (Â ?_);exact wpAny_raiseNew_none hA q
end
theorem Κ.type {K : Frag} {D : Addr} {nm : Str} {C f : Addr} (T : Κ K D nm C f) : typeIn K (.ref C) = some (.type "type") := by
 obtain ⟨q, N, bs, sn, sub, ab, col, dd, k0, k1, k2, k3, k5, l⟩ := T.cls;show (K.lookup C).map (λ o => o.cls) = _;rw [l];rfl
def qR (E : XK) (C : Addr) : VK := λ y H' => ∃ x dx fs, y = .ref x /\ H' x = some (cJ x C (some dx)) /\ H' dx = some (.xd fs) /\ E (.ref C) (some x) (ao H' x (mQ x C (some dx)))
def v9 (E : XK) (C : Addr) (fld : Str) (te : TE) : TS := λ _ σ H => zm C fld te σ H (qR E C)
theorem nu {H : Hp} {x : Addr} {a b : HO} : ao (ao H x a) x b = ao H x b := by
 funext z
 unfold ao;by_cases h : z = x
 ·rw [Ô h, Ô h]
 ·rw [É h, É h, É h]
section
variable {P : Program} {w : World} {K : Frag} {mg : bE} {base : Heap} {N : List Str} {qual : Str} {scope : Scope} {f : Addr} {cd : Value} {A : Around} {outer : List Env} {s0 : Shared} {H0 : Hp} {E : XK}
abbrev oR (P : Program) (w : World) (K : Frag) (mg : bE) (base : Heap) (N : List Str) (qual : Str) (scope : Scope) (f : Addr) (cd : Value) (A : Around) (outer : List Env) (s0 : Shared) (H0 : Hp) (E : XK) : Cx := aU (kc P w) P w K mg base N qual scope f cd A outer s0 H0 E
theorem lh {D C fI : Addr} {nm fld x : Str} {k : Nat} {fd : FuncData} {ps : List Str} {e : Expr} {te : TE} {p pos pos' : Pos} (B : Ÿ K D) (T : Κ K D nm C fI) (F : az P w K mg base au k fI fd ps (lR C fld)) (hr : ċ (k + 1) (oR P w K mg base N qual scope f cd A outer s0 H0 E).A) (hb : Binds K fd ps [])
  (hg : Gl (oR P w K mg base N qual scope f cd A outer s0 H0 E) x) (hm : mg x = some (.ref C)) (ha : PE (oR P w K mg base N qual scope f cd A outer s0 H0 E) e te)
  (G7 : (x == ("__debug__" : Str)) = false := by decide) (he : starEach [e] (oR P w K mg base N qual scope f cd A outer s0 H0 E).env = (false, eval e (oR P w K mg base N qual scope f cd A outer s0 H0 E).env) :: starEach [] (oR P w K mg base N qual scope f cd A outer s0 H0 E).env := by rfl) (l_ : (backTo pos (starEach [] (oR P w K mg base N qual scope f cd A outer s0 H0 E).env)).any (·.1) = false := by rfl) :
  PS (oR P w K mg base N qual scope f cd A outer s0 H0 E) (.Raise (some (.Call (.Name x p) [e] [] pos)) none pos') (v9 E C fld te) := by
 intro pins s σ H D' I h;have pe := xv (X := oR P w K mg base N qual scope f cd A outer s0 H0 E) (p := p) (pos := pos) B T F hr hb hg hm ha G7 he l_;have hd : (oR P w K mg base N qual scope f cd A outer s0 H0 E).A.handled = none := I.ok.hd rfl;rw [arm_exec_Raise];refine À (ü ?_);refine rm T.it T.type hd ?_;refine À (ax (pe pins s σ H (qR E C) I h) λ u s1 h1 => ?_);obtain ⟨y, H1, I1, ry, x, dx, fs, rfl, e1, e2, q⟩ := h1;refine À (ü (Â ?_));obtain ⟨t, ht⟩ := fG I1.Ē e1;obtain ⟨ox, od, J, _⟩ := kH I1.Ē e1 e2;have eo : ox = jb C (some dx) t := Ò (J.at_.symm.trans ht);subst eo;exact ⟨x, t, some dx, some od, ry, J, I1.Ω, vX I1 e1 ⟨_, rfl⟩ e2 ht (.inl rfl) q⟩
theorem vF {C x dx : Addr} {fld : Str} {v : V} {H1 : Hp} (nd : dx ≠ x) (q : E (.ref C) (some x) (ao (ao H1 dx (.xd [(fld, v)])) x (mQ x C (some dx)))) : qR E C (.ref x) (ao (ao H1 dx (.xd [(fld, v)])) x (cJ x C (some dx))) :=
 ⟨x, dx, _, rfl, bh, by rw [ah nd, bh], by rw [nu]; exact q⟩
theorem Fw {x qual : Str} {st : Stmt} {f : Addr} {fd : FuncData} {N ps : List Str} {k : Nat} {sp : Sp} (F : ŀ K x qual st f fd) (S : af N ps (aa st)) (len : ∀ vs H Q E, sp vs H Q E -> vs.length = ps.length)
  (ς : ∀ (ò : Value) (A : Around) (outer : List Env) (s : Shared) (H : Hp) (vs : List V) (Q : VK) (E : XK), ċ k (A.deeper (PyProof.Rows.envOfC qual (aa st) s.heap.objs.size f ò)) -> sp vs H Q E ->
   ∃ t, f_ (oR P w K mg base N qual (aa st) f ò A outer s H E) (aK st) t /\ t { nx := λ _ H' => Q .ĉ H', rt := Q } (dB N vs) H) : az P w K mg base (kc P w) (k + 1) f fd ps sp := by
 obtain ⟨oc, od, kV, doc, pm, an, ò, ct, Jq, rfl, lk, Ih⟩ := F.ex;refine vo lk Ih S len λ A outer s H vs Q E hr Ig => ?_;obtain ⟨t, h, q⟩ := ς ò A outer s H vs Q E hr Ig;exact ⟨t, h, q⟩
theorem Bf {x qual : Str} {st : Stmt} {f : Addr} {fd : FuncData} {N ps : List Str} {k : Nat} {sp : Sp} (F : ŀ K x qual st f fd) (S : af N ps (aa st))
  (ς : ∀ (ò : Value) (A : Around) (outer : List Env) (s : Shared) (H : Hp) (vs : List V) (Q : VK) (E : XK), ċ k (A.deeper (PyProof.Rows.envOfC qual (aa st) s.heap.objs.size f ò)) -> sp vs H Q E ->
   ∃ t, f_ (oR P w K mg base N qual (aa st) f ò A outer s H E) (aK st) t /\ t { nx := λ _ H' => Q .ĉ H', rt := Q } (dB N vs) H) (len : ∀ vs H Q E, sp vs H Q E -> vs.length = ps.length := by intro vs H Q E h; repeat (first | (obtain ⟨rfl, _⟩ := h; rfl) | (obtain ⟨_, h⟩ := h))) : az P w K mg base (kc P w) (k + 1) f fd ps sp := Fw F S len ς
theorem bV {X : Cx} {st : Stmt} : PS X st (λ _ _ _ => False) := λ _ _ _ _ _ _ h => h.elim
end
end My
namespace My
open PySem PySem.W L2
open PyProof.Rows (AllBare)
abbrev TH := Addr -> Addr -> TS
end My
namespace My
open PySem L2
section
variable {X : Cx}
def dW : List V -> List V -> Bool
 | [], [] => true
 | x :: xs, y :: ys => yP x y && dW xs ys
 | _, _ => false
theorem lw : ∀ (xs ys : List V), ((List.range (min xs.length ys.length)).all (λ j => yP (xs.getD j .ĉ) (ys.getD j .ĉ)) && xs.length == ys.length) = dW xs ys
 | [], [] => rfl
 | [], y :: ys => by simp [dW]
 | x :: xs, [] => by simp [dW]
 | x :: xs, y :: ys => by
  have ih := lw xs ys;show _ = (yP x y && dW xs ys);rw [<- ih, Ñ, Ñ, Nat.succ_min_succ, ĳ, Ĺ, G0, Bool.and_assoc]
  congr 1
  rw [show (xs.length + 1 == ys.length + 1) = (xs.length == ys.length) from by simp]
  rfl
theorem uN {pins : List (Addr × Obj)} {σ : St} {H : Hp} {s : Shared} {A : Around} {xs ys : List V} {its Ű : List Value} (r1 : Vals xs its) (r2 : Vals ys Ű) (f1 : xs.all dZ = true) (f2 : ys.all dZ = true) :
  ∀ j (h1 : j < its.toArray.size) (h2 : j < Ű.toArray.size), SeqAt.EqAt A s its.toArray[j] Ű.toArray[j] (yP (xs.getD j .ĉ) (ys.getD j .ĉ)) := by
 intro j h1 h2;have IT : j < its.length := by simpa using h1
 have Ji : j < Ű.length := by simpa using h2
 have k1 : j < xs.length := by rw [r1.length]; exact IT
 have k2 : j < ys.length := by rw [r2.length]; exact Ji
 obtain ⟨u1, e1, q1⟩ := r1.get (Ã k1);obtain ⟨u2, e2, q2⟩ := r2.get (Ã k2);have a1 : its.toArray[j] = u1 := by
  have := Ã IT;rw [e1] at this
  simpa using (Option.some.inj this).symm
 have a2 : Ű.toArray[j] = u2 := by
  have := Ã Ji;rw [e2] at this
  simpa using (Option.some.inj this).symm
 have z1 : xs.getD j .ĉ = xs[j] := by simp [k1]
 have z2 : ys.getD j .ĉ = ys[j] := by simp [k2]
 rw [a1, a2, z1, z2];exact wy q1 q2 (ŋ.mp f1 _ (İ k1)) (ŋ.mp f2 _ (İ k2))
def zB (K : PySem.W.Frag) : R2 := λ x y H Q => ∃ p q xs, x = .ref p /\ y = .ref q /\ ñ K H p xs /\ ñ K H q [] /\ Q (.bl xs.isEmpty) H
theorem rG (hu : X.A.units < cLine) : fw X (compareOp .Eq) (zB X.K) := by
 intro pins s σ H x y v u Q I rx ry h;obtain ⟨p, q, xs, rfl, rfl, hp, hq, k⟩ := h;cases rx;cases ry;obtain ⟨its, r1, t1, _⟩ := I.list hp;obtain ⟨Ű, r2, t2, _⟩ := I.list hq;have l1 := r1.length;have l2 := r2.length;cases xs with
 | nil =>
  have e1 : its = [] := ι.mp l1.symm;have e2 : Ű = [] := ι.mp l2.symm;subst e1 e2;exact SeqAt.eq_listAt (e := λ _ => true) t1.isList t2.isList rfl hu (λ j h _ => absurd h (HV _)) ⟨.bl true, H, I, rfl, k⟩
 | cons x xs =>
  have e2 : Ű = [] := ι.mp l2.symm;subst e2;refine SeqAt.eq_list_lengthsAt t1.isList t2.isList ?_ hu ⟨.bl false, H, I, rfl, k⟩;simp [<- l1]
end
section
variable {X : Cx}
theorem qY {v : V} (h : dZ v = true) : yP v v = true := by
 cases v with
 | ĉ => rfl
 | bl b => cases b <;> rfl
 | int i => exact ζ i
 | str s => exact ζ s
 | _ => cases h
end
section
variable {X : Cx}
theorem in1_units {A : Around} : A.in1.units = A.units + 1 := rfl
end
end My
namespace My
open PySem PySem.W L2
open PyProof.Rows (Call_ boot_enumerate)
section
variable {X : Cx} {pins : List (Addr × Obj)} {σ : St} {H : Hp} {s : Shared} {h' : Heap}
theorem tj {t' : Nat} {i1 i2 : Addr} (I : Inv X pins σ H s) (k : ∀ b o, b ≠ i1 -> b ≠ i2 -> s.heap.get? b = some o -> h'.get? b = some o) (F1 : bK X pins H i1) (F2 : bK X pins H i2) : Inv X pins σ H { s with heap := h', toks := t' } := by
 obtain ⟨n1, L1, _, a1, b1, c1⟩ := F1;obtain ⟨n2, L2, _, a2, b2, c2⟩ := F2;have Qm : ∀ b u, H b = some u -> b ≠ i1 := λ b u e z => by rw [z, n1] at e; cases e
 have Ql : ∀ b u, H b = some u -> b ≠ i2 := λ b u e z => by rw [z, n2] at e; cases e
 refine I.step (g' := s.gens) (d' := s.drawn) (ch := [i1, i2]) (λ b hb => ?_) (λ b o _ _ hc e _ => k b o (λ z => hc (by simp [z])) (λ z => hc (by simp [z])) e) (λ b o _ _ hc e _ => ⟨o.slots, k b o (λ z => hc (by simp [z])) (λ z => hc (by simp [z])) e⟩) (λ _ _ _ _ n => n)
  (λ b o hc e => ⟨o, k b o (λ z => hc (by simp [z])) (λ z => hc (by simp [z])) e⟩) (λ _ _ e => e) (λ _ _ _ e => e) (λ b ps e => ⟨#[], by rw [e]; simp⟩) (λ q => q) (λ m hm => ?_) (λ b u e => ?_) I.bare
 ·have e : b = i1 \/ b = i2 := by simpa using hb
  rcases e with rfl | rfl
  ·exact ⟨a1, L1, b1, c1⟩
  ·exact ⟨a2, L2, b2, c2⟩
 ·obtain ⟨o, es, ep, ho, r⟩ := hm;exact ⟨o, es, ep, k _ o (Ne.symm L1) (Ne.symm L2) ho, r⟩
 ·refine (I.Ē b u e).w_ (λ c v hc q => k c v ?_ ?_ q) (λ _ q => q) λ _ _ q => q
  ·rcases hc with z | z
   ·rw [z]; exact Qm b u e
   ·exact Qm c _ z
  ·rcases hc with z | z
   ·rw [z]; exact Ql b u e
   ·exact Ql c _ z
end
theorem Hw {o : Obj} {vs : Array Value} (d : o.data = .fields vs) : o.isFreed = false := by
 obtain ⟨c, dd, dt, sl⟩ := o;cases d;rfl
def AH (K : Frag) (a : Addr) : It :=
 ⟨λ i H => ∃ xs x, ñ K H a xs /\ xs[i]? = some x, λ i H x H' => ∃ p y, x = .ref p /\ H p = none /\ H' = ao H p (.tup [.int i, y]) /\ ∀ xs, ñ K H a xs -> xs[i]? = some y, λ i H => ∃ xs, ñ K H a xs /\ xs.length <= i⟩
theorem pb {P : Program} {w : World} {K : Frag} {elts : List Expr} {x1} {pos : Pos} (a e it : Addr) (ne : e ≠ it) : ki P w K (.Tuple elts x1 pos) (AH K a) [e, it] e (λ i h => (∃ old, IsEnum h e it i old) /\ h.IsListIter it a i) where
 mem := by simp
 obj := λ i h st b hb => by
  obtain ⟨⟨old, h1⟩, o, h2, c, d⟩ := st;have e : b = e \/ b = it := by simpa using hb
  rcases e with rfl | rfl
  ·exact ⟨_, h1, λ v z => by cases z⟩
  ·exact ⟨o, h2, λ v z => by rw [d] at z; cases z⟩
 keep := λ i h h' st k => ⟨⟨_, k e (by simp) _ st.1.choose_spec⟩, st.2.at λ o z => k it (by simp) o z⟩
 item := by
  intro X hP hw hK hc i pins s σ H E I hf st hg;subst hP hw hK;obtain ⟨xs, x, hq, hx⟩ := hg;obtain ⟨its, rv, p, hz⟩ := I.list hq;obtain ⟨u, hu, ru⟩ := rv.get hx;obtain ⟨⟨old, he⟩, hi⟩ := st;have Fe := hf e (by simp)
  have Fi := hf it (by simp)
  refine wpAny_pyNext_enum_item he hi p.isList (x := u) (by simpa using hu) ne λ h1 eo JR ht WF kk => ?_
  refine ⟨_, rfl, wpAny_letOwnedTupleGo_enum (s := { s with heap := h1, toks := s.toks + 1 }) eo λ h2 QG sb => ?_⟩
  have Jp : Heap.SameBut e h1 h2 := sb;have ne2 : s.heap.objs.size ≠ e := Ź (È he);have Ow : h2.get? s.heap.objs.size = some { cls := .type "tuple", data := .seq #[.int i s.toks, u] } := (Jp.2 _ ne2).trans ht;obtain ⟨oi, IQ, ci, di⟩ := hi;obtain ⟨NT, OG, V7, RE⟩ := id JR;have Mp : h2.get? it = some NT := (Jp.2 _ (Ne.symm ne)).trans OG
  let hA : Heap := (s.heap.update e λ _ => { cls := .type "enumerate", dict := none, data := .fields #[.none, .bool false, .ref it, rawInt ((i : Int) + 1), .none, u], slots := #[] }).update it λ _ => NT
  have IA : Inv X pins σ H { s with heap := hA, toks := s.toks } := tj I (λ b o z1 z2 q => by
   show hA.get? b = some o;rw [ß _ _ _ _ z2, ß _ _ _ _ z1];exact q) Fe Fi
  have NB : hA.objs.size = s.heap.objs.size := by
   show ((s.heap.update e _).update it _).objs.size = _;rw [u_, u_]
  refine ⟨.ref s.heap.objs.size, ao H s.heap.objs.size (.tup [.int i, x]), ?_, rfl, ⟨_, x, rfl, I.Ē.fresh (Å _), rfl, λ ys hy => by rw [I.y_ hy hq]; exact hx⟩, ⟨⟨u, QG⟩, NT, Mp, V7, RE⟩, λ b hb => ?_⟩
  ·refine IA.laid (t' := s.toks + 1) (λ b v q => ?_) (ω NB) ?_
   ·have q' : hA.get? b = some v := q;by_cases z2 : b = it
    ·subst z2;have hg : (s.heap.update e λ _ => { cls := .type "enumerate", dict := none, data := .fields #[.none, .bool false, .ref b, rawInt ((i : Int) + 1), .none, u], slots := #[] }).get? b = some oi := by
      rw [ß _ _ _ _ (Ne.symm ne)]; exact IQ
     rw [í _ hg (Hw RE)] at q';cases q';exact Mp
    ·rw [ß _ _ _ _ z2] at q';by_cases z1 : b = e
     ·subst z1;rw [í _ he rfl] at q';cases q';exact QG
     ·rw [ß _ _ _ _ z1] at q';exact (Jp.2 b z1).trans (kk b v z1 z2 q')
   ·exact ⟨fk, [.int i s.toks, u], .cons ⟨_, rfl⟩ (.cons ru .nil), ⟨_, Ow, rfl, _, rfl⟩⟩
  ·have nb : b ≠ s.heap.objs.size := by
    have e' : b = e \/ b = it := by simpa using hb
    rcases e' with rfl | rfl
    ·exact Ë (È he)
    ·exact Ë (È IQ)
   rw [ah nb];exact (hf b hb).1
 done := by
  intro X hP hw hK hc i pins s σ H E I hf st hg;subst hP hw hK;obtain ⟨xs, hq, hx⟩ := hg;obtain ⟨its, rv, p, hz⟩ := I.list hq;obtain ⟨⟨old, he⟩, hi⟩ := st;obtain ⟨f0, f1, f2, f3, f4, f5⟩ := hf it (by simp)
  have hl := rv.length;exact wpAny_pyNext_enum_end (I.ok.hd hc) he hi p.isList (by simp; omega) λ h' eb => ⟨rfl, I.turned (t' := s.toks) (λ b o hb e => eb b o hb e) f0 f1 f3 f4 f5⟩
 self := λ _ _ _ _ _ st h => wpAny_pyIter_enum st.1.choose_spec h
section
variable {X : Cx}
def gv (K : Frag) (ta : TA) : TI := λ σ H R => ta σ H λ vs H1 => ∃ a, vs = [.ref a] /\ (∃ xs, ñ K H1 a xs) /\ R (AH K a) H1
theorem cv {elts : List Expr} {x1} {pt : Pos} {a : Expr} {ta : TA} {p pos : Pos} (hg : Gl X "enumerate") (hm : X.mg "enumerate" = none) (ha : PA X [a] ta) (hs : starEach [a] X.env = [(false, eval a X.env)] := by rfl) : PI X (.Tuple elts x1 pt) (.Call (.Name "enumerate" p) [a] [] pos) (gv X.K ta) := by
 intro pins s σ H R I h;refine Call_ (gi I hg hm boot_enumerate (Ŀ (ax (ha pos pins s σ H _ I h) λ us s1 ⟨vs, H1, I1, r1, q1⟩ => ?_) hs rfl));obtain ⟨l, rfl, ⟨xs, hq⟩, q⟩ := q1;cases r1 with
 | cons r rr =>
  cases rr;cases r;obtain ⟨its, rv, p', hz⟩ := I1.list hq;refine call_enumerate_list p'.isList λ h' he hi hsz kk => ?_;refine wpAny_pyIter_enum he ?_;refine ⟨s1.heap.objs.size + 1, [s1.heap.objs.size + 1, s1.heap.objs.size], _, _, H1, rfl, I1.kept (t' := s1.toks) kk, pb l _ _ (Nat.succ_ne_self _), ⟨⟨_, he⟩, hi⟩, λ b hb => ?_, q⟩;have e : b = s1.heap.objs.size + 1 \/ b = s1.heap.objs.size := by simpa using hb
  have le : s1.heap.objs.size <= b := by
   rcases e with rfl | rfl
   ·exact Nat.le_succ _
   ·exact Å _
  exact I1.HB le (I1.Ē.fresh le)
end
theorem cQ {K : Frag} {a : Addr} {xs : List V} {g : TG} {tb : TS} {D : bQ} {σ : St} {H : Hp} (Pv : Nat -> St -> Hp -> Prop) (h0 : Pv 0 σ H) (hl : ∀ i σ H, i <= xs.length -> Pv i σ H -> ñ K H a xs)
  (hs : ∀ i x σ H p, xs[i]? = some x -> Pv i σ H -> H p = none -> g (.ref p) σ (ao H p (.tup [.int i, x])) λ ġ H2 => tb { D with nx := Pv (i + 1), ct := Pv (i + 1), bk := D.nx } ġ H2) (hd : ∀ σ H, Pv xs.length σ H -> D.nx σ H) :
  ∃ W : Nat -> Nat -> St -> Hp -> Prop, (∃ m, W 0 m σ H) /\ ∀ i m σ H, W i m σ H ->
   ((AH K a).stop i H /\ D.nx σ H) \/ ((AH K a).go i H /\ ∃ N : St -> Hp -> Prop, (∀ ĝ H', N ĝ H' -> ∃ m', m' < m /\ W (i + 1) m' ĝ H') /\ ∀ x H', (AH K a).Ψ i H x H' -> g x σ H' λ ġ H2 => tb { D with nx := N, ct := N, bk := D.nx } ġ H2) := by
 refine ⟨λ i m σ H => m = xs.length - i /\ i <= xs.length /\ Pv i σ H, ⟨xs.length, by simp, Nat.zero_le _, h0⟩, ?_⟩
 rintro i m σ H ⟨rfl, hi, p⟩;have q := hl i σ H hi p;by_cases ŏ : i < xs.length
 ·refine .inr ⟨⟨xs, xs[i], q, Ã ŏ⟩, Pv (i + 1), λ ĝ H' n => ⟨xs.length - (i + 1), ae, rfl, ŏ, n⟩, ?_⟩;rintro x H' ⟨p', y, rfl, hp, rfl, hy⟩;exact hs i y σ H p' (hy xs q) p hp
 ·have e : i = xs.length := ae;subst e;exact .inl ⟨⟨xs, q, Å _⟩, hd σ H p⟩
end My
namespace My
open PySem L2
section
variable {prog : Program} {w : World} {A : Around} {R : Result -> Shared -> Prop} {s : Shared}
theorem gh {elt target iter : Expr} {scope : Scope} {pos : Pos} {it acc : Value} {env : Env} (J : Nat -> Shared -> Prop)
  (turn : ∀ n s, J n s -> wpAny (model prog w) A (pyNext it) (λ r Ă => match r with
   | none => R (.ok .next) Ă
   | some v => wpAny (model prog w) A (letOwnedTupleGo target it v) (λ _ Ř => wpAny (model prog w) A (assign target env v) (λ _ Γ => wpAny (model prog w) A (eval elt env)
     (λ x ξ => wpAny (model prog w) A (call (.builtin "list.append") [acc, x]) (λ _ ν => ∃ m, m < n /\ J m ν) (λ _ _ => False) ξ) (λ _ _ => False) Γ) (λ _ _ => False) Ř) (λ _ _ => False) Ă) (λ _ _ => False) s)
  (n : Nat) (h : J n s) : codeAny (model prog w) A (.compLoop (.ListComp elt [⟨target, iter, [], 0⟩] scope pos) 0 it acc env) R s := by
 refine Ge rfl J (λ n s hJ => ?_) n h;show wpAny _ _ (Sem.onRaise (compTurn (.ListComp elt [⟨target, iter, [], 0⟩] scope pos) 0 it acc env) (λ x => do noteFrame x env; theTreesLotGoes x)) _ _ s
 refine GQ ?_;rw [compTurn_list1];refine À (ü (À (Ü (turn n s hJ) (λ r Ă Ğ => ?_) λ _ _ z => z.elim)));cases r with
 | none => exact Â Ğ
 | some v =>
  refine À (Ü Ğ (λ _ Ř e_ => ?_) λ _ _ z => z.elim);refine À (Ü e_ (λ _ Γ Bk => ?_) λ _ _ z => z.elim);refine À (À (Ü Bk (λ x ξ GF => ?_) λ _ _ z => z.elim));refine À (Ü GF (λ _ ν GD => Â (Â ⟨rfl, GD⟩)) λ _ _ z => z.elim)
end
def av (X : Cx) (sc : Scope) (cl : List (Str × Addr)) (N : List Str) (s : Shared) (H : Hp) (C : Addr) (fp : List Addr) : Cx where
 prog := X.prog
 w := X.w
 K := X.K
 mg := X.mg
 base := X.base
 A := X.A
 N := N
 ő := s
 IZ := H
 env := compEnvC sc cl C X.env
 outer := X.stack
 stack := X.stack
 ex := fp
 fn := λ _ => false
 calm := X.calm
 pn := []
 xe := λ _ _ => False
structure jG (X : Cx) (sc : Scope) (cl : List (Str × Addr)) (x : Str) (zs : List Str) (js : List Nat) : Prop where
 n_ : closureFor sc X.env = pure cl
 kind : sc.kind = .function
 Ζ : ∀ y ∈ sc.names, y.2 ≠ .cell
 names : ∀ y ∈ sc.names, y.2 = .local -> sc.names.lookup y.1 = some .local
 var : sc.names.lookup x = some .local
 sub : ∀ z c, cl.lookup z = some c -> X.env.cells.lookup z = some c
 has : ∀ z, ((relabel sc X.env).names.lookup z = some .cell \/ (relabel sc X.env).names.lookup z = some .free) -> ∃ c, cl.lookup z = some c
 nd : (x :: zs).Nodup
 cap : ∀ (k : Nat) (z : Str), zs[k]? = some z -> ∃ j : Nat, js[k]? = some j /\ X.N[j]? = some z /\ zC X.env.scope z /\ X.env.kindOf z ≠ some .local /\
  ((relabel sc X.env).names.lookup z = some .cell \/ (relabel sc X.env).names.lookup z = some .free)
 len : js.length = zs.length
def br (js : List Nat) (σ : St) : St := js.map λ j => (σ[j]?).join
def FB (wi : TI) (js : List Nat) (te : TE) : TE := λ σ H Q => wi σ H λ J H1 => ∀ D, H1 D = none -> ∃ W : Nat -> Nat -> List V -> Hp -> Prop, (∃ m, W 0 m [] (ao H1 D (.lst []))) /\
 ∀ i m ys H2, W i m ys H2 -> H2 D = some (.lst ys) /\ ((J.stop i H2 /\ Q (.ref D) H2) \/ (J.go i H2 /\ ys.length < sizeLine /\
  ∀ x H3, J.Ψ i H2 x H3 -> te (some x :: br js σ) H3 λ y H4 => H4 D = some (.lst ys) /\ ∃ m', m' < m /\ W (i + 1) m' (ys ++ [y]) (ao H4 D (.lst (ys ++ [y])))))
section
variable {X : Cx} {pins : List (Addr × Obj)} {σ : St} {H : Hp} {s : Shared} {sc : Scope} {cl : List (Str × Addr)} {x : Str} {zs : List Str} {js : List Nat} {C : Addr} {fp : List Addr}
theorem uQ (I : Inv X pins σ H s) (S : jG X sc cl x zs js) (hf : ∀ b ∈ fp, bK X pins H b /\ b < s.heap.objs.size) (hC : s.heap.objs.size <= C) : (av X sc cl (x :: zs) s H C fp).Ok := by
 refine ⟨I.ok.mod, S.kind, I.ok.glob, I.ok.blt, hC, λ y z c h1 h2 => I.ok.inj y z c (S.sub _ _ h1) (S.sub _ _ h2), λ z h => S.has z h, (λ _ _ h => nomatch h), I.ok.hd, I.ok.frames, .inl rfl, λ b hb => ?_, I.bs, ?_, λ b o e hb => ?_, λ b hb hs => ?_, I.stack, I.o_⟩
 ·obtain ⟨⟨_, h1, _, _, h4, _⟩, h6⟩ := hf b hb;exact ⟨λ e => absurd h6 (χ.mpr (by rw [show b = C from e]; exact hC)), λ z c e => h4 z c (S.sub _ _ e)⟩
 ·exact Ú I.ok.IY I.sz
 ·obtain ⟨⟨_, _, _, h3, _⟩, _⟩ := hf b hb;rcases h3 with h | h
  ·exact I.ok.Ic b o e h
  ·exact absurd (È e) (χ.mpr (Ú I.ok.IY h))
 ·obtain ⟨⟨_, h1, h2, _⟩, _⟩ := hf b hb;rcases Ï.mp (I.ř b hs) with e | e
  ·exact h1 e
  ·exact h2 e
theorem mU {s1 : Shared} (I : Inv X pins σ H s) (S : jG X sc cl x zs js) (hf : ∀ b ∈ fp, bK X pins H b /\ b < s.heap.objs.size) (hC : s.heap.objs.size <= C) (ho : s1.os = s.os) (hg : s1.gens = s.gens)
  (hk : ∀ b o, s.heap.get? b = some o -> s1.heap.get? b = some o) {m : bE} (hn : s1.heap.Ns C m) : Inv (av X sc cl (x :: zs) s H C fp) [] (none :: br js σ) H s1 := by
 refine ⟨uQ I S hf hC, ho, by rw [hg]; exact I.bare, Un.kept hk, ⟨m, hn, λ i y v h1 h2 h3 => ?_⟩, λ z c e => ?_, I.Ē.fresh hC, λ z c e => I.Θ z c (S.sub _ _ e), λ p hp => absurd (show p ∈ ([] : List (Addr × Obj)) from hp) (by simp), I.Ē.kept hk, ?_⟩
 ·cases i with
  | zero => cases h2
  | succ i =>
   have IT : zs[i]? = some y := h1;obtain ⟨j, hj, hN, hv, nl, k'⟩ := S.cap i y IT;have Ji : (br js σ)[i]? = some (some v) := h2;have h5 : σ[j]? = some (some v) := by
    unfold br at Ji;rw [Õ, hj] at Ji;have h6 : (σ[j]?).join = some v := Ò Ji;cases e : σ[j]? with
    | none => rw [e] at h6; cases h6
    | some o => rw [e] at h6; exact Ė some h6
   obtain ⟨m0, Uj, hl⟩ := I.loc;obtain ⟨u, ru, lk⟩ := hl j y v hN h5 hv;refine ⟨u, ru, ?_⟩;rcases lk with ⟨k1, _⟩ | ⟨_, c, ec, hc⟩
   ·exact absurd k1 nl
   ·obtain ⟨c', ME⟩ := S.has y k';have e2 := S.sub _ _ ME;rw [ec] at e2;cases e2;exact .inr ⟨k', c, ME, hc.keeps hk⟩
 ·obtain ⟨v, hv⟩ := I.cell z c (S.sub _ _ e);exact ⟨v, hv.keeps hk⟩
 ·show ((none :: br js σ : St)).length = (x :: zs).length;unfold br;rw [Ñ, Ñ, Æ, S.len]
theorem se {s1 : Shared} {ĝ : St} {H' : Hp} {h' : Heap} (I : Inv X pins σ H s) (hf : ∀ b ∈ fp, bK X pins H b /\ b < s.heap.objs.size) (hC : s.heap.objs.size <= C) (J : Inv (av X sc cl (x :: zs) s H C fp) [] ĝ H' s1)
  (hs : Heap.SameBut C s1.heap h') : Inv X pins σ H' { s1 with heap := h' } := by
 have old : ∀ b o, s1.heap.get? b = some o -> b ≠ C -> h'.get? b = some o := λ b o e n => (hs.2 b n).trans e;have lt : ∀ {b o}, s.heap.get? b = some o -> b ≠ C := λ {b o} e z => by
  have q := È e;rw [z] at q;exact absurd q (χ.mpr hC)
 have B := J.base;refine I.IV (s' := { s1 with heap := h' }) (ch := fp) J.os ⟨λ b o e n hb hx => old b o (B.keep b o e n hb hx) (lt e), λ b o e n hb hx => ?_, B.free, λ b o e hx => ?_, B.Gp, B.B_, B.Gq, B.sys⟩ (λ b o e => ?_) J.bare λ b hb => ?_
 ·obtain ⟨sl, q⟩ := B.slot b o e n hb hx;exact ⟨sl, old _ _ q (lt e)⟩
 ·obtain ⟨o', q⟩ := B.there b o e hx;exact ⟨o', old _ _ q (lt e)⟩
 ·have nC : ∀ c u, H' c = some u -> c ≠ C := λ c u q z => by
   have f : H' C = none := J.free;rw [z, f] at q; cases q
  refine (J.Ē b o e).w_ (λ c v hc q => old c v q ?_) (λ _ q => q) λ _ _ q => q;rcases hc with rfl | hc
  ·exact nC _ _ e
  ·exact nC _ _ hc
 ·obtain ⟨⟨_, h1, _, h3, h4, h5⟩, _⟩ := hf b hb;exact ⟨h3, h1, h4, h5⟩
end
section
variable {X : Cx} {sc : Scope} {cl : List (Str × Addr)} {x : Str} {zs : List Str} {js : List Nat} {elt iter : Expr} {px pos : Pos} {wi : TI} {te : TE}
theorem BI (hc : X.calm = true) (S : jG X sc cl x zs js) (hi : PI X (.Name x px) iter wi) (he : ∀ s H C fp, PE (av X sc cl (x :: zs) s H C fp) elt te)
  (hs : ∀ v, foldedSetIterable iter X.env v = pure v := by intro _; rfl) : PE X (.ListComp elt [⟨.Name x px, iter, [], 0⟩] sc pos) (FB wi js te) := by
 intro pins s σ H Q I h;rw [HH];refine đ (use := none) rfl hs S.n_ S.kind S.names (ax (hi pins s σ H _ I h) λ v s1 h1 => ax h1 λ Js s2 h2 => ?_);obtain ⟨it, fp, tn, J, H2, e, I2, T, ο, f2, body⟩ := h2;subst e;have Ii : H2 s2.heap.objs.size = none := I2.fresh;obtain ⟨W, ⟨m0, w0⟩, turn⟩ := body _ Ii;refine Ý ?_;have I3 : Inv X pins σ (ao H2 s2.heap.objs.size (.lst [])) { s2 with heap := s2.heap.push { cls := .type "list", data := .seq ([] : List Value).toArray } } := I2.Ie (t' := s2.toks) (ys := []) (its := []) .nil (Ċ _)
 refine Ĝ S.Ζ (by intro y hy; simp at hy) (λ Ğ hn B' => ?_) S.kind
 generalize f' : ({ s2 with heap := s2.heap.push { cls := .type "list", data := .seq ([] : List Value).toArray } } : Shared) = s3 at I3 hn B' ⊢
 have Λ : ∀ b ∈ fp, bK X pins (ao H2 s2.heap.objs.size (.lst [])) b /\ b < s3.heap.objs.size := λ b hb => by
  obtain ⟨o, ho, _⟩ := T.obj _ _ ο b hb;have hl := È ho;have GH : b ≠ s2.heap.objs.size := Ë hl;obtain ⟨z1, z2⟩ := f2 b hb;refine ⟨⟨by rw [ah GH]; exact z1, z2⟩, ?_⟩
  rw [<- f'];show b < (s2.heap.push _).objs.size;rw [æ];exact ē hl
 have old : ∀ b o, s3.heap.get? b = some o -> Ğ.get? b = some o := λ b o e => B'.extBut b o (Ë (È e)) (Á _ e);have loop : ∀ sS : Shared, sS.heap = Ğ -> sS.os = s3.os -> sS.gens = s3.gens -> codeAny (model X.prog X.w) X.A (.compLoop (.ListComp elt [⟨.Name x px, iter, [], 0⟩] sc pos) 0 (.ref it) (.ref s2.heap.objs.size) (compEnvC sc cl s3.heap.objs.size X.env))
   (compPost (model X.prog X.w) X.A X.xe none (EP X pins σ Q) (.ref s2.heap.objs.size) s3.heap.objs.size) sS := by
  intro sS eh eo eg;subst eh;have J0 : Inv (av X sc cl (x :: zs) s3 (ao H2 s2.heap.objs.size (.lst [])) s3.heap.objs.size fp) [] (none :: br js σ) (ao H2 s2.heap.objs.size (.lst [])) sS := mU I3 S Λ (Å _) eo eg old hn;generalize hX : av X sc cl (x :: zs) s3 (ao H2 s2.heap.objs.size (.lst [])) s3.heap.objs.size fp = X' at J0;have Ľ : ∀ {H' : Hp}, (∀ b ∈ fp, H' b = none) -> ∀ b ∈ fp, bK X' [] H' b := λ {H'} hn b hb => by
   subst hX;obtain ⟨⟨_, z1, z2, z3, z4, z5⟩, z6⟩ := Λ b hb;refine ⟨hn b hb, Ë z6, λ q => ?_, .inl hb, λ y c e => z4 y c (S.sub _ _ e), λ p hp => absurd (show p ∈ ([] : List (Addr × Obj)) from hp) (by simp)⟩
   rcases Ï.mp (I3.ř b q) with e | e
   ·exact z1 e
   ·exact z2 e
  have Hc : tn 0 sS.heap := T.keep _ _ _ ο λ b hb o e => old b o (by rw [<- f']; exact Á _ e)
  refine gh (λ n s' => ∃ i ys o H', Inv X' [] (o :: br js σ) H' s' /\ tn i s'.heap /\ (∀ b ∈ fp, H' b = none) /\ W i n ys H') ?_ m0 ⟨0, [], none, _, J0, Hc, λ b hb => (Λ b hb).1.1, w0⟩;rintro n s' ⟨i, ys, o, H', Iv, st, fr, w⟩;obtain ⟨hD, alt⟩ := turn i n ys H' w;have eP : X'.prog = X.prog := by subst hX; rfl
  have eW : X'.w = X.w := by subst hX; rfl
  have eK : X'.K = X.K := by subst hX; rfl
  have eC : X'.calm = true := by subst hX; exact hc
  have eA : X'.A = X.A := by subst hX; rfl
  have eE : X'.env = compEnvC sc cl s3.heap.objs.size X.env := by subst hX; rfl
  have eX : X'.xe = λ _ _ => False := by subst hX; rfl
  rcases alt with ⟨stop, q⟩ | ⟨go, ņ, step⟩
  ·have d := T.done X' eP eW eK eC i [] s' _ H' (λ _ _ => False) Iv (Ľ fr) st stop;rw [eA] at d;refine ax d λ r s4 ⟨hr, I4⟩ => ?_;subst hr;obtain ⟨m, hm, _⟩ := id I4.loc;rw [eE] at hm;subst hX;exact ⟨m, hm, λ h' Hx => ⟨.ref s2.heap.objs.size, H', se I3 Λ (Å _) I4 Hx, rfl, q⟩⟩
  ·have d := T.item X' eP eW eK eC i [] s' _ H' (λ _ _ => False) Iv (Ľ fr) st go;rw [eA] at d;refine ax d λ r s4 ⟨u, hr, h4⟩ => ?_;subst hr;refine ax h4 λ _ s5 ⟨y, H5, I5, r5, y5, Δ, HA⟩ => ?_;have HE := I5.pinned (Ľ HA) (T.obj _ _ Δ);have hg : PG X' (.Name x px) (aP 0) := by
    subst hX;exact bf S.nd rfl (.inl (lookup_relabel_local S.var)) (.inr (lookup_relabel_local S.var))
   have g6 := hg _ s5 _ H5 y u (λ Ij H6 => Ij = (some y :: br js σ) /\ H6 = H5) HE r5 ⟨rfl, rfl⟩;rw [eP, eW, eA, eE, eX] at g6;refine ax g6 λ _ s6 ⟨Ij, H6, I6, e6, Vr⟩ => ?_;subst e6;subst Vr;have HP : PE X' elt te := by subst hX; exact he _ _ _ _
   have g7 := HP _ s6 _ H6 _ I6 (step y H6 y5);rw [eP, eW, eA, eE, eX] at g7;refine ax g7 λ uv s7 ⟨v7, H7, I7, r7, IS, m', GI, w7⟩ => ?_;have g8 := (bo (X := X')) _ s7 _ H7 (.ref s2.heap.objs.size) [v7] (.ref s2.heap.objs.size) [uv] (λ _ H8 => H8 = ao H7 s2.heap.objs.size (.lst (ys ++ [v7]))) I7 rfl (.cons r7 .nil) ⟨_, ys, v7, rfl, rfl, IS, ņ, rfl⟩;rw [eP, eW, eA, eX] at g8;refine ax g8 λ _ s8 ⟨_, H8, I8, _, e8⟩ => ?_;subst e8;refine ⟨m', GI, i + 1, ys ++ [v7], some y, _, I8.Ĥ, T.keep _ _ _ Δ λ b hb o e => (I8.pin (b, o) (Ä _ (Ä _ (ar hb e)))).1, λ b hb => ?_, w7⟩;obtain ⟨o', e', _⟩ := T.obj _ _ Δ b hb;exact (I8.pin (b, o') (Ä _ (Ä _ (ar hb e')))).2.1
 have Hv : tn 0 Ğ := T.keep _ _ _ ο λ b hb o e => old b o (by rw [<- f']; exact Á _ e)
 exact Ħ (loop _ rfl rfl rfl) (T.self _ 0 _ _ _ Hv (loop _ rfl rfl rfl))
end
end My
namespace My
open PySem PySem.W L2
section
variable {K : Frag} {te : TE} {cap : St} {D : Addr} {H1 : Hp} {Q : Hp -> Prop}
theorem t7 {a : Addr} {xs : List V} (Pv : Nat -> List V -> Hp -> Prop) (hz : xs.length < sizeLine) (h0 : Pv 0 [] (ao H1 D (.lst [])))
  (hl : ∀ i ys H, Pv i ys H -> ñ K H a xs)
  (hs : ∀ i x ys H, xs[i]? = some x -> ys.length = i -> H D = some (.lst ys) -> Pv i ys H -> ∀ R : VK, (∀ y H4, H4 D = some (.lst ys) -> Pv (i + 1) (ys ++ [y]) (ao H4 D (.lst (ys ++ [y]))) -> R y H4) -> te (some x :: cap) H R)
  (hd : ∀ ys H, ys.length = xs.length -> H D = some (.lst ys) -> Pv xs.length ys H -> Q H) :
  ∃ W : Nat -> Nat -> List V -> Hp -> Prop, (∃ m, W 0 m [] (ao H1 D (.lst []))) /\
   ∀ i m ys H2, W i m ys H2 -> H2 D = some (.lst ys) /\ (((ss K a).stop i H2 /\ Q H2) \/ ((ss K a).go i H2 /\ ys.length < sizeLine /\
    ∀ x H3, (ss K a).Ψ i H2 x H3 -> te (some x :: cap) H3 λ y H4 => H4 D = some (.lst ys) /\ ∃ m', m' < m /\ W (i + 1) m' (ys ++ [y]) (ao H4 D (.lst (ys ++ [y]))))) := by
 refine ⟨λ i m ys H => m = xs.length - i /\ i <= xs.length /\ ys.length = i /\ H D = some (.lst ys) /\ Pv i ys H, ⟨xs.length, by simp, Nat.zero_le _, rfl, bh, h0⟩, ?_⟩
 rintro i m ys H ⟨rfl, hi, hy, hD, p⟩;refine ⟨hD, ?_⟩;have q := hl i ys H p;by_cases ŏ : i < xs.length
 ·refine .inr ⟨⟨xs, xs[i], q, by simp [ŏ]⟩, ae, λ x H' y => ?_⟩
  obtain ⟨e, y⟩ := y;subst e;refine hs i x ys _ (y xs q) hy hD p _ λ z H4 JU p4 => ⟨JU, xs.length - (i + 1), ae, rfl, ŏ, by rw [Ì, hy]; rfl, bh, p4⟩
 ·have e : i = xs.length := ae;subst e;exact .inl ⟨⟨xs, q, Å _⟩, hd ys H hy hD p⟩
end
end My
namespace My
open PySem L2 PySem.Calls PyProof.Rows
open PySem.Builtin.Str (occurrences partsBetween strSub)
section
variable {X : Cx}
def Ae (i j : Int) : Prop := 0 < j /\ j.natAbs.log2 < 9000
theorem oh : fw X (binaryOp .FloorDiv) (rI Ae λ i j => .int (i / j)) := yF λ i j _ _ _ _ _ hc q => by
 have z := hc.1;exact floordiv_int ae (by rw [Α i (Int.le_of_lt z)]; exact q) (.inl (PyProof.noPylong_of_log2 hc.2))
end
end My
namespace My
open PySem L2
section
variable {prog : Program} {w : World} {A : Around} {R : Result -> Shared -> Prop} {s : Shared}
theorem iw {elt target iter c : Expr} {scope : Scope} {pos : Pos} {it acc : Value} {env : Env} (J : Nat -> Shared -> Prop)
  (turn : ∀ n s, J n s -> wpAny (model prog w) A (pyNext it) (λ r Ă => match r with
   | none => R (.ok .next) Ă
   | some v => wpAny (model prog w) A (letOwnedTupleGo target it v) (λ _ Ř => wpAny (model prog w) A (assign target env v) (λ _ Γ => wpAny (model prog w) A (isTrue c env (eval c env)) (λ k ő =>
     (k = false -> ∃ m, m < n /\ J m ő) /\ (k = true -> wpAny (model prog w) A (eval elt env)
     (λ x ξ => wpAny (model prog w) A (call (.builtin "list.append") [acc, x]) (λ _ ν => ∃ m, m < n /\ J m ν) (λ _ _ => False) ξ) (λ _ _ => False) ő)) (λ _ _ => False) Γ) (λ _ _ => False) Ř) (λ _ _ => False) Ă) (λ _ _ => False) s)
  (n : Nat) (h : J n s) : codeAny (model prog w) A (.compLoop (.ListComp elt [⟨target, iter, [c], 0⟩] scope pos) 0 it acc env) R s := by
 refine Ge rfl J (λ n s hJ => ?_) n h;show wpAny _ _ (Sem.onRaise (compTurn (.ListComp elt [⟨target, iter, [c], 0⟩] scope pos) 0 it acc env) (λ x => do noteFrame x env; theTreesLotGoes x)) _ _ s
 refine GQ ?_;rw [compTurn_list];refine À (ü (À (Ü (turn n s hJ) (λ r Ă Ğ => ?_) λ _ _ z => z.elim)));cases r with
 | none => exact Â Ğ
 | some v =>
  refine À (Ü Ğ (λ _ Ř e_ => ?_) λ _ _ z => z.elim);refine À (Ü e_ (λ _ Γ Bk => ?_) λ _ _ z => z.elim);refine À (wpAny_tests_one (Ü Bk (λ k ő h₀ => ?_) λ _ _ z => z.elim));cases k with
  | false => exact Â ⟨rfl, h₀.1 rfl⟩
  | true =>
   refine À (À (Ü (h₀.2 rfl) (λ x ξ GF => ?_) λ _ _ z => z.elim));refine À (Ü GF (λ _ ν GD => Â (Â ⟨rfl, GD⟩)) λ _ _ z => z.elim)
end
structure aY (X : Cx) (sc : Scope) (cl : List (Str × Addr)) (ts zs : List Str) (js : List Nat) : Prop where
 n_ : closureFor sc X.env = pure cl
 kind : sc.kind = .function
 Ζ : ∀ y ∈ sc.names, y.2 ≠ .cell
 names : ∀ y ∈ sc.names, y.2 = .local -> sc.names.lookup y.1 = some .local
 var : ∀ x ∈ ts, sc.names.lookup x = some .local
 sub : ∀ z c, cl.lookup z = some c -> X.env.cells.lookup z = some c
 has : ∀ z, ((relabel sc X.env).names.lookup z = some .cell \/ (relabel sc X.env).names.lookup z = some .free) -> ∃ c, cl.lookup z = some c
 nd : (ts ++ zs).Nodup
 cap : ∀ (k : Nat) (z : Str), zs[k]? = some z -> ∃ j : Nat, js[k]? = some j /\ X.N[j]? = some z /\ zC X.env.scope z /\ X.env.kindOf z ≠ some .local /\
  ((relabel sc X.env).names.lookup z = some .cell \/ (relabel sc X.env).names.lookup z = some .free)
 len : js.length = zs.length
def dX (wi : TI) (k : Nat) (js : List Nat) (g : TG) (te : TE) : TE := λ σ H Q => wi σ H λ J H1 => ∀ D, H1 D = none -> ∃ W : Nat -> Nat -> List V -> Hp -> Prop, (∃ m, W 0 m [] (ao H1 D (.lst []))) /\
 ∀ i m ys H2, W i m ys H2 -> H2 D = some (.lst ys) /\ ((J.stop i H2 /\ Q (.ref D) H2) \/ (J.go i H2 /\ ys.length < sizeLine /\
  ∀ x H3, J.Ψ i H2 x H3 -> ∀ os : St, os.length = k -> g x (os ++ br js σ) H3 λ ġ H0 => (∃ ı : St, ı.length = k /\ ġ = ı ++ br js σ) /\ te ġ H0 λ y H4 => H4 D = some (.lst ys) /\ ∃ m', m' < m /\ W (i + 1) m' (ys ++ [y]) (ao H4 D (.lst (ys ++ [y])))))
def db (wi : TI) (k : Nat) (js : List Nat) (g : TG) (tt : TT) (te : TE) : TE := λ σ H Q => wi σ H λ J H1 => ∀ D, H1 D = none -> ∃ W : Nat -> Nat -> List V -> Hp -> Prop, (∃ m, W 0 m [] (ao H1 D (.lst []))) /\
 ∀ i m ys H2, W i m ys H2 -> H2 D = some (.lst ys) /\ ((J.stop i H2 /\ Q (.ref D) H2) \/ (J.go i H2 /\ ys.length < sizeLine /\
  ∀ x H3, J.Ψ i H2 x H3 -> ∀ os : St, os.length = k -> g x (os ++ br js σ) H3 λ ġ H0 => (∃ ı : St, ı.length = k /\ ġ = ı ++ br js σ) /\ tt ġ H0 λ b H5 => (b = false -> ∃ m', m' < m /\ W (i + 1) m' ys H5) /\
   (b = true -> te ġ H5 λ y H4 => H4 D = some (.lst ys) /\ ∃ m', m' < m /\ W (i + 1) m' (ys ++ [y]) (ao H4 D (.lst (ys ++ [y]))))))
section
variable {X : Cx} {pins : List (Addr × Obj)} {σ : St} {H : Hp} {s : Shared} {sc : Scope} {cl : List (Str × Addr)} {ts zs : List Str} {js : List Nat} {C : Addr} {fp : List Addr}
theorem qX (I : Inv X pins σ H s) (S : aY X sc cl ts zs js) (hf : ∀ b ∈ fp, bK X pins H b /\ b < s.heap.objs.size) (hC : s.heap.objs.size <= C) : (av X sc cl (ts ++ zs) s H C fp).Ok := by
 refine ⟨I.ok.mod, S.kind, I.ok.glob, I.ok.blt, hC, λ y z c h1 h2 => I.ok.inj y z c (S.sub _ _ h1) (S.sub _ _ h2), λ z h => S.has z h, (λ _ _ h => nomatch h), I.ok.hd, I.ok.frames, .inl rfl, λ b hb => ?_, I.bs, ?_, λ b o e hb => ?_, λ b hb hs => ?_, I.stack, I.o_⟩
 ·obtain ⟨⟨_, h1, _, _, h4, _⟩, h6⟩ := hf b hb;exact ⟨λ e => absurd h6 (χ.mpr (by rw [show b = C from e]; exact hC)), λ z c e => h4 z c (S.sub _ _ e)⟩
 ·exact Ú I.ok.IY I.sz
 ·obtain ⟨⟨_, _, _, h3, _⟩, _⟩ := hf b hb;rcases h3 with h | h
  ·exact I.ok.Ic b o e h
  ·exact absurd (È e) (χ.mpr (Ú I.ok.IY h))
 ·obtain ⟨⟨_, h1, h2, _⟩, _⟩ := hf b hb;rcases Ï.mp (I.ř b hs) with e | e
  ·exact h1 e
  ·exact h2 e
theorem bS {s1 : Shared} (I : Inv X pins σ H s) (S : aY X sc cl ts zs js) (hf : ∀ b ∈ fp, bK X pins H b /\ b < s.heap.objs.size) (hC : s.heap.objs.size <= C) (ho : s1.os = s.os) (hg : s1.gens = s.gens)
  (hk : ∀ b o, s.heap.get? b = some o -> s1.heap.get? b = some o) {m : bE} (hn : s1.heap.Ns C m) : Inv (av X sc cl (ts ++ zs) s H C fp) [] (List.replicate ts.length none ++ br js σ) H s1 := by
 refine ⟨qX I S hf hC, ho, by rw [hg]; exact I.bare, Un.kept hk, ⟨m, hn, λ i y v h1 h2 h3 => ?_⟩, λ z c e => ?_, I.Ē.fresh hC, λ z c e => I.Θ z c (S.sub _ _ e), λ p hp => absurd (show p ∈ ([] : List (Addr × Obj)) from hp) (by simp), I.Ē.kept hk, ?_⟩
 ·rcases Nat.lt_or_ge i ts.length with lt | ge
  ·rw [Ja (by rw [ç]; exact lt), JF, Ô lt] at h2
   cases h2
  ·have IT : zs[i - ts.length]? = some y := by
    have MC : (ts ++ zs)[i]? = some y := h1;rw [ſ ge] at MC;exact MC
   obtain ⟨j, hj, hN, hv, nl, k'⟩ := S.cap _ y IT;have Ji : (br js σ)[i - ts.length]? = some (some v) := by
    rw [ſ (by rw [ç]; exact ge), ç] at h2
    exact h2
   have h5 : σ[j]? = some (some v) := by
    unfold br at Ji;rw [Õ, hj] at Ji;have h6 : (σ[j]?).join = some v := Ò Ji;cases e : σ[j]? with
    | none => rw [e] at h6; cases h6
    | some o => rw [e] at h6; exact Ė some h6
   obtain ⟨m0, Uj, hl⟩ := I.loc;obtain ⟨u, ru, lk⟩ := hl j y v hN h5 hv;refine ⟨u, ru, ?_⟩;rcases lk with ⟨k1, _⟩ | ⟨_, c, ec, hc⟩
   ·exact absurd k1 nl
   ·obtain ⟨c', ME⟩ := S.has y k';have e2 := S.sub _ _ ME;rw [ec] at e2;cases e2;exact .inr ⟨k', c, ME, hc.keeps hk⟩
 ·obtain ⟨v, hv⟩ := I.cell z c (S.sub _ _ e);exact ⟨v, hv.keeps hk⟩
 ·show (List.replicate ts.length none ++ br js σ : St).length = (ts ++ zs).length;unfold br;rw [Ì, Ì, Æ, ç, S.len]
theorem cy {s1 : Shared} {ĝ : St} {H' : Hp} {h' : Heap} (I : Inv X pins σ H s) (hf : ∀ b ∈ fp, bK X pins H b /\ b < s.heap.objs.size) (hC : s.heap.objs.size <= C) (J : Inv (av X sc cl (ts ++ zs) s H C fp) [] ĝ H' s1)
  (hs : Heap.SameBut C s1.heap h') : Inv X pins σ H' { s1 with heap := h' } := by
 have old : ∀ b o, s1.heap.get? b = some o -> b ≠ C -> h'.get? b = some o := λ b o e n => (hs.2 b n).trans e;have lt : ∀ {b o}, s.heap.get? b = some o -> b ≠ C := λ {b o} e z => by
  have q := È e;rw [z] at q;exact absurd q (χ.mpr hC)
 have B := J.base;refine I.IV (s' := { s1 with heap := h' }) (ch := fp) J.os ⟨λ b o e n hb hx => old b o (B.keep b o e n hb hx) (lt e), λ b o e n hb hx => ?_, B.free, λ b o e hx => ?_, B.Gp, B.B_, B.Gq, B.sys⟩ (λ b o e => ?_) J.bare λ b hb => ?_
 ·obtain ⟨sl, q⟩ := B.slot b o e n hb hx;exact ⟨sl, old _ _ q (lt e)⟩
 ·obtain ⟨o', q⟩ := B.there b o e hx;exact ⟨o', old _ _ q (lt e)⟩
 ·have nC : ∀ c u, H' c = some u -> c ≠ C := λ c u q z => by
   have f : H' C = none := J.free;rw [z, f] at q; cases q
  refine (J.Ē b o e).w_ (λ c v hc q => old c v q ?_) (λ _ q => q) λ _ _ q => q;rcases hc with rfl | hc
  ·exact nC _ _ e
  ·exact nC _ _ hc
 ·obtain ⟨⟨_, h1, _, h3, h4, h5⟩, _⟩ := hf b hb;exact ⟨h3, h1, h4, h5⟩
end
section
variable {X : Cx} {sc : Scope} {cl : List (Str × Addr)} {ts zs : List Str} {js : List Nat} {elt iter : Expr} {pos : Pos} {tg : Expr} {g : TG} {wi : TI} {te : TE}
theorem eJ (hc : X.calm = true) (S : aY X sc cl ts zs js) (hi : PI X tg iter wi) (hg : ∀ s H C fp, PG (av X sc cl (ts ++ zs) s H C fp) tg g) (he : ∀ s H C fp, PE (av X sc cl (ts ++ zs) s H C fp) elt te)
  (hs : ∀ v, foldedSetIterable iter X.env v = pure v := by intro _; rfl) : PE X (.ListComp elt [⟨tg, iter, [], 0⟩] sc pos) (dX wi ts.length js g te) := by
 intro pins s σ H Q I h;rw [HH];refine đ (use := none) rfl hs S.n_ S.kind S.names (ax (hi pins s σ H _ I h) λ v s1 h1 => ax h1 λ Js s2 h2 => ?_);obtain ⟨it, fp, tn, J, H2, e, I2, T, ο, f2, body⟩ := h2;subst e;have Ii : H2 s2.heap.objs.size = none := I2.fresh;obtain ⟨W, ⟨m0, w0⟩, turn⟩ := body _ Ii;refine Ý ?_;have I3 : Inv X pins σ (ao H2 s2.heap.objs.size (.lst [])) { s2 with heap := s2.heap.push { cls := .type "list", data := .seq ([] : List Value).toArray } } := I2.Ie (t' := s2.toks) (ys := []) (its := []) .nil (Ċ _)
 refine Ĝ S.Ζ (by intro y hy; simp at hy) (λ Ğ hn B' => ?_) S.kind
 generalize f' : ({ s2 with heap := s2.heap.push { cls := .type "list", data := .seq ([] : List Value).toArray } } : Shared) = s3 at I3 hn B' ⊢
 have Λ : ∀ b ∈ fp, bK X pins (ao H2 s2.heap.objs.size (.lst [])) b /\ b < s3.heap.objs.size := λ b hb => by
  obtain ⟨o, ho, _⟩ := T.obj _ _ ο b hb;have hl := È ho;have GH : b ≠ s2.heap.objs.size := Ë hl;obtain ⟨z1, z2⟩ := f2 b hb;refine ⟨⟨by rw [ah GH]; exact z1, z2⟩, ?_⟩
  rw [<- f'];show b < (s2.heap.push _).objs.size;rw [æ];exact ē hl
 have old : ∀ b o, s3.heap.get? b = some o -> Ğ.get? b = some o := λ b o e => B'.extBut b o (Ë (È e)) (Á _ e);have loop : ∀ sS : Shared, sS.heap = Ğ -> sS.os = s3.os -> sS.gens = s3.gens -> codeAny (model X.prog X.w) X.A (.compLoop (.ListComp elt [⟨tg, iter, [], 0⟩] sc pos) 0 (.ref it) (.ref s2.heap.objs.size) (compEnvC sc cl s3.heap.objs.size X.env))
   (compPost (model X.prog X.w) X.A X.xe none (EP X pins σ Q) (.ref s2.heap.objs.size) s3.heap.objs.size) sS := by
  intro sS eh eo eg;subst eh;have J0 : Inv (av X sc cl (ts ++ zs) s3 (ao H2 s2.heap.objs.size (.lst [])) s3.heap.objs.size fp) [] (List.replicate ts.length none ++ br js σ) (ao H2 s2.heap.objs.size (.lst [])) sS := bS I3 S Λ (Å _) eo eg old hn;generalize hX : av X sc cl (ts ++ zs) s3 (ao H2 s2.heap.objs.size (.lst [])) s3.heap.objs.size fp = X' at J0;have Ľ : ∀ {H' : Hp}, (∀ b ∈ fp, H' b = none) -> ∀ b ∈ fp, bK X' [] H' b := λ {H'} hn b hb => by
   subst hX;obtain ⟨⟨_, z1, z2, z3, z4, z5⟩, z6⟩ := Λ b hb;refine ⟨hn b hb, Ë z6, λ q => ?_, .inl hb, λ y c e => z4 y c (S.sub _ _ e), λ p hp => absurd (show p ∈ ([] : List (Addr × Obj)) from hp) (by simp)⟩
   rcases Ï.mp (I3.ř b q) with e | e
   ·exact z1 e
   ·exact z2 e
  have Hc : tn 0 sS.heap := T.keep _ _ _ ο λ b hb o e => old b o (by rw [<- f']; exact Á _ e)
  refine gh (λ n s' => ∃ i ys os H', os.length = ts.length /\ Inv X' [] (os ++ br js σ) H' s' /\ tn i s'.heap /\ (∀ b ∈ fp, H' b = none) /\ W i n ys H') ?_ m0 ⟨0, [], _, _, ç, J0, Hc, λ b hb => (Λ b hb).1.1, w0⟩;rintro n s' ⟨i, ys, os, H', Ņ, Iv, st, fr, w⟩;obtain ⟨hD, alt⟩ := turn i n ys H' w;have eP : X'.prog = X.prog := by subst hX; rfl
  have eW : X'.w = X.w := by subst hX; rfl
  have eK : X'.K = X.K := by subst hX; rfl
  have eC : X'.calm = true := by subst hX; exact hc
  have eA : X'.A = X.A := by subst hX; rfl
  have eE : X'.env = compEnvC sc cl s3.heap.objs.size X.env := by subst hX; rfl
  have eX : X'.xe = λ _ _ => False := by subst hX; rfl
  rcases alt with ⟨stop, q⟩ | ⟨go, ņ, step⟩
  ·have d := T.done X' eP eW eK eC i [] s' _ H' (λ _ _ => False) Iv (Ľ fr) st stop;rw [eA] at d;refine ax d λ r s4 ⟨hr, I4⟩ => ?_;subst hr;obtain ⟨m, hm, _⟩ := id I4.loc;rw [eE] at hm;subst hX;exact ⟨m, hm, λ h' Hx => ⟨.ref s2.heap.objs.size, H', cy I3 Λ (Å _) I4 Hx, rfl, q⟩⟩
  ·have d := T.item X' eP eW eK eC i [] s' _ H' (λ _ _ => False) Iv (Ľ fr) st go;rw [eA] at d;refine ax d λ r s4 ⟨u, hr, h4⟩ => ?_;subst hr;refine ax h4 λ _ s5 ⟨y, H5, I5, r5, y5, Δ, HA⟩ => ?_;have HE := I5.pinned (Ľ HA) (T.obj _ _ Δ);have IR : PG X' tg g := by subst hX; exact hg _ _ _ _
   have g6 := IR _ s5 _ H5 y u _ HE r5 (step y H5 y5 os Ņ);rw [eP, eW, eA, eE, eX] at g6;refine ax g6 λ _ s6 ⟨Ij, H6, I6, ⟨ı, k_, e6⟩, IB⟩ => ?_;subst e6;have HP : PE X' elt te := by subst hX; exact he _ _ _ _
   have g7 := HP _ s6 _ H6 _ I6 IB;rw [eP, eW, eA, eE, eX] at g7;refine ax g7 λ uv s7 ⟨v7, H7, I7, r7, IS, m', GI, w7⟩ => ?_;have g8 := (bo (X := X')) _ s7 _ H7 (.ref s2.heap.objs.size) [v7] (.ref s2.heap.objs.size) [uv] (λ _ H8 => H8 = ao H7 s2.heap.objs.size (.lst (ys ++ [v7]))) I7 rfl (.cons r7 .nil) ⟨_, ys, v7, rfl, rfl, IS, ņ, rfl⟩;rw [eP, eW, eA, eX] at g8;refine ax g8 λ _ s8 ⟨_, H8, I8, _, e8⟩ => ?_;subst e8;refine ⟨m', GI, i + 1, ys ++ [v7], ı, _, k_, I8.Ĥ, T.keep _ _ _ Δ λ b hb o e => (I8.pin (b, o) (Ä _ (Ä _ (ar hb e)))).1, λ b hb => ?_, w7⟩;obtain ⟨o', e', _⟩ := T.obj _ _ Δ b hb;exact (I8.pin (b, o') (Ä _ (Ä _ (ar hb e')))).2.1
 have Hv : tn 0 Ğ := T.keep _ _ _ ο λ b hb o e => old b o (by rw [<- f']; exact Á _ e)
 exact Ħ (loop _ rfl rfl rfl) (T.self _ 0 _ _ _ Hv (loop _ rfl rfl rfl))
end
section
variable {X : Cx} {sc : Scope} {cl : List (Str × Addr)} {ts zs : List Str} {js : List Nat} {elt iter c : Expr} {pos : Pos} {tg : Expr} {g : TG} {wi : TI} {te : TE} {tt : TT}
theorem hI (hc : X.calm = true) (S : aY X sc cl ts zs js) (hi : PI X tg iter wi) (hg : ∀ s H C fp, PG (av X sc cl (ts ++ zs) s H C fp) tg g) (ht : ∀ s H C fp, PT (av X sc cl (ts ++ zs) s H C fp) c tt) (he : ∀ s H C fp, PE (av X sc cl (ts ++ zs) s H C fp) elt te)
  (hs : ∀ v, foldedSetIterable iter X.env v = pure v := by intro _; rfl) : PE X (.ListComp elt [⟨tg, iter, [c], 0⟩] sc pos) (db wi ts.length js g tt te) := by
 intro pins s σ H Q I h;rw [HH];refine đ (use := none) rfl hs S.n_ S.kind S.names (ax (hi pins s σ H _ I h) λ v s1 h1 => ax h1 λ Js s2 h2 => ?_);obtain ⟨it, fp, tn, J, H2, e, I2, T, ο, f2, body⟩ := h2;subst e;have Ii : H2 s2.heap.objs.size = none := I2.fresh;obtain ⟨W, ⟨m0, w0⟩, turn⟩ := body _ Ii;refine Ý ?_;have I3 : Inv X pins σ (ao H2 s2.heap.objs.size (.lst [])) { s2 with heap := s2.heap.push { cls := .type "list", data := .seq ([] : List Value).toArray } } := I2.Ie (t' := s2.toks) (ys := []) (its := []) .nil (Ċ _)
 refine Ĝ S.Ζ (by intro y hy; simp at hy) (λ Ğ hn B' => ?_) S.kind
 generalize f' : ({ s2 with heap := s2.heap.push { cls := .type "list", data := .seq ([] : List Value).toArray } } : Shared) = s3 at I3 hn B' ⊢
 have Λ : ∀ b ∈ fp, bK X pins (ao H2 s2.heap.objs.size (.lst [])) b /\ b < s3.heap.objs.size := λ b hb => by
  obtain ⟨o, ho, _⟩ := T.obj _ _ ο b hb;have hl := È ho;have GH : b ≠ s2.heap.objs.size := Ë hl;obtain ⟨z1, z2⟩ := f2 b hb;refine ⟨⟨by rw [ah GH]; exact z1, z2⟩, ?_⟩
  rw [<- f'];show b < (s2.heap.push _).objs.size;rw [æ];exact ē hl
 have old : ∀ b o, s3.heap.get? b = some o -> Ğ.get? b = some o := λ b o e => B'.extBut b o (Ë (È e)) (Á _ e);have loop : ∀ sS : Shared, sS.heap = Ğ -> sS.os = s3.os -> sS.gens = s3.gens -> codeAny (model X.prog X.w) X.A (.compLoop (.ListComp elt [⟨tg, iter, [c], 0⟩] sc pos) 0 (.ref it) (.ref s2.heap.objs.size) (compEnvC sc cl s3.heap.objs.size X.env))
   (compPost (model X.prog X.w) X.A X.xe none (EP X pins σ Q) (.ref s2.heap.objs.size) s3.heap.objs.size) sS := by
  intro sS eh eo eg;subst eh;have J0 : Inv (av X sc cl (ts ++ zs) s3 (ao H2 s2.heap.objs.size (.lst [])) s3.heap.objs.size fp) [] (List.replicate ts.length none ++ br js σ) (ao H2 s2.heap.objs.size (.lst [])) sS := bS I3 S Λ (Å _) eo eg old hn;generalize hX : av X sc cl (ts ++ zs) s3 (ao H2 s2.heap.objs.size (.lst [])) s3.heap.objs.size fp = X' at J0;have Ľ : ∀ {H' : Hp}, (∀ b ∈ fp, H' b = none) -> ∀ b ∈ fp, bK X' [] H' b := λ {H'} hn b hb => by
   subst hX;obtain ⟨⟨_, z1, z2, z3, z4, z5⟩, z6⟩ := Λ b hb;refine ⟨hn b hb, Ë z6, λ q => ?_, .inl hb, λ y c e => z4 y c (S.sub _ _ e), λ p hp => absurd (show p ∈ ([] : List (Addr × Obj)) from hp) (by simp)⟩
   rcases Ï.mp (I3.ř b q) with e | e
   ·exact z1 e
   ·exact z2 e
  have Hc : tn 0 sS.heap := T.keep _ _ _ ο λ b hb o e => old b o (by rw [<- f']; exact Á _ e)
  refine iw (λ n s' => ∃ i ys os H', os.length = ts.length /\ Inv X' [] (os ++ br js σ) H' s' /\ tn i s'.heap /\ (∀ b ∈ fp, H' b = none) /\ W i n ys H') ?_ m0 ⟨0, [], _, _, ç, J0, Hc, λ b hb => (Λ b hb).1.1, w0⟩;rintro n s' ⟨i, ys, os, H', Ņ, Iv, st, fr, w⟩;obtain ⟨hD, alt⟩ := turn i n ys H' w;have eP : X'.prog = X.prog := by subst hX; rfl
  have eW : X'.w = X.w := by subst hX; rfl
  have eK : X'.K = X.K := by subst hX; rfl
  have eC : X'.calm = true := by subst hX; exact hc
  have eA : X'.A = X.A := by subst hX; rfl
  have eE : X'.env = compEnvC sc cl s3.heap.objs.size X.env := by subst hX; rfl
  have eX : X'.xe = λ _ _ => False := by subst hX; rfl
  rcases alt with ⟨stop, q⟩ | ⟨go, ņ, step⟩
  ·have d := T.done X' eP eW eK eC i [] s' _ H' (λ _ _ => False) Iv (Ľ fr) st stop;rw [eA] at d;refine ax d λ r s4 ⟨hr, I4⟩ => ?_;subst hr;obtain ⟨m, hm, _⟩ := id I4.loc;rw [eE] at hm;subst hX;exact ⟨m, hm, λ h' Hx => ⟨.ref s2.heap.objs.size, H', cy I3 Λ (Å _) I4 Hx, rfl, q⟩⟩
  ·have d := T.item X' eP eW eK eC i [] s' _ H' (λ _ _ => False) Iv (Ľ fr) st go;rw [eA] at d;refine ax d λ r s4 ⟨u, hr, h4⟩ => ?_;subst hr;refine ax h4 λ _ s5 ⟨y, H5, I5, r5, y5, Δ, HA⟩ => ?_;have HE := I5.pinned (Ľ HA) (T.obj _ _ Δ);have IR : PG X' tg g := by subst hX; exact hg _ _ _ _
   have g6 := IR _ s5 _ H5 y u _ HE r5 (step y H5 y5 os Ņ);rw [eP, eW, eA, eE, eX] at g6;refine ax g6 λ _ s6 ⟨Ij, H6, I6, ⟨ı, k_, e6⟩, IB⟩ => ?_;subst e6;have Ox : PT X' c tt := by subst hX; exact ht _ _ _ _
   have g0 := Ox _ s6 _ H6 _ I6 IB;rw [eP, eW, eA, eE, eX] at g0;refine ax g0 λ k sk ⟨Hk, Ik, qk⟩ => ?_;cases k with
   | false =>
    obtain ⟨m', GI, w7⟩ := qk.1 rfl;refine ⟨λ _ => ?_, λ z => nomatch z⟩;refine ⟨m', GI, i + 1, ys, ı, _, k_, Ik.Ĥ, T.keep _ _ _ Δ λ b hb o e => (Ik.pin (b, o) (Ä _ (Ä _ (ar hb e)))).1, λ b hb => ?_, w7⟩;obtain ⟨o', e', _⟩ := T.obj _ _ Δ b hb;exact (Ik.pin (b, o') (Ä _ (Ä _ (ar hb e')))).2.1
   | true =>
   refine ⟨λ z => (nomatch z), λ _ => ?_⟩;have HP : PE X' elt te := by subst hX; exact he _ _ _ _
   have g7 := HP _ sk _ Hk _ Ik (qk.2 rfl);rw [eP, eW, eA, eE, eX] at g7;refine ax g7 λ uv s7 ⟨v7, H7, I7, r7, IS, m', GI, w7⟩ => ?_;have g8 := (bo (X := X')) _ s7 _ H7 (.ref s2.heap.objs.size) [v7] (.ref s2.heap.objs.size) [uv] (λ _ H8 => H8 = ao H7 s2.heap.objs.size (.lst (ys ++ [v7]))) I7 rfl (.cons r7 .nil) ⟨_, ys, v7, rfl, rfl, IS, ņ, rfl⟩;rw [eP, eW, eA, eX] at g8;refine ax g8 λ _ s8 ⟨_, H8, I8, _, e8⟩ => ?_;subst e8;refine ⟨m', GI, i + 1, ys ++ [v7], ı, _, k_, I8.Ĥ, T.keep _ _ _ Δ λ b hb o e => (I8.pin (b, o) (Ä _ (Ä _ (ar hb e)))).1, λ b hb => ?_, w7⟩;obtain ⟨o', e', _⟩ := T.obj _ _ Δ b hb;exact (I8.pin (b, o') (Ä _ (Ä _ (ar hb e')))).2.1
 have Hv : tn 0 Ğ := T.keep _ _ _ ο λ b hb o e => old b o (by rw [<- f']; exact Á _ e)
 exact Ħ (loop _ rfl rfl rfl) (T.self _ 0 _ _ _ Hv (loop _ rfl rfl rfl))
end
end My
namespace My
open PySem L2
open PySem.Builtin.Str (occurrences partsBetween strSub)
def FZ (c : Nat) : Bool := decide (48 <= c) && decide (c <= 57)
def Ag (L : List Nat) : Bool := !L.isEmpty && !(L.head? == some 48 && L != [48]) && L.all FZ
abbrev cs (z : Str) : List Nat := z.cps.toList
abbrev val (L : List Nat) : Nat := NumText.digitsVal L
def FI (a b : List Nat) : Bool := Ag a && Ag b && decide (2 <= val b) && decide (1 <= val a) && decide (val a < val b) && decide (Nat.gcd (val a) (val b) = 1)
def rd (z : Str) : Option (Nat × Nat) :=
 if z = "0" then some (0, 1) else if z = "1" then some (1, 1) else
  match Txt.split z ⟨#[47]⟩ with
  | [a, b] => if FI (cs a) (cs b) = true then some (val (cs a), val (cs b)) else none
  | _ => none
abbrev tx (n : Nat) : Str := Str.ofString (toString ((n : Nat) : Int))
end My
namespace My
open PySem PySem.W L2
theorem fO {A B : Prop} (h : A) : if true = true then A else B := by rw [Ô rfl]; exact h
theorem c6 {A B : Prop} (h : B) : if false = true then A else B := by rw [É ag]; exact h
def Ext (H H' : Hp) : Prop := ∀ b o, H b = some o -> H' b = some o
theorem Ext.refl (H : Hp) : Ext H H := λ _ _ h => h
theorem Ext.trans {H H1 H2 : Hp} (a : Ext H H1) (b : Ext H1 H2) : Ext H H2 := λ x o h => b x o (a x o h)
theorem Ext.new {H : Hp} {p : Addr} {o : HO} (h : H p = none) : Ext H (ao H p o) := λ b u e => by rw [ah (bZ e h)]; exact e
theorem ą.ext {K : Frag} {H H' : Hp} {p : Addr} {xs : List V} (h : ą K H p xs) (e : Ext H H') : ą K H' p xs := by
 rcases h with h | h
 ·left;rcases h with h | ⟨o, h⟩
  ·exact .inl (e _ _ h)
  ·exact .inr ⟨o, e _ _ h⟩
 ·exact .inr h
theorem ñ.ext {K : Frag} {H H' : Hp} {s : Addr} {xs : List V} (h : ñ K H s xs) (x : Ext H H') : ñ K H' s xs := by
 rcases h with h | h
 ·rcases h with h | ⟨o, h⟩
  ·exact .inl (.inl (x _ _ h))
  ·exact .inl (.inr ⟨o, x _ _ h⟩)
 ·exact .inr h
theorem fB {X : Cx} {x : Str} {n : String} {pos : Pos} (hg : Gl X x) (hm : X.mg x = none) (hv : bootBuiltins x = some (.type n)) (hn : x ≠ "__name__" := by decide +kernel) (hd : (x == ("__debug__" : Str)) = false := by decide) : PE X (.Name x pos) (tC (.ty n)) :=
 tq hg hm hv (show RelV (.ty n) (.type n) from rfl) hn hd
def Kd (K : Frag) (H : Hp) (x : V) (t : Value) : Prop := fo K H x t \/ (∃ p xs, x = .ref p /\ ą K H p xs /\ t = .type "tuple") \/ (∃ a C, x = .ref a /\ I_ H a C /\ oZ K C /\ t = .ref C)
def CY (K : Frag) : List V -> Hp -> VK -> Prop := λ vs H Q => ∃ x n t b, vs = [x, .ty n] /\ Kd K H x t /\ kitOne K t (.type n) = some b /\ Q (.bl b) H
theorem bX {X : Cx} (N : tD X.K) : ce X (.builtin "isinstance") (CY X.K) := by
 intro pins s σ H xs us Q I r h;obtain ⟨x, n, t, b, rfl, kd, e, q⟩ := h;obtain ⟨u, u', rfl, ru, Qg⟩ := nw r;cases (show u' = Value.type n from Qg);rcases kd with ty | ⟨p, ys, rfl, hq, rfl⟩ | ⟨a, C, rfl, ea, T, rfl⟩
 ·exact pP I ru ty e λ tk => ⟨.bl b, H, I.tok _, rfl, q⟩
 ·cases (show u = Value.ref p from ru);obtain ⟨its, _, ⟨o, h1, h2, _⟩, _⟩ := I.tuple hq;exact kia_one kitx_tuple I.Ω ⟨o, h1, h2⟩ e (λ z => nomatch z) λ tk => ⟨.bl b, H, I.tok _, rfl, q⟩
 ·cases (show u = Value.ref a from ru);exact kia_one (wg T N.gt N.tk) I.Ω (ea.inst I.Ē) e (λ z => nomatch z) λ tk => ⟨.bl b, H, I.tok _, rfl, q⟩
def At (K : Frag) (H : Hp) (x : V) : Prop := (∀ i, x ≠ .int i) /\ ∃ t b1 b2, Kd K H x t /\ kitOne K t (.type "int") = some b1 /\ kitOne K t (.type "bool") = some b2 /\ (b1 && !b2) = false
def Th (K : Frag) (H : Hp) (x : V) : Prop := (∃ i, x = .int i) \/ At K H x
def BX : V -> Bool
 | .int _ => true
 | _ => false
def G4 (lo hi : Int) : V -> Bool
 | .int i => decide (lo <= i) && decide (i <= hi)
 | _ => false
theorem ka {x : V} (h : ∀ i, x ≠ .int i) : BX x = false := by
 cases x with
 | int i => exact absurd rfl (h i)
 | _ => rfl
theorem wU {lo hi : Int} {x : V} (h : ∀ i, x ≠ .int i) : G4 lo hi x = false := by
 cases x with
 | int i => exact absurd rfl (h i)
 | _ => rfl
section
variable {P : Program} {w : World} {K : Frag} {mg : bE} {base : Heap}
theorem DN : kitOne K (.type "int") (.type "int") = some true := rfl
theorem Dh : kitOne K (.type "int") (.type "bool") = some false := rfl
end
set_option exponentiation.threshold 10000
def uz : Key -> PyData
 | .inl i => .int i
 | .inr x => .str x
 | .ĉ => .none
mutual
inductive Ļ (G : Hp) : V -> PyData -> Prop
 | ĉ : Ļ G .ĉ .none
 | bl (b : Bool) : Ļ G (.bl b) (.bool b)
 | int (i : Int) : Ļ G (.int i) (.int i)
 | str (x : Str) : Ļ G (.str x) (.str x)
 | lst {a : Addr} {xs : List V} {ds : List PyData} : G a = some (.lst xs) -> Ć G xs ds -> Ļ G (.ref a) (.list ds)
 | tup {a : Addr} {xs : List V} {ds : List PyData} : G a = some (.tup xs) -> Ć G xs ds -> Ļ G (.ref a) (.tuple ds)
 | Ι {a : Addr} : G a = some (.dK []) -> Ļ G (.ref a) (.dict [])
 | G9 {a : Addr} {k : Key} {v : V} {d : PyData} : G a = some (.dK [(k, v)]) -> Ļ G v d -> Ļ G (.ref a) (.dict [(uz k, d)])
inductive Ć (G : Hp) : List V -> List PyData -> Prop
 | nil : Ć G [] []
 | cons {v : V} {vs : List V} {d : PyData} {ds : List PyData} : Ļ G v d -> Ć G vs ds -> Ć G (v :: vs) (d :: ds)
end
mutual
theorem Ļ.mono {G G' : Hp} (s : Ext G G') : ∀ {v : V} {d : PyData}, Ļ G v d -> Ļ G' v d
 | _, _, .ĉ => .ĉ
 | _, _, .bl b => .bl b
 | _, _, .int i => .int i
 | _, _, .str x => .str x
 | _, _, .lst e r => .lst (s _ _ e) (Ć.mono s r)
 | _, _, .tup e r => .tup (s _ _ e) (Ć.mono s r)
 | _, _, .Ι e => .Ι (s _ _ e)
 | _, _, .G9 e r => .G9 (s _ _ e) (Ļ.mono s r)
theorem Ć.mono {G G' : Hp} (s : Ext G G') : ∀ {vs : List V} {ds : List PyData}, Ć G vs ds -> Ć G' vs ds
 | _, _, .nil => .nil
 | _, _, .cons r t => .cons (Ļ.mono s r) (Ć.mono s t)
end
theorem Ć.length {G : Hp} : ∀ {vs : List V} {ds : List PyData}, Ć G vs ds -> vs.length = ds.length
 | _, _, .nil => rfl
 | _, _, .cons _ t => by rw [Ñ, Ñ, t.length]
section
variable {P : Program} {w : World} {H : Hp} {h : Heap}
theorem pF {k : Key} {u : Value} (r : (aJ P w).is k u = true) : Reads h u (uz k) [] := by
 rw [iu] at r;rcases aE r with ⟨i, t, rfl, rfl⟩ | ⟨x, t, rfl, rfl⟩ | ⟨rfl, rfl⟩
 ·exact .int i t
 ·exact .str x t
 ·exact .none
theorem yh {es : List DictEntry} (ps : Pairs (aJ P w) es ([] : List (Key × Value))) : es = [] := by
 cases ps;rfl
theorem yK {es : List DictEntry} {k : Key} {u : Value} (ps : Pairs (aJ P w) es [(k, u)]) : ∃ e, es = [e] /\ (aJ P w).is k e.key = true /\ e.val = u := by
 cases ps with
 | cons h1 h2 h3 =>
  cases h3;exact ⟨_, rfl, h1, h2⟩
mutual
theorem kD (ok : ŷ P w H h) (z : H sysModules = none) : ∀ {v : V} {d : PyData} {u : Value}, Ļ H v d -> RelV v u -> ∃ as, Reads h u d as /\ sysModules ∉ as
 | _, _, _, .ĉ, r => by cases r; exact ⟨[], .none, by simp⟩
 | _, _, _, .bl b, r => by cases r; exact ⟨[], .bool b, by simp⟩
 | _, _, _, .int i, r => by obtain ⟨t, rfl⟩ := r; exact ⟨[], .int i t, by simp⟩
 | _, _, _, .str x, r => by obtain ⟨t, rfl⟩ := r; exact ⟨[], .str x t, by simp⟩
 | _, _, _, .lst (a := a) e t, r => by
  cases r;obtain ⟨_, its, n, rv, ho⟩ := (show Ĉ P w H h _ (.lst _) from ok _ _ e);obtain ⟨as, ra, na⟩ := Ε ok z t rv;refine ⟨a :: as, .list ho rfl rfl (by simpa using ra), ?_⟩
  intro m;rcases Ï.mp m with m | m
  ·rw [<- m, z] at e; cases e
  ·exact na m
 | _, _, _, .tup (a := a) e t, r => by
  cases r;obtain ⟨_, its, rv, o, ho, hc, n, hd⟩ := (show Ĉ P w H h _ (.tup _) from ok _ _ e);obtain ⟨as, ra, na⟩ := Ε ok z t rv;exact ⟨as, .tuple ho hc hd (by simpa using ra), na⟩
 | _, _, _, .Ι (a := a) e, r => by
  cases r;obtain ⟨_, hs, vs, kv, o, es, ep, ho, hx, hd, Up, OA, Uh⟩ := (show Ĉ P w H h _ (.dK _) from ok _ _ e);cases kv;have ee : es.toList = [] := yh OA;refine ⟨a :: [] ++ [], .dict (kvs := []) ho hx.1 hd (by rw [ee]; exact .nil) (by rw [ee]; exact .nil), ?_⟩
  intro m;have m' : sysModules = a := by simpa using m
  rw [<- m', z] at e; cases e
 | _, _, _, .G9 (a := a) (k := k) e t, r => by
  cases r;obtain ⟨_, hs, vs, kv, o, es, ep, ho, hx, hd, Up, OA, Uh⟩ := (show Ĉ P w H h _ (.dK _) from ok _ _ e);cases kv with
  | cons q q' =>
   cases q';obtain ⟨La, KG⟩ := q;obtain ⟨e0, ee, ek, ev⟩ := yK OA;rw [<- ev] at KG;rw [<- La] at ek;obtain ⟨as, ra, na⟩ := kD ok z t KG;have rk : ReadsAll h [e0.key] [uz k] ([] ++ []) := .cons (pF ek) .nil;have rv : ReadsAll h [e0.val] [_] (as ++ []) := .cons ra .nil;refine ⟨a :: ([] ++ []) ++ (as ++ []), .dict (kvs := [(uz k, _)]) ho hx.1 hd (by rw [ee]; exact rk) (by rw [ee]; exact rv), ?_⟩
   intro m;rw [ã, ã] at m;rcases Ï.mp m with m | m
   ·rw [<- m, z] at e; cases e
   ·exact na (by simpa using m)
theorem Ε (ok : ŷ P w H h) (z : H sysModules = none) : ∀ {vs : List V} {ds : List PyData} {us : List Value}, Ć H vs ds -> Vals vs us -> ∃ as, ReadsAll h us ds as /\ sysModules ∉ as
 | _, _, _, .nil, r => by cases r; exact ⟨[], .nil, by simp⟩
 | _, _, _, .cons r t, rv => by
  cases rv with
  | cons q qs =>
   obtain ⟨as, ra, na⟩ := kD ok z r q;obtain ⟨bs, rb, nb⟩ := Ε ok z t qs;refine ⟨as ++ bs, .cons ra rb, λ m => ?_⟩;rcases ŗ.mp m with m | m
   ·exact na m
   ·exact nb m
end
end
def nP : PyData -> String
 | .none => "NoneType"
 | .bool _ => "bool"
 | .int _ => "int"
 | .str _ => "str"
 | .list _ => "list"
 | .tuple _ => "tuple"
 | _ => "dict"
def Az : PyData -> Bool
 | .tuple _ => true
 | _ => false
def AK : PyData -> Bool
 | .list _ => true
 | _ => false
def og (lo hi : Int) : PyData -> Bool
 | .int i => decide (lo <= i) && decide (i <= hi)
 | _ => false
section
variable {K : Frag} {H : Hp} {v : V} {d : PyData}
theorem Ļ.ty (r : Ļ H v d) : fo K H v (.type (nP d)) := by
 cases r with
 | ĉ => exact .ĉ
 | bl b => exact .bl b
 | int i => exact .int i
 | str x => exact .str x
 | lst e _ => exact .lst e
 | tup e _ => exact .tup e
 | Ι e => exact .dK e
 | G9 e _ => exact .dK e
theorem Ļ.kd (r : Ļ H v d) : Kd K H v (.type (nP d)) := .inl r.ty
theorem Ļ.TB (r : Ļ H v d) : kitOne K (.type (nP d)) (.type "tuple") = some (Az d) := by cases r <;> rfl
theorem Ļ.TC (r : Ļ H v d) : kitOne K (.type (nP d)) (.type "list") = some (AK d) := by cases r <;> rfl
theorem Ļ.th (r : Ļ H v d) : Th K H v := by
 cases r with
 | int i => exact .inl ⟨i, rfl⟩
 | ĉ => exact .inr ⟨λ i z => (by cases z), _, _, _, .inl .ĉ, rfl, rfl, rfl⟩
 | bl b => exact .inr ⟨λ i z => (by cases z), _, _, _, .inl (.bl b), rfl, rfl, rfl⟩
 | str x => exact .inr ⟨λ i z => (by cases z), _, _, _, .inl (.str x), rfl, rfl, rfl⟩
 | lst e _ => exact .inr ⟨λ i z => (by cases z), _, _, _, .inl (.lst e), rfl, rfl, rfl⟩
 | tup e _ => exact .inr ⟨λ i z => (by cases z), _, _, _, .inl (.tup e), rfl, rfl, rfl⟩
 | Ι e => exact .inr ⟨λ i z => (by cases z), _, _, _, .inl (.dK e), rfl, rfl, rfl⟩
 | G9 e _ => exact .inr ⟨λ i z => (by cases z), _, _, _, .inl (.dK e), rfl, rfl, rfl⟩
theorem Ļ.G4 (r : Ļ H v d) (lo hi : Int) : My.G4 lo hi v = og lo hi d := by cases r <;> rfl
theorem jP (r : Ļ H v (.tuple ds)) : ∃ a xs, v = .ref a /\ H a = some (.tup xs) /\ Ć H xs ds := by
 cases r with
 | tup e t => exact ⟨_, _, rfl, e, t⟩
theorem oj (r : Ļ H v (.list ds)) : ∃ a xs, v = .ref a /\ H a = some (.lst xs) /\ Ć H xs ds := by
 cases r with
 | lst e t => exact ⟨_, _, rfl, e, t⟩
theorem Ć.get {xs : List V} {ds : List PyData} (r : Ć H xs ds) : ∀ {i : Nat} {x : V}, xs[i]? = some x -> ∃ d, ds[i]? = some d /\ Ļ H x d := by
 induction xs generalizing ds with
 | nil => intro i x h; simp at h
 | cons y ys ih =>
  cases r with
  | cons q t =>
   intro i x h;cases i with
   | zero => cases h; exact ⟨_, rfl, q⟩
   | succ i => exact ih t h
end
end My
namespace My
open PySem L2
structure Bx (p : Prop) : Prop where
 h : p
section
variable {X : Cx} {e a b : Expr} {es : List Expr} {te ta tb : TE} {t : TA} {pos : Pos} {st : Stmt} {rest : List Stmt} {ts u v : TS}
theorem ij : Bx (PA X [] aH) := ⟨ap⟩
theorem kr (ha : Bx (PE X e te)) (hr : Bx (PA X es t)) (hs : starEach (e :: es) X.env = (false, eval e X.env) :: starEach es X.env := by rfl) : Bx (PA X (e :: es) (ac te t)) := ⟨ad ha.h hr.h hs⟩
theorem l7 (h : Bx (PA X es t)) : Bx (PE X (.List es pos) (fe t)) := ⟨cK h.h⟩
theorem yb {x1} (h : Bx (PA X es t)) : Bx (PE X (.Tuple es x1 pos) (dq t)) := ⟨aO h.h⟩
theorem vY {r : R2} (hr : zM X r) (ha : Bx (PE X a ta)) (hb : Bx (PE X b tb)) (hs : jX b := by exact λ _ _ => rfl) : Bx (PE X (.Subscript a b pos) (aZ r ta tb)) := ⟨cq hr ha.h hb.h hs⟩
theorem dF (h : Bx (PE X e te)) : Bx (PS X (.Return (some e) pos) (bY te)) := ⟨cp h.h⟩
theorem aR (h : Bx (PS X st ts)) : Bx (f_ X [st] ts) := ⟨bz h.h⟩
theorem cH (h : Bx (PS X st ts)) (k : Bx (f_ X rest u)) : Bx (f_ X (st :: rest) (bB ts u)) := ⟨b6 h.h k.h⟩
theorem ye {i : Nat} {x : Str} {pos' : Pos} (hN : X.N.Nodup) (hi : X.N[i]? = some x) (hx : wC X.env.scope x) (he : Bx (PE X e te)) (hs : swapsWith e (some (.Name x pos')) pos.line X.env = pure false := by rfl) (hf : X.fn x = true \/ X.env.scope.names.lookup x = some .local := by first | exact .inl rfl | exact .inr rfl | assumption) :
  Bx (PS X (.Assign [.Name x pos'] e pos) (aT te (aP i))) := ⟨cD hN hi hx he.h hs hf⟩
end
section
variable {X : Cx}
theorem ji : ∀ (xs : List Bool), (List.range xs.length).all (λ i => xs.getD i false) = xs.all id
 | [] => rfl
 | x :: xs => by
  have ih := ji xs;rw [Ñ, ĳ, Ĺ, G0, Ĺ, <- ih];rfl
def AU (K : PySem.W.Frag) : List V -> Hp -> VK -> Prop := λ vs H Q => ∃ (l : Addr) (xs : List Bool), vs = [.ref l] /\ ñ K H l (xs.map V.bl) /\ Q (.bl (xs.all id)) H
theorem lM (hc : X.calm = true) : ce X (.builtin "all") (AU X.K) := by
 intro pins s σ H vs us Q I r h;obtain ⟨l, xs, rfl, hl, q⟩ := h;obtain ⟨u, rfl, ru⟩ := cW r;cases (show u = Value.ref l from ru);obtain ⟨its, rv, t, hz⟩ := I.list hl;have ll : l < s.heap.objs.size := by obtain ⟨_, e, _⟩ := t.isList; exact È e
 have len := rv.length;rw [Æ] at len;refine call_all_walk (Ip t.isList ?_);refine ⟨s.heap.objs.size, [s.heap.objs.size, l], [s.heap.objs.size], its.toArray.size, (λ i v => its.toArray[i]? = some v), _, λ i => xs.getD i false, rfl, Walks.list (A := X.A.in1) (I.ok.hd hc) s.heap.objs.size l (Ë ll) its.toArray,
  ⟨⟨_, Ê _ rfl, rfl, rfl⟩, t.isList.push _⟩, λ i v s' Q' E' hv hq => ?_, λ h' tk hk => ⟨.bl _, H, I.kept (h' := h') (t' := tk) (λ b o e => hk b o (λ m => ?_) (Á _ e)), ?_, q⟩⟩
 ·have KB : its[i]? = some v := by simpa using hv
  have lt : i < its.length := (Ø.mp KB).1;have Qu : i < xs.length := ae;obtain ⟨u1, e1, q1⟩ := rv.get (i := i) (x := V.bl xs[i]) (by rw [Õ, Ã Qu]; rfl)
  rw [KB] at e1;cases e1;cases (show v = Value.bool xs[i] from q1);refine Ġ ?_;have e : xs.getD i false = xs[i] := by simp [Qu]
  rw [<- e];exact hq
 ·rcases Ï.mp m with e2 | m
  ·exact absurd (È e) (by rw [e2]; exact ÿ _)
  ·cases m
 ·show Value.bool _ = Value.bool _;have e := ji xs;rw [<- e, Û, <- len]
theorem jk : ∀ {xs : List V}, xs.all dZ = true -> dW xs xs = true
 | [], _ => rfl
 | x :: xs, h => by
  rw [Ĺ, Ā] at h;show (yP x x && dW xs xs) = true;rw [qY h.1, jk h.2];rfl
theorem rM {pins : List (Addr × Obj)} {σ : St} {H : Hp} {s : Shared} {A : Around} {p q : Addr} {xs ys : List V} (I : Inv X pins σ H s) (hu : A.units < cLine) (hp : ą X.K H p xs) (hq : ą X.K H q ys) (f1 : xs.all dZ = true) (f2 : ys.all dZ = true) :
  SeqAt.EqAt A s (.ref p) (.ref q) (dW xs ys) := by
 by_cases e : p = q
 ·subst e;have := I.Ŝ hp hq;subst this;rw [jk f1];exact Š _
 ·obtain ⟨its, r1, t1, _⟩ := I.tuple hp;obtain ⟨Ű, r2, t2, _⟩ := I.tuple hq;have a := SeqAt.RcAt.tuples t1 t2 hu (uN (A := A.in1) (pins := pins) (σ := σ) (H := H) (s := s) r1 r2 f1 f2);have z := lw xs ys;rw [r1.length, r2.length] at z;rw [Û, Û, z] at a;exact .of_refs e a
def fm (K : PySem.W.Frag) : V -> List V -> Hp -> VK -> Prop := λ x vs H Q => ∃ (l q : Addr) (as : List (Addr × List V)) (ys : List V), x = .ref l /\ vs = [.ref q] /\ ñ K H l (as.map λ z => V.ref z.1) /\ (∀ z ∈ as, ą K H z.1 z.2 /\ z.2.all dZ = true) /\ ą K H q ys /\ ys.all dZ = true /\ Q (.int (as.countP λ z => dW z.2 ys : Nat)) H
theorem cR (hu : X.A.units + 1 < cLine) : Dr X "list.count" (fm X.K) := by
 intro pins s σ H x vs v us Q I rx rv h;obtain ⟨l, q, as, ys, rfl, rfl, hl, hz, hq, f2, k⟩ := h;cases rx;obtain ⟨u, rfl, ru⟩ := cW rv;cases (show u = Value.ref q from ru);obtain ⟨its, r, t, WE⟩ := I.list hl;obtain ⟨⟨c, dd, dt, sl⟩, h1, hc, n, hd⟩ := t.isList;replace hc : c = .type "list" := hc;replace hd : dt = .seq its.toArray n := hd;subst hc hd;have get : ∀ (i : Nat) (hi : i < its.length), ∃ z ∈ as, as[i]? = some z /\ its[i] = Value.ref z.1 := λ i hi => by
  have k1 : i < as.length := by have := r.length; rw [Æ] at this; omega
  obtain ⟨u1, e1, q1⟩ := r.get (i := i) (x := V.ref as[i].1) (by rw [Õ, Ã k1]; rfl)
  rw [Ã hi] at e1;cases e1;exact ⟨as[i], İ k1, Ã k1, q1⟩
 let e : Value -> Bool := λ z => as.any λ a => z == Value.ref a.1 && dW a.2 ys
 have ee : ∀ z ∈ as, e (Value.ref z.1) = dW z.2 ys := λ z JP => by
  show (as.any λ a => Value.ref z.1 == Value.ref a.1 && dW a.2 ys) = _;cases b : dW z.2 ys with
  | true =>
   rw [Ht];exact ⟨z, JP, by rw [b, ζ]; rfl⟩
  | false =>
   rw [List.any_eq_false];intro a ha;intro c;rw [Ā] at c;have c1 : z.1 = a.1 := Value.ref.inj (beq_iff_eq.mp c.1);have t1 := (hz z JP).1;have t2 := (hz a ha).1;rw [c1] at t1;have := I.Ŝ t1 t2;rw [this, c.2] at b;cases b
 refine call_meets F.slot_list_count ⟨_, h1, rfl⟩ F.entry_list_count (F.args_list_count_2 _ _) (SeqAt.list_countAt l its.toArray n dd sl (Value.ref q) e) ⟨h1, λ z JP => ?_, ?_⟩
 ·obtain ⟨i, hi, ez⟩ := Ĭ (show z ∈ its by simpa using JP)
  obtain ⟨y, hy, _, ey⟩ := get i hi;rw [ez] at ey;subst ey;rw [ee y hy];exact rM I (by show X.A.in1.units < cLine; rw [in1_units]; exact hu) (hz y hy).1 hq (hz y hy).2 f2
 ·refine ⟨.int _, H, I.tok _, ⟨_, rfl⟩, ?_⟩;have z : its.toArray.toList.countP e = as.countP λ z => dW z.2 ys := by
   rw [List.toList_toArray];have gen : ∀ (bs : List (Addr × List V)) (js : List Value), (∀ z ∈ bs, z ∈ as) -> Vals (bs.map λ z => V.ref z.1) js -> js.countP e = bs.countP λ z => dW z.2 ys := by
    intro bs
    induction bs with
    | nil =>
     intro js _ rj;cases rj;rfl
    | cons b bs ih =>
     intro js sub rj;rw [Í] at rj;cases rj with
     | cons q1 rj =>
      cases (show _ = Value.ref b.1 from q1);rw [Hs, Hs, ih _ (λ z hz => sub z (Î _ hz)) rj, ee b (sub b (Ù ..))]
   exact gen as its (λ _ h => h) r
  rw [z];exact k
end
section
variable {X : Cx} {sc : Scope} {cl : List (Str × Addr)} {ts zs : List Str} {js : List Nat} {elt iter c : Expr} {pos : Pos} {tg : Expr} {g : TG} {wi : TI} {te : TE} {tt : TT}
theorem wj {y : Str} {py IC : Pos} {iy : Nat} (hc : X.calm = true) (S : aY X sc cl ts zs js) (hi : PI X tg iter wi) (hg : ∀ s H C fp, PG (av X sc cl (ts ++ zs) s H C fp) tg g) (he : ∀ s H C fp, PE (av X sc cl (ts ++ zs) s H C fp) elt te)
  (hN : X.N.Nodup) (ON : X.N[iy]? = some y) (hy : wC X.env.scope y) (Oy : swapsWith (.ListComp elt [⟨tg, iter, [], 0⟩] sc pos) (some (.Name y py)) IC.line X.env = pure true)
  (hf : X.fn y = true \/ X.env.scope.names.lookup y = some .local := by first | exact .inl rfl | exact .inr rfl | assumption)
  (hs : ∀ v, foldedSetIterable iter X.env v = pure v := by intro _; rfl) : PS X (.Assign [.Name y py] (.ListComp elt [⟨tg, iter, [], 0⟩] sc pos) IC) (aT (dX wi ts.length js g te) (aP iy)) := by
 intro pins s σ H De I h;rw [exec_Assign_Name_used _ _ _ _ Oy];refine À (ü (À ?_));show wpAny _ _ (do let _ <- comprehension (.ListComp elt [⟨tg, iter, [], 0⟩] sc pos) sc X.env _ (newList []) false (eval iter X.env) (some (assign (.Name y py) X.env))) _ _ s
 refine À (Ü (đ (use := some (assign (.Name y py) X.env)) (Q := λ _ s' => SP X pins De .next s') rfl hs S.n_ S.kind S.names ?_) (λ _ s' hq => Â (Â hq)) λ _ _ e => e);refine (ax (hi pins s σ H _ I h) λ v s1 h1 => ax h1 λ Js s2 h2 => ?_);obtain ⟨it, fp, tn, J, H2, e, I2, T, ο, f2, body⟩ := h2;subst e;have Ii : H2 s2.heap.objs.size = none := I2.fresh;obtain ⟨W, ⟨m0, w0⟩, turn⟩ := body _ Ii;refine Ý ?_;have I3 : Inv X pins σ (ao H2 s2.heap.objs.size (.lst [])) { s2 with heap := s2.heap.push { cls := .type "list", data := .seq ([] : List Value).toArray } } := I2.Ie (t' := s2.toks) (ys := []) (its := []) .nil (Ċ _)
 refine Ĝ S.Ζ (by intro y hy; simp at hy) (λ Ğ hn B' => ?_) S.kind
 generalize f' : ({ s2 with heap := s2.heap.push { cls := .type "list", data := .seq ([] : List Value).toArray } } : Shared) = s3 at I3 hn B' ⊢
 have Λ : ∀ b ∈ fp, bK X pins (ao H2 s2.heap.objs.size (.lst [])) b /\ b < s3.heap.objs.size := λ b hb => by
  obtain ⟨o, ho, _⟩ := T.obj _ _ ο b hb;have hl := È ho;have GH : b ≠ s2.heap.objs.size := Ë hl;obtain ⟨z1, z2⟩ := f2 b hb;refine ⟨⟨by rw [ah GH]; exact z1, z2⟩, ?_⟩
  rw [<- f'];show b < (s2.heap.push _).objs.size;rw [æ];exact ē hl
 have old : ∀ b o, s3.heap.get? b = some o -> Ğ.get? b = some o := λ b o e => B'.extBut b o (Ë (È e)) (Á _ e);have loop : ∀ sS : Shared, sS.heap = Ğ -> sS.os = s3.os -> sS.gens = s3.gens -> codeAny (model X.prog X.w) X.A (.compLoop (.ListComp elt [⟨tg, iter, [], 0⟩] sc pos) 0 (.ref it) (.ref s2.heap.objs.size) (compEnvC sc cl s3.heap.objs.size X.env))
   (compPost (model X.prog X.w) X.A X.xe (some (assign (.Name y py) X.env)) (λ _ s' => SP X pins De .next s') (.ref s2.heap.objs.size) s3.heap.objs.size) sS := by
  intro sS eh eo eg;subst eh;have J0 : Inv (av X sc cl (ts ++ zs) s3 (ao H2 s2.heap.objs.size (.lst [])) s3.heap.objs.size fp) [] (List.replicate ts.length none ++ br js σ) (ao H2 s2.heap.objs.size (.lst [])) sS := bS I3 S Λ (Å _) eo eg old hn;generalize hX : av X sc cl (ts ++ zs) s3 (ao H2 s2.heap.objs.size (.lst [])) s3.heap.objs.size fp = X' at J0;have Ľ : ∀ {H' : Hp}, (∀ b ∈ fp, H' b = none) -> ∀ b ∈ fp, bK X' [] H' b := λ {H'} hn b hb => by
   subst hX;obtain ⟨⟨_, z1, z2, z3, z4, z5⟩, z6⟩ := Λ b hb;refine ⟨hn b hb, Ë z6, λ q => ?_, .inl hb, λ y c e => z4 y c (S.sub _ _ e), λ p hp => absurd (show p ∈ ([] : List (Addr × Obj)) from hp) (by simp)⟩
   rcases Ï.mp (I3.ř b q) with e | e
   ·exact z1 e
   ·exact z2 e
  have Hc : tn 0 sS.heap := T.keep _ _ _ ο λ b hb o e => old b o (by rw [<- f']; exact Á _ e)
  refine gh (λ n s' => ∃ i ys os H', os.length = ts.length /\ Inv X' [] (os ++ br js σ) H' s' /\ tn i s'.heap /\ (∀ b ∈ fp, H' b = none) /\ W i n ys H') ?_ m0 ⟨0, [], _, _, ç, J0, Hc, λ b hb => (Λ b hb).1.1, w0⟩;rintro n s' ⟨i, ys, os, H', Ņ, Iv, st, fr, w⟩;obtain ⟨hD, alt⟩ := turn i n ys H' w;have eP : X'.prog = X.prog := by subst hX; rfl
  have eW : X'.w = X.w := by subst hX; rfl
  have eK : X'.K = X.K := by subst hX; rfl
  have eC : X'.calm = true := by subst hX; exact hc
  have eA : X'.A = X.A := by subst hX; rfl
  have eE : X'.env = compEnvC sc cl s3.heap.objs.size X.env := by subst hX; rfl
  have eX : X'.xe = λ _ _ => False := by subst hX; rfl
  rcases alt with ⟨stop, q⟩ | ⟨go, ņ, step⟩
  ·have d := T.done X' eP eW eK eC i [] s' _ H' (λ _ _ => False) Iv (Ľ fr) st stop;rw [eA] at d;refine ax d λ r s4 ⟨hr, I4⟩ => ?_;subst hr;obtain ⟨m, hm, _⟩ := id I4.loc;have fC : H' s3.heap.objs.size = none := by
    have z := I4.free;rw [eE] at z;exact z
   rw [eE] at hm;subst hX;have I5 : Inv X pins σ H' s4 := cy (h' := s4.heap) I3 Λ (Å _) I4 ⟨rfl, λ _ _ => rfl⟩;show wpAny _ _ (assign (.Name y py) X.env (.ref s2.heap.objs.size)) _ _ s4;have nC : ∀ b, b < s3.heap.objs.size -> b ≠ s3.heap.objs.size := λ b hb => Ë hb;have nL : X.env.locals ≠ s3.heap.objs.size := nC _ I3.lt;have MF : ∀ z c, X.env.cells.lookup z = some c -> c ≠ s3.heap.objs.size := λ z c e => by
    obtain ⟨v, o, ho, _⟩ := I3.cell z c e;exact nC _ (È ho)
   refine Ir (f9 I5 hN ON hy (v := .ref s2.heap.objs.size) rfl (λ s5 I6 hb => ?_) hf);obtain ⟨a5, NL, OY⟩ := hb;have N6 : s3.heap.objs.size ≠ a5 := by
    rcases OY with e | e
    ·rw [e]; exact nL.symm
    ·exact (MF _ _ e).symm
   refine ⟨m, hm.sameBut NL N6, λ h' Hx => ?_⟩;have I7 : Inv X pins (σ.set iy (some (.ref s2.heap.objs.size))) H' { s5 with heap := h', toks := s5.toks } :=
    I6.turned (h' := h') (t' := s5.toks) (it := s3.heap.objs.size) (λ b o hb e => (Hx.2 b hb).trans e) fC nL.symm (.inr I3.sz) MF λ p hp => by
     obtain ⟨e1, _⟩ := I3.pin p hp;exact nC _ (È e1)
   exact ⟨_, H', I7, q⟩
  ·have d := T.item X' eP eW eK eC i [] s' _ H' (λ _ _ => False) Iv (Ľ fr) st go;rw [eA] at d;refine ax d λ r s4 ⟨u, hr, h4⟩ => ?_;subst hr;refine ax h4 λ _ s5 ⟨y, H5, I5, r5, y5, Δ, HA⟩ => ?_;have HE := I5.pinned (Ľ HA) (T.obj _ _ Δ);have IR : PG X' tg g := by subst hX; exact hg _ _ _ _
   have g6 := IR _ s5 _ H5 y u _ HE r5 (step y H5 y5 os Ņ);rw [eP, eW, eA, eE, eX] at g6;refine ax g6 λ _ s6 ⟨Ij, H6, I6, ⟨ı, k_, e6⟩, IB⟩ => ?_;subst e6;have HP : PE X' elt te := by subst hX; exact he _ _ _ _
   have g7 := HP _ s6 _ H6 _ I6 IB;rw [eP, eW, eA, eE, eX] at g7;refine ax g7 λ uv s7 ⟨v7, H7, I7, r7, IS, m', GI, w7⟩ => ?_;have g8 := (bo (X := X')) _ s7 _ H7 (.ref s2.heap.objs.size) [v7] (.ref s2.heap.objs.size) [uv] (λ _ H8 => H8 = ao H7 s2.heap.objs.size (.lst (ys ++ [v7]))) I7 rfl (.cons r7 .nil) ⟨_, ys, v7, rfl, rfl, IS, ņ, rfl⟩;rw [eP, eW, eA, eX] at g8;refine ax g8 λ _ s8 ⟨_, H8, I8, _, e8⟩ => ?_;subst e8;refine ⟨m', GI, i + 1, ys ++ [v7], ı, _, k_, I8.Ĥ, T.keep _ _ _ Δ λ b hb o e => (I8.pin (b, o) (Ä _ (Ä _ (ar hb e)))).1, λ b hb => ?_, w7⟩;obtain ⟨o', e', _⟩ := T.obj _ _ Δ b hb;exact (I8.pin (b, o') (Ä _ (Ä _ (ar hb e')))).2.1
 have Hv : tn 0 Ğ := T.keep _ _ _ ο λ b hb o e => old b o (by rw [<- f']; exact Á _ e)
 exact Ħ (loop _ rfl rfl rfl) (T.self _ 0 _ _ _ Hv (loop _ rfl rfl rfl))
end
section
variable {X : Cx} {sc : Scope} {cl : List (Str × Addr)} {ts zs : List Str} {js : List Nat} {elt iter c : Expr} {pos : Pos} {tg : Expr} {g : TG} {wi : TI} {te : TE} {tt : TT}
theorem nj {y : Str} {py IC : Pos} {iy : Nat} (hc : X.calm = true) (S : aY X sc cl ts zs js) (hi : PI X tg iter wi) (hg : ∀ s H C fp, PG (av X sc cl (ts ++ zs) s H C fp) tg g) (ht : ∀ s H C fp, PT (av X sc cl (ts ++ zs) s H C fp) c tt) (he : ∀ s H C fp, PE (av X sc cl (ts ++ zs) s H C fp) elt te)
  (hN : X.N.Nodup) (ON : X.N[iy]? = some y) (hy : wC X.env.scope y) (Oy : swapsWith (.ListComp elt [⟨tg, iter, [c], 0⟩] sc pos) (some (.Name y py)) IC.line X.env = pure true)
  (hf : X.fn y = true \/ X.env.scope.names.lookup y = some .local := by first | exact .inl rfl | exact .inr rfl | assumption)
  (hs : ∀ v, foldedSetIterable iter X.env v = pure v := by intro _; rfl) : PS X (.Assign [.Name y py] (.ListComp elt [⟨tg, iter, [c], 0⟩] sc pos) IC) (aT (db wi ts.length js g tt te) (aP iy)) := by
 intro pins s σ H De I h;rw [exec_Assign_Name_used _ _ _ _ Oy];refine À (ü (À ?_));show wpAny _ _ (do let _ <- comprehension (.ListComp elt [⟨tg, iter, [c], 0⟩] sc pos) sc X.env _ (newList []) false (eval iter X.env) (some (assign (.Name y py) X.env))) _ _ s
 refine À (Ü (đ (use := some (assign (.Name y py) X.env)) (Q := λ _ s' => SP X pins De .next s') rfl hs S.n_ S.kind S.names ?_) (λ _ s' hq => Â (Â hq)) λ _ _ e => e);refine (ax (hi pins s σ H _ I h) λ v s1 h1 => ax h1 λ Js s2 h2 => ?_);obtain ⟨it, fp, tn, J, H2, e, I2, T, ο, f2, body⟩ := h2;subst e;have Ii : H2 s2.heap.objs.size = none := I2.fresh;obtain ⟨W, ⟨m0, w0⟩, turn⟩ := body _ Ii;refine Ý ?_;have I3 : Inv X pins σ (ao H2 s2.heap.objs.size (.lst [])) { s2 with heap := s2.heap.push { cls := .type "list", data := .seq ([] : List Value).toArray } } := I2.Ie (t' := s2.toks) (ys := []) (its := []) .nil (Ċ _)
 refine Ĝ S.Ζ (by intro y hy; simp at hy) (λ Ğ hn B' => ?_) S.kind
 generalize f' : ({ s2 with heap := s2.heap.push { cls := .type "list", data := .seq ([] : List Value).toArray } } : Shared) = s3 at I3 hn B' ⊢
 have Λ : ∀ b ∈ fp, bK X pins (ao H2 s2.heap.objs.size (.lst [])) b /\ b < s3.heap.objs.size := λ b hb => by
  obtain ⟨o, ho, _⟩ := T.obj _ _ ο b hb;have hl := È ho;have GH : b ≠ s2.heap.objs.size := Ë hl;obtain ⟨z1, z2⟩ := f2 b hb;refine ⟨⟨by rw [ah GH]; exact z1, z2⟩, ?_⟩
  rw [<- f'];show b < (s2.heap.push _).objs.size;rw [æ];exact ē hl
 have old : ∀ b o, s3.heap.get? b = some o -> Ğ.get? b = some o := λ b o e => B'.extBut b o (Ë (È e)) (Á _ e);have loop : ∀ sS : Shared, sS.heap = Ğ -> sS.os = s3.os -> sS.gens = s3.gens -> codeAny (model X.prog X.w) X.A (.compLoop (.ListComp elt [⟨tg, iter, [c], 0⟩] sc pos) 0 (.ref it) (.ref s2.heap.objs.size) (compEnvC sc cl s3.heap.objs.size X.env))
   (compPost (model X.prog X.w) X.A X.xe (some (assign (.Name y py) X.env)) (λ _ s' => SP X pins De .next s') (.ref s2.heap.objs.size) s3.heap.objs.size) sS := by
  intro sS eh eo eg;subst eh;have J0 : Inv (av X sc cl (ts ++ zs) s3 (ao H2 s2.heap.objs.size (.lst [])) s3.heap.objs.size fp) [] (List.replicate ts.length none ++ br js σ) (ao H2 s2.heap.objs.size (.lst [])) sS := bS I3 S Λ (Å _) eo eg old hn;generalize hX : av X sc cl (ts ++ zs) s3 (ao H2 s2.heap.objs.size (.lst [])) s3.heap.objs.size fp = X' at J0;have Ľ : ∀ {H' : Hp}, (∀ b ∈ fp, H' b = none) -> ∀ b ∈ fp, bK X' [] H' b := λ {H'} hn b hb => by
   subst hX;obtain ⟨⟨_, z1, z2, z3, z4, z5⟩, z6⟩ := Λ b hb;refine ⟨hn b hb, Ë z6, λ q => ?_, .inl hb, λ y c e => z4 y c (S.sub _ _ e), λ p hp => absurd (show p ∈ ([] : List (Addr × Obj)) from hp) (by simp)⟩
   rcases Ï.mp (I3.ř b q) with e | e
   ·exact z1 e
   ·exact z2 e
  have Hc : tn 0 sS.heap := T.keep _ _ _ ο λ b hb o e => old b o (by rw [<- f']; exact Á _ e)
  refine iw (λ n s' => ∃ i ys os H', os.length = ts.length /\ Inv X' [] (os ++ br js σ) H' s' /\ tn i s'.heap /\ (∀ b ∈ fp, H' b = none) /\ W i n ys H') ?_ m0 ⟨0, [], _, _, ç, J0, Hc, λ b hb => (Λ b hb).1.1, w0⟩;rintro n s' ⟨i, ys, os, H', Ņ, Iv, st, fr, w⟩;obtain ⟨hD, alt⟩ := turn i n ys H' w;have eP : X'.prog = X.prog := by subst hX; rfl
  have eW : X'.w = X.w := by subst hX; rfl
  have eK : X'.K = X.K := by subst hX; rfl
  have eC : X'.calm = true := by subst hX; exact hc
  have eA : X'.A = X.A := by subst hX; rfl
  have eE : X'.env = compEnvC sc cl s3.heap.objs.size X.env := by subst hX; rfl
  have eX : X'.xe = λ _ _ => False := by subst hX; rfl
  rcases alt with ⟨stop, q⟩ | ⟨go, ņ, step⟩
  ·have d := T.done X' eP eW eK eC i [] s' _ H' (λ _ _ => False) Iv (Ľ fr) st stop;rw [eA] at d;refine ax d λ r s4 ⟨hr, I4⟩ => ?_;subst hr;obtain ⟨m, hm, _⟩ := id I4.loc;have fC : H' s3.heap.objs.size = none := by
    have z := I4.free;rw [eE] at z;exact z
   rw [eE] at hm;subst hX;have I5 : Inv X pins σ H' s4 := cy (h' := s4.heap) I3 Λ (Å _) I4 ⟨rfl, λ _ _ => rfl⟩;show wpAny _ _ (assign (.Name y py) X.env (.ref s2.heap.objs.size)) _ _ s4;have nC : ∀ b, b < s3.heap.objs.size -> b ≠ s3.heap.objs.size := λ b hb => Ë hb;have nL : X.env.locals ≠ s3.heap.objs.size := nC _ I3.lt;have MF : ∀ z c, X.env.cells.lookup z = some c -> c ≠ s3.heap.objs.size := λ z c e => by
    obtain ⟨v, o, ho, _⟩ := I3.cell z c e;exact nC _ (È ho)
   refine Ir (f9 I5 hN ON hy (v := .ref s2.heap.objs.size) rfl (λ s5 I6 hb => ?_) hf);obtain ⟨a5, NL, OY⟩ := hb;have N6 : s3.heap.objs.size ≠ a5 := by
    rcases OY with e | e
    ·rw [e]; exact nL.symm
    ·exact (MF _ _ e).symm
   refine ⟨m, hm.sameBut NL N6, λ h' Hx => ?_⟩;have I7 : Inv X pins (σ.set iy (some (.ref s2.heap.objs.size))) H' { s5 with heap := h', toks := s5.toks } :=
    I6.turned (h' := h') (t' := s5.toks) (it := s3.heap.objs.size) (λ b o hb e => (Hx.2 b hb).trans e) fC nL.symm (.inr I3.sz) MF λ p hp => by
     obtain ⟨e1, _⟩ := I3.pin p hp;exact nC _ (È e1)
   exact ⟨_, H', I7, q⟩
  ·have d := T.item X' eP eW eK eC i [] s' _ H' (λ _ _ => False) Iv (Ľ fr) st go;rw [eA] at d;refine ax d λ r s4 ⟨u, hr, h4⟩ => ?_;subst hr;refine ax h4 λ _ s5 ⟨y, H5, I5, r5, y5, Δ, HA⟩ => ?_;have HE := I5.pinned (Ľ HA) (T.obj _ _ Δ);have IR : PG X' tg g := by subst hX; exact hg _ _ _ _
   have g6 := IR _ s5 _ H5 y u _ HE r5 (step y H5 y5 os Ņ);rw [eP, eW, eA, eE, eX] at g6;refine ax g6 λ _ s6 ⟨Ij, H6, I6, ⟨ı, k_, e6⟩, IB⟩ => ?_;subst e6;have Ox : PT X' c tt := by subst hX; exact ht _ _ _ _
   have g0 := Ox _ s6 _ H6 _ I6 IB;rw [eP, eW, eA, eE, eX] at g0;refine ax g0 λ k sk ⟨Hk, Ik, qk⟩ => ?_;cases k with
   | false =>
    obtain ⟨m', GI, w7⟩ := qk.1 rfl;refine ⟨λ _ => ?_, λ z => nomatch z⟩;refine ⟨m', GI, i + 1, ys, ı, _, k_, Ik.Ĥ, T.keep _ _ _ Δ λ b hb o e => (Ik.pin (b, o) (Ä _ (Ä _ (ar hb e)))).1, λ b hb => ?_, w7⟩;obtain ⟨o', e', _⟩ := T.obj _ _ Δ b hb;exact (Ik.pin (b, o') (Ä _ (Ä _ (ar hb e')))).2.1
   | true =>
   refine ⟨λ z => (nomatch z), λ _ => ?_⟩;have HP : PE X' elt te := by subst hX; exact he _ _ _ _
   have g7 := HP _ sk _ Hk _ Ik (qk.2 rfl);rw [eP, eW, eA, eE, eX] at g7;refine ax g7 λ uv s7 ⟨v7, H7, I7, r7, IS, m', GI, w7⟩ => ?_;have g8 := (bo (X := X')) _ s7 _ H7 (.ref s2.heap.objs.size) [v7] (.ref s2.heap.objs.size) [uv] (λ _ H8 => H8 = ao H7 s2.heap.objs.size (.lst (ys ++ [v7]))) I7 rfl (.cons r7 .nil) ⟨_, ys, v7, rfl, rfl, IS, ņ, rfl⟩;rw [eP, eW, eA, eX] at g8;refine ax g8 λ _ s8 ⟨_, H8, I8, _, e8⟩ => ?_;subst e8;refine ⟨m', GI, i + 1, ys ++ [v7], ı, _, k_, I8.Ĥ, T.keep _ _ _ Δ λ b hb o e => (I8.pin (b, o) (Ä _ (Ä _ (ar hb e)))).1, λ b hb => ?_, w7⟩;obtain ⟨o', e', _⟩ := T.obj _ _ Δ b hb;exact (I8.pin (b, o') (Ä _ (Ä _ (ar hb e')))).2.1
 have Hv : tn 0 Ğ := T.keep _ _ _ ο λ b hb o e => old b o (by rw [<- f']; exact Á _ e)
 exact Ħ (loop _ rfl rfl rfl) (T.self _ 0 _ _ _ Hv (loop _ rfl rfl rfl))
end
end My
namespace My
open PySem PySem.W L2
def kR (K : PySem.W.Frag) (n : Nat) (t : t9) : TG := λ v σ H Q => ∃ a xs, v = .ref a /\ ñ K H a xs /\ xs.length = n /\ t xs σ H Q
section
variable {X : Cx} {pos : Pos}
theorem ie {es : List Expr} {k : Nat} {t : t9} {n : Nat} (hc : X.calm = true) (h : zV X es t)
  (hn : (assignEach es X.env).length = n := by rfl) (He : (assignEach es X.env).findIdx? (·.1) = none := by rfl) : PG X (.Tuple es k pos) (kR X.K n t) := by
 intro pins s σ H v u Q I r hw;obtain ⟨a, xs, e1, hq, hl, hw⟩ := hw;subst e1;cases r;obtain ⟨its, rv, ht, hz⟩ := I.list hq;rw [PyProof.Rows.assign_Tuple];refine À (ü ?_);unfold unpack;rw [He, show (assignEach es X.env).length = its.toArray.size by rw [hn, Û, <- rv.length]; exact hl.symm]
 refine À (ï (kun_itemsOf (I.ok.hd hc) ht.isList λ h' hx => ?_));have I1 : Inv X pins σ H { s with heap := h' } := I.kept (t' := s.toks) λ b o e => hx b o (Ë (È e)) e
 exact h pins _ σ H xs _ Q I1 (by simpa using rv) hw
end
section
variable {K : Frag} {te : TE} {g : TG} {k : Nat} {cap : St} {D : Addr} {H1 : Hp} {Q : Hp -> Prop}
theorem f6 {lo : Int} {n : Nat} (Pv : Nat -> List V -> Hp -> Prop) (hz : n < sizeLine) (h0 : Pv 0 [] (ao H1 D (.lst [])))
  (hs : ∀ i ys H, i < n -> ys.length = i -> H D = some (.lst ys) -> Pv i ys H -> ∀ os : St, os.length = k -> ∀ R : VK, (∀ y H4, H4 D = some (.lst ys) -> Pv (i + 1) (ys ++ [y]) (ao H4 D (.lst (ys ++ [y]))) -> R y H4) -> g (.int (lo + i)) (os ++ cap) H λ ġ H0 => (∃ ı : St, ı.length = k /\ ġ = ı ++ cap) /\ te ġ H0 R)
  (hd : ∀ ys H, ys.length = n -> H D = some (.lst ys) -> Pv n ys H -> Q H) :
  ∃ W : Nat -> Nat -> List V -> Hp -> Prop, (∃ m, W 0 m [] (ao H1 D (.lst []))) /\
   ∀ i m ys H2, W i m ys H2 -> H2 D = some (.lst ys) /\ (((uK lo n).stop i H2 /\ Q H2) \/ ((uK lo n).go i H2 /\ ys.length < sizeLine /\
    ∀ x H3, (uK lo n).Ψ i H2 x H3 -> ∀ os : St, os.length = k -> g x (os ++ cap) H3 λ ġ H0 => (∃ ı : St, ı.length = k /\ ġ = ı ++ cap) /\ te ġ H0 λ y H4 => H4 D = some (.lst ys) /\ ∃ m', m' < m /\ W (i + 1) m' (ys ++ [y]) (ao H4 D (.lst (ys ++ [y]))))) := by
 refine ⟨λ i m ys H => m = n - i /\ i <= n /\ ys.length = i /\ H D = some (.lst ys) /\ Pv i ys H, ⟨n, by simp, Nat.zero_le _, rfl, bh, h0⟩, ?_⟩
 rintro i m ys H ⟨rfl, hi, hy, hD, p⟩;refine ⟨hD, ?_⟩;by_cases ŏ : i < n
 ·refine .inr ⟨ŏ, ae, λ x H' y => ?_⟩;obtain ⟨e, y⟩ := y;subst e y;exact λ os Ņ => hs i ys _ ŏ hy hD p os Ņ _ λ z H4 JU p4 => ⟨JU, n - (i + 1), ae, rfl, ŏ, by rw [Ì, hy]; rfl, bh, p4⟩
 ·have e : i = n := ae;subst e;exact .inl ⟨Å _, hd ys H hy hD p⟩
end
section
variable {X : Cx}
theorem cA : ∀ {ns : List Int} {its : List Value}, Vals (ns.map V.int) its -> ∃ xs : List (Int × Tok), its = xs.map (λ p => Value.int p.1 p.2) /\ ns = xs.map (·.1)
 | [], _, r => by cases r; exact ⟨[], rfl, rfl⟩
 | n :: ns, _, r => by
  rw [Í] at r;cases r with
  | cons r1 r2 =>
   obtain ⟨t, rfl⟩ := r1;obtain ⟨xs, e1, e2⟩ := cA r2;exact ⟨(n, t) :: xs, by rw [e1]; rfl, by rw [e2]; rfl⟩
theorem cP {xs : List (Int × Tok)} {i : Nat} (h : i < xs.length) : numAt xs.toArray i = (xs.map (·.1))[i]'(by rw [Æ]; exact h) := by
 simp [numAt, h]
def vm (K : Frag) : List V -> Hp -> VK -> Prop := λ vs H Q => ∃ (l : Addr) (ns : List Int) (m : Int), vs = [.ref l] /\ ñ K H l (ns.map V.int) /\ m ∈ ns /\ (∀ a ∈ ns, m <= a) /\ Q (.int m) H
def vy (K : Frag) : List V -> Hp -> VK -> Prop := λ vs H Q => ∃ (l : Addr) (ns : List Int) (m : Int), vs = [.ref l] /\ ñ K H l (ns.map V.int) /\ m ∈ ns /\ (∀ a ∈ ns, a <= m) /\ Q (.int m) H
theorem pI (hc : X.calm = true) : ce X (.builtin "min") (vm X.K) := by
 intro pins s σ H xs us Q I r h;obtain ⟨l, ns, m, rfl, hl, hm, hle, q⟩ := h;obtain ⟨u, rfl, ru⟩ := cW r;cases (show u = Value.ref l from ru);obtain ⟨its, rv, p, hz⟩ := I.list hl;obtain ⟨xs, rfl, rfl⟩ := cA rv;have e : (xs.map λ p => Value.int p.1 p.2).toArray = intItems xs.toArray := by simp [intItems]
 have hL : s.heap.IsList l (intItems xs.toArray) := by rw [<- e]; exact p.isList
 have GH : 0 < xs.toArray.size := by
  have := b_ hm;rw [Æ] at this
  simpa using this
 refine min_intList (I.ok.hd hc) hL GH λ v h' tk hv hk => ?_;obtain ⟨t, rfl⟩ := intItems_at hv;obtain ⟨h1, h2⟩ := argBest_lt (numAt xs.toArray) (xs.toArray.size - 1);have em : numAt xs.toArray (argBest (λ i j => decide (numAt xs.toArray i < numAt xs.toArray j)) (xs.toArray.size - 1)) = m := by
  have hsz : xs.toArray.size = xs.length := Û ..;refine Int.le_antisymm ?_ ?_
  ·obtain ⟨j, hj, ej⟩ := Ĭ hm;rw [Æ] at hj;have := h2 j ae;rw [cP hj, ej] at this;exact this
  ·rw [cP ae];exact hle _ (İ _)
 rw [em];exact ⟨.int m, H, I.kept hk, ⟨t, rfl⟩, q⟩
theorem oQ (hc : X.calm = true) : ce X (.builtin "max") (vy X.K) := by
 intro pins s σ H xs us Q I r h;obtain ⟨l, ns, m, rfl, hl, hm, hle, q⟩ := h;obtain ⟨u, rfl, ru⟩ := cW r;cases (show u = Value.ref l from ru);obtain ⟨its, rv, p, hz⟩ := I.list hl;obtain ⟨xs, rfl, rfl⟩ := cA rv;have e : (xs.map λ p => Value.int p.1 p.2).toArray = intItems xs.toArray := by simp [intItems]
 have hL : s.heap.IsList l (intItems xs.toArray) := by rw [<- e]; exact p.isList
 have GH : 0 < xs.toArray.size := by
  have := b_ hm;rw [Æ] at this
  simpa using this
 refine max_intList (I.ok.hd hc) hL GH λ v h' tk hv hk => ?_;obtain ⟨t, rfl⟩ := intItems_at hv;obtain ⟨h1, h2⟩ := argBest_gt (numAt xs.toArray) (xs.toArray.size - 1);have em : numAt xs.toArray (argBest (λ i j => decide (numAt xs.toArray i > numAt xs.toArray j)) (xs.toArray.size - 1)) = m := by
  have hsz : xs.toArray.size = xs.length := Û ..;refine Int.le_antisymm ?_ ?_
  ·rw [cP ae];exact hle _ (İ _)
  ·obtain ⟨j, hj, ej⟩ := Ĭ hm;rw [Æ] at hj;have := h2 j ae;rw [cP hj, ej] at this;exact this
 rw [em];exact ⟨.int m, H, I.kept hk, ⟨t, rfl⟩, q⟩
end
end My
namespace My
open PySem PySem.W L2 PyProof.Rows
section
variable {X : Cx} {e : Expr} {te : TE} {pos p1 p2 p3 : Pos}
def nI : R2 := λ x y H Q => ∃ c d, x = .bl c /\ y = .bl d /\ Q (.bl (c != d)) H
theorem pi : fw X (compareOp .IsNot) nI := by
 intro pins s σ H x y v u Q I rx ry h;obtain ⟨c, d, rfl, rfl, k⟩ := h;cases (show v = Value.bool c from rx);cases (show u = Value.bool d from ry);exact PyProof.Rows.isnot_bool ⟨.bl _, H, I, rfl, k⟩
end
end My
namespace My
open PySem PySem.W L2
structure ub (K : Frag) (mg : bE) (D : Addr) (nm fld : Str) (C f : Addr) (fd : FuncData) : Prop where
 cls : Κ K D nm C f
 Qs : mg nm = some (.ref C)
 ok : ∀ (P : Program) (w : World) (base : Heap), az P w K mg base au 1 f fd ["self", fld] (lR C fld)
 bi : Binds K fd ["self", fld] []
structure Df (P : Program) (w : World) (K : Frag) (mg : bE) (base : Heap) (cx : mK) (k : Nat) (nm : Str) (ps : List Str) (sp : Sp) (g : Addr) (gd : FuncData) : Prop where
 G : az P w K mg base cx k g gd ps sp
 b : Binds K gd ps []
 kp : keepIn K (.ref g) = true
 m : mg nm = some (.ref g)
theorem bH {X : Cx} {CX : mK} {k : Nat} {x : Str} {ps : List Str} {sp : Sp} {f : Addr} {fd : FuncData} {E : XK} {e : Expr} {es : List Expr} {t : TA} {p pos : Pos} (A : Df X.prog X.w X.K X.mg X.base CX k x ps sp f fd) (hr : ċ k X.A) (hx : gg CX X E) (ha : PA X (e :: es) t) (hg : Gl X x := by exact rfl) (G7 : (x == ("__debug__" : Str)) = false := by decide) (he : starEach (e :: es) X.env = (false, eval e X.env) :: starEach es X.env := by rfl) (l_ : (backTo pos (starEach es X.env)).any (·.1) = false := by rfl) : PE X (.Call (.Name x p) (e :: es) [] pos) (cC sp [] E t) := gQ A.G hr hg A.m A.kp A.b .nil hx ha G7 he l_
theorem nv {P : Program} {w : World} {X : Cx} : gg (kc P w) X E0 := λ _ _ _ _ _ _ _ h => by
 obtain ⟨_, _, _, _, _, _, _, _, _, _, _, _, _, h⟩ := h;exact h.elim
def vf (C : Addr) (fld : Str) (x : V) (H : Hp) (E : XK) : Prop := ∀ e dx, H e = none -> H dx = none -> dx ≠ e -> E (.ref C) (some e) (ao (ao H dx (.xd [(fld, x)])) e (mQ e C (some dx)))
theorem jS {lo hi : Int} {d : PyData} (h : og lo hi d = true) : ∃ i, d = .int i /\ lo <= i /\ i <= hi := by
 cases d with
 | int i =>
  have h' : (decide (lo <= i) && decide (i <= hi)) = true := h;rw [Ā, ď, ď] at h';exact ⟨i, rfl, h'.1, h'.2⟩
 | _ => cases h
theorem aV {H0 H : Hp} {l : Addr} (o : HO) (x : Ext H0 H) (h : H0 l = none) : Ext H0 (ao H l o) := λ b u e => by
 rw [ah (λ z => by rw [z, h] at e; cases e)]
 exact x b u e
theorem aw {α : Type} {xs : List α} {i : Nat} {x : α} (h : xs[i]? = some x) : xs.take (i + 1) = xs.take i ++ [x] := by
 rw [List.take_succ, h];rfl
def Kept (H H' : Hp) (p : Addr) : Prop := ∀ b o, H b = some o -> b ≠ p -> H' b = some o
theorem Kept.refl (H : Hp) (p : Addr) : Kept H H p := λ _ _ h _ => h
theorem Kept.trans {H H1 H2 : Hp} {p : Addr} (x : Kept H H1 p) (y : Kept H1 H2 p) : Kept H H2 p := λ b o h n => y b o (x b o h n) n
theorem Ext.kept {H H' : Hp} (x : Ext H H') (p : Addr) : Kept H H' p := λ b o h _ => x b o h
def wo (H : Hp) (p : Addr) : Hp := λ b => if b = p then none else H b
theorem qH (H : Hp) (p : Addr) : Ext (wo H p) H := λ b o e => by
 unfold wo at e;split at e
 ·cases e
 ·exact e
theorem vJ {H : Hp} {p b : Addr} {o : HO} (n : b ≠ p) (e : H b = some o) : wo H p b = some o := by unfold wo; rw [É n]; exact e
structure zh (H : Hp) (p : Addr) : Prop where
 ex : ∃ a b c : Int, H p = some (.lst [.int a, .int b, .int c]) /\ 0 <= a /\ 0 <= b /\ 0 <= c /\ c < 2147483647
structure Fi (k n : Nat) (d : PyData) : Prop where
 sh : d.showable = true
 dp : d.depth <= k
 lv : d.leavesShort 64 = true
 bk : d.bulk <= n
theorem xn {i : Int} (h : i.natAbs < 10 ^ 30) : Fi 0 2 (.int i) := by
 refine ⟨?_, by simp [PyData.depth], ?_, by simp [PyData.bulk]⟩
 ·simp only [PyData.showable, decide_eq_true_eq];by_cases z : i.natAbs = 0
  ·rw [z]; decide
  ·exact (Nat.log2_lt z).mpr (ň h aF)
 ·have e := int_text_length_le10 (k := 30) ag h;simp only [PyData.leavesShort, PyData.shown];refine Ç (show (Str.ofString (toString i)).length <= 64 from ?_);rw [ofString_length];omega
theorem q0 {i : Int} (h1 : -1000000000 <= i) (h2 : i <= 1000000000) : Fi 0 2 (.int i) := xn (Ž (show i.natAbs <= 1000000000 by omega) ag)
section
variable {K : Frag} {H : Hp} {D : bQ} {σ : St} {p : Addr}
theorem rC {r : R2} {ta tb : TE} {Q : VK} (h : ta σ H λ x H1 => tb σ H1 λ y H2 => r x y H2 Q) : aZ r ta tb σ H Q := h
theorem sR {H' : Hp} {l : Addr} {o : HO} (k : Kept H H' p) (n : H l = none) : Kept H (ao H' l o) p := λ b u h nb => by
 rw [ah (λ e => by rw [e, n] at h; cases h)]
 exact k b u h nb
theorem gk {te : TE} {i : Nat} {u : TS} (h : te σ H λ v H1 => u D (σ.set i (some v)) H1) : bB (aT te (aP i)) u D σ H := h
end
theorem A7 {H : Hp} {p a : Addr} {o : HO} (h : wo H p a = some o) : a ≠ p := λ e => by
 unfold wo at h;rw [Ô e] at h;cases h
theorem AN {α : Type} {xs : List α} {i : Int} (h0 : 0 <= i) (h : i.toNat < xs.length) : lW xs i = some xs[i.toNat] := by
 have e := vP (Ã h)
 rwa [show ((i.toNat : Nat) : Int) = i by omega] at e
structure GE (p : Addr) (k m : Nat) (te : TE) : Prop where
 h : ∀ (σ : St) (H : Hp) (Q : VK), zh H p -> (∀ v H', Ext H H' -> (∃ d, Ļ (wo H' p) v d /\ Fi k m d) -> Q v H') -> te σ H Q
section
variable {p : Addr} {k m k' m' n : Nat} {te ta tb : TE} {t : TA}
theorem uJ {v : V} {d : PyData} (r : ∀ G, Ļ G v d) (f : Fi k m d) : GE p k m (tC v) := ⟨λ σ H Q bx q => q v H (Ext.refl _) ⟨d, r _, f⟩⟩
theorem ge_int {i : Int} (h1 : -1000000000 <= i) (h2 : i <= 1000000000) : GE p 0 2 (tC (.int i)) := uJ (λ _ => .int _) (q0 h1 h2)
end
theorem yE {t : TA} {σ : St} {H : Hp} {Q : VK} (h : t σ H λ xs H1 => xs.length <= sizeLine /\ ∀ p, H1 p = none -> Q (.ref p) (ao H1 p (.lst xs))) : fe t σ H Q := h
def vQ (K : Frag) : V -> V -> Hp -> VK -> Prop := λ o i H Q => ∃ (p : Addr) (xs : List V) (k : Nat) (v : V), o = .ref p /\ i = .int (k : Nat) /\ ñ K H p xs /\ xs[k]? = some v /\ Q v H
theorem fj {X : Cx} : Cf X (vQ X.K) := by
 intro pins s σ H o i ov iv Q I ro ri h;obtain ⟨p, xs, k, v, rfl, rfl, hq, hv, q⟩ := h;cases (show ov = Value.ref p from ro);obtain ⟨t, rfl⟩ := ri;obtain ⟨its, r, pl, hz⟩ := I.list hq;obtain ⟨u, hu, ru⟩ := r.get hv;exact wpAny_getItem_list pl.isList (x := u) ae (by have := (Ø.mp hu).1; have := r.length; have := ip; simp; omega) (by simpa using hu) ⟨v, H, I, ru, q⟩
theorem gw (val : Nat -> Int) (ns : List Int) (h : ∀ (i : Nat) (hi : i < ns.length), val i = ns[i]) : ∀ k, k <= ns.length -> preSum val k = (ns.take k).sum
 | 0, _ => by simp [preSum]
 | k + 1, hk => by
  have ih := gw val ns h k ae;have e : ns.take (k + 1) = ns.take k ++ [ns[k]] := aw (Ã ae);show preSum val k + val k = _;rw [ih, h k ae, e, List.sum_append];simp
section
variable {X : Cx}
def jh (K : Frag) : List V -> Hp -> VK -> Prop := λ vs H Q => ∃ (l : Addr) (ns : List Int), vs = [.ref l] /\ ñ K H l (ns.map V.int) /\ Q (.int ns.sum) H
theorem fX (hc : X.calm = true) : ce X (.builtin "sum") (jh X.K) := by
 intro pins s σ H xs us Q I r h;obtain ⟨l, ns, rfl, hl, q⟩ := h;obtain ⟨u, rfl, ru⟩ := cW r;cases (show u = Value.ref l from ru);obtain ⟨its, rv, p, hz⟩ := I.list hl;obtain ⟨xs, rfl, rfl⟩ := cA rv;have e : (xs.map λ p => Value.int p.1 p.2).toArray = intItems xs.toArray := by simp [intItems]
 have hL : s.heap.IsList l (intItems xs.toArray) := by rw [<- e]; exact p.isList
 refine sum_intListG (I.ok.hd hc) hL λ h' tk t' hk => ?_;have es : preSum (numAt xs.toArray) xs.toArray.size = (xs.map (·.1)).sum := by
  have := gw (numAt xs.toArray) (xs.map (·.1)) (λ i hi => cP (by simpa using hi)) xs.toArray.size (by simp)
  rw [this, a_ (by simp)]
 rw [es];exact ⟨.int _, H, I.kept hk, ⟨t', rfl⟩, q⟩
end
mutual
def cc : PyData -> PyData -> Bool
 | .list xs, .list ys => C_ xs ys
 | .tuple xs, .tuple ys => C_ xs ys
 | .none, .none => true
 | .bool a, .bool b => a == b
 | .bool a, .int j => (if a then (1 : Int) else 0) == j
 | .int i, .bool b => i == (if b then (1 : Int) else 0)
 | .int i, .int j => i == j
 | .str x, .str y => x == y
 | _, _ => false
def C_ : List PyData -> List PyData -> Bool
 | [], [] => true
 | x :: xs, y :: ys => cc x y && C_ xs ys
 | _, _ => false
end
mutual
def aL : PyData -> Bool
 | .list xs => ĺ xs
 | .tuple xs => ĺ xs
 | .dict _ => false
 | _ => true
def ĺ : List PyData -> Bool
 | [] => true
 | x :: xs => aL x && ĺ xs
end
mutual
theorem km : ∀ {d : PyData}, aL d = true -> cc d d = true
 | .none, _ => by simp [cc]
 | .bool b, _ => by simp [cc]
 | .int i, _ => by simp [cc]
 | .str x, _ => by simp [cc]
 | .list xs, h => by simp only [cc]; exact ű (by simpa only [aL] using h)
 | .tuple xs, h => by simp only [cc]; exact ű (by simpa only [aL] using h)
 | .dict _, h => by simp [aL] at h
theorem ű : ∀ {ds : List PyData}, ĺ ds = true -> C_ ds ds = true
 | [], _ => by simp [C_]
 | d :: ds, h => by
  simp only [ĺ, Bool.and_eq_true] at h;simp only [C_, km h.1, ű h.2, Bool.and_self]
end
mutual
theorem Ļ.det {G : Hp} : ∀ {v : V} {d e : PyData}, Ļ G v d -> Ļ G v e -> d = e
 | _, _, _, .ĉ, r => by cases r; rfl
 | _, _, _, .bl b, r => by cases r; rfl
 | _, _, _, .int i, r => by cases r; rfl
 | _, _, _, .str x, r => by cases r; rfl
 | _, _, _, .lst h t, r => by
  cases r with
  | lst h' t' => rw [h] at h'; cases h'; rw [Ć.det t t']
  | tup h' _ => rw [h] at h'; cases h'
  | Ι h' => rw [h] at h'; cases h'
  | G9 h' _ => rw [h] at h'; cases h'
 | _, _, _, .tup h t, r => by
  cases r with
  | lst h' _ => rw [h] at h'; cases h'
  | tup h' t' => rw [h] at h'; cases h'; rw [Ć.det t t']
  | Ι h' => rw [h] at h'; cases h'
  | G9 h' _ => rw [h] at h'; cases h'
 | _, _, _, .Ι h, r => by
  cases r with
  | lst h' _ => rw [h] at h'; cases h'
  | tup h' _ => rw [h] at h'; cases h'
  | Ι h' => rfl
  | G9 h' _ => rw [h] at h'; cases h'
 | _, _, _, .G9 h t, r => by
  cases r with
  | lst h' _ => rw [h] at h'; cases h'
  | tup h' _ => rw [h] at h'; cases h'
  | Ι h' => rw [h] at h'; cases h'
  | G9 h' t' => rw [h] at h'; cases h'; rw [Ļ.det t t']
theorem Ć.det {G : Hp} : ∀ {vs : List V} {ds es : List PyData}, Ć G vs ds -> Ć G vs es -> ds = es
 | _, _, _, .nil, r => by cases r; rfl
 | _, _, _, .cons h t, r => by
  cases r with
  | cons h' t' => rw [Ļ.det h h', Ć.det t t']
end
theorem iO : ∀ (xs ys : List PyData), ((List.range (min xs.length ys.length)).all (λ j => cc (xs.getD j .none) (ys.getD j .none)) && xs.length == ys.length) = C_ xs ys
 | [], [] => by simp [C_]
 | [], y :: ys => by simp [C_]
 | x :: xs, [] => by simp [C_]
 | x :: xs, y :: ys => by
  have ih := iO xs ys;simp only [C_];rw [<- ih, Ñ, Ñ, Nat.succ_min_succ, ĳ, Ĺ, G0, Bool.and_assoc]
  congr 1
  rw [show (xs.length + 1 == ys.length + 1) = (xs.length == ys.length) from by simp]
  rfl
section
variable {X : Cx}
def EF (H : Hp) (n : Nat) (x y : V) (b : Bool) : Prop := (∃ a, x = .ref a /\ y = .ref a /\ b = true) \/ ∃ d e, Ļ H x d /\ Ļ H y e /\ aL d = true /\ aL e = true /\ d.depth <= n /\ b = cc d e
structure Fv (A : Around) (s : Shared) (u v : Value) (b : Bool) : Prop where
 eq : SeqAt.RcAt A s u v b
 ne : SeqAt.RcNeAt A s u v (!b)
structure FK (A : Around) (s : Shared) (u v : Value) (b : Bool) : Prop where
 eq : SeqAt.RcAt A s u v b
 ne : SeqAt.RcNeAt A s u v (!b)
 at_ : SeqAt.EqAt A s u v b
theorem sV {A : Around} {s : Shared} {p q : Addr} {its Ű : List Value} (hu : A.units < cLine) (t1 : s.heap.IsTuple p its.toArray) (t2 : s.heap.IsTuple q Ű.toArray) (e : Nat -> Bool) (he : ∀ j (h1 : j < its.length) (h2 : j < Ű.length), SeqAt.EqAt A.in1 s its[j] Ű[j] (e j)) :
  Fv A s (.ref p) (.ref q) ((List.range (min its.length Ű.length)).all e && its.length == Ű.length) := by
 have h' : ∀ j (h1 : j < its.toArray.size) (h2 : j < Ű.toArray.size), SeqAt.EqAt A.in1 s its.toArray[j] Ű.toArray[j] (e j) := λ j h1 h2 => by
  simpa using he j (by simpa using h1) (by simpa using h2)
 have a := SeqAt.RcAt.tuples (e := e) t1 t2 hu h';have b := SeqAt.RcNeAt.tuples (e := e) t1 t2 hu h';rw [Û, Û] at a b;exact ⟨a, b⟩
theorem uh {A : Around} {s : Shared} {p q : Addr} {its Ű : List Value} (hu : A.units < cLine) (t1 : s.heap.IsList p its.toArray) (t2 : s.heap.IsList q Ű.toArray) (e : Nat -> Bool) (he : ∀ j (h1 : j < its.length) (h2 : j < Ű.length), SeqAt.EqAt A.in1 s its[j] Ű[j] (e j)) :
  Fv A s (.ref p) (.ref q) ((List.range (min its.length Ű.length)).all e && its.length == Ű.length) := by
 have h' : ∀ j (h1 : j < its.toArray.size) (h2 : j < Ű.toArray.size), SeqAt.EqAt A.in1 s its.toArray[j] Ű.toArray[j] (e j) := λ j h1 h2 => by
  simpa using he j (by simpa using h1) (by simpa using h2)
 by_cases sz : its.length = Ű.length
 ·have a := SeqAt.RcAt.lists (e := e) t1 t2 (by simpa using sz) hu h'
  have b := SeqAt.RcNeAt.lists (e := e) t1 t2 (by simpa using sz) hu h'
  rw [Û] at a b;have z : ((List.range (min its.length Ű.length)).all e && its.length == Ű.length) = (List.range its.length).all e := by
   rw [sz, Nat.min_self];simp
  rw [z];exact ⟨a, b⟩
 ·have z : ((List.range (min its.length Ű.length)).all e && its.length == Ű.length) = false := by
   rw [show (its.length == Ű.length) = false from by simpa using sz]
   simp
  rw [z];exact ⟨SeqAt.RcAt.lists_lengths t1 t2 (by simpa using sz) hu, SeqAt.RcNeAt.lists_lengths t1 t2 (by simpa using sz) hu⟩
theorem tU {xs : List V} {its : List Value} (r : Vals xs its) {j : Nat} (h : j < its.length) : ∃ x, xs[j]? = some x /\ RelV x its[j] := by
 have k : j < xs.length := by rw [r.length]; exact h
 obtain ⟨u, e, q⟩ := r.get (Ã k);rw [Ã h] at e;cases e;exact ⟨_, Ã k, q⟩
mutual
theorem r6 {pins : List (Addr × Obj)} {σ : St} {H : Hp} {s : Shared} (I : Inv X pins σ H s) : ∀ {x : V} {d : PyData}, Ļ H x d -> ∀ {A : Around} {y : V} {e : PyData} {u v : Value}, Ļ H y e -> aL d = true -> aL e = true -> A.units + d.depth < cLine -> RelV x u -> RelV y v -> FK A s u v (cc d e)
 | _, _, .ĉ, A, y, e, u, v, ry, pd, pe, hu, ru, rv => by
  have h0 : A.units < cLine := ae;cases ru;cases ry with
  | ĉ => cases rv; simp only [cc]; exact ⟨.none_none, .none_none, .same _⟩
  | bl b => cases rv; simp only [cc]; exact ⟨.none_bool _, .none_bool _, .none_bool _⟩
  | int j => obtain ⟨t, rfl⟩ := rv; simp only [cc]; exact ⟨.none_int _ _, .none_int _ _, .none_int _ _⟩
  | str z => obtain ⟨t, rfl⟩ := rv; simp only [cc]; exact ⟨.none_str _ _, .none_str _ _, .none_str _ _⟩
  | lst h _ => cases rv; obtain ⟨its, _, t, _⟩ := I.list (ñ.of (K := X.K) h); simp only [cc]; exact ⟨.none_list t.isList h0, .none_list t.isList h0, .none_list t.isList h0⟩
  | tup h _ => cases rv; obtain ⟨its, _, t, _⟩ := I.tuple (ą.of (K := X.K) h); simp only [cc]; exact ⟨.none_tuple t h0, .none_tuple t h0, .none_tuple t h0⟩
  | Ι _ => simp [aL] at pe
  | G9 _ _ => simp [aL] at pe
 | _, _, .bl a, A, y, e, u, v, ry, pd, pe, hu, ru, rv => by
  have h0 : A.units < cLine := ae;cases ru;cases ry with
  | ĉ => cases rv; simp only [cc]; exact ⟨.bool_none _, .bool_none _, .bool_none _⟩
  | bl b => cases rv; simp only [cc]; exact ⟨.bool_bool _ _, .bool_bool _ _, .bool_bool _ _⟩
  | int j => obtain ⟨t, rfl⟩ := rv; simp only [cc]; exact ⟨.bool_int _ _ _, .bool_int _ _ _, .bool_int _ _ _⟩
  | str z => obtain ⟨t, rfl⟩ := rv; simp only [cc]; exact ⟨.bool_str _ _ _, .bool_str _ _ _, .bool_str _ _ _⟩
  | lst h _ => cases rv; obtain ⟨its, _, t, _⟩ := I.list (ñ.of (K := X.K) h); simp only [cc]; exact ⟨.bool_list _ t.isList h0, .bool_list _ t.isList h0, .bool_list _ t.isList h0⟩
  | tup h _ => cases rv; obtain ⟨its, _, t, _⟩ := I.tuple (ą.of (K := X.K) h); simp only [cc]; exact ⟨.bool_tuple _ t h0, .bool_tuple _ t h0, .bool_tuple _ t h0⟩
  | Ι _ => simp [aL] at pe
  | G9 _ _ => simp [aL] at pe
 | _, _, .int i, A, y, e, u, v, ry, pd, pe, hu, ru, rv => by
  have h0 : A.units < cLine := ae;obtain ⟨tu, rfl⟩ := ru;cases ry with
  | ĉ => cases rv; simp only [cc]; exact ⟨.int_none _ _, .int_none _ _, .int_none _ _⟩
  | bl b => cases rv; simp only [cc]; exact ⟨.int_bool _ _ _, .int_bool _ _ _, .int_bool _ _ _⟩
  | int j => obtain ⟨t, rfl⟩ := rv; simp only [cc]; exact ⟨.int_int _ _ _ _, .int_int _ _ _ _, .int_int _ _ _ _⟩
  | str z => obtain ⟨t, rfl⟩ := rv; simp only [cc]; exact ⟨.int_str _ _ _ _, .int_str _ _ _ _, .int_str _ _ _ _⟩
  | lst h _ => cases rv; obtain ⟨its, _, t, _⟩ := I.list (ñ.of (K := X.K) h); simp only [cc]; exact ⟨.int_list _ _ t.isList h0, .int_list _ _ t.isList h0, .int_list _ _ t.isList h0⟩
  | tup h _ => cases rv; obtain ⟨its, _, t, _⟩ := I.tuple (ą.of (K := X.K) h); simp only [cc]; exact ⟨.int_tuple _ _ t h0, .int_tuple _ _ t h0, .int_tuple _ _ t h0⟩
  | Ι _ => simp [aL] at pe
  | G9 _ _ => simp [aL] at pe
 | _, _, .str x, A, y, e, u, v, ry, pd, pe, hu, ru, rv => by
  have h0 : A.units < cLine := ae;obtain ⟨tu, rfl⟩ := ru;cases ry with
  | ĉ => cases rv; simp only [cc]; exact ⟨.str_none _ _, .str_none _ _, .str_none _ _⟩
  | bl b => cases rv; simp only [cc]; exact ⟨.str_bool _ _ _, .str_bool _ _ _, .str_bool _ _ _⟩
  | int j => obtain ⟨t, rfl⟩ := rv; simp only [cc]; exact ⟨.str_int _ _ _ _, .str_int _ _ _ _, .str_int _ _ _ _⟩
  | str z => obtain ⟨t, rfl⟩ := rv; simp only [cc]; exact ⟨.str_str _ _ _ _, .str_str _ _ _ _, .str_str _ _ _ _⟩
  | lst h _ => cases rv; obtain ⟨its, _, t, _⟩ := I.list (ñ.of (K := X.K) h); simp only [cc]; exact ⟨.str_list _ _ t.isList h0, .str_list _ _ t.isList h0, .str_list _ _ t.isList h0⟩
  | tup h _ => cases rv; obtain ⟨its, _, t, _⟩ := I.tuple (ą.of (K := X.K) h); simp only [cc]; exact ⟨.str_tuple _ _ t h0, .str_tuple _ _ t h0, .str_tuple _ _ t h0⟩
  | Ι _ => simp [aL] at pe
  | G9 _ _ => simp [aL] at pe
 | _, _, .lst (a := a') (xs := xs) (ds := ds) h rs, A, y, e, u, v, ry, pd, pe, hu, ru, rv => by
  have h0 : A.units < cLine := ae;cases ru;obtain ⟨its, r1, t1, _⟩ := I.list (ñ.of (K := X.K) h);cases ry with
  | ĉ => cases rv; simp only [cc]; exact ⟨.list_none t1.isList h0, .list_none t1.isList h0, .list_none t1.isList h0⟩
  | bl b => cases rv; simp only [cc]; exact ⟨.list_bool _ t1.isList h0, .list_bool _ t1.isList h0, .list_bool _ t1.isList h0⟩
  | int j => obtain ⟨t, rfl⟩ := rv; simp only [cc]; exact ⟨.list_int _ _ t1.isList h0, .list_int _ _ t1.isList h0, .list_int _ _ t1.isList h0⟩
  | str z => obtain ⟨t, rfl⟩ := rv; simp only [cc]; exact ⟨.list_str _ _ t1.isList h0, .list_str _ _ t1.isList h0, .list_str _ _ t1.isList h0⟩
  | @lst b' ys es h' ts =>
   cases rv;obtain ⟨Ű, r2, t2, _⟩ := I.list (ñ.of (K := X.K) h');have LZ : ĺ ds = true := by simpa only [aL] using pd
   have NR : ĺ es = true := by simpa only [aL] using pe
   have dd : A.in1.units + PyData.depthAll ds < cLine := by rw [in1_units]; simp only [PyData.depth] at hu; omega
   have k := uh h0 t1.isList t2.isList (λ j => cc (ds.getD j .none) (es.getD j .none)) (λ j h1 h2 => GJ I rs ts LZ NR dd r1 r2 h1 h2);rw [<- r1.length, <- r2.length, rs.length, ts.length, iO] at k;simp only [cc];refine ⟨k.eq, k.ne, ?_⟩;by_cases e : a' = b'
   ·subst e;rw [h] at h';cases h';have := Ć.det rs ts;subst this;rw [ű LZ];exact Š _
   ·exact .of_refs e k.eq
  | tup h' _ => cases rv; obtain ⟨Ű, _, t, _⟩ := I.tuple (ą.of (K := X.K) h'); simp only [cc]; exact ⟨.list_tuple t1.isList t h0, .list_tuple t1.isList t h0, .list_tuple t1.isList t h0⟩
  | Ι _ => simp [aL] at pe
  | G9 _ _ => simp [aL] at pe
 | _, _, .tup (a := a') (xs := xs) (ds := ds) h rs, A, y, e, u, v, ry, pd, pe, hu, ru, rv => by
  have h0 : A.units < cLine := ae;cases ru;obtain ⟨its, r1, t1, _⟩ := I.tuple (ą.of (K := X.K) h);cases ry with
  | ĉ => cases rv; simp only [cc]; exact ⟨.tuple_none t1 h0, .tuple_none t1 h0, .tuple_none t1 h0⟩
  | bl b => cases rv; simp only [cc]; exact ⟨.tuple_bool _ t1 h0, .tuple_bool _ t1 h0, .tuple_bool _ t1 h0⟩
  | int j => obtain ⟨t, rfl⟩ := rv; simp only [cc]; exact ⟨.tuple_int _ _ t1 h0, .tuple_int _ _ t1 h0, .tuple_int _ _ t1 h0⟩
  | str z => obtain ⟨t, rfl⟩ := rv; simp only [cc]; exact ⟨.tuple_str _ _ t1 h0, .tuple_str _ _ t1 h0, .tuple_str _ _ t1 h0⟩
  | @tup b' ys es h' ts =>
   cases rv;obtain ⟨Ű, r2, t2, _⟩ := I.tuple (ą.of (K := X.K) h');have LZ : ĺ ds = true := by simpa only [aL] using pd
   have NR : ĺ es = true := by simpa only [aL] using pe
   have dd : A.in1.units + PyData.depthAll ds < cLine := by rw [in1_units]; simp only [PyData.depth] at hu; omega
   have k := sV h0 t1 t2 (λ j => cc (ds.getD j .none) (es.getD j .none)) (λ j h1 h2 => GJ I rs ts LZ NR dd r1 r2 h1 h2);rw [<- r1.length, <- r2.length, rs.length, ts.length, iO] at k;simp only [cc];refine ⟨k.eq, k.ne, ?_⟩;by_cases e : a' = b'
   ·subst e;rw [h] at h';cases h';have := Ć.det rs ts;subst this;rw [ű LZ];exact Š _
   ·exact .of_refs e k.eq
  | lst h' _ => cases rv; obtain ⟨Ű, _, t, _⟩ := I.list (ñ.of (K := X.K) h'); simp only [cc]; exact ⟨.tuple_list t1 t.isList h0, .tuple_list t1 t.isList h0, .tuple_list t1 t.isList h0⟩
  | Ι _ => simp [aL] at pe
  | G9 _ _ => simp [aL] at pe
 | _, _, .Ι _, _, _, _, _, _, _, pd, _, _, _, _ => by simp [aL] at pd
 | _, _, .G9 _ _, _, _, _, _, _, _, pd, _, _, _, _ => by simp [aL] at pd
theorem GJ {pins : List (Addr × Obj)} {σ : St} {H : Hp} {s : Shared} (I : Inv X pins σ H s) : ∀ {xs : List V} {ds : List PyData}, Ć H xs ds -> ∀ {A : Around} {ys : List V} {es : List PyData} {its Ű : List Value}, Ć H ys es -> ĺ ds = true -> ĺ es = true -> A.units + PyData.depthAll ds < cLine -> Vals xs its -> Vals ys Ű ->
  ∀ {j : Nat} (h1 : j < its.length) (h2 : j < Ű.length), SeqAt.EqAt A s its[j] Ű[j] (cc (ds.getD j .none) (es.getD j .none))
 | _, _, .nil, A, ys, es, its, Ű, ts, pd, pe, hu, r1, r2, j, h1, h2 => by cases r1; exact absurd h1 (HV _)
 | _, _, .cons (v := x) (d := d) r rs, A, ys, es, its, Ű, ts, pd, pe, hu, r1, r2, j, h1, h2 => by
  cases ts with
  | nil => cases r2; exact absurd h2 (HV _)
  | cons r' ts =>
   cases r1 with
   | cons q1 r1 =>
    cases r2 with
    | cons q2 r2 =>
     simp only [ĺ, Bool.and_eq_true] at pd pe;simp only [PyData.depthAll] at hu;cases j with
     | zero =>
      exact (r6 I r (A := A) r' pd.1 pe.1 ae q1 q2).at_
     | succ j => exact GJ I rs (A := A) ts pd.2 pe.2 ae r1 r2 (by simpa using h1) (by simpa using h2)
end
theorem xJ {pins : List (Addr × Obj)} {σ : St} {H : Hp} {s : Shared} {A : Around} {n : Nat} {x y : V} {b : Bool} {u v : Value} (I : Inv X pins σ H s) (h : EF H n x y b) (hu : A.units + n < cLine) (ru : RelV x u) (rv : RelV y v) : SeqAt.EqAt A s u v b := by
 rcases h with ⟨a, rfl, rfl, rfl⟩ | ⟨d, e, r1, r2, p1, p2, dd, rfl⟩
 ·cases (show u = Value.ref a from ru);cases (show v = Value.ref a from rv);exact Š _
 ·exact (r6 I r1 r2 p1 p2 ae ru rv).at_
end
end My
namespace My
open PySem PySem.W L2
abbrev TJ := Str -> St -> Hp -> (Str -> Hp -> Prop) -> Prop
def oD : Option Nat -> PyData
 | some n => .int n
 | none => .none
section
variable {prog : Program} {w : World} {A : Around} {E : bM} {s : Shared} {it d : Addr} {i ep : Nat} {es : Array DictEntry} {od : Obj} {ok ov : Value} {e : DictEntry}
theorem gS (d : Addr) : ¬ ((Value.ref d == Value.none) = true) := Ð
theorem mT : Builtin.Dict_items.ownsTuple "dict_itemiterator" = true := ag
theorem qJ {Q : Option Value -> Shared -> Prop} (hi : IsItemIter s.heap it d i es.size ep ok ov) (ho : s.heap.get? d = some od) (G6 : od.data = .dict es ep) (he : es[i]? = some e)
  (k : ∀ h', IsItemIterOut h' it d (i + 1) es.size ep e.key e.val s.heap.objs.size -> h'.get? s.heap.objs.size = some { cls := .type "tuple", data := .seq #[e.key, e.val] } -> (∀ b o, b ≠ it -> s.heap.get? b = some o -> h'.get? b = some o) -> Q (some (.ref s.heap.objs.size)) { s with heap := h' }) : wpAny (model prog w) A (pyNext (.ref it)) Q E s := by
 obtain ⟨hp, gn, dr, tk, os⟩ := s;have T0 : Shared.TypeIs ⟨hp, gn, dr, tk, os⟩ (.ref it) "dict_itemiterator" := ⟨_, hi, rfl⟩;have lt : i < es.size := (ë.mp he).1;have ltI : it < hp.objs.size := È hi;unfold pyNext;refine À (Ň (ć (name := Str.ofString "__next__") T0 Č (ă Č T0 Gf (À (Â (À (À (À (Ķ T0 (Â (À (GT hi rfl ?_)))))))))  (F7 _))));simp only [mT, if_true];show wpAny _ _ (if (Value.ref d == Value.none) = true then _ else _) _ _ _
 rw [É (gS d)];refine À (Â (À (ō ho G6 ?_)));rw [É (by simp)]
 refine À (Â (À (ş ho G6 ?_)));rw [É (by simp)]
 refine Â ?_;simp only [show ¬ ((i : Int) < 0) from by omega, if_false, Int.toNat_natCast, he]
 refine À (À (Ķ T0 (Â (À (F9 T0 ?_)))));show wpAny _ _ (setField (.ref it) 3 (rawInt ((i : Int) + 1)) >>= _) _ _ ⟨hp, gn, dr, tk, os⟩;refine À (ô hi (by simp) λ h1 e1 MR => ?_)
 replace MR : Heap.SameBut it hp h1 := MR;replace e1 : IsItemIter h1 it d (i + 1) es.size ep ok ov := by
  have q : ((i + 1 : Nat) : Int) = (i : Int) + 1 := ae;unfold IsItemIter; rw [q]; simpa [rawInt] using e1
 have T1 : Shared.TypeIs ⟨h1, gn, dr, tk, os⟩ (.ref it) "dict_itemiterator" := ⟨_, e1, rfl⟩;refine À (ï (À (F9 T1 (À (F9 T1 ?_)))));show wpAny _ _ (Builtin.Dict_items.pairFromOwner (.ref it) 6 e.key e.val) _ _ ⟨h1, gn, dr, tk, os⟩;unfold Builtin.Dict_items.pairFromOwner;refine À (wpAny_newTuple ?_);have z1 : h1.objs.size = hp.objs.size := MR.1;have e2 : IsItemIter (h1.push { cls := .type "tuple", data := .seq #[e.key, e.val] }) it d (i + 1) es.size ep ok ov := Á _ e1;have t2 : (h1.push { cls := .type "tuple", data := .seq #[e.key, e.val] }).get? hp.objs.size = some { cls := .type "tuple", data := .seq #[e.key, e.val] } := by rw [<- z1]; exact Ê _ rfl
 have k2 : ∀ b o, b ≠ it -> hp.get? b = some o -> (h1.push { cls := .type "tuple", data := .seq #[e.key, e.val] }).get? b = some o := λ b o hb q => Á _ (MR.extBut b o hb q);show wpAny _ _ (Builtin.Dict_items.ownedTupleIsFree (.ref it) >>= _) _ _ ⟨h1.push { cls := .type "tuple", data := .seq #[e.key, e.val] }, gn, dr, tk, os⟩;rw [z1];generalize h1.push { cls := .type "tuple", data := .seq #[e.key, e.val] } = h2 at e2 t2 k2 ⊢;unfold Builtin.Dict_items.ownedTupleIsFree;refine À (À (ó e2 rfl (x := .none) rfl (Â ?_)));simp only [if_true];refine À (ó e2 rfl (x := ok) rfl (À (ó e2 rfl (x := ov) rfl (À (ô e2 (by simp) λ h3 e3 s3 => ?_)))))
 replace s3 : Heap.SameBut it h2 h3 := s3;replace e3 : IsItemIter h3 it d (i + 1) es.size ep e.key ov := e3;refine À (ô e3 (by simp) λ h4 e4 s4 => ?_)
 replace s4 : Heap.SameBut it h3 h4 := s4;replace e4 : IsItemIter h4 it d (i + 1) es.size ep e.key e.val := e4;refine À (ô e4 (by simp) λ h5 e5 s5 => ?_)
 replace s5 : Heap.SameBut it h4 h5 := s5;replace e5 : IsItemIterOut h5 it d (i + 1) es.size ep e.key e.val hp.objs.size := e5;refine À (ô e5 (by simp) λ h6 e6 s6 => ?_)
 replace s6 : Heap.SameBut it h5 h6 := s6;replace e6 : IsItemIterOut h6 it d (i + 1) es.size ep e.key e.val hp.objs.size := e6;have up : ∀ b o, b ≠ it -> h2.get? b = some o -> h6.get? b = some o := λ b o hb q => s6.extBut b o hb (s5.extBut b o hb (s4.extBut b o hb (s3.extBut b o hb q)));exact À (GR (Â (Â ⟨_, rfl, Â (k h6 e6 (up _ _ (Ź ltI) t2) λ b o hb q => up b o hb (k2 b o hb q))⟩)))
theorem vc {Q : Option Value -> Shared -> Prop} (hh : A.handled = none) (hi : IsItemIter s.heap it d i es.size ep ok ov) (ho : s.heap.get? d = some od) (G6 : od.data = .dict es ep) (he : es.size <= i)
  (k : ∀ h', Heap.ExtBut it s.heap h' -> Q none { s with heap := h' }) : wpAny (model prog w) A (pyNext (.ref it)) Q E s := by
 have T0 : s.TypeIs (.ref it) "dict_itemiterator" := ⟨_, hi, rfl⟩;unfold pyNext;refine À (Ň (ć (name := Str.ofString "__next__") T0 Č (ă Č T0 Gf (À (Â (À (À (À (Ķ T0 (Â (À (GT hi rfl ?_)))))))))  (F7 _))));simp only [mT, if_true];show wpAny _ _ (if (Value.ref d == Value.none) = true then _ else _) _ _ _
 rw [É (gS d)];refine À (Â (À (ō ho G6 ?_)));rw [É (by simp)]
 refine À (Â (À (ş ho G6 ?_)));rw [É (by simp)]
 refine Â ?_;simp only [show ¬ ((i : Int) < 0) from by omega, if_false, Int.toNat_natCast, Array.getElem?_eq_none he]
 refine À (À (Ķ T0 (Â ?_)));show wpAny _ _ (setField (.ref it) 2 .none >>= _) _ _ s;refine À (ū hi rfl (by simp) (wpAny_bind ?_))
 simp only [newExc, newTuple];refine À (Ý (À (m := firstArgMember _ _) (wpAny_of_eq (a := Value.none) (by first | rfl | (simp only [firstArgMember]; rfl)) (Ý ?_ (by size_fits)))) (by size_fits))
 simp only [raiseNew];refine À (wpAny_handled ?_);rw [show A.in1.handled = none from hh];refine À (Â (wpAny_throw (À ?_)));exact Jk (T := "StopIteration") (b := true) ⟨_, Ê _ rfl, rfl⟩ isSubtype_stop (Â (k _ (((Ρ ..).extBut.push _).push _)))
theorem qC {Q : bM} (hT : s.TypeIs (.ref d) "dict") (hd : (d == sysModules) = false) (k : Q (.ref s.heap.objs.size) { s with heap := s.heap.push { cls := .type "dict_items", data := .fields #[.ref d] } }) : wpAny (model prog w) A (call (.builtin "dict.items") [.ref d]) Q E s := by
 have m : MeetsIn prog w (Builtin.«dict.items» ⟨[.ref d], []⟩) (λ _ R s => s.TypeIs (.ref d) "dict" /\ R (.ok (.ret (.ref s.heap.objs.size))) { s with heap := s.heap.push { cls := .type "dict_items", data := .fields #[.ref d] } }) := .of_wp λ A R s ⟨hT, h⟩ => by
  unfold Builtin.«dict.items» Builtin.Dict.noArgs Builtin.Dict.showsAll;refine À (À (GB hT (Â ?_)));show wpAny _ _ ((if (d == sysModules) = true then _ else _) >>= _) _ _ s
  rw [É (by rw [hd]; exact Ð)]
  exact À (Â (À (Ý (Â ⟨_, rfl, h⟩))))
 exact Iu JC hT PySem.F.entry_dict_items (PySem.F.args_dict_items_1 _) m ⟨hT, k⟩
theorem p9 {Q : bM} (hT : s.TypeIs (.ref d) "dict") (hd : (d == sysModules) = false) (k : Q (.ref s.heap.objs.size) { s with heap := s.heap.push { cls := .type "dict_values", data := .fields #[.ref d] } }) : wpAny (model prog w) A (call (.builtin "dict.values") [.ref d]) Q E s := by
 have m : MeetsIn prog w (Builtin.«dict.values» ⟨[.ref d], []⟩) (λ _ R s => s.TypeIs (.ref d) "dict" /\ R (.ok (.ret (.ref s.heap.objs.size))) { s with heap := s.heap.push { cls := .type "dict_values", data := .fields #[.ref d] } }) := .of_wp λ A R s ⟨hT, h⟩ => by
  refine À ?_;unfold Builtin.Dict.noArgs;refine À (GB hT (Â ?_));show wpAny _ _ (Builtin.Dict.showsAll d >>= _) _ _ s;unfold Builtin.Dict.showsAll;show wpAny _ _ ((if (d == sysModules) = true then _ else _) >>= _) _ _ s
  rw [É (by rw [hd]; exact Ð)]
  exact À (Â (À (Ý (Â ⟨_, rfl, h⟩))))
 exact Iu Jm hT PySem.F.entry_dict_values (PySem.F.args_dict_values_1 _) m ⟨hT, k⟩
theorem qz {v : Addr} {Q : bM} (hv : s.heap.IsItemsView v d) (ho : s.heap.get? d = some od) (G6 : od.data = .dict es ep)
  (k : Q (.ref s.heap.objs.size) { s with heap := s.heap.push { cls := .type "dict_itemiterator", data := .fields #[.none, .bool false, .ref d, .int 0 0, .int es.size 0, .int ep 0, .none, .none] } }) : wpAny (model prog w) A (pyIter (.ref v)) Q E s := by
 obtain ⟨oi, IQ, OV, Jv⟩ := id hv;refine Io hv.typeIs HU (ă HU hv.typeIs PySem.F.entry_dict_items_iter ?_ (PySem.F.args_dict_items_iter_1 _));unfold Builtin.«dict_items.__iter__» Builtin.Dict_items.dictOf Builtin.Dict_items.newIterator;refine À (Â (À (À (ó IQ Jv (x := .ref d) rfl (Â (À (À (ō ho G6 (À (ş ho G6 ?_))))))))));simp only [mT, if_true];refine Ý (Â ⟨_, rfl, "dict_itemiterator", _, ⟨_, Ê _ rfl, rfl⟩, Č.lookup, ?_⟩) (by simp only [sizeOk, Builtin.Dict_items.ownedTupleFields, List.size_toArray, List.length_append, List.length_cons, List.length_nil, sizeLine_eq]; omega)
 simpa [rawInt, Builtin.Dict_items.ownedTupleFields] using k
end
def vt : HO -> Prop
 | .dK _ => True
 | .dT _ => True
 | _ => False
def dU : HO -> Nat
 | .dK kvs => kvs.length
 | .dT kvs => kvs.length
 | _ => 0
def rF (H : Hp) (u : HO) (i : Nat) (kx v : V) : Prop :=
 (∃ kvs k, u = .dK kvs /\ kvs[i]? = some (k, v) /\ kx = kV k) \/ ∃ kvs k b, u = .dT kvs /\ kvs[i]? = some (k, v) /\ kx = .ref b /\ H b = some (.tup (k.map kV))
theorem yi {P : Program} {w : World} {k : Key} {u : Value} (h : (aJ P w).is k u = true) : RelV (kV k) u := by
 rw [iu] at h;rcases aE h with ⟨i, t, rfl, rfl⟩ | ⟨x, t, rfl, rfl⟩ | ⟨rfl, rfl⟩
 ·exact ⟨t, rfl⟩
 ·exact ⟨t, rfl⟩
 ·rfl
theorem dj {α β : Type} {R : α -> β -> Prop} : ∀ {xs : List α} {ys : List β}, Paired R xs ys -> ∀ {i : Nat} {y : β}, ys[i]? = some y -> ∃ x, xs[i]? = some x /\ R x y
 | _, _, .nil, i, y, h => by simp at h
 | _, _, .cons r _, 0, y, h => by cases h; exact ⟨_, rfl, r⟩
 | _, _, .cons _ t, i + 1, y, h => dj t h
theorem jQ {P : Program} {w : World} {H : Hp} {h : Heap} {d : Addr} {u : HO} (D : vt u) (o : Ĉ P w H h d u) : ∃ ob es ep, h.get? d = some ob /\ ob.ExactDict /\ ob.data = .dict es ep /\ (d == sysModules) = false /\ es.size = dU u /\ ∀ (i : Nat) e, es[i]? = some e -> ∃ kx v, rF H u i kx v /\ RelV kx e.key /\ RelV v e.val := by
 cases u with
 | dK kvs =>
  obtain ⟨z, hd, vs, rel, ob, es, ep, h1, h2, h3, h4, h5, h6⟩ := o;refine ⟨ob, es, ep, h1, h2, h3, hd, ?_, λ i e he => ?_⟩
  ·have l1 := h5.length;have l2 : kvs.length = vs.length := Ö rel;show es.size = kvs.length;rw [l2, <- l1];simp
  ·have l1 := h5.length;have lt : i < es.size := (ë.mp he).1;have lt' : i < vs.length := by rw [<- l1]; simpa using lt
   have hv := Ã lt';obtain ⟨a1, a2⟩ := h5.get? (e := e) (by simpa using he) (show vs[i]? = some (vs[i].1, vs[i].2) from hv)
   obtain ⟨p, hp, r1, r2⟩ := dj rel hv;refine ⟨kV p.1, p.2, .inl ⟨kvs, p.1, rfl, hp, rfl⟩, ?_, ?_⟩
   ·rw [r1]; exact yi a1
   ·rw [a2]; exact r2
 | dT kvs =>
  obtain ⟨z, hd, xs, rel, ob, es, ep, h1, h2, h3, h4, h5⟩ := o;refine ⟨ob, es, ep, h1, h2, h3, hd, ?_, λ i e he => ?_⟩
  ·have l2 : kvs.length = xs.length := Ö rel;show es.size = kvs.length;rw [l2, <- Array.length_toList, h4, Æ]
  ·have HP : es.toList[i]? = some e := by simpa using he
   rw [h4, Õ] at HP;obtain ⟨x, hx, rfl⟩ := ğ.mp HP;obtain ⟨p, hp, r1, r2, r3⟩ := dj rel hx;exact ⟨.ref x.2.1, p.2, .inr ⟨kvs, p.1, x.2.1, rfl, hp, rfl, r2⟩, rfl, r3⟩
 | _ => exact D.elim
def Fz (H : Hp) (d : Addr) (o : Obj) (u : HO) (H' : Hp) : Prop := H' d = some (.Ν o u) /\ ∀ b, b ≠ d -> H' b = H b
theorem rT {X : Cx} {pins : List (Addr × Obj)} {σ : St} {H : Hp} {s : Shared} {d : Addr} {u : HO} (I : Inv X pins σ H s) (D : vt u) (e : Rd H d u) : ∃ o H', s.heap.get? d = some o /\ Fz H d o u H' /\ Inv X pins σ H' s := by
 rcases e with e | ⟨o, e⟩
 ·have ok := I.Ē d u e;obtain ⟨ob, es, ep, h1, _⟩ := jQ D ok;refine ⟨ob, ao H d (.Ν ob u), h1, ⟨bh, λ b hb => ah hb⟩, ?_⟩;have mu : y8 (H d) := by
   rw [e];cases u with
   | dK kvs => exact True.intro
   | dT kvs => exact True.intro
   | _ => exact D.elim
  have new : Ĉ X.prog X.w (ao H d (.Ν ob u)) s.heap d (.Ν ob u) := by
   refine ⟨h1, ?_⟩;cases u with
   | dK kvs => exact ok
   | dT kvs =>
    obtain ⟨z, hd, xs, rel, r⟩ := ok;refine ⟨z, hd, xs, KT.keeps rel λ c ys ec => ?_, r⟩;rw [ah (λ q => by rw [q, e] at ec; cases ec)]
    exact ec
   | _ => exact D.elim
  exact gR (h' := s.heap) (t' := s.toks) I mu ⟨rfl, λ _ _ => rfl⟩ ⟨ob, h1⟩ new
 ·exact ⟨o, H, (show Ĉ X.prog X.w H s.heap d (.Ν o u) from I.Ē d _ e).1, ⟨e, λ _ _ => rfl⟩, I⟩
def Ap (d : Addr) (o : Obj) (u : HO) : It :=
 ⟨λ i H => H d = some (.Ν o u) /\ i < dU u, λ i H x H' => ∃ p kx v, x = .ref p /\ H p = none /\ rF H u i kx v /\ H' = ao H p (.tup [kx, v]), λ i H => H d = some (.Ν o u) /\ dU u <= i⟩
theorem hW {P : Program} {w : World} {H : Hp} {h : Heap} {d : Addr} {u : HO} {o : Obj} {es : Array DictEntry} {ep : Nat} (D : vt u) (ok : ŷ P w H h) (e : H d = some (.Ν o u)) (hd : o.data = .dict es ep) : h.get? d = some o /\ es.size = dU u /\ ∀ (i : Nat) e, es[i]? = some e -> ∃ kx v, rF H u i kx v /\ RelV kx e.key /\ RelV v e.val := by
 obtain ⟨h0, h1⟩ := (show Ĉ P w H h d (.Ν o u) from ok d _ e);obtain ⟨ob, Ni, Nj, g1, g2, g3, g4, g5, g6⟩ := jQ D h1;rw [h0] at g1;cases g1;rw [hd] at g3;cases g3;exact ⟨h0, g5, g6⟩
theorem pX {P : Program} {w : World} {K : Frag} {elts : List Expr} {x1} {pos : Pos} {d it : Addr} {o : Obj} {u : HO} {es : Array DictEntry} {ep : Nat} (D : vt u) (hd : o.data = .dict es ep) : ki P w K (.Tuple elts x1 pos) (Ap d o u) [it] it (λ i h => ∃ ok ov, IsItemIter h it d i es.size ep ok ov) where
 mem := by simp
 obj := λ i h st b hb => by
  obtain ⟨ok, ov, q⟩ := st;have e : b = it := by simpa using hb
  subst e;exact ⟨_, q, λ v z => by cases z⟩
 keep := λ i h h' st k => let ⟨ok, ov, q⟩ := st; ⟨ok, ov, k it (by simp) _ q⟩
 item := by
  intro X hP hw hK hc i pins s σ H E I hf st hg;subst hP hw hK;obtain ⟨KN, ŏ⟩ := hg;obtain ⟨ok, ov, hi⟩ := st;obtain ⟨ho, hsz, rel⟩ := hW D I.Ē KN hd;obtain ⟨f0, f1, f2, f3, f4, f5⟩ := hf it (by simp)
  have he := Jc (show i < es.size by omega)
  obtain ⟨kx, v, pr, rk, rv⟩ := rel i _ he;generalize es[i]'ae = e at he rk rv;refine qJ hi ho hd he λ h1 JR Jg kk => ⟨_, rfl, wpAny_letOwnedTupleGo_items (s := { s with heap := h1 }) JR λ h2 Ld sb => ?_⟩
  have Jp : Heap.SameBut it h1 h2 := sb;have ltI : it < s.heap.objs.size := È hi;have ne2 : s.heap.objs.size ≠ it := Ź ltI;have Ow : h2.get? s.heap.objs.size = some { cls := .type "tuple", data := .seq #[e.key, e.val] } := (Jp.2 _ ne2).trans Jg
  let hA : Heap := s.heap.update it λ _ => { cls := .type "dict_itemiterator", dict := none, data := .fields #[.none, .bool false, .ref d, .int ((i + 1 : Nat) : Int) 0, .int es.size 0, .int ep 0, e.key, e.val], slots := #[] }
  have IA : Inv X pins σ H { s with heap := hA, toks := s.toks } := I.turned (λ b ob hb q => by
   show hA.get? b = some ob;rw [ß _ _ _ _ hb];exact q) f0 f1 f3 f4 f5
  have NB : hA.objs.size = s.heap.objs.size := u_ _ _ _;refine ⟨.ref s.heap.objs.size, ao H s.heap.objs.size (.tup [kx, v]), ?_, rfl, ⟨_, kx, v, rfl, I.Ē.fresh (Å _), pr, rfl⟩, ⟨_, _, Ld⟩, λ b hb => ?_⟩
  ·refine IA.laid (t' := s.toks) (λ b ob q => ?_) (ω NB) ⟨fk, [e.key, e.val], .cons rk (.cons rv .nil), ⟨_, Ow, rfl, _, rfl⟩⟩;have q' : hA.get? b = some ob := q;by_cases z1 : b = it
   ·subst z1;rw [í _ hi rfl] at q';cases q';exact Ld
   ·rw [ß _ _ _ _ z1] at q';exact (Jp.2 b z1).trans (kk b ob z1 q')
  ·have e' : b = it := by simpa using hb
   subst e';rw [ah (Ne.symm ne2)];exact f0
 done := by
  intro X hP hw hK hc i pins s σ H E I hf st hg;subst hP hw hK;obtain ⟨KN, ŏ⟩ := hg;obtain ⟨ok, ov, hi⟩ := st;obtain ⟨ho, hsz, rel⟩ := hW D I.Ē KN hd;obtain ⟨f0, f1, f2, f3, f4, f5⟩ := hf it (by simp)
  exact vc (I.ok.hd hc) hi ho hd ae λ h' eb => ⟨rfl, I.turned (t' := s.toks) (λ b ob hb q => eb b ob hb q) f0 f1 f3 f4 f5⟩
 self := λ A i s Q E st k => by
  obtain ⟨ok, ov, hi⟩ := st;exact kcp_self hi k
section
variable {X : Cx} {o : Expr} {ż ũ : Pos} {tl : TE}
def Al (tl : TE) : TI := λ σ H R => tl σ H λ x H1 => ∃ d u, x = .ref d /\ vt u /\ Rd H1 d u /\ ∀ ob H2, Fz H1 d ob u H2 -> R (Ap d ob u) H2
theorem qy {P : Program} {w : World} {H : Hp} {h : Heap} {d : Addr} {u : HO} (D : vt u) (ok : ŷ P w H h) (e : Rd H d u) : Ĉ P w H h d u := by
 rcases e with e | ⟨o, e⟩
 ·exact ok d u e
 ·exact (show Ĉ P w H h d (.Ν o u) from ok d _ e).2
theorem sf {elts : List Expr} {x1} {pt : Pos} (ho : PE X o tl) (G8 : attributeBase o "items" X.env (eval o X.env) = eval o X.env := by rfl) (G5 : (ż.endLine == ũ.line) = true := by rfl) : PI X (.Tuple elts x1 pt) (.Call (.Attribute o "items" ż) [] [] ũ) (Al tl) := by
 intro pins s σ H R I h;refine wpAny_Call_method0_late G8 G5 (ax (ho pins s σ H _ I h) λ v s1 ⟨x, H1, I1, r1, q1⟩ => ?_);obtain ⟨d, u, rfl, D, rd, q⟩ := q1;cases (show v = Value.ref d from r1);obtain ⟨ob, es, ep, g1, g2, g3, g4, g5, g6⟩ := jQ D (qy D I1.Ē rd);have hT : s1.TypeIs (.ref d) "dict" := ⟨ob, g1, g2.1⟩;refine ⟨"dict", "dict.items", η, JC, PySem.F.type_dict_items, hT, λ b hb => by cases hb; exact ⟨ob, g1, g2.2.1⟩, ů rfl (PySem.evalArgs_none (qC hT g4 ?_))⟩
 obtain ⟨JK, H2, f1, f2, I2⟩ := rT I1 D rd;have eo : JK = ob := by rw [g1] at f1; exact (Ò f1).symm
 subst eo;refine qz (s := { s1 with heap := s1.heap.push { cls := .type "dict_items", data := .fields #[.ref d] } }) ⟨_, Ê _ rfl, rfl, rfl⟩ (Á _ g1) g3 ?_
 have I3 : Inv X pins σ H2 { s1 with heap := (s1.heap.push { cls := .type "dict_items", data := .fields #[.ref d] }), toks := s1.toks } := I2.kept λ b ob e => Á _ e
 generalize hh : s1.heap.push { cls := .type "dict_items", data := .fields #[.ref d] } = hB at I3 ⊢;refine ⟨hB.objs.size, [hB.objs.size], _, _, H2, rfl, I3.kept (t' := s1.toks) λ b ob e => Á _ e, pX (es := es) (ep := ep) D g3, ⟨.none, .none, ?_⟩, λ b hb => ?_, q _ _ f2⟩
 ·exact Ê _ rfl
 ·have e : b = hB.objs.size := by simpa using hb
  subst e;exact I3.HB (Å _) (I3.Ē.fresh (Å _))
end
theorem uy {d : Addr} {ob : Obj} {u : HO} {g : TG} {tb : TS} {D : bQ} {σ : St} {H : Hp} (Pv : Nat -> St -> Hp -> Prop) (h0 : Pv 0 σ H) (hf : ∀ i σ H, Pv i σ H -> H d = some (.Ν ob u))
  (hs : ∀ i σ H p kx v, i < dU u -> Pv i σ H -> H p = none -> rF H u i kx v -> g (.ref p) σ (ao H p (.tup [kx, v])) λ ġ H2 => tb { D with nx := Pv (i + 1), ct := Pv (i + 1), bk := D.nx } ġ H2) (hd : ∀ σ H, Pv (dU u) σ H -> D.nx σ H) :
  ∃ W : Nat -> Nat -> St -> Hp -> Prop, (∃ m, W 0 m σ H) /\ ∀ i m σ H, W i m σ H ->
   ((Ap d ob u).stop i H /\ D.nx σ H) \/ ((Ap d ob u).go i H /\ ∃ N : St -> Hp -> Prop, (∀ ĝ H', N ĝ H' -> ∃ m', m' < m /\ W (i + 1) m' ĝ H') /\ ∀ x H', (Ap d ob u).Ψ i H x H' -> g x σ H' λ ġ H2 => tb { D with nx := N, ct := N, bk := D.nx } ġ H2) := by
 refine ⟨λ i m σ H => m = dU u - i /\ i <= dU u /\ Pv i σ H, ⟨dU u, by simp, Nat.zero_le _, h0⟩, ?_⟩
 rintro i m σ H ⟨rfl, hi, p⟩;have q := hf i σ H p;by_cases ŏ : i < dU u
 ·refine .inr ⟨⟨q, ŏ⟩, Pv (i + 1), λ ĝ H' n => ⟨dU u - (i + 1), ae, rfl, ŏ, n⟩, ?_⟩;rintro x H' ⟨p', kx, v, rfl, hp, pr, rfl⟩;exact hs i σ H p' kx v ŏ p hp pr
 ·have e : i = dU u := ae;subst e;exact .inl ⟨⟨q, Å _⟩, hd σ H p⟩
section
variable {prog : Program} {w : World} {A : Around} {E : bM} {s : Shared} {it d : Addr} {i ep : Nat} {es : Array DictEntry} {od : Obj} {e : DictEntry}
theorem qP : Builtin.Dict_items.ownsTuple "dict_keyiterator" = false := ag
theorem rB {Q : Option Value -> Shared -> Prop} (hi : s.heap.IsKeyIter it d i es.size ep) (ho : s.heap.get? d = some od) (G6 : od.data = .dict es ep) (he : es[i]? = some e)
  (k : ∀ h', h'.IsKeyIter it d (i + 1) es.size ep -> Heap.SameBut it s.heap h' -> Q (some e.key) { s with heap := h' }) : wpAny (model prog w) A (pyNext (.ref it)) Q E s := by
 obtain ⟨oi, IQ, OV, Jv⟩ := id hi;have T0 := hi.typeIs;unfold pyNext;refine À (Ň (ć (name := Str.ofString "__next__") T0 Đ (ă Đ T0 Gz (À (Â (À (À (À (ľ T0 (Â (À (GT IQ Jv ?_)))))))))  (Gi _))));simp only [qP, Bool.false_eq_true, if_false];show wpAny _ _ (if (Value.ref d == Value.none) = true then _ else _) _ _ _
 rw [É (gS d)];refine À (Â (À (ō ho G6 ?_)));rw [É (by simp)]
 refine À (Â (À (ş ho G6 ?_)));rw [É (by simp)]
 refine Â ?_;simp only [show ¬ ((i : Int) < 0) from by omega, if_false, Int.toNat_natCast, he]
 refine À (À (ľ T0 (Â (À (wpAny_isOneOf_keyiter T0 ?_)))));show wpAny _ _ (setField (.ref it) 1 (rawInt ((i : Int) + 1)) >>= _) _ _ s;have KM : (s.heap.update it (Obj.mapFields (·.setIfInBounds 1 (rawInt ((i : Int) + 1))))).IsKeyIter it d (i + 1) es.size ep :=
  ⟨_, í _ IQ (Obj.isFreed_of_fields (ţ Jv _)), (Obj.cls_mapFields ..).trans OV, by rw [ţ Jv]; simp [rawInt]⟩
 have T1 : Shared.TypeIs { s with heap := s.heap.update it (Obj.mapFields (·.setIfInBounds 1 (rawInt ((i : Int) + 1)))) } (.ref it) "dict_keyiterator" := Heap.IsKeyIter.typeIs (s := { s with heap := s.heap.update it (Obj.mapFields (·.setIfInBounds 1 (rawInt ((i : Int) + 1)))) }) KM
 refine À (ū IQ Jv (by simp) (wpAny_bind (wpAny_holding (wpAny_bind (wpAny_isOneOf_keyiter T1 ?_)))))
 show wpAny _ _ (pure e.key) _ _ _;exact Â (Â ⟨_, rfl, Â (k _ KM (Ρ ..))⟩)
theorem tR {Q : Option Value -> Shared -> Prop} (hh : A.handled = none) (hi : s.heap.IsKeyIter it d i es.size ep) (ho : s.heap.get? d = some od) (G6 : od.data = .dict es ep) (he : es.size <= i)
  (k : ∀ h', Heap.ExtBut it s.heap h' -> Q none { s with heap := h' }) : wpAny (model prog w) A (pyNext (.ref it)) Q E s := by
 obtain ⟨oi, IQ, OV, Jv⟩ := id hi;have T0 := hi.typeIs;unfold pyNext;refine À (Ň (ć (name := Str.ofString "__next__") T0 Đ (ă Đ T0 Gz (À (Â (À (À (À (ľ T0 (Â (À (GT IQ Jv ?_)))))))))  (Gi _))));simp only [qP, Bool.false_eq_true, if_false];show wpAny _ _ (if (Value.ref d == Value.none) = true then _ else _) _ _ _
 rw [É (gS d)];refine À (Â (À (ō ho G6 ?_)));rw [É (by simp)]
 refine À (Â (À (ş ho G6 ?_)));rw [É (by simp)]
 refine Â ?_;simp only [show ¬ ((i : Int) < 0) from by omega, if_false, Int.toNat_natCast, Array.getElem?_eq_none he]
 refine À (À (ľ T0 (Â ?_)));show wpAny _ _ (setField (.ref it) 0 .none >>= _) _ _ s;refine À (ū IQ Jv (by simp) (wpAny_bind ?_))
 simp only [newExc, newTuple];refine À (Ý (À (m := firstArgMember _ _) (wpAny_of_eq (a := Value.none) (by first | rfl | (simp only [firstArgMember]; rfl)) (Ý ?_ (by size_fits)))) (by size_fits))
 simp only [raiseNew];refine À (wpAny_handled ?_);rw [show A.in1.handled = none from hh];refine À (Â (wpAny_throw (À ?_)));exact Jk (T := "StopIteration") (b := true) ⟨_, Ê _ rfl, rfl⟩ isSubtype_stop (Â (k _ (((Ρ ..).extBut.push _).push _)))
theorem qZ {Q : bM} (hT : s.TypeIs (.ref d) "dict") (hd : (d == sysModules) = false) (ho : s.heap.get? d = some od) (G6 : od.data = .dict es ep)
  (k : Q (.ref s.heap.objs.size) { s with heap := s.heap.push { cls := .type "dict_keyiterator", data := .fields #[.ref d, .int 0 0, .int es.size 0, .int ep 0] } }) : wpAny (model prog w) A (pyIter (.ref d)) Q E s := by
 refine Io hT J1 (ă J1 hT PySem.F.entry_dict_iter ?_ (PySem.F.args_dict_iter_1 _));unfold Builtin.«dict.__iter__» Builtin.Dict.dictSlotNone;refine À (À (GB hT (À ?_)));show wpAny _ _ (pure _) _ _ s;refine Â (Â ?_);show wpAny _ _ (Builtin.Dict.showsAll d >>= _) _ _ s;unfold Builtin.Dict.showsAll;show wpAny _ _ ((if (d == sysModules) = true then _ else _) >>= _) _ _ s
 rw [É (by rw [hd]; exact Ð)]
 refine À (Â (À (ō ho G6 (À (ş ho G6 ?_)))));refine À (Ý (Â ⟨_, rfl, "dict_keyiterator", _, ⟨_, Ê _ rfl, rfl⟩, Đ.lookup, ?_⟩))
 simpa [rawInt] using k
end
def E2 (d : Addr) (o : Obj) (u : HO) : It :=
 ⟨λ i H => H d = some (.Ν o u) /\ i < dU u, λ i H x H' => H' = H /\ ∃ v, rF H u i x v, λ i H => H d = some (.Ν o u) /\ dU u <= i⟩
theorem qr {P : Program} {w : World} {K : Frag} {tg : Expr} {d it : Addr} {o : Obj} {u : HO} {es : Array DictEntry} {ep : Nat} (D : vt u) (hd : o.data = .dict es ep) : ki P w K tg (E2 d o u) [it] it (λ i h => h.IsKeyIter it d i es.size ep) where
 mem := by simp
 obj := λ i h st b hb => by
  obtain ⟨oi, q, c, dd⟩ := st;have e : b = it := by simpa using hb
  subst e;exact ⟨oi, q, λ v z => by rw [dd] at z; cases z⟩
 keep := λ i h h' st k => by
  obtain ⟨oi, q, c, dd⟩ := st;exact ⟨oi, k it (by simp) _ q, c, dd⟩
 item := by
  intro X hP hw hK hc i pins s σ H E I hf st hg;subst hP hw hK;obtain ⟨KN, ŏ⟩ := hg;obtain ⟨ho, hsz, rel⟩ := hW D I.Ē KN hd;obtain ⟨f0, f1, f2, f3, f4, f5⟩ := hf it (by simp)
  have he := Jc (show i < es.size by omega)
  obtain ⟨kx, v, pr, rk, rv⟩ := rel i _ he;refine rB st ho hd he λ h1 JR sb => ?_;have I1 : Inv X pins σ H { s with heap := h1 } := I.turned (t' := s.toks) (λ b ob hb q => (sb.2 b hb).trans q) f0 f1 f3 f4 f5
  obtain ⟨oi, q, c, dd⟩ := id JR;exact ⟨_, rfl, oa (s := { s with heap := h1 }) q c dd ag ⟨kx, H, I1, rk, ⟨rfl, v, pr⟩, JR, λ b hb => (hf b hb).1⟩⟩
 done := by
  intro X hP hw hK hc i pins s σ H E I hf st hg;subst hP hw hK;obtain ⟨KN, ŏ⟩ := hg;obtain ⟨ho, hsz, rel⟩ := hW D I.Ē KN hd;obtain ⟨f0, f1, f2, f3, f4, f5⟩ := hf it (by simp)
  exact tR (I.ok.hd hc) st ho hd ae λ h' eb => ⟨rfl, I.turned (t' := s.toks) (λ b ob hb q => eb b ob hb q) f0 f1 f3 f4 f5⟩
 self := λ _ _ _ _ _ st k => wpAny_pyIter_keyiter st k
def ww (tl : TE) : L2.TI := λ σ H R => tl σ H λ x H1 => ∃ d u, x = .ref d /\ vt u /\ Rd H1 d u /\ ∀ ob H2, Fz H1 d ob u H2 -> R (E2 d ob u) H2
theorem jH {X : Cx} {o tg : Expr} {tl : TE} (ho : PE X o tl) : PI X tg o (ww tl) := by
 intro pins s σ H R I h;refine ax (ho pins s σ H _ I h) λ v s1 ⟨x, H1, I1, r1, q1⟩ => ?_;obtain ⟨d, u, rfl, D, rd, q⟩ := q1;cases (show v = Value.ref d from r1);obtain ⟨ob, es, ep, g1, g2, g3, g4, g5, g6⟩ := jQ D (qy D I1.Ē rd);have hT : s1.TypeIs (.ref d) "dict" := ⟨ob, g1, g2.1⟩;obtain ⟨JK, H2, f1, f2, I2⟩ := rT I1 D rd;have eo : JK = ob := by rw [g1] at f1; exact (Ò f1).symm
 subst eo;refine qZ hT g4 g1 g3 ?_;refine ⟨s1.heap.objs.size, [s1.heap.objs.size], _, _, H2, rfl, I2.kept (t' := s1.toks) λ b ob e => Á _ e, qr (es := es) (ep := ep) D g3, ⟨_, Ê _ rfl, rfl, rfl⟩, λ b hb => ?_, q _ _ f2⟩;have e : b = s1.heap.objs.size := by simpa using hb
 subst e;exact I2.HB (Å _) (I2.Ē.fresh (Å _))
section
variable {X : Cx} {pins : List (Addr × Obj)} {σ : St} {H : Hp} {s : Shared} {d : Addr} {kvs : List (Key × V)}
theorem vK (I : Inv X pins σ H s) (e : Rd H d (.dK kvs)) : kvs.length <= sizeLine /\ (d == sysModules) = false /\ ∃ vs ep, KV kvs vs /\ Heap.DictAt (aJ X.prog X.w) s.heap d vs ep := by
 obtain ⟨z, hd, vs, rel, o⟩ := gy I.Ē e;obtain ⟨ep, at'⟩ := o.dictAt;exact ⟨z, hd, vs, ep, rel, at'⟩
def Ay (p d : Addr) : HO := .ext λ h => h.IsValuesView p d
def ua : V -> List V -> Hp -> VK -> Prop := λ x vs H Q => ∃ (d : Addr) (kvs : List (Key × V)), x = .ref d /\ vs = [] /\ Rd H d (.dK kvs) /\ ∀ p, H p = none -> Q (.ref p) (ao H p (Ay p d))
theorem pc : Dr X "dict.values" ua := by
 intro pins s σ H x vs v us Q I rx rv h;obtain ⟨d, kvs, rfl, rfl, e, q⟩ := h;cases rx;cases rv;obtain ⟨z, hd, vs, ep, rel, at'⟩ := vK I e;obtain ⟨o, es, ho, hx, _⟩ := id at';refine p9 ⟨o, ho, hx.1⟩ hd ?_;exact ⟨.ref s.heap.objs.size, _, I.laid (t' := s.toks) (λ b o e => Á _ e) (Å _) (show Ĉ X.prog X.w _ _ _ (Ay _ d) from ⟨⟨_, Ê _ rfl, rfl, rfl⟩, ⟨_, Ê _ rfl⟩, λ h1 h2 p k => by
  obtain ⟨o, e, r⟩ := p;exact ⟨o, k _ e, r⟩⟩), rfl, q _ (I.Ē.fresh (Å _))⟩
theorem jW : ∀ ns : List Int, preSum (λ i => ns.getD i 0) ns.length = ns.sum
 | [] => rfl
 | n :: ns => by
  show preSum (λ i => (n :: ns).getD i 0) (ns.length + 1) = _;rw [kdu_shift, Ī, <- jW ns];rfl
def vR : List V -> Hp -> VK -> Prop := λ xs H Q => ∃ (p d : Addr) (kvs : List (Key × V)) (ns : List Int), xs = [.ref p] /\ H p = some (Ay p d) /\ Rd H d (.dK kvs) /\ (kvs.map (·.2)) = ns.map V.int /\ Q (.int ns.sum) H
theorem pA (hc : X.calm = true) : ce X (.builtin "sum") vR := by
 intro pins s σ H xs us Q I r h;obtain ⟨p, d, kvs, ns, rfl, hp, e, en, q⟩ := h;obtain ⟨u, rfl, rx⟩ := cW r;cases rx;obtain ⟨z, hd, vs, ep, rel, at'⟩ := vK I e;have l : kvs.length = vs.length := Ö rel;have hv : s.heap.IsValuesView p d := (I.Ē p _ hp).1;obtain ⟨oI, St, it, W, st⟩ := (kdl_values (knd := aJ X.prog X.w) (d := d) (r := p) (kvs := vs) (ep := ep)).iter X.A.in1 s (show (X.A.in1).handled = none from I.ok.hd hc) ⟨hv, at'⟩;refine call_sum_walkG (it _ _ ?_);have val : ∀ i v, (∃ k, vs[i]? = some (k, v)) -> ∃ t, v = Value.int (ns.getD i 0) t := λ i v ⟨k, hk⟩ => by
  obtain ⟨q', hq, r1, r2⟩ := dj rel hk;have eq : (kvs.map (·.2))[i]? = some q'.2 := by rw [Õ, hq]; rfl
  rw [en, Õ] at eq;cases e : ns[i]? with
  | none => rw [e] at eq; cases eq
  | some n =>
   rw [e] at eq;have eq : V.int n = q'.2 := Ò eq;rw [<- eq] at r2;obtain ⟨t, r2⟩ := r2;refine ⟨t, ?_⟩;rw [show v = Value.int n t from r2, ģ, e];rfl
 refine ⟨_, _, _, _, _, St, λ i => ns.getD i 0, rfl, W, st, ?_, val, λ h' tk t' k => ?_⟩
 ·intro b hb;show b < (s.heap.push oI).objs.size;rw [æ];simp only [List.mem_cons, List.not_mem_nil, or_false] at hb;rcases hb with rfl | rfl
  ·exact Nat.lt_succ_self _
  ·exact ē at'.lt_size
 ·have ln : vs.length = ns.length := by have := Ė List.length en; rw [Æ, Æ] at this; omega
  rw [ln, jW];exact ⟨.int _, H, I.kept (t' := tk) λ b o eb => k b o (λ z => by rw [ê.mp z] at eb; exact absurd (È eb) (ÿ _)) (Á _ eb), ⟨_, rfl⟩, q⟩
end
end My
namespace My
open PySem L2
section
variable {prog : Program} {w : World} {A : Around} {R : Result -> Shared -> Prop} {s : Shared}
theorem mN {kx vx target iter : Expr} {scope : Scope} {pos : Pos} {it : Value} {D : Addr} {env : Env} (J : Nat -> Shared -> Prop)
  (turn : ∀ n s, J n s -> wpAny (model prog w) A (pyNext it) (λ r Ă => match r with
   | none => R (.ok .next) Ă
   | some v => wpAny (model prog w) A (letOwnedTupleGo target it v) (λ _ Ř => wpAny (model prog w) A (assign target env v) (λ _ Γ => wpAny (model prog w) A (eval kx env)
     (λ kv ξ => wpAny (model prog w) A (eval vx env) (λ vv ν => wpAny (model prog w) A (dictSet D kv vv) (λ _ Lv => ∃ m, m < n /\ J m Lv) (λ _ _ => False) ν) (λ _ _ => False) ξ) (λ _ _ => False) Γ) (λ _ _ => False) Ř) (λ _ _ => False) Ă) (λ _ _ => False) s)
  (n : Nat) (h : J n s) : codeAny (model prog w) A (.compLoop (.DictComp kx vx [⟨target, iter, [], 0⟩] scope pos) 0 it (.ref D) env) R s := by
 refine Ge rfl J (λ n s hJ => ?_) n h;show wpAny _ _ (Sem.onRaise (compTurn (.DictComp kx vx [⟨target, iter, [], 0⟩] scope pos) 0 it (.ref D) env) (λ x => do noteFrame x env; theTreesLotGoes x)) _ _ s
 refine GQ ?_;rw [compTurn_dict];refine À (ü (À (Ü (turn n s hJ) (λ r Ă Ğ => ?_) λ _ _ z => z.elim)));cases r with
 | none => exact Â Ğ
 | some v =>
  refine À (Ü Ğ (λ _ Ř e_ => ?_) λ _ _ z => z.elim);refine À (Ü e_ (λ _ Γ Bk => ?_) λ _ _ z => z.elim);refine À (Â ?_);exact À (À (Ü Bk (λ kv ξ GF => À (ï (Ü GF (λ vv ν GD => À (ü (ï (Ü GD (λ _ Lv Ot => Â ⟨rfl, Ot⟩) λ _ _ z => z.elim)))) λ _ _ z => z.elim))) λ _ _ z => z.elim))
end
end My
namespace My
open PySem PySem.W L2
section
variable {X : Cx} {pins : List (Addr × Obj)} {σ : St} {H : Hp} {s : Shared}
theorem tQ {a b : Addr} {kvs : List (List Key × V)} {k : List Key} {v : V} {r : Value} {A : Around} {E : bM} {Q : Unit -> Shared -> Prop} (hu : A.units + 1 < cLine) (I : Inv X pins σ H s) (e : H a = some (.dT kvs)) (eb : H b = some (.tup (k.map kV))) (l : kvs.length < sizeLine) (rv : RelV v r)
  (h : ∀ s', Inv X pins σ (ao H a (.dT (bI kvs k v))) s' -> Q () s') : wpAny (model X.prog X.w) A (dictSet a (.ref b) r) Q E s := by
 obtain ⟨z, hd, xs, rel, dd⟩ := vn I.Ē e;have hz : xs.length <= sizeLine := by rw [<- Ö rel]; exact z
 have hl : (bI kvs k v).length <= sizeLine := by have := cG kvs k v; omega
 refine wpAny_dictSet_heap (hsz := hz) (show A.units < cLine by omega) (fQ I.Ē eb) dd λ h' Lj hs => h _ ?_
 obtain ⟨q, es, ep, hq, h2, h3, h4, _, h5⟩ := Lj;refine gR I (by rw [e]; exact True.intro) hs ⟨q, hq⟩ ⟨hl, hd, _, (rel.put k eb rv).keeps λ c ys ec => ?_, q, es, ep, hq, h2, h3, h4, h5⟩
 rw [ah (vM ec e (λ z => nomatch z))];exact ec
end
section
variable {te : TE} {tt : TT} {g : TG} {k n : Nat} {cap : St} {D : Addr} {H1 : Hp} {Q : Hp -> Prop} {J : It}
theorem dL (Pv : Nat -> List V -> Hp -> Prop) (hz : n < sizeLine) (h0 : Pv 0 [] (ao H1 D (.lst []))) (hg : ∀ i ys H, i < n -> Pv i ys H -> J.go i H) (He : ∀ ys H, Pv n ys H -> J.stop n H)
  (hs : ∀ (i : Nat) x ys H H3, i < n -> J.Ψ i H x H3 -> ys.length <= i -> H D = some (.lst ys) -> Pv i ys H -> ∀ os : St, os.length = k -> ∀ N : List V -> Hp -> Prop, (∀ GA H', Pv (i + 1) GA H' -> GA.length <= i + 1 -> H' D = some (.lst GA) -> N GA H') ->
   g x (os ++ cap) H3 λ ġ H0 => (∃ ı : St, ı.length = k /\ ġ = ı ++ cap) /\ tt ġ H0 λ b H5 => (b = false -> N ys H5) /\ (b = true -> te ġ H5 λ y H4 => H4 D = some (.lst ys) /\ N (ys ++ [y]) (ao H4 D (.lst (ys ++ [y])))))
  (hd : ∀ ys H, ys.length <= n -> H D = some (.lst ys) -> Pv n ys H -> Q H) :
  ∃ W : Nat -> Nat -> List V -> Hp -> Prop, (∃ m, W 0 m [] (ao H1 D (.lst []))) /\
   ∀ i m ys H2, W i m ys H2 -> H2 D = some (.lst ys) /\ ((J.stop i H2 /\ Q H2) \/ (J.go i H2 /\ ys.length < sizeLine /\
    ∀ x H3, J.Ψ i H2 x H3 -> ∀ os : St, os.length = k -> g x (os ++ cap) H3 λ ġ H0 => (∃ ı : St, ı.length = k /\ ġ = ı ++ cap) /\ tt ġ H0 λ b H5 => (b = false -> ∃ m', m' < m /\ W (i + 1) m' ys H5) /\
     (b = true -> te ġ H5 λ y H4 => H4 D = some (.lst ys) /\ ∃ m', m' < m /\ W (i + 1) m' (ys ++ [y]) (ao H4 D (.lst (ys ++ [y])))))) := by
 refine ⟨λ i m ys H => m = n - i /\ i <= n /\ ys.length <= i /\ H D = some (.lst ys) /\ Pv i ys H, ⟨n, by simp, Nat.zero_le _, Nat.le_refl _, bh, h0⟩, ?_⟩
 rintro i m ys H ⟨rfl, hi, hy, ĕ, p⟩;refine ⟨ĕ, ?_⟩;by_cases ŏ : i < n
 ·refine .inr ⟨hg i ys H ŏ p, ae, λ x H' y os Ņ => ?_⟩;exact hs i x ys H H' ŏ y hy ĕ p os Ņ (λ GA Lr => ∃ m', m' < n - i /\ (m' = n - (i + 1) /\ i + 1 <= n /\ GA.length <= i + 1 /\ Lr D = some (.lst GA) /\ Pv (i + 1) GA Lr)) λ GA Lr p' l' d' => ⟨n - (i + 1), ae, rfl, ŏ, l', d', p'⟩
 ·have e : i = n := ae;subst e;exact .inl ⟨He ys H p, hd ys H hy ĕ p⟩
theorem dw (Pv : Nat -> List V -> Hp -> Prop) (hz : n < sizeLine) (h0 : Pv 0 [] (ao H1 D (.lst []))) (hg : ∀ i ys H, i < n -> Pv i ys H -> J.go i H) (He : ∀ ys H, Pv n ys H -> J.stop n H)
  (hs : ∀ (i : Nat) x ys H H3, i < n -> J.Ψ i H x H3 -> ys.length = i -> H D = some (.lst ys) -> Pv i ys H -> ∀ os : St, os.length = k -> ∀ R : VK, (∀ y H4, H4 D = some (.lst ys) -> Pv (i + 1) (ys ++ [y]) (ao H4 D (.lst (ys ++ [y]))) -> R y H4) -> g x (os ++ cap) H3 λ ġ H0 => (∃ ı : St, ı.length = k /\ ġ = ı ++ cap) /\ te ġ H0 R)
  (hd : ∀ ys H, ys.length = n -> H D = some (.lst ys) -> Pv n ys H -> Q H) :
  ∃ W : Nat -> Nat -> List V -> Hp -> Prop, (∃ m, W 0 m [] (ao H1 D (.lst []))) /\
   ∀ i m ys H2, W i m ys H2 -> H2 D = some (.lst ys) /\ ((J.stop i H2 /\ Q H2) \/ (J.go i H2 /\ ys.length < sizeLine /\
    ∀ x H3, J.Ψ i H2 x H3 -> ∀ os : St, os.length = k -> g x (os ++ cap) H3 λ ġ H0 => (∃ ı : St, ı.length = k /\ ġ = ı ++ cap) /\ te ġ H0 λ y H4 => H4 D = some (.lst ys) /\ ∃ m', m' < m /\ W (i + 1) m' (ys ++ [y]) (ao H4 D (.lst (ys ++ [y]))))) := by
 refine ⟨λ i m ys H => m = n - i /\ i <= n /\ ys.length = i /\ H D = some (.lst ys) /\ Pv i ys H, ⟨n, by simp, Nat.zero_le _, rfl, bh, h0⟩, ?_⟩
 rintro i m ys H ⟨rfl, hi, hy, ĕ, p⟩;refine ⟨ĕ, ?_⟩;by_cases ŏ : i < n
 ·refine .inr ⟨hg i ys H ŏ p, ae, λ x H' y os Ņ => ?_⟩;exact hs i x ys H H' ŏ y hy ĕ p os Ņ _ λ z H4 JU p4 => ⟨JU, n - (i + 1), ae, rfl, ŏ, by rw [Ì, hy]; rfl, bh, p4⟩
 ·have e : i = n := ae;subst e;exact .inl ⟨He ys H p, hd ys H hy ĕ p⟩
end
def nY : V -> V -> Bool
 | x, .int j => decide (1 <= j) && G4 0 j x
 | _, _ => false
theorem qf {x y : V} (h : ∀ i, y ≠ .int i) : nY x y = false := by
 cases y with
 | int i => exact absurd rfl (h i)
 | _ => rfl
section
variable {P : Program} {w : World} {K : Frag} {mg : bE} {base : Heap}
abbrev ju : Stmt := cf 11
def gV (K : Frag) : Sp := λ vs H Q _ => ∃ x, vs = [x] /\ Th K H x /\ Q (.bl (BX x)) H
theorem Ee : af ["thing"] ["thing"] (aa ju) := aQ
theorem si {f : Addr} {fd : FuncData} (N : tD K) (F : ŀ K "is_number" "is_number" ju f fd) (mi : mg "isinstance" = none) (m1 : mg "int" = none) (m2 : mg "bool" = none) : az P w K mg base au 1 f fd ["thing"] (gV K) := by
 refine F.ok Ee (λ vs H Q E h => ?_) (λ ò A outer s H vs Q E hr h => ?_)
 ·obtain ⟨c, rfl, _⟩ := h;rfl
 obtain ⟨x, rfl, th, q⟩ := h;refine ⟨_, bz (cp (cj (ak (bX N) rfl mi é (ad (pv 0) (ad (fB rfl m1 ĥ) ap)))
  (de (jC (ak (bX N) rfl mi é (ad (pv 0) (ad (fB rfl m2 J5) ap))))))), ?_⟩
 rcases th with ⟨i, rfl⟩ | ⟨n, t, b1, b2, kd, k1, k2, z⟩
 ·exact ⟨_, rfl, _, _, _, _, rfl, .inl (.int i), DN, _, rfl, ⟨_, rfl, _, _, _, _, rfl, .inl (.int i), Dh, _, rfl, q⟩⟩
 ·rw [ka n] at q;refine ⟨_, rfl, _, _, _, _, rfl, kd, k1, _, rfl, ?_⟩;cases b1 with
  | false => exact c6 q
  | true =>
   refine fO ⟨_, rfl, _, _, _, _, rfl, kd, k2, _, rfl, ?_⟩;have e : (!b2) = false := z;rw [e];exact q
abbrev nH : Stmt := cf 12
def b7 (K : Frag) : Sp := λ vs H Q _ => ∃ x lo hi, vs = [x, .int lo, .int hi] /\ Th K H x /\ Q (.bl (G4 lo hi x)) H
theorem Ez : af ["thing", "low", "high"] ["thing", "low", "high"] (aa nH) := aQ
theorem uj {f g : Addr} {fd gd : FuncData} (F : ŀ K "is_whole" "is_whole" nH f fd) (G : az P w K mg base au 1 g gd ["thing"] (gV K)) (bG : Binds K gd ["thing"] []) (kG : keepIn K (.ref g) = true) (mG : mg "is_number" = some (.ref g)) :
  az P w K mg base au 2 f fd ["thing", "low", "high"] (b7 K) := by
 refine F.ok Ez (λ vs H Q E h => ?_) (λ ò A outer s H vs Q E hr h => ?_)
 ·obtain ⟨c, lo, hi, rfl, _⟩ := h;rfl
 obtain ⟨x, lo, hi, rfl, th, q⟩ := h;refine ⟨_, bz (cp (cj (gQ G hr rfl mG kG bG .nil ai (ad (pv 0) ap)) (cj (bN kF (pv 1) (pv 0) (aA _)) (de (bN kF (pv 0) (pv 2) (aA _)))))), ?_⟩;refine ⟨_, rfl, x, rfl, th, _, rfl, ?_⟩;rcases th with ⟨i, rfl⟩ | ⟨n, _⟩
 ·refine fO ⟨_, rfl, _, rfl, _, _, rfl, rfl, _, rfl, ?_⟩;refine lX (λ c => ?_) (λ c => ?_)
  ·refine ⟨_, rfl, _, rfl, _, _, rfl, rfl, ?_⟩;have q' : Q (.bl (decide (lo <= i) && decide (i <= hi))) H := q;rw [Ç (ø c), Φ] at q';exact q'
  ·have q' : Q (.bl (decide (lo <= i) && decide (i <= hi))) H := q;rw [â (λ z => c (Ç z)), Ş] at q';exact q'
 ·rw [ka n];rw [wU n] at q;exact c6 q
abbrev sZ : Stmt := cf 14
def qo : Sp := λ vs H Q _ => ∃ a b : Nat, vs = [.int a, .int b] /\ Q (.int (Nat.gcd a b)) H
theorem P_ : af ["one", "other"] ["one", "other"] (aa sZ) := aQ
def Ej : St -> Nat
 | [_, some (.int b)] => b.toNat
 | _ => 0
theorem wJ {f : Addr} {fd : FuncData} (F : ŀ K "greatest_common" "greatest_common" sZ f fd) : az P w K mg base au 1 f fd ["one", "other"] qo := by
 refine F.ok P_ (λ vs H Q E h => ?_) (λ ò A outer s H vs Q E hr h => ?_)
 ·obtain ⟨c, lo, rfl, _⟩ := h;rfl
 obtain ⟨a, b, rfl, q⟩ := h;have nd := P_.nd;refine ⟨_, b6 (qd å (aM nU (pv 1) ay (aA _)) (bz (wG (i := 0) (j := 1) rfl nd rfl rfl ag rfl rfl (ad (pv 1) (ad (aj eN (pv 0) (pv 1)) ap)) rfl))) (bz (cp (pv 0))), ?_⟩;refine re (λ σ H' => H' = H /\ ∃ x y : Nat, σ = [some (.int x), some (.int y)] /\ Nat.gcd x y = Nat.gcd a b) (λ σ _ => Ej σ) ⟨rfl, a, b, rfl, rfl⟩ ?_ ?_
 ·rintro σ H' ⟨rfl, x, y, rfl, e⟩;refine ⟨_, rfl, _, _, rfl, rfl, _, rfl, ?_⟩;refine lX (λ c => ?_) (λ c => ?_)
  ·have c' : (0 : Int) < (y : Int) := ø c;refine ⟨_, rfl, _, rfl, _, rfl, _, _, rfl, rfl, c', _, _, rfl, ⟨rfl, y, x % y, ?_, ?_⟩, ?_⟩
   ·show [some (V.int y), some (V.int ((x : Int) % (y : Int)))] = _;rw [show ((x : Int) % (y : Int)) = ((x % y : Nat) : Int) from by simp]
   ·rw [<- e, Nat.gcd_comm x y, Nat.gcd_rec y x, Nat.gcd_comm]
   ·show ((x : Int) % (y : Int)).toNat < (y : Int).toNat;have := ĵ (x : Int) c';omega
  ·have c' : ¬ (0 : Int) < (y : Int) := λ z => c (Ç z);have y0 : y = 0 := ae;subst y0;rw [Nat.gcd_zero_right] at e;refine ⟨_, rfl, ?_⟩;rw [e];exact q
 ·rintro σ H Q Q' m ⟨x, e, i, j, h1, h2, b, hb, q⟩;exact ⟨x, e, i, j, h1, h2, b, hb, m _ _ q⟩
abbrev nr : Stmt := cf 15
def l6 (K : Frag) : Sp := λ vs H Q _ => ∃ x y, vs = [x, y] /\ Th K H x /\ Th K H y /\ Q (.bl (nY x y)) H
theorem DR : af ["top", "bottom"] ["top", "bottom"] (aa nr) := aQ
theorem uS {f g k : Addr} {fd gd kd : FuncData} (F : ŀ K "is_part" "is_part" nr f fd) (G : az P w K mg base au 1 g gd ["thing"] (gV K)) (bG : Binds K gd ["thing"] []) (kG : keepIn K (.ref g) = true) (mG : mg "is_number" = some (.ref g))
  (W : az P w K mg base au 2 k kd ["thing", "low", "high"] (b7 K)) (bW : Binds K kd ["thing", "low", "high"] []) (kW : keepIn K (.ref k) = true) (mW : mg "is_whole" = some (.ref k)) : az P w K mg base au 3 f fd ["top", "bottom"] (l6 K) := by
 refine F.ok DR (λ vs H Q E h => ?_) (λ ò A outer s H vs Q E hr h => ?_)
 ·obtain ⟨x, y, rfl, _⟩ := h;rfl
 obtain ⟨x, y, rfl, tx, ty, q⟩ := h;have Η := hr.mono (show 1 <= 2 by decide)
 refine ⟨_, bz (cp (cj (gQ G Η rfl mG kG bG .nil ai (ad (pv 1) ap)) (cj (bN q9 (pv 1) ay (aA _)) (de (gQ W hr rfl mW kW bW .nil ai (ad (pv 0) (ad ay (ad (pv 1) ap)))))))), ?_⟩;refine ⟨_, rfl, y, rfl, ty, _, rfl, ?_⟩;rcases ty with ⟨j, rfl⟩ | ⟨n, _⟩
 ·refine fO ⟨_, rfl, _, _, rfl, rfl, _, rfl, ?_⟩;have q' : Q (.bl (decide (1 <= j) && G4 0 j x)) H := q;refine lX (λ c => ?_) (λ c => ?_)
  ·rw [Ç (ø c), Φ] at q';exact ⟨_, rfl, _, rfl, x, 0, j, rfl, tx, q'⟩
  ·rw [â (λ z => c (Ç z)), Ş] at q';exact q'
 ·rw [ka n];rw [qf n] at q;exact c6 q
def Sz (n : Nat) : Prop := n < 2 ^ 8999
theorem Sz.log {n : Nat} (h : Sz n) : ((n : Nat) : Int).natAbs.log2 < 9000 := by
 rw [Int.natAbs_natCast];by_cases z : n = 0
 ·rw [z]; decide
 ·exact (Nat.log2_lt z).mpr (ň h (Ŭ ag ag))
theorem Sz.mono {m n : Nat} (h : Sz n) (e : m <= n) : Sz m := Ž e h
def bw (a b : Nat) : Nat := a / Nat.gcd a b
def aI (a b : Nat) : Nat := b / Nat.gcd a b
abbrev Cm : Stmt := cf 16
def pH : Sp := λ vs H Q _ => ∃ a b : Nat, vs = [.int a, .int b] /\ 1 <= b /\ a <= b /\ Sz b /\ ∀ p, H p = none -> Q (.ref p) (ao H p (.tup [.int (bw a b : Nat), .int (aI a b : Nat)]))
theorem LD : af ["top", "bottom", "common"] ["top", "bottom"] (aa Cm) := aQ
theorem AD {f a1 a2 : Addr} {fd d1 d2 : FuncData} (F : ŀ K "share_of" "share_of" Cm f fd) (A1 : Df P w K mg base au 3 "is_part" ["top", "bottom"] (l6 K) a1 d1) (A2 : Df P w K mg base au 1 "greatest_common" ["one", "other"] qo a2 d2) : az P w K mg base au 4 f fd ["top", "bottom"] pH := by
 refine F.ok LD (λ vs H Q E h => ?_) (λ ò A outer s H vs Q E hr h => ?_)
 ·obtain ⟨a, b, rfl, _⟩ := h;rfl
 obtain ⟨a, b, rfl, b1, ab, sb, q⟩ := h;have nd := LD.nd;have Η : ċ 1 _ := hr.mono ag;refine ⟨_, b6 (bA (bF (aX (bH A1 hr ai (ad (pv 0) (ad (pv 1) ap))))) (bz bV) gN)
  (b6 (cD (i := 2) nd rfl (Or.inl rfl) (bH A2 Η ai (ad (pv 0) (ad (pv 1) ap))))
  (bz (cp (aO (ad (aj oh (pv 0) (pv 2)) (ad (aj oh (pv 1) (pv 2)) ap)))))), ?_⟩
 have NP : nY (.int (a : Nat)) (.int (b : Nat)) = true := by
  show (decide ((1 : Int) <= (b : Nat)) && (decide ((0 : Int) <= (a : Nat)) && decide (((a : Nat) : Int) <= (b : Nat)))) = true;rw [Ç ae, Ç ae, Ç ae];rfl
 have g0 : 0 < Nat.gcd a b := Ŕ a b1;have gl : Sz (Nat.gcd a b) := sb.mono (Nat.le_of_dvd b1 (Ξ a b));have gd : ∀ n : Nat, Ae ((n : Nat) : Int) ((Nat.gcd a b : Nat) : Int) := λ n => ⟨ae, gl.log⟩;refine ⟨_, rfl, _, rfl, _, _, rfl, .inl ⟨_, rfl⟩, .inl ⟨_, rfl⟩, ?_⟩;rw [NP];refine ⟨_, rfl, c6 ⟨_, rfl, _, rfl, a, b, rfl, ?_⟩⟩;refine ⟨_, rfl, _, rfl, _, _, rfl, rfl, gd a, _, rfl, _, rfl, _, _, rfl, rfl, gd b, fk, λ p hp => ?_⟩;have e1 : ((a : Int) / ((Nat.gcd a b : Nat) : Int)) = ((bw a b : Nat) : Int) := by simp [bw]
 have e2 : ((b : Int) / ((Nat.gcd a b : Nat) : Int)) = ((aI a b : Nat) : Int) := by simp [aI]
 show Q (.ref p) (ao H p (.tup [.int ((a : Int) / ((Nat.gcd a b : Nat) : Int)), .int ((b : Int) / ((Nat.gcd a b : Nat) : Int))]));rw [e1, e2];exact q p hp
end
def cb : PyData -> Bool
 | .tuple [a, b] => og 0 1 a && og 0 1 b
 | _ => false
def sM : PyData -> Bool
 | .list ds => decide (1 <= ds.length) && decide (ds.length <= 20) && ds.all cb
 | _ => false
section
variable {P : Program} {w : World} {K : Frag} {mg : bE} {base : Heap}
abbrev Ct : Stmt := cf 40
def wt : Sp := λ vs H Q _ => ∃ v d, vs = [v] /\ Ļ H v d /\ Q (.bl (cb d)) H
theorem C4 : af ["thing"] ["thing"] (aa Ct) := aQ
theorem Ad {f a1 : Addr} {fd d1 : FuncData} (N : tD K) (F : ŀ K "is_listed" "is_listed" Ct f fd) (A1 : Df P w K mg base au 2 "is_whole" ["thing", "low", "high"] (b7 K) a1 d1)
  (mi : mg "isinstance" = none) (mt : mg "tuple" = none) (ml : mg "len" = none) : az P w K mg base au 3 f fd ["thing"] wt := by
 refine F.ok C4 (λ vs H Q E h => ?_) (λ ò A outer s H vs Q E hr h => ?_)
 ·obtain ⟨v, d, rfl, _⟩ := h;rfl
 obtain ⟨v, d, rfl, rd, q⟩ := h;refine ⟨_, b6 (bA (PW.pt (iI (bF (aX (ak (bX N) rfl mi é (ad (pv 0) (ad (fB rfl mt į) ap))))) (eL (aM kj (ak aq rfl ml ä (ad (pv 0) ap)) ay (aA _))))) (bz (cp oB)) gN)
  (bz (cp (cj (bH A1 hr ai (ad (cq dG (pv 0) ay) (ad ay (ad ay ap)))) (de (bH A1 hr ai (ad (cq dG (pv 0) ay) (ad ay (ad ay ap)))))))), ?_⟩
 refine ⟨_, rfl, _, _, _, _, rfl, rd.kd, rd.TB, _, rfl, ?_⟩;cases e : Az d with
 | false =>
  refine fO (fO ?_);have z : cb d = false := by cases d <;> first | rfl | cases e
  rw [z] at q;exact q
 | true =>
  obtain ⟨ds, rfl⟩ : ∃ ds, d = .tuple ds := by cases d <;> first | exact ⟨_, rfl⟩ | cases e
  obtain ⟨a, xs, rfl, ha, rs⟩ := jP rd;refine c6 ⟨_, rfl, a, _, rfl, .inr (ą.of ha), rfl, _, rfl, ?_⟩;have len := rs.length;by_cases l2 : xs.length = 2
  ·obtain ⟨u, v, rfl⟩ : ∃ u v, xs = [u, v] := by
    match xs, l2 with
    | [u, v], _ => exact ⟨u, v, rfl⟩
   cases rs with
   | cons r1 rs =>
    cases rs with
    | cons r2 rs =>
     cases rs;refine c6 ⟨_, rfl, a, _, _, _, rfl, rfl, ą.of ha, rfl, u, 0, 1, rfl, r1.th, _, rfl, ?_⟩;rw [r1.G4]
     rename_i d1 d2
     have qq : Q (.bl (og 0 1 d1 && og 0 1 d2)) H := q;cases e1 : og 0 1 d1 with
     | false =>
      rw [e1] at qq;exact c6 qq
     | true =>
      rw [e1] at qq;refine fO ⟨_, rfl, a, _, _, _, rfl, rfl, ą.of ha, rfl, v, 0, 1, rfl, r2.th, ?_⟩;rw [r2.G4];exact qq
  ·have e1 : (!decide (V.int (xs.length : Nat) = V.int 2)) = true := by
    rw [â]
    ·rfl
    ·intro h;injection h with h
     omega
   rw [e1];refine fO ?_;have z : cb (.tuple ds) = false := by
    match ds, len, l2 with
    | [], _, _ => rfl
    | [_], _, _ => rfl
    | [_, _], l, n => exact absurd l n
    | _ :: _ :: _ :: _, _, _ => rfl
   rw [z] at q;exact q
end
section
variable {P : Program} {w : World} {K : Frag} {mg : bE} {base : Heap}
abbrev Cj : Stmt := cf 41
def Bm : Sp := λ vs H Q _ => ∃ v d, vs = [v] /\ Ļ H v d /\ (∀ ds, d = .list ds -> ds.length < 10000) /\ ∀ H', Ext H H' -> Q (.bl (sM d)) H'
theorem D8 : af ["thing"] ["thing"] (aa Cj) := aQ
abbrev zd : Scope := cT [("each", .local), ("is_listed", .globalImplicit)]
theorem xa {X : Cx} : jG X zd [] "each" [] [] := by
 refine ⟨rfl, rfl, aF, aF, aF, (λ z c h => nomatch h), (λ z h => ?_), aF, (λ k z h => by simp at h), rfl⟩
 exfalso;have h' : List.lookup z [((".0" : Str), NameKind.local), (("each" : Str), NameKind.local), (("is_listed" : Str), NameKind.globalImplicit)] = some .cell \/ List.lookup z [((".0" : Str), NameKind.local), (("each" : Str), NameKind.local), (("is_listed" : Str), NameKind.globalImplicit)] = some .free := h;simp only [List.lookup_cons, List.lookup_nil] at h'
 repeat' (split at h')
 all_goals simp at h'
theorem zW {f a1 a2 : Addr} {fd d1 d2 : FuncData} {NA : Tok} (N : tD K) (F : ŀ K "is_listing" "is_listing" Cj f fd) (A1 : Df P w K mg base au 2 "is_whole" ["thing", "low", "high"] (b7 K) a1 d1) (A2 : Df P w K mg base au 3 "is_listed" ["thing"] wt a2 d2) (N' : mg "MOST_FOLK" = some (.int 20 NA))
  (mi : mg "isinstance" = none) (mt : mg "list" = none) (ml : mg "len" = none) (ma : mg "all" = none) : az P w K mg base au 4 f fd ["thing"] Bm := by
 refine F.ok D8 (λ vs H Q E h => ?_) (λ ò A outer s H vs Q E hr h => ?_)
 ·obtain ⟨v, d, rfl, _⟩ := h;rfl
 obtain ⟨v, d, rfl, rd, big, q⟩ := h;have Hy := hr.mono (show 2 <= 3 by decide)
 refine ⟨_, b6 (bA (PW.pt (iI (bF (aX (ak (bX N) rfl mi é (ad (pv 0) (ad (fB rfl mt J4) ap)))))
   (eL (bF (aX (bH A1 Hy ai (ad (ak aq rfl ml ä (ad (pv 0) ap)) (ad ay (ad (b8 (v := .int 20) rfl N' ⟨_, rfl⟩) ap))))))))) (bz (cp oB)) gN)
  (bz (cp (ak (lM rfl) rfl ma PyProof.Rows.boot_all (ad (BI (te := cC wt [] E0 (ac (am 0) aH)) rfl xa (bD (pv 0)) (λ s H C fp => by exact bH A2 hr ai (ad (pv 0) ap))) ap)))), ?_⟩
 refine ⟨_, rfl, _, _, _, _, rfl, rd.kd, rd.TC, _, rfl, ?_⟩;cases e : AK d with
 | false =>
  refine fO (fO ?_);have z : sM d = false := by cases d <;> first | rfl | cases e
  rw [z] at q;exact q H (Ext.refl _)
 | true =>
  obtain ⟨ds, rfl⟩ : ∃ ds, d = .list ds := by cases d <;> first | exact ⟨_, rfl⟩ | cases e
  obtain ⟨a, xs, rfl, ha, rs⟩ := oj rd;have len := rs.length;have bg := big ds rfl;refine c6 ⟨_, rfl, a, _, rfl, .inl (ñ.of ha), .int (xs.length : Nat), 1, 20, rfl, .inl ⟨_, rfl⟩, _, rfl, ?_⟩;show if (!(decide ((1 : Int) <= (xs.length : Nat)) && decide (((xs.length : Nat) : Int) <= 20))) = true then _ else _
  have el : (decide ((1 : Int) <= (xs.length : Nat)) && decide (((xs.length : Nat) : Int) <= 20)) = (decide (1 <= ds.length) && decide (ds.length <= 20)) := by
   rw [len, ĸ, Ā, Ā, ď, ď, ď, ď];omega
  rw [el];have qq : ∀ H', Ext H H' -> Q (.bl (decide (1 <= ds.length) && decide (ds.length <= 20) && ds.all cb)) H' := q;cases QY : decide (1 <= ds.length) && decide (ds.length <= 20) with
  | false =>
   rw [QY] at qq;exact fO (qq H (Ext.refl _))
  | true =>
   rw [QY] at qq;refine c6 ?_;refine ⟨_, rfl, a, rfl, ⟨_, ñ.of ha⟩, λ D hD => ?_⟩;refine t7 (a := a) (xs := xs) (λ i ys H' => Ext H H' /\ ys = (ds.take i).map λ d => V.bl (cb d)) (by rw [len]; exact ň bg ag) ⟨Ext.new hD, rfl⟩ (λ i ys H' p => ñ.of (p.1 _ _ ha)) ?_ ?_
   ·rintro i x ys H' ex ly ĕ ⟨x', rfl⟩ R k;obtain ⟨d, ed, rv⟩ := rs.get ex;refine ⟨_, rfl, x, d, rfl, rv.mono x', k _ H' ĕ ⟨aV _ x' hD, ?_⟩⟩;rw [aw ed, Ó];rfl
   ·rintro ys H' ly ĕ ⟨x', rfl⟩;refine ⟨D, ds.map cb, rfl, ?_, ?_⟩
    ·have e3 : xs.length = ds.length := len;rw [e3, ö] at ĕ;rw [ŉ];exact ñ.of ĕ
    ·have e3 : (ds.map cb).all id = ds.all cb := by rw [G0]; rfl
     rw [e3];exact qq H' x'
abbrev CP : Stmt := cf 42
def tm (C : Addr) : Sp := λ vs H Q E => ∃ v d, vs = [v] /\ Ļ H v d /\ (∀ ds, d = .list ds -> ds.length < 10000) /\ (sM d = true -> ∀ H', Ext H H' -> Q .ĉ H') /\ (sM d = false -> ∀ H', Ext H H' -> vf C "found" v H' E)
theorem Dd : af ["thing"] ["thing"] (aa CP) := aQ
theorem AG {f D C fC a1 : Addr} {fd O5 d1 : FuncData} (F : ŀ K "need_listing" "need_listing" CP f fd) (B : Ÿ K D) (T : ub K mg D "NoListing" "found" C fC O5) (A1 : Df P w K mg base au 4 "is_listing" ["thing"] Bm a1 d1) : az P w K mg base (kc P w) 5 f fd ["thing"] (tm C) := by
 refine Fw F Dd (λ vs H Q E h => ?_) (λ ò A outer s H vs Q E hr h => ?_)
 ·obtain ⟨v, d, rfl, _⟩ := h;rfl
 obtain ⟨v, d, rfl, rd, big, q1, q2⟩ := h;have Hy := hr.mono (show 2 <= 4 by decide)
 refine ⟨_, bz (bA (bF (aX (bH A1 hr ai (ad (pv 0) ap)))) (bz (lh B T.cls (T.ok P w base) Hy T.bi rfl T.Qs (pv 0))) gN), ?_⟩;refine ⟨_, rfl, v, d, rfl, rd, big, λ H' x' => ⟨_, rfl, ?_⟩⟩;cases e : sM d with
 | false => exact fO ⟨_, rfl, λ e' dx h1 h2 nd => vF nd (q2 e H' x' e' dx h1 h2 nd)⟩
 | true => exact c6 (q1 e H' x')
end
def yy (a b : Int) : PyData -> Bool
 | .tuple [.int x, .int y] => x == a && y == b
 | _ => false
def sP (a b : Int) (ds : List PyData) : Nat := ds.countP (yy a b)
section
variable {P : Program} {w : World} {K : Frag} {mg : bE} {base : Heap} {H : Hp}
theorem kZ {d : PyData} (h : cb d = true) : ∃ x y : Int, d = .tuple [.int x, .int y] /\ (0 <= x /\ x <= 1) /\ (0 <= y /\ y <= 1) := by
 match d, h with
 | .tuple [a, b], h =>
  have h' : (og 0 1 a && og 0 1 b) = true := h;rw [Ā] at h';obtain ⟨x, rfl, hx⟩ := jS h'.1;obtain ⟨y, rfl, hy⟩ := jS h'.2;exact ⟨x, y, rfl, hx, hy⟩
structure CS (H : Hp) (xs : List V) (ds : List PyData) (as : List (Addr × Int × Int)) : Prop where
 Nt : xs = as.map λ z => V.ref z.1
 O' : ds = as.map λ z => .tuple [.int z.2.1, .int z.2.2]
 at_ : ∀ z ∈ as, H z.1 = some (.tup [.int z.2.1, .int z.2.2])
 bit : ∀ z ∈ as, (0 <= z.2.1 /\ z.2.1 <= 1) /\ (0 <= z.2.2 /\ z.2.2 <= 1)
theorem nE {v : V} {i : Int} (r : Ļ H v (.int i)) : v = .int i := by cases r; rfl
theorem qM : ∀ {xs : List V} {ds : List PyData}, Ć H xs ds -> ds.all cb = true -> ∃ as, CS H xs ds as
 | _, _, .nil, _ => ⟨[], rfl, rfl, (λ _ h => nomatch h), (λ _ h => nomatch h)⟩
 | _, _, .cons r t, h => by
  rw [Ĺ, Ā] at h;obtain ⟨as, w⟩ := qM t h.2;obtain ⟨x, y, rfl, hx, hy⟩ := kZ h.1;obtain ⟨a, us, rfl, ha, rs⟩ := jP r;cases rs with
  | cons r1 rs =>
   cases rs with
   | cons r2 rs =>
    cases rs;have e1 := nE r1;have e2 := nE r2;subst e1 e2;refine ⟨(a, x, y) :: as, by rw [w.Nt]; rfl, by rw [w.O']; rfl, λ z hz => ?_, λ z hz => ?_⟩
    ·rcases Ï.mp hz with rfl | hz
     ·exact ha
     ·exact w.at_ z hz
    ·rcases Ï.mp hz with rfl | hz
     ·exact ⟨hx, hy⟩
     ·exact w.bit z hz
theorem yT {as : List (Addr × Int × Int)} {a b : Int} : ((as.map λ z => (z.1, [V.int z.2.1, V.int z.2.2])).countP λ z => dW z.2 [V.int a, V.int b]) = sP a b (as.map λ z => .tuple [.int z.2.1, .int z.2.2]) := by
 unfold sP;rw [List.countP_map, List.countP_map]
 congr 1
 funext z
 show (((z.2.1 == a)) && ((z.2.2 == b) && true)) = (z.2.1 == a && z.2.2 == b);rw [Bool.and_true]
theorem lJ {Q : VK} {l q : Addr} {xs : List V} {ds : List PyData} {as : List (Addr × Int × Int)} {a b : Int} (w : CS H xs ds as) (hl : ñ K H l xs) (hq : ą K H q [.int a, .int b]) (k : Q (.int (sP a b ds : Nat)) H) : fm K (.ref l) [.ref q] H Q := by
 refine ⟨l, q, as.map λ z => (z.1, [V.int z.2.1, V.int z.2.2]), [.int a, .int b], rfl, rfl, ?_, λ z hz => ?_, hq, rfl, ?_⟩
 ·rw [ŉ];have e := w.Nt;rw [e] at hl;exact hl
 ·obtain ⟨y, hy, rfl⟩ := õ.mp hz;exact ⟨ą.of (w.at_ y hy), rfl⟩
 ·rw [yT, <- w.O'];exact k
theorem dP {Q : VK} {σ : St} {i : Nat} {l q : Addr} {xs : List V} {ds : List PyData} {as : List (Addr × Int × Int)} {a b : Int} (h0 : σ[i]? = some (some (.ref l))) (w : CS H xs ds as) (hl : ñ K H l xs) (hq : ą K H q [.int a, .int b]) (k : Q (.int (sP a b ds : Nat)) H) : vO K "list" (fm K) (am i) (ac (tC (.ref q)) aH) σ H Q :=
 ⟨_, h0, .inl ⟨rfl, _, hl⟩, show fm K (.ref l) [.ref q] H Q from lJ w hl hq k⟩
abbrev AW : Stmt := cf 43
def u9 (ds : List PyData) : List V := [.int (sP 1 0 ds : Nat), .int (sP 0 1 ds : Nat), .int (sP 1 1 ds : Nat), .int (sP 0 0 ds : Nat)]
def qh : Sp := λ vs H Q _ => ∃ a xs ds, vs = [.ref a] /\ H a = some (.lst xs) /\ Ć H xs ds /\ ds.all cb = true /\ ∀ l H', Ext H H' -> H' l = some (.tup (u9 ds)) -> Q (.ref l) H'
theorem Er : af ["listing"] ["listing"] (aa AW) := aQ
structure zT (K : Frag) (mg : bE) (k0 k1 k2 k3 : Addr) : Prop where
 m0 : mg "BETTERED" = some (.ref k0)
 m1 : mg "WORSENED" = some (.ref k1)
 m2 : mg "ALWAYS" = some (.ref k2)
 m3 : mg "NEVER" = some (.ref k3)
 t0 : ∀ H, ą K H k0 [.int 1, .int 0]
 t1 : ∀ H, ą K H k1 [.int 0, .int 1]
 t2 : ∀ H, ą K H k2 [.int 1, .int 1]
 t3 : ∀ H, ą K H k3 [.int 0, .int 0]
theorem B8 {f k0 k1 k2 k3 : Addr} {fd : FuncData} (F : ŀ K "counts_of" "counts_of" AW f fd) (T : zT K mg k0 k1 k2 k3) : az P w K mg base au 1 f fd ["listing"] qh := by
 refine F.ok Er (λ vs H Q E h => ?_) (λ ò A outer s H vs Q E hr h => ?_)
 ·obtain ⟨a, xs, ds, rfl, _⟩ := h;rfl
 obtain ⟨a, xs, ds, rfl, ha, rs, al, q⟩ := h;have hu : (A.deeper (PyProof.Rows.envOfC "counts_of" (aa AW) s.heap.objs.size f ò)).units + 1 < cLine := by have := hr.units; omega
 refine ⟨_, bz (cp (aO (ad (eD ì Į ĭ (cR hu) (pv 0) (ad (b8 (v := .ref k0) rfl T.m0 rfl) ap)) (ad (eD ì Į ĭ (cR hu) (pv 0) (ad (b8 (v := .ref k1) rfl T.m1 rfl) ap))
  (ad (eD ì Į ĭ (cR hu) (pv 0) (ad (b8 (v := .ref k2) rfl T.m2 rfl) ap)) (ad (eD ì Į ĭ (cR hu) (pv 0) (ad (b8 (v := .ref k3) rfl T.m3 rfl) ap)) ap)))))), ?_⟩
 obtain ⟨as, w⟩ := qM rs al;have hl := ñ.of (K := K) ha;have fin : ∀ l, H l = none -> Q (.ref l) (ao H l (.tup (u9 ds))) := λ l hl => q l _ (Ext.new hl) bh;exact dP (i := 0) rfl w hl (T.t0 H) (dP (i := 0) rfl w hl (T.t1 H) (dP (i := 0) rfl w hl (T.t2 H) (dP (i := 0) rfl w hl (T.t3 H) ⟨fk, fin⟩)))
theorem ux {d : PyData} (h : sM d = true) : ∃ ds, d = .list ds /\ 1 <= ds.length /\ ds.length <= 20 /\ ds.all cb = true := by
 match d, h with
 | .list ds, h =>
  have h' : (decide (1 <= ds.length) && decide (ds.length <= 20) && ds.all cb) = true := h;rw [Ā, Ā, ď, ď] at h';exact ⟨ds, rfl, h'.1.1, h'.1.2, h'.2⟩
end
structure Ś (H : Hp) (p : Addr) : Prop where
 ex : ∃ a b c : Int, H p = some (.lst [.int a, .int b, .int c]) /\ 0 <= a /\ 0 <= b /\ b < 2147483629
theorem Ś.ext {H H' : Hp} {p : Addr} (h : Ś H p) (x : Ext H H') : Ś H' p := by
 obtain ⟨a, b, c, e, r⟩ := h.ex;exact ⟨a, b, c, x _ _ e, r⟩
section
variable {P : Program} {w : World} {K : Frag} {mg : bE} {base : Heap}
abbrev nZ : Stmt := cf 64
def rQ (K : Frag) : Sp := λ vs H Q _ => ∃ (a : Addr) (ns : List Int) (k : Int), vs = [.ref a, .int k] /\ ñ K H a (ns.map V.int) /\ 0 <= k /\ k < 100 /\ ∀ c : Int, Q (.int c) H
theorem FE : af ["_law_script", "_law_k"] ["_law_script", "_law_k"] (aa nZ) := aQ
theorem va {f : Addr} {fd : FuncData} (F : ŀ K "_law_cell" "_law_cell" nZ f fd) (ml : mg "len" = none) : az P w K mg base au 1 f fd ["_law_script", "_law_k"] (rQ K) := by
 refine F.ok FE (λ vs H Q E h => ?_) (λ ò A outer s H vs Q E hr h => ?_)
 ·obtain ⟨a, ns, k, rfl, _⟩ := h;rfl
 obtain ⟨a, ns, k, rfl, hS, h0, h1, q⟩ := h;refine ⟨_, b6 (bA (aM su (pv 1) (ak aq rfl ml ä (ad (pv 0) ap)) (aA _)) (bz (cp (cq lS (pv 0) (pv 1)))) gN)
  (bz (cp (aj aS (aj bn ay (pv 1)) ay))), ?_⟩
 refine ⟨_, rfl, _, rfl, a, _, rfl, .inl hS, _, _, rfl, rfl, _, rfl, ?_⟩;refine lX (λ c => ?_) (λ c => ?_)
 ·have c' : k < (((ns.map V.int).length : Nat) : Int) := ø c;rw [Æ] at c';have hk : k.toNat < ns.length := ae;have ek : k = ((k.toNat : Nat) : Int) := ae;have z : lW (ns.map V.int) ((k.toNat : Nat) : Int) = some (.int ns[k.toNat]) := vP (by rw [Õ, Ã hk] <;> rfl)
  rw [<- ek] at z;exact ⟨_, rfl, _, rfl, a, _, _, _, rfl, rfl, hS, z, q _⟩
 ·exact ⟨_, rfl, _, _, rfl, rfl, .inl ⟨ag, ag⟩, _, _, rfl, rfl, q _⟩
abbrev uw : Stmt := cf 65
def vw : Sp := λ vs H Q _ => ∃ c : Int, vs = [.int c] /\ ∀ p H', H p = none -> Ext H H' -> Ś H' p -> Q (.ref p) H'
theorem F3 : af ["_law_cell_here"] ["_law_cell_here"] (aa uw) := aQ
theorem wN {f : Addr} {fd : FuncData} (F : ŀ K "_law_box" "_law_box" uw f fd) (mi : mg "int" = none) : az P w K mg base au 1 f fd ["_law_cell_here"] vw := by
 refine F.ok F3 (λ vs H Q E h => ?_) (λ ò A outer s H vs Q E hr h => ?_)
 ·obtain ⟨c, rfl, _⟩ := h;rfl
 obtain ⟨c, rfl, q⟩ := h;refine ⟨_, bz (cp (cK (ad (aj bn (pv 0) (cz cZ rfl mi ĥ (ad (bN q9 (pv 0) (aj xB ay ay) (aA _)) ap))) (ad (aj eN (pv 0) ay) (ad ay ap))))), ?_⟩;refine ⟨_, rfl, _, rfl, _, _, rfl, rfl, ⟨ag, ag, ag⟩, _, _, rfl, rfl, .inr ⟨_, rfl, _, _, rfl, rfl, ?_, _, rfl, _, _, rfl, rfl, (by show (0 : Int) < 2147483629; decide), fk, λ p hp => ?_⟩⟩
 ·refine .inr ⟨?_, ?_⟩ <;> split <;> decide
 ·refine q p _ hp (Ext.new hp) ⟨_, _, _, bh, ?_, Ų _ ag, ĵ _ ag⟩;show 0 <= c * (if decide ((10 : Int) ^ (18 : Int).toNat <= c) = true then 1 else 0)
  split
  ·rename_i z
   have z' : (10 : Int) ^ (18 : Int).toNat <= c := ø z;have z2 : (0 : Int) <= 10 ^ (18 : Int).toNat := ag;omega
  ·omega
abbrev oC : Stmt := cf 66
def eG : Sp := λ vs H Q _ => ∃ (p : Addr) (m : Int), vs = [.ref p, .int m] /\ Ś H p /\ 0 < m /\ m < 1073741824 /\ ∀ (r : Int) (H' : Hp), 0 <= r -> r < m -> Ś H' p -> Kept H H' p -> (∀ b, H b = none -> H' b = none) -> Q (.int r) H'
theorem P' : af ["_law_box_here", "_law_many", "_law_digit", "_law_number"] ["_law_box_here", "_law_many"] (aa oC) := aQ
theorem ia {H : Hp} {p : Addr} (o : HO) : Kept H (ao H p o) p := λ b u h n => by rw [ah n]; exact h
theorem nG {H : Hp} {p : Addr} {o u : HO} (h : H p = some u) : ∀ b, H b = none -> ao H p o b = none := λ b hb => by
 rw [ah (λ e => by subst e; rw [h] at hb; cases hb)]; exact hb
theorem t8 {f : Addr} {fd : FuncData} (F : ŀ K "_law_take" "_law_take" oC f fd) : az P w K mg base au 1 f fd ["_law_box_here", "_law_many"] eG := by
 refine F.ok P' (λ vs H Q E h => ?_) (λ ò A outer s H vs Q E hr h => ?_)
 ·obtain ⟨p, m, rfl, _⟩ := h;rfl
 obtain ⟨p, m, rfl, ⟨a, b, c, hp, a0, b0, b1⟩, m0, m1, q⟩ := h;have nd := P'.nd;refine ⟨_, b6 (bA (aM nU (cq lS (pv 0) ay) ay (aA _))
   (b6 (cD (i := 2) nd rfl (Or.inl rfl) (aj eN (cq lS (pv 0) ay) (pv 1)))
   (b6 (cM (aj j0 (cq lS (pv 0) ay) (pv 1)) (qF (pv 0) ay c7))
   (bz (cp (pv 2))))) gN)
  (b6 (cM (aj aS (cq lS (pv 0) ay) ay) (qF (pv 0) ay c7))
  (b6 (cD (i := 3) nd rfl (Or.inl rfl) (aj eN (aj aS (aj aS (aj bn (cq lS (pv 0) ay) ay) (aj bn ay (cq lS (pv 0) ay))) ay) ay))
  (b6 (cD (i := 3) nd rfl (Or.inl rfl) (aj eN (aj aS (aj aS (aj bn (pv 3) (pv 3)) (aj bn ay (cq lS (pv 0) ay))) ay) ay))
  (bz (cp (aj eN (aj j0 (aj eN (aj bn (pv 3) (aj aS (pv 3) ay)) ay) ay) (pv 1))))))), ?_⟩
 have hl := ñ.of (K := K) hp;refine ⟨_, rfl, p, _, _, _, rfl, rfl, hl, rfl, _, _, rfl, rfl, _, rfl, ?_⟩;refine lX (λ c1 => ?_) (λ c1 => ?_)
 ·have c2 : 0 < a := ø c1;refine ⟨_, rfl, p, _, _, _, rfl, rfl, hl, rfl, _, rfl, _, _, rfl, rfl, m0, ?_⟩;refine ⟨_, rfl, p, _, _, _, rfl, rfl, hl, rfl, _, rfl, _, _, rfl, rfl, ⟨m0, m1⟩, _, rfl, p, _, 0, 0, rfl, rfl, hp, rfl, ?_⟩;exact ⟨_, rfl, q _ _ (Ų _ ae) (ĵ _ m0) ⟨_, _, _, bh, Int.ediv_nonneg ae ae, b0, b1⟩ (ia _) (nG hp)⟩
 ·refine ⟨_, rfl, p, _, _, _, rfl, rfl, hl, rfl, _, _, rfl, rfl, _, rfl, p, _, 2, 2, rfl, rfl, hp, rfl, ?_⟩;have k1 : Kept H (ao H p (.lst [.int a, .int b, .int (c + 1)])) p := ia _;have k2 : ∀ b', H b' = none -> ao H p (.lst [.int a, .int b, .int (c + 1)]) b' = none := nG hp;have f1 : ao H p (.lst [.int a, .int b, .int (c + 1)]) p = some (.lst [.int a, .int b, .int (c + 1)]) := bh;have bx : Ś (ao H p (.lst [.int a, .int b, .int (c + 1)])) p := ⟨_, _, _, f1, a0, b0, b1⟩;have Ms := ñ.of (K := K) f1;have q1 := λ r h0 h1 => q r _ h0 h1 bx k1 k2;refine ⟨_, rfl, p, _, _, _, rfl, rfl, Ms, rfl, _, _, rfl, rfl, .inr ⟨ag, ag⟩, _, rfl, p, _, _, _, rfl, rfl, Ms, rfl, _, _, rfl, rfl, .inl ⟨ag, ag⟩, _, _, rfl, rfl, _, _, rfl, rfl, _, _, rfl, rfl, (by show (0 : Int) < 2147483647; decide), ?_⟩
  have n0 : 0 <= (b * 48271 + 12289 * (c + 1) + 77) % 2147483647 := Ų _ ag;have n1 : (b * 48271 + 12289 * (c + 1) + 77) % 2147483647 < 2147483647 := ĵ _ ag;have cm : GM ((b * 48271 + 12289 * (c + 1) + 77) % 2147483647) ((b * 48271 + 12289 * (c + 1) + 77) % 2147483647) := .inl ⟨Int.lt_of_lt_of_le ag n0, Int.lt_trans n1 ag⟩;refine ⟨_, rfl, _, rfl, _, _, rfl, rfl, cm, _, rfl, p, _, _, _, rfl, rfl, Ms, rfl, _, _, rfl, rfl, .inl ⟨ag, ag⟩, _, _, rfl, rfl, _, _, rfl, rfl, _, _, rfl, rfl, (by show (0 : Int) < 2147483629; decide), ?_⟩
  generalize hn : ((b * 48271 + 12289 * (c + 1) + 77) % 2147483647 * ((b * 48271 + 12289 * (c + 1) + 77) % 2147483647) + 40961 * (c + 1) + 5) % 2147483629 = n2;have e0 : 0 <= n2 := by rw [<- hn]; exact Ų _ ag
  have e1 : n2 < 2147483629 := by rw [<- hn]; exact ĵ _ ag
  have V5 : ∀ y, GM n2 y := λ y => .inl ⟨Int.lt_of_lt_of_le ag e0, Int.lt_trans e1 ag⟩;subst hn;refine ⟨_, rfl, _, rfl, _, _, rfl, rfl, _, _, rfl, rfl, V5 _, _, _, rfl, rfl, (by show (0 : Int) < 2147483587; decide), _, _, rfl, rfl, ⟨(by show (0 : Int) < 8; decide), (by show (8 : Int) < 1073741824; decide)⟩, _, rfl, _, _, rfl, rfl, m0, ?_⟩
  exact q1 _ (Ų _ ae) (ĵ _ m0)
end
def be : Nat -> Nat -> Nat
 | _, 0 => 1
 | 0, _ + 1 => 0
 | n + 1, k + 1 => be n k + be n (k + 1)
theorem fA (n : Nat) : be n 0 = 1 := by cases n <;> rfl
theorem iM : ∀ {n k : Nat}, n < k -> be n k = 0
 | 0, k + 1, _ => rfl
 | n + 1, k + 1, h => by
  show be n k + be n (k + 1) = 0;rw [iM ae, iM ae]
theorem fh : ∀ {n k : Nat}, k <= n -> 0 < be n k
 | n, 0, _ => by rw [fA]; decide
 | n + 1, k + 1, h => by
  show 0 < be n k + be n (k + 1);have := fh (n := n) (k := k) ae;omega
theorem ib : ∀ (n k : Nat), be n (k + 1) * (k + 1) = be n k * (n - k)
 | 0, k => by
  show 0 * (k + 1) = be 0 k * (0 - k);rw [Nat.zero_sub, Nat.zero_mul, ψ]
 | n + 1, 0 => by
  have h := ib n 0;rw [fA] at h;show (be n 0 + be n (0 + 1)) * (0 + 1) = be (n + 1) 0 * (n + 1 - 0);rw [fA, fA, Ο, h];omega
 | n + 1, k + 1 => by
  have h1 := ib n k;have h2 := ib n (k + 1);show (be n (k + 1) + be n (k + 1 + 1)) * (k + 1 + 1) = (be n k + be n (k + 1)) * (n + 1 - (k + 1));by_cases hk : n <= k
  ·rw [iM (show n < k + 1 by omega), iM (show n < k + 1 + 1 by omega), show n + 1 - (k + 1) = 0 by omega, ψ]
   omega
  ·obtain ⟨x, hx⟩ : ∃ x, n - (k + 1) = x := ⟨_, rfl⟩;have hy : n - k = x + 1 := ae;rw [hx] at h2;rw [show n + 1 - (k + 1) = x + 1 by omega, Ο, Ο, h2, <- hy, <- h1, hy, HI, HI, HI]
   omega
theorem ql (n k : Nat) : be n k * (n - k) / (k + 1) = be n (k + 1) := by
 rw [<- ib, Nat.mul_div_cancel _ ae]
def Sm : Nat -> (Nat -> Nat) -> Nat
 | 0, _ => 0
 | n + 1, f => Sm n f + f n
theorem bv {f g : Nat -> Nat} : ∀ {n : Nat}, (∀ i, i < n -> f i = g i) -> Sm n f = Sm n g
 | 0, _ => rfl
 | n + 1, h => by
  show Sm n f + f n = Sm n g + g n;rw [bv λ i hi => h i ae, h n ae]
theorem iP (f : Nat -> Nat) : ∀ n, Sm (n + 1) f = f 0 + Sm n λ i => f (i + 1)
 | 0 => by show 0 + f 0 = f 0 + 0; omega
 | n + 1 => by
  show Sm (n + 1) f + f (n + 1) = f 0 + (Sm n (λ i => f (i + 1)) + f (n + 1));rw [iP f n];omega
theorem mR (f g : Nat -> Nat) : ∀ n, Sm n (λ i => f i + g i) = Sm n f + Sm n g
 | 0 => rfl
 | n + 1 => by
  show Sm n (λ i => f i + g i) + (f n + g n) = (Sm n f + f n) + (Sm n g + g n);rw [mR f g n];omega
theorem nV : ∀ n, Sm n (λ _ => 0) = 0
 | 0 => rfl
 | n + 1 => by show Sm n (λ _ => 0) + 0 = 0; rw [nV n]
theorem qB {f : Nat -> Nat} {k : Nat} : ∀ {n : Nat}, (∀ i, i < n -> i ≠ k -> f i = 0) -> Sm n f = if k < n then f k else 0
 | 0, _ => rfl
 | n + 1, h => by
  show Sm n f + f n = _;rw [qB (k := k) λ i hi ne => h i ae ne];by_cases e : n = k
  ·subst e;rw [É (ÿ _), Ô ae];omega
  ·rw [h n ae e];by_cases l : k < n
   ·rw [Ô l, Ô ae]; omega
   ·rw [É l, É ae]
theorem oO (a : Nat) (G : Nat -> Nat) : Sm (a + 2) (λ i => be (a + 1) i * G i) = Sm (a + 1) (λ i => be a i * G i) + Sm (a + 1) (λ i => be a i * G (i + 1)) := by
 rw [iP];have e : ∀ i, be (a + 1) (i + 1) * G (i + 1) = be a i * G (i + 1) + be a (i + 1) * G (i + 1) := λ i => by
  show (be a i + be a (i + 1)) * G (i + 1) = _;rw [Ο]
 rw [bv λ i _ => e i, mR];have e2 : be a 0 * G 0 + Sm (a + 1) (λ i => be a (i + 1) * G (i + 1)) = Sm (a + 1) (λ i => be a i * G i) := by
  rw [<- iP (λ i => be a i * G i) (a + 1)];show Sm (a + 1) (λ i => be a i * G i) + be a (a + 1) * G (a + 1) = _;rw [iM ae, Nat.zero_mul, Nat.add_zero]
 rw [<- e2, fA, fA];omega
def EE (f : Int -> Int -> Nat) : List (Int × Int) -> Int -> Int -> Nat
 | [], u, v => f u v
 | p :: ps, u, v => EE f ps u (v + p.1) + EE f ps (u + 1) (v + p.2)
theorem tZ {f : Int -> Int -> Nat} {L M : List (Int × Int)} (h : L.Perm M) : ∀ u v, EE f L u v = EE f M u v := by
 induction h with
 | nil => exact λ u v => rfl
 | cons p _ ih =>
  intro u v;show EE f _ u (v + p.1) + EE f _ (u + 1) (v + p.2) = _;rw [ih, ih];rfl
 | swap p q L =>
  intro u v;show (EE f L u (v + q.1 + p.1) + EE f L (u + 1) (v + q.1 + p.2)) + (EE f L (u + 1) (v + q.2 + p.1) + EE f L (u + 1 + 1) (v + q.2 + p.2)) = (EE f L u (v + p.1 + q.1) + EE f L (u + 1) (v + p.1 + q.2)) + (EE f L (u + 1) (v + p.2 + q.1) + EE f L (u + 1 + 1) (v + p.2 + q.2));rw [show v + q.1 + p.1 = v + p.1 + q.1 by omega, show v + q.1 + p.2 = v + p.2 + q.1 by omega, show v + q.2 + p.1 = v + p.1 + q.2 by omega, show v + q.2 + p.2 = v + p.2 + q.2 by omega]
  omega
 | trans _ _ i1 i2 => exact λ u v => (i1 u v).trans (i2 u v)
theorem fZ {f : Int -> Int -> Nat} {p : Int × Int} {M : List (Int × Int)} : ∀ (a : Nat) (u v : Int), EE f (List.replicate a p ++ M) u v = Sm (a + 1) λ i => be a i * EE f M (u + i) (v + i * p.2 + ((a : Int) - i) * p.1)
 | 0, u, v => by
  show EE f M u v = 0 + be 0 0 * EE f M (u + ((0 : Nat) : Int)) (v + ((0 : Nat) : Int) * p.2 + (((0 : Nat) : Int) - ((0 : Nat) : Int)) * p.1);rw [fA];simp
 | a + 1, u, v => by
  rw [Ő, ŧ];show EE f (List.replicate a p ++ M) u (v + p.1) + EE f (List.replicate a p ++ M) (u + 1) (v + p.2) = _;rw [fZ a, fZ a, oO a λ i => EE f M (u + i) (v + i * p.2 + (((a + 1 : Nat) : Int) - i) * p.1)]
  congr 1
  ·refine bv λ i _ => ?_
   congr 2
   rw [show (((a + 1 : Nat) : Int) - i) = ((a : Int) - i) + 1 by omega, Int.add_mul ((a : Int) - i) 1 p.1]
   omega
  ·refine bv λ i _ => ?_
   congr 2
   ·omega
   ·rw [show (((a + 1 : Nat) : Int) - ((i + 1 : Nat) : Int)) = ((a : Int) - i) by omega, show (((i + 1 : Nat) : Int)) = (i : Int) + 1 by omega, Int.add_mul (i : Int) 1 p.2]
    omega
theorem oG {f : Int -> Int -> Nat} (h : ∀ u v, f u v <= 1) : ∀ (L : List (Int × Int)) (u v : Int), EE f L u v <= 2 ^ L.length
 | [], u, v => h u v
 | p :: L, u, v => by
  have h1 := oG h L u (v + p.1);have h2 := oG h L (u + 1) (v + p.2);show EE f L u (v + p.1) + EE f L (u + 1) (v + p.2) <= 2 ^ (L.length + 1);rw [GY];omega
theorem j8 {f : Int -> Int -> Nat} {o : Nat} (hf : ∀ v, 0 < f o v) : ∀ (L : List (Int × Int)) (u : Nat) (v : Int), u <= o -> o - u <= L.length -> 0 < EE f L u v
 | [], u, v, h1, h2 => by
  have e : u = o := by simp at h2; omega
  subst e;exact hf v
 | p :: L, u, v, h1, h2 => by
  rw [Ñ] at h2;show 0 < EE f L u (v + p.1) + EE f L (((u : Nat) : Int) + 1) (v + p.2);by_cases c : o - u <= L.length
  ·have := j8 hf L u (v + p.1) h1 c;omega
  ·have := j8 hf L (u + 1) (v + p.2) ae ae;rw [show (((u + 1 : Nat) : Int)) = (u : Int) + 1 by omega] at this
   omega
section
variable {α κ : Type} [DecidableEq α] [DecidableEq κ]
def lV : List (α × Nat) -> α -> Nat
 | [], _ => 0
 | p :: r, k => if p.1 = k then p.2 else lV r k
def fM : List (α × Nat) -> α -> Nat -> List (α × Nat)
 | [], k, c => [(k, c)]
 | p :: r, k, c => if p.1 = k then (p.1, p.2 + c) :: r else p :: fM r k c
def l5 : List (α × Nat) -> α -> Nat -> List (α × Nat)
 | [], k, c => [(k, c)]
 | p :: r, k, c => if p.1 = k then (p.1, c) :: r else p :: l5 r k c
def dS (g : α -> Nat) : List (α × Nat) -> Nat
 | [] => 0
 | p :: r => p.2 * g p.1 + dS g r
theorem l0 (g : α -> Nat) : ∀ ps qs : List (α × Nat), dS g (ps ++ qs) = dS g ps + dS g qs
 | [], qs => by show dS g qs = 0 + dS g qs; omega
 | p :: r, qs => by show p.2 * g p.1 + dS g (r ++ qs) = p.2 * g p.1 + dS g r + dS g qs; rw [l0 g r qs]; omega
theorem rV (g : α -> Nat) (k : α) (c : Nat) : ∀ ps : List (α × Nat), dS g (fM ps k c) = dS g ps + c * g k
 | [] => by show c * g k + 0 = 0 + c * g k; omega
 | p :: r => by
  unfold fM;split
  ·rename_i e
   show (p.2 + c) * g p.1 + dS g r = p.2 * g p.1 + dS g r + c * g k;rw [e, Ο];omega
  ·show p.2 * g p.1 + dS g (fM r k c) = p.2 * g p.1 + dS g r + c * g k;rw [rV g k c r];omega
theorem lB {k : α} {c : Nat} {x : α} : ∀ {ps : List (α × Nat)}, x ∈ (fM ps k c).map (·.1) -> x = k \/ x ∈ ps.map (·.1)
 | [], h => by
  have h' : x ∈ [k] := h;exact .inl (ê.mp h')
 | p :: r, h => by
  unfold fM at h;split at h
  ·exact .inr h
  ·rw [Í] at h;rcases Ï.mp h with h | h
   ·exact .inr (by rw [Í]; exact Ï.mpr (.inl h))
   ·rcases lB h with h | h
    ·exact .inl h
    ·exact .inr (by rw [Í]; exact Î _ h)
structure HS (ps : List (α × Nat)) : Prop where
 nd : (ps.map (·.1)).Nodup
 pos : ∀ q ∈ ps, 0 < q.2
theorem vb : HS ([] : List (α × Nat)) := ⟨List.nodup_nil, λ q h => nomatch h⟩
theorem HS.tail {p : α × Nat} {r : List (α × Nat)} (h : HS (p :: r)) : HS r := by
 have nd := h.nd;rw [Í, þ] at nd;exact ⟨nd.2, λ q hq => h.pos q (Î _ hq)⟩
theorem HS.add {k : α} {c : Nat} (hc : 0 < c) : ∀ {ps : List (α × Nat)}, HS ps -> HS (fM ps k c)
 | [], _ => ⟨by show ([k] : List α).Nodup; simp, λ q hq => by cases List.mem_singleton.mp (show q ∈ [(k, c)] from hq); exact hc⟩
 | p :: r, h => by
  have nd := h.nd;rw [Í, þ] at nd;have pp := h.pos p (Ù ..);unfold fM;split
  ·exact ⟨by rw [Í, þ]; exact nd, λ q hq => by
    rcases Ï.mp hq with rfl | hq
    ·show 0 < p.2 + c; omega
    ·exact h.pos q (Î _ hq)⟩
  ·rename_i ne
   have t := (HS.tail h).add (k := k) hc;exact ⟨by
    rw [Í, þ];exact ⟨λ z => by
     rcases lB z with z | z
     ·exact ne z
     ·exact nd.1 z, t.nd⟩, λ q hq => by
    rcases Ï.mp hq with rfl | hq
    ·exact pp
    ·exact t.pos q hq⟩
theorem r9 {k : α} : ∀ {ps : List (α × Nat)}, k ∉ ps.map (·.1) -> lV ps k = 0
 | [], _ => rfl
 | p :: r, h => by
  rw [Í, Ï] at h;unfold lV;rw [É (λ z => h (.inl z.symm)), r9 (λ z => h (.inr z))]
theorem vk {k : α} : ∀ {ps : List (α × Nat)}, k ∉ ps.map (·.1) -> dS (λ x => if x = k then 1 else 0) ps = 0
 | [], _ => rfl
 | p :: r, h => by
  rw [Í, Ï] at h;show p.2 * (if p.1 = k then 1 else 0) + dS _ r = 0
  rw [É (λ z => h (.inl z.symm)), vk (λ z => h (.inr z))];rfl
theorem vE {k : α} : ∀ {ps : List (α × Nat)}, (ps.map (·.1)).Nodup -> lV ps k = dS (λ x => if x = k then 1 else 0) ps
 | [], _ => rfl
 | p :: r, nd => by
  rw [Í, þ] at nd;show (if p.1 = k then p.2 else lV r k) = p.2 * (if p.1 = k then 1 else 0) + dS _ r
  by_cases e : p.1 = k
  ·rw [Ô e, Ô e, vk (by rw [<- e]; exact nd.1)]
   omega
  ·rw [É e, É e, vE nd.2];omega
theorem jY {q : α × Nat} : ∀ {ps : List (α × Nat)}, (ps.map (·.1)).Nodup -> q ∈ ps -> lV ps q.1 = q.2
 | p :: r, nd, h => by
  rw [Í, þ] at nd;unfold lV;rcases Ï.mp h with rfl | h
  ·rw [Ô rfl]
  ·rw [É (λ z => nd.1 (by rw [z]; exact õ.mpr ⟨q, h, rfl⟩)), jY nd.2 h]
theorem HS.mem {ps : List (α × Nat)} (h : HS ps) {k : α} : k ∈ ps.map (·.1) ↔ 0 < lV ps k := by
 constructor
 ·intro hk;obtain ⟨q, hq, rfl⟩ := õ.mp hk;rw [jY h.nd hq];exact h.pos q hq
 ·intro hk;refine Classical.byContradiction λ z => ?_;rw [r9 z] at hk;exact absurd hk (ÿ _)
theorem qQ : ∀ ps : List (α × Nat), ((ps.map λ q => ((q.2 : Nat) : Int)).sum) = ((dS (λ _ => 1) ps : Nat) : Int)
 | [] => rfl
 | p :: r => by
  show ((p.2 : Nat) : Int) + (r.map λ q => ((q.2 : Nat) : Int)).sum = ((p.2 * 1 + dS (λ _ => 1) r : Nat) : Int);rw [qQ r];omega
def eT (f : α -> κ) (ps : List (α × Nat)) : List (κ × V) := ps.map λ p => (f p.1, V.int (p.2 : Nat))
theorem nJ {f : α -> κ} {ps : List (α × Nat)} : (eT f ps).length = ps.length := Æ ..
theorem jR {f : α -> κ} (inj : ∀ a b, f a = f b -> a = b) (k : α) : ∀ {ps : List (α × Nat)}, (cL (eT f ps) (f k) = none /\ lV ps k = 0 /\ k ∉ ps.map (·.1)) \/ (cL (eT f ps) (f k) = some (.int (lV ps k : Nat)) /\ k ∈ ps.map (·.1))
 | [] => .inl ⟨rfl, rfl, by simp⟩
 | p :: r => by
  by_cases e : p.1 = k
  ·refine .inr ⟨?_, by rw [Í, e]; exact Ù ..⟩
   show cL ((f p.1, V.int (p.2 : Nat)) :: eT f r) (f k) = _;rw [du (by rw [e])]
   unfold lV;rw [Ô e]
  ·have ne : ¬ f p.1 = f k := λ z => e (inj _ _ z);have e2 : cL (eT f (p :: r)) (f k) = cL (eT f r) (f k) := by
    show cL ((f p.1, V.int (p.2 : Nat)) :: eT f r) (f k) = _;rw [dD ne]
   unfold lV;rw [É e, e2, Í, Ï];rcases jR inj k (ps := r) with ⟨h1, h2, h3⟩ | ⟨h1, h2⟩
   ·exact .inl ⟨h1, h2, λ z => by
     rcases z with z | z
     ·exact e z.symm
     ·exact h3 z⟩
   ·exact .inr ⟨h1, .inr h2⟩
theorem ID {p : κ × V} {r : List (κ × V)} {k : κ} {v : V} (h : ¬ p.1 = k) : bI (p :: r) k v = p :: bI r k v := by
 unfold bI;rw [Υ, â h, Bool.false_or];split
 ·rw [Í, É h]
 ·rfl
theorem IE {p : κ × V} {r : List (κ × V)} {k : κ} {v : V} (h : p.1 = k) (n : k ∉ r.map (·.1)) : bI (p :: r) k v = (p.1, v) :: r := by
 unfold bI;rw [Υ, Ç h, Bool.true_or, Ô rfl, Í, Ô h]
 congr 1
 refine (Gj λ q hq => ?_).trans (List.map_id r);rw [É (λ z => n (õ.mpr ⟨q, hq, z⟩))];rfl
theorem sF {f : α -> κ} {ps : List (α × Nat)} : (eT f ps).map (·.1) = ps.map λ q => f q.1 := by
 unfold eT;rw [ŉ];rfl
theorem wB {f : α -> κ} (inj : ∀ a b, f a = f b -> a = b) {k : α} {ps : List (α × Nat)} (h : k ∉ ps.map (·.1)) : f k ∉ (eT f ps).map (·.1) := λ z => by
 rw [sF] at z;obtain ⟨q, hq, e⟩ := õ.mp z;exact h (õ.mpr ⟨q, hq, inj _ _ e⟩)
theorem nN {f : α -> κ} (inj : ∀ a b, f a = f b -> a = b) (k : α) (c : Nat) : ∀ {ps : List (α × Nat)}, (ps.map (·.1)).Nodup -> bI (eT f ps) (f k) (.int (c : Nat)) = eT f (l5 ps k c)
 | [], _ => rfl
 | p :: r, nd => by
  rw [Í, þ] at nd;show bI ((f p.1, V.int (p.2 : Nat)) :: eT f r) (f k) _ = eT f (l5 (p :: r) k c);by_cases e : p.1 = k
  ·rw [IE (by rw [e]) (wB inj (by rw [<- e]; exact nd.1))]
   unfold l5;rw [Ô e];rfl
  ·rw [ID (λ z => e (inj _ _ z)), nN inj k c nd.2];show _ = eT f (if p.1 = k then (p.1, c) :: r else p :: l5 r k c)
   rw [É e];rfl
theorem kg {k : α} {c : Nat} : ∀ {ps : List (α × Nat)}, l5 ps k (lV ps k + c) = fM ps k c
 | [] => by show [(k, 0 + c)] = [(k, c)]; rw [GV]
 | p :: r => by
  unfold l5 fM lV;by_cases e : p.1 = k
  ·rw [Ô e, Ô e, Ô e]
  ·rw [É e, É e, É e, kg]
theorem tL {f : α -> κ} (inj : ∀ a b, f a = f b -> a = b) (k : α) (c : Nat) {ps : List (α × Nat)} (nd : (ps.map (·.1)).Nodup) : bI (eT f ps) (f k) (.int (lV ps k + c : Nat)) = eT f (fM ps k c) := by
 rw [nN inj k _ nd, kg]
theorem kq {k : α} {c : Nat} : ∀ (ps : List (α × Nat)), (fM ps k c).length <= ps.length + 1
 | [] => Å _
 | p :: r => by
  unfold fM;split
  ·exact Nat.le_succ _
  ·have := kq (k := k) (c := c) r;rw [Ñ, Ñ];omega
end
theorem Nh {β : Type} [DecidableEq β] : ∀ {xs ys : List β}, xs.Nodup -> (∀ x ∈ xs, x ∈ ys) -> xs.length <= ys.length
 | [], _, _, _ => Ċ _
 | x :: xs, ys, nd, h => by
  rw [þ] at nd;have hx := h x (Ù ..);have l := List.length_erase_of_mem hx;have := Nh (xs := xs) (ys := ys.erase x) nd.2 λ z hz => (List.mem_erase_of_ne (λ e => by subst e; exact nd.1 hz)).mpr (h z (Î _ hz))
  have p : 0 < ys.length := b_ hx;rw [Ñ];omega
def oH (O n : Int) (p : Int × Int) : Int × Int := (0 - O * p.2, (n - O) * p.1)
def fg (O : Int) (g : Int -> Nat) (u v : Int) : Nat := if u = O then g v else 0
def bL (L : List (Int × Int)) : Prop := ∀ p ∈ L, (p.1 = 0 \/ p.1 = 1) /\ (p.2 = 0 \/ p.2 = 1)
def eI (a b c d : Nat) : List (Int × Int) := List.replicate a (1, 0) ++ (List.replicate b (0, 1) ++ (List.replicate c (1, 1) ++ List.replicate d (0, 0)))
theorem fP : ∀ {L : List (Int × Int)}, bL L -> L.Perm (eI (L.count (1, 0)) (L.count (0, 1)) (L.count (1, 1)) (L.count (0, 0)))
 | [], _ => by simp [eI]
 | p :: L, h => by
  have ih := fP (L := L) λ q hq => h q (Î _ hq);obtain ⟨h1, h2⟩ := h p (Ù ..);obtain ⟨x, y⟩ := p;have h1 : x = 0 \/ x = 1 := h1;have h2 : y = 0 \/ y = 1 := h2;have st := List.Perm.cons (x, y) ih;refine st.trans ?_;unfold eI;rcases h1 with rfl | rfl <;> rcases h2 with rfl | rfl
  ·rw [è ag, è ag, è ag, ŭ, Ő];rw [<- ù, <- ù, <- ù, <- ù];exact θ.symm
  ·rw [è ag, ŭ, è ag, è ag, Ő (n := List.count (0, 1) L), ŧ];exact θ.symm
  ·rw [ŭ, è ag, è ag, è ag, Ő, ŧ]
  ·rw [è ag, è ag, ŭ, è ag, Ő (n := List.count (1, 1) L), ŧ];generalize List.replicate (List.count (1, 0) L) ((1 : Int), (0 : Int)) = A;generalize List.replicate (List.count (0, 1) L) ((0 : Int), (1 : Int)) = B;generalize List.replicate (List.count (1, 1) L) ((1 : Int), (1 : Int)) = C;generalize List.replicate (List.count (0, 0) L) ((0 : Int), (0 : Int)) = D;rw [<- ù A B (C ++ D), <- ù A B ((1, 1) :: (C ++ D))];exact θ.symm
def gL (O n b c : Int) (i j k : Int) : Int := (n - O) * (i + k) - O * (b - j + c - k)
abbrev Q4 := Int × Int × Int × Int
def er (O : Int) (a b c d : Nat) (i j k : Nat) : List (Q4 × Nat) := if 0 <= O - i - j - k /\ O - i - j - k <= d then [(((i : Int), (j : Int), (k : Int), O - i - j - k), be a i * be b j * be c k * be d (O - i - j - k).toNat)] else []
def fu (O : Int) (a b c d : Nat) (i j m : Nat) : List (Q4 × Nat) := (List.range m).flatMap (er O a b c d i j)
def gz (O : Int) (a b c d : Nat) (i m : Nat) : List (Q4 × Nat) := (List.range m).flatMap λ j => fu O a b c d i j (c + 1)
def cB (O : Int) (a b c d : Nat) (m : Nat) : List (Q4 × Nat) := (List.range m).flatMap λ i => gz O a b c d i (b + 1)
theorem cS {β : Type} (f : Nat -> List β) (n : Nat) : (List.range (n + 1)).flatMap f = (List.range n).flatMap f ++ f n := by
 rw [ý, Gk];simp
theorem gT {α : Type} [DecidableEq α] (G : α -> Nat) (f : Nat -> List (α × Nat)) : ∀ n, dS G ((List.range n).flatMap f) = Sm n λ i => dS G (f i)
 | 0 => rfl
 | n + 1 => by
  rw [cS, l0, gT G f n];rfl
def v4 (O n b c : Int) (q : Q4) : Int := gL O n b c q.1 q.2.1 q.2.2.1
theorem uM {O : Int} {g : Int -> Nat} (d : Nat) (u v : Int) : EE (fg O g) (List.replicate d ((0 : Int), (0 : Int))) u v = if 0 <= O - u /\ O - u <= d then be d (O - u).toNat * g v else 0 := by
 have e := fZ (f := fg O g) (p := (0, 0)) (M := []) d u v;rw [ã] at e;rw [e];have e2 : ∀ i : Nat, be d i * EE (fg O g) [] (u + i) (v + i * (0 : Int) + ((d : Int) - i) * (0 : Int)) = be d i * fg O g (u + i) v := λ i => by
  rw [Ō, Ō, Int.add_zero, Int.add_zero];rfl
 rw [bv λ i _ => e2 i];by_cases h : 0 <= O - u
 ·rw [qB (k := (O - u).toNat) λ i _ ne => ?_]
  ·by_cases h2 : O - u <= d
   ·rw [Ô ae, Ô ⟨h, h2⟩];unfold fg;rw [Ô ae]
   ·rw [É ae, É (λ z => h2 z.2)]
  ·unfold fg;rw [É ae, ψ]
 ·rw [É (λ z => h z.1)];rw [bv (g := λ _ => 0) λ i _ => ?_, nV];unfold fg;rw [É ae, ψ]
theorem jA (x : Nat) (f : Nat -> Nat) : ∀ n, x * Sm n f = Sm n λ i => x * f i
 | 0 => rfl
 | n + 1 => by
  show x * (Sm n f + f n) = Sm n (λ i => x * f i) + x * f n;rw [HI, jA x f n]
theorem jF {L : List (Int × Int)} (h : bL L) (O n : Int) (g : Int -> Nat) : EE (fg O g) (L.map (oH O n)) 0 0 = dS (λ q => g (v4 O n (L.count (0, 1) : Nat) (L.count (1, 1) : Nat) q)) (cB O (L.count (1, 0)) (L.count (0, 1)) (L.count (1, 1)) (L.count (0, 0)) (L.count (1, 0) + 1)) := by
 rw [tZ ((fP h).map (oH O n))];generalize L.count (1, 0) = a;generalize L.count (0, 1) = b;generalize L.count (1, 1) = c;generalize L.count (0, 0) = d;unfold eI;rw [Ó, Ó, Ó, ž, ž, ž, ž];have w0 : oH O n (1, 0) = (0, n - O) := by show (0 - O * 0, (n - O) * 1) = _; rw [Ō, t_, Int.sub_zero]
 have w1 : oH O n (0, 1) = (- O, 0) := by show (0 - O * 1, (n - O) * 0) = _; rw [Ō, t_, G1]
 have w2 : oH O n (1, 1) = (- O, n - O) := by show (0 - O * 1, (n - O) * 1) = _; rw [t_, t_, G1]
 have w3 : oH O n (0, 0) = (0, 0) := by show (0 - O * 0, (n - O) * 0) = _; rw [Ō, Ō, Int.sub_zero]
 rw [w0, w1, w2, w3, fZ];unfold cB;rw [gT];refine bv λ i _ => ?_;rw [fZ, jA];unfold gz;rw [gT];refine bv λ j _ => ?_;rw [fZ, jA, jA];unfold fu;rw [gT];refine bv λ k _ => ?_;rw [uM];unfold er;have eu : O - (0 + (i : Int) + (j : Int) + (k : Int)) = O - i - j - k := ae;rw [eu];by_cases hc : 0 <= O - i - j - k /\ O - i - j - k <= d
 ·rw [Ô hc, Ô hc];show _ = be a i * be b j * be c k * be d (O - i - j - k).toNat * g (gL O n b c i j k) + 0;simp only [Nat.add_zero, Nat.mul_assoc]
  congr 5
  unfold gL;show 0 + (i : Int) * (n - O) + ((a : Int) - i) * 0 + (j : Int) * 0 + ((b : Int) - j) * (- O) + (k : Int) * (n - O) + ((c : Int) - k) * (- O) = (n - O) * ((i : Int) + k) - O * ((b : Int) - j + c - k);rw [Ō, Ō, Int.mul_neg, Int.mul_neg, Int.mul_add, show (b : Int) - j + c - k = (b - j) + (c - k) by omega, Int.mul_add, ź (i : Int), ź (k : Int), ź O, ź O]
  omega
 ·rw [É hc, É hc];rfl
def eR : Nat -> Nat -> Nat
 | 0, _ => 0
 | n + 1, x => x % 2 + eR n (x / 2)
def qI : List (Int × Int) -> Nat -> Int
 | [], _ => 0
 | p :: W, x => (if x % 2 = 1 then p.2 else p.1) + qI W (x / 2)
theorem qS (f : Nat -> Nat) : ∀ m, Sm (2 * m) f = Sm m λ y => f (2 * y) + f (2 * y + 1)
 | 0 => rfl
 | m + 1 => by
  show Sm (2 * m + 1 + 1) f = Sm m (λ y => f (2 * y) + f (2 * y + 1)) + (f (2 * m) + f (2 * m + 1));show Sm (2 * m) f + f (2 * m) + f (2 * m + 1) = _;rw [qS f m];omega
theorem iD {f : Int -> Int -> Nat} : ∀ (W : List (Int × Int)) (u v : Int), Sm (2 ^ W.length) (λ x => f (u + (eR W.length x : Nat)) (v + qI W x)) = EE f W u v
 | [], u, v => by
  show 0 + f (u + ((0 : Nat) : Int)) (v + 0) = f u v;simp
 | p :: W, u, v => by
  rw [Ñ, GY, Nat.mul_comm, qS, mR];show _ = EE f W u (v + p.1) + EE f W (u + 1) (v + p.2);rw [<- iD W u (v + p.1), <- iD W (u + 1) (v + p.2)]
  congr 1
  ·refine bv λ y _ => ?_;have e1 : 2 * y % 2 = 0 := ae;have e2 : 2 * y / 2 = y := ae
   congr 1
   ·show u + ((2 * y % 2 + eR W.length (2 * y / 2) : Nat) : Int) = _;rw [e1, e2, GV]
   ·show v + ((if 2 * y % 2 = 1 then p.2 else p.1) + qI W (2 * y / 2)) = _
    rw [e1, e2, É ag];omega
  ·refine bv λ y _ => ?_;have e1 : (2 * y + 1) % 2 = 1 := ae;have e2 : (2 * y + 1) / 2 = y := ae
   congr 1
   ·show u + (((2 * y + 1) % 2 + eR W.length ((2 * y + 1) / 2) : Nat) : Int) = _;rw [e1, e2];omega
   ·show v + ((if (2 * y + 1) % 2 = 1 then p.2 else p.1) + qI W ((2 * y + 1) / 2)) = _
    rw [e1, e2, Ô rfl];omega
theorem jt {X : Cx} {sc : Scope} {ts : List Str} {L : List (Str × NameKind)} (n_ : closureFor sc X.env = pure []) (kind : sc.kind = .function) (nc : ∀ y ∈ sc.names, y.2 ≠ .cell) (nm : ∀ y ∈ sc.names, y.2 = .local -> sc.names.lookup y.1 = some .local) (var : ∀ x ∈ ts, sc.names.lookup x = some .local)
  (rl : (relabel sc X.env).names = L) (has : ∀ y ∈ L, ¬(y.2 = .cell \/ y.2 = .free)) (nd : (ts ++ []).Nodup) : aY X sc [] ts [] [] := by
 refine ⟨n_, kind, nc, nm, var, (λ z c h => by cases h), λ z h => ?_, nd, (λ k z h => by simp at h), rfl⟩
 rw [rl] at h;rcases h with h | h
 ·exact absurd (.inl rfl) (has _ (ā h))
 ·exact absurd (.inr rfl) (has _ (ā h))
end My
namespace My
open PySem L2
theorem uZ {z x : Str} {c d : Addr} {cl : List (Str × Addr)} (n : z ≠ x) (h : cl.lookup z = some c) : List.lookup z ((x, d) :: cl) = some c := by
 rw [Hr, ī.mpr n]; exact h
theorem tY {x : Str} {d : Addr} {cl : List (Str × Addr)} : List.lookup x ((x, d) :: cl) = some d := by
 rw [Hr, ζ]
end My
namespace My
open PySem PySem.W L2
theorem i6 : ∀ {cl : List (Str × Addr)} {z : Str}, z ∈ cl.map (·.1) -> ∃ c, cl.lookup z = some c
 | (x, d) :: cl, z, h => by
  by_cases e : z = x
  ·subst e; exact ⟨d, tY⟩
  ·rw [Í, Ï] at h;rcases h with h | h
   ·exact absurd h e
   ·obtain ⟨c, hc⟩ := i6 h;exact ⟨c, uZ e hc⟩
theorem bP {X : Cx} {sc : Scope} {cl : List (Str × Addr)} {ts zs : List Str} {js : List Nat} {M : List Str} {L : List (Str × NameKind)} (n_ : closureFor sc X.env = pure cl) (kind : sc.kind = .function) (nc : ∀ y ∈ sc.names, y.2 ≠ .cell) (nm : ∀ y ∈ sc.names, y.2 = .local -> sc.names.lookup y.1 = some .local) (var : ∀ x ∈ ts, sc.names.lookup x = some .local)
  (hM : cl.map (·.1) = M) (hc : cl.map (λ y => X.env.cells.lookup y.1) = cl.map (λ y => some y.2)) (rl : (relabel sc X.env).names = L) (has : ∀ y ∈ L, (y.2 = .cell \/ y.2 = .free) -> y.1 ∈ M) (nd : (ts ++ zs).Nodup)
  (hj : zs.map some = js.map (λ j => X.N[j]?)) (hv : zs.map (λ z => X.env.scope.names.lookup z) = zs.map (λ _ => some .cell)) (hl : zs.map (λ z => L.lookup z) = zs.map (λ _ => some .cell)) : aY X sc cl ts zs js := by
 have ln : js.length = zs.length := by have := Ė List.length hj; simpa using this.symm
 refine ⟨n_, kind, nc, nm, var, λ z c h => ?_, λ z h => ?_, nd, λ k z h => ?_, ln⟩
 ·have m := ā h;obtain ⟨i, hi, e⟩ := Ĭ m;have q := Ė (λ l => l[i]?) hc;simp only [List.getElem?_map, List.getElem?_eq_getElem hi, e, Option.map_some] at q;exact Ò q
 ·rw [rl] at h;refine i6 ?_;rw [hM];rcases h with h | h
  ·exact has _ (ā h) (.inl rfl)
  ·exact has _ (ā h) (.inr rfl)
 ·have hk : k < zs.length := (Ø.mp h).1;have KL : k < js.length := by rw [ln]; exact hk
  have q := Ė (λ l => l[k]?) hj;simp only [List.getElem?_map, h, List.getElem?_eq_getElem KL, Option.map_some] at q;have v := Ė (λ l => l[k]?) hv;simp only [List.getElem?_map, h, Option.map_some] at v;have u := Ė (λ l => l[k]?) hl;simp only [List.getElem?_map, h, Option.map_some] at u;have v' : X.env.scope.names.lookup z = some .cell := Ò v;refine ⟨js[k], Ã KL, (Ò q).symm, .inr (.inl v'), λ e => ?_, .inl (by rw [rl]; exact Ò u)⟩
  have e' : X.env.scope.names.lookup z = some .local := e;rw [v'] at e'; cases e'
section
variable {X : Cx}
def vL (K : Frag) : List V -> Hp -> VK -> Prop := λ vs H Q => ∃ (l : Addr) (ns : List Int), vs = [.ref l] /\ ą K H l (ns.map V.int) /\ Q (.int ns.sum) H
theorem gj (hc : X.calm = true) : ce X (.builtin "sum") (vL X.K) := by
 intro pins s σ H xs us Q I r h;obtain ⟨l, ns, rfl, hl, q⟩ := h;obtain ⟨u, rfl, ru⟩ := cW r;cases (show u = Value.ref l from ru);obtain ⟨its, rv, p, hz⟩ := I.tuple hl;have hT : s.heap.IsTuple l its.toArray := p;have ŏ : l < s.heap.objs.size := by
  obtain ⟨o, h, _⟩ := hT;exact È h
 refine call_sum_walkG (š hT ?_);refine ⟨s.heap.objs.size, _, _, _, _, _, λ i => ns.getD i 0, rfl, Walks.tuple (A := X.A.in1) (show (X.A.in1).handled = none from I.ok.hd hc) _ l (Ë ŏ) its.toArray, ⟨⟨_, Ê _ rfl, rfl, rfl⟩, ?_⟩, ?_, ?_, ?_⟩
 ·obtain ⟨o, h1, h2⟩ := hT;exact ⟨o, Á _ h1, h2⟩
 ·intro b hb;show b < (s.heap.push _).objs.size;rw [æ];simp only [List.mem_cons, List.not_mem_nil, or_false] at hb;rcases hb with rfl | rfl
  ·exact Nat.lt_succ_self _
  ·exact ē ŏ
 ·intro i v hv;have KB : its[i]? = some v := by simpa using hv
  obtain ⟨xs, rfl, rfl⟩ := cA rv;rw [Õ] at KB;obtain ⟨p, hp, rfl⟩ := ğ.mp KB;refine ⟨p.2, ?_⟩;show Value.int p.1 p.2 = Value.int ((xs.map (·.1)).getD i 0) p.2;rw [ģ, Õ, hp];rfl
 ·intro h' tk t' k;have ln : its.toArray.size = ns.length := by have := rv.length; rw [Æ] at this; simp; omega
  rw [ln, jW];exact ⟨.int _, H, I.kept (t' := tk) λ b o eb => k b o (λ z => by rw [ê.mp z] at eb; exact absurd (È eb) (ÿ _)) (Á _ eb), ⟨_, rfl⟩, q⟩
end
section
variable {P : Program} {w : World} {K : Frag} {mg : bE} {base : Heap}
theorem rW : ((["count"] : List Str) ++ ([] : List Str)).Nodup := aF
abbrev CQ : Stmt := cf 46
def cg (n m : Nat) : List Int := (List.range m).map λ i => ((be n i : Nat) : Int)
def rY : Sp := λ vs H Q _ => ∃ n : Nat, vs = [.int (n : Nat)] /\ n <= 20 /\ ∀ l H', H l = none -> H' l = some (.lst ((cg n (n + 1)).map V.int)) -> (∀ b, b ≠ l -> H' b = H b) -> Q (.ref l) H'
theorem LU : af ["many", "ways", "chosen"] ["many"] (aa CQ) := aQ
theorem ja (n m : Nat) : cg n (m + 1) = cg n m ++ [((be n m : Nat) : Int)] := by
 unfold cg;rw [ý, Ó];rfl
theorem kS {α : Type} {xs : List α} {x : α} : lW (xs ++ [x]) (-1) = some x := by
 unfold lW sw;rw [É ag, Ô (by rw [Ì]; simp; omega)]
 show (xs ++ [x])[_]? = some x;rw [show ((-1 : Int) + ((xs ++ [x]).length : Nat)).toNat = xs.length by rw [Ì]; simp; omega]
 simp
theorem iC {n k : Nat} (h : n <= 20) : be n k <= 2 ^ 20 := by
 have : ∀ n k, be n k <= 2 ^ n := by
  intro n
  induction n with
  | zero =>
   intro k;cases k with
   | zero => exact Å _
   | succ k => exact Ċ _
  | succ n ih =>
   intro k;cases k with
   | zero => rw [fA]; exact Nat.one_le_two_pow
   | succ k =>
    show be n k + be n (k + 1) <= 2 ^ (n + 1);have h1 := ih k;have h2 := ih (k + 1);rw [GY];omega
 exact Ú (this n k) (ń ag h)
theorem BD {f : Addr} {fd : FuncData} (F : ŀ K "choices" "choices" CQ f fd) (mr : mg "range" = none) : az P w K mg base au 1 f fd ["many"] rY := by
 refine F.ok LU (λ vs H Q E h => ?_) (λ ò A outer s H vs Q E hr h => ?_)
 ·obtain ⟨n, rfl, _⟩ := h;rfl
 obtain ⟨n, rfl, IG, q⟩ := h;have nd := LU.nd;refine ⟨_, b6 (cD (i := 1) nd rfl (Or.inl rfl) (cK (ad ay ap)))
  (b6 (bO å rfl (bc rfl mr (ad (pv 0) ap)) (bf (i := 2) nd rfl (Or.inl rfl))
   (bz (bu (eD ì ĩ Ĩ bo (pv 1) (ad (aj j0 (aj bn (cq lS (pv 1) (BV xk ay)) (aj bp (pv 0) (pv 2))) (aj aS (pv 2) ay)) ap)))))
  (bz (cp (pv 1)))), ?_⟩
 have e0 : cg n (0 + 1) = [1] := by show [((be n 0 : Nat) : Int)] = [1]; rw [fA]; rfl
 refine ⟨fk, λ l hl => ?_⟩;refine ⟨_, rfl, _, rfl, ae, ae, cV (lo := 0) (n := ((n : Nat) : Int).toNat) (λ i σ H' => (∀ b, b ≠ l -> H' b = H b) /\ H' l = some (.lst ((cg n (i + 1)).map V.int)) /\ ∃ o, σ = [some (.int (n : Nat)), some (.ref l), o]) ⟨λ b hb => ah hb, by rw [bh, e0]; rfl, _, rfl⟩ ?_ ?_⟩
 ·rintro i σ H' hi ⟨x', h', o, rfl⟩;have KM : i < n := by simpa using hi
  have QC := ñ.of (K := K) h';have ea : lW ((cg n (i + 1)).map V.int) (-1) = some (.int ((be n i : Nat) : Int)) := by
   rw [ja, Ó];exact kS
  have b1 := iC (n := n) (k := i) IG;refine ⟨_, rfl, .inl ⟨rfl, _, QC⟩, _, rfl, 1, rfl, l, _, _, _, rfl, rfl, QC, ea, _, rfl, _, rfl, _, _, rfl, rfl, _, _, rfl, rfl, .inl ⟨ae, ae⟩, _, rfl, _, _, rfl, rfl, _, _, rfl, rfl, ⟨ae, ae⟩, l, _, _, rfl, rfl, h', ?_, ?_⟩
  ·rw [Æ];unfold cg;rw [Æ, ě, Þ];omega
  ·refine ⟨λ b hb => by rw [ah hb]; exact x' b hb, ?_, _, rfl⟩
   rw [bh, ja n (i + 1), Ó]
   congr 4
   show V.int _ = V.int _
   congr 1
   show (((be n i : Nat) : Int) * (((n : Nat) : Int) - (0 + (i : Int)))) / ((0 + (i : Int)) + 1) = ((be n (i + 1) : Nat) : Int);rw [<- ql, Ě, show ((n : Nat) : Int) - (i : Int) = ((n - i : Nat) : Int) by omega]
   simp
 ·rintro σ H' ⟨x', h', o, rfl⟩;rw [Ĕ] at h';exact ⟨_, rfl, q l H' hl h' x'⟩
abbrev CM : Stmt := cf 47
def uO (K : Frag) : Sp := λ vs H Q _ => ∃ (p r : Addr) (a b c d i j k l : Int), vs = [.ref p, .ref r] /\ ą K H p [.int a, .int b, .int c, .int d] /\ ą K H r [.int i, .int j, .int k, .int l] /\ (0 <= i + j + k + l /\ i + j + k + l <= 1000 /\ 0 <= a + b + c + d /\ a + b + c + d <= 1000) /\ Q (.int (gL (i + j + k + l) (a + b + c + d) b c i j k)) H
abbrev FG : List Str := ["counts", "dealt", "ones", "zeros", "yes_one", "yes_zero"]
theorem LC : af FG ["counts", "dealt"] (aa CM) := aQ
theorem AL {f : Addr} {fd : FuncData} (F : ŀ K "value_under" "value_under" CM f fd) (ms : mg "sum" = none) : az P w K mg base au 1 f fd ["counts", "dealt"] (uO K) := by
 refine F.ok LC (λ vs H Q E h => ?_) (λ ò A outer s H vs Q E hr h => ?_)
 ·obtain ⟨p, r, a, b, c, d, i, j, k, l, rfl, _⟩ := h;rfl
 obtain ⟨p, r, a, b, c, d, i, j, k, l, rfl, hp, Hz, ⟨s1, s2, s3, s4⟩, q⟩ := h;have nd := LC.nd;refine ⟨_, b6 (cD (i := 2) nd rfl (Or.inl rfl) (ak (gj rfl) rfl ms ė (ad (pv 1) ap)))
  (b6 (cD (i := 3) nd rfl (Or.inl rfl) (aj bp (ak (gj rfl) rfl ms ė (ad (pv 0) ap)) (pv 2)))
  (b6 (cD (i := 4) nd rfl (Or.inl rfl) (aj aS (cq dG (pv 1) ay) (cq dG (pv 1) ay)))
  (b6 (cD (i := 5) nd rfl (Or.inl rfl) (aj bp (aj aS (aj bp (cq dG (pv 0) ay) (cq dG (pv 1) ay)) (cq dG (pv 0) ay)) (cq dG (pv 1) ay)))
  (bz (cp (aj bp (aj bn (pv 3) (pv 4)) (aj bn (pv 2) (pv 5)))))))), ?_⟩
 have e1 : ([i, j, k, l] : List Int).sum = i + j + k + l := by simp; omega
 have e2 : ([a, b, c, d] : List Int).sum = a + b + c + d := by simp; omega
 refine ⟨_, rfl, r, [i, j, k, l], rfl, Hz, ?_⟩;rw [e1];refine ⟨_, rfl, p, [a, b, c, d], rfl, hp, ?_⟩;rw [e2];refine ⟨_, rfl, _, _, rfl, rfl, ?_⟩;refine ⟨_, rfl, r, _, _, _, rfl, rfl, Hz, rfl, _, rfl, r, _, _, _, rfl, rfl, Hz, rfl, _, _, rfl, rfl, ?_⟩;refine ⟨_, rfl, p, _, _, _, rfl, rfl, hp, rfl, _, rfl, r, _, _, _, rfl, rfl, Hz, rfl, _, _, rfl, rfl, _, rfl, p, _, _, _, rfl, rfl, hp, rfl, _, _, rfl, rfl, _, rfl, r, _, _, _, rfl, rfl, Hz, rfl, _, _, rfl, rfl, ?_⟩;exact ⟨_, rfl, _, rfl, _, _, rfl, rfl, .inl ⟨ae, ae⟩, _, rfl, _, rfl, _, _, rfl, rfl, .inl ⟨ae, ae⟩, _, _, rfl, rfl, q⟩
end
theorem aN {α β : Type} {R : α -> β -> Prop} {x : α} {y : β} (r : R x y) : ∀ {xs : List α} {ys : List β}, Paired R xs ys -> Paired R (xs ++ [x]) (ys ++ [y])
 | _, _, .nil => .cons r .nil
 | _, _, .cons h t => .cons h (aN r t)
theorem ð {α β : Type} {R : α -> β -> Prop} : ∀ {xs : List α} {ys : List β}, Paired R xs ys -> ∀ {i : Nat} {x : α}, xs[i]? = some x -> ∃ y, ys[i]? = some y /\ R x y
 | _, _, .nil, i, y, h => by simp at h
 | _, _, .cons r _, 0, y, h => by cases h; exact ⟨_, rfl, r⟩
 | _, _, .cons _ t, i + 1, y, h => ð t h
def Nn (H : Hp) (y : V) (q : Q4 × Nat) : Prop := ∃ t u, y = .ref t /\ H t = some (.tup [.ref u, .int (q.2 : Nat)]) /\ H u = some (.tup [.int q.1.1, .int q.1.2.1, .int q.1.2.2.1, .int q.1.2.2.2])
def Im (H : Hp) (ys : List V) (rs : List (Q4 × Nat)) : Prop := Paired (Nn H) ys rs
def eV (H H' : Hp) : Prop := ∀ b xs, H b = some (.tup xs) -> H' b = some (.tup xs)
theorem Nn.kp {H H' : Hp} {y : V} {q : Q4 × Nat} (h : Nn H y q) (k : eV H H') : Nn H' y q := by
 obtain ⟨t, u, e, h1, h2⟩ := h;exact ⟨t, u, e, k _ _ h1, k _ _ h2⟩
theorem Im.kp {H H' : Hp} {ys : List V} {rs : List (Q4 × Nat)} (h : Im H ys rs) (k : eV H H') : Im H' ys rs := Paired.imp' (λ _ _ r => r.kp k) h
theorem Ext.Ū {H H' : Hp} (x : Ext H H') : eV H H' := λ b xs h => x _ _ h
theorem b9 {H : Hp} {l : Addr} {xs ys : List V} (h : H l = some (.lst xs)) : eV H (ao H l (.lst ys)) := λ b zs e => by rw [ah (λ z => by rw [z, h] at e; cases e)]; exact e
theorem gY {β : Type} {f : Nat -> List β} {k : Nat} (h : ∀ i, (f i).length <= k) : ∀ n, ((List.range n).flatMap f).length <= n * k
 | 0 => Ċ _
 | n + 1 => by
  rw [cS, Ì, J6];have := gY h n;have := h n;omega
theorem sI {O : Int} {a b c d i j k : Nat} : (er O a b c d i j k).length <= 1 := by unfold er; split <;> simp
theorem kE {O : Int} {a b c d i j m : Nat} : (fu O a b c d i j m).length <= m := by
 have := gY (f := er O a b c d i j) (k := 1) (λ k => sI) m;unfold fu;omega
theorem kC {O : Int} {a b c d i m : Nat} (hc : c <= 20) : (gz O a b c d i m).length <= m * 21 := gY (λ j => Ú kE ae) m
theorem kX {O : Int} {a b c d m : Nat} (hb : b <= 20) (hc : c <= 20) : (cB O a b c d m).length <= m * 441 := gY (λ j => Ú (kC hc) ae) m
section
variable {P : Program} {w : World} {K : Frag} {mg : bE} {base : Heap}
abbrev yu : Stmt := cf 48
def B4 (K : Frag) : Sp := λ vs H Q _ => ∃ (O : Int) (p : Addr) (a b c d : Nat), vs = [.int O, .ref p] /\ ą K H p [.int (a : Nat), .int (b : Nat), .int (c : Nat), .int (d : Nat)] /\ a <= 20 /\ b <= 20 /\ c <= 20 /\ d <= 20 /\
 ∀ l H' ys, H l = none -> Ext H H' -> H' l = some (.lst ys) -> Im H' ys (cB O a b c d (a + 1)) -> Q (.ref l) H'
abbrev ES : List Str := ["ones", "counts", "bettered", "worsened", "always", "never", "rows", "first", "ways", "second", "more", "third", "again", "rest"]
theorem LA : af ES ["ones", "counts"] (aa yu) := aQ
abbrev Bp : Scope := cT [("count", .local), ("choices", .globalImplicit)]
theorem xE {X : Cx} : aY X Bp [] ["count"] [] [] := jt (L := [(".0", .local), ("count", .local), ("choices", .globalImplicit)]) rfl rfl aF aF aF rfl aF aF
def FL (K : Frag) : TS := aT (dX (xM K (am 1)) 1 [] (aP 0) (cC rY [] E0 (ac (am 0) aH))) (kR K 4 (bq (aP 2) (bq (aP 3) (bq (aP 4) (bq (aP 5) ke)))))
def z9 (K : Frag) : TE := dq (ac (dq (ac (am 7) (ac (am 9) (ac (am 11) (ac (am 13) aH))))) (ac (aZ (rI GM λ i j => .int (i * j)) (aZ (rI GM λ i j => .int (i * j)) (aZ (rI GM λ i j => .int (i * j)) (am 8) (am 10)) (am 12)) (aZ (kb K) (am 5) (am 13))) aH))
def Fh (K : Frag) : TS := bB (aT (aZ (iS λ i j => .int (i - j)) (aZ (iS λ i j => .int (i - j)) (aZ (iS λ i j => .int (i - j)) (am 0) (am 7)) (am 9)) (am 11)) (aP 13))
 (kn (tB (cC (b7 K) [] E0 (ac (am 13) (ac (tC (.int 0)) (ac (aZ (dE K) (am 1) (tC (.int 3))) aH))))) (eB (vO K "list" dI (am 6) (ac (z9 K) aH))) gE)
def gW (K : Frag) (i j : Nat) : TG := tW K 2 (bq (aP i) (bq (aP j) ke))
def ER (K : Frag) : TS := fT (gv K (ac (am 4) aH)) (gW K 11 12) (Fh K)
def EK (K : Frag) : TS := fT (gv K (ac (am 3) aH)) (gW K 9 10) (ER K)
def ET (K : Frag) : TS := fT (gv K (ac (am 2) aH)) (gW K 7 8) (EK K)
section
variable {f a1 a2 : Addr} {d1 d2 : FuncData} {ò : Value} {A : Around} {outer : List Env} {s : Shared} {H : Hp} {E : XK}
theorem yd (A1 : Df P w K mg base au 1 "choices" ["many"] rY a1 d1) (A2 : Df P w K mg base au 2 "is_whole" ["thing", "low", "high"] (b7 K) a2 d2) (me : mg "enumerate" = none) (hr : ċ 2 (A.deeper (PyProof.Rows.envOfC "ways_to_deal" (aa yu) s.heap.objs.size f ò))) :
  f_ (aU au P w K mg base ES "ways_to_deal" (aa yu) f ò A outer s H E).ť (aK yu) (bB (FL K) (bB (aT (fe aH) (aP 6)) (bB (ET K) (bY (am 6))))) := by
 have nd := LA.nd;have Η : ċ 1 _ := hr.mono ag;exact b6 (cM (eJ (te := cC rY [] E0 (ac (am 0) aH)) rfl xE (rE (pv 1)) (λ s H C fp => bf (i := 0) rW rfl (Or.inl rfl)) (λ s H C fp => by exact bH A1 Η ai (ad (pv 0) ap)))
   (ie rfl (bT (bf (i := 2) nd rfl (Or.inl rfl)) (bT (bf (i := 3) nd rfl (Or.inl rfl)) (bT (bf (i := 4) nd rfl (Or.inl rfl)) (bT (bf (i := 5) nd rfl (Or.inl rfl)) aC))))))
  (b6 (cD (i := 6) nd rfl (Or.inl rfl) (cK ap))
  (b6 (bO å rfl (cv rfl me (ad (pv 2) ap)) (bd rfl (bT (bf (i := 7) nd rfl (Or.inl rfl)) (bT (bf (i := 8) nd rfl (Or.inl rfl)) aC)))
   (bz (bO å rfl (cv rfl me (ad (pv 3) ap)) (bd rfl (bT (bf (i := 9) nd rfl (Or.inl rfl)) (bT (bf (i := 10) nd rfl (Or.inl rfl)) aC)))
    (bz (bO å rfl (cv rfl me (ad (pv 4) ap)) (bd rfl (bT (bf (i := 11) nd rfl (Or.inl rfl)) (bT (bf (i := 12) nd rfl (Or.inl rfl)) aC)))
     (b6 (cD (i := 13) nd rfl (Or.inl rfl) (aj bp (aj bp (aj bp (pv 0) (pv 7)) (pv 9)) (pv 11)))
     (bz (bA (aX (bH A2 hr ai (ad (pv 13) (ad ay (ad (cq dG (pv 1) ay) ap)))))
      (bz (bu (eD ì ĩ Ĩ bo (pv 6) (ad (aO (ad (aO (ad (pv 7) (ad (pv 9) (ad (pv 11) (ad (pv 13) ap))))) (ad (aj bn (aj bn (aj bn (pv 8) (pv 10)) (pv 12)) (cq lS (pv 5) (pv 13))) ap))) ap)))) gN))))))))
  (bz (cp (pv 6)))))
end
end
structure GL (K : Frag) (H : Hp) (l p b0 b1 b2 b3 : Addr) (a b c d : Nat) : Prop where
 hp : ą K H p [.int (a : Nat), .int (b : Nat), .int (c : Nat), .int (d : Nat)]
 h0 : H b0 = some (.lst ((cg a (a + 1)).map V.int))
 h1 : H b1 = some (.lst ((cg b (b + 1)).map V.int))
 h2 : H b2 = some (.lst ((cg c (c + 1)).map V.int))
 h3 : H b3 = some (.lst ((cg d (d + 1)).map V.int))
 n0 : b0 ≠ l
 n1 : b1 ≠ l
 n2 : b2 ≠ l
 n3 : b3 ≠ l
 JX : a <= 20
 Jj : b <= 20
 IW : c <= 20
 JW : d <= 20
theorem ą.Ū {K : Frag} {H H' : Hp} {p : Addr} {xs : List V} (h : ą K H p xs) (k : eV H H') (fz : ∀ b o u, H b = some (.Ν o u) -> H' b = some (.Ν o u)) : ą K H' p xs := by
 rcases h with (h | ⟨o, h⟩) | h
 ·exact .inl (.inl (k _ _ h))
 ·exact .inl (.inr ⟨o, fz _ _ _ h⟩)
 ·exact .inr h
def Kl (H H' : Hp) (l : Addr) : Prop := ∀ b o, H b = some o -> b ≠ l -> H' b = some o
section
variable {K : Frag} {H H' : Hp} {l p b0 b1 b2 b3 : Addr} {a b c d : Nat} {O : Int}
theorem GL.kept (C : GL K H l p b0 b1 b2 b3 a b c d) {zs : List V} (hl : H l = some (.lst zs)) (k : Kept H H' l) : GL K H' l p b0 b1 b2 b3 a b c d := by
 refine ⟨?_, k _ _ C.h0 C.n0, k _ _ C.h1 C.n1, k _ _ C.h2 C.n2, k _ _ C.h3 C.n3, C.n0, C.n1, C.n2, C.n3, C.JX, C.Jj, C.IW, C.JW⟩;exact ą.Ū C.hp (λ b xs e => k _ _ e (λ z => by rw [z, hl] at e; cases e)) (λ b o u e => k _ _ e (λ z => by rw [z, hl] at e; cases e))
abbrev sg (O : Int) (p b0 b1 b2 b3 l : Addr) (r : List (Option V)) : St := some (.int O) :: some (.ref p) :: some (.ref b0) :: some (.ref b1) :: some (.ref b2) :: some (.ref b3) :: some (.ref l) :: r
def HR (H H' : Hp) (l : Addr) (rs : List (Q4 × Nat)) : Prop := Kept H H' l /\ ∃ ys, H' l = some (.lst ys) /\ Im H' ys rs
theorem fH {n m i : Nat} (h : i < m) : ((cg n m).map V.int)[i]? = some (.int ((be n i : Nat) : Int)) := by
 unfold cg;rw [ŉ, Õ, List.getElem?_range h];rfl
theorem c8 (n m : Nat) : ((cg n m).map V.int).length = m := by unfold cg; simp
theorem BZ {D : bQ} {rs : List (Q4 × Nat)} {ys : List V} {i j k : Nat} {Ŏ : Option V} (C : GL K H l p b0 b1 b2 b3 a b c d) (hl : H l = some (.lst ys)) (GC : Im H ys rs) (small : rs.length < 16000000) (hi : i <= a) (hj : j <= b) (hk : k <= c)
  (q : ∀ H' Ŏ GA, Kept H H' l -> H' l = some (.lst GA) -> Im H' GA (rs ++ er O a b c d i j k) -> D.nx (sg O p b0 b1 b2 b3 l [some (.int (i : Nat)), some (.int (be a i : Nat)), some (.int (j : Nat)), some (.int (be b j : Nat)), some (.int (k : Nat)), some (.int (be c k : Nat)), Ŏ]) H') :
  Fh K D (sg O p b0 b1 b2 b3 l [some (.int (i : Nat)), some (.int (be a i : Nat)), some (.int (j : Nat)), some (.int (be b j : Nat)), some (.int (k : Nat)), some (.int (be c k : Nat)), Ŏ]) H := by
 refine ⟨_, rfl, _, rfl, _, _, rfl, rfl, _, rfl, _, _, rfl, rfl, _, rfl, _, _, rfl, rfl, ?_⟩;refine ⟨_, rfl, _, rfl, p, _, _, _, rfl, rfl, C.hp, vP (j := 3) rfl, .int (O - i - j - k), 0, (d : Nat), rfl, .inl ⟨_, rfl⟩, _, rfl, ?_⟩;show if (decide ((0 : Int) <= O - i - j - k) && decide (O - i - j - k <= (d : Nat))) = true then _ else _
 by_cases hc : 0 <= O - i - j - k /\ O - i - j - k <= d
 ·rw [Ç hc.1, Ç hc.2];refine fO ⟨_, rfl, .inl ⟨rfl, _, ñ.of hl⟩, ?_⟩;have hL := ñ.of (K := K) C.h3;have ix : lW ((cg d (d + 1)).map V.int) (O - i - j - k) = some (.int ((be d (O - i - j - k).toNat : Nat) : Int)) := by
   have e := vP (xs := (cg d (d + 1)).map V.int) (j := (O - i - j - k).toNat) (fH (n := d) (m := d + 1) ae)
   rwa [show (((O - i - j - k).toNat : Nat) : Int) = O - i - j - k by omega] at e
  refine ⟨_, rfl, _, rfl, _, rfl, _, rfl, fk, λ u hu => ?_⟩;have x1 := Ext.new (o := .tup [.int (i : Nat), .int (j : Nat), .int (k : Nat), .int (O - i - j - k)]) hu;have b1 := iC (n := a) (k := i) C.JX;have WM := iC (n := b) (k := j) C.Jj;have WL := iC (n := c) (k := k) C.IW;have b4 := iC (n := d) (k := (O - i - j - k).toNat) C.JW;refine ⟨_, rfl, _, rfl, _, _, rfl, rfl, .inl ⟨ae, ae⟩, _, rfl, _, _, rfl, rfl, .inr ⟨ae, ae⟩, _, rfl, _, rfl, _, _, _, _, rfl, rfl, My.ñ.ext hL x1, ix, _, _, rfl, rfl, .inr ⟨ae, ae⟩, fk, λ t ht => ?_⟩;have x2 := x1.trans (Ext.new (o := .tup [.ref u, .int (((be a i : Nat) : Int) * ((be b j : Nat) : Int) * ((be c k : Nat) : Int) * ((be d (O - i - j - k).toNat : Nat) : Int))]) ht);have M9 := x2 _ _ hl;refine ⟨l, ys, _, rfl, rfl, M9, ?_, ?_⟩
  ·have e : ys.length = rs.length := Ö GC;rw [e, Þ];omega
  ·have kl : eV _ _ := b9 (ys := ys ++ [.ref t]) M9;refine q _ _ (ys ++ [.ref t]) ((x2.kept l).trans (ia _)) bh ?_;unfold er;rw [Ô hc];have x3 := Ext.new (o := .tup [.ref u, .int (((be a i : Nat) : Int) * ((be b j : Nat) : Int) * ((be c k : Nat) : Int) * ((be d (O - i - j - k).toNat : Nat) : Int))]) ht;refine aN ⟨t, u, rfl, kl _ _ ?_, kl _ _ (x3 _ _ bh)⟩ ((GC.kp x2.Ū).kp kl);rw [bh];simp
 ·have e0 : (decide ((0 : Int) <= O - i - j - k) && decide (O - i - j - k <= (d : Nat))) = false := by
   rw [Ť, Ą, Ą];omega
  rw [e0];refine c6 (q H _ ys (Kept.refl _ _) hl ?_);unfold er;rw [É hc, ã];exact GC
end
theorem cF {α β : Type} {R : α -> β -> Prop} {xs : List α} {y : β} {ys : List β} (h : Paired R xs (y :: ys)) : ∃ x Nu, xs = x :: Nu /\ R x y /\ Paired R Nu ys := by
 cases h with
 | cons r t => exact ⟨_, _, rfl, r, t⟩
section
variable {K : Frag} {H : Hp} {l p b0 b1 b2 b3 : Addr} {a b c d : Nat} {O : Int}
theorem HR.ctx {H' : Hp} {rs : List (Q4 × Nat)} {zs : List V} (C : GL K H l p b0 b1 b2 b3 a b c d) (hl : H l = some (.lst zs)) (v : HR H H' l rs) : GL K H' l p b0 b1 b2 b3 a b c d := C.kept hl v.1
theorem HR.kept {H1 H2 : Hp} {rs : List (Q4 × Nat)} {ys : List V} (v : HR H H1 l rs) (k : Kept H1 H2 l) (h : H2 l = some (.lst ys)) {Qh : List (Q4 × Nat)} (r : Im H2 ys Qh) : HR H H2 l Qh := ⟨v.1.trans k, ys, h, r⟩
theorem HR.new {H1 : Hp} {rs : List (Q4 × Nat)} {t : Addr} {o : HO} (v : HR H H1 l rs) (ht : H1 t = none) : HR H (ao H1 t o) l rs := by
 obtain ⟨k, ys, h, r⟩ := v;have x := Ext.new (o := o) ht;exact ⟨k.trans (x.kept l), ys, x _ _ h, r.kp x.Ū⟩
theorem Ax {D : bQ} {rs : List (Q4 × Nat)} {zs : List V} {i j : Nat} {Ŷ ŵ Ŏ : Option V} (C : GL K H l p b0 b1 b2 b3 a b c d) (hl : H l = some (.lst zs)) (v : Im H zs rs) (small : rs.length < 15000000) (hi : i <= a) (hj : j <= b)
  (q : ∀ H' Ŷ ŵ Ŏ, HR H H' l (rs ++ fu O a b c d i j (c + 1)) -> D.nx (sg O p b0 b1 b2 b3 l [some (.int (i : Nat)), some (.int (be a i : Nat)), some (.int (j : Nat)), some (.int (be b j : Nat)), Ŷ, ŵ, Ŏ]) H') :
  ER K D (sg O p b0 b1 b2 b3 l [some (.int (i : Nat)), some (.int (be a i : Nat)), some (.int (j : Nat)), some (.int (be b j : Nat)), Ŷ, ŵ, Ŏ]) H := by
 refine ⟨_, rfl, b2, rfl, ⟨_, ñ.of C.h2⟩, cQ (xs := (cg c (c + 1)).map V.int) (λ m σ H' => HR H H' l (rs ++ fu O a b c d i j m) /\ ∃ Ŷ ŵ Ŏ, σ = sg O p b0 b1 b2 b3 l [some (.int (i : Nat)), some (.int (be a i : Nat)), some (.int (j : Nat)), some (.int (be b j : Nat)), Ŷ, ŵ, Ŏ]) ⟨⟨Kept.refl _ _, zs, hl, ?_⟩, _, _, _, rfl⟩ ?_ ?_ ?_⟩
 ·show Im H zs (rs ++ []);rw [ã];exact v
 ·rintro m σ H' _ ⟨iv, _⟩;exact ñ.of (iv.ctx C hl).h2
 ·rintro m x σ H' t ex ⟨iv, Ŷ, ŵ, Ŏ, rfl⟩ ht;have lm : m < ((cg c (c + 1)).map V.int).length := (Ø.mp ex).1;rw [c8] at lm;rw [fH lm] at ex;cases ex;have IM := iv.new (o := .tup [.int (m : Nat), .int (be c m : Nat)]) ht;obtain ⟨k2, ys, h2, r2⟩ := id IM;refine ⟨t, _, rfl, ą.of bh, rfl, _, _, rfl, _, _, rfl, rfl, ?_⟩;have l2 := kE (O := O) (a := a) (b := b) (c := c) (d := d) (i := i) (j := j) (m := m);have IW := C.IW;refine BZ (K := K) (IM.ctx C hl) h2 r2 (by rw [Ì]; omega) hi hj ae λ H3 Ŏ GA k3 h3 r3 => ?_
  refine ⟨?_, _, _, _, rfl⟩;have e : fu O a b c d i j (m + 1) = fu O a b c d i j m ++ er O a b c d i j m := cS _ _;rw [e, <- ù];exact IM.kept k3 h3 r3
 ·rintro σ H' ⟨iv, Ŷ, ŵ, Ŏ, rfl⟩;rw [c8] at iv;exact q H' _ _ _ iv
theorem Ce {D : bQ} {rs : List (Q4 × Nat)} {zs : List V} {i : Nat} {o9 Ũ Ŷ ŵ Ŏ : Option V} (C : GL K H l p b0 b1 b2 b3 a b c d) (hl : H l = some (.lst zs)) (v : Im H zs rs) (small : rs.length < 14000000) (hi : i <= a)
  (q : ∀ H' o9 Ũ Ŷ ŵ Ŏ, HR H H' l (rs ++ gz O a b c d i (b + 1)) -> D.nx (sg O p b0 b1 b2 b3 l [some (.int (i : Nat)), some (.int (be a i : Nat)), o9, Ũ, Ŷ, ŵ, Ŏ]) H') :
  EK K D (sg O p b0 b1 b2 b3 l [some (.int (i : Nat)), some (.int (be a i : Nat)), o9, Ũ, Ŷ, ŵ, Ŏ]) H := by
 refine ⟨_, rfl, b1, rfl, ⟨_, ñ.of C.h1⟩, cQ (xs := (cg b (b + 1)).map V.int) (λ m σ H' => HR H H' l (rs ++ gz O a b c d i m) /\ ∃ o9 Ũ Ŷ ŵ Ŏ, σ = sg O p b0 b1 b2 b3 l [some (.int (i : Nat)), some (.int (be a i : Nat)), o9, Ũ, Ŷ, ŵ, Ŏ]) ⟨⟨Kept.refl _ _, zs, hl, ?_⟩, _, _, _, _, _, rfl⟩ ?_ ?_ ?_⟩
 ·show Im H zs (rs ++ []);rw [ã];exact v
 ·rintro m σ H' _ ⟨iv, _⟩;exact ñ.of (iv.ctx C hl).h1
 ·rintro m x σ H' t ex ⟨iv, o9, Ũ, Ŷ, ŵ, Ŏ, rfl⟩ ht;have lm : m < ((cg b (b + 1)).map V.int).length := (Ø.mp ex).1;rw [c8] at lm;rw [fH lm] at ex;cases ex;have IM := iv.new (o := .tup [.int (m : Nat), .int (be b m : Nat)]) ht;obtain ⟨k2, ys, h2, r2⟩ := id IM;refine ⟨t, _, rfl, ą.of bh, rfl, _, _, rfl, _, _, rfl, rfl, ?_⟩;have l2 := kC (O := O) (a := a) (b := b) (c := c) (d := d) (i := i) (m := m) C.IW;have Jj := C.Jj;refine Ax (K := K) (IM.ctx C hl) h2 r2 (by rw [Ì]; omega) hi ae λ H3 Ŷ ŵ Ŏ Op => ?_
  refine ⟨?_, _, _, _, _, _, rfl⟩;have e : gz O a b c d i (m + 1) = gz O a b c d i m ++ fu O a b c d i m (c + 1) := cS _ _;obtain ⟨k3, K9, h3, r3⟩ := Op;rw [e, <- ù];exact IM.kept k3 h3 r3
 ·rintro σ H' ⟨iv, o9, Ũ, Ŷ, ŵ, Ŏ, rfl⟩;rw [c8] at iv;exact q H' _ _ _ _ _ iv
theorem Bc {D : bQ} {zs : List V} {o7 o8 o9 Ũ Ŷ ŵ Ŏ : Option V} (C : GL K H l p b0 b1 b2 b3 a b c d) (hl : H l = some (.lst []))
  (q : ∀ H' o7 o8 o9 Ũ Ŷ ŵ Ŏ, HR H H' l (cB O a b c d (a + 1)) -> D.nx (sg O p b0 b1 b2 b3 l [o7, o8, o9, Ũ, Ŷ, ŵ, Ŏ]) H') :
  ET K D (sg O p b0 b1 b2 b3 l [o7, o8, o9, Ũ, Ŷ, ŵ, Ŏ]) H := by
 refine ⟨_, rfl, b0, rfl, ⟨_, ñ.of C.h0⟩, cQ (xs := (cg a (a + 1)).map V.int) (λ m σ H' => HR H H' l (cB O a b c d m) /\ ∃ o7 o8 o9 Ũ Ŷ ŵ Ŏ, σ = sg O p b0 b1 b2 b3 l [o7, o8, o9, Ũ, Ŷ, ŵ, Ŏ]) ⟨⟨Kept.refl _ _, [], hl, .nil⟩, _, _, _, _, _, _, _, rfl⟩ ?_ ?_ ?_⟩
 ·rintro m σ H' _ ⟨iv, _⟩;exact ñ.of (iv.ctx C hl).h0
 ·rintro m x σ H' t ex ⟨iv, o7, o8, o9, Ũ, Ŷ, ŵ, Ŏ, rfl⟩ ht;have lm : m < ((cg a (a + 1)).map V.int).length := (Ø.mp ex).1;rw [c8] at lm;rw [fH lm] at ex;cases ex;have IM := iv.new (o := .tup [.int (m : Nat), .int (be a m : Nat)]) ht;obtain ⟨k2, ys, h2, r2⟩ := id IM;refine ⟨t, _, rfl, ą.of bh, rfl, _, _, rfl, _, _, rfl, rfl, ?_⟩;have l2 := kX (O := O) (a := a) (b := b) (c := c) (d := d) (m := m) C.Jj C.IW;have JX := C.JX;refine Ce (K := K) (IM.ctx C hl) h2 r2 ae ae λ H3 o9 Ũ Ŷ ŵ Ŏ Op => ?_;refine ⟨?_, _, _, _, _, _, _, _, rfl⟩;have e : cB O a b c d (m + 1) = cB O a b c d m ++ gz O a b c d m (b + 1) := cS _ _;obtain ⟨k3, K9, h3, r3⟩ := Op;rw [e];exact IM.kept k3 h3 r3
 ·rintro σ H' ⟨iv, o7, o8, o9, Ũ, Ŷ, ŵ, Ŏ, rfl⟩;rw [c8] at iv;exact q H' _ _ _ _ _ _ _ iv
def EZ (H : Hp) (D : Addr) (y : V) (n : Nat) : Prop := ∃ r, y = .ref r /\ r ≠ D /\ H r = some (.lst ((cg n (n + 1)).map V.int))
end
section
variable {P : Program} {w : World} {K : Frag} {mg : bE} {base : Heap}
theorem Bb {f a1 a2 : Addr} {fd d1 d2 : FuncData} (F : ŀ K "ways_to_deal" "ways_to_deal" yu f fd) (A1 : Df P w K mg base au 1 "choices" ["many"] rY a1 d1) (A2 : Df P w K mg base au 2 "is_whole" ["thing", "low", "high"] (b7 K) a2 d2) (me : mg "enumerate" = none) : az P w K mg base au 3 f fd ["ones", "counts"] (B4 K) := by
 refine F.ok LA (λ vs H Q E h => ?_) (λ ò A outer s H vs Q E hr h => ?_)
 ·obtain ⟨O, p, a, b, c, d, rfl, _⟩ := h;rfl
 obtain ⟨O, p, a, b, c, d, rfl, hp, JX, Jj, IW, JW, q⟩ := h;refine ⟨_, yd A1 A2 me hr, ?_⟩;refine ⟨_, rfl, p, rfl, ⟨_, hp⟩, λ D hD => ?_⟩;have ns : ∀ n ∈ [a, b, c, d], n <= 20 := by
  intro n hn;simp only [List.mem_cons, List.not_mem_nil, or_false] at hn;rcases hn with rfl | rfl | rfl | rfl <;> assumption
 refine dw (n := 4) (λ i ys H' => Ext H H' /\ Paired (EZ H' D) ys ([a, b, c, d].take i)) (by rw [Þ]; omega) ⟨Ext.new hD, .nil⟩ (λ i ys H' hi pv => ⟨_, _, My.ą.ext hp pv.1, Ã (show i < 4 from hi)⟩) (λ ys H' pv => ⟨_, My.ą.ext hp pv.1, Å _⟩) ?_ ?_
 ·rintro i x ys H' H3 hi ⟨rfl, hy⟩ ly ĕ ⟨x', pr⟩ os Ņ R k;have ex := hy _ (My.ą.ext hp x');have O8 : ([a, b, c, d].map λ n : Nat => V.int (n : Nat))[i]? = some x := ex;rw [Õ] at O8;obtain ⟨n, en, rfl⟩ := ğ.mp O8
  match os, Ņ with
  | [o0], _ =>
   refine ⟨⟨[some (.int (n : Nat))], rfl, rfl⟩, _, rfl, n, rfl, ns n (á en), λ l H4 hl h4 st => ?_⟩;have nl : l ≠ D := λ z => by rw [z, ĕ] at hl; cases hl
   have x4 : Ext H3 H4 := λ b o e => by rw [st b (λ z => by rw [z, hl] at e; cases e)]; exact e
   refine k _ _ (x4 _ _ ĕ) ⟨aV _ (x'.trans x4) hD, ?_⟩;rw [aw en];refine aN ⟨l, rfl, nl, by rw [ah nl]; exact h4⟩ (Paired.imp' (λ y m r => ?_) pr)
   obtain ⟨r', e, n', h'⟩ := r;exact ⟨r', e, n', by rw [ah n']; exact x4 _ _ h'⟩
 ·rintro ys H1 ly QT ⟨x1, pr⟩;have Ku : Paired (EZ H1 D) ys [a, b, c, d] := pr;obtain ⟨_, Wr, rfl, ⟨b0, rfl, n0, h0⟩, SW⟩ := cF Ku;obtain ⟨_, Wq, rfl, ⟨b1, rfl, n1, h1⟩, SV⟩ := cF SW;obtain ⟨_, Ŵ, rfl, ⟨b2, rfl, n2, h2⟩, SU⟩ := cF SV;obtain ⟨_, K9, rfl, ⟨b3, rfl, n3, h3⟩, SS⟩ := cF SU;cases SS;refine ⟨D, _, rfl, ñ.of QT, rfl, _, _, rfl, _, _, rfl, _, _, rfl, _, _, rfl, rfl, ?_⟩;refine ⟨fk, λ l hl => ?_⟩;have x2 := Ext.new (o := .lst []) hl;have ne : ∀ {r : Addr} {o : HO}, H1 r = some o -> r ≠ l := λ e z => by rw [z, hl] at e; cases e
  have Mt : H l = none := by
   cases e : H l with
   | none => rfl
   | some o => rw [x1 _ _ e] at hl; cases hl
  refine Bc (K := K) (zs := []) (H := ao H1 l (.lst [])) ⟨My.ą.ext hp (x1.trans x2), x2 _ _ h0, x2 _ _ h1, x2 _ _ h2, x2 _ _ h3, ne h0, ne h1, ne h2, ne h3, JX, Jj, IW, JW⟩ bh λ H' o7 o8 o9 Ũ Ŷ ŵ Ŏ iv => ?_;obtain ⟨k, ys, h', r⟩ := iv;refine ⟨_, rfl, q l H' ys Mt (λ b o e => ?_) h' r⟩;have e1 := x1 _ _ e;exact k b o (x2 _ _ e1) (ne e1)
end
theorem dA {κ : Type} [DecidableEq κ] {k : κ} {v : V} : ∀ {ys : List (κ × V)}, k ∉ ys.map (·.1) -> bI ys k v = ys ++ [(k, v)] := by
 intro ys h;unfold bI;rw [É];intro z;obtain ⟨q, hq, e⟩ := Ht.mp z;exact h (õ.mpr ⟨q, hq, ø e⟩)
theorem jZ : ∀ a b : Int, Key.inl a = Key.inl b -> a = b := λ a b h => by injection h
theorem iL {β : Type} {f : Nat -> List β} {n : Nat} {x : β} (h : x ∈ (List.range n).flatMap f) : ∃ i, i < n /\ x ∈ f i := by
 obtain ⟨i, hi, hx⟩ := List.mem_flatMap.mp h;exact ⟨i, Ģ.mp hi, hx⟩
theorem lF {O : Int} {a b c d : Nat} {q : Q4 × Nat} (h : q ∈ cB O a b c d (a + 1)) : ∃ i j k : Nat, i <= a /\ j <= b /\ k <= c /\ 0 <= O - i - j - k /\ O - i - j - k <= d /\ q.1 = ((i : Int), (j : Int), (k : Int), O - i - j - k) /\ 0 < q.2 := by
 obtain ⟨i, hi, h⟩ := iL h;obtain ⟨j, hj, h⟩ := iL h;obtain ⟨k, hk, h⟩ := iL h;unfold er at h;split at h
 ·rename_i hc
  cases ê.mp h;refine ⟨i, j, k, ae, ae, ae, hc.1, hc.2, rfl, ?_⟩;exact Nat.mul_pos (Nat.mul_pos (Nat.mul_pos (fh ae) (fh ae)) (fh ae)) (fh ae)
 ·cases h
theorem uE {α : Type} [DecidableEq α] {g : α -> Nat} {rs : List (α × Nat)} {i : Nat} {q : α × Nat} (h : rs[i]? = some q) : dS g (rs.take (i + 1)) = dS g (rs.take i) + q.2 * g q.1 := by
 rw [aw h, l0];rfl
section
variable {P : Program} {w : World} {K : Frag} {mg : bE} {base : Heap}
abbrev An : Stmt := cf 49
def mX (O : Int) (a b c d : Nat) (ps : List (Int × Nat)) : Prop := HS ps /\ ∀ g, dS g ps = dS (λ q => g (v4 O ((a + b + c + d : Nat) : Int) (b : Nat) (c : Nat) q)) (cB O a b c d (a + 1))
def ur (K : Frag) : Sp := λ vs H Q _ => ∃ (O : Int) (p : Addr) (a b c d : Nat), vs = [.int O, .ref p] /\ ą K H p [.int (a : Nat), .int (b : Nat), .int (c : Nat), .int (d : Nat)] /\ a <= 20 /\ b <= 20 /\ c <= 20 /\ d <= 20 /\
 ∀ r H' ps, H r = none -> Ext H H' -> H' r = some (.dK (eT Key.inl ps)) -> mX O a b c d ps -> Q (.ref r) H'
abbrev F0 : List Str := ["ones", "counts", "values", "dealt", "ways", "value"]
theorem LB : af F0 ["ones", "counts"] (aa An) := aQ
theorem AE {f a1 a2 : Addr} {fd d1 d2 : FuncData} (F : ŀ K "value_ways" "value_ways" An f fd) (A1 : Df P w K mg base au 3 "ways_to_deal" ["ones", "counts"] (B4 K) a1 d1) (A2 : Df P w K mg base au 1 "value_under" ["counts", "dealt"] (uO K) a2 d2) : az P w K mg base au 4 f fd ["ones", "counts"] (ur K) := by
 refine F.ok LB (λ vs H Q E h => ?_) (λ ò A outer s H vs Q E hr h => ?_)
 ·obtain ⟨O, p, a, b, c, d, rfl, _⟩ := h;rfl
 obtain ⟨O, p, a, b, c, d, rfl, hp, JX, Jj, IW, JW, q⟩ := h;have nd := LB.nd;have Η : ċ 1 _ := hr.mono ag;have hu : (A.deeper (PyProof.Rows.envOfC "value_ways" (aa An) s.heap.objs.size f ò)).units + 1 < cLine := by have := hr.un; omega
 refine ⟨_, b6 (cD (i := 2) nd rfl (Or.inl rfl) lQ)
  (b6 (bO å rfl (bD (bH A1 hr ai (ad (pv 0) (ad (pv 1) ap)))) (bd rfl (bT (bf (i := 3) nd rfl (Or.inl rfl)) (bT (bf (i := 4) nd rfl (Or.inl rfl)) aC)))
   (b6 (cD (i := 5) nd rfl (Or.inl rfl) (bH A2 Η ai (ad (pv 1) (ad (pv 3) ap))))
   (bz (oy hu (pv 2) (pv 5) (aj aS (qx hu (pv 2) (pv 5) ay ⟨rfl, rfl, rfl, rfl⟩) (pv 4)) rfl))))
  (bz (cp (pv 2)))), ?_⟩
 intro r q_;have x0 := Ext.new (o := .dK []) q_;refine ⟨_, rfl, _, rfl, O, p, a, b, c, d, rfl, My.ą.ext hp x0, JX, Jj, IW, JW, λ l H1 ys hl x1 h1 Qb => ?_⟩;have xH := x0.trans x1;have KF := x1 _ _ bh;have nl : l ≠ r := λ z => by rw [z, bh] at hl; cases hl
 have len : ys.length = (cB O a b c d (a + 1)).length := Ö Qb;have lr := kX (O := O) (a := a) (b := b) (c := c) (d := d) (m := a + 1) Jj IW;refine ⟨l, rfl, ⟨_, ñ.of h1⟩, fD (xs := ys) (λ i σ H' => Kept H1 H' r /\ (∃ ps, H' r = some (.dK (eT Key.inl ps)) /\ HS ps /\ ps.length <= i /\ ∀ g, dS g ps = dS (λ q => g (v4 O ((a + b + c + d : Nat) : Int) (b : Nat) (c : Nat) q)) ((cB O a b c d (a + 1)).take i)) /\ ∃ o3 o4 o5, σ = [some (.int O), some (.ref p), some (.ref r), o3, o4, o5]) ⟨Kept.refl _ _, ⟨[], KF, vb, Å _, λ g => rfl⟩, _, _, _, rfl⟩ ?_ ?_ ?_⟩
 ·rintro i σ H' _ ⟨k, _⟩;exact ñ.of (k _ _ h1 nl)
 ·rintro i y σ H' ey ⟨k, ⟨ps, Hz, ok, Tn, es⟩, o3, o4, o5, rfl⟩;obtain ⟨qq, eq, t, u, rfl, ht, TV⟩ := ð Qb ey;have kU : eV H1 H' := λ b xs e => k _ _ e (λ z => by rw [z, KF] at e; cases e)
  obtain ⟨ii, jj, kk, hi, hj, hk, h5, h6, e4, pos⟩ := lF (á eq);have Uc : ą K H' p [.int (a : Nat), .int (b : Nat), .int (c : Nat), .int (d : Nat)] := ą.Ū (My.ą.ext hp xH) kU (λ b o u e => k _ _ e (λ z => by rw [z, KF] at e; cases e))
  refine ⟨t, _, rfl, ą.of (kU _ _ ht), rfl, _, _, rfl, _, _, rfl, rfl, ?_⟩;obtain ⟨⟨q1, q2, q3, q4⟩, qn⟩ := qq;cases e4;refine ⟨_, rfl, _, rfl, p, u, (a : Nat), (b : Nat), (c : Nat), (d : Nat), (ii : Int), (jj : Int), (kk : Int), O - ii - jj - kk, rfl, Uc, ą.of (kU _ _ TV), ⟨ae, ae, ae, ae⟩, ?_⟩;have ev : gL ((ii : Int) + jj + kk + (O - ii - jj - kk)) (((a : Nat) : Int) + (b : Nat) + (c : Nat) + (d : Nat)) (b : Nat) (c : Nat) ii jj kk = v4 O ((a + b + c + d : Nat) : Int) (b : Nat) (c : Nat) ((ii : Int), (jj : Int), (kk : Int), O - ii - jj - kk) := by
   unfold v4;rw [show (ii : Int) + jj + kk + (O - ii - jj - kk) = O by omega, show ((a : Nat) : Int) + (b : Nat) + (c : Nat) + (d : Nat) = ((a + b + c + d : Nat) : Int) by omega]
  refine ⟨_, rfl, r, rfl, .inl ⟨_, .inl Hz⟩, _, rfl, _, E_.k Hz (k := .inl _), ?_⟩;generalize hv : gL ((ii : Int) + jj + kk + (O - ii - jj - kk)) (((a : Nat) : Int) + (b : Nat) + (c : Nat) + (d : Nat)) (b : Nat) (c : Nat) ii jj kk = v;rw [hv] at ev;have eg : (cL (eT Key.inl ps) (Key.inl v)).getD (.int 0) = .int ((lV ps v : Nat) : Int) := by
   rcases jR jZ v (ps := ps) with ⟨h1, h2, _⟩ | ⟨h1, _⟩
   ·rw [h1, h2]; rfl
   ·rw [h1]; rfl
  rw [eg];refine ⟨_, rfl, _, _, rfl, rfl, _, rfl, _, rfl, r, _, rfl, HG.k Hz (k := .inl v) (by rw [nJ, Þ]; have := (Ø.mp ey).1; omega), ?_⟩
  refine ⟨k.trans (ia _), ⟨fM ps v qn, ?_, ok.add pos, Ú (kq ps) ae, λ g => ?_⟩, _, _, _, rfl⟩
  ·rw [bh, <- tL jZ v qn ok.nd]
   congr 4
  ·rw [rV, es g, uE eq, ev]
 ·rintro σ H' ⟨k, ⟨ps, Hz, ok, Tn, es⟩, o3, o4, o5, rfl⟩;refine ⟨_, rfl, q r H' ps q_ (λ b' o e => k _ _ (xH _ _ e) (λ z => by rw [z, q_] at e; cases e)) Hz ⟨ok, λ g => ?_⟩⟩
  rw [es g, len, ö]
def HC (H : Hp) (v : V) (t b : Nat) : Prop := ∃ p, v = .ref p /\ H p = some (.tup [.int (t : Nat), .int (b : Nat)])
theorem HC.kp {H H' : Hp} {v : V} {t b : Nat} (h : HC H v t b) (k : eV H H') : HC H' v t b := by
 obtain ⟨p, e, h⟩ := h;exact ⟨p, e, k _ _ h⟩
end
theorem ve (O n b c i j k : Int) : 2 * gL O n b c i j k = (n - 2 * O) * (i - j) + n * (k - (O - i - j - k)) + n * O - 2 * O * (b + c) := by
 unfold gL
 grind
def Da (A W e : Nat) : List (Nat × Nat) := (List.range (A + 1)).flatMap λ U => ((List.range (W + 1)).filter λ v => decide ((U + v) % 2 = e)).map λ v => (U, v)
theorem tP : ∀ A, A < 21 -> ∀ W, W < 21 - A -> ∀ e, e < 2 -> (Da A W e).length <= 61 := aF
theorem uX {A W e U v : Nat} (h1 : U <= A) (h2 : v <= W) (h3 : (U + v) % 2 = e) : (U, v) ∈ Da A W e :=
 List.mem_flatMap.mpr ⟨U, Ģ.mpr ae, õ.mpr ⟨v, Ď.mpr ⟨Ģ.mpr ae, Ç h3⟩, rfl⟩⟩
def zp (O n b c d : Int) (z : Nat × Nat) : Int := ((n - 2 * O) * ((z.1 : Int) - b) + n * ((z.2 : Int) - d) + n * O - 2 * O * (b + c)) / 2
theorem qE {α : Type} [DecidableEq α] {g : α -> Nat} : ∀ {ps : List (α × Nat)}, 0 < dS g ps -> ∃ q ∈ ps, 0 < g q.1
 | [], h => absurd h (ÿ _)
 | p :: r, h => by
  by_cases z : 0 < g p.1
  ·exact ⟨p, Ù .., z⟩
  ·have e : g p.1 = 0 := ae;have h' : 0 < p.2 * g p.1 + dS g r := h;rw [e, ψ, GV] at h';obtain ⟨q, hq, hz⟩ := qE h';exact ⟨q, Î _ hq, hz⟩
theorem qK {O : Int} {a b c d : Nat} {keys : List Int} (hn : a + b + c + d <= 20) (nd : keys.Nodup)
  (h : ∀ x ∈ keys, ∃ i j k : Nat, i <= a /\ j <= b /\ k <= c /\ 0 <= O - i - j - k /\ O - i - j - k <= d /\ x = gL O ((a + b + c + d : Nat) : Int) b c i j k) : keys.length <= 61 := by
 have l := Nh (xs := keys) (ys := (Da (a + b) (c + d) ((O + b + d) % 2).toNat).map (zp O ((a + b + c + d : Nat) : Int) b c d)) nd λ x hx => ?_
 ·rw [Æ] at l;exact Ú l (tP (a + b) ae (c + d) ae _ ae)
 ·obtain ⟨i, j, k, h1, h2, h3, h4, h5, rfl⟩ := h x hx;obtain ⟨m, hm⟩ : ∃ m : Nat, O - i - j - k = (m : Int) := ⟨(O - i - j - k).toNat, ae⟩;refine õ.mpr ⟨(i + b - j, k + d - m), uX ae ae ae, ?_⟩;have e := ve O ((a + b + c + d : Nat) : Int) b c i j k;unfold zp;rw [show (((i + b - j : Nat) : Int)) - b = (i : Int) - j by omega, show (((k + d - m : Nat) : Int)) - d = (k : Int) - (O - i - j - k) by omega, <- e]
  omega
theorem sC {a b c d : Nat} : bL (eI a b c d) := by
 intro p hp;unfold eI at hp;simp only [List.mem_append, List.mem_replicate] at hp;rcases hp with ⟨_, rfl⟩ | ⟨_, rfl⟩ | ⟨_, rfl⟩ | ⟨_, rfl⟩ <;> simp
theorem pw {a b c d : Nat} : (eI a b c d).count (1, 0) = a /\ (eI a b c d).count (0, 1) = b /\ (eI a b c d).count (1, 1) = c /\ (eI a b c d).count (0, 0) = d := by
 unfold eI;simp [List.count_append, List.count_replicate]
theorem jU {a b c d : Nat} : (eI a b c d).length = a + b + c + d := by
 unfold eI;simp;omega
theorem ny {O : Int} {a b c d : Nat} (h0 : 0 <= O) (h1 : O <= (a + b + c + d : Nat)) : 1 <= dS (λ _ => 1) (cB O a b c d (a + 1)) /\ dS (λ _ => 1) (cB O a b c d (a + 1)) <= 2 ^ (a + b + c + d) := by
 have e := jF (sC (a := a) (b := b) (c := c) (d := d)) O ((a + b + c + d : Nat) : Int) (λ _ => 1);obtain ⟨e1, e2, e3, e4⟩ := pw (a := a) (b := b) (c := c) (d := d);rw [e1, e2, e3, e4] at e;rw [<- e];constructor
 ·have := j8 (f := fg O λ _ => 1) (o := O.toNat) (λ v => by unfold fg; rw [Ô ae]; exact Nat.one_pos) ((eI a b c d).map (oH O ((a + b + c + d : Nat) : Int))) 0 0 (Ċ _) (by rw [Æ, jU]; omega)
  exact this
 ·have := oG (f := fg O λ _ => 1) (λ u v => by unfold fg; split; exact Å _; exact Ċ _) ((eI a b c d).map (oH O ((a + b + c + d : Nat) : Int))) 0 0
  rw [Æ, jU] at this;exact this
theorem qb {O : Int} {a b c d : Nat} {ps : List (Int × Nat)} (h : mX O a b c d ps) (hn : a + b + c + d <= 20) : ps.length < 64 := by
 have := qK (O := O) (a := a) (b := b) (c := c) (d := d) (keys := ps.map (·.1)) hn h.1.nd λ x hx => ?_
 ·rw [Æ] at this;omega
 ·have p := h.1.mem.mp hx;rw [vE h.1.nd, h.2] at p;obtain ⟨q, hq, hz⟩ := qE p;obtain ⟨i, j, k, h1, h2, h3, h4, h5, e4, _⟩ := lF hq;refine ⟨i, j, k, h1, h2, h3, h4, h5, ?_⟩;by_cases z : v4 O ((a + b + c + d : Nat) : Int) (b : Nat) (c : Nat) q.1 = x
  ·rw [<- z, e4];rfl
  ·rw [É z] at hz;exact absurd hz (ÿ _)
section
variable {P : Program} {w : World} {K : Frag} {mg : bE} {base : Heap}
theorem uR {t T : Nat} (h : 1 <= T) : Nat.gcd (bw t T) (aI t T) = 1 := by
 unfold bw aI;have g0 : 0 < Nat.gcd t T := Ŕ t h;rw [Nat.gcd_div (Nat.gcd_dvd_left t T) (Ξ t T), Nat.div_self g0]
theorem ou {t T : Nat} (h : 1 <= T) : 1 <= aI t T := by
 have g0 : 0 < Nat.gcd t T := Ŕ t h;exact Nat.div_pos (Nat.le_of_dvd h (Ξ t T)) g0
theorem sU {t T : Nat} (h : 1 <= T) : bw t T * T = t * aI t T := by
 have g0 : 0 < Nat.gcd t T := Ŕ t h;unfold bw aI;obtain ⟨x, hx⟩ := Nat.gcd_dvd_left t T;obtain ⟨y, hy⟩ := Ξ t T;generalize Nat.gcd t T = g at *;subst hx hy;rw [JE _ g0, JE _ g0]
 grind
def zK : Sp := λ vs H Q _ => ∃ (v : V) (t T : Nat), vs = [v, .int (t : Nat), .int (T : Nat)] /\ HC H v (bw t T) (aI t T) /\ 1 <= T /\ T <= 2 ^ 20 /\ t <= T /\ Q (.bl true) H
theorem ik {κ : Type} [DecidableEq κ] {k : κ} {v : V} : ∀ {kvs : List (κ × V)}, (kvs.map (·.1)).Nodup -> (k, v) ∈ kvs -> cL kvs k = some v
 | p :: r, nd, h => by
  rw [Í, þ] at nd;rcases Ï.mp h with rfl | h
  ·exact du rfl
  ·rw [dD (λ z => nd.1 (by rw [z]; exact õ.mpr ⟨(k, v), h, rfl⟩))]
   exact ik nd.2 h
end
section
variable {X : Cx} {op : Operator} {r : R2} {a b : Expr} {ta tb : TE} {pos p : Pos} {CX : mK} {k : Nat} {f : Addr} {fd : FuncData} {ps : List Str} {sp : Sp} {E : XK} {x : Str} {e : Expr} {es : List Expr} {t : TA} {tg iter l : Expr} {body : List Stmt} {wi : L2.TI} {g : TG} {P8 : TS} {tl : TE}
theorem xi (h : Bx (PE X l tl)) : Bx (PI X tg l (cX X.K tl)) := ⟨bD h.h⟩
theorem il (hp : PassesOwn (model X.prog X.w) X.A X.env X.xe) (hc : X.calm = true) (hi : Bx (PI X tg iter wi)) (hg : PG X tg g) (hb : Bx (f_ X body P8)) (hs : ∀ x, foldedSetIterable iter X.env x = pure x := by intro _; rfl) : Bx (PS X (.For tg iter body [] pos) (fT wi g P8)) := ⟨bO hp hc hi.h hg hb.h hs⟩
end
def HD (H : Hp) (y : V) (p : Int × Int) : Prop := ∃ t, y = .ref t /\ H t = some (.tup [.int p.1, .int p.2])
theorem HD.kp {H H' : Hp} {y : V} {p : Int × Int} (h : HD H y p) (k : eV H H') : HD H' y p := by
 obtain ⟨t, e, h⟩ := h;exact ⟨t, e, k _ _ h⟩
def Ŗ (H : Hp) (a : Addr) (L : List (Int × Int)) : Prop := ∃ xs, H a = some (.lst xs) /\ Paired (HD H) xs L
theorem Ŗ.ext {H H' : Hp} {a : Addr} {L : List (Int × Int)} (h : Ŗ H a L) (x : Ext H H') : Ŗ H' a L := by
 obtain ⟨xs, h1, h2⟩ := h;exact ⟨xs, x _ _ h1, Paired.imp' (λ _ _ r => r.kp x.Ū) h2⟩
def f2 (z : Int × Int) : List Key := [.inl z.1, .inl z.2]
section
variable {P : Program} {w : World} {K : Frag} {mg : bE} {base : Heap}
def jT (K : Frag) : List V -> Hp -> VK -> Prop := λ xs H Q => ∃ p ys, xs = [.ref p] /\ (ñ K H p ys \/ ą K H p ys) /\ Q (.int ys.length) H
abbrev fN : R2 := iS λ i j => .int (i + j)
abbrev gP : R2 := iS λ i j => .int (i - j)
abbrev rh : R2 := rI GM λ i j => .int (i * j)
abbrev s0 : Stmt := .Pass ⟨0, 0, 0, 0⟩
section
variable {f : Addr} {ò : Value} {A : Around} {outer : List Env} {s : Shared} {H : Hp} {E : XK}
theorem m4 {X : Cx} {n : String} {r : List V -> Hp -> VK -> Prop} {x : Str} {e : Expr} {te : TE} {p pos : Pos} (hc : ce X (.type n) r) (hg : Gl X x) (hm : X.mg x = none) (hv : bootBuiltins x = some (.type n)) (ha : Bx (PE X e te)) (hn : x ≠ "__name__" := by decide) (G7 : (x == ("__debug__" : Str)) = false := by decide)
  (he : starEach [e] X.env = (false, eval e X.env) :: starEach [] X.env := by rfl) (l_ : (backTo pos (starEach [] X.env)).any (·.1) = false := by rfl) : Bx (PE X (.Call (.Name x p) [e] [] pos) (gI r (ac te aH))) := ⟨cz hc hg hm hv (ad ha.h ap (hs := he)) hn G7 he l_⟩
end
end
theorem tH {α κ : Type} [DecidableEq α] [DecidableEq κ] {f : α -> κ} {ps : List (α × Nat)} {i : Nat} {k : κ} {v : V} (h : (eT f ps)[i]? = some (k, v)) : ∃ q, ps[i]? = some q /\ k = f q.1 /\ v = .int (q.2 : Nat) := by
 unfold eT at h;rw [Õ] at h;obtain ⟨q, hq, e⟩ := ğ.mp h;cases e;exact ⟨q, hq, rfl, rfl⟩
section
variable {P : Program} {w : World} {K : Frag} {mg : bE} {base : Heap}
def Bn (O : Int) (L : List (Int × Int)) (ps : List (Int × Nat)) : Prop := HS ps /\ ∀ g, dS g ps = EE (fg O g) (L.map (oH O L.length)) 0 0
def Eb : Sp := λ vs H Q _ => ∃ (a : Addr) (O : Int) (L : List (Int × Int)), vs = [.ref a, .int O] /\ Ŗ H a L /\ bL L /\ L.length <= 20 /\ ∀ r H' ps, H r = none -> Ext H H' -> H' r = some (.dK (eT Key.inl ps)) -> Bn O L ps -> Q (.ref r) H'
theorem j7 {te : TE} {r : List V -> Hp -> VK -> Prop} {D : bQ} {σ : St} {H : Hp} (h : te σ H λ x H1 => r [x] H1 D.rt) : bY (gI r (ac te aH)) D σ H := h
theorem cr {X : Cx} {body : List Stmt} {t : TS} {D : bQ} {σ : St} {H : Hp} (h : Bx (f_ X body t)) (r : Bx (t D σ H)) : ∃ t, f_ X body t /\ t D σ H := ⟨t, h.h, r.h⟩
end
def FR (p : Int × Int) : TE := dq (ac (tC (.int p.1)) (ac (tC (.int p.2)) aH))
def sL : List (Int × Int) -> TA
 | [] => aH
 | p :: r => ac (FR p) (sL r)
theorem sH {σ : St} : ∀ {ps : List (Int × Int)} {H : Hp} {Q : List V -> Hp -> Prop}, (∀ vs H', Ext H H' -> Paired (HD H') vs ps -> Q vs H') -> sL ps σ H Q
 | [], H, Q, q => q [] H (Ext.refl _) .nil
 | p :: r, H, Q, q => by
  refine ⟨fk, λ t ht => ?_⟩;have x1 := Ext.new (o := .tup [.int p.1, .int p.2]) ht;exact sH (ps := r) λ vs H' x' pr => q _ _ (x1.trans x') (.cons ⟨t, rfl, x' _ _ bh⟩ pr)
theorem rR {σ : St} {ps : List (Int × Int)} {H : Hp} {Q : VK} (l : ps.length <= 100) (q : ∀ l vs H', H l = none -> Ext H H' -> H' l = some (.lst vs) -> Paired (HD H') vs ps -> Q (.ref l) H') : fe (sL ps) σ H Q := by
 refine sH λ vs H' x' pr => ⟨?_, λ l hl => ?_⟩
 ·have e : vs.length = ps.length := Ö pr;rw [e, Þ];omega
 ·have x2 := Ext.new (o := .lst vs) hl;have Mt : H l = none := by
   cases e : H l with
   | none => rfl
   | some o => rw [x' _ _ e] at hl; cases hl
  exact q l vs _ Mt (x'.trans x2) bh (Paired.imp' (λ _ _ r => r.kp x2.Ū) pr)
def k5 : List (Int × Int) := [(1, 0), (0, 1), (1, 1), (0, 0), (1, 0)]
def k4 : List (Int × Int) := [(1, 0), (0, 1), (1, 1), (0, 0)]
theorem Kept.Ū {H H' : Hp} {p : Addr} (k : Kept H H' p) (b : Ś H p) : eV H H' := λ c xs e => k _ _ e (λ z => by
 obtain ⟨_, _, _, h, _⟩ := b.ex;rw [z, h] at e;cases e)
theorem Ś.up {H : Hp} {p l : Addr} {o : HO} (b : Ś H p) (n : l ≠ p) : Ś (ao H l o) p := by
 obtain ⟨x, y, z, hp, r⟩ := b;exact ⟨x, y, z, by rw [ah n.symm]; exact hp, r⟩
theorem Ś.some {H : Hp} {p : Addr} (b : Ś H p) : ∃ u, H p = some u := by
 obtain ⟨_, _, _, h, _⟩ := b.ex;exact ⟨_, h⟩
theorem Ŗ.kept {H H' : Hp} {a p : Addr} {L : List (Int × Int)} (h : Ŗ H a L) (k : Kept H H' p) (b : Ś H p) (n : a ≠ p) : Ŗ H' a L := by
 obtain ⟨xs, h1, h2⟩ := h;exact ⟨xs, k _ _ h1 n, Paired.imp' (λ _ _ r => r.kp (k.Ū b)) h2⟩
def yV (i : Nat) (te : TE) : TE := cC eG [] E0 (ac (am i) (ac te aH))
theorem ff {i : Nat} {te : TE} {m : Int} {Q : VK} {σ : St} {H : Hp} {p : Addr} (h0 : σ[i]? = some (some (.ref p))) (bx : Ś H p) (hm : ∀ R : VK, R (.int m) H -> te σ H R) (m0 : 0 < m) (m1 : m < 1073741824) (q : ∀ r H', 0 <= r -> r < m -> Ś H' p -> Kept H H' p -> Q (.int r) H') : yV i te σ H Q :=
 ⟨_, h0, hm _ ⟨p, m, rfl, bx, m0, m1, λ r H' a b c d _ => q r H' a b c d⟩⟩
theorem tI : bL k5 := by
 intro p hp;simp only [k5, List.mem_cons, List.not_mem_nil, or_false] at hp;rcases hp with rfl | rfl | rfl | rfl | rfl <;> simp
theorem dM {X : Cx} {sc : Scope} {cl : List (Str × Addr)} {ts zs : List Str} {js : List Nat} {elt tg iter : Expr} {wi : TI} {g : TG} {te : TE} {pos : Pos} (hc : X.calm = true) (S : aY X sc cl ts zs js) (hi : Bx (PI X tg iter wi)) (hg : ∀ s H C fp, PG (av X sc cl (ts ++ zs) s H C fp) tg g) (he : ∀ s H C fp, Bx (PE (av X sc cl (ts ++ zs) s H C fp) elt te))
  (hs : ∀ v, foldedSetIterable iter X.env v = pure v := by intro _; rfl) : Bx (PE X (.ListComp elt [⟨tg, iter, [], 0⟩] sc pos) (dX wi ts.length js g te)) := ⟨eJ hc S hi.h hg (λ s H C fp => (he s H C fp).h) hs⟩
section
variable {P : Program} {w : World} {K : Frag} {mg : bE} {base : Heap}
abbrev pZ : Stmt := cf 67
def tE : Sp := λ vs H Q _ => ∃ (p : Addr) (n : Nat), vs = [.ref p, .int (n : Nat)] /\ Ś H p /\ n <= 20 /\ ∀ l L H', H l = none -> Kept H H' p -> Ś H' p -> Ŗ H' l L -> bL L -> L.length = n -> Q (.ref l) H'
abbrev CH : List Str := ["_law_box_here", "_law_folk"]
theorem DF : af CH ["_law_box_here", "_law_folk"] (aa pZ) := aQ
abbrev vU : Scope := cT [("_law_k", .local), ("_law_take", .globalImplicit), ("_law_box_here", .free)]
theorem Dl : ((["_law_k"] : List Str) ++ (["_law_box_here"] : List Str)).Nodup := aF
def uH (K : Frag) : TE := aZ (kb K) (fe (sL k5)) (yV 1 (tC (.int 5)))
section
variable {f a1 : Addr} {d1 : FuncData} {ò : Value} {A : Around} {outer : List Env} {s : Shared} {H : Hp} {E : XK}
theorem wf : aY (aU au P w K mg base CH "_law_listing" (aa pZ) f ò A outer s H E).ť vU [("_law_box_here", s.heap.objs.size + 1)] ["_law_k"] ["_law_box_here"] [0] :=
 bP (M := ["_law_box_here"]) (L := [(".0", .local), ("_law_k", .local), ("_law_take", .globalImplicit), ("_law_box_here", .cell)]) rfl rfl aF aF aF rfl rfl rfl aF aF rfl rfl rfl
abbrev z0 : Expr := match (aK pZ).getD 0 s0 with
 | .Return (some (.ListComp e _ _ _)) _ => e
 | _ => .Name "" ⟨0, 0, 0, 0⟩
theorem D3 (A1 : Df P w K mg base au 1 "_law_take" ["_law_box_here", "_law_many"] eG a1 d1) (hr : ċ 1 (A.deeper (PyProof.Rows.envOfC "_law_listing" (aa pZ) s.heap.objs.size f ò))) {s' : Shared} {H' : Hp} {C : Addr} {fp : List Addr} :
  Bx (PE (av (aU au P w K mg base CH "_law_listing" (aa pZ) f ò A outer s H E).ť vU [("_law_box_here", s.heap.objs.size + 1)] ((["_law_k"] : List Str) ++ (["_law_box_here"] : List Str)) s' H' C fp) z0 (uH K)) :=
 vY lS (l7 (kr ⟨aO (ad ay (ad ay ap))⟩ (kr ⟨aO (ad ay (ad ay ap))⟩ (kr ⟨aO (ad ay (ad ay ap))⟩ (kr ⟨aO (ad ay (ad ay ap))⟩ (kr ⟨aO (ad ay (ad ay ap))⟩ ij)))))) ⟨bH A1 hr ai (ad (pv 1) (ad ay ap))⟩
theorem yA (A1 : Df P w K mg base au 1 "_law_take" ["_law_box_here", "_law_many"] eG a1 d1) (mr : mg "range" = none) (hr : ċ 1 (A.deeper (PyProof.Rows.envOfC "_law_listing" (aa pZ) s.heap.objs.size f ò))) :
  Bx (f_ (aU au P w K mg base CH "_law_listing" (aa pZ) f ò A outer s H E).ť (aK pZ) (bY (dX (dC (ac (am 1) aH)) 1 [0] (aP 0) (uH K)))) :=
 aR (dF (dM (te := uH K) (g := aP 0) rfl wf ⟨bc rfl mr (ad (pv 1) ap)⟩ (λ s H C fp => by exact bf (i := 0) Dl rfl (.inl rfl)) (λ s H C fp => D3 A1 hr)))
end
theorem xK {H : Hp} {p : Addr} {Q : VK} {o0 : Option V} (bx : Ś H p) (q : ∀ y z H', Ś H' p -> Kept H H' p -> (z ∈ k5) -> HD H' y z -> Q y H') : uH K [o0, some (.ref p)] H Q := by
 refine rC (rR ag λ l vs H1 hl x1 h1 pr => ?_);refine ff (i := 1) rfl (bx.ext x1) (λ R r => r) ag ag λ r H2 r0 r5 K1 k2 => ?_;have lv : vs.length = 5 := Ö pr;have nl : l ≠ p := λ z => by
  obtain ⟨u, hu⟩ := bx.some;rw [z, hu] at hl;cases hl
 have hi : r.toNat < vs.length := ae;obtain ⟨z, ez, pz⟩ := ð pr (Ã hi);refine ⟨l, _, _, _, rfl, rfl, ñ.of (k2 _ _ h1 nl), AN r0 hi, ?_⟩;exact q _ z H2 K1 ((x1.kept p).trans k2) (á ez) (pz.kp (k2.Ū (bx.ext x1)))
theorem Cd {f a1 : Addr} {fd d1 : FuncData} (F : ŀ K "_law_listing" "_law_listing" pZ f fd) (A1 : Df P w K mg base au 1 "_law_take" ["_law_box_here", "_law_many"] eG a1 d1) (mr : mg "range" = none) : az P w K mg base au 2 f fd ["_law_box_here", "_law_folk"] tE := by
 refine F.ok DF (λ vs H Q E h => ?_) (λ ò A outer s H vs Q E hr h => ?_)
 ·obtain ⟨p, n, rfl, _⟩ := h;rfl
 obtain ⟨p, n, rfl, bx, IG, q⟩ := h;refine cr (yA A1 mr hr) ⟨?_⟩;refine ⟨_, rfl, _, rfl, ae, ae, λ D hD => ?_⟩;have nD : D ≠ p := λ z => by
  obtain ⟨u, hu⟩ := bx.some;rw [z, hu] at hD;cases hD
 refine f6 (n := ((n : Nat) : Int).toNat) (λ i ys H' => Kept H H' p /\ Ś H' p /\ ∃ L, Paired (HD H') ys L /\ bL L /\ L.length = i) (by rw [Þ]; omega) ⟨(Ext.new hD).kept p, bx.ext (Ext.new hD), [], .nil, (λ _ h => nomatch h), rfl⟩ ?_ ?_
 ·rintro i ys H' hi ly ĕ ⟨k, Nm, L, pr, bt, lL⟩ os Ņ R kk
  match os, Ņ with
  | [o0], _ =>
   refine ⟨⟨[_], rfl, rfl⟩, ?_⟩;refine xK Nm λ y z H4 Lk k4 mz pz => ?_;have JU := k4 _ _ ĕ nD;have kl : eV H4 (ao H4 D (.lst (ys ++ [y]))) := b9 JU;refine kk y H4 JU ⟨sR (k.trans k4) hD, Lk.up nD, L ++ [z], aN (pz.kp kl) (Paired.imp' (λ _ _ r => (r.kp (k4.Ū Nm)).kp kl) pr), λ w hw => ?_, by rw [Ì, lL]; rfl⟩
   rcases ŗ.mp hw with hw | hw
   ·exact bt w hw
   ·cases ê.mp hw;exact tI z mz
 ·rintro ys H' ly ĕ ⟨k, Nm, L, pr, bt, lL⟩;exact q D L H' hD k Nm ⟨ys, ĕ, pr⟩ bt (by simpa using lL)
def pD (p : Int × Int) : PyData := .tuple [.int p.1, .int p.2]
theorem cw {a b : Int} : ∀ L : List (Int × Int), sP a b (L.map pD) = L.count (a, b)
 | [] => rfl
 | p :: L => by
  have ih := cw (a := a) (b := b) L;unfold sP at ih ⊢;rw [Í, Hs, g_, ih]
  congr 1
theorem Paired.rws {H : Hp} : ∀ {xs : List V} {L : List (Int × Int)}, Paired (HD H) xs L -> bL L -> ∃ as, CS H xs (L.map pD) as
 | _, _, .nil, _ => ⟨[], rfl, rfl, (λ _ h => nomatch h), (λ _ h => nomatch h)⟩
 | _, _, .cons ⟨t, rfl, ht⟩ r, bt => by
  obtain ⟨as, w⟩ := Paired.rws r λ q hq => bt q (Î _ hq)
  rename_i p _ _
  obtain ⟨b1, b2⟩ := bt p (Ù ..);refine ⟨(t, p.1, p.2) :: as, by rw [w.Nt]; rfl, by rw [Í, w.O']; rfl, λ z hz => ?_, λ z hz => ?_⟩
  ·rcases Ï.mp hz with rfl | hz
   ·exact ht
   ·exact w.at_ z hz
  ·rcases Ï.mp hz with rfl | hz
   ·show (0 <= p.1 /\ p.1 <= 1) /\ (0 <= p.2 /\ p.2 <= 1);omega
   ·exact w.bit z hz
theorem Paired.Kt {H : Hp} : ∀ {xs : List V} {L : List (Int × Int)}, Paired (HD H) xs L -> Ć H xs (L.map pD)
 | _, _, .nil => .nil
 | _, _, .cons ⟨t, rfl, ht⟩ r => .cons (.tup ht (.cons (.int _) (.cons (.int _) .nil))) (Paired.Kt r)
theorem Ŗ.Kt {H : Hp} {a : Addr} {L : List (Int × Int)} (h : Ŗ H a L) : Ļ H (.ref a) (.list (L.map pD)) := by
 obtain ⟨xs, h1, h2⟩ := h;exact .lst h1 (Paired.Kt h2)
theorem dO : ∀ {L : List (Int × Int)}, bL L -> (L.map pD).all cb = true
 | [], _ => rfl
 | p :: L, bt => by
  obtain ⟨b1, b2⟩ := bt p (Ù ..);rw [Í, Ĺ, dO λ q hq => bt q (Î _ hq), Bool.and_true];show (decide ((0 : Int) <= p.1) && decide (p.1 <= 1) && (decide ((0 : Int) <= p.2) && decide (p.2 <= 1))) = true;rw [Ç (show (0 : Int) <= p.1 by omega), Ç (show p.1 <= 1 by omega), Ç (show (0 : Int) <= p.2 by omega), Ç (show p.2 <= 1 by omega)]
  rfl
def kM (L : List (Int × Int)) : List V := [.int (L.count (1, 0) : Nat), .int (L.count (0, 1) : Nat), .int (L.count (1, 1) : Nat), .int (L.count (0, 0) : Nat)]
abbrev sK : Stmt := cf 69
def yq : Sp := λ vs H Q _ => ∃ (a : Addr) (L : List (Int × Int)), vs = [.ref a] /\ Ŗ H a L /\ bL L /\ ∀ l H', Ext H H' -> H l = none -> H' l = some (.tup (kM L)) -> Q (.ref l) H'
abbrev Dq : List Str := ["_law_listing_here"]
theorem D4 : af Dq ["_law_listing_here"] (aa sK) := aQ
abbrev zk : Scope := cT [("_law_kind", .local), ("_law_listing_here", .free)]
theorem Dc : ((["_law_kind"] : List Str) ++ (["_law_listing_here"] : List Str)).Nodup := aF
def zz (K : Frag) : TE := vO K "list" (fm K) (am 1) (ac (am 0) aH)
def wY (K : Frag) : List V -> Hp -> VK -> Prop := λ xs H Q => ∃ p ys, xs = [.ref p] /\ ((ñ K H p ys /\ ∀ l, H l = none -> Q (.ref l) (ao H l (.tup ys))) \/ (ą K H p ys /\ Q (.ref p) H))
def DW (K : Frag) : TE := dX (cX K (fe (sL k4))) 1 [0] (aP 0) (zz K)
section
variable {f : Addr} {ò : Value} {A : Around} {outer : List Env} {s : Shared} {H : Hp} {E : XK}
theorem wu : aY (aU au P w K mg base Dq "_law_counts" (aa sK) f ò A outer s H E).ť zk [("_law_listing_here", s.heap.objs.size + 1)] ["_law_kind"] ["_law_listing_here"] [0] :=
 bP (M := ["_law_listing_here"]) (L := [(".0", .local), ("_law_kind", .local), ("_law_listing_here", .cell)]) rfl rfl aF aF aF rfl rfl rfl aF aF rfl rfl rfl
abbrev wP : Expr := match (aK sK).getD 0 s0 with
 | .Return (some (.Call _ [.ListComp _ [c] _ _] _ _)) _ => c.iter
 | _ => .Name "" ⟨0, 0, 0, 0⟩
theorem Ep {X : Cx} : Bx (PE X wP (fe (sL k4))) := l7 (kr ⟨aO (ad ay (ad ay ap))⟩ (kr ⟨aO (ad ay (ad ay ap))⟩ (kr ⟨aO (ad ay (ad ay ap))⟩ (kr ⟨aO (ad ay (ad ay ap))⟩ ij))))
theorem xG (mt : mg "tuple" = none) (hr : ċ 0 (A.deeper (PyProof.Rows.envOfC "_law_counts" (aa sK) s.heap.objs.size f ò))) :
  Bx (f_ (aU au P w K mg base Dq "_law_counts" (aa sK) f ò A outer s H E).ť (aK sK) (bY (gI (wY K) (ac (DW K) aH)))) := by
 have hu : (A.deeper (PyProof.Rows.envOfC "_law_counts" (aa sK) s.heap.objs.size f ò)).units + 1 < cLine := by have := hr.un; omega
 exact aR (dF (m4 iT rfl mt į (dM (te := zz K) (g := aP 0) rfl wu (xi Ep) (λ s H C fp => by exact bf (i := 0) Dc rfl (.inl rfl)) (λ s H C fp => ⟨by exact eD ì Į ĭ (cR hu) (pv 1) (ad (pv 0) ap)⟩))))
end
theorem Bu {H : Hp} {a : Addr} {L : List (Int × Int)} {Q : VK} (ls : Ŗ H a L) (bt : bL L) (q : ∀ D H', H D = none -> Ext H H' -> H' D = some (.lst (kM L)) -> Q (.ref D) H') : DW K [some (.ref a)] H Q := by
 unfold DW dX cX;refine rR ag λ l vs H1 hl x1 h1 pr => ⟨l, rfl, ⟨_, ñ.of h1⟩, λ D hD => ?_⟩;have lv : vs.length = 4 := Ö pr;have Jz : H D = none := by
  cases e : H D with
  | none => rfl
  | some o => rw [x1 _ _ e] at hD; cases hD
 refine dw (n := 4) (λ i ys H' => Ext H1 H' /\ ys = (k4.take i).map λ z => V.int ((L.count z : Nat) : Int)) (by rw [Þ]; omega) ⟨Ext.new hD, rfl⟩ (λ i ys H' hi p => ⟨vs, vs[i], ñ.of (p.1 _ _ h1), Ã ae⟩) (λ ys H' p => ⟨vs, ñ.of (p.1 _ _ h1), ae⟩) ?_ ?_
 ·rintro i x ys H' H3 hi ⟨rfl, hy⟩ ly ĕ ⟨x', rfl⟩ os Ņ R kk;have ex := hy vs (ñ.of (x' _ _ h1));obtain ⟨z, ez, t, rfl, ht⟩ := ð pr ex;obtain ⟨xs, ha, px⟩ := ls.ext (x1.trans x');obtain ⟨as, GC⟩ := Paired.rws px bt
  match os, Ņ with
  | [o0], _ =>
   refine ⟨⟨[_], rfl, rfl⟩, _, rfl, .inl ⟨rfl, _, ñ.of ha⟩, _, rfl, ?_⟩;refine lJ GC (ñ.of ha) (ą.of (x' _ _ ht)) ?_;rw [cw];refine kk _ _ ĕ ⟨aV _ x' hD, ?_⟩;rw [aw ez, Ó];rfl
 ·rintro ys H' ly ĕ ⟨x', rfl⟩;exact q D H' Jz (x1.trans x') ĕ
theorem BA {f : Addr} {fd : FuncData} (F : ŀ K "_law_counts" "_law_counts" sK f fd) (mt : mg "tuple" = none) : az P w K mg base au 1 f fd ["_law_listing_here"] yq := by
 refine F.ok D4 (λ vs H Q E h => ?_) (λ ò A outer s H vs Q E hr h => ?_)
 ·obtain ⟨a, L, rfl, _⟩ := h;rfl
 obtain ⟨a, L, rfl, ls, bt, q⟩ := h;refine cr (xG mt hr) ⟨j7 (Bu ls bt λ D H1 hD x1 h1 => ⟨D, _, rfl, .inl ⟨ñ.of h1, λ l hl => ?_⟩⟩)⟩;have Mt : H l = none := by
  cases e : H l with
  | none => rfl
  | some o => rw [x1 _ _ e] at hl; cases hl
 exact q l _ (x1.trans (Ext.new hl)) Mt bh
end
theorem eY (x i : Nat) : x / 2 / 2 ^ i = x / 2 ^ (i + 1) := by
 rw [Nat.div_div_eq_div_mul, GY, Nat.mul_comm]
def cm : List (Int × Int) -> Nat -> List Int
 | [], _ => []
 | p :: L, x => (if x % 2 = 1 then p.1 else p.2) :: cm L (x / 2)
theorem eQ : ∀ (L : List (Int × Int)) (x : Nat), (cm L x).length = L.length
 | [], _ => rfl
 | p :: L, x => by show (cm L (x / 2)).length + 1 = L.length + 1; rw [eQ L]
theorem mJ : ∀ {L : List (Int × Int)} {x i : Nat} {p : Int × Int}, L[i]? = some p -> (cm L x)[i]? = some (if x / 2 ^ i % 2 = 1 then p.1 else p.2)
 | q :: L, x, 0, p, h => by
  cases h;show some _ = _;rw [GX, HJ]
 | q :: L, x, i + 1, p, h => by
  show (cm L (x / 2))[i]? = _;rw [mJ (L := L) (x := x / 2) h, eY]
def uV : Nat -> Nat -> List Int
 | 0, _ => []
 | n + 1, x => ((x % 2 : Nat) : Int) :: uV n (x / 2)
theorem ng : ∀ (n x : Nat), (uV n x).length = n
 | 0, _ => rfl
 | n + 1, x => by show (uV n (x / 2)).length + 1 = n + 1; rw [ng n]
theorem nq : ∀ {n x i : Nat}, i < n -> (uV n x)[i]? = some ((x / 2 ^ i % 2 : Nat) : Int)
 | n + 1, x, 0, h => by
  show some _ = _;rw [GX, HJ]
 | n + 1, x, i + 1, h => by
  show (uV n (x / 2))[i]? = _;rw [nq ae, eY]
theorem n6 : ∀ (n x : Nat), (uV n x).sum = ((eR n x : Nat) : Int)
 | 0, _ => rfl
 | n + 1, x => by
  show (((x % 2 : Nat) : Int) :: uV n (x / 2)).sum = ((x % 2 + eR n (x / 2) : Nat) : Int);rw [Ī, n6 n];omega
theorem mh : ∀ (n x : Nat), eR n x <= n
 | 0, _ => Å _
 | n + 1, x => by
  show x % 2 + eR n (x / 2) <= n + 1;have := mh n (x / 2);omega
def wl (c0 c1 : Int) : List Int -> Nat -> List Int
 | [], _ => []
 | y :: r, x => y * (if x % 2 = 1 then c1 else c0) :: wl c0 c1 r (x / 2)
theorem vV (O n : Int) : ∀ (L : List (Int × Int)) (x : Nat), (wl (0 - O) (n - O) (cm L x) x).sum = qI (L.map (oH O n)) x
 | [], _ => rfl
 | p :: L, x => by
  show ((if x % 2 = 1 then p.1 else p.2) * (if x % 2 = 1 then n - O else 0 - O) :: wl (0 - O) (n - O) (cm L (x / 2)) (x / 2)).sum = (if x % 2 = 1 then (n - O) * p.1 else 0 - O * p.2) + qI (L.map (oH O n)) (x / 2)
  rw [Ī, vV O n L (x / 2)]
  congr 1
  split
  ·exact ź _ _
  ·rw [G1, G1, Int.mul_neg, ź]
def gF (n : Nat) (O : Int) : List Nat := (List.range (2 ^ n)).filter λ x => decide (((eR n x : Nat) : Int) = O)
theorem ut {α : Type} (g : α -> Nat) : ∀ (xs : List α) (ys : List α), ((xs ++ ys).map g).sum = (xs.map g).sum + (ys.map g).sum
 | [], ys => by simp
 | x :: xs, ys => by simp [Nat.add_assoc]
theorem nX (g : Nat -> Nat) : ∀ n, Sm n g = ((List.range n).map g).sum
 | 0 => rfl
 | n + 1 => by
  rw [ý, ut, <- nX g n];show Sm n g + g n = _;simp
theorem fW (p : Nat -> Bool) (g : Nat -> Nat) : ∀ xs : List Nat, ((xs.filter p).map g).sum = (xs.map λ x => if p x = true then g x else 0).sum
 | [] => rfl
 | x :: xs => by
  rw [î];by_cases h : p x = true
  ·rw [Ô h, Í, Í, Ī, Ī, fW p g xs, Ô h]
  ·rw [É h, Í, Ī, fW p g xs, É h, GV]
theorem pS (W : List (Int × Int)) (O : Int) (g : Int -> Nat) : (((gF W.length O).map (qI W)).map g).sum = EE (fg O g) W 0 0 := by
 rw [ŉ];unfold gF;rw [fW, <- nX, <- iD W 0 0];refine bv λ x _ => ?_;unfold fg;rw [Ě, Ě];by_cases h : ((eR W.length x : Nat) : Int) = O
 ·rw [Ô (Ç h), Ô h];rfl
 ·rw [É (by simpa using h), if_neg h]
theorem Dy (x i : Nat) : Builtin.bitAnd (((x : Nat) : Int) / 2 ^ ((i : Nat) : Int).toNat) 1 = ((x / 2 ^ i % 2 : Nat) : Int) := by
 rw [PyProof.Rows.bitAnd_m1, Ĕ];simp
abbrev Dx : R2 := rI (λ _ j => 0 <= j) λ i j => .int (i / 2 ^ j.toNat)
abbrev DK : R2 := iS λ i j => .int (Builtin.bitAnd i j)
def tG (i j : Nat) : TE := aZ DK (aZ Dx (am i) (am j)) (tC (.int 1))
theorem m6 {σ : St} {H : Hp} {Q : VK} {i j x k : Nat} (h1 : σ[i]? = some (some (.int (x : Nat)))) (h2 : σ[j]? = some (some (.int (k : Nat)))) (q : Q (.int ((x / 2 ^ k % 2 : Nat) : Int)) H) : tG i j σ H Q := by
 refine ⟨_, h1, _, h2, _, _, rfl, rfl, ae, _, _, rfl, rfl, ?_⟩;show Q (.int (Builtin.bitAnd (((x : Nat) : Int) / 2 ^ ((k : Nat) : Int).toNat) 1)) H;rw [Dy];exact q
theorem E9 {a b : V} {x i : Nat} : lW [a, b] (1 - ((x / 2 ^ i % 2 : Nat) : Int)) = some (if x / 2 ^ i % 2 = 1 then a else b) := by
 rcases (show x / 2 ^ i % 2 = 0 \/ x / 2 ^ i % 2 = 1 by omega) with h | h <;> rw [h] <;> rfl
section
variable {P : Program} {w : World} {K : Frag} {mg : bE} {base : Heap}
abbrev Bd : Stmt := cf 68
def t6 : Sp := λ vs H Q _ => ∃ (a : Addr) (x : Nat) (L : List (Int × Int)), vs = [.ref a, .int (x : Nat)] /\ Ŗ H a L /\ L.length <= 20 /\ ∀ l H', H l = none -> Ext H H' -> H' l = some (.lst ((cm L x).map V.int)) -> Q (.ref l) H'
abbrev E8 : List Str := ["_law_listing_here", "_law_dealing"]
theorem Et : af E8 ["_law_listing_here", "_law_dealing"] (aa Bd) := aQ
abbrev zX : Scope := cT [("_law_k", .local), ("_law_row", .local), ("_law_dealing", .free)]
theorem Aw : ((["_law_k", "_law_row"] : List Str) ++ (["_law_dealing"] : List Str)).Nodup := aF
section
variable {f : Addr} {ò : Value} {A : Around} {outer : List Env} {s : Shared} {H : Hp} {E : XK}
theorem xz : aY (aU au P w K mg base E8 "_law_came" (aa Bd) f ò A outer s H E).ť zX [("_law_dealing", s.heap.objs.size + 1)] ["_law_k", "_law_row"] ["_law_dealing"] [1] :=
 bP (M := ["_law_dealing"]) (L := [(".0", .local), ("_law_k", .local), ("_law_row", .local), ("_law_dealing", .cell)]) rfl rfl aF aF aF rfl rfl rfl aF aF rfl rfl rfl
end
def AX (K : Frag) : TE := aZ (dE K) (am 1) (aZ gP (tC (.int 1)) (tG 2 0))
theorem zn {f : Addr} {fd : FuncData} (F : ŀ K "_law_came" "_law_came" Bd f fd) (me : mg "enumerate" = none) : az P w K mg base au 1 f fd ["_law_listing_here", "_law_dealing"] t6 := by
 refine F.ok Et (λ vs H Q E h => ?_) (λ ò A outer s H vs Q E hr h => ?_)
 ·obtain ⟨a, x, L, rfl, _⟩ := h;rfl
 obtain ⟨a, x, L, rfl, ls, ś, q⟩ := h;refine cr (t := bY (dX (gv K (ac (am 0) aH)) 2 [1] (gW K 0 1) (AX K))) (aR (dF (dM (te := AX K) (g := gW K 0 1) rfl xz ⟨cv rfl me (ad (pv 0) ap)⟩ (λ s H C fp => by exact bd rfl (bT (bf (i := 0) Aw rfl (.inl rfl)) (bT (bf (i := 1) Aw rfl (.inl rfl)) aC))) (λ s H C fp => ⟨by exact cq dG (pv 1) (aj bp ay (aj mF (aj mH (pv 2) (pv 0)) ay))⟩)))) ⟨?_⟩
 obtain ⟨xs, ha, pr⟩ := ls;have lx : xs.length = L.length := Ö pr;refine ⟨_, rfl, a, rfl, ⟨_, ñ.of ha⟩, λ D hD => ?_⟩;refine dw (n := xs.length) (λ i ys H' => Ext H H' /\ ys = ((cm L x).take i).map V.int) (by rw [lx, Þ]; omega) ⟨Ext.new hD, rfl⟩ (λ i ys H' hi p => ⟨xs, xs[i], ñ.of (p.1 _ _ ha), Ã hi⟩) (λ ys H' p => ⟨xs, ñ.of (p.1 _ _ ha), Å _⟩) ?_ ?_
 ·rintro i y ys H' H3 hi yl ly ĕ ⟨x', rfl⟩ os Ņ R kk;obtain ⟨t, v, rfl, ht, rfl, hv⟩ := yl;have ev := hv xs (ñ.of (x' _ _ ha));obtain ⟨z, ez, u, rfl, hu⟩ := ð pr ev;have x3 := Ext.new (o := .tup [.int (i : Nat), .ref u]) ht
  match os, Ņ with
  | [p0, p1], _ =>
   refine ⟨t, _, rfl, ą.of bh, rfl, _, _, rfl, _, _, rfl, rfl, ⟨[_, _], rfl, rfl⟩, ?_⟩;refine ⟨_, rfl, m6 (i := 2) (j := 0) rfl rfl ⟨_, _, rfl, rfl, u, _, _, _, rfl, rfl, ą.of (x3 _ _ (x' _ _ hu)), E9, ?_⟩⟩;refine kk _ _ (x3 _ _ ĕ) ⟨aV _ (x'.trans x3) hD, ?_⟩;rw [aw (mJ (x := x) ez), Ó]
   congr 1
   show [_] = [V.int _];split <;> rfl
 ·rintro ys H' ly ĕ ⟨x', rfl⟩;rw [lx, a_ (by rw [eQ]; exact Å _)] at ĕ
  exact q D H' hD x' ĕ
abbrev zG : Stmt := cf 70
def tM : Sp := λ vs H Q _ => ∃ (n x : Nat), vs = [.int (n : Nat), .int (x : Nat)] /\ n <= 20 /\ ∀ H', Ext H H' -> Q (.int (eR n x : Nat)) H'
abbrev Fm : List Str := ["_law_folk", "_law_dealing"]
theorem C7 : af Fm ["_law_folk", "_law_dealing"] (aa zG) := aQ
abbrev zF : Scope := cT [("_law_k", .local), ("_law_dealing", .free)]
theorem Em : ((["_law_k"] : List Str) ++ (["_law_dealing"] : List Str)).Nodup := aF
section
variable {f : Addr} {ò : Value} {A : Around} {outer : List Env} {s : Shared} {H : Hp} {E : XK}
theorem wx : aY (aU au P w K mg base Fm "_law_ones" (aa zG) f ò A outer s H E).ť zF [("_law_dealing", s.heap.objs.size + 1)] ["_law_k"] ["_law_dealing"] [1] :=
 bP (M := ["_law_dealing"]) (L := [(".0", .local), ("_law_k", .local), ("_law_dealing", .cell)]) rfl rfl aF aF aF rfl rfl rfl aF aF rfl rfl rfl
end
theorem jg {X : Cx} {n : String} {r : List V -> Hp -> VK -> Prop} {x : Str} {e : Expr} {te : TE} {p pos : Pos} (hc : ce X (.builtin n) r) (hg : Gl X x) (hm : X.mg x = none) (hv : bootBuiltins x = some (.builtin n)) (ha : Bx (PE X e te)) (hn : x ≠ "__name__" := by decide) (G7 : (x == ("__debug__" : Str)) = false := by decide)
  (he : starEach [e] X.env = (false, eval e X.env) :: starEach [] X.env := by rfl) (l_ : (backTo pos (starEach [] X.env)).any (·.1) = false := by rfl) : Bx (PE X (.Call (.Name x p) [e] [] pos) (gI r (ac te aH))) := ⟨ak hc hg hm hv (ad ha.h ap (hs := he)) hn G7 he l_⟩
theorem Ai {f : Addr} {fd : FuncData} (F : ŀ K "_law_ones" "_law_ones" zG f fd) (mr : mg "range" = none) (ms : mg "sum" = none) : az P w K mg base au 1 f fd ["_law_folk", "_law_dealing"] tM := by
 refine F.ok C7 (λ vs H Q E h => ?_) (λ ò A outer s H vs Q E hr h => ?_)
 ·obtain ⟨n, x, rfl, _⟩ := h;rfl
 obtain ⟨n, x, rfl, IG, q⟩ := h;refine cr (t := bY (gI (jh K) (ac (dX (dC (ac (am 0) aH)) 1 [1] (aP 0) (tG 1 0)) aH))) (aR (dF (jg (fX rfl) rfl ms ė (dM (te := tG 1 0) (g := aP 0) rfl wx ⟨bc rfl mr (ad (pv 0) ap)⟩ (λ s H C fp => by exact bf (i := 0) Em rfl (.inl rfl)) (λ s H C fp => ⟨by exact aj mF (aj mH (pv 1) (pv 0)) ay⟩))))) ⟨j7 ?_⟩
 refine ⟨_, rfl, _, rfl, ae, ae, λ D hD => ?_⟩;refine f6 (n := ((n : Nat) : Int).toNat) (λ i ys H' => Ext H H' /\ ys = ((uV n x).take i).map V.int) (by rw [Þ]; omega) ⟨Ext.new hD, rfl⟩ ?_ ?_
 ·rintro i ys H' hi ly ĕ ⟨x', rfl⟩ os Ņ R kk;have KM : i < n := by simpa using hi
  match os, Ņ with
  | [p0], _ =>
   refine ⟨⟨[_], rfl, rfl⟩, m6 (i := 1) (j := 0) (k := i) rfl ?_ ?_⟩
   ·show some (some (V.int (0 + (i : Int)))) = _;rw [Ě]
   ·refine kk _ _ ĕ ⟨aV _ x' hD, ?_⟩;rw [aw (nq (x := x) KM), Ó];rfl
 ·rintro ys H' ly ĕ ⟨x', rfl⟩;rw [Ĕ, a_ (by rw [ng]; exact Å _)] at ĕ
  refine ⟨D, uV n x, rfl, ñ.of ĕ, ?_⟩;rw [n6];exact q H' x'
abbrev AI : Stmt := cf 71
def xT : Sp := λ vs H Q _ => ∃ (n : Nat) (O : Int), vs = [.int (n : Nat), .int O] /\ n <= 20 /\ ∀ l H', H l = none -> Ext H H' -> H' l = some (.lst ((gF n O).map λ x => V.int (x : Nat))) -> Q (.ref l) H'
abbrev Fj : List Str := ["_law_folk", "_law_ones_here"]
theorem DJ : af Fj ["_law_folk", "_law_ones_here"] (aa AI) := aQ
abbrev BT : Scope := cT [("_law_dealing", .local), ("_law_ones", .globalImplicit), ("_law_folk", .free), ("_law_ones_here", .free)]
theorem Du : ((["_law_dealing"] : List Str) ++ (["_law_folk", "_law_ones_here"] : List Str)).Nodup := aF
section
variable {f : Addr} {ò : Value} {A : Around} {outer : List Env} {s : Shared} {H : Hp} {E : XK}
theorem xU : aY (aU au P w K mg base Fj "_law_dealings" (aa AI) f ò A outer s H E).ť BT [("_law_ones_here", s.heap.objs.size + 2), ("_law_folk", s.heap.objs.size + 1)] ["_law_dealing"] ["_law_folk", "_law_ones_here"] [0, 1] :=
 bP (M := ["_law_ones_here", "_law_folk"]) (L := [(".0", .local), ("_law_dealing", .local), ("_law_ones", .globalImplicit), ("_law_folk", .cell), ("_law_ones_here", .cell)]) rfl rfl aF aF aF rfl rfl rfl aF aF rfl rfl rfl
end
theorem lK {X : Cx} {sc : Scope} {cl : List (Str × Addr)} {ts zs : List Str} {js : List Nat} {elt tg iter c : Expr} {wi : TI} {g : TG} {te : TE} {tt : TT} {pos : Pos} (hc : X.calm = true) (S : aY X sc cl ts zs js) (hi : Bx (PI X tg iter wi)) (hg : ∀ s H C fp, PG (av X sc cl (ts ++ zs) s H C fp) tg g) (ht : ∀ s H C fp, Bx (PT (av X sc cl (ts ++ zs) s H C fp) c tt)) (he : ∀ s H C fp, Bx (PE (av X sc cl (ts ++ zs) s H C fp) elt te))
  (hs : ∀ v, foldedSetIterable iter X.env v = pure v := by intro _; rfl) : Bx (PE X (.ListComp elt [⟨tg, iter, [c], 0⟩] sc pos) (db wi ts.length js g tt te)) := ⟨hI hc S hi.h hg (λ s H C fp => (ht s H C fp).h) (λ s H C fp => (he s H C fp).h) hs⟩
def Bj : TT := tB (aZ vz (cC tM [] E0 (ac (am 1) (ac (am 0) aH))) (am 2))
theorem B9 {f a1 : Addr} {fd d1 : FuncData} (F : ŀ K "_law_dealings" "_law_dealings" AI f fd) (A1 : Df P w K mg base au 1 "_law_ones" ["_law_folk", "_law_dealing"] tM a1 d1) (mr : mg "range" = none) : az P w K mg base au 2 f fd ["_law_folk", "_law_ones_here"] xT := by
 refine F.ok DJ (λ vs H Q E h => ?_) (λ ò A outer s H vs Q E hr h => ?_)
 ·obtain ⟨n, O, rfl, _⟩ := h;rfl
 obtain ⟨n, O, rfl, IG, q⟩ := h;refine cr (t := bY (db (dC (ac (aZ (rI xq λ i j => .int (i * 2 ^ j.toNat)) (tC (.int 1)) (am 0)) aH)) 1 [0, 1] (aP 0) Bj (am 0))) (aR (dF (lK (te := am 0) (tt := Bj) (g := aP 0) rfl xU ⟨bc rfl mr (ad (aj qt ay (pv 0)) ap)⟩ (λ s H C fp => by exact bf (i := 0) Du rfl (.inl rfl)) (λ s H C fp => ⟨by exact aM iQ (bH A1 hr ai (ad (pv 1) (ad (pv 0) ap))) (pv 2) (aA _)⟩) (λ s H C fp => ⟨by exact pv 0⟩)))) ⟨?_⟩
 obtain ⟨m, hm⟩ : ∃ m, m = 2 ^ n := ⟨_, rfl⟩;have Wx : m <= 1048576 := by rw [hm]; exact Ú (ń ag IG) ag
 have ee : (1 : Int) * 2 ^ ((n : Nat) : Int).toNat = ((m : Nat) : Int) := by
  rw [Int.one_mul, Ĕ, hm];simp
 refine ⟨_, rfl, _, _, rfl, rfl, ⟨ae, ae, ag⟩, _, rfl, ?_, ?_, λ D hD => ?_⟩
 ·show -(2 ^ 62) <= (1 : Int) * 2 ^ ((n : Nat) : Int).toNat;rw [ee];omega
 ·show (1 : Int) * 2 ^ ((n : Nat) : Int).toNat < 2 ^ 62;rw [ee];omega
 ·have et : ((1 : Int) * 2 ^ ((n : Nat) : Int).toNat).toNat = m := by rw [ee, Ĕ]
  refine dL (n := m) (λ i ys H' => Ext H H' /\ ys = ((List.range i).filter λ x => decide (((eR n x : Nat) : Int) = O)).map λ x => V.int (x : Nat)) (by rw [Þ]; omega) ⟨Ext.new hD, rfl⟩ (λ i ys H' hi p => by show i < _; rw [et]; exact hi) (λ ys H' p => by show _ <= _; rw [et]; exact Å _) ?_ ?_
  ·rintro i y ys H' H3 hi ⟨rfl, rfl⟩ ly ĕ ⟨x', rfl⟩ os Ņ N kk
   match os, Ņ with
   | [p0], _ =>
    refine ⟨⟨[_], rfl, rfl⟩, ?_⟩;refine ⟨_, rfl, _, rfl, n, i, ?_, IG, λ H4 x4 => ⟨_, rfl, rfl, _, rfl, λ e => ?_, λ e => ?_⟩⟩
    ·show [V.int (n : Nat), V.int (0 + (i : Int))] = _;rw [Ě]
    ·refine kk _ _ ⟨x'.trans x4, ?_⟩ ae (x4 _ _ ĕ);have ne : ¬ ((eR n i : Nat) : Int) = O := λ z => by rw [z, Ç rfl] at e; cases e
     rw [ý, û];simp [ne]
    ·have eq : ((eR n i : Nat) : Int) = O := by
      have := ø e;injection this
     refine ⟨_, rfl, x4 _ _ ĕ, kk _ _ ⟨aV _ (x'.trans x4) hD, ?_⟩ (by rw [Ì, Ę]; omega) bh⟩
     rw [ý, û, Ó];simp [eq]
  ·rintro ys H' ly ĕ ⟨x', rfl⟩;rw [hm] at ĕ;exact q D H' hD x' ĕ
end
def Cp (ns : List Int) (x : Nat) : Int := (wl (0 - ((eR ns.length x : Nat) : Int)) (((ns.length : Nat) : Int) - ((eR ns.length x : Nat) : Int)) ns x).sum
section
variable {P : Program} {w : World} {K : Frag} {mg : bE} {base : Heap}
def DS : Sp := λ vs H Q _ => ∃ (r : Addr) (x : Nat) (ns : List Int), vs = [.ref r, .int (x : Nat)] /\ H r = some (.lst (ns.map V.int)) /\ ns.length <= 20 /\ ∀ H', Ext H H' -> Q (.int (Cp ns x)) H'
end
end My
namespace My
open PySem PySem.W PySem.Spec PyProof.Rows L2
def vG (te : TE) : TE := λ σ H Q => te σ H λ x H1 => ∃ (d : Addr) (kvs : List (Key × V)), x = .ref d /\ Rd H1 d (.dK kvs) /\ ∀ p, H1 p = none -> Q (.ref p) (ao H1 p (Ay p d))
theorem vg {X : Cx} {o : Expr} {te : TE} {ż ũ : Pos} (ho : PE X o te) (G8 : attributeBase o "values" X.env (eval o X.env) = eval o X.env := by rfl) (G5 : (ż.endLine == ũ.line) = true := by rfl) : PE X (.Call (.Attribute o "values" ż) [] [] ũ) (vG te) := by
 intro pins s σ H Q I h;refine wpAny_Call_method0_late G8 G5 (ax (ho pins s σ H _ I h) λ v s1 ⟨x, H1, I1, r1, q1⟩ => ?_);obtain ⟨d, kvs, rfl, rd, q⟩ := q1;cases (show v = Value.ref d from r1);obtain ⟨t1, t2, _⟩ := pV I1 (.inl ⟨kvs, rd⟩);exact ⟨"dict", _, η, Jm, PySem.F.type_dict_values, t1, t2, ů rfl (PySem.evalArgs_none (pc pins s1 σ H1 (.ref d) [] (.ref d) [] Q I1 rfl .nil ⟨d, kvs, rfl, rfl, rd, q⟩))⟩
end My
namespace My
open PySem PySem.W L2
section
variable {prog : Program} {w : World} {A : Around} {E : bM} {s : Shared}
theorem dH {it t : Addr} {i : Nat} {items} {x : Value} {Q : bM} (hit : s.heap.IsTupleIter it t i) (ht : s.heap.IsTuple t items) (hx : items[i]? = some x)
  (hQ : ∀ h', h'.IsTupleIter it t (i + 1) -> Heap.SameBut it s.heap h' -> Q x { s with heap := h' }) : wpAny (model prog w) A (Builtin.SmallTypes.nextOf (.ref it)) Q E s := by
 obtain ⟨⟨o, ho, hc, hd⟩, ⟨ol, Ud, _, nl, QH⟩⟩ := And.intro (id hit) ht;unfold Builtin.SmallTypes.nextOf;refine À (ć (name := Str.ofString "__next__") hit.typeIs F.slot_tuple_iterator_next (ă F.slot_tuple_iterator_next hit.typeIs F.entry_tuple_iterator_next ?_ (F.args_tuple_iterator_next_1 _)));show wpAny _ _ (field (.ref it) 0 >>= _) _ _ s; refine À (ó ho hd (x := .ref t) rfl ?_);show wpAny _ _ (if (Value.ref t == Value.none) = true then _ else _) _ _ s; rw [É (show ¬ ((Value.ref t == Value.none) = true) from Ð)]
 show wpAny _ _ (field (.ref it) 1 >>= _) _ _ s; refine À (ó ho hd (x := .int i 0) rfl ?_);show wpAny _ _ (seqItems? (.ref t) >>= _) _ _ s; refine À (ķ Ud QH ?_);simp only [Int.toNat_natCast, hx];refine À (ū ho hd (by simp) (wpAny_pure ⟨x, rfl, wpAny_pure (hQ _ ⟨_, Heap.get?_update_self _ ho (Obj.isFreed_of_fields (Obj.data_mapFields hd _)), (Obj.cls_mapFields ..).trans hc, ?_⟩ (Heap.SameBut.update ..))⟩))
 rw [ţ hd]; simp [rawInt]
abbrev iN (h : Heap) (z TI TO : Addr) (f0 f1 : Value) : Prop := h.get? z = some { cls := .type "zip", dict := none, data := .fields #[f0, f1, .bool false, .ref TI, .ref TO], slots := #[] }
def EW (f0 : Value) : Prop := f0 = .none \/ ∃ a : Int, f0 = rawInt a
theorem u0 {a : Addr} {Q : Option Obj -> Shared -> Prop} (h : Q (s.heap.get? a) s) : wpAny (model prog w) A (loadIfAlive a) Q E s := λ _ _ _ => by
 unfold loadIfAlive;rw [Sem.wp_loadIfAlive];exact h
theorem om {z TI TO : Addr} {f0 : Value} {b : Bool} {Q : Bool -> Shared -> Prop} (hz : iN s.heap z TI TO f0 (.bool b)) (ow : EW f0) (h1 : Q true s)
  (h2 : ∀ h', iN h' z TI TO f0 (.bool true) -> Heap.SameBut z s.heap h' -> Q false { s with heap := h' }) : wpAny (model prog w) A (Builtin.SmallTypes.ownedTupleIsFree (.ref z)) Q E s := by
 unfold Builtin.SmallTypes.ownedTupleIsFree;refine À (ó hz rfl (x := f0) rfl ?_);rcases ow with rfl | ⟨a, rfl⟩
 ·exact Â h1
 ·show wpAny _ _ (loadIfAlive a.toNat >>= _) _ _ s;refine À (u0 ?_);cases s.heap.get? a.toNat with
  | none => exact Â h1
  | some o =>
   show wpAny _ _ (field (.ref z) 1 >>= _) _ _ s;refine À (ó hz rfl (x := .bool b) rfl ?_);cases b with
   | true =>
    refine Â ?_;have e := h2 s.heap hz ⟨rfl, λ _ _ => rfl⟩;exact e
   | false =>
    show wpAny _ _ (setField (.ref z) 1 (.bool true) >>= _) _ _ s;exact À (ô hz (by simp) λ h' JP Hx => wpAny_pure (h2 h' JP Hx))
end
end My
namespace My
open PySem PySem.W L2
open PyProof.Rows (Call_ boot_enumerate)
section
variable {X : Cx} {pins : List (Addr × Obj)} {σ : St} {H : Hp} {s : Shared} {h' : Heap}
theorem uT {t' : Nat} {ch : List Addr} (I : Inv X pins σ H s) (F : ∀ b ∈ ch, bK X pins H b) (k : ∀ b o, b ∉ ch -> s.heap.get? b = some o -> h'.get? b = some o) : Inv X pins σ H { s with heap := h', toks := t' } := by
 have IF : ∀ b u, H b = some u -> b ∉ ch := λ b u e z => by
  have := (F b z).1;rw [this] at e; cases e
 refine I.step (g' := s.gens) (d' := s.drawn) (ch := ch) (λ b hb => ?_) (λ b o _ _ hc e _ => k b o hc e) (λ b o _ _ hc e _ => ⟨o.slots, k b o hc e⟩) (λ _ _ _ _ n => n)
  (λ b o hc e => ⟨o, k b o hc e⟩) (λ _ _ e => e) (λ _ _ _ e => e) (λ b ps e => ⟨#[], by rw [e]; simp⟩) (λ q => q) (λ m hm => ?_) (λ b u e => ?_) I.bare
 ·obtain ⟨_, a, _, b', c, d⟩ := F b hb;exact ⟨b', a, c, d⟩
 ·obtain ⟨o, es, ep, ho, r⟩ := hm;exact ⟨o, es, ep, k _ o (λ z => (F _ z).2.1 rfl) ho, r⟩
 ·refine (I.Ē b u e).w_ (λ c v hc q => k c v ?_ q) (λ _ q => q) λ _ _ q => q;rcases hc with z | z
  ·rw [z]; exact IF _ _ e
  ·exact IF _ _ z
end
end My
namespace My
open PySem PySem.W L2
open PyProof.Rows (Call_)
section
variable {X : Cx} {pins : List (Addr × Obj)} {σ : St} {H : Hp} {s : Shared} {h' : Heap}
theorem sY {t' : Nat} {ch : List Addr} {xs : List V} (I : Inv X pins σ H s) (F : ∀ b ∈ ch, bK X pins H b) (k : ∀ b o, b ∉ ch -> s.heap.get? b = some o -> h'.get? b = some o)
  (o1 : Ĉ X.prog X.w (ao H s.heap.objs.size (.tup xs)) h' s.heap.objs.size (.tup xs)) :
  Inv X pins σ (ao H s.heap.objs.size (.tup xs)) { s with heap := h', toks := t' } := by
 have f1 : H s.heap.objs.size = none := I.Ē.fresh (Å _);have up : ∀ b u, H b = some u -> ao H s.heap.objs.size (.tup xs) b = some u := λ b u e => by
  rw [ah (λ z => by rw [z, f1] at e; cases e)]
  exact e
 have dn : ∀ b, b < s.heap.objs.size -> ao H s.heap.objs.size (.tup xs) b = H b := λ b l => by
  rw [ah (Ë l)]
 have IF : ∀ b u, H b = some u -> b ∉ ch := λ b u e z => by
  have := (F b z).1;rw [this] at e; cases e
 refine I.step (g' := s.gens) (d' := s.drawn) (ch := ch) (λ b hb => ?_) (λ b o _ _ hc e _ => k b o hc e) (λ b o _ _ hc e _ => ⟨o.slots, k b o hc e⟩) (λ b o _ e n => by rw [dn b (È e)]; exact n)
  (λ b o hc e => ⟨o, k b o hc e⟩) (λ b _ e => up _ _ e) (λ _ _ _ e => up _ _ e) (λ b ps e => ⟨#[], by rw [up _ _ e]; simp⟩) (λ q => ?_) (λ m hm => ?_) (λ b u e => ?_) I.bare
 ·obtain ⟨_, a, _, b', c, d⟩ := F b hb;exact ⟨b', a, c, d⟩
 ·rw [dn _ (ň (by decide : sysModules < mainGlobals) (I.mod.glob.keeps I.bk).lt)]
  exact q
 ·obtain ⟨o, es, ep, ho, r⟩ := hm;exact ⟨o, es, ep, k _ o (λ z => (F _ z).2.1 rfl) ho, r⟩
 ·by_cases z1 : b = s.heap.objs.size
  ·subst z1; rw [bh] at e; cases e; exact o1
  ·rw [ah z1] at e;refine (I.Ē b u e).w_ (λ c v hc q => k c v ?_ q) (λ c q => up _ _ q) λ c zs q => up _ _ q;rcases hc with z | z
   ·rw [z]; exact IF _ _ e
   ·exact IF _ _ z
end
end My
namespace My
open PySem PySem.W L2
def aG : List (Int × Int) -> Nat -> List (Int × Int)
 | [], _ => []
 | p :: L, x => if x % 2 = 1 then p :: aG L (x / 2) else aG L (x / 2)
theorem fq : ∀ (L : List (Int × Int)) (x : Nat), (aG L x).length = eR L.length x
 | [], _ => rfl
 | p :: L, x => by
  have ih := fq L (x / 2);show (if x % 2 = 1 then p :: aG L (x / 2) else aG L (x / 2)).length = x % 2 + eR L.length (x / 2)
  split
  ·rename_i h
   rw [Ñ, ih, h, J8]
  ·rw [ih];omega
theorem iH : ∀ {L : List (Int × Int)} {x : Nat} {p : Int × Int}, p ∈ aG L x -> p ∈ L
 | q :: L, x, p, h => by
  unfold aG at h;split at h
  ·rcases Ï.mp h with rfl | h
   ·exact Ù ..
   ·exact Î _ (iH h)
  ·exact Î _ (iH h)
theorem gq {L : List (Int × Int)} {x : Nat} (bt : bL L) : bL (aG L x) := λ p hp => bt p (iH hp)
theorem dJ (p : Int × Int) (L : List (Int × Int)) (x : Nat) : aG (p :: L) x = if x % 2 = 1 then p :: aG L (x / 2) else aG L (x / 2) := rfl
theorem jL (O n : Int) : ∀ {L : List (Int × Int)} (x : Nat), bL L -> qI (L.map (oH O n)) x = gL O n (L.count (0, 1) : Nat) (L.count (1, 1) : Nat) ((aG L x).count (1, 0) : Nat) ((aG L x).count (0, 1) : Nat) ((aG L x).count (1, 1) : Nat)
 | [], x, _ => by
  show (0 : Int) = (n - O) * (0 + 0) - O * (0 - 0 + 0 - 0);simp
 | p :: L, x, bt => by
  have ih := jL O n (L := L) (x / 2) λ q hq => bt q (Î _ hq);obtain ⟨h1, h2⟩ := bt p (Ù ..);obtain ⟨u, v⟩ := p;have h1 : u = 0 \/ u = 1 := h1;have h2 : v = 0 \/ v = 1 := h2;show (if x % 2 = 1 then (n - O) * u else 0 - O * v) + qI (L.map (oH O n)) (x / 2) = _
  rw [ih, dJ];unfold gL;generalize aG L (x / 2) = S;by_cases hx : x % 2 = 1
  ·rw [Ô hx, Ô hx];rcases h1 with rfl | rfl <;> rcases h2 with rfl | rfl <;> simp [List.count_cons] <;> clear ih bt <;> grind
  ·rw [É hx, É hx];rcases h1 with rfl | rfl <;> rcases h2 with rfl | rfl <;> simp [List.count_cons] <;> clear ih bt <;> grind
def fb (n x : Nat) : List Nat := (List.range n).filter λ i => decide (x / 2 ^ i % 2 = 1)
theorem pR (n x : Nat) : fb (n + 1) x = (if x % 2 = 1 then [0] else []) ++ (fb n (x / 2)).map (· + 1) := by
 unfold fb;rw [ĳ, î, List.filter_map];have e : (λ i => decide (x / 2 ^ i % 2 = 1)) ∘ Nat.succ = λ i => decide (x / 2 / 2 ^ i % 2 = 1) := by
  funext i
  show decide (x / 2 ^ (i + 1) % 2 = 1) = _;rw [eY]
 rw [e, GX, HJ];by_cases h : x % 2 = 1
 ·rw [Ô (Ç h), Ô h];rfl
 ·rw [É (by simpa using h), if_neg h]
  rfl
theorem kT : ∀ (L : List (Int × Int)) (x : Nat), (fb L.length x).map (λ i => L.getD i (0, 0)) = aG L x
 | [], x => rfl
 | p :: L, x => by
  rw [Ñ, pR, Ó, ŉ];have e : ((λ i => (p :: L).getD i (0, 0)) ∘ λ i => i + 1) = λ i => L.getD i (0, 0) := rfl;rw [e, kT L (x / 2), dJ];by_cases h : x % 2 = 1
  ·rw [Ô h, Ô h];rfl
  ·rw [É h, É h];rfl
theorem uL {n x i : Nat} (h : i ∈ fb n x) : i < n := Ģ.mp (Ď.mp h).1
abbrev wL (L : List (Int × Int)) (O : Int) : List (Int × Int) := L.map (oH O ((L.length : Nat) : Int))
def cO (L : List (Int × Int)) (O : Int) (g : Int -> Nat) : Nat := EE (fg O g) (wL L O) 0 0
def jn (s v : Int) : Nat := if s <= v then 1 else 0
def jz (s v : Int) : Nat := if v <= s then 1 else 0
theorem xQ {L : List (Int × Int)} {O : Int} (h0 : 0 <= O) (h1 : O <= (L.length : Nat)) : 1 <= cO L O (λ _ => 1) /\ cO L O (λ _ => 1) <= 2 ^ L.length := by
 unfold cO;constructor
 ·exact j8 (f := fg O λ _ => 1) (o := O.toNat) (λ v => by unfold fg; rw [Ô ae]; exact Nat.one_pos) (wL L O) 0 0 (Ċ _) (by rw [Æ]; omega)
 ·have := oG (f := fg O λ _ => 1) (λ u v => by unfold fg; split; exact Å _; exact Ċ _) (wL L O) 0 0
  rw [Æ] at this;exact this
def Dm (id : Nat) (js : List Nat) (f : Int -> Int -> Bool) (b c : Nat) : TE := db (ww (am id)) 1 js (aP 0) (tB (aZ (iS λ i j => .bl (f i j)) (am 0) (am b))) (gH (am c) (am 0))
def iE (f : Int -> Bool) (ps : List (Int × Nat)) : List Int := (ps.filter λ q => f q.1).map λ q => ((q.2 : Nat) : Int)
theorem f7 (f : Int -> Bool) : ∀ ps : List (Int × Nat), (iE f ps).sum = ((dS (λ v => if f v = true then 1 else 0) ps : Nat) : Int)
 | [] => rfl
 | p :: r => by
  have ih := f7 f r;unfold iE at ih ⊢;show _ = ((p.2 * (if f p.1 = true then 1 else 0) + dS _ r : Nat) : Int)
  rw [î];by_cases h : f p.1 = true
  ·rw [Ô h, Ô h, Í, Ī, ih];omega
  ·rw [É h, É h, ih];omega
theorem ir (f : Int -> Bool) (ps : List (Int × Nat)) (q : Int × Nat) : iE f (ps ++ [q]) = iE f ps ++ (if f q.1 = true then [((q.2 : Nat) : Int)] else []) := by
 unfold iE;rw [û, Ó]
 congr 1
 by_cases h : f q.1 = true
 ·rw [Ô h];simp [h]
 ·rw [É h];simp [h]
theorem vq {id : Nat} {js : List Nat} {f : Int -> Int -> Bool} {b c : Nat} {σ cap : St} {H : Hp} {Q : VK} {d : Addr} {s : Int} {ps : List (Int × Nat)} (hi : σ[id]? = some (some (.ref d))) (hc : br js σ = cap) (hb : ∀ v, (some v :: cap)[b]? = some (some (.int s))) (M_ : ∀ v, (some v :: cap)[c]? = some (some (.ref d))) (rd : Rd H d (.dK (eT Key.inl ps))) (ok : HS ps) (sm : ps.length < 16000000)
  (q : ∀ D H', H D = none -> (∀ b o, H b = some o -> b ≠ d -> H' b = some o) -> Rd H' d (.dK (eT Key.inl ps)) -> H' D = some (.lst ((iE (λ v => f v s) ps).map V.int)) -> Q (.ref D) H') : Dm id js f b c σ H Q := by
 refine ⟨_, hi, d, .dK (eT Key.inl ps), rfl, True.intro, rd, λ ob H2 fz D hD => ?_⟩;rw [hc];have ln : dU (.dK (eT Key.inl ps)) = ps.length := nJ;have Tc : D ≠ d := λ z => by rw [z, fz.1] at hD; cases hD
 refine dL (n := ps.length) (λ i ys H' => Ext H2 H' /\ ys = (iE (λ v => f v s) (ps.take i)).map V.int) (by rw [Þ]; omega) ⟨Ext.new hD, rfl⟩ (λ i ys H' hi p => ⟨p.1 _ _ fz.1, by rw [ln]; exact hi⟩) (λ ys H' p => ⟨p.1 _ _ fz.1, by rw [ln]; exact Å _⟩) ?_ ?_
 ·rintro i x ys H' H3 hi ⟨rfl, v, pr⟩ ly ĕ ⟨x', rfl⟩ os Ņ N k;rcases pr with ⟨kvs, kk, e, hk, rfl⟩ | ⟨_, _, _, e, _⟩
  ·cases e;obtain ⟨z, ez, rfl, rfl⟩ := tH hk
   match os, Ņ with
   | [o0], _ =>
    have g1 : E_ H3 d (.int z.1) (some (.int (z.2 : Nat))) := by
     refine .inl ⟨eT Key.inl ps, .inl z.1, .inr ⟨ob, x' _ _ fz.1⟩, rfl, ?_⟩;rcases jR jZ z.1 (ps := ps) with ⟨_, _, h3⟩ | ⟨h1, _⟩
     ·exact absurd (õ.mpr ⟨z, á ez, rfl⟩) h3
     ·rw [h1, jY ok.nd (á ez)]
    refine ⟨⟨[some (.int z.1)], rfl, rfl⟩, _, rfl, _, hb _, _, _, rfl, rfl, _, rfl, λ e => ?_, λ e => ?_⟩
    ·refine k _ _ ⟨x', ?_⟩ ae ĕ;rw [aw ez, ir, É (by rw [e]; decide), ã]
    ·refine ⟨_, M_ _, _, rfl, d, _, rfl, g1, ĕ, k _ _ ⟨aV _ x' hD, ?_⟩ (by rw [Ì, Ę]; omega) bh⟩
     rw [aw ez, ir, Ô e, Ó];rfl
  ·cases e
 ·rintro ys H' ly ĕ ⟨x', rfl⟩;rw [ö] at ĕ;refine q D H' (by rw [<- fz.2 D Tc]; exact hD) (λ b o e n => x' _ _ (by rw [fz.2 b n]; exact e)) (.inr ⟨ob, x' _ _ fz.1⟩) ĕ
section
variable {P : Program} {w : World} {K : Frag} {mg : bE} {base : Heap}
abbrev Cq : Stmt := cf 22
def kJ : Sp := λ vs H Q _ => ∃ x i : Nat, vs = [.int (x : Nat), .int (i : Nat)] /\ Q (.int ((x / 2 ^ i % 2 : Nat) : Int)) H
theorem C6 : af ["dealing", "at"] ["dealing", "at"] (aa Cq) := aQ
theorem zu {f : Addr} {fd : FuncData} (F : ŀ K "hand_of" "hand_of" Cq f fd) : az P w K mg base au 1 f fd ["dealing", "at"] kJ := by
 refine F.ok C6 (λ vs H Q E h => ?_) (λ ò A outer s H vs Q E hr h => ?_)
 ·obtain ⟨x, i, rfl, _⟩ := h;rfl
 obtain ⟨x, i, rfl, q⟩ := h;refine ⟨_, bz (cp (aj mF (aj mH (pv 0) (pv 1)) ay)), ?_⟩;exact m6 (i := 0) (j := 1) rfl rfl q
abbrev Cy : Stmt := cf 21
def pj (CD : Addr) : Sp := λ vs H Q E => ∃ v d, ∃ n : Nat, vs = [v, .int (n : Nat)] /\ Ļ H v d /\ n <= 20 /\ (og 0 (((2 ^ n : Nat) : Int) - 1) d = true -> Q .ĉ H) /\ (og 0 (((2 ^ n : Nat) : Int) - 1) d = false -> vf CD "found" v H E)
theorem DM : af ["thing", "folk"] ["thing", "folk"] (aa Cy) := aQ
theorem two_pow_cast (n : Nat) : (1 : Int) * 2 ^ ((n : Nat) : Int).toNat = ((2 ^ n : Nat) : Int) := by
 rw [Int.one_mul, Ĕ];simp
theorem zY {f a1 D CD fC : Addr} {fd d1 O5 : FuncData} (F : ŀ K "need_hands" "need_hands" Cy f fd) (B : Ÿ K D) (T : ub K mg D "NoDealing" "found" CD fC O5) (A1 : Df P w K mg base au 2 "is_whole" ["thing", "low", "high"] (b7 K) a1 d1) : az P w K mg base (kc P w) 3 f fd ["thing", "folk"] (pj CD) := by
 refine Bf F DM λ ò A outer s H vs Q E hr h => ?_;obtain ⟨v, d, n, rfl, rd, IG, q1, q2⟩ := h;refine ⟨_, bz (bA (bF (aX (bH A1 hr ai (ad (pv 0) (ad ay (ad (aj bp (aj qt ay (pv 1)) ay) ap)))))) (bz (lh B T.cls (T.ok P w base) hr T.bi rfl T.Qs (pv 0))) gN), ?_⟩;refine ⟨_, rfl, _, rfl, _, _, rfl, rfl, ⟨ae, ae, ag⟩, _, _, rfl, rfl, v, 0, ((2 ^ n : Nat) : Int) - 1, ?_, rd.th, _, rfl, ?_⟩
 ·show [v, V.int 0, V.int ((1 : Int) * 2 ^ ((n : Nat) : Int).toNat - 1)] ++ [] = _;rw [two_pow_cast];rfl
 rw [rd.G4];cases e : og 0 (((2 ^ n : Nat) : Int) - 1) d with
 | true => exact c6 (q1 e)
 | false => exact fO ⟨_, rfl, λ e' dx h1 h2 nd => vF nd (q2 e e' dx h1 h2 nd)⟩
abbrev B5 : Stmt := cf 23
def wZ : Sp := λ vs H Q _ => ∃ x n : Nat, vs = [.int (x : Nat), .int (n : Nat)] /\ n <= 20 /\ ∀ l H', H l = none -> Ext H H' -> H' l = some (.lst ((fb n x).map λ i => V.int (i : Nat))) -> Q (.ref l) H'
abbrev Fq : List Str := ["dealing", "folk"]
theorem C2 : af Fq ["dealing", "folk"] (aa B5) := aQ
abbrev AR : Scope := cT [("at", .local), ("hand_of", .globalImplicit), ("dealing", .free)]
theorem Ew : ((["at"] : List Str) ++ (["dealing"] : List Str)).Nodup := aF
section
variable {f : Addr} {ò : Value} {A : Around} {outer : List Env} {s : Shared} {H : Hp} {E : XK}
theorem yN : aY (aU au P w K mg base Fq "ones_of" (aa B5) f ò A outer s H E).ť AR [("dealing", s.heap.objs.size + 1)] ["at"] ["dealing"] [0] :=
 bP (M := ["dealing"]) (L := [(".0", .local), ("at", .local), ("hand_of", .globalImplicit), ("dealing", .cell)]) rfl rfl aF aF aF rfl rfl rfl aF aF rfl rfl rfl
end
def BW : TT := tB (aZ vz (cC kJ [] E0 (ac (am 1) (ac (am 0) aH))) (tC (.int 1)))
theorem Ci {f a1 : Addr} {fd d1 : FuncData} (F : ŀ K "ones_of" "ones_of" B5 f fd) (A1 : Df P w K mg base au 1 "hand_of" ["dealing", "at"] kJ a1 d1) (mr : mg "range" = none) : az P w K mg base au 2 f fd ["dealing", "folk"] wZ := by
 refine F.ok C2 (λ vs H Q E h => ?_) (λ ò A outer s H vs Q E hr h => ?_)
 ·obtain ⟨x, n, rfl, _⟩ := h;rfl
 obtain ⟨x, n, rfl, IG, q⟩ := h;refine cr (t := bY (db (dC (ac (am 1) aH)) 1 [0] (aP 0) BW (am 0))) (aR (dF (lK (te := am 0) (tt := BW) (g := aP 0) rfl yN ⟨bc rfl mr (ad (pv 1) ap)⟩ (λ s H C fp => by exact bf (i := 0) Ew rfl (.inl rfl)) (λ s H C fp => ⟨by exact aM iQ (bH A1 hr ai (ad (pv 1) (ad (pv 0) ap))) ay (aA _)⟩) (λ s H C fp => ⟨by exact pv 0⟩)))) ⟨?_⟩
 refine ⟨_, rfl, _, rfl, ae, ae, λ D hD => ?_⟩;refine dL (n := n) (λ i ys H' => Ext H H' /\ ys = ((List.range i).filter λ i => decide (x / 2 ^ i % 2 = 1)).map λ i => V.int (i : Nat)) (by rw [Þ]; omega) ⟨Ext.new hD, rfl⟩ (λ i ys H' hi p => by show i < _; rw [Ĕ]; exact hi) (λ ys H' p => by show _ <= _; rw [Ĕ]; exact Å _) ?_ ?_
 ·rintro i y ys H' H3 hi ⟨rfl, rfl⟩ ly ĕ ⟨x', rfl⟩ os Ņ N kk
  match os, Ņ with
  | [p0], _ =>
   refine ⟨⟨[_], rfl, rfl⟩, _, rfl, _, rfl, x, i, ?_, rfl, _, rfl, λ e => ?_, λ e => ?_⟩
   ·show [V.int (x : Nat), V.int (0 + (i : Int))] = _;rw [Ě]
   ·refine kk _ _ ⟨x', ?_⟩ ae ĕ;have ne : ¬ x / 2 ^ i % 2 = 1 := λ z => by rw [z] at e; cases e
    rw [ý, û];simp [ne]
   ·have eq : x / 2 ^ i % 2 = 1 := by
     have := ø e;injection this with this
     omega
    refine ⟨_, rfl, ĕ, kk _ _ ⟨aV _ x' hD, ?_⟩ (by rw [Ì, Ę]; omega) bh⟩
    rw [ý, û, Ó];simp [eq]
 ·rintro ys H' ly ĕ ⟨x', rfl⟩;exact q D H' hD x' ĕ
end
def ud (H : Hp) (r : Addr) (h g T : Nat) : Prop := ∃ v1 v2, H r = some (.tup [v1, v2]) /\ HC H v1 (bw h T) (aI h T) /\ HC H v2 (bw g T) (aI g T)
theorem sE (s : Int) : (λ v => if decide (v ≥ s) = true then 1 else 0) = jn s := by
 funext v
 unfold jn;by_cases h : s <= v
 ·rw [Ô h, Ô (Ç h)]
 ·rw [É h, É (by simpa using h)]
theorem rK (s : Int) : (λ v => if decide (v <= s) = true then 1 else 0) = jz s := by
 funext v
 unfold jz;by_cases h : v <= s
 ·rw [Ô h, Ô (Ç h)]
 ·rw [É h, É (by simpa using h)]
theorem jJ {g h : Int -> Nat} (e : ∀ v, g v <= h v) : ∀ ps : List (Int × Nat), dS g ps <= dS h ps
 | [] => Å _
 | p :: r => Nat.add_le_add (Nat.mul_le_mul_left _ (e p.1)) (jJ e r)
section
variable {P : Program} {w : World} {K : Frag} {mg : bE} {base : Heap}
abbrev uk : Stmt := cf 50
def qw (K : Frag) : Sp := λ vs H Q _ => ∃ (O s : Int) (p : Addr) (a b c d : Nat), vs = [.int O, .ref p, .int s] /\ ą K H p [.int (a : Nat), .int (b : Nat), .int (c : Nat), .int (d : Nat)] /\ a + b + c + d <= 20 /\ 0 <= O /\ O <= (a + b + c + d : Nat) /\
 ∀ r H' ps, H r = none -> Ext H H' -> mX O a b c d ps -> ud H' r (dS (jn s) ps) (dS (jz s) ps) (dS (λ _ => 1) ps) -> Q (.ref r) H'
abbrev DG : List Str := ["ones", "counts", "seen", "values", "whole", "high", "low"]
theorem LV : af DG ["ones", "counts", "seen"] (aa uk) := aQ
abbrev zi : Scope := cT [("value", .local), ("seen", .free), ("values", .free)]
theorem AS : ((["value"] : List Str) ++ (["seen", "values"] : List Str)).Nodup := aF
abbrev E4 : TE := Dm 3 [2, 3] (λ i j => decide (i ≥ j)) 1 2
abbrev EG : TE := Dm 3 [2, 3] (λ i j => decide (i <= j)) 1 2
def wH (i j : Nat) : TE := cC pH [] E0 (ac (am i) (ac (am j) aH))
def FC (K : Frag) : TS := bB (aT (cC (ur K) [] E0 (ac (am 0) (ac (am 1) aH))) (aP 3)) (bB (aT (gI vR (ac (vG (am 3)) aH)) (aP 4)) (bB (aT (gI (jh K) (ac E4 aH)) (aP 5)) (bB (aT (gI (jh K) (ac EG aH)) (aP 6)) (bY (dq (ac (wH 5 4) (ac (wH 6 4) aH)))))))
section
variable {f a1 a2 : Addr} {d1 d2 : FuncData} {ò : Value} {A : Around} {outer : List Env} {s : Shared} {H : Hp} {E : XK}
theorem sD : aY (aU au P w K mg base DG "both_shares" (aa uk) f ò A outer s H E).ť zi [("values", s.heap.objs.size + 2), ("seen", s.heap.objs.size + 1)] ["value"] ["seen", "values"] [2, 3] :=
 bP (M := ["values", "seen"]) (L := [(".0", .local), ("value", .local), ("seen", .cell), ("values", .cell)]) rfl rfl aF aF aF rfl rfl rfl aF aF rfl rfl rfl
theorem xc (A1 : Df P w K mg base au 4 "value_ways" ["ones", "counts"] (ur K) a1 d1) (A2 : Df P w K mg base au 4 "share_of" ["top", "bottom"] pH a2 d2) (ms : mg "sum" = none) (hr : ċ 4 (A.deeper (PyProof.Rows.envOfC "both_shares" (aa uk) s.heap.objs.size f ò))) :
  Bx (f_ (aU au P w K mg base DG "both_shares" (aa uk) f ò A outer s H E).ť (aK uk) (FC K)) := by
 have nd := LV.nd;have hu : (A.deeper (PyProof.Rows.envOfC "both_shares" (aa uk) s.heap.objs.size f ò)).units + 1 < cLine := by have := hr.un; omega
 exact cH ⟨cD (i := 3) nd rfl (Or.inr rfl) (bH A1 hr ai (ad (pv 0) (ad (pv 1) ap)))⟩
  (cH ⟨cD (i := 4) nd rfl (Or.inl rfl) (ak (pA rfl) rfl ms ė (ad (vg (pv 3)) ap))⟩
  (cH ⟨cD (i := 5) nd rfl (Or.inl rfl) (ak (fX rfl) rfl ms ė (ad (hI (tt := tB (aZ (iS λ i j => .bl (decide (i ≥ j))) (am 0) (am 1))) (te := gH (am 2) (am 0)) (g := aP 0) rfl sD (jH (pv 3)) (λ s H C fp => by exact bf (i := 0) AS rfl (.inl rfl)) (λ s H C fp => by exact aM q9 (pv 0) (pv 1) (aA _)) (λ s H C fp => by exact fE hu (pv 2) (pv 0))) ap))⟩
  (cH ⟨cD (i := 6) nd rfl (Or.inl rfl) (ak (fX rfl) rfl ms ė (ad (hI (tt := tB (aZ (iS λ i j => .bl (decide (i <= j))) (am 0) (am 1))) (te := gH (am 2) (am 0)) (g := aP 0) rfl sD (jH (pv 3)) (λ s H C fp => by exact bf (i := 0) AS rfl (.inl rfl)) (λ s H C fp => by exact aM kF (pv 0) (pv 1) (aA _)) (λ s H C fp => by exact fE hu (pv 2) (pv 0))) ap))⟩
  (aR ⟨cp (aO (ad (bH A2 hr ai (ad (pv 5) (ad (pv 4) ap))) (ad (bH A2 hr ai (ad (pv 6) (ad (pv 4) ap))) ap)))⟩))))
end
theorem rf {i j : Nat} {σ : St} {H : Hp} {Q : VK} {x y : Nat} (hi : σ[i]? = some (some (.int (x : Nat)))) (hj : σ[j]? = some (some (.int (y : Nat)))) (y1 : 1 <= y) (xy : x <= y) (sz : Sz y) (q : ∀ v H', Ext H H' -> HC H' v (bw x y) (aI x y) -> Q v H') : wH i j σ H Q :=
 ⟨_, hi, _, hj, x, y, rfl, y1, xy, sz, λ p hp => q _ _ (Ext.new hp) ⟨p, rfl, bh⟩⟩
theorem nn {te : TE} {σ : St} {H : Hp} {i : Nat} {u : TS} {D : bQ} (h : te σ H λ x H1 => jh K [x] H1 λ v H2 => u D (σ.set i (some v)) H2) : bB (aT (gI (jh K) (ac te aH)) (aP i)) u D σ H := h
theorem zP {f a1 a2 : Addr} {fd d1 d2 : FuncData} (F : ŀ K "both_shares" "both_shares" uk f fd) (A1 : Df P w K mg base au 4 "value_ways" ["ones", "counts"] (ur K) a1 d1) (A2 : Df P w K mg base au 4 "share_of" ["top", "bottom"] pH a2 d2) (ms : mg "sum" = none) : az P w K mg base au 5 f fd ["ones", "counts", "seen"] (qw K) := by
 refine F.ok LV (λ vs H Q E h => ?_) (λ ò A outer s H vs Q E hr h => ?_)
 ·obtain ⟨O, s, p, a, b, c, d, rfl, _⟩ := h;rfl
 obtain ⟨O, s', p, a, b, c, d, rfl, hp, IG, o1, o2, q⟩ := h;refine cr (xc A1 A2 ms hr) ⟨?_⟩;refine ⟨_, rfl, _, rfl, O, p, a, b, c, d, rfl, hp, ae, ae, ae, ae, λ r H1 ps q_ x1 Η ws => ?_⟩;have em : ((eT Key.inl ps).map (·.2)) = (ps.map λ q => ((q.2 : Nat) : Int)).map V.int := by
  unfold eT;rw [ŉ, ŉ];rfl
 refine ⟨_, rfl, r, _, rfl, .inl Η, λ vp TM => ?_⟩;have x2 := Ext.new (o := Ay vp r) TM;refine ⟨vp, r, _, ps.map λ q => ((q.2 : Nat) : Int), rfl, bh, .inl (x2 _ _ Η), em, ?_⟩;rw [qQ];have sa := ny (O := O) (a := a) (b := b) (c := c) (d := d) o1 o2;rw [<- ws.2 λ _ => 1] at sa;have Ww := qb ws IG;have JR : dS (jn s') ps <= dS (λ _ => 1) ps := jJ (λ v => by unfold jn; split <;> omega) ps
 have Ld : dS (jz s') ps <= dS (λ _ => 1) ps := jJ (λ v => by unfold jz; split <;> omega) ps
 have sz : Sz (dS (λ _ => 1) ps) := Ž (Ú sa.2 (ń ag IG)) (Ŭ ag ag);refine nn (vq (s := s') (cap := [some (.int s'), some (.ref r)]) rfl rfl (λ _ => rfl) (λ _ => rfl) (.inl (x2 _ _ Η)) ws.1 ae λ D1 H2 QT k2 SQ h2 => ⟨D1, _, rfl, ñ.of h2, ?_⟩);rw [f7, sE];refine nn (vq (s := s') (cap := [some (.int s'), some (.ref r)]) rfl rfl (λ _ => rfl) (λ _ => rfl) SQ ws.1 ae λ D2 H3 KP k3 Wu h3 => ⟨D2, _, rfl, ñ.of h3, ?_⟩);rw [f7, rK];have xx : Ext H H3 := λ b' o e => by
  have nb : b' ≠ r := λ z => by rw [z, q_] at e; cases e
  exact k3 _ _ (k2 _ _ (x2 _ _ (x1 _ _ e)) nb) nb
 refine rf (i := 5) (j := 4) rfl rfl sa.1 JR sz λ v1 H4 x4 s1 => rf (i := 6) (j := 4) rfl rfl sa.1 Ld sz λ v2 H5 x5 s2 => ⟨fk, λ t ht => ?_⟩;have x6 := Ext.new (o := .tup [v1, v2]) ht;have X6 := xx.trans (x4.trans x5);have TZ : H t = none := by
  cases e : H t with
  | none => rfl
  | some o => rw [X6 _ _ e] at ht; cases ht
 exact q t _ ps TZ (X6.trans x6) ws ⟨v1, v2, bh, (s1.kp x5.Ū).kp x6.Ū, s2.kp x6.Ū⟩
end
theorem da {L : List (Int × Int)} (bt : bL L) : L.length = L.count (1, 0) + L.count (0, 1) + L.count (1, 1) + L.count (0, 0) := by
 have := (fP bt).length_eq;rw [jU] at this;exact this
theorem lG (L : List (Int × Int)) : u9 (L.map pD) = kM L := by
 unfold u9 kM;rw [cw, cw, cw, cw]
theorem vC {L : List (Int × Int)} (bt : bL L) (l1 : 1 <= L.length) (ś : L.length <= 20) : sM (.list (L.map pD)) = true := by
 show (decide (1 <= (L.map pD).length) && decide ((L.map pD).length <= 20) && (L.map pD).all cb) = true;rw [dO bt, Æ, Ç l1, Ç ś];rfl
theorem rH {d : PyData} (h : sM d = true) : ∃ L, d = .list (L.map pD) /\ bL L /\ 1 <= L.length /\ L.length <= 20 := by
 obtain ⟨ds, rfl, l1, ś, al⟩ := ux h;have : ∀ ds : List PyData, ds.all cb = true -> ∃ L, ds = L.map pD /\ bL L := by
  intro ds
  induction ds with
  | nil => exact λ _ => ⟨[], rfl, λ _ h => nomatch h⟩
  | cons d ds ih =>
   intro h;rw [Ĺ, Ā] at h;obtain ⟨L, rfl, bt⟩ := ih h.2;obtain ⟨x, y, rfl, hx, hy⟩ := kZ h.1;refine ⟨(x, y) :: L, rfl, λ p hp => ?_⟩;rcases Ï.mp hp with rfl | hp
   ·show (x = 0 \/ x = 1) /\ (y = 0 \/ y = 1);omega
   ·exact bt p hp
 obtain ⟨L, rfl, bt⟩ := this ds al;rw [Æ] at l1 ś;exact ⟨L, rfl, bt, l1, ś⟩
theorem qD : ∀ {L M : List (Int × Int)}, L.map pD = M.map pD -> L = M
 | [], [], _ => rfl
 | [], _ :: _, h => by cases h
 | _ :: _, [], h => by cases h
 | p :: L, q :: M, h => by
  rw [Í, Í] at h;injection h with h1 h2
  rw [qD h2];obtain ⟨a, b⟩ := p;obtain ⟨c, d⟩ := q;unfold pD at h1;injection h1 with h1
  injection h1 with h1 h3
  injection h1 with h1
  injection h3 with h3 _
  injection h3 with h3
  have h1 : a = c := h1;have h3 : b = d := h3;rw [h1, h3]
theorem oE {H : Hp} : ∀ {xs : List V} {L : List (Int × Int)}, Ć H xs (L.map pD) -> Paired (HD H) xs L
 | _, [], .nil => .nil
 | _, p :: L, .cons r t => by
  refine .cons ?_ (oE t);obtain ⟨a, xs, rfl, ha, rs⟩ := jP r;cases rs with
  | cons r1 rs =>
   cases rs with
   | cons r2 rs =>
    cases rs;cases r1;cases r2;exact ⟨a, rfl, ha⟩
theorem BF {H : Hp} {v : V} {L : List (Int × Int)} (h : Ļ H v (.list (L.map pD))) : ∃ a, v = .ref a /\ Ŗ H a L := by
 obtain ⟨a, xs, rfl, ha, rs⟩ := oj h;exact ⟨a, rfl, xs, ha, oE rs⟩
def wX (L : List (Int × Int)) (x : Nat) : Int := qI (wL L ((eR L.length x : Nat) : Int)) x
abbrev oX (L : List (Int × Int)) (x : Nat) : Int := ((eR L.length x : Nat) : Int)
def Db (H : Hp) (r : Addr) (L : List (Int × Int)) (x : Nat) : Prop := ud H r (cO L (oX L x) (jn (wX L x))) (cO L (oX L x) (jz (wX L x))) (cO L (oX L x) λ _ => 1)
section
variable {P : Program} {w : World} {K : Frag} {mg : bE} {base : Heap} {CL CD : Addr}
abbrev B7 : Stmt := cf 51
def rq (CL CD : Addr) : Sp := λ vs H Q E => ∃ (v y : V) (d dy : PyData), vs = [v, y] /\ Ļ H v d /\ Ļ H y dy /\ (∀ ds, d = .list ds -> ds.length < 10000) /\ (sM d = false -> ∀ H', Ext H H' -> vf CL "found" v H' E) /\
 ∀ L, d = .list (L.map pD) -> sM d = true -> (og 0 (((2 ^ L.length : Nat) : Int) - 1) dy = false -> ∀ H', Ext H H' -> vf CD "found" y H' E) /\ ∀ x : Nat, dy = .int (x : Nat) -> x < 2 ^ L.length -> ∀ r H', H r = none -> Ext H H' -> Db H' r L x -> Q (.ref r) H'
abbrev EU : List Str := ["listing", "dealing", "counts", "dealt"]
theorem LL : af EU ["listing", "dealing"] (aa B7) := aQ
abbrev zR : Scope := cT [("at", .local), ("listing", .free)]
theorem Dg : ((["at"] : List Str) ++ (["listing"] : List Str)).Nodup := aF
def ul (K : Frag) : TE := dX (cX K (cC wZ [] E0 (ac (am 1) (ac (gI (jT K) (ac (am 0) aH)) aH)))) 1 [0] (aP 0) (aZ (kb K) (am 1) (am 0))
def FN (K : Frag) (CL CD : Addr) (E : XK) : TS := bB (eB (cC (tm CL) [] E (ac (am 0) aH))) (bB (eB (cC (pj CD) [] E (ac (am 1) (ac (gI (jT K) (ac (am 0) aH)) aH)))) (bB (aT (cC qh [] E0 (ac (am 0) aH)) (aP 2)) (bB (aT (cC qh [] E0 (ac (ul K) aH)) (aP 3))
 (bY (cC (qw K) [] E0 (ac (gI (vL K) (ac (am 3) aH)) (ac (am 2) (ac (cC (uO K) [] E0 (ac (am 2) (ac (am 3) aH))) aH))))))))
variable {f a1 a2 a3 a4 a5 a6 : Addr} {fd d1 d2 d3 d4 d5 d6 : FuncData}
theorem xY {ò : Value} {A : Around} {outer : List Env} {s : Shared} {H : Hp} {E : XK} : aY (oR P w K mg base EU "listing_shares" (aa B7) f ò A outer s H E) zR [("listing", s.heap.objs.size + 1)] ["at"] ["listing"] [0] :=
 bP (M := ["listing"]) (L := [(".0", .local), ("at", .local), ("listing", .cell)]) rfl rfl aF aF aF rfl rfl rfl aF aF rfl rfl rfl
theorem xr {H : Hp} {l : Addr} {L : List (Int × Int)} {x : Nat} {Q : VK} {o2 o3 : Option V} (ls : Ŗ H l L) (ś : L.length <= 20) (q : ∀ D H', H D = none -> Ext H H' -> Ŗ H' D (aG L x) -> Q (.ref D) H') : ul K [some (.ref l), some (.int (x : Nat)), o2, o3] H Q := by
 obtain ⟨xs, hl, pr⟩ := id ls;have lx : xs.length = L.length := Ö pr;unfold ul dX cX;refine ⟨_, rfl, _, rfl, l, xs, rfl, .inl (ñ.of hl), x, xs.length, rfl, ae, λ i H1 hi x1 h1 => ?_⟩;rw [lx] at h1;refine ⟨i, rfl, ⟨_, ñ.of h1⟩, λ D hD => ?_⟩;have Jz : H D = none := by
  cases e : H D with
  | none => rfl
  | some o => rw [x1 _ _ e] at hD; cases hD
 have li : (fb L.length x).length <= 20 := by
  unfold fb;exact Ú (ļ _ _) (by rw [ě]; exact ś)
 refine dw (n := (fb L.length x).length) (λ i ys H' => Ext H1 H' /\ Paired (HD H') ys (((fb L.length x).take i).map λ j => L.getD j (0, 0))) (by rw [Þ]; omega) ⟨Ext.new hD, .nil⟩ (λ i ys H' hi p => ⟨_, _, ñ.of (p.1 _ _ h1), by rw [Õ, Ã hi]; rfl⟩) (λ ys H' p => ⟨_, ñ.of (p.1 _ _ h1), by rw [Æ]; exact Å _⟩) ?_ ?_
 ·rintro i y ys H' H3 hi ⟨rfl, hy⟩ ly ĕ ⟨x', pv⟩ os Ņ R kk;have ey := hy _ (ñ.of (x' _ _ h1));rw [Õ, Ã hi] at ey;have ey : V.int (((fb L.length x)[i] : Nat) : Int) = y := Ò ey;subst ey;have en : (fb L.length x)[i]? = some (fb L.length x)[i] := Ã hi;generalize (fb L.length x)[i] = j at en;have jl : j < L.length := uL (á en);have ex : xs[j]? = some (xs[j]'ae) := Ã ae;obtain ⟨z, ez, pz⟩ := ð pr ex
  match os, Ņ with
  | [o0], _ =>
   refine ⟨⟨[_], rfl, rfl⟩, _, rfl, _, rfl, l, xs, _, _, rfl, rfl, ñ.of (x' _ _ (x1 _ _ hl)), vP ex, ?_⟩;have kl : eV H3 (ao H3 D (.lst (ys ++ [xs[j]'ae]))) := b9 ĕ;refine kk _ _ ĕ ⟨aV _ x' hD, ?_⟩;rw [aw en, Ó];refine aN ?_ (Paired.imp' (λ _ _ r => r.kp kl) pv);show HD _ _ (L.getD j (0, 0));rw [ģ, ez];exact (pz.kp (x1.trans x').Ū).kp kl
 ·rintro ys H' ly ĕ ⟨x', pv⟩;rw [ö, kT] at pv;exact q D H' Jz (x1.trans x') ⟨ys, ĕ, pv⟩
theorem qO {sp : Sp} {te : TE} {u : TS} {De : bQ} {σ : St} {i : Nat} {H : Hp} (h : te σ H λ x H1 => sp [x] H1 (λ v H2 => u De (σ.set i (some v)) H2) E0) : bB (aT (cC sp [] E0 (ac te aH)) (aP i)) u De σ H := h
theorem Ao (F : ŀ K "listing_shares" "listing_shares" B7 f fd) (A1 : Df P w K mg base (kc P w) 5 "need_listing" ["thing"] (tm CL) a1 d1) (A2 : Df P w K mg base (kc P w) 3 "need_hands" ["thing", "folk"] (pj CD) a2 d2) (A3 : Df P w K mg base au 1 "counts_of" ["listing"] qh a3 d3) (A4 : Df P w K mg base au 2 "ones_of" ["dealing", "folk"] wZ a4 d4) (A5 : Df P w K mg base au 1 "value_under" ["counts", "dealt"] (uO K) a5 d5) (A6 : Df P w K mg base au 5 "both_shares" ["ones", "counts", "seen"] (qw K) a6 d6)
  (ml : mg "len" = none) (ms : mg "sum" = none) : az P w K mg base (kc P w) 6 f fd ["listing", "dealing"] (rq CL CD) := by
 refine Bf F LL λ ò A outer s H vs Q E hr h => ?_;obtain ⟨v, y, d, dy, rfl, rv, ry, sm, q1, q2⟩ := h;have nd := LL.nd;have Η : ċ 1 _ := hr.mono ag;have Hy : ċ 2 _ := hr.mono ag;have IP : ċ 3 _ := hr.mono ag;refine cr (t := FN K CL CD E) (cH ⟨bu (bH A1 hr vD (ad (pv 0) ap))⟩
  (cH ⟨bu (bH A2 IP vD (ad (pv 1) (ad (ak aq rfl ml ä (ad (pv 0) ap)) ap)))⟩
  (cH ⟨cD (i := 2) nd rfl (Or.inl rfl) (bH A3 Η ai (ad (pv 0) ap))⟩
  (cH ⟨cD (i := 3) nd rfl (Or.inl rfl) (bH A3 Η ai (ad (eJ (te := aZ (kb K) (am 1) (am 0)) (g := aP 0) rfl xY (bD (bH A4 Hy ai (ad (pv 1) (ad (ak aq rfl ml ä (ad (pv 0) ap)) ap)))) (λ s H C fp => by exact bf (i := 0) Dg rfl (.inl rfl)) (λ s H C fp => by exact cq lS (pv 1) (pv 0))) ap))⟩
  (aR ⟨cp (bH A6 hr ai (ad (ak (gj rfl) rfl ms ė (ad (pv 3) ap)) (ad (pv 2) (ad (bH A5 Η ai (ad (pv 2) (ad (pv 3) ap))) ap))))⟩))))) ⟨?_⟩
 refine ⟨_, rfl, v, d, rfl, rv, sm, λ lg H1 x1 => ?_, q1⟩;obtain ⟨L, rfl, bt, l1, ś⟩ := rH lg;obtain ⟨qn, qg⟩ := q2 L rfl lg;obtain ⟨l, rfl, Tl⟩ := BF rv;have ls := Tl.ext x1;obtain ⟨xs, hl, pr⟩ := id ls;have lx : xs.length = L.length := Ö pr;refine ⟨_, rfl, _, rfl, l, xs, rfl, .inl (ñ.of hl), y, dy, xs.length, rfl, ry.mono x1, ae, ?_, ?_⟩
 ·rw [lx];intro ei;obtain ⟨X, rfl, i1, i2⟩ := jS ei;cases ry;obtain ⟨x, rfl⟩ : ∃ x : Nat, X = (x : Int) := ⟨X.toNat, ae⟩;have hx : x < 2 ^ L.length := by
   have h2 : (x : Int) < ((2 ^ L.length : Nat) : Int) := ae;exact J_.mp h2
  refine ⟨_, rfl, l, xs, L.map pD, rfl, hl, (My.Paired.Kt pr), dO bt, λ c H2 x2 hc => ?_⟩;rw [lG] at hc;show bB (aT (cC qh [] E0 (ac (ul K) aH)) (aP 3)) _ _ [some (.ref l), some (.int (x : Nat)), some (.ref c), none] H2;refine qO (xr (K := K) (ls.ext x2) ś λ D H3 hD x3 Ti => ?_);obtain ⟨zs, hz, pz⟩ := id Ti;have RK := gq (x := x) bt;refine ⟨D, zs, (aG L x).map pD, rfl, hz, (My.Paired.Kt pz), dO RK, λ e H4 x4 he => ?_⟩;rw [lG] at he;have QL := x4 _ _ (x3 _ _ hc);have s1 := da bt;have s2 := da RK;rw [fq] at s2;have eO : ((((aG L x).count (1, 0) : Nat) : Int) + (((aG L x).count (0, 1) : Nat) : Int) + (((aG L x).count (1, 1) : Nat) : Int) + (((aG L x).count (0, 0) : Nat) : Int)) = oX L x := by
   show _ = ((eR L.length x : Nat) : Int);omega
  have en : ((((L.count (1, 0) : Nat)) : Int) + ((L.count (0, 1) : Nat) : Int) + ((L.count (1, 1) : Nat) : Int) + ((L.count (0, 0) : Nat) : Int)) = ((L.length : Nat) : Int) := ae;have pl := mh L.length x;have es : ([((((aG L x).count (1, 0) : Nat)) : Int), (((aG L x).count (0, 1) : Nat) : Int), (((aG L x).count (1, 1) : Nat) : Int), (((aG L x).count (0, 0) : Nat) : Int)] : List Int).sum = oX L x := by
   rw [<- eO];simp;omega
  refine ⟨_, rfl, e, [_, _, _, _], rfl, ą.of he, ?_⟩;rw [es];refine ⟨_, rfl, _, rfl, _, rfl, c, e, _, _, _, _, _, _, _, _, rfl, ą.of QL, ą.of he, ⟨ae, ae, ae, ae⟩, ?_⟩;rw [eO, en];have ev := jL (oX L x) ((L.length : Nat) : Int) (L := L) x bt;rw [<- ev];refine ⟨oX L x, wX L x, c, L.count (1, 0), L.count (0, 1), L.count (1, 1), L.count (0, 0), rfl, ą.of QL, ae, by show (0 : Int) <= ((eR L.length x : Nat) : Int); omega, by show ((eR L.length x : Nat) : Int) <= _; omega, λ r H5 ps q_ x5 ws tw => ?_⟩
  have O9 : ∀ g, dS g ps = cO L (oX L x) g := λ g => by
   unfold cO;rw [ws.2, jF bt, <- s1]
  rw [O9, O9, O9] at tw;have XX := x1.trans (x2.trans (x3.trans x4));have Hz : H r = none := by
   cases e : H r with
   | none => rfl
   | some o => rw [XX _ _ e] at q_; cases q_
  exact qg x rfl hx r H5 Hz (XX.trans x5) tw
 ·rw [lx];intro ei;exact qn ei H1 x1
end
theorem iB (p : Int -> Bool) : ∀ vs : List Int, (vs.filter p).length = (vs.map λ x => if p x = true then 1 else 0).sum
 | [] => rfl
 | x :: vs => by
  rw [î, Í, Ī, <- iB p vs];by_cases h : p x = true
  ·rw [Ô h, Ô h, Ñ];omega
  ·rw [É h, É h];omega
def dk (L : List (Int × Int)) (O : Int) : List Int := (gF L.length O).map λ x => Cp (cm L x) x
theorem sy (L : List (Int × Int)) (x : Nat) : Cp (cm L x) x = wX L x := by
 unfold Cp wX;rw [eQ, vV]
theorem qp (L : List (Int × Int)) (O : Int) : dk L O = (gF (wL L O).length O).map (qI (wL L O)) := by
 unfold dk;rw [Æ];refine Gj λ x hx => ?_;have hp : ((eR L.length x : Nat) : Int) = O := ø (Ď.mp hx).2;rw [sy];unfold wX;rw [hp]
theorem fU (L : List (Int × Int)) (O : Int) (g : Int -> Nat) : ((dk L O).map g).sum = cO L O g := by
 rw [qp, pS];rfl
theorem sq (L : List (Int × Int)) (O s : Int) : ((dk L O).filter λ v => decide (v ≥ s)).length = cO L O (jn s) := by
 rw [iB, sE, fU]
theorem sG (L : List (Int × Int)) (O s : Int) : ((dk L O).filter λ v => decide (v <= s)).length = cO L O (jz s) := by
 rw [iB, rK, fU]
theorem oY (L : List (Int × Int)) (O : Int) : (dk L O).length = cO L O λ _ => 1 := by
 rw [<- fU];generalize dk L O = vs
 induction vs with
 | nil => rfl
 | cons v vs ih => rw [Ñ, Í, Ī, <- ih, J8]
theorem bj {H H1 : Hp} {l : Addr} (x : Ext H H1) (h : H1 l = none) : H l = none := by
 cases e : H l with
 | none => rfl
 | some o => rw [x _ _ e] at h; cases h
theorem xl {CL CD l : Addr} {L : List (Int × Int)} {x : Nat} {H : Hp} {Q : VK} {E : XK} (ls : Ŗ H l L) (bt : bL L) (l1 : 1 <= L.length) (ś : L.length <= 20) (hx : x < 2 ^ L.length) (q : ∀ r H', H r = none -> Ext H H' -> Db H' r L x -> Q (.ref r) H') : rq CL CD [.ref l, .int (x : Nat)] H Q E := by
 have lg := vC bt l1 ś;refine ⟨.ref l, .int (x : Nat), .list (L.map pD), .int (x : Nat), rfl, ls.Kt, .int _, (λ ds e => by cases e; rw [Æ]; omega), (λ z => by rw [lg] at z; cases z), λ L' e _ => ?_⟩
 injection e with e
 cases qD e;refine ⟨λ z => ?_, λ x' e' _ r H' h0 xx h => ?_⟩
 ·exfalso;have z' : (decide ((0 : Int) <= ((x : Nat) : Int)) && decide (((x : Nat) : Int) <= (((2 ^ L.length : Nat) : Int) - 1))) = false := z;have Jf : ((x : Nat) : Int) < ((2 ^ L.length : Nat) : Int) := J_.mpr hx;rw [Ť, Ą, Ą] at z';omega
 ·injection e' with e'
  have e' : x = x' := ae;subst e';exact q r H' h0 xx h
theorem D7 {L : List (Int × Int)} {x : Nat} (ś : L.length <= 20) : 1 <= cO L (oX L x) (λ _ => 1) /\ cO L (oX L x) (λ _ => 1) <= 2 ^ 20 := by
 have pl := mh L.length x;obtain ⟨h1, h2⟩ := xQ (L := L) (O := oX L x) (by show (0 : Int) <= ((eR L.length x : Nat) : Int); omega) (by show ((eR L.length x : Nat) : Int) <= _; omega)
 exact ⟨h1, Ú h2 (ń ag ś)⟩
section
variable {P : Program} {w : World} {K : Frag} {mg : bE} {base : Heap} {CL CD : Addr}
def Ck (CL CD : Addr) (i j : Nat) : TE := cC (rq CL CD) [] E0 (ac (am i) (ac (am j) aH))
theorem BN {i j : Nat} {σ : St} {H : Hp} {Q : VK} {l : Addr} {L : List (Int × Int)} {x : Nat} (hi : σ[i]? = some (some (.ref l))) (hj : σ[j]? = some (some (.int (x : Nat)))) (ls : Ŗ H l L) (bt : bL L) (l1 : 1 <= L.length) (ś : L.length <= 20) (hx : x < 2 ^ L.length) (q : ∀ r H', H r = none -> Ext H H' -> Db H' r L x -> Q (.ref r) H') : Ck CL CD i j σ H Q :=
 ⟨_, hi, _, hj, xl ls bt l1 ś hx q⟩
end
theorem nh {H : Hp} {p q : Addr} (b : Ś H p) (h : H q = none) : q ≠ p := λ z => by
 obtain ⟨u, hu⟩ := b.some;rw [z, hu] at h;cases h
abbrev vN (i : Nat) : V := .int (i : Nat)
theorem rJ {ta : TE} {tb : TA} {σ : St} {H : Hp} {Q : List V -> Hp -> Prop} (h : ta σ H λ v H1 => tb σ H1 λ vs H2 => Q (v :: vs) H2) : ac ta tb σ H Q := h
section
variable {P : Program} {w : World} {K : Frag} {mg : bE} {base : Heap} {CL CD : Addr}
structure FS (P : Program) (w : World) (K : Frag) (mg : bE) (base : Heap) (CL CD : Addr) (a1 a2 a3 a4 a5 a6 a7 a8 : Addr) (d1 d2 d3 d4 d5 d6 d7 d8 : FuncData) : Prop where
 tk : Df P w K mg base au 1 "_law_take" ["_law_box_here", "_law_many"] eG a1 d1
 li : Df P w K mg base au 2 "_law_listing" ["_law_box_here", "_law_folk"] tE a2 d2
 tb : Df P w K mg base au 1 "_law_table" ["_law_listing_here", "_law_ones_here"] Eb a3 d3
 on : Df P w K mg base au 1 "_law_ones" ["_law_folk", "_law_dealing"] tM a4 d4
 wo : Df P w K mg base au 2 "_law_worth" ["_law_row", "_law_dealing"] DS a5 d5
 cm : Df P w K mg base au 1 "_law_came" ["_law_listing_here", "_law_dealing"] t6 a6 d6
 ls : Df P w K mg base (kc P w) 6 "listing_shares" ["listing", "dealing"] (rq CL CD) a7 d7
 is : Df P w K mg base au 2 "_law_is_share" ["_law_found", "_law_top", "_law_bottom"] zK a8 d8
 ms : mg "sum" = none
variable {f a1 a2 a3 a4 a5 a6 a7 a8 : Addr} {d1 d2 d3 d4 d5 d6 d7 d8 : FuncData}
theorem AB {i j a b : Nat} {u : TS} {D : bQ} {σ : St} {H : Hp} {l : Addr} {L : List (Int × Int)} {x : Nat} (hi : σ[i]? = some (some (.ref l))) (hj : σ[j]? = some (some (.int (x : Nat)))) (ls : Ŗ H l L) (bt : bL L) (l1 : 1 <= L.length) (ś : L.length <= 20) (hx : x < 2 ^ L.length)
  (q : ∀ r v1 v2 H', H r = none -> Ext H H' -> H' r = some (.tup [v1, v2]) -> HC H' v1 (bw (cO L (oX L x) (jn (wX L x))) (cO L (oX L x) λ _ => 1)) (aI (cO L (oX L x) (jn (wX L x))) (cO L (oX L x) λ _ => 1)) -> HC H' v2 (bw (cO L (oX L x) (jz (wX L x))) (cO L (oX L x) λ _ => 1)) (aI (cO L (oX L x) (jz (wX L x))) (cO L (oX L x) λ _ => 1)) -> u D ((σ.set a (some v1)).set b (some v2)) H') : bB (aT (Ck CL CD i j) (gW K a b)) u D σ H := by
 show Ck CL CD i j σ H _;refine BN hi hj ls bt l1 ś hx λ r H' h0 xx sh => ?_;obtain ⟨v1, v2, h, s1, s2⟩ := sh;exact ⟨r, _, rfl, ą.of h, rfl, _, _, rfl, _, _, rfl, rfl, q r v1 v2 H' h0 xx h s1 s2⟩
end
def Ys (H : Hp) (v : V) (n : Int) : Prop := ∃ t, v = .ref t /\ H t = some (.tup [.int n, .bl true])
theorem Ys.kp {H H' : Hp} {v : V} {n : Int} (y : Ys H v n) (k : eV H H') : Ys H' v n := by
 obtain ⟨t, e, h⟩ := y;exact ⟨t, e, k _ _ h⟩
def Ż (H : Hp) (o : Addr) (ns : List Int) : Prop := ∃ xs, H o = some (.lst xs) /\ Paired (Ys H) xs ns
theorem Ż.ext {H H' : Hp} {o : Addr} {ns : List Int} (y : Ż H o ns) (x : Ext H H') : Ż H' o ns := by
 obtain ⟨xs, h, p⟩ := y;exact ⟨xs, x _ _ h, Paired.imp' (λ _ _ r => r.kp x.Ū) p⟩
def pT (ns : List Int) : Prop := ∀ n ∈ ns, n = 0 \/ n = 1
theorem qv : ∀ {L : List (Int × Int)} (x : Nat), bL L -> pT (cm L x)
 | [], _, _ => λ n h => nomatch h
 | p :: L, x, bt => λ n hn => by
  obtain ⟨h1, h2⟩ := bt p (Ù ..);rcases Ï.mp hn with rfl | hn
  ·split
   ·exact h1
   ·exact h2
  ·exact qv (x / 2) (λ q hq => bt q (Î _ hq)) n hn
section
variable {P : Program} {w : World} {K : Frag} {mg : bE} {base : Heap} {CL CD : Addr}
abbrev CC : Stmt := cf 27
def Bq : Sp := λ vs H Q _ => ∃ (t : Addr) (n : Int), vs = [.ref t] /\ H t = some (.tup [.int n, .bl true]) /\ (n = 0 \/ n = 1) /\ Q (.bl true) H
theorem LP : af ["thing", "number", "sure"] ["thing"] (aa CC) := aQ
theorem A9 {f a1 : Addr} {fd d1 : FuncData} {t1 t2 : Tok} (N : tD K) (F : ŀ K "is_outcome" "is_outcome" CC f fd) (A1 : Df P w K mg base au 2 "is_whole" ["thing", "low", "high"] (b7 K) a1 d1) (mL : mg "LEAST_NUMBER" = some (.int (-99) t1)) (mM : mg "MOST_NUMBER" = some (.int 99 t2))
  (mi : mg "isinstance" = none) (mt : mg "tuple" = none) (ml : mg "len" = none) (mb : mg "bool" = none) : az P w K mg base au 3 f fd ["thing"] Bq := by
 refine cE F LP λ ò A outer s H vs Q E hr h => ?_;obtain ⟨t, n, rfl, ht, hn, q⟩ := h;have nd := LP.nd;refine ⟨_, b6 (bA (PW.pt (iI (bF (aX (ak (bX N) rfl mi é (ad (pv 0) (ad (fB rfl mt į) ap))))) (eL (aM kj (ak aq rfl ml ä (ad (pv 0) ap)) ay (aA _))))) (bz (cp oB)) gN)
  (b6 (cM (pv 0) (bd rfl (bT (bf (i := 1) nd rfl (Or.inl rfl)) (bT (bf (i := 2) nd rfl (Or.inl rfl)) aC))))
  (bz (cp (cj (bH A1 hr ai (ad (pv 1) (ad (b8 (v := .int (-99)) rfl mL ⟨_, rfl⟩) (ad (b8 (v := .int 99) rfl mM ⟨_, rfl⟩) ap)))) (de (ak (bX N) rfl mi é (ad (pv 2) (ad (fB rfl mb J5) ap)))))))), ?_⟩
 refine ⟨_, rfl, _, _, _, _, rfl, .inl (.tup ht), rfl, _, rfl, c6 ⟨_, rfl, t, _, rfl, .inr (ą.of ht), rfl, _, rfl, c6 ?_⟩⟩;refine ⟨_, rfl, t, _, rfl, ą.of ht, rfl, _, _, rfl, _, _, rfl, rfl, ?_⟩;refine ⟨_, rfl, .int n, -99, 99, rfl, (Ļ.int (G := H) n).th, _, rfl, ?_⟩;have e : G4 (-99) 99 (.int n) = true := by
  rw [(Ļ.int (G := H) n).G4];show (decide ((-99 : Int) <= n) && decide (n <= 99)) = true;rw [Ç (show (-99 : Int) <= n by omega), Ç (show n <= 99 by omega)]
  rfl
 rw [e];exact fO ⟨_, rfl, _, _, _, _, rfl, (Ļ.bl (G := H) true).kd, rfl, q⟩
abbrev Cl : Stmt := cf 28
def zL : Sp := λ vs H Q _ => ∃ (t : Addr) (n : Int) (y : V), vs = [.ref t, y] /\ H t = some (.tup [.int n, .bl true]) /\ (n = 0 \/ n = 1) /\ Q .ĉ H
theorem D5 : af ["thing", "place"] ["thing", "place"] (aa Cl) := aQ
theorem zq {f a1 : Addr} {fd d1 : FuncData} (F : ŀ K "need_outcome" "need_outcome" Cl f fd) (A1 : Df P w K mg base au 3 "is_outcome" ["thing"] Bq a1 d1) : az P w K mg base au 4 f fd ["thing", "place"] zL := by
 refine cE F D5 λ ò A outer s H vs Q E hr h => ?_;obtain ⟨t, n, y, rfl, ht, hn, q⟩ := h;exact ⟨_, bz (bA (bF (aX (bH A1 hr ai (ad (pv 0) ap)))) (bz bV) gN), _, rfl, t, n, rfl, ht, hn, _, rfl, c6 q⟩
abbrev CA : Stmt := cf 29
def zZ : Sp := λ vs H Q _ => ∃ (o : Addr) (ns : List Int), vs = [.ref o] /\ Ż H o ns /\ pT ns /\ ∀ H', Ext H H' -> Q .ĉ H'
abbrev FW : List Str := ["thing", "place", "outcome"]
theorem LJ : af FW ["thing"] (aa CA) := aQ
theorem Ba {f a1 : Addr} {fd d1 : FuncData} (N : tD K) (F : ŀ K "need_outcomes" "need_outcomes" CA f fd) (A1 : Df P w K mg base au 4 "need_outcome" ["thing", "place"] zL a1 d1) (mi : mg "isinstance" = none) (ml : mg "list" = none) (me : mg "enumerate" = none) : az P w K mg base au 5 f fd ["thing"] zZ := by
 refine cE F LJ λ ò A outer s H vs Q E hr h => ?_;obtain ⟨o, ns, rfl, ⟨xs, ho, pr⟩, Χ, q⟩ := h;have nd := LJ.nd;refine ⟨_, b6 (bA (bF (aX (ak (bX N) rfl mi é (ad (pv 0) (ad (fB rfl ml J4) ap))))) (bz bV) gN)
  (bz (bO å rfl (cv rfl me (ad (pv 0) ap)) (bd rfl (bT (bf (i := 1) nd rfl (Or.inl rfl)) (bT (bf (i := 2) nd rfl (Or.inl rfl)) aC)))
   (bz (bu (bH A1 hr ai (ad (pv 2) (ad (pv 1) ap))))))), ?_⟩
 refine ⟨_, rfl, _, _, _, _, rfl, .inl (.lst ho), rfl, _, rfl, c6 ?_⟩;refine ⟨_, rfl, o, rfl, ⟨_, ñ.of ho⟩, ?_⟩;refine cQ (xs := xs) (λ i σ H' => Ext H H' /\ ∃ o1 o2, σ = [some (.ref o), o1, o2]) ⟨Ext.refl _, _, _, rfl⟩ (λ i σ H' _ p => ñ.of (p.1 _ _ ho)) ?_ ?_
 ·rintro i y σ H' t ey ⟨x', o1, o2, rfl⟩ ht;obtain ⟨n, en, t1, rfl, h1⟩ := ð pr ey;have x2 := Ext.new (o := .tup [.int (i : Nat), .ref t1]) ht;refine ⟨t, _, rfl, ą.of bh, rfl, _, _, rfl, _, _, rfl, rfl, ?_⟩;exact ⟨_, rfl, _, rfl, t1, n, _, rfl, x2 _ _ (x' _ _ h1), Χ n (á en), x'.trans x2, _, _, rfl⟩
 ·rintro σ H' ⟨x', o1, o2, rfl⟩;exact q H' x'
abbrev CG : Stmt := cf 39
def tz : Sp := λ vs H Q _ => ∃ (o : Addr) (ns : List Int), vs = [.ref o] /\ Ż H o ns /\ pT ns /\ 1 <= ns.length /\ ns.length <= 20 /\ ∀ l H', H l = none -> Ext H H' -> H' l = some (.lst (ns.map V.int)) -> Q (.ref l) H'
abbrev FU : List Str := ["outcomes", "place", "number", "sure"]
theorem Lz : af FU ["outcomes"] (aa CG) := aQ
abbrev zD : Scope := cT [("number", .local), ("sure", .local)]
theorem BH : ((["number", "sure"] : List Str) ++ ([] : List Str)).Nodup := aF
theorem wI {X : Cx} : aY X zD [] ["number", "sure"] [] [] := jt (L := [(".0", .local), ("number", .local), ("sure", .local)]) rfl rfl aF aF aF rfl aF aF
theorem Bz {f a1 a2 : Addr} {fd d1 d2 : FuncData} {NA : Tok} (F : ŀ K "yes_row" "yes_row" CG f fd) (A1 : Df P w K mg base au 5 "need_outcomes" ["thing"] zZ a1 d1) (A2 : Df P w K mg base au 2 "is_whole" ["thing", "low", "high"] (b7 K) a2 d2) (N' : mg "MOST_FOLK" = some (.int 20 NA)) (ml : mg "len" = none) (me : mg "enumerate" = none) : az P w K mg base au 6 f fd ["outcomes"] tz := by
 refine cE F Lz λ ò A outer s H vs Q E hr h => ?_;obtain ⟨o, ns, rfl, ys, Χ, l1, ś, q⟩ := h;have nd := Lz.nd;have Hy : ċ 2 _ := hr.mono ag;refine ⟨_, b6 (bu (bH A1 hr ai (ad (pv 0) ap)))
  (b6 (bA (bF (aX (bH A2 Hy ai (ad (ak aq rfl ml ä (ad (pv 0) ap)) (ad ay (ad (b8 (v := .int 20) rfl N' ⟨_, rfl⟩) ap)))))) (bz bV) gN)
  (b6 (bO å rfl (cv rfl me (ad (pv 0) ap)) (bd rfl (bT (bf (i := 1) nd rfl (Or.inl rfl)) (bT (bd rfl (bT (bf (i := 2) nd rfl (Or.inl rfl)) (bT (bf (i := 3) nd rfl (Or.inl rfl)) aC))) aC)))
   (bz (bA (PW.pt (iI (bF (aX (pv 3))) (eL (bF (aX (bH A2 Hy ai (ad (pv 2) (ad ay (ad ay ap))))))))) (bz bV) gN)))
  (bz (cp (eJ (te := am 0) (g := gW K 0 1) rfl wI (bD (pv 0)) (λ s H C fp => by exact bd rfl (bT (bf (i := 0) BH rfl (.inl rfl)) (bT (bf (i := 1) BH rfl (.inl rfl)) aC))) (λ s H C fp => by exact pv 0)))))), ?_⟩
 refine ⟨_, rfl, o, ns, rfl, ys, Χ, λ H1 x1 => ?_⟩;obtain ⟨xs, ho, pr⟩ := ys.ext x1;have lx : xs.length = ns.length := Ö pr;refine ⟨_, rfl, o, xs, rfl, .inl (ñ.of ho), .int (xs.length : Nat), 1, 20, rfl, (Ļ.int (G := H1) _).th, _, rfl, ?_⟩;have e1 : G4 1 20 (.int (xs.length : Nat)) = true := by
  rw [(Ļ.int (G := H1) _).G4];show (decide ((1 : Int) <= ((xs.length : Nat) : Int)) && decide (((xs.length : Nat) : Int) <= 20)) = true;rw [Ç (show (1 : Int) <= ((xs.length : Nat) : Int) by omega), Ç (show ((xs.length : Nat) : Int) <= 20 by omega)]
  rfl
 rw [e1];refine c6 ?_;refine ⟨_, rfl, o, rfl, ⟨_, ñ.of ho⟩, ?_⟩;refine cQ (xs := xs) (λ i σ H' => Ext H1 H' /\ ∃ o1 o2 o3, σ = [some (.ref o), o1, o2, o3]) ⟨Ext.refl _, _, _, _, rfl⟩ (λ i σ H' _ p => ñ.of (p.1 _ _ ho)) ?_ ?_
 ·rintro i y σ H' t ey ⟨x', o1, o2, o3, rfl⟩ ht;obtain ⟨n, en, t1, rfl, h1⟩ := ð pr ey;have hn := Χ n (á en);have x2 := Ext.new (o := .tup [.int (i : Nat), .ref t1]) ht;refine ⟨t, _, rfl, ą.of bh, rfl, _, _, rfl, _, _, rfl, ⟨t1, _, rfl, ą.of (x2 _ _ (x' _ _ h1)), rfl, _, _, rfl, _, _, rfl, rfl, rfl, ?_⟩⟩;refine ⟨_, rfl, _, rfl, c6 ⟨_, rfl, .int n, 0, 1, rfl, (Ļ.int n).th, _, rfl, ?_⟩⟩;have e : G4 0 1 (.int n) = true := by
   rw [(Ļ.int (G := H') n).G4];show (decide ((0 : Int) <= n) && decide (n <= 1)) = true;rw [Ç (show (0 : Int) <= n by omega), Ç (show n <= 1 by omega)]
   rfl
  rw [e];exact c6 ⟨x'.trans x2, _, _, _, rfl⟩
 ·rintro σ H' ⟨x', o1, o2, o3, rfl⟩;refine ⟨_, rfl, o, rfl, ⟨_, ñ.of (x' _ _ ho)⟩, λ D hD => ?_⟩;have Jz : H D = none := bj (x1.trans x') hD;refine dw (n := ns.length) (λ i ys H2 => Ext H' H2 /\ ys = (ns.take i).map V.int) (by rw [Þ]; omega) ⟨Ext.new hD, rfl⟩ (λ i ys H2 hi p => ⟨_, _, ñ.of (p.1 _ _ (x' _ _ ho)), Ã ae⟩) (λ ys H2 p => ⟨_, ñ.of (p.1 _ _ (x' _ _ ho)), ae⟩) ?_ ?_
  ·rintro i y ys H2 H3 hi ⟨rfl, hy⟩ ly ĕ ⟨x2, rfl⟩ os Ņ R kk;have ey := hy _ (ñ.of (x2 _ _ (x' _ _ ho)));obtain ⟨n, en, t1, rfl, h1⟩ := ð pr ey
   match os, Ņ with
   | [p0, p1], _ =>
    refine ⟨t1, _, rfl, ą.of (x2 _ _ (x' _ _ h1)), rfl, _, _, rfl, _, _, rfl, rfl, ⟨[_, _], rfl, rfl⟩, _, rfl, kk _ _ ĕ ⟨aV _ x2 hD, ?_⟩⟩;rw [aw en, Ó];rfl
  ·rintro ys H2 ly ĕ ⟨x2, rfl⟩;rw [ö] at ĕ;exact q D H2 Jz (x1.trans (x'.trans x2)) ĕ
end
structure Hf (H : Hp) (v : V) (t b : Nat) : Prop where
 sh : HC H v t b
 O_ : Nat.gcd t b = 1
 b1 : 1 <= b
 tb : t <= b
 sm : b <= 1000
theorem Hf.kp {H H' : Hp} {v : V} {t b : Nat} (l : Hf H v t b) (k : eV H H') : Hf H' v t b := ⟨l.sh.kp k, l.O_, l.b1, l.tb, l.sm⟩
def lT (t b h T : Nat) : Bool := decide (t * T < h * b)
theorem dQ {t b h T : Nat} (T1 : 1 <= T) : decide (t * aI h T < bw h T * b) = lT t b h T := by
 unfold lT;have m := sU (t := h) T1;have p := ou (t := h) T1;generalize bw h T = a at *;generalize aI h T = c at *;have e1 : t * c < a * b ↔ t * c * T < a * b * T := (Nat.mul_lt_mul_right T1).symm;have e2 : t * T < h * b ↔ t * T * c < h * b * c := (Nat.mul_lt_mul_right p).symm;have e3 : t * c * T = t * T * c := by grind
 have e4 : a * b * T = h * b * c := by
  have : a * b * T = a * T * b := by grind
  rw [this, m]
  grind
 rw [Hi, e1, e2, e3, e4]
def gu (t b h g T : Nat) : Bool := lT t b h T && lT t b g T
section
variable {P : Program} {w : World} {K : Frag} {mg : bE} {base : Heap} {CL CD : Addr}
abbrev CT : Stmt := cf 18
def sB : Sp := λ vs H Q _ => ∃ (v1 v2 : V) (a b c d : Nat), vs = [v1, v2] /\ HC H v1 a b /\ HC H v2 c d /\ a <= 2 ^ 20 /\ b <= 2 ^ 20 /\ Q (.bl (decide (a * d < c * b))) H
theorem DO : af ["one", "other"] ["one", "other"] (aa CT) := aQ
theorem Bs {f : Addr} {fd : FuncData} (F : ŀ K "less_share" "less_share" CT f fd) : az P w K mg base au 1 f fd ["one", "other"] sB := by
 refine cE F DO λ ò A outer s H vs Q E hr h => ?_;obtain ⟨v1, v2, a, b, c, d, rfl, ⟨p1, rfl, h1⟩, ⟨p2, rfl, h2⟩, la, lb, q⟩ := h;refine ⟨_, bz (cp (bN su (aj bn (cq dG (pv 0) ay) (cq dG (pv 1) ay)) (aj bn (cq dG (pv 1) ay) (cq dG (pv 0) ay)) (aA _))), ?_⟩;refine ⟨_, rfl, p1, _, _, _, rfl, rfl, ą.of h1, rfl, _, rfl, p2, _, _, _, rfl, rfl, ą.of h2, rfl, _, _, rfl, rfl, .inl ⟨ae, ae⟩, _, rfl, p2, _, _, _, rfl, rfl, ą.of h2, rfl, _, rfl, p1, _, _, _, rfl, rfl, ą.of h1, rfl, _, _, rfl, rfl, .inr ⟨ae, ae⟩, _, _, rfl, rfl, ?_⟩;have e : decide (((a : Nat) : Int) * ((d : Nat) : Int) < ((c : Nat) : Int) * ((b : Nat) : Int)) = decide (a * d < c * b) := by
  rw [Hi];constructor
  ·intro h; exact_mod_cast h
  ·intro h; exact_mod_cast h
 show Q (.bl (decide (((a : Nat) : Int) * ((d : Nat) : Int) < ((c : Nat) : Int) * ((b : Nat) : Int)))) H;rw [e];exact q
abbrev CI : Stmt := cf 17
def B2 : Sp := λ vs H Q _ => ∃ (v : V) (t b : Nat), vs = [v] /\ Hf H v t b /\ Q (.bl true) H
theorem LF : af ["thing", "top", "bottom"] ["thing"] (aa CI) := aQ
theorem BB {f a1 a2 : Addr} {fd d1 d2 : FuncData} (N : tD K) (F : ŀ K "is_share" "is_share" CI f fd) (A1 : Df P w K mg base au 3 "is_part" ["top", "bottom"] (l6 K) a1 d1) (A2 : Df P w K mg base au 1 "greatest_common" ["one", "other"] qo a2 d2) (mi : mg "isinstance" = none) (mt : mg "tuple" = none) (ml : mg "len" = none) : az P w K mg base au 4 f fd ["thing"] B2 := by
 refine cE F LF λ ò A outer s H vs Q E hr h => ?_;obtain ⟨v, t, b, rfl, ⟨⟨p, rfl, hp⟩, O_, b1, tb, sm⟩, q⟩ := h;have nd := LF.nd;have Η : ċ 1 _ := hr.mono ag;refine ⟨_, b6 (bA (PW.pt (iI (bF (aX (ak (bX N) rfl mi é (ad (pv 0) (ad (fB rfl mt į) ap))))) (eL (aM kj (ak aq rfl ml ä (ad (pv 0) ap)) ay (aA _))))) (bz (cp oB)) gN)
  (b6 (cM (pv 0) (bd rfl (bT (bf (i := 1) nd rfl (Or.inl rfl)) (bT (bf (i := 2) nd rfl (Or.inl rfl)) aC))))
  (bz (cp (cj (bH A1 hr ai (ad (pv 1) (ad (pv 2) ap))) (de (bN iQ (bH A2 Η ai (ad (pv 1) (ad (pv 2) ap))) ay (aA _))))))), ?_⟩
 refine ⟨_, rfl, _, _, _, _, rfl, .inl (.tup hp), rfl, _, rfl, c6 ⟨_, rfl, p, _, rfl, .inr (ą.of hp), rfl, _, rfl, c6 ?_⟩⟩;refine ⟨_, rfl, p, _, rfl, ą.of hp, rfl, _, _, rfl, _, _, rfl, rfl, ?_⟩;have NP : nY (.int (t : Nat)) (.int (b : Nat)) = true := by
  show (decide ((1 : Int) <= (b : Nat)) && (decide ((0 : Int) <= (t : Nat)) && decide (((t : Nat) : Int) <= (b : Nat)))) = true;rw [Ç ae, Ç ae, Ç ae];rfl
 refine ⟨_, rfl, _, rfl, _, _, rfl, .inl ⟨_, rfl⟩, .inl ⟨_, rfl⟩, ?_⟩;rw [NP];refine ⟨_, rfl, fO ⟨_, rfl, _, rfl, t, b, rfl, ?_⟩⟩;rw [O_];exact ⟨rfl, q⟩
abbrev CO : Stmt := cf 31
def xN : Sp := λ vs H Q _ => ∃ (v : V) (t b : Nat), vs = [v] /\ Hf H v t b /\ Q .ĉ H
theorem Dk : af ["thing"] ["thing"] (aa CO) := aQ
theorem AF {f a1 : Addr} {fd d1 : FuncData} (F : ŀ K "need_level" "need_level" CO f fd) (A1 : Df P w K mg base au 4 "is_share" ["thing"] B2 a1 d1) : az P w K mg base au 5 f fd ["thing"] xN := by
 refine cE F Dk λ ò A outer s H vs Q E hr h => ?_;obtain ⟨v, t, b, rfl, lv, q⟩ := h;exact ⟨_, bz (bA (bF (aX (bH A1 hr ai (ad (pv 0) ap)))) (bz bV) gN), _, rfl, v, t, b, rfl, lv, _, rfl, c6 q⟩
abbrev CJ : Stmt := cf 52
def B3 : Sp := λ vs H Q _ => ∃ (r : Addr) (v : V) (t b h g T : Nat), vs = [.ref r, v] /\ ud H r h g T /\ 1 <= T /\ Hf H v t b /\ Q (.bl (gu t b h g T)) H
theorem DL : af ["shares", "level"] ["shares", "level"] (aa CJ) := aQ
theorem As {f a1 : Addr} {fd d1 : FuncData} (F : ŀ K "is_kept" "is_kept" CJ f fd) (A1 : Df P w K mg base au 1 "less_share" ["one", "other"] sB a1 d1) : az P w K mg base au 2 f fd ["shares", "level"] B3 := by
 refine cE F DL λ ò A outer s H vs Q E hr h => ?_;obtain ⟨r, v, t, b, h, g, T, rfl, ⟨v1, v2, q_, s1, s2⟩, T1, lv, q⟩ := h;refine ⟨_, bz (cp (cj (bH A1 hr ai (ad (pv 1) (ad (cq dG (pv 0) ay) ap))) (de (bH A1 hr ai (ad (pv 1) (ad (cq dG (pv 0) ay) ap)))))), ?_⟩;have l1 := lv.tb;have l2 := lv.sm;refine ⟨_, rfl, _, rfl, r, _, _, _, rfl, rfl, ą.of q_, rfl, v, v1, t, b, _, _, rfl, lv.sh, s1, ae, ae, ?_⟩;rw [dQ T1];unfold gu at q;refine ⟨_, rfl, ?_⟩;cases e : lT t b h T with
 | false =>
  rw [e] at q;exact c6 q
 | true =>
  rw [e] at q;refine fO ⟨_, rfl, _, rfl, r, _, _, _, rfl, rfl, ą.of q_, rfl, v, v2, t, b, _, _, rfl, lv.sh, s2, ae, ae, ?_⟩;rw [dQ T1];exact q
abbrev Cc : Stmt := cf 44
def A0 : Sp := λ vs H Q _ => ∃ (l r : Addr) (x : Nat) (L : List (Int × Int)), vs = [.ref l, .ref r, .int (x : Nat)] /\ Ŗ H l L /\ L.length <= 20 /\ H r = some (.lst ((cm L x).map V.int)) /\ ∀ H', Ext H H' -> Q (.bl true) H'
abbrev Ft : List Str := ["listing", "row", "dealing"]
theorem Dp : af Ft ["listing", "row", "dealing"] (aa Cc) := aQ
abbrev AT : Scope := cT [("at", .local), ("seen", .local), ("hand_of", .globalImplicit), ("dealing", .free), ("listing", .free)]
theorem Bg : ((["at", "seen"] : List Str) ++ (["dealing", "listing"] : List Str)).Nodup := aF
section
variable {f : Addr} {ò : Value} {A : Around} {outer : List Env} {s : Shared} {H : Hp} {E : XK}
theorem wm : aY (aU au P w K mg base Ft "fits_row" (aa Cc) f ò A outer s H E).ť AT [("listing", s.heap.objs.size + 1), ("dealing", s.heap.objs.size + 2)] ["at", "seen"] ["dealing", "listing"] [2, 0] :=
 bP (M := ["listing", "dealing"]) (L := [(".0", .local), ("at", .local), ("seen", .local), ("hand_of", .globalImplicit), ("dealing", .cell), ("listing", .cell)]) rfl rfl aF aF aF rfl rfl rfl aF aF rfl rfl rfl
end
def BY (K : Frag) : TE := aZ vz (aZ (dE K) (aZ (kb K) (am 3) (am 0)) (aZ gP (tC (.int 1)) (cC kJ [] E0 (ac (am 2) (ac (am 0) aH))))) (am 1)
theorem sX (n : Nat) : (List.replicate n true).all id = true := by
 rw [ŋ];intro b hb;rw [(List.mem_replicate.mp hb).2];rfl
theorem AO {f a1 : Addr} {fd d1 : FuncData} (F : ŀ K "fits_row" "fits_row" Cc f fd) (A1 : Df P w K mg base au 1 "hand_of" ["dealing", "at"] kJ a1 d1) (ma : mg "all" = none) (me : mg "enumerate" = none) : az P w K mg base au 2 f fd ["listing", "row", "dealing"] A0 := by
 refine cE F Dp λ ò A outer s H vs Q E hr h => ?_;obtain ⟨l, r, x, L, rfl, ls, ś, q_, q⟩ := h;refine cr (t := bY (gI (AU K) (ac (dX (gv K (ac (am 1) aH)) 2 [2, 0] (gW K 0 1) (BY K)) aH))) (aR (dF (jg (lM rfl) rfl ma PyProof.Rows.boot_all (dM (te := BY K) (g := gW K 0 1) rfl wm ⟨cv rfl me (ad (pv 1) ap)⟩ (λ s H C fp => by exact bd rfl (bT (bf (i := 0) Bg rfl (.inl rfl)) (bT (bf (i := 1) Bg rfl (.inl rfl)) aC))) (λ s H C fp => ⟨by exact bN iQ (cq dG (cq lS (pv 3) (pv 0)) (aj bp ay (bH A1 hr ai (ad (pv 2) (ad (pv 0) ap))))) (pv 1) (aA _)⟩))))) ⟨j7 ?_⟩
 obtain ⟨xs, hl, pr⟩ := ls;have lx : xs.length = L.length := Ö pr;have lc := eQ L x;refine ⟨_, rfl, r, rfl, ⟨_, ñ.of q_⟩, λ D hD => ?_⟩;refine dw (n := (cm L x).length) (λ i ys H' => Ext H H' /\ ys = (List.replicate i true).map V.bl) (by rw [Þ]; omega) ⟨Ext.new hD, rfl⟩ (λ i ys H' hi p => ⟨_, _, ñ.of (p.1 _ _ q_), by rw [Õ, Ã hi]; rfl⟩) (λ ys H' p => ⟨_, ñ.of (p.1 _ _ q_), by rw [Æ]; exact Å _⟩) ?_ ?_
 ·rintro i y ys H' H3 hi yl ly ĕ ⟨x', rfl⟩ os Ņ R kk;obtain ⟨t, v, rfl, ht, rfl, hv⟩ := yl;have ev := hv _ (ñ.of (x' _ _ q_));rw [Õ, Ã hi] at ev;have ev : V.int (cm L x)[i] = v := Ò ev;subst ev;have en : (cm L x)[i]? = some (cm L x)[i] := Ã hi;generalize (cm L x)[i] = n at en;have ex : xs[i]? = some (xs[i]'ae) := Ã ae;generalize xs[i]'ae = u at ex;obtain ⟨z, ez, t1, rfl, h1⟩ := ð pr ex;rw [mJ (x := x) ez] at en;have en : (if x / 2 ^ i % 2 = 1 then z.1 else z.2) = n := Ò en
  have x3 := Ext.new (o := .tup [.int (i : Nat), .int n]) ht
  match os, Ņ with
  | [p0, p1], _ =>
   refine ⟨t, _, rfl, ą.of bh, rfl, _, _, rfl, _, _, rfl, rfl, ⟨[_, _], rfl, rfl⟩, ?_⟩;refine ⟨_, rfl, _, rfl, l, xs, _, _, rfl, rfl, ñ.of (x3 _ _ (x' _ _ hl)), vP ex, _, rfl, _, rfl, x, i, rfl, _, _, rfl, rfl, t1, _, _, _, rfl, rfl, ą.of (x3 _ _ (x' _ _ h1)), E9, _, rfl, ?_⟩;have e2 : (if x / 2 ^ i % 2 = 1 then V.int z.1 else V.int z.2) = V.int n := by rw [<- en]; split <;> rfl
   rw [e2];refine ⟨rfl, ?_⟩;rw [Ç rfl];refine kk _ _ (x3 _ _ ĕ) ⟨aV _ (x'.trans x3) hD, ?_⟩;rw [List.replicate_succ', Ó];rfl
 ·rintro ys H' ly ĕ ⟨x', rfl⟩;refine ⟨D, _, rfl, ñ.of ĕ, ?_⟩;rw [sX];exact q H' x'
abbrev Cn : Stmt := cf 45
def yM : Sp := λ vs H Q _ => ∃ (l o : Addr) (x : Nat) (L : List (Int × Int)), vs = [.ref l, .ref o, .int (x : Nat)] /\ Ŗ H l L /\ bL L /\ 1 <= L.length /\ L.length <= 20 /\ x < 2 ^ L.length /\ Ż H o (cm L x) /\ ∀ H', Ext H H' -> Q (.bl true) H'
abbrev FY : List Str := ["listing", "outcomes", "dealing", "row"]
theorem LR : af FY ["listing", "outcomes", "dealing"] (aa Cn) := aQ
theorem nK {x n : Nat} (h : x < 2 ^ n) : og 0 (((2 ^ n : Nat) : Int) - 1) (.int (x : Nat)) = true := by
 have h' : ((x : Nat) : Int) < ((2 ^ n : Nat) : Int) := J_.mpr h;show (decide ((0 : Int) <= ((x : Nat) : Int)) && decide (((x : Nat) : Int) <= ((2 ^ n : Nat) : Int) - 1)) = true;rw [Ç (show (0 : Int) <= ((x : Nat) : Int) by omega), Ç (show ((x : Nat) : Int) <= ((2 ^ n : Nat) : Int) - 1 by omega)]
 rfl
theorem Bv {f a1 a2 a3 a4 : Addr} {fd d1 d2 d3 d4 : FuncData} (F : ŀ K "fits" "fits" Cn f fd) (A1 : Df P w K mg base (kc P w) 5 "need_listing" ["thing"] (tm CL) a1 d1) (A2 : Df P w K mg base au 6 "yes_row" ["outcomes"] tz a2 d2) (A3 : Df P w K mg base (kc P w) 3 "need_hands" ["thing", "folk"] (pj CD) a3 d3) (A4 : Df P w K mg base au 2 "fits_row" ["listing", "row", "dealing"] A0 a4 d4) (ml : mg "len" = none) : az P w K mg base au 7 f fd ["listing", "outcomes", "dealing"] yM := by
 refine cE F LR λ ò A outer s H vs Q E hr h => ?_;obtain ⟨l, o, x, L, rfl, ls, bt, l1, ś, hx, ys, q⟩ := h;have nd := LR.nd;have M4 : ċ 5 _ := hr.mono ag;have IP : ċ 3 _ := hr.mono ag;have Hy : ċ 2 _ := hr.mono ag;refine ⟨_, b6 (bu (bH A1 M4 nv (ad (pv 0) ap)))
  (b6 (cD (i := 3) nd rfl (Or.inl rfl) (bH A2 hr ai (ad (pv 1) ap)))
  (b6 (bu (bH A3 IP nv (ad (pv 2) (ad (ak aq rfl ml ä (ad (pv 3) ap)) ap))))
  (b6 (bA (aM kj (ak aq rfl ml ä (ad (pv 0) ap)) (ak aq rfl ml ä (ad (pv 3) ap)) (aA _)) (bz bV) gN)
  (bz (cp (bH A4 Hy ai (ad (pv 0) (ad (pv 3) (ad (pv 2) ap))))))))), ?_⟩
 have lg := vC bt l1 ś;have lc := eQ L x;refine ⟨_, rfl, .ref l, _, rfl, ls.Kt, (λ ds e => by cases e; rw [Æ]; omega), λ _ H1 x1 => ?_, (λ z => by rw [lg] at z; cases z)⟩
 refine ⟨_, rfl, o, _, rfl, ys.ext x1, qv x bt, ae, ae, λ r H2 q_ x2 h2 => ?_⟩;have X2 := x1.trans x2;have hn := nK hx;rw [<- lc] at hn;refine ⟨_, rfl, _, rfl, r, _, rfl, .inl (ñ.of h2), .int (x : Nat), .int (x : Nat), (cm L x).length, by rw [Æ]; rfl, .int _, ae, λ _ => ?_, (λ z => by rw [hn] at z; cases z)⟩
 obtain ⟨xs, hl, pr⟩ := ls.ext X2;have lx : xs.length = L.length := Ö pr;refine ⟨_, rfl, l, xs, rfl, .inl (ñ.of hl), _, rfl, r, _, rfl, .inl (ñ.of h2), rfl, _, rfl, ?_⟩;rw [Æ, lx, lc, Ç rfl];refine c6 ⟨_, rfl, _, rfl, _, rfl, l, r, x, L, rfl, ls.ext X2, ś, h2, λ H3 x3 => q H3 (X2.trans x3)⟩
end
def eS (ns : List Int) (x h : Nat) (y : Int) : List Nat := (List.range ns.length).filter λ i => decide (x / 2 ^ i % 2 = h) && decide (ns.getD i 0 = y)
abbrev M1 : List (Nat × Int) := [(1, 1), (1, 0), (0, 1), (0, 0)]
def ML (H : Hp) (v : V) (g : List Nat) : Prop := ∃ a, v = .ref a /\ H a = some (.lst (g.map vN))
theorem ML.ext {H H' : Hp} {v : V} {g : List Nat} (h : ML H v g) (x : Ext H H') : ML H' v g := by
 obtain ⟨a, e, h⟩ := h;exact ⟨a, e, x _ _ h⟩
def G_ (H : Hp) (g : Addr) (ns : List Int) (x : Nat) : Prop := ∃ vs, H g = some (.lst vs) /\ Paired (ML H) vs (M1.map λ q => eS ns x q.1 q.2)
theorem G_.ext {H H' : Hp} {g : Addr} {ns : List Int} {x : Nat} (h : G_ H g ns x) (e : Ext H H') : G_ H' g ns x := by
 obtain ⟨vs, h1, h2⟩ := h;exact ⟨vs, e _ _ h1, Paired.imp' (λ _ _ r => r.ext e) h2⟩
section
variable {P : Program} {w : World} {K : Frag} {mg : bE} {base : Heap} {CL CD : Addr}
abbrev yZ : Stmt := cf 53
def uW : Sp := λ vs H Q _ => ∃ (o : Addr) (x : Nat) (ns : List Int), vs = [.ref o, .int (x : Nat)] /\ Ż H o ns /\ pT ns /\ 1 <= ns.length /\ ns.length <= 20 /\ x < 2 ^ ns.length /\ ∀ g H', H g = none -> Ext H H' -> G_ H' g ns x -> Q (.ref g) H'
abbrev EX : List Str := ["outcomes", "dealing", "row", "groups", "hand", "yes"]
theorem LQ : af EX ["outcomes", "dealing"] (aa yZ) := aQ
abbrev zj : Scope := cT [("at", .local), ("seen", .local), ("hand_of", .globalImplicit), ("dealing", .free), ("hand", .free), ("yes", .free)]
theorem zI : ((["at", "seen"] : List Str) ++ (["dealing", "hand", "yes"] : List Str)).Nodup := aF
abbrev DP : List (Int × Int) := [(1, 1), (1, 0), (0, 1), (0, 0)]
theorem xg {σ : St} {ps : List (Int × Int)} {H : Hp} {Q : VK} (l : ps.length <= 100) (q : ∀ l vs H', H l = none -> Ext H H' -> H' l = some (.tup vs) -> Paired (HD H') vs ps -> Q (.ref l) H') : dq (sL ps) σ H Q := by
 refine sH λ vs H' x' pr => ⟨?_, λ l hl => ?_⟩
 ·have e : vs.length = ps.length := Ö pr;rw [e, Þ];omega
 ·have x2 := Ext.new (o := .tup vs) hl;exact q l vs _ (bj x' hl) (x'.trans x2) bh (Paired.imp' (λ _ _ r => r.kp x2.Ū) pr)
def uC (K : Frag) : TE := db (gv K (ac (am 2) aH)) 2 [1, 4, 5] (gW K 0 1) (qm (tB (aZ vz (cC kJ [] E0 (ac (am 2) (ac (am 0) aH))) (am 3))) (tB (aZ vz (am 1) (am 4)))) (am 0)
section
variable {f a1 a2 a3 : Addr} {d1 d2 d3 : FuncData} {ò : Value} {A : Around} {outer : List Env} {s : Shared} {H : Hp} {E : XK}
theorem yw : aY (aU au P w K mg base EX "groups_seen" (aa yZ) f ò A outer s H E).ť zj [("yes", s.heap.objs.size + 3), ("hand", s.heap.objs.size + 2), ("dealing", s.heap.objs.size + 1)] ["at", "seen"] ["dealing", "hand", "yes"] [1, 4, 5] :=
 bP (M := ["yes", "hand", "dealing"]) (L := [(".0", .local), ("at", .local), ("seen", .local), ("hand_of", .globalImplicit), ("dealing", .cell), ("hand", .cell), ("yes", .cell)]) rfl rfl aF aF aF rfl rfl rfl aF aF rfl rfl rfl
end
theorem xX {H : Hp} {Q : VK} {r : Addr} {ns : List Int} {x h : Nat} {y : Int} {o0 o3 : Option V} (hr : H r = some (.lst (ns.map V.int))) (ś : ns.length <= 20) (q : ∀ D H', H D = none -> Ext H H' -> H' D = some (.lst ((eS ns x h y).map vN)) -> Q (.ref D) H') : uC K [o0, some (.int (x : Nat)), some (.ref r), o3, some (.int (h : Nat)), some (.int y)] H Q := by
 refine ⟨_, rfl, r, rfl, ⟨_, ñ.of hr⟩, λ D hD => ?_⟩;refine dL (n := ns.length) (λ i ys H' => Ext H H' /\ ys = ((List.range i).filter λ i => decide (x / 2 ^ i % 2 = h) && decide (ns.getD i 0 = y)).map vN) (by rw [Þ]; omega) ⟨Ext.new hD, rfl⟩ (λ i ys H' hi p => ⟨_, _, ñ.of (p.1 _ _ hr), by rw [Õ, Ã hi]; rfl⟩) (λ ys H' p => ⟨_, ñ.of (p.1 _ _ hr), by rw [Æ]; exact Å _⟩) ?_ ?_
 ·rintro i z ys H' H3 hi yl ly ĕ ⟨x', rfl⟩ os Ņ N kk;obtain ⟨t, v, rfl, ht, rfl, hv⟩ := yl;have ev := hv _ (ñ.of (x' _ _ hr));rw [Õ, Ã hi] at ev;have ev : V.int ns[i] = v := Ò ev;subst ev;have en : ns[i]? = some ns[i] := Ã hi;generalize ns[i] = n at en;have eg : ns.getD i 0 = n := by rw [ģ, en]; rfl
  have x3 := Ext.new (o := .tup [.int (i : Nat), .int n]) ht;have fin : ∀ b : Bool, b = (decide (x / 2 ^ i % 2 = h) && decide (ns.getD i 0 = y)) -> (b = false -> N (((List.range i).filter λ i => decide (x / 2 ^ i % 2 = h) && decide (ns.getD i 0 = y)).map vN) (ao H' t (.tup [.int (i : Nat), .int n]))) /\ (b = true -> am 0 ([some (.int (i : Nat)), some (.int n), some (.int (x : Nat)), some (.int (h : Nat)), some (.int y)] : St) (ao H' t (.tup [.int (i : Nat), .int n])) λ y' H4 => H4 D = some (.lst (((List.range i).filter λ i => decide (x / 2 ^ i % 2 = h) && decide (ns.getD i 0 = y)).map vN)) /\ N (((List.range i).filter λ i => decide (x / 2 ^ i % 2 = h) && decide (ns.getD i 0 = y)).map vN ++ [y']) (ao H4 D (.lst (((List.range i).filter λ i => decide (x / 2 ^ i % 2 = h) && decide (ns.getD i 0 = y)).map vN ++ [y'])))) := λ b eb => by
   refine ⟨λ e => ?_, λ e => ?_⟩
   ·refine kk _ _ ⟨x'.trans x3, ?_⟩ ae (x3 _ _ ĕ);rw [ý, û];rw [e] at eb;simp only [List.filter_cons, List.filter_nil, <- eb, Bool.false_eq_true, if_false, List.append_nil]
   ·refine ⟨_, rfl, x3 _ _ ĕ, kk _ _ ⟨aV _ (x'.trans x3) hD, ?_⟩ (by rw [Ì, Ę]; omega) bh⟩
    rw [ý, û];rw [e] at eb;simp only [List.filter_cons, List.filter_nil, <- eb, if_true, List.map_append, List.map_cons, List.map_nil]
  match os, Ņ with
  | [p0, p1], _ =>
   refine ⟨t, _, rfl, ą.of bh, rfl, _, _, rfl, _, _, rfl, rfl, ⟨[_, _], rfl, rfl⟩, ?_⟩;refine ⟨_, rfl, _, rfl, x, i, rfl, _, rfl, rfl, _, rfl, ?_⟩;refine lX (λ c => ?_) (λ c => ?_)
   ·have c1 : x / 2 ^ i % 2 = h := by
     have := ø c;injection this with this
     omega
    refine ⟨_, rfl, _, rfl, rfl, _, rfl, fin _ ?_⟩;rw [Ç c1, Φ, eg];show decide (V.int n = V.int y) = _;rw [Hi];exact ⟨λ z => V.int.inj z, λ z => by rw [z]⟩
   ·have c1 : ¬ x / 2 ^ i % 2 = h := λ z => c (by rw [z]; exact Ç rfl)
    refine fin false ?_;rw [â c1, Ş]
 ·rintro ys H' ly ĕ ⟨x', rfl⟩;exact q D H' hD x' ĕ
def Am (K : Frag) : TS := fT (xM K (dq (sL DP))) (gW K 4 5) (eB (vO K "list" dI (am 3) (ac (uC K) aH)))
theorem yn {u : TS} {De : bQ} {σ : St} {H : Hp} (h : dq (sL DP) σ H λ y H1 => ∃ a, y = .ref a /\ (∃ xs, ą K H1 a xs) /\ ∃ W : Nat -> Nat -> St -> Hp -> Prop, (∃ m, W 0 m σ H1) /\ ∀ i m σ H, W i m σ H ->
   ((vW K a).stop i H /\ u De σ H) \/ ((vW K a).go i H /\ ∃ N : St -> Hp -> Prop, (∀ ĝ H', N ĝ H' -> ∃ m', m' < m /\ W (i + 1) m' ĝ H') /\ ∀ x H', (vW K a).Ψ i H x H' -> gW K 4 5 x σ H' λ ġ H2 => eB (vO K "list" dI (am 3) (ac (uC K) aH)) { De with nx := N, ct := N, bk := λ σ H => u De σ H } ġ H2)) : bB (Am K) u De σ H := h
abbrev xL : Expr := match (aK yZ).getD 3 s0 with
 | .For _ e _ _ _ => e
 | _ => .Name "" ⟨0, 0, 0, 0⟩
theorem O2 {X : Cx} : Bx (PE X xL (dq (sL DP))) := yb (kr ⟨aO (ad ay (ad ay ap))⟩ (kr ⟨aO (ad ay (ad ay ap))⟩ (kr ⟨aO (ad ay (ad ay ap))⟩ (kr ⟨aO (ad ay (ad ay ap))⟩ ij))))
theorem Aj {f a1 a2 a3 : Addr} {fd d1 d2 d3 : FuncData} (F : ŀ K "groups_seen" "groups_seen" yZ f fd) (A1 : Df P w K mg base au 6 "yes_row" ["outcomes"] tz a1 d1) (A2 : Df P w K mg base (kc P w) 3 "need_hands" ["thing", "folk"] (pj CD) a2 d2) (A3 : Df P w K mg base au 1 "hand_of" ["dealing", "at"] kJ a3 d3) (ml : mg "len" = none) (me : mg "enumerate" = none) : az P w K mg base au 7 f fd ["outcomes", "dealing"] uW := by
 refine cE F LQ λ ò A outer s H vs Q E hr h => ?_;obtain ⟨o, x, ns, rfl, ys, Χ, l1, ś, hx, q⟩ := h;have nd := LQ.nd;have IP : ċ 3 _ := hr.mono ag;have Η : ċ 1 _ := hr.mono ag;refine cr (t := bB (aT (cC tz [] E0 (ac (am 0) aH)) (aP 2)) (bB (eB (cC (pj CD) [] E0 (ac (am 1) (ac (gI (jT K) (ac (am 2) aH)) aH)))) (bB (aT (fe aH) (aP 3)) (bB (Am K) (bY (am 3))))))
  (cH ⟨cD (i := 2) nd rfl (Or.inl rfl) (bH A1 hr ai (ad (pv 0) ap))⟩
  (cH ⟨bu (bH A2 IP nv (ad (pv 1) (ad (ak aq rfl ml ä (ad (pv 2) ap)) ap)))⟩
  (cH ⟨cD (i := 3) nd rfl (Or.inl rfl) (cK ap)⟩
  (cH (il å rfl ⟨rE O2.h⟩ (bd rfl (bT (bf (i := 4) nd rfl (Or.inr rfl)) (bT (bf (i := 5) nd rfl (Or.inr rfl)) aC)))
   (aR ⟨bu (eD ì ĩ Ĩ bo (pv 3) (ad (hI (tt := qm (tB (aZ vz (cC kJ [] E0 (ac (am 2) (ac (am 0) aH))) (am 3))) (tB (aZ vz (am 1) (am 4)))) (te := am 0) (g := gW K 0 1) rfl yw (cv rfl me (ad (pv 2) ap)) (λ s H C fp => by exact bd rfl (bT (bf (i := 0) zI rfl (.inl rfl)) (bT (bf (i := 1) zI rfl (.inl rfl)) aC))) (λ s H C fp => by exact PW.pt (mw (aM iQ (bH A3 Η ai (ad (pv 2) (ad (pv 0) ap))) (pv 3) (aA _)) (jE (aM iQ (pv 1) (pv 4) (aA _))))) (λ s H C fp => by exact pv 0)) ap))⟩))
  (aR ⟨cp (pv 3)⟩))))) ⟨?_⟩
 refine ⟨_, rfl, o, ns, rfl, ys, Χ, l1, ś, λ r H1 q_ x1 h1 => ?_⟩;have hn := nK hx;refine ⟨_, rfl, _, rfl, r, _, rfl, .inl (ñ.of h1), .int (x : Nat), .int (x : Nat), ns.length, by rw [Æ]; rfl, .int _, ae, λ _ => ?_, (λ z => by rw [hn] at z; cases z)⟩
 refine ⟨fk, λ g hg => ?_⟩;have x2 := Ext.new (o := .lst []) hg;have Ut : H g = none := bj x1 hg;have T8 : r ≠ g := λ z => by rw [<- z, h1] at hg; cases hg
 have Ur : ao H1 g (.lst []) g = some (.lst []) := bh;have UF := x2 _ _ h1;generalize ao H1 g (.lst []) = H2 at *;refine yn (σ := [some (.ref o), some (.int (x : Nat)), some (.ref r), some (.ref g), none, none]) (xg ag λ T ts H3 hT Y f5 pt => ?_);have T_ := Y _ _ UF;have QF := Y _ _ Ur;have X0 : Ext H1 H3 := x2.trans Y;have Tf : ts.length = 4 := Ö pt;refine ⟨T, rfl, ⟨_, ą.of f5⟩, ?_⟩;have tup : ∀ {t : Addr} {zs : List V} {H' : Hp}, H3 t = some (.tup zs) -> Kept H3 H' g -> H' t = some (.tup zs) := λ {t zs H'} h k => k _ _ h (λ z => by rw [z, QF] at h; cases h)
 refine tF (K := K) (g := gW K 4 5) (tb := eB (vO K "list" dI (am 3) (ac (uC K) aH))) (D := { nx := λ σ H => bY (am 3) { nx := λ _ H' => Q V.ĉ H', rt := Q } σ H, rt := Q }) (xs := ts) (λ i σ H' => Kept H3 H' g /\ (∃ vs, H' g = some (.lst vs) /\ Paired (ML (wo H' g)) vs ((M1.take i).map λ q => eS ns x q.1 q.2)) /\ ∃ o4 o5, σ = [some (.ref o), some (.int (x : Nat)), some (.ref r), some (.ref g), o4, o5]) ⟨(Ext.refl _).kept g, ⟨[], QF, .nil⟩, _, _, rfl⟩ (λ i σ H' _ pv => ą.of (tup f5 pv.1)) ?_ ?_
 ·rintro i v σ H' ev ⟨k, ⟨vs, hv, pr⟩, o4, o5, rfl⟩;have T7 : H' r = some (.lst (ns.map V.int)) := k _ _ T_ T8;obtain ⟨z, ez, t, rfl, ht⟩ := ð pt ev;obtain ⟨q', eq, e1, e2⟩ : ∃ q' : Nat × Int, M1[i]? = some q' /\ z.1 = ((q'.1 : Nat) : Int) /\ z.2 = q'.2 := by
   match i, ez with
   | 0, ez => cases ez; exact ⟨(1, 1), rfl, rfl, rfl⟩
   | 1, ez => cases ez; exact ⟨(1, 0), rfl, rfl, rfl⟩
   | 2, ez => cases ez; exact ⟨(0, 1), rfl, rfl, rfl⟩
   | 3, ez => cases ez; exact ⟨(0, 0), rfl, rfl, rfl⟩
  rw [e1, e2] at ht;refine ⟨t, _, rfl, ą.of (tup ht k), rfl, _, _, rfl, _, _, rfl, rfl, ?_⟩;refine ⟨_, rfl, .inl ⟨rfl, _, ñ.of hv⟩, ?_⟩;refine rJ (xX (K := K) T7 ś λ D H4 hD x4 h4 => ?_);have nD : D ≠ g := λ z => by rw [z, hv] at hD; cases hD
  have lv : vs.length <= 4 := by
   have := Ö pr;rw [this, Æ, Ŋ];exact Hq _ _
  refine ⟨g, vs, .ref D, rfl, rfl, x4 _ _ hv, by rw [Þ]; omega, λ b o' e n => ?_, ⟨vs ++ [.ref D], bh, ?_⟩, _, _, rfl⟩
  ·rw [ah n];exact x4 _ _ (k _ _ e n)
  ·rw [aw eq, Ó];have Sd : ∀ b o', wo H' g b = some o' -> wo (ao H4 g (.lst (vs ++ [.ref D]))) g b = some o' := λ b o' e => by
    have nb := A7 e;refine vJ nb ?_;rw [ah nb];exact x4 _ _ ((qH _ _) _ _ e)
   refine aN ⟨D, rfl, vJ nD (by rw [ah nD]; exact h4)⟩ (Paired.imp' (λ _ _ r => ?_) pr)
   obtain ⟨a, ea, ha⟩ := r;exact ⟨a, ea, Sd _ _ ha⟩
 ·rintro σ H' ⟨k, ⟨vs, hv, pr⟩, o4, o5, rfl⟩;rw [Tf] at pr;refine ⟨_, rfl, q g H' Ut (λ b o' e => ?_) ⟨vs, hv, Paired.imp' (λ _ _ r => r.ext (qH _ _)) pr⟩⟩;have e1 := x1 _ _ e;exact k _ _ (X0 _ _ e1) (λ z => by rw [z, hg] at e1; cases e1)
end
end My
namespace My
open PySem L2
theorem lY (elt t1 i1 t2 i2 : Expr) (scope : Scope) (pos : Pos) (it acc : Value) (env : Env) :
  compTurn (.ListComp elt [⟨t1, i1, [], 0⟩, ⟨t2, i2, [], 0⟩] scope pos) 0 it acc env = (standAt i1.pos >>= λ _ => pyNext it >>= λ r => match r with
   | none => pure (.done .next)
   | some v => letOwnedTupleGo t1 it v >>= λ _ => assign t1 env v >>= λ _ =>
    (eval i2 env >>= λ x => standAt i2.pos >>= λ _ => foldedSetIterable i2 env x >>= λ x => holding [x] (pyIter x) >>= λ j => runOwn (.compStart (.ListComp elt [⟨t1, i1, [], 0⟩, ⟨t2, i2, [], 0⟩] scope pos) 1 j acc env) env >>= λ _ =>
     again (.compLoop (.ListComp elt [⟨t1, i1, [], 0⟩, ⟨t2, i2, [], 0⟩] scope pos) 0 it acc env))) := by rfl
theorem mE (elt t1 i1 t2 i2 : Expr) (scope : Scope) (pos : Pos) (it acc : Value) (env : Env) :
  compTurn (.ListComp elt [⟨t1, i1, [], 0⟩, ⟨t2, i2, [], 0⟩] scope pos) 1 it acc env = (standAt i2.pos >>= λ _ => pyNext it >>= λ r => match r with
   | none => pure (.done .next)
   | some v => letOwnedTupleGo t2 it v >>= λ _ => assign t2 env v >>= λ _ =>
    (eval elt env >>= λ x => call (.builtin "list.append") [acc, x] >>= λ _ => pure ()) >>= λ _ =>
     again (.compLoop (.ListComp elt [⟨t1, i1, [], 0⟩, ⟨t2, i2, [], 0⟩] scope pos) 1 it acc env)) := by rfl
section
variable {prog : Program} {w : World} {A : Around} {R : Result -> Shared -> Prop} {s : Shared} {elt t1 i1 t2 i2 : Expr} {scope : Scope} {pos : Pos} {it acc : Value} {env : Env}
theorem oM (hs : ∀ v, foldedSetIterable i2 env v = pure v) (J : Nat -> Shared -> Prop)
  (turn : ∀ n s, J n s -> wpAny (model prog w) A (pyNext it) (λ r Ă => match r with
   | none => R (.ok .next) Ă
   | some v => wpAny (model prog w) A (letOwnedTupleGo t1 it v) (λ _ Ř => wpAny (model prog w) A (assign t1 env v) (λ _ Γ => wpAny (model prog w) A (eval i2 env) (λ x ξ => wpAny (model prog w) A (pyIter x) (λ j ν =>
     codeAny (model prog w) A (.compStart (.ListComp elt [⟨t1, i1, [], 0⟩, ⟨t2, i2, [], 0⟩] scope pos) 1 j acc env) (λ r s' => match r with | .ok _ => ∃ m, m < n /\ J m s' | .error _ => False) ν) (λ _ _ => False) ξ) (λ _ _ => False) Γ) (λ _ _ => False) Ř) (λ _ _ => False) Ă) (λ _ _ => False) s)
  (n : Nat) (h : J n s) : codeAny (model prog w) A (.compLoop (.ListComp elt [⟨t1, i1, [], 0⟩, ⟨t2, i2, [], 0⟩] scope pos) 0 it acc env) R s := by
 refine Ge rfl J (λ n s hJ => ?_) n h;show wpAny _ _ (Sem.onRaise (compTurn (.ListComp elt [⟨t1, i1, [], 0⟩, ⟨t2, i2, [], 0⟩] scope pos) 0 it acc env) (λ x => do noteFrame x env; theTreesLotGoes x)) _ _ s
 refine GQ ?_;rw [lY];refine À (ü (À (Ü (turn n s hJ) (λ r Ă Ğ => ?_) λ _ _ z => z.elim)));cases r with
 | none => exact Â Ğ
 | some v =>
  refine À (Ü Ğ (λ _ Ř e_ => ?_) λ _ _ z => z.elim);refine À (Ü e_ (λ _ Γ Bk => ?_) λ _ _ z => z.elim);refine À (Ü Bk (λ x ξ GF => ?_) λ _ _ z => z.elim);refine À (ü ?_);rw [hs x];refine À (Â (À (ï (Ü GF (λ j ν GD => ?_) λ _ _ z => z.elim))));refine À (wpAny_runOwn (F_ GD λ r s' hr => ?_));cases r with
  | ok f => exact Â ⟨rfl, hr⟩
  | error e => exact hr.elim
theorem pG (J : Nat -> Shared -> Prop)
  (turn : ∀ n s, J n s -> wpAny (model prog w) A (pyNext it) (λ r Ă => match r with
   | none => R (.ok .next) Ă
   | some v => wpAny (model prog w) A (letOwnedTupleGo t2 it v) (λ _ Ř => wpAny (model prog w) A (assign t2 env v) (λ _ Γ => wpAny (model prog w) A (eval elt env)
     (λ x ξ => wpAny (model prog w) A (call (.builtin "list.append") [acc, x]) (λ _ ν => ∃ m, m < n /\ J m ν) (λ _ _ => False) ξ) (λ _ _ => False) Γ) (λ _ _ => False) Ř) (λ _ _ => False) Ă) (λ _ _ => False) s)
  (n : Nat) (h : J n s) : codeAny (model prog w) A (.compLoop (.ListComp elt [⟨t1, i1, [], 0⟩, ⟨t2, i2, [], 0⟩] scope pos) 1 it acc env) R s := by
 refine Ge rfl J (λ n s hJ => ?_) n h;show wpAny _ _ (Sem.onRaise (compTurn (.ListComp elt [⟨t1, i1, [], 0⟩, ⟨t2, i2, [], 0⟩] scope pos) 1 it acc env) (λ x => do noteFrame x env; theTreesLotGoes x)) _ _ s
 refine GQ ?_;rw [mE];refine À (ü (À (Ü (turn n s hJ) (λ r Ă Ğ => ?_) λ _ _ z => z.elim)));cases r with
 | none => exact Â Ğ
 | some v =>
  refine À (Ü Ğ (λ _ Ř e_ => ?_) λ _ _ z => z.elim);refine À (Ü e_ (λ _ Γ Bk => ?_) λ _ _ z => z.elim);refine À (À (Ü Bk (λ x ξ GF => ?_) λ _ _ z => z.elim));refine À (Ü GF (λ _ ν GD => Â (Â ⟨rfl, GD⟩)) λ _ _ z => z.elim)
theorem dY
  (h0 : codeAny (model prog w) A (.compLoop (.ListComp elt [⟨t1, i1, [], 0⟩, ⟨t2, i2, [], 0⟩] scope pos) 1 it acc env) R s)
  (h : wpAny (model prog w) A (pyIter it) (λ Mg s' => codeAny (model prog w) A (.compLoop (.ListComp elt [⟨t1, i1, [], 0⟩, ⟨t2, i2, [], 0⟩] scope pos) 1 Mg acc env) R s')
   (notedBy (model prog w) A env λ x s' => R (.error x) s') s) :
  codeAny (model prog w) A (.compStart (.ListComp elt [⟨t1, i1, [], 0⟩, ⟨t2, i2, [], 0⟩] scope pos) 1 it acc env) R s := by
 refine codeAny_of_tree ?_;show wpAny _ _ ((compStart (.ListComp elt [⟨t1, i1, [], 0⟩, ⟨t2, i2, [], 0⟩] scope pos) 1 it acc env).onRaise (λ x => do noteFrame x env; standAt theWindowsPlace)) _ _ s
 refine wpAny_notedAt ?_;unfold compStart;show wpAny _ _ (ask >>= _) _ _ s;refine À (wpAny_askSetting (wpAny_ite ?_));split
 ·first
   | exact À (Â (Â (And.intro rfl h0)))
   | exact Â (And.intro rfl h0)
 ·first
   | exact À (F8 (À (ü (À (Ü h (λ Mg s' h' => Â (And.intro rfl h')) λ _ _ x => x)))))
   | (refine À (F8 ?_); show wpAny _ _ (standAt i2.pos >>= _) _ _ s; exact À (ü (À (Ü h (λ Mg s' h' => Â (And.intro rfl h')) λ _ _ x => x))))
end
def vZ (wi : TI) (k : Nat) (js : List Nat) (g : TG) (JG : TI) (g2 : TG) (te : TE) : TE := λ σ H Q => wi σ H λ J H1 => ∀ D, H1 D = none -> ∃ W : Nat -> Nat -> List V -> Hp -> Prop, (∃ m, W 0 m [] (ao H1 D (.lst []))) /\
 ∀ i m ys H2, W i m ys H2 -> (J.stop i H2 /\ Q (.ref D) H2) \/ (J.go i H2 /\
  ∀ x H3, J.Ψ i H2 x H3 -> ∀ os : St, os.length = k -> g x (os ++ br js σ) H3 λ ġ H0 => (∃ ı : St, ı.length = k /\ ġ = ı ++ br js σ) /\ JG ġ H0 λ J2 H5 => ∃ W2 : Nat -> Nat -> List V -> St -> Hp -> Prop, (∃ m2, W2 0 m2 ys ġ H5) /\
   ∀ i2 m2 Ŵ Τ H6, W2 i2 m2 Ŵ Τ H6 -> (J2.stop i2 H6 /\ (∃ ı : St, ı.length = k /\ Τ = ı ++ br js σ) /\ ∃ m', m' < m /\ W (i + 1) m' Ŵ H6) \/ (J2.go i2 H6 /\ Ŵ.length < sizeLine /\
    ∀ y H7, J2.Ψ i2 H6 y H7 -> g2 y Τ H7 λ GO H8 => te GO H8 λ v H9 => H9 D = some (.lst Ŵ) /\ ∃ m', m' < m2 /\ W2 (i2 + 1) m' (Ŵ ++ [v]) GO (ao H9 D (.lst (Ŵ ++ [v])))))
section
variable {X : Cx} {sc : Scope} {cl : List (Str × Addr)} {ts zs : List Str} {js : List Nat} {elt iter z_ : Expr} {pos : Pos} {tg JH : Expr} {g g2 : TG} {wi JG : TI} {te : TE}
theorem ui (hc : X.calm = true) (S : aY X sc cl ts zs js) (hi : PI X tg iter wi) (hg : ∀ s H C fp, PG (av X sc cl (ts ++ zs) s H C fp) tg g) (Ld : ∀ s H C fp, PI (av X sc cl (ts ++ zs) s H C fp) JH z_ JG) (OQ : ∀ s H C fp, PG (av X sc cl (ts ++ zs) s H C fp) JH g2) (he : ∀ s H C fp, PE (av X sc cl (ts ++ zs) s H C fp) elt te)
  (hs : ∀ v, foldedSetIterable iter X.env v = pure v := by intro _; rfl) (T6 : ∀ C v, foldedSetIterable z_ (compEnvC sc cl C X.env) v = pure v := by intro _ _; rfl) : PE X (.ListComp elt [⟨tg, iter, [], 0⟩, ⟨JH, z_, [], 0⟩] sc pos) (vZ wi ts.length js g JG g2 te) := by
 intro pins s σ H Q I h;rw [HH];refine đ (use := none) rfl hs S.n_ S.kind S.names (ax (hi pins s σ H _ I h) λ v s1 h1 => ax h1 λ Js s2 h2 => ?_);obtain ⟨it, fp, tn, J, H2, e, I2, T, ο, f2, body⟩ := h2;subst e;have Ii : H2 s2.heap.objs.size = none := I2.fresh;obtain ⟨W, ⟨m0, w0⟩, turn⟩ := body _ Ii;refine Ý ?_;have I3 : Inv X pins σ (ao H2 s2.heap.objs.size (.lst [])) { s2 with heap := s2.heap.push { cls := .type "list", data := .seq ([] : List Value).toArray } } := I2.Ie (t' := s2.toks) (ys := []) (its := []) .nil (Ċ _)
 refine Ĝ S.Ζ (by intro y hy; simp at hy) (λ Ğ hn B' => ?_) S.kind
 generalize f' : ({ s2 with heap := s2.heap.push { cls := .type "list", data := .seq ([] : List Value).toArray } } : Shared) = s3 at I3 hn B' ⊢
 have Λ : ∀ b ∈ fp, bK X pins (ao H2 s2.heap.objs.size (.lst [])) b /\ b < s3.heap.objs.size := λ b hb => by
  obtain ⟨o, ho, _⟩ := T.obj _ _ ο b hb;have hl := È ho;have GH : b ≠ s2.heap.objs.size := Ë hl;obtain ⟨z1, z2⟩ := f2 b hb;refine ⟨⟨by rw [ah GH]; exact z1, z2⟩, ?_⟩
  rw [<- f'];show b < (s2.heap.push _).objs.size;rw [æ];exact ē hl
 have old : ∀ b o, s3.heap.get? b = some o -> Ğ.get? b = some o := λ b o e => B'.extBut b o (Ë (È e)) (Á _ e);have loop : ∀ sS : Shared, sS.heap = Ğ -> sS.os = s3.os -> sS.gens = s3.gens -> codeAny (model X.prog X.w) X.A (.compLoop (.ListComp elt [⟨tg, iter, [], 0⟩, ⟨JH, z_, [], 0⟩] sc pos) 0 (.ref it) (.ref s2.heap.objs.size) (compEnvC sc cl s3.heap.objs.size X.env))
   (compPost (model X.prog X.w) X.A X.xe none (EP X pins σ Q) (.ref s2.heap.objs.size) s3.heap.objs.size) sS := by
  intro sS eh eo eg;subst eh;have J0 : Inv (av X sc cl (ts ++ zs) s3 (ao H2 s2.heap.objs.size (.lst [])) s3.heap.objs.size fp) [] (List.replicate ts.length none ++ br js σ) (ao H2 s2.heap.objs.size (.lst [])) sS := bS I3 S Λ (Å _) eo eg old hn;generalize hX : av X sc cl (ts ++ zs) s3 (ao H2 s2.heap.objs.size (.lst [])) s3.heap.objs.size fp = X' at J0;have Ľ : ∀ {H' : Hp}, (∀ b ∈ fp, H' b = none) -> ∀ b ∈ fp, bK X' [] H' b := λ {H'} hn b hb => by
   subst hX;obtain ⟨⟨_, z1, z2, z3, z4, z5⟩, z6⟩ := Λ b hb;refine ⟨hn b hb, Ë z6, λ q => ?_, .inl hb, λ y c e => z4 y c (S.sub _ _ e), λ p hp => absurd (show p ∈ ([] : List (Addr × Obj)) from hp) (by simp)⟩
   rcases Ï.mp (I3.ř b q) with e | e
   ·exact z1 e
   ·exact z2 e
  have Hc : tn 0 sS.heap := T.keep _ _ _ ο λ b hb o e => old b o (by rw [<- f']; exact Á _ e)
  refine oM (T6 _) (λ n s' => ∃ i ys os H', os.length = ts.length /\ Inv X' [] (os ++ br js σ) H' s' /\ tn i s'.heap /\ (∀ b ∈ fp, H' b = none) /\ W i n ys H') ?_ m0 ⟨0, [], _, _, ç, J0, Hc, λ b hb => (Λ b hb).1.1, w0⟩;rintro n s' ⟨i, ys, os, H', Ņ, Iv, st, fr, w⟩;have alt := turn i n ys H' w;have eP : X'.prog = X.prog := by subst hX; rfl
  have eW : X'.w = X.w := by subst hX; rfl
  have eK : X'.K = X.K := by subst hX; rfl
  have eC : X'.calm = true := by subst hX; exact hc
  have eA : X'.A = X.A := by subst hX; rfl
  have eE : X'.env = compEnvC sc cl s3.heap.objs.size X.env := by subst hX; rfl
  have eX : X'.xe = λ _ _ => False := by subst hX; rfl
  rcases alt with ⟨stop, q⟩ | ⟨go, step⟩
  ·have d := T.done X' eP eW eK eC i [] s' _ H' (λ _ _ => False) Iv (Ľ fr) st stop;rw [eA] at d;refine ax d λ r s4 ⟨hr, I4⟩ => ?_;subst hr;obtain ⟨m, hm, _⟩ := id I4.loc;rw [eE] at hm;subst hX;exact ⟨m, hm, λ h' Hx => ⟨.ref s2.heap.objs.size, H', cy I3 Λ (Å _) I4 Hx, rfl, q⟩⟩
  ·have d := T.item X' eP eW eK eC i [] s' _ H' (λ _ _ => False) Iv (Ľ fr) st go;rw [eA] at d;refine ax d λ r s4 ⟨u, hr, h4⟩ => ?_;subst hr;refine ax h4 λ _ s5 ⟨y, H5, I5, r5, y5, Δ, HA⟩ => ?_;have HE := I5.pinned (Ľ HA) (T.obj _ _ Δ);have IR : PG X' tg g := by subst hX; exact hg _ _ _ _
   have g6 := IR _ s5 _ H5 y u _ HE r5 (step y H5 y5 os Ņ);rw [eP, eW, eA, eE, eX] at g6;refine ax g6 λ _ s6 ⟨Ij, H6, I6, ⟨ı, k_, e6⟩, IB⟩ => ?_;have OO : PI X' JH z_ JG := by subst hX; exact Ld _ _ _ _
   have g7 := OO _ s6 _ H6 _ I6 IB;rw [eP, eW, eA, eE, eX] at g7;refine ax g7 λ uv s7 h7 => ax h7 λ jv s8 h8 => ?_;obtain ⟨Mf, QW, SA, J2, H8, e8, I8, T2, ND, f8, W2, ⟨m2, w2⟩, Ls⟩ := h8;subst e8;have fin : ∀ s9 H9, Inv X' ([] ++ dv fp s5.heap) Ij H9 s9 -> True := λ _ _ _ => trivial;have JO : ∀ s9, s9 = s8 -> codeAny (model X.prog X.w) X.A (.compLoop (.ListComp elt [⟨tg, iter, [], 0⟩, ⟨JH, z_, [], 0⟩] sc pos) 1 (.ref Mf) (.ref s2.heap.objs.size) (compEnvC sc cl s3.heap.objs.size X.env))
     (λ r s' => match r with
      | .ok _ => ∃ m, m < n /\ ∃ i ys os H', os.length = ts.length /\ Inv X' [] (os ++ br js σ) H' s' /\ tn i s'.heap /\ (∀ b ∈ fp, H' b = none) /\ W i m ys H'
      | .error _ => False) s9 := by
    rintro s9 rfl;refine pG (λ n2 s' => ∃ i2 Ŵ Τ H', Inv X' ([] ++ dv fp s5.heap) Τ H' s' /\ SA i2 s'.heap /\ (∀ b ∈ QW, bK X' ([] ++ dv fp s5.heap) H' b) /\ W2 i2 n2 Ŵ Τ H') ?_ m2 ⟨0, ys, Ij, H8, I8, ND, f8, w2⟩;rintro n2 s' ⟨i2, Ŵ, Τ, H', RL, P9, Nf, wv⟩;rcases Ls i2 n2 Ŵ Τ H' wv with ⟨Lx, ⟨SZ, Oh, e3⟩, m', GI, w'⟩ | ⟨go2, ņ, Ly⟩
    ·have d := T2.done X' rfl rfl rfl eC i2 _ s' _ H' (λ _ _ => False) RL Nf P9 Lx;rw [eP, eW, eA] at d;refine ax d λ r s4 ⟨hr, I4⟩ => ?_;subst hr;subst e3;refine ⟨m', GI, i + 1, Ŵ, SZ, H', Oh, I4.Ĥ, T.keep _ _ _ Δ λ b hb o e => (I4.pin (b, o) (Ä _ (Ä _ (ar hb e)))).1, λ b hb => ?_, w'⟩;obtain ⟨o', e', _⟩ := T.obj _ _ Δ b hb;exact (I4.pin (b, o') (Ä _ (Ä _ (ar hb e')))).2.1
    ·have d := T2.item X' rfl rfl rfl eC i2 _ s' _ H' (λ _ _ => False) RL Nf P9 go2;rw [eP, eW, eA] at d;refine ax d λ r s4 ⟨u, hr, h4⟩ => ?_;subst hr;refine ax h4 λ _ sa ⟨y, Ha, Ia, ra, ya, NC, Vj⟩ => ?_;have Ng : ∀ b ∈ QW, bK X' ([] ++ dv fp s5.heap) Ha b := λ b hb => by
      obtain ⟨_, z⟩ := Nf b hb;exact ⟨Vj b hb, z⟩
     have Wm := Ia.pinned Ng (T2.obj _ _ NC);have OP : PG X' JH g2 := by subst hX; exact OQ _ _ _ _
     have gb := OP _ sa _ Ha y u _ Wm ra (Ly y Ha ya);rw [eP, eW, eA, eE, eX] at gb;refine ax gb λ _ sb ⟨RO, Hb, Ib, SG⟩ => ?_;have HP : PE X' elt te := by subst hX; exact he _ _ _ _
     have gc := HP _ sb _ Hb _ Ib SG;rw [eP, eW, eA, eE, eX] at gc;refine ax gc λ uv SL ⟨v7, H7, I7, r7, IS, m', GI, w7⟩ => ?_;have gd := (bo (X := X')) _ SL _ H7 (.ref s2.heap.objs.size) [v7] (.ref s2.heap.objs.size) [uv] (λ _ H8 => H8 = ao H7 s2.heap.objs.size (.lst (Ŵ ++ [v7]))) I7 rfl (.cons r7 .nil) ⟨_, Ŵ, v7, rfl, rfl, IS, ņ, rfl⟩;rw [eP, eW, eA, eX] at gd;refine ax gd λ _ sd ⟨_, Hd, Id, _, ed⟩ => ?_;subst ed;refine ⟨m', GI, i2 + 1, Ŵ ++ [v7], RO, _, Id.Ĥ, T2.keep _ _ _ NC λ b hb o e => (Id.pin (b, o) (Ä _ (Ä _ (ar hb e)))).1, λ b hb => ?_, w7⟩;obtain ⟨o', e', _⟩ := T2.obj _ _ NC b hb;obtain ⟨_, z⟩ := Nf b hb;exact ⟨(Id.pin (b, o') (Ä _ (Ä _ (ar hb e')))).2.1, z⟩
   have SH := ND;refine dY (JO _ rfl) ?_;have ts := T2.self X'.A 0 s8 (λ Mg s' => codeAny (model X.prog X.w) X.A (.compLoop (.ListComp elt [⟨tg, iter, [], 0⟩, ⟨JH, z_, [], 0⟩] sc pos) 1 Mg (.ref s2.heap.objs.size) (compEnvC sc cl s3.heap.objs.size X.env))
     (λ r s' => match r with
      | .ok _ => ∃ m, m < n /\ ∃ i ys os H', os.length = ts.length /\ Inv X' [] (os ++ br js σ) H' s' /\ tn i s'.heap /\ (∀ b ∈ fp, H' b = none) /\ W i m ys H'
      | .error _ => False) s') (notedBy (model X.prog X.w) X.A (compEnvC sc cl s3.heap.objs.size X.env) λ x s' => False) ND (JO _ rfl)
   rw [eP, eW, eA] at ts;exact ts
 have Hv : tn 0 Ğ := T.keep _ _ _ ο λ b hb o e => old b o (by rw [<- f']; exact Á _ e)
 exact Ħ (loop _ rfl rfl rfl) (T.self _ 0 _ _ _ Hv (loop _ rfl rfl rfl))
end
end My
namespace My
open PySem PySem.W L2
section
variable {te : TE} {g g2 : TG} {JG : TI} {k n n2 : Nat} {cap : St} {D : Addr} {H1 : Hp} {Q : Hp -> Prop} {J J2 : It}
theorem um (Pv : Nat -> List V -> Hp -> Prop) (h0 : Pv 0 [] (ao H1 D (.lst []))) (hg : ∀ i ys H, i < n -> Pv i ys H -> J.go i H) (He : ∀ ys H, Pv n ys H -> J.stop n H)
  (hs : ∀ (i : Nat) x ys H H3, i < n -> J.Ψ i H x H3 -> Pv i ys H -> ∀ os : St, os.length = k -> ∀ N : List V -> Hp -> Prop, (∀ GA H', Pv (i + 1) GA H' -> N GA H') ->
   g x (os ++ cap) H3 λ ġ H0 => (∃ ı : St, ı.length = k /\ ġ = ı ++ cap) /\ JG ġ H0 λ J2 H5 => ∃ W2 : Nat -> Nat -> List V -> St -> Hp -> Prop, (∃ m2, W2 0 m2 ys ġ H5) /\
    ∀ i2 m2 Ŵ Τ H6, W2 i2 m2 Ŵ Τ H6 -> (J2.stop i2 H6 /\ (∃ ı : St, ı.length = k /\ Τ = ı ++ cap) /\ N Ŵ H6) \/ (J2.go i2 H6 /\ Ŵ.length < sizeLine /\
     ∀ y H7, J2.Ψ i2 H6 y H7 -> g2 y Τ H7 λ GO H8 => te GO H8 λ v H9 => H9 D = some (.lst Ŵ) /\ ∃ m', m' < m2 /\ W2 (i2 + 1) m' (Ŵ ++ [v]) GO (ao H9 D (.lst (Ŵ ++ [v])))))
  (hd : ∀ ys H, Pv n ys H -> Q H) :
  ∃ W : Nat -> Nat -> List V -> Hp -> Prop, (∃ m, W 0 m [] (ao H1 D (.lst []))) /\
   ∀ i m ys H2, W i m ys H2 -> (J.stop i H2 /\ Q H2) \/ (J.go i H2 /\
    ∀ x H3, J.Ψ i H2 x H3 -> ∀ os : St, os.length = k -> g x (os ++ cap) H3 λ ġ H0 => (∃ ı : St, ı.length = k /\ ġ = ı ++ cap) /\ JG ġ H0 λ J2 H5 => ∃ W2 : Nat -> Nat -> List V -> St -> Hp -> Prop, (∃ m2, W2 0 m2 ys ġ H5) /\
     ∀ i2 m2 Ŵ Τ H6, W2 i2 m2 Ŵ Τ H6 -> (J2.stop i2 H6 /\ (∃ ı : St, ı.length = k /\ Τ = ı ++ cap) /\ ∃ m', m' < m /\ W (i + 1) m' Ŵ H6) \/ (J2.go i2 H6 /\ Ŵ.length < sizeLine /\
      ∀ y H7, J2.Ψ i2 H6 y H7 -> g2 y Τ H7 λ GO H8 => te GO H8 λ v H9 => H9 D = some (.lst Ŵ) /\ ∃ m', m' < m2 /\ W2 (i2 + 1) m' (Ŵ ++ [v]) GO (ao H9 D (.lst (Ŵ ++ [v]))))) := by
 refine ⟨λ i m ys H => m = n - i /\ i <= n /\ Pv i ys H, ⟨n, by simp, Nat.zero_le _, h0⟩, ?_⟩
 rintro i m ys H ⟨rfl, hi, p⟩;by_cases ŏ : i < n
 ·refine .inr ⟨hg i ys H ŏ p, λ x H' y os Ņ => ?_⟩;exact hs i x ys H H' ŏ y p os Ņ (λ GA Lr => ∃ m', m' < n - i /\ (m' = n - (i + 1) /\ i + 1 <= n /\ Pv (i + 1) GA Lr)) λ GA Lr p' => ⟨n - (i + 1), ae, rfl, ŏ, p'⟩
 ·have e : i = n := ae;subst e;exact .inl ⟨He ys H p, hd ys H p⟩
theorem ug {N : List V -> Hp -> Prop} {ys : List V} {ġ : St} {H5 : Hp} (Pv : Nat -> List V -> St -> Hp -> Prop) (h0 : Pv 0 ys ġ H5) (hg : ∀ i ys σ H, i < n2 -> Pv i ys σ H -> J2.go i H /\ ys.length < sizeLine) (He : ∀ ys σ H, Pv n2 ys σ H -> J2.stop n2 H)
  (hs : ∀ (i : Nat) y ys σ H H7, i < n2 -> J2.Ψ i H y H7 -> Pv i ys σ H -> ∀ R : St -> V -> Hp -> Prop, (∀ v GO H9, H9 D = some (.lst ys) -> Pv (i + 1) (ys ++ [v]) GO (ao H9 D (.lst (ys ++ [v]))) -> R GO v H9) -> g2 y σ H7 λ GO H8 => te GO H8 λ v H9 => R GO v H9)
  (hd : ∀ ys σ H, Pv n2 ys σ H -> (∃ ı : St, ı.length = k /\ σ = ı ++ cap) /\ N ys H) :
  ∃ W2 : Nat -> Nat -> List V -> St -> Hp -> Prop, (∃ m2, W2 0 m2 ys ġ H5) /\
   ∀ i2 m2 Ŵ Τ H6, W2 i2 m2 Ŵ Τ H6 -> (J2.stop i2 H6 /\ (∃ ı : St, ı.length = k /\ Τ = ı ++ cap) /\ N Ŵ H6) \/ (J2.go i2 H6 /\ Ŵ.length < sizeLine /\
    ∀ y H7, J2.Ψ i2 H6 y H7 -> g2 y Τ H7 λ GO H8 => te GO H8 λ v H9 => H9 D = some (.lst Ŵ) /\ ∃ m', m' < m2 /\ W2 (i2 + 1) m' (Ŵ ++ [v]) GO (ao H9 D (.lst (Ŵ ++ [v])))) := by
 refine ⟨λ i m ys σ H => m = n2 - i /\ i <= n2 /\ Pv i ys σ H, ⟨n2, by simp, Nat.zero_le _, h0⟩, ?_⟩
 rintro i m ys σ H ⟨rfl, hi, p⟩;by_cases ŏ : i < n2
 ·obtain ⟨h1, h2⟩ := hg i ys σ H ŏ p;refine .inr ⟨h1, h2, λ y H' yl => ?_⟩;exact hs i y ys σ H H' ŏ yl p _ λ v GO H9 e p' => ⟨e, n2 - (i + 1), ae, rfl, ŏ, p'⟩
 ·have e : i = n2 := ae;subst e;exact .inl ⟨He ys σ H p, hd ys σ H p⟩
end
def Gw (H : Hp) (g : Addr) (a b c d : Nat) : Prop := ∃ vs, H g = some (.lst vs) /\ Paired (λ v n => ∃ l xs, v = V.ref l /\ H l = some (.lst xs) /\ xs.length = n) vs [a, b, c, d]
theorem Gw.ext {H H' : Hp} {g : Addr} {a b c d : Nat} (h : Gw H g a b c d) (e : Ext H H') : Gw H' g a b c d := by
 obtain ⟨vs, h1, h2⟩ := h;exact ⟨vs, e _ _ h1, Paired.imp' (λ _ _ ⟨l, xs, e1, e2, e3⟩ => ⟨l, xs, e1, e _ _ e2, e3⟩) h2⟩
theorem io {α β γ : Type} {R : α -> β -> Prop} {S : α -> γ -> Prop} (f : β -> γ) (h : ∀ x y, R x y -> S x (f y)) : ∀ {xs : List α} {ys : List β}, Paired R xs ys -> Paired S xs (ys.map f)
 | _, _, .nil => .nil
 | _, _, .cons r t => .cons (h _ _ r) (io f h t)
def gA (ns : List Int) (x : Nat) : Nat := (eS ns x 1 1).length
def gB (ns : List Int) (x : Nat) : Nat := (eS ns x 1 0).length
def gC (ns : List Int) (x : Nat) : Nat := (eS ns x 0 1).length
def gD (ns : List Int) (x : Nat) : Nat := (eS ns x 0 0).length
theorem G_.ln {H : Hp} {g : Addr} {ns : List Int} {x : Nat} (h : G_ H g ns x) : Gw H g (gA ns x) (gB ns x) (gC ns x) (gD ns x) := by
 obtain ⟨vs, h1, h2⟩ := h;refine ⟨vs, h1, ?_⟩;exact io (S := λ v n => ∃ l xs, v = V.ref l /\ H l = some (.lst xs) /\ xs.length = n) List.length (λ v gr ⟨a, e, ha⟩ => ⟨a, _, e, ha, by rw [Æ]⟩) h2
section
variable {P : Program} {w : World} {K : Frag} {mg : bE} {base : Heap} {CL CD : Addr}
abbrev C9 : Scope := cT [("group", .local), ("len", .globalImplicit)]
theorem xt : ((["group"] : List Str) ++ ([] : List Str)).Nodup := aF
theorem mI {X : Cx} : aY X C9 [] ["group"] [] [] := jt (L := [(".0", .local), ("group", .local), ("len", .globalImplicit)]) rfl rfl aF aF aF rfl aF aF
def CK (K : Frag) : TE := dX (cX K (am 0)) 1 [] (aP 0) (gI (jT K) (ac (am 0) aH))
theorem sJ {σ : St} {H : Hp} {Q : VK} {g : Addr} {a b c d : Nat} (s0 : σ[0]? = some (some (.ref g))) (ln : Gw H g a b c d) (q : ∀ D H', H D = none -> Ext H H' -> H' D = some (.lst [.int (a : Nat), .int (b : Nat), .int (c : Nat), .int (d : Nat)]) -> Q (.ref D) H') : CK K σ H Q := by
 obtain ⟨vs, hg, pr⟩ := ln;have lv : vs.length = 4 := Ö pr;refine ⟨_, s0, g, rfl, ⟨_, ñ.of hg⟩, λ D hD => ?_⟩;refine dw (n := 4) (λ i ys H' => Ext H H' /\ ys = (([a, b, c, d] : List Nat).take i).map vN) (by rw [Þ]; omega) ⟨Ext.new hD, rfl⟩ (λ i ys H' hi p => ⟨_, _, ñ.of (p.1 _ _ hg), Ã ae⟩) (λ ys H' p => ⟨_, ñ.of (p.1 _ _ hg), ae⟩) ?_ ?_
 ·rintro i y ys H' H3 hi ⟨rfl, hy⟩ ly ĕ ⟨x', rfl⟩ os Ņ R kk;obtain ⟨n, en, l, xs, rfl, hl, ex⟩ := ð pr (hy _ (ñ.of (x' _ _ hg)))
  match os, Ņ with
  | [p0], _ =>
   refine ⟨⟨[_], rfl, rfl⟩, _, rfl, l, xs, rfl, .inl (ñ.of (x' _ _ hl)), ?_⟩;rw [ex];refine kk _ _ ĕ ⟨aV _ x' hD, ?_⟩;rw [aw en, Ó];rfl
 ·rintro ys H' ly ĕ ⟨x', rfl⟩;exact q D H' hD x' ĕ
theorem j5 {te : TE} {g : TG} {u : TS} {De : bQ} {σ : St} {H : Hp} (h : te σ H λ v H1 => g v σ H1 λ ġ H2 => u De ġ H2) : bB (aT te g) u De σ H := h
def pO (n i : Nat) : List (Nat × Nat) := (List.range i).flatMap λ i => (List.range (n + 1)).map λ j => (i, j)
theorem iG (n i : Nat) : pO n (i + 1) = pO n i ++ (List.range (n + 1)).map λ j => (i, j) := by
 unfold pO;rw [ý (n := i), Gk, List.flatMap_cons, List.flatMap_nil, ã]
theorem gX (n : Nat) : ∀ i, (pO n i).length = i * (n + 1)
 | 0 => by simp [pO]
 | i + 1 => by rw [iG, Ì, gX n i, Æ, ě, J6]
def fY (m n : Nat) : List (Nat × Nat) := pO n (m + 1)
abbrev Pn (H : Hp) (v : V) (z : Nat × Nat) : Prop := HD H v (((z.1 : Nat) : Int), ((z.2 : Nat) : Int))
abbrev BL : Stmt := cf 54
def uG : Sp := λ vs H Q _ => ∃ (g : Addr) (a b c d : Nat), vs = [.ref g] /\ Gw H g a b c d /\ a <= 20 /\ b <= 20 /\ c <= 20 /\ d <= 20 /\ ∀ l us H', H l = none -> Ext H H' -> H' l = some (.lst us) -> Paired (Pn H') us (fY (a + d) (b + c)) -> Q (.ref l) H'
abbrev Fy : List Str := ["groups", "yes_one", "no_one", "yes_zero", "no_zero", "most_bettered", "most_worsened"]
theorem LW : af Fy ["groups"] (aa BL) := aQ
abbrev B6 : Scope := cT [("better", .local), ("worse", .local), ("range", .globalImplicit), ("most_worsened", .free)]
theorem BJ : ((["better", "worse"] : List Str) ++ (["most_worsened"] : List Str)).Nodup := aF
section
variable {f : Addr} {ò : Value} {A : Around} {outer : List Env} {s : Shared} {H : Hp} {E : XK}
theorem yx : aY (aU au P w K mg base Fy "all_pairs" (aa BL) f ò A outer s H E).ť B6 [("most_worsened", s.heap.objs.size + 1)] ["better", "worse"] ["most_worsened"] [6] :=
 bP (M := ["most_worsened"]) (L := [(".0", .local), ("better", .local), ("worse", .local), ("range", .globalImplicit), ("most_worsened", .cell)]) rfl rfl aF aF aF rfl rfl rfl aF aF rfl rfl rfl
end
def ze : TE := vZ (dC (ac (aZ fN (am 5) (tC (.int 1))) aH)) 2 [6] (aP 0) (dC (ac (aZ fN (am 2) (tC (.int 1))) aH)) (aP 1) (dq (ac (am 0) (ac (am 1) aH)))
theorem wT {σ : St} {H : Hp} {Q : VK} {m n : Nat} (s5 : σ[5]? = some (some (.int (m : Nat)))) (hc : br [6] σ = [some (.int (n : Nat))]) (WC : m <= 40) (WB : n <= 40) (q : ∀ D us H', H D = none -> Ext H H' -> H' D = some (.lst us) -> Paired (Pn H') us (fY m n) -> Q (.ref D) H') : ze σ H Q := by
 refine ⟨_, s5, _, _, rfl, rfl, _, rfl, ae, ae, λ D hD => ?_⟩;rw [hc];have em : (((m : Nat) : Int) + 1).toNat = m + 1 := ae;refine um (n := m + 1) (λ i ys H' => Ext H H' /\ H' D = some (.lst ys) /\ Paired (Pn H') ys (pO n i)) ⟨Ext.new hD, bh, .nil⟩ (λ i ys H' hi p => by show i < _; rw [em]; exact hi) (λ ys H' p => by show _ <= _; rw [em]; exact Å _) ?_ ?_
 ·rintro i x ys H' H3 hi ⟨rfl, rfl⟩ ⟨x', ĕ, pr⟩ os Ņ N kk
  match os, Ņ with
  | [p0, p1], _ =>
   refine ⟨⟨[_, _], rfl, rfl⟩, _, rfl, _, _, rfl, rfl, _, rfl, ae, ae, ?_⟩;have en : (((n : Nat) : Int) + 1).toNat = n + 1 := ae;refine ug (n2 := n + 1) (λ j ys σ H' => Ext H H' /\ H' D = some (.lst ys) /\ Paired (Pn H') ys ((pO n i) ++ (List.range j).map λ j => (i, j)) /\ ∃ o1, σ = [some (.int (i : Nat)), o1, some (.int (n : Nat))]) ⟨x', ĕ, by rw [List.range_zero, J9, ã]; exact pr, p1, by show [some (V.int (0 + (i : Int))), p1, _] = _; rw [Ě]⟩ (λ j ys σ H' hj p => ⟨by show j < _; rw [en]; exact hj, ?_⟩) (λ ys σ H' p => by show _ <= _; rw [en]; exact Å _) ?_ ?_
   ·have l1 := Ö p.2.2.1;rw [Ì, Æ, ě, gX] at l1;have l2 : i * (n + 1) <= 41 * 41 := ŝ ae ae;rw [l1, Þ];omega
   ·rintro j y ys σ H' H7 hj ⟨rfl, rfl⟩ ⟨x2, KP, Je, o1, rfl⟩ R k2;refine ⟨_, rfl, _, rfl, fk, λ t ht => ?_⟩;have x3 := Ext.new (o := .tup [.int (i : Nat), .int (0 + (j : Int))]) ht;have QS := x3 _ _ KP;have kl : eV _ _ := b9 (ys := ys ++ [.ref t]) QS;refine k2 _ _ _ QS ⟨aV _ (x2.trans x3) hD, bh, ?_, _, rfl⟩;rw [ý (n := j), Ó, <- ù];refine aN ⟨t, rfl, kl _ _ ?_⟩ (Paired.imp' (λ _ _ r => (r.kp x3.Ū).kp kl) Je);rw [bh, Ě]
   ·rintro ys σ H' ⟨x2, KP, Je, o1, rfl⟩;refine ⟨⟨[_, _], rfl, rfl⟩, kk _ _ ⟨x2, KP, ?_⟩⟩;rw [iG];exact Je
 ·rintro ys H' ⟨x', ĕ, pr⟩;exact q D ys H' hD x' ĕ pr
theorem AC {f : Addr} {fd : FuncData} (F : ŀ K "all_pairs" "all_pairs" BL f fd) (ml : mg "len" = none) (mr : mg "range" = none) : az P w K mg base au 1 f fd ["groups"] uG := by
 refine cE F LW λ ò A outer s H vs Q E hr h => ?_;obtain ⟨g, a, b, c, d, rfl, ln, la, lb, lc, ld, q⟩ := h;have nd := LW.nd;refine ⟨bB (aT (CK K) (kR K 4 (bq (aP 1) (bq (aP 2) (bq (aP 3) (bq (aP 4) ke)))))) (bB (aT (aZ fN (am 1) (am 4)) (aP 5)) (bB (aT (aZ fN (am 2) (am 3)) (aP 6)) (bY ze))),
  b6 (cM (eJ (te := gI (jT K) (ac (am 0) aH)) (g := aP 0) rfl mI (bD (pv 0)) (λ s H C fp => by exact bf (i := 0) xt rfl (.inl rfl)) (λ s H C fp => by exact ak aq rfl ml ä (ad (pv 0) ap)))
   (ie rfl (bT (bf (i := 1) nd rfl (Or.inl rfl)) (bT (bf (i := 2) nd rfl (Or.inl rfl)) (bT (bf (i := 3) nd rfl (Or.inl rfl)) (bT (bf (i := 4) nd rfl (Or.inl rfl)) aC))))))
  (b6 (cD (i := 5) nd rfl (Or.inl rfl) (aj aS (pv 1) (pv 4)))
  (b6 (cD (i := 6) nd rfl (Or.inr rfl) (aj aS (pv 2) (pv 3)))
  (bz (cp (ui (te := dq (ac (am 0) (ac (am 1) aH))) (g := aP 0) (g2 := aP 1) rfl yx (bc rfl mr (ad (aj aS (pv 5) ay) ap)) (λ s H C fp => by exact bf (i := 0) BJ rfl (.inl rfl)) (λ s H C fp => by exact bc rfl mr (ad (aj aS (pv 2) ay) ap)) (λ s H C fp => by exact bf (i := 1) BJ rfl (.inl rfl)) (λ s H C fp => by exact aO (ad (pv 0) (ad (pv 1) ap)))))))), ?_⟩
 refine j5 (sJ (K := K) rfl ln λ D H1 hD x1 h1 => ⟨D, _, rfl, ñ.of h1, rfl, _, _, rfl, _, _, rfl, _, _, rfl, _, _, rfl, rfl, ?_⟩);refine ⟨_, rfl, _, rfl, _, _, rfl, rfl, _, rfl, _, rfl, _, _, rfl, rfl, ?_⟩;refine wT (m := a + d) (n := b + c) (by show some (some (V.int (((a : Nat) : Int) + ((d : Nat) : Int)))) = _; rw [HZ]) (by show [some (V.int (((b : Nat) : Int) + ((c : Nat) : Int)))] = _; rw [HZ]) ae ae λ l us H2 hl x2 h2 pr => ?_
 exact q l us H2 (bj x1 hl) (x1.trans x2) h2 pr
end
abbrev F4 := Nat × Nat × Nat × Nat
def tN (c d p q i j : Nat) : Bool := decide (j <= q) && decide (q - j <= c) && (decide (i <= p) && decide (p - i <= d))
def fJ (c d p q i n : Nat) : List F4 := ((List.range n).filter λ j => tN c d p q i j).map λ j => (i, j, q - j, p - i)
theorem vi (c d p q i n : Nat) : fJ c d p q i (n + 1) = fJ c d p q i n ++ (if tN c d p q i n = true then [(i, n, q - n, p - i)] else []) := by
 unfold fJ;rw [ý, û, Ó]
 congr 1
 by_cases h : tN c d p q i n = true
 ·rw [Ô h]; simp [h]
 ·rw [É h]; simp [h]
theorem qG (c d p q i n : Nat) : (fJ c d p q i n).length <= n := by
 unfold fJ;rw [Æ];exact Ú (ļ _ _) (by rw [ě]; exact Å _)
def fI (b c d p q n : Nat) : List F4 := (List.range n).flatMap λ i => fJ c d p q i (b + 1)
theorem m7 (b c d p q n : Nat) : fI b c d p q (n + 1) = fI b c d p q n ++ fJ c d p q n (b + 1) := by
 unfold fI;rw [ý, Gk, List.flatMap_cons, List.flatMap_nil, ã]
theorem jr (b c d p q : Nat) : ∀ n, (fI b c d p q n).length <= n * (b + 1)
 | 0 => by simp [fI]
 | n + 1 => by
  rw [m7, Ì, J6];exact Nat.add_le_add (jr b c d p q n) (qG ..)
def bC (a b c d p q : Nat) : List F4 := fI b c d p q (a + 1)
theorem C' {a b c d p q : Nat} {f : F4} : f ∈ bC a b c d p q ↔ f.1 <= a /\ f.2.1 <= b /\ f.2.2.1 <= c /\ f.2.2.2 <= d /\ f.1 + f.2.2.2 = p /\ f.2.1 + f.2.2.1 = q := by
 unfold bC fI fJ;simp only [List.mem_flatMap, List.mem_range, List.mem_map, List.mem_filter, tN, Bool.and_eq_true, decide_eq_true_eq];constructor
 ·rintro ⟨i, hi, j, ⟨hj, ⟨h1, h2⟩, h3, h4⟩, rfl⟩;show i <= a /\ j <= b /\ q - j <= c /\ p - i <= d /\ i + (p - i) = p /\ j + (q - j) = q;omega
 ·rintro ⟨h1, h2, h3, h4, h5, h6⟩;obtain ⟨i, j, k, l⟩ := f;have h1 : i <= a := h1;have h2 : j <= b := h2;have h3 : k <= c := h3;have h4 : l <= d := h4;have h5 : i + l = p := h5;have h6 : j + k = q := h6;refine ⟨i, ae, j, ⟨ae, ⟨ae, ae⟩, ae, ae⟩, ?_⟩;rw [show q - j = k by omega, show p - i = l by omega]
abbrev E3 (f : F4) : List V := [.int (f.1 : Nat), .int (f.2.1 : Nat), .int (f.2.2.1 : Nat), .int (f.2.2.2 : Nat)]
def T4 (H : Hp) (v : V) (f : F4) : Prop := ∃ t, v = .ref t /\ H t = some (.tup (E3 f))
theorem T4.kp {H H' : Hp} {v : V} {f : F4} (h : T4 H v f) (k : eV H H') : T4 H' v f := by
 obtain ⟨t, e, h⟩ := h;exact ⟨t, e, k _ _ h⟩
theorem m9 (lo hi n : Int) : G4 lo hi (.int n) = (decide (lo <= n) && decide (n <= hi)) := by
 rw [(Ļ.int (G := λ _ => none) n).G4];rfl
section
variable {P : Program} {w : World} {K : Frag} {mg : bE} {base : Heap} {CL CD : Addr}
abbrev Cs : Stmt := cf 55
def wk : Sp := λ vs H Q _ => ∃ (g z : Addr) (a b c d p q : Nat), vs = [.ref g, .ref z] /\ Gw H g a b c d /\ a <= 20 /\ b <= 20 /\ H z = some (.tup [.int (p : Nat), .int (q : Nat)]) /\ ∀ l us H', H l = none -> Ext H H' -> H' l = some (.lst us) -> Paired (T4 H') us (bC a b c d p q) -> Q (.ref l) H'
abbrev FH : List Str := ["groups", "pair", "yes_one", "no_one", "yes_zero", "no_zero", "fours", "first", "second", "third", "fourth"]
theorem LX : af FH ["groups", "pair"] (aa Cs) := aQ
def wb (K : Frag) : TS := bB (aT (aZ gP (aZ (dE K) (am 1) (tC (.int 1))) (am 8)) (aP 9)) (bB (aT (aZ gP (aZ (dE K) (am 1) (tC (.int 0))) (am 7)) (aP 10))
 (kn (qm (tB (cC (b7 K) [] E0 (ac (am 9) (ac (tC (.int 0)) (ac (am 4) aH))))) (tB (cC (b7 K) [] E0 (ac (am 10) (ac (tC (.int 0)) (ac (am 5) aH)))))) (eB (vO K "list" dI (am 6) (ac (dq (ac (am 7) (ac (am 8) (ac (am 9) (ac (am 10) aH))))) aH))) gE))
def Ei (K : Frag) : TS := fT (dC (ac (aZ fN (am 3) (tC (.int 1))) aH)) (aP 8) (wb K)
def ED (K : Frag) : TS := fT (dC (ac (aZ fN (am 2) (tC (.int 1))) aH)) (aP 7) (Ei K)
theorem wF {De : bQ} {H0 H : Hp} {g z F : Addr} {a b c d p q i j : Nat} {us : List V} {fs : List F4} {o9 Ũ : Option V} (hz : H z = some (.tup [.int (p : Nat), .int (q : Nat)])) (k : Kept H0 H F) (hF : H F = some (.lst us)) (QR : H0 F = none) (pr : Paired (T4 H) us fs) (sm : us.length < 1000)
  (nx : ∀ H' Il o9 Ũ, Kept H0 H' F -> H' F = some (.lst Il) -> Paired (T4 H') Il (fs ++ (if tN c d p q i j = true then [(i, j, q - j, p - i)] else [])) -> De.nx [some (.ref g), some (.ref z), some (.int (a : Nat)), some (.int (b : Nat)), some (.int (c : Nat)), some (.int (d : Nat)), some (.ref F), some (.int (i : Nat)), some (.int (j : Nat)), o9, Ũ] H') :
  wb K De [some (.ref g), some (.ref z), some (.int (a : Nat)), some (.int (b : Nat)), some (.int (c : Nat)), some (.int (d : Nat)), some (.ref F), some (.int (i : Nat)), some (.int (j : Nat)), o9, Ũ] H := by
 refine ⟨_, rfl, z, _, _, _, rfl, rfl, ą.of hz, rfl, _, rfl, _, _, rfl, rfl, _, rfl, z, _, _, _, rfl, rfl, ą.of hz, rfl, _, rfl, _, _, rfl, rfl, ?_⟩;refine ⟨_, rfl, _, rfl, .int (((q : Nat) : Int) - ((j : Nat) : Int)), 0, _, rfl, (Ļ.int (G := H) _).th, _, rfl, ?_⟩;rw [m9];by_cases h1 : j <= q /\ q - j <= c
 ·rw [Ç (show (0 : Int) <= ((q : Nat) : Int) - ((j : Nat) : Int) by omega), Ç (show ((q : Nat) : Int) - ((j : Nat) : Int) <= ((c : Nat) : Int) by omega)]
  refine fO ⟨_, rfl, _, rfl, .int (((p : Nat) : Int) - ((i : Nat) : Int)), 0, _, rfl, (Ļ.int (G := H) _).th, _, rfl, ?_⟩;rw [m9];by_cases h2 : i <= p /\ p - i <= d
  ·rw [Ç (show (0 : Int) <= ((p : Nat) : Int) - ((i : Nat) : Int) by omega), Ç (show ((p : Nat) : Int) - ((i : Nat) : Int) <= ((d : Nat) : Int) by omega)]
   refine fO ⟨_, rfl, .inl ⟨rfl, _, ñ.of hF⟩, _, rfl, _, rfl, _, rfl, _, rfl, fk, λ t ht => ?_⟩;have x1 := Ext.new (o := .tup [.int (i : Nat), .int (j : Nat), .int (((q : Nat) : Int) - ((j : Nat) : Int)), .int (((p : Nat) : Int) - ((i : Nat) : Int))]) ht;have QQ := x1 _ _ hF;have kl : eV _ _ := b9 (ys := us ++ [.ref t]) QQ;refine ⟨F, us, .ref t, rfl, rfl, QQ, by rw [Þ]; omega, nx _ (us ++ [.ref t]) _ _ (λ b o e n => ?_) bh ?_⟩
   ·rw [ah n];exact x1 _ _ (k _ _ e n)
   ·have ok : tN c d p q i j = true := by
     unfold tN;rw [Ç h1.1, Ç h1.2, Ç h2.1, Ç h2.2];rfl
    rw [Ô ok];refine aN ⟨t, rfl, kl _ _ ?_⟩ (Paired.imp' (λ _ _ r => (r.kp x1.Ū).kp kl) pr);rw [bh];show some (HO.tup [_, _, V.int _, V.int _]) = some (HO.tup [_, _, V.int ((q - j : Nat) : Int), V.int ((p - i : Nat) : Int)]);rw [show ((q : Nat) : Int) - ((j : Nat) : Int) = ((q - j : Nat) : Int) by omega, show ((p : Nat) : Int) - ((i : Nat) : Int) = ((p - i : Nat) : Int) by omega]
  ·have e : (decide ((0 : Int) <= ((p : Nat) : Int) - ((i : Nat) : Int)) && decide (((p : Nat) : Int) - ((i : Nat) : Int) <= ((d : Nat) : Int))) = false := by
    rw [Ť, Ą, Ą];omega
   rw [e];refine c6 (nx H us _ _ k hF ?_);rw [É (λ z => by
    unfold tN at z;simp only [Bool.and_eq_true, decide_eq_true_eq] at z;omega), ã]
   exact pr
 ·have e : (decide ((0 : Int) <= ((q : Nat) : Int) - ((j : Nat) : Int)) && decide (((q : Nat) : Int) - ((j : Nat) : Int) <= ((c : Nat) : Int))) = false := by
   rw [Ť, Ą, Ą];omega
  rw [e];refine c6 (c6 (nx H us _ _ k hF ?_));rw [É (λ z => by
   unfold tN at z;simp only [Bool.and_eq_true, decide_eq_true_eq] at z;omega), ã]
  exact pr
theorem Cb {f a1 : Addr} {fd d1 : FuncData} (F : ŀ K "all_fours" "all_fours" Cs f fd) (A1 : Df P w K mg base au 2 "is_whole" ["thing", "low", "high"] (b7 K) a1 d1) (ml : mg "len" = none) (mr : mg "range" = none) : az P w K mg base au 3 f fd ["groups", "pair"] wk := by
 refine cE F LX λ ò A outer s H vs Q E hr h => ?_;obtain ⟨g, z, a, b, c, d, p, q, rfl, ln, la, lb, hz, qq⟩ := h;have nd := LX.nd;refine ⟨bB (aT (CK K) (kR K 4 (bq (aP 2) (bq (aP 3) (bq (aP 4) (bq (aP 5) ke)))))) (bB (aT (fe aH) (aP 6)) (bB (ED K) (bY (am 6)))),
  b6 (cM (eJ (te := gI (jT K) (ac (am 0) aH)) (g := aP 0) rfl mI (bD (pv 0)) (λ s H C fp => by exact bf (i := 0) xt rfl (.inl rfl)) (λ s H C fp => by exact ak aq rfl ml ä (ad (pv 0) ap)))
   (ie rfl (bT (bf (i := 2) nd rfl (Or.inl rfl)) (bT (bf (i := 3) nd rfl (Or.inl rfl)) (bT (bf (i := 4) nd rfl (Or.inl rfl)) (bT (bf (i := 5) nd rfl (Or.inl rfl)) aC))))))
  (b6 (cD (i := 6) nd rfl (Or.inl rfl) (cK ap))
  (b6 (bO å rfl (bc rfl mr (ad (aj aS (pv 2) ay) ap)) (bf (i := 7) nd rfl (Or.inl rfl))
   (bz (bO å rfl (bc rfl mr (ad (aj aS (pv 3) ay) ap)) (bf (i := 8) nd rfl (Or.inl rfl))
    (b6 (cD (i := 9) nd rfl (Or.inl rfl) (aj bp (cq dG (pv 1) ay) (pv 8)))
    (b6 (cD (i := 10) nd rfl (Or.inl rfl) (aj bp (cq dG (pv 1) ay) (pv 7)))
    (bz (bA (PW.pt (mw (aX (bH A1 hr ai (ad (pv 9) (ad ay (ad (pv 4) ap))))) (jE (aX (bH A1 hr ai (ad (pv 10) (ad ay (ad (pv 5) ap)))))))) (bz (bu (eD ì ĩ Ĩ bo (pv 6) (ad (aO (ad (pv 7) (ad (pv 8) (ad (pv 9) (ad (pv 10) ap))))) ap)))) gN)))))))
  (bz (cp (pv 6))))), ?_⟩
 refine j5 (sJ (K := K) rfl ln λ D H1 hD x1 h1 => ⟨D, _, rfl, ñ.of h1, rfl, _, _, rfl, _, _, rfl, _, _, rfl, _, _, rfl, rfl, ?_⟩);refine ⟨fk, λ F hF => ?_⟩;have x2 := Ext.new (o := .lst []) hF;have KA := x1 _ _ hz;have nz : z ≠ F := λ e => by rw [<- e, KA] at hF; cases hF
 refine ⟨_, rfl, _, _, rfl, rfl, _, rfl, ae, ae, ?_⟩;have ea : (((a : Nat) : Int) + 1).toNat = a + 1 := ae;have eb : (((b : Nat) : Int) + 1).toNat = b + 1 := ae;show ∃ W, _;rw [ea];refine cV (lo := 0) (n := a + 1) (λ i σ H' => Kept H1 H' F /\ (∃ us, H' F = some (.lst us) /\ Paired (T4 H') us (fI b c d p q i)) /\ ∃ o7 o8 o9 Ũ, σ = [some (.ref g), some (.ref z), some (.int (a : Nat)), some (.int (b : Nat)), some (.int (c : Nat)), some (.int (d : Nat)), some (.ref F), o7, o8, o9, Ũ]) ⟨x2.kept F, ⟨[], bh, .nil⟩, _, _, _, _, rfl⟩ ?_ ?_
 ·rintro i σ H' hi ⟨k, ⟨us, KD, pr⟩, o7, o8, o9, Ũ, rfl⟩;refine ⟨_, rfl, _, _, rfl, rfl, _, rfl, ae, ae, ?_⟩;show ∃ W, _;rw [eb];refine cV (lo := 0) (n := b + 1) (λ j σ H' => Kept H1 H' F /\ (∃ us, H' F = some (.lst us) /\ Paired (T4 H') us (fI b c d p q i ++ fJ c d p q i j)) /\ ∃ o8 o9 Ũ, σ = [some (.ref g), some (.ref z), some (.int (a : Nat)), some (.int (b : Nat)), some (.int (c : Nat)), some (.int (d : Nat)), some (.ref F), some (.int (i : Nat)), o8, o9, Ũ]) ⟨k, ⟨us, KD, by show Paired _ _ (_ ++ fJ c d p q i 0); rw [show fJ c d p q i 0 = [] from rfl, ã]; exact pr⟩, _, _, _, by show [_, _, _, _, _, _, _, some (V.int (0 + (i : Int))), _, _, _] = _; rw [Ě]⟩ ?_ ?_
  ·rintro j σ H2 hj ⟨k2, ⟨Nv, KC, Je⟩, o8, o9, Ũ, rfl⟩;have l2 : Nv.length < 1000 := by
    have e1 := Ö Je;rw [Ì] at e1;have e2 := jr b c d p q i;have e3 := qG c d p q i j;have e4 : i * (b + 1) <= 20 * 21 := ŝ ae ae;omega
   show wb K _ [some (.ref g), some (.ref z), some (.int (a : Nat)), some (.int (b : Nat)), some (.int (c : Nat)), some (.int (d : Nat)), some (.ref F), some (.int (i : Nat)), some (.int (0 + (j : Int))), o9, Ũ] H2;rw [Ě];refine wF (k2 _ _ KA nz) k2 KC hF Je l2 λ H3 Ss o9 Ũ k3 h3 SR => ⟨k3, ⟨Ss, h3, ?_⟩, _, _, _, rfl⟩;rw [vi, <- ù];exact SR
  ·rintro σ H2 ⟨k2, ⟨Nv, KC, Je⟩, o8, o9, Ũ, rfl⟩;refine ⟨k2, ⟨Nv, KC, ?_⟩, _, _, _, _, rfl⟩;rw [m7];exact Je
 ·rintro σ H' ⟨k, ⟨us, KD, pr⟩, o7, o8, o9, Ũ, rfl⟩;refine ⟨_, rfl, qq F us H' (bj x1 hF) (λ b' o e => ?_) KD pr⟩;have e1 := x1 _ _ e;exact k _ _ e1 (λ z' => by rw [z', hF] at e1; cases e1)
end
def Av (O : Int) (a b c d : Nat) (g : Int -> Nat) : Nat := dS (λ q => g (v4 O ((a + b + c + d : Nat) : Int) (b : Nat) (c : Nat) q)) (cB O a b c d (a + 1))
theorem rZ {L : List (Int × Int)} (bt : bL L) (O : Int) (g : Int -> Nat) : cO L O g = Av O (L.count (1, 0)) (L.count (0, 1)) (L.count (1, 1)) (L.count (0, 0)) g := by
 unfold cO Av;rw [jF bt, <- da bt]
theorem uP {O : Int} {a b c d : Nat} (h0 : 0 <= O) (h1 : O <= (a + b + c + d : Nat)) : 1 <= Av O a b c d (λ _ => 1) /\ Av O a b c d (λ _ => 1) <= 2 ^ (a + b + c + d) := ny h0 h1
def fS (a b c d : Nat) (f : F4) (g : Int -> Nat) : Nat := Av ((a + b : Nat) : Int) (f.1 + f.2.2.2) (f.2.1 + f.2.2.1) (a - f.1 + (c - f.2.2.1)) (b - f.2.1 + (d - f.2.2.2)) g
def lU (a b c d : Nat) : Int := ((c : Nat) + (d : Nat) : Int) * (a : Nat) - ((a : Nat) + (b : Nat) : Int) * (c : Nat)
def cI (t m a b c d : Nat) (f : F4) : Bool := gu t m (fS a b c d f (jn (lU a b c d))) (fS a b c d f (jz (lU a b c d))) (fS a b c d f λ _ => 1)
def CF (a b c d : Nat) (f : F4) : Prop := f.1 <= a /\ f.2.1 <= b /\ f.2.2.1 <= c /\ f.2.2.2 <= d
theorem gm {a b c d p q : Nat} {f : F4} (h : f ∈ bC a b c d p q) : CF a b c d f := by
 obtain ⟨h1, h2, h3, h4, _⟩ := C'.mp h;exact ⟨h1, h2, h3, h4⟩
theorem rO {a b c d : Nat} {f : F4} (l : CF a b c d f) : 1 <= fS a b c d f λ _ => 1 := by
 obtain ⟨h1, h2, h3, h4⟩ := l;exact (uP ae ae).1
section
variable {P : Program} {w : World} {K : Frag} {mg : bE} {base : Heap} {CL CD : Addr}
abbrev CB : Stmt := cf 56
def xF : Sp := λ vs H Q _ => ∃ (g : Addr) (v : V) (a b c d : Nat) (f : F4), vs = [.ref g, v] /\ Gw H g a b c d /\ a + b + c + d <= 20 /\ T4 H v f /\ CF a b c d f /\ ∀ r H', H r = none -> Ext H H' -> ud H' r (fS a b c d f (jn (lU a b c d))) (fS a b c d f (jz (lU a b c d))) (fS a b c d f λ _ => 1) -> Q (.ref r) H'
abbrev FM : List Str := ["groups", "four", "yes_one", "no_one", "yes_zero", "no_zero", "always", "never", "ones", "seen"]
theorem LS : af FM ["groups", "four"] (aa CB) := aQ
def FQ (K : Frag) : TS := bB (aT (CK K) (kR K 4 (bq (aP 2) (bq (aP 3) (bq (aP 4) (bq (aP 5) ke)))))) (bB (aT (aZ gP (aZ fN (aZ gP (am 2) (aZ (dE K) (am 1) (tC (.int 0)))) (am 4)) (aZ (dE K) (am 1) (tC (.int 2)))) (aP 6))
 (bB (aT (aZ gP (aZ fN (aZ gP (am 3) (aZ (dE K) (am 1) (tC (.int 1)))) (am 5)) (aZ (dE K) (am 1) (tC (.int 3)))) (aP 7)) (bB (aT (aZ fN (am 2) (am 3)) (aP 8)) (bB (aT (aZ gP (aZ rh (aZ fN (am 4) (am 5)) (am 2)) (aZ rh (am 8) (am 4))) (aP 9))
 (bY (cC (qw K) [] E0 (ac (am 8) (ac (dq (ac (aZ fN (aZ (dE K) (am 1) (tC (.int 0))) (aZ (dE K) (am 1) (tC (.int 3)))) (ac (aZ fN (aZ (dE K) (am 1) (tC (.int 1))) (aZ (dE K) (am 1) (tC (.int 2)))) (ac (am 6) (ac (am 7) aH))))) (ac (am 9) aH)))))))))
theorem BQ {f a1 : Addr} {fd d1 : FuncData} (F : ŀ K "four_shares" "four_shares" CB f fd) (A1 : Df P w K mg base au 5 "both_shares" ["ones", "counts", "seen"] (qw K) a1 d1) (ml : mg "len" = none) : az P w K mg base au 6 f fd ["groups", "four"] xF := by
 refine cE F LS λ ò A outer s H vs Q E hr h => ?_;obtain ⟨g, v, a, b, c, d, fr, rfl, ln, ś, ⟨t, rfl, ht⟩, lf, qq⟩ := h;have nd := LS.nd;refine cr (t := FQ K) (cH ⟨cM (eJ (te := gI (jT K) (ac (am 0) aH)) (g := aP 0) rfl mI (bD (pv 0)) (λ s H C fp => by exact bf (i := 0) xt rfl (.inl rfl)) (λ s H C fp => by exact ak aq rfl ml ä (ad (pv 0) ap)))
   (ie rfl (bT (bf (i := 2) nd rfl (Or.inl rfl)) (bT (bf (i := 3) nd rfl (Or.inl rfl)) (bT (bf (i := 4) nd rfl (Or.inl rfl)) (bT (bf (i := 5) nd rfl (Or.inl rfl)) aC)))))⟩
  (cH ⟨cD (i := 6) nd rfl (Or.inl rfl) (aj bp (aj aS (aj bp (pv 2) (cq dG (pv 1) ay)) (pv 4)) (cq dG (pv 1) ay))⟩
  (cH ⟨cD (i := 7) nd rfl (Or.inl rfl) (aj bp (aj aS (aj bp (pv 3) (cq dG (pv 1) ay)) (pv 5)) (cq dG (pv 1) ay))⟩
  (cH ⟨cD (i := 8) nd rfl (Or.inl rfl) (aj aS (pv 2) (pv 3))⟩
  (cH ⟨cD (i := 9) nd rfl (Or.inl rfl) (aj bp (aj bn (aj aS (pv 4) (pv 5)) (pv 2)) (aj bn (pv 8) (pv 4)))⟩
  (aR ⟨cp (bH A1 hr ai (ad (pv 8) (ad (aO (ad (aj aS (cq dG (pv 1) ay) (cq dG (pv 1) ay)) (ad (aj aS (cq dG (pv 1) ay) (cq dG (pv 1) ay)) (ad (pv 6) (ad (pv 7) ap))))) (ad (pv 9) ap))))⟩)))))) ⟨?_⟩
 refine j5 (sJ (K := K) rfl ln λ D H1 hD x1 h1 => ⟨D, _, rfl, ñ.of h1, rfl, _, _, rfl, _, _, rfl, _, _, rfl, _, _, rfl, rfl, ?_⟩);obtain ⟨f0, f1, f2, f3⟩ := fr;obtain ⟨l1, l2, l3, l4⟩ := lf;have l1 : f0 <= a := l1;have l2 : f1 <= b := l2;have l3 : f2 <= c := l3;have l4 : f3 <= d := l4;have Jg := ą.of (K := K) (x1 _ _ ht);refine ⟨_, rfl, _, rfl, t, _, _, _, rfl, rfl, Jg, rfl, _, _, rfl, rfl, _, rfl, _, _, rfl, rfl, _, rfl, t, _, _, _, rfl, rfl, Jg, rfl, _, _, rfl, rfl, ?_⟩;refine ⟨_, rfl, _, rfl, t, _, _, _, rfl, rfl, Jg, rfl, _, _, rfl, rfl, _, rfl, _, _, rfl, rfl, _, rfl, t, _, _, _, rfl, rfl, Jg, rfl, _, _, rfl, rfl, ?_⟩;refine ⟨_, rfl, _, rfl, _, _, rfl, rfl, ?_⟩;refine ⟨_, rfl, _, rfl, _, _, rfl, rfl, _, rfl, _, _, rfl, rfl, .inr ⟨ae, ae⟩, _, rfl, _, rfl, _, _, rfl, rfl, .inr ⟨ae, ae⟩, _, _, rfl, rfl, ?_⟩;refine ⟨_, rfl, _, rfl, t, _, _, _, rfl, rfl, Jg, rfl, _, rfl, t, _, _, _, rfl, rfl, Jg, rfl, _, _, rfl, rfl, _, rfl, t, _, _, _, rfl, rfl, Jg, rfl, _, rfl, t, _, _, _, rfl, rfl, Jg, rfl, _, _, rfl, rfl, _, rfl, _, rfl, fk, λ u hu => ⟨_, rfl, ?_⟩⟩;have x2 := Ext.new (o := .tup [.int (((f0 : Nat) : Int) + ((f3 : Nat) : Int)), .int (((f1 : Nat) : Int) + ((f2 : Nat) : Int)), .int (((a : Nat) : Int) - ((f0 : Nat) : Int) + ((c : Nat) : Int) - ((f2 : Nat) : Int)), .int (((b : Nat) : Int) - ((f1 : Nat) : Int) + ((d : Nat) : Int) - ((f3 : Nat) : Int))]) hu;refine ⟨((a + b : Nat) : Int), lU a b c d, u, f0 + f3, f1 + f2, a - f0 + (c - f2), b - f1 + (d - f3), ?_, ?_, ae, ae, ae, λ r H3 ps IP x3 ws tw => ?_⟩
 ·show [V.int (((a : Nat) : Int) + ((b : Nat) : Int)), V.ref u, V.int _] ++ [] = _;rw [HZ];rfl
 ·refine ą.of ?_;show ao _ u (.tup [.int (((f0 : Nat) : Int) + ((f3 : Nat) : Int)), .int (((f1 : Nat) : Int) + ((f2 : Nat) : Int)), .int (((a : Nat) : Int) - ((f0 : Nat) : Int) + ((c : Nat) : Int) - ((f2 : Nat) : Int)), .int (((b : Nat) : Int) - ((f1 : Nat) : Int) + ((d : Nat) : Int) - ((f3 : Nat) : Int))]) u = _;rw [bh, show ((f0 : Nat) : Int) + ((f3 : Nat) : Int) = ((f0 + f3 : Nat) : Int) by omega, show ((f1 : Nat) : Int) + ((f2 : Nat) : Int) = ((f1 + f2 : Nat) : Int) by omega, show ((a : Nat) : Int) - ((f0 : Nat) : Int) + ((c : Nat) : Int) - ((f2 : Nat) : Int) = ((a - f0 + (c - f2) : Nat) : Int) by omega, show ((b : Nat) : Int) - ((f1 : Nat) : Int) + ((d : Nat) : Int) - ((f3 : Nat) : Int) = ((b - f1 + (d - f3) : Nat) : Int) by omega]
 ·rw [ws.2, ws.2, ws.2] at tw;have Η := bj x2 IP;exact qq r H3 (bj x1 Η) (x1.trans (x2.trans x3)) tw
abbrev CU : Stmt := cf 57
def DQ (H : Hp) (v : V) (t m a b c d p q : Nat) : Prop := (v = .ĉ /\ ∀ f ∈ bC a b c d p q, cI t m a b c d f = false) \/ ∃ f, f ∈ bC a b c d p q /\ cI t m a b c d f = true /\ T4 H v f
def w4 : Sp := λ vs H Q _ => ∃ (g z : Addr) (lv : V) (a b c d p q t m : Nat), vs = [.ref g, .ref z, lv] /\ Gw H g a b c d /\ a + b + c + d <= 20 /\ H z = some (.tup [.int (p : Nat), .int (q : Nat)]) /\ Hf H lv t m /\ ∀ v H', Ext H H' -> DQ H' v t m a b c d p q -> Q v H'
abbrev FF : List Str := ["groups", "pair", "level", "four"]
theorem LO : af FF ["groups", "pair", "level"] (aa CU) := aQ
theorem A8 {f a1 a2 a3 : Addr} {fd d1 d2 d3 : FuncData} (F : ŀ K "kept_four" "kept_four" CU f fd) (A1 : Df P w K mg base au 3 "all_fours" ["groups", "pair"] wk a1 d1) (A2 : Df P w K mg base au 6 "four_shares" ["groups", "four"] xF a2 d2) (A3 : Df P w K mg base au 2 "is_kept" ["shares", "level"] B3 a3 d3) : az P w K mg base au 7 f fd ["groups", "pair", "level"] w4 := by
 refine cE F LO λ ò A outer s H vs Q E hr h => ?_;obtain ⟨g, z, lv, a, b, c, d, p, q, t, m, rfl, ln, ś, hz, p_, qq⟩ := h;have nd := LO.nd;have IP : ċ 3 _ := hr.mono ag;have Hy : ċ 2 _ := hr.mono ag;refine ⟨_, b6 (bO å rfl (bD (bH A1 IP ai (ad (pv 0) (ad (pv 1) ap)))) (bf (i := 3) nd rfl (Or.inl rfl))
   (bz (bA (aX (bH A3 Hy ai (ad (bH A2 hr ai (ad (pv 0) (ad (pv 3) ap))) (ad (pv 2) ap)))) (bz (cp (pv 3))) gN)))
  (bz (cp dz)), ?_⟩
 refine ⟨_, rfl, _, rfl, g, z, a, b, c, d, p, q, rfl, ln, ae, ae, hz, λ l us H1 hl x1 h1 pr => ⟨l, rfl, ⟨_, ñ.of h1⟩, ?_⟩⟩;have lu : us.length = (bC a b c d p q).length := Ö pr;refine fD (xs := us) (λ i σ H' => Ext H1 H' /\ (∀ f ∈ (bC a b c d p q).take i, cI t m a b c d f = false) /\ ∃ o3, σ = [some (.ref g), some (.ref z), some lv, o3]) ⟨Ext.refl _, (λ f h => nomatch h), _, rfl⟩ (λ i σ H' _ pv => ñ.of (pv.1 _ _ h1)) ?_ ?_
 ·rintro i v σ H' ev ⟨x', nk, o3, rfl⟩;obtain ⟨fr, ef, tf⟩ := ð pr ev;have X := x1.trans x';have mf := á ef;have lf := gm mf;refine ⟨_, rfl, _, rfl, g, v, a, b, c, d, fr, rfl, ln.ext X, ś, tf.kp x'.Ū, lf, λ r H2 Hy x2 tw => ?_⟩;refine ⟨_, rfl, r, lv, t, m, _, _, _, rfl, tw, rO lf, p_.kp (X.trans x2).Ū, _, rfl, ?_⟩;cases e : cI t m a b c d fr with
  | true =>
   have e' : gu t m (fS a b c d fr (jn (lU a b c d))) (fS a b c d fr (jz (lU a b c d))) (fS a b c d fr λ _ => 1) = true := e;rw [e'];exact fO ⟨_, rfl, qq v H2 (X.trans x2) (.inr ⟨fr, mf, e, tf.kp (x'.trans x2).Ū⟩)⟩
  | false =>
   have e' : gu t m (fS a b c d fr (jn (lU a b c d))) (fS a b c d fr (jz (lU a b c d))) (fS a b c d fr λ _ => 1) = false := e;rw [e'];refine c6 ⟨x'.trans x2, λ f hf => ?_, _, rfl⟩;rw [aw ef] at hf;rcases ŗ.mp hf with hf | hf
   ·exact nk f hf
   ·cases ê.mp hf;exact e
 ·rintro σ H' ⟨x', nk, o3, rfl⟩;rw [lu, ö] at nk;exact qq .ĉ H' (x1.trans x') (.inl ⟨rfl, nk⟩)
end
end My
namespace My
open PySem PySem.W L2
open PyProof.Rows (Call_)
open AutoSeq1 (wpAny_loadPart')
theorem nA {n a b : Nat} (h : a ≠ b) : n + a ≠ n + b := ae
theorem nL {l n : Nat} (h : l < n) (a : Nat) : l ≠ n + a := ae
theorem nO {c n : Nat} (h : c < n \/ n + 6 < c) {a : Nat} (ha : a <= 6) : c ≠ n + a := ae
abbrev ky (h : Heap) (T : Addr) (a b c d : Value) : Prop := h.get? T = some { cls := .type "tuple", data := .seq #[a, b, c, d] }
abbrev jo (h h' : Heap) (n : Nat) : Prop := ∀ c o, (c < n \/ n + 6 < c) -> h.get? c = some o -> h'.get? c = some o
section
variable {prog : Program} {w : World} {A : Around} {E : bM} {s : Shared}
theorem uf {T : Addr} {a b c d x : Value} {k : Nat} {Q : Unit -> Shared -> Prop} (hT : ky s.heap T a b c d)
  (h : ∀ h', h'.get? T = some { cls := .type "tuple", data := .seq ((#[a, b, c, d] : Array Value).setIfInBounds k x) } -> Heap.SameBut T s.heap h' -> Q () { s with heap := h' }) :
  wpAny (model prog w) A (updateSeq T (·.setIfInBounds k x)) Q E s := by
 refine wpAny_updateSeq hT rfl (h _ ?_ (Ρ ..));rw [í _ hT rfl];simp [Obj.mapSeq]
structure ZQ (h : Heap) (n : Nat) (l1 l2 l3 l4 : Addr) (k : Nat) : Prop where
 zo : ∃ f0 b, iN h (n + 6) (n + 4) (n + 5) f0 (.bool b) /\ EW f0
 ti : ky h (n + 4) (.ref (n + 0)) (.ref (n + 1)) (.ref (n + 2)) (.ref (n + 3))
 to : ∃ a b c d, ky h (n + 5) a b c d
 j1 : h.IsListIter (n + 0) l1 k
 j2 : h.IsTupleIter (n + 1) l2 k
 j3 : h.IsTupleIter (n + 2) l3 k
 j4 : h.IsTupleIter (n + 3) l4 k
structure ZS (n : Nat) (l1 l2 l3 l4 : Addr) : Prop where
 h1 : l1 < n
 h2 : l2 < n
 h3 : l3 < n
 h4 : l4 < n
theorem yk {n : Nat} {l1 l2 l3 l4 : Addr} {k : Nat} {a1 a2 a3 a4 : Array Value} {x1 x2 x3 x4 : Value} {Q : bM} (S : ZS n l1 l2 l3 l4) (hz : ZQ s.heap n l1 l2 l3 l4 k) (g1 : s.heap.IsList l1 a1) (g2 : s.heap.IsTuple l2 a2) (g3 : s.heap.IsTuple l3 a3) (g4 : s.heap.IsTuple l4 a4) (e1 : a1[k]? = some x1) (e2 : a2[k]? = some x2) (e3 : a3[k]? = some x3) (e4 : a4[k]? = some x4)
  (hQ : ∀ h', ZQ h' n l1 l2 l3 l4 (k + 1) -> ky h' s.heap.objs.size x1 x2 x3 x4 -> h'.objs.size = s.heap.objs.size + 1 -> jo s.heap h' n -> Q (.ref s.heap.objs.size) { s with heap := h' }) :
  wpAny (model prog w) A (Builtin.«zip.__next__» ⟨[.ref (n + 6)], []⟩) (λ fin s' => ∃ v, fin = .done (.ret v) /\ Q v s') E s := by
 obtain ⟨L1, L2, L3, L4⟩ := S;obtain ⟨⟨f0, b, zo, ow⟩, ti, ⟨t1, t2, t3, t4, to⟩, j1, j2, j3, j4⟩ := hz;show wpAny _ _ (field (.ref (n + 6)) 2 >>= _) _ _ _; refine À (ó zo rfl (x := .bool false) rfl ?_);show wpAny _ _ (field (.ref (n + 6)) 3 >>= _) _ _ _; refine À (ó zo rfl (x := .ref (n + 4)) rfl (À (ķ ti rfl ?_)));show wpAny _ _ (Builtin.SmallTypes.ownedTupleIsFree (.ref (n + 6)) >>= _) _ _ _;refine À (om zo ow ?_ λ h1 Jd s1 => ?_)
 ·simp only [if_true];refine À (F8 (À (ó zo rfl (x := .ref (n + 5)) rfl (À (ô zo (by simp) λ h1 Jd s1 => ?_)))))
  have Jd : iN h1 (n + 6) (n + 4) (n + 5) .ellipsis (.bool b) := Jd;refine À ?_;simp only [List.zipIdx_cons, List.zipIdx_nil, List.forIn_cons, List.forIn_nil];refine À (À (i_ ?_));show wpAny _ _ (Builtin.SmallTypes.nextOf (.ref (n + 0)) >>= _) _ _ _;refine À (wpAny_nextOf_list_item (j1.extBut s1.extBut (nA ag)) (g1.extBut s1.extBut (nL L1 _)) e1 λ h2 jb1 s2 => Â ?_);have s2 : Heap.SameBut (n + 0) h1 h2 := s2;have to2 : ky h2 (n + 5) t1 t2 t3 t4 := (s2.extBut _ _ (nA ag) (s1.extBut _ _ (nA ag) to));refine À (ķ to2 rfl (À (uf to2 λ h3 to3 s3 => À (GR (Â ?_)))));have s3 : Heap.SameBut (n + 5) h2 h3 := s3;have to3 : ky h3 (n + 5) x1 t2 t3 t4 := to3;refine À (À (i_ ?_));show wpAny _ _ (Builtin.SmallTypes.nextOf (.ref (n + 1)) >>= _) _ _ _;refine À (dH (((j2.extBut s1.extBut (nA ag)).extBut s2.extBut (nA ag)).extBut s3.extBut (nA ag)) (((g2.extBut s1.extBut (nL L2 _)).extBut s2.extBut (nL L2 _)).extBut s3.extBut (nL L2 _)) e2 λ h4 jb2 s4 => Â ?_);have s4 : Heap.SameBut (n + 1) h3 h4 := s4;have P5 : ky h4 (n + 5) x1 t2 t3 t4 := (s4.extBut _ _ (nA ag) to3);refine À (ķ P5 rfl (À (uf P5 λ h5 Ny s5 => À (GR (Â ?_)))));have s5 : Heap.SameBut (n + 5) h4 h5 := s5;have Ny : ky h5 (n + 5) x1 x2 t3 t4 := Ny;refine À (À (i_ ?_));show wpAny _ _ (Builtin.SmallTypes.nextOf (.ref (n + 2)) >>= _) _ _ _;refine À (dH (((((j3.extBut s1.extBut (nA ag)).extBut s2.extBut (nA ag)).extBut s3.extBut (nA ag)).extBut s4.extBut (nA ag)).extBut s5.extBut (nA ag)) (((((g3.extBut s1.extBut (nL L3 _)).extBut s2.extBut (nL L3 _)).extBut s3.extBut (nL L3 _)).extBut s4.extBut (nL L3 _)).extBut s5.extBut (nL L3 _)) e3 λ h6 jb3 s6 => Â ?_);have s6 : Heap.SameBut (n + 2) h5 h6 := s6;have P4 : ky h6 (n + 5) x1 x2 t3 t4 := (s6.extBut _ _ (nA ag) Ny);refine À (ķ P4 rfl (À (uf P4 λ h7 Nx s7 => À (GR (Â ?_)))));have s7 : Heap.SameBut (n + 5) h6 h7 := s7;have Nx : ky h7 (n + 5) x1 x2 x3 t4 := Nx;refine À (À (i_ ?_));show wpAny _ _ (Builtin.SmallTypes.nextOf (.ref (n + 3)) >>= _) _ _ _;refine À (dH (((((((j4.extBut s1.extBut (nA ag)).extBut s2.extBut (nA ag)).extBut s3.extBut (nA ag)).extBut s4.extBut (nA ag)).extBut s5.extBut (nA ag)).extBut s6.extBut (nA ag)).extBut s7.extBut (nA ag)) (((((((g4.extBut s1.extBut (nL L4 _)).extBut s2.extBut (nL L4 _)).extBut s3.extBut (nL L4 _)).extBut s4.extBut (nL L4 _)).extBut s5.extBut (nL L4 _)).extBut s6.extBut (nL L4 _)).extBut s7.extBut (nL L4 _)) e4 λ h8 jb4 s8 => Â ?_);have s8 : Heap.SameBut (n + 3) h7 h8 := s8;have P3 : ky h8 (n + 5) x1 x2 x3 t4 := (s8.extBut _ _ (nA ag) Nx);refine À (ķ P3 rfl (À (uf P3 λ h9 MN s9 => À (GR (Â (Â ?_))))));have s9 : Heap.SameBut (n + 5) h8 h9 := s9;have MN : ky h9 (n + 5) x1 x2 x3 x4 := MN;have sz : h9.objs.size = s.heap.objs.size := by rw [s9.1, s8.1, s7.1, s6.1, s5.1, s4.1, s3.1, s2.1, s1.1]
  have up : jo s.heap h9 n := λ c o hc e => s9.extBut _ _ (nO hc ag) (s8.extBut _ _ (nO hc ag) (s7.extBut _ _ (nO hc ag) (s6.extBut _ _ (nO hc ag) (s5.extBut _ _ (nO hc ag) (s4.extBut _ _ (nO hc ag) (s3.extBut _ _ (nO hc ag) (s2.extBut _ _ (nO hc ag) (s1.extBut _ _ (nO hc ag) e))))))));have MM : iN h9 (n + 6) (n + 4) (n + 5) .ellipsis (.bool b) := (s9.extBut _ _ (nA ag) (s8.extBut _ _ (nA ag) (s7.extBut _ _ (nA ag) (s6.extBut _ _ (nA ag) (s5.extBut _ _ (nA ag) (s4.extBut _ _ (nA ag) (s3.extBut _ _ (nA ag) (s2.extBut _ _ (nA ag) Jd))))))));have Nz : ky h9 (n + 4) (.ref (n + 0)) (.ref (n + 1)) (.ref (n + 2)) (.ref (n + 3)) := (s9.extBut _ _ (nA ag) (s8.extBut _ _ (nA ag) (s7.extBut _ _ (nA ag) (s6.extBut _ _ (nA ag) (s5.extBut _ _ (nA ag) (s4.extBut _ _ (nA ag) (s3.extBut _ _ (nA ag) (s2.extBut _ _ (nA ag) (s1.extBut _ _ (nA ag) ti)))))))));have Oo := (((((((jb1.extBut s3.extBut (nA ag)).extBut s4.extBut (nA ag)).extBut s5.extBut (nA ag)).extBut s6.extBut (nA ag)).extBut s7.extBut (nA ag)).extBut s8.extBut (nA ag)).extBut s9.extBut (nA ag));have On := (((((jb2.extBut s5.extBut (nA ag)).extBut s6.extBut (nA ag)).extBut s7.extBut (nA ag)).extBut s8.extBut (nA ag)).extBut s9.extBut (nA ag));have Om := (((jb3.extBut s7.extBut (nA ag)).extBut s8.extBut (nA ag)).extBut s9.extBut (nA ag));have Ol := (jb4.extBut s9.extBut (nA ag));refine À (ķ MN rfl (À (wpAny_newTuple ?_)));show wpAny _ _ (Builtin.SmallTypes.ownedTupleHandOut (.ref (n + 6)) (.ref h9.objs.size) >>= _) _ _ _;have RP : iN (h9.push { cls := .type "tuple", data := .seq #[x1, x2, x3, x4] }) (n + 6) (n + 4) (n + 5) .ellipsis (.bool b) := Á _ MM;refine À ?_;unfold Builtin.SmallTypes.ownedTupleHandOut;refine À (ô RP (by simp) λ UE Nr NN => ?_)
  have Nr : iN UE (n + 6) (n + 4) (n + 5) (rawInt h9.objs.size) (.bool b) := Nr;refine ô Nr (by simp) λ QU Nq NM => wpAny_pure ⟨_, rfl, ?_⟩
  have Nq : iN QU (n + 6) (n + 4) (n + 5) (rawInt h9.objs.size) (.bool false) := Nq;have Km : ∀ c o, c ≠ n + 6 -> h9.get? c = some o -> QU.get? c = some o := λ c o c1 e => NM.extBut _ _ c1 (NN.extBut _ _ c1 (Á _ e));show Q (.ref h9.objs.size) _;have nz : s.heap.objs.size ≠ n + 6 := by rw [<- sz]; exact Ź (È MM)
  rw [sz];refine hQ _ ⟨⟨_, false, Nq, .inr ⟨_, rfl⟩⟩, Km _ _ (nA ag) Nz, ⟨x1, x2, x3, x4, Km _ _ (nA ag) MN⟩, Oo.at λ o e => Km _ o (nA ag) e, On.at λ o e => Km _ o (nA ag) e, Om.at λ o e => Km _ o (nA ag) e, Ol.at λ o e => Km _ o (nA ag) e⟩ ?_ (by rw [NM.1, NN.1, æ, sz]) λ c o hc e => Km c o (nO hc ag) (up c o hc e)
  exact NM.extBut _ _ nz (NN.extBut _ _ nz (by rw [<- sz]; exact Ê _ rfl))
 ·simp only [Bool.false_eq_true, if_false];refine À ?_;rw [<- Array.forIn_toList];simp only [List.forIn_cons, List.forIn_nil];refine À (À (ï ?_));show wpAny _ _ (Builtin.SmallTypes.nextOf (.ref (n + 0)) >>= _) _ _ _;refine À (wpAny_nextOf_list_item (j1.extBut s1.extBut (nA ag)) (g1.extBut s1.extBut (nL L1 _)) e1 λ h2 jb1 s2 => Â (Â ?_));have s2 : Heap.SameBut (n + 0) h1 h2 := s2;refine À (À (ï ?_));show wpAny _ _ (Builtin.SmallTypes.nextOf (.ref (n + 1)) >>= _) _ _ _;refine À (dH ((j2.extBut s1.extBut (nA ag)).extBut s2.extBut (nA ag)) ((g2.extBut s1.extBut (nL L2 _)).extBut s2.extBut (nL L2 _)) e2 λ h3 jb2 s3 => Â (Â ?_));have s3 : Heap.SameBut (n + 1) h2 h3 := s3;refine À (À (ï ?_));show wpAny _ _ (Builtin.SmallTypes.nextOf (.ref (n + 2)) >>= _) _ _ _;refine À (dH (((j3.extBut s1.extBut (nA ag)).extBut s2.extBut (nA ag)).extBut s3.extBut (nA ag)) (((g3.extBut s1.extBut (nL L3 _)).extBut s2.extBut (nL L3 _)).extBut s3.extBut (nL L3 _)) e3 λ h4 jb3 s4 => Â (Â ?_));have s4 : Heap.SameBut (n + 2) h3 h4 := s4;refine À (À (ï ?_));show wpAny _ _ (Builtin.SmallTypes.nextOf (.ref (n + 3)) >>= _) _ _ _;refine À (dH ((((j4.extBut s1.extBut (nA ag)).extBut s2.extBut (nA ag)).extBut s3.extBut (nA ag)).extBut s4.extBut (nA ag)) ((((g4.extBut s1.extBut (nL L4 _)).extBut s2.extBut (nL L4 _)).extBut s3.extBut (nL L4 _)).extBut s4.extBut (nL L4 _)) e4 λ h5 jb4 s5 => Â (Â (Â ?_)));have s5 : Heap.SameBut (n + 3) h4 h5 := s5;show wpAny _ _ (newTuple [x1, x2, x3, x4] >>= _) _ _ _;have sz : h5.objs.size = s.heap.objs.size := by rw [s5.1, s4.1, s3.1, s2.1, s1.1]
  have up : jo s.heap h5 n := λ c o hc e => s5.extBut _ _ (nO hc ag) (s4.extBut _ _ (nO hc ag) (s3.extBut _ _ (nO hc ag) (s2.extBut _ _ (nO hc ag) (s1.extBut _ _ (nO hc ag) e))));have MM : iN h5 (n + 6) (n + 4) (n + 5) f0 (.bool true) := (s5.extBut _ _ (nA ag) (s4.extBut _ _ (nA ag) (s3.extBut _ _ (nA ag) (s2.extBut _ _ (nA ag) Jd))));have Nz : ky h5 (n + 4) (.ref (n + 0)) (.ref (n + 1)) (.ref (n + 2)) (.ref (n + 3)) := (s5.extBut _ _ (nA ag) (s4.extBut _ _ (nA ag) (s3.extBut _ _ (nA ag) (s2.extBut _ _ (nA ag) (s1.extBut _ _ (nA ag) ti)))));have Sy : ky h5 (n + 5) t1 t2 t3 t4 := (s5.extBut _ _ (nA ag) (s4.extBut _ _ (nA ag) (s3.extBut _ _ (nA ag) (s2.extBut _ _ (nA ag) (s1.extBut _ _ (nA ag) to)))));have Oo := (((jb1.extBut s3.extBut (nA ag)).extBut s4.extBut (nA ag)).extBut s5.extBut (nA ag));have On := ((jb2.extBut s4.extBut (nA ag)).extBut s5.extBut (nA ag));have Om := (jb3.extBut s5.extBut (nA ag));have Ol := jb4;refine À (wpAny_newTuple (Â ⟨_, rfl, ?_⟩));show Q (.ref h5.objs.size) _;rw [sz];refine hQ _ ⟨⟨f0, true, Á _ MM, ow⟩, Á _ Nz, ⟨_, _, _, _, Á _ Sy⟩, Oo.at λ o e => Á _ e, On.at λ o e => Á _ e, Om.at λ o e => Á _ e, Ol.at λ o e => Á _ e⟩ ?_ (by rw [æ, sz]) λ c o hc e => Á _ (up c o hc e)
  rw [<- sz]; exact Ê _ rfl
theorem zx {n : Nat} {l1 l2 l3 l4 : Addr} {k : Nat} {a1 a2 a3 a4 : Array Value} {Q : Fin -> Shared -> Prop} (hh : A.handled = none) (S : ZS n l1 l2 l3 l4) (hz : ZQ s.heap n l1 l2 l3 l4 k) (g1 : s.heap.IsList l1 a1) (e1 : a1[k]? = none)
  (hE : ∀ h' e, jo s.heap h' n -> (∃ o, h'.get? e = some o /\ o.cls = .type "StopIteration") -> E (.ref e) { s with heap := h' }) :
  wpAny (model prog w) A (Builtin.«zip.__next__» ⟨[.ref (n + 6)], []⟩) Q E s := by
 obtain ⟨L1, L2, L3, L4⟩ := S;obtain ⟨⟨f0, b, zo, ow⟩, ti, ⟨t1, t2, t3, t4, to⟩, j1, j2, j3, j4⟩ := hz;show wpAny _ _ (field (.ref (n + 6)) 2 >>= _) _ _ _; refine À (ó zo rfl (x := .bool false) rfl ?_);show wpAny _ _ (field (.ref (n + 6)) 3 >>= _) _ _ _; refine À (ó zo rfl (x := .ref (n + 4)) rfl (À (ķ ti rfl ?_)));show wpAny _ _ (Builtin.SmallTypes.ownedTupleIsFree (.ref (n + 6)) >>= _) _ _ _;refine À (om zo ow ?_ λ h1 Jd s1 => ?_)
 ·simp only [if_true];refine À (F8 (À (ó zo rfl (x := .ref (n + 5)) rfl (À (ô zo (by simp) λ h1 Jd s1 => ?_)))))
  have Jd : iN h1 (n + 6) (n + 4) (n + 5) .ellipsis (.bool b) := Jd;refine À ?_;simp only [List.zipIdx_cons, List.zipIdx_nil, List.forIn_cons, List.forIn_nil];refine À (À (i_ ?_));show wpAny _ _ (Builtin.SmallTypes.nextOf (.ref (n + 0)) >>= _) _ _ _;refine À (wpAny_nextOf_list_end hh (j1.extBut s1.extBut (nA ag)) (g1.extBut s1.extBut (nL L1 _)) e1 λ h2 e s2 he => ?_);have s2 : Heap.ExtBut (n + 0) h1 h2 := s2;obtain ⟨oe, OH, QK⟩ := he;have z2 : iN h2 (n + 6) (n + 4) (n + 5) .ellipsis (.bool b) := s2 _ _ (nA ag) Jd;have Uv : e ≠ n + 6 := λ q => by subst q; rw [z2] at OH; cases OH; simp at QK
  exact ô z2 (by simp) λ h3 _ s3 => hE h3 e (λ c o hc q => s3.extBut _ _ (nO hc ag) (s2 _ _ (nO hc ag) (s1.extBut _ _ (nO hc ag) q))) ⟨oe, s3.extBut _ _ Uv OH, QK⟩
 ·simp only [Bool.false_eq_true, if_false];refine À ?_;rw [<- Array.forIn_toList];simp only [List.forIn_cons, List.forIn_nil];refine À (À (ï ?_));show wpAny _ _ (Builtin.SmallTypes.nextOf (.ref (n + 0)) >>= _) _ _ _;refine À (wpAny_nextOf_list_end hh (j1.extBut s1.extBut (nA ag)) (g1.extBut s1.extBut (nL L1 _)) e1 λ h2 e s2 he => ?_);have s2 : Heap.ExtBut (n + 0) h1 h2 := s2;exact hE h2 e (λ c o hc q => s2 _ _ (nO hc ag) (s1.extBut _ _ (nO hc ag) q)) he
end
theorem ZQ.keep {h h' : Heap} {n : Nat} {l1 l2 l3 l4 : Addr} {k : Nat} (a : ZQ h n l1 l2 l3 l4 k) (u : ∀ b ∈ [n + 6, n + 4, n + 5, n + 0, n + 1, n + 2, n + 3], ∀ o, h.get? b = some o -> h'.get? b = some o) : ZQ h' n l1 l2 l3 l4 k := by
 obtain ⟨⟨f0, b, zo, ow⟩, ti, ⟨t1, t2, t3, t4, to⟩, j1, j2, j3, j4⟩ := a;exact ⟨⟨f0, b, u (n + 6) (by simp) _ zo, ow⟩, u (n + 4) (by simp) _ ti, ⟨t1, t2, t3, t4, u (n + 5) (by simp) _ to⟩, j1.at λ o e => u (n + 0) (by simp) o e, j2.at λ o e => u (n + 1) (by simp) o e, j3.at λ o e => u (n + 2) (by simp) o e, j4.at λ o e => u (n + 3) (by simp) o e⟩
section
variable {prog : Program} {w : World} {A : Around} {E : bM} {s : Shared}
theorem ZQ.ty {n : Nat} {l1 l2 l3 l4 : Addr} {k : Nat} (a : ZQ s.heap n l1 l2 l3 l4 k) : s.TypeIs (.ref (n + 6)) "zip" := by
 obtain ⟨⟨f0, b, zo, ow⟩, _⟩ := a;exact ⟨_, zo, rfl⟩
end
end My
namespace My
open PySem PySem.W L2
open PyProof.Rows (Call_)
open AutoSeq1 (wpAny_loadPart')
theorem iJ (a b c d : Value) : checkTypeCall "zip" ⟨[a, b, c, d], []⟩ = pure () := by kernel_rfl
theorem iV (a b c d : Value) : checkBuiltinCall "zip.__new__" ⟨[.type "zip", a, b, c, d], []⟩ = pure () := by kernel_rfl
theorem eM (a b c d e : Value) : argsOk "object.__init__" ⟨[a, b, c, d, e], []⟩ := by
 unfold argsOk; rw [signature?_of (id := "object.__init__") (n := ['_', '_', 't', 'i', 'n', 'i', '_', '_']) (o := ['t', 'c', 'e', 'j', 'b', 'o']) (by kernel_rfl) F.owner_object]; kernel_rfl
section
variable {prog : Program} {w : World} {A : Around} {E : bM} {s : Shared}
def zc (h : Heap) (l1 : Addr) : Heap := h.push { cls := .type "list_iterator", data := .fields #[.ref l1, .int 0 0] }
def yt (h : Heap) (l1 l2 : Addr) : Heap := (zc h l1).push { cls := .type "tuple_iterator", data := .fields #[.ref l2, .int 0 0] }
def xS (h : Heap) (l1 l2 l3 : Addr) : Heap := (yt h l1 l2).push { cls := .type "tuple_iterator", data := .fields #[.ref l3, .int 0 0] }
def yO (h : Heap) (l1 l2 l3 l4 : Addr) : Heap := (xS h l1 l2 l3).push { cls := .type "tuple_iterator", data := .fields #[.ref l4, .int 0 0] }
def xA (h : Heap) (l1 l2 l3 l4 : Addr) : Heap := (yO h l1 l2 l3 l4).push { cls := .type "tuple", data := .seq #[.ref h.objs.size, .ref (zc h l1).objs.size, .ref (yt h l1 l2).objs.size, .ref (xS h l1 l2 l3).objs.size] }
def xu (h : Heap) (l1 l2 l3 l4 : Addr) : Heap := (xA h l1 l2 l3 l4).push { cls := .type "tuple", data := .seq #[.none, .none, .none, .none] }
def rn (h : Heap) (l1 l2 l3 l4 : Addr) : Heap := (xu h l1 l2 l3 l4).push { cls := .type "zip", data := .fields #[.none, .bool false, .bool false, .ref (yO h l1 l2 l3 l4).objs.size, .ref (xA h l1 l2 l3 l4).objs.size] }
theorem IsTuple.c_ {h : Heap} {l : Addr} {xs : Array Value} (k : h.IsTuple l xs) (o : Obj) : (h.push o).IsTuple l xs := by
 obtain ⟨u, hu, r⟩ := k;exact ⟨u, Á _ hu, r⟩
theorem xI (l1 l2 l3 l4 : Addr) (a1 a2 a3 a4 : Array Value) : Meets (Builtin.«zip.__new__» ⟨[.type "zip", .ref l1, .ref l2, .ref l3, .ref l4], []⟩) (λ _ R s => s.heap.IsList l1 a1 /\ s.heap.IsTuple l2 a2 /\ s.heap.IsTuple l3 a3 /\ s.heap.IsTuple l4 a4 /\ R (.ok (.ret (.ref (xu s.heap l1 l2 l3 l4).objs.size))) { s with heap := rn s.heap l1 l2 l3 l4 }) :=
 .of_wp λ prog w A R s h => by
  obtain ⟨hp, g, d, tk, os⟩ := s; obtain ⟨Ms, M9, Uo, Um, h⟩ := h; have T3 := sub_zip;have k1 : Heap.IsList (Shared.heap ⟨hp, g, d, tk, os⟩) l1 a1 := Ms;have k2 : Heap.IsTuple (Shared.heap ⟨hp.push { cls := .type "list_iterator", data := .fields #[.ref l1, .int 0 0] }, g, d, tk, os⟩) l2 a2 := IsTuple.c_ M9 _;have k3 : Heap.IsTuple (Shared.heap ⟨(hp.push { cls := .type "list_iterator", data := .fields #[.ref l1, .int 0 0] }).push { cls := .type "tuple_iterator", data := .fields #[.ref l2, .int 0 0] }, g, d, tk, os⟩) l3 a3 := IsTuple.c_ (IsTuple.c_ Uo _) _;have k4 : Heap.IsTuple (Shared.heap ⟨((hp.push { cls := .type "list_iterator", data := .fields #[.ref l1, .int 0 0] }).push { cls := .type "tuple_iterator", data := .fields #[.ref l2, .int 0 0] }).push { cls := .type "tuple_iterator", data := .fields #[.ref l3, .int 0 0] }, g, d, tk, os⟩) l4 a4 := IsTuple.c_ (IsTuple.c_ (IsTuple.c_ Um _) _) _
  wp_walk using Ip k1, š k2, š k3, š k4
  exact ⟨_, rfl, h⟩
theorem p7 {l1 l2 l3 l4 : Addr} {a1 a2 a3 a4 : Array Value} {Q : bM} (g1 : s.heap.IsList l1 a1) (g2 : s.heap.IsTuple l2 a2) (g3 : s.heap.IsTuple l3 a3) (g4 : s.heap.IsTuple l4 a4)
  (h : ∀ h', IsZip h' (s.heap.objs.size + 6) (s.heap.objs.size + 4) (s.heap.objs.size + 5) .none -> ZQ h' s.heap.objs.size l1 l2 l3 l4 0 -> h'.objs.size = s.heap.objs.size + 7 ->
   (∀ c o, s.heap.get? c = some o -> h'.get? c = some o) -> Q (.ref (s.heap.objs.size + 6)) { s with heap := h' }) : wpAny (model prog w) A (call (.type "zip") [.ref l1, .ref l2, .ref l3, .ref l4]) Q E s := by
 refine callType_new F.called_zip ag (iJ _ _ _ _) (iV _ _ _ _) (λ obj => eM obj _ _ _ _) F.entry_zip_new (xI l1 l2 l3 l4 a1 a2 a3 a4) ⟨g1, g2, g3, g4, ?_⟩;have z1 : (zc s.heap l1).objs.size = s.heap.objs.size + 1 := æ ..;have z2 : (yt s.heap l1 l2).objs.size = s.heap.objs.size + 2 := by unfold yt; rw [æ, z1]
 have z3 : (xS s.heap l1 l2 l3).objs.size = s.heap.objs.size + 3 := by unfold xS; rw [æ, z2]
 have z4 : (yO s.heap l1 l2 l3 l4).objs.size = s.heap.objs.size + 4 := by unfold yO; rw [æ, z3]
 have z5 : (xA s.heap l1 l2 l3 l4).objs.size = s.heap.objs.size + 5 := by unfold xA; rw [æ, z4]
 have z6 : (xu s.heap l1 l2 l3 l4).objs.size = s.heap.objs.size + 6 := by unfold xu; rw [æ, z5]
 have z7 : (rn s.heap l1 l2 l3 l4).objs.size = s.heap.objs.size + 7 := by unfold rn; rw [æ, z6]
 have u7 : ∀ c o, (xu s.heap l1 l2 l3 l4).get? c = some o -> (rn s.heap l1 l2 l3 l4).get? c = some o := λ c o q => Á _ q;have u6 : ∀ c o, (xA s.heap l1 l2 l3 l4).get? c = some o -> (rn s.heap l1 l2 l3 l4).get? c = some o := λ c o q => u7 c o (Á _ q);have u5 : ∀ c o, (yO s.heap l1 l2 l3 l4).get? c = some o -> (rn s.heap l1 l2 l3 l4).get? c = some o := λ c o q => u6 c o (Á _ q);have u4 : ∀ c o, (xS s.heap l1 l2 l3).get? c = some o -> (rn s.heap l1 l2 l3 l4).get? c = some o := λ c o q => u5 c o (Á _ q);have u3 : ∀ c o, (yt s.heap l1 l2).get? c = some o -> (rn s.heap l1 l2 l3 l4).get? c = some o := λ c o q => u4 c o (Á _ q);have u2 : ∀ c o, (zc s.heap l1).get? c = some o -> (rn s.heap l1 l2 l3 l4).get? c = some o := λ c o q => u3 c o (Á _ q);have u1 : ∀ c o, s.heap.get? c = some o -> (rn s.heap l1 l2 l3 l4).get? c = some o := λ c o q => u2 c o (Á _ q);have y7 : (rn s.heap l1 l2 l3 l4).get? (xu s.heap l1 l2 l3 l4).objs.size = some _ := Ê _ rfl;have y6 := u7 _ _ (show (xu s.heap l1 l2 l3 l4).get? (xA s.heap l1 l2 l3 l4).objs.size = some _ from Ê _ rfl);have y5 := u6 _ _ (show (xA s.heap l1 l2 l3 l4).get? (yO s.heap l1 l2 l3 l4).objs.size = some _ from Ê _ rfl);have y4 := u5 _ _ (show (yO s.heap l1 l2 l3 l4).get? (xS s.heap l1 l2 l3).objs.size = some _ from Ê _ rfl);have y3 := u4 _ _ (show (xS s.heap l1 l2 l3).get? (yt s.heap l1 l2).objs.size = some _ from Ê _ rfl);have y2 := u3 _ _ (show (yt s.heap l1 l2).get? (zc s.heap l1).objs.size = some _ from Ê _ rfl);have y1 := u2 _ _ (show (zc s.heap l1).get? s.heap.objs.size = some _ from Ê _ rfl);show _ /\ _;rw [z4, z5, z6] at y7;rw [z5] at y6;rw [z1, z2, z3, z4] at y5;rw [z3] at y4;rw [z2] at y3;rw [z1] at y2;rw [z6];exact ⟨⟨_, y7, rfl⟩, h _ y7 ⟨⟨_, _, y7, .inl rfl⟩, y5, ⟨_, _, _, _, y6⟩, ⟨_, y1, rfl, rfl⟩, ⟨_, y2, rfl, rfl⟩, ⟨_, y3, rfl, rfl⟩, ⟨_, y4, rfl, rfl⟩⟩ z7 u1⟩
variable {n : Nat} {l1 l2 l3 l4 : Addr} {k : Nat} {a1 a2 a3 a4 : Array Value}
theorem uD {elts : List Expr} {x1} {pos : Pos} {T : Addr} {Q : Unit -> Shared -> Prop} (S : ZS n l1 l2 l3 l4) (hz : ZQ s.heap n l1 l2 l3 l4 k)
  (hQ : ∀ h', ZQ h' n l1 l2 l3 l4 k -> Heap.SameBut (n + 6) s.heap h' -> Q () { s with heap := h' }) : wpAny (model prog w) A (letOwnedTupleGo (.Tuple elts x1 pos) (.ref (n + 6)) (.ref T)) Q E s := by
 obtain ⟨⟨f0, b, zo, ow⟩, ti, ⟨t1, t2, t3, t4, to⟩, j1, j2, j3, j4⟩ := hz;unfold letOwnedTupleGo;refine À (wpAny_load zo ?_);show wpAny _ _ (if (["enumerate", "zip", "dict_itemiterator", "dict_reverseitemiterator", "odict_iterator", "itertools.zip_longest", "itertools.pairwise"].contains "zip" &&
   (#[f0, f0, .bool false, .ref (n + 4), .ref (n + 5)] : Array Value)[0]? == some (rawInt T)) = true then _ else _) Q E s
 split
 ·refine À (F8 ?_);show wpAny _ _ (setField (.ref (n + 6)) 0 .none) Q E s;refine ô zo (by simp) λ h' RQ s' => hQ h' ⟨⟨_, b, RQ, .inl rfl⟩, s'.extBut _ _ (nA ag) ti, ⟨t1, t2, t3, t4, s'.extBut _ _ (nA ag) to⟩, j1.extBut s'.extBut (nA ag), j2.extBut s'.extBut (nA ag), j3.extBut s'.extBut (nA ag), j4.extBut s'.extBut (nA ag)⟩ s'
 ·exact Â (hQ s.heap ⟨⟨f0, b, zo, ow⟩, ti, ⟨t1, t2, t3, t4, to⟩, j1, j2, j3, j4⟩ ⟨rfl, λ _ _ => rfl⟩)
theorem t5 {x1 x2 x3 x4 : Value} {Q : Option Value -> Shared -> Prop} (S : ZS n l1 l2 l3 l4) (hz : ZQ s.heap n l1 l2 l3 l4 k) (g1 : s.heap.IsList l1 a1) (g2 : s.heap.IsTuple l2 a2) (g3 : s.heap.IsTuple l3 a3) (g4 : s.heap.IsTuple l4 a4) (e1 : a1[k]? = some x1) (e2 : a2[k]? = some x2) (e3 : a3[k]? = some x3) (e4 : a4[k]? = some x4)
  (hQ : ∀ h', ZQ h' n l1 l2 l3 l4 (k + 1) -> ky h' s.heap.objs.size x1 x2 x3 x4 -> h'.objs.size = s.heap.objs.size + 1 -> jo s.heap h' n -> Q (some (.ref s.heap.objs.size)) { s with heap := h' }) :
  wpAny (model prog w) A (pyNext (.ref (n + 6))) Q E s := by
 unfold pyNext;exact À (Ň (ć (name := Str.ofString "__next__") hz.ty Μ (ă Μ hz.ty F.entry_zip_next (yk S hz g1 g2 g3 g4 e1 e2 e3 e4 λ h' a b c d => Â (hQ h' a b c d)) (F.args_zip_next_1 _))))
theorem ym {Q : Option Value -> Shared -> Prop} (hh : A.handled = none) (S : ZS n l1 l2 l3 l4) (hz : ZQ s.heap n l1 l2 l3 l4 k) (g1 : s.heap.IsList l1 a1) (e1 : a1[k]? = none)
  (hQ : ∀ h', jo s.heap h' n -> Q none { s with heap := h' }) : wpAny (model prog w) A (pyNext (.ref (n + 6))) Q E s := by
 unfold pyNext;refine À (Ň (ć (name := Str.ofString "__next__") hz.ty Μ (ă Μ hz.ty F.entry_zip_next (zx hh S hz g1 e1 (a2 := a1) (a3 := a1) (a4 := a1) λ h' x kz Jf => ?_) (F.args_zip_next_1 _))));obtain ⟨o, ho, hc⟩ := Jf;exact À (Jk (T := "StopIteration") (b := true) ⟨o, ho, hc⟩ isSubtype_stop (Â (hQ _ kz)))
end
def AA (K : Frag) (a b c d : Addr) : It :=
 ⟨λ i H => ∃ xs ys zs us x y z u, ñ K H a xs /\ ą K H b ys /\ ą K H c zs /\ ą K H d us /\ xs[i]? = some x /\ ys[i]? = some y /\ zs[i]? = some z /\ us[i]? = some u,
   λ i H v H' => ∃ q x y z u, v = .ref q /\ H q = none /\ H' = ao H q (.tup [x, y, z, u]) /\ ∀ xs ys zs us, ñ K H a xs -> ą K H b ys -> ą K H c zs -> ą K H d us -> xs[i]? = some x /\ ys[i]? = some y /\ zs[i]? = some z /\ us[i]? = some u,
   λ i H => ∃ xs, ñ K H a xs /\ xs.length <= i⟩
theorem ko {c n : Nat} (hc : c ∉ [n + 6, n + 4, n + 5, n + 0, n + 1, n + 2, n + 3]) : c < n \/ n + 6 < c := by
 simp only [List.mem_cons, List.not_mem_nil, or_false, not_or] at hc;omega
theorem n8 {c n : Nat} (hc : c ∈ [n + 6, n + 4, n + 5, n + 0, n + 1, n + 2, n + 3]) : n <= c := by
 simp only [List.mem_cons, List.not_mem_nil, or_false] at hc;omega
theorem uI {P : Program} {w : World} {K : Frag} {elts : List Expr} {x1} {pos : Pos} (a b c d : Addr) (n : Nat) (S : ZS n a b c d) :
  ki P w K (.Tuple elts x1 pos) (AA K a b c d) [n + 6, n + 4, n + 5, n + 0, n + 1, n + 2, n + 3] (n + 6) (λ i h => ZQ h n a b c d i) where
 mem := by simp
 obj := λ i h st e hc => by
  obtain ⟨⟨f0, bb, zo, ow⟩, ti, ⟨t1, t2, t3, t4, to⟩, ⟨o1, h1, c1, d1⟩, ⟨o2, h2, c2, d2⟩, ⟨o3, h3, c3, d3⟩, ⟨o4, h4, c4, d4⟩⟩ := st;simp only [List.mem_cons, List.not_mem_nil, or_false] at hc;rcases hc with rfl | rfl | rfl | rfl | rfl | rfl | rfl
  ·exact ⟨_, zo, λ v q => by cases q⟩
  ·exact ⟨_, ti, λ v q => by cases q⟩
  ·exact ⟨_, to, λ v q => by cases q⟩
  ·exact ⟨o1, h1, λ v q => by rw [d1] at q; cases q⟩
  ·exact ⟨o2, h2, λ v q => by rw [d2] at q; cases q⟩
  ·exact ⟨o3, h3, λ v q => by rw [d3] at q; cases q⟩
  ·exact ⟨o4, h4, λ v q => by rw [d4] at q; cases q⟩
 keep := λ i h h' st k => st.keep λ c hc o q => k c hc o q
 item := by
  intro X hP hw hK hc i pins s σ H E I hf st hg;subst hP hw hK;obtain ⟨xs, ys, zs, us, x, y, z, u, La, KG, M7, M6, e1, e2, e3, e4⟩ := hg;obtain ⟨Tz, Qf, p1, KA⟩ := I.list La;obtain ⟨Mf, Qe, p2, M0⟩ := I.tuple KG;obtain ⟨Os, Qd, p3, TF⟩ := I.tuple M7;obtain ⟨Oq, Qc, p4, TD⟩ := I.tuple M6;obtain ⟨v1, TU, r1⟩ := Qf.get e1;obtain ⟨v2, TR, r2⟩ := Qe.get e2;obtain ⟨v3, TQ, r3⟩ := Qd.get e3;obtain ⟨v4, TN, r4⟩ := Qc.get e4;have MU : s.heap.IsTuple b Mf.toArray := by
   obtain ⟨o, q, c, n, d⟩ := p2;exact ⟨o, q, c, n, d⟩
  have MT : s.heap.IsTuple c Os.toArray := by
   obtain ⟨o, q, c, n, d⟩ := p3;exact ⟨o, q, c, n, d⟩
  have MS : s.heap.IsTuple d Oq.toArray := by
   obtain ⟨o, q, c, n, d⟩ := p4;exact ⟨o, q, c, n, d⟩
  have zl : n + 6 < s.heap.objs.size := by
   obtain ⟨f0, bb, zo, ow⟩ := st.1;exact È zo
  refine t5 S st p1.isList MU MT MS (x1 := v1) (x2 := v2) (x3 := v3) (x4 := v4) (by simpa using TU) (by simpa using TR) (by simpa using TQ) (by simpa using TN) λ h1 Sa pr Wt kk => ?_
  refine ⟨_, rfl, uD (s := { s with heap := h1 }) S Sa λ h2 R_ sb => ?_⟩
  have Jp : Heap.SameBut (n + 6) h1 h2 := sb;have na : s.heap.objs.size ≠ n + 6 := Ź zl;have Je : ky h2 s.heap.objs.size v1 v2 v3 v4 := (Jp.2 _ na).trans pr;have f1 : H s.heap.objs.size = none := I.Ē.fresh (Å _);refine ⟨.ref s.heap.objs.size, ao H s.heap.objs.size (.tup [x, y, z, u]), ?_, rfl, ⟨_, x, y, z, u, rfl, f1, rfl, λ Nu GA Wp Il g1 g2 g3 g4 => ⟨by rw [I.y_ g1 La]; exact e1, by rw [I.Ŝ g2 KG]; exact e2, by rw [I.Ŝ g3 M7]; exact e3, by rw [I.Ŝ g4 M6]; exact e4⟩⟩, R_, λ c hc => ?_⟩
  ·refine sY (t' := s.toks) (ch := [n + 6, n + 4, n + 5, n + 0, n + 1, n + 2, n + 3]) I hf (λ c o hc q => ?_) ?_
   ·have ho := ko hc;exact (Jp.2 c (nO ho ag)).trans (kk c o ho q)
   ·exact ⟨fk, [v1, v2, v3, v4], .cons r1 (.cons r2 (.cons r3 (.cons r4 .nil))), ⟨_, Je, rfl, _, rfl⟩⟩
  ·have q := hf c hc;have Hv : c < s.heap.objs.size := by
    obtain ⟨o, ho, _⟩ : ∃ o, s.heap.get? c = some o /\ True := by
     obtain ⟨⟨f0, bb, zo, ow⟩, ti, ⟨t1, t2, t3, t4, to⟩, ⟨o1, h1, c1, d1⟩, ⟨o2, h2, c2, d2⟩, ⟨o3, h3, c3, d3⟩, ⟨o4, h4, c4, d4⟩⟩ := st;simp only [List.mem_cons, List.not_mem_nil, or_false] at hc;rcases hc with rfl | rfl | rfl | rfl | rfl | rfl | rfl
     ·exact ⟨_, zo, trivial⟩
     ·exact ⟨_, ti, trivial⟩
     ·exact ⟨_, to, trivial⟩
     ·exact ⟨_, h1, trivial⟩
     ·exact ⟨_, h2, trivial⟩
     ·exact ⟨_, h3, trivial⟩
     ·exact ⟨_, h4, trivial⟩
    exact È ho
   rw [ah (Ë Hv)];exact q.1
 done := by
  intro X hP hw hK hc i pins s σ H E I hf st hg;subst hP hw hK;obtain ⟨xs, hq, hn⟩ := hg;obtain ⟨its, rv, p, hz⟩ := I.list hq;have l1 := rv.length;refine ym (I.ok.hd hc) S st p.isList ?_ λ h1 kk => ⟨rfl, uT (t' := s.toks) (ch := [n + 6, n + 4, n + 5, n + 0, n + 1, n + 2, n + 3]) I hf λ c o Na q => kk c o (ko Na) q⟩;simp; omega
 self := λ _ s Q _ _ st h => by
  refine Io st.ty F.slot_zip_iter (ă F.slot_zip_iter st.ty F.entry_zip_iter ?_ (F.args_zip_iter_1 _));exact Â ⟨_, rfl, "zip", _, st.ty, Μ.lookup, h⟩
section
variable {X : Cx}
def EL (K : Frag) (ta : TA) : TI := λ σ H R => ta σ H λ vs H1 => ∃ a b c d, vs = [.ref a, .ref b, .ref c, .ref d] /\ (∃ xs, ñ K H1 a xs) /\ (∃ ys, ą K H1 b ys) /\ (∃ zs, ą K H1 c zs) /\ (∃ us, ą K H1 d us) /\ R (AA K a b c d) H1
theorem zU {elts : List Expr} {x1} {pt : Pos} {a b c d : Expr} {ta : TA} {p2 Kv : Pos} (OQ : Gl X "zip") (Uk : X.mg "zip" = none) (ha : PA X [a, b, c, d] ta)
  (he : starEach (a :: [b, c, d]) X.env = (false, eval a X.env) :: starEach [b, c, d] X.env := by rfl) (l_ : (backTo Kv (starEach [b, c, d] X.env)).any (·.1) = false := by rfl) :
  PI X (.Tuple elts x1 pt) (.Call (.Name "zip" p2) [a, b, c, d] [] Kv) (EL X.K ta) := by
 intro pins s σ H R I h;refine Call_ (gi I OQ Uk PyProof.Rows.boot_zip (Ŀ (ax (ha Kv pins s σ H _ I h) λ us s1 ⟨vs, H1, I1, r1, q1⟩ => ?_) he l_));obtain ⟨l1, l2, l3, l4, rfl, ⟨xs, La⟩, ⟨ys, KG⟩, ⟨zs, M7⟩, ⟨Il, M6⟩, q⟩ := q1;cases r1 with
 | cons r rr =>
  cases r;cases rr with
  | cons r rr =>
   cases r;cases rr with
   | cons r rr =>
    cases r;cases rr with
    | cons r rr =>
     cases r;cases rr;obtain ⟨Tz, Qf, p1, KA⟩ := I1.list La;obtain ⟨Mf, Qe, p2, M0⟩ := I1.tuple KG;obtain ⟨Os, Qd, p3, TF⟩ := I1.tuple M7;obtain ⟨Oq, Qc, p4, TD⟩ := I1.tuple M6;have MU : s1.heap.IsTuple l2 Mf.toArray := by
      obtain ⟨o, q, c, n, d⟩ := p2;exact ⟨o, q, c, n, d⟩
     have MT : s1.heap.IsTuple l3 Os.toArray := by
      obtain ⟨o, q, c, n, d⟩ := p3;exact ⟨o, q, c, n, d⟩
     have MS : s1.heap.IsTuple l4 Oq.toArray := by
      obtain ⟨o, q, c, n, d⟩ := p4;exact ⟨o, q, c, n, d⟩
     have lt : ∀ {l : Addr} {ys : Array Value}, s1.heap.IsTuple l ys -> l < s1.heap.objs.size := λ h => by
      obtain ⟨o, q, _⟩ := h;exact È q
     have Tg : l1 < s1.heap.objs.size := by
      obtain ⟨o, q, _⟩ := p1.isList;exact È q
     refine p7 p1.isList MU MT MS λ h2 iz za Ws k2 => ?_;refine wpAny_pyIter_zip (s := { s1 with heap := h2 }) iz ?_
     have S : ZS s1.heap.objs.size l1 l2 l3 l4 := ⟨Tg, lt MU, lt MT, lt MS⟩;exact ⟨s1.heap.objs.size + 6, [s1.heap.objs.size + 6, s1.heap.objs.size + 4, s1.heap.objs.size + 5, s1.heap.objs.size + 0, s1.heap.objs.size + 1, s1.heap.objs.size + 2, s1.heap.objs.size + 3], _, _, H1, rfl, I1.kept (t' := s1.toks) (λ c o e => k2 _ _ e), uI l1 l2 l3 l4 _ S, za, λ c hc => I1.HB (n8 hc) (I1.Ē.fresh (n8 hc)), q⟩
end
theorem wK {K : Frag} {a b c d : Addr} {xs ys zs us : List V} {g : TG} {tb : TS} {D : bQ} {σ : St} {H : Hp} (Pv : Nat -> St -> Hp -> Prop) (h0 : Pv 0 σ H) (l2 : xs.length <= ys.length) (l3 : xs.length <= zs.length) (l4 : xs.length <= us.length) (hl : ∀ i σ H, i <= xs.length -> Pv i σ H -> ñ K H a xs /\ ą K H b ys /\ ą K H c zs /\ ą K H d us)
  (hs : ∀ i x y z u σ H q, xs[i]? = some x -> ys[i]? = some y -> zs[i]? = some z -> us[i]? = some u -> Pv i σ H -> H q = none -> g (.ref q) σ (ao H q (.tup [x, y, z, u])) λ ġ H2 => tb { D with nx := Pv (i + 1), ct := Pv (i + 1), bk := D.nx } ġ H2) (hd : ∀ σ H, Pv xs.length σ H -> D.nx σ H) :
  ∃ W : Nat -> Nat -> St -> Hp -> Prop, (∃ m, W 0 m σ H) /\ ∀ i m σ H, W i m σ H ->
   ((AA K a b c d).stop i H /\ D.nx σ H) \/ ((AA K a b c d).go i H /\ ∃ N : St -> Hp -> Prop, (∀ ĝ H', N ĝ H' -> ∃ m', m' < m /\ W (i + 1) m' ĝ H') /\ ∀ x H', (AA K a b c d).Ψ i H x H' -> g x σ H' λ ġ H2 => tb { D with nx := N, ct := N, bk := D.nx } ġ H2) := by
 refine ⟨λ i m σ H => m = xs.length - i /\ i <= xs.length /\ Pv i σ H, ⟨xs.length, ae, Ċ _, h0⟩, ?_⟩;rintro i m σ H ⟨rfl, hi, pv⟩;obtain ⟨q1, q2, q3, q4⟩ := hl i σ H hi pv;by_cases ŏ : i < xs.length
 ·refine .inr ⟨⟨xs, ys, zs, us, xs[i], ys[i], zs[i], us[i], q1, q2, q3, q4, Ã ae, Ã ae, Ã ae, Ã ae⟩, Pv (i + 1), λ ĝ H' n => ⟨xs.length - (i + 1), ae, rfl, ŏ, n⟩, λ v H' yl => ?_⟩;obtain ⟨q, x, y, z, u, rfl, hq, rfl, at'⟩ := yl;obtain ⟨e1, e2, e3, e4⟩ := at' xs ys zs us q1 q2 q3 q4;exact hs i x y z u σ H q e1 e2 e3 e4 pv hq
 ·have e : i = xs.length := ae;subst e;exact .inl ⟨⟨xs, q1, Å _⟩, hd σ H pv⟩
end My
namespace My
open PySem PySem.W L2
def kh (ns : List Int) (x : Nat) : List (List Nat) := M1.map λ q => eS ns x q.1 q.2
theorem rN {α : Type} {p q r : α -> Bool} {l : List α} (h : ∀ a ∈ l, (r a = true ↔ (p a = true \/ q a = true)) /\ ¬ (p a = true /\ q a = true)) : (l.filter p ++ l.filter q).Perm (l.filter r) := by
 induction l with
 | nil => exact List.Perm.nil
 | cons a l ih =>
  have ih := ih λ b hb => h b (Î _ hb);obtain ⟨h1, h2⟩ := h a (Ù ..);rw [î, î, î];by_cases hp : p a = true
  ·have hq : ¬ q a = true := λ z => h2 ⟨hp, z⟩;rw [Ô hp, É hq, Ô (h1.mpr (.inl hp)), ŧ];exact ih.cons a
  ·by_cases hq : q a = true
   ·rw [É hp, Ô hq, Ô (h1.mpr (.inr hq))];exact θ.trans (ih.cons a)
   ·rw [É hp, É hq, É (λ z => (h1.mp z).elim hp hq)];exact ih
theorem kB {ns : List Int} {x : Nat} (Χ : pT ns) : (kh ns x).flatten.Perm (List.range ns.length) := by
 have hb : ∀ i ∈ List.range ns.length, ns.getD i 0 = 0 \/ ns.getD i 0 = 1 := λ i hi => by
  have hi := Ģ.mp hi;rw [ģ, Ã hi];exact Χ _ (İ hi)
 have e1 : (eS ns x 1 1 ++ eS ns x 1 0).Perm ((List.range ns.length).filter λ i => decide (x / 2 ^ i % 2 = 1)) := rN λ i hi => by
  have := hb i hi;simp only [Bool.and_eq_true, decide_eq_true_eq];omega
 have e2 : (eS ns x 0 1 ++ eS ns x 0 0).Perm ((List.range ns.length).filter λ i => decide (x / 2 ^ i % 2 = 0)) := rN λ i hi => by
  have := hb i hi;simp only [Bool.and_eq_true, decide_eq_true_eq];omega
 have e3 : ((List.range ns.length).filter (λ i => decide (x / 2 ^ i % 2 = 1)) ++ (List.range ns.length).filter (λ i => decide (x / 2 ^ i % 2 = 0))).Perm ((List.range ns.length).filter λ _ => true) := rN λ i hi => by
  simp only [decide_eq_true_eq];exact ⟨⟨λ _ => by omega, λ _ => trivial⟩, ae⟩
 have e4 : ((List.range ns.length).filter λ _ => true) = List.range ns.length := by
  rw [List.filter_eq_self];exact λ _ _ => rfl
 rw [e4] at e3;have e5 : (kh ns x).flatten = (eS ns x 1 1 ++ eS ns x 1 0) ++ (eS ns x 0 1 ++ eS ns x 0 0) := by
  show eS ns x 1 1 ++ (eS ns x 1 0 ++ (eS ns x 0 1 ++ (eS ns x 0 0 ++ []))) = _;rw [ã, ù]
 rw [e5];exact (e1.append e2).trans e3
theorem ic {ns : List Int} {x : Nat} (Χ : pT ns) : gA ns x + gB ns x + gC ns x + gD ns x = ns.length := by
 have := (kB (x := x) Χ).length_eq;rw [ě] at this;rw [<- this];show (eS ns x 1 1).length + (eS ns x 1 0).length + (eS ns x 0 1).length + (eS ns x 0 0).length = (eS ns x 1 1 ++ (eS ns x 1 0 ++ (eS ns x 0 1 ++ (eS ns x 0 0 ++ [])))).length;simp only [List.length_append, List.length_nil];omega
abbrev kN (i : Nat) : Key := .inl ((i : Nat) : Int)
theorem jI {i j : Nat} (h : kN i = kN j) : i = j := by
 injection h with h
 omega
structure vT (K : Frag) (mg : bE) (kO kA : Addr) : Prop where
 mO : mg "OTHERWISE" = some (.ref kO)
 mA : mg "ALIKE" = some (.ref kA)
 tO : ∃ ws : List V, ws.length = 4 /\ ∀ H, ą K H kO ws
 tA : ∃ ws : List V, ws.length = 4 /\ ∀ H, ą K H kA ws
section
variable {P : Program} {w : World} {K : Frag} {mg : bE} {base : Heap} {kO kA : Addr}
abbrev yX : Stmt := cf 58
def wS : Sp := λ vs H Q _ => ∃ (g : Addr) (v : V), vs = [.ref g, v] /\ ((v = .ĉ /\ Q .ĉ H) \/ ∃ (ns : List Int) (x : Nat) (f : F4), G_ H g ns x /\ pT ns /\ ns.length <= 20 /\ T4 H v f /\ ∀ l us H', H l = none -> Ext H H' -> H' l = some (.lst us) -> Q (.ref l) H')
abbrev Fn : List Str := ["groups", "four", "told", "group", "many", "otherwise", "alike", "place", "at"]
theorem LM : af Fn ["groups", "four"] (aa yX) := aQ
abbrev B1 : Scope := cT [("at", .local), ("told", .free)]
theorem DI : ((["at"] : List Str) ++ (["told"] : List Str)).Nodup := aF
section
variable {f : Addr} {ò : Value} {A : Around} {outer : List Env} {s : Shared} {H : Hp} {E : XK}
theorem xj : aY (aU au P w K mg base Fn "listing_by" (aa yX) f ò A outer s H E).ť B1 [("told", s.heap.objs.size + 1)] ["at"] ["told"] [2] :=
 bP (M := ["told"]) (L := [(".0", .local), ("at", .local), ("told", .cell)]) rfl rfl aF aF aF rfl rfl rfl aF aF rfl rfl rfl
end
abbrev yp : List V -> Hp -> VK -> Prop := λ xs H Q => ∃ a kvs, xs = [V.ref a] /\ H a = some (.dK kvs) /\ Q (.int kvs.length) H
def Dv : TE := dX (dC (ac (gI yp (ac (am 2) aH)) aH)) 1 [2] (aP 0) (gH (am 1) (am 0))
def Dz : TS := vI (am 2) (am 8) (EA (tB (aZ (iS λ i j => .bl (decide (i < j))) (am 7) (am 4))) (am 5) (am 6))
def Au (K : Frag) : TS := fT (gv K (ac (am 3) aH)) (gW K 7 8) Dz
def DY (K : Frag) (kO kA : Addr) : TS := fT (EL K (ac (am 0) (ac (am 1) (ac (tC (.ref kO)) (ac (tC (.ref kA)) aH))))) (tW K 4 (bq (aP 3) (bq (aP 4) (bq (aP 5) (bq (aP 6) ke))))) (Au K)
def Be (H : Hp) (T : Addr) (ds : List Nat) : Prop := ∃ kvs, H T = some (.dK kvs) /\ kvs.map (·.1) = ds.map kN
theorem xO {De : bQ} {H1 H : Hp} {g T a : Addr} {v v5 v6 : V} {m : Int} {gr ds rest : List Nat} {o7 o8 : Option V} (ha : H1 a = some (.lst (gr.map vN))) (na : a ≠ T) (k : Kept H1 H T) (td : Be H T ds) (nd : (ds ++ (gr ++ rest)).Nodup) (ś : ds.length + gr.length <= 100)
  (nx : ∀ H' o7 o8, Kept H1 H' T -> Be H' T (ds ++ gr) -> De.nx [some (.ref g), some v, some (.ref T), some (.ref a), some (.int m), some v5, some v6, o7, o8] H') :
  Au K De [some (.ref g), some v, some (.ref T), some (.ref a), some (.int m), some v5, some v6, o7, o8] H := by
 refine ⟨_, rfl, a, rfl, ⟨_, ñ.of (k _ _ ha na)⟩, ?_⟩;refine cQ (xs := gr.map vN) (λ j σ H' => Kept H1 H' T /\ Be H' T (ds ++ gr.take j) /\ ∃ o7 o8, σ = [some (.ref g), some v, some (.ref T), some (.ref a), some (.int m), some v5, some v6, o7, o8]) ⟨k, by rw [List.take_zero, ã]; exact td, _, _, rfl⟩ (λ j σ H' _ pv => ñ.of (pv.1 _ _ ha na)) ?_ ?_
 ·rintro j y σ H' t ey ⟨k', ⟨kvs, hT, ek⟩, o7, o8, rfl⟩ ht;rw [Õ] at ey;obtain ⟨n, en, rfl⟩ : ∃ n, gr[j]? = some n /\ y = vN n := by
   cases e : gr[j]? with
   | none => rw [e] at ey; cases ey
   | some n => rw [e] at ey; exact ⟨n, rfl, (Ò ey).symm⟩
  have x1 := Ext.new (o := .tup [.int (j : Nat), vN n]) ht;have UA := x1 _ _ hT;have nt : t ≠ T := λ z => by rw [z, hT] at ht; cases ht
  have lk : kvs.length = ds.length + (gr.take j).length := by
   have := Ė List.length ek;rw [Æ, Æ, Ì] at this;exact this
  have lj : (gr.take j).length <= gr.length := by rw [Ŋ]; exact Hq _ _
  have L7 : kN n ∉ kvs.map (·.1) := by
   rw [ek];intro z;obtain ⟨n', JQ, e'⟩ := õ.mp z;have e' := jI e';subst e';have sp : ds ++ (gr ++ rest) = (ds ++ gr.take j) ++ (n' :: (gr.drop (j + 1) ++ rest)) := by
    have : gr = gr.take j ++ (n' :: gr.drop (j + 1)) := by
     have h1 := (List.take_append_drop j gr).symm;rw [show gr.drop j = n' :: gr.drop (j + 1) from by
      obtain ⟨ŏ, eg⟩ := Ø.mp en;rw [Jb ŏ, eg]] at h1
     exact h1
    conv => lhs; rw [this]
    simp [List.append_assoc]
   rw [sp, GZ] at nd;exact nd.2.2 n' JQ n' (Ù ..) rfl
  refine ⟨t, _, rfl, ą.of bh, rfl, _, _, rfl, _, _, rfl, rfl, ?_⟩;have fin : ∀ u : V, ∃ y', some (some (V.ref T)) = some (some y') /\ ∃ z', some (some (vN n)) = some (some z') /\ ∃ a' H4, y' = V.ref a' /\ HG (ao H' t (.tup [.int (j : Nat), vN n])) a' z' u H4 /\ (Kept H1 H4 T /\ Be H4 T (ds ++ gr.take (j + 1)) /\ ∃ o7 o8, ([some (.ref g), some v, some (.ref T), some (.ref a), some (.int m), some v5, some v6, some (.int (j : Nat)), some (vN n)] : St) = [some (.ref g), some v, some (.ref T), some (.ref a), some (.int m), some v5, some v6, o7, o8]) := λ u => by
   refine ⟨_, rfl, _, rfl, T, _, rfl, HG.k UA (k := kN n) (by rw [lk, Þ]; omega), λ b o e nb => ?_, ⟨_, bh, ?_⟩, _, _, rfl⟩
   ·rw [ah nb];exact x1 _ _ (k' _ _ e nb)
   ·rw [dA L7, Ó, ek, aw en, <- ù, Ó, Ó, Ó];rfl
  refine ⟨_, rfl, _, rfl, _, _, rfl, rfl, _, rfl, ?_⟩;refine lX (λ _ => ⟨_, rfl, fin v5⟩) (λ _ => ⟨_, rfl, fin v6⟩)
 ·rintro σ H' ⟨k', P7, o7, o8, rfl⟩;rw [Æ, ö] at P7;exact nx H' _ _ k' P7
theorem BK {f : Addr} {fd : FuncData} (F : ŀ K "listing_by" "listing_by" yX f fd) (Kd : vT K mg kO kA) (mz : mg "zip" = none) (me : mg "enumerate" = none) (mr : mg "range" = none) (ml : mg "len" = none) : az P w K mg base au 1 f fd ["groups", "four"] wS := by
 refine cE F LM λ ò A outer s H vs Q E hr h => ?_;obtain ⟨g, v, rfl, h⟩ := h;have nd := LM.nd;have hu : (A.deeper (PyProof.Rows.envOfC "listing_by" (aa yX) s.heap.objs.size f ò)).units + 1 < cLine := by have := hr.un; omega
 refine cr (t := bB (kn (tB (aZ (λ x y H Q => y = .ĉ /\ Q (.bl (decide (x = .ĉ))) H) (am 1) (tC .ĉ))) (bY (tC .ĉ)) gE) (bB (aT rg (aP 2)) (bB (DY K kO kA) (bY Dv))))
  (cH ⟨bA (aM jM (pv 1) dz (aA _)) (bz (cp dz)) gN⟩
  (cH ⟨cD (i := 2) nd rfl (Or.inr rfl) lQ⟩
  (cH ⟨bO å rfl (zU rfl mz (ad (pv 0) (ad (pv 1) (ad (b8 (v := .ref kO) rfl Kd.mO rfl) (ad (b8 (v := .ref kA) rfl Kd.mA rfl) ap))))) (bd rfl (bT (bf (i := 3) nd rfl (Or.inl rfl)) (bT (bf (i := 4) nd rfl (Or.inl rfl)) (bT (bf (i := 5) nd rfl (Or.inl rfl)) (bT (bf (i := 6) nd rfl (Or.inl rfl)) aC)))))
   (bz (bO å rfl (cv rfl me (ad (pv 3) ap)) (bd rfl (bT (bf (i := 7) nd rfl (Or.inl rfl)) (bT (bf (i := 8) nd rfl (Or.inl rfl)) aC)))
    (bz (oy hu (pv 2) (pv 8) (lz (aM su (pv 7) (pv 4) (aA _)) (pv 5) (pv 6)) rfl))))⟩
  (aR (dF (dM (te := gH (am 1) (am 0)) (g := aP 0) rfl xj ⟨bc rfl mr (ad (ak ph rfl ml ä (ad (pv 2) ap)) ap)⟩ (λ s H C fp => by exact bf (i := 0) DI rfl (.inl rfl)) (λ s H C fp => ⟨by exact fE hu (pv 1) (pv 0)⟩))))))) ⟨?_⟩
 rcases h with ⟨rfl, q⟩ | ⟨ns, x, fr, gp, Χ, ś, ⟨t4, rfl, h4⟩, q⟩
 ·exact ⟨_, rfl, rfl, _, rfl, fO q⟩
 refine ⟨_, rfl, rfl, _, rfl, c6 ?_⟩;intro T hT;have x1 := Ext.new (o := .dK []) hT;obtain ⟨vs, hg, pr⟩ := gp;obtain ⟨wO, lO, sO⟩ := Kd.tO;obtain ⟨wA, lA, sA⟩ := Kd.tA;have lv : vs.length = 4 := Ö pr;have perm := kB (x := x) Χ;have Qp : (kh ns x).flatten.Nodup := perm.nodup_iff.mpr List.nodup_range;have lf : (kh ns x).flatten.length = ns.length := by rw [perm.length_eq, ě]
 have nT : ∀ {b : Addr} {o : HO}, H b = some o -> b ≠ T := λ {b o} e z => by rw [z, hT] at e; cases e
 refine ⟨_, rfl, _, rfl, g, t4, kO, kA, rfl, ⟨_, ñ.of (x1 _ _ hg)⟩, ⟨_, ą.of (x1 _ _ h4)⟩, ⟨_, sO _⟩, ⟨_, sA _⟩, ?_⟩;refine wK (K := K) (xs := vs) (ys := E3 fr) (zs := wO) (us := wA) (λ i σ H' => Kept H H' T /\ Be H' T ((kh ns x).take i).flatten /\ ∃ o3 o4 o5 o6 o7 o8, σ = [some (.ref g), some (.ref t4), some (.ref T), o3, o4, o5, o6, o7, o8]) ⟨x1.kept T, ⟨[], bh, rfl⟩, _, _, _, _, _, _, rfl⟩ (by rw [lv]; exact Å _) ae ae (λ i σ H' _ pv => ⟨ñ.of (pv.1 _ _ hg (nT hg)), ą.of (pv.1 _ _ h4 (nT h4)), sO _, sA _⟩) ?_ ?_
 ·rintro i y m v5 v6 σ H' t ey em e5 e6 ⟨k, td, o3, o4, o5, o6, o7, o8, rfl⟩ ht;obtain ⟨gr, eg, a, rfl, ha⟩ := ð pr ey;have eg : (kh ns x)[i]? = some gr := eg;obtain ⟨mm, rfl⟩ : ∃ mm : Int, m = .int mm := by
   match i, em with
   | 0, em => cases em; exact ⟨_, rfl⟩
   | 1, em => cases em; exact ⟨_, rfl⟩
   | 2, em => cases em; exact ⟨_, rfl⟩
   | 3, em => cases em; exact ⟨_, rfl⟩
  have x2 := Ext.new (o := .tup [.ref a, .int mm, v5, v6]) ht;refine ⟨t, _, rfl, ą.of bh, rfl, _, _, rfl, _, _, rfl, _, _, rfl, _, _, rfl, rfl, ?_⟩;obtain ⟨kvs, KJ, ek⟩ := td;have sp : (kh ns x).flatten = ((kh ns x).take i).flatten ++ (gr ++ ((kh ns x).drop (i + 1)).flatten) := by
   have h1 := (List.take_append_drop i (kh ns x)).symm;rw [show (kh ns x).drop i = gr :: (kh ns x).drop (i + 1) from by
    obtain ⟨ŏ, e⟩ := Ø.mp eg;rw [Jb ŏ, e]] at h1
   conv => lhs; rw [h1]
   rw [List.flatten_append, List.flatten_cons]
  refine xO (K := K) (H1 := H) (ds := ((kh ns x).take i).flatten) (gr := gr) (rest := ((kh ns x).drop (i + 1)).flatten) ha (nT ha) (k.trans (x2.kept T)) ⟨kvs, x2 _ _ KJ, ek⟩ (by rw [<- sp]; exact Qp) ?_ λ H3 o7 o8 k3 SE => ⟨k3, ?_, _, _, _, _, _, _, rfl⟩
  ·have := Ė List.length sp;rw [lf, Ì, Ì] at this;omega
  ·rw [aw eg, List.flatten_append, List.flatten_cons, List.flatten_nil, ã];exact SE
 ·rintro σ H' ⟨k, ⟨kvs, KJ, ek⟩, o3, o4, o5, o6, o7, o8, rfl⟩;rw [lv, show ((kh ns x).take 4) = kh ns x from rfl] at ek;have lk : kvs.length = ns.length := by
   have := Ė List.length ek;rw [Æ, Æ, lf] at this;exact this
  have Ta : (kvs.map (·.1)).Nodup := by
   rw [ek];exact Qp.map _ (λ a b h z => h (jI z))
  refine ⟨_, rfl, T, kvs, rfl, KJ, _, rfl, ae, ae, λ D hD => ?_⟩;have nD : D ≠ T := λ z => by rw [z, KJ] at hD; cases hD
  refine f6 (n := ((kvs.length : Nat) : Int).toNat) (λ i ys H2 => Ext H' H2) (by rw [Þ]; omega) (Ext.new hD) ?_ ?_
  ·rintro i ys H2 hi ly ĕ x2 os Ņ R kk;have KM : i < ns.length := by
    have : i < kvs.length := by simpa using hi
    omega
   have mi : i ∈ (kh ns x).flatten := perm.mem_iff.mpr (Ģ.mpr KM);have mk : kN i ∈ kvs.map (·.1) := by rw [ek]; exact õ.mpr ⟨i, mi, rfl⟩
   obtain ⟨kv, OL, e⟩ := õ.mp mk
   match os, Ņ with
   | [p0], _ =>
    refine ⟨⟨[_], rfl, rfl⟩, _, rfl, _, rfl, T, kv.2, rfl, .inl ⟨kvs, kN i, .inl (x2 _ _ KJ), ?_, ?_⟩, kk _ _ ĕ (aV _ x2 hD)⟩
    ·show V.int (0 + (i : Int)) = V.int ((i : Nat) : Int);rw [Ě]
    ·have : (kN i, kv.2) ∈ kvs := by rw [<- e]; exact OL
     exact (ik Ta this).symm
  ·rintro ys H2 ly ĕ x2;have Jz : H D = none := by
    cases e : H D with
    | none => rfl
    | some o => rw [k _ _ e nD] at hD; cases hD
   refine q D ys H2 Jz (λ b o e => ?_) ĕ;exact x2 _ _ (k _ _ e (nT e))
end
def xZ (wi : TI) (k : Nat) (js : List Nat) (g : TG) (tk tv : TE) : TE := λ σ H Q => wi σ H λ J H1 => ∀ D, H1 D = none -> ∃ W : Nat -> Nat -> List (List Key × V) -> Hp -> Prop, (∃ m, W 0 m [] (ao H1 D (.dT []))) /\
 ∀ i m ys H2, W i m ys H2 -> H2 D = some (.dT ys) /\ ((J.stop i H2 /\ Q (.ref D) H2) \/ (J.go i H2 /\ ys.length < sizeLine /\
  ∀ x H3, J.Ψ i H2 x H3 -> ∀ os : St, os.length = k -> g x (os ++ br js σ) H3 λ ġ H0 => (∃ ı : St, ı.length = k /\ ġ = ı ++ br js σ) /\ tk ġ H0 λ y H4 => tv ġ H4 λ v H5 => ∃ bk key, y = .ref bk /\ H5 bk = some (.tup (key.map kV)) /\ H5 D = some (.dT ys) /\ ∃ m', m' < m /\ W (i + 1) m' (bI ys key v) (ao H5 D (.dT (bI ys key v)))))
section
variable {X : Cx} {sc : Scope} {cl : List (Str × Addr)} {ts zs : List Str} {js : List Nat} {kx vx iter : Expr} {pos : Pos} {tg : Expr} {g : TG} {wi : TI} {tk tv : TE}
theorem xh (hu : X.A.units + 1 < cLine) (hc : X.calm = true) (S : aY X sc cl ts zs js) (hi : PI X tg iter wi) (hg : ∀ s H C fp, PG (av X sc cl (ts ++ zs) s H C fp) tg g) (hk : ∀ s H C fp, PE (av X sc cl (ts ++ zs) s H C fp) kx tk) (hv : ∀ s H C fp, PE (av X sc cl (ts ++ zs) s H C fp) vx tv)
  (hs : ∀ v, foldedSetIterable iter X.env v = pure v := by intro _; rfl) : PE X (.DictComp kx vx [⟨tg, iter, [], 0⟩] sc pos) (xZ wi ts.length js g tk tv) := by
 intro pins s σ H Q I h;rw [arm_eval_DictComp];refine đ (use := none) rfl hs S.n_ S.kind S.names (ax (hi pins s σ H _ I h) λ v s1 h1 => ax h1 λ Js s2 h2 => ?_);obtain ⟨it, fp, tn, J, H2, e, I2, T, ο, f2, body⟩ := h2;subst e;have Ii : H2 s2.heap.objs.size = none := I2.fresh;obtain ⟨W, ⟨m0, w0⟩, turn⟩ := body _ Ii;refine Ý ?_;have I3 : Inv X pins σ (ao H2 s2.heap.objs.size (.dT [])) { s2 with heap := s2.heap.push { cls := .type "dict", data := .dict #[] } } := I2.laid (a := s2.heap.objs.size) (o := .dT []) (t' := s2.toks) (λ _ _ q => Á _ q) (Å _) (qL s2.heap I2.big)
 refine Ĝ S.Ζ (by intro y hy; simp at hy) (λ Ğ hn B' => ?_) S.kind
 generalize f' : ({ s2 with heap := s2.heap.push { cls := .type "dict", data := .dict #[] } } : Shared) = s3 at I3 hn B' ⊢
 have Λ : ∀ b ∈ fp, bK X pins (ao H2 s2.heap.objs.size (.dT [])) b /\ b < s3.heap.objs.size := λ b hb => by
  obtain ⟨o, ho, _⟩ := T.obj _ _ ο b hb;have hl := È ho;have GH : b ≠ s2.heap.objs.size := Ë hl;obtain ⟨z1, z2⟩ := f2 b hb;refine ⟨⟨by rw [ah GH]; exact z1, z2⟩, ?_⟩
  rw [<- f'];show b < (s2.heap.push _).objs.size;rw [æ];exact ē hl
 have old : ∀ b o, s3.heap.get? b = some o -> Ğ.get? b = some o := λ b o e => B'.extBut b o (Ë (È e)) (Á _ e);have loop : ∀ sS : Shared, sS.heap = Ğ -> sS.os = s3.os -> sS.gens = s3.gens -> codeAny (model X.prog X.w) X.A (.compLoop (.DictComp kx vx [⟨tg, iter, [], 0⟩] sc pos) 0 (.ref it) (.ref s2.heap.objs.size) (compEnvC sc cl s3.heap.objs.size X.env))
   (compPost (model X.prog X.w) X.A X.xe none (EP X pins σ Q) (.ref s2.heap.objs.size) s3.heap.objs.size) sS := by
  intro sS eh eo eg;subst eh;have J0 : Inv (av X sc cl (ts ++ zs) s3 (ao H2 s2.heap.objs.size (.dT [])) s3.heap.objs.size fp) [] (List.replicate ts.length none ++ br js σ) (ao H2 s2.heap.objs.size (.dT [])) sS := bS I3 S Λ (Å _) eo eg old hn;generalize hX : av X sc cl (ts ++ zs) s3 (ao H2 s2.heap.objs.size (.dT [])) s3.heap.objs.size fp = X' at J0;have Ľ : ∀ {H' : Hp}, (∀ b ∈ fp, H' b = none) -> ∀ b ∈ fp, bK X' [] H' b := λ {H'} hn b hb => by
   subst hX;obtain ⟨⟨_, z1, z2, z3, z4, z5⟩, z6⟩ := Λ b hb;refine ⟨hn b hb, Ë z6, λ q => ?_, .inl hb, λ y c e => z4 y c (S.sub _ _ e), λ p hp => absurd (show p ∈ ([] : List (Addr × Obj)) from hp) (by simp)⟩
   rcases Ï.mp (I3.ř b q) with e | e
   ·exact z1 e
   ·exact z2 e
  have Hc : tn 0 sS.heap := T.keep _ _ _ ο λ b hb o e => old b o (by rw [<- f']; exact Á _ e)
  refine mN (λ n s' => ∃ i ys os H', os.length = ts.length /\ Inv X' [] (os ++ br js σ) H' s' /\ tn i s'.heap /\ (∀ b ∈ fp, H' b = none) /\ W i n ys H') ?_ m0 ⟨0, [], _, _, ç, J0, Hc, λ b hb => (Λ b hb).1.1, w0⟩;rintro n s' ⟨i, ys, os, H', Ņ, Iv, st, fr, w⟩;obtain ⟨hD, alt⟩ := turn i n ys H' w;have eP : X'.prog = X.prog := by subst hX; rfl
  have eW : X'.w = X.w := by subst hX; rfl
  have eK : X'.K = X.K := by subst hX; rfl
  have eC : X'.calm = true := by subst hX; exact hc
  have eA : X'.A = X.A := by subst hX; rfl
  have eE : X'.env = compEnvC sc cl s3.heap.objs.size X.env := by subst hX; rfl
  have eX : X'.xe = λ _ _ => False := by subst hX; rfl
  rcases alt with ⟨stop, q⟩ | ⟨go, ņ, step⟩
  ·have d := T.done X' eP eW eK eC i [] s' _ H' (λ _ _ => False) Iv (Ľ fr) st stop;rw [eA] at d;refine ax d λ r s4 ⟨hr, I4⟩ => ?_;subst hr;obtain ⟨m, hm, _⟩ := id I4.loc;rw [eE] at hm;subst hX;exact ⟨m, hm, λ h' Hx => ⟨.ref s2.heap.objs.size, H', cy I3 Λ (Å _) I4 Hx, rfl, q⟩⟩
  ·have d := T.item X' eP eW eK eC i [] s' _ H' (λ _ _ => False) Iv (Ľ fr) st go;rw [eA] at d;refine ax d λ r s4 ⟨u, hr, h4⟩ => ?_;subst hr;refine ax h4 λ _ s5 ⟨y, H5, I5, r5, y5, Δ, HA⟩ => ?_;have HE := I5.pinned (Ľ HA) (T.obj _ _ Δ);have IR : PG X' tg g := by subst hX; exact hg _ _ _ _
   have g6 := IR _ s5 _ H5 y u _ HE r5 (step y H5 y5 os Ņ);rw [eP, eW, eA, eE, eX] at g6;refine ax g6 λ _ s6 ⟨Ij, H6, I6, ⟨ı, k_, e6⟩, IB⟩ => ?_;subst e6;have KL : PE X' kx tk := by subst hX; exact hk _ _ _ _
   have g7 := KL _ s6 _ H6 _ I6 IB;rw [eP, eW, eA, eE, eX] at g7;refine ax g7 λ ku s7 ⟨k7, H7, I7, SO, SI⟩ => ?_;have KB : PE X' vx tv := by subst hX; exact hv _ _ _ _
   have g8 := KB _ s7 _ H7 _ I7 SI;rw [eP, eW, eA, eE, eX] at g8;refine ax g8 λ uv s8 ⟨v8, Wo, Wn, r8, bk, key, ek, OW, UC, m', GI, w8⟩ => ?_;subst ek;have Vn : ku = Value.ref bk := SO;subst Vn;have g9 := tQ (X := X') (A := X'.A) (E := X'.xe) (Q := λ _ s9 => Inv X' _ _ (ao Wo s2.heap.objs.size (.dT (bI ys key v8))) s9) (by rw [eA]; exact hu) Wn UC OW ņ r8 λ s9 I9 => I9
   rw [eP, eW, eA, eX] at g9;refine ax g9 λ _ s9 I8 => ?_;refine ⟨m', GI, i + 1, bI ys key v8, ı, _, k_, I8.Ĥ, T.keep _ _ _ Δ λ b hb o e => (I8.pin (b, o) (Ä _ (Ä _ (ar hb e)))).1, λ b hb => ?_, w8⟩;obtain ⟨o', e', _⟩ := T.obj _ _ Δ b hb;exact (I8.pin (b, o') (Ä _ (Ä _ (ar hb e')))).2.1
 have Hv : tn 0 Ğ := T.keep _ _ _ ο λ b hb o e => old b o (by rw [<- f']; exact Á _ e)
 exact codeAny_compStart_dict (loop _ rfl rfl rfl) (T.self _ 0 _ _ _ Hv (loop _ rfl rfl rfl))
end
section
variable {tk tv : TE} {g : TG} {k n : Nat} {cap : St} {D : Addr} {H1 : Hp} {Q : Hp -> Prop} {J : It}
theorem xp (Pv : Nat -> List (List Key × V) -> Hp -> Prop) (hz : n < sizeLine) (h0 : Pv 0 [] (ao H1 D (.dT []))) (hg : ∀ i ys H, i < n -> Pv i ys H -> J.go i H) (He : ∀ ys H, Pv n ys H -> J.stop n H)
  (hs : ∀ (i : Nat) x ys H H3, i < n -> J.Ψ i H x H3 -> ys.length <= i -> H D = some (.dT ys) -> Pv i ys H -> ∀ os : St, os.length = k -> ∀ R : V -> V -> Hp -> Prop, (∀ bk key v H5, H5 bk = some (.tup (key.map kV)) -> H5 D = some (.dT ys) -> Pv (i + 1) (bI ys key v) (ao H5 D (.dT (bI ys key v))) -> R (.ref bk) v H5) ->
   g x (os ++ cap) H3 λ ġ H0 => (∃ ı : St, ı.length = k /\ ġ = ı ++ cap) /\ tk ġ H0 λ y H4 => tv ġ H4 λ v H5 => R y v H5)
  (hd : ∀ ys H, H D = some (.dT ys) -> Pv n ys H -> Q H) :
  ∃ W : Nat -> Nat -> List (List Key × V) -> Hp -> Prop, (∃ m, W 0 m [] (ao H1 D (.dT []))) /\
   ∀ i m ys H2, W i m ys H2 -> H2 D = some (.dT ys) /\ ((J.stop i H2 /\ Q H2) \/ (J.go i H2 /\ ys.length < sizeLine /\
    ∀ x H3, J.Ψ i H2 x H3 -> ∀ os : St, os.length = k -> g x (os ++ cap) H3 λ ġ H0 => (∃ ı : St, ı.length = k /\ ġ = ı ++ cap) /\ tk ġ H0 λ y H4 => tv ġ H4 λ v H5 => ∃ bk key, y = .ref bk /\ H5 bk = some (.tup (key.map kV)) /\ H5 D = some (.dT ys) /\ ∃ m', m' < m /\ W (i + 1) m' (bI ys key v) (ao H5 D (.dT (bI ys key v))))) := by
 refine ⟨λ i m ys H => m = n - i /\ i <= n /\ ys.length <= i /\ H D = some (.dT ys) /\ Pv i ys H, ⟨n, by simp, Nat.zero_le _, Nat.le_refl _, bh, h0⟩, ?_⟩
 rintro i m ys H ⟨rfl, hi, hy, ĕ, p⟩;refine ⟨ĕ, ?_⟩;by_cases ŏ : i < n
 ·refine .inr ⟨hg i ys H ŏ p, ae, λ x H' y os Ņ => ?_⟩;refine hs i x ys H H' ŏ y hy ĕ p os Ņ _ λ bk key v H5 OW Nb p5 => ⟨bk, key, rfl, OW, Nb, n - (i + 1), ae, rfl, ŏ, ?_, bh, p5⟩;have := cG ys key v;omega
 ·have e : i = n := ae;subst e;exact .inl ⟨He ys H p, hd ys H ĕ p⟩
end
end My
namespace My
open PySem PySem.W L2
open PySem.SeqAt
open AutoSeq1 (wpAny_loadPart')
open MeetsSeq MeetsSeq2 MeetsSeq3 SeqRoads2
theorem dg (l b : Addr) (items : Array Value) (n : Nat) (dd Li : Option Addr) (sl K' : Array (Option Value)) (dt : Data) :
  Meets (Builtin.«tuple.__eq__» ⟨[.ref l, .ref b], []⟩) (λ _ R s => s.heap.get? l = some { cls := .type "tuple", dict := dd, data := .seq items n, slots := sl } /\ s.heap.get? b = some { cls := .type "dict", dict := Li, data := dt, slots := K' } /\ R (.ok (.ret .notImplemented)) s) :=
 .of_wp λ prog w A R s h => by obtain ⟨hp, g, d, tk, os⟩ := s; obtain ⟨hl, hb, h⟩ := h; have f1 := F.sub_dict_tuple; wp_walk using Gx hl, Gx hb; exact ⟨_, rfl, h⟩
theorem dh (l b : Addr) (items : Array Value) (n : Nat) (dd Li : Option Addr) (sl K' : Array (Option Value)) (dt : Data) :
  Meets (Builtin.«dict.__eq__» ⟨[.ref b, .ref l], []⟩) (λ _ R s => s.heap.get? l = some { cls := .type "tuple", dict := dd, data := .seq items n, slots := sl } /\ s.heap.get? b = some { cls := .type "dict", dict := Li, data := dt, slots := K' } /\ R (.ok (.ret .notImplemented)) s) :=
 .of_wp λ prog w A R s h => by obtain ⟨hp, g, d, tk, os⟩ := s; obtain ⟨hl, hb, h⟩ := h; have f1 := F.sub_tuple_dict; wp_walk using Gx hl, Gx hb; exact ⟨_, rfl, h⟩
theorem gO {A : Around} {s : Shared} {l b : Addr} {items : Array Value} {o2 : Obj} (hl : s.heap.IsTuple l items) (hb : s.heap.get? b = some o2) (Mz : o2.cls = .type "dict") (hu : A.units < cLine) : RcAt A s (.ref l) (.ref b) false := λ prog w E Q h => by
 obtain ⟨⟨cls, dd, data, sl⟩, ho, hc, n, hd⟩ := id hl;obtain ⟨V6, Li, data2, K'⟩ := o2;simp only at hc hd Mz;subst hc hd Mz;have GH : l ≠ b := λ e => by
  subst e;rw [ho] at hb;have z := Ė Obj.cls (Ò hb);exact absurd z (by simp)
 exact (rc_eq_decline_or (k := false) ⟨_, ho, rfl⟩ ⟨_, hb, rfl⟩ ag F.sub_dict_tuple F.slot_tuple_eq F.slot_dict_eq_refl
  (λ _ hq => call_meets F.slot_tuple_eq ⟨_, ho, rfl⟩ F.entry_tuple_eq (F.args_tuple_eq_2 _ _) (dg l b items n dd Li sl K' data2) ⟨ho, hb, hq⟩)
  (λ _ hq => call_meets F.slot_dict_eq_refl ⟨_, hb, rfl⟩ F.entry_dict_eq (F.args_dict_eq_2 _ _) (dh l b items n dd Li sl K' data2) ⟨ho, hb, hq⟩)
  (λ _ hq => wpAny_isSame_ref_other' GH ho hb (by simp) hq) (.inr hu) h)
theorem gM {A : Around} {s : Shared} {l b : Addr} {items : Array Value} {o2 : Obj} (hl : s.heap.IsTuple l items) (hb : s.heap.get? b = some o2) (Mz : o2.cls = .type "dict") (hu : A.units < cLine) : EqAt A s (.ref l) (.ref b) false := by
 refine .of_refs (λ e => ?_) (gO hl hb Mz hu);subst e;obtain ⟨o, ho, hc, _⟩ := hl;rw [ho] at hb;have z := Ė Obj.cls (Ò hb);rw [hc, Mz] at z;exact absurd z (by simp)
section
variable {X : Cx}
def Fr (K : Frag) (H : Hp) (y x : V) (b : Bool) : Prop := EF H 20 y x b \/ ∃ a es, y = .ref a /\ H a = some (.tup es) /\ Ec K "dict" x H /\ (∃ c, x = .ref c) /\ b = false
theorem wn {pins : List (Addr × Obj)} {σ : St} {H : Hp} {s : Shared} {A : Around} {x y : V} {b : Bool} {u v : Value} (I : Inv X pins σ H s) (h : Fr X.K H x y b) (hu : A.units + 20 < cLine) (ru : RelV x u) (rv : RelV y v) : EqAt A s u v b := by
 rcases h with h | ⟨a, es, rfl, ha, ty, ⟨c, rfl⟩, rfl⟩
 ·exact xJ I h hu ru rv
 ·cases (show u = Value.ref a from ru);cases (show v = Value.ref c from rv);obtain ⟨its, _, t, _⟩ := I.tuple (ą.of (K := X.K) ha);obtain ⟨⟨o, h1, h2⟩, _⟩ := qA I rv ty;exact gM t h1 h2 ae
end
end My
namespace My
open PySem PySem.W L2
open PySem.SeqAt
section
variable {X : Cx}
def oJ (K : Frag) : R2 := λ x y H Q => ∃ p xs, ∃ e : Nat -> Bool, y = .ref p /\ ñ K H p xs /\ (∀ (j : Nat) a, xs[j]? = some a -> Fr K H a x (e j)) /\ Q (.bl (!(List.range xs.length).any e)) H
theorem pM (hu : X.A.units + 64 < cLine) : fw X (compareOp .NotIn) (oJ X.K) := by
 intro pins s σ H x y v u Q I rx ry h;obtain ⟨p, xs, e, rfl, hq, he, q⟩ := h;cases ry;obtain ⟨its, r, pl, hz⟩ := I.list hq;have ln := r.length
 classical
 refine SeqAt.notIn_listAt (λ u => decide (∃ j, its[j]? = some u /\ e j = true)) pl.isList (λ w hw => ?_) ⟨.bl _, H, I, rfl, ?_⟩
 ·have TL : w ∈ its := by simpa using hw
  obtain ⟨j, hj, ej⟩ := Ĭ TL;have go : ∀ i, its[i]? = some w -> EqAt X.A.in1 s w v (e i) := λ i hi => by
   have li : i < its.length := (Ø.mp hi).1;obtain ⟨x', ex, Qa⟩ := tU r li;have ew : its[i] = w := (Ø.mp hi).2;rw [ew] at Qa;exact wn I (he i x' ex) (by have := X.A.in1_units; omega) Qa rx
  by_cases hc : ∃ j, its[j]? = some w /\ e j = true
  ·rw [Ç hc];obtain ⟨i, hi, ei⟩ := hc;have := go i hi;rw [ei] at this;exact this
  ·rw [â hc];have QD : its[j]? = some w := by rw [Ã hj, ej]
   have := go j QD;cases eb : e j with
   | true => exact absurd ⟨j, QD, eb⟩ hc
   | false => rw [eb] at this; exact this
 ·have : its.toArray.any (λ u => decide (∃ j, its[j]? = some u /\ e j = true)) = (List.range xs.length).any e := by
   rw [ĸ];simp only [List.any_toArray, List.any_eq_true, decide_eq_true_eq, List.mem_range];constructor
   ·rintro ⟨u, _, j, hj, ej⟩;exact ⟨j, by have := (Ø.mp hj).1; omega, ej⟩
   ·rintro ⟨j, hj, ej⟩;have lj : j < its.length := ae;exact ⟨its[j], İ lj, j, Ã lj, ej⟩
  rw [this];exact q
end
end My
namespace My
open PySem PySem.W L2
theorem sr {n i : Nat} {z : Nat × Nat} (h : z ∈ pO n i) : z.1 < i /\ z.2 <= n := by
 unfold pO at h;simp only [List.mem_flatMap, List.mem_range, List.mem_map] at h;obtain ⟨a, ha, b, hb, rfl⟩ := h;exact ⟨ha, by show b <= n; omega⟩
theorem jK (n : Nat) : ∀ i, (pO n i).Nodup
 | 0 => by simp [pO]
 | i + 1 => by
  rw [iG, GZ];refine ⟨jK n i, ?_, λ a ha b hb e => ?_⟩
  ·exact List.nodup_range.map _ (λ a b h z => h (by injection z))
  ·obtain ⟨j, _, rfl⟩ := õ.mp hb;have := (sr ha).1;rw [e] at this;exact ÿ _ this
theorem rc {m n : Nat} {z : Nat × Nat} : z ∈ fY m n ↔ z.1 <= m /\ z.2 <= n := by
 constructor
 ·intro h;have := sr h;omega
 ·intro h;unfold fY pO;simp only [List.mem_flatMap, List.mem_range, List.mem_map];exact ⟨z.1, ae, z.2, ae, rfl⟩
abbrev nW (z : Nat × Nat) : List Key := [kN z.1, kN z.2]
theorem jq {y z : Nat × Nat} (h : nW y = nW z) : y = z := by
 injection h with h1 h2
 injection h2 with h2 _
 have h1 := jI h1;have h2 := jI h2;obtain ⟨a, b⟩ := y;obtain ⟨c, d⟩ := z;have h1 : a = c := h1;have h2 : b = d := h2;rw [h1, h2]
def j9 (t m a b c d : Nat) (z : Nat × Nat) : Bool := (bC a b c d z.1 z.2).all λ f => !cI t m a b c d f
theorem uc {t m a b c d : Nat} {z : Nat × Nat} (h : ∀ f ∈ bC a b c d z.1 z.2, cI t m a b c d f = false) : j9 t m a b c d z = true := by
 unfold j9;rw [ŋ];intro f hf;rw [h f hf];rfl
theorem kP {t m a b c d : Nat} {z : Nat × Nat} {f : F4} (hf : f ∈ bC a b c d z.1 z.2) (h : cI t m a b c d f = true) : j9 t m a b c d z = false := by
 unfold j9;rw [List.all_eq_false];exact ⟨f, hf, by rw [h]; decide⟩
def EV (H : Hp) (v : V) (b : Bool) : Prop := (b = true /\ v = .ĉ) \/ (b = false /\ ∃ l us, v = .ref l /\ H l = some (.lst us))
def K6 (H : Hp) (t m a b c d : Nat) (kv : List Key × V) (z : Nat × Nat) : Prop := kv.1 = nW z /\ EV H kv.2 (j9 t m a b c d z)
theorem K6.ext {H H' : Hp} {t m a b c d : Nat} {kv : List Key × V} {z : Nat × Nat} (h : K6 H t m a b c d kv z) (x : ∀ l us, H l = some (.lst us) -> H' l = some (.lst us)) : K6 H' t m a b c d kv z := by
 refine ⟨h.1, ?_⟩;rcases h.2 with h | ⟨h1, l, us, h2, h3⟩
 ·exact .inl h
 ·exact .inr ⟨h1, l, us, h2, x _ _ h3⟩
theorem fF {H : Hp} {t m a b c d : Nat} : ∀ {kvs : List (List Key × V)} {zs : List (Nat × Nat)}, Paired (K6 H t m a b c d) kvs zs -> kvs.map (·.1) = zs.map nW
 | _, _, .nil => rfl
 | _, _, .cons r p => by rw [Í, Í, r.1, fF p]
section
variable {P : Program} {w : World} {K : Frag} {mg : bE} {base : Heap} {CL CD : Addr}
abbrev yU : Stmt := cf 59
def Cr (H : Hp) (r : Addr) (t m : Nat) (ns : List Int) (x : Nat) : Prop := ∃ kvs, H r = some (.dT kvs) /\ Paired (K6 H t m (gA ns x) (gB ns x) (gC ns x) (gD ns x)) kvs (fY (gA ns x + gD ns x) (gB ns x + gC ns x))
def qV : Sp := λ vs H Q _ => ∃ (o : Addr) (lv : V) (x t m : Nat) (ns : List Int), vs = [.ref o, .int (x : Nat), lv] /\ Ż H o ns /\ pT ns /\ 1 <= ns.length /\ ns.length <= 20 /\ x < 2 ^ ns.length /\ Hf H lv t m /\ ∀ r H', H r = none -> Ext H H' -> Cr H' r t m ns x -> Q (.ref r) H'
abbrev Fl : List Str := ["outcomes", "dealing", "level", "groups"]
theorem LN : af Fl ["outcomes", "dealing", "level"] (aa yU) := aQ
abbrev Cg : Scope := cT [("pair", .local), ("listing_by", .globalImplicit), ("kept_four", .globalImplicit), ("groups", .free), ("level", .free)]
theorem Dj : ((["pair"] : List Str) ++ (["groups", "level"] : List Str)).Nodup := aF
section
variable {f : Addr} {ò : Value} {A : Around} {outer : List Env} {s : Shared} {H : Hp} {E : XK}
theorem xP : aY (aU au P w K mg base Fl "kept_pairs" (aa yU) f ò A outer s H E).ť Cg [("level", s.heap.objs.size + 1), ("groups", s.heap.objs.size + 2)] ["pair"] ["groups", "level"] [3, 2] :=
 bP (M := ["level", "groups"]) (L := [(".0", .local), ("pair", .local), ("listing_by", .globalImplicit), ("kept_four", .globalImplicit), ("groups", .cell), ("level", .cell)]) rfl rfl aF aF aF rfl rfl rfl aF aF rfl rfl rfl
end
def Bw : TE := cC wS [] E0 (ac (am 1) (ac (cC w4 [] E0 (ac (am 1) (ac (am 0) (ac (am 2) aH)))) aH))
def wE (K : Frag) : TE := xZ (cX K (cC uG [] E0 (ac (am 3) aH))) 1 [3, 2] (aP 0) (am 0) Bw
theorem wz {H : Hp} {Q : VK} {o0 o1 : Option V} {g : Addr} {lv : V} {ns : List Int} {x t m : Nat} (gp : G_ H g ns x) (Χ : pT ns) (ś : ns.length <= 20) (p_ : Hf H lv t m) (q : ∀ D H', H D = none -> Ext H H' -> Cr H' D t m ns x -> Q (.ref D) H') : wE K [o0, o1, some lv, some (.ref g)] H Q := by
 have sm := ic (x := x) Χ;have ln := gp.ln;unfold wE xZ cX;refine ⟨_, rfl, g, _, _, _, _, rfl, ln, ae, ae, ae, ae, λ l us H1 hl x1 h1 pr => ⟨l, rfl, ⟨_, ñ.of h1⟩, λ D hD => ?_⟩⟩;have Jz := bj x1 hD;have lu : us.length = (fY (gA ns x + gD ns x) (gB ns x + gC ns x)).length := Ö pr;have ll : (fY (gA ns x + gD ns x) (gB ns x + gC ns x)).length <= 41 * 41 := by
  unfold fY;rw [gX];exact ŝ ae ae
 refine xp (n := us.length) (λ i ys H' => Ext H1 H' /\ Paired (K6 H' t m (gA ns x) (gB ns x) (gC ns x) (gD ns x)) ys ((fY (gA ns x + gD ns x) (gB ns x + gC ns x)).take i)) (by rw [lu, Þ]; omega) ⟨Ext.new hD, .nil⟩ (λ i ys H' hi p => ⟨_, _, ñ.of (p.1 _ _ h1), Ã hi⟩) (λ ys H' p => ⟨_, ñ.of (p.1 _ _ h1), Å _⟩) ?_ ?_
 ·rintro i y ys H' H3 hi ⟨rfl, hy⟩ ly ĕ ⟨x', pv⟩ os Ņ R kk;obtain ⟨z, ez, b, rfl, hb⟩ := ð pr (hy _ (ñ.of (x' _ _ h1)));have X := x1.trans x'
  match os, Ņ with
  | [p0], _ =>
   refine ⟨⟨[_], rfl, rfl⟩, _, rfl, ?_⟩;refine ⟨_, rfl, _, rfl, _, rfl, _, rfl, g, b, lv, _, _, _, _, z.1, z.2, t, m, rfl, ln.ext X, ae, x' _ _ hb, p_.kp X.Ū, λ v H4 x4 kf => ?_⟩;have fin : ∀ (u : V) (H5 : Hp), Ext H4 H5 -> EV H5 u (j9 t m (gA ns x) (gB ns x) (gC ns x) (gD ns x) z) -> R (.ref b) u H5 := λ u H5 x5 kv => by
    have X5 := x4.trans x5;have Nb := X5 _ _ ĕ;have L7 : nW z ∉ ys.map (·.1) := by
     rw [fF pv];intro h;obtain ⟨z', JP, e⟩ := õ.mp h;cases jq e;have nd := jK (gB ns x + gC ns x) (gA ns x + gD ns x + 1);have sp := aw ez;have Qr : ((fY (gA ns x + gD ns x) (gB ns x + gC ns x)).take (i + 1)).Nodup := nd.sublist (List.take_sublist _ _);rw [sp, GZ] at Qr;exact Qr.2.2 z JP z (ê.mpr rfl) rfl
    have keep : ∀ l us, H5 l = some (.lst us) -> ao H5 D (.dT (bI ys (nW z) u)) l = some (.lst us) := λ l us e => by
     rw [ah (λ z' => by rw [z', Nb] at e; cases e)]
     exact e
    refine kk b (nW z) u H5 (X5 _ _ (x' _ _ hb)) Nb ⟨aV _ (x'.trans X5) hD, ?_⟩;rw [dA L7, aw ez];refine aN ⟨rfl, ?_⟩ (Paired.imp' (λ _ _ r => (r.ext λ l us e => X5 _ _ e).ext λ l us e => ?_) pv)
    ·rcases kv with h | ⟨h1, l, us, h2, h3⟩
     ·exact .inl h
     ·refine .inr ⟨h1, l, us, h2, ?_⟩;rw [<- dA L7];exact keep _ _ h3
    ·rw [<- dA L7];exact keep _ _ e
   refine ⟨g, v, rfl, ?_⟩;rcases kf with ⟨rfl, no⟩ | ⟨fr, mf, kt, t4⟩
   ·exact .inl ⟨rfl, fin .ĉ H4 (Ext.refl _) (.inl ⟨uc no, rfl⟩)⟩
   ·exact .inr ⟨ns, x, fr, gp.ext (X.trans x4), Χ, ś, t4, λ l us H5 _ x5 h5 => fin _ H5 x5 (.inr ⟨kP mf kt, l, us, rfl, h5⟩)⟩
 ·rintro ys H' ĕ ⟨x', pv⟩;rw [lu, ö] at pv;exact q D H' Jz (x1.trans x') ⟨ys, ĕ, pv⟩
theorem AQ {f a1 a2 a3 a4 a5 : Addr} {fd d1 d2 d3 d4 d5 : FuncData} (F : ŀ K "kept_pairs" "kept_pairs" yU f fd) (A1 : Df P w K mg base au 7 "groups_seen" ["outcomes", "dealing"] uW a1 d1) (A2 : Df P w K mg base au 5 "need_level" ["thing"] xN a2 d2) (A3 : Df P w K mg base au 1 "all_pairs" ["groups"] uG a3 d3) (A4 : Df P w K mg base au 7 "kept_four" ["groups", "pair", "level"] w4 a4 d4) (A5 : Df P w K mg base au 1 "listing_by" ["groups", "four"] wS a5 d5) : az P w K mg base au 8 f fd ["outcomes", "dealing", "level"] qV := by
 refine cE F LN λ ò A outer s H vs Q E hr h => ?_;obtain ⟨o, lv, x, t, m, ns, rfl, ys, Χ, l1, ś, hx, p_, q⟩ := h;have nd := LN.nd;have M4 : ċ 5 _ := hr.mono ag;have Η : ċ 1 _ := hr.mono ag;have hu : (A.deeper (PyProof.Rows.envOfC "kept_pairs" (aa yU) s.heap.objs.size f ò)).units + 1 < cLine := by have := hr.un; omega
 refine cr (t := bB (aT (cC uW [] E0 (ac (am 0) (ac (am 1) aH))) (aP 3)) (bB (eB (cC xN [] E0 (ac (am 2) aH))) (bY (wE K))))
  (cH ⟨cD (i := 3) nd rfl (Or.inr rfl) (bH A1 hr ai (ad (pv 0) (ad (pv 1) ap)))⟩
  (cH ⟨bu (bH A2 M4 ai (ad (pv 2) ap))⟩
  (aR ⟨cp (xh (tk := am 0) (tv := Bw) (g := aP 0) hu rfl xP (bD (bH A3 Η ai (ad (pv 3) ap))) (λ s H C fp => by exact bf (i := 0) Dj rfl (.inl rfl)) (λ s H C fp => by exact pv 0) (λ s H C fp => by exact bH A5 Η ai (ad (pv 1) (ad (bH A4 hr ai (ad (pv 1) (ad (pv 0) (ad (pv 2) ap)))) ap))))⟩))) ⟨?_⟩
 refine ⟨_, rfl, _, rfl, o, x, ns, rfl, ys, Χ, l1, ś, hx, λ g H1 hg x1 gp => ?_⟩;refine ⟨_, rfl, lv, t, m, rfl, p_.kp x1.Ū, ?_⟩;exact wz (K := K) gp Χ ś (p_.kp x1.Ū) λ D H2 hD x2 kd => q D H2 (bj x1 hD) (x1.trans x2) kd
abbrev Cu : Stmt := cf 60
def BO : Sp := λ vs H Q _ => ∃ (z : Addr) (p q : Int), vs = [.ref z] /\ H z = some (.tup [.int p, .int q]) /\ Q (.bl true) H
theorem DU : af ["thing"] ["thing"] (aa Cu) := aQ
theorem B0 {f a1 : Addr} {fd d1 : FuncData} (N : tD K) (F : ŀ K "is_pair" "is_pair" Cu f fd) (A1 : Df P w K mg base au 1 "is_number" ["thing"] (gV K) a1 d1) (mi : mg "isinstance" = none) (mt : mg "tuple" = none) (ml : mg "len" = none) : az P w K mg base au 2 f fd ["thing"] BO := by
 refine cE F DU λ ò A outer s H vs Q E hr h => ?_;obtain ⟨z, p, q, rfl, hz, qq⟩ := h;refine ⟨_, bz (cp (cj (ak (bX N) rfl mi é (ad (pv 0) (ad (fB rfl mt į) ap))) (cj (bN iQ (ak aq rfl ml ä (ad (pv 0) ap)) ay (aA _)) (cj (bH A1 hr ai (ad (cq dG (pv 0) ay) ap)) (de (bH A1 hr ai (ad (cq dG (pv 0) ay) ap))))))), ?_⟩;refine ⟨_, rfl, _, _, _, _, rfl, .inl (.tup hz), rfl, _, rfl, fO ⟨_, rfl, z, _, rfl, .inr (ą.of hz), rfl, _, rfl, fO ⟨_, rfl, z, _, _, _, rfl, rfl, ą.of hz, rfl, _, rfl, (Ļ.int (G := H) p).th, _, rfl, fO ⟨_, rfl, z, _, _, _, rfl, rfl, ą.of hz, rfl, _, rfl, (Ļ.int (G := H) q).th, qq⟩⟩⟩⟩
end
abbrev uo (z : Nat × Nat) : PyData := .tuple [.int ((z.1 : Nat) : Int), .int ((z.2 : Nat) : Int)]
theorem qj {H : Hp} {v : V} {z : Nat × Nat} (h : Pn H v z) : Ļ H v (uo z) := by
 obtain ⟨t, rfl, h⟩ := h;exact .tup h (.cons (.int _) (.cons (.int _) .nil))
theorem yv {K : Frag} {H : Hp} {Q : VK} {l z : Addr} {us : List V} {zs : List (Nat × Nat)} {p : Nat × Nat} (hl : H l = some (.lst us)) (pr : Paired (Pn H) us zs) (hz : H z = some (.tup [.int ((p.1 : Nat) : Int), .int ((p.2 : Nat) : Int)])) (mp : p ∈ zs) (q : Q (.bl false) H) : oJ K (.ref z) (.ref l) H Q := by
 refine ⟨l, us, λ j => (zs[j]?).elim false λ y => cc (uo y) (uo p), rfl, ñ.of hl, λ j a ea => ?_, ?_⟩
 ·obtain ⟨y, ey, py⟩ := ð pr ea;refine .inl (.inr ⟨uo y, uo p, qj py, qj ⟨z, rfl, hz⟩, rfl, rfl, by simp [PyData.depth, PyData.depthAll], ?_⟩)
  show (zs[j]?).elim false _ = _;rw [ey];rfl
 ·have lu : us.length = zs.length := Ö pr;have : (List.range us.length).any (λ j => (zs[j]?).elim false λ y => cc (uo y) (uo p)) = true := by
   rw [Ht];obtain ⟨j, hj, ej⟩ := Ĭ mp;refine ⟨j, Ģ.mpr ae, ?_⟩;rw [Ã hj, ej];show cc (uo p) (uo p) = true;exact km rfl
  rw [this];exact q
def Lp (a b c d : Nat) (H : Hp) (v : V) (f : F4) : Prop := ∃ t v4 v1 v2, v = V.ref t /\ H t = some (.tup [v4, v1, v2]) /\ T4 H v4 f /\ HC H v1 (bw (fS a b c d f (jn (lU a b c d))) (fS a b c d f λ _ => 1)) (aI (fS a b c d f (jn (lU a b c d))) (fS a b c d f λ _ => 1)) /\ HC H v2 (bw (fS a b c d f (jz (lU a b c d))) (fS a b c d f λ _ => 1)) (aI (fS a b c d f (jz (lU a b c d))) (fS a b c d f λ _ => 1))
theorem Lp.kp {a b c d : Nat} {H H' : Hp} {v : V} {f : F4} (h : Lp a b c d H v f) (k : eV H H') : Lp a b c d H' v f := by
 obtain ⟨t, v4, v1, v2, e, h1, h2, h3, h4⟩ := h;exact ⟨t, v4, v1, v2, e, k _ _ h1, h2.kp k, h3.kp k, h4.kp k⟩
section
variable {P : Program} {w : World} {K : Frag} {mg : bE} {base : Heap} {CL CD : Addr}
abbrev Bl : Stmt := cf 61
def xR : Sp := λ vs H Q _ => ∃ (o z : Addr) (x : Nat) (p : Nat × Nat) (ns : List Int), vs = [.ref o, .int (x : Nat), .ref z] /\ Ż H o ns /\ pT ns /\ 1 <= ns.length /\ ns.length <= 20 /\ x < 2 ^ ns.length /\ H z = some (.tup [.int ((p.1 : Nat) : Int), .int ((p.2 : Nat) : Int)]) /\ p ∈ fY (gA ns x + gD ns x) (gB ns x + gC ns x) /\
 ∀ l us H', H l = none -> Ext H H' -> H' l = some (.lst us) -> Paired (Lp (gA ns x) (gB ns x) (gC ns x) (gD ns x) H') us (bC (gA ns x) (gB ns x) (gC ns x) (gD ns x) p.1 p.2) -> Q (.ref l) H'
abbrev FT : List Str := ["outcomes", "dealing", "pair", "groups", "rows", "four", "high", "low"]
theorem LH : af FT ["outcomes", "dealing", "pair"] (aa Bl) := aQ
theorem BC {f a1 a2 a3 a4 a5 : Addr} {fd d1 d2 d3 d4 d5 : FuncData} (F : ŀ K "pair_rows" "pair_rows" Bl f fd) (A1 : Df P w K mg base au 7 "groups_seen" ["outcomes", "dealing"] uW a1 d1) (A2 : Df P w K mg base au 2 "is_pair" ["thing"] BO a2 d2) (A3 : Df P w K mg base au 1 "all_pairs" ["groups"] uG a3 d3) (A4 : Df P w K mg base au 3 "all_fours" ["groups", "pair"] wk a4 d4) (A5 : Df P w K mg base au 6 "four_shares" ["groups", "four"] xF a5 d5) : az P w K mg base au 8 f fd ["outcomes", "dealing", "pair"] xR := by
 refine cE F LH λ ò A outer s H vs Q E hr h => ?_;obtain ⟨o, z, x, p, ns, rfl, ys, Χ, l1, ś, hx, hz, mp, q⟩ := h;have nd := LH.nd;have Hy : ċ 2 _ := hr.mono ag;have Η : ċ 1 _ := hr.mono ag;have IP : ċ 3 _ := hr.mono ag;have Ua : ċ 6 _ := hr.mono ag;have hu : (A.deeper (PyProof.Rows.envOfC "pair_rows" (aa Bl) s.heap.objs.size f ò)).units + 64 < cLine := hr.units;refine ⟨_, b6 (cD (i := 3) nd rfl (Or.inl rfl) (bH A1 hr ai (ad (pv 0) (ad (pv 1) ap))))
  (b6 (bA (PW.pt (iI (bF (aX (bH A2 Hy ai (ad (pv 2) ap)))) (eL (aM (pM hu) (pv 2) (bH A3 Η ai (ad (pv 3) ap)) rfl)))) (bz bV) gN)
  (b6 (cD (i := 4) nd rfl (Or.inl rfl) (cK ap))
  (b6 (bO å rfl (bD (bH A4 IP ai (ad (pv 3) (ad (pv 2) ap)))) (bf (i := 5) nd rfl (Or.inl rfl))
   (b6 (cM (bH A5 Ua ai (ad (pv 3) (ad (pv 5) ap))) (bd rfl (bT (bf (i := 6) nd rfl (Or.inl rfl)) (bT (bf (i := 7) nd rfl (Or.inl rfl)) aC))))
   (bz (bu (eD ì ĩ Ĩ bo (pv 4) (ad (aO (ad (pv 5) (ad (pv 6) (ad (pv 7) ap)))) ap))))))
  (bz (cp (pv 4)))))), ?_⟩
 have sm := ic (x := x) Χ;refine ⟨_, rfl, _, rfl, o, x, ns, rfl, ys, Χ, l1, ś, hx, λ g H1 hg x1 gp => ?_⟩;have ln := gp.ln;have KA := x1 _ _ hz;refine ⟨_, rfl, z, _, _, rfl, KA, _, rfl, c6 ⟨_, rfl, _, rfl, g, _, _, _, _, rfl, ln, ae, ae, ae, ae, λ l us H2 hl x2 h2 pr => ?_⟩⟩;have M0 := x2 _ _ KA;refine yv h2 pr M0 mp ⟨_, rfl, c6 ?_⟩;refine ⟨fk, λ R hR => ?_⟩;have x3 := Ext.new (o := .lst []) hR;have X3 := x2.trans x3;refine ⟨_, rfl, _, rfl, g, z, _, _, _, _, p.1, p.2, rfl, ln.ext X3, ae, ae, x3 _ _ M0, λ RN fs H4 hF x4 h4 pf => ⟨RN, rfl, ⟨_, ñ.of h4⟩, ?_⟩⟩;have X4 := X3.trans x4;have QO := x4 _ _ (show ao _ R (.lst []) R = some (.lst []) from bh);have Tp : fs.length = (bC (gA ns x) (gB ns x) (gC ns x) (gD ns x) p.1 p.2).length := Ö pf;have nF : RN ≠ R := λ e => by rw [e, bh] at hF; cases hF
 have Qv : (bC (gA ns x) (gB ns x) (gC ns x) (gD ns x) p.1 p.2).length <= 21 * 21 := Ú (jr _ _ _ _ _ _) (ŝ ae ae);have N7 : ∀ {b' : Addr} {ob : HO}, H1 b' = some ob -> b' ≠ R := λ {b' ob} e e' => by rw [e', bj x2 hR] at e; cases e
 refine fD (xs := fs) (λ i σ H' => Kept H4 H' R /\ (∃ us, H' R = some (.lst us) /\ Paired (Lp (gA ns x) (gB ns x) (gC ns x) (gD ns x) H') us ((bC (gA ns x) (gB ns x) (gC ns x) (gD ns x) p.1 p.2).take i)) /\ ∃ o5 o6 o7, σ = [some (.ref o), some (.int (x : Nat)), some (.ref z), some (.ref g), some (.ref R), o5, o6, o7]) ⟨(Ext.refl _).kept R, ⟨[], QO, .nil⟩, _, _, _, rfl⟩ (λ i σ H' _ pv => ñ.of (pv.1 _ _ h4 nF)) ?_ ?_
 ·rintro i v σ H' ev ⟨k, ⟨Il, KD, Ku⟩, o5, o6, o7, rfl⟩;obtain ⟨fr, ef, tf⟩ := ð pf ev;have kU : eV H4 H' := λ b' xs e => k _ _ e (λ e' => by rw [e', QO] at e; cases e)
  have mf := á ef;have To : Gw H' g (gA ns x) (gB ns x) (gC ns x) (gD ns x) := by
   obtain ⟨vs, q1, q2⟩ := ln;exact ⟨vs, k _ _ (X4 _ _ q1) (N7 q1), Paired.imp' (λ _ _ ⟨l', xs, e1, e2, e3⟩ => ⟨l', xs, e1, k _ _ (X4 _ _ e2) (N7 e2), e3⟩) q2⟩
  refine ⟨_, rfl, _, rfl, g, v, _, _, _, _, fr, rfl, To, ae, tf.kp kU, gm mf, λ r H5 M4 x5 tw => ?_⟩;obtain ⟨v1, v2, Hz, s1, s2⟩ := tw;refine ⟨r, _, rfl, ą.of Hz, rfl, _, _, rfl, _, _, rfl, rfl, ?_⟩;have Mj := x5 _ _ KD;refine ⟨_, rfl, .inl ⟨rfl, _, ñ.of Mj⟩, _, rfl, _, rfl, _, rfl, fk, λ t ht => ?_⟩;have x6 := Ext.new (o := .tup [v, v1, v2]) ht;have Mi := x6 _ _ Mj;have kl : eV _ _ := b9 (ys := Il ++ [.ref t]) Mi;have lu : Il.length <= 21 * 21 := by
   have := Ö Ku;rw [this, Ŋ];omega
  refine ⟨R, Il, .ref t, rfl, rfl, Mi, by rw [Þ]; omega, λ b' o' e n => ?_, ⟨Il ++ [.ref t], bh, ?_⟩, _, _, _, rfl⟩
  ·rw [ah n];exact x6 _ _ (x5 _ _ (k _ _ e n))
  ·rw [aw ef];refine aN ⟨t, v, v1, v2, rfl, kl _ _ bh, ((tf.kp kU).kp (x5.trans x6).Ū).kp kl, (s1.kp x6.Ū).kp kl, (s2.kp x6.Ū).kp kl⟩ (Paired.imp' (λ _ _ r => (r.kp (x5.trans x6).Ū).kp kl) Ku)
 ·rintro σ H' ⟨k, ⟨Il, KD, Ku⟩, o5, o6, o7, rfl⟩;rw [Tp, ö] at Ku;refine ⟨_, rfl, q R Il H' (bj x1 (bj x2 hR)) (λ b' o' e => ?_) KD Ku⟩;have e1 := x1 _ _ e;exact k _ _ (X4 _ _ e1) (N7 e1)
end
section
variable {P : Program} {w : World} {K : Frag} {mg : bE} {base : Heap} {CL CD : Addr}
abbrev yY : Stmt := cf 62
abbrev dm (ns : List Int) (x : Nat) : List (Nat × Nat) := fY (gA ns x + gD ns x) (gB ns x + gC ns x)
abbrev cU (t m : Nat) (ns : List Int) (x : Nat) (z : Nat × Nat) : Bool := j9 t m (gA ns x) (gB ns x) (gC ns x) (gD ns x) z
abbrev pN (z : Nat × Nat) : Int := ((z.1 : Nat) : Int) - ((z.2 : Nat) : Int)
def By (H : Hp) (v : V) (t m : Nat) (ns : List Int) (x : Nat) : Prop := (v = .ĉ /\ ∀ z ∈ dm ns x, cU t m ns x z = true) \/ ∃ u lo hi, v = V.ref u /\ H u = some (.tup [.int lo, .int hi]) /\ ∀ z ∈ dm ns x, cU t m ns x z = false -> lo <= pN z /\ pN z <= hi
def yQ : Sp := λ vs H Q _ => ∃ (o : Addr) (lv : V) (x t m : Nat) (ns : List Int), vs = [.ref o, .int (x : Nat), lv] /\ Ż H o ns /\ pT ns /\ 1 <= ns.length /\ ns.length <= 20 /\ x < 2 ^ ns.length /\ Hf H lv t m /\ ∀ v H', Ext H H' -> By H' v t m ns x -> Q v H'
abbrev EQ : List Str := ["outcomes", "dealing", "level", "kept", "nets"]
theorem LI : af EQ ["outcomes", "dealing", "level"] (aa yY) := aQ
abbrev Aa : Scope := cT [("better", .local), ("worse", .local), ("kept", .free)]
theorem zw : ((["better", "worse"] : List Str) ++ (["kept"] : List Str)).Nodup := aF
section
variable {f : Addr} {ò : Value} {A : Around} {outer : List Env} {s : Shared} {H : Hp} {E : XK}
theorem xw : aY (aU au P w K mg base EQ "net_stretch" (aa yY) f ò A outer s H E).ť Aa [("kept", s.heap.objs.size + 1)] ["better", "worse"] ["kept"] [3] :=
 bP (M := ["kept"]) (L := [(".0", .local), ("better", .local), ("worse", .local), ("kept", .cell)]) rfl rfl aF aF aF rfl rfl rfl aF aF rfl rfl rfl
end
abbrev Br : R2 := λ x y H Q => y = .ĉ /\ Q (.bl (!decide (x = .ĉ))) H
def Bo : TT := tB (aZ Br (gH (am 2) (dq (ac (am 0) (ac (am 1) aH)))) (tC .ĉ))
def zE (K : Frag) : TE := db (ww (am 3)) 2 [3] (gW K 0 1) Bo (aZ gP (am 0) (am 1))
def iU (t m : Nat) (ns : List Int) (x : Nat) (zs : List (Nat × Nat)) : List Int := (zs.filter λ z => !cU t m ns x z).map pN
theorem yf {H : Hp} {Q : VK} {o0 o1 o2 o4 : Option V} {r : Addr} {t m x : Nat} {ns : List Int} (kd : Cr H r t m ns x) (ś : (dm ns x).length <= 2000) (q : ∀ D H', H D = none -> (∀ b o, H b = some o -> b ≠ r -> H' b = some o) -> H' D = some (.lst ((iU t m ns x (dm ns x)).map V.int)) -> Q (.ref D) H') : zE K [o0, o1, o2, some (.ref r), o4] H Q := by
 obtain ⟨kvs, hr, pr⟩ := kd;have lk : kvs.length = (dm ns x).length := Ö pr;refine ⟨_, rfl, r, .dT kvs, rfl, True.intro, .inl hr, λ ob H2 fz D hD => ?_⟩;have Tb : D ≠ r := λ z => by rw [z, fz.1] at hD; cases hD
 have ln : dU (.dT kvs) = kvs.length := rfl;have nd : (kvs.map (·.1)).Nodup := by
  rw [fF pr];exact (jK _ _).map _ (λ a b h z => h (jq z))
 refine dL (n := kvs.length) (λ i ys H' => Ext H2 H' /\ ys = (iU t m ns x ((dm ns x).take i)).map V.int) (by rw [lk, Þ]; omega) ⟨Ext.new hD, rfl⟩ (λ i ys H' hi p => ⟨p.1 _ _ fz.1, by rw [ln]; exact hi⟩) (λ ys H' p => ⟨p.1 _ _ fz.1, by rw [ln]; exact Å _⟩) ?_ ?_
 ·rintro i y ys H' H3 hi ⟨rfl, v, pa⟩ ly ĕ ⟨x', rfl⟩ os Ņ N kk;rcases pa with ⟨_, _, e, _⟩ | ⟨Md, k, b, e, hk, rfl, hb⟩
  ·cases e
  ·cases e;obtain ⟨z, ez, ek, kv⟩ := ð pr hk;have ek : k = nW z := ek;subst ek
   match os, Ņ with
   | [p0, p1], _ =>
    refine ⟨b, _, rfl, ą.of hb, rfl, _, _, rfl, _, _, rfl, rfl, ⟨[_, _], rfl, rfl⟩, ?_⟩;have nk : (decide (v = .ĉ)) = cU t m ns x z := by
     rcases kv with ⟨h1, h2⟩ | ⟨h1, l, us, h2, _⟩
     ·have h2 : v = .ĉ := h2;rw [h2]; exact h1.symm
     ·have h2 : v = .ref l := h2;rw [h2]; exact h1.symm
    refine ⟨_, rfl, _, rfl, _, rfl, fk, λ u hu => ?_⟩;have x3 := Ext.new (o := .tup [.int ((z.1 : Nat) : Int), .int ((z.2 : Nat) : Int)]) hu;refine ⟨r, v, rfl, .inr ⟨kvs, nW z, u, .inr ⟨ob, x3 _ _ (x' _ _ fz.1)⟩, rfl, bh, ?_⟩, rfl, _, rfl, ?_⟩
    ·exact (ik nd (á hk)).symm
    rw [nk];refine ⟨λ e => ?_, λ e => ?_⟩
    ·refine kk _ _ ⟨x'.trans x3, ?_⟩ ae (x3 _ _ ĕ);unfold iU;rw [aw ez, û, Ó, Ó];simp [e]
    ·refine ⟨_, rfl, _, rfl, _, _, rfl, rfl, x3 _ _ ĕ, kk _ _ ⟨aV _ (x'.trans x3) hD, ?_⟩ (by rw [Ì, Ę]; omega) bh⟩
     unfold iU;rw [aw ez, û, Ó, Ó];have e' : cU t m ns x z = false := by simpa using e
     simp [e']
 ·rintro ys H' ly ĕ ⟨x', rfl⟩;rw [lk, ö] at ĕ;refine q D H' (by rw [<- fz.2 D Tb]; exact hD) (λ b o e n => x' _ _ (by rw [fz.2 b n]; exact e)) ĕ
theorem jw : ∀ {ns : List Int}, ns ≠ [] -> (∃ a ∈ ns, ∀ b ∈ ns, a <= b) /\ ∃ a ∈ ns, ∀ b ∈ ns, b <= a
 | [n], _ => ⟨⟨n, ê.mpr rfl, λ b hb => by rw [ê.mp hb]; exact HK _⟩, n, ê.mpr rfl, λ b hb => by rw [ê.mp hb]; exact HK _⟩
 | n :: k :: r, _ => by
  obtain ⟨⟨a, ha, la⟩, c, hc, lc⟩ := jw (ns := k :: r) (by simp)
  refine ⟨?_, ?_⟩
  ·by_cases h : n <= a
   ·refine ⟨n, Ù .., λ b hb => ?_⟩;rcases Ï.mp hb with rfl | hb
    ·exact HK _
    ·exact Int.le_trans h (la b hb)
   ·refine ⟨a, Î _ ha, λ b hb => ?_⟩;rcases Ï.mp hb with rfl | hb
    ·omega
    ·exact la b hb
  ·by_cases h : c <= n
   ·refine ⟨n, Ù .., λ b hb => ?_⟩;rcases Ï.mp hb with rfl | hb
    ·exact HK _
    ·exact Int.le_trans (lc b hb) h
   ·refine ⟨c, Î _ hc, λ b hb => ?_⟩;rcases Ï.mp hb with rfl | hb
    ·omega
    ·exact lc b hb
theorem Bt {f a1 : Addr} {fd d1 : FuncData} (F : ŀ K "net_stretch" "net_stretch" yY f fd) (A1 : Df P w K mg base au 8 "kept_pairs" ["outcomes", "dealing", "level"] qV a1 d1) (ml : mg "len" = none) (mm : mg "min" = none) (mx : mg "max" = none) : az P w K mg base au 9 f fd ["outcomes", "dealing", "level"] yQ := by
 refine cE F LI λ ò A outer s H vs Q E hr h => ?_;obtain ⟨o, lv, x, t, m, ns, rfl, ys, Χ, l1, ś, hx, p_, q⟩ := h;have nd := LI.nd;have hu : (A.deeper (PyProof.Rows.envOfC "net_stretch" (aa yY) s.heap.objs.size f ò)).units + 1 < cLine := by have := hr.un; omega
 refine cr (t := bB (aT (cC qV [] E0 (ac (am 0) (ac (am 1) (ac (am 2) aH)))) (aP 3)) (bB (aT (zE K) (aP 4)) (bY (EA (tB (aZ (iS λ i j => .bl (decide (i > j))) (gI (jT K) (ac (am 4) aH)) (tC (.int 0)))) (dq (ac (gI (vm K) (ac (am 4) aH)) (ac (gI (vy K) (ac (am 4) aH)) aH))) (tC .ĉ)))))
  (cH ⟨cD (i := 3) nd rfl (Or.inr rfl) (bH A1 hr ai (ad (pv 0) (ad (pv 1) (ad (pv 2) ap))))⟩
  (cH ⟨nj (iy := 4) (tt := Bo) (te := aZ gP (am 0) (am 1)) (g := gW K 0 1) rfl xw (jH (pv 3)) (λ s H C fp => by exact bd rfl (bT (bf (i := 0) zw rfl (.inl rfl)) (bT (bf (i := 1) zw rfl (.inl rfl)) aC))) (λ s H C fp => by exact aM uU (fE hu (pv 2) (aO (ad (pv 0) (ad (pv 1) ap)))) dz (aA _)) (λ s H C fp => by exact aj bp (pv 0) (pv 1)) nd rfl (Or.inl rfl) rfl⟩
  (aR ⟨cp (lz (aM nU (ak aq rfl ml ä (ad (pv 4) ap)) ay (aA _)) (aO (ad (ak (pI rfl) rfl mm PyProof.Rows.boot_min (ad (pv 4) ap)) (ad (ak (oQ rfl) rfl mx PyProof.Rows.boot_max (ad (pv 4) ap)) ap))) dz)⟩))) ⟨?_⟩
 have sm := ic (x := x) Χ;have la : (dm ns x).length <= 2000 := by
  unfold dm fY;rw [gX];exact Ú (ŝ (show gA ns x + gD ns x + 1 <= 41 by omega) (show gB ns x + gC ns x + 1 <= 41 by omega)) ag
 refine ⟨_, rfl, _, rfl, _, rfl, o, lv, x, t, m, ns, rfl, ys, Χ, l1, ś, hx, p_, λ r H1 q_ x1 kd => ?_⟩;refine gk (yf (K := K) kd la λ D H2 hD k2 h2 => ?_);have XX : Ext H H2 := λ b ob e => k2 _ _ (x1 _ _ e) (λ z => by rw [z, q_] at e; cases e)
 refine ⟨_, rfl, D, _, rfl, .inl (ñ.of h2), _, _, rfl, rfl, _, rfl, ?_⟩;rw [Æ];by_cases e : iU t m ns x (dm ns x) = []
 ·rw [e];refine c6 (q .ĉ H2 XX (.inl ⟨rfl, λ z hz => ?_⟩));cases ez : cU t m ns x z with
  | true => rfl
  | false =>
   exfalso;have : pN z ∈ iU t m ns x (dm ns x) := õ.mpr ⟨z, Ď.mpr ⟨hz, by rw [ez]; rfl⟩, rfl⟩
   rw [e] at this;cases this
 ·obtain ⟨⟨lo, Td, M8⟩, hi, Te, QE⟩ := jw e;have lp : 0 < (iU t m ns x (dm ns x)).length := List.length_pos_iff.mpr e;have ed : decide ((((iU t m ns x (dm ns x)).length : Nat) : Int) > 0) = true := Ç ae;show if decide ((((iU t m ns x (dm ns x)).length : Nat) : Int) > 0) = true then _ else _
  rw [ed];refine fO ⟨_, rfl, D, _, lo, rfl, ñ.of h2, Td, M8, _, rfl, D, _, hi, rfl, ñ.of h2, Te, QE, fk, λ u hu => ?_⟩;refine q (.ref u) _ (XX.trans (Ext.new hu)) (.inr ⟨u, lo, hi, rfl, bh, λ z hz ez => ?_⟩);have mz : pN z ∈ iU t m ns x (dm ns x) := õ.mpr ⟨z, Ď.mpr ⟨hz, by rw [ez]; rfl⟩, rfl⟩
  exact ⟨M8 _ mz, QE _ mz⟩
abbrev Co : Stmt := cf 75
def xC : Sp := λ vs H Q _ => ∃ (v : V) (n : Int), vs = [v, .int n] /\ ((v = .ĉ /\ Q (.bl true) H) \/ ∃ u lo hi, v = .ref u /\ H u = some (.tup [.int lo, .int hi]) /\ Q (.bl (!(decide (lo <= n) && decide (n <= hi)))) H)
theorem EC : af ["_law_stretch", "_law_net"] ["_law_stretch", "_law_net"] (aa Co) := aQ
end
def gl : List Int -> Nat -> Nat -> Int -> Nat
 | [], _, _, _ => 0
 | n :: ns, x, h, y => (if x % 2 = h /\ n = y then 1 else 0) + gl ns (x / 2) h y
theorem iA : ∀ (ns : List Int) (x h : Nat) (y : Int), (eS ns x h y).length = gl ns x h y
 | [], _, _, _ => rfl
 | n :: ns, x, h, y => by
  have ih := iA ns (x / 2) h y;show _ = (if x % 2 = h /\ n = y then 1 else 0) + gl ns (x / 2) h y
  rw [<- ih];unfold eS;rw [Ñ, ĳ, î, List.filter_map];have e : ((λ i => decide (x / 2 ^ i % 2 = h) && decide ((n :: ns).getD i 0 = y)) ∘ Nat.succ) = λ i => decide (x / 2 / 2 ^ i % 2 = h) && decide (ns.getD i 0 = y) := by
   funext i
   show (decide (x / 2 ^ (i + 1) % 2 = h) && decide (ns.getD i 0 = y)) = _;rw [eY]
  rw [e];have e0 : (decide (x / 2 ^ 0 % 2 = h) && decide ((n :: ns).getD 0 0 = y)) = decide (x % 2 = h /\ n = y) := by
   rw [GX, HJ];show (decide (x % 2 = h) && decide (n = y)) = _;rw [Bool.decide_and]
  rw [e0];by_cases c : x % 2 = h /\ n = y
  ·rw [Ô (Ç c), Ô c, Ñ, Æ, J8]
  ·rw [É (by simpa using c), if_neg c, List.length_map, Nat.zero_add]
def bR : List (Int × Int) -> Nat -> List (Int × Int)
 | [], _ => []
 | p :: L, x => if x % 2 = 1 then bR L (x / 2) else p :: bR L (x / 2)
theorem i9 (p : Int × Int) (L : List (Int × Int)) (x : Nat) : bR (p :: L) x = if x % 2 = 1 then bR L (x / 2) else p :: bR L (x / 2) := rfl
theorem aW (k : Int × Int) : ∀ (L : List (Int × Int)) (x : Nat), L.count k = (aG L x).count k + (bR L x).count k
 | [], _ => rfl
 | p :: L, x => by
  rw [dJ, i9, g_, aW k L (x / 2)];by_cases h : x % 2 = 1
  ·rw [Ô h, Ô h, g_];omega
  ·rw [É h, É h, g_];omega
theorem tK (p : Int × Int) (L : List (Int × Int)) (x : Nat) : cm (p :: L) x = (if x % 2 = 1 then p.1 else p.2) :: cm L (x / 2) := rfl
theorem gU (n : Int) (ns : List Int) (x h : Nat) (y : Int) : gl (n :: ns) x h y = (if x % 2 = h /\ n = y then 1 else 0) + gl ns (x / 2) h y := rfl
theorem rS : ∀ {L : List (Int × Int)} (x : Nat), bL L -> gl (cm L x) x 1 1 = (aG L x).count (1, 0) + (aG L x).count (1, 1) /\ gl (cm L x) x 1 0 = (aG L x).count (0, 1) + (aG L x).count (0, 0) /\ gl (cm L x) x 0 1 = (bR L x).count (0, 1) + (bR L x).count (1, 1) /\ gl (cm L x) x 0 0 = (bR L x).count (1, 0) + (bR L x).count (0, 0)
 | [], x, _ => ⟨rfl, rfl, rfl, rfl⟩
 | p :: L, x, bt => by
  obtain ⟨i1, i2, i3, i4⟩ := rS (L := L) (x / 2) λ q hq => bt q (Î _ hq);obtain ⟨h1, h2⟩ := bt p (Ù ..);obtain ⟨u, v⟩ := p;have h1 : u = 0 \/ u = 1 := h1;have h2 : v = 0 \/ v = 1 := h2;rw [tK, gU, gU, gU, gU, i1, i2, i3, i4, dJ, i9];generalize aG L (x / 2) = S;generalize bR L (x / 2) = Z
  clear i1 i2 i3 i4 bt
  by_cases hx : x % 2 = 1
  ·simp only [if_pos hx, hx];rcases h1 with rfl | rfl <;> rcases h2 with rfl | rfl <;> simp [List.count_cons] <;> omega
  ·have TK : x % 2 = 0 := ae;simp only [if_neg hx, TK];rcases h1 with rfl | rfl <;> rcases h2 with rfl | rfl <;> simp [List.count_cons] <;> omega
def Cw (L : List (Int × Int)) (x : Nat) : F4 := ((aG L x).count (1, 0), (aG L x).count (0, 1), (bR L x).count (0, 1), (bR L x).count (1, 0))
def gK (L : List (Int × Int)) : Nat × Nat := (L.count (1, 0), L.count (0, 1))
section
variable {L : List (Int × Int)} {x : Nat}
theorem oz (bt : bL L) : gA (cm L x) x = (aG L x).count (1, 0) + (aG L x).count (1, 1) /\ gB (cm L x) x = (aG L x).count (0, 1) + (aG L x).count (0, 0) /\ gC (cm L x) x = (bR L x).count (0, 1) + (bR L x).count (1, 1) /\ gD (cm L x) x = (bR L x).count (1, 0) + (bR L x).count (0, 0) := by
 unfold gA gB gC gD;rw [iA, iA, iA, iA];exact rS x bt
theorem vd (bt : bL L) : Cw L x ∈ bC (gA (cm L x) x) (gB (cm L x) x) (gC (cm L x) x) (gD (cm L x) x) (gK L).1 (gK L).2 := by
 obtain ⟨e1, e2, e3, e4⟩ := oz (x := x) bt;rw [C', e1, e2, e3, e4];unfold Cw gK;have c1 := aW (1, 0) L x;have c2 := aW (0, 1) L x;refine ⟨?_, ?_, ?_, ?_, ?_, ?_⟩ <;> dsimp only <;> omega
theorem jO (bt : bL L) : gK L ∈ dm (cm L x) x := by
 obtain ⟨e1, e2, e3, e4⟩ := oz (x := x) bt;rw [rc, e1, e2, e3, e4];unfold gK;have c1 := aW (1, 0) L x;have c2 := aW (0, 1) L x;refine ⟨?_, ?_⟩ <;> dsimp only <;> omega
theorem mV (bt : bL L) (g : Int -> Nat) : fS (gA (cm L x) x) (gB (cm L x) x) (gC (cm L x) x) (gD (cm L x) x) (Cw L x) g = cO L (oX L x) g := by
 obtain ⟨e1, e2, e3, e4⟩ := oz (x := x) bt;have c1 := aW (1, 0) L x;have c2 := aW (0, 1) L x;have c3 := aW (1, 1) L x;have c4 := aW (0, 0) L x;have s2 := da (gq (x := x) bt);rw [fq] at s2;rw [rZ bt];unfold fS Cw;rw [e1, e2, e3, e4]
 dsimp only
 have o1 : (((aG L x).count (1, 0) + (aG L x).count (1, 1) + ((aG L x).count (0, 1) + (aG L x).count (0, 0)) : Nat) : Int) = oX L x := by
  show _ = ((eR L.length x : Nat) : Int);omega
 rw [o1, show (aG L x).count (1, 0) + (bR L x).count (1, 0) = L.count (1, 0) by omega, show (aG L x).count (0, 1) + (bR L x).count (0, 1) = L.count (0, 1) by omega,
  show (aG L x).count (1, 0) + (aG L x).count (1, 1) - (aG L x).count (1, 0) + ((bR L x).count (0, 1) + (bR L x).count (1, 1) - (bR L x).count (0, 1)) = L.count (1, 1) by omega,
  show (aG L x).count (0, 1) + (aG L x).count (0, 0) - (aG L x).count (0, 1) + ((bR L x).count (1, 0) + (bR L x).count (0, 0) - (bR L x).count (1, 0)) = L.count (0, 0) by omega]
theorem w5 (bt : bL L) : lU (gA (cm L x) x) (gB (cm L x) x) (gC (cm L x) x) (gD (cm L x) x) = wX L x := by
 obtain ⟨e1, e2, e3, e4⟩ := oz (x := x) bt;have c2 := aW (0, 1) L x;have c3 := aW (1, 1) L x;have s1 := da bt;have c1 := aW (1, 0) L x;have c4 := aW (0, 0) L x;have s2 := da (gq (x := x) bt);rw [fq] at s2;unfold wX wL;rw [jL _ _ x bt];unfold lU gL;rw [e1, e2, e3, e4];have a1 : (((bR L x).count (0, 1) + (bR L x).count (1, 1) : Nat) : Int) + (((bR L x).count (1, 0) + (bR L x).count (0, 0) : Nat) : Int) = ((L.length : Nat) : Int) - ((eR L.length x : Nat) : Int) := ae;have a2 : (((aG L x).count (1, 0) + (aG L x).count (1, 1) : Nat) : Int) = (((aG L x).count (1, 0) : Nat) : Int) + (((aG L x).count (1, 1) : Nat) : Int) := ae;have a3 : (((aG L x).count (1, 0) + (aG L x).count (1, 1) : Nat) : Int) + (((aG L x).count (0, 1) + (aG L x).count (0, 0) : Nat) : Int) = ((eR L.length x : Nat) : Int) := ae;have a4 : (((bR L x).count (0, 1) + (bR L x).count (1, 1) : Nat) : Int) = ((L.count (0, 1) : Nat) : Int) - (((aG L x).count (0, 1) : Nat) : Int) + ((L.count (1, 1) : Nat) : Int) - (((aG L x).count (1, 1) : Nat) : Int) := ae;rw [a1, a3, a4, a2]
theorem rp (bt : bL L) {t m : Nat} (h1 : lT t m (cO L (oX L x) (jn (wX L x))) (cO L (oX L x) λ _ => 1) = true) (h2 : lT t m (cO L (oX L x) (jz (wX L x))) (cO L (oX L x) λ _ => 1) = true) : cU t m (cm L x) x (gK L) = false := by
 refine kP (vd bt) ?_;unfold cI gu;rw [mV bt, mV bt, mV bt, w5 bt, h1, h2];rfl
end
theorem jp {α : Type} {p q : α -> Bool} : ∀ {l : List α}, (∀ a ∈ l, p a = true -> q a = true) -> (l.filter p).length <= (l.filter q).length
 | [], _ => Å _
 | a :: l, h => by
  have ih := jp (l := l) λ b hb => h b (Î _ hb);rw [î, î];by_cases hp : p a = true
  ·rw [Ô hp, Ô (h a (Ù ..) hp), Ñ, Ñ];omega
  ·rw [É hp];split
   ·rw [Ñ]; omega
   ·exact ih
theorem rL {vs : List Int} {t m N : Nat} (G : Int -> Nat) (R : Int -> Int -> Bool) (hG : ∀ v, G v = (vs.filter (R v)).length) (ext : ∀ S : List Int, S ≠ [] -> ∃ a ∈ S, ∀ b ∈ S, R a b = true) : (vs.filter λ v => !lT t m (G v) N).length * m <= t * N := by
 by_cases e : vs.filter (λ v => !lT t m (G v) N) = []
 ·rw [e];simp
 ·obtain ⟨a, ha, la⟩ := ext _ e;have ba : G a * m <= t * N := by
   have := (Ď.mp ha).2;unfold lT at this;simp only [Bool.not_eq_true', decide_eq_false_iff_not] at this;omega
  have le : (vs.filter λ v => !lT t m (G v) N).length <= G a := by
   rw [hG];exact jp λ b hb hp => la b (Ď.mpr ⟨hb, hp⟩)
  exact Ú (r_ _ le) ba
def bJ (L : List (Int × Int)) (t m : Nat) (x : Nat) : Bool := !lT t m (cO L (oX L x) (jn (wX L x))) (cO L (oX L x) λ _ => 1)
def ck (L : List (Int × Int)) (t m : Nat) (x : Nat) : Bool := !lT t m (cO L (oX L x) (jz (wX L x))) (cO L (oX L x) λ _ => 1)
theorem vA {n : Nat} {O : Int} {x : Nat} (h : x ∈ gF n O) : ((eR n x : Nat) : Int) = O := ø (Ď.mp h).2
theorem fc {α β : Type} (f : α -> β) (p : β -> Bool) : ∀ l : List α, ((l.map f).filter p).length = (l.filter λ a => p (f a)).length
 | [] => rfl
 | a :: l => by
  rw [Í, î, î];split
  ·rw [Ñ, Ñ, fc f p l]
  ·exact fc f p l
theorem eF {α : Type} {p q : α -> Bool} : ∀ {l : List α}, (∀ a ∈ l, p a = q a) -> l.filter p = l.filter q
 | [], _ => rfl
 | a :: l, h => by
  rw [î, î, h a (Ù ..), eF (l := l) λ b hb => h b (Î _ hb)]
theorem mP (L : List (Int × Int)) (O : Int) (t m : Nat) : ((gF L.length O).filter (bJ L t m)).length * m <= t * (gF L.length O).length /\ ((gF L.length O).filter (ck L t m)).length * m <= t * (gF L.length O).length := by
 have lN : (gF L.length O).length = cO L O λ _ => 1 := by
  rw [<- oY];unfold dk;rw [Æ]
 have vx : dk L O = (gF L.length O).map (wX L) := by
  unfold dk;exact Gj λ x _ => sy L x
 constructor
 ·have := rL (vs := dk L O) (t := t) (m := m) (N := cO L O λ _ => 1) (λ v => cO L O (jn v)) (λ v u => decide (u ≥ v)) (λ v => (sq L O v).symm) λ S hS => by
   obtain ⟨⟨a, ha, la⟩, _⟩ := jw hS;exact ⟨a, ha, λ b hb => Ç (la b hb)⟩
  rw [vx, fc] at this;rw [lN, show (gF L.length O).filter (bJ L t m) = (gF L.length O).filter (λ x => !lT t m (cO L O (jn (wX L x))) (cO L O λ _ => 1)) from eF λ x hx => by
   unfold bJ;rw [show oX L x = O from vA hx]]
  exact this
 ·have := rL (vs := dk L O) (t := t) (m := m) (N := cO L O λ _ => 1) (λ v => cO L O (jz v)) (λ v u => decide (u <= v)) (λ v => (sG L O v).symm) λ S hS => by
   obtain ⟨_, a, ha, la⟩ := jw hS;exact ⟨a, ha, λ b hb => Ç (la b hb)⟩
  rw [vx, fc] at this;rw [lN, show (gF L.length O).filter (ck L t m) = (gF L.length O).filter (λ x => !lT t m (cO L O (jz (wX L x))) (cO L O λ _ => 1)) from eF λ x hx => by
   unfold ck;rw [show oX L x = O from vA hx]]
  exact this
section
variable {P : Program} {w : World} {K : Frag} {mg : bE} {base : Heap} {CL CD : Addr}
theorem zN {f : Addr} {fd : FuncData} (F : ŀ K "_law_outside" "_law_outside" Co f fd) : az P w K mg base au 1 f fd ["_law_stretch", "_law_net"] xC := by
 refine cE F EC λ ò A outer s H vs Q E hr h => ?_;obtain ⟨v, n, rfl, h⟩ := h;refine ⟨_, bz (cp (zr (bN jM (pv 0) dz (aA _)) (de (jC (qa kF kF (cq dG (pv 0) ay) (pv 1) (cq dG (pv 0) ay)))))), ?_⟩;rcases h with ⟨rfl, q⟩ | ⟨u, lo, hi, rfl, hu, q⟩
 ·exact ⟨_, rfl, rfl, _, rfl, fO q⟩
 refine ⟨_, rfl, rfl, _, rfl, c6 ⟨_, rfl, u, _, _, _, rfl, rfl, ą.of hu, rfl, _, rfl, _, _, rfl, rfl, _, rfl, ?_⟩⟩;by_cases c : lo <= n
 ·rw [Ç c, Φ] at q;rw [Ç c];exact fO ⟨_, rfl, u, _, _, _, rfl, rfl, ą.of hu, rfl, _, _, rfl, rfl, _, rfl, q⟩
 ·rw [â c, Ş] at q;rw [â c];exact c6 ⟨_, rfl, q⟩
abbrev y9 : Stmt := cf 76
def wd : Sp := λ vs H Q _ => ∃ (o r : Addr) (lv : V) (x t m : Nat) (ns : List Int), vs = [.ref o, .int (x : Nat), lv, .ref r] /\ Ż H o ns /\ pT ns /\ 1 <= ns.length /\ ns.length <= 20 /\ x < 2 ^ ns.length /\ Hf H lv t m /\ o ≠ r /\ Cr H r t m ns x /\ ∀ H' ob kvs, H r = some (.dT kvs) -> (∀ b JK, H b = some JK -> b ≠ r -> H' b = some JK) -> H' r = some (.Ν ob (.dT kvs)) -> Q (.bl true) H'
abbrev E7 : List Str := ["_law_outcomes", "_law_dealing", "_law_level", "_law_found", "_law_pair", "_law_listing_here", "_law_rows", "_law_good"]
theorem LG : af E7 ["_law_outcomes", "_law_dealing", "_law_level", "_law_found"] (aa y9) := aQ
abbrev BS : Scope := cT [("_law_four", .local), ("_law_high", .local), ("_law_low", .local), ("less_share", .globalImplicit), ("_law_level", .free)]
theorem yL : ((["_law_four", "_law_high", "_law_low"] : List Str) ++ (["_law_level"] : List Str)).Nodup := aF
section
variable {f : Addr} {ò : Value} {A : Around} {outer : List Env} {s : Shared} {H : Hp} {E : XK}
theorem yI : aY (aU au P w K mg base E7 "_law_rows_alike" (aa y9) f ò A outer s H E).ť BS [("_law_level", s.heap.objs.size + 1)] ["_law_four", "_law_high", "_law_low"] ["_law_level"] [2] :=
 bP (M := ["_law_level"]) (L := [(".0", .local), ("_law_four", .local), ("_law_high", .local), ("_law_low", .local), ("less_share", .globalImplicit), ("_law_level", .cell)]) rfl rfl aF aF aF rfl rfl rfl aF aF rfl rfl rfl
end
def Ff (K : Frag) (i j k : Nat) : TG := tW K 3 (bq (aP i) (bq (aP j) (bq (aP k) ke)))
def ue (i j : Nat) : TE := cC sB [] E0 (ac (am i) (ac (am j) aH))
def AM : TT := qm (tB (ue 3 1)) (tB (ue 3 2))
def Af (K : Frag) : TE := db (cX K (am 6)) 3 [2] (Ff K 0 1 2) AM (am 0)
theorem yD {H : Hp} {Q : VK} {o0 o1 o3 o4 o5 o7 : Option V} {l : Addr} {lv : V} {us : List V} {a b c d t m : Nat} {fs : List F4} (hl : H l = some (.lst us)) (pr : Paired (Lp a b c d H) us fs) (p_ : Hf H lv t m) (lf : ∀ f ∈ fs, CF a b c d f) (sm : fs.length <= 1000)
  (q : ∀ D gs H', H D = none -> Ext H H' -> H' D = some (.lst gs) -> (gs = [] ↔ ∀ f ∈ fs, cI t m a b c d f = false) -> Q (.ref D) H') : Af K [o0, o1, some lv, o3, o4, o5, some (.ref l), o7] H Q := by
 have lu : us.length = fs.length := Ö pr;refine ⟨_, rfl, l, rfl, ⟨_, ñ.of hl⟩, λ D hD => ?_⟩;refine dL (n := us.length) (λ i ys H' => Ext H H' /\ (ys = [] ↔ ∀ f ∈ fs.take i, cI t m a b c d f = false)) (by rw [lu, Þ]; omega) ⟨Ext.new hD, ⟨λ _ f h => (nomatch h), λ _ => rfl⟩⟩ (λ i ys H' hi p => ⟨_, _, ñ.of (p.1 _ _ hl), Ã hi⟩) (λ ys H' p => ⟨_, ñ.of (p.1 _ _ hl), Å _⟩) ?_ ?_
 ·rintro i y ys H' H3 hi ⟨rfl, hy⟩ ly ĕ ⟨x', iv⟩ os Ņ N kk;obtain ⟨fr, ef, tt, v4, v1, v2, rfl, h1, h2, h3, h4⟩ := ð pr (hy _ (ñ.of (x' _ _ hl)));have Qt := p_.kp x'.Ū;have s1 := p_.tb;have s2 := p_.sm;have T1 := rO (lf fr (á ef))
  match os, Ņ with
  | [p0, p1, p2], _ =>
   refine ⟨tt, _, rfl, ą.of (x' _ _ h1), rfl, _, _, rfl, _, _, rfl, _, _, rfl, rfl, ⟨[_, _, _], rfl, rfl⟩, ?_⟩;have fin : ∀ bb : Bool, bb = cI t m a b c d fr -> (bb = false -> N ys H3) /\ (bb = true -> am 0 ([some v4, some v1, some v2, some lv] : St) H3 λ y' H4 => H4 D = some (.lst ys) /\ N (ys ++ [y']) (ao H4 D (.lst (ys ++ [y'])))) := λ bb eb => by
    refine ⟨λ e => ?_, λ e => ?_⟩
    ·refine kk _ _ ⟨x', ?_⟩ ae ĕ;rw [aw ef];rw [e] at eb;constructor
     ·intro h f hf;rcases ŗ.mp hf with hf | hf
      ·exact iv.mp h f hf
      ·cases ê.mp hf; exact eb.symm
     ·intro h;exact iv.mpr λ f hf => h f (s_ _ hf)
    ·refine ⟨_, rfl, ĕ, kk _ _ ⟨aV _ x' hD, ?_⟩ (by rw [Ì, Ę]; omega) bh⟩
     rw [aw ef];rw [e] at eb;constructor
     ·intro h;simp at h
     ·intro h;have := h fr (Ä _ (ê.mpr rfl));rw [<- eb] at this;cases this
   refine ⟨_, rfl, _, rfl, lv, v1, t, m, _, _, rfl, Qt.sh, h3.kp x'.Ū, ae, ae, ?_⟩;rw [dQ T1];refine ⟨_, rfl, ?_⟩;cases e1 : lT t m (fS a b c d fr (jn (lU a b c d))) (fS a b c d fr λ _ => 1) with
   | false =>
    refine c6 (fin false ?_);unfold cI gu;rw [e1, Ş]
   | true =>
    refine fO ⟨_, rfl, _, rfl, lv, v2, t, m, _, _, rfl, Qt.sh, h4.kp x'.Ū, ae, ae, ?_⟩;rw [dQ T1];refine ⟨_, rfl, fin _ ?_⟩;unfold cI gu;rw [e1, Φ]
 ·rintro ys H' ly ĕ ⟨x', iv⟩;rw [lu, ö] at iv;exact q D ys H' hD x' ĕ iv
end
theorem qT {t m a b c d : Nat} {z : Nat × Nat} : j9 t m a b c d z = true ↔ ∀ f ∈ bC a b c d z.1 z.2, cI t m a b c d f = false := by
 unfold j9;rw [ŋ];constructor
 ·intro h f hf;have := h f hf
  simpa using this
 ·intro h f hf;rw [h f hf];rfl
theorem Ż.kp {H H' : Hp} {o : Addr} {ns : List Int} (y : Ż H o ns) (k : eV H H') (l : ∀ xs, H o = some (.lst xs) -> H' o = some (.lst xs)) : Ż H' o ns := by
 obtain ⟨xs, h, p⟩ := y;exact ⟨xs, l _ h, Paired.imp' (λ _ _ r => r.kp k) p⟩
section
variable {P : Program} {w : World} {K : Frag} {mg : bE} {base : Heap} {CL CD : Addr}
abbrev AZ : R2 := λ x y H Q => y = .ĉ /\ Q (.bl (decide (x = .ĉ))) H
def AV (K : Frag) : TS := bB (aT (cC xR [] E0 (ac (am 0) (ac (am 1) (ac (am 4) aH)))) (aP 6)) (bB (aT (Af K) (aP 7)) (kn (tB (aZ EO (aZ AZ (am 5) (tC .ĉ)) (aZ (zB K) (am 7) (fe aH)))) (bY (tC (.bl false))) gE))
def C1 (K : Frag) : TS := fT (Al (am 3)) (gW K 4 5) (AV K)
theorem BU {f a1 a2 : Addr} {fd d1 d2 : FuncData} (F : ŀ K "_law_rows_alike" "_law_rows_alike" y9 f fd) (A1 : Df P w K mg base au 8 "pair_rows" ["outcomes", "dealing", "pair"] xR a1 d1) (A2 : Df P w K mg base au 1 "less_share" ["one", "other"] sB a2 d2) : az P w K mg base au 9 f fd ["_law_outcomes", "_law_dealing", "_law_level", "_law_found"] wd := by
 refine cE F LG λ ò A outer s H vs Q E hr h => ?_;obtain ⟨o, r, lv, x, t, m, ns, rfl, ys, Χ, l1, ś, hx, p_, S4, ⟨kvs, q_, pr⟩, q⟩ := h;have nd := LG.nd;have Η : ċ 1 _ := hr.mono ag;have hu : (A.deeper (PyProof.Rows.envOfC "_law_rows_alike" (aa y9) s.heap.objs.size f ò)).units < cLine := hr.Kn;refine cr (t := bB (C1 K) (bY (tC (.bl true))))
  (cH (il å rfl ⟨sf (pv 3)⟩ (bd rfl (bT (bf (i := 4) nd rfl (Or.inl rfl)) (bT (bf (i := 5) nd rfl (Or.inl rfl)) aC)))
   (cH ⟨cD (i := 6) nd rfl (Or.inl rfl) (bH A1 hr ai (ad (pv 0) (ad (pv 1) (ad (pv 4) ap))))⟩
   (cH ⟨nj (iy := 7) (tt := AM) (te := am 0) (g := Ff K 0 1 2) rfl yI (bD (pv 6)) (λ s H C fp => by exact bd rfl (bT (bf (i := 0) yL rfl (.inl rfl)) (bT (bf (i := 1) yL rfl (.inl rfl)) (bT (bf (i := 2) yL rfl (.inl rfl)) aC)))) (λ s H C fp => by exact PW.pt (mw (aX (bH A2 Η ai (ad (pv 3) (ad (pv 1) ap)))) (jE (aX (bH A2 Η ai (ad (pv 3) (ad (pv 2) ap))))))) (λ s H C fp => by exact pv 0) nd rfl (Or.inl rfl) rfl⟩
   (aR ⟨bA (aM kj (bN jM (pv 5) dz (aA _)) (bN (rG hu) (pv 7) (cK ap) (aA _)) (aA _)) (bz (cp oB)) gN⟩))))
  (aR ⟨cp oB⟩)) ⟨?_⟩
 have sm := ic (x := x) Χ;have lk : kvs.length = (dm ns x).length := Ö pr;refine ⟨_, rfl, r, .dT kvs, rfl, True.intro, .inl q_, λ ob H2 fz => ?_⟩;have kU : eV H H2 := λ b xs e => by rw [fz.2 b (λ z => by rw [z, q_] at e; cases e)]; exact e
 have Ŵ : Ż H2 o ns := ys.kp kU λ xs e => by rw [fz.2 o S4]; exact e
 have Oi := p_.kp kU;refine uy (d := r) (ob := ob) (u := .dT kvs) (g := gW K 4 5) (tb := AV K) (D := { nx := λ σ H => bY (tC (.bl true)) { nx := λ _ H' => Q V.ĉ H', rt := Q } σ H, rt := Q }) (λ i σ H' => Ext H2 H' /\ ∃ o4 o5 o6 o7, σ = [some (.ref o), some (.int (x : Nat)), some lv, some (.ref r), o4, o5, o6, o7]) ⟨Ext.refl _, _, _, _, _, rfl⟩ (λ i σ H' pv => pv.1 _ _ fz.1) ?_ ?_
 ·rintro i σ H' p kx v hi ⟨x', o4, o5, o6, o7, rfl⟩ hp pa;rcases pa with ⟨_, _, e, _⟩ | ⟨Md, k, b, e, hk, rfl, hb⟩
  ·cases e
  cases e;obtain ⟨z, ez, ek, kv⟩ := ð pr hk;have ek : k = nW z := ek;subst ek;have x1 := Ext.new (o := .tup [.ref b, v]) hp;have X1 := x'.trans x1;refine ⟨p, _, rfl, ą.of bh, rfl, _, _, rfl, _, _, rfl, rfl, ?_⟩;refine ⟨_, rfl, _, rfl, _, rfl, o, b, x, z, ns, rfl, Ŵ.ext X1, Χ, l1, ś, hx, x1 _ _ hb, á ez, λ l us H4 hl x4 h4 pf => ?_⟩;have Qv : (bC (gA ns x) (gB ns x) (gC ns x) (gD ns x) z.1 z.2).length <= 1000 := Ú (jr _ _ _ _ _ _) (Ú (ŝ (show gA ns x + 1 <= 21 by omega) (show gB ns x + 1 <= 21 by omega)) ag)
  refine gk (yD (K := K) h4 pf (Oi.kp (X1.trans x4).Ū) (λ f hf => gm hf) Qv λ D gs H5 hD x5 h5 ig => ?_);refine ⟨_, rfl, rfl, _, rfl, fk, λ e he => ⟨D, e, gs, rfl, rfl, ñ.of ((Ext.new he) _ _ h5), ñ.of bh, rfl, _, rfl, ?_⟩⟩;have eq : decide (v = V.ĉ) = gs.isEmpty := by
   rw [ĸ, List.isEmpty_iff, ig, <- qT, ď];rcases kv with ⟨h1, h2⟩ | ⟨h1, l', Il, h2, _⟩
   ·have h2 : v = V.ĉ := h2;exact ⟨λ _ => h1, λ _ => h2⟩
   ·have h2 : v = V.ref l' := h2;constructor
    ·intro h; rw [h2] at h; cases h
    ·intro h; rw [h1] at h; cases h
  show if (!decide (V.bl (decide (v = V.ĉ)) = V.bl gs.isEmpty)) = true then _ else _
  rw [eq, Ç rfl];exact c6 ⟨X1.trans (x4.trans (x5.trans (Ext.new he))), _, _, _, _, rfl⟩
 ·rintro σ H' ⟨x', o4, o5, o6, o7, rfl⟩;exact q H' ob kvs q_ (λ b JK e n => x' _ _ (by rw [fz.2 b n]; exact e)) (x' _ _ fz.1)
end
abbrev v0 : List V -> Hp -> VK -> Prop := λ xs H Q => (∃ i, xs = [.int i] /\ Q (.int i) H) \/ ∃ k, xs = [.bl k] /\ Q (.int (if k then 1 else 0)) H
abbrev zA (ta tb : TE) : TE := cC pH [] E0 (ac ta (ac tb aH))
def EJ : TS := aT (aZ fN (tC (.int 1)) (yV 0 (tC (.int 5)))) (aP 1)
def Dt : TS := aT (cC tE [] E0 (ac (am 0) (ac (am 1) aH))) (aP 2)
def Fx : TS := aT (yV 0 (aZ fN (am 1) (tC (.int 1)))) (aP 3)
def DD (K : Frag) : TS := aT (aZ (kb K) (fe (ac (zA (tC (.int 1)) (tC (.int 20))) (ac (zA (tC (.int 1)) (tC (.int 10))) (ac (zA (yV 0 (tC (.int 11))) (tC (.int 10))) (ac (zA (tC (.int 1)) (tC (.int 4))) aH))))) (yV 0 (tC (.int 4)))) (aP 4)
def EM (K : Frag) : TS := aT (EN (zg K) (cC yq [] E0 (ac (am 2) aH)) n9 (vj (tC (.int 2)))) (aP 5)
def E6 : TS := aT (cC xT [] E0 (ac (am 1) (ac (am 3) aH))) (aP 6)
def Fk : TS := aT (fe (ac (tC (.int 0)) (ac (tC (.int 0)) (ac (tC (.int 0)) (ac (tC (.int 0)) aH))))) (aP 7)
def DC (K : Frag) : TE := dX (cX K (cC t6 [] E0 (ac (am 2) (ac (am 8) aH)))) 1 [] (aP 0) (dq (ac (am 0) (ac (tC (.bl true)) aH)))
def Fp (K : Frag) : TS := aT (DC K) (aP 9)
def Fu : TS := kn (tB (aZ nI (cC yM [] E0 (ac (am 2) (ac (am 9) (ac (am 8) aH)))) (tC (.bl true)))) (bY (tC (.bl false))) gE
def EY (K : Frag) (CL CD : Addr) : TS := aT (Ck CL CD 2 8) (gW K 10 11)
def EH : TS := aT (cC qV [] E0 (ac (am 9) (ac (am 8) (ac (am 4) aH)))) (aP 12)
def Fg : TS := kn (Fs (tB (nB (am 5) (am 12))) (zv (tB (cC wd [] E0 (ac (am 9) (ac (am 8) (ac (am 4) (ac (am 12) aH)))))))) (bY (tC (.bl false))) gE
abbrev yW (K : Frag) (k : Int) (te : TE) : TS := vH (am 7) (tC (.int k)) (gI v0 (ac te aH)) (vQ K) (DV λ i j => i + j) sv
def EI (K : Frag) : TS := yW K 0 (pY (ue 4 10))
def DH (K : Frag) : TS := yW K 1 (pY (ue 4 11))
def C8 (K : Frag) : TS := yW K 2 (aZ AZ (gH (am 12) (am 5)) (tC .ĉ))
def Ex (K : Frag) : TS := yW K 3 (cC xC [] E0 (ac (cC yQ [] E0 (ac (am 9) (ac (am 8) (ac (am 4) aH)))) (ac (aZ gP (aZ (dE K) (am 5) (tC (.int 0))) (aZ (dE K) (am 5) (tC (.int 1)))) aH)))
def tJ (K : Frag) (CL CD : Addr) : TS := bB (Fp K) (bB Fu (bB (EY K CL CD) (bB EH (bB Fg (bB (EI K) (bB (DH K) (bB (C8 K) (Ex K))))))))
def Cv (K : Frag) (CL CD : Addr) : TS := fT (cX K (am 6)) (aP 8) (tJ K CL CD)
abbrev tX (K : Frag) (i : Nat) (k : Int) : TE := aZ (dE K) (am i) (tC (.int k))
def zy (K : Frag) : TS := kn (tB (aZ (iS λ i j => .bl (decide (i > j))) (aZ rh (aZ (kb K) (am 7) (am 13)) (tX K 4 1)) (aZ rh (aZ rh (aZ (kb K) (fe (ac (tC (.int 1)) (ac (tC (.int 1)) (ac (tC (.int 2)) (ac (tC (.int 2)) aH))))) (am 13)) (tX K 4 0)) (gI (jT K) (ac (am 6) aH))))) (bY (tC (.bl false))) gE
def zS (K : Frag) : TS := fT (dC (ac (tC (.int 4)) aH)) (aP 13) (zy K)
def zb : TS := bY (tC (.bl true))
def FD (K : Frag) (CL CD : Addr) : TS := bB EJ (bB Dt (bB Fx (bB (DD K) (bB (EM K) (bB E6 (bB Fk (bB (Cv K CL CD) (bB (zS K) zb))))))))
section
variable {P : Program} {w : World} {K : Frag} {mg : bE} {base : Heap} {CL CD : Addr}
abbrev fL : Stmt := cf 77
abbrev iW : List Str := ["_law_box_here", "_law_folk", "_law_listing_here", "_law_ones_here", "_law_level", "_law_pair", "_law_dealings_here", "_law_ruled", "_law_dealing", "_law_outcomes", "_law_high", "_law_low", "_law_found", "_law_k"]
theorem π : af iW ["_law_box_here"] (aa fL) := aQ
abbrev zQ : Scope := cT [("_law_yes", .local)]
theorem Eu : ((["_law_yes"] : List Str) ++ ([] : List Str)).Nodup := aF
theorem wr {X : Cx} : aY X zQ [] ["_law_yes"] [] [] := jt (L := [(".0", .local), ("_law_yes", .local)]) rfl rfl aF aF aF rfl aF aF
abbrev iR (i : Nat) : Stmt := (aK fL).getD i s0
structure zO (P : Program) (w : World) (K : Frag) (mg : bE) (base : Heap) (CL CD : Addr) (a1 a2 a3 a4 a5 a6 a7 a8 a9 MK MJ MI MH : Addr) (d1 d2 d3 d4 d5 d6 d7 d8 d9 KZ KY KW KU : FuncData) : Prop where
 tk : Df P w K mg base au 1 "_law_take" ["_law_box_here", "_law_many"] eG a1 d1
 li : Df P w K mg base au 2 "_law_listing" ["_law_box_here", "_law_folk"] tE a2 d2
 so : Df P w K mg base au 4 "share_of" ["top", "bottom"] pH a3 d3
 cn : Df P w K mg base au 1 "_law_counts" ["_law_listing_here"] yq a4 d4
 dl : Df P w K mg base au 2 "_law_dealings" ["_law_folk", "_law_ones_here"] xT a5 d5
 cm : Df P w K mg base au 1 "_law_came" ["_law_listing_here", "_law_dealing"] t6 a6 d6
 ft : Df P w K mg base au 7 "fits" ["listing", "outcomes", "dealing"] yM a7 d7
 ls : Df P w K mg base (kc P w) 6 "listing_shares" ["listing", "dealing"] (rq CL CD) a8 d8
 kp : Df P w K mg base au 8 "kept_pairs" ["outcomes", "dealing", "level"] qV a9 d9
 ra : Df P w K mg base au 9 "_law_rows_alike" ["_law_outcomes", "_law_dealing", "_law_level", "_law_found"] wd MK KZ
 le : Df P w K mg base au 1 "less_share" ["one", "other"] sB MJ KY
 os : Df P w K mg base au 1 "_law_outside" ["_law_stretch", "_law_net"] xC MI KW
 nt : Df P w K mg base au 9 "net_stretch" ["outcomes", "dealing", "level"] yQ MH KU
 mi : mg "int" = none
 mr : mg "range" = none
 ml : mg "len" = none
variable {f a1 a2 a3 a4 a5 a6 a7 a8 a9 MK MJ MI MH : Addr} {d1 d2 d3 d4 d5 d6 d7 d8 d9 KZ KY KW KU : FuncData}
section
variable {ò : Value} {A : Around} {outer : List Env} {s : Shared} {H : Hp} {E : XK} (L : zO P w K mg base CL CD a1 a2 a3 a4 a5 a6 a7 a8 a9 MK MJ MI MH d1 d2 d3 d4 d5 d6 d7 d8 d9 KZ KY KW KU) (hr : ċ 9 (A.deeper (PyProof.Rows.envOfC "_law_right" (aa fL) s.heap.objs.size f ò)))
include L hr
theorem Do : Bx (PS (aU au P w K mg base iW "_law_right" (aa fL) f ò A outer s H E).ť (iR 0) EJ) :=
 ⟨cD (i := 1) π.nd rfl (Or.inl rfl) (aj aS ay (gQ L.tk.G (hr.mono ag) rfl L.tk.m L.tk.kp L.tk.b .nil ai (ad (pv 0) (ad ay ap))))⟩
theorem Dw : Bx (PS (aU au P w K mg base iW "_law_right" (aa fL) f ò A outer s H E).ť (iR 1) Dt) :=
 ⟨cD (i := 2) π.nd rfl (Or.inl rfl) (gQ L.li.G (hr.mono ag) rfl L.li.m L.li.kp L.li.b .nil ai (ad (pv 0) (ad (pv 1) ap)))⟩
theorem EB : Bx (PS (aU au P w K mg base iW "_law_right" (aa fL) f ò A outer s H E).ť (iR 2) Fx) :=
 ⟨cD (i := 3) π.nd rfl (Or.inl rfl) (gQ L.tk.G (hr.mono ag) rfl L.tk.m L.tk.kp L.tk.b .nil ai (ad (pv 0) (ad (aj aS (pv 1) ay) ap)))⟩
theorem C5 : Bx (PS (aU au P w K mg base iW "_law_right" (aa fL) f ò A outer s H E).ť (iR 3) (DD K)) := by
 have Η : ċ 1 _ := hr.mono ag;have M5 : ċ 4 _ := hr.mono ag;exact ye (i := 4) π.nd rfl (Or.inl rfl) (vY lS (l7 (kr ⟨gQ L.so.G M5 rfl L.so.m L.so.kp L.so.b .nil ai (ad ay (ad ay ap))⟩ (kr ⟨gQ L.so.G M5 rfl L.so.m L.so.kp L.so.b .nil ai (ad ay (ad ay ap))⟩ (kr ⟨gQ L.so.G M5 rfl L.so.m L.so.kp L.so.b .nil ai (ad (gQ L.tk.G Η rfl L.tk.m L.tk.kp L.tk.b .nil ai (ad (pv 0) (ad ay ap))) (ad ay ap))⟩ (kr ⟨gQ L.so.G M5 rfl L.so.m L.so.kp L.so.b .nil ai (ad ay (ad ay ap))⟩ ij))))) ⟨gQ L.tk.G Η rfl L.tk.m L.tk.kp L.tk.b .nil ai (ad (pv 0) (ad ay ap))⟩)
theorem Ed : Bx (PS (aU au P w K mg base iW "_law_right" (aa fL) f ò A outer s H E).ť (iR 4) (EM K)) :=
 ⟨cD (i := 5) π.nd rfl (Or.inl rfl) (qW xV (gQ L.cn.G (hr.mono ag) rfl L.cn.m L.cn.kp L.cn.b .nil ai (ad (pv 2) ap)) tV (sT ay))⟩
theorem Ey : Bx (PS (aU au P w K mg base iW "_law_right" (aa fL) f ò A outer s H E).ť (iR 5) E6) :=
 ⟨cD (i := 6) π.nd rfl (Or.inl rfl) (gQ L.dl.G (hr.mono ag) rfl L.dl.m L.dl.kp L.dl.b .nil ai (ad (pv 1) (ad (pv 3) ap)))⟩
theorem DE : Bx (PS (aU au P w K mg base iW "_law_right" (aa fL) f ò A outer s H E).ť (iR 6) Fk) :=
 ⟨cD (i := 7) π.nd rfl (Or.inl rfl) (cK (ad ay (ad ay (ad ay (ad ay ap)))))⟩
abbrev PZ : List Stmt := match iR 7 with
  | .For _ _ b _ _ => b
  | _ => []
abbrev j6 (i : Nat) : Stmt := PZ.getD i s0
theorem Ds : Bx (PS (aU au P w K mg base iW "_law_right" (aa fL) f ò A outer s H E).ť (j6 0) (Fp K)) :=
 ⟨wj (iy := 9) (te := dq (ac (am 0) (ac (tC (.bl true)) aH))) (g := aP 0) rfl wr (bD (gQ L.cm.G (hr.mono ag) rfl L.cm.m L.cm.kp L.cm.b .nil ai (ad (pv 2) (ad (pv 8) ap)))) (λ s H C fp => by exact bf (i := 0) Eu rfl (.inl rfl)) (λ s H C fp => by exact aO (ad (pv 0) (ad oB ap))) π.nd rfl (Or.inl rfl) rfl⟩
theorem Di : Bx (PS (aU au P w K mg base iW "_law_right" (aa fL) f ò A outer s H E).ť (j6 1) Fu) :=
 ⟨bA (aM pi (gQ L.ft.G (hr.mono ag) rfl L.ft.m L.ft.kp L.ft.b .nil ai (ad (pv 2) (ad (pv 9) (ad (pv 8) ap)))) oB (aA _)) (bz (cp oB)) gN⟩
theorem D9 : Bx (PS (aU au P w K mg base iW "_law_right" (aa fL) f ò A outer s H E).ť (j6 2) (EY K CL CD)) :=
 ⟨cM (gQ L.ls.G (hr.mono ag) rfl L.ls.m L.ls.kp L.ls.b .nil nv (ad (pv 2) (ad (pv 8) ap))) (bd rfl (bT (bf (i := 10) π.nd rfl (Or.inl rfl)) (bT (bf (i := 11) π.nd rfl (Or.inl rfl)) aC)))⟩
theorem Eh : Bx (PS (aU au P w K mg base iW "_law_right" (aa fL) f ò A outer s H E).ť (j6 3) EH) :=
 ⟨cD (i := 12) π.nd rfl (Or.inl rfl) (gQ L.kp.G (hr.mono ag) rfl L.kp.m L.kp.kp L.kp.b .nil ai (ad (pv 9) (ad (pv 8) (ad (pv 4) ap))))⟩
theorem DZ : Bx (PS (aU au P w K mg base iW "_law_right" (aa fL) f ò A outer s H E).ť (j6 4) Fg) := by
 have hu : (A.deeper (PyProof.Rows.envOfC "_law_right" (aa fL) s.heap.objs.size f ò)).units + 1 < cLine := by have := hr.un; omega
 exact ⟨bA (PW.pt (iI (wQ (oS hu (pv 5) (pv 12)) rfl) (eL (bF (aX (gQ L.ra.G hr rfl L.ra.m L.ra.kp L.ra.b .nil ai (ad (pv 9) (ad (pv 8) (ad (pv 4) (ad (pv 12) ap)))))))))) (bz (cp oB)) gN⟩
theorem Ea : Bx (PS (aU au P w K mg base iW "_law_right" (aa fL) f ò A outer s H E).ť (j6 5) (EI K)) :=
 ⟨hZ (pv 7) ay fj (cz cZ rfl L.mi ĥ (ad (jC (gQ L.le.G (hr.mono ag) rfl L.le.m L.le.kp L.le.b .nil ai (ad (pv 4) (ad (pv 10) ap)))) ap)) jB c7⟩
theorem CZ : Bx (PS (aU au P w K mg base iW "_law_right" (aa fL) f ò A outer s H E).ť (j6 6) (DH K)) :=
 ⟨hZ (pv 7) ay fj (cz cZ rfl L.mi ĥ (ad (jC (gQ L.le.G (hr.mono ag) rfl L.le.m L.le.kp L.le.b .nil ai (ad (pv 4) (ad (pv 11) ap)))) ap)) jB c7⟩
theorem El : Bx (PS (aU au P w K mg base iW "_law_right" (aa fL) f ò A outer s H E).ť (j6 7) (C8 K)) := by
 have hu : (A.deeper (PyProof.Rows.envOfC "_law_right" (aa fL) s.heap.objs.size f ò)).units + 1 < cLine := by have := hr.un; omega
 exact ⟨hZ (pv 7) ay fj (cz cZ rfl L.mi ĥ (ad (bN jM (fE hu (pv 12) (pv 5)) dz (aA _)) ap)) jB c7⟩
theorem CV : Bx (PS (aU au P w K mg base iW "_law_right" (aa fL) f ò A outer s H E).ť (j6 8) (Ex K)) :=
 ⟨hZ (pv 7) ay fj (cz cZ rfl L.mi ĥ (ad (gQ L.os.G (hr.mono ag) rfl L.os.m L.os.kp L.os.b .nil ai (ad (gQ L.nt.G hr rfl L.nt.m L.nt.kp L.nt.b .nil ai (ad (pv 9) (ad (pv 8) (ad (pv 4) ap)))) (ad (aj bp (cq dG (pv 5) ay) (cq dG (pv 5) ay)) ap))) ap)) jB c7⟩
theorem DB : Bx (PS (aU au P w K mg base iW "_law_right" (aa fL) f ò A outer s H E).ť (iR 7) (Cv K CL CD)) :=
 il å rfl ⟨bD (pv 6)⟩ (bf (i := 8) π.nd rfl (Or.inl rfl))
  (cH (Ds L hr) (cH (Di L hr) (cH (D9 L hr) (cH (Eh L hr) (cH (DZ L hr) (cH (Ea L hr) (cH (CZ L hr) (cH (El L hr) (aR (CV L hr))))))))))
theorem Es : Bx (PS (aU au P w K mg base iW "_law_right" (aa fL) f ò A outer s H E).ť (iR 8) (zS K)) :=
 il å rfl ⟨bc rfl L.mr (ad ay ap)⟩ (bf (i := 13) π.nd rfl (Or.inl rfl))
  (aR ⟨bA (aM nU (aj bn (cq lS (pv 7) (pv 13)) (cq dG (pv 4) ay)) (aj bn (aj bn (cq lS (cK (ad ay (ad ay (ad ay (ad ay ap))))) (pv 13)) (cq dG (pv 4) ay)) (ak aq rfl L.ml ä (ad (pv 6) ap))) (aA _)) (bz (cp oB)) gN⟩)
theorem CW : Bx (PS (aU au P w K mg base iW "_law_right" (aa fL) f ò A outer s H E).ť (iR 9) zb) := ⟨cp oB⟩
theorem wp : Bx (f_ (aU au P w K mg base iW "_law_right" (aa fL) f ò A outer s H E).ť (aK fL) (FD K CL CD)) :=
 cH (Do L hr) (cH (Dw L hr) (cH (EB L hr) (cH (C5 L hr) (cH (Ed L hr) (cH (Ey L hr) (cH (DE L hr) (cH (DB L hr) (cH (Es L hr) (aR (CW L hr))))))))))
omit L hr
end
end
abbrev bU (b : Bool) : Nat := if b = true then 1 else 0
theorem Ŗ.Ts {H H' : Hp} {a : Addr} {L : List (Int × Int)} (h : Ŗ H a L) (k : eV H H') (l : ∀ xs, H a = some (.lst xs) -> H' a = some (.lst xs)) : Ŗ H' a L := by
 obtain ⟨xs, h1, h2⟩ := h;exact ⟨xs, l _ h1, Paired.imp' (λ _ _ r => r.kp k) h2⟩
def ot (R : Addr) (k c : Nat) (nx : Hp -> Prop) : VK := λ x H4 => v0 [x] H4 λ y H5 => DV (λ i j => i + j) (vN c) y H5 λ z H6 => sv (.ref R) (.int ((k : Nat) : Int)) z H6 nx
section
variable {K : Frag} {H : Hp} {R : Addr} {c0 c1 c2 c3 c k : Nat} {σ : St} {te : TE} {De : bQ} {u : TS} {cs : List Nat} {nx : Hp -> Prop}
theorem BR (s7 : σ[7]? = some (some (.ref R))) (hR : H R = some (.lst (cs.map vN))) (hk : cs[k]? = some c) (h : te σ H (ot R k c λ H' => De.nx σ H')) : yW K ((k : Nat) : Int) te De σ H :=
 ⟨_, s7, R, _, k, _, rfl, rfl, ñ.of hR, by rw [Õ, hk]; rfl, h⟩
theorem mZ (s7 : σ[7]? = some (some (.ref R))) (hR : H R = some (.lst (cs.map vN))) (hk : cs[k]? = some c) (h : te σ H (ot R k c λ H' => u De σ H')) : bB (yW K ((k : Nat) : Int) te) u De σ H :=
 ⟨_, s7, R, _, k, _, rfl, rfl, ñ.of hR, by rw [Õ, hk]; rfl, h⟩
theorem hV {b : Bool} (hR : H R = some (.lst (cs.map vN))) (hk : cs[k]? = some c) (ix : sw cs.length ((k : Nat) : Int) = some k) (q : nx (ao H R (.lst ((cs.set k (c + bU b)).map vN)))) : ot R k c nx (.bl b) H := by
 refine .inr ⟨b, rfl, _, _, rfl, rfl, R, _, _, k, rfl, rfl, hR, by rw [Æ]; exact ix, ?_⟩
 have e : (cs.map vN).set k (V.int (((c : Nat) : Int) + (if b then 1 else 0))) = (cs.set k (c + bU b)).map vN := by
  rw [List.map_set]
  congr 1
  show V.int _ = V.int _
  congr 1
  cases b <;> simp [bU]
 show nx (ao H R (.lst ((cs.map vN).set k (V.int (((c : Nat) : Int) + (if b then 1 else 0))))))
 rw [e];exact q
theorem Ca {Q : VK} {l : Addr} {L : List (Int × Int)} {x : Nat} (s2 : σ[2]? = some (some (.ref l))) (s8 : σ[8]? = some (some (.int (x : Nat)))) (ls : Ŗ H l L) (ś : L.length <= 20) (q : ∀ D H', H D = none -> Ext H H' -> Ż H' D (cm L x) -> Q (.ref D) H') : DC K σ H Q := by
 unfold DC dX cX;refine ⟨_, s2, _, s8, l, x, L, rfl, ls, ś, λ r H1 hr x1 h1 => ⟨r, rfl, ⟨_, ñ.of h1⟩, λ D hD => ?_⟩⟩;have lc := eQ L x;refine dw (n := (cm L x).length) (λ i ys H' => Ext H1 H' /\ Paired (Ys H') ys ((cm L x).take i)) (by rw [Þ]; omega) ⟨Ext.new hD, .nil⟩ (λ i ys H' hi p => ⟨_, _, ñ.of (p.1 _ _ h1), by rw [Õ, Ã hi]; rfl⟩) (λ ys H' p => ⟨_, ñ.of (p.1 _ _ h1), by rw [Æ]; exact Å _⟩) ?_ ?_
 ·rintro i y ys H' H3 hi ⟨rfl, hy⟩ ly ĕ ⟨x', pr⟩ os Ņ N kk;have ey := hy _ (ñ.of (x' _ _ h1));rw [Õ, Ã hi] at ey;have ey : V.int (cm L x)[i] = y := Ò ey;subst ey;have en : (cm L x)[i]? = some (cm L x)[i] := Ã hi;generalize (cm L x)[i] = n at en
  match os, Ņ with
  | [p0], _ =>
   refine ⟨⟨[_], rfl, rfl⟩, _, rfl, fk, λ t ht => ?_⟩;have x2 := Ext.new (o := .tup [.int n, .bl true]) ht;have KP := x2 _ _ ĕ;have kl : eV _ _ := b9 (ys := ys ++ [.ref t]) KP;refine kk _ _ KP ⟨aV _ (x'.trans x2) hD, ?_⟩;rw [aw en];exact aN ⟨t, rfl, kl _ _ bh⟩ (Paired.imp' (λ _ _ r => (r.kp x2.Ū).kp kl) pr)
 ·rintro ys H' ly ĕ ⟨x', pr⟩;rw [ö] at pr;exact q D H' (bj x1 hD) (x1.trans x') ⟨ys, ĕ, pr⟩
end
theorem G3 {α β : Type} {R : α -> β -> Prop} {y : β} : ∀ {xs : List α} {ys : List β}, Paired R xs ys -> y ∈ ys -> ∃ x ∈ xs, R x y
 | _, _, .cons r t, h => by
  rcases Ï.mp h with rfl | h
  ·exact ⟨_, Ù .., r⟩
  ·obtain ⟨x, hx, rx⟩ := G3 t h;exact ⟨x, Î _ hx, rx⟩
theorem uY {H : Hp} {t m : Nat} {ns : List Int} {x : Nat} {kvs : List (List Key × V)} (pr : Paired (K6 H t m (gA ns x) (gB ns x) (gC ns x) (gD ns x)) kvs (dm ns x)) {z : Nat × Nat} (mz : z ∈ dm ns x) : ∃ v, cL kvs (nW z) = some v /\ decide (v = V.ĉ) = cU t m ns x z := by
 obtain ⟨kv, KJ, ek, vv⟩ := G3 pr mz;have nd : (kvs.map (·.1)).Nodup := by
  rw [fF pr];exact (jK _ _).map _ (λ a b h z => h (jq z))
 have : (nW z, kv.2) ∈ kvs := by rw [<- ek]; exact KJ
 refine ⟨kv.2, ik nd this, ?_⟩;rcases vv with ⟨h1, h2⟩ | ⟨h1, l, us, h2, _⟩
 ·rw [h2]; exact h1.symm
 ·rw [h2]; exact h1.symm
abbrev fK (c0 c1 c2 c3 : Nat) : HO := .lst (([c0, c1, c2, c3] : List Nat).map vN)
section
variable {K : Frag} {CL CD : Addr}
theorem DA {De : bQ} {H : Hp} {p l pa dl R : Addr} {L : List (Int × Int)} {x n t m c0 c1 c2 c3 : Nat} {O : Int} {lv : V} {o9 Ũ Ŷ ŵ Ŏ : Option V} (ls : Ŗ H l L) (bt : bL L) (l1 : 1 <= L.length) (ś : L.length <= 20) (hx : x < 2 ^ L.length) (p_ : Hf H lv t m) (OE : H pa = some (.tup [.int (((gK L).1 : Nat) : Int), .int (((gK L).2 : Nat) : Int)])) (hR : H R = some (fK c0 c1 c2 c3)) (N5 : l ≠ R)
  (nx : ∀ H' d2 d3 o9 Ũ Ŷ ŵ Ŏ, (∀ b o, H b = some o -> b ≠ R -> H' b = some o) -> H' R = some (fK (c0 + bU (bJ L t m x)) (c1 + bU (ck L t m x)) (c2 + bU d2) (c3 + bU d3)) -> (d2 = true -> bJ L t m x = true \/ ck L t m x = true) -> (d3 = true -> d2 = true) -> De.nx [some (.ref p), some (.int (n : Nat)), some (.ref l), some (.int O), some lv, some (.ref pa), some (.ref dl), some (.ref R), some (.int (x : Nat)), o9, Ũ, Ŷ, ŵ, Ŏ] H') :
  tJ K CL CD De [some (.ref p), some (.int (n : Nat)), some (.ref l), some (.int O), some lv, some (.ref pa), some (.ref dl), some (.ref R), some (.int (x : Nat)), o9, Ũ, Ŷ, ŵ, Ŏ] H := by
 have lc := eQ L x;have Χ := qv x bt;have Ou : x < 2 ^ (cm L x).length := by rw [lc]; exact hx
 refine gk (Ca (K := K) rfl rfl ls ś λ o H1 ho x1 ys => ?_);have N4 : o ≠ R := λ z => by rw [z, hR] at ho; cases ho
 refine ⟨_, rfl, _, rfl, _, rfl, l, o, x, L, rfl, ls.ext x1, bt, l1, ś, hx, ys, λ H2 x2 => ⟨true, true, rfl, rfl, _, rfl, c6 ?_⟩⟩;have X2 := x1.trans x2;refine AB (i := 2) (j := 8) (a := 10) (b := 11) rfl rfl (ls.ext X2) bt l1 ś hx λ r v1 v2 H3 hr x3 h3 s1 s2 => ?_;have X3 := X2.trans x3;have K9 := ys.ext (x2.trans x3);refine ⟨_, rfl, _, rfl, _, rfl, o, lv, x, t, m, cm L x, rfl, K9, Χ, ae, ae, Ou, p_.kp X3.Ū, λ f H4 hf x4 kd => ?_⟩;have X4 := X3.trans x4;have P2 := K9.ext x4;obtain ⟨kvs, hk, pr⟩ := kd;have nf : ∀ {b : Addr} {ob : HO}, H3 b = some ob -> b ≠ f := λ {b ob} e z => by rw [z, hf] at e; cases e
 have Qi : o ≠ f := by
  obtain ⟨xs, h, _⟩ := K9;exact nf h
 obtain ⟨v, ev, dn⟩ := uY pr (jO bt);have Mn := X4 _ _ OE;refine ⟨_, rfl, _, rfl, f, some v, rfl, .inr ⟨kvs, nW (gK L), pa, .inl hk, rfl, Mn, ev.symm⟩, _, rfl, c6 ?_⟩;refine ⟨_, rfl, _, rfl, _, rfl, _, rfl, o, f, lv, x, t, m, cm L x, rfl, P2, Χ, ae, ae, Ou, p_.kp X4.Ū, Qi, ⟨kvs, hk, pr⟩, λ H5 ob Md KL keep Ν => ⟨_, rfl, c6 ?_⟩⟩;rw [hk] at KL;cases KL;have Me : eV H4 H5 := λ b xs e => keep _ _ e (λ z => by rw [z, hk] at e; cases e)
 have K5 : ∀ b ob, H b = some ob -> H5 b = some ob := λ b ob e => keep _ _ (X4 _ _ e) (nf (X3 _ _ e));have Sc : Ż H5 o (cm L x) := P2.kp Me λ xs e => keep _ _ e Qi;have Kx := (p_.kp X4.Ū).kp Me;have SN := (s1.kp x4.Ū).kp Me;have SM := (s2.kp x4.Ū).kp Me;have Mm := Me _ _ Mn;have MB : H5 R = some (fK c0 c1 c2 c3) := K5 _ _ hR;have Qn : f ≠ R := λ z => by rw [<- z, Ν] at MB; cases MB
 have T := D7 (L := L) (x := x) ś;have sb := p_.sm;have st := p_.tb;refine mZ (k := 0) (cs := [c0, c1, c2, c3]) rfl MB rfl ?_;refine ⟨_, rfl, _, rfl, lv, v1, t, m, _, _, rfl, Kx.sh, SN, ae, ae, ?_⟩;rw [dQ T.1];refine ⟨_, rfl, hV MB rfl rfl ?_⟩;have MZ : eV H5 (ao H5 R (fK (c0 + bU (bJ L t m x)) c1 c2 c3)) := b9 MB;have O0 : ao H5 R (fK (c0 + bU (bJ L t m x)) c1 c2 c3) R = some (fK (c0 + bU (bJ L t m x)) c1 c2 c3) := bh;have k6 : ∀ b ob, b ≠ R -> H5 b = some ob -> ao H5 R (fK (c0 + bU (bJ L t m x)) c1 c2 c3) b = some ob := λ b ob n e => by rw [ah n]; exact e
 show bB (DH K) _ _ _ (ao H5 R (fK (c0 + bU (bJ L t m x)) c1 c2 c3));generalize ao H5 R (fK (c0 + bU (bJ L t m x)) c1 c2 c3) = H6 at *;refine mZ (k := 1) (cs := [c0 + bU (bJ L t m x), c1, c2, c3]) rfl O0 rfl ?_;refine ⟨_, rfl, _, rfl, lv, v2, t, m, _, _, rfl, (Kx.kp MZ).sh, SM.kp MZ, ae, ae, ?_⟩;rw [dQ T.1];refine ⟨_, rfl, hV O0 rfl rfl ?_⟩;have Ky : eV H6 (ao H6 R (fK (c0 + bU (bJ L t m x)) (c1 + bU (ck L t m x)) c2 c3)) := b9 O0;have OZ : ao H6 R (fK (c0 + bU (bJ L t m x)) (c1 + bU (ck L t m x)) c2 c3) R = some (fK (c0 + bU (bJ L t m x)) (c1 + bU (ck L t m x)) c2 c3) := bh;have k7 : ∀ b ob, b ≠ R -> H6 b = some ob -> ao H6 R (fK (c0 + bU (bJ L t m x)) (c1 + bU (ck L t m x)) c2 c3) b = some ob := λ b ob n e => by rw [ah n]; exact e
 show bB (C8 K) _ _ _ (ao H6 R (fK (c0 + bU (bJ L t m x)) (c1 + bU (ck L t m x)) c2 c3));generalize ao H6 R (fK (c0 + bU (bJ L t m x)) (c1 + bU (ck L t m x)) c2 c3) = H7 at *;refine mZ (k := 2) (cs := [c0 + bU (bJ L t m x), c1 + bU (ck L t m x), c2, c3]) rfl OZ rfl ?_;have OD := Ky _ _ (MZ _ _ Mm);have O3 := k7 _ _ Qn (k6 _ _ Qn Ν);refine ⟨_, rfl, _, rfl, f, v, rfl, .inr ⟨kvs, nW (gK L), pa, .inr ⟨ob, O3⟩, rfl, OD, ev.symm⟩, rfl, ?_⟩;rw [dn];refine hV OZ rfl rfl ?_;have Tx : eV H7 (ao H7 R (fK (c0 + bU (bJ L t m x)) (c1 + bU (ck L t m x)) (c2 + bU (cU t m (cm L x) x (gK L))) c3)) := b9 OZ;have QN : ao H7 R (fK (c0 + bU (bJ L t m x)) (c1 + bU (ck L t m x)) (c2 + bU (cU t m (cm L x) x (gK L))) c3) R = some (fK (c0 + bU (bJ L t m x)) (c1 + bU (ck L t m x)) (c2 + bU (cU t m (cm L x) x (gK L))) c3) := bh;have k8 : ∀ b ob, b ≠ R -> H7 b = some ob -> ao H7 R (fK (c0 + bU (bJ L t m x)) (c1 + bU (ck L t m x)) (c2 + bU (cU t m (cm L x) x (gK L))) c3) b = some ob := λ b ob n e => by rw [ah n]; exact e
 show Ex K _ _ (ao H7 R (fK (c0 + bU (bJ L t m x)) (c1 + bU (ck L t m x)) (c2 + bU (cU t m (cm L x) x (gK L))) c3));generalize ao H7 R (fK (c0 + bU (bJ L t m x)) (c1 + bU (ck L t m x)) (c2 + bU (cU t m (cm L x) x (gK L))) c3) = H8 at *;refine BR (k := 3) (cs := [c0 + bU (bJ L t m x), c1 + bU (ck L t m x), c2 + bU (cU t m (cm L x) x (gK L)), c3]) rfl QN rfl ?_;have Kz : eV H5 H8 := λ b xs e => Tx _ _ (Ky _ _ (MZ _ _ e));have Sb : Ż H8 o (cm L x) := Sc.kp Kz λ xs e => k8 _ _ N4 (k7 _ _ N4 (k6 _ _ N4 e));have OC := Kz _ _ Mm;refine ⟨_, rfl, _, rfl, _, rfl, o, lv, x, t, m, cm L x, rfl, Sb, Χ, ae, ae, Ou, Kx.kp Kz, λ w H9 x9 S_ => ?_⟩;have Ml := ą.of (K := K) (x9 _ _ OC);have UB := x9 _ _ QN;refine ⟨_, rfl, pa, _, _, _, rfl, rfl, Ml, rfl, _, rfl, pa, _, _, _, rfl, rfl, Ml, rfl, _, _, rfl, rfl, w, pN (gK L), rfl, ?_⟩;have own : cU t m (cm L x) x (gK L) = true -> bJ L t m x = true \/ ck L t m x = true := λ h => by
  cases e1 : bJ L t m x with
  | true => exact .inl rfl
  | false =>
   cases e2 : ck L t m x with
   | true => exact .inr rfl
   | false =>
    exfalso;unfold bJ at e1;unfold ck at e2;have := rp (x := x) bt (t := t) (m := m) (by simpa using e1) (by simpa using e2)
    rw [this] at h;cases h
 have fin : ∀ d3 : Bool, (d3 = true -> cU t m (cm L x) x (gK L) = true) -> ot R 3 c3 (λ H' => De.nx [some (.ref p), some (.int (n : Nat)), some (.ref l), some (.int O), some lv, some (.ref pa), some (.ref dl), some (.ref R), some (.int (x : Nat)), some (.ref o), some v1, some v2, some (.ref f), Ŏ] H') (.bl d3) H9 := λ d3 h3 => by
  refine hV (cs := [c0 + bU (bJ L t m x), c1 + bU (ck L t m x), c2 + bU (cU t m (cm L x) x (gK L)), c3]) UB rfl rfl (nx _ (cU t m (cm L x) x (gK L)) d3 _ _ _ _ _ (λ b JK e n => ?_) bh own h3);rw [ah n];exact x9 _ _ (k8 _ _ n (k7 _ _ n (k6 _ _ n (K5 _ _ e))))
 rcases S_ with ⟨rfl, all⟩ | ⟨u, lo, hi, rfl, hu, LY⟩
 ·exact .inl ⟨rfl, fin true λ _ => all _ (jO bt)⟩
 ·refine .inr ⟨u, lo, hi, rfl, hu, fin _ λ h => ?_⟩;cases e : cU t m (cm L x) x (gK L) with
  | true => rfl
  | false =>
   exfalso;obtain ⟨q1, q2⟩ := LY _ (jO bt) e;rw [Ç q1, Ç q2] at h;cases h
end
theorem jV {H : Hp} {v : V} {a b : Nat} (h : HC H v (bw a b) (aI a b)) (b1 : 1 <= b) (ab : a <= b) (sm : b <= 1000) : Hf H v (bw a b) (aI a b) :=
 ⟨h, uR b1, ou b1, Nat.div_le_div_right ab, Ú (Nat.div_le_self _ _) sm⟩
theorem dR {p : Nat -> Bool} {xs : List Nat} {i x : Nat} (h : xs[i]? = some x) : ((xs.take (i + 1)).filter p).length = ((xs.take i).filter p).length + bU (p x) := by
 rw [aw h, û, Ì]
 congr 1
 by_cases e : p x = true
 ·simp [e, bU]
 ·simp [e, bU]
section
variable {P : Program} {w : World} {K : Frag} {mg : bE} {base : Heap} {CL CD : Addr}
theorem qi {σ : St} {H : Hp} {Q : VK} {ta tb : TE} {a b : Nat} (ha : ∀ (R : VK), R (.int (a : Nat)) H -> ta σ H R) (hb : ∀ (R : VK), R (.int (b : Nat)) H -> tb σ H R) (b1 : 1 <= b) (ab : a <= b) (sb : b <= 1000) (q : ∀ p, H p = none -> Q (.ref p) (ao H p (.tup [.int (bw a b : Nat), .int (aI a b : Nat)]))) : zA ta tb σ H Q :=
 ha _ (hb _ ⟨a, b, rfl, b1, ab, Ž sb (ň (show 1000 < 2 ^ 10 by decide) (Ŭ ag ag)), q⟩)
theorem AJ {H : Hp} {p : Addr} {De : bQ} {u : TS} {o1 o2 o3 o4 o5 o6 o7 o8 o9 Ũ Ŷ ŵ Ŏ : Option V} (bx : Ś H p) (nx : ∀ v t m H', Ś H' p -> Kept H H' p -> Hf H' v t m -> u De [some (.ref p), o1, o2, o3, some v, o5, o6, o7, o8, o9, Ũ, Ŷ, ŵ, Ŏ] H') : bB (DD K) u De [some (.ref p), o1, o2, o3, o4, o5, o6, o7, o8, o9, Ũ, Ŷ, ŵ, Ŏ] H := by
 refine gk (rC (yE ?_));refine qi (a := 1) (b := 20) (λ R r => r) (λ R r => r) ag ag ag λ q1 h1 => ?_;have x1 := Ext.new (o := .tup [.int (bw 1 20 : Nat), .int (aI 1 20 : Nat)]) h1;refine rJ (qi (a := 1) (b := 10) (λ R r => r) (λ R r => r) ag ag ag λ q2 h2 => ?_);have x2 := Ext.new (o := .tup [.int (bw 1 10 : Nat), .int (aI 1 10 : Nat)]) h2;have K1 := (bx.ext x1).ext x2;have f1 := x2 _ _ (show ao _ q1 (.tup [.int (bw 1 20 : Nat), .int (aI 1 20 : Nat)]) q1 = some (.tup [.int (bw 1 20 : Nat), .int (aI 1 20 : Nat)]) from bh);have f2 : ao (ao H q1 (.tup [.int (bw 1 20 : Nat), .int (aI 1 20 : Nat)])) q2 (.tup [.int (bw 1 10 : Nat), .int (aI 1 10 : Nat)]) q2 = some (.tup [.int (bw 1 10 : Nat), .int (aI 1 10 : Nat)]) := bh;have X2 := x1.trans x2;generalize ao (ao H q1 (.tup [.int (bw 1 20 : Nat), .int (aI 1 20 : Nat)])) q2 (.tup [.int (bw 1 10 : Nat), .int (aI 1 10 : Nat)]) = H2 at *;refine ff (i := 0) (m := 11) rfl K1 (λ R r => r) ag ag λ r H3 r0 Wv Nl k3 => ?_;obtain ⟨a, rfl⟩ : ∃ a : Nat, r = ((a : Nat) : Int) := ⟨r.toNat, ae⟩;refine ⟨a, 10, rfl, ag, ae, ň (show 10 < 2 ^ 10 by decide) (Ŭ ag ag), λ q3 h3 => ?_⟩
 have x3 := Ext.new (o := .tup [.int (bw a 10 : Nat), .int (aI a 10 : Nat)]) h3;have f3 : ao H3 q3 (.tup [.int (bw a 10 : Nat), .int (aI a 10 : Nat)]) q3 = some (.tup [.int (bw a 10 : Nat), .int (aI a 10 : Nat)]) := bh;have Qx := k3.Ū K1;have Vm := x3 _ _ (Qx _ _ f1);have Vl := x3 _ _ (Qx _ _ f2);have Lk := Nl.ext x3;have K3 : Kept H (ao H3 q3 (.tup [.int (bw a 10 : Nat), .int (aI a 10 : Nat)])) p := (X2.kept p).trans (k3.trans (x3.kept p));generalize ao H3 q3 (.tup [.int (bw a 10 : Nat), .int (aI a 10 : Nat)]) = H4 at *;refine rJ (qi (a := 1) (b := 4) (λ R r => r) (λ R r => r) ag ag ag λ q4 h4 => ⟨fk, λ t ht => ?_⟩);have x5 := Ext.new (o := .tup [.int (bw 1 4 : Nat), .int (aI 1 4 : Nat)]) h4;have x6 := Ext.new (o := .lst [.ref q1, .ref q2, .ref q3, .ref q4]) ht;have X6 := x5.trans x6;have RI := Lk.ext X6;have nt : t ≠ p := nh (Lk.ext x5) ht;have g1 := X6 _ _ Vm;have g2 := X6 _ _ Vl;have g3 := X6 _ _ f3;have g4 := x6 _ _ (show ao _ q4 (.tup [.int (bw 1 4 : Nat), .int (aI 1 4 : Nat)]) q4 = some (.tup [.int (bw 1 4 : Nat), .int (aI 1 4 : Nat)]) from bh);have ft : ao (ao H4 q4 (.tup [.int (bw 1 4 : Nat), .int (aI 1 4 : Nat)])) t (.lst [.ref q1, .ref q2, .ref q3, .ref q4]) t = some (.lst [.ref q1, .ref q2, .ref q3, .ref q4]) := bh;refine ff (i := 0) (m := 4) rfl RI (λ R r => r) ag ag λ r H7 r0 r4 Nk k7 => ?_;have Nd := ñ.of (K := K) (k7 _ _ ft nt);have Ky := k7.Ū RI;have KK := K3.trans ((X6.kept p).trans k7);rcases (show r = 0 \/ r = 1 \/ r = 2 \/ r = 3 by omega) with rfl | rfl | rfl | rfl
 ·exact ⟨t, _, _, _, rfl, rfl, Nd, rfl, nx _ _ _ H7 Nk KK (jV ⟨q1, rfl, Ky _ _ g1⟩ ag ag ag)⟩
 ·exact ⟨t, _, _, _, rfl, rfl, Nd, rfl, nx _ _ _ H7 Nk KK (jV ⟨q2, rfl, Ky _ _ g2⟩ ag ag ag)⟩
 ·exact ⟨t, _, _, _, rfl, rfl, Nd, rfl, nx _ _ _ H7 Nk KK (jV ⟨q3, rfl, Ky _ _ g3⟩ ag ae ag)⟩
 ·exact ⟨t, _, _, _, rfl, rfl, Nd, rfl, nx _ _ _ H7 Nk KK (jV ⟨q4, rfl, Ky _ _ g4⟩ ag ag ag)⟩
def BM : Sp := λ vs H Q _ => ∃ p, vs = [.ref p] /\ Ś H p /\ ∀ H', Kept H H' p -> Q (.bl true) H'
theorem Ak {u : TS} {De : bQ} {σ : St} {H : Hp} {d : Addr} (s6 : σ[6]? = some (some (.ref d))) (h : (∃ ys, ñ K H d ys) /\ ∃ W : Nat -> Nat -> St -> Hp -> Prop, (∃ m, W 0 m σ H) /\ ∀ i m σ H, W i m σ H ->
   ((ss K d).stop i H /\ u De σ H) \/ ((ss K d).go i H /\ ∃ N : St -> Hp -> Prop, (∀ ĝ H', N ĝ H' -> ∃ m', m' < m /\ W (i + 1) m' ĝ H') /\ ∀ x H', (ss K d).Ψ i H x H' -> aP 8 x σ H' λ ġ H2 => tJ K CL CD { De with nx := N, ct := N, bk := λ σ H => u De σ H } ġ H2)) : bB (Cv K CL CD) u De σ H := ⟨_, s6, d, rfl, h⟩
theorem Bi {De : bQ} {H : Hp} {lv : V} {dl R : Addr} {t m c0 c1 c2 c3 N : Nat} {xs : List V} {s0 s1 s2 s3 s5 s8 s9 Kr Kq Kp Ŏ : Option V} (p_ : Hf H lv t m) (hR : H R = some (fK c0 c1 c2 c3)) (hd : H dl = some (.lst xs)) (lx : xs.length = N) (h0 : c0 * m <= t * N) (h1 : c1 * m <= t * N) (h2 : c2 <= c0 + c1) (h3 : c3 <= c2) (sN : N <= 1000) (WK : c0 <= N) (WJ : c1 <= N)
  (q : ∀ H', Ext H H' -> De.rt (.bl true) H') : bB (zS K) zb De [s0, s1, s2, s3, some lv, s5, some (.ref dl), some (.ref R), s8, s9, Kr, Kq, Kp, Ŏ] H := by
 refine ⟨4, rfl, ag, ag, ?_⟩;refine cV (lo := 0) (n := 4) (λ i σ H' => Ext H H' /\ ∃ Ŏ, σ = [s0, s1, s2, s3, some lv, s5, some (.ref dl), some (.ref R), s8, s9, Kr, Kq, Kp, Ŏ]) ⟨Ext.refl _, _, rfl⟩ ?_ ?_
 ·rintro i σ H' hi ⟨x', Ŏ, rfl⟩;obtain ⟨⟨pl, rfl, l_⟩, _, b1, tb, sm⟩ := id p_;have OB := ą.of (K := K) (x' _ _ l_);have Lf := ñ.of (K := K) (x' _ _ hR);have QI := ñ.of (K := K) (x' _ _ hd);have fin : ∀ (k : Nat) (c w : Nat) (H2 : Hp), Ext H' H2 -> c <= 4 * N -> w <= 2 -> c * m <= w * (t * N) -> ∃ b, V.bl (decide ((((c : Nat) : Int) * ((m : Nat) : Int)) > (((w : Nat) : Int) * ((t : Nat) : Int) * ((N : Nat) : Int)))) = .bl b /\ if b = true then De.rt (.bl false) H2 else (Ext H H2 /\ ∃ Ŏ, [s0, s1, s2, s3, some (.ref pl), s5, some (.ref dl), some (.ref R), s8, s9, Kr, Kq, Kp, some (.int (0 + (i : Int)))] = [s0, s1, s2, s3, some (.ref pl), s5, some (.ref dl), some (.ref R), s8, s9, Kr, Kq, Kp, Ŏ]) := λ k c w H2 x2 _ _ h => by
   refine ⟨_, rfl, ?_⟩;have e : ¬ ((((c : Nat) : Int) * ((m : Nat) : Int)) > (((w : Nat) : Int) * ((t : Nat) : Int) * ((N : Nat) : Int))) := by
    have : ((c * m : Nat) : Int) <= ((w * (t * N) : Nat) : Int) := Int.ofNat_le.mpr h;rw [HY, HY, HY, <- Int.mul_assoc] at this;omega
   rw [â e];exact c6 ⟨x'.trans x2, _, rfl⟩
  have go : ∀ (k c w : Nat), i = k -> (([c0, c1, c2, c3] : List Nat).map vN)[k]? = some (vN c) -> ([V.int 1, V.int 1, V.int 2, V.int 2] : List V)[k]? = some (vN w) -> k < 4 -> c <= 4 * N -> w <= 2 -> c * m <= w * (t * N) -> zy K { De with nx := λ σ H' => Ext H H' /\ ∃ Ŏ, σ = [s0, s1, s2, s3, some (.ref pl), s5, some (.ref dl), some (.ref R), s8, s9, Kr, Kq, Kp, Ŏ], ct := λ σ H' => Ext H H' /\ ∃ Ŏ, σ = [s0, s1, s2, s3, some (.ref pl), s5, some (.ref dl), some (.ref R), s8, s9, Kr, Kq, Kp, Ŏ], bk := λ σ H => zb De σ H } [s0, s1, s2, s3, some (.ref pl), s5, some (.ref dl), some (.ref R), s8, s9, Kr, Kq, Kp, some (.int (0 + (i : Int)))] H' := λ k c w ek ec ew k4 cN w2 h => by
   subst ek;have i0 : (0 + (i : Int)) = ((i : Nat) : Int) := Ě _;rw [i0];refine ⟨_, rfl, _, rfl, R, _, _, _, rfl, rfl, Lf, vP ec, _, rfl, pl, _, _, _, rfl, rfl, OB, rfl, _, _, rfl, rfl, .inr ⟨ae, ae⟩, fk, λ u hu => ?_⟩;have x2 := Ext.new (o := .lst [.int 1, .int 1, .int 2, .int 2]) hu;refine ⟨_, rfl, u, _, _, _, rfl, rfl, ñ.of bh, vP ew, _, rfl, pl, _, _, _, rfl, rfl, ą.of (x2 _ _ (x' _ _ l_)), rfl, _, _, rfl, rfl, .inr ⟨ae, ae⟩, _, rfl, dl, _, rfl, .inl (ñ.of (x2 _ _ (x' _ _ hd))), _, _, rfl, rfl, .inr ⟨ae, ae⟩, _, _, rfl, rfl, ?_⟩;rw [lx];have := fin i c w _ x2 cN w2 h;rw [i0] at this;exact this
  have m2 : c2 * m <= 2 * (t * N) := by
   have : c2 * m <= (c0 + c1) * m := r_ _ h2;rw [Ο] at this;omega
  have m3 : c3 * m <= 2 * (t * N) := Ú (r_ _ h3) m2
  match i, hi with
  | 0, _ => exact go 0 c0 1 rfl rfl rfl ag ae ag ae
  | 1, _ => exact go 1 c1 1 rfl rfl rfl ag ae ag ae
  | 2, _ => exact go 2 c2 2 rfl rfl rfl ag ae ag m2
  | 3, _ => exact go 3 c3 2 rfl rfl rfl ag ae ag m3
 ·rintro σ H' ⟨x', Ŏ, rfl⟩;exact q H' x'
end
section
variable {P : Program} {w : World} {K : Frag} {mg : bE} {base : Heap} {CL CD : Addr}
theorem BG {f a1 a2 a3 a4 a5 a6 a7 a8 a9 MK MJ MI MH : Addr} {fd d1 d2 d3 d4 d5 d6 d7 d8 d9 KZ KY KW KU : FuncData} (F : ŀ K "_law_right" "_law_right" fL f fd) (Lw : zO P w K mg base CL CD a1 a2 a3 a4 a5 a6 a7 a8 a9 MK MJ MI MH d1 d2 d3 d4 d5 d6 d7 d8 d9 KZ KY KW KU) : az P w K mg base au 10 f fd ["_law_box_here"] BM := by
 refine F.ok π (λ vs H Q E h => ?_) (λ ò A outer s H vs Q E hr h => ?_)
 ·obtain ⟨p, rfl, _⟩ := h;rfl
 obtain ⟨p, rfl, bx, q⟩ := h;refine cr (wp Lw hr) ⟨?_⟩;refine gk (rC ?_);refine ff (i := 0) (m := 5) rfl bx (λ R r => r) ag ag λ r H1 r0 r5 RJ k1 => ⟨1, r, rfl, rfl, ?_⟩;obtain ⟨n, en, n1, n5⟩ : ∃ n : Nat, (1 + r : Int) = ((n : Nat) : Int) /\ 1 <= n /\ n <= 5 := ⟨(1 + r).toNat, ae, ae, ae⟩;show bB Dt _ _ [some (.ref p), some (.int (1 + r)), none, none, none, none, none, none, none, none, none, none, none, none] H1;rw [en];refine ⟨_, rfl, _, rfl, p, n, rfl, RJ, ae, λ l L H2 hl k2 K1 ls bt ln => ?_⟩;subst ln;have nl : l ≠ p := nh RJ hl;refine gk (ff (i := 0) (m := ((L.length : Nat) : Int) + 1) rfl K1 (λ R r => ⟨_, rfl, _, _, rfl, rfl, r⟩) ae ae λ O H3 o0 o1 Nl k3 => ?_);have Tk := ls.kept k3 K1 nl;refine AJ (K := K) Nl λ lv t m H4 Lk k4 p_ => ?_;have Og := Tk.kept k4 Nl nl;refine ⟨_, rfl, l, L, rfl, Og, bt, λ c H5 x5 WG hc => ?_⟩;refine ⟨2, rfl, c, kM L, rfl, ą.of hc, (λ z => by have : (2 : Nat) = 4 := z.2; cases this), λ pa OE => ?_⟩
 have x6 := Ext.new (o := .tup (mS (kM L) none (some 2))) OE;have Ng : ao H5 pa (.tup (mS (kM L) none (some 2))) pa = some (.tup [.int (((gK L).1 : Nat) : Int), .int (((gK L).2 : Nat) : Int)]) := bh;have X6 := x5.trans x6;generalize ao H5 pa (.tup (mS (kM L) none (some 2))) = H6 at *;refine ⟨_, rfl, _, rfl, L.length, O, rfl, ae, λ dl H7 QH x7 h7 => ?_⟩;have X7 := X6.trans x7;refine ⟨fk, λ R hR => ?_⟩;have x8 := Ext.new (o := fK 0 0 0 0) hR;have fR : ao H7 R (fK 0 0 0 0) R = some (fK 0 0 0 0) := bh;have X8 := X7.trans x8;have Tj := Og.ext X8;have Mc := p_.kp X8.Ū;have O4 := x8 _ _ (x7 _ _ Ng);have KS := x8 _ _ h7;have nR : ∀ {b : Addr} {ob : HO}, H7 b = some ob -> b ≠ R := λ {b ob} e z => by rw [z, hR] at e; cases e
 have K8 : Kept H (ao H7 R (fK 0 0 0 0)) p := k1.trans (k2.trans (k3.trans (k4.trans (X8.kept p))));have N5 : l ≠ R := by
  obtain ⟨xs, hx, _⟩ := Og.ext X7;exact nR hx
 have Wy : p ≠ R := by
  obtain ⟨u, hu⟩ := (Lk.ext X7).some;exact nR hu
 have L8 := nR h7;have N1 := nR (x7 _ _ Ng);show bB (Cv K CL CD) (bB (zS K) zb) _ [some (.ref p), some (.int (L.length : Nat)), some (.ref l), some (.int O), some lv, some (.ref pa), some (.ref dl), some (.ref R), none, none, none, none, none, none] (ao H7 R (fK 0 0 0 0));generalize ao H7 R (fK 0 0 0 0) = H8 at *;have lN : (gF L.length O).length <= 32 := by
  unfold gF;exact Ú (ļ _ _) (by rw [ě]; exact Ú (ń ag n5) ag)
 refine Ak (K := K) rfl ⟨⟨_, ñ.of KS⟩, ?_⟩;have Qw : ∀ {H' : Hp}, (∀ b ob, H8 b = some ob -> b ≠ R -> H' b = some ob) -> eV H8 H' := λ {H'} k b xs e => k _ _ e (λ z => by rw [z, fR] at e; cases e)
 refine fD (K := K) (g := aP 8) (tb := tJ K CL CD) (D := { nx := λ σ H => bB (zS K) zb { nx := λ _ H' => Q V.ĉ H', rt := Q } σ H, rt := Q }) (xs := (gF L.length O).map λ x => V.int (x : Nat)) (λ i σ H' => (∀ b ob, H8 b = some ob -> b ≠ R -> H' b = some ob) /\ (∃ c2 c3, H' R = some (fK (((gF L.length O).take i).filter (bJ L t m)).length (((gF L.length O).take i).filter (ck L t m)).length c2 c3) /\ c2 <= (((gF L.length O).take i).filter (bJ L t m)).length + (((gF L.length O).take i).filter (ck L t m)).length /\ c3 <= c2) /\ ∃ o8 o9 Ũ Ŷ ŵ Ŏ, σ = [some (.ref p), some (.int (L.length : Nat)), some (.ref l), some (.int O), some lv, some (.ref pa), some (.ref dl), some (.ref R), o8, o9, Ũ, Ŷ, ŵ, Ŏ]) ⟨λ b ob e _ => e, ⟨0, 0, fR, Å _, Å _⟩, _, _, _, _, _, _, rfl⟩ (λ i σ H' _ pv => ñ.of (pv.1 _ _ KS L8)) ?_ ?_
 ·rintro i v σ H' ev ⟨k, ⟨c2, c3, Lf, l2, l3⟩, o8, o9, Ũ, Ŷ, ŵ, Ŏ, rfl⟩;rw [Õ] at ev;obtain ⟨x, ex, rfl⟩ : ∃ x, (gF L.length O)[i]? = some x /\ v = vN x := by
   cases e : (gF L.length O)[i]? with
   | none => rw [e] at ev; cases ev
   | some x => rw [e] at ev; exact ⟨x, rfl, (Ò ev).symm⟩
  have hx := Ģ.mp (Ď.mp (á ex)).1;have kU := Qw k;refine DA (Tj.Ts kU λ xs e => k _ _ e N5) bt n1 ae hx (Mc.kp kU) (k _ _ O4 N1) Lf N5 λ H9 d2 d3 o9 Ũ Ŷ ŵ Ŏ k9 h9 q2 q3 => ⟨λ b ob e n => k9 _ _ (k _ _ e n) n, ⟨c2 + bU d2, c3 + bU d3, ?_, ?_, ?_⟩, _, _, _, _, _, _, rfl⟩
  ·rw [dR ex, dR ex];exact h9
  ·rw [dR ex, dR ex];have zf : bU false = 0 := rfl;have zt : bU true = 1 := rfl;cases d2 with
   | false => rw [zf]; omega
   | true =>
    rcases q2 rfl with h | h
    ·rw [h, zt]; omega
    ·rw [h, zt]; omega
  ·have zf : bU false = 0 := rfl;cases d3 with
   | false => rw [zf]; omega
   | true =>
    rw [q3 rfl];omega
 ·rintro σ H' ⟨k, ⟨c2, c3, Lf, l2, l3⟩, o8, o9, Ũ, Ŷ, ŵ, Ŏ, rfl⟩;rw [Æ, ö] at Lf l2;obtain ⟨s1, s2⟩ := mP L O t m;refine Bi (K := K) (N := (gF L.length O).length) (Mc.kp (Qw k)) Lf (k _ _ KS L8) (by rw [Æ]) s1 s2 l2 l3 ae (ļ _ _) (ļ _ _) λ H9 x9 => q H9 λ b ob e nb => ?_
  have e8 := K8 _ _ e nb;refine x9 _ _ (k _ _ e8 (λ z => ?_));subst z;have e4 := k4 _ _ (k3 _ _ (k2 _ _ (k1 _ _ e nb) nb) nb) nb;exact nR (X7 _ _ e4) rfl
abbrev tT : Stmt := cf 78
def oq (K : Frag) : Sp := λ vs H Q _ => ∃ (a : Addr) (ns : List Int), vs = [.ref a] /\ ñ K H a (ns.map V.int) /\ ns.length <= 63 /\ H sysModules = none /\ ∀ H', Q (.bl true) H'
abbrev F5 : List Str := ["_law_script", "_law_k"]
theorem LK : af F5 ["_law_script"] (aa tT) := aQ
theorem wq {f a1 a2 a3 : Addr} {fd d1 d2 d3 : FuncData} (F : ŀ K "law" "law" tT f fd) (Ar : Df P w K mg base au 10 "_law_right" ["_law_box_here"] BM a1 d1) (Ab : Df P w K mg base au 1 "_law_box" ["_law_cell_here"] vw a2 d2) (Ac : Df P w K mg base au 1 "_law_cell" ["_law_script", "_law_k"] (rQ K) a3 d3)
  (ml : mg "len" = none) (mr : mg "range" = none) (mx : mg "max" = none) (mm : mg "min" = none) : az P w K mg base au 11 f fd ["_law_script"] (oq K) := by
 refine F.ok LK (λ vs H Q E h => ?_) (λ ò A outer s H vs Q E hr h => ?_)
 ·obtain ⟨a, ns, rfl, _⟩ := h;rfl
 obtain ⟨a, ns, rfl, ha, WD, hz, q⟩ := h;have nd := LK.nd;have Η : ċ 1 _ := hr.mono ag;refine ⟨_, b6 (bO å rfl (bc rfl mr (ad (ak (pk rfl) rfl mx PyProof.Rows.boot_max (ad ay (ad (ak (pC rfl) rfl mm PyProof.Rows.boot_min (ad (ak aq rfl ml ä (ad (pv 0) ap)) (ad ay ap))) ap))) ap)) (bf (i := 1) nd rfl (Or.inl rfl))
   (bz (bA (bF (aX (bH Ar hr ai (ad (bH Ab Η ai (ad (bH Ac Η ai (ad (pv 0) (ad (pv 1) ap))) ap)) ap)))) (bz (cp oB)) gN)))
  (bz (cp oB)), ?_⟩
 have hn : ∃ n : Nat, n <= 4 /\ (if (if (4 : Int) < (((ns.map V.int).length : Nat) : Int) then 4 else (((ns.map V.int).length : Nat) : Int)) > 1 then (if (4 : Int) < (((ns.map V.int).length : Nat) : Int) then 4 else (((ns.map V.int).length : Nat) : Int)) else 1) = (n : Int) := by
  refine ⟨(if (if (4 : Int) < (((ns.map V.int).length : Nat) : Int) then 4 else (((ns.map V.int).length : Nat) : Int)) > 1 then (if (4 : Int) < (((ns.map V.int).length : Nat) : Int) then 4 else (((ns.map V.int).length : Nat) : Int)) else 1).toNat, ?_, ?_⟩ <;> (repeat' split) <;> omega
 obtain ⟨n, n4, en⟩ := hn;refine ⟨_, rfl, a, _, rfl, .inl ha, _, _, rfl, _, _, rfl, _, rfl, ?_⟩;rw [en];refine ⟨ae, ae, ?_⟩;rw [Ĕ];refine cV (n := n) (λ i σ H' => Ext H H' /\ ∃ o1, σ = [some (.ref a), o1]) ⟨Ext.refl _, _, rfl⟩ ?_ ?_
 ·rintro i σ H' hi ⟨x', o1, rfl⟩;refine ⟨_, rfl, _, rfl, a, ns, _, rfl, My.ñ.ext ha x', ae, ae, λ c => ⟨c, rfl, λ p H2 hp x2 bx => ⟨p, rfl, bx, λ H3 k3 => ⟨_, rfl, c6 ⟨?_, _, rfl⟩⟩⟩⟩⟩;exact λ b o h => k3 b o (x2 _ _ (x' b o h)) (λ e => by have := x' b o h; rw [e, hp] at this; cases this)
 ·rintro σ H' ⟨x', o1, rfl⟩;exact q H'
end
abbrev jc : Stmt := m8 (cf 4) 0
theorem xD : af ["self", "found"] ["self", "found"] (aa jc) := aQ
theorem DT {K : Frag} {mg : bE} {D C f : Addr} {fd : FuncData} (B : Ÿ K D) (T : Κ K D "NoDealing" C f) (mD : mg "DealError" = some (.ref D)) (mC : mg "NoDealing" = some (.ref C)) (F : ŀ K "__init__" "NoDealing.__init__" jc f fd) (tk : takerIn K C "found" = some none) : ub K mg D "NoDealing" "found" C f fd := by
 refine ⟨T, mC, λ P w base => ?_, F.binds λ _ _ _ _ _ _ us hl => match us, hl with | [_, _], _ => rfl⟩
 refine F.ok xD (λ vs H Q E h => ?_) (λ ò A outer s H vs Q E hr h => ?_)
 ·obtain ⟨x, v, rfl, _⟩ := h;rfl
 obtain ⟨x, v, rfl, hx, q⟩ := h;refine ⟨_, b6 (bu (gG B T rfl mD (pv 0) pW)) (bz (qU T (pv 0) (pv 1) rfl)), ?_⟩;exact ⟨_, rfl, x, rfl, hx, _, rfl, _, rfl, x, rfl, hx, tk, q⟩
abbrev iY : Stmt := m8 (cf 7) 0
theorem xf : af ["self", "found"] ["self", "found"] (aa iY) := aQ
theorem Ef {K : Frag} {mg : bE} {D C f : Addr} {fd : FuncData} (B : Ÿ K D) (T : Κ K D "NoListing" C f) (mD : mg "DealError" = some (.ref D)) (mC : mg "NoListing" = some (.ref C)) (F : ŀ K "__init__" "NoListing.__init__" iY f fd) (tk : takerIn K C "found" = some none) : ub K mg D "NoListing" "found" C f fd := by
 refine ⟨T, mC, λ P w base => ?_, F.binds λ _ _ _ _ _ _ us hl => match us, hl with | [_, _], _ => rfl⟩
 refine F.ok xf (λ vs H Q E h => ?_) (λ ò A outer s H vs Q E hr h => ?_)
 ·obtain ⟨x, v, rfl, _⟩ := h;rfl
 obtain ⟨x, v, rfl, hx, q⟩ := h;refine ⟨_, b6 (bu (gG B T rfl mD (pv 0) pW)) (bz (qU T (pv 0) (pv 1) rfl)), ?_⟩;exact ⟨_, rfl, x, rfl, hx, _, rfl, _, rfl, x, rfl, hx, tk, q⟩
def w6 : Value -> Bool
 | .str _ _ => true
 | _ => false
theorem Hu {es : Array DictEntry} (h : (es.toList.all λ e => w6 e.key) = true) : StrKeys es := λ e he => by
 have z := ŋ.mp h e (by simpa using he)
 cases k : e.key with
 | str n t => exact ⟨n, t, rfl⟩
 | _ => rw [k] at z; cases z
theorem jN {K : Frag} {C : Addr} {cd : ClassData} {b : Value} (h : clsIn K C = some cd) (hb : cd.mro.isEmpty = false) (hc : cd.mro.contains b = true) : mroIn K C b = some true := by
 unfold mroIn;rw [h, Hm, hb, hc];rfl
theorem JB {K : Frag} {D N : Addr} {nm q : Str} {bs : List Value} {sn : List Str} {sub : List Value} {ab : Bool} {col : Option Bool} {dd : Option Addr} {k0 k1 k2 k3 k5 : Option Value}
  {cN : Value} {dN : Option Addr} {es : Array DictEntry} {ep : Nat} {sN : Array (Option Value)}
  (lD : K.lookup D = some (excClassObj nm q D N bs oU true sn sub ab col dd k0 k1 k2 k3 k5 "ValueError.__new__"))
  (lN : K.lookup N = some ⟨cN, dN, .dict es ep, sN⟩) (sk : StrKeys es) (ni : nsFind es "__init__" = none)
  (ga : specialIn K (.ref D) "__getattribute__" = some (some (.builtin "type.__getattribute__"))) (rd : readsIn K D (.type "type") = true)
  (Mh : findCls K (.ref D) (.type "type") "__init__" = some (.val (.builtin "ValueError.__init__"))) (fi : findIn K (.ref D) "__init__" = some (some (.builtin "ValueError.__init__"))) (kp : keepIn K (.ref D) = true)
  (gb : findIn K (.ref D) "__getattribute__" = some (some (.builtin vB))) (hk : findIn K (.ref D) "__getattr__" = some none) (ca : findIn K (.ref D) "__class__" = some (some (.builtin "object.__class__"))) : Ÿ K D := by
 have hc : clsIn K D = some { name := nm, bases := bs, mro := .ref D :: oU, ns := N, qualname := q, hasDict := true, slotNames := sn, subclasses := sub, abstract := ab, collection := col, hasDel := false } := by
  unfold clsIn;rw [lD]
 refine ⟨⟨nm, q, N, bs, sn, sub, ab, col, dd, k0, k1, k2, k3, k5, lD, _, es, ep, lN, rfl, sk, ni⟩, ga, rd, Mh, fi, kp, ⟨by rw [hc]; rfl, gb, hk, jN hc rfl ?_, jN hc rfl ?_, ca⟩⟩
 ·show (Value.ref D :: oU).contains (.type "BaseException") = true;rw [Ĵ];rfl
 ·show (Value.ref D :: oU).contains (.type "object") = true;rw [Ĵ];rfl
theorem IU {K : Frag} {D C N f : Addr} (nm : Str)
  {q : Str} {bs : List Value} {sn : List Str} {sub : List Value} {ab : Bool} {col : Option Bool} {dd : Option Addr} {k0 k1 k2 k3 k5 : Option Value}
  (lC : K.lookup C = some (excClassObj nm q C N bs (.ref D :: oU) true sn sub ab col dd k0 k1 k2 k3 k5 "ValueError.__new__"))
  (Mh : findIn K (.ref C) "__init__" = some (some (.ref f))) (fn : typeIn K (.ref f) = some (.type "function")) (kp : keepIn K (.ref C) = true)
  (sa : findIn K (.ref C) "__setattr__" = some (some (.builtin "object.__setattr__"))) (ga : findIn K (.ref C) "__getattribute__" = some (some (.builtin vB))) (hk : findIn K (.ref C) "__getattr__" = some none)
  (ca : findIn K (.ref C) "__class__" = some (some (.builtin "object.__class__"))) : Κ K D nm C f := by
 have hc : clsIn K C = some { name := nm, bases := bs, mro := .ref C :: .ref D :: oU, ns := N, qualname := q, hasDict := true, slotNames := sn, subclasses := sub, abstract := ab, collection := col, hasDel := false } := by
  unfold clsIn;rw [lC]
 refine ⟨⟨q, N, bs, sn, sub, ab, col, dd, k0, k1, k2, k3, k5, lC⟩, Mh, fn, kp, sa, ⟨by rw [hc]; rfl, ga, hk, jN hc rfl ?_, jN hc rfl ?_, ca⟩⟩
 ·show (Value.ref C :: .ref D :: oU).contains (.type "BaseException") = true;rw [Ĵ, Ĵ];rfl
 ·show (Value.ref C :: .ref D :: oU).contains (.type "object") = true;rw [Ĵ, Ĵ];rfl
structure Dn (K : Frag) (mg : bE) (nm : Str) (st : Stmt) (ps : List Str) (f : Addr) (fd : FuncData) : Prop where
 fn : ŀ K nm nm st f fd
 bi : Binds K fd ps []
 kp : keepIn K (.ref f) = true
 mg : mg nm = some (.ref f)
section
variable {P : Program} {w : World} {K : Frag} {mg : bE} {base : Heap}
theorem Dn.df {nm : Str} {st : Stmt} {ps : List Str} {f : Addr} {fd : FuncData} (d : Dn K mg nm st ps f fd) {cx : mK} {k : Nat} {sp : Sp} (h : az P w K mg base cx k f fd ps sp) : Df P w K mg base cx k nm ps sp f fd := ⟨h, d.bi, d.kp, d.mg⟩
theorem im {p : Addr} {i j : Int} {od : Option Addr} {t u : Tok} {n : Nat} {sl : Array (Option Value)} (l : K.lookup p = some ⟨.type "tuple", od, .seq #[.int i t, .int j u] n, sl⟩) (H : Hp) : ą K H p [.int i, .int j] :=
 .inr ⟨_, _, _, l, rfl, rfl, fk, .cons ⟨_, rfl⟩ (.cons ⟨_, rfl⟩ .nil)⟩
end
theorem kL {K : Frag} {p a b c d : Addr} {od : Option Addr} {n : Nat} {sl : Array (Option Value)} (l : K.lookup p = some ⟨.type "tuple", od, .seq #[.ref a, .ref b, .ref c, .ref d] n, sl⟩) (H : Hp) : ą K H p [.ref a, .ref b, .ref c, .ref d] :=
 .inr ⟨_, _, _, l, rfl, rfl, fk, .cons rfl (.cons rfl (.cons rfl (.cons rfl .nil)))⟩
abbrev BP (nm qn : Str) (st : Stmt) (ps : List Str) : Prop := ∀ (kV doc pm : Value) (an : Option Addr) (ò ct : Value) (us : List Value), us.length = ps.length -> bindArgs (PySem.W.fnOf nm qn (cu st) (aK st) (aa st) .none kV doc pm an ò ct) ⟨us, []⟩ = pure (ps.zip us)
theorem ú {nm : Str} {st : Stmt} {ps : List Str} (hb : BP nm nm st ps) {K : Frag} {h : Heap} {mg : bE} {g : Addr} {oc kV dc pm cd ct : Value} {od an : Option Addr} {sl : Array (Option Value)} (X : K.In h) (G : h.Ns mainGlobals mg)
  (a : nsIn K mainGlobals nm = some (some (.ref g))) (l : K.lookup g = some ⟨oc, od, .func (fnOf nm nm (cu st) (aK st) (aa st) .none kV dc pm an cd ct), sl⟩) (c : codeIn K cd nm = true) (k : keepIn K (.ref g) = true) :
  Dn K mg nm st ps g (fnOf nm nm (cu st) (aK st) (aa st) .none kV dc pm an cd ct) := by
 have F := mn (st := st) l c k;exact ⟨F, F.binds hb, k, Hg X G a⟩
theorem Wj : BP "is_number" "is_number" ju ["thing"] := λ _ _ _ _ _ _ us hl => match us, hl with | [_], _ => rfl
theorem Wi : BP "is_whole" "is_whole" nH ["thing", "low", "high"] := λ _ _ _ _ _ _ us hl => match us, hl with | [_, _, _], _ => rfl
theorem Wh : BP "greatest_common" "greatest_common" sZ ["one", "other"] := λ _ _ _ _ _ _ us hl => match us, hl with | [_, _], _ => rfl
theorem Wg : BP "is_part" "is_part" nr ["top", "bottom"] := λ _ _ _ _ _ _ us hl => match us, hl with | [_, _], _ => rfl
theorem Wf : BP "share_of" "share_of" Cm ["top", "bottom"] := λ _ _ _ _ _ _ us hl => match us, hl with | [_, _], _ => rfl
theorem We : BP "is_share" "is_share" CI ["thing"] := λ _ _ _ _ _ _ us hl => match us, hl with | [_], _ => rfl
theorem Wd : BP "less_share" "less_share" CT ["one", "other"] := λ _ _ _ _ _ _ us hl => match us, hl with | [_, _], _ => rfl
theorem Wc : BP "need_hands" "need_hands" Cy ["thing", "folk"] := λ _ _ _ _ _ _ us hl => match us, hl with | [_, _], _ => rfl
theorem Wb : BP "hand_of" "hand_of" Cq ["dealing", "at"] := λ _ _ _ _ _ _ us hl => match us, hl with | [_, _], _ => rfl
theorem Wa : BP "ones_of" "ones_of" B5 ["dealing", "folk"] := λ _ _ _ _ _ _ us hl => match us, hl with | [_, _], _ => rfl
theorem PY : BP "is_outcome" "is_outcome" CC ["thing"] := λ _ _ _ _ _ _ us hl => match us, hl with | [_], _ => rfl
theorem PX : BP "need_outcome" "need_outcome" Cl ["thing", "place"] := λ _ _ _ _ _ _ us hl => match us, hl with | [_, _], _ => rfl
theorem PV : BP "need_outcomes" "need_outcomes" CA ["thing"] := λ _ _ _ _ _ _ us hl => match us, hl with | [_], _ => rfl
theorem PU : BP "need_level" "need_level" CO ["thing"] := λ _ _ _ _ _ _ us hl => match us, hl with | [_], _ => rfl
theorem PR : BP "yes_row" "yes_row" CG ["outcomes"] := λ _ _ _ _ _ _ us hl => match us, hl with | [_], _ => rfl
theorem PQ : BP "is_listed" "is_listed" Ct ["thing"] := λ _ _ _ _ _ _ us hl => match us, hl with | [_], _ => rfl
theorem PP : BP "is_listing" "is_listing" Cj ["thing"] := λ _ _ _ _ _ _ us hl => match us, hl with | [_], _ => rfl
theorem PN : BP "need_listing" "need_listing" CP ["thing"] := λ _ _ _ _ _ _ us hl => match us, hl with | [_], _ => rfl
theorem PM : BP "counts_of" "counts_of" AW ["listing"] := λ _ _ _ _ _ _ us hl => match us, hl with | [_], _ => rfl
theorem PL : BP "fits_row" "fits_row" Cc ["listing", "row", "dealing"] := λ _ _ _ _ _ _ us hl => match us, hl with | [_, _, _], _ => rfl
theorem PK : BP "fits" "fits" Cn ["listing", "outcomes", "dealing"] := λ _ _ _ _ _ _ us hl => match us, hl with | [_, _, _], _ => rfl
theorem PJ : BP "choices" "choices" CQ ["many"] := λ _ _ _ _ _ _ us hl => match us, hl with | [_], _ => rfl
theorem PH : BP "value_under" "value_under" CM ["counts", "dealt"] := λ _ _ _ _ _ _ us hl => match us, hl with | [_, _], _ => rfl
theorem PF : BP "ways_to_deal" "ways_to_deal" yu ["ones", "counts"] := λ _ _ _ _ _ _ us hl => match us, hl with | [_, _], _ => rfl
theorem PD : BP "value_ways" "value_ways" An ["ones", "counts"] := λ _ _ _ _ _ _ us hl => match us, hl with | [_, _], _ => rfl
theorem PB : BP "both_shares" "both_shares" uk ["ones", "counts", "seen"] := λ _ _ _ _ _ _ us hl => match us, hl with | [_, _, _], _ => rfl
theorem Pz : BP "listing_shares" "listing_shares" B7 ["listing", "dealing"] := λ _ _ _ _ _ _ us hl => match us, hl with | [_, _], _ => rfl
theorem Py : BP "is_kept" "is_kept" CJ ["shares", "level"] := λ _ _ _ _ _ _ us hl => match us, hl with | [_, _], _ => rfl
theorem Px : BP "groups_seen" "groups_seen" yZ ["outcomes", "dealing"] := λ _ _ _ _ _ _ us hl => match us, hl with | [_, _], _ => rfl
theorem Pw : BP "all_pairs" "all_pairs" BL ["groups"] := λ _ _ _ _ _ _ us hl => match us, hl with | [_], _ => rfl
theorem Pu : BP "all_fours" "all_fours" Cs ["groups", "pair"] := λ _ _ _ _ _ _ us hl => match us, hl with | [_, _], _ => rfl
theorem Pt : BP "four_shares" "four_shares" CB ["groups", "four"] := λ _ _ _ _ _ _ us hl => match us, hl with | [_, _], _ => rfl
theorem Ps : BP "kept_four" "kept_four" CU ["groups", "pair", "level"] := λ _ _ _ _ _ _ us hl => match us, hl with | [_, _, _], _ => rfl
theorem Pr : BP "listing_by" "listing_by" yX ["groups", "four"] := λ _ _ _ _ _ _ us hl => match us, hl with | [_, _], _ => rfl
theorem Pq : BP "kept_pairs" "kept_pairs" yU ["outcomes", "dealing", "level"] := λ _ _ _ _ _ _ us hl => match us, hl with | [_, _, _], _ => rfl
theorem Pp : BP "is_pair" "is_pair" Cu ["thing"] := λ _ _ _ _ _ _ us hl => match us, hl with | [_], _ => rfl
theorem Po : BP "pair_rows" "pair_rows" Bl ["outcomes", "dealing", "pair"] := λ _ _ _ _ _ _ us hl => match us, hl with | [_, _, _], _ => rfl
theorem Pm : BP "net_stretch" "net_stretch" yY ["outcomes", "dealing", "level"] := λ _ _ _ _ _ _ us hl => match us, hl with | [_, _, _], _ => rfl
theorem Pl : BP "_law_cell" "_law_cell" nZ ["_law_script", "_law_k"] := λ _ _ _ _ _ _ us hl => match us, hl with | [_, _], _ => rfl
theorem Pk : BP "_law_box" "_law_box" uw ["_law_cell_here"] := λ _ _ _ _ _ _ us hl => match us, hl with | [_], _ => rfl
theorem Pj : BP "_law_take" "_law_take" oC ["_law_box_here", "_law_many"] := λ _ _ _ _ _ _ us hl => match us, hl with | [_, _], _ => rfl
theorem Pi : BP "_law_listing" "_law_listing" pZ ["_law_box_here", "_law_folk"] := λ _ _ _ _ _ _ us hl => match us, hl with | [_, _], _ => rfl
theorem Ph : BP "_law_came" "_law_came" Bd ["_law_listing_here", "_law_dealing"] := λ _ _ _ _ _ _ us hl => match us, hl with | [_, _], _ => rfl
theorem Pg : BP "_law_counts" "_law_counts" sK ["_law_listing_here"] := λ _ _ _ _ _ _ us hl => match us, hl with | [_], _ => rfl
theorem Pf : BP "_law_ones" "_law_ones" zG ["_law_folk", "_law_dealing"] := λ _ _ _ _ _ _ us hl => match us, hl with | [_, _], _ => rfl
theorem Pe : BP "_law_dealings" "_law_dealings" AI ["_law_folk", "_law_ones_here"] := λ _ _ _ _ _ _ us hl => match us, hl with | [_, _], _ => rfl
theorem Pd : BP "_law_outside" "_law_outside" Co ["_law_stretch", "_law_net"] := λ _ _ _ _ _ _ us hl => match us, hl with | [_, _], _ => rfl
theorem Pc : BP "_law_rows_alike" "_law_rows_alike" y9 ["_law_outcomes", "_law_dealing", "_law_level", "_law_found"] := λ _ _ _ _ _ _ us hl => match us, hl with | [_, _, _, _], _ => rfl
theorem Pb : BP "_law_right" "_law_right" fL ["_law_box_here"] := λ _ _ _ _ _ _ us hl => match us, hl with | [_], _ => rfl
theorem Pa : BP "law" "law" tT ["_law_script"] := λ _ _ _ _ _ _ us hl => match us, hl with | [_], _ => rfl
theorem all_mk {l : OpenLaw} {w : World} {K : Frag} {h : Heap} {mg : bE} {fa D Np O7 No O6 g0 g1 g2 g3 g4 g5 g6 g7 g8 g9 Vh Vg Vf Ve Vd Vc Vb Va U_ U' U9 U8 U7 U6 U5 U4 U3 U2 U1 U0 UZ UY UX UW UV UU UT US UR UQ UP UO UN UM UL UK UJ UI UH UG : Addr} {d0 d1 d2 d3 d4 d5 d6 d7 d8 d9 KZ KY KW KU V2 V1 V0 VZ VY VX JW VW VV VU VT VS VR VQ VP VO VN VM VL VJ VI VH VG VF VE VD VC VB VA Vz Vy Vx Vw Vv Vu RF : FuncData} (X : K.In h) (G : h.Ns mainGlobals mg) (Uu : mg "law" = some (.ref fa))
  {S3 Tw Vt SY RH V4 S2 Tv Vs SX RG V3 : Value} {S1 Wl S0 Wk : Option Addr} {SK SJ : Array (Option Value)}
  {G2 v_ Gr : Tok}
  {n0 n1 n2 n3 n4 n5 Sl Sk Sj Si Sh Sg Sf Se : Addr} {NZ NY NX NW NV NU : Option Addr} {Sx Sw Sv Su Sr Sq So Sn : Tok} {S' S9 S8 S7 S6 S5 : Nat} {NJ NI NH NG NF NE : Array (Option Value)}
  (B : Ÿ K D) (Vq : Κ K D "NoDealing" Np O7) (Vp : Κ K D "NoListing" No O6)
  (aD : nsIn K mainGlobals "DealError" = some (some (.ref D)))
  (a4 : nsIn K mainGlobals "NoDealing" = some (some (.ref Np)))
  (a7 : nsIn K mainGlobals "NoListing" = some (some (.ref No)))
  (Tr : K.lookup O7 = some ⟨S3, S1, .func (fnOf "__init__" "NoDealing.__init__" (cu jc) (aK jc) (aa jc) .none Tw Vt SY Wl RH V4), SK⟩)
  (V9 : codeIn K RH "NoDealing.__init__" = true)
  (Tu : keepIn K (.ref O7) = true)
  (SD : takerIn K Np "found" = some none)
  (WA : findIn K (.ref Np) "found" = some none)
  (Tq : K.lookup O6 = some ⟨S2, S0, .func (fnOf "__init__" "NoListing.__init__" (cu iY) (aK iY) (aa iY) .none Tv Vs SX Wk RG V3), SJ⟩)
  (V8 : codeIn K RG "NoListing.__init__" = true)
  (Tt : keepIn K (.ref O6) = true)
  (SC : takerIn K No "found" = some none)
  (Wz : findIn K (.ref No) "found" = some none)
  (R' : nsIn K mainGlobals "MOST_FOLK" = some (some (.int (20) G2)))
  (R9 : nsIn K mainGlobals "LEAST_NUMBER" = some (some (.int (-99) v_)))
  (R8 : nsIn K mainGlobals "MOST_NUMBER" = some (some (.int (99) Gr)))
  (gt : specialIn K (.builtin "object.__class__") "__get__" = some (some (.builtin "getset_descriptor.__get__")))
  (SB : takesIn K (.builtin "object.__class__") = some true)
  (b0 : nsIn K mainGlobals "BETTERED" = some (some (.ref n0)))
  (c0 : K.lookup n0 = some ⟨.type "tuple", NZ, .seq #[.int 1 Sx, .int 0 Sr] S', NJ⟩)
  (b1 : nsIn K mainGlobals "WORSENED" = some (some (.ref n1)))
  (c1 : K.lookup n1 = some ⟨.type "tuple", NY, .seq #[.int 0 Sw, .int 1 Sq] S9, NI⟩)
  (b2 : nsIn K mainGlobals "ALWAYS" = some (some (.ref n2)))
  (c2 : K.lookup n2 = some ⟨.type "tuple", NX, .seq #[.int 1 Sv, .int 1 So] S8, NH⟩)
  (b3 : nsIn K mainGlobals "NEVER" = some (some (.ref n3)))
  (c3 : K.lookup n3 = some ⟨.type "tuple", NW, .seq #[.int 0 Su, .int 0 Sn] S7, NG⟩)
  (b4 : nsIn K mainGlobals "OTHERWISE" = some (some (.ref n4)))
  (c4 : K.lookup n4 = some ⟨.type "tuple", NV, .seq #[.ref Sl, .ref Sk, .ref Sj, .ref Si] S6, NF⟩)
  (b5 : nsIn K mainGlobals "ALIKE" = some (some (.ref n5)))
  (c5 : K.lookup n5 = some ⟨.type "tuple", NU, .seq #[.ref Sh, .ref Sg, .ref Sf, .ref Se] S5, NE⟩)
  (R7 : nsIn K mainGlobals "isinstance" = some none)
  (R6 : nsIn K mainGlobals "int" = some none)
  (R5 : nsIn K mainGlobals "bool" = some none)
  (R4 : nsIn K mainGlobals "len" = some none)
  (R3 : nsIn K mainGlobals "range" = some none)
  (R1 : nsIn K mainGlobals "tuple" = some none)
  (R0 : nsIn K mainGlobals "list" = some none)
  (RZ : nsIn K mainGlobals "enumerate" = some none)
  (RY : nsIn K mainGlobals "all" = some none)
  (RX : nsIn K mainGlobals "repr" = some none)
  (RW : nsIn K mainGlobals "max" = some none)
  (RV : nsIn K mainGlobals "min" = some none)
  (RU : nsIn K mainGlobals "sum" = some none)
  (RT : nsIn K mainGlobals "sorted" = some none)
  (RS : nsIn K mainGlobals "dict" = some none)
  (RR : nsIn K mainGlobals "zip" = some none)
  (e0 : Dn K mg "is_number" ju ["thing"] g0 d0)
  (e1 : Dn K mg "is_whole" nH ["thing", "low", "high"] g1 d1)
  (e2 : Dn K mg "greatest_common" sZ ["one", "other"] g2 d2)
  (e3 : Dn K mg "is_part" nr ["top", "bottom"] g3 d3)
  (e4 : Dn K mg "share_of" Cm ["top", "bottom"] g4 d4)
  (e5 : Dn K mg "is_share" CI ["thing"] g5 d5)
  (e6 : Dn K mg "less_share" CT ["one", "other"] g6 d6)
  (e7 : Dn K mg "need_hands" Cy ["thing", "folk"] g7 d7)
  (e8 : Dn K mg "hand_of" Cq ["dealing", "at"] g8 d8)
  (e9 : Dn K mg "ones_of" B5 ["dealing", "folk"] g9 d9)
  (RD : Dn K mg "is_outcome" CC ["thing"] Vh KZ)
  (RC : Dn K mg "need_outcome" Cl ["thing", "place"] Vg KY)
  (RB : Dn K mg "need_outcomes" CA ["thing"] Vf KW)
  (RA : Dn K mg "need_level" CO ["thing"] Ve KU)
  (Rz : Dn K mg "yes_row" CG ["outcomes"] Vd V2)
  (Ry : Dn K mg "is_listed" Ct ["thing"] Vc V1)
  (Rx : Dn K mg "is_listing" Cj ["thing"] Vb V0)
  (Rw : Dn K mg "need_listing" CP ["thing"] Va VZ)
  (Rv : Dn K mg "counts_of" AW ["listing"] U_ VY)
  (Ru : Dn K mg "fits_row" Cc ["listing", "row", "dealing"] U' VX)
  (Rt : Dn K mg "fits" Cn ["listing", "outcomes", "dealing"] U9 JW)
  (Rs : Dn K mg "choices" CQ ["many"] U8 VW)
  (Rr : Dn K mg "value_under" CM ["counts", "dealt"] U7 VV)
  (Rq : Dn K mg "ways_to_deal" yu ["ones", "counts"] U6 VU)
  (Rp : Dn K mg "value_ways" An ["ones", "counts"] U5 VT)
  (Ro : Dn K mg "both_shares" uk ["ones", "counts", "seen"] U4 VS)
  (Rn : Dn K mg "listing_shares" B7 ["listing", "dealing"] U3 VR)
  (Rm : Dn K mg "is_kept" CJ ["shares", "level"] U2 VQ)
  (Rl : Dn K mg "groups_seen" yZ ["outcomes", "dealing"] U1 VP)
  (Rk : Dn K mg "all_pairs" BL ["groups"] U0 VO)
  (Rj : Dn K mg "all_fours" Cs ["groups", "pair"] UZ VN)
  (Ri : Dn K mg "four_shares" CB ["groups", "four"] UY VM)
  (Rh : Dn K mg "kept_four" CU ["groups", "pair", "level"] UX VL)
  (Rg : Dn K mg "listing_by" yX ["groups", "four"] UW VJ)
  (Rf : Dn K mg "kept_pairs" yU ["outcomes", "dealing", "level"] UV VI)
  (Re : Dn K mg "is_pair" Cu ["thing"] UU VH)
  (Rc : Dn K mg "pair_rows" Bl ["outcomes", "dealing", "pair"] UT VG)
  (Rb : Dn K mg "net_stretch" yY ["outcomes", "dealing", "level"] US VF)
  (Ra : Dn K mg "_law_cell" nZ ["_law_script", "_law_k"] UR VE)
  (Q_ : Dn K mg "_law_box" uw ["_law_cell_here"] UQ VD)
  (Q9 : Dn K mg "_law_take" oC ["_law_box_here", "_law_many"] UP VC)
  (Q8 : Dn K mg "_law_listing" pZ ["_law_box_here", "_law_folk"] UO VB)
  (Q7 : Dn K mg "_law_came" Bd ["_law_listing_here", "_law_dealing"] UN VA)
  (Q6 : Dn K mg "_law_counts" sK ["_law_listing_here"] UM Vz)
  (Q5 : Dn K mg "_law_ones" zG ["_law_folk", "_law_dealing"] UL Vy)
  (Q3 : Dn K mg "_law_dealings" AI ["_law_folk", "_law_ones_here"] UK Vx)
  (Q2 : Dn K mg "_law_outside" Co ["_law_stretch", "_law_net"] UJ Vw)
  (Q1 : Dn K mg "_law_rows_alike" y9 ["_law_outcomes", "_law_dealing", "_law_level", "_law_found"] UI Vv)
  (Q0 : Dn K mg "_law_right" fL ["_law_box_here"] UH Vu)
  (QZ : Dn K mg "law" tT ["_law_script"] UG RF)
  (hb : ∀ (s : Shared) (v : Value), BindsTo s RF ⟨[v], []⟩ [("_law_script", v)])
  : ∃ fd : FuncData, (∀ (s : Shared) (v : Value), BindsTo s fd ⟨[v], []⟩ [("_law_script", v)]) /\ ∀ base : Heap, K.In base -> base.Ns mainGlobals mg -> az l.prog w K mg base au 11 fa fd ["_law_script"] (oq K) := by
 have e := Uu.symm.trans QZ.mg;cases e;refine ⟨_, hb, λ base _ _ => ?_⟩;have ħ := ę X G R7;have II := ę X G R6;have IJ := ę X G R5;have ŕ := ę X G R4;have Œ := ę X G R3;have ρ := ę X G R1;have IH := ę X G R0;have Ĳ := ę X G RZ;have JN := ę X G RY;have N8 := ę X G RX;have JM := ę X G RW;have JL := ę X G RV;have HM := ę X G RU;have L_ := ę X G RT;have N9 := ę X G RS;have L9 := ę X G RR;have T : tD K := ⟨gt, SB⟩;have mD := Hg X G aD;have o4 := DT B Vq mD (Hg X G a4) (mn (st := jc) Tr V9 Tu) SD;have o7 := Ef B Vp mD (Hg X G a7) (mn (st := iY) Tq V8 Tt) SC;have h_ := Hg X G R';have x_ := Hg X G R9;have Gs := Hg X G R8;have P0 := si (P := l.prog) (w := w) (mg := mg) (base := base) T e0.fn ħ II IJ;have GN := (e0.df P0);have RM := uj e1.fn P0 e0.bi e0.kp e0.mg;have GW := (e1.df RM);have GG := e2.df (wJ (P := l.prog) (w := w) (mg := mg) (base := base) e2.fn);have GP := e3.df (uS e3.fn P0 e0.bi e0.kp e0.mg RM e1.bi e1.kp e1.mg);have GS := e4.df (AD e4.fn GP GG);have Ga := e5.df (BB T e5.fn GP GG ħ ρ ŕ);have Gb := e6.df (Bs (P := l.prog) (w := w) (mg := mg) (base := base) e6.fn);have Hh := e8.df (zu (P := l.prog) (w := w) (mg := mg) (base := base) e8.fn);have Hn := e7.df (zY e7.fn B o4 GW);have Ho := e9.df (Ci e9.fn Hh Œ);have Oa := RD.df (A9 T RD.fn GW x_ Gs ħ ρ ŕ IJ);have Ob := RC.df (zq RC.fn Oa);have Oc := RB.df (Ba T RB.fn Ob ħ IH Ĳ);have Od := RA.df (AF RA.fn Ga);have Oe := Rz.df (Bz Rz.fn Oc GW h_ ŕ Ĳ);have Gl := Ry.df (Ad T Ry.fn GW ħ ρ ŕ);have Gg := Rx.df (zW T Rx.fn GW Gl h_ ħ IH ŕ JN);have Gn := Rw.df (AG Rw.fn B o7 Gg);have Fo : zT K mg n0 n1 n2 n3 := ⟨Hg X G b0, Hg X G b1, Hg X G b2, Hg X G b3, im c0, im c1, im c2, im c3⟩;have Kd : vT K mg n4 n5 := ⟨Hg X G b4, Hg X G b5, ⟨_, rfl, kL c4⟩, ⟨_, rfl, kL c5⟩⟩;have Gc := Rv.df (B8 (P := l.prog) (w := w) (mg := mg) (base := base) Rv.fn Fo);have Fa := Ru.df (AO Ru.fn Hh JN Ĳ);have Fb := Rt.df (Bv Rt.fn Gn Oe Hn Fa ŕ);have Gh := Rs.df (BD (P := l.prog) (w := w) (mg := mg) (base := base) Rs.fn Œ);have Gu := Rr.df (AL (P := l.prog) (w := w) (mg := mg) (base := base) Rr.fn HM);have Gd := Rq.df (Bb Rq.fn Gh GW Ĳ);have Gv := Rp.df (AE Rp.fn Gd Gu);have Hb := Ro.df (zP Ro.fn Gv GS HM);have Hl := Rn.df (Ao Rn.fn Gn Hn Gc Ho Gu Hb ŕ HM);have Ka := Rm.df (As Rm.fn Gb);have Kb := Rl.df (Aj Rl.fn Oe Hn Hh ŕ Ĳ);have Kc := Rk.df (AC (P := l.prog) (w := w) (mg := mg) (base := base) Rk.fn ŕ Œ);have Ke := Rj.df (Cb Rj.fn GW ŕ Œ);have Kf := Ri.df (BQ Ri.fn Hb ŕ);have Kg := Rh.df (A8 Rh.fn Ke Kf Ka);have Kh := Rg.df (BK (P := l.prog) (w := w) (mg := mg) (base := base) Rg.fn Kd L9 Ĳ Œ ŕ);have Ki := Rf.df (AQ Rf.fn Kb Od Kc Kg Kh);have Kj := Re.df (B0 T Re.fn GN ħ ρ ŕ);have Kk := Rc.df (BC Rc.fn Kb Kj Kc Ke Kf);have Kl := Rb.df (Bt Rb.fn Ki ŕ JL JM);have Lc := Ra.df (va (P := l.prog) (w := w) (mg := mg) (base := base) Ra.fn ŕ);have Lb := Q_.df (wN (P := l.prog) (w := w) (mg := mg) (base := base) Q_.fn II);have Lt := Q9.df (t8 (P := l.prog) (w := w) (mg := mg) (base := base) Q9.fn);have Ll := Q8.df (Cd Q8.fn Lt Œ);have Lm := Q7.df (zn (P := l.prog) (w := w) (mg := mg) (base := base) Q7.fn Ĳ);have Ln := Q6.df (BA (P := l.prog) (w := w) (mg := mg) (base := base) Q6.fn ρ);have Lo := Q5.df (Ai (P := l.prog) (w := w) (mg := mg) (base := base) Q5.fn Œ HM);have Lg := Q3.df (B9 Q3.fn Lo Œ);have Ma := Q2.df (zN (P := l.prog) (w := w) (mg := mg) (base := base) Q2.fn);have Mb := Q1.df (BU Q1.fn Kk Gb);have Lq := Q0.df (BG Q0.fn ⟨Lt, Ll, GS, Ln, Lg, Lm, Fb, Hl, Ki, Mb, Gb, Ma, Kl, II, Œ, ŕ⟩);exact wq QZ.fn Lq Lb Lc ŕ Œ JM JL
theorem walk {l : OpenLaw} {q : Program} {loose : List Str} {XP : (Str -> Option Value) -> Heap -> Prop} {YP : World -> Heap -> Prop} {d : DefRec} {K : Params -> Frag} (hn : l.most = some 63) (Mx : d.params.defaults = [])
  (hY : ∀ (w : World) (h : Heap), YP w h -> (K w.params).In h)
  (F : ∀ (w : World) (mg : bE) (fa : Addr) (h : Heap), (K w.params).In h -> h.Ns mainGlobals mg -> mg d.name = some (.ref fa) ->
   ∃ fd : FuncData, (∀ (s : Shared) (u : Value), BindsTo s fd ⟨[u], []⟩ [("_law_script", u)]) /\ ∀ base : Heap, (K w.params).In base -> base.Ns mainGlobals mg -> az l.prog w (K w.params) mg base au 11 fa fd ["_law_script"] (oq (K w.params))) :
  WalkO q loose XP YP l.row.toRowW d [] (λ f vs => PySem.call f vs) :=
 L2.Iz (n := 63) (k := 11) (x := "_law_script") (CX := λ _ => au) (sp := λ w => oq (K w.params)) hn ag Mx ⟨rfl, ag, ag, rfl⟩ hY F (λ _ _ a ns hl _ hS hz => ⟨a, ns, rfl, hS, hl, hz, λ _ => rfl⟩) λ _ _ _ _ _ z => z
end My
open PySem PySem.W PyProof.Rows
namespace PySem.W.Fast
def tw16574456437127472115:=()
def tw2123065946778400185:=()
def tw13530923279614170638:=()
def tw17102054751451017601:=()
def tw16091803210227827828:=()
def tw7163080159530268874:=()
def tw14942375672283499181:=()
def tw10606617505550016218:=()
def tw9067414879451739450:=()
def tw5287790211548002448:=()
def tw17668065189550989904:=()
def tw9613559205680965918:=()
def tw18357458119361124637:=()
def tw6974354284496003188:=()
def tw13911967061811237254:=()
def tw5923635047300163436:=()
def tw17755901236915372304:=()
def tw3928901820499643786:=()
def tw7018667936472459150:=()
def tw16137199227494166854:=()
def tw5313436347761294082:=()
def tw3079020531579527636:=()
def tw5366186721046728154:=()
def tw14717004842353408787:=()
def tw9897706753145615922:=()
def tw11613921658443540331:=()
def tw17130579221297378905:=()
def tw11151361211526189510:=()
def tw10543659586361180366:=()
def tw12194701508843406319:=()
def tw192005115139379697:=()
def tw8788876602030215175:=()
def tw2552507214066989429:=()
def tw7761629010825640466:=()
def tw17337129480831144329:=()
def tw383431694229305095:=()
def tw575887592158201261:=()
def tw129574752784140235:=()
def tw12683836721492454261:=()
def tw15458011140672598219:=()
def tw3115784625756249910:=()
def tw9517325192352041323:=()
def tw4397515032624654315:=()
def tw12926225489886247286:=()
def tw10723576467642066500:=()
def tw8738192056343645156:=()
def tw10322703270330110260:=()
def tw14044509002527614394:=()
def tw9560299644011489613:=()
def tw14741333380833400436:=()
def tw4131383322885250975:=()
def tw10274607986572158043:=()
def tw8675679108682686444:=()
def tw15882946863081189292:=()
def tw17071501349807464526:=()
def tw18238987523306017296:=()
def tw6388697836439746831:=()
def tw14925553246613760194:=()
def tw6958738494024231026:=()
def tw5150567628292570754:=()
def tw10938720422934625690:=()
def tw17042842152174396417:=()
def tw7395931088245210351:=()
def tw5759326446201545150:=()
def tw7623308416130743368:=()
def tw17054955247523617989:=()
def tw13062530440515899908:=()
def tw13563155234249117052:=()
def tw9560110396654863500:=()
def tw10162707401383795370:=()
def tw2081368465055433425:=()
def tw12228879963930490387:=()
def tw16055744086236759451:=()
def tw4499123581293536644:=()
def tw287352653879144661:=()
def tw17481809608631014177:=()
def tw16736589077877505045:=()
def tw9137280246614095529:=()
def tw8397860209230693865:=()
def tw10800956174591663994:=()
def tw13457842892426766291:=()
def tw394853348513507908:=()
def tw17053516336535249596:=()
def tw5858177375419762108:=()
def tw6976965303737904342:=()
def tw6538944400032561166:=()
def tw16708481167097088615:=()
def tw16589016293486895915:=()
def tw12200694593907828379:=()
def tw17567622749609864229:=()
def tw13271047214884795216:=()
def tw7952311466932144932:=()
def tw2302838672786754588:=()
def tw1964763097802374461:=()
def tw4666567894329588977:=()
def tw11365390983044524834:=()
def tw17296598570258925520:=()
def tw4533996959749595719:=()
def tw12203731116488168550:=()
def tw6545300375475984234:=()
def tw5045191643443439831:=()
def tw7888484501332601319:=()
def tw3573153952064171493:=()
def tw6699343210885644614:=()
def tw715836597567519172:=()
def tw9113339327705655517:=()
def tw11960421140533319084:=()
def tw9078667177847309461:=()
def tw11337244830860649874:=()
def tw14028413874850443717:=()
def tw14350748026755664891:=()
def tw12689026035515762199:=()
def tw3219813269843875739:=()
def tw9857914203459484328:=()
def tw11947125530967731465:=()
def tw5244499942811421318:=()
def tw8551780942948767016:=()
def tw4224580777998173229:=()
def tw2171370135301932878:=()
def tw9218684607909856892:=()
def tw1497548480898884045:=()
def tw16149308732226404609:=()
def tw17797534933730801487:=()
def tw2123271940964034655:=()
def tw4416066035997629037:=()
def tw9518829095627999875:=()
def tw1186148584569990709:=()
def tw3333694711480145409:=()
def tw13841296682022020166:=()
def tw1774086497693159541:=()
def tw2593605207233945351:=()
def tw8274884310391443020:=()
def tw15086224899698830841:=()
def tw3891966896435907273:=()
def tw3190708833310477973:=()
def tw13127346135735483564:=()
def tw2610249311841560628:=()
def tw5689295841374888496:=()
def tw18083455402676484334:=()
def tw12476053739443573198:=()
def tw3775417150866157741:=()
def tw17803156821842255324:=()
def tw420548774873696390:=()
def tw3505110270263636281:=()
def tw11951174580563555129:=()
def tw5196349281471490468:=()
def tw15902678101381049807:=()
def tw17128226584731371229:=()
def tw2147362359434973384:=()
def tw11125151742828477702:=()
def tw4587670728733604366:=()
def tw13179159884216528773:=()
def tw1335724487351314527:=()
def tw3626106252042183917:=()
def tw3580820007184256229:=()
def tw5324458926212213156:=()
def tw13932455943954387301:=()
def tw1990688252356929904:=()
def tw12868332208180236152:=()
def tw14732191258288528252:=()
def tw14743772060464296999:=()
def tw14006602801709691913:=()
def tw17204432784301778125:=()
def tw15197128746367003027:=()
def tw12275429693839909719:=()
def tw7959647912186687504:=()
def tw18133671507661429469:=()
def tw14022453419617770367:=()
def tw7682632364928133772:=()
def tw11323001128057456509:=()
def tw771163323914779172:=()
def tw6858236561755245459:=()
def tw8649894711749471205:=()
def tw9456919830161369818:=()
def tw13604266041707798762:=()
def tw150961024140115610:=()
def tw793109103796465115:=()
def tw5497201710449143631:=()
def tw16152409183783448719:=()
def tw11951789052823048411:=()
def tw3606419370073454781:=()
def tw15748124975568360293:=()
def tw14608978231016743142:=()
def tw6519304644370278482:=()
def tw13116550245279077568:=()
def tw8450498108008630731:=()
def tw15183743326233972585:=()
def tw10414087364902483709:=()
def tw8917660221231271692:=()
def tw3811429189884015842:=()
def tw6454217149316936891:=()
def tw1764249278747757668:=()
def tw8517007319964211834:=()
def tw13559548611614810836:=()
def tw18369496262665712031:=()
def tw10142642841515280593:=()
def tw1711225901123919162:=()
def tw4081382764884155434:=()
def tw12051650242083751552:=()
def tw17606402473864225200:=()
def tw12167256950994502345:=()
def tw15880953912072463769:=()
def tw17231347747700863722:=()
def tw11796401095688263642:=()
def tw18420268205345283354:=()
def tw16585244797448677072:=()
def tw11070874589283773529:=()
def tw10164790534118970850:=()
def tw7636053971970091145:=()
def tw7922138232310436286:=()
def tw5621578212965358199:=()
def tw9793775642677073274:=()
def tw10472366194586180587:=()
end PySem.W.Fast
set_option maxRecDepth 100000 in
set_option maxHeartbeats 0 in
theorem PySem.Challenge.cw_trialdeal_k58_whole_truth_seldom_ruled_o_holds : PySem.Challenge.rw_trialdeal_k58_whole_truth_seldom_ruled_o.Holds := by
 w_on; o_law; k_head; (case hw => w_witness2)
 k_fill
 refine My.walk (l := PySem.Challenge.rw_trialdeal_k58_whole_truth_seldom_ruled_o) rfl rfl (λ w h Y => PySem.W.kIn_of Y) ?F
 case F =>
  intro w mg fa h KX G Mq;refine' My.all_mk KX G Mq (My.JB ?jaa ?jab ?jac ?jad ?jae ?jaf ?jag ?jah ?jai ?jaj ?jak ?jal) (My.IU "NoDealing" ?jam ?jan ?jao ?jap ?jaq ?jar ?jas ?jat) (My.IU "NoListing" ?jau ?jav ?jaw ?jax ?jay ?jaz ?jaA ?jaB)
   ?jaC ?jaD ?jaE ?jaF ?jaG ?jaH ?jaI ?jaJ ?jaK ?jaL ?jaM ?jaN ?jaO ?jaP ?jaQ ?jaR ?jaS ?jaT ?jaU ?jaV ?jaW ?jaX ?jaY ?jaZ ?ja0 ?ja1 ?ja2 ?ja3 ?ja4 ?ja5 ?ja6 ?ja7 ?ja8 ?ja9 ?jba ?jbb ?jbc ?jbd ?jbe ?jbf ?jbg ?jbh ?jbi ?jbj ?jbk ?jbl (My.ú My.Wj KX G ?jbm ?jbn ?jbo ?jbp) (My.ú My.Wi KX G ?jbq ?jbr ?jbs ?jbt) (My.ú My.Wh KX G ?jbu ?jbv ?jbw ?jbx) (My.ú My.Wg KX G ?jby ?jbz ?jbA ?jbB) (My.ú My.Wf KX G ?jbC ?jbD ?jbE ?jbF) (My.ú My.We KX G ?jbG ?jbH ?jbI ?jbJ) (My.ú My.Wd KX G ?jbK ?jbL ?jbM ?jbN) (My.ú My.Wc KX G ?jbO ?jbP ?jbQ ?jbR) (My.ú My.Wb KX G ?jbS ?jbT ?jbU ?jbV) (My.ú My.Wa KX G ?jbW ?jbX ?jbY ?jbZ) (My.ú My.PY KX G ?jb0 ?jb1 ?jb2 ?jb3) (My.ú My.PX KX G ?jb4 ?jb5 ?jb6 ?jb7) (My.ú My.PV KX G ?jb8 ?jb9 ?jca ?jcb) (My.ú My.PU KX G ?jcc ?jcd ?jce ?jcf) (My.ú My.PR KX G ?jcg ?jch ?jci ?jcj) (My.ú My.PQ KX G ?jck ?jcl ?jcm ?jcn) (My.ú My.PP KX G ?jco ?jcp ?jcq ?jcr) (My.ú My.PN KX G ?jcs ?jct ?jcu ?jcv) (My.ú My.PM KX G ?jcw ?jcx ?jcy ?jcz) (My.ú My.PL KX G ?jcA ?jcB ?jcC ?jcD) (My.ú My.PK KX G ?jcE ?jcF ?jcG ?jcH) (My.ú My.PJ KX G ?jcI ?jcJ ?jcK ?jcL) (My.ú My.PH KX G ?jcM ?jcN ?jcO ?jcP) (My.ú My.PF KX G ?jcQ ?jcR ?jcS ?jcT) (My.ú My.PD KX G ?jcU ?jcV ?jcW ?jcX) (My.ú My.PB KX G ?jcY ?jcZ ?jc0 ?jc1) (My.ú My.Pz KX G ?jc2 ?jc3 ?jc4 ?jc5) (My.ú My.Py KX G ?jc6 ?jc7 ?jc8 ?jc9) (My.ú My.Px KX G ?jda ?jdb ?jdc ?jdd) (My.ú My.Pw KX G ?jde ?jdf ?jdg ?jdh) (My.ú My.Pu KX G ?jdi ?jdj ?jdk ?jdl) (My.ú My.Pt KX G ?jdm ?jdn ?jdo ?jdp) (My.ú My.Ps KX G ?jdq ?jdr ?jds ?jdt) (My.ú My.Pr KX G ?jdu ?jdv ?jdw ?jdx) (My.ú My.Pq KX G ?jdy ?jdz ?jdA ?jdB) (My.ú My.Pp KX G ?jdC ?jdD ?jdE ?jdF) (My.ú My.Po KX G ?jdG ?jdH ?jdI ?jdJ) (My.ú My.Pm KX G ?jdK ?jdL ?jdM ?jdN) (My.ú My.Pl KX G ?jdO ?jdP ?jdQ ?jdR) (My.ú My.Pk KX G ?jdS ?jdT ?jdU ?jdV) (My.ú My.Pj KX G ?jdW ?jdX ?jdY ?jdZ) (My.ú My.Pi KX G ?jd0 ?jd1 ?jd2 ?jd3) (My.ú My.Ph KX G ?jd4 ?jd5 ?jd6 ?jd7) (My.ú My.Pg KX G ?jd8 ?jd9 ?jea ?jeb) (My.ú My.Pf KX G ?jec ?jed ?jee ?jef) (My.ú My.Pe KX G ?jeg ?jeh ?jei ?jej) (My.ú My.Pd KX G ?jek ?jel ?jem ?jen) (My.ú My.Pc KX G ?jeo ?jep ?jeq ?jer) (My.ú My.Pb KX G ?jes ?jet ?jeu ?jev) (My.ú My.Pa KX G ?jew ?jex ?jey ?jez)
   (λ s v => .of_eq rfl)
  case jaC | jaD | jaE | jaa | jab => k_is
  (case jac => exact My.Hu rfl)
  (case jad => first | rfl | decide +kernel)
  case jae | jaf | jag | jah | jai | jaj | jak | jal | jam | jan | jao | jap | jaq | jar | jas | jat | jau | jav | jaw | jax | jay | jaz | jaA | jaB | jaF | jaG | jaH | jaI | jaJ | jaK | jaL | jaM | jaN | jaO | jaP | jaQ | jaR | jaS | jaT | jaU | jaV | jaW | jaX | jaY | jaZ | ja0 | ja1 | ja2 | ja3 | ja4 | ja5 | ja6 | ja7 | ja8 | ja9 | jba | jbb | jbc | jbd | jbe | jbf | jbg | jbh | jbi | jbj | jbk | jbl | jbm | jbn | jbo | jbp | jbq | jbr | jbs | jbt | jbu | jbv | jbw | jbx | jby | jbz | jbA | jbB | jbC | jbD | jbE | jbF | jbG | jbH | jbI | jbJ | jbK | jbL | jbM | jbN | jbO | jbP | jbQ | jbR | jbS | jbT | jbU | jbV | jbW | jbX | jbY | jbZ | jb0 | jb1 | jb2 | jb3 | jb4 | jb5 | jb6 | jb7 | jb8 | jb9 | jca | jcb | jcc | jcd | jce | jcf | jcg | jch | jci | jcj | jck | jcl | jcm | jcn | jco | jcp | jcq | jcr | jcs | jct | jcu | jcv | jcw | jcx | jcy | jcz | jcA | jcB | jcC | jcD | jcE | jcF | jcG | jcH | jcI | jcJ | jcK | jcL | jcM | jcN | jcO | jcP | jcQ | jcR | jcS | jcT | jcU | jcV | jcW | jcX | jcY | jcZ | jc0 | jc1 | jc2 | jc3 | jc4 | jc5 | jc6 | jc7 | jc8 | jc9 | jda | jdb | jdc | jdd | jde | jdf | jdg | jdh | jdi | jdj | jdk | jdl | jdm | jdn | jdo | jdp | jdq | jdr | jds | jdt | jdu | jdv | jdw | jdx | jdy | jdz | jdA | jdB | jdC | jdD | jdE | jdF | jdG | jdH | jdI | jdJ | jdK | jdL | jdM | jdN | jdO | jdP | jdQ | jdR | jdS | jdT | jdU | jdV | jdW | jdX | jdY | jdZ | jd0 | jd1 | jd2 | jd3 | jd4 | jd5 | jd6 | jd7 | jd8 | jd9 | jea | jeb | jec | jed | jee | jef | jeg | jeh | jei | jej | jek | jel | jem | jen | jeo | jep | jeq | jer | jes | jet | jeu | jev | jew | jex | jey | jez => k_is
