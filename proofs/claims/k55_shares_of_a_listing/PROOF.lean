import PyProof.Rows.All
import Wide.All
import OpenK.AllK
import Wide.FinOn
import Lean
import PyProof.EqAt
import PyProof.EqKinds
import PyProof.TupleCall
import PyProof.ExcClass2
import PyProof.InstStoreFacts
import PyProof.ExcArgs
import PyProof.ExcInit
import PyProof.ExcBaseAll.ValueError
import KE.KIsAll
import PyProof.RulesRaise
import PyProof.RulesAs
import PyProof.RaisesMany
import PyProof.NeKinds
import PyProof.EnumFor
import PyProof.EnumStmt
import PyProof.EnumMake
import PyProof.Rows.EnumRows
import PyProof.CompFree
import KE.KIntText
import PyProof.StrBlockG
import PyProof.StrBlockH
import PyProof.StrWalks
import PyProof.Rows.StrNews2
import PyProof.Rows.StrOr
import PyProof.Rows.Digits
import PyProof.StrBlockL
import PyProof.MeetsStr2
import PyProof.CompMap
import KE.IntTextLaws
import PyProof.Rows.StrPartPair
import PyProof.StrLawsTight
import PyProof.StrLawsChain
import PyProof.Rows.StrIntSpec
import PyProof.Rows.StrItems
import PyProof.ReprRoads
import PyProof.ReprBulk
import PyProof.FitsInt
import PyProof.CallFns
import PyProof.Rows.FactsT3
import PyProof.ListRange
import PyProof.TupleOfSeq
import PyProof.TupleOfGen
import PyProof.ConsumeWalk
import PyProof.Rows.SeqGen
import PyProof.CompUse
import KE.KUnpack
import PyProof.Draws
import PyProof.Rows.RuleB_bool
import PyProof.WalkInts
import PyProof.SeqI3
import KE.KRevSl
import KE.BitLaws
import PyProof.Rows.SumAny
import OpenK.KTop
import PyProof.Rows.FStr
import PyProof.DictItems
import PyProof.DictValues
import KE.KDictSum
import KE.KDictList
import PyProof.SumWalkG
import PyProof.Rows.SortWalk
import PyProof.Rows.SeqMore2
import PyProof.DictCompW
import PyProof.AttrMiss
import PyProof.IsiH_list
import KE.KDictOf
import KE.KEqDict
import PyProof.Rows.TupDisplay
import PyProof.Cells
import PyProof.WalksMore
import PyProof.TupleIter
import PyProof.ZipIter
import PyProof.Rows.FactsT2
import PySem.Challenge.RW_trialdeal_k55_shares_of_a_listing
set_option autoImplicit true
set_option relaxedAutoImplicit true
set_option linter.all false
def À:=@PySem.wpAny_bind
def Á:=@PySem.Heap.get?_push_of_some
def Â:=@PySem.wpAny_pure
def Ã:=@List.getElem?_eq_getElem
def Ä:=@Nat.le_refl
def Å:=@List.length_map
def Æ:=@PySem.Heap.lt_size
def Ç:=@PySem.Heap.get?_push_size
def È:=@List.mem_append_right
def É:=@List.map_cons
def Ê:=@List.getElem?_map
def Ë:=@if_neg
def Ì:=@Bool.false_ne_true
def Í:=@Nat.ne_of_lt
def Î:=@decide_eq_true
def Ï:=@List.length_append
def Ð:=@Option.some.inj
def Ñ:=@List.mem_cons
def Ò:=@Nat.le_trans
def Ó:=@List.mem_cons_of_mem
def Ô:=@List.size_toArray
def Õ:=@if_pos
def Ö:=@List.getElem?_eq_some_iff
def Ø:=@List.map_append
def Ù:=@List.mem_cons_self
def Ú:=@PySem.sizeLine_eq
def Û:=@Nat.lt_of_lt_of_le
def Ü:=@List.length_cons
def Ý:=@PyProof.Rows.boot_sum
def Þ:=@PySem.Heap.get?_update_ne
def ß:=@List.sum_cons
def à:=@decide_eq_false
def á:=@List.mem_of_getElem?
def â:=@PySem.wpAny_newObj_type
def ã:=@PyProof.Rows.boot_isinstance
def ä:=@PySem.wpAny_holding
def å:=@PySem.Paired.length
def æ:=@Nat.pow_le_pow_right
def ç:=@Array.getElem?_eq_some_iff
def é:=@PySem.wpAny_mono
def ê:=@List.count_cons_of_ne
def ì:=@of_decide_eq_true
def í:=@PySem.boot_len
def î:=@List.replicate_succ
def ï:=@PySem.Heap.get?_update_self
def ð:=@List.nodup_cons
def ñ:=@Bool.and_eq_true
def ò:=@List.mem_map
def ó:=@List.map_map
def ô:=@PySem.wpAny_call_entry
def õ:=@PySem.PassesOwn.never
def ö:=@PySem.Heap.size_push
def ø:=@List.length_replicate
def ú:=@PySem.wpAny_setField_rec
def ü:=@List.append_nil
def ý:=@PySem.F.plainAttrs_list
def þ:=@PySem.wpAny_field
def ÿ:=@List.length_range
def Ā:=@decide_eq_true_iff
def ā:=@List.contains_cons
def Ă:=@Nat.lt_irrefl
def ă:=@PySem.mem_of_lookup
def Ć:=@decide_eq_false_iff_not
def Ĉ:=@PySem.wpAny_callSpecial?_slot
def ĉ:=@List.take_length
def Ċ:=@List.append_assoc
def ċ:=@Int.toNat_natCast
def Č:=@PySem.F.slot_dict_itemiterator_next
def č:=@PySem.W.kia_one
def Ď:=@PySem.F.slot_dict_keyiterator_next
def ď:=@List.mem_singleton
def Đ:=@PySem.wpAny_ite_true
def đ:=@Option.map_eq_some_iff
def ē:=@beq_eq_false_iff_ne
def Ĕ:=@Nat.zero_le
def ę:=@PySem.W.mg_none_of
def Ě:=@Nat.lt_of_le_of_lt
def ě:=@PySem.W.Looks.here
def Ĝ:=@List.filter_append
def ĝ:=@PySem.wpAny_ite_false
def Ğ:=@PyProof.Rows.boot_tuple
def ğ:=@PySem.wpAny_attempt
def Ġ:=@List.mem_filter
def Ģ:=@List.take_of_length_le
def Ĥ:=@List.filter_cons
def ĥ:=@List.mem_range
def Ħ:=@List.getD_eq_getElem?_getD
def ħ:=@Int.emod_lt_of_pos
def ĩ:=@List.length_singleton
def ī:=@PySem.wpAny_standAt
def Ĭ:=@PySem.wpAny_Call_Name_kw
def ĭ:=@congrArg
def Į:=@Nat.lt_succ_of_lt
def į:=@List.all_cons
def ı:=@beq_self_eq_true
def Ĳ:=@PySem.F.type_list_count
def ĳ:=@PySem.F.slot_list_count
def Ĵ:=@PySem.wpAny_comprehension_free
def ķ:=@PySem.wpAny_typeNameOfWhole_itemiter
def ĸ:=@PySem.wpAny_seqItems
def Ĺ:=@List.range_succ
def Ļ:=@PySem.wpAny_typeNameOfWhole_keyiter
def ļ:=@PyProof.Rows.callWith_type1
def Ľ:=@List.flatten_cons
def ŀ:=@PySem.Calls.callWith_builtin
def Ń:=@PySem.wpAny_passesOwn
def ń:=@PySem.F.slot_NoneType_hash
def Ņ:=@PySem.F.excAttr_ValueError
def ň:=@Nat.pow_succ
def ŉ:=@Nat.lt_trans
def Ŋ:=@Int.mul_zero
def Ō:=@PySem.wpAny_truthy_bool
def ō:=@PySem.wpAny_dictEntries
def Ő:=@PySem.wpAny_setField
def ő:=@PySem.wpAny_newFunctionEnv
def Œ:=@Option.isSome_iff_exists
def œ:=@Nat.gcd_pos_of_pos_right
def Ŕ:=@PySem.F.slot_tuple_iterator_next
def Ŗ:=@List.mem_append
def ŗ:=@PySem.F.plainAttrs_dict
def Ś:=@PyProof.Rows.boot_repr
def ś:=@Nat.pow_zero
def Ŝ:=@List.range_succ_eq_map
def ŝ:=@List.getElem?_set_self
def Ş:=@Int.zero_add
def Ţ:=@PySem.wpAny_execs_nil
def ţ:=@PySem.wpAny_dictEpoch
def Ť:=@PySem.Obj.data_mapFields
def ť:=@List.getElem?_eq_none
def Ŧ:=@Bool.and_eq_false_iff
def Ũ:=@PyProof.Rows.callWith_builtin1
def Ŭ:=@PySem.codeAny_compStart_list
def ŭ:=@List.count_cons_self
def Ů:=@PySem.Heap.get?_push_at
def ŵ:=@Int.emod_nonneg
def Ŷ:=@Bool.eq_iff_iff
def Ź:=@PySem.wpAny_notOrdered_dict
def ź:=@Nat.mul_le_mul_left
def Ż:=@List.getElem_of_mem
def ż:=@Int.toNat_of_nonneg
def ž:=@PySem.wpAny_isInstance
def ſ:=@PySem.wpAny_call
def Α:=@Nat.zero_add
def Β:=@Nat.ne_of_gt
def Γ:=@Int.mul_comm
def Ζ:=@PySem.codeAny_call_builtin
def Η:=@PySem.W.callWith_K
def Θ:=@List.map_replicate
def Ι:=@List.getElem?_append_right
def Κ:=@Int.fdiv_eq_ediv_of_nonneg
def Λ:=@Bool.and_false
def Φ:=@PySem.SeqAt.EqAt.same
def Χ:=@PySem.F.slot_zip_next
def Ω:=@Nat.gcd_dvd_right
def δ:=@Nat.add_mul
def ε:=@Int.mul_one
def ζ:=@PySem.Heap.SameBut.update
def η:=@PySem.F.type_list_append
def θ:=@PySem.F.slot_list_append
def ι:=@PySem.F.slot_dict_values
def ν:=@List.any_cons
def ς:=@PySem.wpAny_rule
def τ:=@PySem.W.looks_findIn
def υ:=@Option.bind_some
def χ:=@List.lookup_cons
def ψ:=@List.length_eq_zero_iff
def ω:=@List.getElem_mem
def a_:=@List.cons_append
def b_:=@PySem.Calls.spliced_cons
def h_:=@PyProof.Rows.boot_list
def i':=@Nat.not_lt
def i_:=@Nat.mul_zero
def j':=@Nat.mul_comm
def j_:=@Nat.le_of_eq
def k_:=@List.all_map
def o_:=@PySem.wpAny_pyIter_list
def p_:=@PySem.wpAny_of_eq
def r_:=@PySem.wpAny_onRaise
def s_:=@PySem.Value.ref.inj
def t_:=@PySem.F.slot_dict_get
def u_:=@PyProof.Rows.boot_int
def v_:=@List.length_filter_le
def z_:=@PySem.W.looks_mroIn
def B':=@PySem.wpAny_Call_method0_late
def B_:=@Nat.pow_lt_pow_right
def C_:=@Nat.div_one
def D_:=@List.mem_append_left
def E_:=@List.getElem?_set_ne
def F':=@PySem.Heap.size_update
def F_:=@Bool.false_and
def Ib:=@PySem.F.args_dict_itemiterator_next_1
def Ie:=@PySem.wpAny_typeOf
def Ig:=@PySem.wpAny_isOneOf_itemiter
def Ih:=@PySem.codeAny_mono
def Ii:=@PySem.evalArgs_none
def Ij:=@PySem.F.entry_dict_itemiterator_next
def Il:=@PySem.F.args_dict_keyiterator_next_1
def Im:=@List.map_congr_left
def Io:=@List.getElem?_range
def Ip:=@List.filterMap_cons
def Iq:=@Array.length_toList
def Iy:=@PySem.F.entry_dict_keyiterator_next
def Iz:=@Bool.true_and
def IE:=@List.mem_filterMap
def IN:=@PySem.wpAny_updateSeq_pair
def IP:=@PySem.wpAny_loadPart
def IQ:=@PySem.wpAny_fieldsOf
def IR:=@Nat.gcd_comm
def IS:=@Int.zero_sub
def Jj:=@List.perm_middle
def Jk:=@List.length_take
def Jl:=@List.countP_cons
def Jm:=@List.all_eq_true
def Jw:=@Nat.mul_add
def JG:=@PySem.wpAny_pyIter_tuple
def JH:=@PySem.tupleKind_room_in1
def JJ:=@PySem.call_meets
def JK:=@PySem.F.slot_dict_items_iter
def JL:=@Nat.not_lt_zero
def JM:=@Nat.div_le_self
def JN:=@List.of_mem_zip
def JO:=@List.length_nil
def JZ:=@PySem.W.mg_of
def J8:=@PySem.wpAny_pyIter_slot
def J9:=@PySem.wpAny_loadPart_at
def J':=@PySem.call_meetsIn
def J_:=@PySem.F.excBase_ValueError
def KL:=@List.getElem?_append_left
def KM:=@Array.getElem?_eq_getElem
def K1:=@PySem.wpAny_execs_cons
def K2:=@PySem.F.type_dict_values
def LD:=@PySem.wpAny_throw
def LF:=@PySem.wpAny_letGo
def LG:=@PySem.F.slot_dict_items
def LH:=@PySem.F.args_dict_get_3
def LI:=@Nat.mul_div_cancel_left
def LJ:=@List.getElem?_replicate
def L6:=@PySem.wpAny_specialOf
def L7:=@PySem.W.cellsFrom_some
def L8:=@PySem.F.slot_dict_iter
def L9:=@PySem.F.entry_dict_get
def L_:=@PyProof.Rows.boot_bool
def Ma:=@Nat.zero_mul
def Mb:=@Nat.le_of_lt
def Mc:=@Nat.add_comm
def Md:=@List.map_nil
def Me:=@Int.ofNat_lt
def Mf:=@PySem.F.args_tuple_iterator_next_1
theorem aJ {p : Prop} (h : p := by decide +kernel) : p := h
theorem am {p : Prop} (h : p := by decide) : p := h
theorem af {p : Prop} (h : p := by omega) : p := h
theorem ft {n : Nat} (h : Nat.ble n 1000 = true := by exact rfl) : n <= PySem.sizeLine := Ò (Nat.le_of_ble_eq_true h) (by decide)
abbrev bo := PySem.Value -> PySem.Shared -> Prop
abbrev bu := PySem.Str -> Option PySem.Value
abbrev dh (l : List (PySem.Str × PySem.NameKind)) : PySem.Scope := { kind := .function, names := (".0", .local) :: l, isGenerator := false, isCoroutine := false }
set_option Elab.async false
set_option maxRecDepth 100000
namespace L2
open PySem PySem.Spec PyProof.Rows
inductive Key where
 | inl (i : Int) | inr (x : Str) | Ė
 deriving DecidableEq
def iR : Key -> Value -> Bool
 | .inl k, v => Value.isInt k v
 | .inr x, v => Value.isStrOf x v
 | .Ė, v => v == .none
def El (w : World) : Key -> Int
 | .inl k => hashInt k
 | .inr x => hashStr w x
 | .Ė => 0xFCA86420
theorem mP {prog : Program} {w : World} {A : Around} {E : bo} {s : Shared} {Q : Int -> Shared -> Prop} (h : Q 0xFCA86420 { s with toks := s.toks + 1 }) : wpAny (model prog w) A (pyHash .none) Q E s := by
 unfold pyHash;have hT : s.TypeIs .none "NoneType" := rfl;have hv : [Value.none].any Value.onHeap = false := rfl;refine À ?_;rw [cRoomFor, Ë (by rw [hv]; exact Ì)]; refine Â ?_
 refine À (L6 hT ń.lookup ?_);show wpAny _ _ (if (some (Value.builtin "NoneType.__hash__") == some Value.none) = true then _ else _) Q E s
 rw [Ë (by rw [beq_builtin_none]; exact Ì)]
 refine À (L6 hT ń.lookup ?_);show wpAny _ _ (callSpecialIfBoundUnlessNone? .none "__hash__" _ >>= _) Q E s;refine À (wpAny_callSpecialIfBoundUnlessNone?_slot hT ń
  (ô ń hT PySem.F.entry_NoneType_hash
   (show wpAny _ _ (do ret (<- mkInt 0xFCA86420)) _ _ s from wpAny_ret_mkInt ?_) (PySem.F.args_NoneType_hash_1 _)))
 show wpAny _ _ (if (decide (-(2 : Int) ^ 63 <= 0xFCA86420) && decide ((0xFCA86420 : Int) < 2 ^ 63)) = true then _ else _) Q E _
 rw [Õ am];exact Â h
theorem aE : ∀ {k : Key} {v : Value}, iR k v = true -> (∃ i t, k = Key.inl i /\ v = Value.int i t) \/ (∃ x t, k = Key.inr x /\ v = Value.str x t) \/ (k = Key.Ė /\ v = Value.none)
 | .inl i, v, h => by
  obtain ⟨t, e⟩ := Value.isInt_shape (k := i) (v := v) h;exact .inl ⟨i, t, rfl, e⟩
 | .inr x, v, h => by
  obtain ⟨t, e⟩ := Value.isStrOf_shape (x := x) (v := v) h;exact .inr (.inl ⟨x, t, rfl, e⟩)
 | .Ė, v, h => .inr (.inr ⟨rfl, eq_of_beq h⟩)
theorem qQ (i : Int) (t : Tok) : iR (.inl i) (.int i t) = true := by simp [iR, Value.isInt]
theorem qP (x : Str) (t : Tok) : iR (.inr x) (.str x t) = true := by simp [iR, Value.isStrOf]
theorem yp (a b : Int) : decide (Key.inl a = Key.inl b) = (a == b) := by
 by_cases e : a = b
 ·subst e; simp
 ·rw [à (λ q => e (Key.inl.inj q))];exact (ē.mpr e).symm
theorem zq (a b : Str) : decide (Key.inr a = Key.inr b) = decide (a = b) := by
 by_cases e : a = b
 ·subst e; simp
 ·rw [à (λ q => e (Key.inr.inj q)), à e]
theorem zd (a : Int) (b : Str) : decide (Key.inl a = Key.inr b) = false := à (λ q => nomatch q)
theorem Al (a : Str) (b : Int) : decide (Key.inr a = Key.inl b) = false := à (λ q => nomatch q)
theorem zn (a : Int) : decide (Key.inl a = Key.Ė) = false := à (λ q => nomatch q)
theorem AC (a : Int) : decide (Key.Ė = Key.inl a) = false := à (λ q => nomatch q)
theorem Aa (a : Str) : decide (Key.inr a = Key.Ė) = false := à (λ q => nomatch q)
theorem zA (a : Str) : decide (Key.Ė = Key.inr a) = false := à (λ q => nomatch q)
def aG (prog : Program) (w : World) : PySem.KeyKind prog w Key where
 is := iR
 hash := El w
 inj := λ v a b ha hb => by
  rcases aE ha with ⟨i, t, rfl, rfl⟩ | ⟨x, t, rfl, rfl⟩ | ⟨rfl, rfl⟩
  ·rcases aE hb with ⟨j, u, rfl, e⟩ | ⟨y, u, rfl, e⟩ | ⟨rfl, e⟩
   ·injection e with e1 _; rw [e1]
   ·exact nomatch e
   ·exact nomatch e
  ·rcases aE hb with ⟨j, u, rfl, e⟩ | ⟨y, u, rfl, e⟩ | ⟨rfl, e⟩
   ·exact nomatch e
   ·injection e with e1 _; rw [e1]
   ·exact nomatch e
  ·rcases aE hb with ⟨j, u, rfl, e⟩ | ⟨y, u, rfl, e⟩ | ⟨rfl, e⟩
   ·exact nomatch e
   ·exact nomatch e
   ·rfl
 byValue := λ k v h => by
  rcases aE h with ⟨i, t, rfl, rfl⟩ | ⟨x, t, rfl, rfl⟩ | ⟨rfl, rfl⟩ <;> rfl
 pyHash := λ hv h => by
  rcases aE hv with ⟨i, t, rfl, rfl⟩ | ⟨x, t, rfl, rfl⟩ | ⟨rfl, rfl⟩
  ·exact wpAny_pyHash_int h
  ·exact wpAny_pyHash_str h
  ·exact mP h
 eqBool := λ hu hv h => by
  rcases aE hu with ⟨i, t, rfl, rfl⟩ | ⟨x, t, rfl, rfl⟩ | ⟨rfl, rfl⟩
  ·rcases aE hv with ⟨j, u, rfl, rfl⟩ | ⟨y, u, rfl, rfl⟩ | ⟨rfl, rfl⟩
   ·rw [yp] at h; exact wpAny_eqBool_int h
   ·rw [zd] at h; exact SeqAt.EqAt.int_str i t y u _ _ _ _ h
   ·rw [zn] at h; exact SeqAt.EqAt.int_none i t _ _ _ _ h
  ·rcases aE hv with ⟨j, u, rfl, rfl⟩ | ⟨y, u, rfl, rfl⟩ | ⟨rfl, rfl⟩
   ·rw [Al] at h; exact SeqAt.EqAt.str_int x t j u _ _ _ _ h
   ·rw [zq] at h; exact wpAny_eqBool_str h
   ·rw [Aa] at h; exact SeqAt.EqAt.str_none x t _ _ _ _ h
  ·rcases aE hv with ⟨j, u, rfl, rfl⟩ | ⟨y, u, rfl, rfl⟩ | ⟨rfl, rfl⟩
   ·rw [AC] at h; exact SeqAt.EqAt.none_int j u _ _ _ _ h
   ·rw [zA] at h; exact SeqAt.EqAt.none_str y u _ _ _ _ h
   ·exact Φ _ _ _ _ _ (by simpa using h)
 «strs» := λ k x t v h => by
  rcases aE h with ⟨i, u, rfl, e⟩ | ⟨y, u, rfl, e⟩ | ⟨rfl, e⟩
  ·exact nomatch e
  ·injection e with e1 _
   subst e1;cases v <;> rfl
  ·exact nomatch e
theorem iM (prog : Program) (w : World) (k : Key) (v : Value) : (aG prog w).is k v = iR k v := rfl
theorem lK (prog : Program) (w : World) (i : Int) (t : Tok) : (aG prog w).is (.inl i) (.int i t) = true := qQ i t
theorem mw (prog : Program) (w : World) (x : Str) (t : Tok) : (aG prog w).is (.inr x) (.str x t) = true := qP x t
inductive V where
 | Ė | bl (b : Bool) | int (i : Int) | str (x : Str) | J5 (b : Array UInt8) | MV (b : UInt64) | ref (a : Addr) | ty (n : String)
 deriving DecidableEq
def RelV : V -> Value -> Prop
 | .Ė, u => u = Value.none
 | .bl b, u => u = Value.bool b
 | .int i, u => ∃ t, u = Value.int i t
 | .str x, u => ∃ t, u = Value.str x t
 | .J5 b, u => ∃ t, u = Value.bytes b t
 | .MV b, u => ∃ t, u = Value.float b t
 | .ref a, u => u = Value.ref a
 | .ty n, u => u = Value.type n
abbrev Vals : List V -> List Value -> Prop := Paired RelV
theorem Vals.length {xs : List V} {us : List Value} (r : Vals xs us) : xs.length = us.length := å r
theorem Vals.get : ∀ {xs : List V} {us : List Value} {i : Nat} {x : V}, Vals xs us -> xs[i]? = some x -> ∃ u, us[i]? = some u /\ RelV x u
 | _, _, _, _, .nil, e => by simp at e
 | _, _, 0, _, .cons r _, e => by simp at e; subst e; exact ⟨_, rfl, r⟩
 | _, _, i + 1, x, .cons _ t, e => by
  obtain ⟨u, h1, h2⟩ := Vals.get (i := i) (x := x) t (by simpa using e)
  exact ⟨u, by simpa using h1, h2⟩
theorem Vals.set {x : V} {u : Value} (r : RelV x u) : ∀ {xs : List V} {us : List Value} (i : Nat), Vals xs us -> Vals (xs.set i x) (us.set i u)
 | _, _, _, .nil => .nil
 | _, _, 0, .cons _ t => .cons r t
 | _, _, i + 1, .cons q t => .cons q (Vals.set r i t)
theorem Vals.append : ∀ {xs ys : List V} {us ws : List Value}, Vals xs us -> Vals ys ws -> Vals (xs ++ ys) (us ++ ws)
 | _, _, _, _, .nil, s => s
 | _, _, _, _, .cons r t, s => .cons r (Vals.append t s)
theorem Vals.take : ∀ {xs : List V} {us : List Value} (n : Nat), Vals xs us -> Vals (xs.take n) (us.take n)
 | _, _, 0, _ => .nil
 | _, _, _ + 1, .nil => .nil
 | _, _, n + 1, .cons r t => .cons r (Vals.take n t)
theorem Vals.drop : ∀ {xs : List V} {us : List Value} (n : Nat), Vals xs us -> Vals (xs.drop n) (us.drop n)
 | _, _, 0, r => r
 | _, _, _ + 1, .nil => .nil
 | _, _, n + 1, .cons _ t => Vals.drop n t
def Ψ : Option V -> Option Value -> Prop
 | some v, some u => RelV v u
 | none, none => True
 | _, _ => False
def KV {κ : Type} : List (κ × V) -> List (κ × Value) -> Prop := Paired λ (p : κ × V) (q : κ × Value) => p.1 = q.1 /\ RelV p.2 q.2
def kV : Key -> V
 | .inl i => .int i
 | .inr x => .str x
 | .Ė => .Ė
inductive HO where
 | lst (xs : List V)
 | tup (xs : List V)
 | dK (kvs : List (Key × V)) | dT (kvs : List (List Key × V))
 | set (S : Int -> Bool) (n : Nat)
 | ins (C dx : Addr) (fs : List (Str × V))
 | own (x : Addr)
 | xd (fs : List (Str × V))
 | met (f x : Addr)
 | LN (lo hi : Int)
 | f_ (o : Obj) (u : HO)
 | Ml (ps : Array Value)
 | ext (φ : Heap -> Prop)
abbrev Hp := Addr -> Option HO
def ak (H : Hp) (a : Addr) (o : HO) : Hp := λ b => if b = a then some o else H b
theorem aQ {H : Hp} {a : Addr} {o : HO} : ak H a o a = some o := by unfold ak; rw [Õ rfl]
theorem ag {H : Hp} {a b : Addr} {o : HO} (h : b ≠ a) : ak H a o b = H b := by unfold ak; rw [Ë h]
theorem jV {H : Hp} {a : Addr} {o u : HO} : ak (ak H a o) a u = ak H a u := by
 funext b; unfold ak; split <;> rfl
theorem xF {H : Hp} {a b : Addr} {o u : HO} (h : H a = some o) (h' : H b = some u) (d : o ≠ u) : a ≠ b := by
 intro e; subst e; rw [h] at h'; exact d (Ð h')
theorem aN {H : Hp} {a b : Addr} {o : HO} (h : H a = some o) (h' : H b = none) : a ≠ b := by
 intro e; subst e; rw [h] at h'; cases h'
section
variable (P : Program) (w : World)
def ù (H : Hp) (h : Heap) (a : Addr) : HO -> Prop
 | .lst xs => xs.length <= sizeLine /\ ∃ (its : List Value) (n : Nat), Vals xs its /\ h.get? a = some { cls := .type "list", data := .seq its.toArray n }
 | .tup xs => xs.length <= sizeLine /\ ∃ its : List Value, Vals xs its /\ IsTup h a its.toArray
 | .dK kvs => kvs.length <= sizeLine /\ (a == sysModules) = false /\ ∃ vs, KV kvs vs /\ h.DictOf (aG P w) a vs
 | .dT kvs => kvs.length <= sizeLine /\ (a == sysModules) = false /\ ∃ xs : List (List Key × Addr × Value),
   Paired (λ (p : List Key × V) (q : List Key × Addr × Value) => p.1 = q.1 /\ H q.2.1 = some (.tup (p.1.map kV)) /\ RelV p.2 q.2.2) kvs xs /\
   ∃ o es ep, h.get? a = some o /\ o.ExactDict /\ o.data = .dict es ep /\ es.toList = xs.map (entryOfKey (tupleKind (aG P w))) /\ (xs.map (·.1)).Nodup
 | .set S n => h.SetOf (intKind P w) a S n
 | .ins C dx fs => H dx = some (.own a) /\ fs.length <= 1000 /\ dx ≠ a /\ h.get? a = some (PySem.W.instObj C dx) /\
   ∃ mA, h.Ns1 dx mA /\ (∀ f, Ψ (fs.lookup f) (mA f)) /\ PySem.Within mA (fs.map (·.1))
 | .own _ => ∃ o, h.get? a = some o
 | .xd fs => ∃ mA, h.Ns1 a mA /\ ∀ f, Ψ (fs.lookup f) (mA f)
 | .LN lo hi => ∃ t u v, h.get? a = some { cls := .type "range", data := .fields #[.int lo t, .int hi u, .int 1 v] }
 | .f_ o u => h.get? a = some o /\ ù H h a u
 | .Ml ps => h.get? a = some { cls := .none, data := .fields ps }
 | .met f x => h.get? a = some (PySem.W.methodObj (.ref f) (.ref x))
 | .ext φ => φ h /\ (∃ o, h.get? a = some o) /\ ∀ h1 h2 : Heap, φ h1 -> (∀ o, h1.get? a = some o -> h2.get? a = some o) -> φ h2
def Ų (H : Hp) (h : Heap) : Prop := ∀ a o, H a = some o -> ù P w H h a o
end
section
variable {P : Program} {w : World} {H H' : Hp} {h h' : Heap} {a : Addr} {o : HO}
theorem ù.lt (x : ù P w H h a o) : a < h.objs.size := by
 cases o with
 | lst xs => obtain ⟨_, _, _, _, e⟩ := x; exact Æ e
 | tup xs => obtain ⟨_, _, _, p⟩ := x; exact p.lt
 | dK kvs => obtain ⟨_, _, _, _, o, _, _, e, _⟩ := x; exact Æ e
 | dT kvs => obtain ⟨_, _, _, _, o, _, _, e, _⟩ := x; exact Æ e
 | set S n => obtain ⟨o, _, _, _, e, _⟩ := x; exact Æ e
 | ins C dx fs => obtain ⟨_, _, _, e, _⟩ := x; exact Æ e
 | own y => obtain ⟨_, e⟩ := x; exact Æ e
 | xd fs => obtain ⟨_, ⟨_, _, _, e, _⟩, _⟩ := x; exact Æ e
 | LN lo hi => obtain ⟨_, _, _, e⟩ := x; exact Æ e
 | f_ ob u => obtain ⟨e, _⟩ := x; exact Æ e
 | Ml ps => exact Æ (show h.get? a = some _ from x)
 | met f y => exact Æ (show h.get? a = some _ from x)
 | ext φ => obtain ⟨_, ⟨_, e⟩, _⟩ := x; exact Æ e
theorem Paired.K5 {α β : Type} {F G : α -> β -> Prop} : ∀ {Kq : List α} {Kp : List β}, Paired F Kq Kp -> (∀ a b, F a b -> G a b) -> Paired G Kq Kp
 | _, _, .nil, _ => .nil
 | _, _, .cons r t, f => .cons (f _ _ r) (Paired.K5 t f)
theorem Paired.imp' {α β : Type} {F G : α -> β -> Prop} (f : ∀ a b, F a b -> G a b) {Kq : List α} {Kp : List β} (r : Paired F Kq Kp) : Paired G Kq Kp := Paired.K5 r f
theorem ù.m_ (x : ù P w H h a o) (k : ∀ b u, (b = a \/ H b = some (.own a)) -> h.get? b = some u -> h'.get? b = some u)
  (ho : ∀ b, H b = some (.own a) -> H' b = some (.own a)) (ht : ∀ b xs, H b = some (.tup xs) -> H' b = some (.tup xs)) : ù P w H' h' a o := by
 induction o with
 | lst xs => obtain ⟨z, its, n, r, e⟩ := x; exact ⟨z, its, n, r, k _ _ (.inl rfl) e⟩
 | tup xs => obtain ⟨z, its, r, ob, e, c⟩ := x; exact ⟨z, its, r, ob, k _ _ (.inl rfl) e, c⟩
 | dK kvs => obtain ⟨z, y, vs, r, ob, es, ep, e, c⟩ := x; exact ⟨z, y, vs, r, ob, es, ep, k _ _ (.inl rfl) e, c⟩
 | dT kvs =>
  obtain ⟨z, y, xs, r, ob, es, ep, e, c⟩ := x;exact ⟨z, y, xs, Paired.K5 r λ p q z => ⟨z.1, ht _ _ z.2.1, z.2.2⟩, ob, es, ep, k _ _ (.inl rfl) e, c⟩
 | set S n => obtain ⟨ob, es, ep, t, e, c⟩ := x; exact ⟨ob, es, ep, t, k _ _ (.inl rfl) e, c⟩
 | ins C dx fs =>
  obtain ⟨d, z, ne, e, mA, ⟨od, es, ep, e2, c⟩, r⟩ := x;exact ⟨ho _ d, z, ne, k _ _ (.inl rfl) e, mA, ⟨od, es, ep, k _ _ (.inr d) e2, c⟩, r⟩
 | own y => obtain ⟨ob, e⟩ := x; exact ⟨ob, k _ _ (.inl rfl) e⟩
 | xd fs => obtain ⟨mA, ⟨od, es, ep, e, c⟩, r⟩ := x; exact ⟨mA, ⟨od, es, ep, k _ _ (.inl rfl) e, c⟩, r⟩
 | LN lo hi => obtain ⟨t, u, v, e⟩ := x; exact ⟨t, u, v, k _ _ (.inl rfl) e⟩
 | f_ ob u ih => obtain ⟨e, q⟩ := x; exact ⟨k _ _ (.inl rfl) e, ih q⟩
 | Ml ps =>
  have e : h.get? a = some { cls := .none, data := .fields ps } := x;show h'.get? a = some { cls := .none, data := .fields ps };exact k a _ (.inl rfl) e
 | met f y =>
  have e : h.get? a = some (PySem.W.methodObj (.ref f) (.ref y)) := x;show h'.get? a = some (PySem.W.methodObj (.ref f) (.ref y));exact k a _ (.inl rfl) e
 | ext φ => obtain ⟨p, ⟨o, e⟩, st⟩ := x; exact ⟨st _ _ p λ o q => k _ _ (.inl rfl) q, ⟨o, k _ _ (.inl rfl) e⟩, st⟩
theorem Ų.lt (x : Ų P w H h) (e : H a = some o) : a < h.objs.size := (x a o e).lt
theorem Ų.fresh (x : Ų P w H h) (e : h.objs.size <= a) : H a = none := by
 cases q : H a with
 | none => rfl
 | some u => exact absurd (Û (x.lt q) e) (Ă _)
theorem Ų.kept (x : Ų P w H h) (k : ∀ b u, h.get? b = some u -> h'.get? b = some u) : Ų P w H h' := λ a o e =>
 (x a o e).m_ (λ b u _ q => k b u q) (λ _ q => q) λ _ _ q => q
theorem Ų.laid (x : Ų P w H h) (k : ∀ b u, h.get? b = some u -> h'.get? b = some u) (hp : h.objs.size <= a) (new : ù P w (ak H a o) h' a o) : Ų P w (ak H a o) h' := λ b u e => by
 have hn := x.fresh hp;by_cases hb : b = a
 ·subst hb; rw [aQ] at e; cases e; exact new
 ·rw [ag hb] at e;exact (x b u e).m_ (λ c v _ q => k c v q) (λ c q => by rw [ag (aN q hn)]; exact q) λ c xs q => by rw [ag (aN q hn)]; exact q
end
def Rd (H : Hp) (a : Addr) (u : HO) : Prop := H a = some u \/ ∃ o, H a = some (.f_ o u)
theorem Rd.ok {P : Program} {w : World} {H : Hp} {h : Heap} {a : Addr} {u : HO} (r : Rd H a u) (x : Ų P w H h) : ù P w H h a u := by
 rcases r with r | ⟨o, r⟩
 ·exact x a u r
 ·obtain ⟨_, q⟩ := x a _ r;exact q
def AG : Option HO -> Prop
 | some (.lst _) => True
 | some (.dK _) => True
 | some (.dT _) => True
 | some (.set _ _) => True
 | some (.ins _ _ _) => True
 | some (.ext _) => True
 | _ => False
section
variable {P : Program} {w : World} {H : Hp} {h h' : Heap} {x e : Addr} {o' : HO}
theorem Ų.write (ok : Ų P w H h) (mu : AG (H x)) (he : e = x \/ H e = some (.own x)) (k : ∀ b u, b ≠ e -> h.get? b = some u -> h'.get? b = some u) (M' : ∃ u, h'.get? e = some u)
  (new : ù P w (ak H x o') h' x o') : Ų P w (ak H x o') h' := λ b u q => by
 have NE : ∀ c y, H c = some (.own y) -> c ≠ x := λ c y r z => by subst z; rw [r] at mu; exact mu
 have Pf : ∀ c xs, H c = some (.tup xs) -> c ≠ x := λ c xs r z => by subst z; rw [r] at mu; exact mu
 by_cases hb : b = x
 ·subst hb; rw [aQ] at q; cases q; exact new
 ·rw [ag hb] at q;by_cases MP : b = e
  ·have q' : H b = some (.own x) := by
    rcases he with z | z
    ·exact absurd (MP.trans z) hb
    ·rw [MP]; exact z
   rw [q] at q'; cases q';obtain ⟨v, hv⟩ := M';exact ⟨v, by rw [MP]; exact hv⟩
  ·refine (ok b u q).m_ (λ c v hc r => k c v ?_ r) (λ c r => by rw [ag (NE c b r)]; exact r) λ c xs r => by rw [ag (Pf c xs r)]; exact r
   rcases hc with rfl | hc
   ·exact MP
   ·rintro rfl;rcases he with z | z
    ·exact NE c b hc z
    ·rw [hc] at z; cases z; exact hb rfl
end
structure Un (fs ex : List Addr) (H H' : Hp) (h h' : Heap) : Prop where
 keep : ∀ b o, h.get? b = some o -> H b = none -> b ∉ fs -> b ∉ ex -> h'.get? b = some o
 slot : ∀ b o, h.get? b = some o -> H b = none -> b ∈ fs -> b ∉ ex -> ∃ sl, h'.get? b = some { o with slots := sl }
 free : ∀ b o, h.get? b = some o -> H b = none -> b ∉ ex -> H' b = none
 there : ∀ b o, h.get? b = some o -> b ∉ ex -> ∃ o', h'.get? b = some o'
 G_ : ∀ b xs, H b = some (.tup xs) -> H' b = some (.tup xs)
 y_ : ∀ b o u, H b = some (.f_ o u) -> H' b = some (.f_ o u)
 HU : ∀ b ps, H b = some (.Ml ps) -> ∃ more, H' b = some (.Ml (ps ++ more))
 sys : H sysModules = none -> H' sysModules = none
section
variable {fs We ex Qr : List Addr} {H H1 H2 : Hp} {h h1 h2 h' : Heap} {a x e : Addr} {o : HO}
theorem Un.any (u : Un fs ex H H1 h h1) {b : Addr} {ob : Obj} (q : h.get? b = some ob) (n : H b = none) (hx : b ∉ ex) : ∃ sl, h1.get? b = some { ob with slots := sl } := by
 by_cases hb : b ∈ fs
 ·exact u.slot b ob q n hb hx
 ·exact ⟨ob.slots, u.keep b ob q n hb hx⟩
theorem Un.kept (k : ∀ b u, h.get? b = some u -> h'.get? b = some u) : Un fs ex H H h h' :=
 ⟨λ b ob q _ _ _ => k b ob q, λ b ob q _ _ _ => ⟨ob.slots, k b ob q⟩, λ _ _ _ n _ => n, λ b ob q _ => ⟨ob, k b ob q⟩, λ _ _ q => q, λ _ _ _ q => q, λ _ ps q => ⟨#[], by rw [q]; simp⟩, λ q => q⟩
theorem Un.refl : Un fs ex H H h h := Un.kept λ _ _ q => q
theorem Un.laid (k : ∀ b u, h.get? b = some u -> h'.get? b = some u) (hp : h.objs.size <= a) (hn : H a = none) (hz : sysModules < h.objs.size) : Un fs ex H (ak H a o) h h' where
 sys := λ q => by rw [ag (Í (Û hz hp))]; exact q
 keep := λ b u q _ _ _ => k b u q
 slot := λ b u q _ _ _ => ⟨u.slots, k b u q⟩
 free := λ b u q n _ => by rw [ag (Í (Û (Æ q) hp))]; exact n
 there := λ b u q _ => ⟨u, k b u q⟩
 G_ := λ b xs q => by rw [ag (aN q hn)]; exact q
 y_ := λ b u xs q => by rw [ag (aN q hn)]; exact q
 HU := λ b ps q => ⟨#[], by rw [ag (aN q hn), q]; simp⟩
theorem Un.write (mu : AG (H x)) (he : e = x \/ H e = some (.own x)) (k : ∀ b u, b ≠ e -> h.get? b = some u -> h'.get? b = some u) (M' : ∃ u, h'.get? e = some u) : Un fs ex H (ak H x o) h h' := by
 have hx : ∀ b, H b = none -> b ≠ x := λ b n z => by subst z; rw [n] at mu; exact mu
 have hb : ∀ b, H b = none -> b ≠ e := λ b n z => by
  subst z;rcases he with r | r
  ·exact hx b n r
  ·rw [n] at r; cases r
 have hm : ∀ b u, H b = some u -> ¬ AG (some u) -> b ≠ x := λ b u q nm z => by subst z; rw [q] at mu; exact nm mu
 refine ⟨λ b u q n _ _ => k b u (hb b n) q, λ b u q n _ _ => ⟨u.slots, k b u (hb b n) q⟩, λ b u q n _ => by rw [ag (hx b n)]; exact n, λ b u q _ => ?_,
  λ b xs q => by rw [ag (hm b _ q λ z => z)]; exact q, λ b u xs q => by rw [ag (hm b _ q λ z => z)]; exact q, λ b ps q => ⟨#[], by rw [ag (hm b _ q λ z => z), q]; simp⟩, λ q => by rw [ag (hx _ q)]; exact q⟩
 by_cases MP : b = e
 ·subst MP; exact M'
 ·exact ⟨u, k b u MP q⟩
end
def DY (h : Heap) (H : Hp) : List Addr := (List.range h.objs.size).filter λ a => (H a).isSome
def j7 (h : Heap) (H : Hp) : Heap := PySem.W.hideAll h (DY h H)
theorem qK (h : Heap) (H : Hp) : (j7 h H).objs.size = h.objs.size := PySem.W.hideAll_size _ _
theorem u7 {h : Heap} {H : Hp} {b : Addr} {o : Obj} (e : h.get? b = some o) (n : H b = none) : (j7 h H).get? b = some o :=
 PySem.W.hideAll_get _ e λ hm => by
  have q : (H b).isSome = true := (Ġ.mp hm).2;rw [n] at q; simp at q
theorem xm {h : Heap} {H : Hp} {b : Addr} {o : Obj} (e : (j7 h H).get? b = some o) : h.get? b = some o /\ H b = none := by
 have e' : h.get? b = some o := PySem.W.of_hideAll (DY h H) e;refine ⟨e', ?_⟩;cases q : H b with
 | none => rfl
 | some x =>
  have hm : b ∈ DY h H := Ġ.mpr ⟨ĥ.mpr (Æ e'), by simp [q]⟩
  have z : (j7 h H).get? b = none := PySem.W.hideAll_none (DY h H) hm;rw [z] at e; cases e
def vo (g h : Heap) (L : Addr) : List (Addr × Obj) := (List.range h.objs.size).filterMap λ a => if a = L \/ (g.get? a).isSome = true then none else (h.get? a).map λ o => (a, o)
def rest (g h : Heap) (L d : Addr) : List (Addr × Obj) := (vo g h L).filter λ p => decide (p.1 ≠ d)
structure Mod (K : PySem.W.Frag) (mg : bu) (base : Heap) : Prop where
 M7 : K.In base
 glob : base.Ns mainGlobals mg
 blt : ∃ mb, base.Ns builtinsNs mb /\ ∀ x : Str, x ≠ "__name__" -> mb x = bootBuiltins x
 nolimit : base.NoLimit
structure Cx where
 prog : Program
 w : World
 K : PySem.W.Frag
 mg : Str -> Option Value
 base : Heap
 A : Around
 N : List Str
 ŏ : Shared
 Ju : Hp
 env : Env
 outer : List Env
 stack : List Env
 ex : List Addr
 fn : Str -> Bool
 calm : Bool
 pn : List (Addr × Obj)
 xe : Value -> Shared -> Prop
def jp (l : List Env) : List Addr := l.filterMap (·.frame)
abbrev Cx.fs (X : Cx) : List Addr := jp X.outer
def AV (sc : Scope) (x : Str) : Prop := sc.names.lookup x = some .local \/ sc.names.lookup x = some .cell \/ sc.names.lookup x = some .free
def AL (sc : Scope) (x : Str) : Prop := sc.names.lookup x = some .local \/ sc.names.lookup x = some .cell
def EA (env : Env) (h : Heap) (m : bu) (x : Str) (u : Value) : Prop :=
 (env.kindOf x = some .local /\ m x = some u) \/ ((env.kindOf x = some .cell \/ env.kindOf x = some .free) /\ ∃ c, env.cells.lookup x = some c /\ h.IsCell c (some u))
structure Cx.Ok (X : Cx) : Prop where
 mod : Mod X.K X.mg X.base
 kind : X.env.scope.kind = .function
 glob : X.env.globals = mainGlobals
 blt : X.env.builtins = builtinsNs
 above : X.ŏ.heap.objs.size <= X.env.locals
 inj : ∀ x y c, X.env.cells.lookup x = some c -> X.env.cells.lookup y = some c -> x = y
 has : ∀ x, (X.env.kindOf x = some .cell \/ X.env.kindOf x = some .free) -> ∃ c, X.env.cells.lookup x = some c
 L5 : ∀ x c, X.fn x = true -> X.env.cells.lookup x = some c -> X.ŏ.heap.objs.size <= c
 hd : X.calm = true -> X.A.handled = none
 frames : X.A.frames = some X.stack
 Mn : X.stack = X.outer \/ (X.stack = X.env :: X.outer /\ X.env.frame = some X.env.locals)
 N6 : ∀ b ∈ X.ex, b ≠ X.env.locals /\ ∀ x c, X.env.cells.lookup x = some c -> c ≠ b
 bs : ∀ b o, X.base.get? b = some o -> X.ŏ.heap.get? b = some o /\ X.Ju b = none
 JD : X.base.objs.size <= X.ŏ.heap.objs.size
 IF : ∀ b o, X.base.get? b = some o -> b ∉ X.ex
 Js : ∀ b ∈ X.ex, b ∉ X.fs
 ξ : X.ŏ.heap.FunFrames X.base X.outer
 KY : ∀ b ∈ X.fs, X.Ju b = none
structure Inv (X : Cx) (pins : List (Addr × Obj)) (σ : List (Option V)) (H : Hp) (s : Shared) : Prop where
 ok : X.Ok
 os : s.os = X.ŏ.os
 bare : AllBare s.gens
 base : Un X.fs X.ex X.Ju H X.ŏ.heap s.heap
 loc : ∃ m, s.heap.Ns X.env.locals m /\ ∀ (i : Nat) (x : Str) (v : V), X.N[i]? = some x -> σ[i]? = some (some v) -> AV X.env.scope x -> ∃ u, RelV v u /\ EA X.env s.heap m x u
 cell : ∀ x c, X.env.cells.lookup x = some c -> ∃ v, s.heap.IsCell c v
 free : H X.env.locals = none
 Ř : ∀ x c, X.env.cells.lookup x = some c -> H c = none
 pin : ∀ p ∈ X.pn ++ pins, s.heap.get? p.1 = some p.2 /\ H p.1 = none /\ p.1 ≠ X.env.locals /\ p.1 ∉ X.fs /\ ∀ v, p.2.data ≠ .cell v
 Ą : Ų X.prog X.w H s.heap
 len : σ.length = X.N.length
section
variable {X : Cx} {pins : List (Addr × Obj)} {σ : List (Option V)} {H H' : Hp} {s : Shared} {h' : Heap}
theorem Cx.Ok.Pi (ok : X.Ok) {b : Addr} {o : Obj} (e : X.base.get? b = some o) : b ∉ X.fs := λ hb => by
 have := (ok.ξ.mem hb).1;rw [e] at this; cases this
theorem Inv.bs (I : Inv X pins σ H s) : ∀ b o, X.base.get? b = some o -> s.heap.get? b = some o /\ H b = none := λ b o e =>
 ⟨I.base.keep b o (I.ok.bs b o e).1 (I.ok.bs b o e).2 (I.ok.Pi e) (I.ok.IF b o e), I.base.free b o (I.ok.bs b o e).1 (I.ok.bs b o e).2 (I.ok.IF b o e)⟩
theorem Inv.bk (I : Inv X pins σ H s) : ∀ b o, X.base.get? b = some o -> s.heap.get? b = some o := λ b o e => (I.bs b o e).1
theorem Inv.mod (I : Inv X pins σ H s) : Mod X.K X.mg X.base := I.ok.mod
theorem Inv.Ε (I : Inv X pins σ H s) : X.K.In s.heap := I.ok.mod.M7.keeps I.bk
theorem Inv.lt (I : Inv X pins σ H s) : X.env.locals < s.heap.objs.size := let ⟨_, hn, _⟩ := I.loc; hn.lt
theorem Inv.sz (I : Inv X pins σ H s) : X.ŏ.heap.objs.size <= s.heap.objs.size := Ò I.ok.above (Mb I.lt)
theorem Inv.Ph (I : Inv X pins σ H s) {a : Addr} (h : s.heap.objs.size <= a) : a ∉ X.fs := λ hb => by
 obtain ⟨_, o, ho, _⟩ := I.ok.ξ.mem hb;exact absurd (Û (Æ ho) (Ò I.sz h)) (Ă _)
theorem Inv.KH (I : Inv X pins σ H s) : ∀ x c, X.env.cells.lookup x = some c -> c ≠ X.env.locals := λ x c e z => by
 obtain ⟨v, o, ho, hd⟩ := I.cell x c e;obtain ⟨m, ⟨o', es, ep, MI, OC, _⟩, _⟩ := I.loc;rw [z, MI] at ho; cases ho; rw [OC] at hd; cases hd
theorem Inv.ξ (I : Inv X pins σ H s) : s.heap.FunFrames X.base X.outer := by
 have all : ∀ (l : List Env), (∀ b ∈ jp l, b ∈ X.fs) -> X.ŏ.heap.FunFrames X.base l -> s.heap.FunFrames X.base l := by
  intro l
  induction l with
  | nil => intro _ _; trivial
  | cons env r ih =>
   intro hs hl;obtain ⟨hk, ⟨L, o, hf, hn, ho, hd⟩, hr⟩ := hl;have hL : L ∈ X.fs := hs L (by unfold jp; rw [Ip, hf]; exact Ù)
   obtain ⟨sl, e⟩ := I.base.slot L o ho (I.ok.KY L hL) hL λ z => I.ok.Js L z hL;exact ⟨hk, ⟨L, _, hf, hn, e, hd⟩, ih (λ b hb => hs b (by unfold jp; rw [Ip, hf]; exact Ó _ hb)) hr⟩
 exact all X.outer (λ _ hb => hb) I.ok.ξ
theorem Inv.stack (I : Inv X pins σ H s) : s.heap.FunFrames X.base X.stack := by
 rcases I.ok.Mn with e | ⟨e, hf⟩
 ·rw [e]; exact I.ξ
 ·rw [e];obtain ⟨m, hn, _⟩ := I.loc;refine .cons (by rw [I.ok.kind]; decide) hf hn ?_ I.ξ
  exact Heap.get?_none_of_le (Ò I.ok.JD I.ok.above)
theorem Inv.Ū (I : Inv X pins σ H s) : ∀ b ∈ jp X.stack, b ∈ X.env.locals :: X.fs := λ b hb => by
 rcases I.ok.Mn with e | ⟨e, hf⟩
 ·rw [e] at hb; exact Ó _ hb
 ·rw [e] at hb;unfold jp at hb;rw [Ip, hf] at hb;exact hb
theorem Inv.A_ (I : Inv X pins σ H s) : ∀ b ∈ jp X.stack, H b = none := λ b hb => by
 rcases Ñ.mp (I.Ū b hb) with e | hb
 ·rw [e]; exact I.free
 ·obtain ⟨_, o, ho, _⟩ := I.ok.ξ.mem hb;exact I.base.free b o ho (I.ok.KY b hb) λ z => I.ok.Js b z hb
theorem Inv.step {g' : Array GenState} {t' : Nat} {d' : Drawn} {ch : List Addr} (I : Inv X pins σ H s)
  (KS : ∀ b ∈ ch, (b ∈ X.ex \/ X.ŏ.heap.objs.size <= b) /\ b ≠ X.env.locals /\ (∀ x c, X.env.cells.lookup x = some c -> c ≠ b) /\ ∀ p ∈ X.pn ++ pins, p.1 ≠ b)
  (keep : ∀ b o, b ≠ X.env.locals -> b ∉ X.fs -> b ∉ ch -> s.heap.get? b = some o -> H b = none -> h'.get? b = some o)
  (slot : ∀ b o, b ≠ X.env.locals -> b ∈ X.fs -> b ∉ ch -> s.heap.get? b = some o -> H b = none -> ∃ sl, h'.get? b = some { o with slots := sl }) (free : ∀ b o, b ∉ ch -> s.heap.get? b = some o -> H b = none -> H' b = none)
  (there : ∀ b o, b ∉ ch -> s.heap.get? b = some o -> ∃ o', h'.get? b = some o')
  (G_ : ∀ b xs, H b = some (.tup xs) -> H' b = some (.tup xs)) (y_ : ∀ b o u, H b = some (.f_ o u) -> H' b = some (.f_ o u)) (HU : ∀ b ps, H b = some (.Ml ps) -> ∃ more, H' b = some (.Ml (ps ++ more))) (sys : H sysModules = none -> H' sysModules = none)
  (ns : ∀ m, s.heap.Ns X.env.locals m -> h'.Ns X.env.locals m) (Ą : Ų X.prog X.w H' h') (hg : AllBare g') :
  Inv X pins σ H' { s with heap := h', gens := g', drawn := d', toks := t' } := by
 have Rx : ∀ b o, X.ŏ.heap.get? b = some o -> b ≠ X.env.locals := λ b o e => Í (Û (Æ e) I.ok.above);have Os : ∀ b o, X.ŏ.heap.get? b = some o -> b ∉ X.ex -> b ∉ ch := λ b o e hx hb => by
  rcases (KS b hb).1 with z | z
  ·exact hx z
  ·exact absurd (Û (Æ e) z) (Ă _)
 have cellK : ∀ x c, X.env.cells.lookup x = some c -> ∀ v, s.heap.IsCell c v -> h'.IsCell c v := λ x c e v ⟨o, ho, hd⟩ => by
  have Kk : c ∉ ch := λ z => (KS c z).2.2.1 x c e rfl;by_cases hc : c ∈ X.fs
  ·obtain ⟨sl, q⟩ := slot c o (I.KH x c e) hc Kk ho (I.Ř x c e);exact ⟨_, q, hd⟩
  ·exact ⟨o, keep c o (I.KH x c e) hc Kk ho (I.Ř x c e), hd⟩
 refine ⟨I.ok, I.os, hg, ⟨λ b o e n hb hx => ?_, λ b o e n hb hx => ?_, λ b o e n hx => ?_, λ b o e hx => ?_, λ b xs e => G_ b xs (I.base.G_ b xs e), λ b o xs e => y_ b o xs (I.base.y_ b o xs e), λ b ps e => ?_, λ q => sys (I.base.sys q)⟩, ?_, λ x c e => ?_, ?_, λ x c e => ?_, λ p hp => ?_, Ą, I.len⟩
 ·exact keep b o (Rx b o e) hb (Os b o e hx) (I.base.keep b o e n hb hx) (I.base.free b o e n hx)
 ·obtain ⟨sl, e1⟩ := I.base.slot b o e n hb hx;obtain ⟨O1, e2⟩ := slot b _ (Rx b o e) hb (Os b o e hx) e1 (I.base.free b o e n hx);exact ⟨O1, e2⟩
 ·obtain ⟨o', e1⟩ := I.base.there b o e hx;exact free b o' (Os b o e hx) e1 (I.base.free b o e n hx)
 ·obtain ⟨o', e1⟩ := I.base.there b o e hx;exact there b o' (Os b o e hx) e1
 ·obtain ⟨m1, e1⟩ := I.base.HU b ps e;obtain ⟨m2, e2⟩ := HU b _ e1;exact ⟨m1 ++ m2, by rw [e2, Array.append_assoc]⟩
 ·obtain ⟨m, hn, hl⟩ := I.loc;refine ⟨m, ns m hn, λ i x v e1 e2 e3 => ?_⟩;obtain ⟨u, r, l⟩ := hl i x v e1 e2 e3;refine ⟨u, r, ?_⟩;rcases l with l | ⟨k, c, e, z⟩
  ·exact .inl l
  ·exact .inr ⟨k, c, e, cellK x c e _ z⟩
 ·obtain ⟨v, z⟩ := I.cell x c e;exact ⟨v, cellK x c e v z⟩
 ·obtain ⟨m, ⟨o, _, _, ho, _⟩, _⟩ := I.loc;exact free _ o (λ z => (KS _ z).2.1 rfl) ho I.free
 ·obtain ⟨v, o, ho, hd⟩ := I.cell x c e;exact free c o (λ z => (KS c z).2.2.1 x c e rfl) ho (I.Ř x c e)
 ·obtain ⟨e, n, ne, nf, d⟩ := I.pin p hp;have Kk : p.1 ∉ ch := λ z => (KS p.1 z).2.2.2 p hp rfl;exact ⟨keep p.1 p.2 ne nf Kk e n, free p.1 p.2 Kk e n, ne, nf, d⟩
theorem Inv.un {t' : Nat} (I : Inv X pins σ H s) (u : Un X.fs [] H H' s.heap h') (Ą : Ų X.prog X.w H' h') : Inv X pins σ H' { s with heap := h', toks := t' } := by
 obtain ⟨m, ⟨o, es, ep, ho, r⟩, _⟩ := id I.loc;obtain ⟨sl, hL⟩ := u.any ho I.free (by simp)
 exact I.step (g' := s.gens) (d' := s.drawn) (ch := []) (λ _ z => nomatch z) (λ b o _ hb _ e n => u.keep b o e n hb (by simp)) (λ b o _ hb _ e n => u.slot b o e n hb (by simp)) (λ b o _ e n => u.free b o e n (by simp)) (λ b o _ e => u.there b o e (by simp)) u.G_ u.y_ u.HU u.sys (λ m' hm => by
  obtain ⟨o', OH, OI, MI, r'⟩ := hm;rw [ho] at MI; cases MI;exact ⟨_, OH, OI, hL, r'⟩) Ą I.bare
theorem Inv.call {g' : Array GenState} {t' : Nat} {d' : Drawn} {ch : List Addr} (I : Inv X pins σ H s) (u : Un (jp X.stack) ch H H' s.heap h') (Ą : Ų X.prog X.w H' h') (hg : AllBare g')
  (KS : ∀ b ∈ ch, (b ∈ X.ex \/ X.ŏ.heap.objs.size <= b) /\ b ≠ X.env.locals /\ (∀ x c, X.env.cells.lookup x = some c -> c ≠ b) /\ ∀ p ∈ X.pn ++ pins, p.1 ≠ b) :
  Inv X pins σ H' { s with heap := h', gens := g', drawn := d', toks := t' } := by
 obtain ⟨m, ⟨o, es, ep, ho, r⟩, _⟩ := id I.loc;obtain ⟨sl, hL⟩ := u.any ho I.free λ z => (KS _ z).2.1 rfl;exact I.step (ch := ch) KS (λ b o hL hb hc e n => u.keep b o e n (λ z => (Ñ.mp (I.Ū b z)).elim hL hb) hc) (λ b o _ _ hc e n => u.any e n hc) (λ b o hc e n => u.free b o e n hc) (λ b o hc e => u.there b o e hc) u.G_ u.y_ u.HU u.sys (λ m' hm => by
  obtain ⟨o', OH, OI, MI, r'⟩ := hm;rw [ho] at MI; cases MI;exact ⟨_, OH, OI, hL, r'⟩) Ą hg
theorem Inv.turned {t' : Nat} {it : Addr} (I : Inv X pins σ H s) (k : ∀ b o, b ≠ it -> s.heap.get? b = some o -> h'.get? b = some o) (hn : H it = none) (hL : it ≠ X.env.locals)
  (h1 : it ∈ X.ex \/ X.ŏ.heap.objs.size <= it) (h2 : ∀ x c, X.env.cells.lookup x = some c -> c ≠ it) (h3 : ∀ p ∈ X.pn ++ pins, p.1 ≠ it) : Inv X pins σ H { s with heap := h', toks := t' } := by
 have Ru : ∀ b u, H b = some u -> b ≠ it := λ b u e z => by rw [z, hn] at e; cases e
 refine I.step (g' := s.gens) (d' := s.drawn) (ch := [it]) (λ b hb => ?_) (λ b o _ _ hc e _ => k b o (λ z => hc (by simp [z])) e) (λ b o _ _ hc e _ => ⟨o.slots, k b o (λ z => hc (by simp [z])) e⟩) (λ _ _ _ _ n => n)
  (λ b o hc e => ⟨o, k b o (λ z => hc (by simp [z])) e⟩) (λ _ _ e => e) (λ _ _ _ e => e) (λ b ps e => ⟨#[], by rw [e]; simp⟩) (λ q => q) (λ m hm => ?_) (λ b u e => ?_) I.bare
 ·have e : b = it := by simpa using hb
  subst e;exact ⟨h1, hL, h2, h3⟩
 ·obtain ⟨o, es, ep, ho, r⟩ := hm;exact ⟨o, es, ep, k _ o (Ne.symm hL) ho, r⟩
 ·refine (I.Ą b u e).m_ (λ c v hc q => k c v ?_ q) (λ _ q => q) λ _ _ q => q;rcases hc with z | z
  ·rw [z]; exact Ru b u e
  ·exact Ru c _ z
theorem Inv.tok (I : Inv X pins σ H s) (t : Nat) : Inv X pins σ H { s with toks := t } := I.un (h' := s.heap) (t' := t) Un.refl I.Ą
theorem Inv.kept {t' : Nat} (I : Inv X pins σ H s) (k : ∀ b u, s.heap.get? b = some u -> h'.get? b = some u) : Inv X pins σ H { s with heap := h', toks := t' } := I.un (Un.kept k) (I.Ą.kept k)
theorem Inv.laid {a : Addr} {o : HO} {t' : Nat} (I : Inv X pins σ H s) (k : ∀ b u, s.heap.get? b = some u -> h'.get? b = some u) (hp : s.heap.objs.size <= a) (new : ù X.prog X.w (ak H a o) h' a o) :
  Inv X pins σ (ak H a o) { s with heap := h', toks := t' } := I.un (Un.laid k hp (I.Ą.fresh hp) (ŉ (by decide : sysModules < mainGlobals) (I.mod.glob.keeps I.bk).lt)) (I.Ą.laid k hp new)
theorem Inv.write {x e : Addr} {o : HO} {t' : Nat} (I : Inv X pins σ H s) (mu : AG (H x)) (he : e = x \/ H e = some (.own x)) (k : ∀ b u, b ≠ e -> s.heap.get? b = some u -> h'.get? b = some u) (M' : ∃ u, h'.get? e = some u)
  (new : ù X.prog X.w (ak H x o) h' x o) : Inv X pins σ (ak H x o) { s with heap := h', toks := t' } := I.un (Un.write mu he k M') (I.Ą.write mu he k M' new)
theorem Inv.Jz {IC : List (Addr × Obj)} (I : Inv X pins σ H s) (h : ∀ p ∈ IC, s.heap.get? p.1 = some p.2 /\ H p.1 = none /\ p.1 ≠ X.env.locals /\ p.1 ∉ X.fs /\ ∀ v, p.2.data ≠ .cell v) : Inv X IC σ H s :=
 ⟨I.ok, I.os, I.bare, I.base, I.loc, I.cell, I.free, I.Ř, λ p hp => (Ŗ.mp hp).elim (λ z => I.pin p (D_ _ z)) (h p), I.Ą, I.len⟩
theorem iO {N : List Str} (hN : N.Nodup) {i j : Nat} {x : Str} (a : N[i]? = some x) (b : N[j]? = some x) : i = j := by
 obtain ⟨h1, e1⟩ := Ö.mp a;obtain ⟨h2, e2⟩ := Ö.mp b;exact (List.getElem_inj hN).mp (e1.trans e2.symm)
theorem jE {M : Model} {A : Around} {E : bo} {i : Nat} {x : Str} {v : V} {u : Value} {Q : Unit -> Shared -> Prop} (I : Inv X pins σ H s) (hN : X.N.Nodup) (hi : X.N[i]? = some x) (hx : AL X.env.scope x) (r : RelV v u)
  (h : ∀ s', Inv X pins (σ.set i (some v)) H s' -> (∃ a, Heap.SameBut a s.heap s'.heap /\ (a = X.env.locals \/ X.env.cells.lookup x = some a)) -> Q () s') (hf : X.fn x = true \/ X.env.scope.names.lookup x = some .local := by first | exact .inl rfl | exact .inr rfl | assumption) : wpAny M A (storeName X.env x u) Q E s := by
 obtain ⟨m, hn, hl⟩ := id I.loc;have MO : (X.env.scope.kind == .class || (X.env.scope.kind == .module && X.env.locals != X.env.globals)) = false := by rw [I.ok.kind]; rfl
 have JU : i < σ.length := by rw [I.len]; exact (Ö.mp hi).1
 have KH := I.KH;have tracked : ∀ {a : Addr} {h' : Heap}, (∃ o, s.heap.get? a = some o /\ H a = none) -> Heap.SameBut a s.heap h' -> Ų X.prog X.w H h' := λ {a h'} ha hs b ob e => by
  obtain ⟨_, _, LV⟩ := ha;refine (I.Ą b ob e).m_ (λ c w' hc q => (hs.2 c ?_).trans q) (λ _ q => q) λ _ _ q => q;rintro rfl;rcases hc with rfl | hc
  ·rw [LV] at e; cases e
  ·rw [LV] at hc; cases hc
 rcases hx with hk | hk
 ·refine wpAny_storeName_local hk hn (λ h' LS hs => ?_) MO;obtain ⟨oL, _, _, RK, _⟩ := id hn;refine h _ ⟨I.ok, I.os, I.bare, ⟨λ b o e n hb hx => ?_, λ b o e n hb hx => ?_, I.base.free, λ b o e hx => ?_, I.base.G_, I.base.y_, I.base.HU, I.base.sys⟩, ⟨_, LS, λ j y v' e1 e2 e3 => ?_⟩, λ y c e => ?_, I.free, I.Ř, λ p hp => ?_, tracked ⟨oL, RK, I.free⟩ hs, by simpa using I.len⟩ ⟨_, hs, .inl rfl⟩
  ·exact (hs.2 b (Í (Û (Æ e) I.ok.above))).trans (I.base.keep b o e n hb hx)
  ·obtain ⟨sl, e1⟩ := I.base.slot b o e n hb hx;exact ⟨sl, (hs.2 b (Í (Û (Æ e) I.ok.above))).trans e1⟩
  ·obtain ⟨o', e1⟩ := I.base.there b o e hx;exact ⟨o', (hs.2 b (Í (Û (Æ e) I.ok.above))).trans e1⟩
  ·by_cases hj : j = i
   ·subst hj;rw [hi] at e1; cases e1;rw [ŝ JU] at e2;cases e2;exact ⟨u, r, .inl ⟨hk, by simp⟩⟩
   ·rw [E_ (Ne.symm hj)] at e2;obtain ⟨u', r', q⟩ := hl j y v' e1 e2 e3;refine ⟨u', r', ?_⟩;rcases q with ⟨k, e⟩ | ⟨k, c, e, z⟩
    ·refine .inl ⟨k, ?_⟩;have : y ≠ x := λ e => hj (iO hN e1 (e ▸ hi));simp [this, e]
    ·exact .inr ⟨k, c, e, z.sameBut hs (KH y c e)⟩
  ·obtain ⟨w', z⟩ := I.cell y c e;exact ⟨w', z.sameBut hs (KH y c e)⟩
  ·obtain ⟨e, n, ne, nf, d⟩ := I.pin p hp;exact ⟨(hs.2 p.1 ne).trans e, n, ne, nf, d⟩
 ·have Qb : X.fn x = true := by
   rcases hf with z | z
   ·exact z
   ·rw [z] at hk; cases hk
  obtain ⟨c, hc⟩ := I.ok.has x (.inl hk);obtain ⟨w', z⟩ := I.cell x c hc;refine wpAny_storeName_cell I.ok.kind hk hc z (λ h' LZ hs => ?_);obtain ⟨oc, RI, P4⟩ := id z;refine h { s with heap := h' } ⟨I.ok, I.os, I.bare, ⟨λ b o e n hb hx => ?_, λ b o e n hb hx => ?_, I.base.free, λ b o e hx => ?_, I.base.G_, I.base.y_, I.base.HU, I.base.sys⟩, ⟨m, hn.sameBut hs (Ne.symm (KH x c hc)), λ j y v' e1 e2 e3 => ?_⟩, λ y c' e => ?_, I.free, I.Ř, λ p hp => ?_, tracked ⟨oc, RI, I.Ř x c hc⟩ hs, by simpa using I.len⟩ ⟨c, hs, .inr hc⟩
  ·exact (hs.2 b (Í (Û (Æ e) (I.ok.L5 x c Qb hc)))).trans (I.base.keep b o e n hb hx)
  ·obtain ⟨sl, e1⟩ := I.base.slot b o e n hb hx;exact ⟨sl, (hs.2 b (Í (Û (Æ e) (I.ok.L5 x c Qb hc)))).trans e1⟩
  ·obtain ⟨o', e1⟩ := I.base.there b o e hx;exact ⟨o', (hs.2 b (Í (Û (Æ e) (I.ok.L5 x c Qb hc)))).trans e1⟩
  ·by_cases hj : j = i
   ·subst hj;rw [hi] at e1; cases e1;rw [ŝ JU] at e2;cases e2;exact ⟨u, r, .inr ⟨.inl hk, c, hc, LZ⟩⟩
   ·rw [E_ (Ne.symm hj)] at e2;obtain ⟨u', r', q⟩ := hl j y v' e1 e2 e3;refine ⟨u', r', ?_⟩;rcases q with q | ⟨k, c', e, z'⟩
    ·exact .inl q
    ·refine .inr ⟨k, c', e, z'.sameBut hs ?_⟩;rintro rfl;exact hj (iO hN e1 (I.ok.inj _ _ _ e hc ▸ hi))
  ·by_cases OD : c' = c
   ·subst OD; exact ⟨_, LZ⟩
   ·obtain ⟨w2, z2⟩ := I.cell y c' e;exact ⟨w2, z2.sameBut hs OD⟩
  ·obtain ⟨e, n, ne, nf, d⟩ := I.pin p hp;refine ⟨(hs.2 p.1 ?_).trans e, n, ne, nf, d⟩;intro q;rw [q, RI] at e;have q' : oc = p.2 := Ð e;exact d w' (by rw [<- q']; exact P4)
theorem cX {M : Model} {A : Around} {E : bo} {i : Nat} {x : Str} {v : V} {u : Value} {Q : Unit -> Shared -> Prop} (I : Inv X pins σ H s) (hN : X.N.Nodup) (hi : X.N[i]? = some x) (hx : AL X.env.scope x) (r : RelV v u)
  (h : ∀ s', Inv X pins (σ.set i (some v)) H s' -> Q () s') (hf : X.fn x = true \/ X.env.scope.names.lookup x = some .local := by first | exact .inl rfl | exact .inr rfl | assumption) : wpAny M A (storeName X.env x u) Q E s :=
 jE I hN hi hx r (λ s' I' _ => h s' I') hf
theorem Inv.JC {s' : Shared} {ch : List Addr} (I : Inv X pins σ H s) (ho : s'.os = s.os) (u : Un (jp X.stack) ch H H' s.heap s'.heap) (Ą : Ų X.prog X.w H' s'.heap) (hg : AllBare s'.gens)
  (KS : ∀ b ∈ ch, (b ∈ X.ex \/ X.ŏ.heap.objs.size <= b) /\ b ≠ X.env.locals /\ (∀ x c, X.env.cells.lookup x = some c -> c ≠ b) /\ ∀ p ∈ X.pn ++ pins, p.1 ≠ b) : Inv X pins σ H' s' := by
 obtain ⟨h', g', d', t', o'⟩ := s';have e : o' = s.os := ho;subst e;exact I.call (g' := g') (t' := t') (d' := d') u Ą hg KS
end
abbrev XK := Value -> Option Addr -> Hp -> Prop
abbrev St := List (Option V)
abbrev VK := V -> Hp -> Prop
abbrev TE := St -> Hp -> VK -> Prop
abbrev TT := St -> Hp -> (Bool -> Hp -> Prop) -> Prop
abbrev TA := St -> Hp -> (List V -> Hp -> Prop) -> Prop
structure aY where
 nx : St -> Hp -> Prop
 rt : VK
 bk : St -> Hp -> Prop := λ _ _ => False
 ct : St -> Hp -> Prop := λ _ _ => False
abbrev TS := aY -> St -> Hp -> Prop
def EP (X : Cx) (pins : List (Addr × Obj)) (σ : St) (Q : VK) (u : Value) (s' : Shared) : Prop := ∃ v H', Inv X pins σ H' s' /\ RelV v u /\ Q v H'
def TP (X : Cx) (pins : List (Addr × Obj)) (σ : St) (Q : Bool -> Hp -> Prop) (b : Bool) (s' : Shared) : Prop := ∃ H', Inv X pins σ H' s' /\ Q b H'
def AP (X : Cx) (pins : List (Addr × Obj)) (σ : St) (Q : List V -> Hp -> Prop) (us : List Value) (s' : Shared) : Prop := ∃ vs H', Inv X pins σ H' s' /\ Vals vs us /\ Q vs H'
def SP (X : Cx) (pins : List (Addr × Obj)) (D : aY) (f : Flow) (s' : Shared) : Prop :=
 match f with
 | .next => ∃ Ē H', Inv X pins Ē H' s' /\ D.nx Ē H'
 | .brk => ∃ Ē H', Inv X pins Ē H' s' /\ D.bk Ē H'
 | .cont => ∃ Ē H', Inv X pins Ē H' s' /\ D.ct Ē H'
 | .ret u => ∃ v Ē H', Inv X pins Ē H' s' /\ RelV v u /\ D.rt v H'
def PE (X : Cx) (e : Expr) (t : TE) : Prop :=
 ∀ (pins : List (Addr × Obj)) (s : Shared) (σ : St) (H : Hp) (Q : VK), Inv X pins σ H s -> t σ H Q -> wpAny (model X.prog X.w) X.A (eval e X.env) (EP X pins σ Q) X.xe s
def PT (X : Cx) (e : Expr) (t : TT) : Prop :=
 ∀ (pins : List (Addr × Obj)) (s : Shared) (σ : St) (H : Hp) (Q : Bool -> Hp -> Prop), Inv X pins σ H s -> t σ H Q -> wpAny (model X.prog X.w) X.A (isTrue e X.env (eval e X.env)) (TP X pins σ Q) X.xe s
def PW (X : Cx) (e : Expr) (t : TT) : Prop :=
 ∀ (whole : Sem Value) (pins : List (Addr × Obj)) (s : Shared) (σ : St) (H : Hp) (Q : Bool -> Hp -> Prop), Inv X pins σ H s -> t σ H Q -> wpAny (model X.prog X.w) X.A (isTrue e X.env whole) (TP X pins σ Q) X.xe s
theorem PW.pt {X : Cx} {e : Expr} {t : TT} (h : PW X e t) : PT X e t := h _
def PA (X : Cx) (es : List Expr) (t : TA) : Prop :=
 ∀ (pos : Pos) (pins : List (Addr × Obj)) (s : Shared) (σ : St) (H : Hp) (Q : List V -> Hp -> Prop), Inv X pins σ H s -> t σ H Q -> wpAny (model X.prog X.w) X.A (spliced (backTo pos (starEach es X.env))) (AP X pins σ Q) X.xe s
def PS (X : Cx) (st : Stmt) (t : TS) : Prop :=
 ∀ (pins : List (Addr × Obj)) (s : Shared) (σ : St) (H : Hp) (D : aY), Inv X pins σ H s -> t D σ H -> wpAny (model X.prog X.w) X.A (exec st X.env) (SP X pins D) X.xe s
def Ο (X : Cx) (st : List Stmt) (t : TS) : Prop :=
 ∀ (pins : List (Addr × Obj)) (s : Shared) (σ : St) (H : Hp) (D : aY), Inv X pins σ H s -> t D σ H -> wpAny (model X.prog X.w) X.A (execs st X.env) (SP X pins D) X.xe s
theorem aA {α : Type} {t : Sem α} {Q Q' : α -> Shared -> Prop} {M : Model} {A : Around} {E : bo} {s : Shared} (h : wpAny M A t Q E s) (hQ : ∀ a s, Q a s -> Q' a s) : wpAny M A t Q' E s := é h hQ λ _ _ x => x
section
variable {X : Cx}
theorem aV {a b : Expr} {ta tb : TE} (ha : PE X a ta) (hb : PE X b tb) {pins : List (Addr × Obj)} {s : Shared} {σ : St} {H : Hp} {R : V -> V -> Hp -> Prop} (I : Inv X pins σ H s) (h : ta σ H λ x H1 => tb σ H1 λ y H2 => R x y H2)
  {α : Type} {Q : α -> Shared -> Prop} {f : Value -> Value -> Sem α}
  (hf : ∀ v u s2 x y H2, Inv X pins σ H2 s2 -> RelV x v -> RelV y u -> R x y H2 -> wpAny (model X.prog X.w) X.A (f v u) Q X.xe s2) :
  wpAny (model X.prog X.w) X.A (eval a X.env) (λ v ą => wpAny (model X.prog X.w) X.A (eval b X.env) (λ u ũ => wpAny (model X.prog X.w) X.A (f v u) Q X.xe ũ) X.xe ą) X.xe s := by
 refine aA (ha pins s σ H _ I h) λ v s1 ⟨x, H1, I1, r1, q1⟩ => ?_;refine aA (hb pins s1 σ H1 _ I1 q1) λ u s2 ⟨y, H2, I2, r2, q2⟩ => ?_;exact hf v u s2 x y H2 I2 r1 r2 q2
def aq (i : Nat) : TE := λ σ H Q => ∃ v, σ[i]? = some (some v) /\ Q v H
def tC (v : V) : TE := λ _ H Q => Q v H
theorem Az {i : Nat} {x : Str} {pos : Pos} (hN : X.N[i]? = some x) (hv : AV X.env.scope x) (hd : (x == ("__debug__" : Str)) = false := by decide) (JV : (x == ("__classdict__" : Str)) = false := by decide) : PE X (.Name x pos) (aq i) := by
 intro pins s σ H Q I h;obtain ⟨v, e, h⟩ := h;obtain ⟨m, hn, hl⟩ := I.loc;obtain ⟨u, r, l⟩ := hl i x v hN e hv;have fin : EP X pins σ Q u s := ⟨v, H, I, r, h⟩;rcases l with ⟨hk, hm⟩ | ⟨hk, c, hc, LY⟩
 ·exact wpAny_Name (wpAny_loadName_local I.ok.kind hk hn hm fin) hd
 ·rcases hk with hk | hk
  ·exact wpAny_Name (wpAny_loadName_cell I.ok.kind hk hc LY fin) hd
  ·exact wpAny_Name (wpAny_loadName_free I.ok.kind hk hc LY fin JV) hd
theorem aw {i j pos} : PE X (.Constant (.int i) j pos) (tC (.int i)) := λ _ _ _ H _ I h => wpAny_Constant_int ⟨.int i, H, I.tok _, ⟨_, rfl⟩, h⟩
theorem jd {b j pos} : PE X (.Constant (.bool b) j pos) (tC (.bl b)) := λ _ _ _ H _ I h => Constant_bool ⟨.bl b, H, I, rfl, h⟩
theorem nK {j pos} : PE X (.Constant .none j pos) (tC .Ė) := λ _ _ _ H _ I h => Constant_none ⟨.Ė, H, I, rfl, h⟩
theorem c8 {x j pos} : PE X (.Constant (.str x) j pos) (tC (.str x)) := λ _ _ _ H _ I h => Calls.Constant_str ⟨.str x, H, I.tok _, ⟨_, rfl⟩, h⟩
def Gl (X : Cx) (x : Str) : Prop := X.env.kindOf x = some .globalImplicit
theorem dj {E : bo} {pins : List (Addr × Obj)} {s : Shared} {σ : St} {H : Hp} {x : Str} {u : Value} {pos : Pos} {Q : bo} (I : Inv X pins σ H s) (hg : Gl X x) (hm : X.mg x = some u) (h : Q u s)
  (hd : (x == ("__debug__" : Str)) = false := by decide) : wpAny (model X.prog X.w) X.A (eval (.Name x pos) X.env) Q E s :=
 Calls.Name_function_global I.ok.kind hg (Calls.loadGlobal_global (by rw [I.ok.glob]; exact I.mod.glob.keeps I.bk) hm h) hd
theorem fq {E : bo} {pins : List (Addr × Obj)} {s : Shared} {σ : St} {H : Hp} {x : Str} {u : Value} {pos : Pos} {Q : bo} (I : Inv X pins σ H s) (hg : Gl X x) (hm : X.mg x = none) (hv : bootBuiltins x = some u) (h : Q u s)
  (hn : x ≠ "__name__" := by decide) (hd : (x == ("__debug__" : Str)) = false := by decide) : wpAny (model X.prog X.w) X.A (eval (.Name x pos) X.env) Q E s := by
 obtain ⟨mb, h1, h2⟩ := I.mod.blt;exact Calls.Name_function_global I.ok.kind hg (Calls.loadGlobal_builtin (by rw [I.ok.glob]; exact I.mod.glob.keeps I.bk) hm (by rw [I.ok.blt]; exact h1.keeps I.bk) ((h2 x hn).trans hv) h) hd
theorem cG {x : Str} {v : V} {u : Value} {pos : Pos} (hg : Gl X x) (hm : X.mg x = some u) (r : RelV v u) (hd : (x == ("__debug__" : Str)) = false := by decide) : PE X (.Name x pos) (tC v) :=
 λ _ _ _ H _ I h => dj I hg hm ⟨v, H, I, r, h⟩ hd
theorem wD {x : Str} {v : V} {u : Value} {pos : Pos} (hg : Gl X x) (hm : X.mg x = none) (hv : bootBuiltins x = some u) (r : RelV v u) (hn : x ≠ "__name__" := by decide) (hd : (x == ("__debug__" : Str)) = false := by decide) : PE X (.Name x pos) (tC v) :=
 λ _ _ _ H _ I h => fq I hg hm hv ⟨v, H, I, r, h⟩ hn hd
def HI (ta tb : TE) (k : Int -> Int -> Hp -> Prop) : St -> Hp -> Prop := λ σ H => ta σ H λ x H1 => tb σ H1 λ y H2 => ∃ i j, x = .int i /\ y = .int j /\ k i j H2
variable {a b : Expr} {ta tb : TE} {pos : Pos}
def PC (X : Cx) (op : CmpOp) (a b : Expr) (t : TE) : Prop :=
 ∀ (pins : List (Addr × Obj)) (s : Shared) (σ : St) (H : Hp) (Q : VK), Inv X pins σ H s -> t σ H Q ->
  wpAny (model X.prog X.w) X.A (eval a X.env) (λ v ą => wpAny (model X.prog X.w) X.A (eval b X.env) (λ u ũ => wpAny (model X.prog X.w) X.A (compareOp op v u) (EP X pins σ Q) X.xe ũ) X.xe ą) X.xe s
theorem vc (b : Expr) {op : CmpOp} (h : op ≠ .In) (h2 : op ≠ .NotIn) : behindInMarks op b = false := by
 have e1 : (op == CmpOp.In) = false := by cases op <;> first | rfl | exact absurd rfl h
 have e2 : (op == CmpOp.NotIn) = false := by cases op <;> first | rfl | exact absurd rfl h2
 cases b <;> simp [behindInMarks, e1, e2]
def CC (p : Int -> Int -> Bool) (ta tb : TE) : TE := λ σ H Q => HI ta tb (λ i j H2 => Q (.bl (p i j)) H2) σ H
abbrev Go : TE -> TE -> TE := CC λ i j => decide (i <= j)
abbrev GR : TE -> TE -> TE := CC λ i j => decide (j <= i)
def tB (t : TE) : TT := λ σ H Q => t σ H λ x H1 => ∃ c, x = .bl c /\ Q c H1
theorem ES {op : CmpOp} {t : TE} (h : PC X op a b t) (h1 : behindInMarks op b = false := by first | exact vc _ am am | rfl) : PT X (.Compare a [op] [b] pos) (tB t) := by
 intro pins s σ H Q I hw;refine wpAny_isTrue_Compare1 (aA (h pins s σ H _ I hw) λ v s1 h1 => aA h1 λ u s2 h2 => aA h2 λ c s3 ⟨x, H1, I1, r1, q1⟩ => ?_) h1;obtain ⟨d, rfl, q⟩ := q1;cases r1;exact Ō ⟨H1, I1, q⟩
theorem ba {e : Expr} {t : TE} (h : PE X e t) (he : ∀ whole, isTrue e X.env whole = (do let v <- whole; standAt e.pos; holding [v] (truthy v)) := by intro _; rfl) : PT X e (tB t) := by
 intro pins s σ H Q I hw;refine isTrue_plain (aA (h pins s σ H _ I hw) λ v s1 ⟨x, H1, I1, r1, q1⟩ => ?_) (he _);obtain ⟨d, rfl, q⟩ := q1;cases r1;exact Ō ⟨H1, I1, q⟩
variable {tA Oj : TT} {rest : List Expr}
def EK (t u : TT) : TT := λ σ H Q => t σ H λ c H1 => if c = true then u σ H1 Q else Q false H1
def HE (t u : TT) : TT := λ σ H Q => t σ H λ c H1 => if c = true then Q true H1 else u σ H1 Q
def yJ (t : TT) : TT := λ σ H Q => t σ H λ c H1 => Q (!c) H1
theorem wP (ha : PT X a tA) : PW X (.BoolOp .And [a] pos) tA := by
 intro wh pins s σ H Q I h;refine isTrue_and (aA (ha pins s σ H Q I h) λ c s1 e => ?_);cases c with
 | true => exact isTrue_and_nil e
 | false => exact e
theorem gB (ha : PT X a tA) : PW X (.BoolOp .Or [a] pos) tA := by
 intro wh pins s σ H Q I h;refine isTrue_or (aA (ha pins s σ H Q I h) λ c s1 e => ?_);cases c with
 | false => exact isTrue_or_nil e
 | true => exact e
theorem yI (ha : PT X a tA) (hb : PW X (.BoolOp .And (b :: rest) pos) Oj) : PW X (.BoolOp .And (a :: b :: rest) pos) (EK tA Oj) := by
 intro wh pins s σ H Q I h;refine isTrue_and (aA (ha pins s σ H _ I h) λ c s1 ⟨H1, I1, q1⟩ => ?_);cases c with
 | true => exact hb wh pins s1 σ H1 Q I1 q1
 | false => exact ⟨H1, I1, q1⟩
theorem gE (ha : PT X a tA) (hb : PW X (.BoolOp .Or (b :: rest) pos) Oj) : PW X (.BoolOp .Or (a :: b :: rest) pos) (HE tA Oj) := by
 intro wh pins s σ H Q I h;refine isTrue_or (aA (ha pins s σ H _ I h) λ c s1 ⟨H1, I1, q1⟩ => ?_);cases c with
 | true => exact ⟨H1, I1, q1⟩
 | false => exact hb wh pins s1 σ H1 Q I1 q1
theorem bh (ha : PT X a tA) : PT X (.UnaryOp .Not a pos) (yJ tA) := by
 intro pins s σ H Q I h;exact isTrue_not (ha pins s σ H (λ c H1 => Q (!c) H1) I h)
def C3 (ta tb : TE) : TE := λ σ H Q => ta σ H λ x H1 => ∃ c, x = .bl c /\ if c = true then tb σ H1 Q else Q (.bl false) H1
def CP (ta : TE) : TE := λ σ H Q => ta σ H λ x H1 => ∃ c, x = .bl c /\ Q (.bl (!c)) H1
theorem iZ {op} {t : TE} (h : PE X a t) : PE X (.BoolOp op [a] pos) t := λ pins s σ H Q I hw => BoolOp_one (h pins s σ H Q I hw)
theorem fw (ha : PE X a ta) (hb : PE X (.BoolOp .And (b :: rest) pos) tb) : PE X (.BoolOp .And (a :: b :: rest) pos) (C3 ta tb) := by
 intro pins s σ H Q I h;refine BoolOp_and (aA (ha pins s σ H _ I h) λ v s1 ⟨x, H1, I1, r1, q1⟩ => ?_);obtain ⟨c, rfl, q1⟩ := q1;cases r1;refine Ō ?_;cases c with
 | true => exact hb pins s1 σ H1 Q I1 q1
 | false => exact ⟨.bl false, H1, I1, rfl, q1⟩
theorem uA (ha : PE X a ta) : PE X (.UnaryOp .Not a pos) (CP ta) := by
 intro pins s σ H Q I h;refine UnaryOp_ (aA (ha pins s σ H _ I h) λ v s1 ⟨x, H1, I1, r1, q1⟩ => ?_);obtain ⟨c, rfl, q1⟩ := q1;cases r1;exact not_of (Ō ⟨.bl (!c), H1, I1, rfl, q1⟩)
end
def û (K : PySem.W.Frag) (H : Hp) (a : Addr) (xs : List V) : Prop :=
 Rd H a (.lst xs) \/
  ∃ (o : Obj) (its : Array Value) (n : Nat), K.lookup a = some o /\ o.cls = .type "list" /\ o.dict = none /\ o.data = .seq its n /\ its.size <= sizeLine /\ Vals xs its.toList
def ĕ (K : PySem.W.Frag) (H : Hp) (a : Addr) (xs : List V) : Prop :=
 Rd H a (.tup xs) \/
  ∃ (o : Obj) (its : Array Value) (n : Nat), K.lookup a = some o /\ o.cls = .type "tuple" /\ o.data = .seq its n /\ its.size <= sizeLine /\ Vals xs its.toList
def Eo : Value -> Option V
 | .none => some .Ė
 | .bool b => some (.bl b)
 | .int i _ => some (.int i)
 | .str x _ => some (.str x)
 | .bytes b _ => some (.J5 b)
 | .float b _ => some (.MV b)
 | .ref a => some (.ref a)
 | .type n => some (.ty n)
 | _ => none
theorem RelV.abs {x : V} {u : Value} (r : RelV x u) : Eo u = some x := by
 cases x with
 | Ė => cases r; rfl
 | bl _ => cases r; rfl
 | int _ => obtain ⟨t, rfl⟩ := r; rfl
 | str _ => obtain ⟨t, rfl⟩ := r; rfl
 | J5 _ => obtain ⟨t, rfl⟩ := r; rfl
 | MV _ => obtain ⟨t, rfl⟩ := r; rfl
 | ref _ => cases r; rfl
 | ty _ => cases r; rfl
theorem RelV.inj {x y : V} {u : Value} (r : RelV x u) (q : RelV y u) : x = y := Ð (r.abs.symm.trans q.abs)
theorem Vals.inj : ∀ {xs ys : List V} {us : List Value}, Vals xs us -> Vals ys us -> xs = ys
 | _, _, _, .nil, .nil => rfl
 | _, _, _, .cons r t, .cons r' t' => by rw [r.inj r', Vals.inj t t']
section
variable {X : Cx} {pins : List (Addr × Obj)} {σ : St} {H : Hp} {s : Shared} {a : Addr} {xs ys : List V}
theorem û.of {K : PySem.W.Frag} (h : H a = some (.lst xs)) : û K H a xs := .inl (.inl h)
theorem ĕ.of {K : PySem.W.Frag} (h : H a = some (.tup xs)) : ĕ K H a xs := .inl (.inl h)
theorem Inv.list (I : Inv X pins σ H s) (h : û X.K H a xs) : ∃ its : List Value, Vals xs its /\ PlainL s.heap a its.toArray /\ xs.length <= sizeLine := by
 rcases h with h | ⟨o, its, n, hk, hc, hd, hs, hz, r⟩
 ·obtain ⟨z, its, n, r, e⟩ := h.ok I.Ą;exact ⟨its, r, ⟨_, n, e, rfl, rfl, rfl⟩, z⟩
 ·refine ⟨its.toList, r, ⟨o, n, I.Ε a o hk, hc, hd, by simpa using hs⟩, ?_⟩
  have e := r.length;simp only [Array.length_toList] at e;omega
theorem Inv.tuple (I : Inv X pins σ H s) (h : ĕ X.K H a xs) : ∃ its : List Value, Vals xs its /\ IsTup s.heap a its.toArray /\ xs.length <= sizeLine := by
 rcases h with h | ⟨o, its, n, hk, hc, hs, hz, r⟩
 ·obtain ⟨z, its, r, p⟩ := h.ok I.Ą;exact ⟨its, r, p, z⟩
 ·refine ⟨its.toList, r, ⟨o, I.Ε a o hk, hc, n, by simpa using hs⟩, ?_⟩
  have e := r.length;simp only [Array.length_toList] at e;omega
theorem Inv.HW (I : Inv X pins σ H s) (h : û X.K H a xs) (h' : û X.K H a ys) : xs = ys := by
 obtain ⟨its, r, ⟨o, n, e, _, _, d⟩, _⟩ := I.list h;obtain ⟨its', r', ⟨o', n', e', _, _, d'⟩, _⟩ := I.list h';rw [e] at e'; cases e';rw [d] at d';injection d' with d1 _
 have : its = its' := by simpa using congrArg Array.toList d1
 subst this;exact r.inj r'
theorem Inv.Ρ (I : Inv X pins σ H s) (h : ĕ X.K H a xs) (h' : ĕ X.K H a ys) : xs = ys := by
 obtain ⟨its, r, ⟨o, e, _, n, d⟩, _⟩ := I.tuple h;obtain ⟨its', r', ⟨o', e', _, n', d'⟩, _⟩ := I.tuple h';rw [e] at e'; cases e';rw [d] at d';injection d' with d1 _
 have : its = its' := by simpa using congrArg Array.toList d1
 subst this;exact r.inj r'
end
abbrev Cx.Ir (X : Cx) (E : bo) : Cx := { X with xe := E }
abbrev Cx.Ķ (X : Cx) : Cx := X.Ir λ _ _ => False
theorem Cx.Ok.Ir {X : Cx} (ok : X.Ok) (E : bo) : (X.Ir E).Ok :=
 ⟨ok.mod, ok.kind, ok.glob, ok.blt, ok.above, ok.inj, ok.has, ok.L5, ok.hd, ok.frames, ok.Mn, ok.N6, ok.bs, ok.JD, ok.IF, ok.Js, ok.ξ, ok.KY⟩
theorem Cx.Ok.Μ {X : Cx} {E : bo} (ok : (X.Ir E).Ok) : X.Ok :=
 ⟨ok.mod, ok.kind, ok.glob, ok.blt, ok.above, ok.inj, ok.has, ok.L5, ok.hd, ok.frames, ok.Mn, ok.N6, ok.bs, ok.JD, ok.IF, ok.Js, ok.ξ, ok.KY⟩
section
variable {X : Cx} {pins : List (Addr × Obj)} {σ : St} {H : Hp} {s : Shared} {E : bo}
theorem Inv.Ir (I : Inv X pins σ H s) (E : bo) : Inv (X.Ir E) pins σ H s := ⟨I.ok.Ir E, I.os, I.bare, I.base, I.loc, I.cell, I.free, I.Ř, I.pin, I.Ą, I.len⟩
theorem Inv.Μ (I : Inv (X.Ir E) pins σ H s) : Inv X pins σ H s := ⟨I.ok.Μ, I.os, I.bare, I.base, I.loc, I.cell, I.free, I.Ř, I.pin, I.Ą, I.len⟩
theorem SP.Μ {D : aY} {f : Flow} {s' : Shared} (h : SP (X.Ir E) pins D f s') : SP X pins D f s' := by
 cases f with
 | next => obtain ⟨Ē, H', I, q⟩ := h; exact ⟨Ē, H', I.Μ, q⟩
 | brk => obtain ⟨Ē, H', I, q⟩ := h; exact ⟨Ē, H', I.Μ, q⟩
 | cont => obtain ⟨Ē, H', I, q⟩ := h; exact ⟨Ē, H', I.Μ, q⟩
 | ret u => obtain ⟨v, Ē, H', I, r, q⟩ := h; exact ⟨v, Ē, H', I.Μ, r, q⟩
theorem Ο.Ķ {st : List Stmt} {t : TS} (h : Ο X.Ķ st t) : Ο X st t := λ pins s σ H D I hw =>
 é (h pins s σ H D (I.Ir _) hw) (λ _ _ q => q.Μ) λ _ _ z => False.elim z
end
section
variable {X : Cx} {st : Stmt} {rest : List Stmt} {t u : TS} {e : Expr} {te : TE} {pos : Pos}
def iF : TS := λ D σ H => D.nx σ H
def bL (t u : TS) : TS := λ D σ H => t { D with nx := u D } σ H
theorem hV : Ο X [] iF := λ _ _ σ H _ I h => Ţ ⟨σ, H, I, h⟩
theorem cv (h1 : PS X st t) (h2 : Ο X rest u) : Ο X (st :: rest) (bL t u) := by
 intro pins s σ H D I h;refine K1 (aA (h1 pins s σ H { D with nx := u D } I h) λ f s1 q => ?_)
 cases f with
 | next =>
  obtain ⟨Ē, H', I', q⟩ := q;exact h2 pins s1 Ē H' D I' q
 | ret v => exact q
 | brk => exact q
 | cont => exact q
theorem bw (h1 : PS X st t) : Ο X [st] t := by
 intro pins s σ H D I h;refine K1 (aA (h1 pins s σ H D I h) λ f s1 q => ?_);cases f with
 | next => exact Ţ q
 | ret v => exact q
 | brk => exact q
 | cont => exact q
theorem Inv.quiet {pins : List (Addr × Obj)} {σ : St} {H : Hp} {s : Shared} (I : Inv X pins σ H s) : interactive X.env = false := by simp [interactive, I.ok.kind]
def oM (te : TE) : TS := λ D σ H => te σ H λ _ H1 => D.nx σ H1
theorem cr (he : PE X e te) (hs : swapsWith e none pos.line X.env = pure false := by rfl) : PS X (.Expr e pos) (oM te) := by
 intro pins s σ H D I h;exact wpAny_Expr_any (aA (he pins s σ H _ I h) λ v s1 ⟨x, H1, I1, r1, q1⟩ => ⟨σ, H1, I1, q1⟩) I.quiet hs
def bQ (te : TE) : TS := λ D σ H => te σ H D.rt
theorem cq (he : PE X e te) : PS X (.Return (some e) pos) (bQ te) := by
 intro pins s σ H D I h;exact wpAny_Return_some (aA (he pins s σ H _ I h) λ v s1 ⟨x, H1, I1, r1, q1⟩ => ⟨x, σ, H1, I1, r1, q1⟩)
def oq (c : TT) (t u : TS) : TS := λ D σ H => c σ H λ b H1 => if b = true then t D σ H1 else u D σ H1
theorem bp {c : Expr} {a b : List Stmt} {tc : TT} (hc : PT X c tc) (ha : Ο X a t) (hb : Ο X b u) : PS X (.If c a b pos) (oq tc t u) := by
 intro pins s σ H D I h;refine wpAny_If (aA (hc pins s σ H _ I h) λ d s1 ⟨H1, I1, q1⟩ => ?_);cases d with
 | true => exact ha pins s1 σ H1 D I1 q1
 | false => exact hb pins s1 σ H1 D I1 q1
def yA : TS := λ _ _ _ => False
theorem mK : PS X st yA := λ _ _ _ _ _ _ h => h.elim
end
abbrev TG := V -> St -> Hp -> (St -> Hp -> Prop) -> Prop
abbrev vH := List V -> St -> Hp -> (St -> Hp -> Prop) -> Prop
def PG (X : Cx) (target : Expr) (t : TG) : Prop :=
 ∀ (pins : List (Addr × Obj)) (s : Shared) (σ : St) (H : Hp) (v : V) (u : Value) (Q : St -> Hp -> Prop), Inv X pins σ H s -> RelV v u -> t v σ H Q ->
  wpAny (model X.prog X.w) X.A (assign target X.env u) (λ _ s' => ∃ Ē H', Inv X pins Ē H' s' /\ Q Ē H') X.xe s
def DB (X : Cx) (ts : List Expr) (t : vH) : Prop :=
 ∀ (pins : List (Addr × Obj)) (s : Shared) (σ : St) (H : Hp) (vs : List V) (us : List Value) (Q : St -> Hp -> Prop), Inv X pins σ H s -> Vals vs us -> t vs σ H Q ->
  wpAny (model X.prog X.w) X.A (assignInOrder ((assignEach ts X.env).map (·.2)) us) (λ _ s' => ∃ Ē H', Inv X pins Ē H' s' /\ Q Ē H') X.xe s
abbrev zB := V -> V -> V -> Hp -> (Hp -> Prop) -> Prop
def Cu (X : Cx) (t : zB) : Prop :=
 ∀ (pins : List (Addr × Obj)) (s : Shared) (σ : St) (H : Hp) (o i v : V) (ov iv u : Value) (Q : Hp -> Prop), Inv X pins σ H s -> RelV o ov -> RelV i iv -> RelV v u -> t o i v H Q ->
  wpAny (model X.prog X.w) X.A (setItem ov iv u) (λ _ s' => ∃ H', Inv X pins σ H' s' /\ Q H') X.xe s
section
variable {X : Cx} {pos : Pos}
def bf (i : Nat) : TG := λ v σ H Q => Q (σ.set i (some v)) H
theorem bM {i : Nat} {x : Str} (hN : X.N.Nodup) (hi : X.N[i]? = some x) (hx : AL X.env.scope x) (hf : X.fn x = true \/ X.env.scope.names.lookup x = some .local := by first | exact .inl rfl | exact .inr rfl | assumption) : PG X (.Name x pos) (bf i) := by
 intro pins s σ H v u Q I r h;exact wpAny_assign_Name (cX I hN hi hx r (λ s' I' => ⟨_, H, I', h⟩) hf)
def uD : vH := λ vs σ H Q => vs = [] /\ Q σ H
def dL (t : TG) (u : vH) : vH := λ vs σ H Q => ∃ v r, vs = v :: r /\ t v σ H λ Ē H' => u r Ē H' Q
theorem aU : DB X [] uD := by
 intro pins s σ H vs us Q I r h;obtain ⟨e, h⟩ := h;subst e;cases r;exact assignInOrder_nil ⟨σ, H, I, h⟩
theorem dz {e : Expr} {es : List Expr} {t : TG} {u : vH} (h1 : PG X e t) (h2 : DB X es u)
  (hs : (assignEach (e :: es) X.env).map (·.2) = assign e X.env :: (assignEach es X.env).map (·.2) := by rfl) : DB X (e :: es) (dL t u) := by
 intro pins s σ H vs us Q I r h;obtain ⟨v, vr, e1, h⟩ := h;subst e1;cases r with
 | cons r rr =>
  rw [hs];refine assignInOrder_cons (aA (h1 pins s σ H _ _ _ I r h) λ _ s1 ⟨M3, H1, I1, q1⟩ => ?_);exact h2 pins s1 M3 H1 _ _ Q I1 rr q1
def xh (K : PySem.W.Frag) (n : Nat) (t : vH) : TG := λ v σ H Q => ∃ a xs, v = .ref a /\ ĕ K H a xs /\ xs.length = n /\ t xs σ H Q
theorem br {es : List Expr} {k : Nat} {t : vH} {n : Nat} (hc : X.calm = true) (h : DB X es t)
  (hn : (assignEach es X.env).length = n := by rfl) (J4 : (assignEach es X.env).findIdx? (·.1) = none := by rfl) : PG X (.Tuple es k pos) (xh X.K n t) := by
 intro pins s σ H v u Q I r hw;obtain ⟨a, xs, e1, hq, hl, hw⟩ := hw;subst e1;cases r;obtain ⟨its, rv, ht, hz⟩ := I.tuple hq;refine assign_Tuple_tuple (I.ok.hd hc) ht (by simp [hn, <- hl, rv.length]) J4 λ h' hx => ?_
 have I1 : Inv X pins σ H { s with heap := h' } := I.kept (t' := s.toks) λ b o e => hx b o (Í (Æ e)) e
 exact h pins _ σ H xs _ Q I1 (by simpa using rv) hw
def EC (to ti : TE) (t : zB) : TG := λ v σ H Q => to σ H λ o H1 => ti σ H1 λ i H2 => t o i v H2 λ H3 => Q σ H3
theorem rW {o i : Expr} {to ti : TE} {t : zB} (ho : PE X o to) (hi : PE X i ti) (hs : Cu X t)
  (ha : ∀ v, assign (.Subscript o i pos) X.env v = (do
   let ov <- holding [v] (eval o X.env)
   let iv <- holding [v, ov] (eval i X.env)
   standAt pos
   holding [v, ov, iv] (setItem ov iv v)
   release [v, ov, iv] []) := by intro _; rfl) : PG X (.Subscript o i pos) (EC to ti t) := by
 intro pins s σ H v u Q I r h;rw [ha];refine À (ä (aA (ho pins s σ H _ I h) λ ov s1 ⟨x, H1, I1, r1, q1⟩ => ?_));refine À (ä (aA (hi pins s1 σ H1 _ I1 q1) λ iv s2 ⟨y, H2, I2, r2, q2⟩ => ?_));refine À (ī (À (ä (aA (hs pins s2 σ H2 x y v ov iv u _ I2 r1 r2 r q2) λ _ s3 ⟨H3, I3, q3⟩ => ?_))));exact wpAny_release ⟨σ, H3, I3, q3⟩
def cQ (te : TE) (g : TG) : TS := λ D σ H => te σ H λ x H1 => g x σ H1 D.nx
theorem gq {tg e : Expr} {te : TE} {g : TG} (he : PE X e te) (hg : PG X tg g) (hs : swapsWithSole [tg] e pos.line X.env = pure false := by rfl) (hw : swappedStores [tg] e X.env = pure none := by rfl)
  (h1 : (assignEach [tg] X.env).map (·.2) = [assign tg X.env] := by rfl) : PS X (.Assign [tg] e pos) (cQ te g) := by
 intro pins s σ H D I h;refine wpAny_Assign_stores (aA (he pins s σ H _ I h) λ v s1 ⟨x, H1, I1, r1, q1⟩ => ?_) hs hw;rw [h1];exact aA (hg pins s1 σ H1 x v _ I1 r1 q1) λ _ s2 q => q
theorem cM {i : Nat} {x : Str} {e : Expr} {te : TE} {pos' : Pos} (hN : X.N.Nodup) (hi : X.N[i]? = some x) (hx : AL X.env.scope x) (he : PE X e te) (hs : swapsWith e (some (.Name x pos')) pos.line X.env = pure false := by rfl) (hf : X.fn x = true \/ X.env.scope.names.lookup x = some .local := by first | exact .inl rfl | exact .inr rfl | assumption) :
  PS X (.Assign [.Name x pos'] e pos) (cQ te (bf i)) := by
 intro pins s σ H D I h;refine wpAny_Assign_Name (aA (he pins s σ H _ I h) λ v s1 ⟨y, H1, I1, r1, q1⟩ => ?_) hs;exact cX I1 hN hi hx r1 (λ s2 I2 => ⟨_, H1, I2, q1⟩) hf
def Ed (i j : Nat) (ta : TA) : TS := λ D σ H => ta σ H λ vs H1 => ∃ v w, vs = [v, w] /\ D.nx ((σ.set i (some v)).set j (some w)) H1
theorem sM {i j : Nat} {x y : Str} {a b : Expr} {ta : TA} {px py pt : Pos} {kt k2 O7} (hc : X.calm = true) (hN : X.N.Nodup) (hi : X.N[i]? = some x) (hj : X.N[j]? = some y) (Vl : i ≠ j)
  (hx : X.env.scope.names.lookup x = some .local) (hy : X.env.scope.names.lookup y = some .local) (ha : PA X [a, b] ta)
  (hw : swappedStores [.Tuple [.Name x px, .Name y py] kt pt] (.Tuple [a, b] k2 O7) X.env = pure (some [x, y]))
  (hs : swapsWithSole [.Tuple [.Name x px, .Name y py] kt pt] (.Tuple [a, b] k2 O7) pos.line X.env = pure false := by rfl) :
  PS X (.Assign [.Tuple [.Name x px, .Name y py] kt pt] (.Tuple [a, b] k2 O7) pos) (Ed i j ta) := by
 intro pins s σ H D I h;rw [exec_Assign_arm];refine À (ī ?_);rw [hs];refine À (Â ?_);rw [Ë am];refine À (Tuple_ (aA (ha _ pins s σ H _ I h) λ us s1 ⟨vs, H1, I1, r1, q1⟩ => ?_));obtain ⟨v, w, e1, q1⟩ := q1;subst e1;obtain ⟨u1, u2, rfl, rv, Iu⟩ : ∃ u1 u2, us = [u1, u2] /\ RelV v u1 /\ RelV w u2 := by
  cases r1 with
  | cons p q =>
   cases q with
   | cons p' q' =>
    cases q';exact ⟨_, _, rfl, p, p'⟩
 refine â ?_ ft;have I2 : Inv X pins σ H1 { s1 with heap := s1.heap.push { cls := .type "tuple", data := .seq [u1, u2].toArray } } := I1.kept (t' := s1.toks) λ b o e => Á _ e
 rw [hw];refine À (Â ?_);show wpAny (model X.prog X.w) X.A (do rule "assign.swapped-stores"; let items <- unpackItems (.ref s1.heap.objs.size) 2 none; assignInOrder [λ v => bindName X.env y v, λ v => bindName X.env x v] items.reverse; pure Flow.next) _ _ _
 refine À (ς (À (unpackItems_tuple (items := #[u1, u2]) (I.ok.hd hc) (IsTup.new s1.heap _) λ h' Kw => ?_)));have I3 := I2.kept (h' := h') (t' := s1.toks) λ b o e => Kw b o (Í (Æ e)) e;show wpAny _ _ (assignInOrder [λ v => bindName X.env y v, λ v => bindName X.env x v] [u2, u1] >>= λ _ => pure Flow.next) _ _ _;refine À (assignInOrder_cons (wpAny_bindName (cX I3 hN hj (.inl hy) Iu (λ s2 I4 => ?_) (.inr hy))));refine assignInOrder_cons (wpAny_bindName (cX I4 hN hi (.inl hx) rv (λ s3 I5 => assignInOrder_nil (Â ?_)) (.inr hx)));rw [List.set_comm _ _ (Ne.symm Vl)] at I5;exact ⟨_, H1, I5, q1⟩
end
section
variable {X : Cx} {pos : Pos}
def sP (c : TT) (tb : TS) : TS := λ D σ H => ∃ W : Nat -> St -> Hp -> Prop, (∃ m, W m σ H) /\ ∀ m σ H, W m σ H ->
 c σ H λ b H1 => if b = true then ∃ N : St -> Hp -> Prop, (∀ Ē H', N Ē H' -> ∃ m', m' < m /\ W m' Ē H') /\ tb { D with nx := N, ct := N, bk := D.nx } σ H1 else D.nx σ H1
theorem iu {c : Expr} {body : List Stmt} {tc : TT} {tb : TS} (hp : PassesOwn (model X.prog X.w) X.A X.env X.xe) (hc : PT X c tc) (hb : Ο X body tb) : PS X (.While c body [] pos) (sP tc tb) := by
 intro pins s σ H D I h;obtain ⟨W, ⟨m0, w0⟩, turn⟩ := h;refine wpAny_While (codeAny_whileLoop (λ n s' => ∃ Ē H', Inv X pins Ē H' s' /\ W n Ē H') ?_ m0 ⟨σ, H, I, w0⟩);rintro n s1 ⟨M3, H1, I1, w1⟩;refine Ń hp (aA (hc pins s1 M3 H1 _ I1 (turn n M3 H1 w1)) λ b s2 ⟨H2, I2, q2⟩ => ?_);cases b with
 | true =>
  obtain ⟨N, hN, q2⟩ := q2;rw [Õ rfl];refine Ń hp (aA (hb pins s2 M3 H2 _ I2 q2) λ f s3 q3 => ?_);cases f with
  | next =>
   obtain ⟨Kb, H3, I3, n3⟩ := q3;obtain ⟨m', hm, w3⟩ := hN Kb H3 n3;exact ⟨m', hm, Kb, H3, I3, w3⟩
  | cont =>
   obtain ⟨Kb, H3, I3, n3⟩ := q3;obtain ⟨m', hm, w3⟩ := hN Kb H3 n3;exact ⟨m', hm, Kb, H3, I3, w3⟩
  | brk => exact q3
  | ret v => exact q3
 | false =>
  rw [Ë Ì];exact Ţ ⟨M3, H2, I2, q2⟩
end
structure It where
 go : Nat -> Hp -> Prop
 IB : Nat -> Hp -> V -> Hp -> Prop
 stop : Nat -> Hp -> Prop
def bK (X : Cx) (pins : List (Addr × Obj)) (H : Hp) (b : Addr) : Prop :=
 H b = none /\ b ≠ X.env.locals /\ b ∉ X.fs /\ (b ∈ X.ex \/ X.ŏ.heap.objs.size <= b) /\ (∀ x c, X.env.cells.lookup x = some c -> c ≠ b) /\ ∀ p ∈ X.pn ++ pins, p.1 ≠ b
theorem Inv.Jb {X : Cx} {pins : List (Addr × Obj)} {σ : St} {H H' : Hp} {s : Shared} {b : Addr} (I : Inv X pins σ H s) (hb : s.heap.objs.size <= b) (hn : H' b = none) : bK X pins H' b := by
 refine ⟨hn, Β (Û I.lt hb), I.Ph hb, .inr (Ò I.sz hb), λ x c e z => ?_, λ p hp z => ?_⟩
 ·obtain ⟨v, q⟩ := I.cell x c e;exact absurd (Û q.lt (by rw [z]; exact hb)) (Ă _)
 ·exact absurd (Û (Æ (I.pin p hp).1) (by rw [z]; exact hb)) (Ă _)
structure mH (P : Program) (w : World) (K : PySem.W.Frag) (tg : Expr) (J : It) (fp : List Addr) (it : Addr) (tn : Nat -> Heap -> Prop) : Prop where
 mem : it ∈ fp
 obj : ∀ i h, tn i h -> ∀ b ∈ fp, ∃ o, h.get? b = some o /\ ∀ v, o.data ≠ .cell v
 keep : ∀ i h h', tn i h -> (∀ b ∈ fp, ∀ o, h.get? b = some o -> h'.get? b = some o) -> tn i h'
 item : ∀ (X : Cx), X.prog = P -> X.w = w -> X.K = K -> X.calm = true -> ∀ (i : Nat) (pins : List (Addr × Obj)) (s : Shared) (σ : St) (H : Hp) (E : bo), Inv X pins σ H s -> (∀ b ∈ fp, bK X pins H b) -> tn i s.heap -> J.go i H ->
  wpAny (model P w) X.A (pyNext (.ref it)) (λ r s1 => ∃ u, r = some u /\
   wpAny (model P w) X.A (letOwnedTupleGo tg (.ref it) u) (λ _ s2 => ∃ x H', Inv X pins σ H' s2 /\ RelV x u /\ J.IB i H x H' /\ tn (i + 1) s2.heap /\ ∀ b ∈ fp, H' b = none) E s1) E s
 done : ∀ (X : Cx), X.prog = P -> X.w = w -> X.K = K -> X.calm = true -> ∀ (i : Nat) (pins : List (Addr × Obj)) (s : Shared) (σ : St) (H : Hp) (E : bo), Inv X pins σ H s -> (∀ b ∈ fp, bK X pins H b) -> tn i s.heap -> J.stop i H ->
  wpAny (model P w) X.A (pyNext (.ref it)) (λ r s1 => r = none /\ Inv X pins σ H s1) E s
 self : ∀ (A : Around) (i : Nat) (s : Shared) (Q : bo) (E : bo), tn i s.heap -> Q (.ref it) s -> wpAny (model P w) A (pyIter (.ref it)) Q E s
abbrev TI := St -> Hp -> (It -> Hp -> Prop) -> Prop
def Gq (X : Cx) (pins : List (Addr × Obj)) (σ : St) (tg : Expr) (R : It -> Hp -> Prop) (MD : Value) (s2 : Shared) : Prop :=
 ∃ (it : Addr) (fp : List Addr) (tn : Nat -> Heap -> Prop) (J : It) (H' : Hp), MD = .ref it /\ Inv X pins σ H' s2 /\ mH X.prog X.w X.K tg J fp it tn /\ tn 0 s2.heap /\ (∀ b ∈ fp, bK X pins H' b) /\ R J H'
def PI (X : Cx) (tg iter : Expr) (wi : TI) : Prop :=
 ∀ (pins : List (Addr × Obj)) (s : Shared) (σ : St) (H : Hp) (R : It -> Hp -> Prop), Inv X pins σ H s -> wi σ H R ->
  wpAny (model X.prog X.w) X.A (eval iter X.env) (λ v s1 => wpAny (model X.prog X.w) X.A (pyIter v) (Gq X pins σ tg R) X.xe s1) X.xe s
theorem qe {M : Model} {A : Around} {E : bo} {s : Shared} {tg : Expr} {it : Addr} {u : Value} {o : Obj} {n : String} {vs : Array Value} {Q : Unit -> Shared -> Prop} (ho : s.heap.get? it = some o) (hc : o.cls = .type n) (hd : o.data = .fields vs)
  (hn : ["enumerate", "zip", "dict_itemiterator", "dict_reverseitemiterator", "odict_iterator", "itertools.zip_longest", "itertools.pairwise"].contains n = false) (hQ : Q () s) : wpAny M A (letOwnedTupleGo tg (.ref it) u) Q E s := by
 unfold letOwnedTupleGo;cases tg <;> first
  | exact Â hQ
  | (cases u <;> first
    | exact Â hQ
    | (refine À (wpAny_load ho ?_)
       rw [hc, hd];show wpAny M A (if (["enumerate", "zip", "dict_itemiterator", "dict_reverseitemiterator", "odict_iterator", "itertools.zip_longest", "itertools.pairwise"].contains n && vs[0]? == some (rawInt _)) = true then _ else _) Q E s
       rw [Ë (by intro h; rw [hn, F_] at h; cases h)]
       exact Â hQ))
def uo (K : PySem.W.Frag) (a : Addr) : It :=
 ⟨λ i H => ∃ xs x, û K H a xs /\ xs[i]? = some x, λ i H x H' => H' = H /\ ∀ xs, û K H a xs -> xs[i]? = some x, λ i H => ∃ xs, û K H a xs /\ xs.length <= i⟩
def Gm (K : PySem.W.Frag) (a : Addr) : It :=
 ⟨λ i H => ∃ xs x, ĕ K H a xs /\ xs[i]? = some x, λ i H x H' => H' = H /\ ∀ xs, ĕ K H a xs -> xs[i]? = some x, λ i H => ∃ xs, ĕ K H a xs /\ xs.length <= i⟩
def vw (lo : Int) (n : Nat) : It := ⟨λ i _ => i < n, λ i H x H' => H' = H /\ x = .int (lo + i), λ i _ => n <= i⟩
theorem qY {P : Program} {w : World} {K : PySem.W.Frag} {tg : Expr} (a it : Addr) : mH P w K tg (uo K a) [it] it (λ i h => h.IsListIter it a i) where
 mem := by simp
 obj := λ i h st b hb => by
  have e : b = it := by simpa using hb
  subst e;obtain ⟨o, e, c, d⟩ := st;exact ⟨o, e, λ v z => by rw [d] at z; cases z⟩
 keep := λ i h h' st k => st.at λ o e => k it (by simp) o e
 item := by
  intro X hP hw hK hc i pins s σ H E I hf st hg;subst hP hw hK;obtain ⟨xs, x, hq, hx⟩ := hg;obtain ⟨its, rv, p, hz⟩ := I.list hq;obtain ⟨u, hu, ru⟩ := rv.get hx;obtain ⟨f0, f1, f2, f3, f4, f5⟩ := hf it (by simp)
  refine wpAny_pyNext_list_item st p.isList (x := u) (by simpa using hu) λ h' KN sb => ?_
  have I1 : Inv X pins σ H { s with heap := h' } := I.turned (t' := s.toks) (λ b o hb e => (sb.2 b hb).trans e) f0 f1 f3 f4 f5
  obtain ⟨o, e, c, d⟩ := id KN;exact ⟨u, rfl, qe (s := { s with heap := h' }) e c d am ⟨x, H, I1, ru, ⟨rfl, λ ys hy => by rw [I.HW hy hq]; exact hx⟩, KN, λ b hb => (hf b hb).1⟩⟩
 done := by
  intro X hP hw hK hc i pins s σ H E I hf st hg;subst hP hw hK;obtain ⟨xs, hq, hx⟩ := hg;obtain ⟨its, rv, p, hz⟩ := I.list hq;obtain ⟨f0, f1, f2, f3, f4, f5⟩ := hf it (by simp)
  have hl := rv.length;exact wpAny_pyNext_list_end (I.ok.hd hc) st p.isList (by simp; omega) λ h' eb => ⟨rfl, I.turned (t' := s.toks) (λ b o hb e => eb b o hb e) f0 f1 f3 f4 f5⟩
 self := λ _ _ _ _ _ st h => wpAny_pyIter_listiter st h
theorem nh {P : Program} {w : World} {K : PySem.W.Frag} {tg : Expr} (a it : Addr) : mH P w K tg (Gm K a) [it] it (λ i h => h.IsTupleIter it a i) where
 mem := by simp
 obj := λ i h st b hb => by
  have e : b = it := by simpa using hb
  subst e;obtain ⟨o, e, c, d⟩ := st;exact ⟨o, e, λ v z => by rw [d] at z; cases z⟩
 keep := λ i h h' st k => st.at λ o e => k it (by simp) o e
 item := by
  intro X hP hw hK hc i pins s σ H E I hf st hg;subst hP hw hK;obtain ⟨xs, x, hq, hx⟩ := hg;obtain ⟨its, rv, p, hz⟩ := I.tuple hq;obtain ⟨u, hu, ru⟩ := rv.get hx;obtain ⟨f0, f1, f2, f3, f4, f5⟩ := hf it (by simp)
  refine wpAny_pyNext_tuple_item st (show s.heap.IsTuple a its.toArray from p) (x := u) (by simpa using hu) λ h' KN sb => ?_
  have I1 : Inv X pins σ H { s with heap := h' } := I.turned (t' := s.toks) (λ b o hb e => (sb.2 b hb).trans e) f0 f1 f3 f4 f5
  obtain ⟨o, e, c, d⟩ := id KN;exact ⟨u, rfl, qe (s := { s with heap := h' }) e c d am ⟨x, H, I1, ru, ⟨rfl, λ ys hy => by rw [I.Ρ hy hq]; exact hx⟩, KN, λ b hb => (hf b hb).1⟩⟩
 done := by
  intro X hP hw hK hc i pins s σ H E I hf st hg;subst hP hw hK;obtain ⟨xs, hq, hx⟩ := hg;obtain ⟨its, rv, p, hz⟩ := I.tuple hq;obtain ⟨f0, f1, f2, f3, f4, f5⟩ := hf it (by simp)
  have hl := rv.length;exact wpAny_pyNext_tuple_end (I.ok.hd hc) st (show s.heap.IsTuple a its.toArray from p) (by simp; omega) λ h' eb => ⟨rfl, I.turned (t' := s.toks) (λ b o hb e => eb b o hb e) f0 f1 f3 f4 f5⟩
 self := λ _ _ _ _ _ st h => wpAny_pyIter_tupleiter st h
theorem oh {P : Program} {w : World} {K : PySem.W.Frag} {tg : Expr} (it : Addr) (lo : Int) (n : Nat) : mH P w K tg (vw lo n) [it] it (λ i h => IsRangeIter h it (lo + (i : Nat) * 1) ((n : Int) - (i : Nat)) 1) where
 mem := by simp
 obj := λ i h st b hb => by
  have e : b = it := by simpa using hb
  subst e;exact ⟨_, st, λ v z => by
   have z' : Data.fields _ = Data.cell v := z;cases z'⟩
 keep := λ i h h' st k => k it (by simp) _ st
 item := by
  intro X hP hw hK hc i pins s σ H E I hf st hg;subst hP hw hK;obtain ⟨f0, f1, f2, f3, f4, f5⟩ := hf it (by simp)
  have W := Walks.range (prog := X.prog) (w := X.w) (I.ok.hd hc) it lo 1 n;refine W.item i s _ _ hg st λ v h' tk hv KN kk => ?_;obtain ⟨t, rfl⟩ := hv;have I1 : Inv X pins σ H { s with heap := h', toks := tk } := I.turned (λ b o hb e => kk b o (by simpa using hb) e) f0 f1 f3 f4 f5
  refine ⟨_, rfl, qe (s := { s with heap := h', toks := tk }) (n := "range_iterator") KN rfl rfl am ⟨.int (lo + i), H, I1, ⟨t, ?_⟩, ⟨rfl, rfl⟩, KN, λ b hb => (hf b hb).1⟩⟩
  rw [ε]
 done := by
  intro X hP hw hK hc i pins s σ H E I hf st hg;subst hP hw hK;obtain ⟨f0, f1, f2, f3, f4, f5⟩ := hf it (by simp)
  exact wpAny_pyNext_range_end (I.ok.hd hc) st (by have : n <= i := hg; omega) λ h' eb => ⟨rfl, I.turned (t' := s.toks) (λ b o hb e => eb b o hb e) f0 f1 f3 f4 f5⟩
 self := λ _ _ _ _ _ st h => wpAny_pyIter_rangeiter st h
section
variable {X : Cx} {tg : Expr}
def cU (K : PySem.W.Frag) (tl : TE) : TI := λ σ H R => tl σ H λ x H1 => ∃ a, x = .ref a /\ (∃ xs, û K H1 a xs) /\ R (uo K a) H1
def CU (K : PySem.W.Frag) (tl : TE) : TI := λ σ H R => tl σ H λ x H1 => ∃ a, x = .ref a /\ (∃ xs, ĕ K H1 a xs) /\ R (Gm K a) H1
theorem bT {l : Expr} {tl : TE} (hl : PE X l tl) : PI X tg l (cU X.K tl) := by
 intro pins s σ H R I h;refine aA (hl pins s σ H _ I h) λ v s1 ⟨x, H1, I1, r1, q1⟩ => ?_;obtain ⟨a, e, ⟨xs, hq⟩, q⟩ := q1;subst e;cases r1;obtain ⟨its, rv, p, hz⟩ := I1.list hq;refine o_ p.isList ?_;refine ⟨s1.heap.objs.size, [s1.heap.objs.size], _, _, H1, rfl, I1.kept (t' := s1.toks) λ b o e => Á _ e, qY a _, ⟨_, Ç _ rfl, rfl, rfl⟩, λ b hb => ?_, q⟩;have e : b = s1.heap.objs.size := by simpa using hb
 subst e;exact I1.Jb (Ä _) (I1.Ą.fresh (Ä _))
theorem uC {l : Expr} {tl : TE} (hl : PE X l tl) : PI X tg l (CU X.K tl) := by
 intro pins s σ H R I h;refine aA (hl pins s σ H _ I h) λ v s1 ⟨x, H1, I1, r1, q1⟩ => ?_;obtain ⟨a, e, ⟨xs, hq⟩, q⟩ := q1;subst e;cases r1;obtain ⟨its, rv, p, hz⟩ := I1.tuple hq;refine JG (show s1.heap.IsTuple a its.toArray from p) ?_;refine ⟨s1.heap.objs.size, [s1.heap.objs.size], _, _, H1, rfl, I1.kept (t' := s1.toks) λ b o e => Á _ e, nh a _, ⟨_, Ç _ rfl, rfl, rfl⟩, λ b hb => ?_, q⟩;have e : b = s1.heap.objs.size := by simpa using hb
 subst e;exact I1.Jb (Ä _) (I1.Ą.fresh (Ä _))
theorem t4 {pins : List (Addr × Obj)} {σ : St} {H : Hp} {s : Shared} {R : It -> Hp -> Prop} {E : bo} {lo hi : Int} {t u v : Tok} {tk : Nat} (I : Inv X pins σ H s) (h1 : -(2 ^ 62) <= lo) (h2 : lo < 2 ^ 62) (h3 : -(2 ^ 62) <= hi) (h4 : hi < 2 ^ 62)
  (q : R (vw lo (hi - lo).toNat) H) : wpAny (model X.prog X.w) X.A (pyIter (.ref s.heap.objs.size)) (Gq X pins σ tg R) E { s with heap := s.heap.push { cls := .type "range", data := .fields #[.int lo t, .int hi u, .int 1 v] }, toks := tk } := by
 refine wpAny_pyIter_range (IsRange.new ..) (small_one h1 h2 h3 h4) ?_;have I1 : Inv X pins σ H { s with heap := s.heap.push { cls := .type "range", data := .fields #[.int lo t, .int hi u, .int 1 v] }, toks := tk } := I.kept λ b o e => Á _ e
 refine ⟨(s.heap.push { cls := .type "range", data := .fields #[.int lo t, .int hi u, .int 1 v] }).objs.size, [(s.heap.push { cls := .type "range", data := .fields #[.int lo t, .int hi u, .int 1 v] }).objs.size], _, _, H, rfl,
  I1.kept (t' := tk) λ b o e => Á _ e, oh _ lo (hi - lo).toNat, ?_, λ b hb => ?_, q⟩
 ·have e1 : lo + ((0 : Nat) : Int) * 1 = lo := by simp
  have e2 : (((hi - lo).toNat : Nat) : Int) - ((0 : Nat) : Int) = Builtin.Range.rangeSize lo hi 1 := by rw [rangeSize_one]; split <;> omega
  show IsRangeIter _ _ (lo + ((0 : Nat) : Int) * 1) ((((hi - lo).toNat : Nat) : Int) - ((0 : Nat) : Int)) 1;rw [e1, e2];exact Ç _ rfl
 ·have e : b = (s.heap.push { cls := .type "range", data := .fields #[.int lo t, .int hi u, .int 1 v] }).objs.size := by simpa using hb
  subst e;exact I1.Jb (Ä _) (I1.Ą.fresh (Ä _))
def l8 (ta : TA) : TI := λ σ H R => ta σ H λ vs H1 => ∃ j : Int, vs = [.int j] /\ -(2 ^ 62) <= j /\ j < 2 ^ 62 /\ R (vw 0 j.toNat) H1
theorem cz {a : Expr} {ta : TA} {p pos : Pos} (hg : Gl X "range") (hm : X.mg "range" = none) (ha : PA X [a] ta) (hs : starEach [a] X.env = [(false, eval a X.env)] := by rfl) : PI X tg (.Call (.Name "range" p) [a] [] pos) (l8 ta) := by
 intro pins s σ H R I h;refine Call_ (fq I hg hm boot_range (ļ (aA (ha pos pins s σ H _ I h) λ us s1 ⟨vs, H1, I1, r1, q1⟩ => ?_) hs rfl));obtain ⟨j, e, q1, q2, q⟩ := q1;subst e;cases r1 with
 | cons r rr =>
  cases rr;obtain ⟨t, rfl⟩ := r;exact call_range_1 (t4 I1 af af q1 q2 (by simpa using q))
def jf (wi : TI) (g : TG) (tb : TS) : TS := λ D σ H => wi σ H λ J H1 => ∃ W : Nat -> Nat -> St -> Hp -> Prop, (∃ m, W 0 m σ H1) /\ ∀ i m σ H, W i m σ H ->
 (J.stop i H /\ D.nx σ H) \/ (J.go i H /\ ∃ N : St -> Hp -> Prop, (∀ Ē H', N Ē H' -> ∃ m', m' < m /\ W (i + 1) m' Ē H') /\ ∀ x H', J.IB i H x H' -> g x σ H' λ ľ H2 => tb { D with nx := N, ct := N, bk := D.nx } ľ H2)
def jX (fp : List Addr) (h : Heap) : List (Addr × Obj) := fp.filterMap λ b => (h.get? b).map λ o => (b, o)
theorem aK {fp : List Addr} {h : Heap} {b : Addr} {o : Obj} (hb : b ∈ fp) (e : h.get? b = some o) : (b, o) ∈ jX fp h := IE.mpr ⟨b, hb, by rw [e]; rfl⟩
theorem qL {fp : List Addr} {h : Heap} {p : Addr × Obj} (hp : p ∈ jX fp h) : p.1 ∈ fp /\ h.get? p.1 = some p.2 := by
 obtain ⟨b, hb, e⟩ := IE.mp hp;cases q : h.get? b with
 | none => rw [q] at e; cases e
 | some o =>
  rw [q] at e;have e' : (b, o) = p := Ð e;subst e';exact ⟨hb, q⟩
theorem Inv.pinned {pins : List (Addr × Obj)} {σ : St} {H : Hp} {s : Shared} {fp : List Addr} (I : Inv X pins σ H s) (hf : ∀ b ∈ fp, bK X pins H b) (ho : ∀ b ∈ fp, ∃ o, s.heap.get? b = some o /\ ∀ v, o.data ≠ .cell v) : Inv X (pins ++ jX fp s.heap) σ H s :=
 I.Jz λ p hp => (Ŗ.mp hp).elim (λ z => I.pin p (È _ z)) λ z => by
  obtain ⟨hb, e⟩ := qL z;obtain ⟨f0, f1, f2, _⟩ := hf p.1 hb;obtain ⟨o, e', d⟩ := ho p.1 hb;rw [e] at e'; cases e';exact ⟨e, f0, f1, f2, d⟩
theorem Inv.ņ {pins pl : List (Addr × Obj)} {σ : St} {H : Hp} {s : Shared} (I : Inv X (pins ++ pl) σ H s) : Inv X pins σ H s := I.Jz λ p hp => I.pin p (È _ (D_ _ hp))
theorem dM {iter : Expr} {body : List Stmt} {wi : TI} {g : TG} {tb : TS} {pos : Pos} (hp : PassesOwn (model X.prog X.w) X.A X.env X.xe) (hc : X.calm = true) (hi : PI X tg iter wi) (hg : PG X tg g) (hb : Ο X body tb)
  (hs : ∀ x, foldedSetIterable iter X.env x = pure x := by intro _; rfl) : PS X (.For tg iter body [] pos) (jf wi g tb) := by
 intro pins s σ H D I h;refine wpAny_For (aA (hi pins s σ H _ I h) λ v s1 h1 => aA h1 λ MD s2 h2 => ?_) hs;obtain ⟨it, fp, tn, J, H2, e, I2, T, Is, f2, W, ⟨m0, w0⟩, turn⟩ := h2;subst e;have ş : ∀ {H' : Hp}, (∀ b ∈ fp, H' b = none) -> ∀ b ∈ fp, bK X pins H' b := λ hn b hb => ⟨hn b hb, (f2 b hb).2⟩;refine codeAny_forLoop_any (λ n s' => ∃ i Ē H', Inv X pins Ē H' s' /\ tn i s'.heap /\ (∀ b ∈ fp, H' b = none) /\ W i n Ē H') ?_ m0 ⟨0, σ, H2, I2, Is, λ b hb => (f2 b hb).1, w0⟩;rintro n s3 ⟨i, Kb, H3, I3, J1, R1, w3⟩;rcases turn i n Kb H3 w3 with ⟨stop, qn⟩ | ⟨go, N, hN, step⟩
 ·refine Ń hp (aA (T.done X rfl rfl rfl hc i pins s3 Kb H3 X.xe I3 (ş R1) J1 stop) λ r s4 ⟨hr, I4⟩ => ?_);subst hr;exact Ţ ⟨Kb, H3, I4, qn⟩
 ·refine Ń hp (aA (T.item X rfl rfl rfl hc i pins s3 Kb H3 X.xe I3 (ş R1) J1 go) λ r s4 ⟨u, hr, h4⟩ => ?_);subst hr;refine Ń hp (aA h4 λ _ s5 ⟨x, H5, I5, r5, y5, w_, KF⟩ => ?_);have KI := I5.pinned (ş KF) (T.obj _ _ w_);refine Ń hp (aA (hg _ s5 Kb H5 x u _ KI r5 (step x H5 y5)) λ _ s6 ⟨LK, H6, I6, q6⟩ => ?_);refine Ń hp (aA (hb _ s6 LK H6 _ I6 q6) λ f s7 q7 => ?_);have again : ∀ {Ka : St} {H7 : Hp}, Inv X (pins ++ jX fp s5.heap) Ka H7 s7 -> N Ka H7 -> ∃ m, m < n /\ ∃ i Ē H', Inv X pins Ē H' s7 /\ tn i s7.heap /\ (∀ b ∈ fp, H' b = none) /\ W i m Ē H' := λ {Ka H7} I7 n7 => by
   obtain ⟨m', hm, w7⟩ := hN Ka H7 n7;refine ⟨m', hm, i + 1, Ka, H7, I7.ņ, T.keep _ _ _ w_ λ b hb o e => (I7.pin (b, o) (È _ (È _ (aK hb e)))).1, λ b hb => ?_, w7⟩;obtain ⟨o, e, d⟩ := T.obj _ _ w_ b hb;exact (I7.pin (b, o) (È _ (È _ (aK hb e)))).2.1
  cases f with
  | next => obtain ⟨Ka, H7, I7, n7⟩ := q7; exact again I7 n7
  | cont => obtain ⟨Ka, H7, I7, n7⟩ := q7; exact again I7 n7
  | brk => obtain ⟨Ka, H7, I7, q7⟩ := q7; exact ⟨Ka, H7, I7.ņ, q7⟩
  | ret v => obtain ⟨x7, Ka, H7, I7, r7, q7⟩ := q7; exact ⟨x7, Ka, H7, I7.ņ, r7, q7⟩
end
theorem dG {K : PySem.W.Frag} {a : Addr} {xs : List V} {g : TG} {tb : TS} {D : aY} {σ : St} {H : Hp} (Pv : Nat -> St -> Hp -> Prop) (h0 : Pv 0 σ H) (hl : ∀ i σ H, i <= xs.length -> Pv i σ H -> û K H a xs)
  (hs : ∀ i x σ H, xs[i]? = some x -> Pv i σ H -> g x σ H λ ľ H2 => tb { D with nx := Pv (i + 1), ct := Pv (i + 1), bk := D.nx } ľ H2) (hd : ∀ σ H, Pv xs.length σ H -> D.nx σ H) :
  ∃ W : Nat -> Nat -> St -> Hp -> Prop, (∃ m, W 0 m σ H) /\ ∀ i m σ H, W i m σ H ->
   ((uo K a).stop i H /\ D.nx σ H) \/ ((uo K a).go i H /\ ∃ N : St -> Hp -> Prop, (∀ Ē H', N Ē H' -> ∃ m', m' < m /\ W (i + 1) m' Ē H') /\ ∀ x H', (uo K a).IB i H x H' -> g x σ H' λ ľ H2 => tb { D with nx := N, ct := N, bk := D.nx } ľ H2) := by
 refine ⟨λ i m σ H => m = xs.length - i /\ i <= xs.length /\ Pv i σ H, ⟨xs.length, by simp, Nat.zero_le _, h0⟩, ?_⟩
 rintro i m σ H ⟨rfl, hi, p⟩;have q := hl i σ H hi p;by_cases Ű : i < xs.length
 ·refine .inr ⟨⟨xs, xs[i], q, by simp [Ű]⟩, Pv (i + 1), λ Ē H' p' => ⟨xs.length - (i + 1), af, rfl, Ű, p'⟩, λ x H' y => ?_⟩
  obtain ⟨e, y⟩ := y;subst e;exact hs i x σ _ (y xs q) p
 ·have e : i = xs.length := af;subst e;exact .inl ⟨⟨xs, q, Ä _⟩, hd σ H p⟩
theorem jz {lo : Int} {n : Nat} {g : TG} {tb : TS} {D : aY} {σ : St} {H : Hp} (Pv : Nat -> St -> Hp -> Prop) (h0 : Pv 0 σ H)
  (hs : ∀ i σ H, i < n -> Pv i σ H -> g (.int (lo + i)) σ H λ ľ H2 => tb { D with nx := Pv (i + 1), ct := Pv (i + 1), bk := D.nx } ľ H2) (hd : ∀ σ H, Pv n σ H -> D.nx σ H) :
  ∃ W : Nat -> Nat -> St -> Hp -> Prop, (∃ m, W 0 m σ H) /\ ∀ i m σ H, W i m σ H ->
   ((vw lo n).stop i H /\ D.nx σ H) \/ ((vw lo n).go i H /\ ∃ N : St -> Hp -> Prop, (∀ Ē H', N Ē H' -> ∃ m', m' < m /\ W (i + 1) m' Ē H') /\ ∀ x H', (vw lo n).IB i H x H' -> g x σ H' λ ľ H2 => tb { D with nx := N, ct := N, bk := D.nx } ľ H2) := by
 refine ⟨λ i m σ H => m = n - i /\ i <= n /\ Pv i σ H, ⟨n, by simp, Nat.zero_le _, h0⟩, ?_⟩
 rintro i m σ H ⟨rfl, hi, p⟩;by_cases Ű : i < n
 ·refine .inr ⟨Ű, Pv (i + 1), λ Ē H' p' => ⟨n - (i + 1), af, rfl, Ű, p'⟩, λ x H' y => ?_⟩;obtain ⟨e, y⟩ := y;subst e y;exact hs i σ _ Ű p
 ·have e : i = n := af;subst e;exact .inl ⟨Ä _, hd σ H p⟩
theorem ic {c : TT} {tb : TS} {D : aY} {σ : St} {H : Hp} (Pv : St -> Hp -> Prop) (μ : St -> Hp -> Nat) (h0 : Pv σ H)
  (hs : ∀ σ H, Pv σ H -> c σ H λ b H1 => if b = true then tb { D with nx := λ Ē H' => Pv Ē H' /\ μ Ē H' < μ σ H, ct := λ Ē H' => Pv Ē H' /\ μ Ē H' < μ σ H, bk := D.nx } σ H1 else D.nx σ H1)
  (mono : ∀ σ H Q Q', (∀ b H1, Q b H1 -> Q' b H1) -> c σ H Q -> c σ H Q') : sP c tb D σ H := by
 refine ⟨λ m σ H => m = μ σ H /\ Pv σ H, ⟨_, rfl, h0⟩, ?_⟩;rintro m σ H ⟨rfl, p⟩;refine mono σ H _ _ (λ b H1 q => ?_) (hs σ H p);cases b with
 | true => exact ⟨_, λ Ē H' ⟨p', l⟩ => ⟨_, l, rfl, p'⟩, q⟩
 | false => exact q
abbrev R2 := V -> V -> Hp -> VK -> Prop
def gg (X : Cx) (f : Value -> Value -> Sem Value) (r : R2) : Prop :=
 ∀ (pins : List (Addr × Obj)) (s : Shared) (σ : St) (H : Hp) (x y : V) (v u : Value) (Q : VK), Inv X pins σ H s -> RelV x v -> RelV y u -> r x y H Q ->
  wpAny (model X.prog X.w) X.A (f v u) (EP X pins σ Q) X.xe s
def EG (X : Cx) (f : Value -> Sem Value) (r : V -> Hp -> VK -> Prop) : Prop :=
 ∀ (pins : List (Addr × Obj)) (s : Shared) (σ : St) (H : Hp) (x : V) (v : Value) (Q : VK), Inv X pins σ H s -> RelV x v -> r x H Q ->
  wpAny (model X.prog X.w) X.A (f v) (EP X pins σ Q) X.xe s
def bv (X : Cx) (f : Value) (r : List V -> Hp -> VK -> Prop) : Prop :=
 ∀ (pins : List (Addr × Obj)) (s : Shared) (σ : St) (H : Hp) (xs : List V) (us : List Value) (Q : VK), Inv X pins σ H s -> Vals xs us -> r xs H Q ->
  wpAny (model X.prog X.w) X.A (call f us) (EP X pins σ Q) X.xe s
def bc (r : R2) (ta tb : TE) : TE := λ σ H Q => ta σ H λ x H1 => tb σ H1 λ y H2 => r x y H2 Q
def GL (r : V -> Hp -> VK -> Prop) (ta : TE) : TE := λ σ H Q => ta σ H λ x H1 => r x H1 Q
def rI (C : Int -> Int -> Prop) (g : Int -> Int -> V) : R2 := λ x y H Q => ∃ i j, x = .int i /\ y = .int j /\ C i j /\ Q (g i j) H
def iA (g : Int -> Int -> V) : R2 := λ x y H Q => ∃ i j, x = .int i /\ y = .int j /\ Q (g i j) H
def rU (g : Int -> V) : V -> Hp -> VK -> Prop := λ x H Q => ∃ i, x = .int i /\ Q (g i) H
section
variable {X : Cx} {a b c : Expr} {ta tb tc : TE} {pos : Pos}
theorem zO (ha : PE X a ta) (hb : PE X b tb) {pins : List (Addr × Obj)} {s : Shared} {σ : St} {H : Hp} {R : V -> V -> Hp -> Prop} (I : Inv X pins σ H s)
  (h : ta σ H λ x H1 => tb σ H1 λ y H2 => R x y H2) {Q : bo} {f : Value -> Value -> Sem Value}
  (hf : ∀ v u s2 x y H2, Inv X pins σ H2 s2 -> RelV x v -> RelV y u -> R x y H2 -> wpAny (model X.prog X.w) X.A (f v u) Q X.xe s2) :
  wpAny (model X.prog X.w) X.A (eval a X.env) (λ v ą => wpAny (model X.prog X.w) X.A (eval b X.env) (λ u ũ => wpAny (model X.prog X.w) X.A (f v u) Q X.xe ũ) X.xe ą) X.xe s := by
 refine aA (ha pins s σ H _ I h) λ v s1 ⟨x, H1, I1, r1, q1⟩ => ?_;refine aA (hb pins s1 σ H1 _ I1 q1) λ u s2 ⟨y, H2, I2, r2, q2⟩ => ?_;exact hf v u s2 x y H2 I2 r1 r2 q2
theorem aj {op : Operator} {r : R2} (ho : gg X (binaryOp op) r) (ha : PE X a ta) (hb : PE X b tb) : PE X (.BinOp a op b pos) (bc r ta tb) := by
 intro pins s σ H Q I h;exact wpAny_BinOp (zO ha hb I h λ v u s2 x y H2 I2 rx ry q => ho pins s2 σ H2 x y v u Q I2 rx ry q)
theorem xT {op : UnaryOp} {r : V -> Hp -> VK -> Prop} (ho : EG X (unaryOp op) r) (ha : PE X a ta) : PE X (.UnaryOp op a pos) (GL r ta) := by
 intro pins s σ H Q I h;exact UnaryOp_ (aA (ha pins s σ H _ I h) λ v s1 ⟨x, H1, I1, r1, q1⟩ => ho pins s1 σ H1 x v Q I1 r1 q1)
theorem yN {f : Value -> Value -> Sem Value} {C : Int -> Int -> Prop} {g : Int -> Int -> Int}
  (rule : ∀ (i j : Int) (t u : Tok) (s : Shared) (Q : bo) (E : bo), C i j -> Q (.int (g i j) s.toks) { s with toks := s.toks + 1 } -> wpAny (model X.prog X.w) X.A (f (.int i t) (.int j u)) Q E s) :
  gg X f (rI C λ i j => .int (g i j)) := by
 intro pins s σ H x y v u Q I rx ry h;obtain ⟨i, j, rfl, rfl, hc, q⟩ := h;obtain ⟨t, rfl⟩ := rx;obtain ⟨t', rfl⟩ := ry;exact rule i j t t' s _ _ hc ⟨.int (g i j), H, I.tok _, ⟨_, rfl⟩, q⟩
theorem y2 {f : Value -> Value -> Sem Value} {g : Int -> Int -> Int}
  (rule : ∀ (i j : Int) (t u : Tok) (s : Shared) (Q : bo) (E : bo), Q (.int (g i j) s.toks) { s with toks := s.toks + 1 } -> wpAny (model X.prog X.w) X.A (f (.int i t) (.int j u)) Q E s) :
  gg X f (iA λ i j => .int (g i j)) := by
 intro pins s σ H x y v u Q I rx ry h;obtain ⟨i, j, rfl, rfl, q⟩ := h;obtain ⟨t, rfl⟩ := rx;obtain ⟨t', rfl⟩ := ry;exact rule i j t t' s _ _ ⟨.int (g i j), H, I.tok _, ⟨_, rfl⟩, q⟩
theorem xl {f : Value -> Value -> Sem Value} {g : Int -> Int -> Bool}
  (rule : ∀ (i j : Int) (t u : Tok) (s : Shared) (Q : bo) (E : bo), Q (.bool (g i j)) s -> wpAny (model X.prog X.w) X.A (f (.int i t) (.int j u)) Q E s) :
  gg X f (iA λ i j => .bl (g i j)) := by
 intro pins s σ H x y v u Q I rx ry h;obtain ⟨i, j, rfl, rfl, q⟩ := h;obtain ⟨t, rfl⟩ := rx;obtain ⟨t', rfl⟩ := ry;exact rule i j t t' s _ _ ⟨.bl (g i j), H, I, rfl, q⟩
def Gf (i j : Int) : Prop := 0 < j /\ j < 1073741824
def nR (i j : Int) : Prop := 0 <= j /\ j <= 1000000 /\ i.natAbs < 2 ^ 64
def IM (i j : Int) : Prop := (-(2 ^ 64) < i /\ i < 2 ^ 64) \/ (-(2 ^ 64) < j /\ j < 2 ^ 64)
theorem IM.ok {i j : Int} (h : IM i j) : IntMulOk i j := by
 rcases h with ⟨h1, h2⟩ | ⟨h1, h2⟩
 ·exact .of_left (intBits_le_64 h1 h2)
 ·exact .of_right (intBits_le_64 h1 h2)
theorem nj (k : Nat) : (0 : Int) <= 2 ^ k := by
 rw [two_pow_cast];exact Int.natCast_nonneg _
theorem bd : gg X (binaryOp .Add) (iA λ i j => .int (i + j)) := y2 λ _ _ _ _ _ _ _ q => add_int q
theorem bF : gg X (binaryOp .Sub) (iA λ i j => .int (i - j)) := y2 λ _ _ _ _ _ _ _ q => sub_int q
theorem aR : gg X (binaryOp .Mult) (rI IM λ i j => .int (i * j)) := yN λ _ _ _ _ _ _ _ hc q => mul_int q hc.ok
theorem kn : gg X (binaryOp .FloorDiv) (rI Gf λ i j => .int (i / j)) := yN λ i j _ _ _ _ _ hc q => by
 have h1 : (0 : Int) < j := hc.1;have h2 : j < 1073741824 := hc.2;exact floordiv_int af (by rw [Κ i af]; exact q) (.inl (PyProof.noPylong_small af))
theorem dD : gg X (binaryOp .Mod) (rI (λ _ j => 0 < j) λ i j => .int (i % j)) := yN λ i j _ _ _ _ _ hc q => by
 have h1 : (0 : Int) < j := hc;exact mod_int' af (by rw [Int.fmod_eq_emod_of_nonneg i af]; exact q)
theorem uf : gg X (binaryOp .Pow) (rI nR λ i j => .int (i ^ j.toNat)) := yN λ _ _ _ _ _ _ _ hc q => pow_int_small hc.1 hc.2.1 hc.2.2 q
theorem iU : gg X (binaryOp .LShift) (rI nR λ i j => .int (i * 2 ^ j.toNat)) := yN λ _ _ _ _ _ _ _ hc q => lshift_int_small hc.1 hc.2.1 hc.2.2 q
theorem hI : gg X (binaryOp .RShift) (rI (λ _ j => 0 <= j) λ i j => .int (i / 2 ^ j.toNat)) := yN λ i j _ _ _ _ _ hc q =>
 rshift_int hc (by rw [Κ i (nj _)]; exact q)
theorem ie : gg X (binaryOp .BitAnd) (iA λ i j => .int (Builtin.bitAnd i j)) := y2 λ _ _ _ _ _ _ _ q => and_int q
theorem HC {f : Value -> Sem Value} {g : Int -> Int}
  (rule : ∀ (i : Int) (t : Tok) (s : Shared) (Q : bo) (E : bo), Q (.int (g i) s.toks) { s with toks := s.toks + 1 } -> wpAny (model X.prog X.w) X.A (f (.int i t)) Q E s) :
  EG X f (rU λ i => .int (g i)) := by
 intro pins s σ H x v Q I rx h;obtain ⟨i, rfl, q⟩ := h;obtain ⟨t, rfl⟩ := rx;exact rule i t s _ _ ⟨.int (g i), H, I.tok _, ⟨_, rfl⟩, q⟩
theorem sR : EG X (unaryOp .USub) (rU λ i => .int (-i)) := HC λ _ _ _ _ _ q => neg_int q
end
def BQ : V -> V -> Bool
 | .Ė, .Ė => true | .Ė, .int _ => true | .int _, .Ė => true | .Ė, .bl _ => true | .bl _, .Ė => true | .Ė, .str _ => true | .str _, .Ė => true
 | .int _, .int _ => true | .bl _, .bl _ => true | .str _, .str _ => true | .J5 _, .J5 _ => true
 | .int _, .str _ => true | .str _, .int _ => true | .bl _, .str _ => true | .str _, .bl _ => true
 | _, _ => false
def B6 : R2 := λ x y H Q => BQ x y = true /\ Q (.bl (decide (x = y))) H
def Ew : R2 := λ x y H Q => BQ x y = true /\ Q (.bl (!decide (x = y))) H
theorem pf {i j : Int} : decide (V.int i = V.int j) = (i == j) := by
 rw [Ŷ];simp
theorem sL {i j : Bool} : decide (V.bl i = V.bl j) = (i == j) := by
 rw [Ŷ];simp
theorem qd {i j : Str} : decide (V.str i = V.str j) = (i == j) := by
 rw [Ŷ];simp
theorem pE {i j : Array UInt8} : decide (V.J5 i = V.J5 j) = (i.toList == j.toList) := by
 rw [Ŷ];cases i;cases j;simp
section
variable {X : Cx} {a b c : Expr} {ta tb tc : TE} {pos : Pos}
theorem aH {pins : List (Addr × Obj)} {σ : St} {H : Hp} {s : Shared} {Q : VK} {k k' : Bool} (I : Inv X pins σ H s) (q : Q (.bl k) H) (e : k = k') : EP X pins σ Q (.bool k') s := by
 subst e;exact ⟨.bl k, H, I, rfl, q⟩
theorem oG : gg X (compareOp .Eq) B6 := by
 intro pins s σ H x y v u Q I rx ry h;obtain ⟨hs, q⟩ := h;cases x with
 | Ė =>
  cases rx;cases y with
  | Ė => cases ry; exact PySem.EqNone.eq_none_none (aH I q (by simp))
  | bl j => cases ry; exact PySem.EqNone.eq_none_bool (aH I q (by simp))
  | int j => obtain ⟨t', rfl⟩ := ry; exact PySem.EqNone.eq_none_int (aH I q (by simp))
  | str j => obtain ⟨t', rfl⟩ := ry; exact PySem.EqNone.eq_none_str (aH I q (by simp))
  | _ => exact absurd (show false = true from hs) Ì
 | bl i =>
  cases rx;cases y with
  | Ė => cases ry; exact PySem.EqNone.eq_bool_none (aH I q (by simp))
  | bl j => cases ry; exact eq_bool (aH I q sL)
  | str j => obtain ⟨t', rfl⟩ := ry; exact PySem.EqMixed.eq_bool_str (aH I q (by simp))
  | _ => exact absurd (show false = true from hs) Ì
 | int i =>
  obtain ⟨t, rfl⟩ := rx;cases y with
  | Ė => cases ry; exact PySem.EqNone.eq_int_none (aH I q (by simp))
  | int j => obtain ⟨t', rfl⟩ := ry; exact eq_int (aH I q pf)
  | str j => obtain ⟨t', rfl⟩ := ry; exact PySem.EqMixed.eq_int_str (aH I q (by simp))
  | _ => exact absurd (show false = true from hs) Ì
 | str i =>
  obtain ⟨t, rfl⟩ := rx;cases y with
  | Ė => cases ry; exact PySem.EqNone.eq_str_none (aH I q (by simp))
  | bl j => cases ry; exact PySem.EqMixed.eq_str_bool (aH I q (by simp))
  | int j => obtain ⟨t', rfl⟩ := ry; exact PySem.EqMixed.eq_str_int (aH I q (by simp))
  | str j => obtain ⟨t', rfl⟩ := ry; exact eq_str (aH I q qd)
  | _ => exact absurd (show false = true from hs) Ì
 | J5 i =>
  obtain ⟨t, rfl⟩ := rx;cases y with
  | J5 j => obtain ⟨t', rfl⟩ := ry; exact PySem.W.eq_bytes (aH I q pE)
  | _ => exact absurd (show false = true from hs) Ì
 | _ => cases y <;> exact absurd (show false = true from hs) Ì
theorem jN : gg X (compareOp .NotEq) Ew := by
 intro pins s σ H x y v u Q I rx ry h;obtain ⟨hs, q⟩ := h;cases x with
 | Ė =>
  cases rx;cases y with
  | Ė => cases ry; exact PySem.EqNone.ne_none_none (aH I q (by simp))
  | bl j => cases ry; exact PySem.EqNone.ne_none_bool (aH I q (by simp))
  | int j => obtain ⟨t', rfl⟩ := ry; exact PySem.EqNone.ne_none_int (aH I q (by simp))
  | str j => obtain ⟨t', rfl⟩ := ry; exact PySem.EqNone.ne_none_str (aH I q (by simp))
  | _ => exact absurd (show false = true from hs) Ì
 | bl i =>
  cases rx;cases y with
  | Ė => cases ry; exact PySem.EqNone.ne_bool_none (aH I q (by simp))
  | bl j => cases ry; exact ne_bool (aH I q (ĭ not sL))
  | str j => obtain ⟨t', rfl⟩ := ry; exact PySem.EqMixed.ne_bool_str (aH I q (by simp))
  | _ => exact absurd (show false = true from hs) Ì
 | int i =>
  obtain ⟨t, rfl⟩ := rx;cases y with
  | Ė => cases ry; exact PySem.EqNone.ne_int_none (aH I q (by simp))
  | int j => obtain ⟨t', rfl⟩ := ry; exact ne_int (aH I q (ĭ not pf))
  | str j => obtain ⟨t', rfl⟩ := ry; exact PySem.EqMixed.ne_int_str (aH I q (by simp))
  | _ => exact absurd (show false = true from hs) Ì
 | str i =>
  obtain ⟨t, rfl⟩ := rx;cases y with
  | Ė => cases ry; exact PySem.EqNone.ne_str_none (aH I q (by simp))
  | bl j => cases ry; exact PySem.EqMixed.ne_str_bool (aH I q (by simp))
  | int j => obtain ⟨t', rfl⟩ := ry; exact PySem.EqMixed.ne_str_int (aH I q (by simp))
  | str j => obtain ⟨t', rfl⟩ := ry; exact ne_str (aH I q (ĭ not qd))
  | _ => exact absurd (show false = true from hs) Ì
 | J5 i =>
  obtain ⟨t, rfl⟩ := rx;cases y with
  | J5 j => obtain ⟨t', rfl⟩ := ry; exact PySem.W.ne_bytes (aH I q (ĭ not pE))
  | _ => exact absurd (show false = true from hs) Ì
 | _ => cases y <;> exact absurd (show false = true from hs) Ì
theorem uK : gg X (compareOp .Lt) (iA λ i j => .bl (decide (i < j))) := xl λ _ _ _ _ _ _ _ q => lt_int q
theorem l9 : gg X (compareOp .LtE) (iA λ i j => .bl (decide (i <= j))) := xl λ _ _ _ _ _ _ _ q => le_int q
theorem ss : gg X (compareOp .Gt) (iA λ i j => .bl (decide (j < i))) := xl λ _ _ _ _ _ _ _ q => gt_int q
theorem lB : gg X (compareOp .GtE) (iA λ i j => .bl (decide (j <= i))) := xl λ _ _ _ _ _ _ _ q => ge_int q
theorem aI (b : Expr) {op : CmpOp} (h : op ≠ .In := by decide) (h2 : op ≠ .NotIn := by decide) : behindInMarks op b = false := by
 have e1 : (op == CmpOp.In) = false := by cases op <;> first | rfl | exact absurd rfl h
 have e2 : (op == CmpOp.NotIn) = false := by cases op <;> first | rfl | exact absurd rfl h2
 cases b <;> simp [behindInMarks, e1, e2]
theorem eB {op : CmpOp} {r : R2} (ho : gg X (compareOp op) r) (ha : PE X a ta) (hb : PE X b tb) (hm : behindInMarks op b = false) : PE X (.Compare a [op] [b] pos) (bc r ta tb) := by
 intro pins s σ H Q I h;exact wpAny_Compare1 (zO ha hb I h λ v u s2 x y H2 I2 rx ry q => ho pins s2 σ H2 x y v u Q I2 rx ry q) hm
def BE (t : TE) : TT := λ σ H Q => t σ H λ x H' => ∃ k, x = .bl k /\ Q k H'
theorem aF {op : CmpOp} {r : R2} (ho : gg X (compareOp op) r) (ha : PE X a ta) (hb : PE X b tb) (hm : behindInMarks op b = false) : PT X (.Compare a [op] [b] pos) (BE (bc r ta tb)) := by
 intro pins s σ H Q I h;refine wpAny_isTrue_Compare1 (aA (ha pins s σ H _ I h) λ v s1 ⟨x, H1, I1, r1, q1⟩ => aA (hb pins s1 σ H1 _ I1 q1) λ u s2 ⟨y, H2, I2, r2, q2⟩ =>
  aA (ho pins s2 σ H2 x y v u _ I2 r1 r2 q2) λ c s3 ⟨z, H3, I3, r3, k, e, q3⟩ => ?_) hm
 subst e;cases r3;exact Ō ⟨H3, I3, q3⟩
theorem jY : (sizeLine : Nat) < 2 ^ 63 := by rw [Ú]; decide
theorem ck {x : V} {us : List Value} (r : Vals [x] us) : ∃ u, us = [u] /\ RelV x u := by
 cases r with
 | cons r1 r2 => cases r2; exact ⟨_, rfl, r1⟩
theorem jx {x y : V} {us : List Value} (r : Vals [x, y] us) : ∃ u w', us = [u, w'] /\ RelV x u /\ RelV y w' := by
 cases r with
 | cons r1 r2 =>
  cases r2 with
  | cons r3 r4 => cases r4; exact ⟨_, _, rfl, r1, r3⟩
theorem q8 (hc : X.calm = true) : bv X (.builtin "max") (λ xs H Q => ∃ i j, xs = [.int i, .int j] /\ Q (.int (if j > i then j else i)) H) := by
 intro pins s σ H xs us Q I r h;obtain ⟨i, j, rfl, q⟩ := h;obtain ⟨u, w', rfl, ⟨t, rfl⟩, ⟨t', rfl⟩⟩ := jx r;refine max_two_ints (I.ok.hd hc) λ h' tk k => ⟨_, H, I.kept k, ?_, q⟩;by_cases hj : j > i
 ·rw [Õ hj, Õ hj]; exact ⟨_, rfl⟩
 ·rw [Ë hj, Ë hj]; exact ⟨_, rfl⟩
theorem qz (hc : X.calm = true) : bv X (.builtin "min") (λ xs H Q => ∃ i j, xs = [.int i, .int j] /\ Q (.int (if j < i then j else i)) H) := by
 intro pins s σ H xs us Q I r h;obtain ⟨i, j, rfl, q⟩ := h;obtain ⟨u, w', rfl, ⟨t, rfl⟩, ⟨t', rfl⟩⟩ := jx r;refine min_two_ints (I.ok.hd hc) λ h' tk k => ⟨_, H, I.kept k, ?_, q⟩;by_cases hj : j < i
 ·rw [Õ hj, Õ hj]; exact ⟨_, rfl⟩
 ·rw [Ë hj, Ë hj]; exact ⟨_, rfl⟩
theorem qC : bv X (.type "int") (λ xs H Q => (∃ i, xs = [.int i] /\ Q (.int i) H) \/ ∃ k, xs = [.bl k] /\ Q (.int (if k then 1 else 0)) H) := by
 intro pins s σ H xs us Q I r h;rcases h with ⟨i, rfl, q⟩ | ⟨k, rfl, q⟩
 ·obtain ⟨u, rfl, t, rfl⟩ := ck r;exact call_int_int ⟨.int i, H, I, ⟨_, rfl⟩, q⟩
 ·obtain ⟨u, rfl, r1⟩ := ck r;cases r1;exact call_int_bool ⟨.int (if k then 1 else 0), H, I.tok _, ⟨_, rfl⟩, q⟩
end
structure M1 (h : Heap) (x dx C : Addr) (mA : bu) : Prop where
 obj : h.get? x = some (PySem.W.instObj C dx)
 ns : h.Ns1 dx mA
 ne : dx ≠ x
theorem gs {h : Heap} {dx : Addr} {mA : bu} (n : h.Ns1 dx mA) : ∃ od, h.get? dx = some od /\ ∀ name, PySem.W.lookIn name od = some (mA name) := by
 obtain ⟨o, es, ep, ho, hd, hk, _, hm⟩ := n;refine ⟨o, ho, λ name => ?_⟩;have e := hm name;unfold nsFind findBy at e;rw [<- Array.find?_toList] at e;unfold PySem.W.lookIn;rw [hd]
 dsimp only
 split
 ·rename_i y q
  rw [q] at e;exact ĭ some e
 ·rename_i q
  rw [q] at e;have a : es.toList.any (·.refKey) = false := by
   rw [List.any_eq_false];intro y hy;obtain ⟨z, t, Qa⟩ := hk y (Array.mem_toList_iff.mp hy);simp [DictEntry.refKey, Qa]
  have a' : ¬ es.toList.any (·.refKey) = true := by rw [a]; exact Ì
  rw [Ë a'];exact ĭ some e
theorem M1.look {h : Heap} {x dx C : Addr} {mA : bu} (I : M1 h x dx C mA) : ∃ od, PySem.W.InstAt h x (PySem.W.instObj C dx) C (some od) /\ ∀ name, PySem.W.lookIn name od = some (mA name) :=
 let ⟨od, ho, hl⟩ := gs I.ns
 ⟨od, ⟨I.obj, rfl, rfl, ho⟩, hl⟩
theorem Ψ.some_of {v : V} {o : Option Value} (r : Ψ (some v) o) : ∃ u, o = some u /\ RelV v u := by
 cases o with
 | none => exact (show False from r).elim
 | some u => exact ⟨u, rfl, r⟩
theorem qO {v : V} {u : Value} (r : RelV v u) : PySem.W.handedIn u = true := by
 cases v with
 | Ė => cases (show u = Value.none from r); rfl
 | bl b => cases (show u = Value.bool b from r); rfl
 | int i => obtain ⟨t, e⟩ := (show ∃ t, u = Value.int i t from r); cases e; rfl
 | str x => obtain ⟨t, e⟩ := (show ∃ t, u = Value.str x t from r); cases e; rfl
 | J5 b => obtain ⟨t, e⟩ := (show ∃ t, u = Value.bytes b t from r); cases e; rfl
 | MV b => obtain ⟨t, e⟩ := (show ∃ t, u = Value.float b t from r); cases e; rfl
 | ref a => cases (show u = Value.ref a from r); rfl
 | ty n => cases (show u = Value.type n from r); rfl
section
variable {P : Program} {w : World} {H H' : Hp} {h h' : Heap} {a C dx : Addr} {fs We : List (Str × V)}
theorem xk (Ą : Ų P w H h) (e : H a = some (.ins C dx fs)) : ∃ mA, M1 h a dx C mA /\ (∀ f, Ψ (fs.lookup f) (mA f)) /\ PySem.Within mA (fs.map (·.1)) /\ fs.length <= 1000 /\ H dx = some (.own a) := by
 obtain ⟨d, z, ne, ob, mA, n, r, q⟩ := (show ù P w H h a (.ins C dx fs) from Ą a _ e);exact ⟨mA, ⟨ob, n, ne⟩, r, q, z, d⟩
end
structure Ra (K : PySem.W.Frag) (C : Addr) : Prop where
 pg : PySem.W.plainGet K C Str.empty = true
 hd : PySem.W.hasDictIn K C = true
 po : PySem.W.plainOver K C = true
 sa : PySem.W.findIn K (.ref C) "__setattr__" = some (some (.builtin "object.__setattr__"))
theorem Ra.get {K : PySem.W.Frag} {C : Addr} (c : Ra K C) (f : Str) : PySem.W.plainGet K C f = true := c.pg
section
variable {X : Cx} {pins : List (Addr × Obj)} {σ : St} {H : Hp} {s : Shared} {a C dx : Addr} {fs : List (Str × V)} {f : Str} {v : V} {A : Around} {E : bo}
theorem xf {prog : Program} {w : World} {env : Env} {e : Expr} {f : Str} {pos : Pos} {s : Shared} {Q : bo} (hb : attributeBase e f env (eval e env) = eval e env)
  (h : wpAny (model prog w) A (eval e env) (λ o ą => wpAny (model prog w) A (getAttr o f true) Q E ą) E s) : wpAny (model prog w) A (eval (.Attribute e f pos) env) Q E s :=
 Attribute_any_ h (by rw [arm_eval_Attribute, hb])
end
section
variable {X : Cx} {pins : List (Addr × Obj)} {σ : St} {H : Hp} {s : Shared} {A : Around} {E : bo} {Q : bo} {c : Value} {b : Bool}
inductive fZ (K : PySem.W.Frag) (H : Hp) : V -> Value -> Prop where
 | Ė : fZ K H .Ė (.type "NoneType")
 | bl (x : Bool) : fZ K H (.bl x) (.type "bool")
 | int (i : Int) : fZ K H (.int i) (.type "int")
 | str (x : Str) : fZ K H (.str x) (.type "str")
 | MV (x : UInt64) : fZ K H (.MV x) (.type "float")
 | lst {a : Addr} {xs : List V} (e : H a = some (.lst xs)) : fZ K H (.ref a) (.type "list")
 | f_ {a : Addr} {o : Obj} {xs : List V} (e : H a = some (.f_ o (.lst xs))) : fZ K H (.ref a) (.type "list")
 | tup {a : Addr} {xs : List V} (e : H a = some (.tup xs)) : fZ K H (.ref a) (.type "tuple")
 | dK {a : Addr} {kvs : List (Key × V)} (e : H a = some (.dK kvs)) : fZ K H (.ref a) (.type "dict")
 | dT {a : Addr} {kvs : List (List Key × V)} (e : H a = some (.dT kvs)) : fZ K H (.ref a) (.type "dict")
 | ins {a C dx : Addr} {fs : List (Str × V)} (e : H a = some (.ins C dx fs)) (cl : Ra K C) (ha : PySem.W.findIn K (.ref C) "__class__" = some (some (.builtin "object.__class__")))
   (hn : PySem.W.specialIn K (.builtin "object.__class__") "__get__" = some (some (.builtin "getset_descriptor.__get__"))) (M8 : PySem.W.takesIn K (.builtin "object.__class__") = some true)
   (hm : PySem.W.mroIn K C (.type "object") = some true) : fZ K H (.ref a) (.ref C)
theorem qE {x : V} {u t : Value} (I : Inv X pins σ H s) (rx : RelV x u) (ty : fZ X.K H x t) (e : PySem.W.kitOne X.K t c = some b) (h : ∀ tk, Q (.bool b) { s with toks := tk }) :
  wpAny (model X.prog X.w) A (call (.builtin "isinstance") [u, c]) Q E s := by
 cases ty with
 | Ė => cases (show u = Value.none from rx); exact č PySem.W.kitx_none I.Ε True.intro e (λ z => nomatch z) h
 | bl y => cases (show u = Value.bool y from rx); exact č PySem.W.kitx_bool I.Ε True.intro e (λ z => nomatch z) h
 | int i => obtain ⟨t, q⟩ := (show ∃ t, u = Value.int i t from rx); cases q; exact č PySem.W.kitx_int I.Ε True.intro e (λ z => nomatch z) h
 | str y => obtain ⟨t, q⟩ := (show ∃ t, u = Value.str y t from rx); cases q; exact č PySem.W.kitx_str I.Ε True.intro e (λ z => nomatch z) h
 | MV y => obtain ⟨t, q⟩ := (show ∃ t, u = Value.float y t from rx); cases q; exact č PySem.W.kitx_float I.Ε True.intro e (λ z => nomatch z) h
 | @lst a xs ea =>
  cases (show u = Value.ref a from rx);obtain ⟨_, _, n, _, h1⟩ := (show ù X.prog X.w H s.heap a (.lst xs) from I.Ą a _ ea);exact č PySem.W.kitx_list I.Ε ⟨_, h1, rfl⟩ e (λ z => nomatch z) h
 | @f_ a ob xs ea =>
  cases (show u = Value.ref a from rx);obtain ⟨_, _, _, n, _, h1⟩ := (show ù X.prog X.w H s.heap a (.f_ ob (.lst xs)) from I.Ą a _ ea);exact č PySem.W.kitx_list I.Ε ⟨_, h1, rfl⟩ e (λ z => nomatch z) h
 | @tup a xs ea =>
  cases (show u = Value.ref a from rx);obtain ⟨_, _, _, p⟩ := (show ù X.prog X.w H s.heap a (.tup xs) from I.Ą a _ ea);obtain ⟨o, h1, h2, _⟩ := p;exact č PySem.W.kitx_tuple I.Ε ⟨o, h1, h2⟩ e (λ z => nomatch z) h
 | @dK a kvs ea =>
  cases (show u = Value.ref a from rx);obtain ⟨_, _, vs, _, p⟩ := (show ù X.prog X.w H s.heap a (.dK kvs) from I.Ą a _ ea);obtain ⟨o, es, ep, h1, h2, _⟩ := p;exact č PySem.W.kitx_dict I.Ε ⟨o, h1, h2.1⟩ e (λ z => nomatch z) h
 | @dT a kvs ea =>
  cases (show u = Value.ref a from rx);obtain ⟨_, _, xs, _, o, es, ep, h1, h2, _⟩ := (show ù X.prog X.w H s.heap a (.dT kvs) from I.Ą a _ ea);exact č PySem.W.kitx_dict I.Ε ⟨o, h1, h2.1⟩ e (λ z => nomatch z) h
 | @ins a C dx fs ea cl ha hn M8 hm =>
  cases (show u = Value.ref a from rx);obtain ⟨mA, O, _⟩ := xk I.Ą ea;obtain ⟨od, J, _⟩ := O.look;exact č (PySem.W.kitx_own (cl.get _) cl.hd ha hn M8 hm) I.Ε J e (λ z => nomatch z) h
end
structure ė (k : Nat) (A : Around) : Prop where
 hd : A.handled = none
 dp : A.depth + 3 * k + 5 < recursionLimit
 un : A.units + 16 * k + 200 < cLine
 gd : A.guards = some []
theorem ė.mono {j k : Nat} {A : Around} (r : ė k A) (h : j <= k) : ė j A := ⟨r.hd, by have := r.dp; omega, by have := r.un; omega, r.gd⟩
theorem ė.deeper {k : Nat} {A : Around} (r : ė (k + 1) A) (env : Env) : ė k (A.deeper env) :=
 ⟨r.hd, by have := r.dp; show A.depth + 1 + 3 * k + 5 < _; omega, by have := r.un; show A.units + 3 + 16 * k + 200 < _; omega, r.gd⟩
theorem nA {A : Around} {C : Addr} {us : List Value} {kw : List (Str × Value)} : (A.under (.builtin "type.__call__" ⟨.ref C :: us, kw⟩)).depth = A.depth + 1 := by
 first | rfl | simp [Around.under, Code.weight, Code.isCreation, Code.isGuard, Code.isCaller, Code.frames, Code.isFrame, guardIds]
theorem nX {A : Around} {C : Addr} {us : List Value} {kw : List (Str × Value)} : (A.under (.builtin "type.__call__" ⟨.ref C :: us, kw⟩)).units = A.units + 1 := by
 first | rfl | simp [Around.under, Code.cUnits, Code.frames, Code.isFrame]
theorem ė.make {k : Nat} {A : Around} (r : ė (k + 1) A) (C : Addr) (us : List Value) (kw : List (Str × Value)) : ė k (A.under (.builtin "type.__call__" ⟨.ref C :: us, kw⟩)) :=
 ⟨r.hd, by have := r.dp; rw [nA]; omega, by have := r.un; rw [nX]; omega, by have h := r.gd; first | (simp only [Around.under]; rw [h]; rfl) | simp [Around.under, h, pushGuards, Code.guards, Code.isGuard, guardIds]⟩
theorem ė.depth {k : Nat} {A : Around} (r : ė k A) : A.depth < recursionLimit := by have := r.dp; omega
theorem ė.units {k : Nat} {A : Around} (r : ė k A) : A.units + 64 < cLine := by have := r.un; omega
theorem ė.Mi {k : Nat} {A : Around} (r : ė k A) : A.units < cLine := by have := r.un; omega
def aC : TA := λ _ H Q => Q [] H
def ac (ta : TE) (tr : TA) : TA := λ σ H Q => ta σ H λ x H1 => tr σ H1 λ xs H2 => Q (x :: xs) H2
section
variable {X : Cx} {e : Expr} {es : List Expr} {te : TE} {t : TA} {pos : Pos}
theorem ap : PA X [] aC := λ _ _ _ _ H Q I h => Calls.spliced_nil ⟨[], H, I, .nil, h⟩
theorem ae (ha : PE X e te) (hr : PA X es t) (hs : starEach (e :: es) X.env = (false, eval e X.env) :: starEach es X.env := by rfl) : PA X (e :: es) (ac te t) := by
 intro pos pins s σ H Q I h;rw [hs];show wpAny _ _ (spliced ((false, eval e X.env) :: backTo pos (starEach es X.env))) _ _ s;refine b_ (aA (ha pins s σ H _ I h) λ u s1 ⟨x, H1, I1, r1, q1⟩ => ?_);exact aA (hr pos pins s1 σ H1 _ I1 q1) λ us s2 ⟨xs, H2, I2, r2, q2⟩ => ⟨x :: xs, H2, I2, .cons r1 r2, q2⟩
def dE (t : TA) : TE := λ σ H Q => t σ H λ xs H1 => xs.length <= sizeLine /\ ∀ p, H1 p = none -> Q (.ref p) (ak H1 p (.tup xs))
def bC (t : TA) : TE := λ σ H Q => t σ H λ xs H1 => xs.length <= sizeLine /\ ∀ p, H1 p = none -> Q (.ref p) (ak H1 p (.lst xs))
theorem aO {x1} (h : PA X es t) : PE X (.Tuple es x1 pos) (dE t) := by
 intro pins s σ H Q I hq;refine wpAny_Tuple_spliced (aA (h pos pins s σ H _ I hq) λ us s1 ⟨xs, H1, I1, r, z, q⟩ => ⟨by rw [<- r.length]; exact z, ?_⟩)
 have hf : H1 s1.heap.objs.size = none := I1.Ą.fresh (Ä _);refine ⟨.ref s1.heap.objs.size, ak H1 s1.heap.objs.size (.tup xs), I1.laid (t' := s1.toks) (λ b u e => Á _ e) (Ä _) ?_, rfl, q _ hf⟩;exact ⟨z, us, r, ⟨_, Ç _ rfl, rfl, _, rfl⟩⟩
theorem aX (h : PA X es t) : PE X (.List es pos) (bC t) := by
 intro pins s σ H Q I hq;refine wpAny_List_spliced (aA (h pos pins s σ H _ I hq) λ us s1 ⟨xs, H1, I1, r, z, q⟩ => ⟨by rw [<- r.length]; exact z, ?_⟩)
 have hf : H1 s1.heap.objs.size = none := I1.Ą.fresh (Ä _);refine ⟨.ref s1.heap.objs.size, ak H1 s1.heap.objs.size (.lst xs), I1.laid (t' := s1.toks) (λ b u e => Á _ e) (Ä _) ?_, rfl, q _ hf⟩;exact ⟨z, us, 0, r, Ç _ rfl⟩
end
abbrev Sp := List V -> Hp -> VK -> XK -> Prop
abbrev kY := List Env -> Hp -> Shared -> XK -> Value -> Shared -> Prop
structure Jv (P : Program) (w : World) (K : PySem.W.Frag) (mg : bu) (base : Heap) (A : Around) (outer : List Env) (s : Shared) (H : Hp) : Prop where
 frames : A.frames = some outer
 mod : Mod K mg base
 bs : ∀ b o, base.get? b = some o -> s.heap.get? b = some o /\ H b = none
 JD : base.objs.size <= s.heap.objs.size
 ξ : s.heap.FunFrames base outer
 KY : ∀ b ∈ jp outer, H b = none
 Ą : Ų P w H s.heap
 bare : AllBare s.gens
def CE (outer : List Env) (P : Program) (w : World) (H : Hp) (s : Shared) (Q : VK) (u : Value) (s' : Shared) : Prop :=
 ∃ v H', s'.os = s.os /\ AllBare s'.gens /\ Un (jp outer) [] H H' s.heap s'.heap /\ Ų P w H' s'.heap /\ RelV v u /\ Q v H'
def CR (CX : kY) (outer : List Env) (P : Program) (w : World) (H : Hp) (s : Shared) (Q : VK) (E : XK) (r : Result) (s' : Shared) : Prop :=
 match r with
 | .ok (.ret u) => CE outer P w H s Q u s'
 | .ok _ => False
 | .error e => CX outer H s E e s'
structure az (P : Program) (w : World) (K : PySem.W.Frag) (mg : bu) (base : Heap) (CX : kY) (k : Nat) (f : Addr) (fd : FuncData) (ps : List Str) (sp : Sp) : Prop where
 len : ∀ vs H Q E, sp vs H Q E -> vs.length = ps.length
 run : ∀ (A : Around) (outer : List Env) (s : Shared) (H : Hp) (args : Args) (us : List Value) (vs : List V) (Q : VK) (E : XK), ė k A -> Jv P w K mg base A outer s H -> BindsTo s fd args (ps.zip us) -> Vals vs us -> sp vs H Q E ->
  codeAny (model P w) A (.call (.ref f) args) (CR CX outer P w H s Q E) s
theorem Jv.make {P : Program} {w : World} {K : PySem.W.Frag} {mg : bu} {base : Heap} {A : Around} {outer : List Env} {s : Shared} {H : Hp} (e : Jv P w K mg base A outer s H) (C : Addr) (us : List Value) (kw : List (Str × Value)) :
  Jv P w K mg base (A.under (.builtin "type.__call__" ⟨.ref C :: us, kw⟩)) outer s H := ⟨by first | exact e.frames | (simpa [Around.under, Code.envs, Code.isFrame, pushEnvs] using e.frames), e.mod, e.bs, e.JD, e.ξ, e.KY, e.Ą, e.bare⟩
section
variable {X : Cx} {pins : List (Addr × Obj)} {σ : St} {H : Hp} {s s' : Shared}
theorem Inv.MW (I : Inv X pins σ H s) : Jv X.prog X.w X.K X.mg X.base X.A X.stack s H :=
 ⟨I.ok.frames, I.ok.mod, I.bs, Ò I.ok.JD I.sz, I.stack, I.A_, I.Ą, I.bare⟩
theorem Inv.after {Q : VK} {u : Value} (I : Inv X pins σ H s) (h : CE X.stack X.prog X.w H s Q u s') : EP X pins σ Q u s' := by
 obtain ⟨v, H', os, bare, un, Ą, r, q⟩ := h;obtain ⟨hh, g, d, t, ū⟩ := s';obtain rfl : ū = s.os := os;exact ⟨v, H', I.call (h' := hh) (g' := g) (d' := d) (t' := t) (ch := []) un Ą bare (λ b z => absurd z (by simp)), r, q⟩
end
def c5 (sp : Sp) (dvs : List V) (E : XK) (t : TA) : TE := λ σ H Q => t σ H λ vs H1 => sp (vs ++ dvs) H1 Q E
def Binds (K : PySem.W.Frag) (fd : FuncData) (ps : List Str) (ds : List Value) : Prop :=
 ∀ (s : Shared) (us : List Value), K.In s.heap -> (us ++ ds).length = ps.length -> BindsTo s fd ⟨us, []⟩ (ps.zip (us ++ ds))
theorem Binds.all {K : PySem.W.Frag} {fd : FuncData} {ps : List Str} (h : ∀ us : List Value, us.length = ps.length -> bindArgs fd ⟨us, []⟩ = pure (ps.zip us)) : Binds K fd ps [] := λ s us _ hl => by
 rw [ü] at hl ⊢;exact .of_eq (h us hl)
def fA (CX : kY) (X : Cx) (E : XK) : Prop := ∀ (pins : List (Addr × Obj)) (σ : St) (H : Hp) (s : Shared) (e : Value) (s' : Shared), Inv X pins σ H s -> CX X.stack H s E e s' -> X.xe e s'
section
variable {X : Cx} {CX : kY} {k : Nat} {f C : Addr} {fd : FuncData} {ps : List Str} {sp : Sp} {dvs : List V} {ds : List Value} {E : XK} {x m : Str} {p pos ų : Pos} {e o : Expr} {es : List Expr} {ta : TE} {t : TA}
theorem uY {pins : List (Addr × Obj)} {σ : St} {H : Hp} {s : Shared} {Q : VK} {us : List Value} {vs : List V} (F : az X.prog X.w X.K X.mg X.base CX k f fd ps sp) (hr : ė k X.A) (hb : Binds X.K fd ps ds) (hd : Vals dvs ds) (hx : fA CX X E)
  (I : Inv X pins σ H s) (r : Vals vs us) (h : sp (vs ++ dvs) H Q E) : wpAny (model X.prog X.w) X.A (call (.ref f) us) (EP X pins σ Q) X.xe s := by
 have r2 : Vals (vs ++ dvs) (us ++ ds) := r.append hd;have hl : (us ++ ds).length = ps.length := by rw [<- r2.length]; exact F.len _ _ _ _ h
 refine ſ (Ih (F.run X.A X.stack s H ⟨us, []⟩ (us ++ ds) (vs ++ dvs) Q E hr I.MW (hb s us I.Ε hl) r2 h) λ r s' hq => ?_);cases r with
 | error e => exact hx pins σ H s e s' I hq
 | ok fl =>
  cases fl with
  | ret u => exact I.after hq
  | next => exact False.elim hq
  | brk => exact False.elim hq
  | cont => exact False.elim hq
theorem gf (F : az X.prog X.w X.K X.mg X.base CX k f fd ps sp) (hr : ė k X.A) (hg : Gl X x) (hm : X.mg x = some (.ref f)) (hk : PySem.W.keepIn X.K (.ref f) = true) (hb : Binds X.K fd ps ds) (hd : Vals dvs ds) (hx : fA CX X E)
  (ha : PA X (e :: es) t) (x_ : (x == ("__debug__" : Str)) = false := by decide) (he : starEach (e :: es) X.env = (false, eval e X.env) :: starEach es X.env := by rfl) (g_ : (backTo pos (starEach es X.env)).any (·.1) = false := by rfl) :
  PE X (.Call (.Name x p) (e :: es) [] pos) (c5 sp dvs E t) := by
 intro pins s σ H Q I h;refine Ĭ (dj I hg hm ?_ x_);refine Η (h₀ := X.base) I.ok.mod.M7 hk (aA (ha pos pins s σ H _ I h) λ us s1 ⟨vs, H1, I1, r, q⟩ => ⟨I1.Ε, ?_⟩) he g_;exact uY F hr hb hd hx I1 r q
end
structure ai (N P : List Str) (sc : Scope) : Prop where
 kind : sc.kind = .function
 co : sc.isCoroutine = false
 gen : sc.isGenerator = false
 nd : N.Nodup
 pre : N.take P.length = P
 par : ∀ x ∈ P, sc.names.lookup x = some .local \/ sc.names.lookup x = some .cell
 Jp : ∀ y ∈ sc.names, y.2 ≠ .free
theorem aS {N P : List Str} {sc : Scope} (a : sc.kind = .function := by rfl) (b : sc.isCoroutine = false := by rfl) (c : sc.isGenerator = false := by rfl) (d : N.Nodup := by decide +kernel) (e : N.take P.length = P := by rfl) (f : ∀ x ∈ P, sc.names.lookup x = some .local \/ sc.names.lookup x = some .cell := by decide +kernel) (g : ∀ y ∈ sc.names, y.2 ≠ .free := by decide +kernel) : ai N P sc := ⟨a, b, c, d, e, f, g⟩
theorem jD {kindOf : Str -> Option NameKind} {x : Str} : ∀ {binds : List (Str × Value)} {m : bu}, (∀ v, (x, v) ∉ binds) -> bindL kindOf binds m x = m x
 | [], _, _ => rfl
 | (n, v) :: r, m, h => by
  unfold bindL;rw [jD λ w hw => h w (Ó _ hw)];split
  ·have : x ≠ n := by rintro rfl; exact h v Ù
   simp [this]
  ·rfl
theorem jL {kindOf : Str -> Option NameKind} {x : Str} : ∀ {binds : List (Str × Value)} {m : bu}, (∀ v, (x, v) ∉ binds) -> bindC kindOf binds m x = m x
 | [], _, _ => rfl
 | (n, v) :: r, m, h => by
  unfold bindC;rw [jL λ w hw => h w (Ó _ hw)];split
  ·rfl
  ·have : x ≠ n := by rintro rfl; exact h v Ù
   simp [this]
theorem jT {kindOf : Str -> Option NameKind} {x : Str} {v : Value} : ∀ {P : List Str} {vs : List Value} {i : Nat} {m : bu}, P.Nodup -> P[i]? = some x -> vs[i]? = some v -> kindOf x = some .local ->
  bindL kindOf (P.zip vs) m x = some v
 | [], _, _, _, _, h, _, _ => by simp at h
 | _ :: _, [], _, _, _, _, h, _ => by simp at h
 | p :: P, w :: vs, 0, m, nd, h1, h2, hk => by
  simp at h1 h2; subst h1; subst h2;show bindL kindOf ((p, w) :: P.zip vs) m p = _;unfold bindL;rw [jD λ v hv => (ð.mp nd).1 (JN hv).1, Õ hk];simp
 | p :: P, w :: vs, i + 1, m, nd, h1, h2, hk => by
  show bindL kindOf ((p, w) :: P.zip vs) m x = _;unfold bindL;exact jT (i := i) (ð.mp nd).2 (by simpa using h1) (by simpa using h2) hk
theorem jI {kindOf : Str -> Option NameKind} {x : Str} {v : Value} : ∀ {P : List Str} {vs : List Value} {i : Nat} {m : bu}, P.Nodup -> P[i]? = some x -> vs[i]? = some v -> kindOf x ≠ some .local ->
  bindC kindOf (P.zip vs) m x = some v
 | [], _, _, _, _, h, _, _ => by simp at h
 | _ :: _, [], _, _, _, _, h, _ => by simp at h
 | p :: P, w :: vs, 0, m, nd, h1, h2, hk => by
  simp at h1 h2; subst h1; subst h2;show bindC kindOf ((p, w) :: P.zip vs) m p = _;unfold bindC;rw [jL λ v hv => (ð.mp nd).1 (JN hv).1, Ë hk];simp
 | p :: P, w :: vs, i + 1, m, nd, h1, h2, hk => by
  show bindC kindOf ((p, w) :: P.zip vs) m x = _;unfold bindC;exact jI (i := i) (ð.mp nd).2 (by simpa using h1) (by simpa using h2) hk
def dJ (N : List Str) (vs : List V) : St := vs.map some ++ List.replicate (N.length - vs.length) none
def ax (CX : kY) (P : Program) (w : World) (K : PySem.W.Frag) (mg : bu) (base : Heap) (N : List Str) (qual : Str) (scope : Scope) (f : Addr) (cd : Value) (A : Around) (outer : List Env) (s : Shared) (H : Hp) (E : XK) : Cx where
 prog := P
 w := w
 K := K
 mg := mg
 base := base
 A := A.deeper (envOfC qual scope s.heap.objs.size f cd)
 N := N
 ŏ := s
 Ju := H
 env := envOfC qual scope s.heap.objs.size f cd
 outer := outer
 stack := envOfC qual scope s.heap.objs.size f cd :: outer
 ex := []
 calm := true
 fn := λ _ => true
 pn := []
 xe := λ e s' => wpAny (model P w) (A.deeper (envOfC qual scope s.heap.objs.size f cd)) (leaving (envOfC qual scope s.heap.objs.size f cd) e) (λ _ O4 => CX outer H s E e O4) (λ e' O4 => CX outer H s E e' O4) s'
theorem lP {sc : Scope} {n : Nat} {x : Str} (h : sc.names.lookup x = some .cell) : ∃ c, (cellsFrom n sc.names []).lookup x = some c := by
 have q := L7 sc.names n [] (.inl h);exact Œ.mp q
theorem qH {CX : kY} {P : Program} {w : World} {K : PySem.W.Frag} {mg : bu} {base : Heap} {N ps : List Str} {qual : Str} {scope : Scope} {f : Addr} {cd : Value} {A : Around} {outer : List Env} {s s1 : Shared} {H : Hp} {E : XK} {us : List Value} {vs : List V}
  (S : ai N ps scope) (hd : A.handled = none) (e0 : Jv P w K mg base A outer s H) (hl : vs.length = ps.length) (r : Vals vs us)
  (x : InCallC s s.heap.objs.size (bindL (envOfC qual scope s.heap.objs.size f cd).kindOf (ps.zip us) λ _ => none) (cellsFrom (s.heap.objs.size + 1) scope.names []) (bindC (envOfC qual scope s.heap.objs.size f cd).kindOf (ps.zip us) λ _ => none) s1) :
  Inv (ax CX P w K mg base N qual scope f cd A outer s H E) [] (dJ N vs) H s1 := by
 have g_ : ps.length <= N.length := by have := ĭ List.length S.pre; rw [Jk] at this; omega
 obtain ⟨h1, tk, rfl, hk⟩ := x.done;have NF : ∀ b : Addr, b ∉ (ax CX P w K mg base N qual scope f cd A outer s H E).ex := λ b z => absurd (show b ∈ ([] : List Addr) from z) (by simp)
 refine ⟨⟨e0.mod, S.kind, rfl, rfl, Ä _, λ y z c h1 h2 => ?_, λ y hy => ?_, λ y c _ h => ?_, λ _ => hd, Around.frames_deeper e0.frames, .inr ⟨rfl, rfl⟩, λ b z => absurd z (NF b), e0.bs, e0.JD, λ b _ _ => NF b, λ b z => absurd z (NF b), e0.ξ, e0.KY⟩,
  rfl, e0.bare, Un.kept hk, ⟨_, x.toInCall.ns, λ i y v h1 h2 h3 => ?_⟩, λ y c h => ⟨_, x.cell y c h⟩, e0.Ą.fresh (Ä _), λ y c h => ?_, λ p hp => absurd (show p ∈ ([] : List (Addr × Obj)) from hp) (by simp), e0.Ą.kept hk, ?_⟩
 ·exact name_of_addr x.apart (ă h1) (ă h2)
 ·have hy : scope.names.lookup y = some .cell \/ scope.names.lookup y = some .free := hy;rcases hy with hy | hy
  ·exact lP hy
  ·exact absurd rfl (S.Jp _ (ă hy))
 ·exact Mb (x.above y c (ă h))
 ·have hi : i < vs.length := by
   unfold dJ at h2;by_cases hi : i < vs.length
   ·exact hi
   ·rw [Ι (by simpa using hi)] at h2
    rw [LJ] at h2;split at h2 <;> cases h2
  have ha : vs[i]? = some v := by
   unfold dJ at h2;rw [KL (by simpa using hi), List.getElem?_map] at h2
   cases e : vs[i]? with
   | none => rw [e] at h2; cases h2
   | some a => rw [e] at h2; cases h2; rfl
  obtain ⟨u, hu, rv⟩ := r.get ha;have hp : ps[i]? = some y := by
   rw [<- S.pre, List.getElem?_take_of_lt af]; exact h1
  have Ry : ps.Nodup := by rw [<- S.pre]; exact S.nd.sublist (List.take_sublist _ _)
  refine ⟨u, rv, ?_⟩;rcases S.par y (á hp) with k | k
  ·exact .inl ⟨k, jT Ry hp hu k⟩
  ·obtain ⟨c, e⟩ := lP (n := s.heap.objs.size + 1) k;refine .inr ⟨.inl k, c, e, ?_⟩;have q := x.cell y c e;rw [jI Ry hp hu (by show scope.names.lookup y ≠ _; rw [k]; decide)] at q
   exact q
 ·exact e0.Ą.fresh (Mb (x.above y c (ă h)))
 ·unfold dJ;show _ = N.length;rw [Ï, Å, ø];omega
theorem xW {CX : kY} {P : Program} {w : World} {K : PySem.W.Frag} {mg : bu} {base : Heap} {k : Nat} {f : Addr} {name qual : Str} {params : Arguments} {body : List Stmt} {scope : Scope} {dV kV doc pm ë ct oc : Value} {an od : Option Addr}
  {K4 : Array (Option Value)} {N ps : List Str} {sp : Sp} (lk : K.lookup f = some ⟨oc, od, .func (PySem.W.fnOf name qual params body scope dV kV doc pm an ë ct), K4⟩) (JV : PySem.W.codeIn K ë qual = true) (S : ai N ps scope)
  (len : ∀ vs H Q E, sp vs H Q E -> vs.length = ps.length)
  (e_ : ∀ (A : Around) (outer : List Env) (s : Shared) (H : Hp) (vs : List V) (Q : VK) (E : XK), ė k (A.deeper (envOfC qual scope s.heap.objs.size f ë)) -> sp vs H Q E ->
   ∃ t, Ο (ax CX P w K mg base N qual scope f ë A outer s H E) body t /\ t { nx := λ _ H' => Q .Ė H', rt := Q } (dJ N vs) H) :
  az P w K mg base CX (k + 1) f (PySem.W.fnOf name qual params body scope dV kV doc pm an ë ct) ps sp := by
 refine ⟨len, λ A outer s H args us vs Q E hr e0 hb r IZ => ?_⟩;have hl := len _ _ _ _ IZ;have KX : K.In s.heap := e0.mod.M7.keeps λ b o e => (e0.bs b o e).1;have lim : s.heap.NoLimit := e0.mod.nolimit.keeps λ b o e => (e0.bs b o e).1;have NZ : ∀ y ∈ ps.zip us, scope.names.lookup y.1 = some .local \/ (scope.names.lookup y.1 = some .cell /\ ((cellsFrom (s.heap.objs.size + 1) scope.names []).lookup y.1).isSome = true) := λ ⟨n, v⟩ hy => by
  rcases S.par n (JN hy).1 with q | q
  ·exact .inl q
  ·exact .inr ⟨q, L7 _ _ _ (.inl q)⟩
 refine codeAny_call_function hr.depth (KX _ _ lk) rfl S.co S.gen rfl (PySem.W.codeRec_of KX JV) (hb _ _ _ _ ?_);refine wpAny_newFunctionEnv_cells S.kind NZ λ env he s1 x => ?_;subst he;refine ⟨lim.keeps x.toInCall.keep, codeAny_func ?_⟩;obtain ⟨t, ht, hq⟩ := e_ A outer s H vs Q E (hr.deeper _) IZ;have I : Inv (ax CX P w K mg base N qual scope f ë A outer s H E) [] (dJ N vs) H s1 := qH S hr.hd e0 hl r x;refine é (ht [] s1 (dJ N vs) H _ I hq) (λ fl s' hs => ?_) λ e s' hs => hs;have fin : ∀ {Ē : St} {H' : Hp} {v : V} {u : Value}, Inv (ax CX P w K mg base N qual scope f ë A outer s H E) [] Ē H' s' -> RelV v u -> Q v H' -> CE outer P w H s Q u s' :=
  λ {Ē H' v u} J rv q => ⟨v, H', J.os, J.bare, J.base, J.Ą, rv, q⟩
 cases fl with
 | ret u =>
  obtain ⟨v, Ē, H', J, rv, q⟩ := hs;exact fin J rv q
 | next =>
  obtain ⟨Ē, H', J, q⟩ := hs;exact fin (v := V.Ė) (u := Value.none) J rfl q
 | brk =>
  obtain ⟨_, _, _, q⟩ := hs;exact False.elim q
 | cont =>
  obtain ⟨_, _, _, q⟩ := hs;exact False.elim q
section
variable {X : Cx} {x : Str} {p pos : Pos} {e : Expr} {es : List Expr} {t : TA} {id T : String} {r : List V -> Hp -> VK -> Prop}
def eY (r : List V -> Hp -> VK -> Prop) (t : TA) : TE := λ σ H Q => t σ H λ vs H1 => r vs H1 Q
theorem ah (hc : bv X (.builtin id) r) (hg : Gl X x) (hm : X.mg x = none) (hv : bootBuiltins x = some (.builtin id)) (ha : PA X (e :: es) t) (hn : x ≠ "__name__" := by decide) (x_ : (x == ("__debug__" : Str)) = false := by decide)
  (he : starEach (e :: es) X.env = (false, eval e X.env) :: starEach es X.env := by rfl) (g_ : (backTo pos (starEach es X.env)).any (·.1) = false := by rfl) : PE X (.Call (.Name x p) (e :: es) [] pos) (eY r t) := by
 intro pins s σ H Q I h;refine Ĭ (fq I hg hm hv ?_ hn x_);exact Ũ (aA (ha pos pins s σ H _ I h) λ us s1 ⟨vs, H1, I1, r1, q1⟩ => hc pins s1 σ H1 vs us Q I1 r1 q1) he g_
theorem cw (hc : bv X (.type T) r) (hg : Gl X x) (hm : X.mg x = none) (hv : bootBuiltins x = some (.type T)) (ha : PA X (e :: es) t) (hn : x ≠ "__name__" := by decide) (x_ : (x == ("__debug__" : Str)) = false := by decide)
  (he : starEach (e :: es) X.env = (false, eval e X.env) :: starEach es X.env := by rfl) (g_ : (backTo pos (starEach es X.env)).any (·.1) = false := by rfl) : PE X (.Call (.Name x p) (e :: es) [] pos) (eY r t) := by
 intro pins s σ H Q I h;refine Ĭ (fq I hg hm hv ?_ hn x_);exact ļ (aA (ha pos pins s σ H _ I h) λ us s1 ⟨vs, H1, I1, r1, q1⟩ => hc pins s1 σ H1 vs us Q I1 r1 q1) he g_
end
end L2
namespace HT
open PySem PyProof.Rows
section
variable {prog : Program} {w : World} {A : Around} {E : bo} {s : Shared}
def Jo (n d : Nat) : Option Int -> Nat
 | none => d
 | some v => if v < 0 then (v + (n : Int)).toNat else min v.toNat n
end
end HT
namespace L2
open PySem PySem.Spec PyProof.Rows
abbrev TO := St -> Hp -> (Option Int -> Hp -> Prop) -> Prop
def PO (X : Cx) (e : Option Expr) (t : TO) : Prop :=
 ∀ (pins : List (Addr × Obj)) (s : Shared) (σ : St) (H : Hp) (Q : Option Int -> Hp -> Prop), Inv X pins σ H s -> t σ H Q ->
  wpAny (model X.prog X.w) X.A (evalPart e X.env) (λ u s' => ∃ o H', Inv X pins σ H' s' /\ IsPart u o /\ Q o H') X.xe s
def pW : TO := λ _ H Q => Q none H
def ye (t : TE) : TO := λ σ H Q => t σ H λ x H1 => ∃ i, x = .int i /\ Q (some i) H1
theorem nB {ns : List Int} : ∀ {us : List Value}, Vals (ns.map V.int) us -> IntsAre us ns := by
 induction ns with
 | nil => intro us r; rw [Md] at r; cases r; exact .nil
 | cons n ns ih =>
  intro us r;rw [É] at r;cases r with
  | cons r1 r2 =>
   obtain ⟨t, e⟩ := r1;subst e;exact .cons n t (ih r2)
section
variable {X : Cx} {e : Expr} {te : TE} {lo hi : Option Expr} {tl th : TO} {pos p2 : Pos}
theorem vz : PO X none pW := by
 intro pins s σ H Q I h;rw [evalPart_none];exact Â ⟨none, H, I, .none, h⟩
theorem wY (h : PE X e te) : PO X (some e) (ye te) := by
 intro pins s σ H Q I hw;rw [evalPart_some];refine aA (h pins s σ H _ I hw) λ u s1 ⟨x, H1, I1, r1, q1⟩ => ?_;obtain ⟨i, rfl, q⟩ := q1;obtain ⟨t, rfl⟩ := r1;exact ⟨some i, H1, I1, .int i t, q⟩
def Hg (X : Cx) (r : V -> Option Int -> Option Int -> Hp -> VK -> Prop) : Prop :=
 ∀ (pins : List (Addr × Obj)) (s : Shared) (σ : St) (H : Hp) (x : V) (v vl vu : Value) (lo hi : Option Int) (sl : Addr) (Q : VK), Inv X pins σ H s -> RelV x v -> s.heap.IsSliceOf sl vl vu .none -> IsPart vl lo -> IsPart vu hi -> r x lo hi H Q ->
  ∃ T id, typeLookup (.type T) "__getitem__" = pure (some (.builtin id)) /\ s.TypeIs v T /\ wpAny (model X.prog X.w) X.A (getItem v (.ref sl)) (EP X pins σ Q) X.xe s
def G6 (r : V -> Option Int -> Option Int -> Hp -> VK -> Prop) (te : TE) (tl th : TO) : TE := λ σ H Q => te σ H λ x H1 => tl σ H1 λ l H2 => th σ H2 λ u H3 => r x l u H3 Q
theorem ux {r : V -> Option Int -> Option Int -> Hp -> VK -> Prop} (hr : Hg X r) (he : PE X e te) (hl : PO X lo tl) (hu : PO X hi th) : PE X (.Subscript e (.Slice lo hi none p2) pos) (G6 r te tl th) := by
 intro pins s σ H Q I h;refine Subscript_ (aA (he pins s σ H _ I h) λ v s1 ⟨x, H1, I1, r1, q1⟩ => ?_);refine wpAny_Slice (aA (hl pins s1 σ H1 _ I1 q1) λ vl s2 ⟨l, H2, I2, pl, q2⟩ => aA (hu pins s2 σ H2 _ I2 q2) λ vu s3 ⟨u, H3, I3, pu, q3⟩ => ?_);rw [evalPart_none];refine Â ?_;have I4 : Inv X pins σ H3 { s3 with heap := s3.heap.push { cls := .type "slice", data := .fields #[vl, vu, .none] } } := I3.kept (t' := s3.toks) λ b ob q => Á _ q
 obtain ⟨T, id, hT, ht, hg⟩ := hr pins { s3 with heap := s3.heap.push { cls := .type "slice", data := .fields #[vl, vu, .none] } } σ H3 x v vl vu l u s3.heap.objs.size Q I4 r1 (Heap.IsSliceOf.new ..) pl pu q3;show wpAny (model X.prog X.w) X.A (subscriptTail e (.Slice lo hi none p2) v (.ref s3.heap.objs.size)) (EP X pins σ Q) X.xe { s3 with heap := s3.heap.push { cls := .type "slice", data := .fields #[vl, vu, .none] } }
 exact tail_any (ops := [.ref s3.heap.objs.size, v]) ht hT hg (by with_unfolding_all rfl)
def mB (xs : List V) (lo hi : Option Int) : List V := (xs.drop (HT.Jo xs.length 0 lo)).take (HT.Jo xs.length xs.length hi - HT.Jo xs.length 0 lo)
theorem gI (xs : List V) (lo hi : Option Int) : (mB xs lo hi).length <= xs.length := by
 unfold mB;rw [Jk, List.length_drop];omega
end
def vd (n : Nat) (i : Int) : Option Nat := if 0 <= i then (if i < n then some i.toNat else none) else if -(n : Int) <= i then some (i + n).toNat else none
def mT {α : Type} (xs : List α) (i : Int) : Option α := (vd xs.length i).bind λ j => xs[j]?
theorem pQ {n : Nat} {i : Int} {j : Nat} (h : vd n i = some j) : seqIndex? i n = some j /\ j < n /\ -(n : Int) <= i /\ i < n := by
 unfold vd at h;by_cases h0 : 0 <= i
 ·rw [Õ h0] at h;by_cases h1 : i < n
  ·rw [Õ h1] at h;have e : i.toNat = j := Ð h;exact ⟨by rw [seqIndex_of h0 h1, e], af, af, h1⟩
  ·rw [Ë h1] at h; cases h
 ·rw [Ë h0] at h;by_cases h1 : -(n : Int) <= i
  ·rw [Õ h1] at h;have e : (i + n).toNat = j := Ð h;exact ⟨by rw [seqIndex_neg af h1, e], af, h1, af⟩
  ·rw [Ë h1] at h; cases h
theorem oN {α : Type} {xs : List α} {i : Int} {v : α} (h : mT xs i = some v) : ∃ j, seqIndex? i xs.length = some j /\ xs[j]? = some v /\ j < xs.length /\ -(xs.length : Int) <= i /\ i < xs.length := by
 unfold mT at h;cases e : vd xs.length i with
 | none => rw [e] at h; cases h
 | some j =>
  rw [e] at h;obtain ⟨h1, h2, h3, h4⟩ := pQ e;exact ⟨j, h1, h, h2, h3, h4⟩
theorem zj {α : Type} {xs : List α} {j : Nat} {v : α} (h : xs[j]? = some v) : mT xs (j : Int) = some v := by
 have hj : j < xs.length := (Ö.mp h).1;have e : vd xs.length (j : Int) = some j := by
  unfold vd;rw [Õ af, Õ af]; simp
 unfold mT; rw [e]; exact h
theorem lF {α : Type} (xs : List α) (v : α) : mT (xs ++ [v]) (-1) = some v := by
 have hl : (xs ++ [v]).length = xs.length + 1 := by simp
 have e : vd (xs ++ [v]).length (-1) = some xs.length := by
  unfold vd;rw [hl, Ë am, Õ af]
  congr 1
  omega
 unfold mT;rw [e];show (xs ++ [v])[xs.length]? = some v;simp
def kT (b : Expr) : Prop := ∀ o i, subscripted b false o i = operate [o, i] (getItem o i)
def Bq (X : Cx) (r : R2) : Prop :=
 ∀ (value slice : Expr) (pins : List (Addr × Obj)) (s : Shared) (σ : St) (H : Hp) (x y : V) (v u : Value) (Q : VK), Inv X pins σ H s -> RelV x v -> RelV y u -> r x y H Q ->
  subscripted slice false v u = operate [v, u] (getItem v u) -> wpAny (model X.prog X.w) X.A (subscriptTail value slice v u) (EP X pins σ Q) X.xe s
def DX (X : Cx) (id : String) (r : V -> List V -> Hp -> VK -> Prop) : Prop :=
 ∀ (pins : List (Addr × Obj)) (s : Shared) (σ : St) (H : Hp) (x : V) (xs : List V) (v : Value) (us : List Value) (Q : VK), Inv X pins σ H s -> RelV x v -> Vals xs us -> r x xs H Q ->
  wpAny (model X.prog X.w) X.A (call (.builtin id) (v :: us)) (EP X pins σ Q) X.xe s
section
variable {X : Cx} {a b : Expr} {ta tb : TE} {pos : Pos}
theorem Dt {r : R2} (hr : Bq X r) (ha : PE X a ta) (hb : PE X b tb) (hs : kT b) : PE X (.Subscript a b pos) (bc r ta tb) := by
 intro pins s σ H Q I h;exact Subscript_ (zO ha hb I h λ v u s2 x y H2 I2 rx ry q => hr a b pins s2 σ H2 x y v u Q I2 rx ry q (hs _ _))
theorem c6 {r : R2} (hr : Bq X r) (ha : PE X a ta) (hb : PE X b tb) (hs : kT b := by exact λ _ _ => rfl) : PE X (.Subscript a b pos) (bc r ta tb) := Dt hr ha hb hs
def gM (K : PySem.W.Frag) : R2 := λ x y H Q => ∃ p xs i v, x = .ref p /\ y = .int i /\ û K H p xs /\ mT xs i = some v /\ Q v H
def xn (K : PySem.W.Frag) : R2 := λ x y H Q => ∃ p xs i v, x = .ref p /\ y = .int i /\ ĕ K H p xs /\ mT xs i = some v /\ Q v H
theorem kX : Bq X (gM X.K) := by
 intro value slice pins s σ H x y v u Q I rx ry h hs;obtain ⟨p, xs, i, z, rfl, rfl, hq, he, q⟩ := h;cases rx;obtain ⟨t, rfl⟩ := ry;obtain ⟨its, r, pl, hz⟩ := I.list hq;obtain ⟨j, h1, h2, h3, h4, h5⟩ := oN he;obtain ⟨w, ew, Iu⟩ := r.get h2;have hl := r.length;have hn := jY;have fin : EP X pins σ Q w s := ⟨z, H, I, Iu, q⟩;by_cases h0 : 0 <= i
 ·have hj : i.toNat = j := by
   rw [seqIndex_of h0 h5] at h1;exact Ð h1
  exact item_listR pl.isList h0 af (by rw [hj]; simpa using ew) fin hs
 ·have hj : (i + (its.toArray.size : Int)).toNat = j := by
   rw [seqIndex_neg af h4] at h1;rw [Ô, <- hl];exact Ð h1
  exact subscriptTail_builtinR (x := w) pl.isList.typeIs slot_list_getitem.lookup
   (wpAny_getItem_list_neg (Q := λ r s' => r = w /\ EP X pins σ Q r s') pl.isList af (by rw [Ô] <;> omega) af (by rw [hj]; simpa using ew) ⟨rfl, fin⟩) hs
theorem gF : Bq X (xn X.K) := by
 intro value slice pins s σ H x y v u Q I rx ry h hs;obtain ⟨p, xs, i, z, rfl, rfl, hq, he, q⟩ := h;cases rx;obtain ⟨t, rfl⟩ := ry;obtain ⟨its, r, pl, hz⟩ := I.tuple hq;obtain ⟨j, h1, h2, h3, h4, h5⟩ := oN he;obtain ⟨w, ew, Iu⟩ := r.get h2;have hl := r.length;have hn := jY;have fin : EP X pins σ Q w s := ⟨z, H, I, Iu, q⟩;exact subscriptTail_builtinR (x := w) pl.typeIs slot_tuple_getitem.lookup
  (getItem_tuple (j := j) (Q := λ r s' => r = w /\ EP X pins σ Q r s') pl af af (by rw [Ô, <- hl]; exact h1) (by simpa using ew) ⟨rfl, fin⟩) hs
theorem om (its : List Value) (n j : Nat) (u : Value) : Obj.mapSeq (·.setIfInBounds j u) { cls := .type "list", data := .seq its.toArray n } = { cls := .type "list", data := .seq (its.set j u).toArray n } := by
 simp [Obj.mapSeq]
theorem Inv.lst {pins : List (Addr × Obj)} {σ : St} {H : Hp} {s : Shared} {p : Addr} {xs : List V} (I : Inv X pins σ H s) (h : H p = some (.lst xs)) :
  ∃ (its : List Value) (n : Nat), Vals xs its /\ s.heap.get? p = some { cls := .type "list", data := .seq its.toArray n } /\ xs.length <= sizeLine := by
 obtain ⟨z, its, n, r, e⟩ := I.Ą p _ h;exact ⟨its, n, r, e, z⟩
theorem Inv.Mz {pins : List (Addr × Obj)} {σ : St} {H : Hp} {s : Shared} {p : Addr} {xs ys : List V} {its its' : List Value} {n n' : Nat} {f : Obj -> Obj} (I : Inv X pins σ H s) (h : H p = some (.lst xs))
  (ho : s.heap.get? p = some { cls := .type "list", data := .seq its.toArray n }) (hf : f { cls := .type "list", data := .seq its.toArray n } = { cls := .type "list", data := .seq its'.toArray n' }) (r : Vals ys its') (hz : ys.length <= sizeLine) (t : Nat) :
  Inv X pins σ (ak H p (.lst ys)) { s with heap := s.heap.update p f, toks := t } := by
 have e : (s.heap.update p f).get? p = some { cls := .type "list", data := .seq its'.toArray n' } := by
  rw [ï f ho (by rw [hf] <;> rfl), hf]
 refine I.write (x := p) (e := p) (by rw [h]; trivial) (.inl rfl) (λ b u hb q => (Heap.get?_update_other _ _ (Ne.symm hb)).trans q) ⟨_, e⟩ ?_
 exact ⟨hz, its', n', r, e⟩
def Bb : V -> V -> V -> Hp -> (Hp -> Prop) -> Prop := λ o i v H Q => ∃ p xs k j, o = .ref p /\ i = .int k /\ H p = some (.lst xs) /\ vd xs.length k = some j /\ Q (ak H p (.lst (xs.set j v)))
theorem lG : Cu X Bb := by
 intro pins s σ H o i v ov iv u Q I ro ri rv h;obtain ⟨p, xs, k, j, rfl, rfl, hp, hj, q⟩ := h;cases ro;obtain ⟨t, rfl⟩ := ri;obtain ⟨its, n, r, ho, hz⟩ := I.lst hp;obtain ⟨h1, h2, h3, h4⟩ := pQ hj;have hl := r.length;have hn := jY;have I' : Inv X pins σ (ak H p (.lst (xs.set j v))) { s with heap := s.heap.update p (Obj.mapSeq (·.setIfInBounds j u)) } :=
  I.Mz hp ho (om its n j u) (r.set rv j) (by rw [List.length_set]; exact hz) s.toks
 by_cases h0 : 0 <= k
 ·have hk : k.toNat = j := by
   rw [seqIndex_of h0 h4] at h1;exact Ð h1
  exact PySem.W.ki_setAt ho h0 af (by rw [Ô, <- hl]; exact h4) (by rw [hk]; exact ⟨_, I', q⟩)
 ·have hk : (k + (its.toArray.size : Int)).toNat = j := by
   rw [seqIndex_neg af h3] at h1;rw [Ô, <- hl];exact Ð h1
  exact PySem.W.ki_setBack ho af (by rw [Ô, <- hl]; exact h3) af (by rw [hk]; exact ⟨_, I', q⟩)
theorem kF (lo hi : Option Int) (n : Nat) : (sliceBounds lo hi none n).1 = ((HT.Jo n 0 lo : Nat) : Int) /\ (sliceBounds lo hi none n).2.1 = ((HT.Jo n n hi : Nat) : Int) /\ (sliceBounds lo hi none n).2.2 = 1 := by
 refine ⟨?_, ?_, rfl⟩
 ·cases lo with
  | none => simp [sliceBounds, HT.Jo]
  | some i =>
   simp only [sliceBounds, HT.Jo, Option.getD_none, show (1 : Int) > 0 by decide, if_true]
   by_cases h : i < 0
   ·simp only [h, if_true] <;> omega
   ·simp only [h, if_false] <;> omega
 ·cases hi with
  | none => simp [sliceBounds, HT.Jo]
  | some i =>
   simp only [sliceBounds, HT.Jo, Option.getD_none, show (1 : Int) > 0 by decide, if_true]
   by_cases h : i < 0
   ·simp only [h, if_true] <;> omega
   ·simp only [h, if_false] <;> omega
theorem je (its : List Value) (lo hi : Option Int) : slicePick its.toArray lo hi none = ((its.drop (HT.Jo its.length 0 lo)).take (HT.Jo its.length its.length hi - HT.Jo its.length 0 lo)).toArray := by
 obtain ⟨h1, h2, h3⟩ := kF lo hi its.toArray.size;unfold slicePick;rw [h1, h2, h3];simp only [sliceRange_one, pick_run, List.size_toArray] <;> rfl
def Dh (K : PySem.W.Frag) : V -> Option Int -> Option Int -> Hp -> VK -> Prop := λ x lo hi H Q => ∃ a xs, x = .ref a /\ û K H a xs /\ ∀ p, H p = none -> Q (.ref p) (ak H p (.lst (mB xs lo hi)))
theorem w5 : Hg X (Dh X.K) := by
 intro pins s σ H x v vl vu lo hi sl Q I rx hs pl pu h;obtain ⟨a, xs, rfl, hx, q⟩ := h;cases rx;obtain ⟨its, r, ht, hz⟩ := I.list hx;have ŋ := r.length;refine ⟨"list", _, slot_list_getitem.lookup, ht.isList.typeIs, ?_⟩;refine wpAny_getItem_list_slice ht.isList hs pl pu .none (by simp) ?_ (by rw [List.size_toArray] <;> omega)
 rw [je, <- ŋ];refine ⟨.ref s.heap.objs.size, _, I.laid (t' := s.toks) (o := .lst (mB xs lo hi)) (λ b ob q => Á _ q) (Ä _) ?_, rfl, q _ (I.Ą.fresh (Ä _))⟩;exact ⟨Ò (gI xs lo hi) hz, _, 0, (r.drop (HT.Jo xs.length 0 lo)).take (HT.Jo xs.length xs.length hi - HT.Jo xs.length 0 lo), Ç _ rfl⟩
def ff : V -> Bool
 | .Ė => true
 | .bl _ => true
 | .int _ => true
 | .str _ => true
 | _ => false
def Am : V -> V -> Bool
 | .Ė, .Ė => true
 | .bl a, .bl b => a == b
 | .bl a, .int b => (if a then 1 else 0) == b
 | .int a, .bl b => a == (if b then 1 else 0)
 | .int a, .int b => a == b
 | .str a, .str b => a == b
 | _, _ => false
theorem AE {A : Around} {s : Shared} {y x : V} {u v : Value} (ry : RelV y u) (rx : RelV x v) (fy : ff y = true) (fx : ff x = true) : SeqAt.EqAt A s u v (Am y x) := by
 cases y with
 | Ė =>
  cases ry;cases x with
  | Ė => cases rx; exact Φ _
  | bl b => cases rx; exact SeqAt.EqAt.none_bool b
  | int b => obtain ⟨t, rfl⟩ := rx; exact SeqAt.EqAt.none_int b t
  | str b => obtain ⟨t, rfl⟩ := rx; exact SeqAt.EqAt.none_str b t
  | _ => exact absurd (show false = true from fx) Ì
 | bl a =>
  cases ry;cases x with
  | Ė => cases rx; exact SeqAt.EqAt.bool_none a
  | bl b => cases rx; exact SeqAt.EqAt.bool_bool a b
  | int b => obtain ⟨t, rfl⟩ := rx; exact SeqAt.EqAt.bool_int a b t
  | str b => obtain ⟨t, rfl⟩ := rx; exact SeqAt.EqAt.bool_str a b t
  | _ => exact absurd (show false = true from fx) Ì
 | int a =>
  obtain ⟨t', rfl⟩ := ry;cases x with
  | Ė => cases rx; exact SeqAt.EqAt.int_none a t'
  | bl b => cases rx; exact SeqAt.EqAt.int_bool a t' b
  | int b => obtain ⟨t, rfl⟩ := rx; exact SeqAt.EqAt.int_int a t' b t
  | str b => obtain ⟨t, rfl⟩ := rx; exact SeqAt.EqAt.int_str a t' b t
  | _ => exact absurd (show false = true from fx) Ì
 | str a =>
  obtain ⟨t', rfl⟩ := ry;cases x with
  | Ė => cases rx; exact SeqAt.EqAt.str_none a t'
  | bl b => cases rx; exact SeqAt.EqAt.str_bool a t' b
  | int b => obtain ⟨t, rfl⟩ := rx; exact SeqAt.EqAt.str_int a t' b t
  | str b => obtain ⟨t, rfl⟩ := rx; exact SeqAt.EqAt.str_str a t' b t
  | _ => exact absurd (show false = true from fx) Ì
 | _ => exact absurd (show false = true from fy) Ì
theorem au : bv X (.builtin "len") (λ xs H Q => ∃ p ys, xs = [.ref p] /\ (û X.K H p ys \/ ĕ X.K H p ys) /\ Q (.int ys.length) H) := by
 intro pins s σ H xs us Q I r h;obtain ⟨p, ys, rfl, hq, q⟩ := h;obtain ⟨u, rfl, rx⟩ := ck r;cases rx;have hn := jY;rcases hq with hq | hq
 ·obtain ⟨its, r', pl, hz⟩ := I.list hq;have ŋ := r'.length;exact Calls.call_len_list pl.isList (by simp only [List.size_toArray] <;> omega) ⟨.int ys.length, H, I.tok _, ⟨s.toks + 1, by rw [Ô, ŋ]⟩, q⟩
 ·obtain ⟨its, r', pl, hz⟩ := I.tuple hq;have ŋ := r'.length;exact len_tuple pl (by simp only [List.size_toArray] <;> omega) ⟨.int ys.length, H, I.tok _, ⟨s.toks + 1, by rw [Ô, ŋ]⟩, q⟩
theorem kH : bv X (.type "list") (λ xs H Q => ∃ p ys, xs = [.ref p] /\ (û X.K H p ys \/ ĕ X.K H p ys) /\ ∀ l, H l = none -> Q (.ref l) (ak H l (.lst ys))) := by
 intro pins s σ H xs us Q I r h;obtain ⟨p, ys, rfl, hq, q⟩ := h;obtain ⟨u, rfl, rx⟩ := ck r;cases rx;have fin : ∀ (its : List Value), Vals ys its -> ys.length <= sizeLine -> ∀ (h' : Heap) (c' : Nat), (∀ b o', s.heap.get? b = some o' -> h'.get? b = some o') ->
   h'.get? s.heap.objs.size = some { cls := .type "list", dict := none, data := .seq its.toArray c', slots := #[] } -> EP X pins σ Q (.ref s.heap.objs.size) { s with heap := h' } := λ its r' hz h' c' kp e =>
  ⟨.ref s.heap.objs.size, _, I.laid (t' := s.toks) kp (Ä _) (show ù X.prog X.w _ h' _ (.lst ys) from ⟨hz, its, c', r', e⟩), rfl, q _ (I.Ą.fresh (Ä _))⟩
 rcases hq with hq | hq
 ·obtain ⟨its, r', pl, hz⟩ := I.list hq;have ŋ := r'.length;obtain ⟨o, ho, hc, n, hd⟩ := pl.isList;exact call_list_seq p (.inl rfl) ho hc hd (λ h' c' kp e => fin its r' hz h' c' kp e) (by simp only [List.size_toArray] <;> omega)
 ·obtain ⟨its, r', pl, hz⟩ := I.tuple hq;have ŋ := r'.length;obtain ⟨o, ho, hc, n, hd⟩ := pl;exact call_list_seq p (.inr rfl) ho hc hd (λ h' c' kp e => fin its r' hz h' c' kp e) (by simp only [List.size_toArray] <;> omega)
theorem fh : bv X (.type "tuple") (λ xs H Q => ∃ p ys, xs = [.ref p] /\ ((û X.K H p ys /\ ∀ l, H l = none -> Q (.ref l) (ak H l (.tup ys))) \/ (ĕ X.K H p ys /\ Q (.ref p) H))) := by
 intro pins s σ H xs us Q I r h;obtain ⟨p, ys, rfl, h⟩ := h;obtain ⟨u, rfl, rx⟩ := ck r;cases rx;rcases h with ⟨hq, q⟩ | ⟨hq, q⟩
 ·obtain ⟨its, r', pl, hz⟩ := I.list hq;have ŋ := r'.length;refine call_tuple_list pl.isList (λ h' kp => ?_) (by simp only [List.size_toArray] <;> omega)
  have I1 : Inv X pins σ H { s with heap := h' } := I.kept (t' := s.toks) kp
  have I2 : Inv X pins σ (ak H h'.objs.size (.tup ys)) { s with heap := h'.push { cls := .type "tuple", data := .seq its.toArray } } :=
   I1.laid (t' := s.toks) (λ b o e => Á _ e) (Ä _) (show ù X.prog X.w _ _ _ (.tup ys) from ⟨hz, its, r', IsTup.new _ _⟩)
  exact ⟨.ref h'.objs.size, _, I2, rfl, q _ (I1.Ą.fresh (Ä _))⟩
 ·obtain ⟨its, r', pl, hz⟩ := I.tuple hq;exact call_tuple_same pl ⟨.ref p, H, I, rfl, q⟩
def Fm (K : PySem.W.Frag) (T : String) (x : V) (H : Hp) : Prop := match x with
 | .str _ => T = "str"
 | .int _ => T = "int"
 | .ref p => (T = "list" /\ ∃ xs, û K H p xs) \/ (T = "tuple" /\ ∃ o, K.lookup p = some o /\ o.cls = .type "tuple" /\ o.dict = none) \/
   (T = "dict" /\ ((∃ kvs, H p = some (.dK kvs)) \/ ∃ kvs, H p = some (.dT kvs))) \/ (T = "set" /\ ∃ S n, H p = some (.set S n))
 | _ => False
theorem tS {pins : List (Addr × Obj)} {σ : St} {H : Hp} {s : Shared} {T : String} {x : V} {v : Value} (I : Inv X pins σ H s) (r : RelV x v) (ty : Fm X.K T x H) :
  s.TypeIs v T /\ ∀ a, v = .ref a -> ∃ ob, s.heap.get? a = some ob /\ ob.dict = none := by
 cases x with
 | str z =>
  obtain ⟨t, rfl⟩ := r;cases (show T = "str" from ty);exact ⟨typeIs_str s z t, λ _ e => nomatch e⟩
 | int i =>
  obtain ⟨t, rfl⟩ := r;cases (show T = "int" from ty);exact ⟨typeIs_int s i t, λ _ e => nomatch e⟩
 | ref p =>
  cases r;rcases ty with ⟨rfl, xs, hq⟩ | ⟨rfl, o, hk, hc, hd⟩ | ⟨rfl, hk⟩ | ⟨rfl, S, n, hk⟩
  ·obtain ⟨its, _, pl, _⟩ := I.list hq;refine ⟨pl.isList.typeIs, λ a e => ?_⟩;cases e;obtain ⟨o, n, e, c, hd, _⟩ := pl;exact ⟨o, e, hd⟩
  ·refine ⟨⟨o, I.Ε p o hk, hc⟩, λ a e => ?_⟩;cases e;exact ⟨o, I.Ε _ o hk, hd⟩
  ·have z : ∃ o, s.heap.get? p = some o /\ o.ExactDict := by
    rcases hk with ⟨kvs, hk⟩ | ⟨kvs, hk⟩
    ·obtain ⟨_, _, _, _, o, _, _, e, ex, _⟩ := I.Ą p _ hk;exact ⟨o, e, ex⟩
    ·obtain ⟨_, _, _, _, o, _, _, e, ex, _⟩ := I.Ą p _ hk;exact ⟨o, e, ex⟩
   obtain ⟨o, e, ex⟩ := z;refine ⟨⟨o, e, ex.1⟩, λ a e2 => ?_⟩;cases e2;exact ⟨o, e, ex.2.1⟩
  ·obtain ⟨o, _, _, _, e, ex, _⟩ := I.Ą p _ hk;refine ⟨⟨o, e, ex.1⟩, λ a e2 => ?_⟩;cases e2;exact ⟨o, e, ex.2.1⟩
 | _ => exact False.elim ty
def EJ (K : PySem.W.Frag) (T : String) (r : V -> List V -> Hp -> VK -> Prop) (to : TE) : TE := λ σ H Q => to σ H λ x H1 => Fm K T x H1 /\ r x [] H1 Q
def D8 (K : PySem.W.Frag) (T : String) (r : V -> List V -> Hp -> VK -> Prop) (to : TE) (t : TA) : TE := λ σ H Q => to σ H λ x H1 => Fm K T x H1 /\ t σ H1 λ xs H2 => r x xs H2 Q
variable {o e : Expr} {es : List Expr} {to : TE} {t : TA} {name : Str} {ų š : Pos} {T id : String} {r : V -> List V -> Hp -> VK -> Prop}
theorem zU (pa : PlainAttrs T) (slot : Slot T name id) (PK : typeOf (.builtin id) = pure (.type "method_descriptor")) (hm : DX X id r) (ho : PE X o to)
  (HZ : attributeBase o name X.env (eval o X.env) = eval o X.env := by rfl) (HY : (ų.endLine == š.line) = true := by rfl) : PE X (.Call (.Attribute o name ų) [] [] š) (EJ X.K T r to) := by
 intro pins s σ H Q I h;refine B' HZ HY (aA (ho pins s σ H _ I h) λ v s1 ⟨x, H1, I1, r1, ty, q1⟩ => ?_);obtain ⟨h1, h2⟩ := tS I1 r1 ty;exact ⟨T, id, pa, slot, PK, h1, h2, ŀ rfl (Ii (hm pins s1 σ H1 x [] v [] Q I1 r1 .nil q1))⟩
theorem fX (pa : PlainAttrs T) (slot : Slot T name id) (PK : typeOf (.builtin id) = pure (.type "method_descriptor")) (hm : DX X id r) (ho : PE X o to) (ha : PA X (e :: es) t)
  (HZ : attributeBase o name X.env (eval o X.env) = eval o X.env := by rfl)
  (Qd : ((backTo š (starEach (e :: es) X.env)).all (λ x => !x.1) && (backToKw š (keywordEach [] X.env)).all (λ x => x.1.isSome)
   && decide ((e :: es).length + ([] : List Keyword).length + (if ([] : List Keyword).isEmpty then 0 else 1) < 30)) = true := by rfl)
  (HY : (ų.endLine == š.line) = true := by rfl) (hs : starEach (e :: es) X.env = (false, eval e X.env) :: starEach es X.env := by rfl) (MG : (backTo š (starEach es X.env)).any (·.1) = false := by rfl) :
  PE X (.Call (.Attribute o name ų) (e :: es) [] š) (D8 X.K T r to t) := by
 intro pins s σ H Q I h;refine wpAny_Call_method_late HZ Qd HY rfl (aA (ho pins s σ H _ I h) λ v s1 ⟨x, H1, I1, r1, ty, q1⟩ => ?_);obtain ⟨h1, h2⟩ := tS I1 r1 ty;refine ⟨T, id, pa, slot, PK, h1, h2, ?_⟩;have hA := ha š pins s1 σ H1 _ I1 q1;rw [hs] at hA ⊢;refine ŀ (by show (false || (backTo š (starEach es X.env)).any (·.1)) = false; rw [MG] <;> rfl) (Calls.evalArgs_plain ?_)
 exact aA hA λ us s2 ⟨vs, H2, I2, r2, q2⟩ => hm pins s2 σ H2 x vs v us Q I2 r1 r2 q2
end
def Gz (X : Cx) (id : String) (r : V -> List V -> Hp -> VK -> Prop) : Prop :=
 ∀ (pins : List (Addr × Obj)) (s : Shared) (σ : St) (H : Hp) (x : V) (xs : List V) (v : Value) (us : List Value) (Q : VK), Inv X pins σ H s -> RelV x v -> Vals xs us -> r x xs H Q ->
  wpAny (model X.prog X.w) X.A (call (.builtin id) (v :: us)) (EP X pins σ Q) X.xe s
theorem Vals.one : ∀ {x : V} {us : List Value}, Vals [x] us -> ∃ u, us = [u] /\ RelV x u
 | _, _, .cons r .nil => ⟨_, rfl, r⟩
theorem Vals.eraseIdx : ∀ {xs : List V} {us : List Value} (i : Nat), Vals xs us -> Vals (xs.eraseIdx i) (us.eraseIdx i)
 | _, _, _, .nil => .nil
 | _, _, 0, .cons _ t => t
 | _, _, i + 1, .cons r t => .cons r (Vals.eraseIdx i t)
theorem Vals.rep {xs : List V} {us : List Value} (h : Vals xs us) : ∀ k : Nat, Vals (List.replicate k xs).flatten (List.replicate k us).flatten
 | 0 => .nil
 | k + 1 => by
  rw [î, î, Ľ, Ľ];exact Vals.append h (Vals.rep h k)
theorem jm {α : Type} : ∀ (l : List α) (i : Nat), (l.eraseIdx i).length <= l.length
 | [], _ => Ä _
 | _ :: _, 0 => Nat.le_succ _
 | _ :: r, i + 1 => Nat.succ_le_succ (jm r i)
theorem jo (its : List Value) : ∀ (k : Nat) (acc : List Value),
  List.foldl (λ x1 x2 => x1 ++ x2) acc.toArray (List.replicate k its.toArray) = (acc ++ (List.replicate k its).flatten).toArray
 | 0, acc => by simp
 | k + 1, acc => by
  have e : acc.toArray ++ its.toArray = (acc ++ its).toArray := by simp
  have e2 : (acc ++ its) ++ (List.replicate k its).flatten = acc ++ (List.replicate (k + 1) its).flatten := by
   rw [î, Ľ, Ċ]
  rw [<- e2, <- jo its k (acc ++ its), <- e, î, List.foldl_cons]
section
variable {X : Cx} {pins : List (Addr × Obj)} {σ : St} {H : Hp} {s : Shared} {l b : Addr} {xs ys zs : List V}
theorem Inv.NK {its its' : List Value} {n : Nat} {f : Array Value -> Array Value} {t' : Nat} (I : Inv X pins σ H s) (hH : H l = some (.lst xs))
  (e : s.heap.get? l = some { cls := .type "list", data := .seq its.toArray n }) (hf : f its.toArray = its'.toArray) (hv : Vals ys its') (hz : ys.length <= sizeLine) :
  Inv X pins σ (ak H l (.lst ys)) { s with heap := s.heap.update l (Obj.mapSeq f), toks := t' } := by
 have q := PySem.IsL.update e f;rw [hf] at q;refine I.write (x := l) (e := l) (by rw [hH]; exact trivial) (.inl rfl) (λ b' u hb hu => (Heap.get?_update_other s.heap (Obj.mapSeq f) (Ne.symm hb)).trans hu) ⟨_, q⟩ ?_
 exact ⟨hz, its', _, hv, q⟩
theorem Inv.JQ {its : List Value} {t' : Nat} (I : Inv X pins σ H s) (hv : Vals ys its) (hz : ys.length <= sizeLine) :
  Inv X pins σ (ak H s.heap.objs.size (.lst ys)) { s with heap := s.heap.push { cls := .type "list", data := .seq its.toArray }, toks := t' } :=
 I.laid (λ _ _ q => Á _ q) (Ä _) ⟨hz, its, 0, hv, Ç _ rfl⟩
theorem Inv.fresh (I : Inv X pins σ H s) : H s.heap.objs.size = none := I.Ą.fresh (Ä _)
theorem Inv.Kr (I : Inv X pins σ H s) (hH : H l = some (.lst xs)) : xs.length <= sizeLine /\ ∃ (its : List Value) (n : Nat), Vals xs its /\ xs.length = its.length /\ s.heap.get? l = some { cls := .type "list", data := .seq its.toArray n } := by
 obtain ⟨z, its, n, r, e⟩ := I.Ą l _ hH;exact ⟨z, its, n, r, r.length, e⟩
theorem rY {n : Nat} (h : n <= sizeLine) : Builtin.List.listTooLong n = false := by
 unfold Builtin.List.listTooLong;exact à af
end
section
variable {X : Cx}
def pq : V -> List V -> Hp -> VK -> Prop := λ x vs H Q => ∃ l xs y, x = .ref l /\ vs = [y] /\ H l = some (.lst xs) /\ xs.length < sizeLine /\ Q .Ė (ak H l (.lst (xs ++ [y])))
theorem bS : Gz X "list.append" pq := by
 intro pins s σ H x vs v us Q I rx rv h;obtain ⟨l, xs, y, rfl, rfl, hH, hz, q⟩ := h;cases rx;obtain ⟨u, rfl, ru⟩ := rv.one;obtain ⟨z, its, n, r, hl, e⟩ := I.Kr hH;refine JJ F.slot_list_append ⟨_, e, rfl⟩ F.entry_list_append (F.args_list_append_2 _ _) (PySem.list_append l its.toArray n u (by rw [Ô]; omega)) ⟨e, ?_⟩
 refine ⟨.Ė, _, I.NK (its' := its ++ [u]) hH e (by simp) (r.append (.cons ru .nil)) ?_, rfl, q⟩
 rw [Ï, ĩ];omega
def Ao : V -> List V -> Hp -> VK -> Prop := λ x vs H Q => ∃ l xs i k y, x = .ref l /\ vs = [.int i] /\ H l = some (.lst xs) /\ -(2 ^ 63) <= i /\ i < 2 ^ 63 /\ seqIndex? i xs.length = some k /\ xs[k]? = some y /\ Q y (ak H l (.lst (xs.eraseIdx k)))
theorem tU : Gz X "list.pop" Ao := by
 intro pins s σ H x vs v us Q I rx rv h;obtain ⟨l, xs, i, k, y, rfl, rfl, hH, h1, h2, hk, hy, q⟩ := h;cases rx;obtain ⟨u, rfl, ru⟩ := rv.one;obtain ⟨t, rfl⟩ := ru;obtain ⟨z, its, n, r, hl, e⟩ := I.Kr hH;obtain ⟨w, hw, Iu⟩ := r.get hy;refine JJ F.slot_list_pop ⟨_, e, rfl⟩ F.entry_list_pop (F.args_list_pop_2 _ _)
  (MeetsSeq.list_pop_at l its.toArray n i t k w (fitsIndex_both h1 h2) (by rw [Ô, <- hl]; exact hk) (by rw [<- Array.getElem?_toList]; exact hw) (by rw [Ô]; omega)) ⟨e, ?_⟩
 refine ⟨y, _, I.NK (its' := its.eraseIdx k) hH e ?_ (r.eraseIdx k) ?_, Iu, q⟩
 ·show its.toArray.eraseIdxIfInBounds k = (its.eraseIdx k).toArray;rw [List.eraseIdxIfInBounds_toArray]
 ·have := jm xs k;omega
def rh : R2 := λ x y H Q => ∃ l b xs zs, x = .ref l /\ y = .ref b /\ H l = some (.lst xs) /\ H b = some (.lst zs) /\ xs.length + zs.length <= sizeLine /\ ∀ p, H p = none -> Q (.ref p) (ak H p (.lst (xs ++ zs)))
theorem n6 : gg X (binaryOp .Add) rh := by
 intro pins s σ H x y v u Q I rx ry h;obtain ⟨l, b, xs, zs, rfl, rfl, hH, hB, hz, q⟩ := h;cases rx;cases ry;obtain ⟨z, its, n, r, hl, e⟩ := I.Kr hH;obtain ⟨z2, NN, n2, r2, JT, e2⟩ := I.Kr hB;refine PySem.P.add_list e e2 ?_ (by rw [Ô, Ô]; omega)
 have ea : its.toArray ++ NN.toArray = (its ++ NN).toArray := by simp
 rw [ea];exact ⟨.ref _, _, I.JQ (t' := s.toks) (r.append r2) (by rw [Ï]; omega), rfl, q _ I.fresh⟩
def Da : R2 := λ x y H Q => ∃ l k xs, x = .ref l /\ y = .int k /\ H l = some (.lst xs) /\ -(2 ^ 63) <= k /\ k < 2 ^ 63 /\ xs.length * k.toNat <= sizeLine /\
 ∀ p, H p = none -> Q (.ref p) (ak H p (.lst (List.replicate k.toNat xs).flatten))
theorem oH {α : Type} (xs : List α) (k : Nat) : (List.replicate k xs).flatten.length = k * xs.length := by
 induction k with
 | zero => simp
 | succ k ih => rw [î, Ľ, Ï, ih, Nat.succ_mul, Mc]
theorem zw : gg X (binaryOp .Mult) Da := by
 intro pins s σ H x y v u Q I rx ry h;obtain ⟨l, k, xs, rfl, rfl, hH, h1, h2, hz, q⟩ := h;cases rx;obtain ⟨t, rfl⟩ := ry;obtain ⟨z, its, n, r, hl, e⟩ := I.Kr hH;have ŋ : its.toArray.size * k.toNat <= sizeLine := by rw [Ô, <- hl]; exact hz
 have Qh : ¬ its.toArray.size * k.toNat > (2 ^ 63 - 1) / 8 := by
  have : (sizeLine : Nat) <= (2 ^ 63 - 1) / 8 := am;omega
 have Qc : ¬ (!Builtin.List.listFitsIndex k) = true := by
  rw [fitsIndex_both h1 h2];exact Ì
 have NX : ¬ Builtin.List.listTooLong (its.toArray.size * k.toNat) = true := by
  rw [rY ŋ];exact Ì
 have P7 : List.foldl (λ x1 x2 => x1 ++ x2) #[] (List.replicate (if its.toArray.isEmpty = true then 0 else k.toNat) its.toArray) = (List.replicate k.toNat its).flatten.toArray := by
  have f0 : ∀ m : Nat, List.foldl (λ x1 x2 => x1 ++ x2) #[] (List.replicate m its.toArray) = (List.replicate m its).flatten.toArray := λ m => by
   have := jo its m [];rw [List.nil_append] at this;exact this
  rw [f0];cases its with
  | nil => simp
  | cons a r' => rw [Ë (by simp)]
 refine wpAny_binaryOp_repeat_ref (T := "list") (U := "int") am ⟨_, e, rfl⟩ (λ s' => typeIs_int s' k t) noFill_list_mul F.fills_int_mul F.slot_int_rmul repeat_list F.slot_int_index.lookup
  (JJ F.slot_int_rmul (typeIs_int s k t) F.entry_int_rmul (F.args_int_rmul_2 _ _) (int___rmul___int_list k t l its.toArray n)
   ⟨e, rfl, ⟨_, e, rfl⟩, JJ F.slot_list_mul ⟨_, e, rfl⟩ F.entry_list_mul (F.args_list_mul_2 _ _) (AutoListH.list___mul___list_int_3 l its.toArray n k t Qc Qh NX) ⟨e, ?_⟩⟩)
 rw [P7];exact ⟨.ref _, _, I.JQ (t' := s.toks) (r.rep k.toNat) (by rw [oH, j']; exact hz), rfl, q _ I.fresh⟩
end
section
variable {κ : Type} [DecidableEq κ]
def cF (kvs : List (κ × V)) (k : κ) : Option V := (kvs.find? λ kv => decide (kv.1 = k)).map (·.2)
def aZ (kvs : List (κ × V)) (k : κ) (v : V) : List (κ × V) :=
 if (kvs.any λ kv => decide (kv.1 = k)) = true then kvs.map (λ kv => if kv.1 = k then (kv.1, v) else kv) else kvs ++ [(k, v)]
theorem dH {p : κ × V} {r : List (κ × V)} {k : κ} (e : p.1 = k) : cF (p :: r) k = some p.2 := by simp [cF, List.find?_cons, e]
theorem dO {p : κ × V} {r : List (κ × V)} {k : κ} (e : ¬ p.1 = k) : cF (p :: r) k = cF r k := by simp [cF, List.find?_cons, e]
theorem hW (k : κ) : ∀ kvs : List (κ × V), (kvs.any λ kv => decide (kv.1 = k)) = (cF kvs k).isSome
 | [] => rfl
 | p :: r => by
  rw [ν];by_cases e : p.1 = k
  ·simp only [dH e, decide_eq_true e, Bool.true_or, Option.isSome_some]
  ·rw [dO e, à e, Bool.false_or]; exact hW k r
theorem bq (kvs : List (κ × V)) (k : κ) (v : V) : (aZ kvs k v).length <= kvs.length + 1 := by
 unfold aZ;split
 ·rw [Å]; omega
 ·rw [Ï, Ü, JO]; omega
theorem f8 {kvs : List (κ × V)} {k : κ} (v : V) (h : cF kvs k = none) : aZ kvs k v = kvs ++ [(k, v)] := by
 unfold aZ;rw [hW, h];exact Ë am
theorem Ψ.JR {o : Option V} {u : Option Value} (r : Ψ o u) : o.isSome = u.isSome := by
 cases o with
 | none => cases u with
  | none => rfl
  | some _ => exact (show False from r).elim
 | some _ => cases u with
  | none => exact (show False from r).elim
  | some _ => rfl
theorem Ψ.getD {o : Option V} {u : Option Value} {d : V} {d' : Value} (r : Ψ o u) (rd : RelV d d') : RelV (o.getD d) (u.getD d') := by
 cases o with
 | none => cases u with
  | none => exact rd
  | some _ => exact (show False from r).elim
 | some _ => cases u with
  | none => exact (show False from r).elim
  | some _ => exact r
theorem KV.val {kvs : List (κ × V)} {vs : List (κ × Value)} (r : KV kvs vs) (k : κ) : Ψ (cF kvs k) (valueAt vs k) := by
 unfold KV at r
 induction r with
 | nil => exact True.intro
 | @cons p q ps qs h t ih =>
  obtain ⟨h1, h2⟩ := h;by_cases e : p.1 = k
  ·have e' : q.1 = k := h1.symm.trans e;have b : valueAt (q :: qs) k = some q.2 := by simp [valueAt, List.find?_cons, e']
   rw [dH e, b]; exact h2
  ·have e' : ¬ q.1 = k := λ z => e (h1.trans z);have b : valueAt (q :: qs) k = valueAt qs k := by simp [valueAt, List.find?_cons, e']
   rw [dO e, b]; exact ih
theorem KV.any {kvs : List (κ × V)} {vs : List (κ × Value)} (r : KV kvs vs) (k : κ) : (kvs.any λ kv => decide (kv.1 = k)) = vs.any λ kv => decide (kv.1 = k) := by
 unfold KV at r
 induction r with
 | nil => rfl
 | cons h t ih => rw [ν, ν, ih, h.1]
theorem KV.Mq {kvs : List (κ × V)} {vs : List (κ × Value)} (r : KV kvs vs) (k : κ) {y : V} {u : Value} (ry : RelV y u) :
  KV (kvs.map λ kv => if kv.1 = k then (kv.1, y) else kv) (vs.map λ kv => if kv.1 = k then (kv.1, u) else kv) := by
 unfold KV at r ⊢
 induction r with
 | nil => exact .nil
 | @cons p q ps qs h t ih =>
  rw [É, É];refine .cons ?_ ih;obtain ⟨h1, h2⟩ := h;by_cases e : p.1 = k
  ·rw [Õ e, Õ (h1.symm.trans e)]; exact ⟨h1, ry⟩
  ·rw [Ë e, Ë (λ z => e (h1.trans z))]; exact ⟨h1, h2⟩
theorem KV.put {kvs : List (κ × V)} {vs : List (κ × Value)} (r : KV kvs vs) (k : κ) {y : V} {u : Value} (ry : RelV y u) : KV (aZ kvs k y) (stored vs k u) := by
 unfold aZ stored;rw [r.any k];by_cases e : (vs.any λ kv => decide (kv.1 = k)) = true
 ·rw [Õ e, Õ e]; exact r.Mq k ry
 ·rw [Ë e, Ë e]; exact Paired.snoc r ⟨rfl, ry⟩
theorem KV.length {kvs : List (κ × V)} {vs : List (κ × Value)} (r : KV kvs vs) : kvs.length = vs.length := å r
end
theorem jH {P : Program} {w : World} {k : Key} {u : Value} (r : RelV (kV k) u) : (aG P w).is k u = true := by
 cases k with
 | inl i => obtain ⟨t, e⟩ := (show ∃ t, u = Value.int i t from r); subst e; exact lK P w i t
 | inr x => obtain ⟨t, e⟩ := (show ∃ t, u = Value.str x t from r); subst e; exact mw P w x t
 | Ė => cases (show u = Value.none from r); rfl
theorem jR {P : Program} {w : World} : ∀ {ks : List Key} {us : List Value}, Vals (ks.map kV) us -> ItemsAre (aG P w) ks us
 | [], _, r => by rw [Md] at r; cases r; exact .nil
 | k :: ks, _, r => by
  rw [É] at r;cases r with
  | cons h t => exact .cons (jH h) (jR t)
abbrev KT (H : Hp) : List (List Key × V) -> List (List Key × Addr × Value) -> Prop := Paired λ p q => p.1 = q.1 /\ H q.2.1 = some (.tup (p.1.map kV)) /\ RelV p.2 q.2.2
theorem KT.val {H : Hp} {kvs : List (List Key × V)} {xs : List (List Key × Addr × Value)} (r : KT H kvs xs) (k : List Key) : Ψ (cF kvs k) ((atKey xs k).map (·.2)) := by
 induction r with
 | nil => exact True.intro
 | @cons p q ps qs h t ih =>
  obtain ⟨h1, _, h2⟩ := h;by_cases e : p.1 = k
  ·have e' : q.1 = k := h1.symm.trans e;have b : atKey (q :: qs) k = some q.2 := by simp [atKey, List.find?_cons, e']
   rw [dH e, b]; exact h2
  ·have e' : ¬ q.1 = k := λ z => e (h1.trans z);have b : atKey (q :: qs) k = atKey qs k := by simp [atKey, List.find?_cons, e']
   rw [dO e, b]; exact ih
theorem KT.Mq {H : Hp} {kvs : List (List Key × V)} {xs : List (List Key × Addr × Value)} (r : KT H kvs xs) (k : List Key) {y : V} {u : Value} (ry : RelV y u) :
  KT H (kvs.map λ kv => if kv.1 = k then (kv.1, y) else kv) (xs.map (putAt k u)) := by
 induction r with
 | nil => exact .nil
 | @cons p q ps qs h t ih =>
  rw [É, É];refine .cons ?_ ih;obtain ⟨h1, h2, h3⟩ := h;unfold putAt;by_cases e : p.1 = k
  ·rw [Õ e, Õ (h1.symm.trans e)]; exact ⟨h1, h2, ry⟩
  ·rw [Ë e, Ë (λ z => e (h1.trans z))]; exact ⟨h1, h2, h3⟩
theorem KT.put {H : Hp} {kvs : List (List Key × V)} {xs : List (List Key × Addr × Value)} (r : KT H kvs xs) (k : List Key) {b : Addr} {y : V} {u : Value} (hb : H b = some (.tup (k.map kV))) (ry : RelV y u) :
  KT H (aZ kvs k y) (storedH xs k b u) := by
 have e : (kvs.any λ kv => decide (kv.1 = k)) = (atKey xs k).isSome := by
  rw [hW, (r.val k).JR, Option.isSome_map]
 unfold aZ storedH;rw [e];by_cases q : (atKey xs k).isSome = true
 ·rw [Õ q, Õ q]; exact r.Mq k ry
 ·rw [Ë q, Ë q]; exact Paired.snoc r ⟨rfl, hb, ry⟩
theorem KT.keeps {H H' : Hp} {kvs : List (List Key × V)} {xs : List (List Key × Addr × Value)} (r : KT H kvs xs) (ht : ∀ b ys, H b = some (.tup ys) -> H' b = some (.tup ys)) : KT H' kvs xs :=
 Paired.K5 r λ _ _ z => ⟨z.1, ht _ _ z.2.1, z.2.2⟩
section
variable {P : Program} {w : World} {H : Hp} {h : Heap} {a : Addr}
theorem yb {u : HO} (ok : Ų P w H h) (e : Rd H a u) : ù P w H h a u := e.ok ok
theorem jC {kvs : List (Key × V)} (ok : Ų P w H h) (e : Rd H a (.dK kvs)) : kvs.length <= sizeLine /\ (a == sysModules) = false /\ ∃ vs, KV kvs vs /\ h.DictOf (aG P w) a vs :=
 show ù P w H h a (.dK kvs) from yb ok e
theorem uj {kvs : List (Key × V)} (ok : Ų P w H h) (e : H a = some (.dK kvs)) : kvs.length <= sizeLine /\ (a == sysModules) = false /\ ∃ vs, KV kvs vs /\ h.DictOf (aG P w) a vs := jC ok (.inl e)
theorem ja {ks : List Key} (ok : Ų P w H h) (e : H a = some (.tup (ks.map kV))) : (tupleKind (aG P w)).is h ks a := by
 obtain ⟨_, its, r, o, h1, h2, n, h3⟩ := (show ù P w H h a (.tup (ks.map kV)) from ok a _ e);exact ⟨o, its.toArray, n, h1, h2, h3, by simpa using jR r⟩
theorem lZ {kvs : List (List Key × V)} (ok : Ų P w H h) (e : Rd H a (.dT kvs)) : kvs.length <= sizeLine /\ (a == sysModules) = false /\
  ∃ xs, KT H kvs xs /\ h.DictOfH (tupleKind (aG P w)) a xs := by
 obtain ⟨z, y, xs, r, o, es, ep, h1, h2, h3, h4, h5⟩ := (show ù P w H h a (.dT kvs) from yb ok e);refine ⟨z, y, xs, r, o, es, ep, h1, h2, h3, h4, λ x hx => ?_, h5⟩;have all : ∀ {l : List (List Key × V)} {m : List (List Key × Addr × Value)}, KT H l m -> ∀ x ∈ m, (tupleKind (aG P w)).is h x.1 x.2.1 := by
  intro l m q
  induction q with
  | nil => intro x hx; exact nomatch hx
  | @cons p q ps qs hq t ih =>
   intro x hx;rcases Ñ.mp hx with e | hx
   ·subst e;exact ja ok (by rw [<- hq.1]; exact hq.2.1)
   ·exact ih x hx
 exact all r x hx
theorem yc {kvs : List (List Key × V)} (ok : Ų P w H h) (e : H a = some (.dT kvs)) : kvs.length <= sizeLine /\ (a == sysModules) = false /\
  ∃ xs, KT H kvs xs /\ h.DictOfH (tupleKind (aG P w)) a xs := lZ ok (.inl e)
end
def π (H : Hp) (a : Addr) (y : V) (r : Option V) : Prop :=
 (∃ kvs k, Rd H a (.dK kvs) /\ y = kV k /\ r = cF kvs k) \/ ∃ kvs k b, Rd H a (.dT kvs) /\ y = .ref b /\ H b = some (.tup (k.map kV)) /\ r = cF kvs k
def Je (H : Hp) (a : Addr) (y v : V) (H' : Hp) : Prop :=
 (∃ kvs k, H a = some (.dK kvs) /\ y = kV k /\ kvs.length < sizeLine /\ H' = ak H a (.dK (aZ kvs k v))) \/
 ∃ kvs k b, H a = some (.dT kvs) /\ y = .ref b /\ H b = some (.tup (k.map kV)) /\ kvs.length < sizeLine /\ H' = ak H a (.dT (aZ kvs k v))
theorem π.k {H : Hp} {a : Addr} {kvs : List (Key × V)} {k : Key} (e : H a = some (.dK kvs)) : π H a (kV k) (cF kvs k) := .inl ⟨kvs, k, .inl e, rfl, rfl⟩
theorem π.t {H : Hp} {a b : Addr} {kvs : List (List Key × V)} {k : List Key} (e : H a = some (.dT kvs)) (eb : H b = some (.tup (k.map kV))) : π H a (.ref b) (cF kvs k) := .inr ⟨kvs, k, b, .inl e, rfl, eb, rfl⟩
theorem Je.k {H : Hp} {a : Addr} {kvs : List (Key × V)} {k : Key} {v : V} (e : H a = some (.dK kvs)) (hl : kvs.length < sizeLine) : Je H a (kV k) v (ak H a (.dK (aZ kvs k v))) := .inl ⟨kvs, k, e, rfl, hl, rfl⟩
theorem Je.t {H : Hp} {a b : Addr} {kvs : List (List Key × V)} {k : List Key} {v : V} (e : H a = some (.dT kvs)) (eb : H b = some (.tup (k.map kV))) (hl : kvs.length < sizeLine) :
  Je H a (.ref b) v (ak H a (.dT (aZ kvs k v))) := .inr ⟨kvs, k, b, e, rfl, eb, hl, rfl⟩
section
variable {X : Cx} {pins : List (Addr × Obj)} {σ : St} {H : Hp} {s : Shared} {a : Addr} {y v : V} {u r : Value} {o : Option V} {A : Around} {E : bo}
theorem Inv.big (I : Inv X pins σ H s) : sysModules < s.heap.objs.size := by
 have h : mainGlobals < s.heap.objs.size := (I.mod.glob.keeps I.bk).lt;exact ŉ am h
theorem qu {Q : bo} (hu : A.units + 1 < cLine) (I : Inv X pins σ H s) (g : π H a y (some v)) (ry : RelV y u) (h : ∀ w' s', Inv X pins σ H s' -> RelV v w' -> Q w' s') :
  wpAny (model X.prog X.w) A (getItem (.ref a) u) Q E s := by
 rcases g with ⟨kvs, k, e, ey, l⟩ | ⟨kvs, k, b, e, ey, eb, l⟩
 ·subst ey;obtain ⟨z, hd, vs, rel, dd⟩ := jC I.Ą e;obtain ⟨w', hw, Iu⟩ := Ψ.some_of (v := v) (o := valueAt vs k) (by rw [l]; exact rel.val k)
  exact wpAny_getItem_of (jH ry) dd.mapOf hw (h w' _ (I.tok _) Iu)
 ·subst ey;cases (show u = Value.ref b from ry);obtain ⟨z, hd, xs, rel, dd⟩ := lZ I.Ą e;obtain ⟨w', hw, Iu⟩ := Ψ.some_of (v := v) (o := (atKey xs k).map (·.2)) (by rw [l]; exact rel.val k)
  obtain ⟨p, hp, Vb⟩ := đ.mp hw;refine wpAny_getItem_heap (JH hu) (ja I.Ą eb) dd hp ?_;rw [Vb];exact h w' _ (I.tok _) Iu
theorem eV {h' : Heap} {t' : Nat} {ob : HO} (I : Inv X pins σ H s) (mu : AG (H a)) (hs : Heap.SameBut a s.heap h') (he : ∃ q, h'.get? a = some q) (new : ù X.prog X.w (ak H a ob) h' a ob) :
  Inv X pins σ (ak H a ob) { s with heap := h', toks := t' } :=
 I.write (x := a) (e := a) mu (.inl rfl) (λ b q hb z => (hs.2 b hb).trans z) he new
theorem oj {P : Program} {w : World} {H' : Hp} {h' : Heap} {kvs : List (Key × V)} {vs : List (Key × Value)} (z : kvs.length <= sizeLine) (hd : (a == sysModules) = false) (rel : KV kvs vs) (dd : h'.DictOf (aG P w) a vs) :
  ù P w H' h' a (.dK kvs) := ⟨z, hd, vs, rel, dd⟩
theorem qZ {H' : Hp} {Q : Unit -> Shared -> Prop} (hu : A.units + 1 < cLine) (I : Inv X pins σ H s) (g : Je H a y v H') (ry : RelV y u) (rv : RelV v r) (h : ∀ s', Inv X pins σ H' s' -> Q () s') :
  wpAny (model X.prog X.w) A (setItem (.ref a) u r) Q E s := by
 rcases g with ⟨kvs, k, e, ey, l, eH⟩ | ⟨kvs, k, b, e, ey, eb, l, eH⟩
 ·subst ey eH;obtain ⟨z, hd, vs, rel, dd⟩ := uj I.Ą e;have hz : vs.length <= sizeLine := by rw [<- rel.length]; exact z
  have hl : (aZ kvs k v).length <= sizeLine := by have := bq kvs k v; omega
  refine wpAny_setItem_pairs (hsz := hz) (jH ry) dd λ h' Jh hs => h _ ?_;have he : ∃ q, h'.get? a = some q := let ⟨q, _, _, hq, _⟩ := Jh; ⟨q, hq⟩
  exact eV I (by rw [e]; exact True.intro) hs he (oj hl hd (rel.put k rv) Jh)
 ·subst ey eH;cases (show u = Value.ref b from ry);obtain ⟨z, hd, xs, rel, dd⟩ := yc I.Ą e;have hz : xs.length <= sizeLine := by rw [<- å rel]; exact z
  have hl : (aZ kvs k v).length <= sizeLine := by have := bq kvs k v; omega
  refine wpAny_setItem_heap (hsz := hz) (JH hu) (ja I.Ą eb) dd λ h' Jh hs => h _ ?_;obtain ⟨q, es, ep, hq, h2, h3, h4, _, h5⟩ := Jh;refine eV I (by rw [e]; exact True.intro) hs ⟨q, hq⟩ ⟨hl, hd, _, (rel.put k eb rv).keeps λ c ys ec => ?_, q, es, ep, hq, h2, h3, h4, h5⟩
  rw [ag (xF ec e (λ z => nomatch z))];exact ec
end
def CI (i : Expr) : Prop := ∀ ov iv, subscripted i false ov iv = operate [ov, iv] (getItem ov iv)
theorem vI {prog : Program} {w : World} {A : Around} {E : bo} {s : Shared} {env : Env} {value slice : Expr} {pos : Pos} {T id : String} {Q : bo}
  (hl : typeLookup (.type T) "__getitem__" = pure (some (.builtin id))) (hs : CI slice)
  (h : wpAny (model prog w) A (eval value env) (λ o ą => wpAny (model prog w) A (eval slice env) (λ i ũ => ũ.TypeIs o T /\ wpAny (model prog w) A (getItem o i) Q E ũ) E ą) E s) :
  wpAny (model prog w) A (eval (.Subscript value slice pos) env) Q E s := by
 refine Subscript_ (é h (λ o ą Ł => é Ł (λ i ũ IG => ?_) λ _ _ x => x) λ _ _ x => x);obtain ⟨hT, IG⟩ := IG;unfold subscriptTail;refine À ?_;rw [getitemInPython_of_ne hT.not_modules];refine À (L6 hT hl ?_);have fin : wpAny (model prog w) A (subscripted slice false o i) (λ r l_ => wpAny (model prog w) A (letTemporaryGo value o r >>= λ _ => pure r) Q E l_) E ũ := by
  rw [hs o i];exact wpAny_operating (é IG (λ r l_ Jr => À (wpAny_letTemporaryGo (Â Jr))) λ _ _ x => x)
 first
  | exact Â (À fin)
  | exact À (Â (À fin))
  | exact À fin
theorem ld {X : Cx} {pins : List (Addr × Obj)} {σ : St} {H : Hp} {s : Shared} {a : Addr} {y : V} {o : Option V} (I : Inv X pins σ H s) (g : π H a y o) : s.TypeIs (.ref a) "dict" := by
 rcases g with ⟨kvs, k, e, _, _⟩ | ⟨kvs, k, b, e, _, _, _⟩
 ·obtain ⟨_, _, vs, _, dd⟩ := jC I.Ą e;exact dd.typeIs
 ·obtain ⟨_, _, xs, _, dd⟩ := lZ I.Ą e;exact dd.typeIs
def gD (td ty : TE) : TE := λ σ H Q => td σ H λ x H1 => ty σ H1 λ y H2 => ∃ a v, x = .ref a /\ π H2 a y (some v) /\ Q v H2
def xY (td ty tv : TE) : TS := λ D σ H => tv σ H λ v H1 => td σ H1 λ x H2 => ty σ H2 λ y H3 => ∃ a H4, x = .ref a /\ Je H3 a y v H4 /\ D.nx σ H4
section
variable {X : Cx} {o i e value : Expr} {pos pos' Tw : Pos} {td ty tv : TE}
theorem eG (hu : X.A.units + 1 < cLine) (ho : PE X o td) (hi : PE X i ty) (hs : CI i := by exact λ _ _ => rfl) : PE X (.Subscript o i pos) (gD td ty) := by
 intro pins s σ H Q I h;refine vI PySem.F.slot_dict_getitem.lookup hs (aA (ho pins s σ H _ I h) λ u s1 ⟨x, H1, I1, rx, q1⟩ => aA (hi pins s1 σ H1 _ I1 q1) λ iv s2 ⟨y, H2, I2, ry, a, v, ex, g, q2⟩ => ?_);subst ex;obtain rfl : u = Value.ref a := rx;exact ⟨ld I2 g, qu hu I2 g ry λ w' s3 I3 Iu => ⟨v, H2, I3, Iu, q2⟩⟩
theorem pM (hu : X.A.units + 1 < cLine) (ho : PE X o td) (hi : PE X i ty) (hv : PE X value tv) (hs : swapsWith value (some (.Subscript o i pos')) pos.line X.env = pure false) :
  PS X (.Assign [.Subscript o i pos'] value pos) (xY td ty tv) := by
 intro pins s σ H D I h;refine wpAny_Assign_Subscript (aA (hv pins s σ H _ I h) λ r s1 ⟨v, H1, I1, rv, q1⟩ => aA (ho pins s1 σ H1 _ I1 q1) λ u s2 ⟨x, H2, I2, rx, q2⟩ => aA (hi pins s2 σ H2 _ I2 q2) λ iv s3 ⟨y, H3, I3, ry, a, H4, ex, g, q3⟩ => ?_) hs;subst ex;obtain rfl : u = Value.ref a := rx;exact qZ hu I3 g ry rv λ s4 I4 => ⟨σ, H4, I4, q3⟩
end
theorem iN {P : Program} {w : World} {H : Hp} (h : Heap) (hb : sysModules < h.objs.size) : ù P w H (h.push { cls := .type "dict", data := .dict #[] }) h.objs.size (.dK []) :=
 ⟨Ĕ _, ē.mpr (Ne.symm (Í hb)), [], .nil, Heap.DictOf.new h⟩
theorem mf {P : Program} {w : World} {H : Hp} (h : Heap) (hb : sysModules < h.objs.size) : ù P w H (h.push { cls := .type "dict", data := .dict #[] }) h.objs.size (.dT []) :=
 ⟨Ĕ _, ē.mpr (Ne.symm (Í hb)), [], .nil, _, #[], 0, Ç _ rfl, ⟨rfl, rfl, rfl⟩, rfl, rfl, List.nodup_nil⟩
def oo : TE := λ _ H Q => ∀ p, H p = none -> Q (.ref p) (ak H p (.dK []))
def uH : TE := λ _ H Q => ∀ p, H p = none -> Q (.ref p) (ak H p (.dT []))
section
variable {X : Cx} {pos : Pos}
theorem k6 : PE X (.Dict [] [] pos) oo := λ pins s σ H Q I h =>
 wpAny_Dict_empty ⟨.ref s.heap.objs.size, _, I.laid (a := s.heap.objs.size) (o := .dK []) (t' := s.toks) (λ _ _ q => Á _ q) (Ä _) (iN s.heap I.big), rfl, h _ (I.Ą.fresh (Ä _))⟩
theorem rH : PE X (.Dict [] [] pos) uH := λ pins s σ H Q I h =>
 wpAny_Dict_empty ⟨.ref s.heap.objs.size, _, I.laid (a := s.heap.objs.size) (o := .dT []) (t' := s.toks) (λ _ _ q => Á _ q) (Ä _) (mf s.heap I.big), rfl, h _ (I.Ą.fresh (Ä _))⟩
end
def nP : List (TE × TE) -> St -> Hp -> (List (V × V) -> Hp -> Prop) -> Prop
 | [], _, H, Q => Q [] H
 | (tk, tv) :: r, σ, H, Q => tk σ H λ x H1 => tv σ H1 λ y H2 => nP r σ H2 λ ps H3 => Q ((x, y) :: ps) H3
abbrev VV : List (V × V) -> List (Value × Value) -> Prop := Paired λ p q => RelV p.1 q.1 /\ RelV p.2 q.2
def Fn (X : Cx) (pos : Pos) (keys : List (Option Expr)) (values : List Expr) (Of : List (TE × TE)) : Prop :=
 ∀ (pins : List (Addr × Obj)) (s : Shared) (σ : St) (H : Hp) (Q : List (V × V) -> Hp -> Prop), Inv X pins σ H s -> nP Of σ H Q ->
  wpAny (model X.prog X.w) X.A (evalPairs (pairTrees keys values X.env pos)) (λ vs s' => ∃ ps H', Inv X pins σ H' s' /\ VV ps vs /\ Q ps H') X.xe s
theorem vA {X : Cx} {pos : Pos} : Fn X pos [] [] [] := λ pins s σ H Q I h => pairTrees_nil_walk ⟨[], H, I, .nil, h⟩
theorem tZ {X : Cx} {pos : Pos} {k v : Expr} {ks : List (Option Expr)} {vs : List Expr} {tk tv : TE} {Of : List (TE × TE)} (hk : PE X k tk) (hv : PE X v tv) (hr : Fn X pos ks vs Of) :
  Fn X pos (some k :: ks) (v :: vs) ((tk, tv) :: Of) := λ pins s σ H Q I h =>
 pairTrees_cons_walk (aA (hk pins s σ H _ I h) λ u s1 ⟨x, H1, I1, rx, q1⟩ => aA (hv pins s1 σ H1 _ I1 q1) λ w2 s2 ⟨y, H2, I2, ry, q2⟩ =>
  aA (hr pins s2 σ H2 _ I2 q2) λ ws s3 ⟨ps, H3, I3, rel, q3⟩ => ⟨(x, y) :: ps, H3, I3, .cons ⟨rx, ry⟩ rel, q3⟩)
structure M2 (X : Cx) (o : Expr) (m : Str) (ų : Pos) (e f : Expr) (š : Pos) : Prop where
 base : attributeBase o m X.env (eval o X.env) = eval o X.env
 OG : ((backTo š (starEach [e, f] X.env)).all (λ x => !x.1) && (backToKw š (keywordEach [] X.env)).all (λ x => x.1.isSome)
  && decide (([e, f] : List Expr).length + ([] : List Keyword).length + (if ([] : List Keyword).isEmpty then 0 else 1) < 30)) = true
 line : (ų.endLine == š.line) = true
 trees : backTo š (starEach [e, f] X.env) = [(false, eval e X.env), (false, eval f X.env)]
def Hs (H : Hp) (a : Addr) : Prop := (∃ kvs, Rd H a (.dK kvs)) \/ ∃ kvs, Rd H a (.dT kvs)
theorem tH {X : Cx} {pins : List (Addr × Obj)} {σ : St} {H : Hp} {s : Shared} {a : Addr} (I : Inv X pins σ H s) (d : Hs H a) :
  s.TypeIs (.ref a) "dict" /\ (∀ b, Value.ref a = .ref b -> ∃ ob, s.heap.get? b = some ob /\ ob.dict = none) /\ (a == sysModules) = false := by
 rcases d with ⟨kvs, e⟩ | ⟨kvs, e⟩
 ·obtain ⟨_, hd, vs, _, dd⟩ := jC I.Ą e;refine ⟨dd.typeIs, λ b q => ?_, hd⟩;cases q;obtain ⟨ob, _, _, h1, h2, _⟩ := dd;exact ⟨ob, h1, h2.2.1⟩
 ·obtain ⟨_, hd, xs, _, dd⟩ := lZ I.Ą e;refine ⟨dd.typeIs, λ b q => ?_, hd⟩;cases q;obtain ⟨ob, _, _, h1, h2, _⟩ := dd;exact ⟨ob, h1, h2.2.1⟩
section
variable {X : Cx} {pins : List (Addr × Obj)} {σ : St} {H : Hp} {s : Shared} {a : Addr} {y d : V} {u r : Value} {o : Option V} {A : Around} {E : bo}
theorem yv {Q : bo} (hu : A.units + 1 < cLine) (I : Inv X pins σ H s) (g : π H a y o) (ry : RelV y u) (rd : RelV d r) (h : ∀ w' s', Inv X pins σ H s' -> RelV (o.getD d) w' -> Q w' s') :
  wpAny (model X.prog X.w) A (call (.builtin "dict.get") [.ref a, u, r]) Q E s := by
 rcases g with ⟨kvs, k, e, ey, l⟩ | ⟨kvs, k, b, e, ey, eb, l⟩
 ·subst ey;obtain ⟨z, hd, vs, rel, dd⟩ := jC I.Ą e;refine J' t_ dd.typeIs L9 (LH _ _ _) (meets_dict_get_default (aG X.prog X.w) a (jH ry) hd r) ⟨_, dd.mapOf, h _ _ (I.tok _) ?_⟩;rw [l];exact (rel.val k).getD rd
 ·subst ey;cases (show u = Value.ref b from ry);obtain ⟨z, hd, xs, rel, dd⟩ := lZ I.Ą e;refine J' t_ dd.typeIs L9 (LH _ _ _) (meetsH_dict_get_default (tupleKind (aG X.prog X.w)) a b hd r) ⟨JH hu, k, xs, ja I.Ą eb, dd, h _ _ (I.tok _) ?_⟩;rw [l];exact (rel.val k).getD rd
end
def uL (td ty tx : TE) : TE := λ σ H Q => td σ H λ x H1 => ∃ a, x = .ref a /\ Hs H1 a /\ ty σ H1 λ y H2 => tx σ H2 λ z H3 => ∃ o, π H3 a y o /\ Q (o.getD z) H3
section
variable {X : Cx} {o e f : Expr} {ų š : Pos} {td ty tx : TE}
theorem mq (hu : X.A.units + 1 < cLine) (ho : PE X o td) (he : PE X e ty) (hf : PE X f tx) (m : M2 X o "get" ų e f š) : PE X (.Call (.Attribute o "get" ų) [e, f] [] š) (uL td ty tx) := by
 intro pins s σ H Q I h;refine wpAny_Call_method m.base m.OG m.line ŗ t_ PySem.F.type_dict_get (aA (ho pins s σ H _ I h) λ u s1 ⟨x, H1, I1, rx, a, ex, d, q1⟩ => ?_);subst ex;obtain rfl : u = Value.ref a := rx;obtain ⟨t1, t2, _⟩ := tH I1 d;refine ⟨t1, t2, ?_⟩;rw [m.trees];refine ŀ rfl (Calls.evalArgs_plain (b_ (aA (he pins s1 σ H1 _ I1 q1) λ iv s2 ⟨y, H2, I2, ry, q2⟩ =>
  b_ (aA (hf pins s2 σ H2 _ I2 q2) λ fv s3 ⟨z, H3, I3, rz, ov, g, q3⟩ => Calls.spliced_nil ?_))))
 exact yv hu I3 g ry rz λ w' s4 I4 Iu => ⟨_, H3, I4, Iu, q3⟩
end
end L2
namespace Att
open PySem PySem.W PySem.Calls PyProof.Rows
theorem gN {P : Params} {h : Heap} : ∀ (ns : List Int) (vs : List Value), WellAll P h vs (ns.map WData.int) -> IntsAre vs ns := by
 intro ns
 induction ns with
 | nil =>
  intro vs w;rw [Md] at w;cases w;exact .nil
 | cons n ns ih =>
  intro vs w;rw [É] at w;cases w with
  | cons a b =>
   cases a;exact .cons _ _ (ih _ b)
theorem qw {l : OpenLaw} {n : Nat} (hn : l.most = some n) {P : Params} {h : Heap} {args : List WData} {vals : List Value}
  (K8 : l.row.toRowW.claim.pre args = true) (PJ : WellAll P h vals args) :
  ∃ a vs ns, vals = [Value.ref a] /\ args = [WData.list (ns.map WData.int)] /\ h.get? a = some { cls := .type "list", data := .seq vs.toArray } /\ IntsAre vs ns /\ ns.length <= n := by
 have U5 : WShape.hasAll [] args [.list .int] = true := (pre_splitW K8).1;have hc : l.pre.holds [] { args := args } = true := (pre_splitW K8).2;obtain ⟨d, r, rfl, h1, h2⟩ := hasAllW_cons U5;obtain rfl := hasAllW_nil h2;obtain ⟨xs, rfl, h3⟩ := hasW_list h1;obtain ⟨ns, rfl⟩ := items_int h3;have ŋ : ns.length <= n := by
  unfold OpenLaw.pre at hc;have h4 : (WTm.not (.lt (.lit (.int (n : Int))) (.len (.arg 0)))).holds [] { args := [.list (ns.map .int)] } = true := by
   have h4 := (holds_andW hc).1;rw [hn] at h4;exact h4
  have h5 := condW_of h4 (w_not (w_lt w_lit (w_len_list (w_arg rfl))));rw [Å] at h5;refine Nat.le_of_not_lt λ q => ?_;have q' : (n : Int) < ((ns.length : Nat) : Int) := af
  first
   | (rw [Î q'] at h5; exact absurd h5 am)
   | (simp at h5; omega)
 cases PJ with
 | cons w1 w2 =>
  cases w2;cases w1 with
  | list ho Qi => exact ⟨_, _, ns, rfl, rfl, ho, gN ns _ Qi, ŋ⟩
theorem qJ (l : OpenLaw) (args : List WData) : l.row.toRowW.claim.post args (.bool true) args = true :=
 postW_of (r := l.row.toRowW) (X := (true == true))
  (show WShape.has [] (.bool true) .bool = true by first | rfl | decide | simp [WShape.has, WShape.arms, WShape.armsAll])
  (show (WTm.eq .res (.lit (.bool true))).value [] { args := args, res := some (.bool true), after := args } = some (.bool (true == true)) from w_eq_bool (w_res rfl) w_lit) rfl
end Att
namespace L2
open PySem PySem.Spec PyProof.Rows
theorem gp : ∀ {vs : List Value} {ns : List Int}, IntsAre vs ns -> Vals (ns.map V.int) vs
 | _, _, .nil => .nil
 | _, _, .cons n t h => .cons ⟨t, rfl⟩ (gp h)
def zr (H : Hp) : Prop := ∀ b, H b = none \/ ∃ o xs, H b = some (.f_ o (.lst xs))
def kK (s : Stmt) (j : Nat) : Stmt := match s with
 | .ClassDef _ _ _ body _ _ _ _ _ _ _ => body.getD j (.Pass ⟨0, 0, 0, 0⟩)
 | _ => .Pass ⟨0, 0, 0, 0⟩
def bX (s : Stmt) : Arguments := match s with
 | .FunctionDef _ a _ _ _ _ _ _ _ _ => a
 | _ => { posonlyargs := [], args := [], vararg := none, kwonlyargs := [], kw_defaults := [], kwarg := none, defaults := [] }
def av (s : Stmt) : List Stmt := match s with
 | .FunctionDef _ _ b _ _ _ _ _ _ _ => b
 | _ => []
def aa (s : Stmt) : Scope := match s with
 | .FunctionDef _ _ _ _ _ _ sc _ _ _ => sc
 | _ => { kind := .function, names := [], isGenerator := false, isCoroutine := false }
abbrev ar : kY := λ _ _ _ _ _ _ => False
abbrev E0 : XK := λ _ _ _ => False
theorem ao {X : Cx} : fA ar X E0 := λ _ _ _ _ _ _ _ h => h.elim
structure Ŏ (K : PySem.W.Frag) (x qual : Str) (st : Stmt) (f : Addr) (fd : FuncData) : Prop where
 ex : ∃ (oc : Value) (od : Option Addr) (kV doc pm : Value) (an : Option Addr) (ë ct : Value) (K4 : Array (Option Value)),
  fd = PySem.W.fnOf x qual (bX st) (av st) (aa st) .none kV doc pm an ë ct /\ K.lookup f = some ⟨oc, od, .func fd, K4⟩ /\ PySem.W.codeIn K ë qual = true
 kp : PySem.W.keepIn K (.ref f) = true
section
variable {P : Program} {w : World} {K : PySem.W.Frag} {mg : bu} {base : Heap}
theorem Ŏ.ok {x qual : Str} {st : Stmt} {f : Addr} {fd : FuncData} {N ps : List Str} {k : Nat} {sp : Sp} (F : Ŏ K x qual st f fd) (S : ai N ps (aa st)) (len : ∀ vs H Q E, sp vs H Q E -> vs.length = ps.length)
  (e_ : ∀ (ë : Value) (A : Around) (outer : List Env) (s : Shared) (H : Hp) (vs : List V) (Q : VK) (E : XK), ė k (A.deeper (envOfC qual (aa st) s.heap.objs.size f ë)) -> sp vs H Q E ->
   ∃ t, Ο (ax ar P w K mg base N qual (aa st) f ë A outer s H E).Ķ (av st) t /\ t { nx := λ _ H' => Q .Ė H', rt := Q } (dJ N vs) H) : az P w K mg base ar (k + 1) f fd ps sp := by
 obtain ⟨oc, od, kV, doc, pm, an, ë, ct, K4, rfl, lk, JV⟩ := F.ex;refine xW lk JV S len λ A outer s H vs Q E hr IZ => ?_;obtain ⟨t, h, q⟩ := e_ ë A outer s H vs Q E hr IZ;exact ⟨t, h.Ķ, q⟩
theorem Cb {x qual : Str} {st : Stmt} {f : Addr} {fd : FuncData} {N ps : List Str} {k : Nat} {sp : Sp} (F : Ŏ K x qual st f fd) (S : ai N ps (aa st))
  (e_ : ∀ (ë : Value) (A : Around) (outer : List Env) (s : Shared) (H : Hp) (vs : List V) (Q : VK) (E : XK), ė k (A.deeper (envOfC qual (aa st) s.heap.objs.size f ë)) -> sp vs H Q E ->
   ∃ t, Ο (ax ar P w K mg base N qual (aa st) f ë A outer s H E).Ķ (av st) t /\ t { nx := λ _ H' => Q .Ė H', rt := Q } (dJ N vs) H) (len : ∀ vs H Q E, sp vs H Q E -> vs.length = ps.length := by intro vs H Q E h; repeat (first | (obtain ⟨rfl, _⟩ := h; rfl) | (obtain ⟨_, h⟩ := h))) : az P w K mg base ar (k + 1) f fd ps sp := F.ok S len e_
theorem Ŏ.binds {x qual : Str} {st : Stmt} {f : Addr} {fd : FuncData} {ps : List Str} (F : Ŏ K x qual st f fd)
  (h : ∀ (kV doc pm : Value) (an : Option Addr) (ë ct : Value) (us : List Value), us.length = ps.length -> bindArgs (PySem.W.fnOf x qual (bX st) (av st) (aa st) .none kV doc pm an ë ct) ⟨us, []⟩ = pure (ps.zip us)) : Binds K fd ps [] := by
 obtain ⟨oc, od, kV, doc, pm, an, ë, ct, K4, rfl, lk, JV⟩ := F.ex;exact .all (h kV doc pm an ë ct)
theorem ke {x qual : Str} {st : Stmt} {f : Addr} {oc : Value} {od an : Option Addr} {K4 : Array (Option Value)} {kV doc pm ë ct : Value} (l : K.lookup f = some ⟨oc, od, .func (PySem.W.fnOf x qual (bX st) (av st) (aa st) .none kV doc pm an ë ct), K4⟩)
  (c : PySem.W.codeIn K ë qual = true) (k : PySem.W.keepIn K (.ref f) = true) : Ŏ K x qual st f (PySem.W.fnOf x qual (bX st) (av st) (aa st) .none kV doc pm an ë ct) := ⟨⟨oc, od, kV, doc, pm, an, ë, ct, K4, rfl, l, c⟩, k⟩
end
section
variable {X : Cx}
theorem pv (i : Nat) {x : Str} {pos : Pos} (hN : X.N[i]? = some x := by rfl) (hv : AV X.env.scope x := by first | exact Or.inl rfl | exact Or.inr (Or.inl rfl) | exact Or.inr (Or.inr rfl)) (hd : (x == ("__debug__" : Str)) = false := by decide)
  (JV : (x == ("__classdict__" : Str)) = false := by decide) : PE X (.Name x pos) (aq i) := Az hN hv hd JV
end
theorem nF {c A B : Prop} [Decidable c] (h1 : c -> A) (h2 : ¬ c -> B) : if c then A else B := by
 by_cases h : c
 ·rw [Õ h];exact h1 h
 ·rw [Ë h];exact h2 h
end L2
set_option maxHeartbeats 4000000
namespace Att
open PySem PySem.W PySem.Calls PyProof.Rows
theorem n4 {R : WRecords} {cl : Str -> Option Addr} {h : Heap} {a : Addr} {ds : List WData} {as : List Addr} (r : ReadsAllW R cl h [.ref a] [.list ds] as) : a ∈ as := by
 cases r with
 | cons r1 r2 =>
  cases r1 with
  | list => simp
theorem IK {l : OpenLaw} {n : Nat} {q : Program} {loose : List Str} {XP : (Str -> Option Value) -> Heap -> Prop} {YP : World -> Heap -> Prop} {d : DefRec}
  (hn : l.most = some n) (N1 : d.params.defaults = [])
  (call : ∀ (w : World) (ŏ ą : Shared) (mg mb : bu) (fa : Addr) (o : Obj) (pm cd doc : Value) (a : Addr) (vs : List Value) (ns : List Int),
   Ground q loose [] XP w ŏ mg mb ą.heap -> YP w ą.heap ->
   ą.heap.get? fa = some o -> o.data = .func (docDef d.name d.params d.body d.scope pm cd doc) -> ą.heap.CodeRec cd d.name -> mg d.name = some (.ref fa) ->
   ą.heap.get? a = some { cls := .type "list", data := .seq vs.toArray } -> IntsAre vs ns -> ns.length <= n -> ą.gens = #[] -> a ≠ sysModules ->
   codeAny (model l.prog w) callerA (.call (.ref fa) ⟨[.ref a], []⟩) (λ r s' => r = .ok (.ret (.bool true)) /\ OldK ą.heap s'.heap /\ s'.os = ą.os /\ AllBare s'.gens) ą) :
  WalkO q loose XP YP l.row.toRowW d [] (λ f vs => PySem.call f vs) := by
 intro w ŏ ą mg mb G Y fa o pm cd doc dV kV ho hd JV hD NV hg args vals as K8 Vi U7 PJ Vg;obtain rfl : dV = .none := Dflts.none hD N1;obtain rfl : kV = .none := Dflts.noKw hD;obtain ⟨a, vs, ns, rfl, rfl, MH, hints, ŋ⟩ := qw hn K8 PJ;have low : a ≠ sysModules := ē.mp (Vg a (n4 U7));refine enter_call (Ih (call w ŏ ą mg mb fa o pm cd doc a vs ns G Y ho (fd_plain hd) JV NV MH hints ŋ hg low) λ r s' hq => ?_);obtain ⟨rfl, h2, h3, h4⟩ := hq;exact ⟨.inl ⟨.bool true, .bool true, [], rfl, λ _ => rfl, .bool true, qJ l _, λ _ => ⟨List.Pairwise.nil, λ _ hm => (nomatch hm)⟩⟩, h2, h3, h4⟩
end Att
namespace L2
open PySem PySem.Spec PyProof.Rows
theorem qj {P : Program} {w : World} {K : PySem.W.Frag} {mg mb : bu} {CX : kY} {k : Nat} {fa a : Addr} {fd : FuncData} {x : Str} {sp : Sp} {ą : Shared} {vs : List Value} {ns : List Int}
  (KX : K.In ą.heap) (RM : ą.heap.Ns mainGlobals mg) (hb : ą.heap.Ns builtinsNs mb) (Vv : ∀ x : Str, x ≠ "__name__" -> mb x = bootBuiltins x) (P9 : ą.heap.NoLimit) (hg : ą.gens = #[])
  (ha : ą.heap.get? a = some { cls := .type "list", data := .seq vs.toArray }) (hi : IntsAre vs ns) (hl : ns.length <= sizeLine) (hr : ė k callerA) (low : a ≠ sysModules)
  (F : ∀ base : Heap, K.In base -> base.Ns mainGlobals mg -> az P w K mg base CX k fa fd [x] sp) (N2 : ∀ (s : Shared) (u : Value), BindsTo s fd ⟨[u], []⟩ [(x, u)])
  (IZ : ∀ H : Hp, zr H -> û K H a (ns.map V.int) -> H sysModules = none -> sp [.ref a] H (λ v _ => v = .bl true) λ _ _ _ => False)
  (Ql : ∀ H e s', CX [] H ą (λ _ _ _ => False) e s' -> False) :
  codeAny (model P w) callerA (.call (.ref fa) ⟨[.ref a], []⟩) (λ r s' => r = .ok (.ret (.bool true)) /\ OldK ą.heap s'.heap /\ s'.os = ą.os /\ AllBare s'.gens) ą := by
 have rv := gp hi;have Ps := hi.length;have core : ∀ H : Hp, zr H -> û K H a (ns.map V.int) -> Ų P w H ą.heap -> (∀ b, H b ≠ none -> b = a) -> (H a ≠ none -> K.lookup a = none) ->
   codeAny (model P w) callerA (.call (.ref fa) ⟨[.ref a], []⟩) (λ r s' => r = .ok (.ret (.bool true)) /\ OldK ą.heap s'.heap /\ s'.os = ą.os /\ AllBare s'.gens) ą := by
  intro H hO hS Ą hA hK;have hz : H sysModules = none := by
   cases q : H sysModules with
   | none => rfl
   | some u => exact absurd (hA _ (by rw [q]; simp)).symm low
  have JE : ∀ {b : Addr} {o : Obj}, ą.heap.get? b = some o -> H b = none -> (j7 ą.heap H).get? b = some o := λ e n => u7 e n;have NF : ∀ {b : Addr} {o : Obj} {es : Array DictEntry} {ep : Nat}, ą.heap.get? b = some o -> o.data = .dict es ep -> H b = none := λ {b o es ep} e d => by
   cases q : H b with
   | none => rfl
   | some u =>
    have e' : b = a := hA b (by rw [q]; simp)
    subst e';rw [ha] at e; cases e;have d' : Data.seq vs.toArray _ = Data.dict es ep := d;cases d'
  have On : ∀ {b : Addr} {m : bu}, ą.heap.Ns b m -> (j7 ą.heap H).Ns b m := λ {b m} ⟨o, es, ep, e, d, r⟩ => ⟨o, es, ep, JE e (NF e d), d, r⟩;have RX : K.In (j7 ą.heap H) := λ b o e => JE (KX b o e) (by
   cases q : H b with
   | none => rfl
   | some u =>
    have e' : b = a := hA b (by rw [q]; simp)
    subst e';rw [hK (by rw [q]; simp)] at e; cases e)
  have hM : Mod K mg (j7 ą.heap H) := ⟨RX, On RM, ⟨mb, On hb, Vv⟩, let ⟨mc, h1, h2⟩ := P9; ⟨mc, On h1, h2⟩⟩
  have e0 : Jv P w K mg (j7 ą.heap H) callerA [] ą H := ⟨rfl, hM, λ b o e => xm e, j_ (qK _ _), trivial, λ b hb => absurd (show b ∈ ([] : List Addr) from hb) (by simp), Ą, .of_eq hg⟩
  refine Ih ((F _ RX (On RM)).run callerA [] ą H ⟨[.ref a], []⟩ [.ref a] [.ref a] _ _ hr e0 (N2 ą (.ref a)) (.cons rfl .nil) (IZ H hO hS hz)) λ r s' h => ?_;cases r with
  | error e => exact (Ql H e s' h).elim
  | ok fl =>
   cases fl with
   | next => exact False.elim h
   | brk => exact False.elim h
   | cont => exact False.elim h
   | ret u =>
    obtain ⟨v, H', os, bare, un, P0, r', q⟩ := h;have q' : v = .bl true := q;subst q';obtain rfl : u = Value.bool true := r';refine ⟨rfl, OldK.of_keep λ b o e => ?_, os, bare⟩;cases q : H b with
    | none => exact un.keep b o e q (by intro z; exact absurd (show b ∈ ([] : List Addr) from z) (by simp)) (by simp)
    | some u =>
     rcases hO b with z | ⟨ob, xs, z⟩
     ·rw [q] at z; cases z
     ·have z2 := un.y_ b ob _ z;obtain ⟨e1, _⟩ := Ą b _ z;obtain ⟨e2, _⟩ := P0 b _ z2;rw [e] at e1; cases e1;exact e2
 cases hk : K.lookup a with
 | some o =>
  have e := KX a o hk;rw [ha] at e;cases e;refine core (λ _ => none) (λ _ => .inl rfl) (.inr ⟨_, vs.toArray, _, hk, rfl, rfl, rfl, by rw [Ô, Ps]; exact hl, by simpa using rv⟩) (λ b u z => by have z' : (none : Option HO) = some u := z; cases z') (λ b z => absurd rfl z) λ z => absurd rfl z
 | none =>
  refine core (λ b => if b = a then some (.f_ { cls := .type "list", data := .seq vs.toArray } (.lst (ns.map V.int))) else none) (λ b => ?_) (.inl (.inr ⟨{ cls := .type "list", data := .seq vs.toArray }, Õ rfl⟩)) (λ b u z => ?_) (λ b z => ?_) λ _ => hk
  ·by_cases hb : b = a
   ·exact .inr ⟨_, _, Õ hb⟩
   ·exact .inl (Ë hb)
  ·by_cases hb : b = a
   ·have z' := (Õ hb).symm.trans z;cases z';subst hb;exact ⟨ha, by rw [Å]; exact hl, vs, _, rv, ha⟩
   ·have z' := (Ë hb).symm.trans z;cases z'
  ·by_cases hb : b = a
   ·exact hb
   ·exact absurd (Ë hb) z
theorem Ke {l : PySem.W.OpenLaw} {n k : Nat} {q : Program} {loose : List Str} {XP : (Str -> Option Value) -> Heap -> Prop} {YP : World -> Heap -> Prop} {d : DefRec} {K : Params -> PySem.W.Frag} {CX : World -> kY} {sp : World -> Sp} {x : Str}
  (hn : l.most = some n) (Ve : n <= sizeLine) (N1 : d.params.defaults = []) (hr : ė k callerA)
  (hY : ∀ (w : World) (h : Heap), YP w h -> (K w.params).In h)
  (F : ∀ (w : World) (mg : bu) (fa : Addr) (h : Heap), (K w.params).In h -> h.Ns mainGlobals mg -> mg d.name = some (.ref fa) ->
   ∃ fd : FuncData, (∀ (s : Shared) (u : Value), BindsTo s fd ⟨[u], []⟩ [(x, u)]) /\
    ∀ base : Heap, (K w.params).In base -> base.Ns mainGlobals mg -> az l.prog w (K w.params) mg base (CX w) k fa fd [x] (sp w))
  (IZ : ∀ (w : World) (H : Hp) (a : Addr) (ns : List Int), ns.length <= n -> zr H -> û (K w.params) H a (ns.map V.int) -> H sysModules = none -> sp w [.ref a] H (λ v _ => v = .bl true) λ _ _ _ => False)
  (Ql : ∀ (w : World) (H : Hp) (s : Shared) (e : Value) (s' : Shared), CX w [] H s (λ _ _ _ => False) e s' -> False) :
  PySem.W.WalkO q loose XP YP l.row.toRowW d [] (λ f vs => PySem.call f vs) := by
 refine Att.IK hn N1 λ w ŏ ą mg mb fa o pm cd doc a vs ns G Y ho hd JV NV MH hints ŋ hg low => ?_;have KX := hY w _ Y;obtain ⟨fd, hb, hF⟩ := F w mg fa _ KX G.T.g NV;exact qj KX G.T.g G.T.b G.T.builtins G.T.nolimit hg MH hints (Ò ŋ Ve) hr low hF hb (λ H hO hS hz => IZ w H a ns ŋ hO hS hz) λ H e s' => Ql w H ą e s'
end L2
namespace My
open PySem L2
def cD (i : Nat) : Stmt := PySem.Challenge.pw_trialdeal_k55_shares_of_a_listing.main.body.getD i (.Pass ⟨0, 0, 0, 0⟩)
end My
namespace My
open PySem
section
variable {prog : Program} {w : World} {A : Around} {h : Heap} {g : Array GenState} {d : Drawn} {tk : Nat} {os : OsState} {C N e t0 : Addr}
variable {nm q : Str} {bs bm M0 : List Value} {Lf ab : Bool} {sn : List Str} {sub : List Value} {col : Option Bool} {dd : Option Addr}
variable {k0 k1 k2 k3 k5 : Option Value} {B newId HX : String}
abbrev cS (C t : Addr) : Obj := { cls := .ref C, data := .fields #[.ref t, .none, .none, .none, .bool false, .none] }
theorem zC {R : Result -> Shared -> Prop} {v : Value} (F : ExcBaseFacts B newId HX M0) (T : OwnTail h M0 bm)
  (hC : h.get? C = some (excClassObj nm q C N bs bm Lf sn sub ab col dd k0 k1 k2 k3 k5 newId)) (he : h.get? e = some (cS C t0))
  (hR : ∀ h', h'.get? e = some (cS C h.objs.size) -> (∀ b o, b ≠ e -> h.get? b = some o -> h'.get? b = some o) -> R (.ok (.ret .none)) ⟨h', g, d, tk, os⟩) :
  codeAny (model prog w) A (.call (.builtin HX) ⟨[.ref e, v], []⟩) R ⟨h, g, d, tk, os⟩ := by
 refine Ζ F.init.plain F.initEntry (wpAny_check_init_subT F T hC he rfl ?_)
 wp_walk
 refine hR _ ?_ λ b o hb eb => ?_
 ·exact ï _ (Á _ he) rfl
 ·exact (Þ _ _ _ _ hb).trans (Á _ eb)
end
end My
namespace My
open PySem PySem.W Builtin Builtin.ObjectAttr
section
variable {prog : Program} {w : World} {A : Around} {s : Shared} {K : Frag} {C x : Addr}
theorem wN {R : Result -> Shared -> Prop} {ox : Obj} {od : Option Obj} {name : Str} {tk : Tok} {v : Value} {cd : ClassData} (X : K.In s.heap) (I : InstAt s.heap x ox C od)
  (hc : clsIn K C = some cd) (hp : refuseLoop (.ref x) "__setattr__" cd.mro = pure ()) (K' : mroIn K C (.type "object") = some true) (ht : takerIn K C name = some none)
  (h : ∀ b, wpAny (model prog w) A.in1 (storeInOwnDict (.ref x) (.ref C) (.str name tk) name v b)
   (λ fin s' => match fin with | .done f => R (.ok f) s' | .again c' => c'.quiet = true /\ codeAny (model prog w) A c' R s') (λ e s' => R (.error e) s') s) :
  codeAny (model prog w) A (.call (.builtin "object.__setattr__") ⟨[.ref x, .str name tk, v], []⟩) R s := by
 have SF := PySem.F.store_object;have sub : Looks (model prog w) s.heap (isInstance (.ref x) (.type "object")) true := I.type.andThen (z_ X K');refine Ζ SF.slot.plain SF.entry (@check_slot (model prog w) _ _ s "object.__setattr__" "object" "__setattr__" (.ref x) [.str name tk, v] [] _ SF.kind SF.split sub (SF.args _ _ _) ?_);obtain ⟨attr, ha, hr⟩ := Option.bind_eq_some_iff.mp ht;have hm : Looks (model prog w) s.heap (mroOf (.ref C)) cd.mro := (looks_clsIn X hc).andThen .now;have L3 : Looks (model prog w) s.heap (storeTaker? attr) none := by
  cases attr with
  | none => exact .now
  | some a =>
   obtain ⟨b, hb, e⟩ := đ.mp hr;refine (looks_takesIn X hb).andThen ?_;cases b
   ·exact .now
   ·cases e
 rw [osa_eq, refuse_eq];refine À (À (I.type.here (À (hm.here ?_))));rw [hp];refine Â (À (I.type.here (À ((τ X ha).here (À (L3.here ?_))))));exact h _
end
section
variable {prog : Program} {w : World} {A : Around} {E : bo} {s : Shared} {K : Frag} {C x : Addr}
theorem yi {fs : Array Value} {sl : Array (Option Value)} {name : Str} {v : Value} {cd : ClassData} {Q : Unit -> Shared -> Prop} (X : K.In s.heap) (hx : s.heap.get? x = some ⟨.ref C, none, .fields fs, sl⟩)
  (hs : findIn K (.ref C) "__setattr__" = some (some (.builtin "object.__setattr__"))) (hc : clsIn K C = some cd) (hd : cd.hasDict = true)
  (hp : refuseLoop (.ref x) "__setattr__" cd.mro = pure ()) (K' : mroIn K C (.type "object") = some true) (ht : takerIn K C name = some none)
  (h : ∀ h' tk, h'.get? x = some ⟨.ref C, some s.heap.objs.size, .fields fs, sl⟩ -> h'.Ns1 s.heap.objs.size (λ y => if y = name then some v else none) ->
   (∀ b o, b ≠ x -> s.heap.get? b = some o -> h'.get? b = some o) -> Q () { s with heap := h', toks := tk }) : wpAny (model prog w) A (setAttr (.ref x) name v) Q E s := by
 have J : InstAt s.heap x ⟨.ref C, none, .fields fs, sl⟩ C none := ⟨hx, rfl, rfl, True.intro⟩;refine set_plain X J hs (wN (s := { s with toks := s.toks + 1 }) X J hc hp K' ht λ b => ?_)
 refine À (Â (À (À (IP hx (À (ě (s := { s with toks := s.toks + 1 }) (looks_clsIn X hc) ?_))))))
 rw [hd];have KP : (s.heap.push { cls := .type "dict", data := .dict #[] }).get? x = some ⟨.ref C, none, .fields fs, sl⟩ := Á _ hx;have RG : x ≠ s.heap.objs.size := Í (Æ hx);refine À (wpAny_alloc' ?_);refine À (wpAny_update' KP ?_);refine Â ?_;generalize eU : ((s.heap.push { cls := .type "dict", data := .dict #[] }).update x λ o => { cls := o.cls, dict := some s.heap.objs.size, data := o.data, slots := o.slots } : Heap) = hU;have gd : hU.get? s.heap.objs.size = some { cls := .type "dict", data := .dict #[] } := by
  rw [<- eU];exact (Þ _ _ _ _ RG.symm).trans (Ů rfl rfl)
 have gx : hU.get? x = some ⟨.ref C, some s.heap.objs.size, .fields fs, sl⟩ := by
  rw [<- eU];exact ï _ KP rfl
 have nd : hU.Ns s.heap.objs.size (λ _ => none) := ⟨_, #[], _, gd, rfl, λ e he => absurd he (by simp), λ _ => rfl⟩
 show wpAny _ _ (storeInDict s.heap.objs.size (.str name _) name v) _ _ _;unfold storeInDict newKeyGuard;refine À (Â (À (wpAny_nsSet1 (Heap.Ns1.of_empty nd) λ h' LS I_ => ?_)));obtain ⟨oD, XE, XF, NU, Qf, Lj⟩ := LS.count (Within.cons name v Within.nil);refine À (wpAny_lookBehind NU (by
  rw [Qf];exact pastItsLine_dict (Ò Lj (by rw [Ü, JO, Ú]; omega))) ?_)
 refine Â ?_;refine h h' _ ((I_.2 x RG).trans gx) LS λ b o hb e => ?_;refine (I_.2 b (Í (Æ e))).trans ?_;rw [<- eU];exact (Þ _ _ _ _ hb).trans (Á _ e)
end
section
variable {prog : Program} {w : World} {A : Around} {E : bo} {s : Shared} {K : Frag} {C x dx : Addr}
abbrev nU : String := "BaseException.__getattribute__"
theorem vF {R : Result -> Shared -> Prop} {ox : Obj} {od : Option Obj} {name : Str} {tk : Tok} {v : Value} (X : K.In s.heap) (I : InstAt s.heap x ox C od)
  (K' : mroIn K C (.type "BaseException") = some true) (hf : findObj K C od name = some (.value v)) (h : R (.ok (.ret v)) s) :
  codeAny (model prog w) A (.call (.builtin nU) ⟨[.ref x, .str name tk], []⟩) R s := by
 have sub : Looks (model prog w) s.heap (isInstance (.ref x) (.type "BaseException")) true := I.type.andThen (z_ X K');have L1 := looks_find (M := model prog w) X I hf;refine Ζ Ņ.ga.plain PySem.F.entry_bexc_ga (@check_slot (model prog w) _ _ s nU "BaseException" "__getattribute__" (.ref x) [.str name tk] [] _ aJ aJ sub (PySem.F.args_bexc_ga _ _) ?_);refine À (Â (À (Â (À (I.type.here (À (L1.here ?_)))))));exact Â h
theorem zx {expr : Bool} {ox : Obj} {od : Option Obj} {name : Str} {v : Value} {Q : bo} (X : K.In s.heap) (I : InstAt s.heap x ox C od)
  (Vn : findIn K (.ref C) "__getattribute__" = some (some (.builtin nU))) (hk : findIn K (.ref C) "__getattr__" = some none)
  (K' : mroIn K C (.type "BaseException") = some true) (hf : findObj K C od name = some (.value v)) (Kx : handedIn v = true) (h : Q v { s with toks := s.toks + 1 }) :
  wpAny (model prog w) A (getAttr (.ref x) name expr) Q E s := by
 have L0 := I.type (M := model prog w);have L1 := τ (M := model prog w) X Vn;have L2 := τ (M := model prog w) X hk;have f3 := Ņ.ga.bind (.ref x);unfold getAttr getAttrBy;refine À (wpAny_mkText (ä (À (ě (s := { s with toks := s.toks + 1 }) L0 (À (ě (s := { s with toks := s.toks + 1 }) L1 ?_))))))
 have KP : (onTheHeap (Value.ref C) && Value.builtin nU == Value.builtin "object.__getattribute__") = false := by
  rw [show (Value.builtin nU == Value.builtin "object.__getattribute__") = false from by decide +kernel]
  rfl
 show wpAny _ _ (if (onTheHeap (Value.ref C) && Value.builtin nU == Value.builtin "object.__getattribute__") = true then _ else _) _ _ _
 rw [Ë (by rw [KP]; decide)]
 unfold getAttrByItsOwn;refine À ?_;show wpAny _ _ (typeLookup (.ref C) "__getattr__") _ _ _;refine ě (s := { s with toks := s.toks + 1 }) L2 ?_
 have RH : (expr && onTheHeap (Value.builtin nU)) = false := by cases expr <;> rfl
 refine À (ğ (ä ?_));unfold callGetattribute;rw [Ë (by rw [RH]; decide)]
 unfold boundAndCalled;rw [f3];refine À (Â ?_);refine ſ (vF (s := { s with toks := s.toks + 1 }) X I K' hf ?_)
 show wpAny _ _ (handedOut v) _ _ _;rw [handedOut_of Kx];exact Â h
end
end My
namespace My
open PySem PySem.W
section
variable {prog : Program} {w : World} {A : Around} {E : bo} {h : Heap} {g : Array GenState}
variable {d : Drawn} {t : Nat} {os : OsState} {nm q : Str} {C N : Addr} {bs bm M0 : List Value} {Lf ab : Bool}
variable {sn : List Str} {sub : List Value} {col : Option Bool} {dd : Option Addr}
variable {k0 k1 k2 k3 k5 : Option Value} {B newId HX : String} {K : Frag}
abbrev gi (vs : List Value) : Obj := { cls := .type "tuple", data := .seq vs.toArray }
theorem Ak (X : K.In h) (F : ExcBaseFacts B newId HX M0) (T : OwnTail h M0 bm) {rest : List Value}
  {fI : Addr} {Q : Fin -> Shared -> Prop}
  (hC : h.get? C = some (excClassObj nm q C N bs bm Lf sn sub ab col dd k0 k1 k2 k3 k5 newId))
  (hi : findIn K (.ref C) "__init__" = some (some (.ref fI))) (Qe : typeIn K (.ref fI) = some (.type "function"))
  (hq : wpAny (model prog w) A (call (.ref fI) (.ref (h.objs.size + 1) :: rest))
   (λ r s' => r = .none /\ Q (.done (.ret (.ref (h.objs.size + 1)))) s') E ⟨(h.push (gi rest)).push (cS C h.objs.size), g, d, t, os⟩)
  (Kz : rest.length <= sizeLine) :
  wpAny (model prog w) A (Builtin.«type.__call__» ⟨.ref C :: rest, []⟩) Q E ⟨h, g, d, t, os⟩ := by
 repeat (first
  | with_reducible refine J9 hC ?_
  | with_reducible refine wpAny_madeBy_exc hC ?_
  | wp_step)
 refine codeAny_call_builtin_code (Code.quiet_builtin _ F.quiet) (wpAny_check_new_subT F T hC ?_);refine codeAny_exc_new_subT F T hC ?_ Kz;show wpAny _ _ _ _ _ _;have up : ∀ b o, h.get? b = some o -> ((h.push (gi rest)).push (cS C h.objs.size)).get? b = some o :=
  λ b o e => Á _ (Á _ e)
 have VC := up _ _ hC;have X1 : K.In ((h.push (gi rest)).push (cS C h.objs.size)) := X.keeps up;have Vo : ((h.push (gi rest)).push (cS C h.objs.size)).get? (h.objs.size + 1) = some (cS C h.objs.size) := by heap_get
 have Vu : (Value.ref C :: bm).contains (.ref C) = true := by simp
 unfold isInstance
 repeat (first
  | with_reducible refine J9 Vo ?_
  | (with_reducible refine wpAny_isSubtype_exc VC ?_; rw [Vu])
  | wp_step)
 show wpAny _ _ (typeLookup (.ref C) _) _ _ _;refine ě (s := ⟨(h.push (gi rest)).push (cS C h.objs.size), g, d, t, os⟩) (τ X1 hi) ?_;refine ä (À ?_);unfold bindSpecial;refine À (ě (s := ⟨(h.push (gi rest)).push (cS C h.objs.size), g, d, t, os⟩) (looks_typeIn X1 Qe) ?_);rw [Õ am];refine Â (À (é hq (λ r s' hr => ?_) λ _ _ x => x));obtain ⟨rfl, hQ⟩ := hr
 wp_walk
 exact hQ
theorem Cc (X : K.In h) (F : ExcBaseFacts B newId HX M0) (T : OwnTail h M0 bm) {rest : List Value}
  {fI : Addr} {Q : bo}
  (hC : h.get? C = some (excClassObj nm q C N bs bm Lf sn sub ab col dd k0 k1 k2 k3 k5 newId))
  (hi : findIn K (.ref C) "__init__" = some (some (.ref fI))) (Qe : typeIn K (.ref fI) = some (.type "function"))
  (hq : wpAny (model prog w) (A.under (.builtin "type.__call__" ⟨.ref C :: rest, []⟩))
   (call (.ref fI) (.ref (h.objs.size + 1) :: rest)) (λ r s' => r = .none /\ Q (.ref (h.objs.size + 1)) s') E ⟨(h.push (gi rest)).push (cS C h.objs.size), g, d, t, os⟩)
  (Kz : rest.length <= sizeLine) : wpAny (model prog w) A (call (.ref C) rest) Q E ⟨h, g, d, t, os⟩ := by
 have f1 := tc_lookup;have f2 := tc_bind (.ref C);have hT : Shared.TypeIs ⟨h, g, d, t, os⟩ (.ref C) "type" := ⟨_, hC, rfl⟩;refine ſ (codeAny_of_tree ?_);show wpAny _ _ (callAny (.ref C) _) _ _ _
 repeat (any_goals (first
  | assumption
  | with_reducible refine J9 hC ?_
  | wp_step))
 refine ⟨rfl, ?_⟩;refine codeAny_call_builtin_at (Code.quiet_builtin _ aJ) entry_typeCall (wpAny_check_type_call_sub hC ?_);exact Ak X F T hC hi Qe hq Kz
end
section
variable {prog : Program} {w : World} {A : Around} {E : bo} {s : Shared} {K : Frag} {x C : Addr} {ox : Obj} {od : Option Obj}
theorem t6 {a g : Value} {name : Str} (hc : (clsIn K C).isSome = true) (ha : findIn K (.ref C) name = some (some a)) (hg : specialIn K a "__get__" = some (some g)) (ht : takesIn K a = some true) : findObj K C od name = some (.bind g a) := by
 obtain ⟨cd, hc⟩ := Œ.mp hc;unfold findObj;rw [hc, υ, ha, υ];simp [hg, ht]
theorem vm {R : Result -> Shared -> Prop} {name : Str} {tk : Tok} {a g : Value} (X : K.In s.heap) (I : InstAt s.heap x ox C od)
  (K' : mroIn K C (.type "BaseException") = some true) (hf : findObj K C od name = some (.bind g a))
  (h : wpAny (model prog w) A.in1 (call g [a, .ref x, .ref C]) (λ v s' => R (.ok (.ret v)) s') (λ e s' => R (.error e) s') s) :
  codeAny (model prog w) A (.call (.builtin nU) ⟨[.ref x, .str name tk], []⟩) R s := by
 have sub : Looks (model prog w) s.heap (isInstance (.ref x) (.type "BaseException")) true := I.type.andThen (z_ X K');have L1 := looks_find (M := model prog w) X I hf;refine Ζ Ņ.ga.plain PySem.F.entry_bexc_ga (@check_slot (model prog w) _ _ s nU "BaseException" "__getattribute__" (.ref x) [.str name tk] [] _ aJ aJ sub (PySem.F.args_bexc_ga _ _) ?_);refine À (Â (À (Â (À (I.type.here (À (L1.here ?_)))))));show wpAny _ _ (holding [a] (call g [a, .ref x, .ref C]) >>= ret) _ _ _;exact À (ä (é h (λ v s' z => Â z) λ _ _ z => z))
structure ky (K : Frag) (C : Addr) : Prop where
 cls : (clsIn K C).isSome = true
 ga : findIn K (.ref C) "__getattribute__" = some (some (.builtin nU))
 hk : findIn K (.ref C) "__getattr__" = some none
 mb : mroIn K C (.type "BaseException") = some true
 mo : mroIn K C (.type "object") = some true
 ca : findIn K (.ref C) "__class__" = some (some (.builtin "object.__class__"))
theorem rT {Q : Option Value -> Shared -> Prop} (T : ky K C) (hn : specialIn K (.builtin "object.__class__") "__get__" = some (some (.builtin "getset_descriptor.__get__"))) (M8 : takesIn K (.builtin "object.__class__") = some true)
  (X : K.In s.heap) (I : InstAt s.heap x ox C od) (h : Q (some (.ref C)) { s with toks := s.toks + 1 }) : wpAny (model prog w) A (getAttr? (.ref x) "__class__") Q E s := by
 have hf : findObj K C od "__class__" = some (.bind (.builtin "getset_descriptor.__get__") (.builtin "object.__class__")) := t6 T.cls T.ca hn M8;have L0 := I.type (M := model prog w);have L1 := τ (M := model prog w) X T.ga;have L2 := τ (M := model prog w) X T.hk;have f3 := Ņ.ga.bind (.ref x);unfold getAttr? getAttrBy? getAttrBy;refine À (wpAny_mkText (À (ğ (ä (À (ě (s := { s with toks := s.toks + 1 }) L0 (À (ě (s := { s with toks := s.toks + 1 }) L1 ?_))))))))
 have KP : (onTheHeap (Value.ref C) && Value.builtin nU == Value.builtin "object.__getattribute__") = false := by
  rw [show (Value.builtin nU == Value.builtin "object.__getattribute__") = false from by decide +kernel]
  rfl
 show wpAny _ _ (if (onTheHeap (Value.ref C) && Value.builtin nU == Value.builtin "object.__getattribute__") = true then _ else _) _ _ _
 rw [Ë (by rw [KP]; decide)]
 unfold getAttrByItsOwn;refine À ?_;show wpAny _ _ (typeLookup (.ref C) "__getattr__") _ _ _;refine ě (s := { s with toks := s.toks + 1 }) L2 ?_
 refine À (ğ (ä ?_));unfold callGetattribute;rw [Ë am];unfold boundAndCalled;rw [f3];refine À (Â ?_);refine ſ (vm (s := { s with toks := s.toks + 1 }) X I T.mb hf ?_)
 refine ſ (class_get (s := { s with toks := s.toks + 1 }) (ox := ox) (od := od) X I T.mo ?_)
 show wpAny _ _ (handedOut (.ref C)) _ _ _;rw [handedOut_of rfl];exact Â (Â h)
theorem rN (T : ky K C) (hn : specialIn K (.builtin "object.__class__") "__get__" = some (some (.builtin "getset_descriptor.__get__"))) (M8 : takesIn K (.builtin "object.__class__") = some true) :
  KitX K (.ref x) (.ref C) (λ h => ∃ ox od, InstAt h x ox C od) where
 ty := λ _ _ _ ⟨_, _, I⟩ => I.type
 it := λ _ _ X _ => by
  obtain ⟨W3, Lj⟩ := Œ.mp T.cls;unfold clsIn at Lj;split at Lj
  ·rename_i c' d' W4 O1 ho
   intro A' Q' E' s' k q;unfold isType loadHead;exact À (IP (k _ _ (X _ _ ho)) (Â q))
  ·cases Lj
 ne := λ h tp dd its n sl X U2 => by
  obtain ⟨W3, Lj⟩ := Œ.mp T.cls;refine Bool.eq_false_iff.mpr λ q => ?_;have e : C = tp := s_ (beq_iff_eq.mp q);subst e;unfold clsIn at Lj;split at Lj
  ·rename_i c' d' W4 O1 ho
   have z := (X _ _ ho).symm.trans U2;cases z
  ·cases Lj
 ca := λ X ⟨_, _, I⟩ k => rT T hn M8 X I k
end
end My
namespace My
open PySem PySem.W L2
abbrev pb : List Value := [.type "ValueError", .type "Exception", .type "BaseException", .type "object"]
abbrev jA (C : Addr) (d : Option Addr) (t : Addr) : Obj := { cls := .ref C, dict := d, data := .fields #[.ref t, .none, .none, .none, .bool false, .none] }
def cO (x C : Addr) (d : Option Addr) : HO := .ext λ h => ∃ t, h.get? x = some (jA C d t)
theorem ko {P : Program} {w : World} {H : Hp} {h : Heap} {x C : Addr} {d : Option Addr} {t : Addr} (e : h.get? x = some (jA C d t)) : ù P w H h x (cO x C d) :=
 ⟨⟨t, e⟩, ⟨_, e⟩, λ _ _ ⟨t', e'⟩ k => ⟨t', k _ e'⟩⟩
theorem f7 {P : Program} {w : World} {H : Hp} {h : Heap} {x C : Addr} {d : Option Addr} (ok : Ų P w H h) (e : H x = some (cO x C d)) : ∃ t, h.get? x = some (jA C d t) := (ok x _ e).1
theorem ou {H : Hp} {a : Addr} {o : HO} (h : H a = some o) : ak H a o = H := by
 funext b
 unfold ak;split
 ·rename_i e; rw [e, h]
 ·rfl
structure Ŀ (K : Frag) (D : Addr) : Prop where
 cls : ∃ nm q N bs sn sub ab col dd k0 k1 k2 k3 k5, K.lookup D = some (excClassObj nm q D N bs pb true sn sub ab col dd k0 k1 k2 k3 k5 "ValueError.__new__") /\
    ∃ o es ep, K.lookup N = some o /\ o.data = .dict es ep /\ StrKeys es /\ nsFind es "__init__" = none
 ga : specialIn K (.ref D) "__getattribute__" = some (some (.builtin "type.__getattribute__"))
 reads : readsIn K D (.type "type") = true
 NO : findCls K (.ref D) (.type "type") "__init__" = some (.val (.builtin "ValueError.__init__"))
 fi : findIn K (.ref D) "__init__" = some (some (.builtin "ValueError.__init__"))
 kp : keepIn K (.ref D) = true
 it : ky K D
theorem Ŀ.tail {K : Frag} {D : Addr} (B : Ŀ K D) {h : Heap} (X : K.In h) : OwnTail h pb (.ref D :: pb) := by
 obtain ⟨nm, q, N, bs, sn, sub, ab, col, dd, k0, k1, k2, k3, k5, l, o, es, ep, lN, hd, hs, hn⟩ := B.cls;exact .own (X _ _ l) ⟨o, es, ep, X _ _ lN, hd, hs, λ _ => rfl⟩ hn .base
structure ł (K : Frag) (D : Addr) (nm : Str) (C f : Addr) : Prop where
 cls : ∃ q N bs sn sub ab col dd k0 k1 k2 k3 k5, K.lookup C = some (excClassObj nm q C N bs (.ref D :: pb) true sn sub ab col dd k0 k1 k2 k3 k5 "ValueError.__new__")
 init : findIn K (.ref C) "__init__" = some (some (.ref f))
 fn : typeIn K (.ref f) = some (.type "function")
 kp : keepIn K (.ref C) = true
 sa : findIn K (.ref C) "__setattr__" = some (some (.builtin "object.__setattr__"))
 it : ky K C
theorem ł.clsIn {K : Frag} {D C f : Addr} {nm : Str} (T : ł K D nm C f) : ∃ cd, PySem.W.clsIn K C = some cd /\ cd.hasDict = true /\ cd.mro = .ref C :: .ref D :: pb := by
 obtain ⟨q, N, bs, sn, sub, ab, col, dd, k0, k1, k2, k3, k5, l⟩ := T.cls;unfold PySem.W.clsIn;rw [l];exact ⟨_, rfl, rfl, rfl⟩
theorem ł.refuse {K : Frag} {D C f : Addr} {nm : Str} (T : ł K D nm C f) (x : Addr) : ∃ cd, PySem.W.clsIn K C = some cd /\ cd.hasDict = true /\ refuseLoop (.ref x) "__setattr__" cd.mro = pure () := by
 obtain ⟨cd, h1, h2, h3⟩ := T.clsIn;refine ⟨cd, h1, h2, ?_⟩;rw [h3, refuseLoop_ref, refuseLoop_ref];exact PySem.F.store_ValueError.passes _
section
variable {X : Cx} {pins : List (Addr × Obj)} {σ : St} {H : Hp} {s : Shared}
def lJ (C : Addr) (fld : Str) : Sp := λ vs H Q _ => ∃ x v, vs = [.ref x, v] /\ H x = some (cO x C none) /\ ∀ dx, H dx = none -> dx ≠ x -> Q .Ė (ak (ak H dx (.xd [(fld, v)])) x (cO x C (some dx)))
def DE (C : Addr) (fld : Str) (te : TE) : TE := λ σ H Q => te σ H λ v H1 => ∀ x dx, H1 x = none -> H1 dx = none -> dx ≠ x -> Q (.ref x) (ak (ak H1 dx (.xd [(fld, v)])) x (cO x C (some dx)))
theorem FF {H : Hp} {x dx : Addr} {a b c : HO} (n : dx ≠ x) : ak (ak (ak H x a) dx b) x c = ak (ak H dx b) x c := by
 funext z
 unfold ak;by_cases h1 : z = x
 ·rw [Õ h1, Õ h1]
 ·rw [Ë h1, Ë h1];by_cases h2 : z = dx
  ·rw [Õ h2, Ë h1]
  ·rw [Ë h2, Ë h1]
theorem sW {D C f : Addr} {nm fld : Str} {k : Nat} {fd : FuncData} {ps : List Str} {u : Value} {v : V} {Q : VK} (B : Ŀ X.K D) (T : ł X.K D nm C f) (F : az X.prog X.w X.K X.mg X.base ar k f fd ps (lJ C fld)) (hr : ė (k + 1) X.A) (hb : Binds X.K fd ps [])
  (I : Inv X pins σ H s) (r : RelV v u) (h : ∀ x dx, H x = none -> H dx = none -> dx ≠ x -> Q (.ref x) (ak (ak H dx (.xd [(fld, v)])) x (cO x C (some dx)))) :
  wpAny (model X.prog X.w) X.A (call (.ref C) [u]) (EP X pins σ Q) X.xe s := by
 obtain ⟨hp, g, dr, tk, os⟩ := s;obtain ⟨q, N, bs, sn, sub, ab, col, dd, k0, k1, k2, k3, k5, l⟩ := T.cls;refine Cc (C := C) I.Ε J_ (B.tail I.Ε) (I.Ε _ _ l) T.init T.fn ?_ (by rw [Ü, JO, Ú]; omega)
 have f0 : H hp.objs.size = none := I.fresh;have I1 : Inv X pins σ H ⟨hp.push (gi [u]), g, dr, tk, os⟩ := I.kept (h' := hp.push (gi [u])) (t' := tk) λ b o e => Á _ e;have sz : (hp.push (gi [u])).objs.size = hp.objs.size + 1 := ö _ _;have fx : H (hp.objs.size + 1) = none := by rw [<- sz]; exact I1.fresh
 have I2 : Inv X pins σ (ak H (hp.objs.size + 1) (cO (hp.objs.size + 1) C none)) ⟨(hp.push (gi [u])).push (cS C hp.objs.size), g, dr, tk, os⟩ :=
  I1.laid (h' := (hp.push (gi [u])).push (cS C hp.objs.size)) (t' := tk) (a := hp.objs.size + 1) (λ b o e => Á _ e) (j_ sz)
   (ko (t := hp.objs.size) (Ů sz.symm rfl))
 generalize (⟨(hp.push (gi [u])).push (cS C hp.objs.size), g, dr, tk, os⟩ : Shared) = s2 at I2 ⊢;generalize hp.objs.size + 1 = x at fx I2 ⊢;have r2 : Vals [V.ref x, v] [Value.ref x, u] := .cons rfl (.cons r .nil);have IZ : lJ C fld [V.ref x, v] (ak H x (cO x C none)) (λ y H2 => y = .Ė /\ Q (.ref x) H2) E0 :=
  ⟨x, v, rfl, aQ, λ dx hd nd => ⟨rfl, by
   rw [FF nd];rw [ag nd] at hd;exact h x dx fx hd nd⟩⟩
 have hl : ([Value.ref x, u] ++ [] : List Value).length = ps.length := by
  rw [ü, <- r2.length];exact F.len _ _ _ _ IZ
 have RU := hb s2 [Value.ref x, u] I2.Ε hl;rw [ü] at RU;refine ſ (Ih (F.run _ X.stack s2 _ ⟨[Value.ref x, u], []⟩ [Value.ref x, u] _ _ E0 (hr.make C [u] []) (I2.MW.make C [u] []) RU r2 IZ) λ r s' MF => ?_);cases r with
 | error e => exact False.elim MF
 | ok fl =>
  cases fl with
  | ret u' =>
   obtain ⟨y, H', I3, ry, ey, q3⟩ := I2.after MF;subst ey;exact ⟨ry, V.ref x, H', I3, rfl, q3⟩
  | next => exact False.elim MF
  | brk => exact False.elim MF
  | cont => exact False.elim MF
end
def zc (h : Heap) (e : Addr) (vs : Array Value) : Prop := vs[1]? = some .none \/ ∃ T oT ts, vs[1]? = some (.ref T) /\ T ≠ e /\ h.get? T = some oT /\ oT.data = .fields ts /\ ts[3]? = some .none
structure Ia (fr : List Addr) (e T : Addr) (oe : Obj) (h h' : Heap) (r : Value) : Prop where
 keep : ∀ b o, b ≠ e -> b ∉ fr -> h.get? b = some o -> h'.get? b = some o
 slot : ∀ b o, b ≠ e -> h.get? b = some o -> ∃ sl, h'.get? b = some { o with slots := sl }
 new : h.objs.size <= T
 exc : h'.get? e = some (oe.mapFields (λ x => x.setIfInBounds 1 (.ref T)))
 Og : ∃ oT ts, h'.get? T = some oT /\ oT.data = .fields ts /\ ts[3]? = some r /\ T ≠ e
theorem lW {vs : Array Value} {i : Nat} {v : Value} (h : vs[i]? = some v) : vs.setIfInBounds i v = vs := by
 obtain ⟨hi, e⟩ := ç.mp h;apply Array.ext
 ·simp
 ·intro j h1 h2;simp only [Array.size_setIfInBounds] at h1;rw [Array.getElem_setIfInBounds h1];split
  ·rename_i z; subst z; exact e.symm
  ·rfl
theorem qI {o : Obj} {vs : Array Value} (hd : o.data = .fields vs) (f : Array Value -> Array Value) : o.mapFields f = { o with data := .fields (f vs) } := by
 obtain ⟨c, d, dt, sl⟩ := o;have e : dt = .fields vs := hd;subst e;rfl
theorem kO {M : Model} {A : Around} {E : bo} {s : Shared} {c : String} {vs : List Value} {Q : bo} (hl : vs.length <= sizeLine + 2)
  (q : Q (.ref s.heap.objs.size) { s with heap := s.heap.push { cls := .type c, data := .fields vs.toArray } }) : wpAny M A (newFields c vs) Q E s := by
 unfold newFields newObj;refine ĝ (à (by rw [Ô]; omega)) ?_
 unfold newObjAsIs;exact À (wpAny_alloc (Â q))
theorem qV {pl : List Value} (h : IsPlace pl) : pl.length <= 6 := by
 rcases h with rfl | ⟨a, b, c, d, c9, XJ, _, rfl⟩
 ·decide
 ·exact Ä _
section
variable {M : Model} {A : Around} {E : bo} {s : Shared} {base : Heap} {env : Env} {outer : List Env} {L e : Addr} {oe : Obj} {vs : Array Value} {Q : Unit -> Shared -> Prop}
theorem pZ {head : Value} {hn : Bool} (hA : A.frames = some (env :: outer)) (hF : s.heap.FunFrames base (env :: outer)) (hL : env.frame = some L) (he : s.heap.get? e = some oe) (hd : oe.data = .fields vs) (h1 : 1 < vs.size)
  (q : ∀ h' T, Ia (jp (env :: outer)) e T oe s.heap h' (rawInt ↑L) -> Q () { s with heap := h' }) :
  wpAny M A (do
   let a <- frameOf env
   let pl <- entryPlaceOf L hn
   let b <- EntryCells.newEntry head a .none (rawInt ↑L) .none pl
   setField (.ref e) 1 b) Q E s := by
 have Oq : e ∉ jp (env :: outer) := λ z => by
  obtain ⟨_, o, ho, hn⟩ := hF.mem z;rw [he] at ho; cases ho;exact hn vs hd
 refine À (wpAny_frameOf_fun hA hF hL λ KD so => ?_);refine À (wpAny_entryPlaceOf λ pl g_ => ?_);refine À ?_;unfold EntryCells.newEntry;refine kO ?_ ?_
 ·have := qV g_;have b : 100 <= sizeLine := am;rw [Ï];split
  ·rw [ø]; show 5 + 6 <= _; omega
  ·show 5 + pl.length <= _; omega
 have e1 : KD.get? e = some oe := by rw [so.2.1 e Oq]; exact he
 have lt := Æ e1;generalize RJ : ({ cls := .type "traceback", data := .fields ([head, Value.ref L, .none, rawInt ↑L, .none] ++ if pl.isEmpty = true then List.replicate 6 Value.none else pl).toArray } : Obj) = ob
 have e2 : (KD.push ob).get? e = some oe := Á _ e1;refine Ő e2 hd h1 ?_;refine q _ KD.objs.size ⟨λ b o nb nf hb => ?_, λ b o nb hb => ?_, j_ so.1.symm, ?_, ?_⟩
 ·rw [Þ _ _ _ _ nb];exact Á _ (by rw [so.2.1 b nf]; exact hb)
 ·obtain ⟨sl, z⟩ := so.2.2 b o hb;exact ⟨sl, by rw [Þ _ _ _ _ nb]; exact Á _ z⟩
 ·exact ï _ e2 (by rw [qI hd]; rfl)
 ·have nT : KD.objs.size ≠ e := Ne.symm (Í lt);refine ⟨ob, _, ?_, by rw [<- RJ], ?_, nT⟩
  ·rw [Þ _ _ _ _ nT];exact Ů rfl (by rw [<- RJ]; rfl)
  ·rfl
theorem iS (hA : A.frames = some (env :: outer)) (hF : s.heap.FunFrames base (env :: outer)) (hL : env.frame = some L) (he : s.heap.get? e = some oe) (hd : oe.data = .fields vs) (hv : zc s.heap e vs)
  (q : ∀ h' T, Ia (jp (env :: outer)) e T oe s.heap h' (rawInt ↑L) -> Q () { s with heap := h' }) : wpAny M A (noteFrame (.ref e) env) Q E s := by
 unfold noteFrame;rw [hL];rcases hv with hv | ⟨T, oT, ts, hv, nT, hT, Lk, h3⟩
 ·have h1 : 1 < vs.size := (ç.mp hv).1;refine À (þ he hd hv ?_);refine ĝ rfl ?_;exact pZ hA hF hL he hd h1 q
 ·have h1 : 1 < vs.size := (ç.mp hv).1;have OE : 3 < ts.size := (ç.mp h3).1;refine À (þ he hd hv ?_);refine Đ rfl ?_;refine À (þ hT Lk h3 ?_);refine ĝ rfl ?_;refine À (Ő hT Lk OE ?_);have g : ∀ b, (s.heap.update T (Obj.mapFields λ x => x.setIfInBounds 3 Value.none)).get? b = s.heap.get? b := λ b => by
   by_cases z : b = T
   ·subst z;rw [ï _ hT (by rw [qI Lk]; rfl), hT, qI Lk, lW h3, <- Lk]
   ·exact Þ _ _ _ _ z
  have sz : (s.heap.update T (Obj.mapFields λ x => x.setIfInBounds 3 Value.none)).objs.size = s.heap.objs.size := F' _ _ _;generalize s.heap.update T (Obj.mapFields λ x => x.setIfInBounds 3 Value.none) = h0 at g sz;have Vz : h0.FunFrames base (env :: outer) := Heap.FunFrames.of_keeps (λ b o hb _ => ⟨o, by rw [g]; exact hb, rfl⟩) hF
  refine pZ (s := { s with heap := h0 }) hA Vz hL (by show h0.get? e = _; rw [g]; exact he) hd h1 λ h' T' x => ?_
  exact q h' T' ⟨λ b o nb nf hb => x.keep b o nb nf (by show h0.get? b = _; rw [g]; exact hb), λ b o nb hb => x.slot b o nb (by show h0.get? b = _; rw [g]; exact hb), by rw [<- sz]; exact x.new, x.exc, x.Og⟩
theorem Ia.KG {fr : List Addr} {T : Addr} {h h' : Heap} {r : Value} (x : Ia fr e T oe h h' r) (hd : oe.data = .fields vs) (h1 : 1 < vs.size) (s' : Shared) (es : s'.heap = h')
  (q : ∀ h2, Ia fr e T oe h h2 .none -> Q () { s' with heap := h2 }) : wpAny M A (setFlight (.ref e) none) Q E s' := by
 subst es;obtain ⟨oT, ts, hT, Lk, h3, nT⟩ := x.Og;have OE : 3 < ts.size := (ç.mp h3).1;have e1 : (oe.mapFields (λ x => x.setIfInBounds 1 (.ref T))).data = .fields (vs.setIfInBounds 1 (.ref T)) := Ť hd _;have e2 : (vs.setIfInBounds 1 (Value.ref T))[1]? = some (.ref T) := by simp [h1]
 refine wpAny_setFlight_none x.exc e1 e2 hT Lk OE (q _ ⟨λ b o nb nf hb => ?_, λ b o nb hb => ?_, x.new, ?_, ?_⟩)
 ·have z := x.keep b o nb nf hb;rw [Þ _ _ _ _ (λ w => ?_)]
  ·exact z
  ·rw [w] at hb;exact absurd (Û (Æ hb) x.new) (Ă _)
 ·obtain ⟨sl, z⟩ := x.slot b o nb hb;refine ⟨sl, ?_⟩;rw [Þ _ _ _ _ (λ w => ?_)]
  ·exact z
  ·rw [w] at hb;exact absurd (Û (Æ hb) x.new) (Ă _)
 ·rw [Þ _ _ _ _ nT.symm];exact x.exc
 ·refine ⟨_, _, ï _ hT (by rw [qI Lk]; rfl), Ť Lk _, ?_, nT⟩
  simp [OE]
theorem mk (hA : A.frames = some (env :: outer)) (hF : s.heap.FunFrames base (env :: outer)) (hL : env.frame = some L) (he : s.heap.get? e = some oe) (hd : oe.data = .fields vs) (hv : zc s.heap e vs)
  (q : ∀ h' T, Ia (jp (env :: outer)) e T oe s.heap h' .none -> Q () { s with heap := h' }) : wpAny M A (leaving env (.ref e)) Q E s := by
 have h1 : 1 < vs.size := by
  rcases hv with hv | ⟨T, oT, ts, hv, _⟩
  ·exact (ç.mp hv).1
  ·exact (ç.mp hv).1
 unfold leaving;exact À (iS hA hF hL he hd hv λ h' T x => x.KG hd h1 _ rfl λ h2 x2 => q h2 T x2)
end
def one (P : V -> Hp -> Prop) (vs : List V) (H : Hp) : Prop := match vs with
 | [v] => P v H
 | _ => False
theorem yu {P : V -> Hp -> Prop} {vs : List V} {H : Hp} (h : one P vs H) : ∃ v, vs = [v] /\ P v H := by
 cases vs with
 | nil => exact h.elim
 | cons v r =>
  cases r with
  | nil => exact ⟨v, rfl, h⟩
  | cons _ _ => exact h.elim
def AI (P : V -> V -> Hp -> Prop) (vs : List V) (H : Hp) : Prop := match vs with
 | [v, u] => P v u H
 | _ => False
theorem zF {P : V -> V -> Hp -> Prop} {vs : List V} {H : Hp} (h : AI P vs H) : ∃ v u, vs = [v, u] /\ P v u H := by
 match vs, h with
 | [v, u], h => exact ⟨v, u, rfl, h⟩
section
variable {X : Cx} {pins : List (Addr × Obj)} {σ : St} {H : Hp} {s : Shared}
theorem zJ {D C f : Addr} {nm fld x : Str} {k : Nat} {fd : FuncData} {ps : List Str} {e : Expr} {te : TE} {p pos : Pos} (B : Ŀ X.K D) (T : ł X.K D nm C f) (F : az X.prog X.w X.K X.mg X.base ar k f fd ps (lJ C fld)) (hr : ė (k + 1) X.A) (hb : Binds X.K fd ps [])
  (hg : Gl X x) (hm : X.mg x = some (.ref C)) (ha : PE X e te) (x_ : (x == ("__debug__" : Str)) = false := by decide) (he : starEach [e] X.env = (false, eval e X.env) :: starEach [] X.env := by rfl) (g_ : (backTo pos (starEach [] X.env)).any (·.1) = false := by rfl) :
  PE X (.Call (.Name x p) [e] [] pos) (DE C fld te) := by
 intro pins s σ H Q I h;refine Ĭ (dj I hg hm ?_ x_);have pa : PA X [e] (ac te aC) := ae ha ap he;have h' : ac te aC σ H (one λ v H1 => ∀ x dx, H1 x = none -> H1 dx = none -> dx ≠ x -> Q (.ref x) (ak (ak H1 dx (.xd [(fld, v)])) x (cO x C (some dx)))) := h;refine Η (h₀ := X.base) I.ok.mod.M7 T.kp (aA (pa pos pins s σ H _ I h') λ us s1 ⟨vs, H1, I1, r, q⟩ => ⟨I1.Ε, ?_⟩) he g_;obtain ⟨v, rfl, q⟩ := yu q;obtain ⟨u, rfl, ru⟩ := ck r;exact sW B T F hr hb I1 ru q
def HF (ts tt : TE) (C : Addr) : TE := λ σ H Q => ts σ H λ x H1 => tt σ H1 λ v H2 => ∃ a, x = .ref a /\ H2 a = some (cO a C none) /\ Q .Ė H2
theorem dC {D C f : Addr} {nm x : Str} {o e : Expr} {ts tt : TE} {p ų pos : Pos} {pl : Sem Bool} (B : Ŀ X.K D) (T : ł X.K D nm C f) (hg : Gl X x) (hm : X.mg x = some (.ref D)) (hs : PE X o ts) (ht : PE X e tt) (x_ : (x == ("__debug__" : Str)) = false := by decide)
  (J4 : starEach [o, e] X.env = (false, eval o X.env) :: starEach [e] X.env := by rfl) (PQ : starEach [e] X.env = (false, eval e X.env) :: starEach [] X.env := by rfl) (g_ : (backTo pos (starEach [e] X.env)).any (·.1) = false := by rfl)
  (U1 : eval (.Call (.Attribute (.Name x p) "__init__" ų) [o, e] [] pos) X.env = (do
   let ov <- eval (.Name x p) X.env
   standAt ų.atName
   let (f, first) <- holding [ov] (getMethod ov "__init__" pl)
   callWith pos f first (backTo pos (starEach [o, e] X.env)) (backToKw pos (keywordEach [] X.env))) := by rfl) :
  PE X (.Call (.Attribute (.Name x p) "__init__" ų) [o, e] [] pos) (HF ts tt C) := by
 intro pins s σ H Q I h;refine PySem.W.methodCall_KW (pl := pl) (dj I hg hm ?_ x_) U1;refine method_cls I.Ε B.ga (cls_value I.Ε B.reads B.NO rfl ?_);have I0 : Inv X pins σ H { s with toks := s.toks + 1 } := I.tok _
 have pa : PA X [o, e] (ac ts (ac tt aC)) := ae hs (ae ht ap PQ) J4;have h' : ac ts (ac tt aC) σ H (AI λ x v H2 => ∃ a, x = .ref a /\ H2 a = some (cO a C none) /\ Q .Ė H2) := h;refine Ũ (aA (pa pos pins _ σ H _ I0 h') λ us s1 ⟨vs, H1, I1, r, q⟩ => ?_) J4 g_;obtain ⟨_, v, rfl, a, rfl, ha, q⟩ := zF q;obtain ⟨u, u', rfl, ru, Nz⟩ := jx r;cases (show u = Value.ref a from ru);obtain ⟨t0, hx⟩ := f7 I1.Ą ha;obtain ⟨q', N, bs, sn, sub, ab, col, dd, k0, k1, k2, k3, k5, l⟩ := T.cls;obtain ⟨hp, g, dr, tk, os⟩ := s1;refine ſ (zC (C := C) J_ (B.tail I1.Ε) (I1.Ε _ _ l) hx λ h' Kw hk => ?_);have I2 : Inv X pins σ (ak H1 a (cO a C none)) ⟨h', g, dr, tk, os⟩ := I1.write (h' := h') (t' := tk) (x := a) (e := a) (by rw [ha]; exact True.intro) (.inl rfl) (λ b o hb e => hk b o hb e) ⟨_, Kw⟩ (ko Kw)
 rw [ou ha] at I2;exact ⟨.Ė, H1, I2, rfl, q⟩
def Es (K : Frag) (C : Addr) (ta tv : TE) (f : Str) : TS := λ D σ H => tv σ H λ y H1 => ta σ H1 λ x H2 => ∃ a, x = .ref a /\ H2 a = some (cO a C none) /\ takerIn K C f = some none /\ ∀ dx, H2 dx = none -> dx ≠ a -> D.nx σ (ak (ak H2 dx (.xd [(f, y)])) a (cO a C (some dx)))
theorem ny {D C fI : Addr} {nm f : Str} {o value : Expr} {ta tv : TE} {pos pos' : Pos} (T : ł X.K D nm C fI) (ha : PE X o ta) (hv : PE X value tv) (hs : swapsWith value (some (.Attribute o f pos')) pos.line X.env = pure false) :
  PS X (.Assign [.Attribute o f pos'] value pos) (Es X.K C ta tv f) := by
 intro pins s σ H D' I h;refine plainObj_wpAny_Assign_Attribute (aA (hv pins s σ H _ I h) λ u s1 ⟨y, H1, I1, ry, q⟩ => aA (ha pins s1 σ H1 _ I1 q) λ ov s2 ⟨x, H2, I2, rx, a, ex, ea, tk, q2⟩ => ?_) hs;subst ex;obtain rfl : ov = Value.ref a := rx;obtain ⟨t0, hx⟩ := f7 I2.Ą ea;obtain ⟨cd, hc, hd, hp⟩ := T.refuse a;refine yi I2.Ε hx T.sa hc hd hp T.it.mo tk λ h' M4 Kw LS hk => ?_;have fr : H2 s2.heap.objs.size = none := I2.fresh;have nz : s2.heap.objs.size ≠ a := λ z => by rw [<- z, fr] at ea; cases ea
 obtain ⟨oD, es, ep, NU, rD⟩ := id LS;have nf : oD.isFreed = false := Obj.isFreed_of_dict rD.1;have I3 : Inv X pins σ (ak H2 s2.heap.objs.size (.xd [(f, y)])) { s2 with heap := s2.heap.push oD, toks := s2.toks } := by
  refine I2.laid (h' := s2.heap.push oD) (t' := s2.toks) (a := s2.heap.objs.size) (λ b o e => Á _ e) (Ä _) ⟨_, ⟨oD, es, ep, Ů rfl nf, rD⟩, λ g => ?_⟩;by_cases e : g = f
  ·subst e;rw [Õ rfl, List.lookup_cons_self];exact ry
  ·rw [Ë e, χ, ē.mpr e];exact True.intro
 have Wl : ak H2 s2.heap.objs.size (.xd [(f, y)]) a = some (cO a C none) := by rw [ag nz.symm]; exact ea
 have I4 : Inv X pins σ (ak (ak H2 s2.heap.objs.size (.xd [(f, y)])) a (cO a C (some s2.heap.objs.size))) { s2 with heap := h', toks := M4 } := by
  refine I3.write (h' := h') (t' := M4) (x := a) (e := a) (by rw [Wl]; exact True.intro) (.inl rfl) (λ b o hb e => ?_) ⟨_, Kw⟩ (ko (t := t0) Kw)
  by_cases z : b = s2.heap.objs.size
  ·subst z;have e' : (s2.heap.push oD).get? s2.heap.objs.size = some o := e;rw [Ů rfl nf] at e';cases e';exact NU
  ·have e' : (s2.heap.push oD).get? b = some o := e;exact hk b o hb (by rw [<- Heap.get?_push_ne _ _ oD z]; exact e')
 exact ⟨σ, _, I4, q2 _ fr nz⟩
end
section
variable {X : Cx} {pins : List (Addr × Obj)} {σ : St} {H : Hp} {s : Shared}
theorem lw {P : Program} {w : World} {H : Hp} {h : Heap} {a C dx : Addr} {fs : List (Str × V)} (ok : Ų P w H h) (ea : H a = some (cO a C (some dx))) (ed : H dx = some (.xd fs)) :
  ∃ (ox od : Obj), InstAt h a ox C (some od) /\ ∃ mA : Str -> Option Value, (∀ f, Ψ (fs.lookup f) (mA f)) /\ ∀ name, lookIn name od = some (mA name) := by
 obtain ⟨t, hx⟩ := f7 ok ea;obtain ⟨mA, hn, hr⟩ := (show ù P w H h dx (.xd fs) from ok dx _ ed);obtain ⟨od, P3, hl⟩ := gs hn;exact ⟨_, od, ⟨hx, rfl, rfl, P3⟩, mA, hr, hl⟩
structure uq (K : Frag) : Prop where
 gt : specialIn K (.builtin "object.__class__") "__get__" = some (some (.builtin "getset_descriptor.__get__"))
 tk : takesIn K (.builtin "object.__class__") = some true
def KJ (H : Hp) (a C : Addr) : Prop := H a = some (cO a C none) \/ ∃ dx fs, H a = some (cO a C (some dx)) /\ H dx = some (.xd fs)
theorem KJ.inst {P : Program} {w : World} {H : Hp} {h : Heap} {a C : Addr} (E : KJ H a C) (ok : Ų P w H h) : ∃ ox od, InstAt h a ox C od := by
 rcases E with e | ⟨dx, fs, ea, ed⟩
 ·obtain ⟨t, hx⟩ := f7 ok e;exact ⟨_, none, ⟨hx, rfl, rfl, True.intro⟩⟩
 ·obtain ⟨ox, od, J, _⟩ := lw ok ea ed;exact ⟨ox, some od, J⟩
def GZ : V -> Value
 | .ref a => .ref a
 | .ty n => .type n
 | _ => .none
end
end My
namespace My
open PySem PySem.W L2
open PyProof.Rows (AllBare)
abbrev jh (C : Addr) (d : Option Addr) (t : Addr) (v : Value) : Obj := { cls := .ref C, dict := d, data := .fields #[.ref t, v, .none, .none, .bool false, .none] }
def fu (x C : Addr) (d : Option Addr) : HO := .ext λ h => ∃ t v, h.get? x = some (jh C d t v)
theorem vU {P : Program} {w : World} {H : Hp} {h : Heap} {x C : Addr} {d : Option Addr} {t : Addr} {v : Value} (e : h.get? x = some (jh C d t v)) : ù P w H h x (fu x C d) :=
 ⟨⟨t, v, e⟩, ⟨_, e⟩, λ _ _ ⟨t', v', e'⟩ k => ⟨t', v', k _ e'⟩⟩
theorem v9 {P : Program} {w : World} {H : Hp} {h : Heap} {x C : Addr} {d : Option Addr} (ok : Ų P w H h) (e : H x = some (fu x C d)) : ∃ t v, h.get? x = some (jh C d t v) := (ok x _ e).1
def HQ (n : Nat) (H : Hp) (h : Heap) (x C : Addr) (d : Option Addr) : Prop := ∃ t T oT ts, h.get? x = some (jh C d t (.ref T)) /\ T ≠ x /\ n <= T /\ H T = none /\ h.get? T = some oT /\ oT.data = .fields ts /\ ts[3]? = some Value.none
def iG (P : Program) (w : World) : kY := λ outer H s E e s' => ∃ x C dx fs H', e = .ref x /\ s'.os = s.os /\ AllBare s'.gens /\ Un (jp outer) [] H H' s.heap s'.heap /\ Ų P w H' s'.heap /\ H' x = some (fu x C (some dx)) /\ H' dx = some (.xd fs) /\ HQ s.heap.objs.size H' s'.heap x C (some dx) /\ E (.ref C) (some x) H'
section
variable {X : Cx} {pins : List (Addr × Obj)} {σ : St} {H : Hp} {s : Shared}
theorem Inv.left {x C : Addr} {d : Option Addr} {t T : Addr} {v r : Value} {h' : Heap} {o : HO} (I : Inv X pins σ H s) (hS : X.stack = X.env :: X.outer) (hx : H x = some o) (ho : (∃ φ, o = .ext φ)) (he : s.heap.get? x = some (jh C d t v))
  (l : Ia (jp (X.env :: X.outer)) x T (jh C d t v) s.heap h' r) : Inv X pins σ (ak H x (fu x C d)) { s with heap := h' } := by
 obtain ⟨φ, rfl⟩ := ho;have nx : ∀ b u, H b = some u -> (∀ φ, u ≠ .ext φ) -> b ≠ x := λ b u e n z => by
  subst z;rw [hx] at e;exact n φ (Ð e).symm
 have Wf : ∀ b ∈ jp (X.env :: X.outer), H b = none := λ b hb => I.A_ b (by rw [hS]; exact hb)
 have Oq : ∀ b u, H b = some u -> b ∉ jp (X.env :: X.outer) := λ b u e z => by rw [Wf b z] at e; cases e
 have exc : h'.get? x = some (jh C d t (.ref T)) := l.exc;have sub : ∀ b, b ∈ jp (X.env :: X.outer) -> b = X.env.locals \/ b ∈ X.fs := λ b hb => Ñ.mp (I.Ū b (by rw [hS]; exact hb))
 refine I.step (g' := s.gens) (d' := s.drawn) (t' := s.toks) (ch := []) (λ _ z => nomatch z) (λ b o hL hf _ e n => ?_) (λ b o hL hf _ e n => ?_) (λ b o _ e n => ?_) (λ b o _ e => ?_) (λ b xs e => ?_) (λ b o u e => ?_) (λ b ps e => ⟨#[], ?_⟩) (λ e => ?_) (λ m hm => ?_) (λ b u e => ?_) I.bare
 ·refine l.keep b o (λ z => by rw [z, hx] at n; cases n) (λ z => ?_) e
  rcases sub b z with q | q
  ·exact hL q
  ·exact hf q
 ·exact l.slot b o (λ z => by rw [z, hx] at n; cases n) e
 ·rw [ag (λ z => by rw [z, hx] at n; cases n)]; exact n
 ·by_cases z : b = x
  ·subst z; exact ⟨_, exc⟩
  ·obtain ⟨sl, q⟩ := l.slot b o z e;exact ⟨_, q⟩
 ·rw [ag (nx b _ e λ _ => by intro z; cases z)]; exact e
 ·rw [ag (nx b _ e λ _ => by intro z; cases z)]; exact e
 ·rw [ag (nx b _ e λ _ => by intro z; cases z), e]; simp
 ·rw [ag (λ z => by rw [z, hx] at e; cases e)]; exact e
 ·obtain ⟨o, es, ep, ho, r⟩ := hm;obtain ⟨sl, q⟩ := l.slot _ o (λ z => by have := I.free; rw [z, hx] at this; cases this) ho
  exact ⟨_, es, ep, q, r⟩
 ·by_cases z : b = x
  ·subst z;rw [aQ] at e;cases e;exact vU exc
  ·rw [ag z] at e;refine (I.Ą b u e).m_ (λ c o' hc q => ?_) (λ c q => ?_) λ c xs q => ?_
   ·rcases hc with rfl | hc
    ·exact l.keep c o' z (Oq c u e) q
    ·exact l.keep c o' (nx c _ hc λ _ => by intro w; cases w) (Oq c _ hc) q
   ·rw [ag (nx c _ q λ _ => by intro w; cases w)]; exact q
   ·rw [ag (nx c _ q λ _ => by intro w; cases w)]; exact q
end
section
variable {P : Program} {w : World} {K : Frag} {mg : bu} {base : Heap} {N : List Str} {qual : Str} {scope : Scope} {f : Addr} {cd : Value} {A : Around} {outer : List Env} {s0 : Shared} {H0 : Hp} {E : XK} {pins : List (Addr × Obj)} {σ : St} {H : Hp} {s : Shared}
theorem yg {x C dx : Addr} {t : Addr} {v : Value} {o : HO} {fs : List (Str × V)} (I : Inv (ax (iG P w) P w K mg base N qual scope f cd A outer s0 H0 E) pins σ H s) (hx : H x = some o) (ho : (∃ φ, o = .ext φ)) (KC : H dx = some (.xd fs)) (he : s.heap.get? x = some (jh C (some dx) t v))
  (hv : zc s.heap x #[.ref t, v, .none, .none, .bool false, .none]) (q : E (.ref C) (some x) (ak H x (fu x C (some dx)))) : (ax (iG P w) P w K mg base N qual scope f cd A outer s0 H0 E).xe (.ref x) s := by
 have hA := I.ok.frames;refine mk hA I.stack rfl he rfl hv λ h' T l => ?_;have J := Inv.left I rfl hx ho he l;have nT : H T = none := I.Ą.fresh l.new;obtain ⟨oT, ts, h1, h2, h3, h4⟩ := l.Og;have nd : dx ≠ x := λ z => by
  obtain ⟨φ, rfl⟩ := ho;rw [z, hx] at KC; cases KC
 refine ⟨x, C, dx, fs, _, rfl, J.os, J.bare, J.base, J.Ą, aQ, by rw [ag nd]; exact KC, ⟨t, T, oT, ts, l.exc, h4, Ò I.sz l.new, ?_, h1, h2, h3⟩, q⟩
 rw [ag h4]; exact nT
theorem sO : fA (iG P w) (ax (iG P w) P w K mg base N qual scope f cd A outer s0 H0 E) E := by
 intro pins σ H s e s' I h;obtain ⟨x, C, dx, fs, H', rfl, os, bare, un, Ą, hx, KC, ⟨t, T, oT, ts, h1, h2, _, h4, h5, h6, h7⟩, q⟩ := h;have J := I.JC os un Ą bare (λ b z => absurd z (by simp))
 refine yg J hx ⟨_, rfl⟩ KC h1 (.inr ⟨T, oT, ts, rfl, h2, h5, h6, h7⟩) ?_;rw [ou hx];exact q
end
end My
namespace My
open PySem PySem.W L2
open PyProof.Rows (AllBare)
section
variable {prog : Program} {w : World} {A : Around} {E : bo} {s : Shared} {env : Env} {x : Sem Value} {Q : Flow -> Shared -> Prop} {K : Frag} {C : Addr}
theorem tV (T : ky K C) (ht : typeIn K (.ref C) = some (.type "type")) (hA : A.handled = none)
  (hx : wpAny (model prog w) A x (λ v s1 => ∃ e t d od, v = .ref e /\ InstAt s1.heap e (jA C d t) C od /\ K.In s1.heap /\ E (.ref e) s1) E s) : wpAny (model prog w) A (raiseStmt env (some x) none) Q E s := by
 unfold raiseStmt;refine À (é hx (λ v s1 h => ?_) (λ _ _ z => z));obtain ⟨e, t, d, od, rfl, I, KX, q⟩ := h;obtain ⟨hp, g, dr, tk, os⟩ := s1;have Rt : ∀ c : ClassData, (jA C d t).data ≠ Data.cls c := λ c z => by cases z
 refine À (Â ?_);refine À ?_;show wpAny _ _ (excFromValue (.ref e) _) _ _ _;unfold excFromValue;refine À ?_;unfold isExcClass;refine À (ks_wpAny_isType_inst I.at_ Rt ?_);refine ĝ rfl (Â ?_);refine ĝ rfl ?_;refine À ?_;have sub : Looks (model prog w) hp (isInstance (.ref e) (.type "BaseException")) true := I.type.andThen (z_ KX T.mb);refine ě (s := ⟨hp, g, dr, tk, os⟩) sub ?_;refine Đ rfl (Â ?_);refine À (ks_wpAny_isType_inst I.at_ Rt ?_);refine ĝ rfl ?_;refine À ?_;unfold raisedInstance;refine À (ě (s := ⟨hp, g, dr, tk, os⟩) I.type ?_);refine À (ě (s := ⟨hp, g, dr, tk, os⟩) (looks_typeIn KX ht) ?_);refine Đ rfl (Â ?_);refine À ?_;unfold setFlight;refine À (þ I.at_ rfl rfl ?_);refine ĝ rfl (Â ?_);exact wpAny_raiseNew_none hA q
end
theorem ł.type {K : Frag} {D : Addr} {nm : Str} {C f : Addr} (T : ł K D nm C f) : typeIn K (.ref C) = some (.type "type") := by
 obtain ⟨q, N, bs, sn, sub, ab, col, dd, k0, k1, k2, k3, k5, l⟩ := T.cls;show (K.lookup C).map (λ o => o.cls) = _;rw [l];rfl
def qR (E : XK) (C : Addr) : VK := λ y H' => ∃ x dx fs, y = .ref x /\ H' x = some (cO x C (some dx)) /\ H' dx = some (.xd fs) /\ E (.ref C) (some x) (ak H' x (fu x C (some dx)))
def zW (E : XK) (C : Addr) (fld : Str) (te : TE) : TS := λ _ σ H => DE C fld te σ H (qR E C)
theorem jV {H : Hp} {x : Addr} {a b : HO} : ak (ak H x a) x b = ak H x b := by
 funext z
 unfold ak;by_cases h : z = x
 ·rw [Õ h, Õ h]
 ·rw [Ë h, Ë h, Ë h]
section
variable {P : Program} {w : World} {K : Frag} {mg : bu} {base : Heap} {N : List Str} {qual : Str} {scope : Scope} {f : Addr} {cd : Value} {A : Around} {outer : List Env} {s0 : Shared} {H0 : Hp} {E : XK}
abbrev qX (P : Program) (w : World) (K : Frag) (mg : bu) (base : Heap) (N : List Str) (qual : Str) (scope : Scope) (f : Addr) (cd : Value) (A : Around) (outer : List Env) (s0 : Shared) (H0 : Hp) (E : XK) : Cx := ax (iG P w) P w K mg base N qual scope f cd A outer s0 H0 E
theorem fS {D C fI : Addr} {nm fld x : Str} {k : Nat} {fd : FuncData} {ps : List Str} {e : Expr} {te : TE} {p pos pos' : Pos} (B : Ŀ K D) (T : ł K D nm C fI) (F : az P w K mg base ar k fI fd ps (lJ C fld)) (hr : ė (k + 1) (qX P w K mg base N qual scope f cd A outer s0 H0 E).A) (hb : Binds K fd ps [])
  (hg : Gl (qX P w K mg base N qual scope f cd A outer s0 H0 E) x) (hm : mg x = some (.ref C)) (ha : PE (qX P w K mg base N qual scope f cd A outer s0 H0 E) e te)
  (x_ : (x == ("__debug__" : Str)) = false := by decide) (he : starEach [e] (qX P w K mg base N qual scope f cd A outer s0 H0 E).env = (false, eval e (qX P w K mg base N qual scope f cd A outer s0 H0 E).env) :: starEach [] (qX P w K mg base N qual scope f cd A outer s0 H0 E).env := by rfl) (g_ : (backTo pos (starEach [] (qX P w K mg base N qual scope f cd A outer s0 H0 E).env)).any (·.1) = false := by rfl) :
  PS (qX P w K mg base N qual scope f cd A outer s0 H0 E) (.Raise (some (.Call (.Name x p) [e] [] pos)) none pos') (zW E C fld te) := by
 intro pins s σ H D' I h;have pe := zJ (X := qX P w K mg base N qual scope f cd A outer s0 H0 E) (p := p) (pos := pos) B T F hr hb hg hm ha x_ he g_;have hd : (qX P w K mg base N qual scope f cd A outer s0 H0 E).A.handled = none := I.ok.hd rfl;rw [arm_exec_Raise];refine À (ī ?_);refine tV T.it T.type hd ?_;refine À (aA (pe pins s σ H (qR E C) I h) λ u s1 h1 => ?_);obtain ⟨y, H1, I1, ry, x, dx, fs, rfl, e1, e2, q⟩ := h1;refine À (ī (Â ?_));obtain ⟨t, ht⟩ := f7 I1.Ą e1;obtain ⟨ox, od, J, _⟩ := lw I1.Ą e1 e2;have eo : ox = jA C (some dx) t := Ð (J.at_.symm.trans ht);subst eo;exact ⟨x, t, some dx, some od, ry, J, I1.Ε, yg I1 e1 ⟨_, rfl⟩ e2 ht (.inl rfl) q⟩
theorem pA {C x dx : Addr} {fld : Str} {v : V} {H1 : Hp} (nd : dx ≠ x) (q : E (.ref C) (some x) (ak (ak H1 dx (.xd [(fld, v)])) x (fu x C (some dx)))) : qR E C (.ref x) (ak (ak H1 dx (.xd [(fld, v)])) x (cO x C (some dx))) :=
 ⟨x, dx, _, rfl, aQ, by rw [ag nd, aQ], by rw [jV]; exact q⟩
theorem GK {x qual : Str} {st : Stmt} {f : Addr} {fd : FuncData} {N ps : List Str} {k : Nat} {sp : Sp} (F : Ŏ K x qual st f fd) (S : ai N ps (aa st)) (len : ∀ vs H Q E, sp vs H Q E -> vs.length = ps.length)
  (e_ : ∀ (ë : Value) (A : Around) (outer : List Env) (s : Shared) (H : Hp) (vs : List V) (Q : VK) (E : XK), ė k (A.deeper (PyProof.Rows.envOfC qual (aa st) s.heap.objs.size f ë)) -> sp vs H Q E ->
   ∃ t, Ο (qX P w K mg base N qual (aa st) f ë A outer s H E) (av st) t /\ t { nx := λ _ H' => Q .Ė H', rt := Q } (dJ N vs) H) : az P w K mg base (iG P w) (k + 1) f fd ps sp := by
 obtain ⟨oc, od, kV, doc, pm, an, ë, ct, K4, rfl, lk, JV⟩ := F.ex;refine xW lk JV S len λ A outer s H vs Q E hr IZ => ?_;obtain ⟨t, h, q⟩ := e_ ë A outer s H vs Q E hr IZ;exact ⟨t, h, q⟩
theorem wn {x qual : Str} {st : Stmt} {f : Addr} {fd : FuncData} {N ps : List Str} {k : Nat} {sp : Sp} (F : Ŏ K x qual st f fd) (S : ai N ps (aa st))
  (e_ : ∀ (ë : Value) (A : Around) (outer : List Env) (s : Shared) (H : Hp) (vs : List V) (Q : VK) (E : XK), ė k (A.deeper (PyProof.Rows.envOfC qual (aa st) s.heap.objs.size f ë)) -> sp vs H Q E ->
   ∃ t, Ο (qX P w K mg base N qual (aa st) f ë A outer s H E) (av st) t /\ t { nx := λ _ H' => Q .Ė H', rt := Q } (dJ N vs) H) (len : ∀ vs H Q E, sp vs H Q E -> vs.length = ps.length := by intro vs H Q E h; repeat (first | (obtain ⟨rfl, _⟩ := h; rfl) | (obtain ⟨_, h⟩ := h))) : az P w K mg base (iG P w) (k + 1) f fd ps sp := GK F S len e_
theorem mK {X : Cx} {st : Stmt} : PS X st (λ _ _ _ => False) := λ _ _ _ _ _ _ h => h.elim
end
end My
namespace My
open PySem PySem.W L2
open PyProof.Rows (AllBare)
def PX (X : Cx) (σ : St) (e : Expr) (t : TE) : Prop := ∀ (pins : List (Addr × Obj)) (s : Shared) (H : Hp) (Q : VK), Inv X pins σ H s -> t σ H Q -> wpAny (model X.prog X.w) X.A (eval e X.env) (EP X pins σ Q) X.xe s
def yO (X : Cx) (σ : St) (es : List Expr) (t : TA) : Prop := ∀ (pos : Pos) (pins : List (Addr × Obj)) (s : Shared) (H : Hp) (Q : List V -> Hp -> Prop), Inv X pins σ H s -> t σ H Q -> wpAny (model X.prog X.w) X.A (spliced (backTo pos (starEach es X.env))) (AP X pins σ Q) X.xe s
section
variable {X : Cx} {σ : St} {e : Expr} {es : List Expr} {te : TE} {t : TA} {pos : Pos}
theorem Bs (h : PE X e te) : PX X σ e te := λ pins s H Q I q => h pins s σ H Q I q
theorem se (h : PA X es t) : yO X σ es t := λ pos pins s H Q I q => h pos pins s σ H Q I q
theorem pJ : yO X σ [] aC := se ap
theorem iK (ha : PX X σ e te) (hr : yO X σ es t) (hs : starEach (e :: es) X.env = (false, eval e X.env) :: starEach es X.env := by rfl) : yO X σ (e :: es) (ac te t) := by
 intro pos pins s H Q I h;rw [hs];show wpAny _ _ (spliced ((false, eval e X.env) :: backTo pos (starEach es X.env))) _ _ s;refine b_ (aA (ha pins s H _ I h) λ u s1 ⟨x, H1, I1, r1, q1⟩ => ?_);exact aA (hr pos pins s1 H1 _ I1 q1) λ us s2 ⟨xs, H2, I2, r2, q2⟩ => ⟨x :: xs, H2, I2, .cons r1 r2, q2⟩
theorem yy (h : yO X σ es t) : PX X σ (.List es pos) (bC t) := by
 intro pins s H Q I hq;refine wpAny_List_spliced (aA (h pos pins s H _ I hq) λ us s1 ⟨xs, H1, I1, r, z, q⟩ => ⟨by rw [<- r.length]; exact z, ?_⟩)
 have hf : H1 s1.heap.objs.size = none := I1.Ą.fresh (Ä _);refine ⟨.ref s1.heap.objs.size, ak H1 s1.heap.objs.size (.lst xs), I1.laid (t' := s1.toks) (λ b u e => Á _ e) (Ä _) ?_, rfl, q _ hf⟩;exact ⟨z, us, 0, r, Ç _ rfl⟩
def ui (CX : kY) (X : Cx) (σ : St) (E : XK) : Prop := ∀ (pins : List (Addr × Obj)) (H : Hp) (s : Shared) (e : Value) (s' : Shared), Inv X pins σ H s -> CX X.stack H s E e s' -> X.xe e s'
variable {CX : kY} {k : Nat} {f C : Addr} {fd : FuncData} {ps : List Str} {sp : Sp} {dvs : List V} {ds : List Value} {E : XK} {x : Str} {p : Pos}
theorem xg {pins : List (Addr × Obj)} {H : Hp} {s : Shared} {Q : VK} {us : List Value} {vs : List V} (F : az X.prog X.w X.K X.mg X.base CX k f fd ps sp) (hr : ė k X.A) (hb : Binds X.K fd ps ds) (hd : Vals dvs ds) (hx : ui CX X σ E)
  (I : Inv X pins σ H s) (r : Vals vs us) (h : sp (vs ++ dvs) H Q E) : wpAny (model X.prog X.w) X.A (call (.ref f) us) (EP X pins σ Q) X.xe s := by
 have r2 : Vals (vs ++ dvs) (us ++ ds) := r.append hd;have hl : (us ++ ds).length = ps.length := by rw [<- r2.length]; exact F.len _ _ _ _ h
 refine ſ (Ih (F.run X.A X.stack s H ⟨us, []⟩ (us ++ ds) (vs ++ dvs) Q E hr I.MW (hb s us I.Ε hl) r2 h) λ r s' hq => ?_);cases r with
 | error e => exact hx pins H s e s' I hq
 | ok fl =>
  cases fl with
  | ret u => exact I.after hq
  | next => exact False.elim hq
  | brk => exact False.elim hq
  | cont => exact False.elim hq
theorem vZ (F : az X.prog X.w X.K X.mg X.base CX k f fd ps sp) (hr : ė k X.A) (hg : Gl X x) (hm : X.mg x = some (.ref f)) (hk : PySem.W.keepIn X.K (.ref f) = true) (hb : Binds X.K fd ps ds) (hd : Vals dvs ds) (hx : ui CX X σ E)
  (ha : yO X σ (e :: es) t) (x_ : (x == ("__debug__" : Str)) = false := by decide) (he : starEach (e :: es) X.env = (false, eval e X.env) :: starEach es X.env := by rfl) (g_ : (backTo pos (starEach es X.env)).any (·.1) = false := by rfl) :
  PX X σ (.Call (.Name x p) (e :: es) [] pos) (c5 sp dvs E t) := by
 intro pins s H Q I h;refine Ĭ (dj I hg hm ?_ x_);refine Η (h₀ := X.base) I.ok.mod.M7 hk (aA (ha pos pins s H _ I h) λ us s1 ⟨vs, H1, I1, r, q⟩ => ⟨I1.Ε, ?_⟩) he g_;exact xg F hr hb hd hx I1 r q
end
section
variable {prog : Program} {w : World} {A : Around} {E : bo} {s : Shared} {K : Frag} {C D e : Addr} {Q : Bool -> Shared -> Prop} {ox : Obj} {od : Option Obj} {b : Bool}
theorem m8 (KX : K.In s.heap) (hD : ∃ cd, clsIn K D = some cd) (hT : typeIn K (.ref D) = some (.type "type")) (hB : mroIn K D (.type "BaseException") = some true) (I : InstAt s.heap e ox C od) (hC : mroIn K C (.ref D) = some b) (q : Q b s) : wpAny (model prog w) A (excMatches (.ref e) (.ref D)) Q E s := by
 unfold excMatches;have L1 : Looks (model prog w) s.heap (isInstance (.ref D) (.type "tuple")) false := (looks_typeIn KX hT).andThen (Looks.of_pure rfl);refine À (ě L1 ?_);refine ĝ rfl ?_;refine À (Â ?_);refine À ?_;obtain ⟨cd, hc⟩ := hD;obtain ⟨hp, g, dr, tk, os⟩ := s;obtain ⟨oD, NU, Qf⟩ : ∃ oD, K.lookup D = some oD /\ oD.data = .cls cd := by
  unfold clsIn at hc;split at hc
  ·rename_i h
   exact ⟨_, h, by cases hc; rfl⟩
  ·cases hc
 rw [List.forIn_cons];refine À (À ?_);unfold isExcClass;refine À (ks_wpAny_isType_cls (KX _ _ NU) Qf ?_);refine Đ rfl ?_;refine ě (s := ⟨hp, g, dr, tk, os⟩) (z_ KX hB) ?_;refine ĝ rfl (Â ?_);show wpAny _ _ (forIn ([] : List Value) PUnit.unit _) _ _ _;rw [List.forIn_nil];refine Â ?_;refine À (ě (s := ⟨hp, g, dr, tk, os⟩) I.type ?_);refine À ?_;rw [List.forIn_cons];refine À (À (ě (s := ⟨hp, g, dr, tk, os⟩) (z_ KX hC) ?_));cases b with
 | true =>
  refine Đ rfl (Â ?_);exact Â (Â q)
 | false =>
  refine ĝ rfl (Â ?_);show wpAny _ _ (forIn ([] : List Value) _ _) _ _ _;rw [List.forIn_nil];exact Â (Â q)
end
end My
namespace My
open PySem PySem.W L2
open PyProof.Rows (AllBare)
def G4 (X : Cx) (σ : St) (st : Stmt) (t : TS) : Prop := ∀ (pins : List (Addr × Obj)) (s : Shared) (H : Hp) (D : aY), Inv X pins σ H s -> t D σ H -> wpAny (model X.prog X.w) X.A (exec st X.env) (SP X pins D) X.xe s
section
variable {X : Cx} {σ : St} {e : Expr} {te : TE} {pos : Pos}
theorem wE (he : PX X σ e te) : G4 X σ (.Return (some e) pos) (bQ te) := by
 intro pins s H D I h;exact wpAny_Return_some (aA (he pins s H _ I h) λ v s1 ⟨x, H1, I1, r1, q1⟩ => ⟨x, σ, H1, I1, r1, q1⟩)
end
abbrev iP (X : Cx) (pn : List (Addr × Obj)) (xe : bo) : Cx := { X with pn := pn, xe := xe }
abbrev m9 (X : Cx) (x : Addr) : Cx := { X with A := X.A.mark (some (.ref x)), calm := false, xe := λ _ _ => False }
section
variable {X : Cx} {pins IC pn : List (Addr × Obj)} {σ : St} {H : Hp} {s : Shared} {xe : bo} {x : Addr}
theorem Ok.Kf (ok : X.Ok) : (iP X pn xe).Ok := ⟨ok.mod, ok.kind, ok.glob, ok.blt, ok.above, ok.inj, ok.has, ok.L5, ok.hd, ok.frames, ok.Mn, ok.N6, ok.bs, ok.JD, ok.IF, ok.Js, ok.ξ, ok.KY⟩
theorem Ok.Ž (ok : (iP X pn xe).Ok) : X.Ok := ⟨ok.mod, ok.kind, ok.glob, ok.blt, ok.above, ok.inj, ok.has, ok.L5, ok.hd, ok.frames, ok.Mn, ok.N6, ok.bs, ok.JD, ok.IF, ok.Js, ok.ξ, ok.KY⟩
theorem Inv.Kf (I : Inv X pins σ H s) : Inv (iP X (X.pn ++ pins) xe) [] σ H s :=
 ⟨Ok.Kf I.ok, I.os, I.bare, I.base, I.loc, I.cell, I.free, I.Ř, λ p hp => I.pin p (by rw [ü] at hp; exact hp), I.Ą, I.len⟩
theorem Inv.Ž (I : Inv (iP X (X.pn ++ pins) xe) IC σ H s) : Inv X pins σ H s :=
 ⟨Ok.Ž I.ok, I.os, I.bare, I.base, I.loc, I.cell, I.free, I.Ř, λ p hp => I.pin p (D_ _ hp), I.Ą, I.len⟩
theorem Inv.Nh (I : Inv X pins σ H s) : Inv (m9 X x) pins σ H s :=
 ⟨⟨I.ok.mod, I.ok.kind, I.ok.glob, I.ok.blt, I.ok.above, I.ok.inj, I.ok.has, I.ok.L5, λ z => Bool.noConfusion z, I.ok.frames, I.ok.Mn, I.ok.N6, I.ok.bs, I.ok.JD, I.ok.IF, I.ok.Js, I.ok.ξ, I.ok.KY⟩, I.os, I.bare, I.base, I.loc, I.cell, I.free, I.Ř, I.pin, I.Ą, I.len⟩
theorem Inv.JP (ok : X.Ok) (I : Inv (m9 X x) pins σ H s) : Inv X pins σ H s := ⟨ok, I.os, I.bare, I.base, I.loc, I.cell, I.free, I.Ř, I.pin, I.Ą, I.len⟩
theorem SP.JP {D : aY} {f : Flow} (ok : X.Ok) (h : SP (m9 X x) pins D f s) : SP X pins D f s := by
 cases f with
 | next => obtain ⟨Ē, H', I, q⟩ := h; exact ⟨Ē, H', Inv.JP ok I, q⟩
 | brk => obtain ⟨Ē, H', I, q⟩ := h; exact ⟨Ē, H', Inv.JP ok I, q⟩
 | cont => obtain ⟨Ē, H', I, q⟩ := h; exact ⟨Ē, H', Inv.JP ok I, q⟩
 | ret u => obtain ⟨v, Ē, H', I, r, q⟩ := h; exact ⟨v, Ē, H', Inv.JP ok I, r, q⟩
theorem SP.Ž {D : aY} {f : Flow} (h : SP (iP X (X.pn ++ pins) xe) IC D f s) : SP X pins D f s := by
 cases f with
 | next => obtain ⟨Ē, H', I, q⟩ := h; exact ⟨Ē, H', Inv.Ž I, q⟩
 | brk => obtain ⟨Ē, H', I, q⟩ := h; exact ⟨Ē, H', Inv.Ž I, q⟩
 | cont => obtain ⟨Ē, H', I, q⟩ := h; exact ⟨Ē, H', Inv.Ž I, q⟩
 | ret u => obtain ⟨v, Ē, H', I, r, q⟩ := h; exact ⟨v, Ē, H', Inv.Ž I, r, q⟩
theorem qS {M : Model} {A : Around} {E : bo} {i : Nat} {n : Str} {v : V} {Q : Unit -> Shared -> Prop} (I : Inv X pins σ H s) (hN : X.N.Nodup) (hi : X.N[i]? = some n) (hk : X.env.scope.names.lookup n = some .local) (hv : σ[i]? = some (some v))
  (h : ∀ s', Inv X pins (σ.set i none) H s' -> Q () s') : wpAny M A (unbindName X.env n) Q E s := by
 obtain ⟨m, hn, hl⟩ := id I.loc;have MO : (X.env.scope.kind == .class || (X.env.scope.kind == .module && X.env.locals != X.env.globals)) = false := by rw [I.ok.kind]; rfl
 have JU : i < σ.length := by rw [I.len]; exact (Ö.mp hi).1
 obtain ⟨u, _, lk⟩ := hl i n v hi hv (.inl hk);have mu : m n = some u := by
  rcases lk with ⟨_, z⟩ | ⟨z, _⟩
  ·exact z
  ·have k' : X.env.kindOf n = some .local := hk;rcases z with z | z <;> (rw [k'] at z; cases z)
 have KH := I.KH;refine wpAny_unbindName_local hk hn mu MO λ h' u' LS hs => ?_;obtain ⟨oL, _, _, RK, _⟩ := id hn;have tracked : Ų X.prog X.w H h' := λ b ob e => by
  refine (I.Ą b ob e).m_ (λ c w' hc q => (hs.2 c ?_).trans q) (λ _ q => q) λ _ _ q => q;rintro rfl;rcases hc with rfl | hc
  ·rw [I.free] at e; cases e
  ·rw [I.free] at hc; cases hc
 refine h _ ⟨I.ok, I.os, I.bare, ⟨λ b o e n hb hx => ?_, λ b o e n hb hx => ?_, I.base.free, λ b o e hx => ?_, I.base.G_, I.base.y_, I.base.HU, I.base.sys⟩, ⟨_, LS, λ j y v' e1 e2 e3 => ?_⟩, λ y c e => ?_, I.free, I.Ř, λ p hp => ?_, tracked, by simpa using I.len⟩
 ·exact (hs.2 b (Í (Û (Æ e) I.ok.above))).trans (I.base.keep b o e n hb hx)
 ·obtain ⟨sl, e1⟩ := I.base.slot b o e n hb hx;exact ⟨sl, (hs.2 b (Í (Û (Æ e) I.ok.above))).trans e1⟩
 ·obtain ⟨o', e1⟩ := I.base.there b o e hx;exact ⟨o', (hs.2 b (Í (Û (Æ e) I.ok.above))).trans e1⟩
 ·by_cases hj : j = i
  ·subst hj;rw [ŝ JU] at e2;cases e2
  ·rw [E_ (Ne.symm hj)] at e2;obtain ⟨u2, r', q⟩ := hl j y v' e1 e2 e3;refine ⟨u2, r', ?_⟩;rcases q with ⟨k, e⟩ | ⟨k, c, e, z⟩
   ·refine .inl ⟨k, ?_⟩;have : y ≠ n := λ e => hj (iO hN e1 (e ▸ hi));simp [this, e]
   ·exact .inr ⟨k, c, e, z.sameBut hs (KH y c e)⟩
 ·obtain ⟨w', z⟩ := I.cell y c e;exact ⟨w', z.sameBut hs (KH y c e)⟩
 ·obtain ⟨e, n, ne, nf, d⟩ := I.pin p hp;exact ⟨(hs.2 p.1 ne).trans e, n, ne, nf, d⟩
end
structure pC (K : Frag) (D : Addr) : Prop where
 cls : ∃ cd, clsIn K D = some cd
 ty : typeIn K (.ref D) = some (.type "type")
 mb : mroIn K D (.type "BaseException") = some true
def j9 (D : aY) (i : Nat) : aY := ⟨λ σ H => D.nx (σ.set i none) H, D.rt, λ σ H => D.bk (σ.set i none) H, λ σ H => D.ct (σ.set i none) H⟩
end My
namespace My
open PySem PySem.W L2
open PyProof.Rows (AllBare)
section
variable {X : Cx} {pins : List (Addr × Obj)} {σ : St} {H : Hp} {s : Shared}
theorem ql {i : Nat} {n : Str} {pos : Pos} {E : bo} {D : aY} {f : Flow} (ok : X.Ok) (hN : X.N.Nodup) (hi : X.N[i]? = some n) (hk : X.env.scope.names.lookup n = some .local) (h : SP X pins (j9 D i) f s) :
  wpAny (model X.prog X.w) X.A (do
   bindName X.env n .none
   unbindBehindTheSuite X.env n pos) (λ _ s' => SP X pins D f s') E s := by
 have go : ∀ {Ē : St} {H' : Hp}, Inv X pins Ē H' s -> (∀ s', Inv X pins (Ē.set i none) H' s' -> SP X pins D f s') -> wpAny (model X.prog X.w) X.A (do
   bindName X.env n .none
   unbindBehindTheSuite X.env n pos) (λ _ s' => SP X pins D f s') E s := λ {Ē H'} I q => by
  have JU : i < Ē.length := by rw [I.len]; exact (Ö.mp hi).1
  refine À (wpAny_bindName (cX I hN hi (.inl hk) (v := V.Ė) (u := Value.none) rfl (λ s1 I1 => ?_) (.inr hk)));unfold unbindBehindTheSuite;refine r_ (qS (v := V.Ė) I1 hN hi hk (ŝ JU) λ s2 I2 => ?_);rw [List.set_set] at I2;exact q s2 I2
 cases f with
 | next => obtain ⟨Ē, H', I, q⟩ := h; exact go I λ s' I' => ⟨_, H', I', q⟩
 | brk => obtain ⟨Ē, H', I, q⟩ := h; exact go I λ s' I' => ⟨_, H', I', q⟩
 | cont => obtain ⟨Ē, H', I, q⟩ := h; exact go I λ s' I' => ⟨_, H', I', q⟩
 | ret u => obtain ⟨v, Ē, H', I, r, q⟩ := h; exact go I λ s' I' => ⟨v, _, H', I', r, q⟩
end
section
variable {X : Cx} {pins : List (Addr × Obj)} {σ : St} {H : Hp} {s : Shared}
theorem gj {P : Program} {w : World} {H : Hp} {h : Heap} {a C dx : Addr} {fs : List (Str × V)} (ok : Ų P w H h) (ea : H a = some (fu a C (some dx))) (ed : H dx = some (.xd fs)) :
  ∃ (ox od : Obj), InstAt h a ox C (some od) /\ ∃ mA : Str -> Option Value, (∀ f, Ψ (fs.lookup f) (mA f)) /\ ∀ name, lookIn name od = some (mA name) := by
 obtain ⟨t, v, hx⟩ := v9 ok ea;obtain ⟨mA, hn, hr⟩ := (show ù P w H h dx (.xd fs) from ok dx _ ed);obtain ⟨od, P3, hl⟩ := gs hn;exact ⟨_, od, ⟨hx, rfl, rfl, P3⟩, mA, hr, hl⟩
def va (K : Frag) (ta : TE) (f : Str) : TE := λ σ H Q => ta σ H λ x H1 => ∃ a C dx fs v, x = .ref a /\ H1 a = some (fu a C (some dx)) /\ H1 dx = some (.xd fs) /\ fs.lookup f = some v /\ ky K C /\ hasDictIn K C = true /\ findIn K (.ref C) f = some none /\ Q v H1
theorem um {e : Expr} {ta : TE} {f : Str} {pos : Pos} (he : PE X e ta) (hb : attributeBase e f X.env (eval e X.env) = eval e X.env) : PE X (.Attribute e f pos) (va X.K ta f) := by
 intro pins s σ H Q I h;refine xf hb (aA (he pins s σ H _ I h) λ u s1 ⟨x, H1, I1, rx, a, C, dx, fs, v, ex, ea, ed, l, T, hd, nf, q⟩ => ?_);subst ex;obtain rfl : u = Value.ref a := rx;obtain ⟨ox, od, J, mA, hr, hl⟩ := gj I1.Ą ea ed;obtain ⟨u, eu, ru⟩ := Ψ.some_of (l ▸ hr f);exact zx I1.Ε J T.ga T.hk T.mb (findObj_own hd nf rfl (by rw [hl, eu])) (qO ru) ⟨v, H1, I1.tok _, ru, q⟩
def yf (K : Frag) : List V -> Hp -> VK -> Prop := λ vs H Q => ∃ a C dx fs c b, vs = [.ref a, c] /\ H a = some (fu a C (some dx)) /\ H dx = some (.xd fs) /\ ky K C /\ ((∃ z, c = .ref z) \/ ∃ n, c = .ty n) /\ kitOne K (.ref C) (GZ c) = some b /\ Q (.bl b) H
theorem qU (N : uq X.K) : bv X (.builtin "isinstance") (yf X.K) := by
 intro pins s σ H xs us Q I r h;obtain ⟨a, C, dx, fs, c, b, rfl, ea, ed, T, hc, e, q⟩ := h;obtain ⟨u, u', rfl, ru, Nz⟩ := jx r;cases (show u = Value.ref a from ru);have ec : u' = GZ c := by
  rcases hc with ⟨z, rfl⟩ | ⟨n, rfl⟩
  ·exact Nz
  ·exact Nz
 subst ec;obtain ⟨ox, od, J, _⟩ := gj I.Ą ea ed;exact kia_one (rN T N.gt N.tk) I.Ε ⟨ox, some od, J⟩ e (λ z => nomatch z) λ tk => ⟨.bl b, H, I.tok _, rfl, q⟩
end
end My
namespace My
open PySem PySem.W L2
open PyProof.Rows (AllBare)
structure zI (X : Cx) (pins : List (Addr × Obj)) (σ : St) (H : Hp) (s : Shared) (x C : Addr) : Prop where
 inv : Inv X pins σ H s
 err : ∃ dx fs, H x = some (fu x C (some dx)) /\ H dx = some (.xd fs)
 fl : ∃ dx t T oT ts, s.heap.get? x = some (jh C dx t (.ref T)) /\ s.heap.get? T = some oT /\ oT.data = .fields ts /\ ts[3]? = some Value.none
abbrev TH := Addr -> Addr -> TS
def D9 (X : Cx) (hs : List ExceptHandler) (th : TH) : Prop := ∀ (pins : List (Addr × Obj)) (s : Shared) (σ : St) (H : Hp) (D : aY) (x C : Addr), zI X pins σ H s x C -> th x C D σ H -> wpAny (model X.prog X.w) X.A (handleBy (.ref x) X.env hs) (SP X pins D) X.xe s
def CM : TH := λ _ _ _ _ _ => False
def EH (K : Frag) (B : Addr) (i : Nat) (th : TS) (rest : TH) : TH := λ x C D σ H => ∃ b, mroIn K C (.ref B) = some b /\ if b = true then th (j9 D i) (σ.set i (some (.ref x))) H else rest x C D σ H
section
variable {X : Cx} {hs : List ExceptHandler} {rest : TH}
theorem vY : D9 X [] CM := λ _ _ _ _ _ _ _ _ h => False.elim h
theorem uw {th : TS} {B : Addr} {n cn : Str} {i : Nat} {N_ : Stmt} {LL : List Stmt} {pc ph : Pos} (hN : X.N.Nodup) (hi : X.N[i]? = some n) (hk : X.env.scope.names.lookup n = some .local) (cB : pC X.K B) (hg : Gl X cn) (hm : X.mg cn = some (.ref B))
  (hh : ∀ x, Ο (m9 X x) (N_ :: LL) th) (hr : D9 X hs rest) (x_ : (cn == ("__debug__" : Str)) = false := by decide) : D9 X (.ExceptHandler (some (.Name cn pc)) (some n) (N_ :: LL) ph :: hs) (EH X.K B i th rest) := by
 intro pins s σ H D x C G h;obtain ⟨b, Ic, q⟩ := h;obtain ⟨J2, ⟨dx, fs, hx, KC⟩, SK, t, T', Pe, OS, Qq, f1, f2, f3⟩ := id G;refine wpAny_handleBy_cons ?_ (by intro z; cases z)
 refine codeAny_handlers_test ?_;refine dj (X := m9 X x) (Inv.Nh J2) hg hm ?_ x_;obtain ⟨ox, odd, JI⟩ : ∃ ox od, InstAt s.heap x ox C od := by
  obtain ⟨ox, od, J, _⟩ := gj J2.Ą hx KC;exact ⟨ox, some od, J⟩
 refine m8 J2.Ε cB.cls cB.ty cB.mb JI Ic ?_;cases b with
 | false =>
  rw [Ë am] at q;exact hr pins s σ H D x C G q
 | true =>
  rw [Õ rfl] at q;show codeAny _ _ _ _ _;refine codeAny_handlers_suite_as ?_;have h3 : 3 < OS.size := (ç.mp f3).1;refine wpAny_setFlight_none Qq rfl rfl f1 f2 h3 ?_;have J3 : Inv X pins σ H { s with heap := s.heap.update T' (Obj.mapFields λ x => x.setIfInBounds 3 Value.none) } := by
   refine J2.kept (t' := s.toks) λ b u hb => ?_;by_cases z : b = T'
   ·subst z;have e : Pe = u := Ð (f1.symm.trans hb);subst e;rw [ï _ f1 (by rw [qI f2]; rfl), qI f2, lW f3, <- f2]
   ·rw [Þ _ _ _ _ z]; exact hb
  generalize ({ s with heap := s.heap.update T' (Obj.mapFields λ x => x.setIfInBounds 3 Value.none) } : Shared) = s3 at J3
  refine cX (X := m9 X x) (Inv.Nh J3) hN hi (.inl hk) (v := V.ref x) (u := Value.ref x) rfl (λ s4 I4 => ?_) (.inr hk);refine é (hh x pins s4 _ H (j9 D i) I4 q) (λ f s5 q5 => ?_) (λ _ _ z => False.elim z);exact ql J3.ok hN hi hk (SP.JP J3.ok q5)
end
def xK (th : TH) (D : aY) (σ : St) : XK := λ c o H' => ∃ x C, c = .ref C /\ o = some x /\ th x C D σ H'
def xA (tb : XK -> TS) (th : TH) : TS := λ D σ H => tb (xK th D σ) D σ H
theorem xb {X : Cx} {st : Stmt} {tb : XK -> TS} {th : TH} {h₀ : ExceptHandler} {hs : List ExceptHandler} {pos : Pos} (hS : X.stack = X.env :: X.outer) (hL : X.env.frame = some X.env.locals)
  (hb : ∀ (σ : St) (E : XK) (pn : List (Addr × Obj)) (xe : bo), ui (iG X.prog X.w) (iP X pn xe) σ E -> G4 (iP X pn xe) σ st (tb E)) (hh : D9 X (h₀ :: hs) th) : PS X (.Try [st] (h₀ :: hs) [] [] pos) (xA tb th) := by
 intro pins s σ H D I h;refine wpAny_Try_except ?_;have px := hb σ (xK th D σ) (X.pn ++ pins) (λ e ą => wpAny (model X.prog X.w) X.A (noteFrame e X.env) (λ _ ũ => wpAny (model X.prog X.w) X.A (setFlight e none) (λ _ l_ => wpAny (model X.prog X.w) X.A (handleBy e X.env (h₀ :: hs)) (SP X pins D) X.xe l_) X.xe ũ) X.xe ą) ?_
 ·refine K1 (aA (px [] s H D (Inv.Kf I) h) λ f s1 q => ?_);cases f with
  | next => exact Ţ (Ţ (SP.Ž (f := .next) q))
  | ret v => exact SP.Ž (f := .ret v) q
  | brk => exact SP.Ž (f := .brk) q
  | cont => exact SP.Ž (f := .cont) q
 intro IC H1 s1 ev s' I1 h1;obtain ⟨x, C, dx, fs, H', rfl, os, bare, un, Ą, hx, KC, ⟨t, T, oT, ts, e1, e2, _, e4, e5, e6, e7⟩, x', C', ec, eo, q⟩ := h1;cases ec;cases eo;have J : Inv X pins σ H' s' := Inv.Ž (I1.JC os un Ą bare (λ b z => absurd z (by simp)))
 have hA : X.A.frames = some (X.env :: X.outer) := by rw [<- hS]; exact J.ok.frames
 have hF : s'.heap.FunFrames X.base (X.env :: X.outer) := by rw [<- hS]; exact J.stack
 refine iS hA hF hL e1 rfl (.inr ⟨T, oT, ts, rfl, e2, e5, e6, e7⟩) λ h' T' l => ?_;refine l.KG rfl (by show 1 < 6; decide) _ rfl λ h2 l2 => ?_
 have J2 := Inv.left J hS hx ⟨_, rfl⟩ e1 l2;rw [ou hx] at J2;have Qq : h2.get? x = some (jh C (some dx) t (.ref T')) := l2.exc;obtain ⟨Pe, OS, f1, f2, f3, f4⟩ := l2.Og;exact hh pins _ σ H' D x C ⟨J2, ⟨dx, fs, hx, KC⟩, some dx, t, T', Pe, OS, Qq, f1, f2, f3⟩ q
end My
namespace My
open PySem L2
section
variable {X : Cx}
def eZ : List V -> List V -> Bool
 | [], [] => true
 | x :: xs, y :: ys => Am x y && eZ xs ys
 | _, _ => false
theorem mM : ∀ (xs ys : List V), ((List.range (min xs.length ys.length)).all (λ j => Am (xs.getD j .Ė) (ys.getD j .Ė)) && xs.length == ys.length) = eZ xs ys
 | [], [] => rfl
 | [], y :: ys => by simp [eZ]
 | x :: xs, [] => by simp [eZ]
 | x :: xs, y :: ys => by
  have ih := mM xs ys;show _ = (Am x y && eZ xs ys);rw [<- ih, Ü, Ü, Nat.succ_min_succ, Ŝ, į, k_, Bool.and_assoc]
  congr 1
  rw [show (xs.length + 1 == ys.length + 1) = (xs.length == ys.length) from by simp]
  rfl
theorem wO {pins : List (Addr × Obj)} {σ : St} {H : Hp} {s : Shared} {A : Around} {xs ys : List V} {its Š : List Value} (r1 : Vals xs its) (r2 : Vals ys Š) (f1 : xs.all ff = true) (f2 : ys.all ff = true) :
  ∀ j (h1 : j < its.toArray.size) (h2 : j < Š.toArray.size), SeqAt.EqAt A s its.toArray[j] Š.toArray[j] (Am (xs.getD j .Ė) (ys.getD j .Ė)) := by
 intro j h1 h2;have KD : j < its.length := by simpa using h1
 have KW : j < Š.length := by simpa using h2
 have k1 : j < xs.length := by rw [r1.length]; exact KD
 have k2 : j < ys.length := by rw [r2.length]; exact KW
 obtain ⟨u1, e1, q1⟩ := r1.get (Ã k1);obtain ⟨u2, e2, q2⟩ := r2.get (Ã k2);have a1 : its.toArray[j] = u1 := by
  have := Ã KD;rw [e1] at this
  simpa using (Option.some.inj this).symm
 have a2 : Š.toArray[j] = u2 := by
  have := Ã KW;rw [e2] at this
  simpa using (Option.some.inj this).symm
 have z1 : xs.getD j .Ė = xs[j] := by simp [k1]
 have z2 : ys.getD j .Ė = ys[j] := by simp [k2]
 rw [a1, a2, z1, z2];exact AE q1 q2 (Jm.mp f1 _ (ω k1)) (Jm.mp f2 _ (ω k2))
end
section
variable {X : Cx}
theorem rq {v : V} (h : ff v = true) : Am v v = true := by
 cases v with
 | Ė => rfl
 | bl b => cases b <;> rfl
 | int i => exact ı i
 | str s => exact ı s
 | _ => cases h
end
section
variable {X : Cx}
theorem gu {A : Around} : A.in1.units = A.units + 1 := rfl
end
end My
namespace My
open PySem PySem.W L2
open PyProof.Rows (Call_ boot_enumerate)
section
variable {X : Cx} {pins : List (Addr × Obj)} {σ : St} {H : Hp} {s : Shared} {h' : Heap}
theorem wQ {t' : Nat} {i1 i2 : Addr} (I : Inv X pins σ H s) (k : ∀ b o, b ≠ i1 -> b ≠ i2 -> s.heap.get? b = some o -> h'.get? b = some o) (F1 : bK X pins H i1) (F2 : bK X pins H i2) : Inv X pins σ H { s with heap := h', toks := t' } := by
 obtain ⟨n1, L1, _, a1, b1, c1⟩ := F1;obtain ⟨n2, L2, _, a2, b2, c2⟩ := F2;have Rw : ∀ b u, H b = some u -> b ≠ i1 := λ b u e z => by rw [z, n1] at e; cases e
 have Rv : ∀ b u, H b = some u -> b ≠ i2 := λ b u e z => by rw [z, n2] at e; cases e
 refine I.step (g' := s.gens) (d' := s.drawn) (ch := [i1, i2]) (λ b hb => ?_) (λ b o _ _ hc e _ => k b o (λ z => hc (by simp [z])) (λ z => hc (by simp [z])) e) (λ b o _ _ hc e _ => ⟨o.slots, k b o (λ z => hc (by simp [z])) (λ z => hc (by simp [z])) e⟩) (λ _ _ _ _ n => n)
  (λ b o hc e => ⟨o, k b o (λ z => hc (by simp [z])) (λ z => hc (by simp [z])) e⟩) (λ _ _ e => e) (λ _ _ _ e => e) (λ b ps e => ⟨#[], by rw [e]; simp⟩) (λ q => q) (λ m hm => ?_) (λ b u e => ?_) I.bare
 ·have e : b = i1 \/ b = i2 := by simpa using hb
  rcases e with rfl | rfl
  ·exact ⟨a1, L1, b1, c1⟩
  ·exact ⟨a2, L2, b2, c2⟩
 ·obtain ⟨o, es, ep, ho, r⟩ := hm;exact ⟨o, es, ep, k _ o (Ne.symm L1) (Ne.symm L2) ho, r⟩
 ·refine (I.Ą b u e).m_ (λ c v hc q => k c v ?_ ?_ q) (λ _ q => q) λ _ _ q => q
  ·rcases hc with z | z
   ·rw [z]; exact Rw b u e
   ·exact Rw c _ z
  ·rcases hc with z | z
   ·rw [z]; exact Rv b u e
   ·exact Rv c _ z
end
theorem Jp {o : Obj} {vs : Array Value} (d : o.data = .fields vs) : o.isFreed = false := by
 obtain ⟨c, dd, dt, sl⟩ := o;cases d;rfl
def Dr (K : Frag) (a : Addr) : It :=
 ⟨λ i H => ∃ xs x, û K H a xs /\ xs[i]? = some x, λ i H x H' => ∃ p y, x = .ref p /\ H p = none /\ H' = ak H p (.tup [.int i, y]) /\ ∀ xs, û K H a xs -> xs[i]? = some y, λ i H => ∃ xs, û K H a xs /\ xs.length <= i⟩
theorem qi {P : Program} {w : World} {K : Frag} {elts : List Expr} {x1} {pos : Pos} (a e it : Addr) (ne : e ≠ it) : mH P w K (.Tuple elts x1 pos) (Dr K a) [e, it] e (λ i h => (∃ old, IsEnum h e it i old) /\ h.IsListIter it a i) where
 mem := by simp
 obj := λ i h st b hb => by
  obtain ⟨⟨old, h1⟩, o, h2, c, d⟩ := st;have e : b = e \/ b = it := by simpa using hb
  rcases e with rfl | rfl
  ·exact ⟨_, h1, λ v z => by cases z⟩
  ·exact ⟨o, h2, λ v z => by rw [d] at z; cases z⟩
 keep := λ i h h' st k => ⟨⟨_, k e (by simp) _ st.1.choose_spec⟩, st.2.at λ o z => k it (by simp) o z⟩
 item := by
  intro X hP hw hK hc i pins s σ H E I hf st hg;subst hP hw hK;obtain ⟨xs, x, hq, hx⟩ := hg;obtain ⟨its, rv, p, hz⟩ := I.list hq;obtain ⟨u, hu, ru⟩ := rv.get hx;obtain ⟨⟨old, he⟩, hi⟩ := st;have Fe := hf e (by simp)
  have Fi := hf it (by simp)
  refine wpAny_pyNext_enum_item he hi p.isList (x := u) (by simpa using hu) ne λ h1 eo LU ht U6 kk => ?_
  refine ⟨_, rfl, wpAny_letOwnedTupleGo_enum (s := { s with heap := h1, toks := s.toks + 1 }) eo λ h2 OB sb => ?_⟩
  have K3 : Heap.SameBut e h1 h2 := sb;have ne2 : s.heap.objs.size ≠ e := Β (Æ he);have PL : h2.get? s.heap.objs.size = some { cls := .type "tuple", data := .seq #[.int i s.toks, u] } := (K3.2 _ ne2).trans ht;obtain ⟨oi, KA, ci, di⟩ := hi;obtain ⟨O9, P1, WZ, SL⟩ := id LU;have NT : h2.get? it = some O9 := (K3.2 _ (Ne.symm ne)).trans P1
  let hA : Heap := (s.heap.update e λ _ => { cls := .type "enumerate", dict := none, data := .fields #[.none, .bool false, .ref it, rawInt ((i : Int) + 1), .none, u], slots := #[] }).update it λ _ => O9
  have IA : Inv X pins σ H { s with heap := hA, toks := s.toks } := wQ I (λ b o z1 z2 q => by
   show hA.get? b = some o;rw [Þ _ _ _ _ z2, Þ _ _ _ _ z1];exact q) Fe Fi
  have OV : hA.objs.size = s.heap.objs.size := by
   show ((s.heap.update e _).update it _).objs.size = _;rw [F', F']
  refine ⟨.ref s.heap.objs.size, ak H s.heap.objs.size (.tup [.int i, x]), ?_, rfl, ⟨_, x, rfl, I.Ą.fresh (Ä _), rfl, λ ys hy => by rw [I.HW hy hq]; exact hx⟩, ⟨⟨u, OB⟩, O9, NT, WZ, SL⟩, λ b hb => ?_⟩
  ·refine IA.laid (t' := s.toks + 1) (λ b v q => ?_) (j_ OV) ?_
   ·have q' : hA.get? b = some v := q;by_cases z2 : b = it
    ·subst z2;have hg : (s.heap.update e λ _ => { cls := .type "enumerate", dict := none, data := .fields #[.none, .bool false, .ref b, rawInt ((i : Int) + 1), .none, u], slots := #[] }).get? b = some oi := by
      rw [Þ _ _ _ _ (Ne.symm ne)]; exact KA
     rw [ï _ hg (Jp SL)] at q';cases q';exact NT
    ·rw [Þ _ _ _ _ z2] at q';by_cases z1 : b = e
     ·subst z1;rw [ï _ he rfl] at q';cases q';exact OB
     ·rw [Þ _ _ _ _ z1] at q';exact (K3.2 b z1).trans (kk b v z1 z2 q')
   ·exact ⟨ft, [.int i s.toks, u], .cons ⟨_, rfl⟩ (.cons ru .nil), ⟨_, PL, rfl, _, rfl⟩⟩
  ·have nb : b ≠ s.heap.objs.size := by
    have e' : b = e \/ b = it := by simpa using hb
    rcases e' with rfl | rfl
    ·exact Í (Æ he)
    ·exact Í (Æ KA)
   rw [ag nb];exact (hf b hb).1
 done := by
  intro X hP hw hK hc i pins s σ H E I hf st hg;subst hP hw hK;obtain ⟨xs, hq, hx⟩ := hg;obtain ⟨its, rv, p, hz⟩ := I.list hq;obtain ⟨⟨old, he⟩, hi⟩ := st;obtain ⟨f0, f1, f2, f3, f4, f5⟩ := hf it (by simp)
  have hl := rv.length;exact wpAny_pyNext_enum_end (I.ok.hd hc) he hi p.isList (by simp; omega) λ h' eb => ⟨rfl, I.turned (t' := s.toks) (λ b o hb e => eb b o hb e) f0 f1 f3 f4 f5⟩
 self := λ _ _ _ _ _ st h => wpAny_pyIter_enum st.1.choose_spec h
section
variable {X : Cx}
def i4 (K : Frag) (ta : TA) : TI := λ σ H R => ta σ H λ vs H1 => ∃ a, vs = [.ref a] /\ (∃ xs, û K H1 a xs) /\ R (Dr K a) H1
theorem dZ {elts : List Expr} {x1} {pt : Pos} {a : Expr} {ta : TA} {p pos : Pos} (hg : Gl X "enumerate") (hm : X.mg "enumerate" = none) (ha : PA X [a] ta) (hs : starEach [a] X.env = [(false, eval a X.env)] := by rfl) : PI X (.Tuple elts x1 pt) (.Call (.Name "enumerate" p) [a] [] pos) (i4 X.K ta) := by
 intro pins s σ H R I h;refine Call_ (fq I hg hm boot_enumerate (ļ (aA (ha pos pins s σ H _ I h) λ us s1 ⟨vs, H1, I1, r1, q1⟩ => ?_) hs rfl));obtain ⟨l, rfl, ⟨xs, hq⟩, q⟩ := q1;cases r1 with
 | cons r rr =>
  cases rr;cases r;obtain ⟨its, rv, p', hz⟩ := I1.list hq;refine call_enumerate_list p'.isList λ h' he hi hsz kk => ?_;refine wpAny_pyIter_enum he ?_;refine ⟨s1.heap.objs.size + 1, [s1.heap.objs.size + 1, s1.heap.objs.size], _, _, H1, rfl, I1.kept (t' := s1.toks) kk, qi l _ _ (Nat.succ_ne_self _), ⟨⟨_, he⟩, hi⟩, λ b hb => ?_, q⟩;have e : b = s1.heap.objs.size + 1 \/ b = s1.heap.objs.size := by simpa using hb
  have le : s1.heap.objs.size <= b := by
   rcases e with rfl | rfl
   ·exact Nat.le_succ _
   ·exact Ä _
  exact I1.Jb le (I1.Ą.fresh le)
end
theorem ik {K : Frag} {a : Addr} {xs : List V} {g : TG} {tb : TS} {D : aY} {σ : St} {H : Hp} (Pv : Nat -> St -> Hp -> Prop) (h0 : Pv 0 σ H) (hl : ∀ i σ H, i <= xs.length -> Pv i σ H -> û K H a xs)
  (hs : ∀ i x σ H p, xs[i]? = some x -> Pv i σ H -> H p = none -> g (.ref p) σ (ak H p (.tup [.int i, x])) λ ľ H2 => tb { D with nx := Pv (i + 1), ct := Pv (i + 1), bk := D.nx } ľ H2) (hd : ∀ σ H, Pv xs.length σ H -> D.nx σ H) :
  ∃ W : Nat -> Nat -> St -> Hp -> Prop, (∃ m, W 0 m σ H) /\ ∀ i m σ H, W i m σ H ->
   ((Dr K a).stop i H /\ D.nx σ H) \/ ((Dr K a).go i H /\ ∃ N : St -> Hp -> Prop, (∀ Ē H', N Ē H' -> ∃ m', m' < m /\ W (i + 1) m' Ē H') /\ ∀ x H', (Dr K a).IB i H x H' -> g x σ H' λ ľ H2 => tb { D with nx := N, ct := N, bk := D.nx } ľ H2) := by
 refine ⟨λ i m σ H => m = xs.length - i /\ i <= xs.length /\ Pv i σ H, ⟨xs.length, by simp, Nat.zero_le _, h0⟩, ?_⟩
 rintro i m σ H ⟨rfl, hi, p⟩;have q := hl i σ H hi p;by_cases Ű : i < xs.length
 ·refine .inr ⟨⟨xs, xs[i], q, Ã Ű⟩, Pv (i + 1), λ Ē H' n => ⟨xs.length - (i + 1), af, rfl, Ű, n⟩, ?_⟩;rintro x H' ⟨p', y, rfl, hp, rfl, hy⟩;exact hs i y σ H p' (hy xs q) p hp
 ·have e : i = xs.length := af;subst e;exact .inl ⟨⟨xs, q, Ä _⟩, hd σ H p⟩
end My
namespace My
open PySem L2
section
variable {prog : Program} {w : World} {A : Around} {R : Result -> Shared -> Prop} {s : Shared}
theorem gy {elt target iter : Expr} {scope : Scope} {pos : Pos} {it acc : Value} {env : Env} (J : Nat -> Shared -> Prop)
  (turn : ∀ n s, J n s -> wpAny (model prog w) A (pyNext it) (λ r ą => match r with
   | none => R (.ok .next) ą
   | some v => wpAny (model prog w) A (letOwnedTupleGo target it v) (λ _ ũ => wpAny (model prog w) A (assign target env v) (λ _ l_ => wpAny (model prog w) A (eval elt env)
     (λ x IV => wpAny (model prog w) A (call (.builtin "list.append") [acc, x]) (λ _ IU => ∃ m, m < n /\ J m IU) (λ _ _ => False) IV) (λ _ _ => False) l_) (λ _ _ => False) ũ) (λ _ _ => False) ą) (λ _ _ => False) s)
  (n : Nat) (h : J n s) : codeAny (model prog w) A (.compLoop (.ListComp elt [⟨target, iter, [], 0⟩] scope pos) 0 it acc env) R s := by
 refine codeAny_loop rfl J (λ n s hJ => ?_) n h;show wpAny _ _ (Sem.onRaise (compTurn (.ListComp elt [⟨target, iter, [], 0⟩] scope pos) 0 it acc env) (λ x => do noteFrame x env; theTreesLotGoes x)) _ _ s
 refine wpAny_noted ?_;rw [compTurn_list1];refine À (ī (À (é (turn n s hJ) (λ r ą Ł => ?_) λ _ _ z => z.elim)));cases r with
 | none => exact Â Ł
 | some v =>
  refine À (é Ł (λ _ ũ IG => ?_) λ _ _ z => z.elim);refine À (é IG (λ _ l_ Jr => ?_) λ _ _ z => z.elim);refine À (À (é Jr (λ x IV Kv => ?_) λ _ _ z => z.elim));refine À (é Kv (λ _ IU Ku => Â (Â ⟨rfl, Ku⟩)) λ _ _ z => z.elim)
end
def ay (X : Cx) (sc : Scope) (cl : List (Str × Addr)) (N : List Str) (s : Shared) (H : Hp) (C : Addr) (fp : List Addr) : Cx where
 prog := X.prog
 w := X.w
 K := X.K
 mg := X.mg
 base := X.base
 A := X.A
 N := N
 ŏ := s
 Ju := H
 env := compEnvC sc cl C X.env
 outer := X.stack
 stack := X.stack
 ex := fp
 fn := λ _ => false
 calm := X.calm
 pn := []
 xe := λ _ _ => False
structure kC (X : Cx) (sc : Scope) (cl : List (Str × Addr)) (x : Str) (zs : List Str) (js : List Nat) : Prop where
 Iw : closureFor sc X.env = pure cl
 kind : sc.kind = .function
 n_ : ∀ y ∈ sc.names, y.2 ≠ .cell
 names : ∀ y ∈ sc.names, y.2 = .local -> sc.names.lookup y.1 = some .local
 var : sc.names.lookup x = some .local
 sub : ∀ z c, cl.lookup z = some c -> X.env.cells.lookup z = some c
 has : ∀ z, ((relabel sc X.env).names.lookup z = some .cell \/ (relabel sc X.env).names.lookup z = some .free) -> ∃ c, cl.lookup z = some c
 nd : (x :: zs).Nodup
 cap : ∀ (k : Nat) (z : Str), zs[k]? = some z -> ∃ j : Nat, js[k]? = some j /\ X.N[j]? = some z /\ AV X.env.scope z /\ X.env.kindOf z ≠ some .local /\
  ((relabel sc X.env).names.lookup z = some .cell \/ (relabel sc X.env).names.lookup z = some .free)
 len : js.length = zs.length
def bA (js : List Nat) (σ : St) : St := js.map λ j => (σ[j]?).join
def Hu (wi : TI) (js : List Nat) (te : TE) : TE := λ σ H Q => wi σ H λ J H1 => ∀ D, H1 D = none -> ∃ W : Nat -> Nat -> List V -> Hp -> Prop, (∃ m, W 0 m [] (ak H1 D (.lst []))) /\
 ∀ i m ys H2, W i m ys H2 -> H2 D = some (.lst ys) /\ ((J.stop i H2 /\ Q (.ref D) H2) \/ (J.go i H2 /\ ys.length < sizeLine /\
  ∀ x H3, J.IB i H2 x H3 -> te (some x :: bA js σ) H3 λ y H4 => H4 D = some (.lst ys) /\ ∃ m', m' < m /\ W (i + 1) m' (ys ++ [y]) (ak H4 D (.lst (ys ++ [y])))))
section
variable {X : Cx} {pins : List (Addr × Obj)} {σ : St} {H : Hp} {s : Shared} {sc : Scope} {cl : List (Str × Addr)} {x : Str} {zs : List Str} {js : List Nat} {C : Addr} {fp : List Addr}
theorem vy (I : Inv X pins σ H s) (S : kC X sc cl x zs js) (hf : ∀ b ∈ fp, bK X pins H b /\ b < s.heap.objs.size) (hC : s.heap.objs.size <= C) : (ay X sc cl (x :: zs) s H C fp).Ok := by
 refine ⟨I.ok.mod, S.kind, I.ok.glob, I.ok.blt, hC, λ y z c h1 h2 => I.ok.inj y z c (S.sub _ _ h1) (S.sub _ _ h2), λ z h => S.has z h, (λ _ _ h => nomatch h), I.ok.hd, I.ok.frames, .inl rfl, λ b hb => ?_, I.bs, ?_, λ b o e hb => ?_, λ b hb hs => ?_, I.stack, I.A_⟩
 ·obtain ⟨⟨_, h1, _, _, h4, _⟩, h6⟩ := hf b hb;exact ⟨λ e => absurd h6 (i'.mpr (by rw [show b = C from e]; exact hC)), λ z c e => h4 z c (S.sub _ _ e)⟩
 ·exact Ò I.ok.JD I.sz
 ·obtain ⟨⟨_, _, _, h3, _⟩, _⟩ := hf b hb;rcases h3 with h | h
  ·exact I.ok.IF b o e h
  ·exact absurd (Æ e) (i'.mpr (Ò I.ok.JD h))
 ·obtain ⟨⟨_, h1, h2, _⟩, _⟩ := hf b hb;rcases Ñ.mp (I.Ū b hs) with e | e
  ·exact h1 e
  ·exact h2 e
theorem m7 {s1 : Shared} (I : Inv X pins σ H s) (S : kC X sc cl x zs js) (hf : ∀ b ∈ fp, bK X pins H b /\ b < s.heap.objs.size) (hC : s.heap.objs.size <= C) (ho : s1.os = s.os) (hg : s1.gens = s.gens)
  (hk : ∀ b o, s.heap.get? b = some o -> s1.heap.get? b = some o) {m : bu} (hn : s1.heap.Ns C m) : Inv (ay X sc cl (x :: zs) s H C fp) [] (none :: bA js σ) H s1 := by
 refine ⟨vy I S hf hC, ho, by rw [hg]; exact I.bare, Un.kept hk, ⟨m, hn, λ i y v h1 h2 h3 => ?_⟩, λ z c e => ?_, I.Ą.fresh hC, λ z c e => I.Ř z c (S.sub _ _ e), λ p hp => absurd (show p ∈ ([] : List (Addr × Obj)) from hp) (by simp), I.Ą.kept hk, ?_⟩
 ·cases i with
  | zero => cases h2
  | succ i =>
   have KD : zs[i]? = some y := h1;obtain ⟨j, hj, hN, hv, nl, k'⟩ := S.cap i y KD;have KW : (bA js σ)[i]? = some (some v) := h2;have h5 : σ[j]? = some (some v) := by
    unfold bA at KW;rw [Ê, hj] at KW;have h6 : (σ[j]?).join = some v := Ð KW;cases e : σ[j]? with
    | none => rw [e] at h6; cases h6
    | some o => rw [e] at h6; exact ĭ some h6
   obtain ⟨m0, Vf, hl⟩ := I.loc;obtain ⟨u, ru, lk⟩ := hl j y v hN h5 hv;refine ⟨u, ru, ?_⟩;rcases lk with ⟨k1, _⟩ | ⟨_, c, ec, hc⟩
   ·exact absurd k1 nl
   ·obtain ⟨c', N9⟩ := S.has y k';have e2 := S.sub _ _ N9;rw [ec] at e2;cases e2;exact .inr ⟨k', c, N9, hc.keeps hk⟩
 ·obtain ⟨v, hv⟩ := I.cell z c (S.sub _ _ e);exact ⟨v, hv.keeps hk⟩
 ·show ((none :: bA js σ : St)).length = (x :: zs).length;unfold bA;rw [Ü, Ü, Å, S.len]
theorem sA {s1 : Shared} {Ē : St} {H' : Hp} {h' : Heap} (I : Inv X pins σ H s) (hf : ∀ b ∈ fp, bK X pins H b /\ b < s.heap.objs.size) (hC : s.heap.objs.size <= C) (J : Inv (ay X sc cl (x :: zs) s H C fp) [] Ē H' s1)
  (hs : Heap.SameBut C s1.heap h') : Inv X pins σ H' { s1 with heap := h' } := by
 have old : ∀ b o, s1.heap.get? b = some o -> b ≠ C -> h'.get? b = some o := λ b o e n => (hs.2 b n).trans e;have lt : ∀ {b o}, s.heap.get? b = some o -> b ≠ C := λ {b o} e z => by
  have q := Æ e;rw [z] at q;exact absurd q (i'.mpr hC)
 have B := J.base;refine I.JC (s' := { s1 with heap := h' }) (ch := fp) J.os ⟨λ b o e n hb hx => old b o (B.keep b o e n hb hx) (lt e), λ b o e n hb hx => ?_, B.free, λ b o e hx => ?_, B.G_, B.y_, B.HU, B.sys⟩ (λ b o e => ?_) J.bare λ b hb => ?_
 ·obtain ⟨sl, q⟩ := B.slot b o e n hb hx;exact ⟨sl, old _ _ q (lt e)⟩
 ·obtain ⟨o', q⟩ := B.there b o e hx;exact ⟨o', old _ _ q (lt e)⟩
 ·have nC : ∀ c u, H' c = some u -> c ≠ C := λ c u q z => by
   have f : H' C = none := J.free;rw [z, f] at q; cases q
  refine (J.Ą b o e).m_ (λ c v hc q => old c v q ?_) (λ _ q => q) λ _ _ q => q;rcases hc with rfl | hc
  ·exact nC _ _ e
  ·exact nC _ _ hc
 ·obtain ⟨⟨_, h1, _, h3, h4, h5⟩, _⟩ := hf b hb;exact ⟨h3, h1, h4, h5⟩
end
section
variable {X : Cx} {sc : Scope} {cl : List (Str × Addr)} {x : Str} {zs : List Str} {js : List Nat} {elt iter : Expr} {px pos : Pos} {wi : TI} {te : TE}
theorem C9 (hc : X.calm = true) (S : kC X sc cl x zs js) (hi : PI X (.Name x px) iter wi) (he : ∀ s H C fp, PE (ay X sc cl (x :: zs) s H C fp) elt te)
  (hs : ∀ v, foldedSetIterable iter X.env v = pure v := by intro _; rfl) : PE X (.ListComp elt [⟨.Name x px, iter, [], 0⟩] sc pos) (Hu wi js te) := by
 intro pins s σ H Q I h;rw [eval_ListComp];refine Ĵ (use := none) rfl hs S.Iw S.kind S.names (aA (hi pins s σ H _ I h) λ v s1 h1 => aA h1 λ MD s2 h2 => ?_);obtain ⟨it, fp, tn, J, H2, e, I2, T, Is, f2, body⟩ := h2;subst e;have Lu : H2 s2.heap.objs.size = none := I2.fresh;obtain ⟨W, ⟨m0, w0⟩, turn⟩ := body _ Lu;refine â ?_;have I3 : Inv X pins σ (ak H2 s2.heap.objs.size (.lst [])) { s2 with heap := s2.heap.push { cls := .type "list", data := .seq ([] : List Value).toArray } } := I2.JQ (t' := s2.toks) (ys := []) (its := []) .nil (Ĕ _)
 refine ő S.n_ (by intro y hy; simp at hy) (λ Ł hn I_ => ?_) S.kind
 generalize IH : ({ s2 with heap := s2.heap.push { cls := .type "list", data := .seq ([] : List Value).toArray } } : Shared) = s3 at I3 hn I_ ⊢
 have Bk : ∀ b ∈ fp, bK X pins (ak H2 s2.heap.objs.size (.lst [])) b /\ b < s3.heap.objs.size := λ b hb => by
  obtain ⟨o, ho, _⟩ := T.obj _ _ Is b hb;have hl := Æ ho;have K9 : b ≠ s2.heap.objs.size := Í hl;obtain ⟨z1, z2⟩ := f2 b hb;refine ⟨⟨by rw [ag K9]; exact z1, z2⟩, ?_⟩
  rw [<- IH];show b < (s2.heap.push _).objs.size;rw [ö];exact Į hl
 have old : ∀ b o, s3.heap.get? b = some o -> Ł.get? b = some o := λ b o e => I_.extBut b o (Í (Æ e)) (Á _ e);have loop : ∀ sS : Shared, sS.heap = Ł -> sS.os = s3.os -> sS.gens = s3.gens -> codeAny (model X.prog X.w) X.A (.compLoop (.ListComp elt [⟨.Name x px, iter, [], 0⟩] sc pos) 0 (.ref it) (.ref s2.heap.objs.size) (compEnvC sc cl s3.heap.objs.size X.env))
   (compPost (model X.prog X.w) X.A X.xe none (EP X pins σ Q) (.ref s2.heap.objs.size) s3.heap.objs.size) sS := by
  intro sS eh eo eg;subst eh;have J0 : Inv (ay X sc cl (x :: zs) s3 (ak H2 s2.heap.objs.size (.lst [])) s3.heap.objs.size fp) [] (none :: bA js σ) (ak H2 s2.heap.objs.size (.lst [])) sS := m7 I3 S Bk (Ä _) eo eg old hn;generalize hX : ay X sc cl (x :: zs) s3 (ak H2 s2.heap.objs.size (.lst [])) s3.heap.objs.size fp = X' at J0;have ş : ∀ {H' : Hp}, (∀ b ∈ fp, H' b = none) -> ∀ b ∈ fp, bK X' [] H' b := λ {H'} hn b hb => by
   subst hX;obtain ⟨⟨_, z1, z2, z3, z4, z5⟩, z6⟩ := Bk b hb;refine ⟨hn b hb, Í z6, λ q => ?_, .inl hb, λ y c e => z4 y c (S.sub _ _ e), λ p hp => absurd (show p ∈ ([] : List (Addr × Obj)) from hp) (by simp)⟩
   rcases Ñ.mp (I3.Ū b q) with e | e
   ·exact z1 e
   ·exact z2 e
  have J1 : tn 0 sS.heap := T.keep _ _ _ Is λ b hb o e => old b o (by rw [<- IH]; exact Á _ e)
  refine gy (λ n s' => ∃ i ys o H', Inv X' [] (o :: bA js σ) H' s' /\ tn i s'.heap /\ (∀ b ∈ fp, H' b = none) /\ W i n ys H') ?_ m0 ⟨0, [], none, _, J0, J1, λ b hb => (Bk b hb).1.1, w0⟩;rintro n s' ⟨i, ys, o, H', Iv, st, fr, w⟩;obtain ⟨hD, alt⟩ := turn i n ys H' w;have eP : X'.prog = X.prog := by subst hX; rfl
  have eW : X'.w = X.w := by subst hX; rfl
  have eK : X'.K = X.K := by subst hX; rfl
  have eC : X'.calm = true := by subst hX; exact hc
  have eA : X'.A = X.A := by subst hX; rfl
  have eE : X'.env = compEnvC sc cl s3.heap.objs.size X.env := by subst hX; rfl
  have eX : X'.xe = λ _ _ => False := by subst hX; rfl
  rcases alt with ⟨stop, q⟩ | ⟨go, ŋ, step⟩
  ·have d := T.done X' eP eW eK eC i [] s' _ H' (λ _ _ => False) Iv (ş fr) st stop;rw [eA] at d;refine aA d λ r s4 ⟨hr, I4⟩ => ?_;subst hr;obtain ⟨m, hm, _⟩ := id I4.loc;rw [eE] at hm;subst hX;exact ⟨m, hm, λ h' Ky => ⟨.ref s2.heap.objs.size, H', sA I3 Bk (Ä _) I4 Ky, rfl, q⟩⟩
  ·have d := T.item X' eP eW eK eC i [] s' _ H' (λ _ _ => False) Iv (ş fr) st go;rw [eA] at d;refine aA d λ r s4 ⟨u, hr, h4⟩ => ?_;subst hr;refine aA h4 λ _ s5 ⟨y, H5, I5, r5, y5, w_, KF⟩ => ?_;have KI := I5.pinned (ş KF) (T.obj _ _ w_);have hg : PG X' (.Name x px) (bf 0) := by
    subst hX;exact bM S.nd rfl (.inl (lookup_relabel_local S.var)) (.inr (lookup_relabel_local S.var))
   have g6 := hg _ s5 _ H5 y u (λ LK H6 => LK = (some y :: bA js σ) /\ H6 = H5) KI r5 ⟨rfl, rfl⟩;rw [eP, eW, eA, eE, eX] at g6;refine aA g6 λ _ s6 ⟨LK, H6, I6, e6, Wn⟩ => ?_;subst e6;subst Wn;have KR : PE X' elt te := by subst hX; exact he _ _ _ _
   have g7 := KR _ s6 _ H6 _ I6 (step y H6 y5);rw [eP, eW, eA, eE, eX] at g7;refine aA g7 λ uv s7 ⟨v7, H7, I7, r7, MQ, m', Ic, w7⟩ => ?_;have g8 := (bS (X := X')) _ s7 _ H7 (.ref s2.heap.objs.size) [v7] (.ref s2.heap.objs.size) [uv] (λ _ H8 => H8 = ak H7 s2.heap.objs.size (.lst (ys ++ [v7]))) I7 rfl (.cons r7 .nil) ⟨_, ys, v7, rfl, rfl, MQ, ŋ, rfl⟩;rw [eP, eW, eA, eX] at g8;refine aA g8 λ _ s8 ⟨_, H8, I8, _, e8⟩ => ?_;subst e8;refine ⟨m', Ic, i + 1, ys ++ [v7], some y, _, I8.ņ, T.keep _ _ _ w_ λ b hb o e => (I8.pin (b, o) (È _ (È _ (aK hb e)))).1, λ b hb => ?_, w7⟩;obtain ⟨o', e', _⟩ := T.obj _ _ w_ b hb;exact (I8.pin (b, o') (È _ (È _ (aK hb e')))).2.1
 have Kg : tn 0 Ł := T.keep _ _ _ Is λ b hb o e => old b o (by rw [<- IH]; exact Á _ e)
 exact Ŭ (loop _ rfl rfl rfl) (T.self _ 0 _ _ _ Kg (loop _ rfl rfl rfl))
end
end My
namespace My
open PySem PySem.W L2
section
variable {K : Frag} {te : TE} {cap : St} {D : Addr} {H1 : Hp} {Q : Hp -> Prop}
theorem vT {a : Addr} {xs : List V} (Pv : Nat -> List V -> Hp -> Prop) (hz : xs.length < sizeLine) (h0 : Pv 0 [] (ak H1 D (.lst [])))
  (hl : ∀ i ys H, Pv i ys H -> û K H a xs)
  (hs : ∀ i x ys H, xs[i]? = some x -> ys.length = i -> H D = some (.lst ys) -> Pv i ys H -> ∀ R : VK, (∀ y H4, H4 D = some (.lst ys) -> Pv (i + 1) (ys ++ [y]) (ak H4 D (.lst (ys ++ [y]))) -> R y H4) -> te (some x :: cap) H R)
  (hd : ∀ ys H, ys.length = xs.length -> H D = some (.lst ys) -> Pv xs.length ys H -> Q H) :
  ∃ W : Nat -> Nat -> List V -> Hp -> Prop, (∃ m, W 0 m [] (ak H1 D (.lst []))) /\
   ∀ i m ys H2, W i m ys H2 -> H2 D = some (.lst ys) /\ (((uo K a).stop i H2 /\ Q H2) \/ ((uo K a).go i H2 /\ ys.length < sizeLine /\
    ∀ x H3, (uo K a).IB i H2 x H3 -> te (some x :: cap) H3 λ y H4 => H4 D = some (.lst ys) /\ ∃ m', m' < m /\ W (i + 1) m' (ys ++ [y]) (ak H4 D (.lst (ys ++ [y]))))) := by
 refine ⟨λ i m ys H => m = xs.length - i /\ i <= xs.length /\ ys.length = i /\ H D = some (.lst ys) /\ Pv i ys H, ⟨xs.length, by simp, Nat.zero_le _, rfl, aQ, h0⟩, ?_⟩
 rintro i m ys H ⟨rfl, hi, hy, hD, p⟩;refine ⟨hD, ?_⟩;have q := hl i ys H p;by_cases Ű : i < xs.length
 ·refine .inr ⟨⟨xs, xs[i], q, by simp [Ű]⟩, af, λ x H' y => ?_⟩
  obtain ⟨e, y⟩ := y;subst e;refine hs i x ys _ (y xs q) hy hD p _ λ z H4 KU p4 => ⟨KU, xs.length - (i + 1), af, rfl, Ű, by rw [Ï, hy]; rfl, aQ, p4⟩
 ·have e : i = xs.length := af;subst e;exact .inl ⟨⟨xs, q, Ä _⟩, hd ys H hy hD p⟩
end
end My
namespace My
open PySem L2 PySem.Calls PyProof.Rows
open PySem.Builtin.Str (occurrences partsBetween strSub)
section
variable {X : Cx}
def CQ (i j : Int) : Prop := 0 < j /\ j.natAbs.log2 < 9000
theorem oK : gg X (binaryOp .FloorDiv) (rI CQ λ i j => .int (i / j)) := yN λ i j _ _ _ _ _ hc q => by
 have z := hc.1;exact floordiv_int af (by rw [Κ i (Int.le_of_lt z)]; exact q) (.inl (PyProof.noPylong_of_log2 hc.2))
end
end My
namespace My
open PySem L2
section
variable {prog : Program} {w : World} {A : Around} {R : Result -> Shared -> Prop} {s : Shared}
theorem n8 {elt target iter c : Expr} {scope : Scope} {pos : Pos} {it acc : Value} {env : Env} (J : Nat -> Shared -> Prop)
  (turn : ∀ n s, J n s -> wpAny (model prog w) A (pyNext it) (λ r ą => match r with
   | none => R (.ok .next) ą
   | some v => wpAny (model prog w) A (letOwnedTupleGo target it v) (λ _ ũ => wpAny (model prog w) A (assign target env v) (λ _ l_ => wpAny (model prog w) A (isTrue c env (eval c env)) (λ k ŏ =>
     (k = false -> ∃ m, m < n /\ J m ŏ) /\ (k = true -> wpAny (model prog w) A (eval elt env)
     (λ x IV => wpAny (model prog w) A (call (.builtin "list.append") [acc, x]) (λ _ IU => ∃ m, m < n /\ J m IU) (λ _ _ => False) IV) (λ _ _ => False) ŏ)) (λ _ _ => False) l_) (λ _ _ => False) ũ) (λ _ _ => False) ą) (λ _ _ => False) s)
  (n : Nat) (h : J n s) : codeAny (model prog w) A (.compLoop (.ListComp elt [⟨target, iter, [c], 0⟩] scope pos) 0 it acc env) R s := by
 refine codeAny_loop rfl J (λ n s hJ => ?_) n h;show wpAny _ _ (Sem.onRaise (compTurn (.ListComp elt [⟨target, iter, [c], 0⟩] scope pos) 0 it acc env) (λ x => do noteFrame x env; theTreesLotGoes x)) _ _ s
 refine wpAny_noted ?_;rw [compTurn_list];refine À (ī (À (é (turn n s hJ) (λ r ą Ł => ?_) λ _ _ z => z.elim)));cases r with
 | none => exact Â Ł
 | some v =>
  refine À (é Ł (λ _ ũ IG => ?_) λ _ _ z => z.elim);refine À (é IG (λ _ l_ Jr => ?_) λ _ _ z => z.elim);refine À (wpAny_tests_one (é Jr (λ k ŏ h₀ => ?_) λ _ _ z => z.elim));cases k with
  | false => exact Â ⟨rfl, h₀.1 rfl⟩
  | true =>
   refine À (À (é (h₀.2 rfl) (λ x IV Kv => ?_) λ _ _ z => z.elim));refine À (é Kv (λ _ IU Ku => Â (Â ⟨rfl, Ku⟩)) λ _ _ z => z.elim)
end
structure aW (X : Cx) (sc : Scope) (cl : List (Str × Addr)) (ts zs : List Str) (js : List Nat) : Prop where
 Iw : closureFor sc X.env = pure cl
 kind : sc.kind = .function
 n_ : ∀ y ∈ sc.names, y.2 ≠ .cell
 names : ∀ y ∈ sc.names, y.2 = .local -> sc.names.lookup y.1 = some .local
 var : ∀ x ∈ ts, sc.names.lookup x = some .local
 sub : ∀ z c, cl.lookup z = some c -> X.env.cells.lookup z = some c
 has : ∀ z, ((relabel sc X.env).names.lookup z = some .cell \/ (relabel sc X.env).names.lookup z = some .free) -> ∃ c, cl.lookup z = some c
 nd : (ts ++ zs).Nodup
 cap : ∀ (k : Nat) (z : Str), zs[k]? = some z -> ∃ j : Nat, js[k]? = some j /\ X.N[j]? = some z /\ AV X.env.scope z /\ X.env.kindOf z ≠ some .local /\
  ((relabel sc X.env).names.lookup z = some .cell \/ (relabel sc X.env).names.lookup z = some .free)
 len : js.length = zs.length
def fm (wi : TI) (k : Nat) (js : List Nat) (g : TG) (te : TE) : TE := λ σ H Q => wi σ H λ J H1 => ∀ D, H1 D = none -> ∃ W : Nat -> Nat -> List V -> Hp -> Prop, (∃ m, W 0 m [] (ak H1 D (.lst []))) /\
 ∀ i m ys H2, W i m ys H2 -> H2 D = some (.lst ys) /\ ((J.stop i H2 /\ Q (.ref D) H2) \/ (J.go i H2 /\ ys.length < sizeLine /\
  ∀ x H3, J.IB i H2 x H3 -> ∀ os : St, os.length = k -> g x (os ++ bA js σ) H3 λ ľ H0 => (∃ ū : St, ū.length = k /\ ľ = ū ++ bA js σ) /\ te ľ H0 λ y H4 => H4 D = some (.lst ys) /\ ∃ m', m' < m /\ W (i + 1) m' (ys ++ [y]) (ak H4 D (.lst (ys ++ [y])))))
def fo (wi : TI) (k : Nat) (js : List Nat) (g : TG) (tt : TT) (te : TE) : TE := λ σ H Q => wi σ H λ J H1 => ∀ D, H1 D = none -> ∃ W : Nat -> Nat -> List V -> Hp -> Prop, (∃ m, W 0 m [] (ak H1 D (.lst []))) /\
 ∀ i m ys H2, W i m ys H2 -> H2 D = some (.lst ys) /\ ((J.stop i H2 /\ Q (.ref D) H2) \/ (J.go i H2 /\ ys.length < sizeLine /\
  ∀ x H3, J.IB i H2 x H3 -> ∀ os : St, os.length = k -> g x (os ++ bA js σ) H3 λ ľ H0 => (∃ ū : St, ū.length = k /\ ľ = ū ++ bA js σ) /\ tt ľ H0 λ b H5 => (b = false -> ∃ m', m' < m /\ W (i + 1) m' ys H5) /\
   (b = true -> te ľ H5 λ y H4 => H4 D = some (.lst ys) /\ ∃ m', m' < m /\ W (i + 1) m' (ys ++ [y]) (ak H4 D (.lst (ys ++ [y]))))))
section
variable {X : Cx} {pins : List (Addr × Obj)} {σ : St} {H : Hp} {s : Shared} {sc : Scope} {cl : List (Str × Addr)} {ts zs : List Str} {js : List Nat} {C : Addr} {fp : List Addr}
theorem uh (I : Inv X pins σ H s) (S : aW X sc cl ts zs js) (hf : ∀ b ∈ fp, bK X pins H b /\ b < s.heap.objs.size) (hC : s.heap.objs.size <= C) : (ay X sc cl (ts ++ zs) s H C fp).Ok := by
 refine ⟨I.ok.mod, S.kind, I.ok.glob, I.ok.blt, hC, λ y z c h1 h2 => I.ok.inj y z c (S.sub _ _ h1) (S.sub _ _ h2), λ z h => S.has z h, (λ _ _ h => nomatch h), I.ok.hd, I.ok.frames, .inl rfl, λ b hb => ?_, I.bs, ?_, λ b o e hb => ?_, λ b hb hs => ?_, I.stack, I.A_⟩
 ·obtain ⟨⟨_, h1, _, _, h4, _⟩, h6⟩ := hf b hb;exact ⟨λ e => absurd h6 (i'.mpr (by rw [show b = C from e]; exact hC)), λ z c e => h4 z c (S.sub _ _ e)⟩
 ·exact Ò I.ok.JD I.sz
 ·obtain ⟨⟨_, _, _, h3, _⟩, _⟩ := hf b hb;rcases h3 with h | h
  ·exact I.ok.IF b o e h
  ·exact absurd (Æ e) (i'.mpr (Ò I.ok.JD h))
 ·obtain ⟨⟨_, h1, h2, _⟩, _⟩ := hf b hb;rcases Ñ.mp (I.Ū b hs) with e | e
  ·exact h1 e
  ·exact h2 e
theorem cK {s1 : Shared} (I : Inv X pins σ H s) (S : aW X sc cl ts zs js) (hf : ∀ b ∈ fp, bK X pins H b /\ b < s.heap.objs.size) (hC : s.heap.objs.size <= C) (ho : s1.os = s.os) (hg : s1.gens = s.gens)
  (hk : ∀ b o, s.heap.get? b = some o -> s1.heap.get? b = some o) {m : bu} (hn : s1.heap.Ns C m) : Inv (ay X sc cl (ts ++ zs) s H C fp) [] (List.replicate ts.length none ++ bA js σ) H s1 := by
 refine ⟨uh I S hf hC, ho, by rw [hg]; exact I.bare, Un.kept hk, ⟨m, hn, λ i y v h1 h2 h3 => ?_⟩, λ z c e => ?_, I.Ą.fresh hC, λ z c e => I.Ř z c (S.sub _ _ e), λ p hp => absurd (show p ∈ ([] : List (Addr × Obj)) from hp) (by simp), I.Ą.kept hk, ?_⟩
 ·rcases Nat.lt_or_ge i ts.length with lt | ge
  ·rw [KL (by rw [ø]; exact lt), LJ, Õ lt] at h2
   cases h2
  ·have KD : zs[i - ts.length]? = some y := by
    have N3 : (ts ++ zs)[i]? = some y := h1;rw [Ι ge] at N3;exact N3
   obtain ⟨j, hj, hN, hv, nl, k'⟩ := S.cap _ y KD;have KW : (bA js σ)[i - ts.length]? = some (some v) := by
    rw [Ι (by rw [ø]; exact ge), ø] at h2
    exact h2
   have h5 : σ[j]? = some (some v) := by
    unfold bA at KW;rw [Ê, hj] at KW;have h6 : (σ[j]?).join = some v := Ð KW;cases e : σ[j]? with
    | none => rw [e] at h6; cases h6
    | some o => rw [e] at h6; exact ĭ some h6
   obtain ⟨m0, Vf, hl⟩ := I.loc;obtain ⟨u, ru, lk⟩ := hl j y v hN h5 hv;refine ⟨u, ru, ?_⟩;rcases lk with ⟨k1, _⟩ | ⟨_, c, ec, hc⟩
   ·exact absurd k1 nl
   ·obtain ⟨c', N9⟩ := S.has y k';have e2 := S.sub _ _ N9;rw [ec] at e2;cases e2;exact .inr ⟨k', c, N9, hc.keeps hk⟩
 ·obtain ⟨v, hv⟩ := I.cell z c (S.sub _ _ e);exact ⟨v, hv.keeps hk⟩
 ·show (List.replicate ts.length none ++ bA js σ : St).length = (ts ++ zs).length;unfold bA;rw [Ï, Ï, Å, ø, S.len]
theorem eR {s1 : Shared} {Ē : St} {H' : Hp} {h' : Heap} (I : Inv X pins σ H s) (hf : ∀ b ∈ fp, bK X pins H b /\ b < s.heap.objs.size) (hC : s.heap.objs.size <= C) (J : Inv (ay X sc cl (ts ++ zs) s H C fp) [] Ē H' s1)
  (hs : Heap.SameBut C s1.heap h') : Inv X pins σ H' { s1 with heap := h' } := by
 have old : ∀ b o, s1.heap.get? b = some o -> b ≠ C -> h'.get? b = some o := λ b o e n => (hs.2 b n).trans e;have lt : ∀ {b o}, s.heap.get? b = some o -> b ≠ C := λ {b o} e z => by
  have q := Æ e;rw [z] at q;exact absurd q (i'.mpr hC)
 have B := J.base;refine I.JC (s' := { s1 with heap := h' }) (ch := fp) J.os ⟨λ b o e n hb hx => old b o (B.keep b o e n hb hx) (lt e), λ b o e n hb hx => ?_, B.free, λ b o e hx => ?_, B.G_, B.y_, B.HU, B.sys⟩ (λ b o e => ?_) J.bare λ b hb => ?_
 ·obtain ⟨sl, q⟩ := B.slot b o e n hb hx;exact ⟨sl, old _ _ q (lt e)⟩
 ·obtain ⟨o', q⟩ := B.there b o e hx;exact ⟨o', old _ _ q (lt e)⟩
 ·have nC : ∀ c u, H' c = some u -> c ≠ C := λ c u q z => by
   have f : H' C = none := J.free;rw [z, f] at q; cases q
  refine (J.Ą b o e).m_ (λ c v hc q => old c v q ?_) (λ _ q => q) λ _ _ q => q;rcases hc with rfl | hc
  ·exact nC _ _ e
  ·exact nC _ _ hc
 ·obtain ⟨⟨_, h1, _, h3, h4, h5⟩, _⟩ := hf b hb;exact ⟨h3, h1, h4, h5⟩
end
section
variable {X : Cx} {sc : Scope} {cl : List (Str × Addr)} {ts zs : List Str} {js : List Nat} {elt iter : Expr} {pos : Pos} {tg : Expr} {g : TG} {wi : TI} {te : TE}
theorem kc (hc : X.calm = true) (S : aW X sc cl ts zs js) (hi : PI X tg iter wi) (hg : ∀ s H C fp, PG (ay X sc cl (ts ++ zs) s H C fp) tg g) (he : ∀ s H C fp, PE (ay X sc cl (ts ++ zs) s H C fp) elt te)
  (hs : ∀ v, foldedSetIterable iter X.env v = pure v := by intro _; rfl) : PE X (.ListComp elt [⟨tg, iter, [], 0⟩] sc pos) (fm wi ts.length js g te) := by
 intro pins s σ H Q I h;rw [eval_ListComp];refine Ĵ (use := none) rfl hs S.Iw S.kind S.names (aA (hi pins s σ H _ I h) λ v s1 h1 => aA h1 λ MD s2 h2 => ?_);obtain ⟨it, fp, tn, J, H2, e, I2, T, Is, f2, body⟩ := h2;subst e;have Lu : H2 s2.heap.objs.size = none := I2.fresh;obtain ⟨W, ⟨m0, w0⟩, turn⟩ := body _ Lu;refine â ?_;have I3 : Inv X pins σ (ak H2 s2.heap.objs.size (.lst [])) { s2 with heap := s2.heap.push { cls := .type "list", data := .seq ([] : List Value).toArray } } := I2.JQ (t' := s2.toks) (ys := []) (its := []) .nil (Ĕ _)
 refine ő S.n_ (by intro y hy; simp at hy) (λ Ł hn I_ => ?_) S.kind
 generalize IH : ({ s2 with heap := s2.heap.push { cls := .type "list", data := .seq ([] : List Value).toArray } } : Shared) = s3 at I3 hn I_ ⊢
 have Bk : ∀ b ∈ fp, bK X pins (ak H2 s2.heap.objs.size (.lst [])) b /\ b < s3.heap.objs.size := λ b hb => by
  obtain ⟨o, ho, _⟩ := T.obj _ _ Is b hb;have hl := Æ ho;have K9 : b ≠ s2.heap.objs.size := Í hl;obtain ⟨z1, z2⟩ := f2 b hb;refine ⟨⟨by rw [ag K9]; exact z1, z2⟩, ?_⟩
  rw [<- IH];show b < (s2.heap.push _).objs.size;rw [ö];exact Į hl
 have old : ∀ b o, s3.heap.get? b = some o -> Ł.get? b = some o := λ b o e => I_.extBut b o (Í (Æ e)) (Á _ e);have loop : ∀ sS : Shared, sS.heap = Ł -> sS.os = s3.os -> sS.gens = s3.gens -> codeAny (model X.prog X.w) X.A (.compLoop (.ListComp elt [⟨tg, iter, [], 0⟩] sc pos) 0 (.ref it) (.ref s2.heap.objs.size) (compEnvC sc cl s3.heap.objs.size X.env))
   (compPost (model X.prog X.w) X.A X.xe none (EP X pins σ Q) (.ref s2.heap.objs.size) s3.heap.objs.size) sS := by
  intro sS eh eo eg;subst eh;have J0 : Inv (ay X sc cl (ts ++ zs) s3 (ak H2 s2.heap.objs.size (.lst [])) s3.heap.objs.size fp) [] (List.replicate ts.length none ++ bA js σ) (ak H2 s2.heap.objs.size (.lst [])) sS := cK I3 S Bk (Ä _) eo eg old hn;generalize hX : ay X sc cl (ts ++ zs) s3 (ak H2 s2.heap.objs.size (.lst [])) s3.heap.objs.size fp = X' at J0;have ş : ∀ {H' : Hp}, (∀ b ∈ fp, H' b = none) -> ∀ b ∈ fp, bK X' [] H' b := λ {H'} hn b hb => by
   subst hX;obtain ⟨⟨_, z1, z2, z3, z4, z5⟩, z6⟩ := Bk b hb;refine ⟨hn b hb, Í z6, λ q => ?_, .inl hb, λ y c e => z4 y c (S.sub _ _ e), λ p hp => absurd (show p ∈ ([] : List (Addr × Obj)) from hp) (by simp)⟩
   rcases Ñ.mp (I3.Ū b q) with e | e
   ·exact z1 e
   ·exact z2 e
  have J1 : tn 0 sS.heap := T.keep _ _ _ Is λ b hb o e => old b o (by rw [<- IH]; exact Á _ e)
  refine gy (λ n s' => ∃ i ys os H', os.length = ts.length /\ Inv X' [] (os ++ bA js σ) H' s' /\ tn i s'.heap /\ (∀ b ∈ fp, H' b = none) /\ W i n ys H') ?_ m0 ⟨0, [], _, _, ø, J0, J1, λ b hb => (Bk b hb).1.1, w0⟩;rintro n s' ⟨i, ys, os, H', ř, Iv, st, fr, w⟩;obtain ⟨hD, alt⟩ := turn i n ys H' w;have eP : X'.prog = X.prog := by subst hX; rfl
  have eW : X'.w = X.w := by subst hX; rfl
  have eK : X'.K = X.K := by subst hX; rfl
  have eC : X'.calm = true := by subst hX; exact hc
  have eA : X'.A = X.A := by subst hX; rfl
  have eE : X'.env = compEnvC sc cl s3.heap.objs.size X.env := by subst hX; rfl
  have eX : X'.xe = λ _ _ => False := by subst hX; rfl
  rcases alt with ⟨stop, q⟩ | ⟨go, ŋ, step⟩
  ·have d := T.done X' eP eW eK eC i [] s' _ H' (λ _ _ => False) Iv (ş fr) st stop;rw [eA] at d;refine aA d λ r s4 ⟨hr, I4⟩ => ?_;subst hr;obtain ⟨m, hm, _⟩ := id I4.loc;rw [eE] at hm;subst hX;exact ⟨m, hm, λ h' Ky => ⟨.ref s2.heap.objs.size, H', eR I3 Bk (Ä _) I4 Ky, rfl, q⟩⟩
  ·have d := T.item X' eP eW eK eC i [] s' _ H' (λ _ _ => False) Iv (ş fr) st go;rw [eA] at d;refine aA d λ r s4 ⟨u, hr, h4⟩ => ?_;subst hr;refine aA h4 λ _ s5 ⟨y, H5, I5, r5, y5, w_, KF⟩ => ?_;have KI := I5.pinned (ş KF) (T.obj _ _ w_);have ML : PG X' tg g := by subst hX; exact hg _ _ _ _
   have g6 := ML _ s5 _ H5 y u _ KI r5 (step y H5 y5 os ř);rw [eP, eW, eA, eE, eX] at g6;refine aA g6 λ _ s6 ⟨LK, H6, I6, ⟨ū, IY, e6⟩, Mo⟩ => ?_;subst e6;have KR : PE X' elt te := by subst hX; exact he _ _ _ _
   have g7 := KR _ s6 _ H6 _ I6 Mo;rw [eP, eW, eA, eE, eX] at g7;refine aA g7 λ uv s7 ⟨v7, H7, I7, r7, MQ, m', Ic, w7⟩ => ?_;have g8 := (bS (X := X')) _ s7 _ H7 (.ref s2.heap.objs.size) [v7] (.ref s2.heap.objs.size) [uv] (λ _ H8 => H8 = ak H7 s2.heap.objs.size (.lst (ys ++ [v7]))) I7 rfl (.cons r7 .nil) ⟨_, ys, v7, rfl, rfl, MQ, ŋ, rfl⟩;rw [eP, eW, eA, eX] at g8;refine aA g8 λ _ s8 ⟨_, H8, I8, _, e8⟩ => ?_;subst e8;refine ⟨m', Ic, i + 1, ys ++ [v7], ū, _, IY, I8.ņ, T.keep _ _ _ w_ λ b hb o e => (I8.pin (b, o) (È _ (È _ (aK hb e)))).1, λ b hb => ?_, w7⟩;obtain ⟨o', e', _⟩ := T.obj _ _ w_ b hb;exact (I8.pin (b, o') (È _ (È _ (aK hb e')))).2.1
 have Kg : tn 0 Ł := T.keep _ _ _ Is λ b hb o e => old b o (by rw [<- IH]; exact Á _ e)
 exact Ŭ (loop _ rfl rfl rfl) (T.self _ 0 _ _ _ Kg (loop _ rfl rfl rfl))
end
section
variable {X : Cx} {sc : Scope} {cl : List (Str × Addr)} {ts zs : List Str} {js : List Nat} {elt iter c : Expr} {pos : Pos} {tg : Expr} {g : TG} {wi : TI} {te : TE} {tt : TT}
theorem eJ (hc : X.calm = true) (S : aW X sc cl ts zs js) (hi : PI X tg iter wi) (hg : ∀ s H C fp, PG (ay X sc cl (ts ++ zs) s H C fp) tg g) (ht : ∀ s H C fp, PT (ay X sc cl (ts ++ zs) s H C fp) c tt) (he : ∀ s H C fp, PE (ay X sc cl (ts ++ zs) s H C fp) elt te)
  (hs : ∀ v, foldedSetIterable iter X.env v = pure v := by intro _; rfl) : PE X (.ListComp elt [⟨tg, iter, [c], 0⟩] sc pos) (fo wi ts.length js g tt te) := by
 intro pins s σ H Q I h;rw [eval_ListComp];refine Ĵ (use := none) rfl hs S.Iw S.kind S.names (aA (hi pins s σ H _ I h) λ v s1 h1 => aA h1 λ MD s2 h2 => ?_);obtain ⟨it, fp, tn, J, H2, e, I2, T, Is, f2, body⟩ := h2;subst e;have Lu : H2 s2.heap.objs.size = none := I2.fresh;obtain ⟨W, ⟨m0, w0⟩, turn⟩ := body _ Lu;refine â ?_;have I3 : Inv X pins σ (ak H2 s2.heap.objs.size (.lst [])) { s2 with heap := s2.heap.push { cls := .type "list", data := .seq ([] : List Value).toArray } } := I2.JQ (t' := s2.toks) (ys := []) (its := []) .nil (Ĕ _)
 refine ő S.n_ (by intro y hy; simp at hy) (λ Ł hn I_ => ?_) S.kind
 generalize IH : ({ s2 with heap := s2.heap.push { cls := .type "list", data := .seq ([] : List Value).toArray } } : Shared) = s3 at I3 hn I_ ⊢
 have Bk : ∀ b ∈ fp, bK X pins (ak H2 s2.heap.objs.size (.lst [])) b /\ b < s3.heap.objs.size := λ b hb => by
  obtain ⟨o, ho, _⟩ := T.obj _ _ Is b hb;have hl := Æ ho;have K9 : b ≠ s2.heap.objs.size := Í hl;obtain ⟨z1, z2⟩ := f2 b hb;refine ⟨⟨by rw [ag K9]; exact z1, z2⟩, ?_⟩
  rw [<- IH];show b < (s2.heap.push _).objs.size;rw [ö];exact Į hl
 have old : ∀ b o, s3.heap.get? b = some o -> Ł.get? b = some o := λ b o e => I_.extBut b o (Í (Æ e)) (Á _ e);have loop : ∀ sS : Shared, sS.heap = Ł -> sS.os = s3.os -> sS.gens = s3.gens -> codeAny (model X.prog X.w) X.A (.compLoop (.ListComp elt [⟨tg, iter, [c], 0⟩] sc pos) 0 (.ref it) (.ref s2.heap.objs.size) (compEnvC sc cl s3.heap.objs.size X.env))
   (compPost (model X.prog X.w) X.A X.xe none (EP X pins σ Q) (.ref s2.heap.objs.size) s3.heap.objs.size) sS := by
  intro sS eh eo eg;subst eh;have J0 : Inv (ay X sc cl (ts ++ zs) s3 (ak H2 s2.heap.objs.size (.lst [])) s3.heap.objs.size fp) [] (List.replicate ts.length none ++ bA js σ) (ak H2 s2.heap.objs.size (.lst [])) sS := cK I3 S Bk (Ä _) eo eg old hn;generalize hX : ay X sc cl (ts ++ zs) s3 (ak H2 s2.heap.objs.size (.lst [])) s3.heap.objs.size fp = X' at J0;have ş : ∀ {H' : Hp}, (∀ b ∈ fp, H' b = none) -> ∀ b ∈ fp, bK X' [] H' b := λ {H'} hn b hb => by
   subst hX;obtain ⟨⟨_, z1, z2, z3, z4, z5⟩, z6⟩ := Bk b hb;refine ⟨hn b hb, Í z6, λ q => ?_, .inl hb, λ y c e => z4 y c (S.sub _ _ e), λ p hp => absurd (show p ∈ ([] : List (Addr × Obj)) from hp) (by simp)⟩
   rcases Ñ.mp (I3.Ū b q) with e | e
   ·exact z1 e
   ·exact z2 e
  have J1 : tn 0 sS.heap := T.keep _ _ _ Is λ b hb o e => old b o (by rw [<- IH]; exact Á _ e)
  refine n8 (λ n s' => ∃ i ys os H', os.length = ts.length /\ Inv X' [] (os ++ bA js σ) H' s' /\ tn i s'.heap /\ (∀ b ∈ fp, H' b = none) /\ W i n ys H') ?_ m0 ⟨0, [], _, _, ø, J0, J1, λ b hb => (Bk b hb).1.1, w0⟩;rintro n s' ⟨i, ys, os, H', ř, Iv, st, fr, w⟩;obtain ⟨hD, alt⟩ := turn i n ys H' w;have eP : X'.prog = X.prog := by subst hX; rfl
  have eW : X'.w = X.w := by subst hX; rfl
  have eK : X'.K = X.K := by subst hX; rfl
  have eC : X'.calm = true := by subst hX; exact hc
  have eA : X'.A = X.A := by subst hX; rfl
  have eE : X'.env = compEnvC sc cl s3.heap.objs.size X.env := by subst hX; rfl
  have eX : X'.xe = λ _ _ => False := by subst hX; rfl
  rcases alt with ⟨stop, q⟩ | ⟨go, ŋ, step⟩
  ·have d := T.done X' eP eW eK eC i [] s' _ H' (λ _ _ => False) Iv (ş fr) st stop;rw [eA] at d;refine aA d λ r s4 ⟨hr, I4⟩ => ?_;subst hr;obtain ⟨m, hm, _⟩ := id I4.loc;rw [eE] at hm;subst hX;exact ⟨m, hm, λ h' Ky => ⟨.ref s2.heap.objs.size, H', eR I3 Bk (Ä _) I4 Ky, rfl, q⟩⟩
  ·have d := T.item X' eP eW eK eC i [] s' _ H' (λ _ _ => False) Iv (ş fr) st go;rw [eA] at d;refine aA d λ r s4 ⟨u, hr, h4⟩ => ?_;subst hr;refine aA h4 λ _ s5 ⟨y, H5, I5, r5, y5, w_, KF⟩ => ?_;have KI := I5.pinned (ş KF) (T.obj _ _ w_);have ML : PG X' tg g := by subst hX; exact hg _ _ _ _
   have g6 := ML _ s5 _ H5 y u _ KI r5 (step y H5 y5 os ř);rw [eP, eW, eA, eE, eX] at g6;refine aA g6 λ _ s6 ⟨LK, H6, I6, ⟨ū, IY, e6⟩, Mo⟩ => ?_;subst e6;have PP : PT X' c tt := by subst hX; exact ht _ _ _ _
   have g0 := PP _ s6 _ H6 _ I6 Mo;rw [eP, eW, eA, eE, eX] at g0;refine aA g0 λ k sk ⟨Hk, Ik, qk⟩ => ?_;cases k with
   | false =>
    obtain ⟨m', Ic, w7⟩ := qk.1 rfl;refine ⟨λ _ => ?_, λ z => nomatch z⟩;refine ⟨m', Ic, i + 1, ys, ū, _, IY, Ik.ņ, T.keep _ _ _ w_ λ b hb o e => (Ik.pin (b, o) (È _ (È _ (aK hb e)))).1, λ b hb => ?_, w7⟩;obtain ⟨o', e', _⟩ := T.obj _ _ w_ b hb;exact (Ik.pin (b, o') (È _ (È _ (aK hb e')))).2.1
   | true =>
   refine ⟨λ z => (nomatch z), λ _ => ?_⟩;have KR : PE X' elt te := by subst hX; exact he _ _ _ _
   have g7 := KR _ sk _ Hk _ Ik (qk.2 rfl);rw [eP, eW, eA, eE, eX] at g7;refine aA g7 λ uv s7 ⟨v7, H7, I7, r7, MQ, m', Ic, w7⟩ => ?_;have g8 := (bS (X := X')) _ s7 _ H7 (.ref s2.heap.objs.size) [v7] (.ref s2.heap.objs.size) [uv] (λ _ H8 => H8 = ak H7 s2.heap.objs.size (.lst (ys ++ [v7]))) I7 rfl (.cons r7 .nil) ⟨_, ys, v7, rfl, rfl, MQ, ŋ, rfl⟩;rw [eP, eW, eA, eX] at g8;refine aA g8 λ _ s8 ⟨_, H8, I8, _, e8⟩ => ?_;subst e8;refine ⟨m', Ic, i + 1, ys ++ [v7], ū, _, IY, I8.ņ, T.keep _ _ _ w_ λ b hb o e => (I8.pin (b, o) (È _ (È _ (aK hb e)))).1, λ b hb => ?_, w7⟩;obtain ⟨o', e', _⟩ := T.obj _ _ w_ b hb;exact (I8.pin (b, o') (È _ (È _ (aK hb e')))).2.1
 have Kg : tn 0 Ł := T.keep _ _ _ Is λ b hb o e => old b o (by rw [<- IH]; exact Á _ e)
 exact Ŭ (loop _ rfl rfl rfl) (T.self _ 0 _ _ _ Kg (loop _ rfl rfl rfl))
end
end My
namespace My
open PySem L2
open PySem.Builtin.Str (occurrences partsBetween strSub)
def HR (c : Nat) : Bool := decide (48 <= c) && decide (c <= 57)
def CG (L : List Nat) : Bool := !L.isEmpty && !(L.head? == some 48 && L != [48]) && L.all HR
abbrev cs (z : Str) : List Nat := z.cps.toList
abbrev val (L : List Nat) : Nat := NumText.digitsVal L
def HG (a b : List Nat) : Bool := CG a && CG b && decide (2 <= val b) && decide (1 <= val a) && decide (val a < val b) && decide (Nat.gcd (val a) (val b) = 1)
def rd (z : Str) : Option (Nat × Nat) :=
 if z = "0" then some (0, 1) else if z = "1" then some (1, 1) else
  match Txt.split z ⟨#[47]⟩ with
  | [a, b] => if HG (cs a) (cs b) = true then some (val (cs a), val (cs b)) else none
  | _ => none
abbrev tx (n : Nat) : Str := Str.ofString (toString ((n : Nat) : Int))
end My
namespace My
open PySem PySem.W L2
theorem hG {A B : Prop} (h : A) : if true = true then A else B := by rw [Õ rfl]; exact h
theorem dA {A B : Prop} (h : B) : if false = true then A else B := by rw [Ë am]; exact h
def Ext (H H' : Hp) : Prop := ∀ b o, H b = some o -> H' b = some o
theorem Ext.refl (H : Hp) : Ext H H := λ _ _ h => h
theorem Ext.trans {H H1 H2 : Hp} (a : Ext H H1) (b : Ext H1 H2) : Ext H H2 := λ x o h => b x o (a x o h)
theorem Ext.new {H : Hp} {p : Addr} {o : HO} (h : H p = none) : Ext H (ak H p o) := λ b u e => by rw [ag (aN e h)]; exact e
theorem ĕ.ext {K : Frag} {H H' : Hp} {p : Addr} {xs : List V} (h : ĕ K H p xs) (e : Ext H H') : ĕ K H' p xs := by
 rcases h with h | h
 ·left;rcases h with h | ⟨o, h⟩
  ·exact .inl (e _ _ h)
  ·exact .inr ⟨o, e _ _ h⟩
 ·exact .inr h
theorem û.ext {K : Frag} {H H' : Hp} {s : Addr} {xs : List V} (h : û K H s xs) (x : Ext H H') : û K H' s xs := by
 rcases h with h | h
 ·rcases h with h | ⟨o, h⟩
  ·exact .inl (.inl (x _ _ h))
  ·exact .inl (.inr ⟨o, x _ _ h⟩)
 ·exact .inr h
theorem fW {X : Cx} {x : Str} {n : String} {pos : Pos} (hg : Gl X x) (hm : X.mg x = none) (hv : bootBuiltins x = some (.type n)) (hn : x ≠ "__name__" := by decide +kernel) (hd : (x == ("__debug__" : Str)) = false := by decide) : PE X (.Name x pos) (tC (.ty n)) :=
 wD hg hm hv (show RelV (.ty n) (.type n) from rfl) hn hd
def Kd (K : Frag) (H : Hp) (x : V) (t : Value) : Prop := fZ K H x t \/ (∃ p xs, x = .ref p /\ ĕ K H p xs /\ t = .type "tuple") \/ (∃ a C, x = .ref a /\ KJ H a C /\ ky K C /\ t = .ref C)
def Fc (K : Frag) : List V -> Hp -> VK -> Prop := λ vs H Q => ∃ x n t b, vs = [x, .ty n] /\ Kd K H x t /\ kitOne K t (.type n) = some b /\ Q (.bl b) H
theorem bI {X : Cx} (N : uq X.K) : bv X (.builtin "isinstance") (Fc X.K) := by
 intro pins s σ H xs us Q I r h;obtain ⟨x, n, t, b, rfl, kd, e, q⟩ := h;obtain ⟨u, u', rfl, ru, Nz⟩ := jx r;cases (show u' = Value.type n from Nz);rcases kd with ty | ⟨p, ys, rfl, hq, rfl⟩ | ⟨a, C, rfl, ea, T, rfl⟩
 ·exact qE I ru ty e λ tk => ⟨.bl b, H, I.tok _, rfl, q⟩
 ·cases (show u = Value.ref p from ru);obtain ⟨its, _, ⟨o, h1, h2, _⟩, _⟩ := I.tuple hq;exact kia_one kitx_tuple I.Ε ⟨o, h1, h2⟩ e (λ z => nomatch z) λ tk => ⟨.bl b, H, I.tok _, rfl, q⟩
 ·cases (show u = Value.ref a from ru);exact kia_one (rN T N.gt N.tk) I.Ε (ea.inst I.Ą) e (λ z => nomatch z) λ tk => ⟨.bl b, H, I.tok _, rfl, q⟩
def Dq (K : Frag) (H : Hp) (x : V) : Prop := (∀ i, x ≠ .int i) /\ ∃ t b1 b2, Kd K H x t /\ kitOne K t (.type "int") = some b1 /\ kitOne K t (.type "bool") = some b2 /\ (b1 && !b2) = false
def Th (K : Frag) (H : Hp) (x : V) : Prop := (∃ i, x = .int i) \/ Dq K H x
def AT : V -> Bool
 | .int _ => true
 | _ => false
def Kt (lo hi : Int) : V -> Bool
 | .int i => decide (lo <= i) && decide (i <= hi)
 | _ => false
theorem kj {x : V} (h : ∀ i, x ≠ .int i) : AT x = false := by
 cases x with
 | int i => exact absurd rfl (h i)
 | _ => rfl
theorem zS {lo hi : Int} {x : V} (h : ∀ i, x ≠ .int i) : Kt lo hi x = false := by
 cases x with
 | int i => exact absurd rfl (h i)
 | _ => rfl
section
variable {P : Program} {w : World} {K : Frag} {mg : bu} {base : Heap}
theorem Em : kitOne K (.type "int") (.type "int") = some true := rfl
theorem Fu : kitOne K (.type "int") (.type "bool") = some false := rfl
end
set_option exponentiation.threshold 10000
def vt : Key -> PyData
 | .inl i => .int i
 | .inr x => .str x
 | .Ė => .none
mutual
inductive İ (G : Hp) : V -> PyData -> Prop
 | Ė : İ G .Ė .none
 | bl (b : Bool) : İ G (.bl b) (.bool b)
 | int (i : Int) : İ G (.int i) (.int i)
 | str (x : Str) : İ G (.str x) (.str x)
 | lst {a : Addr} {xs : List V} {ds : List PyData} : G a = some (.lst xs) -> è G xs ds -> İ G (.ref a) (.list ds)
 | tup {a : Addr} {xs : List V} {ds : List PyData} : G a = some (.tup xs) -> è G xs ds -> İ G (.ref a) (.tuple ds)
 | Ÿ {a : Addr} : G a = some (.dK []) -> İ G (.ref a) (.dict [])
 | ID {a : Addr} {k : Key} {v : V} {d : PyData} : G a = some (.dK [(k, v)]) -> İ G v d -> İ G (.ref a) (.dict [(vt k, d)])
inductive è (G : Hp) : List V -> List PyData -> Prop
 | nil : è G [] []
 | cons {v : V} {vs : List V} {d : PyData} {ds : List PyData} : İ G v d -> è G vs ds -> è G (v :: vs) (d :: ds)
end
mutual
theorem İ.mono {G G' : Hp} (s : Ext G G') : ∀ {v : V} {d : PyData}, İ G v d -> İ G' v d
 | _, _, .Ė => .Ė
 | _, _, .bl b => .bl b
 | _, _, .int i => .int i
 | _, _, .str x => .str x
 | _, _, .lst e r => .lst (s _ _ e) (è.mono s r)
 | _, _, .tup e r => .tup (s _ _ e) (è.mono s r)
 | _, _, .Ÿ e => .Ÿ (s _ _ e)
 | _, _, .ID e r => .ID (s _ _ e) (İ.mono s r)
theorem è.mono {G G' : Hp} (s : Ext G G') : ∀ {vs : List V} {ds : List PyData}, è G vs ds -> è G' vs ds
 | _, _, .nil => .nil
 | _, _, .cons r t => .cons (İ.mono s r) (è.mono s t)
end
theorem è.length {G : Hp} : ∀ {vs : List V} {ds : List PyData}, è G vs ds -> vs.length = ds.length
 | _, _, .nil => rfl
 | _, _, .cons _ t => by rw [Ü, Ü, t.length]
theorem è.append {G : Hp} : ∀ {vs ws : List V} {ds es : List PyData}, è G vs ds -> è G ws es -> è G (vs ++ ws) (ds ++ es)
 | _, _, _, _, .nil, s => s
 | _, _, _, _, .cons r t, s => .cons r (t.append s)
section
variable {P : Program} {w : World} {H : Hp} {h : Heap}
theorem qr {k : Key} {u : Value} (r : (aG P w).is k u = true) : Reads h u (vt k) [] := by
 rw [iM] at r;rcases aE r with ⟨i, t, rfl, rfl⟩ | ⟨x, t, rfl, rfl⟩ | ⟨rfl, rfl⟩
 ·exact .int i t
 ·exact .str x t
 ·exact .none
theorem yS {es : List DictEntry} (ps : Pairs (aG P w) es ([] : List (Key × Value))) : es = [] := by
 cases ps;rfl
theorem y9 {es : List DictEntry} {k : Key} {u : Value} (ps : Pairs (aG P w) es [(k, u)]) : ∃ e, es = [e] /\ (aG P w).is k e.key = true /\ e.val = u := by
 cases ps with
 | cons h1 h2 h3 =>
  cases h3;exact ⟨_, rfl, h1, h2⟩
mutual
theorem jc (ok : Ų P w H h) (z : H sysModules = none) : ∀ {v : V} {d : PyData} {u : Value}, İ H v d -> RelV v u -> ∃ as, Reads h u d as /\ sysModules ∉ as
 | _, _, _, .Ė, r => by cases r; exact ⟨[], .none, by simp⟩
 | _, _, _, .bl b, r => by cases r; exact ⟨[], .bool b, by simp⟩
 | _, _, _, .int i, r => by obtain ⟨t, rfl⟩ := r; exact ⟨[], .int i t, by simp⟩
 | _, _, _, .str x, r => by obtain ⟨t, rfl⟩ := r; exact ⟨[], .str x t, by simp⟩
 | _, _, _, .lst (a := a) e t, r => by
  cases r;obtain ⟨_, its, n, rv, ho⟩ := (show ù P w H h _ (.lst _) from ok _ _ e);obtain ⟨as, ra, na⟩ := Ν ok z t rv;refine ⟨a :: as, .list ho rfl rfl (by simpa using ra), ?_⟩
  intro m;rcases Ñ.mp m with m | m
  ·rw [<- m, z] at e; cases e
  ·exact na m
 | _, _, _, .tup (a := a) e t, r => by
  cases r;obtain ⟨_, its, rv, o, ho, hc, n, hd⟩ := (show ù P w H h _ (.tup _) from ok _ _ e);obtain ⟨as, ra, na⟩ := Ν ok z t rv;exact ⟨as, .tuple ho hc hd (by simpa using ra), na⟩
 | _, _, _, .Ÿ (a := a) e, r => by
  cases r;obtain ⟨_, hs, vs, kv, o, es, ep, ho, hx, hd, Vj, PV, Vd⟩ := (show ù P w H h _ (.dK _) from ok _ _ e);cases kv;have ee : es.toList = [] := yS PV;refine ⟨a :: [] ++ [], .dict (kvs := []) ho hx.1 hd (by rw [ee]; exact .nil) (by rw [ee]; exact .nil), ?_⟩
  intro m;have m' : sysModules = a := by simpa using m
  rw [<- m', z] at e; cases e
 | _, _, _, .ID (a := a) (k := k) e t, r => by
  cases r;obtain ⟨_, hs, vs, kv, o, es, ep, ho, hx, hd, Vj, PV, Vd⟩ := (show ù P w H h _ (.dK _) from ok _ _ e);cases kv with
  | cons q q' =>
   cases q';obtain ⟨U_, K7⟩ := q;obtain ⟨e0, ee, ek, ev⟩ := y9 PV;rw [<- ev] at K7;rw [<- U_] at ek;obtain ⟨as, ra, na⟩ := jc ok z t K7;have rk : ReadsAll h [e0.key] [vt k] ([] ++ []) := .cons (qr ek) .nil;have rv : ReadsAll h [e0.val] [_] (as ++ []) := .cons ra .nil;refine ⟨a :: ([] ++ []) ++ (as ++ []), .dict (kvs := [(vt k, _)]) ho hx.1 hd (by rw [ee]; exact rk) (by rw [ee]; exact rv), ?_⟩
   intro m;rw [ü, ü] at m;rcases Ñ.mp m with m | m
   ·rw [<- m, z] at e; cases e
   ·exact na (by simpa using m)
theorem Ν (ok : Ų P w H h) (z : H sysModules = none) : ∀ {vs : List V} {ds : List PyData} {us : List Value}, è H vs ds -> Vals vs us -> ∃ as, ReadsAll h us ds as /\ sysModules ∉ as
 | _, _, _, .nil, r => by cases r; exact ⟨[], .nil, by simp⟩
 | _, _, _, .cons r t, rv => by
  cases rv with
  | cons q qs =>
   obtain ⟨as, ra, na⟩ := jc ok z r q;obtain ⟨bs, rb, nb⟩ := Ν ok z t qs;refine ⟨as ++ bs, .cons ra rb, λ m => ?_⟩;rcases Ŗ.mp m with m | m
   ·exact na m
   ·exact nb m
end
end
structure qW (d : PyData) : Prop where
 sh : d.showable = true
 dp : d.depth <= 10
 sz : d.shown.length <= sizeLine
section
variable {X : Cx}
def pN : List V -> Hp -> VK -> Prop := λ vs H Q => ∃ v d, vs = [v] /\ İ H v d /\ qW d /\ Q (.str d.shown) H
theorem eM (hz : X.Ju sysModules = none) (hg : X.A.guards = some []) (hu : X.A.units + 64 < cLine) : bv X (.builtin "repr") pN := by
 intro pins s σ H xs us Q I r h;obtain ⟨v, d, rfl, rd, sw, q⟩ := h;have z : H sysModules = none := I.base.sys hz;obtain ⟨u, rfl, ru⟩ := ck r;have big : ∀ a, u = Value.ref a -> wpAny (model X.prog X.w) X.A (call (.builtin "repr") [u]) (EP X pins σ Q) X.xe s := λ a e => by
  obtain ⟨as, rr, na⟩ := jc I.Ą z rd ru;subst e;have hd := sw.dp;exact repr_of_reads' (h₀ := s.heap) rr sw.sh (λ _ => na) hg af (λ _ _ e => e) (λ h' u tk hk => ⟨.str d.shown, H, I.kept (h' := h') (t' := tk) hk, ⟨u, rfl⟩, q⟩) sw.sz
 cases rd with
 | Ė => cases ru; exact PySem.P.repr_of_none ⟨.str _, H, I.tok _, ⟨_, rfl⟩, q⟩
 | bl b => cases ru; cases b <;> exact PySem.P.repr_of_bool ⟨.str _, H, I.tok _, ⟨_, rfl⟩, q⟩
 | int i =>
  obtain ⟨t, rfl⟩ := ru;exact PySem.P.repr_of_int (by have h := sw.sh; simpa only [PyData.showable, decide_eq_true_eq] using h) ⟨.str _, H, I.tok _, ⟨_, rfl⟩, q⟩
 | str x =>
  obtain ⟨t, rfl⟩ := ru;exact PySem.P.repr_of_str ⟨.str _, H, I.tok _, ⟨_, rfl⟩, q⟩ sw.sz
 | lst e t => exact big _ ru
 | tup e t => exact big _ ru
 | Ÿ e => exact big _ ru
 | ID e t => exact big _ ru
end
def jn : PyData -> String
 | .none => "NoneType"
 | .bool _ => "bool"
 | .int _ => "int"
 | .str _ => "str"
 | .list _ => "list"
 | .tuple _ => "tuple"
 | _ => "dict"
def zL : PyData -> Bool
 | .tuple _ => true
 | _ => false
def AY : PyData -> Bool
 | .list _ => true
 | _ => false
def wB : PyData -> Bool
 | .bool _ => true
 | _ => false
def dB (lo hi : Int) : PyData -> Bool
 | .int i => decide (lo <= i) && decide (i <= hi)
 | _ => false
section
variable {K : Frag} {H : Hp} {v : V} {d : PyData}
theorem İ.ty (r : İ H v d) : fZ K H v (.type (jn d)) := by
 cases r with
 | Ė => exact .Ė
 | bl b => exact .bl b
 | int i => exact .int i
 | str x => exact .str x
 | lst e _ => exact .lst e
 | tup e _ => exact .tup e
 | Ÿ e => exact .dK e
 | ID e _ => exact .dK e
theorem İ.kd (r : İ H v d) : Kd K H v (.type (jn d)) := .inl r.ty
theorem İ.RE (r : İ H v d) : kitOne K (.type (jn d)) (.type "tuple") = some (zL d) := by cases r <;> rfl
theorem İ.UW (r : İ H v d) : kitOne K (.type (jn d)) (.type "list") = some (AY d) := by cases r <;> rfl
theorem İ.RF (r : İ H v d) : kitOne K (.type (jn d)) (.type "bool") = some (wB d) := by cases r <;> rfl
theorem İ.th (r : İ H v d) : Th K H v := by
 cases r with
 | int i => exact .inl ⟨i, rfl⟩
 | Ė => exact .inr ⟨λ i z => (by cases z), _, _, _, .inl .Ė, rfl, rfl, rfl⟩
 | bl b => exact .inr ⟨λ i z => (by cases z), _, _, _, .inl (.bl b), rfl, rfl, rfl⟩
 | str x => exact .inr ⟨λ i z => (by cases z), _, _, _, .inl (.str x), rfl, rfl, rfl⟩
 | lst e _ => exact .inr ⟨λ i z => (by cases z), _, _, _, .inl (.lst e), rfl, rfl, rfl⟩
 | tup e _ => exact .inr ⟨λ i z => (by cases z), _, _, _, .inl (.tup e), rfl, rfl, rfl⟩
 | Ÿ e => exact .inr ⟨λ i z => (by cases z), _, _, _, .inl (.dK e), rfl, rfl, rfl⟩
 | ID e _ => exact .inr ⟨λ i z => (by cases z), _, _, _, .inl (.dK e), rfl, rfl, rfl⟩
theorem İ.Kt (r : İ H v d) (lo hi : Int) : My.Kt lo hi v = dB lo hi d := by cases r <;> rfl
theorem fY (r : İ H v (.tuple ds)) : ∃ a xs, v = .ref a /\ H a = some (.tup xs) /\ è H xs ds := by
 cases r with
 | tup e t => exact ⟨_, _, rfl, e, t⟩
theorem oV (r : İ H v (.list ds)) : ∃ a xs, v = .ref a /\ H a = some (.lst xs) /\ è H xs ds := by
 cases r with
 | lst e t => exact ⟨_, _, rfl, e, t⟩
theorem è.get {xs : List V} {ds : List PyData} (r : è H xs ds) : ∀ {i : Nat} {x : V}, xs[i]? = some x -> ∃ d, ds[i]? = some d /\ İ H x d := by
 induction xs generalizing ds with
 | nil => intro i x h; simp at h
 | cons y ys ih =>
  cases r with
  | cons q t =>
   intro i x h;cases i with
   | zero => cases h; exact ⟨_, rfl, q⟩
   | succ i => exact ih t h
end
end My
namespace My
open PySem L2
structure Bx (p : Prop) : Prop where
 h : p
section
variable {X : Cx} {e a b : Expr} {es : List Expr} {te ta tb : TE} {t : TA} {pos : Pos} {st : Stmt} {rest : List Stmt} {ts u v : TS}
theorem cI : Bx (PA X [] aC) := ⟨ap⟩
theorem dX (ha : Bx (PE X e te)) (hr : Bx (PA X es t)) (hs : starEach (e :: es) X.env = (false, eval e X.env) :: starEach es X.env := by rfl) : Bx (PA X (e :: es) (ac te t)) := ⟨ae ha.h hr.h hs⟩
theorem dF (h : Bx (PA X es t)) : Bx (PE X (.List es pos) (bC t)) := ⟨aX h.h⟩
theorem lY {r : R2} (hr : Bq X r) (ha : Bx (PE X a ta)) (hb : Bx (PE X b tb)) (hs : kT b := by exact λ _ _ => rfl) : Bx (PE X (.Subscript a b pos) (bc r ta tb)) := ⟨c6 hr ha.h hb.h hs⟩
theorem cP (h : Bx (PE X e te)) : Bx (PS X (.Return (some e) pos) (bQ te)) := ⟨cq h.h⟩
theorem aP (h : Bx (PS X st ts)) : Bx (Ο X [st] ts) := ⟨bw h.h⟩
theorem dv (h : Bx (PS X st ts)) (k : Bx (Ο X rest u)) : Bx (Ο X (st :: rest) (bL ts u)) := ⟨cv h.h k.h⟩
theorem ij {i : Nat} {x : Str} {pos' : Pos} (hN : X.N.Nodup) (hi : X.N[i]? = some x) (hx : AL X.env.scope x) (he : Bx (PE X e te)) (hs : swapsWith e (some (.Name x pos')) pos.line X.env = pure false := by rfl) (hf : X.fn x = true \/ X.env.scope.names.lookup x = some .local := by first | exact .inl rfl | exact .inr rfl | assumption) :
  Bx (PS X (.Assign [.Name x pos'] e pos) (cQ te (bf i))) := ⟨cM hN hi hx he.h hs hf⟩
end
end My
namespace My
open PySem PySem.W L2
open AutoSeq1 (wpAny_loadPart')
def xz (lo : Int) (n : Nat) : List V := (List.range n).map λ i => V.int (lo + (i : Nat))
theorem iE (lo : Int) (n : Nat) : (xz lo n).length = n := by unfold xz; simp
theorem u6 {lo : Int} {n : Nat} {acc : Array Value} (h : ItemsOf (λ i v => ∃ t, v = Value.int (lo + i * 1) t) acc n) : Vals (xz lo n) acc.toList := by
 have gen : ∀ (xs : List V) (us : List Value), xs.length = us.length -> (∀ (i : Nat) x u, xs[i]? = some x -> us[i]? = some u -> RelV x u) -> Vals xs us := by
  intro xs
  induction xs with
  | nil => intro us l _; cases us with | nil => exact .nil | cons _ _ => cases l
  | cons x xs ih =>
   intro us l g;cases us with
   | nil => cases l
   | cons u us => exact .cons (g 0 x u rfl rfl) (ih us (by simpa using l) λ i x' u' h1 h2 => g (i + 1) x' u' h1 h2)
 refine gen _ _ (by rw [iE]; simp [h.1]) λ i x u hx hu => ?_
 unfold xz at hx;rw [Ê] at hx;obtain ⟨j, hj, rfl⟩ := đ.mp hx;have ej : i = j := by
  have := Ö.mp hj
  simpa using this.2
 subst ej;obtain ⟨t, e⟩ := h.2 i u (by simpa using hu)
 refine ⟨t, ?_⟩;rw [e, ε]
section
variable {X : Cx}
def xE : List V -> Hp -> VK -> Prop := λ vs H Q => ∃ j : Int, vs = [.int j] /\ ∀ r, H r = none -> Q (.ref r) (ak H r (.LN 0 j))
theorem qM : bv X (.type "range") xE := by
 intro pins s σ H xs us Q I r h;obtain ⟨j, rfl, q⟩ := h;obtain ⟨u, rfl, t, rfl⟩ := ck r;refine call_range_1 ⟨.ref s.heap.objs.size, _, I.laid (t' := s.toks + 1 + 1) (o := .LN 0 j) (λ b o e => Á _ e) (Ä _) ?_, rfl, q _ (I.Ą.fresh (Ä _))⟩;exact ⟨_, _, _, Ç _ rfl⟩
def ya : List V -> Hp -> VK -> Prop := λ vs H Q => ∃ (p : Addr) (lo hi : Int), vs = [.ref p] /\ H p = some (.LN lo hi) /\ (-(2 ^ 62) <= lo /\ lo < 2 ^ 62 /\ -(2 ^ 62) <= hi /\ hi < 2 ^ 62) /\ (hi - lo).toNat <= 2 ^ 24 /\ ∀ l, H l = none -> Q (.ref l) (ak H l (.lst (xz lo (hi - lo).toNat)))
theorem qA (hc : X.calm = true) : bv X (.type "list") ya := by
 intro pins s σ H xs us Q I r h;obtain ⟨p, lo, hi, rfl, hp, ⟨b1, b2, b3, b4⟩, hl, q⟩ := h;obtain ⟨u, rfl, rx⟩ := ck r;cases (show u = Value.ref p from rx);obtain ⟨t, u, v, e⟩ := (show ù X.prog X.w H s.heap p (.LN lo hi) from I.Ą p _ hp);have en : Builtin.Range.rangeSize lo hi 1 = (((hi - lo).toNat : Nat) : Int) := by rw [rangeSize_one]; split <;> omega
 refine call_list_range (I.ok.hd hc) e (small_one b1 b2 b3 b4) en hl λ h' tk acc c' kp hS Qj => ?_;have ha : acc.toList.toArray = acc := by simp
 have I2 : Inv X pins σ (ak H s.heap.objs.size (.lst (xz lo (hi - lo).toNat))) { s with heap := h', toks := tk } :=
  I.laid (t' := tk) kp (Ä _) (show ù X.prog X.w _ _ _ (.lst _) from ⟨by rw [iE, Ú]; omega, acc.toList, c', u6 Qj, by rw [ha]; exact hS⟩)
 exact ⟨.ref s.heap.objs.size, _, I2, rfl, q _ (I.Ą.fresh (Ä _))⟩
end
end My
namespace My
open PySem L2
section
variable {X : Cx}
theorem jJ : ∀ (xs : List Bool), (List.range xs.length).all (λ i => xs.getD i false) = xs.all id
 | [] => rfl
 | x :: xs => by
  have ih := jJ xs;rw [Ü, Ŝ, į, k_, į, <- ih];rfl
def FQ (K : PySem.W.Frag) : List V -> Hp -> VK -> Prop := λ vs H Q => ∃ (l : Addr) (xs : List Bool), vs = [.ref l] /\ û K H l (xs.map V.bl) /\ Q (.bl (xs.all id)) H
theorem lh (hc : X.calm = true) : bv X (.builtin "all") (FQ X.K) := by
 intro pins s σ H vs us Q I r h;obtain ⟨l, xs, rfl, hl, q⟩ := h;obtain ⟨u, rfl, ru⟩ := ck r;cases (show u = Value.ref l from ru);obtain ⟨its, rv, t, hz⟩ := I.list hl;have ll : l < s.heap.objs.size := by obtain ⟨_, e, _⟩ := t.isList; exact Æ e
 have len := rv.length;rw [Å] at len;refine call_all_walk (o_ t.isList ?_);refine ⟨s.heap.objs.size, [s.heap.objs.size, l], [s.heap.objs.size], its.toArray.size, (λ i v => its.toArray[i]? = some v), _, λ i => xs.getD i false, rfl, Walks.list (A := X.A.in1) (I.ok.hd hc) s.heap.objs.size l (Í ll) its.toArray,
  ⟨⟨_, Ç _ rfl, rfl, rfl⟩, t.isList.push _⟩, λ i v s' Q' E' hv hq => ?_, λ h' tk hk => ⟨.bl _, H, I.kept (h' := h') (t' := tk) (λ b o e => hk b o (λ m => ?_) (Á _ e)), ?_, q⟩⟩
 ·have Kx : its[i]? = some v := by simpa using hv
  have lt : i < its.length := (Ö.mp Kx).1;have Ow : i < xs.length := af;obtain ⟨u1, e1, q1⟩ := rv.get (i := i) (x := V.bl xs[i]) (by rw [Ê, Ã Ow]; rfl)
  rw [Kx] at e1;cases e1;cases (show v = Value.bool xs[i] from q1);refine Ō ?_;have e : xs.getD i false = xs[i] := by simp [Ow]
  rw [<- e];exact hq
 ·rcases Ñ.mp m with e2 | m
  ·exact absurd (Æ e) (by rw [e2]; exact Ă _)
  ·cases m
 ·show Value.bool _ = Value.bool _;have e := jJ xs;rw [<- e, Ô, <- len]
theorem jQ : ∀ {xs : List V}, xs.all ff = true -> eZ xs xs = true
 | [], _ => rfl
 | x :: xs, h => by
  rw [į, ñ] at h;show (Am x x && eZ xs xs) = true;rw [rq h.1, jQ h.2];rfl
theorem ur {pins : List (Addr × Obj)} {σ : St} {H : Hp} {s : Shared} {A : Around} {p q : Addr} {xs ys : List V} (I : Inv X pins σ H s) (hu : A.units < cLine) (hp : ĕ X.K H p xs) (hq : ĕ X.K H q ys) (f1 : xs.all ff = true) (f2 : ys.all ff = true) :
  SeqAt.EqAt A s (.ref p) (.ref q) (eZ xs ys) := by
 by_cases e : p = q
 ·subst e;have := I.Ρ hp hq;subst this;rw [jQ f1];exact Φ _
 ·obtain ⟨its, r1, t1, _⟩ := I.tuple hp;obtain ⟨Š, r2, t2, _⟩ := I.tuple hq;have a := SeqAt.RcAt.tuples t1 t2 hu (wO (A := A.in1) (pins := pins) (σ := σ) (H := H) (s := s) r1 r2 f1 f2);have z := mM xs ys;rw [r1.length, r2.length] at z;rw [Ô, Ô, z] at a;exact .of_refs e a
def fT (K : PySem.W.Frag) : V -> List V -> Hp -> VK -> Prop := λ x vs H Q => ∃ (l q : Addr) (as : List (Addr × List V)) (ys : List V), x = .ref l /\ vs = [.ref q] /\ û K H l (as.map λ z => V.ref z.1) /\ (∀ z ∈ as, ĕ K H z.1 z.2 /\ z.2.all ff = true) /\ ĕ K H q ys /\ ys.all ff = true /\ Q (.int (as.countP λ z => eZ z.2 ys : Nat)) H
theorem cR (hu : X.A.units + 1 < cLine) : DX X "list.count" (fT X.K) := by
 intro pins s σ H x vs v us Q I rx rv h;obtain ⟨l, q, as, ys, rfl, rfl, hl, hz, hq, f2, k⟩ := h;cases rx;obtain ⟨u, rfl, ru⟩ := ck rv;cases (show u = Value.ref q from ru);obtain ⟨its, r, t, XA⟩ := I.list hl;obtain ⟨⟨c, dd, dt, sl⟩, h1, hc, n, hd⟩ := t.isList;replace hc : c = .type "list" := hc;replace hd : dt = .seq its.toArray n := hd;subst hc hd;have get : ∀ (i : Nat) (hi : i < its.length), ∃ z ∈ as, as[i]? = some z /\ its[i] = Value.ref z.1 := λ i hi => by
  have k1 : i < as.length := by have := r.length; rw [Å] at this; omega
  obtain ⟨u1, e1, q1⟩ := r.get (i := i) (x := V.ref as[i].1) (by rw [Ê, Ã k1]; rfl)
  rw [Ã hi] at e1;cases e1;exact ⟨as[i], ω k1, Ã k1, q1⟩
 let e : Value -> Bool := λ z => as.any λ a => z == Value.ref a.1 && eZ a.2 ys
 have ee : ∀ z ∈ as, e (Value.ref z.1) = eZ z.2 ys := λ z LR => by
  show (as.any λ a => Value.ref z.1 == Value.ref a.1 && eZ a.2 ys) = _;cases b : eZ z.2 ys with
  | true =>
   rw [List.any_eq_true];exact ⟨z, LR, by rw [b, ı]; rfl⟩
  | false =>
   rw [List.any_eq_false];intro a ha;intro c;rw [ñ] at c;have c1 : z.1 = a.1 := s_ (beq_iff_eq.mp c.1);have t1 := (hz z LR).1;have t2 := (hz a ha).1;rw [c1] at t1;have := I.Ρ t1 t2;rw [this, c.2] at b;cases b
 refine JJ F.slot_list_count ⟨_, h1, rfl⟩ F.entry_list_count (F.args_list_count_2 _ _) (SeqAt.list_countAt l its.toArray n dd sl (Value.ref q) e) ⟨h1, λ z LR => ?_, ?_⟩
 ·obtain ⟨i, hi, ez⟩ := Ż (show z ∈ its by simpa using LR)
  obtain ⟨y, hy, _, ey⟩ := get i hi;rw [ez] at ey;subst ey;rw [ee y hy];exact ur I (by show X.A.in1.units < cLine; rw [gu]; exact hu) (hz y hy).1 hq (hz y hy).2 f2
 ·refine ⟨.int _, H, I.tok _, ⟨_, rfl⟩, ?_⟩;have z : its.toArray.toList.countP e = as.countP λ z => eZ z.2 ys := by
   rw [List.toList_toArray];have gen : ∀ (bs : List (Addr × List V)) (js : List Value), (∀ z ∈ bs, z ∈ as) -> Vals (bs.map λ z => V.ref z.1) js -> js.countP e = bs.countP λ z => eZ z.2 ys := by
    intro bs
    induction bs with
    | nil =>
     intro js _ rj;cases rj;rfl
    | cons b bs ih =>
     intro js sub rj;rw [É] at rj;cases rj with
     | cons q1 rj =>
      cases (show _ = Value.ref b.1 from q1);rw [Jl, Jl, ih _ (λ z hz => sub z (Ó _ hz)) rj, ee b (sub b (Ù ..))]
   exact gen as its (λ _ h => h) r
  rw [z];exact k
end
section
variable {X : Cx} {sc : Scope} {cl : List (Str × Addr)} {ts zs : List Str} {js : List Nat} {elt iter c : Expr} {pos : Pos} {tg : Expr} {g : TG} {wi : TI} {te : TE} {tt : TT}
theorem y3 {y : Str} {py Nj : Pos} {iy : Nat} (hc : X.calm = true) (S : aW X sc cl ts zs js) (hi : PI X tg iter wi) (hg : ∀ s H C fp, PG (ay X sc cl (ts ++ zs) s H C fp) tg g) (he : ∀ s H C fp, PE (ay X sc cl (ts ++ zs) s H C fp) elt te)
  (hN : X.N.Nodup) (Vk : X.N[iy]? = some y) (hy : AL X.env.scope y) (U3 : swapsWith (.ListComp elt [⟨tg, iter, [], 0⟩] sc pos) (some (.Name y py)) Nj.line X.env = pure true)
  (hf : X.fn y = true \/ X.env.scope.names.lookup y = some .local := by first | exact .inl rfl | exact .inr rfl | assumption)
  (hs : ∀ v, foldedSetIterable iter X.env v = pure v := by intro _; rfl) : PS X (.Assign [.Name y py] (.ListComp elt [⟨tg, iter, [], 0⟩] sc pos) Nj) (cQ (fm wi ts.length js g te) (bf iy)) := by
 intro pins s σ H De I h;rw [exec_Assign_Name_used _ _ _ _ U3];refine À (ī (À ?_));show wpAny _ _ (do let _ <- comprehension (.ListComp elt [⟨tg, iter, [], 0⟩] sc pos) sc X.env _ (newList []) false (eval iter X.env) (some (assign (.Name y py) X.env))) _ _ s
 refine À (é (Ĵ (use := some (assign (.Name y py) X.env)) (Q := λ _ s' => SP X pins De .next s') rfl hs S.Iw S.kind S.names ?_) (λ _ s' hq => Â (Â hq)) λ _ _ e => e);refine (aA (hi pins s σ H _ I h) λ v s1 h1 => aA h1 λ MD s2 h2 => ?_);obtain ⟨it, fp, tn, J, H2, e, I2, T, Is, f2, body⟩ := h2;subst e;have Lu : H2 s2.heap.objs.size = none := I2.fresh;obtain ⟨W, ⟨m0, w0⟩, turn⟩ := body _ Lu;refine â ?_;have I3 : Inv X pins σ (ak H2 s2.heap.objs.size (.lst [])) { s2 with heap := s2.heap.push { cls := .type "list", data := .seq ([] : List Value).toArray } } := I2.JQ (t' := s2.toks) (ys := []) (its := []) .nil (Ĕ _)
 refine ő S.n_ (by intro y hy; simp at hy) (λ Ł hn I_ => ?_) S.kind
 generalize IH : ({ s2 with heap := s2.heap.push { cls := .type "list", data := .seq ([] : List Value).toArray } } : Shared) = s3 at I3 hn I_ ⊢
 have Bk : ∀ b ∈ fp, bK X pins (ak H2 s2.heap.objs.size (.lst [])) b /\ b < s3.heap.objs.size := λ b hb => by
  obtain ⟨o, ho, _⟩ := T.obj _ _ Is b hb;have hl := Æ ho;have K9 : b ≠ s2.heap.objs.size := Í hl;obtain ⟨z1, z2⟩ := f2 b hb;refine ⟨⟨by rw [ag K9]; exact z1, z2⟩, ?_⟩
  rw [<- IH];show b < (s2.heap.push _).objs.size;rw [ö];exact Į hl
 have old : ∀ b o, s3.heap.get? b = some o -> Ł.get? b = some o := λ b o e => I_.extBut b o (Í (Æ e)) (Á _ e);have loop : ∀ sS : Shared, sS.heap = Ł -> sS.os = s3.os -> sS.gens = s3.gens -> codeAny (model X.prog X.w) X.A (.compLoop (.ListComp elt [⟨tg, iter, [], 0⟩] sc pos) 0 (.ref it) (.ref s2.heap.objs.size) (compEnvC sc cl s3.heap.objs.size X.env))
   (compPost (model X.prog X.w) X.A X.xe (some (assign (.Name y py) X.env)) (λ _ s' => SP X pins De .next s') (.ref s2.heap.objs.size) s3.heap.objs.size) sS := by
  intro sS eh eo eg;subst eh;have J0 : Inv (ay X sc cl (ts ++ zs) s3 (ak H2 s2.heap.objs.size (.lst [])) s3.heap.objs.size fp) [] (List.replicate ts.length none ++ bA js σ) (ak H2 s2.heap.objs.size (.lst [])) sS := cK I3 S Bk (Ä _) eo eg old hn;generalize hX : ay X sc cl (ts ++ zs) s3 (ak H2 s2.heap.objs.size (.lst [])) s3.heap.objs.size fp = X' at J0;have ş : ∀ {H' : Hp}, (∀ b ∈ fp, H' b = none) -> ∀ b ∈ fp, bK X' [] H' b := λ {H'} hn b hb => by
   subst hX;obtain ⟨⟨_, z1, z2, z3, z4, z5⟩, z6⟩ := Bk b hb;refine ⟨hn b hb, Í z6, λ q => ?_, .inl hb, λ y c e => z4 y c (S.sub _ _ e), λ p hp => absurd (show p ∈ ([] : List (Addr × Obj)) from hp) (by simp)⟩
   rcases Ñ.mp (I3.Ū b q) with e | e
   ·exact z1 e
   ·exact z2 e
  have J1 : tn 0 sS.heap := T.keep _ _ _ Is λ b hb o e => old b o (by rw [<- IH]; exact Á _ e)
  refine gy (λ n s' => ∃ i ys os H', os.length = ts.length /\ Inv X' [] (os ++ bA js σ) H' s' /\ tn i s'.heap /\ (∀ b ∈ fp, H' b = none) /\ W i n ys H') ?_ m0 ⟨0, [], _, _, ø, J0, J1, λ b hb => (Bk b hb).1.1, w0⟩;rintro n s' ⟨i, ys, os, H', ř, Iv, st, fr, w⟩;obtain ⟨hD, alt⟩ := turn i n ys H' w;have eP : X'.prog = X.prog := by subst hX; rfl
  have eW : X'.w = X.w := by subst hX; rfl
  have eK : X'.K = X.K := by subst hX; rfl
  have eC : X'.calm = true := by subst hX; exact hc
  have eA : X'.A = X.A := by subst hX; rfl
  have eE : X'.env = compEnvC sc cl s3.heap.objs.size X.env := by subst hX; rfl
  have eX : X'.xe = λ _ _ => False := by subst hX; rfl
  rcases alt with ⟨stop, q⟩ | ⟨go, ŋ, step⟩
  ·have d := T.done X' eP eW eK eC i [] s' _ H' (λ _ _ => False) Iv (ş fr) st stop;rw [eA] at d;refine aA d λ r s4 ⟨hr, I4⟩ => ?_;subst hr;obtain ⟨m, hm, _⟩ := id I4.loc;have fC : H' s3.heap.objs.size = none := by
    have z := I4.free;rw [eE] at z;exact z
   rw [eE] at hm;subst hX;have I5 : Inv X pins σ H' s4 := eR (h' := s4.heap) I3 Bk (Ä _) I4 ⟨rfl, λ _ _ => rfl⟩;show wpAny _ _ (assign (.Name y py) X.env (.ref s2.heap.objs.size)) _ _ s4;have nC : ∀ b, b < s3.heap.objs.size -> b ≠ s3.heap.objs.size := λ b hb => Í hb;have nL : X.env.locals ≠ s3.heap.objs.size := nC _ I3.lt;have SN : ∀ z c, X.env.cells.lookup z = some c -> c ≠ s3.heap.objs.size := λ z c e => by
    obtain ⟨v, o, ho, _⟩ := I3.cell z c e;exact nC _ (Æ ho)
   refine wpAny_assign_Name (jE I5 hN Vk hy (v := .ref s2.heap.objs.size) rfl (λ s5 I6 hb => ?_) hf);obtain ⟨a5, TQ, Vx⟩ := hb;have Uy : s3.heap.objs.size ≠ a5 := by
    rcases Vx with e | e
    ·rw [e]; exact nL.symm
    ·exact (SN _ _ e).symm
   refine ⟨m, hm.sameBut TQ Uy, λ h' Ky => ?_⟩;have I7 : Inv X pins (σ.set iy (some (.ref s2.heap.objs.size))) H' { s5 with heap := h', toks := s5.toks } :=
    I6.turned (h' := h') (t' := s5.toks) (it := s3.heap.objs.size) (λ b o hb e => (Ky.2 b hb).trans e) fC nL.symm (.inr I3.sz) SN λ p hp => by
     obtain ⟨e1, _⟩ := I3.pin p hp;exact nC _ (Æ e1)
   exact ⟨_, H', I7, q⟩
  ·have d := T.item X' eP eW eK eC i [] s' _ H' (λ _ _ => False) Iv (ş fr) st go;rw [eA] at d;refine aA d λ r s4 ⟨u, hr, h4⟩ => ?_;subst hr;refine aA h4 λ _ s5 ⟨y, H5, I5, r5, y5, w_, KF⟩ => ?_;have KI := I5.pinned (ş KF) (T.obj _ _ w_);have ML : PG X' tg g := by subst hX; exact hg _ _ _ _
   have g6 := ML _ s5 _ H5 y u _ KI r5 (step y H5 y5 os ř);rw [eP, eW, eA, eE, eX] at g6;refine aA g6 λ _ s6 ⟨LK, H6, I6, ⟨ū, IY, e6⟩, Mo⟩ => ?_;subst e6;have KR : PE X' elt te := by subst hX; exact he _ _ _ _
   have g7 := KR _ s6 _ H6 _ I6 Mo;rw [eP, eW, eA, eE, eX] at g7;refine aA g7 λ uv s7 ⟨v7, H7, I7, r7, MQ, m', Ic, w7⟩ => ?_;have g8 := (bS (X := X')) _ s7 _ H7 (.ref s2.heap.objs.size) [v7] (.ref s2.heap.objs.size) [uv] (λ _ H8 => H8 = ak H7 s2.heap.objs.size (.lst (ys ++ [v7]))) I7 rfl (.cons r7 .nil) ⟨_, ys, v7, rfl, rfl, MQ, ŋ, rfl⟩;rw [eP, eW, eA, eX] at g8;refine aA g8 λ _ s8 ⟨_, H8, I8, _, e8⟩ => ?_;subst e8;refine ⟨m', Ic, i + 1, ys ++ [v7], ū, _, IY, I8.ņ, T.keep _ _ _ w_ λ b hb o e => (I8.pin (b, o) (È _ (È _ (aK hb e)))).1, λ b hb => ?_, w7⟩;obtain ⟨o', e', _⟩ := T.obj _ _ w_ b hb;exact (I8.pin (b, o') (È _ (È _ (aK hb e')))).2.1
 have Kg : tn 0 Ł := T.keep _ _ _ Is λ b hb o e => old b o (by rw [<- IH]; exact Á _ e)
 exact Ŭ (loop _ rfl rfl rfl) (T.self _ 0 _ _ _ Kg (loop _ rfl rfl rfl))
end
end My
namespace My
open PySem PySem.W L2
def xP (K : PySem.W.Frag) (n : Nat) (t : vH) : TG := λ v σ H Q => ∃ a xs, v = .ref a /\ û K H a xs /\ xs.length = n /\ t xs σ H Q
section
variable {X : Cx} {pos : Pos}
theorem wU {es : List Expr} {k : Nat} {t : vH} {n : Nat} (hc : X.calm = true) (h : DB X es t)
  (hn : (assignEach es X.env).length = n := by rfl) (J4 : (assignEach es X.env).findIdx? (·.1) = none := by rfl) : PG X (.Tuple es k pos) (xP X.K n t) := by
 intro pins s σ H v u Q I r hw;obtain ⟨a, xs, e1, hq, hl, hw⟩ := hw;subst e1;cases r;obtain ⟨its, rv, ht, hz⟩ := I.list hq;rw [PyProof.Rows.assign_Tuple];refine À (ī ?_);unfold unpack;rw [J4, show (assignEach es X.env).length = its.toArray.size by rw [hn, Ô, <- rv.length]; exact hl.symm]
 refine À (ä (kun_itemsOf (I.ok.hd hc) ht.isList λ h' hx => ?_));have I1 : Inv X pins σ H { s with heap := h' } := I.kept (t' := s.toks) λ b o e => hx b o (Í (Æ e)) e
 exact h pins _ σ H xs _ Q I1 (by simpa using rv) hw
end
section
variable {K : Frag} {te : TE} {g : TG} {k : Nat} {cap : St} {D : Addr} {H1 : Hp} {Q : Hp -> Prop}
theorem jw {lo : Int} {n : Nat} (Pv : Nat -> List V -> Hp -> Prop) (hz : n < sizeLine) (h0 : Pv 0 [] (ak H1 D (.lst [])))
  (hs : ∀ i ys H, i < n -> ys.length = i -> H D = some (.lst ys) -> Pv i ys H -> ∀ os : St, os.length = k -> ∀ R : VK, (∀ y H4, H4 D = some (.lst ys) -> Pv (i + 1) (ys ++ [y]) (ak H4 D (.lst (ys ++ [y]))) -> R y H4) -> g (.int (lo + i)) (os ++ cap) H λ ľ H0 => (∃ ū : St, ū.length = k /\ ľ = ū ++ cap) /\ te ľ H0 R)
  (hd : ∀ ys H, ys.length = n -> H D = some (.lst ys) -> Pv n ys H -> Q H) :
  ∃ W : Nat -> Nat -> List V -> Hp -> Prop, (∃ m, W 0 m [] (ak H1 D (.lst []))) /\
   ∀ i m ys H2, W i m ys H2 -> H2 D = some (.lst ys) /\ (((vw lo n).stop i H2 /\ Q H2) \/ ((vw lo n).go i H2 /\ ys.length < sizeLine /\
    ∀ x H3, (vw lo n).IB i H2 x H3 -> ∀ os : St, os.length = k -> g x (os ++ cap) H3 λ ľ H0 => (∃ ū : St, ū.length = k /\ ľ = ū ++ cap) /\ te ľ H0 λ y H4 => H4 D = some (.lst ys) /\ ∃ m', m' < m /\ W (i + 1) m' (ys ++ [y]) (ak H4 D (.lst (ys ++ [y]))))) := by
 refine ⟨λ i m ys H => m = n - i /\ i <= n /\ ys.length = i /\ H D = some (.lst ys) /\ Pv i ys H, ⟨n, by simp, Nat.zero_le _, rfl, aQ, h0⟩, ?_⟩
 rintro i m ys H ⟨rfl, hi, hy, hD, p⟩;refine ⟨hD, ?_⟩;by_cases Ű : i < n
 ·refine .inr ⟨Ű, af, λ x H' y => ?_⟩;obtain ⟨e, y⟩ := y;subst e y;exact λ os ř => hs i ys _ Ű hy hD p os ř _ λ z H4 KU p4 => ⟨KU, n - (i + 1), af, rfl, Ű, by rw [Ï, hy]; rfl, aQ, p4⟩
 ·have e : i = n := af;subst e;exact .inl ⟨Ä _, hd ys H hy hD p⟩
end
section
variable {X : Cx}
theorem fk : ∀ {ns : List Int} {its : List Value}, Vals (ns.map V.int) its -> ∃ xs : List (Int × Tok), its = xs.map (λ p => Value.int p.1 p.2) /\ ns = xs.map (·.1)
 | [], _, r => by cases r; exact ⟨[], rfl, rfl⟩
 | n :: ns, _, r => by
  rw [É] at r;cases r with
  | cons r1 r2 =>
   obtain ⟨t, rfl⟩ := r1;obtain ⟨xs, e1, e2⟩ := fk r2;exact ⟨(n, t) :: xs, by rw [e1]; rfl, by rw [e2]; rfl⟩
theorem q9 {xs : List (Int × Tok)} {i : Nat} (h : i < xs.length) : numAt xs.toArray i = (xs.map (·.1))[i]'(by rw [Å]; exact h) := by
 simp [numAt, h]
end
structure mV (K : Frag) (mg : bu) (D : Addr) (nm fld : Str) (C f : Addr) (fd : FuncData) : Prop where
 cls : ł K D nm C f
 Ou : mg nm = some (.ref C)
 ok : ∀ (P : Program) (w : World) (base : Heap), az P w K mg base ar 1 f fd ["self", fld] (lJ C fld)
 bi : Binds K fd ["self", fld] []
structure Df (P : Program) (w : World) (K : Frag) (mg : bu) (base : Heap) (cx : kY) (k : Nat) (nm : Str) (ps : List Str) (sp : Sp) (g : Addr) (gd : FuncData) : Prop where
 G : az P w K mg base cx k g gd ps sp
 b : Binds K gd ps []
 kp : keepIn K (.ref g) = true
 m : mg nm = some (.ref g)
theorem bY {X : Cx} {CX : kY} {k : Nat} {x : Str} {ps : List Str} {sp : Sp} {f : Addr} {fd : FuncData} {E : XK} {e : Expr} {es : List Expr} {t : TA} {p pos : Pos} (A : Df X.prog X.w X.K X.mg X.base CX k x ps sp f fd) (hr : ė k X.A) (hx : fA CX X E) (ha : PA X (e :: es) t) (hg : Gl X x := by exact rfl) (x_ : (x == ("__debug__" : Str)) = false := by decide) (he : starEach (e :: es) X.env = (false, eval e X.env) :: starEach es X.env := by rfl) (g_ : (backTo pos (starEach es X.env)).any (·.1) = false := by rfl) : PE X (.Call (.Name x p) (e :: es) [] pos) (c5 sp [] E t) := gf A.G hr hg A.m A.kp A.b .nil hx ha x_ he g_
theorem lM {P : Program} {w : World} {X : Cx} : fA (iG P w) X E0 := λ _ _ _ _ _ _ _ h => by
 obtain ⟨_, _, _, _, _, _, _, _, _, _, _, _, _, h⟩ := h;exact h.elim
def lj (C : Addr) (fld : Str) (x : V) (H : Hp) (E : XK) : Prop := ∀ e dx, H e = none -> H dx = none -> dx ≠ e -> E (.ref C) (some e) (ak (ak H dx (.xd [(fld, x)])) e (fu e C (some dx)))
theorem cu {lo hi : Int} {d : PyData} (h : dB lo hi d = true) : ∃ i, d = .int i /\ lo <= i /\ i <= hi := by
 cases d with
 | int i =>
  have h' : (decide (lo <= i) && decide (i <= hi)) = true := h;rw [ñ, Ā, Ā] at h';exact ⟨i, rfl, h'.1, h'.2⟩
 | _ => cases h
theorem aT {H0 H : Hp} {l : Addr} (o : HO) (x : Ext H0 H) (h : H0 l = none) : Ext H0 (ak H l o) := λ b u e => by
 rw [ag (λ z => by rw [z, h] at e; cases e)]
 exact x b u e
theorem aB {α : Type} {xs : List α} {i : Nat} {x : α} (h : xs[i]? = some x) : xs.take (i + 1) = xs.take i ++ [x] := by
 rw [List.take_succ, h];rfl
def Kept (H H' : Hp) (p : Addr) : Prop := ∀ b o, H b = some o -> b ≠ p -> H' b = some o
theorem Kept.refl (H : Hp) (p : Addr) : Kept H H p := λ _ _ h _ => h
theorem Kept.trans {H H1 H2 : Hp} {p : Addr} (x : Kept H H1 p) (y : Kept H1 H2 p) : Kept H H2 p := λ b o h n => y b o (x b o h n) n
theorem Ext.kept {H H' : Hp} (x : Ext H H') (p : Addr) : Kept H H' p := λ b o h _ => x b o h
def wo (H : Hp) (p : Addr) : Hp := λ b => if b = p then none else H b
theorem tK (H : Hp) (p : Addr) : Ext (wo H p) H := λ b o e => by
 unfold wo at e;split at e
 ·cases e
 ·exact e
theorem sZ {H : Hp} {p b : Addr} {o : HO} (n : b ≠ p) (e : H b = some o) : wo H p b = some o := by unfold wo; rw [Ë n]; exact e
theorem gY {H H' : Hp} {p : Addr} (k : Kept H H' p) : Ext (wo H p) (wo H' p) := λ b o e => by
 unfold wo at e;split at e
 ·cases e
 ·rename_i n
  exact sZ n (k b o e n)
structure DI (H : Hp) (p : Addr) : Prop where
 ex : ∃ a b c : Int, H p = some (.lst [.int a, .int b, .int c]) /\ 0 <= a /\ 0 <= b /\ 0 <= c /\ c < 2147483647
def i5 (sp : Sp) (E : XK) (t : TA) : TE := λ σ H Q => t σ H λ vs H1 => H1 sysModules = none -> sp vs H1 Q E
section
variable {X : Cx} {CX : kY} {k : Nat} {f : Addr} {fd : FuncData} {ps : List Str} {sp : Sp} {E : XK} {x : Str} {p pos : Pos} {e : Expr} {es : List Expr} {t : TA} {σ : St}
theorem fH (hz : X.Ju sysModules = none) (F : az X.prog X.w X.K X.mg X.base CX k f fd ps sp) (hr : ė k X.A) (hg : Gl X x) (hm : X.mg x = some (.ref f)) (hk : PySem.W.keepIn X.K (.ref f) = true) (hb : Binds X.K fd ps []) (hx : fA CX X E)
  (ha : PA X (e :: es) t) (x_ : (x == ("__debug__" : Str)) = false := by decide) (he : starEach (e :: es) X.env = (false, eval e X.env) :: starEach es X.env := by rfl) (g_ : (backTo pos (starEach es X.env)).any (·.1) = false := by rfl) :
  PE X (.Call (.Name x p) (e :: es) [] pos) (i5 sp E t) := by
 intro pins s σ H Q I h;refine Ĭ (dj I hg hm ?_ x_);refine Η (h₀ := X.base) I.ok.mod.M7 hk (aA (ha pos pins s σ H _ I h) λ us s1 ⟨vs, H1, I1, r, q⟩ => ⟨I1.Ε, ?_⟩) he g_;exact uY (dvs := []) F hr hb .nil hx I1 r (by rw [ü]; exact q (I1.base.sys hz))
end
structure Fi (k n : Nat) (d : PyData) : Prop where
 sh : d.showable = true
 dp : d.depth <= k
 lv : d.leavesShort 64 = true
 bk : d.bulk <= n
structure Oc (k n : Nat) (ds : List PyData) : Prop where
 sh : PyData.showableAll ds = true
 dp : PyData.depthAll ds <= k
 lv : PyData.leavesShortAll 64 ds = true
 bk : PyData.bulkAll ds <= (n + 1) * ds.length
theorem Fi.mono {k k' n n' : Nat} {d : PyData} (f : Fi k n d) (h1 : k <= k') (h2 : n <= n') : Fi k' n' d := ⟨f.sh, Ò f.dp h1, f.lv, Ò f.bk h2⟩
theorem Oc.of {k n : Nat} : ∀ {ds : List PyData}, (∀ d ∈ ds, Fi k n d) -> Oc k n ds
 | [], _ => ⟨by simp [PyData.showableAll], by simp [PyData.depthAll], by simp [PyData.leavesShortAll], by simp [PyData.bulkAll]⟩
 | d :: ds, h => by
  have f := h d (Ù ..);have g := Oc.of (ds := ds) λ x hx => h x (Ó _ hx);refine ⟨?_, ?_, ?_, ?_⟩
  ·simp only [PyData.showableAll, f.sh, g.sh, Bool.and_self]
  ·have h1 := f.dp; have h2 := g.dp;simp only [PyData.depthAll]; omega
  ·simp only [PyData.leavesShortAll, f.lv, g.lv, Bool.and_self]
  ·have h1 := f.bk; have h2 := g.bk;simp only [PyData.bulkAll, List.length_cons, Nat.mul_add]; omega
theorem dm {k n m : Nat} {ds : List PyData} (h : ∀ d ∈ ds, Fi k n d) (hl : ds.length <= m) : Fi (k + 1) ((n + 1) * m + 1) (.list ds) := by
 have f := Oc.of h;refine ⟨by simp only [PyData.showable, f.sh], ?_, by simp only [PyData.leavesShort, f.lv], ?_⟩
 ·have := f.dp;simp only [PyData.depth]; omega
 ·have := f.bk;have h2 := ź (n + 1) hl;simp only [PyData.bulk]; omega
theorem dP {k n m : Nat} {ds : List PyData} (h : ∀ d ∈ ds, Fi k n d) (hl : ds.length <= m) : Fi (k + 1) ((n + 1) * m + 1) (.tuple ds) := by
 have f := Oc.of h;refine ⟨by simp only [PyData.showable, f.sh], ?_, by simp only [PyData.leavesShort, f.lv], ?_⟩
 ·have := f.dp;simp only [PyData.depth]; omega
 ·have := f.bk;have h2 := ź (n + 1) hl;simp only [PyData.bulk]; omega
theorem Fi.show {k n : Nat} {d : PyData} (f : Fi k n d) (hk : k <= 10) (hn : n <= 200000) : qW d := by
 refine ⟨f.sh, Ò f.dp hk, ?_⟩;have e := PyData.shown_le_bulk 64 am d f.lv;have e2 : (64 + 2) * d.bulk <= 66 * 200000 := ź _ (Ò f.bk hn);rw [Ú];omega
theorem uR {i : Int} (h : i.natAbs < 10 ^ 30) : Fi 0 2 (.int i) := by
 refine ⟨?_, by simp [PyData.depth], ?_, by simp [PyData.bulk]⟩
 ·simp only [PyData.showable, decide_eq_true_eq];by_cases z : i.natAbs = 0
  ·rw [z]; decide
  ·exact (Nat.log2_lt z).mpr (ŉ h aJ)
 ·have e := int_text_length_le10 (k := 30) am h;simp only [PyData.leavesShort, PyData.shown];refine Î (show (Str.ofString (toString i)).length <= 64 from ?_);rw [ofString_length];omega
theorem II : Fi 0 2 .none := ⟨rfl, by simp [PyData.depth], rfl, by simp [PyData.bulk]⟩
theorem JB {b : Bool} : Fi 0 2 (.bool b) := by cases b <;> exact ⟨rfl, by simp [PyData.depth], rfl, by simp [PyData.bulk]⟩
theorem bE {i : Int} (h1 : -1000000000 <= i) (h2 : i <= 1000000000) : Fi 0 2 (.int i) := uR (Ě (show i.natAbs <= 1000000000 by omega) am)
section
variable {X : Cx} {σ : St} {e : Expr} {es : List Expr} {t : TA} {p pos : Pos} {x : Str} {r : List V -> Hp -> VK -> Prop}
theorem tE {id : String} (hc : bv X (.builtin id) r) (hg : Gl X x) (hm : X.mg x = none) (hv : bootBuiltins x = some (.builtin id)) (ha : yO X σ (e :: es) t) (hn : x ≠ "__name__" := by decide) (x_ : (x == ("__debug__" : Str)) = false := by decide)
  (he : starEach (e :: es) X.env = (false, eval e X.env) :: starEach es X.env := by rfl) (g_ : (backTo pos (starEach es X.env)).any (·.1) = false := by rfl) : PX X σ (.Call (.Name x p) (e :: es) [] pos) (eY r t) := by
 intro pins s H Q I h;refine Ĭ (fq I hg hm hv ?_ hn x_);exact Ũ (aA (ha pos pins s H _ I h) λ us s1 ⟨vs, H1, I1, r1, q1⟩ => hc pins s1 σ H1 vs us Q I1 r1 q1) he g_
end
structure pT (K : Frag) (C : Addr) (fld : Str) : Prop where
 it : ky K C
 hd : hasDictIn K C = true
 nf : findIn K (.ref C) fld = some none
section
variable {K : Frag} {H : Hp} {D : aY} {σ : St} {p : Addr}
theorem cE {r : R2} {ta tb : TE} {Q : VK} (h : ta σ H λ x H1 => tb σ H1 λ y H2 => r x y H2 Q) : bc r ta tb σ H Q := h
theorem wK {H' : Hp} {l : Addr} {o : HO} (k : Kept H H' p) (n : H l = none) : Kept H (ak H' l o) p := λ b u h nb => by
 rw [ag (λ e => by rw [e, n] at h; cases h)]
 exact k b u h nb
theorem bJ {te : TE} {i : Nat} {u : TS} (h : te σ H λ v H1 => u D (σ.set i (some v)) H1) : bL (cQ te (bf i)) u D σ H := h
end
theorem BC {H : Hp} {a t : Addr} {u : HO} (h : H t = some u) (e : H a = none) : a ≠ t := λ z => by rw [z, h] at e; cases e
theorem Ly : Fi 1 3 (.dict []) := ⟨by simp [PyData.showable, PyData.showableKv], by simp [PyData.depth, PyData.depthKv], by simp [PyData.leavesShort, PyData.leavesShortKv], by simp [PyData.bulk, PyData.bulkKv]⟩
theorem Co {H : Hp} {p a : Addr} {o : HO} (h : wo H p a = some o) : a ≠ p := λ e => by
 unfold wo at h;rw [Õ e] at h;cases h
theorem sr {H H' : Hp} (x : Ext H H') (p : Addr) : Ext (wo H p) (wo H' p) := gY (x.kept p)
theorem tM {α : Type} {xs : List α} {i : Int} (h0 : 0 <= i) (h : i.toNat < xs.length) : mT xs i = some xs[i.toNat] := by
 have e := zj (Ã h)
 rwa [show ((i.toNat : Nat) : Int) = i by omega] at e
structure GE (p : Addr) (k m : Nat) (te : TE) : Prop where
 h : ∀ (σ : St) (H : Hp) (Q : VK), DI H p -> (∀ v H', Ext H H' -> (∃ d, İ (wo H' p) v d /\ Fi k m d) -> Q v H') -> te σ H Q
section
variable {p : Addr} {k m k' m' n : Nat} {te ta tb : TE} {t : TA}
theorem wx {v : V} {d : PyData} (r : ∀ G, İ G v d) (f : Fi k m d) : GE p k m (tC v) := ⟨λ σ H Q bx q => q v H (Ext.refl _) ⟨d, r _, f⟩⟩
theorem ge_int {i : Int} (h1 : -1000000000 <= i) (h2 : i <= 1000000000) : GE p 0 2 (tC (.int i)) := wx (λ _ => .int _) (bE h1 h2)
end
theorem uQ {C : Addr} {fld : Str} {v : V} {H1 : Hp} {E' : XK} (h : ∀ e dx H', Ext H1 H' -> H' e = some (fu e C (some dx)) -> H' dx = some (.xd [(fld, v)]) -> E' (.ref C) (some e) H') : lj C fld v H1 E' := λ e dx he KC ne => by
 have x2 := Ext.new (o := .xd [(fld, v)]) KC;have OB : ak H1 dx (.xd [(fld, v)]) e = none := by rw [ag ne.symm]; exact he
 have x3 := Ext.new (o := fu e C (some dx)) OB;exact h e dx _ (x2.trans x3) aQ (x3 _ _ aQ)
section
variable {X : Cx}
def Ad (K : Frag) : R2 := λ x y H Q => ∃ p q xs, x = .ref p /\ y = .ref q /\ û K H p xs /\ û K H q [] /\ Q (.bl (!xs.isEmpty)) H
theorem sX (hu : X.A.units < cLine) : gg X (compareOp .NotEq) (Ad X.K) := by
 intro pins s σ H x y v u Q I rx ry h;obtain ⟨p, q, xs, rfl, rfl, hp, hq, k⟩ := h;cases rx;cases ry;obtain ⟨its, r1, t1, _⟩ := I.list hp;obtain ⟨Š, r2, t2, _⟩ := I.list hq;have l1 := r1.length;have l2 := r2.length;have e2 : Š = [] := ψ.mp l2.symm;subst e2;cases xs with
 | nil =>
  have e1 : its = [] := ψ.mp l1.symm;subst e1;exact SeqAt.RcNeAt.lists (e := λ _ => true) t1.isList t2.isList rfl hu (λ j h _ => absurd h (JL _)) X.prog X.w X.xe _ ⟨.bl false, H, I, rfl, k⟩
 | cons x xs =>
  exact SeqAt.RcNeAt.lists_lengths t1.isList t2.isList (by simp [<- l1]) hu X.prog X.w X.xe _ ⟨.bl true, H, I, rfl, k⟩
end
theorem rC {t : TA} {σ : St} {H : Hp} {Q : VK} (h : t σ H λ xs H1 => xs.length <= sizeLine /\ ∀ p, H1 p = none -> Q (.ref p) (ak H1 p (.lst xs))) : bC t σ H Q := h
structure Pt (G : Hp -> Hp) (H : Hp) : Prop where
 mono : ∀ {H1 H2 : Hp}, Ext H1 H2 -> Ext (G H1) (G H2)
 new : ∀ {H1 : Hp} {a : Addr} {o : HO}, Ext H H1 -> H1 a = none -> G (ak H1 a o) a = some o
theorem Pt.ext {G : Hp -> Hp} {H H' : Hp} (h : Pt G H) (x : Ext H H') : Pt G H' := ⟨h.mono, λ y => h.new (x.trans y)⟩
theorem Dc {H : Hp} {p : Addr} {u : HO} (h : H p = some u) : Pt (λ H => wo H p) H := ⟨λ x => sr x p, λ x e => sZ (BC (x _ _ h) e) aQ⟩
theorem gJ (val : Nat -> Int) (ns : List Int) (h : ∀ (i : Nat) (hi : i < ns.length), val i = ns[i]) : ∀ k, k <= ns.length -> preSum val k = (ns.take k).sum
 | 0, _ => by simp [preSum]
 | k + 1, hk => by
  have ih := gJ val ns h k af;have e : ns.take (k + 1) = ns.take k ++ [ns[k]] := aB (Ã af);show preSum val k + val k = _;rw [ih, h k af, e, List.sum_append];simp
section
variable {X : Cx}
def fK (K : Frag) : List V -> Hp -> VK -> Prop := λ vs H Q => ∃ (l : Addr) (ns : List Int), vs = [.ref l] /\ û K H l (ns.map V.int) /\ Q (.int ns.sum) H
theorem bR (hc : X.calm = true) : bv X (.builtin "sum") (fK X.K) := by
 intro pins s σ H xs us Q I r h;obtain ⟨l, ns, rfl, hl, q⟩ := h;obtain ⟨u, rfl, ru⟩ := ck r;cases (show u = Value.ref l from ru);obtain ⟨its, rv, p, hz⟩ := I.list hl;obtain ⟨xs, rfl, rfl⟩ := fk rv;have e : (xs.map λ p => Value.int p.1 p.2).toArray = intItems xs.toArray := by simp [intItems]
 have hL : s.heap.IsList l (intItems xs.toArray) := by rw [<- e]; exact p.isList
 refine sum_intListG (I.ok.hd hc) hL λ h' tk t' hk => ?_;have es : preSum (numAt xs.toArray) xs.toArray.size = (xs.map (·.1)).sum := by
  have := gJ (numAt xs.toArray) (xs.map (·.1)) (λ i hi => q9 (by simpa using hi)) xs.toArray.size (by simp)
  rw [this, Ģ (by simp)]
 rw [es];exact ⟨.int _, H, I.kept hk, ⟨t', rfl⟩, q⟩
end
mutual
def cp : PyData -> PyData -> Bool
 | .list xs, .list ys => H_ xs ys
 | .tuple xs, .tuple ys => H_ xs ys
 | .none, .none => true
 | .bool a, .bool b => a == b
 | .bool a, .int j => (if a then (1 : Int) else 0) == j
 | .int i, .bool b => i == (if b then (1 : Int) else 0)
 | .int i, .int j => i == j
 | .str x, .str y => x == y
 | _, _ => false
def H_ : List PyData -> List PyData -> Bool
 | [], [] => true
 | x :: xs, y :: ys => cp x y && H_ xs ys
 | _, _ => false
end
mutual
def aL : PyData -> Bool
 | .list xs => ĺ xs
 | .tuple xs => ĺ xs
 | .dict _ => false
 | _ => true
def ĺ : List PyData -> Bool
 | [] => true
 | x :: xs => aL x && ĺ xs
end
mutual
theorem iq : ∀ {d : PyData}, aL d = true -> cp d d = true
 | .none, _ => by simp [cp]
 | .bool b, _ => by simp [cp]
 | .int i, _ => by simp [cp]
 | .str x, _ => by simp [cp]
 | .list xs, h => by simp only [cp]; exact ű (by simpa only [aL] using h)
 | .tuple xs, h => by simp only [cp]; exact ű (by simpa only [aL] using h)
 | .dict _, h => by simp [aL] at h
theorem ű : ∀ {ds : List PyData}, ĺ ds = true -> H_ ds ds = true
 | [], _ => by simp [H_]
 | d :: ds, h => by
  simp only [ĺ, Bool.and_eq_true] at h;simp only [H_, iq h.1, ű h.2, Bool.and_self]
end
mutual
theorem İ.det {G : Hp} : ∀ {v : V} {d e : PyData}, İ G v d -> İ G v e -> d = e
 | _, _, _, .Ė, r => by cases r; rfl
 | _, _, _, .bl b, r => by cases r; rfl
 | _, _, _, .int i, r => by cases r; rfl
 | _, _, _, .str x, r => by cases r; rfl
 | _, _, _, .lst h t, r => by
  cases r with
  | lst h' t' => rw [h] at h'; cases h'; rw [è.det t t']
  | tup h' _ => rw [h] at h'; cases h'
  | Ÿ h' => rw [h] at h'; cases h'
  | ID h' _ => rw [h] at h'; cases h'
 | _, _, _, .tup h t, r => by
  cases r with
  | lst h' _ => rw [h] at h'; cases h'
  | tup h' t' => rw [h] at h'; cases h'; rw [è.det t t']
  | Ÿ h' => rw [h] at h'; cases h'
  | ID h' _ => rw [h] at h'; cases h'
 | _, _, _, .Ÿ h, r => by
  cases r with
  | lst h' _ => rw [h] at h'; cases h'
  | tup h' _ => rw [h] at h'; cases h'
  | Ÿ h' => rfl
  | ID h' _ => rw [h] at h'; cases h'
 | _, _, _, .ID h t, r => by
  cases r with
  | lst h' _ => rw [h] at h'; cases h'
  | tup h' _ => rw [h] at h'; cases h'
  | Ÿ h' => rw [h] at h'; cases h'
  | ID h' t' => rw [h] at h'; cases h'; rw [İ.det t t']
theorem è.det {G : Hp} : ∀ {vs : List V} {ds es : List PyData}, è G vs ds -> è G vs es -> ds = es
 | _, _, _, .nil, r => by cases r; rfl
 | _, _, _, .cons h t, r => by
  cases r with
  | cons h' t' => rw [İ.det h h', è.det t t']
end
theorem iW : ∀ (xs ys : List PyData), ((List.range (min xs.length ys.length)).all (λ j => cp (xs.getD j .none) (ys.getD j .none)) && xs.length == ys.length) = H_ xs ys
 | [], [] => by simp [H_]
 | [], y :: ys => by simp [H_]
 | x :: xs, [] => by simp [H_]
 | x :: xs, y :: ys => by
  have ih := iW xs ys;simp only [H_];rw [<- ih, Ü, Ü, Nat.succ_min_succ, Ŝ, į, k_, Bool.and_assoc]
  congr 1
  rw [show (xs.length + 1 == ys.length + 1) = (xs.length == ys.length) from by simp]
  rfl
section
variable {X : Cx}
structure Gp (A : Around) (s : Shared) (u v : Value) (b : Bool) : Prop where
 eq : SeqAt.RcAt A s u v b
 ne : SeqAt.RcNeAt A s u v (!b)
structure Hx (A : Around) (s : Shared) (u v : Value) (b : Bool) : Prop where
 eq : SeqAt.RcAt A s u v b
 ne : SeqAt.RcNeAt A s u v (!b)
 at_ : SeqAt.EqAt A s u v b
theorem wC {A : Around} {s : Shared} {p q : Addr} {its Š : List Value} (hu : A.units < cLine) (t1 : s.heap.IsTuple p its.toArray) (t2 : s.heap.IsTuple q Š.toArray) (e : Nat -> Bool) (he : ∀ j (h1 : j < its.length) (h2 : j < Š.length), SeqAt.EqAt A.in1 s its[j] Š[j] (e j)) :
  Gp A s (.ref p) (.ref q) ((List.range (min its.length Š.length)).all e && its.length == Š.length) := by
 have h' : ∀ j (h1 : j < its.toArray.size) (h2 : j < Š.toArray.size), SeqAt.EqAt A.in1 s its.toArray[j] Š.toArray[j] (e j) := λ j h1 h2 => by
  simpa using he j (by simpa using h1) (by simpa using h2)
 have a := SeqAt.RcAt.tuples (e := e) t1 t2 hu h';have b := SeqAt.RcNeAt.tuples (e := e) t1 t2 hu h';rw [Ô, Ô] at a b;exact ⟨a, b⟩
theorem wJ {A : Around} {s : Shared} {p q : Addr} {its Š : List Value} (hu : A.units < cLine) (t1 : s.heap.IsList p its.toArray) (t2 : s.heap.IsList q Š.toArray) (e : Nat -> Bool) (he : ∀ j (h1 : j < its.length) (h2 : j < Š.length), SeqAt.EqAt A.in1 s its[j] Š[j] (e j)) :
  Gp A s (.ref p) (.ref q) ((List.range (min its.length Š.length)).all e && its.length == Š.length) := by
 have h' : ∀ j (h1 : j < its.toArray.size) (h2 : j < Š.toArray.size), SeqAt.EqAt A.in1 s its.toArray[j] Š.toArray[j] (e j) := λ j h1 h2 => by
  simpa using he j (by simpa using h1) (by simpa using h2)
 by_cases sz : its.length = Š.length
 ·have a := SeqAt.RcAt.lists (e := e) t1 t2 (by simpa using sz) hu h'
  have b := SeqAt.RcNeAt.lists (e := e) t1 t2 (by simpa using sz) hu h'
  rw [Ô] at a b;have z : ((List.range (min its.length Š.length)).all e && its.length == Š.length) = (List.range its.length).all e := by
   rw [sz, Nat.min_self];simp
  rw [z];exact ⟨a, b⟩
 ·have z : ((List.range (min its.length Š.length)).all e && its.length == Š.length) = false := by
   rw [show (its.length == Š.length) = false from by simpa using sz]
   simp
  rw [z];exact ⟨SeqAt.RcAt.lists_lengths t1 t2 (by simpa using sz) hu, SeqAt.RcNeAt.lists_lengths t1 t2 (by simpa using sz) hu⟩
mutual
theorem mX {pins : List (Addr × Obj)} {σ : St} {H : Hp} {s : Shared} (I : Inv X pins σ H s) : ∀ {x : V} {d : PyData}, İ H x d -> ∀ {A : Around} {y : V} {e : PyData} {u v : Value}, İ H y e -> aL d = true -> aL e = true -> A.units + d.depth < cLine -> RelV x u -> RelV y v -> Hx A s u v (cp d e)
 | _, _, .Ė, A, y, e, u, v, ry, pd, pe, hu, ru, rv => by
  have h0 : A.units < cLine := af;cases ru;cases ry with
  | Ė => cases rv; simp only [cp]; exact ⟨.none_none, .none_none, .same _⟩
  | bl b => cases rv; simp only [cp]; exact ⟨.none_bool _, .none_bool _, .none_bool _⟩
  | int j => obtain ⟨t, rfl⟩ := rv; simp only [cp]; exact ⟨.none_int _ _, .none_int _ _, .none_int _ _⟩
  | str z => obtain ⟨t, rfl⟩ := rv; simp only [cp]; exact ⟨.none_str _ _, .none_str _ _, .none_str _ _⟩
  | lst h _ => cases rv; obtain ⟨its, _, t, _⟩ := I.list (û.of (K := X.K) h); simp only [cp]; exact ⟨.none_list t.isList h0, .none_list t.isList h0, .none_list t.isList h0⟩
  | tup h _ => cases rv; obtain ⟨its, _, t, _⟩ := I.tuple (ĕ.of (K := X.K) h); simp only [cp]; exact ⟨.none_tuple t h0, .none_tuple t h0, .none_tuple t h0⟩
  | Ÿ _ => simp [aL] at pe
  | ID _ _ => simp [aL] at pe
 | _, _, .bl a, A, y, e, u, v, ry, pd, pe, hu, ru, rv => by
  have h0 : A.units < cLine := af;cases ru;cases ry with
  | Ė => cases rv; simp only [cp]; exact ⟨.bool_none _, .bool_none _, .bool_none _⟩
  | bl b => cases rv; simp only [cp]; exact ⟨.bool_bool _ _, .bool_bool _ _, .bool_bool _ _⟩
  | int j => obtain ⟨t, rfl⟩ := rv; simp only [cp]; exact ⟨.bool_int _ _ _, .bool_int _ _ _, .bool_int _ _ _⟩
  | str z => obtain ⟨t, rfl⟩ := rv; simp only [cp]; exact ⟨.bool_str _ _ _, .bool_str _ _ _, .bool_str _ _ _⟩
  | lst h _ => cases rv; obtain ⟨its, _, t, _⟩ := I.list (û.of (K := X.K) h); simp only [cp]; exact ⟨.bool_list _ t.isList h0, .bool_list _ t.isList h0, .bool_list _ t.isList h0⟩
  | tup h _ => cases rv; obtain ⟨its, _, t, _⟩ := I.tuple (ĕ.of (K := X.K) h); simp only [cp]; exact ⟨.bool_tuple _ t h0, .bool_tuple _ t h0, .bool_tuple _ t h0⟩
  | Ÿ _ => simp [aL] at pe
  | ID _ _ => simp [aL] at pe
 | _, _, .int i, A, y, e, u, v, ry, pd, pe, hu, ru, rv => by
  have h0 : A.units < cLine := af;obtain ⟨tu, rfl⟩ := ru;cases ry with
  | Ė => cases rv; simp only [cp]; exact ⟨.int_none _ _, .int_none _ _, .int_none _ _⟩
  | bl b => cases rv; simp only [cp]; exact ⟨.int_bool _ _ _, .int_bool _ _ _, .int_bool _ _ _⟩
  | int j => obtain ⟨t, rfl⟩ := rv; simp only [cp]; exact ⟨.int_int _ _ _ _, .int_int _ _ _ _, .int_int _ _ _ _⟩
  | str z => obtain ⟨t, rfl⟩ := rv; simp only [cp]; exact ⟨.int_str _ _ _ _, .int_str _ _ _ _, .int_str _ _ _ _⟩
  | lst h _ => cases rv; obtain ⟨its, _, t, _⟩ := I.list (û.of (K := X.K) h); simp only [cp]; exact ⟨.int_list _ _ t.isList h0, .int_list _ _ t.isList h0, .int_list _ _ t.isList h0⟩
  | tup h _ => cases rv; obtain ⟨its, _, t, _⟩ := I.tuple (ĕ.of (K := X.K) h); simp only [cp]; exact ⟨.int_tuple _ _ t h0, .int_tuple _ _ t h0, .int_tuple _ _ t h0⟩
  | Ÿ _ => simp [aL] at pe
  | ID _ _ => simp [aL] at pe
 | _, _, .str x, A, y, e, u, v, ry, pd, pe, hu, ru, rv => by
  have h0 : A.units < cLine := af;obtain ⟨tu, rfl⟩ := ru;cases ry with
  | Ė => cases rv; simp only [cp]; exact ⟨.str_none _ _, .str_none _ _, .str_none _ _⟩
  | bl b => cases rv; simp only [cp]; exact ⟨.str_bool _ _ _, .str_bool _ _ _, .str_bool _ _ _⟩
  | int j => obtain ⟨t, rfl⟩ := rv; simp only [cp]; exact ⟨.str_int _ _ _ _, .str_int _ _ _ _, .str_int _ _ _ _⟩
  | str z => obtain ⟨t, rfl⟩ := rv; simp only [cp]; exact ⟨.str_str _ _ _ _, .str_str _ _ _ _, .str_str _ _ _ _⟩
  | lst h _ => cases rv; obtain ⟨its, _, t, _⟩ := I.list (û.of (K := X.K) h); simp only [cp]; exact ⟨.str_list _ _ t.isList h0, .str_list _ _ t.isList h0, .str_list _ _ t.isList h0⟩
  | tup h _ => cases rv; obtain ⟨its, _, t, _⟩ := I.tuple (ĕ.of (K := X.K) h); simp only [cp]; exact ⟨.str_tuple _ _ t h0, .str_tuple _ _ t h0, .str_tuple _ _ t h0⟩
  | Ÿ _ => simp [aL] at pe
  | ID _ _ => simp [aL] at pe
 | _, _, .lst (a := a') (xs := xs) (ds := ds) h rs, A, y, e, u, v, ry, pd, pe, hu, ru, rv => by
  have h0 : A.units < cLine := af;cases ru;obtain ⟨its, r1, t1, _⟩ := I.list (û.of (K := X.K) h);cases ry with
  | Ė => cases rv; simp only [cp]; exact ⟨.list_none t1.isList h0, .list_none t1.isList h0, .list_none t1.isList h0⟩
  | bl b => cases rv; simp only [cp]; exact ⟨.list_bool _ t1.isList h0, .list_bool _ t1.isList h0, .list_bool _ t1.isList h0⟩
  | int j => obtain ⟨t, rfl⟩ := rv; simp only [cp]; exact ⟨.list_int _ _ t1.isList h0, .list_int _ _ t1.isList h0, .list_int _ _ t1.isList h0⟩
  | str z => obtain ⟨t, rfl⟩ := rv; simp only [cp]; exact ⟨.list_str _ _ t1.isList h0, .list_str _ _ t1.isList h0, .list_str _ _ t1.isList h0⟩
  | @lst b' ys es h' ts =>
   cases rv;obtain ⟨Š, r2, t2, _⟩ := I.list (û.of (K := X.K) h');have NB : ĺ ds = true := by simpa only [aL] using pd
   have O8 : ĺ es = true := by simpa only [aL] using pe
   have dd : A.in1.units + PyData.depthAll ds < cLine := by rw [gu]; simp only [PyData.depth] at hu; omega
   have k := wJ h0 t1.isList t2.isList (λ j => cp (ds.getD j .none) (es.getD j .none)) (λ j h1 h2 => IJ I rs ts NB O8 dd r1 r2 h1 h2);rw [<- r1.length, <- r2.length, rs.length, ts.length, iW] at k;simp only [cp];refine ⟨k.eq, k.ne, ?_⟩;by_cases e : a' = b'
   ·subst e;rw [h] at h';cases h';have := è.det rs ts;subst this;rw [ű NB];exact Φ _
   ·exact .of_refs e k.eq
  | tup h' _ => cases rv; obtain ⟨Š, _, t, _⟩ := I.tuple (ĕ.of (K := X.K) h'); simp only [cp]; exact ⟨.list_tuple t1.isList t h0, .list_tuple t1.isList t h0, .list_tuple t1.isList t h0⟩
  | Ÿ _ => simp [aL] at pe
  | ID _ _ => simp [aL] at pe
 | _, _, .tup (a := a') (xs := xs) (ds := ds) h rs, A, y, e, u, v, ry, pd, pe, hu, ru, rv => by
  have h0 : A.units < cLine := af;cases ru;obtain ⟨its, r1, t1, _⟩ := I.tuple (ĕ.of (K := X.K) h);cases ry with
  | Ė => cases rv; simp only [cp]; exact ⟨.tuple_none t1 h0, .tuple_none t1 h0, .tuple_none t1 h0⟩
  | bl b => cases rv; simp only [cp]; exact ⟨.tuple_bool _ t1 h0, .tuple_bool _ t1 h0, .tuple_bool _ t1 h0⟩
  | int j => obtain ⟨t, rfl⟩ := rv; simp only [cp]; exact ⟨.tuple_int _ _ t1 h0, .tuple_int _ _ t1 h0, .tuple_int _ _ t1 h0⟩
  | str z => obtain ⟨t, rfl⟩ := rv; simp only [cp]; exact ⟨.tuple_str _ _ t1 h0, .tuple_str _ _ t1 h0, .tuple_str _ _ t1 h0⟩
  | @tup b' ys es h' ts =>
   cases rv;obtain ⟨Š, r2, t2, _⟩ := I.tuple (ĕ.of (K := X.K) h');have NB : ĺ ds = true := by simpa only [aL] using pd
   have O8 : ĺ es = true := by simpa only [aL] using pe
   have dd : A.in1.units + PyData.depthAll ds < cLine := by rw [gu]; simp only [PyData.depth] at hu; omega
   have k := wC h0 t1 t2 (λ j => cp (ds.getD j .none) (es.getD j .none)) (λ j h1 h2 => IJ I rs ts NB O8 dd r1 r2 h1 h2);rw [<- r1.length, <- r2.length, rs.length, ts.length, iW] at k;simp only [cp];refine ⟨k.eq, k.ne, ?_⟩;by_cases e : a' = b'
   ·subst e;rw [h] at h';cases h';have := è.det rs ts;subst this;rw [ű NB];exact Φ _
   ·exact .of_refs e k.eq
  | lst h' _ => cases rv; obtain ⟨Š, _, t, _⟩ := I.list (û.of (K := X.K) h'); simp only [cp]; exact ⟨.tuple_list t1 t.isList h0, .tuple_list t1 t.isList h0, .tuple_list t1 t.isList h0⟩
  | Ÿ _ => simp [aL] at pe
  | ID _ _ => simp [aL] at pe
 | _, _, .Ÿ _, _, _, _, _, _, _, pd, _, _, _, _ => by simp [aL] at pd
 | _, _, .ID _ _, _, _, _, _, _, _, pd, _, _, _, _ => by simp [aL] at pd
theorem IJ {pins : List (Addr × Obj)} {σ : St} {H : Hp} {s : Shared} (I : Inv X pins σ H s) : ∀ {xs : List V} {ds : List PyData}, è H xs ds -> ∀ {A : Around} {ys : List V} {es : List PyData} {its Š : List Value}, è H ys es -> ĺ ds = true -> ĺ es = true -> A.units + PyData.depthAll ds < cLine -> Vals xs its -> Vals ys Š ->
  ∀ {j : Nat} (h1 : j < its.length) (h2 : j < Š.length), SeqAt.EqAt A s its[j] Š[j] (cp (ds.getD j .none) (es.getD j .none))
 | _, _, .nil, A, ys, es, its, Š, ts, pd, pe, hu, r1, r2, j, h1, h2 => by cases r1; exact absurd h1 (JL _)
 | _, _, .cons (v := x) (d := d) r rs, A, ys, es, its, Š, ts, pd, pe, hu, r1, r2, j, h1, h2 => by
  cases ts with
  | nil => cases r2; exact absurd h2 (JL _)
  | cons r' ts =>
   cases r1 with
   | cons q1 r1 =>
    cases r2 with
    | cons q2 r2 =>
     simp only [ĺ, Bool.and_eq_true] at pd pe;simp only [PyData.depthAll] at hu;cases j with
     | zero =>
      exact (mX I r (A := A) r' pd.1 pe.1 af q1 q2).at_
     | succ j => exact IJ I rs (A := A) ts pd.2 pe.2 af r1 r2 (by simpa using h1) (by simpa using h2)
end
def nt (g : Bool -> Bool) : R2 := λ x y H Q => ∃ d e, İ H x d /\ İ H y e /\ aL d = true /\ aL e = true /\ d.depth <= 20 /\ Q (.bl (g (cp d e))) H
theorem zV (hu : X.A.units + 64 < cLine) : gg X (compareOp .Eq) (nt id) := by
 intro pins s σ H x y v u Q I rx ry h;obtain ⟨d, e, r1, r2, p1, p2, dd, k⟩ := h;exact (mX I r1 r2 p1 p2 af rx ry).eq X.prog X.w X.xe _ ⟨.bl _, H, I, rfl, k⟩
theorem uW (hu : X.A.units + 64 < cLine) : gg X (compareOp .NotEq) (nt not) := by
 intro pins s σ H x y v u Q I rx ry h;obtain ⟨d, e, r1, r2, p1, p2, dd, k⟩ := h;exact (mX I r1 r2 p1 p2 af rx ry).ne X.prog X.w X.xe _ ⟨.bl _, H, I, rfl, k⟩
end
end My
namespace My
open PySem PySem.W L2
abbrev TJ := Str -> St -> Hp -> (Str -> Hp -> Prop) -> Prop
def oD : Option Nat -> PyData
 | some n => .int n
 | none => .none
section
variable {prog : Program} {w : World} {A : Around} {E : bo} {s : Shared} {it d : Addr} {i ep : Nat} {es : Array DictEntry} {od : Obj} {ok ov : Value} {e : DictEntry}
theorem gU (d : Addr) : ¬ ((Value.ref d == Value.none) = true) := Ì
theorem nM : Builtin.Dict_items.ownsTuple "dict_itemiterator" = true := am
theorem uE {Q : Option Value -> Shared -> Prop} (hi : IsItemIter s.heap it d i es.size ep ok ov) (ho : s.heap.get? d = some od) (Ja : od.data = .dict es ep) (he : es[i]? = some e)
  (k : ∀ h', IsItemIterOut h' it d (i + 1) es.size ep e.key e.val s.heap.objs.size -> h'.get? s.heap.objs.size = some { cls := .type "tuple", data := .seq #[e.key, e.val] } -> (∀ b o, b ≠ it -> s.heap.get? b = some o -> h'.get? b = some o) -> Q (some (.ref s.heap.objs.size)) { s with heap := h' }) : wpAny (model prog w) A (pyNext (.ref it)) Q E s := by
 obtain ⟨hp, gn, dr, tk, os⟩ := s;have T0 : Shared.TypeIs ⟨hp, gn, dr, tk, os⟩ (.ref it) "dict_itemiterator" := ⟨_, hi, rfl⟩;have lt : i < es.size := (ç.mp he).1;have ltI : it < hp.objs.size := Æ hi;unfold pyNext;refine À (ğ (Ĉ (name := Str.ofString "__next__") T0 Č (ô Č T0 Ij (À (Â (À (À (À (ķ T0 (Â (À (IQ hi rfl ?_)))))))))  (Ib _))));simp only [nM, if_true];show wpAny _ _ (if (Value.ref d == Value.none) = true then _ else _) _ _ _
 rw [Ë (gU d)];refine À (Â (À (ō ho Ja ?_)));rw [Ë (by simp)]
 refine À (Â (À (ţ ho Ja ?_)));rw [Ë (by simp)]
 refine Â ?_;simp only [show ¬ ((i : Int) < 0) from by omega, if_false, Int.toNat_natCast, he]
 refine À (À (ķ T0 (Â (À (Ig T0 ?_)))));show wpAny _ _ (setField (.ref it) 3 (rawInt ((i : Int) + 1)) >>= _) _ _ ⟨hp, gn, dr, tk, os⟩;refine À (ú hi (by simp) λ h1 e1 Ol => ?_)
 replace Ol : Heap.SameBut it hp h1 := Ol;replace e1 : IsItemIter h1 it d (i + 1) es.size ep ok ov := by
  have q : ((i + 1 : Nat) : Int) = (i : Int) + 1 := af;unfold IsItemIter; rw [q]; simpa [rawInt] using e1
 have T1 : Shared.TypeIs ⟨h1, gn, dr, tk, os⟩ (.ref it) "dict_itemiterator" := ⟨_, e1, rfl⟩;refine À (ä (À (Ig T1 (À (Ig T1 ?_)))));show wpAny _ _ (Builtin.Dict_items.pairFromOwner (.ref it) 6 e.key e.val) _ _ ⟨h1, gn, dr, tk, os⟩;unfold Builtin.Dict_items.pairFromOwner;refine À (wpAny_newTuple ?_);have z1 : h1.objs.size = hp.objs.size := Ol.1;have e2 : IsItemIter (h1.push { cls := .type "tuple", data := .seq #[e.key, e.val] }) it d (i + 1) es.size ep ok ov := Á _ e1;have t2 : (h1.push { cls := .type "tuple", data := .seq #[e.key, e.val] }).get? hp.objs.size = some { cls := .type "tuple", data := .seq #[e.key, e.val] } := by rw [<- z1]; exact Ç _ rfl
 have k2 : ∀ b o, b ≠ it -> hp.get? b = some o -> (h1.push { cls := .type "tuple", data := .seq #[e.key, e.val] }).get? b = some o := λ b o hb q => Á _ (Ol.extBut b o hb q);show wpAny _ _ (Builtin.Dict_items.ownedTupleIsFree (.ref it) >>= _) _ _ ⟨h1.push { cls := .type "tuple", data := .seq #[e.key, e.val] }, gn, dr, tk, os⟩;rw [z1];generalize h1.push { cls := .type "tuple", data := .seq #[e.key, e.val] } = h2 at e2 t2 k2 ⊢;unfold Builtin.Dict_items.ownedTupleIsFree;refine À (À (þ e2 rfl (x := .none) rfl (Â ?_)));simp only [if_true];refine À (þ e2 rfl (x := ok) rfl (À (þ e2 rfl (x := ov) rfl (À (ú e2 (by simp) λ h3 e3 s3 => ?_)))))
 replace s3 : Heap.SameBut it h2 h3 := s3;replace e3 : IsItemIter h3 it d (i + 1) es.size ep e.key ov := e3;refine À (ú e3 (by simp) λ h4 e4 s4 => ?_)
 replace s4 : Heap.SameBut it h3 h4 := s4;replace e4 : IsItemIter h4 it d (i + 1) es.size ep e.key e.val := e4;refine À (ú e4 (by simp) λ h5 e5 s5 => ?_)
 replace s5 : Heap.SameBut it h4 h5 := s5;replace e5 : IsItemIterOut h5 it d (i + 1) es.size ep e.key e.val hp.objs.size := e5;refine À (ú e5 (by simp) λ h6 e6 s6 => ?_)
 replace s6 : Heap.SameBut it h5 h6 := s6;replace e6 : IsItemIterOut h6 it d (i + 1) es.size ep e.key e.val hp.objs.size := e6;have up : ∀ b o, b ≠ it -> h2.get? b = some o -> h6.get? b = some o := λ b o hb q => s6.extBut b o hb (s5.extBut b o hb (s4.extBut b o hb (s3.extBut b o hb q)));exact À (LF (Â (Â ⟨_, rfl, Â (k h6 e6 (up _ _ (Β ltI) t2) λ b o hb q => up b o hb (k2 b o hb q))⟩)))
theorem wH {Q : Option Value -> Shared -> Prop} (hh : A.handled = none) (hi : IsItemIter s.heap it d i es.size ep ok ov) (ho : s.heap.get? d = some od) (Ja : od.data = .dict es ep) (he : es.size <= i)
  (k : ∀ h', Heap.ExtBut it s.heap h' -> Q none { s with heap := h' }) : wpAny (model prog w) A (pyNext (.ref it)) Q E s := by
 have T0 : s.TypeIs (.ref it) "dict_itemiterator" := ⟨_, hi, rfl⟩;unfold pyNext;refine À (ğ (Ĉ (name := Str.ofString "__next__") T0 Č (ô Č T0 Ij (À (Â (À (À (À (ķ T0 (Â (À (IQ hi rfl ?_)))))))))  (Ib _))));simp only [nM, if_true];show wpAny _ _ (if (Value.ref d == Value.none) = true then _ else _) _ _ _
 rw [Ë (gU d)];refine À (Â (À (ō ho Ja ?_)));rw [Ë (by simp)]
 refine À (Â (À (ţ ho Ja ?_)));rw [Ë (by simp)]
 refine Â ?_;simp only [show ¬ ((i : Int) < 0) from by omega, if_false, Int.toNat_natCast, Array.getElem?_eq_none he]
 refine À (À (ķ T0 (Â ?_)));show wpAny _ _ (setField (.ref it) 2 .none >>= _) _ _ s;refine À (Ő hi rfl (by simp) (wpAny_bind ?_))
 simp only [newExc, newTuple];refine À (â (À (m := firstArgMember _ _) (p_ (a := Value.none) (by first | rfl | (simp only [firstArgMember]; rfl)) (â ?_ (by size_fits)))) (by size_fits))
 simp only [raiseNew];refine À (wpAny_handled ?_);rw [show A.in1.handled = none from hh];refine À (Â (LD (À ?_)));exact ž (T := "StopIteration") (b := true) ⟨_, Ç _ rfl, rfl⟩ isSubtype_stop (Â (k _ (((ζ ..).extBut.push _).push _)))
theorem tN {Q : bo} (hT : s.TypeIs (.ref d) "dict") (hd : (d == sysModules) = false) (k : Q (.ref s.heap.objs.size) { s with heap := s.heap.push { cls := .type "dict_items", data := .fields #[.ref d] } }) : wpAny (model prog w) A (call (.builtin "dict.items") [.ref d]) Q E s := by
 have m : MeetsIn prog w (Builtin.«dict.items» ⟨[.ref d], []⟩) (λ _ R s => s.TypeIs (.ref d) "dict" /\ R (.ok (.ret (.ref s.heap.objs.size))) { s with heap := s.heap.push { cls := .type "dict_items", data := .fields #[.ref d] } }) := .of_wp λ A R s ⟨hT, h⟩ => by
  unfold Builtin.«dict.items» Builtin.Dict.noArgs Builtin.Dict.showsAll;refine À (À (Ź hT (Â ?_)));show wpAny _ _ ((if (d == sysModules) = true then _ else _) >>= _) _ _ s
  rw [Ë (by rw [hd]; exact Ì)]
  exact À (Â (À (â (Â ⟨_, rfl, h⟩))))
 exact J' LG hT PySem.F.entry_dict_items (PySem.F.args_dict_items_1 _) m ⟨hT, k⟩
theorem uU {Q : bo} (hT : s.TypeIs (.ref d) "dict") (hd : (d == sysModules) = false) (k : Q (.ref s.heap.objs.size) { s with heap := s.heap.push { cls := .type "dict_values", data := .fields #[.ref d] } }) : wpAny (model prog w) A (call (.builtin "dict.values") [.ref d]) Q E s := by
 have m : MeetsIn prog w (Builtin.«dict.values» ⟨[.ref d], []⟩) (λ _ R s => s.TypeIs (.ref d) "dict" /\ R (.ok (.ret (.ref s.heap.objs.size))) { s with heap := s.heap.push { cls := .type "dict_values", data := .fields #[.ref d] } }) := .of_wp λ A R s ⟨hT, h⟩ => by
  refine À ?_;unfold Builtin.Dict.noArgs;refine À (Ź hT (Â ?_));show wpAny _ _ (Builtin.Dict.showsAll d >>= _) _ _ s;unfold Builtin.Dict.showsAll;show wpAny _ _ ((if (d == sysModules) = true then _ else _) >>= _) _ _ s
  rw [Ë (by rw [hd]; exact Ì)]
  exact À (Â (À (â (Â ⟨_, rfl, h⟩))))
 exact J' ι hT PySem.F.entry_dict_values (PySem.F.args_dict_values_1 _) m ⟨hT, k⟩
theorem rg {v : Addr} {Q : bo} (hv : s.heap.IsItemsView v d) (ho : s.heap.get? d = some od) (Ja : od.data = .dict es ep)
  (k : Q (.ref s.heap.objs.size) { s with heap := s.heap.push { cls := .type "dict_itemiterator", data := .fields #[.none, .bool false, .ref d, .int 0 0, .int es.size 0, .int ep 0, .none, .none] } }) : wpAny (model prog w) A (pyIter (.ref v)) Q E s := by
 obtain ⟨oi, KA, Qg, Le⟩ := id hv;refine J8 hv.typeIs JK (ô JK hv.typeIs PySem.F.entry_dict_items_iter ?_ (PySem.F.args_dict_items_iter_1 _));unfold Builtin.«dict_items.__iter__» Builtin.Dict_items.dictOf Builtin.Dict_items.newIterator;refine À (Â (À (À (þ KA Le (x := .ref d) rfl (Â (À (À (ō ho Ja (À (ţ ho Ja ?_))))))))));simp only [nM, if_true];refine â (Â ⟨_, rfl, "dict_itemiterator", _, ⟨_, Ç _ rfl, rfl⟩, Č.lookup, ?_⟩) (by simp only [sizeOk, Builtin.Dict_items.ownedTupleFields, List.size_toArray, List.length_append, List.length_cons, List.length_nil, sizeLine_eq]; omega)
 simpa [rawInt, Builtin.Dict_items.ownedTupleFields] using k
end
def xU : HO -> Prop
 | .dK _ => True
 | .dT _ => True
 | _ => False
def dU : HO -> Nat
 | .dK kvs => kvs.length
 | .dT kvs => kvs.length
 | _ => 0
def qy (H : Hp) (u : HO) (i : Nat) (kx v : V) : Prop :=
 (∃ kvs k, u = .dK kvs /\ kvs[i]? = some (k, v) /\ kx = kV k) \/ ∃ kvs k b, u = .dT kvs /\ kvs[i]? = some (k, v) /\ kx = .ref b /\ H b = some (.tup (k.map kV))
theorem u8 {P : Program} {w : World} {k : Key} {u : Value} (h : (aG P w).is k u = true) : RelV (kV k) u := by
 rw [iM] at h;rcases aE h with ⟨i, t, rfl, rfl⟩ | ⟨x, t, rfl, rfl⟩ | ⟨rfl, rfl⟩
 ·exact ⟨t, rfl⟩
 ·exact ⟨t, rfl⟩
 ·rfl
theorem bP {α β : Type} {R : α -> β -> Prop} : ∀ {xs : List α} {ys : List β}, Paired R xs ys -> ∀ {i : Nat} {y : β}, ys[i]? = some y -> ∃ x, xs[i]? = some x /\ R x y
 | _, _, .nil, i, y, h => by simp at h
 | _, _, .cons r _, 0, y, h => by cases h; exact ⟨_, rfl, r⟩
 | _, _, .cons _ t, i + 1, y, h => bP t h
theorem kQ {P : Program} {w : World} {H : Hp} {h : Heap} {d : Addr} {u : HO} (D : xU u) (o : ù P w H h d u) : ∃ ob es ep, h.get? d = some ob /\ ob.ExactDict /\ ob.data = .dict es ep /\ (d == sysModules) = false /\ es.size = dU u /\ ∀ (i : Nat) e, es[i]? = some e -> ∃ kx v, qy H u i kx v /\ RelV kx e.key /\ RelV v e.val := by
 cases u with
 | dK kvs =>
  obtain ⟨z, hd, vs, rel, ob, es, ep, h1, h2, h3, h4, h5, h6⟩ := o;refine ⟨ob, es, ep, h1, h2, h3, hd, ?_, λ i e he => ?_⟩
  ·have l1 := h5.length;have l2 : kvs.length = vs.length := å rel;show es.size = kvs.length;rw [l2, <- l1];simp
  ·have l1 := h5.length;have lt : i < es.size := (ç.mp he).1;have lt' : i < vs.length := by rw [<- l1]; simpa using lt
   have hv := Ã lt';obtain ⟨a1, a2⟩ := h5.get? (e := e) (by simpa using he) (show vs[i]? = some (vs[i].1, vs[i].2) from hv)
   obtain ⟨p, hp, r1, r2⟩ := bP rel hv;refine ⟨kV p.1, p.2, .inl ⟨kvs, p.1, rfl, hp, rfl⟩, ?_, ?_⟩
   ·rw [r1]; exact u8 a1
   ·rw [a2]; exact r2
 | dT kvs =>
  obtain ⟨z, hd, xs, rel, ob, es, ep, h1, h2, h3, h4, h5⟩ := o;refine ⟨ob, es, ep, h1, h2, h3, hd, ?_, λ i e he => ?_⟩
  ·have l2 : kvs.length = xs.length := å rel;show es.size = kvs.length;rw [l2, <- Iq, h4, Å]
  ·have KR : es.toList[i]? = some e := by simpa using he
   rw [h4, Ê] at KR;obtain ⟨x, hx, rfl⟩ := đ.mp KR;obtain ⟨p, hp, r1, r2, r3⟩ := bP rel hx;exact ⟨.ref x.2.1, p.2, .inr ⟨kvs, p.1, x.2.1, rfl, hp, rfl, r2⟩, rfl, r3⟩
 | _ => exact D.elim
def Fz (H : Hp) (d : Addr) (o : Obj) (u : HO) (H' : Hp) : Prop := H' d = some (.f_ o u) /\ ∀ b, b ≠ d -> H' b = H b
theorem sK {X : Cx} {pins : List (Addr × Obj)} {σ : St} {H : Hp} {s : Shared} {d : Addr} {u : HO} (I : Inv X pins σ H s) (D : xU u) (e : Rd H d u) : ∃ o H', s.heap.get? d = some o /\ Fz H d o u H' /\ Inv X pins σ H' s := by
 rcases e with e | ⟨o, e⟩
 ·have ok := I.Ą d u e;obtain ⟨ob, es, ep, h1, _⟩ := kQ D ok;refine ⟨ob, ak H d (.f_ ob u), h1, ⟨aQ, λ b hb => ag hb⟩, ?_⟩;have mu : AG (H d) := by
   rw [e];cases u with
   | dK kvs => exact True.intro
   | dT kvs => exact True.intro
   | _ => exact D.elim
  have new : ù X.prog X.w (ak H d (.f_ ob u)) s.heap d (.f_ ob u) := by
   refine ⟨h1, ?_⟩;cases u with
   | dK kvs => exact ok
   | dT kvs =>
    obtain ⟨z, hd, xs, rel, r⟩ := ok;refine ⟨z, hd, xs, KT.keeps rel λ c ys ec => ?_, r⟩;rw [ag (λ q => by rw [q, e] at ec; cases ec)]
    exact ec
   | _ => exact D.elim
  exact eV (h' := s.heap) (t' := s.toks) I mu ⟨rfl, λ _ _ => rfl⟩ ⟨ob, h1⟩ new
 ·exact ⟨o, H, (show ù X.prog X.w H s.heap d (.f_ o u) from I.Ą d _ e).1, ⟨e, λ _ _ => rfl⟩, I⟩
def Ch (d : Addr) (o : Obj) (u : HO) : It :=
 ⟨λ i H => H d = some (.f_ o u) /\ i < dU u, λ i H x H' => ∃ p kx v, x = .ref p /\ H p = none /\ qy H u i kx v /\ H' = ak H p (.tup [kx, v]), λ i H => H d = some (.f_ o u) /\ dU u <= i⟩
theorem gT {P : Program} {w : World} {H : Hp} {h : Heap} {d : Addr} {u : HO} {o : Obj} {es : Array DictEntry} {ep : Nat} (D : xU u) (ok : Ų P w H h) (e : H d = some (.f_ o u)) (hd : o.data = .dict es ep) : h.get? d = some o /\ es.size = dU u /\ ∀ (i : Nat) e, es[i]? = some e -> ∃ kx v, qy H u i kx v /\ RelV kx e.key /\ RelV v e.val := by
 obtain ⟨h0, h1⟩ := (show ù P w H h d (.f_ o u) from ok d _ e);obtain ⟨ob, OH, OI, g1, g2, g3, g4, g5, g6⟩ := kQ D h1;rw [h0] at g1;cases g1;rw [hd] at g3;cases g3;exact ⟨h0, g5, g6⟩
theorem uZ {P : Program} {w : World} {K : Frag} {elts : List Expr} {x1} {pos : Pos} {d it : Addr} {o : Obj} {u : HO} {es : Array DictEntry} {ep : Nat} (D : xU u) (hd : o.data = .dict es ep) : mH P w K (.Tuple elts x1 pos) (Ch d o u) [it] it (λ i h => ∃ ok ov, IsItemIter h it d i es.size ep ok ov) where
 mem := by simp
 obj := λ i h st b hb => by
  obtain ⟨ok, ov, q⟩ := st;have e : b = it := by simpa using hb
  subst e;exact ⟨_, q, λ v z => by cases z⟩
 keep := λ i h h' st k => let ⟨ok, ov, q⟩ := st; ⟨ok, ov, k it (by simp) _ q⟩
 item := by
  intro X hP hw hK hc i pins s σ H E I hf st hg;subst hP hw hK;obtain ⟨MM, Ű⟩ := hg;obtain ⟨ok, ov, hi⟩ := st;obtain ⟨ho, hsz, rel⟩ := gT D I.Ą MM hd;obtain ⟨f0, f1, f2, f3, f4, f5⟩ := hf it (by simp)
  have he := KM (show i < es.size by omega)
  obtain ⟨kx, v, pr, rk, rv⟩ := rel i _ he;generalize es[i]'af = e at he rk rv;refine uE hi ho hd he λ h1 LU PM kk => ⟨_, rfl, wpAny_letOwnedTupleGo_items (s := { s with heap := h1 }) LU λ h2 Oz sb => ?_⟩
  have K3 : Heap.SameBut it h1 h2 := sb;have ltI : it < s.heap.objs.size := Æ hi;have ne2 : s.heap.objs.size ≠ it := Β ltI;have PL : h2.get? s.heap.objs.size = some { cls := .type "tuple", data := .seq #[e.key, e.val] } := (K3.2 _ ne2).trans PM
  let hA : Heap := s.heap.update it λ _ => { cls := .type "dict_itemiterator", dict := none, data := .fields #[.none, .bool false, .ref d, .int ((i + 1 : Nat) : Int) 0, .int es.size 0, .int ep 0, e.key, e.val], slots := #[] }
  have IA : Inv X pins σ H { s with heap := hA, toks := s.toks } := I.turned (λ b ob hb q => by
   show hA.get? b = some ob;rw [Þ _ _ _ _ hb];exact q) f0 f1 f3 f4 f5
  have OV : hA.objs.size = s.heap.objs.size := F' _ _ _;refine ⟨.ref s.heap.objs.size, ak H s.heap.objs.size (.tup [kx, v]), ?_, rfl, ⟨_, kx, v, rfl, I.Ą.fresh (Ä _), pr, rfl⟩, ⟨_, _, Oz⟩, λ b hb => ?_⟩
  ·refine IA.laid (t' := s.toks) (λ b ob q => ?_) (j_ OV) ⟨ft, [e.key, e.val], .cons rk (.cons rv .nil), ⟨_, PL, rfl, _, rfl⟩⟩;have q' : hA.get? b = some ob := q;by_cases z1 : b = it
   ·subst z1;rw [ï _ hi rfl] at q';cases q';exact Oz
   ·rw [Þ _ _ _ _ z1] at q';exact (K3.2 b z1).trans (kk b ob z1 q')
  ·have e' : b = it := by simpa using hb
   subst e';rw [ag (Ne.symm ne2)];exact f0
 done := by
  intro X hP hw hK hc i pins s σ H E I hf st hg;subst hP hw hK;obtain ⟨MM, Ű⟩ := hg;obtain ⟨ok, ov, hi⟩ := st;obtain ⟨ho, hsz, rel⟩ := gT D I.Ą MM hd;obtain ⟨f0, f1, f2, f3, f4, f5⟩ := hf it (by simp)
  exact wH (I.ok.hd hc) hi ho hd af λ h' eb => ⟨rfl, I.turned (t' := s.toks) (λ b ob hb q => eb b ob hb q) f0 f1 f3 f4 f5⟩
 self := λ A i s Q E st k => by
  obtain ⟨ok, ov, hi⟩ := st;exact kcp_self hi k
section
variable {X : Cx} {o : Expr} {ų š : Pos} {tl : TE}
def Aj (tl : TE) : TI := λ σ H R => tl σ H λ x H1 => ∃ d u, x = .ref d /\ xU u /\ Rd H1 d u /\ ∀ ob H2, Fz H1 d ob u H2 -> R (Ch d ob u) H2
theorem tR {P : Program} {w : World} {H : Hp} {h : Heap} {d : Addr} {u : HO} (D : xU u) (ok : Ų P w H h) (e : Rd H d u) : ù P w H h d u := by
 rcases e with e | ⟨o, e⟩
 ·exact ok d u e
 ·exact (show ù P w H h d (.f_ o u) from ok d _ e).2
theorem lU {elts : List Expr} {x1} {pt : Pos} (ho : PE X o tl) (HZ : attributeBase o "items" X.env (eval o X.env) = eval o X.env := by rfl) (HY : (ų.endLine == š.line) = true := by rfl) : PI X (.Tuple elts x1 pt) (.Call (.Attribute o "items" ų) [] [] š) (Aj tl) := by
 intro pins s σ H R I h;refine B' HZ HY (aA (ho pins s σ H _ I h) λ v s1 ⟨x, H1, I1, r1, q1⟩ => ?_);obtain ⟨d, u, rfl, D, rd, q⟩ := q1;cases (show v = Value.ref d from r1);obtain ⟨ob, es, ep, g1, g2, g3, g4, g5, g6⟩ := kQ D (tR D I1.Ą rd);have hT : s1.TypeIs (.ref d) "dict" := ⟨ob, g1, g2.1⟩;refine ⟨"dict", "dict.items", ŗ, LG, PySem.F.type_dict_items, hT, λ b hb => by cases hb; exact ⟨ob, g1, g2.2.1⟩, ŀ rfl (Ii (tN hT g4 ?_))⟩
 obtain ⟨Pd, H2, f1, f2, I2⟩ := sK I1 D rd;have eo : Pd = ob := by rw [g1] at f1; exact (Ð f1).symm
 subst eo;refine rg (s := { s1 with heap := s1.heap.push { cls := .type "dict_items", data := .fields #[.ref d] } }) ⟨_, Ç _ rfl, rfl, rfl⟩ (Á _ g1) g3 ?_
 have I3 : Inv X pins σ H2 { s1 with heap := (s1.heap.push { cls := .type "dict_items", data := .fields #[.ref d] }), toks := s1.toks } := I2.kept λ b ob e => Á _ e
 generalize hh : s1.heap.push { cls := .type "dict_items", data := .fields #[.ref d] } = hB at I3 ⊢;refine ⟨hB.objs.size, [hB.objs.size], _, _, H2, rfl, I3.kept (t' := s1.toks) λ b ob e => Á _ e, uZ (es := es) (ep := ep) D g3, ⟨.none, .none, ?_⟩, λ b hb => ?_, q _ _ f2⟩
 ·exact Ç _ rfl
 ·have e : b = hB.objs.size := by simpa using hb
  subst e;exact I3.Jb (Ä _) (I3.Ą.fresh (Ä _))
end
theorem vW {d : Addr} {ob : Obj} {u : HO} {g : TG} {tb : TS} {D : aY} {σ : St} {H : Hp} (Pv : Nat -> St -> Hp -> Prop) (h0 : Pv 0 σ H) (hf : ∀ i σ H, Pv i σ H -> H d = some (.f_ ob u))
  (hs : ∀ i σ H p kx v, i < dU u -> Pv i σ H -> H p = none -> qy H u i kx v -> g (.ref p) σ (ak H p (.tup [kx, v])) λ ľ H2 => tb { D with nx := Pv (i + 1), ct := Pv (i + 1), bk := D.nx } ľ H2) (hd : ∀ σ H, Pv (dU u) σ H -> D.nx σ H) :
  ∃ W : Nat -> Nat -> St -> Hp -> Prop, (∃ m, W 0 m σ H) /\ ∀ i m σ H, W i m σ H ->
   ((Ch d ob u).stop i H /\ D.nx σ H) \/ ((Ch d ob u).go i H /\ ∃ N : St -> Hp -> Prop, (∀ Ē H', N Ē H' -> ∃ m', m' < m /\ W (i + 1) m' Ē H') /\ ∀ x H', (Ch d ob u).IB i H x H' -> g x σ H' λ ľ H2 => tb { D with nx := N, ct := N, bk := D.nx } ľ H2) := by
 refine ⟨λ i m σ H => m = dU u - i /\ i <= dU u /\ Pv i σ H, ⟨dU u, by simp, Nat.zero_le _, h0⟩, ?_⟩
 rintro i m σ H ⟨rfl, hi, p⟩;have q := hf i σ H p;by_cases Ű : i < dU u
 ·refine .inr ⟨⟨q, Ű⟩, Pv (i + 1), λ Ē H' n => ⟨dU u - (i + 1), af, rfl, Ű, n⟩, ?_⟩;rintro x H' ⟨p', kx, v, rfl, hp, pr, rfl⟩;exact hs i σ H p' kx v Ű p hp pr
 ·have e : i = dU u := af;subst e;exact .inl ⟨⟨q, Ä _⟩, hd σ H p⟩
section
variable {prog : Program} {w : World} {A : Around} {E : bo} {s : Shared} {it d : Addr} {i ep : Nat} {es : Array DictEntry} {od : Obj} {e : DictEntry}
theorem t5 : Builtin.Dict_items.ownsTuple "dict_keyiterator" = false := am
theorem uF {Q : Option Value -> Shared -> Prop} (hi : s.heap.IsKeyIter it d i es.size ep) (ho : s.heap.get? d = some od) (Ja : od.data = .dict es ep) (he : es[i]? = some e)
  (k : ∀ h', h'.IsKeyIter it d (i + 1) es.size ep -> Heap.SameBut it s.heap h' -> Q (some e.key) { s with heap := h' }) : wpAny (model prog w) A (pyNext (.ref it)) Q E s := by
 obtain ⟨oi, KA, Qg, Le⟩ := id hi;have T0 := hi.typeIs;unfold pyNext;refine À (ğ (Ĉ (name := Str.ofString "__next__") T0 Ď (ô Ď T0 Iy (À (Â (À (À (À (Ļ T0 (Â (À (IQ KA Le ?_)))))))))  (Il _))));simp only [t5, Bool.false_eq_true, if_false];show wpAny _ _ (if (Value.ref d == Value.none) = true then _ else _) _ _ _
 rw [Ë (gU d)];refine À (Â (À (ō ho Ja ?_)));rw [Ë (by simp)]
 refine À (Â (À (ţ ho Ja ?_)));rw [Ë (by simp)]
 refine Â ?_;simp only [show ¬ ((i : Int) < 0) from by omega, if_false, Int.toNat_natCast, he]
 refine À (À (Ļ T0 (Â (À (wpAny_isOneOf_keyiter T0 ?_)))));show wpAny _ _ (setField (.ref it) 1 (rawInt ((i : Int) + 1)) >>= _) _ _ s;have N0 : (s.heap.update it (Obj.mapFields (·.setIfInBounds 1 (rawInt ((i : Int) + 1))))).IsKeyIter it d (i + 1) es.size ep :=
  ⟨_, ï _ KA (Obj.isFreed_of_fields (Ť Le _)), (Obj.cls_mapFields ..).trans Qg, by rw [Ť Le]; simp [rawInt]⟩
 have T1 : Shared.TypeIs { s with heap := s.heap.update it (Obj.mapFields (·.setIfInBounds 1 (rawInt ((i : Int) + 1)))) } (.ref it) "dict_keyiterator" := Heap.IsKeyIter.typeIs (s := { s with heap := s.heap.update it (Obj.mapFields (·.setIfInBounds 1 (rawInt ((i : Int) + 1)))) }) N0
 refine À (Ő KA Le (by simp) (wpAny_bind (wpAny_holding (wpAny_bind (wpAny_isOneOf_keyiter T1 ?_)))))
 show wpAny _ _ (pure e.key) _ _ _;exact Â (Â ⟨_, rfl, Â (k _ N0 (ζ ..))⟩)
theorem vG {Q : Option Value -> Shared -> Prop} (hh : A.handled = none) (hi : s.heap.IsKeyIter it d i es.size ep) (ho : s.heap.get? d = some od) (Ja : od.data = .dict es ep) (he : es.size <= i)
  (k : ∀ h', Heap.ExtBut it s.heap h' -> Q none { s with heap := h' }) : wpAny (model prog w) A (pyNext (.ref it)) Q E s := by
 obtain ⟨oi, KA, Qg, Le⟩ := id hi;have T0 := hi.typeIs;unfold pyNext;refine À (ğ (Ĉ (name := Str.ofString "__next__") T0 Ď (ô Ď T0 Iy (À (Â (À (À (À (Ļ T0 (Â (À (IQ KA Le ?_)))))))))  (Il _))));simp only [t5, Bool.false_eq_true, if_false];show wpAny _ _ (if (Value.ref d == Value.none) = true then _ else _) _ _ _
 rw [Ë (gU d)];refine À (Â (À (ō ho Ja ?_)));rw [Ë (by simp)]
 refine À (Â (À (ţ ho Ja ?_)));rw [Ë (by simp)]
 refine Â ?_;simp only [show ¬ ((i : Int) < 0) from by omega, if_false, Int.toNat_natCast, Array.getElem?_eq_none he]
 refine À (À (Ļ T0 (Â ?_)));show wpAny _ _ (setField (.ref it) 0 .none >>= _) _ _ s;refine À (Ő KA Le (by simp) (wpAny_bind ?_))
 simp only [newExc, newTuple];refine À (â (À (m := firstArgMember _ _) (p_ (a := Value.none) (by first | rfl | (simp only [firstArgMember]; rfl)) (â ?_ (by size_fits)))) (by size_fits))
 simp only [raiseNew];refine À (wpAny_handled ?_);rw [show A.in1.handled = none from hh];refine À (Â (LD (À ?_)));exact ž (T := "StopIteration") (b := true) ⟨_, Ç _ rfl, rfl⟩ isSubtype_stop (Â (k _ (((ζ ..).extBut.push _).push _)))
theorem uz {Q : bo} (hT : s.TypeIs (.ref d) "dict") (hd : (d == sysModules) = false) (ho : s.heap.get? d = some od) (Ja : od.data = .dict es ep)
  (k : Q (.ref s.heap.objs.size) { s with heap := s.heap.push { cls := .type "dict_keyiterator", data := .fields #[.ref d, .int 0 0, .int es.size 0, .int ep 0] } }) : wpAny (model prog w) A (pyIter (.ref d)) Q E s := by
 refine J8 hT L8 (ô L8 hT PySem.F.entry_dict_iter ?_ (PySem.F.args_dict_iter_1 _));unfold Builtin.«dict.__iter__» Builtin.Dict.dictSlotNone;refine À (À (Ź hT (À ?_)));show wpAny _ _ (pure _) _ _ s;refine Â (Â ?_);show wpAny _ _ (Builtin.Dict.showsAll d >>= _) _ _ s;unfold Builtin.Dict.showsAll;show wpAny _ _ ((if (d == sysModules) = true then _ else _) >>= _) _ _ s
 rw [Ë (by rw [hd]; exact Ì)]
 refine À (Â (À (ō ho Ja (À (ţ ho Ja ?_)))));refine À (â (Â ⟨_, rfl, "dict_keyiterator", _, ⟨_, Ç _ rfl, rfl⟩, Ď.lookup, ?_⟩))
 simpa [rawInt] using k
end
def G0 (d : Addr) (o : Obj) (u : HO) : It :=
 ⟨λ i H => H d = some (.f_ o u) /\ i < dU u, λ i H x H' => H' = H /\ ∃ v, qy H u i x v, λ i H => H d = some (.f_ o u) /\ dU u <= i⟩
theorem uB {P : Program} {w : World} {K : Frag} {tg : Expr} {d it : Addr} {o : Obj} {u : HO} {es : Array DictEntry} {ep : Nat} (D : xU u) (hd : o.data = .dict es ep) : mH P w K tg (G0 d o u) [it] it (λ i h => h.IsKeyIter it d i es.size ep) where
 mem := by simp
 obj := λ i h st b hb => by
  obtain ⟨oi, q, c, dd⟩ := st;have e : b = it := by simpa using hb
  subst e;exact ⟨oi, q, λ v z => by rw [dd] at z; cases z⟩
 keep := λ i h h' st k => by
  obtain ⟨oi, q, c, dd⟩ := st;exact ⟨oi, k it (by simp) _ q, c, dd⟩
 item := by
  intro X hP hw hK hc i pins s σ H E I hf st hg;subst hP hw hK;obtain ⟨MM, Ű⟩ := hg;obtain ⟨ho, hsz, rel⟩ := gT D I.Ą MM hd;obtain ⟨f0, f1, f2, f3, f4, f5⟩ := hf it (by simp)
  have he := KM (show i < es.size by omega)
  obtain ⟨kx, v, pr, rk, rv⟩ := rel i _ he;refine uF st ho hd he λ h1 LU sb => ?_;have I1 : Inv X pins σ H { s with heap := h1 } := I.turned (t' := s.toks) (λ b ob hb q => (sb.2 b hb).trans q) f0 f1 f3 f4 f5
  obtain ⟨oi, q, c, dd⟩ := id LU;exact ⟨_, rfl, qe (s := { s with heap := h1 }) q c dd am ⟨kx, H, I1, rk, ⟨rfl, v, pr⟩, LU, λ b hb => (hf b hb).1⟩⟩
 done := by
  intro X hP hw hK hc i pins s σ H E I hf st hg;subst hP hw hK;obtain ⟨MM, Ű⟩ := hg;obtain ⟨ho, hsz, rel⟩ := gT D I.Ą MM hd;obtain ⟨f0, f1, f2, f3, f4, f5⟩ := hf it (by simp)
  exact vG (I.ok.hd hc) st ho hd af λ h' eb => ⟨rfl, I.turned (t' := s.toks) (λ b ob hb q => eb b ob hb q) f0 f1 f3 f4 f5⟩
 self := λ _ _ _ _ _ st k => wpAny_pyIter_keyiter st k
def Bw (tl : TE) : L2.TI := λ σ H R => tl σ H λ x H1 => ∃ d u, x = .ref d /\ xU u /\ Rd H1 d u /\ ∀ ob H2, Fz H1 d ob u H2 -> R (G0 d ob u) H2
theorem gX {X : Cx} {o tg : Expr} {tl : TE} (ho : PE X o tl) : PI X tg o (Bw tl) := by
 intro pins s σ H R I h;refine aA (ho pins s σ H _ I h) λ v s1 ⟨x, H1, I1, r1, q1⟩ => ?_;obtain ⟨d, u, rfl, D, rd, q⟩ := q1;cases (show v = Value.ref d from r1);obtain ⟨ob, es, ep, g1, g2, g3, g4, g5, g6⟩ := kQ D (tR D I1.Ą rd);have hT : s1.TypeIs (.ref d) "dict" := ⟨ob, g1, g2.1⟩;obtain ⟨Pd, H2, f1, f2, I2⟩ := sK I1 D rd;have eo : Pd = ob := by rw [g1] at f1; exact (Ð f1).symm
 subst eo;refine uz hT g4 g1 g3 ?_;refine ⟨s1.heap.objs.size, [s1.heap.objs.size], _, _, H2, rfl, I2.kept (t' := s1.toks) λ b ob e => Á _ e, uB (es := es) (ep := ep) D g3, ⟨_, Ç _ rfl, rfl, rfl⟩, λ b hb => ?_, q _ _ f2⟩;have e : b = s1.heap.objs.size := by simpa using hb
 subst e;exact I2.Jb (Ä _) (I2.Ą.fresh (Ä _))
theorem mO : ∀ {xs : List V} {us : List Value}, xs.length = us.length -> (∀ (j : Nat) x u, xs[j]? = some x -> us[j]? = some u -> RelV x u) -> Vals xs us
 | [], [], _, _ => .nil
 | x :: xs, u :: us, l, h => .cons (h 0 x u rfl rfl) (mO (by simpa using l) λ j x u h1 h2 => h (j + 1) x u (by simpa using h1) (by simpa using h2))
 | [], _ :: _, l, _ => by simp at l
 | _ :: _, [], l, _ => by simp at l
section
variable {X : Cx} {pins : List (Addr × Obj)} {σ : St} {H : Hp} {s : Shared} {d : Addr} {kvs : List (Key × V)}
theorem qN {a : Addr} {o : HO} {t' : Nat} {h' : Heap} (I : Inv X pins σ H s) (k : ∀ b u, s.heap.get? b = some u -> h'.get? b = some u) (hf : ∀ b u, s.heap.get? b = some u -> b < a) (hn : H a = none) (new : ù X.prog X.w (ak H a o) h' a o) :
  Inv X pins σ (ak H a o) { s with heap := h', toks := t' } := by
 have hs : sysModules ≠ a := by
  obtain ⟨ob, _, _, ho, _⟩ := I.mod.glob.keeps I.bk;exact Í (ŉ (by decide : sysModules < mainGlobals) (hf _ _ ho))
 refine I.un ⟨λ b u q _ _ _ => k b u q, λ b u q _ _ _ => ⟨u.slots, k b u q⟩, λ b u q n _ => ?_, λ b u q _ => ⟨u, k b u q⟩, λ b xs q => ?_, λ b u xs q => ?_, λ b ps q => ⟨#[], ?_⟩, λ q => ?_⟩ λ b u e => ?_
 ·rw [ag (Í (hf b u q))]; exact n
 ·rw [ag (aN q hn)]; exact q
 ·rw [ag (aN q hn)]; exact q
 ·rw [ag (aN q hn), q]; simp
 ·rw [ag hs]; exact q
 ·by_cases hb : b = a
  ·subst hb; rw [aQ] at e; cases e; exact new
  ·rw [ag hb] at e;exact (I.Ą b u e).m_ (λ c v _ q => k c v q) (λ c q => by rw [ag (aN q hn)]; exact q) λ c xs q => by rw [ag (aN q hn)]; exact q
theorem vD {h' : Heap} (I : Inv X pins σ H s) (k : ∀ b u, s.heap.get? b = some u -> h'.get? b = some u) : H h'.objs.size = none := by
 cases e : H h'.objs.size with
 | none => rfl
 | some o =>
  exact absurd ((I.Ą.kept k).lt e) (Ă _)
theorem sF (I : Inv X pins σ H s) (e : Rd H d (.dK kvs)) : kvs.length <= sizeLine /\ (d == sysModules) = false /\ ∃ vs ep, KV kvs vs /\ Heap.DictAt (aG X.prog X.w) s.heap d vs ep := by
 obtain ⟨z, hd, vs, rel, o⟩ := jC I.Ą e;obtain ⟨ep, at'⟩ := o.dictAt;exact ⟨z, hd, vs, ep, rel, at'⟩
theorem vi {vs : List (Key × Value)} {acc : Array Value} (rel : KV kvs vs) (it : ItemsOf (λ i v => ∃ k x, vs[i]? = some (k, x) /\ (aG X.prog X.w).is k v = true) acc vs.length) : Vals (kvs.map λ p => kV p.1) acc.toList := by
 have l : kvs.length = vs.length := å rel;refine mO (by rw [Å, l, <- it.1, Iq]) λ j x u h1 h2 => ?_
 obtain ⟨k, y, hk, is⟩ := it.2 j u (by simpa using h2)
 obtain ⟨p, hp, r1, _⟩ := bP rel hk;rw [Ê, hp] at h1;cases h1;show RelV (kV p.1) u;rw [show p.1 = k from r1];exact u8 is
def zH : List V -> Hp -> VK -> Prop := λ xs H Q => ∃ (d : Addr) (kvs : List (Key × V)) (ns : List Int), xs = [.ref d] /\ Rd H d (.dK kvs) /\ (kvs.map λ p => kV p.1) = ns.map V.int /\ ns.length < 64 /\ ∀ (l : Addr) (M6 : List Int), H l = none -> M6.Perm ns -> M6.Pairwise (· <= ·) -> Q (.ref l) (ak H l (.lst (M6.map V.int)))
theorem nO (hc : X.calm = true) : bv X (.builtin "sorted") zH := by
 intro pins s σ H xs us Q I r h;obtain ⟨d, kvs, ns, rfl, e, ek, hl, q⟩ := h;obtain ⟨u, rfl, rx⟩ := ck r;cases rx;obtain ⟨z, hd, vs, ep, rel, at'⟩ := sF I e;have l : kvs.length = vs.length := å rel;have lk : kvs.length = ns.length := by have := ĭ List.length ek; rwa [Å, Å] at this
 refine call_function_tree PyProof.Rows.kind_sorted PyProof.Rows.plain_sorted PyProof.Rows.entry_sorted (PyProof.Rows.args_sorted1 _) ?_;unfold Builtin.sorted;refine À (p_ (show checkCount "sorted" 1 1 _ = pure () from rfl) (À (kdu_collect (kdl_dict hd) (show (X.A.in1).handled = none from I.ok.hd hc) at' af λ h' tk acc kp it => ?_)));have vk := vi rel it;rw [ek] at vk;have ia := nB vk;have la : acc.toList.length < 64 := by have := vk.length; rw [Å] at this; omega
 refine À (â (À (ä ?_)) (by show acc.toList.length <= sizeLine; rw [Ú]; omega))
 have hT : h'.objs.size < (h'.push { cls := .type "list", data := .seq acc.toList.toArray }).objs.size := by rw [ö]; omega
 have hn := vD I kp;refine ô (s := { heap := h'.push { cls := .type "list", data := .seq acc.toList.toArray }, gens := s.gens, drawn := s.drawn, toks := tk, os := s.os }) PyProof.Rows.slot_list_sort ⟨_, Ç _ rfl, rfl⟩ PyProof.Rows.entry_list_sort (PyProof.Rows.list_sort_tree (Ç _ rfl) ia la λ out M6 a1 a2 a3 => ?_) (PyProof.Rows.args_list_sort _);obtain ⟨c, he⟩ := PyProof.Rows.sortedHeap_at (h := h'.push { cls := .type "list", data := .seq acc.toList.toArray }) (a := h'.objs.size) (vs := acc.toList) (out := out) (Ç _ rfl);refine ⟨.none, rfl, Â ⟨.ref h'.objs.size, _, qN (s := s) (t' := tk) I (λ b o eb => ?_) (λ b o eb => Æ (kp b o eb)) hn (show ù X.prog X.w _ _ _ (.lst (M6.map V.int)) from ⟨?_, out.toList, c, gp a1, by simpa using he⟩), rfl, q _ M6 hn a2 a3⟩⟩
 ·have R7 := kp b o eb;have lt := Æ R7;rw [PyProof.Rows.sortedHeap_old (Í lt) (ŉ lt hT)];exact Á _ R7
 ·rw [Å, a2.length_eq, Ú];omega
def xv (p d : Addr) : HO := .ext λ h => h.IsValuesView p d
def wF : V -> List V -> Hp -> VK -> Prop := λ x vs H Q => ∃ (d : Addr) (kvs : List (Key × V)), x = .ref d /\ vs = [] /\ Rd H d (.dK kvs) /\ ∀ p, H p = none -> Q (.ref p) (ak H p (xv p d))
theorem jO : DX X "dict.values" wF := by
 intro pins s σ H x vs v us Q I rx rv h;obtain ⟨d, kvs, rfl, rfl, e, q⟩ := h;cases rx;cases rv;obtain ⟨z, hd, vs, ep, rel, at'⟩ := sF I e;obtain ⟨o, es, ho, hx, _⟩ := id at';refine uU ⟨o, ho, hx.1⟩ hd ?_;exact ⟨.ref s.heap.objs.size, _, I.laid (t' := s.toks) (λ b o e => Á _ e) (Ä _) (show ù X.prog X.w _ _ _ (xv _ d) from ⟨⟨_, Ç _ rfl, rfl, rfl⟩, ⟨_, Ç _ rfl⟩, λ h1 h2 p k => by
  obtain ⟨o, e, r⟩ := p;exact ⟨o, k _ e, r⟩⟩), rfl, q _ (I.Ą.fresh (Ä _))⟩
theorem jU : ∀ ns : List Int, preSum (λ i => ns.getD i 0) ns.length = ns.sum
 | [] => rfl
 | n :: ns => by
  show preSum (λ i => (n :: ns).getD i 0) (ns.length + 1) = _;rw [kdu_shift, ß, <- jU ns];rfl
def sQ : List V -> Hp -> VK -> Prop := λ xs H Q => ∃ (p d : Addr) (kvs : List (Key × V)) (ns : List Int), xs = [.ref p] /\ H p = some (xv p d) /\ Rd H d (.dK kvs) /\ (kvs.map (·.2)) = ns.map V.int /\ Q (.int ns.sum) H
theorem eF (hc : X.calm = true) : bv X (.builtin "sum") sQ := by
 intro pins s σ H xs us Q I r h;obtain ⟨p, d, kvs, ns, rfl, hp, e, en, q⟩ := h;obtain ⟨u, rfl, rx⟩ := ck r;cases rx;obtain ⟨z, hd, vs, ep, rel, at'⟩ := sF I e;have l : kvs.length = vs.length := å rel;have hv : s.heap.IsValuesView p d := (I.Ą p _ hp).1;obtain ⟨oI, St, it, W, st⟩ := (kdl_values (knd := aG X.prog X.w) (d := d) (r := p) (kvs := vs) (ep := ep)).iter X.A.in1 s (show (X.A.in1).handled = none from I.ok.hd hc) ⟨hv, at'⟩;refine call_sum_walkG (it _ _ ?_);have val : ∀ i v, (∃ k, vs[i]? = some (k, v)) -> ∃ t, v = Value.int (ns.getD i 0) t := λ i v ⟨k, hk⟩ => by
  obtain ⟨q', hq, r1, r2⟩ := bP rel hk;have eq : (kvs.map (·.2))[i]? = some q'.2 := by rw [Ê, hq]; rfl
  rw [en, Ê] at eq;cases e : ns[i]? with
  | none => rw [e] at eq; cases eq
  | some n =>
   rw [e] at eq;have eq : V.int n = q'.2 := Ð eq;rw [<- eq] at r2;obtain ⟨t, r2⟩ := r2;refine ⟨t, ?_⟩;rw [show v = Value.int n t from r2, Ħ, e];rfl
 refine ⟨_, _, _, _, _, St, λ i => ns.getD i 0, rfl, W, st, ?_, val, λ h' tk t' k => ?_⟩
 ·intro b hb;show b < (s.heap.push oI).objs.size;rw [ö];simp only [List.mem_cons, List.not_mem_nil, or_false] at hb;rcases hb with rfl | rfl
  ·exact Nat.lt_succ_self _
  ·exact Į at'.lt_size
 ·have ln : vs.length = ns.length := by have := ĭ List.length en; rw [Å, Å] at this; omega
  rw [ln, jU];exact ⟨.int _, H, I.kept (t' := tk) λ b o eb => k b o (λ z => by rw [ď.mp z] at eb; exact absurd (Æ eb) (Ă _)) (Á _ eb), ⟨_, rfl⟩, q⟩
end
end My
namespace My
open PySem L2
section
variable {prog : Program} {w : World} {A : Around} {R : Result -> Shared -> Prop} {s : Shared}
theorem m5 {kx vx target iter : Expr} {scope : Scope} {pos : Pos} {it : Value} {D : Addr} {env : Env} (J : Nat -> Shared -> Prop)
  (turn : ∀ n s, J n s -> wpAny (model prog w) A (pyNext it) (λ r ą => match r with
   | none => R (.ok .next) ą
   | some v => wpAny (model prog w) A (letOwnedTupleGo target it v) (λ _ ũ => wpAny (model prog w) A (assign target env v) (λ _ l_ => wpAny (model prog w) A (eval kx env)
     (λ kv IV => wpAny (model prog w) A (eval vx env) (λ vv IU => wpAny (model prog w) A (dictSet D kv vv) (λ _ Ni => ∃ m, m < n /\ J m Ni) (λ _ _ => False) IU) (λ _ _ => False) IV) (λ _ _ => False) l_) (λ _ _ => False) ũ) (λ _ _ => False) ą) (λ _ _ => False) s)
  (n : Nat) (h : J n s) : codeAny (model prog w) A (.compLoop (.DictComp kx vx [⟨target, iter, [], 0⟩] scope pos) 0 it (.ref D) env) R s := by
 refine codeAny_loop rfl J (λ n s hJ => ?_) n h;show wpAny _ _ (Sem.onRaise (compTurn (.DictComp kx vx [⟨target, iter, [], 0⟩] scope pos) 0 it (.ref D) env) (λ x => do noteFrame x env; theTreesLotGoes x)) _ _ s
 refine wpAny_noted ?_;rw [compTurn_dict];refine À (ī (À (é (turn n s hJ) (λ r ą Ł => ?_) λ _ _ z => z.elim)));cases r with
 | none => exact Â Ł
 | some v =>
  refine À (é Ł (λ _ ũ IG => ?_) λ _ _ z => z.elim);refine À (é IG (λ _ l_ Jr => ?_) λ _ _ z => z.elim);refine À (Â ?_);exact À (À (é Jr (λ kv IV Kv => À (ä (é Kv (λ vv IU Ku => À (ī (ä (é Ku (λ _ Ni PH => Â ⟨rfl, PH⟩) λ _ _ z => z.elim)))) λ _ _ z => z.elim))) λ _ _ z => z.elim))
end
section
variable {X : Cx}
theorem y4 {pins : List (Addr × Obj)} {σ : St} {H : Hp} {s : Shared} {a : Addr} {kvs : List (Key × V)} {k : Key} {v : V} {u r : Value} {A : Around} {E : bo} {Q : Unit -> Shared -> Prop} (I : Inv X pins σ H s) (e : H a = some (.dK kvs)) (l : kvs.length < sizeLine) (ry : RelV (kV k) u) (rv : RelV v r)
  (h : ∀ s', Inv X pins σ (ak H a (.dK (aZ kvs k v))) s' -> Q () s') : wpAny (model X.prog X.w) A (dictSet a u r) Q E s := by
 obtain ⟨z, hd, vs, rel, dd⟩ := uj I.Ą e;refine wpAny_dictSet_pairs (jH ry) dd (λ h' Jh hs => h _ ?_) (by rw [<- rel.length]; exact z)
 have he : ∃ q, h'.get? a = some q := let ⟨q, _, _, hq, _⟩ := Jh; ⟨q, hq⟩
 exact eV I (by rw [e]; exact True.intro) hs he (oj (by have := bq kvs k v; omega) hd (rel.put k rv) Jh)
end
def FV (wi : TI) (k : Nat) (js : List Nat) (g : TG) (tk tv : TE) : TE := λ σ H Q => wi σ H λ J H1 => ∀ D, H1 D = none -> ∃ W : Nat -> Nat -> List (Key × V) -> Hp -> Prop, (∃ m, W 0 m [] (ak H1 D (.dK []))) /\
 ∀ i m ys H2, W i m ys H2 -> H2 D = some (.dK ys) /\ ((J.stop i H2 /\ Q (.ref D) H2) \/ (J.go i H2 /\ ys.length < sizeLine /\
  ∀ x H3, J.IB i H2 x H3 -> ∀ os : St, os.length = k -> g x (os ++ bA js σ) H3 λ ľ H0 => (∃ ū : St, ū.length = k /\ ľ = ū ++ bA js σ) /\ tk ľ H0 λ y H4 => tv ľ H4 λ v H5 => ∃ key, y = kV key /\ H5 D = some (.dK ys) /\ ∃ m', m' < m /\ W (i + 1) m' (aZ ys key v) (ak H5 D (.dK (aZ ys key v)))))
section
variable {X : Cx} {sc : Scope} {cl : List (Str × Addr)} {ts zs : List Str} {js : List Nat} {kx vx iter : Expr} {pos : Pos} {tg : Expr} {g : TG} {wi : TI} {tk tv : TE}
theorem As (hc : X.calm = true) (S : aW X sc cl ts zs js) (hi : PI X tg iter wi) (hg : ∀ s H C fp, PG (ay X sc cl (ts ++ zs) s H C fp) tg g) (hk : ∀ s H C fp, PE (ay X sc cl (ts ++ zs) s H C fp) kx tk) (hv : ∀ s H C fp, PE (ay X sc cl (ts ++ zs) s H C fp) vx tv)
  (hs : ∀ v, foldedSetIterable iter X.env v = pure v := by intro _; rfl) : PE X (.DictComp kx vx [⟨tg, iter, [], 0⟩] sc pos) (FV wi ts.length js g tk tv) := by
 intro pins s σ H Q I h;rw [arm_eval_DictComp];refine Ĵ (use := none) rfl hs S.Iw S.kind S.names (aA (hi pins s σ H _ I h) λ v s1 h1 => aA h1 λ MD s2 h2 => ?_);obtain ⟨it, fp, tn, J, H2, e, I2, T, Is, f2, body⟩ := h2;subst e;have Lu : H2 s2.heap.objs.size = none := I2.fresh;obtain ⟨W, ⟨m0, w0⟩, turn⟩ := body _ Lu;refine â ?_;have I3 : Inv X pins σ (ak H2 s2.heap.objs.size (.dK [])) { s2 with heap := s2.heap.push { cls := .type "dict", data := .dict #[] } } := I2.laid (a := s2.heap.objs.size) (o := .dK []) (t' := s2.toks) (λ _ _ q => Á _ q) (Ä _) (iN s2.heap I2.big)
 refine ő S.n_ (by intro y hy; simp at hy) (λ Ł hn I_ => ?_) S.kind
 generalize IH : ({ s2 with heap := s2.heap.push { cls := .type "dict", data := .dict #[] } } : Shared) = s3 at I3 hn I_ ⊢
 have Bk : ∀ b ∈ fp, bK X pins (ak H2 s2.heap.objs.size (.dK [])) b /\ b < s3.heap.objs.size := λ b hb => by
  obtain ⟨o, ho, _⟩ := T.obj _ _ Is b hb;have hl := Æ ho;have K9 : b ≠ s2.heap.objs.size := Í hl;obtain ⟨z1, z2⟩ := f2 b hb;refine ⟨⟨by rw [ag K9]; exact z1, z2⟩, ?_⟩
  rw [<- IH];show b < (s2.heap.push _).objs.size;rw [ö];exact Į hl
 have old : ∀ b o, s3.heap.get? b = some o -> Ł.get? b = some o := λ b o e => I_.extBut b o (Í (Æ e)) (Á _ e);have loop : ∀ sS : Shared, sS.heap = Ł -> sS.os = s3.os -> sS.gens = s3.gens -> codeAny (model X.prog X.w) X.A (.compLoop (.DictComp kx vx [⟨tg, iter, [], 0⟩] sc pos) 0 (.ref it) (.ref s2.heap.objs.size) (compEnvC sc cl s3.heap.objs.size X.env))
   (compPost (model X.prog X.w) X.A X.xe none (EP X pins σ Q) (.ref s2.heap.objs.size) s3.heap.objs.size) sS := by
  intro sS eh eo eg;subst eh;have J0 : Inv (ay X sc cl (ts ++ zs) s3 (ak H2 s2.heap.objs.size (.dK [])) s3.heap.objs.size fp) [] (List.replicate ts.length none ++ bA js σ) (ak H2 s2.heap.objs.size (.dK [])) sS := cK I3 S Bk (Ä _) eo eg old hn;generalize hX : ay X sc cl (ts ++ zs) s3 (ak H2 s2.heap.objs.size (.dK [])) s3.heap.objs.size fp = X' at J0;have ş : ∀ {H' : Hp}, (∀ b ∈ fp, H' b = none) -> ∀ b ∈ fp, bK X' [] H' b := λ {H'} hn b hb => by
   subst hX;obtain ⟨⟨_, z1, z2, z3, z4, z5⟩, z6⟩ := Bk b hb;refine ⟨hn b hb, Í z6, λ q => ?_, .inl hb, λ y c e => z4 y c (S.sub _ _ e), λ p hp => absurd (show p ∈ ([] : List (Addr × Obj)) from hp) (by simp)⟩
   rcases Ñ.mp (I3.Ū b q) with e | e
   ·exact z1 e
   ·exact z2 e
  have J1 : tn 0 sS.heap := T.keep _ _ _ Is λ b hb o e => old b o (by rw [<- IH]; exact Á _ e)
  refine m5 (λ n s' => ∃ i ys os H', os.length = ts.length /\ Inv X' [] (os ++ bA js σ) H' s' /\ tn i s'.heap /\ (∀ b ∈ fp, H' b = none) /\ W i n ys H') ?_ m0 ⟨0, [], _, _, ø, J0, J1, λ b hb => (Bk b hb).1.1, w0⟩;rintro n s' ⟨i, ys, os, H', ř, Iv, st, fr, w⟩;obtain ⟨hD, alt⟩ := turn i n ys H' w;have eP : X'.prog = X.prog := by subst hX; rfl
  have eW : X'.w = X.w := by subst hX; rfl
  have eK : X'.K = X.K := by subst hX; rfl
  have eC : X'.calm = true := by subst hX; exact hc
  have eA : X'.A = X.A := by subst hX; rfl
  have eE : X'.env = compEnvC sc cl s3.heap.objs.size X.env := by subst hX; rfl
  have eX : X'.xe = λ _ _ => False := by subst hX; rfl
  rcases alt with ⟨stop, q⟩ | ⟨go, ŋ, step⟩
  ·have d := T.done X' eP eW eK eC i [] s' _ H' (λ _ _ => False) Iv (ş fr) st stop;rw [eA] at d;refine aA d λ r s4 ⟨hr, I4⟩ => ?_;subst hr;obtain ⟨m, hm, _⟩ := id I4.loc;rw [eE] at hm;subst hX;exact ⟨m, hm, λ h' Ky => ⟨.ref s2.heap.objs.size, H', eR I3 Bk (Ä _) I4 Ky, rfl, q⟩⟩
  ·have d := T.item X' eP eW eK eC i [] s' _ H' (λ _ _ => False) Iv (ş fr) st go;rw [eA] at d;refine aA d λ r s4 ⟨u, hr, h4⟩ => ?_;subst hr;refine aA h4 λ _ s5 ⟨y, H5, I5, r5, y5, w_, KF⟩ => ?_;have KI := I5.pinned (ş KF) (T.obj _ _ w_);have ML : PG X' tg g := by subst hX; exact hg _ _ _ _
   have g6 := ML _ s5 _ H5 y u _ KI r5 (step y H5 y5 os ř);rw [eP, eW, eA, eE, eX] at g6;refine aA g6 λ _ s6 ⟨LK, H6, I6, ⟨ū, IY, e6⟩, Mo⟩ => ?_;subst e6;have Oy : PE X' kx tk := by subst hX; exact hk _ _ _ _
   have g7 := Oy _ s6 _ H6 _ I6 Mo;rw [eP, eW, eA, eE, eX] at g7;refine aA g7 λ ku s7 ⟨k7, H7, I7, T2, TK⟩ => ?_;have Kx : PE X' vx tv := by subst hX; exact hv _ _ _ _
   have g8 := Kx _ s7 _ H7 _ I7 TK;rw [eP, eW, eA, eE, eX] at g8;refine aA g8 λ uv s8 ⟨v8, Xk, Xj, r8, key, ek, VA, m', Ic, w8⟩ => ?_;subst ek;have g9 := y4 (X := X') (A := X'.A) (E := X'.xe) (Q := λ _ s9 => Inv X' _ _ (ak Xk s2.heap.objs.size (.dK (aZ ys key v8))) s9) Xj VA ŋ T2 r8 λ s9 I9 => I9;rw [eP, eW, eA, eX] at g9;refine aA g9 λ _ s9 I8 => ?_;refine ⟨m', Ic, i + 1, aZ ys key v8, ū, _, IY, I8.ņ, T.keep _ _ _ w_ λ b hb o e => (I8.pin (b, o) (È _ (È _ (aK hb e)))).1, λ b hb => ?_, w8⟩;obtain ⟨o', e', _⟩ := T.obj _ _ w_ b hb;exact (I8.pin (b, o') (È _ (È _ (aK hb e')))).2.1
 have Kg : tn 0 Ł := T.keep _ _ _ Is λ b hb o e => old b o (by rw [<- IH]; exact Á _ e)
 exact codeAny_compStart_dict (loop _ rfl rfl rfl) (T.self _ 0 _ _ _ Kg (loop _ rfl rfl rfl))
end
end My
namespace My
open PySem PySem.W L2
section
variable {prog : Program} {w : World} {A : Around} {E : bo} {s : Shared}
theorem kS : typeLookup (.type "list") (Str.ofString "keys") = pure none := by first | rfl | kernel_rfl
theorem wq {a : Addr} {its : Array Value} {n : Nat} {u : Tok} {Q : Fin -> Shared -> Prop} (hh : A.handled = none) (ho : s.heap.get? a = some { cls := .type "list", data := .seq its n })
  (k : ∀ h' tk e, s.heap.NewAttrErr h' e (.ref a) (Str.ofString "keys") -> E (.ref e) { s with heap := h', toks := tk }) : wpAny (model prog w) A (Builtin.«object.__getattribute__» { pos := [.ref a, .str (Str.ofString "keys") u] }) Q E s := by
 have hT : s.TypeIs (.ref a) "list" := ⟨_, ho, rfl⟩;unfold Builtin.«object.__getattribute__»;refine À (p_ (show slotArgs "__getattribute__" 1 { pos := [.ref a, .str (Str.ofString "keys") u] } = pure (.ref a, [.str (Str.ofString "keys") u]) from rfl) ?_);refine À (Â (À (Ie hT ?_)));unfold Builtin.ObjectAttr.find;rw [kS];refine À (À (Â (À (Â (À (Â ?_))))));show wpAny _ _ (Builtin.ObjectAttr.ownThenClass (.ref a) (Str.ofString "keys") none none) _ _ s;unfold Builtin.ObjectAttr.ownThenClass Builtin.ObjectAttr.inOwnDict;refine À (À ?_);unfold Builtin.ObjectAttr.ownDict;refine À (IP ho ?_);show wpAny _ _ (instanceDict a false) _ _ s;unfold instanceDict;refine À (IP ho ?_);refine Â (Â ?_);refine À ?_;show wpAny _ _ (pure ()) _ _ s;refine Â (À (ς (Â ?_)));show wpAny _ _ (Builtin.ObjectAttr.noSuchAttribute (.ref a) (Str.ofString "keys")) _ _ s;unfold Builtin.ObjectAttr.noSuchAttribute typeNameOfCut shownTypeOf;refine À (À (À (Ie hT (Â ?_))));refine Â ?_;refine wpAny_raiseAttrError hh (λ h' tk e ne => k h' tk e ne) ?_
 decide +kernel
theorem nQ : typeOf (.builtin "list.__getattribute__") = pure (.type "wrapper_descriptor") := by first | rfl | kernel_rfl
theorem qt {a : Addr} {its : Array Value} {n : Nat} {Q : Option Value -> Shared -> Prop} (hh : A.handled = none) (ho : s.heap.get? a = some { cls := .type "list", data := .seq its n })
  (k : ∀ h' tk, (∀ b ob, s.heap.get? b = some ob -> h'.get? b = some ob) -> Q none { s with heap := h', toks := tk }) : wpAny (model prog w) A (getAttr? (.ref a) (Str.ofString "keys")) Q E s := by
 have hT : s.TypeIs (.ref a) "list" := ⟨_, ho, rfl⟩;unfold getAttr?;refine À (wpAny_mkText ?_);generalize hs : ({ heap := s.heap, gens := s.gens, drawn := s.drawn, toks := s.toks + 1, os := s.os } : Shared) = s1;have e1 : s1.heap = s.heap := by rw [<- hs]
 have RL : s1.heap.get? a = some { cls := .type "list", data := .seq its n } := by rw [e1]; exact ho
 have RW : s1.TypeIs (.ref a) "list" := ⟨_, RL, rfl⟩;have fin : ∀ h' tk e, s1.heap.NewAttrErr h' e (.ref a) (Str.ofString "keys") -> Q none { s1 with heap := h', toks := tk } := λ h' tk e ne => by
  rw [<- hs];exact k h' tk λ b ob eb => ne.keeps b ob (by rw [e1]; exact eb)
 unfold getAttrBy?;refine À (ğ ?_);unfold getAttrBy;refine ä (À (Ie RW ?_));rw [F.slot_list_getattribute.lookup];refine À (Â ?_);show wpAny _ _ (getAttrByItsOwn (.ref a) (.str (Str.ofString "keys") s.toks) (.type "list") (.builtin "list.__getattribute__") false false) _ _ s1;unfold getAttrByItsOwn;refine À (Â (À (ğ (ä ?_))));show wpAny _ _ (boundAndCalled (.builtin "list.__getattribute__") (.ref a) (.str (Str.ofString "keys") s.toks)) _ _ s1;unfold boundAndCalled bindSpecial;refine À (À (p_ nQ ?_));refine Đ am (Â ?_);refine ô F.slot_list_getattribute RW F.entry_list_ga (wq (A := A.in1) hh RL λ h' tk e ne => ?_) (F.args_list_getattribute_2 _ _);have te : ({ heap := h', gens := s1.gens, drawn := s1.drawn, toks := tk, os := s1.os } : Shared).TypeIs (.ref e) "AttributeError" := by
  obtain ⟨t, u, q⟩ := ne.there;exact ⟨_, q, rfl⟩
 show wpAny _ _ (getattributeRaised (.ref a) (.str (Str.ofString "keys") s.toks) (.type "list") (.ref e) none false false) _ _ _;unfold getattributeRaised;refine À (ž te sub_AttributeError (Đ am (À ?_)));show wpAny _ _ (typeLookup (.type "list") (Str.ofString "__getattr__")) _ _ _;rw [F.plainAttrs_list.noGetattr];refine Â ?_;show wpAny _ _ (attributeErrorLeaves (.ref a) (.str (Str.ofString "keys") s.toks) (.ref e) false false) _ _ _;unfold attributeErrorLeaves;refine Đ am (À (LD ?_));exact À (ž te sub_AttributeError (Đ am (Â (fin h' tk e ne))))
end
theorem jS : entryFor table "dict.update.loop" = some Builtin.«dict.update.loop» := by first | rfl | kernel_rfl
theorem eS : plainId "dict.update.loop" = true := by first | rfl | decide +kernel
section
variable {X : Cx} {pins : List (Addr × Obj)} {σ : St} {H : Hp} {s : Shared}
theorem vP {a : Addr} {kvs : List (Key × V)} {k : Key} {v : V} {u r : Value} {A : Around} {E : bo} {Q : Unit -> Shared -> Prop} (I : Inv X pins σ H s) (e : H a = some (.dK kvs)) (l : kvs.length < sizeLine) (ry : RelV (kV k) u) (rv : RelV v r)
  (h : ∀ h', Heap.SameBut a s.heap h' -> Inv X pins σ (ak H a (.dK (aZ kvs k v))) { s with heap := h', toks := s.toks + 1 } -> Q () { s with heap := h', toks := s.toks + 1 }) : wpAny (model X.prog X.w) A (dictSet a u r) Q E s := by
 obtain ⟨z, hd, vs, rel, dd⟩ := uj I.Ą e;refine wpAny_dictSet_pairs (jH ry) dd (λ h' Jh hs => h _ hs ?_) (by rw [<- rel.length]; exact z)
 have he : ∃ q, h'.get? a = some q := let ⟨q, _, _, hq, _⟩ := Jh; ⟨q, hq⟩
 exact eV I (by rw [e]; exact True.intro) hs he (oj (by have := bq kvs k v; omega) hd (rel.put k rv) Jh)
def bO (qs : List (Key × V)) : List (Key × V) := qs.foldl (λ a q => aZ a q.1 q.2) []
theorem gC (qs : List (Key × V)) (q : Key × V) : bO (qs ++ [q]) = aZ (bO qs) q.1 q.2 := by
 unfold bO;rw [List.foldl_append];rfl
theorem oz (qs : List (Key × V)) : (bO qs).length <= qs.length := by
 have : ∀ (qs : List (Key × V)) (a : List (Key × V)), (qs.foldl (λ a q => aZ a q.1 q.2) a).length <= a.length + qs.length := λ qs => by
  induction qs with
  | nil => intro a; exact Ä _
  | cons q qs ih =>
   intro a;have h1 := ih (aZ a q.1 q.2);have h2 := bq a q.1 q.2;simp only [List.foldl_cons, List.length_cons];omega
 have := this qs []
 simpa [bO] using this
def FZ (H : Hp) (ys : List V) (qs : List (Key × V)) : Prop := ys.length = qs.length /\ ∀ (j : Nat) y q, ys[j]? = some y -> qs[j]? = some q -> ∃ b, y = .ref b /\ H b = some (.tup [kV q.1, q.2])
theorem vq {A : Around} {R : Result -> Shared -> Prop} {D J p : Addr} {ys : List V} {qs : List (Key × V)} (hh : A.handled = none) (nD : D ≠ J) (Uz : D ≠ p) (nJ : p ≠ J) (pr : FZ H ys qs) (hz : qs.length <= sizeLine) (hp : H p = some (.lst ys)) (hD : ∀ b, H b ≠ none -> b ≠ D) (fp : bK X pins H J)
  (q : ∀ s', Inv X pins σ (ak H D (.dK (bO qs))) s' -> R (.ok (.ret .none)) s') (m : Nat) : ∀ (i : Nat) (s : Shared) (tk : Tok), i + m = qs.length -> Inv X pins σ (ak H D (.dK (bO (qs.take i)))) s -> s.heap.IsListIter J p i -> codeAny (model X.prog X.w) A (.builtin "dict.update.loop" ⟨[.ref D, .ref J, .int (i : Int) tk, .none], []⟩) R s := by
 have key : ∀ (i : Nat) (s : Shared), Inv X pins σ (ak H D (.dK (bO (qs.take i)))) s -> ∃ its : List Value, Vals ys its /\ s.heap.IsList p its.toArray := λ i s I => by
  have e : ak H D (.dK (bO (qs.take i))) p = some (.lst ys) := by rw [ag (Ne.symm Uz)]; exact hp
  obtain ⟨_, its, n, r, eo⟩ := (show ù X.prog X.w _ s.heap p (.lst ys) from I.Ą p _ e);exact ⟨its, r, ⟨_, eo, rfl, n, rfl⟩⟩
 have R3 : ∀ i, bK X pins (ak H D (.dK (bO (qs.take i)))) J := λ i => ⟨by rw [ag (Ne.symm nD)]; exact fp.1, fp.2⟩
 induction m with
 | zero =>
  intro i s tk e I hi;have e : i = qs.length := e;obtain ⟨its, rv, il⟩ := key i s I;have li : its.toArray.size = qs.length := by rw [Ô, <- rv.length, pr.1]
  refine codeAny_builtin jS ?_;rw [Around.under_plainId eS _];refine À ?_;have W := Walks.list (prog := X.prog) (w := X.w) (A := A.in1) hh J p nJ its.toArray;refine W.done s _ _ (by rw [li, <- e]; exact ⟨hi, il⟩) λ h' M4 kp => ?_
  refine À ?_;unfold Builtin.Dict.addKeywords;refine À (Â (Â (Â ?_)));obtain ⟨f0, f1, f2, f3, f4, f5⟩ := R3 i;have I2 := I.turned (t' := M4) (λ b ob hb qb => kp b ob (λ z => hb (ď.mp z)) qb) f0 f1 f3 f4 f5;rw [Ģ af] at I2;exact q _ I2
 | succ m ih =>
  intro i s tk e I hi;obtain ⟨its, rv, il⟩ := key i s I;have li : its.toArray.size = qs.length := by rw [Ô, <- rv.length, pr.1]
  refine codeAny_builtin jS ?_;rw [Around.under_plainId eS _];refine À ?_;have W := Walks.list (prog := X.prog) (w := X.w) (A := A.in1) hh J p nJ its.toArray;refine W.item i s _ _ af ⟨hi, il⟩ λ v h' M4 hv KN kp => ?_;obtain ⟨f0, f1, f2, f3, f4, f5⟩ := R3 i;have I2 := I.turned (t' := M4) (λ b ob hb qb => kp b ob (λ z => hb (ď.mp z)) qb) f0 f1 f3 f4 f5;have lq : i < qs.length := af;have ly : i < ys.length := by rw [pr.1]; exact lq
  have ey := Ã ly;have eq := Ã lq;obtain ⟨b, eb, hb⟩ := pr.2 i _ _ ey eq;have Kx : its[i]? = some v := by simpa using hv
  have Rl : RelV ys[i] v := by
   obtain ⟨x, hx, r⟩ := bP (R := RelV) rv Kx;rw [ey] at hx;cases hx;exact r
  rw [eb] at Rl;cases (show v = Value.ref b from Rl);generalize qs[i] = kv at eq hb;have nb : b ≠ D := hD b (by rw [hb]; simp)
  have Vw : ak H D (.dK (bO (qs.take i))) b = some (.tup [kV kv.1, kv.2]) := by rw [ag nb]; exact hb
  obtain ⟨_, Š, rt, ⟨ot, ho, hc, n, hd⟩⟩ := (show ù X.prog X.w _ h' b (.tup [kV kv.1, kv.2]) from I2.Ą b _ Vw);obtain ⟨uk, uv, rfl, rk, TV⟩ := jx rt;refine À (ä (À (wpAny_tryCatch ?_)));unfold Builtin.Dict.pairItems;refine À (Ie (T := "tuple") ⟨ot, ho, hc⟩ (Đ am (À ?_)));unfold seqItems?;refine À (wpAny_load ho ?_);rw [hd];refine Â (Â (ä ?_));refine vP I2 aQ (by have := oz (qs.take i); rw [Jk] at this; omega) rk TV λ h2 sb I3 => ?_
  rw [jV, <- gC, <- aB eq] at I3;refine Â ⟨plainId_quiet eS _, ?_⟩;have Vm : h2.IsListIter J p (i + 1) := by
   obtain ⟨oi, q1, q2⟩ := KN.1;exact ⟨oi, (sb.2 _ (Ne.symm nD)).trans q1, q2⟩
  exact ih (i + 1) _ _ af I3 Vm
def uG : List V -> Hp -> VK -> Prop := λ xs H Q => ∃ (p : Addr) (ys : List V) (qs : List (Key × V)), xs = [.ref p] /\ H p = some (.lst ys) /\ FZ H ys qs /\ ∀ d, H d = none -> Q (.ref d) (ak H d (.dK (bO qs)))
theorem nN (hc : X.calm = true) : bv X (.type "dict") uG := by
 intro pins s σ H xs us Q I r h;obtain ⟨p, ys, qs, rfl, hp, pr, q⟩ := h;obtain ⟨u, rfl, rx⟩ := ck r;cases rx;have hh := I.ok.hd hc;have fr := I.Ą.fresh (a := s.heap.objs.size) (Ä _);have hz : qs.length <= sizeLine := by
  have := (show ù X.prog X.w H s.heap p (.lst ys) from I.Ą p _ hp).1;rw [<- pr.1]; exact this
 refine callType_codes (Q₁ := λ obj ą => obj = .ref s.heap.objs.size /\ ą = { s with heap := s.heap.push { cls := .type "dict", data := .dict #[] } }) F.kt_called_dict (F.kt_typeCall_dict_1 _) F.entry_dict_init (kt_code_dict_new _ ⟨rfl, rfl⟩) λ obj ą h1 => ?_
 obtain ⟨rfl, rfl⟩ := h1;have I1 : Inv X pins σ (ak H s.heap.objs.size (.dK [])) { s with heap := s.heap.push { cls := .type "dict", data := .dict #[] } } := I.laid (a := s.heap.objs.size) (o := .dK []) (t' := s.toks) (λ _ _ q => Á _ q) (Ä _) (iN s.heap I.big)
 have hT : ({ s with heap := s.heap.push { cls := .type "dict", data := .dict #[] } } : Shared).TypeIs (.ref s.heap.objs.size) "dict" := ⟨_, Ç _ rfl, rfl⟩
 refine ⟨hT, F.args_dict_init_2 _ _, ?_⟩;unfold Builtin.«dict.__init__» Builtin.Dict.selfAndRest;refine À (À (Ź hT (À (Â (Â ?_)))));show wpAny _ _ (Builtin.Dict.updateFrom "dict.__init__" s.heap.objs.size (.ref p) [] .none) _ _ _;have Rs : p ≠ s.heap.objs.size := aN hp fr;have Ox : ak H s.heap.objs.size (.dK []) p = some (.lst ys) := by rw [ag Rs]; exact hp
 generalize U6 : ({ s with heap := s.heap.push { cls := .type "dict", data := .dict #[] } } : Shared) = s1 at I1 hT ⊢
 obtain ⟨_, its, n, rv, eo⟩ := (show ù X.prog X.w _ s1.heap p (.lst ys) from I1.Ą p _ Ox);unfold Builtin.Dict.updateFrom;refine À (Ie (T := "list") ⟨_, eo, rfl⟩ (Đ am (À (qt (A := X.A.in1.in1) hh eo λ h2 Oi kp => ?_))));refine Đ am (À (ς (À ?_)));have I2 : Inv X pins σ (ak H s.heap.objs.size (.dK [])) { s1 with heap := h2, toks := Oi } := I1.kept (t' := Oi) kp
 have Wj := kp _ _ eo;refine o_ (items := its.toArray) ⟨_, Wj, rfl, n, rfl⟩ (Â ⟨plainId_quiet eS _, ?_⟩);have I3 : Inv X pins σ (ak H s.heap.objs.size (.dK [])) { s1 with heap := h2.push { cls := .type "list_iterator", data := .fields #[.ref p, .int 0 0] }, toks := Oi } := I2.kept (t' := Oi) λ b ob e => Á _ e
 have OF := I2.Ą.fresh (a := h2.objs.size) (Ä _);have RA : s.heap.objs.size ≠ h2.objs.size := λ z => by rw [<- z, aQ] at OF; cases OF
 have N4 : H h2.objs.size = none := by rw [ag (Ne.symm RA)] at OF; exact OF
 have Wg : bK X pins H h2.objs.size := I2.Jb (Ä _) N4;refine vq (A := X.A.in1) (D := s.heap.objs.size) (J := h2.objs.size) (p := p) (ys := ys) (qs := qs) (H := H) hh RA (Ne.symm Rs) (aN hp N4) pr hz hp (λ b hb z => hb (by rw [z]; exact fr)) Wg (λ s' I' => ?_) qs.length 0 _ 0 (Α _) I3 ?_
 ·exact ⟨rfl, .ref s.heap.objs.size, _, I', rfl, q _ fr⟩
 ·exact ⟨_, Ç _ rfl, rfl, rfl⟩
end
section
variable {X : Cx} {pins : List (Addr × Obj)} {σ : St} {H : Hp} {s : Shared}
theorem vB {a b : Addr} {kvs : List (List Key × V)} {k : List Key} {v : V} {r : Value} {A : Around} {E : bo} {Q : Unit -> Shared -> Prop} (hu : A.units + 1 < cLine) (I : Inv X pins σ H s) (e : H a = some (.dT kvs)) (eb : H b = some (.tup (k.map kV))) (l : kvs.length < sizeLine) (rv : RelV v r)
  (h : ∀ s', Inv X pins σ (ak H a (.dT (aZ kvs k v))) s' -> Q () s') : wpAny (model X.prog X.w) A (dictSet a (.ref b) r) Q E s := by
 obtain ⟨z, hd, xs, rel, dd⟩ := yc I.Ą e;have hz : xs.length <= sizeLine := by rw [<- å rel]; exact z
 have hl : (aZ kvs k v).length <= sizeLine := by have := bq kvs k v; omega
 refine wpAny_dictSet_heap (hsz := hz) (show A.units < cLine by omega) (ja I.Ą eb) dd λ h' Jh hs => h _ ?_
 obtain ⟨q, es, ep, hq, h2, h3, h4, _, h5⟩ := Jh;refine eV I (by rw [e]; exact True.intro) hs ⟨q, hq⟩ ⟨hl, hd, _, (rel.put k eb rv).keeps λ c ys ec => ?_, q, es, ep, hq, h2, h3, h4, h5⟩
 rw [ag (xF ec e (λ z => nomatch z))];exact ec
end
def ut (tk tv : TE) : TE := λ σ H Q => ∀ p, H p = none -> nP [(tk, tv)] σ (ak H p (.dT [])) λ ps H2 => ∃ b ks y, ps = [(.ref b, y)] /\ H2 b = some (.tup (ks.map kV)) /\ H2 p = some (.dT []) /\ Q (.ref p) (ak H2 p (.dT [(ks, y)]))
theorem sJ {X : Cx} {pos : Pos} {k v : Expr} {tk tv : TE} (hu : X.A.units + 64 < cLine) (hk : PE X k tk) (hv : PE X v tv) : PE X (.Dict [some k] [v] pos) (ut tk tv) := by
 intro pins s σ H Q I q;have hn := I.Ą.fresh (Ä s.heap.objs.size);have I1 := I.laid (a := s.heap.objs.size) (o := .dT []) (h' := s.heap.push { cls := .type "dict", data := .dict #[] }) (t' := s.toks) (λ _ _ q => Á _ q) (Ä _) (mf s.heap I.big);refine wpAny_Dict_any rfl rfl (by simp) (by show 1 <= 15; decide) (aA ((tZ (pos := pos) hk hv vA) pins _ σ _ _ I1 (q _ hn)) λ ws s2 ⟨ps, H2, I2, rel, b, ks, y, e1, eb, e, q2⟩ => ?_)
 subst e1;cases rel with
 | @cons _ u _ _ r t =>
  cases t;obtain ⟨u1, u2⟩ := u;obtain ⟨r1, r2⟩ := r;cases (show u1 = Value.ref b from r1);unfold storeAll;refine À ?_;refine À (vB af I2 e eb am r2 λ s' I' => Â (Â ⟨.ref s.heap.objs.size, _, I', rfl, q2⟩))
section
variable {te : TE} {tt : TT} {g : TG} {k n : Nat} {cap : St} {D : Addr} {H1 : Hp} {Q : Hp -> Prop} {J : It}
theorem fO (Pv : Nat -> List V -> Hp -> Prop) (hz : n < sizeLine) (h0 : Pv 0 [] (ak H1 D (.lst []))) (hg : ∀ i ys H, i < n -> Pv i ys H -> J.go i H) (J4 : ∀ ys H, Pv n ys H -> J.stop n H)
  (hs : ∀ (i : Nat) x ys H H3, i < n -> J.IB i H x H3 -> ys.length <= i -> H D = some (.lst ys) -> Pv i ys H -> ∀ os : St, os.length = k -> ∀ N : List V -> Hp -> Prop, (∀ Jx H', Pv (i + 1) Jx H' -> Jx.length <= i + 1 -> H' D = some (.lst Jx) -> N Jx H') ->
   g x (os ++ cap) H3 λ ľ H0 => (∃ ū : St, ū.length = k /\ ľ = ū ++ cap) /\ tt ľ H0 λ b H5 => (b = false -> N ys H5) /\ (b = true -> te ľ H5 λ y H4 => H4 D = some (.lst ys) /\ N (ys ++ [y]) (ak H4 D (.lst (ys ++ [y])))))
  (hd : ∀ ys H, ys.length <= n -> H D = some (.lst ys) -> Pv n ys H -> Q H) :
  ∃ W : Nat -> Nat -> List V -> Hp -> Prop, (∃ m, W 0 m [] (ak H1 D (.lst []))) /\
   ∀ i m ys H2, W i m ys H2 -> H2 D = some (.lst ys) /\ ((J.stop i H2 /\ Q H2) \/ (J.go i H2 /\ ys.length < sizeLine /\
    ∀ x H3, J.IB i H2 x H3 -> ∀ os : St, os.length = k -> g x (os ++ cap) H3 λ ľ H0 => (∃ ū : St, ū.length = k /\ ľ = ū ++ cap) /\ tt ľ H0 λ b H5 => (b = false -> ∃ m', m' < m /\ W (i + 1) m' ys H5) /\
     (b = true -> te ľ H5 λ y H4 => H4 D = some (.lst ys) /\ ∃ m', m' < m /\ W (i + 1) m' (ys ++ [y]) (ak H4 D (.lst (ys ++ [y])))))) := by
 refine ⟨λ i m ys H => m = n - i /\ i <= n /\ ys.length <= i /\ H D = some (.lst ys) /\ Pv i ys H, ⟨n, by simp, Nat.zero_le _, Nat.le_refl _, aQ, h0⟩, ?_⟩
 rintro i m ys H ⟨rfl, hi, hy, Ę, p⟩;refine ⟨Ę, ?_⟩;by_cases Ű : i < n
 ·refine .inr ⟨hg i ys H Ű p, af, λ x H' y os ř => ?_⟩;exact hs i x ys H H' Ű y hy Ę p os ř (λ Jx Q9 => ∃ m', m' < n - i /\ (m' = n - (i + 1) /\ i + 1 <= n /\ Jx.length <= i + 1 /\ Q9 D = some (.lst Jx) /\ Pv (i + 1) Jx Q9)) λ Jx Q9 p' l' d' => ⟨n - (i + 1), af, rfl, Ű, l', d', p'⟩
 ·have e : i = n := af;subst e;exact .inl ⟨J4 ys H p, hd ys H hy Ę p⟩
theorem dq (Pv : Nat -> List V -> Hp -> Prop) (hz : n < sizeLine) (h0 : Pv 0 [] (ak H1 D (.lst []))) (hg : ∀ i ys H, i < n -> Pv i ys H -> J.go i H) (J4 : ∀ ys H, Pv n ys H -> J.stop n H)
  (hs : ∀ (i : Nat) x ys H H3, i < n -> J.IB i H x H3 -> ys.length = i -> H D = some (.lst ys) -> Pv i ys H -> ∀ os : St, os.length = k -> ∀ R : VK, (∀ y H4, H4 D = some (.lst ys) -> Pv (i + 1) (ys ++ [y]) (ak H4 D (.lst (ys ++ [y]))) -> R y H4) -> g x (os ++ cap) H3 λ ľ H0 => (∃ ū : St, ū.length = k /\ ľ = ū ++ cap) /\ te ľ H0 R)
  (hd : ∀ ys H, ys.length = n -> H D = some (.lst ys) -> Pv n ys H -> Q H) :
  ∃ W : Nat -> Nat -> List V -> Hp -> Prop, (∃ m, W 0 m [] (ak H1 D (.lst []))) /\
   ∀ i m ys H2, W i m ys H2 -> H2 D = some (.lst ys) /\ ((J.stop i H2 /\ Q H2) \/ (J.go i H2 /\ ys.length < sizeLine /\
    ∀ x H3, J.IB i H2 x H3 -> ∀ os : St, os.length = k -> g x (os ++ cap) H3 λ ľ H0 => (∃ ū : St, ū.length = k /\ ľ = ū ++ cap) /\ te ľ H0 λ y H4 => H4 D = some (.lst ys) /\ ∃ m', m' < m /\ W (i + 1) m' (ys ++ [y]) (ak H4 D (.lst (ys ++ [y]))))) := by
 refine ⟨λ i m ys H => m = n - i /\ i <= n /\ ys.length = i /\ H D = some (.lst ys) /\ Pv i ys H, ⟨n, by simp, Nat.zero_le _, rfl, aQ, h0⟩, ?_⟩
 rintro i m ys H ⟨rfl, hi, hy, Ę, p⟩;refine ⟨Ę, ?_⟩;by_cases Ű : i < n
 ·refine .inr ⟨hg i ys H Ű p, af, λ x H' y os ř => ?_⟩;exact hs i x ys H H' Ű y hy Ę p os ř _ λ z H4 KU p4 => ⟨KU, n - (i + 1), af, rfl, Ű, by rw [Ï, hy]; rfl, aQ, p4⟩
 ·have e : i = n := af;subst e;exact .inl ⟨J4 ys H p, hd ys H hy Ę p⟩
end
def tG : V -> V -> Bool
 | x, .int j => decide (1 <= j) && Kt 0 j x
 | _, _ => false
theorem uc {x y : V} (h : ∀ i, y ≠ .int i) : tG x y = false := by
 cases y with
 | int i => exact absurd rfl (h i)
 | _ => rfl
section
variable {P : Program} {w : World} {K : Frag} {mg : bu} {base : Heap}
abbrev j6 : Stmt := cD 7
def kB (K : Frag) : Sp := λ vs H Q _ => ∃ x, vs = [x] /\ Th K H x /\ Q (.bl (AT x)) H
theorem En : ai ["thing"] ["thing"] (aa j6) := aS
theorem sC {f : Addr} {fd : FuncData} (N : uq K) (F : Ŏ K "is_number" "is_number" j6 f fd) (mi : mg "isinstance" = none) (m1 : mg "int" = none) (m2 : mg "bool" = none) : az P w K mg base ar 1 f fd ["thing"] (kB K) := by
 refine F.ok En (λ vs H Q E h => ?_) (λ ë A outer s H vs Q E hr h => ?_)
 ·obtain ⟨c, rfl, _⟩ := h;rfl
 obtain ⟨x, rfl, th, q⟩ := h;refine ⟨_, bw (cq (fw (ah (bI N) rfl mi ã (ae (pv 0) (ae (fW rfl m1 u_) ap)))
  (iZ (uA (ah (bI N) rfl mi ã (ae (pv 0) (ae (fW rfl m2 L_) ap))))))), ?_⟩
 rcases th with ⟨i, rfl⟩ | ⟨n, t, b1, b2, kd, k1, k2, z⟩
 ·exact ⟨_, rfl, _, _, _, _, rfl, .inl (.int i), Em, _, rfl, ⟨_, rfl, _, _, _, _, rfl, .inl (.int i), Fu, _, rfl, q⟩⟩
 ·rw [kj n] at q;refine ⟨_, rfl, _, _, _, _, rfl, kd, k1, _, rfl, ?_⟩;cases b1 with
  | false => exact dA q
  | true =>
   refine hG ⟨_, rfl, _, _, _, _, rfl, kd, k2, _, rfl, ?_⟩;have e : (!b2) = false := z;rw [e];exact q
abbrev oB : Stmt := cD 8
def cA (K : Frag) : Sp := λ vs H Q _ => ∃ x lo hi, vs = [x, .int lo, .int hi] /\ Th K H x /\ Q (.bl (Kt lo hi x)) H
theorem EN : ai ["thing", "low", "high"] ["thing", "low", "high"] (aa oB) := aS
theorem we {f g : Addr} {fd gd : FuncData} (F : Ŏ K "is_whole" "is_whole" oB f fd) (G : az P w K mg base ar 1 g gd ["thing"] (kB K)) (bG : Binds K gd ["thing"] []) (kG : keepIn K (.ref g) = true) (mG : mg "is_number" = some (.ref g)) :
  az P w K mg base ar 2 f fd ["thing", "low", "high"] (cA K) := by
 refine F.ok EN (λ vs H Q E h => ?_) (λ ë A outer s H vs Q E hr h => ?_)
 ·obtain ⟨c, lo, hi, rfl, _⟩ := h;rfl
 obtain ⟨x, lo, hi, rfl, th, q⟩ := h;refine ⟨_, bw (cq (fw (gf G hr rfl mG kG bG .nil ao (ae (pv 0) ap)) (fw (eB l9 (pv 1) (pv 0) (aI _)) (iZ (eB l9 (pv 0) (pv 2) (aI _)))))), ?_⟩;refine ⟨_, rfl, x, rfl, th, _, rfl, ?_⟩;rcases th with ⟨i, rfl⟩ | ⟨n, _⟩
 ·refine hG ⟨_, rfl, _, rfl, _, _, rfl, rfl, _, rfl, ?_⟩;refine nF (λ c => ?_) (λ c => ?_)
  ·refine ⟨_, rfl, _, rfl, _, _, rfl, rfl, ?_⟩;have q' : Q (.bl (decide (lo <= i) && decide (i <= hi))) H := q;rw [Î (ì c), Iz] at q';exact q'
  ·have q' : Q (.bl (decide (lo <= i) && decide (i <= hi))) H := q;rw [à (λ z => c (Î z)), F_] at q';exact q'
 ·rw [kj n];rw [zS n] at q;exact dA q
abbrev w6 : Stmt := cD 10
def pj : Sp := λ vs H Q _ => ∃ a b : Nat, vs = [.int a, .int b] /\ Q (.int (Nat.gcd a b)) H
theorem Rh : ai ["one", "other"] ["one", "other"] (aa w6) := aS
def Cd : St -> Nat
 | [_, some (.int b)] => b.toNat
 | _ => 0
theorem yr {f : Addr} {fd : FuncData} (F : Ŏ K "greatest_common" "greatest_common" w6 f fd) : az P w K mg base ar 1 f fd ["one", "other"] pj := by
 refine F.ok Rh (λ vs H Q E h => ?_) (λ ë A outer s H vs Q E hr h => ?_)
 ·obtain ⟨c, lo, rfl, _⟩ := h;rfl
 obtain ⟨a, b, rfl, q⟩ := h;have nd := Rh.nd;refine ⟨_, cv (iu õ (aF ss (pv 1) aw (aI _)) (bw (sM (i := 0) (j := 1) rfl nd rfl rfl am rfl rfl (ae (pv 1) (ae (aj dD (pv 0) (pv 1)) ap)) rfl))) (bw (cq (pv 0))), ?_⟩;refine ic (λ σ H' => H' = H /\ ∃ x y : Nat, σ = [some (.int x), some (.int y)] /\ Nat.gcd x y = Nat.gcd a b) (λ σ _ => Cd σ) ⟨rfl, a, b, rfl, rfl⟩ ?_ ?_
 ·rintro σ H' ⟨rfl, x, y, rfl, e⟩;refine ⟨_, rfl, _, _, rfl, rfl, _, rfl, ?_⟩;refine nF (λ c => ?_) (λ c => ?_)
  ·have c' : (0 : Int) < (y : Int) := ì c;refine ⟨_, rfl, _, rfl, _, rfl, _, _, rfl, rfl, c', _, _, rfl, ⟨rfl, y, x % y, ?_, ?_⟩, ?_⟩
   ·show [some (V.int y), some (V.int ((x : Int) % (y : Int)))] = _;rw [show ((x : Int) % (y : Int)) = ((x % y : Nat) : Int) from by simp]
   ·rw [<- e, IR x y, Nat.gcd_rec y x, IR]
   ·show ((x : Int) % (y : Int)).toNat < (y : Int).toNat;have := ħ (x : Int) c';omega
  ·have c' : ¬ (0 : Int) < (y : Int) := λ z => c (Î z);have y0 : y = 0 := af;subst y0;rw [Nat.gcd_zero_right] at e;refine ⟨_, rfl, ?_⟩;rw [e];exact q
 ·rintro σ H Q Q' m ⟨x, e, i, j, h1, h2, b, hb, q⟩;exact ⟨x, e, i, j, h1, h2, b, hb, m _ _ q⟩
abbrev oQ : Stmt := cD 11
def uy (K : Frag) : Sp := λ vs H Q _ => ∃ x y, vs = [x, y] /\ Th K H x /\ Th K H y /\ Q (.bl (tG x y)) H
theorem Eb : ai ["top", "bottom"] ["top", "bottom"] (aa oQ) := aS
theorem wr {f g k : Addr} {fd gd kd : FuncData} (F : Ŏ K "is_part" "is_part" oQ f fd) (G : az P w K mg base ar 1 g gd ["thing"] (kB K)) (bG : Binds K gd ["thing"] []) (kG : keepIn K (.ref g) = true) (mG : mg "is_number" = some (.ref g))
  (W : az P w K mg base ar 2 k kd ["thing", "low", "high"] (cA K)) (bW : Binds K kd ["thing", "low", "high"] []) (kW : keepIn K (.ref k) = true) (mW : mg "is_whole" = some (.ref k)) : az P w K mg base ar 3 f fd ["top", "bottom"] (uy K) := by
 refine F.ok Eb (λ vs H Q E h => ?_) (λ ë A outer s H vs Q E hr h => ?_)
 ·obtain ⟨x, y, rfl, _⟩ := h;rfl
 obtain ⟨x, y, rfl, tx, ty, q⟩ := h;have Δ := hr.mono (show 1 <= 2 by decide)
 refine ⟨_, bw (cq (fw (gf G Δ rfl mG kG bG .nil ao (ae (pv 1) ap)) (fw (eB lB (pv 1) aw (aI _)) (iZ (gf W hr rfl mW kW bW .nil ao (ae (pv 0) (ae aw (ae (pv 1) ap)))))))), ?_⟩;refine ⟨_, rfl, y, rfl, ty, _, rfl, ?_⟩;rcases ty with ⟨j, rfl⟩ | ⟨n, _⟩
 ·refine hG ⟨_, rfl, _, _, rfl, rfl, _, rfl, ?_⟩;have q' : Q (.bl (decide (1 <= j) && Kt 0 j x)) H := q;refine nF (λ c => ?_) (λ c => ?_)
  ·rw [Î (ì c), Iz] at q';exact ⟨_, rfl, _, rfl, x, 0, j, rfl, tx, q'⟩
  ·rw [à (λ z => c (Î z)), F_] at q';exact q'
 ·rw [kj n];rw [uc n] at q;exact dA q
abbrev DN : Stmt := cD 15
def BS (CN : Addr) : Sp := λ vs H Q E => ∃ x d lo hi, vs = [x, .int lo, .int hi] /\ İ H x d /\ (dB lo hi d = true -> Q .Ė H) /\ (dB lo hi d = false -> lj CN "found" x H E)
theorem E3 : ai ["thing", "low", "high"] ["thing", "low", "high"] (aa DN) := aS
theorem Dp {f a1 D CN fC : Addr} {fd d1 N5 : FuncData} (F : Ŏ K "need_number" "need_number" DN f fd) (B : Ŀ K D) (T : mV K mg D "NoNumber" "found" CN fC N5) (A1 : Df P w K mg base ar 2 "is_whole" ["thing", "low", "high"] (cA K) a1 d1) : az P w K mg base (iG P w) 3 f fd ["thing", "low", "high"] (BS CN) := by
 refine wn F E3 λ ë A outer s H vs Q E hr h => ?_;obtain ⟨x, d, lo, hi, rfl, rd, q1, q2⟩ := h;refine ⟨_, bw (bp (bh (ba (bY A1 hr ao (ae (pv 0) (ae (pv 1) (ae (pv 2) ap)))))) (bw (fS B T.cls (T.ok P w base) hr T.bi rfl T.Ou (pv 0))) hV), ?_⟩;refine ⟨_, rfl, _, rfl, _, rfl, x, lo, hi, rfl, rd.th, _, rfl, ?_⟩;rw [rd.Kt];cases e : dB lo hi d with
 | true => exact dA (q1 e)
 | false => exact hG ⟨_, rfl, λ e' dx h1 h2 nd => pA nd (q2 e e' dx h1 h2 nd)⟩
def Sz (n : Nat) : Prop := n < 2 ^ 8999
theorem Sz.log {n : Nat} (h : Sz n) : ((n : Nat) : Int).natAbs.log2 < 9000 := by
 rw [Int.natAbs_natCast];by_cases z : n = 0
 ·rw [z]; decide
 ·exact (Nat.log2_lt z).mpr (ŉ h (B_ am am))
theorem Sz.mono {m n : Nat} (h : Sz n) (e : m <= n) : Sz m := Ě e h
def bB (a b : Nat) : Nat := a / Nat.gcd a b
def aM (a b : Nat) : Nat := b / Nat.gcd a b
abbrev D3 : Stmt := cD 12
def qp : Sp := λ vs H Q _ => ∃ a b : Nat, vs = [.int a, .int b] /\ 1 <= b /\ a <= b /\ Sz b /\ ∀ p, H p = none -> Q (.ref p) (ak H p (.tup [.int (bB a b : Nat), .int (aM a b : Nat)]))
theorem Nr : ai ["top", "bottom", "common"] ["top", "bottom"] (aa D3) := aS
theorem CJ {f a1 a2 : Addr} {fd d1 d2 : FuncData} (F : Ŏ K "share_of" "share_of" D3 f fd) (A1 : Df P w K mg base ar 3 "is_part" ["top", "bottom"] (uy K) a1 d1) (A2 : Df P w K mg base ar 1 "greatest_common" ["one", "other"] pj a2 d2) : az P w K mg base ar 4 f fd ["top", "bottom"] qp := by
 refine F.ok Nr (λ vs H Q E h => ?_) (λ ë A outer s H vs Q E hr h => ?_)
 ·obtain ⟨a, b, rfl, _⟩ := h;rfl
 obtain ⟨a, b, rfl, b1, ab, sb, q⟩ := h;have nd := Nr.nd;have Δ : ė 1 _ := hr.mono am;refine ⟨_, cv (bp (bh (ba (bY A1 hr ao (ae (pv 0) (ae (pv 1) ap))))) (bw mK) hV)
  (cv (cM (i := 2) nd rfl (Or.inl rfl) (bY A2 Δ ao (ae (pv 0) (ae (pv 1) ap))))
  (bw (cq (aO (ae (aj oK (pv 0) (pv 2)) (ae (aj oK (pv 1) (pv 2)) ap)))))), ?_⟩
 have T5 : tG (.int (a : Nat)) (.int (b : Nat)) = true := by
  show (decide ((1 : Int) <= (b : Nat)) && (decide ((0 : Int) <= (a : Nat)) && decide (((a : Nat) : Int) <= (b : Nat)))) = true;rw [Î af, Î af, Î af];rfl
 have g0 : 0 < Nat.gcd a b := œ a b1;have gl : Sz (Nat.gcd a b) := sb.mono (Nat.le_of_dvd b1 (Ω a b));have gd : ∀ n : Nat, CQ ((n : Nat) : Int) ((Nat.gcd a b : Nat) : Int) := λ n => ⟨af, gl.log⟩;refine ⟨_, rfl, _, rfl, _, _, rfl, .inl ⟨_, rfl⟩, .inl ⟨_, rfl⟩, ?_⟩;rw [T5];refine ⟨_, rfl, dA ⟨_, rfl, _, rfl, a, b, rfl, ?_⟩⟩;refine ⟨_, rfl, _, rfl, _, _, rfl, rfl, gd a, _, rfl, _, rfl, _, _, rfl, rfl, gd b, ft, λ p hp => ?_⟩;have e1 : ((a : Int) / ((Nat.gcd a b : Nat) : Int)) = ((bB a b : Nat) : Int) := by simp [bB]
 have e2 : ((b : Int) / ((Nat.gcd a b : Nat) : Int)) = ((aM a b : Nat) : Int) := by simp [aM]
 show Q (.ref p) (ak H p (.tup [.int ((a : Int) / ((Nat.gcd a b : Nat) : Int)), .int ((b : Int) / ((Nat.gcd a b : Nat) : Int))]));rw [e1, e2];exact q p hp
end
def bH : PyData -> Bool
 | .tuple [a, b] => dB 0 1 a && dB 0 1 b
 | _ => false
def qc : PyData -> Bool
 | .list ds => decide (1 <= ds.length) && decide (ds.length <= 20) && ds.all bH
 | _ => false
section
variable {P : Program} {w : World} {K : Frag} {mg : bu} {base : Heap}
abbrev DT : Stmt := cD 27
def y8 : Sp := λ vs H Q _ => ∃ v d, vs = [v] /\ İ H v d /\ Q (.bl (bH d)) H
theorem Fk : ai ["thing"] ["thing"] (aa DT) := aS
theorem By {f a1 : Addr} {fd d1 : FuncData} (N : uq K) (F : Ŏ K "is_listed" "is_listed" DT f fd) (A1 : Df P w K mg base ar 2 "is_whole" ["thing", "low", "high"] (cA K) a1 d1)
  (mi : mg "isinstance" = none) (mt : mg "tuple" = none) (ml : mg "len" = none) : az P w K mg base ar 3 f fd ["thing"] y8 := by
 refine F.ok Fk (λ vs H Q E h => ?_) (λ ë A outer s H vs Q E hr h => ?_)
 ·obtain ⟨v, d, rfl, _⟩ := h;rfl
 obtain ⟨v, d, rfl, rd, q⟩ := h;refine ⟨_, cv (bp (PW.pt (gE (bh (ba (ah (bI N) rfl mi ã (ae (pv 0) (ae (fW rfl mt Ğ) ap))))) (gB (aF jN (ah au rfl ml í (ae (pv 0) ap)) aw (aI _))))) (bw (cq jd)) hV)
  (bw (cq (fw (bY A1 hr ao (ae (c6 gF (pv 0) aw) (ae aw (ae aw ap)))) (iZ (bY A1 hr ao (ae (c6 gF (pv 0) aw) (ae aw (ae aw ap)))))))), ?_⟩
 refine ⟨_, rfl, _, _, _, _, rfl, rd.kd, rd.RE, _, rfl, ?_⟩;cases e : zL d with
 | false =>
  refine hG (hG ?_);have z : bH d = false := by cases d <;> first | rfl | cases e
  rw [z] at q;exact q
 | true =>
  obtain ⟨ds, rfl⟩ : ∃ ds, d = .tuple ds := by cases d <;> first | exact ⟨_, rfl⟩ | cases e
  obtain ⟨a, xs, rfl, ha, rs⟩ := fY rd;refine dA ⟨_, rfl, a, _, rfl, .inr (ĕ.of ha), rfl, _, rfl, ?_⟩;have len := rs.length;by_cases l2 : xs.length = 2
  ·obtain ⟨u, v, rfl⟩ : ∃ u v, xs = [u, v] := by
    match xs, l2 with
    | [u, v], _ => exact ⟨u, v, rfl⟩
   cases rs with
   | cons r1 rs =>
    cases rs with
    | cons r2 rs =>
     cases rs;refine dA ⟨_, rfl, a, _, _, _, rfl, rfl, ĕ.of ha, rfl, u, 0, 1, rfl, r1.th, _, rfl, ?_⟩;rw [r1.Kt]
     rename_i d1 d2
     have qq : Q (.bl (dB 0 1 d1 && dB 0 1 d2)) H := q;cases e1 : dB 0 1 d1 with
     | false =>
      rw [e1] at qq;exact dA qq
     | true =>
      rw [e1] at qq;refine hG ⟨_, rfl, a, _, _, _, rfl, rfl, ĕ.of ha, rfl, v, 0, 1, rfl, r2.th, ?_⟩;rw [r2.Kt];exact qq
  ·have e1 : (!decide (V.int (xs.length : Nat) = V.int 2)) = true := by
    rw [à]
    ·rfl
    ·intro h;injection h with h
     omega
   rw [e1];refine hG ?_;have z : bH (.tuple ds) = false := by
    match ds, len, l2 with
    | [], _, _ => rfl
    | [_], _, _ => rfl
    | [_, _], l, n => exact absurd l n
    | _ :: _ :: _ :: _, _, _ => rfl
   rw [z] at q;exact q
end
section
variable {P : Program} {w : World} {K : Frag} {mg : bu} {base : Heap}
abbrev DP : Stmt := cD 28
def CO : Sp := λ vs H Q _ => ∃ v d, vs = [v] /\ İ H v d /\ (∀ ds, d = .list ds -> ds.length < 10000) /\ ∀ H', Ext H H' -> Q (.bl (qc d)) H'
theorem EQ : ai ["thing"] ["thing"] (aa DP) := aS
abbrev AR : Scope := dh [("each", .local), ("is_listed", .globalImplicit)]
theorem zv {X : Cx} : kC X AR [] "each" [] [] := by
 refine ⟨rfl, rfl, aJ, aJ, aJ, (λ z c h => nomatch h), (λ z h => ?_), aJ, (λ k z h => by simp at h), rfl⟩
 exfalso;have h' : List.lookup z [((".0" : Str), NameKind.local), (("each" : Str), NameKind.local), (("is_listed" : Str), NameKind.globalImplicit)] = some .cell \/ List.lookup z [((".0" : Str), NameKind.local), (("each" : Str), NameKind.local), (("is_listed" : Str), NameKind.globalImplicit)] = some .free := h;simp only [List.lookup_cons, List.lookup_nil] at h'
 repeat' (split at h')
 all_goals simp at h'
theorem Dw {f a1 a2 : Addr} {fd d1 d2 : FuncData} {OU : Tok} (N : uq K) (F : Ŏ K "is_listing" "is_listing" DP f fd) (A1 : Df P w K mg base ar 2 "is_whole" ["thing", "low", "high"] (cA K) a1 d1) (A2 : Df P w K mg base ar 3 "is_listed" ["thing"] y8 a2 d2) (Ov : mg "MOST_FOLK" = some (.int 20 OU))
  (mi : mg "isinstance" = none) (mt : mg "list" = none) (ml : mg "len" = none) (ma : mg "all" = none) : az P w K mg base ar 4 f fd ["thing"] CO := by
 refine F.ok EQ (λ vs H Q E h => ?_) (λ ë A outer s H vs Q E hr h => ?_)
 ·obtain ⟨v, d, rfl, _⟩ := h;rfl
 obtain ⟨v, d, rfl, rd, big, q⟩ := h;have Jf := hr.mono (show 2 <= 3 by decide)
 refine ⟨_, cv (bp (PW.pt (gE (bh (ba (ah (bI N) rfl mi ã (ae (pv 0) (ae (fW rfl mt h_) ap)))))
   (gB (bh (ba (bY A1 Jf ao (ae (ah au rfl ml í (ae (pv 0) ap)) (ae aw (ae (cG (v := .int 20) rfl Ov ⟨_, rfl⟩) ap))))))))) (bw (cq jd)) hV)
  (bw (cq (ah (lh rfl) rfl ma PyProof.Rows.boot_all (ae (C9 (te := c5 y8 [] E0 (ac (aq 0) aC)) rfl zv (bT (pv 0)) (λ s H C fp => by exact bY A2 hr ao (ae (pv 0) ap))) ap)))), ?_⟩
 refine ⟨_, rfl, _, _, _, _, rfl, rd.kd, rd.UW, _, rfl, ?_⟩;cases e : AY d with
 | false =>
  refine hG (hG ?_);have z : qc d = false := by cases d <;> first | rfl | cases e
  rw [z] at q;exact q H (Ext.refl _)
 | true =>
  obtain ⟨ds, rfl⟩ : ∃ ds, d = .list ds := by cases d <;> first | exact ⟨_, rfl⟩ | cases e
  obtain ⟨a, xs, rfl, ha, rs⟩ := oV rd;have len := rs.length;have bg := big ds rfl;refine dA ⟨_, rfl, a, _, rfl, .inl (û.of ha), .int (xs.length : Nat), 1, 20, rfl, .inl ⟨_, rfl⟩, _, rfl, ?_⟩;show if (!(decide ((1 : Int) <= (xs.length : Nat)) && decide (((xs.length : Nat) : Int) <= 20))) = true then _ else _
  have el : (decide ((1 : Int) <= (xs.length : Nat)) && decide (((xs.length : Nat) : Int) <= 20)) = (decide (1 <= ds.length) && decide (ds.length <= 20)) := by
   rw [len, Ŷ, ñ, ñ, Ā, Ā, Ā, Ā];omega
  rw [el];have qq : ∀ H', Ext H H' -> Q (.bl (decide (1 <= ds.length) && decide (ds.length <= 20) && ds.all bH)) H' := q;cases R5 : decide (1 <= ds.length) && decide (ds.length <= 20) with
  | false =>
   rw [R5] at qq;exact hG (qq H (Ext.refl _))
  | true =>
   rw [R5] at qq;refine dA ?_;refine ⟨_, rfl, a, rfl, ⟨_, û.of ha⟩, λ D hD => ?_⟩;refine vT (a := a) (xs := xs) (λ i ys H' => Ext H H' /\ ys = (ds.take i).map λ d => V.bl (bH d)) (by rw [len]; exact ŉ bg am) ⟨Ext.new hD, rfl⟩ (λ i ys H' p => û.of (p.1 _ _ ha)) ?_ ?_
   ·rintro i x ys H' ex ly Ę ⟨x', rfl⟩ R k;obtain ⟨d, ed, rv⟩ := rs.get ex;refine ⟨_, rfl, x, d, rfl, rv.mono x', k _ H' Ę ⟨aT _ x' hD, ?_⟩⟩;rw [aB ed, Ø];rfl
   ·rintro ys H' ly Ę ⟨x', rfl⟩;refine ⟨D, ds.map bH, rfl, ?_, ?_⟩
    ·have e3 : xs.length = ds.length := len;rw [e3, ĉ] at Ę;rw [ó];exact û.of Ę
    ·have e3 : (ds.map bH).all id = ds.all bH := by rw [k_]; rfl
     rw [e3];exact qq H' x'
abbrev DR : Stmt := cD 29
def An (C : Addr) : Sp := λ vs H Q E => ∃ v d, vs = [v] /\ İ H v d /\ (∀ ds, d = .list ds -> ds.length < 10000) /\ (qc d = true -> ∀ H', Ext H H' -> Q .Ė H') /\ (qc d = false -> ∀ H', Ext H H' -> lj C "found" v H' E)
theorem Ft : ai ["thing"] ["thing"] (aa DR) := aS
theorem C1 {f D C fC a1 : Addr} {fd N5 d1 : FuncData} (F : Ŏ K "need_listing" "need_listing" DR f fd) (B : Ŀ K D) (T : mV K mg D "NoListing" "found" C fC N5) (A1 : Df P w K mg base ar 4 "is_listing" ["thing"] CO a1 d1) : az P w K mg base (iG P w) 5 f fd ["thing"] (An C) := by
 refine GK F Ft (λ vs H Q E h => ?_) (λ ë A outer s H vs Q E hr h => ?_)
 ·obtain ⟨v, d, rfl, _⟩ := h;rfl
 obtain ⟨v, d, rfl, rd, big, q1, q2⟩ := h;have Jf := hr.mono (show 2 <= 4 by decide)
 refine ⟨_, bw (bp (bh (ba (bY A1 hr ao (ae (pv 0) ap)))) (bw (fS B T.cls (T.ok P w base) Jf T.bi rfl T.Ou (pv 0))) hV), ?_⟩;refine ⟨_, rfl, v, d, rfl, rd, big, λ H' x' => ⟨_, rfl, ?_⟩⟩;cases e : qc d with
 | false => exact hG ⟨_, rfl, λ e' dx h1 h2 nd => pA nd (q2 e H' x' e' dx h1 h2 nd)⟩
 | true => exact dA (q1 e H' x')
end
def yw (a b : Int) : PyData -> Bool
 | .tuple [.int x, .int y] => x == a && y == b
 | _ => false
def vf (a b : Int) (ds : List PyData) : Nat := ds.countP (yw a b)
section
variable {P : Program} {w : World} {K : Frag} {mg : bu} {base : Heap} {H : Hp}
theorem lu {d : PyData} (h : bH d = true) : ∃ x y : Int, d = .tuple [.int x, .int y] /\ (0 <= x /\ x <= 1) /\ (0 <= y /\ y <= 1) := by
 match d, h with
 | .tuple [a, b], h =>
  have h' : (dB 0 1 a && dB 0 1 b) = true := h;rw [ñ] at h';obtain ⟨x, rfl, hx⟩ := cu h'.1;obtain ⟨y, rfl, hy⟩ := cu h'.2;exact ⟨x, y, rfl, hx, hy⟩
structure D6 (H : Hp) (xs : List V) (ds : List PyData) (as : List (Addr × Int × Int)) : Prop where
 OQ : xs = as.map λ z => V.ref z.1
 Qs : ds = as.map λ z => .tuple [.int z.2.1, .int z.2.2]
 at_ : ∀ z ∈ as, H z.1 = some (.tup [.int z.2.1, .int z.2.2])
 bit : ∀ z ∈ as, (0 <= z.2.1 /\ z.2.1 <= 1) /\ (0 <= z.2.2 /\ z.2.2 <= 1)
theorem pV {v : V} {i : Int} (r : İ H v (.int i)) : v = .int i := by cases r; rfl
theorem tI : ∀ {xs : List V} {ds : List PyData}, è H xs ds -> ds.all bH = true -> ∃ as, D6 H xs ds as
 | _, _, .nil, _ => ⟨[], rfl, rfl, (λ _ h => nomatch h), (λ _ h => nomatch h)⟩
 | _, _, .cons r t, h => by
  rw [į, ñ] at h;obtain ⟨as, w⟩ := tI t h.2;obtain ⟨x, y, rfl, hx, hy⟩ := lu h.1;obtain ⟨a, us, rfl, ha, rs⟩ := fY r;cases rs with
  | cons r1 rs =>
   cases rs with
   | cons r2 rs =>
    cases rs;have e1 := pV r1;have e2 := pV r2;subst e1 e2;refine ⟨(a, x, y) :: as, by rw [w.OQ]; rfl, by rw [w.Qs]; rfl, λ z hz => ?_, λ z hz => ?_⟩
    ·rcases Ñ.mp hz with rfl | hz
     ·exact ha
     ·exact w.at_ z hz
    ·rcases Ñ.mp hz with rfl | hz
     ·exact ⟨hx, hy⟩
     ·exact w.bit z hz
theorem yo {as : List (Addr × Int × Int)} {a b : Int} : ((as.map λ z => (z.1, [V.int z.2.1, V.int z.2.2])).countP λ z => eZ z.2 [V.int a, V.int b]) = vf a b (as.map λ z => .tuple [.int z.2.1, .int z.2.2]) := by
 unfold vf;rw [List.countP_map, List.countP_map]
 congr 1
 funext z
 show (((z.2.1 == a)) && ((z.2.2 == b) && true)) = (z.2.1 == a && z.2.2 == b);rw [Bool.and_true]
theorem l0 {Q : VK} {l q : Addr} {xs : List V} {ds : List PyData} {as : List (Addr × Int × Int)} {a b : Int} (w : D6 H xs ds as) (hl : û K H l xs) (hq : ĕ K H q [.int a, .int b]) (k : Q (.int (vf a b ds : Nat)) H) : fT K (.ref l) [.ref q] H Q := by
 refine ⟨l, q, as.map λ z => (z.1, [V.int z.2.1, V.int z.2.2]), [.int a, .int b], rfl, rfl, ?_, λ z hz => ?_, hq, rfl, ?_⟩
 ·rw [ó];have e := w.OQ;rw [e] at hl;exact hl
 ·obtain ⟨y, hy, rfl⟩ := ò.mp hz;exact ⟨ĕ.of (w.at_ y hy), rfl⟩
 ·rw [yo, <- w.Qs];exact k
theorem eI {Q : VK} {σ : St} {i : Nat} {l q : Addr} {xs : List V} {ds : List PyData} {as : List (Addr × Int × Int)} {a b : Int} (h0 : σ[i]? = some (some (.ref l))) (w : D6 H xs ds as) (hl : û K H l xs) (hq : ĕ K H q [.int a, .int b]) (k : Q (.int (vf a b ds : Nat)) H) : D8 K "list" (fT K) (aq i) (ac (tC (.ref q)) aC) σ H Q :=
 ⟨_, h0, .inl ⟨rfl, _, hl⟩, show fT K (.ref l) [.ref q] H Q from l0 w hl hq k⟩
abbrev C4 : Stmt := cD 30
def xt (ds : List PyData) : List V := [.int (vf 1 0 ds : Nat), .int (vf 0 1 ds : Nat), .int (vf 1 1 ds : Nat), .int (vf 0 0 ds : Nat)]
def sE : Sp := λ vs H Q _ => ∃ a xs ds, vs = [.ref a] /\ H a = some (.lst xs) /\ è H xs ds /\ ds.all bH = true /\ ∀ l H', Ext H H' -> H' l = some (.tup (xt ds)) -> Q (.ref l) H'
theorem Ee : ai ["listing"] ["listing"] (aa C4) := aS
structure Cs (K : Frag) (mg : bu) (k0 k1 k2 k3 : Addr) : Prop where
 m0 : mg "BETTERED" = some (.ref k0)
 m1 : mg "WORSENED" = some (.ref k1)
 m2 : mg "ALWAYS" = some (.ref k2)
 m3 : mg "NEVER" = some (.ref k3)
 t0 : ∀ H, ĕ K H k0 [.int 1, .int 0]
 t1 : ∀ H, ĕ K H k1 [.int 0, .int 1]
 t2 : ∀ H, ĕ K H k2 [.int 1, .int 1]
 t3 : ∀ H, ĕ K H k3 [.int 0, .int 0]
theorem AQ {f k0 k1 k2 k3 : Addr} {fd : FuncData} (F : Ŏ K "counts_of" "counts_of" C4 f fd) (T : Cs K mg k0 k1 k2 k3) : az P w K mg base ar 1 f fd ["listing"] sE := by
 refine F.ok Ee (λ vs H Q E h => ?_) (λ ë A outer s H vs Q E hr h => ?_)
 ·obtain ⟨a, xs, ds, rfl, _⟩ := h;rfl
 obtain ⟨a, xs, ds, rfl, ha, rs, al, q⟩ := h;have hu : (A.deeper (PyProof.Rows.envOfC "counts_of" (aa C4) s.heap.objs.size f ë)).units + 1 < cLine := by have := hr.units; omega
 refine ⟨_, bw (cq (aO (ae (fX ý ĳ Ĳ (cR hu) (pv 0) (ae (cG (v := .ref k0) rfl T.m0 rfl) ap)) (ae (fX ý ĳ Ĳ (cR hu) (pv 0) (ae (cG (v := .ref k1) rfl T.m1 rfl) ap))
  (ae (fX ý ĳ Ĳ (cR hu) (pv 0) (ae (cG (v := .ref k2) rfl T.m2 rfl) ap)) (ae (fX ý ĳ Ĳ (cR hu) (pv 0) (ae (cG (v := .ref k3) rfl T.m3 rfl) ap)) ap)))))), ?_⟩
 obtain ⟨as, w⟩ := tI rs al;have hl := û.of (K := K) ha;have fin : ∀ l, H l = none -> Q (.ref l) (ak H l (.tup (xt ds))) := λ l hl => q l _ (Ext.new hl) aQ;exact eI (i := 0) rfl w hl (T.t0 H) (eI (i := 0) rfl w hl (T.t1 H) (eI (i := 0) rfl w hl (T.t2 H) (eI (i := 0) rfl w hl (T.t3 H) ⟨ft, fin⟩)))
theorem wz {d : PyData} (h : qc d = true) : ∃ ds, d = .list ds /\ 1 <= ds.length /\ ds.length <= 20 /\ ds.all bH = true := by
 match d, h with
 | .list ds, h =>
  have h' : (decide (1 <= ds.length) && decide (ds.length <= 20) && ds.all bH) = true := h;rw [ñ, ñ, Ā, Ā] at h';exact ⟨ds, rfl, h'.1.1, h'.1.2, h'.2⟩
end
structure Ĩ (H : Hp) (p : Addr) : Prop where
 ex : ∃ a b c : Int, H p = some (.lst [.int a, .int b, .int c]) /\ 0 <= a /\ 0 <= b /\ b < 2147483629
theorem Ĩ.ext {H H' : Hp} {p : Addr} (h : Ĩ H p) (x : Ext H H') : Ĩ H' p := by
 obtain ⟨a, b, c, e, r⟩ := h.ex;exact ⟨a, b, c, x _ _ e, r⟩
section
variable {P : Program} {w : World} {K : Frag} {mg : bu} {base : Heap}
abbrev qa : Stmt := cD 40
def sU (K : Frag) : Sp := λ vs H Q _ => ∃ (a : Addr) (ns : List Int) (k : Int), vs = [.ref a, .int k] /\ û K H a (ns.map V.int) /\ 0 <= k /\ k < 100 /\ ∀ c : Int, Q (.int c) H
theorem Hy : ai ["_law_script", "_law_k"] ["_law_script", "_law_k"] (aa qa) := aS
theorem wR {f : Addr} {fd : FuncData} (F : Ŏ K "_law_cell" "_law_cell" qa f fd) (ml : mg "len" = none) : az P w K mg base ar 1 f fd ["_law_script", "_law_k"] (sU K) := by
 refine F.ok Hy (λ vs H Q E h => ?_) (λ ë A outer s H vs Q E hr h => ?_)
 ·obtain ⟨a, ns, k, rfl, _⟩ := h;rfl
 obtain ⟨a, ns, k, rfl, hS, h0, h1, q⟩ := h;refine ⟨_, cv (bp (aF uK (pv 1) (ah au rfl ml í (ae (pv 0) ap)) (aI _)) (bw (cq (c6 kX (pv 0) (pv 1)))) hV)
  (bw (cq (aj bd (aj aR aw (pv 1)) aw))), ?_⟩
 refine ⟨_, rfl, _, rfl, a, _, rfl, .inl hS, _, _, rfl, rfl, _, rfl, ?_⟩;refine nF (λ c => ?_) (λ c => ?_)
 ·have c' : k < (((ns.map V.int).length : Nat) : Int) := ì c;rw [Å] at c';have hk : k.toNat < ns.length := af;have ek : k = ((k.toNat : Nat) : Int) := af;have z : mT (ns.map V.int) ((k.toNat : Nat) : Int) = some (.int ns[k.toNat]) := zj (by rw [Ê, Ã hk] <;> rfl)
  rw [<- ek] at z;exact ⟨_, rfl, _, rfl, a, _, _, _, rfl, rfl, hS, z, q _⟩
 ·exact ⟨_, rfl, _, _, rfl, rfl, .inl ⟨am, am⟩, _, _, rfl, rfl, q _⟩
abbrev vK : Stmt := cD 41
def xL : Sp := λ vs H Q _ => ∃ c : Int, vs = [.int c] /\ ∀ p H', H p = none -> Ext H H' -> Ĩ H' p -> Q (.ref p) H'
theorem HH : ai ["_law_cell_here"] ["_law_cell_here"] (aa vK) := aS
theorem y6 {f : Addr} {fd : FuncData} (F : Ŏ K "_law_box" "_law_box" vK f fd) (mi : mg "int" = none) : az P w K mg base ar 1 f fd ["_law_cell_here"] xL := by
 refine F.ok HH (λ vs H Q E h => ?_) (λ ë A outer s H vs Q E hr h => ?_)
 ·obtain ⟨c, rfl, _⟩ := h;rfl
 obtain ⟨c, rfl, q⟩ := h;refine ⟨_, bw (cq (aX (ae (aj aR (pv 0) (cw qC rfl mi u_ (ae (eB lB (pv 0) (aj uf aw aw) (aI _)) ap))) (ae (aj dD (pv 0) aw) (ae aw ap))))), ?_⟩;refine ⟨_, rfl, _, rfl, _, _, rfl, rfl, ⟨am, am, am⟩, _, _, rfl, rfl, .inr ⟨_, rfl, _, _, rfl, rfl, ?_, _, rfl, _, _, rfl, rfl, (by show (0 : Int) < 2147483629; decide), ft, λ p hp => ?_⟩⟩
 ·refine .inr ⟨?_, ?_⟩ <;> split <;> decide
 ·refine q p _ hp (Ext.new hp) ⟨_, _, _, aQ, ?_, ŵ _ am, ħ _ am⟩;show 0 <= c * (if decide ((10 : Int) ^ (18 : Int).toNat <= c) = true then 1 else 0)
  split
  ·rename_i z
   have z' : (10 : Int) ^ (18 : Int).toNat <= c := ì z;have z2 : (0 : Int) <= 10 ^ (18 : Int).toNat := am;omega
  ·omega
abbrev pY : Stmt := cD 42
def cf : Sp := λ vs H Q _ => ∃ (p : Addr) (m : Int), vs = [.ref p, .int m] /\ Ĩ H p /\ 0 < m /\ m < 1073741824 /\ ∀ (r : Int) (H' : Hp), 0 <= r -> r < m -> Ĩ H' p -> Kept H H' p -> (∀ b, H b = none -> H' b = none) -> Q (.int r) H'
theorem Rg : ai ["_law_box_here", "_law_many", "_law_digit", "_law_number"] ["_law_box_here", "_law_many"] (aa pY) := aS
theorem fU {H : Hp} {p : Addr} (o : HO) : Kept H (ak H p o) p := λ b u h n => by rw [ag n]; exact h
theorem oE {H : Hp} {p : Addr} {o u : HO} (h : H p = some u) : ∀ b, H b = none -> ak H p o b = none := λ b hb => by
 rw [ag (λ e => by subst e; rw [h] at hb; cases hb)]; exact hb
theorem wk {f : Addr} {fd : FuncData} (F : Ŏ K "_law_take" "_law_take" pY f fd) : az P w K mg base ar 1 f fd ["_law_box_here", "_law_many"] cf := by
 refine F.ok Rg (λ vs H Q E h => ?_) (λ ë A outer s H vs Q E hr h => ?_)
 ·obtain ⟨p, m, rfl, _⟩ := h;rfl
 obtain ⟨p, m, rfl, ⟨a, b, c, hp, a0, b0, b1⟩, m0, m1, q⟩ := h;have nd := Rg.nd;refine ⟨_, cv (bp (aF ss (c6 kX (pv 0) aw) aw (aI _))
   (cv (cM (i := 2) nd rfl (Or.inl rfl) (aj dD (c6 kX (pv 0) aw) (pv 1)))
   (cv (gq (aj kn (c6 kX (pv 0) aw) (pv 1)) (rW (pv 0) aw lG))
   (bw (cq (pv 2))))) hV)
  (cv (gq (aj bd (c6 kX (pv 0) aw) aw) (rW (pv 0) aw lG))
  (cv (cM (i := 3) nd rfl (Or.inl rfl) (aj dD (aj bd (aj bd (aj aR (c6 kX (pv 0) aw) aw) (aj aR aw (c6 kX (pv 0) aw))) aw) aw))
  (cv (cM (i := 3) nd rfl (Or.inl rfl) (aj dD (aj bd (aj bd (aj aR (pv 3) (pv 3)) (aj aR aw (c6 kX (pv 0) aw))) aw) aw))
  (bw (cq (aj dD (aj kn (aj dD (aj aR (pv 3) (aj bd (pv 3) aw)) aw) aw) (pv 1))))))), ?_⟩
 have hl := û.of (K := K) hp;refine ⟨_, rfl, p, _, _, _, rfl, rfl, hl, rfl, _, _, rfl, rfl, _, rfl, ?_⟩;refine nF (λ c1 => ?_) (λ c1 => ?_)
 ·have c2 : 0 < a := ì c1;refine ⟨_, rfl, p, _, _, _, rfl, rfl, hl, rfl, _, rfl, _, _, rfl, rfl, m0, ?_⟩;refine ⟨_, rfl, p, _, _, _, rfl, rfl, hl, rfl, _, rfl, _, _, rfl, rfl, ⟨m0, m1⟩, _, rfl, p, _, 0, 0, rfl, rfl, hp, rfl, ?_⟩;exact ⟨_, rfl, q _ _ (ŵ _ af) (ħ _ m0) ⟨_, _, _, aQ, Int.ediv_nonneg af af, b0, b1⟩ (fU _) (oE hp)⟩
 ·refine ⟨_, rfl, p, _, _, _, rfl, rfl, hl, rfl, _, _, rfl, rfl, _, rfl, p, _, 2, 2, rfl, rfl, hp, rfl, ?_⟩;have k1 : Kept H (ak H p (.lst [.int a, .int b, .int (c + 1)])) p := fU _;have k2 : ∀ b', H b' = none -> ak H p (.lst [.int a, .int b, .int (c + 1)]) b' = none := oE hp;have f1 : ak H p (.lst [.int a, .int b, .int (c + 1)]) p = some (.lst [.int a, .int b, .int (c + 1)]) := aQ;have bx : Ĩ (ak H p (.lst [.int a, .int b, .int (c + 1)])) p := ⟨_, _, _, f1, a0, b0, b1⟩;have KB := û.of (K := K) f1;have q1 := λ r h0 h1 => q r _ h0 h1 bx k1 k2;refine ⟨_, rfl, p, _, _, _, rfl, rfl, KB, rfl, _, _, rfl, rfl, .inr ⟨am, am⟩, _, rfl, p, _, _, _, rfl, rfl, KB, rfl, _, _, rfl, rfl, .inl ⟨am, am⟩, _, _, rfl, rfl, _, _, rfl, rfl, _, _, rfl, rfl, (by show (0 : Int) < 2147483647; decide), ?_⟩
  have n0 : 0 <= (b * 48271 + 12289 * (c + 1) + 77) % 2147483647 := ŵ _ am;have n1 : (b * 48271 + 12289 * (c + 1) + 77) % 2147483647 < 2147483647 := ħ _ am;have cm : IM ((b * 48271 + 12289 * (c + 1) + 77) % 2147483647) ((b * 48271 + 12289 * (c + 1) + 77) % 2147483647) := .inl ⟨Int.lt_of_lt_of_le am n0, Int.lt_trans n1 am⟩;refine ⟨_, rfl, _, rfl, _, _, rfl, rfl, cm, _, rfl, p, _, _, _, rfl, rfl, KB, rfl, _, _, rfl, rfl, .inl ⟨am, am⟩, _, _, rfl, rfl, _, _, rfl, rfl, _, _, rfl, rfl, (by show (0 : Int) < 2147483629; decide), ?_⟩
  generalize hn : ((b * 48271 + 12289 * (c + 1) + 77) % 2147483647 * ((b * 48271 + 12289 * (c + 1) + 77) % 2147483647) + 40961 * (c + 1) + 5) % 2147483629 = n2;have e0 : 0 <= n2 := by rw [<- hn]; exact ŵ _ am
  have e1 : n2 < 2147483629 := by rw [<- hn]; exact ħ _ am
  have WY : ∀ y, IM n2 y := λ y => .inl ⟨Int.lt_of_lt_of_le am e0, Int.lt_trans e1 am⟩;subst hn;refine ⟨_, rfl, _, rfl, _, _, rfl, rfl, _, _, rfl, rfl, WY _, _, _, rfl, rfl, (by show (0 : Int) < 2147483587; decide), _, _, rfl, rfl, ⟨(by show (0 : Int) < 8; decide), (by show (8 : Int) < 1073741824; decide)⟩, _, rfl, _, _, rfl, rfl, m0, ?_⟩
  exact q1 _ (ŵ _ af) (ħ _ m0)
end
def zX : PyData -> Bool
 | .int _ => true
 | _ => false
section
variable {P : Program} {w : World} {K : Frag} {mg : bu} {base : Heap}
abbrev DQ : Stmt := cD 43
def B1 : Sp := λ vs H Q _ => ∃ v d, vs = [v] /\ İ H v d /\ Q (.bl (zX d)) H
theorem F5 : ai ["_law_found"] ["_law_found"] (aa DQ) := aS
theorem Ce {f : Addr} {fd : FuncData} (N : uq K) (F : Ŏ K "_law_whole" "_law_whole" DQ f fd) (mi : mg "isinstance" = none) (m1 : mg "int" = none) (m2 : mg "bool" = none) : az P w K mg base ar 1 f fd ["_law_found"] B1 := by
 refine F.ok F5 (λ vs H Q E h => ?_) (λ ë A outer s H vs Q E hr h => ?_)
 ·obtain ⟨v, d, rfl, _⟩ := h;rfl
 obtain ⟨v, d, rfl, rd, q⟩ := h;refine ⟨_, bw (cq (fw (ah (bI N) rfl mi ã (ae (pv 0) (ae (fW rfl m1 u_) ap)))
  (iZ (uA (ah (bI N) rfl mi ã (ae (pv 0) (ae (fW rfl m2 L_) ap))))))), ?_⟩
 have UX : kitOne K (.type (jn d)) (.type "int") = some (zX d || wB d) := by cases rd <;> rfl
 refine ⟨_, rfl, _, _, _, _, rfl, rd.kd, UX, _, rfl, ?_⟩;cases e1 : zX d with
 | true =>
  rw [e1] at q;have e2 : wB d = false := by cases d <;> first | rfl | cases e1
  refine hG ⟨_, rfl, _, _, _, _, rfl, rd.kd, rd.RF, _, rfl, ?_⟩;rw [e2];exact q
 | false =>
  rw [e1] at q;cases e2 : wB d with
  | true =>
   refine hG ⟨_, rfl, _, _, _, _, rfl, rd.kd, rd.RF, _, rfl, ?_⟩;rw [e2];exact q
  | false => exact dA q
end
def aV : Nat -> Nat -> Nat
 | _, 0 => 1
 | 0, _ + 1 => 0
 | n + 1, k + 1 => aV n k + aV n (k + 1)
theorem fE (n : Nat) : aV n 0 = 1 := by cases n <;> rfl
theorem ig : ∀ {n k : Nat}, n < k -> aV n k = 0
 | 0, k + 1, _ => rfl
 | n + 1, k + 1, h => by
  show aV n k + aV n (k + 1) = 0;rw [ig af, ig af]
theorem fP : ∀ {n k : Nat}, k <= n -> 0 < aV n k
 | n, 0, _ => by rw [fE]; decide
 | n + 1, k + 1, h => by
  show 0 < aV n k + aV n (k + 1);have := fP (n := n) (k := k) af;omega
theorem gO : ∀ (n k : Nat), aV n (k + 1) * (k + 1) = aV n k * (n - k)
 | 0, k => by
  show 0 * (k + 1) = aV 0 k * (0 - k);rw [Nat.zero_sub, Ma, i_]
 | n + 1, 0 => by
  have h := gO n 0;rw [fE] at h;show (aV n 0 + aV n (0 + 1)) * (0 + 1) = aV (n + 1) 0 * (n + 1 - 0);rw [fE, fE, δ, h];omega
 | n + 1, k + 1 => by
  have h1 := gO n k;have h2 := gO n (k + 1);show (aV n (k + 1) + aV n (k + 1 + 1)) * (k + 1 + 1) = (aV n k + aV n (k + 1)) * (n + 1 - (k + 1));by_cases hk : n <= k
  ·rw [ig (show n < k + 1 by omega), ig (show n < k + 1 + 1 by omega), show n + 1 - (k + 1) = 0 by omega, i_]
   omega
  ·obtain ⟨x, hx⟩ : ∃ x, n - (k + 1) = x := ⟨_, rfl⟩;have hy : n - k = x + 1 := af;rw [hx] at h2;rw [show n + 1 - (k + 1) = x + 1 by omega, δ, δ, h2, <- hy, <- h1, hy, Jw, Jw, Jw]
   omega
theorem tY (n k : Nat) : aV n k * (n - k) / (k + 1) = aV n (k + 1) := by
 rw [<- gO, Nat.mul_div_cancel _ af]
def Sm : Nat -> (Nat -> Nat) -> Nat
 | 0, _ => 0
 | n + 1, f => Sm n f + f n
theorem bj {f g : Nat -> Nat} : ∀ {n : Nat}, (∀ i, i < n -> f i = g i) -> Sm n f = Sm n g
 | 0, _ => rfl
 | n + 1, h => by
  show Sm n f + f n = Sm n g + g n;rw [bj λ i hi => h i af, h n af]
theorem iL (f : Nat -> Nat) : ∀ n, Sm (n + 1) f = f 0 + Sm n λ i => f (i + 1)
 | 0 => by show 0 + f 0 = f 0 + 0; omega
 | n + 1 => by
  show Sm (n + 1) f + f (n + 1) = f 0 + (Sm n (λ i => f (i + 1)) + f (n + 1));rw [iL f n];omega
theorem nI (f g : Nat -> Nat) : ∀ n, Sm n (λ i => f i + g i) = Sm n f + Sm n g
 | 0 => rfl
 | n + 1 => by
  show Sm n (λ i => f i + g i) + (f n + g n) = (Sm n f + f n) + (Sm n g + g n);rw [nI f g n];omega
theorem pH : ∀ n, Sm n (λ _ => 0) = 0
 | 0 => rfl
 | n + 1 => by show Sm n (λ _ => 0) + 0 = 0; rw [pH n]
theorem tW {f : Nat -> Nat} {k : Nat} : ∀ {n : Nat}, (∀ i, i < n -> i ≠ k -> f i = 0) -> Sm n f = if k < n then f k else 0
 | 0, _ => rfl
 | n + 1, h => by
  show Sm n f + f n = _;rw [tW (k := k) λ i hi ne => h i af ne];by_cases e : n = k
  ·subst e;rw [Ë (Ă _), Õ af];omega
  ·rw [h n af e];by_cases l : k < n
   ·rw [Õ l, Õ af]; omega
   ·rw [Ë l, Ë af]
theorem q0 (a : Nat) (G : Nat -> Nat) : Sm (a + 2) (λ i => aV (a + 1) i * G i) = Sm (a + 1) (λ i => aV a i * G i) + Sm (a + 1) (λ i => aV a i * G (i + 1)) := by
 rw [iL];have e : ∀ i, aV (a + 1) (i + 1) * G (i + 1) = aV a i * G (i + 1) + aV a (i + 1) * G (i + 1) := λ i => by
  show (aV a i + aV a (i + 1)) * G (i + 1) = _;rw [δ]
 rw [bj λ i _ => e i, nI];have e2 : aV a 0 * G 0 + Sm (a + 1) (λ i => aV a (i + 1) * G (i + 1)) = Sm (a + 1) (λ i => aV a i * G i) := by
  rw [<- iL (λ i => aV a i * G i) (a + 1)];show Sm (a + 1) (λ i => aV a i * G i) + aV a (a + 1) * G (a + 1) = _;rw [ig af, Ma, Nat.add_zero]
 rw [<- e2, fE, fE];omega
def EE (f : Int -> Int -> Nat) : List (Int × Int) -> Int -> Int -> Nat
 | [], u, v => f u v
 | p :: ps, u, v => EE f ps u (v + p.1) + EE f ps (u + 1) (v + p.2)
theorem oA {f : Int -> Int -> Nat} {L M : List (Int × Int)} (h : L.Perm M) : ∀ u v, EE f L u v = EE f M u v := by
 induction h with
 | nil => exact λ u v => rfl
 | cons p _ ih =>
  intro u v;show EE f _ u (v + p.1) + EE f _ (u + 1) (v + p.2) = _;rw [ih, ih];rfl
 | swap p q L =>
  intro u v;show (EE f L u (v + q.1 + p.1) + EE f L (u + 1) (v + q.1 + p.2)) + (EE f L (u + 1) (v + q.2 + p.1) + EE f L (u + 1 + 1) (v + q.2 + p.2)) = (EE f L u (v + p.1 + q.1) + EE f L (u + 1) (v + p.1 + q.2)) + (EE f L (u + 1) (v + p.2 + q.1) + EE f L (u + 1 + 1) (v + p.2 + q.2));rw [show v + q.1 + p.1 = v + p.1 + q.1 by omega, show v + q.1 + p.2 = v + p.2 + q.1 by omega, show v + q.2 + p.1 = v + p.1 + q.2 by omega, show v + q.2 + p.2 = v + p.2 + q.2 by omega]
  omega
 | trans _ _ i1 i2 => exact λ u v => (i1 u v).trans (i2 u v)
theorem gA {f : Int -> Int -> Nat} {p : Int × Int} {M : List (Int × Int)} : ∀ (a : Nat) (u v : Int), EE f (List.replicate a p ++ M) u v = Sm (a + 1) λ i => aV a i * EE f M (u + i) (v + i * p.2 + ((a : Int) - i) * p.1)
 | 0, u, v => by
  show EE f M u v = 0 + aV 0 0 * EE f M (u + ((0 : Nat) : Int)) (v + ((0 : Nat) : Int) * p.2 + (((0 : Nat) : Int) - ((0 : Nat) : Int)) * p.1);rw [fE];simp
 | a + 1, u, v => by
  rw [î, a_];show EE f (List.replicate a p ++ M) u (v + p.1) + EE f (List.replicate a p ++ M) (u + 1) (v + p.2) = _;rw [gA a, gA a, q0 a λ i => EE f M (u + i) (v + i * p.2 + (((a + 1 : Nat) : Int) - i) * p.1)]
  congr 1
  ·refine bj λ i _ => ?_
   congr 2
   rw [show (((a + 1 : Nat) : Int) - i) = ((a : Int) - i) + 1 by omega, Int.add_mul ((a : Int) - i) 1 p.1]
   omega
  ·refine bj λ i _ => ?_
   congr 2
   ·omega
   ·rw [show (((a + 1 : Nat) : Int) - ((i + 1 : Nat) : Int)) = ((a : Int) - i) by omega, show (((i + 1 : Nat) : Int)) = (i : Int) + 1 by omega, Int.add_mul (i : Int) 1 p.2]
    omega
theorem pB {f : Int -> Int -> Nat} (h : ∀ u v, f u v <= 1) : ∀ (L : List (Int × Int)) (u v : Int), EE f L u v <= 2 ^ L.length
 | [], u, v => h u v
 | p :: L, u, v => by
  have h1 := pB h L u (v + p.1);have h2 := pB h L (u + 1) (v + p.2);show EE f L u (v + p.1) + EE f L (u + 1) (v + p.2) <= 2 ^ (L.length + 1);rw [ň];omega
theorem ka {f : Int -> Int -> Nat} {o : Nat} (hf : ∀ v, 0 < f o v) : ∀ (L : List (Int × Int)) (u : Nat) (v : Int), u <= o -> o - u <= L.length -> 0 < EE f L u v
 | [], u, v, h1, h2 => by
  have e : u = o := by simp at h2; omega
  subst e;exact hf v
 | p :: L, u, v, h1, h2 => by
  rw [Ü] at h2;show 0 < EE f L u (v + p.1) + EE f L (((u : Nat) : Int) + 1) (v + p.2);by_cases c : o - u <= L.length
  ·have := ka hf L u (v + p.1) h1 c;omega
  ·have := ka hf L (u + 1) (v + p.2) af af;rw [show (((u + 1 : Nat) : Int)) = (u : Int) + 1 by omega] at this
   omega
section
variable {α κ : Type} [DecidableEq α] [DecidableEq κ]
def f6 : List (α × Nat) -> α -> Nat
 | [], _ => 0
 | p :: r, k => if p.1 = k then p.2 else f6 r k
def fD : List (α × Nat) -> α -> Nat -> List (α × Nat)
 | [], k, c => [(k, c)]
 | p :: r, k, c => if p.1 = k then (p.1, p.2 + c) :: r else p :: fD r k c
def nV : List (α × Nat) -> α -> Nat -> List (α × Nat)
 | [], k, c => [(k, c)]
 | p :: r, k, c => if p.1 = k then (p.1, c) :: r else p :: nV r k c
def dS (g : α -> Nat) : List (α × Nat) -> Nat
 | [] => 0
 | p :: r => p.2 * g p.1 + dS g r
theorem m6 (g : α -> Nat) : ∀ ps qs : List (α × Nat), dS g (ps ++ qs) = dS g ps + dS g qs
 | [], qs => by show dS g qs = 0 + dS g qs; omega
 | p :: r, qs => by show p.2 * g p.1 + dS g (r ++ qs) = p.2 * g p.1 + dS g r + dS g qs; rw [m6 g r qs]; omega
theorem j4 (g : α -> Nat) (k : α) (c : Nat) : ∀ ps : List (α × Nat), dS g (fD ps k c) = dS g ps + c * g k
 | [] => by show c * g k + 0 = 0 + c * g k; omega
 | p :: r => by
  unfold fD;split
  ·rename_i e
   show (p.2 + c) * g p.1 + dS g r = p.2 * g p.1 + dS g r + c * g k;rw [e, δ];omega
  ·show p.2 * g p.1 + dS g (fD r k c) = p.2 * g p.1 + dS g r + c * g k;rw [j4 g k c r];omega
theorem lz {k : α} {c : Nat} {x : α} : ∀ {ps : List (α × Nat)}, x ∈ (fD ps k c).map (·.1) -> x = k \/ x ∈ ps.map (·.1)
 | [], h => by
  have h' : x ∈ [k] := h;exact .inl (ď.mp h')
 | p :: r, h => by
  unfold fD at h;split at h
  ·exact .inr h
  ·rw [É] at h;rcases Ñ.mp h with h | h
   ·exact .inr (by rw [É]; exact Ñ.mpr (.inl h))
   ·rcases lz h with h | h
    ·exact .inl h
    ·exact .inr (by rw [É]; exact Ó _ h)
structure ρ (ps : List (α × Nat)) : Prop where
 nd : (ps.map (·.1)).Nodup
 pos : ∀ q ∈ ps, 0 < q.2
theorem j3 : ρ ([] : List (α × Nat)) := ⟨List.nodup_nil, λ q h => nomatch h⟩
theorem ρ.tail {p : α × Nat} {r : List (α × Nat)} (h : ρ (p :: r)) : ρ r := by
 have nd := h.nd;rw [É, ð] at nd;exact ⟨nd.2, λ q hq => h.pos q (Ó _ hq)⟩
theorem ρ.add {k : α} {c : Nat} (hc : 0 < c) : ∀ {ps : List (α × Nat)}, ρ ps -> ρ (fD ps k c)
 | [], _ => ⟨by show ([k] : List α).Nodup; simp, λ q hq => by cases List.mem_singleton.mp (show q ∈ [(k, c)] from hq); exact hc⟩
 | p :: r, h => by
  have nd := h.nd;rw [É, ð] at nd;have pp := h.pos p (Ù ..);unfold fD;split
  ·exact ⟨by rw [É, ð]; exact nd, λ q hq => by
    rcases Ñ.mp hq with rfl | hq
    ·show 0 < p.2 + c; omega
    ·exact h.pos q (Ó _ hq)⟩
  ·rename_i ne
   have t := (ρ.tail h).add (k := k) hc;exact ⟨by
    rw [É, ð];exact ⟨λ z => by
     rcases lz z with z | z
     ·exact ne z
     ·exact nd.1 z, t.nd⟩, λ q hq => by
    rcases Ñ.mp hq with rfl | hq
    ·exact pp
    ·exact t.pos q hq⟩
theorem tf {k : α} : ∀ {ps : List (α × Nat)}, k ∉ ps.map (·.1) -> f6 ps k = 0
 | [], _ => rfl
 | p :: r, h => by
  rw [É, Ñ] at h;unfold f6;rw [Ë (λ z => h (.inl z.symm)), tf (λ z => h (.inr z))]
theorem xS {k : α} : ∀ {ps : List (α × Nat)}, k ∉ ps.map (·.1) -> dS (λ x => if x = k then 1 else 0) ps = 0
 | [], _ => rfl
 | p :: r, h => by
  rw [É, Ñ] at h;show p.2 * (if p.1 = k then 1 else 0) + dS _ r = 0
  rw [Ë (λ z => h (.inl z.symm)), xS (λ z => h (.inr z))];rfl
theorem rf {k : α} : ∀ {ps : List (α × Nat)}, (ps.map (·.1)).Nodup -> f6 ps k = dS (λ x => if x = k then 1 else 0) ps
 | [], _ => rfl
 | p :: r, nd => by
  rw [É, ð] at nd;show (if p.1 = k then p.2 else f6 r k) = p.2 * (if p.1 = k then 1 else 0) + dS _ r
  by_cases e : p.1 = k
  ·rw [Õ e, Õ e, xS (by rw [<- e]; exact nd.1)]
   omega
  ·rw [Ë e, Ë e, rf nd.2];omega
theorem gZ {q : α × Nat} : ∀ {ps : List (α × Nat)}, (ps.map (·.1)).Nodup -> q ∈ ps -> f6 ps q.1 = q.2
 | p :: r, nd, h => by
  rw [É, ð] at nd;unfold f6;rcases Ñ.mp h with rfl | h
  ·rw [Õ rfl]
  ·rw [Ë (λ z => nd.1 (by rw [z]; exact ò.mpr ⟨q, h, rfl⟩)), gZ nd.2 h]
theorem ρ.mem {ps : List (α × Nat)} (h : ρ ps) {k : α} : k ∈ ps.map (·.1) ↔ 0 < f6 ps k := by
 constructor
 ·intro hk;obtain ⟨q, hq, rfl⟩ := ò.mp hk;rw [gZ h.nd hq];exact h.pos q hq
 ·intro hk;refine Classical.byContradiction λ z => ?_;rw [tf z] at hk;exact absurd hk (Ă _)
theorem j8 : ∀ ps : List (α × Nat), ((ps.map λ q => ((q.2 : Nat) : Int)).sum) = ((dS (λ _ => 1) ps : Nat) : Int)
 | [] => rfl
 | p :: r => by
  show ((p.2 : Nat) : Int) + (r.map λ q => ((q.2 : Nat) : Int)).sum = ((p.2 * 1 + dS (λ _ => 1) r : Nat) : Int);rw [j8 r];omega
theorem xB {g : α -> Nat} : ∀ {ps : List (α × Nat)} {q : α × Nat}, q ∈ ps -> q.2 * g q.1 <= dS g ps
 | p :: r, q, h => by
  show q.2 * g q.1 <= p.2 * g p.1 + dS g r;rcases Ñ.mp h with rfl | h
  ·omega
  ·have := xB (g := g) h;omega
theorem nW {g h : α -> Nat} : ∀ {ps : List (α × Nat)}, (∀ q ∈ ps, g q.1 = h q.1) -> dS g ps = dS h ps
 | [], _ => rfl
 | p :: r, e => by
  show p.2 * g p.1 + dS g r = p.2 * h p.1 + dS h r;rw [e p (Ù ..), nW λ q hq => e q (Ó _ hq)]
def bZ (f : α -> κ) (ps : List (α × Nat)) : List (κ × V) := ps.map λ p => (f p.1, V.int (p.2 : Nat))
theorem eQ {f : α -> κ} {ps : List (α × Nat)} : (bZ f ps).length = ps.length := Å ..
theorem gc {f : α -> κ} (inj : ∀ a b, f a = f b -> a = b) (k : α) : ∀ {ps : List (α × Nat)}, (cF (bZ f ps) (f k) = none /\ f6 ps k = 0 /\ k ∉ ps.map (·.1)) \/ (cF (bZ f ps) (f k) = some (.int (f6 ps k : Nat)) /\ k ∈ ps.map (·.1))
 | [] => .inl ⟨rfl, rfl, by simp⟩
 | p :: r => by
  by_cases e : p.1 = k
  ·refine .inr ⟨?_, by rw [É, e]; exact Ù ..⟩
   show cF ((f p.1, V.int (p.2 : Nat)) :: bZ f r) (f k) = _;rw [dH (by rw [e])]
   unfold f6;rw [Õ e]
  ·have ne : ¬ f p.1 = f k := λ z => e (inj _ _ z);have e2 : cF (bZ f (p :: r)) (f k) = cF (bZ f r) (f k) := by
    show cF ((f p.1, V.int (p.2 : Nat)) :: bZ f r) (f k) = _;rw [dO ne]
   unfold f6;rw [Ë e, e2, É, Ñ];rcases gc inj k (ps := r) with ⟨h1, h2, h3⟩ | ⟨h1, h2⟩
   ·exact .inl ⟨h1, h2, λ z => by
     rcases z with z | z
     ·exact e z.symm
     ·exact h3 z⟩
   ·exact .inr ⟨h1, .inr h2⟩
theorem Ki {p : κ × V} {r : List (κ × V)} {k : κ} {v : V} (h : ¬ p.1 = k) : aZ (p :: r) k v = p :: aZ r k v := by
 unfold aZ;rw [ν, à h, Bool.false_or];split
 ·rw [É, Ë h]
 ·rfl
theorem Kj {p : κ × V} {r : List (κ × V)} {k : κ} {v : V} (h : p.1 = k) (n : k ∉ r.map (·.1)) : aZ (p :: r) k v = (p.1, v) :: r := by
 unfold aZ;rw [ν, Î h, Bool.true_or, Õ rfl, É, Õ h]
 congr 1
 refine (Im λ q hq => ?_).trans (List.map_id r);rw [Ë (λ z => n (ò.mpr ⟨q, hq, z⟩))];rfl
theorem lO {f : α -> κ} {ps : List (α × Nat)} : (bZ f ps).map (·.1) = ps.map λ q => f q.1 := by
 unfold bZ;rw [ó];rfl
theorem zf {f : α -> κ} (inj : ∀ a b, f a = f b -> a = b) {k : α} {ps : List (α × Nat)} (h : k ∉ ps.map (·.1)) : f k ∉ (bZ f ps).map (·.1) := λ z => by
 rw [lO] at z;obtain ⟨q, hq, e⟩ := ò.mp z;exact h (ò.mpr ⟨q, hq, inj _ _ e⟩)
theorem oZ {f : α -> κ} (inj : ∀ a b, f a = f b -> a = b) (k : α) (c : Nat) : ∀ {ps : List (α × Nat)}, (ps.map (·.1)).Nodup -> aZ (bZ f ps) (f k) (.int (c : Nat)) = bZ f (nV ps k c)
 | [], _ => rfl
 | p :: r, nd => by
  rw [É, ð] at nd;show aZ ((f p.1, V.int (p.2 : Nat)) :: bZ f r) (f k) _ = bZ f (nV (p :: r) k c);by_cases e : p.1 = k
  ·rw [Kj (by rw [e]) (zf inj (by rw [<- e]; exact nd.1))]
   unfold nV;rw [Õ e];rfl
  ·rw [Ki (λ z => e (inj _ _ z)), oZ inj k c nd.2];show _ = bZ f (if p.1 = k then (p.1, c) :: r else p :: nV r k c)
   rw [Ë e];rfl
theorem mv {k : α} {c : Nat} : ∀ {ps : List (α × Nat)}, nV ps k (f6 ps k + c) = fD ps k c
 | [] => by show [(k, 0 + c)] = [(k, c)]; rw [Α]
 | p :: r => by
  unfold nV fD f6;by_cases e : p.1 = k
  ·rw [Õ e, Õ e, Õ e]
  ·rw [Ë e, Ë e, Ë e, mv]
theorem oO {f : α -> κ} (inj : ∀ a b, f a = f b -> a = b) (k : α) (c : Nat) {ps : List (α × Nat)} (nd : (ps.map (·.1)).Nodup) : aZ (bZ f ps) (f k) (.int (f6 ps k + c : Nat)) = bZ f (fD ps k c) := by
 rw [oZ inj k _ nd, mv]
theorem fJ {k : α} {c : Nat} : ∀ (ps : List (α × Nat)), (fD ps k c).length <= ps.length + 1
 | [] => Ä _
 | p :: r => by
  unfold fD;split
  ·exact Nat.le_succ _
  ·have := fJ (k := k) (c := c) r;rw [Ü, Ü];omega
end
theorem OG {β : Type} [DecidableEq β] : ∀ {xs ys : List β}, xs.Nodup -> (∀ x ∈ xs, x ∈ ys) -> xs.length <= ys.length
 | [], _, _, _ => Ĕ _
 | x :: xs, ys, nd, h => by
  rw [ð] at nd;have hx := h x (Ù ..);have l := List.length_erase_of_mem hx;have := OG (xs := xs) (ys := ys.erase x) nd.2 λ z hz => (List.mem_erase_of_ne (λ e => by subst e; exact nd.1 hz)).mpr (h z (Ó _ hz))
  have p : 0 < ys.length := List.length_pos_of_mem hx;rw [Ü];omega
def iJ (O n : Int) (p : Int × Int) : Int × Int := (0 - O * p.2, (n - O) * p.1)
def fg (O : Int) (g : Int -> Nat) (u v : Int) : Nat := if u = O then g v else 0
def bD (L : List (Int × Int)) : Prop := ∀ p ∈ L, (p.1 = 0 \/ p.1 = 1) /\ (p.2 = 0 \/ p.2 = 1)
def fj (a b c d : Nat) : List (Int × Int) := List.replicate a (1, 0) ++ (List.replicate b (0, 1) ++ (List.replicate c (1, 1) ++ List.replicate d (0, 0)))
theorem gm : ∀ {L : List (Int × Int)}, bD L -> L.Perm (fj (L.count (1, 0)) (L.count (0, 1)) (L.count (1, 1)) (L.count (0, 0)))
 | [], _ => by simp [fj]
 | p :: L, h => by
  have ih := gm (L := L) λ q hq => h q (Ó _ hq);obtain ⟨h1, h2⟩ := h p (Ù ..);obtain ⟨x, y⟩ := p;have h1 : x = 0 \/ x = 1 := h1;have h2 : y = 0 \/ y = 1 := h2;have st := List.Perm.cons (x, y) ih;refine st.trans ?_;unfold fj;rcases h1 with rfl | rfl <;> rcases h2 with rfl | rfl
  ·rw [ê am, ê am, ê am, ŭ, î];rw [<- Ċ, <- Ċ, <- Ċ, <- Ċ];exact Jj.symm
  ·rw [ê am, ŭ, ê am, ê am, î (n := List.count (0, 1) L), a_];exact Jj.symm
  ·rw [ŭ, ê am, ê am, ê am, î, a_]
  ·rw [ê am, ê am, ŭ, ê am, î (n := List.count (1, 1) L), a_];generalize List.replicate (List.count (1, 0) L) ((1 : Int), (0 : Int)) = A;generalize List.replicate (List.count (0, 1) L) ((0 : Int), (1 : Int)) = B;generalize List.replicate (List.count (1, 1) L) ((1 : Int), (1 : Int)) = C;generalize List.replicate (List.count (0, 0) L) ((0 : Int), (0 : Int)) = D;rw [<- Ċ A B (C ++ D), <- Ċ A B ((1, 1) :: (C ++ D))];exact Jj.symm
def iw (O n b c : Int) (i j k : Int) : Int := (n - O) * (i + k) - O * (b - j + c - k)
abbrev Q4 := Int × Int × Int × Int
def fc (O : Int) (a b c d : Nat) (i j k : Nat) : List (Q4 × Nat) := if 0 <= O - i - j - k /\ O - i - j - k <= d then [(((i : Int), (j : Int), (k : Int), O - i - j - k), aV a i * aV b j * aV c k * aV d (O - i - j - k).toNat)] else []
def fQ (O : Int) (a b c d : Nat) (i j m : Nat) : List (Q4 × Nat) := (List.range m).flatMap (fc O a b c d i j)
def gH (O : Int) (a b c d : Nat) (i m : Nat) : List (Q4 × Nat) := (List.range m).flatMap λ j => fQ O a b c d i j (c + 1)
def cJ (O : Int) (a b c d : Nat) (m : Nat) : List (Q4 × Nat) := (List.range m).flatMap λ i => gH O a b c d i (b + 1)
theorem cT {β : Type} (f : Nat -> List β) (n : Nat) : (List.range (n + 1)).flatMap f = (List.range n).flatMap f ++ f n := by
 rw [Ĺ, List.flatMap_append];simp
theorem gS {α : Type} [DecidableEq α] (G : α -> Nat) (f : Nat -> List (α × Nat)) : ∀ n, dS G ((List.range n).flatMap f) = Sm n λ i => dS G (f i)
 | 0 => rfl
 | n + 1 => by
  rw [cT, m6, gS G f n];rfl
def v4 (O n b c : Int) (q : Q4) : Int := iw O n b c q.1 q.2.1 q.2.2.1
theorem vL {O : Int} {g : Int -> Nat} (d : Nat) (u v : Int) : EE (fg O g) (List.replicate d ((0 : Int), (0 : Int))) u v = if 0 <= O - u /\ O - u <= d then aV d (O - u).toNat * g v else 0 := by
 have e := gA (f := fg O g) (p := (0, 0)) (M := []) d u v;rw [ü] at e;rw [e];have e2 : ∀ i : Nat, aV d i * EE (fg O g) [] (u + i) (v + i * (0 : Int) + ((d : Int) - i) * (0 : Int)) = aV d i * fg O g (u + i) v := λ i => by
  rw [Ŋ, Ŋ, Int.add_zero, Int.add_zero];rfl
 rw [bj λ i _ => e2 i];by_cases h : 0 <= O - u
 ·rw [tW (k := (O - u).toNat) λ i _ ne => ?_]
  ·by_cases h2 : O - u <= d
   ·rw [Õ af, Õ ⟨h, h2⟩];unfold fg;rw [Õ af]
   ·rw [Ë af, Ë (λ z => h2 z.2)]
  ·unfold fg;rw [Ë af, i_]
 ·rw [Ë (λ z => h z.1)];rw [bj (g := λ _ => 0) λ i _ => ?_, pH];unfold fg;rw [Ë af, i_]
theorem jZ (x : Nat) (f : Nat -> Nat) : ∀ n, x * Sm n f = Sm n λ i => x * f i
 | 0 => rfl
 | n + 1 => by
  show x * (Sm n f + f n) = Sm n (λ i => x * f i) + x * f n;rw [Jw, jZ x f n]
theorem kM {L : List (Int × Int)} (h : bD L) (O n : Int) (g : Int -> Nat) : EE (fg O g) (L.map (iJ O n)) 0 0 = dS (λ q => g (v4 O n (L.count (0, 1) : Nat) (L.count (1, 1) : Nat) q)) (cJ O (L.count (1, 0)) (L.count (0, 1)) (L.count (1, 1)) (L.count (0, 0)) (L.count (1, 0) + 1)) := by
 rw [oA ((gm h).map (iJ O n))];generalize L.count (1, 0) = a;generalize L.count (0, 1) = b;generalize L.count (1, 1) = c;generalize L.count (0, 0) = d;unfold fj;rw [Ø, Ø, Ø, Θ, Θ, Θ, Θ];have w0 : iJ O n (1, 0) = (0, n - O) := by show (0 - O * 0, (n - O) * 1) = _; rw [Ŋ, ε, Int.sub_zero]
 have w1 : iJ O n (0, 1) = (- O, 0) := by show (0 - O * 1, (n - O) * 0) = _; rw [Ŋ, ε, IS]
 have w2 : iJ O n (1, 1) = (- O, n - O) := by show (0 - O * 1, (n - O) * 1) = _; rw [ε, ε, IS]
 have w3 : iJ O n (0, 0) = (0, 0) := by show (0 - O * 0, (n - O) * 0) = _; rw [Ŋ, Ŋ, Int.sub_zero]
 rw [w0, w1, w2, w3, gA];unfold cJ;rw [gS];refine bj λ i _ => ?_;rw [gA, jZ];unfold gH;rw [gS];refine bj λ j _ => ?_;rw [gA, jZ, jZ];unfold fQ;rw [gS];refine bj λ k _ => ?_;rw [vL];unfold fc;have eu : O - (0 + (i : Int) + (j : Int) + (k : Int)) = O - i - j - k := af;rw [eu];by_cases hc : 0 <= O - i - j - k /\ O - i - j - k <= d
 ·rw [Õ hc, Õ hc];show _ = aV a i * aV b j * aV c k * aV d (O - i - j - k).toNat * g (iw O n b c i j k) + 0;simp only [Nat.add_zero, Nat.mul_assoc]
  congr 5
  unfold iw;show 0 + (i : Int) * (n - O) + ((a : Int) - i) * 0 + (j : Int) * 0 + ((b : Int) - j) * (- O) + (k : Int) * (n - O) + ((c : Int) - k) * (- O) = (n - O) * ((i : Int) + k) - O * ((b : Int) - j + c - k);rw [Ŋ, Ŋ, Int.mul_neg, Int.mul_neg, Int.mul_add, show (b : Int) - j + c - k = (b - j) + (c - k) by omega, Int.mul_add, Γ (i : Int), Γ (k : Int), Γ O, Γ O]
  omega
 ·rw [Ë hc, Ë hc];rfl
def cC : Nat -> Nat -> Nat
 | 0, _ => 0
 | n + 1, x => x % 2 + cC n (x / 2)
def kI : List (Int × Int) -> Nat -> Int
 | [], _ => 0
 | p :: W, x => (if x % 2 = 1 then p.2 else p.1) + kI W (x / 2)
theorem rp (f : Nat -> Nat) : ∀ m, Sm (2 * m) f = Sm m λ y => f (2 * y) + f (2 * y + 1)
 | 0 => rfl
 | m + 1 => by
  show Sm (2 * m + 1 + 1) f = Sm m (λ y => f (2 * y) + f (2 * y + 1)) + (f (2 * m) + f (2 * m + 1));show Sm (2 * m) f + f (2 * m) + f (2 * m + 1) = _;rw [rp f m];omega
theorem iB {f : Int -> Int -> Nat} : ∀ (W : List (Int × Int)) (u v : Int), Sm (2 ^ W.length) (λ x => f (u + (cC W.length x : Nat)) (v + kI W x)) = EE f W u v
 | [], u, v => by
  show 0 + f (u + ((0 : Nat) : Int)) (v + 0) = f u v;simp
 | p :: W, u, v => by
  rw [Ü, ň, j', rp, nI];show _ = EE f W u (v + p.1) + EE f W (u + 1) (v + p.2);rw [<- iB W u (v + p.1), <- iB W (u + 1) (v + p.2)]
  congr 1
  ·refine bj λ y _ => ?_;have e1 : 2 * y % 2 = 0 := af;have e2 : 2 * y / 2 = y := af
   congr 1
   ·show u + ((2 * y % 2 + cC W.length (2 * y / 2) : Nat) : Int) = _;rw [e1, e2, Α]
   ·show v + ((if 2 * y % 2 = 1 then p.2 else p.1) + kI W (2 * y / 2)) = _
    rw [e1, e2, Ë am];omega
  ·refine bj λ y _ => ?_;have e1 : (2 * y + 1) % 2 = 1 := af;have e2 : (2 * y + 1) / 2 = y := af
   congr 1
   ·show u + (((2 * y + 1) % 2 + cC W.length ((2 * y + 1) / 2) : Nat) : Int) = _;rw [e1, e2];omega
   ·show v + ((if (2 * y + 1) % 2 = 1 then p.2 else p.1) + kI W ((2 * y + 1) / 2)) = _
    rw [e1, e2, Õ rfl];omega
theorem u9 {X : Cx} {sc : Scope} {ts : List Str} {L : List (Str × NameKind)} (Iw : closureFor sc X.env = pure []) (kind : sc.kind = .function) (nc : ∀ y ∈ sc.names, y.2 ≠ .cell) (nm : ∀ y ∈ sc.names, y.2 = .local -> sc.names.lookup y.1 = some .local) (var : ∀ x ∈ ts, sc.names.lookup x = some .local)
  (rl : (relabel sc X.env).names = L) (has : ∀ y ∈ L, ¬(y.2 = .cell \/ y.2 = .free)) (nd : (ts ++ []).Nodup) : aW X sc [] ts [] [] := by
 refine ⟨Iw, kind, nc, nm, var, (λ z c h => by cases h), λ z h => ?_, nd, (λ k z h => by simp at h), rfl⟩
 rw [rl] at h;rcases h with h | h
 ·exact absurd (.inl rfl) (has _ (ă h))
 ·exact absurd (.inr rfl) (has _ (ă h))
end My
namespace My
open PySem L2
theorem xu {z x : Str} {c d : Addr} {cl : List (Str × Addr)} (n : z ≠ x) (h : cl.lookup z = some c) : List.lookup z ((x, d) :: cl) = some c := by
 rw [χ, ē.mpr n]; exact h
theorem wf {x : Str} {d : Addr} {cl : List (Str × Addr)} : List.lookup x ((x, d) :: cl) = some d := by
 rw [χ, ı]
end My
namespace My
open PySem PySem.W L2
theorem jF : ∀ {cl : List (Str × Addr)} {z : Str}, z ∈ cl.map (·.1) -> ∃ c, cl.lookup z = some c
 | (x, d) :: cl, z, h => by
  by_cases e : z = x
  ·subst e; exact ⟨d, wf⟩
  ·rw [É, Ñ] at h;rcases h with h | h
   ·exact absurd h e
   ·obtain ⟨c, hc⟩ := jF h;exact ⟨c, xu e hc⟩
theorem bz {X : Cx} {sc : Scope} {cl : List (Str × Addr)} {ts zs : List Str} {js : List Nat} {M : List Str} {L : List (Str × NameKind)} (Iw : closureFor sc X.env = pure cl) (kind : sc.kind = .function) (nc : ∀ y ∈ sc.names, y.2 ≠ .cell) (nm : ∀ y ∈ sc.names, y.2 = .local -> sc.names.lookup y.1 = some .local) (var : ∀ x ∈ ts, sc.names.lookup x = some .local)
  (hM : cl.map (·.1) = M) (hc : cl.map (λ y => X.env.cells.lookup y.1) = cl.map (λ y => some y.2)) (rl : (relabel sc X.env).names = L) (has : ∀ y ∈ L, (y.2 = .cell \/ y.2 = .free) -> y.1 ∈ M) (nd : (ts ++ zs).Nodup)
  (hj : zs.map some = js.map (λ j => X.N[j]?)) (hv : zs.map (λ z => X.env.scope.names.lookup z) = zs.map (λ _ => some .cell)) (hl : zs.map (λ z => L.lookup z) = zs.map (λ _ => some .cell)) : aW X sc cl ts zs js := by
 have ln : js.length = zs.length := by have := ĭ List.length hj; simpa using this.symm
 refine ⟨Iw, kind, nc, nm, var, λ z c h => ?_, λ z h => ?_, nd, λ k z h => ?_, ln⟩
 ·have m := ă h;obtain ⟨i, hi, e⟩ := Ż m;have q := ĭ (λ l => l[i]?) hc;simp only [List.getElem?_map, List.getElem?_eq_getElem hi, e, Option.map_some] at q;exact Ð q
 ·rw [rl] at h;refine jF ?_;rw [hM];rcases h with h | h
  ·exact has _ (ă h) (.inl rfl)
  ·exact has _ (ă h) (.inr rfl)
 ·have hk : k < zs.length := (Ö.mp h).1;have Oy : k < js.length := by rw [ln]; exact hk
  have q := ĭ (λ l => l[k]?) hj;simp only [List.getElem?_map, h, List.getElem?_eq_getElem Oy, Option.map_some] at q;have v := ĭ (λ l => l[k]?) hv;simp only [List.getElem?_map, h, Option.map_some] at v;have u := ĭ (λ l => l[k]?) hl;simp only [List.getElem?_map, h, Option.map_some] at u;have v' : X.env.scope.names.lookup z = some .cell := Ð v;refine ⟨js[k], Ã Oy, (Ð q).symm, .inr (.inl v'), λ e => ?_, .inl (by rw [rl]; exact Ð u)⟩
  have e' : X.env.scope.names.lookup z = some .local := e;rw [v'] at e'; cases e'
section
variable {X : Cx}
def xw (K : Frag) : List V -> Hp -> VK -> Prop := λ vs H Q => ∃ (l : Addr) (ns : List Int), vs = [.ref l] /\ ĕ K H l (ns.map V.int) /\ Q (.int ns.sum) H
theorem cV (hc : X.calm = true) : bv X (.builtin "sum") (xw X.K) := by
 intro pins s σ H xs us Q I r h;obtain ⟨l, ns, rfl, hl, q⟩ := h;obtain ⟨u, rfl, ru⟩ := ck r;cases (show u = Value.ref l from ru);obtain ⟨its, rv, p, hz⟩ := I.tuple hl;have hT : s.heap.IsTuple l its.toArray := p;have Ű : l < s.heap.objs.size := by
  obtain ⟨o, h, _⟩ := hT;exact Æ h
 refine call_sum_walkG (JG hT ?_);refine ⟨s.heap.objs.size, _, _, _, _, _, λ i => ns.getD i 0, rfl, Walks.tuple (A := X.A.in1) (show (X.A.in1).handled = none from I.ok.hd hc) _ l (Í Ű) its.toArray, ⟨⟨_, Ç _ rfl, rfl, rfl⟩, ?_⟩, ?_, ?_, ?_⟩
 ·obtain ⟨o, h1, h2⟩ := hT;exact ⟨o, Á _ h1, h2⟩
 ·intro b hb;show b < (s.heap.push _).objs.size;rw [ö];simp only [List.mem_cons, List.not_mem_nil, or_false] at hb;rcases hb with rfl | rfl
  ·exact Nat.lt_succ_self _
  ·exact Į Ű
 ·intro i v hv;have Kx : its[i]? = some v := by simpa using hv
  obtain ⟨xs, rfl, rfl⟩ := fk rv;rw [Ê] at Kx;obtain ⟨p, hp, rfl⟩ := đ.mp Kx;refine ⟨p.2, ?_⟩;show Value.int p.1 p.2 = Value.int ((xs.map (·.1)).getD i 0) p.2;rw [Ħ, Ê, hp];rfl
 ·intro h' tk t' k;have ln : its.toArray.size = ns.length := by have := rv.length; rw [Å] at this; simp; omega
  rw [ln, jU];exact ⟨.int _, H, I.kept (t' := tk) λ b o eb => k b o (λ z => by rw [ď.mp z] at eb; exact absurd (Æ eb) (Ă _)) (Á _ eb), ⟨_, rfl⟩, q⟩
end
def n9 : List PyData -> Int
 | .int i :: r => i + n9 r
 | _ :: r => n9 r
 | [] => 0
def gG : PyData -> Bool
 | .tuple ds => decide (ds.length = 4) && (ds.all (dB 0 20) && dB 1 20 (.int (n9 ds)))
 | _ => false
theorem pS {G : Hp} : ∀ {xs : List V} {ds : List PyData}, è G xs ds -> ds.all (dB 0 20) = true -> ∃ ns : List Int, xs = ns.map V.int /\ ds = ns.map PyData.int /\ n9 ds = ns.sum /\ ∀ n ∈ ns, 0 <= n /\ n <= 20
 | _, _, .nil, _ => ⟨[], rfl, rfl, rfl, λ n h => nomatch h⟩
 | _, _, .cons (d := d) r t, h => by
  rw [į, ñ] at h;obtain ⟨i, rfl, h1, h2⟩ := cu h.1;obtain ⟨ns, rfl, rfl, e, b⟩ := pS t h.2;cases r;refine ⟨i :: ns, rfl, rfl, ?_, λ n hn => ?_⟩
  ·show i + n9 _ = _;rw [e, ß]
  ·rcases Ñ.mp hn with rfl | hn
   ·exact ⟨h1, h2⟩
   ·exact b n hn
section
variable {P : Program} {w : World} {K : Frag} {mg : bu} {base : Heap}
abbrev D7 : Stmt := cD 31
def CB : Sp := λ vs H Q _ => ∃ v d, vs = [v] /\ İ H v d /\ (∀ H', Ext H H' -> Q (.bl (gG d)) H')
theorem Et : ai ["thing"] ["thing"] (aa D7) := aS
abbrev BJ : Scope := dh [("count", .local), ("is_whole", .globalImplicit), ("MOST_FOLK", .globalImplicit)]
theorem yR {X : Cx} : aW X BJ [] ["count"] [] [] := u9 (L := [(".0", .local), ("count", .local), ("is_whole", .globalImplicit), ("MOST_FOLK", .globalImplicit)]) rfl rfl aJ aJ aJ rfl aJ aJ
theorem lR : ((["count"] : List Str) ++ ([] : List Str)).Nodup := aJ
theorem C6 {f a1 : Addr} {fd d1 : FuncData} {OU : Tok} (N : uq K) (F : Ŏ K "are_counts" "are_counts" D7 f fd) (A1 : Df P w K mg base ar 2 "is_whole" ["thing", "low", "high"] (cA K) a1 d1) (Ov : mg "MOST_FOLK" = some (.int 20 OU))
  (mi : mg "isinstance" = none) (mt : mg "tuple" = none) (ml : mg "len" = none) (ma : mg "all" = none) (ms : mg "sum" = none) : az P w K mg base ar 3 f fd ["thing"] CB := by
 refine F.ok Et (λ vs H Q E h => ?_) (λ ë A outer s H vs Q E hr h => ?_)
 ·obtain ⟨v, d, rfl, _⟩ := h;rfl
 obtain ⟨v, d, rfl, rd, q⟩ := h;refine ⟨_, cv (bp (PW.pt (gE (bh (ba (ah (bI N) rfl mi ã (ae (pv 0) (ae (fW rfl mt Ğ) ap))))) (gB (aF jN (ah au rfl ml í (ae (pv 0) ap)) aw (aI _))))) (bw (cq jd)) hV)
  (cv (bp (bh (ba (ah (lh rfl) rfl ma PyProof.Rows.boot_all (ae (kc (te := c5 (cA K) [] E0 (ac (aq 0) (ac (tC (.int 0)) (ac (tC (.int 20)) aC)))) rfl yR (uC (pv 0)) (λ s H C fp => bM (i := 0) lR rfl (Or.inl rfl)) (λ s H C fp => by exact bY A1 hr ao (ae (pv 0) (ae aw (ae (cG (v := .int 20) rfl Ov ⟨_, rfl⟩) ap))))) ap)))) (bw (cq jd)) hV)
  (bw (cq (bY A1 hr ao (ae (ah (cV rfl) rfl ms Ý (ae (pv 0) ap)) (ae aw (ae (cG (v := .int 20) rfl Ov ⟨_, rfl⟩) ap))))))), ?_⟩
 refine ⟨_, rfl, _, _, _, _, rfl, rd.kd, rd.RE, _, rfl, ?_⟩;cases e : zL d with
 | false =>
  refine hG (hG ?_);have z : gG d = false := by cases d <;> first | rfl | cases e
  rw [z] at q;exact q H (Ext.refl _)
 | true =>
  obtain ⟨ds, rfl⟩ : ∃ ds, d = .tuple ds := by cases d <;> first | exact ⟨_, rfl⟩ | cases e
  obtain ⟨a, xs, rfl, ha, rs⟩ := fY rd;have len := rs.length;refine dA ⟨_, rfl, a, _, rfl, .inr (ĕ.of ha), rfl, _, rfl, ?_⟩;have qq : ∀ H', Ext H H' -> Q (.bl (decide (ds.length = 4) && (ds.all (dB 0 20) && dB 1 20 (.int (n9 ds))))) H' := q;by_cases l4 : ds.length = 4
  ·have e1 : (!decide (V.int (xs.length : Nat) = V.int 4)) = false := by
    rw [len, l4];rfl
   rw [e1];refine dA ?_;rw [Î l4, Iz] at qq;refine ⟨_, rfl, a, rfl, ⟨_, ĕ.of ha⟩, λ D hD => ?_⟩;refine dq (n := xs.length) (λ i ys H' => Ext H H' /\ ys = (ds.take i).map λ d => V.bl (dB 0 20 d)) (by rw [len, l4, Ú]; omega) ⟨Ext.new hD, rfl⟩ (λ i ys H' hi p => ⟨xs, xs[i], ĕ.of (p.1 _ _ ha), Ã hi⟩) (λ ys H' p => ⟨xs, ĕ.of (p.1 _ _ ha), Ä _⟩) ?_ ?_
   ·rintro i x ys H' H3 hi ⟨rfl, hy⟩ ly Ę ⟨x', rfl⟩ os ř R k;have ex := hy xs (ĕ.of (x' _ _ ha));obtain ⟨d, ed, rv⟩ := rs.get ex
    match os, ř with
    | [o0], _ =>
     refine ⟨⟨[some x], rfl, rfl⟩, _, rfl, x, 0, 20, rfl, (rv.mono x').th, ?_⟩;rw [rv.Kt];refine k _ _ Ę ⟨aT _ x' hD, ?_⟩;rw [aB ed, Ø];rfl
   ·rintro ys H' ly Ę ⟨x', rfl⟩;refine ⟨D, ds.map (dB 0 20), rfl, ?_, ?_⟩
    ·rw [len, ĉ] at Ę;rw [ó];exact û.of Ę
    ·have e3 : (ds.map (dB 0 20)).all id = ds.all (dB 0 20) := by rw [k_]; rfl
     rw [e3];refine ⟨_, rfl, ?_⟩;cases ea : ds.all (dB 0 20) with
     | false =>
      rw [ea] at qq;exact hG (qq H' x')
     | true =>
      rw [ea, Iz] at qq;obtain ⟨ns, rfl, rfl, es, _⟩ := pS rs ea;refine dA ⟨_, rfl, a, ns, rfl, ĕ.of (x' _ _ ha), .int ns.sum, 1, 20, rfl, .inl ⟨_, rfl⟩, ?_⟩;rw [es] at qq;exact qq H' x'
  ·have e1 : (!decide (V.int (xs.length : Nat) = V.int 4)) = true := by
    rw [à]
    ·rfl
    ·intro h;injection h with h
     omega
   rw [e1];refine hG ?_;rw [à l4] at qq;exact qq H (Ext.refl _)
abbrev D0 : Stmt := cD 32
def cg (n m : Nat) : List Int := (List.range m).map λ i => ((aV n i : Nat) : Int)
def rM : Sp := λ vs H Q _ => ∃ n : Nat, vs = [.int (n : Nat)] /\ n <= 20 /\ ∀ l H', H l = none -> H' l = some (.lst ((cg n (n + 1)).map V.int)) -> (∀ b, b ≠ l -> H' b = H b) -> Q (.ref l) H'
theorem Nv : ai ["many", "ways", "chosen"] ["many"] (aa D0) := aS
theorem jk (n m : Nat) : cg n (m + 1) = cg n m ++ [((aV n m : Nat) : Int)] := by
 unfold cg;rw [Ĺ, Ø];rfl
theorem lF {α : Type} {xs : List α} {x : α} : mT (xs ++ [x]) (-1) = some x := by
 unfold mT vd;rw [Ë am, Õ (by rw [Ï]; simp; omega)]
 show (xs ++ [x])[_]? = some x;rw [show ((-1 : Int) + ((xs ++ [x]).length : Nat)).toNat = xs.length by rw [Ï]; simp; omega]
 simp
theorem iV {n k : Nat} (h : n <= 20) : aV n k <= 2 ^ 20 := by
 have : ∀ n k, aV n k <= 2 ^ n := by
  intro n
  induction n with
  | zero =>
   intro k;cases k with
   | zero => exact Ä _
   | succ k => exact Ĕ _
  | succ n ih =>
   intro k;cases k with
   | zero => rw [fE]; exact Nat.one_le_two_pow
   | succ k =>
    show aV n k + aV n (k + 1) <= 2 ^ (n + 1);have h1 := ih k;have h2 := ih (k + 1);rw [ň];omega
 exact Ò (this n k) (æ am h)
theorem CW {f : Addr} {fd : FuncData} (F : Ŏ K "choices" "choices" D0 f fd) (mr : mg "range" = none) : az P w K mg base ar 1 f fd ["many"] rM := by
 refine F.ok Nv (λ vs H Q E h => ?_) (λ ë A outer s H vs Q E hr h => ?_)
 ·obtain ⟨n, rfl, _⟩ := h;rfl
 obtain ⟨n, rfl, HV, q⟩ := h;have nd := Nv.nd;refine ⟨_, cv (cM (i := 1) nd rfl (Or.inl rfl) (aX (ae aw ap)))
  (cv (dM õ rfl (cz rfl mr (ae (pv 0) ap)) (bM (i := 2) nd rfl (Or.inl rfl))
   (bw (cr (fX ý θ η bS (pv 1) (ae (aj kn (aj aR (c6 kX (pv 1) (xT sR aw)) (aj bF (pv 0) (pv 2))) (aj bd (pv 2) aw)) ap)))))
  (bw (cq (pv 1)))), ?_⟩
 have e0 : cg n (0 + 1) = [1] := by show [((aV n 0 : Nat) : Int)] = [1]; rw [fE]; rfl
 refine ⟨ft, λ l hl => ?_⟩;refine ⟨_, rfl, _, rfl, af, af, jz (lo := 0) (n := ((n : Nat) : Int).toNat) (λ i σ H' => (∀ b, b ≠ l -> H' b = H b) /\ H' l = some (.lst ((cg n (i + 1)).map V.int)) /\ ∃ o, σ = [some (.int (n : Nat)), some (.ref l), o]) ⟨λ b hb => ag hb, by rw [aQ, e0]; rfl, _, rfl⟩ ?_ ?_⟩
 ·rintro i σ H' hi ⟨x', h', o, rfl⟩;have N0 : i < n := by simpa using hi
  have RN := û.of (K := K) h';have ea : mT ((cg n (i + 1)).map V.int) (-1) = some (.int ((aV n i : Nat) : Int)) := by
   rw [jk, Ø];exact lF
  have b1 := iV (n := n) (k := i) HV;refine ⟨_, rfl, .inl ⟨rfl, _, RN⟩, _, rfl, 1, rfl, l, _, _, _, rfl, rfl, RN, ea, _, rfl, _, rfl, _, _, rfl, rfl, _, _, rfl, rfl, .inl ⟨af, af⟩, _, rfl, _, _, rfl, rfl, _, _, rfl, rfl, ⟨af, af⟩, l, _, _, rfl, rfl, h', ?_, ?_⟩
  ·rw [Å];unfold cg;rw [Å, ÿ, Ú];omega
  ·refine ⟨λ b hb => by rw [ag hb]; exact x' b hb, ?_, _, rfl⟩
   rw [aQ, jk n (i + 1), Ø]
   congr 4
   show V.int _ = V.int _
   congr 1
   show (((aV n i : Nat) : Int) * (((n : Nat) : Int) - (0 + (i : Int)))) / ((0 + (i : Int)) + 1) = ((aV n (i + 1) : Nat) : Int);rw [<- tY, Ş, show ((n : Nat) : Int) - (i : Int) = ((n - i : Nat) : Int) by omega]
   simp
 ·rintro σ H' ⟨x', h', o, rfl⟩;rw [ċ] at h';exact ⟨_, rfl, q l H' hl h' x'⟩
abbrev DL : Stmt := cD 33
def xr (K : Frag) : Sp := λ vs H Q _ => ∃ (p r : Addr) (a b c d i j k l : Int), vs = [.ref p, .ref r] /\ ĕ K H p [.int a, .int b, .int c, .int d] /\ ĕ K H r [.int i, .int j, .int k, .int l] /\ (0 <= i + j + k + l /\ i + j + k + l <= 1000 /\ 0 <= a + b + c + d /\ a + b + c + d <= 1000) /\ Q (.int (iw (i + j + k + l) (a + b + c + d) b c i j k)) H
abbrev HP : List Str := ["counts", "dealt", "ones", "zeros", "yes_one", "yes_zero"]
theorem Nn : ai HP ["counts", "dealt"] (aa DL) := aS
theorem B2 {f : Addr} {fd : FuncData} (F : Ŏ K "value_under" "value_under" DL f fd) (ms : mg "sum" = none) : az P w K mg base ar 1 f fd ["counts", "dealt"] (xr K) := by
 refine F.ok Nn (λ vs H Q E h => ?_) (λ ë A outer s H vs Q E hr h => ?_)
 ·obtain ⟨p, r, a, b, c, d, i, j, k, l, rfl, _⟩ := h;rfl
 obtain ⟨p, r, a, b, c, d, i, j, k, l, rfl, hp, Jg, ⟨s1, s2, s3, s4⟩, q⟩ := h;have nd := Nn.nd;refine ⟨_, cv (cM (i := 2) nd rfl (Or.inl rfl) (ah (cV rfl) rfl ms Ý (ae (pv 1) ap)))
  (cv (cM (i := 3) nd rfl (Or.inl rfl) (aj bF (ah (cV rfl) rfl ms Ý (ae (pv 0) ap)) (pv 2)))
  (cv (cM (i := 4) nd rfl (Or.inl rfl) (aj bd (c6 gF (pv 1) aw) (c6 gF (pv 1) aw)))
  (cv (cM (i := 5) nd rfl (Or.inl rfl) (aj bF (aj bd (aj bF (c6 gF (pv 0) aw) (c6 gF (pv 1) aw)) (c6 gF (pv 0) aw)) (c6 gF (pv 1) aw)))
  (bw (cq (aj bF (aj aR (pv 3) (pv 4)) (aj aR (pv 2) (pv 5)))))))), ?_⟩
 have e1 : ([i, j, k, l] : List Int).sum = i + j + k + l := by simp; omega
 have e2 : ([a, b, c, d] : List Int).sum = a + b + c + d := by simp; omega
 refine ⟨_, rfl, r, [i, j, k, l], rfl, Jg, ?_⟩;rw [e1];refine ⟨_, rfl, p, [a, b, c, d], rfl, hp, ?_⟩;rw [e2];refine ⟨_, rfl, _, _, rfl, rfl, ?_⟩;refine ⟨_, rfl, r, _, _, _, rfl, rfl, Jg, rfl, _, rfl, r, _, _, _, rfl, rfl, Jg, rfl, _, _, rfl, rfl, ?_⟩;refine ⟨_, rfl, p, _, _, _, rfl, rfl, hp, rfl, _, rfl, r, _, _, _, rfl, rfl, Jg, rfl, _, _, rfl, rfl, _, rfl, p, _, _, _, rfl, rfl, hp, rfl, _, _, rfl, rfl, _, rfl, r, _, _, _, rfl, rfl, Jg, rfl, _, _, rfl, rfl, ?_⟩;exact ⟨_, rfl, _, rfl, _, _, rfl, rfl, .inl ⟨af, af⟩, _, rfl, _, rfl, _, _, rfl, rfl, .inl ⟨af, af⟩, _, _, rfl, rfl, q⟩
end
theorem be {α β : Type} {R : α -> β -> Prop} {x : α} {y : β} (r : R x y) : ∀ {xs : List α} {ys : List β}, Paired R xs ys -> Paired R (xs ++ [x]) (ys ++ [y])
 | _, _, .nil => .cons r .nil
 | _, _, .cons h t => .cons h (be r t)
theorem ģ {α β : Type} {R : α -> β -> Prop} : ∀ {xs : List α} {ys : List β}, Paired R xs ys -> ∀ {i : Nat} {x : α}, xs[i]? = some x -> ∃ y, ys[i]? = some y /\ R x y
 | _, _, .nil, i, y, h => by simp at h
 | _, _, .cons r _, 0, y, h => by cases h; exact ⟨_, rfl, r⟩
 | _, _, .cons _ t, i + 1, y, h => ģ t h
def OL (H : Hp) (y : V) (q : Q4 × Nat) : Prop := ∃ t u, y = .ref t /\ H t = some (.tup [.ref u, .int (q.2 : Nat)]) /\ H u = some (.tup [.int q.1.1, .int q.1.2.1, .int q.1.2.2.1, .int q.1.2.2.2])
def J7 (H : Hp) (ys : List V) (rs : List (Q4 × Nat)) : Prop := Paired (OL H) ys rs
def jW (H H' : Hp) : Prop := ∀ b xs, H b = some (.tup xs) -> H' b = some (.tup xs)
theorem OL.kp {H H' : Hp} {y : V} {q : Q4 × Nat} (h : OL H y q) (k : jW H H') : OL H' y q := by
 obtain ⟨t, u, e, h1, h2⟩ := h;exact ⟨t, u, e, k _ _ h1, k _ _ h2⟩
theorem J7.kp {H H' : Hp} {ys : List V} {rs : List (Q4 × Nat)} (h : J7 H ys rs) (k : jW H H') : J7 H' ys rs := Paired.imp' (λ _ _ r => r.kp k) h
theorem Ext.Υ {H H' : Hp} (x : Ext H H') : jW H H' := λ b xs h => x _ _ h
theorem fF {H : Hp} {l : Addr} {xs ys : List V} (h : H l = some (.lst xs)) : jW H (ak H l (.lst ys)) := λ b zs e => by rw [ag (λ z => by rw [z, h] at e; cases e)]; exact e
theorem gP {β : Type} {f : Nat -> List β} {k : Nat} (h : ∀ i, (f i).length <= k) : ∀ n, ((List.range n).flatMap f).length <= n * k
 | 0 => Ĕ _
 | n + 1 => by
  rw [cT, Ï, Nat.succ_mul];have := gP h n;have := h n;omega
theorem rP {O : Int} {a b c d i j k : Nat} : (fc O a b c d i j k).length <= 1 := by unfold fc; split <;> simp
theorem lE {O : Int} {a b c d i j m : Nat} : (fQ O a b c d i j m).length <= m := by
 have := gP (f := fc O a b c d i j) (k := 1) (λ k => rP) m;unfold fQ;omega
theorem lS {O : Int} {a b c d i m : Nat} (hc : c <= 20) : (gH O a b c d i m).length <= m * 21 := gP (λ j => Ò lE af) m
theorem lX {O : Int} {a b c d m : Nat} (hb : b <= 20) (hc : c <= 20) : (cJ O a b c d m).length <= m * 441 := gP (λ j => Ò (lS hc) af) m
section
variable {P : Program} {w : World} {K : Frag} {mg : bu} {base : Heap}
abbrev zb : Stmt := cD 34
def AO (K : Frag) : Sp := λ vs H Q _ => ∃ (O : Int) (p : Addr) (a b c d : Nat), vs = [.int O, .ref p] /\ ĕ K H p [.int (a : Nat), .int (b : Nat), .int (c : Nat), .int (d : Nat)] /\ a <= 20 /\ b <= 20 /\ c <= 20 /\ d <= 20 /\
 ∀ l H' ys, H l = none -> Ext H H' -> H' l = some (.lst ys) -> J7 H' ys (cJ O a b c d (a + 1)) -> Q (.ref l) H'
abbrev GJ : List Str := ["ones", "counts", "bettered", "worsened", "always", "never", "rows", "first", "ways", "second", "more", "third", "again", "rest"]
theorem Nl : ai GJ ["ones", "counts"] (aa zb) := aS
abbrev Cl : Scope := dh [("count", .local), ("choices", .globalImplicit)]
theorem zM {X : Cx} : aW X Cl [] ["count"] [] [] := u9 (L := [(".0", .local), ("count", .local), ("choices", .globalImplicit)]) rfl rfl aJ aJ aJ rfl aJ aJ
def Hw (K : Frag) : TS := cQ (fm (CU K (aq 1)) 1 [] (bf 0) (c5 rM [] E0 (ac (aq 0) aC))) (xP K 4 (dL (bf 2) (dL (bf 3) (dL (bf 4) (dL (bf 5) uD)))))
def Dz (K : Frag) : TE := dE (ac (dE (ac (aq 7) (ac (aq 9) (ac (aq 11) (ac (aq 13) aC))))) (ac (bc (rI IM λ i j => .int (i * j)) (bc (rI IM λ i j => .int (i * j)) (bc (rI IM λ i j => .int (i * j)) (aq 8) (aq 10)) (aq 12)) (bc (gM K) (aq 5) (aq 13))) aC))
def Hr (K : Frag) : TS := bL (cQ (bc (iA λ i j => .int (i - j)) (bc (iA λ i j => .int (i - j)) (bc (iA λ i j => .int (i - j)) (aq 0) (aq 7)) (aq 9)) (aq 11)) (bf 13))
 (oq (tB (c5 (cA K) [] E0 (ac (aq 13) (ac (tC (.int 0)) (ac (bc (xn K) (aq 1) (tC (.int 3))) aC))))) (oM (D8 K "list" pq (aq 6) (ac (Dz K) aC))) iF)
def gW (K : Frag) (i j : Nat) : TG := xh K 2 (dL (bf i) (dL (bf j) uD))
def Hc (K : Frag) : TS := jf (i4 K (ac (aq 4) aC)) (gW K 11 12) (Hr K)
def GF (K : Frag) : TS := jf (i4 K (ac (aq 3) aC)) (gW K 9 10) (Hc K)
def Hq (K : Frag) : TS := jf (i4 K (ac (aq 2) aC)) (gW K 7 8) (GF K)
section
variable {f a1 a2 : Addr} {d1 d2 : FuncData} {ë : Value} {A : Around} {outer : List Env} {s : Shared} {H : Hp} {E : XK}
abbrev mR (k : Nat) (q : Str) (st : Stmt) (A : Around) (s : Shared) (f : Addr) (c : Value) : Prop := ė k (A.deeper (PyProof.Rows.envOfC q (aa st) s.heap.objs.size f c))
theorem z9 (A1 : Df P w K mg base ar 1 "choices" ["many"] rM a1 d1) (A2 : Df P w K mg base ar 2 "is_whole" ["thing", "low", "high"] (cA K) a2 d2) (me : mg "enumerate" = none) (hr : mR 2 "ways_to_deal" zb A s f ë) :
  Ο (ax ar P w K mg base GJ "ways_to_deal" (aa zb) f ë A outer s H E).Ķ (av zb) (bL (Hw K) (bL (cQ (bC aC) (bf 6)) (bL (Hq K) (bQ (aq 6))))) := by
 have nd := Nl.nd;have Δ : ė 1 _ := hr.mono am;exact cv (gq (kc (te := c5 rM [] E0 (ac (aq 0) aC)) rfl zM (uC (pv 1)) (λ s H C fp => bM (i := 0) lR rfl (Or.inl rfl)) (λ s H C fp => by exact bY A1 Δ ao (ae (pv 0) ap)))
   (wU rfl (dz (bM (i := 2) nd rfl (Or.inl rfl)) (dz (bM (i := 3) nd rfl (Or.inl rfl)) (dz (bM (i := 4) nd rfl (Or.inl rfl)) (dz (bM (i := 5) nd rfl (Or.inl rfl)) aU))))))
  (cv (cM (i := 6) nd rfl (Or.inl rfl) (aX ap))
  (cv (dM õ rfl (dZ rfl me (ae (pv 2) ap)) (br rfl (dz (bM (i := 7) nd rfl (Or.inl rfl)) (dz (bM (i := 8) nd rfl (Or.inl rfl)) aU)))
   (bw (dM õ rfl (dZ rfl me (ae (pv 3) ap)) (br rfl (dz (bM (i := 9) nd rfl (Or.inl rfl)) (dz (bM (i := 10) nd rfl (Or.inl rfl)) aU)))
    (bw (dM õ rfl (dZ rfl me (ae (pv 4) ap)) (br rfl (dz (bM (i := 11) nd rfl (Or.inl rfl)) (dz (bM (i := 12) nd rfl (Or.inl rfl)) aU)))
     (cv (cM (i := 13) nd rfl (Or.inl rfl) (aj bF (aj bF (aj bF (pv 0) (pv 7)) (pv 9)) (pv 11)))
     (bw (bp (ba (bY A2 hr ao (ae (pv 13) (ae aw (ae (c6 gF (pv 1) aw) ap)))))
      (bw (cr (fX ý θ η bS (pv 6) (ae (aO (ae (aO (ae (pv 7) (ae (pv 9) (ae (pv 11) (ae (pv 13) ap))))) (ae (aj aR (aj aR (aj aR (pv 8) (pv 10)) (pv 12)) (c6 kX (pv 5) (pv 13))) ap))) ap)))) hV))))))))
  (bw (cq (pv 6)))))
end
end
structure IL (K : Frag) (H : Hp) (l p b0 b1 b2 b3 : Addr) (a b c d : Nat) : Prop where
 hp : ĕ K H p [.int (a : Nat), .int (b : Nat), .int (c : Nat), .int (d : Nat)]
 h0 : H b0 = some (.lst ((cg a (a + 1)).map V.int))
 h1 : H b1 = some (.lst ((cg b (b + 1)).map V.int))
 h2 : H b2 = some (.lst ((cg c (c + 1)).map V.int))
 h3 : H b3 = some (.lst ((cg d (d + 1)).map V.int))
 n0 : b0 ≠ l
 n1 : b1 ≠ l
 n2 : b2 ≠ l
 n3 : b3 ≠ l
 K0 : a <= 20
 J6 : b <= 20
 JW : c <= 20
 KZ : d <= 20
theorem ĕ.Υ {K : Frag} {H H' : Hp} {p : Addr} {xs : List V} (h : ĕ K H p xs) (k : jW H H') (fz : ∀ b o u, H b = some (.f_ o u) -> H' b = some (.f_ o u)) : ĕ K H' p xs := by
 rcases h with (h | ⟨o, h⟩) | h
 ·exact .inl (.inl (k _ _ h))
 ·exact .inl (.inr ⟨o, fz _ _ _ h⟩)
 ·exact .inr h
section
variable {K : Frag} {H H' : Hp} {l p b0 b1 b2 b3 : Addr} {a b c d : Nat} {O : Int}
theorem IL.kept (C : IL K H l p b0 b1 b2 b3 a b c d) {zs : List V} (hl : H l = some (.lst zs)) (k : Kept H H' l) : IL K H' l p b0 b1 b2 b3 a b c d := by
 refine ⟨?_, k _ _ C.h0 C.n0, k _ _ C.h1 C.n1, k _ _ C.h2 C.n2, k _ _ C.h3 C.n3, C.n0, C.n1, C.n2, C.n3, C.K0, C.J6, C.JW, C.KZ⟩;exact ĕ.Υ C.hp (λ b xs e => k _ _ e (λ z => by rw [z, hl] at e; cases e)) (λ b o u e => k _ _ e (λ z => by rw [z, hl] at e; cases e))
abbrev sg (O : Int) (p b0 b1 b2 b3 l : Addr) (r : List (Option V)) : St := some (.int O) :: some (.ref p) :: some (.ref b0) :: some (.ref b1) :: some (.ref b2) :: some (.ref b3) :: some (.ref l) :: r
def JF (H H' : Hp) (l : Addr) (rs : List (Q4 × Nat)) : Prop := Kept H H' l /\ ∃ ys, H' l = some (.lst ys) /\ J7 H' ys rs
theorem f9 {n m i : Nat} (h : i < m) : ((cg n m).map V.int)[i]? = some (.int ((aV n i : Nat) : Int)) := by
 unfold cg;rw [ó, Ê, Io h];rfl
theorem cZ (n m : Nat) : ((cg n m).map V.int).length = m := by unfold cg; simp
theorem Cr {D : aY} {rs : List (Q4 × Nat)} {ys : List V} {i j k : Nat} {Ŵ : Option V} (C : IL K H l p b0 b1 b2 b3 a b c d) (hl : H l = some (.lst ys)) (Iu : J7 H ys rs) (small : rs.length < 16000000) (hi : i <= a) (hj : j <= b) (hk : k <= c)
  (q : ∀ H' Ŵ Jx, Kept H H' l -> H' l = some (.lst Jx) -> J7 H' Jx (rs ++ fc O a b c d i j k) -> D.nx (sg O p b0 b1 b2 b3 l [some (.int (i : Nat)), some (.int (aV a i : Nat)), some (.int (j : Nat)), some (.int (aV b j : Nat)), some (.int (k : Nat)), some (.int (aV c k : Nat)), Ŵ]) H') :
  Hr K D (sg O p b0 b1 b2 b3 l [some (.int (i : Nat)), some (.int (aV a i : Nat)), some (.int (j : Nat)), some (.int (aV b j : Nat)), some (.int (k : Nat)), some (.int (aV c k : Nat)), Ŵ]) H := by
 refine ⟨_, rfl, _, rfl, _, _, rfl, rfl, _, rfl, _, _, rfl, rfl, _, rfl, _, _, rfl, rfl, ?_⟩;refine ⟨_, rfl, _, rfl, p, _, _, _, rfl, rfl, C.hp, zj (j := 3) rfl, .int (O - i - j - k), 0, (d : Nat), rfl, .inl ⟨_, rfl⟩, _, rfl, ?_⟩;show if (decide ((0 : Int) <= O - i - j - k) && decide (O - i - j - k <= (d : Nat))) = true then _ else _
 by_cases hc : 0 <= O - i - j - k /\ O - i - j - k <= d
 ·rw [Î hc.1, Î hc.2];refine hG ⟨_, rfl, .inl ⟨rfl, _, û.of hl⟩, ?_⟩;have hL := û.of (K := K) C.h3;have ix : mT ((cg d (d + 1)).map V.int) (O - i - j - k) = some (.int ((aV d (O - i - j - k).toNat : Nat) : Int)) := by
   have e := zj (xs := (cg d (d + 1)).map V.int) (j := (O - i - j - k).toNat) (f9 (n := d) (m := d + 1) af)
   rwa [show (((O - i - j - k).toNat : Nat) : Int) = O - i - j - k by omega] at e
  refine ⟨_, rfl, _, rfl, _, rfl, _, rfl, ft, λ u hu => ?_⟩;have x1 := Ext.new (o := .tup [.int (i : Nat), .int (j : Nat), .int (k : Nat), .int (O - i - j - k)]) hu;have b1 := iV (n := a) (k := i) C.K0;have XI := iV (n := b) (k := j) C.J6;have XH := iV (n := c) (k := k) C.JW;have b4 := iV (n := d) (k := (O - i - j - k).toNat) C.KZ;refine ⟨_, rfl, _, rfl, _, _, rfl, rfl, .inl ⟨af, af⟩, _, rfl, _, _, rfl, rfl, .inr ⟨af, af⟩, _, rfl, _, rfl, _, _, _, _, rfl, rfl, My.û.ext hL x1, ix, _, _, rfl, rfl, .inr ⟨af, af⟩, ft, λ t ht => ?_⟩;have x2 := x1.trans (Ext.new (o := .tup [.ref u, .int (((aV a i : Nat) : Int) * ((aV b j : Nat) : Int) * ((aV c k : Nat) : Int) * ((aV d (O - i - j - k).toNat : Nat) : Int))]) ht);have JT := x2 _ _ hl;refine ⟨l, ys, _, rfl, rfl, JT, ?_, ?_⟩
  ·have e : ys.length = rs.length := å Iu;rw [e, Ú];omega
  ·have kl : jW _ _ := fF (ys := ys ++ [.ref t]) JT;refine q _ _ (ys ++ [.ref t]) ((x2.kept l).trans (fU _)) aQ ?_;unfold fc;rw [Õ hc];have x3 := Ext.new (o := .tup [.ref u, .int (((aV a i : Nat) : Int) * ((aV b j : Nat) : Int) * ((aV c k : Nat) : Int) * ((aV d (O - i - j - k).toNat : Nat) : Int))]) ht;refine be ⟨t, u, rfl, kl _ _ ?_, kl _ _ (x3 _ _ aQ)⟩ ((Iu.kp x2.Υ).kp kl);rw [aQ];simp
 ·have e0 : (decide ((0 : Int) <= O - i - j - k) && decide (O - i - j - k <= (d : Nat))) = false := by
   rw [Ŧ, Ć, Ć];omega
  rw [e0];refine dA (q H _ ys (Kept.refl _ _) hl ?_);unfold fc;rw [Ë hc, ü];exact Iu
end
theorem cH {α β : Type} {R : α -> β -> Prop} {xs : List α} {y : β} {ys : List β} (h : Paired R xs (y :: ys)) : ∃ x OR, xs = x :: OR /\ R x y /\ Paired R OR ys := by
 cases h with
 | cons r t => exact ⟨_, _, rfl, r, t⟩
section
variable {K : Frag} {H : Hp} {l p b0 b1 b2 b3 : Addr} {a b c d : Nat} {O : Int}
theorem JF.ctx {H' : Hp} {rs : List (Q4 × Nat)} {zs : List V} (C : IL K H l p b0 b1 b2 b3 a b c d) (hl : H l = some (.lst zs)) (v : JF H H' l rs) : IL K H' l p b0 b1 b2 b3 a b c d := C.kept hl v.1
theorem JF.kept {H1 H2 : Hp} {rs : List (Q4 × Nat)} {ys : List V} (v : JF H H1 l rs) (k : Kept H1 H2 l) (h : H2 l = some (.lst ys)) {Rm : List (Q4 × Nat)} (r : J7 H2 ys Rm) : JF H H2 l Rm := ⟨v.1.trans k, ys, h, r⟩
theorem JF.new {H1 : Hp} {rs : List (Q4 × Nat)} {t : Addr} {o : HO} (v : JF H H1 l rs) (ht : H1 t = none) : JF H (ak H1 t o) l rs := by
 obtain ⟨k, ys, h, r⟩ := v;have x := Ext.new (o := o) ht;exact ⟨k.trans (x.kept l), ys, x _ _ h, r.kp x.Υ⟩
theorem Dg {D : aY} {rs : List (Q4 × Nat)} {zs : List V} {i j : Nat} {ĵ Ξ Ŵ : Option V} (C : IL K H l p b0 b1 b2 b3 a b c d) (hl : H l = some (.lst zs)) (v : J7 H zs rs) (small : rs.length < 15000000) (hi : i <= a) (hj : j <= b)
  (q : ∀ H' ĵ Ξ Ŵ, JF H H' l (rs ++ fQ O a b c d i j (c + 1)) -> D.nx (sg O p b0 b1 b2 b3 l [some (.int (i : Nat)), some (.int (aV a i : Nat)), some (.int (j : Nat)), some (.int (aV b j : Nat)), ĵ, Ξ, Ŵ]) H') :
  Hc K D (sg O p b0 b1 b2 b3 l [some (.int (i : Nat)), some (.int (aV a i : Nat)), some (.int (j : Nat)), some (.int (aV b j : Nat)), ĵ, Ξ, Ŵ]) H := by
 refine ⟨_, rfl, b2, rfl, ⟨_, û.of C.h2⟩, ik (xs := (cg c (c + 1)).map V.int) (λ m σ H' => JF H H' l (rs ++ fQ O a b c d i j m) /\ ∃ ĵ Ξ Ŵ, σ = sg O p b0 b1 b2 b3 l [some (.int (i : Nat)), some (.int (aV a i : Nat)), some (.int (j : Nat)), some (.int (aV b j : Nat)), ĵ, Ξ, Ŵ]) ⟨⟨Kept.refl _ _, zs, hl, ?_⟩, _, _, _, rfl⟩ ?_ ?_ ?_⟩
 ·show J7 H zs (rs ++ []);rw [ü];exact v
 ·rintro m σ H' _ ⟨iv, _⟩;exact û.of (iv.ctx C hl).h2
 ·rintro m x σ H' t ex ⟨iv, ĵ, Ξ, Ŵ, rfl⟩ ht;have lm : m < ((cg c (c + 1)).map V.int).length := (Ö.mp ex).1;rw [cZ] at lm;rw [f9 lm] at ex;cases ex;have Ks := iv.new (o := .tup [.int (m : Nat), .int (aV c m : Nat)]) ht;obtain ⟨k2, ys, h2, r2⟩ := id Ks;refine ⟨t, _, rfl, ĕ.of aQ, rfl, _, _, rfl, _, _, rfl, rfl, ?_⟩;have l2 := lE (O := O) (a := a) (b := b) (c := c) (d := d) (i := i) (j := j) (m := m);have JW := C.JW;refine Cr (K := K) (Ks.ctx C hl) h2 r2 (by rw [Ï]; omega) hi hj af λ H3 Ŵ Jx k3 h3 r3 => ?_
  refine ⟨?_, _, _, _, rfl⟩;have e : fQ O a b c d i j (m + 1) = fQ O a b c d i j m ++ fc O a b c d i j m := cT _ _;rw [e, <- Ċ];exact Ks.kept k3 h3 r3
 ·rintro σ H' ⟨iv, ĵ, Ξ, Ŵ, rfl⟩;rw [cZ] at iv;exact q H' _ _ _ iv
theorem Ds {D : aY} {rs : List (Q4 × Nat)} {zs : List V} {i : Nat} {o9 ŕ ĵ Ξ Ŵ : Option V} (C : IL K H l p b0 b1 b2 b3 a b c d) (hl : H l = some (.lst zs)) (v : J7 H zs rs) (small : rs.length < 14000000) (hi : i <= a)
  (q : ∀ H' o9 ŕ ĵ Ξ Ŵ, JF H H' l (rs ++ gH O a b c d i (b + 1)) -> D.nx (sg O p b0 b1 b2 b3 l [some (.int (i : Nat)), some (.int (aV a i : Nat)), o9, ŕ, ĵ, Ξ, Ŵ]) H') :
  GF K D (sg O p b0 b1 b2 b3 l [some (.int (i : Nat)), some (.int (aV a i : Nat)), o9, ŕ, ĵ, Ξ, Ŵ]) H := by
 refine ⟨_, rfl, b1, rfl, ⟨_, û.of C.h1⟩, ik (xs := (cg b (b + 1)).map V.int) (λ m σ H' => JF H H' l (rs ++ gH O a b c d i m) /\ ∃ o9 ŕ ĵ Ξ Ŵ, σ = sg O p b0 b1 b2 b3 l [some (.int (i : Nat)), some (.int (aV a i : Nat)), o9, ŕ, ĵ, Ξ, Ŵ]) ⟨⟨Kept.refl _ _, zs, hl, ?_⟩, _, _, _, _, _, rfl⟩ ?_ ?_ ?_⟩
 ·show J7 H zs (rs ++ []);rw [ü];exact v
 ·rintro m σ H' _ ⟨iv, _⟩;exact û.of (iv.ctx C hl).h1
 ·rintro m x σ H' t ex ⟨iv, o9, ŕ, ĵ, Ξ, Ŵ, rfl⟩ ht;have lm : m < ((cg b (b + 1)).map V.int).length := (Ö.mp ex).1;rw [cZ] at lm;rw [f9 lm] at ex;cases ex;have Ks := iv.new (o := .tup [.int (m : Nat), .int (aV b m : Nat)]) ht;obtain ⟨k2, ys, h2, r2⟩ := id Ks;refine ⟨t, _, rfl, ĕ.of aQ, rfl, _, _, rfl, _, _, rfl, rfl, ?_⟩;have l2 := lS (O := O) (a := a) (b := b) (c := c) (d := d) (i := i) (m := m) C.JW;have J6 := C.J6;refine Dg (K := K) (Ks.ctx C hl) h2 r2 (by rw [Ï]; omega) hi af λ H3 ĵ Ξ Ŵ PF => ?_
  refine ⟨?_, _, _, _, _, _, rfl⟩;have e : gH O a b c d i (m + 1) = gH O a b c d i m ++ fQ O a b c d i m (c + 1) := cT _ _;obtain ⟨k3, Rc, h3, r3⟩ := PF;rw [e, <- Ċ];exact Ks.kept k3 h3 r3
 ·rintro σ H' ⟨iv, o9, ŕ, ĵ, Ξ, Ŵ, rfl⟩;rw [cZ] at iv;exact q H' _ _ _ _ _ iv
theorem Ba {D : aY} {zs : List V} {o7 o8 o9 ŕ ĵ Ξ Ŵ : Option V} (C : IL K H l p b0 b1 b2 b3 a b c d) (hl : H l = some (.lst []))
  (q : ∀ H' o7 o8 o9 ŕ ĵ Ξ Ŵ, JF H H' l (cJ O a b c d (a + 1)) -> D.nx (sg O p b0 b1 b2 b3 l [o7, o8, o9, ŕ, ĵ, Ξ, Ŵ]) H') :
  Hq K D (sg O p b0 b1 b2 b3 l [o7, o8, o9, ŕ, ĵ, Ξ, Ŵ]) H := by
 refine ⟨_, rfl, b0, rfl, ⟨_, û.of C.h0⟩, ik (xs := (cg a (a + 1)).map V.int) (λ m σ H' => JF H H' l (cJ O a b c d m) /\ ∃ o7 o8 o9 ŕ ĵ Ξ Ŵ, σ = sg O p b0 b1 b2 b3 l [o7, o8, o9, ŕ, ĵ, Ξ, Ŵ]) ⟨⟨Kept.refl _ _, [], hl, .nil⟩, _, _, _, _, _, _, _, rfl⟩ ?_ ?_ ?_⟩
 ·rintro m σ H' _ ⟨iv, _⟩;exact û.of (iv.ctx C hl).h0
 ·rintro m x σ H' t ex ⟨iv, o7, o8, o9, ŕ, ĵ, Ξ, Ŵ, rfl⟩ ht;have lm : m < ((cg a (a + 1)).map V.int).length := (Ö.mp ex).1;rw [cZ] at lm;rw [f9 lm] at ex;cases ex;have Ks := iv.new (o := .tup [.int (m : Nat), .int (aV a m : Nat)]) ht;obtain ⟨k2, ys, h2, r2⟩ := id Ks;refine ⟨t, _, rfl, ĕ.of aQ, rfl, _, _, rfl, _, _, rfl, rfl, ?_⟩;have l2 := lX (O := O) (a := a) (b := b) (c := c) (d := d) (m := m) C.J6 C.JW;have K0 := C.K0;refine Ds (K := K) (Ks.ctx C hl) h2 r2 af af λ H3 o9 ŕ ĵ Ξ Ŵ PF => ?_;refine ⟨?_, _, _, _, _, _, _, _, rfl⟩;have e : cJ O a b c d (m + 1) = cJ O a b c d m ++ gH O a b c d m (b + 1) := cT _ _;obtain ⟨k3, Rc, h3, r3⟩ := PF;rw [e];exact Ks.kept k3 h3 r3
 ·rintro σ H' ⟨iv, o7, o8, o9, ŕ, ĵ, Ξ, Ŵ, rfl⟩;rw [cZ] at iv;exact q H' _ _ _ _ _ _ _ iv
def Hi (H : Hp) (D : Addr) (y : V) (n : Nat) : Prop := ∃ r, y = .ref r /\ r ≠ D /\ H r = some (.lst ((cg n (n + 1)).map V.int))
end
section
variable {P : Program} {w : World} {K : Frag} {mg : bu} {base : Heap}
theorem BT {f a1 a2 : Addr} {fd d1 d2 : FuncData} (F : Ŏ K "ways_to_deal" "ways_to_deal" zb f fd) (A1 : Df P w K mg base ar 1 "choices" ["many"] rM a1 d1) (A2 : Df P w K mg base ar 2 "is_whole" ["thing", "low", "high"] (cA K) a2 d2) (me : mg "enumerate" = none) : az P w K mg base ar 3 f fd ["ones", "counts"] (AO K) := by
 refine F.ok Nl (λ vs H Q E h => ?_) (λ ë A outer s H vs Q E hr h => ?_)
 ·obtain ⟨O, p, a, b, c, d, rfl, _⟩ := h;rfl
 obtain ⟨O, p, a, b, c, d, rfl, hp, K0, J6, JW, KZ, q⟩ := h;refine ⟨_, z9 A1 A2 me hr, ?_⟩;refine ⟨_, rfl, p, rfl, ⟨_, hp⟩, λ D hD => ?_⟩;have ns : ∀ n ∈ [a, b, c, d], n <= 20 := by
  intro n hn;simp only [List.mem_cons, List.not_mem_nil, or_false] at hn;rcases hn with rfl | rfl | rfl | rfl <;> assumption
 refine dq (n := 4) (λ i ys H' => Ext H H' /\ Paired (Hi H' D) ys ([a, b, c, d].take i)) (by rw [Ú]; omega) ⟨Ext.new hD, .nil⟩ (λ i ys H' hi pv => ⟨_, _, My.ĕ.ext hp pv.1, Ã (show i < 4 from hi)⟩) (λ ys H' pv => ⟨_, My.ĕ.ext hp pv.1, Ä _⟩) ?_ ?_
 ·rintro i x ys H' H3 hi ⟨rfl, hy⟩ ly Ę ⟨x', pr⟩ os ř R k;have ex := hy _ (My.ĕ.ext hp x');have Qr : ([a, b, c, d].map λ n : Nat => V.int (n : Nat))[i]? = some x := ex;rw [Ê] at Qr;obtain ⟨n, en, rfl⟩ := đ.mp Qr
  match os, ř with
  | [o0], _ =>
   refine ⟨⟨[some (.int (n : Nat))], rfl, rfl⟩, _, rfl, n, rfl, ns n (á en), λ l H4 hl h4 st => ?_⟩;have nl : l ≠ D := λ z => by rw [z, Ę] at hl; cases hl
   have x4 : Ext H3 H4 := λ b o e => by rw [st b (λ z => by rw [z, hl] at e; cases e)]; exact e
   refine k _ _ (x4 _ _ Ę) ⟨aT _ (x'.trans x4) hD, ?_⟩;rw [aB en];refine be ⟨l, rfl, nl, by rw [ag nl]; exact h4⟩ (Paired.imp' (λ y m r => ?_) pr)
   obtain ⟨r', e, n', h'⟩ := r;exact ⟨r', e, n', by rw [ag n']; exact x4 _ _ h'⟩
 ·rintro ys H1 ly MR ⟨x1, pr⟩;have NA : Paired (Hi H1 D) ys [a, b, c, d] := pr;obtain ⟨_, Xn, rfl, ⟨b0, rfl, n0, h0⟩, Ua⟩ := cH NA;obtain ⟨_, Xm, rfl, ⟨b1, rfl, n1, h1⟩, T_⟩ := cH Ua;obtain ⟨_, Xl, rfl, ⟨b2, rfl, n2, h2⟩, T9⟩ := cH T_;obtain ⟨_, Rc, rfl, ⟨b3, rfl, n3, h3⟩, T8⟩ := cH T9;cases T8;refine ⟨D, _, rfl, û.of MR, rfl, _, _, rfl, _, _, rfl, _, _, rfl, _, _, rfl, rfl, ?_⟩;refine ⟨ft, λ l hl => ?_⟩;have x2 := Ext.new (o := .lst []) hl;have ne : ∀ {r : Addr} {o : HO}, H1 r = some o -> r ≠ l := λ e z => by rw [z, hl] at e; cases e
  have MK : H l = none := by
   cases e : H l with
   | none => rfl
   | some o => rw [x1 _ _ e] at hl; cases hl
  refine Ba (K := K) (zs := []) (H := ak H1 l (.lst [])) ⟨My.ĕ.ext hp (x1.trans x2), x2 _ _ h0, x2 _ _ h1, x2 _ _ h2, x2 _ _ h3, ne h0, ne h1, ne h2, ne h3, K0, J6, JW, KZ⟩ aQ λ H' o7 o8 o9 ŕ ĵ Ξ Ŵ iv => ?_;obtain ⟨k, ys, h', r⟩ := iv;refine ⟨_, rfl, q l H' ys MK (λ b o e => ?_) h' r⟩;have e1 := x1 _ _ e;exact k b o (x2 _ _ e1) (ne e1)
end
section
variable {tk tv : TE} {g : TG} {k n : Nat} {cap : St} {D : Addr} {H1 : Hp} {Q : Hp -> Prop} {J : It}
theorem Ax (Pv : Nat -> List (Key × V) -> Hp -> Prop) (hz : n < sizeLine) (h0 : Pv 0 [] (ak H1 D (.dK []))) (hg : ∀ i ys H, i < n -> Pv i ys H -> J.go i H) (J4 : ∀ ys H, Pv n ys H -> J.stop n H)
  (hs : ∀ (i : Nat) x ys H H3, i < n -> J.IB i H x H3 -> ys.length <= i -> H D = some (.dK ys) -> Pv i ys H -> ∀ os : St, os.length = k -> ∀ R : V -> V -> Hp -> Prop, (∀ key v H5, H5 D = some (.dK ys) -> Pv (i + 1) (aZ ys key v) (ak H5 D (.dK (aZ ys key v))) -> R (kV key) v H5) ->
   g x (os ++ cap) H3 λ ľ H0 => (∃ ū : St, ū.length = k /\ ľ = ū ++ cap) /\ tk ľ H0 λ y H4 => tv ľ H4 λ v H5 => R y v H5)
  (hd : ∀ ys H, H D = some (.dK ys) -> Pv n ys H -> Q H) :
  ∃ W : Nat -> Nat -> List (Key × V) -> Hp -> Prop, (∃ m, W 0 m [] (ak H1 D (.dK []))) /\
   ∀ i m ys H2, W i m ys H2 -> H2 D = some (.dK ys) /\ ((J.stop i H2 /\ Q H2) \/ (J.go i H2 /\ ys.length < sizeLine /\
    ∀ x H3, J.IB i H2 x H3 -> ∀ os : St, os.length = k -> g x (os ++ cap) H3 λ ľ H0 => (∃ ū : St, ū.length = k /\ ľ = ū ++ cap) /\ tk ľ H0 λ y H4 => tv ľ H4 λ v H5 => ∃ key, y = kV key /\ H5 D = some (.dK ys) /\ ∃ m', m' < m /\ W (i + 1) m' (aZ ys key v) (ak H5 D (.dK (aZ ys key v))))) := by
 refine ⟨λ i m ys H => m = n - i /\ i <= n /\ ys.length <= i /\ H D = some (.dK ys) /\ Pv i ys H, ⟨n, by simp, Nat.zero_le _, Nat.le_refl _, aQ, h0⟩, ?_⟩
 rintro i m ys H ⟨rfl, hi, hy, Ę, p⟩;refine ⟨Ę, ?_⟩;by_cases Ű : i < n
 ·refine .inr ⟨hg i ys H Ű p, af, λ x H' y os ř => ?_⟩;refine hs i x ys H H' Ű y hy Ę p os ř _ λ key v H5 VB p5 => ⟨key, rfl, VB, n - (i + 1), af, rfl, Ű, ?_, aQ, p5⟩;have := bq ys key v;omega
 ·have e : i = n := af;subst e;exact .inl ⟨J4 ys H p, hd ys H Ę p⟩
end
theorem f8 {κ : Type} [DecidableEq κ] {k : κ} {v : V} : ∀ {ys : List (κ × V)}, k ∉ ys.map (·.1) -> aZ ys k v = ys ++ [(k, v)] := by
 intro ys h;unfold aZ;rw [Ë];intro z;obtain ⟨q, hq, e⟩ := List.any_eq_true.mp z;exact h (ò.mpr ⟨q, hq, ì e⟩)
theorem c7 : ∀ a b : Int, Key.inl a = Key.inl b -> a = b := λ a b h => by injection h
theorem i9 {β : Type} {f : Nat -> List β} {n : Nat} {x : β} (h : x ∈ (List.range n).flatMap f) : ∃ i, i < n /\ x ∈ f i := by
 obtain ⟨i, hi, hx⟩ := List.mem_flatMap.mp h;exact ⟨i, ĥ.mp hi, hx⟩
theorem l6 {O : Int} {a b c d : Nat} {q : Q4 × Nat} (h : q ∈ cJ O a b c d (a + 1)) : ∃ i j k : Nat, i <= a /\ j <= b /\ k <= c /\ 0 <= O - i - j - k /\ O - i - j - k <= d /\ q.1 = ((i : Int), (j : Int), (k : Int), O - i - j - k) /\ 0 < q.2 := by
 obtain ⟨i, hi, h⟩ := i9 h;obtain ⟨j, hj, h⟩ := i9 h;obtain ⟨k, hk, h⟩ := i9 h;unfold fc at h;split at h
 ·rename_i hc
  cases ď.mp h;refine ⟨i, j, k, af, af, af, hc.1, hc.2, rfl, ?_⟩;exact Nat.mul_pos (Nat.mul_pos (Nat.mul_pos (fP af) (fP af)) (fP af)) (fP af)
 ·cases h
theorem pI {α : Type} [DecidableEq α] {g : α -> Nat} {rs : List (α × Nat)} {i : Nat} {q : α × Nat} (h : rs[i]? = some q) : dS g (rs.take (i + 1)) = dS g (rs.take i) + q.2 * g q.1 := by
 rw [aB h, m6];rfl
section
variable {P : Program} {w : World} {K : Frag} {mg : bu} {base : Heap}
abbrev B8 : Stmt := cD 35
def j0 (O : Int) (a b c d : Nat) (ps : List (Int × Nat)) : Prop := ρ ps /\ ∀ g, dS g ps = dS (λ q => g (v4 O ((a + b + c + d : Nat) : Int) (b : Nat) (c : Nat) q)) (cJ O a b c d (a + 1))
def tP (K : Frag) : Sp := λ vs H Q _ => ∃ (O : Int) (p : Addr) (a b c d : Nat), vs = [.int O, .ref p] /\ ĕ K H p [.int (a : Nat), .int (b : Nat), .int (c : Nat), .int (d : Nat)] /\ a <= 20 /\ b <= 20 /\ c <= 20 /\ d <= 20 /\
 ∀ r H' ps, H r = none -> Ext H H' -> H' r = some (.dK (bZ Key.inl ps)) -> j0 O a b c d ps -> Q (.ref r) H'
abbrev HM : List Str := ["ones", "counts", "values", "dealt", "ways", "value"]
theorem Nm : ai HM ["ones", "counts"] (aa B8) := aS
theorem AW {f a1 a2 : Addr} {fd d1 d2 : FuncData} (F : Ŏ K "value_ways" "value_ways" B8 f fd) (A1 : Df P w K mg base ar 3 "ways_to_deal" ["ones", "counts"] (AO K) a1 d1) (A2 : Df P w K mg base ar 1 "value_under" ["counts", "dealt"] (xr K) a2 d2) : az P w K mg base ar 4 f fd ["ones", "counts"] (tP K) := by
 refine F.ok Nm (λ vs H Q E h => ?_) (λ ë A outer s H vs Q E hr h => ?_)
 ·obtain ⟨O, p, a, b, c, d, rfl, _⟩ := h;rfl
 obtain ⟨O, p, a, b, c, d, rfl, hp, K0, J6, JW, KZ, q⟩ := h;have nd := Nm.nd;have Δ : ė 1 _ := hr.mono am;have hu : (A.deeper (PyProof.Rows.envOfC "value_ways" (aa B8) s.heap.objs.size f ë)).units + 1 < cLine := by have := hr.un; omega
 refine ⟨_, cv (cM (i := 2) nd rfl (Or.inl rfl) k6)
  (cv (dM õ rfl (bT (bY A1 hr ao (ae (pv 0) (ae (pv 1) ap)))) (br rfl (dz (bM (i := 3) nd rfl (Or.inl rfl)) (dz (bM (i := 4) nd rfl (Or.inl rfl)) aU)))
   (cv (cM (i := 5) nd rfl (Or.inl rfl) (bY A2 Δ ao (ae (pv 1) (ae (pv 3) ap))))
   (bw (pM hu (pv 2) (pv 5) (aj bd (mq hu (pv 2) (pv 5) aw ⟨rfl, rfl, rfl, rfl⟩) (pv 4)) rfl))))
  (bw (cq (pv 2)))), ?_⟩
 intro r JA;have x0 := Ext.new (o := .dK []) JA;refine ⟨_, rfl, _, rfl, O, p, a, b, c, d, rfl, My.ĕ.ext hp x0, K0, J6, JW, KZ, λ l H1 ys hl x1 h1 Rk => ?_⟩;have xH := x0.trans x1;have ME := x1 _ _ aQ;have nl : l ≠ r := λ z => by rw [z, aQ] at hl; cases hl
 have len : ys.length = (cJ O a b c d (a + 1)).length := å Rk;have lr := lX (O := O) (a := a) (b := b) (c := c) (d := d) (m := a + 1) J6 JW;refine ⟨l, rfl, ⟨_, û.of h1⟩, dG (xs := ys) (λ i σ H' => Kept H1 H' r /\ (∃ ps, H' r = some (.dK (bZ Key.inl ps)) /\ ρ ps /\ ps.length <= i /\ ∀ g, dS g ps = dS (λ q => g (v4 O ((a + b + c + d : Nat) : Int) (b : Nat) (c : Nat) q)) ((cJ O a b c d (a + 1)).take i)) /\ ∃ o3 o4 o5, σ = [some (.int O), some (.ref p), some (.ref r), o3, o4, o5]) ⟨Kept.refl _ _, ⟨[], ME, j3, Ä _, λ g => rfl⟩, _, _, _, rfl⟩ ?_ ?_ ?_⟩
 ·rintro i σ H' _ ⟨k, _⟩;exact û.of (k _ _ h1 nl)
 ·rintro i y σ H' ey ⟨k, ⟨ps, Jg, ok, UF, es⟩, o3, o4, o5, rfl⟩;obtain ⟨qq, eq, t, u, rfl, ht, UZ⟩ := ģ Rk ey;have kU : jW H1 H' := λ b xs e => k _ _ e (λ z => by rw [z, ME] at e; cases e)
  obtain ⟨ii, jj, kk, hi, hj, hk, h5, h6, e4, pos⟩ := l6 (á eq);have Vc : ĕ K H' p [.int (a : Nat), .int (b : Nat), .int (c : Nat), .int (d : Nat)] := ĕ.Υ (My.ĕ.ext hp xH) kU (λ b o u e => k _ _ e (λ z => by rw [z, ME] at e; cases e))
  refine ⟨t, _, rfl, ĕ.of (kU _ _ ht), rfl, _, _, rfl, _, _, rfl, rfl, ?_⟩;obtain ⟨⟨q1, q2, q3, q4⟩, qn⟩ := qq;cases e4;refine ⟨_, rfl, _, rfl, p, u, (a : Nat), (b : Nat), (c : Nat), (d : Nat), (ii : Int), (jj : Int), (kk : Int), O - ii - jj - kk, rfl, Vc, ĕ.of (kU _ _ UZ), ⟨af, af, af, af⟩, ?_⟩;have ev : iw ((ii : Int) + jj + kk + (O - ii - jj - kk)) (((a : Nat) : Int) + (b : Nat) + (c : Nat) + (d : Nat)) (b : Nat) (c : Nat) ii jj kk = v4 O ((a + b + c + d : Nat) : Int) (b : Nat) (c : Nat) ((ii : Int), (jj : Int), (kk : Int), O - ii - jj - kk) := by
   unfold v4;rw [show (ii : Int) + jj + kk + (O - ii - jj - kk) = O by omega, show ((a : Nat) : Int) + (b : Nat) + (c : Nat) + (d : Nat) = ((a + b + c + d : Nat) : Int) by omega]
  refine ⟨_, rfl, r, rfl, .inl ⟨_, .inl Jg⟩, _, rfl, _, π.k Jg (k := .inl _), ?_⟩;generalize hv : iw ((ii : Int) + jj + kk + (O - ii - jj - kk)) (((a : Nat) : Int) + (b : Nat) + (c : Nat) + (d : Nat)) (b : Nat) (c : Nat) ii jj kk = v;rw [hv] at ev;have eg : (cF (bZ Key.inl ps) (Key.inl v)).getD (.int 0) = .int ((f6 ps v : Nat) : Int) := by
   rcases gc c7 v (ps := ps) with ⟨h1, h2, _⟩ | ⟨h1, _⟩
   ·rw [h1, h2]; rfl
   ·rw [h1]; rfl
  rw [eg];refine ⟨_, rfl, _, _, rfl, rfl, _, rfl, _, rfl, r, _, rfl, Je.k Jg (k := .inl v) (by rw [eQ, Ú]; have := (Ö.mp ey).1; omega), ?_⟩
  refine ⟨k.trans (fU _), ⟨fD ps v qn, ?_, ok.add pos, Ò (fJ ps) af, λ g => ?_⟩, _, _, _, rfl⟩
  ·rw [aQ, <- oO c7 v qn ok.nd]
   congr 4
  ·rw [j4, es g, pI eq, ev]
 ·rintro σ H' ⟨k, ⟨ps, Jg, ok, UF, es⟩, o3, o4, o5, rfl⟩;refine ⟨_, rfl, q r H' ps JA (λ b' o e => k _ _ (xH _ _ e) (λ z => by rw [z, JA] at e; cases e)) Jg ⟨ok, λ g => ?_⟩⟩
  rw [es g, len, ĉ]
def Jc (H : Hp) (v : V) (t b : Nat) : Prop := ∃ p, v = .ref p /\ H p = some (.tup [.int (t : Nat), .int (b : Nat)])
theorem Jc.kp {H H' : Hp} {v : V} {t b : Nat} (h : Jc H v t b) (k : jW H H') : Jc H' v t b := by
 obtain ⟨p, e, h⟩ := h;exact ⟨p, e, k _ _ h⟩
def Tl (H : Hp) (ps : List (Int × Nat)) (T : Nat) (kv : Key × V) (n : Int) : Prop := kv.1 = Key.inl n /\ Jc H kv.2 (bB (f6 ps n) T) (aM (f6 ps n) T)
structure qh (H : Hp) (kvs : List (Key × V)) (ns : List Int) (ps : List (Int × Nat)) (T : Nat) : Prop where
 pm : ns.Perm (ps.map (·.1))
 so : ns.Pairwise (· <= ·)
 pr : Paired (Tl H ps T) kvs ns
abbrev AM : Stmt := cD 21
def Cy (K : Frag) : Sp := λ vs H Q _ => ∃ (pp d : Addr) (ps : List (Int × Nat)) (T : Nat), vs = [.ref pp] /\ ĕ K H pp [.int (T : Nat), .ref d] /\ H d = some (.dK (bZ Key.inl ps)) /\ ρ ps /\ ps.length < 64 /\ Sz T /\ (∀ q ∈ ps, q.2 <= T) /\ 1 <= T /\
 ∀ r H' kvs ns, H r = none -> Ext H H' -> H' r = some (.dK kvs) -> qh H' kvs ns ps T -> Q (.ref r) H'
abbrev GC : List Str := ["parts", "bottom", "tops"]
theorem Np : ai GC ["parts"] (aa AM) := aS
abbrev Dx : Scope := dh [("value", .local), ("share_of", .globalImplicit), ("bottom", .free), ("tops", .free)]
theorem FE : ((["value"] : List Str) ++ (["bottom", "tops"] : List Str)).Nodup := aJ
section
variable {f : Addr} {ë : Value} {A : Around} {outer : List Env} {s : Shared} {H : Hp} {E : XK}
theorem Av : aW (ax ar P w K mg base GC "told_spread" (aa AM) f ë A outer s H E).Ķ Dx [("tops", s.heap.objs.size + 2), ("bottom", s.heap.objs.size + 1)] ["value"] ["bottom", "tops"] [1, 2] :=
 bz (M := ["tops", "bottom"]) (L := [(".0", .local), ("value", .local), ("share_of", .globalImplicit), ("bottom", .cell), ("tops", .cell)]) rfl rfl aJ aJ aJ rfl rfl rfl aJ aJ rfl rfl rfl
end
theorem Cg {f a1 : Addr} {fd d1 : FuncData} (F : Ŏ K "told_spread" "told_spread" AM f fd) (A1 : Df P w K mg base ar 4 "share_of" ["top", "bottom"] qp a1 d1) (ms : mg "sorted" = none) : az P w K mg base ar 5 f fd ["parts"] (Cy K) := by
 refine F.ok Np (λ vs H Q E h => ?_) (λ ë A outer s H vs Q E hr h => ?_)
 ·obtain ⟨pp, d, ps, T, rfl, _⟩ := h;rfl
 obtain ⟨pp, d, ps, T, rfl, hp, hd, ok, UK, sz, le, T1, q⟩ := h;have nd := Np.nd;have hu : (A.deeper (PyProof.Rows.envOfC "told_spread" (aa AM) s.heap.objs.size f ë)).units + 1 < cLine := by have := hr.un; omega
 refine ⟨_, cv (gq (pv 0) (br rfl (dz (bM (i := 1) nd rfl (Or.inr rfl)) (dz (bM (i := 2) nd rfl (Or.inr rfl)) aU))))
  (bw (cq (As (tk := aq 0) (tv := c5 qp [] E0 (ac (gD (aq 2) (aq 0)) (ac (aq 1) aC))) (g := bf 0) rfl Av (bT (ah (nO rfl) rfl ms PyProof.Rows.boot_sorted (ae (pv 2) ap))) (λ s H C fp => by exact bM (i := 0) FE rfl (.inl rfl)) (λ s H C fp => by exact pv 0) (λ s H C fp => by exact bY A1 hr ao (ae (eG hu (pv 2) (pv 0)) (ae (pv 1) ap)))))), ?_⟩
 refine ⟨_, rfl, pp, _, rfl, hp, rfl, _, _, rfl, _, _, rfl, rfl, ?_⟩;have ek : ((bZ Key.inl ps).map λ p => kV p.1) = (ps.map (·.1)).map V.int := by
  unfold bZ;rw [ó, ó];rfl
 refine ⟨_, rfl, d, _, ps.map (·.1), rfl, .inl hd, ek, by rw [Å]; exact UK, λ l ns hl pm so => ?_⟩
 have x1 := Ext.new (o := .lst (ns.map V.int)) hl;have ln : ns.length = ps.length := by rw [pm.length_eq, Å]
 refine ⟨l, rfl, ⟨_, û.of aQ⟩, λ D hD => ?_⟩;have x2 := x1.trans (Ext.new (o := .dK []) hD);have MS : H D = none := by
  cases e : H D with
  | none => rfl
  | some o => rw [x1 _ _ e] at hD; cases hD
 have Xw : l ≠ D := λ z => by rw [<- z, aQ] at hD; cases hD
 have Ut : ns.Nodup := pm.nodup_iff.mpr ok.nd;have PR : ∀ {H' : Hp}, Ext (ak H l (.lst (ns.map V.int))) H' -> û K H' l (ns.map V.int) := λ x => û.of (x _ _ aQ);refine Ax (n := ns.length) (λ i ys H' => Ext (ak H l (.lst (ns.map V.int))) H' /\ Paired (Tl H' ps T) ys (ns.take i)) (by rw [ln, Ú]; omega) ⟨Ext.new hD, .nil⟩ (λ i ys H' hi pv => ⟨_, _, PR pv.1, by rw [Ê, Ã hi]; rfl⟩) (λ ys H' pv => ⟨_, PR pv.1, by rw [Å]; exact Ä _⟩) ?_ ?_
 ·rintro i x ys H' H3 hi ⟨rfl, hy⟩ ly Ę ⟨x', pr⟩ os ř R k;have ex := hy _ (PR x');rw [Ê, Ã hi] at ex;have ex : V.int ns[i] = x := Ð ex;subst ex;have en : ns[i]? = some ns[i] := Ã hi;generalize hn : ns[i] = n at en;have mem : n ∈ ps.map (·.1) := pm.mem_iff.mp (á en);have Tk : Ext H H3 := x1.trans x';have gv : π H3 d (.int n) (some (.int (f6 ps n : Nat))) := by
   have g := π.k (k := .inl n) (Tk _ _ hd);rcases gc c7 n (ps := ps) with ⟨_, _, h3⟩ | ⟨h1, _⟩
   ·exact absurd mem h3
   ·rw [h1] at g; exact g
  obtain ⟨qq, hq, eq⟩ := ò.mp mem;have dat : f6 ps n <= T := by rw [<- eq, gZ ok.nd hq]; exact le qq hq
  match os, ř with
  | [o0], _ =>
   refine ⟨⟨[some (.int n)], rfl, rfl⟩, _, rfl, _, rfl, _, rfl, d, _, rfl, gv, _, rfl, _, T, rfl, T1, dat, sz, λ t ht => ?_⟩;have x4 := Ext.new (o := .tup [.int (bB (f6 ps n) T : Nat), .int (aM (f6 ps n) T : Nat)]) ht;have KU := x4 _ _ Ę;refine k (.inl n) _ _ KU ⟨aT _ (x'.trans x4) hD, ?_⟩;have nk : Key.inl n ∉ ys.map (·.1) := by
    intro z;obtain ⟨kv, P', Wk⟩ := ò.mp z;obtain ⟨j, hj, ej⟩ := Ż P';obtain ⟨m, em, r1, _⟩ := ģ pr (show ys[j]? = some kv by rw [Ã hj, ej])
    rw [Wk] at r1;cases c7 _ _ r1;rw [List.getElem?_take] at em;split at em
    ·rename_i lt
     exact absurd ((List.getElem?_inj af Ut).mp (em.trans en.symm)) af
    ·cases em
   have kU : jW H3 (ak (ak H3 t (.tup [.int (bB (f6 ps n) T : Nat), .int (aM (f6 ps n) T : Nat)])) D (.dK (aZ ys (.inl n) (.ref t)))) := λ b xs e => by
    rw [ag (λ z => by rw [z, Ę] at e; cases e)]
    exact x4 _ _ e
   rw [f8 nk, aB en];rw [f8 nk] at kU;refine be ⟨rfl, t, rfl, ?_⟩ (Paired.imp' (λ kv m r => ⟨r.1, r.2.kp kU⟩) pr);rw [ag (λ z => by rw [z, Ę] at ht; cases ht), aQ]
 ·rintro ys H' Ę ⟨x', pr⟩;refine q D H' ys ns MS (x1.trans x') Ę ⟨pm, so, ?_⟩;rw [ĉ] at pr;exact pr
end
theorem wv (O n b c i j k : Int) : 2 * iw O n b c i j k = (n - 2 * O) * (i - j) + n * (k - (O - i - j - k)) + n * O - 2 * O * (b + c) := by
 unfold iw
 grind
def Ge (A W e : Nat) : List (Nat × Nat) := (List.range (A + 1)).flatMap λ U => ((List.range (W + 1)).filter λ v => decide ((U + v) % 2 = e)).map λ v => (U, v)
theorem wt : ∀ A, A < 21 -> ∀ W, W < 21 - A -> ∀ e, e < 2 -> (Ge A W e).length <= 61 := aJ
theorem xi {A W e U v : Nat} (h1 : U <= A) (h2 : v <= W) (h3 : (U + v) % 2 = e) : (U, v) ∈ Ge A W e :=
 List.mem_flatMap.mpr ⟨U, ĥ.mpr af, ò.mpr ⟨v, Ġ.mpr ⟨ĥ.mpr af, Î h3⟩, rfl⟩⟩
def BM (O n b c d : Int) (z : Nat × Nat) : Int := ((n - 2 * O) * ((z.1 : Int) - b) + n * ((z.2 : Int) - d) + n * O - 2 * O * (b + c)) / 2
theorem sf {α : Type} [DecidableEq α] {g : α -> Nat} : ∀ {ps : List (α × Nat)}, 0 < dS g ps -> ∃ q ∈ ps, 0 < g q.1
 | [], h => absurd h (Ă _)
 | p :: r, h => by
  by_cases z : 0 < g p.1
  ·exact ⟨p, Ù .., z⟩
  ·have e : g p.1 = 0 := af;have h' : 0 < p.2 * g p.1 + dS g r := h;rw [e, i_, Α] at h';obtain ⟨q, hq, hz⟩ := sf h';exact ⟨q, Ó _ hq, hz⟩
theorem tO {O : Int} {a b c d : Nat} {keys : List Int} (hn : a + b + c + d <= 20) (nd : keys.Nodup)
  (h : ∀ x ∈ keys, ∃ i j k : Nat, i <= a /\ j <= b /\ k <= c /\ 0 <= O - i - j - k /\ O - i - j - k <= d /\ x = iw O ((a + b + c + d : Nat) : Int) b c i j k) : keys.length <= 61 := by
 have l := OG (xs := keys) (ys := (Ge (a + b) (c + d) ((O + b + d) % 2).toNat).map (BM O ((a + b + c + d : Nat) : Int) b c d)) nd λ x hx => ?_
 ·rw [Å] at l;exact Ò l (wt (a + b) af (c + d) af _ af)
 ·obtain ⟨i, j, k, h1, h2, h3, h4, h5, rfl⟩ := h x hx;obtain ⟨m, hm⟩ : ∃ m : Nat, O - i - j - k = (m : Int) := ⟨(O - i - j - k).toNat, af⟩;refine ò.mpr ⟨(i + b - j, k + d - m), xi af af af, ?_⟩;have e := wv O ((a + b + c + d : Nat) : Int) b c i j k;unfold BM;rw [show (((i + b - j : Nat) : Int)) - b = (i : Int) - j by omega, show (((k + d - m : Nat) : Int)) - d = (k : Int) - (O - i - j - k) by omega, <- e]
  omega
theorem qx {d : PyData} (h : gG d = true) : ∃ a b c e : Nat, d = .tuple [.int a, .int b, .int c, .int e] /\ a <= 20 /\ b <= 20 /\ c <= 20 /\ e <= 20 /\ 1 <= a + b + c + e /\ a + b + c + e <= 20 := by
 cases d with
 | tuple ds =>
  have h' : (decide (ds.length = 4) && (ds.all (dB 0 20) && dB 1 20 (.int (n9 ds)))) = true := h;rw [ñ, ñ, Ā] at h';obtain ⟨l, al, su⟩ := h'
  match ds, l with
  | [x, y, z, t], _ =>
   simp only [List.all_cons, List.all_nil, Bool.and_eq_true, Bool.and_true] at al;obtain ⟨h1, h2, h3, h4⟩ := al;obtain ⟨i, rfl, i1, i2⟩ := cu h1;obtain ⟨j, rfl, j1, j2⟩ := cu h2;obtain ⟨k, rfl, k1, k2⟩ := cu h3;obtain ⟨m, rfl, m1, m2⟩ := cu h4;have TF : (decide ((1 : Int) <= i + (j + (k + (m + 0)))) && decide (i + (j + (k + (m + 0))) <= 20)) = true := su;rw [ñ, Ā, Ā] at TF;refine ⟨i.toNat, j.toNat, k.toNat, m.toNat, ?_, af, af, af, af, af, af⟩;rw [ż i1, ż j1, ż k1, ż m1]
 | _ => cases h
theorem wa {a b c e : Nat} (h1 : 1 <= a + b + c + e) (h2 : a + b + c + e <= 20) : gG (.tuple [.int a, .int b, .int c, .int e]) = true := by
 have f : ∀ n : Nat, n <= 20 -> dB 0 20 (.int n) = true := λ n hn => by
  show (decide ((0 : Int) <= (n : Nat)) && decide (((n : Nat) : Int) <= 20)) = true;rw [Î af, Î af];rfl
 show (decide (4 = 4) && ((dB 0 20 (.int a) && (dB 0 20 (.int b) && (dB 0 20 (.int c) && (dB 0 20 (.int e) && true)))) && (decide ((1 : Int) <= (a : Int) + ((b : Int) + ((c : Int) + ((e : Int) + 0)))) && decide ((a : Int) + ((b : Int) + ((c : Int) + ((e : Int) + 0))) <= 20)))) = true;rw [f a af, f b af, f c af, f e af, Î (show (1 : Int) <= (a : Int) + ((b : Int) + ((c : Int) + ((e : Int) + 0))) by omega), Î (show (a : Int) + ((b : Int) + ((c : Int) + ((e : Int) + 0))) <= 20 by omega)]
 rfl
theorem sI {a b c d : Nat} : bD (fj a b c d) := by
 intro p hp;unfold fj at hp;simp only [List.mem_append, List.mem_replicate] at hp;rcases hp with ⟨_, rfl⟩ | ⟨_, rfl⟩ | ⟨_, rfl⟩ | ⟨_, rfl⟩ <;> simp
theorem qG {a b c d : Nat} : (fj a b c d).count (1, 0) = a /\ (fj a b c d).count (0, 1) = b /\ (fj a b c d).count (1, 1) = c /\ (fj a b c d).count (0, 0) = d := by
 unfold fj;simp [List.count_append, List.count_replicate]
theorem kb {a b c d : Nat} : (fj a b c d).length = a + b + c + d := by
 unfold fj;simp;omega
theorem pK {O : Int} {a b c d : Nat} (h0 : 0 <= O) (h1 : O <= (a + b + c + d : Nat)) : 1 <= dS (λ _ => 1) (cJ O a b c d (a + 1)) /\ dS (λ _ => 1) (cJ O a b c d (a + 1)) <= 2 ^ (a + b + c + d) := by
 have e := kM (sI (a := a) (b := b) (c := c) (d := d)) O ((a + b + c + d : Nat) : Int) (λ _ => 1);obtain ⟨e1, e2, e3, e4⟩ := qG (a := a) (b := b) (c := c) (d := d);rw [e1, e2, e3, e4] at e;rw [<- e];constructor
 ·have := ka (f := fg O λ _ => 1) (o := O.toNat) (λ v => by unfold fg; rw [Õ af]; exact Nat.one_pos) ((fj a b c d).map (iJ O ((a + b + c + d : Nat) : Int))) 0 0 (Ĕ _) (by rw [Å, kb]; omega)
  exact this
 ·have := pB (f := fg O λ _ => 1) (λ u v => by unfold fg; split; exact Ä _; exact Ĕ _) ((fj a b c d).map (iJ O ((a + b + c + d : Nat) : Int))) 0 0
  rw [Å, kb] at this;exact this
theorem lH {O : Int} {a b c d : Nat} {ps : List (Int × Nat)} (h : j0 O a b c d ps) (hn : a + b + c + d <= 20) : ps.length < 64 := by
 have := tO (O := O) (a := a) (b := b) (c := c) (d := d) (keys := ps.map (·.1)) hn h.1.nd λ x hx => ?_
 ·rw [Å] at this;omega
 ·have p := h.1.mem.mp hx;rw [rf h.1.nd, h.2] at p;obtain ⟨q, hq, hz⟩ := sf p;obtain ⟨i, j, k, h1, h2, h3, h4, h5, e4, _⟩ := l6 hq;refine ⟨i, j, k, h1, h2, h3, h4, h5, ?_⟩;by_cases z : v4 O ((a + b + c + d : Nat) : Int) (b : Nat) (c : Nat) q.1 = x
  ·rw [<- z, e4];rfl
  ·rw [Ë z] at hz;exact absurd hz (Ă _)
section
variable {P : Program} {w : World} {K : Frag} {mg : bu} {base : Heap}
abbrev DZ : Stmt := cD 36
def yU (CL CN : Addr) : Sp := λ vs H Q E => ∃ (x y : V) (dx dy : PyData), vs = [x, y] /\ İ H x dx /\ İ H y dy /\ (gG dy = false -> ∀ H', Ext H H' -> lj CL "found" y H' E) /\
 ∀ a b c d : Nat, dy = .tuple [.int a, .int b, .int c, .int d] -> gG dy = true -> (dB 0 ((a + b + c + d : Nat) : Int) dx = false -> ∀ H', Ext H H' -> lj CN "found" x H' E) /\
  ∀ O, dx = .int O -> 0 <= O -> O <= (a + b + c + d : Nat) -> ∀ r H' kvs ns ps, H r = none -> Ext H H' -> H' r = some (.dK kvs) -> j0 O a b c d ps -> qh H' kvs ns ps (dS (λ _ => 1) ps) -> Q (.ref r) H'
abbrev Hz : List Str := ["ones", "counts", "values"]
theorem Nw : ai Hz ["ones", "counts"] (aa DZ) := aS
theorem Cf {f D CL CN fL a1 a2 a3 a4 : Addr} {fd Wh d1 d2 d3 d4 : FuncData} (F : Ŏ K "counts_spread" "counts_spread" DZ f fd) (B : Ŀ K D) (T : mV K mg D "NoListing" "found" CL fL Wh) (A1 : Df P w K mg base ar 3 "are_counts" ["thing"] CB a1 d1) (A2 : Df P w K mg base (iG P w) 3 "need_number" ["thing", "low", "high"] (BS CN) a2 d2)
  (A3 : Df P w K mg base ar 4 "value_ways" ["ones", "counts"] (tP K) a3 d3) (A4 : Df P w K mg base ar 5 "told_spread" ["parts"] (Cy K) a4 d4) (ms : mg "sum" = none) : az P w K mg base (iG P w) 6 f fd ["ones", "counts"] (yU CL CN) := by
 refine wn F Nw λ ë A outer s H vs Q E hr h => ?_;obtain ⟨x, y, dx, dy, rfl, rx, ry, q1, q2⟩ := h;have nd := Nw.nd;have Jf : ė 2 _ := hr.mono am;have M9 : ė 3 _ := hr.mono am;have U9 : ė 4 _ := hr.mono am;refine ⟨_, cv (bp (bh (ba (bY A1 M9 ao (ae (pv 1) ap)))) (bw (fS B T.cls (T.ok P w base) Jf T.bi rfl T.Ou (pv 1))) hV)
  (cv (cr (bY A2 M9 sO (ae (pv 0) (ae aw (ae (ah (cV rfl) rfl ms Ý (ae (pv 1) ap)) ap)))))
  (cv (cM (i := 2) nd rfl (Or.inl rfl) (bY A3 U9 ao (ae (pv 0) (ae (pv 1) ap))))
  (bw (cq (bY A4 hr ao (ae (aO (ae (ah (eF rfl) rfl ms Ý (ae (zU ŗ ι K2 jO (pv 2)) ap)) (ae (pv 2) ap))) ap)))))), ?_⟩
 refine ⟨_, rfl, y, dy, rfl, ry, λ H1 x1 => ⟨_, rfl, ?_⟩⟩;cases ec : gG dy with
 | false => exact hG ⟨_, rfl, λ e' dx h1 h2 nd => pA nd (q1 ec H1 x1 e' dx h1 h2 nd)⟩
 | true =>
  obtain ⟨a, b, c, d, rfl, K0, J6, JW, KZ, n1, HV⟩ := qx ec;obtain ⟨qn, qg⟩ := q2 a b c d rfl ec;obtain ⟨p, xs, rfl, hp, rs⟩ := fY ry;cases rs with
  | cons r1 rs =>
  cases rs with
  | cons r2 rs =>
  cases rs with
  | cons r3 rs =>
  cases rs with
  | cons r4 rs =>
  cases rs;cases r1;cases r2;cases r3;cases r4;have Ox := ĕ.of (K := K) (x1 _ _ hp);have es : ([((a : Nat) : Int), ((b : Nat) : Int), ((c : Nat) : Int), ((d : Nat) : Int)] : List Int).sum = ((a + b + c + d : Nat) : Int) := by simp; omega
  refine dA ⟨_, rfl, _, rfl, p, [((a : Nat) : Int), ((b : Nat) : Int), ((c : Nat) : Int), ((d : Nat) : Int)], rfl, Ox, x, dx, 0, _, rfl, rx.mono x1, ?_, ?_⟩
  ·intro ei;rw [es] at ei;obtain ⟨O, rfl, o1, o2⟩ := cu ei;cases rx;refine ⟨_, rfl, _, rfl, O, p, a, b, c, d, rfl, Ox, K0, J6, JW, KZ, λ r H2 ps JA x2 Jf ws => ?_⟩;refine ⟨_, rfl, .inr (.inr (.inl ⟨rfl, .inl ⟨_, Jf⟩⟩)), r, _, rfl, rfl, .inl Jf, λ vp NQ => ?_⟩;have x3 := Ext.new (o := xv vp r) NQ;have em : ((bZ Key.inl ps).map (·.2)) = (ps.map λ q => ((q.2 : Nat) : Int)).map V.int := by
    unfold bZ;rw [ó, ó];rfl
   refine ⟨vp, r, _, ps.map λ q => ((q.2 : Nat) : Int), rfl, aQ, .inl (x3 _ _ Jf), em, ?_⟩;rw [j8];refine ⟨_, rfl, ft, λ t ht => ?_⟩;have x4 := x3.trans (Ext.new (o := .tup [.int ((dS (λ _ => 1) ps : Nat) : Int), .ref r]) ht);have sa := pK (O := O) (a := a) (b := b) (c := c) (d := d) o1 o2;rw [<- ws.2 λ _ => 1] at sa;have TR : 2 ^ (a + b + c + d) <= 2 ^ 20 := æ am HV;refine ⟨t, r, ps, dS (λ _ => 1) ps, rfl, ĕ.of aQ, x4 _ _ Jf, ws.1, lH ws HV, ?_, λ q hq => ?_, sa.1, λ r' H5 kvs ns Jg x5 h5 tl => ?_⟩
   ·exact Ě (Ò sa.2 TR) (B_ am am)
   ·have := xB (g := λ _ => 1) hq;omega
   ·have xx := (x1.trans x2).trans (x4.trans x5);have PU : H r' = none := by
     cases e : H r' with
     | none => rfl
     | some o => rw [((x1.trans x2).trans x4) _ _ e] at Jg; cases Jg
    exact qg O rfl o1 o2 r' H5 kvs ns ps PU xx h5 ws tl
  ·intro ei;rw [es] at ei;exact qn ei H1 x1
end
section
variable {P : Program} {w : World} {K : Frag} {mg : bu} {base : Heap}
abbrev wj : Stmt := cD 44
theorem LM : ai ["_law_one", "_law_other"] ["_law_one", "_law_other"] (aa wj) := aS
theorem zy {f : Addr} {fd : FuncData} (F : Ŏ K "_law_divisor" "_law_divisor" wj f fd) : az P w K mg base ar 1 f fd ["_law_one", "_law_other"] pj := by
 refine F.ok LM (λ vs H Q E h => ?_) (λ ë A outer s H vs Q E hr h => ?_)
 ·obtain ⟨c, lo, rfl, _⟩ := h;rfl
 obtain ⟨a, b, rfl, q⟩ := h;have nd := LM.nd;refine ⟨_, cv (iu õ (aF ss (pv 1) aw (aI _)) (bw (sM (i := 0) (j := 1) rfl nd rfl rfl am rfl rfl (ae (pv 1) (ae (aj dD (pv 0) (pv 1)) ap)) rfl))) (bw (cq (pv 0))), ?_⟩;refine ic (λ σ H' => H' = H /\ ∃ x y : Nat, σ = [some (.int x), some (.int y)] /\ Nat.gcd x y = Nat.gcd a b) (λ σ _ => Cd σ) ⟨rfl, a, b, rfl, rfl⟩ ?_ ?_
 ·rintro σ H' ⟨rfl, x, y, rfl, e⟩;refine ⟨_, rfl, _, _, rfl, rfl, _, rfl, ?_⟩;refine nF (λ c => ?_) (λ c => ?_)
  ·have c' : (0 : Int) < (y : Int) := ì c;refine ⟨_, rfl, _, rfl, _, rfl, _, _, rfl, rfl, c', _, _, rfl, ⟨rfl, y, x % y, ?_, ?_⟩, ?_⟩
   ·show [some (V.int y), some (V.int ((x : Int) % (y : Int)))] = _;rw [show ((x : Int) % (y : Int)) = ((x % y : Nat) : Int) from by simp]
   ·rw [<- e, IR x y, Nat.gcd_rec y x, IR]
   ·show ((x : Int) % (y : Int)).toNat < (y : Int).toNat;have := ħ (x : Int) c';omega
  ·have c' : ¬ (0 : Int) < (y : Int) := λ z => c (Î z);have y0 : y = 0 := af;subst y0;rw [Nat.gcd_zero_right] at e;refine ⟨_, rfl, ?_⟩;rw [e];exact q
 ·rintro σ H Q Q' m ⟨x, e, i, j, h1, h2, b, hb, q⟩;exact ⟨x, e, i, j, h1, h2, b, hb, m _ _ q⟩
theorem wc {t T : Nat} (h : 1 <= T) : Nat.gcd (bB t T) (aM t T) = 1 := by
 unfold bB aM;have g0 : 0 < Nat.gcd t T := œ t h;rw [Nat.gcd_div (Nat.gcd_dvd_left t T) (Ω t T), Nat.div_self g0]
theorem vS {t T : Nat} (h : 1 <= T) : 1 <= aM t T := by
 have g0 : 0 < Nat.gcd t T := œ t h;exact Nat.div_pos (Nat.le_of_dvd h (Ω t T)) g0
theorem gQ {t T : Nat} (h : 1 <= T) : bB t T * T = t * aM t T := by
 have g0 : 0 < Nat.gcd t T := œ t h;unfold bB aM;obtain ⟨x, hx⟩ := Nat.gcd_dvd_left t T;obtain ⟨y, hy⟩ := Ω t T;generalize Nat.gcd t T = g at *;subst hx hy;rw [LI _ g0, LI _ g0]
 grind
abbrev xc : Stmt := cD 45
def oU : Sp := λ vs H Q _ => ∃ (v : V) (t T : Nat), vs = [v, .int (t : Nat), .int (T : Nat)] /\ Jc H v (bB t T) (aM t T) /\ 1 <= T /\ T <= 2 ^ 20 /\ t <= T /\ Q (.bl true) H
theorem CH : ai ["_law_found", "_law_top", "_law_bottom"] ["_law_found", "_law_top", "_law_bottom"] (aa xc) := aS
theorem z8 {f a1 a2 : Addr} {fd d1 d2 : FuncData} (N : uq K) (F : Ŏ K "_law_is_share" "_law_is_share" xc f fd) (A1 : Df P w K mg base ar 1 "_law_whole" ["_law_found"] B1 a1 d1) (A2 : Df P w K mg base ar 1 "_law_divisor" ["_law_one", "_law_other"] pj a2 d2)
  (mi : mg "isinstance" = none) (mt : mg "tuple" = none) (ml : mg "len" = none) : az P w K mg base ar 2 f fd ["_law_found", "_law_top", "_law_bottom"] oU := by
 refine F.ok CH (λ vs H Q E h => ?_) (λ ë A outer s H vs Q E hr h => ?_)
 ·obtain ⟨v, t, T, rfl, _⟩ := h;rfl
 obtain ⟨_, t, T, rfl, ⟨p, rfl, hp⟩, T1, SV, tT, q⟩ := h;refine ⟨_, cv (bp (PW.pt (gE (bh (ba (ah (bI N) rfl mi ã (ae (pv 0) (ae (fW rfl mt Ğ) ap))))) (gE (aF jN (ah au rfl ml í (ae (pv 0) ap)) aw (aI _))
   (gE (bh (ba (bY A1 hr ao (ae (c6 gF (pv 0) aw) ap)))) (gB (bh (ba (bY A1 hr ao (ae (c6 gF (pv 0) aw) ap))))))))) (bw (cq jd)) hV)
  (cv (bp (PW.pt (gE (aF uK (c6 gF (pv 0) aw) aw (aI _)) (gB (aF jN (bY A2 hr ao (ae (c6 gF (pv 0) aw) (ae (c6 gF (pv 0) aw) ap))) aw (aI _))))) (bw (cq jd)) hV)
  (bw (cq (eB oG (aj aR (c6 gF (pv 0) aw) (pv 2)) (aj aR (pv 1) (c6 gF (pv 0) aw)) (aI _))))), ?_⟩
 have hq := ĕ.of (K := K) hp;have lp := vS (t := t) T1;have lT : bB t T <= t := JM _ _;refine ⟨_, rfl, _, _, _, _, rfl, .inl (.tup hp), rfl, _, rfl, dA ⟨_, rfl, p, _, rfl, .inr hq, rfl, _, rfl, dA ⟨_, rfl, p, _, _, _, rfl, rfl, hq, rfl, _, _, rfl, .int _, _, rfl, dA ⟨_, rfl, p, _, _, _, rfl, rfl, hq, rfl, _, _, rfl, .int _, _, rfl, dA ?_⟩⟩⟩⟩;refine ⟨_, rfl, p, _, _, _, rfl, rfl, hq, rfl, _, _, rfl, rfl, _, rfl, ?_⟩;rw [à (show ¬ (((aM t T : Nat) : Int) < 1) by omega)]
 refine dA ⟨_, rfl, p, _, _, _, rfl, rfl, hq, rfl, _, rfl, p, _, _, _, rfl, rfl, hq, rfl, _, _, rfl, ?_⟩;rw [wc T1];refine ⟨rfl, _, rfl, dA ?_⟩;refine ⟨_, rfl, p, _, _, _, rfl, rfl, hq, rfl, _, rfl, _, _, rfl, rfl, .inr ⟨af, af⟩, _, rfl, _, rfl, p, _, _, _, rfl, rfl, hq, rfl, _, _, rfl, rfl, .inl ⟨af, af⟩, rfl, ?_⟩;have e : (((bB t T : Nat) : Int) * ((T : Nat) : Int)) = (((t : Nat) : Int) * ((aM t T : Nat) : Int)) := by
  have := gQ (t := t) T1;rw [<- Int.natCast_mul, <- Int.natCast_mul, this]
 show Q (.bl (decide (V.int (((bB t T : Nat) : Int) * ((T : Nat) : Int)) = V.int (((t : Nat) : Int) * ((aM t T : Nat) : Int))))) H;rw [e, Î rfl];exact q
theorem pP {κ : Type} [DecidableEq κ] {k : κ} {v : V} : ∀ {kvs : List (κ × V)}, (kvs.map (·.1)).Nodup -> (k, v) ∈ kvs -> cF kvs k = some v
 | p :: r, nd, h => by
  rw [É, ð] at nd;rcases Ñ.mp h with rfl | h
  ·exact dH rfl
  ·rw [dO (λ z => nd.1 (by rw [z]; exact ò.mpr ⟨(k, v), h, rfl⟩))]
   exact pP nd.2 h
theorem jG {H : Hp} {ps : List (Int × Nat)} {T : Nat} : ∀ {kvs : List (Key × V)} {ns : List Int}, Paired (Tl H ps T) kvs ns -> kvs.map (·.1) = ns.map Key.inl
 | _, _, .nil => rfl
 | _, _, .cons r t => by rw [É, É, r.1, jG t]
end
section
variable {X : Cx} {op : Operator} {r : R2} {a b : Expr} {ta tb : TE} {pos p : Pos} {CX : kY} {k : Nat} {f : Addr} {fd : FuncData} {ps : List Str} {sp : Sp} {E : XK} {x : Str} {e : Expr} {es : List Expr} {t : TA} {tg iter l : Expr} {body : List Stmt} {wi : L2.TI} {g : TG} {Rf : TS} {tl : TE}
theorem xX (ho : gg X (binaryOp op) r) (ha : Bx (PE X a ta)) (hb : Bx (PE X b tb)) : Bx (PE X (.BinOp a op b pos) (bc r ta tb)) := ⟨aj ho ha.h hb.h⟩
theorem ki (h : Bx (PE X l tl)) : Bx (PI X tg l (cU X.K tl)) := ⟨bT h.h⟩
theorem fV (hp : PassesOwn (model X.prog X.w) X.A X.env X.xe) (hc : X.calm = true) (hi : Bx (PI X tg iter wi)) (hg : PG X tg g) (hb : Bx (Ο X body Rf)) (hs : ∀ x, foldedSetIterable iter X.env x = pure x := by intro _; rfl) : Bx (PS X (.For tg iter body [] pos) (jf wi g Rf)) := ⟨dM hp hc hi.h hg hb.h hs⟩
end
def Jd (H : Hp) (y : V) (p : Int × Int) : Prop := ∃ t, y = .ref t /\ H t = some (.tup [.int p.1, .int p.2])
theorem Jd.kp {H H' : Hp} {y : V} {p : Int × Int} (h : Jd H y p) (k : jW H H') : Jd H' y p := by
 obtain ⟨t, e, h⟩ := h;exact ⟨t, e, k _ _ h⟩
def Ī (H : Hp) (a : Addr) (L : List (Int × Int)) : Prop := ∃ xs, H a = some (.lst xs) /\ Paired (Jd H) xs L
theorem Ī.ext {H H' : Hp} {a : Addr} {L : List (Int × Int)} (h : Ī H a L) (x : Ext H H') : Ī H' a L := by
 obtain ⟨xs, h1, h2⟩ := h;exact ⟨xs, x _ _ h1, Paired.imp' (λ _ _ r => r.kp x.Υ) h2⟩
def f2 (z : Int × Int) : List Key := [.inl z.1, .inl z.2]
theorem rE : ∀ a b : Int × Int, f2 a = f2 b -> a = b := λ a b h => by
 obtain ⟨a1, a2⟩ := a;obtain ⟨b1, b2⟩ := b;injection h with h1 h2
 injection h1 with h1
 injection h2 with h2 _
 injection h2 with h2
 have h1 : a1 = b1 := h1;have h2 : a2 = b2 := h2;rw [h1, h2]
def tL (w : Int × Int) (G : Int × Int -> Nat) (z : Int × Int) : Nat := G (z.1, z.2 + w.1) + G (z.1 + 1, z.2 + w.2)
section
variable {P : Program} {w : World} {K : Frag} {mg : bu} {base : Heap}
abbrev nY : Stmt := cD 56
abbrev AK : List Str := ["_law_listing_here", "_law_ones_here", "_law_found", "_law_here", "_law_there", "_law_more", "_law_used", "_law_value", "_law_ways", "_law_hand", "_law_added", "_law_key"]
theorem Mp : ai AK ["_law_listing_here", "_law_ones_here"] (aa nY) := aS
abbrev DH : Scope := dh [("_law_used", .local), ("_law_value", .local), ("_law_ways", .local), ("_law_ones_here", .free)]
theorem zY : ((["_law_used", "_law_value", "_law_ways"] : List Str) ++ (["_law_ones_here"] : List Str)).Nodup := aJ
def kZ (K : Frag) : List V -> Hp -> VK -> Prop := λ xs H Q => ∃ p ys, xs = [.ref p] /\ (û K H p ys \/ ĕ K H p ys) /\ Q (.int ys.length) H
abbrev km : R2 := iA λ i j => .int (i + j)
abbrev tD : R2 := iA λ i j => .int (i - j)
abbrev gL : R2 := rI IM λ i j => .int (i * j)
def EL : TE := dE (ac (bc km (aq 6) (aq 9)) (ac (bc km (aq 7) (aq 10)) aC))
def FC : TS := bL (cQ EL (bf 11)) (xY (aq 5) (aq 11) (bc km (uL (aq 5) (aq 11) (tC (.int 0))) (aq 8)))
def tQ (K : Frag) : TE := bC (ac (dE (ac (tC (.int 0)) (ac (bc tD (tC (.int 0)) (bc gL (aq 1) (aq 4))) aC))) (ac (dE (ac (tC (.int 1)) (ac (bc gL (bc tD (eY (kZ K) (ac (aq 0) aC)) (aq 1)) (aq 3)) aC))) aC))
def Gy (K : Frag) : TS := jf (cU K (tQ K)) (gW K 9 10) FC
def yX (K : Frag) (i j k : Nat) : TG := xh K 2 (dL (xh K 2 (dL (bf i) (dL (bf j) uD))) (dL (bf k) uD))
def Hd (K : Frag) : TS := jf (Aj (aq 2)) (yX K 6 7 8) (Gy K)
def Hm (K : Frag) : TS := jf (cU K (aq 0)) (gW K 3 4) (bL (cQ uH (bf 5)) (bL (Hd K) (cQ (aq 5) (bf 2))))
def Fg (K : Frag) : TE := fo (Aj (aq 2)) 3 [1] (yX K 0 1 2) (tB (bc B6 (aq 0) (aq 3))) (dE (ac (aq 1) (ac (aq 2) aC)))
def Hj (K : Frag) : TS := bL (cQ (ut (dE (ac (tC (.int 0)) (ac (tC (.int 0)) aC))) (tC (.int 1))) (bf 2)) (bL (Hm K) (bQ (eY uG (ac (Fg K) aC))))
abbrev vO : Stmt -> Expr × List Stmt
 | .For _ it b _ _ => (it, b)
 | _ => (.Name "" ⟨0, 0, 0, 0⟩, [])
abbrev s0 : Stmt := .Pass ⟨0, 0, 0, 0⟩
abbrev Bj : Stmt := (vO ((av nY).getD 1 s0)).2.getD 1 s0
abbrev xR : Stmt := (vO Bj).2.getD 0 s0
abbrev yK : List Stmt := (vO xR).2
abbrev Ay : Expr := (vO xR).1
abbrev yx : Expr := match (av nY).getD 2 s0 with
 | .Return (some (.Call _ [e] _ _)) _ => e
 | _ => .Name "" ⟨0, 0, 0, 0⟩
section
variable {f : Addr} {ë : Value} {A : Around} {outer : List Env} {s : Shared} {H : Hp} {E : XK}
theorem yG : aW (ax ar P w K mg base AK "_law_table" (aa nY) f ë A outer s H E).Ķ DH [("_law_ones_here", s.heap.objs.size + 1)] ["_law_used", "_law_value", "_law_ways"] ["_law_ones_here"] [1] :=
 bz (M := ["_law_ones_here"]) (L := [(".0", .local), ("_law_used", .local), ("_law_value", .local), ("_law_ways", .local), ("_law_ones_here", .cell)]) rfl rfl aJ aJ aJ rfl rfl rfl aJ aJ rfl rfl rfl
theorem E5 (hr : mR 0 "_law_table" nY A s f ë) :
  Bx (Ο (ax ar P w K mg base AK "_law_table" (aa nY) f ë A outer s H E).Ķ (yK) FC) := by
 have nd := Mp.nd;have hu : (A.deeper (PyProof.Rows.envOfC "_law_table" (aa nY) s.heap.objs.size f ë)).units + 1 < cLine := by have := hr.units; omega
 exact ⟨cv (cM (i := 11) nd rfl (Or.inl rfl) (aO (ae (aj bd (pv 6) (pv 9)) (ae (aj bd (pv 7) (pv 10)) ap))))
     (bw (pM hu (pv 5) (pv 11) (aj bd (mq hu (pv 5) (pv 11) aw ⟨rfl, rfl, rfl, rfl⟩) (pv 8)) rfl))⟩
theorem Ea (ml : mg "len" = none) : Bx (PE (ax ar P w K mg base AK "_law_table" (aa nY) f ë A outer s H E).Ķ (Ay) (tQ K)) :=
 ⟨aX (ae (aO (ae aw (ae (aj bF aw (aj aR (pv 1) (pv 4))) ap))) (ae (aO (ae aw (ae (aj aR (aj bF (ah au rfl ml í (ae (pv 0) ap)) (pv 1)) (pv 3)) ap))) ap))⟩
theorem FS : Bx (PE (ax ar P w K mg base AK "_law_table" (aa nY) f ë A outer s H E).Ķ (yx) (Fg K)) :=
 ⟨eJ (tt := tB (bc B6 (aq 0) (aq 3))) (te := dE (ac (aq 1) (ac (aq 2) aC))) (g := yX K 0 1 2) rfl yG (lU (pv 2)) (λ s H C fp => by exact br rfl (dz (br rfl (dz (bM (i := 0) zY rfl (.inl rfl)) (dz (bM (i := 1) zY rfl (.inl rfl)) aU))) (dz (bM (i := 2) zY rfl (.inl rfl)) aU))) (λ s H C fp => by exact aF oG (pv 0) (pv 3) (aI _)) (λ s H C fp => by exact aO (ae (pv 1) (ae (pv 2) ap)))⟩
theorem im {X : Cx} {n : String} {r : List V -> Hp -> VK -> Prop} {x : Str} {e : Expr} {te : TE} {p pos : Pos} (hc : bv X (.type n) r) (hg : Gl X x) (hm : X.mg x = none) (hv : bootBuiltins x = some (.type n)) (ha : Bx (PE X e te)) (hn : x ≠ "__name__" := by decide) (x_ : (x == ("__debug__" : Str)) = false := by decide)
  (he : starEach [e] X.env = (false, eval e X.env) :: starEach [] X.env := by rfl) (g_ : (backTo pos (starEach [] X.env)).any (·.1) = false := by rfl) : Bx (PE X (.Call (.Name x p) [e] [] pos) (eY r (ac te aC))) := ⟨cw hc hg hm hv (ae ha.h ap (hs := he)) hn x_ he g_⟩
theorem yT (ml : mg "len" = none) (md : mg "dict" = none) (hr : mR 0 "_law_table" nY A s f ë) :
  Bx (Ο (ax ar P w K mg base AK "_law_table" (aa nY) f ë A outer s H E).Ķ (av nY) (Hj K)) := by
 have nd := Mp.nd;exact dv ⟨cM (i := 2) nd rfl (Or.inl rfl) (sJ hr.units (aO (ae aw (ae aw ap))) aw)⟩
  (dv (fV õ rfl ⟨bT (pv 0)⟩ (br rfl (dz (bM (i := 3) nd rfl (Or.inl rfl)) (dz (bM (i := 4) nd rfl (Or.inl rfl)) aU)))
   (dv ⟨cM (i := 5) nd rfl (Or.inl rfl) rH⟩
   (dv (fV õ rfl ⟨lU (pv 2)⟩ (br rfl (dz (br rfl (dz (bM (i := 6) nd rfl (Or.inl rfl)) (dz (bM (i := 7) nd rfl (Or.inl rfl)) aU))) (dz (bM (i := 8) nd rfl (Or.inl rfl)) aU)))
    (aP (fV õ rfl (ki (Ea ml)) (br rfl (dz (bM (i := 9) nd rfl (Or.inl rfl)) (dz (bM (i := 10) nd rfl (Or.inl rfl)) aU))) (E5 hr))))
   (aP ⟨cM (i := 2) nd rfl (Or.inl rfl) (pv 5)⟩))))
  (aP (cP (im (nN rfl) rfl md PyProof.Rows.boot_dict FS))))
end
end
abbrev sT (a : Addr) (O : Int) (fd : Addr) (r : List (Option V)) : St := some (.ref a) :: some (.int O) :: some (.ref fd) :: r
def TD (H : Hp) (m : Addr) (qs : List ((Int × Int) × Nat)) : Prop := H m = some (.dT (bZ f2 qs))
section
variable {K : Frag} {H : Hp} {a m fd : Addr} {O : Int}
theorem xD {D : aY} {qs : List ((Int × Int) × Nat)} {h t u v hd ad : Int} {wy : Nat} {ĵ : Option V} (hm : TD H m qs) (ok : ρ qs) (sm : qs.length < 16000000) (wp : 0 < wy)
  (q : ∀ H' ĵ, Kept H H' m -> TD H' m (fD qs (u + hd, v + ad) wy) -> D.nx (sT a O fd [some (.int h), some (.int t), some (.ref m), some (.int u), some (.int v), some (.int (wy : Nat)), some (.int hd), some (.int ad), ĵ]) H') :
  FC D (sT a O fd [some (.int h), some (.int t), some (.ref m), some (.int u), some (.int v), some (.int (wy : Nat)), some (.int hd), some (.int ad), ĵ]) H := by
 refine ⟨_, rfl, _, rfl, _, _, rfl, rfl, _, rfl, _, rfl, _, _, rfl, rfl, ft, λ kt P_ => ?_⟩;have x1 := Ext.new (o := .tup [.int (u + hd), .int (v + ad)]) P_;have P8 : ak H kt (.tup [.int (u + hd), .int (v + ad)]) m = some (.dT (bZ f2 qs)) := x1 _ _ hm;have RO : ak H kt (.tup [.int (u + hd), .int (v + ad)]) kt = some (.tup ((f2 (u + hd, v + ad)).map kV)) := aQ;refine ⟨_, rfl, m, rfl, .inr ⟨_, .inl P8⟩, _, rfl, _, π.t P8 RO, ?_⟩;have eg : (cF (bZ f2 qs) (f2 (u + hd, v + ad))).getD (.int 0) = .int ((f6 qs (u + hd, v + ad) : Nat) : Int) := by
  rcases gc rE (u + hd, v + ad) (ps := qs) with ⟨h1, h2, _⟩ | ⟨h1, _⟩
  ·rw [h1, h2]; rfl
  ·rw [h1]; rfl
 rw [eg];refine ⟨_, rfl, _, _, rfl, rfl, _, rfl, _, rfl, m, _, rfl, Je.t P8 RO (by rw [eQ, Ú]; omega), ?_⟩
 refine q _ _ ((x1.kept m).trans (fU _)) ?_;unfold TD;rw [aQ, <- oO rE _ wy ok.nd];rfl
theorem DC {D : aY} {qs : List ((Int × Int) × Nat)} {h t u v : Int} {wy : Nat} {L : List (Int × Int)} {o9 ŕ ĵ : Option V} (ls : Ī H a L) (Pm : a ≠ m) (hm : TD H m qs) (ok : ρ qs) (sm : qs.length < 15000000) (wp : 0 < wy) (hh : h = 0 \/ h = 1) (ht : t = 0 \/ t = 1)
  (q : ∀ H' Jy o9 ŕ ĵ, Kept H H' m -> TD H' m Jy -> ρ Jy -> Jy.length <= qs.length + 2 -> (∀ G, dS G Jy = dS G qs + wy * tL (iJ O L.length (h, t)) G (u, v)) -> D.nx (sT a O fd [some (.int h), some (.int t), some (.ref m), some (.int u), some (.int v), some (.int (wy : Nat)), o9, ŕ, ĵ]) H') :
  Gy K D (sT a O fd [some (.int h), some (.int t), some (.ref m), some (.int u), some (.int v), some (.int (wy : Nat)), o9, ŕ, ĵ]) H := by
 obtain ⟨xs, ha, pr⟩ := id ls;have lx : xs.length = L.length := å pr;refine ⟨_, rfl, _, rfl, _, _, rfl, rfl, .inr ⟨af, af⟩, _, _, rfl, rfl, ft, λ t0 PN => ?_⟩;have x1 := Ext.new (o := .tup [.int 0, .int (0 - O * t)]) PN;refine ⟨_, rfl, a, xs, rfl, .inl (û.of (x1 _ _ ha)), _, rfl, _, _, rfl, rfl, _, rfl, _, _, rfl, rfl, .inr ⟨af, af⟩, ft, λ t1 PM => ?_⟩;have x2 := Ext.new (o := .tup [.int 1, .int ((((xs.length : Nat) : Int) - O) * h)]) PM;refine ⟨ft, λ l hl => ?_⟩;have x3 := Ext.new (o := .lst [.ref t0, .ref t1]) hl;have X3 := (x1.trans x2).trans x3;have h0 := x3 _ _ (x2 _ _ (aQ (H := H) (a := t0) (o := .tup [.int 0, .int (0 - O * t)])));have h1 := x3 _ _ (aQ (H := ak H t0 (.tup [.int 0, .int (0 - O * t)])) (a := t1) (o := .tup [.int 1, .int ((((xs.length : Nat) : Int) - O) * h)]));have KQ : ak (ak (ak H t0 (.tup [.int 0, .int (0 - O * t)])) t1 (.tup [.int 1, .int ((((xs.length : Nat) : Int) - O) * h)])) l (.lst [.ref t0, .ref t1]) l = some (.lst [.ref t0, .ref t1]) := aQ;have JS : TD (ak (ak (ak H t0 (.tup [.int 0, .int (0 - O * t)])) t1 (.tup [.int 1, .int ((((xs.length : Nat) : Int) - O) * h)])) l (.lst [.ref t0, .ref t1])) m qs := X3 _ _ hm;generalize ak (ak (ak H t0 (.tup [.int 0, .int (0 - O * t)])) t1 (.tup [.int 1, .int ((((xs.length : Nat) : Int) - O) * h)])) l (.lst [.ref t0, .ref t1]) = H3 at X3 h0 h1 KQ JS;rw [lx] at h1;have Uq : l ≠ m := λ z => by
  unfold TD at JS;rw [<- z, KQ] at JS;cases JS
 have n0 : t0 ≠ m := λ z => by
  unfold TD at JS;rw [<- z, h0] at JS;cases JS
 have n1 : t1 ≠ m := λ z => by
  unfold TD at JS;rw [<- z, h1] at JS;cases JS
 refine ⟨l, rfl, ⟨_, û.of KQ⟩, dG (xs := [.ref t0, .ref t1]) (λ i σ H' => Kept H3 H' m /\ (∃ Jy, TD H' m Jy /\ ρ Jy /\ Jy.length <= qs.length + i /\ ∀ G, dS G Jy = dS G qs + wy * ((if 1 <= i then G (u, v + (0 - O * t)) else 0) + if 2 <= i then G (u + 1, v + (((L.length : Nat) : Int) - O) * h) else 0)) /\ ∃ o9 ŕ ĵ, σ = sT a O fd [some (.int h), some (.int t), some (.ref m), some (.int u), some (.int v), some (.int (wy : Nat)), o9, ŕ, ĵ]) ⟨Kept.refl _ _, ⟨qs, JS, ok, Ä _, λ G => by simp⟩, _, _, _, rfl⟩ ?_ ?_ ?_⟩
 ·rintro i σ H' _ ⟨k, _⟩;exact û.of (k _ _ KQ Uq)
 ·rintro i x σ H' ex ⟨k, ⟨Jy, Ic, KO, l', es⟩, o9, ŕ, ĵ, rfl⟩;have li : i < 2 := (Ö.mp ex).1;rcases (show i = 0 \/ i = 1 by omega) with rfl | rfl
  ·cases ex;refine ⟨t0, _, rfl, ĕ.of (k _ _ h0 n0), rfl, _, _, rfl, _, _, rfl, rfl, ?_⟩;refine xD Ic KO af wp λ H4 ĵ k4 MJ => ⟨k.trans k4, ⟨_, MJ, KO.add wp, Ò (fJ _) af, λ G => ?_⟩, _, _, _, rfl⟩;rw [j4, es G, show u + 0 = u by omega]
   simp
  ·cases ex;refine ⟨t1, _, rfl, ĕ.of (k _ _ h1 n1), rfl, _, _, rfl, _, _, rfl, rfl, ?_⟩;refine xD Ic KO af wp λ H4 ĵ k4 MJ => ⟨k.trans k4, ⟨_, MJ, KO.add wp, Ò (fJ _) af, λ G => ?_⟩, _, _, _, rfl⟩;rw [j4, es G];simp [Nat.mul_add, Nat.add_assoc]
 ·rintro σ H' ⟨k, ⟨Jy, Ic, KO, l', es⟩, o9, ŕ, ĵ, rfl⟩;refine q H' Jy _ _ _ ((X3.kept m).trans k) Ic KO (by simpa using l') λ G => ?_
  rw [es G];simp [tL, iJ]
end
theorem kA {α κ : Type} [DecidableEq α] [DecidableEq κ] {f : α -> κ} {ps : List (α × Nat)} {i : Nat} {k : κ} {v : V} (h : (bZ f ps)[i]? = some (k, v)) : ∃ q, ps[i]? = some q /\ k = f q.1 /\ v = .int (q.2 : Nat) := by
 unfold bZ at h;rw [Ê] at h;obtain ⟨q, hq, e⟩ := đ.mp h;cases e;exact ⟨q, hq, rfl, rfl⟩
theorem lQ {H : Hp} {ps : List ((Int × Int) × Nat)} {i : Nat} {kx v : V} (h : qy H (.dT (bZ f2 ps)) i kx v) : ∃ q b, ps[i]? = some q /\ kx = .ref b /\ H b = some (.tup [.int q.1.1, .int q.1.2]) /\ v = .int (q.2 : Nat) := by
 rcases h with ⟨_, _, e, _⟩ | ⟨kvs, k, b, e, hk, rfl, hb⟩
 ·cases e
 ·cases e;obtain ⟨q, hq, rfl, rfl⟩ := kA hk;exact ⟨q, b, hq, rfl, hb, rfl⟩
def fB (O : Int) (ps : List ((Int × Int) × Nat)) : List (Int × Nat) := (ps.filter λ q => decide (q.1.1 = O)).map λ q => (q.1.2, q.2)
theorem jB {O : Int} {ps : List ((Int × Int) × Nat)} {q : (Int × Int) × Nat} : fB O (ps ++ [q]) = fB O ps ++ (if q.1.1 = O then [(q.1.2, q.2)] else []) := by
 unfold fB;rw [Ĝ, Ø]
 congr 1
 by_cases e : q.1.1 = O
 ·rw [Õ e];simp [e]
 ·rw [Ë e];simp [e]
theorem sG {O : Int} (g : Int -> Nat) : ∀ ps : List ((Int × Int) × Nat), dS g (fB O ps) = dS (λ z => fg O g z.1 z.2) ps
 | [] => rfl
 | p :: r => by
  have ih := sG (O := O) g r;unfold fB at ih ⊢;show _ = p.2 * fg O g p.1.1 p.1.2 + dS _ r;rw [<- ih];by_cases e : p.1.1 = O
  ·rw [Ĥ, Õ (Î e), É];show p.2 * g p.1.2 + _ = _;unfold fg;rw [Õ e]
  ·rw [Ĥ, Ë (by simpa using e)]
   unfold fg;rw [Ë e];omega
theorem oC {O : Int} : ∀ {ps : List ((Int × Int) × Nat)}, ρ ps -> ρ (fB O ps)
 | [], _ => j3
 | p :: r, h => by
  have ih := oC (O := O) h.tail;have nd := h.nd;rw [É, ð] at nd;unfold fB at ih ⊢;by_cases e : p.1.1 = O
  ·rw [Ĥ, Õ (Î e), É];refine ⟨?_, λ q hq => ?_⟩
   ·rw [É, ð];refine ⟨λ z => nd.1 ?_, ih.nd⟩;obtain ⟨q, hq, e2⟩ := ò.mp z;obtain ⟨q', MF, rfl⟩ := ò.mp hq;obtain ⟨m1, m2⟩ := Ġ.mp MF;have m2 : q'.1.1 = O := ì m2;have e2 : q'.1.2 = p.1.2 := e2;exact ò.mpr ⟨q', m1, Prod.ext (m2.trans e.symm) e2⟩
   ·rcases Ñ.mp hq with rfl | hq
    ·exact h.pos p (Ù ..)
    ·exact ih.pos q hq
  ·rw [Ĥ, Ë (by simpa using e)]
   exact ih
theorem jy : ∀ (n : Nat) {qs : List (Key × V)}, qs.length = n -> (qs.map (·.1)).Nodup -> bO qs = qs
 | 0, qs, h, _ => by cases ψ.mp h; rfl
 | n + 1, qs, h, nd => by
  obtain ⟨r, q, rfl⟩ : ∃ r q, qs = r ++ [q] := by
   refine ⟨qs.dropLast, qs.getLast (λ z => by rw [z] at h; cases h), (List.dropLast_concat_getLast _).symm⟩
  rw [Ï] at h;rw [Ø] at nd;have Uu := (List.nodup_append.mp nd).1;rw [gC, jy n (by simpa using h) Uu, f8]
  intro z;exact (List.nodup_append.mp nd).2.2 _ z _ (ď.mpr rfl) rfl
section
variable {K : Frag} {H : Hp} {a m fd : Addr} {O : Int}
theorem Bl {D : aY} {ps : List ((Int × Int) × Nat)} {h t : Int} {L : List (Int × Int)} {N : Nat} {o6 o7 o8 o9 ŕ ĵ : Option V} (ls : Ī H a L) (Ot : a ≠ fd) (Oo : m ≠ fd) (hm : TD H m []) (hf : TD H fd ps) (ok : ρ ps) (sm : ps.length <= 2 ^ 19) (hh : h = 0 \/ h = 1) (ht : t = 0 \/ t = 1)
  (q : ∀ H' qs o6 o7 o8 o9 ŕ ĵ, (∀ b o, H b = some o -> b ≠ m -> b ≠ fd -> H' b = some o) -> TD H' m qs -> ρ qs -> qs.length <= 2 * ps.length -> (∀ G, dS G qs = dS (tL (iJ O L.length (h, t)) G) ps) -> D.nx (sT a O fd [some (.int h), some (.int t), some (.ref m), o6, o7, o8, o9, ŕ, ĵ]) H') :
  Hd K D (sT a O fd [some (.int h), some (.int t), some (.ref m), o6, o7, o8, o9, ŕ, ĵ]) H := by
 refine ⟨_, rfl, fd, .dT (bZ f2 ps), rfl, True.intro, .inl hf, λ ob H2 fz => ?_⟩;have k2 : ∀ b o, H b = some o -> b ≠ fd -> H2 b = some o := λ b o e n => by rw [fz.2 b n]; exact e
 have Pm : a ≠ m := λ z => by
  obtain ⟨xs, ha, _⟩ := ls;unfold TD at hm;rw [z, hm] at ha;cases ha
 have US : jW H H2 := λ b xs e => k2 _ _ e (λ z => by unfold TD at hf; rw [z, hf] at e; cases e)
 have Po : Ī H2 a L := by
  obtain ⟨xs, ha, pr⟩ := ls;exact ⟨xs, k2 _ _ ha Ot, Paired.imp' (λ _ _ r => r.kp US) pr⟩
 have NW : TD H2 m [] := k2 _ _ hm Oo;have ln : dU (.dT (bZ f2 ps)) = ps.length := eQ;refine vW (λ j σ H' => Kept H2 H' m /\ (∃ qs, TD H' m qs /\ ρ qs /\ qs.length <= 2 * j /\ ∀ G, dS G qs = dS (tL (iJ O L.length (h, t)) G) (ps.take j)) /\ ∃ o6 o7 o8 o9 ŕ ĵ, σ = sT a O fd [some (.int h), some (.int t), some (.ref m), o6, o7, o8, o9, ŕ, ĵ]) ⟨Kept.refl _ _, ⟨[], NW, j3, Ä _, λ G => rfl⟩, _, _, _, _, _, _, rfl⟩ (λ i σ H' p => p.1 _ _ fz.1 Oo.symm) ?_ ?_
 ·rintro j σ H' p kx v hj ⟨k, ⟨qs, Ic, KO, l', es⟩, o6, o7, o8, o9, ŕ, ĵ, rfl⟩ hp pr;obtain ⟨z, b, ez, rfl, hb, rfl⟩ := lQ pr;have x1 := Ext.new (o := .tup [.ref b, .int (z.2 : Nat)]) hp;rw [ln] at hj;refine ⟨p, _, rfl, ĕ.of aQ, rfl, _, _, rfl, b, _, rfl, ĕ.of (x1 _ _ hb), rfl, _, _, rfl, _, _, rfl, rfl, _, _, rfl, rfl, ?_⟩;have LQ : Ī (ak H' p (.tup [.ref b, .int (z.2 : Nat)])) a L := by
   obtain ⟨xs, ha, pr⟩ := Po;have kk : jW H2 H' := λ b xs e => k _ _ e (λ z => by unfold TD at NW; rw [z, NW] at e; cases e)
   exact ⟨xs, x1 _ _ (k _ _ ha Pm), Paired.imp' (λ _ _ r => (r.kp kk).kp x1.Υ) pr⟩
  have JS : TD (ak H' p (.tup [.ref b, .int (z.2 : Nat)])) m qs := x1 _ _ Ic;refine DC (K := K) LQ Pm JS KO af (ok.pos z (á ez)) hh ht λ H4 Jy o9 ŕ ĵ k4 MJ ND l4 N7 => ⟨k.trans ((x1.kept m).trans k4), ⟨Jy, MJ, ND, af, λ G => ?_⟩, _, _, _, _, _, _, rfl⟩;rw [N7 G, es G, pI ez]
 ·rintro σ H' ⟨k, ⟨qs, Ic, KO, l', es⟩, o6, o7, o8, o9, ŕ, ĵ, rfl⟩;rw [ln] at l' es;refine q H' qs _ _ _ _ _ _ (λ b o e n1 n2 => k _ _ (k2 _ _ e n2) n1) Ic KO l' λ G => ?_;rw [es G, ĉ]
theorem vJ {f : Int -> Int -> Nat} {W : List (Int × Int)} {i : Nat} {w : Int × Int} (h : W[i]? = some w) (z : Int × Int) : EE f (W.drop i) z.1 z.2 = tL w (λ z => EE f (W.drop (i + 1)) z.1 z.2) z := by
 have hi := (Ö.mp h);rw [List.drop_eq_getElem_cons hi.1, hi.2];rfl
theorem AU {D : aY} {L : List (Int × Int)} {o3 o4 o5 o6 o7 o8 o9 ŕ ĵ : Option V} (ls : Ī H a L) (bt : bD L) (Ň : L.length <= 20) (hf : TD H fd [((0, 0), 1)])
  (Ot : a ≠ fd) {H0 : Hp} (x0 : Ext H0 H) (nf : H0 fd = none) (Pq : Ī H0 a L)
  (q : ∀ H' fd ps o3 o4 o5 o6 o7 o8 o9 ŕ ĵ, Ext H0 H' -> H0 fd = none -> TD H' fd ps -> ρ ps -> ps.length <= 2 ^ 20 -> (∀ f, dS (λ z => f z.1 z.2) ps = EE f (L.map (iJ O L.length)) 0 0) -> D.nx (sT a O fd [o3, o4, o5, o6, o7, o8, o9, ŕ, ĵ]) H') :
  Hm K D (sT a O fd [o3, o4, o5, o6, o7, o8, o9, ŕ, ĵ]) H := by
 obtain ⟨xs, ha, pr⟩ := id ls;have lx : xs.length = L.length := å pr;refine ⟨_, rfl, a, rfl, ⟨_, û.of ha⟩, dG (xs := xs) (λ i σ H' => Ext H0 H' /\ Ī H' a L /\ H' a = some (.lst xs) /\ Paired (Jd H') xs L /\ ∃ fd ps, TD H' fd ps /\ H0 fd = none /\ ρ ps /\ ps.length <= 2 ^ i /\ (∀ f, dS (λ z => EE f ((L.map (iJ O L.length)).drop i) z.1 z.2) ps = EE f (L.map (iJ O L.length)) 0 0) /\ ∃ o3 o4 o5 o6 o7 o8 o9 ŕ ĵ, σ = sT a O fd [o3, o4, o5, o6, o7, o8, o9, ŕ, ĵ]) ⟨x0, ls, ha, pr, fd, _, hf, nf, ⟨by simp, λ q hq => by cases List.mem_singleton.mp hq; exact Nat.one_pos⟩, Ä _, λ f => ?_, _, _, _, _, _, _, _, _, _, rfl⟩ ?_ ?_ ?_⟩
 ·show 1 * EE f _ 0 0 + 0 = _;rw [Nat.one_mul, Nat.add_zero];rfl
 ·rintro i σ H' _ ⟨_, _, h, _⟩;exact û.of h
 ·rintro i x σ H' ex ⟨x', RD, M_, NA, fd, ps, K_, Pk, ok, l', es, o3, o4, o5, o6, o7, o8, o9, ŕ, ĵ, rfl⟩;obtain ⟨⟨h, t⟩, eL, tt, rfl, U0⟩ := ģ NA ex;have li : i < L.length := (Ö.mp eL).1;obtain ⟨b1, b2⟩ := bt _ (á eL);refine ⟨tt, _, rfl, ĕ.of U0, rfl, _, _, rfl, _, _, rfl, rfl, ?_⟩;intro m hm;have x1 := Ext.new (o := .dT []) hm;have Oo : m ≠ fd := λ z => by unfold TD at K_; rw [z, K_] at hm; cases hm
  have NG : a ≠ fd := λ z => by unfold TD at K_; rw [z, K_] at M_; cases M_
  have Op : H0 m = none := by
   cases e : H0 m with
   | none => rfl
   | some o => rw [x' _ _ e] at hm; cases hm
  have Ue : 2 ^ i <= 2 ^ 19 := æ am af;refine Bl (K := K) (N := i) (RD.ext x1) NG Oo (show TD (ak H' m (.dT [])) m [] from aQ) (show TD (ak H' m (.dT [])) fd ps from x1 _ _ K_) ok (Ò l' Ue) b1 b2 λ H4 qs o6 o7 o8 o9 ŕ ĵ k4 MJ ND l4 N7 => ?_;have x4 : Ext H0 H4 := λ b o e => k4 _ _ (x1 _ _ (x' _ _ e)) (λ z => by rw [z, Op] at e; cases e) (λ z => by rw [z, Pk] at e; cases e)
  have XC : ∃ ys, H0 a = some (.lst ys) := let ⟨ys, h, _⟩ := Pq; ⟨ys, h⟩
  have na : a ≠ m := λ z => by rw [z, hm] at M_; cases M_
  have RV := k4 _ _ (x1 _ _ M_) na NG;have Ro : Paired (Jd H4) xs L := Paired.imp' (λ _ _ r => by
   obtain ⟨t, e, ht⟩ := r;exact ⟨t, e, k4 _ _ (x1 _ _ ht) (λ z => by rw [z, hm] at ht; cases ht) (λ z => by unfold TD at K_; rw [z, K_] at ht; cases ht)⟩) NA
  refine ⟨_, rfl, x4, ⟨xs, RV, Ro⟩, RV, Ro, m, qs, MJ, Op, ND, ?_, λ f => ?_, _, _, _, _, _, _, _, _, _, rfl⟩
  ·rw [ň];omega
  ·have eW : (L.map (iJ O L.length))[i]? = some (iJ O L.length (h, t)) := by rw [Ê, eL]; rfl
   rw [N7, <- es f];exact nW λ z _ => (vJ eW z.1).symm
 ·rintro σ H' ⟨x', RD, M_, NA, fd, ps, K_, Pk, ok, l', es, o3, o4, o5, o6, o7, o8, o9, ŕ, ĵ, rfl⟩;refine q H' fd ps _ _ _ _ _ _ _ _ _ x' Pk K_ ok (Ò l' (æ am af)) λ f => ?_;rw [<- es f, lx];refine nW λ z _ => ?_;rw [List.drop_of_length_le (by rw [Å]; exact Ä _)]
  rfl
def Nd (H : Hp) (y : V) (q : Int × Nat) : Prop := ∃ b, y = .ref b /\ H b = some (.tup [.int q.1, .int (q.2 : Nat)])
theorem Nd.kp {H H' : Hp} {y : V} {q : Int × Nat} (h : Nd H y q) (k : jW H H') : Nd H' y q := by
 obtain ⟨b, e, h⟩ := h;exact ⟨b, e, k _ _ h⟩
theorem zm {H : Hp} {ys : List V} {ps : List (Int × Nat)} (h : Paired (Nd H) ys ps) : FZ H ys (bZ Key.inl ps) := by
 refine ⟨by rw [eQ]; exact å h, λ j y q hy hq => ?_⟩
 obtain ⟨z, ez, b, e, hb⟩ := ģ h hy;obtain ⟨z', R4, e1, e2⟩ := kA (k := q.1) (v := q.2) hq;rw [ez] at R4;cases R4;exact ⟨b, e, by rw [hb, e1, e2]; rfl⟩
theorem Bo {Q : VK} {ps : List ((Int × Int) × Nat)} {r : List (Option V)} (hf : TD H fd ps) (sm : ps.length <= 2 ^ 20)
  (q : ∀ D ys H', H D = none -> (∀ b o, H b = some o -> b ≠ fd -> H' b = some o) -> H' D = some (.lst ys) -> Paired (Nd H') ys (fB O ps) -> Q (.ref D) H') : Fg K (sT a O fd r) H Q := by
 refine ⟨_, rfl, fd, .dT (bZ f2 ps), rfl, True.intro, .inl hf, λ ob H2 fz D hD => ?_⟩;have k2 : ∀ b o, H b = some o -> b ≠ fd -> H2 b = some o := λ b o e n => by rw [fz.2 b n]; exact e
 have ln : dU (.dT (bZ f2 ps)) = ps.length := eQ;have UA : D ≠ fd := λ z => by rw [z, fz.1] at hD; cases hD
 have MS : H D = none := by rw [<- fz.2 D UA]; exact hD
 refine fO (n := ps.length) (λ i ys H' => Ext H2 H' /\ Paired (Nd H') ys (fB O (ps.take i))) (by rw [Ú]; omega) ⟨Ext.new hD, .nil⟩ (λ i ys H' hi p => ⟨p.1 _ _ fz.1, by rw [ln]; exact hi⟩) (λ ys H' p => ⟨p.1 _ _ fz.1, by rw [ln]; exact Ä _⟩) ?_ ?_
 ·rintro i x ys H' H3 hi ⟨p, kx, v, rfl, hp, pr, rfl⟩ ly Ę ⟨x', pv⟩ os ř N k;obtain ⟨z, b, ez, rfl, hb, rfl⟩ := lQ pr;have x1 := Ext.new (o := .tup [.ref b, .int (z.2 : Nat)]) hp;have MR := x1 _ _ Ę
  match os, ř with
  | [p0, p1, p2], _ =>
   refine ⟨p, _, rfl, ĕ.of aQ, rfl, _, _, rfl, b, _, rfl, ĕ.of (x1 _ _ hb), rfl, _, _, rfl, _, _, rfl, rfl, _, _, rfl, rfl, ⟨[_, _, _], rfl, rfl⟩, ?_⟩;refine ⟨_, rfl, _, rfl, rfl, _, rfl, λ e => ?_, λ e => ?_⟩
   ·have ne : ¬ z.1.1 = O := λ w => by
     rw [w, Î rfl] at e;cases e
    refine k ys _ ⟨x'.trans x1, ?_⟩ af MR;rw [aB ez, jB, Ë ne, ü];exact Paired.imp' (λ _ _ r => r.kp x1.Υ) pv
   ·have eq : z.1.1 = O := by
     have := ì e;injection this
    refine ⟨_, rfl, _, rfl, ft, λ t ht => ?_⟩;have x2 := Ext.new (o := .tup [.int z.1.2, .int (z.2 : Nat)]) ht;have Qk := x2 _ _ MR;refine ⟨Qk, k _ _ ⟨aT _ ((x'.trans x1).trans x2) hD, ?_⟩ (by rw [Ï, ĩ]; omega) aQ⟩
    rw [aB ez, jB, Õ eq];have kl : jW _ _ := fF (ys := ys ++ [.ref t]) Qk;exact be ⟨t, rfl, kl _ _ aQ⟩ (Paired.imp' (λ _ _ r => (r.kp (x1.trans x2).Υ).kp kl) pv)
 ·rintro ys H' ly Ę ⟨x', pv⟩;rw [ĉ] at pv;exact q D ys H' MS (λ b o e n => x' _ _ (k2 _ _ e n)) Ę pv
end
section
variable {P : Program} {w : World} {K : Frag} {mg : bu} {base : Heap}
def xZ (O : Int) (L : List (Int × Int)) (ps : List (Int × Nat)) : Prop := ρ ps /\ ∀ g, dS g ps = EE (fg O g) (L.map (iJ O L.length)) 0 0
def yj : Sp := λ vs H Q _ => ∃ (a : Addr) (O : Int) (L : List (Int × Int)), vs = [.ref a, .int O] /\ Ī H a L /\ bD L /\ L.length <= 20 /\ ∀ r H' ps, H r = none -> Ext H H' -> H' r = some (.dK (bZ Key.inl ps)) -> xZ O L ps -> Q (.ref r) H'
theorem kE {te : TE} {r : List V -> Hp -> VK -> Prop} {D : aY} {σ : St} {H : Hp} (h : te σ H λ x H1 => r [x] H1 D.rt) : bQ (eY r (ac te aC)) D σ H := h
theorem cj {X : Cx} {body : List Stmt} {t : TS} {D : aY} {σ : St} {H : Hp} (h : Bx (Ο X body t)) (r : Bx (t D σ H)) : ∃ t, Ο X body t /\ t D σ H := ⟨t, h.h, r.h⟩
theorem Ci {H : Hp} {a : Addr} {O : Int} {L : List (Int × Int)} {D : aY} (ls : Ī H a L) (bt : bD L) (Ň : L.length <= 20) (q : ∀ r H' ps, H r = none -> Ext H H' -> H' r = some (.dK (bZ Key.inl ps)) -> xZ O L ps -> D.rt (.ref r) H') : Hj K D [some (.ref a), some (.int O), none, none, none, none, none, none, none, none, none, none] H := by
 intro Lz OA;have x1 := Ext.new (o := .dT []) OA;refine ⟨ft, λ kt P_ => ?_⟩;have x2 := Ext.new (o := .tup [.int 0, .int 0]) P_;have Vr := x2 _ _ (aQ (H := H) (a := Lz) (o := .dT []));refine ⟨kt, f2 (0, 0), .int 1, rfl, aQ, Vr, ?_⟩;have x3 : Ext H (ak (ak (ak H Lz (.dT [])) kt (.tup [.int 0, .int 0])) Lz (.dT [(f2 (0, 0), .int 1)])) := aT _ (x1.trans x2) OA;have RQ : TD (ak (ak (ak H Lz (.dT [])) kt (.tup [.int 0, .int 0])) Lz (.dT [(f2 (0, 0), .int 1)])) Lz [((0, 0), 1)] := aQ;generalize ak (ak (ak H Lz (.dT [])) kt (.tup [.int 0, .int 0])) Lz (.dT [(f2 (0, 0), .int 1)]) = H3 at x3 RQ;have Ot : a ≠ Lz := λ z => by
  obtain ⟨xs, ha, _⟩ := ls;rw [z, OA] at ha;cases ha
 refine AU (K := K) (ls.ext x3) bt Ň RQ Ot x3 OA ls λ H4 XD ps o3 o4 o5 o6 o7 o8 o9 ŕ ĵ x4 Pj Vq ND l4 N7 => ?_;refine kE (Bo (K := K) Vq l4 λ D' ys H5 hD k5 h5 pv => ?_);have Rp := oC (O := O) ND;have Us : ((bZ Key.inl (fB O ps)).map (·.1)).Nodup := by
  rw [lO];have : (fB O ps).map (λ q => Key.inl q.1) = ((fB O ps).map (·.1)).map Key.inl := by rw [ó]; rfl
  rw [this];exact List.pairwise_map.mpr (List.Pairwise.imp (λ h z => h (c7 _ _ z)) Rp.nd)
 refine ⟨D', ys, bZ Key.inl (fB O ps), rfl, h5, zm pv, λ r hr => ?_⟩;rw [jy _ rfl Us];have x5 : Ext H H5 := λ b o e => k5 _ _ (x4 _ _ e) (λ z => by rw [z, Pj] at e; cases e)
 have x6 := x5.trans (Ext.new (o := .dK (bZ Key.inl (fB O ps))) hr);have JA : H r = none := by
  cases e : H r with
  | none => rfl
  | some o => rw [x5 _ _ e] at hr; cases hr
 refine q r _ (fB O ps) JA x6 aQ ⟨Rp, λ g => ?_⟩;rw [sG, <- N7 (fg O g)]
theorem DF {f : Addr} {fd : FuncData} (F : Ŏ K "_law_table" "_law_table" nY f fd) (ml : mg "len" = none) (md : mg "dict" = none) : az P w K mg base ar 1 f fd ["_law_listing_here", "_law_ones_here"] yj := by
 refine F.ok Mp (λ vs H Q E h => ?_) (λ ë A outer s H vs Q E hr h => ?_)
 ·obtain ⟨a, O, L, rfl, _⟩ := h;rfl
 obtain ⟨a, O, L, rfl, ls, bt, Ň, q⟩ := h;exact cj (yT ml md hr) ⟨Ci ls bt Ň q⟩
end
def DM (p : Int × Int) : TE := dE (ac (tC (.int p.1)) (ac (tC (.int p.2)) aC))
def AH : List (Int × Int) -> TA
 | [] => aC
 | p :: r => ac (DM p) (AH r)
theorem xJ {σ : St} : ∀ {ps : List (Int × Int)} {H : Hp} {Q : List V -> Hp -> Prop}, (∀ vs H', Ext H H' -> Paired (Jd H') vs ps -> Q vs H') -> AH ps σ H Q
 | [], H, Q, q => q [] H (Ext.refl _) .nil
 | p :: r, H, Q, q => by
  refine ⟨ft, λ t ht => ?_⟩;have x1 := Ext.new (o := .tup [.int p.1, .int p.2]) ht;exact xJ (ps := r) λ vs H' x' pr => q _ _ (x1.trans x') (.cons ⟨t, rfl, x' _ _ aQ⟩ pr)
theorem sH {σ : St} {ps : List (Int × Int)} {H : Hp} {Q : VK} (l : ps.length <= 100) (q : ∀ l vs H', H l = none -> Ext H H' -> H' l = some (.lst vs) -> Paired (Jd H') vs ps -> Q (.ref l) H') : bC (AH ps) σ H Q := by
 refine xJ λ vs H' x' pr => ⟨?_, λ l hl => ?_⟩
 ·have e : vs.length = ps.length := å pr;rw [e, Ú];omega
 ·have x2 := Ext.new (o := .lst vs) hl;have MK : H l = none := by
   cases e : H l with
   | none => rfl
   | some o => rw [x' _ _ e] at hl; cases hl
  exact q l vs _ MK (x'.trans x2) aQ (Paired.imp' (λ _ _ r => r.kp x2.Υ) pr)
def k5 : List (Int × Int) := [(1, 0), (0, 1), (1, 1), (0, 0), (1, 0)]
def k4 : List (Int × Int) := [(1, 0), (0, 1), (1, 1), (0, 0)]
theorem Kept.Υ {H H' : Hp} {p : Addr} (k : Kept H H' p) (b : Ĩ H p) : jW H H' := λ c xs e => k _ _ e (λ z => by
 obtain ⟨_, _, _, h, _⟩ := b.ex;rw [z, h] at e;cases e)
theorem Ĩ.up {H : Hp} {p l : Addr} {o : HO} (b : Ĩ H p) (n : l ≠ p) : Ĩ (ak H l o) p := by
 obtain ⟨x, y, z, hp, r⟩ := b;exact ⟨x, y, z, by rw [ag n.symm]; exact hp, r⟩
theorem Ĩ.some {H : Hp} {p : Addr} (b : Ĩ H p) : ∃ u, H p = some u := by
 obtain ⟨_, _, _, h, _⟩ := b.ex;exact ⟨_, h⟩
theorem Ī.kept {H H' : Hp} {a p : Addr} {L : List (Int × Int)} (h : Ī H a L) (k : Kept H H' p) (b : Ĩ H p) (n : a ≠ p) : Ī H' a L := by
 obtain ⟨xs, h1, h2⟩ := h;exact ⟨xs, k _ _ h1 n, Paired.imp' (λ _ _ r => r.kp (k.Υ b)) h2⟩
def vh (i : Nat) (te : TE) : TE := c5 cf [] E0 (ac (aq i) (ac te aC))
theorem bU {i : Nat} {te : TE} {m : Int} {Q : VK} {σ : St} {H : Hp} {p : Addr} (h0 : σ[i]? = some (some (.ref p))) (bx : Ĩ H p) (hm : ∀ R : VK, R (.int m) H -> te σ H R) (m0 : 0 < m) (m1 : m < 1073741824) (q : ∀ r H', 0 <= r -> r < m -> Ĩ H' p -> Kept H H' p -> Q (.int r) H') : vh i te σ H Q :=
 ⟨_, h0, hm _ ⟨p, m, rfl, bx, m0, m1, λ r H' a b c d _ => q r H' a b c d⟩⟩
theorem wT : bD k5 := by
 intro p hp;simp only [k5, List.mem_cons, List.not_mem_nil, or_false] at hp;rcases hp with rfl | rfl | rfl | rfl | rfl <;> simp
theorem de {X : Cx} {sc : Scope} {cl : List (Str × Addr)} {ts zs : List Str} {js : List Nat} {elt tg iter : Expr} {wi : TI} {g : TG} {te : TE} {pos : Pos} (hc : X.calm = true) (S : aW X sc cl ts zs js) (hi : Bx (PI X tg iter wi)) (hg : ∀ s H C fp, PG (ay X sc cl (ts ++ zs) s H C fp) tg g) (he : ∀ s H C fp, Bx (PE (ay X sc cl (ts ++ zs) s H C fp) elt te))
  (hs : ∀ v, foldedSetIterable iter X.env v = pure v := by intro _; rfl) : Bx (PE X (.ListComp elt [⟨tg, iter, [], 0⟩] sc pos) (fm wi ts.length js g te)) := ⟨kc hc S hi.h hg (λ s H C fp => (he s H C fp).h) hs⟩
section
variable {P : Program} {w : World} {K : Frag} {mg : bu} {base : Heap}
abbrev r6 : Stmt := cD 48
def rF : Sp := λ vs H Q _ => ∃ (p : Addr) (n : Nat), vs = [.ref p, .int (n : Nat)] /\ Ĩ H p /\ n <= 20 /\ ∀ l L H', H l = none -> Kept H H' p -> Ĩ H' p -> Ī H' l L -> bD L -> L.length = n -> Q (.ref l) H'
abbrev D4 : List Str := ["_law_box_here", "_law_folk"]
theorem Eu : ai D4 ["_law_box_here", "_law_folk"] (aa r6) := aS
abbrev xN : Scope := dh [("_law_k", .local), ("_law_take", .globalImplicit), ("_law_box_here", .free)]
theorem Ek : ((["_law_k"] : List Str) ++ (["_law_box_here"] : List Str)).Nodup := aJ
def wd (K : Frag) : TE := bc (gM K) (bC (AH k5)) (vh 1 (tC (.int 5)))
section
variable {f a1 : Addr} {d1 : FuncData} {ë : Value} {A : Around} {outer : List Env} {s : Shared} {H : Hp} {E : XK}
theorem ym : aW (ax ar P w K mg base D4 "_law_listing" (aa r6) f ë A outer s H E).Ķ xN [("_law_box_here", s.heap.objs.size + 1)] ["_law_k"] ["_law_box_here"] [0] :=
 bz (M := ["_law_box_here"]) (L := [(".0", .local), ("_law_k", .local), ("_law_take", .globalImplicit), ("_law_box_here", .cell)]) rfl rfl aJ aJ aJ rfl rfl rfl aJ aJ rfl rfl rfl
abbrev CZ : Expr := match (av r6).getD 0 s0 with
 | .Return (some (.ListComp e _ _ _)) _ => e
 | _ => .Name "" ⟨0, 0, 0, 0⟩
theorem FL (A1 : Df P w K mg base ar 1 "_law_take" ["_law_box_here", "_law_many"] cf a1 d1) (hr : mR 1 "_law_listing" r6 A s f ë) {s' : Shared} {H' : Hp} {C : Addr} {fp : List Addr} :
  Bx (PE (ay (ax ar P w K mg base D4 "_law_listing" (aa r6) f ë A outer s H E).Ķ xN [("_law_box_here", s.heap.objs.size + 1)] ((["_law_k"] : List Str) ++ (["_law_box_here"] : List Str)) s' H' C fp) CZ (wd K)) :=
 lY kX (dF (dX ⟨aO (ae aw (ae aw ap))⟩ (dX ⟨aO (ae aw (ae aw ap))⟩ (dX ⟨aO (ae aw (ae aw ap))⟩ (dX ⟨aO (ae aw (ae aw ap))⟩ (dX ⟨aO (ae aw (ae aw ap))⟩ cI)))))) ⟨bY A1 hr ao (ae (pv 1) (ae aw ap))⟩
theorem yP (A1 : Df P w K mg base ar 1 "_law_take" ["_law_box_here", "_law_many"] cf a1 d1) (mr : mg "range" = none) (hr : mR 1 "_law_listing" r6 A s f ë) :
  Bx (Ο (ax ar P w K mg base D4 "_law_listing" (aa r6) f ë A outer s H E).Ķ (av r6) (bQ (fm (l8 (ac (aq 1) aC)) 1 [0] (bf 0) (wd K)))) :=
 aP (cP (de (te := wd K) (g := bf 0) rfl ym ⟨cz rfl mr (ae (pv 1) ap)⟩ (λ s H C fp => by exact bM (i := 0) Ek rfl (.inl rfl)) (λ s H C fp => FL A1 hr)))
end
theorem yq {H : Hp} {p : Addr} {Q : VK} {o0 : Option V} (bx : Ĩ H p) (q : ∀ y z H', Ĩ H' p -> Kept H H' p -> (z ∈ k5) -> Jd H' y z -> Q y H') : wd K [o0, some (.ref p)] H Q := by
 refine cE (sH am λ l vs H1 hl x1 h1 pr => ?_);refine bU (i := 1) rfl (bx.ext x1) (λ R r => r) am am λ r H2 r0 r5 LA k2 => ?_;have lv : vs.length = 5 := å pr;have nl : l ≠ p := λ z => by
  obtain ⟨u, hu⟩ := bx.some;rw [z, hu] at hl;cases hl
 have hi : r.toNat < vs.length := af;obtain ⟨z, ez, pz⟩ := ģ pr (Ã hi);refine ⟨l, _, _, _, rfl, rfl, û.of (k2 _ _ h1 nl), tM r0 hi, ?_⟩;exact q _ z H2 LA ((x1.kept p).trans k2) (á ez) (pz.kp (k2.Υ (bx.ext x1)))
theorem Cq {f a1 : Addr} {fd d1 : FuncData} (F : Ŏ K "_law_listing" "_law_listing" r6 f fd) (A1 : Df P w K mg base ar 1 "_law_take" ["_law_box_here", "_law_many"] cf a1 d1) (mr : mg "range" = none) : az P w K mg base ar 2 f fd ["_law_box_here", "_law_folk"] rF := by
 refine F.ok Eu (λ vs H Q E h => ?_) (λ ë A outer s H vs Q E hr h => ?_)
 ·obtain ⟨p, n, rfl, _⟩ := h;rfl
 obtain ⟨p, n, rfl, bx, HV, q⟩ := h;refine cj (yP A1 mr hr) ⟨?_⟩;refine ⟨_, rfl, _, rfl, af, af, λ D hD => ?_⟩;have nD : D ≠ p := λ z => by
  obtain ⟨u, hu⟩ := bx.some;rw [z, hu] at hD;cases hD
 refine jw (n := ((n : Nat) : Int).toNat) (λ i ys H' => Kept H H' p /\ Ĩ H' p /\ ∃ L, Paired (Jd H') ys L /\ bD L /\ L.length = i) (by rw [Ú]; omega) ⟨(Ext.new hD).kept p, bx.ext (Ext.new hD), [], .nil, (λ _ h => nomatch h), rfl⟩ ?_ ?_
 ·rintro i ys H' hi ly Ę ⟨k, OK, L, pr, bt, lL⟩ os ř R kk
  match os, ř with
  | [o0], _ =>
   refine ⟨⟨[_], rfl, rfl⟩, ?_⟩;refine yq OK λ y z H4 JX k4 mz pz => ?_;have KU := k4 _ _ Ę nD;have kl : jW H4 (ak H4 D (.lst (ys ++ [y]))) := fF KU;refine kk y H4 KU ⟨wK (k.trans k4) hD, JX.up nD, L ++ [z], be (pz.kp kl) (Paired.imp' (λ _ _ r => (r.kp (k4.Υ OK)).kp kl) pr), λ w hw => ?_, by rw [Ï, lL]; rfl⟩
   rcases Ŗ.mp hw with hw | hw
   ·exact bt w hw
   ·cases ď.mp hw;exact wT z mz
 ·rintro ys H' ly Ę ⟨k, OK, L, pr, bt, lL⟩;exact q D L H' hD k OK ⟨ys, Ę, pr⟩ bt (by simpa using lL)
def pD (p : Int × Int) : PyData := .tuple [.int p.1, .int p.2]
theorem cy {a b : Int} : ∀ L : List (Int × Int), vf a b (L.map pD) = L.count (a, b)
 | [] => rfl
 | p :: L => by
  have ih := cy (a := a) (b := b) L;unfold vf at ih ⊢;rw [É, Jl, List.count_cons, ih]
  congr 1
theorem Paired.rws {H : Hp} : ∀ {xs : List V} {L : List (Int × Int)}, Paired (Jd H) xs L -> bD L -> ∃ as, D6 H xs (L.map pD) as
 | _, _, .nil, _ => ⟨[], rfl, rfl, (λ _ h => nomatch h), (λ _ h => nomatch h)⟩
 | _, _, .cons ⟨t, rfl, ht⟩ r, bt => by
  obtain ⟨as, w⟩ := Paired.rws r λ q hq => bt q (Ó _ hq)
  rename_i p _ _
  obtain ⟨b1, b2⟩ := bt p (Ù ..);refine ⟨(t, p.1, p.2) :: as, by rw [w.OQ]; rfl, by rw [É, w.Qs]; rfl, λ z hz => ?_, λ z hz => ?_⟩
  ·rcases Ñ.mp hz with rfl | hz
   ·exact ht
   ·exact w.at_ z hz
  ·rcases Ñ.mp hz with rfl | hz
   ·show (0 <= p.1 /\ p.1 <= 1) /\ (0 <= p.2 /\ p.2 <= 1);omega
   ·exact w.bit z hz
theorem Paired.Mr {H : Hp} : ∀ {xs : List V} {L : List (Int × Int)}, Paired (Jd H) xs L -> è H xs (L.map pD)
 | _, _, .nil => .nil
 | _, _, .cons ⟨t, rfl, ht⟩ r => .cons (.tup ht (.cons (.int _) (.cons (.int _) .nil))) (Paired.Mr r)
theorem Ī.Mr {H : Hp} {a : Addr} {L : List (Int × Int)} (h : Ī H a L) : İ H (.ref a) (.list (L.map pD)) := by
 obtain ⟨xs, h1, h2⟩ := h;exact .lst h1 (Paired.Mr h2)
theorem dY : ∀ {L : List (Int × Int)}, bD L -> (L.map pD).all bH = true
 | [], _ => rfl
 | p :: L, bt => by
  obtain ⟨b1, b2⟩ := bt p (Ù ..);rw [É, į, dY λ q hq => bt q (Ó _ hq), Bool.and_true];show (decide ((0 : Int) <= p.1) && decide (p.1 <= 1) && (decide ((0 : Int) <= p.2) && decide (p.2 <= 1))) = true;rw [Î (show (0 : Int) <= p.1 by omega), Î (show p.1 <= 1 by omega), Î (show (0 : Int) <= p.2 by omega), Î (show p.2 <= 1 by omega)]
  rfl
def sD (L : List (Int × Int)) : List V := [.int (L.count (1, 0) : Nat), .int (L.count (0, 1) : Nat), .int (L.count (1, 1) : Nat), .int (L.count (0, 0) : Nat)]
abbrev ve : Stmt := cD 50
def zh : Sp := λ vs H Q _ => ∃ (a : Addr) (L : List (Int × Int)), vs = [.ref a] /\ Ī H a L /\ bD L /\ ∀ l H', Ext H H' -> H l = none -> H' l = some (.tup (sD L)) -> Q (.ref l) H'
abbrev EU : List Str := ["_law_listing_here"]
theorem F7 : ai EU ["_law_listing_here"] (aa ve) := aS
abbrev Cz : Scope := dh [("_law_kind", .local), ("_law_listing_here", .free)]
theorem EM : ((["_law_kind"] : List Str) ++ (["_law_listing_here"] : List Str)).Nodup := aJ
def Di (K : Frag) : TE := D8 K "list" (fT K) (aq 1) (ac (aq 0) aC)
def rQ (K : Frag) : List V -> Hp -> VK -> Prop := λ xs H Q => ∃ p ys, xs = [.ref p] /\ ((û K H p ys /\ ∀ l, H l = none -> Q (.ref l) (ak H l (.tup ys))) \/ (ĕ K H p ys /\ Q (.ref p) H))
def E6 (K : Frag) : TE := fm (cU K (bC (AH k4))) 1 [0] (bf 0) (Di K)
section
variable {f : Addr} {ë : Value} {A : Around} {outer : List Env} {s : Shared} {H : Hp} {E : XK}
theorem yz : aW (ax ar P w K mg base EU "_law_counts" (aa ve) f ë A outer s H E).Ķ Cz [("_law_listing_here", s.heap.objs.size + 1)] ["_law_kind"] ["_law_listing_here"] [0] :=
 bz (M := ["_law_listing_here"]) (L := [(".0", .local), ("_law_kind", .local), ("_law_listing_here", .cell)]) rfl rfl aJ aJ aJ rfl rfl rfl aJ aJ rfl rfl rfl
abbrev yZ : Expr := match (av ve).getD 0 s0 with
 | .Return (some (.Call _ [.ListComp _ [c] _ _] _ _)) _ => c.iter
 | _ => .Name "" ⟨0, 0, 0, 0⟩
theorem Ez {X : Cx} : Bx (PE X yZ (bC (AH k4))) := dF (dX ⟨aO (ae aw (ae aw ap))⟩ (dX ⟨aO (ae aw (ae aw ap))⟩ (dX ⟨aO (ae aw (ae aw ap))⟩ (dX ⟨aO (ae aw (ae aw ap))⟩ cI))))
theorem zi (mt : mg "tuple" = none) (hr : mR 0 "_law_counts" ve A s f ë) :
  Bx (Ο (ax ar P w K mg base EU "_law_counts" (aa ve) f ë A outer s H E).Ķ (av ve) (bQ (eY (rQ K) (ac (E6 K) aC)))) := by
 have hu : (A.deeper (PyProof.Rows.envOfC "_law_counts" (aa ve) s.heap.objs.size f ë)).units + 1 < cLine := by have := hr.un; omega
 exact aP (cP (im fh rfl mt Ğ (de (te := Di K) (g := bf 0) rfl yz (ki Ez) (λ s H C fp => by exact bM (i := 0) EM rfl (.inl rfl)) (λ s H C fp => ⟨by exact fX ý ĳ Ĳ (cR hu) (pv 1) (ae (pv 0) ap)⟩))))
end
theorem AS {H : Hp} {a : Addr} {L : List (Int × Int)} {Q : VK} (ls : Ī H a L) (bt : bD L) (q : ∀ D H', H D = none -> Ext H H' -> H' D = some (.lst (sD L)) -> Q (.ref D) H') : E6 K [some (.ref a)] H Q := by
 unfold E6 fm cU;refine sH am λ l vs H1 hl x1 h1 pr => ⟨l, rfl, ⟨_, û.of h1⟩, λ D hD => ?_⟩;have lv : vs.length = 4 := å pr;have MS : H D = none := by
  cases e : H D with
  | none => rfl
  | some o => rw [x1 _ _ e] at hD; cases hD
 refine dq (n := 4) (λ i ys H' => Ext H1 H' /\ ys = (k4.take i).map λ z => V.int ((L.count z : Nat) : Int)) (by rw [Ú]; omega) ⟨Ext.new hD, rfl⟩ (λ i ys H' hi p => ⟨vs, vs[i], û.of (p.1 _ _ h1), Ã af⟩) (λ ys H' p => ⟨vs, û.of (p.1 _ _ h1), af⟩) ?_ ?_
 ·rintro i x ys H' H3 hi ⟨rfl, hy⟩ ly Ę ⟨x', rfl⟩ os ř R kk;have ex := hy vs (û.of (x' _ _ h1));obtain ⟨z, ez, t, rfl, ht⟩ := ģ pr ex;obtain ⟨xs, ha, px⟩ := ls.ext (x1.trans x');obtain ⟨as, Iu⟩ := Paired.rws px bt
  match os, ř with
  | [o0], _ =>
   refine ⟨⟨[_], rfl, rfl⟩, _, rfl, .inl ⟨rfl, _, û.of ha⟩, _, rfl, ?_⟩;refine l0 Iu (û.of ha) (ĕ.of (x' _ _ ht)) ?_;rw [cy];refine kk _ _ Ę ⟨aT _ x' hD, ?_⟩;rw [aB ez, Ø];rfl
 ·rintro ys H' ly Ę ⟨x', rfl⟩;exact q D H' MS (x1.trans x') Ę
theorem BI {f : Addr} {fd : FuncData} (F : Ŏ K "_law_counts" "_law_counts" ve f fd) (mt : mg "tuple" = none) : az P w K mg base ar 1 f fd ["_law_listing_here"] zh := by
 refine F.ok F7 (λ vs H Q E h => ?_) (λ ë A outer s H vs Q E hr h => ?_)
 ·obtain ⟨a, L, rfl, _⟩ := h;rfl
 obtain ⟨a, L, rfl, ls, bt, q⟩ := h;refine cj (zi mt hr) ⟨kE (AS ls bt λ D H1 hD x1 h1 => ⟨D, _, rfl, .inl ⟨û.of h1, λ l hl => ?_⟩⟩)⟩;have MK : H l = none := by
  cases e : H l with
  | none => rfl
  | some o => rw [x1 _ _ e] at hl; cases hl
 exact q l _ (x1.trans (Ext.new hl)) MK aQ
end
theorem dR (x i : Nat) : x / 2 / 2 ^ i = x / 2 ^ (i + 1) := by
 rw [Nat.div_div_eq_div_mul, ň, j']
def cm : List (Int × Int) -> Nat -> List Int
 | [], _ => []
 | p :: L, x => (if x % 2 = 1 then p.1 else p.2) :: cm L (x / 2)
theorem i8 : ∀ (L : List (Int × Int)) (x : Nat), (cm L x).length = L.length
 | [], _ => rfl
 | p :: L, x => by show (cm L (x / 2)).length + 1 = L.length + 1; rw [i8 L]
theorem rZ : ∀ {L : List (Int × Int)} {x i : Nat} {p : Int × Int}, L[i]? = some p -> (cm L x)[i]? = some (if x / 2 ^ i % 2 = 1 then p.1 else p.2)
 | q :: L, x, 0, p, h => by
  cases h;show some _ = _;rw [ś, C_]
 | q :: L, x, i + 1, p, h => by
  show (cm L (x / 2))[i]? = _;rw [rZ (L := L) (x := x / 2) h, dR]
def vV : Nat -> Nat -> List Int
 | 0, _ => []
 | n + 1, x => ((x % 2 : Nat) : Int) :: vV n (x / 2)
theorem oP : ∀ (n x : Nat), (vV n x).length = n
 | 0, _ => rfl
 | n + 1, x => by show (vV n (x / 2)).length + 1 = n + 1; rw [oP n]
theorem oJ : ∀ {n x i : Nat}, i < n -> (vV n x)[i]? = some ((x / 2 ^ i % 2 : Nat) : Int)
 | n + 1, x, 0, h => by
  show some _ = _;rw [ś, C_]
 | n + 1, x, i + 1, h => by
  show (vV n (x / 2))[i]? = _;rw [oJ af, dR]
theorem oW : ∀ (n x : Nat), (vV n x).sum = ((cC n x : Nat) : Int)
 | 0, _ => rfl
 | n + 1, x => by
  show (((x % 2 : Nat) : Int) :: vV n (x / 2)).sum = ((x % 2 + cC n (x / 2) : Nat) : Int);rw [ß, oW n];omega
theorem io : ∀ (n x : Nat), cC n x <= n
 | 0, _ => Ä _
 | n + 1, x => by
  show x % 2 + cC n (x / 2) <= n + 1;have := io n (x / 2);omega
def wl (c0 c1 : Int) : List Int -> Nat -> List Int
 | [], _ => []
 | y :: r, x => y * (if x % 2 = 1 then c1 else c0) :: wl c0 c1 r (x / 2)
theorem ug {c0 c1 : Int} : ∀ (r : List Int) (x : Nat), (wl c0 c1 r x).length = r.length
 | [], _ => rfl
 | y :: r, x => by show (wl c0 c1 r (x / 2)).length + 1 = r.length + 1; rw [ug r]
theorem uO {c0 c1 : Int} : ∀ {r : List Int} {x i : Nat} {y : Int}, r[i]? = some y -> (wl c0 c1 r x)[i]? = some (y * (if x / 2 ^ i % 2 = 1 then c1 else c0))
 | z :: r, x, 0, y, h => by
  cases h;show some _ = _;rw [ś, C_]
 | z :: r, x, i + 1, y, h => by
  show (wl c0 c1 r (x / 2))[i]? = _;rw [uO (r := r) (x := x / 2) h, dR]
theorem xM (O n : Int) : ∀ (L : List (Int × Int)) (x : Nat), (wl (0 - O) (n - O) (cm L x) x).sum = kI (L.map (iJ O n)) x
 | [], _ => rfl
 | p :: L, x => by
  show ((if x % 2 = 1 then p.1 else p.2) * (if x % 2 = 1 then n - O else 0 - O) :: wl (0 - O) (n - O) (cm L (x / 2)) (x / 2)).sum = (if x % 2 = 1 then (n - O) * p.1 else 0 - O * p.2) + kI (L.map (iJ O n)) (x / 2)
  rw [ß, xM O n L (x / 2)]
  congr 1
  split
  ·exact Γ _ _
  ·rw [IS, IS, Int.mul_neg, Γ]
def mU (n : Nat) (O : Int) : List Nat := (List.range (2 ^ n)).filter λ x => decide (((cC n x : Nat) : Int) = O)
theorem w4 {α : Type} (g : α -> Nat) : ∀ (xs : List α) (ys : List α), ((xs ++ ys).map g).sum = (xs.map g).sum + (ys.map g).sum
 | [], ys => by simp
 | x :: xs, ys => by simp [Nat.add_assoc]
theorem pi (g : Nat -> Nat) : ∀ n, Sm n g = ((List.range n).map g).sum
 | 0 => rfl
 | n + 1 => by
  rw [Ĺ, w4, <- pi g n];show Sm n g + g n = _;simp
theorem gk (p : Nat -> Bool) (g : Nat -> Nat) : ∀ xs : List Nat, ((xs.filter p).map g).sum = (xs.map λ x => if p x = true then g x else 0).sum
 | [] => rfl
 | x :: xs => by
  rw [Ĥ];by_cases h : p x = true
  ·rw [Õ h, É, É, ß, ß, gk p g xs, Õ h]
  ·rw [Ë h, É, ß, gk p g xs, Ë h, Α]
theorem ju (W : List (Int × Int)) (O : Int) (g : Int -> Nat) : (((mU W.length O).map (kI W)).map g).sum = EE (fg O g) W 0 0 := by
 rw [ó];unfold mU;rw [gk, <- pi, <- iB W 0 0];refine bj λ x _ => ?_;unfold fg;rw [Ş, Ş];by_cases h : ((cC W.length x : Nat) : Int) = O
 ·rw [Õ (Î h), Õ h];rfl
 ·rw [Ë (by simpa using h), if_neg h]
theorem EI (x i : Nat) : Builtin.bitAnd (((x : Nat) : Int) / 2 ^ ((i : Nat) : Int).toNat) 1 = ((x / 2 ^ i % 2 : Nat) : Int) := by
 rw [PyProof.Rows.bitAnd_m1, ċ];simp
abbrev F8 : R2 := rI (λ _ j => 0 <= j) λ i j => .int (i / 2 ^ j.toNat)
abbrev E8 : R2 := iA λ i j => .int (Builtin.bitAnd i j)
def nE (i j : Nat) : TE := bc E8 (bc F8 (aq i) (aq j)) (tC (.int 1))
theorem ib {σ : St} {H : Hp} {Q : VK} {i j x k : Nat} (h1 : σ[i]? = some (some (.int (x : Nat)))) (h2 : σ[j]? = some (some (.int (k : Nat)))) (q : Q (.int ((x / 2 ^ k % 2 : Nat) : Int)) H) : nE i j σ H Q := by
 refine ⟨_, h1, _, h2, _, _, rfl, rfl, af, _, _, rfl, rfl, ?_⟩;show Q (.int (Builtin.bitAnd (((x : Nat) : Int) / 2 ^ ((k : Nat) : Int).toNat) 1)) H;rw [EI];exact q
theorem HB {a b : V} {x i : Nat} : mT [a, b] (1 - ((x / 2 ^ i % 2 : Nat) : Int)) = some (if x / 2 ^ i % 2 = 1 then a else b) := by
 rcases (show x / 2 ^ i % 2 = 0 \/ x / 2 ^ i % 2 = 1 by omega) with h | h <;> rw [h] <;> rfl
theorem Q7 {a b : V} {x i : Nat} : mT [a, b] ((x / 2 ^ i % 2 : Nat) : Int) = some (if x / 2 ^ i % 2 = 1 then b else a) := by
 rcases (show x / 2 ^ i % 2 = 0 \/ x / 2 ^ i % 2 = 1 by omega) with h | h <;> rw [h] <;> rfl
section
variable {P : Program} {w : World} {K : Frag} {mg : bu} {base : Heap}
abbrev B4 : Stmt := cD 49
def mZ : Sp := λ vs H Q _ => ∃ (a : Addr) (x : Nat) (L : List (Int × Int)), vs = [.ref a, .int (x : Nat)] /\ Ī H a L /\ L.length <= 20 /\ ∀ l H', H l = none -> Ext H H' -> H' l = some (.lst ((cm L x).map V.int)) -> Q (.ref l) H'
abbrev GA : List Str := ["_law_listing_here", "_law_dealing"]
theorem Fy : ai GA ["_law_listing_here", "_law_dealing"] (aa B4) := aS
abbrev C8 : Scope := dh [("_law_k", .local), ("_law_row", .local), ("_law_dealing", .free)]
theorem Be : ((["_law_k", "_law_row"] : List Str) ++ (["_law_dealing"] : List Str)).Nodup := aJ
section
variable {f : Addr} {ë : Value} {A : Around} {outer : List Env} {s : Shared} {H : Hp} {E : XK}
theorem ze : aW (ax ar P w K mg base GA "_law_came" (aa B4) f ë A outer s H E).Ķ C8 [("_law_dealing", s.heap.objs.size + 1)] ["_law_k", "_law_row"] ["_law_dealing"] [1] :=
 bz (M := ["_law_dealing"]) (L := [(".0", .local), ("_law_k", .local), ("_law_row", .local), ("_law_dealing", .cell)]) rfl rfl aJ aJ aJ rfl rfl rfl aJ aJ rfl rfl rfl
end
def Cw (K : Frag) : TE := bc (xn K) (aq 1) (bc tD (tC (.int 1)) (nE 2 0))
theorem Bg {f : Addr} {fd : FuncData} (F : Ŏ K "_law_came" "_law_came" B4 f fd) (me : mg "enumerate" = none) : az P w K mg base ar 1 f fd ["_law_listing_here", "_law_dealing"] mZ := by
 refine F.ok Fy (λ vs H Q E h => ?_) (λ ë A outer s H vs Q E hr h => ?_)
 ·obtain ⟨a, x, L, rfl, _⟩ := h;rfl
 obtain ⟨a, x, L, rfl, ls, Ň, q⟩ := h;refine cj (t := bQ (fm (i4 K (ac (aq 0) aC)) 2 [1] (gW K 0 1) (Cw K))) (aP (cP (de (te := Cw K) (g := gW K 0 1) rfl ze ⟨dZ rfl me (ae (pv 0) ap)⟩ (λ s H C fp => by exact br rfl (dz (bM (i := 0) Be rfl (.inl rfl)) (dz (bM (i := 1) Be rfl (.inl rfl)) aU))) (λ s H C fp => ⟨by exact c6 gF (pv 1) (aj bF aw (aj ie (aj hI (pv 2) (pv 0)) aw))⟩)))) ⟨?_⟩
 obtain ⟨xs, ha, pr⟩ := ls;have lx : xs.length = L.length := å pr;refine ⟨_, rfl, a, rfl, ⟨_, û.of ha⟩, λ D hD => ?_⟩;refine dq (n := xs.length) (λ i ys H' => Ext H H' /\ ys = ((cm L x).take i).map V.int) (by rw [lx, Ú]; omega) ⟨Ext.new hD, rfl⟩ (λ i ys H' hi p => ⟨xs, xs[i], û.of (p.1 _ _ ha), Ã hi⟩) (λ ys H' p => ⟨xs, û.of (p.1 _ _ ha), Ä _⟩) ?_ ?_
 ·rintro i y ys H' H3 hi yl ly Ę ⟨x', rfl⟩ os ř R kk;obtain ⟨t, v, rfl, ht, rfl, hv⟩ := yl;have ev := hv xs (û.of (x' _ _ ha));obtain ⟨z, ez, u, rfl, hu⟩ := ģ pr ev;have x3 := Ext.new (o := .tup [.int (i : Nat), .ref u]) ht
  match os, ř with
  | [p0, p1], _ =>
   refine ⟨t, _, rfl, ĕ.of aQ, rfl, _, _, rfl, _, _, rfl, rfl, ⟨[_, _], rfl, rfl⟩, ?_⟩;refine ⟨_, rfl, ib (i := 2) (j := 0) rfl rfl ⟨_, _, rfl, rfl, u, _, _, _, rfl, rfl, ĕ.of (x3 _ _ (x' _ _ hu)), HB, ?_⟩⟩;refine kk _ _ (x3 _ _ Ę) ⟨aT _ (x'.trans x3) hD, ?_⟩;rw [aB (rZ (x := x) ez), Ø]
   congr 1
   show [_] = [V.int _];split <;> rfl
 ·rintro ys H' ly Ę ⟨x', rfl⟩;rw [lx, Ģ (by rw [i8]; exact Ä _)] at Ę
  exact q D H' hD x' Ę
abbrev C2 : Stmt := cD 51
def mS : Sp := λ vs H Q _ => ∃ (n x : Nat), vs = [.int (n : Nat), .int (x : Nat)] /\ n <= 20 /\ ∀ H', Ext H H' -> Q (.int (cC n x : Nat)) H'
abbrev Ha : List Str := ["_law_folk", "_law_dealing"]
theorem Fr : ai Ha ["_law_folk", "_law_dealing"] (aa C2) := aS
abbrev BO : Scope := dh [("_law_k", .local), ("_law_dealing", .free)]
theorem Fw : ((["_law_k"] : List Str) ++ (["_law_dealing"] : List Str)).Nodup := aJ
section
variable {f : Addr} {ë : Value} {A : Around} {outer : List Env} {s : Shared} {H : Hp} {E : XK}
theorem Ae : aW (ax ar P w K mg base Ha "_law_ones" (aa C2) f ë A outer s H E).Ķ BO [("_law_dealing", s.heap.objs.size + 1)] ["_law_k"] ["_law_dealing"] [1] :=
 bz (M := ["_law_dealing"]) (L := [(".0", .local), ("_law_k", .local), ("_law_dealing", .cell)]) rfl rfl aJ aJ aJ rfl rfl rfl aJ aJ rfl rfl rfl
end
theorem cY {X : Cx} {n : String} {r : List V -> Hp -> VK -> Prop} {x : Str} {e : Expr} {te : TE} {p pos : Pos} (hc : bv X (.builtin n) r) (hg : Gl X x) (hm : X.mg x = none) (hv : bootBuiltins x = some (.builtin n)) (ha : Bx (PE X e te)) (hn : x ≠ "__name__" := by decide) (x_ : (x == ("__debug__" : Str)) = false := by decide)
  (he : starEach [e] X.env = (false, eval e X.env) :: starEach [] X.env := by rfl) (g_ : (backTo pos (starEach [] X.env)).any (·.1) = false := by rfl) : Bx (PE X (.Call (.Name x p) [e] [] pos) (eY r (ac te aC))) := ⟨ah hc hg hm hv (ae ha.h ap (hs := he)) hn x_ he g_⟩
theorem Dm {f : Addr} {fd : FuncData} (F : Ŏ K "_law_ones" "_law_ones" C2 f fd) (mr : mg "range" = none) (ms : mg "sum" = none) : az P w K mg base ar 1 f fd ["_law_folk", "_law_dealing"] mS := by
 refine F.ok Fr (λ vs H Q E h => ?_) (λ ë A outer s H vs Q E hr h => ?_)
 ·obtain ⟨n, x, rfl, _⟩ := h;rfl
 obtain ⟨n, x, rfl, HV, q⟩ := h;refine cj (t := bQ (eY (fK K) (ac (fm (l8 (ac (aq 0) aC)) 1 [1] (bf 0) (nE 1 0)) aC))) (aP (cP (cY (bR rfl) rfl ms Ý (de (te := nE 1 0) (g := bf 0) rfl Ae ⟨cz rfl mr (ae (pv 0) ap)⟩ (λ s H C fp => by exact bM (i := 0) Fw rfl (.inl rfl)) (λ s H C fp => ⟨by exact aj ie (aj hI (pv 1) (pv 0)) aw⟩))))) ⟨kE ?_⟩
 refine ⟨_, rfl, _, rfl, af, af, λ D hD => ?_⟩;refine jw (n := ((n : Nat) : Int).toNat) (λ i ys H' => Ext H H' /\ ys = ((vV n x).take i).map V.int) (by rw [Ú]; omega) ⟨Ext.new hD, rfl⟩ ?_ ?_
 ·rintro i ys H' hi ly Ę ⟨x', rfl⟩ os ř R kk;have N0 : i < n := by simpa using hi
  match os, ř with
  | [p0], _ =>
   refine ⟨⟨[_], rfl, rfl⟩, ib (i := 1) (j := 0) (k := i) rfl ?_ ?_⟩
   ·show some (some (V.int (0 + (i : Int)))) = _;rw [Ş]
   ·refine kk _ _ Ę ⟨aT _ x' hD, ?_⟩;rw [aB (oJ (x := x) N0), Ø];rfl
 ·rintro ys H' ly Ę ⟨x', rfl⟩;rw [ċ, Ģ (by rw [oP]; exact Ä _)] at Ę
  refine ⟨D, vV n x, rfl, û.of Ę, ?_⟩;rw [oW];exact q H' x'
abbrev BU : Stmt := cD 52
def zT : Sp := λ vs H Q _ => ∃ (n : Nat) (O : Int), vs = [.int (n : Nat), .int O] /\ n <= 20 /\ ∀ l H', H l = none -> Ext H H' -> H' l = some (.lst ((mU n O).map λ x => V.int (x : Nat))) -> Q (.ref l) H'
abbrev Ht : List Str := ["_law_folk", "_law_ones_here"]
theorem Ev : ai Ht ["_law_folk", "_law_ones_here"] (aa BU) := aS
abbrev BH : Scope := dh [("_law_dealing", .local), ("_law_ones", .globalImplicit), ("_law_folk", .free), ("_law_ones_here", .free)]
theorem F0 : ((["_law_dealing"] : List Str) ++ (["_law_folk", "_law_ones_here"] : List Str)).Nodup := aJ
section
variable {f : Addr} {ë : Value} {A : Around} {outer : List Env} {s : Shared} {H : Hp} {E : XK}
theorem zN : aW (ax ar P w K mg base Ht "_law_dealings" (aa BU) f ë A outer s H E).Ķ BH [("_law_ones_here", s.heap.objs.size + 2), ("_law_folk", s.heap.objs.size + 1)] ["_law_dealing"] ["_law_folk", "_law_ones_here"] [0, 1] :=
 bz (M := ["_law_ones_here", "_law_folk"]) (L := [(".0", .local), ("_law_dealing", .local), ("_law_ones", .globalImplicit), ("_law_folk", .cell), ("_law_ones_here", .cell)]) rfl rfl aJ aJ aJ rfl rfl rfl aJ aJ rfl rfl rfl
end
theorem fR {X : Cx} {sc : Scope} {cl : List (Str × Addr)} {ts zs : List Str} {js : List Nat} {elt tg iter c : Expr} {wi : TI} {g : TG} {te : TE} {tt : TT} {pos : Pos} (hc : X.calm = true) (S : aW X sc cl ts zs js) (hi : Bx (PI X tg iter wi)) (hg : ∀ s H C fp, PG (ay X sc cl (ts ++ zs) s H C fp) tg g) (ht : ∀ s H C fp, Bx (PT (ay X sc cl (ts ++ zs) s H C fp) c tt)) (he : ∀ s H C fp, Bx (PE (ay X sc cl (ts ++ zs) s H C fp) elt te))
  (hs : ∀ v, foldedSetIterable iter X.env v = pure v := by intro _; rfl) : Bx (PE X (.ListComp elt [⟨tg, iter, [c], 0⟩] sc pos) (fo wi ts.length js g tt te)) := ⟨eJ hc S hi.h hg (λ s H C fp => (ht s H C fp).h) (λ s H C fp => (he s H C fp).h) hs⟩
def Ct : TT := tB (bc B6 (c5 mS [] E0 (ac (aq 1) (ac (aq 0) aC))) (aq 2))
theorem BL {f a1 : Addr} {fd d1 : FuncData} (F : Ŏ K "_law_dealings" "_law_dealings" BU f fd) (A1 : Df P w K mg base ar 1 "_law_ones" ["_law_folk", "_law_dealing"] mS a1 d1) (mr : mg "range" = none) : az P w K mg base ar 2 f fd ["_law_folk", "_law_ones_here"] zT := by
 refine F.ok Ev (λ vs H Q E h => ?_) (λ ë A outer s H vs Q E hr h => ?_)
 ·obtain ⟨n, O, rfl, _⟩ := h;rfl
 obtain ⟨n, O, rfl, HV, q⟩ := h;refine cj (t := bQ (fo (l8 (ac (bc (rI nR λ i j => .int (i * 2 ^ j.toNat)) (tC (.int 1)) (aq 0)) aC)) 1 [0, 1] (bf 0) Ct (aq 0))) (aP (cP (fR (te := aq 0) (tt := Ct) (g := bf 0) rfl zN ⟨cz rfl mr (ae (aj iU aw (pv 0)) ap)⟩ (λ s H C fp => by exact bM (i := 0) F0 rfl (.inl rfl)) (λ s H C fp => ⟨by exact aF oG (bY A1 hr ao (ae (pv 1) (ae (pv 0) ap))) (pv 2) (aI _)⟩) (λ s H C fp => ⟨by exact pv 0⟩)))) ⟨?_⟩
 obtain ⟨m, hm⟩ : ∃ m, m = 2 ^ n := ⟨_, rfl⟩;have Xu : m <= 1048576 := by rw [hm]; exact Ò (æ am HV) am
 have ee : (1 : Int) * 2 ^ ((n : Nat) : Int).toNat = ((m : Nat) : Int) := by
  rw [Int.one_mul, ċ, hm];simp
 refine ⟨_, rfl, _, _, rfl, rfl, ⟨af, af, am⟩, _, rfl, ?_, ?_, λ D hD => ?_⟩
 ·show -(2 ^ 62) <= (1 : Int) * 2 ^ ((n : Nat) : Int).toNat;rw [ee];omega
 ·show (1 : Int) * 2 ^ ((n : Nat) : Int).toNat < 2 ^ 62;rw [ee];omega
 ·have et : ((1 : Int) * 2 ^ ((n : Nat) : Int).toNat).toNat = m := by rw [ee, ċ]
  refine fO (n := m) (λ i ys H' => Ext H H' /\ ys = ((List.range i).filter λ x => decide (((cC n x : Nat) : Int) = O)).map λ x => V.int (x : Nat)) (by rw [Ú]; omega) ⟨Ext.new hD, rfl⟩ (λ i ys H' hi p => by show i < _; rw [et]; exact hi) (λ ys H' p => by show _ <= _; rw [et]; exact Ä _) ?_ ?_
  ·rintro i y ys H' H3 hi ⟨rfl, rfl⟩ ly Ę ⟨x', rfl⟩ os ř N kk
   match os, ř with
   | [p0], _ =>
    refine ⟨⟨[_], rfl, rfl⟩, ?_⟩;refine ⟨_, rfl, _, rfl, n, i, ?_, HV, λ H4 x4 => ⟨_, rfl, rfl, _, rfl, λ e => ?_, λ e => ?_⟩⟩
    ·show [V.int (n : Nat), V.int (0 + (i : Int))] = _;rw [Ş]
    ·refine kk _ _ ⟨x'.trans x4, ?_⟩ af (x4 _ _ Ę);have ne : ¬ ((cC n i : Nat) : Int) = O := λ z => by rw [z, Î rfl] at e; cases e
     rw [Ĺ, Ĝ];simp [ne]
    ·have eq : ((cC n i : Nat) : Int) = O := by
      have := ì e;injection this
     refine ⟨_, rfl, x4 _ _ Ę, kk _ _ ⟨aT _ (x'.trans x4) hD, ?_⟩ (by rw [Ï, ĩ]; omega) aQ⟩
     rw [Ĺ, Ĝ, Ø];simp [eq]
  ·rintro ys H' ly Ę ⟨x', rfl⟩;rw [hm] at Ę;exact q D H' hD x' Ę
end
def AJ (ns : List Int) (x : Nat) : Int := (wl (0 - ((cC ns.length x : Nat) : Int)) (((ns.length : Nat) : Int) - ((cC ns.length x : Nat) : Int)) ns x).sum
section
variable {P : Program} {w : World} {K : Frag} {mg : bu} {base : Heap}
abbrev vg : Stmt := cD 53
def mY : Sp := λ vs H Q _ => ∃ (r : Addr) (x : Nat) (ns : List Int), vs = [.ref r, .int (x : Nat)] /\ H r = some (.lst (ns.map V.int)) /\ ns.length <= 20 /\ ∀ H', Ext H H' -> Q (.int (AJ ns x)) H'
abbrev DO : List Str := ["_law_row", "_law_dealing", "_law_ones_here"]
theorem Nk : ai DO ["_law_row", "_law_dealing"] (aa vg) := aS
abbrev xC : Scope := dh [("_law_k", .local), ("_law_yes", .local), ("len", .globalImplicit), ("_law_dealing", .free), ("_law_ones_here", .free), ("_law_row", .free)]
theorem Bf : ((["_law_k", "_law_yes"] : List Str) ++ (["_law_dealing", "_law_ones_here", "_law_row"] : List Str)).Nodup := aJ
def wW (K : Frag) : TE := bc gL (aq 1) (bc (gM K) (bC (ac (bc tD (tC (.int 0)) (aq 3)) (ac (bc tD (eY (kZ K) (ac (aq 4) aC)) (aq 3)) aC))) (nE 2 0))
section
variable {f a1 : Addr} {d1 : FuncData} {ë : Value} {A : Around} {outer : List Env} {s : Shared} {H : Hp} {E : XK}
theorem Ap : aW (ax ar P w K mg base DO "_law_worth" (aa vg) f ë A outer s H E).Ķ xC [("_law_row", s.heap.objs.size + 1), ("_law_ones_here", s.heap.objs.size + 3), ("_law_dealing", s.heap.objs.size + 2)] ["_law_k", "_law_yes"] ["_law_dealing", "_law_ones_here", "_law_row"] [1, 2, 0] :=
 bz (M := ["_law_row", "_law_ones_here", "_law_dealing"]) (L := [(".0", .local), ("_law_k", .local), ("_law_yes", .local), ("len", .globalImplicit), ("_law_dealing", .cell), ("_law_ones_here", .cell), ("_law_row", .cell)]) rfl rfl aJ aJ aJ rfl rfl rfl aJ aJ rfl rfl rfl
abbrev Du : Expr := match (av vg).getD 1 s0 with
 | .Return (some (.Call _ [.ListComp e _ _ _] _ _)) _ => e
 | _ => .Name "" ⟨0, 0, 0, 0⟩
theorem Fa (ml : mg "len" = none) {s' : Shared} {H' : Hp} {C : Addr} {fp : List Addr} :
  Bx (PE (ay (ax ar P w K mg base DO "_law_worth" (aa vg) f ë A outer s H E).Ķ xC [("_law_row", s.heap.objs.size + 1), ("_law_ones_here", s.heap.objs.size + 3), ("_law_dealing", s.heap.objs.size + 2)] ((["_law_k", "_law_yes"] : List Str) ++ (["_law_dealing", "_law_ones_here", "_law_row"] : List Str)) s' H' C fp) Du (wW K)) :=
 xX aR ⟨pv 1⟩ (lY kX (dF (dX ⟨aj bF aw (pv 3)⟩ (dX ⟨aj bF (ah au rfl ml í (ae (pv 4) ap)) (pv 3)⟩ cI))) ⟨aj ie (aj hI (pv 2) (pv 0)) aw⟩)
theorem yF (A1 : Df P w K mg base ar 1 "_law_ones" ["_law_folk", "_law_dealing"] mS a1 d1) (ml : mg "len" = none) (me : mg "enumerate" = none) (ms : mg "sum" = none) (hr : mR 1 "_law_worth" vg A s f ë) :
  Bx (Ο (ax ar P w K mg base DO "_law_worth" (aa vg) f ë A outer s H E).Ķ (av vg) (bL (cQ (c5 mS [] E0 (ac (eY (kZ K) (ac (aq 0) aC)) (ac (aq 1) aC))) (bf 2)) (bQ (eY (fK K) (ac (fm (i4 K (ac (aq 0) aC)) 2 [1, 2, 0] (gW K 0 1) (wW K)) aC))))) :=
 dv ⟨cM (i := 2) Nk.nd rfl (Or.inr rfl) (bY A1 hr ao (ae (ah au rfl ml í (ae (pv 0) ap)) (ae (pv 1) ap)))⟩
  (aP (cP (cY (bR rfl) rfl ms Ý (de (te := wW K) (g := gW K 0 1) rfl Ap ⟨dZ rfl me (ae (pv 0) ap)⟩ (λ s H C fp => by exact br rfl (dz (bM (i := 0) Bf rfl (.inl rfl)) (dz (bM (i := 1) Bf rfl (.inl rfl)) aU))) (λ s H C fp => Fa ml)))))
end
theorem Aw {H : Hp} {Q : VK} {r : Addr} {ns : List Int} {x k o : Nat} {y : Int} (hr : H r = some (.lst (ns.map V.int))) (Ň : ns.length <= 20) (Xv : o <= 20) (q : ∀ H', Ext H H' -> Q (.int (y * (if x / 2 ^ k % 2 = 1 then ((ns.length : Nat) : Int) - (o : Nat) else 0 - (o : Nat)))) H') : wW K [some (.int (k : Nat)), some (.int y), some (.int (x : Nat)), some (.int (o : Nat)), some (.ref r)] H Q := by
 refine ⟨_, rfl, _, rfl, _, _, rfl, rfl, _, rfl, r, _, rfl, .inl (û.of hr), _, rfl, _, _, rfl, rfl, ft, λ l hl => ?_⟩;refine ib (i := 2) (j := 0) rfl rfl ⟨l, _, _, _, rfl, rfl, û.of aQ, Q7, ?_⟩;rw [Å];have e : (if x / 2 ^ k % 2 = 1 then V.int (((ns.length : Nat) : Int) - (o : Nat)) else V.int (0 - (o : Nat))) = V.int (if x / 2 ^ k % 2 = 1 then ((ns.length : Nat) : Int) - (o : Nat) else 0 - (o : Nat)) := by split <;> rfl
 show gL (.int y) (if x / 2 ^ k % 2 = 1 then V.int (((ns.length : Nat) : Int) - (o : Nat)) else V.int (0 - (o : Nat))) _ Q
 rw [e];refine ⟨_, _, rfl, rfl, .inr ?_, q _ (Ext.new hl)⟩;split
 ·exact ⟨af, af⟩
 ·exact ⟨af, af⟩
theorem BN {f a1 : Addr} {fd d1 : FuncData} (F : Ŏ K "_law_worth" "_law_worth" vg f fd) (A1 : Df P w K mg base ar 1 "_law_ones" ["_law_folk", "_law_dealing"] mS a1 d1) (ml : mg "len" = none) (me : mg "enumerate" = none) (ms : mg "sum" = none) : az P w K mg base ar 2 f fd ["_law_row", "_law_dealing"] mY := by
 refine F.ok Nk (λ vs H Q E h => ?_) (λ ë A outer s H vs Q E hr h => ?_)
 ·obtain ⟨r, x, ns, rfl, _⟩ := h;rfl
 obtain ⟨r, x, ns, rfl, JA, Ň, q⟩ := h;refine cj (yF A1 ml me ms hr) ⟨?_⟩;refine ⟨_, rfl, r, _, rfl, .inl (û.of JA), _, rfl, ns.length, x, ?_, Ň, λ H1 x1 => ?_⟩
 ·rw [Å];rfl
 have Δ := x1 _ _ JA;refine ⟨_, rfl, r, rfl, ⟨_, û.of Δ⟩, λ D hD => ?_⟩;have pl := io ns.length x;refine dq (n := ns.length) (λ i ys H' => Ext H1 H' /\ ys = ((wl (0 - ((cC ns.length x : Nat) : Int)) (((ns.length : Nat) : Int) - ((cC ns.length x : Nat) : Int)) ns x).take i).map V.int) (by rw [Ú]; omega) ⟨Ext.new hD, rfl⟩ (λ i ys H' hi p => ⟨ns.map V.int, .int ns[i], û.of (p.1 _ _ Δ), by rw [Ê, Ã hi]; rfl⟩) (λ ys H' p => ⟨ns.map V.int, û.of (p.1 _ _ Δ), by rw [Å]; exact Ä _⟩) ?_ ?_
 ·rintro i y ys H' H3 hi yl ly Ę ⟨x', rfl⟩ os ř R kk;obtain ⟨t, v, rfl, ht, rfl, hv⟩ := yl;have ev := hv _ (û.of (x' _ _ Δ));rw [Ê, Ã hi] at ev;have ev : V.int ns[i] = v := Ð ev;subst ev;have en : ns[i]? = some ns[i] := Ã hi;generalize ns[i] = n at en;have x3 := Ext.new (o := .tup [.int (i : Nat), .int n]) ht
  match os, ř with
  | [p0, p1], _ =>
   refine ⟨t, _, rfl, ĕ.of aQ, rfl, _, _, rfl, _, _, rfl, rfl, ⟨[_, _], rfl, rfl⟩, ?_⟩;refine Aw (x3 _ _ (x' _ _ Δ)) Ň af λ H4 x4 => ?_;refine kk _ _ (x4 _ _ (x3 _ _ Ę)) ⟨aT _ ((x'.trans x3).trans x4) hD, ?_⟩;rw [aB (uO (x := x) en), Ø];rfl
 ·rintro ys H' ly Ę ⟨x', rfl⟩;rw [Ģ (by rw [ug]; exact Ä _)] at Ę
  exact ⟨D, _, rfl, û.of Ę, q H' (x1.trans x')⟩
abbrev BY : Stmt := cD 54
def CF : Sp := λ vs H Q _ => ∃ (a dl : Addr) (L : List (Int × Int)) (xs : List Nat), vs = [.ref a, .ref dl] /\ Ī H a L /\ L.length <= 20 /\ H dl = some (.lst (xs.map λ x => V.int (x : Nat))) /\ xs.length < 16000000 /\ ∀ l H', H l = none -> Ext H H' -> H' l = some (.lst ((xs.map λ x => AJ (cm L x) x).map V.int)) -> Q (.ref l) H'
abbrev Gi : List Str := ["_law_listing_here", "_law_dealings_here"]
theorem FA : ai Gi ["_law_listing_here", "_law_dealings_here"] (aa BY) := aS
abbrev B9 : Scope := dh [("_law_dealing", .local), ("_law_worth", .globalImplicit), ("_law_came", .globalImplicit), ("_law_listing_here", .free)]
theorem Fl : ((["_law_dealing"] : List Str) ++ (["_law_listing_here"] : List Str)).Nodup := aJ
section
variable {f : Addr} {ë : Value} {A : Around} {outer : List Env} {s : Shared} {H : Hp} {E : XK}
theorem zP : aW (ax ar P w K mg base Gi "_law_values" (aa BY) f ë A outer s H E).Ķ B9 [("_law_listing_here", s.heap.objs.size + 1)] ["_law_dealing"] ["_law_listing_here"] [0] :=
 bz (M := ["_law_listing_here"]) (L := [(".0", .local), ("_law_dealing", .local), ("_law_worth", .globalImplicit), ("_law_came", .globalImplicit), ("_law_listing_here", .cell)]) rfl rfl aJ aJ aJ rfl rfl rfl aJ aJ rfl rfl rfl
end
def Bm : TE := c5 mY [] E0 (ac (c5 mZ [] E0 (ac (aq 1) (ac (aq 0) aC))) (ac (aq 0) aC))
theorem Dd {f a1 a2 : Addr} {fd d1 d2 : FuncData} (F : Ŏ K "_law_values" "_law_values" BY f fd) (A1 : Df P w K mg base ar 1 "_law_came" ["_law_listing_here", "_law_dealing"] mZ a1 d1) (A2 : Df P w K mg base ar 2 "_law_worth" ["_law_row", "_law_dealing"] mY a2 d2) : az P w K mg base ar 3 f fd ["_law_listing_here", "_law_dealings_here"] CF := by
 refine F.ok FA (λ vs H Q E h => ?_) (λ ë A outer s H vs Q E hr h => ?_)
 ·obtain ⟨a, dl, L, xs, rfl, _⟩ := h;rfl
 obtain ⟨a, dl, L, xs, rfl, ls, Ň, hd, sm, q⟩ := h;have Δ : ė 1 _ := hr.mono am;refine cj (t := bQ (fm (cU K (aq 1)) 1 [0] (bf 0) Bm)) (aP (cP (de (te := Bm) (g := bf 0) rfl zP ⟨bT (pv 1)⟩ (λ s H C fp => by exact bM (i := 0) Fl rfl (.inl rfl)) (λ s H C fp => ⟨by exact bY A2 hr ao (ae (bY A1 Δ ao (ae (pv 1) (ae (pv 0) ap))) (ae (pv 0) ap))⟩)))) ⟨?_⟩
 refine ⟨_, rfl, dl, rfl, ⟨_, û.of hd⟩, λ D hD => ?_⟩;refine dq (n := xs.length) (λ i ys H' => Ext H H' /\ ys = ((xs.take i).map λ x => AJ (cm L x) x).map V.int) (by rw [Ú]; omega) ⟨Ext.new hD, rfl⟩ (λ i ys H' hi p => ⟨_, _, û.of (p.1 _ _ hd), by rw [Ê, Ã hi]; rfl⟩) (λ ys H' p => ⟨_, û.of (p.1 _ _ hd), by rw [Å]; exact Ä _⟩) ?_ ?_
 ·rintro i y ys H' H3 hi ⟨rfl, hy⟩ ly Ę ⟨x', rfl⟩ os ř R kk;have ey := hy _ (û.of (x' _ _ hd));rw [Ê, Ã hi] at ey;have ey : V.int ((xs[i] : Nat) : Int) = y := Ð ey;subst ey;have en : xs[i]? = some xs[i] := Ã hi;generalize xs[i] = x at en
  match os, ř with
  | [p0], _ =>
   refine ⟨⟨[_], rfl, rfl⟩, ?_⟩;refine ⟨_, rfl, _, rfl, a, x, L, rfl, ls.ext x', Ň, λ l H4 hl x4 h4 => ⟨_, rfl, l, x, cm L x, rfl, h4, by rw [i8]; exact Ň, λ H5 x5 => ?_⟩⟩
   refine kk _ _ (x5 _ _ (x4 _ _ Ę)) ⟨aT _ ((x'.trans x4).trans x5) hD, ?_⟩;rw [aB en, Ø, Ø];rfl
 ·rintro ys H' ly Ę ⟨x', rfl⟩;rw [ĉ] at Ę;exact q D H' hD x' Ę
end
end My
namespace My
open PySem PySem.W PySem.Spec PyProof.Rows L2
theorem gK {xs : List V} {us : List Value} (h : Vals xs us) : ∀ {zs : List Value}, (∀ z ∈ zs, z ∈ us) -> ∃ ys : List V, Vals ys zs /\ ∀ y ∈ ys, y ∈ xs
 | [], _ => ⟨[], .nil, λ _ h => nomatch h⟩
 | z :: zs, hz => by
  obtain ⟨ys, r, m⟩ := gK h (zs := zs) λ u hu => hz u (Ó _ hu);obtain ⟨i, hi, e⟩ := Ż (hz z (Ù ..));have l := h.length;have hx : xs[i]? = some (xs[i]'af) := Ã af;obtain ⟨u, hu, ru⟩ := h.get hx;rw [Ã hi, e] at hu;cases hu;refine ⟨xs[i]'af :: ys, .cons ru r, λ y hy => ?_⟩;rcases Ñ.mp hy with rfl | hy
  ·exact ω _
  ·exact m y hy
def CK (K : Frag) (te tl tk : TE) : TE := λ σ H Q => te σ H λ x H1 => tl σ H1 λ y H2 => tk σ H2 λ z H3 => ∃ (a : Addr) (xs : List V) (i k : Int), x = .ref a /\ y = .int i /\ z = .int k /\ k ≠ 0 /\ û K H3 a xs /\ ∀ ys : List V, (∀ v ∈ ys, v ∈ xs) -> ys.length <= xs.length -> ∀ p, H3 p = none -> Q (.ref p) (ak H3 p (.lst ys))
theorem zQ {X : Cx} {e l k : Expr} {te tl tk : TE} {p2 pos : Pos} (he : PE X e te) (hl : PE X l tl) (hk : PE X k tk) : PE X (.Subscript e (.Slice (some l) none (some k) p2) pos) (CK X.K te tl tk) := by
 intro pins s σ H Q I h;refine Subscript_ (aA (he pins s σ H _ I h) λ v s1 ⟨x, H1, I1, r1, q1⟩ => ?_);refine wpAny_Slice ?_;rw [evalPart_some];refine aA (hl pins s1 σ H1 _ I1 q1) λ vl s2 ⟨y, H2, I2, rl, q2⟩ => ?_;rw [evalPart_none];refine Â ?_;rw [evalPart_some];refine aA (hk pins s2 σ H2 _ I2 q2) λ vk s3 ⟨z, H3, I3, rk, q3⟩ => ?_;obtain ⟨a, xs, i, kk, rfl, rfl, rfl, k0, hx, q⟩ := q3;obtain ⟨t, rfl⟩ := rk;obtain ⟨t', rfl⟩ := rl;cases (show v = Value.ref a from r1);have I4 : Inv X pins σ H3 { s3 with heap := s3.heap.push { cls := .type "slice", data := .fields #[.int i t', .none, .int kk t] } } := I3.kept (t' := s3.toks) λ b ob q => Á _ q
 obtain ⟨its, r, ht, hz⟩ := I4.list hx;have ŋ := r.length;show wpAny (model X.prog X.w) X.A (subscriptTail e (.Slice (some l) none (some k) p2) (.ref a) (.ref s3.heap.objs.size)) (EP X pins σ Q) X.xe { s3 with heap := s3.heap.push { cls := .type "slice", data := .fields #[.int i t', .none, .int kk t] } }
 refine tail_any (ops := [.ref a, .ref s3.heap.objs.size]) ht.isList.typeIs PySem.F.slot_list_getitem.lookup ?_ (by with_unfolding_all rfl)
 refine wpAny_getItem_list_slice ht.isList (Heap.IsSliceOf.new ..) (.int i t') .none (.int kk t) (λ e => k0 (Ð e)) ?_ (by rw [Ô] <;> omega)
 have sz := slicePick_size_le its.toArray (some i) none (some kk);obtain ⟨ys, ry, my⟩ := gK r (zs := (slicePick its.toArray (some i) none (some kk)).toList) λ u hu => by
  unfold slicePick at hu;rw [List.toList_toArray] at hu;obtain ⟨j, _, hj⟩ := IE.mp hu;have : its[j]? = some u := by simpa using hj
  exact á this
 have ly : ys.length <= xs.length := by
  have h1 : ys.length = (slicePick its.toArray (some i) none (some kk)).toList.length := ry.length;have h2 : (slicePick its.toArray (some i) none (some kk)).toList.length = (slicePick its.toArray (some i) none (some kk)).size := Iq ..;have e : its.toArray.size = its.length := by simp
  rw [e] at sz;omega
 refine ⟨.ref _, _, I4.laid (t' := s3.toks) (o := .lst ys) (λ b ob q => Á _ q) (Ä _) ?_, rfl, q ys my ly _ (I4.Ą.fresh (Ä _))⟩;exact ⟨Ò ly hz, _, 0, ry, by rw [Array.toArray_toList]; exact Ç _ rfl⟩
def t9 (te : TE) : TE := λ σ H Q => te σ H λ x H1 => ∃ (d : Addr) (kvs : List (Key × V)), x = .ref d /\ Rd H1 d (.dK kvs) /\ ∀ p, H1 p = none -> Q (.ref p) (ak H1 p (xv p d))
theorem kR {X : Cx} {o : Expr} {te : TE} {ų š : Pos} (ho : PE X o te) (HZ : attributeBase o "values" X.env (eval o X.env) = eval o X.env := by rfl) (HY : (ų.endLine == š.line) = true := by rfl) : PE X (.Call (.Attribute o "values" ų) [] [] š) (t9 te) := by
 intro pins s σ H Q I h;refine B' HZ HY (aA (ho pins s σ H _ I h) λ v s1 ⟨x, H1, I1, r1, q1⟩ => ?_);obtain ⟨d, kvs, rfl, rd, q⟩ := q1;cases (show v = Value.ref d from r1);obtain ⟨t1, t2, _⟩ := tH I1 (.inl ⟨kvs, rd⟩);exact ⟨"dict", _, ŗ, ι, K2, t1, t2, ŀ rfl (Ii (jO pins s1 σ H1 (.ref d) [] (.ref d) [] Q I1 rfl .nil ⟨d, kvs, rfl, rfl, rd, q⟩))⟩
end My
namespace My
open PySem PySem.W L2
section
variable {prog : Program} {w : World} {A : Around} {E : bo} {s : Shared}
theorem gR {it t : Addr} {i : Nat} {items} {x : Value} {Q : bo} (hit : s.heap.IsTupleIter it t i) (ht : s.heap.IsTuple t items) (hx : items[i]? = some x)
  (hQ : ∀ h', h'.IsTupleIter it t (i + 1) -> Heap.SameBut it s.heap h' -> Q x { s with heap := h' }) : wpAny (model prog w) A (Builtin.SmallTypes.nextOf (.ref it)) Q E s := by
 obtain ⟨⟨o, ho, hc, hd⟩, ⟨ol, PZ, _, nl, MN⟩⟩ := And.intro (id hit) ht;unfold Builtin.SmallTypes.nextOf;refine À (Ĉ (name := Str.ofString "__next__") hit.typeIs Ŕ (ô Ŕ hit.typeIs F.entry_tuple_iterator_next ?_ (Mf _)));show wpAny _ _ (field (.ref it) 0 >>= _) _ _ s; refine À (þ ho hd (x := .ref t) rfl ?_);show wpAny _ _ (if (Value.ref t == Value.none) = true then _ else _) _ _ s; rw [Ë (show ¬ ((Value.ref t == Value.none) = true) from Ì)]
 show wpAny _ _ (field (.ref it) 1 >>= _) _ _ s; refine À (þ ho hd (x := .int i 0) rfl ?_);show wpAny _ _ (seqItems? (.ref t) >>= _) _ _ s; refine À (ĸ PZ MN ?_);simp only [Int.toNat_natCast, hx];refine À (Ő ho hd (by simp) (wpAny_pure ⟨x, rfl, wpAny_pure (hQ _ ⟨_, Heap.get?_update_self _ ho (Obj.isFreed_of_fields (Obj.data_mapFields hd _)), (Obj.cls_mapFields ..).trans hc, ?_⟩ (Heap.SameBut.update ..))⟩))
 rw [Ť hd]; simp [rawInt]
theorem ub {it t : Addr} {i : Nat} {items} {Q : bo} (hh : A.handled = none) (hit : s.heap.IsTupleIter it t i) (ht : s.heap.IsTuple t items) (hx : items[i]? = none)
  (hE : ∀ h' e, Heap.ExtBut it s.heap h' -> (∃ o, h'.get? e = some o /\ o.cls = .type "StopIteration") -> E (.ref e) { s with heap := h' }) : wpAny (model prog w) A (Builtin.SmallTypes.nextOf (.ref it)) Q E s := by
 obtain ⟨⟨o, ho, hc, hd⟩, ⟨ol, PZ, _, nl, MN⟩⟩ := And.intro (id hit) ht;unfold Builtin.SmallTypes.nextOf;refine À (Ĉ (name := Str.ofString "__next__") hit.typeIs Ŕ (ô Ŕ hit.typeIs F.entry_tuple_iterator_next ?_ (Mf _)));show wpAny _ _ (field (.ref it) 0 >>= _) _ _ s; refine À (þ ho hd (x := .ref t) rfl ?_);show wpAny _ _ (if (Value.ref t == Value.none) = true then _ else _) _ _ s; rw [Ë (show ¬ ((Value.ref t == Value.none) = true) from Ì)]
 show wpAny _ _ (field (.ref it) 1 >>= _) _ _ s; refine À (þ ho hd (x := .int i 0) rfl ?_);show wpAny _ _ (seqItems? (.ref t) >>= _) _ _ s; refine À (ĸ PZ MN ?_);simp only [Int.toNat_natCast, hx];refine À (ς (À (Ő ho hd (by simp) ?_))); show wpAny _ _ (newExc (.type "StopIteration") [] >>= _) _ _ _
 refine À ?_; simp only [newExc, newTuple]; refine À (â ?_ (by size_fits))
 refine À (m := firstArgMember _ _) (p_ (a := Value.none) (by first | rfl | (simp only [firstArgMember]; rfl)) (â ?_ (by size_fits)))
 simp only [raiseNew]; refine À (wpAny_handled ?_)
 first | rw [show A.in1.handled = none from hh] | rw [hh]
 exact À (Â (LD (hE _ _ (((ζ ..).extBut.push _).push _) ⟨_, Ç _ rfl, rfl⟩)))
abbrev ji (h : Heap) (z TI TO : Addr) (f0 f1 : Value) : Prop := h.get? z = some { cls := .type "zip", dict := none, data := .fields #[f0, f1, .bool false, .ref TI, .ref TO], slots := #[] }
def GO (f0 : Value) : Prop := f0 = .none \/ ∃ a : Int, f0 = rawInt a
theorem vQ {a : Addr} {Q : Option Obj -> Shared -> Prop} (h : Q (s.heap.get? a) s) : wpAny (model prog w) A (loadIfAlive a) Q E s := λ _ _ _ => by
 unfold loadIfAlive;rw [Sem.wp_loadIfAlive];exact h
theorem pF {z TI TO : Addr} {f0 : Value} {b : Bool} {Q : Bool -> Shared -> Prop} (hz : ji s.heap z TI TO f0 (.bool b)) (ow : GO f0) (h1 : Q true s)
  (h2 : ∀ h', ji h' z TI TO f0 (.bool true) -> Heap.SameBut z s.heap h' -> Q false { s with heap := h' }) : wpAny (model prog w) A (Builtin.SmallTypes.ownedTupleIsFree (.ref z)) Q E s := by
 unfold Builtin.SmallTypes.ownedTupleIsFree;refine À (þ hz rfl (x := f0) rfl ?_);rcases ow with rfl | ⟨a, rfl⟩
 ·exact Â h1
 ·show wpAny _ _ (loadIfAlive a.toNat >>= _) _ _ s;refine À (vQ ?_);cases s.heap.get? a.toNat with
  | none => exact Â h1
  | some o =>
   show wpAny _ _ (field (.ref z) 1 >>= _) _ _ s;refine À (þ hz rfl (x := .bool b) rfl ?_);cases b with
   | true =>
    refine Â ?_;have e := h2 s.heap hz ⟨rfl, λ _ _ => rfl⟩;exact e
   | false =>
    show wpAny _ _ (setField (.ref z) 1 (.bool true) >>= _) _ _ s;exact À (ú hz (by simp) λ h' LR Ky => wpAny_pure (h2 h' LR Ky))
structure xV (z TI TO i1 i2 l1 l2 : Addr) : Prop where
 a1 : TI ≠ z
 a2 : TO ≠ z
 a3 : i1 ≠ z
 a4 : i2 ≠ z
 a5 : TI ≠ TO
 a6 : TI ≠ i1
 a7 : TI ≠ i2
 a8 : TO ≠ i1
 a9 : TO ≠ i2
 b1 : i1 ≠ i2
 b2 : l1 ≠ z
 b3 : l1 ≠ TO
 b4 : l1 ≠ i1
 b5 : l1 ≠ i2
 b6 : l2 ≠ z
 b7 : l2 ≠ TO
 b8 : l2 ≠ i1
 b9 : l2 ≠ i2
def ip (h h' : Heap) (z TO i1 i2 : Addr) : Prop := ∀ c o, c ≠ z -> c ≠ TO -> c ≠ i1 -> c ≠ i2 -> h.get? c = some o -> h'.get? c = some o
end
end My
namespace My
open PySem PySem.W L2
open PyProof.Rows (Call_ boot_enumerate)
section
variable {X : Cx} {pins : List (Addr × Obj)} {σ : St} {H : Hp} {s : Shared} {h' : Heap}
theorem xo {t' : Nat} {ch : List Addr} (I : Inv X pins σ H s) (F : ∀ b ∈ ch, bK X pins H b) (k : ∀ b o, b ∉ ch -> s.heap.get? b = some o -> h'.get? b = some o) : Inv X pins σ H { s with heap := h', toks := t' } := by
 have Kk : ∀ b u, H b = some u -> b ∉ ch := λ b u e z => by
  have := (F b z).1;rw [this] at e; cases e
 refine I.step (g' := s.gens) (d' := s.drawn) (ch := ch) (λ b hb => ?_) (λ b o _ _ hc e _ => k b o hc e) (λ b o _ _ hc e _ => ⟨o.slots, k b o hc e⟩) (λ _ _ _ _ n => n)
  (λ b o hc e => ⟨o, k b o hc e⟩) (λ _ _ e => e) (λ _ _ _ e => e) (λ b ps e => ⟨#[], by rw [e]; simp⟩) (λ q => q) (λ m hm => ?_) (λ b u e => ?_) I.bare
 ·obtain ⟨_, a, _, b', c, d⟩ := F b hb;exact ⟨b', a, c, d⟩
 ·obtain ⟨o, es, ep, ho, r⟩ := hm;exact ⟨o, es, ep, k _ o (λ z => (F _ z).2.1 rfl) ho, r⟩
 ·refine (I.Ą b u e).m_ (λ c v hc q => k c v ?_ q) (λ _ q => q) λ _ _ q => q;rcases hc with z | z
  ·rw [z]; exact Kk _ _ e
  ·exact Kk _ _ z
end
end My
namespace My
open PySem PySem.W L2
open PyProof.Rows (Call_ boot_enumerate)
theorem wm {n l t : Nat} (h1 : l < n) (h2 : t < n) : xV (n + 4) (n + 2) (n + 3) n (n + 1) l t := by
 constructor <;> (show (_ : Nat) ≠ (_ : Nat)) <;> omega
end My
namespace My
open PySem PySem.W L2
open PyProof.Rows (Call_)
section
variable {X : Cx} {pins : List (Addr × Obj)} {σ : St} {H : Hp} {s : Shared} {h' : Heap}
theorem xq {t' : Nat} {ch : List Addr} {xs : List V} (I : Inv X pins σ H s) (F : ∀ b ∈ ch, bK X pins H b) (k : ∀ b o, b ∉ ch -> s.heap.get? b = some o -> h'.get? b = some o)
  (o1 : ù X.prog X.w (ak H s.heap.objs.size (.tup xs)) h' s.heap.objs.size (.tup xs)) :
  Inv X pins σ (ak H s.heap.objs.size (.tup xs)) { s with heap := h', toks := t' } := by
 have f1 : H s.heap.objs.size = none := I.Ą.fresh (Ä _);have up : ∀ b u, H b = some u -> ak H s.heap.objs.size (.tup xs) b = some u := λ b u e => by
  rw [ag (λ z => by rw [z, f1] at e; cases e)]
  exact e
 have dn : ∀ b, b < s.heap.objs.size -> ak H s.heap.objs.size (.tup xs) b = H b := λ b l => by
  rw [ag (Í l)]
 have Kk : ∀ b u, H b = some u -> b ∉ ch := λ b u e z => by
  have := (F b z).1;rw [this] at e; cases e
 refine I.step (g' := s.gens) (d' := s.drawn) (ch := ch) (λ b hb => ?_) (λ b o _ _ hc e _ => k b o hc e) (λ b o _ _ hc e _ => ⟨o.slots, k b o hc e⟩) (λ b o _ e n => by rw [dn b (Æ e)]; exact n)
  (λ b o hc e => ⟨o, k b o hc e⟩) (λ b _ e => up _ _ e) (λ _ _ _ e => up _ _ e) (λ b ps e => ⟨#[], by rw [up _ _ e]; simp⟩) (λ q => ?_) (λ m hm => ?_) (λ b u e => ?_) I.bare
 ·obtain ⟨_, a, _, b', c, d⟩ := F b hb;exact ⟨b', a, c, d⟩
 ·rw [dn _ (ŉ (by decide : sysModules < mainGlobals) (I.mod.glob.keeps I.bk).lt)]
  exact q
 ·obtain ⟨o, es, ep, ho, r⟩ := hm;exact ⟨o, es, ep, k _ o (λ z => (F _ z).2.1 rfl) ho, r⟩
 ·by_cases z1 : b = s.heap.objs.size
  ·subst z1; rw [aQ] at e; cases e; exact o1
  ·rw [ag z1] at e;refine (I.Ą b u e).m_ (λ c v hc q => k c v ?_ q) (λ c q => up _ _ q) λ c zs q => up _ _ q;rcases hc with z | z
   ·rw [z]; exact Kk _ _ e
   ·exact Kk _ _ z
end
section
variable {X : Cx}
theorem IX {c n : Nat} (hc : c ∈ [n + 4, n + 2, n + 3, n, n + 1]) : n <= c := by
 simp only [List.mem_cons, List.not_mem_nil, or_false] at hc;omega
end
end My
namespace My
open PySem PySem.W L2
open PyProof.Rows (Call_)
open AutoSeq1 (wpAny_loadPart')
section
variable {prog : Program} {w : World} {A : Around} {E : bo} {s : Shared}
structure ο (h : Heap) (z TI TO i1 i2 l1 l2 : Addr) (k : Nat) : Prop where
 zo : ∃ f0 b, ji h z TI TO f0 (.bool b) /\ GO f0
 ti : IsPair h TI (.ref i1) (.ref i2)
 to : ∃ a b, IsPair h TO a b
 j1 : h.IsTupleIter i1 l1 k
 j2 : h.IsListIter i2 l2 k
theorem sq {z TI TO i1 i2 l1 l2 : Addr} {k : Nat} {xs ys : Array Value} {x y : Value} {Q : bo} (D : xV z TI TO i1 i2 l1 l2) (hz : ο s.heap z TI TO i1 i2 l1 l2 k) (g1 : s.heap.IsTuple l1 xs) (g2 : s.heap.IsList l2 ys) (hx : xs[k]? = some x) (hy : ys[k]? = some y)
  (hQ : ∀ h', ο h' z TI TO i1 i2 l1 l2 (k + 1) -> IsPair h' s.heap.objs.size x y -> h'.objs.size = s.heap.objs.size + 1 -> ip s.heap h' z TO i1 i2 -> Q (.ref s.heap.objs.size) { s with heap := h' }) :
  wpAny (model prog w) A (Builtin.«zip.__next__» ⟨[.ref z], []⟩) (λ fin s' => ∃ v, fin = .done (.ret v) /\ Q v s') E s := by
 obtain ⟨⟨f0, b, zo, ow⟩, ti, ⟨ta, tb, to⟩, j1, j2⟩ := hz;show wpAny _ _ (field (.ref z) 2 >>= _) _ _ _; refine À (þ zo rfl (x := .bool false) rfl ?_);show wpAny _ _ (field (.ref z) 3 >>= _) _ _ _; refine À (þ zo rfl (x := .ref TI) rfl (À (ĸ ti rfl ?_)));show wpAny _ _ (Builtin.SmallTypes.ownedTupleIsFree (.ref z) >>= _) _ _ _;refine À (pF zo ow ?_ λ h1 Kc s1 => ?_)
 ·simp only [if_true];refine À (ς (À (þ zo rfl (x := .ref TO) rfl (À (ú zo (by simp) λ h1 Kc s1 => ?_)))))
  have Kc : ji h1 z TI TO .ellipsis (.bool b) := Kc;have K6 := j1.extBut s1.extBut D.a3;have MC := j2.extBut s1.extBut D.a4;have Lp := g1.extBut s1.extBut D.b2;have MU := g2.extBut s1.extBut D.b6;have OT : IsPair h1 TO ta tb := s1.extBut _ _ D.a2 to;refine À ?_;simp only [List.zipIdx_cons, List.zipIdx_nil, List.forIn_cons, List.forIn_nil];refine À (À (r_ ?_));show wpAny _ _ (Builtin.SmallTypes.nextOf (.ref i1) >>= _) _ _ _;refine À (gR K6 Lp hx λ h2 NM s2 => Â ?_);have s2 : Heap.SameBut i1 h1 h2 := s2;have to2 : IsPair h2 TO ta tb := s2.extBut _ _ D.a8 OT;refine À (ĸ to2 rfl (À (IN to2 λ h3 to3 s3 => À (LF (Â ?_)))));have s3 : Heap.SameBut TO h2 h3 := s3;have to3 : IsPair h3 TO x tb := to3;have MB := (MC.extBut s2.extBut D.b1.symm).extBut s3.extBut D.a9.symm;have MT := (MU.extBut s2.extBut D.b8).extBut s3.extBut D.b7;refine À (À (r_ ?_));show wpAny _ _ (Builtin.SmallTypes.nextOf (.ref i2) >>= _) _ _ _;refine À (wpAny_nextOf_list_item MB MT hy λ h4 PD s4 => Â ?_);have s4 : Heap.SameBut i2 h3 h4 := s4;have Re : IsPair h4 TO x tb := s4.extBut _ _ D.a9 to3;refine À (ĸ Re rfl (À (IN Re λ h5 Oh s5 => À (LF (Â (Â ?_))))));have s5 : Heap.SameBut TO h4 h5 := s5;have Oh : IsPair h5 TO x y := Oh;have sz : h5.objs.size = s.heap.objs.size := by rw [s5.1, s4.1, s3.1, s2.1, s1.1]
  have up : ip s.heap h5 z TO i1 i2 := λ c o c1 c2 c3 c4 e => s5.extBut _ _ c2 (s4.extBut _ _ c4 (s3.extBut _ _ c2 (s2.extBut _ _ c3 (s1.extBut _ _ c1 e))));have Rb : ji h5 z TI TO .ellipsis (.bool b) := s5.extBut _ _ D.a2.symm (s4.extBut _ _ D.a4.symm (s3.extBut _ _ D.a2.symm (s2.extBut _ _ D.a3.symm Kc)));have UV := ((NM.extBut s3.extBut D.a8.symm).extBut s4.extBut D.b1).extBut s5.extBut D.a8.symm;have UU := PD.extBut s5.extBut D.a9.symm;refine À (ĸ Oh rfl (À (wpAny_newTuple ?_)));show wpAny _ _ (Builtin.SmallTypes.ownedTupleHandOut (.ref z) (.ref h5.objs.size) >>= _) _ _ _;have SZ : ji (h5.push { cls := .type "tuple", data := .seq #[x, y] }) z TI TO .ellipsis (.bool b) := Á _ Rb;refine À ?_;unfold Builtin.SmallTypes.ownedTupleHandOut;refine À (ú SZ (by simp) λ h7 OP s7 => ?_)
  have OP : ji h7 z TI TO (rawInt h5.objs.size) (.bool b) := OP;refine ú OP (by simp) λ h8 OO s8 => wpAny_pure ⟨_, rfl, ?_⟩
  have OO : ji h8 z TI TO (rawInt h5.objs.size) (.bool false) := OO;have Nf : ∀ c o, c ≠ z -> h5.get? c = some o -> h8.get? c = some o := λ c o c1 e => s8.extBut _ _ c1 (s7.extBut _ _ c1 (Á _ e));show Q (.ref h5.objs.size) _;have nz : s.heap.objs.size ≠ z := by rw [<- sz]; exact Β (Æ Rb)
  rw [sz];refine hQ _ ⟨⟨_, false, OO, .inr ⟨_, rfl⟩⟩, Nf _ _ D.a1 (up _ _ D.a1 D.a5 D.a6 D.a7 ti), ⟨x, y, Nf _ _ D.a2 Oh⟩, UV.at λ o e => Nf _ o D.a3 e, UU.at λ o e => Nf _ o D.a4 e⟩ ?_ (by rw [s8.1, s7.1, ö, sz]) λ c o c1 c2 c3 c4 e => Nf c o c1 (up c o c1 c2 c3 c4 e)
  exact s8.extBut _ _ nz (s7.extBut _ _ nz (by rw [<- sz]; exact Ç _ rfl))
 ·simp only [Bool.false_eq_true, if_false];have K6 := j1.extBut s1.extBut D.a3;have MC := j2.extBut s1.extBut D.a4;have Lp := g1.extBut s1.extBut D.b2;have MU := g2.extBut s1.extBut D.b6;refine À ?_;rw [<- Array.forIn_toList];simp only [List.forIn_cons, List.forIn_nil];refine À (À (ä ?_));show wpAny _ _ (Builtin.SmallTypes.nextOf (.ref i1) >>= _) _ _ _;refine À (gR K6 Lp hx λ h2 NM s2 => Â (Â ?_));have MB := MC.extBut s2.extBut D.b1.symm;have MT := MU.extBut s2.extBut D.b8;refine À (À (ä ?_));show wpAny _ _ (Builtin.SmallTypes.nextOf (.ref i2) >>= _) _ _ _;refine À (wpAny_nextOf_list_item MB MT hy λ h3 PD s3 => Â (Â (Â ?_)));show wpAny _ _ (newTuple [x, y] >>= _) _ _ _;have s2 : Heap.SameBut i1 h1 h2 := s2;have s3 : Heap.SameBut i2 h2 h3 := s3;have sz : h3.objs.size = s.heap.objs.size := by rw [s3.1, s2.1, s1.1]
  have up : ip s.heap h3 z TO i1 i2 := λ c o c1 c2 c3 c4 e => s3.extBut _ _ c4 (s2.extBut _ _ c3 (s1.extBut _ _ c1 e));refine À (wpAny_newTuple (Â ⟨_, rfl, ?_⟩));show Q (.ref h3.objs.size) _;rw [sz];refine hQ _ ⟨⟨f0, true, Á _ (s3.extBut _ _ D.a4.symm (s2.extBut _ _ D.a3.symm Kc)), ow⟩, Á _ (up _ _ D.a1 D.a5 D.a6 D.a7 ti), ⟨ta, tb, Á _ (s3.extBut _ _ D.a9 (s2.extBut _ _ D.a8 (s1.extBut _ _ D.a2 to)))⟩, (NM.extBut s3.extBut D.b1).at λ o e => Á _ e, PD.at λ o e => Á _ e⟩ ?_ (by rw [ö, sz]) λ c o c1 c2 c3 c4 e => Á _ (up c o c1 c2 c3 c4 e)
  rw [<- sz]; exact Ç _ rfl
theorem wu {z TI TO i1 i2 l1 l2 : Addr} {k : Nat} {xs ys : Array Value} {Q : Fin -> Shared -> Prop} (hh : A.handled = none) (D : xV z TI TO i1 i2 l1 l2) (hz : ο s.heap z TI TO i1 i2 l1 l2 k) (g1 : s.heap.IsTuple l1 xs) (g2 : s.heap.IsList l2 ys) (hn : xs[k]? = none \/ ys[k]? = none)
  (hE : ∀ h' e, ip s.heap h' z TO i1 i2 -> (∃ o, h'.get? e = some o /\ o.cls = .type "StopIteration") -> E (.ref e) { s with heap := h' }) :
  wpAny (model prog w) A (Builtin.«zip.__next__» ⟨[.ref z], []⟩) Q E s := by
 obtain ⟨⟨f0, b, zo, ow⟩, ti, ⟨ta, tb, to⟩, j1, j2⟩ := hz;show wpAny _ _ (field (.ref z) 2 >>= _) _ _ _; refine À (þ zo rfl (x := .bool false) rfl ?_);show wpAny _ _ (field (.ref z) 3 >>= _) _ _ _; refine À (þ zo rfl (x := .ref TI) rfl (À (ĸ ti rfl ?_)));show wpAny _ _ (Builtin.SmallTypes.ownedTupleIsFree (.ref z) >>= _) _ _ _;refine À (pF zo ow ?_ λ h1 Kc s1 => ?_)
 ·simp only [if_true];refine À (ς (À (þ zo rfl (x := .ref TO) rfl (À (ú zo (by simp) λ h1 Kc s1 => ?_)))))
  have Kc : ji h1 z TI TO .ellipsis (.bool b) := Kc;have K6 := j1.extBut s1.extBut D.a3;have MC := j2.extBut s1.extBut D.a4;have Lp := g1.extBut s1.extBut D.b2;have MU := g2.extBut s1.extBut D.b6;have OT : IsPair h1 TO ta tb := s1.extBut _ _ D.a2 to;have leave : ∀ (h2 : Heap) (e : Addr), ji h2 z TI TO .ellipsis (.bool b) -> ip s.heap h2 z TO i1 i2 -> (∃ o, h2.get? e = some o /\ o.cls = .type "StopIteration") -> wpAny (model prog w) A (setField (.ref z) 0 .none) (λ _ s' => E (.ref e) s') E { s with heap := h2 } := λ h2 e z2 u2 he => by
   obtain ⟨oe, P2, RS⟩ := he;have Vs : e ≠ z := λ q => by subst q; rw [z2] at P2; cases P2; simp at RS
   exact ú z2 (by simp) λ h3 _ s3 => hE h3 e (λ c o c1 c2 c3 c4 q => s3.extBut _ _ c1 (u2 c o c1 c2 c3 c4 q)) ⟨oe, s3.extBut _ _ Vs P2, RS⟩
  refine À ?_;simp only [List.zipIdx_cons, List.zipIdx_nil, List.forIn_cons, List.forIn_nil];refine À (À (r_ ?_));show wpAny _ _ (Builtin.SmallTypes.nextOf (.ref i1) >>= _) _ _ _;cases hx : xs[k]? with
  | none =>
   refine À (ub hh K6 Lp hx λ h2 e s2 he => ?_);have s2 : Heap.ExtBut i1 h1 h2 := s2;exact leave h2 e (s2 _ _ D.a3.symm Kc) (λ c o c1 c2 c3 c4 q => s2 _ _ c3 (s1.extBut _ _ c1 q)) he
  | some x =>
   have hy : ys[k]? = none := hn.resolve_left (by rw [hx]; simp)
   refine À (gR K6 Lp hx λ h2 NM s2 => Â ?_);have s2 : Heap.SameBut i1 h1 h2 := s2;have to2 : IsPair h2 TO ta tb := s2.extBut _ _ D.a8 OT;refine À (ĸ to2 rfl (À (IN to2 λ h3 to3 s3 => À (LF (Â ?_)))));have s3 : Heap.SameBut TO h2 h3 := s3;have MB := (MC.extBut s2.extBut D.b1.symm).extBut s3.extBut D.a9.symm;have MT := (MU.extBut s2.extBut D.b8).extBut s3.extBut D.b7;refine À (À (r_ ?_));show wpAny _ _ (Builtin.SmallTypes.nextOf (.ref i2) >>= _) _ _ _;refine À (wpAny_nextOf_list_end hh MB MT hy λ h4 e s4 he => ?_);have s4 : Heap.ExtBut i2 h3 h4 := s4;exact leave h4 e (s4 _ _ D.a4.symm (s3.extBut _ _ D.a2.symm (s2.extBut _ _ D.a3.symm Kc))) (λ c o c1 c2 c3 c4 q => s4 _ _ c4 (s3.extBut _ _ c2 (s2.extBut _ _ c3 (s1.extBut _ _ c1 q)))) he
 ·simp only [Bool.false_eq_true, if_false];have K6 := j1.extBut s1.extBut D.a3;have MC := j2.extBut s1.extBut D.a4;have Lp := g1.extBut s1.extBut D.b2;have MU := g2.extBut s1.extBut D.b6;refine À ?_;rw [<- Array.forIn_toList];simp only [List.forIn_cons, List.forIn_nil];refine À (À (ä ?_));show wpAny _ _ (Builtin.SmallTypes.nextOf (.ref i1) >>= _) _ _ _;cases hx : xs[k]? with
  | none =>
   refine À (ub hh K6 Lp hx λ h2 e s2 he => ?_);have s2 : Heap.ExtBut i1 h1 h2 := s2;exact hE h2 e (λ c o c1 c2 c3 c4 q => s2 _ _ c3 (s1.extBut _ _ c1 q)) he
  | some x =>
   have hy : ys[k]? = none := hn.resolve_left (by rw [hx]; simp)
   refine À (gR K6 Lp hx λ h2 NM s2 => Â (Â ?_));have s2 : Heap.SameBut i1 h1 h2 := s2;have MB := MC.extBut s2.extBut D.b1.symm;have MT := MU.extBut s2.extBut D.b8;refine À (À (ä ?_));show wpAny _ _ (Builtin.SmallTypes.nextOf (.ref i2) >>= _) _ _ _;refine À (wpAny_nextOf_list_end hh MB MT hy λ h3 e s3 he => ?_);have s3 : Heap.ExtBut i2 h2 h3 := s3;exact hE h3 e (λ c o c1 c2 c3 c4 q => s3 _ _ c4 (s2.extBut _ _ c3 (s1.extBut _ _ c1 q))) he
end
theorem ο.keep {h h' : Heap} {z TI TO i1 i2 l1 l2 : Addr} {k : Nat} (a : ο h z TI TO i1 i2 l1 l2 k) (u : ∀ b ∈ [z, TI, TO, i1, i2], ∀ o, h.get? b = some o -> h'.get? b = some o) : ο h' z TI TO i1 i2 l1 l2 k := by
 obtain ⟨⟨f0, b, zo, ow⟩, ti, ⟨ta, tb, to⟩, j1, j2⟩ := a;exact ⟨⟨f0, b, u z (by simp) _ zo, ow⟩, u TI (by simp) _ ti, ⟨ta, tb, u TO (by simp) _ to⟩, j1.at λ o e => u i1 (by simp) o e, j2.at λ o e => u i2 (by simp) o e⟩
section
variable {prog : Program} {w : World} {A : Around} {E : bo} {s : Shared}
theorem ο.ty {z TI TO i1 i2 l1 l2 : Addr} {k : Nat} (a : ο s.heap z TI TO i1 i2 l1 l2 k) : s.TypeIs (.ref z) "zip" := by
 obtain ⟨⟨f0, b, zo, ow⟩, _⟩ := a;exact ⟨_, zo, rfl⟩
def qm (h : Heap) (l1 : Addr) : Heap := h.push { cls := .type "tuple_iterator", data := .fields #[.ref l1, .int 0 0] }
def nZ (h : Heap) (l1 l2 : Addr) : Heap := (qm h l1).push { cls := .type "list_iterator", data := .fields #[.ref l2, .int 0 0] }
def nw (h : Heap) (l1 l2 : Addr) : Heap := (nZ h l1 l2).push { cls := .type "tuple", data := .seq #[.ref h.objs.size, .ref (qm h l1).objs.size] }
def oy (h : Heap) (l1 l2 : Addr) : Heap := (nw h l1 l2).push { cls := .type "tuple", data := .seq #[.none, .none] }
def j5 (h : Heap) (l1 l2 : Addr) : Heap := (oy h l1 l2).push { cls := .type "zip", data := .fields #[.none, .bool false, .bool false, .ref (nZ h l1 l2).objs.size, .ref (nw h l1 l2).objs.size] }
theorem rV (l1 l2 : Addr) (xs ys : Array Value) : Meets (Builtin.«zip.__new__» ⟨[.type "zip", .ref l1, .ref l2], []⟩) (λ _ R s => s.heap.IsTuple l1 xs /\ s.heap.IsList l2 ys /\ R (.ok (.ret (.ref (oy s.heap l1 l2).objs.size))) { s with heap := j5 s.heap l1 l2 }) :=
 .of_wp λ prog w A R s h => by
  obtain ⟨hp, g, d, tk, os⟩ := s; obtain ⟨KB, JT, h⟩ := h; have U4 := sub_zip;have k1 : Heap.IsTuple (Shared.heap ⟨hp, g, d, tk, os⟩) l1 xs := KB;have k2 : Heap.IsList (Shared.heap ⟨hp.push { cls := .type "tuple_iterator", data := .fields #[.ref l1, .int 0 0] }, g, d, tk, os⟩) l2 ys := by
   obtain ⟨o, ho, r⟩ := JT;exact ⟨o, Á _ ho, r⟩
  wp_walk using JG k1, o_ k2
  exact ⟨_, rfl, h⟩
theorem u0 {l1 l2 : Addr} {xs ys : Array Value} {Q : bo} (KB : s.heap.IsTuple l1 xs) (JT : s.heap.IsList l2 ys)
  (h : ∀ h', IsZip h' (s.heap.objs.size + 4) (s.heap.objs.size + 2) (s.heap.objs.size + 3) .none -> ο h' (s.heap.objs.size + 4) (s.heap.objs.size + 2) (s.heap.objs.size + 3) s.heap.objs.size (s.heap.objs.size + 1) l1 l2 0 -> h'.objs.size = s.heap.objs.size + 5 ->
   (∀ c o, s.heap.get? c = some o -> h'.get? c = some o) -> Q (.ref (s.heap.objs.size + 4)) { s with heap := h' }) : wpAny (model prog w) A (call (.type "zip") [.ref l1, .ref l2]) Q E s := by
 refine callType_new F.called_zip am (F.typeCall_zip_2 _ _) (F.newCall_zip_2 _ _) (λ obj => F.args_object_init_3 obj _ _) F.entry_zip_new (rV l1 l2 xs ys) ⟨KB, JT, ?_⟩;have z1 : (qm s.heap l1).objs.size = s.heap.objs.size + 1 := ö ..;have z2 : (nZ s.heap l1 l2).objs.size = s.heap.objs.size + 2 := by unfold nZ; rw [ö, z1]
 have z3 : (nw s.heap l1 l2).objs.size = s.heap.objs.size + 3 := by unfold nw; rw [ö, z2]
 have z4 : (oy s.heap l1 l2).objs.size = s.heap.objs.size + 4 := by unfold oy; rw [ö, z3]
 have z5 : (j5 s.heap l1 l2).objs.size = s.heap.objs.size + 5 := by unfold j5; rw [ö, z4]
 have u5 : ∀ c o, (oy s.heap l1 l2).get? c = some o -> (j5 s.heap l1 l2).get? c = some o := λ c o q => Á _ q;have u4 : ∀ c o, (nw s.heap l1 l2).get? c = some o -> (j5 s.heap l1 l2).get? c = some o := λ c o q => u5 c o (Á _ q);have u3 : ∀ c o, (nZ s.heap l1 l2).get? c = some o -> (j5 s.heap l1 l2).get? c = some o := λ c o q => u4 c o (Á _ q);have u2 : ∀ c o, (qm s.heap l1).get? c = some o -> (j5 s.heap l1 l2).get? c = some o := λ c o q => u3 c o (Á _ q);have u1 : ∀ c o, s.heap.get? c = some o -> (j5 s.heap l1 l2).get? c = some o := λ c o q => u2 c o (Á _ q);have g5 : (j5 s.heap l1 l2).get? (oy s.heap l1 l2).objs.size = some _ := Ç _ rfl;have g4 := u5 _ _ (show (oy s.heap l1 l2).get? (nw s.heap l1 l2).objs.size = some _ from Ç _ rfl);have g3 := u4 _ _ (show (nw s.heap l1 l2).get? (nZ s.heap l1 l2).objs.size = some _ from Ç _ rfl);have g2 := u3 _ _ (show (nZ s.heap l1 l2).get? (qm s.heap l1).objs.size = some _ from Ç _ rfl);have g1 := u2 _ _ (show (qm s.heap l1).get? s.heap.objs.size = some _ from Ç _ rfl);show _ /\ _;rw [z2, z3, z4] at g5;rw [z1, z2] at g3;rw [z3] at g4;rw [z1] at g2;rw [z4];exact ⟨⟨_, g5, rfl⟩, h _ g5 ⟨⟨_, _, g5, .inl rfl⟩, g3, ⟨_, _, g4⟩, ⟨_, g1, rfl, rfl⟩, ⟨_, g2, rfl, rfl⟩⟩ z5 u1⟩
theorem wG {elts : List Expr} {x1} {pos : Pos} {z TI TO i1 i2 l1 l2 T : Addr} {k : Nat} {Q : Unit -> Shared -> Prop} (D : xV z TI TO i1 i2 l1 l2) (hz : ο s.heap z TI TO i1 i2 l1 l2 k)
  (hQ : ∀ h', ο h' z TI TO i1 i2 l1 l2 k -> Heap.SameBut z s.heap h' -> Q () { s with heap := h' }) : wpAny (model prog w) A (letOwnedTupleGo (.Tuple elts x1 pos) (.ref z) (.ref T)) Q E s := by
 obtain ⟨⟨f0, b, zo, ow⟩, ti, ⟨ta, tb, to⟩, j1, j2⟩ := hz;unfold letOwnedTupleGo;refine À (wpAny_load zo ?_);show wpAny _ _ (if (["enumerate", "zip", "dict_itemiterator", "dict_reverseitemiterator", "odict_iterator", "itertools.zip_longest", "itertools.pairwise"].contains "zip" &&
   (#[f0, f0, .bool false, .ref TI, .ref TO] : Array Value)[0]? == some (rawInt T)) = true then _ else _) Q E s
 split
 ·refine À (ς ?_);show wpAny _ _ (setField (.ref z) 0 .none) Q E s;refine ú zo (by simp) λ h' S0 s' => hQ h' ⟨⟨_, b, S0, .inl rfl⟩, s'.extBut _ _ D.a1 ti, ⟨ta, tb, s'.extBut _ _ D.a2 to⟩, j1.extBut s'.extBut D.a3, j2.extBut s'.extBut D.a4⟩ s'
 ·exact Â (hQ s.heap ⟨⟨f0, b, zo, ow⟩, ti, ⟨ta, tb, to⟩, j1, j2⟩ ⟨rfl, λ _ _ => rfl⟩)
theorem AB {z TI TO i1 i2 l1 l2 : Addr} {k : Nat} {xs ys : Array Value} {x y : Value} {Q : Option Value -> Shared -> Prop} (D : xV z TI TO i1 i2 l1 l2) (hz : ο s.heap z TI TO i1 i2 l1 l2 k) (g1 : s.heap.IsTuple l1 xs) (g2 : s.heap.IsList l2 ys) (hx : xs[k]? = some x) (hy : ys[k]? = some y)
  (hQ : ∀ h', ο h' z TI TO i1 i2 l1 l2 (k + 1) -> IsPair h' s.heap.objs.size x y -> h'.objs.size = s.heap.objs.size + 1 -> ip s.heap h' z TO i1 i2 -> Q (some (.ref s.heap.objs.size)) { s with heap := h' }) :
  wpAny (model prog w) A (pyNext (.ref z)) Q E s := by
 unfold pyNext;exact À (ğ (Ĉ (name := Str.ofString "__next__") hz.ty Χ (ô Χ hz.ty F.entry_zip_next (sq D hz g1 g2 hx hy λ h' a b c d => Â (hQ h' a b c d)) (F.args_zip_next_1 _))))
theorem qf {z TI TO i1 i2 l1 l2 : Addr} {k : Nat} {xs ys : Array Value} {Q : Option Value -> Shared -> Prop} (hh : A.handled = none) (D : xV z TI TO i1 i2 l1 l2) (hz : ο s.heap z TI TO i1 i2 l1 l2 k) (g1 : s.heap.IsTuple l1 xs) (g2 : s.heap.IsList l2 ys) (hn : xs[k]? = none \/ ys[k]? = none)
  (hQ : ∀ h', ip s.heap h' z TO i1 i2 -> Q none { s with heap := h' }) : wpAny (model prog w) A (pyNext (.ref z)) Q E s := by
 unfold pyNext;refine À (ğ (Ĉ (name := Str.ofString "__next__") hz.ty Χ (ô Χ hz.ty F.entry_zip_next (wu hh D hz g1 g2 hn λ h' x kz Kw => ?_) (F.args_zip_next_1 _))));obtain ⟨o, ho, hc⟩ := Kw;exact À (ž (T := "StopIteration") (b := true) ⟨o, ho, hc⟩ isSubtype_stop (Â (hQ _ kz)))
end
def sV (K : Frag) (a b : Addr) : It :=
 ⟨λ i H => ∃ xs ys x y, ĕ K H a xs /\ û K H b ys /\ xs[i]? = some x /\ ys[i]? = some y,
   λ i H v H' => ∃ q x y, v = .ref q /\ H q = none /\ H' = ak H q (.tup [x, y]) /\ ∀ xs ys, ĕ K H a xs -> û K H b ys -> xs[i]? = some x /\ ys[i]? = some y,
   λ i H => ∃ xs ys, ĕ K H a xs /\ û K H b ys /\ (xs.length <= i \/ ys.length <= i)⟩
theorem uS {P : Program} {w : World} {K : Frag} {elts : List Expr} {x1} {pos : Pos} (a b z TI TO i1 i2 : Addr) (D : xV z TI TO i1 i2 a b) :
  mH P w K (.Tuple elts x1 pos) (sV K a b) [z, TI, TO, i1, i2] z (λ i h => ο h z TI TO i1 i2 a b i) where
 mem := by simp
 obj := λ i h st c hc => by
  obtain ⟨⟨f0, bb, zo, ow⟩, ti, ⟨ta, tb, to⟩, ⟨oa, ha, ca, da⟩, ⟨ob, hb, cb, db⟩⟩ := st;simp only [List.mem_cons, List.not_mem_nil, or_false] at hc;rcases hc with rfl | rfl | rfl | rfl | rfl
  ·exact ⟨_, zo, λ v q => by cases q⟩
  ·exact ⟨_, ti, λ v q => by cases q⟩
  ·exact ⟨_, to, λ v q => by cases q⟩
  ·exact ⟨oa, ha, λ v q => by rw [da] at q; cases q⟩
  ·exact ⟨ob, hb, λ v q => by rw [db] at q; cases q⟩
 keep := λ i h h' st k => st.keep λ c hc o q => k c hc o q
 item := by
  intro X hP hw hK hc i pins s σ H E I hf st hg;subst hP hw hK;obtain ⟨xs, ys, x, y, hq, K7, hx, hy⟩ := hg;obtain ⟨its, rv, p, hz⟩ := I.tuple hq;obtain ⟨Š, Om, p2, NP⟩ := I.list K7;obtain ⟨u, hu, ru⟩ := rv.get hx;obtain ⟨v, hv, TW⟩ := Om.get hy;have NC : s.heap.IsList b Š.toArray := p2.isList;have zl : z < s.heap.objs.size := by
   obtain ⟨f0, bb, zo, ow⟩ := st.1;exact Æ zo
  refine AB D st p NC (x := u) (y := v) (by simpa using hu) (by simpa using hv) λ h1 Ti pr Xp kk => ?_
  refine ⟨_, rfl, wG (s := { s with heap := h1 }) D Ti λ h2 Tg sb => ?_⟩
  have K3 : Heap.SameBut z h1 h2 := sb;have na : s.heap.objs.size ≠ z := Β zl;have T6 : IsPair h2 s.heap.objs.size u v := (K3.2 _ na).trans pr;have f1 : H s.heap.objs.size = none := I.Ą.fresh (Ä _);refine ⟨.ref s.heap.objs.size, ak H s.heap.objs.size (.tup [x, y]), ?_, rfl, ⟨_, x, y, rfl, f1, rfl, λ OR Jx g1 g2 => ⟨by rw [I.Ρ g1 hq]; exact hx, by rw [I.HW g2 K7]; exact hy⟩⟩, Tg, λ c hc => ?_⟩
  ·refine xq (t' := s.toks) (ch := [z, TI, TO, i1, i2]) I hf (λ c o hc q => ?_) ?_
   ·simp only [List.mem_cons, List.not_mem_nil, or_false, not_or] at hc;exact (K3.2 c hc.1).trans (kk c o hc.1 hc.2.2.1 hc.2.2.2.1 hc.2.2.2.2 q)
   ·exact ⟨ft, [u, v], .cons ru (.cons TW .nil), ⟨_, T6, rfl, _, rfl⟩⟩
  ·have q := hf c hc;have Kg : c < s.heap.objs.size := by
    obtain ⟨⟨f0, bb, zo, ow⟩, ti, ⟨ta, tb, to⟩, ⟨oa, ha, _, _⟩, ⟨ob, hb, _, _⟩⟩ := st;simp only [List.mem_cons, List.not_mem_nil, or_false] at hc;rcases hc with rfl | rfl | rfl | rfl | rfl
    ·exact Æ zo
    ·exact Æ ti
    ·exact Æ to
    ·exact Æ ha
    ·exact Æ hb
   rw [ag (Í Kg)];exact q.1
 done := by
  intro X hP hw hK hc i pins s σ H E I hf st hg;subst hP hw hK;obtain ⟨xs, ys, hq, K7, hn⟩ := hg;obtain ⟨its, rv, p, hz⟩ := I.tuple hq;obtain ⟨Š, Om, p2, NP⟩ := I.list K7;have NC : s.heap.IsList b Š.toArray := p2.isList;have l1 := rv.length;have l2 := Om.length;refine qf (I.ok.hd hc) D st p NC ?_ λ h1 kk => ⟨rfl, xo (t' := s.toks) (ch := [z, TI, TO, i1, i2]) I hf λ c o LZ q => ?_⟩
  ·rcases hn with h | h
   ·exact .inl (by simp; omega)
   ·exact .inr (by simp; omega)
  ·simp only [List.mem_cons, List.not_mem_nil, or_false, not_or] at LZ;exact kk c o LZ.1 LZ.2.2.1 LZ.2.2.2.1 LZ.2.2.2.2 q
 self := λ _ s Q _ _ st h => by
  refine J8 st.ty F.slot_zip_iter (ô F.slot_zip_iter st.ty F.entry_zip_iter ?_ (F.args_zip_iter_1 _));exact Â ⟨_, rfl, "zip", _, st.ty, Χ.lookup, h⟩
section
variable {X : Cx}
def EV (K : Frag) (ta : TA) : TI := λ σ H R => ta σ H λ vs H1 => ∃ l t, vs = [.ref l, .ref t] /\ (∃ xs, ĕ K H1 l xs) /\ (∃ ys, û K H1 t ys) /\ R (sV K l t) H1
theorem Ai {elts : List Expr} {x1} {pt : Pos} {a b : Expr} {ta : TA} {p2 Ms : Pos} (RP : Gl X "zip") (NW : X.mg "zip" = none) (ha : PA X [a, b] ta)
  (he : starEach (a :: [b]) X.env = (false, eval a X.env) :: starEach [b] X.env := by rfl) (g_ : (backTo Ms (starEach [b] X.env)).any (·.1) = false := by rfl) :
  PI X (.Tuple elts x1 pt) (.Call (.Name "zip" p2) [a, b] [] Ms) (EV X.K ta) := by
 intro pins s σ H R I h;refine Call_ (fq I RP NW PyProof.Rows.boot_zip (ļ (aA (ha Ms pins s σ H _ I h) λ us s1 ⟨vs, H1, I1, r1, q1⟩ => ?_) he g_));obtain ⟨l, t, rfl, ⟨xs, hq⟩, ⟨ys, K7⟩, q⟩ := q1;cases r1 with
 | cons r rr =>
  cases r;cases rr with
  | cons r' TZ =>
   cases r';cases TZ;obtain ⟨its, rv, pl, hz⟩ := I1.tuple hq;obtain ⟨Š, Om, NC, NP⟩ := I1.list K7;have ht : s1.heap.IsList t Š.toArray := NC.isList;have UD : l < s1.heap.objs.size := by
    obtain ⟨o, q, _⟩ := pl;exact Æ q
   have Ow : t < s1.heap.objs.size := by
    obtain ⟨o, q, _⟩ := ht;exact Æ q
   refine u0 pl ht λ h2 iz za Xo k2 => ?_;refine wpAny_pyIter_zip (s := { s1 with heap := h2 }) iz ?_
   have D : xV (s1.heap.objs.size + 4) (s1.heap.objs.size + 2) (s1.heap.objs.size + 3) s1.heap.objs.size (s1.heap.objs.size + 1) l t := wm UD Ow;exact ⟨s1.heap.objs.size + 4, [s1.heap.objs.size + 4, s1.heap.objs.size + 2, s1.heap.objs.size + 3, s1.heap.objs.size, s1.heap.objs.size + 1], _, _, H1, rfl, I1.kept (t' := s1.toks) (λ c o e => k2 _ _ e), uS l t _ _ _ _ _ D, za, λ c hc => I1.Jb (IX hc) (I1.Ą.fresh (IX hc)), q⟩
end
theorem wV {K : Frag} {a b : Addr} {xs ys : List V} {g : TG} {tb : TS} {D : aY} {σ : St} {H : Hp} (Pv : Nat -> St -> Hp -> Prop) (h0 : Pv 0 σ H) (hl : ∀ i σ H, i <= min xs.length ys.length -> Pv i σ H -> ĕ K H a xs /\ û K H b ys)
  (hs : ∀ i x y σ H q, xs[i]? = some x -> ys[i]? = some y -> Pv i σ H -> H q = none -> g (.ref q) σ (ak H q (.tup [x, y])) λ ľ H2 => tb { D with nx := Pv (i + 1), ct := Pv (i + 1), bk := D.nx } ľ H2) (hd : ∀ σ H, Pv (min xs.length ys.length) σ H -> D.nx σ H) :
  ∃ W : Nat -> Nat -> St -> Hp -> Prop, (∃ m, W 0 m σ H) /\ ∀ i m σ H, W i m σ H ->
   ((sV K a b).stop i H /\ D.nx σ H) \/ ((sV K a b).go i H /\ ∃ N : St -> Hp -> Prop, (∀ Ē H', N Ē H' -> ∃ m', m' < m /\ W (i + 1) m' Ē H') /\ ∀ x H', (sV K a b).IB i H x H' -> g x σ H' λ ľ H2 => tb { D with nx := N, ct := N, bk := D.nx } ľ H2) := by
 refine ⟨λ i m σ H => m = min xs.length ys.length - i /\ i <= min xs.length ys.length /\ Pv i σ H, ⟨min xs.length ys.length, af, Ĕ _, h0⟩, ?_⟩;rintro i m σ H ⟨rfl, hi, pv⟩;obtain ⟨q1, q2⟩ := hl i σ H hi pv;by_cases Ű : i < min xs.length ys.length
 ·have l1 : i < xs.length := af;have l2 : i < ys.length := af;refine .inr ⟨⟨xs, ys, xs[i], ys[i], q1, q2, Ã l1, Ã l2⟩, Pv (i + 1), λ Ē H' n => ⟨min xs.length ys.length - (i + 1), af, rfl, Ű, n⟩, λ v H' yl => ?_⟩;obtain ⟨q, x, y, rfl, hq, rfl, at'⟩ := yl;obtain ⟨e1, e2⟩ := at' xs ys q1 q2;exact hs i x y σ H q e1 e2 pv hq
 ·have e : i = min xs.length ys.length := af;subst e;exact .inl ⟨⟨xs, ys, q1, q2, af⟩, hd σ H pv⟩
end My
namespace My
open PySem PySem.W L2
def ce : List (Int × Int) -> Nat -> List (Int × Int)
 | [], _ => []
 | p :: L, x => if x % 2 = 1 then p :: ce L (x / 2) else ce L (x / 2)
theorem lI : ∀ (L : List (Int × Int)) (x : Nat), (ce L x).length = cC L.length x
 | [], _ => rfl
 | p :: L, x => by
  have ih := lI L (x / 2);show (if x % 2 = 1 then p :: ce L (x / 2) else ce L (x / 2)).length = x % 2 + cC L.length (x / 2)
  split
  ·rename_i h
   rw [Ü, ih, h, Mc]
  ·rw [ih];omega
theorem hZ : ∀ {L : List (Int × Int)} {x : Nat} {p : Int × Int}, p ∈ ce L x -> p ∈ L
 | q :: L, x, p, h => by
  unfold ce at h;split at h
  ·rcases Ñ.mp h with rfl | h
   ·exact Ù ..
   ·exact Ó _ (hZ h)
  ·exact Ó _ (hZ h)
theorem qv {L : List (Int × Int)} {x : Nat} (bt : bD L) : bD (ce L x) := λ p hp => bt p (hZ hp)
theorem jK (p : Int × Int) (L : List (Int × Int)) (x : Nat) : ce (p :: L) x = if x % 2 = 1 then p :: ce L (x / 2) else ce L (x / 2) := rfl
theorem pO (O n : Int) : ∀ {L : List (Int × Int)} (x : Nat), bD L -> kI (L.map (iJ O n)) x = iw O n (L.count (0, 1) : Nat) (L.count (1, 1) : Nat) ((ce L x).count (1, 0) : Nat) ((ce L x).count (0, 1) : Nat) ((ce L x).count (1, 1) : Nat)
 | [], x, _ => by
  show (0 : Int) = (n - O) * (0 + 0) - O * (0 - 0 + 0 - 0);simp
 | p :: L, x, bt => by
  have ih := pO O n (L := L) (x / 2) λ q hq => bt q (Ó _ hq);obtain ⟨h1, h2⟩ := bt p (Ù ..);obtain ⟨u, v⟩ := p;have h1 : u = 0 \/ u = 1 := h1;have h2 : v = 0 \/ v = 1 := h2;show (if x % 2 = 1 then (n - O) * u else 0 - O * v) + kI (L.map (iJ O n)) (x / 2) = _
  rw [ih, jK];unfold iw;generalize ce L (x / 2) = S;by_cases hx : x % 2 = 1
  ·rw [Õ hx, Õ hx];rcases h1 with rfl | rfl <;> rcases h2 with rfl | rfl <;> simp [List.count_cons] <;> clear ih bt <;> grind
  ·rw [Ë hx, Ë hx];rcases h1 with rfl | rfl <;> rcases h2 with rfl | rfl <;> simp [List.count_cons] <;> clear ih bt <;> grind
def fM (n x : Nat) : List Nat := (List.range n).filter λ i => decide (x / 2 ^ i % 2 = 1)
theorem qo (n x : Nat) : fM (n + 1) x = (if x % 2 = 1 then [0] else []) ++ (fM n (x / 2)).map (· + 1) := by
 unfold fM;rw [Ŝ, Ĥ, List.filter_map];have e : (λ i => decide (x / 2 ^ i % 2 = 1)) ∘ Nat.succ = λ i => decide (x / 2 / 2 ^ i % 2 = 1) := by
  funext i
  show decide (x / 2 ^ (i + 1) % 2 = 1) = _;rw [dR]
 rw [e, ś, C_];by_cases h : x % 2 = 1
 ·rw [Õ (Î h), Õ h];rfl
 ·rw [Ë (by simpa using h), if_neg h]
  rfl
theorem mQ : ∀ (L : List (Int × Int)) (x : Nat), (fM L.length x).map (λ i => L.getD i (0, 0)) = ce L x
 | [], x => rfl
 | p :: L, x => by
  rw [Ü, qo, Ø, ó];have e : ((λ i => (p :: L).getD i (0, 0)) ∘ λ i => i + 1) = λ i => L.getD i (0, 0) := rfl;rw [e, mQ L (x / 2), jK];by_cases h : x % 2 = 1
  ·rw [Õ h, Õ h];rfl
  ·rw [Ë h, Ë h];rfl
theorem vj {n x i : Nat} (h : i ∈ fM n x) : i < n := ĥ.mp (Ġ.mp h).1
abbrev wL (L : List (Int × Int)) (O : Int) : List (Int × Int) := L.map (iJ O ((L.length : Nat) : Int))
def cc (L : List (Int × Int)) (O : Int) (g : Int -> Nat) : Nat := EE (fg O g) (wL L O) 0 0
def m4 (s v : Int) : Nat := if s <= v then 1 else 0
def mF (s v : Int) : Nat := if v <= s then 1 else 0
def rc (s v : Int) : Nat := if v = s then 1 else 0
theorem kh {f g : Int -> Int -> Nat} : ∀ (W : List (Int × Int)) (u v : Int), EE (λ u v => f u v + g u v) W u v = EE f W u v + EE g W u v
 | [], u, v => rfl
 | p :: W, u, v => by
  show EE _ W u (v + p.1) + EE _ W (u + 1) (v + p.2) = (EE f W u (v + p.1) + EE f W (u + 1) (v + p.2)) + (EE g W u (v + p.1) + EE g W (u + 1) (v + p.2));rw [kh W, kh W];omega
theorem kP {f g : Int -> Int -> Nat} (h : ∀ u v, f u v <= g u v) : ∀ (W : List (Int × Int)) (u v : Int), EE f W u v <= EE g W u v
 | [], u, v => h u v
 | p :: W, u, v => Nat.add_le_add (kP h W _ _) (kP h W _ _)
theorem vR (L : List (Int × Int)) (O s : Int) : cc L O (m4 s) + cc L O (mF s) = cc L O (λ _ => 1) + cc L O (rc s) := by
 unfold cc;rw [<- kh, <- kh]
 congr 1
 funext u v
 unfold fg m4 mF rc;by_cases h : u = O
 ·simp only [if_pos h];by_cases h1 : s <= v <;> by_cases h2 : v <= s
  ·rw [Õ h1, Õ h2, Õ af]
  ·rw [Õ h1, Ë h2, Ë af]
  ·rw [Ë h1, Õ h2, Ë af]
  ·omega
 ·simp only [if_neg h]
theorem ir (L : List (Int × Int)) (O : Int) {g : Int -> Nat} (h : ∀ v, g v <= 1) : cc L O g <= cc L O (λ _ => 1) := kP (λ u v => by
 unfold fg;split
 ·exact h v
 ·exact Ä _) _ _ _
theorem nH {L : List (Int × Int)} {O : Int} (h0 : 0 <= O) (h1 : O <= (L.length : Nat)) : 1 <= cc L O (λ _ => 1) /\ cc L O (λ _ => 1) <= 2 ^ L.length := by
 unfold cc;constructor
 ·exact ka (f := fg O λ _ => 1) (o := O.toNat) (λ v => by unfold fg; rw [Õ af]; exact Nat.one_pos) (wL L O) 0 0 (Ĕ _) (by rw [Å]; omega)
 ·have := pB (f := fg O λ _ => 1) (λ u v => by unfold fg; split; exact Ä _; exact Ĕ _) (wL L O) 0 0
  rw [Å] at this;exact this
theorem yB {L : List (Int × Int)} {x : Nat} (hx : x < 2 ^ L.length) : 1 <= cc L ((cC L.length x : Nat) : Int) (rc (kI (wL L ((cC L.length x : Nat) : Int)) x)) := by
 have e := ju (wL L ((cC L.length x : Nat) : Int)) ((cC L.length x : Nat) : Int) (rc (kI (wL L ((cC L.length x : Nat) : Int)) x));unfold cc;rw [<- e, ó];have hm : x ∈ mU (wL L ((cC L.length x : Nat) : Int)).length ((cC L.length x : Nat) : Int) := by
  rw [Å];exact Ġ.mpr ⟨ĥ.mpr hx, Î rfl⟩
 generalize mU (wL L ((cC L.length x : Nat) : Int)).length ((cC L.length x : Nat) : Int) = ds at hm
 induction ds with
 | nil => cases hm
 | cons y ys ih =>
  rw [É, ß];rcases Ñ.mp hm with rfl | hm
  ·have : (rc (kI (wL L ((cC L.length x : Nat) : Int)) x) ∘ kI (wL L ((cC L.length x : Nat) : Int))) x = 1 := by
    show rc _ _ = 1;unfold rc;rw [Õ rfl]
   omega
  ·have := ih hm;omega
theorem i6 {L M : List (Int × Int)} (h : L.Perm M) (O : Int) (g : Int -> Nat) : cc L O g = cc M O g := by
 unfold cc wL;rw [h.length_eq];exact oA (h.map _) 0 0
def bN : List Nat -> Nat
 | [] => 0
 | b :: r => b + 2 * bN r
theorem oS : ∀ {bs : List Nat}, (∀ b ∈ bs, b <= 1) -> bN bs < 2 ^ bs.length
 | [], _ => Nat.one_pos
 | b :: r, h => by
  have h1 := h b (Ù ..);have h2 := oS (bs := r) λ c hc => h c (Ó _ hc);show b + 2 * bN r < 2 ^ (r.length + 1);rw [ň];omega
theorem iX : ∀ {bs : List Nat}, (∀ b ∈ bs, b <= 1) -> cC bs.length (bN bs) = bs.sum
 | [], _ => rfl
 | b :: r, h => by
  have h1 := h b (Ù ..);have ih := iX (bs := r) λ c hc => h c (Ó _ hc);show (b + 2 * bN r) % 2 + cC r.length ((b + 2 * bN r) / 2) = _;rw [show (b + 2 * bN r) % 2 = b by omega, show (b + 2 * bN r) / 2 = bN r by omega, ih, ß]
def Eg (z : (Int × Int) × Nat) : Int := if z.2 = 1 then z.1.2 else z.1.1
theorem iT : ∀ {W : List (Int × Int)} {bs : List Nat}, W.length = bs.length -> (∀ b ∈ bs, b <= 1) -> kI W (bN bs) = ((W.zip bs).map Eg).sum
 | [], [], _, _ => rfl
 | p :: W, b :: r, l, h => by
  have h1 := h b (Ù ..);have ih := iT (W := W) (bs := r) (by simpa using l) λ c hc => h c (List.mem_cons_of_mem _ hc)
  show (if (b + 2 * bN r) % 2 = 1 then p.2 else p.1) + kI W ((b + 2 * bN r) / 2) = _
  rw [show (b + 2 * bN r) % 2 = b by omega, show (b + 2 * bN r) / 2 = bN r by omega, ih, List.zip_cons_cons, É, ß]
  rfl
def dw : Nat -> Nat -> List Nat
 | 0, _ => []
 | n + 1, x => x % 2 :: dw n (x / 2)
theorem er : ∀ (n x : Nat), (dw n x).length = n
 | 0, _ => rfl
 | n + 1, x => by show (dw n (x / 2)).length + 1 = n + 1; rw [er n]
theorem iC : ∀ {n x b : Nat}, b ∈ dw n x -> b <= 1
 | n + 1, x, b, h => by
  rcases Ñ.mp h with rfl | h
  ·omega
  ·exact iC h
theorem gw : ∀ {n x : Nat}, x < 2 ^ n -> bN (dw n x) = x
 | 0, x, h => by
  rw [ś] at h;show 0 = x;omega
 | n + 1, x, h => by
  rw [ň] at h;show x % 2 + 2 * bN (dw n (x / 2)) = x;rw [gw af];omega
theorem jM : ∀ {n x i : Nat}, i < n -> (dw n x)[i]? = some (x / 2 ^ i % 2)
 | n + 1, x, 0, h => by
  show some _ = _;rw [ś, C_]
 | n + 1, x, i + 1, h => by
  show (dw n (x / 2))[i]? = _;rw [jM af, dR]
theorem qD {xs ys : List Int} (h : xs.Perm ys) : xs.sum = ys.sum := by
 induction h with
 | nil => rfl
 | cons x _ ih => rw [ß, ß, ih]
 | swap x y l => rw [ß, ß, ß, ß]; omega
 | trans _ _ a b => exact a.trans b
theorem qB {xs ys : List Nat} (h : xs.Perm ys) : xs.sum = ys.sum := by
 induction h with
 | nil => rfl
 | cons x _ ih => rw [ß, ß, ih]
 | swap x y l => rw [ß, ß, ß, ß]; omega
 | trans _ _ a b => exact a.trans b
theorem iQ {α β γ : Type} (f : γ -> α) (g : γ -> β) : ∀ xs : List γ, (xs.map f).zip (xs.map g) = xs.map λ x => (f x, g x)
 | [] => rfl
 | x :: xs => by rw [É, É, List.zip_cons_cons, iQ f g xs, É]
theorem dQ {α : Type} (L : List α) (d : α) : (List.range L.length).map (λ i => L.getD i d) = L := by
 refine List.ext_getElem? λ i => ?_;rw [Ê];by_cases h : i < L.length
 ·rw [Io h, Option.map_some, Ħ, Ã h];rfl
 ·rw [ť (by rw [ÿ]; omega), ť af]
  rfl
section
variable {L : List (Int × Int)} {od : List Nat} {x : Nat}
def cW (L : List (Int × Int)) (od : List Nat) : List (Int × Int) := od.map λ i => L.getD i (0, 0)
def bn (x : Nat) (od : List Nat) : List Nat := od.map λ i => x / 2 ^ i % 2
theorem dk (h : od.Perm (List.range L.length)) : (cW L od).Perm L := by
 have := h.map λ i => L.getD i (0, 0);rw [dQ] at this;exact this
theorem jb (n x : Nat) : (List.range n).map (λ i => x / 2 ^ i % 2) = dw n x := by
 refine List.ext_getElem? λ i => ?_;rw [Ê];by_cases h : i < n
 ·rw [Io h, jM h];rfl
 ·rw [ť (by rw [ÿ]; omega), ť (by rw [er]; omega)]
  rfl
theorem iY : ∀ b ∈ bn x od, b <= 1 := λ b hb => by
 obtain ⟨i, _, rfl⟩ := ò.mp hb;omega
theorem mJ (h : od.Perm (List.range L.length)) (hx : x < 2 ^ L.length) : cC L.length (bN (bn x od)) = cC L.length x := by
 have l : (bn x od).length = L.length := by unfold bn; rw [Å, h.length_eq, ÿ]
 have e1 := iX (bs := bn x od) iY;rw [l] at e1;have e2 := iX (bs := dw L.length x) λ b hb => iC hb;rw [er, gw hx] at e2;rw [e1, e2, <- jb];exact qB (h.map _)
theorem tz (f : Int × Int -> Int × Int) (h : od.Perm (List.range L.length)) (hx : x < 2 ^ L.length) : kI ((cW L od).map f) (bN (bn x od)) = kI (L.map f) x := by
 have l : (bn x od).length = L.length := by unfold bn; rw [Å, h.length_eq, ÿ]
 have lt : (cW L od).length = L.length := (dk h).length_eq;rw [iT (by rw [Å, lt, l]) iY]
 have e2 := iT (W := L.map f) (bs := dw L.length x) (by rw [Å, er]) λ b hb => iC hb
 rw [gw hx] at e2;rw [e2];have z1 : ((cW L od).map f).zip (bn x od) = od.map λ i => (f (L.getD i (0, 0)), x / 2 ^ i % 2) := by
  unfold cW bn;rw [ó];exact iQ (f ∘ λ i => L.getD i (0, 0)) (λ i => x / 2 ^ i % 2) od
 have z2 : (L.map f).zip (dw L.length x) = (List.range L.length).map λ i => (f (L.getD i (0, 0)), x / 2 ^ i % 2) := by
  have z := iQ (f ∘ λ i => L.getD i (0, 0)) (λ i => x / 2 ^ i % 2) (List.range L.length);rw [<- ó, dQ, jb] at z;exact z
 rw [z1, z2];exact qD ((h.map _).map _)
end
def DK (id : Nat) (js : List Nat) (f : Int -> Int -> Bool) (b c : Nat) : TE := fo (Bw (aq id)) 1 js (bf 0) (tB (bc (iA λ i j => .bl (f i j)) (aq 0) (aq b))) (gD (aq c) (aq 0))
def iD (f : Int -> Bool) (ps : List (Int × Nat)) : List Int := (ps.filter λ q => f q.1).map λ q => ((q.2 : Nat) : Int)
theorem eN (f : Int -> Bool) : ∀ ps : List (Int × Nat), (iD f ps).sum = ((dS (λ v => if f v = true then 1 else 0) ps : Nat) : Int)
 | [] => rfl
 | p :: r => by
  have ih := eN f r;unfold iD at ih ⊢;show _ = ((p.2 * (if f p.1 = true then 1 else 0) + dS _ r : Nat) : Int)
  rw [Ĥ];by_cases h : f p.1 = true
  ·rw [Õ h, Õ h, É, ß, ih];omega
  ·rw [Ë h, Ë h, ih];omega
theorem i7 (f : Int -> Bool) (ps : List (Int × Nat)) (q : Int × Nat) : iD f (ps ++ [q]) = iD f ps ++ (if f q.1 = true then [((q.2 : Nat) : Int)] else []) := by
 unfold iD;rw [Ĝ, Ø]
 congr 1
 by_cases h : f q.1 = true
 ·rw [Õ h];simp [h]
 ·rw [Ë h];simp [h]
theorem uN {id : Nat} {js : List Nat} {f : Int -> Int -> Bool} {b c : Nat} {σ cap : St} {H : Hp} {Q : VK} {d : Addr} {s : Int} {ps : List (Int × Nat)} (hi : σ[id]? = some (some (.ref d))) (hc : bA js σ = cap) (hb : ∀ v, (some v :: cap)[b]? = some (some (.int s))) (OD : ∀ v, (some v :: cap)[c]? = some (some (.ref d))) (rd : Rd H d (.dK (bZ Key.inl ps))) (ok : ρ ps) (sm : ps.length < 16000000)
  (q : ∀ D H', H D = none -> (∀ b o, H b = some o -> b ≠ d -> H' b = some o) -> Rd H' d (.dK (bZ Key.inl ps)) -> H' D = some (.lst ((iD (λ v => f v s) ps).map V.int)) -> Q (.ref D) H') : DK id js f b c σ H Q := by
 refine ⟨_, hi, d, .dK (bZ Key.inl ps), rfl, True.intro, rd, λ ob H2 fz D hD => ?_⟩;rw [hc];have ln : dU (.dK (bZ Key.inl ps)) = ps.length := eQ;have UB : D ≠ d := λ z => by rw [z, fz.1] at hD; cases hD
 refine fO (n := ps.length) (λ i ys H' => Ext H2 H' /\ ys = (iD (λ v => f v s) (ps.take i)).map V.int) (by rw [Ú]; omega) ⟨Ext.new hD, rfl⟩ (λ i ys H' hi p => ⟨p.1 _ _ fz.1, by rw [ln]; exact hi⟩) (λ ys H' p => ⟨p.1 _ _ fz.1, by rw [ln]; exact Ä _⟩) ?_ ?_
 ·rintro i x ys H' H3 hi ⟨rfl, v, pr⟩ ly Ę ⟨x', rfl⟩ os ř N k;rcases pr with ⟨kvs, kk, e, hk, rfl⟩ | ⟨_, _, _, e, _⟩
  ·cases e;obtain ⟨z, ez, rfl, rfl⟩ := kA hk
   match os, ř with
   | [o0], _ =>
    have g1 : π H3 d (.int z.1) (some (.int (z.2 : Nat))) := by
     refine .inl ⟨bZ Key.inl ps, .inl z.1, .inr ⟨ob, x' _ _ fz.1⟩, rfl, ?_⟩;rcases gc c7 z.1 (ps := ps) with ⟨_, _, h3⟩ | ⟨h1, _⟩
     ·exact absurd (ò.mpr ⟨z, á ez, rfl⟩) h3
     ·rw [h1, gZ ok.nd (á ez)]
    refine ⟨⟨[some (.int z.1)], rfl, rfl⟩, _, rfl, _, hb _, _, _, rfl, rfl, _, rfl, λ e => ?_, λ e => ?_⟩
    ·refine k _ _ ⟨x', ?_⟩ af Ę;rw [aB ez, i7, Ë (by rw [e]; decide), ü]
    ·refine ⟨_, OD _, _, rfl, d, _, rfl, g1, Ę, k _ _ ⟨aT _ x' hD, ?_⟩ (by rw [Ï, ĩ]; omega) aQ⟩
     rw [aB ez, i7, Õ e, Ø];rfl
  ·cases e
 ·rintro ys H' ly Ę ⟨x', rfl⟩;rw [ĉ] at Ę;refine q D H' (by rw [<- fz.2 D UB]; exact hD) (λ b o e n => x' _ _ (by rw [fz.2 b n]; exact e)) (.inr ⟨ob, x' _ _ fz.1⟩) Ę
section
variable {P : Program} {w : World} {K : Frag} {mg : bu} {base : Heap}
abbrev D5 : Stmt := cD 18
def y7 : Sp := λ vs H Q _ => ∃ x i : Nat, vs = [.int (x : Nat), .int (i : Nat)] /\ Q (.int ((x / 2 ^ i % 2 : Nat) : Int)) H
theorem Ex : ai ["dealing", "at"] ["dealing", "at"] (aa D5) := aS
theorem Bn {f : Addr} {fd : FuncData} (F : Ŏ K "hand_of" "hand_of" D5 f fd) : az P w K mg base ar 1 f fd ["dealing", "at"] y7 := by
 refine F.ok Ex (λ vs H Q E h => ?_) (λ ë A outer s H vs Q E hr h => ?_)
 ·obtain ⟨x, i, rfl, _⟩ := h;rfl
 obtain ⟨x, i, rfl, q⟩ := h;refine ⟨_, bw (cq (aj ie (aj hI (pv 0) (pv 1)) aw)), ?_⟩;exact ib (i := 0) (j := 1) rfl rfl q
abbrev DV : Stmt := cD 17
def AD (CD : Addr) : Sp := λ vs H Q E => ∃ v d, ∃ n : Nat, vs = [v, .int (n : Nat)] /\ İ H v d /\ n <= 20 /\ (dB 0 (((2 ^ n : Nat) : Int) - 1) d = true -> Q .Ė H) /\ (dB 0 (((2 ^ n : Nat) : Int) - 1) d = false -> lj CD "found" v H E)
theorem EF : ai ["thing", "folk"] ["thing", "folk"] (aa DV) := aS
theorem two_pow_cast (n : Nat) : (1 : Int) * 2 ^ ((n : Nat) : Int).toNat = ((2 ^ n : Nat) : Int) := by
 rw [Int.one_mul, ċ];simp
theorem CT {f a1 D CD fC : Addr} {fd d1 N5 : FuncData} (F : Ŏ K "need_hands" "need_hands" DV f fd) (B : Ŀ K D) (T : mV K mg D "NoDealing" "found" CD fC N5) (A1 : Df P w K mg base ar 2 "is_whole" ["thing", "low", "high"] (cA K) a1 d1) : az P w K mg base (iG P w) 3 f fd ["thing", "folk"] (AD CD) := by
 refine wn F EF λ ë A outer s H vs Q E hr h => ?_;obtain ⟨v, d, n, rfl, rd, HV, q1, q2⟩ := h;refine ⟨_, bw (bp (bh (ba (bY A1 hr ao (ae (pv 0) (ae aw (ae (aj bF (aj iU aw (pv 1)) aw) ap)))))) (bw (fS B T.cls (T.ok P w base) hr T.bi rfl T.Ou (pv 0))) hV), ?_⟩;refine ⟨_, rfl, _, rfl, _, _, rfl, rfl, ⟨af, af, am⟩, _, _, rfl, rfl, v, 0, ((2 ^ n : Nat) : Int) - 1, ?_, rd.th, _, rfl, ?_⟩
 ·show [v, V.int 0, V.int ((1 : Int) * 2 ^ ((n : Nat) : Int).toNat - 1)] ++ [] = _;rw [two_pow_cast];rfl
 rw [rd.Kt];cases e : dB 0 (((2 ^ n : Nat) : Int) - 1) d with
 | true => exact dA (q1 e)
 | false => exact hG ⟨_, rfl, λ e' dx h1 h2 nd => pA nd (q2 e e' dx h1 h2 nd)⟩
abbrev A8 : Stmt := cD 19
def zt : Sp := λ vs H Q _ => ∃ x n : Nat, vs = [.int (x : Nat), .int (n : Nat)] /\ n <= 20 /\ ∀ l H', H l = none -> Ext H H' -> H' l = some (.lst ((fM n x).map λ i => V.int (i : Nat))) -> Q (.ref l) H'
abbrev G8 : List Str := ["dealing", "folk"]
theorem EB : ai G8 ["dealing", "folk"] (aa A8) := aS
abbrev BF : Scope := dh [("at", .local), ("hand_of", .globalImplicit), ("dealing", .free)]
theorem Eh : ((["at"] : List Str) ++ (["dealing"] : List Str)).Nodup := aJ
section
variable {f : Addr} {ë : Value} {A : Around} {outer : List Env} {s : Shared} {H : Hp} {E : XK}
theorem yM : aW (ax ar P w K mg base G8 "ones_of" (aa A8) f ë A outer s H E).Ķ BF [("dealing", s.heap.objs.size + 1)] ["at"] ["dealing"] [0] :=
 bz (M := ["dealing"]) (L := [(".0", .local), ("at", .local), ("hand_of", .globalImplicit), ("dealing", .cell)]) rfl rfl aJ aJ aJ rfl rfl rfl aJ aJ rfl rfl rfl
end
def Cv : TT := tB (bc B6 (c5 y7 [] E0 (ac (aq 1) (ac (aq 0) aC))) (tC (.int 1)))
theorem Bu {f a1 : Addr} {fd d1 : FuncData} (F : Ŏ K "ones_of" "ones_of" A8 f fd) (A1 : Df P w K mg base ar 1 "hand_of" ["dealing", "at"] y7 a1 d1) (mr : mg "range" = none) : az P w K mg base ar 2 f fd ["dealing", "folk"] zt := by
 refine F.ok EB (λ vs H Q E h => ?_) (λ ë A outer s H vs Q E hr h => ?_)
 ·obtain ⟨x, n, rfl, _⟩ := h;rfl
 obtain ⟨x, n, rfl, HV, q⟩ := h;refine cj (t := bQ (fo (l8 (ac (aq 1) aC)) 1 [0] (bf 0) Cv (aq 0))) (aP (cP (fR (te := aq 0) (tt := Cv) (g := bf 0) rfl yM ⟨cz rfl mr (ae (pv 1) ap)⟩ (λ s H C fp => by exact bM (i := 0) Eh rfl (.inl rfl)) (λ s H C fp => ⟨by exact aF oG (bY A1 hr ao (ae (pv 1) (ae (pv 0) ap))) aw (aI _)⟩) (λ s H C fp => ⟨by exact pv 0⟩)))) ⟨?_⟩
 refine ⟨_, rfl, _, rfl, af, af, λ D hD => ?_⟩;refine fO (n := n) (λ i ys H' => Ext H H' /\ ys = ((List.range i).filter λ i => decide (x / 2 ^ i % 2 = 1)).map λ i => V.int (i : Nat)) (by rw [Ú]; omega) ⟨Ext.new hD, rfl⟩ (λ i ys H' hi p => by show i < _; rw [ċ]; exact hi) (λ ys H' p => by show _ <= _; rw [ċ]; exact Ä _) ?_ ?_
 ·rintro i y ys H' H3 hi ⟨rfl, rfl⟩ ly Ę ⟨x', rfl⟩ os ř N kk
  match os, ř with
  | [p0], _ =>
   refine ⟨⟨[_], rfl, rfl⟩, _, rfl, _, rfl, x, i, ?_, rfl, _, rfl, λ e => ?_, λ e => ?_⟩
   ·show [V.int (x : Nat), V.int (0 + (i : Int))] = _;rw [Ş]
   ·refine kk _ _ ⟨x', ?_⟩ af Ę;have ne : ¬ x / 2 ^ i % 2 = 1 := λ z => by rw [z] at e; cases e
    rw [Ĺ, Ĝ];simp [ne]
   ·have eq : x / 2 ^ i % 2 = 1 := by
     have := ì e;injection this with this
     omega
    refine ⟨_, rfl, Ę, kk _ _ ⟨aT _ x' hD, ?_⟩ (by rw [Ï, ĩ]; omega) aQ⟩
    rw [Ĺ, Ĝ, Ø];simp [eq]
 ·rintro ys H' ly Ę ⟨x', rfl⟩;exact q D H' hD x' Ę
end
def B5 (H : Hp) (r : Addr) (h g T : Nat) : Prop := ∃ v1 v2, H r = some (.tup [v1, v2]) /\ Jc H v1 (bB h T) (aM h T) /\ Jc H v2 (bB g T) (aM g T)
theorem nq (s : Int) : (λ v => if decide (v ≥ s) = true then 1 else 0) = m4 s := by
 funext v
 unfold m4;by_cases h : s <= v
 ·rw [Õ h, Õ (Î h)]
 ·rw [Ë h, Ë (by simpa using h)]
theorem nS (s : Int) : (λ v => if decide (v <= s) = true then 1 else 0) = mF s := by
 funext v
 unfold mF;by_cases h : v <= s
 ·rw [Õ h, Õ (Î h)]
 ·rw [Ë h, Ë (by simpa using h)]
theorem kD {g h : Int -> Nat} (e : ∀ v, g v <= h v) : ∀ ps : List (Int × Nat), dS g ps <= dS h ps
 | [] => Ä _
 | p :: r => Nat.add_le_add (ź _ (e p.1)) (kD e r)
section
variable {P : Program} {w : World} {K : Frag} {mg : bu} {base : Heap}
abbrev xa : Stmt := cD 37
def yD (K : Frag) : Sp := λ vs H Q _ => ∃ (O s : Int) (p : Addr) (a b c d : Nat), vs = [.int O, .ref p, .int s] /\ ĕ K H p [.int (a : Nat), .int (b : Nat), .int (c : Nat), .int (d : Nat)] /\ a + b + c + d <= 20 /\ 0 <= O /\ O <= (a + b + c + d : Nat) /\
 ∀ r H' ps, H r = none -> Ext H H' -> j0 O a b c d ps -> B5 H' r (dS (m4 s) ps) (dS (mF s) ps) (dS (λ _ => 1) ps) -> Q (.ref r) H'
abbrev Ej : List Str := ["ones", "counts", "seen", "values", "whole", "high", "low"]
theorem Nx : ai Ej ["ones", "counts", "seen"] (aa xa) := aS
abbrev C0 : Scope := dh [("value", .local), ("seen", .free), ("values", .free)]
theorem CA : ((["value"] : List Str) ++ (["seen", "values"] : List Str)).Nodup := aJ
abbrev GR : TE := DK 3 [2, 3] (λ i j => decide (i ≥ j)) 1 2
abbrev Go : TE := DK 3 [2, 3] (λ i j => decide (i <= j)) 1 2
def zZ (i j : Nat) : TE := c5 qp [] E0 (ac (aq i) (ac (aq j) aC))
def HK (K : Frag) : TS := bL (cQ (c5 (tP K) [] E0 (ac (aq 0) (ac (aq 1) aC))) (bf 3)) (bL (cQ (eY sQ (ac (t9 (aq 3)) aC)) (bf 4)) (bL (cQ (eY (fK K) (ac GR aC)) (bf 5)) (bL (cQ (eY (fK K) (ac Go aC)) (bf 6)) (bQ (dE (ac (zZ 5 4) (ac (zZ 6 4) aC)))))))
section
variable {f a1 a2 : Addr} {d1 d2 : FuncData} {ë : Value} {A : Around} {outer : List Env} {s : Shared} {H : Hp} {E : XK}
theorem uJ : aW (ax ar P w K mg base Ej "both_shares" (aa xa) f ë A outer s H E).Ķ C0 [("values", s.heap.objs.size + 2), ("seen", s.heap.objs.size + 1)] ["value"] ["seen", "values"] [2, 3] :=
 bz (M := ["values", "seen"]) (L := [(".0", .local), ("value", .local), ("seen", .cell), ("values", .cell)]) rfl rfl aJ aJ aJ rfl rfl rfl aJ aJ rfl rfl rfl
theorem yh (A1 : Df P w K mg base ar 4 "value_ways" ["ones", "counts"] (tP K) a1 d1) (A2 : Df P w K mg base ar 4 "share_of" ["top", "bottom"] qp a2 d2) (ms : mg "sum" = none) (hr : mR 4 "both_shares" xa A s f ë) :
  Bx (Ο (ax ar P w K mg base Ej "both_shares" (aa xa) f ë A outer s H E).Ķ (av xa) (HK K)) := by
 have nd := Nx.nd;have hu : (A.deeper (PyProof.Rows.envOfC "both_shares" (aa xa) s.heap.objs.size f ë)).units + 1 < cLine := by have := hr.un; omega
 exact dv ⟨cM (i := 3) nd rfl (Or.inr rfl) (bY A1 hr ao (ae (pv 0) (ae (pv 1) ap)))⟩
  (dv ⟨cM (i := 4) nd rfl (Or.inl rfl) (ah (eF rfl) rfl ms Ý (ae (kR (pv 3)) ap))⟩
  (dv ⟨cM (i := 5) nd rfl (Or.inl rfl) (ah (bR rfl) rfl ms Ý (ae (eJ (tt := tB (bc (iA λ i j => .bl (decide (i ≥ j))) (aq 0) (aq 1))) (te := gD (aq 2) (aq 0)) (g := bf 0) rfl uJ (gX (pv 3)) (λ s H C fp => by exact bM (i := 0) CA rfl (.inl rfl)) (λ s H C fp => by exact aF lB (pv 0) (pv 1) (aI _)) (λ s H C fp => by exact eG hu (pv 2) (pv 0))) ap))⟩
  (dv ⟨cM (i := 6) nd rfl (Or.inl rfl) (ah (bR rfl) rfl ms Ý (ae (eJ (tt := tB (bc (iA λ i j => .bl (decide (i <= j))) (aq 0) (aq 1))) (te := gD (aq 2) (aq 0)) (g := bf 0) rfl uJ (gX (pv 3)) (λ s H C fp => by exact bM (i := 0) CA rfl (.inl rfl)) (λ s H C fp => by exact aF l9 (pv 0) (pv 1) (aI _)) (λ s H C fp => by exact eG hu (pv 2) (pv 0))) ap))⟩
  (aP ⟨cq (aO (ae (bY A2 hr ao (ae (pv 5) (ae (pv 4) ap))) (ae (bY A2 hr ao (ae (pv 6) (ae (pv 4) ap))) ap)))⟩))))
end
theorem rG {i j : Nat} {σ : St} {H : Hp} {Q : VK} {x y : Nat} (hi : σ[i]? = some (some (.int (x : Nat)))) (hj : σ[j]? = some (some (.int (y : Nat)))) (y1 : 1 <= y) (xy : x <= y) (sz : Sz y) (q : ∀ v H', Ext H H' -> Jc H' v (bB x y) (aM x y) -> Q v H') : zZ i j σ H Q :=
 ⟨_, hi, _, hj, x, y, rfl, y1, xy, sz, λ p hp => q _ _ (Ext.new hp) ⟨p, rfl, aQ⟩⟩
theorem pU {te : TE} {σ : St} {H : Hp} {i : Nat} {u : TS} {D : aY} (h : te σ H λ x H1 => fK K [x] H1 λ v H2 => u D (σ.set i (some v)) H2) : bL (cQ (eY (fK K) (ac te aC)) (bf i)) u D σ H := h
theorem B7 {f a1 a2 : Addr} {fd d1 d2 : FuncData} (F : Ŏ K "both_shares" "both_shares" xa f fd) (A1 : Df P w K mg base ar 4 "value_ways" ["ones", "counts"] (tP K) a1 d1) (A2 : Df P w K mg base ar 4 "share_of" ["top", "bottom"] qp a2 d2) (ms : mg "sum" = none) : az P w K mg base ar 5 f fd ["ones", "counts", "seen"] (yD K) := by
 refine F.ok Nx (λ vs H Q E h => ?_) (λ ë A outer s H vs Q E hr h => ?_)
 ·obtain ⟨O, s, p, a, b, c, d, rfl, _⟩ := h;rfl
 obtain ⟨O, s', p, a, b, c, d, rfl, hp, HV, o1, o2, q⟩ := h;refine cj (yh A1 A2 ms hr) ⟨?_⟩;refine ⟨_, rfl, _, rfl, O, p, a, b, c, d, rfl, hp, af, af, af, af, λ r H1 ps JA x1 Δ ws => ?_⟩;have em : ((bZ Key.inl ps).map (·.2)) = (ps.map λ q => ((q.2 : Nat) : Int)).map V.int := by
  unfold bZ;rw [ó, ó];rfl
 refine ⟨_, rfl, r, _, rfl, .inl Δ, λ vp NQ => ?_⟩;have x2 := Ext.new (o := xv vp r) NQ;refine ⟨vp, r, _, ps.map λ q => ((q.2 : Nat) : Int), rfl, aQ, .inl (x2 _ _ Δ), em, ?_⟩;rw [j8];have sa := pK (O := O) (a := a) (b := b) (c := c) (d := d) o1 o2;rw [<- ws.2 λ _ => 1] at sa;have Xt := lH ws HV;have LU : dS (m4 s') ps <= dS (λ _ => 1) ps := kD (λ v => by unfold m4; split <;> omega) ps
 have Oz : dS (mF s') ps <= dS (λ _ => 1) ps := kD (λ v => by unfold mF; split <;> omega) ps
 have sz : Sz (dS (λ _ => 1) ps) := Ě (Ò sa.2 (æ am HV)) (B_ am am);refine pU (uN (s := s') (cap := [some (.int s'), some (.ref r)]) rfl rfl (λ _ => rfl) (λ _ => rfl) (.inl (x2 _ _ Δ)) ws.1 af λ D1 H2 MR k2 T4 h2 => ⟨D1, _, rfl, û.of h2, ?_⟩);rw [eN, nq];refine pU (uN (s := s') (cap := [some (.int s'), some (.ref r)]) rfl rfl (λ _ => rfl) (λ _ => rfl) T4 ws.1 af λ D2 H3 Qk k3 Xr h3 => ⟨D2, _, rfl, û.of h3, ?_⟩);rw [eN, nS];have xx : Ext H H3 := λ b' o e => by
  have nb : b' ≠ r := λ z => by rw [z, JA] at e; cases e
  exact k3 _ _ (k2 _ _ (x2 _ _ (x1 _ _ e)) nb) nb
 refine rG (i := 5) (j := 4) rfl rfl sa.1 LU sz λ v1 H4 x4 s1 => rG (i := 6) (j := 4) rfl rfl sa.1 Oz sz λ v2 H5 x5 s2 => ⟨ft, λ t ht => ?_⟩;have x6 := Ext.new (o := .tup [v1, v2]) ht;have X6 := xx.trans (x4.trans x5);have PN : H t = none := by
  cases e : H t with
  | none => rfl
  | some o => rw [X6 _ _ e] at ht; cases ht
 exact q t _ ps PN (X6.trans x6) ws ⟨v1, v2, aQ, (s1.kp x5.Υ).kp x6.Υ, s2.kp x6.Υ⟩
end
theorem iI {L : List (Int × Int)} (bt : bD L) : L.length = L.count (1, 0) + L.count (0, 1) + L.count (1, 1) + L.count (0, 0) := by
 have := (gm bt).length_eq;rw [kb] at this;exact this
theorem mj (L : List (Int × Int)) : xt (L.map pD) = sD L := by
 unfold xt sD;rw [cy, cy, cy, cy]
theorem x9 {L : List (Int × Int)} (bt : bD L) (l1 : 1 <= L.length) (Ň : L.length <= 20) : qc (.list (L.map pD)) = true := by
 show (decide (1 <= (L.map pD).length) && decide ((L.map pD).length <= 20) && (L.map pD).all bH) = true;rw [dY bt, Å, Î l1, Î Ň];rfl
theorem rS {d : PyData} (h : qc d = true) : ∃ L, d = .list (L.map pD) /\ bD L /\ 1 <= L.length /\ L.length <= 20 := by
 obtain ⟨ds, rfl, l1, Ň, al⟩ := wz h;have : ∀ ds : List PyData, ds.all bH = true -> ∃ L, ds = L.map pD /\ bD L := by
  intro ds
  induction ds with
  | nil => exact λ _ => ⟨[], rfl, λ _ h => nomatch h⟩
  | cons d ds ih =>
   intro h;rw [į, ñ] at h;obtain ⟨L, rfl, bt⟩ := ih h.2;obtain ⟨x, y, rfl, hx, hy⟩ := lu h.1;refine ⟨(x, y) :: L, rfl, λ p hp => ?_⟩;rcases Ñ.mp hp with rfl | hp
   ·show (x = 0 \/ x = 1) /\ (y = 0 \/ y = 1);omega
   ·exact bt p hp
 obtain ⟨L, rfl, bt⟩ := this ds al;rw [Å] at l1 Ň;exact ⟨L, rfl, bt, l1, Ň⟩
theorem og : ∀ {L M : List (Int × Int)}, L.map pD = M.map pD -> L = M
 | [], [], _ => rfl
 | [], _ :: _, h => by cases h
 | _ :: _, [], h => by cases h
 | p :: L, q :: M, h => by
  rw [É, É] at h;injection h with h1 h2
  rw [og h2];obtain ⟨a, b⟩ := p;obtain ⟨c, d⟩ := q;unfold pD at h1;injection h1 with h1
  injection h1 with h1 h3
  injection h1 with h1
  injection h3 with h3 _
  injection h3 with h3
  have h1 : a = c := h1;have h3 : b = d := h3;rw [h1, h3]
theorem pX {H : Hp} : ∀ {xs : List V} {L : List (Int × Int)}, è H xs (L.map pD) -> Paired (Jd H) xs L
 | _, [], .nil => .nil
 | _, p :: L, .cons r t => by
  refine .cons ?_ (pX t);obtain ⟨a, xs, rfl, ha, rs⟩ := fY r;cases rs with
  | cons r1 rs =>
   cases rs with
   | cons r2 rs =>
    cases rs;cases r1;cases r2;exact ⟨a, rfl, ha⟩
theorem Cj {H : Hp} {v : V} {L : List (Int × Int)} (h : İ H v (.list (L.map pD))) : ∃ a, v = .ref a /\ Ī H a L := by
 obtain ⟨a, xs, rfl, ha, rs⟩ := oV h;exact ⟨a, rfl, xs, ha, pX rs⟩
def wX (L : List (Int × Int)) (x : Nat) : Int := kI (wL L ((cC L.length x : Nat) : Int)) x
abbrev oX (L : List (Int × Int)) (x : Nat) : Int := ((cC L.length x : Nat) : Int)
def AF (H : Hp) (r : Addr) (L : List (Int × Int)) (x : Nat) : Prop := B5 H r (cc L (oX L x) (m4 (wX L x))) (cc L (oX L x) (mF (wX L x))) (cc L (oX L x) λ _ => 1)
section
variable {P : Program} {w : World} {K : Frag} {mg : bu} {base : Heap} {CL CD : Addr}
abbrev Bi : Stmt := cD 38
def kq (CL CD : Addr) : Sp := λ vs H Q E => ∃ (v y : V) (d dy : PyData), vs = [v, y] /\ İ H v d /\ İ H y dy /\ (∀ ds, d = .list ds -> ds.length < 10000) /\ (qc d = false -> ∀ H', Ext H H' -> lj CL "found" v H' E) /\
 ∀ L, d = .list (L.map pD) -> qc d = true -> (dB 0 (((2 ^ L.length : Nat) : Int) - 1) dy = false -> ∀ H', Ext H H' -> lj CD "found" y H' E) /\ ∀ x : Nat, dy = .int (x : Nat) -> x < 2 ^ L.length -> ∀ r H', H r = none -> Ext H H' -> AF H' r L x -> Q (.ref r) H'
abbrev G3 : List Str := ["listing", "dealing", "counts", "dealt"]
theorem Nu : ai G3 ["listing", "dealing"] (aa Bi) := aS
abbrev BA : Scope := dh [("at", .local), ("listing", .free)]
theorem FT : ((["at"] : List Str) ++ (["listing"] : List Str)).Nodup := aJ
def ww (K : Frag) : TE := fm (cU K (c5 zt [] E0 (ac (aq 1) (ac (eY (kZ K) (ac (aq 0) aC)) aC)))) 1 [0] (bf 0) (bc (gM K) (aq 1) (aq 0))
def HD (K : Frag) (CL CD : Addr) (E : XK) : TS := bL (oM (c5 (An CL) [] E (ac (aq 0) aC))) (bL (oM (c5 (AD CD) [] E (ac (aq 1) (ac (eY (kZ K) (ac (aq 0) aC)) aC)))) (bL (cQ (c5 sE [] E0 (ac (aq 0) aC)) (bf 2)) (bL (cQ (c5 sE [] E0 (ac (ww K) aC)) (bf 3))
 (bQ (c5 (yD K) [] E0 (ac (eY (xw K) (ac (aq 3) aC)) (ac (aq 2) (ac (c5 (xr K) [] E0 (ac (aq 2) (ac (aq 3) aC))) aC))))))))
variable {f a1 a2 a3 a4 a5 a6 : Addr} {fd d1 d2 d3 d4 d5 d6 : FuncData}
theorem yk {ë : Value} {A : Around} {outer : List Env} {s : Shared} {H : Hp} {E : XK} : aW (qX P w K mg base G3 "listing_shares" (aa Bi) f ë A outer s H E) BA [("listing", s.heap.objs.size + 1)] ["at"] ["listing"] [0] :=
 bz (M := ["listing"]) (L := [(".0", .local), ("at", .local), ("listing", .cell)]) rfl rfl aJ aJ aJ rfl rfl rfl aJ aJ rfl rfl rfl
theorem zG {H : Hp} {l : Addr} {L : List (Int × Int)} {x : Nat} {Q : VK} {o2 o3 : Option V} (ls : Ī H l L) (Ň : L.length <= 20) (q : ∀ D H', H D = none -> Ext H H' -> Ī H' D (ce L x) -> Q (.ref D) H') : ww K [some (.ref l), some (.int (x : Nat)), o2, o3] H Q := by
 obtain ⟨xs, hl, pr⟩ := id ls;have lx : xs.length = L.length := å pr;unfold ww fm cU;refine ⟨_, rfl, _, rfl, l, xs, rfl, .inl (û.of hl), x, xs.length, rfl, af, λ i H1 hi x1 h1 => ?_⟩;rw [lx] at h1;refine ⟨i, rfl, ⟨_, û.of h1⟩, λ D hD => ?_⟩;have MS : H D = none := by
  cases e : H D with
  | none => rfl
  | some o => rw [x1 _ _ e] at hD; cases hD
 have li : (fM L.length x).length <= 20 := by
  unfold fM;exact Ò (v_ _ _) (by rw [ÿ]; exact Ň)
 refine dq (n := (fM L.length x).length) (λ i ys H' => Ext H1 H' /\ Paired (Jd H') ys (((fM L.length x).take i).map λ j => L.getD j (0, 0))) (by rw [Ú]; omega) ⟨Ext.new hD, .nil⟩ (λ i ys H' hi p => ⟨_, _, û.of (p.1 _ _ h1), by rw [Ê, Ã hi]; rfl⟩) (λ ys H' p => ⟨_, û.of (p.1 _ _ h1), by rw [Å]; exact Ä _⟩) ?_ ?_
 ·rintro i y ys H' H3 hi ⟨rfl, hy⟩ ly Ę ⟨x', pv⟩ os ř R kk;have ey := hy _ (û.of (x' _ _ h1));rw [Ê, Ã hi] at ey;have ey : V.int (((fM L.length x)[i] : Nat) : Int) = y := Ð ey;subst ey;have en : (fM L.length x)[i]? = some (fM L.length x)[i] := Ã hi;generalize (fM L.length x)[i] = j at en;have jl : j < L.length := vj (á en);have ex : xs[j]? = some (xs[j]'af) := Ã af;obtain ⟨z, ez, pz⟩ := ģ pr ex
  match os, ř with
  | [o0], _ =>
   refine ⟨⟨[_], rfl, rfl⟩, _, rfl, _, rfl, l, xs, _, _, rfl, rfl, û.of (x' _ _ (x1 _ _ hl)), zj ex, ?_⟩;have kl : jW H3 (ak H3 D (.lst (ys ++ [xs[j]'af]))) := fF Ę;refine kk _ _ Ę ⟨aT _ x' hD, ?_⟩;rw [aB en, Ø];refine be ?_ (Paired.imp' (λ _ _ r => r.kp kl) pv);show Jd _ _ (L.getD j (0, 0));rw [Ħ, ez];exact (pz.kp (x1.trans x').Υ).kp kl
 ·rintro ys H' ly Ę ⟨x', pv⟩;rw [ĉ, mQ] at pv;exact q D H' MS (x1.trans x') ⟨ys, Ę, pv⟩
theorem tF {sp : Sp} {te : TE} {u : TS} {De : aY} {σ : St} {i : Nat} {H : Hp} (h : te σ H λ x H1 => sp [x] H1 (λ v H2 => u De (σ.set i (some v)) H2) E0) : bL (cQ (c5 sp [] E0 (ac te aC)) (bf i)) u De σ H := h
theorem B3 (F : Ŏ K "listing_shares" "listing_shares" Bi f fd) (A1 : Df P w K mg base (iG P w) 5 "need_listing" ["thing"] (An CL) a1 d1) (A2 : Df P w K mg base (iG P w) 3 "need_hands" ["thing", "folk"] (AD CD) a2 d2) (A3 : Df P w K mg base ar 1 "counts_of" ["listing"] sE a3 d3) (A4 : Df P w K mg base ar 2 "ones_of" ["dealing", "folk"] zt a4 d4) (A5 : Df P w K mg base ar 1 "value_under" ["counts", "dealt"] (xr K) a5 d5) (A6 : Df P w K mg base ar 5 "both_shares" ["ones", "counts", "seen"] (yD K) a6 d6)
  (ml : mg "len" = none) (ms : mg "sum" = none) : az P w K mg base (iG P w) 6 f fd ["listing", "dealing"] (kq CL CD) := by
 refine wn F Nu λ ë A outer s H vs Q E hr h => ?_;obtain ⟨v, y, d, dy, rfl, rv, ry, sm, q1, q2⟩ := h;have nd := Nu.nd;have Δ : ė 1 _ := hr.mono am;have Jf : ė 2 _ := hr.mono am;have M9 : ė 3 _ := hr.mono am;refine cj (t := HD K CL CD E) (dv ⟨cr (bY A1 hr sO (ae (pv 0) ap))⟩
  (dv ⟨cr (bY A2 M9 sO (ae (pv 1) (ae (ah au rfl ml í (ae (pv 0) ap)) ap)))⟩
  (dv ⟨cM (i := 2) nd rfl (Or.inl rfl) (bY A3 Δ ao (ae (pv 0) ap))⟩
  (dv ⟨cM (i := 3) nd rfl (Or.inl rfl) (bY A3 Δ ao (ae (kc (te := bc (gM K) (aq 1) (aq 0)) (g := bf 0) rfl yk (bT (bY A4 Jf ao (ae (pv 1) (ae (ah au rfl ml í (ae (pv 0) ap)) ap)))) (λ s H C fp => by exact bM (i := 0) FT rfl (.inl rfl)) (λ s H C fp => by exact c6 kX (pv 1) (pv 0))) ap))⟩
  (aP ⟨cq (bY A6 hr ao (ae (ah (cV rfl) rfl ms Ý (ae (pv 3) ap)) (ae (pv 2) (ae (bY A5 Δ ao (ae (pv 2) (ae (pv 3) ap))) ap))))⟩))))) ⟨?_⟩
 refine ⟨_, rfl, v, d, rfl, rv, sm, λ lg H1 x1 => ?_, q1⟩;obtain ⟨L, rfl, bt, l1, Ň⟩ := rS lg;obtain ⟨qn, qg⟩ := q2 L rfl lg;obtain ⟨l, rfl, Pq⟩ := Cj rv;have ls := Pq.ext x1;obtain ⟨xs, hl, pr⟩ := id ls;have lx : xs.length = L.length := å pr;refine ⟨_, rfl, _, rfl, l, xs, rfl, .inl (û.of hl), y, dy, xs.length, rfl, ry.mono x1, af, ?_, ?_⟩
 ·rw [lx];intro ei;obtain ⟨X, rfl, i1, i2⟩ := cu ei;cases ry;obtain ⟨x, rfl⟩ : ∃ x : Nat, X = (x : Int) := ⟨X.toNat, af⟩;have hx : x < 2 ^ L.length := by
   have h2 : (x : Int) < ((2 ^ L.length : Nat) : Int) := af;exact Me.mp h2
  refine ⟨_, rfl, l, xs, L.map pD, rfl, hl, (My.Paired.Mr pr), dY bt, λ c H2 x2 hc => ?_⟩;rw [mj] at hc;show bL (cQ (c5 sE [] E0 (ac (ww K) aC)) (bf 3)) _ _ [some (.ref l), some (.int (x : Nat)), some (.ref c), none] H2;refine tF (zG (K := K) (ls.ext x2) Ň λ D H3 hD x3 UE => ?_);obtain ⟨zs, hz, pz⟩ := id UE;have SU := qv (x := x) bt;refine ⟨D, zs, (ce L x).map pD, rfl, hz, (My.Paired.Mr pz), dY SU, λ e H4 x4 he => ?_⟩;rw [mj] at he;have RT := x4 _ _ (x3 _ _ hc);have s1 := iI bt;have s2 := iI SU;rw [lI] at s2;have eO : ((((ce L x).count (1, 0) : Nat) : Int) + (((ce L x).count (0, 1) : Nat) : Int) + (((ce L x).count (1, 1) : Nat) : Int) + (((ce L x).count (0, 0) : Nat) : Int)) = oX L x := by
   show _ = ((cC L.length x : Nat) : Int);omega
  have en : ((((L.count (1, 0) : Nat)) : Int) + ((L.count (0, 1) : Nat) : Int) + ((L.count (1, 1) : Nat) : Int) + ((L.count (0, 0) : Nat) : Int)) = ((L.length : Nat) : Int) := af;have pl := io L.length x;have es : ([((((ce L x).count (1, 0) : Nat)) : Int), (((ce L x).count (0, 1) : Nat) : Int), (((ce L x).count (1, 1) : Nat) : Int), (((ce L x).count (0, 0) : Nat) : Int)] : List Int).sum = oX L x := by
   rw [<- eO];simp;omega
  refine ⟨_, rfl, e, [_, _, _, _], rfl, ĕ.of he, ?_⟩;rw [es];refine ⟨_, rfl, _, rfl, _, rfl, c, e, _, _, _, _, _, _, _, _, rfl, ĕ.of RT, ĕ.of he, ⟨af, af, af, af⟩, ?_⟩;rw [eO, en];have ev := pO (oX L x) ((L.length : Nat) : Int) (L := L) x bt;rw [<- ev];refine ⟨oX L x, wX L x, c, L.count (1, 0), L.count (0, 1), L.count (1, 1), L.count (0, 0), rfl, ĕ.of RT, af, by show (0 : Int) <= ((cC L.length x : Nat) : Int); omega, by show ((cC L.length x : Nat) : Int) <= _; omega, λ r H5 ps JA x5 ws tw => ?_⟩
  have L4 : ∀ g, dS g ps = cc L (oX L x) g := λ g => by
   unfold cc;rw [ws.2, kM bt, <- s1]
  rw [L4, L4, L4] at tw;have XX := x1.trans (x2.trans (x3.trans x4));have Jg : H r = none := by
   cases e : H r with
   | none => rfl
   | some o => rw [XX _ _ e] at JA; cases JA
  exact qg x rfl hx r H5 Jg (XX.trans x5) tw
 ·rw [lx];intro ei;exact qn ei H1 x1
end
def EW (K : Frag) (i j : Nat) (f : Int -> Int -> Bool) : TE := fo (cU K (aq i)) 1 [j] (bf 0) (tB (bc (iA λ i j => .bl (f i j)) (aq 0) (aq 1))) (aq 0)
theorem CS {K : Frag} {i j : Nat} {f : Int -> Int -> Bool} {σ : St} {H : Hp} {Q : VK} {v : Addr} {vals : List Int} {s : Int} (hi : σ[i]? = some (some (.ref v))) (hc : bA [j] σ = [some (.int s)]) (hv : H v = some (.lst (vals.map V.int))) (sm : vals.length < 16000000)
  (q : ∀ D H', H D = none -> Ext H H' -> H' D = some (.lst ((vals.filter λ x => f x s).map V.int)) -> Q (.ref D) H') : EW K i j f σ H Q := by
 refine ⟨_, hi, v, rfl, ⟨_, û.of hv⟩, λ D hD => ?_⟩;rw [hc];refine fO (n := vals.length) (λ i ys H' => Ext H H' /\ ys = ((vals.take i).filter λ x => f x s).map V.int) (by rw [Ú]; omega) ⟨Ext.new hD, rfl⟩ (λ i ys H' hi p => ⟨_, _, û.of (p.1 _ _ hv), by rw [Ê, Ã hi]; rfl⟩) (λ ys H' p => ⟨_, û.of (p.1 _ _ hv), by rw [Å]; exact Ä _⟩) ?_ ?_
 ·rintro i y ys H' H3 hi ⟨rfl, hy⟩ ly Ę ⟨x', rfl⟩ os ř N kk;have ey := hy _ (û.of (x' _ _ hv));rw [Ê, Ã hi] at ey;have ey : V.int vals[i] = y := Ð ey;subst ey;have en : vals[i]? = some vals[i] := Ã hi;generalize vals[i] = x at en
  match os, ř with
  | [o0], _ =>
   refine ⟨⟨[_], rfl, rfl⟩, _, rfl, _, rfl, _, _, rfl, rfl, _, rfl, λ e => ?_, λ e => ?_⟩
   ·refine kk _ _ ⟨x', ?_⟩ af Ę;rw [aB en, Ĝ, Ø];simp [e]
   ·refine ⟨_, rfl, Ę, kk _ _ ⟨aT _ x' hD, ?_⟩ (by rw [Ï, ĩ]; omega) aQ⟩
    rw [aB en, Ĝ, Ø];simp [e]
 ·rintro ys H' ly Ę ⟨x', rfl⟩;rw [ĉ] at Ę;exact q D H' hD x' Ę
theorem iH (p : Int -> Bool) : ∀ vs : List Int, (vs.filter p).length = (vs.map λ x => if p x = true then 1 else 0).sum
 | [] => rfl
 | x :: vs => by
  rw [Ĥ, É, ß, <- iH p vs];by_cases h : p x = true
  ·rw [Õ h, Õ h, Ü];omega
  ·rw [Ë h, Ë h];omega
def dW (L : List (Int × Int)) (O : Int) : List Int := (mU L.length O).map λ x => AJ (cm L x) x
theorem rK (L : List (Int × Int)) (x : Nat) : AJ (cm L x) x = wX L x := by
 unfold AJ wX;rw [i8, xM]
theorem ud (L : List (Int × Int)) (O : Int) : dW L O = (mU (wL L O).length O).map (kI (wL L O)) := by
 unfold dW;rw [Å];refine Im λ x hx => ?_;have hp : ((cC L.length x : Nat) : Int) = O := ì (Ġ.mp hx).2;rw [rK];unfold wX;rw [hp]
theorem gz (L : List (Int × Int)) (O : Int) (g : Int -> Nat) : ((dW L O).map g).sum = cc L O g := by
 rw [ud, ju];rfl
theorem uI (L : List (Int × Int)) (O s : Int) : ((dW L O).filter λ v => decide (v ≥ s)).length = cc L O (m4 s) := by
 rw [iH, nq, gz]
theorem rJ (L : List (Int × Int)) (O s : Int) : ((dW L O).filter λ v => decide (v <= s)).length = cc L O (mF s) := by
 rw [iH, nS, gz]
theorem gr (L : List (Int × Int)) (O : Int) : (dW L O).length = cc L O λ _ => 1 := by
 rw [<- gz];generalize dW L O = vs
 induction vs with
 | nil => rfl
 | cons v vs ih => rw [Ü, É, ß, <- ih, Mc]
theorem xp {n : Nat} {O : Int} (h : n <= 20) : (mU n O).length < 16000000 := by
 unfold mU;refine Ě (v_ _ _) ?_;rw [ÿ];exact Ě (æ am h) am
section
variable {P : Program} {w : World} {K : Frag} {mg : bu} {base : Heap}
abbrev Dj : Stmt := cD 55
def DJ : Sp := λ vs H Q _ => ∃ (v : Addr) (vals : List Int) (s : Int), vs = [.ref v, .int s] /\ H v = some (.lst (vals.map V.int)) /\ vals.length < 16000000 /\ ∀ l H', H l = none -> Ext H H' -> H' l = some (.lst [.int ((vals.filter λ x => decide (x ≥ s)).length : Nat), .int ((vals.filter λ x => decide (x <= s)).length : Nat)]) -> Q (.ref l) H'
abbrev GV : List Str := ["_law_values_here", "_law_value"]
theorem Ep : ai GV ["_law_values_here", "_law_value"] (aa Dj) := aS
abbrev Cm : Scope := dh [("_law_one", .local), ("_law_value", .free)]
theorem Bc : ((["_law_one"] : List Str) ++ (["_law_value"] : List Str)).Nodup := aJ
def EO (K : Frag) (f : Int -> Int -> Bool) : TE := eY (kZ K) (ac (EW K 0 1 f) aC)
theorem yd {f : Int -> Int -> Bool} {H : Hp} {Q : VK} {v : Addr} {vals : List Int} {s : Int} (hv : H v = some (.lst (vals.map V.int))) (sm : vals.length < 16000000) (q : ∀ H', Ext H H' -> Q (.int ((vals.filter λ x => f x s).length : Nat)) H') : EO K f [some (.ref v), some (.int s)] H Q := by
 show EW K 0 1 f [some (.ref v), some (.int s)] H λ x H1 => kZ K [x] H1 Q;refine CS (s := s) rfl rfl hv sm λ D1 H1 MR x1 h1 => ⟨D1, _, rfl, .inl (û.of h1), ?_⟩;rw [Å];exact q H1 x1
section
variable {f : Addr} {ë : Value} {A : Around} {outer : List Env} {s : Shared} {H : Hp} {E : XK}
theorem r9 : aW (ax ar P w K mg base GV "_law_two" (aa Dj) f ë A outer s H E).Ķ Cm [("_law_value", s.heap.objs.size + 1)] ["_law_one"] ["_law_value"] [1] :=
 bz (M := ["_law_value"]) (L := [(".0", .local), ("_law_one", .local), ("_law_value", .cell)]) rfl rfl aJ aJ aJ rfl rfl rfl aJ aJ rfl rfl rfl
end
theorem Bv {f : Addr} {fd : FuncData} (F : Ŏ K "_law_two" "_law_two" Dj f fd) (ml : mg "len" = none) : az P w K mg base ar 1 f fd ["_law_values_here", "_law_value"] DJ := by
 refine F.ok Ep (λ vs H Q E h => ?_) (λ ë A outer s H vs Q E hr h => ?_)
 ·obtain ⟨v, vals, s', rfl, _⟩ := h;rfl
 obtain ⟨v, vals, s', rfl, hv, sm, q⟩ := h;refine cj (t := bQ (bC (ac (EO K λ i j => decide (i ≥ j)) (ac (EO K λ i j => decide (i <= j)) aC)))) (aP (cP (dF (dX (cY au rfl ml í (fR (te := aq 0) (tt := tB (bc (iA λ i j => .bl (decide (i ≥ j))) (aq 0) (aq 1))) (g := bf 0) rfl r9 ⟨bT (pv 0)⟩ (λ s H C fp => by exact bM (i := 0) Bc rfl (.inl rfl)) (λ s H C fp => ⟨by exact aF lB (pv 0) (pv 1) (aI _)⟩) (λ s H C fp => ⟨by exact pv 0⟩)))
  (dX (cY au rfl ml í (fR (te := aq 0) (tt := tB (bc (iA λ i j => .bl (decide (i <= j))) (aq 0) (aq 1))) (g := bf 0) rfl r9 ⟨bT (pv 0)⟩ (λ s H C fp => by exact bM (i := 0) Bc rfl (.inl rfl)) (λ s H C fp => ⟨by exact aF l9 (pv 0) (pv 1) (aI _)⟩) (λ s H C fp => ⟨by exact pv 0⟩))) cI))))) ⟨?_⟩
 refine rC (yd (K := K) hv sm λ H1 x1 => yd (K := K) (x1 _ _ hv) sm λ H2 x2 => ⟨ft, λ l hl => ?_⟩);have MK : H l = none := by
  cases e : H l with
  | none => rfl
  | some o => rw [x2 _ _ (x1 _ _ e)] at hl; cases hl
 exact q l _ MK ((x1.trans x2).trans (Ext.new hl)) aQ
end
theorem fG {H H1 : Hp} {l : Addr} (x : Ext H H1) (h : H1 l = none) : H l = none := by
 cases e : H l with
 | none => rfl
 | some o => rw [x _ _ e] at h; cases h
theorem yt {CL CD l : Addr} {L : List (Int × Int)} {x : Nat} {H : Hp} {Q : VK} {E : XK} (ls : Ī H l L) (bt : bD L) (l1 : 1 <= L.length) (Ň : L.length <= 20) (hx : x < 2 ^ L.length) (q : ∀ r H', H r = none -> Ext H H' -> AF H' r L x -> Q (.ref r) H') : kq CL CD [.ref l, .int (x : Nat)] H Q E := by
 have lg := x9 bt l1 Ň;refine ⟨.ref l, .int (x : Nat), .list (L.map pD), .int (x : Nat), rfl, ls.Mr, .int _, (λ ds e => by cases e; rw [Å]; omega), (λ z => by rw [lg] at z; cases z), λ L' e _ => ?_⟩
 injection e with e
 cases og e;refine ⟨λ z => ?_, λ x' e' _ r H' h0 xx h => ?_⟩
 ·exfalso;have z' : (decide ((0 : Int) <= ((x : Nat) : Int)) && decide (((x : Nat) : Int) <= (((2 ^ L.length : Nat) : Int) - 1))) = false := z;have Kw : ((x : Nat) : Int) < ((2 ^ L.length : Nat) : Int) := Me.mpr hx;rw [Ŧ, Ć, Ć] at z';omega
 ·injection e' with e'
  have e' : x = x' := af;subst e';exact q r H' h0 xx h
theorem xj {L : List (Int × Int)} {x : Nat} (Ň : L.length <= 20) : 1 <= cc L (oX L x) (λ _ => 1) /\ cc L (oX L x) (λ _ => 1) <= 2 ^ 20 := by
 have pl := io L.length x;obtain ⟨h1, h2⟩ := nH (L := L) (O := oX L x) (by show (0 : Int) <= ((cC L.length x : Nat) : Int); omega) (by show ((cC L.length x : Nat) : Int) <= _; omega)
 exact ⟨h1, Ò h2 (æ am Ň)⟩
theorem ng (s v : Int) : m4 s v <= 1 := by unfold m4; split <;> decide
theorem nu (s v : Int) : mF s v <= 1 := by unfold mF; split <;> decide
theorem yW (s v : Int) : rc s v <= 1 := by unfold rc; split <;> decide
section
variable {P : Program} {w : World} {K : Frag} {mg : bu} {base : Heap} {CL CD : Addr}
abbrev DW : Stmt := cD 61
def Af : Sp := λ vs H Q _ => ∃ (l dl : Addr) (L : List (Int × Int)) (x : Nat), vs = [.ref l, .ref dl, .int (x : Nat)] /\ Ī H l L /\ bD L /\ 1 <= L.length /\ L.length <= 20 /\ x < 2 ^ L.length /\ H dl = some (.lst ((mU L.length (oX L x)).map λ x => V.int (x : Nat))) /\ ∀ H', Ext H H' -> Q (.bl true) H'
abbrev HJ : List Str := ["_law_listing_here", "_law_dealings_here", "_law_dealing", "_law_values_here", "_law_value", "_law_found", "_law_share", "_law_many"]
theorem Nq : ai HJ ["_law_listing_here", "_law_dealings_here", "_law_dealing"] (aa DW) := aS
def F4 (i j : Nat) : TE := c5 mY [] E0 (ac (c5 mZ [] E0 (ac (aq i) (ac (aq j) aC))) (ac (aq j) aC))
theorem ue {i j : Nat} {σ : St} {H : Hp} {Q : VK} {l : Addr} {L : List (Int × Int)} {x : Nat} (hi : σ[i]? = some (some (.ref l))) (hj : σ[j]? = some (some (.int (x : Nat)))) (ls : Ī H l L) (Ň : L.length <= 20) (q : ∀ H', Ext H H' -> Q (.int (wX L x)) H') : F4 i j σ H Q := by
 refine ⟨_, hi, _, hj, l, x, L, rfl, ls, Ň, λ r H1 hr x1 h1 => ⟨_, hj, r, x, cm L x, rfl, h1, by rw [i8]; exact Ň, λ H2 x2 => ?_⟩⟩
 rw [rK];exact q H2 (x1.trans x2)
def Aq (CL CD : Addr) (i j : Nat) : TE := c5 (kq CL CD) [] E0 (ac (aq i) (ac (aq j) aC))
theorem rB {i j : Nat} {σ : St} {H : Hp} {Q : VK} {l : Addr} {L : List (Int × Int)} {x : Nat} (hi : σ[i]? = some (some (.ref l))) (hj : σ[j]? = some (some (.int (x : Nat)))) (ls : Ī H l L) (bt : bD L) (l1 : 1 <= L.length) (Ň : L.length <= 20) (hx : x < 2 ^ L.length) (q : ∀ r H', H r = none -> Ext H H' -> AF H' r L x -> Q (.ref r) H') : Aq CL CD i j σ H Q :=
 ⟨_, hi, _, hj, yt ls bt l1 Ň hx q⟩
theorem BW {f a1 a2 a3 a4 a5 a6 : Addr} {fd d1 d2 d3 d4 d5 d6 : FuncData} (N : uq K) (F : Ŏ K "_law_told_right" "_law_told_right" DW f fd) (A1 : Df P w K mg base ar 3 "_law_values" ["_law_listing_here", "_law_dealings_here"] CF a1 d1) (A2 : Df P w K mg base ar 2 "_law_worth" ["_law_row", "_law_dealing"] mY a2 d2) (A3 : Df P w K mg base ar 1 "_law_came" ["_law_listing_here", "_law_dealing"] mZ a3 d3) (A4 : Df P w K mg base (iG P w) 6 "listing_shares" ["listing", "dealing"] (kq CL CD) a4 d4) (A5 : Df P w K mg base ar 1 "_law_two" ["_law_values_here", "_law_value"] DJ a5 d5) (A6 : Df P w K mg base ar 2 "_law_is_share" ["_law_found", "_law_top", "_law_bottom"] oU a6 d6)
  (mi : mg "isinstance" = none) (mt : mg "tuple" = none) (ml : mg "len" = none) (mz : mg "zip" = none) : az P w K mg base ar 7 f fd ["_law_listing_here", "_law_dealings_here", "_law_dealing"] Af := by
 refine Cb F Nq λ ë A outer s H vs Q E hr h => ?_;obtain ⟨l, dl, L, x, rfl, ls, bt, l1, Ň, hx, hd, q⟩ := h;have nd := Nq.nd;have Δ : ė 1 _ := hr.mono am;have Jf : ė 2 _ := hr.mono am;have M9 : ė 3 _ := hr.mono am;refine ⟨_, cv (cM (i := 3) nd rfl (Or.inl rfl) (bY A1 M9 ao (ae (pv 0) (ae (pv 1) ap))))
  (cv (cM (i := 4) nd rfl (Or.inl rfl) (bY A2 Jf ao (ae (bY A3 Δ ao (ae (pv 0) (ae (pv 2) ap))) (ae (pv 2) ap))))
  (cv (cM (i := 5) nd rfl (Or.inl rfl) (bY A4 hr lM (ae (pv 0) (ae (pv 2) ap))))
  (cv (bp (PW.pt (gE (bh (ba (ah (bI N) rfl mi ã (ae (pv 5) (ae (fW rfl mt Ğ) ap))))) (gB (aF jN (ah au rfl ml í (ae (pv 5) ap)) aw (aI _))))) (bw (cq jd)) hV)
  (cv (dM õ rfl (Ai rfl mz (ae (pv 5) (ae (bY A5 Δ ao (ae (pv 3) (ae (pv 4) ap))) ap))) (br rfl (dz (bM (i := 6) nd rfl (Or.inl rfl)) (dz (bM (i := 7) nd rfl (Or.inl rfl)) aU)))
   (bw (bp (bh (ba (bY A6 Jf ao (ae (pv 6) (ae (pv 7) (ae (ah au rfl ml í (ae (pv 3) ap)) ap)))))) (bw (cq jd)) hV)))
  (bw (cq jd)))))), ?_⟩
 refine ⟨_, rfl, _, rfl, l, dl, L, mU L.length (oX L x), rfl, ls, Ň, hd, xp Ň, λ v H1 hv x1 h1 => ?_⟩;have h1 : H1 v = some (.lst ((dW L (oX L x)).map V.int)) := h1;refine bJ (ue (i := 0) (j := 2) rfl rfl (ls.ext x1) Ň λ H2 x2 => ?_);refine bJ (rB (i := 0) (j := 2) rfl rfl ((ls.ext x1).ext x2) bt l1 Ň hx λ r H3 U' x3 sh => ?_);obtain ⟨v1, v2, h3, s1, s2⟩ := sh;have lv : (dW L (oX L x)).length < 16000000 := by
  rw [gr];have := (xj (L := L) (x := x) Ň).2;omega
 have Na := x3 _ _ (x2 _ _ h1);refine ⟨_, rfl, _, _, _, _, rfl, .inl (.tup h3), rfl, _, rfl, dA ⟨_, rfl, r, _, rfl, .inr (ĕ.of h3), rfl, _, rfl, dA ?_⟩⟩;refine ⟨_, rfl, _, rfl, _, rfl, v, dW L (oX L x), wX L x, rfl, Na, lv, λ t H4 ht x4 h4 => ?_⟩;rw [uI, rJ] at h4;have RZ := x4 _ _ h3;refine ⟨r, t, rfl, ⟨_, ĕ.of RZ⟩, ⟨_, û.of h4⟩, ?_⟩;refine wV (xs := [v1, v2]) (ys := [.int ((cc L (oX L x) (m4 (wX L x)) : Nat)), .int ((cc L (oX L x) (mF (wX L x)) : Nat))]) (λ i σ H' => Ext H4 H' /\ ∃ o6 o7, σ = [some (.ref l), some (.ref dl), some (.int (x : Nat)), some (.ref v), some (.int (wX L x)), some (.ref r), o6, o7]) ⟨Ext.refl _, _, _, rfl⟩ (λ i σ H' _ p => ⟨ĕ.of (p.1 _ _ RZ), û.of (p.1 _ _ h4)⟩) ?_ ?_
 ·rintro i y z σ H' t' ey ez ⟨x', o6, o7, rfl⟩ PP;have x5 := Ext.new (o := .tup [y, z]) PP;have X5 := x'.trans x5;have VE := X5 _ _ (x4 _ _ Na);have T := xj (L := L) (x := x) Ň;have Xi : ∃ n : Nat, z = .int (n : Nat) /\ Jc H4 y (bB n (cc L (oX L x) λ _ => 1)) (aM n (cc L (oX L x) λ _ => 1)) /\ n <= cc L (oX L x) λ _ => 1 := by
   match i, ey, ez with
   | 0, ey, ez => cases ey; cases ez; exact ⟨_, rfl, s1.kp x4.Υ, ir L _ λ v => ng _ v⟩
   | 1, ey, ez => cases ey; cases ez; exact ⟨_, rfl, s2.kp x4.Υ, ir L _ λ v => nu _ v⟩
  obtain ⟨n, rfl, sy, nT⟩ := Xi;refine ⟨t', _, rfl, ĕ.of aQ, rfl, _, _, rfl, _, _, rfl, rfl, ?_⟩;refine ⟨_, rfl, _, rfl, _, rfl, v, _, rfl, .inl (û.of VE), ?_⟩;rw [Å, gr];exact ⟨y, n, _, rfl, sy.kp X5.Υ, T.1, T.2, nT, _, rfl, dA ⟨X5, _, _, rfl⟩⟩
 ·rintro σ H' ⟨x', o6, o7, rfl⟩;exact q H' (x1.trans (x2.trans (x3.trans (x4.trans x'))))
end
theorem i0 {α : Type} {x : α} : ∀ {xs : List α} {k : Nat}, xs[k]? = some x -> (x :: xs.eraseIdx k).Perm xs
 | y :: ys, 0, h => by cases h; exact List.Perm.refl _
 | y :: ys, k + 1, h => by
  have ih := i0 (xs := ys) (k := k) h;exact (List.Perm.swap y x _).trans (ih.cons y)
theorem jq {α β : Type} (f : α -> β) : ∀ (xs : List α) (k : Nat), (xs.map f).eraseIdx k = (xs.eraseIdx k).map f
 | [], _ => rfl
 | y :: ys, 0 => rfl
 | y :: ys, k + 1 => by show f y :: (ys.map f).eraseIdx k = f y :: (ys.eraseIdx k).map f; rw [jq f ys k]
theorem bV {H : Hp} {p q : Addr} (b : Ĩ H p) (h : H q = none) : q ≠ p := λ z => by
 obtain ⟨u, hu⟩ := b.some;rw [z, hu] at h;cases h
def z7 (H : Hp) (l : Addr) : Nat := match H l with
 | some (.lst xs) => xs.length
 | _ => 0
theorem pG {H : Hp} {l : Addr} {xs : List V} (h : H l = some (.lst xs)) : z7 H l = xs.length := by
 unfold z7;rw [h]
abbrev vN (i : Nat) : V := .int (i : Nat)
section
variable {P : Program} {w : World} {K : Frag} {mg : bu} {base : Heap}
abbrev Bp : Stmt := cD 58
def yQ : Sp := λ vs H Q _ => ∃ (p a : Addr) (ns : List Nat), vs = [.ref p, .ref a] /\ Ĩ H p /\ H a = some (.lst (ns.map vN)) /\ ns.length <= 100 /\ ∀ (l : Addr) (od : List Nat) (H' : Hp), H l = none -> Kept H H' p -> Ĩ H' p -> H' l = some (.lst (od.map vN)) -> od.Perm ns -> Q (.ref l) H'
abbrev Hv : List Str := ["_law_box_here", "_law_some", "_law_left", "_law_found"]
theorem No : ai Hv ["_law_box_here", "_law_some"] (aa Bp) := aS
theorem Bt {f a1 : Addr} {fd d1 : FuncData} (F : Ŏ K "_law_turned" "_law_turned" Bp f fd) (A1 : Df P w K mg base ar 1 "_law_take" ["_law_box_here", "_law_many"] cf a1 d1) (ml : mg "list" = none) (mn : mg "len" = none) : az P w K mg base ar 2 f fd ["_law_box_here", "_law_some"] yQ := by
 refine Cb F No λ ë A outer s H vs Q E hr h => ?_;obtain ⟨p, a, ns, rfl, bx, ha, UC, q⟩ := h;have nd := No.nd;have hu : (A.deeper (PyProof.Rows.envOfC "_law_turned" (aa Bp) s.heap.objs.size f ë)).units < cLine := hr.Mi;refine ⟨_, cv (cM (i := 2) nd rfl (Or.inl rfl) (cw kH rfl ml h_ (ae (pv 1) ap)))
  (cv (cM (i := 3) nd rfl (Or.inl rfl) (aX ap))
  (cv (iu õ (aF (sX hu) (pv 2) (aX ap) (aI _)) (bw (cr (fX ý θ η bS (pv 3) (ae (fX ý PySem.F.slot_list_pop PySem.F.type_list_pop tU (pv 2) (ae (bY A1 hr ao (ae (pv 0) (ae (ah au rfl mn í (ae (pv 2) ap)) ap))) ap)) ap)))))
  (bw (cq (pv 3))))), ?_⟩
 refine ⟨_, rfl, a, _, rfl, .inl (û.of ha), λ l1 KB => ?_⟩;have x1 := Ext.new (o := .lst (ns.map vN)) KB;refine ⟨ft, λ l2 JT => ?_⟩;have x2 := Ext.new (o := .lst []) JT;have n1 : l1 ≠ p := bV bx KB;have n2 : l2 ≠ p := bV (bx.ext x1) JT;have Pn : l1 ≠ l2 := λ z => by rw [<- z, aQ] at JT; cases JT
 have NY : H l2 = none := fG x1 JT;refine ic (λ σ H' => σ = [some (.ref p), some (.ref a), some (.ref l1), some (.ref l2)] /\ Kept H H' p /\ Ĩ H' p /\ ∃ lf fs : List Nat, H' l1 = some (.lst (lf.map vN)) /\ H' l2 = some (.lst (fs.map vN)) /\ (fs ++ lf).Perm ns) (λ _ H' => z7 H' l1) ⟨rfl, (x1.trans x2).kept p, (bx.ext x1).ext x2, ns, [], x2 _ _ aQ, aQ, List.Perm.refl _⟩ ?_ ?_
 ·rintro σ H1 ⟨rfl, k1, Ix, lf, fs, h1, h2, pm⟩;refine ⟨_, rfl, ft, λ e he => ⟨l1, e, lf.map vN, rfl, rfl, û.of ((Ext.new he) _ _ h1), û.of aQ, _, rfl, ?_⟩⟩;have x3 := Ext.new (o := .lst []) he;have JY := Ix.ext x3;have k3 := k1.trans (x3.kept p);have Na := x3 _ _ h1;have Qm := x3 _ _ h2;generalize ak H1 e (.lst []) = H3 at *;have UG := pm.length_eq;rw [Ï] at UG;cases lf with
  | nil =>
   refine dA ?_;rw [ü] at pm;exact ⟨_, rfl, q l2 fs H3 NY k3 JY Qm pm⟩
  | cons y ys =>
   refine hG ?_;generalize Vh : y :: ys = lf at *;have pl : 0 < lf.length := by rw [<- Vh]; exact Nat.succ_pos _
   refine ⟨_, rfl, .inl ⟨rfl, _, û.of Qm⟩, _, rfl, .inl ⟨rfl, _, û.of Na⟩, ?_⟩;refine bU (i := 0) (m := ((lf.length : Nat) : Int)) rfl JY (λ R r => ⟨_, rfl, l1, _, rfl, .inl (û.of Na), by rw [Å]; exact r⟩) af af λ r H4 r0 rl JX k4 => ?_
   have VF := k4 _ _ Na n1;have VD := k4 _ _ Qm n2;have hi : r.toNat < lf.length := af;have ey : lf[r.toNat]? = some lf[r.toNat] := Ã hi;generalize lf[r.toNat] = y' at ey;have pe := i0 ey;have le : (lf.eraseIdx r.toNat).length < lf.length := by
    have := pe.length_eq;rw [Ü] at this;omega
   refine ⟨l1, lf.map vN, r, r.toNat, vN y', rfl, rfl, VF, af, af, PySem.StrLaws.seqIndex_nonneg r0 (by rw [Å]; omega), by rw [Ê, ey]; rfl, ?_⟩
   rw [jq];refine ⟨l2, fs.map vN, vN y', rfl, rfl, by rw [ag Pn.symm]; exact VD, by rw [Å, Ú]; omega, ⟨rfl, ?_, ?_, lf.eraseIdx r.toNat, fs ++ [y'], ?_, ?_, ?_⟩, ?_⟩
   ·intro b o e n;have Ux : b ≠ l1 := λ z => by rw [z, KB] at e; cases e
    have Uw : b ≠ l2 := λ z => by rw [z, NY] at e; cases e
    rw [ag Uw, ag Ux];exact (k3.trans k4) _ _ e n
   ·exact (JX.up n1).up n2
   ·rw [ag Pn, aQ]
   ·rw [aQ, Ø];rfl
   ·rw [Ċ];exact (List.Perm.append_left fs pe).trans pm
   ·rw [pG h1, pG (xs := (lf.eraseIdx r.toNat).map vN) (by rw [ag Pn, aQ]), Å, Å]
    exact le
 ·rintro σ H Q Q' m ⟨x, e, h0, h⟩;exact ⟨x, e, h0, λ p hp => by
   obtain ⟨a, b, xs, e1, e2, s1, s2, bb, eb, q⟩ := h p hp;exact ⟨a, b, xs, e1, e2, s1, s2, bb, eb, m _ _ q⟩⟩
end
theorem xI {H H' : Hp} {d : Addr} {o : HO} (x : Ext H H') (r : Rd H d o) : Rd H' d o := by
 rcases r with r | ⟨ob, r⟩
 ·exact .inl (x _ _ r)
 ·exact .inr ⟨ob, x _ _ r⟩
theorem pk : ∀ {ps : List (Int × Nat)}, ρ ps -> ps.length <= dS (λ _ => 1) ps
 | [], _ => Ä _
 | p :: r, h => by
  have ih := pk h.tail;have h1 := h.pos p (Ù ..);show r.length + 1 <= p.2 * 1 + dS _ r;omega
theorem Br {ta : TE} {tb : TA} {σ : St} {H : Hp} {Q : List V -> Hp -> Prop} (h : ta σ H λ v H1 => tb σ H1 λ vs H2 => Q (v :: vs) H2) : ac ta tb σ H Q := h
theorem sd {te : TE} {r : List V -> Hp -> VK -> Prop} {σ : St} {H : Hp} {Q : VK} (h : te σ H λ x H1 => r [x] H1 Q) : eY r (ac te aC) σ H Q := h
def Ah (K : Frag) (i : Nat) (f : Int -> Int -> Bool) : TE := c5 oU [] E0 (ac (aq i) (ac (eY (fK K) (ac (DK 4 [4, 5] f 2 1) aC)) (ac (eY sQ (ac (t9 (aq 4)) aC)) aC)))
theorem sY {K : Frag} {i : Nat} {f : Int -> Int -> Bool} {g : Int -> Nat} {s : Int} {σ : St} {H : Hp} {Q : VK} {d : Addr} {v : V} {ps : List (Int × Nat)} {t T : Nat} (fe : (λ x => if f x s = true then 1 else 0) = g) (si : σ[i]? = some (some v)) (s4 : σ[4]? = some (some (.ref d))) (hc : bA [4, 5] σ = [some (.ref d), some (.int s)]) (rd : Rd H d (.dK (bZ Key.inl ps))) (ok : ρ ps)
  (et : dS g ps = t) (eT : dS (λ _ => 1) ps = T) (T1 : 1 <= T) (SV : T <= 2 ^ 20) (tT : t <= T) (sh : Jc H v (bB t T) (aM t T)) (q : ∀ H', (∀ b o, H b = some o -> b ≠ d -> H' b = some o) -> Rd H' d (.dK (bZ Key.inl ps)) -> Q (.bl true) H') : Ah K i f σ H Q := by
 have lp := pk ok;rw [eT] at lp;refine ⟨_, si, ?_⟩;refine Br (sd (uN (s := s) s4 hc (λ _ => rfl) (λ _ => rfl) rd ok af λ D1 H1 MR k1 O6 h1 => ⟨D1, _, rfl, û.of h1, ?_⟩));rw [eN, fe, et];refine ⟨_, s4, d, _, rfl, O6, λ vp NQ => ?_⟩;have x2 := Ext.new (o := xv vp d) NQ;have em : ((bZ Key.inl ps).map (·.2)) = (ps.map λ q => ((q.2 : Nat) : Int)).map V.int := by
  unfold bZ;rw [ó, ó];rfl
 refine ⟨vp, d, _, ps.map λ q => ((q.2 : Nat) : Int), rfl, aQ, xI x2 O6, em, ?_⟩;rw [j8, eT];have kk : ∀ b o, H b = some o -> b ≠ d -> ak H1 vp (xv vp d) b = some o := λ b o e n => x2 _ _ (k1 _ _ e n);obtain ⟨p, rfl, hp⟩ := sh;have np : p ≠ d := λ z => by
  rw [z] at hp;rcases rd with r | ⟨ob, r⟩ <;> · rw [r] at hp; cases hp
 exact ⟨.ref p, t, T, rfl, ⟨p, rfl, kk _ _ hp np⟩, T1, SV, tT, q _ kk (xI x2 O6)⟩
section
variable {P : Program} {w : World} {K : Frag} {mg : bu} {base : Heap} {CL CD : Addr}
abbrev kr : Stmt := cD 57
def DA : Sp := λ vs H Q _ => ∃ p, vs = [.ref p] /\ Ĩ H p /\ ∀ H', Kept H H' p -> Q (.bl true) H'
abbrev uP : List Str := ["_law_box_here", "_law_folk", "_law_listing_here", "_law_dealing", "_law_ways", "_law_worth_here", "_law_high", "_law_low"]
theorem IW : ai uP ["_law_box_here"] (aa kr) := aS
abbrev Bd : Scope := dh [("_law_value", .local), ("_law_ways", .free), ("_law_worth_here", .free)]
theorem A7 : ((["_law_value"] : List Str) ++ (["_law_ways", "_law_worth_here"] : List Str)).Nodup := aJ
abbrev mh (i : Nat) : Stmt := (av kr).getD i s0
def ER (K : Frag) : TS := cQ (bc (gM K) (bC (ac (tC (.int 20)) (ac (bc km (tC (.int 8)) (vh 0 (tC (.int 13)))) aC))) (vh 0 (tC (.int 2)))) (bf 1)
def Gx : TS := cQ (c5 rF [] E0 (ac (aq 0) (ac (aq 1) aC))) (bf 2)
def G7 : TS := cQ (vh 0 (bc (rI nR λ i j => .int (i * 2 ^ j.toNat)) (tC (.int 1)) (aq 1))) (bf 3)
def GB : TS := cQ (c5 yj [] E0 (ac (aq 2) (ac (c5 mS [] E0 (ac (aq 1) (ac (aq 3) aC))) aC))) (bf 4)
def G1 : TS := cQ (F4 2 3) (bf 5)
def GD (K : Frag) (CL CD : Addr) : TS := cQ (Aq CL CD 2 3) (gW K 6 7)
def E1 (K : Frag) : TS := oq (yJ (tB (Ah K 6 λ i j => decide (i ≥ j)))) (bQ (tC (.bl false))) iF
def Fp (K : Frag) : TS := bQ (Ah K 7 λ i j => decide (i <= j))
def HA (K : Frag) (CL CD : Addr) : TS := bL (ER K) (bL Gx (bL G7 (bL GB (bL G1 (bL (GD K CL CD) (bL (E1 K) (Fp K)))))))
structure Dy (P : Program) (w : World) (K : Frag) (mg : bu) (base : Heap) (CL CD : Addr) (a1 a2 a3 a4 a5 a6 a7 a8 : Addr) (d1 d2 d3 d4 d5 d6 d7 d8 : FuncData) : Prop where
 tk : Df P w K mg base ar 1 "_law_take" ["_law_box_here", "_law_many"] cf a1 d1
 li : Df P w K mg base ar 2 "_law_listing" ["_law_box_here", "_law_folk"] rF a2 d2
 tb : Df P w K mg base ar 1 "_law_table" ["_law_listing_here", "_law_ones_here"] yj a3 d3
 on : Df P w K mg base ar 1 "_law_ones" ["_law_folk", "_law_dealing"] mS a4 d4
 wo : Df P w K mg base ar 2 "_law_worth" ["_law_row", "_law_dealing"] mY a5 d5
 cm : Df P w K mg base ar 1 "_law_came" ["_law_listing_here", "_law_dealing"] mZ a6 d6
 ls : Df P w K mg base (iG P w) 6 "listing_shares" ["listing", "dealing"] (kq CL CD) a7 d7
 is : Df P w K mg base ar 2 "_law_is_share" ["_law_found", "_law_top", "_law_bottom"] oU a8 d8
 ms : mg "sum" = none
variable {f a1 a2 a3 a4 a5 a6 a7 a8 : Addr} {d1 d2 d3 d4 d5 d6 d7 d8 : FuncData}
section
variable {ë : Value} {A : Around} {outer : List Env} {s : Shared} {H : Hp} {E : XK} (L : Dy P w K mg base CL CD a1 a2 a3 a4 a5 a6 a7 a8 d1 d2 d3 d4 d5 d6 d7 d8) (hr : mR 6 "_law_great_right" kr A s f ë)
theorem tm : aW (ax ar P w K mg base uP "_law_great_right" (aa kr) f ë A outer s H E).Ķ Bd [("_law_worth_here", s.heap.objs.size + 2), ("_law_ways", s.heap.objs.size + 1)] ["_law_value"] ["_law_ways", "_law_worth_here"] [4, 5] :=
 bz (M := ["_law_worth_here", "_law_ways"]) (L := [(".0", .local), ("_law_value", .local), ("_law_ways", .cell), ("_law_worth_here", .cell)]) rfl rfl aJ aJ aJ rfl rfl rfl aJ aJ rfl rfl rfl
include L hr
theorem FB : Bx (PS (ax ar P w K mg base uP "_law_great_right" (aa kr) f ë A outer s H E).Ķ (mh 0) (ER K)) := by
 have Δ : ė 1 _ := hr.mono am;exact ij (i := 1) IW.nd rfl (Or.inl rfl) (lY kX (dF (dX ⟨aw⟩ (dX ⟨aj bd aw (gf L.tk.G Δ rfl L.tk.m L.tk.kp L.tk.b .nil ao (ae (pv 0) (ae aw ap)))⟩ cI))) ⟨gf L.tk.G Δ rfl L.tk.m L.tk.kp L.tk.b .nil ao (ae (pv 0) (ae aw ap))⟩)
theorem Ey : Bx (PS (ax ar P w K mg base uP "_law_great_right" (aa kr) f ë A outer s H E).Ķ (mh 1) Gx) :=
 ⟨cM (i := 2) IW.nd rfl (Or.inl rfl) (gf L.li.G (hr.mono am) rfl L.li.m L.li.kp L.li.b .nil ao (ae (pv 0) (ae (pv 1) ap)))⟩
theorem FD : Bx (PS (ax ar P w K mg base uP "_law_great_right" (aa kr) f ë A outer s H E).Ķ (mh 2) G7) :=
 ⟨cM (i := 3) IW.nd rfl (Or.inl rfl) (gf L.tk.G (hr.mono am) rfl L.tk.m L.tk.kp L.tk.b .nil ao (ae (pv 0) (ae (aj iU aw (pv 1)) ap)))⟩
theorem Gb : Bx (PS (ax ar P w K mg base uP "_law_great_right" (aa kr) f ë A outer s H E).Ķ (mh 3) GB) :=
 ⟨cM (i := 4) IW.nd rfl (Or.inr rfl) (gf L.tb.G (hr.mono am) rfl L.tb.m L.tb.kp L.tb.b .nil ao (ae (pv 2) (ae (gf L.on.G (hr.mono am) rfl L.on.m L.on.kp L.on.b .nil ao (ae (pv 1) (ae (pv 3) ap))) ap)))⟩
theorem FU : Bx (PS (ax ar P w K mg base uP "_law_great_right" (aa kr) f ë A outer s H E).Ķ (mh 4) G1) :=
 ⟨cM (i := 5) IW.nd rfl (Or.inr rfl) (gf L.wo.G (hr.mono am) rfl L.wo.m L.wo.kp L.wo.b .nil ao (ae (gf L.cm.G (hr.mono am) rfl L.cm.m L.cm.kp L.cm.b .nil ao (ae (pv 2) (ae (pv 3) ap))) (ae (pv 3) ap)))⟩
theorem Fq : Bx (PS (ax ar P w K mg base uP "_law_great_right" (aa kr) f ë A outer s H E).Ķ (mh 5) (GD K CL CD)) :=
 ⟨gq (gf L.ls.G hr rfl L.ls.m L.ls.kp L.ls.b .nil lM (ae (pv 2) (ae (pv 3) ap))) (br rfl (dz (bM (i := 6) IW.nd rfl (Or.inl rfl)) (dz (bM (i := 7) IW.nd rfl (Or.inl rfl)) aU)))⟩
theorem Ef : Bx (PS (ax ar P w K mg base uP "_law_great_right" (aa kr) f ë A outer s H E).Ķ (mh 6) (E1 K)) := by
 have hu : (A.deeper (PyProof.Rows.envOfC "_law_great_right" (aa kr) s.heap.objs.size f ë)).units + 1 < cLine := by have := hr.un; omega
 exact ⟨bp (bh (ba (gf L.is.G (hr.mono am) rfl L.is.m L.is.kp L.is.b .nil ao (ae (pv 6) (ae (ah (bR rfl) rfl L.ms Ý (ae (eJ (tt := tB (bc (iA λ i j => .bl (decide (i ≥ j))) (aq 0) (aq 2))) (te := gD (aq 1) (aq 0)) (g := bf 0) rfl tm (gX (pv 4)) (λ s H C fp => by exact bM (i := 0) A7 rfl (.inl rfl)) (λ s H C fp => by exact aF lB (pv 0) (pv 2) (aI _)) (λ s H C fp => by exact eG hu (pv 1) (pv 0))) ap))
  (ae (ah (eF rfl) rfl L.ms Ý (ae (kR (pv 4)) ap)) ap)))))) (bw (cq jd)) hV⟩
theorem E7 : Bx (PS (ax ar P w K mg base uP "_law_great_right" (aa kr) f ë A outer s H E).Ķ (mh 7) (Fp K)) := by
 have hu : (A.deeper (PyProof.Rows.envOfC "_law_great_right" (aa kr) s.heap.objs.size f ë)).units + 1 < cLine := by have := hr.un; omega
 exact ⟨cq (gf L.is.G (hr.mono am) rfl L.is.m L.is.kp L.is.b .nil ao (ae (pv 7) (ae (ah (bR rfl) rfl L.ms Ý (ae (eJ (tt := tB (bc (iA λ i j => .bl (decide (i <= j))) (aq 0) (aq 2))) (te := gD (aq 1) (aq 0)) (g := bf 0) rfl tm (gX (pv 4)) (λ s H C fp => by exact bM (i := 0) A7 rfl (.inl rfl)) (λ s H C fp => by exact aF l9 (pv 0) (pv 2) (aI _)) (λ s H C fp => by exact eG hu (pv 1) (pv 0))) ap))
  (ae (ah (eF rfl) rfl L.ms Ý (ae (kR (pv 4)) ap)) ap))))⟩
theorem zp : Bx (Ο (ax ar P w K mg base uP "_law_great_right" (aa kr) f ë A outer s H E).Ķ (av kr) (HA K CL CD)) :=
 dv (FB L hr) (dv (Ey L hr) (dv (FD L hr) (dv (Gb L hr) (dv (FU L hr) (dv (Fq L hr) (dv (Ef L hr) (aP (E7 L hr))))))))
omit L hr
end
theorem BK {H : Hp} {p : Addr} {D : aY} {u : TS} {o1 o2 o3 o4 o5 o6 o7 : Option V} (bx : Ĩ H p) (nx : ∀ (n : Nat) H', 1 <= n -> n <= 20 -> Ĩ H' p -> Kept H H' p -> u D [some (.ref p), some (.int (n : Nat)), o2, o3, o4, o5, o6, o7] H') : bL (ER K) u D [some (.ref p), o1, o2, o3, o4, o5, o6, o7] H := by
 refine bJ (cE (rC ?_));refine bU (i := 0) (m := 13) rfl bx (λ R r => r) am am λ r1 H1 a0 a7 Ix k1 => ⟨8, r1, rfl, rfl, ft, λ l hl => ?_⟩;have x3 := Ext.new (o := .lst [.int 20, .int (8 + r1)]) hl;have f3 : ak H1 l (.lst [.int 20, .int (8 + r1)]) l = some (.lst [.int 20, .int (8 + r1)]) := aQ;have JY := Ix.ext x3;refine bU (i := 0) (m := 2) rfl JY (λ R r => r) am am λ r3 H4 c0 c4 JX k4 => ?_;have f4 := k4 _ _ f3 (bV Ix hl);have kk := (k1.trans (x3.kept p)).trans k4;rcases (show r3 = 0 \/ r3 = 1 by omega) with rfl | rfl
 ·exact ⟨l, _, _, _, rfl, rfl, û.of f4, rfl, nx 20 H4 af af JX kk⟩
 ·have e : (8 + r1 : Int) = (((8 + r1).toNat : Nat) : Int) := af;have z := nx (8 + r1).toNat H4 af af JX kk;rw [<- e] at z;exact ⟨l, _, _, _, rfl, rfl, û.of f4, rfl, z⟩
theorem xG {i j a b : Nat} {u : TS} {D : aY} {σ : St} {H : Hp} {l : Addr} {L : List (Int × Int)} {x : Nat} (hi : σ[i]? = some (some (.ref l))) (hj : σ[j]? = some (some (.int (x : Nat)))) (ls : Ī H l L) (bt : bD L) (l1 : 1 <= L.length) (Ň : L.length <= 20) (hx : x < 2 ^ L.length)
  (q : ∀ r v1 v2 H', H r = none -> Ext H H' -> H' r = some (.tup [v1, v2]) -> Jc H' v1 (bB (cc L (oX L x) (m4 (wX L x))) (cc L (oX L x) λ _ => 1)) (aM (cc L (oX L x) (m4 (wX L x))) (cc L (oX L x) λ _ => 1)) -> Jc H' v2 (bB (cc L (oX L x) (mF (wX L x))) (cc L (oX L x) λ _ => 1)) (aM (cc L (oX L x) (mF (wX L x))) (cc L (oX L x) λ _ => 1)) -> u D ((σ.set a (some v1)).set b (some v2)) H') : bL (cQ (Aq CL CD i j) (gW K a b)) u D σ H := by
 show Aq CL CD i j σ H _;refine rB hi hj ls bt l1 Ň hx λ r H' h0 xx sh => ?_;obtain ⟨v1, v2, h, s1, s2⟩ := sh;exact ⟨r, _, rfl, ĕ.of h, rfl, _, _, rfl, _, _, rfl, rfl, q r v1 v2 H' h0 xx h s1 s2⟩
theorem Dv {fd : FuncData} (F : Ŏ K "_law_great_right" "_law_great_right" kr f fd) (L : Dy P w K mg base CL CD a1 a2 a3 a4 a5 a6 a7 a8 d1 d2 d3 d4 d5 d6 d7 d8) : az P w K mg base ar 7 f fd ["_law_box_here"] DA := by
 refine F.ok IW (λ vs H Q E h => ?_) (λ ë A outer s H vs Q E hr h => ?_)
 ·obtain ⟨p, rfl, _⟩ := h;rfl
 obtain ⟨p, rfl, bx, q⟩ := h;refine cj (zp L hr) ⟨?_⟩;refine BK bx λ n H1 n1 HV Ix k1 => ?_;refine ⟨_, rfl, _, rfl, p, n, rfl, Ix, HV, λ l Ls H2 hl k2 LA ls bt ln => ?_⟩;subst ln;have pw : (2 : Nat) ^ Ls.length <= 1048576 := Ò (æ am HV) am;have p1 : 0 < (2 : Nat) ^ Ls.length := Nat.pow_pos am;refine bJ (bU (i := 0) (m := ((2 ^ Ls.length : Nat) : Int)) rfl LA (λ R r => ⟨_, rfl, _, _, rfl, rfl, ⟨af, af, am⟩, by show R (V.int ((1 : Int) * 2 ^ ((Ls.length : Nat) : Int).toNat)) H2; rw [two_pow_cast]; exact r⟩) af af λ r H3 r0 rl JY k3 => ?_)
 obtain ⟨x, rfl⟩ : ∃ x : Nat, r = (x : Int) := ⟨r.toNat, af⟩;have hx : x < 2 ^ Ls.length := af;have nl : l ≠ p := bV Ix hl;have LQ : Ī H3 l Ls := ls.kept k3 LA nl;refine ⟨_, rfl, _, rfl, _, rfl, Ls.length, x, rfl, HV, λ H4 x4 => ?_⟩;refine ⟨l, oX Ls x, Ls, rfl, LQ.ext x4, bt, HV, λ d H5 ps hd x5 h5 du => ?_⟩;have X5 := x4.trans x5;refine bJ (ue (i := 2) (j := 3) rfl rfl (LQ.ext X5) HV λ H6 x6 => ?_);have X6 := X5.trans x6;refine xG (i := 2) (j := 3) (a := 6) (b := 7) rfl rfl (LQ.ext X6) bt n1 HV hx λ t v1 v2 H7 ht x7 h7 s1 s2 => ?_;have X7 := X6.trans x7;have RY : H7 d = some (.dK (bZ Key.inl ps)) := x7 _ _ (x6 _ _ h5);have T := xj (L := Ls) (x := x) HV;have Uv : H3 d = none := fG x4 hd;show bL (E1 K) (Fp K) _ [some (.ref p), some (.int (Ls.length : Nat)), some (.ref l), some (.int (x : Nat)), some (.ref d), some (.int (wX Ls x)), some v1, some v2] H7;have eD : ∀ g, dS g ps = cc Ls (oX Ls x) g := λ g => du.2 g;refine sY (K := K) (i := 6) (s := wX Ls x) (nq _) rfl rfl rfl (.inl RY) du.1 (eD _) (eD _) T.1 T.2 (ir Ls _ λ v => ng _ v) s1 λ H8 k8 T3 => ⟨_, rfl, dA ?_⟩;have TU : Jc H8 v2 (bB (cc Ls (oX Ls x) (mF (wX Ls x))) (cc Ls (oX Ls x) λ _ => 1)) (aM (cc Ls (oX Ls x) (mF (wX Ls x))) (cc Ls (oX Ls x) λ _ => 1)) := by
  obtain ⟨r, e, hr⟩ := s2;exact ⟨r, e, k8 _ _ hr (λ z => by rw [z, RY] at hr; cases hr)⟩
 refine sY (K := K) (i := 7) (s := wX Ls x) (nS _) rfl rfl rfl T3 du.1 (eD _) (eD _) T.1 T.2 (ir Ls _ λ v => nu _ v) TU λ H9 k9 Xq => q H9 λ b o e nb => ?_;have e3 := k3 _ _ (k2 _ _ (k1 _ _ e nb) nb) nb;have Rz : b ≠ d := λ z => by rw [z, Uv] at e3; cases e3
 exact k9 _ _ (k8 _ _ (X7 _ _ e3) Rz) Rz
end
def GX (G : Hp -> Hp) (H0 : Hp) (σ : St) (te : TE) (d : PyData) : Prop := ∀ (H : Hp) (Q : VK), Pt G H -> Ext H0 H -> (∀ v H', Ext H H' -> İ (G H') v d -> Q v H') -> te σ H Q
def Ji (G : Hp -> Hp) (H0 : Hp) (σ : St) (ta : TA) (ds : List PyData) : Prop := ∀ (H : Hp) (Q : List V -> Hp -> Prop), Pt G H -> Ext H0 H -> (∀ vs H', Ext H H' -> è (G H') vs ds -> Q vs H') -> ta σ H Q
section
variable {G : Hp -> Hp} {H0 : Hp} {σ : St} {te : TE} {ta : TA} {d : PyData} {ds : List PyData}
theorem GX.int (i : Int) : GX G H0 σ (tC (.int i)) (.int i) := λ H Q _ _ q => q _ H (Ext.refl _) (.int i)
theorem GX.bl (b : Bool) : GX G H0 σ (tC (.bl b)) (.bool b) := λ H Q _ _ q => q _ H (Ext.refl _) (.bl b)
theorem GX.Ė : GX G H0 σ (tC .Ė) .none := λ H Q _ _ q => q _ H (Ext.refl _) .Ė
theorem GX.str (z : Str) : GX G H0 σ (tC (.str z)) (.str z) := λ H Q _ _ q => q _ H (Ext.refl _) (.str z)
theorem GX.ID : GX G H0 σ oo (.dict []) := λ H Q pt x q => λ p hp => q _ _ (Ext.new hp) (.Ÿ (pt.new (Ext.refl _) hp))
theorem Ji.nil : Ji G H0 σ aC [] := λ H Q _ _ q => q [] H (Ext.refl _) .nil
theorem Ji.cons (h : GX G H0 σ te d) (k : Ji G H0 σ ta ds) : Ji G H0 σ (ac te ta) (d :: ds) := λ H Q pt x q =>
 h H _ pt x λ v H1 x1 r => k H1 _ (pt.ext x1) (x.trans x1) λ vs H2 x2 rs => q (v :: vs) H2 (x1.trans x2) (.cons (r.mono (pt.mono x2)) rs)
theorem GX.tup (k : Ji G H0 σ ta ds) (hz : ds.length <= 1000) : GX G H0 σ (dE ta) (.tuple ds) := λ H Q pt x q =>
 k H _ pt x λ vs H1 x1 rs => ⟨by rw [rs.length, Ú]; omega, λ p hp => q _ _ (x1.trans (Ext.new hp)) (.tup (pt.new x1 hp) (rs.mono (pt.mono (Ext.new hp))))⟩
theorem GX.lst (k : Ji G H0 σ ta ds) (hz : ds.length <= 1000) : GX G H0 σ (bC ta) (.list ds) := λ H Q pt x q =>
 k H _ pt x λ vs H1 x1 rs => ⟨by rw [rs.length, Ú]; omega, λ p hp => q _ _ (x1.trans (Ext.new hp)) (.lst (pt.new x1 hp) (rs.mono (pt.mono (Ext.new hp))))⟩
theorem è.rep {G : Hp} {vs : List V} {ds : List PyData} (r : è G vs ds) : ∀ k : Nat, è G (List.replicate k vs).flatten (List.replicate k ds).flatten
 | 0 => .nil
 | k + 1 => by
  rw [î, î, Ľ, Ľ];exact r.append (r.rep k)
theorem Ji.use {Q : VK} (k : Ji G H0 σ ta ds) (pt : Pt G H0) (hz : ds.length <= 1000) (q : ∀ l vs H', Ext H0 H' -> H0 l = none -> G H' l = some (.lst vs) -> H' l = some (.lst vs) -> è (G H') vs ds -> Q (.ref l) H') : bC ta σ H0 Q :=
 k H0 _ pt (Ext.refl _) λ vs H1 x1 rs => ⟨by rw [rs.length, Ú]; omega, λ p hp => q p vs _ (x1.trans (Ext.new hp)) (by
  cases e : H0 p with
  | none => rfl
  | some o => rw [x1 _ _ e] at hp; cases hp) (pt.new x1 hp) aQ (rs.mono (pt.mono (Ext.new hp)))⟩
end
structure vE (K : Frag) (mg : bu) (D CL CD : Addr) : Prop where
 T : uq K
 cL : pC K CL
 cN : pC K CD
 mD : mg "DealError" = some (.ref D)
 mL : mg "NoListing" = some (.ref CL)
 mN : mg "NoDealing" = some (.ref CD)
 fL : pT K CL "found"
 fN : pT K CD "found"
 ll : mroIn K CL (.ref CL) = some true
 nl : mroIn K CD (.ref CL) = some false
 nn : mroIn K CD (.ref CD) = some true
 kL : kitOne K (.ref CL) (.ref D) = some true
 kN : kitOne K (.ref CD) (.ref D) = some true
def vC (K : Frag) (D : Addr) (z : Str) : TS := bQ (bC (ac (tC (.str z)) (ac (eY pN (ac (va K (aq 2) "found") aC)) (ac (eY (yf K) (ac (aq 2) (ac (tC (.ref D)) aC))) aC))))
def Gw (K : Frag) (D CL CD : Addr) : TH := EH K CL 2 (vC K D "listing") (EH K CD 2 (vC K D "dealing") CM)
def B0 (CL CD : Addr) (E : XK) : TS := bQ (bC (ac (tC (.str "told")) (ac (eY pN (ac (c5 (kq CL CD) [] E (ac (aq 0) (ac (aq 1) aC))) aC)) aC)))
section
variable {P : Program} {w : World} {K : Frag} {mg : bu} {base : Heap} {D CL CD : Addr}
abbrev v5 : Stmt := cD 59
abbrev E4 : List Str := ["_law_listing_here", "_law_dealing", "e"]
theorem Ny : ai E4 ["_law_listing_here", "_law_dealing"] (aa v5) := aS
def Dl (dx dy : PyData) (z : Str × PyData) : Prop := (qc dx = false /\ z = (("listing" : Str), dx)) \/ ∃ L : List (Int × Int), dx = .list (L.map pD) /\ qc dx = true /\ dB 0 (((2 ^ L.length : Nat) : Int) - 1) dy = false /\ z = (("dealing" : Str), dy)
def DU (H : Hp) (l : Addr) (z : Str × PyData) : Prop := H l = some (.lst [.str z.1, .str z.2.shown, .bl true])
def mE : Sp := λ vs H Q _ => ∃ (x y : V) (dx dy : PyData) (z : Str × PyData), vs = [x, y] /\ H sysModules = none /\ İ H x dx /\ İ H y dy /\ (∀ ds, dx = .list ds -> ds.length < 10000) /\ Dl dx dy z /\ qW z.2 /\ ∀ l H', H l = none -> Ext H H' -> DU H' l z -> Q (.ref l) H'
variable {f : Addr} {ë : Value} {A : Around} {outer : List Env} {s : Shared} {H : Hp} {E : XK}
theorem lV {z : Str} {p0 p1 p2 p3 p4 p5 p6 p7 p8 p9 Uf : Pos} {x : Addr} (hz : H sysModules = none) (Z : vE K mg D CL CD) (mp : mg "repr" = none) (mi : mg "isinstance" = none) (hr : mR 6 "_law_asked" v5 A s f ë) :
  Ο (m9 (ax ar P w K mg base E4 "_law_asked" (aa v5) f ë A outer s H E).Ķ x) [.Return (some (.List [.Constant (.str z) 0 p0, .Call (.Name "repr" p1) [.Attribute (.Name "e" p2) "found" p3] [] p4, .Call (.Name "isinstance" p5) [.Name "e" p6, .Name "DealError" p7] [] p8] p9)) Uf] (vC K D z) :=
 bw (cq (aX (ae c8 (ae (ah (eM hz hr.gd hr.units) rfl mp Ś (ae (um (pv 2) rfl) ap)) (ae (ah (qU Z.T) rfl mi ã (ae (pv 2) (ae (cG (v := .ref D) rfl Z.mD rfl) ap))) ap)))))
theorem At {a1 : Addr} {d1 : FuncData} (hz : H sysModules = none) (Z : vE K mg D CL CD) (A1 : Df P w K mg base (iG P w) 6 "listing_shares" ["listing", "dealing"] (kq CL CD) a1 d1) (mp : mg "repr" = none) (mi : mg "isinstance" = none) (hr : mR 6 "_law_asked" v5 A s f ë) :
  Bx (Ο (ax ar P w K mg base E4 "_law_asked" (aa v5) f ë A outer s H E).Ķ (av v5) (xA (B0 CL CD) (Gw K D CL CD))) := by
 have nd := Ny.nd;refine aP ⟨xb (tb := B0 CL CD) (th := Gw K D CL CD) rfl rfl (λ σ E' pn xe hp => ?_) ?_⟩
 ·exact wE (yy (iK (Bs c8) (iK (tE (eM hz hr.gd hr.units) rfl mp Ś (iK (vZ (E := E') A1.G hr rfl A1.m A1.kp A1.b .nil hp (se (ae (pv 0) (ae (pv 1) ap)))) pJ)) pJ)))
 ·exact uw (i := 2) nd rfl rfl Z.cL rfl Z.mL (λ x => lV hz Z mp mi hr) (uw (i := 2) nd rfl rfl Z.cN rfl Z.mN (λ x => lV hz Z mp mi hr) vY)
theorem xO {C e dx : Addr} {z : Str} {v : V} {d : PyData} {D' : aY} {v0 v1 o2 : Option V} (F : pT K C "found") (kk : kitOne K (.ref C) (.ref D) = some true) (fe : H e = some (fu e C (some dx))) (fd : H dx = some (.xd [("found", v)])) (rv : İ H v d) (sw : qW d) (q : ∀ l H', H l = none -> Ext H H' -> DU H' l (z, d) -> D'.rt (.ref l) H') :
  vC K D z (j9 D' 2) (([v0, v1, o2] : St).set 2 (some (.ref e))) H := by
 refine ⟨_, rfl, e, C, dx, _, v, rfl, fe, fd, by rw [χ, ı], F.it, F.hd, F.nf, v, d, rfl, rv, sw, _, rfl, e, C, dx, _, _, _, rfl, fe, fd, F.it, .inl ⟨_, rfl⟩, kk, ft, λ l hl => ?_⟩
 exact q l _ hl (Ext.new hl) aQ
theorem Bh {fd : FuncData} {a1 : Addr} {d1 : FuncData} (Z : vE K mg D CL CD) (F : Ŏ K "_law_asked" "_law_asked" v5 f fd) (A1 : Df P w K mg base (iG P w) 6 "listing_shares" ["listing", "dealing"] (kq CL CD) a1 d1) (mp : mg "repr" = none) (mi : mg "isinstance" = none) : az P w K mg base ar 7 f fd ["_law_listing_here", "_law_dealing"] mE := by
 refine F.ok Ny (λ vs H Q E h => ?_) (λ ë A outer s H vs Q E hr h => ?_)
 ·obtain ⟨x, y, dx, dy, z, rfl, _⟩ := h;rfl
 obtain ⟨x, y, dx, dy, z, rfl, hz, rx, ry, sm, ref, sw, q⟩ := h;refine cj (At hz Z A1 mp mi hr) ⟨?_⟩;refine ⟨_, rfl, _, rfl, x, y, dx, dy, rfl, rx, ry, sm, ?_, λ L ed et => ⟨?_, ?_⟩⟩
 ·intro ef H1 x1;rcases ref with ⟨_, rfl⟩ | ⟨_, _, et, _⟩
  ·exact uQ λ e SK H2 x2 fe fd => ⟨e, CL, rfl, rfl, true, Z.ll, hG (xO (D' := ⟨_, Q, _, _⟩) Z.fL Z.kL fe fd (rx.mono (x1.trans x2)) sw λ l H3 hl x3 an => q l H3 (fG (x1.trans x2) hl) ((x1.trans x2).trans x3) an)⟩
  ·rw [et] at ef; cases ef
 ·intro ei H1 x1;rcases ref with ⟨ef, _⟩ | ⟨L', N8, Wi, R6, rfl⟩
  ·rw [et] at ef; cases ef
  ·exact uQ λ e SK H2 x2 fe fd => ⟨e, CD, rfl, rfl, false, Z.nl, dA ⟨true, Z.nn, hG (xO (D' := ⟨_, Q, _, _⟩) Z.fN Z.kN fe fd (ry.mono (x1.trans x2)) sw λ l H3 hl x3 an => q l H3 (fG (x1.trans x2) hl) ((x1.trans x2).trans x3) an)⟩⟩
 ·intro n en hn;rcases ref with ⟨ef, _⟩ | ⟨L', N8, Wi, R6, rfl⟩
  ·rw [et] at ef; cases ef
  ·exfalso;rw [ed] at N8;injection N8 with N8
   cases og N8;subst en;have Kw : ((n : Nat) : Int) < ((2 ^ L.length : Nat) : Int) := Me.mpr hn;have z' : (decide ((0 : Int) <= ((n : Nat) : Int)) && decide (((n : Nat) : Int) <= (((2 ^ L.length : Nat) : Int) - 1))) = false := R6;rw [Ŧ, Ć, Ć] at z';omega
end
def Db (K : Frag) : TA := ac (tC .Ė) (ac (bC aC) (ac (eY (rQ K) (ac (aq 1) aC)) (ac (bc Da (aq 1) (tC (.int 21))) (ac (bc rh (aq 1) (bC (ac (DM (1, 2)) aC))) (ac (bC (ac (DM (1, 0)) (ac (tC .Ė) aC)))
 (ac (bC (ac (bC (ac (tC (.int 1)) (ac (tC (.int 0)) aC))) aC)) (ac (bC (ac (dE (ac (tC (.bl true)) (ac (tC (.int 0)) aC))) aC)) (ac (tC (.str "10")) (ac oo aC)))))))))
def BG : TA := ac (bC (ac (dE (ac (tC (.int 1)) (ac (tC (.int 0)) (ac (tC (.int 0)) aC)))) aC)) (ac (bC (ac (tC (.int 1)) (ac (tC (.int 0)) aC))) aC)
def DD (K : Frag) : TA := ac (GL (rU λ i => .int (-i)) (tC (.int 1))) (ac (bc (rI nR λ i j => .int (i * 2 ^ j.toNat)) (tC (.int 1)) (eY (kZ K) (ac (aq 1) aC))) (ac (tC .Ė) (ac (tC (.bl true)) (ac (tC (.str "1")) (ac (bC (ac (aq 2) aC)) (ac (dE (ac (tC (.int 0)) aC)) (ac (bc (rI nR λ i j => .int (i ^ j.toNat)) (tC (.int 10)) (tC (.int 29))) aC)))))))
def FW (K : Frag) : TS := cQ (bC (Db K)) (bf 3)
def EX (K : Frag) : TS := cQ (bc (gM K) (bc rh (aq 3) (bC BG)) (vh 0 (tC (.int 12)))) (bf 3)
def ET (K : Frag) : TS := cQ (bc (gM K) (bC (DD K)) (vh 0 (tC (.int 8)))) (bf 4)
def oR (z : Str) (i : Nat) : TE := bC (ac (tC (.str z)) (ac (eY pN (ac (aq i) aC)) (ac (tC (.bl true)) aC)))
def GQ (K : Frag) : TS := jf (cU K (bC (ac (aq 2) (ac (aq 4) aC)))) (bf 5) (oq (tB (bc (nt not) (i5 mE E0 (ac (aq 3) (ac (aq 5) aC))) (oR "listing" 3))) (bQ (tC (.bl false))) iF)
def Gk : TS := bQ (bc (nt id) (i5 mE E0 (ac (aq 1) (ac (aq 4) aC))) (oR "dealing" 4))
def HL (K : Frag) : TS := bL (FW K) (bL (EX K) (bL (ET K) (bL (GQ K) Gk)))
section
variable {P : Program} {w : World} {K : Frag} {mg : bu} {base : Heap} {f a1 a2 : Addr} {d1 d2 : FuncData}
abbrev mI : Stmt := cD 60
abbrev yH : List Str := ["_law_box_here", "_law_listing_here", "_law_dealing", "_law_bad", "_law_far", "_law_one"]
theorem Kh : ai yH ["_law_box_here", "_law_listing_here", "_law_dealing"] (aa mI) := aS
abbrev rL (i : Nat) : Stmt := (av mI).getD i s0
section
variable {ë : Value} {A : Around} {outer : List Env} {s : Shared} {H : Hp} {E : XK}
theorem Fh (mt : mg "tuple" = none) : Bx (PS (ax ar P w K mg base yH "_law_refused_right" (aa mI) f ë A outer s H E).Ķ (rL 0) (FW K)) :=
 ij (i := 3) Kh.nd rfl (Or.inl rfl) (dF (dX ⟨nK⟩ (dX ⟨aX ap⟩ (dX ⟨cw fh rfl mt Ğ (ae (pv 1) ap)⟩ (dX ⟨aj zw (pv 1) aw⟩ (dX ⟨aj n6 (pv 1) (aX (ae (aO (ae aw (ae aw ap))) ap))⟩
  (dX ⟨aX (ae (aO (ae aw (ae aw ap))) (ae nK ap))⟩ (dX ⟨aX (ae (aX (ae aw (ae aw ap))) ap)⟩ (dX ⟨aX (ae (aO (ae jd (ae aw ap))) ap)⟩ (dX ⟨c8⟩ (dX ⟨k6⟩ cI)))))))))))
theorem Fj (A1 : Df P w K mg base ar 1 "_law_take" ["_law_box_here", "_law_many"] cf a1 d1) (hr : mR 1 "_law_refused_right" mI A s f ë) : Bx (PS (ax ar P w K mg base yH "_law_refused_right" (aa mI) f ë A outer s H E).Ķ (rL 1) (EX K)) :=
 ij (i := 3) Kh.nd rfl (Or.inl rfl) (lY kX (xX n6 ⟨pv 3⟩ (dF (dX ⟨aX (ae (aO (ae aw (ae aw (ae aw ap)))) ap)⟩ (dX ⟨aX (ae aw (ae aw ap))⟩ cI))))
  ⟨bY A1 hr ao (ae (pv 0) (ae aw ap))⟩)
theorem Fb (A1 : Df P w K mg base ar 1 "_law_take" ["_law_box_here", "_law_many"] cf a1 d1) (ml : mg "len" = none) (hr : mR 1 "_law_refused_right" mI A s f ë) : Bx (PS (ax ar P w K mg base yH "_law_refused_right" (aa mI) f ë A outer s H E).Ķ (rL 2) (ET K)) :=
 ij (i := 4) Kh.nd rfl (Or.inl rfl) (lY kX (dF (dX ⟨xT sR aw⟩ (dX ⟨aj iU aw (ah au rfl ml í (ae (pv 1) ap))⟩ (dX ⟨nK⟩ (dX ⟨jd⟩ (dX ⟨c8⟩ (dX ⟨aX (ae (pv 2) ap)⟩ (dX ⟨aO (ae aw ap)⟩ (dX ⟨aj uf aw aw⟩ cI)))))))))
  ⟨bY A1 hr ao (ae (pv 0) (ae aw ap))⟩)
theorem F6 (hz : H sysModules = none) (A2 : Df P w K mg base ar 7 "_law_asked" ["_law_listing_here", "_law_dealing"] mE a2 d2) (mp : mg "repr" = none) (hr : mR 7 "_law_refused_right" mI A s f ë) : Bx (PS (ax ar P w K mg base yH "_law_refused_right" (aa mI) f ë A outer s H E).Ķ (rL 3) (GQ K)) :=
 fV õ rfl (ki ⟨aX (ae (pv 2) (ae (pv 4) ap))⟩) (bM (i := 5) Kh.nd rfl (Or.inl rfl))
  (aP ⟨bp (aF (uW hr.units) (fH hz A2.G hr rfl A2.m A2.kp A2.b ao (ae (pv 3) (ae (pv 5) ap))) (aX (ae c8 (ae (ah (eM hz hr.gd hr.units) rfl mp Ś (ae (pv 3) ap)) (ae jd ap)))) (aI _)) (bw (cq jd)) hV⟩)
theorem EZ (hz : H sysModules = none) (A2 : Df P w K mg base ar 7 "_law_asked" ["_law_listing_here", "_law_dealing"] mE a2 d2) (mp : mg "repr" = none) (hr : mR 7 "_law_refused_right" mI A s f ë) : Bx (PS (ax ar P w K mg base yH "_law_refused_right" (aa mI) f ë A outer s H E).Ķ (rL 4) Gk) :=
 ⟨cq (eB (zV hr.units) (fH hz A2.G hr rfl A2.m A2.kp A2.b ao (ae (pv 1) (ae (pv 4) ap))) (aX (ae c8 (ae (ah (eM hz hr.gd hr.units) rfl mp Ś (ae (pv 4) ap)) (ae jd ap)))) (aI _))⟩
theorem z0 (hz : H sysModules = none) (A1 : Df P w K mg base ar 1 "_law_take" ["_law_box_here", "_law_many"] cf a1 d1) (A2 : Df P w K mg base ar 7 "_law_asked" ["_law_listing_here", "_law_dealing"] mE a2 d2) (mt : mg "tuple" = none) (ml : mg "len" = none) (mp : mg "repr" = none) (hr : mR 7 "_law_refused_right" mI A s f ë) :
  Bx (Ο (ax ar P w K mg base yH "_law_refused_right" (aa mI) f ë A outer s H E).Ķ (av mI) (HL K)) := by
 have Δ : ė 1 _ := hr.mono am;exact dv (Fh mt) (dv (Fj A1 Δ) (dv (Fb A1 ml Δ) (dv (F6 hz A2 mp hr) (aP (EZ hz A2 mp hr)))))
end
end
abbrev A9 (L : List (Int × Int)) : List PyData := (List.replicate 21 (L.map pD)).flatten
def oY (L : List (Int × Int)) : List PyData := [.none, .list [], .tuple (L.map pD), .list (A9 L), .list (L.map pD ++ [pD (1, 2)]), .list [pD (1, 0), .none], .list [.list [.int 1, .int 0]], .list [.tuple [.bool true, .int 0]], .str "10", .dict []]
def rO : List PyData := [.list [.tuple [.int 1, .int 0, .int 0]], .list [.int 1, .int 0]]
def uV (n : Nat) (x : Nat) : List PyData := [.int (-1), .int ((2 ^ n : Nat) : Int), .none, .bool true, .str "1", .list [.int (x : Nat)], .tuple [.int 0], .int (10 ^ 29)]
theorem Do {L : List (Int × Int)} (bt : bD L) : ∀ d ∈ L.map pD, Fi 1 7 d := λ d hd => by
 obtain ⟨p, hp, rfl⟩ := ò.mp hd;obtain ⟨b1, b2⟩ := bt p hp;refine dP (k := 0) (n := 2) (m := 2) ?_ (by simp)
 simp only [List.mem_cons, List.not_mem_nil, or_false];rintro y (rfl | rfl) <;> exact bE af af
theorem kf (L : List (Int × Int)) : (A9 L).length = 21 * L.length := by
 unfold A9;rw [oH, Å]
theorem wI {L : List (Int × Int)} (bt : bD L) (l1 : 1 <= L.length) (Ň : L.length <= 20) : ∀ e ∈ oY L ++ rO, qc e = false /\ Fi 3 8000 e /\ ∀ ds, e = .list ds -> ds.length < 10000 := by
 have f0 : Fi 0 2 (.int 0) := bE am am;have f1 : Fi 0 2 (.int 1) := bE am am;have f2 : Fi 0 2 (.int 2) := bE am am;have fp := Do bt;have AI : ∀ {a b : PyData}, Fi 0 2 a -> Fi 0 2 b -> Fi 1 7 (.tuple [a, b]) := λ h h' => dP (k := 0) (n := 2) (m := 2) (by simp only [List.mem_cons, List.not_mem_nil, or_false]; rintro y (rfl | rfl) <;> assumption) (by simp)
 have Ng : ∀ {a b : PyData}, Fi 0 2 a -> Fi 0 2 b -> Fi 1 7 (.list [a, b]) := λ h h' => dm (k := 0) (n := 2) (m := 2) (by simp only [List.mem_cons, List.not_mem_nil, or_false]; rintro y (rfl | rfl) <;> assumption) (by simp)
 have Mv : ∀ {k n : Nat} {a : PyData}, Fi k n a -> Fi (k + 1) ((n + 1) * 1 + 1) (.list [a]) := λ h => dm (by simp only [List.mem_cons, List.not_mem_nil, or_false]; rintro y rfl; assumption) (by simp)
 intro e he;simp only [oY, rO, List.cons_append, List.nil_append, List.mem_cons, List.not_mem_nil, or_false] at he;rcases he with rfl | rfl | rfl | rfl | rfl | rfl | rfl | rfl | rfl | rfl | rfl | rfl
 ·exact ⟨rfl, II.mono am am, (λ ds e => by cases e)⟩
 ·exact ⟨rfl, (dm (k := 0) (n := 0) (m := 0) (ds := []) (λ _ h => nomatch h) (by simp)).mono am am, (λ ds e => by cases e; decide)⟩
 ·exact ⟨rfl, (dP fp (m := 20) (by rw [Å]; exact Ň)).mono am am, (λ ds e => by cases e)⟩
 ·refine ⟨?_, (dm (k := 1) (n := 7) (m := 420) (λ d hd => ?_) (by rw [kf]; omega)).mono am am, (λ ds e => by injection e with e; rw [<- e, kf]; omega)⟩
  ·show (decide (1 <= (A9 L).length) && decide ((A9 L).length <= 20) && _) = false;rw [kf, à (show ¬ (21 * L.length <= 20) by omega), Λ, F_]
  ·obtain ⟨ds, Vt, OC⟩ := List.mem_flatten.mp hd;rw [(List.mem_replicate.mp Vt).2] at OC;exact fp d OC
 ·refine ⟨?_, (dm (k := 1) (n := 7) (m := 21) (λ d hd => ?_) (by rw [Ï, Å]; show L.length + 1 <= 21; omega)).mono am am, (λ ds e => by injection e with e; rw [<- e, Ï, Å]; show L.length + 1 < 10000; omega)⟩
  ·show (_ && _ && (L.map pD ++ [pD (1, 2)]).all bH) = false;rw [List.all_append, show ([pD (1, 2)] : List PyData).all bH = false from rfl, Λ, Λ]
  ·rcases Ŗ.mp hd with h | h
   ·exact fp d h
   ·cases ď.mp h;exact AI f1 f2
 ·exact ⟨rfl, (dm (k := 1) (n := 7) (m := 2) (by simp only [List.mem_cons, List.not_mem_nil, or_false]; rintro y (rfl | rfl) <;> first | exact II.mono am am | exact AI f1 f0) (by simp)).mono am am, (λ ds e => by cases e; decide)⟩
 ·exact ⟨rfl, (Mv (Ng f1 f0)).mono am am, (λ ds e => by cases e; decide)⟩
 ·exact ⟨rfl, (Mv (AI JB f0)).mono am am, (λ ds e => by cases e; decide)⟩
 ·exact ⟨rfl, ⟨rfl, by simp [PyData.depth], aJ, aJ⟩, (λ ds e => by cases e)⟩
 ·exact ⟨rfl, Ly.mono am am, (λ ds e => by cases e)⟩
 ·exact ⟨rfl, (Mv (dP (k := 0) (n := 2) (m := 3) (by simp only [List.mem_cons, List.not_mem_nil, or_false]; rintro y (rfl | rfl | rfl) <;> assumption) (by simp))).mono am am, (λ ds e => by cases e; decide)⟩
 ·exact ⟨rfl, (Ng f1 f0).mono am am, (λ ds e => by cases e; decide)⟩
theorem wb {n x : Nat} (h1 : n <= 20) (h2 : x <= 1048576) : ∀ e ∈ uV n x, dB 0 (((2 ^ n : Nat) : Int) - 1) e = false /\ Fi 3 8000 e := by
 have pw : (2 : Nat) ^ n <= 1048576 := Ò (æ am h1) am;have fx : Fi 0 2 (.int ((x : Nat) : Int)) := bE af af;have f0 : Fi 0 2 (.int 0) := bE am am;unfold uV;generalize (2 : Nat) ^ n = m at *;intro e he;simp only [List.mem_cons, List.not_mem_nil, or_false] at he;rcases he with rfl | rfl | rfl | rfl | rfl | rfl | rfl | rfl
 ·exact ⟨rfl, (bE am am).mono am am⟩
 ·refine ⟨?_, (bE af af).mono am am⟩;show (decide ((0 : Int) <= ((m : Nat) : Int)) && decide (((m : Nat) : Int) <= ((m : Nat) : Int) - 1)) = false;rw [à (show ¬ (((m : Nat) : Int) <= ((m : Nat) : Int) - 1) by omega), Λ]
 ·exact ⟨rfl, II.mono am am⟩
 ·exact ⟨rfl, JB.mono am am⟩
 ·exact ⟨rfl, ⟨rfl, by simp [PyData.depth], aJ, aJ⟩⟩
 ·exact ⟨rfl, (dm (k := 0) (n := 2) (m := 1) (by simp only [List.mem_cons, List.not_mem_nil, or_false]; rintro y rfl; assumption) (by simp)).mono am am⟩
 ·exact ⟨rfl, (dP (k := 0) (n := 2) (m := 1) (by simp only [List.mem_cons, List.not_mem_nil, or_false]; rintro y rfl; assumption) (by simp)).mono am am⟩
 ·refine ⟨?_, (uR am).mono am am⟩;show (decide ((0 : Int) <= 10 ^ 29) && decide ((10 : Int) ^ 29 <= ((m : Nat) : Int) - 1)) = false;rw [à (show ¬ ((10 : Int) ^ 29 <= ((m : Nat) : Int) - 1) by omega), Λ]
section
variable {K : Frag} {G : Hp -> Hp} {H0 : Hp} {σ : St} {te : TE} {ta : TA} {xs : List V} {ds Qt : List PyData} {p l : Addr}
theorem GX.ofT (h : ∀ H (Q : VK), Ext H0 H -> (∀ p H1, Ext H H1 -> H1 p = none -> Q (.ref p) (ak H1 p (.tup xs))) -> te σ H Q) (r : è (G H0) xs ds) : GX G H0 σ te (.tuple ds) := λ H Q pt x q => h H Q x λ p H1 x1 hp => q _ _ (x1.trans (Ext.new hp)) (.tup (pt.new x1 hp) (r.mono (pt.mono (x.trans (x1.trans (Ext.new hp))))))
theorem GX.Rq (h : ∀ H (Q : VK), Ext H0 H -> (∀ p H1, Ext H H1 -> H1 p = none -> Q (.ref p) (ak H1 p (.lst xs))) -> te σ H Q) (r : è (G H0) xs ds) : GX G H0 σ te (.list ds) := λ H Q pt x q => h H Q x λ p H1 x1 hp => q _ _ (x1.trans (Ext.new hp)) (.lst (pt.new x1 hp) (r.mono (pt.mono (x.trans (x1.trans (Ext.new hp))))))
theorem GX.Qu {i : Nat} (si : σ[i]? = some (some (.ref l))) (hl : H0 l = some (.lst xs)) (r : è (G H0) xs ds) (k : Ji G H0 σ ta Qt) (hz : ds.length <= 1000) (NP : Qt.length <= 1000) : GX G H0 σ (bc rh (aq i) (bC ta)) (.list (ds ++ Qt)) := λ H Q pt x q => by
 refine ⟨_, si, k H _ pt x λ vs H1 x1 rs => ⟨by rw [rs.length, Ú]; omega, λ b hb => ?_⟩⟩
 have x2 := Ext.new (o := .lst vs) hb;have X := x.trans (x1.trans x2);refine ⟨l, b, xs, vs, rfl, rfl, X _ _ hl, aQ, by rw [r.length, rs.length, Ú]; omega, λ p hp => ?_⟩
 have x3 := Ext.new (o := .lst (xs ++ vs)) hp;exact q _ _ ((x1.trans x2).trans x3) (.lst (pt.new (x1.trans x2) hp) ((r.mono (pt.mono (X.trans x3))).append ((rs.mono (pt.mono x2)).mono (pt.mono x3))))
theorem xQ (z : Int × Int) : GX G H0 σ (DM z) (pD z) := .tup (.cons (.int _) (.cons (.int _) .nil)) (by show 2 <= 1000; decide)
theorem Bz {L : List (Int × Int)} (s1 : σ[1]? = some (some (.ref l))) (hl : H0 l = some (.lst xs)) (r : è (G H0) xs (L.map pD)) (Ň : L.length <= 20) : Ji G H0 σ (Db K) (oY L) := by
 have lr : xs.length = L.length := by rw [r.length, Å]
 refine .cons .Ė (.cons (.lst .nil am) (.cons ?_ (.cons ?_ (.cons ?_ (.cons (.lst (.cons (xQ _) (.cons .Ė .nil)) am) (.cons (.lst (.cons (.lst (.cons (.int _) (.cons (.int _) .nil)) am) .nil) am) (.cons (.lst (.cons (.tup (.cons (.bl _) (.cons (.int _) .nil)) am) .nil) am) (.cons (.str _) (.cons .ID .nil)))))))))
 ·exact GX.ofT (xs := xs) (λ H Q x q => ⟨_, s1, l, xs, rfl, .inl ⟨û.of (x _ _ hl), λ p hp => q p H (Ext.refl _) hp⟩⟩) r
 ·exact GX.Rq (xs := (List.replicate 21 xs).flatten) (λ H Q x q => ⟨_, s1, l, 21, xs, rfl, rfl, x _ _ hl, am, am, by show xs.length * 21 <= sizeLine; rw [Ú]; omega, λ p hp => q p H (Ext.refl _) hp⟩) (r.rep 21)
 ·exact GX.Qu s1 hl r (.cons (xQ _) .nil) (by rw [Å]; omega) am
theorem CY : Ji G H0 σ BG rO :=
 .cons (.lst (.cons (.tup (.cons (.int _) (.cons (.int _) (.cons (.int _) .nil))) am) .nil) am) (.cons (.lst (.cons (.int _) (.cons (.int _) .nil)) am) .nil)
theorem CV {n x : Nat} (s1 : σ[1]? = some (some (.ref l))) (s2 : σ[2]? = some (some (.int (x : Nat)))) (hl : H0 l = some (.lst xs)) (lx : xs.length = n) (HV : n <= 20) : Ji G H0 σ (DD K) (uV n x) := by
 refine .cons (λ H Q _ _ q => ⟨1, rfl, q _ H (Ext.refl _) (.int _)⟩) (.cons ?_ (.cons .Ė (.cons (.bl _) (.cons (.str _) (.cons ?_ (.cons (.tup (.cons (.int _) .nil) am) (.cons ?_ .nil)))))))
 ·intro H Q pt xx q;refine ⟨_, s1, l, xs, rfl, .inl (û.of (xx _ _ hl)), ?_⟩;rw [lx];refine ⟨_, _, rfl, rfl, ⟨af, af, am⟩, ?_⟩;show Q (.int ((1 : Int) * 2 ^ ((n : Nat) : Int).toNat)) H;rw [two_pow_cast];exact q _ H (Ext.refl _) (.int _)
 ·exact GX.Rq (xs := [.int (x : Nat)]) (λ H Q xx q => ⟨_, s2, ft, λ l hl => q l H (Ext.refl _) hl⟩) (.cons (.int _) .nil)
 ·exact λ H Q pt x q => ⟨_, _, rfl, rfl, ⟨am, am, am⟩, q _ H (Ext.refl _) (.int _)⟩
end
section
variable {P : Program} {w : World} {K : Frag} {mg : bu} {base : Heap} {H : Hp} {p l : Addr} {L : List (Int × Int)} {x : Nat} {De : aY} {o3 o4 o5 : Option V}
theorem Ĩ.pt (bx : Ĩ H p) : Pt (λ H => wo H p) H := by
 obtain ⟨u, hu⟩ := bx.some;exact Dc hu
theorem rX {t : Addr} {xs : List V} (bx : Ĩ H p) (h : H t = some (.tup xs)) : t ≠ p := λ e => by
 subst e;obtain ⟨_, _, _, hp, _⟩ := bx;rw [h] at hp;cases hp
theorem BV (bx : Ĩ H p) (n : l ≠ p) (ls : Ī H l L) : ∃ xs, H l = some (.lst xs) /\ è (wo H p) xs (L.map pD) := by
 obtain ⟨xs, h, pr⟩ := ls;refine ⟨xs, h, ?_⟩
 clear h
 induction pr with
 | nil => exact .nil
 | cons r _ ih =>
  obtain ⟨t, rfl, ht⟩ := r;exact .cons (.tup (sZ (rX bx ht) ht) (.cons (.int _) (.cons (.int _) .nil))) ih
theorem zg {u : TS} (bx : Ĩ H p) (n : l ≠ p) (ls : Ī H l L) (bt : bD L) (l1 : 1 <= L.length) (Ň : L.length <= 20)
  (q : ∀ v e H', Ĩ H' p -> Kept H H' p -> İ (wo H' p) v e -> qc e = false -> Fi 3 8000 e -> (∀ ds, e = .list ds -> ds.length < 10000) -> u De [some (.ref p), some (.ref l), some (.int (x : Nat)), some v, o4, o5] H') : bL (FW K) (bL (EX K) u) De [some (.ref p), some (.ref l), some (.int (x : Nat)), o3, o4, o5] H := by
 obtain ⟨xs, hl, rl⟩ := BV bx n ls;refine bJ ?_;refine Ji.use (Bz (K := K) (G := λ H => wo H p) (σ := [some (.ref p), some (.ref l), some (.int (x : Nat)), o3, o4, o5]) rfl hl rl Ň) bx.pt (by show 10 <= 1000; decide) λ l1 vs H1 x1 a0 hg ha rs => ?_
 have Ix := bx.ext x1;refine bJ (cE (cE ⟨_, rfl, ?_⟩));refine Ji.use CY Ix.pt am λ l2 us H2 x2 b0 RP hb TX => ?_;have Vy := x2 _ _ ha;have TY : è (wo H2 p) vs (oY L) := è.mono (sr x2 p) rs;have rA := TY.append TX;have lA : (vs ++ us).length = 12 := rA.length;refine ⟨l1, l2, vs, us, rfl, rfl, Vy, hb, by rw [Ï] at lA; rw [lA, Ú]; omega, λ l3 KQ => ?_⟩
 have x3 := Ext.new (o := .lst (vs ++ us)) KQ;have JY := (Ix.ext x2).ext x3;refine bU (i := 0) rfl JY (λ R r => r) am am λ r H4 r0 Xs JX k4 => ?_;have hi : r.toNat < (vs ++ us).length := af;have n3 : l3 ≠ p := bV (Ix.ext x2) KQ;obtain ⟨e, ee, re⟩ := rA.get (Ã hi);obtain ⟨c1, c2, c3⟩ := wI bt ‹_› Ň e (á ee);refine ⟨l3, _, _, _, rfl, rfl, û.of (k4 _ _ aQ n3), tM r0 hi, ?_⟩;exact q _ e H4 JX (((x1.trans (x2.trans x3)).kept p).trans k4) ((re.mono (sr x3 p)).mono (gY k4)) c1 c2 c3
theorem Ca {u : TS} {v3 : Option V} (bx : Ĩ H p) (ls : Ī H l L) (Ň : L.length <= 20) (hx : x <= 1048576)
  (q : ∀ v e H', Ĩ H' p -> Kept H H' p -> İ (wo H' p) v e -> dB 0 (((2 ^ L.length : Nat) : Int) - 1) e = false -> Fi 3 8000 e -> u De [some (.ref p), some (.ref l), some (.int (x : Nat)), v3, some v, o5] H') : bL (ET K) u De [some (.ref p), some (.ref l), some (.int (x : Nat)), v3, o4, o5] H := by
 obtain ⟨xs, hl, pr⟩ := ls;refine bJ (cE ?_);refine Ji.use (CV (K := K) (G := λ H => wo H p) (n := L.length) (x := x) (σ := [some (.ref p), some (.ref l), some (.int (x : Nat)), v3, o4, o5]) rfl rfl hl (å pr) Ň) bx.pt (by show 8 <= 1000; decide) λ l1 vs H1 x1 a0 hg ha rs => ?_
 have Ix := bx.ext x1;have lA : vs.length = 8 := rs.length;refine bU (i := 0) rfl Ix (λ R r => r) am am λ r H4 r0 r7 JX k4 => ?_;have hi : r.toNat < vs.length := af;obtain ⟨e, ee, re⟩ := rs.get (Ã hi);obtain ⟨c1, c2⟩ := wb Ň hx e (á ee);refine ⟨l1, _, _, _, rfl, rfl, û.of (k4 _ _ ha (Co hg)), tM r0 hi, ?_⟩;exact q _ e H4 JX ((x1.kept p).trans k4) (re.mono (gY k4)) c1 c2
def qT (z : Str × PyData) : PyData := .list [.str z.1, .str z.2.shown, .bool true]
theorem oF {l : Addr} {z : Str × PyData} (h : DU H l z) : İ H (.ref l) (qT z) := .lst h (.cons (.str _) (.cons (.str _) (.cons (.bl _) .nil)))
theorem nv (z : Str × PyData) : aL (qT z) = true := rfl
theorem Au (z : Str × PyData) : (qT z).depth <= 20 := by simp [qT, PyData.depth, PyData.depthAll]
theorem wM {Q : VK} {z : Str} {i : Nat} {v : V} {e : PyData} {σ : St} (si : σ[i]? = some (some v)) (rv : İ H v e) (sw : qW e) (q : ∀ l H', Ext H H' -> DU H' l (z, e) -> Q (.ref l) H') : oR z i σ H Q :=
 ⟨_, si, v, e, rfl, rv, sw, ft, λ l hl => q l _ (Ext.new hl) aQ⟩
theorem t7 {Q : VK} {g : Bool -> Bool} {z : Str} {i j k : Nat} {x y v : V} {dx dy e : PyData} {σ : St} (si : σ[i]? = some (some x)) (sj : σ[j]? = some (some y)) (sk : σ[k]? = some (some v)) (rx : İ H x dx) (ry : İ H y dy) (rv : İ H v e) (sm : ∀ ds, dx = .list ds -> ds.length < 10000) (ref : Dl dx dy (z, e)) (sw : qW e)
  (q : ∀ H', Ext H H' -> Q (.bl (g true)) H') : bc (nt g) (i5 mE E0 (ac (aq i) (ac (aq j) aC))) (oR z k) σ H Q := by
 refine ⟨_, si, _, sj, λ hz => ⟨x, y, dx, dy, (z, e), rfl, hz, rx, ry, sm, ref, sw, λ l H1 hl x1 an => ?_⟩⟩;refine wM sk (rv.mono x1) sw λ l2 H2 x2 Xg => ?_;refine ⟨qT (z, e), qT (z, e), oF (x2 _ _ an), oF Xg, nv _, nv _, Au _, ?_⟩;rw [iq (nv _)];exact q H2 (x1.trans x2)
def yn : Sp := λ vs H Q _ => ∃ (p l : Addr) (x : Nat) (L : List (Int × Int)), vs = [.ref p, .ref l, .int (x : Nat)] /\ H sysModules = none /\ Ĩ H p /\ l ≠ p /\ Ī H l L /\ bD L /\ 1 <= L.length /\ L.length <= 20 /\ x <= 1048576 /\ ∀ H', Kept H H' p -> Ĩ H' p -> Q (.bl true) H'
theorem BD {f a1 a2 : Addr} {fd d1 d2 : FuncData} (F : Ŏ K "_law_refused_right" "_law_refused_right" mI f fd) (A1 : Df P w K mg base ar 1 "_law_take" ["_law_box_here", "_law_many"] cf a1 d1) (A2 : Df P w K mg base ar 7 "_law_asked" ["_law_listing_here", "_law_dealing"] mE a2 d2) (mt : mg "tuple" = none) (ml : mg "len" = none) (mp : mg "repr" = none) : az P w K mg base ar 8 f fd ["_law_box_here", "_law_listing_here", "_law_dealing"] yn := by
 refine F.ok Kh (λ vs H Q E h => ?_) (λ ë A outer s H vs Q E hr h => ?_)
 ·obtain ⟨p, l, x, L, rfl, _⟩ := h;rfl
 obtain ⟨p, l, x, L, rfl, hz, bx, nl, ls, bt, l1, Ň, hx, q⟩ := h;refine cj (z0 hz A1 A2 mt ml mp hr) ⟨?_⟩;refine zg bx nl ls bt l1 Ň λ vb eb H1 Ix k1 rb cb fb sb => ?_;have RC := ls.kept k1 bx nl;refine Ca Ix RC Ň hx λ vn en H2 LA k2 rn cn fn => ?_;have Po := RC.kept k2 Ix nl;have Rn : İ H2 vb eb := (rb.mono (gY k2)).mono (tK _ _);have O5 : İ H2 vn en := rn.mono (tK _ _);refine ⟨_, rfl, _, rfl, ft, λ t ht => ?_⟩;have x3 := Ext.new (o := .lst [.int (x : Nat), vn]) ht;have KQ : ak H2 t (.lst [.int (x : Nat), vn]) t = some (.lst [.int (x : Nat), vn]) := aQ;refine ⟨t, rfl, ⟨_, û.of KQ⟩, dG (xs := [.int (x : Nat), vn]) (λ i σ H' => Ext (ak H2 t (.lst [.int (x : Nat), vn])) H' /\ ∃ o5, σ = [some (.ref p), some (.ref l), some (.int (x : Nat)), some vb, some vn, o5]) ⟨Ext.refl _, _, rfl⟩ ?_ ?_ ?_⟩
 ·rintro i σ H' _ ⟨x', _⟩;exact û.of (x' _ _ KQ)
 ·rintro i y σ H' ex ⟨x', o5, rfl⟩;have xx := x3.trans x';have rx : ∃ dy, İ H' y dy := by
   match i, ex with
   | 0, ex => cases ex; exact ⟨_, .int _⟩
   | 1, ex => cases ex; exact ⟨_, O5.mono xx⟩
  obtain ⟨dy, ry⟩ := rx;refine t7 (g := not) (z := "listing") (σ := [some (.ref p), some (.ref l), some (.int (x : Nat)), some vb, some vn, some y]) (i := 3) (j := 5) (k := 3) rfl rfl rfl (Rn.mono xx) ry (Rn.mono xx) sb (.inl ⟨cb, rfl⟩) (fb.show am am) λ H4 x4 => ⟨_, rfl, dA ⟨x'.trans x4, _, rfl⟩⟩
 ·rintro σ H' ⟨x', o5, rfl⟩;have xx := x3.trans x';refine t7 (g := id) (z := "dealing") (σ := [some (.ref p), some (.ref l), some (.int (x : Nat)), some vb, some vn, o5]) (i := 1) (j := 4) (k := 4) rfl rfl rfl (Po.ext xx).Mr (O5.mono xx) (O5.mono xx) (λ ds e => by cases e; rw [Å]; omega) (.inr ⟨L, rfl, x9 bt l1 Ň, cn, rfl⟩) (fn.show am am) λ H4 x4 => ?_
  exact q H4 (k1.trans (k2.trans ((xx.trans x4).kept p))) (LA.ext (xx.trans x4))
end
abbrev BZ : R2 := rI nR λ i j => .int (i * 2 ^ j.toNat)
def Hf : TS := cQ (bc km (tC (.int 1)) (vh 0 (tC (.int 7)))) (bf 1)
def Fv : TS := cQ (c5 rF [] E0 (ac (aq 0) (ac (aq 1) aC))) (bf 2)
def GY : TS := cQ (vh 0 (bc km (aq 1) (tC (.int 1)))) (bf 3)
def Gr : TS := cQ (c5 zT [] E0 (ac (aq 1) (ac (aq 3) aC))) (bf 4)
def G2 (CL CN : Addr) : TS := cQ (c5 (yU CL CN) [] E0 (ac (aq 3) (ac (c5 zh [] E0 (ac (aq 2) aC)) aC))) (bf 5)
def G5 : TS := cQ (c5 yQ [] E0 (ac (aq 0) (ac (eY ya (ac (eY xE (ac (aq 1) aC)) aC)) aC))) (bf 6)
def C5 (K : Frag) : TE := fm (cU K (aq 6)) 1 [2] (bf 0) (bc (gM K) (aq 1) (aq 0))
def G9 (K : Frag) : TS := cQ (C5 K) (bf 7)
def DS (K : Frag) : TE := bc rh (CK K (aq 4) (vh 0 (tC (.int 3))) (tC (.int 3))) (G6 (Dh K) (aq 4) pW (ye (tC (.int 1))))
def GI : TS := oq (yJ (tB (c5 Af [] E0 (ac (aq 2) (ac (aq 4) (ac (aq 8) aC)))))) (bQ (tC (.bl false))) iF
def AX (K : Frag) : TE := fm (i4 K (ac (aq 6) aC)) 2 [8] (gW K 0 1) (bc BZ (nE 2 1) (aq 0))
def GU (K : Frag) : TS := cQ (eY (fK K) (ac (AX K) aC)) (bf 9)
def He (K : Frag) (CL CD : Addr) : TS := cQ (Aq CL CD 2 8) (gW K 10 11)
def FO (CL CD : Addr) : TS := oq (tB (bc (nt not) (Aq CL CD 7 9) (dE (ac (aq 10) (ac (aq 11) aC))))) (bQ (tC (.bl false))) iF
def Gj : TS := cQ (gD (aq 5) (F4 2 8)) (bf 12)
abbrev tX (K : Frag) (i : Nat) (k : Int) : TE := bc (xn K) (aq i) (tC (.int k))
def GH (K : Frag) : TS := cQ (bc km (bc gL (tX K 10 0) (tX K 11 1)) (bc gL (tX K 11 0) (tX K 10 1))) (bf 13)
def Fd (K : Frag) : TS := oq (tB (bc Ew (bc gL (aq 13) (tX K 12 1)) (bc gL (bc gL (bc km (tX K 12 0) (tX K 12 1)) (tX K 10 1)) (tX K 11 1)))) (bQ (tC (.bl false))) iF
def tJ (K : Frag) (CL CD : Addr) : TS := bL GI (bL (GU K) (bL (He K CL CD) (bL (FO CL CD) (bL Gj (bL (GH K) (Fd K))))))
def Fx (K : Frag) (CL CD : Addr) : TS := jf (cU K (DS K)) (bf 8) (tJ K CL CD)
def FY (K : Frag) : TS := bQ (i5 yn E0 (ac (aq 0) (ac (aq 2) (ac (bc (gM K) (aq 4) (tC (.int 0))) aC))))
def HS (K : Frag) (CL CD CN : Addr) : TS := bL Hf (bL Fv (bL GY (bL Gr (bL (G2 CL CN) (bL G5 (bL (G9 K) (bL (Fx K CL CD) (FY K))))))))
section
variable {P : Program} {w : World} {K : Frag} {mg : bu} {base : Heap} {CL CD CN : Addr}
abbrev gh : Stmt := cD 62
abbrev jg : List Str := ["_law_box_here", "_law_folk", "_law_listing_here", "_law_ones_here", "_law_dealings_here", "_law_spread", "_law_order", "_law_other", "_law_dealing", "_law_turned_here", "_law_high", "_law_low", "_law_own", "_law_both"]
theorem c_ : ai jg ["_law_box_here"] (aa gh) := aS
abbrev BB : Scope := dh [("_law_at", .local), ("_law_listing_here", .free)]
theorem E2 : ((["_law_at"] : List Str) ++ (["_law_listing_here"] : List Str)).Nodup := aJ
abbrev A0 : Scope := dh [("_law_k", .local), ("_law_at", .local), ("_law_dealing", .free)]
theorem BX : ((["_law_k", "_law_at"] : List Str) ++ (["_law_dealing"] : List Str)).Nodup := aJ
abbrev i3 (i : Nat) : Stmt := (av gh).getD i s0
structure C7 (P : Program) (w : World) (K : Frag) (mg : bu) (base : Heap) (CL CD CN : Addr) (a1 a2 a3 a4 a5 a6 a7 a8 a9 Ob Oa : Addr) (d1 d2 d3 d4 d5 d6 d7 d8 d9 MY MX : FuncData) : Prop where
 tk : Df P w K mg base ar 1 "_law_take" ["_law_box_here", "_law_many"] cf a1 d1
 li : Df P w K mg base ar 2 "_law_listing" ["_law_box_here", "_law_folk"] rF a2 d2
 cn : Df P w K mg base ar 1 "_law_counts" ["_law_listing_here"] zh a3 d3
 dl : Df P w K mg base ar 2 "_law_dealings" ["_law_folk", "_law_ones_here"] zT a4 d4
 cs : Df P w K mg base (iG P w) 6 "counts_spread" ["ones", "counts"] (yU CL CN) a5 d5
 tu : Df P w K mg base ar 2 "_law_turned" ["_law_box_here", "_law_some"] yQ a6 d6
 tr : Df P w K mg base ar 7 "_law_told_right" ["_law_listing_here", "_law_dealings_here", "_law_dealing"] Af a7 d7
 ls : Df P w K mg base (iG P w) 6 "listing_shares" ["listing", "dealing"] (kq CL CD) a8 d8
 wo : Df P w K mg base ar 2 "_law_worth" ["_law_row", "_law_dealing"] mY a9 d9
 cm : Df P w K mg base ar 1 "_law_came" ["_law_listing_here", "_law_dealing"] mZ Ob MY
 rr : Df P w K mg base ar 8 "_law_refused_right" ["_law_box_here", "_law_listing_here", "_law_dealing"] yn Oa MX
 ml : mg "list" = none
 mr : mg "range" = none
 me : mg "enumerate" = none
 ms : mg "sum" = none
variable {f a1 a2 a3 a4 a5 a6 a7 a8 a9 Ob Oa : Addr} {d1 d2 d3 d4 d5 d6 d7 d8 d9 MY MX : FuncData}
section
variable {ë : Value} {A : Around} {outer : List Env} {s : Shared} {H : Hp} {E : XK} (L : C7 P w K mg base CL CD CN a1 a2 a3 a4 a5 a6 a7 a8 a9 Ob Oa d1 d2 d3 d4 d5 d6 d7 d8 d9 MY MX) (hr : mR 8 "_law_right" gh A s f ë)
theorem AA : aW (ax ar P w K mg base jg "_law_right" (aa gh) f ë A outer s H E).Ķ BB [("_law_listing_here", s.heap.objs.size + 1)] ["_law_at"] ["_law_listing_here"] [2] :=
 bz (M := ["_law_listing_here"]) (L := [(".0", .local), ("_law_at", .local), ("_law_listing_here", .cell)]) rfl rfl aJ aJ aJ rfl rfl rfl aJ aJ rfl rfl rfl
theorem zk : aW (ax ar P w K mg base jg "_law_right" (aa gh) f ë A outer s H E).Ķ A0 [("_law_dealing", s.heap.objs.size + 2)] ["_law_k", "_law_at"] ["_law_dealing"] [8] :=
 bz (M := ["_law_dealing"]) (L := [(".0", .local), ("_law_k", .local), ("_law_at", .local), ("_law_dealing", .cell)]) rfl rfl aJ aJ aJ rfl rfl rfl aJ aJ rfl rfl rfl
include L hr
theorem Fs : Bx (PS (ax ar P w K mg base jg "_law_right" (aa gh) f ë A outer s H E).Ķ (i3 0) Hf) :=
 ⟨cM (i := 1) c_.nd rfl (Or.inl rfl) (aj bd aw (gf L.tk.G (hr.mono am) rfl L.tk.m L.tk.kp L.tk.b .nil ao (ae (pv 0) (ae aw ap))))⟩
theorem EY : Bx (PS (ax ar P w K mg base jg "_law_right" (aa gh) f ë A outer s H E).Ķ (i3 1) Fv) :=
 ⟨cM (i := 2) c_.nd rfl (Or.inr rfl) (gf L.li.G (hr.mono am) rfl L.li.m L.li.kp L.li.b .nil ao (ae (pv 0) (ae (pv 1) ap)))⟩
theorem Ff : Bx (PS (ax ar P w K mg base jg "_law_right" (aa gh) f ë A outer s H E).Ķ (i3 2) GY) :=
 ⟨cM (i := 3) c_.nd rfl (Or.inl rfl) (gf L.tk.G (hr.mono am) rfl L.tk.m L.tk.kp L.tk.b .nil ao (ae (pv 0) (ae (aj bd (pv 1) aw) ap)))⟩
theorem Ei : Bx (PS (ax ar P w K mg base jg "_law_right" (aa gh) f ë A outer s H E).Ķ (i3 3) Gr) :=
 ⟨cM (i := 4) c_.nd rfl (Or.inl rfl) (gf L.dl.G (hr.mono am) rfl L.dl.m L.dl.kp L.dl.b .nil ao (ae (pv 1) (ae (pv 3) ap)))⟩
theorem FN : Bx (PS (ax ar P w K mg base jg "_law_right" (aa gh) f ë A outer s H E).Ķ (i3 4) (G2 CL CN)) :=
 ⟨cM (i := 5) c_.nd rfl (Or.inl rfl) (gf L.cs.G (hr.mono am) rfl L.cs.m L.cs.kp L.cs.b .nil lM (ae (pv 3) (ae (gf L.cn.G (hr.mono am) rfl L.cn.m L.cn.kp L.cn.b .nil ao (ae (pv 2) ap)) ap)))⟩
theorem FK : Bx (PS (ax ar P w K mg base jg "_law_right" (aa gh) f ë A outer s H E).Ķ (i3 5) G5) :=
 ⟨cM (i := 6) c_.nd rfl (Or.inl rfl) (gf L.tu.G (hr.mono am) rfl L.tu.m L.tu.kp L.tu.b .nil ao (ae (pv 0) (ae (cw (qA rfl) rfl L.ml h_ (ae (cw qM rfl L.mr PyProof.Rows.boot_range (ae (pv 1) ap)) ap)) ap)))⟩
theorem FR : Bx (PS (ax ar P w K mg base jg "_law_right" (aa gh) f ë A outer s H E).Ķ (i3 6) (G9 K)) :=
 ⟨y3 (iy := 7) (te := bc (gM K) (aq 1) (aq 0)) (g := bf 0) rfl AA (bT (pv 6)) (λ s H C fp => by exact bM (i := 0) E2 rfl (.inl rfl)) (λ s H C fp => by exact c6 kX (pv 1) (pv 0)) c_.nd rfl (Or.inl rfl) rfl⟩
theorem Cp : Bx (PE (ax ar P w K mg base jg "_law_right" (aa gh) f ë A outer s H E).Ķ (match i3 7 with
  | .For _ e _ _ _ => e
  | _ => .Name "" ⟨0, 0, 0, 0⟩) (DS K)) :=
 ⟨aj n6 (zQ (pv 4) (gf L.tk.G (hr.mono am) rfl L.tk.m L.tk.kp L.tk.b .nil ao (ae (pv 0) (ae aw ap))) aw) (ux w5 (pv 4) vz (wY aw))⟩
abbrev Q6 : List Stmt := match i3 7 with
  | .For _ _ b _ _ => b
  | _ => []
abbrev nr (i : Nat) : Stmt := Q6.getD i s0
theorem FH : Bx (PS (ax ar P w K mg base jg "_law_right" (aa gh) f ë A outer s H E).Ķ (nr 0) GI) :=
 ⟨bp (bh (ba (gf L.tr.G (hr.mono am) rfl L.tr.m L.tr.kp L.tr.b .nil ao (ae (pv 2) (ae (pv 4) (ae (pv 8) ap)))))) (bw (cq jd)) hV⟩
theorem F9 : Bx (PS (ax ar P w K mg base jg "_law_right" (aa gh) f ë A outer s H E).Ķ (nr 1) (GU K)) :=
 ij (i := 9) c_.nd rfl (Or.inl rfl) (cY (bR rfl) rfl L.ms Ý (de (te := bc BZ (nE 2 1) (aq 0)) (g := gW K 0 1) rfl zk ⟨dZ rfl L.me (ae (pv 6) ap)⟩ (λ s H C fp => by exact br rfl (dz (bM (i := 0) BX rfl (.inl rfl)) (dz (bM (i := 1) BX rfl (.inl rfl)) aU))) (λ s H C fp => ⟨by exact aj iU (aj ie (aj hI (pv 2) (pv 1)) aw) (pv 0)⟩)))
theorem Ec : Bx (PS (ax ar P w K mg base jg "_law_right" (aa gh) f ë A outer s H E).Ķ (nr 2) (He K CL CD)) :=
 ⟨gq (gf L.ls.G (hr.mono am) rfl L.ls.m L.ls.kp L.ls.b .nil lM (ae (pv 2) (ae (pv 8) ap))) (br rfl (dz (bM (i := 10) c_.nd rfl (Or.inl rfl)) (dz (bM (i := 11) c_.nd rfl (Or.inl rfl)) aU)))⟩
theorem E9 : Bx (PS (ax ar P w K mg base jg "_law_right" (aa gh) f ë A outer s H E).Ķ (nr 3) (FO CL CD)) :=
 ⟨bp (aF (uW hr.units) (gf L.ls.G (hr.mono am) rfl L.ls.m L.ls.kp L.ls.b .nil lM (ae (pv 7) (ae (pv 9) ap))) (aO (ae (pv 10) (ae (pv 11) ap))) (aI _)) (bw (cq jd)) hV⟩
theorem ED : Bx (PS (ax ar P w K mg base jg "_law_right" (aa gh) f ë A outer s H E).Ķ (nr 4) Gj) := by
 have hu : (A.deeper (PyProof.Rows.envOfC "_law_right" (aa gh) s.heap.objs.size f ë)).units + 1 < cLine := by have := hr.un; omega
 exact ⟨cM (i := 12) c_.nd rfl (Or.inl rfl) (eG hu (pv 5) (gf L.wo.G (hr.mono am) rfl L.wo.m L.wo.kp L.wo.b .nil ao (ae (gf L.cm.G (hr.mono am) rfl L.cm.m L.cm.kp L.cm.b .nil ao (ae (pv 2) (ae (pv 8) ap))) (ae (pv 8) ap))))⟩
theorem FP : Bx (PS (ax ar P w K mg base jg "_law_right" (aa gh) f ë A outer s H E).Ķ (nr 5) (GH K)) :=
 ⟨cM (i := 13) c_.nd rfl (Or.inl rfl) (aj bd (aj aR (c6 gF (pv 10) aw) (c6 gF (pv 11) aw)) (aj aR (c6 gF (pv 11) aw) (c6 gF (pv 10) aw)))⟩
theorem FI : Bx (PS (ax ar P w K mg base jg "_law_right" (aa gh) f ë A outer s H E).Ķ (nr 6) (Fd K)) :=
 ⟨bp (aF jN (aj aR (pv 13) (c6 gF (pv 12) aw)) (aj aR (aj aR (aj bd (c6 gF (pv 12) aw) (c6 gF (pv 12) aw)) (c6 gF (pv 10) aw)) (c6 gF (pv 11) aw)) (aI _)) (bw (cq jd)) hV⟩
theorem FG : Bx (PS (ax ar P w K mg base jg "_law_right" (aa gh) f ë A outer s H E).Ķ (i3 7) (Fx K CL CD)) :=
 fV õ rfl (ki (Cp L hr)) (bM (i := 8) c_.nd rfl (Or.inr rfl))
  (dv (FH L hr) (dv (F9 L hr) (dv (Ec L hr) (dv (E9 L hr) (dv (ED L hr) (dv (FP L hr) (aP (FI L hr))))))))
theorem FJ (hz : H sysModules = none) : Bx (PS (ax ar P w K mg base jg "_law_right" (aa gh) f ë A outer s H E).Ķ (i3 8) (FY K)) :=
 ⟨cq (fH hz L.rr.G hr rfl L.rr.m L.rr.kp L.rr.b ao (ae (pv 0) (ae (pv 2) (ae (c6 kX (pv 4) aw) ap))))⟩
theorem zR (hz : H sysModules = none) : Bx (Ο (ax ar P w K mg base jg "_law_right" (aa gh) f ë A outer s H E).Ķ (av gh) (HS K CL CD CN)) :=
 dv (Fs L hr) (dv (EY L hr) (dv (Ff L hr) (dv (Ei L hr) (dv (FN L hr) (dv (FK L hr) (dv (FR L hr) (dv (FG L hr) (aP (FJ L hr hz)))))))))
omit L hr
end
end
def sB : List Nat -> Nat -> List Int
 | [], _ => []
 | b :: r, k => ((b * 2 ^ k : Nat) : Int) :: sB r (k + 1)
theorem ul : ∀ (bs : List Nat) (k : Nat), (sB bs k).length = bs.length
 | [], _ => rfl
 | b :: r, k => by show (sB r (k + 1)).length + 1 = r.length + 1; rw [ul r]
theorem t8 : ∀ {bs : List Nat} {k i b : Nat}, bs[i]? = some b -> (sB bs k)[i]? = some ((b * 2 ^ (k + i) : Nat) : Int)
 | c :: r, k, 0, b, h => by
  cases h;rfl
 | c :: r, k, i + 1, b, h => by
  show (sB r (k + 1))[i]? = _;rw [t8 (bs := r) (k := k + 1) (i := i) h, show k + 1 + i = k + (i + 1) by omega]
theorem rR : ∀ (bs : List Nat) (k : Nat), (sB bs k).sum = ((bN bs * 2 ^ k : Nat) : Int)
 | [], k => by show (0 : Int) = ((0 * 2 ^ k : Nat) : Int); rw [Ma]; rfl
 | b :: r, k => by
  show (((b * 2 ^ k : Nat) : Int) :: sB r (k + 1)).sum = (((b + 2 * bN r) * 2 ^ k : Nat) : Int);rw [ß, rR r (k + 1), <- Int.natCast_add]
  congr 1
  rw [ň, δ, j' (2 ^ k) 2, <- Nat.mul_assoc, j' (bN r) 2]
theorem uT (b i : Nat) : ((b : Nat) : Int) * 2 ^ ((i : Nat) : Int).toNat = ((b * 2 ^ i : Nat) : Int) := by
 rw [ċ];simp
theorem pR {α β : Type} {R : α -> β -> Prop} {y : β} : ∀ {xs : List α} {ys : List β}, Paired R xs ys -> y ∈ ys -> ∃ x ∈ xs, R x y
 | _, _, .cons r t, h => by
  rcases Ñ.mp h with rfl | h
  ·exact ⟨_, Ù .., r⟩
  ·obtain ⟨x, hx, rx⟩ := pR t h;exact ⟨x, Ó _ hx, rx⟩
section
variable {L : List (Int × Int)} {od : List Nat} {x : Nat}
theorem v6 {H : Hp} {r : Addr} (h : od.Perm (List.range L.length)) (hx : x < 2 ^ L.length) (sh : AF H r (cW L od) (bN (bn x od))) : AF H r L x := by
 have pm := dk h;have e1 : oX (cW L od) (bN (bn x od)) = oX L x := by
  show ((cC (cW L od).length (bN (bn x od)) : Nat) : Int) = ((cC L.length x : Nat) : Int);rw [pm.length_eq, mJ h hx]
 have e2 : wX (cW L od) (bN (bn x od)) = wX L x := by
  unfold wX wL;rw [pm.length_eq, mJ h hx, tz _ h hx]
 unfold AF at sh ⊢;rw [e1, e2, i6 pm, i6 pm, i6 pm] at sh;exact sh
theorem wZ (h : od.Perm (List.range L.length)) : bN (bn x od) < 2 ^ L.length := by
 have l : (bn x od).length = L.length := by unfold bn; rw [Å, h.length_eq, ÿ]
 have := oS (bs := bn x od) iY;rw [l] at this;exact this
theorem qF (bt : bD L) (h : od.Perm (List.range L.length)) : bD (cW L od) := λ p hp => bt p ((dk h).mem_iff.mp hp)
end
theorem vX {h g e T : Nat} (T1 : 1 <= T) (hh : h + g = T + e) : (bB h T * aM g T + bB g T * aM h T) * aM e T = (bB e T + aM e T) * aM h T * aM g T := by
 have m1 := gQ (t := h) T1;have m2 := gQ (t := g) T1;have m3 := gQ (t := e) T1;generalize bB h T = a1 at *;generalize bB g T = a2 at *;generalize bB e T = a3 at *;generalize aM h T = b1 at *;generalize aM g T = b2 at *;generalize aM e T = b3 at *;refine Nat.eq_of_mul_eq_mul_right T1 ?_;have l : (a1 * b2 + a2 * b1) * b3 * T = (a1 * T) * b2 * b3 + (a2 * T) * b1 * b3 := by grind
 have r : (a3 + b3) * b1 * b2 * T = (a3 * T) * b1 * b2 + T * b1 * b2 * b3 := by grind
 rw [l, r, m1, m2, m3];have : h * b1 * b2 * b3 + g * b2 * b1 * b3 = (h + g) * b1 * b2 * b3 := by grind
 rw [this, hh]
 grind
theorem nG {t T : Nat} (h : t <= T) : bB t T <= T /\ aM t T <= T := ⟨Ò (JM _ _) h, JM _ _⟩
section
variable {K : Frag} {H : Hp} {Q : VK} {σ : St}
theorem yY {o : Addr} {od : List Nat} {x : Nat} (s6 : σ[6]? = some (some (.ref o))) (hc : bA [8] σ = [some (.int (x : Nat))]) (ho : H o = some (.lst (od.map vN))) (Ň : od.length <= 20) (q : ∀ D H', H D = none -> Ext H H' -> H' D = some (.lst ((sB (bn x od) 0).map V.int)) -> Q (.ref D) H') : AX K σ H Q := by
 refine ⟨_, s6, o, rfl, ⟨_, û.of ho⟩, λ D hD => ?_⟩;rw [hc];refine dq (n := od.length) (λ i ys H' => Ext H H' /\ ys = ((sB (bn x od) 0).take i).map V.int) (by rw [Ú]; omega) ⟨Ext.new hD, rfl⟩ (λ i ys H' hi p => ⟨_, _, û.of (p.1 _ _ ho), by rw [Ê, Ã hi]; rfl⟩) (λ ys H' p => ⟨_, û.of (p.1 _ _ ho), by rw [Å]; exact Ä _⟩) ?_ ?_
 ·rintro i y ys H' H3 hi yl ly Ę ⟨x', rfl⟩ os ř R kk;obtain ⟨t, v, rfl, ht, rfl, hv⟩ := yl;have ev := hv _ (û.of (x' _ _ ho));rw [Ê, Ã hi] at ev;have ev : vN od[i] = v := Ð ev;subst ev;have en : od[i]? = some od[i] := Ã hi;generalize od[i] = n at en;have x3 := Ext.new (o := .tup [.int (i : Nat), vN n]) ht
  match os, ř with
  | [p0, p1], _ =>
   refine ⟨t, _, rfl, ĕ.of aQ, rfl, _, _, rfl, _, _, rfl, rfl, ⟨[_, _], rfl, rfl⟩, ?_⟩;refine cE (ib (i := 2) (j := 1) rfl rfl ⟨_, rfl, _, _, rfl, rfl, ⟨af, af, af⟩, ?_⟩);show R (.int (((x / 2 ^ n % 2 : Nat) : Int) * 2 ^ ((i : Nat) : Int).toNat)) _;rw [uT];refine kk _ _ (x3 _ _ Ę) ⟨aT _ (x'.trans x3) hD, ?_⟩;have eb : (bn x od)[i]? = some (x / 2 ^ n % 2) := by
    unfold bn;rw [Ê, en];rfl
   have es := t8 (k := 0) eb;rw [Α] at es;rw [aB es, Ø];rfl
 ·rintro ys H' ly Ę ⟨x', rfl⟩;rw [Ģ (by rw [ul]; unfold bn; rw [Å]; exact Ä _)] at Ę
  exact q D H' hD x' Ę
theorem zD {o l : Addr} {od : List Nat} {L : List (Int × Int)} (s6 : σ[6]? = some (some (.ref o))) (hc : bA [2] σ = [some (.ref l)]) (ho : H o = some (.lst (od.map vN))) (ls : Ī H l L) (lo : ∀ i ∈ od, i < L.length) (Ň : od.length <= 20) (q : ∀ D H', H D = none -> Ext H H' -> Ī H' D (cW L od) -> Q (.ref D) H') : C5 K σ H Q := by
 obtain ⟨xs, hl, pr⟩ := ls;have lx : xs.length = L.length := å pr;refine ⟨_, s6, o, rfl, ⟨_, û.of ho⟩, λ D hD => ?_⟩;rw [hc];refine dq (n := od.length) (λ i ys H' => Ext H H' /\ Paired (Jd H') ys ((od.take i).map λ j => L.getD j (0, 0))) (by rw [Ú]; omega) ⟨Ext.new hD, .nil⟩ (λ i ys H' hi p => ⟨_, _, û.of (p.1 _ _ ho), by rw [Ê, Ã hi]; rfl⟩) (λ ys H' p => ⟨_, û.of (p.1 _ _ ho), by rw [Å]; exact Ä _⟩) ?_ ?_
 ·rintro i y ys H' H3 hi ⟨rfl, hy⟩ ly Ę ⟨x', pv⟩ os ř R kk;have ey := hy _ (û.of (x' _ _ ho));rw [Ê, Ã hi] at ey;have ey : vN od[i] = y := Ð ey;subst ey;have en : od[i]? = some od[i] := Ã hi;generalize od[i] = j at en;have jl : j < L.length := lo j (á en);have ex : xs[j]? = some (xs[j]'af) := Ã af;obtain ⟨z, ez, pz⟩ := ģ pr ex
  match os, ř with
  | [o0], _ =>
   refine ⟨⟨[_], rfl, rfl⟩, _, rfl, _, rfl, l, xs, _, _, rfl, rfl, û.of (x' _ _ hl), zj ex, ?_⟩;have kl : jW H3 (ak H3 D (.lst (ys ++ [xs[j]'af]))) := fF Ę;refine kk _ _ Ę ⟨aT _ x' hD, ?_⟩;rw [aB en, Ø];refine be ?_ (Paired.imp' (λ _ _ r => r.kp kl) pv);show Jd _ _ (L.getD j (0, 0));rw [Ħ, ez];exact (pz.kp x'.Υ).kp kl
 ·rintro ys H' ly Ę ⟨x', pv⟩;rw [ĉ] at pv;exact q D H' hD x' ⟨ys, Ę, pv⟩
theorem Cn {p d : Addr} {xs : List V} (s0 : σ[0]? = some (some (.ref p))) (s4 : σ[4]? = some (some (.ref d))) (bx : Ĩ H p) (nd : d ≠ p) (hd : H d = some (.lst xs)) (sm : xs.length < 1000000) (q : ∀ t ys H', Ĩ H' p -> Kept H H' p -> H' t = some (.lst ys) -> (∀ v ∈ ys, v ∈ xs) -> Q (.ref t) H') : DS K σ H Q := by
 refine cE ⟨_, s4, ?_⟩;refine bU (m := 3) s0 bx (λ R r => r) am am λ r H1 r0 r3 Ix k1 => ?_;have RR := k1 _ _ hd nd;refine ⟨d, xs, r, 3, rfl, rfl, rfl, am, û.of RR, λ ys my ly a ha => ?_⟩;have x2 := Ext.new (o := .lst ys) ha;refine ⟨_, s4, 1, rfl, d, xs, rfl, û.of (x2 _ _ RR), λ b hb => ?_⟩;have x3 := Ext.new (o := .lst (mB xs none (some 1))) hb;have lc := gI xs none (some 1);refine ⟨a, b, ys, mB xs none (some 1), rfl, rfl, x3 _ _ aQ, aQ, by rw [Ú]; omega, λ t ht => ?_⟩
 have x4 := Ext.new (o := .lst (ys ++ mB xs none (some 1))) ht;refine q t _ _ (((Ix.ext x2).ext x3).ext x4) (k1.trans (((x2.trans x3).trans x4).kept p)) aQ λ v hv => ?_;rcases Ŗ.mp hv with hv | hv
 ·exact my v hv
 ·unfold mB at hv;exact List.mem_of_mem_drop (List.mem_of_mem_take hv)
end
abbrev dI (n : Nat) : PyData := .int ((n : Nat) : Int)
def wS (L : List (Int × Int)) : PyData := .tuple [dI (L.count (1, 0)), dI (L.count (0, 1)), dI (L.count (1, 1)), dI (L.count (0, 0))]
theorem vM {H : Hp} {c : Addr} {L : List (Int × Int)} (h : H c = some (.tup (sD L))) : İ H (.ref c) (wS L) := .tup h (.cons (.int _) (.cons (.int _) (.cons (.int _) (.cons (.int _) .nil))))
abbrev Dk (t b : Nat) : PyData := .tuple [dI t, dI b]
theorem kg {H : Hp} {v : V} {t b : Nat} (h : Jc H v t b) : İ H v (Dk t b) := by
 obtain ⟨p, rfl, h⟩ := h;exact .tup h (.cons (.int _) (.cons (.int _) .nil))
section
variable {K : Frag} {H : Hp} {Q : VK} {σ : St} {CL CD CN : Addr}
theorem uM {i t b : Nat} {v : V} (si : σ[i]? = some (some v)) (sh : Jc H v t b) (q : Q (.int (t : Nat)) H) : tX K i 0 σ H Q := by
 obtain ⟨p, rfl, h⟩ := sh;exact ⟨_, si, p, _, _, _, rfl, rfl, ĕ.of h, rfl, q⟩
theorem jP {i t b : Nat} {v : V} (si : σ[i]? = some (some v)) (sh : Jc H v t b) (q : Q (.int (b : Nat)) H) : tX K i 1 σ H Q := by
 obtain ⟨p, rfl, h⟩ := sh;exact ⟨_, si, p, _, _, _, rfl, rfl, ĕ.of h, rfl, q⟩
theorem DG {u : TS} {De : aY} (h : Aq CL CD 7 9 σ H λ r H1 => dE (ac (aq 10) (ac (aq 11) aC)) σ H1 λ y H2 => nt not r y H2 λ v H3 => ∃ b, v = .bl b /\ if b = true then De.rt (.bl false) H3 else u De σ H3) : bL (FO CL CD) u De σ H := h
theorem AZ {De : aY} (h : bc gL (aq 13) (tX K 12 1) σ H λ x H1 => bc gL (bc gL (bc km (tX K 12 0) (tX K 12 1)) (tX K 10 1)) (tX K 11 1) σ H1 λ y H2 => Ew x y H2 λ v H3 => ∃ b, v = .bl b /\ if b = true then De.rt (.bl false) H3 else De.nx σ H3) : Fd K De σ H := h
theorem tj {sp : Addr} {kvs : List (Key × V)} {ns : List Int} {ps : List (Int × Nat)} {T : Nat} {s : Int} (hs : H sp = some (.dK kvs)) (tl : qh H kvs ns ps T) (ok : ρ ps) (h0 : 0 < f6 ps s) : ∃ v, π H sp (.int s) (some v) /\ Jc H v (bB (f6 ps s) T) (aM (f6 ps s) T) := by
 have hm : s ∈ ns := tl.pm.mem_iff.mpr (ok.mem.mpr h0);obtain ⟨kv, P', e, sh⟩ := pR tl.pr hm;have nd : (kvs.map (·.1)).Nodup := by
  rw [jG tl.pr];exact (tl.pm.nodup_iff.mpr ok.nd).map _ (λ a b h z => h (c7 _ _ z))
 refine ⟨kv.2, .inl ⟨kvs, .inl s, .inl hs, rfl, ?_⟩, sh⟩;have : (Key.inl s, kv.2) ∈ kvs := by rw [<- e]; exact P'
 exact (pP nd this).symm
theorem F3 {De : aY} {p l dl sp o M5 : Addr} {L : List (Int × Int)} {x : Nat} {n : Nat} {O : Int} {od : List Nat} {kvs : List (Key × V)} {ns : List Int} {ps : List (Int × Nat)} {o9 ŕ ĵ Ξ Ŵ : Option V} (ls : Ī H l L) (bt : bD L) (l1 : 1 <= L.length) (l7 : L.length <= 7) (hx : x < 2 ^ L.length) (hO : O = oX L x) (MN : H dl = some (.lst ((mU L.length (oX L x)).map λ x => V.int (x : Nat))))
  (IZ : H sp = some (.dK kvs)) (tl : qh H kvs ns ps (dS (λ _ => 1) ps)) (ok : ρ ps) (L4 : ∀ g, dS g ps = cc L (oX L x) g) (ho : H o = some (.lst (od.map vN))) (pm : od.Perm (List.range L.length)) (lo : Ī H M5 (cW L od))
  (nx : ∀ H' o9 ŕ ĵ Ξ Ŵ, Ext H H' -> De.nx [some (.ref p), some (.int (n : Nat)), some (.ref l), some (.int O), some (.ref dl), some (.ref sp), some (.ref o), some (.ref M5), some (.int (x : Nat)), o9, ŕ, ĵ, Ξ, Ŵ] H') :
  tJ K CL CD De [some (.ref p), some (.int (n : Nat)), some (.ref l), some (.int O), some (.ref dl), some (.ref sp), some (.ref o), some (.ref M5), some (.int (x : Nat)), o9, ŕ, ĵ, Ξ, Ŵ] H := by
 have Ň : L.length <= 20 := af;refine ⟨_, rfl, _, rfl, _, rfl, l, dl, L, x, rfl, ls, bt, l1, Ň, hx, MN, λ H1 x1 => ⟨_, rfl, dA ?_⟩⟩;have Xy : od.length = L.length := by rw [pm.length_eq, ÿ]
 refine bJ (sd (yY (K := K) rfl rfl (x1 _ _ ho) af λ D H2 hD x2 h2 => ⟨D, _, rfl, û.of h2, ?_⟩));rw [rR, ś, Nat.mul_one];have X2 := x1.trans x2;refine xG (i := 2) (j := 8) (a := 10) (b := 11) rfl rfl (ls.ext X2) bt l1 Ň hx λ r v1 v2 H3 hr x3 h3 s1 s2 => ?_;have X3 := X2.trans x3;have lt := (dk pm).length_eq;refine DG (rB (i := 7) (j := 9) (L := cW L od) (x := bN (bn x od)) rfl rfl (lo.ext X3) (qF bt pm) af af (by rw [lt]; exact wZ pm) λ r2 H4 Jf x4 sh => ?_)
 have sh := v6 pm hx sh;refine ⟨_, rfl, _, rfl, ft, λ t ht => ?_⟩;have x5 := Ext.new (o := .tup [v1, v2]) ht;obtain ⟨w1, w2, h4, t1, t2⟩ := sh;have X5 := x4.trans x5;have Rj := s1.kp X5.Υ;have Ri := s2.kp X5.Υ;have T := xj (L := L) (x := x) Ň;have T7 : cc L (oX L x) (λ _ => 1) <= 128 := by
  have pl := io L.length x;have := (nH (L := L) (O := oX L x) (by show (0 : Int) <= ((cC L.length x : Nat) : Int); omega) (by show ((cC L.length x : Nat) : Int) <= _; omega)).2
  exact Ò this (Ò (æ am l7) am)
 refine ⟨.tuple [Dk _ _, Dk _ _], .tuple [Dk _ _, Dk _ _], .tup (x5 _ _ h4) (.cons (kg (t1.kp x5.Υ)) (.cons (kg (t2.kp x5.Υ)) .nil)), .tup aQ (.cons (kg Rj) (.cons (kg Ri) .nil)), rfl, rfl, by simp [PyData.depth, PyData.depthAll], ?_⟩
 rw [iq rfl];refine ⟨_, rfl, dA ?_⟩;have XX := X3.trans X5;have R8 : f6 ps (wX L x) = cc L (oX L x) (rc (wX L x)) := by
  rw [rf ok.nd];exact L4 (rc (wX L x))
 have eT := L4 λ _ => 1;refine bJ ⟨_, rfl, ue (i := 2) (j := 8) rfl rfl (ls.ext XX) Ň λ H6 x6 => ?_⟩;have X6 := XX.trans x6;have own := yB (L := L) hx;obtain ⟨v, dg, sv⟩ := tj (s := wX L x) (X6 _ _ IZ) ⟨tl.pm, tl.so, Paired.imp' (λ _ _ r => ⟨r.1, r.2.kp X6.Υ⟩) tl.pr⟩ ok (by rw [R8]; exact own)
 refine ⟨sp, v, rfl, dg, ?_⟩;rw [R8, eT] at sv;have O3 := Rj.kp x6.Υ;have O2 := Ri.kp x6.Υ;have hb := vX T.1 (vR L (oX L x) (wX L x));obtain ⟨a1, a2⟩ := nG (ir L (oX L x) λ v => ng (wX L x) v);obtain ⟨b1, b2⟩ := nG (ir L (oX L x) λ v => nu (wX L x) v);obtain ⟨c1, c2⟩ := nG (ir L (oX L x) λ v => yW (wX L x) v);generalize cc L (oX L x) (m4 (wX L x)) = h at *;generalize cc L (oX L x) (mF (wX L x)) = g at *;generalize cc L (oX L x) (rc (wX L x)) = e at *;generalize cc L (oX L x) (λ _ => 1) = Tt at *;generalize bB h Tt = p1 at *;generalize aM h Tt = q1 at *;generalize bB g Tt = p2 at *;generalize aM g Tt = q2 at *;generalize bB e Tt = p3 at *;generalize aM e Tt = q3 at *;refine bJ (cE (cE (uM (i := 10) rfl O3 (jP (i := 11) rfl O2 ⟨_, _, rfl, rfl, .inr ⟨af, af⟩, cE (uM (i := 11) rfl O2 (jP (i := 10) rfl O3 ⟨_, _, rfl, rfl, .inr ⟨af, af⟩, _, _, rfl, rfl, ?_⟩))⟩))));refine AZ (cE ⟨_, rfl, jP (i := 12) rfl sv ⟨_, _, rfl, rfl, .inr ⟨af, af⟩, ?_⟩⟩);refine cE (cE (cE (uM (i := 12) rfl sv (jP (i := 12) rfl sv ⟨_, _, rfl, rfl, jP (i := 10) rfl O3 ⟨_, _, rfl, rfl, .inr ⟨af, af⟩, jP (i := 11) rfl O2 ⟨_, _, rfl, rfl, .inr ⟨af, af⟩, rfl, _, rfl, ?_⟩⟩⟩))));have ei : (((p1 : Nat) : Int) * ((q2 : Nat) : Int) + ((p2 : Nat) : Int) * ((q1 : Nat) : Int)) * ((q3 : Nat) : Int) = (((p3 : Nat) : Int) + ((q3 : Nat) : Int)) * ((q1 : Nat) : Int) * ((q2 : Nat) : Int) := by exact_mod_cast hb
 show if (!decide (V.int ((((p1 : Nat) : Int) * ((q2 : Nat) : Int) + ((p2 : Nat) : Int) * ((q1 : Nat) : Int)) * ((q3 : Nat) : Int)) = V.int ((((p3 : Nat) : Int) + ((q3 : Nat) : Int)) * ((q1 : Nat) : Int) * ((q2 : Nat) : Int)))) = true then _ else _
 rw [ei, Î rfl];exact dA (nx _ _ _ _ _ _ X6)
end
theorem yV (n : Nat) : xz 0 n = (List.range n).map vN := by
 unfold xz;refine Im λ i _ => ?_;rw [Ş]
theorem wg {L : List (Int × Int)} {O : Int} (h0 : 0 <= O) (h1 : O <= (L.length : Nat)) : ∃ x, (mU L.length O)[0]? = some x /\ x < 2 ^ L.length := by
 have h := (nH h0 h1).1;rw [<- gr] at h;unfold dW at h;rw [Å] at h;have e : (mU L.length O)[0]? = some (mU L.length O)[0] := Ã af;exact ⟨_, e, ĥ.mp (Ġ.mp (á e)).1⟩
section
variable {P : Program} {w : World} {K : Frag} {mg : bu} {base : Heap} {CL CD CN : Addr}
def AN : Sp := λ vs H Q _ => ∃ p, vs = [.ref p] /\ Ĩ H p /\ H sysModules = none /\ ∀ H', Kept H H' p -> Q (.bl true) H'
theorem BR {u : TS} {De : aY} {σ : St} {H : Hp} (h : DS K σ H λ x H1 => ∃ t, x = .ref t /\ (∃ ys, û K H1 t ys) /\ ∃ W : Nat -> Nat -> St -> Hp -> Prop, (∃ m, W 0 m σ H1) /\ ∀ i m σ H, W i m σ H ->
   ((uo K t).stop i H /\ u De σ H) \/ ((uo K t).go i H /\ ∃ N : St -> Hp -> Prop, (∀ Ē H', N Ē H' -> ∃ m', m' < m /\ W (i + 1) m' Ē H') /\ ∀ x H', (uo K t).IB i H x H' -> bf 8 x σ H' λ ľ H2 => tJ K CL CD { De with nx := N, ct := N, bk := λ σ H => u De σ H } ľ H2)) : bL (Fx K CL CD) u De σ H := h
theorem Ck {f a1 a2 a3 a4 a5 a6 a7 a8 a9 Ob Oa : Addr} {fd d1 d2 d3 d4 d5 d6 d7 d8 d9 MY MX : FuncData} (F : Ŏ K "_law_right" "_law_right" gh f fd) (Lw : C7 P w K mg base CL CD CN a1 a2 a3 a4 a5 a6 a7 a8 a9 Ob Oa d1 d2 d3 d4 d5 d6 d7 d8 d9 MY MX) : az P w K mg base ar 9 f fd ["_law_box_here"] AN := by
 refine F.ok c_ (λ vs H Q E h => ?_) (λ ë A outer s H vs Q E hr h => ?_)
 ·obtain ⟨p, rfl, _⟩ := h;rfl
 obtain ⟨p, rfl, bx, hz, q⟩ := h;refine cj (zR Lw hr hz) ⟨?_⟩;refine bJ (cE ?_);refine bU (i := 0) (m := 7) rfl bx (λ R r => r) am am λ r H1 r0 r7 Ix k1 => ⟨1, r, rfl, rfl, ?_⟩;obtain ⟨n, en, n1, n7⟩ : ∃ n : Nat, (1 + r : Int) = ((n : Nat) : Int) /\ 1 <= n /\ n <= 7 := ⟨(1 + r).toNat, af, af, af⟩;show bL Fv _ _ [some (.ref p), some (.int (1 + r)), none, none, none, none, none, none, none, none, none, none, none, none] H1;rw [en];refine ⟨_, rfl, _, rfl, p, n, rfl, Ix, af, λ l L H2 hl k2 LA ls bt ln => ?_⟩;subst ln;have nl : l ≠ p := bV Ix hl;refine bJ (bU (i := 0) (m := ((L.length : Nat) : Int) + 1) rfl LA (λ R r => ⟨_, rfl, _, _, rfl, rfl, r⟩) af af λ O H3 o0 o1 JY k3 => ?_);have LQ := ls.kept k3 LA nl;refine ⟨_, rfl, _, rfl, L.length, O, rfl, af, λ dl H4 MN x4 h4 => ?_⟩;have JX := JY.ext x4;refine ⟨_, rfl, _, rfl, l, L, rfl, LQ.ext x4, bt, λ c H5 x5 XB hc => ?_⟩;have sm := iI bt;have cd : gG (wS L) = true := wa af af;refine ⟨.int O, .ref c, .int O, wS L, rfl, .int O, vM hc, (λ z => by rw [cd] at z; cases z), λ a b e f ed _ => ?_⟩
 have e4 : a = L.count (1, 0) /\ b = L.count (0, 1) /\ e = L.count (1, 1) /\ f = L.count (0, 0) := by
  unfold wS at ed;injection ed with ed
  injection ed with h1 ed
  injection ed with h2 ed
  injection ed with h3 ed
  injection ed with h4 _
  injection h1 with h1
  injection h2 with h2
  injection h3 with h3
  injection h4 with h4
  omega
 obtain ⟨rfl, rfl, rfl, rfl⟩ := e4;refine ⟨λ z => ?_, λ O' eO _ _ sp H6 kvs ns ps IZ x6 h6 ws tl => ?_⟩
 ·exfalso;have z' : (decide ((0 : Int) <= O) && decide (O <= ((L.count (1, 0) + L.count (0, 1) + L.count (1, 1) + L.count (0, 0) : Nat) : Int))) = false := z;rw [Ŧ, Ć, Ć] at z';omega
 injection eO with eO
 subst eO;have X6 := x4.trans (x5.trans x6);have XG := JY.ext X6;refine ⟨_, rfl, _, rfl, _, rfl, λ g hg => ⟨g, 0, ((L.length : Nat) : Int), rfl, aQ, ⟨af, af, af, af⟩, af, λ y hy => ?_⟩⟩;have ex : (((L.length : Nat) : Int) - 0).toNat = L.length := af;rw [ex, yV];have x7 := Ext.new (o := .LN 0 ((L.length : Nat) : Int)) hg;have x8 := Ext.new (o := .lst ((List.range L.length).map vN)) hy;have X8 := X6.trans (x7.trans x8);have OJ := JY.ext X8;refine ⟨p, y, List.range L.length, rfl, OJ, aQ, by rw [ÿ]; omega, λ o od H9 ho k9 SS h9 pm => ?_⟩
 have Pl : dl ≠ p := bV JY MN;have Rr : sp ≠ p := bV (JY.ext (x4.trans x5)) IZ;have no : o ≠ p := bV OJ ho;have RB : Ī H9 l L := (LQ.ext X8).kept k9 OJ nl;have UL : jW _ H9 := k9.Υ OJ;refine bJ (zD (K := K) rfl rfl h9 RB (λ i hi => ĥ.mp (pm.mem_iff.mp hi)) (by rw [pm.length_eq, ÿ]; omega) λ M5 OM PY Mh lo => ?_)
 have LB := SS.ext Mh;have LX : OM dl = _ := Mh _ _ (k9 _ _ (x8 _ _ (x7 _ _ (x6 _ _ (x5 _ _ h4)))) Pl);have NS : OM sp = _ := Mh _ _ (k9 _ _ (x8 _ _ (x7 _ _ h6)) Rr);have Mk : qh OM kvs ns ps (dS (λ _ => 1) ps) := ⟨tl.pm, tl.so, Paired.imp' (λ _ _ r => ⟨r.1, ((r.2.kp (x7.trans x8).Υ).kp UL).kp Mh.Υ⟩) tl.pr⟩;have Pp := RB.ext Mh;have P6 := Mh _ _ h9;have Xh : Kept H OM p := k1.trans (k2.trans (k3.trans ((X8.kept p).trans (k9.trans (Mh.kept p)))));refine BR (Cn (K := K) rfl rfl LB Pl LX (by rw [Å]; exact Ě (v_ _ _) (by rw [ÿ]; exact Ě (æ am n7) am)) λ t ys SX Qv MA R0 mem => ⟨t, rfl, ⟨_, û.of R0⟩, ?_⟩)
 have Pg : M5 ≠ p := bV SS PY;have Pu := MA.Υ LB;have NL := Pp.kept MA LB nl;have Pr := lo.kept MA LB Pg;have LW := MA _ _ LX Pl;have NR := MA _ _ NS Rr;have P5 := MA _ _ P6 no;have Mj : qh SX kvs ns ps (dS (λ _ => 1) ps) := ⟨Mk.pm, Mk.so, Paired.imp' (λ _ _ r => ⟨r.1, r.2.kp Pu⟩) Mk.pr⟩;refine dG (K := K) (g := bf 8) (tb := tJ K CL CD) (D := { nx := λ σ H => FY K { nx := λ _ H' => Q V.Ė H', rt := Q } σ H, rt := Q }) (xs := ys) (λ i σ H' => Ext SX H' /\ ∃ o8 o9 ŕ ĵ Ξ Ŵ, σ = [some (.ref p), some (.int (L.length : Nat)), some (.ref l), some (.int O), some (.ref dl), some (.ref sp), some (.ref o), some (.ref M5), o8, o9, ŕ, ĵ, Ξ, Ŵ]) ⟨Ext.refl _, _, _, _, _, _, _, rfl⟩ (λ i σ H' _ pv => û.of (pv.1 _ _ R0)) ?_ ?_
 ·rintro i v σ H' ev ⟨x', o8, o9, ŕ, ĵ, Ξ, Ŵ, rfl⟩;obtain ⟨x, hx, rfl⟩ := ò.mp (mem v (á ev));obtain ⟨KP, UY⟩ := Ġ.mp hx;have KP := ĥ.mp KP;have hO : O = oX L x := (ì UY).symm;have L4 : ∀ g, dS g ps = cc L (oX L x) g := λ g => by
   unfold cc;rw [ws.2, kM bt, <- sm, <- hO]
  refine F3 (NL.ext x') bt n1 n7 KP hO (by rw [<- hO]; exact x' _ _ LW) (x' _ _ NR) ⟨Mj.pm, Mj.so, Paired.imp' (λ _ _ r => ⟨r.1, r.2.kp x'.Υ⟩) Mj.pr⟩ ws.1 L4 (x' _ _ P5) pm (Pr.ext x') λ SW o9 ŕ ĵ Ξ Ŵ Tj => ⟨x'.trans Tj, _, _, _, _, _, _, rfl⟩
 ·rintro σ H' ⟨x', o8, o9, ŕ, ĵ, Ξ, Ŵ, rfl⟩;obtain ⟨x0, e0, RH⟩ := wg (L := L) (O := O) o0 af;have pw : (2 : Nat) ^ L.length <= 128 := Ò (æ am n7) am;refine ⟨_, rfl, _, rfl, _, rfl, dl, _, 0, .int (x0 : Nat), rfl, rfl, û.of (x' _ _ LW), ?_, λ LR => ?_⟩
  ·have := zj (xs := (mU L.length O).map λ x => V.int (x : Nat)) (j := 0) (v := .int (x0 : Nat)) (by rw [Ê, e0]; rfl)
   exact this
  ·exact ⟨p, l, x0, L, rfl, LR, Qv.ext x', nl, NL.ext x', bt, n1, af, af, λ SW UT _ => q SW (Xh.trans (MA.trans ((x'.kept p).trans UT)))⟩
abbrev w9 : Stmt := cD 63
def pL (K : Frag) : Sp := λ vs H Q _ => ∃ (a : Addr) (ns : List Int), vs = [.ref a] /\ û K H a (ns.map V.int) /\ ns.length <= 63 /\ H sysModules = none /\ ∀ H', Q (.bl true) H'
abbrev HN : List Str := ["_law_script", "_law_k"]
theorem Nt : ai HN ["_law_script"] (aa w9) := aS
theorem zE {f a1 a2 a3 a4 : Addr} {fd d1 d2 d3 d4 : FuncData} (F : Ŏ K "law" "law" w9 f fd) (Ar : Df P w K mg base ar 9 "_law_right" ["_law_box_here"] AN a1 d1) (Ab : Df P w K mg base ar 1 "_law_box" ["_law_cell_here"] xL a2 d2) (Ac : Df P w K mg base ar 1 "_law_cell" ["_law_script", "_law_k"] (sU K) a3 d3) (Ag : Df P w K mg base ar 7 "_law_great_right" ["_law_box_here"] DA a4 d4)
  (ml : mg "len" = none) (mr : mg "range" = none) (mx : mg "max" = none) (mm : mg "min" = none) : az P w K mg base ar 10 f fd ["_law_script"] (pL K) := by
 refine F.ok Nt (λ vs H Q E h => ?_) (λ ë A outer s H vs Q E hr h => ?_)
 ·obtain ⟨a, ns, rfl, _⟩ := h;rfl
 obtain ⟨a, ns, rfl, ha, Xz, hz, q⟩ := h;have nd := Nt.nd;have Δ : ė 1 _ := hr.mono am;have U8 : ė 7 _ := hr.mono am;refine ⟨_, cv (dM õ rfl (cz rfl mr (ae (ah (q8 rfl) rfl mx PyProof.Rows.boot_max (ae aw (ae (ah (qz rfl) rfl mm PyProof.Rows.boot_min (ae (ah au rfl ml í (ae (pv 0) ap)) (ae aw ap))) ap))) ap)) (bM (i := 1) nd rfl (Or.inl rfl))
   (cv (bp (bh (ba (fH hz Ar.G hr rfl Ar.m Ar.kp Ar.b ao (ae (bY Ab Δ ao (ae (bY Ac Δ ao (ae (pv 0) (ae (pv 1) ap))) ap)) ap)))) (bw (cq jd)) hV)
   (bw (bp (PW.pt (yI (aF uK (pv 1) aw (aI _)) (wP (bh (ba (bY Ag U8 ao (ae (bY Ab Δ ao (ae (aj bd (bY Ac Δ ao (ae (pv 0) (ae (pv 1) ap))) aw) ap)) ap))))))) (bw (cq jd)) hV))))
  (bw (cq jd)), ?_⟩
 have hn : ∃ n : Nat, n <= 5 /\ (if (if (5 : Int) < (((ns.map V.int).length : Nat) : Int) then 5 else (((ns.map V.int).length : Nat) : Int)) > 1 then (if (5 : Int) < (((ns.map V.int).length : Nat) : Int) then 5 else (((ns.map V.int).length : Nat) : Int)) else 1) = (n : Int) := by
  refine ⟨(if (if (5 : Int) < (((ns.map V.int).length : Nat) : Int) then 5 else (((ns.map V.int).length : Nat) : Int)) > 1 then (if (5 : Int) < (((ns.map V.int).length : Nat) : Int) then 5 else (((ns.map V.int).length : Nat) : Int)) else 1).toNat, ?_, ?_⟩ <;> (repeat' split) <;> omega
 obtain ⟨n, n5, en⟩ := hn;refine ⟨_, rfl, a, _, rfl, .inl ha, _, _, rfl, _, _, rfl, _, rfl, ?_⟩;rw [en];refine ⟨af, af, ?_⟩;rw [ċ];refine jz (n := n) (λ i σ H' => Ext H H' /\ ∃ o1, σ = [some (.ref a), o1]) ⟨Ext.refl _, _, rfl⟩ ?_ ?_
 ·rintro i σ H' hi ⟨x', o1, rfl⟩;refine ⟨_, rfl, _, rfl, a, ns, _, rfl, My.û.ext ha x', af, af, λ c => ⟨c, rfl, λ p H2 hp x2 bx => λ NP => ⟨p, rfl, bx, NP, λ H3 k3 => ⟨_, rfl, dA ?_⟩⟩⟩⟩;have x3 : Ext H H3 := λ b o h => k3 b o (x2 _ _ (x' b o h)) (λ e => by have := x' b o h; rw [e, hp] at this; cases this)
  refine ⟨_, rfl, _, _, rfl, rfl, _, rfl, nF (λ _ => ?_) (λ _ => ?_)⟩
  ·refine ⟨_, rfl, _, rfl, a, ns, _, rfl, My.û.ext ha x3, af, af, λ c => ⟨_, _, rfl, rfl, _, rfl, λ p H4 Va x4 JX => ⟨p, rfl, JX, λ H5 k5 => ⟨_, rfl, dA ⟨?_, _, rfl⟩⟩⟩⟩⟩;exact λ b o h => k5 b o (x4 _ _ (x3 b o h)) (λ e => by have := x3 b o h; rw [e, Va] at this; cases this)
  ·exact dA ⟨x3, _, rfl⟩
 ·rintro σ H' ⟨x', o1, rfl⟩;exact q H'
end
theorem yL {K : Frag} {D C f : Addr} {nm : Str} (T : ł K D nm C f) (b : Value) : mroIn K C b = some ((Value.ref C :: .ref D :: pb).contains b) := by
 obtain ⟨cd, h1, _, h3⟩ := T.clsIn;unfold mroIn;rw [h1, υ, h3];rfl
theorem sx {K : Frag} {D C f : Addr} {nm : Str} (T : ł K D nm C f) (B : Ŀ K D) : C ≠ D := by
 intro e;obtain ⟨q, N, bs, sn, sub, ab, col, dd, k0, k1, k2, k3, k5, l⟩ := T.cls;obtain ⟨LO, q', N', Qw, OW, Mm, Q8, MZ, Jh, PB, Pz, Py, Px, Pw, l', _⟩ := B.cls;rw [e, l'] at l;have z := Ð l;injection z with _ _ z _
 injection z with z
 injection z with _ _ z
 cases z
theorem tq {K : Frag} {D C f C' f' : Addr} {nm LO : Str} (T : ł K D nm C f) (T' : ł K D LO C' f') (h : nm ≠ LO) : C' ≠ C := by
 intro e;obtain ⟨q, N, bs, sn, sub, ab, col, dd, k0, k1, k2, k3, k5, l⟩ := T.cls;obtain ⟨q', N', Qw, OW, Mm, Q8, MZ, Jh, PB, Pz, Py, Px, Pw, l'⟩ := T'.cls;rw [e, l] at l';have z := Ð l';injection z with _ _ z _
 injection z with z
 injection z with z
 exact h z
theorem uu {K : Frag} {D : Addr} (B : Ŀ K D) : typeIn K (.ref D) = some (.type "type") := by
 obtain ⟨LO, q', N', Qw, OW, Mm, Q8, MZ, Jh, PB, Pz, Py, Px, Pw, l', _⟩ := B.cls;show (List.lookup D K).map (·.cls) = _;rw [l'];rfl
theorem wA {K : Frag} {D : Addr} (B : Ŀ K D) : ∃ cd, clsIn K D = some cd := by
 obtain ⟨LO, q', N', Qw, OW, Mm, Q8, MZ, Jh, PB, Pz, Py, Px, Pw, l', _⟩ := B.cls;unfold clsIn;rw [l'];exact ⟨_, rfl⟩
abbrev jt : Stmt := kK (cD 3) 0
theorem zz : ai ["self", "found"] ["self", "found"] (aa jt) := aS
theorem Er {K : Frag} {mg : bu} {D C f : Addr} {fd : FuncData} (B : Ŀ K D) (T : ł K D "NoNumber" C f) (mD : mg "DealError" = some (.ref D)) (mC : mg "NoNumber" = some (.ref C)) (F : Ŏ K "__init__" "NoNumber.__init__" jt f fd) (tk : takerIn K C "found" = some none) : mV K mg D "NoNumber" "found" C f fd := by
 refine ⟨T, mC, λ P w base => ?_, F.binds λ _ _ _ _ _ _ us hl => match us, hl with | [_, _], _ => rfl⟩
 refine F.ok zz (λ vs H Q E h => ?_) (λ ë A outer s H vs Q E hr h => ?_)
 ·obtain ⟨x, v, rfl, _⟩ := h;rfl
 obtain ⟨x, v, rfl, hx, q⟩ := h;refine ⟨_, cv (cr (dC B T rfl mD (pv 0) c8)) (bw (ny T (pv 0) (pv 1) rfl)), ?_⟩;exact ⟨_, rfl, x, rfl, hx, _, rfl, _, rfl, x, rfl, hx, tk, q⟩
abbrev jv : Stmt := kK (cD 4) 0
theorem yC : ai ["self", "found"] ["self", "found"] (aa jv) := aS
theorem FM {K : Frag} {mg : bu} {D C f : Addr} {fd : FuncData} (B : Ŀ K D) (T : ł K D "NoDealing" C f) (mD : mg "DealError" = some (.ref D)) (mC : mg "NoDealing" = some (.ref C)) (F : Ŏ K "__init__" "NoDealing.__init__" jv f fd) (tk : takerIn K C "found" = some none) : mV K mg D "NoDealing" "found" C f fd := by
 refine ⟨T, mC, λ P w base => ?_, F.binds λ _ _ _ _ _ _ us hl => match us, hl with | [_, _], _ => rfl⟩
 refine F.ok yC (λ vs H Q E h => ?_) (λ ë A outer s H vs Q E hr h => ?_)
 ·obtain ⟨x, v, rfl, _⟩ := h;rfl
 obtain ⟨x, v, rfl, hx, q⟩ := h;refine ⟨_, cv (cr (dC B T rfl mD (pv 0) c8)) (bw (ny T (pv 0) (pv 1) rfl)), ?_⟩;exact ⟨_, rfl, x, rfl, hx, _, rfl, _, rfl, x, rfl, hx, tk, q⟩
abbrev jr : Stmt := kK (cD 5) 0
theorem zK : ai ["self", "found"] ["self", "found"] (aa jr) := aS
theorem FX {K : Frag} {mg : bu} {D C f : Addr} {fd : FuncData} (B : Ŀ K D) (T : ł K D "NoListing" C f) (mD : mg "DealError" = some (.ref D)) (mC : mg "NoListing" = some (.ref C)) (F : Ŏ K "__init__" "NoListing.__init__" jr f fd) (tk : takerIn K C "found" = some none) : mV K mg D "NoListing" "found" C f fd := by
 refine ⟨T, mC, λ P w base => ?_, F.binds λ _ _ _ _ _ _ us hl => match us, hl with | [_, _], _ => rfl⟩
 refine F.ok zK (λ vs H Q E h => ?_) (λ ë A outer s H vs Q E hr h => ?_)
 ·obtain ⟨x, v, rfl, _⟩ := h;rfl
 obtain ⟨x, v, rfl, hx, q⟩ := h;refine ⟨_, cv (cr (dC B T rfl mD (pv 0) c8)) (bw (ny T (pv 0) (pv 1) rfl)), ?_⟩;exact ⟨_, rfl, x, rfl, hx, _, rfl, _, rfl, x, rfl, hx, tk, q⟩
theorem uX {K : Frag} {D C f : Addr} {nm fld : Str} (T : ł K D nm C f) (nf : findIn K (.ref C) fld = some none) : pT K C fld := by
 obtain ⟨cd, h1, h2, h3⟩ := T.clsIn;refine ⟨T.it, ?_, nf⟩;unfold hasDictIn;rw [h1];exact h2
theorem rm {K : Frag} {D C f : Addr} {nm : Str} (T : ł K D nm C f) : pC K C := by
 obtain ⟨cd, h1, h2, h3⟩ := T.clsIn;exact ⟨⟨cd, h1⟩, T.type, T.it.mb⟩
theorem lb {K : Frag} {D C f : Addr} {nm : Str} (T : ł K D nm C f) : mroIn K C (.ref C) = some true := by
 rw [yL T, ā, ı];rfl
theorem ua {K : Frag} {D C f : Addr} {nm : Str} (T : ł K D nm C f) : mroIn K C (.ref D) = some true := by
 rw [yL T, ā, ā, ı, Bool.true_or, Bool.or_true]
theorem yE {K : Frag} {D C f C' f' : Addr} {nm LO : Str} (B : Ŀ K D) (T : ł K D nm C f) (T' : ł K D LO C' f') (h : nm ≠ LO) : mroIn K C (.ref C') = some false := by
 have ne := tq T T' h;have nd := sx T' B;rw [yL T, ā, ā];have n1 : (Value.ref C' == Value.ref C) = false := ē.mpr λ z => ne (s_ z);have n2 : (Value.ref C' == Value.ref D) = false := ē.mpr λ z => nd (s_ z);rw [n1, n2];rfl
def zu : Value -> Bool
 | .str _ _ => true
 | _ => false
theorem Jn {es : Array DictEntry} (h : (es.toList.all λ e => zu e.key) = true) : StrKeys es := λ e he => by
 have z := Jm.mp h e (by simpa using he)
 cases k : e.key with
 | str n t => exact ⟨n, t, rfl⟩
 | _ => rw [k] at z; cases z
theorem kJ {K : Frag} {C : Addr} {cd : ClassData} {b : Value} (h : clsIn K C = some cd) (hb : cd.mro.isEmpty = false) (hc : cd.mro.contains b = true) : mroIn K C b = some true := by
 unfold mroIn;rw [h, υ, hb, hc];rfl
theorem LC {K : Frag} {D N : Addr} {nm q : Str} {bs : List Value} {sn : List Str} {sub : List Value} {ab : Bool} {col : Option Bool} {dd : Option Addr} {k0 k1 k2 k3 k5 : Option Value}
  {cN : Value} {dN : Option Addr} {es : Array DictEntry} {ep : Nat} {sN : Array (Option Value)}
  (lD : K.lookup D = some (excClassObj nm q D N bs pb true sn sub ab col dd k0 k1 k2 k3 k5 "ValueError.__new__"))
  (lN : K.lookup N = some ⟨cN, dN, .dict es ep, sN⟩) (sk : StrKeys es) (ni : nsFind es "__init__" = none)
  (ga : specialIn K (.ref D) "__getattribute__" = some (some (.builtin "type.__getattribute__"))) (rd : readsIn K D (.type "type") = true)
  (NO : findCls K (.ref D) (.type "type") "__init__" = some (.val (.builtin "ValueError.__init__"))) (fi : findIn K (.ref D) "__init__" = some (some (.builtin "ValueError.__init__"))) (kp : keepIn K (.ref D) = true)
  (gb : findIn K (.ref D) "__getattribute__" = some (some (.builtin nU))) (hk : findIn K (.ref D) "__getattr__" = some none) (ca : findIn K (.ref D) "__class__" = some (some (.builtin "object.__class__"))) : Ŀ K D := by
 have hc : clsIn K D = some { name := nm, bases := bs, mro := .ref D :: pb, ns := N, qualname := q, hasDict := true, slotNames := sn, subclasses := sub, abstract := ab, collection := col, hasDel := false } := by
  unfold clsIn;rw [lD]
 refine ⟨⟨nm, q, N, bs, sn, sub, ab, col, dd, k0, k1, k2, k3, k5, lD, _, es, ep, lN, rfl, sk, ni⟩, ga, rd, NO, fi, kp, ⟨by rw [hc]; rfl, gb, hk, kJ hc rfl ?_, kJ hc rfl ?_, ca⟩⟩
 ·show (Value.ref D :: pb).contains (.type "BaseException") = true;rw [ā];rfl
 ·show (Value.ref D :: pb).contains (.type "object") = true;rw [ā];rfl
theorem Jt {K : Frag} {D C N f : Addr} (nm : Str)
  {q : Str} {bs : List Value} {sn : List Str} {sub : List Value} {ab : Bool} {col : Option Bool} {dd : Option Addr} {k0 k1 k2 k3 k5 : Option Value}
  (lC : K.lookup C = some (excClassObj nm q C N bs (.ref D :: pb) true sn sub ab col dd k0 k1 k2 k3 k5 "ValueError.__new__"))
  (NO : findIn K (.ref C) "__init__" = some (some (.ref f))) (fn : typeIn K (.ref f) = some (.type "function")) (kp : keepIn K (.ref C) = true)
  (sa : findIn K (.ref C) "__setattr__" = some (some (.builtin "object.__setattr__"))) (ga : findIn K (.ref C) "__getattribute__" = some (some (.builtin nU))) (hk : findIn K (.ref C) "__getattr__" = some none)
  (ca : findIn K (.ref C) "__class__" = some (some (.builtin "object.__class__"))) : ł K D nm C f := by
 have hc : clsIn K C = some { name := nm, bases := bs, mro := .ref C :: .ref D :: pb, ns := N, qualname := q, hasDict := true, slotNames := sn, subclasses := sub, abstract := ab, collection := col, hasDel := false } := by
  unfold clsIn;rw [lC]
 refine ⟨⟨q, N, bs, sn, sub, ab, col, dd, k0, k1, k2, k3, k5, lC⟩, NO, fn, kp, sa, ⟨by rw [hc]; rfl, ga, hk, kJ hc rfl ?_, kJ hc rfl ?_, ca⟩⟩
 ·show (Value.ref C :: .ref D :: pb).contains (.type "BaseException") = true;rw [ā, ā];rfl
 ·show (Value.ref C :: .ref D :: pb).contains (.type "object") = true;rw [ā, ā];rfl
structure Dn (K : Frag) (mg : bu) (nm : Str) (st : Stmt) (ps : List Str) (f : Addr) (fd : FuncData) : Prop where
 fn : Ŏ K nm nm st f fd
 bi : Binds K fd ps []
 kp : keepIn K (.ref f) = true
 mg : mg nm = some (.ref f)
section
variable {P : Program} {w : World} {K : Frag} {mg : bu} {base : Heap}
theorem Dn.df {nm : Str} {st : Stmt} {ps : List Str} {f : Addr} {fd : FuncData} (d : Dn K mg nm st ps f fd) {cx : kY} {k : Nat} {sp : Sp} (h : az P w K mg base cx k f fd ps sp) : Df P w K mg base cx k nm ps sp f fd := ⟨h, d.bi, d.kp, d.mg⟩
theorem gV {p : Addr} {i j : Int} {od : Option Addr} {t u : Tok} {n : Nat} {sl : Array (Option Value)} (l : K.lookup p = some ⟨.type "tuple", od, .seq #[.int i t, .int j u] n, sl⟩) (H : Hp) : ĕ K H p [.int i, .int j] :=
 .inr ⟨_, _, _, l, rfl, rfl, ft, .cons ⟨_, rfl⟩ (.cons ⟨_, rfl⟩ .nil)⟩
end
theorem l5 {K : Frag} {D C f : Addr} {nm : Str} (B : Ŀ K D) (T : ł K D nm C f) : kitOne K (.ref C) (.ref D) = some true := by
 obtain ⟨cd, hc⟩ := wA B;have ne := sx T B;unfold kitOne;rw [Ë (by intro z; exact ne (s_ (beq_iff_eq.mp z)))]
 show (if ((clsIn K D).isSome && typeIn K (.ref D) == some (.type "type")) = true then subIn K (.ref C) (.ref D) else none) = _
 rw [hc, uu B];simp only [Option.isSome_some, beq_self_eq_true, Bool.and_self, if_true];exact ua T
abbrev BP (nm qn : Str) (st : Stmt) (ps : List Str) : Prop := ∀ (kV doc pm : Value) (an : Option Addr) (ë ct : Value) (us : List Value), us.length = ps.length -> bindArgs (PySem.W.fnOf nm qn (bX st) (av st) (aa st) .none kV doc pm an ë ct) ⟨us, []⟩ = pure (ps.zip us)
theorem ć {nm : Str} {st : Stmt} {ps : List Str} (hb : BP nm nm st ps) {K : Frag} {h : Heap} {mg : bu} {g : Addr} {oc kV dc pm cd ct : Value} {od an : Option Addr} {sl : Array (Option Value)} (X : K.In h) (G : h.Ns mainGlobals mg)
  (a : nsIn K mainGlobals nm = some (some (.ref g))) (l : K.lookup g = some ⟨oc, od, .func (fnOf nm nm (bX st) (av st) (aa st) .none kV dc pm an cd ct), sl⟩) (c : codeIn K cd nm = true) (k : keepIn K (.ref g) = true) :
  Dn K mg nm st ps g (fnOf nm nm (bX st) (av st) (aa st) .none kV dc pm an cd ct) := by
 have F := ke (st := st) l c k;exact ⟨F, F.binds hb, k, JZ X G a⟩
theorem Xc : BP "is_number" "is_number" j6 ["thing"] := λ _ _ _ _ _ _ us hl => match us, hl with | [_], _ => rfl
theorem Xb : BP "is_whole" "is_whole" oB ["thing", "low", "high"] := λ _ _ _ _ _ _ us hl => match us, hl with | [_, _, _], _ => rfl
theorem Xa : BP "greatest_common" "greatest_common" w6 ["one", "other"] := λ _ _ _ _ _ _ us hl => match us, hl with | [_, _], _ => rfl
theorem W_ : BP "is_part" "is_part" oQ ["top", "bottom"] := λ _ _ _ _ _ _ us hl => match us, hl with | [_, _], _ => rfl
theorem W' : BP "share_of" "share_of" D3 ["top", "bottom"] := λ _ _ _ _ _ _ us hl => match us, hl with | [_, _], _ => rfl
theorem W9 : BP "need_number" "need_number" DN ["thing", "low", "high"] := λ _ _ _ _ _ _ us hl => match us, hl with | [_, _, _], _ => rfl
theorem W8 : BP "need_hands" "need_hands" DV ["thing", "folk"] := λ _ _ _ _ _ _ us hl => match us, hl with | [_, _], _ => rfl
theorem W7 : BP "hand_of" "hand_of" D5 ["dealing", "at"] := λ _ _ _ _ _ _ us hl => match us, hl with | [_, _], _ => rfl
theorem W6 : BP "ones_of" "ones_of" A8 ["dealing", "folk"] := λ _ _ _ _ _ _ us hl => match us, hl with | [_, _], _ => rfl
theorem W5 : BP "told_spread" "told_spread" AM ["parts"] := λ _ _ _ _ _ _ us hl => match us, hl with | [_], _ => rfl
theorem Q5 : BP "is_listed" "is_listed" DT ["thing"] := λ _ _ _ _ _ _ us hl => match us, hl with | [_], _ => rfl
theorem Q3 : BP "is_listing" "is_listing" DP ["thing"] := λ _ _ _ _ _ _ us hl => match us, hl with | [_], _ => rfl
theorem Q2 : BP "need_listing" "need_listing" DR ["thing"] := λ _ _ _ _ _ _ us hl => match us, hl with | [_], _ => rfl
theorem Q1 : BP "counts_of" "counts_of" C4 ["listing"] := λ _ _ _ _ _ _ us hl => match us, hl with | [_], _ => rfl
theorem Q0 : BP "are_counts" "are_counts" D7 ["thing"] := λ _ _ _ _ _ _ us hl => match us, hl with | [_], _ => rfl
theorem QZ : BP "choices" "choices" D0 ["many"] := λ _ _ _ _ _ _ us hl => match us, hl with | [_], _ => rfl
theorem QY : BP "value_under" "value_under" DL ["counts", "dealt"] := λ _ _ _ _ _ _ us hl => match us, hl with | [_, _], _ => rfl
theorem QX : BP "ways_to_deal" "ways_to_deal" zb ["ones", "counts"] := λ _ _ _ _ _ _ us hl => match us, hl with | [_, _], _ => rfl
theorem QW : BP "value_ways" "value_ways" B8 ["ones", "counts"] := λ _ _ _ _ _ _ us hl => match us, hl with | [_, _], _ => rfl
theorem QV : BP "counts_spread" "counts_spread" DZ ["ones", "counts"] := λ _ _ _ _ _ _ us hl => match us, hl with | [_, _], _ => rfl
theorem QU : BP "both_shares" "both_shares" xa ["ones", "counts", "seen"] := λ _ _ _ _ _ _ us hl => match us, hl with | [_, _, _], _ => rfl
theorem QT : BP "listing_shares" "listing_shares" Bi ["listing", "dealing"] := λ _ _ _ _ _ _ us hl => match us, hl with | [_, _], _ => rfl
theorem QS : BP "_law_cell" "_law_cell" qa ["_law_script", "_law_k"] := λ _ _ _ _ _ _ us hl => match us, hl with | [_, _], _ => rfl
theorem QR : BP "_law_box" "_law_box" vK ["_law_cell_here"] := λ _ _ _ _ _ _ us hl => match us, hl with | [_], _ => rfl
theorem QQ : BP "_law_take" "_law_take" pY ["_law_box_here", "_law_many"] := λ _ _ _ _ _ _ us hl => match us, hl with | [_, _], _ => rfl
theorem QP : BP "_law_whole" "_law_whole" DQ ["_law_found"] := λ _ _ _ _ _ _ us hl => match us, hl with | [_], _ => rfl
theorem QO : BP "_law_divisor" "_law_divisor" wj ["_law_one", "_law_other"] := λ _ _ _ _ _ _ us hl => match us, hl with | [_, _], _ => rfl
theorem QN : BP "_law_is_share" "_law_is_share" xc ["_law_found", "_law_top", "_law_bottom"] := λ _ _ _ _ _ _ us hl => match us, hl with | [_, _, _], _ => rfl
theorem QM : BP "_law_listing" "_law_listing" r6 ["_law_box_here", "_law_folk"] := λ _ _ _ _ _ _ us hl => match us, hl with | [_, _], _ => rfl
theorem QL : BP "_law_came" "_law_came" B4 ["_law_listing_here", "_law_dealing"] := λ _ _ _ _ _ _ us hl => match us, hl with | [_, _], _ => rfl
theorem QK : BP "_law_counts" "_law_counts" ve ["_law_listing_here"] := λ _ _ _ _ _ _ us hl => match us, hl with | [_], _ => rfl
theorem QJ : BP "_law_ones" "_law_ones" C2 ["_law_folk", "_law_dealing"] := λ _ _ _ _ _ _ us hl => match us, hl with | [_, _], _ => rfl
theorem QI : BP "_law_dealings" "_law_dealings" BU ["_law_folk", "_law_ones_here"] := λ _ _ _ _ _ _ us hl => match us, hl with | [_, _], _ => rfl
theorem QH : BP "_law_worth" "_law_worth" vg ["_law_row", "_law_dealing"] := λ _ _ _ _ _ _ us hl => match us, hl with | [_, _], _ => rfl
theorem QG : BP "_law_values" "_law_values" BY ["_law_listing_here", "_law_dealings_here"] := λ _ _ _ _ _ _ us hl => match us, hl with | [_, _], _ => rfl
theorem QF : BP "_law_table" "_law_table" nY ["_law_listing_here", "_law_ones_here"] := λ _ _ _ _ _ _ us hl => match us, hl with | [_, _], _ => rfl
theorem QE : BP "_law_two" "_law_two" Dj ["_law_values_here", "_law_value"] := λ _ _ _ _ _ _ us hl => match us, hl with | [_, _], _ => rfl
theorem QD : BP "_law_great_right" "_law_great_right" kr ["_law_box_here"] := λ _ _ _ _ _ _ us hl => match us, hl with | [_], _ => rfl
theorem QC : BP "_law_turned" "_law_turned" Bp ["_law_box_here", "_law_some"] := λ _ _ _ _ _ _ us hl => match us, hl with | [_, _], _ => rfl
theorem QB : BP "_law_asked" "_law_asked" v5 ["_law_listing_here", "_law_dealing"] := λ _ _ _ _ _ _ us hl => match us, hl with | [_, _], _ => rfl
theorem QA : BP "_law_refused_right" "_law_refused_right" mI ["_law_box_here", "_law_listing_here", "_law_dealing"] := λ _ _ _ _ _ _ us hl => match us, hl with | [_, _, _], _ => rfl
theorem Qz : BP "_law_told_right" "_law_told_right" DW ["_law_listing_here", "_law_dealings_here", "_law_dealing"] := λ _ _ _ _ _ _ us hl => match us, hl with | [_, _, _], _ => rfl
theorem Qy : BP "_law_right" "_law_right" gh ["_law_box_here"] := λ _ _ _ _ _ _ us hl => match us, hl with | [_], _ => rfl
theorem Qx : BP "law" "law" w9 ["_law_script"] := λ _ _ _ _ _ _ us hl => match us, hl with | [_], _ => rfl
theorem all_mk {l : OpenLaw} {w : World} {K : Frag} {h : Heap} {mg : bu} {fa D ON Qp Oe Qo Od Qn g0 g1 g2 g3 g4 g5 g6 g7 g8 g9 Wd Wc Wb Wa V_ V' V9 V8 V7 V6 V5 V4 V3 V2 V1 V0 VZ VY VX VW VU VT VS VR VQ VP VO VN VM VL VJ VI VH VG : Addr} {d0 d1 d2 d3 d4 d5 d6 d7 d8 d9 MY MX WU WT WS WR WQ WP WO WN KZ WM WL WK WJ WI WH WG WF WE WD WC WB WA Wz Wy Wx Ww Wv Wu Wt Ws Wr SM : FuncData} (X : K.In h) (G : h.Ns mainGlobals mg) (Vp : mg "law" = some (.ref fa))
  {Ul UR Wq Ud SR WX Uk UQ Wp Uc SQ WW Uj UP Wo Ub SO WV : Value} {Ui Xf Uh Xe Ug Xd : Option Addr} {TN TM TL : Array (Option Value)}
  {IT : Tok}
  {n0 n1 n2 n3 : Addr} {Pc Pb Pa O_ : Option Addr} {Tv Tu Ts Tr Tq Tp To Tn : Tok} {Op Up Uo Um : Nat} {O0 OZ OY OX : Array (Option Value)}
  (B : Ŀ K D) (Wm : ł K D "NoNumber" ON Qp) (Nc : ł K D "NoDealing" Oe Qo) (Nb : ł K D "NoListing" Od Qn)
  (aD : nsIn K mainGlobals "DealError" = some (some (.ref D)))
  (a3 : nsIn K mainGlobals "NoNumber" = some (some (.ref ON)))
  (a4 : nsIn K mainGlobals "NoDealing" = some (some (.ref Oe)))
  (a5 : nsIn K mainGlobals "NoListing" = some (some (.ref Od)))
  (UJ : K.lookup Qp = some ⟨Ul, Ui, .func (fnOf "__init__" "NoNumber.__init__" (bX jt) (av jt) (aa jt) .none UR Wq Ud Xf SR WX), TN⟩)
  (W2 : codeIn K SR "NoNumber.__init__" = true)
  (UO : keepIn K (.ref Qp) = true)
  (TC : takerIn K ON "found" = some none)
  (Xx : findIn K (.ref ON) "found" = some none)
  (UI : K.lookup Qo = some ⟨Uk, Uh, .func (fnOf "__init__" "NoDealing.__init__" (bX jv) (av jv) (aa jv) .none UQ Wp Uc Xe SQ WW), TM⟩)
  (W1 : codeIn K SQ "NoDealing.__init__" = true)
  (UN : keepIn K (.ref Qo) = true)
  (TB : takerIn K Oe "found" = some none)
  (Pj : findIn K (.ref Oe) "found" = some none)
  (UH : K.lookup Qn = some ⟨Uj, Ug, .func (fnOf "__init__" "NoListing.__init__" (bX jr) (av jr) (aa jr) .none UP Wo Ub Xd SO WV), TL⟩)
  (W0 : codeIn K SO "NoListing.__init__" = true)
  (UM : keepIn K (.ref Qn) = true)
  (Tz : takerIn K Od "found" = some none)
  (Ur : findIn K (.ref Od) "found" = some none)
  (Tf : nsIn K mainGlobals "MOST_FOLK" = some (some (.int (20) IT)))
  (gt : specialIn K (.builtin "object.__class__") "__get__" = some (some (.builtin "getset_descriptor.__get__")))
  (Tx : takesIn K (.builtin "object.__class__") = some true)
  (b0 : nsIn K mainGlobals "BETTERED" = some (some (.ref n0)))
  (c0 : K.lookup n0 = some ⟨.type "tuple", Pc, .seq #[.int 1 Tv, .int 0 Tq] Op, O0⟩)
  (b1 : nsIn K mainGlobals "WORSENED" = some (some (.ref n1)))
  (c1 : K.lookup n1 = some ⟨.type "tuple", Pb, .seq #[.int 0 Tu, .int 1 Tp] Up, OZ⟩)
  (b2 : nsIn K mainGlobals "ALWAYS" = some (some (.ref n2)))
  (c2 : K.lookup n2 = some ⟨.type "tuple", Pa, .seq #[.int 1 Ts, .int 1 To] Uo, OY⟩)
  (b3 : nsIn K mainGlobals "NEVER" = some (some (.ref n3)))
  (c3 : K.lookup n3 = some ⟨.type "tuple", O_, .seq #[.int 0 Tr, .int 0 Tn] Um, OX⟩)
  (Te : nsIn K mainGlobals "isinstance" = some none)
  (Td : nsIn K mainGlobals "int" = some none)
  (Tc : nsIn K mainGlobals "bool" = some none)
  (Tb : nsIn K mainGlobals "len" = some none)
  (Ta : nsIn K mainGlobals "range" = some none)
  (S_ : nsIn K mainGlobals "tuple" = some none)
  (S' : nsIn K mainGlobals "list" = some none)
  (S9 : nsIn K mainGlobals "enumerate" = some none)
  (S8 : nsIn K mainGlobals "all" = some none)
  (S7 : nsIn K mainGlobals "repr" = some none)
  (S6 : nsIn K mainGlobals "max" = some none)
  (S5 : nsIn K mainGlobals "min" = some none)
  (S4 : nsIn K mainGlobals "sum" = some none)
  (S3 : nsIn K mainGlobals "sorted" = some none)
  (S2 : nsIn K mainGlobals "dict" = some none)
  (S1 : nsIn K mainGlobals "zip" = some none)
  (e0 : Dn K mg "is_number" j6 ["thing"] g0 d0)
  (e1 : Dn K mg "is_whole" oB ["thing", "low", "high"] g1 d1)
  (e2 : Dn K mg "greatest_common" w6 ["one", "other"] g2 d2)
  (e3 : Dn K mg "is_part" oQ ["top", "bottom"] g3 d3)
  (e4 : Dn K mg "share_of" D3 ["top", "bottom"] g4 d4)
  (e5 : Dn K mg "need_number" DN ["thing", "low", "high"] g5 d5)
  (e6 : Dn K mg "need_hands" DV ["thing", "folk"] g6 d6)
  (e7 : Dn K mg "hand_of" D5 ["dealing", "at"] g7 d7)
  (e8 : Dn K mg "ones_of" A8 ["dealing", "folk"] g8 d8)
  (e9 : Dn K mg "told_spread" AM ["parts"] g9 d9)
  (SJ : Dn K mg "is_listed" DT ["thing"] Wd MY)
  (SI : Dn K mg "is_listing" DP ["thing"] Wc MX)
  (SH : Dn K mg "need_listing" DR ["thing"] Wb WU)
  (SG : Dn K mg "counts_of" C4 ["listing"] Wa WT)
  (SE : Dn K mg "are_counts" D7 ["thing"] V_ WS)
  (SD : Dn K mg "choices" D0 ["many"] V' WR)
  (SC : Dn K mg "value_under" DL ["counts", "dealt"] V9 WQ)
  (SB : Dn K mg "ways_to_deal" zb ["ones", "counts"] V8 WP)
  (SA : Dn K mg "value_ways" B8 ["ones", "counts"] V7 WO)
  (Sy : Dn K mg "counts_spread" DZ ["ones", "counts"] V6 WN)
  (Sx : Dn K mg "both_shares" xa ["ones", "counts", "seen"] V5 KZ)
  (Sw : Dn K mg "listing_shares" Bi ["listing", "dealing"] V4 WM)
  (Sv : Dn K mg "_law_cell" qa ["_law_script", "_law_k"] V3 WL)
  (Su : Dn K mg "_law_box" vK ["_law_cell_here"] V2 WK)
  (Ss : Dn K mg "_law_take" pY ["_law_box_here", "_law_many"] V1 WJ)
  (Sr : Dn K mg "_law_whole" DQ ["_law_found"] V0 WI)
  (Sq : Dn K mg "_law_divisor" wj ["_law_one", "_law_other"] VZ WH)
  (So : Dn K mg "_law_is_share" xc ["_law_found", "_law_top", "_law_bottom"] VY WG)
  (Sn : Dn K mg "_law_listing" r6 ["_law_box_here", "_law_folk"] VX WF)
  (Sl : Dn K mg "_law_came" B4 ["_law_listing_here", "_law_dealing"] VW WE)
  (Sk : Dn K mg "_law_counts" ve ["_law_listing_here"] VU WD)
  (Sj : Dn K mg "_law_ones" C2 ["_law_folk", "_law_dealing"] VT WC)
  (Si : Dn K mg "_law_dealings" BU ["_law_folk", "_law_ones_here"] VS WB)
  (Sh : Dn K mg "_law_worth" vg ["_law_row", "_law_dealing"] VR WA)
  (Sg : Dn K mg "_law_values" BY ["_law_listing_here", "_law_dealings_here"] VQ Wz)
  (Sf : Dn K mg "_law_table" nY ["_law_listing_here", "_law_ones_here"] VP Wy)
  (Se : Dn K mg "_law_two" Dj ["_law_values_here", "_law_value"] VO Wx)
  (Sd : Dn K mg "_law_great_right" kr ["_law_box_here"] VN Ww)
  (Sc : Dn K mg "_law_turned" Bp ["_law_box_here", "_law_some"] VM Wv)
  (Sb : Dn K mg "_law_asked" v5 ["_law_listing_here", "_law_dealing"] VL Wu)
  (Sa : Dn K mg "_law_refused_right" mI ["_law_box_here", "_law_listing_here", "_law_dealing"] VJ Wt)
  (R_ : Dn K mg "_law_told_right" DW ["_law_listing_here", "_law_dealings_here", "_law_dealing"] VI Ws)
  (R' : Dn K mg "_law_right" gh ["_law_box_here"] VH Wr)
  (R9 : Dn K mg "law" w9 ["_law_script"] VG SM)
  (hb : ∀ (s : Shared) (v : Value), BindsTo s SM ⟨[v], []⟩ [("_law_script", v)])
  : ∃ fd : FuncData, (∀ (s : Shared) (v : Value), BindsTo s fd ⟨[v], []⟩ [("_law_script", v)]) /\ ∀ base : Heap, K.In base -> base.Ns mainGlobals mg -> az l.prog w K mg base ar 10 fa fd ["_law_script"] (pL K) := by
 have e := Vp.symm.trans R9.mg;cases e;refine ⟨_, hb, λ base _ _ => ?_⟩;have ġ := ę X G Te;have Kn := ę X G Td;have Ko := ę X G Tc;have ů := ę X G Tb;have ŷ := ę X G Ta;have Τ := ę X G S_;have Jq := ę X G S';have ŧ := ę X G S9;have LP := ę X G S8;have Km := ę X G S7;have NJ := ę X G S6;have NI := ę X G S5;have d_ := ę X G S4;have Kl := ę X G S3;have Mx := ę X G S2;have NH := ę X G S1;have T : uq K := ⟨gt, Tx⟩;have mD := JZ X G aD;have o3 := Er B Wm mD (JZ X G a3) (ke (st := jt) UJ W2 UO) TC;have o4 := FM B Nc mD (JZ X G a4) (ke (st := jv) UI W1 UN) TB;have o5 := FX B Nb mD (JZ X G a5) (ke (st := jr) UH W0 UM) Tz;have q_ := JZ X G Tf;have Q_ := sC (P := l.prog) (w := w) (mg := mg) (base := base) T e0.fn ġ Kn Ko;have GN := (e0.df Q_);have SY := we e1.fn Q_ e0.bi e0.kp e0.mg;have GW := (e1.df SY);have GG := e2.df (yr (P := l.prog) (w := w) (mg := mg) (base := base) e2.fn);have GP := e3.df (wr e3.fn Q_ e0.bi e0.kp e0.mg SY e1.bi e1.kp e1.mg);have GS := e4.df (CJ e4.fn GP GG);have GM := e5.df (Dp e5.fn B o3 GW);have Hh := e7.df (Bn (P := l.prog) (w := w) (mg := mg) (base := base) e7.fn);have Hn := e6.df (CT e6.fn B o4 GW);have Ho := e8.df (Bu e8.fn Hh ŷ);have GT := e9.df (Cg e9.fn GS Kl);have Gl := SJ.df (By T SJ.fn GW ġ Τ ů);have Gg := SI.df (Dw T SI.fn GW Gl q_ ġ Jq ů LP);have Gn := SH.df (C1 SH.fn B o5 Gg);have Fo : Cs K mg n0 n1 n2 n3 := ⟨JZ X G b0, JZ X G b1, JZ X G b2, JZ X G b3, gV c0, gV c1, gV c2, gV c3⟩;have Gc := SG.df (AQ (P := l.prog) (w := w) (mg := mg) (base := base) SG.fn Fo);have Ga := SE.df (C6 T SE.fn GW q_ ġ Τ ů LP d_);have Gh := SD.df (CW (P := l.prog) (w := w) (mg := mg) (base := base) SD.fn ŷ);have Gu := SC.df (B2 (P := l.prog) (w := w) (mg := mg) (base := base) SC.fn d_);have Gd := SB.df (BT SB.fn Gh GW ŧ);have Gv := SA.df (AW SA.fn Gd Gu);have Gs := Sy.df (Cf Sy.fn B o5 Ga GM Gv GT d_);have Hb := Sx.df (B7 Sx.fn Gv GS d_);have Hl := Sw.df (B3 Sw.fn Gn Hn Gc Ho Gu Hb ů d_);have Lc := Sv.df (wR (P := l.prog) (w := w) (mg := mg) (base := base) Sv.fn ů);have Lb := Su.df (y6 (P := l.prog) (w := w) (mg := mg) (base := base) Su.fn Kn);have Lt := Ss.df (wk (P := l.prog) (w := w) (mg := mg) (base := base) Ss.fn);have Lw := Sr.df (Ce (P := l.prog) (w := w) (mg := mg) (base := base) T Sr.fn ġ Kn Ko);have Ld := Sq.df (zy (P := l.prog) (w := w) (mg := mg) (base := base) Sq.fn);have Li := So.df (z8 T So.fn Lw Ld ġ Τ ů);have Ll := Sn.df (Cq Sn.fn Lt ŷ);have Lm := Sl.df (Bg (P := l.prog) (w := w) (mg := mg) (base := base) Sl.fn ŧ);have Ln := Sk.df (BI (P := l.prog) (w := w) (mg := mg) (base := base) Sk.fn Τ);have Lo := Sj.df (Dm (P := l.prog) (w := w) (mg := mg) (base := base) Sj.fn ŷ d_);have Lg := Si.df (BL Si.fn Lo ŷ);have Lh := Sh.df (BN Sh.fn Lo ů ŧ d_);have Lv := Sg.df (Dd Sg.fn Lm Lh);have Lx := Sf.df (DF (P := l.prog) (w := w) (mg := mg) (base := base) Sf.fn ů Mx);have Mw := Se.df (Bv (P := l.prog) (w := w) (mg := mg) (base := base) Se.fn ů);have Mt := R_.df (BW T R_.fn Lv Lh Lm Hl Mw Li ġ Τ ů NH);have Mu := Sc.df (Bt Sc.fn Lt Jq ů);have Mg := Sd.df (Dv Sd.fn ⟨Lt, Ll, Lx, Lo, Lh, Lm, Hl, Li, d_⟩);have Z : vE K mg D Od Oe := ⟨T, rm Nb, rm Nc, mD, JZ X G a5, JZ X G a4, uX Nb Ur, uX Nc Pj, lb Nb, yE B Nc Nb aJ, lb Nc, l5 B Nb, l5 B Nc⟩;have La := Sb.df (Bh Z Sb.fn Hl Km ġ);have Lr := Sa.df (BD Sa.fn Lt La Τ ů Km);have Lq := R'.df (Ck R'.fn ⟨Lt, Ll, Ln, Lg, Gs, Mu, Mt, Hl, Lh, Lm, Lr, Jq, ŷ, ŧ, d_⟩);exact zE R9.fn Lq Lb Lc Mg ů ŷ NJ NI
theorem walk {l : OpenLaw} {q : Program} {loose : List Str} {XP : (Str -> Option Value) -> Heap -> Prop} {YP : World -> Heap -> Prop} {d : DefRec} {K : Params -> Frag} (hn : l.most = some 63) (N1 : d.params.defaults = [])
  (hY : ∀ (w : World) (h : Heap), YP w h -> (K w.params).In h)
  (F : ∀ (w : World) (mg : bu) (fa : Addr) (h : Heap), (K w.params).In h -> h.Ns mainGlobals mg -> mg d.name = some (.ref fa) ->
   ∃ fd : FuncData, (∀ (s : Shared) (u : Value), BindsTo s fd ⟨[u], []⟩ [("_law_script", u)]) /\ ∀ base : Heap, (K w.params).In base -> base.Ns mainGlobals mg -> az l.prog w (K w.params) mg base ar 10 fa fd ["_law_script"] (pL (K w.params))) :
  WalkO q loose XP YP l.row.toRowW d [] (λ f vs => PySem.call f vs) :=
 L2.Ke (n := 63) (k := 10) (x := "_law_script") (CX := λ _ => ar) (sp := λ w => pL (K w.params)) hn am N1 ⟨rfl, am, am, rfl⟩ hY F (λ _ _ a ns hl _ hS hz => ⟨a, ns, rfl, hS, hl, hz, λ _ => rfl⟩) λ _ _ _ _ _ z => z
end My
open PySem PySem.W PyProof.Rows
namespace PySem.W.Fast
def tw16728326519142546147:=()
def tw1594571422057677711:=()
def tw9823391785794821256:=()
def tw3360450273373805484:=()
def tw4458132742216067443:=()
def tw12793334758232330283:=()
def tw16291742194251834437:=()
def tw16455066298700881742:=()
def tw13877463227257028915:=()
def tw6718792074055892009:=()
def tw407272124638995236:=()
def tw10418689484147574621:=()
def tw18191853457607904926:=()
def tw11450070877738724012:=()
def tw1618462255331592511:=()
def tw6783164598781865167:=()
def tw11831786957155751447:=()
def tw1341141124928520055:=()
def tw16745656620685138120:=()
def tw196058030946207141:=()
def tw15324615159900272322:=()
def tw9086533416859768753:=()
def tw18122161376189205134:=()
def tw12848930413651751682:=()
def tw13528612109154254556:=()
def tw16808601927013646903:=()
def tw7472552211186296881:=()
def tw1301278582958549525:=()
def tw2031455796257265550:=()
def tw12292082743885482774:=()
def tw5745280023618033420:=()
def tw10088587461003465864:=()
def tw13396380692369178058:=()
def tw12204325435382637251:=()
def tw5654082195297098460:=()
def tw6230123177672951869:=()
def tw12707466382918704227:=()
def tw11232030488495492906:=()
def tw2969796086236378163:=()
def tw9744963139530940610:=()
def tw12405471127714221482:=()
def tw11123690365682572369:=()
def tw14687597392258551734:=()
def tw5566228946437571957:=()
def tw14462469109538944192:=()
def tw12913729936219396540:=()
def tw10341835143837409859:=()
def tw3258161935992980630:=()
def tw7377803866310348495:=()
def tw348653245611128009:=()
def tw5510387947169390066:=()
def tw9158891429635164334:=()
def tw7843614008750942249:=()
def tw7626603999618813193:=()
def tw6298159477866730575:=()
def tw18106043002195394586:=()
def tw8126516223282753306:=()
def tw16581514525662030735:=()
def tw18331084168053094946:=()
def tw8440543377254725972:=()
def tw15582239604285722282:=()
def tw3255738750519076837:=()
def tw17546119002746021967:=()
def tw17064633708163540360:=()
def tw4350789387101868807:=()
def tw4397646334078101251:=()
def tw9401180427641355860:=()
def tw9965260374257177456:=()
def tw18056288303627131458:=()
def tw16621818227081921749:=()
def tw4875953604284894932:=()
def tw11350288236211329549:=()
def tw11091863083184153347:=()
def tw4778331062217348538:=()
def tw17583606494716674373:=()
def tw6127382325952546868:=()
def tw1988944305628757725:=()
def tw13804697060065155930:=()
def tw8578115499994606068:=()
def tw556993671810461748:=()
def tw14666754701395141259:=()
def tw17706286191667402270:=()
def tw4784687537025981412:=()
def tw2453067375059611093:=()
def tw15549080037808991333:=()
def tw5188702045121900139:=()
def tw2056175124045488452:=()
def tw13801765627092907879:=()
def tw225240958627807280:=()
def tw7058506678241013290:=()
def tw12586205847822144732:=()
def tw8321225110908320905:=()
def tw10653429403070990161:=()
def tw12643355857344280969:=()
def tw12678660803605604611:=()
def tw9880312578656938479:=()
def tw6630576367390240194:=()
def tw11391925943801865775:=()
def tw5540194690987780758:=()
def tw6475445096381326620:=()
def tw7661019614628856635:=()
def tw14995632738617674594:=()
def tw14675365689550509940:=()
def tw9729570127481116710:=()
def tw14182923784780492032:=()
def tw3675966355599690573:=()
def tw12064827455765101066:=()
def tw17710186178972125963:=()
def tw9552177234488392144:=()
def tw1398151517506843742:=()
def tw11115264646357360367:=()
def tw12586597300986277103:=()
def tw16858143647191899889:=()
def tw11298936111226395291:=()
def tw15887508327303748302:=()
def tw10770115479183088670:=()
def tw15731665030821450616:=()
def tw13487257489641735741:=()
def tw16182584420342114880:=()
def tw12260608052342507473:=()
def tw16657838007853831385:=()
def tw12189901276751253625:=()
def tw2198823204291585755:=()
def tw18039237793327965848:=()
def tw2926827987890979174:=()
def tw1701897135365372666:=()
def tw16569047608850947486:=()
def tw16652300950135306088:=()
def tw13188854952159039074:=()
def tw4484285598208154410:=()
def tw17231083970393075553:=()
def tw5437472182485190825:=()
def tw2400396718709712715:=()
def tw18323242962918117148:=()
def tw11845235746132350330:=()
def tw5212400223643030556:=()
def tw5762988777581066069:=()
def tw1964047165260043525:=()
def tw12610387287219761436:=()
def tw12724072326328214098:=()
def tw2240712743759162963:=()
def tw4770051482666350846:=()
def tw4649201589405245586:=()
def tw6686478164278102987:=()
def tw2496963238570635878:=()
def tw15116227778848655651:=()
def tw17092748896465810069:=()
def tw6081894137587556243:=()
def tw11422957402287994080:=()
def tw965266150701101989:=()
def tw10026203968751731896:=()
def tw16772608891761795824:=()
def tw528518497052394137:=()
def tw3819346526824499541:=()
def tw12241978105441037893:=()
def tw9902215909068481423:=()
def tw5558857257975927326:=()
def tw10625276579974045112:=()
def tw13101484370896901357:=()
def tw225464875307229051:=()
def tw3395608710693462634:=()
def tw10515180645878827171:=()
def tw15792786373961281765:=()
end PySem.W.Fast
set_option maxRecDepth 100000 in
set_option maxHeartbeats 0 in
theorem PySem.Challenge.cw_trialdeal_k55_shares_of_a_listing_holds : PySem.Challenge.rw_trialdeal_k55_shares_of_a_listing.Holds := by
 w_on; o_law; k_head; (case hw => w_witness2)
 k_fill
 refine My.walk (l := PySem.Challenge.rw_trialdeal_k55_shares_of_a_listing) rfl rfl (λ w h Y => PySem.W.kIn_of Y) ?F
 case F =>
  intro w mg fa h KX G NV;refine' My.all_mk KX G NV (My.LC ?jaa ?jab ?jac ?jad ?jae ?jaf ?jag ?jah ?jai ?jaj ?jak ?jal) (My.Jt "NoNumber" ?jam ?jan ?jao ?jap ?jaq ?jar ?jas ?jat) (My.Jt "NoDealing" ?jau ?jav ?jaw ?jax ?jay ?jaz ?jaA ?jaB) (My.Jt "NoListing" ?jaC ?jaD ?jaE ?jaF ?jaG ?jaH ?jaI ?jaJ)
   ?jaK ?jaL ?jaM ?jaN ?jaO ?jaP ?jaQ ?jaR ?jaS ?jaT ?jaU ?jaV ?jaW ?jaX ?jaY ?jaZ ?ja0 ?ja1 ?ja2 ?ja3 ?ja4 ?ja5 ?ja6 ?ja7 ?ja8 ?ja9 ?jba ?jbb ?jbc ?jbd ?jbe ?jbf ?jbg ?jbh ?jbi ?jbj ?jbk ?jbl ?jbm ?jbn ?jbo ?jbp ?jbq ?jbr ?jbs ?jbt (My.ć My.Xc KX G ?jbu ?jbv ?jbw ?jbx) (My.ć My.Xb KX G ?jby ?jbz ?jbA ?jbB) (My.ć My.Xa KX G ?jbC ?jbD ?jbE ?jbF) (My.ć My.W_ KX G ?jbG ?jbH ?jbI ?jbJ) (My.ć My.W' KX G ?jbK ?jbL ?jbM ?jbN) (My.ć My.W9 KX G ?jbO ?jbP ?jbQ ?jbR) (My.ć My.W8 KX G ?jbS ?jbT ?jbU ?jbV) (My.ć My.W7 KX G ?jbW ?jbX ?jbY ?jbZ) (My.ć My.W6 KX G ?jb0 ?jb1 ?jb2 ?jb3) (My.ć My.W5 KX G ?jb4 ?jb5 ?jb6 ?jb7) (My.ć My.Q5 KX G ?jb8 ?jb9 ?jca ?jcb) (My.ć My.Q3 KX G ?jcc ?jcd ?jce ?jcf) (My.ć My.Q2 KX G ?jcg ?jch ?jci ?jcj) (My.ć My.Q1 KX G ?jck ?jcl ?jcm ?jcn) (My.ć My.Q0 KX G ?jco ?jcp ?jcq ?jcr) (My.ć My.QZ KX G ?jcs ?jct ?jcu ?jcv) (My.ć My.QY KX G ?jcw ?jcx ?jcy ?jcz) (My.ć My.QX KX G ?jcA ?jcB ?jcC ?jcD) (My.ć My.QW KX G ?jcE ?jcF ?jcG ?jcH) (My.ć My.QV KX G ?jcI ?jcJ ?jcK ?jcL) (My.ć My.QU KX G ?jcM ?jcN ?jcO ?jcP) (My.ć My.QT KX G ?jcQ ?jcR ?jcS ?jcT) (My.ć My.QS KX G ?jcU ?jcV ?jcW ?jcX) (My.ć My.QR KX G ?jcY ?jcZ ?jc0 ?jc1) (My.ć My.QQ KX G ?jc2 ?jc3 ?jc4 ?jc5) (My.ć My.QP KX G ?jc6 ?jc7 ?jc8 ?jc9) (My.ć My.QO KX G ?jda ?jdb ?jdc ?jdd) (My.ć My.QN KX G ?jde ?jdf ?jdg ?jdh) (My.ć My.QM KX G ?jdi ?jdj ?jdk ?jdl) (My.ć My.QL KX G ?jdm ?jdn ?jdo ?jdp) (My.ć My.QK KX G ?jdq ?jdr ?jds ?jdt) (My.ć My.QJ KX G ?jdu ?jdv ?jdw ?jdx) (My.ć My.QI KX G ?jdy ?jdz ?jdA ?jdB) (My.ć My.QH KX G ?jdC ?jdD ?jdE ?jdF) (My.ć My.QG KX G ?jdG ?jdH ?jdI ?jdJ) (My.ć My.QF KX G ?jdK ?jdL ?jdM ?jdN) (My.ć My.QE KX G ?jdO ?jdP ?jdQ ?jdR) (My.ć My.QD KX G ?jdS ?jdT ?jdU ?jdV) (My.ć My.QC KX G ?jdW ?jdX ?jdY ?jdZ) (My.ć My.QB KX G ?jd0 ?jd1 ?jd2 ?jd3) (My.ć My.QA KX G ?jd4 ?jd5 ?jd6 ?jd7) (My.ć My.Qz KX G ?jd8 ?jd9 ?jea ?jeb) (My.ć My.Qy KX G ?jec ?jed ?jee ?jef) (My.ć My.Qx KX G ?jeg ?jeh ?jei ?jej)
   (λ s v => .of_eq rfl)
  case jaK | jaL | jaM | jaN | jaa | jab => k_is
  (case jac => exact My.Jn rfl)
  (case jad => first | rfl | decide +kernel)
  case jae | jaf | jag | jah | jai | jaj | jak | jal | jam | jan | jao | jap | jaq | jar | jas | jat | jau | jav | jaw | jax | jay | jaz | jaA | jaB | jaC | jaD | jaE | jaF | jaG | jaH | jaI | jaJ | jaO | jaP | jaQ | jaR | jaS | jaT | jaU | jaV | jaW | jaX | jaY | jaZ | ja0 | ja1 | ja2 | ja3 | ja4 | ja5 | ja6 | ja7 | ja8 | ja9 | jba | jbb | jbc | jbd | jbe | jbf | jbg | jbh | jbi | jbj | jbk | jbl | jbm | jbn | jbo | jbp | jbq | jbr | jbs | jbt | jbu | jbv | jbw | jbx | jby | jbz | jbA | jbB | jbC | jbD | jbE | jbF | jbG | jbH | jbI | jbJ | jbK | jbL | jbM | jbN | jbO | jbP | jbQ | jbR | jbS | jbT | jbU | jbV | jbW | jbX | jbY | jbZ | jb0 | jb1 | jb2 | jb3 | jb4 | jb5 | jb6 | jb7 | jb8 | jb9 | jca | jcb | jcc | jcd | jce | jcf | jcg | jch | jci | jcj | jck | jcl | jcm | jcn | jco | jcp | jcq | jcr | jcs | jct | jcu | jcv | jcw | jcx | jcy | jcz | jcA | jcB | jcC | jcD | jcE | jcF | jcG | jcH | jcI | jcJ | jcK | jcL | jcM | jcN | jcO | jcP | jcQ | jcR | jcS | jcT | jcU | jcV | jcW | jcX | jcY | jcZ | jc0 | jc1 | jc2 | jc3 | jc4 | jc5 | jc6 | jc7 | jc8 | jc9 | jda | jdb | jdc | jdd | jde | jdf | jdg | jdh | jdi | jdj | jdk | jdl | jdm | jdn | jdo | jdp | jdq | jdr | jds | jdt | jdu | jdv | jdw | jdx | jdy | jdz | jdA | jdB | jdC | jdD | jdE | jdF | jdG | jdH | jdI | jdJ | jdK | jdL | jdM | jdN | jdO | jdP | jdQ | jdR | jdS | jdT | jdU | jdV | jdW | jdX | jdY | jdZ | jd0 | jd1 | jd2 | jd3 | jd4 | jd5 | jd6 | jd7 | jd8 | jd9 | jea | jeb | jec | jed | jee | jef | jeg | jeh | jei | jej => k_is
