import PyProof.Rows.All
import Wide.All
import OpenK.AllK
import Wide.FinOn
import Lean
import PyProof.EqAt
import PyProof.EqKinds
import PyProof.TupleCall
import PyProof.ExcClass2
import PyProof.InstStoreFacts
import PyProof.ExcArgs
import PyProof.ExcInit
import PyProof.ExcBaseAll.ValueError
import KE.KIsAll
import PyProof.RulesRaise
import PyProof.RulesAs
import PyProof.RaisesMany
import PyProof.NeKinds
import PyProof.EnumFor
import PyProof.EnumStmt
import PyProof.EnumMake
import PyProof.Rows.EnumRows
import PyProof.CompFree
import PyProof.CompUse
import PyProof.CompMap
import PyProof.DictCompW
import PyProof.Cells
import KE.KIntText
import PyProof.StrBlockG
import PyProof.StrBlockH
import PyProof.StrWalks
import PyProof.Rows.StrNews2
import PyProof.Rows.StrOr
import PyProof.Rows.Digits
import PyProof.StrBlockL
import PyProof.MeetsStr2
import KE.IntTextLaws
import PyProof.Rows.StrPartPair
import PyProof.StrLawsTight
import PyProof.StrLawsChain
import PyProof.Rows.StrIntSpec
import PyProof.Rows.StrItems
import PyProof.ReprRoads
import PyProof.ReprBulk
import PyProof.FitsInt
import PyProof.CallFns
import PyProof.Rows.FactsT3
import PyProof.ListRange
import PyProof.TupleOfSeq
import PyProof.TupleOfGen
import PyProof.ConsumeWalk
import PyProof.Rows.SeqGen
import KE.KUnpack
import PyProof.Draws
import PyProof.Rows.RuleB_bool
import PyProof.WalkInts
import PyProof.SeqI3
import KE.KRevSl
import KE.BitLaws
import PyProof.Rows.SumAny
import OpenK.KTop
import PyProof.Rows.FStr
import PyProof.DictItems
import PyProof.DictValues
import KE.KDictSum
import KE.KDictList
import PyProof.SumWalkG
import PyProof.Rows.SortWalk
import PyProof.Rows.SeqMore2
import PyProof.AttrMiss
import PyProof.IsiH_list
import KE.KDictOf
import KE.KEqDict
import PyProof.Rows.TupDisplay
import PyProof.Rows.Range3
import PySem.Challenge.RW_trialdeal_k75_whole_great_trials_counted
set_option compiler.extract_closed false
set_option bootstrap.genMatcherCode false
set_option genSizeOf false
local macro_rules|`($a\$b)=>`($a=some $b)
set_option autoImplicit true
set_option relaxedAutoImplicit true
set_option linter.all false
def À:=@PySem.wpAny_bind
def Á:=@PySem.wpAny_pure
def Â:=@Classical.byContradiction
def Ã:=@List.getElem?_eq_getElem
def Ä:=@PySem.Heap.get?_push_of_some
def Å:=@Nat.le_refl
def Æ:=@if_neg
def Ç:=@List.length_map
def È:=@Nat.le_trans
def É:=@List.map_cons
def Ê:=@decide_eq_true
def Ë:=@if_pos
def Ì:=@List.mem_cons_of_mem
def Í:=@List.mem_singleton
def Î:=@PyProof.Rows.wpS_bind
def Ï:=@List.mem_cons_self
def Ð:=@PySem.Heap.lt_size
def Ñ:=@PyProof.Rows.wpS_pure
def Ò:=@decide_eq_false
def Ó:=@PySem.Heap.get?_push_size
def Ô:=@List.getElem?_map
def Õ:=@List.length_append
def Ö:=@List.mem_cons
def Ø:=@List.map_append
def Ù:=@Bool.false_ne_true
def Ú:=@List.getElem?_eq_some_iff
def Û:=@Option.map_eq_some_iff
def Ü:=@Int.toNat_natCast
def Þ:=@of_decide_eq_true
def ß:=@List.mem_of_getElem?
def à:=@List.length_cons
def á:=@Option.some.inj
def â:=@Nat.pow_le_pow_right
def ã:=@List.mem_append_right
def ä:=@List.take_length
def å:=@Nat.lt_of_lt_of_le
def æ:=@Nat.ne_of_lt
def ç:=@Nat.gcd_dvd_right
def è:=@PySem.sizeLine_eq
def é:=@List.mem_append
def ê:=@PySem.Heap.get?_update_ne
def ë:=@List.mem_map
def ì:=@List.append_assoc
def í:=@Nat.gcd_dvd_left
def î:=@PySem.wpAny_newObj_type
def ï:=@List.nodup_cons
def ñ:=@Nat.lt_or_ge
def ò:=@PySem.PassesOwn.never
def ó:=@List.take_append_drop
def ô:=@PySem.mem_of_lookup
def õ:=@Nat.gcd_pos_of_pos_right
def ø:=@Nat.le_of_dvd
def ù:=@Array.getElem?_eq_some_iff
def ú:=@Nat.mul_div_cancel_left
def ü:=@beq_eq_false_iff_ne
def ý:=@congrArg
def þ:=@beq_iff_eq
def ÿ:=@PyProof.Rows.boot_isinstance
def ā:=@List.map_map
def ă:=@PyProof.Rows.boot_sum
def Ą:=@List.getElem?_append_right
def ą:=@List.getD_eq_getElem?_getD
def ć:=@PySem.Heap.get?_update_self
def Ĉ:=@PySem.wpAny_call_entry
def ĉ:=@List.getElem?_append_left
def Ċ:=@List.drop_eq_getElem_cons
def ċ:=@Nat.div_le_self
def Č:=@Nat.mul_div_cancel'
def č:=@Int.le_refl
def Đ:=@PyProof.Rows.wpS_forRange
def đ:=@List.pairwise_append
def ē:=@List.sum_append
def Ĕ:=@Int.natCast_mul
def ĕ:=@List.length_take
def Ė:=@PySem.Paired.length
def ė:=@PySem.F.slot_dict_valueiterator_next
def ę:=@List.size_toArray
def ě:=@PySem.boot_len
def Ĝ:=@PySem.F.slot_dict_itemiterator_next
def ĝ:=@List.sum_cons
def ğ:=@PySem.W.kia_one
def Ġ:=@PySem.wpAny_dictEntries
def ġ:=@decide_eq_true_iff
def Ģ:=@PySem.F.slot_dict_keyiterator_next
def Ĥ:=@PySem.wpAny_standAt
def ĥ:=@PySem.wpAny_holding
def Ħ:=@Nat.mul_pos
def ħ:=@List.mem_of_mem_take
def Ĩ:=@Nat.lt_irrefl
def Ī:=@PySem.wpAny_callSpecial?_slot
def ī:=@List.Perm.append_left
def ĭ:=@Nat.lt_of_le_of_lt
def Į:=@List.lookup_cons
def į:=@PySem.W.mg_none_of
def ı:=@Nat.pow_succ
def Ĳ:=@PySem.wpAny_mono
def ĳ:=@PySem.wpAny_dictEpoch
def Ĵ:=@Bool.and_eq_true
def ķ:=@Nat.mul_right_comm
def Ĺ:=@List.length_replicate
def ļ:=@List.length_nil
def Ľ:=@List.append_nil
def ľ:=@List.foldl_append
def Ŀ:=@Int.le_of_lt
def ŀ:=@Option.isSome_iff_exists
def Ł:=@Nat.mul_assoc
def ł:=@List.any_cons
def ń:=@List.map_congr_left
def Ņ:=@PySem.wpAny_truthy_bool
def ņ:=@Nat.gcd_pos_of_pos_left
def Ň:=@List.getElem_mem
def ň:=@PySem.wpAny_attempt
def Ŋ:=@Nat.div_one
def ŋ:=@Nat.zero_add
def Ō:=@Nat.le_of_eq
def ō:=@List.take_of_length_le
def Ŏ:=@List.contains_cons
def Ő:=@PySem.wpAny_typeNameOfWhole_itemiter
def ő:=@PySem.Heap.size_push
def ŕ:=@PyProof.Rows.boot_int
def Ŗ:=@List.perm_append_comm
def Ř:=@PySem.wpAny_typeNameOfWhole_valiter
def ř:=@PySem.wpAny_typeNameOfWhole_keyiter
def Ś:=@PyProof.Rows.callWith_type1
def Ŝ:=@PySem.wpAny_Call_Name_kw
def ŝ:=@PySem.Obj.data_mapFields
def š:=@PySem.wpAny_passesOwn
def Ţ:=@PySem.wpAny_ite_false
def ţ:=@PySem.F.slot_NoneType_hash
def Ť:=@Nat.zero_le
def ť:=@Nat.mul_one
def Ŧ:=@Nat.add_mul
def ŧ:=@List.mem_append_left
def ū:=@beq_self_eq_true
def Ŭ:=@Nat.gcd_comm
def ŭ:=@List.mem_flatMap
def Ů:=@List.filter_cons
def ů:=@List.pairwise_iff_getElem
def ű:=@List.mem_map_of_mem
def Ŵ:=@LawfulBEq.eq_of_beq
def Ŷ:=@PySem.wpAny_setField
def ŷ:=@PySem.wpAny_field
def Ÿ:=@PyProof.Rows.boot_sorted
def ź:=@Bool.eq_iff_iff
def ż:=@PySem.W.callWith_K
def Ž:=@PySem.Heap.size_update
def Β:=@PySem.Heap.SameBut.update
def Γ:=@Nat.mul_left_comm
def Δ:=@Nat.mul_le_mul
def Ε:=@List.mem_range
def Ζ:=@List.drop_drop
def Ι:=@PySem.wpAny_specialOf
def Κ:=@PySem.wpAny_setField_rec
def Λ:=@PySem.W.methodCall_KW
def Μ:=@Nat.mul_div_mul_right
def Ν:=@List.length_singleton
def Ξ:=@PySem.W.Looks.here
def Υ:=@PySem.wpAny_fieldsOf
def Φ:=@PySem.codeAny_mono
def Χ:=@Nat.one_dvd
def Ψ:=@Nat.div_le_div_right
def Ω:=@PySem.Heap.get?_push_at
def γ:=@PySem.Calls.callWith_builtin
def η:=@List.range_succ
def π:=@PySem.wpAny_isInstance
def ρ:=@Nat.mul_comm
def ς:=@Nat.dvd_refl
def τ:=@Nat.div_self
def υ:=@List.map_nil
def b_:=@Nat.eq_of_mul_eq_mul_right
def c_:=@Nat.coprime_iff_gcd_eq_one
def d_:=@List.filter_append
def e_:=@Int.fdiv_eq_ediv_of_nonneg
def f_:=@Int.emod_lt_of_pos
def j_:=@PyProof.Rows.wpS_mono
def n_:=@Array.getElem?_eq_getElem
def o_:=@Nat.le_succ_of_le
def p_:=@Nat.gcd_mul_right
def s_:=@PySem.F.type_list_append
def t_:=@PySem.F.slot_list_append
def w_:=@PySem.W.mg_of
def z_:=@PySem.wpAny_call
def A_:=@decide_eq_decide
def Bk:=@PySem.F.plainAttrs_list
def B':=@PySem.F.plainAttrs_dict
def B_:=@PyProof.Rows.boot_tuple
def C_:=@List.all_eq_true
def G_:=@PyProof.Rows.boot_list
def H_:=@Nat.not_lt
def I_:=@Nat.lt_trans
def Mv:=@Option.map_some
def Mw:=@Int.natCast_add
def Mx:=@PySem.F.slot_tuple_hash
def MB:=@PySem.F.slot_dict_get
def MG:=@PySem.F.args_dict_valueiterator_next_1
def MH:=@Nat.one_mul
def MI:=@Nat.le_succ
def MJ:=@List.mem_iff_getElem
def MK:=@Bool.false_and
def MZ:=@PyProof.Rows.wpS_modify
def M0:=@PySem.F.entry_dict_valueiterator_next
def M3:=@PySem.F.args_dict_itemiterator_next_1
def M8:=@PySem.wpAny_isOneOf_itemiter
def M9:=@PySem.codeAny_compStart_list
def M':=@PySem.call_meetsIn
def M_:=@PySem.W.plainGet_of
def Na:=@PySem.F.entry_dict_itemiterator_next
def Nb:=@PySem.F.args_dict_keyiterator_next_1
def Nc:=@List.getElem_of_mem
def Nd:=@List.filterMap_cons
def Nt:=@PySem.wpAny_execs_nil
def Nu:=@PySem.SeqAt.EqAt.same
def Nv:=@PySem.F.entry_dict_keyiterator_next
def Nw:=@List.take_add
def Nx:=@Bool.true_and
def NB:=@PyProof.Rows.wpS_get
def NC:=@PySem.wpAny_notOrdered_dict
def ND:=@PySem.wpAny_callSpecialIfBoundUnlessNone?_slot
def NE:=@Nat.eq_zero_or_pos
def NF:=@List.mem_filterMap
def N8:=@PySem.wpAny_noted
def N9:=@PySem.codeAny_call_builtin
def N':=@Nat.ne_of_gt
def N_:=@List.take_sublist
def Oa:=@List.reverse_perm
def Oc:=@List.flatMap_cons
def Od:=@Int.le_of_eq
def OC:=@PyProof.Rows.callWith_builtin1
def OD:=@Option.bind_some
def OE:=@Nat.dvd_mul_left
def OX:=@PySem.F.slot_dict_values_iter
def Pb:=@PySem.wpAny_tupleItemsOf
def Pc:=@PySem.wpAny_rule
def Pd:=@PySem.F.slot_dict_items_iter
def Pe:=@Nat.mul_dvd_mul
def Pf:=@List.of_mem_zip
def Pg:=@List.nil_append
def Ph:=@List.mem_filter
def Pi:=@PySem.Calls.spliced_cons
def Px:=@Nat.coprime_div_gcd_div_gcd
def Py:=@List.perm_append_comm_assoc
def PP:=@PySem.wpAny_pyIter_slot
def PQ:=@PySem.wpAny_loadPart_at
def PR:=@PySem.F.excBase_ValueError
def PU:=@PySem.F.excAttr_ValueError
def PV:=@Nat.mod_two_eq_zero_or_one
def PX:=@Nat.gcd_add_mul_left_right
def PY:=@PySem.Heap.get?_push_ne
def Qr:=@PySem.plainObj_wpAny_Assign_Attribute
def Qs:=@Nat.eq_of_mul_eq_mul_left
def QF:=@PySem.wpAny_forIn_list
def QG:=@PySem.W.looks_findIn
def QH:=@PySem.F.slot_dict_values
def QI:=@Nat.dvd_trans
def QJ:=@Nat.add_assoc
def QK:=@List.getElem?_take_of_lt
def QL:=@List.all_cons
def QM:=@Bool.false_or
def Q8:=@PySem.wpAny_of_eq
def Q9:=@PySem.F.slot_dict_items
def Q_:=@PySem.F.args_dict_get_3
def Ra:=@List.getElem?_replicate
def RB:=@PySem.wpAny_ret_mkInt
def RC:=@PySem.W.cellsFrom_some
def RD:=@PySem.F.slot_dict_iter
def RE:=@PySem.F.entry_dict_get
def RF:=@PyProof.noPylong_small
def RG:=@PyProof.Rows.boot_bool
def RH:=@PyProof.Rows.bitAnd_m1
def RI:=@Nat.sub_self
def RK:=@Nat.le_of_lt
def RL:=@List.range_succ_eq_map
def RM:=@List.getElem?_set_self
def RN:=@PySem.F.slot_tuple_eq
theorem aF {p:Prop}(h:p:=by decide +kernel):p:=h
theorem av {p:Prop}(h:p:=by decide):p:=h
theorem ad {p:Prop}(h:p:=by lia):p:=h
theorem er {n:Nat}(h:Nat.ble n 1000=true:=by exact rfl):n<=PySem.sizeLine:=È (Nat.le_of_ble_eq_true h) (by decide)
abbrev eZ:=PySem.Value->PySem.Shared->Prop
abbrev bD:=PySem.Str->Option PySem.Value
abbrev gR (l:List (PySem.Str × PySem.NameKind)):PySem.Scope:={ kind:=.function,names:=(".0",.local)::l,isGenerator:=false,isCoroutine:=false }
set_option Elab.async false
set_option maxRecDepth 100000
namespace L2
open PySem PySem.Spec PyProof.Rows
inductive Key where
 | inl (i:Int) | inr (x:Str) | Ę
 deriving DecidableEq
def kM:Key->Value->Bool
 | .inl k,v=>Value.isInt k v
 | .inr x,v=>Value.isStrOf x v
 | .Ę,v=>v == .none
def G1 (w:World):Key->Int
 | .inl k=>hashInt k
 | .inr x=>hashStr w x
 | .Ę=>0xFCA86420
theorem oF (h:Q 0xFCA86420 { s with toks:=s.toks+1 }):wpAny (model prog w) A (pyHash .none) Q E s:=by
 unfold pyHash;have hT:s.TypeIs .none "NoneType" := rfl;have hv:[Value.none].any Value.onHeap=false:=rfl;refine À ?_;rw[cRoomFor,Æ (by rw[hv];exact Ù)];refine Á ?_
 refine À (Ι hT ţ.lookup ?_);rw[Æ (by rw[beq_builtin_none];exact Ù)]
 refine À (Ι hT ţ.lookup ?_);refine À (ND hT ţ
  (Ĉ ţ hT PySem.F.entry_NoneType_hash
   (show wpAny _ _ (do ret (<- mkInt 0xFCA86420)) _ _ s from RB ?_) (PySem.F.args_NoneType_hash_1 _)))
 show wpAny _ _ (if(decide (-(2:Int)^63<=0xFCA86420)&&decide ((0xFCA86420:Int)<2^63))=true then _ else _) Q E _
 rw[Ë av];exact Á h
theorem aN:∀{k:Key}{v:Value},kM k v=true->(∃ i t,k=Key.inl i/\v=Value.int i t)\/(∃ x t,k=Key.inr x/\v=Value.str x t)\/(k=Key.Ę/\v=Value.none)
 | .inl i,v,h=>by
  obtain⟨t,e⟩:=Value.isInt_shape h;exact .inl ⟨i,t,rfl,e⟩
 | .inr x,v,h=>by
  obtain⟨t,e⟩:=Value.isStrOf_shape h;exact .inr (.inl ⟨x,t,rfl,e⟩)
 | .Ę,v,h=>.inr (.inr ⟨rfl,Ŵ h⟩)
theorem t4 (i:Int)(t:Tok):kM (.inl i) (.int i t)=true:=by simp[kM,Value.isInt]
theorem uz (x:Str)(t:Tok):kM (.inr x) (.str x t)=true:=by simp[kM,Value.isStrOf]
theorem BM (a b:Int):decide (Key.inl a=Key.inl b)=(a==b):=by
 by_cases e:a=b
 ·subst e;simp
 ·rw[Ò (λ q=>e (Key.inl.inj q))];exact(ü.mpr e).symm
theorem Ct (a b:Str):decide (Key.inr a=Key.inr b)=decide (a=b):=by
 by_cases e:a=b
 ·subst e;simp
 ·rw[Ò (λ q=>e (Key.inr.inj q)),Ò e]
theorem Bq (a:Int)(b:Str):decide (Key.inl a=Key.inr b)=false:=Ò (λ q=>nomatch q)
theorem DB (a:Str)(b:Int):decide (Key.inr a=Key.inl b)=false:=Ò (λ q=>nomatch q)
theorem E3 (a:Int):decide (Key.inl a=Key.Ę)=false:=Ò (λ q=>nomatch q)
theorem DI (a:Int):decide (Key.Ę = Key.inl a)=false:=Ò (λ q=>nomatch q)
theorem E6 (a:Str):decide (Key.inr a=Key.Ę)=false:=Ò (λ q=>nomatch q)
theorem Eh (a:Str):decide (Key.Ę = Key.inr a)=false:=Ò (λ q=>nomatch q)
def aQ (prog:Program)(w:World):PySem.KeyKind prog w Key where
 is:=kM
 hash:=G1 w
 inj:=λ v a b ha hb=>by
  rcases aN ha with⟨i,t,rfl,rfl⟩ | ⟨x,t,rfl,rfl⟩ | ⟨rfl,rfl⟩
  ·rcases aN hb with⟨j,u,rfl,e⟩ | ⟨y,u,rfl,e⟩ | ⟨rfl,e⟩
   ·injection e with e1 _;rw[e1]
   ·exact nomatch e
   ·exact nomatch e
  ·rcases aN hb with⟨j,u,rfl,e⟩ | ⟨y,u,rfl,e⟩ | ⟨rfl,e⟩
   ·exact nomatch e
   ·injection e with e1 _;rw[e1]
   ·exact nomatch e
  ·rcases aN hb with⟨j,u,rfl,e⟩ | ⟨y,u,rfl,e⟩ | ⟨rfl,e⟩
   ·exact nomatch e
   ·exact nomatch e
   ·rfl
 byValue:=λ k v h=>by
  rcases aN h with⟨i,t,rfl,rfl⟩ | ⟨x,t,rfl,rfl⟩ | ⟨rfl,rfl⟩ <;> rfl
 pyHash:=λ hv h=>by
  rcases aN hv with⟨i,t,rfl,rfl⟩ | ⟨x,t,rfl,rfl⟩ | ⟨rfl,rfl⟩
  ·exact wpAny_pyHash_int h
  ·exact wpAny_pyHash_str h
  ·exact oF h
 eqBool:=λ hu hv h=>by
  rcases aN hu with⟨i,t,rfl,rfl⟩ | ⟨x,t,rfl,rfl⟩ | ⟨rfl,rfl⟩
  ·rcases aN hv with⟨j,u,rfl,rfl⟩ | ⟨y,u,rfl,rfl⟩ | ⟨rfl,rfl⟩
   ·rw[BM] at h;exact wpAny_eqBool_int h
   ·rw[Bq] at h;exact SeqAt.EqAt.int_str i t y u _ _ _ _ h
   ·rw[E3] at h;exact SeqAt.EqAt.int_none i t _ _ _ _ h
  ·rcases aN hv with⟨j,u,rfl,rfl⟩ | ⟨y,u,rfl,rfl⟩ | ⟨rfl,rfl⟩
   ·rw[DB] at h;exact SeqAt.EqAt.str_int x t j u _ _ _ _ h
   ·rw[Ct] at h;exact wpAny_eqBool_str h
   ·rw[E6] at h;exact SeqAt.EqAt.str_none x t _ _ _ _ h
  ·rcases aN hv with⟨j,u,rfl,rfl⟩ | ⟨y,u,rfl,rfl⟩ | ⟨rfl,rfl⟩
   ·rw[DI] at h;exact SeqAt.EqAt.none_int j u _ _ _ _ h
   ·rw[Eh] at h;exact SeqAt.EqAt.none_str y u _ _ _ _ h
   ·exact Nu _ _ _ _ _ (by simpa using h)
 «strs» := λ k x t v h=>by
  rcases aN h with⟨i,u,rfl,e⟩ | ⟨y,u,rfl,e⟩ | ⟨rfl,e⟩
  ·exact nomatch e
  ·injection e with e1 _
   subst e1;cases v <;> rfl
  ·exact nomatch e
theorem rj (prog:Program)(w:World)(k:Key)(v:Value):(aQ prog w).is k v=kM k v:=rfl
theorem qk (prog:Program)(w:World)(i:Int)(t:Tok):(aQ prog w).is (.inl i) (.int i t)=true:=t4 i t
theorem pQ (prog:Program)(w:World)(x:Str)(t:Tok):(aQ prog w).is (.inr x) (.str x t)=true:=uz x t
inductive V where
 | Ę | bl (b:Bool) | int (i:Int) | str (x:Str) | Pt (b:Array UInt8) | QD (b:UInt64) | ref (a:Addr) | ty (n:String)
 deriving DecidableEq
def RelV:V->Value->Prop
 | .Ę,u=>u=Value.none
 | .bl b,u=>u=Value.bool b
 | .int i,u=>∃ t,u=Value.int i t
 | .str x,u=>∃ t,u=Value.str x t
 | .Pt b,u=>∃ t,u=Value.bytes b t
 | .QD b,u=>∃ t,u=Value.float b t
 | .ref a,u=>u=Value.ref a
 | .ty n,u=>u=Value.type n
abbrev Vals:List V->List Value->Prop:=Paired RelV
theorem Vals.length (r:Vals xs us):xs.length=us.length:=Ė r
theorem Vals.get:∀{xs:List V}{us:List Value}{i:Nat}{x:V},Vals xs us->xs[i]?\x->∃ u,us[i]?\u/\RelV x u
 | _,_,_,_,.nil,e=>by simp at e
 | _,_,0,_,.cons r _,e=>by simp at e;subst e;exact⟨_,rfl,r⟩
 | _,_,i+1,x,.cons _ t,e=>by
  obtain⟨u,h1,h2⟩:=Vals.get t (by simpa using e)
  exact⟨u,by simpa using h1,h2⟩
theorem Vals.append:∀{xs ys:List V}{us ws:List Value},Vals xs us->Vals ys ws->Vals (xs++ys) (us++ws)
 | _,_,_,_,.nil,s=>s
 | _,_,_,_,.cons r t,s=>.cons r (Vals.append t s)
def ψ:Option V->Option Value->Prop
 | some v,some u=>RelV v u
 | none,none=>True
 | _,_=>False
def KV {κ:Type}:List (κ × V)->List (κ × Value)->Prop:=Paired λ (p:κ × V)(q:κ × Value)=>p.1=q.1/\RelV p.2 q.2
def kV:Key->V
 | .inl i=>.int i
 | .inr x=>.str x
 | .Ę=>.Ę
theorem Paired.ON {α β:Type}{F G:α->β->Prop}:∀{Qd:List α}{Qc:List β},Paired F Qd Qc->(∀ a b,F a b->G a b)->Paired G Qd Qc
 | _,_,.nil,_=>.nil
 | _,_,.cons r t,f=>.cons (f _ _ r) (Paired.ON t f)
inductive NK where
 | k (x:Key) | t (ks:List Key)
 deriving DecidableEq
section
variable (P:Program)(w:World)(h:Heap)
def io:NK->Value->Prop
 | .k x,v=>(aQ P w).is x v=true
 | .t ks,v=>∃ a,v=.ref a/\IsTupleKey (aQ P w) h ks a
def BF:NK->Int
 | .k x=>G1 w x
 | .t ks=>tupleKeyHash (aQ P w) ks
def Jc:NK->Nat
 | .k _=>1
 | .t ks=>ks.length+1
def t3 (ks:List NK):Nat:=(ks.map Jc).sum
def Mo (ks:List NK)(a:Addr):Prop:=∃ o items n,h.get? a\o/\o.cls=.type "tuple" /\ o.data=.seq items n/\Paired (io P w h) ks items.toList
end
section
variable {P:Program}{w:World}{A:Around}{E:eZ}{s:Shared}{h:Heap}
theorem wr:¬ (aQ P w).is x (.ref b)=true:=λ e=>nomatch ((aQ P w).byValue _ _ e:carriedByValue (.ref b)=true)
theorem Ed:∀{x y:NK}{v:Value},io P w h x v->io P w h y v->x=y
 | .k a,.k b,v,h1,h2=>ý NK.k ((aQ P w).inj v a b h1 h2)
 | .k a,.t b,v,h1,⟨_,e,_⟩=>absurd h1 (by rw[e];exact wr)
 | .t a,.k b,v,⟨_,e,_⟩,h2=>absurd h2 (by rw[e];exact wr)
 | .t a,.t b,v,⟨c,e,h1⟩,⟨d,e2,h2⟩=>by
  rw[e] at e2;cases e2;rw[h1.inj h2]
theorem tR:∀{xs ys:List NK}{vs:List Value},Paired (io P w h) xs vs->Paired (io P w h) ys vs->xs=ys
 | _,_,_,.nil,h2=>by cases h2;rfl
 | _,_,_,.cons a r,h2=>by
  cases h2 with
  | cons b t=>rw[Ed a b,tR r t]
theorem Mo.inj (hx:Mo P w h x a)(hy:Mo P w h y a):x=y:=by
 obtain⟨o,i,n,h1,_,h3,h4⟩:=hx;obtain⟨o',i',n',k1,_,k3,k4⟩:=hy;rw[h1] at k1;cases k1;rw[h3] at k3;cases k3;exact tR h4 k4
theorem Mo.keeps {es ep}(x:Mo P w h ks a)(ho:h.get? d\o)(hd:o.data=.dict es ep)(hs:Heap.SameBut d h h'):Mo P w h' ks a:=by
 obtain⟨o',i,n,h1,h2,h3,h4⟩:=x;have ne:a≠d:=λ e=>by
  rw[e,ho] at h1;cases h1;rw[hd] at h3;cases h3
 refine⟨o',i,n,(hs.2 a ne).trans h1,h2,h3,Paired.ON h4 λ k v z=>?_⟩;cases k with
 | k x=>exact z
 | t xs =>
  obtain⟨b,e,q⟩:=z;exact⟨b,e,q.keeps ho hd hs⟩
theorem zm (hu:A.units<cLine)(hx:io P w s.heap x v)(q:Q (BF P w x) { s with toks:=s.toks+Jc x }):wpAny (model P w) A (pyHash v) Q E s:=by
 cases x with
 | k x=>exact(aQ P w).pyHash hx q
 | t ks =>
  obtain⟨a,rfl,hk⟩:=hx;exact wpAny_pyHash_tuple hu hk q
theorem wl (z:IsTupleKey (aQ P w) h ks b):∃ its,h.IsTuple b its:=by
 obtain⟨o,i,n,h1,h2,h3,_⟩:=z;exact⟨i,o,h1,h2,n,h3⟩
theorem Fx (hu:A.units<cLine)(hx:io P w s.heap x u)(hy:io P w s.heap y v)(q:Q (decide (x=y)) s):wpAny (model P w) A (eqBool u v) Q E s:=by
 cases x with
 | k x =>
  cases y with
  | k y =>
   refine(aQ P w).eqBool hx hy ?_;rw[show decide (x=y)=decide (NK.k x=NK.k y) from A_.mpr ⟨λ e=>by rw[e],λ e=>by cases e;rfl⟩]
   exact q
  | t ys =>
   obtain⟨b,rfl,z⟩:=hy;obtain⟨its,ht⟩:=wl z;rw[Ò (λ e=>nomatch e)] at q;rcases aN hx with⟨i,t,rfl,rfl⟩ | ⟨z,t,rfl,rfl⟩ | ⟨rfl,rfl⟩
   ·exact SeqAt.EqAt.int_tuple i t ht hu _ _ _ _ q
   ·exact SeqAt.EqAt.str_tuple z t ht hu _ _ _ _ q
   ·exact SeqAt.EqAt.none_tuple ht hu _ _ _ _ q
 | t xs =>
  obtain⟨a,rfl,z⟩:=hx;cases y with
  | k y =>
   obtain⟨its,ht⟩:=wl z;rw[Ò (λ e=>nomatch e)] at q;rcases aN hy with⟨i,t,rfl,rfl⟩ | ⟨z,t,rfl,rfl⟩ | ⟨rfl,rfl⟩
   ·exact SeqAt.EqAt.tuple_int i t ht hu _ _ _ _ q
   ·exact SeqAt.EqAt.tuple_str z t ht hu _ _ _ _ q
   ·exact SeqAt.EqAt.tuple_none ht hu _ _ _ _ q
  | t ys =>
   obtain⟨b,rfl,z2⟩:=hy;refine wpAny_eqBool_tuple hu z z2 ?_;rw[show decide (xs=ys)=decide (NK.t xs=NK.t ys) from A_.mpr ⟨λ e=>by rw[e],λ e=>by cases e;rfl⟩]
   exact q
theorem pC {ok:Value->Prop}(ho:s.heap.get? a\o)(hc:o.cls=.type "tuple") (hd:o.data=.seq its m) (hv:∀ v∈its.toList,ok v) (each:∀ v (R:Bool->Shared->Prop),ok v->R true s->wpAny (model P w) A (eqIsQuiet n v) R E s) (q:Q true s):wpAny (model P w) A (eqIsQuiet (n+1) (.ref a)) Q E s:=by
 have hT:s.TypeIs (.ref a) "tuple" :=⟨o,ho,hc⟩;unfold eqIsQuiet;refine À (Ι hT RN.lookup ?_);refine À (π hT isSubtype_tuple_tuple ?_);simp only[Bool.not_true,Bool.false_eq_true,if_false];refine À (wpAny_seqItems ho hd (À ?_));rw[<- Array.forIn_toList];refine QF _ (λ rest r s'=>r.1=none/\s'=s/\∀ v∈rest,ok v) _ ?_ ?_ _ _ ⟨rfl,rfl,hv⟩
 ·rintro v rest r s' ⟨hr,rfl,Ps⟩;refine À (each v _ (Ps v Ï) ?_);simp only[Bool.not_true,Bool.false_eq_true,if_false];exact Á ⟨rfl,rfl,λ u hu'=>Ps u (Ì _ hu')⟩
 ·rintro⟨r1,r2⟩ s' ⟨hr,rfl,_⟩;simp only at hr;subst hr;exact Á q
theorem vw (hx:io P w s.heap x v)(q:Q true s):wpAny (model P w) A (eqIsQuiet (n+1) v) Q E s:=by
 cases x with
 | k x =>
  rw[eqIsQuiet_byValue _ ((aQ P w).byValue _ _ hx)];exact Á q
 | t ks =>
  obtain⟨a,rfl,o,its,m,h1,h2,h3,h4⟩:=hx;refine pC h1 h2 h3 h4.byValue (λ v R c r=>?_) q;rw[eqIsQuiet_byValue _ c];exact Á r
theorem vl:∀{ks:List NK}{vs:List Value},Paired (io P w h) ks vs->∀ v∈vs,∃ k,io P w h k v
 | _,_,.nil,v,m=>nomatch m
 | _,_,.cons a t,v,m=>by
  rcases Ö.mp m with rfl | m
  ·exact⟨_,a⟩
  ·exact vl t v m
theorem uJ (hk:Mo P w s.heap ks a)(q:Q true s):wpAny (model P w) A (eqIsQuiet 8 (.ref a)) Q E s:=by
 obtain⟨o,its,m,h1,h2,h3,h4⟩:=hk;exact pC h1 h2 h3 (vl h4) (λ v R ⟨k,c⟩ r=>vw c r) q
def Cq (P:Program)(w:World)(ks:List NK):Int:=reduceHash (Builtin.Tuple.tupleHashOf (ks.map (BF P w)))
theorem wx (hu:A.units+1<cLine)(hk:Mo P w s.heap ks a)(q:Q (Cq P w ks) { s with toks:=s.toks+(t3 ks+1) }):wpAny (model P w) A (pyHash (.ref a)) Q E s:=by
 obtain⟨o,its,n,ho,hc,hd,hi⟩:=hk;have hT:s.TypeIs (.ref a) "tuple" :=⟨o,ho,hc⟩;unfold pyHash
 first | unfold pyHashByItsType | skip
 first | refine À (wpAny_cRoomFor_or (.inr ad) ?_) | skip
 refine À (Ι hT Mx.lookup ?_);rw[Æ (by rw[beq_builtin_none];exact Ù)]
 refine À (Ι hT Mx.lookup ?_);refine À (ND hT Mx (Ĉ Mx hT F.entry_tuple_hash ?_ (F.args_tuple_hash_1 _)));show wpAny _ _ (Builtin.Tuple.tupleItemsOf (.ref a)>>=_) _ _ s;refine À (Pb ho hd (À ?_));rw[<- Array.forIn_toList];refine QF _ (λ rest (b:Array Int) s'=>∃ done left,ks=done++left/\Paired (io P w s.heap) left rest/\b.toList=done.map (BF P w)/\s'={ s with toks:=s.toks+t3 done }) _ ?_ ?_ _ _ ⟨[],ks,rfl,hi,rfl,rfl⟩
 ·rintro x rest b s' ⟨done,left,rfl,hl,hb,rfl⟩;cases hl with
  | @cons k _ Xl _ h1 PD =>
   have e:t3 (done ++ [k])=t3 done+Jc k:=by simp[t3]
   refine À (zm hu h1 ?_)
   first
    | exact Á ⟨done ++ [k],Xl,by simp,PD,by simp[hb],by rw[e];simp[Nat.add_assoc]⟩
    | exact À (Á (Á ⟨done ++ [k],Xl,by simp,PD,by simp[hb],by rw[e];simp[Nat.add_assoc]⟩))
 ·rintro b s' ⟨done,left,rfl,hl,hb,rfl⟩;cases hl;rw[Ľ] at q;show wpAny _ _ (retInt (Builtin.Tuple.tupleHashOf b.toList)) _ _ _;rw[hb];refine RB ?_;show wpAny _ _ (if(decide (-(2:Int)^63<=Builtin.Tuple.tupleHashOf (done.map (BF P w)))&&decide (Builtin.Tuple.tupleHashOf (done.map (BF P w))<2^63))=true then _ else _) Q E _
  unfold Cq reduceHash at q;by_cases hr:(decide (-(2:Int)^63<=Builtin.Tuple.tupleHashOf (done.map (BF P w)))&&decide (Builtin.Tuple.tupleHashOf (done.map (BF P w))<2^63))=true
  ·rw[Ë hr];rw[Ë hr] at q;exact Á (by simpa[Nat.add_assoc] using q)
  ·rw[Æ hr];rw[Æ hr] at q;exact À (Pc (Á (by simpa[Nat.add_assoc] using q)))
theorem wX (hu:A.units<cLine)(hx:Mo P w s.heap x a)(hy:Mo P w s.heap y b)(q:R (.done (.ret (.bool (decide (x=y))))) s):wpAny (model P w) A (Builtin.«tuple.__eq__» ⟨[.ref a,.ref b],[]⟩) R E s:=by
 obtain⟨oa,xs,na,hoa,_,hda,hia⟩:=hx;obtain⟨ob,ys,nb,UB,hcb,No,hib⟩:=hy;show wpAny _ _ (isInstance (.ref b) (.type "tuple")>>=_) _ _ s;refine À (π ⟨ob,UB,hcb⟩ isSubtype_tuple_tuple ?_);simp only[Bool.not_true,Bool.false_eq_true,if_false];refine À (Pb hoa hda (À (Pb UB No (À ?_))));refine QF _ (λ rest r s'=>r.1=none/\s'=s/\∃ x' y' S1 δ,rest=List.zip S1 δ/\Paired (io P w s.heap) x' S1/\Paired (io P w s.heap) y' δ/\decide (x'=y')=decide (x=y)/\(S1.length == δ.length)=(xs.size==ys.size)) _ ?_ ?_ _ _ ⟨rfl,rfl,x,y,xs.toList,ys.toList,rfl,hia,hib,rfl,by simp⟩
 ·rintro⟨u,v⟩ rest r s' ⟨hr,rfl,x',y',S1,δ,hz,Po,Vh,QV,Ş⟩;cases Po with
  | nil=>simp at hz
  | @cons k1 u' ZN Vx h1 Wa =>
   cases Vh with
   | nil=>simp at hz
   | @cons k2 v' ZF Vv h2 V_ =>
    simp only[List.zip_cons_cons,List.cons.injEq,Prod.mk.injEq] at hz;obtain⟨⟨rfl,rfl⟩,rfl⟩:=hz;refine À (Fx hu h1 h2 ?_);by_cases hk:k1=k2
    ·subst hk;rw[Ê rfl];simp only[Bool.not_true,Bool.false_eq_true,if_false];refine Á ⟨rfl,rfl,ZN,ZF,Vx,Vv,rfl,Wa,V_,?_,by simpa using Ş⟩
     rw[<- QV];exact A_.mpr ⟨λ e=>by rw[e],λ e=>by injection e⟩
    ·rw[Ò hk];simp only[Bool.not_false,if_true];have hf:decide (x=y)=false:=by rw[<- QV];simp[hk]
     rw[hf] at q;exact À (Á (Á (Á q)))
 ·rintro⟨r1,r2⟩ s' ⟨hr,rfl,x',y',S1,δ,hz,Po,Vh,QV,Ş⟩;simp only at hr;subst hr;refine Á ?_;have fin:(xs.size==ys.size)=decide (x=y):=by
   rw[<- QV,<- Ş];cases Po with
   | nil =>
    cases Vh with
    | nil=>simp
    | cons _ _=>simp
   | cons _ _ =>
    cases Vh with
    | nil=>simp
    | cons _ _=>simp at hz
  show R (.done (.ret (.bool (xs.size==ys.size)))) s';rw[fin];exact q
theorem Cc (hu:A.units+1<cLine)(hx:Mo P w s.heap x a)(hy:Mo P w s.heap y b)(q:Q (decide (x=y)) s):wpAny (model P w) A (eqBool (.ref a) (.ref b)) Q E s:=by
 unfold eqBool
 try with_reducible refine ĥ ?_
 show wpAny _ _ (if(Value.ref a==Value.ref b)=true then _ else _) Q E s
 have tx:s.TypeIs (.ref a) "tuple" := let ⟨o,_,_,h1,h2,_⟩:=hx;⟨o,h1,h2⟩
 have ty:s.TypeIs (.ref b) "tuple" := let ⟨o,_,_,h1,h2,_⟩:=hy;⟨o,h1,h2⟩
 by_cases Sq:(Value.ref a == .ref b)=true
 ·rw[Ë Sq];have e:a=b:=by have:=Ŵ Sq;injection this
  subst e;obtain rfl:=hx.inj hy;exact À (Pc (Á (by simpa using q)))
 ·rw[Æ Sq];exact À (wpAny_richCompare_same_room tx ty RN
   (Ĉ RN tx F.entry_tuple_eq (wX hu hx hy ⟨_,rfl,(λ e=>nomatch e),Ņ q⟩) (F.args_tuple_eq_2 _ _)) ad)
def i9 (P:Program)(w:World):HeapKind P w (List NK) where
 is:=Mo P w
 hash:=Cq P w
 draws:=λ ks=>t3 ks+1
 room:=λ A=>A.units+1<cLine
 inj:=λ hx hy=>hx.inj hy
 keeps:=λ x ho hd hs=>x.keeps ho hd hs
 pyHash:=λ hu hk h=>wx hu hk h
 eqBool:=λ hu hx hy h=>Cc hu hx hy h
 quiet:=λ hk h=>uJ hk h
end
inductive HO where
 | lst (xs:List V)
 | tup (xs:List V)
 | dK (Ý:List (Key × V)) | dT (Ý:List (List NK × V))
 | set (S:Int->Bool) (n:Nat)
 | ins (C dx:Addr) (fs:List (Str × V))
 | own (x:Addr)
 | xd (fs:List (Str × V))
 | met (f x:Addr)
 | SK (lo hi:Int)
 | Η (o:Obj) (u:HO)
 | RV (ps:Array Value)
 | ext (φ:Heap->Prop)
abbrev Hp:=Addr->Option HO
def ak (H:Hp)(a:Addr)(o:HO):Hp:=λ b=>if b=a then some o else H b
theorem bz {H:Hp}:ak H a o a\o:=by unfold ak;rw[Ë rfl]
theorem ai (h:b≠a):ak H a o b=H b:=by unfold ak;rw[Æ h]
theorem iE:ak (ak H a o) a u=ak H a u:=by
 funext b;unfold ak;split <;> rfl
theorem AN {H:Hp}(h:H a\o)(h':H b\u)(d:o≠u):a≠b:=by
 intro e;subst e;rw[h] at h';exact d (á h')
theorem ap {H:Hp}(h:H a\o)(h':H b=none):a≠b:=by
 intro e;subst e;rw[h] at h';cases h'
def NV (H:Hp):NK->V->Prop
 | .k x,v=>v=kV x
 | .t ks,v=>∃ b,v=.ref b/\H b\.tup (ks.map kV)
def O_ (H:Hp)(ks:List NK)(b:Addr):Prop:=∃ vs,H b\.tup vs/\Paired (NV H) ks vs
theorem O_.keep (x:O_ H ks b)(ht:∀ b xs,H b\.tup xs->H' b\.tup xs):O_ H' ks b:=by
 obtain⟨vs,e,r⟩:=x;refine⟨vs,ht _ _ e,Paired.ON r λ k v z=>?_⟩;cases k with
 | k x=>exact z
 | t ks =>
  obtain⟨b,e,q⟩:=z;exact⟨b,e,ht _ _ q⟩
section
variable (P:Program)(w:World)
def Ē (H:Hp)(h:Heap)(a:Addr):HO->Prop
 | .lst xs=>xs.length<=sizeLine/\∃(its:List Value)(n:Nat),Vals xs its/\h.get? a=some { cls:=.type "list",data:=.seq its.toArray n }
 | .tup xs=>xs.length<=sizeLine/\∃ its:List Value,Vals xs its/\IsTup h a its.toArray
 | .dK Ý=>Ý.length<=sizeLine/\(a==sysModules)=false/\∃ vs,KV Ý vs/\h.DictOf (aQ P w) a vs
 | .dT Ý=>Ý.length<=sizeLine/\(a==sysModules)=false/\∃ xs:List (List NK × Addr × Value),
   Paired (λ (p:List NK × V)(q:List NK × Addr × Value)=>p.1=q.1/\O_ H p.1 q.2.1/\RelV p.2 q.2.2) Ý xs /\
   ∃ o es ep,h.get? a\o/\o.ExactDict/\o.data=.dict es ep/\es.toList=xs.map (entryOfKey (i9 P w))/\(xs.map (·.1)).Nodup
 | .set S n=>h.SetOf (intKind P w) a S n
 | .ins C dx fs=>H dx\.own a/\fs.length<=1000/\dx≠a/\h.get? a\PySem.W.instObj C dx /\
   ∃ mA,h.Ns1 dx mA/\(∀ f,ψ (fs.lookup f) (mA f))/\PySem.Within mA (fs.map (·.1))
 | .own _=>∃ o,h.get? a\o
 | .xd fs=>∃ mA,h.Ns1 a mA/\∀ f,ψ (fs.lookup f) (mA f)
 | .SK lo hi=>∃ t u v,h.get? a=some { cls:=.type "range",data:=.fields #[.int lo t,.int hi u,.int 1 v] }
 | .Η o u=>h.get? a\o/\Ē H h a u
 | .RV ps=>h.get? a=some { cls:=.none,data:=.fields ps }
 | .met f x=>h.get? a\PySem.W.methodObj (.ref f) (.ref x)
 | .ext φ=>φ h/\(∃ o,h.get? a\o)/\∀ h1 h2:Heap,φ h1->(∀ o,h1.get? a\o->h2.get? a\o)->φ h2
def ω (H:Hp)(h:Heap):Prop:=∀ a o,H a\o->Ē P w H h a o
end
section
variable {P:Program}{w:World}{H H':Hp}{h h':Heap}{a:Addr}{o:HO}
theorem Ē.lt (x:Ē P w H h a o):a<h.objs.size:=by
 cases o with
 | lst xs=>obtain⟨_,_,_,_,e⟩:=x;exact Ð e
 | tup xs=>obtain⟨_,_,_,p⟩:=x;exact p.lt
 | dK Ý=>obtain⟨_,_,_,_,o,_,_,e,_⟩:=x;exact Ð e
 | dT Ý=>obtain⟨_,_,_,_,o,_,_,e,_⟩:=x;exact Ð e
 | set S n=>obtain⟨o,_,_,_,e,_⟩:=x;exact Ð e
 | ins C dx fs=>obtain⟨_,_,_,e,_⟩:=x;exact Ð e
 | own y=>obtain⟨_,e⟩:=x;exact Ð e
 | xd fs=>obtain⟨_,⟨_,_,_,e,_⟩,_⟩:=x;exact Ð e
 | SK lo hi=>obtain⟨_,_,_,e⟩:=x;exact Ð e
 | Η ob u=>obtain⟨e,_⟩:=x;exact Ð e
 | RV ps=>exact Ð (show h.get? a\_ from x)
 | met f y=>exact Ð (show h.get? a\_ from x)
 | ext φ=>obtain⟨_,⟨_,e⟩,_⟩:=x;exact Ð e
theorem Paired.imp' {α β:Type}{F G:α->β->Prop}(f:∀ a b,F a b->G a b){Qd:List α}{Qc:List β}(r:Paired F Qd Qc):Paired G Qd Qc:=Paired.ON r f
theorem Ē.NN (x:Ē P w H h a o)(k:∀ b u,(b=a\/H b\.own a)->h.get? b\u->h'.get? b\u)
  (ho:∀ b,H b\.own a->H' b\.own a) (ht:∀ b xs,H b\.tup xs->H' b\.tup xs):Ē P w H' h' a o:=by
 induction o with
 | lst xs=>obtain⟨z,its,n,r,e⟩:=x;exact⟨z,its,n,r,k _ _ (.inl rfl) e⟩
 | tup xs=>obtain⟨z,its,r,ob,e,c⟩:=x;exact⟨z,its,r,ob,k _ _ (.inl rfl) e,c⟩
 | dK Ý=>obtain⟨z,y,vs,r,ob,es,ep,e,c⟩:=x;exact⟨z,y,vs,r,ob,es,ep,k _ _ (.inl rfl) e,c⟩
 | dT Ý =>
  obtain⟨z,y,xs,r,ob,es,ep,e,c⟩:=x;exact⟨z,y,xs,Paired.ON r λ p q z=>⟨z.1,z.2.1.keep ht,z.2.2⟩,ob,es,ep,k _ _ (.inl rfl) e,c⟩
 | set S n=>obtain⟨ob,es,ep,t,e,c⟩:=x;exact⟨ob,es,ep,t,k _ _ (.inl rfl) e,c⟩
 | ins C dx fs =>
  obtain⟨d,z,ne,e,mA,⟨od,es,ep,e2,c⟩,r⟩:=x;exact⟨ho _ d,z,ne,k _ _ (.inl rfl) e,mA,⟨od,es,ep,k _ _ (.inr d) e2,c⟩,r⟩
 | own y=>obtain⟨ob,e⟩:=x;exact⟨ob,k _ _ (.inl rfl) e⟩
 | xd fs=>obtain⟨mA,⟨od,es,ep,e,c⟩,r⟩:=x;exact⟨mA,⟨od,es,ep,k _ _ (.inl rfl) e,c⟩,r⟩
 | SK lo hi=>obtain⟨t,u,v,e⟩:=x;exact⟨t,u,v,k _ _ (.inl rfl) e⟩
 | Η ob u ih=>obtain⟨e,q⟩:=x;exact⟨k _ _ (.inl rfl) e,ih q⟩
 | RV ps =>
  have e:=x;exact k a _ (.inl rfl) e
 | met f y =>
  have e:=x;exact k a _ (.inl rfl) e
 | ext φ=>obtain⟨p,⟨o,e⟩,st⟩:=x;exact⟨st _ _ p λ o q=>k _ _ (.inl rfl) q,⟨o,k _ _ (.inl rfl) e⟩,st⟩
theorem ω.lt (x:ω P w H h)(e:H a\o):a<h.objs.size:=(x a o e).lt
theorem ω.fresh (x:ω P w H h)(e:h.objs.size<=a):H a=none:=by
 cases q:H a with
 | none=>rfl
 | some u=>exact absurd (å (x.lt q) e) (Ĩ _)
theorem ω.kept (x:ω P w H h)(k:∀ b u,h.get? b\u->h'.get? b\u):ω P w H h':=λ a o e =>
 (x a o e).NN (λ b u _ q=>k b u q) (λ _ q=>q) λ _ _ q=>q
theorem ω.laid (x:ω P w H h)(k:∀ b u,h.get? b\u->h'.get? b\u)(hp:h.objs.size<=a)(new:Ē P w (ak H a o) h' a o):ω P w (ak H a o) h':=λ b u e=>by
 have hn:=x.fresh hp;by_cases hb:b=a
 ·subst hb;rw[bz] at e;cases e;exact new
 ·rw[ai hb] at e;exact(x b u e).NN (λ c v _ q=>k c v q) (λ c q=>by rw[ai (ap q hn)];exact q) λ c xs q=>by rw[ai (ap q hn)];exact q
end
def Rd (H:Hp)(a:Addr)(u:HO):Prop:=H a\u\/∃ o,H a\.Η o u
theorem Rd.ok (r:Rd H a u)(x:ω P w H h):Ē P w H h a u:=by
 rcases r with r | ⟨o,r⟩
 ·exact x a u r
 ·obtain⟨_,q⟩:=x a _ r;exact q
def Fg:Option HO->Prop
 | some (.lst _)=>True
 | some (.dK _)=>True
 | some (.dT _)=>True
 | some (.set _ _)=>True
 | some (.ins _ _ _)=>True
 | some (.ext _)=>True
 | _=>False
section
variable {P:Program}{w:World}{H:Hp}{h h':Heap}{x e:Addr}{o':HO}
theorem ω.write (ok:ω P w H h)(mu:Fg (H x))(he:e=x\/H e\.own x)(k:∀ b u,b≠e->h.get? b\u->h'.get? b\u)(SV:∃ u,h'.get? e\u)
  (new:Ē P w (ak H x o') h' x o'):ω P w (ak H x o') h':=λ b u q=>by
 have Ua:∀ c y,H c\.own y->c≠x:=λ c y r z=>by subst z;rw[r] at mu;exact mu
 have VI:∀ c xs,H c\.tup xs->c≠x:=λ c xs r z=>by subst z;rw[r] at mu;exact mu
 by_cases hb:b=x
 ·subst hb;rw[bz] at q;cases q;exact new
 ·rw[ai hb] at q;by_cases Sk:b=e
  ·have q':H b\.own x:=by
    rcases he with z | z
    ·exact absurd (Sk.trans z) hb
    ·rw[Sk];exact z
   rw[q] at q';cases q';obtain⟨v,hv⟩:=SV;exact⟨v,by rw[Sk];exact hv⟩
  ·refine(ok b u q).NN (λ c v hc r=>k c v ?_ r) (λ c r=>by rw[ai (Ua c b r)];exact r) λ c xs r=>by rw[ai (VI c xs r)];exact r
   rcases hc with rfl | hc
   ·exact Sk
   ·rintro rfl;rcases he with z | z
    ·exact Ua c b hc z
    ·rw[hc] at z;cases z;exact hb rfl
end
structure Un (fs ex:List Addr)(H H':Hp)(h h':Heap):Prop where
 keep:∀ b o,h.get? b\o->H b=none->b ∉ fs->b ∉ ex->h'.get? b\o
 slot:∀ b o,h.get? b\o->H b=none->b∈fs->b ∉ ex->∃ sl,h'.get? b=some { o with slots:=sl }
 free:∀ b o,h.get? b\o->H b=none->b ∉ ex->H' b=none
 there:∀ b o,h.get? b\o->b ∉ ex->∃ o',h'.get? b\o'
 NG:∀ b xs,H b\.tup xs->H' b\.tup xs
 Nq:∀ b o u,H b\.Η o u->H' b\.Η o u
 NH:∀ b ps,H b\.RV ps->∃ more,H' b\.RV (ps++more)
 sys:H sysModules=none->H' sysModules=none
section
variable {fs fs' ex ex':List Addr}{H H1 H2:Hp}{h h1 h2 h':Heap}{a x e:Addr}{o:HO}
theorem Un.any (u:Un fs ex H H1 h h1)(q:h.get? b\ob)(n:H b=none)(hx:b ∉ ex):∃ sl,h1.get? b=some { ob with slots:=sl }:=by
 by_cases hb:b∈fs
 ·exact u.slot b ob q n hb hx
 ·exact⟨ob.slots,u.keep b ob q n hb hx⟩
theorem Un.kept (k:∀ b u,h.get? b\u->h'.get? b\u):Un fs ex H H h h' :=
 ⟨λ b ob q _ _ _=>k b ob q,λ b ob q _ _ _=>⟨ob.slots,k b ob q⟩,λ _ _ _ n _=>n,λ b ob q _=>⟨ob,k b ob q⟩,λ _ _ q=>q,λ _ _ _ q=>q,λ _ ps q=>⟨#[],by rw[q];simp⟩,λ q=>q⟩
theorem Un.refl:Un fs ex H H h h:=Un.kept λ _ _ q=>q
theorem Un.laid (k:∀ b u,h.get? b\u->h'.get? b\u)(hp:h.objs.size<=a)(hn:H a=none)(hz:sysModules<h.objs.size):Un fs ex H (ak H a o) h h' where
 sys:=λ q=>by rw[ai (æ (å hz hp))];exact q
 keep:=λ b u q _ _ _=>k b u q
 slot:=λ b u q _ _ _=>⟨u.slots,k b u q⟩
 free:=λ b u q n _=>by rw[ai (æ (å (Ð q) hp))];exact n
 there:=λ b u q _=>⟨u,k b u q⟩
 NG:=λ b xs q=>by rw[ai (ap q hn)];exact q
 Nq:=λ b u xs q=>by rw[ai (ap q hn)];exact q
 NH:=λ b ps q=>⟨#[],by rw[ai (ap q hn),q];simp⟩
theorem Un.write (mu:Fg (H x))(he:e=x\/H e\.own x)(k:∀ b u,b≠e->h.get? b\u->h'.get? b\u)(SV:∃ u,h'.get? e\u):Un fs ex H (ak H x o) h h':=by
 have hx:∀ b,H b=none->b≠x:=λ b n z=>by subst z;rw[n] at mu;exact mu
 have hb:∀ b,H b=none->b≠e:=λ b n z=>by
  subst z;rcases he with r | r
  ·exact hx b n r
  ·rw[n] at r;cases r
 have hm:∀ b u,H b\u->¬ Fg (some u)->b≠x:=λ b u q nm z=>by subst z;rw[q] at mu;exact nm mu
 refine⟨λ b u q n _ _=>k b u (hb b n) q,λ b u q n _ _=>⟨u.slots,k b u (hb b n) q⟩,λ b u q n _=>by rw[ai (hx b n)];exact n,λ b u q _=>?_,
  λ b xs q=>by rw[ai (hm b _ q λ z=>z)];exact q,λ b u xs q=>by rw[ai (hm b _ q λ z=>z)];exact q,λ b ps q=>⟨#[],by rw[ai (hm b _ q λ z=>z),q];simp⟩,λ q=>by rw[ai (hx _ q)];exact q⟩
 by_cases Sk:b=e
 ·subst Sk;exact SV
 ·exact⟨u,k b u Sk q⟩
end
def Ih (h:Heap)(H:Hp):List Addr:=(List.range h.objs.size).filter λ a=>(H a).isSome
def pD (h:Heap)(H:Hp):Heap:=PySem.W.hideAll h (Ih h H)
theorem uc (h:Heap)(H:Hp):(pD h H).objs.size=h.objs.size:=PySem.W.hideAll_size _ _
theorem wb (e:h.get? b\o)(n:H b=none):(pD h H).get? b=some o :=
 PySem.W.hideAll_get _ e λ hm=>by
  have q:=(Ph.mp hm).2;rw[n] at q;simp at q
theorem yM (e:(pD h H).get? b\o):h.get? b\o/\H b=none:=by
 have e':=PySem.W.of_hideAll (Ih h H) e;refine⟨e',?_⟩;cases q:H b with
 | none=>rfl
 | some x =>
  have hm:b∈Ih h H:=Ph.mpr ⟨Ε.mpr (Ð e'),by simp[q]⟩
  have z:(pD h H).get? b=none:=PySem.W.hideAll_none (Ih h H) hm;rw[z] at e;cases e
def sI (g h:Heap)(L:Addr):List (Addr × Obj):=(List.range h.objs.size).filterMap λ a=>if a=L\/(g.get? a).isSome=true then none else(h.get? a).map λ o=>(a,o)
theorem oq {g h:Heap}{L a:Addr}{o:Obj}(h1:a≠L)(h2:g.get? a=none)(h3:h.get? a\o):(a,o)∈sI g h L :=
 NF.mpr ⟨a,Ε.mpr (Ð h3),by simp[h1,h2,h3]⟩
def rest (g h:Heap)(L d:Addr):List (Addr × Obj):=(sI g h L).filter λ p=>decide (p.1≠d)
theorem qb {g h:Heap}{L d a:Addr}{o:Obj}(h1:a≠L)(h2:g.get? a=none)(h3:h.get? a\o)(h4:a≠d):(a,o)∈rest g h L d :=
 Ph.mpr ⟨oq h1 h2 h3,Ê h4⟩
structure Mod (K:PySem.W.Frag)(mg:bD)(base:Heap):Prop where
 R9:K.In base
 glob:base.Ns mainGlobals mg
 blt:∃ mb,base.Ns builtinsNs mb/\∀ x:Str,x ≠ "__name__" -> mb x=bootBuiltins x
 nolimit:base.NoLimit
structure Cx where
 prog:Program
 w:World
 K:PySem.W.Frag
 mg:Str->Option Value
 base:Heap
 A:Around
 N:List Str
 Ų:Shared
 Qq:Hp
 env:Env
 outer:List Env
 stack:List Env
 ex:List Addr
 fn:Str->Bool
 calm:Bool
 pn:List (Addr × Obj)
 xe:Value->Shared->Prop
def n6 (l:List Env):List Addr:=l.filterMap (·.frame)
abbrev Cx.fs (X:Cx):List Addr:=n6 X.outer
def GH (sc:Scope)(x:Str):Prop:=sc.names.lookup x\.local\/sc.names.lookup x\.cell\/sc.names.lookup x\.free
def EF (sc:Scope)(x:Str):Prop:=sc.names.lookup x\.local\/sc.names.lookup x\.cell
def IV (env:Env)(h:Heap)(m:bD)(x:Str)(u:Value):Prop :=
 (env.kindOf x\.local/\m x\u)\/((env.kindOf x\.cell\/env.kindOf x\.free)/\∃ c,env.cells.lookup x\c/\h.IsCell c (some u))
structure Cx.Ok (X:Cx):Prop where
 mod:Mod X.K X.mg X.base
 kind:X.env.scope.kind=.function
 glob:X.env.globals=mainGlobals
 blt:X.env.builtins=builtinsNs
 above:X.Ų.heap.objs.size<=X.env.locals
 inj:∀ x y c,X.env.cells.lookup x\c->X.env.cells.lookup y\c->x=y
 has:∀ x,(X.env.kindOf x\.cell\/X.env.kindOf x\.free)->∃ c,X.env.cells.lookup x\c
 UR:∀ x c,X.fn x=true->X.env.cells.lookup x\c->X.Ų.heap.objs.size<=c
 hd:X.calm=true->X.A.handled=none
 frames:X.A.frames\X.stack
 U5:X.stack=X.outer\/(X.stack=X.env::X.outer/\X.env.frame\X.env.locals)
 XI:∀ b∈X.ex,b≠X.env.locals/\∀ x c,X.env.cells.lookup x\c->c≠b
 bs:∀ b o,X.base.get? b\o->X.Ų.heap.get? b\o/\X.Qq b=none
 Q3:X.base.objs.size<=X.Ų.heap.objs.size
 P9:∀ b o,X.base.get? b\o->b ∉ X.ex
 Q2:∀ b∈X.ex,b ∉ X.fs
 MD:X.Ų.heap.FunFrames X.base X.outer
 Sr:∀ b∈X.fs,X.Qq b=none
structure Inv (X:Cx)(pins:List (Addr × Obj))(σ:List (Option V))(H:Hp)(s:Shared):Prop where
 ok:X.Ok
 os:s.os=X.Ų.os
 bare:AllBare s.gens
 base:Un X.fs X.ex X.Qq H X.Ų.heap s.heap
 loc:∃ m,s.heap.Ns X.env.locals m/\∀(i:Nat)(x:Str)(v:V),X.N[i]?\x->σ[i]?\some v->GH X.env.scope x->∃ u,RelV v u/\IV X.env s.heap m x u
 cell:∀ x c,X.env.cells.lookup x\c->∃ v,s.heap.IsCell c v
 free:H X.env.locals=none
 r_:∀ x c,X.env.cells.lookup x\c->H c=none
 pin:∀ p∈X.pn++pins,s.heap.get? p.1\p.2/\H p.1=none/\p.1≠X.env.locals/\p.1 ∉ X.fs/\∀ v,p.2.data ≠ .cell v
 Ě:ω X.prog X.w H s.heap
 len:σ.length=X.N.length
section
variable {X:Cx}{pins:List (Addr × Obj)}{σ:List (Option V)}{H H':Hp}{s:Shared}{h':Heap}
theorem Cx.Ok.VM (ok:X.Ok)(e:X.base.get? b\o):b ∉ X.fs:=λ hb=>by
 have:=(ok.MD.mem hb).1;rw[e] at this;cases this
theorem Inv.bs (I:Inv X pins σ H s):∀ b o,X.base.get? b\o->s.heap.get? b\o/\H b=none:=λ b o e =>
 ⟨I.base.keep b o (I.ok.bs b o e).1 (I.ok.bs b o e).2 (I.ok.VM e) (I.ok.P9 b o e),I.base.free b o (I.ok.bs b o e).1 (I.ok.bs b o e).2 (I.ok.P9 b o e)⟩
theorem Inv.bk (I:Inv X pins σ H s):∀ b o,X.base.get? b\o->s.heap.get? b\o:=λ b o e=>(I.bs b o e).1
theorem Inv.mod (I:Inv X pins σ H s):Mod X.K X.mg X.base:=I.ok.mod
theorem Inv.Τ (I:Inv X pins σ H s):X.K.In s.heap:=I.ok.mod.R9.keeps I.bk
theorem Inv.lt (I:Inv X pins σ H s):X.env.locals<s.heap.objs.size:=let ⟨_,hn,_⟩:=I.loc;hn.lt
theorem Inv.sz (I:Inv X pins σ H s):X.Ų.heap.objs.size<=s.heap.objs.size:=È I.ok.above (RK I.lt)
theorem Inv.VL (I:Inv X pins σ H s)(h:s.heap.objs.size<=a):a ∉ X.fs:=λ hb=>by
 obtain⟨_,o,ho,_⟩:=I.ok.MD.mem hb;exact absurd (å (Ð ho) (È I.sz h)) (Ĩ _)
theorem Inv.Sw (I:Inv X pins σ H s):∀ x c,X.env.cells.lookup x\c->c≠X.env.locals:=λ x c e z=>by
 obtain⟨v,o,ho,hd⟩:=I.cell x c e;obtain⟨m,⟨o',es,ep,Sf,OB,_⟩,_⟩:=I.loc;rw[z,Sf] at ho;cases ho;rw[OB] at hd;cases hd
theorem Inv.MD (I:Inv X pins σ H s):s.heap.FunFrames X.base X.outer:=by
 have all:∀(l:List Env),(∀ b∈n6 l,b∈X.fs)->X.Ų.heap.FunFrames X.base l->s.heap.FunFrames X.base l:=by
  intro l
  induction l with
  | nil=>intro _ _;trivial
  | cons env r ih =>
   intro hs hl;obtain⟨hk,⟨L,o,hf,hn,ho,hd⟩,hr⟩:=hl;have hL:=hs L (by unfold n6;rw[Nd,hf];exact Ï)
   obtain⟨sl,e⟩:=I.base.slot L o ho (I.ok.Sr L hL) hL λ z=>I.ok.Q2 L z hL;exact⟨hk,⟨L,_,hf,hn,e,hd⟩,ih (λ b hb=>hs b (by unfold n6;rw[Nd,hf];exact Ì _ hb)) hr⟩
 exact all X.outer (λ _ hb=>hb) I.ok.MD
theorem Inv.stack (I:Inv X pins σ H s):s.heap.FunFrames X.base X.stack:=by
 rcases I.ok.U5 with e | ⟨e,hf⟩
 ·rw[e];exact I.MD
 ·rw[e];obtain⟨m,hn,_⟩:=I.loc;refine .cons (by rw[I.ok.kind];decide) hf hn ?_ I.MD
  exact Heap.get?_none_of_le (È I.ok.Q3 I.ok.above)
theorem Inv.MO (I:Inv X pins σ H s):∀ b∈n6 X.stack,b∈X.env.locals::X.fs:=λ b hb=>by
 rcases I.ok.U5 with e | ⟨e,hf⟩
 ·rw[e] at hb;exact Ì _ hb
 ·rw[e] at hb;unfold n6 at hb;rw[Nd,hf] at hb;exact hb
theorem Inv.NM (I:Inv X pins σ H s):∀ b∈n6 X.stack,H b=none:=λ b hb=>by
 rcases Ö.mp (I.MO b hb) with e | hb
 ·rw[e];exact I.free
 ·obtain⟨_,o,ho,_⟩:=I.ok.MD.mem hb;exact I.base.free b o ho (I.ok.Sr b hb) λ z=>I.ok.Q2 b z hb
theorem Inv.step {ch:List Addr}(I:Inv X pins σ H s)
  (QB:∀ b∈ch,(b∈X.ex\/X.Ų.heap.objs.size<=b)/\b≠X.env.locals/\(∀ x c,X.env.cells.lookup x\c->c≠b)/\∀ p∈X.pn++pins,p.1≠b)
  (keep:∀ b o,b≠X.env.locals->b ∉ X.fs->b ∉ ch->s.heap.get? b\o->H b=none->h'.get? b\o)
  (slot:∀ b o,b≠X.env.locals->b∈X.fs->b ∉ ch->s.heap.get? b\o->H b=none->∃ sl,h'.get? b=some { o with slots:=sl }) (free:∀ b o,b ∉ ch->s.heap.get? b\o->H b=none->H' b=none)
  (there:∀ b o,b ∉ ch->s.heap.get? b\o->∃ o',h'.get? b\o')
  (NG:∀ b xs,H b\.tup xs->H' b\.tup xs) (Nq:∀ b o u,H b\.Η o u->H' b\.Η o u) (NH:∀ b ps,H b\.RV ps->∃ more,H' b\.RV (ps++more)) (sys:H sysModules=none->H' sysModules=none)
  (ns:∀ m,s.heap.Ns X.env.locals m->h'.Ns X.env.locals m) (Ě:ω X.prog X.w H' h') (hg:AllBare g') :
  Inv X pins σ H' { s with heap:=h',gens:=g',drawn:=d',toks:=t' }:=by
 have Vb:∀ b o,X.Ų.heap.get? b\o->b≠X.env.locals:=λ b o e=>æ (å (Ð e) I.ok.above);have Vc:∀ b o,X.Ų.heap.get? b\o->b ∉ X.ex->b ∉ ch:=λ b o e hx hb=>by
  rcases(QB b hb).1 with z | z
  ·exact hx z
  ·exact absurd (å (Ð e) z) (Ĩ _)
 have cellK:∀ x c,X.env.cells.lookup x\c->∀ v,s.heap.IsCell c v->h'.IsCell c v:=λ x c e v ⟨o,ho,hd⟩=>by
  have Uf:=λ z=>(QB c z).2.2.1 x c e rfl;by_cases hc:c∈X.fs
  ·obtain⟨sl,q⟩:=slot c o (I.Sw x c e) hc Uf ho (I.r_ x c e);exact⟨_,q,hd⟩
  ·exact⟨o,keep c o (I.Sw x c e) hc Uf ho (I.r_ x c e),hd⟩
 refine⟨I.ok,I.os,hg,⟨λ b o e n hb hx=>?_,λ b o e n hb hx=>?_,λ b o e n hx=>?_,λ b o e hx=>?_,λ b xs e=>NG b xs (I.base.NG b xs e),λ b o xs e=>Nq b o xs (I.base.Nq b o xs e),λ b ps e=>?_,λ q=>sys (I.base.sys q)⟩,?_,λ x c e=>?_,?_,λ x c e=>?_,λ p hp=>?_,Ě,I.len⟩
 ·exact keep b o (Vb b o e) hb (Vc b o e hx) (I.base.keep b o e n hb hx) (I.base.free b o e n hx)
 ·obtain⟨sl,e1⟩:=I.base.slot b o e n hb hx;obtain⟨Tb,e2⟩:=slot b _ (Vb b o e) hb (Vc b o e hx) e1 (I.base.free b o e n hx);exact⟨Tb,e2⟩
 ·obtain⟨o',e1⟩:=I.base.there b o e hx;exact free b o' (Vc b o e hx) e1 (I.base.free b o e n hx)
 ·obtain⟨o',e1⟩:=I.base.there b o e hx;exact there b o' (Vc b o e hx) e1
 ·obtain⟨m1,e1⟩:=I.base.NH b ps e;obtain⟨m2,e2⟩:=NH b _ e1;exact⟨m1++m2,by rw[e2,Array.append_assoc]⟩
 ·obtain⟨m,hn,hl⟩:=I.loc;refine⟨m,ns m hn,λ i x v e1 e2 e3=>?_⟩;obtain⟨u,r,l⟩:=hl i x v e1 e2 e3;refine⟨u,r,?_⟩;rcases l with l | ⟨k,c,e,z⟩
  ·exact .inl l
  ·exact .inr ⟨k,c,e,cellK x c e _ z⟩
 ·obtain⟨v,z⟩:=I.cell x c e;exact⟨v,cellK x c e v z⟩
 ·obtain⟨m,⟨o,_,_,ho,_⟩,_⟩:=I.loc;exact free _ o (λ z=>(QB _ z).2.1 rfl) ho I.free
 ·obtain⟨v,o,ho,hd⟩:=I.cell x c e;exact free c o (λ z=>(QB c z).2.2.1 x c e rfl) ho (I.r_ x c e)
 ·obtain⟨e,n,ne,nf,d⟩:=I.pin p hp;have Uf:=λ z=>(QB p.1 z).2.2.2 p hp rfl;exact⟨keep p.1 p.2 ne nf Uf e n,free p.1 p.2 Uf e n,ne,nf,d⟩
theorem Inv.un (I:Inv X pins σ H s)(u:Un X.fs [] H H' s.heap h')(Ě:ω X.prog X.w H' h'):Inv X pins σ H' { s with heap:=h',toks:=t' }:=by
 obtain⟨m,⟨o,es,ep,ho,r⟩,_⟩:=id I.loc;obtain⟨sl,hL⟩:=u.any ho I.free (by simp)
 exact I.step (ch:=[]) (λ _ z=>nomatch z) (λ b o _ hb _ e n=>u.keep b o e n hb (by simp)) (λ b o _ hb _ e n=>u.slot b o e n hb (by simp)) (λ b o _ e n=>u.free b o e n (by simp)) (λ b o _ e=>u.there b o e (by simp)) u.NG u.Nq u.NH u.sys (λ m' hm=>by
  obtain⟨o',Vs,Vt,Sf,r'⟩:=hm;rw[ho] at Sf;cases Sf;exact⟨_,Vs,Vt,hL,r'⟩) Ě I.bare
theorem Inv.call (I:Inv X pins σ H s)(u:Un (n6 X.stack) ch H H' s.heap h')(Ě:ω X.prog X.w H' h')(hg:AllBare g')
  (QB:∀ b∈ch,(b∈X.ex\/X.Ų.heap.objs.size<=b)/\b≠X.env.locals/\(∀ x c,X.env.cells.lookup x\c->c≠b)/\∀ p∈X.pn++pins,p.1≠b) :
  Inv X pins σ H' { s with heap:=h',gens:=g',drawn:=d',toks:=t' }:=by
 obtain⟨m,⟨o,es,ep,ho,r⟩,_⟩:=id I.loc;obtain⟨sl,hL⟩:=u.any ho I.free λ z=>(QB _ z).2.1 rfl;exact I.step QB (λ b o hL hb hc e n=>u.keep b o e n (λ z=>(Ö.mp (I.MO b z)).elim hL hb) hc) (λ b o _ _ hc e n=>u.any e n hc) (λ b o hc e n=>u.free b o e n hc) (λ b o hc e=>u.there b o e hc) u.NG u.Nq u.NH u.sys (λ m' hm=>by
  obtain⟨o',Vs,Vt,Sf,r'⟩:=hm;rw[ho] at Sf;cases Sf;exact⟨_,Vs,Vt,hL,r'⟩) Ě hg
theorem Inv.turned (I:Inv X pins σ H s)(k:∀ b o,b≠it->s.heap.get? b\o->h'.get? b\o)(hn:H it=none)(hL:it≠X.env.locals)
  (h1:it∈X.ex\/X.Ų.heap.objs.size<=it) (h2:∀ x c,X.env.cells.lookup x\c->c≠it) (h3:∀ p∈X.pn++pins,p.1≠it):Inv X pins σ H { s with heap:=h',toks:=t' }:=by
 have Xd:∀ b u,H b\u->b≠it:=λ b u e z=>by rw[z,hn] at e;cases e
 refine I.step (g':=s.gens) (ch:=[it]) (λ b hb=>?_) (λ b o _ _ hc e _=>k b o (λ z=>hc (by simp[z])) e) (λ b o _ _ hc e _=>⟨o.slots,k b o (λ z=>hc (by simp[z])) e⟩) (λ _ _ _ _ n=>n)
  (λ b o hc e=>⟨o,k b o (λ z=>hc (by simp[z])) e⟩) (λ _ _ e=>e) (λ _ _ _ e=>e) (λ b ps e=>⟨#[],by rw[e];simp⟩) (λ q=>q) (λ m hm=>?_) (λ b u e=>?_) I.bare
 ·have e:b=it:=by simpa using hb
  subst e;exact⟨h1,hL,h2,h3⟩
 ·obtain⟨o,es,ep,ho,r⟩:=hm;exact⟨o,es,ep,k _ o (Ne.symm hL) ho,r⟩
 ·refine(I.Ě b u e).NN (λ c v hc q=>k c v ?_ q) (λ _ q=>q) λ _ _ q=>q;rcases hc with z | z
  ·rw[z];exact Xd b u e
  ·exact Xd c _ z
theorem Inv.tok (I:Inv X pins σ H s)(t:Nat):Inv X pins σ H { s with toks:=t }:=I.un Un.refl I.Ě
theorem Inv.kept (I:Inv X pins σ H s)(k:∀ b u,s.heap.get? b\u->h'.get? b\u):Inv X pins σ H { s with heap:=h',toks:=t' }:=I.un (Un.kept k) (I.Ě.kept k)
theorem Inv.laid (I:Inv X pins σ H s)(k:∀ b u,s.heap.get? b\u->h'.get? b\u)(hp:s.heap.objs.size<=a)(new:Ē X.prog X.w (ak H a o) h' a o) :
  Inv X pins σ (ak H a o) { s with heap:=h',toks:=t' }:=I.un (Un.laid k hp (I.Ě.fresh hp) (I_ (by decide:sysModules<mainGlobals) (I.mod.glob.keeps I.bk).lt)) (I.Ě.laid k hp new)
theorem Inv.write (I:Inv X pins σ H s)(mu:Fg (H x))(he:e=x\/H e\.own x)(k:∀ b u,b≠e->s.heap.get? b\u->h'.get? b\u)(SV:∃ u,h'.get? e\u)
  (new:Ē X.prog X.w (ak H x o) h' x o):Inv X pins σ (ak H x o) { s with heap:=h',toks:=t' }:=I.un (Un.write mu he k SV) (I.Ě.write mu he k SV new)
theorem Inv.O3 (I:Inv X pins σ H s)(h:∀ p∈TY,s.heap.get? p.1\p.2/\H p.1=none/\p.1≠X.env.locals/\p.1 ∉ X.fs/\∀ v,p.2.data ≠ .cell v):Inv X TY σ H s :=
 ⟨I.ok,I.os,I.bare,I.base,I.loc,I.cell,I.free,I.r_,λ p hp=>(é.mp hp).elim (λ z=>I.pin p (ŧ _ z)) (h p),I.Ě,I.len⟩
theorem oN {N:List Str}(hN:N.Nodup){i j:Nat}(a:N[i]?\x)(b:N[j]?\x):i=j:=by
 obtain⟨h1,e1⟩:=Ú.mp a;obtain⟨h2,e2⟩:=Ú.mp b;exact(List.getElem_inj hN).mp (e1.trans e2.symm)
theorem l9 (I:Inv X pins σ H s)(hN:X.N.Nodup)(hi:X.N[i]?\x)(hx:EF X.env.scope x)(r:RelV v u)
  (h:∀ s',Inv X pins (σ.set i (some v)) H s'->(∃ a,Heap.SameBut a s.heap s'.heap/\(a=X.env.locals\/X.env.cells.lookup x\a))->Q () s') (hf:X.fn x=true\/X.env.scope.names.lookup x\.local:=by first | exact .inl rfl | exact .inr rfl | assumption):wpAny M A (storeName X.env x u) Q E s:=by
 obtain⟨m,hn,hl⟩:=id I.loc;have WC:(X.env.scope.kind == .class||(X.env.scope.kind == .module&&X.env.locals != X.env.globals))=false:=by rw[I.ok.kind];rfl
 have UF:i < σ.length:=by rw[I.len];exact(Ú.mp hi).1
 have Sw:=I.Sw;have tracked:∀{a:Addr}{h':Heap},(∃ o,s.heap.get? a\o/\H a=none)->Heap.SameBut a s.heap h'->ω X.prog X.w H h':=λ {a h'} ha hs b ob e=>by
  obtain⟨_,_,Rp⟩:=ha;refine(I.Ě b ob e).NN (λ c w' hc q=>(hs.2 c ?_).trans q) (λ _ q=>q) λ _ _ q=>q;rintro rfl;rcases hc with rfl | hc
  ·rw[Rp] at e;cases e
  ·rw[Rp] at hc;cases hc
 rcases hx with hk | hk
 ·refine wpAny_storeName_local hk hn (λ h' SS hs=>?_) WC;obtain⟨oL,_,_,hoL,_⟩:=id hn;refine h _ ⟨I.ok,I.os,I.bare,⟨λ b o e n hb hx=>?_,λ b o e n hb hx=>?_,I.base.free,λ b o e hx=>?_,I.base.NG,I.base.Nq,I.base.NH,I.base.sys⟩,⟨_,SS,λ j y v' e1 e2 e3=>?_⟩,λ y c e=>?_,I.free,I.r_,λ p hp=>?_,tracked ⟨oL,hoL,I.free⟩ hs,by simpa using I.len⟩ ⟨_,hs,.inl rfl⟩
  ·exact(hs.2 b (æ (å (Ð e) I.ok.above))).trans (I.base.keep b o e n hb hx)
  ·obtain⟨sl,e1⟩:=I.base.slot b o e n hb hx;exact⟨sl,(hs.2 b (æ (å (Ð e) I.ok.above))).trans e1⟩
  ·obtain⟨o',e1⟩:=I.base.there b o e hx;exact⟨o',(hs.2 b (æ (å (Ð e) I.ok.above))).trans e1⟩
  ·by_cases hj:j=i
   ·subst hj;rw[hi] at e1;cases e1;rw[RM UF] at e2;cases e2;exact⟨u,r,.inl ⟨hk,by simp⟩⟩
   ·rw[List.getElem?_set_ne (Ne.symm hj)] at e2;obtain⟨u',r',q⟩:=hl j y v' e1 e2 e3;refine⟨u',r',?_⟩;rcases q with⟨k,e⟩ | ⟨k,c,e,z⟩
    ·refine .inl ⟨k,?_⟩;have:y≠x:=λ e=>hj (oN hN e1 (e ▸ hi));simp[this,e]
    ·exact .inr ⟨k,c,e,z.sameBut hs (Sw y c e)⟩
  ·obtain⟨w',z⟩:=I.cell y c e;exact⟨w',z.sameBut hs (Sw y c e)⟩
  ·obtain⟨e,n,ne,nf,d⟩:=I.pin p hp;exact⟨(hs.2 p.1 ne).trans e,n,ne,nf,d⟩
 ·have Wx:X.fn x=true:=by
   rcases hf with z | z
   ·exact z
   ·rw[z] at hk;cases hk
  obtain⟨c,hc⟩:=I.ok.has x (.inl hk);obtain⟨w',z⟩:=I.cell x c hc;refine wpAny_storeName_cell I.ok.kind hk hc z (λ h' Rr hs=>?_);obtain⟨oc,Xt,Wq⟩:=id z;refine h { s with heap:=h' } ⟨I.ok,I.os,I.bare,⟨λ b o e n hb hx=>?_,λ b o e n hb hx=>?_,I.base.free,λ b o e hx=>?_,I.base.NG,I.base.Nq,I.base.NH,I.base.sys⟩,⟨m,hn.sameBut hs (Ne.symm (Sw x c hc)),λ j y v' e1 e2 e3=>?_⟩,λ y c' e=>?_,I.free,I.r_,λ p hp=>?_,tracked ⟨oc,Xt,I.r_ x c hc⟩ hs,by simpa using I.len⟩ ⟨c,hs,.inr hc⟩
  ·exact(hs.2 b (æ (å (Ð e) (I.ok.UR x c Wx hc)))).trans (I.base.keep b o e n hb hx)
  ·obtain⟨sl,e1⟩:=I.base.slot b o e n hb hx;exact⟨sl,(hs.2 b (æ (å (Ð e) (I.ok.UR x c Wx hc)))).trans e1⟩
  ·obtain⟨o',e1⟩:=I.base.there b o e hx;exact⟨o',(hs.2 b (æ (å (Ð e) (I.ok.UR x c Wx hc)))).trans e1⟩
  ·by_cases hj:j=i
   ·subst hj;rw[hi] at e1;cases e1;rw[RM UF] at e2;cases e2;exact⟨u,r,.inr ⟨.inl hk,c,hc,Rr⟩⟩
   ·rw[List.getElem?_set_ne (Ne.symm hj)] at e2;obtain⟨u',r',q⟩:=hl j y v' e1 e2 e3;refine⟨u',r',?_⟩;rcases q with q | ⟨k,c',e,z'⟩
    ·exact .inl q
    ·refine .inr ⟨k,c',e,z'.sameBut hs ?_⟩;rintro rfl;exact hj (oN hN e1 (I.ok.inj _ _ _ e hc ▸ hi))
  ·by_cases Xy:c'=c
   ·subst Xy;exact⟨_,Rr⟩
   ·obtain⟨w2,z2⟩:=I.cell y c' e;exact⟨w2,z2.sameBut hs Xy⟩
  ·obtain⟨e,n,ne,nf,d⟩:=I.pin p hp;refine⟨(hs.2 p.1 ?_).trans e,n,ne,nf,d⟩;intro q;rw[q,Xt] at e;have q':=á e;exact d w' (by rw[<- q'];exact Wq)
theorem iC (I:Inv X pins σ H s)(hN:X.N.Nodup)(hi:X.N[i]?\x)(hx:EF X.env.scope x)(r:RelV v u)
  (h:∀ s',Inv X pins (σ.set i (some v)) H s'->Q () s') (hf:X.fn x=true\/X.env.scope.names.lookup x\.local:=by first | exact .inl rfl | exact .inr rfl | assumption):wpAny M A (storeName X.env x u) Q E s :=
 l9 I hN hi hx r (λ s' I' _=>h s' I') hf
theorem Inv.Rx (I:Inv X pins σ H s)(ho:s'.os=s.os)(u:Un (n6 X.stack) ch H H' s.heap s'.heap)(Ě:ω X.prog X.w H' s'.heap)(hg:AllBare s'.gens)
  (QB:∀ b∈ch,(b∈X.ex\/X.Ų.heap.objs.size<=b)/\b≠X.env.locals/\(∀ x c,X.env.cells.lookup x\c->c≠b)/\∀ p∈X.pn++pins,p.1≠b):Inv X pins σ H' s':=by
 obtain⟨h',g',d',t',o'⟩:=s';have e:=ho;subst e;exact I.call u Ě hg QB
end
abbrev XK:=Value->Option Addr->Hp->Prop
abbrev St:=List (Option V)
abbrev VK:=V->Hp->Prop
abbrev TE:=St->Hp->VK->Prop
abbrev TT:=St->Hp->(Bool->Hp->Prop)->Prop
abbrev TA:=St->Hp->(List V->Hp->Prop)->Prop
structure bH where
 nx:St->Hp->Prop
 rt:VK
 bk:St->Hp->Prop:=λ _ _=>False
 ct:St->Hp->Prop:=λ _ _=>False
abbrev TS:=bH->St->Hp->Prop
def EP (X:Cx)(pins:List (Addr × Obj))(σ:St)(Q:VK)(u:Value)(s':Shared):Prop:=∃ v H',Inv X pins σ H' s'/\RelV v u/\Q v H'
def TP (X:Cx)(pins:List (Addr × Obj))(σ:St)(Q:Bool->Hp->Prop)(b:Bool)(s':Shared):Prop:=∃ H',Inv X pins σ H' s'/\Q b H'
def AP (X:Cx)(pins:List (Addr × Obj))(σ:St)(Q:List V->Hp->Prop)(us:List Value)(s':Shared):Prop:=∃ vs H',Inv X pins σ H' s'/\Vals vs us/\Q vs H'
def SP (X:Cx)(pins:List (Addr × Obj))(D:bH)(f:Flow)(s':Shared):Prop :=
 match f with
 | .next=>∃ ĺ H',Inv X pins ĺ H' s'/\D.nx ĺ H'
 | .brk=>∃ ĺ H',Inv X pins ĺ H' s'/\D.bk ĺ H'
 | .cont=>∃ ĺ H',Inv X pins ĺ H' s'/\D.ct ĺ H'
 | .ret u=>∃ v ĺ H',Inv X pins ĺ H' s'/\RelV v u/\D.rt v H'
def PE (X:Cx)(e:Expr)(t:TE):Prop :=
 ∀(pins:List (Addr × Obj))(s:Shared)(σ:St)(H:Hp)(Q:VK),Inv X pins σ H s->t σ H Q->wpAny (model X.prog X.w) X.A (eval e X.env) (EP X pins σ Q) X.xe s
def PT (X:Cx)(e:Expr)(t:TT):Prop :=
 ∀(pins:List (Addr × Obj))(s:Shared)(σ:St)(H:Hp)(Q:Bool->Hp->Prop),Inv X pins σ H s->t σ H Q->wpAny (model X.prog X.w) X.A (isTrue e X.env (eval e X.env)) (TP X pins σ Q) X.xe s
def PW (X:Cx)(e:Expr)(t:TT):Prop :=
 ∀(whole:Sem Value)(pins:List (Addr × Obj))(s:Shared)(σ:St)(H:Hp)(Q:Bool->Hp->Prop),Inv X pins σ H s->t σ H Q->wpAny (model X.prog X.w) X.A (isTrue e X.env whole) (TP X pins σ Q) X.xe s
theorem PW.pt (h:PW X e t):PT X e t:=h _
def PA (X:Cx)(es:List Expr)(t:TA):Prop :=
 ∀(pos:Pos)(pins:List (Addr × Obj))(s:Shared)(σ:St)(H:Hp)(Q:List V->Hp->Prop),Inv X pins σ H s->t σ H Q->wpAny (model X.prog X.w) X.A (spliced (backTo pos (starEach es X.env))) (AP X pins σ Q) X.xe s
def PS (X:Cx)(st:Stmt)(t:TS):Prop :=
 ∀(pins:List (Addr × Obj))(s:Shared)(σ:St)(H:Hp)(D:bH),Inv X pins σ H s->t D σ H->wpAny (model X.prog X.w) X.A (exec st X.env) (SP X pins D) X.xe s
def ο (X:Cx)(st:List Stmt)(t:TS):Prop :=
 ∀(pins:List (Addr × Obj))(s:Shared)(σ:St)(H:Hp)(D:bH),Inv X pins σ H s->t D σ H->wpAny (model X.prog X.w) X.A (execs st X.env) (SP X pins D) X.xe s
theorem bj {t:Sem α}(h:wpAny M A t Q E s)(hQ:∀ a s,Q a s->Q' a s):wpAny M A t Q' E s:=Ĳ h hQ λ _ _ x=>x
section
variable {X:Cx}
def af (i:Nat):TE:=λ σ H Q=>∃ v,σ[i]?\some v/\Q v H
def tC (v:V):TE:=λ _ H Q=>Q v H
theorem B6 (hN:X.N[i]?\x)(hv:GH X.env.scope x)(hd:(x==("__debug__" : Str))=false:=by decide) (Ov:(x==("__classdict__" : Str))=false:=by decide):PE X (.Name x pos) (af i):=by
 intro pins s σ H Q I h;obtain⟨v,e,h⟩:=h;obtain⟨m,hn,hl⟩:=I.loc;obtain⟨u,r,l⟩:=hl i x v hN e hv;have fin:EP X pins σ Q u s:=⟨v,H,I,r,h⟩;rcases l with⟨hk,hm⟩ | ⟨hk,c,hc,MU⟩
 ·exact wpAny_Name (wpAny_loadName_local I.ok.kind hk hn hm fin) hd
 ·rcases hk with hk | hk
  ·exact wpAny_Name (wpAny_loadName_cell I.ok.kind hk hc MU fin) hd
  ·exact wpAny_Name (wpAny_loadName_free I.ok.kind hk hc MU fin Ov) hd
theorem aB {i j pos}:PE X (.Constant (.int i) j pos) (tC (.int i)):=λ _ _ _ H _ I h=>wpAny_Constant_int ⟨.int i,H,I.tok _,⟨_,rfl⟩,h⟩
theorem yu {b j pos}:PE X (.Constant (.bool b) j pos) (tC (.bl b)):=λ _ _ _ H _ I h=>Constant_bool ⟨.bl b,H,I,rfl,h⟩
theorem ww {j pos}:PE X (.Constant .none j pos) (tC .Ę):=λ _ _ _ H _ I h=>Constant_none ⟨.Ę,H,I,rfl,h⟩
theorem lY {x j pos}:PE X (.Constant (.str x) j pos) (tC (.str x)):=λ _ _ _ H _ I h=>Calls.Constant_str ⟨.str x,H,I.tok _,⟨_,rfl⟩,h⟩
def Gl (X:Cx)(x:Str):Prop:=X.env.kindOf x\.globalImplicit
theorem fo (I:Inv X pins σ H s)(hg:Gl X x)(hm:X.mg x\u)(h:Q u s)
  (hd:(x==("__debug__" : Str))=false:=by decide):wpAny (model X.prog X.w) X.A (eval (.Name x pos) X.env) Q E s :=
 Calls.Name_function_global I.ok.kind hg (Calls.loadGlobal_global (by rw[I.ok.glob];exact I.mod.glob.keeps I.bk) hm h) hd
theorem iT (I:Inv X pins σ H s)(hg:Gl X x)(hm:X.mg x=none)(hv:bootBuiltins x\u)(h:Q u s)
  (hn:x ≠ "__name__" := by decide) (hd:(x==("__debug__" : Str))=false:=by decide):wpAny (model X.prog X.w) X.A (eval (.Name x pos) X.env) Q E s:=by
 obtain⟨mb,h1,h2⟩:=I.mod.blt;exact Calls.Name_function_global I.ok.kind hg (Calls.loadGlobal_builtin (by rw[I.ok.glob];exact I.mod.glob.keeps I.bk) hm (by rw[I.ok.blt];exact h1.keeps I.bk) ((h2 x hn).trans hv) h) hd
theorem be (hg:Gl X x)(hm:X.mg x\u)(r:RelV v u)(hd:(x==("__debug__" : Str))=false:=by decide):PE X (.Name x pos) (tC v) :=
 λ _ _ _ H _ I h=>fo I hg hm ⟨v,H,I,r,h⟩ hd
theorem yB (hg:Gl X x)(hm:X.mg x=none)(hv:bootBuiltins x\u)(r:RelV v u)(hn:x ≠ "__name__" := by decide) (hd:(x==("__debug__" : Str))=false:=by decide):PE X (.Name x pos) (tC v) :=
 λ _ _ _ H _ I h=>iT I hg hm hv ⟨v,H,I,r,h⟩ hn hd
def K6 (ta tb:TE)(k:Int->Int->Hp->Prop):St->Hp->Prop:=λ σ H=>ta σ H λ x H1=>tb σ H1 λ y H2=>∃ i j,x=.int i/\y=.int j/\k i j H2
def bo (ta tb:TE):TE:=λ σ H Q=>K6 ta tb (λ i j H2=>Q (.int (i+j)) H2) σ H
variable {a b:Expr}{ta tb:TE}{pos:Pos}
def PC (X:Cx)(op:CmpOp)(a b:Expr)(t:TE):Prop :=
 ∀(pins:List (Addr × Obj))(s:Shared)(σ:St)(H:Hp)(Q:VK),Inv X pins σ H s->t σ H Q ->
  wpAny (model X.prog X.w) X.A (eval a X.env) (λ v ģ=>wpAny (model X.prog X.w) X.A (eval b X.env) (λ u i_=>wpAny (model X.prog X.w) X.A (compareOp op v u) (EP X pins σ Q) X.xe i_) X.xe ģ) X.xe s
theorem xv (b:Expr)(h:op ≠ .In)(h2:op ≠ .NotIn):behindInMarks op b=false:=by
 have e1:(op==CmpOp.In)=false:=by cases op <;> first | rfl | exact absurd rfl h
 have e2:(op==CmpOp.NotIn)=false:=by cases op <;> first | rfl | exact absurd rfl h2
 cases b <;> simp[behindInMarks,e1,e2]
def J4 (p:Int->Int->Bool)(ta tb:TE):TE:=λ σ H Q=>K6 ta tb (λ i j H2=>Q (.bl (p i j)) H2) σ H
abbrev Lp:TE->TE->TE:=J4 λ i j=>decide (j<i)
def F0 (ta:TE):TE:=λ σ H Q=>ta σ H λ x H1=>Q (.bl (decide (x=.Ę))) H1
theorem RelV.P8 (r:RelV x v):(v==Value.none)=decide (x=.Ę):=by
 cases x with
 | Ę=>cases r;rfl
 | bl _=>cases r;rfl
 | int _=>obtain⟨t,rfl⟩:=r;rfl
 | str _=>obtain⟨t,rfl⟩:=r;rfl
 | Pt _=>obtain⟨t,rfl⟩:=r;rfl
 | QD _=>obtain⟨t,rfl⟩:=r;rfl
 | ref _=>cases r;rfl
 | ty _=>cases r;rfl
theorem BE {j pos'}(ha:PE X a ta):PC X .Is a (.Constant .none j pos') (F0 ta):=by
 intro pins s σ H Q I h;refine bj (ha pins s σ H _ I h) λ v s1 ⟨x,H1,I1,r1,q1⟩=>?_;exact Constant_none (is_none_gen ⟨.bl _,H1,I1,by rw[r1.P8];rfl,q1⟩)
def tB (t:TE):TT:=λ σ H Q=>t σ H λ x H1=>∃ c,x=.bl c/\Q c H1
theorem vR (h:PC X op a b t)(h1:behindInMarks op b=false:=by first | exact xv _ av av | rfl):PT X (.Compare a [op] [b] pos) (tB t):=by
 intro pins s σ H Q I hw;refine wpAny_isTrue_Compare1 (bj (h pins s σ H _ I hw) λ v s1 h1=>bj h1 λ u s2 h2=>bj h2 λ c s3 ⟨x,H1,I1,r1,q1⟩=>?_) h1;obtain⟨d,rfl,q⟩:=q1;cases r1;exact Ņ ⟨H1,I1,q⟩
theorem bO (h:PE X e t)(he:∀ whole,isTrue e X.env whole=(do let v <- whole;standAt e.pos;holding [v] (truthy v)):=by intro _;rfl):PT X e (tB t):=by
 intro pins s σ H Q I hw;refine isTrue_plain (bj (h pins s σ H _ I hw) λ v s1 ⟨x,H1,I1,r1,q1⟩=>?_) (he _);obtain⟨d,rfl,q⟩:=q1;cases r1;exact Ņ ⟨H1,I1,q⟩
variable {tA U3:TT}{rest:List Expr}
def Fy (t u:TT):TT:=λ σ H Q=>t σ H λ c H1=>if c=true then u σ H1 Q else Q false H1
def Iy (t u:TT):TT:=λ σ H Q=>t σ H λ c H1=>if c=true then Q true H1 else u σ H1 Q
def vz (t:TT):TT:=λ σ H Q=>t σ H λ c H1=>Q (!c) H1
theorem yQ (ha:PT X a tA):PW X (.BoolOp .And [a] pos) tA:=by
 intro wh pins s σ H Q I h;refine isTrue_and (bj (ha pins s σ H Q I h) λ c s1 e=>?_);cases c with
 | true=>exact isTrue_and_nil e
 | false=>exact e
theorem jc (ha:PT X a tA):PW X (.BoolOp .Or [a] pos) tA:=by
 intro wh pins s σ H Q I h;refine isTrue_or (bj (ha pins s σ H Q I h) λ c s1 e=>?_);cases c with
 | false=>exact isTrue_or_nil e
 | true=>exact e
theorem Es (ha:PT X a tA)(hb:PW X (.BoolOp .And (b::rest) pos) U3):PW X (.BoolOp .And (a::b::rest) pos) (Fy tA U3):=by
 intro wh pins s σ H Q I h;refine isTrue_and (bj (ha pins s σ H _ I h) λ c s1 ⟨H1,I1,q1⟩=>?_);cases c with
 | true=>exact hb wh pins s1 σ H1 Q I1 q1
 | false=>exact⟨H1,I1,q1⟩
theorem mw (ha:PT X a tA)(hb:PW X (.BoolOp .Or (b::rest) pos) U3):PW X (.BoolOp .Or (a::b::rest) pos) (Iy tA U3):=by
 intro wh pins s σ H Q I h;refine isTrue_or (bj (ha pins s σ H _ I h) λ c s1 ⟨H1,I1,q1⟩=>?_);cases c with
 | true=>exact⟨H1,I1,q1⟩
 | false=>exact hb wh pins s1 σ H1 Q I1 q1
theorem cA (ha:PT X a tA):PT X (.UnaryOp .Not a pos) (vz tA):=by
 intro pins s σ H Q I h;exact isTrue_not (ha pins s σ H (λ c H1=>Q (!c) H1) I h)
def As (ta tb:TE):TE:=λ σ H Q=>ta σ H λ x H1=>∃ c,x=.bl c/\if c=true then tb σ H1 Q else Q (.bl false) H1
def HE (ta:TE):TE:=λ σ H Q=>ta σ H λ x H1=>∃ c,x=.bl c/\Q (.bl (!c)) H1
theorem gu {op}(h:PE X a t):PE X (.BoolOp op [a] pos) t:=λ pins s σ H Q I hw=>BoolOp_one (h pins s σ H Q I hw)
theorem eI (ha:PE X a ta)(hb:PE X (.BoolOp .And (b::rest) pos) tb):PE X (.BoolOp .And (a::b::rest) pos) (As ta tb):=by
 intro pins s σ H Q I h;refine BoolOp_and (bj (ha pins s σ H _ I h) λ v s1 ⟨x,H1,I1,r1,q1⟩=>?_);obtain⟨c,rfl,q1⟩:=q1;cases r1;refine Ņ ?_;cases c with
 | true=>exact hb pins s1 σ H1 Q I1 q1
 | false=>exact⟨.bl false,H1,I1,rfl,q1⟩
theorem D9 (ha:PE X a ta):PE X (.UnaryOp .Not a pos) (HE ta):=by
 intro pins s σ H Q I h;refine UnaryOp_ (bj (ha pins s σ H _ I h) λ v s1 ⟨x,H1,I1,r1,q1⟩=>?_);obtain⟨c,rfl,q1⟩:=q1;cases r1;exact not_of (Ņ ⟨.bl (!c),H1,I1,rfl,q1⟩)
end
def Ğ (K:PySem.W.Frag)(H:Hp)(a:Addr)(xs:List V):Prop :=
 Rd H a (.lst xs) \/
  ∃(o:Obj)(its:Array Value)(n:Nat),K.lookup a\o/\o.cls=.type "list" /\ o.dict=none/\o.data=.seq its n/\its.size<=sizeLine/\Vals xs its.toList
def Ĭ (K:PySem.W.Frag)(H:Hp)(a:Addr)(xs:List V):Prop :=
 Rd H a (.tup xs) \/
  ∃(o:Obj)(its:Array Value)(n:Nat),K.lookup a\o/\o.cls=.type "tuple" /\ o.data=.seq its n/\its.size<=sizeLine/\Vals xs its.toList
def Ji:Value->Option V
 | .none=>some .Ę
 | .bool b=>some (.bl b)
 | .int i _=>some (.int i)
 | .str x _=>some (.str x)
 | .bytes b _=>some (.Pt b)
 | .float b _=>some (.QD b)
 | .ref a=>some (.ref a)
 | .type n=>some (.ty n)
 | _=>none
theorem RelV.abs (r:RelV x u):Ji u\x:=by
 cases x with
 | Ę=>cases r;rfl
 | bl _=>cases r;rfl
 | int _=>obtain⟨t,rfl⟩:=r;rfl
 | str _=>obtain⟨t,rfl⟩:=r;rfl
 | Pt _=>obtain⟨t,rfl⟩:=r;rfl
 | QD _=>obtain⟨t,rfl⟩:=r;rfl
 | ref _=>cases r;rfl
 | ty _=>cases r;rfl
theorem RelV.inj (r:RelV x u)(q:RelV y u):x=y:=á (r.abs.symm.trans q.abs)
theorem Vals.inj:∀{xs ys:List V}{us:List Value},Vals xs us->Vals ys us->xs=ys
 | _,_,_,.nil,.nil=>rfl
 | _,_,_,.cons r t,.cons r' t'=>by rw[r.inj r',Vals.inj t t']
section
variable {X:Cx}{pins:List (Addr × Obj)}{σ:St}{H:Hp}{s:Shared}{a:Addr}{xs ys:List V}
theorem Ğ.of {K:PySem.W.Frag}(h:H a\.lst xs):Ğ K H a xs:=.inl (.inl h)
theorem Ĭ.of {K:PySem.W.Frag}(h:H a\.tup xs):Ĭ K H a xs:=.inl (.inl h)
theorem Inv.list (I:Inv X pins σ H s)(h:Ğ X.K H a xs):∃ its:List Value,Vals xs its/\PlainL s.heap a its.toArray/\xs.length<=sizeLine:=by
 rcases h with h | ⟨o,its,n,hk,hc,hd,hs,hz,r⟩
 ·obtain⟨z,its,n,r,e⟩:=h.ok I.Ě;exact⟨its,r,⟨_,n,e,rfl,rfl,rfl⟩,z⟩
 ·refine⟨its.toList,r,⟨o,n,I.Τ a o hk,hc,hd,by simpa using hs⟩,?_⟩
  have e:=r.length;simp only[Array.length_toList] at e
  lia
theorem Inv.tuple (I:Inv X pins σ H s)(h:Ĭ X.K H a xs):∃ its:List Value,Vals xs its/\IsTup s.heap a its.toArray/\xs.length<=sizeLine:=by
 rcases h with h | ⟨o,its,n,hk,hc,hs,hz,r⟩
 ·obtain⟨z,its,r,p⟩:=h.ok I.Ě;exact⟨its,r,p,z⟩
 ·refine⟨its.toList,r,⟨o,I.Τ a o hk,hc,n,by simpa using hs⟩,?_⟩
  have e:=r.length;simp only[Array.length_toList] at e
  lia
theorem Inv.On (I:Inv X pins σ H s)(h:Ğ X.K H a xs)(h':Ğ X.K H a ys):xs=ys:=by
 obtain⟨its,r,⟨o,n,e,_,_,d⟩,_⟩:=I.list h;obtain⟨Qe,r',⟨o',n',e',_,_,d'⟩,_⟩:=I.list h';rw[e] at e';cases e';rw[d] at d';injection d' with d1 _
 have:its=Qe:=by simpa using congrArg Array.toList d1
 subst this;exact r.inj r'
end
abbrev Cx.Nf (X:Cx)(E:eZ):Cx:={ X with xe:=E }
abbrev Cx.K' (X:Cx):Cx:=X.Nf λ _ _=>False
theorem Cx.Ok.Nf {X:Cx}(ok:X.Ok)(E:eZ):(X.Nf E).Ok :=
 ⟨ok.mod,ok.kind,ok.glob,ok.blt,ok.above,ok.inj,ok.has,ok.UR,ok.hd,ok.frames,ok.U5,ok.XI,ok.bs,ok.Q3,ok.P9,ok.Q2,ok.MD,ok.Sr⟩
theorem Cx.Ok.g_ {X:Cx}(ok:(X.Nf E).Ok):X.Ok :=
 ⟨ok.mod,ok.kind,ok.glob,ok.blt,ok.above,ok.inj,ok.has,ok.UR,ok.hd,ok.frames,ok.U5,ok.XI,ok.bs,ok.Q3,ok.P9,ok.Q2,ok.MD,ok.Sr⟩
section
variable {X:Cx}{pins:List (Addr × Obj)}{σ:St}{H:Hp}{s:Shared}{E:eZ}
theorem Inv.Nf (I:Inv X pins σ H s)(E:eZ):Inv (X.Nf E) pins σ H s:=⟨I.ok.Nf E,I.os,I.bare,I.base,I.loc,I.cell,I.free,I.r_,I.pin,I.Ě,I.len⟩
theorem Inv.g_ (I:Inv (X.Nf E) pins σ H s):Inv X pins σ H s:=⟨I.ok.g_,I.os,I.bare,I.base,I.loc,I.cell,I.free,I.r_,I.pin,I.Ě,I.len⟩
theorem SP.g_ {f:Flow}(h:SP (X.Nf E) pins D f s'):SP X pins D f s':=by
 cases f with
 | next=>obtain⟨ĺ,H',I,q⟩:=h;exact⟨ĺ,H',I.g_,q⟩
 | brk=>obtain⟨ĺ,H',I,q⟩:=h;exact⟨ĺ,H',I.g_,q⟩
 | cont=>obtain⟨ĺ,H',I,q⟩:=h;exact⟨ĺ,H',I.g_,q⟩
 | ret u=>obtain⟨v,ĺ,H',I,r,q⟩:=h;exact⟨v,ĺ,H',I.g_,r,q⟩
theorem ο.K' {st:List Stmt}(h:ο X.K' st t):ο X st t:=λ pins s σ H D I hw =>
 Ĳ (h pins s σ H D (I.Nf _) hw) (λ _ _ q=>q.g_) λ _ _ z=>False.elim z
end
section
variable {X:Cx}{st:Stmt}{rest:List Stmt}{t u:TS}{e:Expr}{te:TE}{pos:Pos}
def br:TS:=λ D σ H=>D.nx σ H
def aO (t u:TS):TS:=λ D σ H=>t { D with nx:=u D } σ H
theorem eM:ο X [] br:=λ _ _ σ H _ I h=>Nt ⟨σ,H,I,h⟩
theorem bA (h1:PS X st t)(h2:ο X rest u):ο X (st::rest) (aO t u):=by
 intro pins s σ H D I h;refine wpAny_execs_cons (bj (h1 pins s σ H { D with nx:=u D } I h) λ f s1 q=>?_)
 cases f with
 | next =>
  obtain⟨ĺ,H',I',q⟩:=q;exact h2 pins s1 ĺ H' D I' q
 | ret v=>exact q
 | brk=>exact q
 | cont=>exact q
theorem aW (h1:PS X st t):ο X [st] t:=by
 intro pins s σ H D I h;refine wpAny_execs_cons (bj (h1 pins s σ H D I h) λ f s1 q=>?_);cases f with
 | next=>exact Nt q
 | ret v=>exact q
 | brk=>exact q
 | cont=>exact q
theorem An:PS X (.Pass pos) br:=λ _ _ σ H _ I h=>wpAny_Pass ⟨σ,H,I,h⟩
theorem Inv.quiet (I:Inv X pins σ H s):interactive X.env=false:=by simp[interactive,I.ok.kind]
def jW (te:TE):TS:=λ D σ H=>te σ H λ _ H1=>D.nx σ H1
theorem aG (he:PE X e te)(hs:swapsWith e none pos.line X.env=pure false:=by rfl):PS X (.Expr e pos) (jW te):=by
 intro pins s σ H D I h;exact wpAny_Expr_any (bj (he pins s σ H _ I h) λ v s1 ⟨x,H1,I1,r1,q1⟩=>⟨σ,H1,I1,q1⟩) I.quiet hs
def cH (te:TE):TS:=λ D σ H=>te σ H D.rt
theorem cq (he:PE X e te):PS X (.Return (some e) pos) (cH te):=by
 intro pins s σ H D I h;exact wpAny_Return_some (bj (he pins s σ H _ I h) λ v s1 ⟨x,H1,I1,r1,q1⟩=>⟨x,σ,H1,I1,r1,q1⟩)
def cE (c:TT)(t u:TS):TS:=λ D σ H=>c σ H λ b H1=>if b=true then t D σ H1 else u D σ H1
theorem aT (hc:PT X c tc)(ha:ο X a t)(hb:ο X b u):PS X (.If c a b pos) (cE tc t u):=by
 intro pins s σ H D I h;refine wpAny_If (bj (hc pins s σ H _ I h) λ d s1 ⟨H1,I1,q1⟩=>?_);cases d with
 | true=>exact ha pins s1 σ H1 D I1 q1
 | false=>exact hb pins s1 σ H1 D I1 q1
def EZ:TS:=λ _ _ _=>False
theorem c7:PS X st EZ:=λ _ _ _ _ _ _ h=>h.elim
end
abbrev TG:=V->St->Hp->(St->Hp->Prop)->Prop
abbrev EH:=List V->St->Hp->(St->Hp->Prop)->Prop
def PG (X:Cx)(target:Expr)(t:TG):Prop :=
 ∀(pins:List (Addr × Obj))(s:Shared)(σ:St)(H:Hp)(v:V)(u:Value)(Q:St->Hp->Prop),Inv X pins σ H s->RelV v u->t v σ H Q ->
  wpAny (model X.prog X.w) X.A (assign target X.env u) (λ _ s'=>∃ ĺ H',Inv X pins ĺ H' s'/\Q ĺ H') X.xe s
def GK (X:Cx)(ts:List Expr)(t:EH):Prop :=
 ∀(pins:List (Addr × Obj))(s:Shared)(σ:St)(H:Hp)(vs:List V)(us:List Value)(Q:St->Hp->Prop),Inv X pins σ H s->Vals vs us->t vs σ H Q ->
  wpAny (model X.prog X.w) X.A (assignInOrder ((assignEach ts X.env).map (·.2)) us) (λ _ s'=>∃ ĺ H',Inv X pins ĺ H' s'/\Q ĺ H') X.xe s
section
variable {X:Cx}{pos:Pos}
def aJ (i:Nat):TG:=λ v σ H Q=>Q (σ.set i (some v)) H
theorem bK (hN:X.N.Nodup)(hi:X.N[i]?\x)(hx:EF X.env.scope x)(hf:X.fn x=true\/X.env.scope.names.lookup x\.local:=by first | exact .inl rfl | exact .inr rfl | assumption):PG X (.Name x pos) (aJ i):=by
 intro pins s σ H v u Q I r h;exact wpAny_assign_Name (iC I hN hi hx r (λ s' I'=>⟨_,H,I',h⟩) hf)
def jd:EH:=λ vs σ H Q=>vs=[]/\Q σ H
def bu (t:TG)(u:EH):EH:=λ vs σ H Q=>∃ v r,vs=v::r/\t v σ H λ ĺ H'=>u r ĺ H' Q
theorem aR:GK X [] jd:=by
 intro pins s σ H vs us Q I r h;obtain⟨e,h⟩:=h;subst e;cases r;exact assignInOrder_nil ⟨σ,H,I,h⟩
theorem cL (h1:PG X e t)(h2:GK X es u)
  (hs:(assignEach (e::es) X.env).map (·.2)=assign e X.env::(assignEach es X.env).map (·.2):=by rfl):GK X (e::es) (bu t u):=by
 intro pins s σ H vs us Q I r h;obtain⟨v,vr,e1,h⟩:=h;subst e1;cases r with
 | cons r rr =>
  rw[hs];refine assignInOrder_cons (bj (h1 pins s σ H _ _ _ I r h) λ _ s1 ⟨SG,H1,I1,q1⟩=>?_);exact h2 pins s1 SG H1 _ _ Q I1 rr q1
def jD (K:PySem.W.Frag)(n:Nat)(t:EH):TG:=λ v σ H Q=>∃ a xs,v=.ref a/\Ĭ K H a xs/\xs.length=n/\t xs σ H Q
theorem bq (hc:X.calm=true)(h:GK X es t)
  (hn:(assignEach es X.env).length=n:=by rfl) (M5:(assignEach es X.env).findIdx? (·.1)=none:=by rfl):PG X (.Tuple es k pos) (jD X.K n t):=by
 intro pins s σ H v u Q I r hw;obtain⟨a,xs,e1,hq,hl,hw⟩:=hw;subst e1;cases r;obtain⟨its,rv,ht,hz⟩:=I.tuple hq;refine assign_Tuple_tuple (I.ok.hd hc) ht (by simp[hn,<- hl,rv.length]) M5 λ h' hx=>?_
 have I1:Inv X pins σ H { s with heap:=h' }:=I.kept λ b o e=>hx b o (æ (Ð e)) e
 exact h pins _ σ H xs _ Q I1 (by simpa using rv) hw
def bQ (te:TE)(g:TG):TS:=λ D σ H=>te σ H λ x H1=>g x σ H1 D.nx
theorem hI (he:PE X e te)(hg:PG X tg g)(hs:swapsWithSole [tg] e pos.line X.env=pure false:=by rfl)(hw:swappedStores [tg] e X.env=pure none:=by rfl)
  (h1:(assignEach [tg] X.env).map (·.2)=[assign tg X.env]:=by rfl):PS X (.Assign [tg] e pos) (bQ te g):=by
 intro pins s σ H D I h;refine wpAny_Assign_stores (bj (he pins s σ H _ I h) λ v s1 ⟨x,H1,I1,r1,q1⟩=>?_) hs hw;rw[h1];exact bj (hg pins s1 σ H1 x v _ I1 r1 q1) λ _ s2 q=>q
theorem cB (hN:X.N.Nodup)(hi:X.N[i]?\x)(hx:EF X.env.scope x)(he:PE X e te)(hs:swapsWith e (some (.Name x pos')) pos.line X.env=pure false:=by rfl)(hf:X.fn x=true\/X.env.scope.names.lookup x\.local:=by first | exact .inl rfl | exact .inr rfl | assumption) :
  PS X (.Assign [.Name x pos'] e pos) (bQ te (aJ i)):=by
 intro pins s σ H D I h;refine wpAny_Assign_Name (bj (he pins s σ H _ I h) λ v s1 ⟨y,H1,I1,r1,q1⟩=>?_) hs;exact iC I1 hN hi hx r1 (λ s2 I2=>⟨_,H1,I2,q1⟩) hf
def IG (i j:Nat)(ta:TA):TS:=λ D σ H=>ta σ H λ vs H1=>∃ v w,vs=[v,w]/\D.nx ((σ.set i (some v)).set j (some w)) H1
theorem wU {kt k2 VG}(hc:X.calm=true)(hN:X.N.Nodup)(hi:X.N[i]?\x)(hj:X.N[j]?\y)(hij:i≠j)
  (hx:X.env.scope.names.lookup x\.local) (hy:X.env.scope.names.lookup y\.local) (ha:PA X [a,b] ta)
  (hw:swappedStores [.Tuple [.Name x px,.Name y py] kt pt] (.Tuple [a,b] k2 VG) X.env=pure (some [x,y]))
  (hs:swapsWithSole [.Tuple [.Name x px,.Name y py] kt pt] (.Tuple [a,b] k2 VG) pos.line X.env=pure false:=by rfl) :
  PS X (.Assign [.Tuple [.Name x px,.Name y py] kt pt] (.Tuple [a,b] k2 VG) pos) (IG i j ta):=by
 intro pins s σ H D I h;rw[exec_Assign_arm];refine À (Ĥ ?_);rw[hs];refine À (Á ?_);rw[Æ av];refine À (Tuple_ (bj (ha _ pins s σ H _ I h) λ us s1 ⟨vs,H1,I1,r1,q1⟩=>?_));obtain⟨v,w,e1,q1⟩:=q1;subst e1;obtain⟨u1,u2,rfl,rv,OI⟩:∃ u1 u2,us=[u1,u2]/\RelV v u1/\RelV w u2:=by
  cases r1 with
  | cons p q =>
   cases q with
   | cons p' q' =>
    cases q';exact⟨_,_,rfl,p,p'⟩
 refine î ?_ er;have I2:Inv X pins σ H1 { s1 with heap:=s1.heap.push { cls:=.type "tuple",data:=.seq [u1,u2].toArray } }:=I1.kept λ b o e=>Ä _ e
 rw[hw];refine À (Á ?_);refine À (Pc (À (unpackItems_tuple (items:=#[u1,u2]) (I.ok.hd hc) (IsTup.new s1.heap _) λ h' Po=>?_)));have I3:=I2.kept (t':=s1.toks) λ b o e=>Po b o (æ (Ð e)) e;refine À (assignInOrder_cons (wpAny_bindName (iC I3 hN hj (.inl hy) OI (λ s2 I4=>?_) (.inr hy))));refine assignInOrder_cons (wpAny_bindName (iC I4 hN hi (.inl hx) rv (λ s3 I5=>assignInOrder_nil (Á ?_)) (.inr hx)));rw[List.set_comm _ _ (Ne.symm hij)] at I5;exact⟨_,H1,I5,q1⟩
end
section
variable {X:Cx}{pos:Pos}
def vg (c:TT)(tb:TS):TS:=λ D σ H=>∃ W:Nat->St->Hp->Prop,(∃ m,W m σ H)/\∀ m σ H,W m σ H ->
 c σ H λ b H1=>if b=true then ∃ N:St->Hp->Prop,(∀ ĺ H',N ĺ H'->∃ m',m'<m/\W m' ĺ H')/\tb { D with nx:=N,ct:=N,bk:=D.nx } σ H1 else D.nx σ H1
theorem pO (hp:PassesOwn (model X.prog X.w) X.A X.env X.xe)(hc:PT X c tc)(hb:ο X body tb):PS X (.While c body [] pos) (vg tc tb):=by
 intro pins s σ H D I h;obtain⟨W,⟨m0,w0⟩,turn⟩:=h;refine wpAny_While (codeAny_whileLoop (λ n s'=>∃ ĺ H',Inv X pins ĺ H' s'/\W n ĺ H') ?_ m0 ⟨σ,H,I,w0⟩);rintro n s1 ⟨SG,H1,I1,w1⟩;refine š hp (bj (hc pins s1 SG H1 _ I1 (turn n SG H1 w1)) λ b s2 ⟨H2,I2,q2⟩=>?_);cases b with
 | true =>
  obtain⟨N,hN,q2⟩:=q2;rw[Ë rfl];refine š hp (bj (hb pins s2 SG H2 _ I2 q2) λ f s3 q3=>?_);cases f with
  | next =>
   obtain⟨q_,H3,I3,n3⟩:=q3;obtain⟨m',hm,w3⟩:=hN q_ H3 n3;exact⟨m',hm,q_,H3,I3,w3⟩
  | cont =>
   obtain⟨q_,H3,I3,n3⟩:=q3;obtain⟨m',hm,w3⟩:=hN q_ H3 n3;exact⟨m',hm,q_,H3,I3,w3⟩
  | brk=>exact q3
  | ret v=>exact q3
 | false =>
  rw[Æ Ù];exact Nt ⟨SG,H2,I2,q2⟩
end
structure It where
 go:Nat->Hp->Prop
 x_:Nat->Hp->V->Hp->Prop
 stop:Nat->Hp->Prop
def i8 (X:Cx)(pins:List (Addr × Obj))(H:Hp)(b:Addr):Prop :=
 H b=none/\b≠X.env.locals/\b ∉ X.fs/\(b∈X.ex\/X.Ų.heap.objs.size<=b)/\(∀ x c,X.env.cells.lookup x\c->c≠b)/\∀ p∈X.pn++pins,p.1≠b
theorem Inv.OP (I:Inv X pins σ H s)(hb:s.heap.objs.size<=b)(hn:H' b=none):i8 X pins H' b:=by
 refine⟨hn,N' (å I.lt hb),I.VL hb,.inr (È I.sz hb),λ x c e z=>?_,λ p hp z=>?_⟩
 ·obtain⟨v,q⟩:=I.cell x c e;exact absurd (å q.lt (by rw[z];exact hb)) (Ĩ _)
 ·exact absurd (å (Ð (I.pin p hp).1) (by rw[z];exact hb)) (Ĩ _)
structure p6 (P:Program)(w:World)(K:PySem.W.Frag)(tg:Expr)(J:It)(fp:List Addr)(it:Addr)(tn:Nat->Heap->Prop):Prop where
 mem:it∈fp
 obj:∀ i h,tn i h->∀ b∈fp,∃ o,h.get? b\o/\∀ v,o.data ≠ .cell v
 keep:∀ i h h',tn i h->(∀ b∈fp,∀ o,h.get? b\o->h'.get? b\o)->tn i h'
 item:∀(X:Cx),X.prog=P->X.w=w->X.K=K->X.calm=true->∀(i:Nat)(pins:List (Addr × Obj))(s:Shared)(σ:St)(H:Hp)(E:eZ),Inv X pins σ H s->(∀ b∈fp,i8 X pins H b)->tn i s.heap->J.go i H ->
  wpAny (model P w) X.A (pyNext (.ref it)) (λ r s1=>∃ u,r\u /\
   wpAny (model P w) X.A (letOwnedTupleGo tg (.ref it) u) (λ _ s2=>∃ x H',Inv X pins σ H' s2/\RelV x u/\J.x_ i H x H'/\tn (i+1) s2.heap/\∀ b∈fp,H' b=none) E s1) E s
 done:∀(X:Cx),X.prog=P->X.w=w->X.K=K->X.calm=true->∀(i:Nat)(pins:List (Addr × Obj))(s:Shared)(σ:St)(H:Hp)(E:eZ),Inv X pins σ H s->(∀ b∈fp,i8 X pins H b)->tn i s.heap->J.stop i H ->
  wpAny (model P w) X.A (pyNext (.ref it)) (λ r s1=>r=none/\Inv X pins σ H s1) E s
 self:∀(A:Around)(i:Nat)(s:Shared)(Q:eZ)(E:eZ),tn i s.heap->Q (.ref it) s->wpAny (model P w) A (pyIter (.ref it)) Q E s
abbrev TI:=St->Hp->(It->Hp->Prop)->Prop
def Lr (X:Cx)(pins:List (Addr × Obj))(σ:St)(tg:Expr)(R:It->Hp->Prop)(V8:Value)(s2:Shared):Prop :=
 ∃(it:Addr)(fp:List Addr)(tn:Nat->Heap->Prop)(J:It)(H':Hp),V8=.ref it/\Inv X pins σ H' s2/\p6 X.prog X.w X.K tg J fp it tn/\tn 0 s2.heap/\(∀ b∈fp,i8 X pins H' b)/\R J H'
def PI (X:Cx)(tg iter:Expr)(wi:TI):Prop :=
 ∀(pins:List (Addr × Obj))(s:Shared)(σ:St)(H:Hp)(R:It->Hp->Prop),Inv X pins σ H s->wi σ H R ->
  wpAny (model X.prog X.w) X.A (eval iter X.env) (λ v s1=>wpAny (model X.prog X.w) X.A (pyIter v) (Lr X pins σ tg R) X.xe s1) X.xe s
theorem pV (ho:s.heap.get? it\o)(hc:o.cls=.type n)(hd:o.data=.fields vs)
  (hn:["enumerate","zip","dict_itemiterator","dict_reverseitemiterator","odict_iterator","itertools.zip_longest","itertools.pairwise"].contains n=false) (hQ:Q () s):wpAny M A (letOwnedTupleGo tg (.ref it) u) Q E s:=by
 cases tg <;> first
  | exact Á hQ
  | (cases u <;> first
    | exact Á hQ
    | (refine À (wpAny_load ho ?_)
       rw[hc,hd];show wpAny M A (if(["enumerate","zip","dict_itemiterator","dict_reverseitemiterator","odict_iterator","itertools.zip_longest","itertools.pairwise"].contains n&&vs[0]?==some (rawInt _))=true then _ else _) Q E s
       rw[Æ (by intro h;rw[hn,MK] at h;cases h)]
       exact Á hQ))
def xZ (K:PySem.W.Frag)(a:Addr):It :=
 ⟨λ i H=>∃ xs x,Ğ K H a xs/\xs[i]?\x,λ i H x H'=>H'=H/\∀ xs,Ğ K H a xs->xs[i]?\x,λ i H=>∃ xs,Ğ K H a xs/\xs.length<=i⟩
def zB (lo:Int)(n:Nat):It:=⟨λ i _=>i<n,λ i H x H'=>H'=H/\x=.int (lo+i),λ i _=>n<=i⟩
theorem uL {K:PySem.W.Frag}(a it:Addr):p6 P w K tg (xZ K a) [it] it (λ i h=>h.IsListIter it a i) where
 mem:=by simp
 obj:=λ i h st b hb=>by
  have e:b=it:=by simpa using hb
  subst e;obtain⟨o,e,c,d⟩:=st;exact⟨o,e,λ v z=>by rw[d] at z;cases z⟩
 keep:=λ i h h' st k=>st.at λ o e=>k it (by simp) o e
 item:=by
  intro X hP hw hK hc i pins s σ H E I hf st hg;subst hP hw hK;obtain⟨xs,x,hq,hx⟩:=hg;obtain⟨its,rv,p,hz⟩:=I.list hq;obtain⟨u,hu,ru⟩:=rv.get hx;obtain⟨f0,f1,f2,f3,f4,f5⟩:=hf it (by simp)
  refine wpAny_pyNext_list_item st p.isList (by simpa using hu) λ h' Ā sb=>?_
  have I1:Inv X pins σ H { s with heap:=h' }:=I.turned (λ b o hb e=>(sb.2 b hb).trans e) f0 f1 f3 f4 f5
  obtain⟨o,e,c,d⟩:=id Ā;exact⟨u,rfl,pV e c d av ⟨x,H,I1,ru,⟨rfl,λ ys hy=>by rw[I.On hy hq];exact hx⟩,Ā,λ b hb=>(hf b hb).1⟩⟩
 done:=by
  intro X hP hw hK hc i pins s σ H E I hf st hg;subst hP hw hK;obtain⟨xs,hq,hx⟩:=hg;obtain⟨its,rv,p,hz⟩:=I.list hq;obtain⟨f0,f1,f2,f3,f4,f5⟩:=hf it (by simp)
  have hl:=rv.length;exact wpAny_pyNext_list_end (I.ok.hd hc) st p.isList (by simp;lia) λ h' eb=>⟨rfl,I.turned (λ b o hb e=>eb b o hb e) f0 f1 f3 f4 f5⟩
 self:=λ _ _ _ _ _ st h=>wpAny_pyIter_listiter st h
theorem qS {K:PySem.W.Frag}(it:Addr)(lo:Int)(n:Nat):p6 P w K tg (zB lo n) [it] it (λ i h=>IsRangeIter h it (lo+(i:Nat)*1) ((n:Int)-(i:Nat)) 1) where
 mem:=by simp
 obj:=λ i h st b hb=>by
  have e:b=it:=by simpa using hb
  subst e;exact⟨_,st,λ v z=>by
   have z':Data.fields _=Data.cell v:=z;cases z'⟩
 keep:=λ i h h' st k=>k it (by simp) _ st
 item:=by
  intro X hP hw hK hc i pins s σ H E I hf st hg;subst hP hw hK;obtain⟨f0,f1,f2,f3,f4,f5⟩:=hf it (by simp)
  have W:=Walks.range (prog:=X.prog) (w:=X.w) (I.ok.hd hc) it lo 1 n;refine W.item i s _ _ hg st λ v h' tk hv Ā kk=>?_;obtain⟨t,rfl⟩:=hv;have I1:Inv X pins σ H { s with heap:=h',toks:=tk }:=I.turned (λ b o hb e=>kk b o (by simpa using hb) e) f0 f1 f3 f4 f5
  refine⟨_,rfl,pV Ā rfl rfl av ⟨.int (lo+i),H,I1,⟨t,?_⟩,⟨rfl,rfl⟩,Ā,λ b hb=>(hf b hb).1⟩⟩;rw[Int.mul_one]
 done:=by
  intro X hP hw hK hc i pins s σ H E I hf st hg;subst hP hw hK;obtain⟨f0,f1,f2,f3,f4,f5⟩:=hf it (by simp)
  exact wpAny_pyNext_range_end (I.ok.hd hc) st (by have:n<=i:=hg;lia) λ h' eb=>⟨rfl,I.turned (λ b o hb e=>eb b o hb e) f0 f1 f3 f4 f5⟩
 self:=λ _ _ _ _ _ st h=>wpAny_pyIter_rangeiter st h
section
variable {X:Cx}{tg:Expr}
def cY (K:PySem.W.Frag)(tl:TE):TI:=λ σ H R=>tl σ H λ x H1=>∃ a,x=.ref a/\(∃ xs,Ğ K H1 a xs)/\R (xZ K a) H1
theorem bE (hl:PE X l tl):PI X tg l (cY X.K tl):=by
 intro pins s σ H R I h;refine bj (hl pins s σ H _ I h) λ v s1 ⟨x,H1,I1,r1,q1⟩=>?_;obtain⟨a,e,⟨xs,hq⟩,q⟩:=q1;subst e;cases r1;obtain⟨its,rv,p,hz⟩:=I1.list hq;refine wpAny_pyIter_list p.isList ?_;refine⟨s1.heap.objs.size,[s1.heap.objs.size],_,_,H1,rfl,I1.kept λ b o e=>Ä _ e,uL a _,⟨_,Ó _ rfl,rfl,rfl⟩,λ b hb=>?_,q⟩;have e:b=s1.heap.objs.size:=by simpa using hb
 subst e;exact I1.OP (Å _) (I1.Ě.fresh (Å _))
theorem wL {lo hi:Int}(I:Inv X pins σ H s)(h1:-(2^62)<=lo)(h2:lo<2^62)(h3:-(2^62)<=hi)(h4:hi<2^62)
  (q:R (zB lo (hi-lo).toNat) H):wpAny (model X.prog X.w) X.A (pyIter (.ref s.heap.objs.size)) (Lr X pins σ tg R) E { s with heap:=s.heap.push { cls:=.type "range",data:=.fields #[.int lo t,.int hi u,.int 1 v] },toks:=tk }:=by
 refine wpAny_pyIter_range (IsRange.new ..) (small_one h1 h2 h3 h4) ?_;have I1:Inv X pins σ H { s with heap:=s.heap.push { cls:=.type "range",data:=.fields #[.int lo t,.int hi u,.int 1 v] },toks:=tk }:=I.kept λ b o e=>Ä _ e
 refine⟨(s.heap.push { cls:=.type "range",data:=.fields #[.int lo t,.int hi u,.int 1 v] }).objs.size,[(s.heap.push { cls:=.type "range",data:=.fields #[.int lo t,.int hi u,.int 1 v] }).objs.size],_,_,H,rfl,
  I1.kept λ b o e=>Ä _ e,qS _ lo (hi-lo).toNat,?_,λ b hb=>?_,q⟩
 ·have e1:lo+((0:Nat):Int)*1=lo:=by simp
  have e2:(((hi-lo).toNat:Nat):Int)-((0:Nat):Int)=Builtin.Range.rangeSize lo hi 1:=by rw[rangeSize_one];split <;> lia
  rw[e1,e2];exact Ó _ rfl
 ·have e:b=(s.heap.push { cls:=.type "range",data:=.fields #[.int lo t,.int hi u,.int 1 v] }).objs.size:=by simpa using hb
  subst e;exact I1.OP (Å _) (I1.Ě.fresh (Å _))
def sF (ta:TA):TI:=λ σ H R=>ta σ H λ vs H1=>∃ j:Int,vs=[.int j]/\-(2^62)<=j/\j<2^62/\R (zB 0 j.toNat) H1
theorem dB (hg:Gl X "range") (hm:X.mg "range" = none) (ha:PA X [a] ta) (hs:starEach [a] X.env=[(false,eval a X.env)]:=by rfl):PI X tg (.Call (.Name "range" p) [a] [] pos) (sF ta):=by
 intro pins s σ H R I h;refine Call_ (iT I hg hm boot_range (Ś (bj (ha pos pins s σ H _ I h) λ us s1 ⟨vs,H1,I1,r1,q1⟩=>?_) hs rfl));obtain⟨j,e,q1,q2,q⟩:=q1;subst e;cases r1 with
 | cons r rr =>
  cases rr;obtain⟨t,rfl⟩:=r;exact call_range_1 (wL I1 ad ad q1 q2 (by simpa using q))
def fM (wi:TI)(g:TG)(tb:TS):TS:=λ D σ H=>wi σ H λ J H1=>∃ W:Nat->Nat->St->Hp->Prop,(∃ m,W 0 m σ H1)/\∀ i m σ H,W i m σ H ->
 (J.stop i H/\D.nx σ H)\/(J.go i H/\∃ N:St->Hp->Prop,(∀ ĺ H',N ĺ H'->∃ m',m'<m/\W (i+1) m' ĺ H')/\∀ x H',J.x_ i H x H'->g x σ H' λ ĩ H2=>tb { D with nx:=N,ct:=N,bk:=D.nx } ĩ H2)
def nM (fp:List Addr)(h:Heap):List (Addr × Obj):=fp.filterMap λ b=>(h.get? b).map λ o=>(b,o)
theorem cS (hb:b∈fp)(e:h.get? b\o):(b,o)∈nM fp h:=NF.mpr ⟨b,hb,by rw[e];rfl⟩
theorem uf (hp:p∈nM fp h):p.1∈fp/\h.get? p.1\p.2:=by
 obtain⟨b,hb,e⟩:=NF.mp hp;cases q:h.get? b with
 | none=>rw[q] at e;cases e
 | some o =>
  rw[q] at e;have e':=á e;subst e';exact⟨hb,q⟩
theorem Inv.pinned (I:Inv X pins σ H s)(hf:∀ b∈fp,i8 X pins H b)(ho:∀ b∈fp,∃ o,s.heap.get? b\o/\∀ v,o.data ≠ .cell v):Inv X (pins++nM fp s.heap) σ H s :=
 I.O3 λ p hp=>(é.mp hp).elim (λ z=>I.pin p (ã _ z)) λ z=>by
  obtain⟨hb,e⟩:=uf z;obtain⟨f0,f1,f2,_⟩:=hf p.1 hb;obtain⟨o,e',d⟩:=ho p.1 hb;rw[e] at e';cases e';exact⟨e,f0,f1,f2,d⟩
theorem Inv.h_ (I:Inv X (pins++pl) σ H s):Inv X pins σ H s:=I.O3 λ p hp=>I.pin p (ã _ (ŧ _ hp))
theorem bC (hp:PassesOwn (model X.prog X.w) X.A X.env X.xe)(hc:X.calm=true)(hi:PI X tg iter wi)(hg:PG X tg g)(hb:ο X body tb)
  (hs:∀ x,foldedSetIterable iter X.env x=pure x:=by intro _;rfl):PS X (.For tg iter body [] pos) (fM wi g tb):=by
 intro pins s σ H D I h;refine wpAny_For (bj (hi pins s σ H _ I h) λ v s1 h1=>bj h1 λ V8 s2 h2=>?_) hs;obtain⟨it,fp,tn,J,H2,e,I2,T,Ű,f2,W,⟨m0,w0⟩,turn⟩:=h2;subst e;have OH:∀{H':Hp},(∀ b∈fp,H' b=none)->∀ b∈fp,i8 X pins H' b:=λ hn b hb=>⟨hn b hb,(f2 b hb).2⟩;refine codeAny_forLoop_any (λ n s'=>∃ i ĺ H',Inv X pins ĺ H' s'/\tn i s'.heap/\(∀ b∈fp,H' b=none)/\W i n ĺ H') ?_ m0 ⟨0,σ,H2,I2,Ű,λ b hb=>(f2 b hb).1,w0⟩;rintro n s3 ⟨i,q_,H3,I3,k_,XF,w3⟩;rcases turn i n q_ H3 w3 with⟨stop,qn⟩ | ⟨go,N,hN,step⟩
 ·refine š hp (bj (T.done X rfl rfl rfl hc i pins s3 q_ H3 X.xe I3 (OH XF) k_ stop) λ r s4 ⟨hr,I4⟩=>?_);subst hr;exact Nt ⟨q_,H3,I4,qn⟩
 ·refine š hp (bj (T.item X rfl rfl rfl hc i pins s3 q_ H3 X.xe I3 (OH XF) k_ go) λ r s4 ⟨u,hr,h4⟩=>?_);subst hr;refine š hp (bj h4 λ _ s5 ⟨x,H5,I5,r5,y5,O1,WL⟩=>?_);have WP:=I5.pinned (OH WL) (T.obj _ _ O1);refine š hp (bj (hg _ s5 q_ H5 x u _ WP r5 (step x H5 y5)) λ _ s6 ⟨SE,H6,I6,q6⟩=>?_);refine š hp (bj (hb _ s6 SE H6 _ I6 q6) λ f s7 q7=>?_);have again:∀{PZ:St}{H7:Hp},Inv X (pins++nM fp s5.heap) PZ H7 s7->N PZ H7->∃ m,m<n/\∃ i ĺ H',Inv X pins ĺ H' s7/\tn i s7.heap/\(∀ b∈fp,H' b=none)/\W i m ĺ H':=λ {PZ H7} I7 n7=>by
   obtain⟨m',hm,w7⟩:=hN PZ H7 n7;refine⟨m',hm,i+1,PZ,H7,I7.h_,T.keep _ _ _ O1 λ b hb o e=>(I7.pin (b,o) (ã _ (ã _ (cS hb e)))).1,λ b hb=>?_,w7⟩;obtain⟨o,e,d⟩:=T.obj _ _ O1 b hb;exact(I7.pin (b,o) (ã _ (ã _ (cS hb e)))).2.1
  cases f with
  | next=>obtain⟨PZ,H7,I7,n7⟩:=q7;exact again I7 n7
  | cont=>obtain⟨PZ,H7,I7,n7⟩:=q7;exact again I7 n7
  | brk=>obtain⟨PZ,H7,I7,q7⟩:=q7;exact⟨PZ,H7,I7.h_,q7⟩
  | ret v=>obtain⟨x7,PZ,H7,I7,r7,q7⟩:=q7;exact⟨x7,PZ,H7,I7.h_,r7,q7⟩
end
theorem dJ {K:PySem.W.Frag}{a:Addr}{g:TG}{tb:TS}{D:bH}(Pv:Nat->St->Hp->Prop)(h0:Pv 0 σ H)(hl:∀ i σ H,i<=xs.length->Pv i σ H->Ğ K H a xs)
  (hs:∀ i x σ H,xs[i]?\x->Pv i σ H->g x σ H λ ĩ H2=>tb { D with nx:=Pv (i+1),ct:=Pv (i+1),bk:=D.nx } ĩ H2) (hd:∀ σ H,Pv xs.length σ H->D.nx σ H) :
  ∃ W:Nat->Nat->St->Hp->Prop,(∃ m,W 0 m σ H)/\∀ i m σ H,W i m σ H ->
   ((xZ K a).stop i H/\D.nx σ H)\/((xZ K a).go i H/\∃ N:St->Hp->Prop,(∀ ĺ H',N ĺ H'->∃ m',m'<m/\W (i+1) m' ĺ H')/\∀ x H',(xZ K a).x_ i H x H'->g x σ H' λ ĩ H2=>tb { D with nx:=N,ct:=N,bk:=D.nx } ĩ H2):=by
 refine⟨λ i m σ H=>m=xs.length-i/\i<=xs.length/\Pv i σ H,⟨xs.length,by simp,Nat.zero_le _,h0⟩,?_⟩
 rintro i m σ H ⟨rfl,hi,p⟩;have q:=hl i σ H hi p;by_cases ş:i<xs.length
 ·refine .inr ⟨⟨xs,xs[i],q,by simp[ş]⟩,Pv (i+1),λ ĺ H' p'=>⟨xs.length-(i+1),ad,rfl,ş,p'⟩,λ x H' y=>?_⟩
  obtain⟨e,y⟩:=y;subst e;exact hs i x σ _ (y xs q) p
 ·have e:i=xs.length:=ad;subst e;exact .inl ⟨⟨xs,q,Å _⟩,hd σ H p⟩
theorem jf {lo:Int}{g:TG}{tb:TS}{D:bH}(Pv:Nat->St->Hp->Prop)(h0:Pv 0 σ H)
  (hs:∀ i σ H,i<n->Pv i σ H->g (.int (lo+i)) σ H λ ĩ H2=>tb { D with nx:=Pv (i+1),ct:=Pv (i+1),bk:=D.nx } ĩ H2) (hd:∀ σ H,Pv n σ H->D.nx σ H) :
  ∃ W:Nat->Nat->St->Hp->Prop,(∃ m,W 0 m σ H)/\∀ i m σ H,W i m σ H ->
   ((zB lo n).stop i H/\D.nx σ H)\/((zB lo n).go i H/\∃ N:St->Hp->Prop,(∀ ĺ H',N ĺ H'->∃ m',m'<m/\W (i+1) m' ĺ H')/\∀ x H',(zB lo n).x_ i H x H'->g x σ H' λ ĩ H2=>tb { D with nx:=N,ct:=N,bk:=D.nx } ĩ H2):=by
 refine⟨λ i m σ H=>m=n-i/\i<=n/\Pv i σ H,⟨n,by simp,Nat.zero_le _,h0⟩,?_⟩
 rintro i m σ H ⟨rfl,hi,p⟩;by_cases ş:i<n
 ·refine .inr ⟨ş,Pv (i+1),λ ĺ H' p'=>⟨n-(i+1),ad,rfl,ş,p'⟩,λ x H' y=>?_⟩;obtain⟨e,y⟩:=y;subst e y;exact hs i σ _ ş p
 ·have e:i=n:=ad;subst e;exact .inl ⟨Å _,hd σ H p⟩
theorem pT (Pv:St->Hp->Prop)(μ:St->Hp->Nat)(h0:Pv σ H)
  (hs:∀ σ H,Pv σ H->c σ H λ b H1=>if b=true then tb { D with nx:=λ ĺ H'=>Pv ĺ H'/\μ ĺ H' < μ σ H,ct:=λ ĺ H'=>Pv ĺ H'/\μ ĺ H' < μ σ H,bk:=D.nx } σ H1 else D.nx σ H1)
  (mono:∀ σ H Q Q',(∀ b H1,Q b H1->Q' b H1)->c σ H Q->c σ H Q'):vg c tb D σ H:=by
 refine⟨λ m σ H=>m = μ σ H/\Pv σ H,⟨_,rfl,h0⟩,?_⟩;rintro m σ H ⟨rfl,p⟩;refine mono σ H _ _ (λ b H1 q=>?_) (hs σ H p);cases b with
 | true=>exact⟨_,λ ĺ H' ⟨p',l⟩=>⟨_,l,rfl,p'⟩,q⟩
 | false=>exact q
abbrev R2:=V->V->Hp->VK->Prop
def jy (X:Cx)(f:Value->Value->Sem Value)(r:R2):Prop :=
 ∀(pins:List (Addr × Obj))(s:Shared)(σ:St)(H:Hp)(x y:V)(v u:Value)(Q:VK),Inv X pins σ H s->RelV x v->RelV y u->r x y H Q ->
  wpAny (model X.prog X.w) X.A (f v u) (EP X pins σ Q) X.xe s
def JC (X:Cx)(f:Value->Sem Value)(r:V->Hp->VK->Prop):Prop :=
 ∀(pins:List (Addr × Obj))(s:Shared)(σ:St)(H:Hp)(x:V)(v:Value)(Q:VK),Inv X pins σ H s->RelV x v->r x H Q ->
  wpAny (model X.prog X.w) X.A (f v) (EP X pins σ Q) X.xe s
def dL (X:Cx)(f:Value)(r:List V->Hp->VK->Prop):Prop :=
 ∀(pins:List (Addr × Obj))(s:Shared)(σ:St)(H:Hp)(xs:List V)(us:List Value)(Q:VK),Inv X pins σ H s->Vals xs us->r xs H Q ->
  wpAny (model X.prog X.w) X.A (call f us) (EP X pins σ Q) X.xe s
def bR (r:R2)(ta tb:TE):TE:=λ σ H Q=>ta σ H λ x H1=>tb σ H1 λ y H2=>r x y H2 Q
def FT (r:V->Hp->VK->Prop)(ta:TE):TE:=λ σ H Q=>ta σ H λ x H1=>r x H1 Q
def rI (C:Int->Int->Prop)(g:Int->Int->V):R2:=λ x y H Q=>∃ i j,x=.int i/\y=.int j/\C i j/\Q (g i j) H
def dQ (g:Int->Int->V):R2:=λ x y H Q=>∃ i j,x=.int i/\y=.int j/\Q (g i j) H
def rU (g:Int->V):V->Hp->VK->Prop:=λ x H Q=>∃ i,x=.int i/\Q (g i) H
section
variable {X:Cx}{a b c:Expr}{ta tb tc:TE}{pos:Pos}
theorem ET (ha:PE X a ta)(hb:PE X b tb){R:V->V->Hp->Prop}(I:Inv X pins σ H s)
  (h:ta σ H λ x H1=>tb σ H1 λ y H2=>R x y H2) {f:Value->Value->Sem Value}
  (hf:∀ v u s2 x y H2,Inv X pins σ H2 s2->RelV x v->RelV y u->R x y H2->wpAny (model X.prog X.w) X.A (f v u) Q X.xe s2) :
  wpAny (model X.prog X.w) X.A (eval a X.env) (λ v ģ=>wpAny (model X.prog X.w) X.A (eval b X.env) (λ u i_=>wpAny (model X.prog X.w) X.A (f v u) Q X.xe i_) X.xe ģ) X.xe s:=by
 refine bj (ha pins s σ H _ I h) λ v s1 ⟨x,H1,I1,r1,q1⟩=>?_;refine bj (hb pins s1 σ H1 _ I1 q1) λ u s2 ⟨y,H2,I2,r2,q2⟩=>?_;exact hf v u s2 x y H2 I2 r1 r2 q2
theorem ah (ho:jy X (binaryOp op) r)(ha:PE X a ta)(hb:PE X b tb):PE X (.BinOp a op b pos) (bR r ta tb):=by
 intro pins s σ H Q I h;exact wpAny_BinOp (ET ha hb I h λ v u s2 x y H2 I2 rx ry q=>ho pins s2 σ H2 x y v u Q I2 rx ry q)
theorem mQ (ho:JC X (unaryOp op) r)(ha:PE X a ta):PE X (.UnaryOp op a pos) (FT r ta):=by
 intro pins s σ H Q I h;exact UnaryOp_ (bj (ha pins s σ H _ I h) λ v s1 ⟨x,H1,I1,r1,q1⟩=>ho pins s1 σ H1 x v Q I1 r1 q1)
theorem AV {g:Int->Int->Int}
  (rule:∀(i j:Int)(t u:Tok)(s:Shared)(Q:eZ)(E:eZ),C i j->Q (.int (g i j) s.toks) { s with toks:=s.toks+1 }->wpAny (model X.prog X.w) X.A (f (.int i t) (.int j u)) Q E s) :
  jy X f (rI C λ i j=>.int (g i j)):=by
 intro pins s σ H x y v u Q I rx ry h;obtain⟨i,j,rfl,rfl,hc,q⟩:=h;obtain⟨t,rfl⟩:=rx;obtain⟨t',rfl⟩:=ry;exact rule i j t t' s _ _ hc ⟨.int (g i j),H,I.tok _,⟨_,rfl⟩,q⟩
theorem C5 {g:Int->Int->Int}
  (rule:∀(i j:Int)(t u:Tok)(s:Shared)(Q:eZ)(E:eZ),Q (.int (g i j) s.toks) { s with toks:=s.toks+1 }->wpAny (model X.prog X.w) X.A (f (.int i t) (.int j u)) Q E s) :
  jy X f (dQ λ i j=>.int (g i j)):=by
 intro pins s σ H x y v u Q I rx ry h;obtain⟨i,j,rfl,rfl,q⟩:=h;obtain⟨t,rfl⟩:=rx;obtain⟨t',rfl⟩:=ry;exact rule i j t t' s _ _ ⟨.int (g i j),H,I.tok _,⟨_,rfl⟩,q⟩
theorem zW {g:Int->Int->Bool}
  (rule:∀(i j:Int)(t u:Tok)(s:Shared)(Q:eZ)(E:eZ),Q (.bool (g i j)) s->wpAny (model X.prog X.w) X.A (f (.int i t) (.int j u)) Q E s) :
  jy X f (dQ λ i j=>.bl (g i j)):=by
 intro pins s σ H x y v u Q I rx ry h;obtain⟨i,j,rfl,rfl,q⟩:=h;obtain⟨t,rfl⟩:=rx;obtain⟨t',rfl⟩:=ry;exact rule i j t t' s _ _ ⟨.bl (g i j),H,I,rfl,q⟩
def Gn (i j:Int):Prop:=0<j/\j<1073741824
def B9 (i j:Int):Prop:=0<=j/\j<=1000000/\i.natAbs<2^64
def N5 (i j:Int):Prop:=(-(2^64)<i/\i<2^64)\/(-(2^64)<j/\j<2^64)
theorem N5.ok {i j:Int}(h:N5 i j):IntMulOk i j:=by
 rcases h with⟨h1,h2⟩ | ⟨h1,h2⟩
 ·exact .of_left (intBits_le_64 h1 h2)
 ·exact .of_right (intBits_le_64 h1 h2)
theorem qw (k:Nat):(0:Int)<=2^k:=by
 rw[two_pow_cast];exact Int.natCast_nonneg _
theorem aP:jy X (binaryOp .Add) (dQ λ i j=>.int (i+j)):=C5 λ _ _ _ _ _ _ _ q=>add_int q
theorem bJ:jy X (binaryOp .Sub) (dQ λ i j=>.int (i-j)):=C5 λ _ _ _ _ _ _ _ q=>sub_int q
theorem cD:jy X (binaryOp .Mult) (rI N5 λ i j=>.int (i*j)):=AV λ _ _ _ _ _ _ _ hc q=>mul_int q hc.ok
theorem n5:jy X (binaryOp .FloorDiv) (rI Gn λ i j=>.int (i/j)):=AV λ i j _ _ _ _ _ hc q=>by
 have h1:=hc.1;have h2:=hc.2;exact floordiv_int ad (by rw[e_ i ad];exact q) (.inl (RF ad))
theorem eK:jy X (binaryOp .Mod) (rI (λ _ j=>0<j) λ i j=>.int (i%j)):=AV λ i j _ _ _ _ _ hc q=>by
 have h1:=hc;exact mod_int' ad (by rw[Int.fmod_eq_emod_of_nonneg i ad];exact q)
theorem DY:jy X (binaryOp .Pow) (rI B9 λ i j=>.int (i^j.toNat)):=AV λ _ _ _ _ _ _ _ hc q=>pow_int_small hc.1 hc.2.1 hc.2.2 q
theorem nn:jy X (binaryOp .LShift) (rI B9 λ i j=>.int (i*2^j.toNat)):=AV λ _ _ _ _ _ _ _ hc q=>lshift_int_small hc.1 hc.2.1 hc.2.2 q
theorem xb:jy X (binaryOp .RShift) (rI (λ _ j=>0<=j) λ i j=>.int (i/2^j.toNat)):=AV λ i j _ _ _ _ _ hc q =>
 rshift_int hc (by rw[e_ i (qw _)];exact q)
theorem ve:jy X (binaryOp .BitAnd) (dQ λ i j=>.int (Builtin.bitAnd i j)):=C5 λ _ _ _ _ _ _ _ q=>and_int q
theorem LV {g:Int->Int}
  (rule:∀(i:Int)(t:Tok)(s:Shared)(Q:eZ)(E:eZ),Q (.int (g i) s.toks) { s with toks:=s.toks+1 }->wpAny (model X.prog X.w) X.A (f (.int i t)) Q E s) :
  JC X f (rU λ i=>.int (g i)):=by
 intro pins s σ H x v Q I rx h;obtain⟨i,rfl,q⟩:=h;obtain⟨t,rfl⟩:=rx;exact rule i t s _ _ ⟨.int (g i),H,I.tok _,⟨_,rfl⟩,q⟩
theorem i5:JC X (unaryOp .USub) (rU λ i=>.int (-i)):=LV λ _ _ _ _ _ q=>neg_int q
end
def Hh:V->V->Bool
 | .Ę,.Ę=>true | .Ę,.int _=>true | .int _,.Ę=>true | .Ę,.bl _=>true | .bl _,.Ę=>true | .Ę,.str _=>true | .str _,.Ę=>true
 | .int _,.int _=>true | .bl _,.bl _=>true | .str _,.str _=>true | .Pt _,.Pt _=>true
 | .int _,.str _=>true | .str _,.int _=>true | .bl _,.str _=>true | .str _,.bl _=>true
 | _,_=>false
def uW:R2:=λ x y H Q=>Hh x y=true/\Q (.bl (decide (x=y))) H
def Mh:R2:=λ x y H Q=>Hh x y=true/\Q (.bl (!decide (x=y))) H
theorem sB:decide (V.int i=V.int j)=(i==j):=by
 rw[ź];simp
theorem xO:decide (V.bl i=V.bl j)=(i==j):=by
 rw[ź];simp
theorem ti:decide (V.str i=V.str j)=(i==j):=by
 rw[ź];simp
theorem sG:decide (V.Pt i=V.Pt j)=(i.toList==j.toList):=by
 rw[ź];cases i;cases j;simp
section
variable {X:Cx}{a b c:Expr}{ta tb tc:TE}{pos:Pos}
theorem aX (I:Inv X pins σ H s)(q:Q (.bl k) H)(e:k=k'):EP X pins σ Q (.bool k') s:=by
 subst e;exact⟨.bl k,H,I,rfl,q⟩
theorem iO:jy X (compareOp .Eq) uW:=by
 intro pins s σ H x y v u Q I rx ry h;obtain⟨hs,q⟩:=h;cases x with
 | Ę =>
  cases rx;cases y with
  | Ę=>cases ry;exact PySem.EqNone.eq_none_none (aX I q (by simp))
  | bl j=>cases ry;exact PySem.EqNone.eq_none_bool (aX I q (by simp))
  | int j=>obtain⟨t',rfl⟩:=ry;exact PySem.EqNone.eq_none_int (aX I q (by simp))
  | str j=>obtain⟨t',rfl⟩:=ry;exact PySem.EqNone.eq_none_str (aX I q (by simp))
  | _=>exact absurd (show false=true from hs) Ù
 | bl i =>
  cases rx;cases y with
  | Ę=>cases ry;exact PySem.EqNone.eq_bool_none (aX I q (by simp))
  | bl j=>cases ry;exact eq_bool (aX I q xO)
  | str j=>obtain⟨t',rfl⟩:=ry;exact PySem.EqMixed.eq_bool_str (aX I q (by simp))
  | _=>exact absurd (show false=true from hs) Ù
 | int i =>
  obtain⟨t,rfl⟩:=rx;cases y with
  | Ę=>cases ry;exact PySem.EqNone.eq_int_none (aX I q (by simp))
  | int j=>obtain⟨t',rfl⟩:=ry;exact eq_int (aX I q sB)
  | str j=>obtain⟨t',rfl⟩:=ry;exact PySem.EqMixed.eq_int_str (aX I q (by simp))
  | _=>exact absurd (show false=true from hs) Ù
 | str i =>
  obtain⟨t,rfl⟩:=rx;cases y with
  | Ę=>cases ry;exact PySem.EqNone.eq_str_none (aX I q (by simp))
  | bl j=>cases ry;exact PySem.EqMixed.eq_str_bool (aX I q (by simp))
  | int j=>obtain⟨t',rfl⟩:=ry;exact PySem.EqMixed.eq_str_int (aX I q (by simp))
  | str j=>obtain⟨t',rfl⟩:=ry;exact eq_str (aX I q ti)
  | _=>exact absurd (show false=true from hs) Ù
 | Pt i =>
  obtain⟨t,rfl⟩:=rx;cases y with
  | Pt j=>obtain⟨t',rfl⟩:=ry;exact PySem.W.eq_bytes (aX I q sG)
  | _=>exact absurd (show false=true from hs) Ù
 | _=>cases y <;> exact absurd (show false=true from hs) Ù
theorem mv:jy X (compareOp .NotEq) Mh:=by
 intro pins s σ H x y v u Q I rx ry h;obtain⟨hs,q⟩:=h;cases x with
 | Ę =>
  cases rx;cases y with
  | Ę=>cases ry;exact PySem.EqNone.ne_none_none (aX I q (by simp))
  | bl j=>cases ry;exact PySem.EqNone.ne_none_bool (aX I q (by simp))
  | int j=>obtain⟨t',rfl⟩:=ry;exact PySem.EqNone.ne_none_int (aX I q (by simp))
  | str j=>obtain⟨t',rfl⟩:=ry;exact PySem.EqNone.ne_none_str (aX I q (by simp))
  | _=>exact absurd (show false=true from hs) Ù
 | bl i =>
  cases rx;cases y with
  | Ę=>cases ry;exact PySem.EqNone.ne_bool_none (aX I q (by simp))
  | bl j=>cases ry;exact ne_bool (aX I q (ý not xO))
  | str j=>obtain⟨t',rfl⟩:=ry;exact PySem.EqMixed.ne_bool_str (aX I q (by simp))
  | _=>exact absurd (show false=true from hs) Ù
 | int i =>
  obtain⟨t,rfl⟩:=rx;cases y with
  | Ę=>cases ry;exact PySem.EqNone.ne_int_none (aX I q (by simp))
  | int j=>obtain⟨t',rfl⟩:=ry;exact ne_int (aX I q (ý not sB))
  | str j=>obtain⟨t',rfl⟩:=ry;exact PySem.EqMixed.ne_int_str (aX I q (by simp))
  | _=>exact absurd (show false=true from hs) Ù
 | str i =>
  obtain⟨t,rfl⟩:=rx;cases y with
  | Ę=>cases ry;exact PySem.EqNone.ne_str_none (aX I q (by simp))
  | bl j=>cases ry;exact PySem.EqMixed.ne_str_bool (aX I q (by simp))
  | int j=>obtain⟨t',rfl⟩:=ry;exact PySem.EqMixed.ne_str_int (aX I q (by simp))
  | str j=>obtain⟨t',rfl⟩:=ry;exact ne_str (aX I q (ý not ti))
  | _=>exact absurd (show false=true from hs) Ù
 | Pt i =>
  obtain⟨t,rfl⟩:=rx;cases y with
  | Pt j=>obtain⟨t',rfl⟩:=ry;exact PySem.W.ne_bytes (aX I q (ý not sG))
  | _=>exact absurd (show false=true from hs) Ù
 | _=>cases y <;> exact absurd (show false=true from hs) Ù
theorem kY:jy X (compareOp .Lt) (dQ λ i j=>.bl (decide (i<j))):=zW λ _ _ _ _ _ _ _ q=>lt_int q
theorem qh:jy X (compareOp .LtE) (dQ λ i j=>.bl (decide (i<=j))):=zW λ _ _ _ _ _ _ _ q=>le_int q
theorem gc:jy X (compareOp .Gt) (dQ λ i j=>.bl (decide (j<i))):=zW λ _ _ _ _ _ _ _ q=>gt_int q
theorem lP:jy X (compareOp .GtE) (dQ λ i j=>.bl (decide (j<=i))):=zW λ _ _ _ _ _ _ _ q=>ge_int q
theorem ax (b:Expr)(h:op ≠ .In:=by decide)(h2:op ≠ .NotIn:=by decide):behindInMarks op b=false:=by
 have e1:(op==CmpOp.In)=false:=by cases op <;> first | rfl | exact absurd rfl h
 have e2:(op==CmpOp.NotIn)=false:=by cases op <;> first | rfl | exact absurd rfl h2
 cases b <;> simp[behindInMarks,e1,e2]
theorem cv (ho:jy X (compareOp op) r)(ha:PE X a ta)(hb:PE X b tb)(hm:behindInMarks op b=false):PE X (.Compare a [op] [b] pos) (bR r ta tb):=by
 intro pins s σ H Q I h;exact wpAny_Compare1 (ET ha hb I h λ v u s2 x y H2 I2 rx ry q=>ho pins s2 σ H2 x y v u Q I2 rx ry q) hm
def fH (t:TE):TT:=λ σ H Q=>t σ H λ x H'=>∃ k,x=.bl k/\Q k H'
theorem ay (ho:jy X (compareOp op) r)(ha:PE X a ta)(hb:PE X b tb)(hm:behindInMarks op b=false):PT X (.Compare a [op] [b] pos) (fH (bR r ta tb)):=by
 intro pins s σ H Q I h;refine wpAny_isTrue_Compare1 (bj (ha pins s σ H _ I h) λ v s1 ⟨x,H1,I1,r1,q1⟩=>bj (hb pins s1 σ H1 _ I1 q1) λ u s2 ⟨y,H2,I2,r2,q2⟩ =>
  bj (ho pins s2 σ H2 x y v u _ I2 r1 r2 q2) λ c s3 ⟨z,H3,I3,r3,k,e,q3⟩=>?_) hm
 subst e;cases r3;exact Ņ ⟨H3,I3,q3⟩
theorem qG:(sizeLine:Nat)<2^63:=by rw[è];decide
theorem fJ (r:Vals [x] us):∃ u,us=[u]/\RelV x u:=by
 cases r with
 | cons r1 r2=>cases r2;exact⟨_,rfl,r1⟩
theorem tq (r:Vals [x,y] us):∃ u w',us=[u,w']/\RelV x u/\RelV y w':=by
 cases r with
 | cons r1 r2 =>
  cases r2 with
  | cons r3 r4=>cases r4;exact⟨_,_,rfl,r1,r3⟩
theorem vB:dL X (.builtin "abs") (λ xs H Q=>∃ i,xs=[.int i]/\Q (.int (if i<0 then -i else i)) H):=by
 intro pins s σ H xs us Q I r h;obtain⟨i,rfl,q⟩:=h;obtain⟨u,rfl,t,rfl⟩:=fJ r;exact call_abs_int λ u tk=>⟨.int (if i<0 then -i else i),H,I.tok _,⟨_,rfl⟩,q⟩
theorem lR (hc:X.calm=true):dL X (.builtin "max") (λ xs H Q=>∃ i j,xs=[.int i,.int j]/\Q (.int (if j>i then j else i)) H):=by
 intro pins s σ H xs us Q I r h;obtain⟨i,j,rfl,q⟩:=h;obtain⟨u,w',rfl,⟨t,rfl⟩,⟨t',rfl⟩⟩:=tq r;refine max_two_ints (I.ok.hd hc) λ h' tk k=>⟨_,H,I.kept k,?_,q⟩;by_cases hj:j>i
 ·rw[Ë hj,Ë hj];exact⟨_,rfl⟩
 ·rw[Æ hj,Æ hj];exact⟨_,rfl⟩
theorem mh (hc:X.calm=true):dL X (.builtin "min") (λ xs H Q=>∃ i j,xs=[.int i,.int j]/\Q (.int (if j<i then j else i)) H):=by
 intro pins s σ H xs us Q I r h;obtain⟨i,j,rfl,q⟩:=h;obtain⟨u,w',rfl,⟨t,rfl⟩,⟨t',rfl⟩⟩:=tq r;refine min_two_ints (I.ok.hd hc) λ h' tk k=>⟨_,H,I.kept k,?_,q⟩;by_cases hj:j<i
 ·rw[Ë hj,Ë hj];exact⟨_,rfl⟩
 ·rw[Æ hj,Æ hj];exact⟨_,rfl⟩
theorem gI:dL X (.type "int") (λ xs H Q=>(∃ i,xs=[.int i]/\Q (.int i) H)\/∃ k,xs=[.bl k]/\Q (.int (if k then 1 else 0)) H):=by
 intro pins s σ H xs us Q I r h;rcases h with⟨i,rfl,q⟩ | ⟨k,rfl,q⟩
 ·obtain⟨u,rfl,t,rfl⟩:=fJ r;exact call_int_int ⟨.int i,H,I,⟨_,rfl⟩,q⟩
 ·obtain⟨u,rfl,r1⟩:=fJ r;cases r1;exact call_int_bool ⟨.int (if k then 1 else 0),H,I.tok _,⟨_,rfl⟩,q⟩
end
structure OT (h:Heap)(x dx C:Addr)(mA:bD):Prop where
 obj:h.get? x\PySem.W.instObj C dx
 ns:h.Ns1 dx mA
 ne:dx≠x
theorem mH {h:Heap}(n:h.Ns1 dx mA):∃ od,h.get? dx\od/\∀ name,PySem.W.lookIn name od\mA name:=by
 obtain⟨o,es,ep,ho,hd,hk,_,hm⟩:=n;refine⟨o,ho,λ name=>?_⟩;have e:=hm name;unfold nsFind findBy at e;rw[<- Array.find?_toList] at e;unfold PySem.W.lookIn;rw[hd]
 dsimp only
 split
 ·rename_i y q
  rw[q] at e;exact ý some e
 ·rename_i q
  rw[q] at e;have a:es.toList.any (·.refKey)=false:=by
   rw[List.any_eq_false];intro y hy;obtain⟨z,t,Wv⟩:=hk y (Array.mem_toList_iff.mp hy);simp[DictEntry.refKey,Wv]
  have a':¬ es.toList.any (·.refKey)=true:=by rw[a];exact Ù
  rw[Æ a'];exact ý some e
theorem OT.look (I:OT h x dx C mA):∃ od,PySem.W.InstAt h x (PySem.W.instObj C dx) C (some od)/\∀ name,PySem.W.lookIn name od=some (mA name) :=
 let ⟨od,ho,hl⟩:=mH I.ns
 ⟨od,⟨I.obj,rfl,rfl,ho⟩,hl⟩
section
variable {prog:Program}{w:World}{A:Around}{E:eZ}{s:Shared}{K:PySem.W.Frag}{x dx C f:Addr}{mA:bD}{name:Str}{v:Value}
theorem Ah (X:K.In s.heap)(I:OT s.heap x dx C mA)(hg:PySem.W.plainGet K C name=true)(hh:PySem.W.hasDictIn K C=true)
  (ha:PySem.W.findIn K (.ref C) name\none) (hv:mA name\v) (Vi:PySem.W.handedIn v=true) (h:Q v { s with toks:=s.toks+1 }) :
  wpAny (model prog w) A (getAttr (.ref x) name expr) Q E s:=by
 obtain⟨od,J,hl⟩:=I.look;exact PySem.W.get_value X J (M_ hg).1 (PySem.W.findObj_own hh ha rfl (by rw[hl,hv])) Vi h
theorem xw (X:K.In s.heap)(I:OT s.heap x dx C mA)(hg:PySem.W.plainGet K C name=true)
  (hf:PySem.W.findIn K (.ref C) name\some (.ref f)) (ht:PySem.W.isFn K (.ref f)=true) (hv:mA name=none) (h:Q (.ref f,[.ref x]) s) :
  wpAny (model prog w) A (getMethod (.ref x) name pl) Q E s:=by
 obtain⟨od,J,hl⟩:=I.look;exact PySem.W.method_fn X J (M_ hg).1 (M_ hg).2 hf (þ.mp ht) (by show(PySem.W.lookIn name od).map (·.isSome)\false;rw[hl,hv];rfl) h
theorem zP (X:K.In s.heap)(I:OT s.heap x dx C mA)
  (hs:PySem.W.findIn K (.ref C) "__setattr__"\some (.builtin "object.__setattr__")) (hp:PySem.W.plainOver K C=true) (ht:PySem.W.takerIn K C name\none) (hh:PySem.W.hasDictIn K C=true)
  (hw:PySem.Within mA ns) (R_:ns.length<=sizeLine)
  (h:∀ h',OT h' x dx C (λ y=>if y=name then some v else mA y)->Heap.SameBut dx s.heap h'->Q () { s with heap:=h',toks:=s.toks+2 }) :
  wpAny (model prog w) A (setAttr (.ref x) name v) Q E s:=by
 obtain⟨od,J,hl⟩:=I.look;refine PySem.W.set_plain X J hs (PySem.W.osa_open X J hp ht λ b=>?_);obtain⟨cd,hc,OB⟩:=PySem.W.any_some hh;have hx:=I.obj;refine À (Á (À (À (wpAny_loadPart hx (À (PySem.W.Looks.here (PySem.W.looks_clsIn X hc) ?_))))));rw[OB];refine Á (À (Á (À ?_)));refine wpAny_nsSet1 I.ns λ h' Vk QR=>?_;obtain⟨oD,esD,epD,UC,WB,Ql⟩:=Vk.count (PySem.Within.cons name v hw);refine À (wpAny_lookBehind UC (by rw[WB];exact pastItsLine_dict (È Ql (by rw[à];lia))) ?_)
 exact Á (h _ ⟨(QR.2 _ (Ne.symm I.ne)).trans I.obj,Vk,I.ne⟩ QR)
theorem xI (X:K.In s.heap)(hm:PySem.W.makesIn K C=true)
  (hi:PySem.W.findIn K (.ref C) "__init__"\some (.ref f)) (hf:PySem.W.typeIn K (.ref f)\.type "function")
  (h:codeAny (model prog w) (A.under (.builtin "type.__call__" ⟨.ref C::vs,kw⟩)) (.call (.ref f) ⟨.ref (s.heap.objs.size+1)::vs,kw⟩) (PySem.W.InitBack (s.heap.objs.size+1) R)
   { s with heap:=(s.heap.push PySem.W.emptyDict).push (PySem.W.instObj C s.heap.objs.size) }) :
  codeAny (model prog w) A (.call (.ref C) ⟨vs,kw⟩) R s:=by
 obtain⟨hh,g,d,t,os⟩:=s;exact PySem.W.make_core (PySem.W.makes_of X hm) (PySem.W.looks_findIn X hi) (λ self=>PySem.W.bind_fn X self hf) (.inl rfl) h
end
def cu (f:Str)(v:V):List (Str × V)->List (Str × V)
 | []=>[(f,v)]
 | (g,x)::r=>if g=f then(g,v)::r else(g,x)::cu f v r
theorem fZ (f g:Str)(v:V):∀ fs:List (Str × V),(cu f v fs).lookup g=if g=f then some v else fs.lookup g
 | []=>by
  show List.lookup g [(f,v)]=_;by_cases h:g=f
  ·have hb:=þ.mpr h;simp only[List.lookup,hb,if_pos h]
  ·have hb:=ü.mpr h;simp only[List.lookup,hb,if_neg h]
 | (k,x)::r=>by
  have ih:=fZ f g v r;rw[show cu f v ((k,x)::r)=(if k=f then(k,v)::r else(k,x)::cu f v r) from rfl]
  by_cases hk:k=f
  ·rw[Ë hk];by_cases h:g=k
   ·have hb:=þ.mpr h;simp only[List.lookup,hb,if_pos (h.trans hk)]
   ·have hb:=ü.mpr h;simp only[List.lookup,hb,if_neg (λ e:g=f=>h (e.trans hk.symm))]
  ·rw[Æ hk];by_cases h:g=k
   ·have hb:=þ.mpr h;simp only[List.lookup,hb,if_neg (λ e:g=f=>hk (h.symm.trans e))]
   ·have hb:=ü.mpr h;simp only[List.lookup,hb];exact ih
theorem jh (f:Str)(v:V):∀ fs:List (Str × V),f∈(cu f v fs).map (·.1)/\∀ g,g∈fs.map (·.1)->g∈(cu f v fs).map (·.1)
 | []=>⟨by simp[cu],λ g h=>by simp at h⟩
 | (k,x)::r=>by
  obtain⟨i1,i2⟩:=jh f v r;rw[show cu f v ((k,x)::r)=(if k=f then(k,v)::r else(k,x)::cu f v r) from rfl]
  by_cases hk:k=f
  ·rw[Ë hk];subst hk;exact⟨by simp,λ g h=>by simpa using h⟩
  ·rw[Æ hk];refine⟨?_,λ g h=>?_⟩
   ·rw[É];exact Ì _ i1
   ·rw[É] at h ⊢;rcases Ö.mp h with e | e
    ·exact Ö.mpr (.inl e)
    ·exact Ì _ (i2 g e)
theorem ju (f:Str)(v:V):∀ fs:List (Str × V),(cu f v fs).length<=fs.length+1
 | []=>by simp[cu]
 | (k,x)::r=>by
  have ih:=ju f v r;rw[show cu f v ((k,x)::r)=(if k=f then(k,v)::r else(k,x)::cu f v r) from rfl]
  by_cases hk:k=f
  ·rw[Ë hk,à,à];lia
  ·rw[Æ hk,à,à];lia
theorem ψ.some_of (r:ψ (some v) o):∃ u,o\u/\RelV v u:=by
 cases o with
 | none=>exact(show False from r).elim
 | some u=>exact⟨u,rfl,r⟩
theorem ψ.none_of (r:ψ none o):o=none:=by
 cases o with
 | none=>rfl
 | some u=>exact(show False from r).elim
theorem t8 (r:RelV v u):PySem.W.handedIn u=true:=by
 cases v with
 | Ę=>cases (show u=.none from r);rfl
 | bl b=>cases (show u=Value.bool b from r);rfl
 | int i=>obtain⟨t,e⟩:=(show ∃ t,u=.int i t from r);cases e;rfl
 | str x=>obtain⟨t,e⟩:=(show ∃ t,u=.str x t from r);cases e;rfl
 | Pt b=>obtain⟨t,e⟩:=(show ∃ t,u=Value.bytes b t from r);cases e;rfl
 | QD b=>obtain⟨t,e⟩:=(show ∃ t,u=Value.float b t from r);cases e;rfl
 | ref a=>cases (show u=.ref a from r);rfl
 | ty n=>cases (show u=Value.type n from r);rfl
section
variable {P:Program}{w:World}{H H':Hp}{h h':Heap}{a C dx:Addr}{fs fs':List (Str × V)}
theorem jM (Ě:ω P w H h)(e:H a\.ins C dx fs):∃ mA,OT h a dx C mA/\(∀ f,ψ (fs.lookup f) (mA f))/\PySem.Within mA (fs.map (·.1))/\fs.length<=1000/\H dx\.own a:=by
 obtain⟨d,z,ne,ob,mA,n,r,q⟩:=(show Ē P w H h a (.ins C dx fs) from Ě a _ e);exact⟨mA,⟨ob,n,ne⟩,r,q,z,d⟩
end
structure PO (K:PySem.W.Frag)(C:Addr):Prop where
 pg:PySem.W.plainGet K C Str.empty=true
 hd:PySem.W.hasDictIn K C=true
 po:PySem.W.plainOver K C=true
 sa:PySem.W.findIn K (.ref C) "__setattr__"\some (.builtin "object.__setattr__")
theorem PO.get {K:PySem.W.Frag}(c:PO K C)(f:Str):PySem.W.plainGet K C f=true:=c.pg
def ν (K:PySem.W.Frag)(C:Addr)(f:Str):Prop:=PySem.W.findIn K (.ref C) f\none
theorem ν.S5 {K:PySem.W.Frag}(n:ν K C f):PySem.W.takerIn K C f\none:=by
 unfold PySem.W.takerIn;rw[show PySem.W.findIn K (.ref C) f\none from n];rfl
structure Fv (K:PySem.W.Frag)(C:Addr)(m:Str)(f:Addr):Prop where
 at_:PySem.W.findIn K (.ref C) m\some (.ref f)
 fn:PySem.W.isFn K (.ref f)=true
 kp:PySem.W.keepIn K (.ref f)=true
section
variable {X:Cx}{pins:List (Addr × Obj)}{σ:St}{H:Hp}{s:Shared}{a C dx:Addr}{fs:List (Str × V)}{f:Str}{v:V}{A:Around}{E:eZ}
theorem rf (I:Inv X pins σ H s)(e:H a\.ins C dx fs)(c:PO X.K C)(n:ν X.K C f)(l:fs.lookup f\v)
  (h:∀ u s',Inv X pins σ H s'->RelV v u->Q u s'):wpAny (model X.prog X.w) A (getAttr (.ref a) f b) Q E s:=by
 obtain⟨mA,O,r,_,_,_⟩:=jM I.Ě e;obtain⟨u,hu,ru⟩:=ψ.some_of (by rw[<- l];exact r f)
 exact Ah I.Τ O (c.get f) c.hd n hu (t8 ru) (h u _ (I.tok _) ru)
theorem kB (I:Inv X pins σ H s)(e:H a\.ins C dx fs)(c:PO X.K C)(k:Fv X.K C m g)(l:fs.lookup m=none)
  (h:Q (.ref g,[.ref a]) s):wpAny (model X.prog X.w) A (getMethod (.ref a) m pl) Q E s:=by
 obtain⟨mA,O,r,_,_,_⟩:=jM I.Ě e;have hn:=ψ.none_of (by rw[<- l];exact r m)
 exact xw I.Τ O (c.get m) k.at_ k.fn hn h
theorem rN (I:Inv X pins σ H s)(e:H a\.ins C dx fs)(c:PO X.K C)(n:ν X.K C f)(hl:fs.length<1000)(ry:RelV y u)
  (h:∀ s',Inv X pins σ (ak H a (.ins C dx (cu f y fs))) s'->Q () s'):wpAny (model X.prog X.w) A (setAttr (.ref a) f u) Q E s:=by
 obtain⟨mA,O,r,wi,_,ho⟩:=jM I.Ě e;have hz:(fs.map (·.1)).length<=sizeLine:=by rw[Ç,è];lia
 refine zP I.Τ O c.sa c.po n.S5 c.hd wi hz λ h' O' sb=>h _ ?_;have hd:∃ o,h'.get? dx\o:=let ⟨o,_,_,e',_⟩:=O'.ns;⟨o,e'⟩
 refine I.write (x:=a) (by rw[e];exact True.intro) (.inr ho) (λ b q hb z=>(sb.2 b hb).trans z) hd ?_
 refine⟨by rw[ai O.ne];exact ho,?_,O.ne,O'.obj,_,O'.ns,λ g=>?_,λ g hg=>?_⟩
 ·have:=ju f y fs;lia
 ·rw[fZ];by_cases q:g=f
  ·rw[Ë q,Ë q];exact ry
  ·rw[Æ q,Æ q];exact r g
 ·by_cases q:g=f
  ·rw[q];exact(jh f y fs).1
  ·refine(jh f y fs).2 g (wi g λ z=>hg ?_);show(if g=f then some u else mA g)=none
   rw[Æ q];exact z
theorem Inv.made (I:Inv X pins σ H s):Inv X pins σ (ak (ak H s.heap.objs.size (.own (s.heap.objs.size+1))) (s.heap.objs.size+1) (.ins C s.heap.objs.size []))
  { s with heap:=(s.heap.push PySem.W.emptyDict).push (PySem.W.instObj C s.heap.objs.size) }:=by
 have e1:(s.heap.push PySem.W.emptyDict).get? s.heap.objs.size\PySem.W.emptyDict:=Ó s.heap rfl;have e2:((s.heap.push PySem.W.emptyDict).push (PySem.W.instObj C s.heap.objs.size)).get? (s.heap.objs.size+1)\PySem.W.instObj C s.heap.objs.size:=by
  have:=Ó (s.heap.push PySem.W.emptyDict) (o:=PySem.W.instObj C s.heap.objs.size) rfl
  rwa[ő] at this
 have e3:(s.heap.push PySem.W.emptyDict).Ns s.heap.objs.size (λ _=>none):=⟨PySem.W.emptyDict,#[],_,e1,rfl,(λ e he=>absurd he (by simp)),λ _=>rfl⟩
 have I1:=I.laid (a:=s.heap.objs.size) (o:=.own (s.heap.objs.size+1)) (h':=s.heap.push PySem.W.emptyDict) (t':=s.toks) (λ b u q=>Ä _ q) (Å _) ⟨_,e1⟩;refine I1.laid (λ b u q=>Ä _ q) (Ō (ő _ _)) ?_;have ne:s.heap.objs.size≠s.heap.objs.size+1:=æ (Nat.lt_succ_self _);refine⟨by rw[ai ne,bz],Ť _,ne,e2,λ _=>none,(Heap.Ns1.of_empty e3).at λ o q=>Ä _ q,λ _=>True.intro,λ y hy=>absurd rfl hy⟩
theorem Ao (hb:attributeBase e f env (eval e env)=eval e env)
  (h:wpAny (model prog w) A (eval e env) (λ o ģ=>wpAny (model prog w) A (getAttr o f true) Q E ģ) E s):wpAny (model prog w) A (eval (.Attribute e f pos) env) Q E s :=
 Attribute_any_ h (by rw[arm_eval_Attribute,hb])
end
def rJ (K:PySem.W.Frag)(ta:TE)(f:Str):TE:=λ σ H Q=>ta σ H λ x H1=>∃ a C dx fs v,x=.ref a/\H1 a\.ins C dx fs/\PO K C/\ν K C f/\fs.lookup f\v/\Q v H1
def Ja (K:PySem.W.Frag)(ta tv:TE)(f:Str):TS:=λ D σ H=>tv σ H λ y H1=>ta σ H1 λ x H2=>∃ a C dx fs,x=.ref a/\H2 a\.ins C dx fs/\PO K C/\ν K C f/\fs.length<1000 /\
 D.nx σ (ak H2 a (.ins C dx (cu f y fs)))
section
variable {X:Cx}{o e value:Expr}{f:Str}{pos pos' VB:Pos}{ta tv:TE}
theorem Eb (he:PE X e ta)(hb:attributeBase e f X.env (eval e X.env)=eval e X.env):PE X (.Attribute e f pos) (rJ X.K ta f):=by
 intro pins s σ H Q I h;refine Ao hb (bj (he pins s σ H _ I h) λ u s1 ⟨x,H1,I1,rx,a,C,dx,fs,v,ex,ea,c,n,l,q⟩=>?_);subst ex;obtain rfl:u=.ref a:=rx;exact rf I1 ea c n l λ u' s2 I2 ru=>⟨v,H1,I2,ru,q⟩
theorem gf (ha:PE X o ta)(hv:PE X value tv)(hs:swapsWith value (some (.Attribute o f pos')) pos.line X.env=pure false):PS X (.Assign [.Attribute o f pos'] value pos) (Ja X.K ta tv f):=by
 intro pins s σ H D I h;refine Qr (bj (hv pins s σ H _ I h) λ u s1 ⟨y,H1,I1,ry,q⟩=>bj (ha pins s1 σ H1 _ I1 q) λ ov s2 ⟨x,H2,I2,rx,a,C,dx,fs,ex,ea,c,n,l,q2⟩=>?_) hs;subst ex;obtain rfl:ov=.ref a:=rx;exact rN I2 ea c n l ry λ s3 I3=>⟨σ,_,I3,q2⟩
end
section
variable {X:Cx}{pins:List (Addr × Obj)}{σ:St}{H:Hp}{s:Shared}{A:Around}{E:eZ}{Q:eZ}{c:Value}{b:Bool}
inductive χ (K:PySem.W.Frag)(H:Hp):V->Value->Prop where
 | Ę:χ K H .Ę (.type "NoneType")
 | bl (x:Bool):χ K H (.bl x) (.type "bool")
 | int (i:Int):χ K H (.int i) (.type "int")
 | str (x:Str):χ K H (.str x) (.type "str")
 | QD (x:UInt64):χ K H (.QD x) (.type "float")
 | lst {a:Addr} {xs:List V} (e:H a\.lst xs):χ K H (.ref a) (.type "list")
 | Η {a:Addr} {o:Obj} {xs:List V} (e:H a\.Η o (.lst xs)):χ K H (.ref a) (.type "list")
 | tup {a:Addr} {xs:List V} (e:H a\.tup xs):χ K H (.ref a) (.type "tuple")
 | dK {a:Addr} {Ý:List (Key × V)} (e:H a\.dK Ý):χ K H (.ref a) (.type "dict")
 | dT {a:Addr} {Ý:List (List NK × V)} (e:H a\.dT Ý):χ K H (.ref a) (.type "dict")
 | ins {a C dx:Addr} {fs:List (Str × V)} (e:H a\.ins C dx fs) (cl:PO K C) (ha:PySem.W.findIn K (.ref C) "__class__"\some (.builtin "object.__class__"))
   (hn:PySem.W.specialIn K (.builtin "object.__class__") "__get__"\some (.builtin "getset_descriptor.__get__")) (Qv:PySem.W.takesIn K (.builtin "object.__class__")\true)
   (hm:PySem.W.mroIn K C (.type "object")\true):χ K H (.ref a) (.ref C)
theorem tX (I:Inv X pins σ H s)(rx:RelV x u)(ty:χ X.K H x t)(e:PySem.W.kitOne X.K t c\b)(h:∀ tk,Q (.bool b) { s with toks:=tk }) :
  wpAny (model X.prog X.w) A (call (.builtin "isinstance") [u,c]) Q E s:=by
 cases ty with
 | Ę=>cases (show u=.none from rx);exact ğ PySem.W.kitx_none I.Τ True.intro e (λ z=>nomatch z) h
 | bl y=>cases (show u=Value.bool y from rx);exact ğ PySem.W.kitx_bool I.Τ True.intro e (λ z=>nomatch z) h
 | int i=>obtain⟨t,q⟩:=(show ∃ t,u=.int i t from rx);cases q;exact ğ PySem.W.kitx_int I.Τ True.intro e (λ z=>nomatch z) h
 | str y=>obtain⟨t,q⟩:=(show ∃ t,u=.str y t from rx);cases q;exact ğ PySem.W.kitx_str I.Τ True.intro e (λ z=>nomatch z) h
 | QD y=>obtain⟨t,q⟩:=(show ∃ t,u=Value.float y t from rx);cases q;exact ğ PySem.W.kitx_float I.Τ True.intro e (λ z=>nomatch z) h
 | @lst a xs ea =>
  cases (show u=.ref a from rx);obtain⟨_,_,n,_,h1⟩:=(show Ē X.prog X.w H s.heap a (.lst xs) from I.Ě a _ ea);exact ğ PySem.W.kitx_list I.Τ ⟨_,h1,rfl⟩ e (λ z=>nomatch z) h
 | @Η a ob xs ea =>
  cases (show u=.ref a from rx);obtain⟨_,_,_,n,_,h1⟩:=(show Ē X.prog X.w H s.heap a (.Η ob (.lst xs)) from I.Ě a _ ea);exact ğ PySem.W.kitx_list I.Τ ⟨_,h1,rfl⟩ e (λ z=>nomatch z) h
 | @tup a xs ea =>
  cases (show u=.ref a from rx);obtain⟨_,_,_,p⟩:=(show Ē X.prog X.w H s.heap a (.tup xs) from I.Ě a _ ea);obtain⟨o,h1,h2,_⟩:=p;exact ğ PySem.W.kitx_tuple I.Τ ⟨o,h1,h2⟩ e (λ z=>nomatch z) h
 | @dK a Ý ea =>
  cases (show u=.ref a from rx);obtain⟨_,_,vs,_,p⟩:=(show Ē X.prog X.w H s.heap a (.dK Ý) from I.Ě a _ ea);obtain⟨o,es,ep,h1,h2,_⟩:=p;exact ğ PySem.W.kitx_dict I.Τ ⟨o,h1,h2.1⟩ e (λ z=>nomatch z) h
 | @dT a Ý ea =>
  cases (show u=.ref a from rx);obtain⟨_,_,xs,_,o,es,ep,h1,h2,_⟩:=(show Ē X.prog X.w H s.heap a (.dT Ý) from I.Ě a _ ea);exact ğ PySem.W.kitx_dict I.Τ ⟨o,h1,h2.1⟩ e (λ z=>nomatch z) h
 | @ins a C dx fs ea cl ha hn Qv hm =>
  cases (show u=.ref a from rx);obtain⟨mA,O,_⟩:=jM I.Ě ea;obtain⟨od,J,_⟩:=O.look;exact ğ (PySem.W.kitx_own (cl.get _) cl.hd ha hn Qv hm) I.Τ J e (λ z=>nomatch z) h
end
structure Ă (k:Nat)(A:Around):Prop where
 hd:A.handled=none
 dp:A.depth+3*k+5<recursionLimit
 un:A.units+16*k+200<cLine
 gd:A.guards=some []
theorem Ă.mono (r:Ă k A)(h:j<=k):Ă j A:=⟨r.hd,by have:=r.dp;lia,by have:=r.un;lia,r.gd⟩
theorem Ă.deeper (r:Ă (k+1) A)(env:Env):Ă k (A.deeper env) :=
 ⟨r.hd,by have:=r.dp;show A.depth+1+3*k+5<_;lia,by have:=r.un;show A.units+3+16*k+200<_;lia,r.gd⟩
theorem ri {A:Around}:(A.under (.builtin "type.__call__" ⟨.ref C::us,kw⟩)).depth=A.depth+1:=by
 first | rfl | simp[Around.under,Code.weight,Code.isCreation,Code.isGuard,Code.isCaller,Code.frames,Code.isFrame,guardIds]
theorem qu {A:Around}:(A.under (.builtin "type.__call__" ⟨.ref C::us,kw⟩)).units=A.units+1:=by
 first | rfl | simp[Around.under,Code.cUnits,Code.frames,Code.isFrame]
theorem Ă.make (r:Ă (k+1) A)(C:Addr)(us:List Value)(kw:List (Str × Value)):Ă k (A.under (.builtin "type.__call__" ⟨.ref C::us,kw⟩)) :=
 ⟨r.hd,by have:=r.dp;rw[ri];lia,by have:=r.un;rw[qu];lia,by have h:=r.gd;first | (simp only[Around.under];rw[h];rfl) | simp[Around.under,h,pushGuards,Code.guards,Code.isGuard,guardIds]⟩
theorem Ă.depth (r:Ă k A):A.depth<recursionLimit:=by have:=r.dp;lia
theorem Ă.ML {k:Nat}{A:Around}(r:Ă k A):A.units<cLine:=by have:=r.un;lia
def aS:TA:=λ _ H Q=>Q [] H
def aw (ta:TE)(tr:TA):TA:=λ σ H Q=>ta σ H λ x H1=>tr σ H1 λ xs H2=>Q (x::xs) H2
section
variable {X:Cx}{e:Expr}{es:List Expr}{te:TE}{t:TA}{pos:Pos}
theorem aq:PA X [] aS:=λ _ _ _ _ H Q I h=>Calls.spliced_nil ⟨[],H,I,.nil,h⟩
theorem ae (ha:PE X e te)(hr:PA X es t)(hs:starEach (e::es) X.env=(false,eval e X.env)::starEach es X.env:=by rfl):PA X (e::es) (aw te t):=by
 intro pos pins s σ H Q I h;rw[hs];refine Pi (bj (ha pins s σ H _ I h) λ u s1 ⟨x,H1,I1,r1,q1⟩=>?_);exact bj (hr pos pins s1 σ H1 _ I1 q1) λ us s2 ⟨xs,H2,I2,r2,q2⟩=>⟨x::xs,H2,I2,.cons r1 r2,q2⟩
def iP (t:TA):TE:=λ σ H Q=>t σ H λ xs H1=>xs.length<=sizeLine/\∀ p,H1 p=none->Q (.ref p) (ak H1 p (.tup xs))
def iZ (t:TA):TE:=λ σ H Q=>t σ H λ xs H1=>xs.length<=sizeLine/\∀ p,H1 p=none->Q (.ref p) (ak H1 p (.lst xs))
theorem aI {x1}(h:PA X es t):PE X (.Tuple es x1 pos) (iP t):=by
 intro pins s σ H Q I hq;refine wpAny_Tuple_spliced (bj (h pos pins s σ H _ I hq) λ us s1 ⟨xs,H1,I1,r,z,q⟩=>⟨by rw[<- r.length];exact z,?_⟩)
 have hf:=I1.Ě.fresh (Å _);refine⟨.ref s1.heap.objs.size,ak H1 s1.heap.objs.size (.tup xs),I1.laid (λ b u e=>Ä _ e) (Å _) ?_,rfl,q _ hf⟩;exact⟨z,us,r,⟨_,Ó _ rfl,rfl,_,rfl⟩⟩
theorem eJ (h:PA X es t):PE X (.List es pos) (iZ t):=by
 intro pins s σ H Q I hq;refine wpAny_List_spliced (bj (h pos pins s σ H _ I hq) λ us s1 ⟨xs,H1,I1,r,z,q⟩=>⟨by rw[<- r.length];exact z,?_⟩)
 have hf:=I1.Ě.fresh (Å _);refine⟨.ref s1.heap.objs.size,ak H1 s1.heap.objs.size (.lst xs),I1.laid (λ b u e=>Ä _ e) (Å _) ?_,rfl,q _ hf⟩;exact⟨z,us,0,r,Ó _ rfl⟩
end
abbrev Sp:=List V->Hp->VK->XK->Prop
abbrev qp:=List Env->Hp->Shared->XK->Value->Shared->Prop
structure OV (P:Program)(w:World)(K:PySem.W.Frag)(mg:bD)(base:Heap)(A:Around)(outer:List Env)(s:Shared)(H:Hp):Prop where
 frames:A.frames\outer
 mod:Mod K mg base
 bs:∀ b o,base.get? b\o->s.heap.get? b\o/\H b=none
 Q3:base.objs.size<=s.heap.objs.size
 MD:s.heap.FunFrames base outer
 Sr:∀ b∈n6 outer,H b=none
 Ě:ω P w H s.heap
 bare:AllBare s.gens
def CE (outer:List Env)(P:Program)(w:World)(H:Hp)(s:Shared)(Q:VK)(u:Value)(s':Shared):Prop :=
 ∃ v H',s'.os=s.os/\AllBare s'.gens/\Un (n6 outer) [] H H' s.heap s'.heap/\ω P w H' s'.heap/\RelV v u/\Q v H'
def CR (CX:qp)(outer:List Env)(P:Program)(w:World)(H:Hp)(s:Shared)(Q:VK)(E:XK)(r:Result)(s':Shared):Prop :=
 match r with
 | .ok (.ret u)=>CE outer P w H s Q u s'
 | .ok _=>False
 | .error e=>CX outer H s E e s'
structure ð (P:Program)(w:World)(K:PySem.W.Frag)(mg:bD)(base:Heap)(CX:qp)(k:Nat)(f:Addr)(fd:FuncData)(ps:List Str)(sp:Sp):Prop where
 len:∀ vs H Q E,sp vs H Q E->vs.length=ps.length
 run:∀(A:Around)(outer:List Env)(s:Shared)(H:Hp)(args:Args)(us:List Value)(vs:List V)(Q:VK)(E:XK),Ă k A->OV P w K mg base A outer s H->BindsTo s fd args (ps.zip us)->Vals vs us->sp vs H Q E ->
  codeAny (model P w) A (.call (.ref f) args) (CR CX outer P w H s Q E) s
theorem ð.mono {K:PySem.W.Frag}(F:ð P w K mg base CX j f fd ps sp)(h:j<=k) :
  ð P w K mg base CX k f fd ps sp:=⟨F.len,λ A outer s H args us vs Q E hr=>F.run A outer s H args us vs Q E (hr.mono h)⟩
theorem ð.imp {K:PySem.W.Frag}(F:ð P w K mg base CX k f fd ps sp)
  (h:∀ vs H Q E,ZT vs H Q E->sp vs H Q E):ð P w K mg base CX k f fd ps ZT :=
 ⟨λ vs H Q E q=>F.len vs H Q E (h _ _ _ _ q),λ A outer s H args us vs Q E hr he hb hv hs=>F.run A outer s H args us vs Q E hr he hb hv (h _ _ _ _ hs)⟩
theorem OV.make {K:PySem.W.Frag}(e:OV P w K mg base A outer s H)(C:Addr)(us:List Value)(kw:List (Str × Value)) :
  OV P w K mg base (A.under (.builtin "type.__call__" ⟨.ref C::us,kw⟩)) outer s H:=⟨by first | exact e.frames | (simpa[Around.under,Code.envs,Code.isFrame,pushEnvs] using e.frames),e.mod,e.bs,e.Q3,e.MD,e.Sr,e.Ě,e.bare⟩
section
variable {X:Cx}{pins:List (Addr × Obj)}{σ:St}{H:Hp}{s s':Shared}
theorem Inv.Sv (I:Inv X pins σ H s):OV X.prog X.w X.K X.mg X.base X.A X.stack s H :=
 ⟨I.ok.frames,I.ok.mod,I.bs,È I.ok.Q3 I.sz,I.stack,I.NM,I.Ě,I.bare⟩
theorem Inv.after (I:Inv X pins σ H s)(h:CE X.stack X.prog X.w H s Q u s'):EP X pins σ Q u s':=by
 obtain⟨v,H',os,bare,un,Ě,r,q⟩:=h;obtain⟨hh,g,d,t,ĵ⟩:=s';obtain rfl:ĵ = s.os:=os;exact⟨v,H',I.call un Ě bare (λ b z=>absurd z (by simp)),r,q⟩
end
def cV (sp:Sp)(N2:List V)(E:XK)(t:TA):TE:=λ σ H Q=>t σ H λ vs H1=>sp (vs++N2) H1 Q E
def gV (C:Addr)(sp:Sp)(N2:List V)(E:XK)(t:TA):TE:=λ σ H Q=>t σ H λ vs H1=>∀ x dx,H1 x=none->H1 dx=none->dx≠x ->
 sp (.ref x::(vs++N2)) (ak (ak H1 dx (.own x)) x (.ins C dx [])) (λ v H2=>v=.Ę/\Q (.ref x) H2) E
def Binds (K:PySem.W.Frag)(fd:FuncData)(ps:List Str)(ds:List Value):Prop :=
 ∀(s:Shared)(us:List Value),K.In s.heap->(us++ds).length=ps.length->BindsTo s fd ⟨us,[]⟩ (ps.zip (us++ds))
theorem Binds.all {K:PySem.W.Frag}(h:∀ us:List Value,us.length=ps.length->bindArgs fd ⟨us,[]⟩=pure (ps.zip us)):Binds K fd ps []:=λ s us _ hl=>by
 rw[Ľ] at hl ⊢;exact .of_eq (h us hl)
def dj (CX:qp)(X:Cx)(E:XK):Prop:=∀(pins:List (Addr × Obj))(σ:St)(H:Hp)(s:Shared)(e:Value)(s':Shared),Inv X pins σ H s->CX X.stack H s E e s'->X.xe e s'
section
variable {X:Cx}{CX:qp}{k:Nat}{f C:Addr}{fd:FuncData}{ps:List Str}{sp:Sp}{N2:List V}{ds:List Value}{E:XK}{x m:Str}{p pos Ū:Pos}{e o:Expr}{es:List Expr}{ta:TE}{t:TA}
theorem nK (F:ð X.prog X.w X.K X.mg X.base CX k f fd ps sp)(hr:Ă k X.A)(hb:Binds X.K fd ps ds)(hd:Vals N2 ds)(hx:dj CX X E)
  (I:Inv X pins σ H s) (r:Vals vs us) (h:sp (vs++N2) H Q E):wpAny (model X.prog X.w) X.A (call (.ref f) us) (EP X pins σ Q) X.xe s:=by
 have r2:=r.append hd;have hl:(us++ds).length=ps.length:=by rw[<- r2.length];exact F.len _ _ _ _ h
 refine z_ (Φ (F.run X.A X.stack s H ⟨us,[]⟩ (us++ds) (vs++N2) Q E hr I.Sv (hb s us I.Τ hl) r2 h) λ r s' hq=>?_);cases r with
 | error e=>exact hx pins σ H s e s' I hq
 | ok fl =>
  cases fl with
  | ret u=>exact I.after hq
  | next=>exact False.elim hq
  | brk=>exact False.elim hq
  | cont=>exact False.elim hq
theorem fX (F:ð X.prog X.w X.K X.mg X.base CX k f fd ps sp)(hr:Ă k X.A)(hg:Gl X x)(hm:X.mg x\.ref f)(hk:PySem.W.keepIn X.K (.ref f)=true)(hb:Binds X.K fd ps ds)(hd:Vals N2 ds)(hx:dj CX X E)
  (ha:PA X (e::es) t) (No:(x==("__debug__" : Str))=false:=by decide) (he:starEach (e::es) X.env=(false,eval e X.env)::starEach es X.env:=by rfl) (M6:(backTo pos (starEach es X.env)).any (·.1)=false:=by rfl) :
  PE X (.Call (.Name x p) (e::es) [] pos) (cV sp N2 E t):=by
 intro pins s σ H Q I h;refine Ŝ (fo I hg hm ?_ No);refine ż I.ok.mod.R9 hk (bj (ha pos pins s σ H _ I h) λ us s1 ⟨vs,H1,I1,r,q⟩=>⟨I1.Τ,?_⟩) he M6;exact nK F hr hb hd hx I1 r q
structure Mk (K:PySem.W.Frag)(C f:Addr):Prop where
 makes:PySem.W.makesIn K C=true
 init:PySem.W.findIn K (.ref C) "__init__"\some (.ref f)
 fn:PySem.W.isFn K (.ref f)=true
 kp:PySem.W.keepIn K (.ref C)=true
theorem oS (M:Mk X.K C f)(F:ð X.prog X.w X.K X.mg X.base CX k f fd ps sp)(hr:Ă (k+1) X.A)(hb:Binds X.K fd ps ds)(hd:Vals N2 ds)
  (hx:dj CX X E) (I:Inv X pins σ H s) (r:Vals vs us)
  (h:∀ x dx,H x=none->H dx=none->dx≠x->sp (.ref x::(vs++N2)) (ak (ak H dx (.own x)) x (.ins C dx [])) (λ v H2=>v=.Ę/\Q (.ref x) H2) E) :
  wpAny (model X.prog X.w) X.A (call (.ref C) us) (EP X pins σ Q) X.xe s:=by
 have hq:=h (s.heap.objs.size+1) s.heap.objs.size (I.Ě.fresh (MI _)) (I.Ě.fresh (Å _)) (æ (Nat.lt_succ_self _));have I2:=Inv.made (C:=C) I;have r2:Vals (V.ref (s.heap.objs.size+1)::(vs++N2)) (Value.ref (s.heap.objs.size+1)::(us++ds)):=.cons rfl (r.append hd);have hl:(.ref (s.heap.objs.size+1)::us++ds).length=ps.length:=by
  have e:=r2.length;rw[F.len _ _ _ _ hq] at e;exact e.symm
 refine z_ (xI I.Τ M.makes M.init (þ.mp M.fn) (Φ (F.run _ X.stack _ _ ⟨.ref (s.heap.objs.size+1)::us,[]⟩ (.ref (s.heap.objs.size+1)::(us++ds)) _ _ E (hr.make C us [])
  (I2.Sv.make C us []) (hb _ (.ref (s.heap.objs.size+1)::us) I2.Τ hl) r2 hq) λ r s' Pq=>?_))
 cases r with
 | error e=>exact hx pins σ _ _ e s' I2 Pq
 | ok fl =>
  cases fl with
  | ret u =>
   obtain⟨v,H',I3,rv,ev,q3⟩:=I2.after Pq;subst ev;exact⟨rv,⟨.ref (s.heap.objs.size+1),H',I3,rfl,q3⟩⟩
  | next=>exact False.elim Pq
  | brk=>exact False.elim Pq
  | cont=>exact False.elim Pq
theorem n8 (M:Mk X.K C f)(F:ð X.prog X.w X.K X.mg X.base CX k f fd ps sp)(hr:Ă (k+1) X.A)(hg:Gl X x)(hm:X.mg x\.ref C)(hb:Binds X.K fd ps ds)(hd:Vals N2 ds)(hx:dj CX X E)
  (ha:PA X (e::es) t) (No:(x==("__debug__" : Str))=false:=by decide) (he:starEach (e::es) X.env=(false,eval e X.env)::starEach es X.env:=by rfl) (M6:(backTo pos (starEach es X.env)).any (·.1)=false:=by rfl) :
  PE X (.Call (.Name x p) (e::es) [] pos) (gV C sp N2 E t):=by
 intro pins s σ H Q I h;refine Ŝ (fo I hg hm ?_ No);refine ż I.ok.mod.R9 M.kp (bj (ha pos pins s σ H _ I h) λ us s1 ⟨vs,H1,I1,r,q⟩=>⟨I1.Τ,?_⟩) he M6;exact oS M F hr hb hd hx I1 r q
theorem xY (M:Mk X.K C f)(F:ð X.prog X.w X.K X.mg X.base CX k f fd ps sp)(hr:Ă (k+1) X.A)(hg:Gl X x)(hm:X.mg x\.ref C)(hb:Binds X.K fd ps ds)(hd:Vals N2 ds)(hx:dj CX X E)
  (No:(x==("__debug__" : Str))=false:=by decide):PE X (.Call (.Name x p) [] [] pos) (gV C sp N2 E aS):=by
 intro pins s σ H Q I h;refine Ŝ (fo I hg hm ?_ No);exact PySem.W.callWith_K0 I.Τ M.kp (oS (us:=[]) M F hr hb hd hx I .nil h)
end
structure ag (N P:List Str)(sc:Scope):Prop where
 kind:sc.kind=.function
 co:sc.isCoroutine=false
 gen:sc.isGenerator=false
 nd:N.Nodup
 pre:N.take P.length=P
 par:∀ x∈P,sc.names.lookup x\.local\/sc.names.lookup x\.cell
 OK:∀ y∈sc.names,y.2 ≠ .free
theorem aL {N P:List Str}{sc:Scope}(a:sc.kind=.function:=by rfl)(b:sc.isCoroutine=false:=by rfl)(c:sc.isGenerator=false:=by rfl)(d:N.Nodup:=by decide +kernel)(e:N.take P.length=P:=by rfl)(f:∀ x∈P,sc.names.lookup x\.local\/sc.names.lookup x\.cell:=by decide +kernel)(g:∀ y∈sc.names,y.2 ≠ .free:=by decide +kernel):ag N P sc:=⟨a,b,c,d,e,f,g⟩
theorem lJ {kindOf:Str->Option NameKind}:∀{binds:List (Str × Value)}{m:bD},(∀ v,(x,v) ∉ binds)->bindL kindOf binds m x=m x
 | [],_,_=>rfl
 | (n,v)::r,m,h=>by
  unfold bindL;rw[lJ λ w hw=>h w (Ì _ hw)];split
  ·have:x≠n:=by rintro rfl;exact h v Ï
   simp[this]
  ·rfl
theorem lL {kindOf:Str->Option NameKind}:∀{binds:List (Str × Value)}{m:bD},(∀ v,(x,v) ∉ binds)->bindC kindOf binds m x=m x
 | [],_,_=>rfl
 | (n,v)::r,m,h=>by
  unfold bindC;rw[lL λ w hw=>h w (Ì _ hw)];split
  ·rfl
  ·have:x≠n:=by rintro rfl;exact h v Ï
   simp[this]
theorem lV {kindOf:Str->Option NameKind}:∀{P:List Str}{vs:List Value}{i:Nat}{m:bD},P.Nodup->P[i]?\x->vs[i]?\v->kindOf x=some .local ->
  bindL kindOf (P.zip vs) m x\v
 | [],_,_,_,_,h,_,_=>by simp at h
 | _::_,[],_,_,_,_,h,_=>by simp at h
 | p::P,w::vs,0,m,nd,h1,h2,hk=>by
  simp at h1 h2;subst h1;subst h2;show bindL kindOf ((p,w)::P.zip vs) m p=_;unfold bindL;rw[lJ λ v hv=>(ï.mp nd).1 (Pf hv).1,Ë hk];simp
 | p::P,w::vs,i+1,m,nd,h1,h2,hk=>by
  show bindL kindOf ((p,w)::P.zip vs) m x=_;exact lV (ï.mp nd).2 (by simpa using h1) (by simpa using h2) hk
theorem lO {kindOf:Str->Option NameKind}:∀{P:List Str}{vs:List Value}{i:Nat}{m:bD},P.Nodup->P[i]?\x->vs[i]?\v->kindOf x≠some .local ->
  bindC kindOf (P.zip vs) m x\v
 | [],_,_,_,_,h,_,_=>by simp at h
 | _::_,[],_,_,_,_,h,_=>by simp at h
 | p::P,w::vs,0,m,nd,h1,h2,hk=>by
  simp at h1 h2;subst h1;subst h2;show bindC kindOf ((p,w)::P.zip vs) m p=_;unfold bindC;rw[lL λ v hv=>(ï.mp nd).1 (Pf hv).1,Æ hk];simp
 | p::P,w::vs,i+1,m,nd,h1,h2,hk=>by
  show bindC kindOf ((p,w)::P.zip vs) m x=_;exact lO (ï.mp nd).2 (by simpa using h1) (by simpa using h2) hk
def fQ (N:List Str)(vs:List V):St:=vs.map some++List.replicate (N.length-vs.length) none
def b9 (CX:qp)(P:Program)(w:World)(K:PySem.W.Frag)(mg:bD)(base:Heap)(N:List Str)(qual:Str)(scope:Scope)(f:Addr)(cd:Value)(A:Around)(outer:List Env)(s:Shared)(H:Hp)(E:XK):Cx where
 prog:=P
 w:=w
 K:=K
 mg:=mg
 base:=base
 A:=A.deeper (envOfC qual scope s.heap.objs.size f cd)
 N:=N
 Ų:=s
 Qq:=H
 env:=envOfC qual scope s.heap.objs.size f cd
 outer:=outer
 stack:=envOfC qual scope s.heap.objs.size f cd::outer
 ex:=[]
 calm:=true
 fn:=λ _=>true
 pn:=[]
 xe:=λ e s'=>wpAny (model P w) (A.deeper (envOfC qual scope s.heap.objs.size f cd)) (leaving (envOfC qual scope s.heap.objs.size f cd) e) (λ _ Rh=>CX outer H s E e Rh) (λ e' Rh=>CX outer H s E e' Rh) s'
theorem pP {sc:Scope}(h:sc.names.lookup x\.cell):∃ c,(cellsFrom n sc.names []).lookup x\c:=by
 have q:=RC sc.names n [] (.inl h);exact ŀ.mp q
theorem uH {CX:qp}{P:Program}{w:World}{K:PySem.W.Frag}
  (S:ag N ps scope) (hd:A.handled=none) (e0:OV P w K mg base A outer s H) (hl:vs.length=ps.length) (r:Vals vs us)
  (x:InCallC s s.heap.objs.size (bindL (envOfC qual scope s.heap.objs.size f cd).kindOf (ps.zip us) λ _=>none) (cellsFrom (s.heap.objs.size+1) scope.names []) (bindC (envOfC qual scope s.heap.objs.size f cd).kindOf (ps.zip us) λ _=>none) s1) :
  Inv (b9 CX P w K mg base N qual scope f cd A outer s H E) [] (fQ N vs) H s1:=by
 have M6:ps.length<=N.length:=by have:=ý List.length S.pre;rw[ĕ] at this;lia
 obtain⟨h1,tk,rfl,hk⟩:=x.done;have Ub:∀ b:Addr,b ∉ (b9 CX P w K mg base N qual scope f cd A outer s H E).ex:=λ b z=>absurd (show b∈([]:List Addr) from z) (by simp)
 refine⟨⟨e0.mod,S.kind,rfl,rfl,Å _,λ y z c h1 h2=>?_,λ y hy=>?_,λ y c _ h=>?_,λ _=>hd,Around.frames_deeper e0.frames,.inr ⟨rfl,rfl⟩,λ b z=>absurd z (Ub b),e0.bs,e0.Q3,λ b _ _=>Ub b,λ b z=>absurd z (Ub b),e0.MD,e0.Sr⟩,
  rfl,e0.bare,Un.kept hk,⟨_,x.toInCall.ns,λ i y v h1 h2 h3=>?_⟩,λ y c h=>⟨_,x.cell y c h⟩,e0.Ě.fresh (Å _),λ y c h=>?_,λ p hp=>absurd (show p∈([]:List (Addr × Obj)) from hp) (by simp),e0.Ě.kept hk,?_⟩
 ·exact name_of_addr x.apart (ô h1) (ô h2)
 ·have hy:scope.names.lookup y\.cell\/scope.names.lookup y\.free:=hy;rcases hy with hy | hy
  ·exact pP hy
  ·exact absurd rfl (S.OK _ (ô hy))
 ·exact RK (x.above y c (ô h))
 ·have hi:i<vs.length:=by
   unfold fQ at h2;by_cases hi:i<vs.length
   ·exact hi
   ·rw[Ą (by simpa using hi)] at h2
    rw[Ra] at h2;split at h2 <;> cases h2
  have ha:vs[i]?\v:=by
   unfold fQ at h2;rw[ĉ (by simpa using hi),List.getElem?_map] at h2
   cases e:vs[i]? with
   | none=>rw[e] at h2;cases h2
   | some a=>rw[e] at h2;cases h2;rfl
  obtain⟨u,hu,rv⟩:=r.get ha;have hp:ps[i]?\y:=by
   rw[<- S.pre,QK ad];exact h1
  have Xf:ps.Nodup:=by rw[<- S.pre];exact S.nd.sublist (N_ _ _)
  refine⟨u,rv,?_⟩;rcases S.par y (ß hp) with k | k
  ·exact .inl ⟨k,lV Xf hp hu k⟩
  ·obtain⟨c,e⟩:=pP (n:=s.heap.objs.size+1) k;refine .inr ⟨.inl k,c,e,?_⟩;have q:=x.cell y c e;rw[lO Xf hp hu (by show scope.names.lookup y≠_;rw[k];decide)] at q
   exact q
 ·exact e0.Ě.fresh (RK (x.above y c (ô h)))
 ·unfold fQ;show _=N.length;rw[Õ,Ç,Ĺ]
  lia
theorem AC {CX:qp}{P:Program}{w:World}{K:PySem.W.Frag}{mg:bD}{base:Heap}{k:Nat}{f:Addr}{name qual:Str}{params:Arguments}{body:List Stmt}{scope:Scope}{dV kV doc pm cdv ct oc:Value}{an od:Option Addr}
  (lk:K.lookup f\⟨oc,od,.func (PySem.W.fnOf name qual params body scope dV kV doc pm an cdv ct),R4⟩) (Ov:PySem.W.codeIn K cdv qual=true) (S:ag N ps scope)
  (len:∀ vs H Q E,sp vs H Q E->vs.length=ps.length)
  (F':∀(A:Around)(outer:List Env)(s:Shared)(H:Hp)(vs:List V)(Q:VK)(E:XK),Ă k (A.deeper (envOfC qual scope s.heap.objs.size f cdv))->sp vs H Q E ->
   ∃ t,ο (b9 CX P w K mg base N qual scope f cdv A outer s H E) body t/\t { nx:=λ _ H'=>Q .Ę H',rt:=Q } (fQ N vs) H) :
  ð P w K mg base CX (k+1) f (PySem.W.fnOf name qual params body scope dV kV doc pm an cdv ct) ps sp:=by
 refine⟨len,λ A outer s H args us vs Q E hr e0 hb r Pp=>?_⟩;have hl:=len _ _ _ _ Pp;have KX:K.In s.heap:=e0.mod.R9.keeps λ b o e=>(e0.bs b o e).1;have lim:s.heap.NoLimit:=e0.mod.nolimit.keeps λ b o e=>(e0.bs b o e).1;have UE:∀ y∈ps.zip us,scope.names.lookup y.1\.local\/(scope.names.lookup y.1\.cell/\((cellsFrom (s.heap.objs.size+1) scope.names []).lookup y.1).isSome=true):=λ ⟨n,v⟩ hy=>by
  rcases S.par n (Pf hy).1 with q | q
  ·exact .inl q
  ·exact .inr ⟨q,RC _ _ _ (.inl q)⟩
 refine codeAny_call_function hr.depth (KX _ _ lk) rfl S.co S.gen rfl (PySem.W.codeRec_of KX Ov) (hb _ _ _ _ ?_);refine wpAny_newFunctionEnv_cells S.kind UE λ env he s1 x=>?_;subst he;refine⟨lim.keeps x.toInCall.keep,codeAny_func ?_⟩;obtain⟨t,ht,hq⟩:=F' A outer s H vs Q E (hr.deeper _) Pp;have I:Inv (b9 CX P w K mg base N qual scope f cdv A outer s H E) [] (fQ N vs) H s1:=uH S hr.hd e0 hl r x;refine Ĳ (ht [] s1 (fQ N vs) H _ I hq) (λ fl s' hs=>?_) λ e s' hs=>hs;have fin:∀{ĺ:St}{H':Hp}{v:V}{u:Value},Inv (b9 CX P w K mg base N qual scope f cdv A outer s H E) [] ĺ H' s'->RelV v u->Q v H'->CE outer P w H s Q u s' :=
  λ {ĺ H' v u} J rv q=>⟨v,H',J.os,J.bare,J.base,J.Ě,rv,q⟩
 cases fl with
 | ret u =>
  obtain⟨v,ĺ,H',J,rv,q⟩:=hs;exact fin J rv q
 | next =>
  obtain⟨ĺ,H',J,q⟩:=hs;exact fin (v:=V.Ę) (u:=Value.none) J rfl q
 | brk =>
  obtain⟨_,_,_,q⟩:=hs;exact False.elim q
 | cont =>
  obtain⟨_,_,_,q⟩:=hs;exact False.elim q
section
variable {X:Cx}{x:Str}{p pos:Pos}{e:Expr}{es:List Expr}{t:TA}{id T:String}{r:List V->Hp->VK->Prop}
def jw (r:List V->Hp->VK->Prop)(t:TA):TE:=λ σ H Q=>t σ H λ vs H1=>r vs H1 Q
theorem ao (hc:dL X (.builtin id) r)(hg:Gl X x)(hm:X.mg x=none)(hv:bootBuiltins x\.builtin id)(ha:PA X (e::es) t)(hn:x ≠ "__name__" := by decide) (No:(x==("__debug__" : Str))=false:=by decide)
  (he:starEach (e::es) X.env=(false,eval e X.env)::starEach es X.env:=by rfl) (M6:(backTo pos (starEach es X.env)).any (·.1)=false:=by rfl):PE X (.Call (.Name x p) (e::es) [] pos) (jw r t):=by
 intro pins s σ H Q I h;refine Ŝ (iT I hg hm hv ?_ hn No);exact OC (bj (ha pos pins s σ H _ I h) λ us s1 ⟨vs,H1,I1,r1,q1⟩=>hc pins s1 σ H1 vs us Q I1 r1 q1) he M6
theorem cT (hc:dL X (.type T) r)(hg:Gl X x)(hm:X.mg x=none)(hv:bootBuiltins x\.type T)(ha:PA X (e::es) t)(hn:x ≠ "__name__" := by decide) (No:(x==("__debug__" : Str))=false:=by decide)
  (he:starEach (e::es) X.env=(false,eval e X.env)::starEach es X.env:=by rfl) (M6:(backTo pos (starEach es X.env)).any (·.1)=false:=by rfl):PE X (.Call (.Name x p) (e::es) [] pos) (jw r t):=by
 intro pins s σ H Q I h;refine Ŝ (iT I hg hm hv ?_ hn No);exact Ś (bj (ha pos pins s σ H _ I h) λ us s1 ⟨vs,H1,I1,r1,q1⟩=>hc pins s1 σ H1 vs us Q I1 r1 q1) he M6
end
abbrev TO:=St->Hp->(Option Int->Hp->Prop)->Prop
theorem qW {ns:List Int}:∀{us:List Value},Vals (ns.map V.int) us->IntsAre us ns:=by
 induction ns with
 | nil=>intro us r;rw[υ] at r;cases r;exact .nil
 | cons n ns ih =>
  intro us r;rw[É] at r;cases r with
  | cons r1 r2 =>
   obtain⟨t,e⟩:=r1;subst e;exact .cons n t (ih r2)
def zD (n:Nat)(i:Int):Option Nat:=if 0<=i then(if i<n then some i.toNat else none) else if -(n:Int)<=i then some (i+n).toNat else none
def ph {α:Type}(xs:List α)(i:Int):Option α:=(zD xs.length i).bind λ j=>xs[j]?
theorem yY (h:zD n i\j):seqIndex? i n\j/\j<n/\-(n:Int)<=i/\i<n:=by
 unfold zD at h;by_cases h0:0<=i
 ·rw[Ë h0] at h;by_cases h1:i<n
  ·rw[Ë h1] at h;have e:=á h;exact⟨by rw[seqIndex_of h0 h1,e],ad,ad,h1⟩
  ·rw[Æ h1] at h;cases h
 ·rw[Æ h0] at h;by_cases h1:-(n:Int)<=i
  ·rw[Ë h1] at h;have e:=á h;exact⟨by rw[seqIndex_neg ad h1,e],ad,h1,ad⟩
  ·rw[Æ h1] at h;cases h
theorem tU {α:Type}{xs:List α}{v:α}(h:ph xs i\v):∃ j,seqIndex? i xs.length\j/\xs[j]?\v/\j<xs.length/\-(xs.length:Int)<=i/\i<xs.length:=by
 unfold ph at h;cases e:zD xs.length i with
 | none=>rw[e] at h;cases h
 | some j =>
  rw[e] at h;obtain⟨h1,h2,h3,h4⟩:=yY e;exact⟨j,h1,h,h2,h3,h4⟩
theorem qF {α:Type}{xs:List α}{j:Nat}{v:α}(h:xs[j]?\v):ph xs (j:Int)\v:=by
 have hj:=(Ú.mp h).1;have e:zD xs.length (j:Int)\j:=by
  unfold zD;rw[Ë ad,Ë ad];simp
 unfold ph;rw[e];exact h
theorem vZ {α:Type}(xs:List α)(v:α):ph (xs ++ [v]) (-1)\v:=by
 have hl:(xs ++ [v]).length=xs.length+1:=by simp
 have e:zD (xs ++ [v]).length (-1)\xs.length:=by
  unfold zD;rw[hl,Æ av,Ë ad]
  congr 1
  lia
 unfold ph;rw[e];simp
def tF (b:Expr):Prop:=∀ o i,subscripted b false o i=operate [o,i] (getItem o i)
def Iu (X:Cx)(r:R2):Prop :=
 ∀(value slice:Expr)(pins:List (Addr × Obj))(s:Shared)(σ:St)(H:Hp)(x y:V)(v u:Value)(Q:VK),Inv X pins σ H s->RelV x v->RelV y u->r x y H Q ->
  subscripted slice false v u=operate [v,u] (getItem v u)->wpAny (model X.prog X.w) X.A (subscriptTail value slice v u) (EP X pins σ Q) X.xe s
def LJ (X:Cx)(id:String)(r:V->List V->Hp->VK->Prop):Prop :=
 ∀(pins:List (Addr × Obj))(s:Shared)(σ:St)(H:Hp)(x:V)(xs:List V)(v:Value)(us:List Value)(Q:VK),Inv X pins σ H s->RelV x v->Vals xs us->r x xs H Q ->
  wpAny (model X.prog X.w) X.A (call (.builtin id) (v::us)) (EP X pins σ Q) X.xe s
section
variable {X:Cx}{a b:Expr}{ta tb:TE}{pos:Pos}
theorem Fs (hr:Iu X r)(ha:PE X a ta)(hb:PE X b tb)(hs:tF b):PE X (.Subscript a b pos) (bR r ta tb):=by
 intro pins s σ H Q I h;exact Subscript_ (ET ha hb I h λ v u s2 x y H2 I2 rx ry q=>hr a b pins s2 σ H2 x y v u Q I2 rx ry q (hs _ _))
theorem c5 {r:R2}(hr:Iu X r)(ha:PE X a ta)(hb:PE X b tb)(hs:tF b:=by exact λ _ _=>rfl):PE X (.Subscript a b pos) (bR r ta tb):=Fs hr ha hb hs
def qB (K:PySem.W.Frag):R2:=λ x y H Q=>∃ p xs i v,x=.ref p/\y=.int i/\Ğ K H p xs/\ph xs i\v/\Q v H
def xF (K:PySem.W.Frag):R2:=λ x y H Q=>∃ p xs i v,x=.ref p/\y=.int i/\Ĭ K H p xs/\ph xs i\v/\Q v H
theorem A0:Iu X (qB X.K):=by
 intro value slice pins s σ H x y v u Q I rx ry h hs;obtain⟨p,xs,i,z,rfl,rfl,hq,he,q⟩:=h;cases rx;obtain⟨t,rfl⟩:=ry;obtain⟨its,r,pl,hz⟩:=I.list hq;obtain⟨j,h1,h2,h3,h4,h5⟩:=tU he;obtain⟨w,ew,OI⟩:=r.get h2;have hl:=r.length;have hn:=qG;have fin:EP X pins σ Q w s:=⟨z,H,I,OI,q⟩;by_cases h0:0<=i
 ·have hj:i.toNat=j:=by
   rw[seqIndex_of h0 h5] at h1;exact á h1
  exact item_listR pl.isList h0 ad (by rw[hj];simpa using ew) fin hs
 ·have hj:(i+(its.toArray.size:Int)).toNat=j:=by
   rw[seqIndex_neg ad h4] at h1;rw[ę,<- hl];exact á h1
  exact subscriptTail_builtinR pl.isList.typeIs slot_list_getitem.lookup
   (wpAny_getItem_list_neg pl.isList ad (by rw[ę] <;> lia) ad (by rw[hj];simpa using ew) ⟨rfl,fin⟩) hs
theorem dR:Iu X (xF X.K):=by
 intro value slice pins s σ H x y v u Q I rx ry h hs;obtain⟨p,xs,i,z,rfl,rfl,hq,he,q⟩:=h;cases rx;obtain⟨t,rfl⟩:=ry;obtain⟨its,r,pl,hz⟩:=I.tuple hq;obtain⟨j,h1,h2,h3,h4,h5⟩:=tU he;obtain⟨w,ew,OI⟩:=r.get h2;have hl:=r.length;have hn:=qG;have fin:EP X pins σ Q w s:=⟨z,H,I,OI,q⟩;exact subscriptTail_builtinR pl.typeIs slot_tuple_getitem.lookup
  (getItem_tuple pl ad ad (by rw[ę,<- hl];exact h1) (by simpa using ew) ⟨rfl,fin⟩) hs
def jt:V->Bool
 | .Ę=>true
 | .bl _=>true
 | .int _=>true
 | .str _=>true
 | _=>false
def Fa:V->V->Bool
 | .Ę,.Ę=>true
 | .bl a,.bl b=>a==b
 | .bl a,.int b=>(if a then 1 else 0)==b
 | .int a,.bl b=>a==(if b then 1 else 0)
 | .int a,.int b=>a==b
 | .str a,.str b=>a==b
 | _,_=>false
theorem ym (ry:RelV y u)(rx:RelV x v)(fy:jt y=true)(fx:jt x=true):SeqAt.EqAt A s u v (Fa y x):=by
 cases y with
 | Ę =>
  cases ry;cases x with
  | Ę=>cases rx;exact Nu _
  | bl b=>cases rx;exact SeqAt.EqAt.none_bool b
  | int b=>obtain⟨t,rfl⟩:=rx;exact SeqAt.EqAt.none_int b t
  | str b=>obtain⟨t,rfl⟩:=rx;exact SeqAt.EqAt.none_str b t
  | _=>exact absurd (show false=true from fx) Ù
 | bl a =>
  cases ry;cases x with
  | Ę=>cases rx;exact SeqAt.EqAt.bool_none a
  | bl b=>cases rx;exact SeqAt.EqAt.bool_bool a b
  | int b=>obtain⟨t,rfl⟩:=rx;exact SeqAt.EqAt.bool_int a b t
  | str b=>obtain⟨t,rfl⟩:=rx;exact SeqAt.EqAt.bool_str a b t
  | _=>exact absurd (show false=true from fx) Ù
 | int a =>
  obtain⟨t',rfl⟩:=ry;cases x with
  | Ę=>cases rx;exact SeqAt.EqAt.int_none a t'
  | bl b=>cases rx;exact SeqAt.EqAt.int_bool a t' b
  | int b=>obtain⟨t,rfl⟩:=rx;exact SeqAt.EqAt.int_int a t' b t
  | str b=>obtain⟨t,rfl⟩:=rx;exact SeqAt.EqAt.int_str a t' b t
  | _=>exact absurd (show false=true from fx) Ù
 | str a =>
  obtain⟨t',rfl⟩:=ry;cases x with
  | Ę=>cases rx;exact SeqAt.EqAt.str_none a t'
  | bl b=>cases rx;exact SeqAt.EqAt.str_bool a t' b
  | int b=>obtain⟨t,rfl⟩:=rx;exact SeqAt.EqAt.str_int a t' b t
  | str b=>obtain⟨t,rfl⟩:=rx;exact SeqAt.EqAt.str_str a t' b t
  | _=>exact absurd (show false=true from fx) Ù
 | _=>exact absurd (show false=true from fy) Ù
theorem aY:dL X (.builtin "len") (λ xs H Q=>∃ p ys,xs=[.ref p]/\(Ğ X.K H p ys\/Ĭ X.K H p ys)/\Q (.int ys.length) H):=by
 intro pins s σ H xs us Q I r h;obtain⟨p,ys,rfl,hq,q⟩:=h;obtain⟨u,rfl,rx⟩:=fJ r;cases rx;have hn:=qG;rcases hq with hq | hq
 ·obtain⟨its,r',pl,hz⟩:=I.list hq;have Ş:=r'.length;exact Calls.call_len_list pl.isList (by simp only[List.size_toArray] <;> lia) ⟨.int ys.length,H,I.tok _,⟨s.toks+1,by rw[ę,Ş]⟩,q⟩
 ·obtain⟨its,r',pl,hz⟩:=I.tuple hq;have Ş:=r'.length;exact len_tuple pl (by simp only[List.size_toArray] <;> lia) ⟨.int ys.length,H,I.tok _,⟨s.toks+1,by rw[ę,Ş]⟩,q⟩
def Ld (K:PySem.W.Frag)(T:String)(x:V)(H:Hp):Prop:=match x with
 | .str _=>T = "str"
 | .int _=>T = "int"
 | .ref p=>(T = "list" /\ ∃ xs,Ğ K H p xs)\/(T = "tuple" /\ ∃ o,K.lookup p\o/\o.cls=.type "tuple" /\ o.dict=none) \/
   (T = "dict" /\ ((∃ Ý,H p\.dK Ý)\/∃ Ý,H p\.dT Ý))\/(T = "set" /\ ∃ S n,H p\.set S n)
 | _=>False
theorem E2 (I:Inv X pins σ H s)(r:RelV x v)(ty:Ld X.K T x H) :
  s.TypeIs v T/\∀ a,v=.ref a->∃ ob,s.heap.get? a\ob/\ob.dict=none:=by
 cases x with
 | str z =>
  obtain⟨t,rfl⟩:=r;cases (show T = "str" from ty);exact⟨typeIs_str s z t,λ _ e=>nomatch e⟩
 | int i =>
  obtain⟨t,rfl⟩:=r;cases (show T = "int" from ty);exact⟨typeIs_int s i t,λ _ e=>nomatch e⟩
 | ref p =>
  cases r;rcases ty with⟨rfl,xs,hq⟩ | ⟨rfl,o,hk,hc,hd⟩ | ⟨rfl,hk⟩ | ⟨rfl,S,n,hk⟩
  ·obtain⟨its,_,pl,_⟩:=I.list hq;refine⟨pl.isList.typeIs,λ a e=>?_⟩;cases e;obtain⟨o,n,e,c,hd,_⟩:=pl;exact⟨o,e,hd⟩
  ·refine⟨⟨o,I.Τ p o hk,hc⟩,λ a e=>?_⟩;cases e;exact⟨o,I.Τ _ o hk,hd⟩
  ·have z:∃ o,s.heap.get? p\o/\o.ExactDict:=by
    rcases hk with⟨Ý,hk⟩ | ⟨Ý,hk⟩
    ·obtain⟨_,_,_,_,o,_,_,e,ex,_⟩:=I.Ě p _ hk;exact⟨o,e,ex⟩
    ·obtain⟨_,_,_,_,o,_,_,e,ex,_⟩:=I.Ě p _ hk;exact⟨o,e,ex⟩
   obtain⟨o,e,ex⟩:=z;refine⟨⟨o,e,ex.1⟩,λ a e2=>?_⟩;cases e2;exact⟨o,e,ex.2.1⟩
  ·obtain⟨o,_,_,_,e,ex,_⟩:=I.Ě p _ hk;refine⟨⟨o,e,ex.1⟩,λ a e2=>?_⟩;cases e2;exact⟨o,e,ex.2.1⟩
 | _=>exact False.elim ty
def KG (K:PySem.W.Frag)(T:String)(r:V->List V->Hp->VK->Prop)(to:TE)(t:TA):TE:=λ σ H Q=>to σ H λ x H1=>Ld K T x H1/\t σ H1 λ xs H2=>r x xs H2 Q
variable {o e:Expr}{es:List Expr}{to:TE}{t:TA}{name:Str}{Ū ž:Pos}{T id:String}{r:V->List V->Hp->VK->Prop}
theorem yp (pa:PlainAttrs T)(slot:Slot T name id)(hty:typeOf (.builtin id)=pure (.type "method_descriptor")) (hm:LJ X id r) (ho:PE X o to) (ha:PA X (e::es) t)
  (Ow:attributeBase o name X.env (eval o X.env)=eval o X.env:=by rfl)
  (Wy:((backTo ž (starEach (e::es) X.env)).all (λ x=>!x.1)&&(backToKw ž (keywordEach [] X.env)).all (λ x=>x.1.isSome)
   && decide ((e::es).length+([]:List Keyword).length+(if([]:List Keyword).isEmpty then 0 else 1)<30))=true:=by rfl)
  (Ou:(Ū.endLine == ž.line)=true:=by rfl) (hs:starEach (e::es) X.env=(false,eval e X.env)::starEach es X.env:=by rfl) (Sd:(backTo ž (starEach es X.env)).any (·.1)=false:=by rfl) :
  PE X (.Call (.Attribute o name Ū) (e::es) [] ž) (KG X.K T r to t):=by
 intro pins s σ H Q I h;refine wpAny_Call_method_late Ow Wy Ou rfl (bj (ho pins s σ H _ I h) λ v s1 ⟨x,H1,I1,r1,ty,q1⟩=>?_);obtain⟨h1,h2⟩:=E2 I1 r1 ty;refine⟨T,id,pa,slot,hty,h1,h2,?_⟩;have hA:=ha ž pins s1 σ H1 _ I1 q1;rw[hs] at hA ⊢;refine γ (by show(false||(backTo ž (starEach es X.env)).any (·.1))=false;rw[Sd] <;> rfl) (Calls.evalArgs_plain ?_)
 exact bj hA λ us s2 ⟨vs,H2,I2,r2,q2⟩=>hm pins s2 σ H2 x vs v us Q I2 r1 r2 q2
end
def Mj (X:Cx)(id:String)(r:V->List V->Hp->VK->Prop):Prop :=
 ∀(pins:List (Addr × Obj))(s:Shared)(σ:St)(H:Hp)(x:V)(xs:List V)(v:Value)(us:List Value)(Q:VK),Inv X pins σ H s->RelV x v->Vals xs us->r x xs H Q ->
  wpAny (model X.prog X.w) X.A (call (.builtin id) (v::us)) (EP X pins σ Q) X.xe s
theorem Vals.one:∀{x:V}{us:List Value},Vals [x] us->∃ u,us=[u]/\RelV x u
 | _,_,.cons r .nil=>⟨_,rfl,r⟩
section
variable {X:Cx}{pins:List (Addr × Obj)}{σ:St}{H:Hp}{s:Shared}{l b:Addr}{xs ys zs:List V}
theorem Inv.VZ {its Qe:List Value}(I:Inv X pins σ H s)(hH:H l\.lst xs)
  (e:s.heap.get? l=some { cls:=.type "list",data:=.seq its.toArray n }) (hf:f its.toArray=Qe.toArray) (hv:Vals ys Qe) (hz:ys.length<=sizeLine) :
  Inv X pins σ (ak H l (.lst ys)) { s with heap:=s.heap.update l (Obj.mapSeq f),toks:=t' }:=by
 have q:=PySem.IsL.update e f;rw[hf] at q;refine I.write (by rw[hH];exact trivial) (.inl rfl) (λ b' u hb hu=>(Heap.get?_update_other s.heap (Obj.mapSeq f) (Ne.symm hb)).trans hu) ⟨_,q⟩ ?_
 exact⟨hz,Qe,_,hv,q⟩
theorem Inv.V1 (I:Inv X pins σ H s)(hv:Vals ys its)(hz:ys.length<=sizeLine) :
  Inv X pins σ (ak H s.heap.objs.size (.lst ys)) { s with heap:=s.heap.push { cls:=.type "list",data:=.seq its.toArray },toks:=t' } :=
 I.laid (λ _ _ q=>Ä _ q) (Å _) ⟨hz,its,0,hv,Ó _ rfl⟩
theorem Inv.fresh (I:Inv X pins σ H s):H s.heap.objs.size=none:=I.Ě.fresh (Å _)
theorem Inv.VY (I:Inv X pins σ H s)(hH:H l\.lst xs):xs.length<=sizeLine/\∃(its:List Value)(n:Nat),Vals xs its/\xs.length=its.length/\s.heap.get? l=some { cls:=.type "list",data:=.seq its.toArray n }:=by
 obtain⟨z,its,n,r,e⟩:=I.Ě l _ hH;exact⟨z,its,n,r,r.length,e⟩
end
section
variable {X:Cx}
def oh:V->List V->Hp->VK->Prop:=λ x vs H Q=>∃ l xs y,x=.ref l/\vs=[y]/\H l\.lst xs/\xs.length<sizeLine/\Q .Ę (ak H l (.lst (xs ++ [y])))
theorem gK:Mj X "list.append" oh:=by
 intro pins s σ H x vs v us Q I rx rv h;obtain⟨l,xs,y,rfl,rfl,hH,hz,q⟩:=h;cases rx;obtain⟨u,rfl,ru⟩:=rv.one;obtain⟨z,its,n,r,hl,e⟩:=I.VY hH;refine call_meets F.slot_list_append ⟨_,e,rfl⟩ F.entry_list_append (F.args_list_append_2 _ _) (PySem.list_append l its.toArray n u (by rw[ę];lia)) ⟨e,?_⟩
 refine⟨.Ę,_,I.VZ hH e (by simp) (r.append (.cons ru .nil)) ?_,rfl,q⟩
 rw[Õ,Ν]
 lia
end
section
variable {κ:Type} [DecidableEq κ]
def a9 (Ý:List (κ × V))(k:κ):Option V:=(Ý.find? λ kv=>decide (kv.1=k)).map (·.2)
def aU (Ý:List (κ × V))(k:κ)(v:V):List (κ × V) :=
 if(Ý.any λ kv=>decide (kv.1=k))=true then Ý.map (λ kv=>if kv.1=k then(kv.1,v) else kv) else Ý ++ [(k,v)]
theorem yo {k:κ}:a9 ([]:List (κ × V)) k=none:=rfl
theorem aV {p:κ × V}(e:p.1=k):a9 (p::r) k\p.2:=by simp[a9,List.find?_cons,e]
theorem aK {p:κ × V}(e:¬ p.1=k):a9 (p::r) k=a9 r k:=by simp[a9,List.find?_cons,e]
theorem eQ (k:κ):∀ Ý:List (κ × V),(Ý.any λ kv=>decide (kv.1=k))=(a9 Ý k).isSome
 | []=>rfl
 | p::r=>by
  rw[ł];by_cases e:p.1=k
  ·simp only[aV e,decide_eq_true e,Bool.true_or,Option.isSome_some]
  ·rw[aK e,Ò e,QM];exact eQ k r
theorem oy (k j:κ)(y:V):∀ Ý:List (κ × V),a9 (Ý.map λ kv=>if kv.1=k then(kv.1,y) else kv) j=(a9 Ý j).map λ x=>if j=k then y else x
 | []=>rfl
 | p::r=>by
  have ih:=oy k j y r;rw[É];by_cases h:p.1=k
  ·rw[Ë h];by_cases e:p.1=j
   ·rw[aV (p:=(p.1,y)) e,aV e,Mv,Ë (e.symm.trans h)]
   ·rw[aK (p:=(p.1,y)) e,aK e,ih]
  ·rw[Æ h];by_cases e:p.1=j
   ·rw[aV e,aV e,Mv,Æ (λ z=>h (e.trans z))]
   ·rw[aK e,aK e,ih]
theorem lK (k j:κ)(y:V):∀ Ý:List (κ × V),a9 Ý k=none->a9 (Ý ++ [(k,y)]) j=if j=k then some y else a9 Ý j
 | [],_=>by
  by_cases e:k=j
  ·rw[Ë e.symm];exact aV e
  ·rw[Æ (λ z=>e z.symm)];exact aK e
 | p::r,hn=>by
  rw[List.cons_append];have hk:¬ p.1=k:=λ z=>by rw[aV z] at hn;cases hn
  rw[aK hk] at hn;have ih:=lK k j y r hn;by_cases e:p.1=j
  ·rw[aV e,aV e,Æ (λ z=>hk (e.trans z))]
  ·rw[aK e,aK e,ih]
theorem pW (Ý:List (κ × V))(k j:κ)(y:V):a9 (aU Ý k y) j=if j=k then some y else a9 Ý j:=by
 unfold aU;by_cases a:(Ý.any λ kv=>decide (kv.1=k))=true
 ·rw[Ë a,oy];rw[eQ] at a;by_cases e:j=k
  ·obtain⟨x,hx⟩:=ŀ.mp a;rw[Ë e,e,hx,Mv,Ë rfl]
  ·rw[Æ e];cases a9 Ý j with
   | none=>rfl
   | some x=>rw[Mv,Æ e]
 ·rw[Æ a];refine lK k j y Ý ?_;rw[eQ] at a;cases q:a9 Ý k with
  | none=>rfl
  | some x=>rw[q] at a;exact(a rfl).elim
theorem bZ (Ý:List (κ × V))(k:κ)(v:V):(aU Ý k v).length <= Ý.length+1:=by
 unfold aU;split
 ·rw[Ç];lia
 ·rw[Õ,à,ļ];lia
theorem Ũ {Ý:List (κ × V)}(v:V)(h:a9 Ý k=none):aU Ý k v = Ý ++ [(k,v)]:=by
 unfold aU;rw[eQ,h];exact Æ av
theorem ψ.K_ (r:ψ o u):o.isSome=u.isSome:=by
 cases o with
 | none=>cases u with
  | none=>rfl
  | some _=>exact(show False from r).elim
 | some _=>cases u with
  | none=>exact(show False from r).elim
  | some _=>rfl
theorem ψ.getD (r:ψ o u)(rd:RelV d d'):RelV (o.getD d) (u.getD d'):=by
 cases o with
 | none=>cases u with
  | none=>exact rd
  | some _=>exact(show False from r).elim
 | some _=>cases u with
  | none=>exact(show False from r).elim
  | some _=>exact r
theorem KV.val (r:KV Ý vs)(k:κ):ψ (a9 Ý k) (valueAt vs k):=by
 induction r with
 | nil=>exact True.intro
 | @cons p q ps qs h t ih =>
  obtain⟨h1,h2⟩:=h;by_cases e:p.1=k
  ·have e':=h1.symm.trans e;have b:valueAt (q::qs) k\q.2:=by simp[valueAt,List.find?_cons,e']
   rw[aV e,b];exact h2
  ·have e':¬ q.1=k:=λ z=>e (h1.trans z);have b:valueAt (q::qs) k=valueAt qs k:=by simp[valueAt,List.find?_cons,e']
   rw[aK e,b];exact ih
theorem KV.any {Ý:List (κ × V)}{vs:List (κ × Value)}(r:KV Ý vs)(k:κ):(Ý.any λ kv=>decide (kv.1=k))=vs.any λ kv=>decide (kv.1=k):=by
 induction r with
 | nil=>rfl
 | cons h t ih=>rw[ł,ł,ih,h.1]
theorem KV.R3 (r:KV Ý vs)(k:κ)(ry:RelV y u) :
  KV (Ý.map λ kv=>if kv.1=k then(kv.1,y) else kv) (vs.map λ kv=>if kv.1=k then(kv.1,u) else kv):=by
 induction r with
 | nil=>exact .nil
 | @cons p q ps qs h t ih =>
  rw[É,É];refine .cons ?_ ih;obtain⟨h1,h2⟩:=h;by_cases e:p.1=k
  ·rw[Ë e,Ë (h1.symm.trans e)];exact⟨h1,ry⟩
  ·rw[Æ e,Æ (λ z=>e (h1.trans z))];exact⟨h1,h2⟩
theorem KV.put (r:KV Ý vs)(k:κ)(ry:RelV y u):KV (aU Ý k y) (stored vs k u):=by
 unfold aU stored;rw[r.any k];by_cases e:(vs.any λ kv=>decide (kv.1=k))=true
 ·rw[Ë e,Ë e];exact r.R3 k ry
 ·rw[Æ e,Æ e];exact Paired.snoc r ⟨rfl,ry⟩
theorem KV.length (r:KV Ý vs):Ý.length=vs.length:=Ė r
end
theorem jA (r:RelV (kV k) u):(aQ P w).is k u=true:=by
 cases k with
 | inl i=>obtain⟨t,e⟩:=(show ∃ t,u=.int i t from r);subst e;exact qk P w i t
 | inr x=>obtain⟨t,e⟩:=(show ∃ t,u=.str x t from r);subst e;exact pQ P w x t
 | Ę=>cases (show u=.none from r);rfl
theorem l7:∀{ks:List Key}{us:List Value},Vals (ks.map kV) us->ItemsAre (aQ P w) ks us
 | [],_,r=>by rw[υ] at r;cases r;exact .nil
 | k::ks,_,r=>by
  rw[É] at r;cases r with
  | cons h t=>exact .cons (jA h) (l7 t)
abbrev KT (H:Hp):List (List NK × V)->List (List NK × Addr × Value)->Prop:=Paired λ p q=>p.1=q.1/\O_ H p.1 q.2.1/\RelV p.2 q.2.2
theorem KT.val (r:KT H Ý xs)(k:List NK):ψ (a9 Ý k) ((atKey xs k).map (·.2)):=by
 induction r with
 | nil=>exact True.intro
 | @cons p q ps qs h t ih =>
  obtain⟨h1,_,h2⟩:=h;by_cases e:p.1=k
  ·have e':=h1.symm.trans e;have b:atKey (q::qs) k\q.2:=by simp[atKey,List.find?_cons,e']
   rw[aV e,b];exact h2
  ·have e':¬ q.1=k:=λ z=>e (h1.trans z);have b:atKey (q::qs) k=atKey qs k:=by simp[atKey,List.find?_cons,e']
   rw[aK e,b];exact ih
theorem KT.R3 (r:KT H Ý xs)(k:List NK)(ry:RelV y u) :
  KT H (Ý.map λ kv=>if kv.1=k then(kv.1,y) else kv) (xs.map (putAt k u)):=by
 induction r with
 | nil=>exact .nil
 | @cons p q ps qs h t ih =>
  rw[É,É];refine .cons ?_ ih;obtain⟨h1,h2,h3⟩:=h;unfold putAt;by_cases e:p.1=k
  ·rw[Ë e,Ë (h1.symm.trans e)];exact⟨h1,h2,ry⟩
  ·rw[Æ e,Æ (λ z=>e (h1.trans z))];exact⟨h1,h2,h3⟩
theorem KT.put (r:KT H Ý xs)(k:List NK)(hb:O_ H k b)(ry:RelV y u) :
  KT H (aU Ý k y) (storedH xs k b u):=by
 have e:(Ý.any λ kv=>decide (kv.1=k))=(atKey xs k).isSome:=by
  rw[eQ,(r.val k).K_,Option.isSome_map]
 unfold aU storedH;rw[e];by_cases q:(atKey xs k).isSome=true
 ·rw[Ë q,Ë q];exact r.R3 k ry
 ·rw[Æ q,Æ q];exact Paired.snoc r ⟨rfl,hb,ry⟩
theorem KT.keeps (r:KT H Ý xs)(ht:∀ b ys,H b\.tup ys->H' b\.tup ys):KT H' Ý xs :=
 Paired.ON r λ _ _ z=>⟨z.1,z.2.1.keep ht,z.2.2⟩
section
variable {P:Program}{w:World}{H:Hp}{h:Heap}{a:Addr}
theorem A7 (ok:ω P w H h)(e:Rd H a u):Ē P w H h a u:=e.ok ok
theorem kC (ok:ω P w H h)(e:Rd H a (.dK Ý)):Ý.length<=sizeLine/\(a==sysModules)=false/\∃ vs,KV Ý vs/\h.DictOf (aQ P w) a vs :=
 show Ē P w H h a (.dK Ý) from A7 ok e
theorem vP (ok:ω P w H h)(e:H a\.dK Ý):Ý.length<=sizeLine/\(a==sysModules)=false/\∃ vs,KV Ý vs/\h.DictOf (aQ P w) a vs:=kC ok (.inl e)
theorem i6 (ok:ω P w H h)(e:O_ H ks a):(i9 P w).is h ks a:=by
 obtain⟨vs,e,r⟩:=e;obtain⟨lz,its,rv,o,h1,h2,n,h3⟩:=(show Ē P w H h a (.tup vs) from ok a _ e);refine⟨o,its.toArray,n,h1,h2,h3,?_⟩
 clear h3 e lz
 induction r generalizing its with
 | nil=>cases rv;exact .nil
 | @cons k v ks vs z t ih =>
  cases rv with
  | cons rx rv =>
   refine .cons ?_ (ih _ rv);cases k with
   | k x =>
    cases (show v=kV x from z);exact jA rx
   | t ks =>
    obtain⟨b,rfl,q⟩:=z;cases rx;obtain⟨_,its,r,o,h1,h2,n,h3⟩:=(show Ē P w H h b (.tup (ks.map kV)) from ok b _ q);exact⟨b,rfl,o,its.toArray,n,h1,h2,h3,by simpa using l7 r⟩
theorem mP (ok:ω P w H h)(e:Rd H a (.dT Ý)):Ý.length<=sizeLine/\(a==sysModules)=false /\
  ∃ xs,KT H Ý xs/\h.DictOfH (i9 P w) a xs:=by
 obtain⟨z,y,xs,r,o,es,ep,h1,h2,h3,h4,h5⟩:=(show Ē P w H h a (.dT Ý) from A7 ok e);refine⟨z,y,xs,r,o,es,ep,h1,h2,h3,h4,λ x hx=>?_,h5⟩;have all:∀{l:List (List NK × V)}{m:List (List NK × Addr × Value)},KT H l m->∀ x∈m,(i9 P w).is h x.1 x.2.1:=by
  intro l m q
  induction q with
  | nil=>intro x hx;exact nomatch hx
  | @cons p q ps qs hq t ih =>
   intro x hx;rcases Ö.mp hx with e | hx
   ·subst e;exact i6 ok (by rw[<- hq.1];exact hq.2.1)
   ·exact ih x hx
 exact all r x hx
theorem AG (ok:ω P w H h)(e:H a\.dT Ý):Ý.length<=sizeLine/\(a==sysModules)=false /\
  ∃ xs,KT H Ý xs/\h.DictOfH (i9 P w) a xs:=mP ok (.inl e)
end
def ſ (H:Hp)(a:Addr)(y:V)(r:Option V):Prop :=
 (∃ Ý k,Rd H a (.dK Ý)/\y=kV k/\r=a9 Ý k)\/∃ Ý k b,Rd H a (.dT Ý)/\y=.ref b/\O_ H k b/\r=a9 Ý k
def Mp (H:Hp)(a:Addr)(y v:V)(H':Hp):Prop :=
 (∃ Ý k,H a\.dK Ý/\y=kV k/\Ý.length<sizeLine/\H'=ak H a (.dK (aU Ý k v))) \/
 ∃ Ý k b,H a\.dT Ý/\y=.ref b/\O_ H k b/\Ý.length<sizeLine/\H'=ak H a (.dT (aU Ý k v))
theorem ſ.k {Ý:List (Key × V)}{k:Key}(e:H a\.dK Ý):ſ H a (kV k) (a9 Ý k):=.inl ⟨Ý,k,.inl e,rfl,rfl⟩
theorem Mp.k {H:Hp}{a:Addr}{Ý:List (Key × V)}{k:Key}{v:V}(e:H a\.dK Ý)(hl:Ý.length<sizeLine):Mp H a (kV k) v (ak H a (.dK (aU Ý k v))):=.inl ⟨Ý,k,e,rfl,hl,rfl⟩
section
variable {X:Cx}{pins:List (Addr × Obj)}{σ:St}{H:Hp}{s:Shared}{a:Addr}{y v:V}{u r:Value}{o:Option V}{A:Around}{E:eZ}
theorem Inv.big (I:Inv X pins σ H s):sysModules<s.heap.objs.size:=by
 have h:=(I.mod.glob.keeps I.bk).lt;exact I_ av h
theorem uq (hu:A.units+2<cLine)(I:Inv X pins σ H s)(g:ſ H a y (some v))(ry:RelV y u)(h:∀ w' s',Inv X pins σ H s'->RelV v w'->Q w' s') :
  wpAny (model X.prog X.w) A (getItem (.ref a) u) Q E s:=by
 rcases g with⟨Ý,k,e,ey,l⟩ | ⟨Ý,k,b,e,ey,eb,l⟩
 ·subst ey;obtain⟨z,hd,vs,rel,dd⟩:=kC I.Ě e;obtain⟨w',hw,OI⟩:=ψ.some_of (by rw[l];exact rel.val k)
  exact wpAny_getItem_of (jA ry) dd.mapOf hw (h w' _ (I.tok _) OI)
 ·subst ey;cases (show u=.ref b from ry);obtain⟨z,hd,xs,rel,dd⟩:=mP I.Ě e;obtain⟨w',hw,OI⟩:=ψ.some_of (by rw[l];exact rel.val k)
  obtain⟨p,hp,hp2⟩:=Û.mp hw;refine wpAny_getItem_heap hu (i6 I.Ě eb) dd hp ?_;rw[hp2];exact h w' _ (I.tok _) OI
theorem zi (hu:A.units+2<cLine)(I:Inv X pins σ H s)(g:ſ H a y o)(ry:RelV y u)(h:∀ s',Inv X pins σ H s'->Q (.bool (!o.isSome)) s') :
  wpAny (model X.prog X.w) A (compareOp .NotIn u (.ref a)) Q E s:=by
 rcases g with⟨Ý,k,e,ey,l⟩ | ⟨Ý,k,b,e,ey,eb,l⟩
 ·subst ey;obtain⟨z,hd,vs,rel,dd⟩:=kC I.Ě e;refine wpAny_notIn_of (jA ry) hd dd.mapOf ?_;rw[<- (rel.val k).K_,<- l];exact h _ (I.tok _)
 ·subst ey;cases (show u=.ref b from ry);obtain⟨z,hd,xs,rel,dd⟩:=mP I.Ě e;refine wpAny_notIn_heap hu (i6 I.Ě eb) hd dd ?_;have q:=(rel.val k).K_;rw[Option.isSome_map] at q;rw[<- q,<- l];exact h _ (I.tok _)
theorem gC (I:Inv X pins σ H s)(mu:Fg (H a))(hs:Heap.SameBut a s.heap h')(he:∃ q,h'.get? a\q)(new:Ē X.prog X.w (ak H a ob) h' a ob) :
  Inv X pins σ (ak H a ob) { s with heap:=h',toks:=t' } :=
 I.write mu (.inl rfl) (λ b q hb z=>(hs.2 b hb).trans z) he new
theorem qN (z:Ý.length<=sizeLine)(hd:(a==sysModules)=false)(rel:KV Ý vs)(dd:h'.DictOf (aQ P w) a vs) :
  Ē P w H' h' a (.dK Ý):=⟨z,hd,vs,rel,dd⟩
theorem uI (hu:A.units+2<cLine)(I:Inv X pins σ H s)(g:Mp H a y v H')(ry:RelV y u)(rv:RelV v r)(h:∀ s',Inv X pins σ H' s'->Q () s') :
  wpAny (model X.prog X.w) A (setItem (.ref a) u r) Q E s:=by
 rcases g with⟨Ý,k,e,ey,l,eH⟩ | ⟨Ý,k,b,e,ey,eb,l,eH⟩
 ·subst ey eH;obtain⟨z,hd,vs,rel,dd⟩:=vP I.Ě e;have hz:vs.length<=sizeLine:=by rw[<- rel.length];exact z
  have hl:(aU Ý k v).length<=sizeLine:=by have:=bZ Ý k v;lia
  refine wpAny_setItem_pairs (jA ry) dd λ h' PK hs=>h _ ?_;have he:∃ q,h'.get? a\q:=let ⟨q,_,_,hq,_⟩:=PK;⟨q,hq⟩
  exact gC I (by rw[e];exact True.intro) hs he (qN hl hd (rel.put k rv) PK)
 ·subst ey eH;cases (show u=.ref b from ry);obtain⟨z,hd,xs,rel,dd⟩:=AG I.Ě e;have hz:xs.length<=sizeLine:=by rw[<- Ė rel];exact z
  have hl:(aU Ý k v).length<=sizeLine:=by have:=bZ Ý k v;lia
  refine wpAny_setItem_heap hu (i6 I.Ě eb) dd λ h' PK hs=>h _ ?_;obtain⟨q,es,ep,hq,h2,h3,h4,_,h5⟩:=PK;refine gC I (by rw[e];exact True.intro) hs ⟨q,hq⟩ ⟨hl,hd,_,(rel.put k eb rv).keeps λ c ys ec=>?_,q,es,ep,hq,h2,h3,h4,h5⟩
  rw[ai (AN ec e (λ z=>nomatch z))];exact ec
end
def Gc (i:Expr):Prop:=∀ ov iv,subscripted i false ov iv=operate [ov,iv] (getItem ov iv)
theorem yw {T id:String}
  (hl:typeLookup (.type T) "__getitem__" = pure (some (.builtin id))) (hs:Gc slice)
  (h:wpAny (model prog w) A (eval value env) (λ o ģ=>wpAny (model prog w) A (eval slice env) (λ i i_=>i_.TypeIs o T/\wpAny (model prog w) A (getItem o i) Q E i_) E ģ) E s) :
  wpAny (model prog w) A (eval (.Subscript value slice pos) env) Q E s:=by
 refine Subscript_ (Ĳ h (λ o ģ ι=>Ĳ ι (λ i i_ L_=>?_) λ _ _ x=>x) λ _ _ x=>x);obtain⟨hT,L_⟩:=L_;refine À ?_;rw[getitemInPython_of_ne hT.not_modules];refine À (Ι hT hl ?_);have fin:wpAny (model prog w) A (subscripted slice false o i) (λ r MN=>wpAny (model prog w) A (letTemporaryGo value o r >>= λ _=>pure r) Q E MN) E i_:=by
  rw[hs o i];exact wpAny_operating (Ĳ L_ (λ r MN L'=>À (wpAny_letTemporaryGo (Á L'))) λ _ _ x=>x)
 first
  | exact Á (À fin)
  | exact À (Á (À fin))
  | exact À fin
theorem ow (I:Inv X pins σ H s)(g:ſ H a y o):s.TypeIs (.ref a) "dict" := by
 rcases g with⟨Ý,k,e,_,_⟩ | ⟨Ý,k,b,e,_,_,_⟩
 ·obtain⟨_,_,vs,_,dd⟩:=kC I.Ě e;exact dd.typeIs
 ·obtain⟨_,_,xs,_,dd⟩:=mP I.Ě e;exact dd.typeIs
def bL (td ty:TE):TE:=λ σ H Q=>td σ H λ x H1=>ty σ H1 λ y H2=>∃ a v,x=.ref a/\ſ H2 a y (some v)/\Q v H2
def zu (ty td:TE):TE:=λ σ H Q=>ty σ H λ y H1=>td σ H1 λ x H2=>∃ a o,x=.ref a/\ſ H2 a y o/\Q (.bl (!o.isSome)) H2
def gU (td ty tv:TE):TS:=λ D σ H=>tv σ H λ v H1=>td σ H1 λ x H2=>ty σ H2 λ y H3=>∃ a H4,x=.ref a/\Mp H3 a y v H4/\D.nx σ H4
section
variable {X:Cx}{o i e value:Expr}{pos pos' VB:Pos}{td ty tv:TE}
theorem a8 (hu:X.A.units+2<cLine)(ho:PE X o td)(hi:PE X i ty)(hs:Gc i:=by exact λ _ _=>rfl):PE X (.Subscript o i pos) (bL td ty):=by
 intro pins s σ H Q I h;refine yw PySem.F.slot_dict_getitem.lookup hs (bj (ho pins s σ H _ I h) λ u s1 ⟨x,H1,I1,rx,q1⟩=>bj (hi pins s1 σ H1 _ I1 q1) λ iv s2 ⟨y,H2,I2,ry,a,v,ex,g,q2⟩=>?_);subst ex;obtain rfl:u=.ref a:=rx;exact⟨ow I2 g,uq hu I2 g ry λ w' s3 I3 OI=>⟨v,H2,I3,OI,q2⟩⟩
theorem uK (hu:X.A.units+2<cLine)(hi:PE X i ty)(ho:PE X o td):PC X .NotIn i o (zu ty td):=by
 intro pins s σ H Q I h;refine bj (hi pins s σ H _ I h) λ iv s1 ⟨y,H1,I1,ry,q1⟩=>bj (ho pins s1 σ H1 _ I1 q1) λ u s2 ⟨x,H2,I2,rx,a,ov,ex,g,q2⟩=>?_;subst ex;obtain rfl:u=.ref a:=rx;exact zi hu I2 g ry λ s3 I3=>⟨.bl (!ov.isSome),H2,I3,rfl,q2⟩
theorem cI (hu:X.A.units+2<cLine)(ho:PE X o td)(hi:PE X i ty)(hv:PE X value tv)(hs:swapsWith value (some (.Subscript o i pos')) pos.line X.env=pure false) :
  PS X (.Assign [.Subscript o i pos'] value pos) (gU td ty tv):=by
 intro pins s σ H D I h;refine wpAny_Assign_Subscript (bj (hv pins s σ H _ I h) λ r s1 ⟨v,H1,I1,rv,q1⟩=>bj (ho pins s1 σ H1 _ I1 q1) λ u s2 ⟨x,H2,I2,rx,q2⟩=>bj (hi pins s2 σ H2 _ I2 q2) λ iv s3 ⟨y,H3,I3,ry,a,H4,ex,g,q3⟩=>?_) hs;subst ex;obtain rfl:u=.ref a:=rx;exact uI hu I3 g ry rv λ s4 I4=>⟨σ,H4,I4,q3⟩
end
theorem kZ (h:Heap)(hb:sysModules<h.objs.size):Ē P w H (h.push { cls:=.type "dict",data:=.dict #[] }) h.objs.size (.dK []) :=
 ⟨Ť _,ü.mpr (Ne.symm (æ hb)),[],.nil,Heap.DictOf.new h⟩
theorem ou (h:Heap)(hb:sysModules<h.objs.size):Ē P w H (h.push { cls:=.type "dict",data:=.dict #[] }) h.objs.size (.dT []) :=
 ⟨Ť _,ü.mpr (Ne.symm (æ hb)),[],.nil,_,#[],0,Ó _ rfl,⟨rfl,rfl,rfl⟩,rfl,rfl,List.nodup_nil⟩
def eG:TE:=λ _ H Q=>∀ p,H p=none->Q (.ref p) (ak H p (.dK []))
def ie:TE:=λ _ H Q=>∀ p,H p=none->Q (.ref p) (ak H p (.dT []))
section
variable {X:Cx}{pos:Pos}
theorem gy:PE X (.Dict [] [] pos) eG:=λ pins s σ H Q I h =>
 wpAny_Dict_empty ⟨.ref s.heap.objs.size,_,I.laid (λ _ _ q=>Ä _ q) (Å _) (kZ s.heap I.big),rfl,h _ (I.Ě.fresh (Å _))⟩
theorem im:PE X (.Dict [] [] pos) ie:=λ pins s σ H Q I h =>
 wpAny_Dict_empty ⟨.ref s.heap.objs.size,_,I.laid (λ _ _ q=>Ä _ q) (Å _) (ou s.heap I.big),rfl,h _ (I.Ě.fresh (Å _))⟩
end
def og:List (TE × TE)->St->Hp->(List (V × V)->Hp->Prop)->Prop
 | [],_,H,Q=>Q [] H
 | (tk,tv)::r,σ,H,Q=>tk σ H λ x H1=>tv σ H1 λ y H2=>og r σ H2 λ ps H3=>Q ((x,y)::ps) H3
abbrev VV:List (V × V)->List (Value × Value)->Prop:=Paired λ p q=>RelV p.1 q.1/\RelV p.2 q.2
def Im (X:Cx)(pos:Pos)(keys:List (Option Expr))(values:List Expr)(RU:List (TE × TE)):Prop :=
 ∀(pins:List (Addr × Obj))(s:Shared)(σ:St)(H:Hp)(Q:List (V × V)->Hp->Prop),Inv X pins σ H s->og RU σ H Q ->
  wpAny (model X.prog X.w) X.A (evalPairs (pairTrees keys values X.env pos)) (λ vs s'=>∃ ps H',Inv X pins σ H' s'/\VV ps vs/\Q ps H') X.xe s
theorem nQ:Im X pos [] [] []:=λ pins s σ H Q I h=>pairTrees_nil_walk ⟨[],H,I,.nil,h⟩
theorem fS (hk:PE X k tk)(hv:PE X v tv)(hr:Im X pos ks vs RU) :
  Im X pos (some k::ks) (v::vs) ((tk,tv)::RU):=λ pins s σ H Q I h =>
 pairTrees_cons_walk (bj (hk pins s σ H _ I h) λ u s1 ⟨x,H1,I1,rx,q1⟩=>bj (hv pins s1 σ H1 _ I1 q1) λ w2 s2 ⟨y,H2,I2,ry,q2⟩ =>
  bj (hr pins s2 σ H2 _ I2 q2) λ ws s3 ⟨ps,H3,I3,rel,q3⟩=>⟨(x,y)::ps,H3,I3,.cons ⟨rx,ry⟩ rel,q3⟩)
def fq (Ý more:List (Key × V)):List (Key × V):=more.foldl (λ acc kv=>aU acc kv.1 kv.2) Ý
theorem KV.merge:∀{more:List (Key × V)}{rs:List (Key × Value)}{Ý:List (Key × V)}{vs:List (Key × Value)},KV more rs->KV Ý vs->KV (fq Ý more) (merged vs rs):=by
 intro more rs Ý vs r
 induction r generalizing Ý vs with
 | nil=>intro q;exact q
 | @cons p q ps qs h t ih =>
  intro r0;have e:KV (aU Ý p.1 p.2) (stored vs q.1 q.2):=by
   have:=r0.put p.1 h.2;rw[<- h.1];exact this
  exact ih e
theorem gX:∀(more Ý:List (Key × V)),(fq Ý more).length <= Ý.length+more.length
 | [],Ý=>by show Ý.length <= Ý.length+0;lia
 | p::r,Ý=>by
  have h1:=gX r (aU Ý p.1 p.2);have h2:=bZ Ý p.1 p.2;show(fq (aU Ý p.1 p.2) r).length<=_;rw[à];lia
theorem jT:∀{Ý:List (Key × V)}{ws:List (Value × Value)},VV (Ý.map λ kv=>(kV kv.1,kv.2)) ws->∃ rs,Carries (aQ P w) ws rs/\KV Ý rs
 | [],_,r=>by rw[υ] at r;cases r;exact⟨[],True.intro,.nil⟩
 | p :: Ý,_,r=>by
  rw[É] at r;cases r with
  | @cons a b as bs h t =>
   obtain⟨rs,c,q⟩:=jT t;obtain⟨b1,b2⟩:=b;exact⟨(p.1,b2)::rs,⟨jA h.1,rfl,c⟩,.cons ⟨rfl,h.2⟩ q⟩
def wI (RU:List (TE × TE)):TE:=λ σ H Q=>∀ p,H p=none->og RU σ (ak H p (.dK [])) λ ps H2=>H2 p\.dK []/\∃ Ý:List (Key × V),ps = Ý.map (λ kv=>(kV kv.1,kv.2))/\Ý.length<=15/\Q (.ref p) (ak H2 p (.dK (fq [] Ý)))
theorem sV (h:Im X pos keys values RU)(Ps:keys.all (·.isSome)=true)(hl:keys.length=values.length)(h0:keys ≠ [])
  (h15:keys.length<=15):PE X (.Dict keys values pos) (wI RU):=by
 intro pins s σ H Q I q;have hn:=I.Ě.fresh (Å s.heap.objs.size);have I1:=I.laid (a:=s.heap.objs.size) (o:=.dK []) (h':=s.heap.push { cls:=.type "dict",data:=.dict #[] }) (t':=s.toks) (λ _ _ q=>Ä _ q) (Å _) (kZ s.heap I.big);refine wpAny_Dict_walk (knd:=aQ X.prog X.w) Ps hl h0 h15 (bj (h pins _ σ _ _ I1 (q _ hn)) λ ws s2 ⟨ps,H2,I2,rel,e,Ý,ep,lk,q2⟩=>?_);subst ep;obtain⟨rs,c,rk⟩:=jT rel;obtain⟨z,hd,vs0,r0,dd⟩:=vP I2.Ě e;cases r0;refine⟨rs,c,dd,λ h' PK hs=>⟨.ref s.heap.objs.size,_,?_,rfl,q2⟩⟩;have hz:(fq [] Ý).length<=sizeLine:=by
  have h1:=gX Ý [];rw[ļ] at h1;rw[è];lia
 have he:∃ q,h'.get? s.heap.objs.size\q:=let ⟨q,_,_,hq,_⟩:=PK;⟨q,hq⟩
 exact gC I2 (by rw[e];exact True.intro) hs he (qN hz hd (rk.merge .nil) PK)
structure M1 (X:Cx)(o:Expr)(m:Str)(Ū:Pos)(e:Expr)(ž:Pos):Prop where
 base:attributeBase o m X.env (eval o X.env)=eval o X.env
 Ox:((backTo ž (starEach [e] X.env)).all (λ x=>!x.1)&&(backToKw ž (keywordEach [] X.env)).all (λ x=>x.1.isSome)
  && decide (([e]:List Expr).length+([]:List Keyword).length+(if([]:List Keyword).isEmpty then 0 else 1)<30))=true
 line:(Ū.endLine == ž.line)=true
 trees:backTo ž (starEach [e] X.env)=[(false,eval e X.env)]
structure M2 (X:Cx)(o:Expr)(m:Str)(Ū:Pos)(e f:Expr)(ž:Pos):Prop where
 base:attributeBase o m X.env (eval o X.env)=eval o X.env
 Ox:((backTo ž (starEach [e,f] X.env)).all (λ x=>!x.1)&&(backToKw ž (keywordEach [] X.env)).all (λ x=>x.1.isSome)
  && decide (([e,f]:List Expr).length+([]:List Keyword).length+(if([]:List Keyword).isEmpty then 0 else 1)<30))=true
 line:(Ū.endLine == ž.line)=true
 trees:backTo ž (starEach [e,f] X.env)=[(false,eval e X.env),(false,eval f X.env)]
def Li (H:Hp)(a:Addr):Prop:=(∃ Ý,Rd H a (.dK Ý))\/∃ Ý,Rd H a (.dT Ý)
theorem EC (I:Inv X pins σ H s)(d:Li H a) :
  s.TypeIs (.ref a) "dict" /\ (∀ b,Value.ref a=.ref b->∃ ob,s.heap.get? b\ob/\ob.dict=none)/\(a==sysModules)=false:=by
 rcases d with⟨Ý,e⟩ | ⟨Ý,e⟩
 ·obtain⟨_,hd,vs,_,dd⟩:=kC I.Ě e;refine⟨dd.typeIs,λ b q=>?_,hd⟩;cases q;obtain⟨ob,_,_,h1,h2,_⟩:=dd;exact⟨ob,h1,h2.2.1⟩
 ·obtain⟨_,hd,xs,_,dd⟩:=mP I.Ě e;refine⟨dd.typeIs,λ b q=>?_,hd⟩;cases q;obtain⟨ob,_,_,h1,h2,_⟩:=dd;exact⟨ob,h1,h2.2.1⟩
section
variable {X:Cx}{pins:List (Addr × Obj)}{σ:St}{H:Hp}{s:Shared}{a:Addr}{y d:V}{u r:Value}{o:Option V}{A:Around}{E:eZ}
theorem ED (hu:A.units+2<cLine)(I:Inv X pins σ H s)(g:ſ H a y o)(ry:RelV y u)(rd:RelV d r)(h:∀ w' s',Inv X pins σ H s'->RelV (o.getD d) w'->Q w' s') :
  wpAny (model X.prog X.w) A (call (.builtin "dict.get") [.ref a,u,r]) Q E s:=by
 rcases g with⟨Ý,k,e,ey,l⟩ | ⟨Ý,k,b,e,ey,eb,l⟩
 ·subst ey;obtain⟨z,hd,vs,rel,dd⟩:=kC I.Ě e;refine M' MB dd.typeIs RE (Q_ _ _ _) (meets_dict_get_default (aQ X.prog X.w) a (jA ry) hd r) ⟨_,dd.mapOf,h _ _ (I.tok _) ?_⟩;rw[l];exact(rel.val k).getD rd
 ·subst ey;cases (show u=.ref b from ry);obtain⟨z,hd,xs,rel,dd⟩:=mP I.Ě e;refine M' MB dd.typeIs RE (Q_ _ _ _) (meetsH_dict_get_default (i9 X.prog X.w) a b hd r) ⟨hu,k,xs,i6 I.Ě eb,dd,h _ _ (I.tok _) ?_⟩;rw[l];exact(rel.val k).getD rd
end
def fu (td ty tx:TE):TE:=λ σ H Q=>td σ H λ x H1=>∃ a,x=.ref a/\Li H1 a/\ty σ H1 λ y H2=>tx σ H2 λ z H3=>∃ o,ſ H3 a y o/\Q (o.getD z) H3
section
variable {X:Cx}{o e f:Expr}{Ū ž:Pos}{td ty tx:TE}
theorem dP (hu:X.A.units+2<cLine)(ho:PE X o td)(he:PE X e ty)(hf:PE X f tx)(m:M2 X o "get" Ū e f ž):PE X (.Call (.Attribute o "get" Ū) [e,f] [] ž) (fu td ty tx):=by
 intro pins s σ H Q I h;refine wpAny_Call_method m.base m.Ox m.line B' MB PySem.F.type_dict_get (bj (ho pins s σ H _ I h) λ u s1 ⟨x,H1,I1,rx,a,ex,d,q1⟩=>?_);subst ex;obtain rfl:u=.ref a:=rx;obtain⟨t1,t2,_⟩:=EC I1 d;refine⟨t1,t2,?_⟩;rw[m.trees];refine γ rfl (Calls.evalArgs_plain (Pi (bj (he pins s1 σ H1 _ I1 q1) λ iv s2 ⟨y,H2,I2,ry,q2⟩ =>
  Pi (bj (hf pins s2 σ H2 _ I2 q2) λ fv s3 ⟨z,H3,I3,rz,ov,g,q3⟩=>Calls.spliced_nil ?_))))
 exact ED hu I3 g ry rz λ w' s4 I4 OI=>⟨_,H3,I4,OI,q3⟩
end
end L2
namespace Att
open PySem PySem.W PySem.Calls PyProof.Rows
theorem jC:∀(ns:List Int)(vs:List Value),WellAll P h vs (ns.map WData.int)->IntsAre vs ns:=by
 intro ns
 induction ns with
 | nil =>
  intro vs w;rw[υ] at w;cases w;exact .nil
 | cons n ns ih =>
  intro vs w;rw[É] at w;cases w with
  | cons a b =>
   cases a;exact .cons _ _ (ih _ b)
theorem tY {l:OpenLaw}(hn:l.most\n)
  (QS:l.row.toRowW.claim.pre args=true) (Wb:WellAll P h vals args) :
  ∃ a vs ns,vals=[Value.ref a]/\args=[WData.list (ns.map WData.int)]/\h.get? a=some { cls:=.type "list",data:=.seq vs.toArray }/\IntsAre vs ns/\ns.length<=n:=by
 have hsh:=(pre_splitW QS).1;have hc:=(pre_splitW QS).2;obtain⟨d,r,rfl,h1,h2⟩:=hasAllW_cons hsh;obtain rfl:=hasAllW_nil h2;obtain⟨xs,rfl,h3⟩:=hasW_list h1;obtain⟨ns,rfl⟩:=items_int h3;have Ş:ns.length<=n:=by
  have h4:(WTm.not (.lt (.lit (.int (n:Int))) (.len (.arg 0)))).holds [] { args:=[.list (ns.map .int)] }=true:=by
   have h4:=(holds_andW hc).1;rw[hn] at h4;exact h4
  have h5:=condW_of h4 (w_not (w_lt w_lit (w_len_list (w_arg rfl))));rw[Ç] at h5;refine Nat.le_of_not_lt λ q=>?_;have q':(n:Int)<((ns.length:Nat):Int):=ad
  first
   | (rw[Ê q'] at h5;exact absurd h5 av)
   | (simp at h5;lia)
 cases Wb with
 | cons w1 w2 =>
  cases w2;cases w1 with
  | list ho Ps=>exact⟨_,_,ns,rfl,rfl,ho,jC ns _ Ps,Ş⟩
theorem uE (l:OpenLaw)(args:List WData):l.row.toRowW.claim.post args (.bool true) args=true :=
 postW_of
  (show WShape.has [] (.bool true) .bool=true by first | rfl | decide | simp[WShape.has,WShape.arms,WShape.armsAll])
  (show(WTm.eq .res (.lit (.bool true))).value [] { args:=args,res:=some (.bool true),after:=args }\.bool (true==true) from w_eq_bool (w_res rfl) w_lit) rfl
end Att
namespace L2
open PySem PySem.Spec PyProof.Rows
theorem iW:∀{vs:List Value}{ns:List Int},IntsAre vs ns->Vals (ns.map V.int) vs
 | _,_,.nil=>.nil
 | _,_,.cons n t h=>.cons ⟨t,rfl⟩ (iW h)
def Bt (H:Hp):Prop:=∀ b,H b=none\/∃ o xs,H b\.Η o (.lst xs)
def bn (s:Stmt)(j:Nat):Stmt:=match s with
 | .ClassDef _ _ _ body _ _ _ _ _ _ _=>body.getD j (.Pass ⟨0,0,0,0⟩)
 | _=>.Pass ⟨0,0,0,0⟩
def cU (s:Stmt):Arguments:=match s with
 | .FunctionDef _ a _ _ _ _ _ _ _ _=>a
 | _=>{ posonlyargs:=[],args:=[],vararg:=none,kwonlyargs:=[],kw_defaults:=[],kwarg:=none,defaults:=[] }
def aH (s:Stmt):List Stmt:=match s with
 | .FunctionDef _ _ b _ _ _ _ _ _ _=>b
 | _=>[]
def aa (s:Stmt):Scope:=match s with
 | .FunctionDef _ _ _ _ _ _ sc _ _ _=>sc
 | _=>{ kind:=.function,names:=[],isGenerator:=false,isCoroutine:=false }
abbrev az:qp:=λ _ _ _ _ _ _=>False
abbrev E0:XK:=λ _ _ _=>False
theorem aj:dj az X E0:=λ _ _ _ _ _ _ _ h=>h.elim
structure Ļ (K:PySem.W.Frag)(x qual:Str)(st:Stmt)(f:Addr)(fd:FuncData):Prop where
 ex:∃(oc:Value)(od:Option Addr)(kV doc pm:Value)(an:Option Addr)(cdv ct:Value)(R4:Array (Option Value)),
  fd=PySem.W.fnOf x qual (cU st) (aH st) (aa st) .none kV doc pm an cdv ct/\K.lookup f\⟨oc,od,.func fd,R4⟩/\PySem.W.codeIn K cdv qual=true
 kp:PySem.W.keepIn K (.ref f)=true
section
variable {P:Program}{w:World}{K:PySem.W.Frag}{mg:bD}{base:Heap}
theorem Ļ.ok {st:Stmt}(F:Ļ K x qual st f fd)(S:ag N ps (aa st))(len:∀ vs H Q E,sp vs H Q E->vs.length=ps.length)
  (F':∀(cdv:Value)(A:Around)(outer:List Env)(s:Shared)(H:Hp)(vs:List V)(Q:VK)(E:XK),Ă k (A.deeper (envOfC qual (aa st) s.heap.objs.size f cdv))->sp vs H Q E ->
   ∃ t,ο (b9 az P w K mg base N qual (aa st) f cdv A outer s H E).K' (aH st) t/\t { nx:=λ _ H'=>Q .Ę H',rt:=Q } (fQ N vs) H):ð P w K mg base az (k+1) f fd ps sp:=by
 obtain⟨oc,od,kV,doc,pm,an,cdv,ct,R4,rfl,lk,Ov⟩:=F.ex;refine AC lk Ov S len λ A outer s H vs Q E hr Pp=>?_;obtain⟨t,h,q⟩:=F' cdv A outer s H vs Q E hr Pp;exact⟨t,h.K',q⟩
theorem cj {st:Stmt}(F:Ļ K x qual st f fd)(S:ag N ps (aa st))
  (F':∀(cdv:Value)(A:Around)(outer:List Env)(s:Shared)(H:Hp)(vs:List V)(Q:VK)(E:XK),Ă k (A.deeper (envOfC qual (aa st) s.heap.objs.size f cdv))->sp vs H Q E ->
   ∃ t,ο (b9 az P w K mg base N qual (aa st) f cdv A outer s H E).K' (aH st) t/\t { nx:=λ _ H'=>Q .Ę H',rt:=Q } (fQ N vs) H) (len:∀ vs H Q E,sp vs H Q E->vs.length=ps.length:=by intro vs H Q E h;repeat (first | (obtain⟨rfl,_⟩:=h;rfl) | (obtain⟨_,h⟩:=h))):ð P w K mg base az (k+1) f fd ps sp:=F.ok S len F'
theorem Ļ.binds {st:Stmt}(F:Ļ K x qual st f fd)
  (h:∀(kV doc pm:Value)(an:Option Addr)(cdv ct:Value)(us:List Value),us.length=ps.length->bindArgs (PySem.W.fnOf x qual (cU st) (aH st) (aa st) .none kV doc pm an cdv ct) ⟨us,[]⟩=pure (ps.zip us)):Binds K fd ps []:=by
 obtain⟨oc,od,kV,doc,pm,an,cdv,ct,R4,rfl,lk,Ov⟩:=F.ex;exact .all (h kV doc pm an cdv ct)
theorem Ml {x qual:Str}{st:Stmt}{kV doc pm cdv ct:Value}(l:K.lookup f\⟨oc,od,.func (PySem.W.fnOf x qual (cU st) (aH st) (aa st) .none kV doc pm an cdv ct),R4⟩)
  (c:PySem.W.codeIn K cdv qual=true) (k:PySem.W.keepIn K (.ref f)=true):Ļ K x qual st f (PySem.W.fnOf x qual (cU st) (aH st) (aa st) .none kV doc pm an cdv ct):=⟨⟨oc,od,kV,doc,pm,an,cdv,ct,R4,rfl,l,c⟩,k⟩
end
theorem lM {n:Nat}(h:n<=1000):n<sizeLine:=ĭ h av
section
variable {X:Cx}
theorem pv (i:Nat)(hN:X.N[i]?\x:=by rfl)(hv:GH X.env.scope x:=by first | exact Or.inl rfl | exact Or.inr (Or.inl rfl) | exact Or.inr (Or.inr rfl))(hd:(x==("__debug__" : Str))=false:=by decide)
  (Ov:(x==("__classdict__" : Str))=false:=by decide):PE X (.Name x pos) (af i):=B6 hN hv hd Ov
end
theorem gO {c A B:Prop} [Decidable c] (h1:c->A)(h2:¬ c->B):if c then A else B:=by
 by_cases h:c
 ·rw[Ë h];exact h1 h
 ·rw[Æ h];exact h2 h
def œ (H H':Hp):Prop:=∀ b o,H b\o->H' b\o
theorem œ.refl (H:Hp):œ H H:=λ _ _ h=>h
theorem œ.trans {H H1 H2:Hp}(a:œ H H1)(b:œ H1 H2):œ H H2:=λ c o h=>b c o (a c o h)
end L2
set_option maxHeartbeats 4000000
namespace Att
open PySem PySem.W PySem.Calls PyProof.Rows
theorem qU (r:ReadsAllW R cl h [.ref a] [.list ds] as):a∈as:=by
 cases r with
 | cons r1 r2 =>
  cases r1 with
  | list=>simp
theorem N3 {l:OpenLaw}
  (hn:l.most\n) (UI:d.params.defaults=[])
  (call:∀(w:World)(Ų ģ:Shared)(mg mb:bD)(fa:Addr)(o:Obj)(pm cd doc:Value)(a:Addr)(vs:List Value)(ns:List Int),
   Ground q loose [] XP w Ų mg mb ģ.heap->YP w ģ.heap ->
   ģ.heap.get? fa\o->o.data=.func (docDef d.name d.params d.body d.scope pm cd doc)->ģ.heap.CodeRec cd d.name->mg d.name=some (.ref fa) ->
   ģ.heap.get? a=some { cls:=.type "list",data:=.seq vs.toArray }->IntsAre vs ns->ns.length<=n->ģ.gens = #[]->a≠sysModules ->
   codeAny (model l.prog w) callerA (.call (.ref fa) ⟨[.ref a],[]⟩) (λ r s'=>r=.ok (.ret (.bool true))/\OldK ģ.heap s'.heap/\s'.os = ģ.os/\AllBare s'.gens) ģ) :
  WalkO q loose XP YP l.row.toRowW d [] (λ f vs=>PySem.call f vs):=by
 intro w Ų ģ mg mb G Y fa o pm cd doc dV kV ho hd Ov hD UD hg args vals as QS aa1 hrd Wb hlo;obtain rfl:dV=.none:=Dflts.none hD UI;obtain rfl:kV=.none:=Dflts.noKw hD;obtain⟨a,vs,ns,rfl,rfl,Se,hints,Ş⟩:=tY hn QS Wb;have low:=ü.mp (hlo a (qU hrd));refine enter_call (Φ (call w Ų ģ mg mb fa o pm cd doc a vs ns G Y ho (fd_plain hd) Ov UD Se hints Ş hg low) λ r s' hq=>?_);obtain⟨rfl,h2,h3,h4⟩:=hq;exact⟨.inl ⟨.bool true,.bool true,[],rfl,λ _=>rfl,.bool true,uE l _,λ _=>⟨List.Pairwise.nil,λ _ hm=>(nomatch hm)⟩⟩,h2,h3,h4⟩
end Att
namespace L2
open PySem PySem.Spec PyProof.Rows
theorem uR {K:PySem.W.Frag}
  (KX:K.In ģ.heap) (Xu:ģ.heap.Ns mainGlobals mg) (hb:ģ.heap.Ns builtinsNs mb) (hbb:∀ x:Str,x ≠ "__name__" -> mb x=bootBuiltins x) (Wt:ģ.heap.NoLimit) (hg:ģ.gens = #[])
  (ha:ģ.heap.get? a=some { cls:=.type "list",data:=.seq vs.toArray }) (hi:IntsAre vs ns) (hl:ns.length<=sizeLine) (hr:Ă k callerA) (low:a≠sysModules)
  (F:∀ base:Heap,K.In base->base.Ns mainGlobals mg->ð P w K mg base CX k fa fd [x] sp) (UJ:∀(s:Shared)(u:Value),BindsTo s fd ⟨[u],[]⟩ [(x,u)])
  (Pp:∀ H:Hp,Bt H->Ğ K H a (ns.map V.int)->H sysModules=none->sp [.ref a] H (λ v _=>v=.bl true) λ _ _ _=>False)
  (WH:∀ H e s',CX [] H ģ (λ _ _ _=>False) e s'->False) :
  codeAny (model P w) callerA (.call (.ref fa) ⟨[.ref a],[]⟩) (λ r s'=>r=.ok (.ret (.bool true))/\OldK ģ.heap s'.heap/\s'.os = ģ.os/\AllBare s'.gens) ģ:=by
 have rv:=iW hi;have V2:=hi.length;have core:∀ H:Hp,Bt H->Ğ K H a (ns.map .int)->ω P w H ģ.heap->(∀ b,H b≠none->b=a)->(H a≠none->K.lookup a=none) ->
   codeAny (model P w) callerA (.call (.ref fa) ⟨[.ref a],[]⟩) (λ r s'=>r=.ok (.ret (.bool true))/\OldK ģ.heap s'.heap/\s'.os = ģ.os/\AllBare s'.gens) ģ:=by
  intro H hO hS Ě hA hK;have hz:H sysModules=none:=by
   cases q:H sysModules with
   | none=>rfl
   | some u=>exact absurd (hA _ (by rw[q];simp)).symm low
  have O9:∀{b:Addr}{o:Obj},ģ.heap.get? b\o->H b=none->(pD ģ.heap H).get? b\o:=λ e n=>wb e n;have Ub:∀{b:Addr}{o:Obj}{es:Array DictEntry}{ep:Nat},ģ.heap.get? b\o->o.data=.dict es ep->H b=none:=λ {b o es ep} e d=>by
   cases q:H b with
   | none=>rfl
   | some u =>
    have e':=hA b (by rw[q];simp)
    subst e';rw[ha] at e;cases e;have d':=d;cases d'
  have U':∀{b:Addr}{m:bD},ģ.heap.Ns b m->(pD ģ.heap H).Ns b m:=λ {b m} ⟨o,es,ep,e,d,r⟩=>⟨o,es,ep,O9 e (Ub e d),d,r⟩;have XD:=λ b o e=>O9 (KX b o e) (by
   cases q:H b with
   | none=>rfl
   | some u =>
    have e':=hA b (by rw[q];simp)
    subst e';rw[hK (by rw[q];simp)] at e;cases e)
  have hM:Mod K mg (pD ģ.heap H):=⟨XD,U' Xu,⟨mb,U' hb,hbb⟩,let ⟨mc,h1,h2⟩:=Wt;⟨mc,U' h1,h2⟩⟩
  have e0:OV P w K mg (pD ģ.heap H) callerA [] ģ H:=⟨rfl,hM,λ b o e=>yM e,Ō (uc _ _),trivial,λ b hb=>absurd (show b∈([]:List Addr) from hb) (by simp),Ě,.of_eq hg⟩
  refine Φ ((F _ XD (U' Xu)).run callerA [] ģ H ⟨[.ref a],[]⟩ [.ref a] [.ref a] _ _ hr e0 (UJ ģ (.ref a)) (.cons rfl .nil) (Pp H hO hS hz)) λ r s' h=>?_;cases r with
  | error e=>exact(WH H e s' h).elim
  | ok fl =>
   cases fl with
   | next=>exact False.elim h
   | brk=>exact False.elim h
   | cont=>exact False.elim h
   | ret u =>
    obtain⟨v,H',os,bare,un,Wo,r',q⟩:=h;have q':=q;subst q';obtain rfl:u=Value.bool true:=r';refine⟨rfl,OldK.of_keep λ b o e=>?_,os,bare⟩;cases q:H b with
    | none=>exact un.keep b o e q (by intro z;exact absurd (show b∈([]:List Addr) from z) (by simp)) (by simp)
    | some u =>
     rcases hO b with z | ⟨ob,xs,z⟩
     ·rw[q] at z;cases z
     ·have z2:=un.Nq b ob _ z;obtain⟨e1,_⟩:=Ě b _ z;obtain⟨e2,_⟩:=Wo b _ z2;rw[e] at e1;cases e1;exact e2
 cases hk:K.lookup a with
 | some o =>
  have e:=KX a o hk;rw[ha] at e;cases e;refine core (λ _=>none) (λ _=>.inl rfl) (.inr ⟨_,vs.toArray,_,hk,rfl,rfl,rfl,by rw[ę,V2];exact hl,by simpa using rv⟩) (λ b u z=>by have z':=z;cases z') (λ b z=>absurd rfl z) λ z=>absurd rfl z
 | none =>
  refine core (λ b=>if b=a then some (.Η { cls:=.type "list",data:=.seq vs.toArray } (.lst (ns.map .int))) else none) (λ b=>?_) (.inl (.inr ⟨{ cls:=.type "list",data:=.seq vs.toArray },Ë rfl⟩)) (λ b u z=>?_) (λ b z=>?_) λ _=>hk
  ·by_cases hb:b=a
   ·exact .inr ⟨_,_,Ë hb⟩
   ·exact .inl (Æ hb)
  ·by_cases hb:b=a
   ·have z':=(Ë hb).symm.trans z;cases z';subst hb;exact⟨ha,by rw[Ç];exact hl,vs,_,rv,ha⟩
   ·have z':=(Æ hb).symm.trans z;cases z'
  ·by_cases hb:b=a
   ·exact hb
   ·exact absurd (Æ hb) z
theorem P0 {l:PySem.W.OpenLaw}{K:Params->PySem.W.Frag}{CX:World->qp}{sp:World->Sp}
  (hn:l.most\n) (Vk:n<=sizeLine) (UI:d.params.defaults=[]) (hr:Ă k callerA)
  (hY:∀(w:World)(h:Heap),YP w h->(K w.params).In h)
  (F:∀(w:World)(mg:bD)(fa:Addr)(h:Heap),(K w.params).In h->h.Ns mainGlobals mg->mg d.name=some (.ref fa) ->
   ∃ fd:FuncData,(∀(s:Shared)(u:Value),BindsTo s fd ⟨[u],[]⟩ [(x,u)]) /\
    ∀ base:Heap,(K w.params).In base->base.Ns mainGlobals mg->ð l.prog w (K w.params) mg base (CX w) k fa fd [x] (sp w))
  (Pp:∀(w:World)(H:Hp)(a:Addr)(ns:List Int),ns.length<=n->Bt H->Ğ (K w.params) H a (ns.map V.int)->H sysModules=none->sp w [.ref a] H (λ v _=>v=.bl true) λ _ _ _=>False)
  (WH:∀(w:World)(H:Hp)(s:Shared)(e:Value)(s':Shared),CX w [] H s (λ _ _ _=>False) e s'->False) :
  PySem.W.WalkO q loose XP YP l.row.toRowW d [] (λ f vs=>PySem.call f vs):=by
 refine Att.N3 hn UI λ w Ų ģ mg mb fa o pm cd doc a vs ns G Y ho hd Ov UD Se hints Ş hg low=>?_;have KX:=hY w _ Y;obtain⟨fd,hb,hF⟩:=F w mg fa _ KX G.T.g UD;exact uR KX G.T.g G.T.b G.T.builtins G.T.nolimit hg Se hints (È Ş Vk) hr low hF hb (λ H hO hS hz=>Pp w H a ns Ş hO hS hz) λ H e s'=>WH w H ģ e s'
end L2
namespace My
open PySem L2
def bT (i:Nat):Stmt:=PySem.Challenge.pw_trialdeal_k75_whole_great_trials_counted.main.body.getD i (.Pass ⟨0,0,0,0⟩)
end My
namespace My
open PySem
section
variable {prog:Program}{w:World}{A:Around}{h:Heap}{g:Array GenState}{d:Drawn}{tk:Nat}{os:OsState}{C N e t0:Addr}
variable {nm q:Str}{bs bm Sy:List Value}{QW ab:Bool}{sn:List Str}{sub:List Value}{col:Option Bool}{dd:Option Addr}
variable {k0 k1 k2 k3 k5:Option Value}{B newId MR:String}
abbrev iQ (C t:Addr):Obj:={ cls:=.ref C,data:=.fields #[.ref t,.none,.none,.none,.bool false,.none] }
theorem Br (F:ExcBaseFacts B newId MR Sy)(T:OwnTail h Sy bm)
  (hC:h.get? C\excClassObj nm q C N bs bm QW sn sub ab col dd k0 k1 k2 k3 k5 newId) (he:h.get? e\iQ C t0)
  (hR:∀ h',h'.get? e\iQ C h.objs.size->(∀ b o,b≠e->h.get? b\o->h'.get? b\o)->R (.ok (.ret .none)) ⟨h',g,d,tk,os⟩) :
  codeAny (model prog w) A (.call (.builtin MR) ⟨[.ref e,v],[]⟩) R ⟨h,g,d,tk,os⟩:=by
 refine N9 F.init.plain F.initEntry (wpAny_check_init_subT F T hC he rfl ?_)
 wp_walk
 refine hR _ ?_ λ b o hb eb=>?_
 ·exact ć _ (Ä _ he) rfl
 ·exact(ê _ _ _ _ hb).trans (Ä _ eb)
end
end My
namespace My
open PySem PySem.W Builtin Builtin.ObjectAttr
section
variable {prog:Program}{w:World}{A:Around}{s:Shared}{K:Frag}{C x:Addr}
theorem zS (X:K.In s.heap)(I:InstAt s.heap x ox C od)
  (hc:clsIn K C\cd) (hp:refuseLoop (.ref x) "__setattr__" cd.mro=pure ()) (NW:mroIn K C (.type "object")\true) (ht:takerIn K C name\none)
  (h:∀ b,wpAny (model prog w) A.in1 (storeInOwnDict (.ref x) (.ref C) (.str name tk) name v b)
   (λ fin s'=>match fin with | .done f=>R (.ok f) s' | .again c'=>c'.quiet=true/\codeAny (model prog w) A c' R s') (λ e s'=>R (.error e) s') s) :
  codeAny (model prog w) A (.call (.builtin "object.__setattr__") ⟨[.ref x,.str name tk,v],[]⟩) R s:=by
 have SF:=PySem.F.store_object;have sub:Looks (model prog w) s.heap (isInstance (.ref x) (.type "object")) true:=I.type.andThen (looks_mroIn X NW);refine N9 SF.slot.plain SF.entry (@check_slot (model prog w) _ _ s "object.__setattr__" "object" "__setattr__" (.ref x) [.str name tk,v] [] _ SF.kind SF.split sub (SF.args _ _ _) ?_);obtain⟨attr,ha,hr⟩:=Option.bind_eq_some_iff.mp ht;have hm:Looks (model prog w) s.heap (mroOf (.ref C)) cd.mro:=(looks_clsIn X hc).andThen .now;have L3:Looks (model prog w) s.heap (storeTaker? attr) none:=by
  cases attr with
  | none=>exact .now
  | some a =>
   obtain⟨b,hb,e⟩:=Û.mp hr;refine(looks_takesIn X hb).andThen ?_;cases b
   ·exact .now
   ·cases e
 rw[osa_eq,refuse_eq];refine À (À (I.type.here (À (hm.here ?_))));rw[hp];refine Á (À (I.type.here (À ((QG X ha).here (À (L3.here ?_))))));exact h _
end
section
variable {prog:Program}{w:World}{A:Around}{E:eZ}{s:Shared}{K:Frag}{C x:Addr}
theorem Bv (X:K.In s.heap)(hx:s.heap.get? x\⟨.ref C,none,.fields fs,sl⟩)
  (hs:findIn K (.ref C) "__setattr__"\some (.builtin "object.__setattr__")) (hc:clsIn K C\cd) (hd:cd.hasDict=true)
  (hp:refuseLoop (.ref x) "__setattr__" cd.mro=pure ()) (NW:mroIn K C (.type "object")\true) (ht:takerIn K C name\none)
  (h:∀ h' tk,h'.get? x\⟨.ref C,some s.heap.objs.size,.fields fs,sl⟩->h'.Ns1 s.heap.objs.size (λ y=>if y=name then some v else none) ->
   (∀ b o,b≠x->s.heap.get? b\o->h'.get? b\o)->Q () { s with heap:=h',toks:=tk }):wpAny (model prog w) A (setAttr (.ref x) name v) Q E s:=by
 have J:InstAt s.heap x ⟨.ref C,none,.fields fs,sl⟩ C none:=⟨hx,rfl,rfl,True.intro⟩;refine set_plain X J hs (zS (s:={ s with toks:=s.toks+1 }) X J hc hp NW ht λ b=>?_)
 refine À (Á (À (À (wpAny_loadPart hx (À (Ξ (s:={ s with toks:=s.toks+1 }) (looks_clsIn X hc) ?_))))))
 rw[hd];have Qg:(s.heap.push { cls:=.type "dict",data:=.dict #[] }).get? x\⟨.ref C,none,.fields fs,sl⟩:=Ä _ hx;have Xp:=æ (Ð hx);refine À (wpAny_alloc' ?_);refine À (wpAny_update' Qg ?_);refine Á ?_;generalize eU:((s.heap.push { cls:=.type "dict",data:=.dict #[] }).update x λ o=>{ cls:=o.cls,dict:=some s.heap.objs.size,data:=o.data,slots:=o.slots }:Heap)=hU;have gd:hU.get? s.heap.objs.size=some { cls:=.type "dict",data:=.dict #[] }:=by
  rw[<- eU];exact(ê _ _ _ _ Xp.symm).trans (Ω rfl rfl)
 have gx:hU.get? x\⟨.ref C,some s.heap.objs.size,.fields fs,sl⟩:=by
  rw[<- eU];exact ć _ Qg rfl
 have nd:hU.Ns s.heap.objs.size (λ _=>none):=⟨_,#[],_,gd,rfl,λ e he=>absurd he (by simp),λ _=>rfl⟩
 refine À (Á (À (wpAny_nsSet1 (Heap.Ns1.of_empty nd) λ h' SS Xq=>?_)));obtain⟨oD,esD,epD,UC,WB,Ql⟩:=SS.count (Within.cons name v Within.nil);refine À (wpAny_lookBehind UC (by
  rw[WB];exact pastItsLine_dict (È Ql (by rw[à,ļ,è];lia))) ?_)
 refine Á ?_;refine h h' _ ((Xq.2 x Xp).trans gx) SS λ b o hb e=>?_;refine(Xq.2 b (æ (Ð e))).trans ?_;rw[<- eU];exact(ê _ _ _ _ hb).trans (Ä _ e)
end
section
variable {prog:Program}{w:World}{A:Around}{E:eZ}{s:Shared}{K:Frag}{C x dx:Addr}
abbrev Ap:String:="BaseException.__getattribute__"
end
end My
namespace My
open PySem PySem.W
section
variable {prog:Program}{w:World}{A:Around}{E:eZ}{h:Heap}{g:Array GenState}
variable {d:Drawn}{t:Nat}{os:OsState}{nm q:Str}{C N:Addr}{bs bm Sy:List Value}{QW ab:Bool}
variable {sn:List Str}{sub:List Value}{col:Option Bool}{dd:Option Addr}
variable {k0 k1 k2 k3 k5:Option Value}{B newId MR:String}{K:Frag}
abbrev oE (vs:List Value):Obj:={ cls:=.type "tuple",data:=.seq vs.toArray }
theorem EU (X:K.In h)(F:ExcBaseFacts B newId MR Sy)(T:OwnTail h Sy bm)
  (hC:h.get? C\excClassObj nm q C N bs bm QW sn sub ab col dd k0 k1 k2 k3 k5 newId)
  (hi:findIn K (.ref C) "__init__"\some (.ref fI)) (Wz:typeIn K (.ref fI)\.type "function")
  (hq:wpAny (model prog w) A (call (.ref fI) (.ref (h.objs.size+1)::rest))
   (λ r s'=>r=.none/\Q (.done (.ret (.ref (h.objs.size+1)))) s') E ⟨(h.push (oE rest)).push (iQ C h.objs.size),g,d,t,os⟩)
  (Qh:rest.length<=sizeLine) :
  wpAny (model prog w) A (Builtin.«type.__call__» ⟨.ref C::rest,[]⟩) Q E ⟨h,g,d,t,os⟩:=by
 repeat (first
  | with_reducible refine PQ hC ?_
  | with_reducible refine wpAny_madeBy_exc hC ?_
  | wp_step)
 refine codeAny_call_builtin_code (Code.quiet_builtin _ F.quiet) (wpAny_check_new_subT F T hC ?_);refine codeAny_exc_new_subT F T hC ?_ Qh;have up:∀ b o,h.get? b\o->((h.push (oE rest)).push (iQ C h.objs.size)).get? b=some o :=
  λ b o e=>Ä _ (Ä _ e)
 have hC1:=up _ _ hC;have X1:=X.keeps up;have hg1:((h.push (oE rest)).push (iQ C h.objs.size)).get? (h.objs.size+1)\iQ C h.objs.size:=by heap_get
 have hcC:(.ref C::bm).contains (.ref C)=true:=by simp
 repeat (first
  | with_reducible refine PQ hg1 ?_
  | (with_reducible refine wpAny_isSubtype_exc hC1 ?_;rw[hcC])
  | wp_step)
 refine Ξ (QG X1 hi) ?_;refine ĥ (À ?_);refine À (Ξ (looks_typeIn X1 Wz) ?_);rw[Ë av];refine Á (À (Ĳ hq (λ r s' hr=>?_) λ _ _ x=>x));obtain⟨rfl,hQ⟩:=hr
 wp_walk
 exact hQ
theorem F3 (X:K.In h)(F:ExcBaseFacts B newId MR Sy)(T:OwnTail h Sy bm)
  (hC:h.get? C\excClassObj nm q C N bs bm QW sn sub ab col dd k0 k1 k2 k3 k5 newId)
  (hi:findIn K (.ref C) "__init__"\some (.ref fI)) (Wz:typeIn K (.ref fI)\.type "function")
  (hq:wpAny (model prog w) (A.under (.builtin "type.__call__" ⟨.ref C::rest,[]⟩))
   (call (.ref fI) (.ref (h.objs.size+1)::rest)) (λ r s'=>r=.none/\Q (.ref (h.objs.size+1)) s') E ⟨(h.push (oE rest)).push (iQ C h.objs.size),g,d,t,os⟩)
  (Qh:rest.length<=sizeLine):wpAny (model prog w) A (call (.ref C) rest) Q E ⟨h,g,d,t,os⟩:=by
 have f1:=tc_lookup;have f2:=tc_bind (.ref C);have hT:Shared.TypeIs ⟨h,g,d,t,os⟩ (.ref C) "type" :=⟨_,hC,rfl⟩;refine z_ (codeAny_of_tree ?_)
 repeat (any_goals (first
  | assumption
  | with_reducible refine PQ hC ?_
  | wp_step))
 refine⟨rfl,?_⟩;refine codeAny_call_builtin_at (Code.quiet_builtin _ aF) entry_typeCall (wpAny_check_type_call_sub hC ?_);exact EU X F T hC hi Wz hq Qh
end
section
variable {prog:Program}{w:World}{A:Around}{E:eZ}{s:Shared}{K:Frag}{x C:Addr}{ox:Obj}{od:Option Obj}
theorem vV (hc:(clsIn K C).isSome=true)(ha:findIn K (.ref C) name\some a)(hg:specialIn K a "__get__"\some g) (ht:takesIn K a\true):findObj K C od name\.bind g a:=by
 obtain⟨cd,hc⟩:=ŀ.mp hc;unfold findObj;rw[hc,OD,ha,OD];simp[hg,ht]
theorem zX (X:K.In s.heap)(I:InstAt s.heap x ox C od)
  (NW:mroIn K C (.type "BaseException")\true) (hf:findObj K C od name\.bind g a)
  (h:wpAny (model prog w) A.in1 (call g [a,.ref x,.ref C]) (λ v s'=>R (.ok (.ret v)) s') (λ e s'=>R (.error e) s') s) :
  codeAny (model prog w) A (.call (.builtin Ap) ⟨[.ref x,.str name tk],[]⟩) R s:=by
 have sub:Looks (model prog w) s.heap (isInstance (.ref x) (.type "BaseException")) true:=I.type.andThen (looks_mroIn X NW);have L1:=looks_find (M:=model prog w) X I hf;refine N9 PU.ga.plain PySem.F.entry_bexc_ga (@check_slot (model prog w) _ _ s Ap "BaseException" "__getattribute__" (.ref x) [.str name tk] [] _ aF aF sub (PySem.F.args_bexc_ga _ _) ?_);refine À (Á (À (Á (À (I.type.here (À (L1.here ?_)))))));exact À (ĥ (Ĳ h (λ v s' z=>Á z) λ _ _ z=>z))
structure uQ (K:Frag)(C:Addr):Prop where
 cls:(clsIn K C).isSome=true
 ga:findIn K (.ref C) "__getattribute__"\some (.builtin Ap)
 hk:findIn K (.ref C) "__getattr__"\none
 mb:mroIn K C (.type "BaseException")\true
 mo:mroIn K C (.type "object")\true
 ca:findIn K (.ref C) "__class__"\some (.builtin "object.__class__")
theorem xH (T:uQ K C)(hn:specialIn K (.builtin "object.__class__") "__get__"\some (.builtin "getset_descriptor.__get__")) (Qv:takesIn K (.builtin "object.__class__")\true)
  (X:K.In s.heap) (I:InstAt s.heap x ox C od) (h:Q (some (.ref C)) { s with toks:=s.toks+1 }):wpAny (model prog w) A (getAttr? (.ref x) "__class__") Q E s:=by
 have hf:findObj K C od "__class__"\.bind (.builtin "getset_descriptor.__get__") (.builtin "object.__class__"):=vV T.cls T.ca hn Qv;have L0:=I.type (M:=model prog w);have L1:=QG (M:=model prog w) X T.ga;have L2:=QG (M:=model prog w) X T.hk;have f3:=PU.ga.bind (.ref x);unfold getAttr? getAttrBy? getAttrBy;refine À (wpAny_mkText (À (ň (ĥ (À (Ξ (s:={ s with toks:=s.toks+1 }) L0 (À (Ξ (s:={ s with toks:=s.toks+1 }) L1 ?_))))))))
 have Qg:(onTheHeap (Value.ref C)&&Value.builtin Ap==Value.builtin "object.__getattribute__")=false:=by
  rw[show(Value.builtin Ap == .builtin "object.__getattribute__")=false from by decide +kernel]
  rfl
 show wpAny _ _ (if(onTheHeap (Value.ref C)&&Value.builtin Ap==Value.builtin "object.__getattribute__")=true then _ else _) _ _ _
 rw[Æ (by rw[Qg];decide)]
 refine À ?_;refine Ξ L2 ?_;refine À (ň (ĥ ?_));unfold callGetattribute;rw[Æ av];unfold boundAndCalled;rw[f3];refine À (Á ?_);refine z_ (zX X I T.mb hf ?_);refine z_ (class_get X I T.mo ?_);show wpAny _ _ (handedOut (.ref C)) _ _ _;rw[handedOut_of rfl];exact Á (Á h)
theorem Cr (T:uQ K C)(hn:specialIn K (.builtin "object.__class__") "__get__"\some (.builtin "getset_descriptor.__get__")) (Qv:takesIn K (.builtin "object.__class__")\true) :
  KitX K (.ref x) (.ref C) (λ h=>∃ ox od,InstAt h x ox C od) where
 ty:=λ _ _ _ ⟨_,_,I⟩=>I.type
 it:=λ _ _ X _=>by
  obtain⟨cdD,Ql⟩:=ŀ.mp T.cls;unfold clsIn at Ql;split at Ql
  ·rename_i c' d' cd' Tb ho
   intro A' Q' E' s' k q;exact À (wpAny_loadPart (k _ _ (X _ _ ho)) (Á q))
  ·cases Ql
 ne:=λ h tp dd its n sl X htp=>by
  obtain⟨cdD,Ql⟩:=ŀ.mp T.cls;refine Bool.eq_false_iff.mpr λ q=>?_;have e:=Value.ref.inj (þ.mp q);subst e;unfold clsIn at Ql;split at Ql
  ·rename_i c' d' cd' Tb ho
   have z:=(X _ _ ho).symm.trans htp;cases z
  ·cases Ql
 ca:=λ X ⟨_,_,I⟩ k=>xH T hn Qv X I k
end
end My
namespace My
open PySem PySem.W L2
abbrev uM:List Value:=[.type "ValueError",.type "Exception",.type "BaseException",.type "object"]
abbrev oQ (C:Addr)(d:Option Addr)(t:Addr):Obj:={ cls:=.ref C,dict:=d,data:=.fields #[.ref t,.none,.none,.none,.bool false,.none] }
def eE (x C:Addr)(d:Option Addr):HO:=.ext λ h=>∃ t,h.get? x\oQ C d t
theorem nw (e:h.get? x\oQ C d t):Ē P w H h x (eE x C d) :=
 ⟨⟨t,e⟩,⟨_,e⟩,λ _ _ ⟨t',e'⟩ k=>⟨t',k _ e'⟩⟩
theorem iL (ok:ω P w H h)(e:H x\eE x C d):∃ t,h.get? x\oQ C d t:=(ok x _ e).1
theorem wZ (h:H a\o):ak H a o=H:=by
 funext b
 unfold ak;split
 ·rename_i e;rw[e,h]
 ·rfl
structure Α (K:Frag)(D:Addr):Prop where
 cls:∃ nm q N bs sn sub ab col dd k0 k1 k2 k3 k5,K.lookup D\excClassObj nm q D N bs uM true sn sub ab col dd k0 k1 k2 k3 k5 "ValueError.__new__" /\
    ∃ o es ep,K.lookup N\o/\o.data=.dict es ep/\StrKeys es/\nsFind es "__init__" = none
 ga:specialIn K (.ref D) "__getattribute__"\some (.builtin "type.__getattribute__")
 reads:readsIn K D (.type "type")=true
 Uv:findCls K (.ref D) (.type "type") "__init__"\.val (.builtin "ValueError.__init__")
 fi:findIn K (.ref D) "__init__"\some (.builtin "ValueError.__init__")
 kp:keepIn K (.ref D)=true
 it:uQ K D
theorem Α.tail (B:Α K D)(X:K.In h):OwnTail h uM (.ref D::uM):=by
 obtain⟨nm,q,N,bs,sn,sub,ab,col,dd,k0,k1,k2,k3,k5,l,o,es,ep,lN,hd,hs,hn⟩:=B.cls;exact .own (X _ _ l) ⟨o,es,ep,X _ _ lN,hd,hs,λ _=>rfl⟩ hn .base
structure a_ (K:Frag)(D:Addr)(nm:Str)(C f:Addr):Prop where
 cls:∃ q N bs sn sub ab col dd k0 k1 k2 k3 k5,K.lookup C\excClassObj nm q C N bs (.ref D::uM) true sn sub ab col dd k0 k1 k2 k3 k5 "ValueError.__new__"
 init:findIn K (.ref C) "__init__"\some (.ref f)
 fn:typeIn K (.ref f)\.type "function"
 kp:keepIn K (.ref C)=true
 sa:findIn K (.ref C) "__setattr__"\some (.builtin "object.__setattr__")
 it:uQ K C
theorem a_.clsIn (T:a_ K D nm C f):∃ cd,PySem.W.clsIn K C\cd/\cd.hasDict=true/\cd.mro=.ref C :: .ref D::uM:=by
 obtain⟨q,N,bs,sn,sub,ab,col,dd,k0,k1,k2,k3,k5,l⟩:=T.cls;unfold PySem.W.clsIn;rw[l];exact⟨_,rfl,rfl,rfl⟩
theorem a_.refuse (T:a_ K D nm C f)(x:Addr):∃ cd,PySem.W.clsIn K C\cd/\cd.hasDict=true/\refuseLoop (.ref x) "__setattr__" cd.mro=pure ():=by
 obtain⟨cd,h1,h2,h3⟩:=T.clsIn;refine⟨cd,h1,h2,?_⟩;rw[h3,refuseLoop_ref,refuseLoop_ref];exact PySem.F.store_ValueError.passes _
section
variable {X:Cx}{pins:List (Addr × Obj)}{σ:St}{H:Hp}{s:Shared}
def pG (C:Addr)(fld:Str):Sp:=λ vs H Q _=>∃ x v,vs=[.ref x,v]/\H x\eE x C none/\∀ dx,H dx=none->dx≠x->Q .Ę (ak (ak H dx (.xd [(fld,v)])) x (eE x C (some dx)))
def HI (C:Addr)(fld:Str)(te:TE):TE:=λ σ H Q=>te σ H λ v H1=>∀ x dx,H1 x=none->H1 dx=none->dx≠x->Q (.ref x) (ak (ak H1 dx (.xd [(fld,v)])) x (eE x C (some dx)))
theorem IM (n:dx≠x):ak (ak (ak H x a) dx b) x c=ak (ak H dx b) x c:=by
 funext z
 unfold ak;by_cases h1:z=x
 ·rw[Ë h1,Ë h1]
 ·rw[Æ h1,Æ h1];by_cases h2:z=dx
  ·rw[Ë h2,Æ h1]
  ·rw[Æ h2,Æ h1]
theorem u5 {nm fld:Str}(B:Α X.K D)(T:a_ X.K D nm C f)(F:ð X.prog X.w X.K X.mg X.base az k f fd ps (pG C fld))(hr:Ă (k+1) X.A)(hb:Binds X.K fd ps [])
  (I:Inv X pins σ H s) (r:RelV v u) (h:∀ x dx,H x=none->H dx=none->dx≠x->Q (.ref x) (ak (ak H dx (.xd [(fld,v)])) x (eE x C (some dx)))) :
  wpAny (model X.prog X.w) X.A (call (.ref C) [u]) (EP X pins σ Q) X.xe s:=by
 obtain⟨hp,g,dr,tk,os⟩:=s;obtain⟨q,N,bs,sn,sub,ab,col,dd,k0,k1,k2,k3,k5,l⟩:=T.cls;refine F3 I.Τ PR (B.tail I.Τ) (I.Τ _ _ l) T.init T.fn ?_ (by rw[à,ļ,è];lia)
 have f0:=I.fresh;have I1:Inv X pins σ H ⟨hp.push (oE [u]),g,dr,tk,os⟩:=I.kept λ b o e=>Ä _ e;have sz:(hp.push (oE [u])).objs.size=hp.objs.size+1:=ő _ _;have fx:H (hp.objs.size+1)=none:=by rw[<- sz];exact I1.fresh
 have I2:Inv X pins σ (ak H (hp.objs.size+1) (eE (hp.objs.size+1) C none)) ⟨(hp.push (oE [u])).push (iQ C hp.objs.size),g,dr,tk,os⟩ :=
  I1.laid (λ b o e=>Ä _ e) (Ō sz)
   (nw (Ω sz.symm rfl))
 generalize (⟨(hp.push (oE [u])).push (iQ C hp.objs.size),g,dr,tk,os⟩:Shared)=s2 at I2 ⊢;generalize hp.objs.size+1=x at fx I2 ⊢;have r2:Vals [V.ref x,v] [Value.ref x,u]:=.cons rfl (.cons r .nil);have Pp:pG C fld [V.ref x,v] (ak H x (eE x C none)) (λ y H2=>y=.Ę/\Q (.ref x) H2) E0 :=
  ⟨x,v,rfl,bz,λ dx hd nd=>⟨rfl,by
   rw[IM nd];rw[ai nd] at hd;exact h x dx fx hd nd⟩⟩
 have hl:([.ref x,u] ++ []:List Value).length=ps.length:=by
  rw[Ľ,<- r2.length];exact F.len _ _ _ _ Pp
 have Vl:=hb s2 [.ref x,u] I2.Τ hl;rw[Ľ] at Vl;refine z_ (Φ (F.run _ X.stack s2 _ ⟨[.ref x,u],[]⟩ [.ref x,u] _ _ E0 (hr.make C [u] []) (I2.Sv.make C [u] []) Vl r2 Pp) λ r s' Pq=>?_);cases r with
 | error e=>exact False.elim Pq
 | ok fl =>
  cases fl with
  | ret u' =>
   obtain⟨y,H',I3,ry,ey,q3⟩:=I2.after Pq;subst ey;exact⟨ry,.ref x,H',I3,rfl,q3⟩
  | next=>exact False.elim Pq
  | brk=>exact False.elim Pq
  | cont=>exact False.elim Pq
end
def Em (h:Heap)(e:Addr)(vs:Array Value):Prop:=vs[1]?\.none\/∃ T oT ts,vs[1]?\.ref T/\T≠e/\h.get? T\oT/\oT.data=.fields ts/\ts[3]?\.none
structure MY (fr:List Addr)(e T:Addr)(oe:Obj)(h h':Heap)(r:Value):Prop where
 keep:∀ b o,b≠e->b ∉ fr->h.get? b\o->h'.get? b\o
 slot:∀ b o,b≠e->h.get? b\o->∃ sl,h'.get? b=some { o with slots:=sl }
 new:h.objs.size<=T
 exc:h'.get? e\oe.mapFields (λ x=>x.setIfInBounds 1 (.ref T))
 VA:∃ oT ts,h'.get? T\oT/\oT.data=.fields ts/\ts[3]?\r/\T≠e
theorem xi {vs:Array Value}(h:vs[i]?\v):vs.setIfInBounds i v=vs:=by
 obtain⟨hi,e⟩:=ù.mp h;apply Array.ext
 ·simp
 ·intro j h1 h2;simp only[Array.size_setIfInBounds] at h1;rw[Array.getElem_setIfInBounds h1];split
  ·rename_i z;subst z;exact e.symm
  ·rfl
theorem Aa {o:Obj}(hd:o.data=.fields vs)(f:Array Value->Array Value):o.mapFields f={ o with data:=.fields (f vs) }:=by
 obtain⟨c,d,dt,sl⟩:=o;have e:=hd;subst e;rfl
theorem mX (hl:vs.length<=sizeLine+2)
  (q:Q (.ref s.heap.objs.size) { s with heap:=s.heap.push { cls:=.type c,data:=.fields vs.toArray } }):wpAny M A (newFields c vs) Q E s:=by
 refine Ţ (Ò (by rw[ę];lia)) ?_
 exact À (wpAny_alloc (Á q))
theorem uD (h:IsPlace pl):pl.length<=6:=by
 rcases h with rfl | ⟨a,b,c,d,c9,b10,_,rfl⟩
 ·decide
 ·exact Å _
section
variable {M:Model}{A:Around}{E:eZ}{s:Shared}{base:Heap}{env:Env}{outer:List Env}{L e:Addr}{oe:Obj}{vs:Array Value}{Q:Unit->Shared->Prop}
theorem sH (hA:A.frames\(env::outer))(hF:s.heap.FunFrames base (env::outer))(hL:env.frame\L)(he:s.heap.get? e\oe)(hd:oe.data=.fields vs)(h1:1<vs.size)
  (q:∀ h' T,MY (n6 (env::outer)) e T oe s.heap h' (rawInt ↑L)->Q () { s with heap:=h' }) :
  wpAny M A (do
   let a <- frameOf env
   let pl <- entryPlaceOf L hn
   let b <- EntryCells.newEntry head a .none (rawInt ↑L) .none pl
   setField (.ref e) 1 b) Q E s:=by
 have Va:e ∉ n6 (env::outer):=λ z=>by
  obtain⟨_,o,ho,hn⟩:=hF.mem z;rw[he] at ho;cases ho;exact hn vs hd
 refine À (wpAny_frameOf_fun hA hF hL λ h1' so=>?_);refine À (wpAny_entryPlaceOf λ pl M6=>?_);refine À ?_;refine mX ?_ ?_
 ·have:=uD M6;have b:100<=sizeLine:=av;rw[Õ];split
  ·rw[Ĺ];show 5+6<=_;lia
  ·show 5+pl.length<=_;lia
 have e1:h1'.get? e\oe:=by rw[so.2.1 e Va];exact he
 have lt:=Ð e1;generalize UB:({ cls:=.type "traceback",data:=.fields ([head,.ref L,.none,rawInt ↑L,.none]++if pl.isEmpty=true then List.replicate 6 .none else pl).toArray }:Obj)=ob
 have e2:(h1'.push ob).get? e\oe:=Ä _ e1;refine Ŷ e2 hd h1 ?_;refine q _ h1'.objs.size ⟨λ b o nb nf hb=>?_,λ b o nb hb=>?_,Ō so.1.symm,?_,?_⟩
 ·rw[ê _ _ _ _ nb];exact Ä _ (by rw[so.2.1 b nf];exact hb)
 ·obtain⟨sl,z⟩:=so.2.2 b o hb;exact⟨sl,by rw[ê _ _ _ _ nb];exact Ä _ z⟩
 ·exact ć _ e2 (by rw[Aa hd];rfl)
 ·have nT:=Ne.symm (æ lt);refine⟨ob,_,?_,by rw[<- UB],?_,nT⟩
  ·rw[ê _ _ _ _ nT];exact Ω rfl (by rw[<- UB];rfl)
  ·rfl
theorem qX (hA:A.frames\(env::outer))(hF:s.heap.FunFrames base (env::outer))(hL:env.frame\L)(he:s.heap.get? e\oe)(hd:oe.data=.fields vs)(hv:Em s.heap e vs)
  (q:∀ h' T,MY (n6 (env::outer)) e T oe s.heap h' (rawInt ↑L)->Q () { s with heap:=h' }):wpAny M A (noteFrame (.ref e) env) Q E s:=by
 unfold noteFrame;rw[hL];rcases hv with hv | ⟨T,oT,ts,hv,nT,hT,QX,h3⟩
 ·have h1:=(ù.mp hv).1;refine À (ŷ he hd hv ?_);refine Ţ rfl ?_;exact sH hA hF hL he hd h1 q
 ·have h1:=(ù.mp hv).1;have Vp:=(ù.mp h3).1;refine À (ŷ he hd hv ?_);refine wpAny_ite_true rfl ?_;refine À (ŷ hT QX h3 ?_);refine Ţ rfl ?_;refine À (Ŷ hT QX Vp ?_);have g:∀ b,(s.heap.update T (Obj.mapFields λ x=>x.setIfInBounds 3 Value.none)).get? b=s.heap.get? b:=λ b=>by
   by_cases z:b=T
   ·subst z;rw[ć _ hT (by rw[Aa QX];rfl),hT,Aa QX,xi h3,<- QX]
   ·exact ê _ _ _ _ z
  have sz:(s.heap.update T (Obj.mapFields λ x=>x.setIfInBounds 3 Value.none)).objs.size=s.heap.objs.size:=Ž _ _ _;generalize s.heap.update T (Obj.mapFields λ x=>x.setIfInBounds 3 .none)=h0 at g sz;have hF0:=Heap.FunFrames.of_keeps (λ b o hb _=>⟨o,by rw[g];exact hb,rfl⟩) hF
  refine sH hA hF0 hL (by show h0.get? e=_;rw[g];exact he) hd h1 λ h' T' x=>?_
  exact q h' T' ⟨λ b o nb nf hb=>x.keep b o nb nf (by show h0.get? b=_;rw[g];exact hb),λ b o nb hb=>x.slot b o nb (by show h0.get? b=_;rw[g];exact hb),by rw[<- sz];exact x.new,x.exc,x.VA⟩
theorem MY.Ss (x:MY fr e T oe h h' r)(hd:oe.data=.fields vs)(h1:1<vs.size)(s':Shared)(es:s'.heap=h')
  (q:∀ h2,MY fr e T oe h h2 .none->Q () { s' with heap:=h2 }):wpAny M A (setFlight (.ref e) none) Q E s':=by
 subst es;obtain⟨oT,ts,hT,QX,h3,nT⟩:=x.VA;have Vp:=(ù.mp h3).1;have e1:(oe.mapFields (λ x=>x.setIfInBounds 1 (.ref T))).data=.fields (vs.setIfInBounds 1 (.ref T)):=ŝ hd _;have e2:(vs.setIfInBounds 1 (.ref T))[1]?\.ref T:=by simp[h1]
 refine wpAny_setFlight_none x.exc e1 e2 hT QX Vp (q _ ⟨λ b o nb nf hb=>?_,λ b o nb hb=>?_,x.new,?_,?_⟩)
 ·have z:=x.keep b o nb nf hb;rw[ê _ _ _ _ (λ w=>?_)]
  ·exact z
  ·rw[w] at hb;exact absurd (å (Ð hb) x.new) (Ĩ _)
 ·obtain⟨sl,z⟩:=x.slot b o nb hb;refine⟨sl,?_⟩;rw[ê _ _ _ _ (λ w=>?_)]
  ·exact z
  ·rw[w] at hb;exact absurd (å (Ð hb) x.new) (Ĩ _)
 ·rw[ê _ _ _ _ nT.symm];exact x.exc
 ·refine⟨_,_,ć _ hT (by rw[Aa QX];rfl),ŝ QX _,?_,nT⟩
  simp[Vp]
theorem oH (hA:A.frames\(env::outer))(hF:s.heap.FunFrames base (env::outer))(hL:env.frame\L)(he:s.heap.get? e\oe)(hd:oe.data=.fields vs)(hv:Em s.heap e vs)
  (q:∀ h' T,MY (n6 (env::outer)) e T oe s.heap h' .none->Q () { s with heap:=h' }):wpAny M A (leaving env (.ref e)) Q E s:=by
 have h1:1<vs.size:=by
  rcases hv with hv | ⟨T,oT,ts,hv,_⟩
  ·exact(ù.mp hv).1
  ·exact(ù.mp hv).1
 exact À (qX hA hF hL he hd hv λ h' T x=>x.Ss hd h1 _ rfl λ h2 x2=>q h2 T x2)
end
def one (P:V->Hp->Prop)(vs:List V)(H:Hp):Prop:=match vs with
 | [v]=>P v H
 | _=>False
theorem Bm (h:one P vs H):∃ v,vs=[v]/\P v H:=by
 cases vs with
 | nil=>exact h.elim
 | cons v r =>
  cases r with
  | nil=>exact⟨v,rfl,h⟩
  | cons _ _=>exact h.elim
def two (P:V->V->Hp->Prop)(vs:List V)(H:Hp):Prop:=match vs with
 | [v,u]=>P v u H
 | _=>False
theorem El (h:two P vs H):∃ v u,vs=[v,u]/\P v u H:=by
 match vs,h with
 | [v,u],h=>exact⟨v,u,rfl,h⟩
section
variable {X:Cx}{pins:List (Addr × Obj)}{σ:St}{H:Hp}{s:Shared}
theorem DS {nm fld x:Str}(B:Α X.K D)(T:a_ X.K D nm C f)(F:ð X.prog X.w X.K X.mg X.base az k f fd ps (pG C fld))(hr:Ă (k+1) X.A)(hb:Binds X.K fd ps [])
  (hg:Gl X x) (hm:X.mg x\.ref C) (ha:PE X e te) (No:(x==("__debug__" : Str))=false:=by decide) (he:starEach [e] X.env=(false,eval e X.env)::starEach [] X.env:=by rfl) (M6:(backTo pos (starEach [] X.env)).any (·.1)=false:=by rfl) :
  PE X (.Call (.Name x p) [e] [] pos) (HI C fld te):=by
 intro pins s σ H Q I h;refine Ŝ (fo I hg hm ?_ No);have pa:=ae ha aq he;have h':aw te aS σ H (one λ v H1=>∀ x dx,H1 x=none->H1 dx=none->dx≠x->Q (.ref x) (ak (ak H1 dx (.xd [(fld,v)])) x (eE x C (some dx)))):=h;refine ż I.ok.mod.R9 T.kp (bj (pa pos pins s σ H _ I h') λ us s1 ⟨vs,H1,I1,r,q⟩=>⟨I1.Τ,?_⟩) he M6;obtain⟨v,rfl,q⟩:=Bm q;obtain⟨u,rfl,ru⟩:=fJ r;exact u5 B T F hr hb I1 ru q
def K8 (ts tt:TE)(C:Addr):TE:=λ σ H Q=>ts σ H λ x H1=>tt σ H1 λ v H2=>∃ a,x=.ref a/\H2 a\eE a C none/\Q .Ę H2
theorem dY (B:Α X.K D)(T:a_ X.K D nm C f)(hg:Gl X x)(hm:X.mg x\.ref D)(hs:PE X o ts)(ht:PE X e tt)(No:(x==("__debug__" : Str))=false:=by decide)
  (M5:starEach [o,e] X.env=(false,eval o X.env)::starEach [e] X.env:=by rfl) (We:starEach [e] X.env=(false,eval e X.env)::starEach [] X.env:=by rfl) (M6:(backTo pos (starEach [e] X.env)).any (·.1)=false:=by rfl)
  (Wd:eval (.Call (.Attribute (.Name x p) "__init__" Ū) [o,e] [] pos) X.env=(do
   let ov <- eval (.Name x p) X.env
   standAt Ū.atName
   let (f,first) <- holding [ov] (getMethod ov "__init__" pl)
   callWith pos f first (backTo pos (starEach [o,e] X.env)) (backToKw pos (keywordEach [] X.env))):=by rfl) :
  PE X (.Call (.Attribute (.Name x p) "__init__" Ū) [o,e] [] pos) (K8 ts tt C):=by
 intro pins s σ H Q I h;refine Λ (fo I hg hm ?_ No) Wd;refine method_cls I.Τ B.ga (cls_value I.Τ B.reads B.Uv rfl ?_);have I0:Inv X pins σ H { s with toks:=s.toks+1 }:=I.tok _
 have pa:=ae hs (ae ht aq We) M5;have h':aw ts (aw tt aS) σ H (two λ x v H2=>∃ a,x=.ref a/\H2 a\eE a C none/\Q .Ę H2):=h;refine OC (bj (pa pos pins _ σ H _ I0 h') λ us s1 ⟨vs,H1,I1,r,q⟩=>?_) M5 M6;obtain⟨_,v,rfl,a,rfl,ha,q⟩:=El q;obtain⟨u,u',rfl,ru,U8⟩:=tq r;cases (show u=.ref a from ru);obtain⟨t0,hx⟩:=iL I1.Ě ha;obtain⟨q',N,bs,sn,sub,ab,col,dd,k0,k1,k2,k3,k5,l⟩:=T.cls;obtain⟨hp,g,dr,tk,os⟩:=s1;refine z_ (Br PR (B.tail I1.Τ) (I1.Τ _ _ l) hx λ h' Po hk=>?_);have I2:Inv X pins σ (ak H1 a (eE a C none)) ⟨h',g,dr,tk,os⟩:=I1.write (by rw[ha];exact True.intro) (.inl rfl) (λ b o hb e=>hk b o hb e) ⟨_,Po⟩ (nw Po)
 rw[wZ ha] at I2;exact⟨.Ę,H1,I2,rfl,q⟩
def Gh (K:Frag)(C:Addr)(ta tv:TE)(f:Str):TS:=λ D σ H=>tv σ H λ y H1=>ta σ H1 λ x H2=>∃ a,x=.ref a/\H2 a\eE a C none/\takerIn K C f\none/\∀ dx,H2 dx=none->dx≠a->D.nx σ (ak (ak H2 dx (.xd [(f,y)])) a (eE a C (some dx)))
theorem nj (T:a_ X.K D nm C fI)(ha:PE X o ta)(hv:PE X value tv)(hs:swapsWith value (some (.Attribute o f pos')) pos.line X.env=pure false) :
  PS X (.Assign [.Attribute o f pos'] value pos) (Gh X.K C ta tv f):=by
 intro pins s σ H D' I h;refine Qr (bj (hv pins s σ H _ I h) λ u s1 ⟨y,H1,I1,ry,q⟩=>bj (ha pins s1 σ H1 _ I1 q) λ ov s2 ⟨x,H2,I2,rx,a,ex,ea,tk,q2⟩=>?_) hs;subst ex;obtain rfl:ov=.ref a:=rx;obtain⟨t0,hx⟩:=iL I2.Ě ea;obtain⟨cd,hc,hd,hp⟩:=T.refuse a;refine Bv I2.Τ hx T.sa hc hd hp T.it.mo tk λ h' ZQ Po SS hk=>?_;have fr:=I2.fresh;have nz:s2.heap.objs.size≠a:=λ z=>by rw[<- z,fr] at ea;cases ea
 obtain⟨oD,es,ep,UC,rD⟩:=id SS;have nf:=Obj.isFreed_of_dict rD.1;have I3:Inv X pins σ (ak H2 s2.heap.objs.size (.xd [(f,y)])) { s2 with heap:=s2.heap.push oD,toks:=s2.toks }:=by
  refine I2.laid (λ b o e=>Ä _ e) (Å _) ⟨_,⟨oD,es,ep,Ω rfl nf,rD⟩,λ g=>?_⟩;by_cases e:g=f
  ·subst e;rw[Ë rfl,List.lookup_cons_self];exact ry
  ·rw[Æ e,Į,ü.mpr e];exact True.intro
 have ea3:ak H2 s2.heap.objs.size (.xd [(f,y)]) a\eE a C none:=by rw[ai nz.symm];exact ea
 have I4:Inv X pins σ (ak (ak H2 s2.heap.objs.size (.xd [(f,y)])) a (eE a C (some s2.heap.objs.size))) { s2 with heap:=h',toks:=ZQ }:=by
  refine I3.write (by rw[ea3];exact True.intro) (.inl rfl) (λ b o hb e=>?_) ⟨_,Po⟩ (nw Po)
  by_cases z:b=s2.heap.objs.size
  ·subst z;have e':=e;rw[Ω rfl nf] at e';cases e';exact UC
  ·have e':=e;exact hk b o hb (by rw[<- PY _ _ oD z];exact e')
 exact⟨σ,_,I4,q2 _ fr nz⟩
end
section
variable {X:Cx}{pins:List (Addr × Obj)}{σ:St}{H:Hp}{s:Shared}
theorem oW (ok:ω P w H h)(ea:H a\eE a C (some dx))(ed:H dx\.xd fs) :
  ∃(ox od:Obj),InstAt h a ox C (some od)/\∃ mA:Str->Option Value,(∀ f,ψ (fs.lookup f) (mA f))/\∀ name,lookIn name od\mA name:=by
 obtain⟨t,hx⟩:=iL ok ea;obtain⟨mA,hn,hr⟩:=(show Ē P w H h dx (.xd fs) from ok dx _ ed);obtain⟨od,hod,hl⟩:=mH hn;exact⟨_,od,⟨hx,rfl,rfl,hod⟩,mA,hr,hl⟩
structure Bc (K:Frag):Prop where
 gt:specialIn K (.builtin "object.__class__") "__get__"\some (.builtin "getset_descriptor.__get__")
 tk:takesIn K (.builtin "object.__class__")\true
def NA (H:Hp)(a C:Addr):Prop:=H a\eE a C none\/∃ dx fs,H a\eE a C (some dx)/\H dx\.xd fs
theorem NA.inst (E:NA H a C)(ok:ω P w H h):∃ ox od,InstAt h a ox C od:=by
 rcases E with e | ⟨dx,fs,ea,ed⟩
 ·obtain⟨t,hx⟩:=iL ok e;exact⟨_,none,⟨hx,rfl,rfl,True.intro⟩⟩
 ·obtain⟨ox,od,J,_⟩:=oW ok ea ed;exact⟨ox,some od,J⟩
end
end My
namespace My
open PySem PySem.W L2
open PyProof.Rows (AllBare)
abbrev rH (C:Addr)(d:Option Addr)(t:Addr)(v:Value):Obj:={ cls:=.ref C,dict:=d,data:=.fields #[.ref t,v,.none,.none,.bool false,.none] }
def qK (x C:Addr)(d:Option Addr):HO:=.ext λ h=>∃ t v,h.get? x\rH C d t v
theorem zw (e:h.get? x\rH C d t v):Ē P w H h x (qK x C d) :=
 ⟨⟨t,v,e⟩,⟨_,e⟩,λ _ _ ⟨t',v',e'⟩ k=>⟨t',v',k _ e'⟩⟩
def L7 (n:Nat)(H:Hp)(h:Heap)(x C:Addr)(d:Option Addr):Prop:=∃ t T oT ts,h.get? x\rH C d t (.ref T)/\T≠x/\n<=T/\H T=none/\h.get? T\oT/\oT.data=.fields ts/\ts[3]?\Value.none
def eX (P:Program)(w:World):qp:=λ outer H s E e s'=>∃ x C dx fs H',e=.ref x/\s'.os=s.os/\AllBare s'.gens/\Un (n6 outer) [] H H' s.heap s'.heap/\ω P w H' s'.heap/\H' x\qK x C (some dx)/\H' dx\.xd fs/\L7 s.heap.objs.size H' s'.heap x C (some dx)/\E (.ref C) (some x) H'
section
variable {X:Cx}{pins:List (Addr × Obj)}{σ:St}{H:Hp}{s:Shared}
theorem Inv.left (I:Inv X pins σ H s)(hS:X.stack=X.env::X.outer)(hx:H x\o)(ho:(∃ φ,o=.ext φ))(he:s.heap.get? x\rH C d t v)
  (l:MY (n6 (X.env::X.outer)) x T (rH C d t v) s.heap h' r):Inv X pins σ (ak H x (qK x C d)) { s with heap:=h' }:=by
 obtain⟨φ,rfl⟩:=ho;have nx:∀ b u,H b\u->(∀ φ,u ≠ .ext φ)->b≠x:=λ b u e n z=>by
  subst z;rw[hx] at e;exact n φ (á e).symm
 have fr0:∀ b∈n6 (X.env::X.outer),H b=none:=λ b hb=>I.NM b (by rw[hS];exact hb)
 have Va:∀ b u,H b\u->b ∉ n6 (X.env::X.outer):=λ b u e z=>by rw[fr0 b z] at e;cases e
 have exc:h'.get? x\rH C d t (.ref T):=l.exc;have sub:=λ b hb=>Ö.mp (I.MO b (by rw[hS];exact hb))
 refine I.step (ch:=[]) (λ _ z=>nomatch z) (λ b o hL hf _ e n=>?_) (λ b o hL hf _ e n=>?_) (λ b o _ e n=>?_) (λ b o _ e=>?_) (λ b xs e=>?_) (λ b o u e=>?_) (λ b ps e=>⟨#[],?_⟩) (λ e=>?_) (λ m hm=>?_) (λ b u e=>?_) I.bare
 ·refine l.keep b o (λ z=>by rw[z,hx] at n;cases n) (λ z=>?_) e
  rcases sub b z with q | q
  ·exact hL q
  ·exact hf q
 ·exact l.slot b o (λ z=>by rw[z,hx] at n;cases n) e
 ·rw[ai (λ z=>by rw[z,hx] at n;cases n)];exact n
 ·by_cases z:b=x
  ·subst z;exact⟨_,exc⟩
  ·obtain⟨sl,q⟩:=l.slot b o z e;exact⟨_,q⟩
 ·rw[ai (nx b _ e λ _=>by intro z;cases z)];exact e
 ·rw[ai (nx b _ e λ _=>by intro z;cases z)];exact e
 ·rw[ai (nx b _ e λ _=>by intro z;cases z),e];simp
 ·rw[ai (λ z=>by rw[z,hx] at e;cases e)];exact e
 ·obtain⟨o,es,ep,ho,r⟩:=hm;obtain⟨sl,q⟩:=l.slot _ o (λ z=>by have:=I.free;rw[z,hx] at this;cases this) ho
  exact⟨_,es,ep,q,r⟩
 ·by_cases z:b=x
  ·subst z;rw[bz] at e;cases e;exact zw exc
  ·rw[ai z] at e;refine(I.Ě b u e).NN (λ c o' hc q=>?_) (λ c q=>?_) λ c xs q=>?_
   ·rcases hc with rfl | hc
    ·exact l.keep c o' z (Va c u e) q
    ·exact l.keep c o' (nx c _ hc λ _=>by intro w;cases w) (Va c _ hc) q
   ·rw[ai (nx c _ q λ _=>by intro w;cases w)];exact q
   ·rw[ai (nx c _ q λ _=>by intro w;cases w)];exact q
end
section
variable {P:Program}{w:World}{K:Frag}{mg:bD}{base:Heap}{N:List Str}{qual:Str}{scope:Scope}{f:Addr}{cd:Value}{A:Around}{outer:List Env}{s0:Shared}{H0:Hp}{E:XK}{pins:List (Addr × Obj)}{σ:St}{H:Hp}{s:Shared}
theorem AJ (I:Inv (b9 (eX P w) P w K mg base N qual scope f cd A outer s0 H0 E) pins σ H s)(hx:H x\o)(ho:(∃ φ,o=.ext φ))(UH:H dx\.xd fs)(he:s.heap.get? x\rH C (some dx) t v)
  (hv:Em s.heap x #[.ref t,v,.none,.none,.bool false,.none]) (q:E (.ref C) (some x) (ak H x (qK x C (some dx)))):(b9 (eX P w) P w K mg base N qual scope f cd A outer s0 H0 E).xe (.ref x) s:=by
 have hA:=I.ok.frames;refine oH hA I.stack rfl he rfl hv λ h' T l=>?_;have J:=Inv.left I rfl hx ho he l;have nT:=I.Ě.fresh l.new;obtain⟨oT,ts,h1,h2,h3,h4⟩:=l.VA;have nd:dx≠x:=λ z=>by
  obtain⟨φ,rfl⟩:=ho;rw[z,hx] at UH;cases UH
 refine⟨x,C,dx,fs,_,rfl,J.os,J.bare,J.base,J.Ě,bz,by rw[ai nd];exact UH,⟨t,T,oT,ts,l.exc,h4,È I.sz l.new,?_,h1,h2,h3⟩,q⟩
 rw[ai h4];exact nT
theorem eN:dj (eX P w) (b9 (eX P w) P w K mg base N qual scope f cd A outer s0 H0 E) E:=by
 intro pins σ H s e s' I h;obtain⟨x,C,dx,fs,H',rfl,os,bare,un,Ě,hx,UH,⟨t,T,oT,ts,h1,h2,_,h4,h5,h6,h7⟩,q⟩:=h;have J:=I.Rx os un Ě bare (λ b z=>absurd z (by simp))
 refine AJ J hx ⟨_,rfl⟩ UH h1 (.inr ⟨T,oT,ts,rfl,h2,h5,h6,h7⟩) ?_;rw[wZ hx];exact q
end
end My
namespace My
open PySem PySem.W L2
open PyProof.Rows (AllBare)
section
variable {prog:Program}{w:World}{A:Around}{E:eZ}{s:Shared}{env:Env}{x:Sem Value}{Q:Flow->Shared->Prop}{K:Frag}{C:Addr}
theorem w9 (T:uQ K C)(ht:typeIn K (.ref C)\.type "type") (hA:A.handled=none)
  (hx:wpAny (model prog w) A x (λ v s1=>∃ e t d od,v=.ref e/\InstAt s1.heap e (oQ C d t) C od/\K.In s1.heap/\E (.ref e) s1) E s):wpAny (model prog w) A (raiseStmt env (some x) none) Q E s:=by
 unfold raiseStmt;refine À (Ĳ hx (λ v s1 h=>?_) (λ _ _ z=>z));obtain⟨e,t,d,od,rfl,I,KX,q⟩:=h;obtain⟨hp,g,dr,tk,os⟩:=s1;have Xb:∀ c:ClassData,(oQ C d t).data≠Data.cls c:=λ c z=>by cases z
 refine À (Á ?_);refine À ?_;show wpAny _ _ (excFromValue (.ref e) _) _ _ _;unfold excFromValue;refine À ?_;unfold isExcClass;refine À (ks_wpAny_isType_inst I.at_ Xb ?_);refine Ţ rfl (Á ?_);refine Ţ rfl ?_;refine À ?_;have sub:Looks (model prog w) hp (isInstance (.ref e) (.type "BaseException")) true:=I.type.andThen (looks_mroIn KX T.mb);refine Ξ (s:=⟨hp,g,dr,tk,os⟩) sub ?_;refine wpAny_ite_true rfl (Á ?_);refine À (ks_wpAny_isType_inst I.at_ Xb ?_);refine Ţ rfl ?_;refine À ?_;unfold raisedInstance;refine À (Ξ I.type ?_);refine À (Ξ (looks_typeIn KX ht) ?_);refine wpAny_ite_true rfl (Á ?_);refine À ?_;refine À (ŷ I.at_ rfl rfl ?_);refine Ţ rfl (Á ?_);exact wpAny_raiseNew_none hA q
end
theorem a_.type (T:a_ K D nm C f):typeIn K (.ref C)\.type "type":=by
 obtain⟨q,N,bs,sn,sub,ab,col,dd,k0,k1,k2,k3,k5,l⟩:=T.cls;show(K.lookup C).map (λ o=>o.cls)=_;rw[l];rfl
def qR (E:XK)(C:Addr):VK:=λ y H'=>∃ x dx fs,y=.ref x/\H' x\eE x C (some dx)/\H' dx\.xd fs/\E (.ref C) (some x) (ak H' x (qK x C (some dx)))
def BK (E:XK)(C:Addr)(fld:Str)(te:TE):TS:=λ _ σ H=>HI C fld te σ H (qR E C)
theorem iE:ak (ak H x a) x b=ak H x b:=by
 funext z
 unfold ak;by_cases h:z=x
 ·rw[Ë h,Ë h]
 ·rw[Æ h,Æ h,Æ h]
section
variable {P:Program}{w:World}{K:Frag}{mg:bD}{base:Heap}{N:List Str}{qual:Str}{scope:Scope}{f:Addr}{cd:Value}{A:Around}{outer:List Env}{s0:Shared}{H0:Hp}{E:XK}
abbrev t5 (P:Program)(w:World)(K:Frag)(mg:bD)(base:Heap)(N:List Str)(qual:Str)(scope:Scope)(f:Addr)(cd:Value)(A:Around)(outer:List Env)(s0:Shared)(H0:Hp)(E:XK):Cx:=b9 (eX P w) P w K mg base N qual scope f cd A outer s0 H0 E
theorem eT {nm fld x:Str}(B:Α K D)(T:a_ K D nm C fI)(F:ð P w K mg base az k fI fd ps (pG C fld))(hr:Ă (k+1) (t5 P w K mg base N qual scope f cd A outer s0 H0 E).A)(hb:Binds K fd ps [])
  (hg:Gl (t5 P w K mg base N qual scope f cd A outer s0 H0 E) x) (hm:mg x\.ref C) (ha:PE (t5 P w K mg base N qual scope f cd A outer s0 H0 E) e te)
  (No:(x==("__debug__" : Str))=false:=by decide) (he:starEach [e] (t5 P w K mg base N qual scope f cd A outer s0 H0 E).env=(false,eval e (t5 P w K mg base N qual scope f cd A outer s0 H0 E).env)::starEach [] (t5 P w K mg base N qual scope f cd A outer s0 H0 E).env:=by rfl) (M6:(backTo pos (starEach [] (t5 P w K mg base N qual scope f cd A outer s0 H0 E).env)).any (·.1)=false:=by rfl) :
  PS (t5 P w K mg base N qual scope f cd A outer s0 H0 E) (.Raise (some (.Call (.Name x p) [e] [] pos)) none pos') (BK E C fld te):=by
 intro pins s σ H D' I h;have pe:=DS (X:=t5 P w K mg base N qual scope f cd A outer s0 H0 E) (p:=p) B T F hr hb hg hm ha No he M6;have hd:=I.ok.hd rfl;rw[arm_exec_Raise];refine À (Ĥ ?_);refine w9 T.it T.type hd ?_;refine À (bj (pe pins s σ H (qR E C) I h) λ u s1 h1=>?_);obtain⟨y,H1,I1,ry,x,dx,fs,rfl,e1,e2,q⟩:=h1;refine À (Ĥ (Á ?_));obtain⟨t,ht⟩:=iL I1.Ě e1;obtain⟨ox,od,J,_⟩:=oW I1.Ě e1 e2;have eo:=á (J.at_.symm.trans ht);subst eo;exact⟨x,t,some dx,some od,ry,J,I1.Τ,AJ I1 e1 ⟨_,rfl⟩ e2 ht (.inl rfl) q⟩
theorem kF {fld:Str}(nd:dx≠x)(q:E (.ref C) (some x) (ak (ak H1 dx (.xd [(fld,v)])) x (qK x C (some dx)))):qR E C (.ref x) (ak (ak H1 dx (.xd [(fld,v)])) x (eE x C (some dx))) :=
 ⟨x,dx,_,rfl,bz,by rw[ai nd,bz],by rw[iE];exact q⟩
theorem Ir (F:Ļ K x qual st f fd)(S:ag N ps (aa st))(len:∀ vs H Q E,sp vs H Q E->vs.length=ps.length)
  (F':∀(cdv:Value)(A:Around)(outer:List Env)(s:Shared)(H:Hp)(vs:List V)(Q:VK)(E:XK),Ă k (A.deeper (PyProof.Rows.envOfC qual (aa st) s.heap.objs.size f cdv))->sp vs H Q E ->
   ∃ t,ο (t5 P w K mg base N qual (aa st) f cdv A outer s H E) (aH st) t/\t { nx:=λ _ H'=>Q .Ę H',rt:=Q } (fQ N vs) H):ð P w K mg base (eX P w) (k+1) f fd ps sp:=by
 obtain⟨oc,od,kV,doc,pm,an,cdv,ct,R4,rfl,lk,Ov⟩:=F.ex;refine AC lk Ov S len λ A outer s H vs Q E hr Pp=>?_;obtain⟨t,h,q⟩:=F' cdv A outer s H vs Q E hr Pp;exact⟨t,h,q⟩
theorem ng (F:Ļ K x qual st f fd)(S:ag N ps (aa st))
  (F':∀(cdv:Value)(A:Around)(outer:List Env)(s:Shared)(H:Hp)(vs:List V)(Q:VK)(E:XK),Ă k (A.deeper (PyProof.Rows.envOfC qual (aa st) s.heap.objs.size f cdv))->sp vs H Q E ->
   ∃ t,ο (t5 P w K mg base N qual (aa st) f cdv A outer s H E) (aH st) t/\t { nx:=λ _ H'=>Q .Ę H',rt:=Q } (fQ N vs) H) (len:∀ vs H Q E,sp vs H Q E->vs.length=ps.length:=by intro vs H Q E h;repeat (first | (obtain⟨rfl,_⟩:=h;rfl) | (obtain⟨_,h⟩:=h))):ð P w K mg base (eX P w) (k+1) f fd ps sp:=Ir F S len F'
theorem c7:PS X st (λ _ _ _=>False):=λ _ _ _ _ _ _ h=>h.elim
end
end My
namespace My
open PySem PySem.W L2
open PyProof.Rows (AllBare)
abbrev TH:=Addr->Addr->TS
end My
namespace My
open PySem L2
section
variable {X:Cx}
def jH:List V->List V->Bool
 | [],[]=>true
 | x::xs,y::ys=>Fa x y&&jH xs ys
 | _,_=>false
theorem kq:∀(xs ys:List V),((List.range (min xs.length ys.length)).all (λ j=>Fa (xs.getD j .Ę) (ys.getD j .Ę))&&xs.length==ys.length)=jH xs ys
 | [],[]=>rfl
 | [],y::ys=>by simp[jH]
 | x::xs,[]=>by simp[jH]
 | x::xs,y::ys=>by
  have ih:=kq xs ys;show _=(Fa x y&&jH xs ys);rw[<- ih,à,à,Nat.succ_min_succ,RL,QL,List.all_map,Bool.and_assoc]
  congr 1
  rw[show(xs.length+1==ys.length+1)=(xs.length==ys.length) from by simp]
  rfl
theorem tH {pins:List (Addr × Obj)}{σ:St}{H:Hp}{s:Shared}{A:Around}{xs ys:List V}{its Op:List Value}(r1:Vals xs its)(r2:Vals ys Op)(f1:xs.all jt=true)(f2:ys.all jt=true) :
  ∀ j (h1:j<its.toArray.size) (h2:j<Op.toArray.size),SeqAt.EqAt A s its.toArray[j] Op.toArray[j] (Fa (xs.getD j .Ę) (ys.getD j .Ę)):=by
 intro j h1 h2;have h1':j<its.length:=by simpa using h1
 have QZ:j<Op.length:=by simpa using h2
 have k1:j<xs.length:=by rw[r1.length];exact h1'
 have k2:j<ys.length:=by rw[r2.length];exact QZ
 obtain⟨u1,e1,q1⟩:=r1.get (Ã k1);obtain⟨u2,e2,q2⟩:=r2.get (Ã k2);have a1:its.toArray[j]=u1:=by
  have:=Ã h1';rw[e1] at this
  simpa using (Option.some.inj this).symm
 have a2:Op.toArray[j]=u2:=by
  have:=Ã QZ;rw[e2] at this
  simpa using (Option.some.inj this).symm
 have z1:xs.getD j .Ę = xs[j]:=by simp[k1]
 have z2:ys.getD j .Ę = ys[j]:=by simp[k2]
 rw[a1,a2,z1,z2];exact ym q1 q2 (C_.mp f1 _ (Ň k1)) (C_.mp f2 _ (Ň k2))
def Ip (K:PySem.W.Frag)(g:Bool->Bool):R2:=λ x y H Q=>∃ p q xs ys,x=.ref p/\y=.ref q/\Ĭ K H p xs/\Ĭ K H q ys/\xs.all jt=true/\ys.all jt=true/\Q (.bl (g (jH xs ys))) H
theorem wY (hu:X.A.units<cLine):jy X (compareOp .Eq) (Ip X.K id):=by
 intro pins s σ H x y v u Q I rx ry h;obtain⟨p,q,xs,ys,rfl,rfl,hp,hq,f1,f2,k⟩:=h;cases rx;cases ry;obtain⟨its,r1,t1,_⟩:=I.tuple hp;obtain⟨Op,r2,t2,_⟩:=I.tuple hq;refine SeqAt.eq_tupleAt t1 t2 hu (tH (pins:=pins) (σ:=σ) (H:=H) r1 r2 f1 f2) ?_;refine⟨.bl _,H,I,?_,k⟩;have z:=kq xs ys;rw[r1.length,r2.length] at z;show Value.bool _=Value.bool _;rw[id,<- z];simp
theorem qx (hu:X.A.units<cLine):jy X (compareOp .NotEq) (Ip X.K not):=by
 intro pins s σ H x y v u Q I rx ry h;obtain⟨p,q,xs,ys,rfl,rfl,hp,hq,f1,f2,k⟩:=h;cases rx;cases ry;obtain⟨its,r1,t1,_⟩:=I.tuple hp;obtain⟨Op,r2,t2,_⟩:=I.tuple hq;refine SeqAt.RcNeAt.tuples t1 t2 hu (tH (pins:=pins) (σ:=σ) (H:=H) r1 r2 f1 f2) X.prog X.w X.xe _ ?_;refine⟨.bl _,H,I,?_,k⟩;have z:=kq xs ys;rw[r1.length,r2.length] at z;show Value.bool _=Value.bool _;rw[<- z];simp
end
section
variable {X:Cx}
def pd (x y:V):Prop:=jt x=true/\jt y=true/\Fa x y=true
def vX (K:PySem.W.Frag)(H:Hp):Nat->V->V->Prop
 | 0,x,y=>(∃ a,x=.ref a/\y=.ref a)\/pd x y
 | n+1,x,y=>((∃ a,x=.ref a/\y=.ref a)\/pd x y) \/
  ∃ p q xs ys,x=.ref p/\y=.ref q/\((Ĭ K H p xs/\Ĭ K H q ys)\/(Ğ K H p xs/\Ğ K H q ys))/\xs.length=ys.length/\∀(i:Nat) x y,xs[i]?\x->ys[i]?\y->vX K H n x y
theorem xB (ru:RelV x u)(rv:RelV y v)(h:pd x y):SeqAt.EqAt A s u v true:=by
 have f:=ym (A:=A) (s:=s) ru rv h.1 h.2.1;rw[h.2.2] at f;exact f
theorem sA (ru:RelV x u)(rv:RelV y v)(h:(∃ a,x=.ref a/\y=.ref a)\/pd x y):SeqAt.EqAt A s u v true:=by
 rcases h with⟨a,rfl,rfl⟩ | h
 ·cases (show u=.ref a from ru);cases (show v=.ref a from rv);exact Nu _
 ·exact xB ru rv h
theorem qc (r1:Vals xs its)(r2:Vals ys Op)(h:∀(i:Nat) x y u v,xs[i]?\x->ys[i]?\y->RelV x u->RelV y v->SeqAt.EqAt A s u v true) :
  ∀ j (h1:j<its.toArray.size) (h2:j<Op.toArray.size),SeqAt.EqAt A s its.toArray[j] Op.toArray[j] true:=by
 intro j h1 h2;have h1':j<its.length:=by simpa using h1
 have QZ:j<Op.length:=by simpa using h2
 have k1:j<xs.length:=by rw[r1.length];exact h1'
 have k2:j<ys.length:=by rw[r2.length];exact QZ
 obtain⟨u1,e1,q1⟩:=r1.get (Ã k1);obtain⟨u2,e2,q2⟩:=r2.get (Ã k2);have a1:its.toArray[j]=u1:=by
  have:=Ã h1';rw[e1] at this
  simpa using (Option.some.inj this).symm
 have a2:Op.toArray[j]=u2:=by
  have:=Ã QZ;rw[e2] at this
  simpa using (Option.some.inj this).symm
 rw[a1,a2];exact h j _ _ _ _ (Ã k1) (Ã k2) q1 q2
theorem mI {A:Around}:A.in1.units=A.units+1:=rfl
theorem sR (I:Inv X pins σ H s)(hu:A.units<cLine)(h:(Ĭ X.K H p xs/\Ĭ X.K H q ys)\/(Ğ X.K H p xs/\Ğ X.K H q ys))(len:xs.length=ys.length)
  (he:∀(i:Nat) x y u v,xs[i]?\x->ys[i]?\y->RelV x u->RelV y v->SeqAt.EqAt A.in1 s u v true):SeqAt.RcAt A s (.ref p) (.ref q) true/\SeqAt.RcNeAt A s (.ref p) (.ref q) false:=by
 rcases h with⟨hp,hq⟩ | ⟨hp,hq⟩
 ·obtain⟨its,r1,t1,_⟩:=I.tuple hp;obtain⟨Op,r2,t2,_⟩:=I.tuple hq;have l1:=r1.length;have l2:=r2.length;have e:=qc r1 r2 he;have z:((List.range (min its.toArray.size Op.toArray.size)).all (λ _=>true)&&its.toArray.size==Op.toArray.size)=true:=by
   simp;lia
  have a:=SeqAt.RcAt.tuples t1 t2 hu e;have b:=SeqAt.RcNeAt.tuples t1 t2 hu e;rw[z] at a b;exact⟨a,b⟩
 ·obtain⟨its,r1,t1,_⟩:=I.list hp;obtain⟨Op,r2,t2,_⟩:=I.list hq;have l1:=r1.length;have l2:=r2.length;have e:=qc r1 r2 he;have z:((List.range its.toArray.size).all (λ _=>true))=true:=by simp
  have sz:its.toArray.size=Op.toArray.size:=by simp;lia
  have a:=SeqAt.RcAt.lists t1.isList t2.isList sz hu e;have b:=SeqAt.RcNeAt.lists t1.isList t2.isList sz hu e;rw[z] at a b;exact⟨a,b⟩
theorem qj (I:Inv X pins σ H s):∀(n:Nat){A:Around}{x y:V}{u v:Value},A.units+n<cLine->vX X.K H n x y->RelV x u->RelV y v->SeqAt.EqAt A s u v true
 | 0,A,x,y,u,v,hu,h,ru,rv=>sA ru rv h
 | n+1,A,x,y,u,v,hu,h,ru,rv=>by
  rcases h with h | ⟨p,q,xs,ys,rfl,rfl,hs,len,all⟩
  ·exact sA ru rv h
  ·cases (show u=.ref p from ru);cases (show v=.ref q from rv);by_cases e:p=q
   ·subst e;exact Nu _
   ·exact .of_refs e (sR I ad hs len λ i x y u v hx hy ru rv=>qj I n (by rw[mI];lia) (all i x y hx hy) ru rv).1
def qY (K:PySem.W.Frag)(n:Nat)(b:Bool):R2:=λ x y H Q=>∃ p q xs ys,x=.ref p/\y=.ref q/\((Ĭ K H p xs/\Ĭ K H q ys)\/(Ğ K H p xs/\Ğ K H q ys))/\xs.length=ys.length/\(∀(i:Nat) x y,xs[i]?\x->ys[i]?\y->vX K H n x y)/\Q (.bl b) H
theorem wS (hu:X.A.units+(n+1)<cLine):jy X (compareOp .NotEq) (qY X.K n false):=by
 intro pins s σ H x y v u Q I rx ry h;obtain⟨p,q,xs,ys,rfl,rfl,hs,len,all,k⟩:=h;cases rx;cases ry;exact(sR I ad hs len λ i x y u v hx hy ru rv=>qj I n (by rw[mI];lia) (all i x y hx hy) ru rv).2 X.prog X.w X.xe _ ⟨.bl false,H,I,rfl,k⟩
end
end My
namespace My
open PySem PySem.W L2
open PyProof.Rows (Call_ boot_enumerate)
section
variable {X:Cx}{pins:List (Addr × Obj)}{σ:St}{H:Hp}{s:Shared}{h':Heap}
theorem zJ (I:Inv X pins σ H s)(k:∀ b o,b≠i1->b≠i2->s.heap.get? b\o->h'.get? b\o)(F1:i8 X pins H i1)(F2:i8 X pins H i2):Inv X pins σ H { s with heap:=h',toks:=t' }:=by
 obtain⟨n1,L1,_,a1,b1,c1⟩:=F1;obtain⟨n2,L2,_,a2,b2,c2⟩:=F2;have Xe:∀ b u,H b\u->b≠i1:=λ b u e z=>by rw[z,n1] at e;cases e
 have OL:∀ b u,H b\u->b≠i2:=λ b u e z=>by rw[z,n2] at e;cases e
 refine I.step (ch:=[i1,i2]) (λ b hb=>?_) (λ b o _ _ hc e _=>k b o (λ z=>hc (by simp[z])) (λ z=>hc (by simp[z])) e) (λ b o _ _ hc e _=>⟨o.slots,k b o (λ z=>hc (by simp[z])) (λ z=>hc (by simp[z])) e⟩) (λ _ _ _ _ n=>n)
  (λ b o hc e=>⟨o,k b o (λ z=>hc (by simp[z])) (λ z=>hc (by simp[z])) e⟩) (λ _ _ e=>e) (λ _ _ _ e=>e) (λ b ps e=>⟨#[],by rw[e];simp⟩) (λ q=>q) (λ m hm=>?_) (λ b u e=>?_) I.bare
 ·have e:b=i1\/b=i2:=by simpa using hb
  rcases e with rfl | rfl
  ·exact⟨a1,L1,b1,c1⟩
  ·exact⟨a2,L2,b2,c2⟩
 ·obtain⟨o,es,ep,ho,r⟩:=hm;exact⟨o,es,ep,k _ o (Ne.symm L1) (Ne.symm L2) ho,r⟩
 ·refine(I.Ě b u e).NN (λ c v hc q=>k c v ?_ ?_ q) (λ _ q=>q) λ _ _ q=>q
  ·rcases hc with z | z
   ·rw[z];exact Xe b u e
   ·exact Xe c _ z
  ·rcases hc with z | z
   ·rw[z];exact OL b u e
   ·exact OL c _ z
end
theorem OK {o:Obj}(d:o.data=.fields vs):o.isFreed=false:=by
 obtain⟨c,dd,dt,sl⟩:=o;cases d;rfl
def AZ (K:Frag)(a:Addr):It :=
 ⟨λ i H=>∃ xs x,Ğ K H a xs/\xs[i]?\x,λ i H x H'=>∃ p y,x=.ref p/\H p=none/\H'=ak H p (.tup [.int i,y])/\∀ xs,Ğ K H a xs->xs[i]?\y,λ i H=>∃ xs,Ğ K H a xs/\xs.length<=i⟩
theorem ul {x1}(a e it:Addr)(ne:e≠it):p6 P w K (.Tuple elts x1 pos) (AZ K a) [e,it] e (λ i h=>(∃ old,IsEnum h e it i old)/\h.IsListIter it a i) where
 mem:=by simp
 obj:=λ i h st b hb=>by
  obtain⟨⟨old,h1⟩,o,h2,c,d⟩:=st;have e:b=e\/b=it:=by simpa using hb
  rcases e with rfl | rfl
  ·exact⟨_,h1,λ v z=>by cases z⟩
  ·exact⟨o,h2,λ v z=>by rw[d] at z;cases z⟩
 keep:=λ i h h' st k=>⟨⟨_,k e (by simp) _ st.1.choose_spec⟩,st.2.at λ o z=>k it (by simp) o z⟩
 item:=by
  intro X hP hw hK hc i pins s σ H E I hf st hg;subst hP hw hK;obtain⟨xs,x,hq,hx⟩:=hg;obtain⟨its,rv,p,hz⟩:=I.list hq;obtain⟨u,hu,ru⟩:=rv.get hx;obtain⟨⟨old,he⟩,hi⟩:=st;have Fe:=hf e (by simp)
  have Fi:=hf it (by simp)
  refine wpAny_pyNext_enum_item he hi p.isList (by simpa using hu) ne λ h1 eo O8 ht Wk kk=>?_
  refine⟨_,rfl,wpAny_letOwnedTupleGo_enum eo λ h2 QU sb=>?_⟩;have SI:=sb;have ne2:=N' (Ð he);have Ux:=(SI.2 _ ne2).trans ht;obtain⟨oi,Nz,ci,di⟩:=hi;obtain⟨W',Wp,ci1,Yu⟩:=id O8;have UA:=(SI.2 _ (Ne.symm ne)).trans Wp
  let hA:Heap:=(s.heap.update e λ _=>{ cls:=.type "enumerate",dict:=none,data:=.fields #[.none,.bool false,.ref it,rawInt ((i:Int)+1),.none,u],slots:=#[] }).update it λ _=>W'
  have IA:Inv X pins σ H { s with heap:=hA,toks:=s.toks }:=zJ I (λ b o z1 z2 q=>by
   rw[ê _ _ _ _ z2,ê _ _ _ _ z1];exact q) Fe Fi
  have VC:hA.objs.size=s.heap.objs.size:=by
   rw[Ž,Ž]
  refine⟨.ref s.heap.objs.size,ak H s.heap.objs.size (.tup [.int i,x]),?_,rfl,⟨_,x,rfl,I.Ě.fresh (Å _),rfl,λ ys hy=>by rw[I.On hy hq];exact hx⟩,⟨⟨u,QU⟩,W',UA,ci1,Yu⟩,λ b hb=>?_⟩
  ·refine IA.laid (λ b v q=>?_) (Ō VC) ?_
   ·have q':=q;by_cases z2:b=it
    ·subst z2;have hg:(s.heap.update e λ _=>{ cls:=.type "enumerate",dict:=none,data:=.fields #[.none,.bool false,.ref b,rawInt ((i:Int)+1),.none,u],slots:=#[] }).get? b\oi:=by
      rw[ê _ _ _ _ (Ne.symm ne)];exact Nz
     rw[ć _ hg (OK Yu)] at q';cases q';exact UA
    ·rw[ê _ _ _ _ z2] at q';by_cases z1:b=e
     ·subst z1;rw[ć _ he rfl] at q';cases q';exact QU
     ·rw[ê _ _ _ _ z1] at q';exact(SI.2 b z1).trans (kk b v z1 z2 q')
   ·exact⟨er,[.int i s.toks,u],.cons ⟨_,rfl⟩ (.cons ru .nil),⟨_,Ux,rfl,_,rfl⟩⟩
  ·have nb:b≠s.heap.objs.size:=by
    have e':b=e\/b=it:=by simpa using hb
    rcases e' with rfl | rfl
    ·exact æ (Ð he)
    ·exact æ (Ð Nz)
   rw[ai nb];exact(hf b hb).1
 done:=by
  intro X hP hw hK hc i pins s σ H E I hf st hg;subst hP hw hK;obtain⟨xs,hq,hx⟩:=hg;obtain⟨its,rv,p,hz⟩:=I.list hq;obtain⟨⟨old,he⟩,hi⟩:=st;obtain⟨f0,f1,f2,f3,f4,f5⟩:=hf it (by simp)
  have hl:=rv.length;exact wpAny_pyNext_enum_end (I.ok.hd hc) he hi p.isList (by simp;lia) λ h' eb=>⟨rfl,I.turned (λ b o hb e=>eb b o hb e) f0 f1 f3 f4 f5⟩
 self:=λ _ _ _ _ _ st h=>wpAny_pyIter_enum st.1.choose_spec h
section
variable {X:Cx}
def pU (K:Frag)(ta:TA):TI:=λ σ H R=>ta σ H λ vs H1=>∃ a,vs=[.ref a]/\(∃ xs,Ğ K H1 a xs)/\R (AZ K a) H1
theorem ip {x1}(hg:Gl X "enumerate") (hm:X.mg "enumerate" = none) (ha:PA X [a] ta) (hs:starEach [a] X.env=[(false,eval a X.env)]:=by rfl):PI X (.Tuple elts x1 pt) (.Call (.Name "enumerate" p) [a] [] pos) (pU X.K ta):=by
 intro pins s σ H R I h;refine Call_ (iT I hg hm boot_enumerate (Ś (bj (ha pos pins s σ H _ I h) λ us s1 ⟨vs,H1,I1,r1,q1⟩=>?_) hs rfl));obtain⟨l,rfl,⟨xs,hq⟩,q⟩:=q1;cases r1 with
 | cons r rr =>
  cases rr;cases r;obtain⟨its,rv,p',hz⟩:=I1.list hq;refine call_enumerate_list p'.isList λ h' he hi R_ kk=>?_;refine wpAny_pyIter_enum he ?_;refine⟨s1.heap.objs.size+1,[s1.heap.objs.size+1,s1.heap.objs.size],_,_,H1,rfl,I1.kept kk,ul l _ _ (Nat.succ_ne_self _),⟨⟨_,he⟩,hi⟩,λ b hb=>?_,q⟩;have e:b=s1.heap.objs.size+1\/b=s1.heap.objs.size:=by simpa using hb
  have le:s1.heap.objs.size<=b:=by
   rcases e with rfl | rfl
   ·exact MI _
   ·exact Å _
  exact I1.OP le (I1.Ě.fresh le)
end
theorem kP {g:TG}{tb:TS}{D:bH}(Pv:Nat->St->Hp->Prop)(h0:Pv 0 σ H)(hl:∀ i σ H,i<=xs.length->Pv i σ H->Ğ K H a xs)
  (hs:∀ i x σ H p,xs[i]?\x->Pv i σ H->H p=none->g (.ref p) σ (ak H p (.tup [.int i,x])) λ ĩ H2=>tb { D with nx:=Pv (i+1),ct:=Pv (i+1),bk:=D.nx } ĩ H2) (hd:∀ σ H,Pv xs.length σ H->D.nx σ H) :
  ∃ W:Nat->Nat->St->Hp->Prop,(∃ m,W 0 m σ H)/\∀ i m σ H,W i m σ H ->
   ((AZ K a).stop i H/\D.nx σ H)\/((AZ K a).go i H/\∃ N:St->Hp->Prop,(∀ ĺ H',N ĺ H'->∃ m',m'<m/\W (i+1) m' ĺ H')/\∀ x H',(AZ K a).x_ i H x H'->g x σ H' λ ĩ H2=>tb { D with nx:=N,ct:=N,bk:=D.nx } ĩ H2):=by
 refine⟨λ i m σ H=>m=xs.length-i/\i<=xs.length/\Pv i σ H,⟨xs.length,by simp,Nat.zero_le _,h0⟩,?_⟩
 rintro i m σ H ⟨rfl,hi,p⟩;have q:=hl i σ H hi p;by_cases ş:i<xs.length
 ·refine .inr ⟨⟨xs,xs[i],q,Ã ş⟩,Pv (i+1),λ ĺ H' n=>⟨xs.length-(i+1),ad,rfl,ş,n⟩,?_⟩;rintro x H' ⟨p',y,rfl,hp,rfl,hy⟩;exact hs i y σ H p' (hy xs q) p hp
 ·have e:i=xs.length:=ad;subst e;exact .inl ⟨⟨xs,q,Å _⟩,hd σ H p⟩
end My
namespace My
open PySem L2
def qT (o:Option Str)(C:Addr)(cl:List (Str × Addr)):List (Str × Addr):=match o with | none=>cl | some x=>(x,C)::cl
def IF:Option Str->Str->Bool
 | none=>λ _=>false
 | some x=>λ y=>y==x
def au (X:Cx)(sc:Scope)(cl:List (Str × Addr))(o:Option Str)(N:List Str)(s:Shared)(H:Hp)(C:Addr)(fp:List Addr):Cx where
 prog:=X.prog
 w:=X.w
 K:=X.K
 mg:=X.mg
 base:=X.base
 A:=X.A
 N:=N
 Ų:=s
 Qq:=H
 env:=compEnvC sc (qT o (C+1) cl) C X.env
 outer:=X.stack
 stack:=X.stack
 ex:=fp
 fn:=IF o
 calm:=X.calm
 pn:=[]
 xe:=λ _ _=>False
def fL (js:List Nat)(σ:St):St:=js.map λ j=>(σ[j]?).join
structure dX (X:Cx)(sc:Scope)(cl:List (Str × Addr))(o:Option Str)(ts zs:List Str)(js:List Nat):Prop where
 OR:closureFor sc X.env=pure cl
 kind:sc.kind=.function
 cells:∀ C:Nat,cellsFrom C sc.names cl=qT o C cl
 names:∀ y∈sc.names,y.2=.local->sc.names.lookup y.1\.local
 inx:∀ x,o\x->x∈ts
 sub:∀ z c,cl.lookup z\c->X.env.cells.lookup z\c
 has:∀ z,((relabel sc X.env).names.lookup z\.cell\/(relabel sc X.env).names.lookup z\.free)->o\z\/∃ c,cl.lookup z\c
 nd:(ts++zs).Nodup
 cap:∀(k:Nat)(z:Str),zs[k]?\z->∃ j:Nat,js[k]?\j/\X.N[j]?\z/\GH X.env.scope z/\X.env.kindOf z≠some .local /\
  ((relabel sc X.env).names.lookup z\.cell\/(relabel sc X.env).names.lookup z\.free)
 len:js.length=zs.length
theorem ic {o:Option Str}{z:Str}{c d:Addr}{cl:List (Str × Addr)}(h:(qT o d cl).lookup z\c):(o\z/\c=d)\/(o≠some z/\cl.lookup z\c):=by
 cases o with
 | none=>exact .inr ⟨nofun,h⟩
 | some x =>
  rw[qT,Į] at h;cases e:z==x with
  | true=>rw[e] at h;exact .inl ⟨by rw[þ.mp e],(á h).symm⟩
  | false=>rw[e] at h;exact .inr ⟨λ q=>by cases q;simp at e,h⟩
theorem vY {o:Option Str}{z:Str}{c d:Addr}{cl:List (Str × Addr)}(n:o≠some z)(h:cl.lookup z\c):(qT o d cl).lookup z\c:=by
 cases o with
 | none=>exact h
 | some x=>rw[qT,Į,ü.mpr λ e=>n (by rw[e])];exact h
theorem fj {x:Str}{d:Addr}{cl:List (Str × Addr)}:List.lookup x ((x,d)::cl)\d:=by
 rw[Į,ū]
theorem zL {z x:Str}{c d:Addr}{cl:List (Str × Addr)}(n:z≠x)(h:cl.lookup z\c):List.lookup z ((x,d)::cl)\c:=by
 rw[Į,ü.mpr n];exact h
theorem ui {M:Model}{A:Around}{E:eZ}{s:Shared}{scope:Scope}{globals:Addr}{cl:List (Str × Addr)}{qual:Str}{outer:Env}{Q:Env->Shared->Prop}
  (hQ:∀ h',h'.Ns s.heap.objs.size (λ _=>none)->(∀ b o,s.heap.get? b\o->h'.get? b\o)->(∀ n c,(n,c)∈cellsFrom (s.heap.objs.size+1) scope.names []->h'.IsCell c none) ->
   Q { scope:=scope,locals:=s.heap.objs.size,globals:=globals,cells:=cellsFrom (s.heap.objs.size+1) scope.names cl,qual:=qual,func:=none,code:=outer.code,frame:=outer.frame,builtins:=outer.builtins } { s with heap:=h' }) :
  wpAny M A (newFunctionEnv scope globals cl [] qual none .none (some outer)) Q E s:=by
 simp only[newFunctionEnv,Option.isSome_some,if_true];refine À (wpAny_alloc ?_);refine À (wpAny_layCells _ (λ name kind cells=>by cases hkc:kind==NameKind.cell <;> simp[hkc]) _ _ _ _ ?_)
 have ok:=cellsFrom_ok scope.names (s.heap.push { cls:=.type "dict",data:=.dict #[] }) (s.heap.objs.size+1) [] ⟨λ _ _ hm=>(nomatch hm),List.Pairwise.nil⟩ (by rw[ő];exact Å _)
 rw[ő] at ok;rw[show({ s with heap:=s.heap.push { cls:=.type "dict",data:=.dict #[] } }:Shared).heap.objs.size=s.heap.objs.size+1 from ő ..]
 refine À ?_;rw[List.forIn_nil];exact Á (Á (hQ _ ((Heap.Ns.new s.heap (.type "dict")).keeps (pushCells_keeps _ _)) (λ b o e=>pushCells_keeps _ _ b o (Ä _ e)) λ n c hm=>(ok.empty n c hm).1))
theorem cX:∀(names:List (Str × NameKind))(n:Nat)(acc:List (Str × Addr)),cellsFrom n names acc=cellsFrom n names []++acc
 | [],_,_=>rfl
 | (name,kind)::r,n,acc=>by
  unfold cellsFrom;split
  ·rw[cX r (n+1) ((name,n)::acc),cX r (n+1) [(name,n)],ì];rfl
  ·exact cX r n acc
section
variable {X:Cx}{pins:List (Addr × Obj)}{σ:St}{H:Hp}{s:Shared}{sc:Scope}{cl:List (Str × Addr)}{o:Option Str}{ts zs:List Str}{js:List Nat}{C:Addr}{fp:List Addr}
theorem oo {s1:Shared}{m:bD}(I:Inv X pins σ H s)(S:dX X sc cl o ts zs js)(hf:∀ b∈fp,i8 X pins H b/\b<s.heap.objs.size)(hC:s.heap.objs.size<=C)(ho:s1.os=s.os)(hg:s1.gens=s.gens)
  (hk:∀ b u,s.heap.get? b\u->s1.heap.get? b\u) (hn:s1.heap.Ns C m) (MU:∀ x,o\x->s1.heap.IsCell (C+1) none):Inv (au X sc cl o (ts++zs) s H C fp) [] (List.replicate ts.length none++fL js σ) H s1:=by
 have nc:∀ z,X.env.cells.lookup z≠some (C+1):=λ z e=>by
  obtain⟨v,hv⟩:=I.cell z _ e;exact absurd hv.lt (H_.mpr (o_ hC))
 have ok:(au X sc cl o (ts++zs) s H C fp).Ok:=by
  refine⟨I.ok.mod,S.kind,I.ok.glob,I.ok.blt,hC,λ y z c h1 h2=>?_,λ z h=>?_,λ z c hx h=>?_,I.ok.hd,I.ok.frames,.inl rfl,λ b hb=>?_,I.bs,?_,λ b u e hb=>?_,λ b hb hs=>?_,I.stack,I.NM⟩
  ·rcases ic h1 with⟨e1,e2⟩ | ⟨e1,e2⟩ <;> rcases ic h2 with⟨e3,e4⟩ | ⟨e3,e4⟩
   ·exact á (e1.symm.trans e3)
   ·exact absurd (S.sub _ _ e4) (by rw[e2];exact nc z)
   ·exact absurd (S.sub _ _ e2) (by rw[e4];exact nc y)
   ·exact I.ok.inj y z c (S.sub _ _ e2) (S.sub _ _ e4)
  ·by_cases e:o\z
   ·subst e;exact⟨C+1,fj⟩
   ·rcases S.has z h with q | ⟨c,q⟩
    ·exact absurd q e
    ·exact⟨c,vY e q⟩
  ·cases o with
   | none=>cases hx
   | some x =>
    have ez:=þ.mp hx;subst ez;rcases ic (o:=some z) (d:=C+1) (cl:=cl) h with⟨_,e2⟩ | ⟨e1,_⟩
    ·rw[e2];exact o_ hC
    ·exact absurd rfl e1
  ·obtain⟨⟨_,h1,_,_,h4,_⟩,h6⟩:=hf b hb;refine⟨λ e=>absurd h6 (H_.mpr (by rw[show b=C from e];exact hC)),λ z c e=>?_⟩
   rcases ic e with⟨_,e2⟩ | ⟨_,e2⟩
   ·intro q;rw[<- q,e2] at h6;exact absurd h6 (H_.mpr (o_ hC))
   ·exact h4 z c (S.sub _ _ e2)
  ·exact È I.ok.Q3 I.sz
  ·obtain⟨⟨_,_,_,h3,_⟩,_⟩:=hf b hb;rcases h3 with h | h
   ·exact I.ok.P9 b u e h
   ·exact absurd (Ð e) (H_.mpr (È I.ok.Q3 h))
  ·obtain⟨⟨_,h1,h2,_⟩,_⟩:=hf b hb;rcases Ö.mp (I.MO b hs) with e | e
   ·exact h1 e
   ·exact h2 e
 refine⟨ok,ho,by rw[hg];exact I.bare,Un.kept hk,⟨m,hn,λ i y v h1 h2 h3=>?_⟩,λ z c e=>?_,I.Ě.fresh hC,λ z c e=>?_,(λ p hp=>nomatch (show p∈([]:List (Addr × Obj)) from hp)),I.Ě.kept hk,?_⟩
 ·rcases ñ i ts.length with lt | ge
  ·rw[ĉ (by rw[Ĺ];exact lt),Ra,Ë lt] at h2
   cases h2
  ·have h1':zs[i-ts.length]?\y:=by
    have WI:(ts++zs)[i]?\y:=h1
    rwa[Ą ge] at WI
   obtain⟨j,hj,hN,hv,nl,k'⟩:=S.cap _ y h1';have QZ:(fL js σ)[i-ts.length]?\some v:=by
    rwa[Ą (by rw[Ĺ];exact ge),Ĺ] at h2
   have h5:σ[j]?\some v:=by
    unfold fL at QZ;rw[Ô,hj] at QZ;have h6:(σ[j]?).join\v:=á QZ;cases e:σ[j]? with
    | none=>rw[e] at h6;cases h6
    | some o=>rw[e] at h6;exact ý some h6
   obtain⟨m0,hn0,hl⟩:=I.loc;obtain⟨u,ru,lk⟩:=hl j y v hN h5 hv;refine⟨u,ru,?_⟩;rcases lk with⟨k1,_⟩ | ⟨_,c,ec,hc⟩
   ·exact absurd k1 nl
   ·have yx:o≠some y:=λ e=>(List.nodup_append.mp S.nd).2.2 y (S.inx y e) y (ß h1') rfl;rcases S.has y k' with q | ⟨c',XM⟩
    ·exact absurd q yx
    have e2:=S.sub _ _ XM;rw[ec] at e2;cases e2;exact .inr ⟨k',c,vY yx XM,hc.keeps hk⟩
 ·rcases ic e with⟨e1,e2⟩ | ⟨_,e2⟩
  ·rw[e2];exact⟨none,MU _ e1⟩
  ·obtain⟨v,hv⟩:=I.cell z c (S.sub _ _ e2);exact⟨v,hv.keeps hk⟩
 ·rcases ic e with⟨_,e2⟩ | ⟨_,e2⟩
  ·rw[e2];exact I.Ě.fresh (o_ hC)
  ·exact I.r_ z c (S.sub _ _ e2)
 ·show(List.replicate ts.length none++fL js σ:St).length=(ts++zs).length;simp[fL,S.len]
theorem uC {s1:Shared}{ĺ:St}{H':Hp}{h':Heap}(I:Inv X pins σ H s)(hf:∀ b∈fp,i8 X pins H b/\b<s.heap.objs.size)(hC:s.heap.objs.size<=C)(J:Inv (au X sc cl o (ts++zs) s H C fp) [] ĺ H' s1)
  (hs:Heap.SameBut C s1.heap h'):Inv X pins σ H' { s1 with heap:=h' }:=by
 have old:∀ b o,s1.heap.get? b\o->b≠C->h'.get? b\o:=λ b o e n=>(hs.2 b n).trans e;have lt:∀{b o},s.heap.get? b\o->b≠C:=λ {b o} e z=>by
  have q:=Ð e;rw[z] at q;exact absurd q (H_.mpr hC)
 have B:=J.base;refine I.Rx J.os ⟨λ b o e n hb hx=>old b o (B.keep b o e n hb hx) (lt e),λ b o e n hb hx=>?_,B.free,λ b o e hx=>?_,B.NG,B.Nq,B.NH,B.sys⟩ (λ b o e=>?_) J.bare λ b hb=>?_
 ·obtain⟨sl,q⟩:=B.slot b o e n hb hx;exact⟨sl,old _ _ q (lt e)⟩
 ·obtain⟨o',q⟩:=B.there b o e hx;exact⟨o',old _ _ q (lt e)⟩
 ·have nC:∀ c u,H' c\u->c≠C:=λ c u q z=>by
   have f:H' C=none:=J.free;rw[z,f] at q;cases q
  refine(J.Ě b o e).NN (λ c v hc q=>old c v q ?_) (λ _ q=>q) λ _ _ q=>q;rcases hc with rfl | hc
  ·exact nC _ _ e
  ·exact nC _ _ hc
 ·obtain⟨⟨_,h1,_,h3,h4,h5⟩,_⟩:=hf b hb;exact⟨h3,h1,h4,h5⟩
end
abbrev xf:=Around->Value->Env->Value->(Shared->Prop)->Shared->Prop
abbrev nE:Value->Shared->Prop:=λ _ _=>False
def q8 (prog:Program)(w:World)(whole tg:Expr)(k:Nat)(B:xf):Prop :=
 ∀(A:Around)(it:Value)(D:Addr)(env:Env)(s:Shared)(Q:Fin->Shared->Prop)(Q0:Shared->Prop)(E:eZ),(∀ s,Q0 s->Q (.again (.compLoop whole k it (.ref D) env)) s)->wpAny (model prog w) A (pyNext it) (λ r ģ=>match r with
  | none=>Q (.done .next) ģ
  | some v=>wpAny (model prog w) A (letOwnedTupleGo tg it v) (λ _ i_=>B A (.ref D) env v Q0 i_) nE ģ) nE s ->
 wpAny (model prog w) (A.under (.compLoop whole k it (.ref D) env)) ((model prog w).den (.compLoop whole k it (.ref D) env)) Q E s
theorem je {α:Type}{M:Model}{A:Around}{m:Sem α}{Q Q':α->Shared->Prop}{E:eZ}{s:Shared}(h:wpAny M A m Q nE s)(k:∀ a s,Q a s->Q' a s):wpAny M A m Q' E s:=Ĳ h k λ _ _ z=>z.elim
section
variable {prog:Program}{w:World}{elt tg iter:Expr}{sc:Scope}{pos:Pos}
theorem lW {whole:Expr}{k:Nat}{B:xf}{A:Around}{it:Value}{D:Addr}{env:Env}{R:Result->Shared->Prop}{s:Shared}(ht:q8 prog w whole tg k B)(J:Nat->Shared->Prop)
  (turn:∀ n s,J n s->wpAny (model prog w) A (pyNext it) (λ r ģ=>match r with
   | none=>R (.ok .next) ģ
   | some v=>wpAny (model prog w) A (letOwnedTupleGo tg it v) (λ _ i_=>B A (.ref D) env v (λ MN=>∃ m,m<n/\J m MN) i_) nE ģ) nE s)
  (n:Nat) (h:J n s):codeAny (model prog w) A (.compLoop whole k it (.ref D) env) R s:=by
 exact codeAny_loop rfl J (λ n s hJ=>ht _ _ _ _ _ _ _ _ (λ _ q=>⟨rfl,q⟩) (turn n s hJ)) n h
def yZ (prog:Program)(w:World)(elt:Expr):xf:=λ A acc env _ Q s=>wpAny (model prog w) A (eval elt env) (λ x Nj=>wpAny (model prog w) A (call (.builtin "list.append") [acc,x]) (λ _ Ni=>Q Ni) nE Nj) nE s
def yj (prog:Program)(w:World)(tg:Expr)(B:xf):xf:=λ A acc env v Q s=>wpAny (model prog w) A (assign tg env v) (λ _ MN=>B A acc env v Q MN) nE s
def LP (prog:Program)(w:World)(c:Expr)(B:xf):xf:=λ A acc env v Q s=>wpAny (model prog w) A (isTrue c env (eval c env)) (λ k Ų=>(k=false->Q Ų)/\(k=true->B A acc env v Q Ų)) nE s
theorem JM:q8 prog w (.ListComp elt [⟨tg,iter,[],0⟩] sc pos) tg 0 (yj prog w tg (yZ prog w elt)):=by
 intro A it D env s Q Q0 E hq h;refine N8 ?_;rw[compTurn_list1];refine À (Ĥ (À (je h λ r ģ ι=>?_)));cases r with
 | none=>exact Á ι
 | some v=>exact À (je ι λ _ i_ L_=>À (je L_ λ _ MN L'=>À (À (je L' λ x Nj NU=>À (je NU λ _ Ni NT=>Á (Á (hq _ NT)))))))
theorem Gy {c:Expr}:q8 prog w (.ListComp elt [⟨tg,iter,[c],0⟩] sc pos) tg 0 (yj prog w tg (LP prog w c (yZ prog w elt))):=by
 intro A it D env s Q Q0 E hq h;refine N8 ?_;rw[compTurn_list];refine À (Ĥ (À (je h λ r ģ ι=>?_)));cases r with
 | none=>exact Á ι
 | some v =>
  refine À (je ι λ _ i_ L_=>À (je L_ λ _ MN L'=>À (wpAny_tests_one (je L' λ k Ų h₀=>?_))));cases k with
  | false=>exact Á (hq _ (h₀.1 rfl))
  | true=>exact À (À (je (h₀.2 rfl) λ x Nj NU=>À (je NU λ _ Ni NT=>Á (Á (hq _ NT)))))
def Jy (prog:Program)(w:World)(kx vx:Expr):xf:=λ A acc env _ Q s=>∃ D,acc=.ref D/\wpAny (model prog w) A (eval kx env) (λ kv Nj=>wpAny (model prog w) A (eval vx env) (λ vv Ni=>wpAny (model prog w) A (dictSet D kv vv) (λ _ S7=>Q S7) nE Ni) nE Nj) nE s
theorem IW {kx vx:Expr}:q8 prog w (.DictComp kx vx [⟨tg,iter,[],0⟩] sc pos) tg 0 (yj prog w tg (Jy prog w kx vx)):=by
 intro A it D env s Q Q0 E hq h;refine N8 ?_;rw[compTurn_dict];refine À (Ĥ (À (je h λ r ģ ι=>?_)));cases r with
 | none=>exact Á ι
 | some v =>
  refine À (je ι λ _ i_ L_=>À (je L_ λ _ MN L'=>À (Á ?_)));obtain⟨D',e,L'⟩:=L';cases e;exact À (À (je L' λ kv Nj NU=>À (ĥ (je NU λ vv Ni NT=>À (Ĥ (ĥ (je NT λ _ S7 V'=>Á (hq _ V'))))))))
end
section
variable {X:Cx}{pins:List (Addr × Obj)}{σ:St}{H:Hp}{s:Shared}{sc:Scope}{cl:List (Str × Addr)}{o:Option Str}{ts zs:List Str}{js:List Nat}{C:Addr}{fp:List Addr}
def KP (X:Cx)(k:Nat)(cap:St)(D:Addr)(B:xf)(pins:List (Addr × Obj))(σ:St)(H:Hp)(s:Shared)(u:Value)(N:Hp->Prop):Prop :=
 Inv X pins σ H s->∀ Q:Shared->Prop,(∀ s' ĵ H',ĵ.length=k->Inv X pins (ĵ ++ cap) H' s'->N H'->Q s')->B X.A (.ref D) X.env u Q s
theorem ff {whole tg iter:Expr}{wi:TI}{B:xf} {Ο:Sem Value}{pos:Pos}{use:Option (Value->Sem Unit)}{Qf:eZ}{RJ:It->Hp->Prop}{R:Addr->Hp->Prop}{u0:HO}{ob:Obj}{ifs:List Expr}{gs:List Comprehension}(hc:X.calm=true)(S:dX X sc cl o ts zs js)(hi:PI X tg iter wi)
  (hs:∀ v,foldedSetIterable iter X.env v=pure v) (I:Inv X pins σ H s) (h:wi σ H RJ) (hT:q8 X.prog X.w whole tg 0 B) (hcl:clausesOf whole=⟨tg,iter,ifs,0⟩::gs)
  (M5:∀{R:Result->Shared->Prop}{s:Shared}{it acc:Value}{env:Env},codeAny (model X.prog X.w) X.A (.compLoop whole 0 it acc env) R s->wpAny (model X.prog X.w) X.A (pyIter it) (λ SR s'=>codeAny (model X.prog X.w) X.A (.compLoop whole 0 SR acc env) R s') (notedBy (model X.prog X.w) X.A env λ x s'=>R (.error x) s') s->codeAny (model X.prog X.w) X.A (.compStart whole 0 it acc env) R s)
  (Wr:∀(s2:Shared) H2 Q,Inv X pins σ H2 s2->(Inv X pins σ (ak H2 s2.heap.objs.size u0) { s2 with heap:=s2.heap.push ob }->Q (.ref s2.heap.objs.size) { s2 with heap:=s2.heap.push ob })->wpAny (model X.prog X.w) X.A Ο Q X.xe s2)
  (hb:∀ J H1 D s3 Ha C fp,RJ J H1->H1 D=none->∃ W:Nat->Nat->Hp->Prop,(∃ m,W 0 m (ak H1 D u0))/\∀ i m H2,W i m H2->(J.stop i H2/\R D H2)\/(J.go i H2 /\
   ∀ x H3,J.x_ i H2 x H3->∀ os:St,os.length=ts.length->∀ pins s u,RelV x u->KP (au X sc cl o (ts++zs) s3 Ha C fp) ts.length (fL js σ) D B pins (os++fL js σ) H3 s u λ H'=>∃ m',m'<m/\W (i+1) m' H'))
  (NX:∀ D H' Hq s3 (s4:Shared) m,Inv X pins σ Hq s3->s4.heap.Ns s3.heap.objs.size m->H' s3.heap.objs.size=none->(∀ h',Heap.SameBut s3.heap.objs.size s4.heap h'->Inv X pins σ H' { s4 with heap:=h' })->R D H'->compPost (model X.prog X.w) X.A X.xe use Qf (.ref D) s3.heap.objs.size (.ok .next) s4) :
  wpAny (model X.prog X.w) X.A (comprehension whole sc X.env pos Ο false (eval iter X.env) use) Qf X.xe s:=by
 refine wpAny_comprehension_free hcl hs S.OR S.kind S.names (bj (hi pins s σ H _ I h) λ v s1 h1=>bj h1 λ V8 s2 h2=>?_);obtain⟨it,fp,tn,J,H2,e,I2,T,Ű,f2,body⟩:=h2;subst e;have fr2:H2 s2.heap.objs.size=none:=I2.fresh;refine Wr _ _ _ I2 λ I3=>?_;refine ui (λ ι hn Qj MU=>?_);rw[S.cells];generalize Wj:({ s2 with heap:=s2.heap.push ob }:Shared)=s3 at I3 hn Qj MU ⊢
 obtain⟨W,⟨m0,w0⟩,turn⟩:=hb J H2 s2.heap.objs.size s3 (ak H2 s2.heap.objs.size u0) s3.heap.objs.size fp body fr2;have Vr:∀ b∈fp,i8 X pins (ak H2 s2.heap.objs.size u0) b/\b<s3.heap.objs.size:=λ b hb=>by
  obtain⟨o,ho,_⟩:=T.obj _ _ Ű b hb;have hl:=Ð ho;obtain⟨z1,z2⟩:=f2 b hb;refine⟨⟨by rw[ai (æ hl)];exact z1,z2⟩,?_⟩
  rw[<- Wj];show b<(s2.heap.push _).objs.size;rw[ő];exact Nat.lt_succ_of_lt hl
 have y_:tn 0 ι:=T.keep _ _ _ Ű λ b hb o e=>Qj b o (by rw[<- Wj];exact Ä _ e)
 have loop:∀ sS:Shared,sS.heap = ι->sS.os=s3.os->sS.gens=s3.gens->codeAny (model X.prog X.w) X.A (.compLoop whole 0 (.ref it) (.ref s2.heap.objs.size) (compEnvC sc (qT o (s3.heap.objs.size+1) cl) s3.heap.objs.size X.env))
   (compPost (model X.prog X.w) X.A X.xe use Qf (.ref s2.heap.objs.size) s3.heap.objs.size) sS:=by
  intro sS eh eo eg;subst eh;have J0:=oo I3 S Vr (Å _) eo eg Qj hn λ x ex=>MU x _ (by
   have q:=S.cells (s3.heap.objs.size+1);rw[cX,ex] at q;rw[List.append_cancel_right (bs:=cl) (show _=[(x,s3.heap.objs.size+1)]++cl from q)];exact Í.mpr rfl)
  have OH:∀{H':Hp},(∀ b∈fp,H' b=none)->∀ b∈fp,i8 (au X sc cl o (ts++zs) s3 (ak H2 s2.heap.objs.size u0) s3.heap.objs.size fp) [] H' b:=λ {H'} hn b hb=>by
   obtain⟨⟨_,z1,z2,z3,z4,z5⟩,z6⟩:=Vr b hb;refine⟨hn b hb,æ z6,λ q=>?_,.inl hb,λ y c e=>?_,λ p hp=>nomatch (show p∈([]:List (Addr × Obj)) from hp)⟩
   ·rcases Ö.mp (I3.MO b q) with e | e
    ·exact z1 e
    ·exact z2 e
   ·rcases ic e with⟨_,e2⟩ | ⟨_,e2⟩
    ·intro q;rw[<- q,e2] at z6;exact absurd z6 (H_.mpr (MI _))
    ·exact z4 y c (S.sub _ _ e2)
  refine lW hT (λ n s'=>∃ i os H',os.length=ts.length/\Inv (au X sc cl o (ts++zs) s3 (ak H2 s2.heap.objs.size u0) s3.heap.objs.size fp) [] (os++fL js σ) H' s'/\tn i s'.heap/\(∀ b∈fp,H' b=none)/\W i n H') ?_ m0 ⟨0,_,_,Ĺ,J0,y_,λ b hb=>(Vr b hb).1.1,w0⟩;rintro n s' ⟨i,os,H',ų,Iv,st,fr,w⟩;rcases turn i n H' w with⟨stop,q⟩ | ⟨go,step⟩
  ·refine bj (T.done (au X sc cl o (ts++zs) s3 (ak H2 s2.heap.objs.size u0) s3.heap.objs.size fp) rfl rfl rfl hc i [] s' _ H' nE Iv (OH fr) st stop) λ r s4 ⟨hr,I4⟩=>?_;subst hr;obtain⟨m,hm,_⟩:=id I4.loc;exact NX _ _ _ _ _ m I3 hm I4.free (λ h' Qw=>uC I3 Vr (Å _) I4 Qw) q
  ·refine bj (T.item (au X sc cl o (ts++zs) s3 (ak H2 s2.heap.objs.size u0) s3.heap.objs.size fp) rfl rfl rfl hc i [] s' _ H' nE Iv (OH fr) st go) λ r s4 ⟨u,hr,h4⟩=>?_;subst hr;refine bj h4 λ _ s5 ⟨y,H5,I5,r5,y5,O1,WL⟩=>?_;have WP:=I5.pinned (OH WL) (T.obj _ _ O1);refine step y H5 y5 os ų _ s5 u r5 WP _ λ s6 ĵ H6 Om I6 ⟨m',Nn,w6⟩=>⟨m',Nn,i+1,ĵ,H6,Om,I6.h_,T.keep _ _ _ O1 λ b hb o e=>(I6.pin (b,o) (ã _ (ã _ (cS hb e)))).1,(λ b hb=>by
    obtain⟨o',e',_⟩:=T.obj _ _ O1 b hb;exact(I6.pin (b,o') (ã _ (ã _ (cS hb e')))).2.1),w6⟩
 exact M5 (loop _ rfl rfl rfl) (T.self _ 0 _ _ _ y_ (loop _ rfl rfl rfl))
def Fc (X:Cx)(whole iter:Expr)(sc:Scope) (Ο:Sem Value)(te:TE):Prop :=
 ∀(pins:List (Addr × Obj))(s:Shared)(σ:St)(H:Hp)(Q:VK)(pos:Pos)(use:Option (Value->Sem Unit))(Qf:eZ),Inv X pins σ H s->te σ H Q ->
 (∀ D H' Hq s3 (s4:Shared) m,Inv X pins σ Hq s3->s4.heap.Ns s3.heap.objs.size m->H' s3.heap.objs.size=none->(∀ h',Heap.SameBut s3.heap.objs.size s4.heap h'->Inv X pins σ H' { s4 with heap:=h' })->Q (.ref D) H'->compPost (model X.prog X.w) X.A X.xe use Qf (.ref D) s3.heap.objs.size (.ok .next) s4) ->
 wpAny (model X.prog X.w) X.A (comprehension whole sc X.env pos Ο false (eval iter X.env) use) Qf X.xe s
theorem sW {whole iter:Expr} {Ο:Sem Value}{te:TE}{pos:Pos}(h:Fc X whole iter sc Ο te)(he:eval whole X.env=comprehension whole sc X.env pos Ο false (eval iter X.env)):PE X whole te:=by
 intro pins s σ H Q I w;rw[he];exact h _ _ _ _ _ _ _ _ I w λ D H' Hq s3 s4 m I3 hm f ends q=>⟨m,hm,λ h' hs=>⟨.ref D,H',ends h' hs,rfl,q⟩⟩
theorem FQ {whole iter:Expr} {Ο:Sem Value}{te:TE}{pos p0:Pos}{y:Str}{py:Pos}{iy:Nat}(h:Fc X whole iter sc Ο te)(hN:X.N.Nodup)(Ww:X.N[iy]?\y)(hy:EF X.env.scope y)(hf:X.fn y=true\/X.env.scope.names.lookup y\.local)
  (he:exec (.Assign [.Name y py] whole pos) X.env=standAt pos >>= λ _=>(do let _ <- comprehension whole sc X.env p0 Ο false (eval iter X.env) (some (assign (.Name y py) X.env))) >>= λ _=>pure .next):PS X (.Assign [.Name y py] whole pos) (bQ te (aJ iy)):=by
 intro pins s σ H De I w;rw[he];refine À (Ĥ (À (À ?_)));refine Ĳ (h _ _ _ _ _ _ (some (assign (.Name y py) X.env)) (λ _ s'=>SP X pins De .next s') I w λ D H' Hq s3 s4 m I3 hm fC ends q=>?_) (λ _ s' hq=>Á (Á hq)) λ _ _ e=>e;show wpAny _ _ (assign (.Name y py) X.env (.ref D)) _ _ s4;have nC:∀ b,b<s3.heap.objs.size->b≠s3.heap.objs.size:=λ b hb=>æ hb;have nL:X.env.locals≠s3.heap.objs.size:=nC _ I3.lt;have Yy:∀ z c,X.env.cells.lookup z\c->c≠s3.heap.objs.size:=λ z c e=>by
  obtain⟨v,o,ho,_⟩:=I3.cell z c e;exact nC _ (Ð ho)
 refine wpAny_assign_Name (l9 (ends s4.heap ⟨rfl,λ _ _=>rfl⟩) hN Ww hy (v:=.ref D) rfl (λ s5 I6 hb=>?_) hf);obtain⟨a5,Z1,ha5⟩:=hb;refine⟨m,hm.sameBut Z1 (by
  rcases ha5 with e | e
  ·rw[e];exact nL.symm
  ·exact(Yy _ _ e).symm),λ h' Qw=>?_⟩
 exact⟨_,H',I6.turned (h':=h') (t':=s5.toks) (it:=s3.heap.objs.size) (λ b o hb e=>(Qw.2 b hb).trans e) fC nL.symm (.inr I3.sz) Yy λ p hp=>nC _ (Ð (I3.pin p hp).1),q⟩
end
def iu (wi:TI)(k:Nat)(js:List Nat)(g:TG)(te:TE):TE:=λ σ H Q=>wi σ H λ J H1=>∀ D,H1 D=none->∃ W:Nat->Nat->List V->Hp->Prop,(∃ m,W 0 m [] (ak H1 D (.lst []))) /\
 ∀ i m ys H2,W i m ys H2->H2 D\.lst ys/\((J.stop i H2/\Q (.ref D) H2)\/(J.go i H2/\ys.length<sizeLine /\
  ∀ x H3,J.x_ i H2 x H3->∀ os:St,os.length=k->g x (os++fL js σ) H3 λ ĩ H0=>(∃ ĵ:St,ĵ.length=k/\ĩ = ĵ ++ fL js σ)/\te ĩ H0 λ y H4=>H4 D\.lst ys/\∃ m',m'<m/\W (i+1) m' (ys ++ [y]) (ak H4 D (.lst (ys ++ [y])))))
def ig (wi:TI)(k:Nat)(js:List Nat)(g:TG)(tt:TT)(te:TE):TE:=λ σ H Q=>wi σ H λ J H1=>∀ D,H1 D=none->∃ W:Nat->Nat->List V->Hp->Prop,(∃ m,W 0 m [] (ak H1 D (.lst []))) /\
 ∀ i m ys H2,W i m ys H2->H2 D\.lst ys/\((J.stop i H2/\Q (.ref D) H2)\/(J.go i H2/\ys.length<sizeLine /\
  ∀ x H3,J.x_ i H2 x H3->∀ os:St,os.length=k->g x (os++fL js σ) H3 λ ĩ H0=>(∃ ĵ:St,ĵ.length=k/\ĩ = ĵ ++ fL js σ)/\tt ĩ H0 λ b H5=>(b=false->∃ m',m'<m/\W (i+1) m' ys H5) /\
   (b=true->te ĩ H5 λ y H4=>H4 D\.lst ys/\∃ m',m'<m/\W (i+1) m' (ys ++ [y]) (ak H4 D (.lst (ys ++ [y]))))))
abbrev cJ (X:Cx)(sc:Scope)(cl:List (Str × Addr)):=dX X sc cl none
section
variable {X X':Cx}{sc:Scope}{cl:List (Str × Addr)}{o:Option Str}{ts zs:List Str}{js:List Nat}{elt iter c kx vx:Expr}{pos:Pos}{tg:Expr}{g:TG}{wi:TI}{te tk tv:TE}{tt:TT}
theorem qZ {pins:List (Addr × Obj)}{s:Shared}{σ:St}{H:Hp}{D:Addr}{ys:List V}{v:Value}{N:List V->Hp->Prop}{Q:Shared->Prop}(he:PE X' elt te)(ex:X'.xe=nE)(Ş:ys.length<sizeLine)(I:Inv X' pins σ H s)(st:te σ H λ y H4=>H4 D\.lst ys/\N (ys ++ [y]) (ak H4 D (.lst (ys ++ [y]))))(k:∀ s' H' zs,Inv X' pins σ H' s'->N zs H'->Q s'):yZ X'.prog X'.w elt X'.A (.ref D) X'.env v Q s:=by
 have g:=he _ _ _ _ _ I st;rw[ex] at g;refine bj g λ uv s7 ⟨v7,H7,I7,r7,hD7,w7⟩=>?_;have g:=gK _ s7 _ H7 (.ref D) [v7] (.ref D) [uv] (λ _ H8=>H8=ak H7 D (.lst (ys ++ [v7]))) I7 rfl (.cons r7 .nil) ⟨_,ys,v7,rfl,rfl,hD7,Ş,rfl⟩;rw[ex] at g;refine bj g λ _ s8 ⟨_,H8,I8,_,e8⟩=>?_;subst e8;exact k _ _ _ I8 w7
theorem vI {pins:List (Addr × Obj)}{σ:St}(s2:Shared)(H2:Hp)(Q:eZ)(I:Inv X pins σ H2 s2)(k:Inv X pins σ (ak H2 s2.heap.objs.size (.lst [])) { s2 with heap:=s2.heap.push { cls:=.type "list",data:=.seq ([]:List Value).toArray } }->Q (.ref s2.heap.objs.size) { s2 with heap:=s2.heap.push { cls:=.type "list",data:=.seq ([]:List Value).toArray } }):wpAny (model X.prog X.w) X.A (newList []) Q X.xe s2 :=
 î (k (I.V1 (t':=s2.toks) (ys:=[]) (its:=[]) .nil (Ť _)))
theorem AX (hc:X.calm=true)(S:dX X sc cl o ts zs js)(hi:PI X tg iter wi)(hg:∀ s H C fp,PG (au X sc cl o (ts++zs) s H C fp) tg g)(he:∀ s H C fp,PE (au X sc cl o (ts++zs) s H C fp) elt te)
  (hs:∀ v,foldedSetIterable iter X.env v=pure v):Fc X (.ListComp elt [⟨tg,iter,[],0⟩] sc pos) iter sc (newList []) (iu wi ts.length js g te):=by
 intro pins s σ H Q p use Qf I h NX;refine ff hc S hi hs I h JM rfl M9 vI (λ J H1 D s3 Ha C fp hJ hD=>?_) NX;obtain⟨W,⟨m,w0⟩,turn⟩:=hJ D hD;refine⟨λ i m H'=>∃ ys,W i m ys H',⟨m,[],w0⟩,λ i m H2 ⟨ys,w⟩=>?_⟩;obtain⟨hD,alt⟩:=turn i m ys H2 w;refine alt.imp_right λ ⟨go,Ş,step⟩=>⟨go,λ x H3 y os ų pins s u r I Q0 k=>?_⟩;refine bj (hg _ _ _ _ _ _ _ _ _ _ _ I r (step x H3 y os ų)) λ _ s6 ⟨SE,H6,I6,⟨ĵ,Om,e6⟩,Ny⟩=>?_;subst e6;exact qZ (N:=λ zs H4=>∃ m',m'<m/\W (i+1) m' zs H4) (he s3 Ha C fp) rfl Ş I6 Ny λ s' H' zs I8 ⟨m',l,w⟩=>k _ _ _ Om I8 ⟨m',l,zs,w⟩
theorem Dy (hc:X.calm=true)(S:dX X sc cl o ts zs js)(hi:PI X tg iter wi)(hg:∀ s H C fp,PG (au X sc cl o (ts++zs) s H C fp) tg g)(ht:∀ s H C fp,PT (au X sc cl o (ts++zs) s H C fp) c tt)(he:∀ s H C fp,PE (au X sc cl o (ts++zs) s H C fp) elt te)
  (hs:∀ v,foldedSetIterable iter X.env v=pure v):Fc X (.ListComp elt [⟨tg,iter,[c],0⟩] sc pos) iter sc (newList []) (ig wi ts.length js g tt te):=by
 intro pins s σ H Q p use Qf I h NX;refine ff hc S hi hs I h Gy rfl M9 vI (λ J H1 D s3 Ha C fp hJ hD=>?_) NX;obtain⟨W,⟨m,w0⟩,turn⟩:=hJ D hD;refine⟨λ i m H'=>∃ ys,W i m ys H',⟨m,[],w0⟩,λ i m H2 ⟨ys,w⟩=>?_⟩;obtain⟨hD,alt⟩:=turn i m ys H2 w;refine alt.imp_right λ ⟨go,Ş,step⟩=>⟨go,λ x H3 y os ų pins s u r I Q0 k=>?_⟩;refine bj (hg _ _ _ _ _ _ _ _ _ _ _ I r (step x H3 y os ų)) λ _ s6 ⟨SE,H6,I6,⟨ĵ,Om,e6⟩,Ny⟩=>?_;subst e6;refine bj (ht s3 Ha C fp _ _ _ _ _ I6 Ny) λ b sk ⟨Hk,Ik,q0,q1⟩=>⟨λ e=>?_,λ e=>?_⟩
 ·obtain⟨m',l,w⟩:=q0 e;exact k _ _ _ Om Ik ⟨m',l,ys,w⟩
 ·exact qZ (N:=λ zs H4=>∃ m',m'<m/\W (i+1) m' zs H4) (he s3 Ha C fp) rfl Ş Ik (q1 e) λ s' H' zs I8 ⟨m',l,w⟩=>k _ _ _ Om I8 ⟨m',l,zs,w⟩
theorem eC (hc:X.calm=true)(S:dX X sc cl o ts zs js)(hi:PI X tg iter wi)(hg:∀ s H C fp,PG (au X sc cl o (ts++zs) s H C fp) tg g)(he:∀ s H C fp,PE (au X sc cl o (ts++zs) s H C fp) elt te)
  (hs:∀ v,foldedSetIterable iter X.env v=pure v:=by intro _;rfl):PE X (.ListComp elt [⟨tg,iter,[],0⟩] sc pos) (iu wi ts.length js g te):=sW (AX hc S hi hg he hs) (eval_ListComp ..)
theorem fE (hc:X.calm=true)(S:dX X sc cl o ts zs js)(hi:PI X tg iter wi)(hg:∀ s H C fp,PG (au X sc cl o (ts++zs) s H C fp) tg g)(ht:∀ s H C fp,PT (au X sc cl o (ts++zs) s H C fp) c tt)(he:∀ s H C fp,PE (au X sc cl o (ts++zs) s H C fp) elt te)
  (hs:∀ v,foldedSetIterable iter X.env v=pure v:=by intro _;rfl):PE X (.ListComp elt [⟨tg,iter,[c],0⟩] sc pos) (ig wi ts.length js g tt te):=sW (Dy hc S hi hg ht he hs) (eval_ListComp ..)
theorem rA {y:Str}{py S_:Pos}{iy:Nat}(hc:X.calm=true)(S:dX X sc cl o ts zs js)(hi:PI X tg iter wi)(hg:∀ s H C fp,PG (au X sc cl o (ts++zs) s H C fp) tg g)(he:∀ s H C fp,PE (au X sc cl o (ts++zs) s H C fp) elt te)
  (hN:X.N.Nodup) (Ww:X.N[iy]?\y) (hy:EF X.env.scope y) (hsw:swapsWith (.ListComp elt [⟨tg,iter,[],0⟩] sc pos) (some (.Name y py)) S_.line X.env=pure true)
  (hf:X.fn y=true\/X.env.scope.names.lookup y\.local:=by first | exact .inl rfl | exact .inr rfl | assumption)
  (hs:∀ v,foldedSetIterable iter X.env v=pure v:=by intro _;rfl):PS X (.Assign [.Name y py] (.ListComp elt [⟨tg,iter,[],0⟩] sc pos) S_) (bQ (iu wi ts.length js g te) (aJ iy)):=FQ (AX hc S hi hg he hs) hN Ww hy hf (exec_Assign_Name_used _ _ _ _ hsw)
end
end My
namespace My
open PySem L2 PySem.Calls PyProof.Rows
open PySem.Builtin.Str (occurrences partsBetween strSub)
section
variable {X:Cx}
def nt (i j:Int):Prop:=0<j/\j.natAbs.log2<9000
theorem bS:jy X (binaryOp .FloorDiv) (rI nt λ i j=>.int (i/j)):=AV λ i j _ _ _ _ _ hc q=>by
 have z:=hc.1;exact floordiv_int ad (by rw[e_ i (Ŀ z)];exact q) (.inl (PyProof.noPylong_of_log2 hc.2))
def Pu (i j:Int):Prop:=Builtin.Int.intBits i+Builtin.Int.intBits j<=1000000
theorem Pu.ok (h:Pu i j):IntMulOk i j:=by
 unfold IntMulOk;have z:Builtin.Int.intTooBig (Builtin.Int.intBits i+Builtin.Int.intBits j)=false:=by
  refine Ò ?_;have h':Builtin.Int.intBits i+Builtin.Int.intBits j<=1000000:=h;have hb:(1000000:Int)<=bitsLine:=aF
  lia
 rw[z];simp
theorem cG:jy X (binaryOp .Mult) (rI Pu λ i j=>.int (i*j)):=AV λ _ _ _ _ _ _ _ hc q=>PyProof.Rows.mul_int q hc.ok
end
end My
namespace My
open PySem PySem.W L2
structure kO (K:Frag)(D:Addr)(m:Str)(f:Addr):Prop where
 ga:specialIn K (.ref D) "__getattribute__"\some (.builtin "type.__getattribute__")
 reads:readsIn K D (.type "type")=true
 at_:findCls K (.ref D) (.type "type") m\.val (.ref f)
 kp:keepIn K (.ref f)=true
section
variable {X:Cx}{CX:qp}{k:Nat}{f D:Addr}{fd:FuncData}{ps:List Str}{sp:Sp}{E:XK}{x m:Str}{p pos Ū:Pos}{e:Expr}{es:List Expr}{t:TA}{N2:List V}{ds:List Value}
theorem ft (C:kO X.K D m f)(F:ð X.prog X.w X.K X.mg X.base CX k f fd ps sp)(hr:Ă k X.A)(hg:Gl X x)(hm:X.mg x\.ref D)(hb:Binds X.K fd ps ds)(hd:Vals N2 ds)(hx:dj CX X E)(ha:PA X (e::es) t)
  (No:(x==("__debug__" : Str))=false:=by decide) (M5:starEach (e::es) X.env=(false,eval e X.env)::starEach es X.env:=by rfl) (M6:(backTo pos (starEach es X.env)).any (·.1)=false:=by rfl)
  (Wd:eval (.Call (.Attribute (.Name x p) m Ū) (e::es) [] pos) X.env=(do
   let ov <- eval (.Name x p) X.env
   standAt Ū.atName
   let (f,first) <- holding [ov] (getMethod ov m pl)
   callWith pos f first (backTo pos (starEach (e::es) X.env)) (backToKw pos (keywordEach [] X.env))):=by rfl) :
  PE X (.Call (.Attribute (.Name x p) m Ū) (e::es) [] pos) (cV sp N2 E t):=by
 intro pins s σ H Q I h;refine Λ (fo I hg hm ?_ No) Wd;refine method_cls I.Τ C.ga (cls_value I.Τ C.reads C.at_ rfl ?_);have I0:Inv X pins σ H { s with toks:=s.toks+1 }:=I.tok _
 refine ż I.ok.mod.R9 C.kp (bj (ha pos pins _ σ H _ I0 h) λ us s1 ⟨vs,H1,I1,r,q⟩=>⟨I1.Τ,?_⟩) M5 M6;exact nK F hr hb hd hx I1 r q
end
end My
namespace My
open PySem L2
open PySem.Builtin.Str (occurrences partsBetween strSub)
def L4 (c:Nat):Bool:=decide (48<=c)&&decide (c<=57)
def Gd (L:List Nat):Bool:=!L.isEmpty && !(L.head?==some 48&&L != [48])&&L.all L4
abbrev cs (z:Str):List Nat:=z.cps.toList
abbrev val (L:List Nat):Nat:=NumText.digitsVal L
theorem dD (z:Str):(47 ∉ cs z)\/∃ A R,cs z=A++47::R/\47 ∉ A:=by
 by_cases h:47∈cs z
 ·right;generalize cs z=L at h
  induction L with
  | nil=>cases h
  | cons c L ih =>
   by_cases e:c=47
   ·subst e;exact⟨[],L,rfl,by simp⟩
   ·have h':47∈L:=by
     rcases Ö.mp h with q | q
     ·exact absurd q.symm e
     ·exact q
    obtain⟨A,R,e1,e2⟩:=ih h';exact⟨c::A,R,by rw[e1];rfl,by simp only[List.mem_cons,not_or];exact⟨λ q=>e q.symm,e2⟩⟩
 ·exact .inl h
def Me (a b:List Nat):Bool:=Gd a&&Gd b&&decide (2<=val b)&&decide (1<=val a)&&decide (val a<val b)&&decide (Nat.gcd (val a) (val b)=1)
def rd (z:Str):Option (Nat × Nat) :=
 if z = "0" then some (0,1) else if z = "1" then some (1,1) else
  match Txt.split z ⟨#[47]⟩ with
  | [a,b]=>if Me (cs a) (cs b)=true then some (val (cs a),val (cs b)) else none
  | _=>none
abbrev tx (n:Nat):Str:=Str.ofString (toString ((n:Nat):Int))
end My
namespace My
open PySem PySem.W L2
theorem fU {A B:Prop}(h:A):if true=true then A else B:=by rw[Ë rfl];exact h
theorem dW {A B:Prop}(h:B):if false=true then A else B:=by rw[Æ av];exact h
def Ext (H H':Hp):Prop:=∀ b o,H b\o->H' b\o
theorem Ext.refl (H:Hp):Ext H H:=λ _ _ h=>h
theorem Ext.trans (a:Ext H H1)(b:Ext H1 H2):Ext H H2:=λ x o h=>b x o (a x o h)
theorem Ext.new (h:H p=none):Ext H (ak H p o):=λ b u e=>by rw[ai (ap e h)];exact e
theorem Ĭ.ext (h:Ĭ K H p xs)(e:Ext H H'):Ĭ K H' p xs:=by
 rcases h with h | h
 ·left;rcases h with h | ⟨o,h⟩
  ·exact .inl (e _ _ h)
  ·exact .inr ⟨o,e _ _ h⟩
 ·exact .inr h
theorem Ğ.ext (h:Ğ K H s xs)(x:Ext H H'):Ğ K H' s xs:=by
 rcases h with h | h
 ·rcases h with h | ⟨o,h⟩
  ·exact .inl (.inl (x _ _ h))
  ·exact .inl (.inr ⟨o,x _ _ h⟩)
 ·exact .inr h
theorem jz (hg:Gl X x)(hm:X.mg x=none)(hv:bootBuiltins x\.type n)(hn:x ≠ "__name__" := by decide +kernel) (hd:(x==("__debug__" : Str))=false:=by decide):PE X (.Name x pos) (tC (.ty n)) :=
 yB hg hm hv (show RelV (.ty n) (.type n) from rfl) hn hd
def Kd (K:Frag)(H:Hp)(x:V)(t:Value):Prop:=χ K H x t\/(∃ p xs,x=.ref p/\Ĭ K H p xs/\t=.type "tuple")\/(∃ a C,x=.ref a/\NA H a C/\uQ K C/\t=.ref C)
def GI (K:Frag):List V->Hp->VK->Prop:=λ vs H Q=>∃ x n t b,vs=[x,.ty n]/\Kd K H x t/\kitOne K t (.type n)\b/\Q (.bl b) H
theorem c8 (N:Bc X.K):dL X (.builtin "isinstance") (GI X.K):=by
 intro pins s σ H xs us Q I r h;obtain⟨x,n,t,b,rfl,kd,e,q⟩:=h;obtain⟨u,u',rfl,ru,U8⟩:=tq r;cases (show u'=Value.type n from U8);rcases kd with ty | ⟨p,ys,rfl,hq,rfl⟩ | ⟨a,C,rfl,ea,T,rfl⟩
 ·exact tX I ru ty e λ tk=>⟨.bl b,H,I.tok _,rfl,q⟩
 ·cases (show u=.ref p from ru);obtain⟨its,_,⟨o,h1,h2,_⟩,_⟩:=I.tuple hq;exact kia_one kitx_tuple I.Τ ⟨o,h1,h2⟩ e (λ z=>nomatch z) λ tk=>⟨.bl b,H,I.tok _,rfl,q⟩
 ·cases (show u=.ref a from ru);exact kia_one (Cr T N.gt N.tk) I.Τ (ea.inst I.Ě) e (λ z=>nomatch z) λ tk=>⟨.bl b,H,I.tok _,rfl,q⟩
theorem NA.ext (e:NA H a C)(x:Ext H H'):NA H' a C:=by
 rcases e with e | ⟨dx,fs,e1,e2⟩
 ·exact .inl (x _ _ e)
 ·exact .inr ⟨dx,fs,x _ _ e1,x _ _ e2⟩
theorem χ.ext (h:χ K H x t)(e:Ext H H'):χ K H' x t:=by
 cases h with
 | Ę=>exact .Ę
 | bl b=>exact .bl b
 | int i=>exact .int i
 | str z=>exact .str z
 | QD z=>exact .QD z
 | lst q=>exact .lst (e _ _ q)
 | Η q=>exact .Η (e _ _ q)
 | tup q=>exact .tup (e _ _ q)
 | dK q=>exact .dK (e _ _ q)
 | dT q=>exact .dT (e _ _ q)
 | ins q cl ha hn Qv hm=>exact .ins (e _ _ q) cl ha hn Qv hm
theorem Kd.ext (h:Kd K H x t)(e:Ext H H'):Kd K H' x t:=by
 rcases h with ty | ⟨p,ys,rfl,hq,rfl⟩ | ⟨a,C,rfl,ea,T,rfl⟩
 ·exact .inl (My.χ.ext ty e)
 ·exact .inr (.inl ⟨p,ys,rfl,My.Ĭ.ext hq e,rfl⟩)
 ·exact .inr (.inr ⟨a,C,rfl,ea.ext e,T,rfl⟩)
def G2 (K:Frag)(H:Hp)(x:V):Prop:=(∀ i,x ≠ .int i)/\∃ t b1 b2,Kd K H x t/\kitOne K t (.type "int")\b1/\kitOne K t (.type "bool")\b2/\(b1 && !b2)=false
def Th (K:Frag)(H:Hp)(x:V):Prop:=(∃ i,x=.int i)\/G2 K H x
def EY:V->Bool
 | .int _=>true
 | _=>false
def Pm (lo hi:Int):V->Bool
 | .int i=>decide (lo<=i)&&decide (i<=hi)
 | _=>false
theorem nG (h:∀ i,x ≠ .int i):EY x=false:=by
 cases x with
 | int i=>exact absurd rfl (h i)
 | _=>rfl
theorem Ci (h:∀ i,x ≠ .int i):Pm lo hi x=false:=by
 cases x with
 | int i=>exact absurd rfl (h i)
 | _=>rfl
section
variable {P:Program}{w:World}{K:Frag}{mg:bD}{base:Heap}
theorem Ku:kitOne K (.type "int") (.type "int")\true:=rfl
theorem IS:kitOne K (.type "int") (.type "bool")\false:=rfl
end
set_option exponentiation.threshold 10000
def lG:Key->PyData
 | .inl i=>.int i
 | .inr x=>.str x
 | .Ę=>.none
mutual
inductive İ (G:Hp):V->PyData->Prop
 | Ę:İ G .Ę .none
 | bl (b:Bool):İ G (.bl b) (.bool b)
 | int (i:Int):İ G (.int i) (.int i)
 | str (x:Str):İ G (.str x) (.str x)
 | lst {a:Addr} {xs:List V} {ds:List PyData}:G a\.lst xs->ď G xs ds->İ G (.ref a) (.list ds)
 | tup {a:Addr} {xs:List V} {ds:List PyData}:G a\.tup xs->ď G xs ds->İ G (.ref a) (.tuple ds)
 | Oy {a:Addr}:G a\.dK []->İ G (.ref a) (.dict [])
 | Rv {a:Addr} {k:Key} {v:V} {d:PyData}:G a\.dK [(k,v)]->İ G v d->İ G (.ref a) (.dict [(lG k,d)])
inductive ď (G:Hp):List V->List PyData->Prop
 | nil:ď G [] []
 | cons {v:V} {vs:List V} {d:PyData} {ds:List PyData}:İ G v d->ď G vs ds->ď G (v::vs) (d::ds)
end
mutual
theorem İ.mono (s:Ext G G'):∀{v:V}{d:PyData},İ G v d->İ G' v d
 | _,_,.Ę=>.Ę
 | _,_,.bl b=>.bl b
 | _,_,.int i=>.int i
 | _,_,.str x=>.str x
 | _,_,.lst e r=>.lst (s _ _ e) (ď.mono s r)
 | _,_,.tup e r=>.tup (s _ _ e) (ď.mono s r)
 | _,_,.Oy e=>.Oy (s _ _ e)
 | _,_,.Rv e r=>.Rv (s _ _ e) (İ.mono s r)
theorem ď.mono (s:Ext G G'):∀{vs:List V}{ds:List PyData},ď G vs ds->ď G' vs ds
 | _,_,.nil=>.nil
 | _,_,.cons r t=>.cons (İ.mono s r) (ď.mono s t)
end
theorem ď.length:∀{vs:List V}{ds:List PyData},ď G vs ds->vs.length=ds.length
 | _,_,.nil=>rfl
 | _,_,.cons _ t=>by rw[à,à,t.length]
def tD:PyData->String
 | .none => "NoneType"
 | .bool _ => "bool"
 | .int _ => "int"
 | .str _ => "str"
 | .list _ => "list"
 | .tuple _ => "tuple"
 | _ => "dict"
def E4:PyData->Bool
 | .tuple _=>true
 | _=>false
def yX:PyData->Bool
 | .bool _=>true
 | _=>false
def ol (lo hi:Int):PyData->Bool
 | .int i=>decide (lo<=i)&&decide (i<=hi)
 | _=>false
section
variable {K:Frag}{H:Hp}{v:V}{d:PyData}
theorem İ.ty (r:İ H v d):χ K H v (.type (tD d)):=by
 cases r with
 | Ę=>exact .Ę
 | bl b=>exact .bl b
 | int i=>exact .int i
 | str x=>exact .str x
 | lst e _=>exact .lst e
 | tup e _=>exact .tup e
 | Oy e=>exact .dK e
 | Rv e _=>exact .dK e
theorem İ.kd (r:İ H v d):Kd K H v (.type (tD d)):=.inl r.ty
theorem İ.Xo (r:İ H v d):kitOne K (.type (tD d)) (.type "tuple")\E4 d:=by cases r <;> rfl
theorem İ.isB (r:İ H v d):kitOne K (.type (tD d)) (.type "bool")\yX d:=by cases r <;> rfl
theorem İ.th (r:İ H v d):Th K H v:=by
 cases r with
 | int i=>exact .inl ⟨i,rfl⟩
 | Ę=>exact .inr ⟨λ i z=>(by cases z),_,_,_,.inl .Ę,rfl,rfl,rfl⟩
 | bl b=>exact .inr ⟨λ i z=>(by cases z),_,_,_,.inl (.bl b),rfl,rfl,rfl⟩
 | str x=>exact .inr ⟨λ i z=>(by cases z),_,_,_,.inl (.str x),rfl,rfl,rfl⟩
 | lst e _=>exact .inr ⟨λ i z=>(by cases z),_,_,_,.inl (.lst e),rfl,rfl,rfl⟩
 | tup e _=>exact .inr ⟨λ i z=>(by cases z),_,_,_,.inl (.tup e),rfl,rfl,rfl⟩
 | Oy e=>exact .inr ⟨λ i z=>(by cases z),_,_,_,.inl (.dK e),rfl,rfl,rfl⟩
 | Rv e _=>exact .inr ⟨λ i z=>(by cases z),_,_,_,.inl (.dK e),rfl,rfl,rfl⟩
theorem İ.Pm (r:İ H v d)(lo hi:Int):My.Pm lo hi v=ol lo hi d:=by cases r <;> rfl
theorem nW (r:İ H v (.tuple ds)):∃ a xs,v=.ref a/\H a\.tup xs/\ď H xs ds:=by
 cases r with
 | tup e t=>exact⟨_,_,rfl,e,t⟩
end
end My
namespace My
open PySem L2
structure Bx (p:Prop):Prop where
 h:p
section
variable {X:Cx}{e a b:Expr}{es:List Expr}{te ta tb:TE}{t:TA}{pos:Pos}{st:Stmt}{rest:List Stmt}{ts u v:TS}
theorem iM:Bx (PA X [] aS):=⟨aq⟩
theorem lb (ha:Bx (PE X e te))(hr:Bx (PA X es t))(hs:starEach (e::es) X.env=(false,eval e X.env)::starEach es X.env:=by rfl):Bx (PA X (e::es) (aw te t)):=⟨ae ha.h hr.h hs⟩
theorem np (h:Bx (PA X es t)):Bx (PE X (.List es pos) (iZ t)):=⟨eJ h.h⟩
theorem EB {x1}(h:Bx (PA X es t)):Bx (PE X (.Tuple es x1 pos) (iP t)):=⟨aI h.h⟩
theorem kh (h:Bx (PE X e te)):Bx (PS X (.Return (some e) pos) (cH te)):=⟨cq h.h⟩
theorem jL:Bx (ο X [] br):=⟨eM⟩
theorem bI (h:Bx (PS X st ts)):Bx (ο X [st] ts):=⟨aW h.h⟩
theorem da (h:Bx (PS X st ts))(k:Bx (ο X rest u)):Bx (ο X (st::rest) (aO ts u)):=⟨bA h.h k.h⟩
theorem tK (hc:Bx (PT X c tc))(hx:Bx (ο X x u))(hy:Bx (ο X y v)):Bx (PS X (.If c x y pos) (cE tc u v)):=⟨aT hc.h hx.h hy.h⟩
theorem nS (hN:X.N.Nodup)(hi:X.N[i]?\x)(hx:EF X.env.scope x)(he:Bx (PE X e te))(hs:swapsWith e (some (.Name x pos')) pos.line X.env=pure false:=by rfl)(hf:X.fn x=true\/X.env.scope.names.lookup x\.local:=by first | exact .inl rfl | exact .inr rfl | assumption) :
  Bx (PS X (.Assign [.Name x pos'] e pos) (bQ te (aJ i))):=⟨cB hN hi hx he.h hs hf⟩
end
end My
namespace My
open PySem PySem.W L2
open AutoSeq1 (wpAny_loadPart')
section
variable {prog:Program}{w:World}{A:Around}{E:eZ}{s:Shared}{r:Addr}{a b c:Int}{t u v:Tok}{n:Nat}
theorem lu (hh:A.handled=none)(hr:IsRange s.heap r a b c t u v)(MT:Builtin.Range.small a b c=true)(hn:Builtin.Range.rangeSize a b c=n)(Ş:n<=2^24)
  (hQ:∀ h' tk acc,(∀ b o,s.heap.get? b\o->h'.get? b\o)->ItemsOf (λ i v=>∃ t,v=.int (a+i*c) t) acc n->Q acc.toList { s with heap:=h',toks:=tk }) :
  wpAny (model prog w) A (collect (.ref r)) Q E s:=by
 refine À (wpAny_runValue (codeAny_builtin F.entry_proto_collect ?_));rw[Around.under_plainId F.plain_proto_collect _];refine À (î ?_);refine Á ⟨plainId_quiet F.plain_list_iadd _,codeAny_builtin F.entry_list_iadd ?_⟩;rw[Around.under_plainId F.plain_list_iadd _];have hS:(s.heap.push { cls:=.type "list",data:=.seq ([]:List Value).toArray }).get? s.heap.objs.size=some { cls:=.type "list",data:=.seq #[] 0 }:=Ó _ rfl;refine Ĳ (wpAny_extend_range (R:=λ x s'=>∃ h' tk acc c',x=.ok (.ret (.ref s.heap.objs.size))/\s'={ s with heap:=h',toks:=tk }/\(∀ b o,s.heap.get? b\o->h'.get? b\o)/\h'.get? s.heap.objs.size=some { cls:=.type "list",dict:=none,data:=.seq acc c',slots:=#[] }/\ItemsOf (λ i v=>∃ t,v=.int (a+i*c) t) acc n)
  hh (Ä _ hr) MT hn Ş s.heap.objs.size (.ref s.heap.objs.size) 0 hS (λ h' tk acc c' hk WF Np=>⟨h',tk,acc,c',rfl,rfl,λ b o e=>hk b o (æ (Ð e)) (Ä _ e),WF,Np⟩)) (λ fin s' h=>?_) (λ e s' h=>?_)
 ·have UM:∀ Rh,(∃ h' tk acc c',Rh={ s with heap:=h',toks:=tk }/\(∀ b o,s.heap.get? b\o->h'.get? b\o)/\h'.get? s.heap.objs.size=some { cls:=.type "list",dict:=none,data:=.seq acc c',slots:=#[] }/\ItemsOf (λ i v=>∃ t,v=.int (a+i*c) t) acc n)->wpAny (model prog w) A (match Value.ref s.heap.objs.size with
   | Value.ref a=>do
    match (<- load a).data with
     | Data.seq xs _=>pure xs.toList
     | _=>unsupported "internal:collect"
   | _=>unsupported "internal:collect") Q E Rh:=λ Rh hx=>by
   obtain⟨h',tk,acc,c',rfl,hk,WF,Np⟩:=hx;refine À (wpAny_load WF ?_);exact Á (hQ h' tk acc hk Np)
  cases fin with
  | done f =>
   obtain⟨h',tk,acc,c',e,h⟩:=h;cases e;exact UM _ ⟨h',tk,acc,c',h⟩
  | again c'=>exact⟨h.1,Φ h.2 λ x Rh hr=>by obtain⟨h',tk,acc,c',rfl,hr⟩:=hr;exact UM _ ⟨h',tk,acc,c',hr⟩⟩
 ·obtain⟨_,_,_,_,e,_⟩:=h;cases e
end
theorem fN (r:Addr)(a b c:Int)(t u v:Tok)(n:Nat)(MT:Builtin.Range.small a b c=true)(hn:Builtin.Range.rangeSize a b c=n)(Ş:n<=2^24) :
  Meets (Builtin.«tuple.__new__» ⟨[.type "tuple",.ref r],[]⟩)
   (λ A R s=>A.handled=none/\IsRange s.heap r a b c t u v/\∀(h':Heap)(tk:Nat)(acc:Array Value),(∀ b o',s.heap.get? b\o'->h'.get? b\o')->ItemsOf (λ i v=>∃ t,v=.int (a+i*c) t) acc n->R (.ok (.ret (.ref h'.objs.size))) { s with heap:=h'.push { cls:=.type "tuple",data:=.seq acc },toks:=tk }) :=
 .of_wp λ prog w A R s h=>by
  obtain⟨hh,hr,h⟩:=h;have aa0:=sub_tuple_self;have Xx:=init_tuple_lookup;have hmh:=madeHere_tuple;have hT:s.TypeIs (.ref r) "range" :=⟨_,hr,rfl⟩;have hh1:A.in1.handled=none:=hh
  wp_walk using wpAny_typeOf hT,lu hh1 hr MT hn Ş
  intro h' tk acc hk Np;show wpAny _ _ (Builtin.Tuple.tupleExact acc.toList.toArray >>= λ v=>ret v) _ _ _;refine À (î ?_ (show acc.toList.toArray.size<=sizeLine by simp only[Array.toArray_toList];rw[Np.1,è];lia))
  refine Á ⟨_,rfl,?_⟩;have e:acc.toList.toArray=acc:=by simp
  rw[e];exact h h' tk acc hk Np
theorem jo {n:Nat}(hh:A.handled=none)(hr:IsRange s.heap r a b c t u v)(MT:Builtin.Range.small a b c=true)(hn:Builtin.Range.rangeSize a b c=n)(Ş:n<=2^24)
  (h:∀(h':Heap)(tk:Nat)(acc:Array Value),(∀ b o',s.heap.get? b\o'->h'.get? b\o')->ItemsOf (λ i v=>∃ t,v=.int (a+i*c) t) acc n->Q (.ref h'.objs.size) { s with heap:=h'.push { cls:=.type "tuple",data:=.seq acc },toks:=tk }) :
  wpAny (model prog w) A (call (.type "tuple") [.ref r]) Q E s :=
 callType_new F.called_tuple av (F.typeCall_tuple_1 _) (F.newCall_tuple_1 _) (λ obj=>F.args_object_init_2 obj _) F.entry_tuple_new
  (fN r a b c t u v n MT hn Ş) ⟨hh,hr,λ h' tk acc hk Np=>⟨⟨_,Ó _ rfl,rfl⟩,h h' tk acc hk Np⟩⟩
def AF (lo:Int)(n:Nat):List V:=(List.range n).map λ i=>V.int (lo+(i:Nat))
theorem jU (lo:Int)(n:Nat):(AF lo n).length=n:=by unfold AF;simp
theorem wc {n:Nat}{acc:Array Value}(h:ItemsOf (λ i v=>∃ t,v=Value.int (lo+i*1) t) acc n):Vals (AF lo n) acc.toList:=by
 have gen:∀(xs:List V)(us:List Value),xs.length=us.length->(∀(i:Nat) x u,xs[i]?\x->us[i]?\u->RelV x u)->Vals xs us:=by
  intro xs
  induction xs with
  | nil=>intro us l _;cases us with | nil=>exact .nil | cons _ _=>cases l
  | cons x xs ih =>
   intro us l g;cases us with
   | nil=>cases l
   | cons u us=>exact .cons (g 0 x u rfl rfl) (ih us (by simpa using l) λ i x' u' h1 h2=>g (i+1) x' u' h1 h2)
 refine gen _ _ (by rw[jU];simp[h.1]) λ i x u hx hu=>?_
 unfold AF at hx;rw[Ô] at hx;obtain⟨j,hj,rfl⟩:=Û.mp hx;have ej:i=j:=by
  have:=Ú.mp hj
  simpa using this.2
 subst ej;obtain⟨t,e⟩:=h.2 i u (by simpa using hu)
 refine⟨t,?_⟩;rw[e,Int.mul_one]
section
variable {X:Cx}
def GJ:List V->Hp->VK->Prop:=λ vs H Q=>∃ j:Int,vs=[.int j]/\∀ r,H r=none->Q (.ref r) (ak H r (.SK 0 j))
theorem t9:dL X (.type "range") GJ:=by
 intro pins s σ H xs us Q I r h;obtain⟨j,rfl,q⟩:=h;obtain⟨u,rfl,t,rfl⟩:=fJ r;refine call_range_1 ⟨.ref s.heap.objs.size,_,I.laid (λ b o e=>Ä _ e) (Å _) ?_,rfl,q _ (I.Ě.fresh (Å _))⟩;exact⟨_,_,_,Ó _ rfl⟩
def Fr:List V->Hp->VK->Prop:=λ vs H Q=>∃(p:Addr)(lo hi:Int),vs=[.ref p]/\H p\.SK lo hi/\(-(2^62)<=lo/\lo<2^62/\-(2^62)<=hi/\hi<2^62)/\(hi-lo).toNat<=2^24/\∀ l,H l=none->Q (.ref l) (ak H l (.tup (AF lo (hi-lo).toNat)))
theorem ug (hc:X.calm=true):dL X (.type "tuple") Fr:=by
 intro pins s σ H xs us Q I r h;obtain⟨p,lo,hi,rfl,hp,⟨b1,b2,b3,b4⟩,hl,q⟩:=h;obtain⟨u,rfl,rx⟩:=fJ r;cases (show u=.ref p from rx);obtain⟨t,u,v,e⟩:=(show Ē X.prog X.w H s.heap p (.SK lo hi) from I.Ě p _ hp);have en:Builtin.Range.rangeSize lo hi 1=(((hi-lo).toNat:Nat):Int):=by rw[rangeSize_one];split <;> lia
 refine jo (I.ok.hd hc) e (small_one b1 b2 b3 b4) en hl λ h' tk acc kp Np=>?_;have I1:Inv X pins σ H { s with heap:=h' }:=I.kept kp
 have ha:acc.toList.toArray=acc:=by simp
 have I2:Inv X pins σ (ak H h'.objs.size (.tup (AF lo (hi-lo).toNat))) { s with heap:=h'.push { cls:=.type "tuple",data:=.seq acc },toks:=tk } :=
  I1.laid (λ b o e=>Ä _ e) (Å _) (show Ē X.prog X.w _ _ _ (.tup _) from⟨by rw[jU,è];lia,acc.toList,wc Np,by rw[ha];exact PyProof.Rows.IsTup.new _ _⟩)
 exact⟨.ref h'.objs.size,_,I2,rfl,q _ (I1.Ě.fresh (Å _))⟩
end
end My
namespace My
open PySem L2
section
variable {X:Cx}
theorem l8:∀(xs:List Bool),(List.range xs.length).all (λ i=>xs.getD i false)=xs.all id
 | []=>rfl
 | x::xs=>by
  have ih:=l8 xs;rw[à,RL,QL,List.all_map,QL,<- ih];rfl
def II (K:PySem.W.Frag):List V->Hp->VK->Prop:=λ vs H Q=>∃(l:Addr)(xs:List Bool),vs=[.ref l]/\Ğ K H l (xs.map V.bl)/\Q (.bl (xs.all id)) H
theorem w4 (hc:X.calm=true):dL X (.builtin "all") (II X.K):=by
 intro pins s σ H vs us Q I r h;obtain⟨l,xs,rfl,hl,q⟩:=h;obtain⟨u,rfl,ru⟩:=fJ r;cases (show u=Value.ref l from ru);obtain⟨its,rv,t,hz⟩:=I.list hl;have ll:l<s.heap.objs.size:=by obtain⟨_,e,_⟩:=t.isList;exact Ð e
 have len:=rv.length;rw[Ç] at len;refine call_all_walk (wpAny_pyIter_list t.isList ?_);refine⟨s.heap.objs.size,[s.heap.objs.size,l],[s.heap.objs.size],its.toArray.size,(λ i v=>its.toArray[i]?\v),_,λ i=>xs.getD i false,rfl,Walks.list (A:=X.A.in1) (I.ok.hd hc) s.heap.objs.size l (æ ll) its.toArray,
  ⟨⟨_,Ó _ rfl,rfl,rfl⟩,t.isList.push _⟩,λ i v s' Q' E' hv hq=>?_,λ h' tk hk=>⟨.bl _,H,I.kept (λ b o e=>hk b o (λ m=>?_) (Ä _ e)),?_,q⟩⟩
 ·have Vi:its[i]?\v:=by simpa using hv
  have lt:=(Ú.mp Vi).1;have Xj:i<xs.length:=ad;obtain⟨u1,e1,q1⟩:=rv.get (by rw[Ô,Ã Xj];rfl)
  rw[Vi] at e1;cases e1;cases (show v=Value.bool xs[i] from q1);refine Ņ ?_;have e:xs.getD i false=xs[i]:=by simp[Xj]
  rw[<- e];exact hq
 ·rcases Ö.mp m with e2 | m
  ·exact absurd (Ð e) (by rw[e2];exact Ĩ _)
  ·cases m
 ·show Value.bool _=Value.bool _;have e:=l8 xs;rw[<- e,ę,<- len]
end
end My
namespace My
open PySem PySem.W L2
section
variable {K:Frag}{te:TE}{tt:TT}{g:TG}{k:Nat}{cap:St}{D:Addr}{H1:Hp}{Q:Hp->Prop}{a:Addr}{xs:List V}
theorem eY (Pv:Nat->List V->Hp->Prop)(hz:xs.length<sizeLine)(h0:Pv 0 [] (ak H1 D (.lst [])))
  (hl:∀ i ys H,Pv i ys H->Ğ K H a xs)
  (hs:∀ i x ys H,xs[i]?\x->ys.length=i->H D\.lst ys->Pv i ys H->∀ os:St,os.length=k->∀ R:VK,(∀ y H4,H4 D\.lst ys->Pv (i+1) (ys ++ [y]) (ak H4 D (.lst (ys ++ [y])))->R y H4)->g x (os++cap) H λ ĩ H0=>(∃ ĵ:St,ĵ.length=k/\ĩ = ĵ ++ cap)/\te ĩ H0 R)
  (hd:∀ ys H,ys.length=xs.length->H D\.lst ys->Pv xs.length ys H->Q H) :
  ∃ W:Nat->Nat->List V->Hp->Prop,(∃ m,W 0 m [] (ak H1 D (.lst []))) /\
   ∀ i m ys H2,W i m ys H2->H2 D\.lst ys/\(((xZ K a).stop i H2/\Q H2)\/((xZ K a).go i H2/\ys.length<sizeLine /\
    ∀ x H3,(xZ K a).x_ i H2 x H3->∀ os:St,os.length=k->g x (os++cap) H3 λ ĩ H0=>(∃ ĵ:St,ĵ.length=k/\ĩ = ĵ ++ cap)/\te ĩ H0 λ y H4=>H4 D\.lst ys/\∃ m',m'<m/\W (i+1) m' (ys ++ [y]) (ak H4 D (.lst (ys ++ [y]))))):=by
 refine⟨λ i m ys H=>m=xs.length-i/\i<=xs.length/\ys.length=i/\H D\.lst ys/\Pv i ys H,⟨xs.length,by simp,Nat.zero_le _,rfl,bz,h0⟩,?_⟩
 rintro i m ys H ⟨rfl,hi,hy,hD,p⟩;refine⟨hD,?_⟩;have q:=hl i ys H p;by_cases ş:i<xs.length
 ·refine .inr ⟨⟨xs,xs[i],q,by simp[ş]⟩,ad,λ x H' y=>?_⟩
  obtain⟨e,y⟩:=y;subst e;exact λ os ų=>hs i x ys _ (y xs q) hy hD p os ų _ λ z H4 QY p4=>⟨QY,xs.length-(i+1),ad,rfl,ş,by rw[Õ,hy];rfl,bz,p4⟩
 ·have e:i=xs.length:=ad;subst e;exact .inl ⟨⟨xs,q,Å _⟩,hd ys H hy hD p⟩
end
def Au (K:PySem.W.Frag)(n:Nat)(t:EH):TG:=λ v σ H Q=>∃ a xs,v=.ref a/\Ğ K H a xs/\xs.length=n/\t xs σ H Q
section
variable {X:Cx}{pos:Pos}
theorem zx {es:List Expr}{k:Nat}{t:EH}{n:Nat}(hc:X.calm=true)(h:GK X es t)
  (hn:(assignEach es X.env).length=n:=by rfl) (M5:(assignEach es X.env).findIdx? (·.1)=none:=by rfl):PG X (.Tuple es k pos) (Au X.K n t):=by
 intro pins s σ H v u Q I r hw;obtain⟨a,xs,e1,hq,hl,hw⟩:=hw;subst e1;cases r;obtain⟨its,rv,ht,hz⟩:=I.list hq;rw[PyProof.Rows.assign_Tuple];refine À (Ĥ ?_);unfold unpack;rw[M5,show(assignEach es X.env).length=its.toArray.size by rw[hn,ę,<- rv.length];exact hl.symm]
 refine À (ĥ (kun_itemsOf (I.ok.hd hc) ht.isList λ h' hx=>?_));have I1:Inv X pins σ H { s with heap:=h' }:=I.kept (t':=s.toks) λ b o e=>hx b o (æ (Ð e)) e
 exact h pins _ σ H xs _ Q I1 (by simpa using rv) hw
end
section
variable {K:Frag}{te:TE}{g:TG}{k:Nat}{cap:St}{D:Addr}{H1:Hp}{Q:Hp->Prop}
theorem lU {lo:Int}{n:Nat}(Pv:Nat->List V->Hp->Prop)(hz:n<sizeLine)(h0:Pv 0 [] (ak H1 D (.lst [])))
  (hs:∀ i ys H,i<n->ys.length=i->H D\.lst ys->Pv i ys H->∀ os:St,os.length=k->∀ R:VK,(∀ y H4,H4 D\.lst ys->Pv (i+1) (ys ++ [y]) (ak H4 D (.lst (ys ++ [y])))->R y H4)->g (.int (lo+i)) (os++cap) H λ ĩ H0=>(∃ ĵ:St,ĵ.length=k/\ĩ = ĵ ++ cap)/\te ĩ H0 R)
  (hd:∀ ys H,ys.length=n->H D\.lst ys->Pv n ys H->Q H) :
  ∃ W:Nat->Nat->List V->Hp->Prop,(∃ m,W 0 m [] (ak H1 D (.lst []))) /\
   ∀ i m ys H2,W i m ys H2->H2 D\.lst ys/\(((zB lo n).stop i H2/\Q H2)\/((zB lo n).go i H2/\ys.length<sizeLine /\
    ∀ x H3,(zB lo n).x_ i H2 x H3->∀ os:St,os.length=k->g x (os++cap) H3 λ ĩ H0=>(∃ ĵ:St,ĵ.length=k/\ĩ = ĵ ++ cap)/\te ĩ H0 λ y H4=>H4 D\.lst ys/\∃ m',m'<m/\W (i+1) m' (ys ++ [y]) (ak H4 D (.lst (ys ++ [y]))))):=by
 refine⟨λ i m ys H=>m=n-i/\i<=n/\ys.length=i/\H D\.lst ys/\Pv i ys H,⟨n,by simp,Nat.zero_le _,rfl,bz,h0⟩,?_⟩
 rintro i m ys H ⟨rfl,hi,hy,hD,p⟩;refine⟨hD,?_⟩;by_cases ş:i<n
 ·refine .inr ⟨ş,ad,λ x H' y=>?_⟩;obtain⟨e,y⟩:=y;subst e y;exact λ os ų=>hs i ys _ ş hy hD p os ų _ λ z H4 QY p4=>⟨QY,n-(i+1),ad,rfl,ş,by rw[Õ,hy];rfl,bz,p4⟩
 ·have e:i=n:=ad;subst e;exact .inl ⟨Å _,hd ys H hy hD p⟩
end
section
variable {X:Cx}
theorem kj:∀{ns:List Int}{its:List Value},Vals (ns.map V.int) its->∃ xs:List (Int × Tok),its=xs.map (λ p=>Value.int p.1 p.2)/\ns=xs.map (·.1)
 | [],_,r=>by cases r;exact⟨[],rfl,rfl⟩
 | n::ns,_,r=>by
  rw[É] at r;cases r with
  | cons r1 r2 =>
   obtain⟨t,rfl⟩:=r1;obtain⟨xs,e1,e2⟩:=kj r2;exact⟨(n,t)::xs,by rw[e1];rfl,by rw[e2];rfl⟩
theorem uS {xs:List (Int × Tok)}(h:i<xs.length):numAt xs.toArray i=(xs.map (·.1))[i]'(by rw[Ç];exact h):=by
 simp[numAt,h]
end
structure rh (K:Frag)(mg:bD)(D:Addr)(nm fld:Str)(C f:Addr)(fd:FuncData):Prop where
 cls:a_ K D nm C f
 SQ:mg nm\.ref C
 ok:∀(P:Program)(w:World)(base:Heap),ð P w K mg base az 1 f fd ["self",fld] (pG C fld)
 bi:Binds K fd ["self",fld] []
structure Df (P:Program)(w:World)(K:Frag)(mg:bD)(base:Heap)(cx:qp)(k:Nat)(nm:Str)(ps:List Str)(sp:Sp)(g:Addr)(gd:FuncData):Prop where
 G:ð P w K mg base cx k g gd ps sp
 b:Binds K gd ps []
 kp:keepIn K (.ref g)=true
 m:mg nm\.ref g
theorem cg {X:Cx}{CX:qp}{k:Nat}{x:Str}{ps:List Str}{sp:Sp}{f:Addr}{fd:FuncData}{E:XK}{e:Expr}{es:List Expr}{t:TA}{p pos:Pos}(A:Df X.prog X.w X.K X.mg X.base CX k x ps sp f fd)(hr:Ă k X.A)(hx:dj CX X E)(ha:PA X (e::es) t)(hg:Gl X x:=by exact rfl)(No:(x==("__debug__" : Str))=false:=by decide) (he:starEach (e::es) X.env=(false,eval e X.env)::starEach es X.env:=by rfl) (M6:(backTo pos (starEach es X.env)).any (·.1)=false:=by rfl):PE X (.Call (.Name x p) (e::es) [] pos) (cV sp [] E t):=fX A.G hr hg A.m A.kp A.b .nil hx ha No he M6
theorem jB:dj (eX P w) X E0:=λ _ _ _ _ _ _ _ h=>by
 obtain⟨_,_,_,_,_,_,_,_,_,_,_,_,_,h⟩:=h;exact h.elim
def fF (C:Addr)(fld:Str)(x:V)(H:Hp)(E:XK):Prop:=∀ e dx,H e=none->H dx=none->dx≠e->E (.ref C) (some e) (ak (ak H dx (.xd [(fld,x)])) e (qK e C (some dx)))
def S0 (K:Frag)(H:Hp)(v:V)(n:String):Prop:=∃ t,Kd K H v t/\kitOne K t (.type n)\false
theorem S0.ext (h:S0 K H v n)(x:Ext H H'):S0 K H' v n:=by
 obtain⟨t,k,e⟩:=h;exact⟨t,k.ext x,e⟩
theorem gz (h:ol lo hi d=true):∃ i,d=.int i/\lo<=i/\i<=hi:=by
 cases d with
 | int i =>
  have h':(decide (lo<=i)&&decide (i<=hi))=true:=h;rw[Ĵ,ġ,ġ] at h';exact⟨i,rfl,h'.1,h'.2⟩
 | _=>cases h
def wA (bs:List Bool)(i:Nat):Prop:=(∀ j b,j<i->bs[j]?\b->b=true)/\bs[i]?\false
theorem aZ (o:HO)(x:Ext H0 H)(h:H0 l=none):Ext H0 (ak H l o):=λ b u e=>by
 rw[ai (λ z=>by rw[z,h] at e;cases e)]
 exact x b u e
theorem aC {α:Type}{xs:List α}{x:α}(h:xs[i]?\x):xs.take (i+1)=xs.take i ++ [x]:=by
 rw[List.take_succ,h];rfl
def Kept (H H':Hp)(p:Addr):Prop:=∀ b o,H b\o->b≠p->H' b\o
theorem Kept.refl (H:Hp)(p:Addr):Kept H H p:=λ _ _ h _=>h
theorem Kept.trans (x:Kept H H1 p)(y:Kept H1 H2 p):Kept H H2 p:=λ b o h n=>y b o (x b o h n) n
theorem Ext.kept (x:Ext H H')(p:Addr):Kept H H' p:=λ b o h _=>x b o h
structure Fi (k n:Nat)(d:PyData):Prop where
 sh:d.showable=true
 dp:d.depth<=k
 lv:d.leavesShort 64=true
 bk:d.bulk<=n
section
variable {K:Frag}{H:Hp}{D:bH}{σ:St}{p:Addr}
theorem AE (h:ta σ H λ x H1=>tb σ H1 λ y H2=>r x y H2 Q):bR r ta tb σ H Q:=h
theorem yH {H':Hp}{l:Addr}{o:HO}(k:Kept H H' p)(n:H l=none):Kept H (ak H' l o) p:=λ b u h nb=>by
 rw[ai (λ e=>by rw[e,n] at h;cases h)]
 exact k b u h nb
theorem aE (h:te σ H λ v H1=>u D (σ.set i (some v)) H1):aO (bQ te (aJ i)) u D σ H:=h
end
def HC (d:PyData):Prop:=∀ ds,d=.list ds->ds.length<10000
def Tg (G:Hp)(v:V):Prop:=∃ d,İ G v d/\Fi 3 30000 d/\HC d
theorem Ec (h:t σ H λ xs H1=>xs.length<=sizeLine/\∀ p,H1 p=none->Q (.ref p) (ak H1 p (.lst xs))):iZ t σ H Q:=h
section
variable {H:Hp}{De:bH}
theorem EJ {σ:St}{t u:TS}(h:t { De with nx:=u De } σ H):aO t u De σ H:=h
end
theorem jr (val:Nat->Int)(ns:List Int)(h:∀(i:Nat)(hi:i<ns.length),val i=ns[i]):∀ k,k<=ns.length->preSum val k=(ns.take k).sum
 | 0,_=>by simp[preSum]
 | k+1,hk=>by
  have ih:=jr val ns h k ad;have e:ns.take (k+1)=ns.take k ++ [ns[k]]:=aC (Ã ad);show preSum val k+val k=_;rw[ih,h k ad,e,ē];simp
section
variable {X:Cx}
def gY (K:Frag):List V->Hp->VK->Prop:=λ vs H Q=>∃(l:Addr)(ns:List Int),vs=[.ref l]/\Ğ K H l (ns.map V.int)/\Q (.int ns.sum) H
theorem bX (hc:X.calm=true):dL X (.builtin "sum") (gY X.K):=by
 intro pins s σ H xs us Q I r h;obtain⟨l,ns,rfl,hl,q⟩:=h;obtain⟨u,rfl,ru⟩:=fJ r;cases (show u=.ref l from ru);obtain⟨its,rv,p,hz⟩:=I.list hl;obtain⟨xs,rfl,rfl⟩:=kj rv;have e:(xs.map λ p=>.int p.1 p.2).toArray=intItems xs.toArray:=by simp[intItems]
 have hL:s.heap.IsList l (intItems xs.toArray):=by rw[<- e];exact p.isList
 refine sum_intListG (I.ok.hd hc) hL λ h' tk t' hk=>?_;have es:preSum (numAt xs.toArray) xs.toArray.size=(xs.map (·.1)).sum:=by
  have:=jr (numAt xs.toArray) (xs.map (·.1)) (λ i hi=>uS (by simpa using hi)) xs.toArray.size (by simp)
  rw[this,ō (by simp)]
 rw[es];exact⟨.int _,H,I.kept hk,⟨t',rfl⟩,q⟩
end
def c6 (P:Program)(w:World)(K:Frag)(mg:bD)(base:Heap)(CX:qp)(k:Nat)(m:Str)(ps:List Str)(S:Addr->Prop)(sp:Addr->Sp):Prop :=
 ∀ C,S C->PO K C/\∃ f fd,Fv K C m f/\ð P w K mg base CX k f fd ps (sp C)/\Binds K fd ps []
def dH (S:Addr->Prop)(m:Str)(sp:Addr->Sp)(E:XK)(ta:TE)(t:TA):TE:=λ σ H Q=>ta σ H λ x H1=>∃ a C dx fs,x=.ref a/\S C/\H1 a\.ins C dx fs/\fs.lookup m=none /\
 t σ H1 λ vs H2=>sp C (x::vs) H2 Q E
section
variable {X:Cx}{CX:qp}{k:Nat}{S:Addr->Prop}{ps:List Str}{sp:Addr->Sp}{E:XK}{x m:Str}{p pos Ū:Pos}{e o:Expr}{es:List Expr}{ta:TE}{t:TA}{σ:St}
theorem eV (he:PE X o ta)(M:c6 X.prog X.w X.K X.mg X.base CX k m ps S sp)(hr:Ă k X.A)(hx:dj CX X E)(ha:PA X (e::es) t)
  (M5:starEach (e::es) X.env=(false,eval e X.env)::starEach es X.env:=by rfl) (M6:(backTo pos (starEach es X.env)).any (·.1)=false:=by rfl)
  (ht:eval (.Call (.Attribute o m Ū) (e::es) [] pos) X.env=(do
   let ov <- eval o X.env
   standAt Ū.atName
   let (f,first) <- holding [ov] (getMethod ov m pl)
   callWith pos f first (backTo pos (starEach (e::es) X.env)) (backToKw pos (keywordEach [] X.env))):=by rfl) :
  PE X (.Call (.Attribute o m Ū) (e::es) [] pos) (dH S m sp E ta t):=by
 intro pins s σ H Q I h;refine Λ (bj (he pins s σ H _ I h) λ u s1 ⟨x,H1,I1,rx,a,C,dx,fs,ex,hS,ea,l,q⟩=>?_) ht;subst ex;obtain⟨c,f,fd,hm,F,hb⟩:=M C hS;obtain rfl:u=.ref a:=rx;refine kB I1 ea c hm l ?_;refine ż I.ok.mod.R9 hm.kp (bj (ha pos pins s1 σ H1 _ I1 q) λ us s2 ⟨vs,H2,I2,r,q2⟩=>⟨I2.Τ,?_⟩) M5 M6;exact nK (vs:=.ref a::vs) F hr hb .nil hx I2 (.cons rfl r) (by rw[Ľ];exact q2)
theorem dA (he:PE X o ta)(M:c6 X.prog X.w X.K X.mg X.base CX k m ps S sp)(hr:Ă k X.A)(hx:dj CX X E)
  (ht:eval (.Call (.Attribute o m Ū) [] [] pos) X.env=(do
   let ov <- eval o X.env
   standAt Ū.atName
   let (f,first) <- holding [ov] (getMethod ov m pl)
   callWith pos f first (backTo pos (starEach [] X.env)) (backToKw pos (keywordEach [] X.env))):=by rfl) :
  PE X (.Call (.Attribute o m Ū) [] [] pos) (dH S m sp E ta aS):=by
 intro pins s σ H Q I h;refine Λ (bj (he pins s σ H _ I h) λ u s1 ⟨x,H1,I1,rx,a,C,dx,fs,ex,hS,ea,l,q⟩=>?_) ht;subst ex;obtain⟨c,f,fd,hm,F,hb⟩:=M C hS;obtain rfl:u=.ref a:=rx;refine kB I1 ea c hm l ?_;exact PySem.W.callWith_K0 I1.Τ hm.kp (nK (vs:=[.ref a]) F hr hb .nil hx I1 (.cons rfl .nil) q)
end
theorem cz {H:Hp}{p:Addr}(o:HO):Kept H (ak H p o) p:=λ b u h n=>by rw[ai n];exact h
def dI:PyData->Bool
 | .tuple [.int a,.int b]=>(decide (1<=b)&&(decide (0<=a)&&decide (a<=b)))&&decide (Nat.gcd a.toNat b.toNat=1)
 | _=>false
def dE:PyData->Bool
 | .tuple [.int a,.int b]=>dI (.tuple [.int a,.int b])&&(decide (2<=b)&&decide (b<=100))
 | _=>false
def Gk (lo:Int)(n:Nat):List Int:=(List.range n).map λ k=>lo+(k:Nat)
def FV (p:List Int):PyData:=.tuple (p.map .int)
theorem EM (lo:Int)(n:Nat):AF lo n=(Gk lo n).map V.int:=by unfold AF Gk;rw[ā];rfl
theorem mK (G:Hp):∀(ns:List Int),ď G (ns.map V.int) (ns.map PyData.int)
 | []=>.nil
 | n::ns=>.cons (.int _) (mK G ns)
def AT:HO->Bool
 | .lst _=>true
 | .tup _=>true
 | .dK _=>true
 | _=>false
mutual
theorem İ.keep {G G':Hp}(s:∀ b o,G b\o->AT o=true->G' b\o):∀{v:V}{d:PyData},İ G v d->İ G' v d
 | _,_,.Ę=>.Ę
 | _,_,.bl b=>.bl b
 | _,_,.int i=>.int i
 | _,_,.str x=>.str x
 | _,_,.lst e r=>.lst (s _ _ e rfl) (ď.keep s r)
 | _,_,.tup e r=>.tup (s _ _ e rfl) (ď.keep s r)
 | _,_,.Oy e=>.Oy (s _ _ e rfl)
 | _,_,.Rv e r=>.Rv (s _ _ e rfl) (İ.keep s r)
theorem ď.keep {G G':Hp}(s:∀ b o,G b\o->AT o=true->G' b\o):∀{vs:List V}{ds:List PyData},ď G vs ds->ď G' vs ds
 | _,_,.nil=>.nil
 | _,_,.cons r t=>.cons (İ.keep s r) (ď.keep s t)
end
theorem İ.kept {H H':Hp}{x:Addr}{v:V}{d:PyData}{C dx:Addr}{fs:List (Str × V)}(r:İ H v d)(hx:H x\.ins C dx fs)(k:Kept H H' x):İ H' v d :=
 r.keep λ b o e h=>k b o e λ z=>by rw[z,hx] at e;cases e;cases h
inductive R0 where
 | split (n k:Int)
 | pairs (n a b:Int)
 | û (n a b f:Int)
def R0.ö:R0->Int
 | .split n _=>n
 | .pairs n _ _=>2*n
 | .û n _ _ _=>n
def R0.begin:R0->PyData
 | .split _ k=>.int k
 | .pairs _ _ _=>.none
 | .û _ _ _ _=>.int 0
def R0.told:R0->PyData
 | .split n k=>.tuple [.str "split",.int n,.int k]
 | .pairs n a b=>.tuple [.str "pairs",.int n,.tuple [.int a,.int b]]
 | .û n a b f=>.tuple [.str "coins",.int n,.tuple [.int a,.int b],.int f]
def R0.kind:R0->Nat
 | .split _ _=>0
 | .pairs _ _ _=>1
 | .û _ _ _ _=>2
def R0.ok:R0->Prop
 | .split n k=>1<=n/\n<=20/\0<=k/\k<=n
 | .pairs n a b=>1<=n/\n<=10/\dE (.tuple [.int a,.int b])=true
 | .û n a b f=>1<=n/\n<=20/\dE (.tuple [.int a,.int b])=true/\1<=f/\f<=20
theorem R0.Ķ {r:R0}(h:r.ok):1<=r.ö/\r.ö <= 20:=by
 cases r <;> simp only[R0.ok,R0.ö] at * <;> lia
inductive Rl where
 | one (r:R0)
def Rl.ö:Rl->Int
 | .one r=>r.ö
def Rl.begin:Rl->PyData
 | .one r=>r.begin
def Rl.told:Rl->PyData
 | .one r=>r.told
def Rl.parts:Rl->List (List Int)
 | .one r=>[Gk 0 r.ö.toNat]
def Rl.kind:Rl->Nat
 | .one r=>r.kind
def mZ (ps:List (List Int)):PyData:=.tuple (ps.map FV)
def Rl.ok:Rl->Prop
 | .one r=>r.ok
theorem Rl.Ķ:∀{t:Rl},t.ok->0<=t.ö/\t.ö <= 20
 | .one r,h=>by have:=R0.Ķ h;simp only[Rl.ö];lia
def hG:List Str:=["folk","begin","steps","told","blocks","state_ahead","state_behind"]
structure Ob (C:Addr)(H:Hp)(v:V)(fk:Int)(bg tl pt:PyData)(X:List (Str × V)->Prop):Prop where
 ex:∃ a dx fs,v=.ref a/\H a\.ins C dx fs/\fs.lookup ("size" : Str)\.int fk/\(∃ b,fs.lookup ("first_state" : Str)\b/\İ H b bg)/\(∃ m,fs.lookup ("mark" : Str)\m/\İ H m tl)/\(∃ p,fs.lookup ("parts" : Str)\p/\İ H p pt)/\(∀ m∈hG,fs.lookup m=none)/\X fs
def R0.extra (H:Hp):R0->List (Str × V)->Prop
 | .split _ _,_=>True
 | .pairs _ a b,fs=>∃ c,fs.lookup ("coin" : Str)\c/\İ H c (.tuple [.int a,.int b])
 | .û _ a b f,fs=>(∃ c,fs.lookup ("coin" : Str)\c/\İ H c (.tuple [.int a,.int b]))/\fs.lookup ("far" : Str)\.int f
def PM (C:Nat->Addr)(H:Hp)(r:R0)(v:V):Prop:=Ob (C r.kind) H v r.ö r.begin r.told (mZ [Gk 0 r.ö.toNat]) (r.extra H)
def Ru (C:Nat->Addr)(H:Hp):Rl->V->Prop
 | .one r,v=>PM C H r v
theorem Ob.mono {C:Addr}{H H':Hp}{v:V}{fk:Int}{bg tl pt:PyData}{X Y:List (Str × V)->Prop}(h:Ob C H v fk bg tl pt X)(x:Ext H H')(k:∀ fs,X fs->Y fs):Ob C H' v fk bg tl pt Y:=by
 obtain⟨a,dx,fs,rfl,ha,h1,⟨b,h2,r2⟩,⟨m,h3,r3⟩,⟨p,h4,r4⟩,h5,h6⟩:=h.ex;exact⟨a,dx,fs,rfl,x _ _ ha,h1,⟨b,h2,r2.mono x⟩,⟨m,h3,r3.mono x⟩,⟨p,h4,r4.mono x⟩,h5,k fs h6⟩
section
variable {C:Nat->Addr}{H H':Hp}
theorem PM.ext {r:R0}{v:V}(h:PM C H r v)(x:Ext H H'):PM C H' r v:=Ob.mono h x λ fs e=>by
 cases r with
 | split _ _=>trivial
 | pairs _ a b =>
  obtain⟨c,e1,e2⟩:=e;exact⟨c,e1,e2.mono x⟩
 | û _ a b f =>
  obtain⟨⟨c,e1,e2⟩,e3⟩:=e;exact⟨⟨c,e1,e2.mono x⟩,e3⟩
theorem Ru.ext {t:Rl}{v:V}(h:Ru C H t v)(x:Ext H H'):Ru C H' t v:=by
 cases t with
 | one r=>exact PM.ext h x
theorem Ru.ob {t:Rl}{v:V}(h:Ru C H t v):Ob (C t.kind) H v t.ö t.begin t.told (mZ t.parts) (λ _=>True):=by
 cases t with
 | one r=>exact Ob.mono h (Ext.refl _) λ _ _=>trivial
end
theorem R0.ŵ (r:R0):r.kind<3:=by cases r <;> simp[R0.kind]
theorem Rl.ŵ (t:Rl):t.kind<3:=by
 cases t with
 | one r=>have:=r.ŵ;show r.kind<3;lia
def gk:List Str:=["size","first_state","mark","parts","coin","far","rules","dealer"]
structure KR (K:Frag)(C:Nat->Addr)(CR:Addr):Prop where
 cls:∀ i,i<3->PO K (C i)
 no:∀ i,i<3->∀ f∈gk,ν K (C i) f
 ha:∀ i,i<3->PySem.W.findIn K (.ref (C i)) "__class__"\some (.builtin "object.__class__")
 hn:PySem.W.specialIn K (.builtin "object.__class__") "__get__"\some (.builtin "getset_descriptor.__get__")
 Qv:PySem.W.takesIn K (.builtin "object.__class__")\true
 hm:∀ i,i<3->PySem.W.mroIn K (C i) (.type "object")\true
 kk:∀ i j,i<3->j<3->kitOne K (.ref (C i)) (.ref (C j))\(i==j)
 kR:∀ i,i<3->kitOne K (.ref (C i)) (.ref CR)\true
 kl:∀ i,i<3->kitOne K (.ref (C i)) (.type "list")\false
 kt:∀ i,i<3->kitOne K (.ref (C i)) (.type "tuple")\false
 ki:∀ i,i<3->kitOne K (.ref (C i)) (.type "int")\false
 kb:∀ i,i<3->kitOne K (.ref (C i)) (.type "bool")\false
def uV (C:Nat->Addr)(c:Addr):Prop:=∃ i,i<3/\c=C i
section
variable {K:Frag}{C:Nat->Addr}{CR:Addr}{H:Hp}
theorem eR {m:Str}{sp:Addr->Sp}{E:XK}{ta:TE}{σ:St}{Q:VK}{t:Rl}{v:V}(hm:m∈hG)(h:Ru C H t v)(ht:∀ R:VK,R v H->ta σ H R)(q:sp (C t.kind) [v] H Q E):dH (uV C) m sp E ta aS σ H Q:=by
 obtain⟨a,dx,fs,rfl,ha,_,_,_,_,h5,_⟩:=h.ob.ex;exact ht _ ⟨a,C t.kind,dx,fs,rfl,⟨_,t.ŵ,rfl⟩,ha,h5 m hm,q⟩
end
end My
namespace My
open PySem PySem.W L2
def mU:V->V->Bool
 | x,.int j=>decide (1<=j)&&Pm 0 j x
 | _,_=>false
theorem vd (h:∀ i,y ≠ .int i):mU x y=false:=by
 cases y with
 | int i=>exact absurd rfl (h i)
 | _=>rfl
section
variable {P:Program}{w:World}{K:Frag}{mg:bD}{base:Heap}
abbrev qM:Stmt:=bT 10
def jO (K:Frag):Sp:=λ vs H Q _=>∃ x,vs=[x]/\Th K H x/\Q (.bl (EY x)) H
theorem JK:ag ["thing"] ["thing"] (aa qM):=aL
theorem uX (N:Bc K)(F:Ļ K "is_number" "is_number" qM f fd) (mi:mg "isinstance" = none) (m1:mg "int" = none) (m2:mg "bool" = none):ð P w K mg base az 1 f fd ["thing"] (jO K):=by
 refine F.ok JK (λ vs H Q E h=>?_) (λ cdv A outer s H vs Q E hr h=>?_)
 ·obtain⟨c,rfl,_⟩:=h;rfl
 obtain⟨x,rfl,th,q⟩:=h;refine⟨_,aW (cq (eI (ao (c8 N) rfl mi ÿ (ae (pv 0) (ae (jz rfl m1 ŕ) aq)))
  (gu (D9 (ao (c8 N) rfl mi ÿ (ae (pv 0) (ae (jz rfl m2 RG) aq))))))),?_⟩
 rcases th with⟨i,rfl⟩ | ⟨n,t,b1,b2,kd,k1,k2,z⟩
 ·exact⟨_,rfl,_,_,_,_,rfl,.inl (.int i),Ku,_,rfl,⟨_,rfl,_,_,_,_,rfl,.inl (.int i),IS,_,rfl,q⟩⟩
 ·rw[nG n] at q;refine⟨_,rfl,_,_,_,_,rfl,kd,k1,_,rfl,?_⟩;cases b1 with
  | false=>exact dW q
  | true =>
   refine fU ⟨_,rfl,_,_,_,_,rfl,kd,k2,_,rfl,?_⟩;have e:(!b2)=false:=z;rw[e];exact q
abbrev vo:Stmt:=bT 11
def gh (K:Frag):Sp:=λ vs H Q _=>∃ x lo hi,vs=[x,.int lo,.int hi]/\Th K H x/\Q (.bl (Pm lo hi x)) H
theorem Jz:ag ["thing","low","high"] ["thing","low","high"] (aa vo):=aL
theorem zG (F:Ļ K "is_whole" "is_whole" vo f fd) (G:ð P w K mg base az 1 g gd ["thing"] (jO K)) (bG:Binds K gd ["thing"] []) (kG:keepIn K (.ref g)=true) (mG:mg "is_number"\.ref g) :
  ð P w K mg base az 2 f fd ["thing","low","high"] (gh K):=by
 refine F.ok Jz (λ vs H Q E h=>?_) (λ cdv A outer s H vs Q E hr h=>?_)
 ·obtain⟨c,lo,hi,rfl,_⟩:=h;rfl
 obtain⟨x,lo,hi,rfl,th,q⟩:=h;refine⟨_,aW (cq (eI (fX G hr rfl mG kG bG .nil aj (ae (pv 0) aq)) (eI (cv qh (pv 1) (pv 0) (ax _)) (gu (cv qh (pv 0) (pv 2) (ax _)))))),?_⟩;refine⟨_,rfl,x,rfl,th,_,rfl,?_⟩;rcases th with⟨i,rfl⟩ | ⟨n,_⟩
 ·refine fU ⟨_,rfl,_,rfl,_,_,rfl,rfl,_,rfl,?_⟩;refine gO (λ c=>?_) (λ c=>?_)
  ·refine⟨_,rfl,_,rfl,_,_,rfl,rfl,?_⟩;have q':Q (.bl (decide (lo<=i)&&decide (i<=hi))) H:=q;rw[Ê (Þ c),Nx] at q';exact q'
  ·have q':Q (.bl (decide (lo<=i)&&decide (i<=hi))) H:=q;rw[Ò (λ z=>c (Ê z)),MK] at q';exact q'
 ·rw[nG n];rw[Ci n] at q;exact dW q
abbrev Eg:Stmt:=bT 15
def mj:Sp:=λ vs H Q _=>∃ a b:Nat,vs=[.int a,.int b]/\Q (.int (Nat.gcd a b)) H
theorem W6:ag ["one","other"] ["one","other"] (aa Eg):=aL
def Ko:St->Nat
 | [_,some (.int b)]=>b.toNat
 | _=>0
theorem Ea (F:Ļ K "greatest_common" "greatest_common" Eg f fd):ð P w K mg base az 1 f fd ["one","other"] mj:=by
 refine F.ok W6 (λ vs H Q E h=>?_) (λ cdv A outer s H vs Q E hr h=>?_)
 ·obtain⟨c,lo,rfl,_⟩:=h;rfl
 obtain⟨a,b,rfl,q⟩:=h;have nd:=W6.nd;refine⟨_,bA (pO .never (ay gc (pv 1) aB (ax _)) (aW (wU (i:=0) (j:=1) rfl nd rfl rfl av rfl rfl (ae (pv 1) (ae (ah eK (pv 0) (pv 1)) aq)) rfl))) (aW (cq (pv 0))),?_⟩;refine pT (λ σ H'=>H'=H/\∃ x y:Nat,σ=[some (.int x),some (.int y)]/\Nat.gcd x y=Nat.gcd a b) (λ σ _=>Ko σ) ⟨rfl,a,b,rfl,rfl⟩ ?_ ?_
 ·rintro σ H' ⟨rfl,x,y,rfl,e⟩;refine⟨_,rfl,_,_,rfl,rfl,_,rfl,?_⟩;refine gO (λ c=>?_) (λ c=>?_)
  ·have c':=Þ c;refine⟨_,rfl,_,rfl,_,rfl,_,_,rfl,rfl,c',_,_,rfl,⟨rfl,y,x%y,?_,?_⟩,?_⟩
   ·show [some (V.int y),some (V.int ((x:Int)%(y:Int)))]=_;rw[show((x:Int)%(y:Int))=((x%y:Nat):Int) from by simp]
   ·rw[<- e,Ŭ x y,Nat.gcd_rec y x,Ŭ]
   ·show((x:Int)%(y:Int)).toNat<(y:Int).toNat;have:=f_ (x:Int) c'
    lia
  ·have c':¬ (0:Int)<(y:Int):=λ z=>c (Ê z);have y0:y=0:=ad;subst y0;rw[Nat.gcd_zero_right] at e;refine⟨_,rfl,?_⟩;rw[e];exact q
 ·rintro σ H Q Q' m ⟨x,e,i,j,h1,h2,b,hb,q⟩;exact⟨x,e,i,j,h1,h2,b,hb,m _ _ q⟩
abbrev xN:Stmt:=bT 17
def qt (K:Frag):Sp:=λ vs H Q _=>∃ x y,vs=[x,y]/\Th K H x/\Th K H y/\Q (.bl (mU x y)) H
theorem JL:ag ["top","bottom"] ["top","bottom"] (aa xN):=aL
theorem yU (F:Ļ K "is_part" "is_part" xN f fd) (G:ð P w K mg base az 1 g gd ["thing"] (jO K)) (bG:Binds K gd ["thing"] []) (kG:keepIn K (.ref g)=true) (mG:mg "is_number"\.ref g)
  (W:ð P w K mg base az 2 k kd ["thing","low","high"] (gh K)) (bW:Binds K kd ["thing","low","high"] []) (kW:keepIn K (.ref k)=true) (mW:mg "is_whole"\.ref k):ð P w K mg base az 3 f fd ["top","bottom"] (qt K):=by
 refine F.ok JL (λ vs H Q E h=>?_) (λ cdv A outer s H vs Q E hr h=>?_)
 ·obtain⟨x,y,rfl,_⟩:=h;rfl
 obtain⟨x,y,rfl,tx,ty,q⟩:=h;have Ń:=hr.mono (show 1<=2 by decide)
 refine⟨_,aW (cq (eI (fX G Ń rfl mG kG bG .nil aj (ae (pv 1) aq)) (eI (cv lP (pv 1) aB (ax _)) (gu (fX W hr rfl mW kW bW .nil aj (ae (pv 0) (ae aB (ae (pv 1) aq)))))))),?_⟩;refine⟨_,rfl,y,rfl,ty,_,rfl,?_⟩;rcases ty with⟨j,rfl⟩ | ⟨n,_⟩
 ·refine fU ⟨_,rfl,_,_,rfl,rfl,_,rfl,?_⟩;have q':Q (.bl (decide (1<=j)&&Pm 0 j x)) H:=q;refine gO (λ c=>?_) (λ c=>?_)
  ·rw[Ê (Þ c),Nx] at q';exact⟨_,rfl,_,rfl,x,0,j,rfl,tx,q'⟩
  ·rw[Ò (λ z=>c (Ê z)),MK] at q';exact q'
 ·rw[nG n];rw[vd n] at q;exact dW q
abbrev Cj:Stmt:=bT 19
def AH:Sp:=λ vs H Q _=>∃ x d,vs=[x]/\İ H x d/\Q (.bl (dI d)) H
theorem Rf:ag ["thing","top","bottom"] ["thing"] (aa Cj):=aL
theorem qD (r1:İ H u d1)(r2:İ H v d2):mU u v=false->dI (.tuple [d1,d2])=false:=by
 intro h;cases r1 with
 | int i =>
  cases r2 with
  | int j =>
   have h':(decide (1<=j)&&(decide (0<=i)&&decide (i<=j)))=false:=h;show((decide (1<=j)&&(decide (0<=i)&&decide (i<=j)))&&_)=false;rw[h'];rfl
  | _=>rfl
 | _=>cases r2 <;> rfl
theorem w5 (h:mU x y=true):∃ a b:Nat,x=.int a/\y=.int b/\1<=b/\a<=b:=by
 cases y with
 | int j =>
  have h':(decide (1<=j)&&Pm 0 j x)=true:=h;rw[Ĵ,ġ] at h';obtain⟨h1,h2⟩:=h';cases x with
  | int i =>
   have h3:(decide (0<=i)&&decide (i<=j))=true:=h2;rw[Ĵ,ġ,ġ] at h3;refine⟨i.toNat,j.toNat,?_,?_,ad,ad⟩
   ·congr 1;lia
   ·congr 1;lia
  | _=>cases h2
 | _=>cases h
theorem CI (N:Bc K)(F:Ļ K "is_share" "is_share" Cj f fd) (A1:Df P w K mg base az 3 "is_part" ["top","bottom"] (qt K) a1 d1) (A2:Df P w K mg base az 1 "greatest_common" ["one","other"] mj a2 d2)
  (mi:mg "isinstance" = none) (mt:mg "tuple" = none) (ml:mg "len" = none):ð P w K mg base az 4 f fd ["thing"] AH:=by
 refine F.ok Rf (λ vs H Q E h=>?_) (λ cdv A outer s H vs Q E hr h=>?_)
 ·obtain⟨v,d,rfl,_⟩:=h;rfl
 obtain⟨v,d,rfl,rd,q⟩:=h;have nd:=Rf.nd;have Ń:Ă 1 _:=hr.mono av;refine⟨_,bA (aT (PW.pt (mw (cA (bO (ao (c8 N) rfl mi ÿ (ae (pv 0) (ae (jz rfl mt B_) aq))))) (jc (ay mv (ao aY rfl ml ě (ae (pv 0) aq)) aB (ax _))))) (aW (cq yu)) eM)
  (bA (hI (pv 0) (bq rfl (cL (bK (i:=1) nd rfl (Or.inl rfl)) (cL (bK (i:=2) nd rfl (Or.inl rfl)) aR))))
  (aW (cq (eI (cg A1 hr aj (ae (pv 1) (ae (pv 2) aq))) (gu (cv iO (cg A2 Ń aj (ae (pv 1) (ae (pv 2) aq))) aB (ax _))))))),?_⟩
 refine⟨_,rfl,_,_,_,_,rfl,rd.kd,rd.Xo,_,rfl,?_⟩;cases e:E4 d with
 | false =>
  refine fU (fU ?_);have z:dI d=false:=by cases d <;> first | rfl | cases e
  rw[z] at q;exact q
 | true =>
  obtain⟨ds,rfl⟩:∃ ds,d=.tuple ds:=by cases d <;> first | exact⟨_,rfl⟩ | cases e
  obtain⟨a,xs,rfl,ha,rs⟩:=nW rd;refine dW ⟨_,rfl,a,_,rfl,.inr (Ĭ.of ha),rfl,_,rfl,?_⟩;have len:=rs.length;by_cases l2:xs.length=2
  ·obtain⟨u,v,rfl⟩:∃ u v,xs=[u,v]:=by
    match xs,l2 with
    | [u,v],_=>exact⟨u,v,rfl⟩
   cases rs with
   | cons r1 rs =>
    cases rs with
    | cons r2 rs =>
     cases rs;refine dW ⟨_,rfl,a,_,rfl,Ĭ.of ha,rfl,_,_,rfl,_,_,rfl,rfl,?_⟩;refine⟨_,rfl,_,rfl,u,v,rfl,r1.th,r2.th,_,rfl,?_⟩;cases pv:mU u v with
     | false =>
      rw[qD r1 r2 pv] at q;exact dW q
     | true =>
      obtain⟨x,y,rfl,rfl,y1,xy⟩:=w5 pv;cases r1;cases r2;refine fU ⟨_,rfl,_,rfl,x,y,rfl,rfl,?_⟩;have q':Q (.bl ((decide ((1:Int)<=(y:Int))&&(decide ((0:Int)<=(x:Int))&&decide ((x:Int)<=(y:Int))))&&decide (Nat.gcd (x:Int).toNat (y:Int).toNat=1))) H:=q;rw[Ê (show(1:Int)<=(y:Int) by lia),Ê (show(0:Int)<=(x:Int) by lia),Ê (show(x:Int)<=(y:Int) by lia),Ü,Ü,Bool.and_self,Bool.and_self,Nx] at q'
      have ee:decide (V.int ((Nat.gcd x y:Nat):Int)=.int 1)=decide (Nat.gcd x y=1):=by
       by_cases g:Nat.gcd x y=1
       ·rw[Ê g,g];rfl
       ·rw[Ò g,Ò];intro z;injection z with z
        lia
      rw[ee];exact q'
  ·have e1:(!decide (V.int (xs.length:Nat)=.int 2))=true:=by
    rw[Ò]
    ·rfl
    ·intro h;injection h with h
     lia
   rw[e1];refine fU ?_;have z:dI (.tuple ds)=false:=by
    match ds,len,l2 with
    | [],_,_=>rfl
    | [_],_,_=>simp[dI]
    | [_,_],l,n=>exact absurd l n
    | _::_::_::_,_,_=>simp[dI]
   rw[z] at q;exact q
abbrev Iw:Stmt:=bT 30
def zQ (CN:Addr):Sp:=λ vs H Q E=>∃ x d lo hi,vs=[x,.int lo,.int hi]/\İ H x d/\(ol lo hi d=true->Q .Ę H)/\(ol lo hi d=false->fF CN "found" x H E)
theorem IP:ag ["thing","low","high"] ["thing","low","high"] (aa Iw):=aL
theorem G0 (F:Ļ K "need_number" "need_number" Iw f fd) (B:Α K D) (T:rh K mg D "NoNumber" "found" CN fC Q1) (A1:Df P w K mg base az 2 "is_whole" ["thing","low","high"] (gh K) a1 d1):ð P w K mg base (eX P w) 3 f fd ["thing","low","high"] (zQ CN):=by
 refine ng F IP λ cdv A outer s H vs Q E hr h=>?_;obtain⟨x,d,lo,hi,rfl,rd,q1,q2⟩:=h;refine⟨_,aW (aT (cA (bO (cg A1 hr aj (ae (pv 0) (ae (pv 1) (ae (pv 2) aq)))))) (aW (eT B T.cls (T.ok P w base) hr T.bi rfl T.SQ (pv 0))) eM),?_⟩;refine⟨_,rfl,_,rfl,_,rfl,x,lo,hi,rfl,rd.th,_,rfl,?_⟩;rw[rd.Pm];cases e:ol lo hi d with
 | true=>exact dW (q1 e)
 | false=>exact fU ⟨_,rfl,λ e' dx h1 h2 nd=>kF nd (q2 e e' dx h1 h2 nd)⟩
abbrev K0:Stmt:=bT 31
def BT (CS:Addr):Sp:=λ vs H Q E=>∃ x d,vs=[x]/\İ H x d/\(dE d=true->Q .Ę H)/\(dE d=false->fF CS "found" x H E)
theorem Ju:ag ["thing"] ["thing"] (aa K0):=aL
theorem pN (h:dI d=true):∃ a b,d=.tuple [.int a,.int b]:=by
 match d,h with
 | .tuple [.int a,.int b],_=>exact⟨a,b,rfl⟩
theorem GY (F:Ļ K "need_coin" "need_coin" K0 f fd) (B:Α K D) (T:rh K mg D "NoShare" "found" CS fC Q1) (A1:Df P w K mg base az 2 "is_whole" ["thing","low","high"] (gh K) a1 d1) (A2:Df P w K mg base az 4 "is_share" ["thing"] AH a2 d2) (mB:mg "MOST_BOTTOM"\.int 100 t) :
  ð P w K mg base (eX P w) 5 f fd ["thing"] (BT CS):=by
 refine ng F Ju λ cdv A outer s H vs Q E hr h=>?_;obtain⟨x,d,rfl,rd,q1,q2⟩:=h;have O6:Ă 2 _:=hr.mono av;refine⟨_,aW (aT (PW.pt (mw (cA (bO (cg A2 hr aj (ae (pv 0) aq)))) (jc (cA (bO (cg A1 O6 aj (ae (c5 dR (pv 0) aB) (ae aB (ae (be (v:=.int 100) rfl mB ⟨_,rfl⟩) aq)))))))))
  (aW (eT B T.cls (T.ok P w base) O6 T.bi rfl T.SQ (pv 0))) eM),?_⟩
 refine⟨_,rfl,x,d,rfl,rd,_,rfl,?_⟩;cases e:dI d with
 | false =>
  have z:dE d=false:=by
   match d,e with
   | .tuple [.int a,.int b],e=>show(dI (.tuple [.int a,.int b])&&_)=false;rw[e];rfl
   | .none,_ | .bool _,_ | .int _,_ | .str _,_ | .list _,_ | .dict _,_=>rfl
   | .tuple [],_=>rfl
   | .tuple [_],_=>simp[dE]
   | .tuple (_::_::_::_),_=>simp[dE]
   | .tuple [.int _,.none],_ | .tuple [.int _,.bool _],_ | .tuple [.int _,.str _],_ | .tuple [.int _,.list _],_ | .tuple [.int _,.tuple _],_ | .tuple [.int _,.dict _],_=>rfl
   | .tuple [.none,_],_ | .tuple [.bool _,_],_ | .tuple [.str _,_],_ | .tuple [.list _,_],_ | .tuple [.tuple _,_],_ | .tuple [.dict _,_],_=>rfl
  exact fU (fU ⟨_,rfl,λ e' dx h1 h2 nd=>kF nd (q2 z e' dx h1 h2 nd)⟩)
 | true =>
  obtain⟨a,b,rfl⟩:=pN e;obtain⟨p,xs,rfl,hp,rs⟩:=nW rd;cases rs with
  | cons r1 rs =>
   cases rs with
   | cons r2 rs =>
    cases rs;cases r1;cases r2;refine dW ⟨_,rfl,p,_,_,_,rfl,rfl,Ĭ.of hp,qF rfl,_,2,100,rfl,.inl ⟨b,rfl⟩,_,rfl,?_⟩;have ec:dE (.tuple [.int a,.int b])=Pm 2 100 (.int b):=by
     show(dI (.tuple [.int a,.int b])&&(decide (2<=b)&&decide (b<=100)))=_;rw[e,Nx];rfl
    cases z:Pm 2 100 (.int b) with
    | true=>exact dW (q1 (by rw[ec,z]))
    | false=>exact fU ⟨_,rfl,λ e' dx h1 h2 nd=>kF nd (q2 (by rw[ec,z]) e' dx h1 h2 nd)⟩
abbrev KM:Stmt:=bT 32
def Ai:Sp:=λ vs H Q _=>∃ i:Int,vs=[.int i]/\0<=i/\i<=20/\∀ l H',Ext H H'->İ H' (.ref l) (mZ [Gk 0 i.toNat])->Q (.ref l) H'
theorem Je:ag ["folk"] ["folk"] (aa KM):=aL
theorem FC (F:Ļ K "one_part" "one_part" KM f fd) (mt:mg "tuple" = none) (mr:mg "range" = none):ð P w K mg base az 1 f fd ["folk"] Ai:=by
 refine cj F Je λ cdv A outer s H vs Q E hr h=>?_;obtain⟨i,rfl,h1,h2,q⟩:=h;refine⟨_,aW (cq (aI (ae (cT (ug rfl) rfl mt B_ (ae (cT t9 rfl mr PyProof.Rows.boot_range (ae (pv 0) aq)) aq)) aq))),?_⟩;refine⟨_,rfl,i,rfl,λ r hr=>⟨r,0,i,rfl,bz,⟨ad,ad,ad,ad⟩,ad,λ l hl=>⟨er,λ m hm=>?_⟩⟩⟩;have x2:=Ext.new (o:=.tup [.ref l]) hm;refine q m _ (((Ext.new hr).trans (.new hl)).trans x2) (.tup bz (.cons (.tup (x2 _ _ bz) ?_) .nil));rw[Int.sub_zero,EM];exact mK _ _
end
theorem jY:∀{names:List (Str × NameKind)},(∀ y∈names,y.2 ≠ .cell)->∀(n:Nat) acc,cellsFrom n names acc=acc
 | [],_,_,_=>rfl
 | (x,k)::r,h,n,acc=>by
  unfold cellsFrom;rw[Æ (by simpa using h (x,k) (List.mem_cons_self ..))]
  exact jY (λ y m=>h y (Ì _ m)) n acc
theorem mJ:∀{cl:List (Str × Addr)}{z:Str},z∈cl.map (·.1)->∃ c,cl.lookup z\c
 | (x,d)::cl,z,h=>by
  by_cases e:z=x
  ·subst e;exact⟨d,fj⟩
  ·rw[É,Ö] at h;rcases h with h | h
   ·exact absurd h e
   ·obtain⟨c,hc⟩:=mJ h;exact⟨c,zL e hc⟩
theorem dk {X:Cx}{sc:Scope}{cl:List (Str × Addr)}{ts zs:List Str}{js:List Nat}{M:List Str}{L:List (Str × NameKind)}(OR:closureFor sc X.env=pure cl)(kind:sc.kind=.function)(nc:∀ y∈sc.names,y.2 ≠ .cell)(nm:∀ y∈sc.names,y.2=.local->sc.names.lookup y.1\.local)(var:∀ x∈ts,sc.names.lookup x\.local)
  (hM:cl.map (·.1)=M) (hc:cl.map (λ y=>X.env.cells.lookup y.1)=cl.map (λ y=>some y.2)) (rl:(relabel sc X.env).names=L) (has:∀ y∈L,(y.2=.cell\/y.2=.free)->y.1∈M) (nd:(ts++zs).Nodup)
  (hj:zs.map some=js.map (λ j=>X.N[j]?)) (hv:zs.map (λ z=>X.env.scope.names.lookup z)=zs.map (λ _=>some .cell)) (hl:zs.map (λ z=>L.lookup z)=zs.map (λ _=>some .cell)):cJ X sc cl ts zs js:=by
 have ln:js.length=zs.length:=by have:=ý List.length hj;simpa using this.symm
 refine⟨OR,kind,(λ C=>jY nc C _),nm,(λ _ z=>nomatch z),λ z c h=>?_,λ z h=>.inr ?_,nd,λ k z h=>?_,ln⟩
 ·obtain⟨i,hi,e⟩:=Nc (ô h);have q:=ý (λ l=>l[i]?) hc;simp only[List.getElem?_map,List.getElem?_eq_getElem hi,e,Option.map_some] at q;exact á q
 ·rw[rl] at h;refine mJ ?_;rw[hM];rcases h with h | h
  ·exact has _ (ô h) (.inl rfl)
  ·exact has _ (ô h) (.inr rfl)
 ·have hk:k<zs.length:=(Ú.mp h).1;have OA:k<js.length:=by rw[ln];exact hk
  have q:=ý (λ l=>l[k]?) hj;simp only[List.getElem?_map,h,List.getElem?_eq_getElem OA,Option.map_some] at q;have v:=ý (λ l=>l[k]?) hv;simp only[List.getElem?_map,h,Option.map_some] at v;have u:=ý (λ l=>l[k]?) hl;simp only[List.getElem?_map,h,Option.map_some] at u;have v':X.env.scope.names.lookup z\.cell:=á v;refine⟨js[k],Ã OA,(á q).symm,.inr (.inl v'),λ e=>?_,.inl (by rw[rl];exact á u)⟩
  have e':X.env.scope.names.lookup z\.local:=e;rw[v'] at e';cases e'
theorem yc {X:Cx}{sc:Scope}{ts:List Str}{z0:Str}{c0:Addr}{j:Nat}{L:List (Str × NameKind)}(OR:closureFor sc X.env=pure [(z0,c0)])(kind:sc.kind=.function)(nc:∀ y∈sc.names,y.2 ≠ .cell)(nm:∀ y∈sc.names,y.2=.local->sc.names.lookup y.1\.local)(var:∀ x∈ts,sc.names.lookup x\.local)
  (hc:X.env.cells.lookup z0\c0) (rl:(relabel sc X.env).names=L) (has:∀ y∈L,(y.2=.cell\/y.2=.free)->y.1=z0) (nd:(ts ++ [z0]).Nodup) (hj:X.N[j]?\z0) (ZO:GH X.env.scope z0) (nl:X.env.kindOf z0≠some .local) (cf:L.lookup z0\.cell\/L.lookup z0\.free):cJ X sc [(z0,c0)] ts [z0] [j]:=by
 refine⟨OR,kind,(λ C=>jY nc C _),nm,(λ _ z=>nomatch z),λ z c h=>?_,λ z h=>.inr ?_,nd,λ k z h=>?_,rfl⟩
 ·rw[Į] at h;cases e:z==z0 with
  | true=>rw[e] at h;cases h;rw[þ.mp e];exact hc
  | false=>rw[e] at h;cases h
 ·rw[rl] at h;have:z=z0:=by
   rcases h with h | h
   ·exact has _ (ô h) (.inl rfl)
   ·exact has _ (ô h) (.inr rfl)
  subst this;exact⟨c0,fj⟩
 ·match k,h with
  | 0,h =>
   cases (show some z0\z from h);exact⟨j,rfl,hj,ZO,nl,by rw[rl];exact cf⟩
  | k+1,h=>simp at h
theorem rK {X:Cx}{sc:Scope}{ts:List Str}{L:List (Str × NameKind)}(OR:closureFor sc X.env=pure [])(kind:sc.kind=.function)(nc:∀ y∈sc.names,y.2 ≠ .cell)(nm:∀ y∈sc.names,y.2=.local->sc.names.lookup y.1\.local)(var:∀ x∈ts,sc.names.lookup x\.local)
  (rl:(relabel sc X.env).names=L) (has:∀ y∈L,¬(y.2=.cell\/y.2=.free)) (nd:(ts ++ []).Nodup):cJ X sc [] ts [] [] :=
 dk (M:=[]) OR kind nc nm var rfl rfl rl (λ y h e=>absurd e (has y h)) nd rfl rfl rfl
section
variable {P:Program}{w:World}{K:Frag}{mg:bD}{base:Heap}{C:Nat->Addr}{CR:Addr}
abbrev B7:Stmt:=bn (bT 34) 0
abbrev BA:Stmt:=bn (bT 34) 1
abbrev DW:Stmt:=bn (bT 34) 2
def gN (v1 v2 v3 v4:V)(fs:List (Str × V)):List (Str × V):=cu "parts" v4 (cu "mark" v3 (cu "first_state" v2 (cu "size" v1 fs)))
def tE (C:Nat->Addr):Sp:=λ vs H Q _=>∃ x v1 v2 v3 v4 i dx fs,vs=[.ref x,v1,v2,v3,v4]/\i<3/\H x\.ins (C i) dx fs/\fs.length<=5/\Q .Ę (ak H x (.ins (C i) dx (gN v1 v2 v3 v4 fs)))
theorem FM:ag ["self","size","first_state","mark","parts"] ["self","size","first_state","mark","parts"] (aa B7):=aL
theorem iB (f:Str)(v:V):∀ fs:List (Str × V),(cu f v fs).length<=fs.length+1
 | []=>Å _
 | (g,x)::r=>by
  have:=iB f v r;show(if g=f then(g,v)::r else(g,x)::cu f v r).length<=_
  split <;> simp only[List.length_cons] <;> lia
theorem D5 (Z:KR K C CR)(F:Ļ K "__init__" "Rule.__init__" B7 f fd):ð P w K mg base az 1 f fd ["self","size","first_state","mark","parts"] (tE C):=by
 refine cj F FM λ cdv A outer s H vs Q E hr h=>?_;obtain⟨x,v1,v2,v3,v4,i,dx,fs,rfl,hi,hx,l5,q⟩:=h;refine⟨_,bA (gf (pv 0) (pv 1) rfl) (bA (gf (pv 0) (pv 2) rfl) (bA (gf (pv 0) (pv 3) rfl) (aW (gf (pv 0) (pv 4) rfl)))),?_⟩;have c:=Z.cls i hi;have n:=Z.no i hi;have k1:=iB "size" v1 fs;have k2:=iB "first_state" v2 (cu "size" v1 fs);have k3:=iB "mark" v3 (cu "first_state" v2 (cu "size" v1 fs));refine⟨_,rfl,_,rfl,x,C i,dx,fs,rfl,hx,c,n _ aF,ad,?_⟩;refine⟨_,rfl,_,rfl,x,C i,dx,_,rfl,bz,c,n _ aF,ad,?_⟩;rw[iE];refine⟨_,rfl,_,rfl,x,C i,dx,_,rfl,bz,c,n _ aF,ad,?_⟩;rw[iE];refine⟨_,rfl,_,rfl,x,C i,dx,_,rfl,bz,c,n _ aF,ad,?_⟩;rw[iE];exact q
def jV (C:Nat->Addr):Sp:=λ vs H Q _=>∃ v t,vs=[v]/\Ru C H t v/\Q (.int t.ö) H
theorem HQ:ag ["self"] ["self"] (aa BA):=aL
theorem Bn (Z:KR K C CR)(F:Ļ K "folk" "Rule.folk" BA f fd):ð P w K mg base az 1 f fd ["self"] (jV C):=by
 refine cj F HQ λ cdv A outer s H vs Q E hr h=>?_;obtain⟨v,t,rfl,ru,q⟩:=h;obtain⟨a,dx,fs,rfl,ha,h1,_⟩:=ru.ob.ex;exact⟨_,aW (cq (Eb (pv 0) rfl)),_,rfl,a,_,dx,fs,_,rfl,ha,Z.cls _ t.ŵ,Z.no _ t.ŵ _ aF,h1,q⟩
def ir (C:Nat->Addr):Sp:=λ vs H Q _=>∃ v t G,vs=[v]/\Ext G H/\Ru C G t v/\∀ b,İ G b t.begin->Q b H
theorem Gb:ag ["self"] ["self"] (aa DW):=aL
theorem BL (Z:KR K C CR)(F:Ļ K "begin" "Rule.begin" DW f fd):ð P w K mg base az 1 f fd ["self"] (ir C):=by
 refine cj F Gb λ cdv A outer s H vs Q E hr h=>?_;obtain⟨v,t,G,rfl,xG,ru,q⟩:=h;obtain⟨a,dx,fs,rfl,ha,_,⟨b,h2,r2⟩,_⟩:=ru.ob.ex;exact⟨_,aW (cq (Eb (pv 0) rfl)),_,rfl,a,_,dx,fs,_,rfl,xG _ _ ha,Z.cls _ t.ŵ,Z.no _ t.ŵ _ aF,h2,q b r2⟩
end
structure Ms (P:Program)(w:World)(K:Frag)(mg:bD)(base:Heap)(C:Nat->Addr):Prop where
 ö:c6 P w K mg base az 1 "folk" ["self"] (uV C) (λ _=>jV C)
 begin:c6 P w K mg base az 1 "begin" ["self"] (uV C) (λ _=>ir C)
theorem cF:(cu f v fs).lookup g=if g=f then some v else fs.lookup g:=fZ f g v fs
section
variable {v1 v2 v3 v4:V}{fs:List (Str × V)}
theorem uB:(gN v1 v2 v3 v4 fs).lookup ("size" : Str)\v1:=by
 unfold gN;rw[cF,Æ aF,cF,Æ aF,cF,Æ aF,cF,Ë rfl]
theorem vH:(gN v1 v2 v3 v4 fs).lookup ("first_state" : Str)\v2:=by
 unfold gN;rw[cF,Æ aF,cF,Æ aF,cF,Ë rfl]
theorem ur:(gN v1 v2 v3 v4 fs).lookup ("mark" : Str)\v3:=by
 unfold gN;rw[cF,Æ aF,cF,Ë rfl]
theorem rM:(gN v1 v2 v3 v4 fs).lookup ("parts" : Str)\v4:=by
 unfold gN;rw[cF,Ë rfl]
theorem fh {g:Str}(h:g ≠ "size" /\ g ≠ "first_state" /\ g ≠ "mark" /\ g ≠ "parts"):(gN v1 v2 v3 v4 fs).lookup g=fs.lookup g:=by
 unfold gN;rw[cF,Æ h.2.2.2,cF,Æ h.2.2.1,cF,Æ h.2.1,cF,Æ h.1]
theorem wN {g:Str}(h:g∈hG):g ≠ "size" /\ g ≠ "first_state" /\ g ≠ "mark" /\ g ≠ "parts" := by
 have:∀ g∈hG,g ≠ "size" /\ g ≠ "first_state" /\ g ≠ "mark" /\ g ≠ "parts" := aF;exact this g h
theorem Dj {g:Str}{ns:List Str}(h:g∈hG)(hn:∀ n∈fs.map (·.1),n∈gk):fs.lookup g=none:=by
 have nf:∀ g∈hG,∀ n∈gk,g≠n:=aF;cases e:fs.lookup g with
 | none=>rfl
 | some v =>
  exfalso;have:∀(l:List (Str × V)),l.lookup g\v->g∈l.map (·.1):=by
   intro l
   induction l with
   | nil=>intro h;cases h
   | cons y l ih =>
    intro h;obtain⟨k,x⟩:=y;rw[Į] at h;cases e:g==k with
    | true=>rw[þ.mp e];exact Ï ..
    | false=>rw[e] at h;exact Ì _ (ih h)
  exact nf g h g (hn g (this fs e)) rfl
theorem ny {Cl a dx:Addr}{H:Hp}{fk:Int}{bg tl pt:PyData}{X:List (Str × V)->Prop}(ha:H a\.ins Cl dx (gN (.int fk) v2 v3 v4 fs))(r2:İ H v2 bg)(r3:İ H v3 tl)(r4:İ H v4 pt)(hn:∀ n∈fs.map (·.1),n∈gk)(hx:X (gN (.int fk) v2 v3 v4 fs)):Ob Cl H (.ref a) fk bg tl pt X :=
 ⟨a,dx,_,rfl,ha,uB,⟨_,vH,r2⟩,⟨_,ur,r3⟩,⟨_,rM,r4⟩,λ m hm=>by rw[fh (wN hm)];exact Dj (ns:=[]) hm hn,hx⟩
end
section
variable {P:Program}{w:World}{K:Frag}{mg:bD}{base:Heap}{C:Nat->Addr}{CR CN CS:Addr}
abbrev DA:Stmt:=bn (bT 35) 0
abbrev Ej:Stmt:=bn (bT 36) 0
abbrev Cm:Stmt:=bn (bT 37) 0
def p8 (C:Nat->Addr)(CN:Addr):Sp:=λ vs H Q E=>∃ x u1 u2 d1 d2 dx,vs=[.ref x,u1,u2]/\H x\.ins (C 0) dx []/\İ H u1 d1/\İ H u2 d2/\(ol 1 20 d1=false->fF CN "found" u1 H E)/\(∀ n,d1=.int n->1<=n->n<=20->ol 0 n d2=false->fF CN "found" u2 H E) /\
 ∀ n k,d1=.int n->d2=.int k->(R0.split n k).ok->∀ H',Kept H H' x->PM C H' (.split n k) (.ref x)->Q .Ę H'
theorem Fu:ag ["self","folk","ones"] ["self","folk","ones"] (aa DA):=aL
variable {S g a1 a2 a3:Addr}{gd d1 d2 d3:FuncData}{t:Tok}
theorem DK (F:Ļ K "__init__" "Split.__init__" DA f fd) (Cf:kO K S "__init__" g) (G:ð P w K mg base az 1 g gd ["self","size","first_state","mark","parts"] (tE C)) (bG:Binds K gd ["self","size","first_state","mark","parts"] []) (mS:mg "Rule"\.ref S)
  (A1:Df P w K mg base (eX P w) 3 "need_number" ["thing","low","high"] (zQ CN) a1 d1) (A2:Df P w K mg base az 1 "one_part" ["folk"] Ai a2 d2) (mF:mg "MOST_FOLK"\.int 20 t):ð P w K mg base (eX P w) 4 f fd ["self","folk","ones"] (p8 C CN):=by
 refine ng F Fu λ cdv A outer s H vs Q E hr h=>?_;obtain⟨x,u1,u2,e1,e2,dx,rfl,hx,r1,r2,q1,q2,q⟩:=h;have Ń:Ă 1 _:=hr.mono av;refine⟨_,bA (aG (cg A1 hr eN (ae (pv 1) (ae aB (ae (be (v:=.int 20) rfl mF ⟨_,rfl⟩) aq))))) (bA (aG (cg A1 hr eN (ae (pv 2) (ae aB (ae (pv 1) aq)))))
  (aW (aG (ft Cf G Ń rfl mS bG .nil aj (ae (pv 0) (ae (pv 1) (ae (pv 2) (ae (aI (ae lY (ae (pv 1) (ae (pv 2) aq)))) (ae (cg A2 Ń aj (ae (pv 1) aq)) aq))))))))),?_⟩
 refine⟨_,rfl,u1,e1,1,20,rfl,r1,λ h1=>?_,λ h1=>q1 h1⟩;obtain⟨n,rfl,n1,E_⟩:=gz h1;cases r1;refine⟨_,rfl,_,rfl,u2,e2,0,n,rfl,r2,λ h2=>?_,λ h2=>q2 n rfl n1 E_ h2⟩;obtain⟨k,rfl,k0,kn⟩:=gz h2;cases r2;refine⟨_,rfl,_,rfl,_,rfl,_,rfl,_,rfl,er,λ m hm=>⟨_,rfl,n,rfl,ad,E_,λ l H2 x2 rl=>?_⟩⟩;have xm:=Ext.new (o:=.tup [.str "split",.int n,.int k]) hm;have J':=xm.trans x2;have QT:=x2 _ _ (show ak H m (.tup [.str "split",.int n,.int k]) m=_ from bz);have Pn:=J' _ _ hx;refine⟨x,_,_,_,_,0,dx,[],rfl,av,Pn,av,q n k rfl rfl ⟨n1,E_,k0,kn⟩ _ ((J'.kept x).trans (cz _)) ?_⟩;have kk:Kept H2 (ak H2 x (.ins (C 0) dx (gN (.int n) (.int k) (.ref m) (.ref l) []))) x:=cz _;exact ny bz (.int _) ((İ.tup QT (.cons (.str _) (.cons (.int _) (.cons (.int _) .nil)))).kept Pn kk) (rl.kept Pn kk) (by simp) trivial
def rQ (C:Nat->Addr)(CN CS:Addr):Sp:=λ vs H Q E=>∃ x u1 u2 d1 d2 dx,vs=[.ref x,u1,u2]/\H x\.ins (C 1) dx []/\İ H u1 d1/\İ H u2 d2/\(ol 1 10 d1=false->fF CN "found" u1 H E)/\(ol 1 10 d1=true->dE d2=false->fF CS "found" u2 H E) /\
 ∀ n a b,d1=.int n->d2=.tuple [.int a,.int b]->(R0.pairs n a b).ok->∀ H',Kept H H' x->PM C H' (.pairs n a b) (.ref x)->Q .Ę H'
theorem HV:ag ["self","pairs","coin"] ["self","pairs","coin"] (aa Ej):=aL
theorem kD (h:dE d=true):∃ a b,d=.tuple [.int a,.int b]:=by
 match d,h with
 | .tuple [.int a,.int b],_=>exact⟨a,b,rfl⟩
theorem Cd (Z:KR K C CR)(F:Ļ K "__init__" "Pairs.__init__" Ej f fd) (Cf:kO K S "__init__" g) (G:ð P w K mg base az 1 g gd ["self","size","first_state","mark","parts"] (tE C)) (bG:Binds K gd ["self","size","first_state","mark","parts"] []) (mS:mg "Rule"\.ref S)
  (A1:Df P w K mg base (eX P w) 3 "need_number" ["thing","low","high"] (zQ CN) a1 d1) (A2:Df P w K mg base az 1 "one_part" ["folk"] Ai a2 d2) (A3:Df P w K mg base (eX P w) 5 "need_coin" ["thing"] (BT CS) a3 d3) (mF:mg "MOST_PAIRS"\.int 10 t):ð P w K mg base (eX P w) 6 f fd ["self","pairs","coin"] (rQ C CN CS):=by
 refine ng F HV λ cdv A outer s H vs Q E hr h=>?_;obtain⟨x,u1,u2,e1,e2,dx,rfl,hx,r1,r2,q1,q2,q⟩:=h;have Ń:Ă 1 _:=hr.mono av;have PB:Ă 3 _:=hr.mono av;refine⟨_,bA (aG (cg A1 PB eN (ae (pv 1) (ae aB (ae (be (v:=.int 10) rfl mF ⟨_,rfl⟩) aq))))) (bA (aG (cg A3 hr eN (ae (pv 2) aq))) (bA (gf (pv 0) (pv 2) rfl)
  (aW (aG (ft Cf G Ń rfl mS bG .nil aj (ae (pv 0) (ae (ah cD aB (pv 1)) (ae ww (ae (aI (ae lY (ae (pv 1) (ae (pv 2) aq)))) (ae (cg A2 Ń aj (ae (ah cD aB (pv 1)) aq)) aq)))))))))),?_⟩
 refine⟨_,rfl,u1,e1,1,10,rfl,r1,λ h1=>?_,λ h1=>q1 h1⟩;refine⟨_,rfl,u2,e2,rfl,r2,λ h2=>?_,λ h2=>q2 h1 h2⟩;obtain⟨n,rfl,n1,Xi⟩:=gz h1;obtain⟨a,b,rfl⟩:=kD h2;cases r1;refine⟨_,rfl,_,rfl,x,C 1,dx,[],rfl,hx,Z.cls 1 av,Z.no 1 av _ aF,av,?_⟩;have k1:Kept H (ak H x (.ins (C 1) dx (cu "coin" u2 []))) x:=cz _;have TX:=r2.kept hx k1;have Qg:ak H x (.ins (C 1) dx (cu "coin" u2 [])) x\.ins (C 1) dx [("coin",u2)]:=bz;generalize ak H x (.ins (C 1) dx (cu "coin" u2 []))=H1 at k1 TX Qg ⊢;have cm:N5 2 n:=.inl ⟨av,av⟩;refine⟨_,rfl,_,rfl,_,_,rfl,rfl,cm,_,rfl,_,rfl,er,λ m hm=>⟨_,rfl,_,_,rfl,rfl,cm,2*n,rfl,ad,ad,λ l H2 x2 rl=>?_⟩⟩;have xm:=Ext.new (o:=.tup [.str "pairs",.int n,u2]) hm;have J':=xm.trans x2;have QT:=x2 _ _ (show ak H1 m (.tup [.str "pairs",.int n,u2]) m=_ from bz);have Pn:=J' _ _ Qg;have TV:=TX.mono J';refine⟨x,_,_,_,_,1,dx,[("coin",u2)],rfl,av,Pn,(by show 1<=5;decide),q n a b rfl rfl ⟨n1,Xi,h2⟩ _ ((k1.trans (J'.kept x)).trans (cz _)) ?_⟩
 have kk:Kept H2 (ak H2 x (.ins (C 1) dx (gN (.int (2*n)) .Ę (.ref m) (.ref l) [("coin",u2)]))) x:=cz _;refine ny bz .Ę ((İ.tup QT (.cons (.str _) (.cons (.int _) (.cons TV .nil)))).kept Pn kk) (rl.kept Pn kk) (λ n hn=>?_) ⟨u2,?_,TV.kept Pn kk⟩
 ·have e:n = "coin" := by simpa using hn
  rw[e]
  decide +kernel
 ·rw[fh aF];rfl
def sL (C:Nat->Addr)(CN CS:Addr):Sp:=λ vs H Q E=>∃ x u1 u2 u3 d1 d2 d3 dx,vs=[.ref x,u1,u2,u3]/\H x\.ins (C 2) dx []/\İ H u1 d1/\İ H u2 d2/\İ H u3 d3/\(ol 1 20 d1=false->fF CN "found" u1 H E)/\(ol 1 20 d1=true->dE d2=false->fF CS "found" u2 H E)/\(ol 1 20 d1=true->dE d2=true->ol 1 20 d3=false->fF CN "found" u3 H E) /\
 ∀ n a b f,d1=.int n->d2=.tuple [.int a,.int b]->d3=.int f->(R0.û n a b f).ok->∀ H',Kept H H' x->PM C H' (.û n a b f) (.ref x)->Q .Ę H'
theorem G6:ag ["self","folk","coin","far"] ["self","folk","coin","far"] (aa Cm):=aL
theorem Bp (Z:KR K C CR)(F:Ļ K "__init__" "Coins.__init__" Cm f fd) (Cf:kO K S "__init__" g) (G:ð P w K mg base az 1 g gd ["self","size","first_state","mark","parts"] (tE C)) (bG:Binds K gd ["self","size","first_state","mark","parts"] []) (mS:mg "Rule"\.ref S)
  (A1:Df P w K mg base (eX P w) 3 "need_number" ["thing","low","high"] (zQ CN) a1 d1) (A2:Df P w K mg base az 1 "one_part" ["folk"] Ai a2 d2) (A3:Df P w K mg base (eX P w) 5 "need_coin" ["thing"] (BT CS) a3 d3) (mF:mg "MOST_FOLK"\.int 20 t) (mR:mg "MOST_FAR"\.int 20 t2):ð P w K mg base (eX P w) 6 f fd ["self","folk","coin","far"] (sL C CN CS):=by
 refine ng F G6 λ cdv A outer s H vs Q E hr h=>?_;obtain⟨x,u1,u2,u3,e1,e2,e3,dx,rfl,hx,r1,r2,r3,q1,q2,q3,q⟩:=h;have Ń:Ă 1 _:=hr.mono av;have PB:Ă 3 _:=hr.mono av;refine⟨_,bA (aG (cg A1 PB eN (ae (pv 1) (ae aB (ae (be (v:=.int 20) rfl mF ⟨_,rfl⟩) aq))))) (bA (aG (cg A3 hr eN (ae (pv 2) aq))) (bA (aG (cg A1 PB eN (ae (pv 3) (ae aB (ae (be (v:=.int 20) rfl mR ⟨_,rfl⟩) aq)))))
  (bA (gf (pv 0) (pv 2) rfl) (bA (gf (pv 0) (pv 3) rfl)
  (aW (aG (ft Cf G Ń rfl mS bG .nil aj (ae (pv 0) (ae (pv 1) (ae aB (ae (aI (ae lY (ae (pv 1) (ae (pv 2) (ae (pv 3) aq))))) (ae (cg A2 Ń aj (ae (pv 1) aq)) aq)))))))))))),?_⟩
 refine⟨_,rfl,u1,e1,1,20,rfl,r1,λ h1=>?_,λ h1=>q1 h1⟩;refine⟨_,rfl,u2,e2,rfl,r2,λ h2=>?_,λ h2=>q2 h1 h2⟩;refine⟨_,rfl,u3,e3,1,20,rfl,r3,λ h3=>?_,λ h3=>q3 h1 h2 h3⟩;obtain⟨n,rfl,n1,E_⟩:=gz h1;obtain⟨a,b,rfl⟩:=kD h2;obtain⟨k,rfl,k1',V7⟩:=gz h3;cases r1;cases r3;refine⟨_,rfl,_,rfl,x,C 2,dx,[],rfl,hx,Z.cls 2 av,Z.no 2 av _ aF,av,?_⟩;have k1:Kept H (ak H x (.ins (C 2) dx (cu "coin" u2 []))) x:=cz _;have TX:=r2.kept hx k1;have Qg:ak H x (.ins (C 2) dx (cu "coin" u2 [])) x\.ins (C 2) dx [("coin",u2)]:=bz;generalize ak H x (.ins (C 2) dx (cu "coin" u2 []))=H1 at k1 TX Qg ⊢;refine⟨_,rfl,_,rfl,x,C 2,dx,[("coin",u2)],rfl,Qg,Z.cls 2 av,Z.no 2 av _ aF,(by show 1<1000;decide),?_⟩
 have ef:cu "far" (.int k) [(("coin" : Str),u2)]=[(("coin" : Str),u2),(("far" : Str),.int k)]:=by
  show(if("coin" : Str) = "far" then _ else _)=_
  rw[Æ aF];rfl
 rw[ef];have kf:Kept H1 (ak H1 x (.ins (C 2) dx [("coin",u2),("far",.int k)])) x:=cz _;have TW:=TX.kept Qg kf;have Uw:ak H1 x (.ins (C 2) dx [("coin",u2),("far",.int k)]) x\.ins (C 2) dx [("coin",u2),("far",.int k)]:=bz;generalize ak H1 x (.ins (C 2) dx [("coin",u2),("far",.int k)])=H1' at kf TW Uw ⊢;refine⟨_,rfl,_,rfl,_,rfl,_,rfl,_,rfl,er,λ m hm=>⟨_,rfl,n,rfl,ad,E_,λ l H2 x2 rl=>?_⟩⟩;have xm:=Ext.new (o:=.tup [.str "coins",.int n,u2,.int k]) hm;have J':=xm.trans x2;have QT:=x2 _ _ (show ak H1' m (.tup [.str "coins",.int n,u2,.int k]) m=_ from bz);have Pn:=J' _ _ Uw;have TV:=TW.mono J';refine⟨x,_,_,_,_,2,dx,[("coin",u2),("far",.int k)],rfl,av,Pn,(by show 2<=5;decide),q n a b k rfl rfl rfl ⟨n1,E_,h2,k1',V7⟩ _ (((k1.trans kf).trans (J'.kept x)).trans (cz _)) ?_⟩
 have kk:Kept H2 (ak H2 x (.ins (C 2) dx (gN (.int n) (.int 0) (.ref m) (.ref l) [("coin",u2),("far",.int k)]))) x:=cz _;refine ny bz (.int _) ((İ.tup QT (.cons (.str _) (.cons (.int _) (.cons TV (.cons (.int _) .nil))))).kept Pn kk) (rl.kept Pn kk) (λ n hn=>?_) ⟨⟨u2,?_,TV.kept Pn kk⟩,?_⟩
 ·have e:n = "coin" \/ n = "far" := by simpa using hn
  rcases e with e | e <;> rw[e] <;> decide +kernel
 ·rw[fh aF];rfl
 ·rw[fh aF];rfl
end
theorem Ext.kp {G H H':Hp}{x:Addr}(e:Ext G H)(n:G x=none)(k:Kept H H' x):Ext G H':=λ b o h=>k b o (e b o h) λ z=>by rw[z,n] at h;cases h
def Sm (ps:List (List Int)):Prop:=ps.length<=20/\∀ p∈ps,p.length<=20
def Fb (H H':Hp):Prop:=∀ b o,H b\o->(∀ xs,o ≠ .lst xs)->H' b\o
theorem LD {H:Hp}{D:Addr}{ys:List V}(o:HO)(h:H D\.lst ys):Fb H (ak H D o):=λ b u e n=>by
 rw[ai (λ z=>by rw[z,h] at e;cases e;exact n ys rfl)]
 exact e
mutual
def bf:PyData->Bool
 | .list _=>false
 | .dict _=>false
 | .tuple xs=>ŗ xs
 | _=>true
def ŗ:List PyData->Bool
 | []=>true
 | x::xs=>bf x && ŗ xs
end
theorem mz:∀{ds:List PyData},(∀ d∈ds,bf d=true)->ŗ ds=true
 | [],_=>by simp[ŗ]
 | x::xs,h=>by
  simp only[ŗ,h x (List.mem_cons_self ..),mz λ d hd=>h d (List.mem_cons_of_mem _ hd),Bool.and_self]
mutual
theorem İ.ξ {G G':Hp}(s:Fb G G'):∀{v:V}{d:PyData},bf d=true->İ G v d->İ G' v d
 | _,_,_,.Ę=>.Ę
 | _,_,_,.bl b=>.bl b
 | _,_,_,.int i=>.int i
 | _,_,_,.str x=>.str x
 | _,_,h,.lst e r=>by simp[bf] at h
 | _,_,h,.tup e r=>.tup (s _ _ e (λ _ z=>by cases z)) (ď.ξ s (by simpa only[bf] using h) r)
 | _,_,h,.Oy e=>by simp[bf] at h
 | _,_,h,.Rv e r=>by simp[bf] at h
theorem ď.ξ {G G':Hp}(s:Fb G G'):∀{vs:List V}{ds:List PyData},ŗ ds=true->ď G vs ds->ď G' vs ds
 | _,_,_,.nil=>.nil
 | _,_,h,.cons r t=>by
  simp only[ŗ,Bool.and_eq_true] at h;exact .cons (İ.ξ s h.1 r) (ď.ξ s h.2 t)
end
theorem R0.nl (r:R0):bf r.told=true:=by cases r <;> simp[R0.told,bf,ŗ]
theorem R0.nlB (r:R0):bf r.begin=true:=by cases r <;> simp[R0.begin,bf]
theorem sJ:∀(ns:List Int),ŗ (ns.map PyData.int)=true
 | []=>by simp[ŗ]
 | n::ns=>by simp only[List.map_cons,ŗ,bf,sJ ns,Bool.and_self]
theorem vW (ps:List (List Int)):bf (mZ ps)=true:=by
 show ŗ (ps.map FV)=true;refine mz λ d hd=>?_;obtain⟨p,_,rfl⟩:=ë.mp hd;exact sJ p
section
variable {C:Nat->Addr}{H H':Hp}
theorem tj {a b:Int}:bf (.tuple [.int a,.int b])=true:=by simp[bf,ŗ]
end
theorem iI {H:Hp}{x dx:Addr}{u v:HO}(hx:H x=none)(hd:H dx=none)(ne:dx≠x):Ext H (ak (ak H dx u) x v):=by
 have h2:ak H dx u x=none:=by rw[ai ne.symm];exact hx
 exact(Ext.new hd).trans (Ext.new h2)
end My
namespace My
open PySem PySem.W L2
structure Š where
 hand:Int
 t:Nat
 b:Nat
 next:PyData
structure Š.good (s:Š):Prop where
 h:s.hand=0\/s.hand=1
 t1:1<=s.t
 tb:s.t<=s.b
 MV:s.b<=100
 lo:Nat.gcd s.t s.b=1
 nl:bf s.next=true
theorem eD {H:Hp}{m:Addr}(h:H m=none)(o:HO):∃ H1,Ext H H1/\H1 m\o/\ak H m o=H1:=⟨_,Ext.new h,bz,rfl⟩
def aM (a b:Nat):Nat:=a/Nat.gcd a b
def ar (a b:Nat):Nat:=b/Nat.gcd a b
theorem jX (h1:1<=a)(h2:a<=b)(h3:b<=100):1<=aM a b/\aM a b<=ar a b/\ar a b<=100/\Nat.gcd (aM a b) (ar a b)=1:=by
 have g0:=ņ b h1;refine⟨(Nat.le_div_iff_mul_le g0).mpr (by rw[MH];exact ø h1 (í a b)),Ψ h2,È (ċ _ _) h3,?_⟩
 unfold aM ar;rw[Nat.gcd_div (í a b) (ç a b)];exact τ g0
def R0.steps:R0->PyData->Int->List Š
 | .split n _,.int s,x=>(if s<n-x then [⟨0,aM (n-x-s).toNat (n-x).toNat,ar (n-x-s).toNat (n-x).toNat,.int s⟩] else [])++(if 0<s then [⟨1,aM s.toNat (n-x).toNat,ar s.toNat (n-x).toNat,.int (s-1)⟩] else [])
 | .pairs _ a b,.none,_=>[⟨0,(b-a).toNat,b.toNat,.int 0⟩,⟨1,a.toNat,b.toNat,.int 1⟩]
 | .pairs _ _ _,.int h,_=>[⟨1-h,1,1,.none⟩]
 | .û _ a b f,.int s,_=>if f<=s then [⟨0,1,1,.int (s-1)⟩] else if s <= -f then [⟨1,1,1,.int (s+1)⟩] else [⟨0,(b-a).toNat,b.toNat,.int (s-1)⟩,⟨1,a.toNat,b.toNat,.int (s+1)⟩]
 | _,_,_=>[]
def R0.J_:R0->Int->PyData->Prop
 | .split n _,x,st=>∃ s,st=.int s/\0<=s/\s<=n-x
 | .pairs _ _ _,x,st=>(x%2=0/\st=.none)\/(x%2=1/\(st=.int 0\/st=.int 1))
 | .û _ _ _ _,x,st=>∃ s,st=.int s/\-x<=s/\s<=x
theorem dG (h:dE (.tuple [.int a,.int b])=true):∃ x y:Nat,a=(x:Int)/\b=(y:Int)/\1<=x/\x<y/\y<=100/\Nat.gcd x y=1:=by
 have h':(((decide (1<=b)&&(decide (0<=a)&&decide (a<=b)))&&decide (Nat.gcd a.toNat b.toNat=1))&&(decide (2<=b)&&decide (b<=100)))=true:=h;simp only[Bool.and_eq_true,decide_eq_true_iff] at h';obtain⟨⟨⟨h1,h2,h3⟩,g⟩,h5,h6⟩:=h';obtain⟨x,rfl⟩:∃ x:Nat,a=(x:Int):=⟨a.toNat,ad⟩;obtain⟨y,rfl⟩:∃ y:Nat,b=(y:Int):=⟨b.toNat,ad⟩;rw[Ü,Ü] at g;refine⟨x,y,rfl,rfl,?_,?_,ad,g⟩
 ·grind
 ·grind
theorem rG (h:x<y)(g:Nat.gcd x y=1):Nat.gcd (y-x) y=1:=by
 have h1:Nat.gcd (y-x) y ∣ y-x:=í _ _;have h2:Nat.gcd (y-x) y ∣ y:=ç _ _;have h3:Nat.gcd (y-x) y ∣ x:=by
  have e:y-(y-x)=x:=ad;have q:=Nat.dvd_sub h2 h1
  rwa[e] at q
 exact Nat.dvd_one.mp (g ▸ Nat.dvd_gcd h3 h2)
theorem om (h:dE (.tuple [.int a,.int b])=true)(n m:PyData)(hn:bf n=true)(hm:bf m=true):(⟨0,(b-a).toNat,b.toNat,n⟩:Š).good/\(⟨1,a.toNat,b.toNat,m⟩:Š).good:=by
 obtain⟨x,y,rfl,rfl,h1,h2,h3,g⟩:=dG h;have e:((y:Int)-(x:Int)).toNat=y-x:=ad;rw[e,Ü,Ü];exact⟨⟨.inl rfl,by show 1<=y-x;lia,by show y-x<=y;lia,h3,rG h2 g,hn⟩,⟨.inr rfl,h1,by show x<=y;lia,h3,g,hm⟩⟩
theorem ik (h:hd=0\/hd=1)(n:PyData)(hn:bf n=true):(⟨hd,1,1,n⟩:Š).good:=⟨h,Å _,Å _,by show 1<=100;decide,by show Nat.gcd 1 1=1;decide,hn⟩
theorem R0.Œ {r:R0}(ok:r.ok)(x0:0<=x)(x1:x<r.ö)(v:r.J_ x st):(∀ s∈r.steps st x,s.good/\r.J_ (x+1) s.next)/\r.steps st x ≠ []:=by
 cases r with
 | split n k =>
  obtain⟨s,rfl,s0,s1⟩:=v;obtain⟨h1,h2,h3,h4⟩:=ok;have xn:x<n:=x1;refine⟨λ q hq=>?_,?_⟩
  ·rcases é.mp hq with hq | hq
   ·by_cases c:s<n-x
    ·rw[Ë c] at hq;rw[Í.mp hq];obtain⟨a1,a2,a3,a4⟩:=jX (a:=(n-x-s).toNat) (b:=(n-x).toNat) ad ad ad;exact⟨⟨.inl rfl,a1,a2,a3,a4,rfl⟩,s,rfl,s0,ad⟩
    ·rw[Æ c] at hq;cases hq
   ·by_cases c:0<s
    ·rw[Ë c] at hq;rw[Í.mp hq];obtain⟨a1,a2,a3,a4⟩:=jX (a:=s.toNat) (b:=(n-x).toNat) ad ad ad;exact⟨⟨.inr rfl,a1,a2,a3,a4,rfl⟩,s-1,rfl,ad,ad⟩
    ·rw[Æ c] at hq;cases hq
  ·intro e;have e':=List.append_eq_nil_iff.mp e;by_cases c:0<s
   ·have:=e'.2;rw[Ë c] at this;cases this
   ·have:=e'.1;rw[Ë ad] at this;cases this
 | pairs n a b =>
  obtain⟨h1,h2,h3⟩:=ok;rcases v with⟨p,rfl⟩ | ⟨p,rfl | rfl⟩
  ·obtain⟨g0,g1⟩:=om h3 (.int 0) (.int 1) rfl rfl;refine⟨λ q hq=>?_,λ e=>nomatch e⟩;rcases Ö.mp hq with rfl | hq
   ·exact⟨g0,.inr ⟨ad,.inl rfl⟩⟩
   ·rw[Í.mp hq];exact⟨g1,.inr ⟨ad,.inr rfl⟩⟩
  ·refine⟨λ q hq=>?_,λ e=>nomatch e⟩;rw[Í.mp hq];exact⟨ik (.inr rfl) _ rfl,.inl ⟨ad,rfl⟩⟩
  ·refine⟨λ q hq=>?_,λ e=>nomatch e⟩;rw[Í.mp hq];exact⟨ik (.inl rfl) _ rfl,.inl ⟨ad,rfl⟩⟩
 | û n a b f =>
  obtain⟨h1,h2,h3,h4,h5⟩:=ok;obtain⟨s,rfl,s0,s1⟩:=v;obtain⟨g0,g1⟩:=om h3 (.int (s-1)) (.int (s+1)) rfl rfl;simp only[R0.steps];by_cases c:f<=s
  ·rw[Ë c];refine⟨λ q hq=>?_,λ e=>nomatch e⟩;rw[Í.mp hq];exact⟨ik (.inl rfl) _ rfl,s-1,rfl,ad,ad⟩
  ·rw[Æ c];by_cases c2:s <= -f
   ·rw[Ë c2];refine⟨λ q hq=>?_,λ e=>nomatch e⟩;rw[Í.mp hq];exact⟨ik (.inr rfl) _ rfl,s+1,rfl,ad,ad⟩
   ·rw[Æ c2];refine⟨λ q hq=>?_,λ e=>nomatch e⟩;rcases Ö.mp hq with rfl | hq
    ·exact⟨g0,s-1,rfl,ad,ad⟩
    ·rw[Í.mp hq];exact⟨g1,s+1,rfl,ad,ad⟩
theorem R0.Pj {r:R0}(ok:r.ok):r.J_ 0 r.begin:=by
 cases r with
 | split n k=>obtain⟨h1,h2,h3,h4⟩:=ok;exact⟨k,rfl,h3,ad⟩
 | pairs n a b=>exact .inl ⟨rfl,rfl⟩
 | û n a b f=>exact⟨0,rfl,ad,ad⟩
def Rl.steps:Rl->PyData->Int->List Š
 | .one r,st,x=>r.steps st x
def Rl.J_:Rl->Int->PyData->Prop
 | .one r,x,st=>r.J_ x st
theorem Rl.Œ:∀{t:Rl}{x:Int}{st:PyData},t.ok->0<=x->x<t.ö->t.J_ x st->(∀ s∈t.steps st x,s.good/\(x+1<t.ö->t.J_ (x+1) s.next))/\t.steps st x ≠ []
 | .one r,x,st,ok,x0,x1,v=>by
  obtain⟨h1,h2⟩:=R0.Œ ok x0 x1 v;exact⟨λ s hs=>⟨(h1 s hs).1,λ _=>(h1 s hs).2⟩,h2⟩
theorem Rl.Pj:∀{t:Rl},t.ok->0<t.ö->t.J_ 0 t.begin
 | .one r,ok,_=>R0.Pj ok
def R0.dd:R0->Int->Nat
 | .split n _,x=>(n-x).toNat
 | .pairs _ _ b,_=>b.toNat
 | .û _ _ b _,_=>b.toNat
theorem xX:ar a b ∣ b:=Nat.div_dvd_of_dvd (ç a b)
theorem oP (h:1<=b):aM a b*(b/ar a b)=a:=by
 have g0:=õ a h;have e:b/ar a b=Nat.gcd a b:=by
  exact Nat.div_div_self (ç a b) ad
 rw[e];exact Nat.div_mul_cancel (í a b)
def Š.part (s:Š)(d:Nat):Nat:=s.t*(d/s.b)
theorem R0.QP {r:R0}(ok:r.ok)(x0:0<=x)(x1:x<r.ö)(v:r.J_ x st):1<=r.dd x/\r.dd x<=100/\(∀ s∈r.steps st x,s.b ∣ r.dd x)/\((r.steps st x).map λ s=>s.part (r.dd x)).sum=r.dd x:=by
 cases r with
 | split n k =>
  obtain⟨s,rfl,s0,s1⟩:=v;obtain⟨h1,h2,h3,h4⟩:=ok;have xn:x<n:=x1;obtain⟨b,eb⟩:∃ b:Nat,n-x=(b:Int):=⟨(n-x).toNat,ad⟩;obtain⟨c,rfl⟩:∃ c:Nat,s=(c:Int):=⟨s.toNat,ad⟩;have ebn:(n-x).toNat=b:=ad;have eb1:(n-x-(c:Int)).toNat=b-c:=ad;have b1:1<=b:=ad;show 1<=(n-x).toNat/\(n-x).toNat<=100/\(∀ s∈(if(c:Int)<n-x then [(⟨0,aM (n-x-(c:Int)).toNat (n-x).toNat,ar (n-x-(c:Int)).toNat (n-x).toNat,.int (c:Nat)⟩:Š)] else [])++(if(0:Int)<(c:Int) then [(⟨1,aM ((c:Int)).toNat (n-x).toNat,ar ((c:Int)).toNat (n-x).toNat,.int ((c:Int)-1)⟩:Š)] else []),s.b ∣ (n-x).toNat)/\(((if(c:Int)<n-x then [(⟨0,aM (n-x-(c:Int)).toNat (n-x).toNat,ar (n-x-(c:Int)).toNat (n-x).toNat,.int (c:Nat)⟩:Š)] else [])++(if(0:Int)<(c:Int) then [(⟨1,aM ((c:Int)).toNat (n-x).toNat,ar ((c:Int)).toNat (n-x).toNat,.int ((c:Int)-1)⟩:Š)] else [])).map λ s=>s.part (n-x).toNat).sum=(n-x).toNat
  rw[ebn,eb1,Ü];have p0:(⟨0,aM (b-c) b,ar (b-c) b,.int (c:Nat)⟩:Š).part b=b-c:=oP b1;have p1:(⟨1,aM c b,ar c b,.int ((c:Int)-1)⟩:Š).part b=c:=oP b1;refine⟨b1,ad,λ s hs=>?_,?_⟩
  ·rcases é.mp hs with hs | hs
   ·split at hs
    ·rw[Í.mp hs];exact xX
    ·cases hs
   ·split at hs
    ·rw[Í.mp hs];exact xX
    ·cases hs
  ·rw[Ø,ē];by_cases c1:(c:Int)<n-x
   ·rw[Ë c1];by_cases c2:(0:Int)<(c:Int)
    ·rw[Ë c2];simp only[List.map_cons,List.map_nil,List.sum_cons,List.sum_nil,p0,p1]
     lia
    ·rw[Æ c2];simp only[List.map_cons,List.map_nil,List.sum_cons,List.sum_nil,p0]
     lia
   ·rw[Æ c1];by_cases c2:(0:Int)<(c:Int)
    ·rw[Ë c2];simp only[List.map_cons,List.map_nil,List.sum_cons,List.sum_nil,p1]
     lia
    ·lia
 | pairs n a b =>
  obtain⟨h1,h2,h3⟩:=ok;obtain⟨x',y,rfl,rfl,k1,k2,k3,kg⟩:=dG h3;have e1:((y:Int)-(x':Int)).toNat=y-x':=ad;have dy:y/y=1:=τ ad;rcases v with⟨p,rfl⟩ | ⟨p,hh⟩
  ·refine⟨by show 1<=((y:Int)).toNat;lia,by show((y:Int)).toNat<=100;lia,λ s hs=>?_,?_⟩
   ·have Qw:s∈([⟨0,((y:Int)-(x':Int)).toNat,(y:Int).toNat,.int 0⟩,⟨1,(x':Int).toNat,(y:Int).toNat,.int 1⟩]:List Š):=hs;simp only[List.mem_cons,List.not_mem_nil,or_false] at Qw;rcases Qw with rfl | rfl <;> exact ς _
   ·show((y:Int)-(x':Int)).toNat*((y:Int).toNat/(y:Int).toNat)+((x':Int).toNat*((y:Int).toNat/(y:Int).toNat)+0)=(y:Int).toNat;rw[e1,Ü,Ü,dy]
    lia
  ·have one:∀ h:Int,st=.int h->1<=((y:Int)).toNat/\((y:Int)).toNat<=100/\(∀ s∈(R0.pairs n x' y).steps st x,s.b ∣ (y:Int).toNat)/\(((R0.pairs n x' y).steps st x).map λ s=>s.part (y:Int).toNat).sum=(y:Int).toNat:=λ h e=>by
    subst e;refine⟨ad,ad,λ s hs=>?_,?_⟩
    ·have Qw:s∈([⟨1-h,1,1,.none⟩]:List Š):=hs;rw[Í.mp Qw];exact Χ _
    ·show 1*((y:Int).toNat/1)+0=(y:Int).toNat;rw[Ŋ]
     lia
   rcases hh with e | e
   ·exact one _ e
   ·exact one _ e
 | û n a b f =>
  obtain⟨h1,h2,h3,h4,h5⟩:=ok;obtain⟨x',y,rfl,rfl,k1,k2,k3,kg⟩:=dG h3;obtain⟨s,rfl,s0,s1⟩:=v;have e1:((y:Int)-(x':Int)).toNat=y-x':=ad;have dy:y/y=1:=τ ad;refine⟨by show 1<=((y:Int)).toNat;lia,by show((y:Int)).toNat<=100;lia,?_⟩
  show(∀ q∈(R0.û n x' y f).steps (.int s) x,q.b ∣ (y:Int).toNat)/\(((R0.û n x' y f).steps (.int s) x).map λ q=>q.part (y:Int).toNat).sum=(y:Int).toNat;simp only[R0.steps];by_cases c:f<=s
  ·rw[Ë c];refine⟨λ q hq=>by rw[Í.mp hq];exact Χ _,?_⟩
   show 1*((y:Int).toNat/1)+0=(y:Int).toNat;rw[Ŋ];lia
  ·rw[Æ c];by_cases c2:s <= -f
   ·rw[Ë c2];refine⟨λ q hq=>by rw[Í.mp hq];exact Χ _,?_⟩
    show 1*((y:Int).toNat/1)+0=(y:Int).toNat;rw[Ŋ];lia
   ·rw[Æ c2];refine⟨λ q hq=>?_,?_⟩
    ·simp only[List.mem_cons,List.not_mem_nil,or_false] at hq;rcases hq with rfl | rfl <;> exact ς _
    ·show((y:Int)-(x':Int)).toNat*((y:Int).toNat/(y:Int).toNat)+((x':Int).toNat*((y:Int).toNat/(y:Int).toNat)+0)=(y:Int).toNat;rw[e1,Ü,Ü,dy]
     lia
theorem m_:aM a b*b=ar a b*a:=by
 unfold aM ar;have e1:=Č (í a b);have e2:=Č (ç a b);generalize a/Nat.gcd a b=u at e1 ⊢;generalize b/Nat.gcd a b=v at e2 ⊢;generalize Nat.gcd a b=g at e1 e2
 calc u*b=u*(g*v):=by rw[e2]
  _=v*(g*u):=by ac_rfl
  _=v*a:=by rw[e1]
theorem lS (hb:0<b)(hd:0<d)(h:a*d=c*b):aM a b=aM c d/\ar a b=ar c d:=by
 unfold aM ar;have e1:a/Nat.gcd a b=a*d/Nat.gcd (a*d) (b*d):=by rw[p_,Μ _ _ hd]
 have e2:b/Nat.gcd a b=b*d/Nat.gcd (a*d) (b*d):=by rw[p_,Μ _ _ hd]
 have e3:c/Nat.gcd c d=c*b/Nat.gcd (c*b) (d*b):=by rw[p_,Μ _ _ hb]
 have e4:d/Nat.gcd c d=d*b/Nat.gcd (c*b) (d*b):=by rw[p_,Μ _ _ hb]
 rw[e1,e2,e3,e4,h,ρ d b];exact⟨rfl,rfl⟩
theorem tZ (hF:0<F):aM 0 F=0/\ar 0 F=1:=by
 unfold aM ar;rw[Nat.gcd_zero_left,Nat.zero_div,τ hF];exact⟨rfl,rfl⟩
theorem jS:ar S F<=F:=ċ _ _
theorem gD (hF:0<F):0<ar S F:=Nat.div_pos (ø hF (ç S F)) (õ S hF)
end My
namespace My
theorem iJ {a b c:Nat}(h:Nat.Coprime a c)(k:Nat.Coprime b c):Nat.Coprime (a*b) c:=Nat.Coprime.mul_left h k
theorem u7 {g W b d:Nat}(hb:Nat.Coprime W b)(hd:Nat.Coprime W d):Nat.gcd (g*W) (g*b*(g*d))=g*Nat.gcd W g:=by
 have e:g*b*(g*d)=g*(g*(b*d)):=by
  rw[Ł,Γ b g d]
 rw[e,Nat.gcd_mul_left]
 congr 1
 have Vl:Nat.Coprime W (b*d):=Nat.Coprime.mul_right hb hd;exact Nat.Coprime.gcd_mul_right_cancel_right g Vl.symm
theorem wW {g W b d:Nat}(hg:0<g)(hW:0<g*b*(g*d))(hb:Nat.Coprime W b)(hd:Nat.Coprime W d) :
  g*W/Nat.gcd (g*W) (g*b*(g*d))=W/Nat.gcd W g/\g*b*(g*d)/Nat.gcd (g*W) (g*b*(g*d))=b*(g*d/Nat.gcd W g):=by
 rw[u7 hb hd];have s0:0<Nat.gcd W g:=õ W hg;constructor
 ·exact Nat.mul_div_mul_left _ _ hg
 ·have e:g*b*(g*d)=g*(b*(g*d)):=by rw[Ł]
  rw[e,Nat.mul_div_mul_left _ _ hg];exact Nat.mul_div_assoc _ (QI (ç W g) (Nat.dvd_mul_right g d))
theorem jg {b d:Nat}(h:0<Nat.gcd b d):Nat.Coprime (b/Nat.gcd b d) (d/Nat.gcd b d):=Px h
theorem gH {a b k:Nat}(h:Nat.Coprime a b)(hk:k ∣ b):Nat.Coprime a (b/k):=Nat.Coprime.coprime_dvd_right (Nat.div_dvd_of_dvd hk) h
theorem sM {a x y m:Nat}(h:Nat.Coprime a m)(hm:m ∣ y)(e:x=a+y\/x+y=a):Nat.Coprime x m:=by
 rcases e with e | e
 ·subst e;obtain⟨k,rfl⟩:=hm;rw[c_] at h ⊢;rw[Ŭ,PX,Ŭ];exact h
 ·obtain⟨k,rfl⟩:=hm;rw[c_] at h ⊢;rw[<- e,Ŭ,PX,Ŭ] at h;exact h
theorem yG {x y z m:Nat}(e:x+y=z)(hz:m ∣ z)(h:Nat.Coprime y m):Nat.Coprime x m:=by
 rw[c_] at h ⊢;have d1:=í x m;have d2:=ç x m;have d3:Nat.gcd x m ∣ y:=by
  have:Nat.gcd x m ∣ x+y:=by rw[e];exact QI d2 hz
  exact(Nat.dvd_add_right d1).mp this
 have d4:Nat.gcd x m ∣ Nat.gcd y m:=Nat.dvd_gcd d3 d2;rw[h] at d4;exact Nat.dvd_one.mp d4
theorem xh {a b c d W:Nat}(b1:1<=b)(d1:1<=d)(Sq:Nat.gcd a b=1)(Ov:Nat.gcd c d=1)(hW:W=a*(d/Nat.gcd b d)+c*(b/Nat.gcd b d)\/W+c*(b/Nat.gcd b d)=a*(d/Nat.gcd b d)) :
  (W/Nat.gcd W (Nat.gcd b d)=Nat.gcd b d*W/Nat.gcd (Nat.gcd b d*W) (b*d))/\(b/Nat.gcd b d*(d/Nat.gcd W (Nat.gcd b d))=b*d/Nat.gcd (Nat.gcd b d*W) (b*d)):=by
 have g0:0<Nat.gcd b d:=ņ d b1;have eb:Nat.gcd b d*(b/Nat.gcd b d)=b:=Č (í b d);have ed:Nat.gcd b d*(d/Nat.gcd b d)=d:=Č (ç b d);have cp:=jg (b:=b) (d:=d) g0;have ca:Nat.Coprime a (b/Nat.gcd b d):=gH Sq (í b d);have cc:Nat.Coprime c (d/Nat.gcd b d):=gH Ov (ç b d);have hb:Nat.Coprime W (b/Nat.gcd b d):=sM (a:=a*(d/Nat.gcd b d)) (y:=c*(b/Nat.gcd b d)) (iJ ca cp.symm) (OE _ _) hW;have hd:Nat.Coprime W (d/Nat.gcd b d):=by
  rcases hW with h | h
  ·exact sM (a:=c*(b/Nat.gcd b d)) (y:=a*(d/Nat.gcd b d)) (iJ cc cp) (OE _ _) (.inl (by rw[h,Nat.add_comm]))
  ·exact yG h (OE _ _) (iJ cc cp)
 have pos:0<Nat.gcd b d*(b/Nat.gcd b d)*(Nat.gcd b d*(d/Nat.gcd b d)):=by rw[eb,ed];exact Ħ b1 d1
 have main:=wW (W:=W) g0 pos hb hd;rw[eb,ed] at main;exact⟨main.1.symm,main.2.symm⟩
theorem ux {a b c d:Nat}:Nat.gcd b d*(a*(d/Nat.gcd b d)+c*(b/Nat.gcd b d))=a*d+c*b:=by
 have eb:Nat.gcd b d*(b/Nat.gcd b d)=b:=Č (í b d);have ed:Nat.gcd b d*(d/Nat.gcd b d)=d:=Č (ç b d);rw[Nat.mul_add,Γ,Γ _ c,eb,ed]
theorem xU {a b c d:Nat}(b1:1<=b)(d1:1<=d)(Sq:Nat.gcd a b=1)(Ov:Nat.gcd c d=1) :
  (a/Nat.gcd a d*(c/Nat.gcd c b)=a*c/Nat.gcd (a*c) (b*d))/\(b/Nat.gcd c b*(d/Nat.gcd a d)=b*d/Nat.gcd (a*c) (b*d)):=by
 have l0:0<Nat.gcd a d:=õ a d1;have r0:0<Nat.gcd c b:=õ c b1;have ea:Nat.gcd a d*(a/Nat.gcd a d)=a:=Č (í a d);have ed:Nat.gcd a d*(d/Nat.gcd a d)=d:=Č (ç a d);have ec:Nat.gcd c b*(c/Nat.gcd c b)=c:=Č (í c b);have eb:Nat.gcd c b*(b/Nat.gcd c b)=b:=Č (ç c b);have p1:Nat.Coprime (a/Nat.gcd a d) (d/Nat.gcd a d):=jg (b:=a) (d:=d) l0;have p2:Nat.Coprime (c/Nat.gcd c b) (b/Nat.gcd c b):=jg (b:=c) (d:=b) r0;have p3:Nat.Coprime (a/Nat.gcd a d) (b/Nat.gcd c b):=(gH (Nat.Coprime.symm (gH (Nat.Coprime.symm Sq) (í a d))) (ç c b));have p4:Nat.Coprime (c/Nat.gcd c b) (d/Nat.gcd a d):=(gH (Nat.Coprime.symm (gH (Nat.Coprime.symm Ov) (í c b))) (ç a d));have e1:a*c=Nat.gcd a d*Nat.gcd c b*(a/Nat.gcd a d*(c/Nat.gcd c b)):=by
  conv=>lhs;rw[<- ea,<- ec]
  rw[Ł,Ł,Γ (a/Nat.gcd a d)]
 have e2:b*d=Nat.gcd a d*Nat.gcd c b*(b/Nat.gcd c b*(d/Nat.gcd a d)):=by
  conv=>lhs;rw[<- eb,<- ed]
  rw[ρ (Nat.gcd a d) (Nat.gcd c b),Ł,Ł,Γ (b/Nat.gcd c b)]
 have k:Nat.Coprime (a/Nat.gcd a d*(c/Nat.gcd c b)) (b/Nat.gcd c b*(d/Nat.gcd a d)):=Nat.Coprime.mul_right (iJ p3 p2) (iJ p1 p4);have g:Nat.gcd (a*c) (b*d)=Nat.gcd a d*Nat.gcd c b:=by
  rw[e1,e2,Nat.gcd_mul_left,k,ť]
 rw[g];have lr:0<Nat.gcd a d*Nat.gcd c b:=Ħ l0 r0;constructor
 ·conv=>rhs;rw[e1]
  exact(ú _ lr).symm
 ·conv=>rhs;rw[e2]
  exact(ú _ lr).symm
end My
namespace My
open PySem PySem.W L2
abbrev TJ:=Str->St->Hp->(Str->Hp->Prop)->Prop
def lF (K:Frag)(a:Addr)(xs:List V):Prop:=∃(o:Obj)(its:Array Value)(n:Nat),K.lookup a\o/\o.cls=.type "tuple" /\ o.data=.seq its n/\its.size<=sizeLine/\Vals xs its.toList
def oD:Option Nat->PyData
 | some n=>.int n
 | none=>.none
theorem AR (a b c d:Nat):jH [.int a,.int b] [.int c,.int d]=(decide (a=c)&&decide (b=d)):=by
 show(((a:Int)==(c:Int))&&(((b:Int)==(d:Int))&&true))=_;rw[Bool.and_true,ź,Ĵ,Ĵ,þ,þ,ġ,ġ]
 lia
structure HY (K:Frag)(mg:bD)(n0 n1:Addr):Prop where
 m0:mg "NONE"\.ref n0
 m1:mg "ALL"\.ref n1
 t0:lF K n0 [.int (0:Nat),.int (1:Nat)]
 t1:lF K n1 [.int (1:Nat),.int (1:Nat)]
section
variable {P:Program}{w:World}{K:Frag}{mg:bD}{base:Heap}
def Sz (n:Nat):Prop:=n<2^8999
theorem Sz.log (h:Sz n):((n:Nat):Int).natAbs.log2<9000:=by
 rw[Int.natAbs_natCast];by_cases z:n=0
 ·rw[z];decide
 ·exact(Nat.log2_lt z).mpr (I_ h (Nat.pow_lt_pow_right av av))
theorem Sz.mono (h:Sz n)(e:m<=n):Sz m:=ĭ e h
theorem jQ (h:n<2^k):Builtin.Int.intBits ((n:Nat):Int)<=k:=by
 unfold Builtin.Int.intBits;split
 ·exact Ť _
 ·rename_i hz
  have hn:n≠0:=λ e=>by subst e;exact hz rfl
  have:=(Nat.log2_lt hn).mpr h;rw[Int.natAbs_natCast]
  lia
theorem wE (n:Nat):Builtin.Int.intBits (-(n:Int))=Builtin.Int.intBits ((n:Nat):Int):=by
 unfold Builtin.Int.intBits;by_cases z:n=0
 ·subst z;rfl
 ·rw[Æ (by simp;lia),Æ (by simp;lia),Int.natAbs_neg]
theorem gm (h:Sz m)(k:Sz n):Pu ((m:Nat):Int) ((n:Nat):Int):=by
 have h1:=jQ h;have h2:=jQ k;show _+_<=1000000
 lia
def Lo (C:Int)(c:Nat):Prop:=C=(c:Int)\/C = -(c:Int)
theorem LK (s:Lo C c)(h:Sz c)(k:Sz n):Pu C ((n:Nat):Int):=by
 have h1:=jQ h;have h2:=jQ k;show _+_<=1000000;rcases s with rfl | rfl
 ·lia
 ·rw[wE];lia
abbrev Dq:Stmt:=bT 20
def wT (K:Frag):Sp:=λ vs H Q _=>∃(p:Addr)(a b c d W:Nat)(C:Int),vs=[.ref p,.int C,.int d]/\Ĭ K H p [.int a,.int b]/\Lo C c/\Sz a/\Sz b/\Sz c/\Sz d/\1<=b/\1<=d /\
 (a:Int)*((d/Nat.gcd b d:Nat):Int)+C*((b/Nat.gcd b d:Nat):Int)=(W:Int)/\∀ r,H r=none->Q (.ref r) (ak H r (.tup [.int (W/Nat.gcd W (Nat.gcd b d):Nat),.int (b/Nat.gcd b d*(d/Nat.gcd W (Nat.gcd b d)):Nat)]))
theorem Rg:ag ["one","top","bottom","common","whole","struck"] ["one","top","bottom"] (aa Dq):=aL
theorem E9 (F:Ļ K "added" "added" Dq f fd) (G:ð P w K mg base az 1 g gd ["one","other"] mj) (bG:Binds K gd ["one","other"] []) (kG:keepIn K (.ref g)=true) (mG:mg "greatest_common"\.ref g):ð P w K mg base az 2 f fd ["one","top","bottom"] (wT K):=by
 refine F.ok Rg (λ vs H Q E h=>?_) (λ cdv A outer s H vs Q E hr h=>?_)
 ·obtain⟨p,a,b,c,d,W,C,rfl,_⟩:=h;rfl
 refine Â λ gg=>?_;obtain⟨p,a,b,c,d,W,C,rfl,hp,sg,sa,sb,sc,sd,b1,d1,hW,q⟩:=h;have nd:=Rg.nd;refine gg ?_;refine⟨_,bA (cB (i:=3) nd rfl (Or.inl rfl) (fX G hr rfl mG kG bG .nil aj (ae (c5 dR (pv 0) aB) (ae (pv 2) aq))))
  (bA (cB (i:=4) nd rfl (.inl rfl) (ah aP (ah cG (c5 dR (pv 0) aB) (ah bS (pv 2) (pv 3))) (ah cG (pv 1) (ah bS (c5 dR (pv 0) aB) (pv 3)))))
  (bA (cB (i:=5) nd rfl (.inl rfl) (fX G hr rfl mG kG bG .nil aj (ae (pv 4) (ae (pv 3) aq))))
  (aW (cq (aI (ae (ah bS (pv 4) (pv 5)) (ae (ah cG (ah bS (c5 dR (pv 0) aB) (pv 3)) (ah bS (pv 2) (pv 5))) aq))))))),?_⟩
 have g0:=ņ d b1;have VE:=sb.mono (ø b1 (í b d));have gi:nt ((d:Nat):Int) ((Nat.gcd b d:Nat):Int):=⟨ad,VE.log⟩;have gj:nt ((b:Nat):Int) ((Nat.gcd b d:Nat):Int):=⟨ad,VE.log⟩;have e1:((d:Int)/((Nat.gcd b d:Nat):Int))=((d/Nat.gcd b d:Nat):Int):=by simp
 have e2:((b:Int)/((Nat.gcd b d:Nat):Int))=((b/Nat.gcd b d:Nat):Int):=by simp
 have ZZ:Sz (d/Nat.gcd b d):=sd.mono (ċ _ _);have R1:Sz (b/Nat.gcd b d):=sb.mono (ċ _ _);refine⟨_,rfl,p,_,_,_,rfl,rfl,hp,rfl,_,rfl,b,d,rfl,?_⟩;refine⟨_,rfl,p,_,_,_,rfl,rfl,hp,rfl,_,rfl,_,rfl,_,_,rfl,rfl,gi,_,_,rfl,rfl,by rw[e1];exact gm sa ZZ,?_⟩
 refine⟨_,rfl,_,rfl,p,_,_,_,rfl,rfl,hp,rfl,_,rfl,_,_,rfl,rfl,gj,_,_,rfl,rfl,by rw[e2];exact LK sg sc R1,_,_,rfl,rfl,?_⟩
 show(aO _ _) _ [some (.ref p),some (.int C),some (.int d),some (.int (Nat.gcd b d:Nat)),some (.int ((a:Int)*((d:Int)/((Nat.gcd b d:Nat):Int))+C*((b:Int)/((Nat.gcd b d:Nat):Int)))),none] H;rw[e1,e2,hW];have s0:=õ W g0;have ss:=VE.mono (ø g0 (ç W _));have gs:∀ n:Nat,nt ((n:Nat):Int) ((Nat.gcd W (Nat.gcd b d):Nat):Int):=λ n=>⟨ad,ss.log⟩;have e3:((W:Int)/((Nat.gcd W (Nat.gcd b d):Nat):Int))=((W/Nat.gcd W (Nat.gcd b d):Nat):Int):=by simp
 have e4:((d:Int)/((Nat.gcd W (Nat.gcd b d):Nat):Int))=((d/Nat.gcd W (Nat.gcd b d):Nat):Int):=by simp
 refine⟨_,rfl,_,rfl,W,Nat.gcd b d,rfl,?_⟩;refine⟨_,rfl,_,rfl,_,_,rfl,rfl,gs W,_,rfl,p,_,_,_,rfl,rfl,hp,rfl,_,rfl,_,_,rfl,rfl,gj,_,rfl,_,rfl,_,_,rfl,rfl,gs d,_,_,rfl,rfl,by rw[e2,e4];exact gm R1 (sd.mono (ċ _ _)),er,λ r hr=>?_⟩
 have:=q r hr;rw[Ĕ,<- e2,<- e3,<- e4] at this;exact this
abbrev CL:Stmt:=bT 23
def AI (K:Frag):Sp:=λ vs H Q _=>∃(p r:Addr)(a b c d:Nat),vs=[.ref p,.ref r]/\Ĭ K H p [.int a,.int b]/\Ĭ K H r [.int c,.int d]/\Sz a/\Sz b/\Sz c/\Sz d/\Q (.bl (decide (a*d<c*b))) H
theorem Gf:ag ["one","other"] ["one","other"] (aa CL):=aL
theorem DQ (F:Ļ K "less_share" "less_share" CL f fd):ð P w K mg base az 1 f fd ["one","other"] (AI K):=by
 refine F.ok Gf (λ vs H Q E h=>?_) (λ cdv A outer s H vs Q E hr h=>?_)
 ·obtain⟨p,r,a,b,c,d,rfl,_⟩:=h;rfl
 obtain⟨p,r,a,b,c,d,rfl,hp,O7,sa,sb,sc,sd,q⟩:=h;refine⟨_,aW (cq (cv kY (ah cG (c5 dR (pv 0) aB) (c5 dR (pv 1) aB)) (ah cG (c5 dR (pv 1) aB) (c5 dR (pv 0) aB)) (ax _))),?_⟩;refine⟨_,rfl,p,_,_,_,rfl,rfl,hp,rfl,_,rfl,r,_,_,_,rfl,rfl,O7,rfl,_,_,rfl,rfl,gm sa sd,?_⟩;refine⟨_,rfl,r,_,_,_,rfl,rfl,O7,rfl,_,rfl,p,_,_,_,rfl,rfl,hp,rfl,_,_,rfl,rfl,gm sc sb,_,_,rfl,rfl,?_⟩;have e:decide ((a:Int)*(d:Int)<(c:Int)*(b:Int))=decide (a*d<c*b):=by
  rw[ź,ġ,ġ];rw[<- Ĕ,<- Ĕ]
  lia
 show Q (.bl (decide ((a:Int)*(d:Int)<(c:Int)*(b:Int)))) H;rw[e];exact q
end
theorem eO {n:Nat}(h:n<=100):Sz n:=ĭ h (å (by decide:100<2^7) (â av av))
def PL (K:Frag)(H:Hp)(v:V)(t b:Nat):Prop:=∃ p,v=.ref p/\Ĭ K H p [.int (t:Nat),.int (b:Nat)]
theorem PL.ext {K:Frag}{H H':Hp}{v:V}{t b:Nat}(h:PL K H v t b)(x:Ext H H'):PL K H' v t b:=by
 obtain⟨p,e,q⟩:=h;exact⟨p,e,My.Ĭ.ext q x⟩
def Qo (K:Frag)(H:Hp)(p:V)(s:Š):Prop:=∃ a sv nv,p=.ref a/\H a\.tup [.int s.hand,sv,nv]/\PL K H sv s.t s.b/\İ H nv s.next
theorem Qo.ext {K:Frag}{H H':Hp}{p:V}{s:Š}(h:Qo K H p s)(x:Ext H H'):Qo K H' p s:=by
 obtain⟨a,sv,nv,e,ha,hs,hn⟩:=h;exact⟨a,sv,nv,e,x _ _ ha,hs.ext x,hn.mono x⟩
inductive Mn (K:Frag)(H:Hp):List V->List Š->Prop
 | nil:Mn K H [] []
 | cons {p:V} {s:Š} {ps:List V} {ss:List Š}:Qo K H p s->Mn K H ps ss->Mn K H (p::ps) (s::ss)
theorem Mn.ext {K:Frag}{H H':Hp}(x:Ext H H'):∀{ps:List V}{ss:List Š},Mn K H ps ss->Mn K H' ps ss
 | _,_,.nil=>.nil
 | _,_,.cons a b=>.cons (a.ext x) (b.ext x)
theorem Mn.app {K:Frag}{H:Hp}:∀{ps qs:List V}{ss ts:List Š},Mn K H ps ss->Mn K H qs ts->Mn K H (ps++qs) (ss++ts)
 | _,_,_,_,.nil,h=>h
 | _,_,_,_,.cons a b,h=>.cons a (b.app h)
theorem Mn.len {K:Frag}{H:Hp}:∀{ps:List V}{ss:List Š},Mn K H ps ss->ps.length=ss.length
 | _,_,.nil=>rfl
 | _,_,.cons _ b=>by rw[à,à,b.len]
theorem Mn.get {K:Frag}{H:Hp}:∀{ps:List V}{ss:List Š},Mn K H ps ss->∀{i:Nat}{p:V},ps[i]?\p->∃ s,ss[i]?\s/\Qo K H p s
 | _,_,.nil,i,p,h=>by simp at h
 | _,_,.cons a b,0,p,h=>by cases h;exact⟨_,rfl,a⟩
 | _,_,.cons a b,i+1,p,h=>b.get h
def Ry (K:Frag)(H:Hp)(l:Addr)(ss:List Š):Prop:=∃ ps,H l\.lst ps/\Mn K H ps ss
def HW (K:Frag)(H H':Hp)(l:Addr)(ss:List Š):Prop:=H l=none/\Ry K H' l ss
theorem Ext.back {H H':Hp}{l:Addr}(x:Ext H H')(h:H' l=none):H l=none:=by
 cases e:H l with
 | none=>rfl
 | some o=>rw[x _ _ e] at h;cases h
section
variable {P:Program}{w:World}{K:Frag}{mg:bD}{base:Heap}{f a1 a2 a3 n1:Addr}{fd d1 d2 d3:FuncData}
abbrev Jd:Stmt:=bT 18
def vO:Sp:=λ vs H Q _=>∃ a b:Nat,vs=[.int a,.int b]/\1<=b/\a<=b/\Sz b/\∀ p,H p=none->Q (.ref p) (ak H p (.tup [.int (aM a b:Nat),.int (ar a b:Nat)]))
theorem Tq:ag ["top","bottom","common"] ["top","bottom"] (aa Jd):=aL
theorem GR (F:Ļ K "share_of" "share_of" Jd f fd) (A1:Df P w K mg base az 3 "is_part" ["top","bottom"] (qt K) a1 d1) (A2:Df P w K mg base az 1 "greatest_common" ["one","other"] mj a2 d2):ð P w K mg base az 4 f fd ["top","bottom"] vO:=by
 refine F.ok Tq (λ vs H Q E h=>?_) (λ cdv A outer s H vs Q E hr h=>?_)
 ·obtain⟨a,b,rfl,_⟩:=h;rfl
 obtain⟨a,b,rfl,b1,ab,MV,q⟩:=h;have nd:=Tq.nd;have Ń:Ă 1 _:=hr.mono av;refine⟨_,bA (aT (cA (bO (cg A1 hr aj (ae (pv 0) (ae (pv 1) aq))))) (aW c7) eM)
  (bA (cB (i:=2) nd rfl (Or.inl rfl) (cg A2 Ń aj (ae (pv 0) (ae (pv 1) aq))))
  (aW (cq (aI (ae (ah bS (pv 0) (pv 2)) (ae (ah bS (pv 1) (pv 2)) aq)))))),?_⟩
 have Z9:mU (.int (a:Nat)) (.int (b:Nat))=true:=by
  show(decide ((1:Int)<=(b:Nat))&&(decide ((0:Int)<=(a:Nat))&&decide (((a:Nat):Int)<=(b:Nat))))=true;rw[Ê ad,Ê ad,Ê ad];rfl
 have g0:0<Nat.gcd a b:=õ a b1;have gl:Sz (Nat.gcd a b):=MV.mono (ø b1 (ç a b));have gd:∀ n:Nat,nt ((n:Nat):Int) ((Nat.gcd a b:Nat):Int):=λ n=>⟨ad,gl.log⟩;refine⟨_,rfl,_,rfl,_,_,rfl,.inl ⟨_,rfl⟩,.inl ⟨_,rfl⟩,?_⟩;rw[Z9];refine⟨_,rfl,dW ⟨_,rfl,_,rfl,a,b,rfl,?_⟩⟩;refine⟨_,rfl,_,rfl,_,_,rfl,rfl,gd a,_,rfl,_,rfl,_,_,rfl,rfl,gd b,er,λ p hp=>?_⟩;have e1:((a:Int)/((Nat.gcd a b:Nat):Int))=((aM a b:Nat):Int):=by simp[aM]
 have e2:((b:Int)/((Nat.gcd a b:Nat):Int))=((ar a b:Nat):Int):=by simp[ar]
 show Q (.ref p) (ak H p (.tup [.int ((a:Int)/((Nat.gcd a b:Nat):Int)),.int ((b:Int)/((Nat.gcd a b:Nat):Int))]));rw[e1,e2];exact q p hp
abbrev JZ:Stmt:=bT 21
def HJ (K:Frag):Sp:=λ vs H Q _=>∃(p r:Addr)(x y:Nat),vs=[.ref p,.ref r]/\Ĭ K H p [.int (1:Nat),.int (1:Nat)]/\Ĭ K H r [.int (x:Nat),.int (y:Nat)]/\x<y/\y<=100/\∀ l,H l=none->Q (.ref l) (ak H l (.tup [.int (y-x:Nat),.int (y:Nat)]))
theorem K5:ag ["one","other"] ["one","other"] (aa JZ):=aL
theorem Hf (F:Ļ K "minus_share" "minus_share" JZ f fd) (A1:Df P w K mg base az 1 "less_share" ["one","other"] (AI K) a1 d1) (A2:Df P w K mg base az 2 "added" ["one","top","bottom"] (wT K) a2 d2):ð P w K mg base az 3 f fd ["one","other"] (HJ K):=by
 refine F.ok K5 (λ vs H Q E h=>?_) (λ cdv A outer s H vs Q E hr h=>?_)
 ·obtain⟨p,r,x,y,rfl,_⟩:=h;rfl
 obtain⟨p,r,x,y,rfl,hp,O7,xy,RR,q⟩:=h;have Ń:Ă 1 _:=hr.mono av;refine⟨_,bA (aT (bO (cg A1 Ń aj (ae (pv 0) (ae (pv 1) aq)))) (aW c7) eM)
  (aW (cq (cg A2 hr aj (ae (pv 0) (ae (mQ i5 (c5 dR (pv 1) aB)) (ae (c5 dR (pv 1) aB) aq)))))),?_⟩
 have s1:Sz 1:=eO av;have sx:Sz x:=eO ad;have sy:Sz y:=eO RR;refine⟨_,rfl,_,rfl,p,r,1,1,x,y,rfl,hp,O7,s1,s1,sx,sy,?_⟩;rw[show decide (1*y<x*1)=false from Ò ad];refine⟨_,rfl,dW ⟨_,rfl,_,rfl,r,_,0,_,rfl,rfl,O7,qF (j:=0) rfl,_,rfl,_,rfl,r,_,1,_,rfl,rfl,O7,qF (j:=1) rfl,?_⟩⟩;refine⟨p,1,1,x,y,y-x,_,rfl,hp,.inr rfl,s1,s1,sx,sy,Å _,ad,?_,λ l hl=>?_⟩
 ·rw[Nat.gcd_one_left,Ŋ,Ŋ]
  lia
 ·have:=q l hl;rw[Nat.gcd_one_left,Nat.gcd_one_right,Ŋ,Ŋ,Ŋ,MH];exact this
abbrev Ke:Stmt:=bT 33
def oU (K:Frag):Sp:=λ vs H Q _=>∃(r:Addr)(z o:V)(x y:Nat)(dz dO:PyData),vs=[.ref r,z,o]/\Ĭ K H r [.int (x:Nat),.int (y:Nat)]/\x<y/\y<=100/\İ H z dz/\İ H o dO/\∀ l H',Ext H H'->HW K H H' l [⟨0,y-x,y,dz⟩,⟨1,x,y,dO⟩]->Q (.ref l) H'
theorem Ki:ag ["coin","zero","one"] ["coin","zero","one"] (aa Ke):=aL
theorem F9 (F:Ļ K "coin_steps" "coin_steps" Ke f fd) (A1:Df P w K mg base az 3 "minus_share" ["one","other"] (HJ K) a1 d1) (mA:mg "ALL"\.ref n1) (tA:lF K n1 [.int (1:Nat),.int (1:Nat)]):ð P w K mg base az 4 f fd ["coin","zero","one"] (oU K):=by
 refine F.ok Ki (λ vs H Q E h=>?_) (λ cdv A outer s H vs Q E hr h=>?_)
 ·obtain⟨r,z,o,x,y,dz,dO,rfl,_⟩:=h;rfl
 obtain⟨r,z,o,x,y,dz,dO,rfl,O7,xy,RR,rz,ro,q⟩:=h;refine⟨_,aW (cq (eJ (ae (aI (ae aB (ae (cg A1 hr aj (ae (be (v:=.ref n1) rfl mA rfl) (ae (pv 0) aq))) (ae (pv 1) aq)))) (ae (aI (ae aB (ae (pv 0) (ae (pv 2) aq)))) aq)))),?_⟩;refine⟨_,rfl,n1,r,x,y,rfl,.inr tA,O7,xy,RR,λ m hm=>?_⟩;obtain⟨H1,x1,g1,eU⟩:=eD hm (.tup [.int (y-x:Nat),.int (y:Nat)]);rw[eU];refine⟨_,rfl,er,λ a ha=>?_⟩;obtain⟨H2,x2,g2,eU⟩:=eD ha (.tup [.int 0,.ref m,z]);rw[eU];refine⟨_,rfl,_,rfl,er,λ b hb=>⟨er,λ l hl=>?_⟩⟩;have x3:=Ext.new (o:=.tup [.int 1,.ref r,o]) hb;have g3:ak H2 b (.tup [.int 1,.ref r,o]) b\.tup [.int 1,.ref r,o]:=bz;have x4:=Ext.new (o:=.lst [.ref a,.ref b]) hl;have QN:=x3.trans x4;have U1:=(x1.trans x2).trans QN;exact q l _ U1 ⟨((x1.trans x2).trans x3).back hl,_,bz,.cons ⟨a,.ref m,z,rfl,QN _ _ g2,⟨m,rfl,Ĭ.of ((x2.trans QN) _ _ g1)⟩,rz.mono U1⟩ (.cons ⟨b,.ref r,o,rfl,x4 _ _ g3,⟨r,rfl,My.Ĭ.ext O7 U1⟩,ro.mono U1⟩ .nil)⟩
end
theorem Ĭ.ξ {K:Frag}{H H':Hp}{p:Addr}{xs:List V}(h:Ĭ K H p xs)(s:Fb H H'):Ĭ K H' p xs:=by
 rcases h with h | h
 ·left;rcases h with h | ⟨o,h⟩
  ·exact .inl (s _ _ h (λ _ e=>by cases e))
  ·exact .inr ⟨o,s _ _ h (λ _ e=>by cases e)⟩
 ·exact .inr h
theorem Qo.ξ {K:Frag}{H H':Hp}{p:V}{s:Š}(h:Qo K H p s)(k:Fb H H')(n:bf s.next=true):Qo K H' p s:=by
 obtain⟨a,sv,nv,e,ha,⟨q,eq,hq⟩,hn⟩:=h;exact⟨a,sv,nv,e,k _ _ ha (λ _ e=>by cases e),⟨q,eq,My.Ĭ.ξ hq k⟩,hn.ξ k n⟩
theorem Mn.ξ {K:Frag}{H H':Hp}(k:Fb H H'):∀{ps:List V}{ss:List Š},Mn K H ps ss->(∀ s∈ss,bf s.next=true)->Mn K H' ps ss
 | _,_,.nil,_=>.nil
 | _,_,.cons a b,h=>.cons (a.ξ k (h _ (Ï ..))) (b.ξ k λ s hs=>h s (Ì _ hs))
section
variable {P:Program}{w:World}{K:Frag}{mg:bD}{base:Heap}{C:Nat->Addr}{CR f a1 n1:Addr}{fd d1:FuncData}
def zO (K:Frag)(C:Nat->Addr)(i:Nat):Sp:=λ vs H Q _=>∃(v st:V)(x:Int)(r:R0)(sd:PyData),vs=[v,st,.int x]/\Ru C H (.one r) v/\r.kind=i/\r.ok/\0<=x/\x<r.ö/\r.J_ x sd/\İ H st sd/\∀ l H',Ext H H'->HW K H H' l (r.steps sd x)->Q (.ref l) H'
abbrev CZ:Stmt:=bn (bT 35) 1
abbrev LT:List Str:=["self","state","at","left","ways"]
theorem Rc:ag LT ["self","state","at"] (aa CZ):=aL
def rY (K:Frag)(te:TE):TS:=jW (KG K "list" oh (af 4) (aw te aS))
def zZ (h:Int)(e n:TE):TE:=iP (aw (tC (.int h)) (aw (cV vO [] E0 (aw e (aw (af 3) aS))) (aw n aS)))
def pE (a b:TE):TE:=bR (dQ λ i j=>.int (i-j)) a b
theorem vj {De:bH}{H:Hp}{σ:St}{l:Addr}{ys:List V}{ss:List Š}{h y:Int}{e n:TE}{a b:Nat}(s4:σ[4]?\some (.ref l))(s3:σ[3]?\some (.int (b:Nat)))(hl:H l\.lst ys)(al:Mn K H ys ss)(VN:∀ s∈ss,bf s.next=true)(len:ys.length<=10)(he:∀ R:VK,R (.int (a:Nat)) H->e σ H R)(hn:∀(H1:Hp) (R:VK),R (.int y) H1->n σ H1 R)(b1:1<=b)(ab:a<=b)(MV:b<=100)
  (k:∀ p H',(∀ H0,Ext H0 H->H0 l=none->Ext H0 H')->H' l\.lst (ys ++ [p])->Mn K H' (ys ++ [p]) (ss ++ [⟨h,aM a b,ar a b,.int y⟩])->De.nx σ H'):rY K (zZ h e n) De σ H:=by
 refine⟨_,s4,.inl ⟨rfl,_,Ğ.of hl⟩,he _ ⟨_,s3,a,b,rfl,b1,ab,eO MV,λ m hm=>?_⟩⟩;obtain⟨H1,x1,g1,eU⟩:=eD hm (.tup [.int (aM a b:Nat),.int (ar a b:Nat)]);rw[eU];refine hn H1 _ ⟨er,λ p hp=>?_⟩;obtain⟨H2,x2,g2,eU⟩:=eD hp (.tup [.int h,.ref m,.int y]);rw[eU];have J':=x1.trans x2;have Pr:=J' _ _ hl;refine⟨l,ys,.ref p,rfl,rfl,Pr,by rw[è];lia,?_⟩
 have kp:=LD (.lst (ys ++ [.ref p])) Pr;refine k (.ref p) _ (λ H0 x0 n0=>aZ _ (x0.trans J') n0) bz ?_;refine Mn.ξ kp (Mn.app (al.ext J') (.cons ⟨p,.ref m,.int y,rfl,g2,⟨m,rfl,Ĭ.of (x2 _ _ g1)⟩,.int _⟩ .nil)) λ s hs=>?_;rcases é.mp hs with z | z
 ·exact VN s z
 ·rw[Í.mp z];rfl
theorem DX (Z:KR K C CR)(F:Ļ K "steps" "Split.steps" CZ f fd) (A1:Df P w K mg base az 4 "share_of" ["top","bottom"] vO a1 d1):ð P w K mg base az 5 f fd ["self","state","at"] (zO K C 0):=by
 refine F.ok Rc (λ vs H Q E h=>?_) (λ cdv A outer s H vs Q E hr h=>?_)
 ·obtain⟨v,st,x,r,sd,rfl,_⟩:=h;rfl
 obtain⟨v,st,x,r,sd,rfl,ru,ek,ok,x0,x1,vs,rd,q⟩:=h;have nd:=Rc.nd;refine⟨aO (bQ (pE (rJ K (af 0) "size") (af 2)) (aJ 3)) (aO (bQ (iZ aS) (aJ 4)) (aO (cE (tB (bR (dQ λ i j=>.bl (decide (i<j))) (af 1) (af 3))) (rY K (zZ 0 (pE (af 3) (af 1)) (af 1))) br)
   (aO (cE (tB (bR (dQ λ i j=>.bl (decide (i>j))) (af 1) (tC (.int 0)))) (rY K (zZ 1 (af 1) (pE (af 1) (tC (.int 1))))) br) (cH (af 4))))),
  bA (cB (i:=3) nd rfl (Or.inl rfl) (ah bJ (Eb (pv 0) rfl) (pv 2)))
  (bA (cB (i:=4) nd rfl (Or.inl rfl) (eJ aq))
  (bA (aT (ay kY (pv 1) (pv 3) (ax _)) (aW (aG (yp Bk t_ s_ gK (pv 4) (ae (aI (ae aB (ae (cg A1 hr aj (ae (ah bJ (pv 3) (pv 1)) (ae (pv 3) aq))) (ae (pv 1) aq)))) aq)))) eM)
  (bA (aT (ay gc (pv 1) aB (ax _)) (aW (aG (yp Bk t_ s_ gK (pv 4) (ae (aI (ae aB (ae (cg A1 hr aj (ae (pv 1) (ae (pv 3) aq))) (ae (ah bJ (pv 1) aB) aq)))) aq)))) eM)
  (aW (cq (pv 4)))))),?_⟩
 cases r with
 | pairs _ _ _=>cases ek
 | û _ _ _ _=>cases ek
 | split n k =>
  obtain⟨s,rfl,s0,s1⟩:=vs;cases rd;obtain⟨h1,h2,h3,h4⟩:=ok;obtain⟨a,dx,fs,rfl,ha,hz,_⟩:=ru.ob.ex;have xn:x<n:=x1;obtain⟨b,eb⟩:∃ b:Nat,n-x=(b:Int):=⟨(n-x).toNat,ad⟩;refine aE (i:=3) (D:=⟨_,Q,_,_⟩) ⟨_,rfl,a,_,dx,fs,_,rfl,ha,Z.cls 0 av,Z.no 0 av "size" aF,hz,_,rfl,_,_,rfl,rfl,?_⟩;show aO _ _ _ [some (.ref a),some (.int s),some (.int x),some (.int (n-x)),none] H;rw[eb];refine aE (i:=4) (D:=⟨_,Q,_,_⟩) ⟨er,λ l hl=>?_⟩;show aO _ _ _ [some (.ref a),some (.int s),some (.int x),some (.int (b:Nat)),some (.ref l)] (ak H l (.lst []));obtain⟨H1,y1,gl,eU⟩:=eD hl (.lst []);rw[eU];have e1:(n-x).toNat=b:=ad;have second:∀(ys:List V)(ss:List Š)(H2:Hp),Ext H H2->H2 l\.lst ys->Mn K H2 ys ss->(∀ s∈ss,bf s.next=true)->ys.length<=10->(ss++(if 0<s then [⟨1,aM s.toNat b,ar s.toNat b,.int (s-1)⟩] else [])=R0.steps (.split n k) (.int s) x)->aO (cE (tB (bR (dQ λ i j=>.bl (decide (i>j))) (af 1) (tC (.int 0)))) (rY K (zZ 1 (af 1) (pE (af 1) (tC (.int 1))))) br) (cH (af 4)) ⟨λ _ H'=>Q .Ę H',Q,λ _ _=>False,λ _ _=>False⟩ [some (.ref a),some (.int s),some (.int x),some (.int (b:Nat)),some (.ref l)] H2:=λ ys ss H2 x2 h2 al VN len e=>by
   refine⟨_,rfl,_,_,rfl,rfl,_,rfl,?_⟩;refine gO (λ c=>?_) (λ c=>⟨_,rfl,q l H2 x2 ⟨hl,ys,h2,?_⟩⟩)
   ·have c':0<s:=Þ c;obtain⟨t,rfl⟩:∃ t:Nat,s=(t:Int):=⟨s.toNat,ad⟩;rw[Ë c',Ü] at e;refine vj (a:=t) (b:=b) (y:=(t:Int)-1) rfl rfl h2 al VN len (λ R r=>⟨_,rfl,r⟩) (λ H3 R r=>⟨_,rfl,_,_,rfl,rfl,r⟩) ad ad ad λ p H3 x3 h3 WN=>⟨_,rfl,q l H3 (x3 H x2 hl) ⟨hl,_,h3,?_⟩⟩;rw[<- e];exact WN
   ·rw[<- e,Æ (λ z=>c (Ê z)),Ľ];exact al
  refine⟨_,rfl,_,rfl,_,_,rfl,rfl,_,rfl,?_⟩;refine gO (λ c=>?_) (λ c=>?_)
  ·have c':s<(b:Int):=Þ c;obtain⟨t,et⟩:∃ t:Nat,(b:Int)-s=(t:Int):=⟨((b:Int)-s).toNat,ad⟩;refine vj (a:=t) (b:=b) (y:=s) rfl rfl gl .nil (λ _ h=>nomatch h) (by show 0<=10;decide) (λ R r=>⟨_,rfl,_,rfl,_,_,rfl,rfl,by show R (.int ((b:Int)-s)) _;rw[et];exact r⟩) (λ H3 R r=>⟨_,rfl,r⟩) ad ad ad λ p H3 x3 h3 WN=>?_
   refine second _ _ H3 (x3 H y1 hl) h3 WN (λ z hz=>by rw[Í.mp hz];rfl) (by show 1<=10;decide) ?_
   show _=(if s<n-x then _ else _)++_
   rw[Ë (show s<n-x by lia),e1,show(n-x-s).toNat=t by lia]
   rfl
  ·refine second [] [] H1 y1 gl .nil (λ _ h=>nomatch h) (by show 0<=10;decide) ?_
   have c':¬ s<(b:Int):=λ z=>c (Ê z);show _=(if s<n-x then _ else _)++_
   rw[Æ (show ¬ s<n-x by lia),e1]
end
section
variable {P:Program}{w:World}{K:Frag}{mg:bD}{base:Heap}{C:Nat->Addr}{CR f a1 n1:Addr}{fd d1:FuncData}
def qi (n1:Addr)(e n:TE):TS:=cH (iZ (aw (iP (aw e (aw (tC (.ref n1)) (aw n aS)))) aS))
theorem nF {D:bH}{H:Hp}{σ:St}{e n:TE}{h:Int}{nv:V}{nd:PyData}(tA:lF K n1 [.int (1:Nat),.int (1:Nat)])(he:∀ R:VK,R (.int h) H->e σ H R)(hn:∀ R:VK,R nv H->n σ H R)(rn:∀ H',İ H' nv nd)(q:∀ l H',Ext H H'->HW K H H' l [⟨h,1,1,nd⟩]->D.rt (.ref l) H'):qi n1 e n D σ H:=by
 refine he _ (hn _ ⟨er,λ p hp=>⟨er,λ l hl=>?_⟩⟩);have x1:=Ext.new (o:=.tup [.int h,.ref n1,nv]) hp;have g1:ak H p (.tup [.int h,.ref n1,nv]) p\.tup [.int h,.ref n1,nv]:=bz;have x2:=Ext.new (o:=.lst [.ref p]) hl;exact q l _ (x1.trans x2) ⟨x1.back hl,_,bz,.cons ⟨p,.ref n1,nv,rfl,x2 _ _ g1,⟨n1,rfl,.inr tA⟩,rn _⟩ .nil⟩
abbrev Ck:Stmt:=bn (bT 36) 1
theorem Gg:ag ["self","state","at"] ["self","state","at"] (aa Ck):=aL
theorem Bl (Z:KR K C CR)(F:Ļ K "steps" "Pairs.steps" Ck f fd) (A1:Df P w K mg base az 4 "coin_steps" ["coin","zero","one"] (oU K) a1 d1) (mA:mg "ALL"\.ref n1) (tA:lF K n1 [.int (1:Nat),.int (1:Nat)]):ð P w K mg base az 5 f fd ["self","state","at"] (zO K C 1):=by
 refine F.ok Gg (λ vs H Q E h=>?_) (λ cdv A outer s H vs Q E hr h=>?_)
 ·obtain⟨v,st,x,r,sd,rfl,_⟩:=h;rfl
 obtain⟨v,st,x,r,sd,rfl,ru,ek,ok,x0,x1,vs,rd,q⟩:=h;refine⟨aO (cE (tB (F0 (af 1))) (cH (cV (oU K) [] E0 (aw (rJ K (af 0) "coin") (aw (tC (.int 0)) (aw (tC (.int 1)) aS))))) br) (qi n1 (pE (tC (.int 1)) (af 1)) (tC .Ę)),
  bA (aT (vR (BE (pv 1))) (aW (cq (cg A1 hr aj (ae (Eb (pv 0) rfl) (ae aB (ae aB aq)))))) eM)
  (aW (cq (eJ (ae (aI (ae (ah bJ aB (pv 1)) (ae (be (v:=.ref n1) rfl mA rfl) (ae ww aq)))) aq)))),?_⟩
 cases r with
 | split _ _=>cases ek
 | û _ _ _ _=>cases ek
 | pairs n a b =>
  obtain⟨h1,h2,h3⟩:=ok;obtain⟨x',y',ea,eb,k1,k2,k3,kg⟩:=dG h3;subst ea eb;have V3:∀ h:Int,sd=.int h->st=.int h:=λ h e=>by subst e;cases rd;rfl
  rcases vs with⟨p,rfl⟩ | ⟨p,hh⟩
  ·cases rd;obtain⟨o,dx,fs,rfl,ho,_,_,_,_,_,c,ec,rc⟩:=Ob.ex ru;cases rc with
   | tup hc ra =>
    cases ra with
    | cons r1 ra =>
     cases r1;cases ra with
     | cons r2 ra =>
      cases r2;cases ra;refine⟨_,rfl,_,rfl,fU ⟨_,rfl,o,C 1,dx,fs,_,rfl,ho,Z.cls 1 av,Z.no 1 av "coin" aF,ec,?_⟩⟩;refine⟨_,.int 0,.int 1,x',y',.int 0,.int 1,rfl,Ĭ.of hc,k2,k3,.int _,.int _,λ l H' xe sl=>q l H' xe ⟨sl.1,?_⟩⟩;have e1:((y':Int)-(x':Int)).toNat=y'-x':=ad;show Ry K H' l [⟨0,((y':Int)-(x':Int)).toNat,(y':Int).toNat,.int 0⟩,⟨1,(x':Int).toNat,(y':Int).toNat,.int 1⟩];rw[e1,Ü,Ü];exact sl.2
  ·obtain⟨h,e⟩:∃ h:Int,sd=.int h:=by rcases hh with e | e <;> exact⟨_,e⟩
   have e':=V3 h e;subst e e';refine⟨_,rfl,_,rfl,dW ?_⟩;show qi n1 (pE (tC (.int 1)) (af 1)) (tC .Ę) _ _ _;exact nF (h:=1-h) (nv:=.Ę) (nd:=.none) tA (λ R r=>⟨_,rfl,_,_,rfl,rfl,r⟩) (λ R r=>r) (λ H'=>.Ę) λ l H' xe sl=>q l H' xe sl
abbrev Cw:Stmt:=bn (bT 37) 1
theorem HR:ag ["self","state","at"] ["self","state","at"] (aa Cw):=aL
theorem E8 (Z:KR K C CR)(F:Ļ K "steps" "Coins.steps" Cw f fd) (A1:Df P w K mg base az 4 "coin_steps" ["coin","zero","one"] (oU K) a1 d1) (mA:mg "ALL"\.ref n1) (tA:lF K n1 [.int (1:Nat),.int (1:Nat)]):ð P w K mg base az 5 f fd ["self","state","at"] (zO K C 2):=by
 refine F.ok HR (λ vs H Q E h=>?_) (λ cdv A outer s H vs Q E hr h=>?_)
 ·obtain⟨v,st,x,r,sd,rfl,_⟩:=h;rfl
 obtain⟨v,st,x,r,sd,rfl,ru,ek,ok,x0,x1,vs,rd,q⟩:=h;refine⟨aO (cE (tB (bR (dQ λ i j=>.bl (decide (j<=i))) (af 1) (rJ K (af 0) "far"))) (qi n1 (tC (.int 0)) (pE (af 1) (tC (.int 1)))) br)
   (aO (cE (tB (bR (dQ λ i j=>.bl (decide (i<=j))) (af 1) (FT (rU λ i=>.int (-i)) (rJ K (af 0) "far")))) (qi n1 (tC (.int 1)) (bR (dQ λ i j=>.int (i+j)) (af 1) (tC (.int 1)))) br)
   (cH (cV (oU K) [] E0 (aw (rJ K (af 0) "coin") (aw (pE (af 1) (tC (.int 1))) (aw (bR (dQ λ i j=>.int (i+j)) (af 1) (tC (.int 1))) aS)))))),
  bA (aT (ay lP (pv 1) (Eb (pv 0) rfl) (ax _)) (aW (cq (eJ (ae (aI (ae aB (ae (be (v:=.ref n1) rfl mA rfl) (ae (ah bJ (pv 1) aB) aq)))) aq)))) eM)
  (bA (aT (ay qh (pv 1) (mQ i5 (Eb (pv 0) rfl)) (ax _)) (aW (cq (eJ (ae (aI (ae aB (ae (be (v:=.ref n1) rfl mA rfl) (ae (ah aP (pv 1) aB) aq)))) aq)))) eM)
  (aW (cq (cg A1 hr aj (ae (Eb (pv 0) rfl) (ae (ah bJ (pv 1) aB) (ae (ah aP (pv 1) aB) aq))))))),?_⟩
 cases r with
 | split _ _=>cases ek
 | pairs _ _ _=>cases ek
 | û n a b g =>
  refine Â λ gg=>?_;obtain⟨h1,h2,h3,h4,h5⟩:=ok;obtain⟨x',y',ea,eb,k1,k2,k3,kg⟩:=dG h3;subst ea eb;obtain⟨s,rfl,s0,s1⟩:=vs;refine gg ?_;cases rd;refine Â λ gg=>?_;obtain⟨o,dx,fs,rfl,ho,_,_,_,_,_,⟨c,ec,rc⟩,ef⟩:=Ob.ex ru;have fld:∀{R:VK}{fn:Str}{y:V},fn∈gk->fs.lookup fn\y->R y H->rJ K (af 0) fn [some (.ref o),some (.int s),some (.int x)] H R:=λ hf e r=>⟨_,rfl,o,C 2,dx,fs,_,rfl,ho,Z.cls 2 av,Z.no 2 av _ hf,e,r⟩;refine gg ?_;refine⟨_,rfl,fld aF ef ⟨_,_,rfl,rfl,_,rfl,gO (λ c=>?_) (λ c=>?_)⟩⟩
  ·have c':g<=s:=Þ c;refine nF (h:=0) (nv:=.int (s-1)) (nd:=.int (s-1)) tA (λ R r=>r) (λ R r=>⟨_,rfl,_,_,rfl,rfl,r⟩) (λ H'=>.int _) λ l H' xe sl=>q l H' xe ⟨sl.1,?_⟩;simp only[R0.steps];rw[Ë c'];exact sl.2
  ·have c':¬ g<=s:=λ z=>c (Ê z);refine⟨_,rfl,fld aF ef ⟨_,rfl,_,_,rfl,rfl,_,rfl,gO (λ d=>?_) (λ d=>?_)⟩⟩
   ·have d':s <= -g:=Þ d;refine nF (h:=1) (nv:=.int (s+1)) (nd:=.int (s+1)) tA (λ R r=>r) (λ R r=>⟨_,rfl,_,_,rfl,rfl,r⟩) (λ H'=>.int _) λ l H' xe sl=>q l H' xe ⟨sl.1,?_⟩;simp only[R0.steps];rw[Æ c',Ë d'];exact sl.2
   ·have d':¬ s <= -g:=λ z=>d (Ê z);cases rc with
    | tup hc ra =>
     cases ra with
     | cons r1 ra =>
      cases r1;cases ra with
      | cons r2 ra =>
       cases r2;cases ra;refine⟨_,rfl,o,C 2,dx,fs,_,rfl,ho,Z.cls 2 av,Z.no 2 av "coin" aF,ec,_,rfl,_,_,rfl,rfl,_,rfl,_,_,rfl,rfl,?_⟩;refine⟨_,.int (s-1),.int (s+1),x',y',.int (s-1),.int (s+1),rfl,Ĭ.of hc,k2,k3,.int _,.int _,λ l H' xe sl=>q l H' xe ⟨sl.1,?_⟩⟩;have e1:((y':Int)-(x':Int)).toNat=y'-x':=ad;simp only[R0.steps];rw[Æ c',Æ d',e1,Ü,Ü];exact sl.2
end
theorem KR.inj {K:Frag}{C:Nat->Addr}{CR:Addr}(Z:KR K C CR){i j:Nat}(hi:i<3)(hj:j<3)(e:C i=C j):i=j:=by
 have h1:=Z.kk i j hi hj;have h2:=Z.kk j j hj hj;rw[e,h2] at h1;have:=á h1;rw[ū] at this;exact þ.mp this.symm
section
variable {P:Program}{w:World}{K:Frag}{mg:bD}{base:Heap}{C:Nat->Addr}{CR f a1 n1:Addr}{fd d1:FuncData}
def tw (K:Frag)(C:Nat->Addr)(c:Addr):Sp:=λ vs H Q _=>∃(v st:V)(x:Int)(t:Rl)(sd:PyData),vs=[v,st,.int x]/\Ru C H t v/\C t.kind=c/\t.ok/\0<=x/\x<t.ö/\t.J_ x sd/\İ H st sd/\∀ l H',Ext H H'->HW K H H' l (t.steps sd x)->Q (.ref l) H'
theorem qr (Z:KR K C CR){i:Nat}(hi:i<3){k:Nat}(F:ð P w K mg base az k f fd ["self","state","at"] (zO K C i)):ð P w K mg base az k f fd ["self","state","at"] (tw K C (C i)):=by
 refine F.imp λ vs H Q E h=>?_;obtain⟨v,st,x,t,sd,rfl,ru,ec,ok,x0,x1,vs,rd,q⟩:=h;have ek:=Z.inj t.ŵ ad ec;cases t with
 | one r=>exact⟨v,st,x,r,sd,rfl,ru,ek,ok,x0,x1,vs,rd,q⟩
theorem pq {m:Str}{S:Addr->Prop}{sp:Addr->Sp}{E:XK}{ta:TE}{tg:TA}{σ:St}{H:Hp}{Q:VK}{t:Rl}{v:V}(hm:m∈hG)(h:Ru C H t v)(hS:S (C t.kind))(ht:∀ R:VK,R v H->ta σ H R)(q:tg σ H λ vs H2=>sp (C t.kind) (v::vs) H2 Q E):dH S m sp E ta tg σ H Q:=by
 obtain⟨a,dx,fs,rfl,ha,_,_,_,_,h5,_⟩:=h.ob.ex;exact ht _ ⟨a,C t.kind,dx,fs,rfl,hS,ha,h5 m hm,q⟩
end
structure Jx (P:Program)(w:World)(K:Frag)(mg:bD)(base:Heap)(C:Nat->Addr)(CN CS:Addr)(f0 f1 f2:Addr)(e0 e1 e2:FuncData):Prop where
 k0:Mk K (C 0) f0
 k1:Mk K (C 1) f1
 k2:Mk K (C 2) f2
 g0:ð P w K mg base (eX P w) 4 f0 e0 ["self","folk","ones"] (p8 C CN)
 g1:ð P w K mg base (eX P w) 6 f1 e1 ["self","pairs","coin"] (rQ C CN CS)
 g2:ð P w K mg base (eX P w) 6 f2 e2 ["self","folk","coin","far"] (sL C CN CS)
 b0:Binds K e0 ["self","folk","ones"] []
 b1:Binds K e1 ["self","pairs","coin"] []
 b2:Binds K e2 ["self","folk","coin","far"] []
 m0:mg "Split"\.ref (C 0)
 m1:mg "Pairs"\.ref (C 1)
 m2:mg "Coins"\.ref (C 2)
section
variable {K:Frag}{C:Nat->Addr}{CN CS CT CM:Addr}{H:Hp}{σ:St}{Q:VK}{E:XK}
theorem j4 {lo hi n:Int}(h1:lo<=n)(h2:n<=hi):ol lo hi (.int n)=true:=by
 show(decide (lo<=n)&&decide (n<=hi))=true;rw[Ê h1,Ê h2];rfl
theorem vD {n k:Int}{t:TA}(ht:∀ R:List V->Hp->Prop,R [.int n,.int k] H->t σ H R)(ok:(R0.split n k).ok)(q:∀ x H',Ext H H'->Ru C H' (.one (.split n k)) (.ref x)->Q (.ref x) H'):gV (C 0) (p8 C CN) [] E0 t σ H Q :=
 ht _ λ x dx hx hd ne=>by
  have xe:=iI (u:=.own x) (v:=.ins (C 0) dx []) hx hd ne;obtain⟨o1,o2,o3,o4⟩:=id ok;refine⟨x,_,_,_,_,dx,rfl,bz,.int _,.int _,λ h=>(by rw[j4 o1 o2] at h;cases h),λ m e _ _ h=>(by cases e;rw[j4 o3 o4] at h;cases h),λ n' k' e1 e2 _ H' kp ru=>⟨rfl,?_⟩⟩
  cases e1;cases e2;exact q x H' (xe.kp hx kp) ru
theorem yn {n a b:Int}{c:V}{t:TA}(ht:∀ R:List V->Hp->Prop,R [.int n,c] H->t σ H R)(rc:İ H c (.tuple [.int a,.int b]))(ok:(R0.pairs n a b).ok)(q:∀ x H',Ext H H'->Ru C H' (.one (.pairs n a b)) (.ref x)->Q (.ref x) H'):gV (C 1) (rQ C CN CS) [] E0 t σ H Q :=
 ht _ λ x dx hx hd ne=>by
  have xe:=iI (u:=.own x) (v:=.ins (C 1) dx []) hx hd ne;obtain⟨o1,o2,o3⟩:=id ok;refine⟨x,_,_,_,_,dx,rfl,bz,.int _,rc.mono xe,λ h=>(by rw[j4 o1 o2] at h;cases h),λ _ h=>(by rw[o3] at h;cases h),λ n' a' b' e1 e2 _ H' kp ru=>⟨rfl,?_⟩⟩
  cases e1;cases e2;exact q x H' (xe.kp hx kp) ru
theorem vy {n a b f:Int}{c:V}{t:TA}(ht:∀ R:List V->Hp->Prop,R [.int n,c,.int f] H->t σ H R)(rc:İ H c (.tuple [.int a,.int b]))(ok:(R0.û n a b f).ok)(q:∀ x H',Ext H H'->Ru C H' (.one (.û n a b f)) (.ref x)->Q (.ref x) H'):gV (C 2) (sL C CN CS) [] E0 t σ H Q :=
 ht _ λ x dx hx hd ne=>by
  have xe:=iI (u:=.own x) (v:=.ins (C 2) dx []) hx hd ne;obtain⟨o1,o2,o3,o4,o5⟩:=id ok;refine⟨x,_,_,_,_,_,_,dx,rfl,bz,.int _,rc.mono xe,.int _,λ h=>(by rw[j4 o1 o2] at h;cases h),λ _ h=>(by rw[o3] at h;cases h),λ _ _ h=>(by rw[j4 o4 o5] at h;cases h),λ n' a' b' f' e1 e2 e3 _ H' kp ru=>⟨rfl,?_⟩⟩
  cases e1;cases e2;cases e3;exact q x H' (xe.kp hx kp) ru
end
section
variable {P:Program}{w:World}{K:Frag}{mg:bD}{base:Heap}{C:Nat->Addr}{CR f a1 n1:Addr}{fd d1:FuncData}
theorem ε (r:R0)(sd:PyData)(x:Int):(r.steps sd x).length<=2:=by
 unfold R0.steps;split
 ·rw[Õ];split <;> split <;> simp
 ·simp
 ·simp
 ·split
  ·simp
  ·split <;> simp
 ·simp
theorem Rl.ε:∀(t:Rl)(sd:PyData)(x:Int),(t.steps sd x).length<=2
 | .one r,sd,x=>My.ε r sd x
end
def dU:NK->PyData
 | .k x=>lG x
 | .t ks=>.tuple (ks.map lG)
def Fh:PyData->Key
 | .int i=>.inl i
 | _=>.Ę
def dh:PyData->NK
 | .tuple ds=>.t (ds.map Fh)
 | d=>.k (Fh d)
def hE:PyData->Bool
 | .int _=>true
 | .none=>true
 | _=>false
def oj (tp:Bool):PyData->Bool
 | .tuple [.int _,d]=>tp&&hE d
 | d=>!tp&&hE d
theorem F6 (h:hE d=true):lG (Fh d)=d:=by
 cases d with
 | int i=>rfl
 | none=>rfl
 | _=>cases h
theorem tz (h:oj tp d=true):dU (dh d)=d:=by
 cases d with
 | int i=>rfl
 | none=>rfl
 | tuple ds =>
  match ds,h with
  | [.int i,d],h =>
   have h':(tp&&hE d)=true:=h;rw[Ĵ] at h';show PyData.tuple [.int i,lG (Fh d)]=_;rw[F6 h'.2]
  | [],h | [_],h | (_::_::_::_),h=>simp[oj,hE] at h
  | [.none,_],h | [.bool _,_],h | [.str _,_],h | [.list _,_],h | [.tuple _,_],h | [.dict _,_],h=>simp[oj,hE] at h
 | _=>simp[oj,hE] at h
def Rl.tp:Rl->Bool
 | .one _=>false
theorem tQ (h:hE d=true):oj false d=true:=by
 cases d with
 | int i=>rfl
 | none=>rfl
 | _=>cases h
theorem R0.S2 {r:R0}(v:r.J_ x st):hE st=true:=by
 cases r with
 | split n k=>obtain⟨s,rfl,_⟩:=v;rfl
 | pairs n a b=>rcases v with⟨_,rfl⟩ | ⟨_,rfl | rfl⟩ <;> rfl
 | û n a b f=>obtain⟨s,rfl,_⟩:=v;rfl
theorem R0.ME (r:R0):hE r.begin=true:=by cases r <;> rfl
theorem Rl.ME:∀(t:Rl),t.ok->oj t.tp t.begin=true
 | .one r,_=>tQ r.ME
theorem Rl.R5:∀{t:Rl}{x:Int}{st:PyData},t.ok->0<=x->x<t.ö->t.J_ x st->∀ s∈t.steps st x,oj t.tp s.next=true
 | .one r,x,st,ok,x0,x1,v,s,hs=>tQ (R0.S2 ((R0.Œ ok x0 x1 v).1 s hs).2)
def Rl.dd:Rl->Int->Nat
 | .one r,x=>r.dd x
theorem Rl.NL:∀{t:Rl}{x:Int}{st:PyData},t.ok->0<=x->x<t.ö->t.J_ x st->1<=t.dd x/\t.dd x<=100/\(∀ s∈t.steps st x,s.b ∣ t.dd x)/\((t.steps st x).map λ s=>s.part (t.dd x)).sum=t.dd x
 | .one r,x,st,ok,x0,x1,v=>R0.QP ok x0 x1 v
theorem z9 {ss:List Š}(h1:∀ s∈ss,1<=s.b)(hd:∀ s∈ss,s.b ∣ d)(hF:∀ s∈ss,s.b ∣ F)(d0:0<d)(e:(ss.map λ s=>s.part d).sum=d):(ss.map λ s=>s.part F).sum=F:=by
 have one:∀ s∈ss,s.part F*d=s.part d*F:=λ s hs=>by
  obtain⟨a,ha⟩:=hd s hs;obtain⟨c,hc⟩:=hF s hs;have b1:=h1 s hs;unfold Š.part;rw[ha,hc,ú _ b1,ú _ b1]
  ac_rfl
 have all:∀(l:List Š),(∀ s∈l,s∈ss)->(l.map λ s=>s.part F).sum*d=(l.map λ s=>s.part d).sum*F:=λ l=>by
  induction l with
  | nil=>intro _;simp
  | cons s l ih =>
   intro h;simp only[List.map_cons,List.sum_cons,Nat.add_mul];rw[one s (h s (Ï ..)),ih λ q hq=>h q (Ì _ hq)]
 have z:=all ss λ _ h=>h;rw[e,ρ d F] at z;exact b_ d0 z
theorem mf (h:n<=10^300):Sz n:=ĭ h (å (by decide:(10:Nat)^300<2^1000) (â av av))
theorem yJ:aM N D<=N:=ċ _ _
structure Bg where
 d:Nat
 st:PyData
 s:Int
 t:Nat
 b:Nat
def Bg.more (r:Bg)(k:Nat)(c:Int)(s:Š):Bg:=⟨r.d+(if s.hand=1 then 2^k else 0),s.next,r.s+s.hand*c,r.t*s.t,r.b*s.b⟩
def dw (t:Rl)(sc:List Int):Nat->List Bg
 | 0=>[⟨0,t.begin,0,1,1⟩]
 | k+1=>(dw t sc k).flatMap λ r=>(t.steps r.st (k:Nat)).map λ s=>r.more k (sc.getD k 0) s
abbrev TK:=NK × Int
def Bg.key (r:Bg):TK:=(dh r.st,r.s)
def Bg.part (r:Bg)(D:Nat):Nat:=r.t*(D/r.b)
abbrev Tw:=List (TK × Nat)
def lE:Tw->TK->Nat
 | [],_=>0
 | p::ps,k=>if p.1=k then p.2 else lE ps k
def bo:Tw->TK->Nat->Tw
 | [],k,c=>[(k,c)]
 | p::ps,k,c=>if p.1=k then(p.1,p.2+c)::ps else p::bo ps k c
def tS (g:TK->Nat)(ps:Tw):Nat:=(ps.map λ p=>p.2*g p.1).sum
theorem vN (g:TK->Nat):∀(ps:Tw)(k:TK)(c:Nat),tS g (bo ps k c)=tS g ps+c*g k
 | [],k,c=>by simp[bo,tS]
 | p::ps,k,c=>by
  have ih:=vN g ps k c;unfold tS at ih ⊢;unfold bo;split
  ·grind
  ·grind
theorem km:∀(ps:Tw)(k:TK)(c:Nat),(bo ps k c).length<=ps.length+1
 | [],k,c=>by simp[bo]
 | p::ps,k,c=>by
  have ih:=km ps k c;unfold bo;split
  ·simp
  ·grind
theorem qo:∀{ps:Tw}{k:TK}{c:Nat}{q:TK},q∈(bo ps k c).map (·.1)->q=k\/q∈ps.map (·.1)
 | [],k,c,q,h=>by
  left
  simpa[bo] using h
 | p::ps,k,c,q,h=>by
  unfold bo at h;split at h
  ·grind
  ·rw[É,Ö] at h;rcases h with h | h
   ·grind
   ·rcases qo h with z | z
    ·grind
    ·grind
theorem nO:∀{ps:Tw}{k:TK}{c:Nat},(ps.map (·.1)).Nodup->((bo ps k c).map (·.1)).Nodup
 | [],k,c,_=>by simp[bo]
 | p::ps,k,c,h=>by
  rw[É,ï] at h;unfold bo;split
  ·grind
  ·rename_i ne
   rw[É,ï];refine⟨λ z=>?_,nO h.2⟩;rcases qo z with q | q
   ·grind
   ·grind
theorem pF:∀{ps:Tw}{k:TK}{c:Nat},0<c->(∀ p∈ps,0<p.2)->∀ p∈bo ps k c,0<p.2
 | [],k,c,c0,_,p,h=>by
  rw[show p=(k,c) by simpa[bo] using h]
  exact c0
 | q::ps,k,c,c0,a,p,h=>by
  unfold bo at h;split at h
  ·grind
  ·rcases Ö.mp h with rfl | h
   ·grind
   ·exact pF c0 (λ z hz=>a z (Ì _ hz)) p h
theorem yE (h:p∈ps):p.2<=tS (λ _=>1) ps:=by
 induction ps with
 | nil=>cases h
 | cons q ps ih =>
  unfold tS at ih ⊢;simp only[List.map_cons,List.sum_cons,Nat.mul_one] at ih ⊢;rcases Ö.mp h with rfl | h
  ·lia
  ·grind
theorem nr:∀{ps:Tw}{k:TK},(ps.map (·.1)).Nodup->tS (λ q=>if q=k then 1 else 0) ps=lE ps k
 | [],k,_=>rfl
 | p::ps,k,h=>by
  rw[É,ï] at h;have ih:=nr (k:=k) h.2;unfold tS at ih ⊢;unfold lE;simp only[List.map_cons,List.sum_cons];by_cases e:p.1=k
  ·rw[Ë e,Ë e,ť,ih];have z:lE ps k=0:=by
    have no:k ∉ ps.map (·.1):=by rw[<- e];exact h.1
    clear ih h
    induction ps with
    | nil=>rfl
    | cons q ps ih =>
     rw[É,Ö,not_or] at no;unfold lE;rw[Æ (λ z=>no.1 z.symm)];exact ih no.2
   lia
  ·grind
def DD (t:Rl):Nat->Nat
 | 0=>1
 | k+1=>DD t k*t.dd (k:Nat)
structure Lay (t:Rl)(sc:List Int)(k D:Nat)(ps:Tw):Prop where
 D0:0<D
 nd:(ps.map (·.1)).Nodup
 dv:∀ r∈dw t sc k,r.b ∣ D
 g:∀ g:TK->Nat,tS g ps=((dw t sc k).map λ r=>r.part D*g r.key).sum
 pos:∀ p∈ps,0<p.2
 one:tS (λ _=>1) ps=D
 len:ps.length<=2^k
 dd:D ∣ DD t k
structure Bg.ok (t:Rl)(k:Nat)(r:Bg):Prop where
 st:oj t.tp r.st=true
 v:(k:Int)<t.ö->t.J_ (k:Nat) r.st
 d:r.d<2^k
 t1:1<=r.t
 tb:r.t<=r.b
 dv:r.b ∣ DD t k
theorem dC {t:Rl}{k:Nat}(ok:t.ok)(hk:(k:Int)<t.ö)(v:t.J_ (k:Nat) st):∀ s∈t.steps st (k:Nat),s.good/\oj t.tp s.next=true/\(((k:Int)+1<t.ö)->t.J_ ((k:Int)+1) s.next)/\s.b ∣ t.dd (k:Nat):=λ s hs=>by
 have k0:(0:Int)<=(k:Nat):=ad;obtain⟨h1,h2⟩:=Rl.Œ ok k0 hk v;exact⟨(h1 s hs).1,Rl.R5 ok k0 hk v s hs,(h1 s hs).2,(Rl.NL ok k0 hk v).2.2.1 s hs⟩
theorem f9 (ok:t.ok):∀{k:Nat},(k:Int)<=t.ö->∀ r∈dw t sc k,r.ok t k
 | 0,h,r,hr=>by
  rw[show r=⟨0,t.begin,0,1,1⟩ by simpa[dw] using hr]
  exact⟨Rl.ME t ok,λ z=>Rl.Pj ok (by simpa using z),(by show 0<2^0;decide),Å _,Å _,Χ _⟩
 | k+1,h,r,hr=>by
  have hk:(k:Int)<t.ö:=ad;obtain⟨q,hq,hr⟩:=ŭ.mp hr;obtain⟨s,hs,rfl⟩:=ë.mp hr;have o:=f9 ok (Ŀ hk) q hq;obtain⟨g,s1,s2,s3⟩:=dC ok hk (o.v hk) s hs;refine⟨s1,λ z=>by have:=s2 ad;simpa[Bg.more] using this,?_,?_,?_,?_⟩
  ·have:=o.d;have e:2^(k+1)=2^k*2:=ı ..;show q.d+(if s.hand=1 then 2^k else 0)<2^(k+1)
   split <;> lia
  ·exact Ħ o.t1 g.t1
  ·exact Δ o.tb g.tb
  ·exact Pe o.dv s3
theorem Bg.ok.b1 {t:Rl}{r:Bg}(o:r.ok t k):1<=r.b:=È o.t1 o.tb
theorem iw (ok:t.ok)(sc:List Int):∀{k:Nat},(k:Int)<=t.ö->1<=DD t k/\DD t k<=100^k
 | 0,_=>⟨Å _,Å _⟩
 | k+1,h=>by
  have hk:(k:Int)<t.ö:=ad;obtain⟨h1,h2⟩:=iw ok sc (Ŀ hk);have ne:∃ st,t.J_ (k:Nat) st:=by
   have:∀ j:Nat,(j:Int)<t.ö->∃ st,t.J_ (j:Nat) st:=λ j=>by
    induction j with
    | zero=>intro z;exact⟨_,Rl.Pj ok (by simpa using z)⟩
    | succ j ih =>
     intro z;obtain⟨st,v⟩:=ih ad;obtain⟨a1,a2⟩:=Rl.Œ ok ad ad v;cases e:t.steps st (j:Nat) with
     | nil=>exact absurd e a2
     | cons s ss=>exact⟨s.next,by simpa using (a1 s (by rw[e];exact Ï ..)).2 ad⟩
   exact this k hk
  obtain⟨st,v⟩:=ne;obtain⟨d1,d2,_⟩:=Rl.NL ok ad hk v;exact⟨Ħ h1 d1,by rw[ı];exact Δ h2 d2⟩
def lq (t:Rl)(k:Nat)(c:Int)(F:Nat)(p:TK × Nat)(acc:Tw):Tw:=(t.steps (dU p.1.1) (k:Nat)).foldl (λ acc s=>bo acc (dh s.next,p.1.2+s.hand*c) (p.2*s.part F)) acc
def tu (t:Rl)(k:Nat)(c:Int)(F:Nat)(ps:Tw):Tw:=ps.foldl (λ acc p=>lq t k c F p acc) []
section
variable {ss:List Š}{F n:Nat}{s0 c:Int}
abbrev fO (ss:List Š)(F n:Nat)(s0 c:Int)(acc:Tw):Tw:=ss.foldl (λ acc s=>bo acc (dh s.next,s0+s.hand*c) (n*s.part F)) acc
theorem rm (g:TK->Nat):∀(ss:List Š)(acc:Tw),tS g (fO ss F n s0 c acc)=tS g acc+n*(ss.map λ s=>s.part F*g (dh s.next,s0+s.hand*c)).sum
 | [],acc=>by simp[fO]
 | s::ss,acc=>by
  show tS g (fO ss F n s0 c (bo acc _ _))=_;rw[rm g ss,vN];simp only[List.map_cons,List.sum_cons,Nat.mul_add,Nat.mul_assoc]
  lia
theorem jN:∀(ss:List Š){acc:Tw},(acc.map (·.1)).Nodup->((fO ss F n s0 c acc).map (·.1)).Nodup
 | [],acc,h=>h
 | s::ss,acc,h=>jN ss (nO h)
theorem iF:∀(ss:List Š)(acc:Tw),(fO ss F n s0 c acc).length<=acc.length+ss.length
 | [],acc=>Å _
 | s::ss,acc=>by
  have h1:=iF ss (bo acc (dh s.next,s0+s.hand*c) (n*s.part F));have h2:=km acc (dh s.next,s0+s.hand*c) (n*s.part F);show(fO ss F n s0 c (bo acc _ _)).length<=_;rw[à]
  lia
theorem kH:∀(ss:List Š){acc:Tw},0<n->(∀ s∈ss,0<s.part F)->(∀ p∈acc,0<p.2)->∀ p∈fO ss F n s0 c acc,0<p.2
 | [],acc,_,_,h=>h
 | s::ss,acc,n0,hs,h=>kH ss n0 (λ q hq=>hs q (Ì _ hq)) (pF (Ħ n0 (hs s (Ï ..))) h)
end
section
variable {t:Rl}{k F:Nat}{c:Int}
def cZ (t:Rl)(k:Nat)(c:Int)(F:Nat)(ps acc:Tw):Tw:=ps.foldl (λ acc p=>lq t k c F p acc) acc
theorem nH (g:TK->Nat):∀(ps acc:Tw),tS g (cZ t k c F ps acc)=tS g acc+tS (λ q=>((t.steps (dU q.1) (k:Nat)).map λ s=>s.part F*g (dh s.next,q.2+s.hand*c)).sum) ps
 | [],acc=>by simp[cZ,tS]
 | p::ps,acc=>by
  show tS g (cZ t k c F ps (lq t k c F p acc))=_;rw[nH g ps];have h:=rm (F:=F) (n:=p.2) (s0:=p.1.2) (c:=c) g (t.steps (dU p.1.1) (k:Nat)) acc;have h':tS g (lq t k c F p acc)=_:=h;rw[h'];simp only[tS,List.map_cons,List.sum_cons]
  lia
theorem iz:∀(ps:Tw){acc:Tw},(acc.map (·.1)).Nodup->((cZ t k c F ps acc).map (·.1)).Nodup
 | [],acc,h=>h
 | p::ps,acc,h=>iz ps (jN (t.steps (dU p.1.1) (k:Nat)) h)
theorem gM:∀(ps acc:Tw),(cZ t k c F ps acc).length<=acc.length+2*ps.length
 | [],acc=>by simp[cZ]
 | p::ps,acc=>by
  have h1:=gM ps (lq t k c F p acc);have h2:(lq t k c F p acc).length<=_:=iF (t.steps (dU p.1.1) (k:Nat)) acc;have h3:=Rl.ε t (dU p.1.1) (k:Nat);show(cZ t k c F ps (lq t k c F p acc)).length<=_;rw[à]
  lia
theorem l6:∀(ps:Tw){acc:Tw},(∀ p∈ps,0<p.2/\∀ s∈t.steps (dU p.1.1) (k:Nat),0<s.part F)->(∀ p∈acc,0<p.2)->∀ p∈cZ t k c F ps acc,0<p.2
 | [],acc,_,h=>h
 | p::ps,acc,hp,h=>l6 ps (λ q hq=>hp q (Ì _ hq)) (kH (t.steps (dU p.1.1) (k:Nat)) (hp p (Ï ..)).1 (hp p (Ï ..)).2 h)
end
theorem oK (h1:b ∣ a)(h2:d ∣ c)(b0:0<b)(d0:0<d):a*c/(b*d)=a/b*(c/d):=by
 obtain⟨m,rfl⟩:=h1;obtain⟨n,rfl⟩:=h2;rw[ú _ b0,ú _ d0,show b*m*(d*n)=b*d*(m*n) by ac_rfl,ú _ (Ħ b0 d0)]
theorem jR {α:Type}{f:α->Nat}:∀{l:List α},0<(l.map f).sum->∃ x∈l,0<f x
 | [],h=>absurd h (by simp)
 | x::l,h=>by
  rw[É,ĝ] at h;rcases NE (f x) with z | z
  ·obtain⟨y,hy,h2⟩:=jR (f:=f) (l:=l) ad;exact⟨y,Ì _ hy,h2⟩
  ·grind
theorem xj {α:Type}{f:α->Nat}{x:α}:∀{l:List α},x∈l->f x<=(l.map f).sum
 | y::l,h=>by
  rw[É,ĝ];rcases Ö.mp h with rfl | h
  ·lia
  ·have:=xj (f:=f) h;lia
theorem nR {ps:Tw}{p:TK × Nat}(nd:(ps.map (·.1)).Nodup)(h:p∈ps):lE ps p.1=p.2:=by
 induction ps with
 | nil=>cases h
 | cons q ps ih =>
  rw[É,ï] at nd;unfold lE;rcases Ö.mp h with rfl | h
  ·grind
  ·grind
theorem Ac {ps:Tw}{k:TK}(h:0<lE ps k):k∈ps.map (·.1):=by
 induction ps with
 | nil=>cases h
 | cons q ps ih =>
  unfold lE at h;rw[É,Ö];split at h
  ·grind
  ·grind
section
variable {t:Rl}{sc:List Int}{k D:Nat}{ps:Tw}
abbrev Ff (k:TK):TK->Nat:=λ q=>if q=k then 1 else 0
theorem Lay.at_ (L:Lay t sc k D ps)(q:TK):lE ps q=((dw t sc k).map λ r=>r.part D*Ff q r.key).sum:=by rw[<- nr L.nd];exact L.g _
theorem Lay.keys (L:Lay t sc k D ps)(ok:t.ok)(hk:(k:Int)<=t.ö)(q:TK):q∈ps.map (·.1) ↔ ∃ r∈dw t sc k,r.key=q:=by
 constructor
 ·intro h;obtain⟨p,hp,rfl⟩:=ë.mp h;have z:0<((dw t sc k).map λ r=>r.part D*Ff p.1 r.key).sum:=by rw[<- L.at_,nR L.nd hp];exact L.pos p hp
  obtain⟨r,hr,h2⟩:=jR z;refine⟨r,hr,?_⟩;by_cases e:r.key=p.1
  ·exact e
  ·grind
 ·rintro⟨r,hr,rfl⟩;refine Ac ?_;rw[L.at_];have o:=f9 ok hk r hr;have h1:0<r.part D*Ff r.key r.key:=by
   have:=Nat.div_pos (ø L.D0 (L.dv r hr)) o.b1;show 0<r.t*(D/r.b)*(if r.key=r.key then 1 else 0)
   rw[Ë rfl,ť];exact Ħ o.t1 this
  exact å h1 (xj (f:=λ r':Bg=>r'.part D*Ff r.key r'.key) hr)
def su (t:Rl)(sc:List Int):Prop:=∀ k,k<=sc.length->∀ ks:List TK,ks.Nodup->(∀ q∈ks,∃ r∈dw t sc k,r.key=q)->ks.length<=5000
theorem Lay.Ox (L:Lay t sc k D ps)(ok:t.ok)(hk:(k:Int)<=t.ö)(fw:su t sc)(kl:k<=sc.length):ps.length<=5000:=by
 have h:=fw k kl (ps.map (·.1)) L.nd λ q hq=>(L.keys ok hk q).mp hq
 rwa[Ç] at h
theorem Lay.st (L:Lay t sc k D ps)(ok:t.ok)(hk:(k:Int)<=t.ö)(hp:p∈ps):oj t.tp (dU p.1.1)=true/\dh (dU p.1.1)=p.1.1/\((k:Int)<t.ö->t.J_ (k:Nat) (dU p.1.1)):=by
 obtain⟨r,hr,e⟩:=(L.keys ok hk p.1).mp (ű hp);have o:=f9 ok hk r hr;have e1:dh r.st=p.1.1:=ý Prod.fst e;have e2:=tz o.st;rw[<- e1,e2];exact⟨o.st,rfl,o.v⟩
theorem Lay.zero (t:Rl)(sc:List Int):Lay t sc 0 1 [((dh t.begin,0),1)] where
 D0:=av
 nd:=by simp
 dv:=λ r hr=>by
  rw[show r=⟨0,t.begin,0,1,1⟩ by simpa[dw] using hr]
  exact Χ _
 g:=λ g=>by simp[tS,dw,Bg.part,Bg.key]
 pos:=by simp
 one:=by simp[tS]
 len:=by simp
 dd:=Χ _
theorem Lay.next {F:Nat}(L:Lay t sc k D ps)(ok:t.ok)(hk:(k:Int)<t.ö)(F1:1<=F)(Fd:F ∣ t.dd (k:Nat))(hF:∀ p∈ps,∀ s∈t.steps (dU p.1.1) (k:Nat),s.b ∣ F):Lay t sc (k+1) (D*F) (tu t k (sc.getD k 0) F ps):=by
 have OA:=Ŀ hk;have good:∀ p∈ps,∀ s∈t.steps (dU p.1.1) (k:Nat),s.good/\s.b ∣ F:=λ p hp s hs=>⟨(dC ok hk ((L.st ok OA hp).2.2 hk) s hs).1,hF p hp s hs⟩;have row:∀ r∈dw t sc k,dU (dh r.st)=r.st/\∀ s∈t.steps r.st (k:Nat),s.good/\s.b ∣ F:=λ r hr=>by
  have o:=f9 ok OA r hr;have e:=tz o.st;refine⟨e,λ s hs=>?_⟩;have m:=(L.keys ok OA r.key).mpr ⟨r,hr,rfl⟩;obtain⟨p,hp,ep⟩:=ë.mp m;have e1:p.1.1=dh r.st:=ý Prod.fst ep;refine good p hp s ?_;rw[e1,e];exact hs
 have b1:∀{s:Š},s.good->1<=s.b:=λ g=>È g.t1 g.tb;refine⟨Ħ L.D0 F1,iz ps (by simp),λ r hr=>?_,λ g=>?_,l6 ps (λ p hp=>⟨L.pos p hp,λ s hs=>?_⟩) (by simp),?_,?_,Nat.mul_dvd_mul L.dd Fd⟩
 ·unfold dw at hr;obtain⟨q,hq,hr⟩:=ŭ.mp hr;obtain⟨s,hs,rfl⟩:=ë.mp hr;exact Pe (L.dv q hq) ((row q hq).2 s hs).2
 ·show tS g (cZ t k (sc.getD k 0) F ps [])=_;rw[nH,L.g];show _=(((dw t sc k).flatMap λ r=>(t.steps r.st (k:Nat)).map λ s=>r.more k (sc.getD k 0) s).map λ r=>r.part (D*F)*g r.key).sum;have all:∀(l:List Bg),(∀ r∈l,r∈dw t sc k)->tS g []+(l.map λ r=>r.part D*((t.steps (dU r.key.1) (k:Nat)).map λ s=>s.part F*g (dh s.next,r.key.2+s.hand*sc.getD k 0)).sum).sum=((l.flatMap λ r=>(t.steps r.st (k:Nat)).map λ s=>r.more k (sc.getD k 0) s).map λ r=>r.part (D*F)*g r.key).sum:=λ l=>by
   induction l with
   | nil=>intro _;rfl
   | cons r l ih =>
    intro h;have V9:=ih λ q hq=>h q (Ì _ hq);have hr:=h r (Ï ..);obtain⟨e,gd⟩:=row r hr;have o:=f9 ok OA r hr;rw[Oc,Ø,ē,<- V9,É,ĝ];have inner:∀ ss:List Š,(∀ s∈ss,s∈t.steps r.st (k:Nat))->r.part D*(ss.map λ s=>s.part F*g (dh s.next,r.s+s.hand*sc.getD k 0)).sum=((ss.map λ s=>r.more k (sc.getD k 0) s).map λ r=>r.part (D*F)*g r.key).sum:=λ ss=>by
     induction ss with
     | nil=>intro _;simp
     | cons s ss ih =>
      intro hs;obtain⟨gs,sb⟩:=gd s (hs s (Ï ..));have es:(r.more k (sc.getD k 0) s).part (D*F)=r.part D*s.part F:=by
       show r.t*s.t*(D*F/(r.b*s.b))=r.t*(D/r.b)*(s.t*(F/s.b));rw[oK (L.dv r hr) sb o.b1 (b1 gs)]
       ac_rfl
      simp only[List.map_cons,List.sum_cons,Nat.mul_add];rw[ih λ q hq=>hs q (Ì _ hq),es];show r.part D*(s.part F*g (dh s.next,r.s+s.hand*sc.getD k 0))+_=r.part D*s.part F*g (dh s.next,r.s+s.hand*sc.getD k 0)+_;rw[Ł]
    have i2:=inner (t.steps r.st (k:Nat)) λ _ h=>h;show tS g []+(r.part D*((t.steps (dU (dh r.st)) (k:Nat)).map λ s=>s.part F*g (dh s.next,r.s+s.hand*sc.getD k 0)).sum+_)=_;rw[e,i2]
    lia
  exact all _ λ _ h=>h
 ·obtain⟨g,sb⟩:=good p hp s hs;exact Ħ g.t1 (Nat.div_pos (ø F1 sb) (b1 g))
 ·show tS (λ _=>1) (cZ t k (sc.getD k 0) F ps [])=_;rw[nH];have all:∀ l:Tw,(∀ p∈l,p∈ps)->tS (λ _=>1) []+tS (λ q=>((t.steps (dU q.1) (k:Nat)).map λ s=>s.part F*1).sum) l=tS (λ _=>1) l*F:=λ l=>by
   induction l with
   | nil=>intro _;simp[tS]
   | cons p l ih =>
    intro h;have V9:=ih λ q hq=>h q (Ì _ hq);have hp:=h p (Ï ..);have v:=(L.st ok OA hp).2.2 hk;obtain⟨d1,d2,d3,d4⟩:=Rl.NL ok (x:=(k:Nat)) ad hk v;have e:=z9 (λ s hs=>b1 (good p hp s hs).1) d3 (λ s hs=>(good p hp s hs).2) d1 d4;have e':((t.steps (dU p.1.1) (k:Nat)).map λ s=>s.part F*1).sum=F:=by simpa using e
    simp only[tS,List.map_cons,List.sum_cons,List.map_nil,List.sum_nil,Nat.mul_one,Nat.add_mul] at V9 e' ⊢;rw[e']
    lia
  rw[all ps λ _ h=>h,L.one]
 ·have h:=gM (t:=t) (k:=k) (c:=sc.getD k 0) (F:=F) ps [];have:=L.len;have e:2^(k+1)=2^k*2:=ı ..;show(cZ t k (sc.getD k 0) F ps []).length<=_;simp only[List.length_nil] at h
  lia
end
section
variable {prog:Program}{w:World}{A:Around}{E:eZ}{s:Shared}{it d:Addr}{i ep:Nat}{es:Array DictEntry}{od:Obj}{ok ov:Value}{e:DictEntry}
theorem gG (d:Addr):¬ ((Value.ref d==Value.none)=true):=Ù
theorem qH:Builtin.Dict_items.ownsTuple "dict_itemiterator" = true:=av
theorem rB:Builtin.Dict_items.ownsTuple "dict_valueiterator" = false:=av
theorem vT (hi:IsItemIter s.heap it d i es.size ep ok ov)(ho:s.heap.get? d\od)(MA:od.data=.dict es ep)(he:es[i]?\e)
  (k:∀ h',IsItemIterOut h' it d (i+1) es.size ep e.key e.val s.heap.objs.size->h'.get? s.heap.objs.size=some { cls:=.type "tuple",data:=.seq #[e.key,e.val] }->(∀ b o,b≠it->s.heap.get? b\o->h'.get? b\o)->Q (some (.ref s.heap.objs.size)) { s with heap:=h' }):wpAny (model prog w) A (pyNext (.ref it)) Q E s:=by
 obtain⟨hp,gn,dr,tk,os⟩:=s;have T0:Shared.TypeIs ⟨hp,gn,dr,tk,os⟩ (.ref it) "dict_itemiterator" :=⟨_,hi,rfl⟩;have lt:i<es.size:=(ù.mp he).1;have ltI:it<hp.objs.size:=Ð hi;unfold pyNext;refine À (ň (Ī (name:=Str.ofString "__next__") T0 Ĝ (Ĉ Ĝ T0 Na (À (Á (À (À (À (Ő T0 (Á (À (Υ hi rfl ?_)))))))))  (M3 _))));simp only[qH,if_true];show wpAny _ _ (if(Value.ref d==Value.none)=true then _ else _) _ _ _
 rw[Æ (gG d)];refine À (Á (À (Ġ ho MA ?_)));rw[Æ (by simp)]
 refine À (Á (À (ĳ ho MA ?_)));rw[Æ (by simp)]
 refine Á ?_;simp only[show ¬ ((i:Int)<0) from by lia,if_false,Int.toNat_natCast,he]
 refine À (À (Ő T0 (Á (À (M8 T0 ?_)))));show wpAny _ _ (setField (.ref it) 3 (rawInt ((i:Int)+1))>>=_) _ _ ⟨hp,gn,dr,tk,os⟩;refine À (Κ hi (by simp) λ h1 e1 R1=>?_)
 replace R1:Heap.SameBut it hp h1:=R1;replace e1:IsItemIter h1 it d (i+1) es.size ep ok ov:=by
  have q:((i+1:Nat):Int)=(i:Int)+1:=ad;unfold IsItemIter;rw[q];simpa[rawInt] using e1
 have T1:Shared.TypeIs ⟨h1,gn,dr,tk,os⟩ (.ref it) "dict_itemiterator" :=⟨_,e1,rfl⟩;refine À (ĥ (À (M8 T1 (À (M8 T1 ?_)))));refine À (wpAny_newTuple ?_);have z1:=R1.1;have e2:IsItemIter (h1.push { cls:=.type "tuple",data:=.seq #[e.key,e.val] }) it d (i+1) es.size ep ok ov:=Ä _ e1;have t2:(h1.push { cls:=.type "tuple",data:=.seq #[e.key,e.val] }).get? hp.objs.size=some { cls:=.type "tuple",data:=.seq #[e.key,e.val] }:=by rw[<- z1];exact Ó _ rfl
 have k2:∀ b o,b≠it->hp.get? b\o->(h1.push { cls:=.type "tuple",data:=.seq #[e.key,e.val] }).get? b\o:=λ b o hb q=>Ä _ (R1.extBut b o hb q);rw[z1];generalize h1.push { cls:=.type "tuple",data:=.seq #[e.key,e.val] }=h2 at e2 t2 k2 ⊢;refine À (À (ŷ e2 rfl rfl (Á ?_)));simp only[if_true];refine À (ŷ e2 rfl rfl (À (ŷ e2 rfl rfl (À (Κ e2 (by simp) λ h3 e3 s3=>?_)))))
 replace s3:Heap.SameBut it h2 h3:=s3;replace e3:IsItemIter h3 it d (i+1) es.size ep e.key ov:=e3;refine À (Κ e3 (by simp) λ h4 e4 s4=>?_)
 replace s4:Heap.SameBut it h3 h4:=s4;replace e4:IsItemIter h4 it d (i+1) es.size ep e.key e.val:=e4;refine À (Κ e4 (by simp) λ h5 e5 s5=>?_)
 replace s5:Heap.SameBut it h4 h5:=s5;replace e5:IsItemIterOut h5 it d (i+1) es.size ep e.key e.val hp.objs.size:=e5;refine À (Κ e5 (by simp) λ h6 e6 s6=>?_)
 replace s6:Heap.SameBut it h5 h6:=s6;replace e6:IsItemIterOut h6 it d (i+1) es.size ep e.key e.val hp.objs.size:=e6;have up:=λ b o hb q=>s6.extBut b o hb (s5.extBut b o hb (s4.extBut b o hb (s3.extBut b o hb q)));exact À (wpAny_letGo (Á (Á ⟨_,rfl,Á (k h6 e6 (up _ _ (N' ltI) t2) λ b o hb q=>up b o hb (k2 b o hb q))⟩)))
theorem zn (hh:A.handled=none)(hi:IsItemIter s.heap it d i es.size ep ok ov)(ho:s.heap.get? d\od)(MA:od.data=.dict es ep)(he:es.size<=i)
  (k:∀ h',Heap.ExtBut it s.heap h'->Q none { s with heap:=h' }):wpAny (model prog w) A (pyNext (.ref it)) Q E s:=by
 have T0:s.TypeIs (.ref it) "dict_itemiterator" :=⟨_,hi,rfl⟩;refine À (ň (Ī T0 Ĝ (Ĉ Ĝ T0 Na (À (Á (À (À (À (Ő T0 (Á (À (Υ hi rfl ?_)))))))))  (M3 _))));simp only[qH,if_true];show wpAny _ _ (if(Value.ref d==Value.none)=true then _ else _) _ _ _
 rw[Æ (gG d)];refine À (Á (À (Ġ ho MA ?_)));rw[Æ (by simp)]
 refine À (Á (À (ĳ ho MA ?_)));rw[Æ (by simp)]
 refine Á ?_;simp only[show ¬ ((i:Int)<0) from by lia,if_false,Int.toNat_natCast,Array.getElem?_eq_none he]
 refine À (À (Ő T0 (Á ?_)));show wpAny _ _ (setField (.ref it) 2 .none>>=_) _ _ s;refine À (Ŷ hi rfl (by simp) (wpAny_bind ?_))
 simp only[newExc,newTuple];refine À (î (À (Q8 (by first | rfl | (simp only[firstArgMember];rfl)) (î ?_ (by size_fits)))) (by size_fits))
 simp only[raiseNew];refine À (wpAny_handled ?_);rw[show A.in1.handled=none from hh];refine À (Á (wpAny_throw (À ?_)));exact π ⟨_,Ó _ rfl,rfl⟩ isSubtype_stop (Á (k _ (((Β ..).extBut.push _).push _)))
theorem wD (hi:s.heap.IsValIter it d i es.size ep)(ho:s.heap.get? d\od)(MA:od.data=.dict es ep)(he:es[i]?\e)
  (k:∀ h',h'.IsValIter it d (i+1) es.size ep->Heap.SameBut it s.heap h'->Q (some e.val) { s with heap:=h' }):wpAny (model prog w) A (pyNext (.ref it)) Q E s:=by
 obtain⟨oi,Nz,Si,NY⟩:=id hi;have T0:=hi.typeIs;refine À (ň (Ī T0 ė (Ĉ ė T0 M0 (À (Á (À (À (À (Ř T0 (Á (À (Υ Nz NY ?_)))))))))  (MG _))));simp only[rB,Bool.false_eq_true,if_false];show wpAny _ _ (if(Value.ref d==Value.none)=true then _ else _) _ _ _
 rw[Æ (gG d)];refine À (Á (À (Ġ ho MA ?_)));rw[Æ (by simp)]
 refine À (Á (À (ĳ ho MA ?_)));rw[Æ (by simp)]
 refine Á ?_;simp only[show ¬ ((i:Int)<0) from by lia,if_false,Int.toNat_natCast,he]
 refine À (À (Ř T0 (Á (À (wpAny_isOneOf_valiter T0 ?_)))));show wpAny _ _ (setField (.ref it) 1 (rawInt ((i:Int)+1))>>=_) _ _ s;have UG:(s.heap.update it (Obj.mapFields (·.setIfInBounds 1 (rawInt ((i:Int)+1))))).IsValIter it d (i+1) es.size ep :=
  ⟨_,ć _ Nz (Obj.isFreed_of_fields (ŝ NY _)),(Obj.cls_mapFields ..).trans Si,by rw[ŝ NY];simp[rawInt]⟩
 have T1:Shared.TypeIs { s with heap:=s.heap.update it (Obj.mapFields (·.setIfInBounds 1 (rawInt ((i:Int)+1)))) } (.ref it) "dict_valueiterator" := Heap.IsValIter.typeIs UG
 refine À (Ŷ Nz NY (by simp) (wpAny_bind (wpAny_holding (wpAny_bind (wpAny_isOneOf_valiter T1 (wpAny_bind (wpAny_isOneOf_valiter T1 ?_)))))))
 exact Á (Á ⟨_,rfl,Á (k _ UG (Β ..))⟩)
theorem zF (hh:A.handled=none)(hi:s.heap.IsValIter it d i es.size ep)(ho:s.heap.get? d\od)(MA:od.data=.dict es ep)(he:es.size<=i)
  (k:∀ h',Heap.ExtBut it s.heap h'->Q none { s with heap:=h' }):wpAny (model prog w) A (pyNext (.ref it)) Q E s:=by
 obtain⟨oi,Nz,Si,NY⟩:=id hi;have T0:=hi.typeIs;refine À (ň (Ī T0 ė (Ĉ ė T0 M0 (À (Á (À (À (À (Ř T0 (Á (À (Υ Nz NY ?_)))))))))  (MG _))));simp only[rB,Bool.false_eq_true,if_false];show wpAny _ _ (if(Value.ref d==Value.none)=true then _ else _) _ _ _
 rw[Æ (gG d)];refine À (Á (À (Ġ ho MA ?_)));rw[Æ (by simp)]
 refine À (Á (À (ĳ ho MA ?_)));rw[Æ (by simp)]
 refine Á ?_;simp only[show ¬ ((i:Int)<0) from by lia,if_false,Int.toNat_natCast,Array.getElem?_eq_none he]
 refine À (À (Ř T0 (Á ?_)));show wpAny _ _ (setField (.ref it) 0 .none>>=_) _ _ s;refine À (Ŷ Nz NY (by simp) (wpAny_bind ?_))
 simp only[newExc,newTuple];refine À (î (À (Q8 (by first | rfl | (simp only[firstArgMember];rfl)) (î ?_ (by size_fits)))) (by size_fits))
 simp only[raiseNew];refine À (wpAny_handled ?_);rw[show A.in1.handled=none from hh];refine À (Á (wpAny_throw (À ?_)));exact π ⟨_,Ó _ rfl,rfl⟩ isSubtype_stop (Á (k _ (((Β ..).extBut.push _).push _)))
theorem vQ (hT:s.TypeIs (.ref d) "dict") (hd:(d==sysModules)=false) (k:Q (.ref s.heap.objs.size) { s with heap:=s.heap.push { cls:=.type "dict_items",data:=.fields #[.ref d] } }):wpAny (model prog w) A (call (.builtin "dict.items") [.ref d]) Q E s:=by
 have m:MeetsIn prog w (Builtin.«dict.items» ⟨[.ref d],[]⟩) (λ _ R s=>s.TypeIs (.ref d) "dict" /\ R (.ok (.ret (.ref s.heap.objs.size))) { s with heap:=s.heap.push { cls:=.type "dict_items",data:=.fields #[.ref d] } }):=.of_wp λ A R s ⟨hT,h⟩=>by
  unfold Builtin.«dict.items» Builtin.Dict.noArgs Builtin.Dict.showsAll;refine À (À (NC hT (Á ?_)));rw[Æ (by rw[hd];exact Ù)]
  exact À (Á (À (î (Á ⟨_,rfl,h⟩))))
 exact M' Q9 hT PySem.F.entry_dict_items (PySem.F.args_dict_items_1 _) m ⟨hT,k⟩
theorem vu (hT:s.TypeIs (.ref d) "dict") (hd:(d==sysModules)=false) (k:Q (.ref s.heap.objs.size) { s with heap:=s.heap.push { cls:=.type "dict_values",data:=.fields #[.ref d] } }):wpAny (model prog w) A (call (.builtin "dict.values") [.ref d]) Q E s:=by
 have m:MeetsIn prog w (Builtin.«dict.values» ⟨[.ref d],[]⟩) (λ _ R s=>s.TypeIs (.ref d) "dict" /\ R (.ok (.ret (.ref s.heap.objs.size))) { s with heap:=s.heap.push { cls:=.type "dict_values",data:=.fields #[.ref d] } }):=.of_wp λ A R s ⟨hT,h⟩=>by
  refine À ?_;refine À (NC hT (Á ?_));unfold Builtin.Dict.showsAll;rw[Æ (by rw[hd];exact Ù)]
  exact À (Á (À (î (Á ⟨_,rfl,h⟩))))
 exact M' QH hT PySem.F.entry_dict_values (PySem.F.args_dict_values_1 _) m ⟨hT,k⟩
theorem vb (hv:s.heap.IsItemsView v d)(ho:s.heap.get? d\od)(MA:od.data=.dict es ep)
  (k:Q (.ref s.heap.objs.size) { s with heap:=s.heap.push { cls:=.type "dict_itemiterator",data:=.fields #[.none,.bool false,.ref d,.int 0 0,.int es.size 0,.int ep 0,.none,.none] } }):wpAny (model prog w) A (pyIter (.ref v)) Q E s:=by
 obtain⟨oi,Nz,Si,NY⟩:=id hv;refine PP hv.typeIs Pd (Ĉ Pd hv.typeIs PySem.F.entry_dict_items_iter ?_ (PySem.F.args_dict_items_iter_1 _));refine À (Á (À (À (ŷ Nz NY rfl (Á (À (À (Ġ ho MA (À (ĳ ho MA ?_))))))))));simp only[qH,if_true];refine î (Á ⟨_,rfl,"dict_itemiterator",_,⟨_,Ó _ rfl,rfl⟩,Ĝ.lookup,?_⟩) (by simp only[sizeOk,Builtin.Dict_items.ownedTupleFields,List.size_toArray,List.length_append,List.length_cons,List.length_nil,sizeLine_eq];lia)
 simpa[rawInt,Builtin.Dict_items.ownedTupleFields] using k
theorem yi (hv:s.heap.IsValuesView v d)(ho:s.heap.get? d\od)(MA:od.data=.dict es ep)
  (k:Q (.ref s.heap.objs.size) { s with heap:=s.heap.push { cls:=.type "dict_valueiterator",data:=.fields #[.ref d,.int 0 0,.int es.size 0,.int ep 0] } }):wpAny (model prog w) A (pyIter (.ref v)) Q E s:=by
 obtain⟨oi,Nz,Si,NY⟩:=id hv;refine PP hv.typeIs OX (Ĉ OX hv.typeIs PySem.F.entry_dict_values_iter ?_ (PySem.F.args_dict_values_iter_1 _));refine À (Á (À (À (ŷ Nz NY rfl (Á (À (À (Ġ ho MA (À (ĳ ho MA ?_))))))))));simp only[rB,Bool.false_eq_true,if_false];refine î (Á ⟨_,rfl,"dict_valueiterator",_,⟨_,Ó _ rfl,rfl⟩,ė.lookup,?_⟩)
 simpa[rawInt] using k
end
def oI:HO->Prop
 | .dK _=>True
 | .dT _=>True
 | _=>False
def bV:HO->Nat
 | .dK Ý=>Ý.length
 | .dT Ý=>Ý.length
 | _=>0
def nV (H:Hp)(u:HO)(i:Nat)(kx v:V):Prop :=
 (∃ Ý k,u=.dK Ý/\Ý[i]?\(k,v)/\kx=kV k)\/∃ Ý k b,u=.dT Ý/\Ý[i]?\(k,v)/\kx=.ref b/\O_ H k b
theorem xJ (h:(aQ P w).is k u=true):RelV (kV k) u:=by
 rw[rj] at h;rcases aN h with⟨i,t,rfl,rfl⟩ | ⟨x,t,rfl,rfl⟩ | ⟨rfl,rfl⟩
 ·exact⟨t,rfl⟩
 ·exact⟨t,rfl⟩
 ·rfl
theorem fm {α β:Type}{R:α->β->Prop}:∀{xs:List α}{ys:List β},Paired R xs ys->∀{i:Nat}{y:β},ys[i]?\y->∃ x,xs[i]?\x/\R x y
 | _,_,.nil,i,y,h=>by simp at h
 | _,_,.cons r _,0,y,h=>by cases h;exact⟨_,rfl,r⟩
 | _,_,.cons _ t,i+1,y,h=>fm t h
theorem jq (D:oI u)(o:Ē P w H h d u):∃ ob es ep,h.get? d\ob/\ob.ExactDict/\ob.data=.dict es ep/\(d==sysModules)=false/\es.size=bV u/\∀(i:Nat) e,es[i]?\e->∃ kx v,nV H u i kx v/\RelV kx e.key/\RelV v e.val:=by
 cases u with
 | dK Ý =>
  refine Â λ gg=>?_;obtain⟨z,hd,vs,rel,ob,es,ep,h1,h2,h3,h4,h5,h6⟩:=o;refine gg ?_;refine⟨ob,es,ep,h1,h2,h3,hd,?_,λ i e he=>?_⟩
  ·have l1:=h5.length;have l2:=Ė rel;show es.size = Ý.length;rw[l2,<- l1];simp
  ·have l1:=h5.length;have lt:=(ù.mp he).1;have lt':i<vs.length:=by rw[<- l1];simpa using lt
   have hv:=Ã lt';obtain⟨a1,a2⟩:=h5.get? (by simpa using he) (show vs[i]?\(vs[i].1,vs[i].2) from hv)
   obtain⟨p,hp,r1,r2⟩:=fm rel hv;refine⟨kV p.1,p.2,.inl ⟨Ý,p.1,rfl,hp,rfl⟩,?_,?_⟩
   ·rw[r1];exact xJ a1
   ·rw[a2];exact r2
 | dT Ý =>
  refine Â λ gg=>?_;obtain⟨z,hd,xs,rel,ob,es,ep,h1,h2,h3,h4,h5⟩:=o;refine gg ?_;refine⟨ob,es,ep,h1,h2,h3,hd,?_,λ i e he=>?_⟩
  ·have l2:=Ė rel;show es.size = Ý.length;rw[l2,<- Array.length_toList,h4,Ç]
  ·have Ρ:es.toList[i]?\e:=by simpa using he
   rw[h4,Ô] at Ρ;obtain⟨x,hx,rfl⟩:=Û.mp Ρ;obtain⟨p,hp,r1,r2,r3⟩:=fm rel hx;exact⟨.ref x.2.1,p.2,.inr ⟨Ý,p.1,x.2.1,rfl,hp,rfl,r2⟩,rfl,r3⟩
 | _=>exact D.elim
def Fz (H:Hp)(d:Addr)(o:Obj)(u:HO)(H':Hp):Prop:=H' d\.Η o u/\∀ b,b≠d->H' b=H b
theorem rF (I:Inv X pins σ H s)(D:oI u)(e:Rd H d u):∃ o H',s.heap.get? d\o/\Fz H d o u H'/\Inv X pins σ H' s:=by
 rcases e with e | ⟨o,e⟩
 ·have ok:=I.Ě d u e;obtain⟨ob,es,ep,h1,_⟩:=jq D ok;refine⟨ob,ak H d (.Η ob u),h1,⟨bz,λ b hb=>ai hb⟩,?_⟩;have mu:Fg (H d):=by
   rw[e];cases u with
   | dK Ý=>exact True.intro
   | dT Ý=>exact True.intro
   | _=>exact D.elim
  have new:Ē X.prog X.w (ak H d (.Η ob u)) s.heap d (.Η ob u):=by
   refine⟨h1,?_⟩;cases u with
   | dK Ý=>exact ok
   | dT Ý =>
    obtain⟨z,hd,xs,rel,r⟩:=ok;refine⟨z,hd,xs,KT.keeps rel λ c ys ec=>?_,r⟩;rw[ai (λ q=>by rw[q,e] at ec;cases ec)]
    exact ec
   | _=>exact D.elim
  exact gC I mu ⟨rfl,λ _ _=>rfl⟩ ⟨ob,h1⟩ new
 ·exact⟨o,H,(show Ē X.prog X.w H s.heap d (.Η o u) from I.Ě d _ e).1,⟨e,λ _ _=>rfl⟩,I⟩
def FG (d:Addr)(o:Obj)(u:HO):It :=
 ⟨λ i H=>H d\.Η o u/\i<bV u,λ i H x H'=>∃ p kx v,x=.ref p/\H p=none/\nV H u i kx v/\H'=ak H p (.tup [kx,v]),λ i H=>H d\.Η o u/\bV u<=i⟩
def K9 (d:Addr)(o:Obj)(u:HO):It :=
 ⟨λ i H=>H d\.Η o u/\i<bV u,λ i H x H'=>H'=H/\∃ kx,nV H u i kx x,λ i H=>H d\.Η o u/\bV u<=i⟩
theorem gF (D:oI u)(ok:ω P w H h)(e:H d\.Η o u)(hd:o.data=.dict es ep):h.get? d\o/\es.size=bV u/\∀(i:Nat) e,es[i]?\e->∃ kx v,nV H u i kx v/\RelV kx e.key/\RelV v e.val:=by
 obtain⟨h0,h1⟩:=(show Ē P w H h d (.Η o u) from ok d _ e);obtain⟨ob,Vs,Vt,g1,g2,g3,g4,g5,g6⟩:=jq D h1;rw[h0] at g1;cases g1;rw[hd] at g3;cases g3;exact⟨h0,g5,g6⟩
theorem wR {x1}(D:oI u)(hd:o.data=.dict es ep):p6 P w K (.Tuple elts x1 pos) (FG d o u) [it] it (λ i h=>∃ ok ov,IsItemIter h it d i es.size ep ok ov) where
 mem:=by simp
 obj:=λ i h st b hb=>by
  obtain⟨ok,ov,q⟩:=st;have e:b=it:=by simpa using hb
  subst e;exact⟨_,q,λ v z=>by cases z⟩
 keep:=λ i h h' st k=>let ⟨ok,ov,q⟩:=st;⟨ok,ov,k it (by simp) _ q⟩
 item:=by
  intro X hP hw hK hc i pins s σ H E I hf st hg;subst hP hw hK;obtain⟨Qk,ş⟩:=hg;obtain⟨ok,ov,hi⟩:=st;obtain⟨ho,R_,rel⟩:=gF D I.Ě Qk hd;obtain⟨f0,f1,f2,f3,f4,f5⟩:=hf it (by simp)
  have he:=n_ (show i<es.size by lia)
  obtain⟨kx,v,pr,rk,rv⟩:=rel i _ he;generalize es[i]'ad=e at he rk rv;refine vT hi ho hd he λ h1 O8 ht1 kk=>⟨_,rfl,wpAny_letOwnedTupleGo_items O8 λ h2 Sh sb=>?_⟩;have SI:=sb;have ltI:=Ð hi;have ne2:=N' ltI;have Ux:=(SI.2 _ ne2).trans ht1
  let hA:Heap:=s.heap.update it λ _=>{ cls:=.type "dict_itemiterator",dict:=none,data:=.fields #[.none,.bool false,.ref d,.int ((i+1:Nat):Int) 0,.int es.size 0,.int ep 0,e.key,e.val],slots:=#[] }
  have IA:Inv X pins σ H { s with heap:=hA,toks:=s.toks }:=I.turned (λ b ob hb q=>by
   rw[ê _ _ _ _ hb];exact q) f0 f1 f3 f4 f5
  have VC:hA.objs.size=s.heap.objs.size:=Ž _ _ _;refine⟨.ref s.heap.objs.size,ak H s.heap.objs.size (.tup [kx,v]),?_,rfl,⟨_,kx,v,rfl,I.Ě.fresh (Å _),pr,rfl⟩,⟨_,_,Sh⟩,λ b hb=>?_⟩
  ·refine IA.laid (λ b ob q=>?_) (Ō VC) ⟨er,[e.key,e.val],.cons rk (.cons rv .nil),⟨_,Ux,rfl,_,rfl⟩⟩;have q':=q;by_cases z1:b=it
   ·subst z1;rw[ć _ hi rfl] at q';cases q';exact Sh
   ·rw[ê _ _ _ _ z1] at q';exact(SI.2 b z1).trans (kk b ob z1 q')
  ·have e':b=it:=by simpa using hb
   subst e';rw[ai (Ne.symm ne2)];exact f0
 done:=by
  intro X hP hw hK hc i pins s σ H E I hf st hg;subst hP hw hK;obtain⟨Qk,ş⟩:=hg;obtain⟨ok,ov,hi⟩:=st;obtain⟨ho,R_,rel⟩:=gF D I.Ě Qk hd;obtain⟨f0,f1,f2,f3,f4,f5⟩:=hf it (by simp)
  exact zn (I.ok.hd hc) hi ho hd ad λ h' eb=>⟨rfl,I.turned (λ b ob hb q=>eb b ob hb q) f0 f1 f3 f4 f5⟩
 self:=λ A i s Q E st k=>by
  obtain⟨ok,ov,hi⟩:=st;exact kcp_self hi k
theorem v0 (D:oI u)(hd:o.data=.dict es ep):p6 P w K tg (K9 d o u) [it] it (λ i h=>h.IsValIter it d i es.size ep) where
 mem:=by simp
 obj:=λ i h st b hb=>by
  obtain⟨oi,q,c,dd⟩:=st;have e:b=it:=by simpa using hb
  subst e;exact⟨oi,q,λ v z=>by rw[dd] at z;cases z⟩
 keep:=λ i h h' st k=>by
  obtain⟨oi,q,c,dd⟩:=st;exact⟨oi,k it (by simp) _ q,c,dd⟩
 item:=by
  intro X hP hw hK hc i pins s σ H E I hf st hg;refine Â λ gg=>?_;subst hP hw hK;obtain⟨Qk,ş⟩:=hg;obtain⟨ho,R_,rel⟩:=gF D I.Ě Qk hd;obtain⟨f0,f1,f2,f3,f4,f5⟩:=hf it (by simp)
  have he:=n_ (show i<es.size by lia)
  obtain⟨kx,v,pr,rk,rv⟩:=rel i _ he;refine gg ?_;refine wD st ho hd he λ h1 O8 sb=>?_;have I1:Inv X pins σ H { s with heap:=h1 }:=I.turned (λ b ob hb q=>(sb.2 b hb).trans q) f0 f1 f3 f4 f5
  obtain⟨oi,q,c,dd⟩:=id O8;exact⟨_,rfl,pV q c dd av ⟨v,H,I1,rv,⟨rfl,kx,pr⟩,O8,λ b hb=>(hf b hb).1⟩⟩
 done:=by
  intro X hP hw hK hc i pins s σ H E I hf st hg;subst hP hw hK;obtain⟨Qk,ş⟩:=hg;obtain⟨ho,R_,rel⟩:=gF D I.Ě Qk hd;obtain⟨f0,f1,f2,f3,f4,f5⟩:=hf it (by simp)
  exact zF (I.ok.hd hc) st ho hd ad λ h' eb=>⟨rfl,I.turned (λ b ob hb q=>eb b ob hb q) f0 f1 f3 f4 f5⟩
 self:=λ _ _ _ _ _ st k=>wpAny_pyIter_valiter st k
section
variable {X:Cx}{o:Expr}{Ū ž:Pos}{tl:TE}
def CP (tl:TE):TI:=λ σ H R=>tl σ H λ x H1=>∃ d u,x=.ref d/\oI u/\Rd H1 d u/\∀ ob H2,Fz H1 d ob u H2->R (FG d ob u) H2
def F5 (tl:TE):TI:=λ σ H R=>tl σ H λ x H1=>∃ d u,x=.ref d/\oI u/\Rd H1 d u/\∀ ob H2,Fz H1 d ob u H2->R (K9 d ob u) H2
theorem mV (D:oI u)(ok:ω P w H h)(e:Rd H d u):Ē P w H h d u:=by
 rcases e with e | ⟨o,e⟩
 ·exact ok d u e
 ·exact(show Ē P w H h d (.Η o u) from ok d _ e).2
theorem pX {x1}(ho:PE X o tl)(Ow:attributeBase o "items" X.env (eval o X.env)=eval o X.env:=by rfl) (Ou:(Ū.endLine == ž.line)=true:=by rfl):PI X (.Tuple elts x1 pt) (.Call (.Attribute o "items" Ū) [] [] ž) (CP tl):=by
 intro pins s σ H R I h;refine wpAny_Call_method0_late Ow Ou (bj (ho pins s σ H _ I h) λ v s1 ⟨x,H1,I1,r1,q1⟩=>?_);obtain⟨d,u,rfl,D,rd,q⟩:=q1;cases (show v=Value.ref d from r1);obtain⟨ob,es,ep,g1,g2,g3,g4,g5,g6⟩:=jq D (mV D I1.Ě rd);have hT:s1.TypeIs (.ref d) "dict" :=⟨ob,g1,g2.1⟩;refine⟨"dict","dict.items",B',Q9,PySem.F.type_dict_items,hT,λ b hb=>by cases hb;exact⟨ob,g1,g2.2.1⟩,γ rfl (PySem.evalArgs_none (vQ hT g4 ?_))⟩
 obtain⟨T3,H2,f1,f2,I2⟩:=rF I1 D rd;have eo:T3=ob:=by rw[g1] at f1;exact(á f1).symm
 subst eo;refine vb ⟨_,Ó _ rfl,rfl,rfl⟩ (Ä _ g1) g3 ?_;have I3:Inv X pins σ H2 { s1 with heap:=(s1.heap.push { cls:=.type "dict_items",data:=.fields #[.ref d] }),toks:=s1.toks }:=I2.kept λ b ob e=>Ä _ e
 generalize hh:s1.heap.push { cls:=.type "dict_items",data:=.fields #[.ref d] }=hB at I3 ⊢;refine⟨hB.objs.size,[hB.objs.size],_,_,H2,rfl,I3.kept λ b ob e=>Ä _ e,wR D g3,⟨.none,.none,?_⟩,λ b hb=>?_,q _ _ f2⟩
 ·exact Ó _ rfl
 ·have e:b=hB.objs.size:=by simpa using hb
  subst e;exact I3.OP (Å _) (I3.Ě.fresh (Å _))
theorem uy (ho:PE X o tl)(Ow:attributeBase o "values" X.env (eval o X.env)=eval o X.env:=by rfl) (Ou:(Ū.endLine == ž.line)=true:=by rfl):PI X tg (.Call (.Attribute o "values" Ū) [] [] ž) (F5 tl):=by
 intro pins s σ H R I h;refine wpAny_Call_method0_late Ow Ou (bj (ho pins s σ H _ I h) λ v s1 ⟨x,H1,I1,r1,q1⟩=>?_);obtain⟨d,u,rfl,D,rd,q⟩:=q1;cases (show v=.ref d from r1);obtain⟨ob,es,ep,g1,g2,g3,g4,g5,g6⟩:=jq D (mV D I1.Ě rd);have hT:s1.TypeIs (.ref d) "dict" :=⟨ob,g1,g2.1⟩;refine⟨"dict","dict.values",B',QH,PySem.F.type_dict_values,hT,λ b hb=>by cases hb;exact⟨ob,g1,g2.2.1⟩,γ rfl (PySem.evalArgs_none (vu hT g4 ?_))⟩
 obtain⟨T3,H2,f1,f2,I2⟩:=rF I1 D rd;have eo:T3=ob:=by rw[g1] at f1;exact(á f1).symm
 subst eo;refine yi ⟨_,Ó _ rfl,rfl,rfl⟩ (Ä _ g1) g3 ?_;have I3:Inv X pins σ H2 { s1 with heap:=(s1.heap.push { cls:=.type "dict_values",data:=.fields #[.ref d] }),toks:=s1.toks }:=I2.kept λ b ob e=>Ä _ e
 generalize hh:s1.heap.push { cls:=.type "dict_values",data:=.fields #[.ref d] }=hB at I3 ⊢;refine⟨hB.objs.size,[hB.objs.size],_,_,H2,rfl,I3.kept λ b ob e=>Ä _ e,v0 D g3,⟨_,Ó _ rfl,rfl,rfl⟩,λ b hb=>?_,q _ _ f2⟩;have e:b=hB.objs.size:=by simpa using hb
 subst e;exact I3.OP (Å _) (I3.Ě.fresh (Å _))
end
theorem sT {g:TG}{tb:TS}{D:bH}(Pv:Nat->St->Hp->Prop)(h0:Pv 0 σ H)(hf:∀ i σ H,Pv i σ H->H d\.Η ob u)
  (hs:∀ i σ H p kx v,i<bV u->Pv i σ H->H p=none->nV H u i kx v->g (.ref p) σ (ak H p (.tup [kx,v])) λ ĩ H2=>tb { D with nx:=Pv (i+1),ct:=Pv (i+1),bk:=D.nx } ĩ H2) (hd:∀ σ H,Pv (bV u) σ H->D.nx σ H) :
  ∃ W:Nat->Nat->St->Hp->Prop,(∃ m,W 0 m σ H)/\∀ i m σ H,W i m σ H ->
   ((FG d ob u).stop i H/\D.nx σ H)\/((FG d ob u).go i H/\∃ N:St->Hp->Prop,(∀ ĺ H',N ĺ H'->∃ m',m'<m/\W (i+1) m' ĺ H')/\∀ x H',(FG d ob u).x_ i H x H'->g x σ H' λ ĩ H2=>tb { D with nx:=N,ct:=N,bk:=D.nx } ĩ H2):=by
 refine⟨λ i m σ H=>m=bV u-i/\i<=bV u/\Pv i σ H,⟨bV u,by simp,Nat.zero_le _,h0⟩,?_⟩
 rintro i m σ H ⟨rfl,hi,p⟩;have q:=hf i σ H p;by_cases ş:i<bV u
 ·refine .inr ⟨⟨q,ş⟩,Pv (i+1),λ ĺ H' n=>⟨bV u-(i+1),ad,rfl,ş,n⟩,?_⟩;rintro x H' ⟨p',kx,v,rfl,hp,pr,rfl⟩;exact hs i σ H p' kx v ş p hp pr
 ·have e:i=bV u:=ad;subst e;exact .inl ⟨⟨q,Å _⟩,hd σ H p⟩
section
variable {X:Cx}
theorem ER (D:oI u)(o:Ē P w H h d u):bV u<=sizeLine:=by
 cases u with
 | dK Ý=>exact o.1
 | dT Ý=>exact o.1
 | _=>exact D.elim
def AL:List V->Hp->VK->Prop:=λ xs H Q=>∃ a u,xs=[V.ref a]/\oI u/\Rd H a u/\Q (.int (bV u:Nat)) H
theorem uG:dL X (.builtin "len") AL:=by
 intro pins s σ H xs us Q I r h;obtain⟨a,u,rfl,D,ha,q⟩:=h;obtain⟨v,rfl,ru⟩:=fJ r;cases ru;have ok:=mV D I.Ě ha;obtain⟨ob,es,ep,g1,g2,g3,g4,g5,g6⟩:=jq D ok;have sz:=ER D ok;have hT:s.TypeIs (.ref a) "dict" :=⟨ob,g1,g2.1⟩;refine Calls.call_function_entry kind_len plain_len entry_len (args_len1 _) ?_;unfold Builtin.«len»;refine À (m:=oneArg "len" _) (Á ?_);have m:MeetsIn X.prog X.w (Builtin.«dict.__len__» ⟨[.ref a],[]⟩) (λ _ R s'=>s'.heap=s.heap/\R (.ok (.ret (.int (bV u:Nat) s'.toks))) { s' with toks:=s'.toks+1 }):=.of_wp λ A R s' ⟨e,h⟩=>by
  show wpAny _ _ (dictSize a>>=_) _ _ s';refine À (À (Ġ (by rw[e];exact g1) g3 (Á ?_)))
  refine À (wpAny_pendingCount_other g4 (RB ?_));rw[Nat.add_zero,g5];exact h
 refine À (Ī hT PySem.F.slot_dict_len
  (M' PySem.F.slot_dict_len hT PySem.F.entry_dict_len (PySem.F.args_dict_len_1 _) m ⟨rfl,?_⟩))
 refine À (ĥ (Á (À (wpAny_letGo ?_))));rw[Æ ad];rw[Æ (by rw[è] at sz;lia)]
 exact À (wpAny_mkInt (Á ⟨_,rfl,⟨.int (bV u:Nat),H,I.tok _,⟨_,rfl⟩,q⟩⟩))
end
theorem cC {α β:Type}{R:α->β->Prop}:∀{xs:List α}{ys:List β},Paired R xs ys->∀{i:Nat}{x:α},xs[i]?\x->∃ y,ys[i]?\y/\R x y
 | _,_,.nil,i,y,h=>by simp at h
 | _,_,.cons r _,0,y,h=>by cases h;exact⟨_,rfl,r⟩
 | _,_,.cons _ t,i+1,y,h=>cC t h
section
variable {P:Program}{w:World}{K:Frag}{mg:bD}{base:Heap}{f a1 a2:Addr}{fd d1 d2:FuncData}
abbrev J7:Stmt:=bT 16
abbrev RA (K:Frag)(H:Hp):List V->List Nat->Prop:=Paired λ v b=>1<=b/\∃ t,PL K H v t b
def vt (K:Frag):Sp:=λ vs H Q _=>∃(p:Addr)(xs:List V)(bs:List Nat)(M:Nat),vs=[.ref p]/\Ğ K H p xs/\RA K H xs bs/\(∀ b∈bs,b ∣ M)/\1<=M/\M<=100/\∀ F:Nat,1<=F->F ∣ M->(∀ b∈bs,b ∣ F)->Q (.int (F:Nat)) H
abbrev Lx:List Str:=["several","bottom","share"]
theorem TR:ag Lx ["several"] (aa J7):=aL
theorem DV {b c:Nat}:b/Nat.gcd b c*c=Nat.lcm b c:=Nat.div_mul_right_comm (í b c) c
theorem F4 (F:Ļ K "common_bottom" "common_bottom" J7 f fd) (A1:Df P w K mg base az 1 "greatest_common" ["one","other"] mj a1 d1):ð P w K mg base az 2 f fd ["several"] (vt K):=by
 refine cj F TR λ cdv A outer s H vs Q E hr h=>?_;obtain⟨p,xs,bs,M,rfl,hp,ba,dv,M1,US,q⟩:=h;have nd:=TR.nd;refine⟨_,bA (cB (i:=1) nd rfl (Or.inl rfl) aB)
  (bA (bC ò rfl (bE (pv 0)) (bK (i:=2) nd rfl (Or.inl rfl))
   (aW (aT (ay mv (ah eK (pv 1) (c5 dR (pv 2) aB)) aB (ax _)) (aW (cB (i:=1) nd rfl (Or.inl rfl) (ah cG (ah bS (pv 1) (cg A1 hr aj (ae (pv 1) (ae (c5 dR (pv 2) aB) aq)))) (c5 dR (pv 2) aB)))) eM)))
  (aW (cq (pv 1)))),?_⟩
 refine⟨_,rfl,p,rfl,⟨_,hp⟩,dJ (xs:=xs) (λ i σ H'=>H'=H/\∃(b:Nat)(o:Option V),σ=[some (.ref p),some (.int (b:Nat)),o]/\1<=b/\b ∣ M/\∀ c∈bs.take i,c ∣ b) ⟨rfl,1,none,rfl,Å _,Χ _,λ c h=>by simp at h⟩ ?_ ?_ ?_⟩
 ·rintro i σ H' _ ⟨rfl,_⟩;exact hp
 ·rintro i x σ H' ex ⟨rfl,b,o,rfl,b1,bM,all⟩;refine Â λ gg=>?_;obtain⟨c,ec,c1,t,z,rfl,hz⟩:=cC ba ex;have cM:=dv c (ß ec);have WM:c<=100:=È (ø M1 cM) US;have MV:b<=100:=È (ø M1 bM) US;refine gg ?_;refine⟨_,rfl,_,rfl,z,_,_,_,rfl,rfl,hz,rfl,_,_,rfl,rfl,ad,rfl,_,rfl,?_⟩;have tk:bs.take (i+1)=bs.take i ++ [c]:=aC ec;have em:((b:Int)%(c:Int))=((b%c:Nat):Int):=by simp
  refine gO (λ e=>?_) (λ e=>?_)
  rotate_left
  ·have e':b%c=0:=by
    by_cases z:b%c=0
    ·exact z
    ·refine absurd ?_ e;show(!decide (V.int ((b:Int)%(c:Int))=V.int 0))=true;rw[em,Ò (λ y=>by injection y with y;lia)]
     rfl
   refine⟨rfl,b,_,rfl,b1,bM,λ d hd=>?_⟩;rw[tk] at hd;rcases é.mp hd with hd | hd
   ·exact all d hd
   ·rw[Í.mp hd];exact Nat.dvd_of_mod_eq_zero e'
  ·have g0:0<Nat.gcd b c:=ņ c b1;have WJ:Nat.gcd b c<=100:=È (ø b1 (í b c)) MV;have ed:((b:Int)/((Nat.gcd b c:Nat):Int))=((b/Nat.gcd b c:Nat):Int):=by simp
   refine⟨_,rfl,_,rfl,_,rfl,z,_,_,_,rfl,rfl,hz,rfl,b,c,rfl,_,_,rfl,rfl,⟨ad,(eO WJ).log⟩,_,rfl,z,_,_,_,rfl,rfl,hz,rfl,_,_,rfl,rfl,?_,?_⟩
   ·rw[ed];exact gm (eO (È (ċ _ _) MV)) (eO WM)
   have l1:1<=Nat.lcm b c:=Nat.lcm_pos b1 c1;refine⟨rfl,Nat.lcm b c,some (.ref z),?_,l1,Nat.lcm_dvd bM cM,λ d hd=>?_⟩
   ·show [some (V.ref p),some (V.int ((b:Int)/((Nat.gcd b c:Nat):Int)*(c:Int))),some (V.ref z)]=_;rw[ed,<- Ĕ,DV]
   rw[tk] at hd;rcases é.mp hd with hd | hd
   ·exact QI (all d hd) (Nat.dvd_lcm_left b c)
   ·rw[Í.mp hd];exact Nat.dvd_lcm_right b c
 ·rintro σ H' ⟨rfl,b,o,rfl,b1,bM,all⟩;have ln:xs.length=bs.length:=Ė ba;rw[ln,ä] at all;exact⟨_,rfl,q b b1 bM all⟩
abbrev KK:Stmt:=bT 40
def zd:Sp:=λ vs H Q _=>∃ n:Int,vs=[.int n]/\n<=5000/\Q .Ę H
theorem JE:ag ["many"] ["many"] (aa KK):=aL
theorem GE {t:Tok}(F:Ļ K "need_few" "need_few" KK f fd) (mT:mg "MOST_TOLD"\.int 5000 t):ð P w K mg base az 1 f fd ["many"] zd:=by
 refine cj F JE λ cdv A outer s H vs Q E hr h=>?_;obtain⟨n,rfl,hn,q⟩:=h;refine⟨_,aW (aT (ay gc (pv 0) (be (v:=.int 5000) rfl mT ⟨_,rfl⟩) (ax _)) (aW c7) eM),?_⟩;refine⟨_,rfl,_,_,rfl,rfl,_,rfl,?_⟩;rw[Ò ad];exact dW q
abbrev Jf:Stmt:=bT 48
def DM (ns:List Int):Prop:=∀ n∈ns,-100000<=n/\n<=100000
def vU (K:Frag):Sp:=λ vs H Q _=>∃(p:Addr)(ns:List Int),vs=[.ref p,.int (ns.length:Nat)]/\H p\.lst (ns.map V.int)/\ns.length<=20/\DM ns/\∀ H',Ext H H'->Q (.bl true) H'
theorem J8:ag ["thing","folk"] ["thing","folk"] (aa Jf):=aL
abbrev Gj:Scope:=gR [("score",.local),("is_whole",.globalImplicit),("MOST_SCORE",.globalImplicit)]
theorem EI {X:Cx}:cJ X Gj [] ["score"] [] []:=rK (L:=[(".0",.local),("score",.local),("is_whole",.globalImplicit),("MOST_SCORE",.globalImplicit)]) rfl rfl aF aF aF rfl aF aF
theorem JH:((["score"]:List Str)++([]:List Str)).Nodup:=aF
theorem Hn {t:Tok}(N:Bc K)(F:Ļ K "are_scores" "are_scores" Jf f fd) (A1:Df P w K mg base az 2 "is_whole" ["thing","low","high"] (gh K) a1 d1) (mS:mg "MOST_SCORE"\.int 100000 t) (mi:mg "isinstance" = none) (ml:mg "list" = none) (mn:mg "len" = none) (ma:mg "all" = none):ð P w K mg base az 3 f fd ["thing","folk"] (vU K):=by
 refine cj F J8 λ cdv A outer s H vs Q E hr h=>?_;obtain⟨p,ns,rfl,hp,NS,sc,q⟩:=h;refine⟨_,bA (aT (PW.pt (mw (cA (bO (ao (c8 N) rfl mi ÿ (ae (pv 0) (ae (jz rfl ml G_) aq))))) (jc (ay mv (ao aY rfl mn ě (ae (pv 0) aq)) (pv 1) (ax _))))) (aW (cq yu)) eM)
  (aW (cq (ao (w4 rfl) rfl ma PyProof.Rows.boot_all (ae (eC (te:=cV (gh K) [] E0 (aw (af 0) (aw (FT (rU λ i=>.int (-i)) (tC (.int 100000))) (aw (tC (.int 100000)) aS)))) (g:=aJ 0) rfl EI (bE (pv 0)) (λ s H C fp=>by exact bK (i:=0) JH rfl (.inl rfl)) (λ s H C fp=>by exact cg A1 hr aj (ae (pv 0) (ae (mQ i5 (be (v:=.int 100000) rfl mS ⟨_,rfl⟩)) (ae (be (v:=.int 100000) rfl mS ⟨_,rfl⟩) aq))))) aq)))),?_⟩
 refine⟨_,rfl,_,_,_,_,rfl,.inl (.lst hp),rfl,_,rfl,dW ⟨_,rfl,p,_,rfl,.inl (Ğ.of hp),_,rfl,rfl,_,rfl,?_⟩⟩;rw[Ç];rw[show(!decide (V.int ((ns.length:Nat):Int)=V.int ((ns.length:Nat):Int)))=false by rw[Ê rfl];rfl]
 refine dW ⟨_,rfl,p,rfl,⟨_,Ğ.of hp⟩,λ D hD=>?_⟩;refine eY (a:=p) (xs:=ns.map V.int) (λ i ys H'=>Ext H H'/\ys=(List.replicate i true).map V.bl) (by rw[è,Ç];lia) ⟨Ext.new hD,rfl⟩ (λ i ys H' pv=>Ğ.of (pv.1 _ _ hp)) ?_ ?_
 ·rintro i x ys H' ex ly v_ ⟨x',rfl⟩ os ų R k;obtain⟨o0,rfl⟩:∃ o0,os=[o0]:=by
   match os,ų with
   | [o0],_=>exact⟨o0,rfl⟩
  rw[Ô] at ex;obtain⟨n,en,rfl⟩:=Û.mp ex;obtain⟨s1,s2⟩:=sc n (ß en);refine⟨⟨[some (.int n)],rfl,rfl⟩,_,rfl,_,rfl,_,-100000,100000,rfl,.inl ⟨_,rfl⟩,?_⟩;rw[show Pm (-100000) 100000 (.int n)=true by show(decide (-100000<=n)&&decide (n<=100000))=true;rw[Ê s1,Ê s2];rfl]
  exact k _ H' v_ ⟨aZ _ x' hD,by rw[List.replicate_succ',Ø];rfl⟩
 ·rintro ys H' ly v_ ⟨x',rfl⟩;refine⟨D,_,rfl,Ğ.of v_,?_⟩;rw[show(List.replicate (ns.map V.int).length true).all id=true by simp]
  exact q H' x'
end
def JT:HO->Bool
 | .tup _=>true
 | .ins _ _ _=>true
 | .Η _ (.tup _)=>true
 | _=>false
def xQ (H H':Hp):Prop:=∀ b o,H b\o->JT o=true->H' b\o
mutual
theorem İ.ĸ {G G':Hp}(s:xQ G G'):∀{v:V}{d:PyData},bf d=true->İ G v d->İ G' v d
 | _,_,_,.Ę=>.Ę
 | _,_,_,.bl b=>.bl b
 | _,_,_,.int i=>.int i
 | _,_,_,.str x=>.str x
 | _,_,h,.lst e r=>by simp[bf] at h
 | _,_,h,.tup e r=>.tup (s _ _ e rfl) (ď.ĸ s (by simpa only[bf] using h) r)
 | _,_,h,.Oy e=>by simp[bf] at h
 | _,_,h,.Rv e r=>by simp[bf] at h
theorem ď.ĸ {G G':Hp}(s:xQ G G'):∀{vs:List V}{ds:List PyData},ŗ ds=true->ď G vs ds->ď G' vs ds
 | _,_,_,.nil=>.nil
 | _,_,h,.cons r t=>by
  simp only[ŗ,Bool.and_eq_true] at h;exact .cons (İ.ĸ s h.1 r) (ď.ĸ s h.2 t)
end
theorem Ob.ĸ {C:Addr}{H H':Hp}{v:V}{fk:Int}{bg tl pt:PyData}{X Y:List (Str × V)->Prop}(h:Ob C H v fk bg tl pt X)(s:xQ H H')(n1:bf bg=true)(n2:bf tl=true)(n3:bf pt=true)(k:∀ fs,X fs->Y fs):Ob C H' v fk bg tl pt Y:=by
 obtain⟨a,dx,fs,rfl,ha,h1,⟨b,h2,r2⟩,⟨m,h3,r3⟩,⟨p,h4,r4⟩,h5,h6⟩:=h.ex;exact⟨a,dx,fs,rfl,s _ _ ha rfl,h1,⟨b,h2,r2.ĸ s n1⟩,⟨m,h3,r3.ĸ s n2⟩,⟨p,h4,r4.ĸ s n3⟩,h5,k fs h6⟩
section
variable {C:Nat->Addr}{H H':Hp}
theorem PM.ĸ {r:R0}{v:V}(h:PM C H r v)(s:xQ H H'):PM C H' r v:=Ob.ĸ h s r.nlB r.nl (vW _) λ fs e=>by
 cases r with
 | split _ _=>trivial
 | pairs _ a b =>
  obtain⟨c,e1,e2⟩:=e;exact⟨c,e1,e2.ĸ s tj⟩
 | û _ a b f =>
  obtain⟨⟨c,e1,e2⟩,e3⟩:=e;exact⟨⟨c,e1,e2.ĸ s tj⟩,e3⟩
theorem Ru.ĸ {t:Rl}{v:V}(h:Ru C H t v)(s:xQ H H'):Ru C H' t v:=by
 cases t with
 | one r=>exact PM.ĸ h s
end
def uT:HO->Bool
 | .dK _=>true
 | .dT _=>true
 | .Η _ (.dK _)=>true
 | .Η _ (.dT _)=>true
 | _=>false
def nD (H:Hp):Hp:=λ b=>match H b with
 | some o=>if uT o=true then none else some o
 | none=>none
section
variable {H H':Hp}{b:Addr}{o:HO}
theorem dF (e:H b\o)(n:uT o=false):nD H b\o:=by
 unfold nD;rw[e];show(if uT o=true then none else some o)=_
 rw[n];rfl
theorem iN (e:nD H b\o):H b\o/\uT o=false:=by
 unfold nD at e;cases h:H b with
 | none=>rw[h] at e;cases e
 | some u =>
  rw[h] at e;have e':(if uT u=true then none else some u)\o:=e
  cases z:uT u with
  | true=>rw[z,Ë rfl] at e';cases e'
  | false =>
   rw[z,Æ av] at e';cases e';exact⟨rfl,z⟩
theorem bP (H:Hp):Ext (nD H) H:=λ b o e=>(iN e).1
theorem Ext.nd (x:Ext H H'):Ext (nD H) (nD H'):=λ b o e=>dF (x _ _ (iN e).1) (iN e).2
theorem xt (H:Hp):xQ H (nD H):=λ b o e t=>dF e (by unfold JT at t;split at t <;> first | rfl | cases t)
theorem wm {u:HO}(e:H b\o)(z:uT o=true):Ext (nD H) (nD (ak H b u)):=λ c v h=>by
 obtain⟨h1,h2⟩:=iN h;have ne:c≠b:=λ y=>by rw[y,e] at h1;cases h1;rw[z] at h2;cases h2
 exact dF (by rw[ai ne];exact h1) h2
theorem BR {H0:Hp}{u:HO}(x:Ext (nD H0) (nD H))(e:nD H0 b=none):Ext (nD H0) (nD (ak H b u)):=λ c v h=>by
 obtain⟨h1,h2⟩:=iN (x _ _ h);have ne:c≠b:=λ y=>by rw[y,e] at h;cases h
 exact dF (by rw[ai ne];exact h1) h2
theorem rW (e:H b=none):nD H b=none:=by unfold nD;rw[e]
end
end My
namespace My
open PySem PySem.W L2
section
variable {prog:Program}{w:World}{A:Around}{E:eZ}{s:Shared}{it d:Addr}{i ep:Nat}{es:Array DictEntry}{od:Obj}{e:DictEntry}
theorem xM:Builtin.Dict_items.ownsTuple "dict_keyiterator" = false:=av
theorem xo (hi:s.heap.IsKeyIter it d i es.size ep)(ho:s.heap.get? d\od)(MA:od.data=.dict es ep)(he:es[i]?\e)
  (k:∀ h',h'.IsKeyIter it d (i+1) es.size ep->Heap.SameBut it s.heap h'->Q (some e.key) { s with heap:=h' }):wpAny (model prog w) A (pyNext (.ref it)) Q E s:=by
 obtain⟨oi,Nz,Si,NY⟩:=id hi;have T0:=hi.typeIs;refine À (ň (Ī T0 Ģ (Ĉ Ģ T0 Nv (À (Á (À (À (À (ř T0 (Á (À (Υ Nz NY ?_)))))))))  (Nb _))));simp only[xM,Bool.false_eq_true,if_false];show wpAny _ _ (if(Value.ref d==Value.none)=true then _ else _) _ _ _
 rw[Æ (gG d)];refine À (Á (À (Ġ ho MA ?_)));rw[Æ (by simp)]
 refine À (Á (À (ĳ ho MA ?_)));rw[Æ (by simp)]
 refine Á ?_;simp only[show ¬ ((i:Int)<0) from by lia,if_false,Int.toNat_natCast,he]
 refine À (À (ř T0 (Á (À (wpAny_isOneOf_keyiter T0 ?_)))));show wpAny _ _ (setField (.ref it) 1 (rawInt ((i:Int)+1))>>=_) _ _ s;have UG:(s.heap.update it (Obj.mapFields (·.setIfInBounds 1 (rawInt ((i:Int)+1))))).IsKeyIter it d (i+1) es.size ep :=
  ⟨_,ć _ Nz (Obj.isFreed_of_fields (ŝ NY _)),(Obj.cls_mapFields ..).trans Si,by rw[ŝ NY];simp[rawInt]⟩
 have T1:Shared.TypeIs { s with heap:=s.heap.update it (Obj.mapFields (·.setIfInBounds 1 (rawInt ((i:Int)+1)))) } (.ref it) "dict_keyiterator" := Heap.IsKeyIter.typeIs UG
 refine À (Ŷ Nz NY (by simp) (wpAny_bind (wpAny_holding (wpAny_bind (wpAny_isOneOf_keyiter T1 ?_)))))
 exact Á (Á ⟨_,rfl,Á (k _ UG (Β ..))⟩)
theorem zc (hh:A.handled=none)(hi:s.heap.IsKeyIter it d i es.size ep)(ho:s.heap.get? d\od)(MA:od.data=.dict es ep)(he:es.size<=i)
  (k:∀ h',Heap.ExtBut it s.heap h'->Q none { s with heap:=h' }):wpAny (model prog w) A (pyNext (.ref it)) Q E s:=by
 obtain⟨oi,Nz,Si,NY⟩:=id hi;have T0:=hi.typeIs;refine À (ň (Ī T0 Ģ (Ĉ Ģ T0 Nv (À (Á (À (À (À (ř T0 (Á (À (Υ Nz NY ?_)))))))))  (Nb _))));simp only[xM,Bool.false_eq_true,if_false];show wpAny _ _ (if(Value.ref d==Value.none)=true then _ else _) _ _ _
 rw[Æ (gG d)];refine À (Á (À (Ġ ho MA ?_)));rw[Æ (by simp)]
 refine À (Á (À (ĳ ho MA ?_)));rw[Æ (by simp)]
 refine Á ?_;simp only[show ¬ ((i:Int)<0) from by lia,if_false,Int.toNat_natCast,Array.getElem?_eq_none he]
 refine À (À (ř T0 (Á ?_)));show wpAny _ _ (setField (.ref it) 0 .none>>=_) _ _ s;refine À (Ŷ Nz NY (by simp) (wpAny_bind ?_))
 simp only[newExc,newTuple];refine À (î (À (Q8 (by first | rfl | (simp only[firstArgMember];rfl)) (î ?_ (by size_fits)))) (by size_fits))
 simp only[raiseNew];refine À (wpAny_handled ?_);rw[show A.in1.handled=none from hh];refine À (Á (wpAny_throw (À ?_)));exact π ⟨_,Ó _ rfl,rfl⟩ isSubtype_stop (Á (k _ (((Β ..).extBut.push _).push _)))
theorem vJ (hT:s.TypeIs (.ref d) "dict") (hd:(d==sysModules)=false) (ho:s.heap.get? d\od) (MA:od.data=.dict es ep)
  (k:Q (.ref s.heap.objs.size) { s with heap:=s.heap.push { cls:=.type "dict_keyiterator",data:=.fields #[.ref d,.int 0 0,.int es.size 0,.int ep 0] } }):wpAny (model prog w) A (pyIter (.ref d)) Q E s:=by
 refine PP hT RD (Ĉ RD hT PySem.F.entry_dict_iter ?_ (PySem.F.args_dict_iter_1 _));refine À (À (NC hT (À ?_)));refine Á (Á ?_);show wpAny _ _ (Builtin.Dict.showsAll d>>=_) _ _ s;unfold Builtin.Dict.showsAll;rw[Æ (by rw[hd];exact Ù)]
 refine À (Á (À (Ġ ho MA (À (ĳ ho MA ?_)))));refine À (î (Á ⟨_,rfl,"dict_keyiterator",_,⟨_,Ó _ rfl,rfl⟩,Ģ.lookup,?_⟩))
 simpa[rawInt] using k
end
def HF (d:Addr)(o:Obj)(u:HO):It :=
 ⟨λ i H=>H d\.Η o u/\i<bV u,λ i H x H'=>H'=H/\∃ v,nV H u i x v,λ i H=>H d\.Η o u/\bV u<=i⟩
theorem wj (D:oI u)(hd:o.data=.dict es ep):p6 P w K tg (HF d o u) [it] it (λ i h=>h.IsKeyIter it d i es.size ep) where
 mem:=by simp
 obj:=λ i h st b hb=>by
  obtain⟨oi,q,c,dd⟩:=st;have e:b=it:=by simpa using hb
  subst e;exact⟨oi,q,λ v z=>by rw[dd] at z;cases z⟩
 keep:=λ i h h' st k=>by
  obtain⟨oi,q,c,dd⟩:=st;exact⟨oi,k it (by simp) _ q,c,dd⟩
 item:=by
  intro X hP hw hK hc i pins s σ H E I hf st hg;refine Â λ gg=>?_;subst hP hw hK;obtain⟨Qk,ş⟩:=hg;obtain⟨ho,R_,rel⟩:=gF D I.Ě Qk hd;obtain⟨f0,f1,f2,f3,f4,f5⟩:=hf it (by simp)
  have he:=n_ (show i<es.size by lia)
  obtain⟨kx,v,pr,rk,rv⟩:=rel i _ he;refine gg ?_;refine xo st ho hd he λ h1 O8 sb=>?_;have I1:Inv X pins σ H { s with heap:=h1 }:=I.turned (λ b ob hb q=>(sb.2 b hb).trans q) f0 f1 f3 f4 f5
  obtain⟨oi,q,c,dd⟩:=id O8;exact⟨_,rfl,pV q c dd av ⟨kx,H,I1,rk,⟨rfl,v,pr⟩,O8,λ b hb=>(hf b hb).1⟩⟩
 done:=by
  intro X hP hw hK hc i pins s σ H E I hf st hg;subst hP hw hK;obtain⟨Qk,ş⟩:=hg;obtain⟨ho,R_,rel⟩:=gF D I.Ě Qk hd;obtain⟨f0,f1,f2,f3,f4,f5⟩:=hf it (by simp)
  exact zc (I.ok.hd hc) st ho hd ad λ h' eb=>⟨rfl,I.turned (λ b ob hb q=>eb b ob hb q) f0 f1 f3 f4 f5⟩
 self:=λ _ _ _ _ _ st k=>wpAny_pyIter_keyiter st k
def jE (tl:TE):L2.TI:=λ σ H R=>tl σ H λ x H1=>∃ d u,x=.ref d/\oI u/\Rd H1 d u/\∀ ob H2,Fz H1 d ob u H2->R (HF d ob u) H2
theorem cK (ho:PE X o tl):PI X tg o (jE tl):=by
 intro pins s σ H R I h;refine bj (ho pins s σ H _ I h) λ v s1 ⟨x,H1,I1,r1,q1⟩=>?_;refine Â λ gg=>?_;obtain⟨d,u,rfl,D,rd,q⟩:=q1;cases (show v=.ref d from r1);obtain⟨ob,es,ep,g1,g2,g3,g4,g5,g6⟩:=jq D (mV D I1.Ě rd);have hT:s1.TypeIs (.ref d) "dict" :=⟨ob,g1,g2.1⟩;obtain⟨T3,H2,f1,f2,I2⟩:=rF I1 D rd;have eo:T3=ob:=by rw[g1] at f1;exact(á f1).symm
 subst eo;refine gg ?_;refine vJ hT g4 g1 g3 ?_;refine⟨s1.heap.objs.size,[s1.heap.objs.size],_,_,H2,rfl,I2.kept λ b ob e=>Ä _ e,wj D g3,⟨_,Ó _ rfl,rfl,rfl⟩,λ b hb=>?_,q _ _ f2⟩;have e:b=s1.heap.objs.size:=by simpa using hb
 subst e;exact I2.OP (Å _) (I2.Ě.fresh (Å _))
theorem gB {g:TG}{tb:TS}{D:bH}(Pv:Nat->St->Hp->Prop)(h0:Pv 0 σ H)(hf:∀ i σ H,Pv i σ H->H d\.Η ob u)
  (hs:∀ i σ H kx v,i<bV u->Pv i σ H->nV H u i kx v->g kx σ H λ ĩ H2=>tb { D with nx:=Pv (i+1),ct:=Pv (i+1),bk:=D.nx } ĩ H2) (hd:∀ σ H,Pv (bV u) σ H->D.nx σ H) :
  ∃ W:Nat->Nat->St->Hp->Prop,(∃ m,W 0 m σ H)/\∀ i m σ H,W i m σ H ->
   ((HF d ob u).stop i H/\D.nx σ H)\/((HF d ob u).go i H/\∃ N:St->Hp->Prop,(∀ ĺ H',N ĺ H'->∃ m',m'<m/\W (i+1) m' ĺ H')/\∀ x H',(HF d ob u).x_ i H x H'->g x σ H' λ ĩ H2=>tb { D with nx:=N,ct:=N,bk:=D.nx } ĩ H2):=by
 refine⟨λ i m σ H=>m=bV u-i/\i<=bV u/\Pv i σ H,⟨bV u,by simp,Nat.zero_le _,h0⟩,?_⟩
 rintro i m σ H ⟨rfl,hi,p⟩;have q:=hf i σ H p;by_cases ş:i<bV u
 ·refine .inr ⟨⟨q,ş⟩,Pv (i+1),λ ĺ H' n=>⟨bV u-(i+1),ad,rfl,ş,n⟩,?_⟩;rintro x H' ⟨rfl,v,pr⟩;exact hs i σ _ x v ş p pr
 ·have e:i=bV u:=ad;subst e;exact .inl ⟨⟨q,Å _⟩,hd σ H p⟩
section
variable {κ μ:Type} [DecidableEq κ] [DecidableEq μ] {g:κ->μ}
abbrev oR (g:κ->μ)(F:κ->Prop):Prop:=∀ a b,F a->F b->g a=g b->a=b
theorem iR {F:κ->Prop}(inj:oR g F){n:κ}(fn:F n):∀{ps:List (κ × V)},(∀ p∈ps,F p.1)->a9 (ps.map λ p=>(g p.1,p.2)) (g n)=a9 ps n
 | [],_=>rfl
 | p::ps,h=>by
  have hp:=h p (Ï ..);have ih:=iR inj fn (ps:=ps) λ q hq=>h q (Ì _ hq);rw[É];by_cases e:p.1=n
  ·rw[aV e,aV (p:=(g p.1,p.2)) (ý g e)]
  ·rw[aK e,aK (p:=(g p.1,p.2)) (λ z=>e (inj _ _ hp fn z)),ih]
theorem jZ {F:κ->Prop}(inj:oR g F){n:κ}(fn:F n){v:V}{ps:List (κ × V)}(h:∀ p∈ps,F p.1):aU (ps.map λ p=>(g p.1,p.2)) (g n) v=(aU ps n v).map λ p=>(g p.1,p.2):=by
 have ea:((ps.map λ p=>(g p.1,p.2)).any λ kv=>decide (kv.1=g n))=ps.any λ kv=>decide (kv.1=n):=by
  rw[List.any_map];refine any_congr λ p hp=>?_;exact A_.mpr ⟨λ z=>inj _ _ (h p hp) fn z,λ z=>ý g z⟩
 unfold aU;rw[ea];split
 ·rw[ā,ā];refine ń λ p hp=>?_;show(if g p.1=g n then _ else _)=((λ p:κ × V=>(g p.1,p.2)) (if p.1=n then(p.1,v) else p))
  by_cases e:p.1=n
  ·rw[Ë (ý g e),Ë e]
  ·rw[Æ (λ z=>e (inj _ _ (h p hp) fn z)),Æ e]
 ·rw[Ø];rfl
where any_congr {α:Type} {f k:α->Bool}:∀{l:List α},(∀ x∈l,f x=k x)->l.any f=l.any k
 | [],_=>rfl
 | x::l,h=>by rw[ł,ł,h x (Ï ..),any_congr λ y hy=>h y (Ì _ hy)]
theorem oJ {v:V}{n:κ}{ps:List (κ × V)}{q:κ × V}(h:q∈aU ps n v):q=(n,v)\/q∈ps:=by
 unfold aU at h;split at h
 ·obtain⟨p,hp,e⟩:=ë.mp h;split at e
  ·rename_i z
   left;rw[<- e,z]
  ·right;rw[<- e];exact hp
 ·rcases é.mp h with h | h
  ·exact .inr h
  ·exact .inl (Í.mp h)
end
def i4:Bool->NK->Prop
 | true,.t _=>True
 | false,.k _=>True
 | _,_=>False
def Ig:NK->Key
 | .k x=>x
 | .t _=>.Ę
def HX:NK->List NK
 | .t ks=>ks.map .k
 | .k x=>[.k x]
theorem Az:oR Ig (i4 false):=λ a b h1 h2 e=>by
 cases a with
 | t _=>exact h1.elim
 | k x=>cases b with
  | t _=>exact h2.elim
  | k y=>exact ý NK.k e
theorem mE:∀{a b:List Key},a.map NK.k=b.map NK.k->a=b
 | [],[],_=>rfl
 | [],_::_,e=>by simp at e
 | _::_,[],e=>by simp at e
 | x::a,y::b,e=>by
  rw[É,É] at e;injection e with e1 e2
  injection e1 with e1
  rw[e1,mE e2]
theorem AW:oR HX (i4 true):=λ a b h1 h2 e=>by
 cases a with
 | k _=>exact h1.elim
 | t x=>cases b with
  | k _=>exact h2.elim
  | t y=>exact ý NK.t (mE e)
theorem wn {tp:Bool}{d:PyData}(h:oj tp d=true):i4 tp (dh d):=by
 cases tp with
 | true =>
  cases d with
  | tuple ds=>trivial
  | _=>simp[oj] at h
 | false =>
  cases d with
  | tuple ds =>
   exfalso
   match ds,h with
   | [.int i,d],h=>simp[oj] at h
   | [],h | [_],h | (_::_::_::_),h=>simp[oj,hE] at h
   | [.none,_],h | [.bool _,_],h | [.str _,_],h | [.list _,_],h | [.tuple _,_],h | [.dict _,_],h=>simp[oj,hE] at h
  | _=>trivial
def fA (tp:Bool)(ps:List (NK × V)):HO:=if tp=true then .dT (ps.map λ p=>(HX p.1,p.2)) else .dK (ps.map λ p=>(Ig p.1,p.2))
theorem wJ (tp:Bool)(ps:List (NK × V)):oI (fA tp ps)/\uT (fA tp ps)=true/\bV (fA tp ps)=ps.length:=by
 cases tp with
 | true=>exact⟨True.intro,rfl,Ç _⟩
 | false=>exact⟨True.intro,rfl,Ç _⟩
theorem O5 {H:Hp}{x:V}{k:Key}(h:İ H x (lG k)):x=kV k:=by
 cases k with
 | inl i=>cases h;rfl
 | inr s=>cases h;rfl
 | Ę=>cases h;rfl
theorem O2 (H:Hp)(k:Key):İ H (kV k) (lG k):=by
 cases k with
 | inl i=>exact .int i
 | inr s=>exact .str s
 | Ę=>exact .Ę
theorem Oo {H:Hp}:∀{ks:List Key}{xs:List V},ď H xs (ks.map lG)->xs=ks.map kV
 | [],_,h=>by cases h;rfl
 | k::ks,_,h=>by
  rw[É] at h;cases h with
  | cons a b=>rw[O5 a,Oo b];rfl
theorem Oi (H:Hp):∀(ks:List Key),ď H (ks.map kV) (ks.map lG)
 | []=>.nil
 | k::ks=>.cons (O2 H k) (Oi H ks)
theorem A9 {H:Hp}{b:Addr}{ks:List Key}(h:H b\.tup (ks.map kV)):O_ H (ks.map .k) b:=by
 refine⟨_,h,?_⟩
 clear h
 induction ks with
 | nil=>exact .nil
 | cons k ks ih=>exact .cons rfl ih
theorem FK {H:Hp}{n:NK}{v:V}(h:NV H n v):İ H v (dU n):=by
 cases n with
 | k x=>cases (show v=kV x from h);exact O2 H x
 | t ks =>
  obtain⟨b,rfl,e⟩:=h;exact .tup e (Oi H ks)
theorem AO {H:Hp}{n:NK}{v:V}(h:İ H v (dU n)):NV H n v:=by
 cases n with
 | k x=>exact O5 h
 | t ks =>
  have h':İ H v (.tuple (ks.map lG)):=h;cases h' with
  | tup hb rb=>exact⟨_,rfl,by rw[<- Oo rb];exact hb⟩
theorem j7 {H H':Hp}{n:NK}{v:V}(h:NV H n v)(x:Ext H H'):NV H' n v:=by
 cases n with
 | k y=>exact h
 | t ks =>
  obtain⟨b,e,q⟩:=h;exact⟨b,e,x _ _ q⟩
section
variable {H:Hp}{a:Addr}{tp:Bool}{ps:List (NK × V)}{n:NK}{kx v:V}
theorem qg (hu:Rd H a (fA tp ps))(all:∀ p∈ps,i4 tp p.1)(fn:i4 tp n)(nv:NV H n kx):ſ H a kx (a9 ps n):=by
 cases tp with
 | true =>
  cases n with
  | k _=>exact fn.elim
  | t ks =>
   obtain⟨b,rfl,hb⟩:=nv;exact .inr ⟨_,HX (.t ks),b,hu,rfl,A9 hb,(iR AW fn all).symm⟩
 | false =>
  cases n with
  | t _=>exact fn.elim
  | k x=>exact .inl ⟨_,x,hu,nv,(iR Az fn all).symm⟩
theorem xx (hu:H a\fA tp ps)(all:∀ p∈ps,i4 tp p.1)(fn:i4 tp n)(nv:NV H n kx)(lt:ps.length<sizeLine):Mp H a kx v (ak H a (fA tp (aU ps n v))):=by
 cases tp with
 | true =>
  cases n with
  | k _=>exact fn.elim
  | t ks =>
   obtain⟨b,rfl,hb⟩:=nv;refine .inr ⟨_,HX (.t ks),b,hu,rfl,A9 hb,by rw[Ç];exact lt,?_⟩
   rw[jZ AW fn all];rfl
 | false =>
  cases n with
  | t _=>exact fn.elim
  | k x =>
   refine .inl ⟨_,x,hu,nv,by rw[Ç];exact lt,?_⟩
   have e:=jZ (v:=v) Az fn all;have e':aU (ps.map λ p=>(Ig p.1,p.2)) x v=(aU ps (NK.k x) v).map λ p=>(Ig p.1,p.2):=e;rw[e'];rfl
end
def LE (tp:Bool):TE:=λ _ H Q=>∀ p,H p=none->Q (.ref p) (ak H p (fA tp []))
theorem HB {X:Cx}{pos:Pos}(tp:Bool):PE X (.Dict [] [] pos) (LE tp):=by
 cases tp with
 | true=>exact im
 | false=>exact gy
def aA (ps:Tw):HO:=.dT (ps.map λ p=>([p.1.1,.k (.inl p.1.2)],.int (p.2:Nat)))
theorem tJ:oR (λ q:TK=>[q.1,NK.k (.inl q.2)]) (λ _=>True):=λ a b _ _ e=>by
 have e':[a.1,NK.k (.inl a.2)]=[b.1,NK.k (.inl b.2)]:=e;injection e' with e1 e2
 injection e2 with e2 _
 injection e2 with e2
 injection e2 with e2
 exact Prod.ext e1 e2
theorem fG {H:Hp}{ps:Tw}{i:Nat}{kx v:V}(h:nV H (aA ps) i kx v):∃ p b sv,ps[i]?\p/\kx=.ref b/\H b\.tup [sv,.int p.1.2]/\NV H p.1.1 sv/\v=.int (p.2:Nat):=by
 rcases h with⟨l,k,e,_⟩ | ⟨l,k,b,e,hk,rfl,vs,hb,nv⟩
 ·cases e
 ·cases e;rw[Ô] at hk;obtain⟨p,hp,e2⟩:=Û.mp hk;cases e2;cases nv with
  | cons n1 nv =>
   cases nv with
   | cons n2 nv =>
    cases nv;cases (show _=V.int p.1.2 from n2);exact⟨p,b,_,hp,rfl,hb,n1,rfl⟩
theorem xR {u:HO}(h:oI u):uT u=true/\∀ o,uT (.Η o u)=true:=by
 cases u with
 | dK Ý=>exact⟨rfl,λ _=>rfl⟩
 | dT Ý=>exact⟨rfl,λ _=>rfl⟩
 | _=>exact h.elim
theorem AY {H:Hp}{d:Addr}{u:HO}(h:oI u)(r:Rd H d u):∃ o,H d\o/\uT o=true:=by
 rcases r with r | ⟨o,r⟩
 ·exact⟨_,r,(xR h).1⟩
 ·exact⟨_,r,(xR h).2 o⟩
theorem wO {H H':Hp}{d:Addr}{o:Obj}{u:HO}(h:oI u)(r:Rd H d u)(z:Fz H d o u H'):Ext (nD H) (nD H'):=λ b v e=>by
 obtain⟨q,e1,e2⟩:=AY h r;obtain⟨h1,h2⟩:=iN e;have ne:b≠d:=λ y=>by rw[y,e1] at h1;cases h1;rw[e2] at h2;cases h2
 exact dF (by rw[z.2 b ne];exact h1) h2
theorem Qo.ĸ {K:Frag}{H H':Hp}{p:V}{s:Š}(h:Qo K H p s)(x:xQ H H')(nl:bf s.next=true):Qo K H' p s:=by
 obtain⟨a,sv,nv,e,ha,⟨z,e2,hz⟩,hn⟩:=h;refine⟨a,sv,nv,e,x _ _ ha rfl,⟨z,e2,?_⟩,hn.ĸ x nl⟩;rcases hz with(h | ⟨o,h⟩) | h
 ·exact .inl (.inl (x _ _ h rfl))
 ·exact .inl (.inr ⟨o,x _ _ h rfl⟩)
 ·exact .inr h
theorem Mn.ĸ {K:Frag}{H H':Hp}(x:xQ H H'):∀{ps:List V}{ss:List Š},Mn K H ps ss->(∀ s∈ss,bf s.next=true)->Mn K H' ps ss
 | _,_,.nil,_=>.nil
 | _,_,.cons a b,h=>.cons (a.ĸ x (h _ (Ï ..))) (b.ĸ x λ s hs=>h s (Ì _ hs))
theorem Ce {K:Frag}{H:Hp}{l:Addr}{ss:List Š}(h:Ry K H l ss)(nl:∀ s∈ss,bf s.next=true):Ry K (nD H) l ss:=by
 obtain⟨ps,hl,al⟩:=h;exact⟨ps,dF hl rfl,al.ĸ (xt H) nl⟩
theorem Ry.ext {K:Frag}{H H':Hp}{l:Addr}{ss:List Š}(h:Ry K H l ss)(x:Ext H H'):Ry K H' l ss:=by
 obtain⟨ps,hl,al⟩:=h;exact⟨ps,x _ _ hl,al.ext x⟩
def Lj (t:Rl)(k:Nat)(ps:Tw):Prop:=∀ p∈ps,oj t.tp (dU p.1.1)=true/\dh (dU p.1.1)=p.1.1/\t.J_ (k:Nat) (dU p.1.1)
def SA (K:Frag)(G:Hp)(t:Rl)(k:Nat)(qs:List (NK × V)):Prop:=∀ q∈qs,∃ l,q.2=.ref l/\Ry K G l (t.steps (dU q.1) (k:Nat))
theorem SA.ext {K:Frag}{G G':Hp}{t:Rl}{k:Nat}{qs:List (NK × V)}(h:SA K G t k qs)(x:Ext G G'):SA K G' t k qs:=λ q hq=>by
 obtain⟨l,e,s⟩:=h q hq;exact⟨l,e,s.ext x⟩
section
variable {P:Program}{w:World}{K:Frag}{mg:bD}{base:Heap}{C:Nat->Addr}{f a1 a2:Addr}{fd d1 d2:FuncData}
abbrev Io:Stmt:=bT 49
abbrev Mg:List Str:=["rule","keys","at","steps","state","total"]
theorem Tz:ag Mg ["rule","keys","at"] (aa Io):=aL
def yk (K:Frag)(C:Nat->Addr):Sp:=λ vs H Q _=>∃(v:V)(d:Addr)(k:Nat)(t:Rl)(ps:Tw),vs=[v,.ref d,.int (k:Nat)]/\Ru C (nD H) t v/\t.ok/\(k:Int)<t.ö/\Rd H d (aA ps)/\ps.length<=5000/\Lj t k ps /\
 ∀ a qs H',Ext (nD H) (nD H')->Kept H H' d->Rd H' d (aA ps)->H a=none->a≠d->H' a\fA t.tp qs->SA K (nD H') t k qs->(∀ q∈qs,i4 t.tp q.1/\∃ p∈ps,q.1=p.1.1)->(∀ p∈ps,∃ x,a9 qs p.1.1\x/\(p.1.1,x)∈qs)->qs.length<=ps.length->Q (.ref a) H'
theorem mq {κ:Type} [DecidableEq κ] {n:κ}:∀{qs:List (κ × V)},(a9 qs n=none/\∀ q∈qs,q.1≠n)\/∃ x,a9 qs n\x/\(n,x)∈qs
 | []=>.inl ⟨rfl,λ q h=>nomatch h⟩
 | p::qs=>by
  by_cases e:p.1=n
  ·right;subst e;exact⟨p.2,aV rfl,Ï ..⟩
  ·rw[aK e];rcases mq (n:=n) (qs:=qs) with⟨h,k⟩ | ⟨x,h,k⟩
   ·refine .inl ⟨h,λ q hq=>?_⟩;rcases Ö.mp hq with rfl | hq
    ·exact e
    ·exact k q hq
   ·exact .inr ⟨x,h,Ì _ k⟩
theorem GZ (M:c6 P w K mg base az 7 "steps" ["self","state","at"] (uV C) (tw K C)) (F:Ļ K "steps_from" "steps_from" Io f fd):ð P w K mg base az 8 f fd ["rule","keys","at"] (yk K C):=by
 refine cj F Tz λ cdv A outer s H vs Q E hr h=>?_;refine Â λ gg=>?_;obtain⟨v,d,k,t,ps,rfl,ru,ok,hk,hd,l5,sk,q⟩:=h;have nd:=Tz.nd;have hu:(A.deeper (PyProof.Rows.envOfC "steps_from" (aa Io) s.heap.objs.size f cdv)).units+2<cLine:=by have:=hr.un;lia
 refine gg ?_;refine⟨_,bA (cB (i:=3) nd rfl (Or.inl rfl) (HB t.tp))
  (bA (bC ò rfl (cK (pv 1)) (bq rfl (cL (bK (i:=4) nd rfl (Or.inl rfl)) (cL (bK (i:=5) nd rfl (Or.inl rfl)) aR)))
   (aW (aT (vR (uK hu (pv 4) (pv 3))) (aW (cI hu (pv 3) (pv 4) (eV (pv 0) M hr aj (ae (pv 4) (ae (pv 2) aq))) rfl)) eM)))
  (aW (cq (pv 3)))),?_⟩
 intro a ha;have Rj:a≠d:=λ e=>by
  obtain⟨o,z,_⟩:=AY (u:=aA ps) True.intro hd;rw[e,z] at ha;cases ha
 have SW:Rd (ak H a (fA t.tp [])) d (aA ps):=by
  rcases hd with h | ⟨o,h⟩
  ·exact .inl (by rw[ai Rj.symm];exact h)
  ·exact .inr ⟨o,by rw[ai Rj.symm];exact h⟩
 refine⟨_,rfl,d,aA ps,rfl,True.intro,SW,λ ob H2 fz=>?_⟩;have x0:Ext (nD H) (nD H2):=(Ext.new ha).nd.trans (wO (u:=aA ps) True.intro SW fz);refine gB (λ i σ H'=>∃(qs:List (NK × V))(o4 o5:Option V),σ=[some v,some (.ref d),some (.int (k:Nat)),some (.ref a),o4,o5]/\H' d\.Η ob (aA ps)/\Ext (nD H) (nD H')/\Kept H H' d/\H' a\fA t.tp qs/\SA K (nD H') t k qs/\(∀ q∈qs,i4 t.tp q.1/\∃ p∈ps,q.1=p.1.1)/\(∀ p∈ps.take i,∃ x,a9 qs p.1.1\x/\(p.1.1,x)∈qs)/\qs.length<=i) ?_ ?_ ?_ ?_
 ·refine⟨[],none,none,rfl,fz.1,x0,λ b o e n=>?_,?_,(λ q h=>nomatch h),(λ q h=>nomatch h),(λ p h=>by simp at h),Nat.le_refl _⟩
  ·rw[fz.2 b n,ai (ap e ha)];exact e
  ·rw[fz.2 a Rj];exact bz
 ·rintro i σ H' ⟨_,_,_,_,h,_⟩;exact h
 ·rintro i σ H' kx vv hi ⟨qs,o4,o5,rfl,hf,xe,kp,PJ,sd,qf,qa,ql⟩ pr;refine Â λ gg=>?_;obtain⟨p,b,sv,hp,rfl,hb,nv,rfl⟩:=fG pr;have Qi:=ß hp;have hil:i<ps.length:=(Ú.mp hp).1;obtain⟨s1,s2,s3⟩:=sk p Qi;have fn:i4 t.tp p.1.1:=by rw[<- s2];exact wn s1
  refine gg ?_;refine⟨b,_,rfl,Ĭ.of hb,rfl,_,_,rfl,_,_,rfl,rfl,?_⟩;have gt:=qg (.inl PJ) (λ q hq=>(qf q hq).1) fn nv;refine⟨_,rfl,_,rfl,a,_,rfl,gt,_,rfl,?_⟩;have tk:ps.take (i+1)=ps.take i ++ [p]:=aC hp;rcases mq (n:=p.1.1) (qs:=qs) with⟨e,k2⟩ | ⟨x,e,k2⟩
  ·rw[e];refine fU ?_;have vs:=(dC ok hk s3);refine pq (t:=t) (v:=v) aF ((ru.ext xe).ext (bP _)) ⟨t.kind,t.ŵ,rfl⟩ (λ R r=>⟨_,rfl,r⟩) ⟨_,rfl,_,rfl,?_⟩;refine⟨v,sv,(k:Nat),t,dU p.1.1,rfl,(ru.ext xe).ext (bP _),rfl,ok,ad,hk,s3,FK nv,λ l H3 x3 st=>?_⟩;obtain⟨ln,sl⟩:=st;have Tb:=Ce sl λ s hs=>(vs s hs).1.nl;have Rs:=x3 _ _ PJ;have pt:=xx (v:=.ref l) (kx:=sv) Rs (λ q hq=>(qf q hq).1) fn (j7 nv x3) (by rw[è];lia)
   have xu:Ext (nD H3) (nD (ak H3 a (fA t.tp (aU qs p.1.1 (.ref l))))):=wm Rs (wJ t.tp qs).2.1;have x4:=x3.nd.trans xu;refine⟨_,rfl,_,rfl,a,_,rfl,pt,aU qs p.1.1 (.ref l),_,_,rfl,?_,xe.trans x4,?_,bz,?_,?_,?_,?_⟩
   ·rw[ai Rj.symm];exact x3 _ _ hf
   ·intro c o hc n;rw[ai (ap hc ha)];exact x3 _ _ (kp _ _ hc n)
   ·intro z hz;rcases oJ hz with rfl | hz
    ·exact⟨l,rfl,Tb.ext xu⟩
    ·obtain⟨l',e',s'⟩:=sd z hz;exact⟨l',e',s'.ext x4⟩
   ·intro z hz;rcases oJ hz with rfl | hz
    ·exact⟨fn,p,Qi,rfl⟩
    ·exact qf z hz
   ·intro z hz;rw[L2.Ũ _ e];rw[tk] at hz;rcases é.mp hz with hz | hz
    ·obtain⟨x,hx,mx⟩:=qa z hz;have ne:z.1.1≠p.1.1:=λ y=>k2 _ mx y;rw[<- L2.Ũ _ e,pW,Æ ne];exact⟨x,hx,by rw[L2.Ũ _ e];exact ŧ _ mx⟩
    ·rw[Í.mp hz];rw[<- L2.Ũ _ e,pW,Ë rfl];exact⟨_,rfl,by rw[L2.Ũ _ e];exact ã _ (Í.mpr rfl)⟩
   ·have:=bZ qs p.1.1 (.ref l)
    lia
  ·rw[e];refine dW ⟨qs,_,_,rfl,hf,xe,kp,PJ,sd,qf,λ z hz=>?_,ad⟩;rw[tk] at hz;rcases é.mp hz with hz | hz
   ·exact qa z hz
   ·rw[Í.mp hz];exact⟨x,e,k2⟩
 ·rintro σ H' ⟨qs,o4,o5,rfl,hf,xe,kp,PJ,sd,qf,qa,ql⟩;have le:bV (aA ps)=ps.length:=Ç _;rw[le,ä] at qa;rw[le] at ql;exact⟨_,rfl,q a qs H' xe kp (.inr ⟨ob,hf⟩) ha Rj PJ sd qf qa ql⟩
end
end My
namespace My
open PySem L2
section
variable {prog:Program}{w:World}{elt t1 i1 t2 i2:Expr}{sc:Scope}{pos:Pos}
def LL (prog:Program)(w:World)(i2 whole:Expr):xf:=λ A acc env v Q s=>wpAny (model prog w) A (eval i2 env) (λ x Nj=>wpAny (model prog w) A (pyIter x) (λ j Ni=>codeAny (model prog w) A (.compStart whole 1 j acc env) (λ r s'=>match r with | .ok _=>Q s' | .error _=>False) Ni) nE Nj) nE s
theorem KZ (hs:∀ env v,foldedSetIterable i2 env v=pure v):q8 prog w (.ListComp elt [⟨t1,i1,[],0⟩,⟨t2,i2,[],0⟩] sc pos) t1 0 (yj prog w t1 (LL prog w i2 (.ListComp elt [⟨t1,i1,[],0⟩,⟨t2,i2,[],0⟩] sc pos))):=by
 intro A it D env s Q Q0 E hq h;refine N8 ?_;rw[show compTurn (.ListComp elt [⟨t1,i1,[],0⟩,⟨t2,i2,[],0⟩] sc pos) 0 it (.ref D) env=(standAt i1.pos >>= λ _=>pyNext it >>= λ r=>match r with
   | none=>pure (.done .next)
   | some v=>letOwnedTupleGo t1 it v >>= λ _=>assign t1 env v >>= λ _ =>
    (eval i2 env >>= λ x=>standAt i2.pos >>= λ _=>foldedSetIterable i2 env x >>= λ x=>holding [x] (pyIter x) >>= λ j=>runOwn (.compStart (.ListComp elt [⟨t1,i1,[],0⟩,⟨t2,i2,[],0⟩] sc pos) 1 j (.ref D) env) env >>= λ _ =>
     again (.compLoop (.ListComp elt [⟨t1,i1,[],0⟩,⟨t2,i2,[],0⟩] sc pos) 0 it (.ref D) env))) by rfl]
 refine À (Ĥ (À (je h λ r ģ ι=>?_)));cases r with
 | none=>exact Á ι
 | some v =>
  refine À (je ι λ _ i_ L_=>À (je L_ λ _ MN L'=>À (je L' λ x Nj NU=>À (Ĥ ?_))));rw[hs];refine À (Á (À (ĥ (je NU λ j Ni NT=>À (wpAny_runOwn (Φ NT λ r s' hr=>?_))))));cases r with
  | ok f=>exact Á (hq _ hr)
  | error e=>exact hr.elim
theorem JR:q8 prog w (.ListComp elt [⟨t1,i1,[],0⟩,⟨t2,i2,[],0⟩] sc pos) t2 1 (yj prog w t2 (yZ prog w elt)):=by
 intro A it D env s Q Q0 E hq h;refine N8 ?_;rw[show compTurn (.ListComp elt [⟨t1,i1,[],0⟩,⟨t2,i2,[],0⟩] sc pos) 1 it (.ref D) env=(standAt i2.pos >>= λ _=>pyNext it >>= λ r=>match r with
   | none=>pure (.done .next)
   | some v=>letOwnedTupleGo t2 it v >>= λ _=>assign t2 env v >>= λ _ =>
    (eval elt env >>= λ x=>call (.builtin "list.append") [.ref D,x] >>= λ _=>pure ()) >>= λ _ =>
     again (.compLoop (.ListComp elt [⟨t1,i1,[],0⟩,⟨t2,i2,[],0⟩] sc pos) 1 it (.ref D) env)) by rfl]
 refine À (Ĥ (À (je h λ r ģ ι=>?_)));cases r with
 | none=>exact Á ι
 | some v=>exact À (je ι λ _ i_ L_=>À (je L_ λ _ MN L'=>À (À (je L' λ x Nj NU=>À (je NU λ _ Ni NT=>Á (Á (hq _ NT)))))))
variable {A:Around}{R:Result->Shared->Prop}{s:Shared}{it acc:Value}{env:Env}
theorem gS
  (h0:codeAny (model prog w) A (.compLoop (.ListComp elt [⟨t1,i1,[],0⟩,⟨t2,i2,[],0⟩] sc pos) 1 it acc env) R s)
  (h:wpAny (model prog w) A (pyIter it) (λ SR s'=>codeAny (model prog w) A (.compLoop (.ListComp elt [⟨t1,i1,[],0⟩,⟨t2,i2,[],0⟩] sc pos) 1 SR acc env) R s')
   (notedBy (model prog w) A env λ x s'=>R (.error x) s') s) :
  codeAny (model prog w) A (.compStart (.ListComp elt [⟨t1,i1,[],0⟩,⟨t2,i2,[],0⟩] sc pos) 1 it acc env) R s:=by
 refine codeAny_of_tree ?_;show wpAny _ _ ((compStart (.ListComp elt [⟨t1,i1,[],0⟩,⟨t2,i2,[],0⟩] sc pos) 1 it acc env).onRaise (λ x=>do noteFrame x env;standAt theWindowsPlace)) _ _ s
 refine wpAny_notedAt ?_;unfold compStart;refine À (wpAny_askSetting (wpAny_ite ?_));split
 ·exact À (Á (Á (And.intro rfl h0)))
 ·exact À (Pc (À (Ĥ (À (Ĳ h (λ SR s' h'=>Á (And.intro rfl h')) λ _ _ x=>x)))))
end
def AS (wi:TI)(k:Nat)(js:List Nat)(g:TG)(RS:TI)(g2:TG)(te:TE):TE:=λ σ H Q=>wi σ H λ J H1=>∀ D,H1 D=none->∃ W:Nat->Nat->List V->Hp->Prop,(∃ m,W 0 m [] (ak H1 D (.lst []))) /\
 ∀ i m ys H2,W i m ys H2->(J.stop i H2/\Q (.ref D) H2)\/(J.go i H2 /\
  ∀ x H3,J.x_ i H2 x H3->∀ os:St,os.length=k->g x (os++fL js σ) H3 λ ĩ H0=>(∃ ĵ:St,ĵ.length=k/\ĩ = ĵ ++ fL js σ)/\RS ĩ H0 λ J2 H5=>∃ W2:Nat->Nat->List V->St->Hp->Prop,(∃ m2,W2 0 m2 ys ĩ H5) /\
   ∀ i2 m2 ζ q_ H6,W2 i2 m2 ζ q_ H6->(J2.stop i2 H6/\(∃ ĵ:St,ĵ.length=k/\q_ = ĵ ++ fL js σ)/\∃ m',m'<m/\W (i+1) m' ζ H6)\/(J2.go i2 H6/\ζ.length<sizeLine /\
    ∀ y H7,J2.x_ i2 H6 y H7->g2 y q_ H7 λ N6 H8=>te N6 H8 λ v H9=>H9 D\.lst ζ/\∃ m',m'<m2/\W2 (i2+1) m' (ζ ++ [v]) N6 (ak H9 D (.lst (ζ ++ [v])))))
section
variable {X:Cx}{sc:Scope}{cl:List (Str × Addr)}{o:Option Str}{ts zs:List Str}{js:List Nat}{elt iter Oq:Expr}{pos:Pos}{tg S4:Expr}{g g2:TG}{wi RS:TI}{te:TE}
theorem yW (hc:X.calm=true)(S:dX X sc cl o ts zs js)(hi:PI X tg iter wi)(hg:∀ s H C fp,PG (au X sc cl o (ts++zs) s H C fp) tg g)(Sh:∀ s H C fp,PI (au X sc cl o (ts++zs) s H C fp) S4 Oq RS)(hg2:∀ s H C fp,PG (au X sc cl o (ts++zs) s H C fp) S4 g2)(he:∀ s H C fp,PE (au X sc cl o (ts++zs) s H C fp) elt te)
  (hs:∀ v,foldedSetIterable iter X.env v=pure v:=by intro _;rfl) (QR:∀ env v,foldedSetIterable Oq env v=pure v:=by intro _ _;rfl):PE X (.ListComp elt [⟨tg,iter,[],0⟩,⟨S4,Oq,[],0⟩] sc pos) (AS wi ts.length js g RS g2 te):=by
 refine sW (λ pins s σ H Q p use Qf I h NX=>?_) (eval_ListComp ..);refine ff hc S hi hs I h (KZ QR) rfl M9 vI (λ J H1 D s3 Ha C fp hJ hD=>?_) NX;obtain⟨W,⟨m,w0⟩,turn⟩:=hJ D hD;refine⟨λ i m H'=>∃ ys,W i m ys H',⟨m,[],w0⟩,λ i m H2 ⟨ys,w⟩=>?_⟩;refine(turn i m ys H2 w).imp_right λ ⟨go,step⟩=>⟨go,λ x H3 y os ų pins s u r I Q0 k=>?_⟩;refine bj (hg _ _ _ _ _ _ _ _ _ _ _ I r (step x H3 y os ų)) λ _ s6 ⟨SE,H6,I6,_,Ny⟩=>?_;refine bj (Sh s3 Ha C fp _ _ _ _ _ I6 Ny) λ uv s7 h7=>bj h7 λ jv s8 h8=>?_;obtain⟨it2,fp2,ZP,J2,H8,e8,I8,T2,W3,f8,W2,⟨m2,w2⟩,S3⟩:=h8;subst e8;have Rn:codeAny (model X.prog X.w) X.A (.compLoop (.ListComp elt [⟨tg,iter,[],0⟩,⟨S4,Oq,[],0⟩] sc pos) 1 (.ref it2) (.ref D) (au X sc cl o (ts++zs) s3 Ha C fp).env) (λ r s'=>match r with | .ok _=>Q0 s' | .error _=>False) s8:=by
  refine lW JR (λ n2 s'=>∃ i2 ζ q_ H',Inv (au X sc cl o (ts++zs) s3 Ha C fp) pins q_ H' s'/\ZP i2 s'.heap/\(∀ b∈fp2,i8 (au X sc cl o (ts++zs) s3 Ha C fp) pins H' b)/\W2 i2 n2 ζ q_ H') ?_ m2 ⟨0,ys,SE,H8,I8,W3,f8,w2⟩;rintro n2 s' ⟨i2,ζ,q_,H',YC,Qu,Vq,wv⟩;rcases S3 i2 n2 ζ q_ H' wv with⟨S8,⟨os3,V0,e3⟩,m',Nn,w'⟩ | ⟨go2,Ş,S9⟩
  ·refine bj (T2.done (au X sc cl o (ts++zs) s3 Ha C fp) rfl rfl rfl hc i2 _ s' _ H' nE YC Vq Qu S8) λ r s4 ⟨hr,I4⟩=>?_;subst hr e3;exact k _ _ _ V0 I4 ⟨m',Nn,ζ,w'⟩
  ·refine bj (T2.item (au X sc cl o (ts++zs) s3 Ha C fp) rfl rfl rfl hc i2 _ s' _ H' nE YC Vq Qu go2) λ r s4 ⟨u,hr,h4⟩=>?_;subst hr;refine bj h4 λ _ sa ⟨y,Ha',Ia,ra,ya,VD,fra⟩=>?_;have Ia':=Ia.pinned (λ b hb=>⟨fra b hb,(Vq b hb).2⟩) (T2.obj _ _ VD);refine bj (hg2 _ _ _ _ _ _ _ _ _ _ _ Ia' ra (S9 y Ha' ya)) λ _ sb ⟨WT,Hb,Ib,ZR⟩=>?_;refine qZ (N:=λ zs H4=>∃ m',m'<n2/\W2 (i2+1) m' zs WT H4) (he s3 Ha C fp) rfl Ş Ib ZR λ s' H' zs Id ⟨m',l,w⟩=>⟨m',l,i2+1,zs,WT,H',Id.h_,T2.keep _ _ _ VD λ b hb o e=>(Id.pin (b,o) (ã _ (ã _ (cS hb e)))).1,λ b hb=>?_,w⟩;obtain⟨o',e',_⟩:=T2.obj _ _ VD b hb;exact⟨(Id.pin (b,o') (ã _ (ã _ (cS hb e')))).2.1,(Vq b hb).2⟩
 exact gS Rn (T2.self X.A 0 s8 (λ SR s'=>codeAny (model X.prog X.w) X.A (.compLoop (.ListComp elt [⟨tg,iter,[],0⟩,⟨S4,Oq,[],0⟩] sc pos) 1 SR (.ref D) (au X sc cl o (ts++zs) s3 Ha C fp).env) (λ r s'=>match r with | .ok _=>Q0 s' | .error _=>False) s') _ W3 Rn)
end
end My
namespace My
open PySem PySem.W L2
theorem pK:∀{xs:List V}{us:List Value},xs.length=us.length->(∀(j:Nat) x u,xs[j]?\x->us[j]?\u->RelV x u)->Vals xs us
 | [],[],_,_=>.nil
 | x::xs,u::us,l,h=>.cons (h 0 x u rfl rfl) (pK (by simpa using l) λ j x u h1 h2=>h (j+1) x u (by simpa using h1) (by simpa using h2))
 | [],_::_,l,_=>by simp at l
 | _::_,[],l,_=>by simp at l
section
variable {X:Cx}{pins:List (Addr × Obj)}{σ:St}{H:Hp}{s:Shared}{d:Addr}{Ý:List (Key × V)}
theorem uO {a:Addr}{o:HO}{t':Nat}{h':Heap}(I:Inv X pins σ H s)(k:∀ b u,s.heap.get? b\u->h'.get? b\u)(hf:∀ b u,s.heap.get? b\u->b<a)(hn:H a=none)(new:Ē X.prog X.w (ak H a o) h' a o) :
  Inv X pins σ (ak H a o) { s with heap:=h',toks:=t' }:=by
 have hs:sysModules≠a:=by
  obtain⟨ob,_,_,ho,_⟩:=I.mod.glob.keeps I.bk;exact æ (I_ (by decide:sysModules<mainGlobals) (hf _ _ ho))
 refine I.un ⟨λ b u q _ _ _=>k b u q,λ b u q _ _ _=>⟨u.slots,k b u q⟩,λ b u q n _=>?_,λ b u q _=>⟨u,k b u q⟩,λ b xs q=>?_,λ b u xs q=>?_,λ b ps q=>⟨#[],?_⟩,λ q=>?_⟩ λ b u e=>?_
 ·rw[ai (æ (hf b u q))];exact n
 ·rw[ai (ap q hn)];exact q
 ·rw[ai (ap q hn)];exact q
 ·rw[ai (ap q hn),q];simp
 ·rw[ai hs];exact q
 ·by_cases hb:b=a
  ·subst hb;rw[bz] at e;cases e;exact new
  ·rw[ai hb] at e;exact(I.Ě b u e).NN (λ c v _ q=>k c v q) (λ c q=>by rw[ai (ap q hn)];exact q) λ c xs q=>by rw[ai (ap q hn)];exact q
theorem z7 {h':Heap}(I:Inv X pins σ H s)(k:∀ b u,s.heap.get? b\u->h'.get? b\u):H h'.objs.size=none:=by
 cases e:H h'.objs.size with
 | none=>rfl
 | some o =>
  exact absurd ((I.Ě.kept k).lt e) (Ĩ _)
theorem AD (I:Inv X pins σ H s)(e:Rd H d (.dK Ý)):Ý.length<=sizeLine/\(d==sysModules)=false/\∃ vs ep,KV Ý vs/\Heap.DictAt (aQ X.prog X.w) s.heap d vs ep:=by
 obtain⟨z,hd,vs,rel,o⟩:=kC I.Ě e;obtain⟨ep,at'⟩:=o.dictAt;exact⟨z,hd,vs,ep,rel,at'⟩
theorem tV {vs:List (Key × Value)}{acc:Array Value}(rel:KV Ý vs)(it:ItemsOf (λ i v=>∃ k x,vs[i]?\(k,x)/\(aQ X.prog X.w).is k v=true) acc vs.length):Vals (Ý.map λ p=>kV p.1) acc.toList:=by
 have l:Ý.length=vs.length:=Ė rel;refine pK (by rw[Ç,l,<- it.1,Array.length_toList]) λ j x u h1 h2=>?_
 obtain⟨k,y,hk,is⟩:=it.2 j u (by simpa using h2)
 obtain⟨p,hp,r1,_⟩:=fm rel hk;rw[Ô,hp] at h1;cases h1;show RelV (kV p.1) u;rw[show p.1=k from r1];exact xJ is
def vq:List V->Hp->VK->Prop:=λ xs H Q=>∃(d:Addr)(Ý:List (Key × V)),xs=[.ref d]/\Rd H d (.dK Ý)/\∀ l,H l=none->Q (.ref l) (ak H l (.lst (Ý.map λ p=>kV p.1)))
theorem qJ (hc:X.calm=true):dL X (.type "list") vq:=by
 intro pins s σ H xs us Q I r h;obtain⟨d,Ý,rfl,e,q⟩:=h;obtain⟨u,rfl,rx⟩:=fJ r;cases rx;obtain⟨z,hd,vs,ep,rel,at'⟩:=AD I e;have l:Ý.length=vs.length:=Ė rel;refine kdl_call (kdl_dict hd) (I.ok.hd hc) at' ad λ h' tk acc c kp eo it=>?_;exact⟨.ref s.heap.objs.size,_,I.laid (t':=tk) kp (Å _) (show Ē X.prog X.w _ h' _ (.lst (Ý.map λ p=>kV p.1)) from⟨by rw[Ç];exact z,acc.toList,c,tV rel it,by simpa using eo⟩),rfl,q _ (I.Ě.fresh (Nat.le_refl _))⟩
end
end My
namespace My
open PySem L2
def K7 {κ:Type} [DecidableEq κ] (mk:List (κ × V)->HO)(kr:V->Hp->κ->Prop)(wi:TI)(k:Nat)(js:List Nat)(g:TG)(tk tv:TE):TE:=λ σ H Q=>wi σ H λ J H1=>∀ D,H1 D=none->∃ W:Nat->Nat->List (κ × V)->Hp->Prop,(∃ m,W 0 m [] (ak H1 D (mk []))) /\
 ∀ i m ys H2,W i m ys H2->H2 D\mk ys/\((J.stop i H2/\Q (.ref D) H2)\/(J.go i H2/\ys.length<sizeLine /\
  ∀ x H3,J.x_ i H2 x H3->∀ os:St,os.length=k->g x (os++fL js σ) H3 λ ĩ H0=>(∃ ĵ:St,ĵ.length=k/\ĩ = ĵ ++ fL js σ)/\tk ĩ H0 λ y H4=>tv ĩ H4 λ v H5=>∃ key,kr y H5 key/\H5 D\mk ys/\∃ m',m'<m/\W (i+1) m' (aU ys key v) (ak H5 D (mk (aU ys key v)))))
abbrev Hm:=K7 HO.dK λ y _ k=>y=kV k
section
variable {X:Cx}{sc:Scope}{cl:List (Str × Addr)}{o:Option Str}{ts zs:List Str}{js:List Nat}{kx vx iter:Expr}{pos:Pos}{tg:Expr}{g:TG}{wi:TI}{tk tv:TE}
theorem FX {κ:Type} [DecidableEq κ] {mk:List (κ × V)->HO}{kr:V->Hp->κ->Prop}(Wh:∀{X':Cx} {pins σ H s a Ý k y v u r}{Q:Shared->Prop},X'.A=X.A->Inv X' pins σ H s->H a\mk Ý->kr y H k->Ý.length<sizeLine->RelV y u->RelV v r->(∀ s',Inv X' pins σ (ak H a (mk (aU Ý k v))) s'->Q s')->wpAny (model X'.prog X'.w) X'.A (dictSet a u r) (λ _ s'=>Q s') nE s)
  (WA:∀(s:Shared) H,ω X.prog X.w H s.heap->sysModules<s.heap.objs.size->Ē X.prog X.w (ak H s.heap.objs.size (mk [])) (s.heap.push { cls:=.type "dict",data:=.dict #[] }) s.heap.objs.size (mk [])) (hc:X.calm=true) (S:dX X sc cl o ts zs js) (hi:PI X tg iter wi) (hg:∀ s H C fp,PG (au X sc cl o (ts++zs) s H C fp) tg g) (hk:∀ s H C fp,PE (au X sc cl o (ts++zs) s H C fp) kx tk) (hv:∀ s H C fp,PE (au X sc cl o (ts++zs) s H C fp) vx tv)
  (hs:∀ v,foldedSetIterable iter X.env v=pure v):Fc X (.DictComp kx vx [⟨tg,iter,[],0⟩] sc pos) iter sc newDict (K7 mk kr wi ts.length js g tk tv):=by
 intro pins s σ H Q p use Qf I h NX;refine ff hc S hi hs I h IW rfl codeAny_compStart_dict (λ s2 H2 Q I k=>î (k (I.laid (t':=s2.toks) (λ _ _ q=>Ä _ q) (Å _) (WA s2 H2 I.Ě I.big)))) (λ J H1 D s3 Ha C fp hJ hD=>?_) NX;obtain⟨W,⟨m,w0⟩,turn⟩:=hJ D hD;refine⟨λ i m H'=>∃ ys,W i m ys H',⟨m,[],w0⟩,λ i m H2 ⟨ys,w⟩=>?_⟩;obtain⟨hD,alt⟩:=turn i m ys H2 w;refine alt.imp_right λ ⟨go,Ş,step⟩=>⟨go,λ x H3 y os ų pins s u r I Q0 k=>?_⟩;refine bj (hg _ _ _ _ _ _ _ _ _ _ _ I r (step x H3 y os ų)) λ _ s6 ⟨SE,H6,I6,⟨ĵ,Om,e6⟩,Ny⟩=>?_;subst e6;refine⟨D,rfl,bj (hk s3 Ha C fp _ _ _ _ _ I6 Ny) λ ku s7 ⟨k7,H7,I7,Z3,ZS⟩=>bj (hv s3 Ha C fp _ _ _ _ _ I7 ZS) λ uv s8 ⟨v8,H8,I8,r8,key,kr8,hD8,m',Nn,w8⟩=>?_⟩;exact Wh (X':=au X sc cl o (ts++zs) s3 Ha C fp) rfl I8 hD8 kr8 Ş Z3 r8 λ s9 I9=>k _ _ _ Om I9 ⟨m',Nn,_,w8⟩
theorem Bo {pins:List (Addr × Obj)}{σ:St}{H:Hp}{s:Shared}{a:Addr}{Ý:List (Key × V)}{k:Key}{v:V}{u r:Value}{A:Around}{E:eZ}{Q:Unit->Shared->Prop}(I:Inv X pins σ H s)(e:H a\.dK Ý)(l:Ý.length<sizeLine)(ry:RelV (kV k) u)(rv:RelV v r)
  (h:∀ s',Inv X pins σ (ak H a (.dK (aU Ý k v))) s'->Q () s'):wpAny (model X.prog X.w) A (dictSet a u r) Q E s:=by
 obtain⟨z,hd,vs,rel,dd⟩:=vP I.Ě e;refine wpAny_dictSet_pairs (jA ry) dd (λ h' PK hs=>h _ ?_) (by rw[<- rel.length];exact z)
 have he:∃ q,h'.get? a\q:=let ⟨q,_,_,hq,_⟩:=PK;⟨q,hq⟩
 exact gC I (by rw[e];exact True.intro) hs he (qN (by have:=bZ Ý k v;lia) hd (rel.put k rv) PK)
theorem DJ (hc:X.calm=true)(S:dX X sc cl o ts zs js)(hi:PI X tg iter wi)(hg:∀ s H C fp,PG (au X sc cl o (ts++zs) s H C fp) tg g)(hk:∀ s H C fp,PE (au X sc cl o (ts++zs) s H C fp) kx tk)(hv:∀ s H C fp,PE (au X sc cl o (ts++zs) s H C fp) vx tv)
  (hs:∀ v,foldedSetIterable iter X.env v=pure v):Fc X (.DictComp kx vx [⟨tg,iter,[],0⟩] sc pos) iter sc newDict (Hm wi ts.length js g tk tv) :=
 FX (λ eA I e kr l ry rv k=>by subst kr;exact Bo I e l ry rv k) (λ s H ok big=>kZ s.heap big) hc S hi hg hk hv hs
theorem ES (hc:X.calm=true)(S:dX X sc cl o ts zs js)(hi:PI X tg iter wi)(hg:∀ s H C fp,PG (au X sc cl o (ts++zs) s H C fp) tg g)(hk:∀ s H C fp,PE (au X sc cl o (ts++zs) s H C fp) kx tk)(hv:∀ s H C fp,PE (au X sc cl o (ts++zs) s H C fp) vx tv)
  (hs:∀ v,foldedSetIterable iter X.env v=pure v:=by intro _;rfl):PE X (.DictComp kx vx [⟨tg,iter,[],0⟩] sc pos) (Hm wi ts.length js g tk tv):=sW (DJ hc S hi hg hk hv hs) (arm_eval_DictComp ..)
end
section
variable {κ:Type} [DecidableEq κ] {mk:List (κ × V)->HO}{kr:V->Hp->κ->Prop}{tk tv:TE}{g:TG}{k n:Nat}{cap:St}{D:Addr}{H1:Hp}{Q:Hp->Prop}{J:It}
theorem HM (Pv:Nat->List (κ × V)->Hp->Prop)(hz:n<sizeLine)(h0:Pv 0 [] (ak H1 D (mk [])))(hg:∀ i ys H,i<n->Pv i ys H->J.go i H)(M5:∀ ys H,Pv n ys H->J.stop n H)
  (hs:∀(i:Nat) x ys H H3,i<n->J.x_ i H x H3->ys.length<=i->H D\mk ys->Pv i ys H->∀ os:St,os.length=k->∀ R:V->V->Hp->Prop,(∀ y key v H5,kr y H5 key->H5 D\mk ys->Pv (i+1) (aU ys key v) (ak H5 D (mk (aU ys key v)))->R y v H5) ->
   g x (os++cap) H3 λ ĩ H0=>(∃ ĵ:St,ĵ.length=k/\ĩ = ĵ ++ cap)/\tk ĩ H0 λ y H4=>tv ĩ H4 λ v H5=>R y v H5)
  (hd:∀ ys H,H D\mk ys->Pv n ys H->Q H) :
  ∃ W:Nat->Nat->List (κ × V)->Hp->Prop,(∃ m,W 0 m [] (ak H1 D (mk []))) /\
   ∀ i m ys H2,W i m ys H2->H2 D\mk ys/\((J.stop i H2/\Q H2)\/(J.go i H2/\ys.length<sizeLine /\
    ∀ x H3,J.x_ i H2 x H3->∀ os:St,os.length=k->g x (os++cap) H3 λ ĩ H0=>(∃ ĵ:St,ĵ.length=k/\ĩ = ĵ ++ cap)/\tk ĩ H0 λ y H4=>tv ĩ H4 λ v H5=>∃ key,kr y H5 key/\H5 D\mk ys/\∃ m',m'<m/\W (i+1) m' (aU ys key v) (ak H5 D (mk (aU ys key v))))):=by
 refine⟨λ i m ys H=>m=n-i/\i<=n/\ys.length<=i/\H D\mk ys/\Pv i ys H,⟨n,by simp,Nat.zero_le _,Nat.le_refl _,bz,h0⟩,?_⟩
 rintro i m ys H ⟨rfl,hi,hy,Ŕ,p⟩;refine⟨Ŕ,?_⟩;by_cases ş:i<n
 ·refine .inr ⟨hg i ys H ş p,ad,λ x H' y os ų=>?_⟩;refine hs i x ys H H' ş y hy Ŕ p os ų _ λ y key v H5 hk hD5 p5=>⟨key,hk,hD5,n-(i+1),ad,rfl,ş,?_,bz,p5⟩;have:=bZ ys key v
  lia
 ·have e:i=n:=ad;subst e;exact .inl ⟨M5 ys H p,hd ys H Ŕ p⟩
end
end My
namespace My
open PySem PySem.W L2
section
variable {X:Cx}{pins:List (Addr × Obj)}{σ:St}{H:Hp}{s:Shared}
theorem zj (hu:A.units+1<cLine)(I:Inv X pins σ H s)(e:H a\.dT Ý)(eb:O_ H k b)(l:Ý.length<sizeLine)(rv:RelV v r)
  (h:∀ s',Inv X pins σ (ak H a (.dT (aU Ý k v))) s'->Q () s'):wpAny (model X.prog X.w) A (dictSet a (.ref b) r) Q E s:=by
 obtain⟨z,hd,xs,rel,dd⟩:=AG I.Ě e;have hz:xs.length<=sizeLine:=by rw[<- Ė rel];exact z
 have hl:(aU Ý k v).length<=sizeLine:=by have:=bZ Ý k v;lia
 refine wpAny_dictSet_heap (show A.units+1<cLine by lia) (i6 I.Ě eb) dd λ h' PK hs=>h _ ?_
 obtain⟨q,es,ep,hq,h2,h3,h4,_,h5⟩:=PK;refine gC I (by rw[e];exact True.intro) hs ⟨q,hq⟩ ⟨hl,hd,_,(rel.put k eb rv).keeps λ c ys ec=>?_,q,es,ep,hq,h2,h3,h4,h5⟩
 rw[ai (AN ec e (λ z=>nomatch z))];exact ec
end
def ii (tk tv:TE):TE:=λ σ H Q=>∀ p,H p=none->og [(tk,tv)] σ (ak H p (.dT [])) λ ps H2=>∃ b ks y,ps=[(.ref b,y)]/\O_ H2 ks b/\H2 p\.dT []/\Q (.ref p) (ak H2 p (.dT [(ks,y)]))
theorem j8 (hu:X.A.units+64<cLine)(hk:PE X k tk)(hv:PE X v tv):PE X (.Dict [some k] [v] pos) (ii tk tv):=by
 intro pins s σ H Q I q;have hn:=I.Ě.fresh (Å s.heap.objs.size);have I1:=I.laid (t':=s.toks) (λ _ _ q=>Ä _ q) (Å _) (ou s.heap I.big);refine wpAny_Dict_any rfl rfl (by simp) (by show 1<=15;decide) (bj ((fS hk hv nQ) pins _ σ _ _ I1 (q _ hn)) λ ws s2 ⟨ps,H2,I2,rel,b,ks,y,e1,eb,e,q2⟩=>?_)
 subst e1;cases rel with
 | @cons _ u _ _ r t =>
  cases t;obtain⟨u1,u2⟩:=u;obtain⟨r1,r2⟩:=r;cases (show u1=.ref b from r1);refine À ?_;refine À (zj ad I2 e eb av r2 λ s' I'=>Á (Á ⟨.ref s.heap.objs.size,_,I',rfl,q2⟩))
section
variable {te:TE}{tt:TT}{g:TG}{k n:Nat}{cap:St}{D:Addr}{H1:Hp}{Q:Hp->Prop}{J:It}
theorem tf (Pv:Nat->List V->Hp->Prop)(hz:n<sizeLine)(h0:Pv 0 [] (ak H1 D (.lst [])))(hg:∀ i ys H,i<n->Pv i ys H->J.go i H)(M5:∀ ys H,Pv n ys H->J.stop n H)
  (hs:∀(i:Nat) x ys H H3,i<n->J.x_ i H x H3->ys.length<=i->H D\.lst ys->Pv i ys H->∀ os:St,os.length=k->∀ N:List V->Hp->Prop,(∀ δ H',Pv (i+1) δ H'->δ.length<=i+1->H' D\.lst δ->N δ H') ->
   g x (os++cap) H3 λ ĩ H0=>(∃ ĵ:St,ĵ.length=k/\ĩ = ĵ ++ cap)/\tt ĩ H0 λ b H5=>(b=false->N ys H5)/\(b=true->te ĩ H5 λ y H4=>H4 D\.lst ys/\N (ys ++ [y]) (ak H4 D (.lst (ys ++ [y])))))
  (hd:∀ ys H,ys.length<=n->H D\.lst ys->Pv n ys H->Q H) :
  ∃ W:Nat->Nat->List V->Hp->Prop,(∃ m,W 0 m [] (ak H1 D (.lst []))) /\
   ∀ i m ys H2,W i m ys H2->H2 D\.lst ys/\((J.stop i H2/\Q H2)\/(J.go i H2/\ys.length<sizeLine /\
    ∀ x H3,J.x_ i H2 x H3->∀ os:St,os.length=k->g x (os++cap) H3 λ ĩ H0=>(∃ ĵ:St,ĵ.length=k/\ĩ = ĵ ++ cap)/\tt ĩ H0 λ b H5=>(b=false->∃ m',m'<m/\W (i+1) m' ys H5) /\
     (b=true->te ĩ H5 λ y H4=>H4 D\.lst ys/\∃ m',m'<m/\W (i+1) m' (ys ++ [y]) (ak H4 D (.lst (ys ++ [y])))))):=by
 refine⟨λ i m ys H=>m=n-i/\i<=n/\ys.length<=i/\H D\.lst ys/\Pv i ys H,⟨n,by simp,Nat.zero_le _,Nat.le_refl _,bz,h0⟩,?_⟩
 rintro i m ys H ⟨rfl,hi,hy,Ŕ,p⟩;refine⟨Ŕ,?_⟩;by_cases ş:i<n
 ·refine .inr ⟨hg i ys H ş p,ad,λ x H' y os ų=>?_⟩;exact hs i x ys H H' ş y hy Ŕ p os ų (λ δ Pa=>∃ m',m'<n-i/\(m'=n-(i+1)/\i+1<=n/\δ.length<=i+1/\Pa D\.lst δ/\Pv (i+1) δ Pa)) λ δ Pa p' l' d'=>⟨n-(i+1),ad,rfl,ş,l',d',p'⟩
 ·have e:i=n:=ad;subst e;exact .inl ⟨M5 ys H p,hd ys H hy Ŕ p⟩
theorem u6 (Pv:Nat->List V->Hp->Prop)(hz:n<sizeLine)(h0:Pv 0 [] (ak H1 D (.lst [])))(hg:∀ i ys H,i<n->Pv i ys H->J.go i H)(M5:∀ ys H,Pv n ys H->J.stop n H)
  (hs:∀(i:Nat) x ys H H3,i<n->J.x_ i H x H3->ys.length=i->H D\.lst ys->Pv i ys H->∀ os:St,os.length=k->∀ R:VK,(∀ y H4,H4 D\.lst ys->Pv (i+1) (ys ++ [y]) (ak H4 D (.lst (ys ++ [y])))->R y H4)->g x (os++cap) H3 λ ĩ H0=>(∃ ĵ:St,ĵ.length=k/\ĩ = ĵ ++ cap)/\te ĩ H0 R)
  (hd:∀ ys H,ys.length=n->H D\.lst ys->Pv n ys H->Q H) :
  ∃ W:Nat->Nat->List V->Hp->Prop,(∃ m,W 0 m [] (ak H1 D (.lst []))) /\
   ∀ i m ys H2,W i m ys H2->H2 D\.lst ys/\((J.stop i H2/\Q H2)\/(J.go i H2/\ys.length<sizeLine /\
    ∀ x H3,J.x_ i H2 x H3->∀ os:St,os.length=k->g x (os++cap) H3 λ ĩ H0=>(∃ ĵ:St,ĵ.length=k/\ĩ = ĵ ++ cap)/\te ĩ H0 λ y H4=>H4 D\.lst ys/\∃ m',m'<m/\W (i+1) m' (ys ++ [y]) (ak H4 D (.lst (ys ++ [y]))))):=by
 refine⟨λ i m ys H=>m=n-i/\i<=n/\ys.length=i/\H D\.lst ys/\Pv i ys H,⟨n,by simp,Nat.zero_le _,rfl,bz,h0⟩,?_⟩
 rintro i m ys H ⟨rfl,hi,hy,Ŕ,p⟩;refine⟨Ŕ,?_⟩;by_cases ş:i<n
 ·refine .inr ⟨hg i ys H ş p,ad,λ x H' y os ų=>?_⟩;exact hs i x ys H H' ş y hy Ŕ p os ų _ λ z H4 QY p4=>⟨QY,n-(i+1),ad,rfl,ş,by rw[Õ,hy];rfl,bz,p4⟩
 ·have e:i=n:=ad;subst e;exact .inl ⟨M5 ys H p,hd ys H hy Ŕ p⟩
end
section
variable {te:TE}{g g2:TG}{RS:TI}{k n n2:Nat}{cap:St}{D:Addr}{H1:Hp}{Q:Hp->Prop}{J J2:It}
theorem zz (Pv:Nat->List V->Hp->Prop)(h0:Pv 0 [] (ak H1 D (.lst [])))(hg:∀ i ys H,i<n->Pv i ys H->J.go i H)(M5:∀ ys H,Pv n ys H->J.stop n H)
  (hs:∀(i:Nat) x ys H H3,i<n->J.x_ i H x H3->Pv i ys H->∀ os:St,os.length=k->∀ N:List V->Hp->Prop,(∀ δ H',Pv (i+1) δ H'->N δ H') ->
   g x (os++cap) H3 λ ĩ H0=>(∃ ĵ:St,ĵ.length=k/\ĩ = ĵ ++ cap)/\RS ĩ H0 λ J2 H5=>∃ W2:Nat->Nat->List V->St->Hp->Prop,(∃ m2,W2 0 m2 ys ĩ H5) /\
    ∀ i2 m2 ζ q_ H6,W2 i2 m2 ζ q_ H6->(J2.stop i2 H6/\(∃ ĵ:St,ĵ.length=k/\q_ = ĵ ++ cap)/\N ζ H6)\/(J2.go i2 H6/\ζ.length<sizeLine /\
     ∀ y H7,J2.x_ i2 H6 y H7->g2 y q_ H7 λ N6 H8=>te N6 H8 λ v H9=>H9 D\.lst ζ/\∃ m',m'<m2/\W2 (i2+1) m' (ζ ++ [v]) N6 (ak H9 D (.lst (ζ ++ [v])))))
  (hd:∀ ys H,Pv n ys H->Q H) :
  ∃ W:Nat->Nat->List V->Hp->Prop,(∃ m,W 0 m [] (ak H1 D (.lst []))) /\
   ∀ i m ys H2,W i m ys H2->(J.stop i H2/\Q H2)\/(J.go i H2 /\
    ∀ x H3,J.x_ i H2 x H3->∀ os:St,os.length=k->g x (os++cap) H3 λ ĩ H0=>(∃ ĵ:St,ĵ.length=k/\ĩ = ĵ ++ cap)/\RS ĩ H0 λ J2 H5=>∃ W2:Nat->Nat->List V->St->Hp->Prop,(∃ m2,W2 0 m2 ys ĩ H5) /\
     ∀ i2 m2 ζ q_ H6,W2 i2 m2 ζ q_ H6->(J2.stop i2 H6/\(∃ ĵ:St,ĵ.length=k/\q_ = ĵ ++ cap)/\∃ m',m'<m/\W (i+1) m' ζ H6)\/(J2.go i2 H6/\ζ.length<sizeLine /\
      ∀ y H7,J2.x_ i2 H6 y H7->g2 y q_ H7 λ N6 H8=>te N6 H8 λ v H9=>H9 D\.lst ζ/\∃ m',m'<m2/\W2 (i2+1) m' (ζ ++ [v]) N6 (ak H9 D (.lst (ζ ++ [v]))))):=by
 refine⟨λ i m ys H=>m=n-i/\i<=n/\Pv i ys H,⟨n,by simp,Nat.zero_le _,h0⟩,?_⟩
 rintro i m ys H ⟨rfl,hi,p⟩;by_cases ş:i<n
 ·refine .inr ⟨hg i ys H ş p,λ x H' y os ų=>?_⟩;exact hs i x ys H H' ş y p os ų (λ δ Pa=>∃ m',m'<n-i/\(m'=n-(i+1)/\i+1<=n/\Pv (i+1) δ Pa)) λ δ Pa p'=>⟨n-(i+1),ad,rfl,ş,p'⟩
 ·have e:i=n:=ad;subst e;exact .inl ⟨M5 ys H p,hd ys H p⟩
theorem zo {N:List V->Hp->Prop}(Pv:Nat->List V->St->Hp->Prop)(h0:Pv 0 ys ĩ H5)(hg:∀ i ys σ H,i<n2->Pv i ys σ H->J2.go i H/\ys.length<sizeLine)(M5:∀ ys σ H,Pv n2 ys σ H->J2.stop n2 H)
  (hs:∀(i:Nat) y ys σ H H7,i<n2->J2.x_ i H y H7->Pv i ys σ H->∀ R:St->V->Hp->Prop,(∀ v N6 H9,H9 D\.lst ys->Pv (i+1) (ys ++ [v]) N6 (ak H9 D (.lst (ys ++ [v])))->R N6 v H9)->g2 y σ H7 λ N6 H8=>te N6 H8 λ v H9=>R N6 v H9)
  (hd:∀ ys σ H,Pv n2 ys σ H->(∃ ĵ:St,ĵ.length=k/\σ = ĵ ++ cap)/\N ys H) :
  ∃ W2:Nat->Nat->List V->St->Hp->Prop,(∃ m2,W2 0 m2 ys ĩ H5) /\
   ∀ i2 m2 ζ q_ H6,W2 i2 m2 ζ q_ H6->(J2.stop i2 H6/\(∃ ĵ:St,ĵ.length=k/\q_ = ĵ ++ cap)/\N ζ H6)\/(J2.go i2 H6/\ζ.length<sizeLine /\
    ∀ y H7,J2.x_ i2 H6 y H7->g2 y q_ H7 λ N6 H8=>te N6 H8 λ v H9=>H9 D\.lst ζ/\∃ m',m'<m2/\W2 (i2+1) m' (ζ ++ [v]) N6 (ak H9 D (.lst (ζ ++ [v])))):=by
 refine⟨λ i m ys σ H=>m=n2-i/\i<=n2/\Pv i ys σ H,⟨n2,by simp,Nat.zero_le _,h0⟩,?_⟩
 rintro i m ys σ H ⟨rfl,hi,p⟩;by_cases ş:i<n2
 ·obtain⟨h1,h2⟩:=hg i ys σ H ş p;refine .inr ⟨h1,h2,λ y H' yl=>?_⟩;exact hs i y ys σ H H' ş yl p _ λ v N6 H9 e p'=>⟨e,n2-(i+1),ad,rfl,ş,p'⟩
 ·have e:i=n2:=ad;subst e;exact .inl ⟨M5 ys σ H p,hd ys σ H p⟩
end
theorem ze {H:Hp}{D:Addr}{u o:HO}(e:H D\u)(n:JT u=false):xQ H (ak H D o):=λ b v h t=>by
 rw[ai (λ z=>by rw[z,e] at h;cases h;rw[n] at t;cases t)]
 exact h
theorem PL.ĸ {K:Frag}{H H':Hp}{v:V}{t b:Nat}(h:PL K H v t b)(x:xQ H H'):PL K H' v t b:=by
 obtain⟨z,e2,hz⟩:=h;refine⟨z,e2,?_⟩;rcases hz with(h | ⟨o,h⟩) | h
 ·exact .inl (.inl (x _ _ h rfl))
 ·exact .inl (.inr ⟨o,x _ _ h rfl⟩)
 ·exact .inr h
theorem RA.ĸ {K:Frag}{H H':Hp}{xs:List V}{bs:List Nat}(h:RA K H xs bs)(x:xQ H H'):RA K H' xs bs:=Paired.ON h λ v b ⟨z,t,q⟩=>⟨z,t,q.ĸ x⟩
theorem yF {H:Hp}{tp:Bool}{qs:List (NK × V)}{i:Nat}{kx v:V}(h:nV H (fA tp qs) i kx v):∃ q,qs[i]?\q/\v=q.2:=by
 cases tp with
 | true =>
  rcases h with⟨l,k,e,_⟩ | ⟨l,k,b,e,hk,_⟩
  ·cases e
  ·cases e;rw[Ô] at hk;obtain⟨p,hp,e2⟩:=Û.mp hk;exact⟨p,hp,(ý Prod.snd e2).symm⟩
 | false =>
  rcases h with⟨l,k,e,hk,_⟩ | ⟨l,k,b,e,_⟩
  ·cases e;rw[Ô] at hk;obtain⟨p,hp,e2⟩:=Û.mp hk;exact⟨p,hp,(ý Prod.snd e2).symm⟩
  ·cases e
section
variable {P:Program}{w:World}{K:Frag}{mg:bD}{base:Heap}
abbrev Gw:Scope:=gR [("ways",.local),("hand",.local),("share",.local),("behind",.local)]
theorem Cb {X:Cx}:cJ X Gw [] ["ways","hand","share","behind"] [] []:=rK (L:=[(".0",.local),("ways",.local),("hand",.local),("share",.local),("behind",.local)]) rfl rfl aF aF aF rfl aF aF
theorem Aj:((["ways","hand","share","behind"]:List Str)++([]:List Str)).Nodup:=aF
def Db (K:Frag)(i:Nat):TE:=AS (F5 (af i)) 4 [] (aJ 0) (cY K (af 0)) (jD K 3 (bu (aJ 1) (bu (aJ 2) (bu (aJ 3) jd)))) (af 2)
theorem BC {t:Rl}{k i0:Nat}{σ:St}{H:Hp}{R:VK}{a:Addr}{qs:List (NK × V)}(si:σ[i0]?\some (.ref a))(ha:Rd H a (fA t.tp qs))(sd:SA K (nD H) t k qs)(gd:∀ q∈qs,∀ s∈t.steps (dU q.1) (k:Nat),1<=s.b)(l5:qs.length<=5000)
  (q:∀ D xs bs H',Ext (nD H) (nD H')->Kept H H' a->Rd H' a (fA t.tp qs)->H D=none->H' D\.lst xs->RA K H' xs bs->(∀ q∈qs,∀ s∈t.steps (dU q.1) (k:Nat),s.b∈bs)->(∀ b∈bs,∃ q∈qs,∃ s∈t.steps (dU q.1) (k:Nat),s.b=b)->R (.ref D) H'):Db K i0 σ H R:=by
 obtain⟨dc,_,ln⟩:=wJ t.tp qs;refine⟨_,si,a,fA t.tp qs,rfl,dc,ha,λ ob H1 fz D hD=>?_⟩;have x1:=wO dc ha fz;have Vo:H D=none:=by
  by_cases e:D=a
  ·rw[e,fz.1] at hD;cases hD
  ·rw[<- fz.2 D e];exact hD
 have Xh:D≠a:=λ e=>by rw[e,fz.1] at hD;cases hD
 have Vf:Kept H H1 a:=λ b o e n=>by rw[fz.2 b n];exact e
 have up:∀{H2:Hp}{u:HO},Ext (nD H) (nD H2)->Ext (nD H) (nD (ak H2 D u)):=λ x=>BR x (rW Vo);have ku:∀{H2:Hp}{u:HO},Kept H H2 a->Kept H (ak H2 D u) a:=λ x b o e n=>by rw[ai (ap e Vo)];exact x b o e n
 refine zz (n:=qs.length) (λ i ys H'=>H' a\.Η ob (fA t.tp qs)/\H' D\.lst ys/\Ext (nD H) (nD H')/\Kept H H' a/\∃ bs:List Nat,RA K H' ys bs/\bs.length<=2*i/\(∀ q∈qs.take i,∀ s∈t.steps (dU q.1) (k:Nat),s.b∈bs)/\∀ b∈bs,∃ q∈qs,∃ s∈t.steps (dU q.1) (k:Nat),s.b=b)
  ⟨by rw[ai Xh.symm];exact fz.1,bz,up x1,ku Vf,[],.nil,Å _,(λ q h=>by simp at h),(λ b h=>nomatch h)⟩ (λ i ys H' hi pv=>⟨pv.1,by rw[ln];exact hi⟩) (λ ys H' pv=>⟨pv.1,by rw[ln];exact Å _⟩) ?_ ?_
 ·rintro i x ys H' H3 hi ⟨rfl,kx,pr⟩ ⟨hf,v_,xe,kp,bs,ba,bl,b1,b2⟩ os ų N kN;obtain⟨p,hp,rfl⟩:=yF pr;have Qi:=ß hp;obtain⟨l,el,sl⟩:=sd p Qi;obtain⟨ps,hl,al⟩:=sl.ext xe;obtain⟨o0,o1,o2,o3,rfl⟩:∃ o0 o1 o2 o3,os=[o0,o1,o2,o3]:=by
   match os,ų with
   | [o0,o1,o2,o3],_=>exact⟨o0,o1,o2,o3,rfl⟩
  have PD:=bP _ _ _ hl;have Xc:l≠D:=λ e=>by
   obtain⟨_,h0,_⟩:=sl;rw[e] at h0;rw[rW Vo] at h0;cases h0
  refine⟨⟨[some p.2,o1,o2,o3],rfl,rfl⟩,_,rfl,l,el,⟨_,Ğ.of PD⟩,?_⟩;have len:=al.len;have ZX:=Rl.ε t (dU p.1) (k:Nat);refine zo (n2:=ps.length) (λ j ζ ĩ H2=>H2 l\.lst ps/\H2 a\.Η ob (fA t.tp qs)/\H2 D\.lst ζ/\Ext (nD H) (nD H2)/\Kept H H2 a/\(∃ o1 o2 o3,ĩ=[some p.2,o1,o2,o3])/\RA K H2 ζ (bs++((t.steps (dU p.1) (k:Nat)).take j).map (·.b))) ?_ ?_ ?_ ?_ ?_
  ·refine⟨PD,hf,v_,xe,kp,⟨o1,o2,o3,rfl⟩,?_⟩
   simpa using ba
  ·rintro j ζ ĩ H2 hj ⟨h1,h2,h3,h4,h5,h6,h7⟩;have:=Ė h7;rw[Õ,Ç,ĕ] at this;exact⟨⟨ps,_,Ğ.of h1,Ã hj⟩,by rw[this,è];lia⟩
  ·rintro ζ ĩ H2 ⟨h1,_⟩;exact⟨ps,Ğ.of h1,Å _⟩
  ·rintro j y ζ ĩ H2 H7 hj ⟨rfl,yl⟩ ⟨h1,h2,h3,h4,h5,⟨p1,p2,p3,rfl⟩,h7⟩ R kR;have ey:=yl ps (Ğ.of h1);have WO:Mn K (nD H7) ps (t.steps (dU p.1) (k:Nat)):=by
    obtain⟨SL,Pr,WO⟩:=sl.ext h4;rw[(iN Pr).1] at h1;cases h1;exact WO
   obtain⟨s,es,z,sv,nv,rfl,hz,hs,hn⟩:=WO.get ey;refine⟨z,_,rfl,Ĭ.of (bP _ _ _ hz),rfl,_,_,rfl,_,_,rfl,_,_,rfl,rfl,_,rfl,?_⟩;have kd:=ze (o:=.lst (ζ ++ [sv])) h3 rfl;refine kR sv _ H7 h3 ⟨by rw[ai Xc];exact h1,by rw[ai Xh.symm];exact h2,bz,up h4,ku h5,⟨_,_,_,rfl⟩,?_⟩
   rw[aC es,Ø,<- ì];have Wg:=ß es;exact Paired.snoc (RA.ĸ h7 kd) ⟨gd p Qi s Wg,s.t,(hs.ext (bP _)).ĸ kd⟩
  ·rintro ζ ĩ H2 ⟨h1,h2,h3,h4,h5,⟨p1,p2,p3,rfl⟩,h7⟩;refine⟨⟨[some p.2,p1,p2,p3],rfl,rfl⟩,kN _ _ ⟨h2,h3,h4,h5,_,h7,?_,?_,?_⟩⟩
   ·rw[Õ,Ç,ĕ];lia
   ·intro q hq s hs;rw[aC hp] at hq;rcases é.mp hq with hq | hq
    ·exact ŧ _ (b1 q hq s hs)
    ·rw[Í.mp hq] at hs;refine ã _ ?_;rw[len,ä];exact ű hs
   ·intro b hb;rcases é.mp hb with hb | hb
    ·exact b2 b hb
    ·obtain⟨s,hs,rfl⟩:=ë.mp hb;exact⟨p,Qi,s,ħ hs,rfl⟩
 ·rintro ys H' ⟨hf,v_,xe,kp,bs,ba,bl,b1,b2⟩;rw[ä] at b1;exact q D ys bs H' xe kp (.inr ⟨ob,hf⟩) Vo v_ ba b1 b2
end
theorem xa:∀(ps:Tw)(k:TK),(a9 (ps.map λ p=>(p.1,V.int (p.2:Nat))) k=none/\lE ps k=0)\/a9 (ps.map λ p=>(p.1,V.int (p.2:Nat))) k\.int (lE ps k:Nat)
 | [],k=>.inl ⟨rfl,rfl⟩
 | p::ps,k=>by
  rw[É];unfold lE;by_cases e:p.1=k
  ·right;rw[aV (p:=(p.1,V.int (p.2:Nat))) e,Ë e]
  ·rw[aK (p:=(p.1,V.int (p.2:Nat))) e,Æ e];exact xa ps k
theorem wM:∀{ps:Tw}{k:TK}{c:Nat},(ps.map (·.1)).Nodup->aU (ps.map λ p=>(p.1,V.int (p.2:Nat))) k (.int (lE ps k+c:Nat))=(bo ps k c).map λ p=>(p.1,V.int (p.2:Nat))
 | [],k,c,_=>by simp[lE,bo,aU]
 | p::ps,k,c,nd=>by
  rw[É,ï] at nd;rw[É];unfold lE bo;by_cases e:p.1=k
  ·rw[Ë e,Ë e,É];unfold aU;rw[ł,Ê e,Bool.true_or,Ë rfl,É,Ë e]
   congr 1
   refine(ń λ q hq=>?_).trans (List.map_id _);obtain⟨q',Pq,rfl⟩:=ë.mp hq;rw[Æ (λ z=>nd.1 (ë.mpr ⟨q',Pq,by rw[e];exact z⟩))]
   rfl
  ·rw[Æ e,Æ e,É,<- wM nd.2];unfold aU;rw[ł,Ò e,QM];split
   ·rw[É,Æ e]
   ·rfl
theorem nJ (ps:Tw):aA ps=.dT ((ps.map λ p=>(p.1,V.int (p.2:Nat))).map λ p=>([p.1.1,NK.k (.inl p.1.2)],p.2)):=by
 unfold aA;rw[ā];rfl
theorem jk (ps:Tw):oI (aA ps)/\uT (aA ps)=true/\bV (aA ps)=ps.length:=⟨True.intro,rfl,Ç _⟩
section
variable {H:Hp}{a b:Addr}{ps:Tw}{q:TK}{sv:V}
theorem oZ (hb:H b\.tup [sv,.int q.2])(nv:NV H q.1 sv):O_ H [q.1,.k (.inl q.2)] b:=⟨_,hb,.cons nv (.cons rfl .nil)⟩
theorem iD (hu:Rd H a (aA ps))(hb:H b\.tup [sv,.int q.2])(nv:NV H q.1 sv):∃ o,ſ H a (.ref b) o/\o.getD (.int 0)=.int (lE ps q:Nat)/\o=a9 (ps.map λ p=>(p.1,V.int (p.2:Nat))) q:=by
 have e:a9 ((ps.map λ p=>(p.1,V.int (p.2:Nat))).map λ p=>([p.1.1,NK.k (.inl p.1.2)],p.2)) [q.1,NK.k (.inl q.2)]=_:=iR tJ True.intro (n:=q) λ _ _=>True.intro;refine⟨_,.inr ⟨_,_,b,(by rw[<- nJ];exact hu),rfl,oZ hb nv,rfl⟩,?_,e⟩
 rw[e];rcases xa ps q with⟨h,z⟩ | h
 ·rw[h,z];rfl
 ·rw[h];rfl
theorem kE {c:Nat}(hu:H a\aA ps)(nd:(ps.map (·.1)).Nodup)(hb:H b\.tup [sv,.int q.2])(nv:NV H q.1 sv)(lt:ps.length<sizeLine):Mp H a (.ref b) (.int (lE ps q+c:Nat)) (ak H a (aA (bo ps q c))):=by
 refine .inr ⟨_,_,b,(by rw[<- nJ];exact hu),rfl,oZ hb nv,by rw[Ç,Ç];exact lt,?_⟩
 rw[jZ (g:=λ q:TK=>[q.1,NK.k (.inl q.2)]) tJ True.intro (n:=q) λ _ _=>True.intro,wM nd,<- nJ]
end
section
variable {P:Program}{w:World}{K:Frag}{mg:bD}{base:Heap}{C:Nat->Addr}{f a1 a2 a3:Addr}{fd d1 d2 d3:FuncData}
abbrev yq:Stmt:=bT 50
abbrev J6:List Str:=["rule","at","score","layer","bottom","tops","steps","hand","share","behind","finer","behind_tops","state","total","top","key"]
theorem RY:ag J6 ["rule","at","score","layer"] (aa yq):=aL
def iH (K:Frag)(i:Nat)(k:Int):TE:=bR (xF K) (af i) (tC (.int k))
def IO (a b:TE):TE:=bR (rI Pu λ i j=>.int (i*j)) a b
def cR (a b:TE):TE:=bR (dQ λ i j=>.int (i+j)) a b
def Mi:TS:=bQ (iP (aw (af 9) (aw (cR (af 13) (bR (rI N5 λ i j=>.int (i*j)) (af 7) (af 2))) aS))) (aJ 15)
def JU (K:Frag):TE:=cR (fu (af 11) (af 15) (tC (.int 0))) (IO (IO (af 14) (iH K 8 0)) (bR (rI nt λ i j=>.int (i/j)) (af 10) (iH K 8 1)))
def Hu (K:Frag):TS:=gU (af 11) (af 15) (JU K)
def LF (K:Frag):TG:=jD K 3 (bu (aJ 7) (bu (aJ 8) (bu (aJ 9) jd)))
def Fp (K:Frag):TS:=fM (cY K (bL (af 6) (af 12))) (LF K) (aO Mi (Hu K))
abbrev Sn (v y:V)(k:Nat)(c:Int)(D:Nat)(d a:Addr)(o7 o8 o9:Option V)(F:Nat)(e:Addr)(ũ T_ T9 O4:Option V):St:=[some v,some (.int (k:Nat)),some (.int c),some y,some (.int (D:Nat)),some (.ref d),some (.ref a),o7,o8,o9,some (.int (F:Nat)),some (.ref e),ũ,T_,T9,O4]
theorem eF {i:Nat}{σ:St}{H:Hp}{a:Addr}{xs:List V}{v:V}{Q:VK}(k:Nat)(si:σ[i]?\some (.ref a))(ha:Ĭ K H a xs)(hk:xs[k]?\v)(q:Q v H):iH K i (k:Nat) σ H Q:=⟨_,si,a,_,_,_,rfl,rfl,ha,qF hk,q⟩
theorem Cy {De:bH}{H:Hp}{v y:V}{t:Rl}{k D F N:Nat}{c tot:Int}{d a e:Addr}{o7 o8 o9 O4:Option V}{sv:V}{n:NK}{qs:List (NK × V)}{acc:Tw}
  (ha:Rd H a (fA t.tp qs)) (qf:∀ q∈qs,i4 t.tp q.1) (fn:i4 t.tp n) (nv:NV H n sv) (sd:SA K (nD H) t k qs) (hm:∃ x,a9 qs n\x/\(n,x)∈qs) (gd:∀ s∈t.steps (dU n) (k:Nat),s.good/\oj t.tp s.next=true/\s.b ∣ F) (F1:1<=F) (Q7:F<=100) (YB:N<=10^40)
  (he:H e\aA acc) (nd:(acc.map (·.1)).Nodup) (la:acc.length<=10000) (SN:e≠a)
  (q:∀ H' o7 o8 o9 O4,Ext (nD H) (nD H')->Kept H H' e->H' e\aA (fO (t.steps (dU n) (k:Nat)) F N tot c acc)->De.nx (Sn v y k c D d a o7 o8 o9 F e (some sv) (some (.int tot)) (some (.int (N:Nat))) O4) H') :
  Fp K De (Sn v y k c D d a o7 o8 o9 F e (some sv) (some (.int tot)) (some (.int (N:Nat))) O4) H:=by
 obtain⟨x,hx,mx⟩:=hm;obtain⟨l,el,sl⟩:=sd _ mx;have el':x=.ref l:=el;subst el';obtain⟨ps,hl,al⟩:=sl;have gt:=qg ha qf fn nv;rw[hx] at gt;have PD:=bP _ _ _ hl;have nle:l≠e:=λ z=>by rw[z,he] at PD;cases PD
 have len:=al.len;have ZX:=Rl.ε t (dU n) (k:Nat);refine⟨_,rfl,_,rfl,a,_,rfl,gt,l,rfl,⟨_,Ğ.of PD⟩,dJ (xs:=ps) (λ j σ H'=>Ext (nD H) (nD H')/\Kept H H' e/\H' e\aA (fO ((t.steps (dU n) (k:Nat)).take j) F N tot c acc)/\∃ o7 o8 o9 O4,σ = Sn v y k c D d a o7 o8 o9 F e (some sv) (some (.int tot)) (some (.int (N:Nat))) O4) ⟨Ext.refl _,Kept.refl _ _,he,_,_,_,_,rfl⟩ ?_ ?_ ?_⟩
 ·rintro j σ H' _ ⟨xe,_⟩;exact Ğ.of (bP _ _ _ (xe _ _ hl))
 ·rintro j p σ H' ep ⟨xe,kp,Ρ,o7,o8,o9,O4,rfl⟩;refine Â λ gg=>?_;obtain⟨s,es,z,shv,nx,rfl,hz,⟨sp,rfl,hs⟩,hn⟩:=(al.ext xe).get ep;have Wg:=ß es;obtain⟨gs,s1,sb⟩:=gd s Wg;have tk:=aC es;have nx':NV (nD H') (dh s.next) nx:=AO (by rw[tz s1];exact hn)
  have Qw:=My.Ĭ.ext hs (bP H');have b1:1<=s.b:=È gs.t1 gs.tb;have S6:s.t<=100:=È gs.tb gs.MV;refine gg ?_;refine⟨z,_,rfl,Ĭ.of (bP _ _ _ hz),rfl,_,_,rfl,_,_,rfl,_,_,rfl,rfl,?_⟩;have cm:N5 s.hand c:=by rcases gs.h with h | h <;> rw[h] <;> exact .inl ⟨av,av⟩
  refine aE (te:=iP (aw (af 9) (aw (cR (af 13) (bR (rI N5 λ i j=>.int (i*j)) (af 7) (af 2))) aS))) (i:=15) ⟨_,rfl,_,rfl,_,rfl,_,rfl,_,_,rfl,rfl,cm,_,_,rfl,rfl,er,λ b hb=>?_⟩;show Hu K _ (Sn v y k c D d a (some (.int s.hand)) (some (.ref sp)) (some nx) F e (some sv) (some (.int tot)) (some (.int (N:Nat))) (some (.ref b))) (ak H' b (.tup [nx,.int (tot+s.hand*c)]));obtain⟨H1,x1,g1,eU⟩:=eD hb (.tup [nx,.int (tot+s.hand*c)]);rw[eU];have Rq:=x1 _ _ Ρ;have Xa:NV H1 (dh s.next) nx:=j7 (j7 nx' (bP H')) x1;have Wk:=My.Ĭ.ext Qw x1;have eA:fO ((t.steps (dU n) (k:Nat)).take (j+1)) F N tot c acc=bo (fO ((t.steps (dU n) (k:Nat)).take j) F N tot c acc) (dh s.next,tot+s.hand*c) (N*s.part F):=by
   rw[tk];show List.foldl _ _ _=_;rw[ľ];rfl
  have lA:=iF (F:=F) (n:=N) (s0:=tot) (c:=c) ((t.steps (dU n) (k:Nat)).take j) acc;rw[ĕ] at lA;have SO:=jN (F:=F) (n:=N) (s0:=tot) (c:=c) ((t.steps (dU n) (k:Nat)).take j) nd;generalize fO ((t.steps (dU n) (k:Nat)).take j) F N tot c acc=A at Ρ Rq eA lA SO;obtain⟨o,dg,ov,_⟩:=iD (q:=(dh s.next,tot+s.hand*c)) (.inl Rq) g1 Xa;have zN:Sz N:=mf (È YB av);have zt:Sz s.t:=eO S6;have ZD:Sz (N*s.t):=mf (È (Δ YB S6) av);have ZE:Sz (F/s.b):=eO (È (ċ _ _) Q7);have ed:((F:Int)/(s.b:Int))=((F/s.b:Nat):Int):=by simp
  refine⟨_,rfl,e,rfl,.inr ⟨_,.inl Rq⟩,_,rfl,o,dg,?_⟩;rw[ov];refine⟨_,rfl,eF 0 rfl Wk rfl ⟨_,_,rfl,rfl,gm zN zt,_,rfl,eF 1 rfl Wk rfl ⟨_,_,rfl,rfl,⟨ad,(eO gs.MV).log⟩,_,_,rfl,rfl,by rw[ed,<- Ĕ];exact gm ZD ZE,_,_,rfl,rfl,?_⟩⟩⟩
  have ev:((lE A (dh s.next,tot+s.hand*c):Nat):Int)+(N:Int)*(s.t:Int)*((F:Int)/(s.b:Int))=((lE A (dh s.next,tot+s.hand*c)+N*s.part F:Nat):Int):=by
   rw[ed];unfold Š.part;simp only[Int.natCast_add,Int.natCast_mul,Int.mul_assoc]
  refine⟨_,rfl,_,rfl,e,ak H1 e (aA (bo A (dh s.next,tot+s.hand*c) (N*s.part F))),rfl,?_,?_⟩
  ·show Mp H1 e (.ref b) (.int (((lE A (dh s.next,tot+s.hand*c):Nat):Int)+(N:Int)*(s.t:Int)*((F:Int)/(s.b:Int)))) _;rw[ev];exact kE Rq SO g1 Xa (by rw[è];lia)
  ·have xu:Ext (nD H1) (nD (ak H1 e (aA (bo A (dh s.next,tot+s.hand*c) (N*s.part F))))):=wm Rq rfl;refine⟨(xe.trans x1.nd).trans xu,λ b' o' QC ne=>by rw[ai ne];exact x1 _ _ (kp _ _ QC ne),?_,_,_,_,_,rfl⟩
   rw[eA];exact bz
 ·rintro σ H' ⟨xe,kp,Ρ,o7,o8,o9,O4,rfl⟩;rw[len,ä] at Ρ;exact q H' _ _ _ _ xe kp Ρ
end
section
variable {P:Program}{w:World}{K:Frag}{mg:bD}{base:Heap}{C:Nat->Addr}{f a1 a2 a3:Addr}{fd d1 d2 d3:FuncData}
def yg (K:Frag)(C:Nat->Addr):Sp:=λ vs H Q _=>∃(v:V)(k:Nat)(c:Int)(y d:Addr)(t:Rl)(sc:List Int)(D:Nat)(ps:Tw),vs=[v,.int (k:Nat),.int c,.ref y]/\Ru C (nD H) t v/\t.ok/\(k:Int)<t.ö/\k<sc.length/\su t sc/\c=sc.getD k 0/\Ĭ K H y [.int (D:Nat),.ref d]/\Rd H d (aA ps)/\Lay t sc k D ps /\
 ∀ m d' D' SL H',Ext (nD H) (nD H')->Kept H H' d->Rd H' d (aA ps)->H m=none->H d'=none->H' m\.tup [.int (D':Nat),.ref d']->H' d'\aA SL->Lay t sc (k+1) D' SL->Q (.ref m) H'
def LS (K:Frag):TG:=jD K 2 (bu (jD K 2 (bu (aJ 12) (bu (aJ 13) jd))) (bu (aJ 14) jd))
def C8 (K:Frag):TS:=fM (CP (af 5)) (LS K) (Fp K)
def JW (K:Frag):TS:=bQ (af 3) (jD K 2 (bu (aJ 4) (bu (aJ 5) jd)))
def GT (K:Frag)(C:Nat->Addr):TS:=bQ (cV (yk K C) [] E0 (aw (af 0) (aw (af 5) (aw (af 1) aS)))) (aJ 6)
def FL (K:Frag):TS:=bQ (cV (vt K) [] E0 (aw (Db K 6) aS)) (aJ 10)
def FB:TS:=bQ ie (aJ 11)
def KL:TS:=jW (cV zd [] E0 (aw (jw AL (aw (af 11) aS)) aS))
def KI:TS:=cH (iP (aw (IO (af 4) (af 10)) (aw (af 11) aS)))
def LC (K:Frag)(C:Nat->Addr):TS:=aO (JW K) (aO (GT K C) (aO (FL K) (aO FB (aO (C8 K) (aO KL KI)))))
section
variable {cdv:Value}{A:Around}{outer:List Env}{s:Shared}{H:Hp}{E:XK}
def Kg (i:Nat):Stmt:=((aH yq)[i]?).getD (.Pass default)
abbrev rE (k:Nat)(q:Str)(st:Stmt)(A:Around)(s:Shared)(f:Addr)(c:Value):Prop:=Ă k (A.deeper (PyProof.Rows.envOfC q (aa st) s.heap.objs.size f c))
theorem EO (hr:rE 9 "next_layer" yq A s f cdv):Bx (PS (b9 az P w K mg base J6 "next_layer" (aa yq) f cdv A outer s H E).K' (Kg 4) (C8 K)):=by
 have nd:=RY.nd;have hu:(A.deeper (PyProof.Rows.envOfC "next_layer" (aa yq) s.heap.objs.size f cdv)).units+2<cLine:=by have:=hr.un;lia
 exact⟨bC .never rfl (pX (pv 5)) (bq rfl (cL (bq rfl (cL (bK nd rfl (.inl rfl)) (cL (bK nd rfl (.inl rfl)) aR))) (cL (bK nd rfl (.inl rfl)) aR)))
  (aW (bC .never rfl (bE (a8 hu (pv 6) (pv 12))) (bq rfl (cL (bK nd rfl (.inl rfl)) (cL (bK nd rfl (.inl rfl)) (cL (bK nd rfl (.inl rfl)) aR))))
   (bA (cB nd rfl (.inl rfl) (aI (ae (pv 9) (ae (ah aP (pv 13) (ah cD (pv 7) (pv 2))) aq))))
   (aW (cI hu (pv 11) (pv 15) (ah aP (dP hu (pv 11) (pv 15) aB ⟨rfl,rfl,rfl,rfl⟩) (ah cG (ah cG (pv 14) (c5 dR (pv 8) aB)) (ah bS (pv 10) (c5 dR (pv 8) aB)))) rfl)))))⟩
theorem Ef (A1:Df P w K mg base az 8 "steps_from" ["rule","keys","at"] (yk K C) a1 d1) (A2:Df P w K mg base az 2 "common_bottom" ["several"] (vt K) a2 d2) (A3:Df P w K mg base az 1 "need_few" ["many"] zd a3 d3) (mn:mg "len" = none) (hr:rE 9 "next_layer" yq A s f cdv):Bx (ο (b9 az P w K mg base J6 "next_layer" (aa yq) f cdv A outer s H E).K' (aH yq) (LC K C)):=by
 have nd:=RY.nd;have Uy:Ă 8 _:=hr.mono av;have O6:Ă 2 _:=hr.mono av;have Ń:Ă 1 _:=hr.mono av;exact da ⟨hI (pv 3) (bq rfl (cL (bK nd rfl (.inl rfl)) (cL (bK nd rfl (.inl rfl)) aR)))⟩
  (da (nS nd rfl (.inl rfl) ⟨cg A1 Uy aj (ae (pv 0) (ae (pv 5) (ae (pv 1) aq)))⟩)
  (da (nS nd rfl (.inl rfl) ⟨cg A2 O6 aj (ae (yW rfl Cb (uy (pv 6)) (λ s H C fp=>bK Aj rfl (.inl rfl)) (λ s H C fp=>bE (pv 0)) (λ s H C fp=>bq rfl (cL (bK Aj rfl (.inl rfl)) (cL (bK Aj rfl (.inl rfl)) (cL (bK Aj rfl (.inl rfl)) aR)))) (λ s H C fp=>pv 2)) aq)⟩)
  (da (nS nd rfl (.inl rfl) ⟨im⟩)
  (da (EO hr)
  (da ⟨aG (cg A3 Ń aj (ae (ao uG rfl mn ě (ae (pv 11) aq)) aq))⟩
  (bI ⟨cq (aI (ae (ah cG (pv 4) (pv 10)) (ae (pv 11) aq)))⟩))))))
end
theorem ye (h:te σ H λ x H1=>sp [x] H1 Q E):cV sp [] E (aw te aS) σ H Q:=h
theorem FH (h:k<=20):100^k<=10^40:=by
 have e:(100:Nat)^k<=100^20:=â av h;exact È e av
theorem Kept.rd (k:Kept H H' p)(r:Rd H b u)(n:b≠p):Rd H' b u:=by
 rcases r with r | ⟨o,r⟩
 ·exact .inl (k _ _ r n)
 ·exact .inr ⟨o,k _ _ r n⟩
theorem Kept.none (k:Kept H H' p)(r:Rd H' p u)(e:H' b=none):H b=none:=by
 cases h:H b with
 | none=>rfl
 | some o =>
  by_cases n:b=p
  ·subst n;rcases r with r | ⟨_,r⟩ <;> rw[e] at r <;> cases r
  ·rw[k _ _ h n] at e;cases e
theorem Ho (F:Ļ K "next_layer" "next_layer" yq f fd) (A1:Df P w K mg base az 8 "steps_from" ["rule","keys","at"] (yk K C) a1 d1) (A2:Df P w K mg base az 2 "common_bottom" ["several"] (vt K) a2 d2) (A3:Df P w K mg base az 1 "need_few" ["many"] zd a3 d3) (mn:mg "len" = none):ð P w K mg base az 10 f fd ["rule","at","score","layer"] (yg K C):=by
 refine cj F RY λ cdv A outer s H vs Q E hr h=>?_;refine Â λ gg=>?_;obtain⟨v,k,c,y,d,t,sc,D,ps,rfl,ru,ok,hk,kl,fw,ec,hy,hd,L,q⟩:=h;obtain⟨Oz⟩:=Ef A1 A2 A3 mn hr (f:=f) (cdv:=cdv) (A:=A) (outer:=outer) (s:=s) (H:=H) (E:=E);refine gg ?_;refine⟨_,Oz,?_⟩;have OA:=Ŀ hk;have sk:Lj t k ps:=λ p hp=>by
  obtain⟨h1,h2,h3⟩:=L.st ok OA hp;exact⟨h1,h2,h3 hk⟩
 have V7:k<20:=by have:=(Rl.Ķ ok).2;lia
 have l5:ps.length<=5000:=L.Ox ok ad fw ad;have Pw:D<=10^40:=È (ø (iw ok sc OA).1 L.dd) (È (iw ok sc OA).2 (FH ad));refine⟨_,rfl,y,_,rfl,hy,rfl,_,_,rfl,_,_,rfl,rfl,?_⟩;show aO (GT K C) _ _ [some v,some (.int (k:Nat)),some (.int c),some (.ref y),some (.int (D:Nat)),some (.ref d),none,none,none,none,none,none,none,none,none,none] H;refine aE (te:=cV (yk K C) [] E0 (aw (af 0) (aw (af 5) (aw (af 1) aS)))) (i:=6) ⟨_,rfl,_,rfl,_,rfl,v,d,k,t,ps,rfl,ru,ok,hk,hd,l5,sk,λ a qs H1 x1 Vf SW ha Rj Vn sd qf qa ql=>?_⟩;show aO (FL K) _ _ [some v,some (.int (k:Nat)),some (.int c),some (.ref y),some (.int (D:Nat)),some (.ref d),some (.ref a),none,none,none,none,none,none,none,none,none] H1;have gq:∀ q∈qs,∀ s∈t.steps (dU q.1) (k:Nat),s.good/\oj t.tp s.next=true/\s.b ∣ t.dd (k:Nat):=λ q hq s hs=>by
  obtain⟨_,p,hp,e⟩:=qf q hq;rw[e] at hs;obtain⟨g1,g2,_,g3⟩:=dC ok hk (sk p hp).2.2 s hs;exact⟨g1,g2,g3⟩
 obtain⟨Yw,Yv⟩:1<=t.dd (k:Nat)/\t.dd (k:Nat)<=100:=by
  cases e:ps with
  | nil =>
   have o:=L.one;rw[e] at o;have:=L.D0;rw[<- o] at this;exact absurd this (by simp[tS])
  | cons p SL =>
   have h:=Rl.NL ok (x:=(k:Nat)) ad hk (sk p (by rw[e];exact Ï ..)).2.2
   exact⟨h.1,h.2.1⟩
 refine aE (te:=cV (vt K) [] E0 (aw (Db K 6) aS)) (i:=10) ?_;refine ye (BC (t:=t) (k:=k) (a:=a) rfl (.inl Vn) sd (λ q hq s hs=>È (gq q hq s hs).1.t1 (gq q hq s hs).1.tb) ad λ l xs bs H2 x2 Xm UK hl Pr ba b1 b2=>⟨l,xs,bs,t.dd (k:Nat),rfl,Ğ.of Pr,ba,λ b hb=>?_,Yw,Yv,λ F F1 Fd bF=>?_⟩)
 ·obtain⟨q,hq,s,hs,rfl⟩:=b2 b hb;exact(gq q hq s hs).2.2
 show aO FB _ _ [some v,some (.int (k:Nat)),some (.int c),some (.ref y),some (.int (D:Nat)),some (.ref d),some (.ref a),none,none,none,some (.int (F:Nat)),none,none,none,none,none] H2;have Q7:F<=100:=È (ø Yw Fd) Yv;refine aE (te:=ie) (i:=11) λ e he=>?_;have hd2:Rd H2 d (aA ps):=Xm.rd SW Rj.symm;have Ut:Kept H H2 d:=λ b o hb n=>Xm _ _ (Vf _ _ hb n) (ap hb ha);have M7:H e=none:=Ut.none hd2 he;have NO:e≠d:=λ z=>by
  rcases hd2 with r | ⟨_,r⟩ <;> rw[<- z,he] at r <;> cases r
 have SN:e≠a:=λ z=>by
  rcases UK with r | ⟨_,r⟩ <;> rw[<- z,he] at r <;> cases r
 have x3:=(Ext.new (o:=.dT []) he).nd;have kn:Kept H2 (ak H2 e (.dT [])) e:=λ b o hb n=>by rw[ai n];exact hb
 have g3:ak H2 e (.dT []) e\aA []:=bz;have QA:=kn.rd hd2 NO.symm;have Rs:=kn.rd UK SN.symm;have Us:Kept H (ak H2 e (.dT [])) d:=λ b o hb n=>kn _ _ (Ut _ _ hb n) (ap hb M7);show aO (C8 K) _ _ (Sn v (.ref y) k c D d a none none none F e none none none none) (ak H2 e (.dT []));generalize ak H2 e (.dT [])=H3 at x3 kn g3 QA Rs Us ⊢;have U2:=(x1.trans x2).trans x3;refine⟨_,rfl,d,aA ps,rfl,True.intro,QA,λ ob H4 fz=>?_⟩;have WU:=wO (u:=aA ps) True.intro QA fz;have aa2:H3 d≠none:=by rcases QA with r | ⟨_,r⟩ <;> rw[r] <;> exact λ z=>nomatch z
 have kd:Kept H3 H4 d:=λ b o hb n=>by rw[fz.2 b n];exact hb
 have ea:∀(p:TK × Nat)(acc:Tw),fO (t.steps (dU p.1.1) (k:Nat)) F p.2 p.1.2 c acc=lq t k c F p acc:=λ p acc=>rfl;refine sT (λ i σ H'=>H' d\.Η ob (aA ps)/\Ext (nD H) (nD H')/\Kept H H' d/\Rd H' a (fA t.tp qs)/\Ext (nD H1) (nD H')/\H' e\aA (cZ t k c F (ps.take i) [])/\∃ o7 o8 o9 ũ T_ T9 O4,σ = Sn v (.ref y) k c D d a o7 o8 o9 F e ũ T_ T9 O4) ?_ (λ i σ H' pv=>pv.1) ?_ ?_
 ·refine⟨fz.1,U2.trans WU,λ b o hb n=>kd _ _ (Us _ _ hb n) n,kd.rd Rs Rj,(x2.trans x3).trans WU,?_,_,_,_,_,_,_,_,rfl⟩;rw[fz.2 e NO];exact g3
 ·rintro i σ H' p' kx vv hi ⟨hf,xe,kp,PJ,Vy,Ρ,o7,o8,o9,ũ,T_,T9,O4,rfl⟩ Qx pr;refine Â λ gg=>?_;obtain⟨p,b,sv,hp,rfl,hb,nv,rfl⟩:=fG pr;have Qi:=ß hp;obtain⟨s1,s2,s3⟩:=sk p Qi;have x5:=Ext.new (o:=.tup [.ref b,.int (p.2:Nat)]) Qx;have g5:ak H' p' (.tup [.ref b,.int (p.2:Nat)]) p'\.tup [.ref b,.int (p.2:Nat)]:=bz;have hp0:H p'=none:=kp.none (.inr ⟨ob,hf⟩) Qx;refine gg ?_;generalize ak H' p' (.tup [.ref b,.int (p.2:Nat)])=H5 at x5 g5 ⊢;refine⟨p',_,rfl,Ĭ.of g5,rfl,_,_,rfl,b,_,rfl,Ĭ.of (x5 _ _ hb),rfl,_,_,rfl,_,_,rfl,rfl,_,_,rfl,rfl,?_⟩;have fn:i4 t.tp p.1.1:=by rw[<- s2];exact wn s1
  have lf:=gM (t:=t) (k:=k) (c:=c) (F:=F) (ps.take i) [];rw[ĕ,ļ] at lf;refine Cy (t:=t) (n:=p.1.1) (N:=p.2) (tot:=p.1.2) ((x5.kept e).rd PJ SN.symm) (λ q hq=>(qf q hq).1) fn (j7 nv x5) (sd.ext (Vy.trans x5.nd)) (qa p Qi) (λ s hs=>?_) F1 Q7 ?_ (x5 _ _ Ρ) (iz (ps.take i) (by simp)) ad SN ?_
  ·obtain⟨g1,g2,_,_⟩:=dC ok hk s3 s hs;obtain⟨x,_,mx⟩:=qa p Qi;exact⟨g1,g2,bF _ (b1 _ mx s hs)⟩
  ·exact È (yE Qi) (by rw[L.one];exact Pw)
  ·intro H6 o7 o8 o9 O4 x6 V6 he6;refine⟨V6 _ _ (x5 _ _ hf) NO.symm,(xe.trans x5.nd).trans x6,λ b' o' QC n=>V6 _ _ (x5 _ _ (kp _ _ QC n)) (ap QC M7),V6.rd ((x5.kept e).rd PJ SN.symm) SN.symm,(Vy.trans x5.nd).trans x6,?_,_,_,_,_,_,_,_,rfl⟩;rw[he6,ea,aC hp];show _\aA (List.foldl _ _ _);rw[ľ];rfl
 ·rintro σ H' ⟨hf,xe,kp,PJ,Vy,Ρ,o7,o8,o9,ũ,T_,T9,O4,rfl⟩;have el:bV (aA ps)=ps.length:=Ç _;rw[el,ä] at Ρ;have LN:=L.next ok hk F1 Fd λ p hp s hs=>by
   obtain⟨x,_,mx⟩:=qa p hp;exact bF _ (b1 _ mx s hs)
  rw[<- ec] at LN;have QU:H' e\aA (tu t k c F ps):=Ρ;refine⟨_,rfl,e,aA (tu t k c F ps),rfl,True.intro,.inl QU,_,rfl,?_,?_⟩
  ·have:=LN.Ox ok ad fw ad;rw[(jk _).2.2]
   lia
  refine⟨_,rfl,_,rfl,_,_,rfl,rfl,gm (mf (È Pw av)) (eO Q7),_,rfl,er,λ m hm=>?_⟩;have xm:=Ext.new (o:=.tup [.int ((D:Int)*(F:Int)),.ref e]) hm;refine q m e (D*F) _ _ (xe.trans xm.nd) (λ b o hb n=>xm _ _ (kp _ _ hb n)) (.inr ⟨ob,xm _ _ hf⟩) (kp.none (.inr ⟨ob,hf⟩) hm) M7 ?_ (xm _ _ QU) LN;rw[Ĕ];exact bz
end
theorem Ag {α:Type}{xs:List α}{x:α}:ph (xs ++ [x]) (-1)\x:=by
 unfold ph zD;rw[Æ av,Ë (by rw[Õ];simp;lia)]
 rw[show((-1:Int)+((xs ++ [x]).length:Nat)).toNat=xs.length by rw[Õ];simp;lia]
 simp
theorem dM (r:Rd H b u)(x:Ext H H'):Rd H' b u:=by
 rcases r with r | ⟨o,r⟩
 ·exact .inl (x _ _ r)
 ·exact .inr ⟨o,x _ _ r⟩
theorem zY (h1:Rd H d (aA a))(h2:Rd H d (aA b)):aA a=aA b:=by
 rcases h1 with h1 | ⟨_,h1⟩ <;> rcases h2 with h2 | ⟨_,h2⟩ <;> rw[h1] at h2 <;> injection h2 with h2
 ·cases h2
 ·cases h2
 ·injection h2
def N4 (H0 H:Hp)(t:Rl)(sc:List Int)(k:Nat)(m:Addr):Prop:=∃ D d ps,H m\.tup [.int (D:Nat),.ref d]/\Rd H d (aA ps)/\H0 m=none/\H0 d=none/\Lay t sc k D ps
def DO (H0 H:Hp)(t:Rl)(sc:List Int)(ms:List Addr):Prop:=∀(k:Nat) m,ms[k]?\m->N4 H0 H t sc k m
theorem N4.mono {H0 H H':Hp}{t:Rl}{sc:List Int}{k:Nat}{m:Addr}(h:N4 H0 H t sc k m)(x:Ext H H'):N4 H0 H' t sc k m:=by
 obtain⟨D,d,ps,h1,h2,h3⟩:=h;exact⟨D,d,ps,x _ _ h1,dM h2 x,h3⟩
theorem N4.WK {H0 H H':Hp}{t:Rl}{sc:List Int}{k:Nat}{m d:Addr}{ps:Tw}(h:N4 H0 H t sc k m)(x:Kept H H' d)(r:Rd H d (aA ps))(r':Rd H' d (aA ps)):N4 H0 H' t sc k m:=by
 obtain⟨D,d2,Z',h1,h2,h3⟩:=h;have nm:m≠d:=λ z=>by
  rcases r with r | ⟨_,r⟩ <;> rw[<- z,h1] at r <;> cases r
 refine⟨D,d2,Z',x _ _ h1 nm,?_,h3⟩;by_cases e:d2=d
 ·subst e;rw[zY h2 r];exact r'
 ·exact x.rd h2 e
section
variable {P:Program}{w:World}{K:Frag}{mg:bD}{base:Heap}{C:Nat->Addr}{f a1 a2 a3:Addr}{fd d1 d2 d3:FuncData}
abbrev sZ:Stmt:=bT 51
abbrev GS:List Str:=["rule","scores","layers","at","score"]
theorem RZ:ag GS ["rule","scores"] (aa sZ):=aL
def zV (C:Nat->Addr):Sp:=λ vs H Q _=>∃(v:V)(p:Addr)(t:Rl)(sc:List Int),vs=[v,.ref p]/\Ru C (nD H) t v/\t.ok/\H p\.lst (sc.map V.int)/\(sc.length:Int)=t.ö/\su t sc/\DM sc /\
 ∀ L ms H',Ext H H'->H L=none->H' L\.lst (ms.map V.ref)->ms.length=sc.length+1->DO H H' t sc ms->Q (.ref L) H'
def JB (C:Nat->Addr):TE:=dH (uV C) "folk" (λ _=>jV C) E0 (af 0) aS
def G7 (C:Nat->Addr):TE:=dH (uV C) "begin" (λ _=>ir C) E0 (af 0) aS
def Fk (K:Frag)(C:Nat->Addr):TS:=cE (vz (tB (cV (vU K) [] E0 (aw (af 1) (aw (JB C) aS))))) (λ _ _ _=>False) br
def zq (C:Nat->Addr):TS:=bQ (iZ (aw (iP (aw (tC (.int 1)) (aw (ii (iP (aw (G7 C) (aw (tC (.int 0)) aS))) (tC (.int 1))) aS))) aS)) (aJ 2)
def KH (K:Frag)(C:Nat->Addr):TS:=jW (KG K "list" oh (af 2) (aw (cV (yg K C) [] E0 (aw (af 0) (aw (af 3) (aw (af 4) (aw (bR (qB K) (af 2) (FT (rU λ i=>.int (-i)) (tC (.int 1)))) aS))))) aS))
def DL (K:Frag)(C:Nat->Addr):TS:=fM (pU K (aw (af 1) aS)) (jD K 2 (bu (aJ 3) (bu (aJ 4) jd))) (KH K C)
def LX (K:Frag)(C:Nat->Addr):TS:=aO (Fk K C) (aO (zq C) (aO (DL K C) (cH (af 2))))
section
variable {cdv:Value}{A:Around}{outer:List Env}{s:Shared}{H:Hp}{E:XK}
def Bh (i:Nat):Stmt:=((aH sZ)[i]?).getD (.Pass default)
theorem Jj (M:Ms P w K mg base C)(A1:Df P w K mg base az 3 "are_scores" ["thing","folk"] (vU K) a1 d1) (hr:rE 10 "layers_of" sZ A s f cdv):Bx (PS (b9 az P w K mg base GS "layers_of" (aa sZ) f cdv A outer s H E).K' (Bh 0) (Fk K C)):=by
 have Ń:=hr.mono (show 1<=10 by decide)
 have PB:=hr.mono (show 3<=10 by decide)
 exact⟨aT (cA (bO (cg A1 PB aj (ae (pv 1) (ae (dA (pv 0) M.ö Ń aj) aq))))) (aW c7) eM⟩
theorem Kk (M:Ms P w K mg base C)(hr:rE 10 "layers_of" sZ A s f cdv):Bx (PS (b9 az P w K mg base GS "layers_of" (aa sZ) f cdv A outer s H E).K' (Bh 1) (zq C)):=by
 have nd:=RZ.nd;have Ń:=hr.mono (show 1<=10 by decide)
 have hu:(A.deeper (PyProof.Rows.envOfC "layers_of" (aa sZ) s.heap.objs.size f cdv)).units+64<cLine:=by have:=hr.un;lia
 exact nS nd rfl (.inl rfl) (np (lb (EB (lb ⟨aB⟩ (lb ⟨j8 hu (aI (ae (dA (pv 0) M.begin Ń aj) (ae aB aq))) aB⟩ iM))) iM))
theorem ID (A2:Df P w K mg base az 10 "next_layer" ["rule","at","score","layer"] (yg K C) a2 d2) (me:mg "enumerate" = none) (hr:rE 10 "layers_of" sZ A s f cdv):Bx (PS (b9 az P w K mg base GS "layers_of" (aa sZ) f cdv A outer s H E).K' (Bh 2) (DL K C)):=by
 have nd:=RZ.nd;exact⟨bC .never rfl (ip rfl me (ae (pv 1) aq)) (bq rfl (cL (bK nd rfl (.inl rfl)) (cL (bK nd rfl (.inl rfl)) aR)))
   (aW (aG (yp Bk t_ s_ gK (pv 2) (ae (cg A2 hr aj (ae (pv 0) (ae (pv 3) (ae (pv 4) (ae (c5 A0 (pv 2) (mQ i5 aB)) aq))))) aq))))⟩
theorem CA (M:Ms P w K mg base C)(A1:Df P w K mg base az 3 "are_scores" ["thing","folk"] (vU K) a1 d1) (A2:Df P w K mg base az 10 "next_layer" ["rule","at","score","layer"] (yg K C) a2 d2) (me:mg "enumerate" = none) (hr:rE 10 "layers_of" sZ A s f cdv):Bx (ο (b9 az P w K mg base GS "layers_of" (aa sZ) f cdv A outer s H E).K' (aH sZ) (LX K C)) :=
 da (Jj M A1 hr) (da (Kk M hr) (da (ID A2 me hr) (bI ⟨cq (pv 2)⟩)))
end
theorem D4 (ok:t.ok)(Z2:Ru C H1 t v)
  (q:∀ m0 d L H6,Ext H1 H6->H1 m0=none->H1 d=none->H1 L=none->H6 L\.lst [.ref m0]->H6 m0\.tup [.int (1:Nat),.ref d]->H6 d\aA [((dh t.begin,0),1)]->u De [some v,some (.ref p),some (.ref L),none,none] H6):aO (zq C) u De [some v,some (.ref p),none,none,none] H1:=by
 refine aE (te:=iZ (aw (iP (aw (tC (.int 1)) (aw (ii (iP (aw (G7 C) (aw (tC (.int 0)) aS))) (tC (.int 1))) aS))) aS)) (i:=2) ?_;refine Ec ?_;intro d hd;refine Â λ gg=>?_;obtain⟨H2,x2,g2,eU⟩:=eD hd (.dT []);refine gg ?_;rw[eU];have W7:=Z2.ext x2;refine eR (t:=t) aF W7 (λ R r=>⟨_,rfl,r⟩) ⟨v,t,H2,rfl,Ext.refl _,W7,λ bv rb=>⟨er,λ b hb=>?_⟩⟩;have nvb:NV H2 (dh t.begin) bv:=AO (by rw[tz (Rl.ME t ok)];exact rb)
 obtain⟨H3,x3,g3,eU⟩:=eD hb (.tup [bv,.int 0]);rw[eU];refine⟨b,[dh t.begin,.k (.inl 0)],_,rfl,oZ (q:=(dh t.begin,0)) g3 (j7 nvb x3),x3 _ _ g2,er,λ m0 NW=>⟨er,λ L hL=>?_⟩⟩;have xd:Ext H1 (ak H3 d (.dT [([dh t.begin,.k (.inl 0)],.int 1)])):=aZ _ (x2.trans x3) hd;have g4:ak H3 d (.dT [([dh t.begin,.k (.inl 0)],.int 1)]) d\aA [((dh t.begin,0),1)]:=bz;generalize ak H3 d (.dT [([dh t.begin,.k (.inl 0)],.int 1)])=H4 at xd g4 NW hL ⊢;have xm:=Ext.new (o:=.tup [.int 1,.ref d]) NW;have g5:ak H4 m0 (.tup [.int 1,.ref d]) m0\.tup [.int (1:Nat),.ref d]:=bz;generalize ak H4 m0 (.tup [.int 1,.ref d])=H5 at xm g5 hL ⊢;obtain⟨H6,xL,g6,eU⟩:=eD hL (.lst [.ref m0]);rw[eU];exact q m0 d L H6 ((xd.trans xm).trans xL) (xd.back NW) hd ((xd.trans xm).back hL) g6 (xL _ _ g5) (xL _ _ (xm _ _ g4))
theorem EG {De:bH}{H H6:Hp}{v:V}{p m0 d L:Addr}{t:Rl}{sc:List Int}{u:TS}(ru:Ru C (nD H) t v)(ok:t.ok)(hp:H p\.lst (sc.map V.int))(fk:(sc.length:Int)=t.ö)(fw:su t sc)(U0:Ext H H6)(hL0:H L=none)(g6:H6 L\.lst [.ref m0])(Ws:H m0=none)(u_:H d=none)(g5:H6 m0\.tup [.int (1:Nat),.ref d])(g4:H6 d\aA [((dh t.begin,0),1)])
  (q:∀ ms o3 o4 H',Ext H H'->H' L\.lst (ms.map V.ref)->ms.length=sc.length+1->DO H H' t sc ms->u De [some v,some (.ref p),some (.ref L),o3,o4] H'):aO (DL K C) u De [some v,some (.ref p),some (.ref L),none,none] H6:=by
 have NS:sc.length<=20:=by have:=(Rl.Ķ ok).2;lia
 refine⟨_,rfl,p,rfl,⟨_,Ğ.of (U0 _ _ hp)⟩,kP (xs:=sc.map V.int) (λ i σ H'=>Ext H H'/\∃(ms:List Addr)(m:Addr)(o3 o4:Option V),σ=[some v,some (.ref p),some (.ref L),o3,o4]/\H' L\.lst (ms.map V.ref ++ [.ref m])/\ms.length=i/\DO H H' t sc (ms ++ [m])) ?_ ?_ ?_ ?_⟩
 ·refine⟨U0,[],m0,none,none,rfl,g6,rfl,λ k m e=>?_⟩
  match k,e with
  | 0,e =>
   cases e;exact⟨1,d,_,g5,.inl g4,Ws,u_,Lay.zero t sc⟩
 ·rintro i σ H' _ ⟨x',_⟩;exact Ğ.of (x' _ _ hp)
 ·rintro i x σ H' pr ex ⟨x',ms,m,o3,o4,rfl,hl,ln,la⟩ Wn;refine Â λ gg=>?_;rw[Ô] at ex;obtain⟨c,ec,rfl⟩:=Û.mp ex;have hi:i<sc.length:=(Ú.mp ec).1;obtain⟨H7,xq,gq,eU⟩:=eD Wn (.tup [.int (i:Nat),.int c]);refine gg ?_;rw[eU];refine Â λ gg=>?_;have em:(ms ++ [m])[i]?\m:=by rw[<- ln];simp
  obtain⟨D,dd,ps,h1,h2,h3,h4,h5⟩:=(la i m em).mono xq;have SU:=xq _ _ hl;have x7:=x'.trans xq;refine gg ?_;refine⟨pr,_,rfl,Ĭ.of gq,rfl,_,_,rfl,_,_,rfl,rfl,?_⟩;refine⟨_,rfl,.inl ⟨rfl,_,Ğ.of SU⟩,_,rfl,_,rfl,_,rfl,_,rfl,1,rfl,L,_,-1,_,rfl,rfl,Ğ.of SU,Ag,?_⟩;have es:c=sc.getD i 0:=by rw[ą,ec];rfl
  refine⟨v,i,c,m,dd,t,sc,D,ps,rfl,ru.ext x7.nd,ok,ad,ad,fw,es,Ĭ.of h1,h2,h5,λ m' d' D' SL H8 x8 kp Z5 Nn OB g8 e8 L8=>?_⟩;have ndL:L≠dd:=λ z=>by
   rcases h2 with r | ⟨_,r⟩ <;> rw[<- z,SU] at r <;> cases r
  have Wu:=kp _ _ SU ndL;have ZM:Ext H H8:=λ b o hb=>kp _ _ (x7 _ _ hb) (ap hb h4);refine⟨L,_,.ref m',rfl,rfl,Wu,by rw[è,Õ,Ç,ln];simp;lia,?_⟩
  have nm':m'≠L:=λ z=>by rw[z,SU] at Nn;cases Nn
  have nd':d'≠L:=λ z=>by rw[z,SU] at OB;cases OB
  refine⟨aZ _ ZM hL0,ms ++ [m],m',_,_,rfl,?_,by rw[Õ,ln];rfl,λ k z hz=>?_⟩
  ·rw[Ø];exact bz
  ·have keep:∀{k:Nat}{z:Addr},N4 H H8 t sc k z->N4 H (ak H8 L (.lst (ms.map V.ref ++ [.ref m] ++ [.ref m']))) t sc k z:=λ {k z} ⟨D2,d2,p2,k1,k2,k3,k4,k5⟩=>by
    have n1:z≠L:=λ y=>by rw[y,Wu] at k1;cases k1
    have n2:d2≠L:=λ y=>by rcases k2 with r | ⟨_,r⟩ <;> rw[y,Wu] at r <;> cases r
    refine⟨D2,d2,p2,by rw[ai n1];exact k1,?_,k3,k4,k5⟩
    rcases k2 with r | ⟨o,r⟩
    ·exact .inl (by rw[ai n2];exact r)
    ·exact .inr ⟨o,by rw[ai n2];exact r⟩
   refine keep ?_;rcases ñ k (ms ++ [m]).length with lt | ge
   ·rw[ĉ lt] at hz;exact((la k z hz).mono xq).WK kp h2 Z5
   ·rw[Ą ge] at hz;have ek:k=i+1:=by
     have l1:(ms ++ [m]).length=i+1:=by rw[Õ,ln];rfl
     rcases ñ (k-(ms ++ [m]).length) 1 with y | y
     ·lia
     ·rw[List.getElem?_eq_none (by simpa using y)] at hz;cases hz
    have ez:z=m':=by
     rw[show k-(ms ++ [m]).length=0 by rw[Õ,ln];simp;lia] at hz
     exact(á hz).symm
    subst ek ez;exact⟨D',d',SL,g8,.inl e8,x7.back Nn,x7.back OB,L8⟩
 ·rintro σ H' ⟨x',ms,m,o3,o4,rfl,hl,ln,la⟩;rw[Ç] at ln;refine q (ms ++ [m]) _ _ H' x' ?_ (by rw[Õ,ln];rfl) la
  rw[Ø];exact hl
theorem Ht (M:Ms P w K mg base C)(F:Ļ K "layers_of" "layers_of" sZ f fd) (A1:Df P w K mg base az 3 "are_scores" ["thing","folk"] (vU K) a1 d1) (A2:Df P w K mg base az 10 "next_layer" ["rule","at","score","layer"] (yg K C) a2 d2) (me:mg "enumerate" = none):ð P w K mg base az 11 f fd ["rule","scores"] (zV C):=by
 refine cj F RZ λ cdv A outer s H vs Q E hr h=>?_;refine Â λ gg=>?_;obtain⟨v,p,t,sc,rfl,ru,ok,hp,fk,fw,ss,q⟩:=h;obtain⟨Oz⟩:=CA M A1 A2 me hr (f:=f) (cdv:=cdv) (A:=A) (outer:=outer) (s:=s) (H:=H) (E:=E);refine gg ?_;refine⟨_,Oz,?_⟩;have SJ:=ru.ext (bP H);have NS:sc.length<=20:=by have:=(Rl.Ķ ok).2;lia
 refine⟨_,rfl,eR (t:=t) aF SJ (λ R r=>⟨_,rfl,r⟩) ⟨v,t,rfl,SJ,?_⟩⟩;refine⟨p,sc,by rw[<- fk];rfl,hp,NS,ss,λ H1 x1=>⟨_,rfl,dW ?_⟩⟩
 show aO (zq C) _ _ [some v,some (.ref p),none,none,none] H1;refine D4 ok (SJ.ext x1) λ m0 d L H6 x6 hm hd hL g6 g5 g4=>?_;have U0:=x1.trans x6;exact EG ru ok hp fk fw U0 (x1.back hL) g6 (x1.back hm) (x1.back hd) g5 g4 λ ms o3 o4 H' x' h1 h2 h3=>⟨_,rfl,q L ms H' x' (x1.back hL) h1 h2 h3⟩
end
section
variable {α κ:Type} [DecidableEq α] [DecidableEq κ]
def de:List (α × Nat)->α->Nat
 | [],_=>0
 | p::r,k=>if p.1=k then p.2 else de r k
def ck:List (α × Nat)->α->Nat->List (α × Nat)
 | [],k,c=>[(k,c)]
 | p::r,k,c=>if p.1=k then(p.1,p.2+c)::r else p::ck r k c
def qE:List (α × Nat)->α->Nat->List (α × Nat)
 | [],k,c=>[(k,c)]
 | p::r,k,c=>if p.1=k then(p.1,c)::r else p::qE r k c
def dS (g:α->Nat):List (α × Nat)->Nat
 | []=>0
 | p::r=>p.2*g p.1+dS g r
theorem nU (g:α->Nat)(k:α)(c:Nat):∀ ps:List (α × Nat),dS g (ck ps k c)=dS g ps+c*g k
 | []=>by show c*g k+0=0+c*g k;lia
 | p::r=>by
  unfold ck;split
  ·rename_i e
   show(p.2+c)*g p.1+dS g r=p.2*g p.1+dS g r+c*g k;rw[e,Ŧ]
   lia
  ·show p.2*g p.1+dS g (ck r k c)=p.2*g p.1+dS g r+c*g k;rw[nU g k c r]
   lia
theorem pI {k:α}{c:Nat}{x:α}:∀{ps:List (α × Nat)},x∈(ck ps k c).map (·.1)->x=k\/x∈ps.map (·.1)
 | [],h=>by
  have h':x ∈ [k]:=h;exact .inl (Í.mp h')
 | p::r,h=>by
  unfold ck at h;split at h
  ·exact .inr h
  ·rw[É] at h;rcases Ö.mp h with h | h
   ·exact .inr (by rw[É];exact Ö.mpr (.inl h))
   ·rcases pI h with h | h
    ·exact .inl h
    ·exact .inr (by rw[É];exact Ì _ h)
structure Mq (ps:List (α × Nat)):Prop where
 nd:(ps.map (·.1)).Nodup
 pos:∀ q∈ps,0<q.2
theorem nX:Mq ([]:List (α × Nat)):=⟨List.nodup_nil,λ q h=>nomatch h⟩
theorem Mq.tail {p:α × Nat}{r:List (α × Nat)}(h:Mq (p::r)):Mq r:=by
 have nd:=h.nd;rw[É,ï] at nd;exact⟨nd.2,λ q hq=>h.pos q (Ì _ hq)⟩
theorem Mq.add {k:α}{c:Nat}(hc:0<c):∀{ps:List (α × Nat)},Mq ps->Mq (ck ps k c)
 | [],_=>⟨by show([k]:List α).Nodup;simp,λ q hq=>by cases List.mem_singleton.mp (show q ∈ [(k,c)] from hq);exact hc⟩
 | p::r,h=>by
  have nd:=h.nd;rw[É,ï] at nd;have pp:=h.pos p (Ï ..);unfold ck;split
  ·exact⟨by rw[É,ï];exact nd,λ q hq=>by
    rcases Ö.mp hq with rfl | hq
    ·show 0<p.2+c;lia
    ·exact h.pos q (Ì _ hq)⟩
  ·rename_i ne
   have t:=(Mq.tail h).add (k:=k) hc;exact⟨by
    rw[É,ï];exact⟨λ z=>by
     rcases pI z with z | z
     ·exact ne z
     ·exact nd.1 z,t.nd⟩,λ q hq=>by
    rcases Ö.mp hq with rfl | hq
    ·exact pp
    ·exact t.pos q hq⟩
theorem wH {k:α}:∀{ps:List (α × Nat)},k ∉ ps.map (·.1)->de ps k=0
 | [],_=>rfl
 | p::r,h=>by
  rw[É,Ö] at h;unfold de;rw[Æ (λ z=>h (.inl z.symm)),wH (λ z=>h (.inr z))]
theorem Ar {k:α}:∀{ps:List (α × Nat)},k ∉ ps.map (·.1)->dS (λ x=>if x=k then 1 else 0) ps=0
 | [],_=>rfl
 | p::r,h=>by
  rw[É,Ö] at h;show p.2*(if p.1=k then 1 else 0)+dS _ r=0
  rw[Æ (λ z=>h (.inl z.symm)),Ar (λ z=>h (.inr z))];rfl
theorem lT {k:α}:∀{ps:List (α × Nat)},(ps.map (·.1)).Nodup->de ps k=dS (λ x=>if x=k then 1 else 0) ps
 | [],_=>rfl
 | p::r,nd=>by
  rw[É,ï] at nd;show(if p.1=k then p.2 else de r k)=p.2*(if p.1=k then 1 else 0)+dS _ r
  by_cases e:p.1=k
  ·rw[Ë e,Ë e,Ar (by rw[<- e];exact nd.1)]
   lia
  ·rw[Æ e,Æ e,lT nd.2]
   lia
theorem iA {q:α × Nat}:∀{ps:List (α × Nat)},(ps.map (·.1)).Nodup->q∈ps->de ps q.1=q.2
 | p::r,nd,h=>by
  rw[É,ï] at nd;unfold de;rcases Ö.mp h with rfl | h
  ·rw[Ë rfl]
  ·rw[Æ (λ z=>nd.1 (by rw[z];exact ë.mpr ⟨q,h,rfl⟩)),iA nd.2 h]
theorem Mq.mem {ps:List (α × Nat)}(h:Mq ps){k:α}:k∈ps.map (·.1) ↔ 0<de ps k:=by
 constructor
 ·intro hk;obtain⟨q,hq,rfl⟩:=ë.mp hk;rw[iA h.nd hq];exact h.pos q hq
 ·intro hk;refine Â λ z=>?_;rw[wH z] at hk;exact absurd hk (Ĩ _)
theorem yd:∀ ps:List (α × Nat),((ps.map λ q=>((q.2:Nat):Int)).sum)=((dS (λ _=>1) ps:Nat):Int)
 | []=>rfl
 | p::r=>by
  show((p.2:Nat):Int)+(r.map λ q=>((q.2:Nat):Int)).sum=((p.2*1+dS (λ _=>1) r:Nat):Int);rw[yd r]
  lia
theorem vA {g:α->Nat}:∀{ps:List (α × Nat)}{q:α × Nat},q∈ps->q.2*g q.1<=dS g ps
 | p::r,q,h=>by
  show q.2*g q.1<=p.2*g p.1+dS g r;rcases Ö.mp h with rfl | h
  ·lia
  ·have:=vA (g:=g) h
   lia
def bY (f:α->κ)(ps:List (α × Nat)):List (κ × V):=ps.map λ p=>(f p.1,V.int (p.2:Nat))
theorem eB {f:α->κ}{ps:List (α × Nat)}:(bY f ps).length=ps.length:=Ç ..
theorem fg {f:α->κ}(inj:∀ a b,f a=f b->a=b)(k:α):∀{ps:List (α × Nat)},(a9 (bY f ps) (f k)=none/\de ps k=0/\k ∉ ps.map (·.1))\/(a9 (bY f ps) (f k)\.int (de ps k:Nat)/\k∈ps.map (·.1))
 | []=>.inl ⟨rfl,rfl,by simp⟩
 | p::r=>by
  by_cases e:p.1=k
  ·refine .inr ⟨?_,by rw[É,e];exact Ï ..⟩
   show a9 ((f p.1,V.int (p.2:Nat))::bY f r) (f k)=_;rw[aV (by rw[e])]
   unfold de;rw[Ë e]
  ·have ne:¬ f p.1=f k:=λ z=>e (inj _ _ z);have e2:a9 (bY f (p::r)) (f k)=a9 (bY f r) (f k):=by
    show a9 ((f p.1,V.int (p.2:Nat))::bY f r) (f k)=_;rw[aK ne]
   unfold de;rw[Æ e,e2,É,Ö];rcases fg inj k (ps:=r) with⟨h1,h2,h3⟩ | ⟨h1,h2⟩
   ·exact .inl ⟨h1,h2,λ z=>by
     rcases z with z | z
     ·exact e z.symm
     ·exact h3 z⟩
   ·exact .inr ⟨h1,.inr h2⟩
theorem P2 {p:κ × V}{r:List (κ × V)}{k:κ}{v:V}(h:¬ p.1=k):aU (p::r) k v=p::aU r k v:=by
 unfold aU;rw[ł,Ò h,QM];split
 ·rw[É,Æ h]
 ·rfl
theorem P3 {p:κ × V}{r:List (κ × V)}{k:κ}{v:V}(h:p.1=k)(n:k ∉ r.map (·.1)):aU (p::r) k v=(p.1,v)::r:=by
 unfold aU;rw[ł,Ê h,Bool.true_or,Ë rfl,É,Ë h]
 congr 1
 refine(ń λ q hq=>?_).trans (List.map_id r);rw[Æ (λ z=>n (ë.mpr ⟨q,hq,z⟩))];rfl
theorem kK {f:α->κ}{ps:List (α × Nat)}:(bY f ps).map (·.1)=ps.map λ q=>f q.1:=by
 unfold bY;rw[ā];rfl
theorem DR {f:α->κ}(inj:∀ a b,f a=f b->a=b){k:α}{ps:List (α × Nat)}(h:k ∉ ps.map (·.1)):f k ∉ (bY f ps).map (·.1):=λ z=>by
 rw[kK] at z;obtain⟨q,hq,e⟩:=ë.mp z;exact h (ë.mpr ⟨q,hq,inj _ _ e⟩)
theorem tO {f:α->κ}(inj:∀ a b,f a=f b->a=b)(k:α)(c:Nat):∀{ps:List (α × Nat)},(ps.map (·.1)).Nodup->aU (bY f ps) (f k) (.int (c:Nat))=bY f (qE ps k c)
 | [],_=>rfl
 | p::r,nd=>by
  rw[É,ï] at nd;show aU ((f p.1,V.int (p.2:Nat))::bY f r) (f k) _=bY f (qE (p::r) k c);by_cases e:p.1=k
  ·rw[P3 (by rw[e]) (DR inj (by rw[<- e];exact nd.1))]
   unfold qE;rw[Ë e];rfl
  ·rw[P2 (λ z=>e (inj _ _ z)),tO inj k c nd.2];show _=bY f (if p.1=k then(p.1,c)::r else p::qE r k c)
   rw[Æ e];rfl
theorem oV {k:α}{c:Nat}:∀{ps:List (α × Nat)},qE ps k (de ps k+c)=ck ps k c
 | []=>by show [(k,0+c)]=[(k,c)];rw[ŋ]
 | p::r=>by
  unfold qE ck de;by_cases e:p.1=k
  ·rw[Ë e,Ë e,Ë e]
  ·rw[Æ e,Æ e,Æ e,oV]
theorem jJ {f:α->κ}(inj:∀ a b,f a=f b->a=b)(k:α)(c:Nat){ps:List (α × Nat)}(nd:(ps.map (·.1)).Nodup):aU (bY f ps) (f k) (.int (de ps k+c:Nat))=bY f (ck ps k c):=by
 rw[tO inj k _ nd,oV]
theorem fV {k:α}{c:Nat}:∀(ps:List (α × Nat)),(ck ps k c).length<=ps.length+1
 | []=>Å _
 | p::r=>by
  unfold ck;split
  ·exact MI _
  ·have:=fV (k:=k) (c:=c) r;rw[à,à]
   lia
end
theorem lQ:∀{xs ys:List Int},xs.Pairwise (· <= ·)->ys.Pairwise (· <= ·)->xs.Nodup->ys.Nodup->(∀ x,x∈xs ↔ x∈ys)->xs=ys
 | [],[],_,_,_,_,_=>rfl
 | [],y::ys,_,_,_,_,h=>by have:=(h y).mpr (Ï ..);cases this
 | x::xs,[],_,_,_,_,h=>by have:=(h x).mp (Ï ..);cases this
 | x::xs,y::ys,p1,p2,n1,n2,h=>by
  rw[List.pairwise_cons] at p1 p2;rw[ï] at n1 n2;have e:x=y:=by
   have h1:x<=y:=by
    rcases Ö.mp ((h y).mpr (Ï ..)) with e | e
    ·lia
    ·exact p1.1 y e
   have h2:y<=x:=by
    rcases Ö.mp ((h x).mp (Ï ..)) with e | e
    ·lia
    ·exact p2.1 x e
   lia
  subst e;rw[lQ p1.2 p2.2 n1.2 n2.2 λ z=>⟨λ hz=>?_,λ hz=>?_⟩]
  ·rcases Ö.mp ((h z).mp (Ì _ hz)) with e | e
   ·subst e;exact absurd hz n1.1
   ·exact e
  ·rcases Ö.mp ((h z).mpr (Ì _ hz)) with e | e
   ·subst e;exact absurd hz n2.1
   ·exact e
theorem Ox {β:Type} [DecidableEq β]:∀{xs ys:List β},xs.Nodup->(∀ x∈xs,x∈ys)->xs.length<=ys.length
 | [],_,_,_=>Ť _
 | x::xs,ys,nd,h=>by
  rw[ï] at nd;have hx:=h x (Ï ..);have l:=List.length_erase_of_mem hx;have:=Ox (xs:=xs) (ys:=ys.erase x) nd.2 λ z hz=>(List.mem_erase_of_ne (λ e=>by subst e;exact nd.1 hz)).mpr (h z (Ì _ hz))
  have p:0<ys.length:=List.length_pos_of_mem hx;rw[à]
  lia
structure gZ (t:Rl)(sc:List Int)(vs:List (Int × Nat))(D:Nat):Prop where
 D0:0<D
 ok:Mq vs
 g:∀ g:Int->Nat,dS g vs=((dw t sc sc.length).map λ r=>r.part D*g r.s).sum
 dv:∀ r∈dw t sc sc.length,r.b ∣ D
 dd:D ∣ DD t sc.length
 one:dS (λ _=>1) vs=D
def cO (ps:Tw):List (Int × Nat):=ps.foldl (λ a p=>ck a p.1.2 p.2) []
theorem gE (ps:Tw)(p:TK × Nat):cO (ps ++ [p])=ck (cO ps) p.1.2 p.2:=by
 unfold cO;rw[ľ];rfl
theorem cW {ps:Tw}(h:∀ p∈ps,0<p.2):Mq (cO ps)/\(∀ g:Int->Nat,dS g (cO ps)=tS (λ q=>g q.2) ps)/\(cO ps).length<=ps.length:=by
 have all:∀ n,n<=ps.length->Mq (cO (ps.take n))/\(∀ g:Int->Nat,dS g (cO (ps.take n))=tS (λ q=>g q.2) (ps.take n))/\(cO (ps.take n)).length<=n:=λ n=>by
  induction n with
  | zero=>exact λ _=>⟨nX,λ g=>rfl,Å _⟩
  | succ n ih =>
   intro hn;obtain⟨a,b,c⟩:=ih ad;have e:=aC (Ã (show n<ps.length by lia))
   rw[e,gE];refine⟨a.add (h _ (Ň _)),λ g=>?_,È (fV _) ad⟩;rw[nU,b g];show(((ps.take n).map _).sum+_:Nat)=((ps.take n ++ [ps[n]]).map _).sum;rw[Ø,ē];simp
 have:=all ps.length (Å _)
 rwa[ä] at this
theorem wp {t:Rl}{sc:List Int}{D:Nat}{ps:Tw}(L:Lay t sc sc.length D ps):gZ t sc (cO ps) D:=by
 obtain⟨a,b,c⟩:=cW L.pos;exact⟨L.D0,a,λ g=>by rw[b g];exact L.g λ q=>g q.2,L.dv,L.dd,by rw[b];exact L.one⟩
theorem Am {t:Rl}{sc:List Int}{D k:Nat}(ok:t.ok)(hk:(k:Int)<=t.ö)(dv:∀ r∈dw t sc k,r.b ∣ D){r:Bg}(hr:r∈dw t sc k):r.part D*DD t k=r.part (DD t k)*D:=by
 have o:=f9 ok hk r hr;unfold Bg.part;obtain⟨m,hm⟩:=dv r hr;obtain⟨n,hn⟩:=o.dv;rw[hn,hm,ú _ o.b1,ú _ o.b1]
 ac_rfl
theorem pi {t:Rl}{sc:List Int}{D k:Nat}(ok:t.ok)(hk:(k:Int)<=t.ö)(dv:∀ r∈dw t sc k,r.b ∣ D)(g:Int->Nat):((dw t sc k).map λ r=>r.part D*g r.s).sum*DD t k=((dw t sc k).map λ r=>r.part (DD t k)*g r.s).sum*D:=by
 have all:∀ l:List Bg,(∀ r∈l,r∈dw t sc k)->(l.map λ r=>r.part D*g r.s).sum*DD t k=(l.map λ r=>r.part (DD t k)*g r.s).sum*D:=λ l=>by
  induction l with
  | nil=>intro _;simp
  | cons r l ih =>
   intro h;simp only[List.map_cons,List.sum_cons,Nat.add_mul];rw[ih λ q hq=>h q (Ì _ hq),ķ,Am ok hk dv (h r (Ï ..)),ķ]
 exact all _ λ _ h=>h
end My
namespace My
def cP:Nat->Nat->Nat
 | _,0=>1
 | 0,_+1=>0
 | n+1,k+1=>cP n k+cP n (k+1)
theorem fP (n:Nat):cP n 0=1:=by cases n <;> rfl
theorem oO:∀(m s:Nat),cP (m+1) (s+1)*(s+1)=cP m s*(m+1)
 | 0,0=>rfl
 | 0,s+1=>by simp[cP]
 | m+1,0=>by
  have h:cP (m+1) 1*1=cP m 0*(m+1):=oO m 0;show(cP (m+1) 0+cP (m+1) 1)*1=cP (m+1) 0*(m+2);rw[fP] at h ⊢
  lia
 | m+1,s+1=>by
  have h1:=oO m (s+1);have h2:=oO m s;have e:cP (m+1) (s+1)=cP m s+cP m (s+1):=rfl;show(cP (m+1) (s+1)+cP (m+1) (s+2))*(s+2)=cP (m+1) (s+1)*(m+2);have a:cP (m+1) (s+1)*(s+2)=cP (m+1) (s+1)*(s+1)+cP (m+1) (s+1):=by rw[<- Nat.mul_succ]
  have b:cP (m+1) (s+1)*(m+2)=cP (m+1) (s+1)*(m+1)+cP (m+1) (s+1):=by rw[<- Nat.mul_succ]
  have c:cP (m+1) (s+1)*(m+1)=cP m s*(m+1)+cP m (s+1)*(m+1):=by rw[e,Ŧ]
  rw[Ŧ,a,b,c,h2,h1]
  lia
theorem Fj:∀(m s:Nat),s<=m+1->cP (m+1) s*(m+1-s)=cP m s*(m+1)
 | m,0,_=>by rw[fP,fP,Nat.sub_zero]
 | m,s+1,h=>by
  have b:=oO m s;have e:cP (m+1) (s+1)=cP m s+cP m (s+1):=rfl;have a:cP (m+1) (s+1)*(m+1)=cP m s*(m+1)+cP m (s+1)*(m+1):=by rw[e,Ŧ]
  rw[Nat.mul_sub,a,b];omega
theorem iq:∀(n k:Nat),k<=n->0<cP n k
 | _,0,_=>by rw[fP];decide
 | n+1,k+1,h=>by
  have:=iq n k ad;show 0<cP n k+cP n (k+1)
  lia
theorem rC:∀(n k:Nat),cP n k<=2^n
 | n,0=>by rw[fP];exact Nat.one_le_two_pow
 | 0,k+1=>Ť _
 | n+1,k+1=>by
  have h1:=rC n k;have h2:=rC n (k+1);show cP n k+cP n (k+1)<=2^(n+1);rw[ı]
  lia
end My
namespace My
open PySem PySem.W L2
def sK (sc:List Int):Nat->Int
 | 0=>0
 | k+1=>sK sc k+sc.getD k 0
structure In (B:Int)(sc:List Int)(k h:Nat)(s:Int):Prop where
 hk:h<=k
 a:-(B*(h:Nat))<=s/\s<=B*(h:Nat)
 b:-(B*((k:Nat)-(h:Nat)))<=sK sc k-s/\sK sc k-s<=B*((k:Nat)-(h:Nat))
theorem In.next {B:Int}{sc:List Int}{k h:Nat}{s a:Int}(I:In B sc k h s)(c1:-B<=sc.getD k 0)(c2:sc.getD k 0<=B)(ha:a=0\/a=1):In B sc (k+1) (h+a.toNat) (s+a*sc.getD k 0):=by
 obtain⟨i1,i2,i3⟩:=I;have e:sK sc (k+1)=sK sc k+sc.getD k 0:=rfl;generalize sc.getD k 0=c at *;simp only[Int.mul_sub] at i3;rcases ha with rfl | rfl <;> refine⟨by simp;lia,?_,?_⟩ <;> simp only[e,Int.mul_sub,Int.natCast_add,Int.mul_add,Int.toNat_zero,Int.toNat_one,Int.zero_mul,Int.one_mul,Nat.add_zero,Int.natCast_one,Int.mul_one] <;> lia
theorem iG {t:Rl}{sc:List Int}{k:Nat}{r:Bg}(h:r∈dw t sc (k+1)):∃ q∈dw t sc k,∃ s∈t.steps q.st (k:Nat),r=q.more k (sc.getD k 0) s:=by
 unfold dw at h;obtain⟨q,hq,h⟩:=ŭ.mp h;obtain⟨s,hs,rfl⟩:=ë.mp h;exact⟨q,hq,s,hs,rfl⟩
theorem fR {q:R0}(ok:q.ok){sc:List Int}:∀{k:Nat},(k:Int)<=q.ö->∀ r∈dw (.one q) sc k,q.J_ (k:Nat) r.st
 | 0,_,r,hr=>by
  rw[Í.mp (show r ∈ [_] from hr)];exact R0.Pj ok
 | k+1,h,r,hr=>by
  obtain⟨p,hp,s,hs,rfl⟩:=iG hr;have:=((R0.Œ ok (x:=(k:Nat)) ad ad (fR ok ad p hp)).1 s hs).2
  rwa[Int.natCast_succ]
theorem tM {q:R0}(ok:q.ok){sc:List Int}{B:Int}(sb:∀ k:Nat,(k:Int)<q.ö->-B<=sc.getD k 0/\sc.getD k 0<=B){f:Nat->Nat->PyData}(b0:q.begin=f 0 0)(st:∀ k h:Nat,(k:Int)<q.ö->∀ s∈q.steps (f k h) (k:Nat),s.next=f (k+1) (h+s.hand.toNat)):∀{k:Nat},(k:Int)<=q.ö->∀ r∈dw (.one q) sc k,∃ h,In B sc k h r.s/\r.st=f k h
 | 0,_,r,hr=>by
  rw[Í.mp (show r ∈ [_] from hr)];exact⟨0,⟨Å _,by simp,by simp[sK]⟩,b0⟩
 | k+1,h,r,hr=>by
  obtain⟨p,hp,s,hs,rfl⟩:=iG hr;obtain⟨j,i,e⟩:=tM ok sb b0 st ad p hp;have g:=((R0.Œ ok (x:=(k:Nat)) ad ad (fR ok ad p hp)).1 s hs).1;have c:=sb k ad;refine⟨_,i.next c.1 c.2 g.h,?_⟩;have hs:s∈q.steps p.st (k:Nat):=hs;rw[e] at hs;exact st k j ad s hs
theorem mO {t:Rl}{sc:List Int}(L:Nat->List TK)(h:∀ k,k<=sc.length->(L k).length<=5000/\∀ r∈dw t sc k,r.key∈L k):su t sc:=λ k hk ks nd m=>by
 have:=Ox (ys:=L k) nd λ q hq=>by
  obtain⟨r,hr,rfl⟩:=m q hq;exact(h k hk).2 r hr
 exact È this (h k hk).1
def Ii (B m:Nat)(sc:List Int)(f:Nat->Nat->PyData)(k:Nat):List TK:=(List.range (k+1)).flatMap λ h=>if min h (k-h)<=m then(List.range (2*(B*min h (k-h))+1)).map λ i=>(dh (f k h),(if h<=k-h then -((B*h:Nat):Int) else sK sc k-(B*(k-h):Nat))+(i:Nat)) else []
theorem Ak {B m:Nat}{sc:List Int}{f:Nat->Nat->PyData}{k:Nat}:(Ii B m sc f k).length=((List.range (k+1)).map λ h=>if min h (k-h)<=m then 2*(B*min h (k-h))+1 else 0).sum:=by
 unfold Ii;rw[List.length_flatMap]
 congr 1
 refine ń λ h _=>?_;split
 ·rw[Ç,List.length_range]
 ·rfl
theorem z8 {B m:Nat}{sc:List Int}{f:Nat->Nat->PyData}{k h:Nat}{s:Int}(i:In B sc k h s)(hm:min h (k-h)<=m):(dh (f k h),s)∈Ii B m sc f k:=by
 obtain⟨i1,i2,i3⟩:=i;refine ŭ.mpr ⟨h,Ε.mpr ad,?_⟩;rw[Ë hm];have e:((k:Nat):Int)-(h:Nat)=(k-h:Nat):=ad;rw[e] at i3;simp only[<- Int.natCast_mul] at i2 i3;by_cases c:h<=k-h
 ·have em:min h (k-h)=h:=ad;refine ë.mpr ⟨(s+(B*h:Nat)).toNat,Ε.mpr (by rw[em];lia),?_⟩
  rw[Ë c]
  congr 1
  lia
 ·have em:min h (k-h)=k-h:=ad;refine ë.mpr ⟨(s-(sK sc k-(B*(k-h):Nat))).toNat,Ε.mpr (by rw[em];lia),?_⟩
  rw[Æ c]
  congr 1
  lia
theorem C3:∀ k,k<=20->((List.range (k+1)).map λ h=>if min h (k-h)<=10 then 2*(19*min h (k-h))+1 else 0).sum<=5000/\((List.range (k+1)).map λ h=>if min h (k-h)<=2 then 2*(99*min h (k-h))+1 else 0).sum<=5000:=by
 intro k h;have:∀ k:Fin 21,((List.range (k.val+1)).map λ h=>if min h (k.val-h)<=10 then 2*(19*min h (k.val-h))+1 else 0).sum<=5000/\((List.range (k.val+1)).map λ h=>if min h (k.val-h)<=2 then 2*(99*min h (k.val-h))+1 else 0).sum<=5000:=aF
 exact this ⟨k,ad⟩
def Le (B:Int)(sc:List Int):Prop:=∀ x∈sc,-B<=x/\x<=B
theorem Le.at_ {B:Int}{sc:List Int}(h:Le B sc)(k:Nat)(hk:k<sc.length):-B<=sc.getD k 0/\sc.getD k 0<=B:=by
 rw[ą,Ã hk];exact h _ (Ň hk)
theorem qQ {q:R0}(ok:q.ok){sc:List Int}{B m:Nat}(fk:(sc.length:Int)=q.ö)(sb:Le B sc){f:Nat->Nat->PyData}(b0:q.begin=f 0 0)(st:∀ k h:Nat,(k:Int)<q.ö->∀ s∈q.steps (f k h) (k:Nat),s.next=f (k+1) (h+s.hand.toNat))
  (hm:∀ k h:Nat,(k:Int)<=q.ö->h<=k->q.J_ (k:Nat) (f k h)->min h (k-h)<=m) (bm:B=19/\m=10\/B=99/\m=2):su (.one q) sc:=by
 have NS:=(R0.Ķ ok).2;refine mO (Ii B m sc f) λ k hk=>⟨?_,λ r hr=>?_⟩
 ·have u:=C3 k ad;rw[Ak];rcases bm with⟨rfl,rfl⟩ | ⟨rfl,rfl⟩
  ·exact u.1
  ·exact u.2
 ·obtain⟨h,i,e⟩:=tM ok (λ k hk=>sb.at_ k ad) b0 st ad r hr;have v:=fR ok ad r hr;rw[e] at v;show(dh r.st,r.s)∈_;rw[e];exact z8 i (hm k h ad i.hk v)
theorem uk {n K:Nat}(ok:(R0.split n K).ok){sc:List Int}(ln:sc.length=n)(h:Le 19 sc\/Le 99 sc/\min K (n-K)<3):su (.one (.split n K)) sc:=by
 have st:∀ k h:Nat,(k:Int)<(R0.split n K).ö->∀ s∈(R0.split n K).steps (.int ((K:Int)-h)) (k:Nat),s.next=.int ((K:Int)-(h+s.hand.toNat:Nat)):=λ k h _ s hs=>by
  simp only[R0.steps,List.mem_append] at hs;rcases hs with hs | hs <;> split at hs <;> first | cases hs;done | (cases Í.mp hs;simp;try lia)
 obtain⟨o1,o2,o3,o4⟩:=id ok;have fk:(sc.length:Int)=(R0.split n K).ö:=by rw[ln];rfl
 rcases h with h | ⟨h,c⟩
 ·refine qQ (B:=19) (m:=10) (f:=λ _ h=>.int ((K:Int)-(h:Nat))) ok fk h (by simp[R0.begin]) st (λ k h hk hh _=>?_) (.inl ⟨rfl,rfl⟩)
  have hk:(k:Int)<=n:=hk
  lia
 ·refine qQ (B:=99) (m:=2) (f:=λ _ h=>.int ((K:Int)-(h:Nat))) ok fk h (by simp[R0.begin]) st (λ k h hk hh ⟨s,e,s0,s1⟩=>?_) (.inr ⟨rfl,rfl⟩)
  have hk:(k:Int)<=n:=hk;have e:=PyData.int.inj e
  lia
theorem uj {n a b f:Int}(ok:(R0.û n a b f).ok){sc:List Int}(ln:(sc.length:Int)=n)(h:Le 19 sc):su (.one (.û n a b f)) sc:=by
 obtain⟨o1,o2,o3,o4,o5⟩:=id ok;refine qQ (B:=19) (m:=10) (f:=λ k h=>.int (2*(h:Nat)-(k:Nat))) ok ln h (by simp[R0.begin]) (λ k h _ s hs=>?_) (λ k h hk hh _=>?_) (.inl ⟨rfl,rfl⟩)
 ·simp only[R0.steps] at hs
  (repeat' split at hs) <;> simp only[List.mem_cons,List.not_mem_nil,or_false] at hs <;> rcases hs with rfl | rfl <;> simp <;> lia
 ·have hk:(k:Int)<=n:=hk
  lia
theorem oM {q:R0}(ok:q.ok){sc:List Int}{B:Int}(sb:∀ k:Nat,(k:Int)<q.ö->-B<=sc.getD k 0/\sc.getD k 0<=B):∀{k:Nat},(k:Int)<=q.ö->∀ r∈dw (.one q) sc k,-(B*(k:Nat))<=r.s/\r.s<=B*(k:Nat)
 | 0,_,r,hr=>by
  rw[Í.mp (show r ∈ [_] from hr)];simp
 | k+1,h,r,hr=>by
  obtain⟨p,hp,s,hs,rfl⟩:=iG hr;have i:=oM ok sb ad p hp;have g:=((R0.Œ ok (x:=(k:Nat)) ad ad (fR ok ad p hp)).1 s hs).1;have c:=sb k ad;show _<=p.s+s.hand*_/\p.s+s.hand*_<=_;simp only[Int.natCast_add,Int.mul_add,Int.natCast_one,Int.mul_one];generalize sc.getD k 0=x at *;rcases g.h with e | e <;> rw[e] <;> lia
theorem uo {n a b:Int}(ok:(R0.pairs n a b).ok){sc:List Int}(ln:(sc.length:Int)=2*n)(h:Le 19 sc):su (.one (.pairs n a b)) sc:=by
 obtain⟨o1,o2,o3⟩:=id ok;refine mO (λ _=>[PyData.none,.int 0,.int 1].flatMap λ d=>(List.range 761).map λ (i:Nat)=>(dh d,(i:Int)-380)) λ k hk=>⟨?_,λ r hr=>?_⟩
 ·rw[List.length_flatMap];simp only[List.length_map,List.length_range,List.map_cons,List.map_nil,List.sum_cons,List.sum_nil]
  decide
 ·have hk:(k:Int)<=(R0.pairs n a b).ö:=by show(k:Int)<=2*n;lia
  have v:=fR ok hk r hr;have s:=oM ok (B:=19) (λ k hk=>h.at_ k (by have hk:(k:Int)<2*n:=hk;lia)) hk r hr
  have V7:k<=20:=ad;refine ŭ.mpr ⟨r.st,?_,ë.mpr ⟨(r.s+380).toNat,Ε.mpr ad,?_⟩⟩
  ·rcases v with⟨_,e⟩ | ⟨_,e | e⟩ <;> rw[e] <;> simp
  ·show(dh r.st,_)=(dh r.st,r.s)
   congr 1
   lia
abbrev rS (l:List Bg)(D:Nat)(g:Int->Nat):Nat:=(l.map λ r=>r.part D*g r.s).sum
structure Mt (t:Rl)(sc:List Int)(cs:List (Int × Nat))(W:Nat):Prop where
 W0:0<W
 ok:Mq cs
 one:dS (λ _=>1) cs=W
 g:∀ g:Int->Nat,dS g cs*DD t sc.length=rS (dw t sc sc.length) (DD t sc.length) g*W
theorem AU {t:Rl}{sc:List Int}{cs:List (Int × Nat)}{D:Nat}(S:gZ t sc cs D)(ok:t.ok)(hk:(sc.length:Int)<=t.ö):Mt t sc cs D :=
 ⟨S.D0,S.ok,S.one,λ g=>by rw[S.g];exact pi ok hk S.dv g⟩
section
variable {t:Rl}{sc:List Int}{vs cs:List (Int × Nat)}{D W:Nat}
theorem Mt.ratio (c:Mt t sc cs W)(S:gZ t sc vs D)(ok:t.ok)(hk:(sc.length:Int)<=t.ö)(g:Int->Nat):dS g vs*W=dS g cs*D:=by
 have e1:dS g vs*DD t sc.length=rS (dw t sc sc.length) (DD t sc.length) g*D:=by rw[S.g];exact pi ok hk S.dv g
 have e2:=c.g g;refine b_ (iw ok sc hk).1 ?_;rw[ķ,e1,ķ (dS g cs),e2];exact ķ _ _ _
theorem Mt.low (c:Mt t sc cs W)(S:gZ t sc vs D)(ok:t.ok)(hk:(sc.length:Int)<=t.ö)(g:Int->Nat):aM (dS g vs) D=aM (dS g cs) W/\ar (dS g vs) D=ar (dS g cs) W:=lS S.D0 c.W0 (c.ratio S ok hk g)
theorem Mt.Uq (c:Mt t sc cs W)(S:gZ t sc vs D)(ok:t.ok)(hk:(sc.length:Int)<=t.ö)(v:Int):aM (de vs v) D=aM (de cs v) W/\ar (de vs v) D=ar (de cs v) W:=by
 rw[lT S.ok.nd,lT c.ok.nd];exact c.low S ok hk _
theorem Mt.keys (c:Mt t sc cs W)(S:gZ t sc vs D)(ok:t.ok)(hk:(sc.length:Int)<=t.ö)(v:Int):v∈vs.map (·.1) ↔ v∈cs.map (·.1):=by
 rw[S.ok.mem,c.ok.mem,lT S.ok.nd,lT c.ok.nd];have e:=c.ratio S ok hk λ x=>if x=v then 1 else 0
 have:=c.W0;have:=S.D0;generalize dS (λ x=>if x=v then 1 else 0) vs=x at *
 generalize dS (λ x=>if x=v then 1 else 0) cs=y at *
 constructor <;> intro h <;> refine Nat.pos_of_ne_zero λ z=>?_ <;> rw[z,Nat.zero_mul] at e
 ·exact absurd (Ħ h c.W0) ad
 ·exact absurd (Ħ h S.D0) ad
end
theorem xD {t:Rl}{b:Nat}(h:∀ x:Nat,t.dd (x:Nat)=b):∀ k,DD t k=b^k
 | 0=>rfl
 | k+1=>by
  show DD t k*t.dd (k:Nat)=b^(k+1);rw[xD h k,h,ı]
def rL (t:Rl)(sc:List Int)(b:Nat):Nat->Tw
 | 0=>[((dh t.begin,0),1)]
 | k+1=>tu t k (sc.getD k 0) b (rL t sc b k)
theorem tT {t:Rl}{b:Nat}(ok:t.ok)(hb:∀ x:Nat,t.dd (x:Nat)=b)(b1:1<=b)(sc:List Int):∀{k:Nat},(k:Int)<=t.ö->Lay t sc k (b^k) (rL t sc b k)
 | 0,_=>Lay.zero t sc
 | k+1,h=>by
  have L:=tT ok hb b1 sc (k:=k) ad;rw[ı];refine L.next ok ad b1 (by rw[hb];exact ς _) λ p hp s hs=>?_
  rw[<- hb k];exact(dC ok ad ((L.st ok ad hp).2.2 ad) s hs).2.2.2
def uU (sc:List Int)(a b:Nat):Nat->List (Int × Nat)
 | 0=>[(0,1)]
 | j+1=>(uU sc a b j).foldl (λ acc p=>ck (ck acc (p.1+sc.getD (2*j) 0) (p.2*a)) (p.1+sc.getD (2*j+1) 0) (p.2*(b-a))) []
abbrev xV (c0 c1:Int)(a b:Nat)(ps acc:List (Int × Nat)):List (Int × Nat):=ps.foldl (λ acc p=>ck (ck acc (p.1+c0) (p.2*a)) (p.1+c1) (p.2*b)) acc
theorem qO {c0 c1:Int}{a b:Nat}(a0:0<a)(b0:0<b):∀(ps:List (Int × Nat)){acc:List (Int × Nat)},(∀ p∈ps,0<p.2)->Mq acc->Mq (xV c0 c1 a b ps acc)
 | [],_,_,h=>h
 | p::ps,_,hp,h=>qO a0 b0 ps (λ q hq=>hp q (Ì _ hq)) ((h.add (Ħ (hp p (Ï ..)) a0)).add (Ħ (hp p (Ï ..)) b0))
theorem vS (g:Int->Nat){c0 c1:Int}{a b:Nat}:∀(ps acc:List (Int × Nat)),dS g (xV c0 c1 a b ps acc)=dS g acc+dS (λ v=>a*g (v+c0)+b*g (v+c1)) ps
 | [],acc=>rfl
 | p::ps,acc=>by
  show dS g (xV c0 c1 a b ps _)=_+(_+dS _ ps);rw[vS g ps,nU,nU,Nat.mul_add,<- Ł,<- Ł]
  lia
theorem n4 {c0 c1:Int}{a b:Nat}:∀(ps acc:List (Int × Nat)),(xV c0 c1 a b ps acc).length<=acc.length+2*ps.length
 | [],acc=>Å _
 | p::ps,acc=>by
  have h:=n4 (c0:=c0) (c1:=c1) (a:=a) (b:=b) ps (ck (ck acc (p.1+c0) (p.2*a)) (p.1+c1) (p.2*b));have h1:=fV (k:=p.1+c1) (c:=p.2*b) (ck acc (p.1+c0) (p.2*a));have h2:=fV (k:=p.1+c0) (c:=p.2*a) acc;rw[à];exact È h ad
structure Kv (t:Rl)(sc:List Int)(b j:Nat)(ps:List (Int × Nat)):Prop where
 ok:Mq ps
 dv:∀ r∈dw t sc (2*j),r.b ∣ b^j
 g:∀ g,dS g ps=rS (dw t sc (2*j)) (b^j) g
 one:dS (λ _=>1) ps=b^j
 len:ps.length<=4^j
theorem nB {n a b:Nat}(ok:(R0.pairs n a b).ok)(sc:List Int)(a1:1<=a)(ab:a<b):∀{j:Nat},j<=n->Kv (.one (.pairs n a b)) sc b j (uU sc a b j)
 | 0,_=>⟨⟨by simp[uU],by simp[uU]⟩,λ r hr=>by rw[List.mem_singleton.mp (show r ∈ [_] from hr)];exact ς _,λ g=>by simp[uU,dS,rS,dw,Bg.part],rfl,by simp[uU]⟩
 | j+1,h=>by
  have I:=nB ok sc a1 ab (j:=j) ad;have none:∀ r∈dw (.one (.pairs n a b)) sc (2*j),r.st=.none:=λ r hr=>by
   rcases fR ok (show((2*j:Nat):Int)<=2*(n:Int) by lia) r hr with⟨_,e⟩ | ⟨p,_⟩
   ·exact e
   ·lia
  have rows:∀ l:List Bg,(∀ r∈l,r.st=.none)->(l.flatMap λ r=>((Rl.one (.pairs n a b)).steps r.st (2*j:Nat)).map λ s=>r.more (2*j) (sc.getD (2*j) 0) s).flatMap (λ r=>((Rl.one (.pairs n a b)).steps r.st (2*j+1:Nat)).map λ s=>r.more (2*j+1) (sc.getD (2*j+1) 0) s)=l.flatMap λ r=>[⟨r.d+0+2^(2*j+1),.none,r.s+0*sc.getD (2*j) 0+1*sc.getD (2*j+1) 0,r.t*(b-a)*1,r.b*b*1⟩,⟨r.d+2^(2*j)+0,.none,r.s+1*sc.getD (2*j) 0+0*sc.getD (2*j+1) 0,r.t*a*1,r.b*b*1⟩]:=λ l hl=>by
   rw[List.flatMap_assoc];rw[List.flatMap_def,List.flatMap_def];refine ý List.flatten (ń λ r hr=>?_);rw[hl r hr];show [_,_]=_;have e:((b:Int)-(a:Int)).toNat=b-a:=ad;simp only[Bg.more,e,Int.toNat_natCast];rfl
  have R:dw (.one (.pairs n a b)) sc (2*(j+1))=_:=rows _ none;refine⟨qO a1 ad _ I.ok.pos nX,λ r hr=>?_,λ g=>?_,?_,?_⟩
  ·rw[R] at hr;obtain⟨q,hq,hr⟩:=ŭ.mp hr;have:r.b=q.b*b*1:=by
    simp only[List.mem_cons,List.not_mem_nil,or_false] at hr;rcases hr with rfl | rfl <;> rfl
   rw[this,ť,ı];exact Pe (I.dv q hq) (ς _)
  ·show dS g (xV _ _ a (b-a) _ [])=_;rw[vS,I.g,R];show 0+_=_;rw[ŋ];have all:∀ l:List Bg,(∀ r∈l,r.b ∣ b^j/\0<r.b)->rS l (b^j) (λ v=>a*g (v+sc.getD (2*j) 0)+(b-a)*g (v+sc.getD (2*j+1) 0))=rS (l.flatMap λ r=>[⟨r.d+0+2^(2*j+1),.none,r.s+0*sc.getD (2*j) 0+1*sc.getD (2*j+1) 0,r.t*(b-a)*1,r.b*b*1⟩,⟨r.d+2^(2*j)+0,.none,r.s+1*sc.getD (2*j) 0+0*sc.getD (2*j+1) 0,r.t*a*1,r.b*b*1⟩]) (b^(j+1)) g:=λ l=>by
    induction l with
    | nil=>exact λ _=>rfl
    | cons r l ih =>
     intro hl;have ih:=ih λ q hq=>hl q (Ì _ hq);obtain⟨d,r0⟩:=hl r (Ï ..);rw[Oc];unfold rS at ih ⊢;rw[Ø,ē,<- ih];simp only[List.map_cons,List.sum_cons,List.map_nil,List.sum_nil,Bg.part,Nat.mul_one,Nat.pow_succ,oK d (Nat.dvd_refl b) r0 (show 0<b by lia),Nat.div_self (show 0<b by lia),Int.zero_mul,Int.one_mul,Int.add_zero,Nat.mul_add]
     have e1:r.t*(b^j/r.b)*(a*g (r.s+sc.getD (2*j) 0))=r.t*a*(b^j/r.b)*g (r.s+sc.getD (2*j) 0):=by ac_rfl
     have e2:r.t*(b^j/r.b)*((b-a)*g (r.s+sc.getD (2*j+1) 0))=r.t*(b-a)*(b^j/r.b)*g (r.s+sc.getD (2*j+1) 0):=by ac_rfl
     lia
   exact all _ λ r hr=>⟨I.dv r hr,(f9 (t:=.one (.pairs n a b)) ok (show((2*j:Nat):Int)<=2*(n:Int) by lia) r hr).b1⟩
  ·show dS _ (xV _ _ a (b-a) _ [])=_;rw[vS];have e:∀ l:List (Int × Nat),dS (λ _=>a*1+(b-a)*1) l=dS (λ _=>1) l*b:=λ l=>by
    induction l with
    | nil=>show 0=0*b;simp
    | cons p l ih =>
     show p.2*(a*1+(b-a)*1)+_=(p.2*1+_)*b;rw[ih,Ŧ,show a*1+(b-a)*1=b by lia,ť]
   rw[e,I.one,ı];exact ŋ _
  ·have:=I.len;have l:=n4 (c0:=sc.getD (2*j) 0) (c1:=sc.getD (2*j+1) 0) (a:=a) (b:=b-a) (uU sc a b j) [];rw[ı];exact È l (by show 0+_<=_;lia)
theorem yy {n a b:Nat}(ok:(R0.pairs n a b).ok){sc:List Int}(a1:1<=a)(ab:a<b)(ln:sc.length=2*n):gZ (.one (.pairs n a b)) sc (uU sc a b n) (b^n):=by
 have I:=nB ok sc a1 ab (Å n);refine⟨Nat.pow_pos ad,I.ok,by rw[ln];exact I.g,by rw[ln];exact I.dv,?_,I.one⟩
 rw[xD (t:=.one (.pairs n a b)) (b:=b) (λ _=>Ü _),ln];exact Nat.pow_dvd_pow _ ad
def uP (n K k:Nat)(c:Int):List Š:=(if(k:Int)-c<(n:Int)-K then [⟨0,1,1,.int c⟩] else [])++if c<(K:Int) then [⟨1,1,1,.int (c+1)⟩] else []
def oX:NK->Int
 | .k (.inl c)=>c
 | _=>0
def eu (n K k:Nat)(c:Int)(ps acc:Tw):Tw:=ps.foldl (λ acc p=>fO (uP n K k (oX p.1.1)) 1 p.2 p.1.2 c acc) acc
def k9 (sc:List Int)(K:Nat):Nat->Tw
 | 0=>[((.k (.inl 0),0),1)]
 | k+1=>eu sc.length K k (sc.getD k 0) (k9 sc K k) []
section
variable {n K k:Nat}{c:Int}
theorem zf (h:Int):(uP n K k h).length<=2:=by
 unfold uP;rw[Õ]
 (repeat' split) <;> simp
theorem yK (h:Int):∀ s∈uP n K k h,0<s.part 1:=λ s hs=>by
 unfold uP at hs;rcases é.mp hs with hs | hs <;> split at hs <;> first | cases hs;done | (cases Í.mp hs;show 0<1*(1/1);decide)
theorem ko:∀(ps:Tw){acc:Tw},(acc.map (·.1)).Nodup->((eu n K k c ps acc).map (·.1)).Nodup
 | [],_,h=>h
 | p::ps,_,h=>ko ps (jN _ h)
theorem ji:∀(ps acc:Tw),(eu n K k c ps acc).length<=acc.length+2*ps.length
 | [],acc=>Å _
 | p::ps,acc=>by
  have h1:=ji ps (fO (uP n K k (oX p.1.1)) 1 p.2 p.1.2 c acc);have h2:=iF (F:=1) (n:=p.2) (s0:=p.1.2) (c:=c) (uP n K k (oX p.1.1)) acc;have h3:=zf (n:=n) (K:=K) (k:=k) (oX p.1.1);rw[à];exact È h1 ad
theorem my:∀(ps:Tw){acc:Tw},(∀ p∈ps,0<p.2)->(∀ p∈acc,0<p.2)->∀ p∈eu n K k c ps acc,0<p.2
 | [],_,_,h=>h
 | p::ps,_,hp,h=>my ps (λ q hq=>hp q (Ì _ hq)) (kH _ (hp p (Ï ..)) (yK _) h)
theorem sQ (g:TK->Nat):∀(ps acc:Tw),tS g (eu n K k c ps acc)=tS g acc+tS (λ q=>((uP n K k (oX q.1)).map λ s=>s.part 1*g (dh s.next,q.2+s.hand*c)).sum) ps
 | [],acc=>by simp[eu,tS]
 | p::ps,acc=>by
  show tS g (eu n K k c ps _)=_;rw[sQ g ps,rm];simp only[tS,List.map_cons,List.sum_cons]
  lia
end
def pB (K:Nat)(r:Bg):TK:=(match r.st with | .int s=>.k (.inl ((K:Int)-s)) | _=>.k .Ę,r.s)
structure SB (sc:List Int)(K k:Nat)(ps:Tw):Prop where
 nd:(ps.map (·.1)).Nodup
 pos:∀ p∈ps,0<p.2
 len:ps.length<=2^k
 g:∀ g:TK->Nat,tS g ps=((dw (.one (.split sc.length K)) sc k).map λ r=>g (pB K r)).sum
theorem j9 {sc:List Int}{K:Nat}(ok:(R0.split sc.length K).ok):∀{k:Nat},k<=sc.length->SB sc K k (k9 sc K k)
 | 0,_=>⟨by simp[k9],by simp[k9],by simp[k9],λ g=>by simp[k9,tS,dw,pB,Rl.begin,R0.begin]⟩
 | k+1,h=>by
  have I:=j9 ok (k:=k) ad;refine⟨ko _ (by simp),my _ I.pos (by simp),?_,λ g=>?_⟩
  ·have l:=ji (n:=sc.length) (K:=K) (k:=k) (c:=sc.getD k 0) (k9 sc K k) [];have:=I.len;rw[ı];exact È l (by show 0+_<=_;lia)
  ·show tS g (eu _ _ _ _ _ [])=_;rw[sQ,I.g];show 0+_=(((dw (.one (.split sc.length K)) sc k).flatMap λ r=>((Rl.one (.split sc.length K)).steps r.st (k:Nat)).map λ s=>r.more k (sc.getD k 0) s).map λ r=>g (pB K r)).sum;rw[ŋ];have v:∀ r∈dw (.one (.split sc.length K)) sc k,∃ s:Int,r.st=.int s:=λ r hr=>by
    obtain⟨s,e,_⟩:=fR ok (show(k:Int)<=(sc.length:Int) by lia) r hr
    exact⟨s,e⟩
   generalize dw (.one (.split sc.length K)) sc k=l at v
   induction l with
   | nil=>rfl
   | cons r l ih =>
    have ih:=ih λ q hq=>v q (Ì _ hq);obtain⟨s,e⟩:=v r (Ï ..);rw[Oc,Ø,ē,É,ĝ,ih]
    congr 1
    rw[ā,e];have e1:(pB K r).1=.k (.inl ((K:Int)-s)):=by unfold pB;rw[e]
    have e2:(pB K r).2=r.s:=rfl;rw[e1,e2];show((uP sc.length K k ((K:Int)-s)).map λ st=>st.part 1*g (dh st.next,r.s+st.hand*sc.getD k 0)).sum=((R0.steps (.split sc.length K) (.int s) (k:Nat)).map _).sum;unfold uP R0.steps;rw[Ø,Ø,ē,ē]
    congr 1
    ·by_cases c:s<(sc.length:Int)-(k:Nat)
     ·rw[Ë c,Ë ad];simp[Š.part,dh,Fh,pB,Bg.more]
     ·rw[Æ c,Æ ad];rfl
    ·by_cases c:0<s
     ·rw[Ë c,Ë ad];simp[Š.part,dh,Fh,pB,Bg.more]
      congr 4
      lia
     ·rw[Æ c,Æ ad];rfl
theorem j6 {n K:Nat}(ok:(R0.split n K).ok){sc:List Int}:∀{k:Nat},k<=n->∀ r∈dw (.one (.split n K)) sc k,∃ s:Nat,r.st=.int (s:Nat)/\s<=n-k/\r.t*cP n K=r.b*cP (n-k) s
 | 0,_,r,hr=>by
  obtain⟨o1,o2,o3,o4⟩:=id ok;rw[Í.mp (show r ∈ [_] from hr)];exact⟨K,rfl,ad,by simp⟩
 | k+1,h,r,hr=>by
  obtain⟨p,hp,s,hs,rfl⟩:=iG hr;obtain⟨c,e,cl,i⟩:=j6 ok ad p hp;have hs:s∈(R0.split n K).steps p.st (k:Nat):=hs;rw[e] at hs;obtain⟨m,em⟩:∃ m,n-k=m+1:=⟨n-k-1,ad⟩;have e1:((n:Int)-(k:Nat)).toNat=m+1:=ad;have e2:((n:Int)-(k:Nat)-(c:Nat)).toNat=m+1-c:=ad;have e3:n-(k+1)=m:=ad;simp only[R0.steps,e1,e2,Int.toNat_natCast] at hs;rw[em] at i cl;rw[e3];have fin:∀(x c':Nat),s.t=aM x (m+1)->s.b=ar x (m+1)->cP (m+1) c*x=cP m c'*(m+1)->(p.more k (sc.getD k 0) s).t*cP n K=(p.more k (sc.getD k 0) s).b*cP m c':=λ x c' et eb hc=>by
   show p.t*s.t*cP n K=p.b*s.b*cP m c';rw[et,eb];have lc:aM x (m+1)*(m+1)=ar x (m+1)*x:=m_;refine b_ (Nat.succ_pos m) ?_
   calc p.t*aM x (m+1)*cP n K*(m+1)=p.t*cP n K*(aM x (m+1)*(m+1)):=by ac_rfl
    _=p.b*ar x (m+1)*(cP (m+1) c*x):=by rw[i,lc];ac_rfl
    _=p.b*ar x (m+1)*cP m c'*(m+1):=by rw[hc];ac_rfl
  rcases é.mp hs with hs | hs <;> split at hs <;> first | cases hs;done | skip
  ·have q:=Í.mp hs;exact⟨c,by rw[show(p.more k (sc.getD k 0) s).st=s.next from rfl,q],ad,fin (m+1-c) c (by rw[q]) (by rw[q]) (Fj m c cl)⟩
  ·obtain⟨c,rfl⟩:∃ c',c=c'+1:=⟨c-1,ad⟩;have q:=Í.mp hs;exact⟨c,by rw[show(p.more k (sc.getD k 0) s).st=s.next from rfl,q];show PyData.int _=_;congr 1;lia,ad,fin (c+1) c (by rw[q]) (by rw[q]) (oO m c)⟩
theorem wG {t:Rl}(ok:t.ok)(sc:List Int):∀{k:Nat},(k:Int)<=t.ö->∃ ps,Lay t sc k (DD t k) ps
 | 0,_=>⟨_,Lay.zero t sc⟩
 | k+1,h=>by
  have hk:(k:Int)<t.ö:=ad;obtain⟨ps,L⟩:=wG ok sc (k:=k) (Ŀ hk);have d:=(iw ok sc (k:=k+1) h).1;have F1:1<=t.dd (k:Nat):=by
   have e:DD t (k+1)=DD t k*t.dd (k:Nat):=rfl;rw[e] at d;exact Nat.pos_of_mul_pos_left d
  refine⟨_,L.next ok hk F1 (ς _) λ p hp s hs=>?_⟩;exact(dC ok hk ((L.st ok (Ŀ hk) hp).2.2 hk) s hs).2.2.2
theorem yf {sc:List Int}{K:Nat}(ok:(R0.split sc.length K).ok):Mt (.one (.split sc.length K)) sc (cO (k9 sc K sc.length)) (cP sc.length K)/\∀ p∈k9 sc K sc.length,p.1.1=.k (.inl (K:Nat)):=by
 obtain⟨o1,o2,o3,o4⟩:=id ok;have I:=j9 ok (Å _);have hk:(sc.length:Int)<=(Rl.one (.split sc.length K)).ö:=č _;have d1:=(iw (t:=.one (.split sc.length K)) ok sc hk).1;have rows:∀ r∈dw (.one (.split sc.length K)) sc sc.length,pB K r=(.k (.inl (K:Nat)),r.s)/\r.part (DD (.one (.split sc.length K)) sc.length)*cP sc.length K=DD (.one (.split sc.length K)) sc.length:=λ r hr=>by
  obtain⟨s,e,s0,c⟩:=j6 ok (Å _) r hr;have o:=f9 (t:=.one (.split sc.length K)) ok hk r hr;have z:s=0:=ad;subst z;refine⟨by unfold pB;rw[e];simp,?_⟩
  rw[RI] at c;replace c:r.t*cP sc.length K=r.b*1:=c;obtain⟨m,em⟩:=o.dv;unfold Bg.part;rw[em,ú _ o.b1,ķ,c,ť]
 obtain⟨a,g,_⟩:=cW I.pos;have gg:∀ f:Int->Nat,dS f (cO (k9 sc K sc.length))*DD (.one (.split sc.length K)) sc.length=rS (dw (.one (.split sc.length K)) sc sc.length) (DD (.one (.split sc.length K)) sc.length) f*cP sc.length K:=λ f=>by
  rw[g,I.g];generalize dw (.one (.split sc.length K)) sc sc.length=l at rows
  induction l with
  | nil=>simp[rS]
  | cons r l ih =>
   have ih:=ih λ q hq=>rows q (Ì _ hq);obtain⟨e1,e2⟩:=rows r (Ï ..);unfold rS at ih ⊢;rw[É,ĝ,É,ĝ,Ŧ,ih,e1,Ŧ,ķ,e2,ρ]
 refine⟨⟨iq _ _ ad,a,?_,gg⟩,λ p hp=>?_⟩
 ·obtain⟨ps,L⟩:=wG (t:=.one (.split sc.length K)) ok sc hk;have h1:=gg λ _=>1;have h2:rS (dw (.one (.split sc.length K)) sc sc.length) (DD (.one (.split sc.length K)) sc.length) (λ _=>1)=DD (.one (.split sc.length K)) sc.length:=(L.g λ _=>1).symm.trans L.one;rw[h2,ρ] at h1;exact Qs d1 h1
 ·have z:0<((dw (.one (.split sc.length K)) sc sc.length).map λ r=>Ff p.1 (pB K r)).sum:=by
   rw[<- I.g,nr I.nd,nR I.nd hp];exact I.pos p hp
  obtain⟨r,hr,h2⟩:=jR z;have h2:0<(if pB K r=p.1 then 1 else 0):=h2
  by_cases e:pB K r=p.1
  ·rw[<- e,(rows r hr).1]
  ·rw[Æ e] at h2;cases h2
end My
namespace My
open PySem L2
abbrev vf:Stmt:=bT 73
abbrev qy:Stmt:=bT 74
abbrev wz:Stmt:=bT 75
abbrev kL:Key:=Key.inr "left"
abbrev kS:Key:=Key.inr "seed"
abbrev kA:Key:=Key.inr "at"
def cb (l s a:Int):List (Key × V):=[(kL,.int l),(kS,.int s),(kA,.int a)]
theorem Lb:¬ (kL=kS):=aF
theorem IU:¬ (kL=kA):=aF
theorem Jq:¬ (kS=kA):=aF
theorem LA:¬ (kS=kL):=aF
theorem Md:¬ (kA=kL):=aF
theorem Hv (l s a:Int):a9 (cb l s a) kL\.int l:=aV (p:=(kL,V.int l)) rfl
theorem KS (l s a:Int):a9 (cb l s a) kS\.int s:=by
 unfold cb;rw[aK (p:=(kL,V.int l)) Lb];exact aV (p:=(kS,V.int s)) rfl
theorem BZ (l s a:Int):a9 (cb l s a) kA\.int a:=by
 unfold cb;rw[aK (p:=(kL,V.int l)) IU,aK (p:=(kS,V.int s)) Jq];exact aV (p:=(kA,V.int a)) rfl
theorem wV {Ý:List (Key × V)}{k:Key}{v:V}(h:a9 Ý k\v):(Ý.any λ kv=>decide (kv.1=k))=true:=by
 rw[eQ,h];rfl
theorem LY (l s a y:Int):aU (cb l s a) kL (.int y)=cb y s a:=by
 unfold aU;rw[Ë (wV (Hv l s a))];unfold cb;rw[É,É,É,υ,Ë rfl,Æ LA,Æ Md]
theorem Lw (l s a y:Int):aU (cb l s a) kA (.int y)=cb l s y:=by
 unfold aU;rw[Ë (wV (BZ l s a))];unfold cb;rw[É,É,É,υ,Æ IU,Æ Jq,Ë rfl]
theorem qA {Ý:List (Key × V)}{k:Key}{v:V}(h:a9 Ý k=none):aU Ý k v = Ý ++ [(k,v)]:=Ũ v h
theorem BU (l s a:Int):fq [] [(kL,V.int l),(kS,V.int s),(kA,V.int a)]=cb l s a:=by
 show aU (aU (aU [] kL (.int l)) kS (.int s)) kA (.int a)=_;rw[qA (k:=kL) (v:=V.int l) yo];rw[qA (k:=kS) (by rw[Pg,aK (p:=(kL,V.int l)) Lb];rfl)]
 rw[qA (k:=kA) (by rw[Pg,List.cons_append,aK (p:=(kL,V.int l)) IU,Pg,aK (p:=(kS,V.int s)) Jq];rfl)]
 rfl
structure Ď (H:Hp)(p:Addr):Prop where
 ex:∃ l s a:Int,H p\.dK (cb l s a)/\0<=l
def kJ (K:PySem.W.Frag):Sp:=λ vs H Q _=>∃(a:Addr)(ns:List Int)(k:Int),vs=[.ref a,.int k]/\Ğ K H a (ns.map V.int)/\0<=k/\∀ c:Int,Q (.int c) H
def iK:Sp:=λ vs H Q _=>∃(c:Int),vs=[.int c]/\∀(p:Addr)(H':Hp),H p=none->Ď H' p->Kept H H' p->Q (.ref p) H'
def i7:Sp:=λ vs H Q _=>∃(p:Addr)(m:Int),vs=[.ref p,.int m]/\Ď H p/\0<m/\m<1073741824/\∀(r:Int)(H':Hp),0<=r->r<m->Ď H' p->Kept H H' p->(∀ b,H b=none->H' b=none)->Q (.int r) H'
theorem nP {A:Around}{k:Nat}(hr:Ă k A):A.units+2<cLine:=by have:=hr.un;lia
section
variable {P:Program}{w:World}{K:PySem.W.Frag}{mg:bD}{base:Heap}
theorem Ma:ag ["_law_script","_law_k"] ["_law_script","_law_k"] (aa vf):=aL
theorem yP {f:Addr}{fd:FuncData}(F:Ļ K "_law_cell" "_law_cell" vf f fd) (ml:mg "len" = none):ð P w K mg base az 1 f fd ["_law_script","_law_k"] (kJ K):=by
 refine F.ok Ma (λ vs H Q E h=>?_) (λ cdv A outer s H vs Q E hr h=>?_)
 ·obtain⟨a,ns,k,rfl,_⟩:=h;rfl
 obtain⟨a,ns,k,rfl,hS,h0,q⟩:=h;refine⟨_,bA (aT (ay kY (pv 1) (ao aY rfl ml ě (ae (pv 0) aq)) (ax _)) (aW (cq (c5 A0 (pv 0) (pv 1)))) eM)
  (aW (cq aB)),?_⟩
 refine⟨_,rfl,_,rfl,a,_,rfl,.inl hS,_,_,rfl,rfl,_,rfl,?_⟩;refine gO (λ c=>?_) (λ c=>?_)
 ·have c':k<(((ns.map V.int).length:Nat):Int):=Þ c;rw[Ç] at c';have hk:k.toNat<ns.length:=ad;have ek:k=((k.toNat:Nat):Int):=ad;have z:ph (ns.map V.int) ((k.toNat:Nat):Int)\.int ns[k.toNat]:=qF (by rw[Ô,Ã hk] <;> rfl)
  rw[<- ek] at z;exact⟨_,rfl,_,rfl,a,_,_,_,rfl,rfl,hS,z,q _⟩
 ·exact q 0
theorem LQ:ag ["_law_cell_here"] ["_law_cell_here"] (aa qy):=aL
theorem v9 {f:Addr}{fd:FuncData}(F:Ļ K "_law_purse" "_law_purse" qy f fd) (mm:mg "max" = none):ð P w K mg base az 1 f fd ["_law_cell_here"] iK:=by
 refine F.ok LQ (λ vs H Q E h=>?_) (λ cdv A outer s H vs Q E hr h=>?_)
 ·obtain⟨c,rfl,_⟩:=h;rfl
 obtain⟨c,rfl,q⟩:=h;refine⟨_,aW (cq (sV (fS lY (ao (lR rfl) rfl mm PyProof.Rows.boot_max (ae aB (ae (ah bJ (pv 0) (ah DY aB aB)) aq)))
  (fS lY (ah eK (pv 0) aB) (fS lY aB nQ))) rfl rfl (by simp) av)),?_⟩
 intro p hp;refine⟨_,rfl,_,_,rfl,rfl,⟨av,av,av⟩,_,_,rfl,rfl,_,_,rfl,?_⟩;refine⟨_,rfl,_,_,rfl,rfl,(by show(0:Int)<2147483647;decide),bz,[(kL,V.int _),(kS,V.int _),(kA,V.int 0)],rfl,(by show 3<=15;decide),?_⟩
 rw[BU];refine q p _ hp ⟨_,_,_,bz,?_⟩ λ b o h n=>by rw[ai n,ai n];exact h
 split <;> lia
theorem W5:ag ["_law_purse_here","_law_many","_law_digit","_law_number"] ["_law_purse_here","_law_many"] (aa wz):=aL
theorem sP {H:Hp}{p:Addr}{o u:HO}(h:H p\u):∀ b,H b=none->ak H p o b=none:=λ b hb=>by
 rw[ai (λ e=>by subst e;rw[h] at hb;cases hb)];exact hb
theorem yL {f:Addr}{fd:FuncData}(F:Ļ K "_law_take" "_law_take" wz f fd):ð P w K mg base az 1 f fd ["_law_purse_here","_law_many"] i7:=by
 refine F.ok W5 (λ vs H Q E h=>?_) (λ cdv A outer s H vs Q E hr h=>?_)
 ·obtain⟨p,m,rfl,_⟩:=h;rfl
 obtain⟨p,m,rfl,⟨l,s0,a,hp,hl⟩,m0,m1,q⟩:=h;have hu:=nP hr;have nd:=W5.nd;refine⟨_,bA (aT (ay gc (a8 hu (pv 0) lY) aB (ax _))
   (bA (cB (i:=2) nd rfl (Or.inl rfl) (ah eK (a8 hu (pv 0) lY) (pv 1)))
   (bA (cI hu (pv 0) lY (ah n5 (a8 hu (pv 0) lY) (pv 1)) rfl)
   (aW (cq (pv 2))))) eM)
  (bA (cI hu (pv 0) lY (ah aP (a8 hu (pv 0) lY) aB) rfl)
  (bA (cB (i:=3) nd rfl (Or.inl rfl) (ah eK (ah cD (ah aP (a8 hu (pv 0) lY) (ah cD aB (a8 hu (pv 0) lY))) aB) aB))
  (bA (cB (i:=3) nd rfl (Or.inl rfl) (ah eK (ah cD (pv 3) (pv 3)) aB))
  (bA (cB (i:=3) nd rfl (Or.inl rfl) (ah eK (ah cD (ah aP (pv 3) aB) (ah aP (pv 3) (a8 hu (pv 0) lY))) aB))
  (aW (cq (ah eK (ah n5 (ah eK (ah cD (pv 3) (ah aP (pv 3) aB)) aB) aB) (pv 1)))))))),?_⟩
 have g0:ſ H p (.str "left") (some (.int l)):=(Hv l s0 a) ▸ ſ.k (k:=kL) hp;refine⟨_,rfl,p,_,rfl,g0,_,_,rfl,rfl,_,rfl,?_⟩;refine gO (λ c=>?_) (λ c=>?_)
 ·refine⟨_,rfl,p,_,rfl,g0,_,rfl,_,_,rfl,rfl,m0,?_⟩;refine⟨_,rfl,p,_,rfl,g0,_,rfl,_,_,rfl,rfl,⟨m0,m1⟩,_,rfl,p,_,rfl,Mp.k (k:=kL) hp (lM (by show 3<=1000;decide)),?_⟩
  rw[LY];refine⟨_,rfl,q _ _ (Int.emod_nonneg _ ad) (f_ _ m0) ⟨_,_,_,bz,Int.ediv_nonneg hl ad⟩ (cz _) (sP hp)⟩
 ·have gA:ſ H p (.str "at") (some (.int a)):=(BZ l s0 a) ▸ ſ.k (k:=kA) hp;refine⟨_,rfl,p,_,rfl,gA,_,_,rfl,rfl,_,rfl,p,_,rfl,Mp.k (k:=kA) hp (lM (by show 3<=1000;decide)),?_⟩
  rw[Lw];have hS:ſ (ak H p (.dK (cb l s0 (a+1)))) p (.str "seed") (some (.int s0)):=(KS l s0 (a+1)) ▸ ſ.k (k:=kS) bz;have hA:ſ (ak H p (.dK (cb l s0 (a+1)))) p (.str "at") (some (.int (a+1))):=(BZ l s0 (a+1)) ▸ ſ.k (k:=kA) bz;refine⟨_,rfl,p,_,rfl,hS,_,rfl,p,_,rfl,hA,_,_,rfl,rfl,.inl ⟨av,av⟩,_,_,rfl,rfl,_,_,rfl,rfl,.inr ⟨av,av⟩,_,_,rfl,rfl,(by show(0:Int)<2147483647;decide),?_⟩
  generalize e1:((s0+7919*(a+1))*48271%2147483647:Int)=n1;have b1:0<=n1/\n1<2147483647:=ad;refine⟨_,rfl,_,rfl,_,_,rfl,rfl,.inl ⟨ad,ad⟩,_,_,rfl,rfl,(by show(0:Int)<2147483629;decide),?_⟩
  generalize e2:(n1*n1%2147483629:Int)=n2;have b2:0<=n2/\n2<2147483629:=ad;refine⟨_,rfl,_,_,rfl,rfl,_,rfl,_,rfl,p,_,rfl,hA,_,_,rfl,rfl,_,_,rfl,rfl,.inl ⟨ad,ad⟩,_,_,rfl,rfl,(by show(0:Int)<2147483587;decide),?_⟩
  generalize e3:((n2+104729)*(n2+(a+1))%2147483587:Int)=n3;have b3:0<=n3/\n3<2147483587:=ad;refine⟨_,rfl,_,rfl,_,_,rfl,rfl,_,_,rfl,rfl,.inl ⟨ad,ad⟩,_,_,rfl,rfl,(by show(0:Int)<2147483579;decide),_,_,rfl,rfl,⟨av,av⟩,_,rfl,_,_,rfl,rfl,m0,?_⟩
  exact q _ _ (Int.emod_nonneg _ ad) (f_ _ m0) ⟨_,_,_,bz,hl⟩ (cz _) (sP hp)
theorem zM {xs:List V}{i:Int}(h0:0<=i)(h:i<(xs.length:Int)):∃ v,ph xs i\v/\v∈xs:=by
 have hk:i.toNat<xs.length:=ad;have ek:i=((i.toNat:Nat):Int):=ad;have z:ph xs ((i.toNat:Nat):Int)=some xs[i.toNat]:=qF (Ã hk);rw[<- ek] at z;exact⟨_,z,Ň hk⟩
theorem Ď.keep {H H':Hp}{p:Addr}(x:Ď H p)(h:∀ o,H p\o->H' p\o):Ď H' p:=by
 obtain⟨l,s,a,e,hl⟩:=x.ex;exact⟨l,s,a,h _ e,hl⟩
theorem Ď.there {H:Hp}{p:Addr}(x:Ď H p):∃ o,H p\o:=by
 obtain⟨l,s,a,e,hl⟩:=x.ex;exact⟨_,e⟩
end
end My
namespace My
open PySem PySem.W L2
section
variable {P:Program}{w:World}{K:Frag}{mg:bD}{base:Heap}{f:Addr}{fd:FuncData}
abbrev IH:Stmt:=bT 77
abbrev LG:List Str:=["_law_top","_law_bottom","_law_one","_law_other"]
theorem TD:ag LG ["_law_top","_law_bottom"] (aa IH):=aL
def lB:Sp:=λ vs H Q _=>∃ a b:Nat,vs=[.int a,.int b]/\0<b/\b<=10^300/\∀ p,H p=none->Q (.ref p) (ak H p (.tup [.int (aM a b:Nat),.int (ar a b:Nat)]))
def JN:St->Nat
 | [_,_,_,some (.int b)]=>b.toNat
 | _=>0
theorem Bu (F:Ļ K "_law_lowest" "_law_lowest" IH f fd):ð P w K mg base az 1 f fd ["_law_top","_law_bottom"] lB:=by
 refine cj F TD λ cdv A outer s H vs Q E hr h=>?_;obtain⟨a,b,rfl,b0,b3,q⟩:=h;have nd:=TD.nd;refine⟨_,bA (cB (i:=2) nd rfl (Or.inl rfl) (pv 0)) (bA (cB (i:=3) nd rfl (Or.inl rfl) (pv 1)) (bA (pO ò (ay mv (pv 3) aB (ax _)) (aW (wU (i:=2) (j:=3) rfl nd rfl rfl av rfl rfl (ae (pv 3) (ae (ah eK (pv 2) (pv 3)) aq)) rfl))) (aW (cq (aI (ae (ah bS (pv 0) (pv 2)) (ae (ah bS (pv 1) (pv 2)) aq))))))),?_⟩;refine⟨_,rfl,_,rfl,?_⟩;refine pT (λ σ H'=>H'=H/\∃ x y:Nat,σ=[some (.int a),some (.int b),some (.int x),some (.int y)]/\Nat.gcd x y=Nat.gcd a b) (λ σ _=>JN σ) ⟨rfl,a,b,rfl,rfl⟩ ?_ ?_
 ·rintro σ H' ⟨rfl,x,y,rfl,e⟩;refine⟨_,rfl,rfl,_,rfl,?_⟩;refine gO (λ c=>?_) (λ c=>?_)
  ·have c2:¬ ((y:Int)=0):=λ z=>by
    have:(!decide (V.int (y:Int)=V.int 0))=true:=c;rw[z,Ê rfl] at this;cases this
   have c':(0:Int)<(y:Int):=ad;refine⟨_,rfl,_,rfl,_,rfl,_,_,rfl,rfl,c',_,_,rfl,⟨rfl,y,x%y,?_,?_⟩,?_⟩
   ·show [some (V.int a),some (V.int b),some (V.int y),some (V.int ((x:Int)%(y:Int)))]=_;rw[show((x:Int)%(y:Int))=((x%y:Nat):Int) from by simp]
   ·rw[<- e,Ŭ x y,Nat.gcd_rec y x,Ŭ]
   ·show((x:Int)%(y:Int)).toNat<(y:Int).toNat;have:=f_ (x:Int) c'
    lia
  ·have y0:y=0:=by
    by_cases z:y=0
    ·exact z
    ·exact absurd (show(!decide (V.int (y:Int)=V.int 0))=true by rw[Ò (λ e=>by have:=V.int.inj e;lia)];rfl) c
   subst y0;rw[Nat.gcd_zero_right] at e;subst e;have g0:0<Nat.gcd a b:=õ a b0;have gd:∀ n:Nat,nt ((n:Nat):Int) ((Nat.gcd a b:Nat):Int):=λ n=>⟨ad,(mf (È (ø b0 (ç a b)) b3)).log⟩;have e1:((a:Int)/((Nat.gcd a b:Nat):Int))=((aM a b:Nat):Int):=by simp[aM]
   have e2:((b:Int)/((Nat.gcd a b:Nat):Int))=((ar a b:Nat):Int):=by simp[ar]
   refine⟨_,rfl,_,rfl,_,_,rfl,rfl,gd a,_,rfl,_,rfl,_,_,rfl,rfl,gd b,er,λ p hp=>?_⟩
   dsimp only
   rw[e1,e2];exact q p hp
 ·rintro σ H Q Q' m ⟨x,e,h1,b,hb,q⟩;exact⟨x,e,h1,b,hb,m _ _ q⟩
end
theorem Ď.ext {H H':Hp}{p:Addr}(h:Ď H p)(x:Ext H H'):Ď H' p:=by
 obtain⟨l,s,a,e,r⟩:=h;exact⟨l,s,a,x _ _ e,r⟩
structure PF (p:Addr)(H H':Hp):Prop where
 k:Kept H H' p
 b:Ď H' p
theorem PF.trans {p:Addr}{H H1 H2:Hp}(a:PF p H H1)(b:PF p H1 H2):PF p H H2:=⟨a.k.trans b.k,b.b⟩
theorem PF.ext {p:Addr}{H H1 H2:Hp}(a:PF p H H1)(x:Ext H1 H2):PF p H H2:=⟨a.k.trans (x.kept p),a.b.ext x⟩
theorem PF.of {p:Addr}{H H1:Hp}(b:Ď H p)(x:Ext H H1):PF p H H1:=⟨x.kept p,b.ext x⟩
theorem PF.back {p:Addr}{H H':Hp}(a:PF p H H'){b:Addr}(h:H' b=none):H b=none:=by
 cases e:H b with
 | none=>rfl
 | some o =>
  by_cases z:b=p
  ·obtain⟨_,_,_,g,_⟩:=a.b;rw[<- z,h] at g;cases g
  ·rw[a.k _ _ e z] at h;cases h
def kc (i:Nat)(te:TE):TE:=cV i7 [] E0 (aw (af i) (aw te aS))
theorem b8 {i:Nat}{te:TE}{m:Int}{Q:VK}{σ:St}{H:Hp}{p:Addr}(h0:σ[i]?\some (.ref p))(bx:Ď H p)(hm:∀ R:VK,R (.int m) H->te σ H R)(m0:0<m)(m1:m<1073741824)(q:∀ r H',0<=r->r<m->PF p H H'->Q (.int r) H'):kc i te σ H Q :=
 ⟨_,h0,hm _ ⟨p,m,rfl,bx,m0,m1,λ r H' r0 r1 pb k _=>q r H' r0 r1 ⟨k,pb⟩⟩⟩
section
variable {P:Program}{w:World}{K:Frag}{mg:bD}{base:Heap}{f a1 a2:Addr}{fd d1 d2:FuncData}
abbrev Jo:Stmt:=bT 76
abbrev Mf:List Str:=["_law_purse_here","_law_bottom","_law_top"]
theorem TM:ag Mf ["_law_purse_here"] (aa Jo):=aL
structure Vu (a b:Nat):Prop where
 a1:1<=a
 ab:a<b
 b7:b<=7
 lo:Nat.gcd a b=1
def um:Sp:=λ vs H Q _=>∃ p,vs=[.ref p]/\Ď H p/\∀ c a b H',PF p H H'->H c=none->H' c\.tup [.int (a:Nat),.int (b:Nat)]->Vu a b->Q (.ref c) H'
theorem Gv (F:Ļ K "_law_coin" "_law_coin" Jo f fd) (A1:Df P w K mg base az 1 "_law_take" ["_law_purse_here","_law_many"] i7 a1 d1) (A2:Df P w K mg base az 1 "_law_lowest" ["_law_top","_law_bottom"] lB a2 d2):ð P w K mg base az 2 f fd ["_law_purse_here"] um:=by
 refine cj F TM λ cdv A outer s H vs Q E hr h=>?_;obtain⟨p,rfl,bx,q⟩:=h;have nd:=TM.nd;refine⟨_,bA (cB (i:=1) nd rfl (Or.inl rfl) (ah aP aB (cg A1 hr aj (ae (pv 0) (ae aB aq)))))
  (bA (cB (i:=2) nd rfl (Or.inl rfl) (ah aP aB (cg A1 hr aj (ae (pv 0) (ae (ah bJ (pv 1) aB) aq)))))
  (aW (cq (cg A2 hr aj (ae (pv 2) (ae (pv 1) aq)))))),?_⟩
 refine aE (te:=bR (dQ λ i j=>.int (i+j)) (tC (.int 2)) (kc 0 (tC (.int 6)))) (i:=1) (AE (b8 (p:=p) (m:=6) rfl bx (λ R r=>r) av av λ r H1 r0 r1 f1=>⟨_,_,rfl,rfl,?_⟩));obtain⟨b,eb⟩:∃ b:Nat,2+r=(b:Int):=⟨(2+r).toNat,ad⟩;show aO (bQ (bR (dQ λ i j=>.int (i+j)) (tC (.int 1)) (kc 0 (bR (dQ λ i j=>.int (i-j)) (af 1) (tC (.int 1))))) (aJ 2)) _ _ [some (.ref p),some (.int (2+r)),none] H1;rw[eb];refine aE (te:=bR (dQ λ i j=>.int (i+j)) (tC (.int 1)) (kc 0 (bR (dQ λ i j=>.int (i-j)) (af 1) (tC (.int 1))))) (i:=2) (AE (b8 (p:=p) (m:=(b:Int)-1) rfl f1.b (λ R r=>⟨_,rfl,_,_,rfl,rfl,r⟩) ad ad λ s H2 s0 s1 f2=>⟨_,_,rfl,rfl,?_⟩));obtain⟨a,ea⟩:∃ a:Nat,1+s=(a:Int):=⟨(1+s).toNat,ad⟩;show cH (cV lB [] E0 (aw (af 2) (aw (af 1) aS))) _ [some (.ref p),some (.int (b:Nat)),some (.int (1+s))] H2;rw[ea];have XH:=f1.trans f2;refine⟨_,rfl,_,rfl,a,b,rfl,ad,È (show b<=7 by lia) av,λ c hc=>?_⟩
 obtain⟨l1,l2,l3,l4⟩:=jX (a:=a) (b:=b) ad ad ad;refine q c _ _ _ (XH.ext (Ext.new hc)) (XH.back hc) bz ⟨l1,?_,È jS ad,l4⟩;have cr:aM a b*b=ar a b*a:=m_;refine Nat.lt_of_le_of_ne l2 λ e=>?_;rw[e] at cr;have:=Qs (gD (show 0<b by lia)) cr
 lia
end
section
variable {P:Program}{w:World}{K:Frag}{mg:bD}{base:Heap}
abbrev DZ:Stmt:=bT 22
def At (K:Frag):Sp:=λ vs H Q _=>∃(p r:Addr)(a b c d:Nat),vs=[.ref p,.ref r]/\Ĭ K H p [.int a,.int b]/\Ĭ K H r [.int c,.int d]/\Sz a/\Sz b/\Sz c/\Sz d/\1<=b/\1<=d /\
 ∀ l,H l=none->Q (.ref l) (ak H l (.tup [.int (a/Nat.gcd a d*(c/Nat.gcd c b):Nat),.int (b/Nat.gcd c b*(d/Nat.gcd a d):Nat)]))
theorem Rb:ag ["one","other","left","right"] ["one","other"] (aa DZ):=aL
theorem Dg {f g:Addr}{fd gd:FuncData}(F:Ļ K "times_share" "times_share" DZ f fd) (G:ð P w K mg base az 1 g gd ["one","other"] mj) (bG:Binds K gd ["one","other"] []) (kG:keepIn K (.ref g)=true) (mG:mg "greatest_common"\.ref g):ð P w K mg base az 2 f fd ["one","other"] (At K):=by
 refine F.ok Rb (λ vs H Q E h=>?_) (λ cdv A outer s H vs Q E hr h=>?_)
 ·obtain⟨p,r,a,b,c,d,rfl,_⟩:=h;rfl
 refine Â λ gg=>?_;obtain⟨p,r,a,b,c,d,rfl,hp,O7,sa,sb,sc,sd,b1,d1,q⟩:=h;have nd:=Rb.nd;refine gg ?_;refine⟨_,bA (cB (i:=2) nd rfl (Or.inl rfl) (fX G hr rfl mG kG bG .nil aj (ae (c5 dR (pv 0) aB) (ae (c5 dR (pv 1) aB) aq))))
  (bA (cB (i:=3) nd rfl (Or.inl rfl) (fX G hr rfl mG kG bG .nil aj (ae (c5 dR (pv 1) aB) (ae (c5 dR (pv 0) aB) aq))))
  (aW (cq (aI (ae (ah cG (ah bS (c5 dR (pv 0) aB) (pv 2)) (ah bS (c5 dR (pv 1) aB) (pv 3)))
   (ae (ah cG (ah bS (c5 dR (pv 0) aB) (pv 3)) (ah bS (c5 dR (pv 1) aB) (pv 2))) aq)))))),?_⟩
 have l0:0<Nat.gcd a d:=õ a d1;have r0:0<Nat.gcd c b:=õ c b1;have sl:Sz (Nat.gcd a d):=sd.mono (ø d1 (ç a d));have sr:Sz (Nat.gcd c b):=sb.mono (ø b1 (ç c b));have gl:∀ n:Nat,nt ((n:Nat):Int) ((Nat.gcd a d:Nat):Int):=λ n=>⟨ad,sl.log⟩;have gr:∀ n:Nat,nt ((n:Nat):Int) ((Nat.gcd c b:Nat):Int):=λ n=>⟨ad,sr.log⟩;have ea:((a:Int)/((Nat.gcd a d:Nat):Int))=((a/Nat.gcd a d:Nat):Int):=by simp
 have ed:((d:Int)/((Nat.gcd a d:Nat):Int))=((d/Nat.gcd a d:Nat):Int):=by simp
 have ec:((c:Int)/((Nat.gcd c b:Nat):Int))=((c/Nat.gcd c b:Nat):Int):=by simp
 have eb:((b:Int)/((Nat.gcd c b:Nat):Int))=((b/Nat.gcd c b:Nat):Int):=by simp
 refine⟨_,rfl,p,_,_,_,rfl,rfl,hp,rfl,_,rfl,r,_,_,_,rfl,rfl,O7,rfl,a,d,rfl,?_⟩;refine⟨_,rfl,r,_,_,_,rfl,rfl,O7,rfl,_,rfl,p,_,_,_,rfl,rfl,hp,rfl,c,b,rfl,?_⟩;refine⟨_,rfl,p,_,_,_,rfl,rfl,hp,rfl,_,rfl,_,_,rfl,rfl,gl a,_,rfl,r,_,_,_,rfl,rfl,O7,rfl,_,rfl,_,_,rfl,rfl,gr c,_,_,rfl,rfl,by rw[ea,ec];exact gm (sa.mono (ċ _ _)) (sc.mono (ċ _ _)),?_⟩
 refine⟨_,rfl,p,_,_,_,rfl,rfl,hp,rfl,_,rfl,_,_,rfl,rfl,gr b,_,rfl,r,_,_,_,rfl,rfl,O7,rfl,_,rfl,_,_,rfl,rfl,gl d,_,_,rfl,rfl,by rw[eb,ed];exact gm (sb.mono (ċ _ _)) (sd.mono (ċ _ _)),er,λ l hl=>?_⟩
 have:=q l hl;rw[Ĕ,Ĕ,<- ea,<- eb,<- ec,<- ed] at this;exact this
end
def dq (ss:List Š)(h:Int):Option Š:=ss.find? λ s=>decide (s.hand=h)
def xK (p:Nat × Nat)(c d:Nat):Nat × Nat:=(p.1/Nat.gcd p.1 d*(c/Nat.gcd c p.2),p.2/Nat.gcd c p.2*(d/Nat.gcd p.1 d))
def gT (t:Rl)(dl:Int):Nat->Nat->PyData->Nat × Nat->Nat × Nat
 | 0,_,_,sh=>sh
 | n+1,x,sd,sh=>match dq (t.steps sd (x:Nat)) (dl/2^x%2) with
  | none=>(0,1)
  | some s=>gT t dl n (x+1) s.next (xK sh s.t s.b)
structure MX (p:Nat × Nat)(x:Nat):Prop where
 t1:1<=p.1
 tb:p.1<=p.2
 hb:p.2<=100^x
 lo:Nat.gcd p.1 p.2=1
theorem zl {p:Nat × Nat}{c d:Nat}(b1:1<=p.2)(d1:1<=d)(hp:Nat.gcd p.1 p.2=1)(hc:Nat.gcd c d=1):xK p c d=(aM (p.1*c) (p.2*d),ar (p.1*c) (p.2*d)):=by
 obtain⟨h1,h2⟩:=xU b1 d1 hp hc;unfold xK aM ar;rw[h1,h2]
theorem MX.mul {p:Nat × Nat}{x:Nat}{s:Š}(h:MX p x)(g:s.good):MX (xK p s.t s.b) (x+1):=by
 have b1:1<=p.2:=È h.t1 h.tb;have d1:1<=s.b:=È g.t1 g.tb;rw[zl b1 d1 h.lo g.lo];have k1:1<=p.1*s.t:=Δ h.t1 g.t1;have k2:p.1*s.t<=p.2*s.b:=Δ h.tb g.tb;have g0:0<Nat.gcd (p.1*s.t) (p.2*s.b):=ņ _ k1;refine⟨(Nat.le_div_iff_mul_le g0).mpr (by rw[MH];exact ø k1 (í _ _)),Ψ k2,?_,?_⟩
 ·refine È (ċ _ _) ?_;rw[ı];exact Δ h.hb g.MV
 ·unfold aM ar;rw[Nat.gcd_div (í _ _) (ç _ _)];exact τ g0
theorem MX.one:MX (1,1) 0:=⟨Å _,Å _,av,av⟩
theorem MX.sz {p:Nat × Nat}{x:Nat}(h:MX p x)(hx:x<=20):Sz p.1/\Sz p.2:=by
 have e:(100:Nat)^x<=100^20:=â av hx;have l:(100:Nat)^20<2^8999:=å (by decide:(100:Nat)^20<2^140) (â av av)
 have hb:=h.hb;have tb:=h.tb;exact⟨ĭ (È tb (È hb e)) l,ĭ (È hb e) l⟩
theorem kI {ss:List Š}{h:Int}{s:Š}(e:dq ss h\s):s∈ss/\s.hand=h:=by
 refine⟨List.mem_of_find?_eq_some e,?_⟩;have:=List.find?_some e;exact Þ this
theorem qV {α:Type}{xs:List α}{i:Nat}{x:α}(h:xs[i]?\x):xs.drop i=x::xs.drop (i+1):=by
 obtain⟨hi,rfl⟩:=Ú.mp h;exact Ċ hi
section
variable {P:Program}{w:World}{K:Frag}{mg:bD}{base:Heap}{C:Nat->Addr}{CR f a1 a2 a3 a4 n0 n1:Addr}{fd d1 d2 d3 d4:FuncData}
abbrev KF:Stmt:=bT 42
def wB:Sp:=λ vs H Q _=>∃(x:Int)(i:Nat),vs=[.int x,.int (i:Nat)]/\Q (.int (x/2^i%2)) H
theorem IE:ag ["dealing","at"] ["dealing","at"] (aa KF):=aL
theorem Hw (F:Ļ K "hand_of" "hand_of" KF f fd):ð P w K mg base az 1 f fd ["dealing","at"] wB:=by
 refine F.ok IE (λ vs H Q E h=>?_) (λ cdv A outer s H vs Q E hr h=>?_)
 ·obtain⟨x,i,rfl,_⟩:=h;rfl
 obtain⟨x,i,rfl,q⟩:=h;refine⟨_,aW (cq (ah ve (ah xb (pv 0) (pv 1)) aB)),?_⟩;refine⟨_,rfl,_,rfl,_,_,rfl,rfl,(by show(0:Int)<=(i:Int);lia),_,_,rfl,rfl,?_⟩
 show Q (.int (Builtin.bitAnd (x/2^((i:Int)).toNat) 1)) H;rw[RH];exact q
abbrev KD:Stmt:=bT 41
def uZ:Sp:=λ vs H Q _=>∃(x:Int)(n:Nat),vs=[.int x,.int (n:Nat)]/\n<=20/\0<=x/\x<2^n/\Q .Ę H
theorem Kh:ag ["thing","folk"] ["thing","folk"] (aa KD):=aL
theorem FR (F:Ļ K "need_hands" "need_hands" KD f fd) (A1:Df P w K mg base az 2 "is_whole" ["thing","low","high"] (gh K) a1 d1):ð P w K mg base az 3 f fd ["thing","folk"] uZ:=by
 refine F.ok Kh (λ vs H Q E h=>?_) (λ cdv A outer s H vs Q E hr h=>?_)
 ·obtain⟨x,n,rfl,_⟩:=h;rfl
 obtain⟨x,n,rfl,E_,x0,x1,q⟩:=h;refine⟨_,aW (aT (cA (bO (cg A1 hr aj (ae (pv 0) (ae aB (ae (ah bJ (ah nn aB (pv 1)) aB) aq)))))) (aW c7) eM),?_⟩;have th:Th K H (.int x):=(İ.int (G:=H) x).th;refine⟨_,rfl,_,rfl,_,_,rfl,rfl,⟨ad,ad,av⟩,_,_,rfl,rfl,.int x,0,_,rfl,th,_,rfl,?_⟩;have e:Pm 0 (1*2^(n:Int).toNat-1) (.int x)=true:=by
  show(decide ((0:Int)<=x)&&decide (x<=1*2^(n:Int).toNat-1))=true;rw[Ü,Ê x0,Ê ad];rfl
 rw[e];exact dW q
abbrev Kx:Stmt:=bT 43
abbrev LZ:List Str:=["rule","state","at","hand","way","share","behind"]
theorem Te:ag LZ ["rule","state","at","hand"] (aa Kx):=aL
def Kn (K:Frag)(H:Hp)(sv nv:V):Option Š->Prop
 | some s=>PL K H sv s.t s.b/\İ H nv s.next
 | none=>PL K H sv 0 1
def FD (K:Frag)(C:Nat->Addr):Sp:=λ vs H Q _=>∃(v st:V)(x h:Int)(t:Rl)(sd:PyData),vs=[v,st,.int x,.int h]/\Ru C H t v/\t.ok/\0<=x/\x<t.ö/\t.J_ x sd/\İ H st sd/\∀ m sv nv H',Ext H H'->H' m\.tup [sv,nv]->Kn K H' sv nv (dq (t.steps sd x) h)->Q (.ref m) H'
theorem Gz (F:Ļ K "step_to" "step_to" Kx f fd) (M:c6 P w K mg base az 7 "steps" ["self","state","at"] (uV C) (tw K C)) (T:HY K mg n0 n1):ð P w K mg base az 8 f fd ["rule","state","at","hand"] (FD K C):=by
 refine cj F Te λ cdv A outer s H vs Q E hr h=>?_;refine Â λ gg=>?_;obtain⟨v,st,x,h,t,sd,rfl,ru,ok,x0,x1,vs,rd,q⟩:=h;have nd:=Te.nd;refine gg ?_;refine⟨_,bA (bC ò rfl (bE (eV (pv 0) M hr aj (ae (pv 1) (ae (pv 2) aq)))) (bq rfl (cL (bK (i:=4) nd rfl (Or.inl rfl)) (cL (bK (i:=5) nd rfl (Or.inl rfl)) (cL (bK (i:=6) nd rfl (Or.inl rfl)) aR))))
  (aW (aT (ay iO (pv 4) (pv 3) (ax _)) (aW (cq (aI (ae (pv 5) (ae (pv 6) aq))))) eM)))
  (aW (cq (aI (ae (be (v:=.ref n0) rfl T.m0 rfl) (ae (pv 1) aq))))),?_⟩
 refine pq (t:=t) (v:=v) aF ru ⟨_,t.ŵ,rfl⟩ (λ R r=>⟨_,rfl,r⟩) ⟨_,rfl,_,rfl,v,st,x,t,sd,rfl,ru,rfl,ok,x0,x1,vs,rd,λ l H1 e1 sl=>?_⟩;obtain⟨ps,hl,al⟩:=sl.2;refine⟨l,rfl,⟨_,Ğ.of hl⟩,dJ (xs:=ps) (λ i σ H'=>H'=H1/\dq (t.steps sd x) h=dq ((t.steps sd x).drop i) h/\∃ o1 o2 o3,σ=[some v,some st,some (.int x),some (.int h),o1,o2,o3]) ⟨rfl,rfl,_,_,_,rfl⟩ ?_ ?_ ?_⟩
 ·rintro i σ H' _ ⟨rfl,_⟩;exact Ğ.of hl
 ·rintro i p σ H' ep ⟨rfl,fb,o1,o2,o3,rfl⟩;refine Â λ gg=>?_;obtain⟨s',es,hs⟩:=al.get ep;obtain⟨a,sv,nv,rfl,ha,h1,h2⟩:=hs;rw[qV es] at fb;refine gg ?_;refine⟨a,_,rfl,Ĭ.of ha,rfl,_,_,rfl,_,_,rfl,_,_,rfl,rfl,?_⟩;refine⟨_,rfl,_,rfl,rfl,_,rfl,gO (λ c=>?_) (λ c=>?_)⟩
  ·have c':s'.hand=h:=V.int.inj (Þ c);refine⟨_,rfl,_,rfl,er,λ b hb=>?_⟩;have x2:=Ext.new (o:=.tup [sv,nv]) hb;refine q b sv nv _ (e1.trans x2) bz ?_;rw[fb];have e:dq (s'::(t.steps sd x).drop (i+1)) h\s':=by
    unfold dq;rw[List.find?_cons_of_pos (by exact Ê c')]
   rw[e];exact⟨h1.ext x2,h2.mono x2⟩
  ·have c':¬ s'.hand=h:=λ z=>c (Ê (by rw[z]))
   refine⟨rfl,?_,_,_,_,rfl⟩;rw[fb];unfold dq;rw[List.find?_cons_of_neg (by simpa using c')]
 ·rintro σ H' ⟨rfl,fb,o1,o2,o3,rfl⟩;rw[al.len,List.drop_length] at fb;refine⟨_,rfl,er,λ b hb=>?_⟩;refine q b (.ref n0) st _ (e1.trans (Ext.new hb)) bz ?_;rw[fb];exact⟨n0,rfl,.inr T.t0⟩
end
end My
namespace My
open PySem PySem.W L2 PySem.Spec PyProof.Rows
def xg (lo c:Int)(n:Nat):It:=⟨λ i _=>i<n,λ i H x H'=>H'=H/\x=.int (lo+i*c),λ i _=>n<=i⟩
theorem on {P:Program}{w:World}{K:PySem.W.Frag}{tg:Expr}(it:Addr)(lo c:Int)(n:Nat):p6 P w K tg (xg lo c n) [it] it (λ i h=>IsRangeIter h it (lo+(i:Nat)*c) ((n:Int)-(i:Nat)) c) where
 mem:=by simp
 obj:=λ i h st b hb=>by
  have e:b=it:=by simpa using hb
  subst e;exact⟨_,st,λ v z=>by
   have z':Data.fields _=Data.cell v:=z;cases z'⟩
 keep:=λ i h h' st k=>k it (by simp) _ st
 item:=by
  intro X hP hw hK hc i pins s σ H E I hf st hg;subst hP hw hK;obtain⟨f0,f1,f2,f3,f4,f5⟩:=hf it (by simp)
  have W:=Walks.range (prog:=X.prog) (w:=X.w) (I.ok.hd hc) it lo c n;refine W.item i s _ _ hg st λ v h' tk hv Ā kk=>?_;obtain⟨t,rfl⟩:=hv;have I1:Inv X pins σ H { s with heap:=h',toks:=tk }:=I.turned (λ b o hb e=>kk b o (by simpa using hb) e) f0 f1 f3 f4 f5
  exact⟨_,rfl,pV (s:={ s with heap:=h',toks:=tk }) (n:="range_iterator") Ā rfl rfl av ⟨.int (lo+i*c),H,I1,⟨t,rfl⟩,⟨rfl,rfl⟩,Ā,λ b hb=>(hf b hb).1⟩⟩
 done:=by
  intro X hP hw hK hc i pins s σ H E I hf st hg;subst hP hw hK;obtain⟨f0,f1,f2,f3,f4,f5⟩:=hf it (by simp)
  exact wpAny_pyNext_range_end (I.ok.hd hc) st (by have:n<=i:=hg;lia) λ h' eb=>⟨rfl,I.turned (t':=s.toks) (λ b o hb e=>eb b o hb e) f0 f1 f3 f4 f5⟩
 self:=λ _ _ _ _ _ st h=>wpAny_pyIter_rangeiter st h
theorem oB {a b:Int}(h:a<=b):Builtin.Range.rangeSize a b 2=(b-a+1)/2:=by
 unfold Builtin.Range.rangeSize;simp only[show(2:Int)>0 by decide,if_true]
 split <;> lia
theorem ud {a b:Int}(h:a<=b)(ha:0<=a)(hb:b<2^60):Builtin.Range.small a b 2=true:=by
 unfold Builtin.Range.small;rw[oB h];simp only[Builtin.Range.rangeFitsLong,Bool.and_eq_true,Bool.or_eq_true,decide_eq_true_eq,beq_iff_eq,show(2:Int)>0 by decide,if_true]
 lia
def qv (ta:TA):TI:=λ σ H R=>ta σ H λ vs H1=>∃ i j:Int,vs=[.int i,.int j,.int 2]/\(0<=i/\i<=j/\j<2^60)/\R (xg i 2 ((j-i+1)/2).toNat) H1
section
variable {X:Cx}{tg:Expr}
theorem hV {a b c:Expr}{ta:TA}{p pos:Pos}(hg:Gl X "range") (hm:X.mg "range" = none) (ha:PA X [a,b,c] ta) (hs:starEach [a,b,c] X.env=[(false,eval a X.env),(false,eval b X.env),(false,eval c X.env)]:=by rfl) (QR:starEach [b,c] X.env=[(false,eval b X.env),(false,eval c X.env)]:=by rfl) :
  PI X tg (.Call (.Name "range" p) [a,b,c] [] pos) (qv ta):=by
 intro pins s σ H R I h;refine Call_ (iT I hg hm boot_range (Ś (bj (ha pos pins s σ H _ I h) λ us s1 ⟨vs,H1,I1,r1,q1⟩=>?_) (by rw[hs,QR]) (by rw[QR];rfl)))
 obtain⟨i,j,e,⟨q1,q2,q3⟩,q⟩:=q1;subst e;cases r1 with
 | cons r rr =>
  cases rr with
  | cons r' rr =>
   cases rr with
   | cons Z7 rr =>
    cases rr;obtain⟨t,rfl⟩:=r;obtain⟨t',rfl⟩:=r';obtain⟨U4,rfl⟩:=Z7;refine call_range_3 av ?_ (.inl (RF ad));refine wpAny_pyIter_range (IsRange.new ..) (ud q2 q1 q3) ?_;have I2:Inv X pins σ H1 { s1 with heap:=s1.heap.push { cls:=.type "range",data:=.fields #[.int i t,.int j t',.int 2 U4] },toks:=s1.toks }:=I1.kept λ b o e=>Ä _ e
    refine⟨(s1.heap.push { cls:=.type "range",data:=.fields #[.int i t,.int j t',.int 2 U4] }).objs.size,[(s1.heap.push { cls:=.type "range",data:=.fields #[.int i t,.int j t',.int 2 U4] }).objs.size],_,_,H1,rfl,
     I2.kept (t':=s1.toks) λ b o e=>Ä _ e,on _ i 2 ((j-i+1)/2).toNat,?_,λ b hb=>?_,q⟩
    ·have e1:i+((0:Nat):Int)*2=i:=by simp
     have e2:((((j-i+1)/2).toNat:Nat):Int)-((0:Nat):Int)=Builtin.Range.rangeSize i j 2:=by rw[oB q2];lia
     show IsRangeIter _ _ (i+((0:Nat):Int)*2) (((((j-i+1)/2).toNat:Nat):Int)-((0:Nat):Int)) 2;rw[e1,e2];exact Ó _ rfl
    ·have e:b=(s1.heap.push { cls:=.type "range",data:=.fields #[.int i t,.int j t',.int 2 U4] }).objs.size:=by simpa using hb
     subst e;exact I2.OP (Å _) (I2.Ě.fresh (Å _))
end
theorem rO {lo c:Int}{n:Nat}{g:TG}{tb:TS}{D:bH}{σ:L2.St}{H:Hp}(Pv:Nat->L2.St->Hp->Prop)(h0:Pv 0 σ H)
  (hs:∀ i σ H,i<n->Pv i σ H->g (.int (lo+i*c)) σ H λ ĩ H2=>tb { D with nx:=Pv (i+1),ct:=Pv (i+1),bk:=D.nx } ĩ H2) (hd:∀ σ H,Pv n σ H->D.nx σ H) :
  ∃ W:Nat->Nat->L2.St->Hp->Prop,(∃ m,W 0 m σ H)/\∀ i m σ H,W i m σ H ->
   ((xg lo c n).stop i H/\D.nx σ H)\/((xg lo c n).go i H/\∃ N:L2.St->Hp->Prop,(∀ ĺ H',N ĺ H'->∃ m',m'<m/\W (i+1) m' ĺ H')/\∀ x H',(xg lo c n).x_ i H x H'->g x σ H' λ ĩ H2=>tb { D with nx:=N,ct:=N,bk:=D.nx } ĩ H2):=by
 refine⟨λ i m σ H=>m=n-i/\i<=n/\Pv i σ H,⟨n,by simp,Nat.zero_le _,h0⟩,?_⟩
 rintro i m σ H ⟨rfl,hi,p⟩;by_cases ş:i<n
 ·refine .inr ⟨ş,Pv (i+1),λ ĺ H' p'=>⟨n-(i+1),ad,rfl,ş,p'⟩,λ x H' y=>?_⟩;obtain⟨e,y⟩:=y;subst e y;exact hs i σ _ ş p
 ·have e:i=n:=ad;subst e;exact .inl ⟨Å _,hd σ H p⟩
section
variable {K:Frag}{te:TE}{tt:TT}{g:TG}{k:Nat}{cap:L2.St}{D:Addr}{H1:Hp}{Q:Hp->Prop}{a:Addr}{xs:List V}
theorem lX (Pv:Nat->List V->Hp->Prop)(hz:xs.length<sizeLine)(h0:Pv 0 [] (ak H1 D (.lst [])))(hl:∀ i ys H,Pv i ys H->Ğ K H a xs)
  (hs:∀(i:Nat) x ys H p,xs[i]?\x->ys.length<=i->H D\.lst ys->Pv i ys H->H p=none->∀ os:L2.St,os.length=k->∀ N:List V->Hp->Prop,(∀ δ H',Pv (i+1) δ H'->δ.length<=i+1->H' D\.lst δ->N δ H') ->
   g (.ref p) (os++cap) (ak H p (.tup [.int (i:Nat),x])) λ ĩ H0=>(∃ ĵ:L2.St,ĵ.length=k/\ĩ = ĵ ++ cap)/\tt ĩ H0 λ b H5=>(b=false->N ys H5)/\(b=true->te ĩ H5 λ y H4=>H4 D\.lst ys/\N (ys ++ [y]) (ak H4 D (.lst (ys ++ [y])))))
  (hd:∀ ys H,ys.length<=xs.length->H D\.lst ys->Pv xs.length ys H->Q H) :
  ∃ W:Nat->Nat->List V->Hp->Prop,(∃ m,W 0 m [] (ak H1 D (.lst []))) /\
   ∀ i m ys H2,W i m ys H2->H2 D\.lst ys/\(((AZ K a).stop i H2/\Q H2)\/((AZ K a).go i H2/\ys.length<sizeLine /\
    ∀ x H3,(AZ K a).x_ i H2 x H3->∀ os:L2.St,os.length=k->g x (os++cap) H3 λ ĩ H0=>(∃ ĵ:L2.St,ĵ.length=k/\ĩ = ĵ ++ cap)/\tt ĩ H0 λ b H5=>(b=false->∃ m',m'<m/\W (i+1) m' ys H5) /\
     (b=true->te ĩ H5 λ y H4=>H4 D\.lst ys/\∃ m',m'<m/\W (i+1) m' (ys ++ [y]) (ak H4 D (.lst (ys ++ [y])))))):=by
 refine⟨λ i m ys H=>m=xs.length-i/\i<=xs.length/\ys.length<=i/\H D\.lst ys/\Pv i ys H,⟨xs.length,by simp,Nat.zero_le _,Nat.le_refl _,bz,h0⟩,?_⟩
 rintro i m ys H ⟨rfl,hi,hy,Ŕ,p⟩;refine⟨Ŕ,?_⟩;have q:=hl i ys H p;by_cases ş:i<xs.length
 ·refine .inr ⟨⟨xs,xs[i],q,by simp[ş]⟩,ad,λ x H' y os ų=>?_⟩
  obtain⟨p',z,rfl,Qx,rfl,hz'⟩:=y;exact hs i z ys H p' (hz' xs q) hy Ŕ p Qx os ų (λ δ Pa=>∃ m',m'<xs.length-i/\(m'=xs.length-(i+1)/\i+1<=xs.length/\δ.length<=i+1/\Pa D\.lst δ/\Pv (i+1) δ Pa)) λ δ Pa p' l' d'=>⟨xs.length-(i+1),ad,rfl,ş,l',d',p'⟩
 ·have e:i=xs.length:=ad;subst e;exact .inl ⟨⟨xs,q,Å _⟩,hd ys H hy Ŕ p⟩
end
end My
namespace My
def Sg (n:Nat)(f:Nat->Int):Int:=((List.range n).map f).sum
theorem zU (n:Nat)(f:Nat->Int):Sg (n+1) f=Sg n f+f n:=by
 unfold Sg;rw[η,Ø,ē];simp
theorem qd (n:Nat)(p:Nat->Bool)(f:Nat->Int):(((List.range n).filter p).map f).sum=Sg n (λ i=>if p i=true then f i else 0):=by
 induction n with
 | zero=>rfl
 | succ n ih =>
  rw[η,d_,Ø,ē,ih,zU]
  congr 1
  rw[Ů];split <;> simp
def bt (x:Int)(i:Nat):Bool:=decide (x/2^i%2=1)
def lH (x:Int)(ns:List Int):Int:=Sg ns.length (λ i=>if bt x i=true then ns.getD i 0 else 0)
end My
namespace My
open PySem PySem.W L2
def oC (K:Frag)(i:Nat):TE:=jw (λ xs H Q=>∃ p ys,xs=[.ref p]/\(Ğ K H p ys\/Ĭ K H p ys)/\Q (.int ys.length) H) (aw (af i) aS)
def Ic (K:Frag):TG:=jD K 2 (bu (aJ 0) (bu (aJ 1) jd))
section
variable {P:Program}{w:World}{K:Frag}{mg:bD}{base:Heap}{f a1 a2:Addr}{fd d1 d2:FuncData}
abbrev Dx:Stmt:=bT 69
theorem Kq:ag ["scores","dealing"] ["scores","dealing"] (aa Dx):=aL
abbrev Kf:Scope:=gR [("at",.local),("score",.local),("hand_of",.globalImplicit),("dealing",.free)]
theorem Hs:((["at","score"]:List Str)++(["dealing"]:List Str)).Nodup:=aF
def Hz:Sp:=λ vs H Q _=>∃(l:Addr)(ns:List Int)(x:Int),vs=[.ref l,.int x]/\H l\.lst (ns.map V.int)/\ns.length<=20/\0<=x/\x<2^ns.length/\∀ H',Ext H H'->Q (.int (lH x ns)) H'
def Ga:TT:=tB (bR uW (cV wB [] E0 (aw (af 2) (aw (af 0) aS))) (tC (.int 1)))
def LR (K:Frag):TS:=aO (jW (cV uZ [] E0 (aw (af 1) (aw (oC K 0) aS)))) (cH (jw (gY K) (aw (ig (pU K (aw (af 0) aS)) 2 [1] (Ic K) Ga (af 1)) aS)))
section
variable {cdv:Value}{A:Around}{outer:List Env}{s:Shared}{H:Hp}{E:XK}
theorem CG:cJ (b9 az P w K mg base ["scores","dealing"] "value_of" (aa Dx) f cdv A outer s H E).K' Kf [("dealing",s.heap.objs.size+1)] ["at","score"] ["dealing"] [1] :=
 dk (M:=["dealing"]) (L:=[(".0",.local),("at",.local),("score",.local),("hand_of",.globalImplicit),("dealing",.cell)]) rfl rfl aF aF aF rfl rfl rfl aF aF rfl rfl rfl
theorem DU (A1:Df P w K mg base az 3 "need_hands" ["thing","folk"] uZ a1 d1) (A2:Df P w K mg base az 1 "hand_of" ["dealing","at"] wB a2 d2) (mn:mg "len" = none) (ms:mg "sum" = none) (me:mg "enumerate" = none) (hr:rE 3 "value_of" Dx A s f cdv) :
  Bx (ο (b9 az P w K mg base ["scores","dealing"] "value_of" (aa Dx) f cdv A outer s H E).K' (aH Dx) (LR K)):=by
 have Ń:Ă 1 _:=hr.mono av;exact da ⟨aG (cg A1 hr aj (ae (pv 1) (ae (ao aY rfl mn ě (ae (pv 0) aq)) aq)))⟩
  (bI (kh ⟨ao (bX rfl) rfl ms ă (ae (fE (te:=af 1) (tt:=Ga) (g:=Ic K) rfl CG (ip rfl me (ae (pv 0) aq)) (λ s H C fp=>by exact bq rfl (cL (bK (i:=0) Hs rfl (.inl rfl)) (cL (bK (i:=1) Hs rfl (.inl rfl)) aR))) (λ s H C fp=>by exact ay iO (cg A2 Ń aj (ae (pv 2) (ae (pv 0) aq))) aB (ax _)) (λ s H C fp=>by exact pv 1)) aq)⟩))
end
theorem HD (F:Ļ K "value_of" "value_of" Dx f fd) (A1:Df P w K mg base az 3 "need_hands" ["thing","folk"] uZ a1 d1) (A2:Df P w K mg base az 1 "hand_of" ["dealing","at"] wB a2 d2) (mn:mg "len" = none) (ms:mg "sum" = none) (me:mg "enumerate" = none):ð P w K mg base az 4 f fd ["scores","dealing"] Hz:=by
 refine cj F Kq λ cdv A outer s H vs Q E hr h=>?_;obtain⟨l,ns,x,rfl,hl,NS,x0,x1,q⟩:=h;obtain⟨Oz⟩:=DU A1 A2 mn ms me hr (f:=f) (cdv:=cdv) (A:=A) (outer:=outer) (s:=s) (H:=H) (E:=E);refine⟨_,Oz,?_⟩;have sz:=è;refine EJ ⟨_,rfl,_,rfl,l,_,rfl,.inl (Ğ.of hl),x,ns.length,by rw[Ç];rfl,NS,x0,x1,?_⟩
 refine⟨_,rfl,l,rfl,⟨_,Ğ.of hl⟩,λ D hD=>?_⟩;refine lX (a:=l) (xs:=ns.map V.int) (cap:=[some (.int x)]) (λ i ys H'=>Ext H H'/\ys=(((List.range i).filter (bt x)).map λ j=>ns.getD j 0).map V.int) (by rw[Ç];lia) ⟨Ext.new hD,rfl⟩ (λ i ys H' pv=>Ğ.of (pv.1 _ _ hl)) ?_ ?_
 ·rintro i y ys H' p ey ly v_ ⟨x',Qn⟩ hp os ų N kN;obtain⟨o0,o1,rfl⟩:∃ o0 o1,os=[o0,o1]:=by
   match os,ų with
   | [o0,o1],_=>exact⟨o0,o1,rfl⟩
  rw[Ô] at ey;obtain⟨n,en,rfl⟩:=Û.mp ey;have xp:=Ext.new (o:=.tup [.int (i:Nat),.int n]) hp;have gp:ak H' p (.tup [.int (i:Nat),.int n]) p\.tup [.int (i:Nat),.int n]:=bz;generalize ak H' p (.tup [.int (i:Nat),.int n])=H2 at xp gp ⊢;have x2:=x'.trans xp;refine⟨p,_,rfl,Ĭ.of gp,rfl,_,_,rfl,_,_,rfl,rfl,⟨[some (.int (i:Nat)),some (.int n)],rfl,rfl⟩,?_⟩;refine⟨_,rfl,_,rfl,x,i,rfl,rfl,_,rfl,?_⟩;have ei:((List.range (i+1)).filter (bt x)).map (λ j=>ns.getD j 0)=((List.range i).filter (bt x)).map (λ j=>ns.getD j 0)++(if bt x i=true then [n] else []):=by
   rw[η,d_,Ø]
   congr 1
   rw[Ů];split
   ·show [ns.getD i 0]=[n];rw[ą,en];rfl
   ·rfl
  by_cases e:x/2^i%2=1
  ·have eb:bt x i=true:=Ê e;rw[Ê (ý V.int e)];refine⟨λ z=>(by cases z),λ _=>⟨_,rfl,xp _ _ v_,kN _ _ ⟨aZ _ x2 hD,?_⟩ (by rw[Õ];show ys.length+1<=i+1;lia) bz⟩⟩
   rw[ei,Ë eb,Ø,<- Qn];rfl
  ·have eb:bt x i=false:=Ò e;rw[Ò (λ z=>e (V.int.inj z))];refine⟨λ _=>kN ys H2 ⟨x2,?_⟩ ad (xp _ _ v_),λ z=>(by cases z)⟩
   rw[ei,eb,Æ av,Ľ];exact Qn
 ·rintro ys H' ly v_ ⟨x',Qn⟩;rw[Ç] at Qn;rw[Qn] at v_;refine⟨D,_,rfl,Ğ.of v_,?_⟩;rw[qd];exact q H' x'
end
end My
namespace Ts
open PySem PyProof.Rows
def N0:Bool->Keyed->Array Keyed->Nat->Nat->Nat->StateT SortSt Sem (Option Nat):=sortPriv% PySem.Builtin.gallop
theorem p9 {M A E s}{st:SortSt}{Q:Keyed->SortSt->Prop}{arr:Array Keyed}{i:Nat}{p:Keyed}(h:arr[i]?\p)(q:Q p st):wpS M A E s (elem' arr i) Q st:=by
 rw[elem'_eq,h];exact Ñ q
theorem nh {prog w A E s}{st:SortSt}{Q:Option Bool->SortSt->Prop}{x y:Keyed}{a b:Int}{t u:Tok}(hk:kindOf st=oneType')(hx:x.1=.int a t)(hy:y.1=.int b u)(q:Q (some (decide (a<b))) st):wpS (model prog w) A E s (lt' x y) Q st:=by
 rw[lt'_eq];refine Î (NB ?_);refine Î (wpS_lift ?_);rw[hk,keyLt'_oneType,hx,hy];exact ň (oneLt_int ⟨rfl,Ñ q⟩)
def gP (left:Bool)(key:Keyed)(arr:Array Keyed)(j:Nat):Bool:=if left then decide (K arr j<numOf key.1) else !decide (numOf key.1<K arr j)
theorem xE {arr:Array Keyed}{i:Nat}{p:Keyed}(h:arr[i]?\p):K arr i=numOf p.1:=by
 unfold K;rw[h]
theorem jI {prog w A E s}{st:SortSt}{R:Option Bool->SortSt->Prop}{left:Bool}{key:Keyed}{arr:Array Keyed}{j:Nat}{c:Int}{t:Tok}(hk:kindOf st=oneType')(hc:key.1=.int c t)(hA:IntKeys arr)(hj:j<arr.size)(q:R (some (gP left key arr j)) st) :
  wpS (model prog w) A E s (do
   let x <- elem' arr j
   if left=true then lt' x key
   else do
    let r <- lt' key x
    pure (Option.map (λ x=>!x) r)) R st:=by
 obtain⟨n,u,hp⟩:=hA arr[j] (by simp)
 have e:arr[j]?=some arr[j]:=by simp[hj]
 refine Î (p9 e ?_);have k1:K arr j=n:=by rw[xE e,hp];rfl
 have k2:numOf key.1=c:=by rw[hc];rfl
 unfold gP at q;rw[k1,k2] at q;split
 ·rename_i h;rw[Ë h] at q;exact nh hk hp hc q
 ·rename_i h;rw[Æ h] at q;exact Î (nh hk hc hp (Ñ q))
theorem wC {prog w A E s}{st:SortSt}{n:Nat}{B:Nat->Bool}(hB:∀ i j,i<=j->j<n->B j=true->B i=true){f:Nat->Option (Option Nat) × Nat × Nat->StateT SortSt Sem (ForInStep (Option (Option Nat) × Nat × Nat))}{R:Option (Option Nat) × Nat × Nat->SortSt->Prop}
  (hf:∀ j lo hi (R:ForInStep (Option (Option Nat) × Nat × Nat)->SortSt->Prop),lo<=hi->hi<=n->(lo=hi->R (.done (none,lo,hi)) st)->(lo<hi->B (lo+(hi-lo)/2)=true->R (.yield (none,lo+(hi-lo)/2+1,hi)) st)->(lo<hi->B (lo+(hi-lo)/2)=false->R (.yield (none,lo,lo+(hi-lo)/2)) st)->wpS (model prog w) A E s (f j (none,lo,hi)) R st)
  (lo hi:Nat) (h1:lo<=hi) (h2:hi<=n) (h3:∀ i,i<lo->B i=true) (h4:∀ i,hi<=i->i<n->B i=false)
  (q:∀ k,k<=n->(∀ i,i<k->B i=true)->(∀ i,k<=i->i<n->B i=false)->R (none,k,k) st) :
  wpS (model prog w) A E s (forIn [:n] (none,lo,hi) f) R st:=by
 refine Đ (λ j r Ā=>Ā = st/\r.1=none/\r.2.1<=r.2.2/\r.2.2<=n/\r.2.2-r.2.1<=n-j/\(∀ i,i<r.2.1->B i=true)/\(∀ i,r.2.2<=i->i<n->B i=false)) ?_ ?_ ⟨rfl,rfl,h1,h2,by dsimp only;lia,h3,h4⟩
 ·rintro j ⟨r0,lo,hi⟩ Ā - hj ⟨e,e0,a1,a2,a3,a4,a5⟩;subst e;dsimp only at e0 a1 a2 a3 a4 a5 ⊢;subst e0;refine hf j lo hi _ a1 a2 (λ e=>?_) (λ lt b=>?_) λ lt b=>?_
  ·subst e;exact q _ a2 a4 a5
  ·exact⟨rfl,rfl,by dsimp only;lia,a2,by dsimp only;lia,λ i hi=>hB i _ (by dsimp only at hi;lia) ad b,a5⟩
  ·refine⟨rfl,rfl,by dsimp only;lia,by dsimp only;lia,by dsimp only;lia,a4,λ i h1 h2=>?_⟩
   dsimp only at h1
   cases hb:B i with
   | false=>rfl
   | true=>rw[hB _ i h1 h2 hb] at b;exact absurd b av
 ·rintro⟨r0,lo,hi⟩ Ā ⟨e,e0,a1,a2,a3,a4,a5⟩;subst e;dsimp only at e0 a1 a2 a3 a4 a5 ⊢;subst e0;have:lo=hi:=ad;subst this;exact q _ a2 a4 a5
theorem nu {α:Type}{x:StateT SortSt Sem α} {prog w A E s st}{Q:α->SortSt->Prop}(R:(α->SortSt->Prop)->Prop)(h:R Q->wpS (model prog w) A E s x Q st)(k:R Q):wpS (model prog w) A E s x Q st:=h k
theorem fD {prog w A E s}{st:SortSt}{Q:Option Nat->SortSt->Prop}{left:Bool}{key:Keyed}{arr:Array Keyed}{base n hint:Nat}{c:Int}{t:Tok}(hk:kindOf st=oneType')(hc:key.1=.int c t)(hA:IntKeys arr)(hn:base+n<=arr.size)(hh:hint<n)
  (hB:∀ i j,i<=j->j<n->gP left key arr (base+j)=true->gP left key arr (base+i)=true)
  (q:∀ k,k<=n->(∀ i,i<k->gP left key arr (base+i)=true)->(∀ i,k<=i->i<n->gP left key arr (base+i)=false)->Q (some k) st) :
  wpS (model prog w) A E s (N0 left key arr base n hint) Q st:=by
 obtain⟨B,UL⟩:∃ B:Nat->Bool,∀ i,gP left key arr (base+i)=B i:=⟨_,λ _=>rfl⟩;simp only[UL] at hB q;refine Î (jI hk hc hA ad ?_);rw[UL]
 dsimp -zeta only
 extract_lets jp m1 m2
 subst m1 m2;refine nu (λ Q=>∀ x y lo hi,lo<=hi->hi<=n->(∀ i,i<lo->B i=true)->(∀ i,hi<=i->i<n->B i=false)->wpS (model prog w) A E s (jp () x y lo hi) Q st) (λ J=>?_) λ x y lo hi h1 h2 h3 h4=>?_
 ·clear_value jp
  split
  ·rename_i b
   refine Î (Đ (λ j (r:Option (Option Nat) × Nat × Nat) Ā=>Ā = st/\r.1=none/\r.2.1<r.2.2/\hint+r.2.1<n/\j+1<=r.2.2/\B (hint+r.2.1)=true) ?_ ?_ ⟨rfl,rfl,by dsimp only;lia,by dsimp only;omega,by dsimp only;lia,by exact b⟩)
   ·rintro j ⟨r0,lo,hi⟩ Ā - hj ⟨e,e0,a1,a2,a3,a4⟩;subst e;dsimp only at e0 a1 a2 a3 a4 ⊢;subst e0;split
    ·rename_i ge
     refine Ñ (J _ _ (hint+lo+1) (hint+min hi (n-hint)) ?_ ?_ ?_ ?_)
     ·lia
     ·lia
     ·intro i hi;exact hB i _ ad a2 a4
     ·intro i h1 h2;exfalso;lia
    ·rename_i ge
     refine Î (jI hk hc hA ad ?_);rw[UL]
     dsimp only
     split
     ·rename_i nb
      refine Ñ (J _ _ (hint+lo+1) (hint+min hi (n-hint)) ?_ ?_ ?_ ?_)
      ·lia
      ·lia
      ·intro i hi;exact hB i _ ad a2 a4
      ·intro i h1 h2;cases hb:B i with
       | false=>rfl
       | true=>rw[hB (hint+_) i ad h2 hb] at nb;exact absurd nb av
     ·rename_i nb
      exact Ñ ⟨rfl,rfl,by dsimp only;lia,by dsimp only;lia,by dsimp only;lia,by cases hb:B (hint+hi) with | false=>exact absurd (by rw[hb];rfl) nb | true=>rfl⟩
   ·rintro⟨r0,lo,hi⟩ Ā ⟨e,e0,a1,a2,a3,a4⟩;subst e;dsimp only at e0 a1 a2 a3 a4 ⊢;subst e0;refine J _ _ (hint+lo+1) (hint+min hi (n-hint)) ?_ ?_ ?_ ?_
    ·lia
    ·lia
    ·intro i hi;exact hB i _ ad a2 a4
    ·intro i h1 h2;exfalso;lia
  ·rename_i b
   have b':B hint=false:=by cases hb:B hint with | false=>rfl | true=>exact absurd hb b
   refine Î (Đ (λ j (r:Option (Option Nat) × Nat × Nat) Ā=>Ā = st/\r.1=none/\r.2.1<r.2.2/\r.2.1<=hint/\j+1<=r.2.2/\B (hint-r.2.1)=false) ?_ ?_ ⟨rfl,rfl,by dsimp only;lia,by dsimp only;lia,by dsimp only;lia,by exact b'⟩)
   ·rintro j ⟨r0,lo,hi⟩ Ā - hj ⟨e,e0,a1,a2,a3,a4⟩;subst e;dsimp only at e0 a1 a2 a3 a4 ⊢;subst e0;have up:∀ i,hint-lo<=i->i<n->B i=false:=λ i h1 h2=>by
     cases hb:B i with
     | false=>rfl
     | true=>rw[hB _ i h1 h2 hb] at a4;exact absurd a4 av
    split
    ·rename_i ge
     refine Ñ (J _ _ (hint+1-min hi (hint+1)) (hint-lo) ?_ ?_ ?_ up)
     ·lia
     ·lia
     ·intro i hi;exfalso;lia
    ·rename_i ge
     refine Î (jI hk hc hA ad ?_);rw[UL]
     dsimp only
     split
     ·rename_i yb
      refine Ñ (J _ _ (hint+1-min hi (hint+1)) (hint-lo) ?_ ?_ ?_ up)
      ·lia
      ·lia
      ·intro i hi;exact hB i _ ad ad yb
     ·rename_i yb
      exact Ñ ⟨rfl,rfl,by dsimp only;lia,by dsimp only;lia,by dsimp only;lia,by cases hb:B (hint-hi) with | false=>rfl | true=>exact absurd hb yb⟩
   ·rintro⟨r0,lo,hi⟩ Ā ⟨e,e0,a1,a2,a3,a4⟩;subst e;dsimp only at e0 a1 a2 a3 a4 ⊢;subst e0;refine J _ _ (hint+1-min hi (hint+1)) (hint-lo) ?_ ?_ ?_ (λ i h1 h2=>?_)
    ·lia
    ·lia
    ·intro i hi;exfalso;lia
    ·cases hb:B i with
     | false=>rfl
     | true=>rw[hB _ i h1 h2 hb] at a4;exact absurd a4 av
 refine Î (wC hB ?_ lo hi h1 h2 h3 h4 λ k a b c=>Ñ (q k a b c));intro j lo hi R l1 l2 c1 c2 c3
 dsimp only
 split
 ·exact Ñ (c1 ad)
 ·refine Î (jI hk hc hA ad ?_);rw[UL]
  dsimp only
  split
  ·rename_i b;exact Ñ (c2 ad b)
  ·rename_i b;exact Ñ (c3 ad (by simpa using b))
def Ż (l:List Keyed):Prop:=l.Pairwise λ x y=>numOf x.1<=numOf y.1
structure J (a b out:Array Keyed)(ia ib:Nat):Prop where
 pm:out.toList.Perm (a.toList.take ia++b.toList.take ib)
 sa:Ż (out.toList++a.toList.drop ia)
 sb:Ż (out.toList++b.toList.drop ib)
theorem J.symm {a b out:Array Keyed}{ia ib:Nat}(j:J a b out ia ib):J b a out ib ia:=⟨j.pm.trans Ŗ,j.sb,j.sa⟩
theorem J.b {a b out:Array Keyed}{ia ib:Nat}(j:J a b out ia ib)(k:Nat)(h:∀ x∈(b.toList.drop ib).take k,∀ y∈a.toList.drop ia,numOf x.1<=numOf y.1):J a b (out++b.extract ib (ib+k)) ia (ib+k):=by
 have e:(out++b.extract ib (ib+k)).toList=out.toList++(b.toList.drop ib).take k:=by simp[Array.toList_extract]
 refine⟨?_,?_,?_⟩
 ·rw[e,Nw,<- ì];exact j.pm.append_right _
 ·rw[e];have s1:=j.sb;unfold Ż at s1 ⊢;have sa:=j.sa;unfold Ż at sa;rw[đ] at sa ⊢;refine⟨?_,sa.2.1,λ x hx y hy=>?_⟩
  ·exact s1.sublist (List.Sublist.append (List.Sublist.refl _) (N_ _ _))
  ·rw[é] at hx;rcases hx with hx | hx
   ·exact sa.2.2 x hx y hy
   ·exact h x hx y hy
 ·rw[e,ì,<- Ζ,ó];exact j.sb
theorem J.a {a b out:Array Keyed}{ia ib:Nat}(j:J a b out ia ib)(k:Nat)(h:∀ x∈(a.toList.drop ia).take k,∀ y∈b.toList.drop ib,numOf x.1<=numOf y.1):J a b (out++a.extract ia (ia+k)) (ia+k) ib:=(j.symm.b k h).symm
theorem Ż.head {l:List Keyed}{i:Nat}(h:Ż (l.drop i))(hi:i<l.length){y:Keyed}(hy:y∈l.drop i):numOf l[i].1<=numOf y.1:=by
 rw[Ċ hi] at h hy;unfold Ż at h;rw[List.pairwise_cons] at h;rcases Ö.mp hy with e | e
 ·rw[e];exact č _
 ·exact h.1 y e
theorem Ż.right {l m:List Keyed}(h:Ż (l++m)):Ż m:=by
 unfold Ż at h;rw[đ] at h;exact h.2.1
theorem J.b1 {a b out:Array Keyed}{ia ib:Nat}(j:J a b out ia ib)(ha:ia<a.size)(hb:ib<b.size)(h:numOf b[ib].1<=numOf a[ia].1):J a b (out.push b[ib]) ia (ib+1):=by
 have:=j.b 1 λ x hx y hy=>by
  rw[Ċ (by simpa using hb)] at hx
  simp only[List.take_succ_cons,List.take_zero,List.mem_singleton] at hx;subst hx;have t:=Ż.head j.sa.right (by simpa using ha) hy
  simp only[Array.getElem_toList] at t ⊢
  lia
 have e:out++b.extract ib (ib+1)=out.push b[ib]:=by
  apply Array.ext';simp[Array.toList_extract];rw[Ċ (by simpa using hb)]
  simp
 rw[e] at this;exact this
theorem J.a1 {a b out:Array Keyed}{ia ib:Nat}(j:J a b out ia ib)(ha:ia<a.size)(hb:ib<b.size)(h:numOf a[ia].1<=numOf b[ib].1):J a b (out.push a[ia]) (ia+1) ib:=(j.symm.b1 hb ha h).symm
def vE (a b r:Array Keyed):Prop:=r.toList.Perm (a.toList++b.toList)/\Ż r.toList
theorem J.done {a b out:Array Keyed}{ia ib:Nat}(j:J a b out ia ib)(h:ib=b.size):vE a b (out++a.extract ia++b.extract ib):=by
 have e:(out++a.extract ia++b.extract ib).toList=out.toList++a.toList.drop ia:=by
  subst h;simp[Array.toList_extract];exact ō (by simp)
 constructor
 ·rw[e];refine(j.pm.append_right _).trans ?_;subst h;rw[ō (show b.toList.length<=b.size by simp),List.append_assoc]
  refine(ī _ Ŗ).trans ?_;rw[<- ì,ó]
 ·rw[e];exact j.sa
theorem J.last {a b out:Array Keyed}{ia ib:Nat}(j:J a b out ia ib)(h:ia+1=a.size)(hl:∀ x∈b.toList,numOf x.1<K a (a.size-1)):vE a b (out++b.extract ib++a.extract ia):=by
 have e:(out++b.extract ib++a.extract ia).toList=out.toList++b.toList.drop ib++a.toList.drop ia:=by
  simp[Array.toList_extract];rw[ō (by simp),List.take_of_length_le (by simp)]
 have d:a.toList.drop ia=[a[ia]]:=by
  rw[Ċ (by simp;lia),List.drop_of_length_le (by simp;lia)]
  simp
 have kl:K a (a.size-1)=numOf a[ia].1:=by
  have:a.size-1=ia:=ad;rw[this];exact xE (by simp)
 constructor
 ·rw[e];refine((j.pm.append_right _).append_right _).trans ?_;rw[ì,ì,<- ì (b.toList.take ib),ó];refine(ī _ Ŗ).trans ?_;rw[<- ì,ó]
 ·rw[e];have s1:=j.sb;have s2:=j.sa;unfold Ż at s1 s2 ⊢;rw[đ] at s2 ⊢;refine⟨s1,s2.2.1,λ x hx y hy=>?_⟩;rw[é] at hx;rcases hx with hx | hx
  ·exact s2.2.2 x hx y hy
  ·rw[d,Í] at hy;have:=hl x (List.mem_of_mem_drop hx);rw[hy];lia
def P':Array Keyed->Array Keyed->StateT SortSt Sem (Array Keyed):=sortPriv% PySem.Builtin.mergeLo
def Nk:Nat->StateT SortSt Sem Unit:=sortPriv% PySem.Builtin.setMinGallop
def œ (st Ā:SortSt):Prop:=kindOf Ā = kindOf st/\arrOf Ā = arrOf st/\pendingOf Ā = pendingOf st/\failedOf Ā = failedOf st
theorem œ.refl (st:SortSt):œ st st:=⟨rfl,rfl,rfl,rfl⟩
theorem œ.trans {a b c:SortSt}(h:œ a b)(g:œ b c):œ a c:=⟨g.1.trans h.1,g.2.1.trans h.2.1,g.2.2.1.trans h.2.2.1,g.2.2.2.trans h.2.2.2⟩
theorem jP {M A E s}{st:SortSt}{g:Nat}{Q:Unit->SortSt->Prop}(h:∀ Ā,œ st Ā->Q () Ā):wpS M A E s (Nk g) Q st :=
 MZ (h _ ⟨rfl,rfl,rfl,rfl⟩)
theorem eS {prog w A E s}{st:SortSt}{x:String}{Q:Unit->SortSt->Prop}(h:Q () st):wpS (model prog w) A E s (liftM (rule x):StateT SortSt Sem Unit) Q st :=
 wpS_lift (Pc ⟨rfl,h⟩)
theorem bN {M A E s}{st:SortSt}{Q:Keyed->SortSt->Prop}{arr:Array Keyed}{i:Nat}(h:i<arr.size)(q:Q arr[i] st):wpS M A E s (elem' arr i) Q st :=
 p9 (by simp[h]) q
theorem fK {arr:Array Keyed}(h:IntKeys arr){i:Nat}(hi:i<arr.size):∃ t,arr[i].1=.int (numOf arr[i].1) t:=by
 obtain⟨n,t,e⟩:=h arr[i] (by simp)
 exact⟨t,by rw[e];rfl⟩
theorem am {M A E s}{α:Type}{st:SortSt}{c:Prop} [d:Decidable c] {x y:StateT SortSt Sem α}{Q:α->SortSt->Prop}(h1:c->wpS M A E s x Q st)(h2:¬c->wpS M A E s y Q st):wpS M A E s (if c then x else y) Q st:=by
 split
 ·exact h1 ‹_›
 ·exact h2 ‹_›
def Lv (a b out:Array Keyed)(ia ib:Nat):Prop:=J a b out ia ib/\ia+1<a.size/\ib<b.size
theorem bB {arr:Array Keyed}{i:Nat}(h:i<arr.size):K arr i=numOf arr[i].1:=xE (by simp[h])
theorem Ba {arr:Array Keyed}{o i:Nat}(h:Ż (arr.toList.drop o)){j:Nat}(h1:o<=i)(h2:i<=j)(h3:j<arr.size):K arr i<=K arr j:=by
 have e:K arr j=numOf arr[j].1:=bB h3;rw[e,bB ad];have s':Ż (arr.toList.drop i):=by
  unfold Ż at h ⊢;have:i=o+(i-o):=ad;rw[this,<- Ζ];exact h.sublist (List.drop_sublist _ _)
 have hj:arr[j]∈arr.toList.drop i:=by
  rw[MJ];refine⟨j-i,by simp;lia,?_⟩
  simp only[List.getElem_drop,Array.getElem_toList]
  congr 1
  lia
 have:=Ż.head s' (by simp;lia) hj
 simpa using this
theorem bh {arr:Array Keyed}{o k:Nat}{x:Keyed}(h:x∈(arr.toList.drop o).take k):∃ i,i<k/\o+i<arr.size/\numOf x.1=K arr (o+i):=by
 rw[MJ] at h;obtain⟨i,hi,e⟩:=h;simp only[List.length_take,List.length_drop,Array.length_toList] at hi;have hj:o+i<arr.size:=ad;refine⟨i,ad,hj,?_⟩;rw[<- e,bB hj];simp
theorem qb {arr:Array Keyed}{o:Nat}{x:Keyed}(h:x∈arr.toList.drop o):∃ j,o<=j/\j<arr.size/\numOf x.1=K arr j:=by
 rw[MJ] at h;obtain⟨i,hi,e⟩:=h;simp only[List.length_drop,Array.length_toList] at hi;have hj:o+i<arr.size:=ad;refine⟨o+i,ad,hj,?_⟩;rw[<- e,bB hj];simp
theorem rZ {prog w A E s}{st:SortSt}{Q:Option Nat->SortSt->Prop}{left:Bool}{key:Keyed}{arr:Array Keyed}{o:Nat}{t:Tok}(hk:kindOf st=oneType')(hc:key.1=.int (numOf key.1) t)(hA:IntKeys arr)(ho:o<arr.size)(hs:Ż (arr.toList.drop o))
  (q:∀ k,o+k<=arr.size->(∀ i,i<k->gP left key arr (o+i)=true)->(∀ i,k<=i->o+i<arr.size->gP left key arr (o+i)=false)->Q (some k) st) :
  wpS (model prog w) A E s (N0 left key arr o (arr.size-o) 0) Q st:=by
 refine fD hk hc hA ad ad (λ i j h1 h2 h3=>?_) λ k h1 h2 h3=>q k ad h2 λ i a b=>h3 i a ad;have:=Ba hs (i:=o+i) (j:=o+j) ad ad ad;unfold gP at h3 ⊢;cases left <;> simp at h3 ⊢ <;> lia
theorem pH {prog w A E s}{st:SortSt}{Q:Array Keyed->SortSt->Prop}{a b:Array Keyed}(hk:kindOf st=oneType')(hA:IntKeys a)(hB:IntKeys b)(sa:Ż a.toList)(sb:Ż b.toList)(na:0<a.size)(nb:0<b.size)
  (hf:K b 0<=K a 0) (hl:∀ x∈b.toList,numOf x.1<K a (a.size-1)) (q:∀ r Ā,vE a b r->œ st Ā->Q r Ā) :
  wpS (model prog w) A E s (P' a b) Q st:=by
 have j0:J a b #[] 0 0:=⟨by simp,by simpa using sa,by simpa using sb⟩
 have j1:=j0.b1 na nb (by rw[bB nb,bB na] at hf;exact hf)
 refine Î (eS ?_);refine Î (bN nb ?_);refine am (λ h=>?_) λ h1=>?_
 ·exact Ñ (q _ _ (j1.done (by simpa using h)) (œ.refl _))
 refine am (λ h=>?_) λ h2=>?_
 ·exact Ñ (q _ _ (j1.last (by simpa using h) hl) (œ.refl _))
 have g1:¬ 1=b.size:=by simpa using h1
 have g2:¬ 0+1=a.size:=by simpa using h2
 refine Î (NB ?_);refine Î (Đ (λ j (r:Option (Array Keyed) × Array Keyed × Nat × Nat × Nat) Ā=>r.1=none/\Lv a b r.2.1 r.2.2.1 r.2.2.2.1/\j+1<=r.2.2.1+r.2.2.2.1/\œ st Ā) ?_ ?_ ⟨rfl,⟨by simpa using j1,by dsimp only;lia,by dsimp only;lia⟩,by dsimp only;lia,œ.refl _⟩)
 ·rintro j ⟨r0,out,ia,ib,mg⟩ y_-hj ⟨e0,lv,pr,sm⟩
  dsimp only at e0 lv pr;subst e0
  refine Î (j_ (Đ (Q:=λ (r:Option (Array Keyed) × Array Keyed × Nat × Nat × Nat × Nat) Ā=>œ st Ā/\((∃ o,r.1\o/\vE a b o)\/(r.1=none/\Lv a b r.2.1 r.2.2.1 r.2.2.2.1/\ia+ib+1<=r.2.2.1+r.2.2.2.1))) (λ i (r:Option (Array Keyed) × Array Keyed × Nat × Nat × Nat × Nat) Ā=>r.1=none/\Lv a b r.2.1 r.2.2.1 r.2.2.2.1/\ia+ib+i<=r.2.2.1+r.2.2.2.1/\œ st Ā) ?_ ?_ ⟨rfl,lv,by dsimp only;lia,sm⟩) ?_)
  ·rintro i ⟨r0,out,ja,jb,ac,bc⟩ Ű - hi ⟨e0,⟨jj,b1,b2⟩,P5,MC⟩
   dsimp only at e0 jj b1 b2 P5;subst e0
   obtain⟨t1,k1⟩:=fK hB b2;obtain⟨t2,k2⟩:=fK hA (i:=ja) ad;refine Î (bN b2 (Î (bN (show ja<a.size by lia) (Î (nh (MC.1.trans hk) k1 k2 ?_)))))
   refine am (λ c=>?_) λ c=>?_
   ·refine Î (bN b2 ?_);have jn:=jj.b1 ad b2 (by have:=Þ c;lia)
    refine am (λ e=>Ñ ⟨MC,.inl ⟨_,rfl,jn.done (by simpa using e)⟩⟩) λ e=>?_
    have e':¬ jb+1=b.size:=by simpa using e
    refine am (λ _=>?_) λ _=>?_
    ·exact Ñ ⟨MC,.inr ⟨rfl,⟨jn,b1,by dsimp only;lia⟩,by dsimp only;lia⟩⟩
    ·exact Ñ ⟨rfl,⟨jn,b1,by dsimp only;lia⟩,by dsimp only;lia,MC⟩
   ·refine Î (bN (show ja<a.size by lia) ?_)
    have jn:=jj.a1 ad b2 (by have:¬ _:=λ h=>c (Ê h);lia)
    refine am (λ e=>Ñ ⟨MC,.inl ⟨_,rfl,jn.last (by simpa using e) hl⟩⟩) λ e=>?_
    have e':¬ ja+1+1=a.size:=by simpa using e
    refine am (λ _=>?_) λ _=>?_
    ·exact Ñ ⟨MC,.inr ⟨rfl,⟨jn,by dsimp only;lia,b2⟩,by dsimp only;lia⟩⟩
    ·exact Ñ ⟨rfl,⟨jn,by dsimp only;lia,b2⟩,by dsimp only;lia,MC⟩
  ·rintro⟨r0,out,ja,jb,ac,bc⟩ Ű ⟨e0,l2,P5,MC⟩;exact⟨MC,.inr ⟨e0,l2,by rw[show max 0 (a.size+b.size)=a.size+b.size by lia] at P5;lia⟩⟩
  ·rintro⟨r0,out,ja,jb,ac,bc⟩ Ű ⟨MC,⟨o,e,ho⟩ | ⟨e0,l2,P5⟩⟩
   ·dsimp only at e;subst e
    exact Ñ (Ñ (q _ _ ho MC))
   dsimp only at e0 l2 P5;subst e0
   refine Î (eS ?_);refine Î (j_ (Đ (Q:=λ (r:Option (Array Keyed) × Array Keyed × Nat × Nat × Nat × Nat × Nat) Ā=>œ st Ā/\((∃ o,r.1\o/\vE a b o)\/(r.1=none/\Lv a b r.2.1 r.2.2.1 r.2.2.2.1/\ja+jb<=r.2.2.1+r.2.2.2.1))) (λ i (r:Option (Array Keyed) × Array Keyed × Nat × Nat × Nat × Nat × Nat) Ā=>r.1=none/\Lv a b r.2.1 r.2.2.1 r.2.2.2.1/\ja+jb<=r.2.2.1+r.2.2.2.1/\œ st Ā) ?_ ?_ ⟨rfl,l2,by dsimp only;lia,MC⟩) ?_)
   ·rintro i ⟨r0,out,pa,pb,mg,ac,bc⟩ k_-hi ⟨e0,⟨jj,b1,b2⟩,P4,Pk⟩
    dsimp only at e0 jj b1 b2 P4;subst e0
    extract_lets _ _ _ _ _ _ _ _ _ _ _ _ Uu
    refine nu (λ Q=>∀ m,wpS (model prog w) A E s (Uu () m) Q k_) (λ J=>?_) ?_
    ·clear_value Uu
     exact am (λ _=>J _) λ _=>J _
    intro m;refine Î (jP λ RW s4=>?_);have Og:=Pk.trans s4;obtain⟨t1,k1⟩:=fK hB b2;have lt:numOf b[pb].1<K a (a.size-1):=hl _ (by simp)
    refine Î (bN b2 ?_);refine Î (rZ (o:=pa) (Og.1.trans hk) k1 hA ad (by exact jj.sa.right) λ k l1 l2 l3=>?_)
    have w2:∀ i,i<k->K a (pa+i)<=numOf b[pb].1:=λ i hi=>by
     have:=l2 i hi;unfold gP at this
     simpa using this
    have w3:∀ i,k<=i->pa+i<a.size->numOf b[pb].1<K a (pa+i):=λ i hi h=>by
     have:=l3 i hi h;unfold gP at this
     simpa using this
    have kl:pa+k<a.size:=by
     rcases ñ (pa+k) a.size with h | h
     ·exact h
     ·have:=w2 (a.size-1-pa) ad;rw[show pa+(a.size-1-pa)=a.size-1 by lia] at this
      lia
    dsimp -zeta only
    extract_lets _ jp
    refine nu (λ Q=>∀ ua o,J a b o ua pb->pa<=ua->ua+1<a.size->numOf b[pb].1<K a ua->wpS (model prog w) A E s (jp () o ua) Q RW) (λ N=>?_) ?_
    ·clear_value jp
     refine am (λ kp=>?_) λ kz=>?_
     ·have ja2:=jj.a k λ x hx y hy=>by
       obtain⟨i,i1,i2,i3⟩:=bh hx;have:=w2 i i1;have:=Ż.head jj.sb.right (by simpa using b2) hy
       simp only[Array.getElem_toList] at this
       lia
      refine am (λ e=>Ñ ⟨Og,.inl ⟨_,rfl,ja2.last (Ŵ e) hl⟩⟩) λ e=>?_;have e2:¬ pa+k+1=a.size:=λ z=>e (þ.mpr z);refine am (λ e=>absurd (show pa+k=a.size from Ŵ e) ad) λ e=>?_;exact N (pa+k) _ ja2 ad ad (w3 k (Å _) kl)
     ·have k0:k=0:=ad;exact N pa _ jj (Å _) b1 (by have:=w3 0 ad ad;simpa using this)
    clear w2 w3 l1 l2 l3 kl
    intro ua o jn h0 h1 h2;refine Î (bN b2 ?_);have jb1:=J.b1 jn (show ua<a.size by lia) b2 (by rw[bB (show ua<a.size by lia)] at h2;lia)
    refine am (λ e=>Ñ ⟨Og,.inl ⟨_,rfl,jb1.done (Ŵ e)⟩⟩) λ e=>?_;have e':¬ pb+1=b.size:=λ z=>e (þ.mpr z);refine Î (bN (show ua<a.size by lia) ?_)
    obtain⟨t2,k2⟩:=fK hA (show ua<a.size by lia)
    refine Î (rZ (o:=pb+1) (key:=a[ua]'ad) (Og.1.trans hk) k2 hB ad (by exact jb1.sb.right) λ kk l1 l2 l3=>?_)
    have w2:∀ i,i<kk->K b (pb+1+i)<K a ua:=λ i hi=>by
     have:gP true (a[ua]'ad) b (pb+1+i)=true:=l2 i hi;unfold gP at this;rw[Ë rfl,<- bB (show ua<a.size by lia)] at this
     exact Þ this
    have w3:∀ i,kk<=i->pb+1+i<b.size->K a ua<=K b (pb+1+i):=λ i hi h=>by
     have:gP true (a[ua]'ad) b (pb+1+i)=false:=l3 i hi h;unfold gP at this;rw[Ë rfl,<- bB (show ua<a.size by lia)] at this
     have:=of_decide_eq_false this
     lia
    dsimp -zeta only
    extract_lets _ _ Ro
    refine nu (λ Q=>∀ ub o,J a b o ua ub->pb<=ub->ub<b.size->K a ua<=K b ub->wpS (model prog w) A E s (Ro () o ub) Q RW) (λ N=>?_) ?_
    ·clear_value Ro
     refine am (λ kp=>?_) λ kz=>?_
     ·have jb2:=jb1.b kk λ x hx y hy=>by
       obtain⟨i,i1,i2,i3⟩:=bh hx;obtain⟨jx,j1,j2,j3⟩:=qb hy;have:=w2 i i1;have:=Ba jb1.sa.right (i:=ua) (j:=jx) (Å _) j1 j2
       lia
      refine am (λ e=>Ñ ⟨Og,.inl ⟨_,rfl,jb2.done (Ŵ e)⟩⟩) λ e=>?_;have e2:¬ pb+1+kk=b.size:=λ z=>e (þ.mpr z);exact N (pb+1+kk) _ jb2 ad ad (w3 kk (Å _) ad)
     ·have k0:kk=0:=ad;exact N (pb+1) _ jb1 ad ad (by have:=w3 0 ad ad;simpa using this)
    intro ub o jn d0 d2 d3;refine Î (bN (show ua<a.size by lia) ?_)
    have jm:=J.a1 jn (show ua<a.size by lia) d2 (by rw[bB (show ua<a.size by lia),bB d2] at d3;exact d3)
    refine am (λ e=>Ñ ⟨Og,.inl ⟨_,rfl,jm.last (Ŵ e) hl⟩⟩) λ e=>?_;have e':¬ ua+1+1=a.size:=λ z=>e (þ.mpr z);refine am (λ _=>Ñ ⟨Og,.inr ⟨rfl,⟨jm,by dsimp only;lia,d2⟩,by dsimp only;lia⟩⟩) λ _=>Ñ ⟨rfl,⟨jm,by dsimp only;lia,d2⟩,by dsimp only;lia,Og⟩
   ·rintro⟨r0,out,pa,pb,mg,ac,bc⟩ k_ ⟨e0,l3,P4,Pk⟩;exact⟨Pk,.inr ⟨e0,l3,P4⟩⟩
   ·rintro⟨r0,out,pa,pb,mg,ac,bc⟩ k_ ⟨Pk,⟨o,e,ho⟩ | ⟨e0,l3,P4⟩⟩
    ·dsimp only at e;subst e
     exact Ñ (Ñ (q _ _ ho Pk))
    dsimp only at e0 l3 P4;subst e0
    exact Î (jP λ RW s4=>Ñ ⟨rfl,l3,by dsimp only;lia,Pk.trans s4⟩)
 ·rintro⟨r0,out,ia,ib,mg⟩ y_ ⟨e0,⟨jj,b1,b2⟩,pr,sm⟩;exfalso
  dsimp only at b1 b2 pr
  have:max 0 (a.size+b.size)=a.size+b.size:=ad;rw[this] at pr;lia
structure Jh (a b out:Array Keyed)(na nb:Nat):Prop where
 pm:out.toList.Perm (a.toList.drop na++b.toList.drop nb)
 sa:Ż (a.toList.take na++out.toList.reverse)
 sb:Ż (b.toList.take nb++out.toList.reverse)
theorem Jh.symm {a b out:Array Keyed}{na nb:Nat}(j:Jh a b out na nb):Jh b a out nb na:=⟨j.pm.trans Ŗ,j.sb,j.sa⟩
theorem kX {l:List Keyed}{m n:Nat}(h:m<=n):l.take n=l.take m++(l.drop m).take (n-m):=by
 rw[<- Nw];congr 1;lia
theorem Jh.b {a b out:Array Keyed}{na nb:Nat}(j:Jh a b out na nb)(m:Nat)(hm:m<=nb)(h:∀ x∈(b.toList.drop m).take (nb-m),∀ y∈a.toList.take na,numOf y.1<=numOf x.1):Jh a b (out++(b.extract m nb).reverse) na m:=by
 have e:(out++(b.extract m nb).reverse).toList=out.toList++((b.toList.drop m).take (nb-m)).reverse:=by simp[Array.toList_extract]
 have e2:(out++(b.extract m nb).reverse).toList.reverse=(b.toList.drop m).take (nb-m)++out.toList.reverse:=by rw[e];simp
 refine⟨?_,?_,?_⟩
 ·rw[e];refine(j.pm.append (Oa _)).trans ?_;have:b.toList.drop m=(b.toList.drop m).take (nb-m)++b.toList.drop nb:=by
   have:=(ó (nb-m) (b.toList.drop m)).symm;rw[Ζ,show m+(nb-m)=nb by lia] at this
   exact this
  rw[ì];refine ī _ ?_;refine Ŗ.trans ?_;rw[<- this]
 ·rw[e2];have s1:=j.sb;have sa:=j.sa;rw[kX hm,ì] at s1;unfold Ż at s1 sa ⊢;rw[đ] at s1 sa ⊢;refine⟨sa.1,s1.2.1,λ y hy x hx=>?_⟩;rw[é] at hx;rcases hx with hx | hx
  ·exact h x hx y hy
  ·exact sa.2.2 y hy x hx
 ·rw[e2,<- ì,<- kX hm];exact j.sb
theorem Jh.a {a b out:Array Keyed}{na nb:Nat}(j:Jh a b out na nb)(m:Nat)(hm:m<=na)(h:∀ x∈(a.toList.drop m).take (na-m),∀ y∈b.toList.take nb,numOf y.1<=numOf x.1):Jh a b (out++(a.extract m na).reverse) m nb:=(j.symm.b m hm h).symm
theorem Ż.left {l m:List Keyed}(h:Ż (l++m)):Ż l:=by
 unfold Ż at h;rw[đ] at h;exact h.1
theorem iS {arr:Array Keyed}{n:Nat}{x:Keyed}(h:x∈arr.toList.take n):∃ i,i<n/\i<arr.size/\numOf x.1=K arr i:=by
 have:=bh (o:=0) (k:=n) (x:=x) (by simpa using h)
 obtain⟨i,h1,h2,h3⟩:=this;exact⟨i,h1,ad,by simpa using h3⟩
theorem tL {arr:Array Keyed}{n i j:Nat}(h:Ż (arr.toList.take n))(h1:i<=j)(h2:j<n)(h3:j<arr.size):K arr i<=K arr j:=by
 rw[bB h3,bB ad];rcases ñ i j with lt | ge
 ·unfold Ż at h;rw[ů] at h;have:=h i j (by simp;lia) (by simp;lia) lt
  simpa using this
 ·have:i=j:=ad;subst this;exact č _
theorem Jh.b1 {a b out:Array Keyed}{na nb:Nat}(j:Jh a b out na nb)(ha:0<na)(hb:0<nb)(PJ:na<=a.size)(QC:nb<=b.size)(h:K a (na-1)<=K b (nb-1)):Jh a b (out.push (b[nb-1]'ad)) na (nb-1):=by
 have:=j.b (nb-1) ad λ x hx y hy=>by
  obtain⟨i,i1,i2,i3⟩:=bh hx;obtain⟨k,k1,k2,k3⟩:=iS hy;have:i=0:=ad;subst this;have:=tL j.sa.left (i:=k) (j:=na-1) ad ad ad;simp only[Nat.add_zero] at i3
  lia
 have e:out++(b.extract (nb-1) nb).reverse=out.push (b[nb-1]'ad):=by
  apply Array.ext';simp[Array.toList_extract];rw[Ċ (by simp;lia),show nb-(nb-1)=1 by lia]
  simp
 rw[e] at this;exact this
theorem Jh.a1 {a b out:Array Keyed}{na nb:Nat}(j:Jh a b out na nb)(ha:0<na)(hb:0<nb)(PJ:na<=a.size)(QC:nb<=b.size)(h:K b (nb-1)<=K a (na-1)):Jh a b (out.push (a[na-1]'ad)) (na-1) nb:=(j.symm.b1 hb ha QC PJ h).symm
theorem Jh.done {a b out:Array Keyed}{na nb:Nat}(j:Jh a b out na nb)(h:na=0):vE a b (a.extract 0 na++b.extract 0 nb++out.reverse):=by
 have e:(a.extract 0 na++b.extract 0 nb++out.reverse).toList=b.toList.take nb++out.toList.reverse:=by
  subst h;simp[Array.toList_extract]
 constructor
 ·rw[e];refine(ī _ ((Oa _).trans j.pm)).trans ?_;subst h;rw[List.drop_zero];refine(Py _ _ _).trans ?_;rw[ó]
 ·rw[e];exact j.sb
theorem Jh.first {a b out:Array Keyed}{na nb:Nat}(j:Jh a b out na nb)(h:nb=1)(hb:0<b.size)(hf:∀ x∈a.toList,K b 0<numOf x.1):vE a b (b.extract 0 nb++a.extract 0 na++out.reverse):=by
 have e:(b.extract 0 nb++a.extract 0 na++out.reverse).toList=b.toList.take nb++(a.toList.take na++out.toList.reverse):=by
  simp[Array.toList_extract]
 constructor
 ·rw[e];refine(ī _ (ī _ ((Oa _).trans j.pm))).trans ?_;rw[<- ì (a.toList.take na),ó];refine(Py _ _ _).trans ?_;rw[ó]
 ·rw[e];have s1:=j.sa;have s2:=j.sb;unfold Ż at s1 s2 ⊢;rw[đ] at s2 ⊢;refine⟨s2.1,s1,λ y hy x hx=>?_⟩;rw[é] at hx;rcases hx with hx | hx
  ·obtain⟨k,k1,k2,k3⟩:=iS hy;have:k=0:=ad;subst this;have:=hf x (ħ hx)
   lia
  ·exact s2.2.2 y hy x hx
def P_:Array Keyed->Array Keyed->StateT SortSt Sem (Array Keyed):=sortPriv% PySem.Builtin.mergeHi
theorem qm {prog w A E s}{st:SortSt}{Q:Option Nat->SortSt->Prop}{left:Bool}{key:Keyed}{arr:Array Keyed}{n:Nat}{t:Tok}(hk:kindOf st=oneType')(hc:key.1=.int (numOf key.1) t)(hA:IntKeys arr)(h0:0<n)(hn:n<=arr.size)(hs:Ż (arr.toList.take n))
  (q:∀ k,k<=n->(∀ i,i<k->gP left key arr i=true)->(∀ i,k<=i->i<n->gP left key arr i=false)->Q (some k) st) :
  wpS (model prog w) A E s (N0 left key arr 0 n (n-1)) Q st:=by
 refine fD hk hc hA ad ad (λ i j h1 h2 h3=>?_) λ k h1 h2 h3=>q k h1 (λ i a=>by have:=h2 i a;rwa[ŋ] at this) λ i a b=>by have:=h3 i a b;rwa[ŋ] at this
 rw[ŋ] at h3 ⊢;have:=tL hs (i:=i) (j:=j) h1 h2 ad;unfold gP at h3 ⊢;cases left <;> simp at h3 ⊢ <;> lia
def Lh (a b out:Array Keyed)(na nb:Nat):Prop:=Jh a b out na nb/\0<na/\1<nb/\na<=a.size/\nb<=b.size
theorem pM {prog w A E s}{st:SortSt}{Q:Array Keyed->SortSt->Prop}{a b:Array Keyed}(hk:kindOf st=oneType')(hA:IntKeys a)(hB:IntKeys b)(sa:Ż a.toList)(sb:Ż b.toList)(na:0<a.size)(nb:0<b.size)
  (hf:∀ x∈a.toList,K b 0<numOf x.1) (hl:K b (b.size-1)<=K a (a.size-1)) (q:∀ r Ā,vE a b r->œ st Ā->Q r Ā) :
  wpS (model prog w) A E s (P_ a b) Q st:=by
 have j0:Jh a b #[] a.size b.size:=⟨by simp,by rw[List.take_of_length_le (by simp)];simpa using sa,by rw[List.take_of_length_le (by simp)];simpa using sb⟩
 have j1:=j0.a1 na nb (Å _) (Å _) hl;refine Î (eS ?_);refine Î (bN (show a.size-1<a.size by lia) ?_)
 refine am (λ h=>?_) λ h1=>?_
 ·exact Ñ (q _ _ (j1.done (by simpa using h)) (œ.refl _))
 refine am (λ h=>?_) λ h2=>?_
 ·exact Ñ (q _ _ (j1.first (by simpa using h) nb hf) (œ.refl _))
 have g1:¬ a.size-1=0:=by simpa using h1
 have g2:¬ b.size=1:=by simpa using h2
 refine Î (NB ?_);refine Î (Đ (λ j (r:Option (Array Keyed) × Nat × Nat × Array Keyed × Nat) Ā=>r.1=none/\Lh a b r.2.2.2.1 r.2.1 r.2.2.1/\r.2.1+r.2.2.1+j+1<=a.size+b.size/\œ st Ā) ?_ ?_ ⟨rfl,⟨by simpa using j1,by dsimp only;lia,by dsimp only;lia,by dsimp only;lia,by dsimp only;lia⟩,by dsimp only;lia,œ.refl _⟩)
 ·rintro j ⟨r0,ia,ib,out,mg⟩ y_-hj ⟨e0,lv,pr,sm⟩
  dsimp only at e0 lv pr;subst e0
  refine Î (j_ (Đ (Q:=λ (r:Option (Array Keyed) × Nat × Nat × Array Keyed × Nat × Nat) Ā=>œ st Ā/\((∃ o,r.1\o/\vE a b o)\/(r.1=none/\Lh a b r.2.2.2.1 r.2.1 r.2.2.1/\r.2.1+r.2.2.1+1<=ia+ib))) (λ i (r:Option (Array Keyed) × Nat × Nat × Array Keyed × Nat × Nat) Ā=>r.1=none/\Lh a b r.2.2.2.1 r.2.1 r.2.2.1/\r.2.1+r.2.2.1+i<=ia+ib/\œ st Ā) ?_ ?_ ⟨rfl,lv,by dsimp only;lia,sm⟩) ?_)
  ·rintro i ⟨r0,ja,jb,out,ac,bc⟩ Ű - hi ⟨e0,⟨jj,b1,b2,b3,b4⟩,P5,MC⟩
   dsimp only at e0 jj b1 b2 b3 b4 P5;subst e0
   obtain⟨t1,k1⟩:=fK hB (show jb-1<b.size by lia)
   obtain⟨t2,k2⟩:=fK hA (show ja-1<a.size by lia)
   refine Î (bN (show jb-1<b.size by lia) (Î (bN (show ja-1<a.size by lia) (Î (nh (MC.1.trans hk) k1 k2 ?_)))))
   rw[<- bB (show jb-1<b.size by lia),<- bB (show ja-1<a.size by lia)]
   refine am (λ c=>?_) λ c=>?_
   ·refine Î (bN (show ja-1<a.size by lia) ?_)
    have jn:=jj.a1 b1 ad b3 b4 (by have:=Þ c;lia)
    refine am (λ e=>Ñ ⟨MC,.inl ⟨_,rfl,jn.done (by simpa using e)⟩⟩) λ e=>?_
    have e':¬ ja-1=0:=by simpa using e
    refine am (λ _=>?_) λ _=>?_
    ·exact Ñ ⟨MC,.inr ⟨rfl,⟨jn,by dsimp only;lia,b2,by dsimp only;lia,b4⟩,by dsimp only;lia⟩⟩
    ·exact Ñ ⟨rfl,⟨jn,by dsimp only;lia,b2,by dsimp only;lia,b4⟩,by dsimp only;lia,MC⟩
   ·refine Î (bN (show jb-1<b.size by lia) ?_)
    have jn:=jj.b1 b1 ad b3 b4 (by have:¬ _:=λ h=>c (Ê h);lia)
    refine am (λ e=>Ñ ⟨MC,.inl ⟨_,rfl,jn.first (by simpa using e) nb hf⟩⟩) λ e=>?_
    have e':¬ jb-1=1:=by simpa using e
    refine am (λ _=>?_) λ _=>?_
    ·exact Ñ ⟨MC,.inr ⟨rfl,⟨jn,b1,by dsimp only;lia,b3,by dsimp only;lia⟩,by dsimp only;lia⟩⟩
    ·exact Ñ ⟨rfl,⟨jn,b1,by dsimp only;lia,b3,by dsimp only;lia⟩,by dsimp only;lia,MC⟩
  ·rintro⟨r0,ja,jb,out,ac,bc⟩ Ű ⟨e0,l2,P5,MC⟩;exact⟨MC,.inr ⟨e0,l2,by rw[show max 0 (a.size+b.size)=a.size+b.size by lia] at P5;lia⟩⟩
  ·rintro⟨r0,ja,jb,out,ac,bc⟩ Ű ⟨MC,⟨o,e,ho⟩ | ⟨e0,l2,P5⟩⟩
   ·dsimp only at e;subst e
    exact Ñ (Ñ (q _ _ ho MC))
   dsimp only at e0 l2 P5;subst e0
   refine Î (eS ?_);refine Î (j_ (Đ (Q:=λ (r:Option (Array Keyed) × Nat × Nat × Array Keyed × Nat × Nat × Nat) Ā=>œ st Ā/\((∃ o,r.1\o/\vE a b o)\/(r.1=none/\Lh a b r.2.2.2.1 r.2.1 r.2.2.1/\r.2.1+r.2.2.1<=ja+jb))) (λ i (r:Option (Array Keyed) × Nat × Nat × Array Keyed × Nat × Nat × Nat) Ā=>r.1=none/\Lh a b r.2.2.2.1 r.2.1 r.2.2.1/\r.2.1+r.2.2.1<=ja+jb/\œ st Ā) ?_ ?_ ⟨rfl,l2,by dsimp only;lia,MC⟩) ?_)
   ·rintro i ⟨r0,pa,pb,out,mg,ac,bc⟩ k_-hi ⟨e0,⟨jj,b1,b2,b3,b4⟩,P4,Pk⟩
    dsimp only at e0 jj b1 b2 b3 b4 P4;subst e0
    extract_lets _ _ _ _ _ _ _ _ _ _ _ _ Uu
    refine nu (λ Q=>∀ m,wpS (model prog w) A E s (Uu () m) Q k_) (λ J=>?_) ?_
    ·clear_value Uu
     exact am (λ _=>J _) λ _=>J _
    intro m;refine Î (jP λ RW s4=>?_);have Og:=Pk.trans s4;obtain⟨t1,k1⟩:=fK hB (show pb-1<b.size by lia)
    refine Î (bN (show pb-1<b.size by lia) ?_)
    refine Î (qm (n:=pa) (key:=b[pb-1]'ad) (Og.1.trans hk) k1 hA b1 b3 (by exact jj.sa.left) λ ua l1 l2 l3=>?_)
    have w2:∀ i,i<ua->K a i<=K b (pb-1):=λ i hi=>by
     have:gP false (b[pb-1]'ad) a i=true:=l2 i hi;unfold gP at this;rw[<- bB (show pb-1<b.size by lia)] at this
     simpa using this
    have w3:∀ i,ua<=i->i<pa->K b (pb-1)<K a i:=λ i hi h=>by
     have:gP false (b[pb-1]'ad) a i=false:=l3 i hi h;unfold gP at this;rw[<- bB (show pb-1<b.size by lia)] at this
     simpa using this
    dsimp -zeta only
    extract_lets _ _ jp
    refine nu (λ Q=>∀ ua o,Jh a b o ua pb->0<ua->ua<=pa->K a (ua-1)<=K b (pb-1)->wpS (model prog w) A E s (jp () ua o) Q RW) (λ J=>?_) ?_
    ·clear_value jp
     refine am (λ kp=>?_) λ kz=>?_
     ·have Vg:=jj.a ua l1 λ x hx y hy=>by
       obtain⟨i,i1,i2,i3⟩:=bh hx;obtain⟨jx,j1,j2,j3⟩:=iS hy;have:=w3 (ua+i) ad ad;have:=tL jj.sb.left (i:=jx) (j:=pb-1) ad ad ad
       lia
      refine am (λ e=>Ñ ⟨Og,.inl ⟨_,rfl,Vg.done (Ŵ e)⟩⟩) λ e=>?_;have e2:¬ ua=0:=λ z=>e (þ.mpr z);exact J _ _ Vg ad l1 (w2 (ua-1) ad)
     ·have k0:ua=pa:=by have:¬ (pa-ua>0):=kz;lia
      subst k0;exact J _ _ jj b1 l1 (w2 (ua-1) ad)
    clear w2 w3 l1 l2 l3
    intro ua o Vg u1 u2 u3;refine Î (bN (show pb-1<b.size by lia) ?_)
    have jb1:=Jh.b1 Vg u1 ad ad b4 u3;refine am (λ e=>Ñ ⟨Og,.inl ⟨_,rfl,jb1.first (Ŵ e) ad hf⟩⟩) λ e=>?_;have e':¬ pb-1=1:=λ z=>e (þ.mpr z);refine Î (bN (show ua-1<a.size by lia) ?_)
    obtain⟨t2,k2⟩:=fK hA (show ua-1<a.size by lia)
    refine Î (qm (n:=pb-1) (key:=a[ua-1]'ad) (Og.1.trans hk) k2 hB ad ad (by exact jb1.sb.left) λ kk l1 l2 l3=>?_)
    have w2:∀ i,i<kk->K b i<K a (ua-1):=λ i hi=>by
     have:gP true (a[ua-1]'ad) b i=true:=l2 i hi;unfold gP at this;rw[Ë rfl,<- bB (show ua-1<a.size by lia)] at this
     exact Þ this
    have w3:∀ i,kk<=i->i<pb-1->K a (ua-1)<=K b i:=λ i hi h=>by
     have:gP true (a[ua-1]'ad) b i=false:=l3 i hi h;unfold gP at this;rw[Ë rfl,<- bB (show ua-1<a.size by lia)] at this
     have:=of_decide_eq_false this
     lia
    have Vf:0<kk:=by
     rcases NE kk with z | z
     ·have h1:=w3 0 ad ad;have h2:=hf (a[ua-1]'ad) (by simp)
      rw[bB (show ua-1<a.size by lia)] at h1
      lia
     ·exact z
    dsimp -zeta only
    extract_lets _ _ _ Ro
    refine nu (λ Q=>∀ ub o,Jh a b o ua ub->1<ub->ub<=pb->K b (ub-1)<=K a (ua-1)->wpS (model prog w) A E s (Ro () ub o) Q RW) (λ J=>?_) ?_
    ·clear_value Ro
     refine am (λ kp=>?_) λ kz=>?_
     ·have jb2:=jb1.b kk l1 λ x hx y hy=>by
       obtain⟨i,i1,i2,i3⟩:=bh hx;obtain⟨jx,j1,j2,j3⟩:=iS hy;have:=w3 (kk+i) ad ad;have:=tL jb1.sa.left (i:=jx) (j:=ua-1) ad ad ad
       lia
      refine am (λ e=>Ñ ⟨Og,.inl ⟨_,rfl,jb2.first (Ŵ e) ad hf⟩⟩) λ e=>?_;have e2:¬ kk=1:=λ z=>e (þ.mpr z);refine am (λ e=>absurd (show kk=0 from Ŵ e) ad) λ e=>?_;exact J _ _ jb2 ad ad (Ŀ (w2 (kk-1) ad))
     ·have k0:kk=pb-1:=by have:¬ (pb-1-kk>0):=kz;lia
      exact J (pb-1) _ jb1 ad ad (Ŀ (w2 (pb-1-1) ad))
    intro ub o jn d1 d2 d3;refine Î (bN (show ua-1<a.size by lia) ?_)
    have jm:=Jh.a1 jn u1 ad ad ad d3;refine am (λ e=>Ñ ⟨Og,.inl ⟨_,rfl,jm.done (Ŵ e)⟩⟩) λ e=>?_;have e':¬ ua-1=0:=λ z=>e (þ.mpr z);refine am (λ _=>Ñ ⟨Og,.inr ⟨rfl,⟨jm,by dsimp only;lia,d1,by dsimp only;lia,by dsimp only;lia⟩,by dsimp only;lia⟩⟩) λ _=>Ñ ⟨rfl,⟨jm,by dsimp only;lia,d1,by dsimp only;lia,by dsimp only;lia⟩,by dsimp only;lia,Og⟩
   ·rintro⟨r0,pa,pb,out,mg,ac,bc⟩ k_ ⟨e0,l3,P4,Pk⟩;exact⟨Pk,.inr ⟨e0,l3,P4⟩⟩
   ·rintro⟨r0,pa,pb,out,mg,ac,bc⟩ k_ ⟨Pk,⟨o,e,ho⟩ | ⟨e0,l3,P4⟩⟩
    ·dsimp only at e;subst e
     exact Ñ (Ñ (q _ _ ho Pk))
    dsimp only at e0 l3 P4;subst e0
    exact Î (jP λ RW s4=>Ñ ⟨rfl,l3,by dsimp only;lia,Pk.trans s4⟩)
 ·rintro⟨r0,ia,ib,out,mg⟩ y_ ⟨e0,⟨jj,b1,b2,b3,b4⟩,pr,sm⟩;exfalso
  dsimp only at b1 b2 pr
  have:max 0 (a.size+b.size)=a.size+b.size:=ad;rw[this] at pr;lia
theorem DG (l:List Keyed):∀(arr:Array Keyed)(o n:Nat),o+n+l.length<=arr.size->((l.zipIdx n).foldl (λ a x=>a.setIfInBounds (o+x.2) x.1) arr).toList=arr.toList.take (o+n)++l++arr.toList.drop (o+n+l.length):=by
 induction l with
 | nil=>intro arr o n _;simp
 | cons p l ih =>
  intro arr o n h;simp only[List.length_cons] at h;simp only[List.zipIdx_cons,List.foldl_cons];rw[ih _ o (n+1) (by simp;lia)]
  have e1:(arr.setIfInBounds (o+n) p).toList=arr.toList.set (o+n) p:=by simp
  rw[e1];have e2:(arr.toList.set (o+n) p).take (o+(n+1))=arr.toList.take (o+n) ++ [p]:=by
   rw[show o+(n+1)=(o+n)+1 by lia,List.take_succ_eq_append_getElem (by simp;lia)]
   simp;exact List.take_set_of_le (Å _)
  have e3:(arr.toList.set (o+n) p).drop (o+(n+1)+l.length)=arr.toList.drop (o+n+(p::l).length):=by
   rw[List.drop_set_of_lt ad]
   congr 1
   simp;lia
  rw[e2,e3];simp
theorem vF {A1 A2 B1 B2 m:List Keyed}(p:m.Perm (A2++B1))(s:Ż m)(sa:Ż (A1++A2))(sb:Ż (B1++B2))(h1:∀ x∈A1,∀ y∈B1++B2,numOf x.1<=numOf y.1)(h2:∀ x∈B2,∀ y∈A1++A2,numOf y.1<=numOf x.1) :
  Ż (A1++m++B2)/\(A1++m++B2).Perm ((A1++A2)++(B1++B2)):=by
 unfold Ż at *;rw[đ] at sa sb;constructor
 ·rw[đ,đ];refine⟨⟨sa.1,s,λ x hx y hy=>?_⟩,sb.2.1,λ x hx y hy=>?_⟩
  ·rcases é.mp (p.mem_iff.mp hy) with h | h
   ·exact sa.2.2 x hx y h
   ·exact h1 x hx y (ŧ _ h)
  ·rcases é.mp hx with h | h
   ·exact h1 x h y (ã _ hy)
   ·rcases é.mp (p.mem_iff.mp h) with h | h
    ·exact h2 y hy x (ã _ h)
    ·exact sb.2.2 x h y hy
 ·rw[ì,ì];refine ī _ ?_;rw[<- ì];exact p.append_right _
structure L9 (st Ā:SortSt)(i sa na nb p:Nat):Prop where
 kind:kindOf Ā = kindOf st
 failed:failedOf Ā = failedOf st
 pend:pendingOf Ā =((pendingOf st).setIfInBounds i (sa,na+nb,p)).eraseIdxIfInBounds (i+1)
 arr:∃ m:List Keyed,(arrOf Ā).toList=(arrOf st).toList.take sa++m++(arrOf st).toList.drop (sa+(na+nb))/\m.Perm (((arrOf st).toList.drop sa).take (na+nb))/\Ż m
theorem sU {arr:Array Keyed}{o n i j:Nat}(h:Ż ((arr.toList.drop o).take n))(h1:i<=j)(h2:j<n)(h3:o+j<arr.size):K arr (o+i)<=K arr (o+j):=by
 rw[bB h3,bB ad];rcases ñ i j with lt | ge
 ·unfold Ż at h;rw[ů] at h;have:=h i j (by simp;lia) (by simp;lia) lt
  simpa using this
 ·have:i=j:=ad;subst this;exact č _
theorem zR {M A E s}{st Ā:SortSt}{Q:PUnit->SortSt->Prop}(h:Q ⟨⟩ Ā):wpS M A E s (set Ā:StateT SortSt Sem PUnit) Q st :=
 MZ (f:=λ _=>Ā) h
theorem dD {l:List Keyed}{o m n:Nat}:(l.drop o).take (m+n)=(l.drop o).take m++(l.drop (o+m)).take n:=by
 rw[Nw,Ζ]
theorem fT {l:List Keyed}{o n:Nat}:l=l.take o++(l.drop o).take n++l.drop (o+n):=by
 rw[ì,<- Ζ,ó,ó]
theorem Aq {arr:Array Keyed}{a b j:Nat}(h1:j<b-a)(h2:b<=arr.size):K (arr.extract a b) j=K arr (a+j) :=
 K_congr (by rw[Array.getElem?_extract];rw[Ë ad])
theorem ij {arr:Array Keyed}{a b:Nat}:(arr.extract a b).toList=(arr.toList.drop a).take (b-a):=by simp[Array.toList_extract]
theorem rX {arr:Array Keyed}{a b:Nat}(h:IntKeys arr):IntKeys (arr.extract a b):=λ p hp=>h p (by
 rw[ij] at hp;exact List.mem_of_mem_drop (ħ hp))
theorem pY {prog w A E s}{st:SortSt}{Q:Bool->SortSt->Prop}{i sa na nb p p':Nat}(hk:kindOf st=oneType')(hn:failedOf st=none)(hA:IntKeys (arrOf st))(e1:(pendingOf st)[i]?\(sa,na,p))(e2:(pendingOf st)[i+1]?\(sa+na,nb,p'))(n1:0<na)(n2:0<nb)(hz:sa+na+nb<=(arrOf st).size)
  (s1:Ż (((arrOf st).toList.drop sa).take na)) (s2:Ż (((arrOf st).toList.drop (sa+na)).take nb)) (q:∀ Ā,L9 st Ā i sa na nb p->Q true Ā) :
  wpS (model prog w) A E s (mergeAt' i) Q st:=by
 refine Î (NB ?_)
 erw [e1,e2]
 refine Î (zR ?_);obtain⟨t1,k1⟩:=fK hA (i:=sa+na) ad;refine Î (bN (show sa+na<(arrOf st).size by lia) ?_)
 have UO:(∀ x y,x<na->y<nb->K (arrOf st) (sa+x)<=K (arrOf st) (sa+na+y))->∀ Ā,kindOf Ā = kindOf st->failedOf Ā = failedOf st->arrOf Ā = arrOf st->pendingOf Ā =((pendingOf st).setIfInBounds i (sa,na+nb,p)).eraseIdxIfInBounds (i+1)->Q true Ā:=λ h Ā c1 c2 c3 c4=>by
  refine q Ā ⟨c1,c2,c4,_,by rw[c3];exact fT,List.Perm.refl _,?_⟩
  rw[dD];have:=vF (A1:=((arrOf st).toList.drop sa).take na) (A2:=[]) (B1:=[]) (B2:=((arrOf st).toList.drop (sa+na)).take nb) (m:=[]) (by simp) (by unfold Ż;simp) (by simpa using s1) (by simpa using s2) (λ x hx y hy=>by
   obtain⟨u,u1,u2,u3⟩:=bh hx;obtain⟨v,v1,v2,v3⟩:=bh (by simpa using hy)
   have:=h u v u1 v1
   lia) (λ y hy x hx=>by
   obtain⟨u,u1,u2,u3⟩:=bh (by simpa using hx)
   obtain⟨v,v1,v2,v3⟩:=bh hy;have:=h u v u1 v1
   lia)
  simpa using this.1
 refine Î (fD (arr:=arrOf st) (base:=sa) (n:=na) (key:=(arrOf st)[sa+na]'ad) (c:=numOf (arrOf st)[sa+na].1) (t:=t1) hk k1 hA ad n1 (λ x y h1 h2 h3=>?_) λ k kl l2 l3=>?_)
 ·have:=sU s1 h1 h2 ad;unfold gP at h3 ⊢;simp at h3 ⊢
  lia
 have w2:∀ x,x<k->K (arrOf st) (sa+x)<=K (arrOf st) (sa+na):=λ x hx=>by
  have:=l2 x hx;unfold gP at this;rw[<- bB (show sa+na<(arrOf st).size by lia)] at this
  simpa using this
 have w3:∀ x,k<=x->x<na->K (arrOf st) (sa+na)<K (arrOf st) (sa+x):=λ x hx h=>by
  have:=l3 x hx h;unfold gP at this;rw[<- bB (show sa+na<(arrOf st).size by lia)] at this
  simpa using this
 have b0:∀ y,y<nb->K (arrOf st) (sa+na)<=K (arrOf st) (sa+na+y):=λ y hy=>by
  have:=sU s2 (i:=0) (j:=y) ad hy ad
  simpa using this
 refine am (λ e=>Ñ (UO (λ x y hx hy=>?_) _ rfl rfl rfl rfl)) λ e=>?_
 ·have e':na-k=0:=by simpa using e
  have:=w2 x ad;have:=b0 y hy
  lia
 have e':¬ na-k=0:=by simpa using e
 rw[show sa+k+(na-k)-1=sa+na-1 by lia]
 obtain⟨t2,k2⟩:=fK hA (i:=sa+na-1) ad;refine Î (bN (show sa+na-1<(arrOf st).size by lia) ?_)
 refine Î (fD (arr:=arrOf st) (base:=sa+na) (n:=nb) (hint:=nb-1) (key:=(arrOf st)[sa+na-1]'ad) (c:=numOf (arrOf st)[sa+na-1].1) (t:=t2) hk k2 hA ad ad (λ x y h1 h2 h3=>?_) λ kb kbl m2 m3=>?_)
 ·have:=sU s2 h1 h2 ad;unfold gP at h3 ⊢;simp at h3 ⊢
  lia
 have v2:∀ y,y<kb->K (arrOf st) (sa+na+y)<K (arrOf st) (sa+na-1):=λ y hy=>by
  have:=m2 y hy;unfold gP at this;rw[<- bB (show sa+na-1<(arrOf st).size by lia)] at this
  simpa using this
 have v3:∀ y,kb<=y->y<nb->K (arrOf st) (sa+na-1)<=K (arrOf st) (sa+na+y):=λ y hy h=>by
  have:=m3 y hy h;unfold gP at this;rw[<- bB (show sa+na-1<(arrOf st).size by lia)] at this
  simpa using this
 have a0:∀ x,x<na->K (arrOf st) (sa+x)<=K (arrOf st) (sa+na-1):=λ x hx=>by
  have:=sU s1 (i:=x) (j:=na-1) ad ad ad
  rwa[show sa+(na-1)=sa+na-1 by lia] at this
 refine am (λ e=>Ñ (UO (λ x y hx hy=>?_) _ rfl rfl rfl rfl)) λ e2=>?_
 ·have e':kb=0:=by simpa using e
  have:=a0 x hx;have:=v3 0 ad n2;have:=b0 y hy;simp only[Nat.add_zero] at *
  lia
 have e2':¬ kb=0:=by simpa using e2
 obtain⟨X,hX⟩:∃ X,X=(arrOf st).extract (sa+k) (sa+na):=⟨_,rfl⟩;obtain⟨Y,hY⟩:∃ Y,Y=(arrOf st).extract (sa+na) (sa+na+kb):=⟨_,rfl⟩;have xl:X.toList=((arrOf st).toList.drop (sa+k)).take (na-k):=by rw[hX,ij,show sa+na-(sa+k)=na-k by lia]
 have yl:Y.toList=((arrOf st).toList.drop (sa+na)).take kb:=by rw[hY,ij,show sa+na+kb-(sa+na)=kb by lia]
 have xz:X.size=na-k:=by rw[hX];simp;lia
 have yz:Y.size=kb:=by rw[hY];simp;lia
 have U7:((arrOf st).toList.drop sa).take na=((arrOf st).toList.drop sa).take k++X.toList:=by
  rw[xl,<- dD];congr 1;lia
 have U6:((arrOf st).toList.drop (sa+na)).take nb=Y.toList++((arrOf st).toList.drop (sa+na+kb)).take (nb-kb):=by
  rw[yl,<- dD];congr 1;lia
 have fin:∀(r:Array Keyed)(Ű k_:SortSt),vE X Y r->kindOf Ű = kindOf st->arrOf Ű = arrOf st->pendingOf Ű =((pendingOf st).setIfInBounds i (sa,na+nb,p)).eraseIdxIfInBounds (i+1)->failedOf Ű = failedOf st->kindOf k_=kindOf Ű->failedOf k_=failedOf Ű->pendingOf k_=pendingOf Ű->arrOf k_=(r.toList.zipIdx.foldl (λ a x=>a.setIfInBounds (sa+k+x.2) x.1) (arrOf Ű))->Q (failedOf k_).isNone k_:=λ r Ű k_ o c1 c2 c3 c4 d1 d2 d3 d4=>by
  rw[d2,c4,hn];have rl:r.toList.length=(na-k)+kb:=by rw[o.1.length_eq];simp[xz,yz]
  have jn:=vF (A1:=((arrOf st).toList.drop sa).take k) (A2:=X.toList) (B1:=Y.toList) (B2:=((arrOf st).toList.drop (sa+na+kb)).take (nb-kb)) o.1 o.2 (by rw[<- U7];exact s1) (by rw[<- U6];exact s2) (λ x hx y hy=>by
    rw[<- U6] at hy;obtain⟨u,u1,u2,u3⟩:=bh hx;obtain⟨v,v1,v2,v3⟩:=bh hy;have:=w2 u u1;have:=b0 v v1
    lia) (λ y hy x hx=>by
    rw[<- U7] at hx;obtain⟨u,u1,u2,u3⟩:=bh hx;obtain⟨v,v1,WZ,WY⟩:=bh hy;have:=a0 u u1;have:=v3 (kb+v) ad ad;rw[<- QJ] at this
    lia)
  refine q k_ ⟨d1.trans c1,d2.trans c4,d3.trans c3,_,?_,?_,jn.1⟩
  ·rw[d4,c2];have:=DG r.toList (arrOf st) (sa+k) 0 ad;rw[this,rl,Nat.add_zero,show sa+k+(na-k+kb)=sa+na+kb by lia,Nw]
   simp only[List.append_assoc]
   congr 3
   have:=(ó (nb-kb) ((arrOf st).toList.drop (sa+na+kb))).symm;rw[Ζ,show sa+na+kb+(nb-kb)=sa+(na+nb) by lia] at this
   exact this
  ·rw[dD,U7,U6];exact jn.2
 have kx:∀ j,j<na-k->K X j=K (arrOf st) (sa+k+j):=λ j hj=>by rw[hX];exact Aq ad ad
 have ky:∀ j,j<kb->K Y j=K (arrOf st) (sa+na+j):=λ j hj=>by rw[hY];exact Aq ad ad
 have sX:Ż X.toList:=by rw[U7] at s1;exact s1.right
 have sY:Ż Y.toList:=by rw[U6] at s2;exact s2.left
 have iX:IntKeys X:=by rw[hX];exact rX hA
 have iY:IntKeys Y:=by rw[hY];exact rX hA
 have y0:K Y 0=K (arrOf st) (sa+na):=by have:=ky 0 ad;simpa using this
 have xlast:K X (X.size-1)=K (arrOf st) (sa+na-1):=by
  rw[kx _ ad,xz,show sa+k+(na-k-1)=sa+na-1 by lia]
 have hYX:K Y (Y.size-1)<=K X (X.size-1):=by
  rw[xlast,ky _ ad,yz];have:=v2 (kb-1) ad
  lia
 have x1:0<X.size:=ad;have y1:0<Y.size:=ad;subst hX hY;refine am (λ _=>?_) λ _=>?_
 ·refine Î (pH (by exact hk) iX iY sX sY x1 y1 ?_ ?_ λ r Ű o sm=>?_)
  ·rw[y0,kx 0 ad];have:=w3 k (Å _) ad;simp only[Nat.add_zero];lia
  ·intro y hy;rw[yl] at hy;obtain⟨v,v1,WZ,WY⟩:=bh hy;have:=v2 v v1;rw[xlast];lia
  ·exact Î (MZ (Î (NB (Ñ (fin r Ű _ o sm.1 sm.2.1 sm.2.2.1 sm.2.2.2 rfl rfl rfl rfl)))))
 ·refine Î (pM (by exact hk) iX iY sX sY x1 y1 ?_ ?_ λ r Ű o sm=>?_)
  ·intro x hx;rw[xl] at hx;obtain⟨v,v1,WZ,WY⟩:=bh hx;have:=w3 (k+v) ad ad;rw[<- QJ] at this;rw[y0];lia
  ·exact hYX
  ·exact Î (MZ (Î (NB (Ñ (fin r Ű _ o sm.1 sm.2.1 sm.2.2.1 sm.2.2.2 rfl rfl rfl rfl)))))
def nY (arr:Array Keyed)(lo hi:Nat):Prop:=∀ i j,lo<=i->i<=j->j<hi->K arr i<=K arr j
structure Reg (st Ā:SortSt)(lo hi:Nat):Prop where
 kind:kindOf Ā = kindOf st
 failed:failedOf Ā = failedOf st
 pend:pendingOf Ā = pendingOf st
 perm:(arrOf Ā).Perm (arrOf st)
 off:∀ k,k<lo\/hi<=k->(arrOf Ā)[k]?=(arrOf st)[k]?
theorem Reg.refl (st:SortSt)(lo hi:Nat):Reg st st lo hi:=⟨rfl,rfl,rfl,.rfl,λ _ _=>rfl⟩
theorem Reg.trans {a b c:SortSt}{lo hi:Nat}(h:Reg a b lo hi)(g:Reg b c lo hi):Reg a c lo hi :=
 ⟨g.kind.trans h.kind,g.failed.trans h.failed,g.pend.trans h.pend,g.perm.trans h.perm,λ k x=>(g.off k x).trans (h.off k x)⟩
theorem Reg.size {a b:SortSt}{lo hi:Nat}(h:Reg a b lo hi):(arrOf b).size=(arrOf a).size:=h.perm.size_eq
theorem Reg.int {a b:SortSt}{lo hi:Nat}(h:Reg a b lo hi)(i:IntKeys (arrOf a)):IntKeys (arrOf b):=λ p hp=>i p (by
 have:=h.perm.toList.mem_iff (a:=p);exact this.mp hp)
theorem gJ {prog w A E s}{st:SortSt}{Q:Option Bool->SortSt->Prop}{i j:Nat}(hk:kindOf st=oneType')(hA:IntKeys (arrOf st))(hi:i<(arrOf st).size)(hj:j<(arrOf st).size)(q:Q (some (decide (K (arrOf st) i<K (arrOf st) j))) st):wpS (model prog w) A E s (ltAt' i j) Q st:=by
 obtain⟨t1,k1⟩:=fK hA hi;obtain⟨t2,k2⟩:=fK hA hj;refine wpS_ltAt (a:=K (arrOf st) i) (b:=K (arrOf st) j) (t:=t1) (u:=t2) (p:=(arrOf st)[i].2) (q:=(arrOf st)[j].2) hk ?_ ?_ q
 ·rw[bB hi,<- k1];simp[hi]
 ·rw[bB hj,<- k2];simp[hj]
theorem qI {st:SortSt}{lo hi src d:Nat}(h1:src<hi)(h2:lo+d<=src)(h3:src<(arrOf st).size):Reg st (setArr st (bubble (arrOf st) src d)) lo hi where
 kind:=rfl
 failed:=rfl
 pend:=rfl
 perm:=bubble_perm _ _ _
 off:=λ k hk=>by
  have:=getElem?_bubble h3 d ad k;rw[Æ ad,Æ ad] at this;exact this
theorem xT {prog w A E s}{st:SortSt}{Q:Bool->SortSt->Prop}{lo n ok:Nat}(hk:kindOf st=oneType')(hA:IntKeys (arrOf st))(hn:lo+n<=(arrOf st).size)(ho:ok<=n)(so:nY (arrOf st) lo (lo+ok))(q:∀ Ā,Reg st Ā lo (lo+n)->nY (arrOf Ā) lo (lo+n)->Q true Ā) :
  wpS (model prog w) A E s (binarySort' lo n ok) Q st:=by
 rw[binarySort'_eq];refine Î (Đ (λ k (r:Option Bool × Unit) Ā=>r.1=none/\Reg st Ā lo (lo+n)/\nY (arrOf Ā) lo (lo+k)/\k<=max n (max ok 1)) ?_ ?_ ⟨rfl,Reg.refl _ _ _,?_,ad⟩)
 ·rintro k ⟨r0,u⟩ y_ hk1 hk2 ⟨e0,rg,sr,-⟩
  dsimp only at e0;subst e0
  have hs:=rg.size;refine Î (j_ (Đ (Q:=λ (r:Option Bool × Nat × Nat) Ā=>Ā = y_/\r.1=none/\r.2.1<=k/\(∀ i,i<r.2.1->K (arrOf y_) (lo+i)<=K (arrOf y_) (lo+k))/\(∀ i,r.2.1<=i->i<k->K (arrOf y_) (lo+k)<K (arrOf y_) (lo+i))) (λ j (r:Option Bool × Nat × Nat) Ā=>Ā = y_/\r.1=none/\r.2.1<=r.2.2/\r.2.2<=k/\r.2.2-r.2.1<=k-j/\(∀ i,i<r.2.1->K (arrOf y_) (lo+i)<=K (arrOf y_) (lo+k))/\(∀ i,r.2.2<=i->i<k->K (arrOf y_) (lo+k)<K (arrOf y_) (lo+i))) ?_ ?_ ⟨rfl,rfl,by dsimp only;lia,by dsimp only;lia,by dsimp only;lia,λ i hi=>by dsimp only at hi;lia,λ i h1 h2=>by dsimp only at h1;lia⟩) ?_)
  ·rintro j ⟨r0,l,r⟩ Ű - hj ⟨e,e0,a1,a2,a3,a4,a5⟩
   dsimp only at e0 a1 a2 a3 a4 a5;subst e0;subst e
   refine am (λ c=>Ñ ⟨rfl,rfl,by dsimp only;lia,a4,λ i h1 h2=>a5 i (by dsimp only at c h1;lia) h2⟩) λ c=>?_
   have c':¬ l ≥ r:=c;refine Î (gJ (rg.kind.trans hk) (rg.int hA) (show lo+k<_ by lia) (show lo+(l+r)/2<_ by lia) ?_)
   refine am (λ b=>?_) λ b=>?_
   ·have b':K (arrOf Ű) (lo+k)<K (arrOf Ű) (lo+(l+r)/2):=Þ b;refine Ñ ⟨rfl,rfl,by dsimp only;lia,by dsimp only;lia,by dsimp only;lia,a4,λ i h1 h2=>?_⟩
    dsimp only at h1
    have:=sr (lo+(l+r)/2) (lo+i) ad ad ad
    lia
   ·have b':¬ K (arrOf Ű) (lo+k)<K (arrOf Ű) (lo+(l+r)/2):=λ h=>b (Ê h);refine Ñ ⟨rfl,rfl,by dsimp only;lia,by dsimp only;lia,by dsimp only;lia,λ i h1=>?_,a5⟩
    dsimp only at h1
    have:=sr (lo+i) (lo+(l+r)/2) ad ad ad
    lia
  ·rintro⟨r0,l,r⟩ Ű ⟨e,e0,a1,a2,a3,a4,a5⟩
   dsimp only at e0 a1 a2 a3 a4 a5
   exact⟨e,e0,by dsimp only;lia,a4,λ i h1 h2=>a5 i (by dsimp only at h1;lia) h2⟩
  ·rintro⟨r0,l,r⟩ Ű ⟨e,e0,a1,a4,a5⟩
   dsimp only at e0 a1 a4 a5;subst e0;subst e
   refine Î ?_;rw[moveDown'_eq];refine MZ (Ñ ?_);refine⟨rfl,rg.trans (qI ad ad ad),?_,ad⟩;intro i j h1 h2 h3;have kb:=@K_bubble (arrOf Ű) (lo+k) (lo+k-(lo+l)) ad ad;show K (bubble (arrOf Ű) (lo+k) (lo+k-(lo+l))) i<=K (bubble (arrOf Ű) (lo+k) (lo+k-(lo+l))) j;rw[kb i,kb j];have f1:∀ x,lo<=x->x<lo+l->K (arrOf Ű) x<=K (arrOf Ű) (lo+k):=λ x h1 h2=>by
    have:=a4 (x-lo) ad
    rwa[show lo+(x-lo)=x by lia] at this
   have f2:∀ x,lo+l<=x->x<lo+k->K (arrOf Ű) (lo+k)<K (arrOf Ű) x:=λ x h1 h2=>by
    have:=a5 (x-lo) ad ad
    rwa[show lo+(x-lo)=x by lia] at this
   split <;> split <;>(try split) <;>(try split)
   all_goals first
    | lia
    | exact č _
    | exact f1 _ ad ad
    | exact Ŀ (f2 _ ad (by omega))
    | exact sr _ _ ad ad ad
 ·rintro⟨r0,u⟩ y_ ⟨e0,rg,sr,-⟩
  dsimp only at e0;subst e0
  exact Ñ (q _ rg λ i j h1 h2 h3=>sr i j h1 h2 ad)
 ·intro i j h1 h2 h3;rcases ñ j (lo+ok) with h | h
  ·exact so i j h1 h2 h
  ·have:i=j:=ad;subst this;exact č _
def Qp (arr:Array Keyed)(lo hi:Nat):Prop:=∀ i j,lo<=i->i<=j->j<hi->K arr j<=K arr i
theorem fB {st:SortSt}{lo hi i j:Nat}(h1:lo<=i)(h2:j<=hi)(h3:j<=(arrOf st).size):Reg st (setArr st (mirror (arrOf st) i j ((j-i)/2))) lo hi where
 kind:=rfl
 failed:=rfl
 pend:=rfl
 perm:=mirror_perm _ _ _ _
 off:=λ k hk=>by
  have:=@getElem?_mirror_all _ (arrOf st) i j h3 k;rw[Æ ad] at this;exact this
theorem Qp.Rt {x y:Array Keyed}{lo hi:Nat}(h:Qp x lo hi)(e:∀ k,K y k=K x k):Qp y lo hi:=λ i j a b c=>by rw[e,e];exact h i j a b c
theorem wf {prog w A E s}{st:SortSt}{Q:Option Nat->SortSt->Prop} {lo θ:Nat}(hk:kindOf st=oneType')(hA:IntKeys (arrOf st))(hn:lo + θ <=(arrOf st).size)(h1:1 <= θ)(q:∀ n Ā,Reg st Ā lo (lo + θ)->1<=n->n <= θ->nY (arrOf Ā) lo (lo+n)->Q (some n) Ā) :
  wpS (model prog w) A E s (countRun' lo θ) Q st:=by
 rw[countRun'_eq];have Pl:=Reg.refl st lo (lo + θ);have hs5:=Pl.size;have one:nY (arrOf st) lo (lo+1):=λ x y a b c=>by
  have:x=y:=ad;subst this;exact č _
 refine Î (j_ (Đ (Q:=λ (r:Option (Option Nat) × Nat) Ā=>r.1=none/\Ā = st/\1<=r.2/\r.2 <= θ/\nY (arrOf st) lo (lo+r.2)/\(r.2 < θ->K (arrOf st) (lo+r.2)<K (arrOf st) (lo+r.2-1))) (λ i (r:Option (Option Nat) × Nat) Ā=>r.1=none/\r.2=i/\Ā = st/\nY (arrOf st) lo (lo+r.2)) ?_ ?_ ⟨rfl,rfl,rfl,one⟩) ?_)
 ·rintro i ⟨r0,m'⟩ Ny O8 Sh ⟨e0,e1,e2,M4⟩
  dsimp only at e0 e1 M4;subst e0;subst e1;subst e2
  try dsimp only at O8
  refine Î (gJ (Pl.kind.trans hk) (Pl.int hA) (show lo+m'<_ by lia) (show lo+m'-1<_ by lia) ?_)
  refine am (λ b=>?_) λ b=>?_
  ·have b':K (arrOf Ny) (lo+m')<K (arrOf Ny) (lo+m'-1):=Þ b;exact Ñ ⟨rfl,rfl,by dsimp only;lia,by dsimp only;lia,M4,λ _=>b'⟩
  ·have b':¬ K (arrOf Ny) (lo+m')<K (arrOf Ny) (lo+m'-1):=λ h=>b (Ê h);refine Ñ ⟨rfl,rfl,rfl,?_⟩;intro x y a b c
   dsimp only at c
   rcases ñ y (lo+m') with h | h
   ·exact M4 x y a b h
   ·have:y=lo+m':=ad;subst this;rcases ñ x (lo+m') with h' | h'
    ·have:=M4 x (lo+m'-1) a ad ad
     lia
    ·have:x=lo+m':=ad;subst this;exact č _
 ·rintro⟨r0,m'⟩ Ny ⟨e0,e1,e2,M4⟩
  dsimp only at e1
  exact⟨e0,e2,by dsimp only;lia,by dsimp only;lia,M4,λ h=>by dsimp only at h;lia⟩
 rintro⟨r0,n⟩ S' ⟨e0,e2,q3,q4,M4,lt⟩
 dsimp only at e0 M4 q3 q4 lt;subst e0;rw[e2]
 refine am (λ e=>Ñ (q n _ Pl q3 q4 M4)) λ e=>?_;have e':¬ n = θ:=by simpa using e
 have lt':=lt ad
 dsimp -zeta only
 extract_lets _ _ jp
 refine nu (λ Q=>∀ S',Reg st S' lo (lo + θ)->Qp (arrOf S') lo (lo+(n+1))->wpS (model prog w) A E s (jp ()) Q S') (λ J=>?_) λ S' TU ni=>?_
 ·clear_value jp
  refine am (λ c=>?_) λ c=>?_
  ·refine Î (gJ hk hA (show lo<_ by lia) (show lo+n-1<_ by lia) ?_)
   refine am (λ b=>Ñ (q n _ Pl q3 q4 M4)) λ b=>?_;have b':¬ K (arrOf st) lo<K (arrOf st) (lo+n-1):=λ h=>b (Ê h);refine Î (wpS_reverse ?_);have eq:∀ k,lo<=k->k<lo+n->K (arrOf st) k=K (arrOf st) (lo+n-1):=λ k a b=>by
    have:=M4 lo k (Å _) a b;have:=M4 k (lo+n-1) a ad ad
    lia
   have ke:=@K_mirror_equal (arrOf st) lo (lo+n) ad eq;have TU:=Pl.trans (fB (st:=st) (lo:=lo) (hi:=lo + θ) (i:=lo) (j:=lo+n) ad ad ad);have ni:Qp (arrOf (setArr st (mirror (arrOf st) lo (lo+n) ((lo+n-lo)/2)))) lo (lo+(n+1)):=Qp.Rt (λ x y a b c=>by
    rcases ñ y (lo+n) with h | h
    ·rw[eq x a ad,eq y ad h];exact č _
    ·have:y=lo+n:=ad;subst this;rcases ñ x (lo+n) with h' | h'
     ·rw[eq x a h'];lia
     ·have:x=lo+n:=ad;subst this;exact č _) ke
   exact J _ TU ni
  ·have TU:=Pl;have n1:n=1:=ad;have ni:Qp (arrOf st) lo (lo+(n+1)):=λ x y a b c=>by
    rcases ñ y (lo+n) with h | h
    ·have:x=y:=ad;subst this;exact č _
    ·have:y=lo+n:=ad;subst this;rcases ñ x (lo+n) with h' | h'
     ·have:x=lo+n-1:=ad;subst this;lia
     ·have:x=lo+n:=ad;subst this;exact č _
   exact J _ TU ni
 refine Î (eS ?_);refine Î (j_ (Đ (Q:=λ (r:Option (Option Nat) × Nat × Nat) Ā=>r.1=none/\Reg st Ā lo (lo + θ)/\Qp (arrOf Ā) lo (lo+r.2.1)/\1<=r.2.1/\r.2.1 <= θ/\r.2.2+1<=r.2.1/\∀ i,lo+r.2.1-(r.2.2+1)<=i->i<lo+r.2.1->K (arrOf Ā) i=K (arrOf Ā) (lo+r.2.1-1)) (λ i (r:Option (Option Nat) × Nat × Nat) Ā=>r.1=none/\r.2.1=i/\Reg st Ā lo (lo + θ)/\Qp (arrOf Ā) lo (lo+r.2.1)/\r.2.2+1<=r.2.1/\∀ i,lo+r.2.1-(r.2.2+1)<=i->i<lo+r.2.1->K (arrOf Ā) i=K (arrOf Ā) (lo+r.2.1-1)) ?_ ?_ ⟨rfl,rfl,TU,ni,by dsimp only;lia,λ i h1 h2=>by dsimp only at h1 h2 ⊢;congr 1;lia⟩) ?_)
 ·rintro i ⟨r0,m,Uc⟩ Ű O8 Sh ⟨e0,e1,OJ,OL,q1,q2⟩
  dsimp only at e0 e1 OL q1 q2;subst e0;subst e1
  have QR:=OJ.size;refine Î (gJ (OJ.kind.trans hk) (OJ.int hA) (show lo+m<_ by lia) (show lo+m-1<_ by lia) ?_)
  refine am (λ b=>?_) λ b=>?_
  ·have b':K (arrOf Ű) (lo+m)<K (arrOf Ű) (lo+m-1):=Þ b;have U_:Qp (arrOf Ű) lo (lo+(m+1)):=λ x y a b c=>by
    rcases ñ y (lo+m) with h | h
    ·exact OL x y a b h
    ·have:y=lo+m:=ad;subst this;rcases ñ x (lo+m) with h' | h'
     ·have:=OL x (lo+m-1) a ad ad
      lia
     ·have:x=lo+m:=ad;subst this;exact č _
   refine am (λ c=>?_) λ c=>?_
   ·refine Î (wpS_reverse ?_);have ke:=@K_mirror_equal (arrOf Ű) (lo+m-(Uc+1)) (lo+m) ad (λ k h1 h2=>q2 k h1 h2);exact Ñ ⟨rfl,rfl,OJ.trans (fB (by dsimp only;lia) (by dsimp only;lia) (by dsimp only;lia)),U_.Rt ke,by dsimp only;lia,λ i h1 h2=>by dsimp only at h1 h2 ⊢;congr 1;lia⟩
   ·exact Ñ ⟨rfl,rfl,OJ,U_,by dsimp only;lia,λ i h1 h2=>by dsimp only at h1 h2 ⊢;congr 1;lia⟩
  ·have b':¬ K (arrOf Ű) (lo+m)<K (arrOf Ű) (lo+m-1):=λ h=>b (Ê h);refine Î (gJ (OJ.kind.trans hk) (OJ.int hA) (show lo+m-1<_ by lia) (show lo+m<_ by lia) ?_)
   refine am (λ c=>Ñ ⟨rfl,OJ,OL,by dsimp only;lia,by dsimp only;lia,q1,q2⟩) λ c=>?_
   have c':¬ K (arrOf Ű) (lo+m-1)<K (arrOf Ű) (lo+m):=λ h=>c (Ê h);refine Ñ ⟨rfl,rfl,OJ,?_,by dsimp only;lia,?_⟩
   ·intro x y a b c
    dsimp only at c
    rcases ñ y (lo+m) with h | h
    ·exact OL x y a b h
    ·have:y=lo+m:=ad;subst this;rcases ñ x (lo+m) with h' | h'
     ·have:=OL x (lo+m-1) a ad ad
      lia
     ·have:x=lo+m:=ad;subst this;exact č _
   ·intro x h1 h2
    dsimp only at h1 h2 ⊢
    rw[show lo+(m+1)-1=lo+m by lia]
    rcases ñ x (lo+m) with h' | h'
    ·have:=q2 x ad h'
     lia
    ·have:x=lo+m:=ad;subst this;rfl
 ·rintro⟨r0,m,Uc⟩ Ű ⟨e0,e1,OJ,OL,q1,q2⟩
  dsimp only at e1 q1
  exact⟨e0,OJ,OL,by dsimp only;lia,by dsimp only;lia,q1,q2⟩
 ·rintro⟨r0,m,Uc⟩ Ű ⟨e0,OJ,OL,q0,Z8,q1,q2⟩
  dsimp only at e0 OL q0 Z8 q1 q2;subst e0
  have QR:=OJ.size
  dsimp -zeta only
  extract_lets r9 s9 n9 q9 Ro
  subst q9 n9 s9 r9;refine nu (λ Q=>∀ k_,Reg st k_ lo (lo + θ)->Qp (arrOf k_) lo (lo+m)->wpS (model prog w) A E s (Ro ()) Q k_) (λ J=>?_) ?_
  ·clear_value Ro
   refine am (λ c=>?_) λ c=>J _ OJ OL;refine Î (wpS_reverse ?_);have ke:=@K_mirror_equal (arrOf Ű) (lo+m-(Uc+1)) (lo+m) ad (λ k h1 h2=>q2 k h1 h2);have U9:=OJ.trans (fB (st:=Ű) (lo:=lo) (hi:=lo + θ) (i:=lo+m-(Uc+1)) (j:=lo+m) ad ad ad);exact J _ U9 (OL.Rt ke)
  intro k_ U9 U_;have Wj:=U9.size;refine Î (wpS_reverse ?_);have Pl:=U9.trans (fB (st:=k_) (lo:=lo) (hi:=lo + θ) (i:=lo) (j:=lo+m) ad ad ad);have W4:nY (arrOf (setArr k_ (mirror (arrOf k_) lo (lo+m) ((lo+m-lo)/2)))) lo (lo+m):=λ x y a b c=>by
   show K (mirror (arrOf k_) lo (lo+m) ((lo+m-lo)/2)) x<=K (mirror (arrOf k_) lo (lo+m) ((lo+m-lo)/2)) y;rw[@K_mirror (arrOf k_) lo (lo+m) ad x,@K_mirror (arrOf k_) lo (lo+m) ad y,Ë ad,Ë ad];exact U_ _ _ ad ad ad
  generalize setArr k_ (mirror (arrOf k_) lo (lo+m) ((lo+m-lo)/2))=O1 at Pl W4 ⊢;have hs5:=Pl.size;refine Î (j_ (Đ (Q:=λ (r:Option (Option Nat) × Nat) Ā=>r.1=none/\Ā = O1/\1<=r.2/\r.2 <= θ/\nY (arrOf O1) lo (lo+r.2)/\(r.2 < θ->K (arrOf O1) (lo+r.2)<K (arrOf O1) (lo+r.2-1))) (λ i (r:Option (Option Nat) × Nat) Ā=>r.1=none/\r.2=i/\Ā = O1/\nY (arrOf O1) lo (lo+r.2)) ?_ ?_ ⟨rfl,rfl,rfl,W4⟩) ?_)
  ·rintro i ⟨r0,m'⟩ Ny O8 Sh ⟨e0,e1,e2,M4⟩
   dsimp only at e0 e1 M4;subst e0;subst e1;subst e2
   try dsimp only at O8
   refine Î (gJ (Pl.kind.trans hk) (Pl.int hA) (show lo+m'<_ by lia) (show lo+m'-1<_ by lia) ?_)
   refine am (λ b=>?_) λ b=>?_
   ·have b':K (arrOf Ny) (lo+m')<K (arrOf Ny) (lo+m'-1):=Þ b;exact Ñ ⟨rfl,rfl,by dsimp only;lia,by dsimp only;lia,M4,λ _=>b'⟩
   ·have b':¬ K (arrOf Ny) (lo+m')<K (arrOf Ny) (lo+m'-1):=λ h=>b (Ê h);refine Ñ ⟨rfl,rfl,rfl,?_⟩;intro x y a b c
    dsimp only at c
    rcases ñ y (lo+m') with h | h
    ·exact M4 x y a b h
    ·have:y=lo+m':=ad;subst this;rcases ñ x (lo+m') with h' | h'
     ·have:=M4 x (lo+m'-1) a ad ad
      lia
     ·have:x=lo+m':=ad;subst this;exact č _
  ·rintro⟨r0,m'⟩ Ny ⟨e0,e1,e2,M4⟩
   dsimp only at e1
   exact⟨e0,e2,by dsimp only;lia,by dsimp only;lia,M4,λ h=>by dsimp only at h;lia⟩
  ·rintro⟨r0,m'⟩ Ny ⟨e0,e2,q3,q4,M4,-⟩
   dsimp only at e0 M4 q3 q4;subst e0;subst e2
   exact Ñ (q m' _ Pl q3 q4 M4)
def Runs (arr:Array Keyed):Nat->List (Nat × Nat × Nat)->Nat->Prop
 | o,[],lo=>o=lo
 | o,(s,n,_)::l,lo=>s=o/\1<=n/\nY arr o (o+n)/\Runs arr (o+n) l lo
theorem Runs.app {arr:Array Keyed}:∀{l m:List (Nat × Nat × Nat)}{o lo:Nat},Runs arr o (l++m) lo->∃ k,Runs arr o l k/\Runs arr k m lo
 | [],m,o,lo,h=>⟨o,rfl,h⟩
 | (s,n,p)::l,m,o,lo,⟨h1,h2,h3,h4⟩=>by
  obtain⟨k,a,b⟩:=Runs.app h4;exact⟨k,⟨h1,h2,h3,a⟩,b⟩
theorem Runs.join {arr:Array Keyed}:∀{l m:List (Nat × Nat × Nat)}{o k lo:Nat},Runs arr o l k->Runs arr k m lo->Runs arr o (l++m) lo
 | [],m,o,k,lo,h,g=>by cases (show o=k from h);exact g
 | (s,n,p)::l,m,o,k,lo,⟨h1,h2,h3,h4⟩,g=>⟨h1,h2,h3,Runs.join h4 g⟩
theorem Runs.le {arr:Array Keyed}:∀{l:List (Nat × Nat × Nat)}{o lo:Nat},Runs arr o l lo->o+l.length<=lo
 | [],o,lo,h=>Ō h
 | (s,n,p)::l,o,lo,⟨h1,h2,h3,h4⟩=>by
  have:=Runs.le h4;simp only[List.length_cons];lia
theorem Runs.Rt {x y:Array Keyed}:∀{l:List (Nat × Nat × Nat)}{o lo:Nat},Runs x o l lo->(∀ j,o<=j->j<lo->K y j=K x j)->Runs y o l lo
 | [],o,lo,h,_=>h
 | (s,n,p)::l,o,lo,⟨h1,h2,h3,h4⟩,e=>by
  have:=Runs.le h4;exact⟨h1,h2,λ i j a b c=>by rw[e i a ad,e j ad ad];exact h3 i j a b c,h4.Rt λ j a b=>e j ad b⟩
structure Good (hE st:SortSt)(lo:Nat):Prop where
 kind:kindOf st=oneType'
 failed:failedOf st=none
 int:IntKeys (arrOf st)
 perm:(arrOf st).toList.Perm (arrOf hE).toList
 runs:Runs (arrOf st) 0 (pendingOf st).toList lo
theorem Good.size {hE st:SortSt}{lo:Nat}(g:Good hE st lo):(arrOf st).size=(arrOf hE).size:=by
 have:=g.perm.length_eq
 simpa using this
theorem rP {arr:Array Keyed}{o n:Nat}(h:nY arr o (o+n))(hz:o+n<=arr.size):Ż ((arr.toList.drop o).take n):=by
 unfold Ż;rw[ů];intro i j hi hj lt;simp only[List.length_take,List.length_drop,Array.length_toList] at hi hj;have:=h (o+i) (o+j) ad ad ad;rw[bB (show o+i<arr.size by lia),bB (show o+j<arr.size by lia)] at this
 simpa using this
theorem zH {l:List Keyed}{arr:Array Keyed}{o:Nat}(h:Ż l)(e:∀ i,i<l.length->arr[o+i]?=l[i]?):nY arr o (o+l.length):=by
 intro i j a b c;unfold Ż at h;rw[ů] at h;have e1:=e (i-o) ad;have e2:=e (j-o) ad;rw[show o+(i-o)=i by lia,Ã ad] at e1
 rw[show o+(j-o)=j by lia,Ã ad] at e2
 rw[xE e1,xE e2];rcases ñ i j with lt | ge
 ·exact h _ _ _ _ ad
 ·have:i=j:=ad;subst this;exact č _
theorem B8 {a m b:List Keyed}{arr:Array Keyed}(e:arr.toList=a++m++b):(∀ i,i<m.length->arr[a.length+i]?=m[i]?)/\∀ j,(j<a.length->arr[j]?=a[j]?)/\(a.length+m.length<=j->arr[j]?=b[j-a.length-m.length]?):=by
 have g:∀ j,arr[j]?=(a++m++b)[j]?:=λ j=>by rw[<- e,Array.getElem?_toList]
 refine⟨λ i hi=>?_,λ j=>⟨λ hj=>?_,λ hj=>?_⟩⟩
 ·rw[g,ĉ (by simp;omega),Ą ad,Nat.add_sub_cancel_left]
 ·rw[g,ĉ (by simp;lia),ĉ hj]
 ·rw[g,Ą (by simp;omega),Õ]
  congr 1;lia
theorem sE {prog w A E s}{hE st:SortSt}{lo i:Nat}{Q:Bool->SortSt->Prop}(g:Good hE st lo)(hl:lo<=(arrOf st).size)(hi:i+1<(pendingOf st).size)
  (q:∀ Ā,Good hE Ā lo->(pendingOf Ā).size+1=(pendingOf st).size->(∀ j,lo<=j->K (arrOf Ā) j=K (arrOf st) j)->Q true Ā):wpS (model prog w) A E s (mergeAt' i) Q st:=by
 obtain⟨l1,a,b,l2,el,ei⟩:∃ l1 a b l2,(pendingOf st).toList=l1++a::b::l2/\l1.length=i:=by
  have h1:i<(pendingOf st).toList.length:=by simp;lia
  have h2:i+1<(pendingOf st).toList.length:=by simp;omega
  refine⟨(pendingOf st).toList.take i,(pendingOf st).toList[i],(pendingOf st).toList[i+1],(pendingOf st).toList.drop (i+2),?_,by simp;lia⟩
  rw[<- Ċ h2,<- Ċ h1,ó]
 obtain⟨sa,na,p⟩:=a;obtain⟨sb,nb,p'⟩:=b;have r:=g.runs;rw[el] at r;obtain⟨k,r1,e1,n1,s1,e2,n2,s2,r2⟩:=r.app;subst e1;subst e2;have hz:=r2.le;have pe:∀ j,(pendingOf st)[j]?=(l1++(sa,na,p)::(sa+na,nb,p')::l2)[j]?:=λ j=>by rw[<- el,Array.getElem?_toList]
 refine pY (p:=p) (p':=p') g.kind g.failed g.int (by rw[pe,<- ei];simp) (by rw[pe,<- ei];simp[List.getElem?_append_right]) n1 n2 ad (rP s1 ad) (rP s2 ad) λ Ā m=>?_
 obtain⟨mm,ea,pm,sm⟩:=m.arr;have lm:mm.length=na+nb:=by rw[pm.length_eq];simp;lia
 have lt:((arrOf st).toList.take sa).length=sa:=by simp;lia
 obtain⟨a1,a2⟩:=B8 ea;rw[lt] at a1;have off:∀ j,j<sa\/sa+(na+nb)<=j->K (arrOf Ā) j=K (arrOf st) j:=λ j hj=>K_congr (by
  rcases hj with hj | hj
  ·rw[(a2 j).1 ad,QK hj];simp
  ·rw[(a2 j).2 (by rw[lt,lm];exact hj),List.getElem?_drop];simp only[lt,lm]
   rw[show sa+(na+nb)+(j-sa-(na+nb))=j by lia];simp)
 have eP:(pendingOf Ā).toList=l1++(sa,na+nb,p)::l2:=by
  rw[m.pend];simp only[Array.toList_eraseIdxIfInBounds,Array.toList_setIfInBounds,el];rw[<- ei,List.set_append_right _ _ (Å _),RI,List.eraseIdx_append_of_length_le ad];simp
 refine q Ā ⟨m.kind.trans g.kind,m.failed.trans g.failed,λ x hx=>g.int x ?_,?_,?_⟩ ?_ λ j hj=>off j (.inr ad)
 ·rw[ea] at hx;rw[fT (l:=(arrOf st).toList) (o:=sa) (n:=na+nb)];simp only[List.mem_append] at hx ⊢;rw[pm.mem_iff] at hx;exact hx
 ·rw[ea];refine List.Perm.trans ?_ g.perm
  conv=>rhs;rw[fT (l:=(arrOf st).toList) (o:=sa) (n:=na+nb)]
  exact(pm.append_left _).append_right _
 ·rw[eP];refine(r1.Rt λ j a b=>off j (.inl b)).join ⟨rfl,ad,?_,?_⟩
  ·rw[<- lm];exact zH sm a1
  ·rw[<- QJ];exact r2.Rt λ j a b=>off j (.inr ad)
 ·have:=ý List.length eP;have:=ý List.length el;simp at *
  lia
theorem Good.W8 {hE st Ā:SortSt}{lo hi:Nat}(g:Good hE st lo)(r:Reg st Ā lo hi):Good hE Ā lo :=
 ⟨r.kind.trans g.kind,r.failed.trans g.failed,r.int g.int,r.perm.toList.trans g.perm,by rw[r.pend];exact g.runs.Rt λ j _ h=>K_congr (r.off j (.inl h))⟩
theorem Runs.mod {arr:Array Keyed}{f:Nat × Nat × Nat->Nat × Nat × Nat}(hf:∀ x,(f x).1=x.1/\(f x).2.1=x.2.1):∀{l:List (Nat × Nat × Nat)}{o lo:Nat}(i:Nat),Runs arr o l lo->Runs arr o (l.modify i f) lo
 | [],o,lo,i,h=>by simpa using h
 | (s,n,p)::l,o,lo,0,⟨h1,h2,h3,h4⟩=>by
  obtain⟨e1,e2⟩:=hf (s,n,p);rw[List.modify_zero_cons];generalize f (s,n,p)=y at e1 e2;obtain⟨a,b,c⟩:=y;cases e1;cases e2;exact⟨h1,h2,h3,h4⟩
 | (s,n,p)::l,o,lo,i+1,⟨h1,h2,h3,h4⟩=>by
  rw[List.modify_succ_cons];exact⟨h1,h2,h3,Runs.mod hf i h4⟩
def Iq (size lo n:Nat):StateT SortSt Sem (ForInStep (Option Unit × Nat)):=do
 let st <- get
 have jp:Unit->StateT SortSt Sem (ForInStep (Option Unit × Nat)):=λ _=>do
  modify λ s=>setPending s ((pendingOf s).push (lo,n,0))
  pure (ForInStep.yield (none,lo+n))
 PyProof.Rows.sortRuns'_eq.match_1 (λ _=>StateT SortSt Sem (ForInStep (Option Unit × Nat))) (pendingOf st).back? (λ s1 n1 _ =>
  have pw:=power' size (2*s1+n1) (2*s1+n1+n1+n) size
  do
  let r <- forIn [:size] (none,()) λ _ _=>do
   let st <- get
   have p:Array (Nat × Nat × Nat):=pendingOf st
   PyProof.Rows.sortRuns'_eq.match_1 (λ _=>StateT SortSt Sem (ForInStep (Option Unit × Unit))) (if p.size>1 then p[p.size-2]? else none) (λ _ _ Ri =>
    if Ri<=pw then pure (ForInStep.done (none,()))
    else do
     let b <- mergeAt' (p.size-2)
     if(!b)=true then pure (ForInStep.done (some (),())) else pure (ForInStep.yield (none,()))) λ _=>pure (ForInStep.done (none,()))
  Break.runK.match_1 (λ _=>StateT SortSt Sem (ForInStep (Option Unit × Nat))) (r:Option Unit × Unit).1 (λ r=>pure (ForInStep.done (some r,lo))) λ _=>do
   let r <- modify λ s=>setPending s ((pendingOf s).modify ((pendingOf s).size-1) λ x=>PyProof.Rows.sortRuns'_eq.match_4 (λ _=>Nat × Nat × Nat) x λ st len _=>(st,len,pw))
   jp r) λ _=>jp ()
theorem rT {prog w A E s}{hE st:SortSt}{lo n:Nat}{Q:ForInStep (Option Unit × Nat)->SortSt->Prop}(g:Good hE st lo)(n1:1<=n)(n2:lo+n<=(arrOf hE).size)(sr:nY (arrOf st) lo (lo+n))(q:∀ Ā,Good hE Ā (lo+n)->Q (.yield (none,lo+n)) Ā):wpS (model prog w) A E s (Iq (arrOf hE).size lo n) Q st:=by
 unfold Iq;refine Î (NB ?_);have put:∀ Ā,Good hE Ā lo->nY (arrOf Ā) lo (lo+n)->wpS (model prog w) A E s (modify (λ s=>setPending s ((pendingOf s).push (lo,n,0))) >>= λ _=>pure (ForInStep.yield (none,lo+n)):StateT SortSt Sem (ForInStep (Option Unit × Nat))) Q Ā:=λ Ā g sr=>by
  refine Î (MZ (Ñ (q _ ⟨g.kind,g.failed,g.int,g.perm,?_⟩)));show Runs (arrOf Ā) 0 ((pendingOf Ā).push (lo,n,0)).toList (lo+n);rw[Array.toList_push];exact g.runs.join ⟨rfl,n1,sr,rfl⟩
 cases e:(pendingOf st).back? with
 | none=>exact put st g sr
 | some x =>
  obtain⟨s1,n1,p1⟩:=x;refine Î (j_ (Đ (Q:=λ (r:Option Unit × Unit) Ā=>r.1=none/\Good hE Ā lo/\nY (arrOf Ā) lo (lo+n)) (λ i (r:Option Unit × Unit) Ā=>r.1=none/\Good hE Ā lo/\nY (arrOf Ā) lo (lo+n)) ?_ (λ _ _ h=>h) ⟨rfl,g,sr⟩) ?_)
  ·rintro i ⟨r0,u⟩ y_ - - ⟨e0,g,sr⟩
   dsimp only at e0;subst e0
   refine Î (NB ?_);have hs:=g.size
   dsimp only
   by_cases c:(pendingOf y_).size>1
   ·rw[Ë c];cases e2:(pendingOf y_)[(pendingOf y_).size-2]? with
    | none=>exact Ñ ⟨rfl,g,sr⟩
    | some y =>
     obtain⟨_,_,Ri⟩:=y;refine am (λ _=>Ñ ⟨rfl,g,sr⟩) λ _=>?_;refine Î (sE g ad ad λ Ű g2 _ k=>?_);exact Ñ ⟨rfl,g2,λ i j a b c=>by rw[k i a,k j ad];exact sr i j a b c⟩
   ·rw[Æ c];exact Ñ ⟨rfl,g,sr⟩
  ·rintro⟨r0,u⟩ y_ ⟨e0,g,sr⟩
   dsimp only at e0;subst e0
   refine Î (MZ (put _ ⟨g.kind,g.failed,g.int,g.perm,?_⟩ sr));show Runs (arrOf y_) 0 ((pendingOf y_).modify _ _).toList lo;rw[Array.toList_modify];refine Runs.mod (λ x=>?_) _ g.runs;obtain⟨_,_,_⟩:=x;exact⟨rfl,rfl⟩
theorem lg {prog w A E s}{st:SortSt}{Q:Unit->SortSt->Prop}(hk:kindOf st=oneType')(hf:failedOf st=none)(hp:pendingOf st = #[])(hA:IntKeys (arrOf st))
  (q:∀ Ā,failedOf Ā = none->(arrOf Ā).toList.Perm (arrOf st).toList->nY (arrOf Ā) 0 (arrOf Ā).size->Q () Ā):wpS (model prog w) A E s sortRuns' Q st:=by
 rw[sortRuns'_eq];refine Î (NB ?_);have g0:Good st st 0:=⟨hk,hf,hA,.refl _,by rw[hp];exact rfl⟩
 refine Î (j_ (Đ (Q:=λ (r:Option Unit × Nat) Ā=>r.1=none/\r.2=(arrOf st).size/\Good st Ā (arrOf st).size) (λ i (r:Option Unit × Nat) Ā=>r.1=none/\(i<=r.2\/(arrOf st).size<=r.2)/\r.2<=(arrOf st).size/\Good st Ā r.2) ?_ ?_ ⟨rfl,.inl (Å _),Ť _,g0⟩) ?_)
 ·rintro i ⟨r0,lo⟩ y_-hi ⟨e0,c1,c2,g⟩
  dsimp only at e0 c1 c2 g;subst e0
  refine am (λ c=>Ñ ?_) λ c=>?_
  ·have:lo=(arrOf st).size:=by dsimp only at c;lia
   subst this;exact⟨rfl,rfl,g⟩
  have c:lo<(arrOf st).size:=by dsimp only at c;lia
  have c1:i<=lo:=ad;have hs:=g.size;refine Î (wf g.kind g.int (show lo+((arrOf st).size-lo)<=_ by lia) ad λ n Ű rg n1 n2 sr=>?_)
  have g2:=g.W8 rg;show wpS _ _ _ _ (if n<minRun' (arrOf st).size (arrOf st).size 0 then(liftM (rule "list.sort.binary-insertion") >>= λ _=>binarySort' lo (min ((arrOf st).size-lo) (minRun' (arrOf st).size (arrOf st).size 0)) n >>= λ b=>if(!b)=true then pure (.done (some (),lo)) else Iq (arrOf st).size lo (min ((arrOf st).size-lo) (minRun' (arrOf st).size (arrOf st).size 0)):StateT SortSt Sem (ForInStep (Option Unit × Nat))) else Iq (arrOf st).size lo n) _ _
  refine am (λ c=>?_) λ _=>rT g2 n1 ad sr λ Ā g=>⟨rfl,.inl (by dsimp only;lia),by dsimp only;lia,g⟩
  refine Î (eS (Î (xT g2.kind g2.int (by have:=g2.size;lia) ad sr λ k_ r3 s3=>?_)))
  exact rT (g2.W8 r3) ad ad s3 λ Ā g=>⟨rfl,.inl (by dsimp only;lia),by dsimp only;lia,g⟩
 ·rintro⟨r0,lo⟩ y_ ⟨e0,c1,c2,g⟩
  dsimp only at e0 c1 c2 g;subst e0
  have:lo=(arrOf st).size:=by have:=Nat.le_max_right 0 (arrOf st).size;lia
  subst this;exact⟨rfl,rfl,g⟩
 ·rintro⟨r0,lo⟩ y_ ⟨e0,e1,g⟩
  dsimp only at e0 e1;subst e0 e1
  refine Î (j_ (Đ (Q:=λ (r:Option Unit × Unit) Ā=>r.1=none/\Good st Ā (arrOf st).size/\(pendingOf Ā).size<=1) (λ i (r:Option Unit × Unit) Ā=>r.1=none/\Good st Ā (arrOf st).size/\((pendingOf Ā).size<=1\/(pendingOf Ā).size+i<=(arrOf st).size)) ?_ ?_ ⟨rfl,g,.inr ?_⟩) ?_)
  ·rintro i ⟨r0,u⟩ y_-hi ⟨e0,g,z⟩
   dsimp only at e0;subst e0
   refine Î (NB ?_);refine am (λ c=>Ñ ⟨rfl,g,c⟩) λ c=>?_;have hs:=g.size;refine Î (sE g ad (by split <;> split at * <;> omega) λ Ű g2 h2 _=>Ñ ⟨rfl,g2,ad⟩)
  ·rintro⟨r0,u⟩ y_ ⟨e0,g,z⟩;exact⟨e0,g,by have:=Nat.le_max_right 0 (arrOf st).size;lia⟩
  ·have:=g.runs.le
   simpa using this
  ·rintro⟨r0,u⟩ Ű ⟨e0,g,z⟩
   dsimp only at e0;subst e0
   refine Ñ (q _ g.failed g.perm ?_);rw[g.size];have r:=g.runs
   match h:(pendingOf Ű).toList,r with
   | [],r =>
    have r:0=(arrOf st).size:=r;intro i j a b c;lia
   | [x],r =>
    obtain⟨h1,h2,h3,h4⟩:=r;rw[<- show 0+x.2.1=_ from h4];exact h3
   | x::y::l,r =>
    have:=ý List.length h;simp at this;lia
theorem P1 {prog:Program}{w:World}{A:Around}{E:eZ}{s:Shared}{a:Addr}{vs:List Value}{ns:List Int}{n:Nat}{R:Fin->Shared->Prop}(hz:vs.length<=sizeLine)(at':s.heap.get? a\seqObj "list" vs.toArray n) (ia:IntsAre vs ns)
  (k:∀ out Pz,IntsAre out.toList Pz->Pz.Perm ns->Pz.Pairwise (· <= ·)->R (.done (.ret .none)) { s with heap:=sortedHeap s.heap a vs out }):wpAny (model prog w) A (Builtin.«list.sort» ⟨[.ref a],[]⟩) R E s:=by
 rcases ñ vs.length 2 with lt | ge
 ·exact list_sort_tree at' ia ad k
 rw[list_sort_plain];have la:=Ð at';obtain⟨e1,YA⟩:∃ e1,(s.heap.update a (Obj.mapSeq λ _=>#[])).get? a\(seqObj "list" #[] e1):=⟨_,get?_update_seq at' λ _=>#[]⟩;refine À (listItems_at at' rfl ?_);refine À (listUpdate_at at' rfl ?_);refine À (seqEpoch_at YA rfl ?_);refine À (wpAny_newTuple ?_ (by simpa using hz))
 refine À (wpAny_newList (ĥ ?_));obtain⟨h6,eH⟩:∃ h6,h6=((s.heap.update a (Obj.mapSeq λ _=>#[])).push (seqObj "tuple" vs.toArray 0)).push (seqObj "list" #[] 0):=⟨_,rfl⟩;have Yz:h6.get? a\(seqObj "list" #[] e1):=by
  rw[eH,PY,PY,YA]
  ·rw[Ž];exact æ la
  ·rw[size_push',Ž];exact æ (Nat.lt_succ_of_lt la)
 show wpAny _ _ _ _ _ { s with heap:=((s.heap.update a (Obj.mapSeq λ _=>#[])).push (seqObj "tuple" vs.toArray 0)).push (seqObj "list" #[] 0) }
 rw[<- eH]
 dsimp only
 have c:¬ vs.toArray.size<2:=by simp;lia
 rw[Æ c,Æ c];obtain⟨v,u,r,rfl⟩:∃ v u r,vs=v::u::r:=by
  match vs,ge with
  | v::u::r,_=>exact⟨v,u,r,rfl⟩
 rw[keyKind_ints ia];refine À (Á (À (Ĳ (lg (st:=SortSt.mk' oneType' ((v::u::r).toArray.zip (v::u::r).toArray) #[] 7 none) (Q:=λ _ Ā=>failedOf Ā = none/\(arrOf Ā).toList.Perm (pairsOf (v::u::r)).toList/\nY (arrOf Ā) 0 (arrOf Ā).size) rfl rfl rfl ia.intKeys λ Ā a1 a2 a3=>⟨a1,a2,a3⟩) ?_ λ _ _ e=>e)));rintro⟨⟨⟩,Ā⟩ s' ⟨rfl,hf,hp,hs⟩;have Qx:(arrOf Ā).Perm (pairsOf (v::u::r)):=Array.perm_iff_toList_perm.mpr hp;obtain⟨Pz,h1,h2,h3⟩:=sorted_out ia Qx λ i j b c=>hs i j (Ť _) b (by rw[Qx.size_eq];exact c)
 dsimp only
 refine À (seqEpoch_at Yz rfl (À (listUpdate_at Yz rfl ?_ (hsz2:=by
  rw[Array.size_map,Qx.size_eq,pairsOf_size];simp at hz ⊢;lia))))
 rw[hf];simp only[bne_self_eq_false,Bool.false_eq_true,if_false];have z:=k _ Pz h1 h2 h3;rw[sortedHeap,<- eH] at z;exact Á z
end Ts
namespace My
open PySem PySem.W L2
section
variable {X:Cx}
def iV:List V->Hp->VK->Prop:=λ xs H Q=>∃(d:Addr)(Ý:List (Key × V))(ns:List Int),xs=[.ref d]/\Rd H d (.dK Ý)/\(Ý.map λ p=>kV p.1)=ns.map V.int/\∀(l:Addr)(Pz:List Int),H l=none->Pz.Perm ns->Pz.Pairwise (· <= ·)->Q (.ref l) (ak H l (.lst (Pz.map V.int)))
theorem fc (hc:X.calm=true):dL X (.builtin "sorted") iV:=by
 intro pins s σ H xs us Q I r h;obtain⟨d,Ý,ns,rfl,e,ek,q⟩:=h;obtain⟨u,rfl,rx⟩:=fJ r;cases rx;obtain⟨z,hd,vs,ep,rel,at'⟩:=AD I e;have l:Ý.length=vs.length:=Ė rel;refine call_function_tree PyProof.Rows.kind_sorted PyProof.Rows.plain_sorted PyProof.Rows.entry_sorted (PyProof.Rows.args_sorted1 _) ?_;unfold Builtin.sorted;refine À (Q8 (show checkCount "sorted" 1 1 _=pure () from rfl) (À (kdu_collect (kdl_dict hd) (show(X.A.in1).handled=none from I.ok.hd hc) at' ad λ h' tk acc kp it=>?_)));have vk:=tV rel it;have lv:=vk.length;rw[Ç] at lv;rw[ek] at vk;have la:acc.toList.length<=sizeLine:=ad;refine À (î (À (ĥ ?_)) la);have hT:h'.objs.size<(h'.push { cls:=.type "list",data:=.seq acc.toList.toArray }).objs.size:=by rw[ő];lia
 have hn:=z7 I kp;refine Ĉ (s:={ heap:=h'.push { cls:=.type "list",data:=.seq acc.toList.toArray },gens:=s.gens,drawn:=s.drawn,toks:=tk,os:=s.os }) PyProof.Rows.slot_list_sort ⟨_,Ó _ rfl,rfl⟩ PyProof.Rows.entry_list_sort (Ts.P1 la (Ó _ rfl) (qW vk) λ out Pz a1 a2 a3=>?_) (PyProof.Rows.args_list_sort _);obtain⟨c,he⟩:=PyProof.Rows.sortedHeap_at (h:=h'.push { cls:=.type "list",data:=.seq acc.toList.toArray }) (a:=h'.objs.size) (vs:=acc.toList) (out:=out) (Ó _ rfl);refine⟨.none,rfl,Á ⟨.ref h'.objs.size,_,uO (s:=s) (t':=tk) I (λ b o eb=>?_) (λ b o eb=>Ð (kp b o eb)) hn (show Ē X.prog X.w _ _ _ (.lst (Pz.map V.int)) from⟨?_,out.toList,c,iW a1,by simpa using he⟩),rfl,q _ Pz hn a2 a3⟩⟩
 ·have XN:=kp b o eb;have lt:=Ð XN;rw[PyProof.Rows.sortedHeap_old (æ lt) (I_ lt hT)];exact Ä _ XN
 ·rw[Ç,a2.length_eq];have:=ý List.length ek;rw[Ç,Ç] at this
  lia
end
abbrev GX (H H':Hp):Prop:=∀ b xs,H b\.tup xs->H' b\.tup xs
theorem dZ {α β:Type}{R:α->β->Prop}{x:α}{y:β}(r:R x y):∀{xs:List α}{ys:List β},Paired R xs ys->Paired R (xs ++ [x]) (ys ++ [y])
 | _,_,.nil=>.cons r .nil
 | _,_,.cons a t=>.cons a (dZ r t)
theorem Ũ {κ:Type} [DecidableEq κ] {k:κ}{v:V}:∀{ys:List (κ × V)},k ∉ ys.map (·.1)->aU ys k v=ys ++ [(k,v)]:=by
 intro ys h;unfold aU;rw[Æ];intro z;obtain⟨q,hq,e⟩:=List.any_eq_true.mp z;exact h (ë.mpr ⟨q,hq,Þ e⟩)
theorem b6:∀ a b:Int,Key.inl a=Key.inl b->a=b:=λ a b h=>by injection h
section
variable {P:Program}{w:World}{K:Frag}{mg:bD}{base:Heap}
def SZ (H:Hp)(v:V)(t b:Nat):Prop:=∃ p,v=.ref p/\H p\.tup [.int (t:Nat),.int (b:Nat)]
theorem SZ.kp {H H':Hp}{v:V}{t b:Nat}(h:SZ H v t b)(k:GX H H'):SZ H' v t b:=by
 obtain⟨p,e,h⟩:=h;exact⟨p,e,k _ _ h⟩
def Tl (H:Hp)(ps:List (Int × Nat))(T:Nat)(kv:Key × V)(n:Int):Prop:=kv.1=Key.inl n/\SZ H kv.2 (aM (de ps n) T) (ar (de ps n) T)
structure Told (H:Hp)(Ý:List (Key × V))(ns:List Int)(ps:List (Int × Nat))(T:Nat):Prop where
 pm:ns.Perm (ps.map (·.1))
 so:ns.Pairwise (· <= ·)
 pr:Paired (Tl H ps T) Ý ns
abbrev Hy:Stmt:=bT 52
def zh (K:Frag):Sp:=λ vs H Q _=>∃(pp d:Addr)(ps:List (Int × Nat))(T:Nat),vs=[.ref pp]/\Ĭ K H pp [.int (T:Nat),.ref d]/\H d\.dK (bY Key.inl ps)/\Mq ps/\ps.length<=5000/\Sz T/\(∀ q∈ps,q.2<=T)/\1<=T /\
 ∀ r H' Ý ns,H r=none->Ext H H'->H' r\.dK Ý->Told H' Ý ns ps T->Q (.ref r) H'
abbrev Lf:List Str:=["parts","bottom","tops"]
theorem Tj:ag Lf ["parts"] (aa Hy):=aL
abbrev Fq:Scope:=gR [("value",.local),("share_of",.globalImplicit),("bottom",.free),("tops",.free)]
theorem JG:((["value"]:List Str)++(["bottom","tops"]:List Str)).Nodup:=aF
section
variable {f:Addr}{cdv:Value}{A:Around}{outer:List Env}{s:Shared}{H:Hp}{E:XK}
theorem EA:cJ (b9 az P w K mg base Lf "told_spread" (aa Hy) f cdv A outer s H E).K' Fq [("tops",s.heap.objs.size+2),("bottom",s.heap.objs.size+1)] ["value"] ["bottom","tops"] [1,2] :=
 dk (M:=["tops","bottom"]) (L:=[(".0",.local),("value",.local),("share_of",.globalImplicit),("bottom",.cell),("tops",.cell)]) rfl rfl aF aF aF rfl rfl rfl aF aF rfl rfl rfl
end
theorem GL {f a1:Addr}{fd d1:FuncData}(F:Ļ K "told_spread" "told_spread" Hy f fd) (A1:Df P w K mg base az 4 "share_of" ["top","bottom"] vO a1 d1) (ms:mg "sorted" = none):ð P w K mg base az 5 f fd ["parts"] (zh K):=by
 refine F.ok Tj (λ vs H Q E h=>?_) (λ cdv A outer s H vs Q E hr h=>?_)
 ·obtain⟨pp,d,ps,T,rfl,_⟩:=h;rfl
 refine Â λ gg=>?_;obtain⟨pp,d,ps,T,rfl,hp,hd,ok,l64,sz,le,T1,q⟩:=h;have nd:=Tj.nd;have hu:(A.deeper (PyProof.Rows.envOfC "told_spread" (aa Hy) s.heap.objs.size f cdv)).units+2<cLine:=by have:=hr.un;lia
 refine gg ?_;refine⟨_,bA (hI (pv 0) (bq rfl (cL (bK (i:=1) nd rfl (Or.inr rfl)) (cL (bK (i:=2) nd rfl (Or.inr rfl)) aR))))
  (aW (cq (ES (tk:=af 0) (tv:=cV vO [] E0 (aw (bL (af 2) (af 0)) (aw (af 1) aS))) (g:=aJ 0) rfl EA (bE (ao (fc rfl) rfl ms Ÿ (ae (pv 2) aq))) (λ s H C fp=>by exact bK (i:=0) JG rfl (.inl rfl)) (λ s H C fp=>by exact pv 0) (λ s H C fp=>by exact cg A1 hr aj (ae (a8 hu (pv 2) (pv 0)) (ae (pv 1) aq)))))),?_⟩
 refine⟨_,rfl,pp,_,rfl,hp,rfl,_,_,rfl,_,_,rfl,rfl,?_⟩;have ek:((bY Key.inl ps).map λ p=>kV p.1)=(ps.map (·.1)).map V.int:=by
  unfold bY;rw[ā,ā];rfl
 refine⟨_,rfl,d,_,ps.map (·.1),rfl,.inl hd,ek,λ l ns hl pm so=>?_⟩;have x1:=Ext.new (o:=.lst (ns.map V.int)) hl;have ln:ns.length=ps.length:=by rw[pm.length_eq,Ç]
 refine⟨l,rfl,⟨_,Ğ.of bz⟩,λ D hD=>?_⟩;have x2:=x1.trans (Ext.new (o:=.dK []) hD);have hD0:H D=none:=by
  cases e:H D with
  | none=>rfl
  | some o=>rw[x1 _ _ e] at hD;cases hD
 have Xc:l≠D:=λ z=>by rw[<- z,bz] at hD;cases hD
 have ndn:ns.Nodup:=pm.nodup_iff.mpr ok.nd;have Wf:∀{H':Hp},Ext (ak H l (.lst (ns.map V.int))) H'->Ğ K H' l (ns.map V.int):=λ x=>Ğ.of (x _ _ bz);refine HM (n:=ns.length) (λ i ys H'=>Ext (ak H l (.lst (ns.map V.int))) H'/\Paired (Tl H' ps T) ys (ns.take i)) (by rw[ln,è];lia) ⟨Ext.new hD,.nil⟩ (λ i ys H' hi pv=>⟨_,_,Wf pv.1,by rw[Ô,Ã hi];rfl⟩) (λ ys H' pv=>⟨_,Wf pv.1,by rw[Ç];exact Å _⟩) ?_ ?_
 ·rintro i x ys H' H3 hi ⟨rfl,hy⟩ ly Ŕ ⟨x',pr⟩ os ų R k;have ex:=hy _ (Wf x');rw[Ô,Ã hi] at ex;have ex:V.int ns[i]=x:=á ex;subst ex;have en:ns[i]?=some ns[i]:=Ã hi;generalize hn:ns[i]=n at en;have mem:n∈ps.map (·.1):=pm.mem_iff.mp (ß en);have U2:Ext H H3:=x1.trans x';have gv:ſ H3 d (.int n) (some (.int (de ps n:Nat))):=by
   have g:=ſ.k (k:=.inl n) (U2 _ _ hd);rcases fg b6 n (ps:=ps) with⟨_,_,h3⟩ | ⟨h1,_⟩
   ·exact absurd mem h3
   ·rw[h1] at g;exact g
  obtain⟨qq,hq,eq⟩:=ë.mp mem;have dat:de ps n<=T:=by rw[<- eq,iA ok.nd hq];exact le qq hq
  match os,ų with
  | [o0],_ =>
   refine⟨⟨[some (.int n)],rfl,rfl⟩,_,rfl,_,rfl,_,rfl,d,_,rfl,gv,_,rfl,_,T,rfl,T1,dat,sz,λ t ht=>?_⟩;have x4:=Ext.new (o:=.tup [.int (aM (de ps n) T:Nat),.int (ar (de ps n) T:Nat)]) ht;have QY:=x4 _ _ Ŕ;refine k _ (.inl n) _ _ rfl QY ⟨aZ _ (x'.trans x4) hD,?_⟩;have nk:Key.inl n ∉ ys.map (·.1):=by
    intro z;obtain⟨kv,hkv,ekv⟩:=ë.mp z;obtain⟨j,hj,ej⟩:=Nc hkv;obtain⟨m,em,r1,_⟩:=cC pr (show ys[j]?\kv by rw[Ã hj,ej])
    rw[ekv] at r1;cases b6 _ _ r1;rw[List.getElem?_take] at em;split at em
    ·rename_i lt
     exact absurd ((List.getElem?_inj ad ndn).mp (em.trans en.symm)) ad
    ·cases em
   have kU:GX H3 (ak (ak H3 t (.tup [.int (aM (de ps n) T:Nat),.int (ar (de ps n) T:Nat)])) D (.dK (aU ys (.inl n) (.ref t)))):=λ b xs e=>by
    rw[ai (λ z=>by rw[z,Ŕ] at e;cases e)]
    exact x4 _ _ e
   rw[Ũ nk,aC en];rw[Ũ nk] at kU;refine dZ ⟨rfl,t,rfl,?_⟩ (Paired.imp' (λ kv m r=>⟨r.1,r.2.kp kU⟩) pr);rw[ai (λ z=>by rw[z,Ŕ] at ht;cases ht),bz]
 ·rintro ys H' Ŕ ⟨x',pr⟩;refine q D H' ys ns hD0 (x1.trans x') Ŕ ⟨pm,so,?_⟩;rw[ä] at pr;exact pr
end
section
variable {P:Program}{w:World}{K:Frag}{mg:bD}{base:Heap}{C:Nat->Addr}{f a1 a2:Addr}{fd d1 d2:FuncData}
abbrev BV:Stmt:=bT 53
abbrev Lm:List Str:=["rule","scores","bottom","tops","values","state","total","top"]
theorem Tp:ag Lm ["rule","scores"] (aa BV):=aL
def yI (C:Nat->Addr):Sp:=λ vs H Q _=>∃(v:V)(p:Addr)(t:Rl)(sc:List Int),vs=[v,.ref p]/\Ru C (nD H) t v/\t.ok/\H p\.lst (sc.map V.int)/\(sc.length:Int)=t.ö/\su t sc/\DM sc /\
 ∀ r H' Ý ns vs D,Ext H H'->H r=none->H' r\.dK Ý->Told H' Ý ns vs D->gZ t sc vs D->vs.length<=5000->Q (.ref r) H'
def Mc (K:Frag):TG:=jD K 2 (bu (jD K 2 (bu (aJ 5) (bu (aJ 6) jd))) (bu (aJ 7) jd))
def Kz (K:Frag)(C:Nat->Addr):TS:=bQ (bR (qB K) (cV (zV C) [] E0 (aw (af 0) (aw (af 1) aS))) (FT (rU λ i=>.int (-i)) (tC (.int 1)))) (jD K 2 (bu (aJ 2) (bu (aJ 3) jd)))
def HK (K:Frag):TS:=fM (CP (af 3)) (Mc K) (gU (af 4) (af 6) (bR (dQ λ i j=>.int (i+j)) (fu (af 4) (af 6) (tC (.int 0))) (af 7)))
def Gp (K:Frag):TS:=cH (cV (zh K) [] E0 (aw (iP (aw (af 2) (aw (af 4) aS))) aS))
def LO (K:Frag)(C:Nat->Addr):TS:=aO (Kz K C) (aO (bQ eG (aJ 4)) (aO (HK K) (Gp K)))
theorem CB {cdv:Value}{A:Around}{outer:List Env}{s:Shared}{H:Hp}{E:XK}(A1:Df P w K mg base az 11 "layers_of" ["rule","scores"] (zV C) a1 d1) (A2:Df P w K mg base az 5 "told_spread" ["parts"] (zh K) a2 d2) (hr:rE 11 "spread_of" BV A s f cdv):Bx (ο (b9 az P w K mg base Lm "spread_of" (aa BV) f cdv A outer s H E).K' (aH BV) (LO K C)):=by
 have nd:=Tp.nd;have Uz:Ă 5 _:=hr.mono av;have hu:(A.deeper (PyProof.Rows.envOfC "spread_of" (aa BV) s.heap.objs.size f cdv)).units+2<cLine:=by have:=hr.un;lia
 exact da ⟨hI (c5 A0 (cg A1 hr aj (ae (pv 0) (ae (pv 1) aq))) (mQ i5 aB)) (bq rfl (cL (bK (i:=2) nd rfl (Or.inl rfl)) (cL (bK (i:=3) nd rfl (Or.inl rfl)) aR)))⟩
  (da ⟨cB (i:=4) nd rfl (Or.inl rfl) gy⟩
  (da ⟨bC ò rfl (pX (pv 3)) (bq rfl (cL (bq rfl (cL (bK (i:=5) nd rfl (Or.inl rfl)) (cL (bK (i:=6) nd rfl (Or.inl rfl)) aR))) (cL (bK (i:=7) nd rfl (Or.inl rfl)) aR)))
   (aW (cI hu (pv 4) (pv 6) (ah aP (dP hu (pv 4) (pv 6) aB ⟨rfl,rfl,rfl,rfl⟩) (pv 7)) rfl))⟩
  (bI ⟨cq (cg A2 Uz aj (ae (aI (ae (pv 2) (ae (pv 4) aq))) aq))⟩)))
theorem FU (F:Ļ K "spread_of" "spread_of" BV f fd) (A1:Df P w K mg base az 11 "layers_of" ["rule","scores"] (zV C) a1 d1) (A2:Df P w K mg base az 5 "told_spread" ["parts"] (zh K) a2 d2):ð P w K mg base az 12 f fd ["rule","scores"] (yI C):=by
 refine cj F Tp λ cdv A outer s H vs Q E hr h=>?_;refine Â λ gg=>?_;obtain⟨v,p,t,sc,rfl,ru,ok,hp,fk,fw,ss,q⟩:=h;obtain⟨Oz⟩:=CB A1 A2 hr (f:=f) (cdv:=cdv) (A:=A) (outer:=outer) (s:=s) (H:=H) (E:=E);refine gg ?_;refine⟨_,Oz,?_⟩;refine⟨_,rfl,_,rfl,v,p,t,sc,rfl,ru,ok,hp,fk,fw,ss,λ L ms H1 x1 hL WG lm la=>?_⟩;have em:ms[sc.length]?\ms[sc.length]'ad:=Ã _;obtain⟨D,d,ps,h1,h2,h3,h4,h5⟩:=la _ _ em;generalize ms[sc.length]'ad=m at em h1 h3;have e1:ms.map V.ref=(ms.take sc.length).map V.ref ++ [V.ref m]:=by
  have:=aC em;rw[ō ad] at this;have e2:=ý (List.map V.ref) this
  rwa[Ø] at e2
 refine⟨_,rfl,L,_,_,.ref m,rfl,rfl,Ğ.of WG,by rw[e1];exact vZ _ _,m,_,rfl,Ĭ.of h1,rfl,_,_,rfl,_,_,rfl,rfl,?_⟩
 show aO (bQ eG (aJ 4)) _ _ [some v,some (.ref p),some (.int (D:Nat)),some (.ref d),none,none,none,none] H1;refine aE (te:=eG) (i:=4) λ e he=>?_;show aO (HK K) (Gp K) _ [some v,some (.ref p),some (.int (D:Nat)),some (.ref d),some (.ref e),none,none,none] (ak H1 e (.dK []));obtain⟨H2,x2,g2,eU⟩:=eD he (.dK []);rw[eU];have M7:=x1.back he;have hd2:=dM h2 x2;have NO:e≠d:=λ z=>by
  rcases h2 with r | ⟨_,r⟩ <;> rw[<- z,he] at r <;> cases r
 refine⟨_,rfl,d,aA ps,rfl,True.intro,hd2,λ ob H3 fz=>?_⟩;have x3:Ext H H3:=λ b o h=>by rw[fz.2 b (λ z=>by rw[z,h4] at h;cases h)];exact x2 _ _ (x1 _ _ h)
 have lp:ps.length<=5000:=h5.Ox ok ad fw (Å _);have NS:sc.length<=20:=by have:=(Rl.Ķ ok).2;lia
 refine sT (λ i σ H'=>H' d\.Η ob (aA ps)/\Ext H H'/\H' e\.dK (bY Key.inl (cO (ps.take i)))/\∃ o5 o6 o7,σ=[some v,some (.ref p),some (.int (D:Nat)),some (.ref d),some (.ref e),o5,o6,o7]) ⟨fz.1,x3,by rw[fz.2 e NO];exact g2,_,_,_,rfl⟩ (λ i σ H' pv=>pv.1) ?_ ?_
 ·rintro i σ H' p' kx vv hi ⟨hf,x',Ρ,o5,o6,o7,rfl⟩ Qx pr;refine Â λ gg=>?_;obtain⟨pp,b,sv,Vj,rfl,hb,nv,rfl⟩:=fG pr;obtain⟨H5,x5,g5,eU⟩:=eD Qx (.tup [.ref b,.int (pp.2:Nat)]);refine gg ?_;rw[eU];have hl:i<ps.length:=(Ú.mp Vj).1;obtain⟨TZ,_,l1⟩:=cW (ps:=ps.take i) λ q hq=>h5.pos q (ħ hq);have PH:=x5 _ _ Ρ;refine⟨p',_,rfl,Ĭ.of g5,rfl,_,_,rfl,b,_,rfl,Ĭ.of (x5 _ _ hb),rfl,_,_,rfl,_,_,rfl,rfl,_,_,rfl,rfl,?_⟩;refine⟨_,rfl,e,rfl,.inl ⟨_,.inl PH⟩,_,rfl,_,ſ.k PH (k:=.inl _),?_⟩;have eg:(a9 (bY Key.inl (cO (ps.take i))) (Key.inl pp.1.2)).getD (.int 0)=.int ((de (cO (ps.take i)) pp.1.2:Nat):Int):=by
   rcases fg b6 pp.1.2 (ps:=cO (ps.take i)) with⟨h1,h2,_⟩ | ⟨h1,_⟩
   ·rw[h1,h2];rfl
   ·rw[h1];rfl
  rw[eg];refine⟨_,rfl,_,_,rfl,rfl,_,rfl,_,rfl,e,_,rfl,Mp.k PH (k:=.inl pp.1.2) (by rw[eB,è];rw[ĕ] at l1;lia),?_⟩
  refine⟨by rw[ai NO.symm];exact x5 _ _ hf,aZ _ (x'.trans x5) M7,?_,_,_,_,rfl⟩
  rw[bz,aC Vj,gE,<- jJ b6 pp.1.2 pp.2 TZ.nd];rfl
 ·rintro σ H' ⟨hf,x',Ρ,o5,o6,o7,rfl⟩;rw[show bV (aA ps)=ps.length from(jk ps).2.2,ä] at Ρ;have S:=wp h5;refine⟨_,rfl,_,rfl,er,λ pp Vj=>?_⟩;obtain⟨H6,x6,g6,eU⟩:=eD Vj (.tup [.int (D:Nat),.ref e]);rw[eU];have d1:=iw ok sc (k:=sc.length) ad;refine⟨pp,e,cO ps,D,rfl,Ĭ.of g6,x6 _ _ Ρ,S.ok,È (cW h5.pos).2.2 lp,mf (È (È (ø d1.1 S.dd) d1.2) (È (â av NS) av)),λ z hz=>?_,S.D0,λ r H7 Ý ns hr7 x7 g7 td=>q r H7 Ý ns _ D ((x'.trans x6).trans x7) ((x'.trans x6).back hr7) g7 td S (È (cW h5.pos).2.2 lp)⟩;have:=vA (g:=λ _=>1) hz;rw[S.one] at this
  simpa using this
end
theorem zy {S D T B n:Nat}(hD:0<D)(hB:0<B)(e:T*D=n*B):aM (aM S D*B+T*ar S D) (ar S D*B)=aM (S+n) D/\ar (aM S D*B+T*ar S D) (ar S D*B)=ar (S+n) D:=by
 refine lS (Ħ (gD hD) hB) hD ?_;have lc:aM S D*D=ar S D*S:=m_;generalize aM S D=u at lc ⊢;generalize ar S D=v at lc ⊢
 calc (u*B+T*v)*D=B*(u*D)+(T*D)*v:=by rw[Ŧ];ac_rfl
  _=B*(v*S)+(n*B)*v:=by rw[lc,e]
  _=(S+n)*(v*B):=by rw[Ŧ];ac_rfl
theorem zT {n:Nat}(h:n<=10^40):Sz n:=mf (È h av)
theorem Ge {ns:List Nat}{i n:Nat}(h:ns[i]?\n):(ns.take (i+1)).sum=(ns.take i).sum+n:=by
 rw[aC h,ē];simp
theorem r6 (ns:List Nat)(i:Nat):(ns.take i).sum<=ns.sum:=by
 have e:ns.sum=(ns.take i).sum+(ns.drop i).sum:=by rw[<- ē,ó]
 lia
def SC (H:Hp)(D:Nat)(n:Nat)(v:V):Prop:=∃ a T B,v=.ref a/\H a\.tup [.int (T:Nat),.int (B:Nat)]/\T*D=n*B/\Nat.gcd T B=1/\1<=B/\B<=10^40/\T<=B
theorem SC.ext {H H':Hp}{D n:Nat}{v:V}(h:SC H D n v)(x:∀ z xs,H z\.tup xs->H' z\.tup xs):SC H' D n v:=by
 obtain⟨a,T,B,e,ha,r⟩:=h;exact⟨a,T,B,e,x _ _ ha,r⟩
abbrev Kj (H:Hp)(D:Nat):List V->List Nat->Prop:=Paired λ v n=>SC H D n v
theorem tG {N D:Nat}(h:0<D):Nat.gcd (aM N D) (ar N D)=1:=Px (õ N h)
theorem xS {N D:Nat}(h:N<=D):aM N D<=ar N D:=Ψ h
section
variable {P:Program}{w:World}{K:Frag}{mg:bD}{base:Heap}{f a1 n0:Addr}{fd d1:FuncData}
abbrev JA:Stmt:=bT 24
abbrev LI:List Str:=["several","total","share"]
theorem Tk:ag LI ["several"] (aa JA):=aL
def va (K:Frag):Sp:=λ vs H Q _=>∃(L:Addr)(zs:List V)(ns:List Nat)(D:Nat),vs=[.ref L]/\H L\.lst zs/\Kj H D zs ns/\0<D/\D<=10^40/\ns.sum<=D /\
 ∀ a H',Ext H H'->Ĭ K H' a [.int (aM ns.sum D:Nat),.int (ar ns.sum D:Nat)]->Q (.ref a) H'
theorem He (F:Ļ K "sum_shares" "sum_shares" JA f fd) (A1:Df P w K mg base az 2 "added" ["one","top","bottom"] (wT K) a1 d1) (m0:mg "NONE"\.ref n0) (t0:lF K n0 [.int (0:Nat),.int (1:Nat)]):ð P w K mg base az 3 f fd ["several"] (va K):=by
 refine cj F Tk λ cdv A outer s H vs Q E hr h=>?_;refine Â λ gg=>?_;obtain⟨L,zs,ns,D,rfl,hL,fr,D0,WS,sD,q⟩:=h;have nd:=Tk.nd;refine gg ?_;refine⟨_,bA (cB (i:=1) nd rfl (Or.inl rfl) (be (v:=.ref n0) rfl m0 rfl))
  (bA (bC ò rfl (bE (pv 0)) (bK (i:=2) nd rfl (Or.inl rfl))
   (bA (cB (i:=1) nd rfl (Or.inl rfl) (cg A1 hr aj (ae (pv 1) (ae (c5 dR (pv 2) aB) (ae (c5 dR (pv 2) aB) aq)))))
   (aW (aT (ay gc (c5 dR (pv 1) aB) (c5 dR (pv 1) aB) (ax _)) (aW c7) eM))))
  (aW (cq (pv 1)))),?_⟩
 have lz:=tZ D0;refine⟨_,rfl,L,rfl,⟨_,Ğ.of hL⟩,dJ (xs:=zs) (λ i σ H'=>Ext H H'/\∃ a o,σ=[some (.ref L),some (.ref a),o]/\Ĭ K H' a [.int (aM (ns.take i).sum D:Nat),.int (ar (ns.take i).sum D:Nat)]) ⟨Ext.refl _,n0,_,rfl,.inr (by rw[List.take_zero,List.sum_nil,lz.1,lz.2];exact t0)⟩ ?_ ?_ ?_⟩
 ·rintro i σ H' _ ⟨x,_⟩;exact Ğ.of (x _ _ hL)
 ·rintro i v σ H' ev ⟨x,a,o,rfl,ha⟩;refine Â λ gg=>?_;obtain⟨n,en,b,T,B,rfl,hb,eq,g1,B1,YI,TB⟩:=cC fr ev;have QC:Ĭ K H' b [.int (T:Nat),.int (B:Nat)]:=Ĭ.of (x _ _ hb);have sl:=r6 ns i;have sl1:=r6 ns (i+1);have tl:aM (ns.take i).sum D<=10^40:=È yJ ad;have bl:ar (ns.take i).sum D<=10^40:=È jS WS;have bp:0<ar (ns.take i).sum D:=gD D0;obtain⟨e1,e2⟩:=zy (S:=(ns.take i).sum) D0 B1 eq;obtain⟨f1,f2⟩:=xh (a:=aM (ns.take i).sum D) (c:=T) bp B1 (tG D0) g1 (.inl rfl);rw[ux] at f1 f2;have f1:=f1.trans (e1.trans (by rw[Ge en]):_=aM (ns.take (i+1)).sum D)
  have f2:=f2.trans (e2.trans (by rw[Ge en]):_=ar (ns.take (i+1)).sum D)
  have Xk:aM (ns.take (i+1)).sum D<=ar (ns.take (i+1)).sum D:=xS ad;refine gg ?_;generalize aM (ns.take (i+1)).sum D=u at f1 Xk ⊢;generalize ar (ns.take (i+1)).sum D=v at f2 Xk ⊢;generalize aM (ns.take i).sum D=y at *;generalize ar (ns.take i).sum D=z at *;refine⟨_,rfl,_,rfl,b,_,_,_,rfl,rfl,QC,rfl,_,rfl,b,_,_,_,rfl,rfl,QC,rfl,a,y,z,T,B,y*(B/Nat.gcd z B)+T*(z/Nat.gcd z B),T,rfl,ha,.inl rfl,zT tl,zT bl,zT (È TB YI),zT YI,bp,B1,by rw[Mw,Ĕ,Ĕ],λ r hr=>?_⟩
  rw[f1,f2];obtain⟨H1,x1,g1,eU⟩:=eD hr (.tup [.int (u:Nat),.int (v:Nat)]);rw[eU];have Ń:Ĭ K H1 r [.int (u:Nat),.int (v:Nat)]:=Ĭ.of g1;refine⟨_,rfl,r,_,_,_,rfl,rfl,Ń,rfl,_,rfl,r,_,_,_,rfl,rfl,Ń,rfl,_,_,rfl,rfl,_,rfl,?_⟩;rw[Ò ad];exact dW ⟨x.trans x1,r,_,rfl,Ń⟩
 ·rintro σ H' ⟨x,a,o,rfl,ha⟩;rw[fr.length,ä] at ha;exact⟨_,rfl,q a H' x ha⟩
end
def QE (H:Hp)(D:Nat):List (Key × V)->List (Int × Nat)->Prop:=Paired λ kv p=>kv.1=Key.inl p.1/\SC H D p.2 kv.2
theorem QE.ext {H H':Hp}{D:Nat}{Ý:List (Key × V)}{ps:List (Int × Nat)}(h:QE H D Ý ps)(x:∀ z xs,H z\.tup xs->H' z\.tup xs):QE H' D Ý ps:=Paired.imp' (λ _ _ a=>⟨a.1,a.2.ext x⟩) h
theorem QE.keys {H:Hp}{D:Nat}:∀{Ý:List (Key × V)}{ps:List (Int × Nat)},QE H D Ý ps->Ý.map (·.1)=ps.map λ p=>Key.inl p.1
 | _,_,.nil=>rfl
 | _,_,.cons a t=>by rw[É,É,a.1,QE.keys t]
theorem qL {ps:List (Int × Nat)}(h:(ps.map (·.1)).Nodup):(ps.map λ p=>Key.inl p.1).Nodup:=by
 have e:(ps.map λ p=>Key.inl p.1)=(ps.map (·.1)).map Key.inl:=by rw[ā];rfl
 rw[e];exact List.Pairwise.map _ (λ a b n z=>n (b6 _ _ z)) h
theorem fY {κ:Type} [DecidableEq κ] {qs:List (κ × V)}(nd:(qs.map (·.1)).Nodup){p:κ × V}(h:p∈qs):a9 qs p.1\p.2:=by
 induction qs with
 | nil=>cases h
 | cons x qs ih =>
  rw[É,ï] at nd;rcases Ö.mp h with rfl | h
  ·exact aV rfl
  ·rw[aK (λ z=>nd.1 (by rw[z];exact ű h))]
   exact ih nd.2 h
def du (f:Int->Bool)(ps:List (Int × Nat)):List Nat:=(ps.filter λ p=>f p.1).map (·.2)
theorem cQ (f:Int->Bool)(ps:List (Int × Nat))(p:Int × Nat):du f (ps ++ [p])=if f p.1=true then du f ps ++ [p.2] else du f ps:=by
 unfold du;rw[d_,Ů,List.filter_nil,Ø];split <;> simp
theorem oz (f:Int->Bool):∀ ps:List (Int × Nat),(du f ps).sum<=(ps.map (·.2)).sum
 | []=>Å _
 | p::ps=>by
  have ih:=oz f ps;unfold du at ih ⊢;rw[Ů,É,ĝ];split
  ·rw[É,ĝ];lia
  ·lia
def Lg (f:Int->Int->Bool):TE:=ig (jE (af 0)) 1 [0,1] (aJ 0) (tB (bR (dQ λ i j=>.bl (f i j)) (af 0) (af 2))) (bL (af 1) (af 0))
theorem Dz {f:Int->Int->Bool}{H:Hp}{Q:VK}{d:Addr}{n:Int}{Ý:List (Key × V)}{ps:List (Int × Nat)}{D:Nat}(rd:Rd H d (.dK Ý))(nd:(ps.map (·.1)).Nodup)(sh:QE H D Ý ps)(l5:ps.length<=5000)
  (q:∀ L H' zs,(∀ b o,H b\o->b≠d->H' b\o)->Rd H' d (.dK Ý)->H' L\.lst zs->Kj H' D zs (du (λ v=>f v n) ps)->Q (.ref L) H'):Lg f [some (.ref d),some (.int n)] H Q:=by
 refine⟨_,rfl,d,.dK Ý,rfl,True.intro,rd,λ ob H2 fz L hL=>?_⟩;have lk:Ý.length=ps.length:=Ė sh;have kT:∀ z xs,H z\.tup xs->H2 z\.tup xs:=λ z xs h=>by
  rw[fz.2 z (λ e=>by rcases rd with r | ⟨_,r⟩ <;> rw[<- e,h] at r <;> cases r)];exact h
 have Ue:(Ý.map (·.1)).Nodup:=by rw[sh.keys];exact qL nd
 refine tf (n:=ps.length) (λ i ys H'=>Ext H2 H'/\Kj H' D ys (du (λ v=>f v n) (ps.take i))) (by rw[è];lia) ⟨Ext.new hL,.nil⟩ (λ i ys H' hi p=>⟨p.1 _ _ fz.1,by show i < Ý.length;lia⟩) (λ ys H' p=>⟨p.1 _ _ fz.1,by show Ý.length<=ps.length;lia⟩) ?_ ?_
 ·rintro i x ys H' H3 hi ⟨rfl,v,pr⟩ ly Ŕ ⟨x',sa⟩ os ų N k;rcases pr with⟨Ur,kk,e,hk,rfl⟩ | ⟨_,_,_,e,_⟩
  ·cases e;obtain⟨p,ep,ek,sl⟩:=cC sh hk;cases ek;have ZW:=sl.ext λ z xs h=>x' _ _ (kT z xs h)
   match os,ų with
   | [o0],_ =>
    have g1:ſ H3 d (.int p.1) (some v):=.inl ⟨Ý,.inl p.1,.inr ⟨ob,x' _ _ fz.1⟩,rfl,(fY Ue (ß hk)).symm⟩;refine⟨⟨[some (.int p.1)],rfl,rfl⟩,_,rfl,_,rfl,_,_,rfl,rfl,_,rfl,λ e=>?_,λ e=>?_⟩
    ·refine k _ _ ⟨x',?_⟩ ad Ŕ;rw[aC ep,cQ,Æ (by rw[e];decide)]
     exact sa
    ·have Xn:∀ z xs,H3 z\.tup xs->ak H3 L (.lst (ys ++ [v])) z\.tup xs:=λ z xs h=>by
      rw[ai (λ e=>by rw[e,Ŕ] at h;cases h)];exact h
     refine⟨_,rfl,_,rfl,d,_,rfl,g1,Ŕ,k _ _ ⟨aZ _ x' hL,?_⟩ (by rw[Õ,Ν];lia) bz⟩
     rw[aC ep,cQ,Ë e];exact dZ (R:=λ v n=>SC _ D n v) (ZW.ext Xn) (Paired.imp' (λ v n (a:SC H3 D n v)=>a.ext Xn) sa)
  ·cases e
 ·rintro ys H' ly Ŕ ⟨x',sa⟩;rw[ä] at sa;exact q L H' ys (λ b o e n=>x' _ _ (by rw[fz.2 b n];exact e)) (.inr ⟨ob,x' _ _ fz.1⟩) Ŕ sa
section
variable {P:Program}{w:World}{K:Frag}{mg:bD}{base:Heap}{f a1 a2 D CN fC:Addr}{fd d1 d2 Q1:FuncData}
abbrev KU:Stmt:=bT 54
def vM:PyData->Bool
 | .int _=>true
 | _=>false
def zr (CN:Addr):Sp:=λ vs H Q E=>∃ x d,vs=[x]/\İ H x d/\(vM d=true->Q .Ę H)/\(vM d=false->fF CN "found" x H E)
theorem KO:ag ["thing"] ["thing"] (aa KU):=aL
theorem Hc (F:Ļ K "need_value" "need_value" KU f fd) (B:Α K D) (T:rh K mg D "NoNumber" "found" CN fC Q1) (A1:Df P w K mg base az 1 "is_number" ["thing"] (jO K) a1 d1):ð P w K mg base (eX P w) 3 f fd ["thing"] (zr CN):=by
 refine ng F KO λ cdv A outer s H vs Q E hr h=>?_;obtain⟨x,d,rfl,rd,q1,q2⟩:=h;refine⟨_,aW (aT (cA (bO (fX A1.G (hr.mono av) rfl A1.m A1.kp A1.b .nil aj (ae (pv 0) aq)))) (aW (eT B T.cls (T.ok P w base) hr T.bi rfl T.SQ (pv 0))) eM),?_⟩;refine⟨_,rfl,x,rfl,rd.th,_,rfl,?_⟩;rw[show EY x=vM d by cases rd <;> rfl]
 cases e:vM d with
 | true=>exact dW (q1 e)
 | false=>exact fU ⟨_,rfl,λ e' dx h1 h2 nd=>kF nd (q2 e e' dx h1 h2 nd)⟩
def nq (K:Frag)(CN:Addr)(f:Int->Int->Bool):Sp:=λ vs H Q E=>∃(d:Addr)(x:V)(dx:PyData),vs=[.ref d,x]/\İ H x dx/\(vM dx=false->fF CN "found" x H E) /\
 (∀ n,dx=.int n->∃(Ý:List (Key × V))(ps:List (Int × Nat))(D:Nat),Rd H d (.dK Ý)/\(ps.map (·.1)).Nodup/\QE H D Ý ps/\0<D/\D<=10^40/\(ps.map (·.2)).sum<=D/\ps.length<=5000 /\
  ∀ a H',(∀ b o,H b\o->b≠d->H' b\o)->Rd H' d (.dK Ý)->Ĭ K H' a [.int (aM (du (λ v=>f v n) ps).sum D:Nat),.int (ar (du (λ v=>f v n) ps).sum D:Nat)]->Q (.ref a) H')
abbrev Fl:Stmt:=bT 55
abbrev GU:Stmt:=bT 56
abbrev HZ:List Str:=["spread","value"]
theorem Js:ag HZ ["spread","value"] (aa Fl):=aL
theorem Jl:ag HZ ["spread","value"] (aa GU):=aL
abbrev Av:Scope:=gR [("key",.local),("spread",.free),("value",.free)]
theorem Hi:((["key"]:List Str)++(["spread","value"]:List Str)).Nodup:=aF
theorem BD {cdv:Value}{A:Around}{outer:List Env}{s:Shared}{H:Hp}{E:XK}:cJ (t5 P w K mg base HZ "share_from" (aa Fl) f cdv A outer s H E) Av [("value",s.heap.objs.size+2),("spread",s.heap.objs.size+1)] ["key"] ["spread","value"] [0,1] :=
 dk (M:=["value","spread"]) (L:=[(".0",.local),("key",.local),("spread",.cell),("value",.cell)]) rfl rfl aF aF aF rfl rfl rfl aF aF rfl rfl rfl
theorem CH {cdv:Value}{A:Around}{outer:List Env}{s:Shared}{H:Hp}{E:XK}:cJ (t5 P w K mg base HZ "share_to" (aa GU) f cdv A outer s H E) Av [("value",s.heap.objs.size+2),("spread",s.heap.objs.size+1)] ["key"] ["spread","value"] [0,1] :=
 dk (M:=["value","spread"]) (L:=[(".0",.local),("key",.local),("spread",.cell),("value",.cell)]) rfl rfl aF aF aF rfl rfl rfl aF aF rfl rfl rfl
def L6 (K:Frag)(CN:Addr)(f:Int->Int->Bool)(E:XK):TS:=aO (jW (cV (zr CN) [] E (aw (af 1) aS))) (cH (cV (va K) [] E0 (aw (Lg f) aS)))
theorem u8 {f:Int->Int->Bool}{CN:Addr}{vs:List V}{H:Hp}{Q:VK}{E:XK}(h:nq K CN f vs H Q E):∃(d:Addr)(x:V),vs=[.ref d,x]/\∀ De:bH,De.rt=Q->L6 K CN f E De [some (.ref d),some x] H:=by
 obtain⟨d,x,dx,rfl,rd,q2,q1⟩:=h;refine⟨d,x,rfl,λ De e=>⟨_,rfl,x,dx,rfl,rd,λ n1=>?_,q2⟩⟩;subst e;cases rd <;> first | cases n1 | skip
 rename_i n
 obtain⟨Ý,ps,D,hd,nd,sh,D0,WS,sD,l5,q⟩:=q1 n rfl;refine Dz (Q:=λ x H1=>va K [x] H1 De.rt E0) hd nd sh l5 λ L H1 zs k1 SW hL sa=>⟨L,zs,_,D,rfl,hL,sa,D0,WS,È (oz _ _) sD,λ a H2 x2 ha=>q a H2 (λ b o e n=>x2 _ _ (k1 b o e n)) (dM SW x2) ha⟩
theorem EQ (F:Ļ K "share_from" "share_from" Fl f fd) (A1:Df P w K mg base (eX P w) 3 "need_value" ["thing"] (zr CN) a1 d1) (A2:Df P w K mg base az 3 "sum_shares" ["several"] (va K) a2 d2):ð P w K mg base (eX P w) 4 f fd ["spread","value"] (nq K CN λ i j=>decide (j<=i)):=by
 refine ng F Js λ cdv A outer s H vs Q E hr h=>?_;obtain⟨d,x,rfl,g⟩:=u8 h;have hu:(A.deeper (PyProof.Rows.envOfC "share_from" (aa Fl) s.heap.objs.size f cdv)).units+2<cLine:=by have:=hr.un;lia
 refine⟨_,bA (aG (fX A1.G (hr.mono av) rfl A1.m A1.kp A1.b .nil eN (ae (pv 1) aq)))
  (aW (cq (cg A2 hr aj (ae (fE (te:=bL (af 1) (af 0)) (tt:=tB (bR (dQ λ i j=>.bl (decide (j<=i))) (af 0) (af 2))) (g:=aJ 0) rfl BD (cK (pv 0)) (λ s H C fp=>by exact bK (i:=0) Hi rfl (.inl rfl)) (λ s H C fp=>by exact ay lP (pv 0) (pv 2) (ax _)) (λ s H C fp=>by exact a8 hu (pv 1) (pv 0))) aq)))),g _ rfl⟩
theorem DE (F:Ļ K "share_to" "share_to" GU f fd) (A1:Df P w K mg base (eX P w) 3 "need_value" ["thing"] (zr CN) a1 d1) (A2:Df P w K mg base az 3 "sum_shares" ["several"] (va K) a2 d2):ð P w K mg base (eX P w) 4 f fd ["spread","value"] (nq K CN λ i j=>decide (i<=j)):=by
 refine ng F Jl λ cdv A outer s H vs Q E hr h=>?_;obtain⟨d,x,rfl,g⟩:=u8 h;have hu:(A.deeper (PyProof.Rows.envOfC "share_to" (aa GU) s.heap.objs.size f cdv)).units+2<cLine:=by have:=hr.un;lia
 refine⟨_,bA (aG (fX A1.G (hr.mono av) rfl A1.m A1.kp A1.b .nil eN (ae (pv 1) aq)))
  (aW (cq (cg A2 hr aj (ae (fE (te:=bL (af 1) (af 0)) (tt:=tB (bR (dQ λ i j=>.bl (decide (i<=j))) (af 0) (af 2))) (g:=aJ 0) rfl CH (cK (pv 0)) (λ s H C fp=>by exact bK (i:=0) Hi rfl (.inl rfl)) (λ s H C fp=>by exact ay qh (pv 0) (pv 2) (ax _)) (λ s H C fp=>by exact a8 hu (pv 1) (pv 0))) aq)))),g _ rfl⟩
end
def gw (a b:TE):TE:=iP (aw a (aw b aS))
def yS (d:Nat)(a b v:TE):TS:=gU (af d) (gw a b) (cR (fu (af d) (gw a b) (tC (.int 0))) v)
theorem Ez {De:bH}{d:Nat}{ta tb tv:TE}{σ:St}{H:Hp}{e:Addr}{acc:Tw}{h tot:Int}{c:Nat}(si:σ[d]?\some (.ref e))(he:H e\aA acc)(nd:(acc.map (·.1)).Nodup)(ln:acc.length<2^24)
  (ka:∀{H:Hp}{R:VK},R (.int h) H->ta σ H R) (kb:∀{H:Hp}{R:VK},R (.int tot) H->tb σ H R) (kv:∀{H:Hp}{R:VK},R (.int (c:Nat)) H->tv σ H R)
  (q:∀ H',Kept H H' e->H' e\aA (bo acc (.k (.inl h),tot) c)->De.nx σ H'):yS d ta tb tv De σ H:=by
 refine⟨_,si,e,rfl,.inr ⟨_,.inl he⟩,ka (kb ⟨er,λ b hb=>?_⟩)⟩;obtain⟨H1,x1,g1,eU⟩:=eD hb (.tup [.int h,.int tot]);rw[eU];have Rq:=x1 _ _ he;obtain⟨o,dg,ov,_⟩:=iD (q:=(.k (.inl h),tot)) (.inl Rq) g1 (show NV H1 (.k (.inl h)) (.int h) from rfl);refine⟨o,dg,kv ⟨_,_,ov,rfl,?_⟩⟩;refine⟨_,si,ka (kb ⟨er,λ b2 SX=>?_⟩)⟩;obtain⟨H2,x2,g2,eU⟩:=eD SX (.tup [.int h,.int tot]);rw[eU];have QU:=x2 _ _ Rq;refine⟨e,ak H2 e (aA (bo acc (.k (.inl h),tot) c)),rfl,?_,q _ (λ z o hz n=>by rw[ai n];exact x2 _ _ (x1 _ _ hz)) bz⟩
 dsimp only
 rw[<- Mw];exact kE (q:=(.k (.inl h),tot)) QU nd g2 (show NV H2 (.k (.inl h)) (.int h) from rfl) (by rw[è];exact ln)
theorem nI {d:Nat}{ta tb:TE}{σ:St}{H:Hp}{e:Addr}{ps:Tw}{h tot:Int}{c:Nat}{Q:VK}(si:σ[d]?\some (.ref e))(he:Rd H e (aA ps))(nd:(ps.map (·.1)).Nodup)(m:((NK.k (.inl h),tot),c)∈ps)
  (ka:∀{H:Hp}{R:VK},R (.int h) H->ta σ H R) (kb:∀{H:Hp}{R:VK},R (.int tot) H->tb σ H R) (q:∀ H',Ext H H'->Q (.int (c:Nat)) H'):bL (af d) (gw ta tb) σ H Q:=by
 refine⟨_,si,ka (kb ⟨er,λ b hb=>?_⟩)⟩;obtain⟨H1,x1,g1,eU⟩:=eD hb (.tup [.int h,.int tot]);rw[eU];obtain⟨o,dg,_,ov⟩:=iD (q:=(.k (.inl h),tot)) (dM he x1) g1 (show NV H1 (.k (.inl h)) (.int h) from rfl);have e1:o\.int (c:Nat):=by
  rw[ov];exact fY (p:=((NK.k (.inl h),tot),V.int (c:Nat))) (by rw[ā];exact nd) (ë.mpr ⟨_,m,rfl⟩)
 rw[e1] at dg;exact⟨e,_,rfl,dg,q _ x1⟩
section
variable {P:Program}{w:World}{K:Frag}{mg:bD}{base:Heap}{f:Addr}{fd:FuncData}
abbrev AQ:Stmt:=bT 78
abbrev Lq:List Str:=["_law_scores","_law_ones","_law_layer","_law_at","_law_score","_law_more","_law_held","_law_total","_law_many","_law_found"]
theorem Tx:ag Lq ["_law_scores","_law_ones"] (aa AQ):=aL
def yv:Sp:=λ vs H Q _=>∃(l:Addr)(sc:List Int)(k:Nat),vs=[.ref l,.int (k:Nat)]/\H l\.lst (sc.map V.int)/\(R0.split sc.length k).ok/\∀ m H',Ext H H'->H m=none->H' m\.dK (bY Key.inl (cO (k9 sc k sc.length)))->Q (.ref m) H'
abbrev Ax (K:Frag)(i j:Nat):TG:=jD K 2 (bu (aJ i) (bu (aJ j) jd))
def G3 (K:Frag):TS:=cE (fH (bR (dQ λ i j=>.bl (decide (i<j))) (bR (dQ λ i j=>.int (i-j)) (af 3) (af 6)) (bR (dQ λ i j=>.int (i-j)) (oC K 0) (af 1)))) (yS 5 (af 6) (af 7) (af 8)) br
def Cn:TS:=cE (fH (bR (dQ λ i j=>.bl (decide (i<j))) (af 6) (af 1))) (yS 5 (cR (af 6) (tC (.int 1))) (cR (af 7) (af 4)) (af 8)) br
def Ew (K:Frag):TS:=fM (jE (af 2)) (Ax K 6 7) (aO (bQ (bL (af 2) (gw (af 6) (af 7))) (aJ 8)) (aO (G3 K) Cn))
def Ch (K:Frag):TS:=fM (pU K (aw (af 0) aS)) (Ax K 3 4) (aO (bQ ie (aJ 5)) (aO (Ew K) (bQ (af 5) (aJ 2))))
def Ee (K:Frag):TS:=fM (jE (af 2)) (Ax K 6 7) (cE (fH (bR uW (af 6) (af 1))) (gU (af 9) (af 7) (bL (af 2) (gw (af 6) (af 7)))) br)
def LB (K:Frag):TS:=aO (bQ (ii (gw (tC (.int 0)) (tC (.int 0))) (tC (.int 1))) (aJ 2)) (aO (Ch K) (aO (bQ eG (aJ 9)) (aO (Ee K) (cH (af 9)))))
section
variable {cdv:Value}{A:Around}{outer:List Env}{s:Shared}{H:Hp}{E:XK}
theorem EL (mn:mg "len" = none) (me:mg "enumerate" = none) (hr:rE 0 "_law_split_counts" AQ A s f cdv):Bx (ο (b9 az P w K mg base Lq "_law_split_counts" (aa AQ) f cdv A outer s H E).K' (aH AQ) (LB K)):=by
 have nd:=Tx.nd;have hu:(A.deeper (PyProof.Rows.envOfC "_law_split_counts" (aa AQ) s.heap.objs.size f cdv)).units+64<cLine:=by have:=hr.un;lia
 have F_:(A.deeper (PyProof.Rows.envOfC "_law_split_counts" (aa AQ) s.heap.objs.size f cdv)).units+2<cLine:=ad;refine da ⟨cB (i:=2) nd rfl (Or.inl rfl) (j8 hu (aI (ae aB (ae aB aq))) aB)⟩ (da ?_ (da ⟨cB (i:=9) nd rfl (Or.inl rfl) gy⟩ (da ?_ (bI ⟨cq (pv 9)⟩))))
 ·refine⟨bC ò rfl (ip rfl me (ae (pv 0) aq)) (bq rfl (cL (bK (i:=3) nd rfl (Or.inl rfl)) (cL (bK (i:=4) nd rfl (Or.inl rfl)) aR))) (bA (cB (i:=5) nd rfl (Or.inl rfl) im) (bA (bC ò rfl (cK (pv 2)) (bq rfl (cL (bK (i:=6) nd rfl (Or.inl rfl)) (cL (bK (i:=7) nd rfl (Or.inl rfl)) aR))) ?_) (aW (cB (i:=2) nd rfl (Or.inl rfl) (pv 5)))))⟩;exact bA (cB (i:=8) nd rfl (Or.inl rfl) (a8 F_ (pv 2) (aI (ae (pv 6) (ae (pv 7) aq)))))
   (bA (aT (ay kY (ah bJ (pv 3) (pv 6)) (ah bJ (ao aY rfl mn ě (ae (pv 0) aq)) (pv 1)) (ax _)) (aW (cI F_ (pv 5) (aI (ae (pv 6) (ae (pv 7) aq))) (ah aP (dP F_ (pv 5) (aI (ae (pv 6) (ae (pv 7) aq))) aB ⟨rfl,rfl,rfl,rfl⟩) (pv 8)) rfl)) eM)
   (aW (aT (ay kY (pv 6) (pv 1) (ax _)) (aW (cI F_ (pv 5) (aI (ae (ah aP (pv 6) aB) (ae (ah aP (pv 7) (pv 4)) aq))) (ah aP (dP F_ (pv 5) (aI (ae (ah aP (pv 6) aB) (ae (ah aP (pv 7) (pv 4)) aq))) aB ⟨rfl,rfl,rfl,rfl⟩) (pv 8)) rfl)) eM)))
 ·exact⟨bC ò rfl (cK (pv 2)) (bq rfl (cL (bK (i:=6) nd rfl (Or.inl rfl)) (cL (bK (i:=7) nd rfl (Or.inl rfl)) aR))) (aW (aT (ay iO (pv 6) (pv 1) (ax _)) (aW (cI F_ (pv 9) (pv 7) (a8 F_ (pv 2) (aI (ae (pv 6) (ae (pv 7) aq)))) rfl)) eM))⟩
end
end
theorem rR {De:bH}{tt:TT}{d:Nat}{ta tb tv:TE}{σ:St}{H:Hp}{e:Addr}{acc:Tw}{h tot:Int}{c:Nat}(b:Prop) [Decidable b] (ht:∀ R:Bool->Hp->Prop,R (decide b) H->tt σ H R)(si:σ[d]?\some (.ref e))(he:H e\aA acc)(nd:(acc.map (·.1)).Nodup)(ln:acc.length<2^24)
  (ka:∀{H:Hp}{R:VK},R (.int h) H->ta σ H R) (kb:∀{H:Hp}{R:VK},R (.int tot) H->tb σ H R) (kv:∀{H:Hp}{R:VK},R (.int (c:Nat)) H->tv σ H R)
  (q:∀ H',Kept H H' e->H' e\(aA (if b then bo acc (.k (.inl h),tot) c else acc))->De.nx σ H'):cE tt (yS d ta tb tv) br De σ H:=by
 refine ht _ ?_;by_cases z:b
 ·rw[Ê z];rw[Ë z] at q;exact fU (Ez si he nd ln ka kb kv q)
 ·rw[Ò z];rw[Æ z] at q;exact dW (q H (Kept.refl _ _) he)
theorem zK {n K k:Nat}{h tot c:Int}{m:Nat}{acc:Tw}:fO (uP n K k h) 1 m tot c acc=if h<(K:Int) then bo (if(k:Int)-h<(n:Int)-K then bo acc (.k (.inl h),tot) m else acc) (.k (.inl (h+1)),tot+c) m else if(k:Int)-h<(n:Int)-K then bo acc (.k (.inl h),tot) m else acc:=by
 unfold uP fO;rw[ľ];have e1:m*(Š.part ⟨0,1,1,.int h⟩ 1)=m:=by show m*(1*(1/1))=m;simp
 have e2:m*(Š.part ⟨1,1,1,.int (h+1)⟩ 1)=m:=by show m*(1*(1/1))=m;simp
 by_cases a:(k:Int)-h<(n:Int)-K <;> by_cases b:h<(K:Int)
 ·rw[Ë a,Ë b,Ë b,Ë a];show bo (bo acc (_,tot+0*c) _) (_,tot+1*c) _=_;rw[e1,e2,Int.zero_mul,Int.add_zero,Int.one_mul];rfl
 ·rw[Ë a,Æ b,Æ b,Ë a];show bo acc (_,tot+0*c) _=_;rw[e1,Int.zero_mul,Int.add_zero];rfl
 ·rw[Æ a,Ë b,Ë b,Æ a];show bo acc (_,tot+1*c) _=_;rw[e2,Int.one_mul];rfl
 ·rw[Æ a,Æ b,Æ b,Æ a];rfl
theorem AA {ps:Tw}{k:TK}{c:Nat}{b:Prop} [Decidable b] (h:(ps.map (·.1)).Nodup):((if b then bo ps k c else ps).map (·.1)).Nodup:=by
 split
 ·exact nO h
 ·exact h
theorem uY {ps:Tw}{k:TK}{c:Nat}{b:Prop} [Decidable b]:(if b then bo ps k c else ps).length<=ps.length+1:=by
 split
 ·exact km ..
 ·exact MI _
theorem SB.ks {sc:List Int}{K k:Nat}{ps:Tw}(I:SB sc K k ps)(ok:(R0.split sc.length K).ok)(hk:k<=sc.length):∀ p∈ps,∃ h:Int,p.1.1=.k (.inl h):=λ p hp=>by
 have z:0<((dw (.one (.split sc.length K)) sc k).map λ r=>Ff p.1 (pB K r)).sum:=by
  rw[<- I.g,nr I.nd,nR I.nd hp];exact I.pos p hp
 obtain⟨r,hr,h2⟩:=jR z;have h2:0<(if pB K r=p.1 then 1 else 0):=h2
 obtain⟨s,e,_⟩:=j6 ok hk r hr;by_cases e2:pB K r=p.1
 ·rw[<- e2];unfold pB;rw[e];exact⟨_,rfl⟩
 ·rw[Æ e2] at h2;cases h2
theorem wQ {ps:Tw}{N:NK}(nd:(ps.map (·.1)).Nodup)(pos:∀ p∈ps,0<p.2)(all:∀ p∈ps,p.1.1=N){j:Nat}{p:TK × Nat}(e:ps[j]?\p):de (cO (ps.take j)) p.1.2=0:=by
 obtain⟨ok,g,_⟩:=cW (ps:=ps.take j) λ q hq=>pos q (ħ hq);rw[lT ok.nd,g];have e1:=aC e;have Xg:((ps.take j ++ [p]).map (·.1)).Nodup:=by
  rw[<- e1];exact((N_ _ _).map _).nodup nd
 rw[Ø,List.nodup_append] at Xg;unfold tS;refine List.sum_eq_zero_iff_forall_eq_nat.mpr λ x hx=>?_;obtain⟨q,hq,rfl⟩:=ë.mp hx
 dsimp only
 rw[Æ λ z=>Xg.2.2 _ (ű hq) p.1 (by simp) (Prod.ext ((all q (List.mem_of_mem_take hq)).trans (all p (List.mem_of_getElem? e)).symm) z)]
 rfl
section
variable {P:Program}{w:World}{K:Frag}{mg:bD}{base:Heap}{f:Addr}{fd:FuncData}
abbrev tW (l:Addr)(k:Nat)(d:Addr)(o3 o4 o5 o6 o7 o8 o9:Option V):St:=[some (.ref l),some (.int (k:Nat)),some (.ref d),o3,o4,o5,o6,o7,o8,o9]
theorem CU {De:bH}{H0 H:Hp}{l d e:Addr}{sc:List Int}{k i:Nat}{o6 o7 o8 o9:Option V}(ok:(R0.split sc.length k).ok)(hi:i<sc.length)(hl:H0 l\.lst (sc.map V.int))(x0:Ext H0 H)(u_:H0 d=none)(M7:H0 e=none)(hd:H d\aA (k9 sc k i))(he:H e\aA [])(NO:d≠e)
  (q:∀ H' o6 o7 o8,Ext H0 H'->H' e\aA (k9 sc k (i+1))->De.nx (tW l k d (some (.int (i:Nat))) (some (.int (sc.getD i 0))) (some (.ref e)) o6 o7 o8 o9) H') :
  Ew K De (tW l k d (some (.int (i:Nat))) (some (.int (sc.getD i 0))) (some (.ref e)) o6 o7 o8 o9) H:=by
 have I:=j9 ok (k:=i) ad;have ks:=I.ks ok ad;generalize eps:k9 sc k i=ps at hd I ks;have eL:k9 sc k (i+1)=eu sc.length k i (sc.getD i 0) ps []:=by rw[<- eps];rfl
 have NS:2^i<=2^20:=â av (by have:=(R0.Ķ ok).2;have:(sc.length:Int)<=20:=this;lia)
 refine⟨_,rfl,d,aA ps,rfl,True.intro,.inl hd,λ ob H1 fz=>?_⟩;have x1:Ext H0 H1:=λ b o h=>by rw[fz.2 b (ap h u_)];exact x0 _ _ h
 refine gB (λ j σ H'=>H' d\.Η ob (aA ps)/\Ext H0 H'/\H' e\aA (eu sc.length k i (sc.getD i 0) (ps.take j) [])/\∃ o6 o7 o8,σ = tW l k d (some (.int (i:Nat))) (some (.int (sc.getD i 0))) (some (.ref e)) o6 o7 o8 o9) ⟨fz.1,x1,by rw[fz.2 e (λ z=>NO z.symm)];exact he,_,_,_,rfl⟩ (λ i σ H' pv=>pv.1) ?_ ?_
 ·rintro j σ H' kx vv hj ⟨hf,x',Ρ,o6,o7,o8,rfl⟩ pr;refine Â λ gg=>?_;obtain⟨p,b,sv,hp,rfl,hb,nv,rfl⟩:=fG pr;have pm:=ß hp;obtain⟨h,eh⟩:=ks p pm;obtain⟨⟨pk,tot⟩,m⟩:=p;refine gg ?_;cases eh;cases (show sv=.int h from nv);refine⟨b,_,rfl,Ĭ.of hb,rfl,_,_,rfl,_,_,rfl,rfl,?_⟩;have nA:=ko (n:=sc.length) (K:=k) (k:=i) (c:=sc.getD i 0) (ps.take j) (acc:=[]) (by simp)
  have lA:=ji (n:=sc.length) (K:=k) (k:=i) (c:=sc.getD i 0) (ps.take j) [];have eA:eu sc.length k i (sc.getD i 0) (ps.take (j+1)) []=fO (uP sc.length k i h) 1 m tot (sc.getD i 0) (eu sc.length k i (sc.getD i 0) (ps.take j) []):=by
   rw[aC hp];show List.foldl _ _ _=_;rw[ľ];rfl
  rw[zK] at eA;have lA:(eu sc.length k i (sc.getD i 0) (ps.take j) []).length<=2*2^20:=È lA (by have:=I.len;rw[ĕ,ļ];lia)
  generalize eu sc.length k i (sc.getD i 0) (ps.take j) []=acc at Ρ nA lA eA;refine aE (te:=bL (af 2) (gw (af 6) (af 7))) (i:=8) (nI rfl (.inr ⟨_,hf⟩) I.nd pm (λ r=>⟨_,rfl,r⟩) (λ r=>⟨_,rfl,r⟩) λ H2 x2=>?_);show aO (G3 K) Cn _ (tW l k d (some (.int (i:Nat))) (some (.int (sc.getD i 0))) (some (.ref e)) (some (.int h)) (some (.int tot)) (some (.int (m:Nat))) o9) H2;refine rR ((i:Int)-h<(sc.length:Int)-k) (λ R r=>⟨_,rfl,_,rfl,_,_,rfl,rfl,_,rfl,l,_,rfl,.inl (Ğ.of (x2 _ _ (x' _ _ hl))),_,rfl,_,_,rfl,rfl,_,_,rfl,rfl,_,rfl,by rw[Ç];exact r⟩) rfl (x2 _ _ Ρ) nA ad (λ r=>⟨_,rfl,r⟩) (λ r=>⟨_,rfl,r⟩) (λ r=>⟨_,rfl,r⟩) λ H3 k3 Qz=>?_
  have l1:=uY (ps:=acc) (k:=(NK.k (.inl h),tot)) (c:=m) (b:=(i:Int)-h<(sc.length:Int)-k);show Cn _ (tW l k d (some (.int (i:Nat))) (some (.int (sc.getD i 0))) (some (.ref e)) (some (.int h)) (some (.int tot)) (some (.int (m:Nat))) o9) H3;refine rR (h<(k:Int)) (λ R r=>⟨_,rfl,_,rfl,_,_,rfl,rfl,_,rfl,r⟩) rfl Qz (AA nA) ad (λ r=>⟨_,rfl,_,_,rfl,rfl,r⟩) (λ r=>⟨_,rfl,_,rfl,_,_,rfl,rfl,r⟩) (λ r=>⟨_,rfl,r⟩) λ H4 k4 Qy=>?_;rw[<- eA] at Qy;refine⟨k4 _ _ (k3 _ _ (x2 _ _ hf) NO) NO,λ b o hb=>k4 _ _ (k3 _ _ (x2 _ _ (x' _ _ hb)) (ap hb M7)) (ap hb M7),Qy,_,_,_,rfl⟩
 ·rintro σ H' ⟨hf,x',Ρ,o6,o7,o8,rfl⟩;rw[show bV (aA ps)=ps.length from(jk ps).2.2,ä,<- eL] at Ρ;exact q H' _ _ _ x' Ρ
end
section
variable {P:Program}{w:World}{K:Frag}{mg:bD}{base:Heap}{f:Addr}{fd:FuncData}
theorem Bs {De:bH}{u:TS}{H0 H:Hp}{l d:Addr}{sc:List Int}{k:Nat}(ok:(R0.split sc.length k).ok)(hl:H0 l\.lst (sc.map V.int))(x0:Ext H0 H)(u_:H0 d=none)(hd:H d\aA (k9 sc k 0))
  (q:∀ H' d' o3 o4 o5 o6 o7 o8,Ext H0 H'->H0 d'=none->H' d'\aA (k9 sc k sc.length)->u De (tW l k d' o3 o4 o5 o6 o7 o8 none) H'):aO (Ch K) u De (tW l k d none none none none none none none) H:=by
 have NS:=(R0.Ķ ok).2;have NS:(sc.length:Int)<=20:=NS;have sz:=è;refine⟨_,rfl,l,rfl,⟨_,Ğ.of (x0 _ _ hl)⟩,kP (xs:=sc.map V.int) (λ i σ H'=>Ext H0 H'/\∃ d o3 o4 o5 o6 o7 o8,σ = tW l k d o3 o4 o5 o6 o7 o8 none/\H0 d=none/\H' d\aA (k9 sc k i)) ⟨x0,d,_,_,_,_,_,_,rfl,u_,hd⟩ (λ i σ H' _ pv=>Ğ.of (pv.1 _ _ hl)) ?_ ?_⟩
 ·rintro i x σ H' pr ex ⟨x',d,o3,o4,o5,o6,o7,o8,rfl,u_,hd⟩ Wn;rw[Ô] at ex;obtain⟨c,ec,rfl⟩:=Û.mp ex;have hi:i<sc.length:=(Ú.mp ec).1;have es:c=sc.getD i 0:=by rw[ą,ec];rfl
  subst es;obtain⟨H1,x1,g1,eU⟩:=eD Wn (.tup [.int (i:Nat),.int (sc.getD i 0)]);rw[eU];refine⟨pr,_,rfl,Ĭ.of g1,rfl,_,_,rfl,_,_,rfl,rfl,?_⟩;refine aE (te:=ie) (i:=5) λ e he=>?_;show aO (Ew K) (bQ (af 5) (aJ 2)) _ (tW l k d (some (.int (i:Nat))) (some (.int (sc.getD i 0))) (some (.ref e)) o6 o7 o8 none) (ak H1 e (.dT []));obtain⟨H2,x2,g2,eU⟩:=eD he (.dT []);rw[eU];have SH:=(x'.trans x1).trans x2;have M7:=(x'.trans x1).back he;refine CU ok hi hl SH u_ M7 (x2 _ _ (x1 _ _ hd)) g2 (λ z=>by rw[<- z,x1 _ _ hd] at he;cases he) λ H3 o6 o7 o8 x3 Qz=>?_
  exact⟨_,rfl,x3,e,_,_,_,_,_,_,rfl,M7,Qz⟩
 ·rintro σ H' ⟨x',d,o3,o4,o5,o6,o7,o8,rfl,u_,hd⟩;rw[Ç] at hd;exact q H' d _ _ _ _ _ _ x' u_ hd
theorem BX {De:bH}{H0 H:Hp}{l d m:Addr}{sc:List Int}{k:Nat}{o3 o4 o5 o6 o7 o8:Option V}(ok:(R0.split sc.length k).ok)(x0:Ext H0 H)(u_:H0 d=none)(NW:H0 m=none)(hd:H d\aA (k9 sc k sc.length))(hm:H m\.dK [])(Ud:d≠m)
  (q:∀ H',Ext H0 H'->H' m\.dK (bY Key.inl (cO (k9 sc k sc.length)))->De.rt (.ref m) H'):aO (Ee K) (cH (af 9)) De (tW l k d o3 o4 o5 o6 o7 o8 (some (.ref m))) H:=by
 have I:=j9 ok (Å _);have al:=(yf ok).2;have NS:(sc.length:Int)<=20:=(R0.Ķ ok).2;have lp:=È I.len (â (show 0<2 by decide) (show sc.length<=20 by lia))
 generalize k9 sc k sc.length=ps at hd I al q lp;refine⟨_,rfl,d,aA ps,rfl,True.intro,.inl hd,λ ob H1 fz=>?_⟩;have x1:Ext H0 H1:=λ b o h=>by rw[fz.2 b (ap h u_)];exact x0 _ _ h
 refine gB (λ j σ H'=>H' d\.Η ob (aA ps)/\Ext H0 H'/\H' m\.dK (bY Key.inl (cO (ps.take j)))/\∃ o6 o7,σ = tW l k d o3 o4 o5 o6 o7 o8 (some (.ref m))) ⟨fz.1,x1,by rw[fz.2 m (λ z=>Ud z.symm)];exact hm,_,_,rfl⟩ (λ i σ H' pv=>pv.1) ?_ ?_
 ·rintro j σ H' kx vv hj ⟨hf,x',Nn,o6,o7,rfl⟩ pr;refine Â λ gg=>?_;obtain⟨p,b,sv,hp,rfl,hb,nv,rfl⟩:=fG pr;have pm:=ß hp;have new:=wQ I.nd I.pos al hp;have tk:=aC hp;obtain⟨TZ,_,l1⟩:=cW (ps:=ps.take j) λ q hq=>I.pos q (ħ hq);obtain⟨⟨pk,tot⟩,c⟩:=p;cases (show pk=_ from al _ pm);cases (show sv=.int (k:Nat) from nv);refine gg ?_;refine⟨b,_,rfl,Ĭ.of hb,rfl,_,_,rfl,_,_,rfl,rfl,?_⟩;refine⟨_,rfl,_,rfl,rfl,_,rfl,?_⟩;rw[Ê rfl];refine fU (nI rfl (.inr ⟨_,hf⟩) I.nd pm (λ r=>⟨_,rfl,r⟩) (λ r=>⟨_,rfl,r⟩) λ H2 x2=>?_);have QT:=x2 _ _ Nn;refine⟨_,rfl,_,rfl,m,_,rfl,Mp.k QT (k:=.inl tot) (by rw[eB,è];rw[ĕ] at l1;lia),?_⟩
  refine⟨by rw[ai Ud];exact x2 _ _ hf,aZ _ (x'.trans x2) NW,?_,_,_,rfl⟩
  have ep:=jJ b6 tot c TZ.nd;rw[show de (cO (ps.take j)) tot=0 from new,ŋ] at ep;rw[bz,ep,tk,gE]
 ·rintro σ H' ⟨hf,x',Nn,o6,o7,rfl⟩;rw[show bV (aA ps)=ps.length from(jk ps).2.2,ä] at Nn;exact⟨_,rfl,q H' x' Nn⟩
theorem HH (F:Ļ K "_law_split_counts" "_law_split_counts" AQ f fd) (mn:mg "len" = none) (me:mg "enumerate" = none):ð P w K mg base az 1 f fd ["_law_scores","_law_ones"] yv:=by
 refine cj F Tx λ cdv A outer s H vs Q E hr h=>?_;obtain⟨l,sc,k,rfl,hl,ok,q⟩:=h;obtain⟨Oz⟩:=EL mn me hr (f:=f) (cdv:=cdv) (A:=A) (outer:=outer) (s:=s) (H:=H) (E:=E) (P:=P) (w:=w) (base:=base);refine⟨_,Oz,?_⟩;refine aE (te:=ii (gw (tC (.int 0)) (tC (.int 0))) (tC (.int 1))) (i:=2) λ d hd=>?_;obtain⟨H1,x1,g1,eU⟩:=eD hd (.dT []);rw[eU];refine⟨er,λ b hb=>?_⟩;refine Â λ gg=>?_;obtain⟨H2,x2,g2,eU⟩:=eD hb (.tup [.int 0,.int 0]);refine gg ?_;rw[eU];refine⟨b,[.k (.inl 0),.k (.inl 0)],_,rfl,oZ (q:=(.k (.inl 0),0)) g2 rfl,x2 _ _ g1,?_⟩;show aO (Ch K) _ _ (tW l k d none none none none none none none) (ak H2 d (aA (k9 sc k 0)));refine Bs ok hl (aZ _ (x1.trans x2) hd) hd bz λ H3 d' o3 o4 o5 o6 o7 o8 x3 OB QA=>?_;refine aE (te:=eG) (i:=9) λ m hm=>?_;show aO (Ee K) _ _ (tW l k d' o3 o4 o5 o6 o7 o8 (some (.ref m))) (ak H3 m (.dK []));obtain⟨H4,x4,g4,eU⟩:=eD hm (.dK []);rw[eU];have NW:=x3.back hm;exact BX ok (x3.trans x4) OB NW (x4 _ _ QA) g4 (λ z=>by rw[<- z,QA] at hm;cases hm) λ H5 x5 h5=>q m H5 x5 NW h5
end
def yT:PyData->Bool
 | .tuple [a,b]=>ol (-99) 99 a&&yX b
 | _=>false
def Ot (K:Frag)(H:Hp)(v:V)(b:Bool):Prop:=(∃ d,İ H v d/\b=yT d)\/(S0 K H v "tuple" /\ b=false)
theorem Ot.ext {K:Frag}{H H':Hp}{v:V}{b:Bool}(h:Ot K H v b)(x:Ext H H'):Ot K H' v b:=by
 rcases h with⟨d,r,e⟩ | ⟨n,e⟩
 ·exact .inl ⟨d,r.mono x,e⟩
 ·exact .inr ⟨n.ext x,e⟩
theorem Ad {d:PyData}(h:yT d=true):∃(x:Int)(b:Bool),d=.tuple [.int x,.bool b]/\-99<=x/\x<=99:=by
 match d,h with
 | .tuple [a,b],h =>
  have h':(ol (-99) 99 a&&yX b)=true:=h;rw[Ĵ] at h';obtain⟨i,rfl,h1,h2⟩:=gz h'.1;cases b with
  | bool b=>exact⟨i,b,rfl,h1,h2⟩
  | _=>cases h'.2
theorem Ot.two {K:Frag}{H:Hp}{v:V}(h:Ot K H v true):∃ a n s,v=.ref a/\H a\.tup [.int n,.bl s]:=by
 rcases h with⟨d,r,e⟩ | ⟨_,e⟩
 ·obtain⟨n,s,rfl,_⟩:=Ad e.symm;cases r with
  | tup ha rs =>
   cases rs with
   | cons r1 rs =>
    cases rs with
    | cons r2 rs =>
     cases rs;cases r1;cases r2;exact⟨_,_,_,rfl,ha⟩
 ·cases e
def vh (K:Frag)(H:Hp)(xs:List V)(bs:List Bool):Prop:=xs.length=bs.length/\∀(i:Nat) x,xs[i]?\x->∃ b,bs[i]?\b/\Ot K H x b
section
variable {P:Program}{w:World}{K:Frag}{mg:bD}{base:Heap}
abbrev IL:Stmt:=bT 60
def HP (K:Frag):Sp:=λ vs H Q _=>∃ v b,vs=[v]/\Ot K H v b/\Q (.bl b) H
theorem TF:ag ["thing","number","sure"] ["thing"] (aa IL):=aL
theorem HT {f a1:Addr}{fd d1:FuncData}{t1 t2:Tok}(N:Bc K)(F:Ļ K "is_outcome" "is_outcome" IL f fd) (A1:Df P w K mg base az 2 "is_whole" ["thing","low","high"] (gh K) a1 d1) (mL:mg "LEAST_NUMBER"\.int (-99) t1) (mM:mg "MOST_NUMBER"\.int 99 t2)
  (mi:mg "isinstance" = none) (mt:mg "tuple" = none) (ml:mg "len" = none) (mb:mg "bool" = none):ð P w K mg base az 3 f fd ["thing"] (HP K):=by
 refine F.ok TF (λ vs H Q E h=>?_) (λ cdv A outer s H vs Q E hr h=>?_)
 ·obtain⟨v,b,rfl,_⟩:=h;rfl
 obtain⟨v,b,rfl,ot,q⟩:=h;have nd:=TF.nd;refine⟨_,bA (aT (PW.pt (mw (cA (bO (ao (c8 N) rfl mi ÿ (ae (pv 0) (ae (jz rfl mt B_) aq))))) (jc (ay mv (ao aY rfl ml ě (ae (pv 0) aq)) aB (ax _))))) (aW (cq yu)) eM)
  (bA (hI (pv 0) (bq rfl (cL (bK (i:=1) nd rfl (Or.inl rfl)) (cL (bK (i:=2) nd rfl (Or.inl rfl)) aR))))
  (aW (cq (eI (cg A1 hr aj (ae (pv 1) (ae (be (v:=.int (-99)) rfl mL ⟨_,rfl⟩) (ae (be (v:=.int 99) rfl mM ⟨_,rfl⟩) aq)))) (gu (ao (c8 N) rfl mi ÿ (ae (pv 2) (ae (jz rfl mb RG) aq)))))))),?_⟩
 rcases ot with⟨d,rd,rfl⟩ | ⟨⟨t,kd,kt⟩,rfl⟩
 rotate_left
 ·exact⟨_,rfl,_,_,_,_,rfl,kd,kt,_,rfl,fU (fU q)⟩
 refine⟨_,rfl,_,_,_,_,rfl,rd.kd,rd.Xo,_,rfl,?_⟩;cases e:E4 d with
 | false =>
  refine fU (fU ?_);have z:yT d=false:=by cases d <;> first | rfl | cases e
  rw[z] at q;exact q
 | true =>
  obtain⟨ds,rfl⟩:∃ ds,d=.tuple ds:=by cases d <;> first | exact⟨_,rfl⟩ | cases e
  obtain⟨a,xs,rfl,ha,rs⟩:=nW rd;refine dW ⟨_,rfl,a,_,rfl,.inr (Ĭ.of ha),rfl,_,rfl,?_⟩;have len:=rs.length;by_cases l2:xs.length=2
  ·obtain⟨u,v,rfl⟩:∃ u v,xs=[u,v]:=by
    match xs,l2 with
    | [u,v],_=>exact⟨u,v,rfl⟩
   cases rs with
   | cons r1 rs =>
    cases rs with
    | cons r2 rs =>
     cases rs;refine dW ⟨_,rfl,a,_,rfl,Ĭ.of ha,rfl,_,_,rfl,_,_,rfl,rfl,?_⟩;refine⟨_,rfl,u,-99,99,rfl,r1.th,_,rfl,?_⟩;rw[r1.Pm]
     rename_i d1 d2
     have qq:Q (.bl (ol (-99) 99 d1&&yX d2)) H:=q;cases e1:ol (-99) 99 d1 with
     | false =>
      rw[e1] at qq;exact dW qq
     | true =>
      rw[e1] at qq;exact fU ⟨_,rfl,_,_,_,_,rfl,r2.kd,r2.isB,qq⟩
  ·have e1:(!decide (V.int (xs.length:Nat)=V.int 2))=true:=by
    rw[Ò]
    ·rfl
    ·intro h;injection h with h
     lia
   rw[e1];refine fU ?_;have z:yT (.tuple ds)=false:=by
    match ds,len,l2 with
    | [],_,_=>rfl
    | [_],_,_=>rfl
    | [_,_],l,n=>exact absurd l n
    | _::_::_::_,_,_=>rfl
   rw[z] at q;exact q
abbrev Jt:Stmt:=bT 61
def CW (K:Frag)(C:Addr):Sp:=λ vs H Q E=>∃(v:V)(b:Bool)(i:Nat),vs=[v,.int (i:Nat)]/\Ot K H v b/\(b=true->Q .Ę H)/\(b=false->fF C "place" (.int (i:Nat)) H E)
theorem Kw:ag ["thing","place"] ["thing","place"] (aa Jt):=aL
theorem FF {f D C fC a1:Addr}{fd Q1 d1:FuncData}(F:Ļ K "need_outcome" "need_outcome" Jt f fd) (B:Α K D) (T:rh K mg D "NoOutcome" "place" C fC Q1) (A1:Df P w K mg base az 3 "is_outcome" ["thing"] (HP K) a1 d1):ð P w K mg base (eX P w) 4 f fd ["thing","place"] (CW K C):=by
 refine Ir F Kw (λ vs H Q E h=>?_) (λ cdv A outer s H vs Q E hr h=>?_)
 ·obtain⟨v,d,n,rfl,_⟩:=h;rfl
 obtain⟨v,d,i,rfl,rd,q1,q2⟩:=h;have O6:=hr.mono (show 2<=3 by decide)
 refine⟨_,aW (aT (cA (bO (cg A1 hr aj (ae (pv 0) aq)))) (aW (eT B T.cls (T.ok P w base) O6 T.bi rfl T.SQ (pv 1))) eM),?_⟩;refine⟨_,rfl,v,d,rfl,rd,_,rfl,?_⟩;cases e:d with
 | false=>exact fU ⟨_,rfl,λ e' dx h1 h2 nd=>kF nd (q2 e e' dx h1 h2 nd)⟩
 | true=>exact dW (q1 e)
abbrev CD:Stmt:=bT 62
def AM (K:Frag)(CF CO:Addr):Sp:=λ vs H Q E=>∃(v:V),vs=[v]/\((S0 K H v "list" /\ fF CF "found" v H E)\/∃ a xs bs,v=.ref a/\H a\.lst xs/\vh K H xs bs/\(bs.all id=true->∀ H',Ext H H'->Q .Ę H')/\∀ i,wA bs i->∀ H',Ext H H'->fF CO "place" (.int (i:Nat)) H' E)
theorem Re:ag ["thing","place","outcome"] ["thing"] (aa CD):=aL
theorem Cp {f D CF fC CO a1:Addr}{fd Q1 d1:FuncData}(N:Bc K)(F:Ļ K "need_outcomes" "need_outcomes" CD f fd) (B:Α K D) (T:rh K mg D "NoFolk" "found" CF fC Q1) (A1:Df P w K mg base (eX P w) 4 "need_outcome" ["thing","place"] (CW K CO) a1 d1)
  (mi:mg "isinstance" = none) (ml:mg "list" = none) (me:mg "enumerate" = none):ð P w K mg base (eX P w) 5 f fd ["thing"] (AM K CF CO):=by
 refine Ir F Re (λ vs H Q E h=>?_) (λ cdv A outer s H vs Q E hr h=>?_)
 ·obtain⟨v,rfl,_⟩:=h;rfl
 obtain⟨v,rfl,h⟩:=h;have nd:=Re.nd;have O6:=hr.mono (show 2<=4 by decide)
 refine⟨_,bA (aT (cA (bO (ao (c8 N) rfl mi ÿ (ae (pv 0) (ae (jz rfl ml G_) aq))))) (aW (eT B T.cls (T.ok P w base) O6 T.bi rfl T.SQ (pv 0))) eM)
  (aW (bC PassesOwn.leaving rfl (ip rfl me (ae (pv 0) aq)) (bq rfl (cL (bK (i:=1) nd rfl (Or.inl rfl)) (cL (bK (i:=2) nd rfl (Or.inl rfl)) aR)))
   (aW (aG (cg A1 hr eN (ae (pv 2) (ae (pv 1) aq))))))),?_⟩
 rcases h with⟨⟨t,kd,kt⟩,q1⟩ | ⟨a,xs,bs,rfl,ha,⟨ln,ot⟩,qn,qe⟩
 ·exact⟨_,rfl,_,_,_,_,rfl,kd,kt,_,rfl,fU ⟨_,rfl,λ e' dx h1 h2 nd=>kF nd (q1 e' dx h1 h2 nd)⟩⟩
 refine⟨_,rfl,_,_,_,_,rfl,.inl (.lst ha),rfl,_,rfl,dW ?_⟩;refine⟨_,rfl,a,rfl,⟨_,Ğ.of ha⟩,kP (xs:=xs) (λ i σ H'=>Ext H H'/\(∀(j:Nat) b,j<i->bs[j]?\b->b=true)/\∃ o1 o2,σ=[some (.ref a),o1,o2]) ⟨Ext.refl _,λ j d h=>absurd h (Nat.not_lt_zero _),_,_,rfl⟩ ?_ ?_ ?_⟩
 ·rintro i σ H' _ ⟨x',_⟩;exact Ğ.of (x' _ _ ha)
 ·rintro i v σ H' k ev ⟨x',good,o1,o2,rfl⟩ hk;have xk:=Ext.new (o:=.tup [.int (i:Nat),v]) hk;obtain⟨d,ed,rv⟩:=ot i v ev;refine⟨k,_,rfl,Ĭ.of bz,rfl,_,_,rfl,_,_,rfl,rfl,?_⟩;refine⟨_,rfl,_,rfl,v,d,i,rfl,rv.ext (x'.trans xk),λ o=>?_,λ o=>?_⟩
  ·refine⟨x'.trans xk,λ j d' hj hd=>?_,_,_,rfl⟩;rcases ñ j i with lt | ge
   ·exact good j d' lt hd
   ·have e0:j=i:=ad;subst e0;rw[ed] at hd;cases hd;exact o
  ·exact qe i ⟨good,by rw[ed,o]⟩ _ (x'.trans xk)
 ·rintro σ H' ⟨x',good,o1,o2,rfl⟩;refine qn ?_ H' x';rw[C_];intro d hd;obtain⟨j,hj,e⟩:=Nc hd;exact good j d (by rw[ln];exact hj) (by rw[Ã hj,e])
end
def Qu (n1:Int)(s1:Bool)(n2:Int)(s2:Bool):Int:=if(s2&&decide (n1>n2))=true then 1 else if(s1&&decide (n2>n1))=true then -1 else 0
section
variable {P:Program}{w:World}{K:Frag}{mg:bD}{base:Heap}
abbrev JQ:Stmt:=bT 64
def FJ:Sp:=λ vs H Q _=>∃(a1 a2:Addr)(n1 n2:Int)(s1 s2:Bool),vs=[.ref a1,.ref a2]/\H a1\.tup [.int n1,.bl s1]/\H a2\.tup [.int n2,.bl s2]/\Q (.bl (s2&&decide (n1>n2))) H
theorem KW:ag ["one","other"] ["one","other"] (aa JQ):=aL
theorem G9 {f:Addr}{fd:FuncData}(F:Ļ K "surely_greater" "surely_greater" JQ f fd):ð P w K mg base az 1 f fd ["one","other"] FJ:=by
 refine cj F KW λ cdv A outer s H vs Q E hr h=>?_;obtain⟨a1,a2,n1,n2,s1,s2,rfl,h1,h2,q⟩:=h;refine⟨_,aW (cq (eI (c5 dR (pv 1) aB) (gu (cv gc (c5 dR (pv 0) aB) (c5 dR (pv 1) aB) (ax _))))),?_⟩;refine⟨_,rfl,a2,_,_,_,rfl,rfl,Ĭ.of h2,qF (j:=1) rfl,_,rfl,?_⟩;cases s2 with
 | false=>exact dW q
 | true=>exact fU ⟨_,rfl,a1,_,_,_,rfl,rfl,Ĭ.of h1,qF (j:=0) rfl,_,rfl,a2,_,_,_,rfl,rfl,Ĭ.of h2,qF (j:=0) rfl,_,_,rfl,rfl,q⟩
abbrev IC:Stmt:=bT 65
def vc (K:Frag)(CO:Addr):Sp:=λ vs H Q E=>∃(v1 v2:V)(b1 b2:Bool),vs=[v1,v2]/\Ot K H v1 b1/\Ot K H v2 b2/\(b1=false->fF CO "place" (.int (0:Nat)) H E)/\(b1=true->b2=false->fF CO "place" (.int (1:Nat)) H E) /\
 ∀ a1 a2 n1 n2 s1 s2,v1=.ref a1->v2=.ref a2->H a1\.tup [.int n1,.bl s1]->H a2\.tup [.int n2,.bl s2]->b1=true->b2=true->Q (.int (Qu n1 s1 n2 s2)) H
theorem Jg:ag ["one","other"] ["one","other"] (aa IC):=aL
theorem Hj {f CO a1 a2:Addr}{fd d1 d2:FuncData}(F:Ļ K "stands_to" "stands_to" IC f fd) (A1:Df P w K mg base (eX P w) 4 "need_outcome" ["thing","place"] (CW K CO) a1 d1) (A2:Df P w K mg base az 1 "surely_greater" ["one","other"] FJ a2 d2):ð P w K mg base (eX P w) 5 f fd ["one","other"] (vc K CO):=by
 refine ng F Jg λ cdv A outer s H vs Q E hr h=>?_;obtain⟨v1,v2,b1,b2,rfl,o1,o2,e1,e2,q⟩:=h;have Ń:Ă 1 _:=hr.mono av;refine⟨_,bA (aG (cg A1 hr eN (ae (pv 0) (ae aB aq)))) (bA (aG (cg A1 hr eN (ae (pv 1) (ae aB aq))))
  (bA (aT (bO (cg A2 Ń aj (ae (pv 0) (ae (pv 1) aq)))) (aW (cq aB)) eM)
  (bA (aT (bO (cg A2 Ń aj (ae (pv 1) (ae (pv 0) aq)))) (aW (cq (mQ i5 aB))) eM)
  (aW (cq aB))))),?_⟩
 refine⟨_,rfl,v1,b1,0,rfl,o1,λ h1=>⟨_,rfl,v2,b2,1,rfl,o2,λ h2=>?_,λ h2=>e2 h1 h2⟩,λ h1=>e1 h1⟩;subst h1 h2;obtain⟨p1,n1,s1,rfl,t1⟩:=o1.two;obtain⟨p2,n2,s2,rfl,t2⟩:=o2.two;have qq:=q p1 p2 n1 n2 s1 s2 rfl rfl t1 t2 rfl rfl;unfold Qu at qq;refine⟨_,rfl,_,rfl,p1,p2,n1,n2,s1,s2,rfl,t1,t2,_,rfl,?_⟩;cases g1:s2&&decide (n1>n2) with
 | true=>rw[g1,Ë rfl] at qq;exact fU qq
 | false =>
  rw[g1,Æ av] at qq;refine dW ⟨_,rfl,_,rfl,p2,p1,n2,n1,s2,s1,rfl,t2,t1,_,rfl,?_⟩;cases g2:s1&&decide (n2>n1) with
  | true=>rw[g2,Ë rfl] at qq;exact fU ⟨1,rfl,qq⟩
  | false=>rw[g2,Æ av] at qq;exact dW qq
abbrev C7:Stmt:=bT 63
def AK (K:Frag)(CF CO:Addr):Sp:=λ vs H Q E=>∃(v:V)(n:Int),vs=[v,.int n]/\((S0 K H v "list" /\ fF CF "found" v H E)\/∃ a xs bs,v=.ref a/\H a\.lst xs/\vh K H xs bs/\(bs.all id=true->∀ H',Ext H H'->if(xs.length:Int)=n then Q .Ę H' else fF CF "found" (.int (xs.length:Nat)) H' E)/\∀ i,wA bs i->∀ H',Ext H H'->fF CO "place" (.int (i:Nat)) H' E)
theorem Gs:ag ["thing","folk"] ["thing","folk"] (aa C7):=aL
theorem EX {f D CF fC CO a1:Addr}{fd Q1 d1:FuncData}(F:Ļ K "need_outcomes_of" "need_outcomes_of" C7 f fd) (B:Α K D) (T:rh K mg D "NoFolk" "found" CF fC Q1) (A1:Df P w K mg base (eX P w) 5 "need_outcomes" ["thing"] (AM K CF CO) a1 d1) (ml:mg "len" = none):ð P w K mg base (eX P w) 6 f fd ["thing","folk"] (AK K CF CO):=by
 refine Ir F Gs (λ vs H Q E h=>?_) (λ cdv A outer s H vs Q E hr h=>?_)
 ·obtain⟨v,n,rfl,_⟩:=h;rfl
 obtain⟨v,n,rfl,h⟩:=h;have O6:=hr.mono (show 2<=5 by decide)
 refine⟨_,bA (aG (cg A1 hr eN (ae (pv 0) aq)))
  (aW (aT (ay mv (ao aY rfl ml ě (ae (pv 0) aq)) (pv 1) (ax _)) (aW (eT B T.cls (T.ok P w base) O6 T.bi rfl T.SQ (ao aY rfl ml ě (ae (pv 0) aq)))) eM)),?_⟩
 rcases h with⟨nk,q1⟩ | ⟨a,xs,bs,rfl,ha,ot,qn,qe⟩
 ·exact⟨_,rfl,v,rfl,.inl ⟨nk,q1⟩⟩
 ·refine⟨_,rfl,_,rfl,.inr ⟨a,xs,bs,rfl,ha,ot,λ al H' x'=>?_,qe⟩⟩;have q:=qn al H' x';refine⟨_,rfl,a,xs,rfl,.inl (Ğ.of (x' _ _ ha)),_,rfl,rfl,_,rfl,?_⟩;by_cases e:(xs.length:Int)=n
  ·rw[Ë e] at q;rw[Ê (by rw[e])]
   exact dW q
  ·rw[Æ e] at q;rw[Ò (λ z=>e (V.int.inj z))];exact fU ⟨_,rfl,a,xs,rfl,.inl (Ğ.of (x' _ _ ha)),λ e' dx h1 h2 nd=>kF nd (q e' dx h1 h2 nd)⟩
def Ll (H:Hp)(v:V)(o:Int × Bool):Prop:=∃ a,v=.ref a/\H a\.tup [.int o.1,.bl o.2]
def MF (H:Hp)(xs:List V)(os:List (Int × Bool)):Prop:=xs.length=os.length/\∀(i:Nat) x o,xs[i]?\x->os[i]?\o->Ll H x o
end
theorem pj {n z:Str}{a c:Addr}(h:List.lookup z [(n,a)]\c):z=n/\c=a:=by
 rw[Į] at h;cases e:z==n with
 | true=>rw[e] at h;exact⟨þ.mp e,(á h).symm⟩
 | false=>rw[e] at h;cases h
def lh (o p:Int × Bool):Int:=Qu o.1 o.2 p.1 p.2
def bU (os:List (Int × Bool)):List Int:=os.map λ o=>(os.map λ p=>lh o p).sum
def Ae (H:Hp)(ns:List Int)(Q:VK):Prop:=∀ l H',Ext H H'->H l=none->H' l\.lst (ns.map V.int)->Q (.ref l) H'
section
variable {P:Program}{w:World}{K:Frag}{mg:bD}{base:Heap}{C:Nat->Addr}{CO CR f a1:Addr}{fd d1:FuncData}
abbrev pZ:Stmt:=bn (bT 68) 1
theorem Fn:ag ["self","outcomes"] ["self","outcomes"] (aa pZ):=aL
abbrev xC:Scope:=gR [("one",.cell),("sum",.globalImplicit),("outcomes",.free)]
abbrev Fm:Scope:=gR [("other",.local),("stands_to",.globalImplicit),("one",.free)]
theorem HA:((["one"]:List Str)++(["outcomes"]:List Str)).Nodup:=aF
theorem Gr:((["other"]:List Str)++(["one"]:List Str)).Nodup:=aF
def xP (K:Frag):Sp:=λ vs H Q _=>∃ v a xs os,vs=[v,.ref a]/\H a\.lst xs/\MF H xs os/\(∀ o∈os,-99<=o.1/\o.1<=99)/\os.length<=20/\Ae H (bU os) Q
def Jv (K:Frag)(CO:Addr):TE:=iu (cY K (af 1)) 1 [0] (aJ 0) (cV (vc K CO) [] E0 (aw (af 1) (aw (af 0) aS)))
def Hx (K:Frag)(CO:Addr):TE:=jw (gY K) (aw (Jv K CO) aS)
section
variable {cdv:Value}{A:Around}{outer:List Env}{s:Shared}{H:Hp}{E:XK}
theorem Af:dX (b9 az P w K mg base ["self","outcomes"] "Wins.among" (aa pZ) f cdv A outer s H E).K' xC [("outcomes",s.heap.objs.size+1)] (some "one") ["one"] ["outcomes"] [1]:=by
 refine⟨rfl,rfl,λ C=>rfl,aF,λ x h=>(by cases h;exact Í.mpr rfl),λ z c h=>?_,λ z h=>?_,aF,λ k z h=>?_,rfl⟩
 ·obtain⟨rfl,rfl⟩:=pj h;rfl
 ·have h:List.lookup z [((".0" : Str),NameKind.local),(("one" : Str),NameKind.cell),(("sum" : Str),NameKind.globalImplicit),(("outcomes" : Str),NameKind.cell)]\.cell\/List.lookup z [((".0" : Str),NameKind.local),(("one" : Str),NameKind.cell),(("sum" : Str),NameKind.globalImplicit),(("outcomes" : Str),NameKind.cell)]\.free:=h;have all:∀ y ∈ [((".0" : Str),NameKind.local),(("one" : Str),NameKind.cell),(("sum" : Str),NameKind.globalImplicit),(("outcomes" : Str),NameKind.cell)],(y.2=.cell\/y.2=.free)->y.1 = "one" \/ y.1 = "outcomes" := aF;have e:z = "one" \/ z = "outcomes" := by
   rcases h with h | h
   ·exact all _ (ô h) (.inl rfl)
   ·exact all _ (ô h) (.inr rfl)
  rcases e with rfl | rfl
  ·exact .inl rfl
  ·exact .inr ⟨_,fj⟩
 ·match k,h with
  | 0,h =>
   have h:some ("outcomes" : Str)\z:=h;cases h;exact⟨1,rfl,rfl,.inr (.inl rfl),by show(aa pZ).names.lookup ("outcomes" : Str)≠some NameKind.local;decide +kernel,.inl rfl⟩
  | k+1,h=>simp at h
theorem Al {X:Cx}{C1:Addr}{fp:List Addr}{cl:List (Str × Addr)}(hk:X.env.scope.kind=.function):cJ (au X xC cl (some "one") ((["one"]:List Str)++(["outcomes"]:List Str)) s H C1 fp) Fm [("one",C1+1)] ["other"] ["one"] [0] :=
 yc (L:=[(".0",.local),("other",.local),("stands_to",.globalImplicit),("one",.cell)]) rfl rfl aF aF aF fj rfl aF aF rfl (.inr (.inl rfl))
  (by show(relabel xC X.env).names.lookup ("one" : Str)≠some NameKind.local;exact λ h=>nomatch (show some NameKind.cell\NameKind.local from h)) (.inl rfl)
theorem EN (A1:Df P w K mg base (eX P w) 5 "stands_to" ["one","other"] (vc K CO) a1 d1) (ms:mg "sum" = none) (hr:rE 5 "Wins.among" pZ A s f cdv):Bx (ο (b9 az P w K mg base ["self","outcomes"] "Wins.among" (aa pZ) f cdv A outer s H E).K' (aH pZ) (cH (iu (cY K (af 1)) 1 [1] (aJ 0) (Hx K CO)))) :=
 bI ⟨cq (eC (te:=Hx K CO) (g:=aJ 0) rfl Af (bE (pv 1)) (λ s H C fp=>by exact bK (i:=0) HA rfl (.inr rfl)) (λ s H C fp=>by
  exact ao (bX rfl) rfl ms ă (ae (eC (te:=cV (vc K CO) [] E0 (aw (af 1) (aw (af 0) aS))) (g:=aJ 0) rfl (Al rfl) (bE (pv 1)) (λ s H C fp=>by exact bK (i:=0) Gr rfl (.inl rfl)) (λ s H C fp=>by
   exact cg A1 hr jB (ae (pv 1) (ae (pv 0) aq)))) aq)))⟩
end
theorem CQ (F:Ļ K "among" "Wins.among" pZ f fd) (A1:Df P w K mg base (eX P w) 5 "stands_to" ["one","other"] (vc K CO) a1 d1) (ms:mg "sum" = none):ð P w K mg base az 6 f fd ["self","outcomes"] (xP K):=by
 refine cj F Fn λ cdv A outer s H vs Q E hr h=>?_;refine Â λ gg=>?_;obtain⟨v,a,xs,os,rfl,ha,oc,bd,lo,q⟩:=h;obtain⟨Oz⟩:=EN A1 ms hr (f:=f) (cdv:=cdv) (A:=A) (outer:=outer) (s:=s) (H:=H) (E:=E) (P:=P) (w:=w) (base:=base);refine gg ?_;refine⟨_,Oz,?_⟩;obtain⟨lx,oc⟩:=oc;have sz:=è;have ot:∀{H':Hp}{i:Nat}{b:Addr},Ext H H'->(hi:i<os.length)->H' b\.tup [.int os[i].1,.bl os[i].2]->Ot K H' (.ref b) true:=λ {H' i b} x' hi hb=>by
  have:=bd os[i] (Ň hi);refine .inl ⟨.tuple [.int os[i].1,.bool os[i].2],.tup hb (.cons (.int _) (.cons (.bl _) .nil)),?_⟩;show true=((decide ((-99:Int)<=os[i].1)&&decide (os[i].1<=99))&&true);rw[Ê this.1,Ê this.2];rfl
 refine⟨_,rfl,a,rfl,⟨_,Ğ.of ha⟩,λ D hD=>?_⟩;refine eY (a:=a) (xs:=xs) (λ i ys H'=>Ext H H'/\ys=((bU os).take i).map V.int) ad ⟨Ext.new hD,rfl⟩ (λ i ys H' pv=>Ğ.of (pv.1 _ _ ha)) ?_ ?_
 ·rintro i x ys H' ex ly v_ ⟨x',ey⟩ P7 ų R k;obtain⟨o0,rfl⟩:∃ o0,P7=[o0]:=by
   match P7,ų with
   | [o0],_=>exact⟨o0,rfl⟩
  have li:i<os.length:=by rw[<- lx];exact(Ú.mp ex).1
  obtain⟨b,rfl,hb⟩:=oc i x _ ex (Ã li);refine⟨⟨[some (.ref b)],rfl,rfl⟩,?_⟩;refine⟨_,rfl,a,rfl,⟨_,Ğ.of (x' _ _ ha)⟩,λ D2 Qm=>?_⟩;have nD:D2≠D:=λ e=>by rw[e,v_] at Qm;cases Qm
  refine eY (a:=a) (xs:=xs) (λ j zs H2=>Ext H' H2/\zs=((os.map λ p=>lh os[i] p).take j).map V.int) ad ⟨Ext.new Qm,rfl⟩ (λ j zs H2 pv=>Ğ.of (pv.1 _ _ (x' _ _ ha))) ?_ ?_
  ·rintro j y zs H2 UN lz NZ ⟨x2,ez⟩ P6 R8 R2 k2;obtain⟨o0,rfl⟩:∃ o0,P6=[o0]:=by
    match P6,R8 with
    | [o0],_=>exact⟨o0,rfl⟩
   have lj:j<os.length:=by rw[<- lx];exact(Ú.mp UN).1
   obtain⟨b2,rfl,SX⟩:=oc j y _ UN (Ã lj);have J':=x'.trans x2;refine⟨⟨[some (.ref b2)],rfl,rfl⟩,_,rfl,_,rfl,.ref b,.ref b2,true,true,rfl,ot J' li (J' _ _ hb),ot J' lj (J' _ _ SX),(λ z=>by cases z),(λ _ z=>by cases z),λ a1 a2 n1 n2 s1 s2 q1 q2 t1 t2 _ _=>?_⟩
   cases q1;cases q2;rw[J' _ _ hb] at t1;rw[J' _ _ SX] at t2;cases t1;cases t2;refine k2 _ H2 NZ ⟨aZ _ x2 Qm,?_⟩;have es:(os.map λ p=>lh os[i] p)[j]?\lh os[i] os[j]:=by
    rw[Ô,Ã lj];rfl
   rw[aC es,Ø,<- ez];rfl
  ·rintro zs H2 lz NZ ⟨x2,ez⟩;have l2:(os.map λ p=>lh os[i] p).length=xs.length:=by rw[Ç,lx]
   rw[<- l2,ä] at ez;rw[ez] at NZ;refine⟨D2,_,rfl,Ğ.of NZ,?_⟩;refine k _ H2 (x2 _ _ v_) ⟨aZ _ (x'.trans x2) hD,?_⟩;have es:(bU os)[i]?\(os.map λ p=>lh os[i] p).sum:=by
    unfold bU;rw[Ô,Ã li];rfl
   rw[aC es,Ø,<- ey];rfl
 ·rintro ys H' ly v_ ⟨x',ey⟩;have l2:(bU os).length=xs.length:=by unfold bU;rw[Ç,lx]
  rw[<- l2,ä] at ey;rw[ey] at v_;exact q D H' x' hD v_
end
def C4:List V->Hp->VK->Prop:=λ xs H Q=>(∃ i,xs=[.int i]/\Q (.int i) H)\/∃ k,xs=[.bl k]/\Q (.int (if k then 1 else 0)) H
def Jn (K:Frag)(i j:Nat):TE:=jw C4 (aw (As (bR (xF K) (af j) (tC (.int 1))) (bR (dQ λ i j=>.bl (decide (i>j))) (bR (xF K) (af i) (tC (.int 0))) (bR (xF K) (af j) (tC (.int 0))))) aS)
section
variable {P:Program}{w:World}{K:Frag}{mg:bD}{base:Heap}{f:Addr}{fd:FuncData}
theorem A8 {i j:Nat}{σ:St}{H:Hp}{Q:VK}{p q:Addr}{n1 n2:Int}{s1 s2:Bool}(si:σ[i]?\some (.ref p))(sj:σ[j]?\some (.ref q))(hp:H p\.tup [.int n1,.bl s1])(hq:H q\.tup [.int n2,.bl s2])(k:Q (.int (if(s2&&decide (n1>n2))=true then 1 else 0)) H):Jn K i j σ H Q:=by
 refine⟨_,sj,q,_,_,_,rfl,rfl,Ĭ.of hq,qF (j:=1) rfl,_,rfl,?_⟩;cases s2 with
 | false=>exact dW (.inr ⟨_,rfl,k⟩)
 | true=>exact fU ⟨_,si,p,_,_,_,rfl,rfl,Ĭ.of hp,qF (j:=0) rfl,_,sj,q,_,_,_,rfl,rfl,Ĭ.of hq,qF (j:=0) rfl,_,_,rfl,rfl,.inr ⟨_,rfl,k⟩⟩
abbrev IR:Stmt:=bT 82
theorem JF:ag ["_law_one","_law_other"] ["_law_one","_law_other"] (aa IR):=aL
def zb:Sp:=λ vs H Q _=>∃(p q:Addr)(o r:Int × Bool),vs=[.ref p,.ref q]/\H p\.tup [.int o.1,.bl o.2]/\H q\.tup [.int r.1,.bl r.2]/\Q (.int (lh o r)) H
theorem FN (n1:Int)(s1:Bool)(n2:Int)(s2:Bool):(if(s2&&decide (n1>n2))=true then(1:Int) else 0)-(if(s1&&decide (n2>n1))=true then 1 else 0)=Qu n1 s1 n2 s2:=by
 unfold Qu;by_cases a:(s2&&decide (n1>n2))=true
 ·rw[Ë a,Ë a];have:n1>n2:=by
   rw[Ĵ] at a;exact Þ a.2
  rw[Ò (show ¬ n2>n1 by lia),Bool.and_false]
  rfl
 ·rw[Æ a,Æ a];split <;> rfl
theorem FE (F:Ļ K "_law_stands" "_law_stands" IR f fd) (mi:mg "int" = none):ð P w K mg base az 1 f fd ["_law_one","_law_other"] zb:=by
 refine cj F JF λ cdv A outer s H vs Q E hr h=>?_;obtain⟨p,q,⟨n1,s1⟩,⟨n2,s2⟩,rfl,hp,hq,k⟩:=h;refine⟨cH (bR (dQ λ i j=>.int (i-j)) (Jn K 0 1) (Jn K 1 0)),aW (cq (ah bJ (cT gI rfl mi ŕ (ae (eI (c5 dR (pv 1) aB) (gu (cv gc (c5 dR (pv 0) aB) (c5 dR (pv 1) aB) (ax _)))) aq)) (cT gI rfl mi ŕ (ae (eI (c5 dR (pv 0) aB) (gu (cv gc (c5 dR (pv 1) aB) (c5 dR (pv 0) aB) (ax _)))) aq)))),?_⟩;refine A8 rfl rfl hp hq (A8 rfl rfl hq hp ⟨_,_,rfl,rfl,?_⟩)
 dsimp only
 rw[FN n1 s1 n2 s2];exact k
end
theorem BB {De:bH}{d j:Nat}{tv:TE}{σ:St}{H:Hp}{e b:Addr}{acc:Tw}{h tot:Int}{c:Nat}(si:σ[d]?\some (.ref e))(sj:σ[j]?\some (.ref b))(he:H e\aA acc)(hb:H b\.tup [.int h,.int tot])(nd:(acc.map (·.1)).Nodup)(ln:acc.length<2^24)
  (kv:∀{R:VK},R (.int (c:Nat)) H->tv σ H R)
  (q:De.nx σ (ak H e (aA (bo acc (.k (.inl h),tot) c)))):gU (af d) (af j) (cR (fu (af d) (af j) (tC (.int 0))) tv) De σ H:=by
 refine⟨_,si,e,rfl,.inr ⟨_,.inl he⟩,_,sj,?_⟩;obtain⟨o,dg,ov,_⟩:=iD (q:=(.k (.inl h),tot)) (.inl he) hb (show NV H (.k (.inl h)) (.int h) from rfl);refine⟨o,dg,kv ⟨_,_,ov,rfl,_,si,_,sj,e,ak H e (aA (bo acc (.k (.inl h),tot) c)),rfl,?_,q⟩⟩
 dsimp only
 rw[<- Mw];exact kE (q:=(.k (.inl h),tot)) he nd hb (show NV H (.k (.inl h)) (.int h) from rfl) (by rw[è];exact ln)
def gQ (a b:Nat)(f s:Int):Nat->Nat
 | 0=>if f<=s then b else if s <= -f then 0 else b-a
 | _=>if f<=s then 0 else if s <= -f then b else a
def ut (a b:Nat)(f s tot c:Int)(m i:Nat)(acc:Tw):Tw:=if 0<gQ a b f s i then bo acc (.k (.inl (s+2*(i:Nat)-1)),tot+(i:Nat)*c) (m*gQ a b f s i) else acc
theorem yD {n:Int}{k a b m:Nat}{f s tot c:Int}{acc:Tw}(a1:1<=a)(ab:a<b)(f1:1<=f):lq (.one (.û n a b f)) k c b ((.k (.inl s),tot),m) acc=ut a b f s tot c m 1 (ut a b f s tot c m 0 acc):=by
 have dv:b/b=1:=τ ad;have e1:((b:Int)-(a:Int)).toNat=b-a:=ad;have k0:s+2*((0:Nat):Int)-1=s-1:=ad;have k1:s+2*((1:Nat):Int)-1=s+1:=ad;show((R0.û n a b f).steps (.int s) (k:Nat)).foldl (λ acc st=>bo acc (dh st.next,tot+st.hand*c) (m*st.part b)) acc=_;unfold ut gQ R0.steps;simp only[k0,k1];by_cases z:f<=s
 ·rw[Ë z,Ë z,Ë z,Ë (show 0<b by lia),Æ (Ĩ 0)]
  show bo acc _ (m*(1*(b/1)))=_;rw[Ŋ,MH];rfl
 ·by_cases y:s <= -f
  ·rw[Æ z,Æ z,Æ z,Ë y,Ë y,Ë y,Æ (Ĩ 0),Ë (show 0<b by lia)]
   show bo acc _ (m*(1*(b/1)))=_;rw[Ŋ,MH];rfl
  ·rw[Æ z,Æ z,Æ z,Æ y,Æ y,Æ y,Ë (show 0<a by lia),Ë (show 0<b-a by lia)]
   show bo (bo acc _ (m*(((b:Int)-(a:Int)).toNat*((b:Int).toNat/(b:Int).toNat)))) _ (m*((a:Int).toNat*((b:Int).toNat/(b:Int).toNat)))=_;rw[e1,Ü,Ü,dv,ť,ť];rfl
theorem Dk {a b m i:Nat}{f s tot c:Int}{acc:Tw}(h:(acc.map (·.1)).Nodup):((ut a b f s tot c m i acc).map (·.1)).Nodup:=AA h
theorem zI {a b m i:Nat}{f s tot c:Int}{acc:Tw}:(ut a b f s tot c m i acc).length<=acc.length+1:=uY
section
variable {P:Program}{w:World}{K:Frag}{mg:bD}{base:Heap}{f:Addr}{fd:FuncData}
abbrev Bb:Stmt:=bT 79
abbrev Ls:List Str:=["_law_scores","_law_coin_here","_law_far","_law_layer","_law_score","_law_more","_law_apart","_law_total","_law_many","_law_tops","_law_hand","_law_key","_law_found"]
theorem TQ:ag Ls ["_law_scores","_law_coin_here","_law_far"] (aa Bb):=aL
def yO:Sp:=λ vs H Q _=>∃(l ca:Addr)(sc:List Int)(a b:Nat)(fr:Int),vs=[.ref l,.ref ca,.int fr]/\H l\.lst (sc.map V.int)/\H ca\.tup [.int (a:Nat),.int (b:Nat)]/\(R0.û sc.length a b fr).ok/\1<=a/\a<b/\b<=7/\∀ m H',Ext H H'->H m=none->H' m\.dK (bY Key.inl (cO (rL (.one (.û sc.length a b fr)) sc b sc.length)))->Q (.ref m) H'
def zk (a b:TE):TE:=bR (rI N5 λ i j=>.int (i*j)) a b
def wk (a b:TE):TE:=bR (dQ λ i j=>.int (i-j)) a b
def Gi (K:Frag):TS:=bQ (iZ (aw (wk (iH K 1 1) (iH K 1 0)) (aw (iH K 1 0) aS))) (aJ 9)
def Cv (K:Frag):TS:=cE (fH (bR (dQ λ i j=>.bl (decide (i ≥ j))) (jw (λ xs H Q=>∃ i,xs=[.int i]/\Q (.int (if i<0 then -i else i)) H) (aw (af 6) aS)) (af 2)))
 (bQ (iZ (aw (zk (iH K 1 1) (jw C4 (aw (bR (dQ λ i j=>.bl (decide (i>j))) (af 6) (tC (.int 0))) aS))) (aw (zk (iH K 1 1) (jw C4 (aw (bR (dQ λ i j=>.bl (decide (i<j))) (af 6) (tC (.int 0))) aS))) aS))) (aJ 9)) br
def FS:TS:=bQ (gw (wk (cR (af 6) (zk (tC (.int 2)) (af 10))) (tC (.int 1))) (cR (af 7) (zk (af 10) (af 4)))) (aJ 11)
def BY (K:Frag):TE:=bR (qB K) (af 9) (af 10)
def BS (K:Frag):TS:=cE (fH (bR (dQ λ i j=>.bl (decide (i>j))) (BY K) (tC (.int 0)))) (gU (af 5) (af 11) (cR (fu (af 5) (af 11) (tC (.int 0))) (zk (af 8) (BY K)))) br
def Gu (K:Frag):TS:=fM (cY K (iZ (aw (tC (.int 0)) (aw (tC (.int 1)) aS)))) (aJ 10) (aO FS (BS K))
def EE (K:Frag):TS:=fM (jE (af 3)) (Ax K 6 7) (aO (bQ (bL (af 3) (gw (af 6) (af 7))) (aJ 8)) (aO (Gi K) (aO (Cv K) (Gu K))))
def CY (K:Frag):TS:=fM (cY K (af 0)) (aJ 4) (aO (bQ ie (aJ 5)) (aO (EE K) (bQ (af 5) (aJ 3))))
def Ep (K:Frag):TS:=fM (jE (af 3)) (Ax K 6 7) (gU (af 12) (af 7) (cR (fu (af 12) (af 7) (tC (.int 0))) (bL (af 3) (gw (af 6) (af 7)))))
def Lu (K:Frag):TS:=aO (bQ (ii (gw (tC (.int 0)) (tC (.int 0))) (tC (.int 1))) (aJ 3)) (aO (CY K) (aO (bQ eG (aJ 12)) (aO (Ep K) (cH (af 12)))))
section
variable {cdv:Value}{A:Around}{outer:List Env}{s:Shared}{H:Hp}{E:XK}
theorem D7 (mi:mg "int" = none) (ma:mg "abs" = none) (hr:rE 0 "_law_coin_counts" Bb A s f cdv):Bx (ο (b9 az P w K mg base Ls "_law_coin_counts" (aa Bb) f cdv A outer s H E).K' (aH Bb) (Lu K)):=by
 have nd:=TQ.nd;have hu:(A.deeper (PyProof.Rows.envOfC "_law_coin_counts" (aa Bb) s.heap.objs.size f cdv)).units+64<cLine:=by have:=hr.un;lia
 have F_:(A.deeper (PyProof.Rows.envOfC "_law_coin_counts" (aa Bb) s.heap.objs.size f cdv)).units+2<cLine:=ad;refine da ⟨cB (i:=3) nd rfl (Or.inl rfl) (j8 hu (aI (ae aB (ae aB aq))) aB)⟩ (da ?_ (da ⟨cB (i:=12) nd rfl (Or.inl rfl) gy⟩ (da ?_ (bI ⟨cq (pv 12)⟩))))
 ·refine⟨bC ò rfl (bE (pv 0)) (bK (i:=4) nd rfl (Or.inl rfl)) (bA (cB (i:=5) nd rfl (Or.inl rfl) im) (bA (bC ò rfl (cK (pv 3)) (bq rfl (cL (bK (i:=6) nd rfl (Or.inl rfl)) (cL (bK (i:=7) nd rfl (Or.inl rfl)) aR))) ?_) (aW (cB (i:=3) nd rfl (Or.inl rfl) (pv 5)))))⟩;refine bA (cB (i:=8) nd rfl (Or.inl rfl) (a8 F_ (pv 3) (aI (ae (pv 6) (ae (pv 7) aq)))))
   (bA (cB (i:=9) nd rfl (Or.inl rfl) (eJ (ae (ah bJ (c5 dR (pv 1) aB) (c5 dR (pv 1) aB)) (ae (c5 dR (pv 1) aB) aq))))
   (bA (aT (ay lP (ao vB rfl ma PyProof.Rows.boot_abs (ae (pv 6) aq)) (pv 2) (ax _)) (aW (cB (i:=9) nd rfl (Or.inl rfl) (eJ (ae (ah cD (c5 dR (pv 1) aB) (cT gI rfl mi ŕ (ae (cv gc (pv 6) aB (ax _)) aq))) (ae (ah cD (c5 dR (pv 1) aB) (cT gI rfl mi ŕ (ae (cv kY (pv 6) aB (ax _)) aq))) aq))))) eM)
   (aW (bC ò rfl (bE (eJ (ae aB (ae aB aq)))) (bK (i:=10) nd rfl (Or.inl rfl)) ?_))))
  exact bA (cB (i:=11) nd rfl (Or.inl rfl) (aI (ae (ah bJ (ah aP (pv 6) (ah cD aB (pv 10))) aB) (ae (ah aP (pv 7) (ah cD (pv 10) (pv 4))) aq))))
   (aW (aT (ay gc (c5 A0 (pv 9) (pv 10)) aB (ax _)) (aW (cI F_ (pv 5) (pv 11) (ah aP (dP F_ (pv 5) (pv 11) aB ⟨rfl,rfl,rfl,rfl⟩) (ah cD (pv 8) (c5 A0 (pv 9) (pv 10)))) rfl)) eM))
 ·exact⟨bC ò rfl (cK (pv 3)) (bq rfl (cL (bK (i:=6) nd rfl (Or.inl rfl)) (cL (bK (i:=7) nd rfl (Or.inl rfl)) aR))) (aW (cI F_ (pv 12) (pv 7) (ah aP (dP F_ (pv 12) (pv 7) aB ⟨rfl,rfl,rfl,rfl⟩) (a8 F_ (pv 3) (aI (ae (pv 6) (ae (pv 7) aq))))) rfl))⟩
end
end
section
variable {P:Program}{w:World}{K:Frag}{mg:bD}{base:Heap}{f:Addr}{fd:FuncData}
abbrev k8 (l ca:Addr)(fr:Int)(d:Addr)(o4 o5 o6 o7 o8 o9 ś ŏ ũ:Option V):St:=[some (.ref l),some (.ref ca),some (.int fr),some (.ref d),o4,o5,o6,o7,o8,o9,ś,ŏ,ũ]
abbrev rq (a b:Nat)(fr s:Int):List V:=[.int (gQ a b fr s 0:Nat),.int (gQ a b fr s 1:Nat)]
theorem CC {De:bH}{u:TS}{H:Hp}{l ca d:Addr}{fr s:Int}{a b:Nat}{o4 o5 o7 o8 o9 ś ŏ ũ:Option V}(hc:H ca\.tup [.int (a:Nat),.int (b:Nat)])(a1:1<=a)(ab:a<b)(b7:b<=7)(f1:1<=fr)
  (q:∀ T H',Ext H H'->H' T\.lst (rq a b fr s)->u De (k8 l ca fr d o4 o5 (some (.int s)) o7 o8 (some (.ref T)) ś ŏ ũ) H') :
  aO (Gi K) (aO (Cv K) u) De (k8 l ca fr d o4 o5 (some (.int s)) o7 o8 o9 ś ŏ ũ) H:=by
 refine aE (te:=iZ (aw (wk (iH K 1 1) (iH K 1 0)) (aw (iH K 1 0) aS))) (i:=9) (eF 1 rfl (Ĭ.of hc) rfl (eF 0 rfl (Ĭ.of hc) rfl ⟨_,_,rfl,rfl,eF 0 rfl (Ĭ.of hc) rfl ⟨er,λ T hT=>?_⟩⟩));obtain⟨H1,x1,g1,eU⟩:=eD hT (.lst [.int ((b:Nat)-(a:Nat)),.int (a:Nat)]);show aO (Cv K) u De (k8 l ca fr d o4 o5 (some (.int s)) o7 o8 (some (.ref T)) ś ŏ ũ) (ak H T (.lst [.int ((b:Nat)-(a:Nat)),.int (a:Nat)]));rw[eU];have Xz:=x1 _ _ hc;have eb:∀{p:Prop} [Decidable p] (x:Int),x=(if p then 1 else 0)->N5 (b:Nat) x:=λ x e=>.inl ⟨ad,ad⟩
 refine⟨_,rfl,_,rfl,_,rfl,_,_,rfl,rfl,_,rfl,?_⟩;refine gO (λ z=>?_) (λ z=>?_)
 ·have z:(if s<0 then -s else s) ≥ fr:=Þ z
  refine eF 1 rfl (Ĭ.of Xz) rfl ⟨_,rfl,_,_,rfl,rfl,.inr ⟨_,rfl,_,_,rfl,rfl,.inl ⟨ad,ad⟩,?_⟩⟩;refine eF 1 rfl (Ĭ.of Xz) rfl ⟨_,rfl,_,_,rfl,rfl,.inr ⟨_,rfl,_,_,rfl,rfl,.inl ⟨ad,ad⟩,er,λ T2 WE=>?_⟩⟩;obtain⟨H2,x2,g2,eU⟩:=eD WE (.lst (rq a b fr s));have ev:[V.int ((b:Nat)*(if decide (s>0)=true then 1 else 0)),V.int ((b:Nat)*(if decide (s<0)=true then 1 else 0))]=rq a b fr s:=by
   unfold rq gQ;simp only[decide_eq_true_iff];by_cases y:s<0
   ·rw[Ë y] at z;rw[Æ (show ¬ s>0 by lia),Ë y,Æ (show ¬ fr<=s by lia),Æ (show ¬ fr<=s by lia),Ë (show s <= -fr by lia),Ë (show s <= -fr by lia)]
    simp
   ·rw[Æ y] at z;rw[Ë (show s>0 by lia),Æ y,Ë (show fr<=s by lia),Ë (show fr<=s by lia)]
    simp
  show u De (k8 l ca fr d o4 o5 (some (.int s)) o7 o8 (some (.ref T2)) ś ŏ ũ) (ak H1 T2 (.lst [V.int ((b:Nat)*(if decide (s>0)=true then 1 else 0)),V.int ((b:Nat)*(if decide (s<0)=true then 1 else 0))]))
  rw[ev,eU];exact q T2 H2 (x1.trans x2) g2
 ·have z:¬ (if s<0 then -s else s) ≥ fr:=λ h=>z (Ê h)
  refine q T H1 x1 (g1.trans ?_);unfold rq gQ;have z1:¬ fr<=s:=λ h=>z (by split <;> lia)
  have z2:¬ s <= -fr:=λ h=>z (by split <;> lia)
  rw[Æ z1,Æ z1,Æ z2,Æ z2,show((b:Int)-(a:Int))=((b-a:Nat):Int) by lia]
  rfl
theorem Dc {De:bH}{H:Hp}{l ca d e T:Addr}{fr s tot c:Int}{a b m:Nat}{acc:Tw}{ś ŏ ũ:Option V}(ab:a<b)(b7:b<=7)(hT:H T\.lst (rq a b fr s))(he:H e\aA acc)(nd:(acc.map (·.1)).Nodup)(ln:acc.length<2^23)
  (q:∀ H' ś ŏ,Kept H H' e->H' e\aA (ut a b fr s tot c m 1 (ut a b fr s tot c m 0 acc))->De.nx (k8 l ca fr d (some (.int c)) (some (.ref e)) (some (.int s)) (some (.int tot)) (some (.int (m:Nat))) (some (.ref T)) ś ŏ ũ) H') :
  Gu K De (k8 l ca fr d (some (.int c)) (some (.ref e)) (some (.int s)) (some (.int tot)) (some (.int (m:Nat))) (some (.ref T)) ś ŏ ũ) H:=by
 have neT:T≠e:=λ z=>by rw[z,he] at hT;cases hT
 refine⟨er,λ L hL=>?_⟩;obtain⟨H1,x1,g1,eU⟩:=eD hL (.lst [.int 0,.int 1]);rw[eU];have Vb:L≠e:=λ z=>by rw[z,he] at hL;cases hL
 refine⟨L,rfl,⟨_,Ğ.of g1⟩,dJ (xs:=[.int 0,.int 1]) (λ i σ H'=>Kept H1 H' e/\H' e\(aA (match i with | 0=>acc | 1=>ut a b fr s tot c m 0 acc | _=>ut a b fr s tot c m 1 (ut a b fr s tot c m 0 acc)))/\∃ ś ŏ,σ = k8 l ca fr d (some (.int c)) (some (.ref e)) (some (.int s)) (some (.int tot)) (some (.int (m:Nat))) (some (.ref T)) ś ŏ ũ) ⟨Kept.refl _ _,x1 _ _ he,_,_,rfl⟩ (λ i σ H' _ pv=>Ğ.of (pv.1 _ _ g1 Vb)) ?_ ?_⟩
 ·have turn:∀(i:Nat)(H2:Hp)(A:Tw)(Rz:bH)(ś ŏ:Option V),i<2->Kept H1 H2 e->H2 e\aA A->(A.map (·.1)).Nodup->A.length<2^24->(∀ H3 ŏ,Kept H1 H3 e->H3 e\aA (ut a b fr s tot c m i A)->Rz.nx (k8 l ca fr d (some (.int c)) (some (.ref e)) (some (.int s)) (some (.int tot)) (some (.int (m:Nat))) (some (.ref T)) (some (.int (i:Nat))) ŏ ũ) H3)->aO FS (BS K) Rz (k8 l ca fr d (some (.int c)) (some (.ref e)) (some (.int s)) (some (.int tot)) (some (.int (m:Nat))) (some (.ref T)) (some (.int (i:Nat))) ŏ ũ) H2:=by
   intro i H2 A Rz ś ŏ hi k2 QU SO lA k;have WE:=k2 _ _ (x1 _ _ hT) neT;refine aE (te:=gw (wk (cR (af 6) (zk (tC (.int 2)) (af 10))) (tC (.int 1))) (cR (af 7) (zk (af 10) (af 4)))) (i:=11) ⟨_,rfl,_,rfl,_,_,rfl,rfl,.inl ⟨av,av⟩,_,_,rfl,rfl,_,_,rfl,rfl,_,rfl,_,rfl,_,rfl,_,_,rfl,rfl,.inl ⟨ad,ad⟩,_,_,rfl,rfl,er,λ ky hk=>?_⟩;show BS K Rz (k8 l ca fr d (some (.int c)) (some (.ref e)) (some (.int s)) (some (.int tot)) (some (.int (m:Nat))) (some (.ref T)) (some (.int (i:Nat))) (some (.ref ky)) ũ) (ak H2 ky (.tup [.int (s+2*(i:Nat)-1),.int (tot+(i:Nat)*c)]));obtain⟨H3,x3,g3,eU⟩:=eD hk (.tup [.int (s+2*(i:Nat)-1),.int (tot+(i:Nat)*c)]);rw[eU];have hT3:=x3 _ _ WE;have Qz:=x3 _ _ QU;have et:(rq a b fr s)[i]?\.int (gQ a b fr s i:Nat):=by
    match i,hi with
    | 0,_=>rfl
    | 1,_=>rfl
   have tl:gQ a b fr s i<=7:=by
    match i,hi with
    | 0,_=>unfold gQ;(repeat' split) <;> lia
    | 1,_=>unfold gQ;(repeat' split) <;> lia
   have ix:∀{Q:VK},Q (.int (gQ a b fr s i:Nat)) H3->BY K (k8 l ca fr d (some (.int c)) (some (.ref e)) (some (.int s)) (some (.int tot)) (some (.int (m:Nat))) (some (.ref T)) (some (.int (i:Nat))) (some (.ref ky)) ũ) H3 Q:=λ r=>⟨_,rfl,_,rfl,T,_,_,_,rfl,rfl,Ğ.of hT3,qF et,r⟩;have kk:Kept H1 H3 e:=λ z o h n=>x3 _ _ (k2 _ _ h n);refine ix ⟨_,_,rfl,rfl,_,rfl,gO (λ z=>?_) (λ z=>?_)⟩
   ·have z:((gQ a b fr s i:Nat):Int)>0:=Þ z;have z:0<gQ a b fr s i:=ad;refine BB (h:=s+2*(i:Nat)-1) (tot:=tot+(i:Nat)*c) (c:=m*gQ a b fr s i) (acc:=A) rfl rfl Qz g3 SO lA (λ r=>⟨_,rfl,ix ⟨_,_,rfl,rfl,.inr ⟨ad,ad⟩,by dsimp only;rw[<- Ĕ];exact r⟩⟩) (k _ _ (λ z o h n=>by rw[ai n];exact kk _ _ h n) ?_)
    unfold ut;rw[bz,Ë z]
   ·have z:¬ 0<gQ a b fr s i:=λ h=>z (Ê ad);refine k H3 _ kk ?_;unfold ut;rw[Æ z];exact Qz
  rintro i x σ H' ex ⟨k1,Ρ,ś,ŏ,rfl⟩
  match i,ex with
  | 0,ex =>
   cases ex;exact turn 0 H' acc _ ś ŏ av k1 Ρ nd ad λ H3 ŏ k3 h3=>⟨k3,h3,_,_,rfl⟩
  | 1,ex =>
   cases ex;exact turn 1 H' _ _ ś ŏ av k1 Ρ (Dk nd) (ĭ zI ad) λ H3 ŏ k3 h3=>⟨k3,h3,_,_,rfl⟩
  | i+2,ex=>simp at ex
 ·rintro σ H' ⟨k1,Ρ,ś,ŏ,rfl⟩;exact q H' _ _ (λ z o h n=>k1 _ _ (x1 _ _ h) n) Ρ
end
theorem qC {t:Rl}{k F:Nat}{c:Int}{ps:Tw}{j:Nat}{p:TK × Nat}(e:ps[j]?\p):cZ t k c F (ps.take (j+1)) []=lq t k c F p (cZ t k c F (ps.take j) []):=by
 rw[aC e];show List.foldl _ _ _=_;rw[ľ];rfl
theorem vp {n a b:Nat}{fr:Int}(ok:(R0.û n a b fr).ok)(b7:b<=7)(a1:1<=a)(ab:a<b)(sc:List Int){k:Nat}(hk:k<=n):Lay (.one (.û n a b fr)) sc k (b^k) (rL (.one (.û n a b fr)) sc b k)/\(rL (.one (.û n a b fr)) sc b k).length<=2^20/\∀ p∈rL (.one (.û n a b fr)) sc b k,∃ s:Int,p.1.1=.k (.inl s):=by
 have E_:(n:Int)<=20:=(R0.Ķ ok).2;have OA:(k:Int)<=(Rl.one (.û n a b fr)).ö:=by show(k:Int)<=n;lia
 have L:=tT (t:=.one (.û n a b fr)) ok (b:=b) (λ _=>Ü _) ad sc OA;refine⟨L,È L.len (â av ad),λ p hp=>?_⟩;obtain⟨r,hr,e⟩:=(L.keys ok OA p.1).mp (ű hp);obtain⟨s,es,_⟩:=fR (q:=.û n a b fr) ok OA r hr;exact⟨s,by rw[<- e];show dh r.st=_;rw[es];rfl⟩
section
variable {P:Program}{w:World}{K:Frag}{mg:bD}{base:Heap}{f:Addr}{fd:FuncData}
theorem Du {De:bH}{H0 H:Hp}{l ca d e:Addr}{sc:List Int}{n a b i:Nat}{fr:Int}{o6 o7 o8 o9 ś ŏ ũ:Option V}(ok:(R0.û n a b fr).ok)(a1:1<=a)(ab:a<b)(b7:b<=7)(hi:i<n)(hc:H0 ca\.tup [.int (a:Nat),.int (b:Nat)])(x0:Ext H0 H)(u_:H0 d=none)(M7:H0 e=none)(hd:H d\aA (rL (.one (.û n a b fr)) sc b i))(he:H e\aA [])(NO:d≠e)
  (q:∀ H' o6 o7 o8 o9 ś ŏ,Ext H0 H'->H' e\aA (rL (.one (.û n a b fr)) sc b (i+1))->De.nx (k8 l ca fr d (some (.int (sc.getD i 0))) (some (.ref e)) o6 o7 o8 o9 ś ŏ ũ) H') :
  EE K De (k8 l ca fr d (some (.int (sc.getD i 0))) (some (.ref e)) o6 o7 o8 o9 ś ŏ ũ) H:=by
 obtain⟨L,len,ks⟩:=vp ok b7 a1 ab sc (k:=i) ad;have f1:1<=fr:=ok.2.2.2.1;have eL:rL (.one (.û n a b fr)) sc b (i+1)=cZ (.one (.û n a b fr)) i (sc.getD i 0) b (rL (.one (.û n a b fr)) sc b i) []:=rfl;generalize rL (.one (.û n a b fr)) sc b i=ps at hd L ks len eL;refine⟨_,rfl,d,aA ps,rfl,True.intro,.inl hd,λ ob H1 fz=>?_⟩;have x1:Ext H0 H1:=λ b o h=>by rw[fz.2 b (ap h u_)];exact x0 _ _ h
 refine gB (λ j σ H'=>H' d\.Η ob (aA ps)/\Ext H0 H'/\H' e\aA (cZ (.one (.û n a b fr)) i (sc.getD i 0) b (ps.take j) [])/\∃ o6 o7 o8 o9 ś ŏ,σ = k8 l ca fr d (some (.int (sc.getD i 0))) (some (.ref e)) o6 o7 o8 o9 ś ŏ ũ) ⟨fz.1,x1,by rw[fz.2 e (λ z=>NO z.symm)];exact he,_,_,_,_,_,_,rfl⟩ (λ i σ H' pv=>pv.1) ?_ ?_
 ·rintro j σ H' kx vv hj ⟨hf,x',Ρ,o6,o7,o8,o9,ś,ŏ,rfl⟩ pr;refine Â λ gg=>?_;obtain⟨p,bb,sv,hp,rfl,hb,nv,rfl⟩:=fG pr;have pm:=ß hp;obtain⟨s,es⟩:=ks p pm;have eA:=qC (t:=.one (.û n a b fr)) (k:=i) (F:=b) (c:=sc.getD i 0) hp;obtain⟨⟨pk,tot⟩,m⟩:=p;refine gg ?_;cases es;cases (show sv=.int s from nv);refine⟨bb,_,rfl,Ĭ.of hb,rfl,_,_,rfl,_,_,rfl,rfl,?_⟩;have nA:=iz (t:=.one (.û n a b fr)) (k:=i) (F:=b) (c:=sc.getD i 0) (ps.take j) (acc:=[]) (by simp)
  have lA:=gM (t:=.one (.û n a b fr)) (k:=i) (F:=b) (c:=sc.getD i 0) (ps.take j) [];rw[yD a1 ab f1] at eA;rw[ĕ,ļ] at lA;generalize cZ (.one (.û n a b fr)) i (sc.getD i 0) b (ps.take j) []=acc at Ρ nA lA eA;refine aE (te:=bL (af 3) (gw (af 6) (af 7))) (i:=8) (nI rfl (.inr ⟨_,hf⟩) L.nd pm (λ r=>⟨_,rfl,r⟩) (λ r=>⟨_,rfl,r⟩) λ H2 x2=>?_);refine CC (x2 _ _ (x' _ _ hc)) a1 ab b7 f1 λ T H3 x3 hT=>?_;have Vz:=x2.trans x3;refine Dc ab b7 hT (Vz _ _ Ρ) nA ad λ H4 ś ŏ k4 Qy=>?_;rw[<- eA] at Qy;exact⟨k4 _ _ (Vz _ _ hf) NO,λ b o hb=>k4 _ _ (Vz _ _ (x' _ _ hb)) (ap hb M7),Qy,_,_,_,_,_,_,rfl⟩
 ·rintro σ H' ⟨hf,x',Ρ,o6,o7,o8,o9,ś,ŏ,rfl⟩;rw[show bV (aA ps)=ps.length from(jk ps).2.2,ä,<- eL] at Ρ;exact q H' _ _ _ _ _ _ x' Ρ
theorem D3 {De:bH}{u:TS}{H0 H:Hp}{l ca d:Addr}{sc:List Int}{a b:Nat}{fr:Int}(ok:(R0.û sc.length a b fr).ok)(a1:1<=a)(ab:a<b)(b7:b<=7)(hl:H0 l\.lst (sc.map V.int))(hc:H0 ca\.tup [.int (a:Nat),.int (b:Nat)])(x0:Ext H0 H)(u_:H0 d=none)(hd:H d\aA (rL (.one (.û sc.length a b fr)) sc b 0))
  (q:∀ H' d' o4 o5 o6 o7 o8 o9 ś ŏ,Ext H0 H'->H0 d'=none->H' d'\aA (rL (.one (.û sc.length a b fr)) sc b sc.length)->u De (k8 l ca fr d' o4 o5 o6 o7 o8 o9 ś ŏ none) H'):aO (CY K) u De (k8 l ca fr d none none none none none none none none none) H:=by
 refine⟨_,rfl,l,rfl,⟨_,Ğ.of (x0 _ _ hl)⟩,dJ (xs:=sc.map V.int) (λ i σ H'=>Ext H0 H'/\∃ d o4 o5 o6 o7 o8 o9 ś ŏ,σ = k8 l ca fr d o4 o5 o6 o7 o8 o9 ś ŏ none/\H0 d=none/\H' d\aA (rL (.one (.û sc.length a b fr)) sc b i)) ⟨x0,d,_,_,_,_,_,_,_,_,rfl,u_,hd⟩ (λ i σ H' _ pv=>Ğ.of (pv.1 _ _ hl)) ?_ ?_⟩
 ·rintro i x σ H' ex ⟨x',d,o4,o5,o6,o7,o8,o9,ś,ŏ,rfl,u_,hd⟩;rw[Ô] at ex;obtain⟨c,ec,rfl⟩:=Û.mp ex;have hi:i<sc.length:=(Ú.mp ec).1;have es:c=sc.getD i 0:=by rw[ą,ec];rfl
  subst es;refine aE (te:=ie) (i:=5) λ e he=>?_;show aO (EE K) (bQ (af 5) (aJ 3)) _ (k8 l ca fr d (some (.int (sc.getD i 0))) (some (.ref e)) o6 o7 o8 o9 ś ŏ none) (ak H' e (.dT []));obtain⟨H2,x2,g2,eU⟩:=eD he (.dT []);rw[eU];have M7:=x'.back he;refine Du ok a1 ab b7 hi hc (x'.trans x2) u_ M7 (x2 _ _ hd) g2 (λ z=>by rw[<- z,hd] at he;cases he) λ H3 o6 o7 o8 o9 ś ŏ x3 Qz=>?_
  exact⟨_,rfl,x3,e,_,_,_,_,_,_,_,_,rfl,M7,Qz⟩
 ·rintro σ H' ⟨x',d,o4,o5,o6,o7,o8,o9,ś,ŏ,rfl,u_,hd⟩;rw[Ç] at hd;exact q H' d _ _ _ _ _ _ _ _ x' u_ hd
theorem BO {De:bH}{H0 H:Hp}{l ca d m:Addr}{fr:Int}{ps:Tw}{o4 o5 o6 o7 o8 o9 ś ŏ:Option V}(nd:(ps.map (·.1)).Nodup)(pos:∀ p∈ps,0<p.2)(lp:ps.length<=2^20)(ks:∀ p∈ps,∃ s:Int,p.1.1=.k (.inl s))(x0:Ext H0 H)(u_:H0 d=none)(NW:H0 m=none)(hd:H d\aA ps)(hm:H m\.dK [])(Ud:d≠m)
  (q:∀ H',Ext H0 H'->H' m\.dK (bY Key.inl (cO ps))->De.rt (.ref m) H'):aO (Ep K) (cH (af 12)) De (k8 l ca fr d o4 o5 o6 o7 o8 o9 ś ŏ (some (.ref m))) H:=by
 refine⟨_,rfl,d,aA ps,rfl,True.intro,.inl hd,λ ob H1 fz=>?_⟩;have x1:Ext H0 H1:=λ b o h=>by rw[fz.2 b (ap h u_)];exact x0 _ _ h
 refine gB (λ j σ H'=>H' d\.Η ob (aA ps)/\Ext H0 H'/\H' m\.dK (bY Key.inl (cO (ps.take j)))/\∃ o6 o7,σ = k8 l ca fr d o4 o5 o6 o7 o8 o9 ś ŏ (some (.ref m))) ⟨fz.1,x1,by rw[fz.2 m (λ z=>Ud z.symm)];exact hm,_,_,rfl⟩ (λ i σ H' pv=>pv.1) ?_ ?_
 ·rintro j σ H' kx vv hj ⟨hf,x',Nn,o6,o7,rfl⟩ pr;refine Â λ gg=>?_;obtain⟨p,b,sv,hp,rfl,hb,nv,rfl⟩:=fG pr;have pm:=ß hp;have tk:=aC hp;obtain⟨TZ,_,l1⟩:=cW (ps:=ps.take j) λ q hq=>pos q (ħ hq);obtain⟨s,es⟩:=ks p pm;obtain⟨⟨pk,tot⟩,c⟩:=p;refine gg ?_;cases es;cases (show sv=.int s from nv);refine⟨b,_,rfl,Ĭ.of hb,rfl,_,_,rfl,_,_,rfl,rfl,?_⟩;refine⟨_,rfl,m,rfl,.inl ⟨_,.inl Nn⟩,_,rfl,_,ſ.k Nn (k:=.inl _),?_⟩;have eg:(a9 (bY Key.inl (cO (ps.take j))) (Key.inl tot)).getD (.int 0)=.int ((de (cO (ps.take j)) tot:Nat):Int):=by
   rcases fg b6 tot (ps:=cO (ps.take j)) with⟨h1,h2,_⟩ | ⟨h1,_⟩
   ·rw[h1,h2];rfl
   ·rw[h1];rfl
  rw[eg];refine nI rfl (.inr ⟨_,hf⟩) nd pm (λ r=>⟨_,rfl,r⟩) (λ r=>⟨_,rfl,r⟩) λ H2 x2=>?_;have QT:=x2 _ _ Nn;refine⟨_,_,rfl,rfl,_,rfl,_,rfl,m,_,rfl,Mp.k QT (k:=.inl tot) (by rw[eB,è];rw[ĕ] at l1;lia),?_⟩
  refine⟨by rw[ai Ud];exact x2 _ _ hf,aZ _ (x'.trans x2) NW,?_,_,_,rfl⟩
  rw[bz,tk,gE,<- jJ b6 tot c TZ.nd];rfl
 ·rintro σ H' ⟨hf,x',Nn,o6,o7,rfl⟩;rw[show bV (aA ps)=ps.length from(jk ps).2.2,ä] at Nn;exact⟨_,rfl,q H' x' Nn⟩
theorem GB (F:Ļ K "_law_coin_counts" "_law_coin_counts" Bb f fd) (mi:mg "int" = none) (ma:mg "abs" = none):ð P w K mg base az 1 f fd ["_law_scores","_law_coin_here","_law_far"] yO:=by
 refine cj F TQ λ cdv A outer s H vs Q E hr h=>?_;refine Â λ gg=>?_;obtain⟨l,ca,sc,a,b,fr,rfl,hl,hc,ok,a1,ab,b7,q⟩:=h;obtain⟨Oz⟩:=D7 mi ma hr (f:=f) (cdv:=cdv) (A:=A) (outer:=outer) (s:=s) (H:=H) (E:=E) (P:=P) (w:=w) (base:=base);refine gg ?_;refine⟨_,Oz,?_⟩;refine aE (te:=ii (gw (tC (.int 0)) (tC (.int 0))) (tC (.int 1))) (i:=3) λ d hd=>?_;obtain⟨H1,x1,g1,eU⟩:=eD hd (.dT []);rw[eU];refine⟨er,λ b' hb=>?_⟩;refine Â λ gg=>?_;obtain⟨H2,x2,g2,eU⟩:=eD hb (.tup [.int 0,.int 0]);refine gg ?_;rw[eU];refine⟨b',[.k (.inl 0),.k (.inl 0)],_,rfl,oZ (q:=(.k (.inl 0),0)) g2 rfl,x2 _ _ g1,?_⟩;show aO (CY K) _ _ (k8 l ca fr d none none none none none none none none none) (ak H2 d (aA (rL (.one (.û sc.length a b fr)) sc b 0)));refine D3 ok a1 ab b7 hl hc (aZ _ (x1.trans x2) hd) hd bz λ H3 d' o4 o5 o6 o7 o8 o9 ś ŏ x3 OB QA=>?_;refine aE (te:=eG) (i:=12) λ m hm=>?_;show aO (Ep K) _ _ (k8 l ca fr d' o4 o5 o6 o7 o8 o9 ś ŏ (some (.ref m))) (ak H3 m (.dK []));obtain⟨H4,x4,g4,eU⟩:=eD hm (.dK []);rw[eU];have NW:=x3.back hm;obtain⟨L,len,ks⟩:=vp ok b7 a1 ab sc (Å _);exact BO L.nd L.pos len ks (x3.trans x4) OB NW (x4 _ _ QA) g4 (λ z=>by rw[<- z,QA] at hm;cases hm) λ H5 x5 h5=>q m H5 x5 NW h5
end
theorem C6 {De:bH}{d:Nat}{tk tv:TE}{σ:St}{H:Hp}{e:Addr}{ps:List (Int × Nat)}{k:Int}{c:Nat}(si:σ[d]?\some (.ref e))(he:H e\.dK (bY Key.inl ps))(nd:(ps.map (·.1)).Nodup)(ln:ps.length<2^24)
  (kk:∀{R:VK},R (.int k) H->tk σ H R) (kv:∀{R:VK},R (.int (c:Nat)) H->tv σ H R) (q:De.nx σ (ak H e (.dK (bY Key.inl (ck ps k c))))):gU (af d) tk (cR (fu (af d) tk (tC (.int 0))) tv) De σ H:=by
 refine⟨_,si,e,rfl,.inl ⟨_,.inl he⟩,kk ⟨_,ſ.k he (k:=.inl k),kv ?_⟩⟩;have eg:(a9 (bY Key.inl ps) (Key.inl k)).getD (.int 0)=.int ((de ps k:Nat):Int):=by
  rcases fg b6 k (ps:=ps) with⟨h1,h2,_⟩ | ⟨h1,_⟩
  ·rw[h1,h2];rfl
  ·rw[h1];rfl
 rw[eg];refine⟨_,_,rfl,rfl,_,si,kk ⟨e,_,rfl,Mp.k he (k:=.inl k) (by rw[eB,è];exact ln),?_⟩⟩
 dsimp only
 rw[<- Mw,jJ b6 k c nd];exact q
section
variable {P:Program}{w:World}{K:Frag}{mg:bD}{base:Heap}{f:Addr}{fd:FuncData}
abbrev En:Stmt:=bT 80
abbrev Lc:List Str:=["_law_scores","_law_coin_here","_law_found","_law_at","_law_more","_law_total","_law_top","_law_score"]
theorem TC:ag Lc ["_law_scores","_law_coin_here"] (aa En):=aL
def yN:Sp:=λ vs H Q _=>∃(l ca:Addr)(sc:List Int)(n a b:Nat),vs=[.ref l,.ref ca]/\H l\.lst (sc.map V.int)/\H ca\.tup [.int (a:Nat),.int (b:Nat)]/\sc.length=2*n/\(R0.pairs n a b).ok/\1<=a/\a<b/\b<=7/\∀ m H',Ext H H'->H m=none->H' m\.dK (bY Key.inl (uU sc a b n))->Q (.ref m) H'
def FY (K:Frag):TE:=iZ (aw (gw (iH K 1 0) (bR (qB K) (af 0) (af 3))) (aw (gw (wk (iH K 1 1) (iH K 1 0)) (bR (qB K) (af 0) (cR (af 3) (tC (.int 1))))) aS))
def Be:TS:=gU (af 4) (cR (af 5) (af 7)) (cR (fu (af 4) (cR (af 5) (af 7)) (tC (.int 0))) (zk (bL (af 2) (af 5)) (af 6)))
def CK (K:Frag):TS:=fM (jE (af 2)) (aJ 5) (fM (cY K (FY K)) (Ax K 6 7) Be)
def Ft (K:Frag):TS:=fM (qv (aw (tC (.int 0)) (aw (oC K 0) (aw (tC (.int 2)) aS)))) (aJ 3) (aO (bQ eG (aJ 4)) (aO (CK K) (bQ (af 4) (aJ 2))))
def LW (K:Frag):TS:=aO (bQ (wI [(tC (.int 0),tC (.int 1))]) (aJ 2)) (aO (Ft K) (cH (af 2)))
section
variable {cdv:Value}{A:Around}{outer:List Env}{s:Shared}{H:Hp}{E:XK}
theorem Cu (mn:mg "len" = none) (mr:mg "range" = none) (hr:rE 0 "_law_pair_counts" En A s f cdv):Bx (ο (b9 az P w K mg base Lc "_law_pair_counts" (aa En) f cdv A outer s H E).K' (aH En) (LW K)):=by
 have nd:=TC.nd;have F_:(A.deeper (PyProof.Rows.envOfC "_law_pair_counts" (aa En) s.heap.objs.size f cdv)).units+2<cLine:=by have:=hr.un;lia
 refine da ⟨cB (i:=2) nd rfl (Or.inl rfl) (sV (fS aB aB nQ) rfl rfl (by simp) av)⟩ (da ?_ (bI ⟨cq (pv 2)⟩))
 refine⟨bC ò rfl (hV rfl mr (ae aB (ae (ao aY rfl mn ě (ae (pv 0) aq)) (ae aB aq)))) (bK (i:=3) nd rfl (Or.inl rfl)) (bA (cB (i:=4) nd rfl (Or.inl rfl) gy) (bA (bC ò rfl (cK (pv 2)) (bK (i:=5) nd rfl (Or.inl rfl)) (aW (bC ò rfl (bE ?_) (bq rfl (cL (bK (i:=6) nd rfl (Or.inl rfl)) (cL (bK (i:=7) nd rfl (Or.inl rfl)) aR))) ?_))) (aW (cB (i:=2) nd rfl (Or.inl rfl) (pv 4)))))⟩
 ·exact eJ (ae (aI (ae (c5 dR (pv 1) aB) (ae (c5 A0 (pv 0) (pv 3)) aq))) (ae (aI (ae (ah bJ (c5 dR (pv 1) aB) (c5 dR (pv 1) aB)) (ae (c5 A0 (pv 0) (ah aP (pv 3) aB)) aq))) aq))
 ·exact aW (cI F_ (pv 4) (ah aP (pv 5) (pv 7)) (ah aP (dP F_ (pv 4) (ah aP (pv 5) (pv 7)) aB ⟨rfl,rfl,rfl,rfl⟩) (ah cD (a8 F_ (pv 2) (pv 5)) (pv 6))) rfl)
end
abbrev xW (l ca d:Addr)(o3 o4 o5 o6 o7:Option V):St:=[some (.ref l),some (.ref ca),some (.ref d),o3,o4,o5,o6,o7]
theorem D6 {De:bH}{H':Hp}{l ca d e:Addr}{ob:Obj}{sc:List Int}{a b m:Nat}{x v c0 c1:Int}{ps acc:List (Int × Nat)}{o6 o7:Option V}(a1:1<=a)(ab:a<b)(b7:b<=7)(PD:H' l\.lst (sc.map V.int))(Rr:H' ca\.tup [.int (a:Nat),.int (b:Nat)])(g0:ph (sc.map V.int) x\.int c0)(g1:ph (sc.map V.int) (x+1)\.int c1)(hf:H' d\.Η ob (.dK (bY Key.inl ps))) (Ρ:H' e\.dK (bY Key.inl acc))(oA:Mq acc)(lA:acc.length<=2^23)(gv:a9 (bY Key.inl ps) (.inl v)\.int (m:Nat))(m0:0<m)(NO:d≠e)
  (q:∀ H5 o6 o7,Kept H' H5 e->H5 e\.dK (bY Key.inl (ck (ck acc (v+c0) (m*a)) (v+c1) (m*(b-a))))->De.nx (xW l ca d (some (.int x)) (some (.ref e)) (some (.int v)) o6 o7) H5) :
  fM (cY K (FY K)) (Ax K 6 7) Be De (xW l ca d (some (.int x)) (some (.ref e)) (some (.int v)) o6 o7) H':=by
 refine eF 0 rfl (Ĭ.of Rr) rfl ⟨_,rfl,_,rfl,l,_,_,_,rfl,rfl,Ğ.of PD,g0,er,λ t1 h1=>?_⟩;refine Â λ gg=>?_;obtain⟨H2,x2,k2,eU⟩:=eD h1 (.tup [.int (a:Nat),.int c0]);refine gg ?_;rw[eU];refine eF 1 rfl (Ĭ.of (x2 _ _ Rr)) rfl (eF 0 rfl (Ĭ.of (x2 _ _ Rr)) rfl ⟨_,_,rfl,rfl,_,rfl,_,rfl,_,_,rfl,rfl,l,_,_,_,rfl,rfl,Ğ.of (x2 _ _ PD),g1,er,λ t2 h2=>?_⟩)
 dsimp only
 rw[show((b:Int)-(a:Int))=((b-a:Nat):Int) by lia]
 obtain⟨H3,x3,k3,eU⟩:=eD h2 (.tup [.int (b-a:Nat),.int c1]);rw[eU];refine⟨er,λ L hL=>?_⟩;obtain⟨H4,x4,k4,eU⟩:=eD hL (.lst [.ref t1,.ref t2]);rw[eU];have QN:=(x2.trans x3).trans x4;have hf4:=QN _ _ hf;have Qy:=QN _ _ Ρ;have nL:L≠e:=λ z=>by rw[z,Qy] at k4;cases k4
 have V5:=x4 _ _ (x3 _ _ k2);have V4:=x4 _ _ k3;have n1:t1≠e:=λ z=>by rw[z,Qy] at V5;cases V5
 have n2:t2≠e:=λ z=>by rw[z,Qy] at V4;cases V4
 refine⟨L,rfl,⟨_,Ğ.of k4⟩,dJ (xs:=[.ref t1,.ref t2]) (λ i' σ H'=>Kept H4 H' e/\H' e\(.dK (bY Key.inl (match i' with | 0=>acc | 1=>ck acc (v+c0) (m*a) | _=>ck (ck acc (v+c0) (m*a)) (v+c1) (m*(b-a)))))/\∃ o6 o7,σ = xW l ca d (some (.int x)) (some (.ref e)) (some (.int v)) o6 o7) ⟨Kept.refl _ _,Qy,_,_,rfl⟩ (λ i σ H' _ pv=>Ğ.of (pv.1 _ _ k4 nL)) ?_ ?_⟩
 ·have turn:∀(T:Addr)(bT:Nat)(c:Int)(A:List (Int × Nat))(H5:Hp)(Rz:bH)(o6 o7:Option V),bT<=7->Kept H4 H5 e->H5 e\.dK (bY Key.inl A)->H5 T\.tup [.int (bT:Nat),.int c]->(A.map (·.1)).Nodup->A.length<2^24->(Kept H4 (ak H5 e (.dK (bY Key.inl (ck A (v+c) (m*bT))))) e->Rz.nx (xW l ca d (some (.int x)) (some (.ref e)) (some (.int v)) (some (.int (bT:Nat))) (some (.int c))) (ak H5 e (.dK (bY Key.inl (ck A (v+c) (m*bT))))))->Ax K 6 7 (.ref T) (xW l ca d (some (.int x)) (some (.ref e)) (some (.int v)) o6 o7) H5 λ ĩ H2=>Be Rz ĩ H2:=by
   intro T bT c A H5 Rz o6 o7 t7 k5 PH hT SO lA k;refine⟨T,_,rfl,Ĭ.of hT,rfl,_,_,rfl,_,_,rfl,rfl,?_⟩;refine C6 (c:=m*bT) rfl PH SO lA (λ r=>⟨_,rfl,_,rfl,_,_,rfl,rfl,r⟩) (λ r=>⟨_,rfl,_,rfl,d,_,rfl,.inl ⟨_,.inl v,.inr ⟨ob,k5 _ _ hf4 NO⟩,rfl,gv.symm⟩,_,rfl,_,_,rfl,rfl,.inr ⟨ad,ad⟩,by dsimp only;rw[<- Ĕ];exact r⟩) (k λ z o h n=>by rw[ai n];exact k5 _ _ h n)
  rintro i' y σ H5 ex ⟨k5,PH,o6,o7,rfl⟩
  match i',ex with
  | 0,ex =>
   cases ex;exact turn t1 a c0 acc H5 _ o6 o7 ad k5 PH (k5 _ _ V5 n1) oA.nd ad λ k6=>⟨k6,bz,_,_,rfl⟩
  | 1,ex =>
   cases ex;exact turn t2 (b-a) c1 _ H5 _ o6 o7 ad k5 PH (k5 _ _ V4 n2) (oA.add (Ħ m0 a1)).nd (ĭ (fV _) ad) λ k6=>⟨k6,bz,_,_,rfl⟩
  | i'+2,ex=>simp at ex
 ·rintro σ H5 ⟨k5,PH,o6,o7,rfl⟩;exact q H5 _ _ (λ z o h n=>k5 _ _ (QN _ _ h) n) PH
theorem xr {c0 c1:Int}{a b j:Nat}{ps:List (Int × Nat)}{p:Int × Nat}(e:ps[j]?\p):xV c0 c1 a b (ps.take (j+1)) []=ck (ck (xV c0 c1 a b (ps.take j) []) (p.1+c0) (p.2*a)) (p.1+c1) (p.2*b):=by
 rw[aC e];show List.foldl _ _ _=_;rw[ľ];rfl
theorem E1 {De:bH}{H0 H:Hp}{l ca d e:Addr}{sc:List Int}{a b i:Nat}{ps:List (Int × Nat)}{o5 o6 o7:Option V}(hi:2*i+1<sc.length)(ok:Mq ps)(lp:ps.length<=2^20)(a1:1<=a)(ab:a<b)(b7:b<=7)(hl:H0 l\.lst (sc.map V.int))(hc:H0 ca\.tup [.int (a:Nat),.int (b:Nat)])(x0:Ext H0 H)(u_:H0 d=none)(M7:H0 e=none)(hd:H d\.dK (bY Key.inl ps))(he:H e\.dK [])(NO:d≠e)
  (q:∀ H' o5 o6 o7,Ext H0 H'->H' e\.dK (bY Key.inl (xV (sc.getD (2*i) 0) (sc.getD (2*i+1) 0) a (b-a) ps []))->De.nx (xW l ca d (some (.int (0+(i:Nat)*2))) (some (.ref e)) o5 o6 o7) H') :
  CK K De (xW l ca d (some (.int (0+(i:Nat)*2))) (some (.ref e)) o5 o6 o7) H:=by
 refine⟨_,rfl,d,.dK (bY Key.inl ps),rfl,True.intro,.inl hd,λ ob H1 fz=>?_⟩;have x1:Ext H0 H1:=λ b o h=>by rw[fz.2 b (ap h u_)];exact x0 _ _ h
 have e0:sc.getD (2*i) 0=sc[2*i]'ad:=by rw[ą,Ã ad];rfl
 have e1:sc.getD (2*i+1) 0=sc[2*i+1]'hi:=by rw[ą,Ã hi];rfl
 have g0:ph (sc.map V.int) (0+(i:Nat)*2)\.int (sc.getD (2*i) 0):=by
  rw[show(0+(i:Nat)*2:Int)=((2*i:Nat):Int) by lia,e0]
  exact qF (by rw[Ô,Ã];rfl)
 have g1:ph (sc.map V.int) (0+(i:Nat)*2+1)\.int (sc.getD (2*i+1) 0):=by
  rw[show(0+(i:Nat)*2+1:Int)=((2*i+1:Nat):Int) by lia,e1]
  exact qF (by rw[Ô,Ã];rfl)
 generalize sc.getD (2*i) 0=c0 at g0 q;generalize sc.getD (2*i+1) 0=c1 at g1 q;refine gB (λ j σ H'=>H' d\.Η ob (.dK (bY Key.inl ps))/\Ext H0 H'/\H' e\.dK (bY Key.inl (xV c0 c1 a (b-a) (ps.take j) []))/\∃ o5 o6 o7,σ = xW l ca d (some (.int (0+(i:Nat)*2))) (some (.ref e)) o5 o6 o7) ⟨fz.1,x1,by rw[fz.2 e (λ z=>NO z.symm)];exact he,_,_,_,rfl⟩ (λ i σ H' pv=>pv.1) ?_ ?_
 ·rintro j σ H' kx vv hj ⟨hf,x',Ρ,o5,o6,o7,rfl⟩ pr;obtain⟨p,hp,rfl⟩:∃ p,ps[j]?\p/\kx=.int p.1:=by
   rcases pr with⟨Ý,k,e,hk,rfl⟩ | ⟨_,_,_,e,_⟩
   ·cases e;unfold bY at hk;rw[Ô] at hk;obtain⟨p,hp,e2⟩:=Û.mp hk;cases e2;exact⟨p,hp,rfl⟩
   ·cases e
  have pm:=ß hp;have eA:=xr (c0:=c0) (c1:=c1) (a:=a) (b:=b-a) hp;have oA:=qO (c0:=c0) (c1:=c1) (a:=a) (b:=b-a) a1 ad (ps.take j) (λ q hq=>ok.pos q (ħ hq)) nX;have lA:=n4 (c0:=c0) (c1:=c1) (a:=a) (b:=b-a) (ps.take j) [];rw[ĕ,ļ] at lA;generalize xV c0 c1 a (b-a) (ps.take j) []=acc at Ρ eA oA lA;obtain⟨v,m⟩:=p;have gv:a9 (bY Key.inl ps) (.inl v)\.int (m:Nat):=fY (p:=(Key.inl v,V.int (m:Nat))) (by rw[kK];exact qL ok.nd) (ë.mpr ⟨_,pm,rfl⟩)
  refine D6 a1 ab b7 (x' _ _ hl) (x' _ _ hc) g0 g1 hf Ρ oA ad gv (ok.pos _ pm) NO λ H5 o6 o7 k5 PH=>?_;exact⟨k5 _ _ hf NO,λ z o h=>k5 _ _ (x' _ _ h) (ap h M7),by rw[eA];exact PH,_,_,_,rfl⟩
 ·rintro σ H' ⟨hf,x',Ρ,o5,o6,o7,rfl⟩;rw[show bV (.dK (bY Key.inl ps))=ps.length from eB,ä] at Ρ;exact q H' _ _ _ x' Ρ
theorem FO (F:Ļ K "_law_pair_counts" "_law_pair_counts" En f fd) (mn:mg "len" = none) (mr:mg "range" = none):ð P w K mg base az 1 f fd ["_law_scores","_law_coin_here"] yN:=by
 refine cj F TC λ cdv A outer s H vs Q E hr h=>?_;refine Â λ gg=>?_;obtain⟨l,ca,sc,n,a,b,rfl,hl,hc,ln,ok,a1,ab,b7,q⟩:=h;obtain⟨Oz⟩:=Cu mn mr hr (f:=f) (cdv:=cdv) (A:=A) (outer:=outer) (s:=s) (H:=H) (E:=E) (P:=P) (w:=w) (base:=base);have Xi:(n:Int)<=10:=ok.2.1;refine gg ?_;refine⟨_,Oz,?_⟩;refine aE (te:=wI [(tC (.int 0),tC (.int 1))]) (i:=2) λ d hd=>⟨bz,[(.inl 0,.int 1)],rfl,by show 1<=15;decide,?_⟩
 have x1:Ext H (ak (ak H d (.dK [])) d (.dK (fq [] [(.inl 0,.int 1)]))):=aZ _ (Ext.new hd) hd;have g1:ak (ak H d (.dK [])) d (.dK (fq [] [(.inl 0,.int 1)])) d\.dK (bY Key.inl (uU sc a b 0)):=bz;generalize ak (ak H d (.dK [])) d (.dK (fq [] [(.inl 0,.int 1)]))=H1 at x1 g1;show aO (Ft K) (cH (af 2)) _ (xW l ca d none none none none none) H1;refine⟨_,rfl,l,_,rfl,.inl (Ğ.of (x1 _ _ hl)),0,_,rfl,⟨av,ad,by rw[Ç];lia⟩,?_⟩
 rw[show(((((sc.map V.int).length:Nat):Int)-0+1)/2).toNat=n by rw[Ç];lia]
 refine rO (lo:=0) (c:=2) (n:=n) (λ i σ H'=>Ext H H'/\∃ d o3 o4 o5 o6 o7,σ = xW l ca d o3 o4 o5 o6 o7/\H d=none/\H' d\.dK (bY Key.inl (uU sc a b i))) ⟨x1,d,_,_,_,_,_,rfl,hd,g1⟩ ?_ ?_
 ·rintro i σ H' hi ⟨x',d,o3,o4,o5,o6,o7,rfl,u_,OB⟩;have I:=nB ok sc a1 ab (j:=i) ad;refine aE (te:=eG) (i:=4) λ e he=>?_;show aO (CK K) (bQ (af 4) (aJ 2)) _ (xW l ca d (some (.int (0+(i:Nat)*2))) (some (.ref e)) o5 o6 o7) (ak H' e (.dK []));obtain⟨H2,x2,g2,eU⟩:=eD he (.dK []);rw[eU];have M7:=x'.back he;have l4:(uU sc a b i).length<=2^20:=È I.len (by rw[show 4=2^2 from rfl,<- Nat.pow_mul];exact â av ad)
  refine E1 ad I.ok l4 a1 ab b7 hl hc (x'.trans x2) u_ M7 (x2 _ _ OB) g2 (λ z=>by rw[<- z,OB] at he;cases he) λ H3 o5 o6 o7 x3 Qz=>?_
  exact⟨_,rfl,x3,e,_,_,_,_,_,rfl,M7,Qz⟩
 ·rintro σ H' ⟨x',d,o3,o4,o5,o6,o7,rfl,u_,OB⟩;exact⟨_,rfl,q d H' x' u_ OB⟩
end
theorem wK {X:Cx}{body:List Stmt}{t:TS}{D:bH}{σ:St}{H:Hp}(h:Bx (ο X body t))(r:Bx (t D σ H)):∃ t,ο X body t/\t D σ H:=⟨t,h.h,r.h⟩
section
variable {P:Program}{w:World}{K:Frag}{mg:bD}{base:Heap}{C:Nat->Addr}{CN CS f f0 f1 f2 a1 a2 a3 a4 a5 a6:Addr}{fd e0 e1 e2 d1 d2 d3 d4 d5 d6:FuncData}
abbrev yr:Stmt:=bT 81
abbrev Ie:List Str:=["_law_purse_here","_law_way","_law_folk","_law_outcomes","_law_scores","_law_by_wins","_law_coin_here","_law_ones","_law_far","_law_counts"]
theorem D_:ag Ie ["_law_purse_here"] (aa yr):=aL
abbrev Iz:Scope:=gR [("_law_k",.local),("_law_take",.globalImplicit),("_law_purse_here",.free)]
abbrev BI:Scope:=gR [("_law_one",.cell),("sum",.globalImplicit),("_law_outcomes",.free)]
abbrev IT:Scope:=gR [("_law_other",.local),("_law_stands",.globalImplicit),("_law_one",.free)]
abbrev J3:Scope:=gR [("_law_at",.local)]
theorem DT:((["_law_k"]:List Str)++(["_law_purse_here"]:List Str)).Nodup:=aF
theorem Km:((["_law_one"]:List Str)++(["_law_outcomes"]:List Str)).Nodup:=aF
theorem JI:((["_law_other"]:List Str)++(["_law_one"]:List Str)).Nodup:=aF
theorem GO:((["_law_at"]:List Str)++([]:List Str)).Nodup:=aF
structure HS (P:Program)(w:World)(K:Frag)(mg:bD)(base:Heap)(a1 a2 a3 a4 a5 a6:Addr)(d1 d2 d3 d4 d5 d6:FuncData):Prop where
 tk:Df P w K mg base az 1 "_law_take" ["_law_purse_here","_law_many"] i7 a1 d1
 cn:Df P w K mg base az 2 "_law_coin" ["_law_purse_here"] um a2 d2
 sn:Df P w K mg base az 1 "_law_stands" ["_law_one","_law_other"] zb a3 d3
 sc:Df P w K mg base az 1 "_law_split_counts" ["_law_scores","_law_ones"] yv a4 d4
 cc:Df P w K mg base az 1 "_law_coin_counts" ["_law_scores","_law_coin_here","_law_far"] yO a5 d5
 pc:Df P w K mg base az 1 "_law_pair_counts" ["_law_scores","_law_coin_here"] yN a6 d6
 mr:mg "range" = none
 ms:mg "sum" = none
 mm:mg "min" = none
def Lp (a b:TE):TE:=bR (dQ λ i j=>.bl (decide (i>j))) a b
def uu:TE:=iP (aw (wk (kc 1 (tC (.int 3))) (tC (.int 1))) (aw (Lp (kc 1 (tC (.int 4))) (tC (.int 0))) aS))
def ld (m c:Int):TE:=wk (kc 1 (tC (.int m))) (tC (.int c))
def ue (te:TE):TE:=iu (sF (aw (af 2) aS)) 1 [0] (aJ 0) te
def G4 (K:Frag):TE:=jw (gY K) (aw (iu (cY K (af 1)) 1 [0] (aJ 0) (cV zb [] E0 (aw (af 1) (aw (af 0) aS)))) aS)
def zC (K:Frag):TE:=iu (cY K (af 3)) 1 [3] (aJ 0) (G4 K)
def yh (a b:TE):TE:=bR (rI B9 λ i j=>.int (i*2^j.toNat)) a b
def Cs (K:Frag)(c:Int):TE:=jw (gY K) (aw (iu (qv (aw (tC (.int 0)) (aw (af 2) (aw (tC (.int 2)) aS)))) 1 [] (aJ 0) (yh (tC (.int c)) (af 0))) aS)
def GA:TT:=Fy (vz (tB (af 5))) (fH (bR (dQ λ i j=>.bl (decide (i<j))) (jw (λ xs H Q=>∃ i j,xs=[.int i,.int j]/\Q (.int (if j<i then j else i)) H) (aw (af 7) (aw (wk (af 2) (af 7)) aS))) (tC (.int 3))))
def wa (a b c:TE):TS:=cH (iZ (aw a (aw (af 4) (aw (af 3) (aw (af 5) (aw b (aw c aS)))))))
def wg (C:Nat->Addr)(CN:Addr):TS:=cE (fH (bR uW (af 1) (tC (.int 0)))) (aO (bQ (kc 0 (cR (af 2) (tC (.int 1)))) (aJ 7)) (aO (cE GA (bQ (ue (ld 199 99)) (aJ 4)) br)
 (wa (gV (C 0) (p8 C CN) [] E0 (aw (af 2) (aw (af 7) aS))) (cV yv [] E0 (aw (af 4) (aw (af 7) aS))) (wk (yh (tC (.int 1)) (af 7)) (tC (.int 1)))))) br
def za (K:Frag)(C:Nat->Addr)(CN CS:Addr):TS:=cE (fH (bR uW (af 1) (tC (.int 1)))) (aO (bQ (cR (tC (.int 1)) (kc 0 (af 2))) (aJ 8)) (aO (bQ (cV yO [] E0 (aw (af 4) (aw (af 6) (aw (af 8) aS)))) (aJ 9))
 (wa (gV (C 2) (sL C CN CS) [] E0 (aw (af 2) (aw (af 6) (aw (af 8) aS)))) (af 9) (Cs K 1)))) br
def Ab (K:Frag)(C:Nat->Addr)(CN CS:Addr):TS:=aO (bQ (cV yN [] E0 (aw (af 4) (aw (af 6) aS))) (aJ 9)) (wa (gV (C 1) (rQ C CN CS) [] E0 (aw (bR (rI Gn λ i j=>.int (i/j)) (af 2) (tC (.int 2))) (aw (af 6) aS))) (af 9) (Cs K 2))
def Gm:TS:=cE (fH (bR uW (af 1) (tC (.int 2)))) (bQ (cR (tC (.int 14)) (zk (tC (.int 2)) (kc 0 (tC (.int 4))))) (aJ 2)) br
def yV (K:Frag)(C:Nat->Addr)(CN CS:Addr):TS:=aO (bQ (bR uW (kc 0 (tC (.int 2))) (tC (.int 1))) (aJ 5)) (aO (cE (tB (af 5)) (bQ (zC K) (aJ 4)) br) (aO (bQ (cV um [] E0 (aw (af 0) aS)) (aJ 6)) (aO (wg C CN) (aO (za K C CN CS) (Ab K C CN CS)))))
def LM (K:Frag)(C:Nat->Addr)(CN CS:Addr):TS:=aO (bQ (kc 0 (tC (.int 3))) (aJ 1)) (aO (bQ (cR (tC (.int 13)) (kc 0 (tC (.int 8)))) (aJ 2)) (aO Gm (aO (bQ (ue uu) (aJ 3)) (aO (bQ (ue (ld 7 3)) (aJ 4)) (yV K C CN CS)))))
section
variable {cdv:Value}{A:Around}{outer:List Env}{s:Shared}{H:Hp}{E:XK}
theorem qz:cJ (b9 az P w K mg base Ie "_law_drawn" (aa yr) f cdv A outer s H E).K' Iz [("_law_purse_here",s.heap.objs.size+1)] ["_law_k"] ["_law_purse_here"] [0] :=
 dk (M:=["_law_purse_here"]) (L:=[(".0",.local),("_law_k",.local),("_law_take",.globalImplicit),("_law_purse_here",.cell)]) rfl rfl aF aF aF rfl rfl rfl aF aF rfl rfl rfl
theorem wF {X:Cx}:cJ X J3 [] ["_law_at"] [] []:=rK (L:=[(".0",.local),("_law_at",.local)]) rfl rfl aF aF aF rfl aF aF
theorem CJ:dX (b9 az P w K mg base Ie "_law_drawn" (aa yr) f cdv A outer s H E).K' BI [("_law_outcomes",s.heap.objs.size+2)] (some "_law_one") ["_law_one"] ["_law_outcomes"] [3]:=by
 refine⟨rfl,rfl,λ C=>rfl,aF,λ x h=>(by cases h;exact Í.mpr rfl),λ z c h=>?_,λ z h=>?_,aF,λ k z h=>?_,rfl⟩
 ·obtain⟨rfl,rfl⟩:=pj h;rfl
 ·have h:List.lookup z [((".0" : Str),NameKind.local),(("_law_one" : Str),NameKind.cell),(("sum" : Str),NameKind.globalImplicit),(("_law_outcomes" : Str),NameKind.cell)]\.cell\/List.lookup z [((".0" : Str),NameKind.local),(("_law_one" : Str),NameKind.cell),(("sum" : Str),NameKind.globalImplicit),(("_law_outcomes" : Str),NameKind.cell)]\.free:=h;have all:∀ y ∈ [((".0" : Str),NameKind.local),(("_law_one" : Str),NameKind.cell),(("sum" : Str),NameKind.globalImplicit),(("_law_outcomes" : Str),NameKind.cell)],(y.2=.cell\/y.2=.free)->y.1 = "_law_one" \/ y.1 = "_law_outcomes" := aF;have e:z = "_law_one" \/ z = "_law_outcomes" := by
   rcases h with h | h
   ·exact all _ (ô h) (.inl rfl)
   ·exact all _ (ô h) (.inr rfl)
  rcases e with rfl | rfl
  ·exact .inl rfl
  ·exact .inr ⟨_,fj⟩
 ·match k,h with
  | 0,h =>
   have h:some ("_law_outcomes" : Str)\z:=h;cases h;exact⟨3,rfl,rfl,.inr (.inl rfl),by show(aa yr).names.lookup ("_law_outcomes" : Str)≠some NameKind.local;decide +kernel,.inl rfl⟩
  | k+1,h=>simp at h
theorem Bz {X:Cx}{C1:Addr}{fp:List Addr}{cl:List (Str × Addr)}(hk:X.env.scope.kind=.function):cJ (au X BI cl (some "_law_one") ((["_law_one"]:List Str)++(["_law_outcomes"]:List Str)) s H C1 fp) IT [("_law_one",C1+1)] ["_law_other"] ["_law_one"] [0] :=
 yc (L:=[(".0",.local),("_law_other",.local),("_law_stands",.globalImplicit),("_law_one",.cell)]) rfl rfl aF aF aF fj rfl aF aF rfl (.inr (.inl rfl))
  (by show(relabel BI X.env).names.lookup ("_law_one" : Str)≠some NameKind.local;exact λ h=>nomatch (show some NameKind.cell\NameKind.local from h)) (.inl rfl)
def jG (i:Nat):Stmt:=((aH yr)[i]?).getD (.Pass default)
abbrev jF (P:Program)(w:World)(K:Frag)(mg:bD)(base:Heap)(f:Addr)(cdv:Value)(A:Around)(outer:List Env)(s:Shared)(H:Hp)(E:XK):Cx:=(b9 az P w K mg base Ie "_law_drawn" (aa yr) f cdv A outer s H E).K'
section
variable (D:HS P w K mg base a1 a2 a3 a4 a5 a6 d1 d2 d3 d4 d5 d6)(L:Jx P w K mg base C CN CS f0 f1 f2 e0 e1 e2)(hr:rE 7 "_law_drawn" yr A s f cdv)
include D hr
theorem J5:Bx (PS (jF P w K mg base f cdv A outer s H E) (jG 0) (bQ (kc 0 (tC (.int 3))) (aJ 1))):=by
 have Ń:Ă 1 _:=hr.mono av;exact⟨cB (i:=1) D_.nd rfl (Or.inl rfl) (fX D.tk.G Ń rfl D.tk.m D.tk.kp D.tk.b .nil aj (ae (pv 0) (ae aB aq)))⟩
theorem Jr:Bx (PS (jF P w K mg base f cdv A outer s H E) (jG 1) (bQ (cR (tC (.int 13)) (kc 0 (tC (.int 8)))) (aJ 2))):=by
 have Ń:Ă 1 _:=hr.mono av;exact⟨cB (i:=2) D_.nd rfl (Or.inl rfl) (ah aP aB (fX D.tk.G Ń rfl D.tk.m D.tk.kp D.tk.b .nil aj (ae (pv 0) (ae aB aq))))⟩
theorem IX:Bx (PS (jF P w K mg base f cdv A outer s H E) (jG 2) Gm):=by
 have Ń:Ă 1 _:=hr.mono av;exact⟨aT (ay iO (pv 1) aB (ax _)) (aW (cB (i:=2) D_.nd rfl (Or.inl rfl) (ah aP aB (ah cD aB (fX D.tk.G Ń rfl D.tk.m D.tk.kp D.tk.b .nil aj (ae (pv 0) (ae aB aq))))))) eM⟩
theorem IZ:Bx (PS (jF P w K mg base f cdv A outer s H E) (jG 3) (bQ (ue uu) (aJ 3))):=by
 have Ń:Ă 1 _:=hr.mono av;exact⟨cB (i:=3) D_.nd rfl (Or.inr rfl) (eC (te:=uu) (g:=aJ 0) rfl qz (dB rfl D.mr (ae (pv 2) aq)) (λ s H C fp=>by exact bK (i:=0) DT rfl (.inl rfl)) (λ s H C fp=>by exact aI (ae (ah bJ (fX D.tk.G Ń rfl D.tk.m D.tk.kp D.tk.b .nil aj (ae (pv 1) (ae aB aq))) aB) (ae (cv gc (fX D.tk.G Ń rfl D.tk.m D.tk.kp D.tk.b .nil aj (ae (pv 1) (ae aB aq))) aB (ax _)) aq))))⟩
theorem JJ:Bx (PS (jF P w K mg base f cdv A outer s H E) (jG 4) (bQ (ue (ld 7 3)) (aJ 4))):=by
 have Ń:Ă 1 _:=hr.mono av;exact⟨rA (iy:=4) (te:=ld 7 3) (g:=aJ 0) rfl qz (dB rfl D.mr (ae (pv 2) aq)) (λ s H C fp=>by exact bK (i:=0) DT rfl (.inl rfl)) (λ s H C fp=>by exact ah bJ (fX D.tk.G Ń rfl D.tk.m D.tk.kp D.tk.b .nil aj (ae (pv 1) (ae aB aq))) aB) D_.nd rfl (Or.inl rfl) rfl⟩
theorem JV:Bx (PS (jF P w K mg base f cdv A outer s H E) (jG 5) (bQ (bR uW (kc 0 (tC (.int 2))) (tC (.int 1))) (aJ 5))):=by
 have Ń:Ă 1 _:=hr.mono av;exact⟨cB (i:=5) D_.nd rfl (Or.inl rfl) (cv iO (fX D.tk.G Ń rfl D.tk.m D.tk.kp D.tk.b .nil aj (ae (pv 0) (ae aB aq))) aB (ax _))⟩
theorem JP:Bx (PS (jF P w K mg base f cdv A outer s H E) (jG 6) (cE (tB (af 5)) (bQ (zC K) (aJ 4)) br)):=by
 have Ń:Ă 1 _:=hr.mono av;exact⟨aT (bO (pv 5)) (aW (rA (iy:=4) (te:=G4 K) (g:=aJ 0) rfl CJ (bE (pv 3)) (λ s H C fp=>by exact bK (i:=0) Km rfl (.inr rfl)) (λ s H C fp=>by
  exact ao (bX rfl) rfl D.ms ă (ae (eC (te:=cV zb [] E0 (aw (af 1) (aw (af 0) aS))) (g:=aJ 0) rfl (Bz rfl) (bE (pv 1)) (λ s H C fp=>by exact bK (i:=0) JI rfl (.inl rfl)) (λ s H C fp=>by
   exact fX D.sn.G Ń rfl D.sn.m D.sn.kp D.sn.b .nil aj (ae (pv 1) (ae (pv 0) aq)))) aq)) D_.nd rfl (Or.inl rfl) rfl)) eM⟩
theorem Jp:Bx (PS (jF P w K mg base f cdv A outer s H E) (jG 7) (bQ (cV um [] E0 (aw (af 0) aS)) (aJ 6))):=by
 have O6:Ă 2 _:=hr.mono av;exact⟨cB (i:=6) D_.nd rfl (Or.inl rfl) (fX D.cn.G O6 rfl D.cn.m D.cn.kp D.cn.b .nil aj (ae (pv 0) aq))⟩
include L
theorem KC:Bx (PS (jF P w K mg base f cdv A outer s H E) (jG 8) (wg C CN)):=by
 have Ń:Ă 1 _:=hr.mono av;have Uz:Ă 5 _:=hr.mono av;exact tK ⟨ay iO (pv 1) aB (ax _)⟩ (da ⟨cB (i:=7) D_.nd rfl (Or.inl rfl) (fX D.tk.G Ń rfl D.tk.m D.tk.kp D.tk.b .nil aj (ae (pv 0) (ae (ah aP (pv 2) aB) aq)))⟩
  (da (tK ⟨PW.pt (Es (cA (bO (pv 5))) (yQ (ay kY (ao (mh rfl) rfl D.mm PyProof.Rows.boot_min (ae (pv 7) (ae (ah bJ (pv 2) (pv 7)) aq))) aB (ax _))))⟩ (bI ⟨rA (iy:=4) (te:=ld 199 99) (g:=aJ 0) rfl qz (dB rfl D.mr (ae (pv 2) aq)) (λ s H C fp=>by exact bK (i:=0) DT rfl (.inl rfl)) (λ s H C fp=>by exact ah bJ (fX D.tk.G Ń rfl D.tk.m D.tk.kp D.tk.b .nil aj (ae (pv 1) (ae aB aq))) aB) D_.nd rfl (Or.inl rfl) rfl⟩) jL)
  (bI (kh (np (lb ⟨n8 L.k0 L.g0 Uz rfl L.m0 L.b0 .nil jB (ae (pv 2) (ae (pv 7) aq))⟩ (lb ⟨pv 4⟩ (lb ⟨pv 3⟩ (lb ⟨pv 5⟩ (lb ⟨fX D.sc.G Ń rfl D.sc.m D.sc.kp D.sc.b .nil aj (ae (pv 4) (ae (pv 7) aq))⟩ (lb ⟨ah bJ (ah nn aB (pv 7)) aB⟩ iM))))))))))) jL
theorem KB:Bx (PS (jF P w K mg base f cdv A outer s H E) (jG 9) (za K C CN CS)):=by
 have Ń:Ă 1 _:=hr.mono av;exact tK ⟨ay iO (pv 1) aB (ax _)⟩ (da ⟨cB (i:=8) D_.nd rfl (Or.inl rfl) (ah aP aB (fX D.tk.G Ń rfl D.tk.m D.tk.kp D.tk.b .nil aj (ae (pv 0) (ae (pv 2) aq))))⟩
  (da ⟨cB (i:=9) D_.nd rfl (Or.inl rfl) (fX D.cc.G Ń rfl D.cc.m D.cc.kp D.cc.b .nil aj (ae (pv 4) (ae (pv 6) (ae (pv 8) aq))))⟩
  (bI (kh (np (lb ⟨n8 L.k2 L.g2 hr rfl L.m2 L.b2 .nil jB (ae (pv 2) (ae (pv 6) (ae (pv 8) aq)))⟩ (lb ⟨pv 4⟩ (lb ⟨pv 3⟩ (lb ⟨pv 5⟩ (lb ⟨pv 9⟩ (lb ⟨ao (bX rfl) rfl D.ms ă (ae (eC (te:=yh (tC (.int 1)) (af 0)) (g:=aJ 0) rfl wF (hV rfl D.mr (ae aB (ae (pv 2) (ae aB aq)))) (λ s H C fp=>by exact bK (i:=0) GO rfl (.inl rfl)) (λ s H C fp=>by exact ah nn aB (pv 0))) aq)⟩ iM))))))))))) jL
theorem IQ:Bx (ο (jF P w K mg base f cdv A outer s H E) [jG 10,jG 11] (Ab K C CN CS)):=by
 have Ń:Ă 1 _:=hr.mono av;exact da ⟨cB (i:=9) D_.nd rfl (Or.inl rfl) (fX D.pc.G Ń rfl D.pc.m D.pc.kp D.pc.b .nil aj (ae (pv 4) (ae (pv 6) aq)))⟩
  (bI (kh (np (lb ⟨n8 L.k1 L.g1 hr rfl L.m1 L.b1 .nil jB (ae (ah n5 (pv 2) aB) (ae (pv 6) aq))⟩ (lb ⟨pv 4⟩ (lb ⟨pv 3⟩ (lb ⟨pv 5⟩ (lb ⟨pv 9⟩ (lb ⟨ao (bX rfl) rfl D.ms ă (ae (eC (te:=yh (tC (.int 2)) (af 0)) (g:=aJ 0) rfl wF (hV rfl D.mr (ae aB (ae (pv 2) (ae aB aq)))) (λ s H C fp=>by exact bK (i:=0) GO rfl (.inl rfl)) (λ s H C fp=>by exact ah nn aB (pv 0))) aq)⟩ iM)))))))))
theorem Ca:Bx (ο (jF P w K mg base f cdv A outer s H E) (aH yr) (LM K C CN CS)) :=
 da (J5 D hr) (da (Jr D hr) (da (IX D hr) (da (IZ D hr) (da (JJ D hr) (da (JV D hr) (da (JP D hr) (da (Jp D hr) (da (KC D L hr) (da (KB D L hr) (IQ D L hr))))))))))
end
end
end
def Rl.share (t:Rl)(dl:Int):Nat × Nat:=gT t dl t.ö.toNat 0 t.begin (1,1)
section
variable {P:Program}{w:World}{K:Frag}{mg:bD}{base:Heap}{C:Nat->Addr}{CR f a1 a2 a3 a4 n0 n1:Addr}{fd d1 d2 d3 d4:FuncData}
abbrev Il:Stmt:=bT 44
abbrev L5:List Str:=["rule","dealing","whole","state","at","share"]
theorem TL:ag L5 ["rule","dealing"] (aa Il):=aL
def Gq (K:Frag)(C:Nat->Addr):Sp:=λ vs H Q _=>∃(v:V)(d:Int)(t:Rl),vs=[v,.int d]/\Ru C H t v/\t.ok/\0<=d/\d<2^t.ö.toNat/\∀ r H',Ext H H'->PL K H' r (t.share d).1 (t.share d).2->Q r H'
theorem Fw (F:Ļ K "dealing_share" "dealing_share" Il f fd) (M:Ms P w K mg base C) (T:HY K mg n0 n1) (A1:Df P w K mg base az 3 "need_hands" ["thing","folk"] uZ a1 d1) (A2:Df P w K mg base az 8 "step_to" ["rule","state","at","hand"] (FD K C) a2 d2) (A3:Df P w K mg base az 1 "hand_of" ["dealing","at"] wB a3 d3) (A4:Df P w K mg base az 2 "times_share" ["one","other"] (At K) a4 d4) (mr:mg "range" = none):ð P w K mg base az 9 f fd ["rule","dealing"] (Gq K C):=by
 refine cj F TL λ cdv A outer s H vs Q E hr h=>?_;refine Â λ gg=>?_;obtain⟨v,d,t,rfl,ru,ok,d0,Rw,q⟩:=h;have nd:=TL.nd;have Ń:Ă 1 _:=hr.mono av;have O6:Ă 2 _:=hr.mono av;have PB:Ă 3 _:=hr.mono av;have hu:(A.deeper (PyProof.Rows.envOfC "dealing_share" (aa Il) s.heap.objs.size f cdv)).units<cLine:=hr.ML;refine gg ?_;refine⟨_,bA (aG (cg A1 PB aj (ae (pv 1) (ae (dA (pv 0) M.ö Ń aj) aq))))
  (bA (cB (i:=2) nd rfl (Or.inl rfl) (be (v:=.ref n1) rfl T.m1 rfl))
  (bA (cB (i:=3) nd rfl (Or.inl rfl) (dA (pv 0) M.begin Ń aj))
  (bA (bC ò rfl (dB rfl mr (ae (dA (pv 0) M.ö Ń aj) aq)) (bK (i:=4) nd rfl (Or.inl rfl))
   (bA (hI (cg A2 hr aj (ae (pv 0) (ae (pv 3) (ae (pv 4) (ae (cg A3 Ń aj (ae (pv 1) (ae (pv 4) aq))) aq))))) (bq rfl (cL (bK (i:=5) nd rfl (Or.inl rfl)) (cL (bK (i:=3) nd rfl (Or.inl rfl)) aR))))
   (bA (aT (ay (wY hu) (pv 5) (be (v:=.ref n0) rfl T.m0 rfl) (ax _)) (aW (cq (be (v:=.ref n0) rfl T.m0 rfl))) eM)
   (aW (cB (i:=2) nd rfl (Or.inl rfl) (cg A4 O6 aj (ae (pv 2) (ae (pv 5) aq))))))))
  (aW (cq (pv 2)))))),?_⟩
 have fk:=Rl.Ķ ok;obtain⟨n,en⟩:∃ n:Nat,t.ö =(n:Int):=⟨t.ö.toNat,ad⟩;have XJ:t.ö.toNat=n:=ad;rw[XJ] at Rw;refine⟨_,rfl,eR (t:=t) aF ru (λ R r=>⟨_,rfl,r⟩) ⟨v,t,rfl,ru,?_⟩⟩;rw[en];refine⟨d,n,rfl,ad,d0,Rw,?_⟩;show dH (uV C) "begin" (λ _=>ir C) E0 (af 0) aS [some v,some (.int d),some (.ref n1),none,none,none] H _;refine eR (t:=t) aF ru (λ R r=>⟨_,rfl,r⟩) ⟨v,t,H,rfl,Ext.refl _,ru,λ b rb=>?_⟩;show dH (uV C) "folk" (λ _=>jV C) E0 (af 0) aS [some v,some (.int d),some (.ref n1),some b,none,none] H _;refine eR (t:=t) aF ru (λ R r=>⟨_,rfl,r⟩) ⟨v,t,rfl,ru,?_⟩;rw[en];refine⟨(n:Int),rfl,ad,ad,?_⟩;rw[Ü];have ZY:t.share d=gT t d n 0 t.begin (1,1):=by unfold Rl.share;rw[XJ]
 refine jf (lo:=0) (n:=n) (λ i σ H'=>Ext H H'/\∃(wv st:V)(sd:PyData)(p:Nat × Nat)(o4 o5:Option V),σ=[some v,some (.int d),some wv,some st,o4,o5]/\PL K H' wv p.1 p.2/\MX p i/\İ H' st sd/\(i<n->t.J_ (i:Nat) sd)/\t.share d=gT t d (n-i) i sd p) ⟨Ext.refl _,.ref n1,b,t.begin,(1,1),none,none,rfl,⟨n1,rfl,.inr T.t1⟩,MX.one,rb,λ h=>Rl.Pj ok ad,ZY⟩ ?_ ?_
 ·rintro i σ H' hi ⟨x',wv,st,sd,p,o4,o5,rfl,hw,so,rs,vv,sh⟩;have U8:=ru.ext x';have ei:(0:Int)+(i:Int)=(i:Int):=Int.zero_add _;show aO _ _ _ [some v,some (.int d),some wv,some st,some (.int (0+(i:Int))),o5] H';rw[ei];obtain⟨m,em⟩:∃ m,n-i=m+1:=⟨n-i-1,ad⟩;have em':n-(i+1)=m:=ad;rw[em] at sh;refine⟨_,rfl,_,rfl,_,rfl,_,rfl,_,rfl,d,i,rfl,?_⟩;have vi:=vv hi;refine⟨v,st,(i:Int),d/2^i%2,t,sd,rfl,U8,ok,ad,ad,vi,rs,λ m' sv nv H1 x1 hm to=>?_⟩;refine⟨m',_,rfl,Ĭ.of hm,rfl,_,_,rfl,_,_,rfl,rfl,?_⟩;have gd:=(Rl.Œ ok (x:=(i:Int)) ad ad vi).1;cases es:dq (t.steps sd (i:Nat)) (d/2^i%2) with
  | none =>
   rw[es] at to;obtain⟨r,rfl,hq⟩:=to;refine⟨_,rfl,r,n0,_,_,rfl,rfl,hq,.inr T.t0,rfl,rfl,_,rfl,?_⟩;show if(jH [.int (0:Nat),.int (1:Nat)] [.int (0:Nat),.int (1:Nat)])=true then _ else _
   rw[AR];refine fU (q (.ref n0) H1 (x'.trans x1) ?_);rw[sh];unfold gT;rw[es];exact⟨n0,rfl,.inr T.t0⟩
  | some s' =>
   rw[es] at to;obtain⟨⟨r,rfl,hq⟩,rn⟩:=to;obtain⟨g,vn⟩:=gd s' (kI es).1;have g1:=g.t1;have g2:=g.tb;have g3:=g.MV;refine⟨_,rfl,r,n0,_,_,rfl,rfl,hq,.inr T.t0,rfl,rfl,_,rfl,?_⟩;show if(jH [.int (s'.t:Nat),.int (s'.b:Nat)] [.int (0:Nat),.int (1:Nat)])=true then _ else _
   rw[AR,show decide (s'.t=0)=false from Ò ad,MK];obtain⟨OI,ew,hw'⟩:=hw;subst ew;have hw1:=My.Ĭ.ext hw' x1;have sz:=so.sz ad;have b1:=so.t1;have b2:=so.tb;refine dW ⟨_,rfl,_,rfl,OI,r,p.1,p.2,s'.t,s'.b,rfl,hw1,hq,sz.1,sz.2,eO ad,eO g3,ad,ad,λ l hl=>?_⟩;have x2:=Ext.new (o:=.tup [.int (p.1/Nat.gcd p.1 s'.b*(s'.t/Nat.gcd s'.t p.2):Nat),.int (p.2/Nat.gcd s'.t p.2*(s'.b/Nat.gcd p.1 s'.b):Nat)]) hl;refine⟨(x'.trans x1).trans x2,.ref l,nv,s'.next,xK p s'.t s'.b,_,_,rfl,⟨l,rfl,Ĭ.of bz⟩,so.mul g,rn.mono x2,λ h=>?_,?_⟩
   ·have:=vn ad;rw[show((i+1:Nat):Int)=(i:Int)+1 by lia]
    exact this
   ·rw[sh,em']
    conv=>lhs;unfold gT
    rw[es]
 ·rintro σ H' ⟨x',wv,st,sd,p,o4,o5,rfl,hw,so,rs,vv,sh⟩;refine⟨_,rfl,q wv H' x' ?_⟩;rw[sh,RI];exact hw
end
theorem p7 {q:R0}(ok:q.ok){d:Int}(st:Nat->PyData)(h:∀ x:Nat,(x:Int)<q.ö->q.J_ (x:Nat) (st x)/\∃ s,dq (q.steps (st x) (x:Nat)) (d/2^x%2)\s/\s.next=st (x+1)):∀(n x:Nat)(p:Nat × Nat),((x+n:Nat):Int)=q.ö->MX p x->(gT (.one q) d n x (st x) p).1≠0
 | 0,x,p,_,so=>by have:=so.t1;show p.1≠0;lia
 | n+1,x,p,e,so=>by
  obtain⟨v,s,es,en⟩:=h x ad;unfold gT;rw[show dq ((Rl.one q).steps (st x) (x:Nat)) (d/2^x%2)\s from es];show(gT (.one q) d n (x+1) s.next _).1≠0;rw[en];exact p7 ok st h n (x+1) _ (by rw[<- e];congr 1;lia) (so.mul ((R0.Œ ok ad ad v).1 s (kI es).1).1)
theorem jl {q:R0}(ok:q.ok){d:Int}(st:Nat->PyData)(b:q.begin=st 0)(h:∀ x:Nat,(x:Int)<q.ö->q.J_ (x:Nat) (st x)/\∃ s,dq (q.steps (st x) (x:Nat)) (d/2^x%2)\s/\s.next=st (x+1)):((Rl.one q).share d).1≠0:=by
 have f:=R0.Ķ ok;show(gT (.one q) d q.ö.toNat 0 q.begin (1,1)).1≠0;rw[b];exact p7 ok st h _ 0 (1,1) ad MX.one
def Hr (K:Nat):Int:=2^K-1
def uw (c n:Nat):Int:=((List.range ((n+1)/2)).map λ i=>(2:Int)^(2*i+c)).sum
theorem gL:∀ n:Fin 21,(∀ x:Fin 20,Hr n.val/2^x.val%2=if x.val<n.val then 1 else 0)/\(∀ K:Fin (n.val+1),0<=Hr K.val/\Hr K.val<2^n.val)/\(∀ x:Fin n.val,uw 0 n.val/2^x.val%2=if x.val%2=0 then 1 else 0)/\0<=uw 0 n.val/\uw 0 n.val<2^n.val/\(n.val%2=0->(∀ x:Fin n.val,uw 1 n.val/2^x.val%2=if x.val%2=0 then 0 else 1)/\0<=uw 1 n.val/\uw 1 n.val<2^n.val):=aF
theorem oG {n K:Nat}(ok:(R0.split n K).ok):((Rl.one (.split n K)).share (Hr K)).1≠0:=by
 obtain⟨o1,o2,o3,o4⟩:=id ok;refine jl ok (λ x=>.int (K-x:Nat)) rfl λ x hx=>?_;have hx:(x:Int)<n:=hx;have b:=(gL ⟨K,ad⟩).1 ⟨x,ad⟩;replace b:Hr K/2^x%2=if x<K then 1 else 0:=b
 rw[b];refine⟨⟨(K-x:Nat),rfl,ad,ad⟩,?_⟩;simp only[R0.steps];by_cases c:x<K
 ·rw[Ë c,Ë (show(0:Int)<((K-x:Nat):Int) by lia)]
  refine⟨⟨1,aM (K-x) ((n:Int)-x).toNat,ar (K-x) ((n:Int)-x).toNat,.int (((K-x:Nat):Int)-1)⟩,?_,?_⟩
  ·split <;> rfl
  ·show PyData.int _=.int _
   congr 1
   lia
 ·rw[Æ c,Ë (show((K-x:Nat):Int)<(n:Int)-x by lia)]
  refine⟨_,rfl,?_⟩;show PyData.int _=.int _
  congr 1
  lia
theorem pS {n:Nat}{a b f:Int}(ok:(R0.û n a b f).ok):((Rl.one (.û n a b f)).share (uw 0 n)).1≠0:=by
 obtain⟨o1,o2,o3,o4,o5⟩:=id ok;refine jl ok (λ x=>.int (x%2:Nat)) rfl λ x hx=>?_;have hx:(x:Int)<n:=hx;have bb:=(gL ⟨n,ad⟩).2.2.1 ⟨x,by show x<n;lia⟩
 replace bb:uw 0 n/2^x%2=if x%2=0 then 1 else 0:=bb
 rw[bb];refine⟨⟨(x%2:Nat),rfl,ad,ad⟩,?_⟩;simp only[R0.steps];rcases PV x with e | e
 ·rw[e,Ë rfl,Æ (show ¬ f<=((0:Nat):Int) by lia),Æ (show ¬ ((0:Nat):Int) <= -f by lia)]
  refine⟨_,rfl,?_⟩;rw[show(x+1)%2=1 by lia]
  rfl
 ·rw[e,show(x+1)%2=0 by lia,Æ (show ¬ 1=0 by decide),Æ (show ¬ ((1:Nat):Int) <= -f by lia)]
  split <;> exact⟨_,rfl,rfl⟩
theorem pR {n:Nat}{a b:Int}(ok:(R0.pairs n a b).ok):((Rl.one (.pairs n a b)).share (uw 1 (2*n))).1≠0:=by
 obtain⟨o1,o2,o3⟩:=id ok;refine jl ok (λ x=>if x%2=0 then .none else .int 0) rfl λ x hx=>?_
 have hx:(x:Int)<2*n:=hx;have bb:=((gL ⟨2*n,ad⟩).2.2.2.2.2 (by show 2*n%2=0;lia)).1 ⟨x,by show x<2*n;lia⟩
 replace bb:uw 1 (2*n)/2^x%2=if x%2=0 then 0 else 1:=bb
 rw[bb];rcases PV x with e | e
 ·rw[Ë e,Ë e,Æ (show ¬ (x+1)%2=0 by lia)]
  exact⟨.inl ⟨ad,rfl⟩,_,rfl,rfl⟩
 ·rw[Æ (show ¬ x%2=0 by lia),Æ (show ¬ x%2=0 by lia),Ë (show(x+1)%2=0 by lia)]
  exact⟨.inr ⟨ad,.inl rfl⟩,_,rfl,rfl⟩
theorem PF.up {p D:Addr}{H H':Hp}{o:HO}(f:PF p H H')(hD:H D=none)(ne:D≠p):PF p H (ak H' D o):=⟨yH f.k hD,by
 obtain⟨l,s,a,e,r⟩:=f.b;exact⟨l,s,a,by rw[ai ne.symm];exact e,r⟩⟩
theorem Ď.ne {H:Hp}{p D:Addr}(b:Ď H p)(hD:H D=none):D≠p:=λ z=>by
 obtain⟨o,e⟩:=b.there;rw[z,e] at hD;cases hD
theorem MF.up {H:Hp}{xs ys:List V}{os:List (Int × Bool)}{D:Addr}{o:HO}(h:MF H xs os)(hD:H D\.lst ys):MF (ak H D o) xs os:=⟨h.1,λ i x o' h1 h2=>by
 obtain⟨b,e,hb⟩:=h.2 i x o' h1 h2;exact⟨b,e,by rw[ai (λ z=>by rw[z,hD] at hb;cases hb)];exact hb⟩⟩
theorem MF.kp {H H':Hp}{xs:List V}{os:List (Int × Bool)}{p:Addr}(h:MF H xs os)(f:PF p H H')(b:Ď H p):MF H' xs os:=⟨h.1,λ i x o' h1 h2=>by
 obtain⟨a,e,ha⟩:=h.2 i x o' h1 h2;refine⟨a,e,f.k _ _ ha λ z=>?_⟩;obtain⟨_,_,_,g,_⟩:=b.ex;rw[z,g] at ha;cases ha⟩
theorem MF.snoc {H:Hp}{xs:List V}{os:List (Int × Bool)}{x:V}{o:Int × Bool}(h:MF H xs os)(r:Ll H x o):MF H (xs ++ [x]) (os ++ [o]):=⟨by rw[Õ,Õ,h.1];rfl,λ i y u h1 h2=>by
 rcases ñ i xs.length with lt | ge
 ·rw[ĉ lt] at h1;rw[ĉ (by rw[<- h.1];exact lt)] at h2
  exact h.2 i y u h1 h2
 ·have l2:=h.1;rw[Ą ge] at h1;rw[Ą ad,<- l2] at h2;rcases NE (i-xs.length) with z | z
  ·rw[z] at h1 h2;cases h1;cases h2;exact r
  ·rw[List.getElem?_eq_none (show([x]:List V).length<=_ from z)] at h1;cases h1⟩
abbrev oY (p:Addr)(w:Int)(n:Nat)(o3 o4 o5 o6 o7 o8 o9:Option V):St:=[some (.ref p),some (.int w),some (.int (n:Nat)),o3,o4,o5,o6,o7,o8,o9]
theorem DF {H:Hp}{Q:VK}{p:Addr}{w:Int}{n:Nat}{o3 o4 o5 o6 o7 o8 o9:Option V}(E_:n<=20)(bx:Ď H p)(q:∀ D xs os H',PF p H H'->H' D\.lst xs->MF H' xs os->os.length=n->(∀ o∈os,-1<=o.1/\o.1<=1)->Q (.ref D) H'):ue uu (oY p w n o3 o4 o5 o6 o7 o8 o9) H Q:=by
 refine⟨_,rfl,(n:Nat),rfl,ad,ad,λ D hD=>?_⟩;have nD:=bx.ne hD;refine lU (n:=((n:Nat):Int).toNat) (λ i ys H'=>PF p H H'/\∃ os,MF H' ys os/\os.length=i/\∀ o∈os,-1<=o.1/\o.1<=1) (by rw[è];lia) ⟨PF.of bx (Ext.new hD),[],⟨rfl,λ i x o h=>by simp at h⟩,rfl,λ _ h=>nomatch h⟩ ?_ ?_
 ·rintro i ys H' hi ly Ŕ ⟨f,os,oc,lo,bd⟩ P7 ų R kk
  match P7,ų with
  | [o0],_ =>
   refine⟨⟨[_],rfl,rfl⟩,?_⟩;refine b8 (i:=1) (p:=p) rfl f.b (λ R r=>r) av av λ r H1 r0 r1 f1=>⟨_,_,rfl,rfl,?_⟩;refine b8 (i:=1) (p:=p) rfl f1.b (λ R r=>r) av av λ u H2 u0 u1 f2=>⟨_,_,rfl,rfl,er,λ t ht=>?_⟩;obtain⟨H3,x3,g3,eU⟩:=eD ht (.tup [.int (r-1),.bl (decide (u>0))]);rw[eU];have f3:=(f1.trans f2).ext x3;have XE:=f3.k _ _ Ŕ nD;refine kk _ _ XE ⟨(f.trans f3).up hD nD,os ++ [(r-1,decide (u>0))],((oc.kp f3 f.b).snoc ⟨t,rfl,g3⟩).up XE,by rw[Õ,lo];rfl,λ o ho=>?_⟩
   rcases é.mp ho with ho | ho
   ·exact bd o ho
   ·cases Í.mp ho;exact⟨by show -1<=r-1;lia,by show r-1<=1;lia⟩
 ·rintro ys H' ly Ŕ ⟨f,os,oc,lo,bd⟩;exact q D ys os H' f Ŕ oc (by simpa using lo) bd
theorem u9 {H:Hp}{Q:VK}{p:Addr}{w m c:Int}{n:Nat}{o3 o4 o5 o6 o7 o8 o9:Option V}(E_:n<=20)(bx:Ď H p)(m0:0<m)(m2:m<=200)(q:∀ D (sc:List Int) H',PF p H H'->H D=none->H' D\.lst (sc.map V.int)->sc.length=n->(∀ x∈sc,-c<=x/\x<m-c)->Q (.ref D) H'):ue (ld m c) (oY p w n o3 o4 o5 o6 o7 o8 o9) H Q:=by
 refine⟨_,rfl,(n:Nat),rfl,ad,ad,λ D hD=>?_⟩;have nD:=bx.ne hD;refine lU (n:=((n:Nat):Int).toNat) (λ i ys H'=>PF p H H'/\∃ sc:List Int,ys=sc.map V.int/\sc.length=i/\∀ x∈sc,-c<=x/\x<m-c) (by rw[è];lia) ⟨PF.of bx (Ext.new hD),[],rfl,rfl,λ _ h=>nomatch h⟩ ?_ ?_
 ·rintro i ys H' hi ly Ŕ ⟨f,sc,rfl,ls,bd⟩ P7 ų R kk
  match P7,ų with
  | [o0],_ =>
   refine⟨⟨[_],rfl,rfl⟩,?_⟩;refine b8 (i:=1) (p:=p) rfl f.b (λ R r=>r) m0 ad λ r H1 r0 r1 f1=>⟨_,_,rfl,rfl,?_⟩;have hD1:=f1.k _ _ Ŕ nD;refine kk _ _ hD1 ⟨(f.trans f1).up hD nD,sc ++ [r-c],by rw[Ø];rfl,by rw[Õ,ls];rfl,λ x hx=>?_⟩
   rcases é.mp hx with hx | hx
   ·exact bd x hx
   ·cases Í.mp hx
    lia
 ·rintro ys H' ly Ŕ ⟨f,sc,rfl,ls,bd⟩;exact q D sc H' f hD Ŕ (by simpa using ls) bd
section
variable {K:Frag}
theorem E7 {H:Hp}{Q:VK}{p b:Addr}{w:Int}{n:Nat}{xs:List V}{os:List (Int × Bool)}{o4 o5 o6 o7 o8 o9:Option V}(hb:H b\.lst xs)(oc:MF H xs os)(NS:os.length<=20)(q:Ae H (bU os) Q):zC K (oY p w n (some (.ref b)) o4 o5 o6 o7 o8 o9) H Q:=by
 obtain⟨lx,oc⟩:=oc;have sz:=è;refine⟨_,rfl,b,rfl,⟨_,Ğ.of hb⟩,λ D hD=>?_⟩;refine eY (a:=b) (xs:=xs) (λ i ys H'=>Ext H H'/\ys=((bU os).take i).map V.int) ad ⟨Ext.new hD,rfl⟩ (λ i ys H' pv=>Ğ.of (pv.1 _ _ hb)) ?_ ?_
 ·rintro i x ys H' ex ly v_ ⟨x',ey⟩ P7 ų R k;obtain⟨o0,rfl⟩:∃ o0,P7=[o0]:=by
   match P7,ų with
   | [o0],_=>exact⟨o0,rfl⟩
  have li:i<os.length:=by rw[<- lx];exact(Ú.mp ex).1
  obtain⟨t,rfl,ht⟩:=oc i x _ ex (Ã li);refine⟨⟨[some (.ref t)],rfl,rfl⟩,?_⟩;refine⟨_,rfl,b,rfl,⟨_,Ğ.of (x' _ _ hb)⟩,λ D2 Qm=>?_⟩;have nD:D2≠D:=λ e=>by rw[e,v_] at Qm;cases Qm
  refine eY (a:=b) (xs:=xs) (λ j zs H2=>Ext H' H2/\zs=((os.map λ p=>lh os[i] p).take j).map V.int) ad ⟨Ext.new Qm,rfl⟩ (λ j zs H2 pv=>Ğ.of (pv.1 _ _ (x' _ _ hb))) ?_ ?_
  ·rintro j y zs H2 UN lz NZ ⟨x2,ez⟩ P6 R8 R2 k2;obtain⟨o0,rfl⟩:∃ o0,P6=[o0]:=by
    match P6,R8 with
    | [o0],_=>exact⟨o0,rfl⟩
   have lj:j<os.length:=by rw[<- lx];exact(Ú.mp UN).1
   obtain⟨t2,rfl,Ux⟩:=oc j y _ UN (Ã lj);have J':=x'.trans x2;refine⟨⟨[some (.ref t2)],rfl,rfl⟩,_,rfl,_,rfl,t,t2,os[i],os[j],rfl,J' _ _ ht,J' _ _ Ux,?_⟩;refine k2 _ H2 NZ ⟨aZ _ x2 Qm,?_⟩;have es:(os.map λ p=>lh os[i] p)[j]?\lh os[i] os[j]:=by
    rw[Ô,Ã lj];rfl
   rw[aC es,Ø,<- ez];rfl
  ·rintro zs H2 lz NZ ⟨x2,ez⟩;have l2:(os.map λ p=>lh os[i] p).length=xs.length:=by rw[Ç,lx]
   rw[<- l2,ä] at ez;rw[ez] at NZ;refine⟨D2,_,rfl,Ğ.of NZ,?_⟩;refine k _ H2 (x2 _ _ v_) ⟨aZ _ (x'.trans x2) hD,?_⟩;have es:(bU os)[i]?\(os.map λ p=>lh os[i] p).sum:=by
    unfold bU;rw[Ô,Ã li];rfl
   rw[aC es,Ø,<- ey];rfl
 ·rintro ys H' ly v_ ⟨x',ey⟩;have l2:(bU os).length=xs.length:=by unfold bU;rw[Ç,lx]
  rw[<- l2,ä] at ey;rw[ey] at v_;exact q D H' x' hD v_
theorem vK {H:Hp}{Q:VK}{p:Addr}{w:Int}{c n:Nat}{o3 o4 o5 o6 o7 o8 o9:Option V}(E_:n<=20)(q:∀ H',Ext H H'->Q (.int (uw c n)) H')(hc:c<=1):Cs K (2^c) (oY p w n o3 o4 o5 o6 o7 o8 o9) H Q:=by
 refine⟨_,rfl,0,(n:Nat),rfl,⟨av,ad,ad⟩,λ D hD=>?_⟩;have en:(((n:Nat):Int)-0+1)/2=(((n+1)/2:Nat):Int):=ad;rw[en,Ü];refine u6 (n:=(n+1)/2) (λ i ys H'=>Ext H H'/\ys=((List.range i).map λ i=>(2:Int)^(2*i+c)).map V.int) (by rw[è];lia) ⟨Ext.new hD,rfl⟩ (λ i ys H' hi _=>hi) (λ ys H' _=>Å _) ?_ ?_
 ·rintro i y ys H' H3 hi ⟨rfl,rfl⟩ ly Ŕ ⟨x',rfl⟩ os ų R kk
  match os,ų with
  | [p0],_ =>
   refine⟨⟨[_],rfl,rfl⟩,_,rfl,_,_,rfl,rfl,⟨ad,ad,?_⟩,kk _ _ Ŕ ⟨aZ _ x' hD,?_⟩⟩
   ·match c,hc with
    | 0,_=>decide
    | 1,_=>decide
   ·rw[η,Ø,Ø]
    congr 1
    show [V.int _]=[V.int ((2:Int)^(2*i+c))];rw[show(0+(i:Int)*2).toNat=2*i by lia,Int.pow_add,Int.mul_comm]
 ·rintro ys H' ly Ŕ ⟨x',rfl⟩;exact⟨D,_,rfl,Ğ.of Ŕ,q H' x'⟩
end
def Wi (MW:Addr)(H:Hp)(v:V):Prop:=∃ a dx m,v=.ref a/\H a\.ins MW dx [("mark",.ref m)]
theorem Wi.ext {MW:Addr}{H H':Hp}{v:V}(h:Wi MW H v)(x:Ext H H'):Wi MW H' v:=by
 obtain⟨a,dx,m,e,ha⟩:=h;exact⟨a,dx,m,e,x _ _ ha⟩
theorem MF.ext' {H H':Hp}{xs:List V}{os:List (Int × Bool)}(h:MF H xs os)(x:Ext H H'):MF H' xs os:=⟨h.1,λ i y o h1 h2=>by
 obtain⟨p,e,hp⟩:=h.2 i y o h1 h2;exact⟨p,e,x _ _ hp⟩⟩
section
variable {P:Program}{w:World}{K:Frag}{mg:bD}{base:Heap}{C:Nat->Addr}{MW CO CF S g f a1:Addr}{fd d1 gd:FuncData}
theorem il {m:Str}{sp:Addr->Sp}{E:XK}{ta:TE}{t:TA}{σ:St}{H:Hp}{Q:VK}{v:V}(hm:m ≠ "mark") (h:Wi MW H v) (ht:∀ R:VK,R v H->ta σ H R) (q:t σ H λ vs H2=>sp MW (v::vs) H2 Q E):dH (λ c=>c=MW) m sp E ta t σ H Q:=by
 obtain⟨a,dx,m',rfl,ha⟩:=h;refine ht _ ⟨a,MW,dx,_,rfl,rfl,ha,?_,q⟩;show List.lookup m [(("mark" : Str),V.ref m')]=none;rw[Į,ü.mpr hm];rfl
abbrev Dr:Stmt:=bn (bT 67) 4
theorem G5:ag ["self","rule","outcomes"] ["self","rule","outcomes"] (aa Dr):=aL
def yA:Sp:=λ vs H Q _=>∃ v r o,vs=[v,r,o]/\Q .Ę H
theorem DP (F:Ļ K "need_fit" "Measure.need_fit" Dr f fd):ð P w K mg base az 1 f fd ["self","rule","outcomes"] yA:=by
 refine cj F G5 λ cdv A outer s H vs Q E hr h=>?_;obtain⟨v,r,o,rfl,q⟩:=h;exact⟨_,aW An,q⟩
abbrev DN:Stmt:=bn (bT 67) 5
theorem GD:ag ["self","rule","outcomes"] ["self","rule","outcomes"] (aa DN):=aL
def sf (MW:Addr):Sp:=λ vs H Q _=>∃ v r a xs os,vs=[v,r,.ref a]/\Wi MW H v/\H a\.lst xs/\MF H xs os/\(∀ o∈os,-99<=o.1/\o.1<=99)/\os.length<=20/\Ae H (bU os) Q
theorem Er (F:Ļ K "scored" "Measure.scored" DN f fd) (M:c6 P w K mg base az 6 "among" ["self","outcomes"] (λ c=>c=MW) (λ _=>xP K)):ð P w K mg base az 7 f fd ["self","rule","outcomes"] (sf MW):=by
 refine cj F GD λ cdv A outer s H vs Q E hr h=>?_;obtain⟨v,r,a,xs,os,rfl,me,ha,oc,bd,lo,q⟩:=h;refine⟨_,aW (cq (eV (pv 0) M hr aj (ae (pv 2) aq))),?_⟩;exact il aF me (λ R r=>⟨_,rfl,r⟩) ⟨_,rfl,v,a,xs,os,rfl,ha,oc,bd,lo,q⟩
abbrev EK:Stmt:=bn (bT 67) 3
theorem HL:ag ["self","rule","outcomes"] ["self","rule","outcomes"] (aa EK):=aL
def wq (C:Nat->Addr)(MW:Addr):Sp:=λ vs H Q _=>∃ v r t a xs os,vs=[v,r,.ref a]/\Wi MW H v/\Ru C H t r/\H a\.lst xs/\MF H xs os/\(∀ o∈os,-99<=o.1/\o.1<=99)/\os.length<=20/\t.ö =(os.length:Nat)/\Ae H (bU os) Q
theorem Et (F:Ļ K "scores" "Measure.scores" EK f fd) (Mr:Ms P w K mg base C) (A1:Df P w K mg base (eX P w) 6 "need_outcomes_of" ["thing","folk"] (AK K CF CO) a1 d1) (M1:c6 P w K mg base az 1 "need_fit" ["self","rule","outcomes"] (λ c=>c=MW) (λ _=>yA)) (M2:c6 P w K mg base az 7 "scored" ["self","rule","outcomes"] (λ c=>c=MW) (λ _=>sf MW)) :
  ð P w K mg base az 8 f fd ["self","rule","outcomes"] (wq C MW):=by
 refine cj F HL λ cdv A outer s H vs Q E hr h=>?_;refine Â λ gg=>?_;obtain⟨v,r,t,a,xs,os,rfl,me,ru,ha,oc,bd,lo,fk,q1⟩:=h;have Ń:Ă 1 _:=hr.mono av;have hr6:Ă 6 _:=hr.mono av;refine gg ?_;refine⟨_,bA (aG (cg A1 hr6 jB (ae (pv 2) (ae (dA (pv 1) Mr.ö Ń aj) aq))))
  (bA (aG (eV (pv 0) M1 Ń aj (ae (pv 1) (ae (pv 2) aq))))
  (aW (cq (eV (pv 0) M2 hr aj (ae (pv 1) (ae (pv 2) aq)))))),?_⟩
 have lx:=oc.1;have ot:vh K H xs (os.map λ _=>true):=by
  refine⟨by rw[Ç];exact lx,λ i x hx=>?_⟩
  have li:i<os.length:=by rw[<- lx];exact(Ú.mp hx).1
  obtain⟨b,rfl,hb⟩:=oc.2 i x _ hx (Ã li);have z:=bd os[i] (Ň li);refine⟨true,by rw[Ô,Ã li];rfl,.inl ⟨.tuple [.int os[i].1,.bool os[i].2],.tup hb (.cons (.int _) (.cons (.bl _) .nil)),?_⟩⟩
  show true=((decide ((-99:Int)<=os[i].1)&&decide (os[i].1<=99))&&true);rw[Ê z.1,Ê z.2];rfl
 refine⟨_,rfl,eR (t:=t) aF ru (λ R r=>⟨_,rfl,r⟩) ⟨r,t,rfl,ru,?_⟩⟩;refine⟨.ref a,t.ö,rfl,.inr ⟨a,xs,_,rfl,ha,ot,λ _ H1 x1=>?_,λ i fi=>?_⟩⟩
 ·rw[Ë (by rw[fk,lx])]
  show dH (λ c=>c=MW) "need_fit" (λ _=>yA) _ (af 0) (aw (af 1) (aw (af 2) aS)) [some v,some r,some (.ref a)] H1 _;refine il aF (me.ext x1) (λ R r=>⟨_,rfl,r⟩) ⟨_,rfl,_,rfl,v,r,.ref a,rfl,?_⟩;show dH (λ c=>c=MW) "scored" (λ _=>sf MW) _ (af 0) (aw (af 1) (aw (af 2) aS)) [some v,some r,some (.ref a)] H1 _;refine il aF (me.ext x1) (λ R r=>⟨_,rfl,r⟩) ⟨_,rfl,_,rfl,v,r,a,xs,os,rfl,me.ext x1,x1 _ _ ha,oc.ext' x1,bd,lo,λ l H3 x3 nl hl=>q1 l H3 (x1.trans x3) (by cases e:H l with | none=>rfl | some o=>rw[x1 _ _ e] at nl;cases nl) hl⟩
 ·exfalso;have z:=fi.2;rw[Ô] at z;obtain⟨_,_,z⟩:=Û.mp z;cases z
abbrev Da:Stmt:=bn (bT 67) 0
def Aw (MW:Addr):Sp:=λ vs H Q _=>∃ x v dx,vs=[.ref x,v]/\H x\.ins MW dx []/\Q .Ę (ak H x (.ins MW dx [("mark",v)]))
theorem HN:ag ["self","mark"] ["self","mark"] (aa Da):=aL
theorem Ey (Zc:PO K MW)(Zn:ν K MW "mark") (F:Ļ K "__init__" "Measure.__init__" Da f fd):ð P w K mg base az 1 f fd ["self","mark"] (Aw MW):=by
 refine cj F HN λ cdv A outer s H vs Q E hr h=>?_;obtain⟨x,v,dx,rfl,hx,q⟩:=h;exact⟨_,aW (gf (pv 0) (pv 1) rfl),_,rfl,_,rfl,x,_,dx,[],rfl,hx,Zc,Zn,av,q⟩
def tm (MW:Addr):Sp:=λ vs H Q _=>∃ x dx,vs=[.ref x]/\H x\.ins MW dx []/\∀ m H',Kept H H' x->H' x\.ins MW dx [("mark",.ref m)]->Q .Ę H'
abbrev Dw:Stmt:=bn (bT 68) 0
theorem F7:ag ["self"] ["self"] (aa Dw):=aL
theorem Bw (F:Ļ K "__init__" "Wins.__init__" Dw f fd) (Cf:kO K S "__init__" g) (G:ð P w K mg base az 1 g gd ["self","mark"] (Aw MW)) (bG:Binds K gd ["self","mark"] []) (mS:mg "Measure"\.ref S):ð P w K mg base az 2 f fd ["self"] (tm MW):=by
 refine cj F F7 λ cdv A outer s H vs Q E hr h=>?_;obtain⟨x,dx,rfl,hx,q⟩:=h;refine⟨_,aW (aG (ft Cf G hr rfl mS bG .nil aj (ae (pv 0) (ae (aI (ae lY aq)) aq)))),?_⟩;refine⟨_,rfl,er,λ t ht=>?_⟩;have x1:=Ext.new (o:=.tup [.str "wins"]) ht;exact⟨x,_,dx,rfl,x1 _ _ hx,q t _ ((x1.kept x).trans (cz _)) bz⟩
theorem FA {H:Hp}{x dx:Addr}{R:VK}{E:XK}(hx:H x=none)(hd:H dx=none)(ne:dx≠x)(q:∀ H',Ext H H'->Wi MW H' (.ref x)->R .Ę H'):tm MW [.ref x] (ak (ak H dx (.own x)) x (.ins MW dx [])) R E:=by
 have xe:=iI (u:=.own x) (v:=.ins MW dx []) hx hd ne;exact⟨x,dx,rfl,bz,λ m H' kp Po=>q H' (xe.kp hx kp) ⟨x,dx,m,rfl,Po⟩⟩
end
theorem v5 (o p:Int × Bool):-1<=lh o p/\lh o p<=1:=by
 unfold lh Qu
 (repeat' split) <;> decide
theorem v6 (o:Int × Bool):lh o o=0:=by
 unfold lh Qu;simp
theorem rV {o:Int × Bool}:∀{os:List (Int × Bool)},-(os.length:Int)<=(os.map λ p=>lh o p).sum/\(os.map λ p=>lh o p).sum<=os.length
 | []=>by simp
 | p::os=>by
  have h:=rV (o:=o) (os:=os);have:=v5 o p;rw[É,ĝ,à]
  lia
theorem pA {o:Int × Bool}:∀{os:List (Int × Bool)},o∈os->1-(os.length:Int)<=(os.map λ p=>lh o p).sum/\(os.map λ p=>lh o p).sum<=os.length-1
 | p::os,m=>by
  rw[É,ĝ,à];rcases Ö.mp m with rfl | m
  ·have:=rV (o:=o) (os:=os);rw[v6]
   lia
  ·have h:=pA m;have:=v5 o p
   lia
theorem yC {os:List (Int × Bool)}(h:os.length<=20):Le 19 (bU os):=λ x hx=>by
 unfold bU at hx;obtain⟨o,ho,rfl⟩:=ë.mp hx;have:=pA ho
 lia
theorem Vu.UP {a b:Nat}(h:Vu a b):dE (.tuple [.int (a:Nat),.int (b:Nat)])=true:=by
 obtain⟨h1,h2,h3,h4⟩:=h;show(((decide ((1:Int)<=b)&&(decide ((0:Int)<=a)&&decide ((a:Int)<=b)))&&decide (Nat.gcd (a:Int).toNat (b:Int).toNat=1))&&(decide ((2:Int)<=b)&&decide ((b:Int)<=100)))=true;simp only[Bool.and_eq_true,decide_eq_true_iff,Int.toNat_natCast];exact⟨⟨⟨ad,ad,ad⟩,h4⟩,ad,ad⟩
structure LH (C:Nat->Addr)(H:Hp)(v:V)(a b e:Addr)(t:Rl)(sc:List Int)(os:List (Int × Bool))(cs:List (Int × Nat))(W:Nat)(bw:Bool)(d:Int):Prop where
 ru:Ru C (nD H) t v
 ok:t.ok
 fk:(sc.length:Int)=t.ö
 hs:H a\.lst (sc.map V.int)
 ho:∃ xs,H b\.lst xs/\MF H xs os
 bd:∀ o∈os,-99<=o.1/\o.1<=99
 lo:os.length=sc.length
 hc:H e\.dK (bY Key.inl cs)
 ct:Mt t sc cs W
 Ox:su t sc
 ss:DM sc
 w:W<=10^40
 ln:cs.length<=2^20
 d0:0<=d
 d1:d<2^t.ö.toNat
 sh:(t.share d).1≠0
 N7:bw=true->sc=bU os
def Gx (C:Nat->Addr)(p:Addr)(H:Hp)(Q:VK):Prop:=∀ L r a b e t sc os cs W bw d H',PF p H H'->H' L\.lst [r,.ref a,.ref b,.bl bw,.ref e,.int d]->LH C H' r a b e t sc os cs W bw d->Q (.ref L) H'
theorem Le.VF {B:Int}{sc:List Int}(h:Le B sc)(b:B<=99):DM sc:=λ x hx=>by
 have:=h x hx
 lia
theorem qP {ta tb tc:TE}{De:bH}{σ:St}{H:Hp}(h:ta σ H λ r H1=>aw (af 4) (aw (af 3) (aw (af 5) (aw tb (aw tc aS)))) σ H1 λ vs H2=>(r::vs).length<=sizeLine/\∀ L,H2 L=none->De.rt (.ref L) (ak H2 L (.lst (r::vs)))):wa ta tb tc De σ H:=h
section
variable {P:Program}{w:World}{K:Frag}{mg:bD}{base:Heap}{C:Nat->Addr}{CN CS f f0 f1 f2 a1 a2 a3 a4 a5 a6:Addr}{fd e0 e1 e2 d1 d2 d3 d4 d5 d6:FuncData}
def yR (C:Nat->Addr):Sp:=λ vs H Q _=>∃ p,vs=[.ref p]/\Ď H p/\Gx C p H Q
theorem BG {De:bH}{u:TS}{H0 H:Hp}{p a b ca:Addr}{n:Nat}{sc:List Int}{os:List (Int × Bool)}{xs:List V}{bw:Bool}{o7 o8 o9:Option V}(n1:1<=n)(E_:n<=20)(f0:PF p H0 H)(b0:Ď H0 p)(ha:H a\.lst (sc.map V.int))(hb:H b\.lst xs)(oc:MF H xs os)(bd:∀ o∈os,-1<=o.1/\o.1<=1)(lo:os.length=n)(ln:sc.length=n)(le:Le 19 sc)(N7:bw=true->sc=bU os)(q:Gx C p H0 De.rt) :
  aO (wg C CN) u De (oY p 0 n (some (.ref b)) (some (.ref a)) (some (.bl bw)) (some (.ref ca)) o7 o8 o9) H:=by
 refine⟨_,rfl,rfl,_,rfl,?_⟩;rw[Ê rfl];refine fU ?_;refine aE (te:=kc 0 (cR (af 2) (tC (.int 1)))) (i:=7) (b8 (p:=p) (m:=(n:Int)+1) rfl f0.b (λ R r=>⟨_,rfl,_,_,rfl,rfl,r⟩) ad ad λ r H1 r0 r1 f1=>?_);obtain⟨k,rfl⟩:∃ k:Nat,r=k:=⟨r.toNat,ad⟩;show aO (cE GA (bQ (ue (ld 199 99)) (aJ 4)) br) _ _ (oY p 0 n (some (.ref b)) (some (.ref a)) (some (.bl bw)) (some (.ref ca)) (some (.int (k:Nat))) o8 o9) H1;have nb:∀{z:Addr}{zs:List V},H z\.lst zs->z≠p:=λ h e=>by
  obtain⟨_,_,_,g,_⟩:=f0.b.ex;rw[e,g] at h;cases h
 have Vn:=f1.k _ _ ha (nb ha);have Vm:=f1.k _ _ hb (nb hb);have VH:=oc.kp f1 f0.b;have ok:(R0.split n k).ok:=⟨ad,ad,ad,ad⟩;have fin:∀(a:Addr)(sc:List Int)(H2:Hp),PF p H0 H2->H2 a\.lst (sc.map V.int)->H2 b\.lst xs->MF H2 xs os->sc.length=n->(Le 19 sc\/Le 99 sc/\min k (n-k)<3)->(bw=true->sc=bU os) ->
   wa (gV (C 0) (p8 C CN) [] E0 (aw (af 2) (aw (af 7) aS))) (cV yv [] E0 (aw (af 4) (aw (af 7) aS))) (wk (yh (tC (.int 1)) (af 7)) (tC (.int 1))) De (oY p 0 n (some (.ref b)) (some (.ref a)) (some (.bl bw)) (some (.ref ca)) (some (.int (k:Nat))) o8 o9) H2:=by
  intro a sc H2 f2 UK SX oc2 ls le N7;subst ls;refine qP (vD (λ R r=>⟨_,rfl,_,rfl,r⟩) ok λ x H3 x3 ru=>⟨_,rfl,_,rfl,_,rfl,_,rfl,_,rfl,a,sc,k,rfl,x3 _ _ UK,ok,λ e H4 x4 M7 he=>⟨_,rfl,_,_,rfl,rfl,⟨ad,ad,av⟩,_,_,rfl,rfl,er,λ L hL=>?_⟩⟩);obtain⟨c1,_⟩:=yf ok;have I:=j9 ok (Å _);have QN:=x3.trans x4;obtain⟨H5,x5,g5,eU⟩:=eD hL (.lst [.ref x,.ref a,.ref b,.bl bw,.ref e,.int (1*2^((k:Nat):Int).toNat-1)])
  dsimp only
  rw[eU];rw[Ü,Int.one_mul] at g5;have Qt:=QN.trans x5;have db:=(gL ⟨sc.length,ad⟩).2.1 ⟨k,by show k<sc.length+1;lia⟩
  refine q L _ a b e _ sc os _ _ bw _ H5 (f2.ext Qt) g5 ⟨(ru.ext (x4.trans x5)).ĸ (xt H5),ok,rfl,Qt _ _ UK,⟨xs,Qt _ _ SX,oc2.ext' Qt⟩,λ o ho=>?_,lo,x5 _ _ he,c1,uk ok rfl le,?_,?_,?_,db.1,?_,oG ok,N7⟩
  ·have:=bd o ho
   lia
  ·rcases le with le | le
   ·exact le.VF av
   ·exact le.1.VF av
  ·exact È (rC _ _) (È (â av E_) av)
  ·exact È (cW I.pos).2.2 (È I.len (â av E_))
  ·exact db.2
 cases bw with
 | true =>
  refine⟨_,rfl,_,rfl,dW (dW ?_)⟩;exact fin a sc H1 (f0.trans f1) Vn Vm VH ln (.inl le) N7
 | false =>
  refine⟨_,rfl,_,rfl,fU ⟨_,rfl,_,rfl,_,rfl,_,_,rfl,rfl,_,_,rfl,_,_,rfl,rfl,_,rfl,gO (λ c=>?_) (λ c=>?_)⟩⟩
  ·have c:(if(n:Int)-(k:Nat)<(k:Nat) then(n:Int)-(k:Nat) else(k:Nat))<3:=Þ c
   refine u9 E_ f1.b av av λ D Z0 H2 f2 hD Qm l2 le2=>?_;have nb1:∀{z:Addr}{zs:List V},H1 z\.lst zs->z≠p:=λ h e=>by
    obtain⟨_,_,_,g,_⟩:=f1.b.ex;rw[e,g] at h;cases h
   refine fin D Z0 H2 ((f0.trans f1).trans f2) Qm (f2.k _ _ Vm (nb1 Vm)) (VH.kp f2 f1.b) l2 (.inr ⟨λ x hx=>?_,?_⟩) nofun
   ·have:=le2 x hx
    lia
   ·split at c <;> lia
  ·exact fin a sc H1 (f0.trans f1) Vn Vm VH ln (.inl le) nofun
end
section
variable {P:Program}{w:World}{K:Frag}{mg:bD}{base:Heap}{C:Nat->Addr}{CN CS f f0 f1 f2 a1 a2 a3 a4 a5 a6:Addr}{fd e0 e1 e2 d1 d2 d3 d4 d5 d6:FuncData}
structure PN (p:Addr)(H0 H:Hp)(a b ca:Addr)(n:Nat)(sc:List Int)(os:List (Int × Bool))(xs:List V)(bw:Bool)(x y:Nat):Prop where
 n1:1<=n
 E_:n<=20
 f0:PF p H0 H
 b0:Ď H0 p
 ha:H a\.lst (sc.map V.int)
 hb:H b\.lst xs
 oc:MF H xs os
 bd:∀ o∈os,-1<=o.1/\o.1<=1
 lo:os.length=n
 ln:sc.length=n
 le:Le 19 sc
 N7:bw=true->sc=bU os
 Sj:H ca\.tup [.int (x:Nat),.int (y:Nat)]
 cn:Vu x y
section
variable {H0 H:Hp}{p a b ca:Addr}{n x y:Nat}{sc:List Int}{os:List (Int × Bool)}{xs:List V}{bw:Bool}
theorem PN.ne (D:PN p H0 H a b ca n sc os xs bw x y){z:Addr}{o:HO}(h:H z\o)(n:∀ Ý,o ≠ .dK Ý):z≠p:=λ e=>by
 obtain⟨_,_,_,g,_⟩:=D.f0.b.ex;rw[e,g] at h;exact n _ (á h).symm
theorem PN.go (D:PN p H0 H a b ca n sc os xs bw x y){H':Hp}(f:PF p H H'):PN p H0 H' a b ca n sc os xs bw x y :=
 ⟨D.n1,D.E_,D.f0.trans f,D.b0,f.k _ _ D.ha (D.ne D.ha nofun),f.k _ _ D.hb (D.ne D.hb nofun),D.oc.kp f D.f0.b,D.bd,D.lo,D.ln,D.le,D.N7,f.k _ _ D.Sj (D.ne D.Sj nofun),D.cn⟩
theorem PN.W9 (D:PN p H0 H a b ca n sc os xs bw x y):İ H (.ref ca) (.tuple [.int (x:Nat),.int (y:Nat)]):=.tup D.Sj (.cons (.int _) (.cons (.int _) .nil))
theorem PN.fin (D:PN p H0 H a b ca n sc os xs bw x y){Q:VK}{t:Rl}{v:V}{e L:Addr}{cs:List (Int × Nat)}{W:Nat}{d:Int}(q:Gx C p H0 Q)(hL:H L\.lst [v,.ref a,.ref b,.bl bw,.ref e,.int d])(ru:Ru C H t v)(ok:t.ok)(fk:(sc.length:Int)=t.ö)(he:H e\.dK (bY Key.inl cs))(ct:Mt t sc cs W)(Ox:su t sc)(w:W<=10^40)(ln:cs.length<=2^20)(d0:0<=d)(d1:d<2^t.ö.toNat)(sh:(t.share d).1≠0):Q (.ref L) H :=
 q L _ a b e t sc os cs W bw d H D.f0 hL ⟨ru.ĸ (xt H),ok,fk,D.ha,⟨xs,D.hb,D.oc⟩,λ o ho=>by have:=D.bd o ho;lia,D.lo.trans D.ln.symm,he,ct,Ox,D.le.VF av,w,ln,d0,d1,sh,D.N7⟩
theorem wP {b n m:Nat}(hb:b<=7)(hn:n<=m):b^n<=7^m:=È (Nat.pow_le_pow_left hb n) (â av hn)
theorem Ei {De:bH}{u:TS}{o7 o8 o9:Option V}(D:PN p H0 H a b ca n sc os xs bw x y)(q:Gx C p H0 De.rt) :
  aO (za K C CN CS) u De (oY p 1 n (some (.ref b)) (some (.ref a)) (some (.bl bw)) (some (.ref ca)) o7 o8 o9) H:=by
 refine⟨_,rfl,rfl,_,rfl,?_⟩;rw[Ê rfl];refine fU ?_;have n1:=D.n1;have E_:=D.E_;refine aE (te:=cR (tC (.int 1)) (kc 0 (af 2))) (i:=8) (b8 (p:=p) (m:=(n:Int)) rfl D.f0.b (λ R r=>⟨_,rfl,r⟩) ad ad λ r H1 r0 r1 f1=>⟨_,_,rfl,rfl,?_⟩);have D1:=D.go f1;have cn:=D.cn;have hb:=cn.b7;have ok:(R0.û n x y (1+r)).ok:=⟨ad,ad,cn.UP,ad,ad⟩;have ls:=D.ln;subst ls;refine aE (te:=cV yO [] E0 (aw (af 4) (aw (af 6) (aw (af 8) aS)))) (i:=9) ⟨_,rfl,_,rfl,_,rfl,a,ca,sc,x,y,1+r,rfl,D1.ha,D1.Sj,ok,cn.a1,cn.ab,cn.b7,λ e H2 x2 _ he=>?_⟩;have D2:=D1.go (PF.of D1.f0.b x2);refine qP (vy (λ R r=>⟨_,rfl,_,rfl,_,rfl,r⟩) D2.W9 ok λ z H3 x3 ru=>⟨_,rfl,_,rfl,_,rfl,_,rfl,?_⟩);refine vK (c:=0) E_ (λ H4 x4=>⟨er,λ L hL=>?_⟩) av;obtain⟨H5,x5,g5,eU⟩:=eD hL (.lst [.ref z,.ref a,.ref b,.bl bw,.ref e,.int (uw 0 sc.length)]);rw[eU];have Qt:=(x3.trans x4).trans x5;obtain⟨Ly,len,_⟩:=vp ok cn.b7 cn.a1 cn.ab sc (Å _);have db:=(gL ⟨sc.length,ad⟩).2.2;exact(D2.go (PF.of D2.f0.b Qt)).fin q g5 (ru.ext (x4.trans x5)) ok rfl (Qt _ _ he) (AU (wp Ly) ok (č _)) (uj ok rfl D.le) (È (wP cn.b7 E_) av) (È (cW Ly.pos).2.2 len) db.2.1 db.2.2.1 (pS ok)
theorem CV {De:bH}{m:Nat}{o7 o8 o9:Option V}{w:Int}(D:PN p H0 H a b ca (2*m) sc os xs bw x y)(q:Gx C p H0 De.rt) :
  Ab K C CN CS De (oY p w (2*m) (some (.ref b)) (some (.ref a)) (some (.bl bw)) (some (.ref ca)) o7 o8 o9) H:=by
 have n1:=D.n1;have E_:=D.E_;have cn:=D.cn;have ok:(R0.pairs m x y).ok:=⟨ad,ad,cn.UP⟩;refine aE (te:=cV yN [] E0 (aw (af 4) (aw (af 6) aS))) (i:=9) ⟨_,rfl,_,rfl,a,ca,sc,m,x,y,rfl,D.ha,D.Sj,D.ln,ok,cn.a1,cn.ab,cn.b7,λ e H2 x2 _ he=>?_⟩;have D2:=D.go (PF.of D.f0.b x2);have e2:((2*m:Nat):Int)/2=(m:Nat):=ad;refine qP (yn (n:=m) (λ R r=>⟨_,rfl,_,_,rfl,rfl,⟨av,av⟩,_,rfl,by show R [.int (((2*m:Nat):Int)/2),.ref ca] H2;rw[e2];exact r⟩) D2.W9 ok λ z H3 x3 ru=>⟨_,rfl,_,rfl,_,rfl,_,rfl,?_⟩)
 refine vK (c:=1) E_ (λ H4 x4=>⟨er,λ L hL=>?_⟩) av;obtain⟨H5,x5,g5,eU⟩:=eD hL (.lst [.ref z,.ref a,.ref b,.bl bw,.ref e,.int (uw 1 (2*m))]);rw[eU];have Qt:=(x3.trans x4).trans x5;have fk:(sc.length:Int)=2*(m:Nat):=by rw[D.ln];lia
 have I:=nB ok sc cn.a1 cn.ab (Å m);have db:=(gL ⟨2*m,ad⟩).2.2.2.2.2 (by show 2*m%2=0;lia)
 exact(D2.go (PF.of D2.f0.b Qt)).fin q g5 (ru.ext (x4.trans x5)) ok fk (Qt _ _ he) (AU (yy ok cn.a1 cn.ab D.ln) ok (by show(sc.length:Int)<=2*(m:Nat);lia)) (uo ok fk D.le) (È (wP cn.b7 (show m<=20 by lia)) av) (È I.len (È (â av (show m<=10 by lia)) av)) db.2.1 (by show _<(2:Int)^((2:Int)*(m:Nat)).toNat;rw[show((2:Int)*(m:Nat)).toNat=2*m by lia];exact db.2.2) (pR ok)
end
theorem FZ (F:Ļ K "_law_drawn" "_law_drawn" yr f fd) (D:HS P w K mg base a1 a2 a3 a4 a5 a6 d1 d2 d3 d4 d5 d6) (L:Jx P w K mg base C CN CS f0 f1 f2 e0 e1 e2):ð P w K mg base az 8 f fd ["_law_purse_here"] (yR C):=by
 refine cj F D_ λ cdv A outer s H vs Q E hr h=>?_;obtain⟨p,rfl,bx,q⟩:=h;refine wK (Ca D L hr) ⟨?_⟩;refine aE (te:=kc 0 (tC (.int 3))) (i:=1) (b8 (p:=p) rfl bx (λ R r=>r) av av λ wy H1 w0 w1 f1=>?_);refine aE (te:=cR (tC (.int 13)) (kc 0 (tC (.int 8)))) (i:=2) (b8 (p:=p) rfl f1.b (λ R r=>r) av av λ r H2 r0 r1 f2=>⟨_,_,rfl,rfl,?_⟩);have rest:∀(n:Nat)(H3:Hp),13<=n->n<=20->(wy=2->n%2=0)->PF p H H3->aO (bQ (ue uu) (aJ 3)) (aO (bQ (ue (ld 7 3)) (aJ 4)) (yV K C CN CS)) ⟨λ _ H'=>Q .Ę H',Q,λ _ _=>False,λ _ _=>False⟩ (oY p wy n none none none none none none none) H3:=by
  intro n H3 n13 E_ ev f3;refine aE (te:=ue uu) (i:=3) (DF E_ f3.b λ b xs os H4 f4 hb oc lo bd=>?_);show aO (bQ (ue (ld 7 3)) (aJ 4)) (yV K C CN CS) _ (oY p wy n (some (.ref b)) none none none none none none) H4;refine aE (te:=ue (ld 7 3)) (i:=4) (u9 E_ f4.b av av λ a sc H5 f5 ha0 ha ls le=>?_);show yV K C CN CS _ (oY p wy n (some (.ref b)) (some (.ref a)) none none none none none) H5;have SM:∀{H:Hp}{z:Addr}{zs:List V},Ď H p->H z\.lst zs->z≠p:=λ bx h e=>by
   obtain⟨_,_,_,g,_⟩:=bx.ex;rw[e,g] at h;cases h
  have XB:=f5.k _ _ hb (SM f4.b hb);refine aE (te:=bR uW (kc 0 (tC (.int 2))) (tC (.int 1))) (i:=5) (b8 (p:=p) rfl f5.b (λ R r=>r) av av λ r H6 _ _ f6=>⟨rfl,?_⟩);generalize (decide (V.int r=V.int 1))=bw;show aO (cE (tB (af 5)) (bQ (zC K) (aJ 4)) br) _ _ (oY p wy n (some (.ref b)) (some (.ref a)) (some (.bl bw)) none none none none) H6;have f06:=((f3.trans f4).trans f5).trans f6;have WD:=f6.k _ _ XB (SM f5.b XB);have ha6:=f6.k _ _ ha (SM f5.b ha);have W_:=oc.kp (f5.trans f6) f4.b;have tail:∀(a:Addr)(sc:List Int)(H7:Hp),PF p H6 H7->H7 a\.lst (sc.map V.int)->sc.length=n->Le 19 sc->(bw=true->sc=bU os)->aO (bQ (cV um [] E0 (aw (af 0) aS)) (aJ 6)) (aO (wg C CN) (aO (za K C CN CS) (Ab K C CN CS))) ⟨λ _ H'=>Q .Ę H',Q,λ _ _=>False,λ _ _=>False⟩ (oY p wy n (some (.ref b)) (some (.ref a)) (some (.bl bw)) none none none none) H7:=by
   intro a sc H7 f7 XC ls le N7;have XA:=f7.k _ _ WD (SM f6.b WD);refine aE (te:=cV um [] E0 (aw (af 0) aS)) (i:=6) ⟨_,rfl,p,rfl,f7.b,λ ca x y H8 f8 hc0 Sj cn=>?_⟩;show aO (wg C CN) _ _ (oY p wy n (some (.ref b)) (some (.ref a)) (some (.bl bw)) (some (.ref ca)) none none none) H8;have D8:PN p H H8 a b ca n sc os xs bw x y:=⟨ad,E_,(f06.trans f7).trans f8,bx,f8.k _ _ XC (SM f7.b XC),f8.k _ _ XA (SM f7.b XA),W_.kp (f7.trans f8) f6.b,bd,lo,ls,le,N7,Sj,cn⟩;have skip:∀(i:Int)(t u:TS)(σ:St),σ[1]?\some (.int wy)->wy≠i->u ⟨λ _ H'=>Q .Ę H',Q,λ _ _=>False,λ _ _=>False⟩ σ H8->aO (cE (fH (bR uW (af 1) (tC (.int i)))) t br) u ⟨λ _ H'=>Q .Ę H',Q,λ _ _=>False,λ _ _=>False⟩ σ H8:=λ i t u σ s1 ne k=>⟨_,s1,rfl,_,rfl,by rw[Ò (λ e=>ne (V.int.inj e))];exact dW k⟩
   by_cases z0:wy=0
   ·subst z0;exact BG D8.n1 E_ D8.f0 bx D8.ha D8.hb D8.oc bd lo ls le N7 q
   ·refine skip 0 _ _ _ rfl z0 ?_;by_cases z1:wy=1
    ·subst z1;exact Ei D8 q
    ·refine skip 1 _ _ _ rfl z1 ?_;obtain⟨m,rfl⟩:∃ m,n=2*m:=⟨n/2,by have:=ev ad;lia⟩
     exact CV D8 q
  cases bw with
  | false=>exact⟨_,rfl,_,rfl,dW (tail a sc H6 ⟨Kept.refl _ _,f6.b⟩ ha6 ls (λ x hx=>by have:=le x hx;lia) nofun)⟩
  | true =>
   refine⟨_,rfl,_,rfl,fU (E7 WD W_ ad λ l H7 x7 _ hl=>?_)⟩;exact tail l (bU os) H7 (PF.of f6.b x7) hl (by unfold bU;rw[Ç,lo]) (yC ad) λ _=>rfl
 refine⟨_,rfl,rfl,_,rfl,gO (λ c=>?_) (λ c=>?_)⟩
 ·refine b8 (p:=p) rfl f2.b (λ R r=>r) av av λ u H3 u0 u1 f3=>⟨_,_,rfl,rfl,.inl ⟨av,av⟩,_,_,rfl,rfl,?_⟩;obtain⟨k,rfl⟩:∃ k:Nat,u=k:=⟨u.toNat,ad⟩;have:=rest (14+2*k) H3 ad ad (λ _=>by lia) ((f1.trans f2).trans f3)
  rw[show oY p wy (14+2*k) none none none none none none none=[some (.ref p),some (.int wy),some (.int (14+2*(k:Int))),none,none,none,none,none,none,none] by simp] at this
  exact this
 ·obtain⟨k,rfl⟩:∃ k:Nat,r=k:=⟨r.toNat,ad⟩;have:=rest (13+k) H2 ad ad (λ e=>absurd (by rw[e];exact Ê rfl) c) (f1.trans f2)
  rw[show oY p wy (13+k) none none none none none none none=[some (.ref p),some (.int wy),some (.int (13+(k:Int))),none,none,none,none,none,none,none] by simp] at this
  exact this
end
def se (ns:List Int)(vs:List (Int × Nat)):List (Int × Nat):=ns.map λ n=>(n,de vs n)
theorem kQ {H:Hp}{D:Nat}{vs:List (Int × Nat)}(D0:0<D)(Pw:D<=10^40)(le:∀ n,de vs n<=D):∀{Ý:List (Key × V)}{ns:List Int},Paired (Tl H vs D) Ý ns->QE H D Ý (se ns vs)
 | _,_,.nil=>.nil
 | _,_,.cons (b:=n) ⟨e,s⟩ t=>by
  refine .cons ⟨e,?_⟩ (kQ D0 Pw le t);obtain⟨a,ea,ha⟩:=s;exact⟨a,_,_,ea,ha,m_.trans (ρ _ _),tG D0,gD D0,È jS Pw,Ψ (le n)⟩
theorem Co {vs:List (Int × Nat)}{D:Nat}(nd:(vs.map (·.1)).Nodup)(le:dS (λ _=>1) vs<=D)(n:Int):de vs n<=D:=by
 by_cases h:n∈vs.map (·.1)
 ·obtain⟨p,hp,rfl⟩:=ë.mp h;rw[iA nd hp];have:=vA (g:=λ _=>1) hp
  lia
 ·have:de vs n=0:=by
   clear nd le
   induction vs with
   | nil=>rfl
   | cons p r ih =>
    rw[É,Ö,not_or] at h;unfold de;rw[Æ (λ e=>h.1 e.symm)];exact ih h.2
  lia
theorem vC:∀(vs:List (Int × Nat)),(vs.map (·.2)).sum=dS (λ _=>1) vs
 | []=>rfl
 | p::r=>by
  show p.2+(r.map (·.2)).sum=p.2*1+dS (λ _=>1) r;rw[vC r]
  lia
theorem jK (f:Int->Bool):∀(vs:List (Int × Nat)),(du f vs).sum=dS (λ v=>if f v=true then 1 else 0) vs
 | []=>rfl
 | p::r=>by
  have ih:=jK f r;unfold du at ih ⊢;show _=p.2*(if f p.1=true then 1 else 0)+dS _ r
  rw[Ů,<- ih];split
  ·rw[É,ĝ,ť]
  ·rw[Nat.mul_zero,ŋ]
theorem j5 {ns:List Int}{vs:List (Int × Nat)}(pm:ns.Perm (vs.map (·.1)))(nd:(vs.map (·.1)).Nodup):(se ns vs).Perm vs:=by
 have h:=pm.map λ n=>(n,de vs n);rw[ā] at h;have e:vs.map ((λ n=>(n,de vs n)) ∘ λ p=>p.1)=vs:=by
  conv=>rhs;rw[<- List.map_id vs]
  exact ń λ p hp=>by show(p.1,de vs p.1)=p;rw[iA nd hp]
 rw[e] at h;exact h
theorem pL {H:Hp}{Ý:List (Key × V)}{ns:List Int}{vs:List (Int × Nat)}{D:Nat}(T:Told H Ý ns vs D)(ok:Mq vs)(D0:0<D)(Pw:D<=10^40)(le:dS (λ _=>1) vs<=D):QE H D Ý (se ns vs)/\((se ns vs).map (·.1)).Nodup/\((se ns vs).map (·.2)).sum<=D/\(se ns vs).length=vs.length:=by
 have p:=j5 T.pm ok.nd;exact⟨kQ D0 Pw (Co ok.nd le) T.pr,(p.map _).nodup_iff.mpr ok.nd,by rw[(p.map _).sum_nat,vC];exact le,p.length_eq⟩
theorem uF {H:Hp}{Ý:List (Key × V)}{ns:List Int}{vs:List (Int × Nat)}{D:Nat}(T:Told H Ý ns vs D)(ok:Mq vs)(f:Int->Bool):(du f (se ns vs)).sum=dS (λ v=>if f v=true then 1 else 0) vs:=by
 rw[<- jK];exact(((j5 T.pm ok.nd).filter _).map _).sum_nat
section
variable {P:Program}{w:World}{K:Frag}{mg:bD}{base:Heap}{C:Nat->Addr}{n0 n1 f a1:Addr}{fd d1:FuncData}
abbrev Ij:Stmt:=bT 45
theorem Jk:ag ["rule","thing"] ["rule","thing"] (aa Ij):=aL
def FP (C:Nat->Addr):Sp:=λ vs H Q _=>∃(v:V)(d:Int)(t:Rl),vs=[v,.int d]/\Ru C H t v/\t.ok/\0<=d/\d<2^t.ö.toNat/\(t.share d).1≠0/\∀ H',Ext H H'->Q .Ę H'
theorem GF (F:Ļ K "need_dealt" "need_dealt" Ij f fd) (T:HY K mg n0 n1) (A1:Df P w K mg base az 9 "dealing_share" ["rule","dealing"] (Gq K C) a1 d1):ð P w K mg base az 10 f fd ["rule","thing"] (FP C):=by
 refine cj F Jk λ cdv A outer s H vs Q E hr h=>?_;obtain⟨v,d,t,rfl,ru,ok,d0,Rw,ne,q⟩:=h;have hu:(A.deeper (PyProof.Rows.envOfC "need_dealt" (aa Ij) s.heap.objs.size f cdv)).units<cLine:=hr.ML;refine⟨_,aW (aT (ay (wY hu) (fX A1.G (hr.mono av) rfl A1.m A1.kp A1.b .nil aj (ae (pv 0) (ae (pv 1) aq))) (be (v:=.ref n0) rfl T.m0 rfl) (ax _)) (aW c7) eM),?_⟩;refine⟨_,rfl,_,rfl,v,d,t,rfl,ru,ok,d0,Rw,λ r H1 x1 sh=>?_⟩;obtain⟨p,rfl,hp⟩:=sh;refine⟨p,n0,_,_,rfl,rfl,hp,.inr T.t0,rfl,rfl,_,rfl,?_⟩;show if(jH [.int ((t.share d).1:Nat),.int ((t.share d).2:Nat)] [.int (0:Nat),.int (1:Nat)])=true then _ else _
 rw[show jH [.int ((t.share d).1:Nat),.int ((t.share d).2:Nat)] [.int (0:Nat),.int (1:Nat)]=false from ?_]
 ·exact dW (q H1 x1)
 ·show((((t.share d).1:Nat):Int)==((0:Nat):Int)&&_)=false;rw[ü.mpr ad];rfl
end
section
variable {P:Program}{w:World}{K:Frag}{mg:bD}{base:Heap}{C:Nat->Addr}{MW CN f a1 a2 a3 a4 a5:Addr}{fd d1 d2 d3 d4 d5:FuncData}
abbrev Ky:Stmt:=bT 71
abbrev Mb:List Str:=["rule","outcomes","measure","dealing","scores"]
theorem Ti:ag Mb ["rule","outcomes","measure","dealing"] (aa Ky):=aL
def BH (K:Frag)(C:Nat->Addr)(MW:Addr):Sp:=λ vs H Q _=>∃ v a m d t xs os,vs=[v,.ref a,m,.int d]/\Wi MW H m/\Ru C (nD H) t v/\t.ok/\H a\.lst xs/\MF H xs os/\(∀ o∈os,-99<=o.1/\o.1<=99)/\t.ö =(os.length:Nat)/\0<=d/\d<2^t.ö.toNat/\(t.share d).1≠0/\su t (bU os)/\DM (bU os) /\
 ∀ b vs D H',Ext H H'->gZ t (bU os) vs D->Ĭ K H' b [.int (aM (dS (λ v=>if decide (lH d (bU os)<=v)=true then 1 else 0) vs) D:Nat),.int (ar (dS (λ v=>if decide (lH d (bU os)<=v)=true then 1 else 0) vs) D:Nat)]->Q (.ref b) H'
theorem G8 (F:Ļ K "told_share" "told_share" Ky f fd) (M:c6 P w K mg base az 8 "scores" ["self","rule","outcomes"] (λ c=>c=MW) (λ _=>wq C MW)) (A1:Df P w K mg base az 10 "need_dealt" ["rule","thing"] (FP C) a1 d1) (A2:Df P w K mg base az 12 "spread_of" ["rule","scores"] (yI C) a2 d2) (A3:Df P w K mg base az 4 "value_of" ["scores","dealing"] Hz a3 d3) (A4:Df P w K mg base (eX P w) 4 "share_from" ["spread","value"] (nq K CN λ i j=>decide (j<=i)) a4 d4):ð P w K mg base az 13 f fd ["rule","outcomes","measure","dealing"] (BH K C MW):=by
 refine cj F Ti λ cdv A outer s H vs Q E hr h=>?_;refine Â λ gg=>?_;obtain⟨v,a,m,d,t,xs,os,rfl,me,ru,ok,ha,oc,bd,fk,d0,Rw,ne,fw,ss,q⟩:=h;have nd:=Ti.nd;have Sb:Ă 12 _:=hr.mono av;have Wm:Ă 10 _:=hr.mono av;have Uy:Ă 8 _:=hr.mono av;have Xr:Ă 4 _:=hr.mono av;refine gg ?_;refine⟨_,bA (cB (i:=4) nd rfl (Or.inl rfl) (eV (pv 2) M Uy aj (ae (pv 0) (ae (pv 1) aq))))
  (bA (aG (cg A1 Wm aj (ae (pv 0) (ae (pv 3) aq))))
  (aW (cq (cg A4 Xr jB (ae (cg A2 Sb aj (ae (pv 0) (ae (pv 4) aq))) (ae (cg A3 Xr aj (ae (pv 4) (ae (pv 3) aq))) aq)))))),?_⟩
 have SJ:=ru.ext (bP H);have f20:=(Rl.Ķ ok).2;have lw:(bU os).length=os.length:=Ç _;refine il aF me (λ R r=>⟨_,rfl,r⟩) ⟨_,rfl,_,rfl,m,v,t,a,xs,os,rfl,me,SJ,ha,oc,bd,ad,fk,λ l H1 x1 nl hl=>?_⟩;show aO _ _ ⟨λ _ H'=>Q .Ę H',Q,λ _ _=>False,λ _ _=>False⟩ [some v,some (.ref a),some m,some (.int d),some (.ref l)] H1;refine⟨_,rfl,_,rfl,v,d,t,rfl,SJ.ext x1,ok,d0,Rw,ne,λ H2 x2=>?_⟩;have SH:=x1.trans x2;refine⟨_,rfl,_,rfl,v,l,t,bU os,rfl,ru.ext SH.nd,ok,x2 _ _ hl,by rw[lw,fk],fw,ss,λ r H3 Ý ns vs D x3 Xs PB T S l5=>?_⟩
 have U2:=SH.trans x3;refine⟨_,rfl,_,rfl,l,bU os,d,rfl,x3 _ _ (x2 _ _ hl),ad,d0,by rw[lw];rw[fk] at Rw;exact Rw,λ H4 x4=>?_⟩
 have hk:((bU os).length:Int)<=t.ö:=by rw[lw,fk];exact č _
 have dd:=iw ok (bU os) hk;have Pw:D<=10^40:=È (ø dd.1 S.dd) (È dd.2 (È (â av (show(bU os).length<=20 by lia)) av))
 obtain⟨sk,Ue,sm,ln⟩:=pL T S.ok S.D0 Pw (Ō S.one);have Wl:=x4 _ _ PB;refine⟨r,.int (lH d (bU os)),.int (lH d (bU os)),rfl,.int _,nofun,λ n en=>?_⟩;cases en;refine⟨Ý,se ns vs,D,.inl Wl,Ue,sk.ext λ z xs h=>x4 _ _ h,S.D0,Pw,sm,by rw[ln];exact l5,λ b H' k _ sq=>?_⟩
 rw[uF T S.ok λ v=>decide (lH d (bU os)<=v)] at sq;exact q b vs D H' (λ z o hz=>k _ _ (x4 _ _ (x3 _ _ (SH _ _ hz))) (λ e=>by rw[e] at hz;rw[SH _ _ hz] at Xs;cases Xs)) S sq
end
section
variable {K:Frag}{te:TE}{tt:TT}{g:TG}{k:Nat}{cap:St}{D:Addr}{H1:Hp}{Q:Hp->Prop}{a:Addr}{xs:List V}
theorem t6 (Pv:Nat->List V->Hp->Prop)(hz:xs.length<sizeLine)(h0:Pv 0 [] (ak H1 D (.lst [])))(hl:∀ i ys H,Pv i ys H->Ğ K H a xs)
  (hs:∀(i:Nat) x ys H,xs[i]?\x->ys.length<=i->H D\.lst ys->Pv i ys H->∀ os:St,os.length=k->∀ N:List V->Hp->Prop,(∀ δ H',Pv (i+1) δ H'->δ.length<=i+1->H' D\.lst δ->N δ H') ->
   g x (os++cap) H λ ĩ H0=>(∃ ĵ:St,ĵ.length=k/\ĩ = ĵ ++ cap)/\tt ĩ H0 λ b H5=>(b=false->N ys H5)/\(b=true->te ĩ H5 λ y H4=>H4 D\.lst ys/\N (ys ++ [y]) (ak H4 D (.lst (ys ++ [y])))))
  (hd:∀ ys H,ys.length<=xs.length->H D\.lst ys->Pv xs.length ys H->Q H) :
  ∃ W:Nat->Nat->List V->Hp->Prop,(∃ m,W 0 m [] (ak H1 D (.lst []))) /\
   ∀ i m ys H2,W i m ys H2->H2 D\.lst ys/\(((xZ K a).stop i H2/\Q H2)\/((xZ K a).go i H2/\ys.length<sizeLine /\
    ∀ x H3,(xZ K a).x_ i H2 x H3->∀ os:St,os.length=k->g x (os++cap) H3 λ ĩ H0=>(∃ ĵ:St,ĵ.length=k/\ĩ = ĵ ++ cap)/\tt ĩ H0 λ b H5=>(b=false->∃ m',m'<m/\W (i+1) m' ys H5) /\
     (b=true->te ĩ H5 λ y H4=>H4 D\.lst ys/\∃ m',m'<m/\W (i+1) m' (ys ++ [y]) (ak H4 D (.lst (ys ++ [y])))))):=by
 refine⟨λ i m ys H=>m=xs.length-i/\i<=xs.length/\ys.length<=i/\H D\.lst ys/\Pv i ys H,⟨xs.length,by simp,Nat.zero_le _,Nat.le_refl _,bz,h0⟩,?_⟩
 rintro i m ys H ⟨rfl,hi,hy,Ŕ,p⟩;refine⟨Ŕ,?_⟩;have q:=hl i ys H p;by_cases ş:i<xs.length
 ·refine .inr ⟨⟨xs,xs[i],q,by simp[ş]⟩,ad,λ x H' y os ų=>?_⟩
  obtain⟨e,y⟩:=y;subst e;exact hs i x ys _ (y xs q) hy Ŕ p os ų (λ δ Pa=>∃ m',m'<xs.length-i/\(m'=xs.length-(i+1)/\i+1<=xs.length/\δ.length<=i+1/\Pa D\.lst δ/\Pv (i+1) δ Pa)) λ δ Pa p' l' d'=>⟨xs.length-(i+1),ad,rfl,ş,l',d',p'⟩
 ·have e:i=xs.length:=ad;subst e;exact .inl ⟨⟨xs,q,Å _⟩,hd ys H hy Ŕ p⟩
end
theorem wo (a b:Int):jH [.int a,.int b] [.int a,.int b]=true:=by
 show((a==a)&&((b==b)&&true))=true;rw[ū,ū];rfl
theorem rp:∀ L:List Nat,(L.map λ n=>((n:Nat):Int)).sum=((L.sum:Nat):Int)
 | []=>rfl
 | n::L=>by rw[É,ĝ,rp L,ĝ];lia
theorem sC {ns:List Int}{cs:List (Int × Nat)}(pm:ns.Perm (cs.map (·.1)))(ok:Mq cs)(f:Int->Bool):(du f (se ns cs)).sum=dS (λ v=>if f v=true then 1 else 0) cs:=by
 rw[<- jK];exact(((j5 pm ok.nd).filter _).map _).sum_nat
def FI (K:Frag)(wi:L2.TI)(f:Int->Int->Bool):TE:=jw (gY K) (aw (ig wi 1 [2,6] (aJ 0) (tB (bR (dQ λ i j=>.bl (f i j)) (af 0) (af 2))) (bL (af 1) (af 0))) aS)
theorem Bd {K:Frag}{f:Int->Int->Bool}{H:Hp}{Q:VK}{e l:Addr}{cs:List (Int × Nat)}{ns:List Int}{n:Int}{o0 o1 o3 o5 o7 o8:Option V}(hl:H l\.lst (ns.map V.int))(rd:Rd H e (.dK (bY Key.inl cs)))(pm:ns.Perm (cs.map (·.1)))(ok:Mq cs)(ln:cs.length<=2^20)(q:∀ H',Ext H H'->Q (.int (dS (λ v=>if f v n=true then 1 else 0) cs:Nat)) H') :
  FI K (cY K (af 4)) f [o0,o1,some (.ref e),o3,some (.ref l),o5,some (.int n),o7,o8] H Q:=by
 have lm:(ns.map V.int).length=cs.length:=by rw[Ç,pm.length_eq,Ç]
 refine⟨_,rfl,l,rfl,⟨_,Ğ.of hl⟩,λ D hD=>?_⟩;refine t6 (a:=l) (xs:=ns.map V.int) (cap:=[some (.ref e),some (.int n)]) (λ i ys H'=>Ext H H'/\ys=((du (λ v=>f v n) (se (ns.take i) cs)).map λ n=>((n:Nat):Int)).map V.int) (by rw[è];lia) ⟨Ext.new hD,rfl⟩ (λ i ys H' pv=>Ğ.of (pv.1 _ _ hl)) ?_ ?_
 ·rintro i y ys H' ey ly Ŕ ⟨x',rfl⟩ os ų N kk;rw[Ô] at ey;obtain⟨v,ev,rfl⟩:=Û.mp ey;have vm:v∈cs.map (·.1):=pm.mem_iff.mp (ß ev);have es:se (ns.take (i+1)) cs=se (ns.take i) cs ++ [(v,de cs v)]:=by
   unfold se;rw[aC ev,Ø];rfl
  match os,ų with
  | [o0],_ =>
   refine⟨⟨[_],rfl,rfl⟩,_,rfl,_,rfl,_,_,rfl,rfl,_,rfl,λ e1=>?_,λ e1=>?_⟩
   ·refine kk _ _ ⟨x',?_⟩ ad Ŕ;rw[es,cQ,Æ (by rw[e1];decide)]
   ·have g:a9 (bY Key.inl cs) (.inl v)\.int (de cs v:Nat):=by
     rcases fg b6 v (ps:=cs) with⟨_,_,h⟩ | ⟨h,_⟩
     ·exact absurd vm h
     ·exact h
    refine⟨_,rfl,_,rfl,e,_,rfl,.inl ⟨_,.inl v,dM rd x',rfl,g.symm⟩,Ŕ,kk _ _ ⟨aZ _ x' hD,?_⟩ (by rw[Õ,Ν];lia) bz⟩
    rw[es,cQ,Ë e1,Ø,Ø];rfl
 ·rintro ys H' ly Ŕ ⟨x',rfl⟩;refine⟨D,_,rfl,Ğ.of Ŕ,?_⟩;have:=q H' x';rw[Ç,ä,rp,sC pm ok];exact this
theorem xc {p:Addr}{H H':Hp}(f:PF p H H')(b:Ď H p):Ext (nD H) (nD H'):=λ z o h=>by
 obtain⟨h1,h2⟩:=iN h;refine dF (f.k _ _ h1 λ e=>?_) h2;obtain⟨_,_,_,g,_⟩:=b.ex;rw[e,g] at h1;cases h1;cases h2
theorem tI {d:Addr}{Ý:List (Key × V)}{H H':Hp}(k:∀ b o,H b\o->b≠d->H' b\o)(r:Rd H d (.dK Ý)):Ext (nD H) (nD H'):=λ z o h=>by
 obtain⟨h1,h2⟩:=iN h;refine dF (k _ _ h1 λ e=>?_) h2;rcases r with r | ⟨_,r⟩ <;> rw[<- e,h1] at r <;> cases r <;> cases h2
structure Nr (H0 H:Hp)(p d e:Addr)(Ý:List (Key × V))(cs:List (Int × Nat)):Prop where
 g:Ext (nD H0) (nD H)
 b:Ď H p
 d:Rd H d (.dK Ý)
 e:Rd H e (.dK (bY Key.inl cs))
section
variable {H0 H H':Hp}{p d e:Addr}{Ý:List (Key × V)}{cs:List (Int × Nat)}
theorem Nr.pf (T:Nr H0 H p d e Ý cs)(f:PF p H H')(nd:d≠p)(ne:e≠p):Nr H0 H' p d e Ý cs:=⟨T.g.trans (xc f T.b),f.b,f.k.rd T.d nd,f.k.rd T.e ne⟩
theorem Nr.ext (T:Nr H0 H p d e Ý cs)(x:Ext H H'):Nr H0 H' p d e Ý cs:=⟨T.g.trans x.nd,T.b.ext x,dM T.d x,dM T.e x⟩
theorem Nr.fz (T:Nr H0 H p d e Ý cs)(k:∀ b o,H b\o->b≠d->H' b\o)(r:Rd H' d (.dK Ý))(nd:d≠p)(ne:e≠d):Nr H0 H' p d e Ý cs:=⟨T.g.trans (tI k T.d),T.b.keep λ o h=>k _ _ h nd.symm,r,Kept.rd k T.e ne⟩
end
theorem Told.ext {H H':Hp}{Ý:List (Key × V)}{ns:List Int}{vs:List (Int × Nat)}{D:Nat}(T:Told H Ý ns vs D)(x:GX H H'):Told H' Ý ns vs D:=⟨T.pm,T.so,Paired.imp' (λ _ _ r=>⟨r.1,r.2.kp x⟩) T.pr⟩
section
variable {P:Program}{w:World}{K:Frag}{mg:bD}{base:Heap}{CN f a1 a2 a3 a4:Addr}{fd d1 d2 d3 d4:FuncData}
abbrev Ay:Stmt:=bT 83
abbrev IN:List Str:=["_law_purse_here","_law_spread","_law_counts","_law_whole","_law_values","_law_turn","_law_value","_law_high","_law_low"]
theorem Tu:ag IN ["_law_purse_here","_law_spread","_law_counts","_law_whole"] (aa Ay):=aL
abbrev AB:Scope:=gR [("_law_one",.local),("_law_counts",.free),("_law_value",.free)]
theorem EV:((["_law_one"]:List Str)++(["_law_counts","_law_value"]:List Str)).Nodup:=aF
structure SY (H:Hp)(t:Rl)(sc:List Int)(cs:List (Int × Nat))(W:Nat)(Ý:List (Key × V))(ns:List Int)(vs:List (Int × Nat))(D:Nat):Prop where
 ok:t.ok
 fk:(sc.length:Int)=t.ö
 ct:Mt t sc cs W
 w:W<=10^40
 ln:cs.length<=2^20
 td:Told H Ý ns vs D
 sp:gZ t sc vs D
 l5:vs.length<=5000
theorem SY.ext {H H':Hp}{t:Rl}{sc:List Int}{cs vs:List (Int × Nat)}{W D:Nat}{Ý:List (Key × V)}{ns:List Int}(S:SY H t sc cs W Ý ns vs D)(x:GX H H'):SY H' t sc cs W Ý ns vs D:=⟨S.ok,S.fk,S.ct,S.w,S.ln,S.td.ext x,S.sp,S.l5⟩
def DH:Sp:=λ vs H Q _=>∃(p d e:Addr)(t:Rl)(sc:List Int)(cs:List (Int × Nat))(W:Nat)(Ý:List (Key × V))(ns:List Int)(us:List (Int × Nat))(D:Nat),vs=[.ref p,.ref d,.ref e,.int (W:Nat)]/\Nr H H p d e Ý cs/\SY (nD H) t sc cs W Ý ns us D/\d≠p/\e≠p/\e≠d/\∀ H',Nr H H' p d e Ý cs->Q (.bl true) H'
def Hl (K:Frag):TE:=cR (wk (bR (qB K) (af 4) (kc 0 (oC K 4))) (tC (.int 1))) (kc 0 (tC (.int 3)))
def Bf (K:Frag)(CN:Addr)(f:Int->Int->Bool)(i:Nat):TT:=fH (bR (Ip K not) (cV (nq K CN f) [] E0 (aw (af 1) (aw (af 6) aS))) (cV lB [] E0 (aw (af i) (aw (af 3) aS))))
def KJ (K:Frag)(CN:Addr):TS:=aO (bQ (Hl K) (aJ 6)) (aO (bQ (FI K (cY K (af 4)) λ i j=>decide (j<=i)) (aJ 7)) (aO (bQ (FI K (cY K (af 4)) λ i j=>decide (i<=j)) (aJ 8)) (cE (Iy (Bf K CN (λ i j=>decide (j<=i)) 7) (Bf K CN (λ i j=>decide (i<=j)) 8)) (cH (tC (.bl false))) br)))
def KQ (K:Frag)(CN:Addr):TS:=aO (bQ (jw iV (aw (af 2) aS)) (aJ 4)) (aO (fM (sF (aw (tC (.int 8)) aS)) (aJ 5) (KJ K CN)) (cH (tC (.bl true))))
section
variable {cdv:Value}{A:Around}{outer:List Env}{s:Shared}{H:Hp}{E:XK}
theorem u4:cJ (b9 az P w K mg base IN "_law_shares_right" (aa Ay) f cdv A outer s H E).K' AB [("_law_value",s.heap.objs.size+2),("_law_counts",s.heap.objs.size+1)] ["_law_one"] ["_law_counts","_law_value"] [2,6] :=
 dk (M:=["_law_value","_law_counts"]) (L:=[(".0",.local),("_law_one",.local),("_law_counts",.cell),("_law_value",.cell)]) rfl rfl aF aF aF rfl rfl rfl aF aF rfl rfl rfl
theorem DC (A1:Df P w K mg base az 1 "_law_take" ["_law_purse_here","_law_many"] i7 a1 d1) (A2:Df P w K mg base az 1 "_law_lowest" ["_law_top","_law_bottom"] lB a2 d2) (A3:Df P w K mg base (eX P w) 4 "share_from" ["spread","value"] (nq K CN λ i j=>decide (j<=i)) a3 d3) (A4:Df P w K mg base (eX P w) 4 "share_to" ["spread","value"] (nq K CN λ i j=>decide (i<=j)) a4 d4) (mo:mg "sorted" = none) (mr:mg "range" = none) (ms:mg "sum" = none) (mn:mg "len" = none) (hr:rE 4 "_law_shares_right" Ay A s f cdv) :
  Bx (ο (b9 az P w K mg base IN "_law_shares_right" (aa Ay) f cdv A outer s H E).K' (aH Ay) (KQ K CN)):=by
 have Ń:Ă 1 _:=hr.mono av;have nd:=Tu.nd;have F_:(A.deeper (PyProof.Rows.envOfC "_law_shares_right" (aa Ay) s.heap.objs.size f cdv)).units+2<cLine:=by have:=hr.un;lia
 refine da ⟨cB (i:=4) nd rfl (Or.inl rfl) (ao (fc rfl) rfl mo Ÿ (ae (pv 2) aq))⟩ (da (⟨bC ò rfl (dB rfl mr (ae aB aq)) (bK (i:=5) nd rfl (Or.inl rfl)) (Bx.h ?_)⟩) (bI ⟨cq yu⟩));exact da ⟨cB (i:=6) nd rfl (Or.inr rfl) (ah aP (ah bJ (c5 A0 (pv 4) (cg A1 Ń aj (ae (pv 0) (ae (ao aY rfl mn ě (ae (pv 4) aq)) aq)))) aB) (cg A1 Ń aj (ae (pv 0) (ae aB aq))))⟩
  (da ⟨cB (i:=7) nd rfl (Or.inl rfl) (ao (bX rfl) rfl ms ă (ae (fE (te:=bL (af 1) (af 0)) (tt:=tB (bR (dQ λ i j=>.bl (decide (j<=i))) (af 0) (af 2))) (g:=aJ 0) rfl u4 (bE (pv 4)) (λ s H C fp=>by exact bK (i:=0) EV rfl (.inl rfl)) (λ s H C fp=>by exact ay lP (pv 0) (pv 2) (ax _)) (λ s H C fp=>by exact a8 F_ (pv 1) (pv 0))) aq))⟩
  (da ⟨cB (i:=8) nd rfl (Or.inl rfl) (ao (bX rfl) rfl ms ă (ae (fE (te:=bL (af 1) (af 0)) (tt:=tB (bR (dQ λ i j=>.bl (decide (i<=j))) (af 0) (af 2))) (g:=aJ 0) rfl u4 (bE (pv 4)) (λ s H C fp=>by exact bK (i:=0) EV rfl (.inl rfl)) (λ s H C fp=>by exact ay qh (pv 0) (pv 2) (ax _)) (λ s H C fp=>by exact a8 F_ (pv 1) (pv 0))) aq))⟩
  (bI ⟨aT (PW.pt (mw (ay (qx hr.ML) (cg A3 hr jB (ae (pv 1) (ae (pv 6) aq))) (cg A2 Ń aj (ae (pv 7) (ae (pv 3) aq))) (ax _)) (jc (ay (qx hr.ML) (cg A4 hr jB (ae (pv 1) (ae (pv 6) aq))) (cg A2 Ń aj (ae (pv 8) (ae (pv 3) aq))) (ax _))))) (aW (cq yu)) eM⟩)))
end
end
section
variable {P:Program}{w:World}{K:Frag}{mg:bD}{base:Heap}{CN f a1 a2 a3 a4:Addr}{fd d1 d2 d3 d4:FuncData}
variable {H0 H:Hp}{p d e:Addr}{t:Rl}{sc:List Int}{cs us:List (Int × Nat)}{W D:Nat}{Ý:List (Key × V)}{ns:List Int}
theorem wd {f:Int->Int->Bool}{i:Nat}{R:Bool->Hp->Prop}{n:Int}{l:Addr}{o5 o7 o8:Option V}(T:Nr H0 H p d e Ý cs)(S:SY (nD H0) t sc cs W Ý ns us D)(n1:d≠p)(n2:e≠p)(n3:e≠d)(si:[some (V.ref p),some (.ref d),some (.ref e),some (.int (W:Nat)),some (.ref l),o5,some (.int n),o7,o8][i]?\some (.int (dS (λ v=>if f v n=true then 1 else 0) cs:Nat)))(q:∀ H',Nr H0 H' p d e Ý cs->Ext (nD H) (nD H')->R false H') :
  Bf K CN f i [some (.ref p),some (.ref d),some (.ref e),some (.int (W:Nat)),some (.ref l),o5,some (.int n),o7,o8] H R:=by
 have td:=S.td.ext (H':=H) λ z xs h=>bP H _ _ (T.g _ _ h);have hk:(sc.length:Int)<=t.ö:=Od S.fk;have NS:sc.length<=20:=by have:=(Rl.Ķ S.ok).2;have:=S.fk;lia
 have dd:=iw S.ok sc hk;have Pw:D<=10^40:=È (ø dd.1 S.sp.dd) (È dd.2 (È (â av NS) av));obtain⟨sk,Ue,sm,ln⟩:=pL td S.sp.ok S.sp.D0 Pw (Ō S.sp.one);refine⟨_,rfl,_,rfl,d,.int n,.int n,rfl,.int n,nofun,λ m em=>?_⟩;cases em;refine⟨Ý,se ns us,D,T.d,Ue,sk,S.sp.D0,Pw,sm,by rw[ln];exact S.l5,λ a H1 k Z4 sq=>?_⟩
 rw[sC S.td.pm S.sp.ok] at sq;obtain⟨e1,e2⟩:=S.ct.low S.sp S.ok hk λ v=>if f v n=true then 1 else 0
 rw[e1,e2] at sq;have T1:=T.fz k Z4 n1 n3;refine⟨_,si,_,rfl,dS (λ v=>if f v n=true then 1 else 0) cs,W,rfl,S.ct.W0,È S.w (â av av),λ b hb=>⟨a,b,_,_,rfl,rfl,My.Ĭ.ext sq (Ext.new hb),Ĭ.of bz,rfl,rfl,_,rfl,?_⟩⟩
 rw[wo];exact q _ (T1.ext (Ext.new hb)) ((tI k T.d).trans (Ext.new hb).nd)
theorem HU (F:Ļ K "_law_shares_right" "_law_shares_right" Ay f fd) (A1:Df P w K mg base az 1 "_law_take" ["_law_purse_here","_law_many"] i7 a1 d1) (A2:Df P w K mg base az 1 "_law_lowest" ["_law_top","_law_bottom"] lB a2 d2) (A3:Df P w K mg base (eX P w) 4 "share_from" ["spread","value"] (nq K CN λ i j=>decide (j<=i)) a3 d3) (A4:Df P w K mg base (eX P w) 4 "share_to" ["spread","value"] (nq K CN λ i j=>decide (i<=j)) a4 d4) (mo:mg "sorted" = none) (mr:mg "range" = none) (ms:mg "sum" = none) (mn:mg "len" = none):ð P w K mg base az 5 f fd ["_law_purse_here","_law_spread","_law_counts","_law_whole"] DH:=by
 refine cj F Tu λ cdv A outer s H vs Q E hr h=>?_;refine Â λ gg=>?_;obtain⟨p,d,e,t,sc,cs,W,Ý,ns,us,D,rfl,T,S,n1,n2,n3,q⟩:=h;refine gg ?_;refine wK (DC A1 A2 A3 A4 mo mr ms mn hr) ⟨?_⟩;have ek:((bY Key.inl cs).map λ p=>kV p.1)=(cs.map (·.1)).map V.int:=by
  unfold bY;rw[ā,ā];rfl
 refine aE (te:=jw iV (aw (af 2) aS)) (i:=4) ⟨_,rfl,e,_,_,rfl,T.e,ek,λ l Vd hl pm _=>?_⟩;have lm:(Vd.map V.int).length=cs.length:=by rw[Ç,pm.length_eq,Ç]
 have c0:0<cs.length:=Nat.pos_of_ne_zero λ z=>by
  have:=S.ct.W0;rw[<- S.ct.one,List.eq_nil_of_length_eq_zero z] at this;exact absurd this av
 have lc:=S.ln;obtain⟨H1,x1,g1,eU⟩:=eD hl (.lst (Vd.map V.int));rw[eU];have T1:=T.ext x1;have hln:nD H1 l\.lst (Vd.map V.int):=dF g1 rfl;refine⟨8,rfl,av,av,jf (lo:=0) (n:=8) (λ i σ H'=>Nr H H' p d e Ý cs/\Ext (nD H1) (nD H')/\∃ o5 o6 o7 o8,σ=[some (.ref p),some (.ref d),some (.ref e),some (.int (W:Nat)),some (.ref l),o5,o6,o7,o8]) ⟨T1,Ext.refl _,_,_,_,_,rfl⟩ ?_ ?_⟩
 ·rintro i σ H2 hi ⟨T2,xl,o5,o6,o7,o8,rfl⟩;have Pr:=bP _ _ _ (xl _ _ hln);have lp:l≠p:=λ z=>by
   obtain⟨_,_,_,g,_⟩:=T2.b.ex;rw[z,g] at Pr;cases Pr
  refine aE (te:=Hl K) (i:=6) ⟨_,rfl,b8 (p:=p) (m:=(cs.length:Nat)) rfl T2.b (λ R r=>⟨_,rfl,l,_,rfl,.inl (Ğ.of Pr),by rw[lm];exact r⟩) ad ad λ r H3 r0 r1 f3=>?_⟩
  refine Â λ gg=>?_;have Xw:=f3.k _ _ Pr lp;obtain⟨v,ev,vm⟩:=zM r0 (show r<((Vd.map V.int).length:Int) by rw[lm];exact r1)
  obtain⟨m,_,rfl⟩:=ë.mp vm;refine gg ?_;refine⟨l,_,_,_,rfl,rfl,Ğ.of Xw,ev,_,_,rfl,rfl,b8 (p:=p) rfl f3.b (λ R r=>r) av av λ u H4 u0 u1 f4=>⟨_,_,rfl,rfl,?_⟩⟩;have XG:=f3.trans f4;have T4:=T2.pf XG n1 n2;have Xv:=f4.k _ _ Xw lp;show aO (bQ (FI K (cY K (af 4)) λ i j=>decide (j<=i)) (aJ 7)) _ _ [some (.ref p),some (.ref d),some (.ref e),some (.int (W:Nat)),some (.ref l),some (.int (0+(i:Nat))),some (.int (m-1+u)),o7,o8] H4;refine aE (i:=7) (Bd Xv T4.e pm S.ct.ok lc λ H5 x5=>?_);show aO (bQ (FI K (cY K (af 4)) λ i j=>decide (i<=j)) (aJ 8)) _ _ [some (.ref p),some (.ref d),some (.ref e),some (.int (W:Nat)),some (.ref l),some (.int (0+(i:Nat))),some (.int (m-1+u)),some (.int _),o8] H5;have T5:=T4.ext x5;refine aE (i:=8) (Bd (x5 _ _ Xv) T5.e pm S.ct.ok lc λ H6 x6=>?_);have T6:=T5.ext x6;have ZK:Ext (nD H1) (nD H6):=(((xl.trans (xc XG T2.b)).trans x5.nd).trans x6.nd);refine wd T6 S n1 n2 n3 rfl λ H7 T7 x7=>dW ?_;exact wd T7 S n1 n2 n3 rfl λ H8 T8 x8=>dW ⟨T8,(ZK.trans x7).trans x8,_,_,_,_,rfl⟩
 ·rintro σ H2 ⟨T2,_,o5,o6,o7,o8,rfl⟩;exact q H2 T2
end
section
variable {P:Program}{w:World}{K:Frag}{mg:bD}{base:Heap}{C:Nat->Addr}{CN MW f fW a1 a2 a3 a4 a5 a6 a7:Addr}{fd eW d1 d2 d3 d4 d5 d6 d7:FuncData}
abbrev nZ:Stmt:=bT 84
abbrev La:List Str:=["_law_script","_law_k","_law_purse_here","_law_rule","_law_scores","_law_outcomes","_law_by_wins","_law_counts","_law_dealing","_law_value","_law_whole","_law_spread","_law_high"]
theorem Oh:ag La ["_law_script"] (aa nZ):=aL
def sO (K:Frag):Sp:=λ vs H Q _=>∃(a:Addr)(ns:List Int),vs=[.ref a]/\Ğ K H a (ns.map V.int)/\ns.length<=63/\H sysModules=none/\∀ H',Q (.bl true) H'
structure Dl (P:Program)(w:World)(K:Frag)(mg:bD)(base:Heap)(C:Nat->Addr)(MW fW a1 a2 a3 a4 a5 a6 a7:Addr)(eW d1 d2 d3 d4 d5 d6 d7:FuncData):Prop where
 ce:Df P w K mg base az 1 "_law_cell" ["_law_script","_law_k"] (kJ K) a1 d1
 pu:Df P w K mg base az 1 "_law_purse" ["_law_cell_here"] iK a2 d2
 dn:Df P w K mg base az 8 "_law_drawn" ["_law_purse_here"] (yR C) a3 d3
 sr:Df P w K mg base az 12 "spread_of" ["rule","scores"] (yI C) a4 d4
 lo:Df P w K mg base az 1 "_law_lowest" ["_law_top","_law_bottom"] lB a5 d5
 sh:Df P w K mg base az 5 "_law_shares_right" ["_law_purse_here","_law_spread","_law_counts","_law_whole"] DH a6 d6
 td:Df P w K mg base az 13 "told_share" ["rule","outcomes","measure","dealing"] (BH K C MW) a7 d7
 kW:Mk K MW fW
 gW:ð P w K mg base az 2 fW eW ["self"] (tm MW)
 bW:Binds K eW ["self"] []
 mW:mg "Wins"\.ref MW
 N:Bc K
 mi:mg "isinstance" = none
 md:mg "dict" = none
 ml:mg "list" = none
 mo:mg "sorted" = none
 ms:mg "sum" = none
 me:mg "enumerate" = none
 mn:mg "len" = none
 mr:mg "range" = none
 mx:mg "max" = none
 mm:mg "min" = none
abbrev JO:Scope:=gR [("_law_value",.local),("_law_counts",.free)]
abbrev Jw:Scope:=gR [("_law_value",.local),("_law_spread",.free)]
abbrev Ix:Scope:=gR [("_law_value",.local),("_law_lowest",.globalImplicit),("_law_counts",.free),("_law_whole",.free)]
abbrev JX:Scope:=gR [("_law_at",.local),("_law_score",.local),("_law_dealing",.free)]
theorem Kp:((["_law_value"]:List Str)++(["_law_counts"]:List Str)).Nodup:=aF
theorem Jm:((["_law_value"]:List Str)++(["_law_spread"]:List Str)).Nodup:=aF
theorem K4:((["_law_value"]:List Str)++(["_law_counts","_law_whole"]:List Str)).Nodup:=aF
theorem Fo:((["_law_at","_law_score"]:List Str)++(["_law_dealing"]:List Str)).Nodup:=aF
abbrev HG:R2:=rI (λ _ j=>0<=j) λ i j=>.int (i/2^j.toNat)
abbrev Go:R2:=dQ λ i j=>.int (Builtin.bitAnd i j)
def zE (C:Nat->Addr):TE:=cV (yI C) [] E0 (aw (af 3) (aw (af 4) aS))
def vL (K:Frag):TE:=jw (gY K) (aw (iu (jE (af 7)) 1 [7] (aJ 0) (bL (af 1) (af 0))) aS)
def BN (K:Frag):TS:=cE (Iy (vz (tB (jw (GI K) (aw (af 11) (aw (tC (.ty "dict")) aS))))) (tB (bR (qY K 0 false) (jw vq (aw (af 11) aS)) (jw iV (aw (af 7) aS))))) (cH (tC (.bl false))) br
def JY:TE:=iu (jE (af 11)) 1 [11] (aJ 0) (bL (af 1) (af 0))
def F8 (K:Frag):TE:=iu (cY K (jw iV (aw (af 7) aS))) 1 [7,10] (aJ 0) (cV lB [] E0 (aw (bL (af 1) (af 0)) (aw (af 2) aS)))
def B3 (K:Frag):TS:=cE (tB (bR (qY K 1 false) JY (F8 K))) (cH (tC (.bl false))) br
def B4:TS:=cE (vz (tB (cV DH [] E0 (aw (af 2) (aw (af 11) (aw (af 7) (aw (af 10) aS))))))) (cH (tC (.bl false))) br
def C9 (K:Frag):TE:=jw (gY K) (aw (ig (pU K (aw (af 4) aS)) 2 [8] (Ic K) (tB (bR uW (bR Go (bR HG (af 2) (af 0)) (tC (.int 1))) (tC (.int 1)))) (af 1)) aS)
def zg (K:Frag):TE:=jw (gY K) (aw (ig (jE (af 7)) 1 [7,9] (aJ 0) (tB (bR (dQ λ i j=>.bl (decide (i ≥ j))) (af 0) (af 2))) (bL (af 1) (af 0))) aS)
def Cg (K:Frag)(C:Nat->Addr)(MW:Addr):TS:=cE (tB (bR (Ip K not) (cV (BH K C MW) [] E0 (aw (af 3) (aw (af 5) (aw (gV MW (tm MW) [] E0 aS) (aw (af 8) aS))))) (cV lB [] E0 (aw (af 12) (aw (af 10) aS))))) (cH (tC (.bl false))) br
def Eu (K:Frag)(C:Nat->Addr)(MW:Addr):TS:=cE (tB (af 6)) (aO (bQ (C9 K) (aJ 9)) (aO (bQ (zg K) (aJ 12)) (Cg K C MW))) br
def Ln (K:Frag):TG:=Au K 6 (bu (aJ 3) (bu (aJ 4) (bu (aJ 5) (bu (aJ 6) (bu (aJ 7) (bu (aJ 8) jd))))))
def FW (K:Frag)(C:Nat->Addr)(MW:Addr):TS:=aO (BN K) (aO (B3 K) (aO B4 (Eu K C MW)))
def vG (K:Frag)(C:Nat->Addr)(MW:Addr):TS:=aO (bQ (cV iK [] E0 (aw (cV (kJ K) [] E0 (aw (af 0) (aw (af 1) aS))) aS)) (aJ 2)) (aO (bQ (cV (yR C) [] E0 (aw (af 2) aS)) (Ln K)) (aO (bQ (vL K) (aJ 10)) (aO (bQ (zE C) (aJ 11)) (FW K C MW))))
def LU:List V->Hp->VK->Prop:=λ xs H Q=>∃ i j:Int,xs=[.int i,.int j]/\Q (.int (if j>i then j else i)) H
def KN:List V->Hp->VK->Prop:=λ xs H Q=>∃ i j:Int,xs=[.int i,.int j]/\Q (.int (if j<i then j else i)) H
def Lz (K:Frag)(C:Nat->Addr)(MW:Addr):TS:=aO (fM (sF (aw (jw LU (aw (tC (.int 1)) (aw (jw KN (aw (oC K 0) (aw (tC (.int 2)) aS))) aS))) aS)) (aJ 1) (vG K C MW)) (cH (tC (.bl true)))
section
variable {cdv:Value}{A:Around}{outer:List Env}{s:Shared}{H:Hp}{E:XK}
abbrev hZ (P:Program)(w:World)(K:Frag)(mg:bD)(base:Heap)(f:Addr)(cdv:Value)(A:Around)(outer:List Env)(s:Shared)(H:Hp)(E:XK):Cx:=(b9 az P w K mg base La "law" (aa nZ) f cdv A outer s H E).K'
theorem Ek:cJ (hZ P w K mg base f cdv A outer s H E) JO [("_law_counts",s.heap.objs.size+1)] ["_law_value"] ["_law_counts"] [7] :=
 dk (M:=["_law_counts"]) (L:=[(".0",.local),("_law_value",.local),("_law_counts",.cell)]) rfl rfl aF aF aF rfl rfl rfl aF aF rfl rfl rfl
theorem B5:cJ (hZ P w K mg base f cdv A outer s H E) Jw [("_law_spread",s.heap.objs.size+5)] ["_law_value"] ["_law_spread"] [11] :=
 dk (M:=["_law_spread"]) (L:=[(".0",.local),("_law_value",.local),("_law_spread",.cell)]) rfl rfl aF aF aF rfl rfl rfl aF aF rfl rfl rfl
theorem E5:cJ (hZ P w K mg base f cdv A outer s H E) Ix [("_law_whole",s.heap.objs.size+4),("_law_counts",s.heap.objs.size+1)] ["_law_value"] ["_law_counts","_law_whole"] [7,10] :=
 dk (M:=["_law_whole","_law_counts"]) (L:=[(".0",.local),("_law_value",.local),("_law_lowest",.globalImplicit),("_law_counts",.cell),("_law_whole",.cell)]) rfl rfl aF aF aF rfl rfl rfl aF aF rfl rfl rfl
theorem Cz:cJ (hZ P w K mg base f cdv A outer s H E) JX [("_law_dealing",s.heap.objs.size+2)] ["_law_at","_law_score"] ["_law_dealing"] [8] :=
 dk (M:=["_law_dealing"]) (L:=[(".0",.local),("_law_at",.local),("_law_score",.local),("_law_dealing",.cell)]) rfl rfl aF aF aF rfl rfl rfl aF aF rfl rfl rfl
theorem BW:cJ (hZ P w K mg base f cdv A outer s H E) AB [("_law_value",s.heap.objs.size+3),("_law_counts",s.heap.objs.size+1)] ["_law_one"] ["_law_counts","_law_value"] [7,9] :=
 dk (M:=["_law_value","_law_counts"]) (L:=[(".0",.local),("_law_one",.local),("_law_counts",.cell),("_law_value",.cell)]) rfl rfl aF aF aF rfl rfl rfl aF aF rfl rfl rfl
abbrev xA:List Stmt:=match (aH nZ).getD 0 (.Pass default) with
 | .For _ _ b _ _=>b
 | _=>[]
def pJ (i:Nat):Stmt:=(xA[i]?).getD (.Pass default)
section
variable (D:Dl P w K mg base C MW fW a1 a2 a3 a4 a5 a6 a7 eW d1 d2 d3 d4 d5 d6 d7)(hr:rE 13 "law" nZ A s f cdv)
include D hr
theorem IB:Bx (PS (hZ P w K mg base f cdv A outer s H E) (pJ 0) (bQ (cV iK [] E0 (aw (cV (kJ K) [] E0 (aw (af 0) (aw (af 1) aS))) aS)) (aJ 2))):=by
 have Ń:Ă 1 _:=hr.mono av;exact⟨cB (i:=2) Oh.nd rfl (Or.inl rfl) (fX D.pu.G Ń rfl D.pu.m D.pu.kp D.pu.b .nil aj (ae (fX D.ce.G Ń rfl D.ce.m D.ce.kp D.ce.b .nil aj (ae (pv 0) (ae (pv 1) aq))) aq))⟩
theorem J1:Bx (PS (hZ P w K mg base f cdv A outer s H E) (pJ 1) (bQ (cV (yR C) [] E0 (aw (af 2) aS)) (Ln K))):=by
 have Uy:Ă 8 _:=hr.mono av;have nd:=Oh.nd;exact⟨hI (fX D.dn.G Uy rfl D.dn.m D.dn.kp D.dn.b .nil aj (ae (pv 2) aq)) (zx rfl (cL (bK (i:=3) nd rfl (Or.inl rfl)) (cL (bK (i:=4) nd rfl (Or.inl rfl)) (cL (bK (i:=5) nd rfl (Or.inl rfl)) (cL (bK (i:=6) nd rfl (Or.inl rfl)) (cL (bK (i:=7) nd rfl (Or.inr rfl)) (cL (bK (i:=8) nd rfl (Or.inr rfl)) aR)))))))⟩
theorem IY:Bx (PS (hZ P w K mg base f cdv A outer s H E) (pJ 2) (bQ (vL K) (aJ 10))):=by
 have F_:=nP hr;exact⟨cB (i:=10) Oh.nd rfl (Or.inr rfl) (ao (bX rfl) rfl D.ms ă (ae (eC (te:=bL (af 1) (af 0)) (g:=aJ 0) rfl Ek (cK (pv 7)) (λ s H C fp=>by exact bK (i:=0) Kp rfl (.inl rfl)) (λ s H C fp=>by exact a8 F_ (pv 1) (pv 0))) aq))⟩
theorem IK:Bx (PS (hZ P w K mg base f cdv A outer s H E) (pJ 3) (bQ (zE C) (aJ 11))):=by
 have Sb:Ă 12 _:=hr.mono av;exact⟨cB (i:=11) Oh.nd rfl (Or.inr rfl) (fX D.sr.G Sb rfl D.sr.m D.sr.kp D.sr.b .nil aj (ae (pv 3) (ae (pv 4) aq)))⟩
theorem KY:Bx (PS (hZ P w K mg base f cdv A outer s H E) (pJ 4) (BN K)):=by
 have Wc:(A.deeper (PyProof.Rows.envOfC "law" (aa nZ) s.heap.objs.size f cdv)).units+(0+1)<cLine:=by have:=hr.un;lia
 exact⟨aT (PW.pt (mw (cA (bO (ao (c8 D.N) rfl D.mi ÿ (ae (pv 11) (ae (jz rfl D.md PyProof.Rows.boot_dict) aq))))) (jc (ay (wS (n:=0) Wc) (cT (qJ rfl) rfl D.ml G_ (ae (pv 11) aq)) (ao (fc rfl) rfl D.mo Ÿ (ae (pv 7) aq)) (ax _))))) (aW (cq yu)) eM⟩
theorem IJ:Bx (PS (hZ P w K mg base f cdv A outer s H E) (pJ 5) (B3 K)):=by
 have F_:=nP hr;have Ń:Ă 1 _:=hr.mono av;have Wc:(A.deeper (PyProof.Rows.envOfC "law" (aa nZ) s.heap.objs.size f cdv)).units+(1+1)<cLine:=by have:=hr.un;lia
 exact⟨aT (ay (wS (n:=1) Wc) (eC (te:=bL (af 1) (af 0)) (g:=aJ 0) rfl B5 (cK (pv 11)) (λ s H C fp=>by exact bK (i:=0) Jm rfl (.inl rfl)) (λ s H C fp=>by exact a8 F_ (pv 1) (pv 0)))
  (eC (te:=cV lB [] E0 (aw (bL (af 1) (af 0)) (aw (af 2) aS))) (g:=aJ 0) rfl E5 (bE (ao (fc rfl) rfl D.mo Ÿ (ae (pv 7) aq))) (λ s H C fp=>by exact bK (i:=0) K4 rfl (.inl rfl)) (λ s H C fp=>by exact fX D.lo.G Ń rfl D.lo.m D.lo.kp D.lo.b .nil aj (ae (a8 F_ (pv 1) (pv 0)) (ae (pv 2) aq)))) (ax _)) (aW (cq yu)) eM⟩
theorem JS:Bx (PS (hZ P w K mg base f cdv A outer s H E) (pJ 6) B4):=by
 have Uz:Ă 5 _:=hr.mono av;exact⟨aT (cA (bO (fX D.sh.G Uz rfl D.sh.m D.sh.kp D.sh.b .nil aj (ae (pv 2) (ae (pv 11) (ae (pv 7) (ae (pv 10) aq))))))) (aW (cq yu)) eM⟩
theorem JD:Bx (PS (hZ P w K mg base f cdv A outer s H E) (pJ 7) (Eu K C MW)):=by
 have F_:=nP hr;have Ń:Ă 1 _:=hr.mono av;have PB:Ă 3 _:=hr.mono av;exact tK ⟨bO (pv 6)⟩ (da ⟨cB (i:=9) Oh.nd rfl (Or.inr rfl) (ao (bX rfl) rfl D.ms ă (ae (fE (te:=af 1) (tt:=tB (bR uW (bR Go (bR HG (af 2) (af 0)) (tC (.int 1))) (tC (.int 1)))) (g:=Ic K) rfl Cz (ip rfl D.me (ae (pv 4) aq)) (λ s H C fp=>by exact bq rfl (cL (bK (i:=0) Fo rfl (.inl rfl)) (cL (bK (i:=1) Fo rfl (.inl rfl)) aR))) (λ s H C fp=>by exact ay iO (ah ve (ah xb (pv 2) (pv 0)) aB) aB (ax _)) (λ s H C fp=>by exact pv 1)) aq))⟩
  (da ⟨cB (i:=12) Oh.nd rfl (Or.inl rfl) (ao (bX rfl) rfl D.ms ă (ae (fE (te:=bL (af 1) (af 0)) (tt:=tB (bR (dQ λ i j=>.bl (decide (i ≥ j))) (af 0) (af 2))) (g:=aJ 0) rfl BW (cK (pv 7)) (λ s H C fp=>by exact bK (i:=0) EV rfl (.inl rfl)) (λ s H C fp=>by exact ay lP (pv 0) (pv 2) (ax _)) (λ s H C fp=>by exact a8 F_ (pv 1) (pv 0))) aq))⟩
  (bI ⟨aT (ay (qx hr.ML) (fX D.td.G hr rfl D.td.m D.td.kp D.td.b .nil aj (ae (pv 3) (ae (pv 5) (ae (xY D.kW D.gW PB rfl D.mW D.bW .nil aj) (ae (pv 8) aq))))) (fX D.lo.G Ń rfl D.lo.m D.lo.kp D.lo.b .nil aj (ae (pv 12) (ae (pv 10) aq))) (ax _)) (aW (cq yu)) eM⟩))) jL
theorem Jb:Bx (ο (hZ P w K mg base f cdv A outer s H E) xA (vG K C MW)) :=
 da (IB D hr) (da (J1 D hr) (da (IY D hr) (da (IK D hr) (da (KY D hr) (da (IJ D hr) (da (JS D hr) (bI (JD D hr))))))))
theorem Dp:Bx (ο (hZ P w K mg base f cdv A outer s H E) (aH nZ) (Lz K C MW)) :=
 da ⟨bC ò rfl (dB rfl D.mr (ae (ao (lR rfl) rfl D.mx PyProof.Rows.boot_max (ae aB (ae (ao (mh rfl) rfl D.mm PyProof.Rows.boot_min (ae (ao aY rfl D.mn ě (ae (pv 0) aq)) (ae aB aq))) aq))) aq)) (bK (i:=1) Oh.nd rfl (Or.inl rfl)) (Jb D hr).h⟩ (bI (kh ⟨yu⟩))
end
end
end
abbrev lI (s:Addr)(k:Int)(p:Addr)(r:V)(a b:Addr)(bw:Bool)(e:Addr)(dl:Int)(o9 ś ŏ ũ:Option V):St:=[some (.ref s),some (.int k),some (.ref p),some r,some (.ref a),some (.ref b),some (.bl bw),some (.ref e),some (.int dl),o9,ś,ŏ,ũ]
theorem sw {j:Nat}{σ:St}{H:Hp}{Q:VK}{d:Addr}{Ý:List (Key × V)}(sj:σ[j]?\some (.ref d))(cap:fL [j] σ=[some (.ref d)])(rd:Rd H d (.dK Ý))(nd:(Ý.map (·.1)).Nodup)(ln:Ý.length<=2^20)(q:∀ L H',(∀ b o,H b\o->b≠d->H' b\o)->Rd H' d (.dK Ý)->H' L\.lst (Ý.map (·.2))->Q (.ref L) H'):iu (jE (af j)) 1 [j] (aJ 0) (bL (af 1) (af 0)) σ H Q:=by
 refine⟨_,sj,d,.dK Ý,rfl,True.intro,rd,λ ob H2 fz L hL=>?_⟩;rw[cap];refine u6 (n:=Ý.length) (λ i ys H'=>Ext H2 H'/\ys=(Ý.take i).map (·.2)) (by rw[è];lia) ⟨Ext.new hL,rfl⟩ (λ i ys H' hi p=>⟨p.1 _ _ fz.1,hi⟩) (λ ys H' p=>⟨p.1 _ _ fz.1,Å _⟩) ?_ ?_
 ·rintro i x ys H' H3 hi ⟨rfl,v,pr⟩ ly Ŕ ⟨x',rfl⟩ os ų R k;rcases pr with⟨Ur,kk,e,hk,rfl⟩ | ⟨_,_,_,e,_⟩
  ·cases e
   match os,ų with
   | [o0],_ =>
    refine⟨⟨[some (kV kk)],rfl,rfl⟩,_,rfl,_,rfl,d,v,rfl,.inl ⟨Ý,kk,.inr ⟨ob,x' _ _ fz.1⟩,rfl,(fY nd (ß hk)).symm⟩,k _ _ Ŕ ⟨aZ _ x' hL,?_⟩⟩;rw[aC hk,Ø];rfl
  ·cases e
 ·rintro ys H' ly Ŕ ⟨x',rfl⟩;rw[ä] at Ŕ;exact q L H' (λ b o e n=>x' _ _ (by rw[fz.2 b n];exact e)) (.inr ⟨ob,x' _ _ fz.1⟩) Ŕ
theorem wu {cs:List (Int × Nat)}(ok:Mq cs):((bY Key.inl cs).map (·.1)).Nodup:=by rw[kK];exact qL ok.nd
theorem we (cs:List (Int × Nat)):(bY Key.inl cs).map (·.2)=(cs.map λ q=>((q.2:Nat):Int)).map V.int:=by
 unfold bY;rw[ā,ā];rfl
theorem Nr.fe {H0 H H':Hp}{p d e:Addr}{Ý:List (Key × V)}{cs:List (Int × Nat)}(T:Nr H0 H p d e Ý cs)(k:∀ b o,H b\o->b≠e->H' b\o)(r:Rd H' e (.dK (bY Key.inl cs)))(ne:e≠p)(nd:d≠e):Nr H0 H' p d e Ý cs:=⟨T.g.trans (tI k T.e),T.b.keep λ o h=>k _ _ h ne.symm,Kept.rd k T.d nd,r⟩
section
variable {K:Frag}{C:Nat->Addr}{MW:Addr}{H H0:Hp}{s p a b e d:Addr}{r:V}{t:Rl}{sc:List Int}{os:List (Int × Bool)}{cs us:List (Int × Nat)}{W D:Nat}{bw:Bool}{dl k:Int}{Ý:List (Key × V)}{ns:List Int}{o9 ś ŏ ũ:Option V}
structure OU (C:Nat->Addr)(H:Hp)(p:Addr)(r:V)(a b e d:Addr)(t:Rl)(sc:List Int)(os:List (Int × Bool))(cs:List (Int × Nat))(W:Nat)(bw:Bool)(dl:Int)(Ý:List (Key × V))(ns:List Int)(us:List (Int × Nat))(D:Nat):Prop where
 T:Nr H H p d e Ý cs
 ru:Ru C (nD H) t r
 ha:nD H a\.lst (sc.map V.int)
 hb:∃ xs,nD H b\.lst xs/\MF (nD H) xs os
 S:SY (nD H) t sc cs W Ý ns us D
 n1:d≠p
 n2:e≠p
 n3:e≠d
 bd:∀ o∈os,-99<=o.1/\o.1<=99
 lo:os.length=sc.length
 Ox:su t sc
 ss:DM sc
 d0:0<=dl
 d1:dl<2^t.ö.toNat
 sh:(t.share dl).1≠0
 N7:bw=true->sc=bU os
theorem OU.go {H':Hp}(A:OU C H p r a b e d t sc os cs W bw dl Ý ns us D)(T:Nr H H' p d e Ý cs):OU C H' p r a b e d t sc os cs W bw dl Ý ns us D :=
 ⟨⟨Ext.refl _,T.b,T.d,T.e⟩,A.ru.ext T.g,T.g _ _ A.ha,by obtain⟨xs,h1,h2⟩:=A.hb;exact⟨xs,T.g _ _ h1,h2.ext' T.g⟩,A.S.ext λ z xs h=>T.g _ _ h,A.n1,A.n2,A.n3,A.bd,A.lo,A.Ox,A.ss,A.d0,A.d1,A.sh,A.N7⟩
theorem OU.lk (A:OU C H p r a b e d t sc os cs W bw dl Ý ns us D):Ý.length=ns.length/\ns.length=us.length:=⟨Ė A.S.td.pr,by rw[A.S.td.pm.length_eq,Ç]⟩
theorem OU.kn (A:OU C H p r a b e d t sc os cs W bw dl Ý ns us D):Ý.map (·.1)=ns.map Key.inl:=by
 have h:=A.S.td.pr;generalize Ý = l at h;generalize ns=m at h
 induction h with
 | nil=>rfl
 | cons r t ih=>rw[É,É,r.1,ih]
theorem OU.so (A:OU C H p r a b e d t sc os cs W bw dl Ý ns us D){ms:List Int}(pm:ms.Perm (cs.map (·.1)))(so:ms.Pairwise (· <= ·)):ms=ns:=by
 have S:=A.S;refine lQ so S.td.so (pm.nodup_iff.mpr S.ct.ok.nd) (S.td.pm.nodup_iff.mpr S.sp.ok.nd) λ x=>?_;rw[pm.mem_iff,S.td.pm.mem_iff,S.ct.keys S.sp S.ok (Od S.fk)]
theorem iU (i:Int):pd (.int i) (.int i):=⟨rfl,rfl,by show(i==i)=true;exact ū i⟩
theorem wt {Q:VK}{j:Nat}{σ:St}(sj:σ[j]?\some (.ref e))(re:Rd H e (.dK (bY Key.inl cs)))(q:∀ l (ms:List Int),H l=none->ms.Perm (cs.map (·.1))->ms.Pairwise (· <= ·)->Q (.ref l) (ak H l (.lst (ms.map V.int)))):jw iV (aw (af j) aS) σ H Q :=
 ⟨_,sj,e,_,cs.map (·.1),rfl,re,by unfold bY;rw[ā,ā];rfl,q⟩
theorem Ev {De:bH}{u:TS}(A:OU C H p r a b e d t sc os cs W bw dl Ý ns us D)(hd:H d\.dK Ý)(q:∀ H',Ext H H'->u De (lI s k p r a b bw e dl o9 ś (some (.ref d)) ũ) H'):aO (BN K) u De (lI s k p r a b bw e dl o9 ś (some (.ref d)) ũ) H:=by
 refine⟨_,rfl,_,_,_,true,rfl,.inl (.dK hd),rfl,_,rfl,dW ?_⟩;refine⟨_,rfl,d,Ý,rfl,.inl hd,λ l hl=>?_⟩;obtain⟨H1,x1,g1,eU⟩:=eD hl (.lst (Ý.map λ p=>kV p.1));rw[eU];refine wt rfl (dM A.T.e x1) λ l2 ms Pr pm so=>?_;obtain⟨H2,x2,g2,eU⟩:=eD Pr (.lst (ms.map V.int));rw[eU];have e1:(Ý.map λ p=>kV p.1)=ns.map V.int:=by
  have:=ý (List.map kV) A.kn;rw[ā,ā] at this;exact this
 have e2:=A.so pm so;subst e2;rw[e1] at g1;refine⟨l,l2,_,_,rfl,rfl,.inr ⟨Ğ.of (x2 _ _ g1),Ğ.of g2⟩,rfl,λ i x y h1 h2=>?_,_,rfl,dW (q H2 (x1.trans x2))⟩;rw[h1] at h2;cases h2;rw[Ô] at h1;obtain⟨v,_,rfl⟩:=Û.mp h1;exact .inr (iU v)
theorem Ds {Q:VK}(A:OU C H p r a b e d t sc os cs W bw dl Ý ns us D)(q:∀ L zs H',Ext H H'->H' L\.lst zs->Paired (λ z n=>SZ H' z (aM (de cs n) W) (ar (de cs n) W)) zs ns->Q (.ref L) H'):F8 K (lI s k p r a b bw e dl o9 (some (.int (W:Nat))) ŏ ũ) H Q:=by
 have S:=A.S;have lk:=A.lk;refine wt (j:=7) rfl A.T.e λ l ms hl pm so=>?_;refine Â λ gg=>?_;have e2:=A.so pm so;subst e2;obtain⟨H1,x1,g1,eU⟩:=eD hl (.lst (ms.map V.int));refine gg ?_;rw[eU];have lz:ms.length<sizeLine:=by
  have:=S.l5;rw[è]
  lia
 refine⟨l,rfl,⟨_,Ğ.of g1⟩,λ L hL=>?_⟩;refine eY (a:=l) (xs:=ms.map V.int) (cap:=[some (.ref e),some (.int (W:Nat))]) (λ i ys H'=>Ext H1 H'/\Paired (λ z n=>SZ H' z (aM (de cs n) W) (ar (de cs n) W)) ys (ms.take i)) (by rw[Ç];exact lz) ⟨Ext.new hL,.nil⟩ (λ i ys H' pv=>Ğ.of (pv.1 _ _ g1)) ?_ ?_
 ·rintro i x ys H' ex ly Ŕ ⟨x',pr⟩ os ų R kk;rw[Ô] at ex;obtain⟨v,ev,rfl⟩:=Û.mp ex;have vm:v∈cs.map (·.1):=pm.mem_iff.mp (ß ev)
  match os,ų with
  | [o0],_ =>
   have g:a9 (bY Key.inl cs) (.inl v)\.int (de cs v:Nat):=by
    rcases fg b6 v (ps:=cs) with⟨_,_,h⟩ | ⟨h,_⟩
    ·exact absurd vm h
    ·exact h
   refine⟨⟨[_],rfl,rfl⟩,_,rfl,_,rfl,e,_,rfl,.inl ⟨_,.inl v,dM (dM A.T.e x1) x',rfl,g.symm⟩,_,rfl,de cs v,W,rfl,S.ct.W0,È S.w (â av av),λ z hz=>?_⟩;have x4:=Ext.new (o:=.tup [.int (aM (de cs v) W:Nat),.int (ar (de cs v) W:Nat)]) hz;have QY:=x4 _ _ Ŕ;have kU:GX H' (ak (ak H' z (.tup [.int (aM (de cs v) W:Nat),.int (ar (de cs v) W:Nat)])) L (.lst (ys ++ [.ref z]))):=λ b xs h=>by
    rw[ai (λ y=>by rw[y,Ŕ] at h;cases h)]
    exact x4 _ _ h
   refine kk _ _ QY ⟨aZ _ (x'.trans x4) hL,?_⟩;rw[aC ev];refine dZ ⟨z,rfl,?_⟩ (Paired.imp' (λ _ _ h=>h.kp kU) pr);rw[ai (λ y=>by rw[y,Ŕ] at hz;cases hz)]
   exact bz
 ·rintro ys H' ly Ŕ ⟨x',pr⟩;rw[Ç,ä] at pr;exact q L ys H' (x1.trans x') Ŕ pr
theorem Di {g:R2}{ta tb:TE}{v u:TS}{De:bH}{σ:St}(h:ta σ H λ x H1=>tb σ H1 λ y H2=>g x y H2 λ z H3=>∃ c,z=.bl c/\if c=true then v { De with nx:=λ σ H=>u De σ H } σ H3 else u De σ H3):aO (cE (tB (bR g ta tb)) v br) u De σ H:=h
theorem EW {De:bH}{u:TS}(A:OU C H p r a b e d t sc os cs W bw dl Ý ns us D)(q:∀ H',Nr H H' p d e Ý cs->u De (lI s k p r a b bw e dl o9 (some (.int (W:Nat))) (some (.ref d)) ũ) H'):aO (B3 K) u De (lI s k p r a b bw e dl o9 (some (.int (W:Nat))) (some (.ref d)) ũ) H:=by
 have S:=A.S;have lk:=A.lk;have l5:=S.l5;refine Di (sw (j:=11) (σ:=lI s k p r a b bw e dl o9 (some (.int (W:Nat))) (some (.ref d)) ũ) rfl rfl A.T.d (by rw[A.kn];exact List.Pairwise.map _ (λ x y n z=>n (b6 _ _ z)) (S.td.pm.nodup_iff.mpr S.sp.ok.nd)) ad λ L1 H1 k1 Z6 WG=>?_)
 have T1:=A.T.fz k1 Z6 A.n1 A.n3;have A1:=A.go T1;refine Ds A1 λ L2 zs H2 x2 hL2 pz=>?_;have lz:=Ė pz;refine⟨L1,L2,_,_,rfl,rfl,.inr ⟨Ğ.of (x2 _ _ WG),Ğ.of hL2⟩,by rw[Ç];lia,λ i x y h1 h2=>?_,_,rfl,dW (q H2 (T1.ext x2))⟩
 rw[Ô] at h1;obtain⟨kv,hk,rfl⟩:=Û.mp h1;obtain⟨n,en,e1,s1⟩:=cC (A1.S.td.ext (H':=H2) λ z xs h=>x2 _ _ (bP _ _ _ h)).pr hk;obtain⟨m,em,s2⟩:=cC pz h2;rw[en] at em;cases em;obtain⟨p1,e3,h3⟩:=s1;obtain⟨p2,e4,h4⟩:=s2;obtain⟨q1,q2⟩:=S.ct.Uq S.sp S.ok (Od S.fk) n;rw[q1,q2] at h3;refine .inr ⟨p1,p2,_,_,e3,e4,.inl ⟨Ĭ.of h3,Ĭ.of h4⟩,rfl,λ j x y h1 h2=>?_⟩;rw[h1] at h2;cases h2
 match j,h1 with
 | 0,h1=>cases h1;exact .inr (iU _)
 | 1,h1=>cases h1;exact .inr (iU _)
 | j+2,h1=>simp at h1
theorem Eo {De:bH}{u:TS}(A:OU C H p r a b e d t sc os cs W bw dl Ý ns us D)(q:∀ H',Nr H H' p d e Ý cs->u De (lI s k p r a b bw e dl o9 (some (.int (W:Nat))) (some (.ref d)) ũ) H'):aO B4 u De (lI s k p r a b bw e dl o9 (some (.int (W:Nat))) (some (.ref d)) ũ) H :=
 ⟨_,rfl,_,rfl,_,rfl,_,rfl,p,d,e,t,sc,cs,W,Ý,ns,us,D,rfl,A.T,A.S,A.n1,A.n2,A.n3,λ H' T=>⟨_,rfl,dW (q H' T)⟩⟩
end
section
variable {K:Frag}{C:Nat->Addr}{MW:Addr}{H H0:Hp}{s p a b e d:Addr}{r:V}{t:Rl}{sc:List Int}{os:List (Int × Bool)}{cs us:List (Int × Nat)}{W D:Nat}{bw:Bool}{dl k:Int}{Ý:List (Key × V)}{ns:List Int}{o9 ś ŏ ũ:Option V}
theorem Bj {Q:VK}(ha:H a\.lst (sc.map V.int))(NS:sc.length<=20)(q:∀ H',Ext H H'->Q (.int (lH dl sc)) H'):C9 K (lI s k p r a b bw e dl o9 ś ŏ ũ) H Q:=by
 have sz:=è;refine⟨_,rfl,a,rfl,⟨_,Ğ.of ha⟩,λ D hD=>?_⟩;refine lX (a:=a) (xs:=sc.map V.int) (cap:=[some (.int dl)]) (λ i ys H'=>Ext H H'/\ys=(((List.range i).filter (bt dl)).map λ j=>sc.getD j 0).map V.int) (by rw[Ç];lia) ⟨Ext.new hD,rfl⟩ (λ i ys H' pv=>Ğ.of (pv.1 _ _ ha)) ?_ ?_
 ·rintro i y ys H' p ey ly v_ ⟨x',Qn⟩ hp os ų N kN;obtain⟨o0,o1,rfl⟩:∃ o0 o1,os=[o0,o1]:=by
   match os,ų with
   | [o0,o1],_=>exact⟨o0,o1,rfl⟩
  rw[Ô] at ey;obtain⟨n,en,rfl⟩:=Û.mp ey;obtain⟨H2,xp,gp,eU⟩:=eD hp (.tup [.int (i:Nat),.int n]);rw[eU];have x2:=x'.trans xp;refine⟨p,_,rfl,Ĭ.of gp,rfl,_,_,rfl,_,_,rfl,rfl,⟨[some (.int (i:Nat)),some (.int n)],rfl,rfl⟩,?_⟩;refine⟨_,rfl,_,rfl,_,_,rfl,rfl,ad,_,_,rfl,rfl,rfl,_,rfl,?_⟩;have es:Builtin.bitAnd (dl/2^((i:Nat):Int).toNat) 1=dl/2^i%2:=by rw[RH,Ü]
  have ei:((List.range (i+1)).filter (bt dl)).map (λ j=>sc.getD j 0)=((List.range i).filter (bt dl)).map (λ j=>sc.getD j 0)++(if bt dl i=true then [n] else []):=by
   rw[η,d_,Ø]
   congr 1
   rw[Ů];split
   ·show [sc.getD i 0]=[n];rw[ą,en];rfl
   ·rfl
  refine⟨λ z=>kN ys H2 ⟨x2,?_⟩ ad (xp _ _ v_),λ z=>⟨_,rfl,xp _ _ v_,kN _ _ ⟨aZ _ x2 hD,?_⟩ (by rw[Õ];show ys.length+1<=i+1;lia) bz⟩⟩
  ·have eb:bt dl i=false:=Ò λ e=>decide_eq_false_iff_not.mp z (ý V.int (es.trans e));rw[ei,eb,Æ av,Ľ];exact Qn
  ·have eb:bt dl i=true:=Ê (es.symm.trans (V.int.inj (Þ z)));rw[ei,Ë eb,Ø,<- Qn];rfl
 ·rintro ys H' ly v_ ⟨x',Qn⟩;rw[Ç] at Qn;rw[Qn] at v_;refine⟨D,_,rfl,Ğ.of v_,?_⟩;rw[qd];exact q H' x'
theorem B0 {Q:VK}{v:Int}(re:Rd H e (.dK (bY Key.inl cs)))(ok:Mq cs)(ln:cs.length<=2^20)(q:∀ H',(∀ b o,H b\o->b≠e->H' b\o)->Rd H' e (.dK (bY Key.inl cs))->Q (.int (dS (λ x=>if decide (v<=x)=true then 1 else 0) cs:Nat)) H'):zg K (lI s k p r a b bw e dl (some (.int v)) ś ŏ ũ) H Q:=by
 refine⟨_,rfl,e,.dK (bY Key.inl cs),rfl,True.intro,re,λ ob H2 fz L hL=>?_⟩;refine tf (n:=cs.length) (cap:=[some (.ref e),some (.int v)]) (λ i ys H'=>Ext H2 H'/\ys=((du (λ x=>decide (v<=x)) (cs.take i)).map λ n=>((n:Nat):Int)).map V.int) (by rw[è];lia) ⟨Ext.new hL,rfl⟩ (λ i ys H' hi p=>⟨p.1 _ _ fz.1,by show i<(bY Key.inl cs).length;rw[eB];exact hi⟩) (λ ys H' p=>⟨p.1 _ _ fz.1,by show(bY Key.inl cs).length<=_;rw[eB];exact Å _⟩) ?_ ?_
 ·rintro i x ys H' H3 hi ⟨rfl,w,pr⟩ ly Ŕ ⟨x',rfl⟩ P7 ų N kk;rcases pr with⟨Ur,kx,e1,hk,rfl⟩ | ⟨_,_,_,e1,_⟩
  ·cases e1;have hk2:=hk;unfold bY at hk;rw[Ô] at hk;obtain⟨q,eq,e2⟩:=Û.mp hk;cases e2
   match P7,ų with
   | [o0],_ =>
    refine⟨⟨[some (.int q.1)],rfl,rfl⟩,_,rfl,_,rfl,_,_,rfl,rfl,_,rfl,λ z=>?_,λ z=>?_⟩
    ·refine kk _ _ ⟨x',?_⟩ ad Ŕ;rw[aC eq,cQ,Æ (by rw[show decide (v<=q.1)=false from z];decide)]
    ·refine⟨_,rfl,_,rfl,e,_,rfl,.inl ⟨_,.inl q.1,.inr ⟨ob,x' _ _ fz.1⟩,rfl,(fY (wu ok) (ß hk2)).symm⟩,Ŕ,kk _ _ ⟨aZ _ x' hL,?_⟩ (by rw[Õ,Ν];lia) bz⟩
     rw[aC eq,cQ,Ë (show decide (v<=q.1)=true from z),Ø,Ø];rfl
  ·cases e1
 ·rintro ys H' ly Ŕ ⟨x',rfl⟩;refine⟨L,_,rfl,Ğ.of Ŕ,?_⟩;rw[ä,rp,jK];exact q H' (λ b o h n=>x' _ _ (by rw[fz.2 b n];exact h)) (.inr ⟨ob,x' _ _ fz.1⟩)
theorem By {De:bH}(A:OU C H p r a b e d t sc os cs W bw dl Ý ns us D)(q:∀ H' o9 ũ,Ext (nD H) (nD H')->De.nx (lI s k p r a b bw e dl o9 (some (.int (W:Nat))) (some (.ref d)) ũ) H'):Eu K C MW De (lI s k p r a b bw e dl o9 (some (.int (W:Nat))) (some (.ref d)) ũ) H:=by
 have S:=A.S;have hk:(sc.length:Int)<=t.ö:=Od S.fk;have NS:sc.length<=20:=by have:=(Rl.Ķ S.ok).2;have:=S.fk;lia
 cases bw with
 | false=>exact⟨_,rfl,_,rfl,dW (q H _ _ (Ext.refl _))⟩
 | true =>
  have N7:=A.N7 rfl;refine⟨_,rfl,_,rfl,fU ?_⟩;refine aE (te:=C9 K) (i:=9) (Bj (bP _ _ _ A.ha) NS λ H1 x1=>?_);have T1:=A.T.ext x1;show aO (bQ (zg K) (aJ 12)) (Cg K C MW) _ (lI s k p r a b true e dl (some (.int (lH dl sc))) (some (.int (W:Nat))) (some (.ref d)) ũ) H1;refine aE (te:=zg K) (i:=12) (B0 T1.e S.ct.ok S.ln λ H2 k2 r2=>?_);have T2:=T1.fe k2 r2 A.n2 A.n3.symm;have A2:=A.go T2;obtain⟨xs,hb,oc⟩:=A2.hb;show Cg K C MW _ (lI s k p r a b true e dl (some (.int (lH dl sc))) (some (.int (W:Nat))) (some (.ref d)) (some (.int _))) H2;refine⟨_,rfl,_,rfl,λ m dm hm hdm ne=>FA hm hdm ne λ H3 x3 wi=>⟨rfl,_,rfl,?_⟩⟩;have fk:=S.fk;refine⟨r,b,.ref m,dl,t,xs,os,rfl,wi,A2.ru.ext x3.nd,S.ok,x3 _ _ (bP _ _ _ hb),(oc.ext' (bP _)).ext' x3,A.bd,by rw[<- fk,A.lo],A.d0,A.d1,A.sh,N7 ▸ A.Ox,N7 ▸ A.ss,λ z vs D' H4 x4 sp sq=>?_⟩
  rw[<- N7] at sp sq;obtain⟨q1,q2⟩:=S.ct.low sp S.ok hk λ v=>if decide (lH dl sc<=v)=true then 1 else 0
  rw[q1,q2] at sq;refine⟨_,rfl,_,rfl,_,W,rfl,S.ct.W0,È S.w (â av av),λ y hy=>?_⟩;refine⟨z,y,_,_,rfl,rfl,My.Ĭ.ext sq (Ext.new hy),Ĭ.of bz,rfl,rfl,_,rfl,?_⟩;rw[wo];exact dW (q _ _ _ (((T2.g.trans x3.nd).trans x4.nd).trans (Ext.new hy).nd))
theorem BJ {Q:VK}(re:Rd H e (.dK (bY Key.inl cs)))(ok:Mq cs)(ln:cs.length<=2^20)(one:dS (λ _=>1) cs=W)(q:∀ H',(∀ b o,H b\o->b≠e->H' b\o)->Rd H' e (.dK (bY Key.inl cs))->Q (.int (W:Nat)) H'):vL K (lI s k p r a b bw e dl o9 ś ŏ ũ) H Q:=by
 have h:iu (jE (af 7)) 1 [7] (aJ 0) (bL (af 1) (af 0)) (lI s k p r a b bw e dl o9 ś ŏ ũ) H λ x H1=>aS (lI s k p r a b bw e dl o9 ś ŏ ũ) H1 λ ys H2=>gY K (x::ys) H2 Q:=by
  refine sw (j:=7) (σ:=lI s k p r a b bw e dl o9 ś ŏ ũ) rfl rfl re (wu ok) (by rw[eB];exact ln) λ L H' k' r' hL=>?_
  rw[we] at hL;refine⟨L,_,rfl,Ğ.of hL,?_⟩;rw[yd,one];exact q H' k' r'
 exact h
end
section
variable {P:Program}{w:World}{K:Frag}{mg:bD}{base:Heap}{C:Nat->Addr}{CN MW f fW a1 a2 a3 a4 a5 a6 a7:Addr}{fd eW d1 d2 d3 d4 d5 d6 d7:FuncData}
theorem uh {cs:List (Int × Nat)}{l s a:Int}:bY Key.inl cs≠cb l s a:=λ h=>by
 cases cs with
 | nil=>cases h
 | cons p r=>injection h with h _;injection h with h _;cases h
theorem zp {De:bH}{H:Hp}{s:Addr}{xs:List Int}{k:Int}{o2 o3 o4 o5 o6 o7 o8 o9 ś ŏ ũ:Option V}(hs:Ğ K (nD H) s (xs.map V.int))(k0:0<=k)(q:∀ H' o2 o3 o4 o5 o6 o7 o8 o9 ś ŏ ũ,Ğ K (nD H') s (xs.map V.int)->De.nx [some (.ref s),some (.int k),o2,o3,o4,o5,o6,o7,o8,o9,ś,ŏ,ũ] H'):vG K C MW De [some (.ref s),some (.int k),o2,o3,o4,o5,o6,o7,o8,o9,ś,ŏ,ũ] H:=by
 refine aE (te:=cV iK [] E0 (aw (cV (kJ K) [] E0 (aw (af 0) (aw (af 1) aS))) aS)) (i:=2) ⟨_,rfl,_,rfl,s,xs,k,rfl,My.Ğ.ext hs (bP H),k0,λ c=>⟨c,rfl,λ p H1 hp bx kp=>?_⟩⟩;have x1:Ext H H1:=λ b o h=>kp b o h (ap h hp);refine⟨_,rfl,p,rfl,bx,λ L r a b e t sc os cs W bw dl H2 f2 hL dn=>⟨L,_,rfl,Ğ.of hL,rfl,_,_,rfl,_,_,rfl,_,_,rfl,_,_,rfl,_,_,rfl,_,_,rfl,rfl,?_⟩⟩;have n2:e≠p:=λ z=>by
  obtain⟨l,s,a,g,_⟩:=f2.b.ex;have:=dn.hc;rw[z,g] at this;exact uh (HO.dK.inj (á this)).symm
 have g2:Ext (nD H) (nD H2):=x1.nd.trans (xc f2 bx);obtain⟨ys,hb,oc⟩:=dn.ho;show aO (bQ (vL K) (aJ 10)) _ De (lI s k p r a b bw e dl o9 ś ŏ ũ) H2;refine aE (te:=vL K) (i:=10) (BJ (.inl dn.hc) dn.ct.ok dn.ln dn.ct.one λ H3 k3 r3=>?_);have g3:=tI k3 (.inl dn.hc);have b3:Ď H3 p:=f2.b.keep λ o h=>k3 _ _ h n2.symm;show aO (bQ (zE C) (aJ 11)) _ De (lI s k p r a b bw e dl o9 (some (.int (W:Nat))) ŏ ũ) H3;have Rs:nD H3 a\.lst (sc.map V.int):=g3 _ _ (dF dn.hs rfl);refine aE (te:=zE C) (i:=11) ⟨_,rfl,_,rfl,r,a,t,sc,rfl,dn.ru.ext g3,dn.ok,bP _ _ _ Rs,dn.fk,dn.Ox,dn.ss,λ d H4 Ý ns us D x4 u_ hd td sp l5=>?_⟩;have n1:d≠p:=λ z=>by
  obtain⟨l,s,a,g,_⟩:=b3.ex;rw[z,g] at u_;cases u_
 have n3:e≠d:=λ z=>by
  rcases r3 with g | ⟨_,g⟩ <;> rw[z,u_] at g <;> cases g
 have g4:=g3.trans x4.nd;have A:OU C H4 p r a b e d t sc os cs W bw dl Ý ns us D:=⟨⟨Ext.refl _,b3.ext x4,.inl hd,dM r3 x4⟩,dn.ru.ext g4,x4.nd _ _ Rs,⟨ys,g4 _ _ (dF hb rfl),⟨oc.1,λ i x o h1 h2=>by
  obtain⟨z,e1,h⟩:=oc.2 i x o h1 h2;exact⟨z,e1,g4 _ _ (dF h rfl)⟩⟩⟩,⟨dn.ok,dn.fk,dn.ct,dn.w,dn.ln,td.ext λ z xs h=>dF h rfl,sp,l5⟩,n1,n2,n3,dn.bd,dn.lo,dn.Ox,dn.ss,dn.d0,dn.d1,dn.sh,dn.N7⟩
 show FW K C MW De (lI s k p r a b bw e dl o9 (some (.int (W:Nat))) (some (.ref d)) ũ) H4;refine Ev A hd λ H5 x5=>?_;have A5:=A.go (A.T.ext x5);refine EW A5 λ H6 T6=>?_;have A6:=A5.go T6;refine Eo A6 λ H7 T7=>?_;exact By (A6.go T7) λ H8 o9 ũ x8=>q H8 _ _ _ _ _ _ _ _ _ _ _ (My.Ğ.ext hs (((((g2.trans g4).trans x5.nd).trans T6.g).trans T7.g).trans x8))
theorem Bi (F:Ļ K "law" "law" nZ f fd) (D:Dl P w K mg base C MW fW a1 a2 a3 a4 a5 a6 a7 eW d1 d2 d3 d4 d5 d6 d7):ð P w K mg base az 14 f fd ["_law_script"] (sO K):=by
 refine cj F Oh λ cdv A outer s H vs Q E hr h=>?_;obtain⟨a,xs,rfl,hs,l63,_,q⟩:=h;refine wK (Dp D hr) ⟨?_⟩;have hs0:Ğ K (nD H) a (xs.map V.int):=by
  rcases hs with(h | ⟨o,h⟩) | h
  ·exact .inl (.inl (dF h rfl))
  ·exact .inl (.inr ⟨o,dF h rfl⟩)
  ·exact .inr h
 have lx:(xs.map V.int).length=xs.length:=Ç _;refine⟨_,rfl,a,_,rfl,.inl hs,_,_,rfl,_,_,rfl,_,rfl,by(repeat' split) <;> lia,by(repeat' split) <;> lia,?_⟩
 refine jf (lo:=0) (λ i σ H'=>Ğ K (nD H') a (xs.map V.int)/\∃ o1 o2 o3 o4 o5 o6 o7 o8 o9 ś ŏ ũ,σ=[some (.ref a),o1,o2,o3,o4,o5,o6,o7,o8,o9,ś,ŏ,ũ]) ⟨hs0,_,_,_,_,_,_,_,_,_,_,_,_,rfl⟩ ?_ ?_
 ·rintro i σ H1 hi ⟨h1,o1,o2,o3,o4,o5,o6,o7,o8,o9,ś,ŏ,ũ,rfl⟩;exact zp h1 ad λ H' o2 o3 o4 o5 o6 o7 o8 o9 ś ŏ ũ h'=>⟨h',_,_,_,_,_,_,_,_,_,_,_,_,rfl⟩
 ·rintro σ H1 ⟨_,o1,o2,o3,o4,o5,o6,o7,o8,o9,ś,ŏ,ũ,rfl⟩;exact q H1
end
abbrev BP (nm qn:Str)(st:Stmt)(ps:List Str):Prop:=∀(kV doc pm:Value)(an:Option Addr)(cdv ct:Value)(us:List Value),us.length=ps.length->bindArgs (PySem.W.fnOf nm qn (cU st) (aH st) (aa st) .none kV doc pm an cdv ct) ⟨us,[]⟩=pure (ps.zip us)
abbrev BQ (nm qn:Str)(st:Stmt)(ps:List Str)(us:List Value):Prop:=∀(kV doc pm:Value)(an:Option Addr)(cdv ct:Value),bindArgs (PySem.W.fnOf nm qn (cU st) (aH st) (aa st) .none kV doc pm an cdv ct) ⟨us,[]⟩=pure (ps.zip us)
theorem b1 {nm qn a:Str}{st:Stmt}(h:∀ u,BQ nm qn st [a] [u]:=by exact λ _ _ _ _ _ _ _=>rfl):BP nm qn st [a]:=λ _ _ _ _ _ _ us hl=>match us,hl with | [_],_=>h _ _ _ _ _ _ _
theorem b2 {nm qn a b:Str}{st:Stmt}(h:∀ u v,BQ nm qn st [a,b] [u,v]:=by exact λ _ _ _ _ _ _ _ _=>rfl):BP nm qn st [a,b]:=λ _ _ _ _ _ _ us hl=>match us,hl with | [_,_],_=>h _ _ _ _ _ _ _ _
theorem b3 {nm qn a b c:Str}{st:Stmt}(h:∀ u v w,BQ nm qn st [a,b,c] [u,v,w]:=by exact λ _ _ _ _ _ _ _ _ _=>rfl):BP nm qn st [a,b,c]:=λ _ _ _ _ _ _ us hl=>match us,hl with | [_,_,_],_=>h _ _ _ _ _ _ _ _ _
theorem b4 {nm qn a b c d:Str}{st:Stmt}(h:∀ u v w x,BQ nm qn st [a,b,c,d] [u,v,w,x]:=by exact λ _ _ _ _ _ _ _ _ _ _=>rfl):BP nm qn st [a,b,c,d]:=λ _ _ _ _ _ _ us hl=>match us,hl with | [_,_,_,_],_=>h _ _ _ _ _ _ _ _ _ _
theorem b5 {nm qn a b c d e:Str}{st:Stmt}(h:∀ u v w x y,BQ nm qn st [a,b,c,d,e] [u,v,w,x,y]:=by exact λ _ _ _ _ _ _ _ _ _ _ _=>rfl):BP nm qn st [a,b,c,d,e]:=λ _ _ _ _ _ _ us hl=>match us,hl with | [_,_,_,_,_],_=>h _ _ _ _ _ _ _ _ _ _ _
abbrev OQ (K:Frag)(mg:bD)(D:Addr)(nm fl:Str)(C f:Addr)(fd:FuncData):Prop:=Α K D->mg "DealError"\.ref D->rh K mg D nm fl C f fd
theorem zA {K:Frag}{mg:bD}{D C f:Addr}{fd:FuncData}{nm qn fl txt:Str}{st:Stmt}(T:a_ K D nm C f)(mC:mg nm\.ref C)(F:Ļ K "__init__" qn st f fd) (tk:takerIn K C fl\none) (S:ag ["self",fl] ["self",fl] (aa st)) (hb:BP "__init__" qn st ["self",fl])
  (Oz:Α K D->mg "DealError"\.ref D->∀(P:Program)(w:World)(base:Heap)(cdv:Value)(A:Around)(outer:List Env)(s:Shared)(H:Hp)(E:XK),ο (b9 az P w K mg base ["self",fl] qn (aa st) f cdv A outer s H E).K' (aH st) (aO (jW (K8 (af 0) (tC (.str txt)) C)) (Gh K C (af 0) (af 1) fl))):OQ K mg D nm fl C f fd:=by
 refine λ B mD=>⟨T,mC,λ P w base=>?_,F.binds hb⟩;refine F.ok S (λ vs H Q E h=>?_) (λ cdv A outer s H vs Q E hr h=>?_)
 ·obtain⟨x,v,rfl,_⟩:=h;rfl
 obtain⟨x,v,rfl,hx,q⟩:=h;exact⟨_,Oz B mD P w base cdv A outer s H E,_,rfl,x,rfl,hx,_,rfl,_,rfl,x,rfl,hx,tk,q⟩
abbrev GV:Stmt:=bn (bT 3) 0
theorem of3 {K:Frag}{mg:bD}{D C f:Addr}{fd:FuncData}(T:a_ K D "NoShare" C f) (mC:mg "NoShare"\.ref C) (F:Ļ K "__init__" "NoShare.__init__" GV f fd) (tk:takerIn K C "found"\none):OQ K mg D "NoShare" "found" C f fd :=
 zA T mC F tk aL b2 λ B mD _ _ _ _ _ _ _ _ _=>bA (aG (dY B T rfl mD (pv 0) lY)) (aW (nj T (pv 0) (pv 1) rfl))
abbrev GQ:Stmt:=bn (bT 4) 0
theorem of4 {K:Frag}{mg:bD}{D C f:Addr}{fd:FuncData}(T:a_ K D "NoNumber" C f) (mC:mg "NoNumber"\.ref C) (F:Ļ K "__init__" "NoNumber.__init__" GQ f fd) (tk:takerIn K C "found"\none):OQ K mg D "NoNumber" "found" C f fd :=
 zA T mC F tk aL b2 λ B mD _ _ _ _ _ _ _ _ _=>bA (aG (dY B T rfl mD (pv 0) lY)) (aW (nj T (pv 0) (pv 1) rfl))
abbrev Hg:Stmt:=bn (bT 5) 0
theorem of5 {K:Frag}{mg:bD}{D C f:Addr}{fd:FuncData}(T:a_ K D "NoFolk" C f) (mC:mg "NoFolk"\.ref C) (F:Ļ K "__init__" "NoFolk.__init__" Hg f fd) (tk:takerIn K C "found"\none):OQ K mg D "NoFolk" "found" C f fd :=
 zA T mC F tk aL b2 λ B mD _ _ _ _ _ _ _ _ _=>bA (aG (dY B T rfl mD (pv 0) lY)) (aW (nj T (pv 0) (pv 1) rfl))
abbrev Hd:Stmt:=bn (bT 7) 0
theorem Z_ {K:Frag}{mg:bD}{D C f:Addr}{fd:FuncData}(T:a_ K D "NoOutcome" C f) (mC:mg "NoOutcome"\.ref C) (F:Ļ K "__init__" "NoOutcome.__init__" Hd f fd) (tk:takerIn K C "place"\none):OQ K mg D "NoOutcome" "place" C f fd :=
 zA T mC F tk aL b2 λ B mD _ _ _ _ _ _ _ _ _=>bA (aG (dY B T rfl mD (pv 0) lY)) (aW (nj T (pv 0) (pv 1) rfl))
theorem cw {K:Frag}{C:Addr}{n:String}{b:Bool}(hm:kitMeta n=true)(h:mroIn K C (.type n)\b):kitOne K (.ref C) (.type n)\b:=by
 unfold kitOne;rw[Æ (by intro e;cases þ.mp e)]
 show(if kitMeta n=true then subIn K (.ref C) (.type n) else none)=_
 rw[Ë hm];exact h
theorem cy {K:Frag}{C C':Addr}{b:Bool}(hc:isClsIn K C'=true)(ht:typeIn K (.ref C')\.type "type") (hs:mroIn K C' (.ref C')\true) (hm:mroIn K C (.ref C')\b):kitOne K (.ref C) (.ref C')\b:=by
 unfold kitOne;by_cases e:C=C'
 ·subst e;rw[hs] at hm;cases hm;rw[Ë (ū _)]
 ·rw[Æ (by intro z;exact e (Value.ref.inj (þ.mp z)))]
  show(if((clsIn K C').isSome&&typeIn K (.ref C')==some (.type "type"))=true then subIn K (.ref C) (.ref C') else none)=_
  have Rr:(clsIn K C').isSome=true:=hc;rw[Rr,ht];simp only[beq_self_eq_true,Bool.and_self,if_true];exact hm
structure Dm (K:Frag)(nm qual:Str)(st:Stmt)(ps:List Str)(f:Addr)(fd:FuncData):Prop where
 fn:Ļ K nm qual st f fd
 bi:Binds K fd ps []
 kp:keepIn K (.ref f)=true
 Os:isFn K (.ref f)=true
def Ex:Value->Bool
 | .str _ _=>true
 | _=>false
theorem OG {es:Array DictEntry}(h:(es.toList.all λ e=>Ex e.key)=true):StrKeys es:=λ e he=>by
 have z:=C_.mp h e (by simpa using he)
 cases k:e.key with
 | str n t=>exact⟨n,t,rfl⟩
 | _=>rw[k] at z;cases z
theorem mY {K:Frag}{C:Addr}{cd:ClassData}{b:Value}(h:clsIn K C\cd)(hb:cd.mro.isEmpty=false)(hc:cd.mro.contains b=true):mroIn K C b\true:=by
 unfold mroIn;rw[h,OD,hb,hc];rfl
theorem Q4 {K:Frag}{D N:Addr}{nm q:Str}{bs:List Value}{sn:List Str}{sub:List Value}{ab:Bool}{col:Option Bool}{dd:Option Addr}{k0 k1 k2 k3 k5:Option Value}
  {cN:Value} {dN:Option Addr} {es:Array DictEntry} {ep:Nat} {sN:Array (Option Value)}
  (lD:K.lookup D\excClassObj nm q D N bs uM true sn sub ab col dd k0 k1 k2 k3 k5 "ValueError.__new__")
  (lN:K.lookup N\⟨cN,dN,.dict es ep,sN⟩) (sk:StrKeys es) (ni:nsFind es "__init__" = none)
  (ga:specialIn K (.ref D) "__getattribute__"\some (.builtin "type.__getattribute__")) (rd:readsIn K D (.type "type")=true)
  (Uv:findCls K (.ref D) (.type "type") "__init__"\.val (.builtin "ValueError.__init__")) (fi:findIn K (.ref D) "__init__"\some (.builtin "ValueError.__init__")) (kp:keepIn K (.ref D)=true)
  (gb:findIn K (.ref D) "__getattribute__"\some (.builtin Ap)) (hk:findIn K (.ref D) "__getattr__"\none) (ca:findIn K (.ref D) "__class__"\some (.builtin "object.__class__")):Α K D:=by
 have hc:clsIn K D=some { name:=nm,bases:=bs,mro:=.ref D::uM,ns:=N,qualname:=q,hasDict:=true,slotNames:=sn,subclasses:=sub,abstract:=ab,collection:=col,hasDel:=false }:=by
  unfold clsIn;rw[lD]
 refine⟨⟨nm,q,N,bs,sn,sub,ab,col,dd,k0,k1,k2,k3,k5,lD,_,es,ep,lN,rfl,sk,ni⟩,ga,rd,Uv,fi,kp,⟨by rw[hc];rfl,gb,hk,mY hc rfl ?_,mY hc rfl ?_,ca⟩⟩
 ·show(Value.ref D::uM).contains (.type "BaseException")=true;rw[Ŏ];rfl
 ·show(Value.ref D::uM).contains (.type "object")=true;rw[Ŏ];rfl
theorem N1 {K:Frag}{D C N f:Addr}(nm:Str)
  {q:Str} {bs:List Value} {sn:List Str} {sub:List Value} {ab:Bool} {col:Option Bool} {dd:Option Addr} {k0 k1 k2 k3 k5:Option Value}
  (lC:K.lookup C\excClassObj nm q C N bs (.ref D::uM) true sn sub ab col dd k0 k1 k2 k3 k5 "ValueError.__new__")
  (Uv:findIn K (.ref C) "__init__"\some (.ref f)) (fn:typeIn K (.ref f)\.type "function") (kp:keepIn K (.ref C)=true)
  (sa:findIn K (.ref C) "__setattr__"\some (.builtin "object.__setattr__")) (ga:findIn K (.ref C) "__getattribute__"\some (.builtin Ap)) (hk:findIn K (.ref C) "__getattr__"\none)
  (ca:findIn K (.ref C) "__class__"\some (.builtin "object.__class__")):a_ K D nm C f:=by
 have hc:clsIn K C=some { name:=nm,bases:=bs,mro:=.ref C :: .ref D::uM,ns:=N,qualname:=q,hasDict:=true,slotNames:=sn,subclasses:=sub,abstract:=ab,collection:=col,hasDel:=false }:=by
  unfold clsIn;rw[lC]
 refine⟨⟨q,N,bs,sn,sub,ab,col,dd,k0,k1,k2,k3,k5,lC⟩,Uv,fn,kp,sa,⟨by rw[hc];rfl,ga,hk,mY hc rfl ?_,mY hc rfl ?_,ca⟩⟩
 ·show(Value.ref C :: .ref D::uM).contains (.type "BaseException")=true;rw[Ŏ,Ŏ];rfl
 ·show(Value.ref C :: .ref D::uM).contains (.type "object")=true;rw[Ŏ,Ŏ];rfl
structure Dn (K:Frag)(mg:bD)(nm:Str)(st:Stmt)(ps:List Str)(f:Addr)(fd:FuncData):Prop where
 fn:Ļ K nm nm st f fd
 bi:Binds K fd ps []
 kp:keepIn K (.ref f)=true
 mg:mg nm\.ref f
section
variable {P:Program}{w:World}{K:Frag}{mg:bD}{base:Heap}
theorem Dn.df {nm:Str}{st:Stmt}{ps:List Str}{f:Addr}{fd:FuncData}(d:Dn K mg nm st ps f fd){cx:qp}{k:Nat}{sp:Sp}(h:ð P w K mg base cx k f fd ps sp):Df P w K mg base cx k nm ps sp f fd:=⟨h,d.bi,d.kp,d.mg⟩
end
def yt (a b c:Addr):Nat->Addr
 | 0=>a
 | 1=>b
 | _=>c
theorem tP {K:Frag}{p:Addr}{i j:Nat}{od:Option Addr}{t u:Tok}{n:Nat}{sl:Array (Option Value)}(l:K.lookup p\⟨.type "tuple",od,.seq #[.int i t,.int j u] n,sl⟩):lF K p [.int i,.int j] :=
 ⟨_,_,_,l,rfl,rfl,er,.cons ⟨_,rfl⟩ (.cons ⟨_,rfl⟩ .nil)⟩
structure Cf (K:Frag)(C:Addr):Prop where
 cls:PO K C
 Ve:makesIn K C=true
 kp:keepIn K (.ref C)=true
 ca:findIn K (.ref C) "__class__"\some (.builtin "object.__class__")
 hm:mroIn K C (.type "object")\true
 QQ:isClsIn K C=true
 QO:typeIn K (.ref C)\.type "type"
theorem UQ {K:Frag}{C:Addr}(h1:plainGet K C Str.empty=true)(h2:hasDictIn K C=true)(h3:plainOver K C=true)(h4:findIn K (.ref C) "__setattr__"\some (.builtin "object.__setattr__")) (h5:makesIn K C=true) (h6:keepIn K (.ref C)=true) (h7:findIn K (.ref C) "__class__"\some (.builtin "object.__class__")) (h8:mroIn K C (.type "object")\true) (h9:isClsIn K C=true) (h0:typeIn K (.ref C)\.type "type"):Cf K C:=⟨⟨h1,h2,h3,h4⟩,h5,h6,h7,h8,h9,h0⟩
def Q5 (K:Frag)(C:Addr):List Str->Prop
 | []=>True
 | f::l=>findIn K (.ref C) f\none/\Q5 K C l
theorem noS {K:Frag}{C:Addr}{f:Str}{l:List Str}(h:findIn K (.ref C) f\none)(t:Q5 K C l):Q5 K C (f::l):=⟨h,t⟩
theorem Q5.all {K:Frag}{C:Addr}:∀{l:List Str},Q5 K C l->∀ f∈l,ν K C f
 | _::_,h,f,hf=>by
  rcases Ö.mp hf with rfl | hf
  ·exact h.1
  ·exact h.2.all f hf
def zv (K:Frag)(C:Addr):List (Value × Bool)->Prop
 | []=>True
 | x::l=>mroIn K C x.1\x.2/\zv K C l
theorem mrS {K:Frag}{C:Addr}{v:Value}{b:Bool}{l:List (Value × Bool)}(h:mroIn K C v\b)(t:zv K C l):zv K C ((v,b)::l):=⟨h,t⟩
theorem Ć {nm:Str}{st:Stmt}{ps:List Str}(hb:BP nm nm st ps){K:Frag}{h:Heap}{mg:bD}{g:Addr}{oc kV dc pm cd ct:Value}{od an:Option Addr}{sl:Array (Option Value)}(X:K.In h)(G:h.Ns mainGlobals mg)
  (a:nsIn K mainGlobals nm\some (.ref g)) (l:K.lookup g\⟨oc,od,.func (fnOf nm nm (cU st) (aH st) (aa st) .none kV dc pm an cd ct),sl⟩) (c:codeIn K cd nm=true) (k:keepIn K (.ref g)=true) :
  Dn K mg nm st ps g (fnOf nm nm (cU st) (aH st) (aa st) .none kV dc pm an cd ct):=by
 have F:=Ml (st:=st) l c k;exact⟨F,F.binds hb,k,w_ X G a⟩
theorem Θ {nm qn:Str}{st:Stmt}{ps:List Str}(hb:BP nm qn st ps){K:Frag}{g:Addr}{oc kV dc pm cd ct:Value}{od an:Option Addr}{sl:Array (Option Value)}
  (l:K.lookup g\⟨oc,od,.func (fnOf nm qn (cU st) (aH st) (aa st) .none kV dc pm an cd ct),sl⟩) (c:codeIn K cd qn=true) (k:keepIn K (.ref g)=true) (f:isFn K (.ref g)=true) :
  Dm K nm qn st ps g (fnOf nm qn (cU st) (aH st) (aa st) .none kV dc pm an cd ct):=by
 have F:=Ml (st:=st) l c k;exact⟨F,F.binds hb,k,f⟩
abbrev KA:List (Value × Bool):=[(.type "tuple",false),(.type "list",false),(.type "int",false),(.type "bool",false)]
theorem all_mk {l:OpenLaw}{w:World}{K:Frag}{h:Heap}{mg:bD}{fa D YH fE3 YG fE4 CE5 fE5 CE7 fE7 g0 g1 g2 g3 g4 g5 g6 g7 g8 g9 g10 g11 g12 g13 g14 g15 g16 g17 g18 g19 g20 g21 g22 g23 g24 g25 g26 g27 g28 g29 g30 g31 g32 g33 g34 g35 g36 g37 g38 g39 g40 g41 g42 g43 g44 g45 g46 g47 g48 g49 g50 m0 m1 m2 m3 m4 m5 m6 m7 m8 m9 VX VW VU VT VS R MS C0 C1 C2 U:Addr}{d0 d1 d2 d3 d4 d5 d6 d7 d8 d9 d10 d11 d12 d13 d14 d15 d16 d17 d18 d19 d20 d21 d22 d23 d24 d25 d26 d27 d28 d29 d30 d31 d32 d33 d34 d35 d36 d37 d38 d39 d40 d41 d42 d43 d44 d45 d46 d47 d48 d49 Yx x0 x1 x2 x3 x4 x5 x6 x7 x8 x9 WX WW J' ZL WV ZJ ZI ZH ZG:FuncData}(X:K.In h)(G:h.Ns mainGlobals mg)(hfa:mg "law"\.ref fa)
  {Of NJ OF Nh Oe NI MM Ng:Tok}
  {nA nN:Addr} {odA odN:Option Addr} {tA uA tN uN:Tok} {nmA nmN:Nat} {ZV ZU:Array (Option Value)}
  (B:Α K D) (q3:OQ K mg D "NoShare" "found" YH fE3 ZJ) (q4:OQ K mg D "NoNumber" "found" YG fE4 ZI) (q5:OQ K mg D "NoFolk" "found" CE5 fE5 ZH) (q7:OQ K mg D "NoOutcome" "place" CE7 fE7 ZG)
  (aD:nsIn K mainGlobals "DealError"\some (.ref D))
  (VJ:nsIn K mainGlobals "Rule"\some (.ref R))
  (Y7:specialIn K (.ref R) "__getattribute__"\some (.builtin "type.__getattribute__"))
  (Y6:readsIn K R (.type "type")=true)
  (Y5:findCls K (.ref R) (.type "type") "__init__"\.val (.ref m0))
  (R':isClsIn K R=true)
  (RT:typeIn K (.ref R)\.type "type")
  (RX:mroIn K R (.ref R)\true)
  (Y4:nsIn K mainGlobals "Measure"\some (.ref MS))
  (Y3:specialIn K (.ref MS) "__getattribute__"\some (.builtin "type.__getattribute__"))
  (Y2:readsIn K MS (.type "type")=true)
  (Y1:findCls K (.ref MS) (.type "type") "__init__"\.val (.ref m9))
  (zah:isClsIn K MS=true)
  (zai:typeIn K (.ref MS)\.type "type")
  (zaj:mroIn K MS (.ref MS)\true)
  (Y0:nsIn K mainGlobals "Split"\some (.ref C0))
  (OZ:Cf K C0)
  (YZ:Q5 K C0 gk)
  (YY:findIn K (.ref C0) "__init__"\some (.ref m3))
  (YX:findIn K (.ref C0) "folk"\some (.ref m1))
  (YW:findIn K (.ref C0) "begin"\some (.ref m2))
  (YV:findIn K (.ref C0) "steps"\some (.ref m6))
  (RO:zv K C0 [(.ref C0,true),(.ref C1,false),(.ref C2,false),(.ref R,true)])
  (UT:zv K C0 KA)
  (YU:nsIn K mainGlobals "Pairs"\some (.ref C1))
  (OY:Cf K C1)
  (YT:Q5 K C1 gk)
  (YS:findIn K (.ref C1) "__init__"\some (.ref m4))
  (YR:findIn K (.ref C1) "folk"\some (.ref m1))
  (YQ:findIn K (.ref C1) "begin"\some (.ref m2))
  (YO:findIn K (.ref C1) "steps"\some (.ref m7))
  (RQ:zv K C1 [(.ref C0,false),(.ref C1,true),(.ref C2,false),(.ref R,true)])
  (UV:zv K C1 KA)
  (Zs:nsIn K mainGlobals "Coins"\some (.ref C2))
  (O0:Cf K C2)
  (Zr:Q5 K C2 gk)
  (Zq:findIn K (.ref C2) "__init__"\some (.ref m5))
  (Zp:findIn K (.ref C2) "folk"\some (.ref m1))
  (Zo:findIn K (.ref C2) "begin"\some (.ref m2))
  (Zm:findIn K (.ref C2) "steps"\some (.ref m8))
  (RP:zv K C2 [(.ref C0,false),(.ref C1,false),(.ref C2,true),(.ref R,true)])
  (UU:zv K C2 KA)
  (VP:nsIn K mainGlobals "Wins"\some (.ref U))
  (OS:Cf K U)
  (VO:Q5 K U ["mark"])
  (Zl:findIn K (.ref U) "__init__"\some (.ref VT))
  (Zk:findIn K (.ref U) "among"\some (.ref VS))
  (Zj:findIn K (.ref U) "need_fit"\some (.ref VW))
  (Zi:findIn K (.ref U) "scored"\some (.ref VU))
  (Zh:findIn K (.ref U) "scores"\some (.ref VX))
  (Zg:nsIn K mainGlobals "MOST_FOLK"\some (.int (20) Of))
  (Zf:nsIn K mainGlobals "MOST_PAIRS"\some (.int (10) NJ))
  (Ze:nsIn K mainGlobals "MOST_FAR"\some (.int (20) OF))
  (Zd:nsIn K mainGlobals "MOST_BOTTOM"\some (.int (100) Nh))
  (Zb:nsIn K mainGlobals "MOST_TOLD"\some (.int (5000) Oe))
  (Za:nsIn K mainGlobals "MOST_SCORE"\some (.int (100000) NI))
  (Y_:nsIn K mainGlobals "LEAST_NUMBER"\some (.int (-99) MM))
  (Y':nsIn K mainGlobals "MOST_NUMBER"\some (.int (99) Ng))
  (gt:specialIn K (.builtin "object.__class__") "__get__"\some (.builtin "getset_descriptor.__get__"))
  (W1:takesIn K (.builtin "object.__class__")\true)
  (YK:nsIn K mainGlobals "ALL"\some (.ref nA))
  (lA:K.lookup nA\⟨.type "tuple",odA,.seq #[.int 1 tA,.int 1 uA] nmA,ZV⟩)
  (YJ:nsIn K mainGlobals "NONE"\some (.ref nN))
  (lZ:K.lookup nN\⟨.type "tuple",odN,.seq #[.int 0 tN,.int 1 uN] nmN,ZU⟩)
  (Y9:nsIn K mainGlobals "isinstance"\none)
  (Y8:nsIn K mainGlobals "int"\none)
  (ZC:nsIn K mainGlobals "bool"\none)
  (ZB:nsIn K mainGlobals "len"\none)
  (ZA:nsIn K mainGlobals "range"\none)
  (Zz:nsIn K mainGlobals "tuple"\none)
  (Zy:nsIn K mainGlobals "list"\none)
  (Zx:nsIn K mainGlobals "sum"\none)
  (Zw:nsIn K mainGlobals "all"\none)
  (Zv:nsIn K mainGlobals "max"\none)
  (Zu:nsIn K mainGlobals "min"\none)
  (Zt:nsIn K mainGlobals "abs"\none)
  (YN:nsIn K mainGlobals "enumerate"\none)
  (YM:nsIn K mainGlobals "sorted"\none)
  (YL:nsIn K mainGlobals "dict"\none)
  (e0:Dn K mg "is_number" qM ["thing"] g0 d0)
  (e1:Dn K mg "is_whole" vo ["thing","low","high"] g1 d1)
  (e2:Dn K mg "greatest_common" Eg ["one","other"] g2 d2)
  (e3:Dn K mg "common_bottom" J7 ["several"] g3 d3)
  (e4:Dn K mg "is_part" xN ["top","bottom"] g4 d4)
  (e5:Dn K mg "share_of" Jd ["top","bottom"] g5 d5)
  (e6:Dn K mg "is_share" Cj ["thing"] g6 d6)
  (e7:Dn K mg "added" Dq ["one","top","bottom"] g7 d7)
  (e8:Dn K mg "minus_share" JZ ["one","other"] g8 d8)
  (e9:Dn K mg "times_share" DZ ["one","other"] g9 d9)
  (Yt:Dn K mg "less_share" CL ["one","other"] g10 d10)
  (Ys:Dn K mg "sum_shares" JA ["several"] g11 d11)
  (Yr:Dn K mg "need_number" Iw ["thing","low","high"] g12 d12)
  (Yq:Dn K mg "need_coin" K0 ["thing"] g13 d13)
  (Yp:Dn K mg "one_part" KM ["folk"] g14 d14)
  (Yo:Dn K mg "coin_steps" Ke ["coin","zero","one"] g15 d15)
  (Yn:Dn K mg "need_few" KK ["many"] g16 d16)
  (Ym:Dn K mg "need_hands" KD ["thing","folk"] g17 d17)
  (Yl:Dn K mg "hand_of" KF ["dealing","at"] g18 d18)
  (Yk:Dn K mg "step_to" Kx ["rule","state","at","hand"] g19 d19)
  (Yj:Dn K mg "dealing_share" Il ["rule","dealing"] g20 d20)
  (Yi:Dn K mg "need_dealt" Ij ["rule","thing"] g21 d21)
  (Yh:Dn K mg "are_scores" Jf ["thing","folk"] g22 d22)
  (Yg:Dn K mg "steps_from" Io ["rule","keys","at"] g23 d23)
  (Yf:Dn K mg "next_layer" yq ["rule","at","score","layer"] g24 d24)
  (Ye:Dn K mg "layers_of" sZ ["rule","scores"] g25 d25)
  (Yd:Dn K mg "told_spread" Hy ["parts"] g26 d26)
  (Yc:Dn K mg "spread_of" BV ["rule","scores"] g27 d27)
  (Yb:Dn K mg "need_value" KU ["thing"] g28 d28)
  (Ya:Dn K mg "share_from" Fl ["spread","value"] g29 d29)
  (X_:Dn K mg "share_to" GU ["spread","value"] g30 d30)
  (X9:Dn K mg "is_outcome" IL ["thing"] g31 d31)
  (X8:Dn K mg "need_outcome" Jt ["thing","place"] g32 d32)
  (X7:Dn K mg "need_outcomes" CD ["thing"] g33 d33)
  (X6:Dn K mg "need_outcomes_of" C7 ["thing","folk"] g34 d34)
  (X5:Dn K mg "surely_greater" JQ ["one","other"] g35 d35)
  (X4:Dn K mg "stands_to" IC ["one","other"] g36 d36)
  (X3:Dn K mg "value_of" Dx ["scores","dealing"] g37 d37)
  (X2:Dn K mg "told_share" Ky ["rule","outcomes","measure","dealing"] g38 d38)
  (X0:Dn K mg "_law_cell" vf ["_law_script","_law_k"] g39 d39)
  (XZ:Dn K mg "_law_purse" qy ["_law_cell_here"] g40 d40)
  (XY:Dn K mg "_law_take" wz ["_law_purse_here","_law_many"] g41 d41)
  (XX:Dn K mg "_law_coin" Jo ["_law_purse_here"] g42 d42)
  (XW:Dn K mg "_law_lowest" IH ["_law_top","_law_bottom"] g43 d43)
  (XV:Dn K mg "_law_split_counts" AQ ["_law_scores","_law_ones"] g44 d44)
  (XU:Dn K mg "_law_coin_counts" Bb ["_law_scores","_law_coin_here","_law_far"] g45 d45)
  (XT:Dn K mg "_law_pair_counts" En ["_law_scores","_law_coin_here"] g46 d46)
  (XS:Dn K mg "_law_drawn" yr ["_law_purse_here"] g47 d47)
  (XR:Dn K mg "_law_stands" IR ["_law_one","_law_other"] g48 d48)
  (XQ:Dn K mg "_law_shares_right" Ay ["_law_purse_here","_law_spread","_law_counts","_law_whole"] g49 d49)
  (XO:Dn K mg "law" nZ ["_law_script"] g50 Yx)
  (y0:Dm K "__init__" "Rule.__init__" B7 ["self","size","first_state","mark","parts"] m0 x0)
  (y1:Dm K "folk" "Rule.folk" BA ["self"] m1 x1)
  (y2:Dm K "begin" "Rule.begin" DW ["self"] m2 x2)
  (y3:Dm K "__init__" "Split.__init__" DA ["self","folk","ones"] m3 x3)
  (y4:Dm K "__init__" "Pairs.__init__" Ej ["self","pairs","coin"] m4 x4)
  (y5:Dm K "__init__" "Coins.__init__" Cm ["self","folk","coin","far"] m5 x5)
  (y6:Dm K "steps" "Split.steps" CZ ["self","state","at"] m6 x6)
  (y7:Dm K "steps" "Pairs.steps" Ck ["self","state","at"] m7 x7)
  (y8:Dm K "steps" "Coins.steps" Cw ["self","state","at"] m8 x8)
  (y9:Dm K "__init__" "Measure.__init__" Da ["self","mark"] m9 x9)
  (UZ:Dm K "scores" "Measure.scores" EK ["self","rule","outcomes"] VX WX)
  (UY:Dm K "need_fit" "Measure.need_fit" Dr ["self","rule","outcomes"] VW WW)
  (UX:Dm K "scored" "Measure.scored" DN ["self","rule","outcomes"] VU J')
  (Vw:Dm K "__init__" "Wins.__init__" Dw ["self"] VT ZL)
  (UW:Dm K "among" "Wins.among" pZ ["self","outcomes"] VS WV)
  (hb:∀(s:Shared)(v:Value),BindsTo s Yx ⟨[v],[]⟩ [("_law_script",v)])
  : ∃ fd:FuncData,(∀(s:Shared)(v:Value),BindsTo s fd ⟨[v],[]⟩ [("_law_script",v)])/\∀ base:Heap,K.In base->base.Ns mainGlobals mg->ð l.prog w K mg base az 14 fa fd ["_law_script"] (sO K):=by
 have e:=hfa.symm.trans XO.mg;cases e;refine⟨_,hb,λ base _ _=>?_⟩;have ŉ:=į X G Y9;have Qa:=į X G Y8;have Qb:=į X G ZC;have j':=į X G ZB;have l_:=į X G ZA;have NR:=į X G Zz;have OO:=į X G Zy;have Ol:=į X G Zx;have Uj:=į X G Zw;have Rm:=į X G Zv;have Rk:=į X G Zu;have Uk:=į X G Zt;have Ź:=į X G YN;have MQ:=į X G YM;have R6:=į X G YL;have T:Bc K:=⟨gt,W1⟩;have mD:=w_ X G aD;have o3:=q3 B mD;have o4:=q4 B mD;have o5:=q5 B mD;have o7:=q7 B mD;have Mz:=w_ X G Zg;have NQ:=w_ X G Zf;have OM:=w_ X G Ze;have Nm:=w_ X G Zd;have Oj:=w_ X G Zb;have NP:=w_ X G Za;have MP:=w_ X G Y_;have Nl:=w_ X G Y';have R7:=w_ X G VJ;have Mu:kO K R "__init__" m0:=⟨Y7,Y6,Y5,y0.kp⟩;have Up:=w_ X G Y4;have OW:kO K MS "__init__" m9:=⟨Y3,Y2,Y1,y9.kp⟩;have Uo:=w_ X G Y0;have Ui:Mk K C0 m3:=⟨OZ.Ve,YY,y3.Os,OZ.kp⟩;have Um:=w_ X G YU;have Uh:Mk K C1 m4:=⟨OY.Ve,YS,y4.Os,OY.kp⟩;have Ul:=w_ X G Zs;have Ug:Mk K C2 m5:=⟨O0.Ve,Zq,y5.Os,O0.kp⟩;have VR:=w_ X G VP;have VQ:Mk K U VT:=⟨OS.Ve,Zl,Vw.Os,OS.kp⟩;have WQ:=uX (P:=l.prog) (w:=w) (mg:=mg) (base:=base) T e0.fn ŉ Qa Qb;have GN:=(e0.df WQ);have YD:=zG e1.fn WQ e0.bi e0.kp e0.mg;have GW:=(e1.df YD);have WR:=Ea (P:=l.prog) (w:=w) (mg:=mg) (base:=base) e2.fn;have GG:=(e2.df WR);have YE:=e4.df (yU e4.fn WQ e0.bi e0.kp e0.mg YD e1.bi e1.kp e1.mg);have GSh:=e6.df (CI T e6.fn YE GG ŉ NR j');have GM:=Yr.df (G0 Yr.fn B o4 GW);have GC:=Yq.df (GY Yq.fn B o3 GW GSh Nm);have GP:=Yp.df (FC (P:=l.prog) (w:=w) (mg:=mg) (base:=base) Yp.fn NR l_);have Z:KR K (yt C0 C1 C2) R:={
  cls:=λ i hi=>match i,hi with
   | 0,_=>OZ.cls
   | 1,_=>OY.cls
   | 2,_=>O0.cls
  no:=λ i hi=>match i,hi with
   | 0,_=>YZ.all
   | 1,_=>YT.all
   | 2,_=>Zr.all
  ha:=λ i hi=>match i,hi with
   | 0,_=>OZ.ca
   | 1,_=>OY.ca
   | 2,_=>O0.ca
  hn:=gt
  Qv:=W1
  hm:=λ i hi=>match i,hi with
   | 0,_=>OZ.hm
   | 1,_=>OY.hm
   | 2,_=>O0.hm
  kk:=λ i j hi hj=>match i,j,hi,hj with
   | 0,0,_,_=>cy OZ.QQ OZ.QO RO.1 RO.1
   | 0,1,_,_=>cy OY.QQ OY.QO RQ.2.1 RO.2.1
   | 0,2,_,_=>cy O0.QQ O0.QO RP.2.2.1 RO.2.2.1
   | 1,0,_,_=>cy OZ.QQ OZ.QO RO.1 RQ.1
   | 1,1,_,_=>cy OY.QQ OY.QO RQ.2.1 RQ.2.1
   | 1,2,_,_=>cy O0.QQ O0.QO RP.2.2.1 RQ.2.2.1
   | 2,0,_,_=>cy OZ.QQ OZ.QO RO.1 RP.1
   | 2,1,_,_=>cy OY.QQ OY.QO RQ.2.1 RP.2.1
   | 2,2,_,_=>cy O0.QQ O0.QO RP.2.2.1 RP.2.2.1
  kR:=λ i hi=>match i,hi with
   | 0,_=>cy R' RT RX RO.2.2.2.1
   | 1,_=>cy R' RT RX RQ.2.2.2.1
   | 2,_=>cy R' RT RX RP.2.2.2.1
  kl:=λ i hi=>match i,hi with
   | 0,_=>cw aF UT.2.1
   | 1,_=>cw aF UV.2.1
   | 2,_=>cw aF UU.2.1
  kt:=λ i hi=>match i,hi with
   | 0,_=>cw aF UT.1
   | 1,_=>cw aF UV.1
   | 2,_=>cw aF UU.1
  ki:=λ i hi=>match i,hi with
   | 0,_=>cw aF UT.2.2.1
   | 1,_=>cw aF UV.2.2.1
   | 2,_=>cw aF UU.2.2.1
  kb:=λ i hi=>match i,hi with
   | 0,_=>cw aF UT.2.2.2.1
   | 1,_=>cw aF UV.2.2.2.1
   | 2,_=>cw aF UU.2.2.2.1
 }
 have I0:=D5 (P:=l.prog) (w:=w) (mg:=mg) (base:=base) Z y0.fn;have I1:=Bn (P:=l.prog) (w:=w) (mg:=mg) (base:=base) Z y1.fn;have I2:=BL (P:=l.prog) (w:=w) (mg:=mg) (base:=base) Z y2.fn;have SD:c6 l.prog w K mg base az 1 "folk" ["self"] (uV (yt C0 C1 C2)) (λ _=>jV (yt C0 C1 C2)):=by
  rintro c ⟨i,hi,rfl⟩
  match i,hi with
  | 0,_=>exact⟨OZ.cls,m1,x1,⟨YX,y1.Os,y1.kp⟩,I1,y1.bi⟩
  | 1,_=>exact⟨OY.cls,m1,x1,⟨YR,y1.Os,y1.kp⟩,I1,y1.bi⟩
  | 2,_=>exact⟨O0.cls,m1,x1,⟨Zp,y1.Os,y1.kp⟩,I1,y1.bi⟩
 have Q6:c6 l.prog w K mg base az 1 "begin" ["self"] (uV (yt C0 C1 C2)) (λ _=>ir (yt C0 C1 C2)):=by
  rintro c ⟨i,hi,rfl⟩
  match i,hi with
  | 0,_=>exact⟨OZ.cls,m2,x2,⟨YW,y2.Os,y2.kp⟩,I2,y2.bi⟩
  | 1,_=>exact⟨OY.cls,m2,x2,⟨YQ,y2.Os,y2.kp⟩,I2,y2.bi⟩
  | 2,_=>exact⟨O0.cls,m2,x2,⟨Zo,y2.Os,y2.kp⟩,I2,y2.bi⟩
 have Mm:Ms l.prog w K mg base (yt C0 C1 C2):=⟨SD,Q6⟩;have I3:=DK y3.fn Mu I0 y0.bi R7 GM GP Mz;have I4:=Cd Z y4.fn Mu I0 y0.bi R7 GM GP GC NQ;have I5:=Bp Z y5.fn Mu I0 y0.bi R7 GM GP GC Mz OM;have Lk:Jx l.prog w K mg base (yt C0 C1 C2) YG YH m3 m4 m5 x3 x4 x5:=⟨Ui,Uh,Ug,I3,I4,I5,y3.bi,y4.bi,y5.bi,Uo,Um,Ul⟩;have TA:lF K nA [.int (1:Nat),.int (1:Nat)]:=tP lA;have TN:lF K nN [.int (0:Nat),.int (1:Nat)]:=tP lZ;have mA:mg "ALL"\.ref nA:=w_ X G YK;have mN:mg "NONE"\.ref nN:=w_ X G YJ;have T2:HY K mg nN nA:=⟨mN,mA,TN,TA⟩;have Sa:=e7.df (E9 e7.fn WR e2.bi e2.kp e2.mg);have Sl:=Yt.df (DQ (P:=l.prog) (w:=w) (mg:=mg) (base:=base) (K:=K) Yt.fn);have So:=e5.df (GR e5.fn YE GG);have Sm:=e8.df (Hf e8.fn Sl Sa);have Sx:=e9.df (Dg e9.fn WR e2.bi e2.kp e2.mg);have Sc:=Yo.df (F9 Yo.fn Sm mA TA);have I6:=qr Z av (DX Z y6.fn So);have I7:=qr Z av (Bl Z y7.fn Sc mA TA);have I8:=qr Z av (E8 Z y8.fn Sc mA TA);have M2:c6 l.prog w K mg base az 7 "steps" ["self","state","at"] (uV (yt C0 C1 C2)) (tw K (yt C0 C1 C2)):=by
  rintro c ⟨i,hi,rfl⟩
  match i,hi with
  | 0,_=>exact⟨OZ.cls,m6,x6,⟨YV,y6.Os,y6.kp⟩,I6.mono av,y6.bi⟩
  | 1,_=>exact⟨OY.cls,m7,x7,⟨YO,y7.Os,y7.kp⟩,I7.mono av,y7.bi⟩
  | 2,_=>exact⟨O0.cls,m8,x8,⟨Zm,y8.Os,y8.kp⟩,I8.mono av,y8.bi⟩
 have Tc:=e3.df (F4 e3.fn GG);have Tn:=Yn.df (GE (P:=l.prog) (w:=w) (mg:=mg) (base:=base) Yn.fn Oj);have Ta:=Yh.df (Hn T Yh.fn GW NP ŉ OO j' Uj);have Ts:=Yg.df (GZ M2 Yg.fn);have Tl:=Yf.df (Ho Yf.fn Ts Tc Tn j');have To:=Ye.df (Ht Mm Ye.fn Ta Tl Ź);have Tt:=Yd.df (GL Yd.fn So MQ);have Tr:=Yc.df (FU Yc.fn To Tt);have Su:=Ys.df (He Ys.fn Sa mN TN);have Tv:=Yb.df (Hc Yb.fn B o4 GN);have Tf:=Ya.df (EQ Ya.fn Tv Su);have Tg:=X_.df (DE X_.fn Tv Su);have Dh:=Ym.df (FR Ym.fn GW);have Do:=Yl.df (Hw (P:=l.prog) (w:=w) (mg:=mg) (base:=base) (K:=K) Yl.fn);have Dt:=Yk.df (Gz Yk.fn M2 T2);have Dd:=Yj.df (Fw Yj.fn Mm T2 Dh Dt Do Sx l_);have Dn:=Yi.df (GF Yi.fn T2 Dd);have Dv:=X3.df (HD X3.fn Dh Do j' Ol Ź);have GIo:=X9.df (HT T X9.fn GW MP Nl ŉ NR j' Qb);have YF:=X8.df (FF X8.fn B o7 GIo);have GNs:=X7.df (Cp T X7.fn B o5 YF ŉ OO Ź);have GOf:=X6.df (EX X6.fn B o5 GNs j');have GSg:=X5.df (G9 (P:=l.prog) (w:=w) (mg:=mg) (base:=base) X5.fn);have GSt:=X4.df (Hj X4.fn YF GSg);have J9:=Ey (P:=l.prog) (w:=w) (mg:=mg) (base:=base) OS.cls VO.1 y9.fn;have J13:=Bw Vw.fn OW J9 y9.bi Up;have J14:=CQ UW.fn GSt Ol;have J11:=DP (P:=l.prog) (w:=w) (mg:=mg) (base:=base) UY.fn;have Mam:c6 l.prog w K mg base az 6 "among" ["self","outcomes"] (λ c=>c=U) (λ _=>xP K):=by
  rintro c rfl;exact⟨OS.cls,VS,WV,⟨Zk,UW.Os,UW.kp⟩,J14,UW.bi⟩
 have Mft:c6 l.prog w K mg base az 1 "need_fit" ["self","rule","outcomes"] (λ c=>c=U) (λ _=>yA):=by
  rintro c rfl;exact⟨OS.cls,VW,WW,⟨Zj,UY.Os,UY.kp⟩,J11,UY.bi⟩
 have J12:=Er UX.fn Mam;have Msd:c6 l.prog w K mg base az 7 "scored" ["self","rule","outcomes"] (λ c=>c=U) (λ _=>sf U):=by
  rintro c rfl;exact⟨OS.cls,VU,J',⟨Zi,UX.Os,UX.kp⟩,J12,UX.bi⟩
 have J10:=Et UZ.fn Mm GOf Mft Msd;have Mss:c6 l.prog w K mg base az 8 "scores" ["self","rule","outcomes"] (λ c=>c=U) (λ _=>wq (yt C0 C1 C2) U):=by
  rintro c rfl;exact⟨OS.cls,VX,WX,⟨Zh,UZ.Os,UZ.kp⟩,J10,UZ.bi⟩
 have Td:=X2.df (G8 X2.fn Mss Dn Tr Dv Tf);have Ka:=X0.df (yP (P:=l.prog) (w:=w) (mg:=mg) (base:=base) X0.fn j');have Kb:=XZ.df (v9 (P:=l.prog) (w:=w) (mg:=mg) (base:=base) (K:=K) XZ.fn Rm);have Kt:=XY.df (yL (P:=l.prog) (w:=w) (mg:=mg) (base:=base) (K:=K) XY.fn);have Kl:=XW.df (Bu (P:=l.prog) (w:=w) (mg:=mg) (base:=base) (K:=K) XW.fn);have Kc:=XX.df (Gv XX.fn Kt Kl);have Ks:=XR.df (FE (P:=l.prog) (w:=w) (mg:=mg) (base:=base) XR.fn Qa);have K1:=XV.df (HH (P:=l.prog) (w:=w) (mg:=mg) (base:=base) XV.fn j' Ź);have K2:=XU.df (GB (P:=l.prog) (w:=w) (mg:=mg) (base:=base) XU.fn Qa Uk);have K3:=XT.df (FO (P:=l.prog) (w:=w) (mg:=mg) (base:=base) XT.fn j' l_);have Kd:=XS.df (FZ XS.fn ⟨Kt,Kc,Ks,K1,K2,K3,l_,Ol,Rk⟩ Lk);have Kr:=XQ.df (HU XQ.fn Kt Kl Tf Tg MQ l_ Ol j');exact Bi XO.fn ⟨Ka,Kb,Kd,Tr,Kl,Kr,Td,VQ,J13,Vw.bi,VR,T,ŉ,R6,OO,MQ,Ol,Ź,j',l_,Rm,Rk⟩
theorem walk {l:OpenLaw}{q:Program}{loose:List Str}{XP:(Str->Option Value)->Heap->Prop}{YP:World->Heap->Prop}{d:DefRec}{K:Params->Frag}(hn:l.most=some 63)(UI:d.params.defaults=[])
  (hY:∀(w:World)(h:Heap),YP w h->(K w.params).In h)
  (F:∀(w:World)(mg:bD)(fa:Addr)(h:Heap),(K w.params).In h->h.Ns mainGlobals mg->mg d.name=some (.ref fa) ->
   ∃ fd:FuncData,(∀(s:Shared)(u:Value),BindsTo s fd ⟨[u],[]⟩ [("_law_script",u)])/\∀ base:Heap,(K w.params).In base->base.Ns mainGlobals mg->ð l.prog w (K w.params) mg base az 14 fa fd ["_law_script"] (sO (K w.params))) :
  WalkO q loose XP YP l.row.toRowW d [] (λ f vs=>PySem.call f vs) :=
 L2.P0 (n:=63) (k:=14) (x:="_law_script") (CX:=λ _=>az) (sp:=λ w=>sO (K w.params)) hn av UI ⟨rfl,av,av,rfl⟩ hY F (λ _ _ a ns hl _ hS hz=>⟨a,ns,rfl,hS,hl,hz,λ _=>rfl⟩) λ _ _ _ _ _ z=>z
end My
open PySem PySem.W PyProof.Rows
namespace PySem.W.Fast
def tw6948467800324364387:=()
def tw15152577724016756927:=()
def tw13416295423104441554:=()
def tw5638839711734388367:=()
def tw2922266492010624173:=()
def tw16073069444501735873:=()
def tw10437111262388039726:=()
def tw3466163914408368983:=()
def tw16504927093160618828:=()
def tw14773943482301238450:=()
def tw4242585367296421594:=()
def tw2062683558153364151:=()
def tw12265072173292541454:=()
def tw15767120822562163398:=()
def tw12023160187081058374:=()
def tw2971915437637024534:=()
def tw9541817327126897915:=()
def tw16101544055045090808:=()
def tw13835540005404110671:=()
def tw14136804106749164172:=()
def tw2103856548387468692:=()
def tw12691107242783583395:=()
def tw8501383556362284265:=()
def tw6450276069927104297:=()
def tw17523318762675885196:=()
def tw7410555542477614174:=()
def tw4406283935033826560:=()
def tw13415908850325910147:=()
def tw16116798208608646197:=()
def tw8853273107390431974:=()
def tw18334622551731820043:=()
def tw14801761552348802291:=()
def tw7488775288592326957:=()
def tw8206074602165676623:=()
def tw1786294334458386510:=()
def tw8366219034464102968:=()
def tw15682565336713442726:=()
def tw9652443208900978251:=()
def tw7759084327105035570:=()
def tw3272441295496870924:=()
def tw12534564047078006425:=()
def tw10392030470736818939:=()
def tw11684961577826382702:=()
def tw17082247520483511964:=()
def tw3244641782111414907:=()
def tw14800947310279191493:=()
def tw16412453468239811716:=()
def tw14223363570252791261:=()
def tw6917494759492142312:=()
def tw11367329260192303632:=()
def tw8712640924529782100:=()
def tw879897708116167682:=()
def tw9104715712288468291:=()
def tw6246733808102847838:=()
def tw14497100903538534481:=()
def tw14889410109506423370:=()
def tw11914046837293551647:=()
def tw3642978460125846420:=()
def tw4569956051217621472:=()
def tw4774281120221189940:=()
def tw2780766533025918111:=()
def tw3867226072655835672:=()
def tw2822646123173373240:=()
def tw8698804825178666528:=()
def tw16194606510139986451:=()
def tw15762923786236842208:=()
def tw18209148870725398166:=()
def tw12741412078390190779:=()
def tw15486869893258989446:=()
def tw2069757223185867850:=()
def tw15666568210932967456:=()
def tw8652422290828181975:=()
def tw14785185272805444894:=()
def tw14838832262049320931:=()
def tw5239613798410146679:=()
def tw10407809692221521007:=()
def tw8888473085208458224:=()
def tw13059858525568820387:=()
def tw15917404253459998084:=()
def tw573019868543349115:=()
def tw13436676225958296594:=()
def tw7901738549537325831:=()
def tw14880398700730864496:=()
def tw10862110286615834940:=()
def tw1359683007369833779:=()
def tw4428843141293339919:=()
def tw16124144011464570239:=()
def tw2784737571370224093:=()
def tw11793466593638491970:=()
def tw1728385713773719356:=()
def tw9955990112896150872:=()
def tw7801394710822096038:=()
def tw7945171301819110007:=()
def tw13136184827501183155:=()
def tw11762477115543621052:=()
def tw7802434984063136434:=()
def tw7446087628368723317:=()
def tw5175887074530974982:=()
def tw4859523703666429287:=()
def tw3133466829307368423:=()
def tw13898706664268752801:=()
def tw12184482312746103365:=()
def tw16696308397066485363:=()
def tw15003909978464534511:=()
def tw7867079907885687919:=()
def tw2050034842201795468:=()
def tw4501448642853562220:=()
def tw14404214488510743911:=()
def tw11353517862542527688:=()
def tw13774327682331919631:=()
def tw3852124032770108730:=()
def tw8412578652654345573:=()
def tw5834520198321463461:=()
def tw8228761333494574396:=()
def tw15374737721828999134:=()
def tw11598093860443264630:=()
def tw7937059513821540388:=()
def tw11127412799443980362:=()
def tw10928278526134367734:=()
def tw15582507000919489269:=()
def tw13350838937790785695:=()
def tw8281785152988637838:=()
def tw16374076728360666164:=()
def tw12277461180037934360:=()
def tw8571855644878022346:=()
def tw884899907112691494:=()
def tw8069750787928787270:=()
def tw1914386687584955508:=()
def tw2163951804975848646:=()
def tw1432964857417216492:=()
def tw15785034855730924902:=()
def tw6500647822791430329:=()
def tw15926522676714057173:=()
def tw10458688984851249208:=()
def tw9799450035670686384:=()
def tw4235253606473290077:=()
def tw1292976575523610495:=()
def tw1882191313272309126:=()
def tw9163106789690826223:=()
def tw929262012395796421:=()
def tw891241377100743676:=()
def tw16366032578874188478:=()
def tw5521145961322493292:=()
def tw10754394183922452709:=()
def tw2758905221204304449:=()
def tw11324458992193303542:=()
def tw3812185548081480942:=()
def tw5421589741177621698:=()
def tw6564277664778230645:=()
def tw8343977657950611330:=()
def tw7416480107575371676:=()
def tw14373550316763576959:=()
def tw6299244014442470703:=()
def tw5119587029099695866:=()
def tw9976330857943551848:=()
def tw466637625037297994:=()
def tw12128094821689439327:=()
def tw5069145800169578742:=()
def tw5587538922228898949:=()
def tw18326432055672484806:=()
def tw15407061375008504423:=()
def tw9184574137975517373:=()
def tw6862696042011635184:=()
def tw1094750902145387138:=()
def tw4703353627450825413:=()
def tw10674810930344562063:=()
def tw13730372640260863419:=()
def tw2818104551315856897:=()
def tw16678666379701352803:=()
def tw11720590817574140555:=()
def tw15667793274775790325:=()
def tw6278849559782628543:=()
def tw16999034055374669550:=()
def tw11718146861585437241:=()
def tw12589862701838092220:=()
def tw4967967506644934119:=()
def tw6653712015299811159:=()
def tw5553412278947470347:=()
def tw8861936341622101165:=()
def tw16565447530231621191:=()
def tw872881457071436488:=()
def tw17346844098044386106:=()
def tw11575860869029199729:=()
def tw1190807399173961464:=()
def tw14877966846608282914:=()
def tw15967082539994457866:=()
def tw1473216333437138752:=()
def tw13835203534141224929:=()
def tw8977627493475473436:=()
def tw5431248604381942457:=()
def tw17951340505745639563:=()
def tw5700658722251553305:=()
def tw4002225552170081626:=()
def tw3878887944593213490:=()
def tw424816914899469024:=()
def tw3495741025349030466:=()
def tw14341807610825190633:=()
def tw15672424527630887524:=()
def tw17641726569017559696:=()
def tw17222726522619605250:=()
def tw17142147667676367225:=()
def tw7098009373905069354:=()
def tw2470991820655772776:=()
def tw8391437904400795091:=()
def tw7985714998302957323:=()
def tw2719731163270994494:=()
def tw8090246538968133952:=()
def tw8718453088074457594:=()
def tw9625577656652647823:=()
def tw14778589515999548422:=()
def tw11004316814661640765:=()
def tw11887051296115129673:=()
def tw1158119167421508642:=()
def tw15478939559262583203:=()
def tw16431098897275144876:=()
def tw666993694754749231:=()
def tw7365525605534813998:=()
def tw14424819722070246331:=()
def tw11224439375535494390:=()
def tw6043614690690332210:=()
def tw13571234030480601015:=()
def tw4703894687659184376:=()
def tw9514536051895920593:=()
def tw10403198524035832716:=()
def tw8651596832876295562:=()
def tw2334978904907806018:=()
def tw10059091549823443297:=()
def tw12119520693773868828:=()
def tw12655322626754622548:=()
def tw13123585149197338890:=()
def tw3851386484834315644:=()
def tw5925394974559555601:=()
def tw8909887582092493517:=()
def tw5977242552486626674:=()
def tw4498325871828251810:=()
def tw16929845131841276893:=()
def tw522624858731208242:=()
def tw3013527504518311595:=()
def tw15045776338904821586:=()
def tw3317236123101355326:=()
def tw15439302686915777760:=()
def tw579371903017863348:=()
def tw12848753725981031855:=()
def tw2540824480056809817:=()
def tw2069605905411588833:=()
def tw9296664053604714921:=()
def tw2975387455202789157:=()
def tw10082268684456894206:=()
def tw13665864040115651904:=()
def tw18158740345196675611:=()
def tw11643926478091223174:=()
def tw13352660255085739839:=()
def tw3141384051200877664:=()
def tw3643293811819939439:=()
def tw3973941967985881586:=()
def tw766870518969193337:=()
def tw10236214650473805784:=()
def tw3746316288148703335:=()
def tw3158106605106572142:=()
def tw14513801346860445424:=()
def tw13178378377100862107:=()
def tw9858544564952541903:=()
def tw9744491762741419479:=()
def tw1754908039706396902:=()
def tw10517530034779671943:=()
def tw761813184504431162:=()
def tw12853557591923698069:=()
def tw2431661826115851085:=()
def tw8039678502413223952:=()
def tw367162068992895157:=()
def tw3182234890416108743:=()
def tw1242424945663796192:=()
def tw10188418561521537585:=()
def tw2052829375237760108:=()
def tw17733385797977955578:=()
def tw322932441494594950:=()
def tw12137171842902486188:=()
def tw6996566241826486105:=()
def tw17201900055159845698:=()
def tw15985314167509871867:=()
def tw16536569110601725047:=()
def tw9280261819461523173:=()
def tw8190005756179228767:=()
def tw12857584575882105910:=()
def tw10764349832959697221:=()
def tw6996112032381480944:=()
def tw15039260616415447582:=()
def tw17761142088332955782:=()
def tw5412271912533763462:=()
def tw1742114965445061714:=()
def tw623422608227235248:=()
def tw6463681315127054608:=()
def tw17538779192634784087:=()
def tw3445859079943191827:=()
def tw12424849800584888818:=()
def tw16005058059886720902:=()
def tw160244721283711666:=()
end PySem.W.Fast
set_option maxRecDepth 100000 in
set_option maxHeartbeats 0 in
theorem PySem.Challenge.cw_trialdeal_k75_whole_great_trials_counted_holds : PySem.Challenge.rw_trialdeal_k75_whole_great_trials_counted.Holds := by
 w_on;o_law;k_head;(case hw=>w_witness2)
 k_fill
 refine My.walk (l:=PySem.Challenge.rw_trialdeal_k75_whole_great_trials_counted) rfl rfl (λ w h Y=>PySem.W.kIn_of Y) ?F
 case F =>
  intro w mg fa h KX G UD;refine' My.all_mk KX G UD (My.Q4 ?jaa ?jab ?jac ?jad ?jae ?jaf ?jag ?jah ?jai ?jaj ?jak ?jal) (My.of3 (My.N1 "NoShare" ?jam ?jan ?jao ?jap ?jaq ?jar ?jas ?jat) (mg_of KX G ?jau) (L2.Ml ?jav ?jaw ?jax) ?jay) (My.of4 (My.N1 "NoNumber" ?jaz ?jaA ?jaB ?jaC ?jaD ?jaE ?jaF ?jaG) (mg_of KX G ?jaH) (L2.Ml ?jaI ?jaJ ?jaK) ?jaL) (My.of5 (My.N1 "NoFolk" ?jaM ?jaN ?jaO ?jaP ?jaQ ?jaR ?jaS ?jaT) (mg_of KX G ?jaU) (L2.Ml ?jaV ?jaW ?jaX) ?jaY) (My.Z_ (My.N1 "NoOutcome" ?jaZ ?ja0 ?ja1 ?ja2 ?ja3 ?ja4 ?ja5 ?ja6) (mg_of KX G ?ja7) (L2.Ml ?ja8 ?ja9 ?jba) ?jbb)
   ?jbc ?jbd ?jbe ?jbf ?jbg ?jbh ?jbi ?jbj ?jbk ?jbl ?jbm ?jbn ?jbo ?jbp ?jbq ?jbr ?jbs ?jbt ?jbu ?jbv ?jbw ?jbx ?jby ?jbz ?jbA ?jbB ?jbC ?jbD ?jbE ?jbF ?jbG ?jbH ?jbI ?jbJ ?jbK ?jbL ?jbM ?jbN ?jbO ?jbP ?jbQ ?jbR ?jbS ?jbT ?jbU ?jbV ?jbW ?jbX ?jbY ?jbZ ?jb0 ?jb1 ?jb2 ?jb3 ?jb4 ?jb5 ?jb6 ?jb7 ?jb8 ?jb9 ?jca ?jcb ?jcc ?jcd ?jce ?jcf ?jcg ?jch ?jci ?jcj ?jck ?jcl ?jcm ?jcn ?jco ?jcp ?jcq ?jcr ?jcs (My.Ć My.b1 KX G ?jct ?jcu ?jcv ?jcw) (My.Ć My.b3 KX G ?jcx ?jcy ?jcz ?jcA) (My.Ć My.b2 KX G ?jcB ?jcC ?jcD ?jcE) (My.Ć My.b1 KX G ?jcF ?jcG ?jcH ?jcI) (My.Ć My.b2 KX G ?jcJ ?jcK ?jcL ?jcM) (My.Ć My.b2 KX G ?jcN ?jcO ?jcP ?jcQ) (My.Ć My.b1 KX G ?jcR ?jcS ?jcT ?jcU) (My.Ć My.b3 KX G ?jcV ?jcW ?jcX ?jcY) (My.Ć My.b2 KX G ?jcZ ?jc0 ?jc1 ?jc2) (My.Ć My.b2 KX G ?jc3 ?jc4 ?jc5 ?jc6) (My.Ć My.b2 KX G ?jc7 ?jc8 ?jc9 ?jda) (My.Ć My.b1 KX G ?jdb ?jdc ?jdd ?jde) (My.Ć My.b3 KX G ?jdf ?jdg ?jdh ?jdi) (My.Ć My.b1 KX G ?jdj ?jdk ?jdl ?jdm) (My.Ć My.b1 KX G ?jdn ?jdo ?jdp ?jdq) (My.Ć My.b3 KX G ?jdr ?jds ?jdt ?jdu) (My.Ć My.b1 KX G ?jdv ?jdw ?jdx ?jdy) (My.Ć My.b2 KX G ?jdz ?jdA ?jdB ?jdC) (My.Ć My.b2 KX G ?jdD ?jdE ?jdF ?jdG) (My.Ć My.b4 KX G ?jdH ?jdI ?jdJ ?jdK) (My.Ć My.b2 KX G ?jdL ?jdM ?jdN ?jdO) (My.Ć My.b2 KX G ?jdP ?jdQ ?jdR ?jdS) (My.Ć My.b2 KX G ?jdT ?jdU ?jdV ?jdW) (My.Ć My.b3 KX G ?jdX ?jdY ?jdZ ?jd0) (My.Ć My.b4 KX G ?jd1 ?jd2 ?jd3 ?jd4) (My.Ć My.b2 KX G ?jd5 ?jd6 ?jd7 ?jd8) (My.Ć My.b1 KX G ?jd9 ?jea ?jeb ?jec) (My.Ć My.b2 KX G ?jed ?jee ?jef ?jeg) (My.Ć My.b1 KX G ?jeh ?jei ?jej ?jek) (My.Ć My.b2 KX G ?jel ?jem ?jen ?jeo) (My.Ć My.b2 KX G ?jep ?jeq ?jer ?jes) (My.Ć My.b1 KX G ?jet ?jeu ?jev ?jew) (My.Ć My.b2 KX G ?jex ?jey ?jez ?jeA) (My.Ć My.b1 KX G ?jeB ?jeC ?jeD ?jeE) (My.Ć My.b2 KX G ?jeF ?jeG ?jeH ?jeI) (My.Ć My.b2 KX G ?jeJ ?jeK ?jeL ?jeM) (My.Ć My.b2 KX G ?jeN ?jeO ?jeP ?jeQ) (My.Ć My.b2 KX G ?jeR ?jeS ?jeT ?jeU) (My.Ć My.b4 KX G ?jeV ?jeW ?jeX ?jeY) (My.Ć My.b2 KX G ?jeZ ?je0 ?je1 ?je2) (My.Ć My.b1 KX G ?je3 ?je4 ?je5 ?je6) (My.Ć My.b2 KX G ?je7 ?je8 ?je9 ?jfa) (My.Ć My.b1 KX G ?jfb ?jfc ?jfd ?jfe) (My.Ć My.b2 KX G ?jff ?jfg ?jfh ?jfi) (My.Ć My.b2 KX G ?jfj ?jfk ?jfl ?jfm) (My.Ć My.b3 KX G ?jfn ?jfo ?jfp ?jfq) (My.Ć My.b2 KX G ?jfr ?jfs ?jft ?jfu) (My.Ć My.b1 KX G ?jfv ?jfw ?jfx ?jfy) (My.Ć My.b2 KX G ?jfz ?jfA ?jfB ?jfC) (My.Ć My.b4 KX G ?jfD ?jfE ?jfF ?jfG) (My.Ć My.b1 KX G ?jfH ?jfI ?jfJ ?jfK) (My.Θ My.b5 ?jfL ?jfM ?jfN ?jfO) (My.Θ My.b1 ?jfP ?jfQ ?jfR ?jfS) (My.Θ My.b1 ?jfT ?jfU ?jfV ?jfW) (My.Θ My.b3 ?jfX ?jfY ?jfZ ?jf0) (My.Θ My.b3 ?jf1 ?jf2 ?jf3 ?jf4) (My.Θ My.b4 ?jf5 ?jf6 ?jf7 ?jf8) (My.Θ My.b3 ?jf9 ?jga ?jgb ?jgc) (My.Θ My.b3 ?jgd ?jge ?jgf ?jgg) (My.Θ My.b3 ?jgh ?jgi ?jgj ?jgk) (My.Θ My.b2 ?jgl ?jgm ?jgn ?jgo) (My.Θ My.b3 ?jgp ?jgq ?jgr ?jgs) (My.Θ My.b3 ?jgt ?jgu ?jgv ?jgw) (My.Θ My.b3 ?jgx ?jgy ?jgz ?jgA) (My.Θ My.b1 ?jgB ?jgC ?jgD ?jgE) (My.Θ My.b2 ?jgF ?jgG ?jgH ?jgI)
   (λ s v=>.of_eq rfl)
  case jbc | jau | jaH | jaU | ja7 | jaa | jab=>k_is
  (case jac=>exact My.OG rfl)
  (case jad=>first | rfl | decide +kernel)
  case jae | jaf | jag | jah | jai | jaj | jak | jal | jam | jan | jao | jap | jaq | jar | jas | jat | jav | jaw | jax | jay | jaz | jaA | jaB | jaC | jaD | jaE | jaF | jaG | jaI | jaJ | jaK | jaL | jaM | jaN | jaO | jaP | jaQ | jaR | jaS | jaT | jaV | jaW | jaX | jaY | jaZ | ja0 | ja1 | ja2 | ja3 | ja4 | ja5 | ja6 | ja8 | ja9 | jba | jbb | jbd | jbk | jbr | jbA | jbJ | jbS | jbg | jbn | jbu | jbv | jbw | jbx | jbD | jbE | jbF | jbG | jbM | jbN | jbO | jbP | jbV | jbW | jbX | jbY | jbZ=>k_is
  case jbs | jbB | jbK | jbT =>
   exact My.UQ (by k_is) (by k_is) (by k_is) (by k_is) (by k_is) (by k_is) (by k_is) (by k_is) (by k_is) (by k_is)
  case jbt | jbC | jbL | jbU =>
   repeat (refine My.noS (by k_is) ?_)
   exact trivial
  case jby | jbz | jbH | jbI | jbQ | jbR =>
   repeat (refine My.mrS (by k_is) ?_)
   exact trivial
  case jbe | jbf | jbh | jbi | jbj | jbl | jbm | jbo | jbp | jbq | jb0 | jb1 | jb2 | jb3 | jb4 | jb5 | jb6 | jb7 | jb8 | jb9 | jca | jcb | jcc | jcd | jce | jcf | jcg | jch | jci | jcj | jck | jcl | jcm | jcn | jco | jcp | jcq | jcr | jcs | jct | jcu | jcv | jcw | jcx | jcy | jcz | jcA | jcB | jcC | jcD | jcE | jcF | jcG | jcH | jcI | jcJ | jcK | jcL | jcM | jcN | jcO | jcP | jcQ | jcR | jcS | jcT | jcU | jcV | jcW | jcX | jcY | jcZ | jc0 | jc1 | jc2 | jc3 | jc4 | jc5 | jc6 | jc7 | jc8 | jc9 | jda | jdb | jdc | jdd | jde | jdf | jdg | jdh | jdi | jdj | jdk | jdl | jdm | jdn | jdo | jdp | jdq | jdr | jds | jdt | jdu | jdv | jdw | jdx | jdy | jdz | jdA | jdB | jdC | jdD | jdE | jdF | jdG | jdH | jdI | jdJ | jdK | jdL | jdM | jdN | jdO | jdP | jdQ | jdR | jdS | jdT | jdU | jdV | jdW | jdX | jdY | jdZ | jd0 | jd1 | jd2 | jd3 | jd4 | jd5 | jd6 | jd7 | jd8 | jd9 | jea | jeb | jec | jed | jee | jef | jeg | jeh | jei | jej | jek | jel | jem | jen | jeo | jep | jeq | jer | jes | jet | jeu | jev | jew | jex | jey | jez | jeA | jeB | jeC | jeD | jeE | jeF | jeG | jeH | jeI | jeJ | jeK | jeL | jeM | jeN | jeO | jeP | jeQ | jeR | jeS | jeT | jeU | jeV | jeW | jeX | jeY | jeZ | je0 | je1 | je2 | je3 | je4 | je5 | je6 | je7 | je8 | je9 | jfa | jfb | jfc | jfd | jfe | jff | jfg | jfh | jfi | jfj | jfk | jfl | jfm | jfn | jfo | jfp | jfq | jfr | jfs | jft | jfu | jfv | jfw | jfx | jfy | jfz | jfA | jfB | jfC | jfD | jfE | jfF | jfG | jfH | jfI | jfJ | jfK | jfL | jfM | jfN | jfO | jfP | jfQ | jfR | jfS | jfT | jfU | jfV | jfW | jfX | jfY | jfZ | jf0 | jf1 | jf2 | jf3 | jf4 | jf5 | jf6 | jf7 | jf8 | jf9 | jga | jgb | jgc | jgd | jge | jgf | jgg | jgh | jgi | jgj | jgk | jgl | jgm | jgn | jgo | jgp | jgq | jgr | jgs | jgt | jgu | jgv | jgw | jgx | jgy | jgz | jgA | jgB | jgC | jgD | jgE | jgF | jgG | jgH | jgI=>k_is
