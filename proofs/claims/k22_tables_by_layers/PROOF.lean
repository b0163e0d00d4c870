import PyProof.Rows.All
import Wide.All
import OpenK.AllK
import Wide.FinOn
import Lean
import PyProof.EqAt
import PyProof.EqKinds
import PyProof.TupleCall
import PyProof.ExcClass2
import PyProof.InstStoreFacts
import PyProof.ExcArgs
import PyProof.ExcInit
import PyProof.ExcBaseAll.ValueError
import KE.KIsAll
import PyProof.RulesRaise
import PyProof.RulesAs
import PyProof.RaisesMany
import PyProof.NeKinds
import PyProof.EnumFor
import PyProof.EnumStmt
import PyProof.EnumMake
import PyProof.Rows.EnumRows
import PyProof.CompFree
import PyProof.CompUse
import PyProof.CompMap
import PyProof.DictCompW
import PyProof.Cells
import KE.KIntText
import PyProof.StrBlockG
import PyProof.StrBlockH
import PyProof.StrWalks
import PyProof.Rows.StrNews2
import PyProof.Rows.StrOr
import PyProof.Rows.Digits
import PyProof.StrBlockL
import PyProof.MeetsStr2
import KE.IntTextLaws
import PyProof.Rows.StrPartPair
import PyProof.StrLawsTight
import PyProof.StrLawsChain
import PyProof.Rows.StrIntSpec
import PyProof.Rows.StrItems
import PyProof.ReprRoads
import PyProof.ReprBulk
import PyProof.FitsInt
import PyProof.CallFns
import PyProof.Rows.FactsT3
import PyProof.ListRange
import PyProof.TupleOfSeq
import PyProof.TupleOfGen
import PyProof.ConsumeWalk
import PyProof.Rows.SeqGen
import KE.KUnpack
import PyProof.Draws
import PyProof.Rows.RuleB_bool
import PyProof.WalkInts
import PyProof.SeqI3
import KE.KRevSl
import KE.BitLaws
import PyProof.Rows.SumAny
import OpenK.KTop
import PyProof.Rows.FStr
import PyProof.DictItems
import PyProof.DictValues
import KE.KDictSum
import KE.KDictList
import PyProof.SumWalkG
import PyProof.Rows.SortWalk
import PyProof.Rows.SeqMore2
import PyProof.AttrMiss
import PyProof.IsiH_list
import KE.KDictOf
import KE.KEqDict
import PyProof.Rows.TupDisplay
import PyProof.ZipIter
import PyProof.TupleIter
import PyProof.WalksMore
import PyProof.Rows.FactsT2
import PySem.Challenge.RW_trialdeal_k22_tables_by_layers
set_option autoImplicit true
set_option relaxedAutoImplicit true
set_option linter.all false
def À:=@PySem.wpAny_bind
def Á:=@PySem.wpAny_pure
def Â:=@PySem.Heap.get?_push_of_some
def Ä:=@List.length_map
def Å:=@List.getElem?_eq_getElem
def Æ:=@Nat.le_refl
def Ç:=@decide_eq_true
def È:=@List.getElem?_eq_some_iff
def É:=@List.mem_singleton
def Ê:=@PyProof.Rows.boot_isinstance
def Ë:=@if_neg
def Ì:=@List.mem_of_getElem?
def Í:=@Nat.le_trans
def Î:=@PySem.Heap.get?_push_size
def Ï:=@List.mem_cons_of_mem
def Ð:=@List.map_append
def Ñ:=@PySem.Heap.lt_size
def Ò:=@decide_eq_false
def Ó:=@if_pos
def Ô:=@List.getElem?_map
def Õ:=@List.length_append
def Ö:=@List.mem_cons_self
def Ø:=@Bool.false_ne_true
def Ù:=@Int.toNat_natCast
def Ú:=@List.map_cons
def Ü:=@PySem.sizeLine_eq
def Þ:=@PyProof.Rows.boot_tuple
def ß:=@List.mem_append
def à:=@List.mem_append_right
def á:=@List.take_length
def â:=@Option.some.inj
def ã:=@PySem.wpAny_newObj_type
def ä:=@Nat.lt_of_lt_of_le
def å:=@Option.map_eq_some_iff
def æ:=@List.mem_map
def ç:=@List.getElem?_append_right
def è:=@PySem.Heap.get?_update_ne
def é:=@List.mem_cons
def ê:=@Nat.ne_of_lt
def ë:=@of_decide_eq_true
def ì:=@List.length_cons
def î:=@PySem.wpAny_call_entry
def ð:=@PySem.wpAny_callSpecial?_slot
def ñ:=@List.size_toArray
def ò:=@List.length_take
def ó:=@PySem.F.type_list_append
def ô:=@PySem.F.slot_list_append
def õ:=@PyProof.Rows.boot_list
def ö:=@PySem.boot_len
def ø:=@PySem.F.plainAttrs_list
def ù:=@PySem.Heap.get?_update_self
def ú:=@PySem.wpAny_field
def û:=@Array.getElem?_eq_some_iff
def ü:=@PySem.mem_of_lookup
def ý:=@List.getElem?_append_left
def þ:=@Nat.pow_le_pow_right
def ÿ:=@decide_eq_true_iff
def Ā:=@PySem.PassesOwn.never
def ą:=@congrArg
def Ĉ:=@Nat.le_of_dvd
def ĉ:=@Bool.and_eq_true
def ċ:=@beq_eq_false_iff_ne
def č:=@Nat.mul_div_cancel_left
def ď:=@PySem.wpAny_dictEntries
def Đ:=@Nat.zero_le
def đ:=@Int.emod_lt_of_pos
def ē:=@PySem.wpAny_setField_rec
def Ĕ:=@PySem.Heap.size_push
def ĕ:=@PySem.wpAny_holding
def ė:=@PySem.F.slot_dict_valueiterator_next
def Ę:=@Nat.gcd_dvd_right
def Ě:=@PySem.F.slot_dict_itemiterator_next
def Ĝ:=@PySem.W.kia_tup
def ĝ:=@PySem.W.kia_one
def Ğ:=@List.nodup_cons
def ğ:=@Int.natCast_mul
def Ġ:=@PySem.F.slot_dict_keyiterator_next
def Ģ:=@PySem.wpAny_standAt
def ģ:=@List.mem_of_mem_take
def Ĥ:=@List.getElem_mem
def ĥ:=@List.getElem?_of_mem
def Ħ:=@Nat.lt_or_ge
def ħ:=@Int.le_of_lt
def ĩ:=@List.mem_map_of_mem
def Ī:=@List.append_nil
def Ĭ:=@PySem.W.mg_none_of
def ĭ:=@List.mem_append_left
def į:=@List.sum_append
def Ĳ:=@PySem.wpAny_dictEpoch
def ĳ:=@decide_eq_decide
def Ĵ:=@Nat.gcd_dvd_left
def Ķ:=@beq_iff_eq
def ķ:=@PySem.Heap.SameBut.update
def Ĺ:=@PyProof.Rows.boot_int
def ĺ:=@List.length_replicate
def Ļ:=@List.getElem?_eq_none
def ļ:=@PySem.wpAny_attempt
def Ŀ:=@Nat.div_le_self
def ŀ:=@Int.emod_nonneg
def Ł:=@PySem.wpAny_setField
def ł:=@PySem.wpAny_seqItems
def Ń:=@PySem.wpAny_mono
def ń:=@PySem.Obj.data_mapFields
def Ņ:=@Option.isSome_iff_exists
def ņ:=@Nat.gcd_pos_of_pos_right
def Ň:=@PySem.wpAny_truthy_bool
def ň:=@List.lookup_cons
def ŉ:=@List.filter_cons_of_pos
def Ŋ:=@List.filter_cons_of_neg
def ŋ:=@Nat.mul_pos
def Ō:=@PyProof.Rows.boot_bool
def ō:=@List.contains_cons
def Ŏ:=@PySem.wpAny_typeNameOfWhole_itemiter
def Ő:=@Nat.lt_irrefl
def Œ:=@PySem.wpAny_typeNameOfWhole_valiter
def œ:=@PySem.wpAny_typeNameOfWhole_keyiter
def Ŕ:=@PyProof.Rows.callWith_type1
def ŕ:=@PySem.Calls.callWith_builtin
def Ŗ:=@PySem.wpAny_passesOwn
def ŗ:=@PySem.wpAny_ite_false
def Ř:=@PySem.F.slot_NoneType_hash
def Ś:=@PySem.Paired.length
def š:=@List.sum_cons
def Ţ:=@List.any_cons
def ţ:=@PySem.F.slot_tuple_iterator_next
def ŧ:=@PySem.wpAny_isInstance
def Ũ:=@PySem.W.callWith_K
def ũ:=@PySem.F.plainAttrs_dict
def Ū:=@Nat.gcd_pos_of_pos_left
def ū:=@Nat.div_one
def Ů:=@Nat.mul_le_mul
def ů:=@List.nodup_append
def Ų:=@PySem.wpAny_specialOf
def Ŵ:=@PySem.wpAny_Call_Name_kw
def ŵ:=@PyProof.Rows.slot_tuple_getitem
def Ŷ:=@PySem.W.methodCall_KW
def ŷ:=@PyProof.Rows.boot_sum
def Ÿ:=@Nat.mul_div_mul_right
def Ź:=@List.length_filter_le
def ź:=@beq_self_eq_true
def Ż:=@PySem.W.Looks.here
def ż:=@List.mem_flatMap
def Ž:=@List.filter_cons
def Α:=@PySem.wpAny_fieldsOf
def Β:=@PySem.codeAny_mono
def Γ:=@Nat.one_dvd
def Δ:=@PySem.Heap.get?_push_at
def Ι:=@List.length_nil
def Κ:=@List.filter_nil
def Λ:=@Bool.eq_iff_iff
def Υ:=@PySem.wpAny_notOrdered_dict
def Χ:=@Nat.sub_self
def Ψ:=@Nat.pow_succ
def Ω:=@Nat.ne_of_gt
def γ:=@Nat.le_of_eq
def δ:=@List.map_map
def ι:=@Nat.lt_of_le_of_lt
def ν:=@List.filter_append
def ξ:=@Int.fdiv_eq_ediv_of_nonneg
def a_:=@PySem.F.slot_zip_next
def b_:=@Array.getElem?_eq_getElem
def c_:=@PySem.W.kitx_list
def d_:=@PySem.W.kitx_dict
def e_:=@Nat.le_succ_of_le
def f_:=@Nat.gcd_mul_right
def i_:=@PySem.call_meetsIn
def j':=@List.map_take
def j_:=@Bool.true_and
def m_:=@PySem.wpAny_rule
def n_:=@PySem.wpAny_call
def o_:=@List.any_eq_true
def p_:=@List.all_eq_true
def t_:=@Nat.not_lt
def u_:=@List.map_nil
def v_:=@Int.zero_add
def C_:=@PySem.wpAny_pyIter_slot
def D_:=@PySem.wpAny_pyIter_list
def E_:=@PySem.wpAny_letGo
def F':=@Option.map_some
def F_:=@PySem.F.slot_tuple_hash
def J_:=@PySem.F.slot_dict_get
def K':=@PyProof.Rows.boot_all
def K_:=@List.take_append_drop
def L_:=@List.length_singleton
def Mz:=@PySem.W.mg_of
def MD:=@PySem.wpAny_Call_method0_late
def ME:=@PySem.F.args_dict_valueiterator_next_1
def MF:=@Int.le_refl
def MG:=@PySem.Heap.size_update
def MH:=@Bool.false_and
def MX:=@PySem.F.entry_dict_valueiterator_next
def MY:=@PySem.F.args_dict_itemiterator_next_1
def M7:=@PySem.wpAny_isOneOf_itemiter
def M8:=@PySem.codeAny_compStart_list
def M9:=@PySem.evalArgs_none
def M':=@PySem.W.plainGet_of
def M_:=@PySem.F.entry_dict_itemiterator_next
def Na:=@PySem.F.args_dict_keyiterator_next_1
def Nb:=@List.map_congr_left
def Nc:=@List.filterMap_cons
def Nr:=@PySem.wpAny_execs_nil
def Nt:=@PySem.SeqAt.EqAt.same
def Nu:=@PySem.F.entry_dict_keyiterator_next
def NC:=@PySem.wpAny_callSpecialIfBoundUnlessNone?_slot
def NZ:=@PySem.wpAny_updateSeq_pair
def N0:=@PySem.wpAny_noted
def N1:=@PySem.isSubtype_stop
def N2:=@PySem.codeAny_call_builtin
def N3:=@Nat.lt_trans
def N4:=@Nat.gcd_comm
def N5:=@Nat.div_self
def N6:=@List.append_assoc
def Ot:=@PyProof.Rows.callWith_builtin1
def Ou:=@Option.bind_some
def OJ:=@PySem.wpAny_onRaise
def OK:=@PySem.wpAny_handled
def OL:=@PySem.F.slot_dict_values_iter
def OM:=@Nat.le_succ
def O5:=@PySem.wpAny_tupleItemsOf
def O6:=@PySem.wpAny_pyIter_tuple
def O7:=@PySem.F.slot_dict_items_iter
def O8:=@List.of_mem_zip
def O9:=@List.mem_filter
def O_:=@PySem.Calls.spliced_cons
def Py:=@PySem.wpAny_loadPart_at
def Pz:=@PySem.F.excBase_ValueError
def PB:=@PySem.F.excAttr_ValueError
def PD:=@List.nodup_nil
def PH:=@List.getD_eq_getElem?_getD
def Qm:=@PySem.plainObj_wpAny_Assign_Attribute
def Qy:=@PySem.wpAny_forIn_list
def Qz:=@PySem.W.looks_findIn
def QA:=@PySem.F.slot_dict_values
def QB:=@List.getElem?_take_of_lt
def Q2:=@PySem.wpAny_throw
def Q3:=@PySem.wpAny_of_eq
def Q4:=@PySem.F.slot_dict_items
def Q5:=@PySem.F.slot_dict_clear
def Q6:=@PySem.F.args_dict_get_3
def Q7:=@PyProof.Rows.boot_range
def Q8:=@List.getElem?_replicate
def RH:=@PySem.wpAny_ret_mkInt
def RI:=@PySem.W.cellsFrom_some
def RK:=@PySem.F.slot_dict_iter
def RL:=@PySem.F.entry_dict_get
def RM:=@Nat.mul_comm
def RN:=@Nat.le_of_lt
def RO:=@Nat.dvd_refl
def RP:=@List.take_of_length_le
def RQ:=@List.getElem?_set_self
def RR:=@PySem.F.slot_tuple_eq
def RS:=@PySem.F.args_tuple_iterator_next_1
theorem aC {p:Prop}(h:p:=by decide +kernel):p:=h
theorem ax {p:Prop}(h:p:=by decide):p:=h
theorem af {p:Prop}(h:p:=by omega):p:=h
theorem cK {n:Nat}(h:Nat.ble n 1000=true:=by exact rfl):n<=PySem.sizeLine:=Í (Nat.le_of_ble_eq_true h) (by decide)
abbrev eE:=PySem.Value->PySem.Shared->Prop
abbrev cr:=PySem.Str->Option PySem.Value
abbrev gr (l:List (PySem.Str × PySem.NameKind)):PySem.Scope:={ kind:=.function,names:=(".0",.local)::l,isGenerator:=false,isCoroutine:=false }
set_option Elab.async false
set_option maxRecDepth 100000
namespace L2
open PySem PySem.Spec PyProof.Rows
inductive Key where
 | inl (i:Int) | inr (x:Str) | Ă
 deriving DecidableEq
def jz:Key->Value->Bool
 | .inl k,v=>Value.isInt k v
 | .inr x,v=>Value.isStrOf x v
 | .Ă,v=>v == .none
def GR (w:World):Key->Int
 | .inl k=>hashInt k
 | .inr x=>hashStr w x
 | .Ă=>0xFCA86420
theorem oh (h:Q 0xFCA86420 { s with toks:=s.toks+1 }):wpAny (model prog w) A (pyHash .none) Q E s:=by
 unfold pyHash;have hT:s.TypeIs .none "NoneType" := rfl;have hv:[Value.none].any Value.onHeap=false:=rfl;refine À ?_;rw [cRoomFor,Ë (by rw [hv];exact Ø)];refine Á ?_
 refine À (Ų hT Ř.lookup ?_);rw [Ë (by rw [beq_builtin_none];exact Ø)]
 refine À (Ų hT Ř.lookup ?_);refine À (NC hT Ř
  (î Ř hT PySem.F.entry_NoneType_hash
   (show wpAny _ _ (do ret (<- mkInt 0xFCA86420)) _ _ s from RH ?_) (PySem.F.args_NoneType_hash_1 _)))
 show wpAny _ _ (if(decide (-(2:Int)^63<=0xFCA86420)&&decide ((0xFCA86420:Int)<2^63))=true then _ else _) Q E _
 rw [Ó ax];exact Á h
theorem aZ:∀{k:Key}{v:Value},jz k v=true->(∃ i t,k=Key.inl i/\v=Value.int i t)\/(∃ x t,k=Key.inr x/\v=Value.str x t)\/(k=Key.Ă/\v=Value.none)
 | .inl i,v,h=>by
  obtain⟨t,e⟩:=Value.isInt_shape h;exact .inl ⟨i,t,rfl,e⟩
 | .inr x,v,h=>by
  obtain⟨t,e⟩:=Value.isStrOf_shape h;exact .inr (.inl ⟨x,t,rfl,e⟩)
 | .Ă,v,h=>.inr (.inr ⟨rfl,eq_of_beq h⟩)
theorem sC (i:Int)(t:Tok):jz (.inl i) (.int i t)=true:=by simp [jz,Value.isInt]
theorem sW (x:Str)(t:Tok):jz (.inr x) (.str x t)=true:=by simp [jz,Value.isStrOf]
theorem AH (a b:Int):decide (Key.inl a=Key.inl b)=(a==b):=by
 by_cases e:a=b
 ·subst e;simp
 ·rw [Ò (λ q=>e (Key.inl.inj q))];exact(ċ.mpr e).symm
theorem DG (a b:Str):decide (Key.inr a=Key.inr b)=decide (a=b):=by
 by_cases e:a=b
 ·subst e;simp
 ·rw [Ò (λ q=>e (Key.inr.inj q)),Ò e]
theorem AC (a:Int)(b:Str):decide (Key.inl a=Key.inr b)=false:=Ò (λ q=>nomatch q)
theorem Dh (a:Str)(b:Int):decide (Key.inr a=Key.inl b)=false:=Ò (λ q=>nomatch q)
theorem Ax (a:Int):decide (Key.inl a=Key.Ă)=false:=Ò (λ q=>nomatch q)
theorem AV (a:Int):decide (Key.Ă = Key.inl a)=false:=Ò (λ q=>nomatch q)
theorem BS (a:Str):decide (Key.inr a=Key.Ă)=false:=Ò (λ q=>nomatch q)
theorem CJ (a:Str):decide (Key.Ă = Key.inr a)=false:=Ò (λ q=>nomatch q)
def bn (prog:Program)(w:World):PySem.KeyKind prog w Key where
 is:=jz
 hash:=GR w
 inj:=λ v a b ha hb=>by
  rcases aZ ha with⟨i,t,rfl,rfl⟩ | ⟨x,t,rfl,rfl⟩ | ⟨rfl,rfl⟩
  ·rcases aZ hb with⟨j,u,rfl,e⟩ | ⟨y,u,rfl,e⟩ | ⟨rfl,e⟩
   ·injection e with e1 _;rw [e1]
   ·exact nomatch e
   ·exact nomatch e
  ·rcases aZ hb with⟨j,u,rfl,e⟩ | ⟨y,u,rfl,e⟩ | ⟨rfl,e⟩
   ·exact nomatch e
   ·injection e with e1 _;rw [e1]
   ·exact nomatch e
  ·rcases aZ hb with⟨j,u,rfl,e⟩ | ⟨y,u,rfl,e⟩ | ⟨rfl,e⟩
   ·exact nomatch e
   ·exact nomatch e
   ·rfl
 byValue:=λ k v h=>by
  rcases aZ h with⟨i,t,rfl,rfl⟩ | ⟨x,t,rfl,rfl⟩ | ⟨rfl,rfl⟩ <;> rfl
 pyHash:=λ hv h=>by
  rcases aZ hv with⟨i,t,rfl,rfl⟩ | ⟨x,t,rfl,rfl⟩ | ⟨rfl,rfl⟩
  ·exact wpAny_pyHash_int h
  ·exact wpAny_pyHash_str h
  ·exact oh h
 eqBool:=λ hu hv h=>by
  rcases aZ hu with⟨i,t,rfl,rfl⟩ | ⟨x,t,rfl,rfl⟩ | ⟨rfl,rfl⟩
  ·rcases aZ hv with⟨j,u,rfl,rfl⟩ | ⟨y,u,rfl,rfl⟩ | ⟨rfl,rfl⟩
   ·rw [AH] at h;exact wpAny_eqBool_int h
   ·rw [AC] at h;exact SeqAt.EqAt.int_str i t y u _ _ _ _ h
   ·rw [Ax] at h;exact SeqAt.EqAt.int_none i t _ _ _ _ h
  ·rcases aZ hv with⟨j,u,rfl,rfl⟩ | ⟨y,u,rfl,rfl⟩ | ⟨rfl,rfl⟩
   ·rw [Dh] at h;exact SeqAt.EqAt.str_int x t j u _ _ _ _ h
   ·rw [DG] at h;exact wpAny_eqBool_str h
   ·rw [BS] at h;exact SeqAt.EqAt.str_none x t _ _ _ _ h
  ·rcases aZ hv with⟨j,u,rfl,rfl⟩ | ⟨y,u,rfl,rfl⟩ | ⟨rfl,rfl⟩
   ·rw [AV] at h;exact SeqAt.EqAt.none_int j u _ _ _ _ h
   ·rw [CJ] at h;exact SeqAt.EqAt.none_str y u _ _ _ _ h
   ·exact Nt _ _ _ _ _ (by simpa using h)
 «strs» := λ k x t v h=>by
  rcases aZ h with⟨i,u,rfl,e⟩ | ⟨y,u,rfl,e⟩ | ⟨rfl,e⟩
  ·exact nomatch e
  ·injection e with e1 _
   subst e1;cases v <;> rfl
  ·exact nomatch e
theorem qd (prog:Program)(w:World)(k:Key)(v:Value):(bn prog w).is k v=jz k v:=rfl
theorem ot (prog:Program)(w:World)(i:Int)(t:Tok):(bn prog w).is (.inl i) (.int i t)=true:=sC i t
theorem nZ (prog:Program)(w:World)(x:Str)(t:Tok):(bn prog w).is (.inr x) (.str x t)=true:=sW x t
inductive V where
 | Ă | bl (b:Bool) | int (i:Int) | str (x:Str) | Pl (b:Array UInt8) | Qh (b:UInt64) | ref (a:Addr) | ty (n:String)
 deriving DecidableEq
def RelV:V->Value->Prop
 | .Ă,u=>u=Value.none
 | .bl b,u=>u=Value.bool b
 | .int i,u=>∃ t,u=Value.int i t
 | .str x,u=>∃ t,u=Value.str x t
 | .Pl b,u=>∃ t,u=Value.bytes b t
 | .Qh b,u=>∃ t,u=Value.float b t
 | .ref a,u=>u=Value.ref a
 | .ty n,u=>u=Value.type n
abbrev Vals:List V->List Value->Prop:=Paired RelV
theorem Vals.length (r:Vals xs us):xs.length=us.length:=Ś r
theorem Vals.get:∀{xs:List V}{us:List Value}{i:Nat}{x:V},Vals xs us->xs[i]?=some x->∃ u,us[i]?=some u/\RelV x u
 | _,_,_,_,.nil,e=>by simp at e
 | _,_,0,_,.cons r _,e=>by simp at e;subst e;exact⟨_,rfl,r⟩
 | _,_,i+1,x,.cons _ t,e=>by
  obtain⟨u,h1,h2⟩:=Vals.get t (by simpa using e)
  exact⟨u,by simpa using h1,h2⟩
theorem Vals.set (r:RelV x u):∀{xs:List V}{us:List Value}(i:Nat),Vals xs us->Vals (xs.set i x) (us.set i u)
 | _,_,_,.nil=>.nil
 | _,_,0,.cons _ t=>.cons r t
 | _,_,i+1,.cons q t=>.cons q (Vals.set r i t)
theorem Vals.append:∀{xs ys:List V}{us ws:List Value},Vals xs us->Vals ys ws->Vals (xs++ys) (us++ws)
 | _,_,_,_,.nil,s=>s
 | _,_,_,_,.cons r t,s=>.cons r (Vals.append t s)
theorem Vals.take:∀{xs:List V}{us:List Value}(n:Nat),Vals xs us->Vals (xs.take n) (us.take n)
 | _,_,0,_=>.nil
 | _,_,_+1,.nil=>.nil
 | _,_,n+1,.cons r t=>.cons r (Vals.take n t)
theorem Vals.drop:∀{xs:List V}{us:List Value}(n:Nat),Vals xs us->Vals (xs.drop n) (us.drop n)
 | _,_,0,r=>r
 | _,_,_+1,.nil=>.nil
 | _,_,n+1,.cons _ t=>Vals.drop n t
def ζ:Option V->Option Value->Prop
 | some v,some u=>RelV v u
 | none,none=>True
 | _,_=>False
def KV {κ:Type}:List (κ × V)->List (κ × Value)->Prop:=Paired λ (p:κ × V)(q:κ × Value)=>p.1=q.1/\RelV p.2 q.2
def kV:Key->V
 | .inl i=>.int i
 | .inr x=>.str x
 | .Ă=>.Ă
theorem Paired.Pd {α β:Type}{F G:α->β->Prop}:∀{Uu:List α}{Ut:List β},Paired F Uu Ut->(∀ a b,F a b->G a b)->Paired G Uu Ut
 | _,_,.nil,_=>.nil
 | _,_,.cons r t,f=>.cons (f _ _ r) (Paired.Pd t f)
inductive NK where
 | k (x:Key) | t (ks:List Key)
 deriving DecidableEq
section
variable (P:Program)(w:World)(h:Heap)
def ie:NK->Value->Prop
 | .k x,v=>(bn P w).is x v=true
 | .t ks,v=>∃ a,v=.ref a/\IsTupleKey (bn P w) h ks a
def Ba:NK->Int
 | .k x=>GR w x
 | .t ks=>tupleKeyHash (bn P w) ks
def JN:NK->Nat
 | .k _=>1
 | .t ks=>ks.length+1
def sK (ks:List NK):Nat:=(ks.map JN).sum
def B' (ks:List NK)(a:Addr):Prop:=∃ o items n,h.get? a=some o/\o.cls=.type "tuple" /\ o.data=.seq items n/\Paired (ie P w h) ks items.toList
end
section
variable {P:Program}{w:World}{A:Around}{E:eE}{s:Shared}{h:Heap}
theorem uT:¬ (bn P w).is x (.ref b)=true:=λ e=>nomatch ((bn P w).byValue _ _ e:carriedByValue (.ref b)=true)
theorem AJ:∀{x y:NK}{v:Value},ie P w h x v->ie P w h y v->x=y
 | .k a,.k b,v,h1,h2=>ą NK.k ((bn P w).inj v a b h1 h2)
 | .k a,.t b,v,h1,⟨_,e,_⟩=>absurd h1 (by rw [e];exact uT)
 | .t a,.k b,v,⟨_,e,_⟩,h2=>absurd h2 (by rw [e];exact uT)
 | .t a,.t b,v,⟨c,e,h1⟩,⟨d,e2,h2⟩=>by
  rw [e] at e2;cases e2;rw [h1.inj h2]
theorem q4:∀{xs ys:List NK}{vs:List Value},Paired (ie P w h) xs vs->Paired (ie P w h) ys vs->xs=ys
 | _,_,_,.nil,h2=>by cases h2;rfl
 | _,_,_,.cons a r,h2=>by
  cases h2 with
  | cons b t=>rw [AJ a b,q4 r t]
theorem B'.inj (hx:B' P w h x a)(hy:B' P w h y a):x=y:=by
 obtain⟨o,i,n,h1,_,h3,h4⟩:=hx;obtain⟨o',i',n',k1,_,k3,k4⟩:=hy;rw [h1] at k1;cases k1;rw [h3] at k3;cases k3;exact q4 h4 k4
theorem B'.keeps {es ep}(x:B' P w h ks a)(ho:h.get? d=some o)(hd:o.data=.dict es ep)(hs:Heap.SameBut d h h'):B' P w h' ks a:=by
 obtain⟨o',i,n,h1,h2,h3,h4⟩:=x;have ne:a≠d:=λ e=>by
  rw [e,ho] at h1;cases h1;rw [hd] at h3;cases h3
 refine⟨o',i,n,(hs.2 a ne).trans h1,h2,h3,Paired.Pd h4 λ k v z=>?_⟩;cases k with
 | k x=>exact z
 | t xs =>
  obtain⟨b,e,q⟩:=z;exact⟨b,e,q.keeps ho hd hs⟩
theorem xp (hu:A.units<cLine)(hx:ie P w s.heap x v)(q:Q (Ba P w x) { s with toks:=s.toks+JN x }):wpAny (model P w) A (pyHash v) Q E s:=by
 cases x with
 | k x=>exact(bn P w).pyHash hx q
 | t ks =>
  obtain⟨a,rfl,hk⟩:=hx;exact wpAny_pyHash_tuple hu hk q
theorem vJ (z:IsTupleKey (bn P w) h ks b):∃ its,h.IsTuple b its:=by
 obtain⟨o,i,n,h1,h2,h3,_⟩:=z;exact⟨i,o,h1,h2,n,h3⟩
theorem Fr (hu:A.units<cLine)(hx:ie P w s.heap x u)(hy:ie P w s.heap y v)(q:Q (decide (x=y)) s):wpAny (model P w) A (eqBool u v) Q E s:=by
 cases x with
 | k x =>
  cases y with
  | k y =>
   refine(bn P w).eqBool hx hy ?_;rw [show decide (x=y)=decide (NK.k x=NK.k y) from ĳ.mpr ⟨λ e=>by rw [e],λ e=>by cases e;rfl⟩]
   exact q
  | t ys =>
   obtain⟨b,rfl,z⟩:=hy;obtain⟨its,ht⟩:=vJ z;rw [Ò (λ e=>nomatch e)] at q;rcases aZ hx with⟨i,t,rfl,rfl⟩ | ⟨z,t,rfl,rfl⟩ | ⟨rfl,rfl⟩
   ·exact SeqAt.EqAt.int_tuple i t ht hu _ _ _ _ q
   ·exact SeqAt.EqAt.str_tuple z t ht hu _ _ _ _ q
   ·exact SeqAt.EqAt.none_tuple ht hu _ _ _ _ q
 | t xs =>
  obtain⟨a,rfl,z⟩:=hx;cases y with
  | k y =>
   obtain⟨its,ht⟩:=vJ z;rw [Ò (λ e=>nomatch e)] at q;rcases aZ hy with⟨i,t,rfl,rfl⟩ | ⟨z,t,rfl,rfl⟩ | ⟨rfl,rfl⟩
   ·exact SeqAt.EqAt.tuple_int i t ht hu _ _ _ _ q
   ·exact SeqAt.EqAt.tuple_str z t ht hu _ _ _ _ q
   ·exact SeqAt.EqAt.tuple_none ht hu _ _ _ _ q
  | t ys =>
   obtain⟨b,rfl,z2⟩:=hy;refine wpAny_eqBool_tuple hu z z2 ?_;rw [show decide (xs=ys)=decide (NK.t xs=NK.t ys) from ĳ.mpr ⟨λ e=>by rw [e],λ e=>by cases e;rfl⟩]
   exact q
theorem oU {ok:Value->Prop}(ho:s.heap.get? a=some o)(hc:o.cls=.type "tuple") (hd:o.data=.seq its m) (hv:∀ v∈its.toList,ok v) (each:∀ v (R:Bool->Shared->Prop),ok v->R true s->wpAny (model P w) A (eqIsQuiet n v) R E s) (q:Q true s):wpAny (model P w) A (eqIsQuiet (n+1) (.ref a)) Q E s:=by
 have hT:s.TypeIs (.ref a) "tuple" :=⟨o,ho,hc⟩;unfold eqIsQuiet;refine À (Ų hT RR.lookup ?_);refine À (ŧ hT isSubtype_tuple_tuple ?_);simp only [Bool.not_true,Bool.false_eq_true,if_false];refine À (ł ho hd (À ?_));rw [<- Array.forIn_toList];refine Qy _ (λ rest r s'=>r.1=none/\s'=s/\∀ v∈rest,ok v) _ ?_ ?_ _ _ ⟨rfl,rfl,hv⟩
 ·rintro v rest r s' ⟨hr,rfl,Pj⟩;refine À (each v _ (Pj v Ö) ?_);simp only [Bool.not_true,Bool.false_eq_true,if_false];exact Á ⟨rfl,rfl,λ u hu'=>Pj u (Ï _ hu')⟩
 ·rintro⟨r1,r2⟩ s' ⟨hr,rfl,_⟩;simp only at hr;subst hr;exact Á q
theorem wG (hx:ie P w s.heap x v)(q:Q true s):wpAny (model P w) A (eqIsQuiet (n+1) v) Q E s:=by
 cases x with
 | k x =>
  rw [eqIsQuiet_byValue _ ((bn P w).byValue _ _ hx)];exact Á q
 | t ks =>
  obtain⟨a,rfl,o,its,m,h1,h2,h3,h4⟩:=hx;refine oU h1 h2 h3 h4.byValue (λ v R c r=>?_) q;rw [eqIsQuiet_byValue _ c];exact Á r
theorem ui:∀{ks:List NK}{vs:List Value},Paired (ie P w h) ks vs->∀ v∈vs,∃ k,ie P w h k v
 | _,_,.nil,v,m=>nomatch m
 | _,_,.cons a t,v,m=>by
  rcases é.mp m with rfl | m
  ·exact⟨_,a⟩
  ·exact ui t v m
theorem tM (hk:B' P w s.heap ks a)(q:Q true s):wpAny (model P w) A (eqIsQuiet 8 (.ref a)) Q E s:=by
 obtain⟨o,its,m,h1,h2,h3,h4⟩:=hk;exact oU h1 h2 h3 (ui h4) (λ v R ⟨k,c⟩ r=>wG c r) q
def Bh (P:Program)(w:World)(ks:List NK):Int:=reduceHash (Builtin.Tuple.tupleHashOf (ks.map (Ba P w)))
theorem v9 (hu:A.units+1<cLine)(hk:B' P w s.heap ks a)(q:Q (Bh P w ks) { s with toks:=s.toks+(sK ks+1) }):wpAny (model P w) A (pyHash (.ref a)) Q E s:=by
 obtain⟨o,its,n,ho,hc,hd,hi⟩:=hk;have hT:s.TypeIs (.ref a) "tuple" :=⟨o,ho,hc⟩;unfold pyHash
 first | unfold pyHashByItsType | skip
 first | refine À (wpAny_cRoomFor_or (.inr af) ?_) | skip
 refine À (Ų hT F_.lookup ?_);rw [Ë (by rw [beq_builtin_none];exact Ø)]
 refine À (Ų hT F_.lookup ?_);refine À (NC hT F_ (î F_ hT F.entry_tuple_hash ?_ (F.args_tuple_hash_1 _)));show wpAny _ _ (Builtin.Tuple.tupleItemsOf (.ref a)>>=_) _ _ s;refine À (O5 ho hd (À ?_));rw [<- Array.forIn_toList];refine Qy _ (λ rest (b:Array Int) s'=>∃ done left,ks=done++left/\Paired (ie P w s.heap) left rest/\b.toList=done.map (Ba P w)/\s'={ s with toks:=s.toks+sK done }) _ ?_ ?_ _ _ ⟨[],ks,rfl,hi,rfl,rfl⟩
 ·rintro x rest b s' ⟨done,left,rfl,hl,hb,rfl⟩;cases hl with
  | @cons k _ Yz _ h1 Nm =>
   have e:sK (done ++ [k])=sK done+JN k:=by simp [sK]
   refine À (xp hu h1 ?_)
   first
    | exact Á ⟨done ++ [k],Yz,by simp,Nm,by simp [hb],by rw [e];simp [Nat.add_assoc]⟩
    | exact À (Á (Á ⟨done ++ [k],Yz,by simp,Nm,by simp [hb],by rw [e];simp [Nat.add_assoc]⟩))
 ·rintro b s' ⟨done,left,rfl,hl,hb,rfl⟩;cases hl;rw [Ī] at q;show wpAny _ _ (retInt (Builtin.Tuple.tupleHashOf b.toList)) _ _ _;rw [hb];refine RH ?_;show wpAny _ _ (if(decide (-(2:Int)^63<=Builtin.Tuple.tupleHashOf (done.map (Ba P w)))&&decide (Builtin.Tuple.tupleHashOf (done.map (Ba P w))<2^63))=true then _ else _) Q E _
  unfold Bh reduceHash at q;by_cases hr:(decide (-(2:Int)^63<=Builtin.Tuple.tupleHashOf (done.map (Ba P w)))&&decide (Builtin.Tuple.tupleHashOf (done.map (Ba P w))<2^63))=true
  ·rw [Ó hr];rw [Ó hr] at q;exact Á (by simpa [Nat.add_assoc] using q)
  ·rw [Ë hr];rw [Ë hr] at q;exact À (m_ (Á (by simpa [Nat.add_assoc] using q)))
theorem wN (hu:A.units<cLine)(hx:B' P w s.heap x a)(hy:B' P w s.heap y b)(q:R (.done (.ret (.bool (decide (x=y))))) s):wpAny (model P w) A (Builtin.«tuple.__eq__» ⟨[.ref a,.ref b],[]⟩) R E s:=by
 obtain⟨oa,xs,na,hoa,_,hda,hia⟩:=hx;obtain⟨ob,ys,nb,UJ,hcb,No,hib⟩:=hy;show wpAny _ _ (isInstance (.ref b) (.type "tuple")>>=_) _ _ s;refine À (ŧ ⟨ob,UJ,hcb⟩ isSubtype_tuple_tuple ?_);simp only [Bool.not_true,Bool.false_eq_true,if_false];refine À (O5 hoa hda (À (O5 UJ No (À ?_))));refine Qy _ (λ rest r s'=>r.1=none/\s'=s/\∃ x' y' SW M5,rest=List.zip SW M5/\Paired (ie P w s.heap) x' SW/\Paired (ie P w s.heap) y' M5/\decide (x'=y')=decide (x=y)/\(SW.length==M5.length)=(xs.size==ys.size)) _ ?_ ?_ _ _ ⟨rfl,rfl,x,y,xs.toList,ys.toList,rfl,hia,hib,rfl,by simp⟩
 ·rintro⟨u,v⟩ rest r s' ⟨hr,rfl,x',y',SW,M5,hz,Oq,VF,QQ,ľ⟩;cases Oq with
  | nil=>simp at hz
  | @cons k1 u' x'' Wd h1 WP =>
   cases VF with
   | nil=>simp at hz
   | @cons k2 v' y'' Wc h2 WN =>
    simp only [List.zip_cons_cons,List.cons.injEq,Prod.mk.injEq] at hz;obtain⟨⟨rfl,rfl⟩,rfl⟩:=hz;refine À (Fr hu h1 h2 ?_);by_cases hk:k1=k2
    ·subst hk;rw [Ç rfl];simp only [Bool.not_true,Bool.false_eq_true,if_false];refine Á ⟨rfl,rfl,x'',y'',Wd,Wc,rfl,WP,WN,?_,by simpa using ľ⟩
     rw [<- QQ];exact ĳ.mpr ⟨λ e=>by rw [e],λ e=>by injection e⟩
    ·rw [Ò hk];simp only [Bool.not_false,if_true];have hf:decide (x=y)=false:=by rw [<- QQ];simp [hk]
     rw [hf] at q;exact À (Á (Á (Á q)))
 ·rintro⟨r1,r2⟩ s' ⟨hr,rfl,x',y',SW,M5,hz,Oq,VF,QQ,ľ⟩;simp only at hr;subst hr;refine Á ?_;have fin:(xs.size==ys.size)=decide (x=y):=by
   rw [<- QQ,<- ľ];cases Oq with
   | nil =>
    cases VF with
    | nil=>simp
    | cons _ _=>simp
   | cons _ _ =>
    cases VF with
    | nil=>simp
    | cons _ _=>simp at hz
  show R (.done (.ret (.bool (xs.size==ys.size)))) s';rw [fin];exact q
theorem CU (hu:A.units+1<cLine)(hx:B' P w s.heap x a)(hy:B' P w s.heap y b)(q:Q (decide (x=y)) s):wpAny (model P w) A (eqBool (.ref a) (.ref b)) Q E s:=by
 unfold eqBool
 try with_reducible refine ĕ ?_
 show wpAny _ _ (if(Value.ref a==Value.ref b)=true then _ else _) Q E s
 have tx:s.TypeIs (.ref a) "tuple" := let ⟨o,_,_,h1,h2,_⟩:=hx;⟨o,h1,h2⟩
 have ty:s.TypeIs (.ref b) "tuple" := let ⟨o,_,_,h1,h2,_⟩:=hy;⟨o,h1,h2⟩
 by_cases Xs:(Value.ref a == .ref b)=true
 ·rw [Ó Xs];have e:a=b:=by have:=eq_of_beq Xs;injection this
  subst e;obtain rfl:=hx.inj hy;exact À (m_ (Á (by simpa using q)))
 ·rw [Ë Xs];exact À (wpAny_richCompare_same_room tx ty RR
   (î RR tx F.entry_tuple_eq (wN hu hx hy ⟨_,rfl,(λ e=>nomatch e),Ň q⟩) (F.args_tuple_eq_2 _ _)) af)
def iO (P:Program)(w:World):HeapKind P w (List NK) where
 is:=B' P w
 hash:=Bh P w
 draws:=λ ks=>sK ks+1
 room:=λ A=>A.units+1<cLine
 inj:=λ hx hy=>hx.inj hy
 keeps:=λ x ho hd hs=>x.keeps ho hd hs
 pyHash:=λ hu hk h=>v9 hu hk h
 eqBool:=λ hu hx hy h=>CU hu hx hy h
 quiet:=λ hk h=>tM hk h
end
inductive HO where
 | lst (xs:List V)
 | tup (xs:List V)
 | dK (ï:List (Key × V)) | dT (ï:List (List NK × V))
 | set (S:Int->Bool) (n:Nat)
 | ins (C dx:Addr) (fs:List (Str × V))
 | own (x:Addr)
 | xd (fs:List (Str × V))
 | met (f x:Addr)
 | Ps (lo hi:Int)
 | Ŭ (o:Obj) (u:HO)
 | R3 (ps:Array Value)
 | ext (φ:Heap->Prop)
abbrev Hp:=Addr->Option HO
def aj (H:Hp)(a:Addr)(o:HO):Hp:=λ b=>if b=a then some o else H b
theorem be {H:Hp}:aj H a o a=some o:=by unfold aj;rw [Ó rfl]
theorem ad (h:b≠a):aj H a o b=H b:=by unfold aj;rw [Ë h]
theorem hI:aj (aj H a o) a u=aj H a u:=by
 funext b;unfold aj;split <;> rfl
theorem zB {H:Hp}(h:H a=some o)(h':H b=some u)(d:o≠u):a≠b:=by
 intro e;subst e;rw [h] at h';exact d (â h')
theorem aT {H:Hp}(h:H a=some o)(h':H b=none):a≠b:=by
 intro e;subst e;rw [h] at h';cases h'
def NV (H:Hp):NK->V->Prop
 | .k x,v=>v=kV x
 | .t ks,v=>∃ b,v=.ref b/\H b=some (.tup (ks.map kV))
def OG (H:Hp)(ks:List NK)(b:Addr):Prop:=∃ vs,H b=some (.tup vs)/\Paired (NV H) ks vs
theorem OG.keep (x:OG H ks b)(ht:∀ b xs,H b=some (.tup xs)->H' b=some (.tup xs)):OG H' ks b:=by
 obtain⟨vs,e,r⟩:=x;refine⟨vs,ht _ _ e,Paired.Pd r λ k v z=>?_⟩;cases k with
 | k x=>exact z
 | t ks =>
  obtain⟨b,e,q⟩:=z;exact⟨b,e,ht _ _ q⟩
section
variable (P:Program)(w:World)
def ă (H:Hp)(h:Heap)(a:Addr):HO->Prop
 | .lst xs=>xs.length<=sizeLine/\∃(its:List Value)(n:Nat),Vals xs its/\h.get? a=some { cls:=.type "list",data:=.seq its.toArray n }
 | .tup xs=>xs.length<=sizeLine/\∃ its:List Value,Vals xs its/\IsTup h a its.toArray
 | .dK ï=>ï.length<=sizeLine/\(a==sysModules)=false/\∃ vs,KV ï vs/\h.DictOf (bn P w) a vs
 | .dT ï=>ï.length<=sizeLine/\(a==sysModules)=false/\∃ xs:List (List NK × Addr × Value),
   Paired (λ (p:List NK × V)(q:List NK × Addr × Value)=>p.1=q.1/\OG H p.1 q.2.1/\RelV p.2 q.2.2) ï xs /\
   ∃ o es ep,h.get? a=some o/\o.ExactDict/\o.data=.dict es ep/\es.toList=xs.map (entryOfKey (iO P w))/\(xs.map (·.1)).Nodup
 | .set S n=>h.SetOf (intKind P w) a S n
 | .ins C dx fs=>H dx=some (.own a)/\fs.length<=1000/\dx≠a/\h.get? a=some (PySem.W.instObj C dx) /\
   ∃ mA,h.Ns1 dx mA/\(∀ f,ζ (fs.lookup f) (mA f))/\PySem.Within mA (fs.map (·.1))
 | .own _=>∃ o,h.get? a=some o
 | .xd fs=>∃ mA,h.Ns1 a mA/\∀ f,ζ (fs.lookup f) (mA f)
 | .Ps lo hi=>∃ t u v,h.get? a=some { cls:=.type "range",data:=.fields #[.int lo t,.int hi u,.int 1 v] }
 | .Ŭ o u=>h.get? a=some o/\ă H h a u
 | .R3 ps=>h.get? a=some { cls:=.none,data:=.fields ps }
 | .met f x=>h.get? a=some (PySem.W.methodObj (.ref f) (.ref x))
 | .ext φ=>φ h/\(∃ o,h.get? a=some o)/\∀ h1 h2:Heap,φ h1->(∀ o,h1.get? a=some o->h2.get? a=some o)->φ h2
def η (H:Hp)(h:Heap):Prop:=∀ a o,H a=some o->ă P w H h a o
end
section
variable {P:Program}{w:World}{H H':Hp}{h h':Heap}{a:Addr}{o:HO}
theorem ă.lt (x:ă P w H h a o):a<h.objs.size:=by
 cases o with
 | lst xs=>obtain⟨_,_,_,_,e⟩:=x;exact Ñ e
 | tup xs=>obtain⟨_,_,_,p⟩:=x;exact p.lt
 | dK ï=>obtain⟨_,_,_,_,o,_,_,e,_⟩:=x;exact Ñ e
 | dT ï=>obtain⟨_,_,_,_,o,_,_,e,_⟩:=x;exact Ñ e
 | set S n=>obtain⟨o,_,_,_,e,_⟩:=x;exact Ñ e
 | ins C dx fs=>obtain⟨_,_,_,e,_⟩:=x;exact Ñ e
 | own y=>obtain⟨_,e⟩:=x;exact Ñ e
 | xd fs=>obtain⟨_,⟨_,_,_,e,_⟩,_⟩:=x;exact Ñ e
 | Ps lo hi=>obtain⟨_,_,_,e⟩:=x;exact Ñ e
 | Ŭ ob u=>obtain⟨e,_⟩:=x;exact Ñ e
 | R3 ps=>exact Ñ (show h.get? a=some _ from x)
 | met f y=>exact Ñ (show h.get? a=some _ from x)
 | ext φ=>obtain⟨_,⟨_,e⟩,_⟩:=x;exact Ñ e
theorem ă.Mt (x:ă P w H h a o)(k:∀ b u,(b=a\/H b=some (.own a))->h.get? b=some u->h'.get? b=some u)
  (ho:∀ b,H b=some (.own a)->H' b=some (.own a)) (ht:∀ b xs,H b=some (.tup xs)->H' b=some (.tup xs)):ă P w H' h' a o:=by
 induction o with
 | lst xs=>obtain⟨z,its,n,r,e⟩:=x;exact⟨z,its,n,r,k _ _ (.inl rfl) e⟩
 | tup xs=>obtain⟨z,its,r,ob,e,c⟩:=x;exact⟨z,its,r,ob,k _ _ (.inl rfl) e,c⟩
 | dK ï=>obtain⟨z,y,vs,r,ob,es,ep,e,c⟩:=x;exact⟨z,y,vs,r,ob,es,ep,k _ _ (.inl rfl) e,c⟩
 | dT ï =>
  obtain⟨z,y,xs,r,ob,es,ep,e,c⟩:=x;exact⟨z,y,xs,Paired.Pd r λ p q z=>⟨z.1,z.2.1.keep ht,z.2.2⟩,ob,es,ep,k _ _ (.inl rfl) e,c⟩
 | set S n=>obtain⟨ob,es,ep,t,e,c⟩:=x;exact⟨ob,es,ep,t,k _ _ (.inl rfl) e,c⟩
 | ins C dx fs =>
  obtain⟨d,z,ne,e,mA,⟨od,es,ep,e2,c⟩,r⟩:=x;exact⟨ho _ d,z,ne,k _ _ (.inl rfl) e,mA,⟨od,es,ep,k _ _ (.inr d) e2,c⟩,r⟩
 | own y=>obtain⟨ob,e⟩:=x;exact⟨ob,k _ _ (.inl rfl) e⟩
 | xd fs=>obtain⟨mA,⟨od,es,ep,e,c⟩,r⟩:=x;exact⟨mA,⟨od,es,ep,k _ _ (.inl rfl) e,c⟩,r⟩
 | Ps lo hi=>obtain⟨t,u,v,e⟩:=x;exact⟨t,u,v,k _ _ (.inl rfl) e⟩
 | Ŭ ob u ih=>obtain⟨e,q⟩:=x;exact⟨k _ _ (.inl rfl) e,ih q⟩
 | R3 ps =>
  have e:=x;exact k a _ (.inl rfl) e
 | met f y =>
  have e:=x;exact k a _ (.inl rfl) e
 | ext φ=>obtain⟨p,⟨o,e⟩,st⟩:=x;exact⟨st _ _ p λ o q=>k _ _ (.inl rfl) q,⟨o,k _ _ (.inl rfl) e⟩,st⟩
theorem η.lt (x:η P w H h)(e:H a=some o):a<h.objs.size:=(x a o e).lt
theorem η.fresh (x:η P w H h)(e:h.objs.size<=a):H a=none:=by
 cases q:H a with
 | none=>rfl
 | some u=>exact absurd (ä (x.lt q) e) (Ő _)
theorem η.kept (x:η P w H h)(k:∀ b u,h.get? b=some u->h'.get? b=some u):η P w H h':=λ a o e =>
 (x a o e).Mt (λ b u _ q=>k b u q) (λ _ q=>q) λ _ _ q=>q
theorem η.laid (x:η P w H h)(k:∀ b u,h.get? b=some u->h'.get? b=some u)(hp:h.objs.size<=a)(new:ă P w (aj H a o) h' a o):η P w (aj H a o) h':=λ b u e=>by
 have hn:=x.fresh hp;by_cases hb:b=a
 ·subst hb;rw [be] at e;cases e;exact new
 ·rw [ad hb] at e;exact(x b u e).Mt (λ c v _ q=>k c v q) (λ c q=>by rw [ad (aT q hn)];exact q) λ c xs q=>by rw [ad (aT q hn)];exact q
end
def Rd (H:Hp)(a:Addr)(u:HO):Prop:=H a=some u\/∃ o,H a=some (.Ŭ o u)
theorem Rd.ok (r:Rd H a u)(x:η P w H h):ă P w H h a u:=by
 rcases r with r | ⟨o,r⟩
 ·exact x a u r
 ·obtain⟨_,q⟩:=x a _ r;exact q
def Eo:Option HO->Prop
 | some (.lst _)=>True
 | some (.dK _)=>True
 | some (.dT _)=>True
 | some (.set _ _)=>True
 | some (.ins _ _ _)=>True
 | some (.ext _)=>True
 | _=>False
section
variable {P:Program}{w:World}{H:Hp}{h h':Heap}{x e:Addr}{o':HO}
theorem η.write (ok:η P w H h)(mu:Eo (H x))(he:e=x\/H e=some (.own x))(k:∀ b u,b≠e->h.get? b=some u->h'.get? b=some u)(S8:∃ u,h'.get? e=some u)
  (new:ă P w (aj H x o') h' x o'):η P w (aj H x o') h':=λ b u q=>by
 have Ue:∀ c y,H c=some (.own y)->c≠x:=λ c y r z=>by subst z;rw [r] at mu;exact mu
 have Ws:∀ c xs,H c=some (.tup xs)->c≠x:=λ c xs r z=>by subst z;rw [r] at mu;exact mu
 by_cases hb:b=x
 ·subst hb;rw [be] at q;cases q;exact new
 ·rw [ad hb] at q;by_cases SE:b=e
  ·have q':H b=some (.own x):=by
    rcases he with z | z
    ·exact absurd (SE.trans z) hb
    ·rw [SE];exact z
   rw [q] at q';cases q';obtain⟨v,hv⟩:=S8;exact⟨v,by rw [SE];exact hv⟩
  ·refine(ok b u q).Mt (λ c v hc r=>k c v ?_ r) (λ c r=>by rw [ad (Ue c b r)];exact r) λ c xs r=>by rw [ad (Ws c xs r)];exact r
   rcases hc with rfl | hc
   ·exact SE
   ·rintro rfl;rcases he with z | z
    ·exact Ue c b hc z
    ·rw [hc] at z;cases z;exact hb rfl
end
structure Un (fs ex:List Addr)(H H':Hp)(h h':Heap):Prop where
 keep:∀ b o,h.get? b=some o->H b=none->b ∉ fs->b ∉ ex->h'.get? b=some o
 slot:∀ b o,h.get? b=some o->H b=none->b∈fs->b ∉ ex->∃ sl,h'.get? b=some { o with slots:=sl }
 free:∀ b o,h.get? b=some o->H b=none->b ∉ ex->H' b=none
 there:∀ b o,h.get? b=some o->b ∉ ex->∃ o',h'.get? b=some o'
 Nf:∀ b xs,H b=some (.tup xs)->H' b=some (.tup xs)
 MU:∀ b o u,H b=some (.Ŭ o u)->H' b=some (.Ŭ o u)
 Ng:∀ b ps,H b=some (.R3 ps)->∃ more,H' b=some (.R3 (ps++more))
 sys:H sysModules=none->H' sysModules=none
section
variable {fs fs' ex ex':List Addr}{H H1 H2:Hp}{h h1 h2 h':Heap}{a x e:Addr}{o:HO}
theorem Un.any (u:Un fs ex H H1 h h1)(q:h.get? b=some ob)(n:H b=none)(hx:b ∉ ex):∃ sl,h1.get? b=some { ob with slots:=sl }:=by
 by_cases hb:b∈fs
 ·exact u.slot b ob q n hb hx
 ·exact⟨ob.slots,u.keep b ob q n hb hx⟩
theorem Un.kept (k:∀ b u,h.get? b=some u->h'.get? b=some u):Un fs ex H H h h' :=
 ⟨λ b ob q _ _ _=>k b ob q,λ b ob q _ _ _=>⟨ob.slots,k b ob q⟩,λ _ _ _ n _=>n,λ b ob q _=>⟨ob,k b ob q⟩,λ _ _ q=>q,λ _ _ _ q=>q,λ _ ps q=>⟨#[],by rw [q];simp⟩,λ q=>q⟩
theorem Un.refl:Un fs ex H H h h:=Un.kept λ _ _ q=>q
theorem Un.laid (k:∀ b u,h.get? b=some u->h'.get? b=some u)(hp:h.objs.size<=a)(hn:H a=none)(hz:sysModules<h.objs.size):Un fs ex H (aj H a o) h h' where
 sys:=λ q=>by rw [ad (ê (ä hz hp))];exact q
 keep:=λ b u q _ _ _=>k b u q
 slot:=λ b u q _ _ _=>⟨u.slots,k b u q⟩
 free:=λ b u q n _=>by rw [ad (ê (ä (Ñ q) hp))];exact n
 there:=λ b u q _=>⟨u,k b u q⟩
 Nf:=λ b xs q=>by rw [ad (aT q hn)];exact q
 MU:=λ b u xs q=>by rw [ad (aT q hn)];exact q
 Ng:=λ b ps q=>⟨#[],by rw [ad (aT q hn),q];simp⟩
theorem Un.write (mu:Eo (H x))(he:e=x\/H e=some (.own x))(k:∀ b u,b≠e->h.get? b=some u->h'.get? b=some u)(S8:∃ u,h'.get? e=some u):Un fs ex H (aj H x o) h h':=by
 have hx:∀ b,H b=none->b≠x:=λ b n z=>by subst z;rw [n] at mu;exact mu
 have hb:∀ b,H b=none->b≠e:=λ b n z=>by
  subst z;rcases he with r | r
  ·exact hx b n r
  ·rw [n] at r;cases r
 have hm:∀ b u,H b=some u->¬ Eo (some u)->b≠x:=λ b u q nm z=>by subst z;rw [q] at mu;exact nm mu
 refine⟨λ b u q n _ _=>k b u (hb b n) q,λ b u q n _ _=>⟨u.slots,k b u (hb b n) q⟩,λ b u q n _=>by rw [ad (hx b n)];exact n,λ b u q _=>?_,
  λ b xs q=>by rw [ad (hm b _ q λ z=>z)];exact q,λ b u xs q=>by rw [ad (hm b _ q λ z=>z)];exact q,λ b ps q=>⟨#[],by rw [ad (hm b _ q λ z=>z),q];simp⟩,λ q=>by rw [ad (hx _ q)];exact q⟩
 by_cases SE:b=e
 ·subst SE;exact S8
 ·exact⟨u,k b u SE q⟩
end
def Ix (h:Heap)(H:Hp):List Addr:=(List.range h.objs.size).filter λ a=>(H a).isSome
def n9 (h:Heap)(H:Hp):Heap:=PySem.W.hideAll h (Ix h H)
theorem sB (h:Heap)(H:Hp):(n9 h H).objs.size=h.objs.size:=PySem.W.hideAll_size _ _
theorem vT (e:h.get? b=some o)(n:H b=none):(n9 h H).get? b=some o :=
 PySem.W.hideAll_get _ e λ hm=>by
  have q:=(O9.mp hm).2;rw [n] at q;simp at q
theorem yp (e:(n9 h H).get? b=some o):h.get? b=some o/\H b=none:=by
 have e':=PySem.W.of_hideAll (Ix h H) e;refine⟨e',?_⟩;cases q:H b with
 | none=>rfl
 | some x =>
  have hm:b∈Ix h H:=O9.mpr ⟨List.mem_range.mpr (Ñ e'),by simp [q]⟩
  have z:(n9 h H).get? b=none:=PySem.W.hideAll_none (Ix h H) hm;rw [z] at e;cases e
def zj (g h:Heap)(L:Addr):List (Addr × Obj):=(List.range h.objs.size).filterMap λ a=>if a=L\/(g.get? a).isSome=true then none else(h.get? a).map λ o=>(a,o)
def rest (g h:Heap)(L d:Addr):List (Addr × Obj):=(zj g h L).filter λ p=>decide (p.1≠d)
structure Mod (K:PySem.W.Frag)(mg:cr)(base:Heap):Prop where
 Sv:K.In base
 glob:base.Ns mainGlobals mg
 blt:∃ mb,base.Ns builtinsNs mb/\∀ x:Str,x ≠ "__name__" -> mb x=bootBuiltins x
 nolimit:base.NoLimit
structure Cx where
 prog:Program
 w:World
 K:PySem.W.Frag
 mg:Str->Option Value
 base:Heap
 A:Around
 N:List Str
 ŝ:Shared
 OH:Hp
 env:Env
 outer:List Env
 stack:List Env
 ex:List Addr
 fn:Str->Bool
 calm:Bool
 pn:List (Addr × Obj)
 xe:Value->Shared->Prop
def mj (l:List Env):List Addr:=l.filterMap (·.frame)
abbrev Cx.fs (X:Cx):List Addr:=mj X.outer
def EM (sc:Scope)(x:Str):Prop:=sc.names.lookup x=some .local\/sc.names.lookup x=some .cell\/sc.names.lookup x=some .free
def BX (sc:Scope)(x:Str):Prop:=sc.names.lookup x=some .local\/sc.names.lookup x=some .cell
def IM (env:Env)(h:Heap)(m:cr)(x:Str)(u:Value):Prop :=
 (env.kindOf x=some .local/\m x=some u)\/((env.kindOf x=some .cell\/env.kindOf x=some .free)/\∃ c,env.cells.lookup x=some c/\h.IsCell c (some u))
structure Cx.Ok (X:Cx):Prop where
 mod:Mod X.K X.mg X.base
 kind:X.env.scope.kind=.function
 glob:X.env.globals=mainGlobals
 blt:X.env.builtins=builtinsNs
 above:X.ŝ.heap.objs.size<=X.env.locals
 inj:∀ x y c,X.env.cells.lookup x=some c->X.env.cells.lookup y=some c->x=y
 has:∀ x,(X.env.kindOf x=some .cell\/X.env.kindOf x=some .free)->∃ c,X.env.cells.lookup x=some c
 U6:∀ x c,X.fn x=true->X.env.cells.lookup x=some c->X.ŝ.heap.objs.size<=c
 hd:X.calm=true->X.A.handled=none
 frames:X.A.frames=some X.stack
 Vq:X.stack=X.outer\/(X.stack=X.env::X.outer/\X.env.frame=some X.env.locals)
 Zk:∀ b∈X.ex,b≠X.env.locals/\∀ x c,X.env.cells.lookup x=some c->c≠b
 bs:∀ b o,X.base.get? b=some o->X.ŝ.heap.get? b=some o/\X.OH b=none
 QW:X.base.objs.size<=X.ŝ.heap.objs.size
 P2:∀ b o,X.base.get? b=some o->b ∉ X.ex
 QU:∀ b∈X.ex,b ∉ X.fs
 Mw:X.ŝ.heap.FunFrames X.base X.outer
 SH:∀ b∈X.fs,X.OH b=none
structure Inv (X:Cx)(Ã:List (Addr × Obj))(σ:List (Option V))(H:Hp)(s:Shared):Prop where
 ok:X.Ok
 os:s.os=X.ŝ.os
 bare:AllBare s.gens
 base:Un X.fs X.ex X.OH H X.ŝ.heap s.heap
 loc:∃ m,s.heap.Ns X.env.locals m/\∀(i:Nat)(x:Str)(v:V),X.N[i]?=some x->σ[i]?=some (some v)->EM X.env.scope x->∃ u,RelV v u/\IM X.env s.heap m x u
 cell:∀ x c,X.env.cells.lookup x=some c->∃ v,s.heap.IsCell c v
 free:H X.env.locals=none
 ψ:∀ x c,X.env.cells.lookup x=some c->H c=none
 pin:∀ p∈X.pn ++ Ã,s.heap.get? p.1=some p.2/\H p.1=none/\p.1≠X.env.locals/\p.1 ∉ X.fs/\∀ v,p.2.data ≠ .cell v
 Č:η X.prog X.w H s.heap
 len:σ.length=X.N.length
section
variable {X:Cx}{Ã:List (Addr × Obj)}{σ:List (Option V)}{H H':Hp}{s:Shared}{h':Heap}
theorem Cx.Ok.Ww (ok:X.Ok)(e:X.base.get? b=some o):b ∉ X.fs:=λ hb=>by
 have:=(ok.Mw.mem hb).1;rw [e] at this;cases this
theorem Inv.bs (I:Inv X Ã σ H s):∀ b o,X.base.get? b=some o->s.heap.get? b=some o/\H b=none:=λ b o e =>
 ⟨I.base.keep b o (I.ok.bs b o e).1 (I.ok.bs b o e).2 (I.ok.Ww e) (I.ok.P2 b o e),I.base.free b o (I.ok.bs b o e).1 (I.ok.bs b o e).2 (I.ok.P2 b o e)⟩
theorem Inv.bk (I:Inv X Ã σ H s):∀ b o,X.base.get? b=some o->s.heap.get? b=some o:=λ b o e=>(I.bs b o e).1
theorem Inv.mod (I:Inv X Ã σ H s):Mod X.K X.mg X.base:=I.ok.mod
theorem Inv.Š (I:Inv X Ã σ H s):X.K.In s.heap:=I.ok.mod.Sv.keeps I.bk
theorem Inv.lt (I:Inv X Ã σ H s):X.env.locals<s.heap.objs.size:=let ⟨_,hn,_⟩:=I.loc;hn.lt
theorem Inv.sz (I:Inv X Ã σ H s):X.ŝ.heap.objs.size<=s.heap.objs.size:=Í I.ok.above (RN I.lt)
theorem Inv.Wv (I:Inv X Ã σ H s)(h:s.heap.objs.size<=a):a ∉ X.fs:=λ hb=>by
 obtain⟨_,o,ho,_⟩:=I.ok.Mw.mem hb;exact absurd (ä (Ñ ho) (Í I.sz h)) (Ő _)
theorem Inv.SL (I:Inv X Ã σ H s):∀ x c,X.env.cells.lookup x=some c->c≠X.env.locals:=λ x c e z=>by
 obtain⟨v,o,ho,hd⟩:=I.cell x c e;obtain⟨m,⟨o',es,ep,SB,Qd,_⟩,_⟩:=I.loc;rw [z,SB] at ho;cases ho;rw [Qd] at hd;cases hd
theorem Inv.Mw (I:Inv X Ã σ H s):s.heap.FunFrames X.base X.outer:=by
 have all:∀(l:List Env),(∀ b∈mj l,b∈X.fs)->X.ŝ.heap.FunFrames X.base l->s.heap.FunFrames X.base l:=by
  intro l
  induction l with
  | nil=>intro _ _;trivial
  | cons env r ih =>
   intro hs hl;obtain⟨hk,⟨L,o,hf,hn,ho,hd⟩,hr⟩:=hl;have hL:=hs L (by unfold mj;rw [Nc,hf];exact Ö)
   obtain⟨sl,e⟩:=I.base.slot L o ho (I.ok.SH L hL) hL λ z=>I.ok.QU L z hL;exact⟨hk,⟨L,_,hf,hn,e,hd⟩,ih (λ b hb=>hs b (by unfold mj;rw [Nc,hf];exact Ï _ hb)) hr⟩
 exact all X.outer (λ _ hb=>hb) I.ok.Mw
theorem Inv.stack (I:Inv X Ã σ H s):s.heap.FunFrames X.base X.stack:=by
 rcases I.ok.Vq with e | ⟨e,hf⟩
 ·rw [e];exact I.Mw
 ·rw [e];obtain⟨m,hn,_⟩:=I.loc;refine .cons (by rw [I.ok.kind];decide) hf hn ?_ I.Mw
  exact Heap.get?_none_of_le (Í I.ok.QW I.ok.above)
theorem Inv.ML (I:Inv X Ã σ H s):∀ b∈mj X.stack,b∈X.env.locals::X.fs:=λ b hb=>by
 rcases I.ok.Vq with e | ⟨e,hf⟩
 ·rw [e] at hb;exact Ï _ hb
 ·rw [e] at hb;unfold mj at hb;rw [Nc,hf] at hb;exact hb
theorem Inv.NH (I:Inv X Ã σ H s):∀ b∈mj X.stack,H b=none:=λ b hb=>by
 rcases é.mp (I.ML b hb) with e | hb
 ·rw [e];exact I.free
 ·obtain⟨_,o,ho,_⟩:=I.ok.Mw.mem hb;exact I.base.free b o ho (I.ok.SH b hb) λ z=>I.ok.QU b z hb
theorem Inv.step {ch:List Addr}(I:Inv X Ã σ H s)
  (Qu:∀ b∈ch,(b∈X.ex\/X.ŝ.heap.objs.size<=b)/\b≠X.env.locals/\(∀ x c,X.env.cells.lookup x=some c->c≠b)/\∀ p∈X.pn ++ Ã,p.1≠b)
  (keep:∀ b o,b≠X.env.locals->b ∉ X.fs->b ∉ ch->s.heap.get? b=some o->H b=none->h'.get? b=some o)
  (slot:∀ b o,b≠X.env.locals->b∈X.fs->b ∉ ch->s.heap.get? b=some o->H b=none->∃ sl,h'.get? b=some { o with slots:=sl }) (free:∀ b o,b ∉ ch->s.heap.get? b=some o->H b=none->H' b=none)
  (there:∀ b o,b ∉ ch->s.heap.get? b=some o->∃ o',h'.get? b=some o')
  (Nf:∀ b xs,H b=some (.tup xs)->H' b=some (.tup xs)) (MU:∀ b o u,H b=some (.Ŭ o u)->H' b=some (.Ŭ o u)) (Ng:∀ b ps,H b=some (.R3 ps)->∃ more,H' b=some (.R3 (ps++more))) (sys:H sysModules=none->H' sysModules=none)
  (ns:∀ m,s.heap.Ns X.env.locals m->h'.Ns X.env.locals m) (Č:η X.prog X.w H' h') (hg:AllBare g') :
  Inv X Ã σ H' { s with heap:=h',gens:=g',drawn:=d',toks:=t' }:=by
 have Yq:∀ b o,X.ŝ.heap.get? b=some o->b≠X.env.locals:=λ b o e=>ê (ä (Ñ e) I.ok.above);have Vz:∀ b o,X.ŝ.heap.get? b=some o->b ∉ X.ex->b ∉ ch:=λ b o e hx hb=>by
  rcases(Qu b hb).1 with z | z
  ·exact hx z
  ·exact absurd (ä (Ñ e) z) (Ő _)
 have cellK:∀ x c,X.env.cells.lookup x=some c->∀ v,s.heap.IsCell c v->h'.IsCell c v:=λ x c e v ⟨o,ho,hd⟩=>by
  have P4:=λ z=>(Qu c z).2.2.1 x c e rfl;by_cases hc:c∈X.fs
  ·obtain⟨sl,q⟩:=slot c o (I.SL x c e) hc P4 ho (I.ψ x c e);exact⟨_,q,hd⟩
  ·exact⟨o,keep c o (I.SL x c e) hc P4 ho (I.ψ x c e),hd⟩
 refine⟨I.ok,I.os,hg,⟨λ b o e n hb hx=>?_,λ b o e n hb hx=>?_,λ b o e n hx=>?_,λ b o e hx=>?_,λ b xs e=>Nf b xs (I.base.Nf b xs e),λ b o xs e=>MU b o xs (I.base.MU b o xs e),λ b ps e=>?_,λ q=>sys (I.base.sys q)⟩,?_,λ x c e=>?_,?_,λ x c e=>?_,λ p hp=>?_,Č,I.len⟩
 ·exact keep b o (Yq b o e) hb (Vz b o e hx) (I.base.keep b o e n hb hx) (I.base.free b o e n hx)
 ·obtain⟨sl,e1⟩:=I.base.slot b o e n hb hx;obtain⟨Rb,e2⟩:=slot b _ (Yq b o e) hb (Vz b o e hx) e1 (I.base.free b o e n hx);exact⟨Rb,e2⟩
 ·obtain⟨o',e1⟩:=I.base.there b o e hx;exact free b o' (Vz b o e hx) e1 (I.base.free b o e n hx)
 ·obtain⟨o',e1⟩:=I.base.there b o e hx;exact there b o' (Vz b o e hx) e1
 ·obtain⟨m1,e1⟩:=I.base.Ng b ps e;obtain⟨m2,e2⟩:=Ng b _ e1;exact⟨m1++m2,by rw [e2,Array.append_assoc]⟩
 ·obtain⟨m,hn,hl⟩:=I.loc;refine⟨m,ns m hn,λ i x v e1 e2 e3=>?_⟩;obtain⟨u,r,l⟩:=hl i x v e1 e2 e3;refine⟨u,r,?_⟩;rcases l with l | ⟨k,c,e,z⟩
  ·exact .inl l
  ·exact .inr ⟨k,c,e,cellK x c e _ z⟩
 ·obtain⟨v,z⟩:=I.cell x c e;exact⟨v,cellK x c e v z⟩
 ·obtain⟨m,⟨o,_,_,ho,_⟩,_⟩:=I.loc;exact free _ o (λ z=>(Qu _ z).2.1 rfl) ho I.free
 ·obtain⟨v,o,ho,hd⟩:=I.cell x c e;exact free c o (λ z=>(Qu c z).2.2.1 x c e rfl) ho (I.ψ x c e)
 ·obtain⟨e,n,ne,nf,d⟩:=I.pin p hp;have P4:=λ z=>(Qu p.1 z).2.2.2 p hp rfl;exact⟨keep p.1 p.2 ne nf P4 e n,free p.1 p.2 P4 e n,ne,nf,d⟩
theorem Inv.un (I:Inv X Ã σ H s)(u:Un X.fs [] H H' s.heap h')(Č:η X.prog X.w H' h'):Inv X Ã σ H' { s with heap:=h',toks:=t' }:=by
 obtain⟨m,⟨o,es,ep,ho,r⟩,_⟩:=id I.loc;obtain⟨sl,hL⟩:=u.any ho I.free (by simp)
 exact I.step (ch:=[]) (λ _ z=>nomatch z) (λ b o _ hb _ e n=>u.keep b o e n hb (by simp)) (λ b o _ hb _ e n=>u.slot b o e n hb (by simp)) (λ b o _ e n=>u.free b o e n (by simp)) (λ b o _ e=>u.there b o e (by simp)) u.Nf u.MU u.Ng u.sys (λ m' hm=>by
  obtain⟨o',V0,V1,SB,r'⟩:=hm;rw [ho] at SB;cases SB;exact⟨_,V0,V1,hL,r'⟩) Č I.bare
theorem Inv.call (I:Inv X Ã σ H s)(u:Un (mj X.stack) ch H H' s.heap h')(Č:η X.prog X.w H' h')(hg:AllBare g')
  (Qu:∀ b∈ch,(b∈X.ex\/X.ŝ.heap.objs.size<=b)/\b≠X.env.locals/\(∀ x c,X.env.cells.lookup x=some c->c≠b)/\∀ p∈X.pn ++ Ã,p.1≠b) :
  Inv X Ã σ H' { s with heap:=h',gens:=g',drawn:=d',toks:=t' }:=by
 obtain⟨m,⟨o,es,ep,ho,r⟩,_⟩:=id I.loc;obtain⟨sl,hL⟩:=u.any ho I.free λ z=>(Qu _ z).2.1 rfl;exact I.step Qu (λ b o hL hb hc e n=>u.keep b o e n (λ z=>(é.mp (I.ML b z)).elim hL hb) hc) (λ b o _ _ hc e n=>u.any e n hc) (λ b o hc e n=>u.free b o e n hc) (λ b o hc e=>u.there b o e hc) u.Nf u.MU u.Ng u.sys (λ m' hm=>by
  obtain⟨o',V0,V1,SB,r'⟩:=hm;rw [ho] at SB;cases SB;exact⟨_,V0,V1,hL,r'⟩) Č hg
theorem Inv.turned (I:Inv X Ã σ H s)(k:∀ b o,b≠it->s.heap.get? b=some o->h'.get? b=some o)(hn:H it=none)(hL:it≠X.env.locals)
  (h1:it∈X.ex\/X.ŝ.heap.objs.size<=it) (h2:∀ x c,X.env.cells.lookup x=some c->c≠it) (h3:∀ p∈X.pn ++ Ã,p.1≠it):Inv X Ã σ H { s with heap:=h',toks:=t' }:=by
 have Yn:∀ b u,H b=some u->b≠it:=λ b u e z=>by rw [z,hn] at e;cases e
 refine I.step (g':=s.gens) (ch:=[it]) (λ b hb=>?_) (λ b o _ _ hc e _=>k b o (λ z=>hc (by simp [z])) e) (λ b o _ _ hc e _=>⟨o.slots,k b o (λ z=>hc (by simp [z])) e⟩) (λ _ _ _ _ n=>n)
  (λ b o hc e=>⟨o,k b o (λ z=>hc (by simp [z])) e⟩) (λ _ _ e=>e) (λ _ _ _ e=>e) (λ b ps e=>⟨#[],by rw [e];simp⟩) (λ q=>q) (λ m hm=>?_) (λ b u e=>?_) I.bare
 ·have e:b=it:=by simpa using hb
  subst e;exact⟨h1,hL,h2,h3⟩
 ·obtain⟨o,es,ep,ho,r⟩:=hm;exact⟨o,es,ep,k _ o (Ne.symm hL) ho,r⟩
 ·refine(I.Č b u e).Mt (λ c v hc q=>k c v ?_ q) (λ _ q=>q) λ _ _ q=>q;rcases hc with z | z
  ·rw [z];exact Yn b u e
  ·exact Yn c _ z
theorem Inv.tok (I:Inv X Ã σ H s)(t:Nat):Inv X Ã σ H { s with toks:=t }:=I.un Un.refl I.Č
theorem Inv.kept (I:Inv X Ã σ H s)(k:∀ b u,s.heap.get? b=some u->h'.get? b=some u):Inv X Ã σ H { s with heap:=h',toks:=t' }:=I.un (Un.kept k) (I.Č.kept k)
theorem Inv.laid (I:Inv X Ã σ H s)(k:∀ b u,s.heap.get? b=some u->h'.get? b=some u)(hp:s.heap.objs.size<=a)(new:ă X.prog X.w (aj H a o) h' a o) :
  Inv X Ã σ (aj H a o) { s with heap:=h',toks:=t' }:=I.un (Un.laid k hp (I.Č.fresh hp) (N3 (by decide:sysModules<mainGlobals) (I.mod.glob.keeps I.bk).lt)) (I.Č.laid k hp new)
theorem Inv.write (I:Inv X Ã σ H s)(mu:Eo (H x))(he:e=x\/H e=some (.own x))(k:∀ b u,b≠e->s.heap.get? b=some u->h'.get? b=some u)(S8:∃ u,h'.get? e=some u)
  (new:ă X.prog X.w (aj H x o) h' x o):Inv X Ã σ (aj H x o) { s with heap:=h',toks:=t' }:=I.un (Un.write mu he k S8) (I.Č.write mu he k S8 new)
theorem Inv.OR (I:Inv X Ã σ H s)(h:∀ p∈T_,s.heap.get? p.1=some p.2/\H p.1=none/\p.1≠X.env.locals/\p.1 ∉ X.fs/\∀ v,p.2.data ≠ .cell v):Inv X T_ σ H s :=
 ⟨I.ok,I.os,I.bare,I.base,I.loc,I.cell,I.free,I.ψ,λ p hp=>(ß.mp hp).elim (λ z=>I.pin p (ĭ _ z)) (h p),I.Č,I.len⟩
theorem om {N:List Str}(hN:N.Nodup){i j:Nat}(a:N[i]?=some x)(b:N[j]?=some x):i=j:=by
 obtain⟨h1,e1⟩:=È.mp a;obtain⟨h2,e2⟩:=È.mp b;exact(List.getElem_inj hN).mp (e1.trans e2.symm)
theorem lK (I:Inv X Ã σ H s)(hN:X.N.Nodup)(hi:X.N[i]?=some x)(hx:BX X.env.scope x)(r:RelV v u)
  (h:∀ s',Inv X Ã (σ.set i (some v)) H s'->(∃ a,Heap.SameBut a s.heap s'.heap/\(a=X.env.locals\/X.env.cells.lookup x=some a))->Q () s') (hf:X.fn x=true\/X.env.scope.names.lookup x=some .local:=by first | exact .inl rfl | exact .inr rfl | assumption):wpAny M A (storeName X.env x u) Q E s:=by
 obtain⟨m,hn,hl⟩:=id I.loc;have Xq:(X.env.scope.kind == .class||(X.env.scope.kind == .module&&X.env.locals != X.env.globals))=false:=by rw [I.ok.kind];rfl
 have UP:i < σ.length:=by rw [I.len];exact(È.mp hi).1
 have SL:=I.SL;have tracked:∀{a:Addr}{h':Heap},(∃ o,s.heap.get? a=some o/\H a=none)->Heap.SameBut a s.heap h'->η X.prog X.w H h':=λ {a h'} ha hs b ob e=>by
  obtain⟨_,_,Ry⟩:=ha;refine(I.Č b ob e).Mt (λ c w' hc q=>(hs.2 c ?_).trans q) (λ _ q=>q) λ _ _ q=>q;rintro rfl;rcases hc with rfl | hc
  ·rw [Ry] at e;cases e
  ·rw [Ry] at hc;cases hc
 rcases hx with hk | hk
 ·refine wpAny_storeName_local hk hn (λ h' S6 hs=>?_) Xq;obtain⟨oL,_,_,hoL,_⟩:=id hn;refine h _ ⟨I.ok,I.os,I.bare,⟨λ b o e n hb hx=>?_,λ b o e n hb hx=>?_,I.base.free,λ b o e hx=>?_,I.base.Nf,I.base.MU,I.base.Ng,I.base.sys⟩,⟨_,S6,λ j y v' e1 e2 e3=>?_⟩,λ y c e=>?_,I.free,I.ψ,λ p hp=>?_,tracked ⟨oL,hoL,I.free⟩ hs,by simpa using I.len⟩ ⟨_,hs,.inl rfl⟩
  ·exact(hs.2 b (ê (ä (Ñ e) I.ok.above))).trans (I.base.keep b o e n hb hx)
  ·obtain⟨sl,e1⟩:=I.base.slot b o e n hb hx;exact⟨sl,(hs.2 b (ê (ä (Ñ e) I.ok.above))).trans e1⟩
  ·obtain⟨o',e1⟩:=I.base.there b o e hx;exact⟨o',(hs.2 b (ê (ä (Ñ e) I.ok.above))).trans e1⟩
  ·by_cases hj:j=i
   ·subst hj;rw [hi] at e1;cases e1;rw [RQ UP] at e2;cases e2;exact⟨u,r,.inl ⟨hk,by simp⟩⟩
   ·rw [List.getElem?_set_ne (Ne.symm hj)] at e2;obtain⟨u',r',q⟩:=hl j y v' e1 e2 e3;refine⟨u',r',?_⟩;rcases q with⟨k,e⟩ | ⟨k,c,e,z⟩
    ·refine .inl ⟨k,?_⟩;have:y≠x:=λ e=>hj (om hN e1 (e ▸ hi));simp [this,e]
    ·exact .inr ⟨k,c,e,z.sameBut hs (SL y c e)⟩
  ·obtain⟨w',z⟩:=I.cell y c e;exact⟨w',z.sameBut hs (SL y c e)⟩
  ·obtain⟨e,n,ne,nf,d⟩:=I.pin p hp;exact⟨(hs.2 p.1 ne).trans e,n,ne,nf,d⟩
 ·have Xg:X.fn x=true:=by
   rcases hf with z | z
   ·exact z
   ·rw [z] at hk;cases hk
  obtain⟨c,hc⟩:=I.ok.has x (.inl hk);obtain⟨w',z⟩:=I.cell x c hc;refine wpAny_storeName_cell I.ok.kind hk hc z (λ h' OD hs=>?_);obtain⟨oc,YS,W8⟩:=id z;refine h { s with heap:=h' } ⟨I.ok,I.os,I.bare,⟨λ b o e n hb hx=>?_,λ b o e n hb hx=>?_,I.base.free,λ b o e hx=>?_,I.base.Nf,I.base.MU,I.base.Ng,I.base.sys⟩,⟨m,hn.sameBut hs (Ne.symm (SL x c hc)),λ j y v' e1 e2 e3=>?_⟩,λ y c' e=>?_,I.free,I.ψ,λ p hp=>?_,tracked ⟨oc,YS,I.ψ x c hc⟩ hs,by simpa using I.len⟩ ⟨c,hs,.inr hc⟩
  ·exact(hs.2 b (ê (ä (Ñ e) (I.ok.U6 x c Xg hc)))).trans (I.base.keep b o e n hb hx)
  ·obtain⟨sl,e1⟩:=I.base.slot b o e n hb hx;exact⟨sl,(hs.2 b (ê (ä (Ñ e) (I.ok.U6 x c Xg hc)))).trans e1⟩
  ·obtain⟨o',e1⟩:=I.base.there b o e hx;exact⟨o',(hs.2 b (ê (ä (Ñ e) (I.ok.U6 x c Xg hc)))).trans e1⟩
  ·by_cases hj:j=i
   ·subst hj;rw [hi] at e1;cases e1;rw [RQ UP] at e2;cases e2;exact⟨u,r,.inr ⟨.inl hk,c,hc,OD⟩⟩
   ·rw [List.getElem?_set_ne (Ne.symm hj)] at e2;obtain⟨u',r',q⟩:=hl j y v' e1 e2 e3;refine⟨u',r',?_⟩;rcases q with q | ⟨k,c',e,z'⟩
    ·exact .inl q
    ·refine .inr ⟨k,c',e,z'.sameBut hs ?_⟩;rintro rfl;exact hj (om hN e1 (I.ok.inj _ _ _ e hc ▸ hi))
  ·by_cases Y7:c'=c
   ·subst Y7;exact⟨_,OD⟩
   ·obtain⟨w2,z2⟩:=I.cell y c' e;exact⟨w2,z2.sameBut hs Y7⟩
  ·obtain⟨e,n,ne,nf,d⟩:=I.pin p hp;refine⟨(hs.2 p.1 ?_).trans e,n,ne,nf,d⟩;intro q;rw [q,YS] at e;have q':=â e;exact d w' (by rw [<- q'];exact W8)
theorem io (I:Inv X Ã σ H s)(hN:X.N.Nodup)(hi:X.N[i]?=some x)(hx:BX X.env.scope x)(r:RelV v u)
  (h:∀ s',Inv X Ã (σ.set i (some v)) H s'->Q () s') (hf:X.fn x=true\/X.env.scope.names.lookup x=some .local:=by first | exact .inl rfl | exact .inr rfl | assumption):wpAny M A (storeName X.env x u) Q E s :=
 lK I hN hi hx r (λ s' I' _=>h s' I') hf
theorem Inv.RB (I:Inv X Ã σ H s)(ho:s'.os=s.os)(u:Un (mj X.stack) ch H H' s.heap s'.heap)(Č:η X.prog X.w H' s'.heap)(hg:AllBare s'.gens)
  (Qu:∀ b∈ch,(b∈X.ex\/X.ŝ.heap.objs.size<=b)/\b≠X.env.locals/\(∀ x c,X.env.cells.lookup x=some c->c≠b)/\∀ p∈X.pn ++ Ã,p.1≠b):Inv X Ã σ H' s':=by
 obtain⟨h',g',d',t',o'⟩:=s';have e:=ho;subst e;exact I.call u Č hg Qu
end
abbrev XK:=Value->Option Addr->Hp->Prop
abbrev St:=List (Option V)
abbrev VK:=V->Hp->Prop
abbrev TE:=St->Hp->VK->Prop
abbrev TT:=St->Hp->(Bool->Hp->Prop)->Prop
abbrev TA:=St->Hp->(List V->Hp->Prop)->Prop
structure dq where
 nx:St->Hp->Prop
 rt:VK
 bk:St->Hp->Prop:=λ _ _=>False
 ct:St->Hp->Prop:=λ _ _=>False
abbrev TS:=dq->St->Hp->Prop
def EP (X:Cx)(Ã:List (Addr × Obj))(σ:St)(Q:VK)(u:Value)(s':Shared):Prop:=∃ v H',Inv X Ã σ H' s'/\RelV v u/\Q v H'
def TP (X:Cx)(Ã:List (Addr × Obj))(σ:St)(Q:Bool->Hp->Prop)(b:Bool)(s':Shared):Prop:=∃ H',Inv X Ã σ H' s'/\Q b H'
def AP (X:Cx)(Ã:List (Addr × Obj))(σ:St)(Q:List V->Hp->Prop)(us:List Value)(s':Shared):Prop:=∃ vs H',Inv X Ã σ H' s'/\Vals vs us/\Q vs H'
def SP (X:Cx)(Ã:List (Addr × Obj))(D:dq)(f:Flow)(s':Shared):Prop :=
 match f with
 | .next=>∃ ĸ H',Inv X Ã ĸ H' s'/\D.nx ĸ H'
 | .brk=>∃ ĸ H',Inv X Ã ĸ H' s'/\D.bk ĸ H'
 | .cont=>∃ ĸ H',Inv X Ã ĸ H' s'/\D.ct ĸ H'
 | .ret u=>∃ v ĸ H',Inv X Ã ĸ H' s'/\RelV v u/\D.rt v H'
def PE (X:Cx)(e:Expr)(t:TE):Prop :=
 ∀(Ã:List (Addr × Obj))(s:Shared)(σ:St)(H:Hp)(Q:VK),Inv X Ã σ H s->t σ H Q->wpAny (model X.prog X.w) X.A (eval e X.env) (EP X Ã σ Q) X.xe s
def PT (X:Cx)(e:Expr)(t:TT):Prop :=
 ∀(Ã:List (Addr × Obj))(s:Shared)(σ:St)(H:Hp)(Q:Bool->Hp->Prop),Inv X Ã σ H s->t σ H Q->wpAny (model X.prog X.w) X.A (isTrue e X.env (eval e X.env)) (TP X Ã σ Q) X.xe s
def PW (X:Cx)(e:Expr)(t:TT):Prop :=
 ∀(whole:Sem Value)(Ã:List (Addr × Obj))(s:Shared)(σ:St)(H:Hp)(Q:Bool->Hp->Prop),Inv X Ã σ H s->t σ H Q->wpAny (model X.prog X.w) X.A (isTrue e X.env whole) (TP X Ã σ Q) X.xe s
theorem PW.pt (h:PW X e t):PT X e t:=h _
def PA (X:Cx)(es:List Expr)(t:TA):Prop :=
 ∀(pos:Pos)(Ã:List (Addr × Obj))(s:Shared)(σ:St)(H:Hp)(Q:List V->Hp->Prop),Inv X Ã σ H s->t σ H Q->wpAny (model X.prog X.w) X.A (spliced (backTo pos (starEach es X.env))) (AP X Ã σ Q) X.xe s
def PS (X:Cx)(st:Stmt)(t:TS):Prop :=
 ∀(Ã:List (Addr × Obj))(s:Shared)(σ:St)(H:Hp)(D:dq),Inv X Ã σ H s->t D σ H->wpAny (model X.prog X.w) X.A (exec st X.env) (SP X Ã D) X.xe s
def ſ (X:Cx)(st:List Stmt)(t:TS):Prop :=
 ∀(Ã:List (Addr × Obj))(s:Shared)(σ:St)(H:Hp)(D:dq),Inv X Ã σ H s->t D σ H->wpAny (model X.prog X.w) X.A (execs st X.env) (SP X Ã D) X.xe s
theorem bt {t:Sem α}(h:wpAny M A t Q E s)(hQ:∀ a s,Q a s->Q' a s):wpAny M A t Q' E s:=Ń h hQ λ _ _ x=>x
section
variable {X:Cx}
def ae (i:Nat):TE:=λ σ H Q=>∃ v,σ[i]?=some (some v)/\Q v H
def tC (v:V):TE:=λ _ H Q=>Q v H
theorem AT (hN:X.N[i]?=some x)(hv:EM X.env.scope x)(hd:(x==("__debug__" : Str))=false:=by decide) (Pi:(x==("__classdict__" : Str))=false:=by decide):PE X (.Name x pos) (ae i):=by
 intro Ã s σ H Q I h;obtain⟨v,e,h⟩:=h;obtain⟨m,hn,hl⟩:=I.loc;obtain⟨u,r,l⟩:=hl i x v hN e hv;have fin:EP X Ã σ Q u s:=⟨v,H,I,r,h⟩;rcases l with⟨hk,hm⟩ | ⟨hk,c,hc,MS⟩
 ·exact wpAny_Name (wpAny_loadName_local I.ok.kind hk hn hm fin) hd
 ·rcases hk with hk | hk
  ·exact wpAny_Name (wpAny_loadName_cell I.ok.kind hk hc MS fin) hd
  ·exact wpAny_Name (wpAny_loadName_free I.ok.kind hk hc MS fin Pi) hd
theorem ay {i j pos}:PE X (.Constant (.int i) j pos) (tC (.int i)):=λ _ _ _ H _ I h=>wpAny_Constant_int ⟨.int i,H,I.tok _,⟨_,rfl⟩,h⟩
theorem pX {b j pos}:PE X (.Constant (.bool b) j pos) (tC (.bl b)):=λ _ _ _ H _ I h=>Constant_bool ⟨.bl b,H,I,rfl,h⟩
theorem gv {j pos}:PE X (.Constant .none j pos) (tC .Ă):=λ _ _ _ H _ I h=>Constant_none ⟨.Ă,H,I,rfl,h⟩
theorem fD {x j pos}:PE X (.Constant (.str x) j pos) (tC (.str x)):=λ _ _ _ H _ I h=>Calls.Constant_str ⟨.str x,H,I.tok _,⟨_,rfl⟩,h⟩
def Gl (X:Cx)(x:Str):Prop:=X.env.kindOf x=some .globalImplicit
theorem gE (I:Inv X Ã σ H s)(hg:Gl X x)(hm:X.mg x=some u)(h:Q u s)
  (hd:(x==("__debug__" : Str))=false:=by decide):wpAny (model X.prog X.w) X.A (eval (.Name x pos) X.env) Q E s :=
 Calls.Name_function_global I.ok.kind hg (Calls.loadGlobal_global (by rw [I.ok.glob];exact I.mod.glob.keeps I.bk) hm h) hd
theorem iZ (I:Inv X Ã σ H s)(hg:Gl X x)(hm:X.mg x=none)(hv:bootBuiltins x=some u)(h:Q u s)
  (hn:x ≠ "__name__" := by decide) (hd:(x==("__debug__" : Str))=false:=by decide):wpAny (model X.prog X.w) X.A (eval (.Name x pos) X.env) Q E s:=by
 obtain⟨mb,h1,h2⟩:=I.mod.blt;exact Calls.Name_function_global I.ok.kind hg (Calls.loadGlobal_builtin (by rw [I.ok.glob];exact I.mod.glob.keeps I.bk) hm (by rw [I.ok.blt];exact h1.keeps I.bk) ((h2 x hn).trans hv) h) hd
theorem bI (hg:Gl X x)(hm:X.mg x=some u)(r:RelV v u)(hd:(x==("__debug__" : Str))=false:=by decide):PE X (.Name x pos) (tC v) :=
 λ _ _ _ H _ I h=>gE I hg hm ⟨v,H,I,r,h⟩ hd
theorem yr (hg:Gl X x)(hm:X.mg x=none)(hv:bootBuiltins x=some u)(r:RelV v u)(hn:x ≠ "__name__" := by decide) (hd:(x==("__debug__" : Str))=false:=by decide):PE X (.Name x pos) (tC v) :=
 λ _ _ _ H _ I h=>iZ I hg hm hv ⟨v,H,I,r,h⟩ hn hd
def L6 (ta tb:TE)(k:Int->Int->Hp->Prop):St->Hp->Prop:=λ σ H=>ta σ H λ x H1=>tb σ H1 λ y H2=>∃ i j,x=.int i/\y=.int j/\k i j H2
def c8 (ta tb:TE):TE:=λ σ H Q=>L6 ta tb (λ i j H2=>Q (.int (i+j)) H2) σ H
variable {a b:Expr}{ta tb:TE}{pos:Pos}
def PC (X:Cx)(op:CmpOp)(a b:Expr)(t:TE):Prop :=
 ∀(Ã:List (Addr × Obj))(s:Shared)(σ:St)(H:Hp)(Q:VK),Inv X Ã σ H s->t σ H Q ->
  wpAny (model X.prog X.w) X.A (eval a X.env) (λ v ġ=>wpAny (model X.prog X.w) X.A (eval b X.env) (λ u ς=>wpAny (model X.prog X.w) X.A (compareOp op v u) (EP X Ã σ Q) X.xe ς) X.xe ġ) X.xe s
theorem ua (b:Expr)(h:op ≠ .In)(h2:op ≠ .NotIn):behindInMarks op b=false:=by
 have e1:(op==CmpOp.In)=false:=by cases op <;> first | rfl | exact absurd rfl h
 have e2:(op==CmpOp.NotIn)=false:=by cases op <;> first | rfl | exact absurd rfl h2
 cases b <;> simp [behindInMarks,e1,e2]
def FK (ta:TE):TE:=λ σ H Q=>ta σ H λ x H1=>Q (.bl (decide (x=.Ă))) H1
def wf (ta:TE):TE:=λ σ H Q=>ta σ H λ x H1=>Q (.bl (!decide (x=.Ă))) H1
theorem RelV.N_ (r:RelV x v):(v==Value.none)=decide (x=.Ă):=by
 cases x with
 | Ă=>cases r;rfl
 | bl _=>cases r;rfl
 | int _=>obtain⟨t,rfl⟩:=r;rfl
 | str _=>obtain⟨t,rfl⟩:=r;rfl
 | Pl _=>obtain⟨t,rfl⟩:=r;rfl
 | Qh _=>obtain⟨t,rfl⟩:=r;rfl
 | ref _=>cases r;rfl
 | ty _=>cases r;rfl
theorem BI {j pos'}(ha:PE X a ta):PC X .Is a (.Constant .none j pos') (FK ta):=by
 intro Ã s σ H Q I h;refine bt (ha Ã s σ H _ I h) λ v s1 ⟨x,H1,I1,r1,q1⟩=>?_;exact Constant_none (is_none_gen ⟨.bl _,H1,I1,by rw [r1.N_];rfl,q1⟩)
theorem qM {j pos'}(ha:PE X a ta):PC X .IsNot a (.Constant .none j pos') (wf ta):=by
 intro Ã s σ H Q I h;refine bt (ha Ã s σ H _ I h) λ v s1 ⟨x,H1,I1,r1,q1⟩=>?_;exact Constant_none (isnot_none_gen ⟨.bl _,H1,I1,by rw [r1.N_];rfl,q1⟩)
def tB (t:TE):TT:=λ σ H Q=>t σ H λ x H1=>∃ c,x=.bl c/\Q c H1
theorem jN (h:PC X op a b t)(h1:behindInMarks op b=false:=by first | exact ua _ ax ax | rfl):PT X (.Compare a [op] [b] pos) (tB t):=by
 intro Ã s σ H Q I hw;refine wpAny_isTrue_Compare1 (bt (h Ã s σ H _ I hw) λ v s1 h1=>bt h1 λ u s2 h2=>bt h2 λ c s3 ⟨x,H1,I1,r1,q1⟩=>?_) h1;obtain⟨d,rfl,q⟩:=q1;cases r1;exact Ň ⟨H1,I1,q⟩
theorem bz (h:PE X e t)(he:∀ whole,isTrue e X.env whole=(do let v <- whole;standAt e.pos;holding [v] (truthy v)):=by intro _;rfl):PT X e (tB t):=by
 intro Ã s σ H Q I hw;refine isTrue_plain (bt (h Ã s σ H _ I hw) λ v s1 ⟨x,H1,I1,r1,q1⟩=>?_) (he _);obtain⟨d,rfl,q⟩:=q1;cases r1;exact Ň ⟨H1,I1,q⟩
variable {tA Vp:TT}{rest:List Expr}
def tP (t u:TT):TT:=λ σ H Q=>t σ H λ c H1=>if c=true then u σ H1 Q else Q false H1
def zL (t u:TT):TT:=λ σ H Q=>t σ H λ c H1=>if c=true then Q true H1 else u σ H1 Q
def j9 (t:TT):TT:=λ σ H Q=>t σ H λ c H1=>Q (!c) H1
theorem mU (ha:PT X a tA):PW X (.BoolOp .And [a] pos) tA:=by
 intro wh Ã s σ H Q I h;refine isTrue_and (bt (ha Ã s σ H Q I h) λ c s1 e=>?_);cases c with
 | true=>exact isTrue_and_nil e
 | false=>exact e
theorem eQ (ha:PT X a tA):PW X (.BoolOp .Or [a] pos) tA:=by
 intro wh Ã s σ H Q I h;refine isTrue_or (bt (ha Ã s σ H Q I h) λ c s1 e=>?_);cases c with
 | false=>exact isTrue_or_nil e
 | true=>exact e
theorem qv (ha:PT X a tA)(hb:PW X (.BoolOp .And (b::rest) pos) Vp):PW X (.BoolOp .And (a::b::rest) pos) (tP tA Vp):=by
 intro wh Ã s σ H Q I h;refine isTrue_and (bt (ha Ã s σ H _ I h) λ c s1 ⟨H1,I1,q1⟩=>?_);cases c with
 | true=>exact hb wh Ã s1 σ H1 Q I1 q1
 | false=>exact⟨H1,I1,q1⟩
theorem fY (ha:PT X a tA)(hb:PW X (.BoolOp .Or (b::rest) pos) Vp):PW X (.BoolOp .Or (a::b::rest) pos) (zL tA Vp):=by
 intro wh Ã s σ H Q I h;refine isTrue_or (bt (ha Ã s σ H _ I h) λ c s1 ⟨H1,I1,q1⟩=>?_);cases c with
 | true=>exact⟨H1,I1,q1⟩
 | false=>exact hb wh Ã s1 σ H1 Q I1 q1
theorem cw (ha:PT X a tA):PT X (.UnaryOp .Not a pos) (j9 tA):=by
 intro Ã s σ H Q I h;exact isTrue_not (ha Ã s σ H (λ c H1=>Q (!c) H1) I h)
def qL (ta tb:TE):TE:=λ σ H Q=>ta σ H λ x H1=>∃ c,x=.bl c/\if c=true then tb σ H1 Q else Q (.bl false) H1
def HI (ta:TE):TE:=λ σ H Q=>ta σ H λ x H1=>∃ c,x=.bl c/\Q (.bl (!c)) H1
theorem gU {op}(h:PE X a t):PE X (.BoolOp op [a] pos) t:=λ Ã s σ H Q I hw=>BoolOp_one (h Ã s σ H Q I hw)
theorem fG (ha:PE X a ta)(hb:PE X (.BoolOp .And (b::rest) pos) tb):PE X (.BoolOp .And (a::b::rest) pos) (qL ta tb):=by
 intro Ã s σ H Q I h;refine BoolOp_and (bt (ha Ã s σ H _ I h) λ v s1 ⟨x,H1,I1,r1,q1⟩=>?_);obtain⟨c,rfl,q1⟩:=q1;cases r1;refine Ň ?_;cases c with
 | true=>exact hb Ã s1 σ H1 Q I1 q1
 | false=>exact⟨.bl false,H1,I1,rfl,q1⟩
theorem CH (ha:PE X a ta):PE X (.UnaryOp .Not a pos) (HI ta):=by
 intro Ã s σ H Q I h;refine UnaryOp_ (bt (ha Ã s σ H _ I h) λ v s1 ⟨x,H1,I1,r1,q1⟩=>?_);obtain⟨c,rfl,q1⟩:=q1;cases r1;exact not_of (Ň ⟨.bl (!c),H1,I1,rfl,q1⟩)
def Gc (t:TT)(ta tb:TE):TE:=λ σ H Q=>t σ H λ c H1=>if c=true then ta σ H1 Q else tb σ H1 Q
theorem ig (hc:PT X c tA)(ha:PE X a ta)(hb:PE X b tb):PE X (.IfExp c a b pos) (Gc tA ta tb):=by
 intro Ã s σ H Q I h;refine wpAny_IfExp (bt (hc Ã s σ H _ I h) λ d s1 ⟨H1,I1,q1⟩=>?_);cases d with
 | true=>exact ha Ã s1 σ H1 Q I1 q1
 | false=>exact hb Ã s1 σ H1 Q I1 q1
end
def Ċ (K:PySem.W.Frag)(H:Hp)(a:Addr)(xs:List V):Prop :=
 Rd H a (.lst xs) \/
  ∃(o:Obj)(its:Array Value)(n:Nat),K.lookup a=some o/\o.cls=.type "list" /\ o.dict=none/\o.data=.seq its n/\its.size<=sizeLine/\Vals xs its.toList
def Ė (K:PySem.W.Frag)(H:Hp)(a:Addr)(xs:List V):Prop :=
 Rd H a (.tup xs) \/
  ∃(o:Obj)(its:Array Value)(n:Nat),K.lookup a=some o/\o.cls=.type "tuple" /\ o.data=.seq its n/\its.size<=sizeLine/\Vals xs its.toList
def J1:Value->Option V
 | .none=>some .Ă
 | .bool b=>some (.bl b)
 | .int i _=>some (.int i)
 | .str x _=>some (.str x)
 | .bytes b _=>some (.Pl b)
 | .float b _=>some (.Qh b)
 | .ref a=>some (.ref a)
 | .type n=>some (.ty n)
 | _=>none
theorem RelV.abs (r:RelV x u):J1 u=some x:=by
 cases x with
 | Ă=>cases r;rfl
 | bl _=>cases r;rfl
 | int _=>obtain⟨t,rfl⟩:=r;rfl
 | str _=>obtain⟨t,rfl⟩:=r;rfl
 | Pl _=>obtain⟨t,rfl⟩:=r;rfl
 | Qh _=>obtain⟨t,rfl⟩:=r;rfl
 | ref _=>cases r;rfl
 | ty _=>cases r;rfl
theorem RelV.inj (r:RelV x u)(q:RelV y u):x=y:=â (r.abs.symm.trans q.abs)
theorem Vals.inj:∀{xs ys:List V}{us:List Value},Vals xs us->Vals ys us->xs=ys
 | _,_,_,.nil,.nil=>rfl
 | _,_,_,.cons r t,.cons r' t'=>by rw [r.inj r',Vals.inj t t']
section
variable {X:Cx}{Ã:List (Addr × Obj)}{σ:St}{H:Hp}{s:Shared}{a:Addr}{xs ys:List V}
theorem Ċ.of {K:PySem.W.Frag}(h:H a=some (.lst xs)):Ċ K H a xs:=.inl (.inl h)
theorem Ė.of {K:PySem.W.Frag}(h:H a=some (.tup xs)):Ė K H a xs:=.inl (.inl h)
theorem Inv.list (I:Inv X Ã σ H s)(h:Ċ X.K H a xs):∃ its:List Value,Vals xs its/\PlainL s.heap a its.toArray/\xs.length<=sizeLine:=by
 rcases h with h | ⟨o,its,n,hk,hc,hd,hs,hz,r⟩
 ·obtain⟨z,its,n,r,e⟩:=h.ok I.Č;exact⟨its,r,⟨_,n,e,rfl,rfl,rfl⟩,z⟩
 ·refine⟨its.toList,r,⟨o,n,I.Š a o hk,hc,hd,by simpa using hs⟩,?_⟩
  have e:=r.length;simp only [Array.length_toList] at e;omega
theorem Inv.tuple (I:Inv X Ã σ H s)(h:Ė X.K H a xs):∃ its:List Value,Vals xs its/\IsTup s.heap a its.toArray/\xs.length<=sizeLine:=by
 rcases h with h | ⟨o,its,n,hk,hc,hs,hz,r⟩
 ·obtain⟨z,its,r,p⟩:=h.ok I.Č;exact⟨its,r,p,z⟩
 ·refine⟨its.toList,r,⟨o,I.Š a o hk,hc,n,by simpa using hs⟩,?_⟩
  have e:=r.length;simp only [Array.length_toList] at e;omega
theorem Inv.MN (I:Inv X Ã σ H s)(h:Ċ X.K H a xs)(h':Ċ X.K H a ys):xs=ys:=by
 obtain⟨its,r,⟨o,n,e,_,_,d⟩,_⟩:=I.list h;obtain⟨Mu,r',⟨o',n',e',_,_,d'⟩,_⟩:=I.list h';rw [e] at e';cases e';rw [d] at d';injection d' with d1 _
 have:its=Mu:=by simpa using congrArg Array.toList d1
 subst this;exact r.inj r'
theorem Inv.Nw (I:Inv X Ã σ H s)(h:Ė X.K H a xs)(h':Ė X.K H a ys):xs=ys:=by
 obtain⟨its,r,⟨o,e,_,n,d⟩,_⟩:=I.tuple h;obtain⟨Mu,r',⟨o',e',_,n',d'⟩,_⟩:=I.tuple h';rw [e] at e';cases e';rw [d] at d';injection d' with d1 _
 have:its=Mu:=by simpa using congrArg Array.toList d1
 subst this;exact r.inj r'
end
abbrev Cx.Nd (X:Cx)(E:eE):Cx:={ X with xe:=E }
abbrev Cx.Φ (X:Cx):Cx:=X.Nd λ _ _=>False
theorem Cx.Ok.Nd {X:Cx}(ok:X.Ok)(E:eE):(X.Nd E).Ok :=
 ⟨ok.mod,ok.kind,ok.glob,ok.blt,ok.above,ok.inj,ok.has,ok.U6,ok.hd,ok.frames,ok.Vq,ok.Zk,ok.bs,ok.QW,ok.P2,ok.QU,ok.Mw,ok.SH⟩
theorem Cx.Ok.π {X:Cx}(ok:(X.Nd E).Ok):X.Ok :=
 ⟨ok.mod,ok.kind,ok.glob,ok.blt,ok.above,ok.inj,ok.has,ok.U6,ok.hd,ok.frames,ok.Vq,ok.Zk,ok.bs,ok.QW,ok.P2,ok.QU,ok.Mw,ok.SH⟩
section
variable {X:Cx}{Ã:List (Addr × Obj)}{σ:St}{H:Hp}{s:Shared}{E:eE}
theorem Inv.Nd (I:Inv X Ã σ H s)(E:eE):Inv (X.Nd E) Ã σ H s:=⟨I.ok.Nd E,I.os,I.bare,I.base,I.loc,I.cell,I.free,I.ψ,I.pin,I.Č,I.len⟩
theorem Inv.π (I:Inv (X.Nd E) Ã σ H s):Inv X Ã σ H s:=⟨I.ok.π,I.os,I.bare,I.base,I.loc,I.cell,I.free,I.ψ,I.pin,I.Č,I.len⟩
theorem SP.π {f:Flow}(h:SP (X.Nd E) Ã D f s'):SP X Ã D f s':=by
 cases f with
 | next=>obtain⟨ĸ,H',I,q⟩:=h;exact⟨ĸ,H',I.π,q⟩
 | brk=>obtain⟨ĸ,H',I,q⟩:=h;exact⟨ĸ,H',I.π,q⟩
 | cont=>obtain⟨ĸ,H',I,q⟩:=h;exact⟨ĸ,H',I.π,q⟩
 | ret u=>obtain⟨v,ĸ,H',I,r,q⟩:=h;exact⟨v,ĸ,H',I.π,r,q⟩
theorem ſ.Φ {st:List Stmt}(h:ſ X.Φ st t):ſ X st t:=λ Ã s σ H D I hw =>
 Ń (h Ã s σ H D (I.Nd _) hw) (λ _ _ q=>q.π) λ _ _ z=>False.elim z
end
section
variable {X:Cx}{st:Stmt}{rest:List Stmt}{t u:TS}{e:Expr}{te:TE}{pos:Pos}
def aQ:TS:=λ D σ H=>D.nx σ H
def aA (t u:TS):TS:=λ D σ H=>t { D with nx:=u D } σ H
theorem cT:ſ X [] aQ:=λ _ _ σ H _ I h=>Nr ⟨σ,H,I,h⟩
theorem bb (h1:PS X st t)(h2:ſ X rest u):ſ X (st::rest) (aA t u):=by
 intro Ã s σ H D I h;refine wpAny_execs_cons (bt (h1 Ã s σ H { D with nx:=u D } I h) λ f s1 q=>?_)
 cases f with
 | next =>
  obtain⟨ĸ,H',I',q⟩:=q;exact h2 Ã s1 ĸ H' D I' q
 | ret v=>exact q
 | brk=>exact q
 | cont=>exact q
theorem aW (h1:PS X st t):ſ X [st] t:=by
 intro Ã s σ H D I h;refine wpAny_execs_cons (bt (h1 Ã s σ H D I h) λ f s1 q=>?_);cases f with
 | next=>exact Nr q
 | ret v=>exact q
 | brk=>exact q
 | cont=>exact q
theorem Inv.quiet (I:Inv X Ã σ H s):interactive X.env=false:=by simp [interactive,I.ok.kind]
def dW (te:TE):TS:=λ D σ H=>te σ H λ _ H1=>D.nx σ H1
theorem aR (he:PE X e te)(hs:swapsWith e none pos.line X.env=pure false:=by rfl):PS X (.Expr e pos) (dW te):=by
 intro Ã s σ H D I h;exact wpAny_Expr_any (bt (he Ã s σ H _ I h) λ v s1 ⟨x,H1,I1,r1,q1⟩=>⟨σ,H1,I1,q1⟩) I.quiet hs
def aY (te:TE):TS:=λ D σ H=>te σ H D.rt
theorem cn (he:PE X e te):PS X (.Return (some e) pos) (aY te):=by
 intro Ã s σ H D I h;exact wpAny_Return_some (bt (he Ã s σ H _ I h) λ v s1 ⟨x,H1,I1,r1,q1⟩=>⟨x,σ,H1,I1,r1,q1⟩)
def bq (c:TT)(t u:TS):TS:=λ D σ H=>c σ H λ b H1=>if b=true then t D σ H1 else u D σ H1
theorem aJ (hc:PT X c tc)(ha:ſ X a t)(hb:ſ X b u):PS X (.If c a b pos) (bq tc t u):=by
 intro Ã s σ H D I h;refine wpAny_If (bt (hc Ã s σ H _ I h) λ d s1 ⟨H1,I1,q1⟩=>?_);cases d with
 | true=>exact ha Ã s1 σ H1 D I1 q1
 | false=>exact hb Ã s1 σ H1 D I1 q1
def Bc:TS:=λ _ _ _=>False
theorem bH:PS X st Bc:=λ _ _ _ _ _ _ h=>h.elim
end
abbrev TG:=V->St->Hp->(St->Hp->Prop)->Prop
abbrev Ez:=List V->St->Hp->(St->Hp->Prop)->Prop
def PG (X:Cx)(target:Expr)(t:TG):Prop :=
 ∀(Ã:List (Addr × Obj))(s:Shared)(σ:St)(H:Hp)(v:V)(u:Value)(Q:St->Hp->Prop),Inv X Ã σ H s->RelV v u->t v σ H Q ->
  wpAny (model X.prog X.w) X.A (assign target X.env u) (λ _ s'=>∃ ĸ H',Inv X Ã ĸ H' s'/\Q ĸ H') X.xe s
def Io (X:Cx)(ts:List Expr)(t:Ez):Prop :=
 ∀(Ã:List (Addr × Obj))(s:Shared)(σ:St)(H:Hp)(vs:List V)(us:List Value)(Q:St->Hp->Prop),Inv X Ã σ H s->Vals vs us->t vs σ H Q ->
  wpAny (model X.prog X.w) X.A (assignInOrder ((assignEach ts X.env).map (·.2)) us) (λ _ s'=>∃ ĸ H',Inv X Ã ĸ H' s'/\Q ĸ H') X.xe s
abbrev HH:=V->V->V->Hp->(Hp->Prop)->Prop
def FJ (X:Cx)(t:HH):Prop :=
 ∀(Ã:List (Addr × Obj))(s:Shared)(σ:St)(H:Hp)(o i v:V)(ov iv u:Value)(Q:Hp->Prop),Inv X Ã σ H s->RelV o ov->RelV i iv->RelV v u->t o i v H Q ->
  wpAny (model X.prog X.w) X.A (setItem ov iv u) (λ _ s'=>∃ H',Inv X Ã σ H' s'/\Q H') X.xe s
section
variable {X:Cx}{pos:Pos}
def aN (i:Nat):TG:=λ v σ H Q=>Q (σ.set i (some v)) H
theorem cu (hN:X.N.Nodup)(hi:X.N[i]?=some x)(hx:BX X.env.scope x)(hf:X.fn x=true\/X.env.scope.names.lookup x=some .local:=by first | exact .inl rfl | exact .inr rfl | assumption):PG X (.Name x pos) (aN i):=by
 intro Ã s σ H v u Q I r h;exact wpAny_assign_Name (io I hN hi hx r (λ s' I'=>⟨_,H,I',h⟩) hf)
def dP:Ez:=λ vs σ H Q=>vs=[]/\Q σ H
def aL (t:TG)(u:Ez):Ez:=λ vs σ H Q=>∃ v r,vs=v::r/\t v σ H λ ĸ H'=>u r ĸ H' Q
theorem br:Io X [] dP:=by
 intro Ã s σ H vs us Q I r h;obtain⟨e,h⟩:=h;subst e;cases r;exact assignInOrder_nil ⟨σ,H,I,h⟩
theorem dB (h1:PG X e t)(h2:Io X es u)
  (hs:(assignEach (e::es) X.env).map (·.2)=assign e X.env::(assignEach es X.env).map (·.2):=by rfl):Io X (e::es) (aL t u):=by
 intro Ã s σ H vs us Q I r h;obtain⟨v,vr,e1,h⟩:=h;subst e1;cases r with
 | cons r rr =>
  rw [hs];refine assignInOrder_cons (bt (h1 Ã s σ H _ _ _ I r h) λ _ s1 ⟨SV,H1,I1,q1⟩=>?_);exact h2 Ã s1 SV H1 _ _ Q I1 rr q1
def dL (K:PySem.W.Frag)(n:Nat)(t:Ez):TG:=λ v σ H Q=>∃ a xs,v=.ref a/\Ė K H a xs/\xs.length=n/\t xs σ H Q
theorem bN (hc:X.calm=true)(h:Io X es t)
  (hn:(assignEach es X.env).length=n:=by rfl) (Ny:(assignEach es X.env).findIdx? (·.1)=none:=by rfl):PG X (.Tuple es k pos) (dL X.K n t):=by
 intro Ã s σ H v u Q I r hw;obtain⟨a,xs,e1,hq,hl,hw⟩:=hw;subst e1;cases r;obtain⟨its,rv,ht,hz⟩:=I.tuple hq;refine assign_Tuple_tuple (I.ok.hd hc) ht (by simp [hn,<- hl,rv.length]) Ny λ h' hx=>?_
 have I1:Inv X Ã σ H { s with heap:=h' }:=I.kept λ b o e=>hx b o (ê (Ñ e)) e
 exact h Ã _ σ H xs _ Q I1 (by simpa using rv) hw
def IG (to ti:TE)(t:HH):TG:=λ v σ H Q=>to σ H λ o H1=>ti σ H1 λ i H2=>t o i v H2 λ H3=>Q σ H3
theorem pU (ho:PE X o to)(hi:PE X i ti)(hs:FJ X t)
  (ha:∀ v,assign (.Subscript o i pos) X.env v=(do
   let ov <- holding [v] (eval o X.env)
   let iv <- holding [v,ov] (eval i X.env)
   standAt pos
   holding [v,ov,iv] (setItem ov iv v)
   release [v,ov,iv] []):=by intro _;rfl):PG X (.Subscript o i pos) (IG to ti t):=by
 intro Ã s σ H v u Q I r h;rw [ha];refine À (ĕ (bt (ho Ã s σ H _ I h) λ ov s1 ⟨x,H1,I1,r1,q1⟩=>?_));refine À (ĕ (bt (hi Ã s1 σ H1 _ I1 q1) λ iv s2 ⟨y,H2,I2,r2,q2⟩=>?_));refine À (Ģ (À (ĕ (bt (hs Ã s2 σ H2 x y v ov iv u _ I2 r1 r2 r q2) λ _ s3 ⟨H3,I3,q3⟩=>?_))));exact wpAny_release ⟨σ,H3,I3,q3⟩
def bY (te:TE)(g:TG):TS:=λ D σ H=>te σ H λ x H1=>g x σ H1 D.nx
theorem gg (he:PE X e te)(hg:PG X tg g)(hs:swapsWithSole [tg] e pos.line X.env=pure false:=by rfl)(hw:swappedStores [tg] e X.env=pure none:=by rfl)
  (h1:(assignEach [tg] X.env).map (·.2)=[assign tg X.env]:=by rfl):PS X (.Assign [tg] e pos) (bY te g):=by
 intro Ã s σ H D I h;refine wpAny_Assign_stores (bt (he Ã s σ H _ I h) λ v s1 ⟨x,H1,I1,r1,q1⟩=>?_) hs hw;rw [h1];exact bt (hg Ã s1 σ H1 x v _ I1 r1 q1) λ _ s2 q=>q
theorem dk (hN:X.N.Nodup)(hi:X.N[i]?=some x)(hx:BX X.env.scope x)(he:PE X e te)(hs:swapsWith e (some (.Name x pos')) pos.line X.env=pure false:=by rfl)(hf:X.fn x=true\/X.env.scope.names.lookup x=some .local:=by first | exact .inl rfl | exact .inr rfl | assumption) :
  PS X (.Assign [.Name x pos'] e pos) (bY te (aN i)):=by
 intro Ã s σ H D I h;refine wpAny_Assign_Name (bt (he Ã s σ H _ I h) λ v s1 ⟨y,H1,I1,r1,q1⟩=>?_) hs;exact io I1 hN hi hx r1 (λ s2 I2=>⟨_,H1,I2,q1⟩) hf
def IX (i j:Nat)(ta:TA):TS:=λ D σ H=>ta σ H λ vs H1=>∃ v w,vs=[v,w]/\D.nx ((σ.set i (some v)).set j (some w)) H1
theorem ux {kt k2 T9}(hc:X.calm=true)(hN:X.N.Nodup)(hi:X.N[i]?=some x)(hj:X.N[j]?=some y)(hij:i≠j)
  (hx:X.env.scope.names.lookup x=some .local) (hy:X.env.scope.names.lookup y=some .local) (ha:PA X [a,b] ta)
  (hw:swappedStores [.Tuple [.Name x px,.Name y py] kt pt] (.Tuple [a,b] k2 T9) X.env=pure (some [x,y]))
  (hs:swapsWithSole [.Tuple [.Name x px,.Name y py] kt pt] (.Tuple [a,b] k2 T9) pos.line X.env=pure false:=by rfl) :
  PS X (.Assign [.Tuple [.Name x px,.Name y py] kt pt] (.Tuple [a,b] k2 T9) pos) (IX i j ta):=by
 intro Ã s σ H D I h;rw [exec_Assign_arm];refine À (Ģ ?_);rw [hs];refine À (Á ?_);rw [Ë ax];refine À (Tuple_ (bt (ha _ Ã s σ H _ I h) λ us s1 ⟨vs,H1,I1,r1,q1⟩=>?_));obtain⟨v,w,e1,q1⟩:=q1;subst e1;obtain⟨u1,u2,rfl,rv,Pb⟩:∃ u1 u2,us=[u1,u2]/\RelV v u1/\RelV w u2:=by
  cases r1 with
  | cons p q =>
   cases q with
   | cons p' q' =>
    cases q';exact⟨_,_,rfl,p,p'⟩
 refine ã ?_ cK;have I2:Inv X Ã σ H1 { s1 with heap:=s1.heap.push { cls:=.type "tuple",data:=.seq [u1,u2].toArray } }:=I1.kept λ b o e=>Â _ e
 rw [hw];refine À (Á ?_);refine À (m_ (À (unpackItems_tuple (items:=#[u1,u2]) (I.ok.hd hc) (IsTup.new s1.heap _) λ h' Oq=>?_)));have I3:=I2.kept (t':=s1.toks) λ b o e=>Oq b o (ê (Ñ e)) e;refine À (assignInOrder_cons (wpAny_bindName (io I3 hN hj (.inl hy) Pb (λ s2 I4=>?_) (.inr hy))));refine assignInOrder_cons (wpAny_bindName (io I4 hN hi (.inl hx) rv (λ s3 I5=>assignInOrder_nil (Á ?_)) (.inr hx)));rw [List.set_comm _ _ (Ne.symm hij)] at I5;exact⟨_,H1,I5,q1⟩
end
section
variable {X:Cx}{pos:Pos}
def wU (c:TT)(tb:TS):TS:=λ D σ H=>∃ W:Nat->St->Hp->Prop,(∃ m,W m σ H)/\∀ m σ H,W m σ H ->
 c σ H λ b H1=>if b=true then ∃ N:St->Hp->Prop,(∀ ĸ H',N ĸ H'->∃ m',m'<m/\W m' ĸ H')/\tb { D with nx:=N,ct:=N,bk:=D.nx } σ H1 else D.nx σ H1
theorem oH (hp:PassesOwn (model X.prog X.w) X.A X.env X.xe)(hc:PT X c tc)(hb:ſ X body tb):PS X (.While c body [] pos) (wU tc tb):=by
 intro Ã s σ H D I h;obtain⟨W,⟨m0,w0⟩,turn⟩:=h;refine wpAny_While (codeAny_whileLoop (λ n s'=>∃ ĸ H',Inv X Ã ĸ H' s'/\W n ĸ H') ?_ m0 ⟨σ,H,I,w0⟩);rintro n s1 ⟨SV,H1,I1,w1⟩;refine Ŗ hp (bt (hc Ã s1 SV H1 _ I1 (turn n SV H1 w1)) λ b s2 ⟨H2,I2,q2⟩=>?_);cases b with
 | true =>
  obtain⟨N,hN,q2⟩:=q2;rw [Ó rfl];refine Ŗ hp (bt (hb Ã s2 SV H2 _ I2 q2) λ f s3 q3=>?_);cases f with
  | next =>
   obtain⟨g_,H3,I3,n3⟩:=q3;obtain⟨m',hm,w3⟩:=hN g_ H3 n3;exact⟨m',hm,g_,H3,I3,w3⟩
  | cont =>
   obtain⟨g_,H3,I3,n3⟩:=q3;obtain⟨m',hm,w3⟩:=hN g_ H3 n3;exact⟨m',hm,g_,H3,I3,w3⟩
  | brk=>exact q3
  | ret v=>exact q3
 | false =>
  rw [Ë Ø];exact Nr ⟨SV,H2,I2,q2⟩
end
structure It where
 go:Nat->Hp->Prop
 ο:Nat->Hp->V->Hp->Prop
 stop:Nat->Hp->Prop
def gY (X:Cx)(Ã:List (Addr × Obj))(H:Hp)(b:Addr):Prop :=
 H b=none/\b≠X.env.locals/\b ∉ X.fs/\(b∈X.ex\/X.ŝ.heap.objs.size<=b)/\(∀ x c,X.env.cells.lookup x=some c->c≠b)/\∀ p∈X.pn ++ Ã,p.1≠b
theorem Inv.Om (I:Inv X Ã σ H s)(hb:s.heap.objs.size<=b)(hn:H' b=none):gY X Ã H' b:=by
 refine⟨hn,Ω (ä I.lt hb),I.Wv hb,.inr (Í I.sz hb),λ x c e z=>?_,λ p hp z=>?_⟩
 ·obtain⟨v,q⟩:=I.cell x c e;exact absurd (ä q.lt (by rw [z];exact hb)) (Ő _)
 ·exact absurd (ä (Ñ (I.pin p hp).1) (by rw [z];exact hb)) (Ő _)
structure my (P:Program)(w:World)(K:PySem.W.Frag)(tg:Expr)(J:It)(fp:List Addr)(it:Addr)(tn:Nat->Heap->Prop):Prop where
 mem:it∈fp
 obj:∀ i h,tn i h->∀ b∈fp,∃ o,h.get? b=some o/\∀ v,o.data ≠ .cell v
 keep:∀ i h h',tn i h->(∀ b∈fp,∀ o,h.get? b=some o->h'.get? b=some o)->tn i h'
 item:∀(X:Cx),X.prog=P->X.w=w->X.K=K->X.calm=true->∀(i:Nat)(Ã:List (Addr × Obj))(s:Shared)(σ:St)(H:Hp)(E:eE),Inv X Ã σ H s->(∀ b∈fp,gY X Ã H b)->tn i s.heap->J.go i H ->
  wpAny (model P w) X.A (pyNext (.ref it)) (λ r s1=>∃ u,r=some u /\
   wpAny (model P w) X.A (letOwnedTupleGo tg (.ref it) u) (λ _ s2=>∃ x H',Inv X Ã σ H' s2/\RelV x u/\J.ο i H x H'/\tn (i+1) s2.heap/\∀ b∈fp,H' b=none) E s1) E s
 done:∀(X:Cx),X.prog=P->X.w=w->X.K=K->X.calm=true->∀(i:Nat)(Ã:List (Addr × Obj))(s:Shared)(σ:St)(H:Hp)(E:eE),Inv X Ã σ H s->(∀ b∈fp,gY X Ã H b)->tn i s.heap->J.stop i H ->
  wpAny (model P w) X.A (pyNext (.ref it)) (λ r s1=>r=none/\Inv X Ã σ H s1) E s
 self:∀(A:Around)(i:Nat)(s:Shared)(Q:eE)(E:eE),tn i s.heap->Q (.ref it) s->wpAny (model P w) A (pyIter (.ref it)) Q E s
abbrev TI:=St->Hp->(It->Hp->Prop)->Prop
def Li (X:Cx)(Ã:List (Addr × Obj))(σ:St)(tg:Expr)(R:It->Hp->Prop)(WJ:Value)(s2:Shared):Prop :=
 ∃(it:Addr)(fp:List Addr)(tn:Nat->Heap->Prop)(J:It)(H':Hp),WJ=.ref it/\Inv X Ã σ H' s2/\my X.prog X.w X.K tg J fp it tn/\tn 0 s2.heap/\(∀ b∈fp,gY X Ã H' b)/\R J H'
def PI (X:Cx)(tg iter:Expr)(wi:TI):Prop :=
 ∀(Ã:List (Addr × Obj))(s:Shared)(σ:St)(H:Hp)(R:It->Hp->Prop),Inv X Ã σ H s->wi σ H R ->
  wpAny (model X.prog X.w) X.A (eval iter X.env) (λ v s1=>wpAny (model X.prog X.w) X.A (pyIter v) (Li X Ã σ tg R) X.xe s1) X.xe s
theorem nM (ho:s.heap.get? it=some o)(hc:o.cls=.type n)(hd:o.data=.fields vs)
  (hn:["enumerate","zip","dict_itemiterator","dict_reverseitemiterator","odict_iterator","itertools.zip_longest","itertools.pairwise"].contains n=false) (hQ:Q () s):wpAny M A (letOwnedTupleGo tg (.ref it) u) Q E s:=by
 cases tg <;> first
  | exact Á hQ
  | (cases u <;> first
    | exact Á hQ
    | (refine À (wpAny_load ho ?_)
       rw [hc,hd];show wpAny M A (if(["enumerate","zip","dict_itemiterator","dict_reverseitemiterator","odict_iterator","itertools.zip_longest","itertools.pairwise"].contains n&&vs[0]?==some (rawInt _))=true then _ else _) Q E s
       rw [Ë (by intro h;rw [hn,MH] at h;cases h)]
       exact Á hQ))
def nj (K:PySem.W.Frag)(a:Addr):It :=
 ⟨λ i H=>∃ xs x,Ċ K H a xs/\xs[i]?=some x,λ i H x H'=>H'=H/\∀ xs,Ċ K H a xs->xs[i]?=some x,λ i H=>∃ xs,Ċ K H a xs/\xs.length<=i⟩
def t5 (K:PySem.W.Frag)(a:Addr):It :=
 ⟨λ i H=>∃ xs x,Ė K H a xs/\xs[i]?=some x,λ i H x H'=>H'=H/\∀ xs,Ė K H a xs->xs[i]?=some x,λ i H=>∃ xs,Ė K H a xs/\xs.length<=i⟩
def Em (lo:Int)(n:Nat):It:=⟨λ i _=>i<n,λ i H x H'=>H'=H/\x=.int (lo+i),λ i _=>n<=i⟩
theorem tz {K:PySem.W.Frag}(a it:Addr):my P w K tg (nj K a) [it] it (λ i h=>h.IsListIter it a i) where
 mem:=by simp
 obj:=λ i h st b hb=>by
  have e:b=it:=by simpa using hb
  subst e;obtain⟨o,e,c,d⟩:=st;exact⟨o,e,λ v z=>by rw [d] at z;cases z⟩
 keep:=λ i h h' st k=>st.at λ o e=>k it (by simp) o e
 item:=by
  intro X hP hw hK hc i Ã s σ H E I hf st hg;subst hP hw hK;obtain⟨xs,x,hq,hx⟩:=hg;obtain⟨its,rv,p,hz⟩:=I.list hq;obtain⟨u,hu,ru⟩:=rv.get hx;obtain⟨f0,f1,f2,f3,f4,f5⟩:=hf it (by simp)
  refine wpAny_pyNext_list_item st p.isList (by simpa using hu) λ h' Ra sb=>?_
  have I1:Inv X Ã σ H { s with heap:=h' }:=I.turned (λ b o hb e=>(sb.2 b hb).trans e) f0 f1 f3 f4 f5
  obtain⟨o,e,c,d⟩:=id Ra;exact⟨u,rfl,nM e c d ax ⟨x,H,I1,ru,⟨rfl,λ ys hy=>by rw [I.MN hy hq];exact hx⟩,Ra,λ b hb=>(hf b hb).1⟩⟩
 done:=by
  intro X hP hw hK hc i Ã s σ H E I hf st hg;subst hP hw hK;obtain⟨xs,hq,hx⟩:=hg;obtain⟨its,rv,p,hz⟩:=I.list hq;obtain⟨f0,f1,f2,f3,f4,f5⟩:=hf it (by simp)
  have hl:=rv.length;exact wpAny_pyNext_list_end (I.ok.hd hc) st p.isList (by simp;omega) λ h' eb=>⟨rfl,I.turned (λ b o hb e=>eb b o hb e) f0 f1 f3 f4 f5⟩
 self:=λ _ _ _ _ _ st h=>wpAny_pyIter_listiter st h
theorem pF {K:PySem.W.Frag}(a it:Addr):my P w K tg (t5 K a) [it] it (λ i h=>h.IsTupleIter it a i) where
 mem:=by simp
 obj:=λ i h st b hb=>by
  have e:b=it:=by simpa using hb
  subst e;obtain⟨o,e,c,d⟩:=st;exact⟨o,e,λ v z=>by rw [d] at z;cases z⟩
 keep:=λ i h h' st k=>st.at λ o e=>k it (by simp) o e
 item:=by
  intro X hP hw hK hc i Ã s σ H E I hf st hg;subst hP hw hK;obtain⟨xs,x,hq,hx⟩:=hg;obtain⟨its,rv,p,hz⟩:=I.tuple hq;obtain⟨u,hu,ru⟩:=rv.get hx;obtain⟨f0,f1,f2,f3,f4,f5⟩:=hf it (by simp)
  refine wpAny_pyNext_tuple_item st (show s.heap.IsTuple a its.toArray from p) (by simpa using hu) λ h' Ra sb=>?_
  have I1:Inv X Ã σ H { s with heap:=h' }:=I.turned (λ b o hb e=>(sb.2 b hb).trans e) f0 f1 f3 f4 f5
  obtain⟨o,e,c,d⟩:=id Ra;exact⟨u,rfl,nM e c d ax ⟨x,H,I1,ru,⟨rfl,λ ys hy=>by rw [I.Nw hy hq];exact hx⟩,Ra,λ b hb=>(hf b hb).1⟩⟩
 done:=by
  intro X hP hw hK hc i Ã s σ H E I hf st hg;subst hP hw hK;obtain⟨xs,hq,hx⟩:=hg;obtain⟨its,rv,p,hz⟩:=I.tuple hq;obtain⟨f0,f1,f2,f3,f4,f5⟩:=hf it (by simp)
  have hl:=rv.length;exact wpAny_pyNext_tuple_end (I.ok.hd hc) st (show s.heap.IsTuple a its.toArray from p) (by simp;omega) λ h' eb=>⟨rfl,I.turned (λ b o hb e=>eb b o hb e) f0 f1 f3 f4 f5⟩
 self:=λ _ _ _ _ _ st h=>wpAny_pyIter_tupleiter st h
theorem qp {K:PySem.W.Frag}(it:Addr)(lo:Int)(n:Nat):my P w K tg (Em lo n) [it] it (λ i h=>IsRangeIter h it (lo+(i:Nat)*1) ((n:Int)-(i:Nat)) 1) where
 mem:=by simp
 obj:=λ i h st b hb=>by
  have e:b=it:=by simpa using hb
  subst e;exact⟨_,st,λ v z=>by
   have z':Data.fields _=Data.cell v:=z;cases z'⟩
 keep:=λ i h h' st k=>k it (by simp) _ st
 item:=by
  intro X hP hw hK hc i Ã s σ H E I hf st hg;subst hP hw hK;obtain⟨f0,f1,f2,f3,f4,f5⟩:=hf it (by simp)
  have W:=Walks.range (prog:=X.prog) (w:=X.w) (I.ok.hd hc) it lo 1 n;refine W.item i s _ _ hg st λ v h' tk hv Ra kk=>?_;obtain⟨t,rfl⟩:=hv;have I1:Inv X Ã σ H { s with heap:=h',toks:=tk }:=I.turned (λ b o hb e=>kk b o (by simpa using hb) e) f0 f1 f3 f4 f5
  refine⟨_,rfl,nM Ra rfl rfl ax ⟨.int (lo+i),H,I1,⟨t,?_⟩,⟨rfl,rfl⟩,Ra,λ b hb=>(hf b hb).1⟩⟩;rw [Int.mul_one]
 done:=by
  intro X hP hw hK hc i Ã s σ H E I hf st hg;subst hP hw hK;obtain⟨f0,f1,f2,f3,f4,f5⟩:=hf it (by simp)
  exact wpAny_pyNext_range_end (I.ok.hd hc) st (by have:n<=i:=hg;omega) λ h' eb=>⟨rfl,I.turned (λ b o hb e=>eb b o hb e) f0 f1 f3 f4 f5⟩
 self:=λ _ _ _ _ _ st h=>wpAny_pyIter_rangeiter st h
section
variable {X:Cx}{tg:Expr}
def fc (K:PySem.W.Frag)(tl:TE):TI:=λ σ H R=>tl σ H λ x H1=>∃ a,x=.ref a/\(∃ xs,Ċ K H1 a xs)/\R (nj K a) H1
def tu (K:PySem.W.Frag)(tl:TE):TI:=λ σ H R=>tl σ H λ x H1=>∃ a,x=.ref a/\(∃ xs,Ė K H1 a xs)/\R (t5 K a) H1
theorem bJ (hl:PE X l tl):PI X tg l (fc X.K tl):=by
 intro Ã s σ H R I h;refine bt (hl Ã s σ H _ I h) λ v s1 ⟨x,H1,I1,r1,q1⟩=>?_;obtain⟨a,e,⟨xs,hq⟩,q⟩:=q1;subst e;cases r1;obtain⟨its,rv,p,hz⟩:=I1.list hq;refine D_ p.isList ?_;refine⟨s1.heap.objs.size,[s1.heap.objs.size],_,_,H1,rfl,I1.kept λ b o e=>Â _ e,tz a _,⟨_,Î _ rfl,rfl,rfl⟩,λ b hb=>?_,q⟩;have e:b=s1.heap.objs.size:=by simpa using hb
 subst e;exact I1.Om (Æ _) (I1.Č.fresh (Æ _))
theorem gR (hl:PE X l tl):PI X tg l (tu X.K tl):=by
 intro Ã s σ H R I h;refine bt (hl Ã s σ H _ I h) λ v s1 ⟨x,H1,I1,r1,q1⟩=>?_;obtain⟨a,e,⟨xs,hq⟩,q⟩:=q1;subst e;cases r1;obtain⟨its,rv,p,hz⟩:=I1.tuple hq;refine O6 (show s1.heap.IsTuple a its.toArray from p) ?_;refine⟨s1.heap.objs.size,[s1.heap.objs.size],_,_,H1,rfl,I1.kept λ b o e=>Â _ e,pF a _,⟨_,Î _ rfl,rfl,rfl⟩,λ b hb=>?_,q⟩;have e:b=s1.heap.objs.size:=by simpa using hb
 subst e;exact I1.Om (Æ _) (I1.Č.fresh (Æ _))
theorem wK {lo hi:Int}(I:Inv X Ã σ H s)(h1:-(2^62)<=lo)(h2:lo<2^62)(h3:-(2^62)<=hi)(h4:hi<2^62)
  (q:R (Em lo (hi-lo).toNat) H):wpAny (model X.prog X.w) X.A (pyIter (.ref s.heap.objs.size)) (Li X Ã σ tg R) E { s with heap:=s.heap.push { cls:=.type "range",data:=.fields #[.int lo t,.int hi u,.int 1 v] },toks:=tk }:=by
 refine wpAny_pyIter_range (IsRange.new ..) (small_one h1 h2 h3 h4) ?_;have I1:Inv X Ã σ H { s with heap:=s.heap.push { cls:=.type "range",data:=.fields #[.int lo t,.int hi u,.int 1 v] },toks:=tk }:=I.kept λ b o e=>Â _ e
 refine⟨(s.heap.push { cls:=.type "range",data:=.fields #[.int lo t,.int hi u,.int 1 v] }).objs.size,[(s.heap.push { cls:=.type "range",data:=.fields #[.int lo t,.int hi u,.int 1 v] }).objs.size],_,_,H,rfl,
  I1.kept λ b o e=>Â _ e,qp _ lo (hi-lo).toNat,?_,λ b hb=>?_,q⟩
 ·have e1:lo+((0:Nat):Int)*1=lo:=by simp
  have e2:(((hi-lo).toNat:Nat):Int)-((0:Nat):Int)=Builtin.Range.rangeSize lo hi 1:=by rw [rangeSize_one];split <;> omega
  rw [e1,e2];exact Î _ rfl
 ·have e:b=(s.heap.push { cls:=.type "range",data:=.fields #[.int lo t,.int hi u,.int 1 v] }).objs.size:=by simpa using hb
  subst e;exact I1.Om (Æ _) (I1.Č.fresh (Æ _))
def jb (ta:TA):TI:=λ σ H R=>ta σ H λ vs H1=>∃ j:Int,vs=[.int j]/\-(2^62)<=j/\j<2^62/\R (Em 0 j.toNat) H1
theorem fB (hg:Gl X "range") (hm:X.mg "range" = none) (ha:PA X [a] ta) (hs:starEach [a] X.env=[(false,eval a X.env)]:=by rfl):PI X tg (.Call (.Name "range" p) [a] [] pos) (jb ta):=by
 intro Ã s σ H R I h;refine Call_ (iZ I hg hm boot_range (Ŕ (bt (ha pos Ã s σ H _ I h) λ us s1 ⟨vs,H1,I1,r1,q1⟩=>?_) hs rfl));obtain⟨j,e,q1,q2,q⟩:=q1;subst e;cases r1 with
 | cons r rr =>
  cases rr;obtain⟨t,rfl⟩:=r;exact call_range_1 (wK I1 af af q1 q2 (by simpa using q))
def fj (wi:TI)(g:TG)(tb:TS):TS:=λ D σ H=>wi σ H λ J H1=>∃ W:Nat->Nat->St->Hp->Prop,(∃ m,W 0 m σ H1)/\∀ i m σ H,W i m σ H ->
 (J.stop i H/\D.nx σ H)\/(J.go i H/\∃ N:St->Hp->Prop,(∀ ĸ H',N ĸ H'->∃ m',m'<m/\W (i+1) m' ĸ H')/\∀ x H',J.ο i H x H'->g x σ H' λ Ĩ H2=>tb { D with nx:=N,ct:=N,bk:=D.nx } Ĩ H2)
def mI (fp:List Addr)(h:Heap):List (Addr × Obj):=fp.filterMap λ b=>(h.get? b).map λ o=>(b,o)
theorem dA (hb:b∈fp)(e:h.get? b=some o):(b,o)∈mI fp h:=List.mem_filterMap.mpr ⟨b,hb,by rw [e];rfl⟩
theorem tw (hp:p∈mI fp h):p.1∈fp/\h.get? p.1=some p.2:=by
 obtain⟨b,hb,e⟩:=List.mem_filterMap.mp hp;cases q:h.get? b with
 | none=>rw [q] at e;cases e
 | some o =>
  rw [q] at e;have e':=â e;subst e';exact⟨hb,q⟩
theorem Inv.pinned (I:Inv X Ã σ H s)(hf:∀ b∈fp,gY X Ã H b)(ho:∀ b∈fp,∃ o,s.heap.get? b=some o/\∀ v,o.data ≠ .cell v):Inv X (Ã ++ mI fp s.heap) σ H s :=
 I.OR λ p hp=>(ß.mp hp).elim (λ z=>I.pin p (à _ z)) λ z=>by
  obtain⟨hb,e⟩:=tw z;obtain⟨f0,f1,f2,_⟩:=hf p.1 hb;obtain⟨o,e',d⟩:=ho p.1 hb;rw [e] at e';cases e';exact⟨e,f0,f1,f2,d⟩
theorem Inv.ρ (I:Inv X (Ã ++ pl) σ H s):Inv X Ã σ H s:=I.OR λ p hp=>I.pin p (à _ (ĭ _ hp))
theorem cj (hp:PassesOwn (model X.prog X.w) X.A X.env X.xe)(hc:X.calm=true)(hi:PI X tg iter wi)(hg:PG X tg g)(hb:ſ X body tb)
  (hs:∀ x,foldedSetIterable iter X.env x=pure x:=by intro _;rfl):PS X (.For tg iter body [] pos) (fj wi g tb):=by
 intro Ã s σ H D I h;refine wpAny_For (bt (hi Ã s σ H _ I h) λ v s1 h1=>bt h1 λ WJ s2 h2=>?_) hs;obtain⟨it,fp,tn,J,H2,e,I2,T,Vr,f2,W,⟨m0,w0⟩,turn⟩:=h2;subst e;have Oz:∀{H':Hp},(∀ b∈fp,H' b=none)->∀ b∈fp,gY X Ã H' b:=λ hn b hb=>⟨hn b hb,(f2 b hb).2⟩;refine codeAny_forLoop_any (λ n s'=>∃ i ĸ H',Inv X Ã ĸ H' s'/\tn i s'.heap/\(∀ b∈fp,H' b=none)/\W i n ĸ H') ?_ m0 ⟨0,σ,H2,I2,Vr,λ b hb=>(f2 b hb).1,w0⟩;rintro n s3 ⟨i,g_,H3,I3,Ya,Zf,w3⟩;rcases turn i n g_ H3 w3 with⟨stop,qn⟩ | ⟨go,N,hN,step⟩
 ·refine Ŗ hp (bt (T.done X rfl rfl rfl hc i Ã s3 g_ H3 X.xe I3 (Oz Zf) Ya stop) λ r s4 ⟨hr,I4⟩=>?_);subst hr;exact Nr ⟨g_,H3,I4,qn⟩
 ·refine Ŗ hp (bt (T.item X rfl rfl rfl hc i Ã s3 g_ H3 X.xe I3 (Oz Zf) Ya go) λ r s4 ⟨u,hr,h4⟩=>?_);subst hr;refine Ŗ hp (bt h4 λ _ s5 ⟨x,H5,I5,r5,y5,R5,XE⟩=>?_);have XM:=I5.pinned (Oz XE) (T.obj _ _ R5);refine Ŗ hp (bt (hg _ s5 g_ H5 x u _ XM r5 (step x H5 y5)) λ _ s6 ⟨SU,H6,I6,q6⟩=>?_);refine Ŗ hp (bt (hb _ s6 SU H6 _ I6 q6) λ f s7 q7=>?_);have again:∀{PJ:St}{H7:Hp},Inv X (Ã ++ mI fp s5.heap) PJ H7 s7->N PJ H7->∃ m,m<n/\∃ i ĸ H',Inv X Ã ĸ H' s7/\tn i s7.heap/\(∀ b∈fp,H' b=none)/\W i m ĸ H':=λ {PJ H7} I7 n7=>by
   obtain⟨m',hm,w7⟩:=hN PJ H7 n7;refine⟨m',hm,i+1,PJ,H7,I7.ρ,T.keep _ _ _ R5 λ b hb o e=>(I7.pin (b,o) (à _ (à _ (dA hb e)))).1,λ b hb=>?_,w7⟩;obtain⟨o,e,d⟩:=T.obj _ _ R5 b hb;exact(I7.pin (b,o) (à _ (à _ (dA hb e)))).2.1
  cases f with
  | next=>obtain⟨PJ,H7,I7,n7⟩:=q7;exact again I7 n7
  | cont=>obtain⟨PJ,H7,I7,n7⟩:=q7;exact again I7 n7
  | brk=>obtain⟨PJ,H7,I7,q7⟩:=q7;exact⟨PJ,H7,I7.ρ,q7⟩
  | ret v=>obtain⟨x7,PJ,H7,I7,r7,q7⟩:=q7;exact⟨x7,PJ,H7,I7.ρ,r7,q7⟩
end
theorem c7 {K:PySem.W.Frag}{a:Addr}{g:TG}{tb:TS}{D:dq}(Pv:Nat->St->Hp->Prop)(h0:Pv 0 σ H)(hl:∀ i σ H,i<=xs.length->Pv i σ H->Ċ K H a xs)
  (hs:∀ i x σ H,xs[i]?=some x->Pv i σ H->g x σ H λ Ĩ H2=>tb { D with nx:=Pv (i+1),ct:=Pv (i+1),bk:=D.nx } Ĩ H2) (hd:∀ σ H,Pv xs.length σ H->D.nx σ H) :
  ∃ W:Nat->Nat->St->Hp->Prop,(∃ m,W 0 m σ H)/\∀ i m σ H,W i m σ H ->
   ((nj K a).stop i H/\D.nx σ H)\/((nj K a).go i H/\∃ N:St->Hp->Prop,(∀ ĸ H',N ĸ H'->∃ m',m'<m/\W (i+1) m' ĸ H')/\∀ x H',(nj K a).ο i H x H'->g x σ H' λ Ĩ H2=>tb { D with nx:=N,ct:=N,bk:=D.nx } Ĩ H2):=by
 refine⟨λ i m σ H=>m=xs.length-i/\i<=xs.length/\Pv i σ H,⟨xs.length,by simp,Nat.zero_le _,h0⟩,?_⟩
 rintro i m σ H ⟨rfl,hi,p⟩;have q:=hl i σ H hi p;by_cases ř:i<xs.length
 ·refine .inr ⟨⟨xs,xs[i],q,by simp [ř]⟩,Pv (i+1),λ ĸ H' p'=>⟨xs.length-(i+1),af,rfl,ř,p'⟩,λ x H' y=>?_⟩
  obtain⟨e,y⟩:=y;subst e;exact hs i x σ _ (y xs q) p
 ·have e:i=xs.length:=af;subst e;exact .inl ⟨⟨xs,q,Æ _⟩,hd σ H p⟩
theorem gG {lo:Int}{g:TG}{tb:TS}{D:dq}(Pv:Nat->St->Hp->Prop)(h0:Pv 0 σ H)
  (hs:∀ i σ H,i<n->Pv i σ H->g (.int (lo+i)) σ H λ Ĩ H2=>tb { D with nx:=Pv (i+1),ct:=Pv (i+1),bk:=D.nx } Ĩ H2) (hd:∀ σ H,Pv n σ H->D.nx σ H) :
  ∃ W:Nat->Nat->St->Hp->Prop,(∃ m,W 0 m σ H)/\∀ i m σ H,W i m σ H ->
   ((Em lo n).stop i H/\D.nx σ H)\/((Em lo n).go i H/\∃ N:St->Hp->Prop,(∀ ĸ H',N ĸ H'->∃ m',m'<m/\W (i+1) m' ĸ H')/\∀ x H',(Em lo n).ο i H x H'->g x σ H' λ Ĩ H2=>tb { D with nx:=N,ct:=N,bk:=D.nx } Ĩ H2):=by
 refine⟨λ i m σ H=>m=n-i/\i<=n/\Pv i σ H,⟨n,by simp,Nat.zero_le _,h0⟩,?_⟩
 rintro i m σ H ⟨rfl,hi,p⟩;by_cases ř:i<n
 ·refine .inr ⟨ř,Pv (i+1),λ ĸ H' p'=>⟨n-(i+1),af,rfl,ř,p'⟩,λ x H' y=>?_⟩;obtain⟨e,y⟩:=y;subst e y;exact hs i σ _ ř p
 ·have e:i=n:=af;subst e;exact .inl ⟨Æ _,hd σ H p⟩
theorem pq (Pv:St->Hp->Prop)(μ:St->Hp->Nat)(h0:Pv σ H)
  (hs:∀ σ H,Pv σ H->c σ H λ b H1=>if b=true then tb { D with nx:=λ ĸ H'=>Pv ĸ H'/\μ ĸ H' < μ σ H,ct:=λ ĸ H'=>Pv ĸ H'/\μ ĸ H' < μ σ H,bk:=D.nx } σ H1 else D.nx σ H1)
  (mono:∀ σ H Q Q',(∀ b H1,Q b H1->Q' b H1)->c σ H Q->c σ H Q'):wU c tb D σ H:=by
 refine⟨λ m σ H=>m = μ σ H/\Pv σ H,⟨_,rfl,h0⟩,?_⟩;rintro m σ H ⟨rfl,p⟩;refine mono σ H _ _ (λ b H1 q=>?_) (hs σ H p);cases b with
 | true=>exact⟨_,λ ĸ H' ⟨p',l⟩=>⟨_,l,rfl,p'⟩,q⟩
 | false=>exact q
abbrev R2:=V->V->Hp->VK->Prop
def je (X:Cx)(f:Value->Value->Sem Value)(r:R2):Prop :=
 ∀(Ã:List (Addr × Obj))(s:Shared)(σ:St)(H:Hp)(x y:V)(v u:Value)(Q:VK),Inv X Ã σ H s->RelV x v->RelV y u->r x y H Q ->
  wpAny (model X.prog X.w) X.A (f v u) (EP X Ã σ Q) X.xe s
def IP (X:Cx)(f:Value->Sem Value)(r:V->Hp->VK->Prop):Prop :=
 ∀(Ã:List (Addr × Obj))(s:Shared)(σ:St)(H:Hp)(x:V)(v:Value)(Q:VK),Inv X Ã σ H s->RelV x v->r x H Q ->
  wpAny (model X.prog X.w) X.A (f v) (EP X Ã σ Q) X.xe s
def cU (X:Cx)(f:Value)(r:List V->Hp->VK->Prop):Prop :=
 ∀(Ã:List (Addr × Obj))(s:Shared)(σ:St)(H:Hp)(xs:List V)(us:List Value)(Q:VK),Inv X Ã σ H s->Vals xs us->r xs H Q ->
  wpAny (model X.prog X.w) X.A (call f us) (EP X Ã σ Q) X.xe s
def bV (r:R2)(ta tb:TE):TE:=λ σ H Q=>ta σ H λ x H1=>tb σ H1 λ y H2=>r x y H2 Q
def Dq (r:V->Hp->VK->Prop)(ta:TE):TE:=λ σ H Q=>ta σ H λ x H1=>r x H1 Q
def rI (C:Int->Int->Prop)(g:Int->Int->V):R2:=λ x y H Q=>∃ i j,x=.int i/\y=.int j/\C i j/\Q (g i j) H
def gK (g:Int->Int->V):R2:=λ x y H Q=>∃ i j,x=.int i/\y=.int j/\Q (g i j) H
def rU (g:Int->V):V->Hp->VK->Prop:=λ x H Q=>∃ i,x=.int i/\Q (g i) H
section
variable {X:Cx}{a b c:Expr}{ta tb tc:TE}{pos:Pos}
theorem Dy (ha:PE X a ta)(hb:PE X b tb){R:V->V->Hp->Prop}(I:Inv X Ã σ H s)
  (h:ta σ H λ x H1=>tb σ H1 λ y H2=>R x y H2) {f:Value->Value->Sem Value}
  (hf:∀ v u s2 x y H2,Inv X Ã σ H2 s2->RelV x v->RelV y u->R x y H2->wpAny (model X.prog X.w) X.A (f v u) Q X.xe s2) :
  wpAny (model X.prog X.w) X.A (eval a X.env) (λ v ġ=>wpAny (model X.prog X.w) X.A (eval b X.env) (λ u ς=>wpAny (model X.prog X.w) X.A (f v u) Q X.xe ς) X.xe ġ) X.xe s:=by
 refine bt (ha Ã s σ H _ I h) λ v s1 ⟨x,H1,I1,r1,q1⟩=>?_;refine bt (hb Ã s1 σ H1 _ I1 q1) λ u s2 ⟨y,H2,I2,r2,q2⟩=>?_;exact hf v u s2 x y H2 I2 r1 r2 q2
theorem ak (ho:je X (binaryOp op) r)(ha:PE X a ta)(hb:PE X b tb):PE X (.BinOp a op b pos) (bV r ta tb):=by
 intro Ã s σ H Q I h;exact wpAny_BinOp (Dy ha hb I h λ v u s2 x y H2 I2 rx ry q=>ho Ã s2 σ H2 x y v u Q I2 rx ry q)
theorem jS (ho:IP X (unaryOp op) r)(ha:PE X a ta):PE X (.UnaryOp op a pos) (Dq r ta):=by
 intro Ã s σ H Q I h;exact UnaryOp_ (bt (ha Ã s σ H _ I h) λ v s1 ⟨x,H1,I1,r1,q1⟩=>ho Ã s1 σ H1 x v Q I1 r1 q1)
theorem Am {g:Int->Int->Int}
  (rule:∀(i j:Int)(t u:Tok)(s:Shared)(Q:eE)(E:eE),C i j->Q (.int (g i j) s.toks) { s with toks:=s.toks+1 }->wpAny (model X.prog X.w) X.A (f (.int i t) (.int j u)) Q E s) :
  je X f (rI C λ i j=>.int (g i j)):=by
 intro Ã s σ H x y v u Q I rx ry h;obtain⟨i,j,rfl,rfl,hc,q⟩:=h;obtain⟨t,rfl⟩:=rx;obtain⟨t',rfl⟩:=ry;exact rule i j t t' s _ _ hc ⟨.int (g i j),H,I.tok _,⟨_,rfl⟩,q⟩
theorem DC {g:Int->Int->Int}
  (rule:∀(i j:Int)(t u:Tok)(s:Shared)(Q:eE)(E:eE),Q (.int (g i j) s.toks) { s with toks:=s.toks+1 }->wpAny (model X.prog X.w) X.A (f (.int i t) (.int j u)) Q E s) :
  je X f (gK λ i j=>.int (g i j)):=by
 intro Ã s σ H x y v u Q I rx ry h;obtain⟨i,j,rfl,rfl,q⟩:=h;obtain⟨t,rfl⟩:=rx;obtain⟨t',rfl⟩:=ry;exact rule i j t t' s _ _ ⟨.int (g i j),H,I.tok _,⟨_,rfl⟩,q⟩
theorem xI {g:Int->Int->Bool}
  (rule:∀(i j:Int)(t u:Tok)(s:Shared)(Q:eE)(E:eE),Q (.bool (g i j)) s->wpAny (model X.prog X.w) X.A (f (.int i t) (.int j u)) Q E s) :
  je X f (gK λ i j=>.bl (g i j)):=by
 intro Ã s σ H x y v u Q I rx ry h;obtain⟨i,j,rfl,rfl,q⟩:=h;obtain⟨t,rfl⟩:=rx;obtain⟨t',rfl⟩:=ry;exact rule i j t t' s _ _ ⟨.bl (g i j),H,I,rfl,q⟩
def FI (i j:Int):Prop:=0<j/\j<1073741824
def yA (i j:Int):Prop:=0<=j/\j<=1000000/\i.natAbs<2^64
def NW (i j:Int):Prop:=(-(2^64)<i/\i<2^64)\/(-(2^64)<j/\j<2^64)
theorem NW.ok {i j:Int}(h:NW i j):IntMulOk i j:=by
 rcases h with⟨h1,h2⟩ | ⟨h1,h2⟩
 ·exact .of_left (intBits_le_64 h1 h2)
 ·exact .of_right (intBits_le_64 h1 h2)
theorem qr (k:Nat):(0:Int)<=2^k:=by
 rw [two_pow_cast];exact Int.natCast_nonneg _
theorem bf:je X (binaryOp .Add) (gK λ i j=>.int (i+j)):=DC λ _ _ _ _ _ _ _ q=>add_int q
theorem bO:je X (binaryOp .Sub) (gK λ i j=>.int (i-j)):=DC λ _ _ _ _ _ _ _ q=>sub_int q
theorem cY:je X (binaryOp .Mult) (rI NW λ i j=>.int (i*j)):=Am λ _ _ _ _ _ _ _ hc q=>mul_int q hc.ok
theorem gA:je X (binaryOp .FloorDiv) (rI FI λ i j=>.int (i/j)):=Am λ i j _ _ _ _ _ hc q=>by
 have h1:=hc.1;have h2:=hc.2;exact floordiv_int af (by rw [ξ i af];exact q) (.inl (PyProof.noPylong_small af))
theorem dQ:je X (binaryOp .Mod) (rI (λ _ j=>0<j) λ i j=>.int (i%j)):=Am λ i j _ _ _ _ _ hc q=>by
 have h1:=hc;exact mod_int' af (by rw [Int.fmod_eq_emod_of_nonneg i af];exact q)
theorem Ch:je X (binaryOp .Pow) (rI yA λ i j=>.int (i^j.toNat)):=Am λ _ _ _ _ _ _ _ hc q=>pow_int_small hc.1 hc.2.1 hc.2.2 q
theorem Ee:je X (binaryOp .LShift) (rI yA λ i j=>.int (i*2^j.toNat)):=Am λ _ _ _ _ _ _ _ hc q=>lshift_int_small hc.1 hc.2.1 hc.2.2 q
theorem B9:je X (binaryOp .RShift) (rI (λ _ j=>0<=j) λ i j=>.int (i/2^j.toNat)):=Am λ i j _ _ _ _ _ hc q =>
 rshift_int hc (by rw [ξ i (qr _)];exact q)
theorem AE:je X (binaryOp .BitAnd) (gK λ i j=>.int (Builtin.bitAnd i j)):=DC λ _ _ _ _ _ _ _ q=>and_int q
theorem LP {g:Int->Int}
  (rule:∀(i:Int)(t:Tok)(s:Shared)(Q:eE)(E:eE),Q (.int (g i) s.toks) { s with toks:=s.toks+1 }->wpAny (model X.prog X.w) X.A (f (.int i t)) Q E s) :
  IP X f (rU λ i=>.int (g i)):=by
 intro Ã s σ H x v Q I rx h;obtain⟨i,rfl,q⟩:=h;obtain⟨t,rfl⟩:=rx;exact rule i t s _ _ ⟨.int (g i),H,I.tok _,⟨_,rfl⟩,q⟩
theorem gX:IP X (unaryOp .USub) (rU λ i=>.int (-i)):=LP λ _ _ _ _ _ q=>neg_int q
end
def GX:V->V->Bool
 | .Ă,.Ă=>true | .Ă,.int _=>true | .int _,.Ă=>true | .Ă,.bl _=>true | .bl _,.Ă=>true | .Ă,.str _=>true | .str _,.Ă=>true
 | .int _,.int _=>true | .bl _,.bl _=>true | .str _,.str _=>true | .Pl _,.Pl _=>true
 | .int _,.str _=>true | .str _,.int _=>true | .bl _,.str _=>true | .str _,.bl _=>true
 | _,_=>false
def sw:R2:=λ x y H Q=>GX x y=true/\Q (.bl (decide (x=y))) H
def Cu:R2:=λ x y H Q=>GX x y=true/\Q (.bl (!decide (x=y))) H
theorem rY:decide (V.int i=V.int j)=(i==j):=by
 rw [Λ];simp
theorem ut:decide (V.bl i=V.bl j)=(i==j):=by
 rw [Λ];simp
theorem sq:decide (V.str i=V.str j)=(i==j):=by
 rw [Λ];simp
theorem rQ:decide (V.Pl i=V.Pl j)=(i.toList==j.toList):=by
 rw [Λ];cases i;cases j;simp
section
variable {X:Cx}{a b c:Expr}{ta tb tc:TE}{pos:Pos}
theorem bj (I:Inv X Ã σ H s)(q:Q (.bl k) H)(e:k=k'):EP X Ã σ Q (.bool k') s:=by
 subst e;exact⟨.bl k,H,I,rfl,q⟩
theorem bE:je X (compareOp .Eq) sw:=by
 intro Ã s σ H x y v u Q I rx ry h;obtain⟨hs,q⟩:=h;cases x with
 | Ă =>
  cases rx;cases y with
  | Ă=>cases ry;exact PySem.EqNone.eq_none_none (bj I q (by simp))
  | bl j=>cases ry;exact PySem.EqNone.eq_none_bool (bj I q (by simp))
  | int j=>obtain⟨t',rfl⟩:=ry;exact PySem.EqNone.eq_none_int (bj I q (by simp))
  | str j=>obtain⟨t',rfl⟩:=ry;exact PySem.EqNone.eq_none_str (bj I q (by simp))
  | _=>exact absurd (show false=true from hs) Ø
 | bl i =>
  cases rx;cases y with
  | Ă=>cases ry;exact PySem.EqNone.eq_bool_none (bj I q (by simp))
  | bl j=>cases ry;exact eq_bool (bj I q ut)
  | str j=>obtain⟨t',rfl⟩:=ry;exact PySem.EqMixed.eq_bool_str (bj I q (by simp))
  | _=>exact absurd (show false=true from hs) Ø
 | int i =>
  obtain⟨t,rfl⟩:=rx;cases y with
  | Ă=>cases ry;exact PySem.EqNone.eq_int_none (bj I q (by simp))
  | int j=>obtain⟨t',rfl⟩:=ry;exact eq_int (bj I q rY)
  | str j=>obtain⟨t',rfl⟩:=ry;exact PySem.EqMixed.eq_int_str (bj I q (by simp))
  | _=>exact absurd (show false=true from hs) Ø
 | str i =>
  obtain⟨t,rfl⟩:=rx;cases y with
  | Ă=>cases ry;exact PySem.EqNone.eq_str_none (bj I q (by simp))
  | bl j=>cases ry;exact PySem.EqMixed.eq_str_bool (bj I q (by simp))
  | int j=>obtain⟨t',rfl⟩:=ry;exact PySem.EqMixed.eq_str_int (bj I q (by simp))
  | str j=>obtain⟨t',rfl⟩:=ry;exact eq_str (bj I q sq)
  | _=>exact absurd (show false=true from hs) Ø
 | Pl i =>
  obtain⟨t,rfl⟩:=rx;cases y with
  | Pl j=>obtain⟨t',rfl⟩:=ry;exact PySem.W.eq_bytes (bj I q rQ)
  | _=>exact absurd (show false=true from hs) Ø
 | _=>cases y <;> exact absurd (show false=true from hs) Ø
theorem iG:je X (compareOp .NotEq) Cu:=by
 intro Ã s σ H x y v u Q I rx ry h;obtain⟨hs,q⟩:=h;cases x with
 | Ă =>
  cases rx;cases y with
  | Ă=>cases ry;exact PySem.EqNone.ne_none_none (bj I q (by simp))
  | bl j=>cases ry;exact PySem.EqNone.ne_none_bool (bj I q (by simp))
  | int j=>obtain⟨t',rfl⟩:=ry;exact PySem.EqNone.ne_none_int (bj I q (by simp))
  | str j=>obtain⟨t',rfl⟩:=ry;exact PySem.EqNone.ne_none_str (bj I q (by simp))
  | _=>exact absurd (show false=true from hs) Ø
 | bl i =>
  cases rx;cases y with
  | Ă=>cases ry;exact PySem.EqNone.ne_bool_none (bj I q (by simp))
  | bl j=>cases ry;exact ne_bool (bj I q (ą not ut))
  | str j=>obtain⟨t',rfl⟩:=ry;exact PySem.EqMixed.ne_bool_str (bj I q (by simp))
  | _=>exact absurd (show false=true from hs) Ø
 | int i =>
  obtain⟨t,rfl⟩:=rx;cases y with
  | Ă=>cases ry;exact PySem.EqNone.ne_int_none (bj I q (by simp))
  | int j=>obtain⟨t',rfl⟩:=ry;exact ne_int (bj I q (ą not rY))
  | str j=>obtain⟨t',rfl⟩:=ry;exact PySem.EqMixed.ne_int_str (bj I q (by simp))
  | _=>exact absurd (show false=true from hs) Ø
 | str i =>
  obtain⟨t,rfl⟩:=rx;cases y with
  | Ă=>cases ry;exact PySem.EqNone.ne_str_none (bj I q (by simp))
  | bl j=>cases ry;exact PySem.EqMixed.ne_str_bool (bj I q (by simp))
  | int j=>obtain⟨t',rfl⟩:=ry;exact PySem.EqMixed.ne_str_int (bj I q (by simp))
  | str j=>obtain⟨t',rfl⟩:=ry;exact ne_str (bj I q (ą not sq))
  | _=>exact absurd (show false=true from hs) Ø
 | Pl i =>
  obtain⟨t,rfl⟩:=rx;cases y with
  | Pl j=>obtain⟨t',rfl⟩:=ry;exact PySem.W.ne_bytes (bj I q (ą not rQ))
  | _=>exact absurd (show false=true from hs) Ø
 | _=>cases y <;> exact absurd (show false=true from hs) Ø
theorem k9:je X (compareOp .Lt) (gK λ i j=>.bl (decide (i<j))):=xI λ _ _ _ _ _ _ _ q=>lt_int q
theorem wj:je X (compareOp .LtE) (gK λ i j=>.bl (decide (i<=j))):=xI λ _ _ _ _ _ _ _ q=>le_int q
theorem fm:je X (compareOp .Gt) (gK λ i j=>.bl (decide (j<i))):=xI λ _ _ _ _ _ _ _ q=>gt_int q
theorem wn:je X (compareOp .GtE) (gK λ i j=>.bl (decide (j<=i))):=xI λ _ _ _ _ _ _ _ q=>ge_int q
theorem au (b:Expr)(h:op ≠ .In:=by decide)(h2:op ≠ .NotIn:=by decide):behindInMarks op b=false:=by
 have e1:(op==CmpOp.In)=false:=by cases op <;> first | rfl | exact absurd rfl h
 have e2:(op==CmpOp.NotIn)=false:=by cases op <;> first | rfl | exact absurd rfl h2
 cases b <;> simp [behindInMarks,e1,e2]
theorem cQ (ho:je X (compareOp op) r)(ha:PE X a ta)(hb:PE X b tb)(hm:behindInMarks op b=false):PE X (.Compare a [op] [b] pos) (bV r ta tb):=by
 intro Ã s σ H Q I h;exact wpAny_Compare1 (Dy ha hb I h λ v u s2 x y H2 I2 rx ry q=>ho Ã s2 σ H2 x y v u Q I2 rx ry q) hm
def ES (t:TE):TT:=λ σ H Q=>t σ H λ x H'=>∃ k,x=.bl k/\Q k H'
theorem aq (ho:je X (compareOp op) r)(ha:PE X a ta)(hb:PE X b tb)(hm:behindInMarks op b=false):PT X (.Compare a [op] [b] pos) (ES (bV r ta tb)):=by
 intro Ã s σ H Q I h;refine wpAny_isTrue_Compare1 (bt (ha Ã s σ H _ I h) λ v s1 ⟨x,H1,I1,r1,q1⟩=>bt (hb Ã s1 σ H1 _ I1 q1) λ u s2 ⟨y,H2,I2,r2,q2⟩ =>
  bt (ho Ã s2 σ H2 x y v u _ I2 r1 r2 q2) λ c s3 ⟨z,H3,I3,r3,k,e,q3⟩=>?_) hm
 subst e;cases r3;exact Ň ⟨H3,I3,q3⟩
theorem mL:(sizeLine:Nat)<2^63:=by rw [Ü];decide
theorem fL (r:Vals [x] us):∃ u,us=[u]/\RelV x u:=by
 cases r with
 | cons r1 r2=>cases r2;exact⟨_,rfl,r1⟩
theorem ip (r:Vals [x,y] us):∃ u w',us=[u,w']/\RelV x u/\RelV y w':=by
 cases r with
 | cons r1 r2 =>
  cases r2 with
  | cons r3 r4=>cases r4;exact⟨_,_,rfl,r1,r3⟩
theorem nX:cU X (.builtin "abs") (λ xs H Q=>∃ i,xs=[.int i]/\Q (.int (if i<0 then -i else i)) H):=by
 intro Ã s σ H xs us Q I r h;obtain⟨i,rfl,q⟩:=h;obtain⟨u,rfl,t,rfl⟩:=fL r;exact call_abs_int λ u tk=>⟨.int (if i<0 then -i else i),H,I.tok _,⟨_,rfl⟩,q⟩
theorem tj (hc:X.calm=true):cU X (.builtin "max") (λ xs H Q=>∃ i j,xs=[.int i,.int j]/\Q (.int (if j>i then j else i)) H):=by
 intro Ã s σ H xs us Q I r h;obtain⟨i,j,rfl,q⟩:=h;obtain⟨u,w',rfl,⟨t,rfl⟩,⟨t',rfl⟩⟩:=ip r;refine max_two_ints (I.ok.hd hc) λ h' tk k=>⟨_,H,I.kept k,?_,q⟩;by_cases hj:j>i
 ·rw [Ó hj,Ó hj];exact⟨_,rfl⟩
 ·rw [Ë hj,Ë hj];exact⟨_,rfl⟩
theorem kK (hc:X.calm=true):cU X (.builtin "min") (λ xs H Q=>∃ i j,xs=[.int i,.int j]/\Q (.int (if j<i then j else i)) H):=by
 intro Ã s σ H xs us Q I r h;obtain⟨i,j,rfl,q⟩:=h;obtain⟨u,w',rfl,⟨t,rfl⟩,⟨t',rfl⟩⟩:=ip r;refine min_two_ints (I.ok.hd hc) λ h' tk k=>⟨_,H,I.kept k,?_,q⟩;by_cases hj:j<i
 ·rw [Ó hj,Ó hj];exact⟨_,rfl⟩
 ·rw [Ë hj,Ë hj];exact⟨_,rfl⟩
theorem i3:cU X (.type "int") (λ xs H Q=>(∃ i,xs=[.int i]/\Q (.int i) H)\/∃ k,xs=[.bl k]/\Q (.int (if k then 1 else 0)) H):=by
 intro Ã s σ H xs us Q I r h;rcases h with⟨i,rfl,q⟩ | ⟨k,rfl,q⟩
 ·obtain⟨u,rfl,t,rfl⟩:=fL r;exact call_int_int ⟨.int i,H,I,⟨_,rfl⟩,q⟩
 ·obtain⟨u,rfl,r1⟩:=fL r;cases r1;exact call_int_bool ⟨.int (if k then 1 else 0),H,I.tok _,⟨_,rfl⟩,q⟩
end
structure OF (h:Heap)(x dx C:Addr)(mA:cr):Prop where
 obj:h.get? x=some (PySem.W.instObj C dx)
 ns:h.Ns1 dx mA
 ne:dx≠x
theorem kq {h:Heap}(n:h.Ns1 dx mA):∃ od,h.get? dx=some od/\∀ name,PySem.W.lookIn name od=some (mA name):=by
 obtain⟨o,es,ep,ho,hd,hk,_,hm⟩:=n;refine⟨o,ho,λ name=>?_⟩;have e:=hm name;unfold nsFind findBy at e;rw [<- Array.find?_toList] at e;unfold PySem.W.lookIn;rw [hd]
 dsimp only
 split
 ·rename_i y q
  rw [q] at e;exact ą some e
 ·rename_i q
  rw [q] at e;have a:es.toList.any (·.refKey)=false:=by
   rw [List.any_eq_false];intro y hy;obtain⟨z,t,Xc⟩:=hk y (Array.mem_toList_iff.mp hy);simp [DictEntry.refKey,Xc]
  have a':¬ es.toList.any (·.refKey)=true:=by rw [a];exact Ø
  rw [Ë a'];exact ą some e
theorem OF.look (I:OF h x dx C mA):∃ od,PySem.W.InstAt h x (PySem.W.instObj C dx) C (some od)/\∀ name,PySem.W.lookIn name od=some (mA name) :=
 let ⟨od,ho,hl⟩:=kq I.ns
 ⟨od,⟨I.obj,rfl,rfl,ho⟩,hl⟩
section
variable {prog:Program}{w:World}{A:Around}{E:eE}{s:Shared}{K:PySem.W.Frag}{x dx C f:Addr}{mA:cr}{name:Str}{v:Value}
theorem zn (X:K.In s.heap)(I:OF s.heap x dx C mA)(hg:PySem.W.plainGet K C name=true)(hh:PySem.W.hasDictIn K C=true)
  (ha:PySem.W.findIn K (.ref C) name=some none) (hv:mA name=some v) (S5:PySem.W.handedIn v=true) (h:Q v { s with toks:=s.toks+1 }) :
  wpAny (model prog w) A (getAttr (.ref x) name expr) Q E s:=by
 obtain⟨od,J,hl⟩:=I.look;exact PySem.W.get_value X J (M' hg).1 (PySem.W.findObj_own hh ha rfl (by rw [hl,hv])) S5 h
theorem ud (X:K.In s.heap)(I:OF s.heap x dx C mA)(hg:PySem.W.plainGet K C name=true)
  (hf:PySem.W.findIn K (.ref C) name=some (some (.ref f))) (ht:PySem.W.isFn K (.ref f)=true) (hv:mA name=none) (h:Q (.ref f,[.ref x]) s) :
  wpAny (model prog w) A (getMethod (.ref x) name pl) Q E s:=by
 obtain⟨od,J,hl⟩:=I.look;exact PySem.W.method_fn X J (M' hg).1 (M' hg).2 hf (Ķ.mp ht) (by show(PySem.W.lookIn name od).map (·.isSome)=some false;rw [hl,hv];rfl) h
theorem xv (X:K.In s.heap)(I:OF s.heap x dx C mA)
  (hs:PySem.W.findIn K (.ref C) "__setattr__" = some (some (.builtin "object.__setattr__"))) (hp:PySem.W.plainOver K C=true) (ht:PySem.W.takerIn K C name=some none) (hh:PySem.W.hasDictIn K C=true)
  (hw:PySem.Within mA ns) (Rv:ns.length<=sizeLine)
  (h:∀ h',OF h' x dx C (λ y=>if y=name then some v else mA y)->Heap.SameBut dx s.heap h'->Q () { s with heap:=h',toks:=s.toks+2 }) :
  wpAny (model prog w) A (setAttr (.ref x) name v) Q E s:=by
 obtain⟨od,J,hl⟩:=I.look;refine PySem.W.set_plain X J hs (PySem.W.osa_open X J hp ht λ b=>?_);obtain⟨cd,hc,Qd⟩:=PySem.W.any_some hh;have hx:=I.obj;refine À (Á (À (À (wpAny_loadPart hx (À (PySem.W.Looks.here (PySem.W.looks_clsIn X hc) ?_))))));rw [Qd];refine Á (À (Á (À ?_)));refine wpAny_nsSet1 I.ns λ h' VJ VH=>?_;obtain⟨oD,esD,epD,UK,Xo,Qe⟩:=VJ.count (PySem.Within.cons name v hw);refine À (wpAny_lookBehind UK (by rw [Xo];exact pastItsLine_dict (Í Qe (by rw [ì];omega))) ?_)
 exact Á (h _ ⟨(VH.2 _ (Ne.symm I.ne)).trans I.obj,VJ,I.ne⟩ VH)
theorem vp (X:K.In s.heap)(hm:PySem.W.makesIn K C=true)
  (hi:PySem.W.findIn K (.ref C) "__init__" = some (some (.ref f))) (hf:PySem.W.typeIn K (.ref f)=some (.type "function"))
  (h:codeAny (model prog w) (A.under (.builtin "type.__call__" ⟨.ref C::vs,kw⟩)) (.call (.ref f) ⟨.ref (s.heap.objs.size+1)::vs,kw⟩) (PySem.W.InitBack (s.heap.objs.size+1) R)
   { s with heap:=(s.heap.push PySem.W.emptyDict).push (PySem.W.instObj C s.heap.objs.size) }) :
  codeAny (model prog w) A (.call (.ref C) ⟨vs,kw⟩) R s:=by
 obtain⟨hh,g,d,t,os⟩:=s;exact PySem.W.make_core (PySem.W.makes_of X hm) (PySem.W.looks_findIn X hi) (λ self=>PySem.W.bind_fn X self hf) (.inl rfl) h
end
def cq (f:Str)(v:V):List (Str × V)->List (Str × V)
 | []=>[(f,v)]
 | (g,x)::r=>if g=f then(g,v)::r else(g,x)::cq f v r
theorem gc (f g:Str)(v:V):∀ fs:List (Str × V),(cq f v fs).lookup g=if g=f then some v else fs.lookup g
 | []=>by
  show List.lookup g [(f,v)]=_;by_cases h:g=f
  ·have hb:=Ķ.mpr h;simp only [List.lookup,hb,if_pos h]
  ·have hb:=ċ.mpr h;simp only [List.lookup,hb,if_neg h]
 | (k,x)::r=>by
  have ih:=gc f g v r;rw [show cq f v ((k,x)::r)=(if k=f then(k,v)::r else(k,x)::cq f v r) from rfl]
  by_cases hk:k=f
  ·rw [Ó hk];by_cases h:g=k
   ·have hb:=Ķ.mpr h;simp only [List.lookup,hb,if_pos (h.trans hk)]
   ·have hb:=ċ.mpr h;simp only [List.lookup,hb,if_neg (λ e:g=f=>h (e.trans hk.symm))]
  ·rw [Ë hk];by_cases h:g=k
   ·have hb:=Ķ.mpr h;simp only [List.lookup,hb,if_neg (λ e:g=f=>hk (h.symm.trans e))]
   ·have hb:=ċ.mpr h;simp only [List.lookup,hb];exact ih
theorem iS (f:Str)(v:V):∀ fs:List (Str × V),f∈(cq f v fs).map (·.1)/\∀ g,g∈fs.map (·.1)->g∈(cq f v fs).map (·.1)
 | []=>⟨by simp [cq],λ g h=>by simp at h⟩
 | (k,x)::r=>by
  obtain⟨i1,i2⟩:=iS f v r;rw [show cq f v ((k,x)::r)=(if k=f then(k,v)::r else(k,x)::cq f v r) from rfl]
  by_cases hk:k=f
  ·rw [Ó hk];subst hk;exact⟨by simp,λ g h=>by simpa using h⟩
  ·rw [Ë hk];refine⟨?_,λ g h=>?_⟩
   ·rw [Ú];exact Ï _ i1
   ·rw [Ú] at h ⊢;rcases é.mp h with e | e
    ·exact é.mpr (.inl e)
    ·exact Ï _ (i2 g e)
theorem i9 (f:Str)(v:V):∀ fs:List (Str × V),(cq f v fs).length<=fs.length+1
 | []=>by simp [cq]
 | (k,x)::r=>by
  have ih:=i9 f v r;rw [show cq f v ((k,x)::r)=(if k=f then(k,v)::r else(k,x)::cq f v r) from rfl]
  by_cases hk:k=f
  ·rw [Ó hk,ì,ì];omega
  ·rw [Ë hk,ì,ì];omega
theorem ζ.some_of (r:ζ (some v) o):∃ u,o=some u/\RelV v u:=by
 cases o with
 | none=>exact(show False from r).elim
 | some u=>exact⟨u,rfl,r⟩
theorem ζ.none_of (r:ζ none o):o=none:=by
 cases o with
 | none=>rfl
 | some u=>exact(show False from r).elim
theorem tK (r:RelV v u):PySem.W.handedIn u=true:=by
 cases v with
 | Ă=>cases (show u=.none from r);rfl
 | bl b=>cases (show u=Value.bool b from r);rfl
 | int i=>obtain⟨t,e⟩:=(show ∃ t,u=.int i t from r);cases e;rfl
 | str x=>obtain⟨t,e⟩:=(show ∃ t,u=.str x t from r);cases e;rfl
 | Pl b=>obtain⟨t,e⟩:=(show ∃ t,u=Value.bytes b t from r);cases e;rfl
 | Qh b=>obtain⟨t,e⟩:=(show ∃ t,u=Value.float b t from r);cases e;rfl
 | ref a=>cases (show u=.ref a from r);rfl
 | ty n=>cases (show u=Value.type n from r);rfl
section
variable {P:Program}{w:World}{H H':Hp}{h h':Heap}{a C dx:Addr}{fs fs':List (Str × V)}
theorem ic (Č:η P w H h)(e:H a=some (.ins C dx fs)):∃ mA,OF h a dx C mA/\(∀ f,ζ (fs.lookup f) (mA f))/\PySem.Within mA (fs.map (·.1))/\fs.length<=1000/\H dx=some (.own a):=by
 obtain⟨d,z,ne,ob,mA,n,r,q⟩:=(show ă P w H h a (.ins C dx fs) from Č a _ e);exact⟨mA,⟨ob,n,ne⟩,r,q,z,d⟩
end
structure Ql (K:PySem.W.Frag)(C:Addr):Prop where
 pg:PySem.W.plainGet K C Str.empty=true
 hd:PySem.W.hasDictIn K C=true
 po:PySem.W.plainOver K C=true
 sa:PySem.W.findIn K (.ref C) "__setattr__" = some (some (.builtin "object.__setattr__"))
theorem Ql.get {K:PySem.W.Frag}(c:Ql K C)(f:Str):PySem.W.plainGet K C f=true:=c.pg
def ω (K:PySem.W.Frag)(C:Addr)(f:Str):Prop:=PySem.W.findIn K (.ref C) f=some none
theorem ω.Tp {K:PySem.W.Frag}(n:ω K C f):PySem.W.takerIn K C f=some none:=by
 unfold PySem.W.takerIn;rw [show PySem.W.findIn K (.ref C) f=some none from n];rfl
structure Ih (K:PySem.W.Frag)(C:Addr)(m:Str)(f:Addr):Prop where
 at_:PySem.W.findIn K (.ref C) m=some (some (.ref f))
 fn:PySem.W.isFn K (.ref f)=true
 kp:PySem.W.keepIn K (.ref f)=true
section
variable {X:Cx}{Ã:List (Addr × Obj)}{σ:St}{H:Hp}{s:Shared}{a C dx:Addr}{fs:List (Str × V)}{f:Str}{v:V}{A:Around}{E:eE}
theorem qc (I:Inv X Ã σ H s)(e:H a=some (.ins C dx fs))(c:Ql X.K C)(n:ω X.K C f)(l:fs.lookup f=some v)
  (h:∀ u s',Inv X Ã σ H s'->RelV v u->Q u s'):wpAny (model X.prog X.w) A (getAttr (.ref a) f b) Q E s:=by
 obtain⟨mA,O,r,_,_,_⟩:=ic I.Č e;obtain⟨u,hu,ru⟩:=ζ.some_of (by rw [<- l];exact r f)
 exact zn I.Š O (c.get f) c.hd n hu (tK ru) (h u _ (I.tok _) ru)
theorem jG (I:Inv X Ã σ H s)(e:H a=some (.ins C dx fs))(c:Ql X.K C)(k:Ih X.K C m g)(l:fs.lookup m=none)
  (h:Q (.ref g,[.ref a]) s):wpAny (model X.prog X.w) A (getMethod (.ref a) m pl) Q E s:=by
 obtain⟨mA,O,r,_,_,_⟩:=ic I.Č e;have hn:=ζ.none_of (by rw [<- l];exact r m)
 exact ud I.Š O (c.get m) k.at_ k.fn hn h
theorem pE (I:Inv X Ã σ H s)(e:H a=some (.ins C dx fs))(c:Ql X.K C)(n:ω X.K C f)(hl:fs.length<1000)(ry:RelV y u)
  (h:∀ s',Inv X Ã σ (aj H a (.ins C dx (cq f y fs))) s'->Q () s'):wpAny (model X.prog X.w) A (setAttr (.ref a) f u) Q E s:=by
 obtain⟨mA,O,r,wi,_,ho⟩:=ic I.Č e;have hz:(fs.map (·.1)).length<=sizeLine:=by rw [Ä,Ü];omega
 refine xv I.Š O c.sa c.po n.Tp c.hd wi hz λ h' O' sb=>h _ ?_;have hd:∃ o,h'.get? dx=some o:=let ⟨o,_,_,e',_⟩:=O'.ns;⟨o,e'⟩
 refine I.write (x:=a) (by rw [e];exact True.intro) (.inr ho) (λ b q hb z=>(sb.2 b hb).trans z) hd ?_
 refine⟨by rw [ad O.ne];exact ho,?_,O.ne,O'.obj,_,O'.ns,λ g=>?_,λ g hg=>?_⟩
 ·have:=i9 f y fs;omega
 ·rw [gc];by_cases q:g=f
  ·rw [Ó q,Ó q];exact ry
  ·rw [Ë q,Ë q];exact r g
 ·by_cases q:g=f
  ·rw [q];exact(iS f y fs).1
  ·refine(iS f y fs).2 g (wi g λ z=>hg ?_);show(if g=f then some u else mA g)=none
   rw [Ë q];exact z
theorem Inv.made (I:Inv X Ã σ H s):Inv X Ã σ (aj (aj H s.heap.objs.size (.own (s.heap.objs.size+1))) (s.heap.objs.size+1) (.ins C s.heap.objs.size []))
  { s with heap:=(s.heap.push PySem.W.emptyDict).push (PySem.W.instObj C s.heap.objs.size) }:=by
 have e1:(s.heap.push PySem.W.emptyDict).get? s.heap.objs.size=some PySem.W.emptyDict:=Î s.heap rfl;have e2:((s.heap.push PySem.W.emptyDict).push (PySem.W.instObj C s.heap.objs.size)).get? (s.heap.objs.size+1)=some (PySem.W.instObj C s.heap.objs.size):=by
  have:=Î (s.heap.push PySem.W.emptyDict) (o:=PySem.W.instObj C s.heap.objs.size) rfl
  rwa [Ĕ] at this
 have e3:(s.heap.push PySem.W.emptyDict).Ns s.heap.objs.size (λ _=>none):=⟨PySem.W.emptyDict,#[],_,e1,rfl,(λ e he=>absurd he (by simp)),λ _=>rfl⟩
 have I1:=I.laid (a:=s.heap.objs.size) (o:=.own (s.heap.objs.size+1)) (h':=s.heap.push PySem.W.emptyDict) (t':=s.toks) (λ b u q=>Â _ q) (Æ _) ⟨_,e1⟩;refine I1.laid (λ b u q=>Â _ q) (γ (Ĕ _ _)) ?_;have ne:s.heap.objs.size≠s.heap.objs.size+1:=ê (Nat.lt_succ_self _);refine⟨by rw [ad ne,be],Đ _,ne,e2,λ _=>none,(Heap.Ns1.of_empty e3).at λ o q=>Â _ q,λ _=>True.intro,λ y hy=>absurd rfl hy⟩
theorem xY (hb:attributeBase e f env (eval e env)=eval e env)
  (h:wpAny (model prog w) A (eval e env) (λ o ġ=>wpAny (model prog w) A (getAttr o f true) Q E ġ) E s):wpAny (model prog w) A (eval (.Attribute e f pos) env) Q E s :=
 Attribute_any_ h (by rw [arm_eval_Attribute,hb])
end
def jo (K:PySem.W.Frag)(ta:TE)(f:Str):TE:=λ σ H Q=>ta σ H λ x H1=>∃ a C dx fs v,x=.ref a/\H1 a=some (.ins C dx fs)/\Ql K C/\ω K C f/\fs.lookup f=some v/\Q v H1
def Gn (K:PySem.W.Frag)(ta tv:TE)(f:Str):TS:=λ D σ H=>tv σ H λ y H1=>ta σ H1 λ x H2=>∃ a C dx fs,x=.ref a/\H2 a=some (.ins C dx fs)/\Ql K C/\ω K C f/\fs.length<1000 /\
 D.nx σ (aj H2 a (.ins C dx (cq f y fs)))
section
variable {X:Cx}{o e value:Expr}{f:Str}{pos pos' Wi:Pos}{ta tv:TE}
theorem og (he:PE X e ta)(hb:attributeBase e f X.env (eval e X.env)=eval e X.env):PE X (.Attribute e f pos) (jo X.K ta f):=by
 intro Ã s σ H Q I h;refine xY hb (bt (he Ã s σ H _ I h) λ u s1 ⟨x,H1,I1,rx,a,C,dx,fs,v,ex,ea,c,n,l,q⟩=>?_);subst ex;obtain rfl:u=.ref a:=rx;exact qc I1 ea c n l λ u' s2 I2 ru=>⟨v,H1,I2,ru,q⟩
theorem fK (ha:PE X o ta)(hv:PE X value tv)(hs:swapsWith value (some (.Attribute o f pos')) pos.line X.env=pure false):PS X (.Assign [.Attribute o f pos'] value pos) (Gn X.K ta tv f):=by
 intro Ã s σ H D I h;refine Qm (bt (hv Ã s σ H _ I h) λ u s1 ⟨y,H1,I1,ry,q⟩=>bt (ha Ã s1 σ H1 _ I1 q) λ ov s2 ⟨x,H2,I2,rx,a,C,dx,fs,ex,ea,c,n,l,q2⟩=>?_) hs;subst ex;obtain rfl:ov=.ref a:=rx;exact pE I2 ea c n l ry λ s3 I3=>⟨σ,_,I3,q2⟩
end
section
variable {X:Cx}{Ã:List (Addr × Obj)}{σ:St}{H:Hp}{s:Shared}{A:Around}{E:eE}{Q:eE}{c:Value}{b:Bool}
inductive ŭ (K:PySem.W.Frag)(H:Hp):V->Value->Prop where
 | Ă:ŭ K H .Ă (.type "NoneType")
 | bl (x:Bool):ŭ K H (.bl x) (.type "bool")
 | int (i:Int):ŭ K H (.int i) (.type "int")
 | str (x:Str):ŭ K H (.str x) (.type "str")
 | Qh (x:UInt64):ŭ K H (.Qh x) (.type "float")
 | lst {a:Addr} {xs:List V} (e:H a=some (.lst xs)):ŭ K H (.ref a) (.type "list")
 | Ŭ {a:Addr} {o:Obj} {xs:List V} (e:H a=some (.Ŭ o (.lst xs))):ŭ K H (.ref a) (.type "list")
 | tup {a:Addr} {xs:List V} (e:H a=some (.tup xs)):ŭ K H (.ref a) (.type "tuple")
 | dK {a:Addr} {ï:List (Key × V)} (e:H a=some (.dK ï)):ŭ K H (.ref a) (.type "dict")
 | dT {a:Addr} {ï:List (List NK × V)} (e:H a=some (.dT ï)):ŭ K H (.ref a) (.type "dict")
 | ins {a C dx:Addr} {fs:List (Str × V)} (e:H a=some (.ins C dx fs)) (cl:Ql K C) (ha:PySem.W.findIn K (.ref C) "__class__" = some (some (.builtin "object.__class__")))
   (hn:PySem.W.specialIn K (.builtin "object.__class__") "__get__" = some (some (.builtin "getset_descriptor.__get__"))) (OX:PySem.W.takesIn K (.builtin "object.__class__")=some true)
   (hm:PySem.W.mroIn K C (.type "object")=some true):ŭ K H (.ref a) (.ref C)
theorem kZ (I:Inv X Ã σ H s)(rx:RelV x u)(ty:ŭ X.K H x t)(e:PySem.W.kitOne X.K t c=some b)(h:∀ tk,Q (.bool b) { s with toks:=tk }) :
  wpAny (model X.prog X.w) A (call (.builtin "isinstance") [u,c]) Q E s:=by
 cases ty with
 | Ă=>cases (show u=.none from rx);exact ĝ PySem.W.kitx_none I.Š True.intro e (λ z=>nomatch z) h
 | bl y=>cases (show u=Value.bool y from rx);exact ĝ PySem.W.kitx_bool I.Š True.intro e (λ z=>nomatch z) h
 | int i=>obtain⟨t,q⟩:=(show ∃ t,u=.int i t from rx);cases q;exact ĝ PySem.W.kitx_int I.Š True.intro e (λ z=>nomatch z) h
 | str y=>obtain⟨t,q⟩:=(show ∃ t,u=.str y t from rx);cases q;exact ĝ PySem.W.kitx_str I.Š True.intro e (λ z=>nomatch z) h
 | Qh y=>obtain⟨t,q⟩:=(show ∃ t,u=Value.float y t from rx);cases q;exact ĝ PySem.W.kitx_float I.Š True.intro e (λ z=>nomatch z) h
 | @lst a xs ea =>
  cases (show u=.ref a from rx);obtain⟨_,_,n,_,h1⟩:=(show ă X.prog X.w H s.heap a (.lst xs) from I.Č a _ ea);exact ĝ c_ I.Š ⟨_,h1,rfl⟩ e (λ z=>nomatch z) h
 | @Ŭ a ob xs ea =>
  cases (show u=.ref a from rx);obtain⟨_,_,_,n,_,h1⟩:=(show ă X.prog X.w H s.heap a (.Ŭ ob (.lst xs)) from I.Č a _ ea);exact ĝ c_ I.Š ⟨_,h1,rfl⟩ e (λ z=>nomatch z) h
 | @tup a xs ea =>
  cases (show u=.ref a from rx);obtain⟨_,_,_,p⟩:=(show ă X.prog X.w H s.heap a (.tup xs) from I.Č a _ ea);obtain⟨o,h1,h2,_⟩:=p;exact ĝ PySem.W.kitx_tuple I.Š ⟨o,h1,h2⟩ e (λ z=>nomatch z) h
 | @dK a ï ea =>
  cases (show u=.ref a from rx);obtain⟨_,_,vs,_,p⟩:=(show ă X.prog X.w H s.heap a (.dK ï) from I.Č a _ ea);obtain⟨o,es,ep,h1,h2,_⟩:=p;exact ĝ d_ I.Š ⟨o,h1,h2.1⟩ e (λ z=>nomatch z) h
 | @dT a ï ea =>
  cases (show u=.ref a from rx);obtain⟨_,_,xs,_,o,es,ep,h1,h2,_⟩:=(show ă X.prog X.w H s.heap a (.dT ï) from I.Č a _ ea);exact ĝ d_ I.Š ⟨o,h1,h2.1⟩ e (λ z=>nomatch z) h
 | @ins a C dx fs ea cl ha hn OX hm =>
  cases (show u=.ref a from rx);obtain⟨mA,O,_⟩:=ic I.Č ea;obtain⟨od,J,_⟩:=O.look;exact ĝ (PySem.W.kitx_own (cl.get _) cl.hd ha hn OX hm) I.Š J e (λ z=>nomatch z) h
end
structure ć (k:Nat)(A:Around):Prop where
 hd:A.handled=none
 dp:A.depth+3*k+5<recursionLimit
 un:A.units+16*k+200<cLine
 gd:A.guards=some []
theorem ć.mono (r:ć k A)(h:j<=k):ć j A:=⟨r.hd,by have:=r.dp;omega,by have:=r.un;omega,r.gd⟩
theorem ć.deeper (r:ć (k+1) A)(env:Env):ć k (A.deeper env) :=
 ⟨r.hd,by have:=r.dp;show A.depth+1+3*k+5<_;omega,by have:=r.un;show A.units+3+16*k+200<_;omega,r.gd⟩
theorem pP {A:Around}:(A.under (.builtin "type.__call__" ⟨.ref C::us,kw⟩)).depth=A.depth+1:=by
 first | rfl | simp [Around.under,Code.weight,Code.isCreation,Code.isGuard,Code.isCaller,Code.frames,Code.isFrame,guardIds]
theorem qB {A:Around}:(A.under (.builtin "type.__call__" ⟨.ref C::us,kw⟩)).units=A.units+1:=by
 first | rfl | simp [Around.under,Code.cUnits,Code.frames,Code.isFrame]
theorem ć.make (r:ć (k+1) A)(C:Addr)(us:List Value)(kw:List (Str × Value)):ć k (A.under (.builtin "type.__call__" ⟨.ref C::us,kw⟩)) :=
 ⟨r.hd,by have:=r.dp;rw [pP];omega,by have:=r.un;rw [qB];omega,by have h:=r.gd;first | (simp only [Around.under];rw [h];rfl) | simp [Around.under,h,pushGuards,Code.guards,Code.isGuard,guardIds]⟩
theorem ć.depth (r:ć k A):A.depth<recursionLimit:=by have:=r.dp;omega
theorem ć.units (r:ć k A):A.units+64<cLine:=by have:=r.un;omega
def aF:TA:=λ _ H Q=>Q [] H
def ao (ta:TE)(tr:TA):TA:=λ σ H Q=>ta σ H λ x H1=>tr σ H1 λ xs H2=>Q (x::xs) H2
section
variable {X:Cx}{e:Expr}{es:List Expr}{te:TE}{t:TA}{pos:Pos}
theorem ar:PA X [] aF:=λ _ _ _ _ H Q I h=>Calls.spliced_nil ⟨[],H,I,.nil,h⟩
theorem ac (ha:PE X e te)(hr:PA X es t)(hs:starEach (e::es) X.env=(false,eval e X.env)::starEach es X.env:=by rfl):PA X (e::es) (ao te t):=by
 intro pos Ã s σ H Q I h;rw [hs];refine O_ (bt (ha Ã s σ H _ I h) λ u s1 ⟨x,H1,I1,r1,q1⟩=>?_);exact bt (hr pos Ã s1 σ H1 _ I1 q1) λ us s2 ⟨xs,H2,I2,r2,q2⟩=>⟨x::xs,H2,I2,.cons r1 r2,q2⟩
def cz (t:TA):TE:=λ σ H Q=>t σ H λ xs H1=>xs.length<=sizeLine/\∀ p,H1 p=none->Q (.ref p) (aj H1 p (.tup xs))
def cv (t:TA):TE:=λ σ H Q=>t σ H λ xs H1=>xs.length<=sizeLine/\∀ p,H1 p=none->Q (.ref p) (aj H1 p (.lst xs))
theorem aP {x1}(h:PA X es t):PE X (.Tuple es x1 pos) (cz t):=by
 intro Ã s σ H Q I hq;refine wpAny_Tuple_spliced (bt (h pos Ã s σ H _ I hq) λ us s1 ⟨xs,H1,I1,r,z,q⟩=>⟨by rw [<- r.length];exact z,?_⟩)
 have hf:=I1.Č.fresh (Æ _);refine⟨.ref s1.heap.objs.size,aj H1 s1.heap.objs.size (.tup xs),I1.laid (λ b u e=>Â _ e) (Æ _) ?_,rfl,q _ hf⟩;exact⟨z,us,r,⟨_,Î _ rfl,rfl,_,rfl⟩⟩
theorem cF (h:PA X es t):PE X (.List es pos) (cv t):=by
 intro Ã s σ H Q I hq;refine wpAny_List_spliced (bt (h pos Ã s σ H _ I hq) λ us s1 ⟨xs,H1,I1,r,z,q⟩=>⟨by rw [<- r.length];exact z,?_⟩)
 have hf:=I1.Č.fresh (Æ _);refine⟨.ref s1.heap.objs.size,aj H1 s1.heap.objs.size (.lst xs),I1.laid (λ b u e=>Â _ e) (Æ _) ?_,rfl,q _ hf⟩;exact⟨z,us,0,r,Î _ rfl⟩
end
abbrev Sp:=List V->Hp->VK->XK->Prop
abbrev pB:=List Env->Hp->Shared->XK->Value->Shared->Prop
structure OI (P:Program)(w:World)(K:PySem.W.Frag)(mg:cr)(base:Heap)(A:Around)(outer:List Env)(s:Shared)(H:Hp):Prop where
 frames:A.frames=some outer
 mod:Mod K mg base
 bs:∀ b o,base.get? b=some o->s.heap.get? b=some o/\H b=none
 QW:base.objs.size<=s.heap.objs.size
 Mw:s.heap.FunFrames base outer
 SH:∀ b∈mj outer,H b=none
 Č:η P w H s.heap
 bare:AllBare s.gens
def CE (outer:List Env)(P:Program)(w:World)(H:Hp)(s:Shared)(Q:VK)(u:Value)(s':Shared):Prop :=
 ∃ v H',s'.os=s.os/\AllBare s'.gens/\Un (mj outer) [] H H' s.heap s'.heap/\η P w H' s'.heap/\RelV v u/\Q v H'
def CR (CX:pB)(outer:List Env)(P:Program)(w:World)(H:Hp)(s:Shared)(Q:VK)(E:XK)(r:Result)(s':Shared):Prop :=
 match r with
 | .ok (.ret u)=>CE outer P w H s Q u s'
 | .ok _=>False
 | .error e=>CX outer H s E e s'
structure í (P:Program)(w:World)(K:PySem.W.Frag)(mg:cr)(base:Heap)(CX:pB)(k:Nat)(f:Addr)(fd:FuncData)(ps:List Str)(sp:Sp):Prop where
 len:∀ vs H Q E,sp vs H Q E->vs.length=ps.length
 run:∀(A:Around)(outer:List Env)(s:Shared)(H:Hp)(args:Args)(us:List Value)(vs:List V)(Q:VK)(E:XK),ć k A->OI P w K mg base A outer s H->BindsTo s fd args (ps.zip us)->Vals vs us->sp vs H Q E ->
  codeAny (model P w) A (.call (.ref f) args) (CR CX outer P w H s Q E) s
theorem í.mono {K:PySem.W.Frag}(F:í P w K mg base CX j f fd ps sp)(h:j<=k) :
  í P w K mg base CX k f fd ps sp:=⟨F.len,λ A outer s H args us vs Q E hr=>F.run A outer s H args us vs Q E (hr.mono h)⟩
theorem í.imp {K:PySem.W.Frag}(F:í P w K mg base CX k f fd ps sp)
  (h:∀ vs H Q E,sp' vs H Q E->sp vs H Q E):í P w K mg base CX k f fd ps sp' :=
 ⟨λ vs H Q E q=>F.len vs H Q E (h _ _ _ _ q),λ A outer s H args us vs Q E hr he hb hv hs=>F.run A outer s H args us vs Q E hr he hb hv (h _ _ _ _ hs)⟩
theorem OI.make {K:PySem.W.Frag}(e:OI P w K mg base A outer s H)(C:Addr)(us:List Value)(kw:List (Str × Value)) :
  OI P w K mg base (A.under (.builtin "type.__call__" ⟨.ref C::us,kw⟩)) outer s H:=⟨by first | exact e.frames | (simpa [Around.under,Code.envs,Code.isFrame,pushEnvs] using e.frames),e.mod,e.bs,e.QW,e.Mw,e.SH,e.Č,e.bare⟩
section
variable {X:Cx}{Ã:List (Addr × Obj)}{σ:St}{H:Hp}{s s':Shared}
theorem Inv.SJ (I:Inv X Ã σ H s):OI X.prog X.w X.K X.mg X.base X.A X.stack s H :=
 ⟨I.ok.frames,I.ok.mod,I.bs,Í I.ok.QW I.sz,I.stack,I.NH,I.Č,I.bare⟩
theorem Inv.after (I:Inv X Ã σ H s)(h:CE X.stack X.prog X.w H s Q u s'):EP X Ã σ Q u s':=by
 obtain⟨v,H',os,bare,un,Č,r,q⟩:=h;obtain⟨hh,g,d,t,ı⟩:=s';obtain rfl:ı = s.os:=os;exact⟨v,H',I.call un Č bare (λ b z=>absurd z (by simp)),r,q⟩
end
def cC (sp:Sp)(On:List V)(E:XK)(t:TA):TE:=λ σ H Q=>t σ H λ vs H1=>sp (vs++On) H1 Q E
def gh (C:Addr)(sp:Sp)(On:List V)(E:XK)(t:TA):TE:=λ σ H Q=>t σ H λ vs H1=>∀ x dx,H1 x=none->H1 dx=none->dx≠x ->
 sp (.ref x::(vs++On)) (aj (aj H1 dx (.own x)) x (.ins C dx [])) (λ v H2=>v=.Ă/\Q (.ref x) H2) E
def Binds (K:PySem.W.Frag)(fd:FuncData)(ps:List Str)(ds:List Value):Prop :=
 ∀(s:Shared)(us:List Value),K.In s.heap->(us++ds).length=ps.length->BindsTo s fd ⟨us,[]⟩ (ps.zip (us++ds))
theorem Binds.all {K:PySem.W.Frag}(h:∀ us:List Value,us.length=ps.length->bindArgs fd ⟨us,[]⟩=pure (ps.zip us)):Binds K fd ps []:=λ s us _ hl=>by
 rw [Ī] at hl ⊢;exact .of_eq (h us hl)
def eO (CX:pB)(X:Cx)(E:XK):Prop:=∀(Ã:List (Addr × Obj))(σ:St)(H:Hp)(s:Shared)(e:Value)(s':Shared),Inv X Ã σ H s->CX X.stack H s E e s'->X.xe e s'
section
variable {X:Cx}{CX:pB}{k:Nat}{f C:Addr}{fd:FuncData}{ps:List Str}{sp:Sp}{On:List V}{ds:List Value}{E:XK}{x m:Str}{p pos ő:Pos}{e o:Expr}{es:List Expr}{ta:TE}{t:TA}
theorem lV (F:í X.prog X.w X.K X.mg X.base CX k f fd ps sp)(hr:ć k X.A)(hb:Binds X.K fd ps ds)(hd:Vals On ds)(hx:eO CX X E)
  (I:Inv X Ã σ H s) (r:Vals vs us) (h:sp (vs++On) H Q E):wpAny (model X.prog X.w) X.A (call (.ref f) us) (EP X Ã σ Q) X.xe s:=by
 have r2:=r.append hd;have hl:(us++ds).length=ps.length:=by rw [<- r2.length];exact F.len _ _ _ _ h
 refine n_ (Β (F.run X.A X.stack s H ⟨us,[]⟩ (us++ds) (vs++On) Q E hr I.SJ (hb s us I.Š hl) r2 h) λ r s' hq=>?_);cases r with
 | error e=>exact hx Ã σ H s e s' I hq
 | ok fl =>
  cases fl with
  | ret u=>exact I.after hq
  | next=>exact False.elim hq
  | brk=>exact False.elim hq
  | cont=>exact False.elim hq
theorem i8 (F:í X.prog X.w X.K X.mg X.base CX k f fd ps sp)(hr:ć k X.A)(hg:Gl X x)(hm:X.mg x=some (.ref f))(hk:PySem.W.keepIn X.K (.ref f)=true)(hb:Binds X.K fd ps ds)(hd:Vals On ds)(hx:eO CX X E)
  (ha:PA X (e::es) t) (No:(x==("__debug__" : Str))=false:=by decide) (he:starEach (e::es) X.env=(false,eval e X.env)::starEach es X.env:=by rfl) (I_:(backTo pos (starEach es X.env)).any (·.1)=false:=by rfl) :
  PE X (.Call (.Name x p) (e::es) [] pos) (cC sp On E t):=by
 intro Ã s σ H Q I h;refine Ŵ (gE I hg hm ?_ No);refine Ũ I.ok.mod.Sv hk (bt (ha pos Ã s σ H _ I h) λ us s1 ⟨vs,H1,I1,r,q⟩=>⟨I1.Š,?_⟩) he I_;exact lV F hr hb hd hx I1 r q
structure Mk (K:PySem.W.Frag)(C f:Addr):Prop where
 makes:PySem.W.makesIn K C=true
 init:PySem.W.findIn K (.ref C) "__init__" = some (some (.ref f))
 fn:PySem.W.isFn K (.ref f)=true
 kp:PySem.W.keepIn K (.ref C)=true
theorem vS (M:Mk X.K C f)(F:í X.prog X.w X.K X.mg X.base CX k f fd ps sp)(hr:ć (k+1) X.A)(hb:Binds X.K fd ps ds)(hd:Vals On ds)
  (hx:eO CX X E) (I:Inv X Ã σ H s) (r:Vals vs us)
  (h:∀ x dx,H x=none->H dx=none->dx≠x->sp (.ref x::(vs++On)) (aj (aj H dx (.own x)) x (.ins C dx [])) (λ v H2=>v=.Ă/\Q (.ref x) H2) E) :
  wpAny (model X.prog X.w) X.A (call (.ref C) us) (EP X Ã σ Q) X.xe s:=by
 have hq:=h (s.heap.objs.size+1) s.heap.objs.size (I.Č.fresh (OM _)) (I.Č.fresh (Æ _)) (ê (Nat.lt_succ_self _));have I2:=Inv.made (C:=C) I;have r2:Vals (V.ref (s.heap.objs.size+1)::(vs++On)) (Value.ref (s.heap.objs.size+1)::(us++ds)):=.cons rfl (r.append hd);have hl:(.ref (s.heap.objs.size+1)::us++ds).length=ps.length:=by
  have e:=r2.length;rw [F.len _ _ _ _ hq] at e;exact e.symm
 refine n_ (vp I.Š M.makes M.init (Ķ.mp M.fn) (Β (F.run _ X.stack _ _ ⟨.ref (s.heap.objs.size+1)::us,[]⟩ (.ref (s.heap.objs.size+1)::(us++ds)) _ _ E (hr.make C us [])
  (I2.SJ.make C us []) (hb _ (.ref (s.heap.objs.size+1)::us) I2.Š hl) r2 hq) λ r s' Pg=>?_))
 cases r with
 | error e=>exact hx Ã σ _ _ e s' I2 Pg
 | ok fl =>
  cases fl with
  | ret u =>
   obtain⟨v,H',I3,rv,ev,q3⟩:=I2.after Pg;subst ev;exact⟨rv,⟨.ref (s.heap.objs.size+1),H',I3,rfl,q3⟩⟩
  | next=>exact False.elim Pg
  | brk=>exact False.elim Pg
  | cont=>exact False.elim Pg
theorem iA (M:Mk X.K C f)(F:í X.prog X.w X.K X.mg X.base CX k f fd ps sp)(hr:ć (k+1) X.A)(hg:Gl X x)(hm:X.mg x=some (.ref C))(hb:Binds X.K fd ps ds)(hd:Vals On ds)(hx:eO CX X E)
  (ha:PA X (e::es) t) (No:(x==("__debug__" : Str))=false:=by decide) (he:starEach (e::es) X.env=(false,eval e X.env)::starEach es X.env:=by rfl) (I_:(backTo pos (starEach es X.env)).any (·.1)=false:=by rfl) :
  PE X (.Call (.Name x p) (e::es) [] pos) (gh C sp On E t):=by
 intro Ã s σ H Q I h;refine Ŵ (gE I hg hm ?_ No);refine Ũ I.ok.mod.Sv M.kp (bt (ha pos Ã s σ H _ I h) λ us s1 ⟨vs,H1,I1,r,q⟩=>⟨I1.Š,?_⟩) he I_;exact vS M F hr hb hd hx I1 r q
end
structure ai (N P:List Str)(sc:Scope):Prop where
 kind:sc.kind=.function
 co:sc.isCoroutine=false
 gen:sc.isGenerator=false
 nd:N.Nodup
 pre:N.take P.length=P
 par:∀ x∈P,sc.names.lookup x=some .local\/sc.names.lookup x=some .cell
 OA:∀ y∈sc.names,y.2 ≠ .free
theorem bc {N P:List Str}{sc:Scope}(a:sc.kind=.function:=by rfl)(b:sc.isCoroutine=false:=by rfl)(c:sc.isGenerator=false:=by rfl)(d:N.Nodup:=by decide +kernel)(e:N.take P.length=P:=by rfl)(f:∀ x∈P,sc.names.lookup x=some .local\/sc.names.lookup x=some .cell:=by decide +kernel)(g:∀ y∈sc.names,y.2 ≠ .free:=by decide +kernel):ai N P sc:=⟨a,b,c,d,e,f,g⟩
theorem kM {kindOf:Str->Option NameKind}:∀{binds:List (Str × Value)}{m:cr},(∀ v,(x,v) ∉ binds)->bindL kindOf binds m x=m x
 | [],_,_=>rfl
 | (n,v)::r,m,h=>by
  unfold bindL;rw [kM λ w hw=>h w (Ï _ hw)];split
  ·have:x≠n:=by rintro rfl;exact h v Ö
   simp [this]
  ·rfl
theorem kQ {kindOf:Str->Option NameKind}:∀{binds:List (Str × Value)}{m:cr},(∀ v,(x,v) ∉ binds)->bindC kindOf binds m x=m x
 | [],_,_=>rfl
 | (n,v)::r,m,h=>by
  unfold bindC;rw [kQ λ w hw=>h w (Ï _ hw)];split
  ·rfl
  ·have:x≠n:=by rintro rfl;exact h v Ö
   simp [this]
theorem kJ {kindOf:Str->Option NameKind}:∀{P:List Str}{vs:List Value}{i:Nat}{m:cr},P.Nodup->P[i]?=some x->vs[i]?=some v->kindOf x=some .local ->
  bindL kindOf (P.zip vs) m x=some v
 | [],_,_,_,_,h,_,_=>by simp at h
 | _::_,[],_,_,_,_,h,_=>by simp at h
 | p::P,w::vs,0,m,nd,h1,h2,hk=>by
  simp at h1 h2;subst h1;subst h2;show bindL kindOf ((p,w)::P.zip vs) m p=_;unfold bindL;rw [kM λ v hv=>(Ğ.mp nd).1 (O8 hv).1,Ó hk];simp
 | p::P,w::vs,i+1,m,nd,h1,h2,hk=>by
  show bindL kindOf ((p,w)::P.zip vs) m x=_;exact kJ (Ğ.mp nd).2 (by simpa using h1) (by simpa using h2) hk
theorem ky {kindOf:Str->Option NameKind}:∀{P:List Str}{vs:List Value}{i:Nat}{m:cr},P.Nodup->P[i]?=some x->vs[i]?=some v->kindOf x≠some .local ->
  bindC kindOf (P.zip vs) m x=some v
 | [],_,_,_,_,h,_,_=>by simp at h
 | _::_,[],_,_,_,_,h,_=>by simp at h
 | p::P,w::vs,0,m,nd,h1,h2,hk=>by
  simp at h1 h2;subst h1;subst h2;show bindC kindOf ((p,w)::P.zip vs) m p=_;unfold bindC;rw [kQ λ v hv=>(Ğ.mp nd).1 (O8 hv).1,Ë hk];simp
 | p::P,w::vs,i+1,m,nd,h1,h2,hk=>by
  show bindC kindOf ((p,w)::P.zip vs) m x=_;exact ky (Ğ.mp nd).2 (by simpa using h1) (by simpa using h2) hk
def gp (N:List Str)(vs:List V):St:=vs.map some++List.replicate (N.length-vs.length) none
def bR (CX:pB)(P:Program)(w:World)(K:PySem.W.Frag)(mg:cr)(base:Heap)(N:List Str)(qual:Str)(scope:Scope)(f:Addr)(cd:Value)(A:Around)(outer:List Env)(s:Shared)(H:Hp)(E:XK):Cx where
 prog:=P
 w:=w
 K:=K
 mg:=mg
 base:=base
 A:=A.deeper (envOfC qual scope s.heap.objs.size f cd)
 N:=N
 ŝ:=s
 OH:=H
 env:=envOfC qual scope s.heap.objs.size f cd
 outer:=outer
 stack:=envOfC qual scope s.heap.objs.size f cd::outer
 ex:=[]
 calm:=true
 fn:=λ _=>true
 pn:=[]
 xe:=λ e s'=>wpAny (model P w) (A.deeper (envOfC qual scope s.heap.objs.size f cd)) (leaving (envOfC qual scope s.heap.objs.size f cd) e) (λ _ Rg=>CX outer H s E e Rg) (λ e' Rg=>CX outer H s E e' Rg) s'
theorem oB {sc:Scope}(h:sc.names.lookup x=some .cell):∃ c,(cellsFrom n sc.names []).lookup x=some c:=by
 have q:=RI sc.names n [] (.inl h);exact Ņ.mp q
theorem tm {CX:pB}{P:Program}{w:World}{K:PySem.W.Frag}
  (S:ai N ps scope) (hd:A.handled=none) (e0:OI P w K mg base A outer s H) (hl:vs.length=ps.length) (r:Vals vs us)
  (x:InCallC s s.heap.objs.size (bindL (envOfC qual scope s.heap.objs.size f cd).kindOf (ps.zip us) λ _=>none) (cellsFrom (s.heap.objs.size+1) scope.names []) (bindC (envOfC qual scope s.heap.objs.size f cd).kindOf (ps.zip us) λ _=>none) s1) :
  Inv (bR CX P w K mg base N qual scope f cd A outer s H E) [] (gp N vs) H s1:=by
 have I_:ps.length<=N.length:=by have:=ą List.length S.pre;rw [ò] at this;omega
 obtain⟨h1,tk,rfl,hk⟩:=x.done;have Uf:∀ b:Addr,b ∉ (bR CX P w K mg base N qual scope f cd A outer s H E).ex:=λ b z=>absurd (show b∈([]:List Addr) from z) (by simp)
 refine⟨⟨e0.mod,S.kind,rfl,rfl,Æ _,λ y z c h1 h2=>?_,λ y hy=>?_,λ y c _ h=>?_,λ _=>hd,Around.frames_deeper e0.frames,.inr ⟨rfl,rfl⟩,λ b z=>absurd z (Uf b),e0.bs,e0.QW,λ b _ _=>Uf b,λ b z=>absurd z (Uf b),e0.Mw,e0.SH⟩,
  rfl,e0.bare,Un.kept hk,⟨_,x.toInCall.ns,λ i y v h1 h2 h3=>?_⟩,λ y c h=>⟨_,x.cell y c h⟩,e0.Č.fresh (Æ _),λ y c h=>?_,λ p hp=>absurd (show p∈([]:List (Addr × Obj)) from hp) (by simp),e0.Č.kept hk,?_⟩
 ·exact name_of_addr x.apart (ü h1) (ü h2)
 ·have hy:scope.names.lookup y=some .cell\/scope.names.lookup y=some .free:=hy;rcases hy with hy | hy
  ·exact oB hy
  ·exact absurd rfl (S.OA _ (ü hy))
 ·exact RN (x.above y c (ü h))
 ·have hi:i<vs.length:=by
   unfold gp at h2;by_cases hi:i<vs.length
   ·exact hi
   ·rw [ç (by simpa using hi)] at h2
    rw [Q8] at h2;split at h2 <;> cases h2
  have ha:vs[i]?=some v:=by
   unfold gp at h2;rw [ý (by simpa using hi),List.getElem?_map] at h2
   cases e:vs[i]? with
   | none=>rw [e] at h2;cases h2
   | some a=>rw [e] at h2;cases h2;rfl
  obtain⟨u,hu,rv⟩:=r.get ha;have hp:ps[i]?=some y:=by
   rw [<- S.pre,QB af];exact h1
  have Yr:ps.Nodup:=by rw [<- S.pre];exact S.nd.sublist (List.take_sublist _ _)
  refine⟨u,rv,?_⟩;rcases S.par y (Ì hp) with k | k
  ·exact .inl ⟨k,kJ Yr hp hu k⟩
  ·obtain⟨c,e⟩:=oB (n:=s.heap.objs.size+1) k;refine .inr ⟨.inl k,c,e,?_⟩;have q:=x.cell y c e;rw [ky Yr hp hu (by show scope.names.lookup y≠_;rw [k];decide)] at q
   exact q
 ·exact e0.Č.fresh (RN (x.above y c (ü h)))
 ·unfold gp;show _=N.length;rw [Õ,Ä,ĺ];omega
theorem zP {CX:pB}{P:Program}{w:World}{K:PySem.W.Frag}{mg:cr}{base:Heap}{k:Nat}{f:Addr}{name qual:Str}{params:Arguments}{body:List Stmt}{scope:Scope}{dV kV doc pm cdv ct oc:Value}{an od:Option Addr}
  (lk:K.lookup f=some ⟨oc,od,.func (PySem.W.fnOf name qual params body scope dV kV doc pm an cdv ct),Sg⟩) (Pi:PySem.W.codeIn K cdv qual=true) (S:ai N ps scope)
  (len:∀ vs H Q E,sp vs H Q E->vs.length=ps.length)
  (r_:∀(A:Around)(outer:List Env)(s:Shared)(H:Hp)(vs:List V)(Q:VK)(E:XK),ć k (A.deeper (envOfC qual scope s.heap.objs.size f cdv))->sp vs H Q E ->
   ∃ t,ſ (bR CX P w K mg base N qual scope f cdv A outer s H E) body t/\t { nx:=λ _ H'=>Q .Ă H',rt:=Q } (gp N vs) H) :
  í P w K mg base CX (k+1) f (PySem.W.fnOf name qual params body scope dV kV doc pm an cdv ct) ps sp:=by
 refine⟨len,λ A outer s H args us vs Q E hr e0 hb r MC=>?_⟩;have hl:=len _ _ _ _ MC;have KX:K.In s.heap:=e0.mod.Sv.keeps λ b o e=>(e0.bs b o e).1;have lim:s.heap.NoLimit:=e0.mod.nolimit.keeps λ b o e=>(e0.bs b o e).1;have UN:∀ y∈ps.zip us,scope.names.lookup y.1=some .local\/(scope.names.lookup y.1=some .cell/\((cellsFrom (s.heap.objs.size+1) scope.names []).lookup y.1).isSome=true):=λ ⟨n,v⟩ hy=>by
  rcases S.par n (O8 hy).1 with q | q
  ·exact .inl q
  ·exact .inr ⟨q,RI _ _ _ (.inl q)⟩
 refine codeAny_call_function hr.depth (KX _ _ lk) rfl S.co S.gen rfl (PySem.W.codeRec_of KX Pi) (hb _ _ _ _ ?_);refine wpAny_newFunctionEnv_cells S.kind UN λ env he s1 x=>?_;subst he;refine⟨lim.keeps x.toInCall.keep,codeAny_func ?_⟩;obtain⟨t,ht,hq⟩:=r_ A outer s H vs Q E (hr.deeper _) MC;have I:Inv (bR CX P w K mg base N qual scope f cdv A outer s H E) [] (gp N vs) H s1:=tm S hr.hd e0 hl r x;refine Ń (ht [] s1 (gp N vs) H _ I hq) (λ fl s' hs=>?_) λ e s' hs=>hs;have fin:∀{ĸ:St}{H':Hp}{v:V}{u:Value},Inv (bR CX P w K mg base N qual scope f cdv A outer s H E) [] ĸ H' s'->RelV v u->Q v H'->CE outer P w H s Q u s' :=
  λ {ĸ H' v u} J rv q=>⟨v,H',J.os,J.bare,J.base,J.Č,rv,q⟩
 cases fl with
 | ret u =>
  obtain⟨v,ĸ,H',J,rv,q⟩:=hs;exact fin J rv q
 | next =>
  obtain⟨ĸ,H',J,q⟩:=hs;exact fin (v:=V.Ă) (u:=Value.none) J rfl q
 | brk =>
  obtain⟨_,_,_,q⟩:=hs;exact False.elim q
 | cont =>
  obtain⟨_,_,_,q⟩:=hs;exact False.elim q
section
variable {X:Cx}{x:Str}{p pos:Pos}{e:Expr}{es:List Expr}{t:TA}{id T:String}{r:List V->Hp->VK->Prop}
def iH (r:List V->Hp->VK->Prop)(t:TA):TE:=λ σ H Q=>t σ H λ vs H1=>r vs H1 Q
theorem am (hc:cU X (.builtin id) r)(hg:Gl X x)(hm:X.mg x=none)(hv:bootBuiltins x=some (.builtin id))(ha:PA X (e::es) t)(hn:x ≠ "__name__" := by decide) (No:(x==("__debug__" : Str))=false:=by decide)
  (he:starEach (e::es) X.env=(false,eval e X.env)::starEach es X.env:=by rfl) (I_:(backTo pos (starEach es X.env)).any (·.1)=false:=by rfl):PE X (.Call (.Name x p) (e::es) [] pos) (iH r t):=by
 intro Ã s σ H Q I h;refine Ŵ (iZ I hg hm hv ?_ hn No);exact Ot (bt (ha pos Ã s σ H _ I h) λ us s1 ⟨vs,H1,I1,r1,q1⟩=>hc Ã s1 σ H1 vs us Q I1 r1 q1) he I_
theorem aU (hc:cU X (.type T) r)(hg:Gl X x)(hm:X.mg x=none)(hv:bootBuiltins x=some (.type T))(ha:PA X (e::es) t)(hn:x ≠ "__name__" := by decide) (No:(x==("__debug__" : Str))=false:=by decide)
  (he:starEach (e::es) X.env=(false,eval e X.env)::starEach es X.env:=by rfl) (I_:(backTo pos (starEach es X.env)).any (·.1)=false:=by rfl):PE X (.Call (.Name x p) (e::es) [] pos) (iH r t):=by
 intro Ã s σ H Q I h;refine Ŵ (iZ I hg hm hv ?_ hn No);exact Ŕ (bt (ha pos Ã s σ H _ I h) λ us s1 ⟨vs,H1,I1,r1,q1⟩=>hc Ã s1 σ H1 vs us Q I1 r1 q1) he I_
end
end L2
namespace HT
open PySem PyProof.Rows
section
variable {prog:Program}{w:World}{A:Around}{E:eE}{s:Shared}
def Ť (n d:Nat):Option Int->Nat
 | none=>d
 | some v=>if v<0 then(v+(n:Int)).toNat else min v.toNat n
theorem PZ (n d:Nat):Ť n d none=d:=rfl
theorem OO (n d k:Nat):Ť n d (some (k:Int))=min k n:=by
 show(if(k:Int)<0 then((k:Int)+(n:Int)).toNat else min (k:Int).toNat n)=min k n
 rw [Ë af,Ù]
theorem Ds (n d:Nat)(hd:d<=n)(o:Option Int):Ť n d o<=n:=by
 cases o with
 | none=>exact hd
 | some v =>
  show(if v<0 then(v+(n:Int)).toNat else min v.toNat n)<=n
  by_cases hv:v<0
  ·rw [Ó hv];omega
  ·rw [Ë hv];exact Nat.min_le_right _ _
theorem rK (v:Int)(n d:Nat):(if v<0 then max (v+(n:Int)) 0 else min v (n:Int))=((Ť n d (some v):Nat):Int):=by
 show(if v<0 then max (v+(n:Int)) 0 else min v (n:Int))=(((if v<0 then(v+(n:Int)).toNat else min v.toNat n):Nat):Int)
 by_cases hv:v<0
 ·simp only [if_pos hv];omega
 ·simp only [if_neg hv];omega
theorem pM (lo hi:Option Int)(n:Nat):Builtin.Slice.sliceAdjust lo hi 1 (n:Int)=(((Ť n 0 lo:Nat):Int),((Ť n n hi:Nat):Int)):=by
 have h1:¬ ((1:Int)<0):=af;unfold Builtin.Slice.sliceAdjust;simp only [h1,if_false];refine Prod.ext ?_ ?_
 ·cases lo with
  | none=>rfl
  | some v=>exact rK v n 0
 ·cases hi with
  | none=>rfl
  | some v=>exact rK v n n
theorem p7 (i j:Nat):Builtin.Slice.slicePlaces (i:Int) (j:Int) 1=j-i:=by
 unfold Builtin.Slice.slicePlaces;have h1:(1:Int)>0:=af;simp only [h1,if_true,Int.ediv_one];split <;> omega
theorem jn (p:IsPart v o)(h:Q o s):wpAny (model prog w) A (Builtin.Slice.slicePartIndex v) Q E s:=by
 cases p with
 | none=>exact slicePart_none h
 | int i t=>exact slicePart_int h
theorem iQ {lo hi:Option Int}{n:Nat}(hs:s.heap.IsSliceOf sl vl vu .none)(pl:IsPart vl lo)(pu:IsPart vu hi)
  (h:Q (((Ť n 0 lo:Nat):Int),1,Ť n n hi - Ť n 0 lo) s):wpAny (model prog w) A (Builtin.Slice.sliceApplied (.ref sl) (pure (n:Int))) Q E s:=by
 obtain⟨os,UH,Y5,VO⟩:=id hs;refine À (À (ú UH VO rfl (À (ú UH VO rfl (À (ú UH VO rfl (Á ?_)))))));refine À (slicePart_none ?_);rw [Ë ax];refine À (jn pl (À (jn pu (À (Á ?_)))));show wpAny _ _ (match Builtin.Slice.sliceAdjust lo hi 1 (n:Int) with | (lo,hi)=>pure (lo,(1:Int),Builtin.Slice.slicePlaces lo hi 1)) _ _ s
 rw [pM lo hi n];show wpAny _ _ (pure (((Ť n 0 lo:Nat):Int),(1:Int),Builtin.Slice.slicePlaces ((Ť n 0 lo:Nat):Int) ((Ť n n hi:Nat):Int) 1)) _ _ s;rw [p7];exact Á h
theorem vf (xs:Array Value)(i k:Nat):((List.range k).filterMap λ (m:Nat)=>xs[((i:Int)+(m:Int)*1).toNat]?).toArray=((xs.toList.drop i).take k).toArray:=by
 have e:(λ (m:Nat)=>xs[((i:Int)+(m:Int)*1).toNat]?) = λ m=>xs[i+m]?:=by
  funext m
  have:((i:Int)+(m:Int)*1).toNat=i+m:=af;rw [this]
 rw [e];have:=pick_run xs i k;rw [List.filterMap_map] at this;have e2:((λ x=>xs[x]?) ∘ λ x=>i+x) = λ m=>xs[i+m]?:=rfl;rw [e2] at this;rw [this]
theorem s_ {t sl:Addr}{items:Array Value}{vl vu:Value}{lo hi:Option Int}(ht:IsTup s.heap t items)(hs:s.heap.IsSliceOf sl vl vu .none)(pl:IsPart vl lo)(pu:IsPart vu hi)
  (hw:¬ (Ť items.size 0 lo=0/\Ť items.size items.size hi=items.size))
  (h:Q (.ref s.heap.objs.size) { s with heap:=s.heap.push { cls:=.type "tuple",data:=.seq ((items.toList.drop (Ť items.size 0 lo)).take (Ť items.size items.size hi - Ť items.size 0 lo)).toArray } })
  (Rv:items.size<=sizeLine):wpAny (model prog w) A (getItem (.ref t) (.ref sl)) Q E s:=by
 have OY:sizeOk (.seq ((items.toList.drop (Ť items.size 0 lo)).take (Ť items.size items.size hi - Ť items.size 0 lo)).toArray):=by
  show((items.toList.drop (Ť items.size 0 lo)).take (Ť items.size items.size hi - Ť items.size 0 lo)).toArray.size<=sizeLine;rw [ñ,ò,List.length_drop,Array.length_toList];omega
 have hj:Ť items.size items.size hi<=items.size:=Ds _ _ (Æ _) hi;obtain⟨os,UH,Y5,VO⟩:=id hs;have hTs:s.TypeIs (.ref sl) "slice" :=⟨os,UH,Y5⟩;unfold getItem
 try with_reducible refine ĕ ?_
 first | refine À (Á ?_) | skip
 refine À (wpAny_sequenceKey ht.typeIs ax ?_);refine À (ð (name:=Str.ofString "__getitem__") ht.typeIs ŵ
  (î ŵ ht.typeIs entry_tuple_getitem ?_ (args_tuple_getitem _ _)))
 show wpAny _ _ (Builtin.Tuple.tupleItemsOf (.ref t)>>=_) _ _ s;refine À (tupleItemsOf_ ht ?_);refine À (wpAny_typeOf hTs ?_);rw [Ó ax];refine À (iQ hs pl pu ?_);have hno:¬ ((((Ť items.size 0 lo:Nat):Int)==0&&(1:Int)==1&&(Ť items.size items.size hi - Ť items.size 0 lo)==items.size)=true):=by
  intro q;rw [ĉ,ĉ] at q;have q1:((Ť items.size 0 lo:Nat):Int)=0:=eq_of_beq q.1.1;have q2:Ť items.size items.size hi - Ť items.size 0 lo=items.size:=eq_of_beq q.2;exact hw ⟨af,af⟩
 show wpAny _ _ (if(((Ť items.size 0 lo:Nat):Int)==0&&(1:Int)==1&&(Ť items.size items.size hi - Ť items.size 0 lo)==items.size)=true then _ else _) _ _ s
 rw [Ë hno,vf]
 first
  | exact À (ã (Á ⟨_,rfl,Á h⟩) OY)
  | exact À (ã (À (Á (Á ⟨_,rfl,Á h⟩))) OY)
  | exact À (À (ã (Á (Á ⟨_,rfl,Á h⟩)) OY))
  | exact À (À (ã (Á ⟨_,rfl,Á h⟩) OY))
end
end HT
namespace L2
open PySem PySem.Spec PyProof.Rows
abbrev TO:=St->Hp->(Option Int->Hp->Prop)->Prop
def PO (X:Cx)(e:Option Expr)(t:TO):Prop :=
 ∀(Ã:List (Addr × Obj))(s:Shared)(σ:St)(H:Hp)(Q:Option Int->Hp->Prop),Inv X Ã σ H s->t σ H Q ->
  wpAny (model X.prog X.w) X.A (evalPart e X.env) (λ u s'=>∃ o H',Inv X Ã σ H' s'/\IsPart u o/\Q o H') X.xe s
def ii:TO:=λ _ H Q=>Q none H
def nS (t:TE):TO:=λ σ H Q=>t σ H λ x H1=>∃ i,x=.int i/\Q (some i) H1
section
variable {X:Cx}{e:Expr}{te:TE}{lo hi:Option Expr}{tl th:TO}{pos p2:Pos}
theorem q9:PO X none ii:=by
 intro Ã s σ H Q I h;rw [evalPart_none];exact Á ⟨none,H,I,.none,h⟩
theorem rC (h:PE X e te):PO X (some e) (nS te):=by
 intro Ã s σ H Q I hw;rw [evalPart_some];refine bt (h Ã s σ H _ I hw) λ u s1 ⟨x,H1,I1,r1,q1⟩=>?_;obtain⟨i,rfl,q⟩:=q1;obtain⟨t,rfl⟩:=r1;exact⟨some i,H1,I1,.int i t,q⟩
def JG (X:Cx)(r:V->Option Int->Option Int->Hp->VK->Prop):Prop :=
 ∀(Ã:List (Addr × Obj))(s:Shared)(σ:St)(H:Hp)(x:V)(v vl vu:Value)(lo hi:Option Int)(sl:Addr)(Q:VK),Inv X Ã σ H s->RelV x v->s.heap.IsSliceOf sl vl vu .none->IsPart vl lo->IsPart vu hi->r x lo hi H Q ->
  ∃ T id,typeLookup (.type T) "__getitem__" = pure (some (.builtin id))/\s.TypeIs v T/\wpAny (model X.prog X.w) X.A (getItem v (.ref sl)) (EP X Ã σ Q) X.xe s
def HU (r:V->Option Int->Option Int->Hp->VK->Prop)(te:TE)(tl th:TO):TE:=λ σ H Q=>te σ H λ x H1=>tl σ H1 λ l H2=>th σ H2 λ u H3=>r x l u H3 Q
theorem oO (hr:JG X r)(he:PE X e te)(hl:PO X lo tl)(hu:PO X hi th):PE X (.Subscript e (.Slice lo hi none p2) pos) (HU r te tl th):=by
 intro Ã s σ H Q I h;refine Subscript_ (bt (he Ã s σ H _ I h) λ v s1 ⟨x,H1,I1,r1,q1⟩=>?_);refine wpAny_Slice (bt (hl Ã s1 σ H1 _ I1 q1) λ vl s2 ⟨l,H2,I2,pl,q2⟩=>bt (hu Ã s2 σ H2 _ I2 q2) λ vu s3 ⟨u,H3,I3,pu,q3⟩=>?_);rw [evalPart_none];refine Á ?_;have I4:Inv X Ã σ H3 { s3 with heap:=s3.heap.push { cls:=.type "slice",data:=.fields #[vl,vu,.none] } }:=I3.kept λ b ob q=>Â _ q
 obtain⟨T,id,hT,ht,hg⟩:=hr Ã { s3 with heap:=s3.heap.push { cls:=.type "slice",data:=.fields #[vl,vu,.none] } } σ H3 x v vl vu l u s3.heap.objs.size Q I4 r1 (Heap.IsSliceOf.new ..) pl pu q3;exact tail_any ht hT hg (by with_unfolding_all rfl)
def jd (xs:List V)(lo hi:Option Int):List V:=(xs.drop (HT.Ť xs.length 0 lo)).take (HT.Ť xs.length xs.length hi-HT.Ť xs.length 0 lo)
theorem ja (xs:List V)(lo hi:Option Int):(jd xs lo hi).length<=xs.length:=by
 unfold jd;rw [ò,List.length_drop];omega
def BZ (K:PySem.W.Frag):V->Option Int->Option Int->Hp->VK->Prop:=λ x lo hi H Q=>∃ a xs,x=.ref a/\Ė K H a xs /\
 ¬ (HT.Ť xs.length 0 lo=0/\HT.Ť xs.length xs.length hi=xs.length)/\∀ p,H p=none->Q (.ref p) (aj H p (.tup (jd xs lo hi)))
theorem A8:JG X (BZ X.K):=by
 intro Ã s σ H x v vl vu lo hi sl Q I rx hs pl pu h;obtain⟨a,xs,rfl,hx,hw,q⟩:=h;cases rx;obtain⟨its,r,ht,hz⟩:=I.tuple hx;have ľ:its.toArray.size=xs.length:=by rw [ñ];exact r.length.symm
 refine⟨"tuple",_,ŵ.lookup,ht.typeIs,?_⟩;refine HT.s_ ht hs pl pu (by rw [ľ];exact hw) ?_ (by rw [ľ];exact hz)
 rw [ľ];refine⟨.ref s.heap.objs.size,_,I.laid (λ b ob q=>Â _ q) (Æ _) ?_,rfl,q _ (I.Č.fresh (Æ _))⟩;exact⟨Í (ja xs lo hi) hz,_,(r.drop (HT.Ť xs.length 0 lo)).take (HT.Ť xs.length xs.length hi-HT.Ť xs.length 0 lo),IsTup.new _ _⟩
end
def xa (n:Nat)(i:Int):Option Nat:=if 0<=i then(if i<n then some i.toNat else none) else if -(n:Int)<=i then some (i+n).toNat else none
def rB {α:Type}(xs:List α)(i:Int):Option α:=(xa xs.length i).bind λ j=>xs[j]?
theorem sf (h:xa n i=some j):seqIndex? i n=some j/\j<n/\-(n:Int)<=i/\i<n:=by
 unfold xa at h;by_cases h0:0<=i
 ·rw [Ó h0] at h;by_cases h1:i<n
  ·rw [Ó h1] at h;have e:=â h;exact⟨by rw [seqIndex_of h0 h1,e],af,af,h1⟩
  ·rw [Ë h1] at h;cases h
 ·rw [Ë h0] at h;by_cases h1:-(n:Int)<=i
  ·rw [Ó h1] at h;have e:=â h;exact⟨by rw [seqIndex_neg af h1,e],af,h1,af⟩
  ·rw [Ë h1] at h;cases h
theorem rE {α:Type}{xs:List α}{v:α}(h:rB xs i=some v):∃ j,seqIndex? i xs.length=some j/\xs[j]?=some v/\j<xs.length/\-(xs.length:Int)<=i/\i<xs.length:=by
 unfold rB at h;cases e:xa xs.length i with
 | none=>rw [e] at h;cases h
 | some j =>
  rw [e] at h;obtain⟨h1,h2,h3,h4⟩:=sf e;exact⟨j,h1,h,h2,h3,h4⟩
theorem jU {α:Type}{xs:List α}{j:Nat}{v:α}(h:xs[j]?=some v):rB xs (j:Int)=some v:=by
 have hj:=(È.mp h).1;have e:xa xs.length (j:Int)=some j:=by
  unfold xa;rw [Ó af,Ó af];simp
 unfold rB;rw [e];exact h
theorem uw {α:Type}(xs:List α)(v:α):rB (xs ++ [v]) (-1)=some v:=by
 have hl:(xs ++ [v]).length=xs.length+1:=by simp
 have e:xa (xs ++ [v]).length (-1)=some xs.length:=by
  unfold xa;rw [hl,Ë ax,Ó af]
  congr 1
  omega
 unfold rB;rw [e];simp
def mE (b:Expr):Prop:=∀ o i,subscripted b false o i=operate [o,i] (getItem o i)
def GY (X:Cx)(r:R2):Prop :=
 ∀(value slice:Expr)(Ã:List (Addr × Obj))(s:Shared)(σ:St)(H:Hp)(x y:V)(v u:Value)(Q:VK),Inv X Ã σ H s->RelV x v->RelV y u->r x y H Q ->
  subscripted slice false v u=operate [v,u] (getItem v u)->wpAny (model X.prog X.w) X.A (subscriptTail value slice v u) (EP X Ã σ Q) X.xe s
def Jh (X:Cx)(id:String)(r:V->List V->Hp->VK->Prop):Prop :=
 ∀(Ã:List (Addr × Obj))(s:Shared)(σ:St)(H:Hp)(x:V)(xs:List V)(v:Value)(us:List Value)(Q:VK),Inv X Ã σ H s->RelV x v->Vals xs us->r x xs H Q ->
  wpAny (model X.prog X.w) X.A (call (.builtin id) (v::us)) (EP X Ã σ Q) X.xe s
section
variable {X:Cx}{a b:Expr}{ta tb:TE}{pos:Pos}
theorem Ft (hr:GY X r)(ha:PE X a ta)(hb:PE X b tb)(hs:mE b):PE X (.Subscript a b pos) (bV r ta tb):=by
 intro Ã s σ H Q I h;exact Subscript_ (Dy ha hb I h λ v u s2 x y H2 I2 rx ry q=>hr a b Ã s2 σ H2 x y v u Q I2 rx ry q (hs _ _))
theorem bL {r:R2}(hr:GY X r)(ha:PE X a ta)(hb:PE X b tb)(hs:mE b:=by exact λ _ _=>rfl):PE X (.Subscript a b pos) (bV r ta tb):=Ft hr ha hb hs
def fE (K:PySem.W.Frag):R2:=λ x y H Q=>∃ p xs i v,x=.ref p/\y=.int i/\Ċ K H p xs/\rB xs i=some v/\Q v H
def nJ (K:PySem.W.Frag):R2:=λ x y H Q=>∃ p xs i v,x=.ref p/\y=.int i/\Ė K H p xs/\rB xs i=some v/\Q v H
theorem l8:GY X (fE X.K):=by
 intro value slice Ã s σ H x y v u Q I rx ry h hs;obtain⟨p,xs,i,z,rfl,rfl,hq,he,q⟩:=h;cases rx;obtain⟨t,rfl⟩:=ry;obtain⟨its,r,pl,hz⟩:=I.list hq;obtain⟨j,h1,h2,h3,h4,h5⟩:=rE he;obtain⟨w,ew,Pb⟩:=r.get h2;have hl:=r.length;have hn:=mL;have fin:EP X Ã σ Q w s:=⟨z,H,I,Pb,q⟩;by_cases h0:0<=i
 ·have hj:i.toNat=j:=by
   rw [seqIndex_of h0 h5] at h1;exact â h1
  exact item_listR pl.isList h0 af (by rw [hj];simpa using ew) fin hs
 ·have hj:(i+(its.toArray.size:Int)).toNat=j:=by
   rw [seqIndex_neg af h4] at h1;rw [ñ,<- hl];exact â h1
  exact subscriptTail_builtinR pl.isList.typeIs slot_list_getitem.lookup
   (wpAny_getItem_list_neg pl.isList af (by rw [ñ] <;> omega) af (by rw [hj];simpa using ew) ⟨rfl,fin⟩) hs
theorem cB:GY X (nJ X.K):=by
 intro value slice Ã s σ H x y v u Q I rx ry h hs;obtain⟨p,xs,i,z,rfl,rfl,hq,he,q⟩:=h;cases rx;obtain⟨t,rfl⟩:=ry;obtain⟨its,r,pl,hz⟩:=I.tuple hq;obtain⟨j,h1,h2,h3,h4,h5⟩:=rE he;obtain⟨w,ew,Pb⟩:=r.get h2;have hl:=r.length;have hn:=mL;have fin:EP X Ã σ Q w s:=⟨z,H,I,Pb,q⟩;exact subscriptTail_builtinR pl.typeIs slot_tuple_getitem.lookup
  (getItem_tuple pl af af (by rw [ñ,<- hl];exact h1) (by simpa using ew) ⟨rfl,fin⟩) hs
theorem qA (its:List Value)(n j:Nat)(u:Value):Obj.mapSeq (·.setIfInBounds j u) { cls:=.type "list",data:=.seq its.toArray n }={ cls:=.type "list",data:=.seq (its.set j u).toArray n }:=by
 simp [Obj.mapSeq]
theorem Inv.lst (I:Inv X Ã σ H s)(h:H p=some (.lst xs)) :
  ∃(its:List Value)(n:Nat),Vals xs its/\s.heap.get? p=some { cls:=.type "list",data:=.seq its.toArray n }/\xs.length<=sizeLine:=by
 obtain⟨z,its,n,r,e⟩:=I.Č p _ h;exact⟨its,n,r,e,z⟩
theorem Inv.Sq {its Mu:List Value}(I:Inv X Ã σ H s)(h:H p=some (.lst xs))
  (ho:s.heap.get? p=some { cls:=.type "list",data:=.seq its.toArray n }) (hf:f { cls:=.type "list",data:=.seq its.toArray n }={ cls:=.type "list",data:=.seq Mu.toArray n' }) (r:Vals ys Mu) (hz:ys.length<=sizeLine) (t:Nat) :
  Inv X Ã σ (aj H p (.lst ys)) { s with heap:=s.heap.update p f,toks:=t }:=by
 have e:(s.heap.update p f).get? p=some { cls:=.type "list",data:=.seq Mu.toArray n' }:=by
  rw [ù f ho (by rw [hf] <;> rfl),hf]
 refine I.write (by rw [h];trivial) (.inl rfl) (λ b u hb q=>(Heap.get?_update_other _ _ (Ne.symm hb)).trans q) ⟨_,e⟩ ?_
 exact⟨hz,Mu,n',r,e⟩
def Fs:V->V->V->Hp->(Hp->Prop)->Prop:=λ o i v H Q=>∃ p xs k j,o=.ref p/\i=.int k/\H p=some (.lst xs)/\xa xs.length k=some j/\Q (aj H p (.lst (xs.set j v)))
theorem jQ:FJ X Fs:=by
 intro Ã s σ H o i v ov iv u Q I ro ri rv h;obtain⟨p,xs,k,j,rfl,rfl,hp,hj,q⟩:=h;cases ro;obtain⟨t,rfl⟩:=ri;obtain⟨its,n,r,ho,hz⟩:=I.lst hp;obtain⟨h1,h2,h3,h4⟩:=sf hj;have hl:=r.length;have hn:=mL;have I' :=
  I.Sq hp ho (qA its n j u) (r.set rv j) (by rw [List.length_set];exact hz) s.toks
 by_cases h0:0<=k
 ·have hk:k.toNat=j:=by
   rw [seqIndex_of h0 h4] at h1;exact â h1
  exact PySem.W.ki_setAt ho h0 af (by rw [ñ,<- hl];exact h4) (by rw [hk];exact⟨_,I',q⟩)
 ·have hk:(k+(its.toArray.size:Int)).toNat=j:=by
   rw [seqIndex_neg af h3] at h1;rw [ñ,<- hl];exact â h1
  exact PySem.W.ki_setBack ho af (by rw [ñ,<- hl];exact h3) af (by rw [hk];exact⟨_,I',q⟩)
theorem lX (lo hi:Option Int)(n:Nat):(sliceBounds lo hi none n).1=((HT.Ť n 0 lo:Nat):Int)/\(sliceBounds lo hi none n).2.1=((HT.Ť n n hi:Nat):Int)/\(sliceBounds lo hi none n).2.2=1:=by
 refine⟨?_,?_,rfl⟩
 ·cases lo with
  | none=>simp [sliceBounds,HT.Ť]
  | some i =>
   simp only [sliceBounds,HT.Ť,Option.getD_none,show(1:Int)>0 by decide,if_true]
   by_cases h:i<0
   ·simp only [h,if_true] <;> omega
   ·simp only [h,if_false] <;> omega
 ·cases hi with
  | none=>simp [sliceBounds,HT.Ť]
  | some i =>
   simp only [sliceBounds,HT.Ť,Option.getD_none,show(1:Int)>0 by decide,if_true]
   by_cases h:i<0
   ·simp only [h,if_true] <;> omega
   ·simp only [h,if_false] <;> omega
theorem j6 (its:List Value)(lo hi:Option Int):slicePick its.toArray lo hi none=((its.drop (HT.Ť its.length 0 lo)).take (HT.Ť its.length its.length hi-HT.Ť its.length 0 lo)).toArray:=by
 obtain⟨h1,h2,h3⟩:=lX lo hi its.toArray.size;unfold slicePick;rw [h1,h2,h3];simp only [sliceRange_one,pick_run,List.size_toArray] <;> rfl
def A4 (K:PySem.W.Frag):V->Option Int->Option Int->Hp->VK->Prop:=λ x lo hi H Q=>∃ a xs,x=.ref a/\Ċ K H a xs/\∀ p,H p=none->Q (.ref p) (aj H p (.lst (jd xs lo hi)))
theorem yC:JG X (A4 X.K):=by
 intro Ã s σ H x v vl vu lo hi sl Q I rx hs pl pu h;obtain⟨a,xs,rfl,hx,q⟩:=h;cases rx;obtain⟨its,r,ht,hz⟩:=I.list hx;have ľ:=r.length;refine⟨"list",_,slot_list_getitem.lookup,ht.isList.typeIs,?_⟩;refine wpAny_getItem_list_slice ht.isList hs pl pu .none (by simp) ?_ (by rw [List.size_toArray] <;> omega)
 rw [j6,<- ľ];refine⟨.ref s.heap.objs.size,_,I.laid (λ b ob q=>Â _ q) (Æ _) ?_,rfl,q _ (I.Č.fresh (Æ _))⟩;exact⟨Í (ja xs lo hi) hz,_,0,(r.drop (HT.Ť xs.length 0 lo)).take (HT.Ť xs.length xs.length hi-HT.Ť xs.length 0 lo),Î _ rfl⟩
def oE:V->Bool
 | .Ă=>true
 | .bl _=>true
 | .int _=>true
 | .str _=>true
 | _=>false
def IW:V->V->Bool
 | .Ă,.Ă=>true
 | .bl a,.bl b=>a==b
 | .bl a,.int b=>(if a then 1 else 0)==b
 | .int a,.bl b=>a==(if b then 1 else 0)
 | .int a,.int b=>a==b
 | .str a,.str b=>a==b
 | _,_=>false
theorem D9 (ry:RelV y u)(rx:RelV x v)(fy:oE y=true)(fx:oE x=true):SeqAt.EqAt A s u v (IW y x):=by
 cases y with
 | Ă =>
  cases ry;cases x with
  | Ă=>cases rx;exact Nt _
  | bl b=>cases rx;exact SeqAt.EqAt.none_bool b
  | int b=>obtain⟨t,rfl⟩:=rx;exact SeqAt.EqAt.none_int b t
  | str b=>obtain⟨t,rfl⟩:=rx;exact SeqAt.EqAt.none_str b t
  | _=>exact absurd (show false=true from fx) Ø
 | bl a =>
  cases ry;cases x with
  | Ă=>cases rx;exact SeqAt.EqAt.bool_none a
  | bl b=>cases rx;exact SeqAt.EqAt.bool_bool a b
  | int b=>obtain⟨t,rfl⟩:=rx;exact SeqAt.EqAt.bool_int a b t
  | str b=>obtain⟨t,rfl⟩:=rx;exact SeqAt.EqAt.bool_str a b t
  | _=>exact absurd (show false=true from fx) Ø
 | int a =>
  obtain⟨t',rfl⟩:=ry;cases x with
  | Ă=>cases rx;exact SeqAt.EqAt.int_none a t'
  | bl b=>cases rx;exact SeqAt.EqAt.int_bool a t' b
  | int b=>obtain⟨t,rfl⟩:=rx;exact SeqAt.EqAt.int_int a t' b t
  | str b=>obtain⟨t,rfl⟩:=rx;exact SeqAt.EqAt.int_str a t' b t
  | _=>exact absurd (show false=true from fx) Ø
 | str a =>
  obtain⟨t',rfl⟩:=ry;cases x with
  | Ă=>cases rx;exact SeqAt.EqAt.str_none a t'
  | bl b=>cases rx;exact SeqAt.EqAt.str_bool a t' b
  | int b=>obtain⟨t,rfl⟩:=rx;exact SeqAt.EqAt.str_int a t' b t
  | str b=>obtain⟨t,rfl⟩:=rx;exact SeqAt.EqAt.str_str a t' b t
  | _=>exact absurd (show false=true from fx) Ø
 | _=>exact absurd (show false=true from fy) Ø
theorem aO:cU X (.builtin "len") (λ xs H Q=>∃ p ys,xs=[.ref p]/\(Ċ X.K H p ys\/Ė X.K H p ys)/\Q (.int ys.length) H):=by
 intro Ã s σ H xs us Q I r h;obtain⟨p,ys,rfl,hq,q⟩:=h;obtain⟨u,rfl,rx⟩:=fL r;cases rx;have hn:=mL;rcases hq with hq | hq
 ·obtain⟨its,r',pl,hz⟩:=I.list hq;have ľ:=r'.length;exact Calls.call_len_list pl.isList (by simp only [List.size_toArray] <;> omega) ⟨.int ys.length,H,I.tok _,⟨s.toks+1,by rw [ñ,ľ]⟩,q⟩
 ·obtain⟨its,r',pl,hz⟩:=I.tuple hq;have ľ:=r'.length;exact len_tuple pl (by simp only [List.size_toArray] <;> omega) ⟨.int ys.length,H,I.tok _,⟨s.toks+1,by rw [ñ,ľ]⟩,q⟩
theorem c6:cU X (.type "list") (λ xs H Q=>∃ p ys,xs=[.ref p]/\(Ċ X.K H p ys\/Ė X.K H p ys)/\∀ l,H l=none->Q (.ref l) (aj H l (.lst ys))):=by
 intro Ã s σ H xs us Q I r h;obtain⟨p,ys,rfl,hq,q⟩:=h;obtain⟨u,rfl,rx⟩:=fL r;cases rx;have fin:∀(its:List Value),Vals ys its->ys.length<=sizeLine->∀(h':Heap)(c':Nat),(∀ b o',s.heap.get? b=some o'->h'.get? b=some o') ->
   h'.get? s.heap.objs.size=some { cls:=.type "list",dict:=none,data:=.seq its.toArray c',slots:=#[] }->EP X Ã σ Q (.ref s.heap.objs.size) { s with heap:=h' }:=λ its r' hz h' c' kp e =>
  ⟨.ref s.heap.objs.size,_,I.laid kp (Æ _) (show ă X.prog X.w _ h' _ (.lst ys) from⟨hz,its,c',r',e⟩),rfl,q _ (I.Č.fresh (Æ _))⟩
 rcases hq with hq | hq
 ·obtain⟨its,r',pl,hz⟩:=I.list hq;have ľ:=r'.length;obtain⟨o,ho,hc,n,hd⟩:=pl.isList;exact call_list_seq p (.inl rfl) ho hc hd (λ h' c' kp e=>fin its r' hz h' c' kp e) (by simp only [List.size_toArray] <;> omega)
 ·obtain⟨its,r',pl,hz⟩:=I.tuple hq;have ľ:=r'.length;obtain⟨o,ho,hc,n,hd⟩:=pl;exact call_list_seq p (.inr rfl) ho hc hd (λ h' c' kp e=>fin its r' hz h' c' kp e) (by simp only [List.size_toArray] <;> omega)
theorem bU:cU X (.type "tuple") (λ xs H Q=>∃ p ys,xs=[.ref p]/\((Ċ X.K H p ys/\∀ l,H l=none->Q (.ref l) (aj H l (.tup ys)))\/(Ė X.K H p ys/\Q (.ref p) H))):=by
 intro Ã s σ H xs us Q I r h;obtain⟨p,ys,rfl,h⟩:=h;obtain⟨u,rfl,rx⟩:=fL r;cases rx;rcases h with⟨hq,q⟩ | ⟨hq,q⟩
 ·obtain⟨its,r',pl,hz⟩:=I.list hq;have ľ:=r'.length;refine call_tuple_list pl.isList (λ h' kp=>?_) (by simp only [List.size_toArray] <;> omega)
  have I1:Inv X Ã σ H { s with heap:=h' }:=I.kept kp
  have I2:Inv X Ã σ (aj H h'.objs.size (.tup ys)) { s with heap:=h'.push { cls:=.type "tuple",data:=.seq its.toArray } } :=
   I1.laid (λ b o e=>Â _ e) (Æ _) (show ă X.prog X.w _ _ _ (.tup ys) from⟨hz,its,r',IsTup.new _ _⟩)
  exact⟨.ref h'.objs.size,_,I2,rfl,q _ (I1.Č.fresh (Æ _))⟩
 ·obtain⟨its,r',pl,hz⟩:=I.tuple hq;exact call_tuple_same pl ⟨.ref p,H,I,rfl,q⟩
def IS (K:PySem.W.Frag)(T:String)(x:V)(H:Hp):Prop:=match x with
 | .str _=>T = "str"
 | .int _=>T = "int"
 | .ref p=>(T = "list" /\ ∃ xs,Ċ K H p xs)\/(T = "tuple" /\ ∃ o,K.lookup p=some o/\o.cls=.type "tuple" /\ o.dict=none) \/
   (T = "dict" /\ ((∃ ï,H p=some (.dK ï))\/∃ ï,H p=some (.dT ï)))\/(T = "set" /\ ∃ S n,H p=some (.set S n))
 | _=>False
theorem um (I:Inv X Ã σ H s)(r:RelV x v)(ty:IS X.K T x H) :
  s.TypeIs v T/\∀ a,v=.ref a->∃ ob,s.heap.get? a=some ob/\ob.dict=none:=by
 cases x with
 | str z =>
  obtain⟨t,rfl⟩:=r;cases (show T = "str" from ty);exact⟨typeIs_str s z t,λ _ e=>nomatch e⟩
 | int i =>
  obtain⟨t,rfl⟩:=r;cases (show T = "int" from ty);exact⟨typeIs_int s i t,λ _ e=>nomatch e⟩
 | ref p =>
  cases r;rcases ty with⟨rfl,xs,hq⟩ | ⟨rfl,o,hk,hc,hd⟩ | ⟨rfl,hk⟩ | ⟨rfl,S,n,hk⟩
  ·obtain⟨its,_,pl,_⟩:=I.list hq;refine⟨pl.isList.typeIs,λ a e=>?_⟩;cases e;obtain⟨o,n,e,c,hd,_⟩:=pl;exact⟨o,e,hd⟩
  ·refine⟨⟨o,I.Š p o hk,hc⟩,λ a e=>?_⟩;cases e;exact⟨o,I.Š _ o hk,hd⟩
  ·have z:∃ o,s.heap.get? p=some o/\o.ExactDict:=by
    rcases hk with⟨ï,hk⟩ | ⟨ï,hk⟩
    ·obtain⟨_,_,_,_,o,_,_,e,ex,_⟩:=I.Č p _ hk;exact⟨o,e,ex⟩
    ·obtain⟨_,_,_,_,o,_,_,e,ex,_⟩:=I.Č p _ hk;exact⟨o,e,ex⟩
   obtain⟨o,e,ex⟩:=z;refine⟨⟨o,e,ex.1⟩,λ a e2=>?_⟩;cases e2;exact⟨o,e,ex.2.1⟩
  ·obtain⟨o,_,_,_,e,ex,_⟩:=I.Č p _ hk;refine⟨⟨o,e,ex.1⟩,λ a e2=>?_⟩;cases e2;exact⟨o,e,ex.2.1⟩
 | _=>exact False.elim ty
def DL (K:PySem.W.Frag)(T:String)(r:V->List V->Hp->VK->Prop)(to:TE):TE:=λ σ H Q=>to σ H λ x H1=>IS K T x H1/\r x [] H1 Q
def wV (K:PySem.W.Frag)(T:String)(r:V->List V->Hp->VK->Prop)(to:TE)(t:TA):TE:=λ σ H Q=>to σ H λ x H1=>IS K T x H1/\t σ H1 λ xs H2=>r x xs H2 Q
variable {o e:Expr}{es:List Expr}{to:TE}{t:TA}{name:Str}{ő ş:Pos}{T id:String}{r:V->List V->Hp->VK->Prop}
theorem AZ (pa:PlainAttrs T)(slot:Slot T name id)(WR:typeOf (.builtin id)=pure (.type "method_descriptor")) (hm:Jh X id r) (ho:PE X o to)
  (MT:attributeBase o name X.env (eval o X.env)=eval o X.env:=by rfl) (MR:(ő.endLine == ş.line)=true:=by rfl):PE X (.Call (.Attribute o name ő) [] [] ş) (DL X.K T r to):=by
 intro Ã s σ H Q I h;refine MD MT MR (bt (ho Ã s σ H _ I h) λ v s1 ⟨x,H1,I1,r1,ty,q1⟩=>?_);obtain⟨h1,h2⟩:=um I1 r1 ty;exact⟨T,id,pa,slot,WR,h1,h2,ŕ rfl (M9 (hm Ã s1 σ H1 x [] v [] Q I1 r1 .nil q1))⟩
theorem fX (pa:PlainAttrs T)(slot:Slot T name id)(WR:typeOf (.builtin id)=pure (.type "method_descriptor")) (hm:Jh X id r) (ho:PE X o to) (ha:PA X (e::es) t)
  (MT:attributeBase o name X.env (eval o X.env)=eval o X.env:=by rfl)
  (Xh:((backTo ş (starEach (e::es) X.env)).all (λ x=>!x.1)&&(backToKw ş (keywordEach [] X.env)).all (λ x=>x.1.isSome)
   && decide ((e::es).length+([]:List Keyword).length+(if([]:List Keyword).isEmpty then 0 else 1)<30))=true:=by rfl)
  (MR:(ő.endLine == ş.line)=true:=by rfl) (hs:starEach (e::es) X.env=(false,eval e X.env)::starEach es X.env:=by rfl) (Sy:(backTo ş (starEach es X.env)).any (·.1)=false:=by rfl) :
  PE X (.Call (.Attribute o name ő) (e::es) [] ş) (wV X.K T r to t):=by
 intro Ã s σ H Q I h;refine wpAny_Call_method_late MT Xh MR rfl (bt (ho Ã s σ H _ I h) λ v s1 ⟨x,H1,I1,r1,ty,q1⟩=>?_);obtain⟨h1,h2⟩:=um I1 r1 ty;refine⟨T,id,pa,slot,WR,h1,h2,?_⟩;have hA:=ha ş Ã s1 σ H1 _ I1 q1;rw [hs] at hA ⊢;refine ŕ (by show(false||(backTo ş (starEach es X.env)).any (·.1))=false;rw [Sy] <;> rfl) (Calls.evalArgs_plain ?_)
 exact bt hA λ us s2 ⟨vs,H2,I2,r2,q2⟩=>hm Ã s2 σ H2 x vs v us Q I2 r1 r2 q2
end
def LX (X:Cx)(id:String)(r:V->List V->Hp->VK->Prop):Prop :=
 ∀(Ã:List (Addr × Obj))(s:Shared)(σ:St)(H:Hp)(x:V)(xs:List V)(v:Value)(us:List Value)(Q:VK),Inv X Ã σ H s->RelV x v->Vals xs us->r x xs H Q ->
  wpAny (model X.prog X.w) X.A (call (.builtin id) (v::us)) (EP X Ã σ Q) X.xe s
theorem Vals.one:∀{x:V}{us:List Value},Vals [x] us->∃ u,us=[u]/\RelV x u
 | _,_,.cons r .nil=>⟨_,rfl,r⟩
section
variable {X:Cx}{Ã:List (Addr × Obj)}{σ:St}{H:Hp}{s:Shared}{l b:Addr}{xs ys zs:List V}
theorem Inv.WD {its Mu:List Value}(I:Inv X Ã σ H s)(hH:H l=some (.lst xs))
  (e:s.heap.get? l=some { cls:=.type "list",data:=.seq its.toArray n }) (hf:f its.toArray=Mu.toArray) (hv:Vals ys Mu) (hz:ys.length<=sizeLine) :
  Inv X Ã σ (aj H l (.lst ys)) { s with heap:=s.heap.update l (Obj.mapSeq f),toks:=t' }:=by
 have q:=PySem.IsL.update e f;rw [hf] at q;refine I.write (by rw [hH];exact trivial) (.inl rfl) (λ b' u hb hu=>(Heap.get?_update_other s.heap (Obj.mapSeq f) (Ne.symm hb)).trans hu) ⟨_,q⟩ ?_
 exact⟨hz,Mu,_,hv,q⟩
theorem Inv.Uv (I:Inv X Ã σ H s)(hv:Vals ys its)(hz:ys.length<=sizeLine) :
  Inv X Ã σ (aj H s.heap.objs.size (.lst ys)) { s with heap:=s.heap.push { cls:=.type "list",data:=.seq its.toArray },toks:=t' } :=
 I.laid (λ _ _ q=>Â _ q) (Æ _) ⟨hz,its,0,hv,Î _ rfl⟩
theorem Inv.fresh (I:Inv X Ã σ H s):H s.heap.objs.size=none:=I.Č.fresh (Æ _)
theorem Inv.Sr (I:Inv X Ã σ H s)(hH:H l=some (.lst xs)):xs.length<=sizeLine/\∃(its:List Value)(n:Nat),Vals xs its/\xs.length=its.length/\s.heap.get? l=some { cls:=.type "list",data:=.seq its.toArray n }:=by
 obtain⟨z,its,n,r,e⟩:=I.Č l _ hH;exact⟨z,its,n,r,r.length,e⟩
end
section
variable {X:Cx}
def cW:V->List V->Hp->VK->Prop:=λ x vs H Q=>∃ l xs y,x=.ref l/\vs=[y]/\H l=some (.lst xs)/\xs.length<sizeLine/\Q .Ă (aj H l (.lst (xs ++ [y])))
theorem bQ:LX X "list.append" cW:=by
 intro Ã s σ H x vs v us Q I rx rv h;obtain⟨l,xs,y,rfl,rfl,hH,hz,q⟩:=h;cases rx;obtain⟨u,rfl,ru⟩:=rv.one;obtain⟨z,its,n,r,hl,e⟩:=I.Sr hH;refine call_meets F.slot_list_append ⟨_,e,rfl⟩ F.entry_list_append (F.args_list_append_2 _ _) (PySem.list_append l its.toArray n u (by rw [ñ];omega)) ⟨e,?_⟩
 refine⟨.Ă,_,I.WD hH e (by simp) (r.append (.cons ru .nil)) ?_,rfl,q⟩
 rw [Õ,L_];omega
def Hc:R2:=λ x y H Q=>∃ l b xs zs,x=.ref l/\y=.ref b/\H l=some (.lst xs)/\H b=some (.lst zs)/\xs.length+zs.length<=sizeLine/\∀ p,H p=none->Q (.ref p) (aj H p (.lst (xs++zs)))
theorem Ef:je X (binaryOp .Add) Hc:=by
 intro Ã s σ H x y v u Q I rx ry h;obtain⟨l,b,xs,zs,rfl,rfl,hH,hB,hz,q⟩:=h;cases rx;cases ry;obtain⟨z,its,n,r,hl,e⟩:=I.Sr hH;obtain⟨z2,Uz,n2,r2,NP,e2⟩:=I.Sr hB;refine PySem.P.add_list e e2 ?_ (by rw [ñ,ñ];omega)
 have ea:its.toArray++Uz.toArray=(its++Uz).toArray:=by simp
 rw [ea];exact⟨.ref _,_,I.Uv (r.append r2) (by rw [Õ];omega),rfl,q _ I.fresh⟩
end
section
variable {κ:Type} [DecidableEq κ]
def bP (ï:List (κ × V))(k:κ):Option V:=(ï.find? λ kv=>decide (kv.1=k)).map (·.2)
def bu (ï:List (κ × V))(k:κ)(v:V):List (κ × V) :=
 if(ï.any λ kv=>decide (kv.1=k))=true then ï.map (λ kv=>if kv.1=k then(kv.1,v) else kv) else ï ++ [(k,v)]
theorem bC {p:κ × V}(e:p.1=k):bP (p::r) k=some p.2:=by simp [bP,List.find?_cons,e]
theorem bD {p:κ × V}(e:¬ p.1=k):bP (p::r) k=bP r k:=by simp [bP,List.find?_cons,e]
theorem ft (k:κ):∀ ï:List (κ × V),(ï.any λ kv=>decide (kv.1=k))=(bP ï k).isSome
 | []=>rfl
 | p::r=>by
  rw [Ţ];by_cases e:p.1=k
  ·simp only [bC e,decide_eq_true e,Bool.true_or,Option.isSome_some]
  ·rw [bD e,Ò e,Bool.false_or];exact ft k r
theorem pi (k j:κ)(y:V):∀ ï:List (κ × V),bP (ï.map λ kv=>if kv.1=k then(kv.1,y) else kv) j=(bP ï j).map λ x=>if j=k then y else x
 | []=>rfl
 | p::r=>by
  have ih:=pi k j y r;rw [Ú];by_cases h:p.1=k
  ·rw [Ó h];by_cases e:p.1=j
   ·rw [bC (p:=(p.1,y)) e,bC e,F',Ó (e.symm.trans h)]
   ·rw [bD (p:=(p.1,y)) e,bD e,ih]
  ·rw [Ë h];by_cases e:p.1=j
   ·rw [bC e,bC e,F',Ë (λ z=>h (e.trans z))]
   ·rw [bD e,bD e,ih]
theorem kF (k j:κ)(y:V):∀ ï:List (κ × V),bP ï k=none->bP (ï ++ [(k,y)]) j=if j=k then some y else bP ï j
 | [],_=>by
  by_cases e:k=j
  ·rw [Ó e.symm];exact bC e
  ·rw [Ë (λ z=>e z.symm)];exact bD e
 | p::r,hn=>by
  rw [List.cons_append];have hk:¬ p.1=k:=λ z=>by rw [bC z] at hn;cases hn
  rw [bD hk] at hn;have ih:=kF k j y r hn;by_cases e:p.1=j
  ·rw [bC e,bC e,Ë (λ z=>hk (e.trans z))]
  ·rw [bD e,bD e,ih]
theorem nQ (ï:List (κ × V))(k j:κ)(y:V):bP (bu ï k y) j=if j=k then some y else bP ï j:=by
 unfold bu;by_cases a:(ï.any λ kv=>decide (kv.1=k))=true
 ·rw [Ó a,pi];rw [ft] at a;by_cases e:j=k
  ·obtain⟨x,hx⟩:=Ņ.mp a;rw [Ó e,e,hx,F',Ó rfl]
  ·rw [Ë e];cases bP ï j with
   | none=>rfl
   | some x=>rw [F',Ë e]
 ·rw [Ë a];refine kF k j y ï ?_;rw [ft] at a;cases q:bP ï k with
  | none=>rfl
  | some x=>rw [q] at a;exact(a rfl).elim
theorem cE (ï:List (κ × V))(k:κ)(v:V):(bu ï k v).length <= ï.length+1:=by
 unfold bu;split
 ·rw [Ä];omega
 ·rw [Õ,ì,Ι];omega
theorem Ű {ï:List (κ × V)}(v:V)(h:bP ï k=none):bu ï k v = ï ++ [(k,v)]:=by
 unfold bu;rw [ft,h];exact Ë ax
theorem ζ.x_ (r:ζ o u):o.isSome=u.isSome:=by
 cases o with
 | none=>cases u with
  | none=>rfl
  | some _=>exact(show False from r).elim
 | some _=>cases u with
  | none=>exact(show False from r).elim
  | some _=>rfl
theorem ζ.getD (r:ζ o u)(rd:RelV d d'):RelV (o.getD d) (u.getD d'):=by
 cases o with
 | none=>cases u with
  | none=>exact rd
  | some _=>exact(show False from r).elim
 | some _=>cases u with
  | none=>exact(show False from r).elim
  | some _=>exact r
theorem KV.val (r:KV ï vs)(k:κ):ζ (bP ï k) (valueAt vs k):=by
 induction r with
 | nil=>exact True.intro
 | @cons p q ps qs h t ih =>
  obtain⟨h1,h2⟩:=h;by_cases e:p.1=k
  ·have e':=h1.symm.trans e;have b:valueAt (q::qs) k=some q.2:=by simp [valueAt,List.find?_cons,e']
   rw [bC e,b];exact h2
  ·have e':¬ q.1=k:=λ z=>e (h1.trans z);have b:valueAt (q::qs) k=valueAt qs k:=by simp [valueAt,List.find?_cons,e']
   rw [bD e,b];exact ih
theorem KV.any {ï:List (κ × V)}{vs:List (κ × Value)}(r:KV ï vs)(k:κ):(ï.any λ kv=>decide (kv.1=k))=vs.any λ kv=>decide (kv.1=k):=by
 induction r with
 | nil=>rfl
 | cons h t ih=>rw [Ţ,Ţ,ih,h.1]
theorem KV.Sb (r:KV ï vs)(k:κ)(ry:RelV y u) :
  KV (ï.map λ kv=>if kv.1=k then(kv.1,y) else kv) (vs.map λ kv=>if kv.1=k then(kv.1,u) else kv):=by
 induction r with
 | nil=>exact .nil
 | @cons p q ps qs h t ih =>
  rw [Ú,Ú];refine .cons ?_ ih;obtain⟨h1,h2⟩:=h;by_cases e:p.1=k
  ·rw [Ó e,Ó (h1.symm.trans e)];exact⟨h1,ry⟩
  ·rw [Ë e,Ë (λ z=>e (h1.trans z))];exact⟨h1,h2⟩
theorem KV.put (r:KV ï vs)(k:κ)(ry:RelV y u):KV (bu ï k y) (stored vs k u):=by
 unfold bu stored;rw [r.any k];by_cases e:(vs.any λ kv=>decide (kv.1=k))=true
 ·rw [Ó e,Ó e];exact r.Sb k ry
 ·rw [Ë e,Ë e];exact Paired.snoc r ⟨rfl,ry⟩
theorem KV.length (r:KV ï vs):ï.length=vs.length:=Ś r
end
theorem jE (r:RelV (kV k) u):(bn P w).is k u=true:=by
 cases k with
 | inl i=>obtain⟨t,e⟩:=(show ∃ t,u=.int i t from r);subst e;exact ot P w i t
 | inr x=>obtain⟨t,e⟩:=(show ∃ t,u=.str x t from r);subst e;exact nZ P w x t
 | Ă=>cases (show u=.none from r);rfl
theorem kD:∀{ks:List Key}{us:List Value},Vals (ks.map kV) us->ItemsAre (bn P w) ks us
 | [],_,r=>by rw [u_] at r;cases r;exact .nil
 | k::ks,_,r=>by
  rw [Ú] at r;cases r with
  | cons h t=>exact .cons (jE h) (kD t)
abbrev KT (H:Hp):List (List NK × V)->List (List NK × Addr × Value)->Prop:=Paired λ p q=>p.1=q.1/\OG H p.1 q.2.1/\RelV p.2 q.2.2
theorem KT.val (r:KT H ï xs)(k:List NK):ζ (bP ï k) ((atKey xs k).map (·.2)):=by
 induction r with
 | nil=>exact True.intro
 | @cons p q ps qs h t ih =>
  obtain⟨h1,_,h2⟩:=h;by_cases e:p.1=k
  ·have e':=h1.symm.trans e;have b:atKey (q::qs) k=some q.2:=by simp [atKey,List.find?_cons,e']
   rw [bC e,b];exact h2
  ·have e':¬ q.1=k:=λ z=>e (h1.trans z);have b:atKey (q::qs) k=atKey qs k:=by simp [atKey,List.find?_cons,e']
   rw [bD e,b];exact ih
theorem KT.Sb (r:KT H ï xs)(k:List NK)(ry:RelV y u) :
  KT H (ï.map λ kv=>if kv.1=k then(kv.1,y) else kv) (xs.map (putAt k u)):=by
 induction r with
 | nil=>exact .nil
 | @cons p q ps qs h t ih =>
  rw [Ú,Ú];refine .cons ?_ ih;obtain⟨h1,h2,h3⟩:=h;unfold putAt;by_cases e:p.1=k
  ·rw [Ó e,Ó (h1.symm.trans e)];exact⟨h1,h2,ry⟩
  ·rw [Ë e,Ë (λ z=>e (h1.trans z))];exact⟨h1,h2,h3⟩
theorem KT.put (r:KT H ï xs)(k:List NK)(hb:OG H k b)(ry:RelV y u) :
  KT H (bu ï k y) (storedH xs k b u):=by
 have e:(ï.any λ kv=>decide (kv.1=k))=(atKey xs k).isSome:=by
  rw [ft,(r.val k).x_,Option.isSome_map]
 unfold bu storedH;rw [e];by_cases q:(atKey xs k).isSome=true
 ·rw [Ó q,Ó q];exact r.Sb k ry
 ·rw [Ë q,Ë q];exact Paired.snoc r ⟨rfl,hb,ry⟩
theorem KT.keeps (r:KT H ï xs)(ht:∀ b ys,H b=some (.tup ys)->H' b=some (.tup ys)):KT H' ï xs :=
 Paired.Pd r λ _ _ z=>⟨z.1,z.2.1.keep ht,z.2.2⟩
section
variable {P:Program}{w:World}{H:Hp}{h:Heap}{a:Addr}
theorem zA (ok:η P w H h)(e:Rd H a u):ă P w H h a u:=e.ok ok
theorem lF (ok:η P w H h)(e:Rd H a (.dK ï)):ï.length<=sizeLine/\(a==sysModules)=false/\∃ vs,KV ï vs/\h.DictOf (bn P w) a vs :=
 show ă P w H h a (.dK ï) from zA ok e
theorem Ao (ok:η P w H h)(e:H a=some (.dK ï)):ï.length<=sizeLine/\(a==sysModules)=false/\∃ vs,KV ï vs/\h.DictOf (bn P w) a vs:=lF ok (.inl e)
theorem iJ (ok:η P w H h)(e:OG H ks a):(iO P w).is h ks a:=by
 obtain⟨vs,e,r⟩:=e;obtain⟨lz,its,rv,o,h1,h2,n,h3⟩:=(show ă P w H h a (.tup vs) from ok a _ e);refine⟨o,its.toArray,n,h1,h2,h3,?_⟩
 clear h3 e lz
 induction r generalizing its with
 | nil=>cases rv;exact .nil
 | @cons k v ks vs z t ih =>
  cases rv with
  | cons rx rv =>
   refine .cons ?_ (ih _ rv);cases k with
   | k x =>
    cases (show v=kV x from z);exact jE rx
   | t ks =>
    obtain⟨b,rfl,q⟩:=z;cases rx;obtain⟨_,its,r,o,h1,h2,n,h3⟩:=(show ă P w H h b (.tup (ks.map kV)) from ok b _ q);exact⟨b,rfl,o,its.toArray,n,h1,h2,h3,by simpa using kD r⟩
theorem kY (ok:η P w H h)(e:Rd H a (.dT ï)):ï.length<=sizeLine/\(a==sysModules)=false /\
  ∃ xs,KT H ï xs/\h.DictOfH (iO P w) a xs:=by
 obtain⟨z,y,xs,r,o,es,ep,h1,h2,h3,h4,h5⟩:=(show ă P w H h a (.dT ï) from zA ok e);refine⟨z,y,xs,r,o,es,ep,h1,h2,h3,h4,λ x hx=>?_,h5⟩;have all:∀{l:List (List NK × V)}{m:List (List NK × Addr × Value)},KT H l m->∀ x∈m,(iO P w).is h x.1 x.2.1:=by
  intro l m q
  induction q with
  | nil=>intro x hx;exact nomatch hx
  | @cons p q ps qs hq t ih =>
   intro x hx;rcases é.mp hx with e | hx
   ·subst e;exact iJ ok (by rw [<- hq.1];exact hq.2.1)
   ·exact ih x hx
 exact all r x hx
theorem zU (ok:η P w H h)(e:H a=some (.dT ï)):ï.length<=sizeLine/\(a==sysModules)=false /\
  ∃ xs,KT H ï xs/\h.DictOfH (iO P w) a xs:=kY ok (.inl e)
end
def B_ (H:Hp)(a:Addr)(y:V)(r:Option V):Prop :=
 (∃ ï k,Rd H a (.dK ï)/\y=kV k/\r=bP ï k)\/∃ ï k b,Rd H a (.dT ï)/\y=.ref b/\OG H k b/\r=bP ï k
def su (H:Hp)(a:Addr)(y v:V)(H':Hp):Prop :=
 (∃ ï k,H a=some (.dK ï)/\y=kV k/\ï.length<sizeLine/\H'=aj H a (.dK (bu ï k v))) \/
 ∃ ï k b,H a=some (.dT ï)/\y=.ref b/\OG H k b/\ï.length<sizeLine/\H'=aj H a (.dT (bu ï k v))
theorem B_.k {ï:List (Key × V)}{k:Key}(e:H a=some (.dK ï)):B_ H a (kV k) (bP ï k):=.inl ⟨ï,k,.inl e,rfl,rfl⟩
section
variable {X:Cx}{Ã:List (Addr × Obj)}{σ:St}{H:Hp}{s:Shared}{a:Addr}{y v:V}{u r:Value}{o:Option V}{A:Around}{E:eE}
theorem Inv.big (I:Inv X Ã σ H s):sysModules<s.heap.objs.size:=by
 have h:=(I.mod.glob.keeps I.bk).lt;exact N3 ax h
theorem tV (hu:A.units+2<cLine)(I:Inv X Ã σ H s)(g:B_ H a y (some v))(ry:RelV y u)(h:∀ w' s',Inv X Ã σ H s'->RelV v w'->Q w' s') :
  wpAny (model X.prog X.w) A (getItem (.ref a) u) Q E s:=by
 rcases g with⟨ï,k,e,ey,l⟩ | ⟨ï,k,b,e,ey,eb,l⟩
 ·subst ey;obtain⟨z,hd,vs,rel,dd⟩:=lF I.Č e;obtain⟨w',hw,Pb⟩:=ζ.some_of (by rw [l];exact rel.val k)
  exact wpAny_getItem_of (jE ry) dd.mapOf hw (h w' _ (I.tok _) Pb)
 ·subst ey;cases (show u=.ref b from ry);obtain⟨z,hd,xs,rel,dd⟩:=kY I.Č e;obtain⟨w',hw,Pb⟩:=ζ.some_of (by rw [l];exact rel.val k)
  obtain⟨p,hp,hp2⟩:=å.mp hw;refine wpAny_getItem_heap hu (iJ I.Č eb) dd hp ?_;rw [hp2];exact h w' _ (I.tok _) Pb
theorem yi (hu:A.units+2<cLine)(I:Inv X Ã σ H s)(g:B_ H a y o)(ry:RelV y u)(h:∀ s',Inv X Ã σ H s'->Q (.bool (!o.isSome)) s') :
  wpAny (model X.prog X.w) A (compareOp .NotIn u (.ref a)) Q E s:=by
 rcases g with⟨ï,k,e,ey,l⟩ | ⟨ï,k,b,e,ey,eb,l⟩
 ·subst ey;obtain⟨z,hd,vs,rel,dd⟩:=lF I.Č e;refine wpAny_notIn_of (jE ry) hd dd.mapOf ?_;rw [<- (rel.val k).x_,<- l];exact h _ (I.tok _)
 ·subst ey;cases (show u=.ref b from ry);obtain⟨z,hd,xs,rel,dd⟩:=kY I.Č e;refine wpAny_notIn_heap hu (iJ I.Č eb) hd dd ?_;have q:=(rel.val k).x_;rw [Option.isSome_map] at q;rw [<- q,<- l];exact h _ (I.tok _)
theorem gI (I:Inv X Ã σ H s)(mu:Eo (H a))(hs:Heap.SameBut a s.heap h')(he:∃ q,h'.get? a=some q)(new:ă X.prog X.w (aj H a ob) h' a ob) :
  Inv X Ã σ (aj H a ob) { s with heap:=h',toks:=t' } :=
 I.write mu (.inl rfl) (λ b q hb z=>(hs.2 b hb).trans z) he new
theorem vg (z:ï.length<=sizeLine)(hd:(a==sysModules)=false)(rel:KV ï vs)(dd:h'.DictOf (bn P w) a vs) :
  ă P w H' h' a (.dK ï):=⟨z,hd,vs,rel,dd⟩
theorem sE (hu:A.units+2<cLine)(I:Inv X Ã σ H s)(g:su H a y v H')(ry:RelV y u)(rv:RelV v r)(h:∀ s',Inv X Ã σ H' s'->Q () s') :
  wpAny (model X.prog X.w) A (setItem (.ref a) u r) Q E s:=by
 rcases g with⟨ï,k,e,ey,l,eH⟩ | ⟨ï,k,b,e,ey,eb,l,eH⟩
 ·subst ey eH;obtain⟨z,hd,vs,rel,dd⟩:=Ao I.Č e;have hz:vs.length<=sizeLine:=by rw [<- rel.length];exact z
  have hl:(bu ï k v).length<=sizeLine:=by have:=cE ï k v;omega
  refine wpAny_setItem_pairs (jE ry) dd λ h' QV hs=>h _ ?_;have he:∃ q,h'.get? a=some q:=let ⟨q,_,_,hq,_⟩:=QV;⟨q,hq⟩
  exact gI I (by rw [e];exact True.intro) hs he (vg hl hd (rel.put k rv) QV)
 ·subst ey eH;cases (show u=.ref b from ry);obtain⟨z,hd,xs,rel,dd⟩:=zU I.Č e;have hz:xs.length<=sizeLine:=by rw [<- Ś rel];exact z
  have hl:(bu ï k v).length<=sizeLine:=by have:=cE ï k v;omega
  refine wpAny_setItem_heap hu (iJ I.Č eb) dd λ h' QV hs=>h _ ?_;obtain⟨q,es,ep,hq,h2,h3,h4,_,h5⟩:=QV;refine gI I (by rw [e];exact True.intro) hs ⟨q,hq⟩ ⟨hl,hd,_,(rel.put k eb rv).keeps λ c ys ec=>?_,q,es,ep,hq,h2,h3,h4,h5⟩
  rw [ad (zB ec e (λ z=>nomatch z))];exact ec
end
def Gq (i:Expr):Prop:=∀ ov iv,subscripted i false ov iv=operate [ov,iv] (getItem ov iv)
theorem zc {T id:String}
  (hl:typeLookup (.type T) "__getitem__" = pure (some (.builtin id))) (hs:Gq slice)
  (h:wpAny (model prog w) A (eval value env) (λ o ġ=>wpAny (model prog w) A (eval slice env) (λ i ς=>ς.TypeIs o T/\wpAny (model prog w) A (getItem o i) Q E ς) E ġ) E s) :
  wpAny (model prog w) A (eval (.Subscript value slice pos) env) Q E s:=by
 refine Subscript_ (Ń h (λ o ġ Ο=>Ń Ο (λ i ς z_=>?_) λ _ _ x=>x) λ _ _ x=>x);obtain⟨hT,z_⟩:=z_;refine À ?_;rw [getitemInPython_of_ne hT.not_modules];refine À (Ų hT hl ?_);have fin:wpAny (model prog w) A (subscripted slice false o i) (λ r MJ=>wpAny (model prog w) A (letTemporaryGo value o r >>= λ _=>pure r) Q E MJ) E ς:=by
  rw [hs o i];exact wpAny_operating (Ń z_ (λ r MJ y_=>À (wpAny_letTemporaryGo (Á y_))) λ _ _ x=>x)
 first
  | exact Á (À fin)
  | exact À (Á (À fin))
  | exact À fin
theorem oM (I:Inv X Ã σ H s)(g:B_ H a y o):s.TypeIs (.ref a) "dict" := by
 rcases g with⟨ï,k,e,_,_⟩ | ⟨ï,k,b,e,_,_,_⟩
 ·obtain⟨_,_,vs,_,dd⟩:=lF I.Č e;exact dd.typeIs
 ·obtain⟨_,_,xs,_,dd⟩:=kY I.Č e;exact dd.typeIs
def oG (td ty:TE):TE:=λ σ H Q=>td σ H λ x H1=>ty σ H1 λ y H2=>∃ a v,x=.ref a/\B_ H2 a y (some v)/\Q v H2
def rJ (ty td:TE):TE:=λ σ H Q=>ty σ H λ y H1=>td σ H1 λ x H2=>∃ a o,x=.ref a/\B_ H2 a y o/\Q (.bl (!o.isSome)) H2
def lG (td ty tv:TE):TS:=λ D σ H=>tv σ H λ v H1=>td σ H1 λ x H2=>ty σ H2 λ y H3=>∃ a H4,x=.ref a/\su H3 a y v H4/\D.nx σ H4
section
variable {X:Cx}{o i e value:Expr}{pos pos' Wi:Pos}{td ty tv:TE}
theorem iE (hu:X.A.units+2<cLine)(ho:PE X o td)(hi:PE X i ty)(hs:Gq i:=by exact λ _ _=>rfl):PE X (.Subscript o i pos) (oG td ty):=by
 intro Ã s σ H Q I h;refine zc PySem.F.slot_dict_getitem.lookup hs (bt (ho Ã s σ H _ I h) λ u s1 ⟨x,H1,I1,rx,q1⟩=>bt (hi Ã s1 σ H1 _ I1 q1) λ iv s2 ⟨y,H2,I2,ry,a,v,ex,g,q2⟩=>?_);subst ex;obtain rfl:u=.ref a:=rx;exact⟨oM I2 g,tV hu I2 g ry λ w' s3 I3 Pb=>⟨v,H2,I3,Pb,q2⟩⟩
theorem kP (hu:X.A.units+2<cLine)(hi:PE X i ty)(ho:PE X o td):PC X .NotIn i o (rJ ty td):=by
 intro Ã s σ H Q I h;refine bt (hi Ã s σ H _ I h) λ iv s1 ⟨y,H1,I1,ry,q1⟩=>bt (ho Ã s1 σ H1 _ I1 q1) λ u s2 ⟨x,H2,I2,rx,a,ov,ex,g,q2⟩=>?_;subst ex;obtain rfl:u=.ref a:=rx;exact yi hu I2 g ry λ s3 I3=>⟨.bl (!ov.isSome),H2,I3,rfl,q2⟩
theorem iD (hu:X.A.units+2<cLine)(ho:PE X o td)(hi:PE X i ty)(hv:PE X value tv)(hs:swapsWith value (some (.Subscript o i pos')) pos.line X.env=pure false) :
  PS X (.Assign [.Subscript o i pos'] value pos) (lG td ty tv):=by
 intro Ã s σ H D I h;refine wpAny_Assign_Subscript (bt (hv Ã s σ H _ I h) λ r s1 ⟨v,H1,I1,rv,q1⟩=>bt (ho Ã s1 σ H1 _ I1 q1) λ u s2 ⟨x,H2,I2,rx,q2⟩=>bt (hi Ã s2 σ H2 _ I2 q2) λ iv s3 ⟨y,H3,I3,ry,a,H4,ex,g,q3⟩=>?_) hs;subst ex;obtain rfl:u=.ref a:=rx;exact sE hu I3 g ry rv λ s4 I4=>⟨σ,H4,I4,q3⟩
end
theorem oy (h:Heap)(hb:sysModules<h.objs.size):ă P w H (h.push { cls:=.type "dict",data:=.dict #[] }) h.objs.size (.dK []) :=
 ⟨Đ _,ċ.mpr (Ne.symm (ê hb)),[],.nil,Heap.DictOf.new h⟩
theorem jO (h:Heap)(hb:sysModules<h.objs.size):ă P w H (h.push { cls:=.type "dict",data:=.dict #[] }) h.objs.size (.dT []) :=
 ⟨Đ _,ċ.mpr (Ne.symm (ê hb)),[],.nil,_,#[],0,Î _ rfl,⟨rfl,rfl,rfl⟩,rfl,rfl,PD⟩
def DP:TE:=λ _ H Q=>∀ p,H p=none->Q (.ref p) (aj H p (.dK []))
def fH:TE:=λ _ H Q=>∀ p,H p=none->Q (.ref p) (aj H p (.dT []))
section
variable {X:Cx}{pos:Pos}
theorem wr:PE X (.Dict [] [] pos) DP:=λ Ã s σ H Q I h =>
 wpAny_Dict_empty ⟨.ref s.heap.objs.size,_,I.laid (λ _ _ q=>Â _ q) (Æ _) (oy s.heap I.big),rfl,h _ (I.Č.fresh (Æ _))⟩
theorem gk:PE X (.Dict [] [] pos) fH:=λ Ã s σ H Q I h =>
 wpAny_Dict_empty ⟨.ref s.heap.objs.size,_,I.laid (λ _ _ q=>Â _ q) (Æ _) (jO s.heap I.big),rfl,h _ (I.Č.fresh (Æ _))⟩
end
def mq:List (TE × TE)->St->Hp->(List (V × V)->Hp->Prop)->Prop
 | [],_,H,Q=>Q [] H
 | (tk,tv)::r,σ,H,Q=>tk σ H λ x H1=>tv σ H1 λ y H2=>mq r σ H2 λ ps H3=>Q ((x,y)::ps) H3
abbrev VV:List (V × V)->List (Value × Value)->Prop:=Paired λ p q=>RelV p.1 q.1/\RelV p.2 q.2
def Iw (X:Cx)(pos:Pos)(keys:List (Option Expr))(values:List Expr)(R1:List (TE × TE)):Prop :=
 ∀(Ã:List (Addr × Obj))(s:Shared)(σ:St)(H:Hp)(Q:List (V × V)->Hp->Prop),Inv X Ã σ H s->mq R1 σ H Q ->
  wpAny (model X.prog X.w) X.A (evalPairs (pairTrees keys values X.env pos)) (λ vs s'=>∃ ps H',Inv X Ã σ H' s'/\VV ps vs/\Q ps H') X.xe s
theorem lQ:Iw X pos [] [] []:=λ Ã s σ H Q I h=>pairTrees_nil_walk ⟨[],H,I,.nil,h⟩
theorem eX (hk:PE X k tk)(hv:PE X v tv)(hr:Iw X pos ks vs R1) :
  Iw X pos (some k::ks) (v::vs) ((tk,tv)::R1):=λ Ã s σ H Q I h =>
 pairTrees_cons_walk (bt (hk Ã s σ H _ I h) λ u s1 ⟨x,H1,I1,rx,q1⟩=>bt (hv Ã s1 σ H1 _ I1 q1) λ w2 s2 ⟨y,H2,I2,ry,q2⟩ =>
  bt (hr Ã s2 σ H2 _ I2 q2) λ ws s3 ⟨ps,H3,I3,rel,q3⟩=>⟨(x,y)::ps,H3,I3,.cons ⟨rx,ry⟩ rel,q3⟩)
def gP (ï more:List (Key × V)):List (Key × V):=more.foldl (λ acc kv=>bu acc kv.1 kv.2) ï
theorem KV.merge:∀{more:List (Key × V)}{rs:List (Key × Value)}{ï:List (Key × V)}{vs:List (Key × Value)},KV more rs->KV ï vs->KV (gP ï more) (merged vs rs):=by
 intro more rs ï vs r
 induction r generalizing ï vs with
 | nil=>intro q;exact q
 | @cons p q ps qs h t ih =>
  intro r0;have e:KV (bu ï p.1 p.2) (stored vs q.1 q.2):=by
   have:=r0.put p.1 h.2;rw [<- h.1];exact this
  exact ih e
theorem gN:∀(more ï:List (Key × V)),(gP ï more).length <= ï.length+more.length
 | [],ï=>by show ï.length <= ï.length+0;omega
 | p::r,ï=>by
  have h1:=gN r (bu ï p.1 p.2);have h2:=cE ï p.1 p.2;show(gP (bu ï p.1 p.2) r).length<=_;rw [ì];omega
theorem jL:∀{ï:List (Key × V)}{ws:List (Value × Value)},VV (ï.map λ kv=>(kV kv.1,kv.2)) ws->∃ rs,Carries (bn P w) ws rs/\KV ï rs
 | [],_,r=>by rw [u_] at r;cases r;exact⟨[],True.intro,.nil⟩
 | p :: ï,_,r=>by
  rw [Ú] at r;cases r with
  | @cons a b as bs h t =>
   obtain⟨rs,c,q⟩:=jL t;obtain⟨b1,b2⟩:=b;exact⟨(p.1,b2)::rs,⟨jE h.1,rfl,c⟩,.cons ⟨rfl,h.2⟩ q⟩
def zY (R1:List (TE × TE)):TE:=λ σ H Q=>∀ p,H p=none->mq R1 σ (aj H p (.dK [])) λ ps H2=>H2 p=some (.dK [])/\∃ ï:List (Key × V),ps = ï.map (λ kv=>(kV kv.1,kv.2))/\ï.length<=15/\Q (.ref p) (aj H2 p (.dK (gP [] ï)))
theorem re (h:Iw X pos keys values R1)(Pj:keys.all (·.isSome)=true)(hl:keys.length=values.length)(h0:keys ≠ [])
  (h15:keys.length<=15):PE X (.Dict keys values pos) (zY R1):=by
 intro Ã s σ H Q I q;have hn:=I.Č.fresh (Æ s.heap.objs.size);have I1:=I.laid (a:=s.heap.objs.size) (o:=.dK []) (h':=s.heap.push { cls:=.type "dict",data:=.dict #[] }) (t':=s.toks) (λ _ _ q=>Â _ q) (Æ _) (oy s.heap I.big);refine wpAny_Dict_walk (knd:=bn X.prog X.w) Pj hl h0 h15 (bt (h Ã _ σ _ _ I1 (q _ hn)) λ ws s2 ⟨ps,H2,I2,rel,e,ï,ep,lk,q2⟩=>?_);subst ep;obtain⟨rs,c,rk⟩:=jL rel;obtain⟨z,hd,vs0,r0,dd⟩:=Ao I2.Č e;cases r0;refine⟨rs,c,dd,λ h' QV hs=>⟨.ref s.heap.objs.size,_,?_,rfl,q2⟩⟩;have hz:(gP [] ï).length<=sizeLine:=by
  have h1:=gN ï [];rw [Ι] at h1;rw [Ü];omega
 have he:∃ q,h'.get? s.heap.objs.size=some q:=let ⟨q,_,_,hq,_⟩:=QV;⟨q,hq⟩
 exact gI I2 (by rw [e];exact True.intro) hs he (vg hz hd (rk.merge .nil) QV)
structure M1 (X:Cx)(o:Expr)(m:Str)(ő:Pos)(e:Expr)(ş:Pos):Prop where
 base:attributeBase o m X.env (eval o X.env)=eval o X.env
 Zh:((backTo ş (starEach [e] X.env)).all (λ x=>!x.1)&&(backToKw ş (keywordEach [] X.env)).all (λ x=>x.1.isSome)
  && decide (([e]:List Expr).length+([]:List Keyword).length+(if([]:List Keyword).isEmpty then 0 else 1)<30))=true
 line:(ő.endLine == ş.line)=true
 trees:backTo ş (starEach [e] X.env)=[(false,eval e X.env)]
structure M2 (X:Cx)(o:Expr)(m:Str)(ő:Pos)(e f:Expr)(ş:Pos):Prop where
 base:attributeBase o m X.env (eval o X.env)=eval o X.env
 Zh:((backTo ş (starEach [e,f] X.env)).all (λ x=>!x.1)&&(backToKw ş (keywordEach [] X.env)).all (λ x=>x.1.isSome)
  && decide (([e,f]:List Expr).length+([]:List Keyword).length+(if([]:List Keyword).isEmpty then 0 else 1)<30))=true
 line:(ő.endLine == ş.line)=true
 trees:backTo ş (starEach [e,f] X.env)=[(false,eval e X.env),(false,eval f X.env)]
def Lc (H:Hp)(a:Addr):Prop:=(∃ ï,Rd H a (.dK ï))\/∃ ï,Rd H a (.dT ï)
theorem Di (I:Inv X Ã σ H s)(d:Lc H a) :
  s.TypeIs (.ref a) "dict" /\ (∀ b,Value.ref a=.ref b->∃ ob,s.heap.get? b=some ob/\ob.dict=none)/\(a==sysModules)=false:=by
 rcases d with⟨ï,e⟩ | ⟨ï,e⟩
 ·obtain⟨_,hd,vs,_,dd⟩:=lF I.Č e;refine⟨dd.typeIs,λ b q=>?_,hd⟩;cases q;obtain⟨ob,_,_,h1,h2,_⟩:=dd;exact⟨ob,h1,h2.2.1⟩
 ·obtain⟨_,hd,xs,_,dd⟩:=kY I.Č e;refine⟨dd.typeIs,λ b q=>?_,hd⟩;cases q;obtain⟨ob,_,_,h1,h2,_⟩:=dd;exact⟨ob,h1,h2.2.1⟩
section
variable {X:Cx}{Ã:List (Addr × Obj)}{σ:St}{H:Hp}{s:Shared}{a:Addr}{y d:V}{u r:Value}{o:Option V}{A:Around}{E:eE}
theorem Cw (hu:A.units+2<cLine)(I:Inv X Ã σ H s)(g:B_ H a y o)(ry:RelV y u)(rd:RelV d r)(h:∀ w' s',Inv X Ã σ H s'->RelV (o.getD d) w'->Q w' s') :
  wpAny (model X.prog X.w) A (call (.builtin "dict.get") [.ref a,u,r]) Q E s:=by
 rcases g with⟨ï,k,e,ey,l⟩ | ⟨ï,k,b,e,ey,eb,l⟩
 ·subst ey;obtain⟨z,hd,vs,rel,dd⟩:=lF I.Č e;refine i_ J_ dd.typeIs RL (Q6 _ _ _) (meets_dict_get_default (bn X.prog X.w) a (jE ry) hd r) ⟨_,dd.mapOf,h _ _ (I.tok _) ?_⟩;rw [l];exact(rel.val k).getD rd
 ·subst ey;cases (show u=.ref b from ry);obtain⟨z,hd,xs,rel,dd⟩:=kY I.Č e;refine i_ J_ dd.typeIs RL (Q6 _ _ _) (meetsH_dict_get_default (iO X.prog X.w) a b hd r) ⟨hu,k,xs,iJ I.Č eb,dd,h _ _ (I.tok _) ?_⟩;rw [l];exact(rel.val k).getD rd
end
def qC (td ty tx:TE):TE:=λ σ H Q=>td σ H λ x H1=>∃ a,x=.ref a/\Lc H1 a/\ty σ H1 λ y H2=>tx σ H2 λ z H3=>∃ o,B_ H3 a y o/\Q (o.getD z) H3
section
variable {X:Cx}{o e f:Expr}{ő ş:Pos}{td ty tx:TE}
theorem pz (hu:X.A.units+2<cLine)(ho:PE X o td)(he:PE X e ty)(hf:PE X f tx)(m:M2 X o "get" ő e f ş):PE X (.Call (.Attribute o "get" ő) [e,f] [] ş) (qC td ty tx):=by
 intro Ã s σ H Q I h;refine wpAny_Call_method m.base m.Zh m.line ũ J_ PySem.F.type_dict_get (bt (ho Ã s σ H _ I h) λ u s1 ⟨x,H1,I1,rx,a,ex,d,q1⟩=>?_);subst ex;obtain rfl:u=.ref a:=rx;obtain⟨t1,t2,_⟩:=Di I1 d;refine⟨t1,t2,?_⟩;rw [m.trees];refine ŕ rfl (Calls.evalArgs_plain (O_ (bt (he Ã s1 σ H1 _ I1 q1) λ iv s2 ⟨y,H2,I2,ry,q2⟩ =>
  O_ (bt (hf Ã s2 σ H2 _ I2 q2) λ fv s3 ⟨z,H3,I3,rz,ov,g,q3⟩=>Calls.spliced_nil ?_))))
 exact Cw hu I3 g ry rz λ w' s4 I4 Pb=>⟨_,H3,I4,Pb,q3⟩
end
end L2
namespace Att
open PySem PySem.W PySem.Calls PyProof.Rows
theorem jf:∀(ns:List Int)(vs:List Value),WellAll P h vs (ns.map WData.int)->IntsAre vs ns:=by
 intro ns
 induction ns with
 | nil =>
  intro vs w;rw [u_] at w;cases w;exact .nil
 | cons n ns ih =>
  intro vs w;rw [Ú] at w;cases w with
  | cons a b =>
   cases a;exact .cons _ _ (ih _ b)
theorem sR {l:OpenLaw}(hn:l.most=some n)
  (QK:l.row.toRowW.claim.pre args=true) (WQ:WellAll P h vals args) :
  ∃ a vs ns,vals=[Value.ref a]/\args=[WData.list (ns.map WData.int)]/\h.get? a=some { cls:=.type "list",data:=.seq vs.toArray }/\IntsAre vs ns/\ns.length<=n:=by
 have hsh:=(pre_splitW QK).1;have hc:=(pre_splitW QK).2;obtain⟨d,r,rfl,h1,h2⟩:=hasAllW_cons hsh;obtain rfl:=hasAllW_nil h2;obtain⟨xs,rfl,h3⟩:=hasW_list h1;obtain⟨ns,rfl⟩:=items_int h3;have ľ:ns.length<=n:=by
  have h4:(WTm.not (.lt (.lit (.int (n:Int))) (.len (.arg 0)))).holds [] { args:=[.list (ns.map .int)] }=true:=by
   have h4:=(holds_andW hc).1;rw [hn] at h4;exact h4
  have h5:=condW_of h4 (w_not (w_lt w_lit (w_len_list (w_arg rfl))));rw [Ä] at h5;refine Nat.le_of_not_lt λ q=>?_;have q':(n:Int)<((ns.length:Nat):Int):=af
  first
   | (rw [Ç q'] at h5;exact absurd h5 ax)
   | (simp at h5;omega)
 cases WQ with
 | cons w1 w2 =>
  cases w2;cases w1 with
  | list ho Pj=>exact⟨_,_,ns,rfl,rfl,ho,jf ns _ Pj,ľ⟩
theorem sO (l:OpenLaw)(args:List WData):l.row.toRowW.claim.post args (.bool true) args=true :=
 postW_of
  (show WShape.has [] (.bool true) .bool=true by first | rfl | decide | simp [WShape.has,WShape.arms,WShape.armsAll])
  (show(WTm.eq .res (.lit (.bool true))).value [] { args:=args,res:=some (.bool true),after:=args }=some (.bool (true==true)) from w_eq_bool (w_res rfl) w_lit) rfl
end Att
namespace L2
open PySem PySem.Spec PyProof.Rows
theorem lH:∀{vs:List Value}{ns:List Int},IntsAre vs ns->Vals (ns.map V.int) vs
 | _,_,.nil=>.nil
 | _,_,.cons n t h=>.cons ⟨t,rfl⟩ (lH h)
def CZ (H:Hp):Prop:=∀ b,H b=none\/∃ o xs,H b=some (.Ŭ o (.lst xs))
def bw (s:Stmt)(j:Nat):Stmt:=match s with
 | .ClassDef _ _ _ body _ _ _ _ _ _ _=>body.getD j (.Pass ⟨0,0,0,0⟩)
 | _=>.Pass ⟨0,0,0,0⟩
def dD (s:Stmt):Arguments:=match s with
 | .FunctionDef _ a _ _ _ _ _ _ _ _=>a
 | _=>{ posonlyargs:=[],args:=[],vararg:=none,kwonlyargs:=[],kw_defaults:=[],kwarg:=none,defaults:=[] }
def aI (s:Stmt):List Stmt:=match s with
 | .FunctionDef _ _ b _ _ _ _ _ _ _=>b
 | _=>[]
def aa (s:Stmt):Scope:=match s with
 | .FunctionDef _ _ _ _ _ _ sc _ _ _=>sc
 | _=>{ kind:=.function,names:=[],isGenerator:=false,isCoroutine:=false }
abbrev aB:pB:=λ _ _ _ _ _ _=>False
abbrev E0:XK:=λ _ _ _=>False
theorem ag:eO aB X E0:=λ _ _ _ _ _ _ _ h=>h.elim
structure ĵ (K:PySem.W.Frag)(x qual:Str)(st:Stmt)(f:Addr)(fd:FuncData):Prop where
 ex:∃(oc:Value)(od:Option Addr)(kV doc pm:Value)(an:Option Addr)(cdv ct:Value)(Sg:Array (Option Value)),
  fd=PySem.W.fnOf x qual (dD st) (aI st) (aa st) .none kV doc pm an cdv ct/\K.lookup f=some ⟨oc,od,.func fd,Sg⟩/\PySem.W.codeIn K cdv qual=true
 kp:PySem.W.keepIn K (.ref f)=true
section
variable {P:Program}{w:World}{K:PySem.W.Frag}{mg:cr}{base:Heap}
theorem ĵ.ok {st:Stmt}(F:ĵ K x qual st f fd)(S:ai N ps (aa st))(len:∀ vs H Q E,sp vs H Q E->vs.length=ps.length)
  (r_:∀(cdv:Value)(A:Around)(outer:List Env)(s:Shared)(H:Hp)(vs:List V)(Q:VK)(E:XK),ć k (A.deeper (envOfC qual (aa st) s.heap.objs.size f cdv))->sp vs H Q E ->
   ∃ t,ſ (bR aB P w K mg base N qual (aa st) f cdv A outer s H E).Φ (aI st) t/\t { nx:=λ _ H'=>Q .Ă H',rt:=Q } (gp N vs) H):í P w K mg base aB (k+1) f fd ps sp:=by
 obtain⟨oc,od,kV,doc,pm,an,cdv,ct,Sg,rfl,lk,Pi⟩:=F.ex;refine zP lk Pi S len λ A outer s H vs Q E hr MC=>?_;obtain⟨t,h,q⟩:=r_ cdv A outer s H vs Q E hr MC;exact⟨t,h.Φ,q⟩
theorem bX {st:Stmt}(F:ĵ K x qual st f fd)(S:ai N ps (aa st))
  (r_:∀(cdv:Value)(A:Around)(outer:List Env)(s:Shared)(H:Hp)(vs:List V)(Q:VK)(E:XK),ć k (A.deeper (envOfC qual (aa st) s.heap.objs.size f cdv))->sp vs H Q E ->
   ∃ t,ſ (bR aB P w K mg base N qual (aa st) f cdv A outer s H E).Φ (aI st) t/\t { nx:=λ _ H'=>Q .Ă H',rt:=Q } (gp N vs) H) (len:∀ vs H Q E,sp vs H Q E->vs.length=ps.length:=by intro vs H Q E h;repeat (first | (obtain⟨rfl,_⟩:=h;rfl) | (obtain⟨_,h⟩:=h))):í P w K mg base aB (k+1) f fd ps sp:=F.ok S len r_
theorem ĵ.binds {st:Stmt}(F:ĵ K x qual st f fd)
  (h:∀(kV doc pm:Value)(an:Option Addr)(cdv ct:Value)(us:List Value),us.length=ps.length->bindArgs (PySem.W.fnOf x qual (dD st) (aI st) (aa st) .none kV doc pm an cdv ct) ⟨us,[]⟩=pure (ps.zip us)):Binds K fd ps []:=by
 obtain⟨oc,od,kV,doc,pm,an,cdv,ct,Sg,rfl,lk,Pi⟩:=F.ex;exact .all (h kV doc pm an cdv ct)
theorem A_ {x qual:Str}{st:Stmt}{kV doc pm cdv ct:Value}(l:K.lookup f=some ⟨oc,od,.func (PySem.W.fnOf x qual (dD st) (aI st) (aa st) .none kV doc pm an cdv ct),Sg⟩)
  (c:PySem.W.codeIn K cdv qual=true) (k:PySem.W.keepIn K (.ref f)=true):ĵ K x qual st f (PySem.W.fnOf x qual (dD st) (aI st) (aa st) .none kV doc pm an cdv ct):=⟨⟨oc,od,kV,doc,pm,an,cdv,ct,Sg,rfl,l,c⟩,k⟩
end
theorem HQ (hr:ć k A):A.units+1<cLine:=ι (Nat.add_le_add_left (by decide:1<=64) _) hr.units
section
variable {X:Cx}
theorem pv (i:Nat)(hN:X.N[i]?=some x:=by rfl)(hv:EM X.env.scope x:=by first | exact Or.inl rfl | exact Or.inr (Or.inl rfl) | exact Or.inr (Or.inr rfl))(hd:(x==("__debug__" : Str))=false:=by decide)
  (Pi:(x==("__classdict__" : Str))=false:=by decide):PE X (.Name x pos) (ae i):=AT hN hv hd Pi
end
theorem fR {c A B:Prop} [Decidable c] (h1:c->A)(h2:¬ c->B):if c then A else B:=by
 by_cases h:c
 ·rw [Ó h];exact h1 h
 ·rw [Ë h];exact h2 h
section
variable {κ:Type} [DecidableEq κ]
theorem rV {ï:List (κ × V)}(h:bP ï k=some v):k ∈ ï.map (·.1):=by
 have q:(ï.any λ kv=>decide (kv.1=k))=true:=by
  rw [ft,h]
  all_goals rfl
 obtain⟨p,hp,e⟩:=o_.mp q;exact æ.mpr ⟨p,hp,ë e⟩
end
end L2
set_option maxHeartbeats 4000000
namespace Att
open PySem PySem.W PySem.Calls PyProof.Rows
theorem qh (r:ReadsAllW R cl h [.ref a] [.list ds] as):a∈as:=by
 cases r with
 | cons r1 r2 =>
  cases r1 with
  | list=>simp
theorem NT {l:OpenLaw}
  (hn:l.most=some n) (UV:d.params.defaults=[])
  (call:∀(w:World)(ŝ ġ:Shared)(mg mb:cr)(fa:Addr)(o:Obj)(pm cd doc:Value)(a:Addr)(vs:List Value)(ns:List Int),
   Ground q loose [] XP w ŝ mg mb ġ.heap->YP w ġ.heap ->
   ġ.heap.get? fa=some o->o.data=.func (docDef d.name d.params d.body d.scope pm cd doc)->ġ.heap.CodeRec cd d.name->mg d.name=some (.ref fa) ->
   ġ.heap.get? a=some { cls:=.type "list",data:=.seq vs.toArray }->IntsAre vs ns->ns.length<=n->ġ.gens = #[]->a≠sysModules ->
   codeAny (model l.prog w) callerA (.call (.ref fa) ⟨[.ref a],[]⟩) (λ r s'=>r=.ok (.ret (.bool true))/\OldK ġ.heap s'.heap/\s'.os = ġ.os/\AllBare s'.gens) ġ) :
  WalkO q loose XP YP l.row.toRowW d [] (λ f vs=>PySem.call f vs):=by
 intro w ŝ ġ mg mb G Y fa o pm cd doc dV kV ho hd Pi hD UL hg args vals as QK aa2 hrd WQ hlo;obtain rfl:dV=.none:=Dflts.none hD UV;obtain rfl:kV=.none:=Dflts.noKw hD;obtain⟨a,vs,ns,rfl,rfl,SA,hints,ľ⟩:=sR hn QK WQ;have low:=ċ.mp (hlo a (qh hrd));refine enter_call (Β (call w ŝ ġ mg mb fa o pm cd doc a vs ns G Y ho (fd_plain hd) Pi UL SA hints ľ hg low) λ r s' hq=>?_);obtain⟨rfl,h2,h3,h4⟩:=hq;exact⟨.inl ⟨.bool true,.bool true,[],rfl,λ _=>rfl,.bool true,sO l _,λ _=>⟨List.Pairwise.nil,λ _ hm=>(nomatch hm)⟩⟩,h2,h3,h4⟩
end Att
namespace L2
open PySem PySem.Spec PyProof.Rows
theorem sJ {K:PySem.W.Frag}
  (KX:K.In ġ.heap) (YU:ġ.heap.Ns mainGlobals mg) (hb:ġ.heap.Ns builtinsNs mb) (hbb:∀ x:Str,x ≠ "__name__" -> mb x=bootBuiltins x) (W_:ġ.heap.NoLimit) (hg:ġ.gens = #[])
  (ha:ġ.heap.get? a=some { cls:=.type "list",data:=.seq vs.toArray }) (hi:IntsAre vs ns) (hl:ns.length<=sizeLine) (hr:ć k callerA) (low:a≠sysModules)
  (F:∀ base:Heap,K.In base->base.Ns mainGlobals mg->í P w K mg base CX k fa fd [x] sp) (UX:∀(s:Shared)(u:Value),BindsTo s fd ⟨[u],[]⟩ [(x,u)])
  (MC:∀ H:Hp,CZ H->Ċ K H a (ns.map V.int)->H sysModules=none->sp [.ref a] H (λ v _=>v=.bl true) λ _ _ _=>False)
  (Xw:∀ H e s',CX [] H ġ (λ _ _ _=>False) e s'->False) :
  codeAny (model P w) callerA (.call (.ref fa) ⟨[.ref a],[]⟩) (λ r s'=>r=.ok (.ret (.bool true))/\OldK ġ.heap s'.heap/\s'.os = ġ.os/\AllBare s'.gens) ġ:=by
 have rv:=lH hi;have WF:=hi.length;have core:∀ H:Hp,CZ H->Ċ K H a (ns.map .int)->η P w H ġ.heap->(∀ b,H b≠none->b=a)->(H a≠none->K.lookup a=none) ->
   codeAny (model P w) callerA (.call (.ref fa) ⟨[.ref a],[]⟩) (λ r s'=>r=.ok (.ret (.bool true))/\OldK ġ.heap s'.heap/\s'.os = ġ.os/\AllBare s'.gens) ġ:=by
  intro H hO hS Č hA hK;have hz:H sysModules=none:=by
   cases q:H sysModules with
   | none=>rfl
   | some u=>exact absurd (hA _ (by rw [q];simp)).symm low
  have O3:∀{b:Addr}{o:Obj},ġ.heap.get? b=some o->H b=none->(n9 ġ.heap H).get? b=some o:=λ e n=>vT e n;have Uf:∀{b:Addr}{o:Obj}{es:Array DictEntry}{ep:Nat},ġ.heap.get? b=some o->o.data=.dict es ep->H b=none:=λ {b o es ep} e d=>by
   cases q:H b with
   | none=>rfl
   | some u =>
    have e':=hA b (by rw [q];simp)
    subst e';rw [ha] at e;cases e;have d':=d;cases d'
  have M6:∀{b:Addr}{m:cr},ġ.heap.Ns b m->(n9 ġ.heap H).Ns b m:=λ {b m} ⟨o,es,ep,e,d,r⟩=>⟨o,es,ep,O3 e (Uf e d),d,r⟩;have Za:=λ b o e=>O3 (KX b o e) (by
   cases q:H b with
   | none=>rfl
   | some u =>
    have e':=hA b (by rw [q];simp)
    subst e';rw [hK (by rw [q];simp)] at e;cases e)
  have hM:Mod K mg (n9 ġ.heap H):=⟨Za,M6 YU,⟨mb,M6 hb,hbb⟩,let ⟨mc,h1,h2⟩:=W_;⟨mc,M6 h1,h2⟩⟩
  have e0:OI P w K mg (n9 ġ.heap H) callerA [] ġ H:=⟨rfl,hM,λ b o e=>yp e,γ (sB _ _),trivial,λ b hb=>absurd (show b∈([]:List Addr) from hb) (by simp),Č,.of_eq hg⟩
  refine Β ((F _ Za (M6 YU)).run callerA [] ġ H ⟨[.ref a],[]⟩ [.ref a] [.ref a] _ _ hr e0 (UX ġ (.ref a)) (.cons rfl .nil) (MC H hO hS hz)) λ r s' h=>?_;cases r with
  | error e=>exact(Xw H e s' h).elim
  | ok fl =>
   cases fl with
   | next=>exact False.elim h
   | brk=>exact False.elim h
   | cont=>exact False.elim h
   | ret u =>
    obtain⟨v,H',os,bare,un,W5,r',q⟩:=h;have q':=q;subst q';obtain rfl:u=Value.bool true:=r';refine⟨rfl,OldK.of_keep λ b o e=>?_,os,bare⟩;cases q:H b with
    | none=>exact un.keep b o e q (by intro z;exact absurd (show b∈([]:List Addr) from z) (by simp)) (by simp)
    | some u =>
     rcases hO b with z | ⟨ob,xs,z⟩
     ·rw [q] at z;cases z
     ·have z2:=un.MU b ob _ z;obtain⟨e1,_⟩:=Č b _ z;obtain⟨e2,_⟩:=W5 b _ z2;rw [e] at e1;cases e1;exact e2
 cases hk:K.lookup a with
 | some o =>
  have e:=KX a o hk;rw [ha] at e;cases e;refine core (λ _=>none) (λ _=>.inl rfl) (.inr ⟨_,vs.toArray,_,hk,rfl,rfl,rfl,by rw [ñ,WF];exact hl,by simpa using rv⟩) (λ b u z=>by have z':=z;cases z') (λ b z=>absurd rfl z) λ z=>absurd rfl z
 | none =>
  refine core (λ b=>if b=a then some (.Ŭ { cls:=.type "list",data:=.seq vs.toArray } (.lst (ns.map .int))) else none) (λ b=>?_) (.inl (.inr ⟨{ cls:=.type "list",data:=.seq vs.toArray },Ó rfl⟩)) (λ b u z=>?_) (λ b z=>?_) λ _=>hk
  ·by_cases hb:b=a
   ·exact .inr ⟨_,_,Ó hb⟩
   ·exact .inl (Ë hb)
  ·by_cases hb:b=a
   ·have z':=(Ó hb).symm.trans z;cases z';subst hb;exact⟨ha,by rw [Ä];exact hl,vs,_,rv,ha⟩
   ·have z':=(Ë hb).symm.trans z;cases z'
  ·by_cases hb:b=a
   ·exact hb
   ·exact absurd (Ë hb) z
theorem PQ {l:PySem.W.OpenLaw}{K:Params->PySem.W.Frag}{CX:World->pB}{sp:World->Sp}
  (hn:l.most=some n) (VJ:n<=sizeLine) (UV:d.params.defaults=[]) (hr:ć k callerA)
  (hY:∀(w:World)(h:Heap),YP w h->(K w.params).In h)
  (F:∀(w:World)(mg:cr)(fa:Addr)(h:Heap),(K w.params).In h->h.Ns mainGlobals mg->mg d.name=some (.ref fa) ->
   ∃ fd:FuncData,(∀(s:Shared)(u:Value),BindsTo s fd ⟨[u],[]⟩ [(x,u)]) /\
    ∀ base:Heap,(K w.params).In base->base.Ns mainGlobals mg->í l.prog w (K w.params) mg base (CX w) k fa fd [x] (sp w))
  (MC:∀(w:World)(H:Hp)(a:Addr)(ns:List Int),ns.length<=n->CZ H->Ċ (K w.params) H a (ns.map V.int)->H sysModules=none->sp w [.ref a] H (λ v _=>v=.bl true) λ _ _ _=>False)
  (Xw:∀(w:World)(H:Hp)(s:Shared)(e:Value)(s':Shared),CX w [] H s (λ _ _ _=>False) e s'->False) :
  PySem.W.WalkO q loose XP YP l.row.toRowW d [] (λ f vs=>PySem.call f vs):=by
 refine Att.NT hn UV λ w ŝ ġ mg mb fa o pm cd doc a vs ns G Y ho hd Pi UL SA hints ľ hg low=>?_;have KX:=hY w _ Y;obtain⟨fd,hb,hF⟩:=F w mg fa _ KX G.T.g UL;exact sJ KX G.T.g G.T.b G.T.builtins G.T.nolimit hg SA hints (Í ľ VJ) hr low hF hb (λ H hO hS hz=>MC w H a ns ľ hO hS hz) λ H e s'=>Xw w H ġ e s'
end L2
namespace My
open PySem L2
def cP (i:Nat):Stmt:=PySem.Challenge.pw_trialdeal_k22_tables_by_layers.main.body.getD i (.Pass ⟨0,0,0,0⟩)
end My
namespace My
open PySem
section
variable {prog:Program}{w:World}{A:Around}{h:Heap}{g:Array GenState}{d:Drawn}{tk:Nat}{os:OsState}{C N e t0:Addr}
variable {nm q:Str}{bs bm SM:List Value}{QR ab:Bool}{sn:List Str}{sub:List Value}{col:Option Bool}{dd:Option Addr}
variable {k0 k1 k2 k3 k5:Option Value}{B newId MP:String}
abbrev hZ (C t:Addr):Obj:={ cls:=.ref C,data:=.fields #[.ref t,.none,.none,.none,.bool false,.none] }
theorem B4 (F:ExcBaseFacts B newId MP SM)(T:OwnTail h SM bm)
  (hC:h.get? C=some (excClassObj nm q C N bs bm QR sn sub ab col dd k0 k1 k2 k3 k5 newId)) (he:h.get? e=some (hZ C t0))
  (hR:∀ h',h'.get? e=some (hZ C h.objs.size)->(∀ b o,b≠e->h.get? b=some o->h'.get? b=some o)->R (.ok (.ret .none)) ⟨h',g,d,tk,os⟩) :
  codeAny (model prog w) A (.call (.builtin MP) ⟨[.ref e,v],[]⟩) R ⟨h,g,d,tk,os⟩:=by
 refine N2 F.init.plain F.initEntry (wpAny_check_init_subT F T hC he rfl ?_)
 wp_walk
 refine hR _ ?_ λ b o hb eb=>?_
 ·exact ù _ (Â _ he) rfl
 ·exact(è _ _ _ _ hb).trans (Â _ eb)
end
end My
namespace My
open PySem PySem.W Builtin Builtin.ObjectAttr
section
variable {prog:Program}{w:World}{A:Around}{s:Shared}{K:Frag}{C x:Addr}
theorem yS (X:K.In s.heap)(I:InstAt s.heap x ox C od)
  (hc:clsIn K C=some cd) (hp:refuseLoop (.ref x) "__setattr__" cd.mro=pure ()) (Qa:mroIn K C (.type "object")=some true) (ht:takerIn K C name=some none)
  (h:∀ b,wpAny (model prog w) A.in1 (storeInOwnDict (.ref x) (.ref C) (.str name tk) name v b)
   (λ fin s'=>match fin with | .done f=>R (.ok f) s' | .again c'=>c'.quiet=true/\codeAny (model prog w) A c' R s') (λ e s'=>R (.error e) s') s) :
  codeAny (model prog w) A (.call (.builtin "object.__setattr__") ⟨[.ref x,.str name tk,v],[]⟩) R s:=by
 have SF:=PySem.F.store_object;have sub:Looks (model prog w) s.heap (isInstance (.ref x) (.type "object")) true:=I.type.andThen (looks_mroIn X Qa);refine N2 SF.slot.plain SF.entry (@check_slot (model prog w) _ _ s "object.__setattr__" "object" "__setattr__" (.ref x) [.str name tk,v] [] _ SF.kind SF.split sub (SF.args _ _ _) ?_);obtain⟨attr,ha,hr⟩:=Option.bind_eq_some_iff.mp ht;have hm:Looks (model prog w) s.heap (mroOf (.ref C)) cd.mro:=(looks_clsIn X hc).andThen .now;have L3:Looks (model prog w) s.heap (storeTaker? attr) none:=by
  cases attr with
  | none=>exact .now
  | some a =>
   obtain⟨b,hb,e⟩:=å.mp hr;refine(looks_takesIn X hb).andThen ?_;cases b
   ·exact .now
   ·cases e
 rw [osa_eq,refuse_eq];refine À (À (I.type.here (À (hm.here ?_))));rw [hp];refine Á (À (I.type.here (À ((Qz X ha).here (À (L3.here ?_))))));exact h _
end
section
variable {prog:Program}{w:World}{A:Around}{E:eE}{s:Shared}{K:Frag}{C x:Addr}
theorem Ed (X:K.In s.heap)(hx:s.heap.get? x=some ⟨.ref C,none,.fields fs,sl⟩)
  (hs:findIn K (.ref C) "__setattr__" = some (some (.builtin "object.__setattr__"))) (hc:clsIn K C=some cd) (hd:cd.hasDict=true)
  (hp:refuseLoop (.ref x) "__setattr__" cd.mro=pure ()) (Qa:mroIn K C (.type "object")=some true) (ht:takerIn K C name=some none)
  (h:∀ h' tk,h'.get? x=some ⟨.ref C,some s.heap.objs.size,.fields fs,sl⟩->h'.Ns1 s.heap.objs.size (λ y=>if y=name then some v else none) ->
   (∀ b o,b≠x->s.heap.get? b=some o->h'.get? b=some o)->Q () { s with heap:=h',toks:=tk }):wpAny (model prog w) A (setAttr (.ref x) name v) Q E s:=by
 have J:InstAt s.heap x ⟨.ref C,none,.fields fs,sl⟩ C none:=⟨hx,rfl,rfl,True.intro⟩;refine set_plain X J hs (yS (s:={ s with toks:=s.toks+1 }) X J hc hp Qa ht λ b=>?_)
 refine À (Á (À (À (wpAny_loadPart hx (À (Ż (s:={ s with toks:=s.toks+1 }) (looks_clsIn X hc) ?_))))))
 rw [hd];have OW:(s.heap.push { cls:=.type "dict",data:=.dict #[] }).get? x=some ⟨.ref C,none,.fields fs,sl⟩:=Â _ hx;have YK:=ê (Ñ hx);refine À (wpAny_alloc' ?_);refine À (wpAny_update' OW ?_);refine Á ?_;generalize eU:((s.heap.push { cls:=.type "dict",data:=.dict #[] }).update x λ o=>{ cls:=o.cls,dict:=some s.heap.objs.size,data:=o.data,slots:=o.slots }:Heap)=hU;have gd:hU.get? s.heap.objs.size=some { cls:=.type "dict",data:=.dict #[] }:=by
  rw [<- eU];exact(è _ _ _ _ YK.symm).trans (Δ rfl rfl)
 have gx:hU.get? x=some ⟨.ref C,some s.heap.objs.size,.fields fs,sl⟩:=by
  rw [<- eU];exact ù _ OW rfl
 have nd:hU.Ns s.heap.objs.size (λ _=>none):=⟨_,#[],_,gd,rfl,λ e he=>absurd he (by simp),λ _=>rfl⟩
 refine À (Á (À (wpAny_nsSet1 (Heap.Ns1.of_empty nd) λ h' S6 YM=>?_)));obtain⟨oD,esD,epD,UK,Xo,Qe⟩:=S6.count (Within.cons name v Within.nil);refine À (wpAny_lookBehind UK (by
  rw [Xo];exact pastItsLine_dict (Í Qe (by rw [ì,Ι,Ü];omega))) ?_)
 refine Á ?_;refine h h' _ ((YM.2 x YK).trans gx) S6 λ b o hb e=>?_;refine(YM.2 b (ê (Ñ e))).trans ?_;rw [<- eU];exact(è _ _ _ _ hb).trans (Â _ e)
end
section
variable {prog:Program}{w:World}{A:Around}{E:eE}{s:Shared}{K:Frag}{C x dx:Addr}
abbrev Ai:String:="BaseException.__getattribute__"
end
end My
namespace My
open PySem PySem.W
section
variable {prog:Program}{w:World}{A:Around}{E:eE}{h:Heap}{g:Array GenState}
variable {d:Drawn}{t:Nat}{os:OsState}{nm q:Str}{C N:Addr}{bs bm SM:List Value}{QR ab:Bool}
variable {sn:List Str}{sub:List Value}{col:Option Bool}{dd:Option Addr}
variable {k0 k1 k2 k3 k5:Option Value}{B newId MP:String}{K:Frag}
abbrev nV (vs:List Value):Obj:={ cls:=.type "tuple",data:=.seq vs.toArray }
theorem Cs (X:K.In h)(F:ExcBaseFacts B newId MP SM)(T:OwnTail h SM bm)
  (hC:h.get? C=some (excClassObj nm q C N bs bm QR sn sub ab col dd k0 k1 k2 k3 k5 newId))
  (hi:findIn K (.ref C) "__init__" = some (some (.ref fI))) (Xi:typeIn K (.ref fI)=some (.type "function"))
  (hq:wpAny (model prog w) A (call (.ref fI) (.ref (h.objs.size+1)::rest))
   (λ r s'=>r=.none/\Q (.done (.ret (.ref (h.objs.size+1)))) s') E ⟨(h.push (nV rest)).push (hZ C h.objs.size),g,d,t,os⟩)
  (P_:rest.length<=sizeLine) :
  wpAny (model prog w) A (Builtin.«type.__call__» ⟨.ref C::rest,[]⟩) Q E ⟨h,g,d,t,os⟩:=by
 repeat (first
  | with_reducible refine Py hC ?_
  | with_reducible refine wpAny_madeBy_exc hC ?_
  | wp_step)
 refine codeAny_call_builtin_code (Code.quiet_builtin _ F.quiet) (wpAny_check_new_subT F T hC ?_);refine codeAny_exc_new_subT F T hC ?_ P_;have up:∀ b o,h.get? b=some o->((h.push (nV rest)).push (hZ C h.objs.size)).get? b=some o :=
  λ b o e=>Â _ (Â _ e)
 have hC1:=up _ _ hC;have X1:=X.keeps up;have hg1:((h.push (nV rest)).push (hZ C h.objs.size)).get? (h.objs.size+1)=some (hZ C h.objs.size):=by heap_get
 have hcC:(.ref C::bm).contains (.ref C)=true:=by simp
 repeat (first
  | with_reducible refine Py hg1 ?_
  | (with_reducible refine wpAny_isSubtype_exc hC1 ?_;rw [hcC])
  | wp_step)
 refine Ż (Qz X1 hi) ?_;refine ĕ (À ?_);refine À (Ż (looks_typeIn X1 Xi) ?_);rw [Ó ax];refine Á (À (Ń hq (λ r s' hr=>?_) λ _ _ x=>x));obtain⟨rfl,hQ⟩:=hr
 wp_walk
 exact hQ
theorem EC (X:K.In h)(F:ExcBaseFacts B newId MP SM)(T:OwnTail h SM bm)
  (hC:h.get? C=some (excClassObj nm q C N bs bm QR sn sub ab col dd k0 k1 k2 k3 k5 newId))
  (hi:findIn K (.ref C) "__init__" = some (some (.ref fI))) (Xi:typeIn K (.ref fI)=some (.type "function"))
  (hq:wpAny (model prog w) (A.under (.builtin "type.__call__" ⟨.ref C::rest,[]⟩))
   (call (.ref fI) (.ref (h.objs.size+1)::rest)) (λ r s'=>r=.none/\Q (.ref (h.objs.size+1)) s') E ⟨(h.push (nV rest)).push (hZ C h.objs.size),g,d,t,os⟩)
  (P_:rest.length<=sizeLine):wpAny (model prog w) A (call (.ref C) rest) Q E ⟨h,g,d,t,os⟩:=by
 have f1:=tc_lookup;have f2:=tc_bind (.ref C);have hT:Shared.TypeIs ⟨h,g,d,t,os⟩ (.ref C) "type" :=⟨_,hC,rfl⟩;refine n_ (codeAny_of_tree ?_)
 repeat (any_goals (first
  | assumption
  | with_reducible refine Py hC ?_
  | wp_step))
 refine⟨rfl,?_⟩;refine codeAny_call_builtin_at (Code.quiet_builtin _ aC) entry_typeCall (wpAny_check_type_call_sub hC ?_);exact Cs X F T hC hi Xi hq P_
end
section
variable {prog:Program}{w:World}{A:Around}{E:eE}{s:Shared}{K:Frag}{x C:Addr}{ox:Obj}{od:Option Obj}
theorem vV (hc:(clsIn K C).isSome=true)(ha:findIn K (.ref C) name=some (some a))(hg:specialIn K a "__get__" = some (some g)) (ht:takesIn K a=some true):findObj K C od name=some (.bind g a):=by
 obtain⟨cd,hc⟩:=Ņ.mp hc;unfold findObj;rw [hc,Ou,ha,Ou];simp [hg,ht]
theorem yM (X:K.In s.heap)(I:InstAt s.heap x ox C od)
  (Qa:mroIn K C (.type "BaseException")=some true) (hf:findObj K C od name=some (.bind g a))
  (h:wpAny (model prog w) A.in1 (call g [a,.ref x,.ref C]) (λ v s'=>R (.ok (.ret v)) s') (λ e s'=>R (.error e) s') s) :
  codeAny (model prog w) A (.call (.builtin Ai) ⟨[.ref x,.str name tk],[]⟩) R s:=by
 have sub:Looks (model prog w) s.heap (isInstance (.ref x) (.type "BaseException")) true:=I.type.andThen (looks_mroIn X Qa);have L1:=looks_find (M:=model prog w) X I hf;refine N2 PB.ga.plain PySem.F.entry_bexc_ga (@check_slot (model prog w) _ _ s Ai "BaseException" "__getattribute__" (.ref x) [.str name tk] [] _ aC aC sub (PySem.F.args_bexc_ga _ _) ?_);refine À (Á (À (Á (À (I.type.here (À (L1.here ?_)))))));exact À (ĕ (Ń h (λ v s' z=>Á z) λ _ _ z=>z))
structure tN (K:Frag)(C:Addr):Prop where
 cls:(clsIn K C).isSome=true
 ga:findIn K (.ref C) "__getattribute__" = some (some (.builtin Ai))
 hk:findIn K (.ref C) "__getattr__" = some none
 mb:mroIn K C (.type "BaseException")=some true
 mo:mroIn K C (.type "object")=some true
 ca:findIn K (.ref C) "__class__" = some (some (.builtin "object.__class__"))
theorem uU (T:tN K C)(hn:specialIn K (.builtin "object.__class__") "__get__" = some (some (.builtin "getset_descriptor.__get__"))) (OX:takesIn K (.builtin "object.__class__")=some true)
  (X:K.In s.heap) (I:InstAt s.heap x ox C od) (h:Q (some (.ref C)) { s with toks:=s.toks+1 }):wpAny (model prog w) A (getAttr? (.ref x) "__class__") Q E s:=by
 have hf:findObj K C od "__class__" = some (.bind (.builtin "getset_descriptor.__get__") (.builtin "object.__class__")):=vV T.cls T.ca hn OX;have L0:=I.type (M:=model prog w);have L1:=Qz (M:=model prog w) X T.ga;have L2:=Qz (M:=model prog w) X T.hk;have f3:=PB.ga.bind (.ref x);unfold getAttr? getAttrBy? getAttrBy;refine À (wpAny_mkText (À (ļ (ĕ (À (Ż (s:={ s with toks:=s.toks+1 }) L0 (À (Ż (s:={ s with toks:=s.toks+1 }) L1 ?_))))))))
 have OW:(onTheHeap (Value.ref C)&&Value.builtin Ai==Value.builtin "object.__getattribute__")=false:=by
  rw [show(Value.builtin Ai == .builtin "object.__getattribute__")=false from by decide +kernel]
  rfl
 show wpAny _ _ (if(onTheHeap (Value.ref C)&&Value.builtin Ai==Value.builtin "object.__getattribute__")=true then _ else _) _ _ _
 rw [Ë (by rw [OW];decide)]
 refine À ?_;refine Ż L2 ?_;refine À (ļ (ĕ ?_));unfold callGetattribute;rw [Ë ax];unfold boundAndCalled;rw [f3];refine À (Á ?_);refine n_ (yM X I T.mb hf ?_);refine n_ (class_get X I T.mo ?_);show wpAny _ _ (handedOut (.ref C)) _ _ _;rw [handedOut_of rfl];exact Á (Á h)
theorem uF (T:tN K C)(hn:specialIn K (.builtin "object.__class__") "__get__" = some (some (.builtin "getset_descriptor.__get__"))) (OX:takesIn K (.builtin "object.__class__")=some true) :
  KitX K (.ref x) (.ref C) (λ h=>∃ ox od,InstAt h x ox C od) where
 ty:=λ _ _ _ ⟨_,_,I⟩=>I.type
 it:=λ _ _ X _=>by
  obtain⟨cdD,Qe⟩:=Ņ.mp T.cls;unfold clsIn at Qe;split at Qe
  ·rename_i c' d' cd' Rb ho
   intro A' Q' E' s' k q;exact À (wpAny_loadPart (k _ _ (X _ _ ho)) (Á q))
  ·cases Qe
 ne:=λ h tp dd its n sl X Pf=>by
  obtain⟨cdD,Qe⟩:=Ņ.mp T.cls;refine Bool.eq_false_iff.mpr λ q=>?_;have e:=Value.ref.inj (Ķ.mp q);subst e;unfold clsIn at Qe;split at Qe
  ·rename_i c' d' cd' Rb ho
   have z:=(X _ _ ho).symm.trans Pf;cases z
  ·cases Qe
 ca:=λ X ⟨_,_,I⟩ k=>uU T hn OX X I k
end
end My
namespace My
open PySem PySem.W L2
abbrev tG:List Value:=[.type "ValueError",.type "Exception",.type "BaseException",.type "object"]
abbrev nY (C:Addr)(d:Option Addr)(t:Addr):Obj:={ cls:=.ref C,dict:=d,data:=.fields #[.ref t,.none,.none,.none,.bool false,.none] }
def fg (x C:Addr)(d:Option Addr):HO:=.ext λ h=>∃ t,h.get? x=some (nY C d t)
theorem lY (e:h.get? x=some (nY C d t)):ă P w H h x (fg x C d) :=
 ⟨⟨t,e⟩,⟨_,e⟩,λ _ _ ⟨t',e'⟩ k=>⟨t',k _ e'⟩⟩
theorem il (ok:η P w H h)(e:H x=some (fg x C d)):∃ t,h.get? x=some (nY C d t):=(ok x _ e).1
theorem vW (h:H a=some o):aj H a o=H:=by
 funext b
 unfold aj;split
 ·rename_i e;rw [e,h]
 ·rfl
structure Η (K:Frag)(D:Addr):Prop where
 cls:∃ nm q N bs sn sub ab col dd k0 k1 k2 k3 k5,K.lookup D=some (excClassObj nm q D N bs tG true sn sub ab col dd k0 k1 k2 k3 k5 "ValueError.__new__") /\
    ∃ o es ep,K.lookup N=some o/\o.data=.dict es ep/\StrKeys es/\nsFind es "__init__" = none
 ga:specialIn K (.ref D) "__getattribute__" = some (some (.builtin "type.__getattribute__"))
 reads:readsIn K D (.type "type")=true
 UA:findCls K (.ref D) (.type "type") "__init__" = some (.val (.builtin "ValueError.__init__"))
 fi:findIn K (.ref D) "__init__" = some (some (.builtin "ValueError.__init__"))
 kp:keepIn K (.ref D)=true
 it:tN K D
theorem Η.tail (B:Η K D)(X:K.In h):OwnTail h tG (.ref D::tG):=by
 obtain⟨nm,q,N,bs,sn,sub,ab,col,dd,k0,k1,k2,k3,k5,l,o,es,ep,lN,hd,hs,hn⟩:=B.cls;exact .own (X _ _ l) ⟨o,es,ep,X _ _ lN,hd,hs,λ _=>rfl⟩ hn .base
structure θ (K:Frag)(D:Addr)(nm:Str)(C f:Addr):Prop where
 cls:∃ q N bs sn sub ab col dd k0 k1 k2 k3 k5,K.lookup C=some (excClassObj nm q C N bs (.ref D::tG) true sn sub ab col dd k0 k1 k2 k3 k5 "ValueError.__new__")
 init:findIn K (.ref C) "__init__" = some (some (.ref f))
 fn:typeIn K (.ref f)=some (.type "function")
 kp:keepIn K (.ref C)=true
 sa:findIn K (.ref C) "__setattr__" = some (some (.builtin "object.__setattr__"))
 it:tN K C
theorem θ.clsIn (T:θ K D nm C f):∃ cd,PySem.W.clsIn K C=some cd/\cd.hasDict=true/\cd.mro=.ref C :: .ref D::tG:=by
 obtain⟨q,N,bs,sn,sub,ab,col,dd,k0,k1,k2,k3,k5,l⟩:=T.cls;unfold PySem.W.clsIn;rw [l];exact⟨_,rfl,rfl,rfl⟩
theorem θ.refuse (T:θ K D nm C f)(x:Addr):∃ cd,PySem.W.clsIn K C=some cd/\cd.hasDict=true/\refuseLoop (.ref x) "__setattr__" cd.mro=pure ():=by
 obtain⟨cd,h1,h2,h3⟩:=T.clsIn;refine⟨cd,h1,h2,?_⟩;rw [h3,refuseLoop_ref,refuseLoop_ref];exact PySem.F.store_ValueError.passes _
section
variable {X:Cx}{Ã:List (Addr × Obj)}{σ:St}{H:Hp}{s:Shared}
def nW (C:Addr)(fld:Str):Sp:=λ vs H Q _=>∃ x v,vs=[.ref x,v]/\H x=some (fg x C none)/\∀ dx,H dx=none->dx≠x->Q .Ă (aj (aj H dx (.xd [(fld,v)])) x (fg x C (some dx)))
def EW (C:Addr)(fld:Str)(te:TE):TE:=λ σ H Q=>te σ H λ v H1=>∀ x dx,H1 x=none->H1 dx=none->dx≠x->Q (.ref x) (aj (aj H1 dx (.xd [(fld,v)])) x (fg x C (some dx)))
theorem IR (n:dx≠x):aj (aj (aj H x a) dx b) x c=aj (aj H dx b) x c:=by
 funext z
 unfold aj;by_cases h1:z=x
 ·rw [Ó h1,Ó h1]
 ·rw [Ë h1,Ë h1];by_cases h2:z=dx
  ·rw [Ó h2,Ë h1]
  ·rw [Ë h2,Ë h1]
theorem ve {nm fld:Str}(B:Η X.K D)(T:θ X.K D nm C f)(F:í X.prog X.w X.K X.mg X.base aB k f fd ps (nW C fld))(hr:ć (k+1) X.A)(hb:Binds X.K fd ps [])
  (I:Inv X Ã σ H s) (r:RelV v u) (h:∀ x dx,H x=none->H dx=none->dx≠x->Q (.ref x) (aj (aj H dx (.xd [(fld,v)])) x (fg x C (some dx)))) :
  wpAny (model X.prog X.w) X.A (call (.ref C) [u]) (EP X Ã σ Q) X.xe s:=by
 obtain⟨hp,g,dr,tk,os⟩:=s;obtain⟨q,N,bs,sn,sub,ab,col,dd,k0,k1,k2,k3,k5,l⟩:=T.cls;refine EC I.Š Pz (B.tail I.Š) (I.Š _ _ l) T.init T.fn ?_ (by rw [ì,Ι,Ü];omega)
 have f0:=I.fresh;have I1:Inv X Ã σ H ⟨hp.push (nV [u]),g,dr,tk,os⟩:=I.kept λ b o e=>Â _ e;have sz:(hp.push (nV [u])).objs.size=hp.objs.size+1:=Ĕ _ _;have fx:H (hp.objs.size+1)=none:=by rw [<- sz];exact I1.fresh
 have I2:Inv X Ã σ (aj H (hp.objs.size+1) (fg (hp.objs.size+1) C none)) ⟨(hp.push (nV [u])).push (hZ C hp.objs.size),g,dr,tk,os⟩ :=
  I1.laid (λ b o e=>Â _ e) (γ sz)
   (lY (Δ sz.symm rfl))
 generalize (⟨(hp.push (nV [u])).push (hZ C hp.objs.size),g,dr,tk,os⟩:Shared)=s2 at I2 ⊢;generalize hp.objs.size+1=x at fx I2 ⊢;have r2:Vals [V.ref x,v] [Value.ref x,u]:=.cons rfl (.cons r .nil);have MC:nW C fld [V.ref x,v] (aj H x (fg x C none)) (λ y H2=>y=.Ă/\Q (.ref x) H2) E0 :=
  ⟨x,v,rfl,be,λ dx hd nd=>⟨rfl,by
   rw [IR nd];rw [ad nd] at hd;exact h x dx fx hd nd⟩⟩
 have hl:([.ref x,u] ++ []:List Value).length=ps.length:=by
  rw [Ī,<- r2.length];exact F.len _ _ _ _ MC
 have Y8:=hb s2 [.ref x,u] I2.Š hl;rw [Ī] at Y8;refine n_ (Β (F.run _ X.stack s2 _ ⟨[.ref x,u],[]⟩ [.ref x,u] _ _ E0 (hr.make C [u] []) (I2.SJ.make C [u] []) Y8 r2 MC) λ r s' Pg=>?_);cases r with
 | error e=>exact False.elim Pg
 | ok fl =>
  cases fl with
  | ret u' =>
   obtain⟨y,H',I3,ry,ey,q3⟩:=I2.after Pg;subst ey;exact⟨ry,.ref x,H',I3,rfl,q3⟩
  | next=>exact False.elim Pg
  | brk=>exact False.elim Pg
  | cont=>exact False.elim Pg
end
def Cz (h:Heap)(e:Addr)(vs:Array Value):Prop:=vs[1]?=some .none\/∃ T oT ts,vs[1]?=some (.ref T)/\T≠e/\h.get? T=some oT/\oT.data=.fields ts/\ts[3]?=some .none
structure MW (fr:List Addr)(e T:Addr)(oe:Obj)(h h':Heap)(r:Value):Prop where
 keep:∀ b o,b≠e->b ∉ fr->h.get? b=some o->h'.get? b=some o
 slot:∀ b o,b≠e->h.get? b=some o->∃ sl,h'.get? b=some { o with slots:=sl }
 new:h.objs.size<=T
 exc:h'.get? e=some (oe.mapFields (λ x=>x.setIfInBounds 1 (.ref T)))
 Wh:∃ oT ts,h'.get? T=some oT/\oT.data=.fields ts/\ts[3]?=some r/\T≠e
theorem vk {vs:Array Value}(h:vs[i]?=some v):vs.setIfInBounds i v=vs:=by
 obtain⟨hi,e⟩:=û.mp h;apply Array.ext
 ·simp
 ·intro j h1 h2;simp only [Array.size_setIfInBounds] at h1;rw [Array.getElem_setIfInBounds h1];split
  ·rename_i z;subst z;exact e.symm
  ·rfl
theorem yU {o:Obj}(hd:o.data=.fields vs)(f:Array Value->Array Value):o.mapFields f={ o with data:=.fields (f vs) }:=by
 obtain⟨c,d,dt,sl⟩:=o;have e:=hd;subst e;rfl
theorem mY (hl:vs.length<=sizeLine+2)
  (q:Q (.ref s.heap.objs.size) { s with heap:=s.heap.push { cls:=.type c,data:=.fields vs.toArray } }):wpAny M A (newFields c vs) Q E s:=by
 refine ŗ (Ò (by rw [ñ];omega)) ?_
 exact À (wpAny_alloc (Á q))
theorem tE (h:IsPlace pl):pl.length<=6:=by
 rcases h with rfl | ⟨a,b,c,d,c9,b10,_,rfl⟩
 ·decide
 ·exact Æ _
section
variable {M:Model}{A:Around}{E:eE}{s:Shared}{base:Heap}{env:Env}{outer:List Env}{L e:Addr}{oe:Obj}{vs:Array Value}{Q:Unit->Shared->Prop}
theorem qS (hA:A.frames=some (env::outer))(hF:s.heap.FunFrames base (env::outer))(hL:env.frame=some L)(he:s.heap.get? e=some oe)(hd:oe.data=.fields vs)(h1:1<vs.size)
  (q:∀ h' T,MW (mj (env::outer)) e T oe s.heap h' (rawInt ↑L)->Q () { s with heap:=h' }) :
  wpAny M A (do
   let a <- frameOf env
   let pl <- entryPlaceOf L hn
   let b <- EntryCells.newEntry head a .none (rawInt ↑L) .none pl
   setField (.ref e) 1 b) Q E s:=by
 have Vy:e ∉ mj (env::outer):=λ z=>by
  obtain⟨_,o,ho,hn⟩:=hF.mem z;rw [he] at ho;cases ho;exact hn vs hd
 refine À (wpAny_frameOf_fun hA hF hL λ h1' so=>?_);refine À (wpAny_entryPlaceOf λ pl I_=>?_);refine À ?_;refine mY ?_ ?_
 ·have:=tE I_;have b:100<=sizeLine:=ax;rw [Õ];split
  ·rw [ĺ];show 5+6<=_;omega
  ·show 5+pl.length<=_;omega
 have e1:h1'.get? e=some oe:=by rw [so.2.1 e Vy];exact he
 have lt:=Ñ e1;generalize UJ:({ cls:=.type "traceback",data:=.fields ([head,.ref L,.none,rawInt ↑L,.none]++if pl.isEmpty=true then List.replicate 6 .none else pl).toArray }:Obj)=ob
 have e2:(h1'.push ob).get? e=some oe:=Â _ e1;refine Ł e2 hd h1 ?_;refine q _ h1'.objs.size ⟨λ b o nb nf hb=>?_,λ b o nb hb=>?_,γ so.1.symm,?_,?_⟩
 ·rw [è _ _ _ _ nb];exact Â _ (by rw [so.2.1 b nf];exact hb)
 ·obtain⟨sl,z⟩:=so.2.2 b o hb;exact⟨sl,by rw [è _ _ _ _ nb];exact Â _ z⟩
 ·exact ù _ e2 (by rw [yU hd];rfl)
 ·have nT:=Ne.symm (ê lt);refine⟨ob,_,?_,by rw [<- UJ],?_,nT⟩
  ·rw [è _ _ _ _ nT];exact Δ rfl (by rw [<- UJ];rfl)
  ·rfl
theorem qE (hA:A.frames=some (env::outer))(hF:s.heap.FunFrames base (env::outer))(hL:env.frame=some L)(he:s.heap.get? e=some oe)(hd:oe.data=.fields vs)(hv:Cz s.heap e vs)
  (q:∀ h' T,MW (mj (env::outer)) e T oe s.heap h' (rawInt ↑L)->Q () { s with heap:=h' }):wpAny M A (noteFrame (.ref e) env) Q E s:=by
 unfold noteFrame;rw [hL];rcases hv with hv | ⟨T,oT,ts,hv,nT,hT,QS,h3⟩
 ·have h1:=(û.mp hv).1;refine À (ú he hd hv ?_);refine ŗ rfl ?_;exact qS hA hF hL he hd h1 q
 ·have h1:=(û.mp hv).1;have VU:=(û.mp h3).1;refine À (ú he hd hv ?_);refine wpAny_ite_true rfl ?_;refine À (ú hT QS h3 ?_);refine ŗ rfl ?_;refine À (Ł hT QS VU ?_);have g:∀ b,(s.heap.update T (Obj.mapFields λ x=>x.setIfInBounds 3 Value.none)).get? b=s.heap.get? b:=λ b=>by
   by_cases z:b=T
   ·subst z;rw [ù _ hT (by rw [yU QS];rfl),hT,yU QS,vk h3,<- QS]
   ·exact è _ _ _ _ z
  have sz:(s.heap.update T (Obj.mapFields λ x=>x.setIfInBounds 3 Value.none)).objs.size=s.heap.objs.size:=MG _ _ _;generalize s.heap.update T (Obj.mapFields λ x=>x.setIfInBounds 3 .none)=h0 at g sz;have Ze:=Heap.FunFrames.of_keeps (λ b o hb _=>⟨o,by rw [g];exact hb,rfl⟩) hF
  refine qS hA Ze hL (by show h0.get? e=_;rw [g];exact he) hd h1 λ h' T' x=>?_
  exact q h' T' ⟨λ b o nb nf hb=>x.keep b o nb nf (by show h0.get? b=_;rw [g];exact hb),λ b o nb hb=>x.slot b o nb (by show h0.get? b=_;rw [g];exact hb),by rw [<- sz];exact x.new,x.exc,x.Wh⟩
theorem MW.SI (x:MW fr e T oe h h' r)(hd:oe.data=.fields vs)(h1:1<vs.size)(s':Shared)(es:s'.heap=h')
  (q:∀ h2,MW fr e T oe h h2 .none->Q () { s' with heap:=h2 }):wpAny M A (setFlight (.ref e) none) Q E s':=by
 subst es;obtain⟨oT,ts,hT,QS,h3,nT⟩:=x.Wh;have VU:=(û.mp h3).1;have e1:(oe.mapFields (λ x=>x.setIfInBounds 1 (.ref T))).data=.fields (vs.setIfInBounds 1 (.ref T)):=ń hd _;have e2:(vs.setIfInBounds 1 (.ref T))[1]?=some (.ref T):=by simp [h1]
 refine wpAny_setFlight_none x.exc e1 e2 hT QS VU (q _ ⟨λ b o nb nf hb=>?_,λ b o nb hb=>?_,x.new,?_,?_⟩)
 ·have z:=x.keep b o nb nf hb;rw [è _ _ _ _ (λ w=>?_)]
  ·exact z
  ·rw [w] at hb;exact absurd (ä (Ñ hb) x.new) (Ő _)
 ·obtain⟨sl,z⟩:=x.slot b o nb hb;refine⟨sl,?_⟩;rw [è _ _ _ _ (λ w=>?_)]
  ·exact z
  ·rw [w] at hb;exact absurd (ä (Ñ hb) x.new) (Ő _)
 ·rw [è _ _ _ _ nT.symm];exact x.exc
 ·refine⟨_,_,ù _ hT (by rw [yU QS];rfl),ń QS _,?_,nT⟩
  simp [VU]
theorem oV (hA:A.frames=some (env::outer))(hF:s.heap.FunFrames base (env::outer))(hL:env.frame=some L)(he:s.heap.get? e=some oe)(hd:oe.data=.fields vs)(hv:Cz s.heap e vs)
  (q:∀ h' T,MW (mj (env::outer)) e T oe s.heap h' .none->Q () { s with heap:=h' }):wpAny M A (leaving env (.ref e)) Q E s:=by
 have h1:1<vs.size:=by
  rcases hv with hv | ⟨T,oT,ts,hv,_⟩
  ·exact(û.mp hv).1
  ·exact(û.mp hv).1
 exact À (qE hA hF hL he hd hv λ h' T x=>x.SI hd h1 _ rfl λ h2 x2=>q h2 T x2)
end
def one (P:V->Hp->Prop)(vs:List V)(H:Hp):Prop:=match vs with
 | [v]=>P v H
 | _=>False
theorem DU (h:one P vs H):∃ v,vs=[v]/\P v H:=by
 cases vs with
 | nil=>exact h.elim
 | cons v r =>
  cases r with
  | nil=>exact⟨v,rfl,h⟩
  | cons _ _=>exact h.elim
def K3 (P:V->V->Hp->Prop)(vs:List V)(H:Hp):Prop:=match vs with
 | [v,u]=>P v u H
 | _=>False
theorem Bt (h:K3 P vs H):∃ v u,vs=[v,u]/\P v u H:=by
 match vs,h with
 | [v,u],h=>exact⟨v,u,rfl,h⟩
section
variable {X:Cx}{Ã:List (Addr × Obj)}{σ:St}{H:Hp}{s:Shared}
theorem AI {nm fld x:Str}(B:Η X.K D)(T:θ X.K D nm C f)(F:í X.prog X.w X.K X.mg X.base aB k f fd ps (nW C fld))(hr:ć (k+1) X.A)(hb:Binds X.K fd ps [])
  (hg:Gl X x) (hm:X.mg x=some (.ref C)) (ha:PE X e te) (No:(x==("__debug__" : Str))=false:=by decide) (he:starEach [e] X.env=(false,eval e X.env)::starEach [] X.env:=by rfl) (I_:(backTo pos (starEach [] X.env)).any (·.1)=false:=by rfl) :
  PE X (.Call (.Name x p) [e] [] pos) (EW C fld te):=by
 intro Ã s σ H Q I h;refine Ŵ (gE I hg hm ?_ No);have pa:=ac ha ar he;have h':ao te aF σ H (one λ v H1=>∀ x dx,H1 x=none->H1 dx=none->dx≠x->Q (.ref x) (aj (aj H1 dx (.xd [(fld,v)])) x (fg x C (some dx)))):=h;refine Ũ I.ok.mod.Sv T.kp (bt (pa pos Ã s σ H _ I h') λ us s1 ⟨vs,H1,I1,r,q⟩=>⟨I1.Š,?_⟩) he I_;obtain⟨v,rfl,q⟩:=DU q;obtain⟨u,rfl,ru⟩:=fL r;exact ve B T F hr hb I1 ru q
def Lx (ts tt:TE)(C:Addr):TE:=λ σ H Q=>ts σ H λ x H1=>tt σ H1 λ v H2=>∃ a,x=.ref a/\H2 a=some (fg a C none)/\Q .Ă H2
theorem ff (B:Η X.K D)(T:θ X.K D nm C f)(hg:Gl X x)(hm:X.mg x=some (.ref D))(hs:PE X o ts)(ht:PE X e tt)(No:(x==("__debug__" : Str))=false:=by decide)
  (Ny:starEach [o,e] X.env=(false,eval o X.env)::starEach [e] X.env:=by rfl) (WV:starEach [e] X.env=(false,eval e X.env)::starEach [] X.env:=by rfl) (I_:(backTo pos (starEach [e] X.env)).any (·.1)=false:=by rfl)
  (WS:eval (.Call (.Attribute (.Name x p) "__init__" ő) [o,e] [] pos) X.env=(do
   let ov <- eval (.Name x p) X.env
   standAt ő.atName
   let (f,first) <- holding [ov] (getMethod ov "__init__" pl)
   callWith pos f first (backTo pos (starEach [o,e] X.env)) (backToKw pos (keywordEach [] X.env))):=by rfl) :
  PE X (.Call (.Attribute (.Name x p) "__init__" ő) [o,e] [] pos) (Lx ts tt C):=by
 intro Ã s σ H Q I h;refine Ŷ (gE I hg hm ?_ No) WS;refine method_cls I.Š B.ga (cls_value I.Š B.reads B.UA rfl ?_);have I0:Inv X Ã σ H { s with toks:=s.toks+1 }:=I.tok _
 have pa:=ac hs (ac ht ar WV) Ny;have h':ao ts (ao tt aF) σ H (K3 λ x v H2=>∃ a,x=.ref a/\H2 a=some (fg a C none)/\Q .Ă H2):=h;refine Ot (bt (pa pos Ã _ σ H _ I0 h') λ us s1 ⟨vs,H1,I1,r,q⟩=>?_) Ny I_;obtain⟨_,v,rfl,a,rfl,ha,q⟩:=Bt q;obtain⟨u,u',rfl,ru,P0⟩:=ip r;cases (show u=.ref a from ru);obtain⟨t0,hx⟩:=il I1.Č ha;obtain⟨q',N,bs,sn,sub,ab,col,dd,k0,k1,k2,k3,k5,l⟩:=T.cls;obtain⟨hp,g,dr,tk,os⟩:=s1;refine n_ (B4 Pz (B.tail I1.Š) (I1.Š _ _ l) hx λ h' Oq hk=>?_);have I2:Inv X Ã σ (aj H1 a (fg a C none)) ⟨h',g,dr,tk,os⟩:=I1.write (by rw [ha];exact True.intro) (.inl rfl) (λ b o hb e=>hk b o hb e) ⟨_,Oq⟩ (lY Oq)
 rw [vW ha] at I2;exact⟨.Ă,H1,I2,rfl,q⟩
def GE (K:Frag)(C:Addr)(ta tv:TE)(f:Str):TS:=λ D σ H=>tv σ H λ y H1=>ta σ H1 λ x H2=>∃ a,x=.ref a/\H2 a=some (fg a C none)/\takerIn K C f=some none/\∀ dx,H2 dx=none->dx≠a->D.nx σ (aj (aj H2 dx (.xd [(f,y)])) a (fg a C (some dx)))
theorem lW (T:θ X.K D nm C fI)(ha:PE X o ta)(hv:PE X value tv)(hs:swapsWith value (some (.Attribute o f pos')) pos.line X.env=pure false) :
  PS X (.Assign [.Attribute o f pos'] value pos) (GE X.K C ta tv f):=by
 intro Ã s σ H D' I h;refine Qm (bt (hv Ã s σ H _ I h) λ u s1 ⟨y,H1,I1,ry,q⟩=>bt (ha Ã s1 σ H1 _ I1 q) λ ov s2 ⟨x,H2,I2,rx,a,ex,ea,tk,q2⟩=>?_) hs;subst ex;obtain rfl:ov=.ref a:=rx;obtain⟨t0,hx⟩:=il I2.Č ea;obtain⟨cd,hc,hd,hp⟩:=T.refuse a;refine Ed I2.Š hx T.sa hc hd hp T.it.mo tk λ h' tk' Oq S6 hk=>?_;have fr:=I2.fresh;have nz:s2.heap.objs.size≠a:=λ z=>by rw [<- z,fr] at ea;cases ea
 obtain⟨oD,es,ep,UK,rD⟩:=id S6;have nf:=Obj.isFreed_of_dict rD.1;have I3:Inv X Ã σ (aj H2 s2.heap.objs.size (.xd [(f,y)])) { s2 with heap:=s2.heap.push oD,toks:=s2.toks }:=by
  refine I2.laid (λ b o e=>Â _ e) (Æ _) ⟨_,⟨oD,es,ep,Δ rfl nf,rD⟩,λ g=>?_⟩;by_cases e:g=f
  ·subst e;rw [Ó rfl,List.lookup_cons_self];exact ry
  ·rw [Ë e,ň,ċ.mpr e];exact True.intro
 have ea3:aj H2 s2.heap.objs.size (.xd [(f,y)]) a=some (fg a C none):=by rw [ad nz.symm];exact ea
 have I4:Inv X Ã σ (aj (aj H2 s2.heap.objs.size (.xd [(f,y)])) a (fg a C (some s2.heap.objs.size))) { s2 with heap:=h',toks:=tk' }:=by
  refine I3.write (by rw [ea3];exact True.intro) (.inl rfl) (λ b o hb e=>?_) ⟨_,Oq⟩ (lY Oq)
  by_cases z:b=s2.heap.objs.size
  ·subst z;have e':=e;rw [Δ rfl nf] at e';cases e';exact UK
  ·have e':=e;exact hk b o hb (by rw [<- Heap.get?_push_ne _ _ oD z];exact e')
 exact⟨σ,_,I4,q2 _ fr nz⟩
end
section
variable {X:Cx}{Ã:List (Addr × Obj)}{σ:St}{H:Hp}{s:Shared}
theorem nH (ok:η P w H h)(ea:H a=some (fg a C (some dx)))(ed:H dx=some (.xd fs)) :
  ∃(ox od:Obj),InstAt h a ox C (some od)/\∃ mA:Str->Option Value,(∀ f,ζ (fs.lookup f) (mA f))/\∀ name,lookIn name od=some (mA name):=by
 obtain⟨t,hx⟩:=il ok ea;obtain⟨mA,hn,hr⟩:=(show ă P w H h dx (.xd fs) from ok dx _ ed);obtain⟨od,hod,hl⟩:=kq hn;exact⟨_,od,⟨hx,rfl,rfl,hod⟩,mA,hr,hl⟩
structure pA (K:Frag):Prop where
 gt:specialIn K (.builtin "object.__class__") "__get__" = some (some (.builtin "getset_descriptor.__get__"))
 tk:takesIn K (.builtin "object.__class__")=some true
def NB (H:Hp)(a C:Addr):Prop:=H a=some (fg a C none)\/∃ dx fs,H a=some (fg a C (some dx))/\H dx=some (.xd fs)
theorem NB.inst (E:NB H a C)(ok:η P w H h):∃ ox od,InstAt h a ox C od:=by
 rcases E with e | ⟨dx,fs,ea,ed⟩
 ·obtain⟨t,hx⟩:=il ok e;exact⟨_,none,⟨hx,rfl,rfl,True.intro⟩⟩
 ·obtain⟨ox,od,J,_⟩:=nH ok ea ed;exact⟨ox,some od,J⟩
end
end My
namespace My
open PySem PySem.W L2
open PyProof.Rows (AllBare)
abbrev pD (C:Addr)(d:Option Addr)(t:Addr)(v:Value):Obj:={ cls:=.ref C,dict:=d,data:=.fields #[.ref t,v,.none,.none,.bool false,.none] }
def pT (x C:Addr)(d:Option Addr):HO:=.ext λ h=>∃ t v,h.get? x=some (pD C d t v)
theorem zi (e:h.get? x=some (pD C d t v)):ă P w H h x (pT x C d) :=
 ⟨⟨t,v,e⟩,⟨_,e⟩,λ _ _ ⟨t',v',e'⟩ k=>⟨t',v',k _ e'⟩⟩
def L5 (n:Nat)(H:Hp)(h:Heap)(x C:Addr)(d:Option Addr):Prop:=∃ t T oT ts,h.get? x=some (pD C d t (.ref T))/\T≠x/\n<=T/\H T=none/\h.get? T=some oT/\oT.data=.fields ts/\ts[3]?=some Value.none
def i5 (P:Program)(w:World):pB:=λ outer H s E e s'=>∃ x C dx fs H',e=.ref x/\s'.os=s.os/\AllBare s'.gens/\Un (mj outer) [] H H' s.heap s'.heap/\η P w H' s'.heap/\H' x=some (pT x C (some dx))/\H' dx=some (.xd fs)/\L5 s.heap.objs.size H' s'.heap x C (some dx)/\E (.ref C) (some x) H'
section
variable {X:Cx}{Ã:List (Addr × Obj)}{σ:St}{H:Hp}{s:Shared}
theorem Inv.left (I:Inv X Ã σ H s)(hS:X.stack=X.env::X.outer)(hx:H x=some o)(ho:(∃ φ,o=.ext φ))(he:s.heap.get? x=some (pD C d t v))
  (l:MW (mj (X.env::X.outer)) x T (pD C d t v) s.heap h' r):Inv X Ã σ (aj H x (pT x C d)) { s with heap:=h' }:=by
 obtain⟨φ,rfl⟩:=ho;have nx:∀ b u,H b=some u->(∀ φ,u ≠ .ext φ)->b≠x:=λ b u e n z=>by
  subst z;rw [hx] at e;exact n φ (â e).symm
 have VY:∀ b∈mj (X.env::X.outer),H b=none:=λ b hb=>I.NH b (by rw [hS];exact hb)
 have Vy:∀ b u,H b=some u->b ∉ mj (X.env::X.outer):=λ b u e z=>by rw [VY b z] at e;cases e
 have exc:h'.get? x=some (pD C d t (.ref T)):=l.exc;have sub:=λ b hb=>é.mp (I.ML b (by rw [hS];exact hb))
 refine I.step (ch:=[]) (λ _ z=>nomatch z) (λ b o hL hf _ e n=>?_) (λ b o hL hf _ e n=>?_) (λ b o _ e n=>?_) (λ b o _ e=>?_) (λ b xs e=>?_) (λ b o u e=>?_) (λ b ps e=>⟨#[],?_⟩) (λ e=>?_) (λ m hm=>?_) (λ b u e=>?_) I.bare
 ·refine l.keep b o (λ z=>by rw [z,hx] at n;cases n) (λ z=>?_) e
  rcases sub b z with q | q
  ·exact hL q
  ·exact hf q
 ·exact l.slot b o (λ z=>by rw [z,hx] at n;cases n) e
 ·rw [ad (λ z=>by rw [z,hx] at n;cases n)];exact n
 ·by_cases z:b=x
  ·subst z;exact⟨_,exc⟩
  ·obtain⟨sl,q⟩:=l.slot b o z e;exact⟨_,q⟩
 ·rw [ad (nx b _ e λ _=>by intro z;cases z)];exact e
 ·rw [ad (nx b _ e λ _=>by intro z;cases z)];exact e
 ·rw [ad (nx b _ e λ _=>by intro z;cases z),e];simp
 ·rw [ad (λ z=>by rw [z,hx] at e;cases e)];exact e
 ·obtain⟨o,es,ep,ho,r⟩:=hm;obtain⟨sl,q⟩:=l.slot _ o (λ z=>by have:=I.free;rw [z,hx] at this;cases this) ho
  exact⟨_,es,ep,q,r⟩
 ·by_cases z:b=x
  ·subst z;rw [be] at e;cases e;exact zi exc
  ·rw [ad z] at e;refine(I.Č b u e).Mt (λ c o' hc q=>?_) (λ c q=>?_) λ c xs q=>?_
   ·rcases hc with rfl | hc
    ·exact l.keep c o' z (Vy c u e) q
    ·exact l.keep c o' (nx c _ hc λ _=>by intro w;cases w) (Vy c _ hc) q
   ·rw [ad (nx c _ q λ _=>by intro w;cases w)];exact q
   ·rw [ad (nx c _ q λ _=>by intro w;cases w)];exact q
end
section
variable {P:Program}{w:World}{K:Frag}{mg:cr}{base:Heap}{N:List Str}{qual:Str}{scope:Scope}{f:Addr}{cd:Value}{A:Around}{outer:List Env}{s0:Shared}{H0:Hp}{E:XK}{Ã:List (Addr × Obj)}{σ:St}{H:Hp}{s:Shared}
theorem zG (I:Inv (bR (i5 P w) P w K mg base N qual scope f cd A outer s0 H0 E) Ã σ H s)(hx:H x=some o)(ho:(∃ φ,o=.ext φ))(UU:H dx=some (.xd fs))(he:s.heap.get? x=some (pD C (some dx) t v))
  (hv:Cz s.heap x #[.ref t,v,.none,.none,.bool false,.none]) (q:E (.ref C) (some x) (aj H x (pT x C (some dx)))):(bR (i5 P w) P w K mg base N qual scope f cd A outer s0 H0 E).xe (.ref x) s:=by
 have hA:=I.ok.frames;refine oV hA I.stack rfl he rfl hv λ h' T l=>?_;have J:=Inv.left I rfl hx ho he l;have nT:=I.Č.fresh l.new;obtain⟨oT,ts,h1,h2,h3,h4⟩:=l.Wh;have nd:dx≠x:=λ z=>by
  obtain⟨φ,rfl⟩:=ho;rw [z,hx] at UU;cases UU
 refine⟨x,C,dx,fs,_,rfl,J.os,J.bare,J.base,J.Č,be,by rw [ad nd];exact UU,⟨t,T,oT,ts,l.exc,h4,Í I.sz l.new,?_,h1,h2,h3⟩,q⟩
 rw [ad h4];exact nT
theorem i6:eO (i5 P w) (bR (i5 P w) P w K mg base N qual scope f cd A outer s0 H0 E) E:=by
 intro Ã σ H s e s' I h;obtain⟨x,C,dx,fs,H',rfl,os,bare,un,Č,hx,UU,⟨t,T,oT,ts,h1,h2,_,h4,h5,h6,h7⟩,q⟩:=h;have J:=I.RB os un Č bare (λ b z=>absurd z (by simp))
 refine zG J hx ⟨_,rfl⟩ UU h1 (.inr ⟨T,oT,ts,rfl,h2,h5,h6,h7⟩) ?_;rw [vW hx];exact q
end
end My
namespace My
open PySem PySem.W L2
open PyProof.Rows (AllBare)
section
variable {prog:Program}{w:World}{A:Around}{E:eE}{s:Shared}{env:Env}{x:Sem Value}{Q:Flow->Shared->Prop}{K:Frag}{C:Addr}
theorem vo (T:tN K C)(ht:typeIn K (.ref C)=some (.type "type")) (hA:A.handled=none)
  (hx:wpAny (model prog w) A x (λ v s1=>∃ e t d od,v=.ref e/\InstAt s1.heap e (nY C d t) C od/\K.In s1.heap/\E (.ref e) s1) E s):wpAny (model prog w) A (raiseStmt env (some x) none) Q E s:=by
 unfold raiseStmt;refine À (Ń hx (λ v s1 h=>?_) (λ _ _ z=>z));obtain⟨e,t,d,od,rfl,I,KX,q⟩:=h;obtain⟨hp,g,dr,tk,os⟩:=s1;have Ym:∀ c:ClassData,(nY C d t).data≠Data.cls c:=λ c z=>by cases z
 refine À (Á ?_);refine À ?_;show wpAny _ _ (excFromValue (.ref e) _) _ _ _;unfold excFromValue;refine À ?_;unfold isExcClass;refine À (ks_wpAny_isType_inst I.at_ Ym ?_);refine ŗ rfl (Á ?_);refine ŗ rfl ?_;refine À ?_;have sub:Looks (model prog w) hp (isInstance (.ref e) (.type "BaseException")) true:=I.type.andThen (looks_mroIn KX T.mb);refine Ż (s:=⟨hp,g,dr,tk,os⟩) sub ?_;refine wpAny_ite_true rfl (Á ?_);refine À (ks_wpAny_isType_inst I.at_ Ym ?_);refine ŗ rfl ?_;refine À ?_;unfold raisedInstance;refine À (Ż I.type ?_);refine À (Ż (looks_typeIn KX ht) ?_);refine wpAny_ite_true rfl (Á ?_);refine À ?_;refine À (ú I.at_ rfl rfl ?_);refine ŗ rfl (Á ?_);exact wpAny_raiseNew_none hA q
end
theorem θ.type (T:θ K D nm C f):typeIn K (.ref C)=some (.type "type"):=by
 obtain⟨q,N,bs,sn,sub,ab,col,dd,k0,k1,k2,k3,k5,l⟩:=T.cls;show(K.lookup C).map (λ o=>o.cls)=_;rw [l];rfl
def qR (E:XK)(C:Addr):VK:=λ y H'=>∃ x dx fs,y=.ref x/\H' x=some (fg x C (some dx))/\H' dx=some (.xd fs)/\E (.ref C) (some x) (aj H' x (pT x C (some dx)))
def BM (E:XK)(C:Addr)(fld:Str)(te:TE):TS:=λ _ σ H=>EW C fld te σ H (qR E C)
theorem hI:aj (aj H x a) x b=aj H x b:=by
 funext z
 unfold aj;by_cases h:z=x
 ·rw [Ó h,Ó h]
 ·rw [Ë h,Ë h,Ë h]
section
variable {P:Program}{w:World}{K:Frag}{mg:cr}{base:Heap}{N:List Str}{qual:Str}{scope:Scope}{f:Addr}{cd:Value}{A:Around}{outer:List Env}{s0:Shared}{H0:Hp}{E:XK}
abbrev uW (P:Program)(w:World)(K:Frag)(mg:cr)(base:Heap)(N:List Str)(qual:Str)(scope:Scope)(f:Addr)(cd:Value)(A:Around)(outer:List Env)(s0:Shared)(H0:Hp)(E:XK):Cx:=bR (i5 P w) P w K mg base N qual scope f cd A outer s0 H0 E
theorem hV {nm fld x:Str}(B:Η K D)(T:θ K D nm C fI)(F:í P w K mg base aB k fI fd ps (nW C fld))(hr:ć (k+1) (uW P w K mg base N qual scope f cd A outer s0 H0 E).A)(hb:Binds K fd ps [])
  (hg:Gl (uW P w K mg base N qual scope f cd A outer s0 H0 E) x) (hm:mg x=some (.ref C)) (ha:PE (uW P w K mg base N qual scope f cd A outer s0 H0 E) e te)
  (No:(x==("__debug__" : Str))=false:=by decide) (he:starEach [e] (uW P w K mg base N qual scope f cd A outer s0 H0 E).env=(false,eval e (uW P w K mg base N qual scope f cd A outer s0 H0 E).env)::starEach [] (uW P w K mg base N qual scope f cd A outer s0 H0 E).env:=by rfl) (I_:(backTo pos (starEach [] (uW P w K mg base N qual scope f cd A outer s0 H0 E).env)).any (·.1)=false:=by rfl) :
  PS (uW P w K mg base N qual scope f cd A outer s0 H0 E) (.Raise (some (.Call (.Name x p) [e] [] pos)) none pos') (BM E C fld te):=by
 intro Ã s σ H D' I h;have pe:=AI (X:=uW P w K mg base N qual scope f cd A outer s0 H0 E) (p:=p) B T F hr hb hg hm ha No he I_;have hd:=I.ok.hd rfl;rw [arm_exec_Raise];refine À (Ģ ?_);refine vo T.it T.type hd ?_;refine À (bt (pe Ã s σ H (qR E C) I h) λ u s1 h1=>?_);obtain⟨y,H1,I1,ry,x,dx,fs,rfl,e1,e2,q⟩:=h1;refine À (Ģ (Á ?_));obtain⟨t,ht⟩:=il I1.Č e1;obtain⟨ox,od,J,_⟩:=nH I1.Č e1 e2;have eo:=â (J.at_.symm.trans ht);subst eo;exact⟨x,t,some dx,some od,ry,J,I1.Š,zG I1 e1 ⟨_,rfl⟩ e2 ht (.inl rfl) q⟩
theorem lI {fld:Str}(nd:dx≠x)(q:E (.ref C) (some x) (aj (aj H1 dx (.xd [(fld,v)])) x (pT x C (some dx)))):qR E C (.ref x) (aj (aj H1 dx (.xd [(fld,v)])) x (fg x C (some dx))) :=
 ⟨x,dx,_,rfl,be,by rw [ad nd,be],by rw [hI];exact q⟩
theorem LG (F:ĵ K x qual st f fd)(S:ai N ps (aa st))(len:∀ vs H Q E,sp vs H Q E->vs.length=ps.length)
  (r_:∀(cdv:Value)(A:Around)(outer:List Env)(s:Shared)(H:Hp)(vs:List V)(Q:VK)(E:XK),ć k (A.deeper (PyProof.Rows.envOfC qual (aa st) s.heap.objs.size f cdv))->sp vs H Q E ->
   ∃ t,ſ (uW P w K mg base N qual (aa st) f cdv A outer s H E) (aI st) t/\t { nx:=λ _ H'=>Q .Ă H',rt:=Q } (gp N vs) H):í P w K mg base (i5 P w) (k+1) f fd ps sp:=by
 obtain⟨oc,od,kV,doc,pm,an,cdv,ct,Sg,rfl,lk,Pi⟩:=F.ex;refine zP lk Pi S len λ A outer s H vs Q E hr MC=>?_;obtain⟨t,h,q⟩:=r_ cdv A outer s H vs Q E hr MC;exact⟨t,h,q⟩
theorem qD (F:ĵ K x qual st f fd)(S:ai N ps (aa st))
  (r_:∀(cdv:Value)(A:Around)(outer:List Env)(s:Shared)(H:Hp)(vs:List V)(Q:VK)(E:XK),ć k (A.deeper (PyProof.Rows.envOfC qual (aa st) s.heap.objs.size f cdv))->sp vs H Q E ->
   ∃ t,ſ (uW P w K mg base N qual (aa st) f cdv A outer s H E) (aI st) t/\t { nx:=λ _ H'=>Q .Ă H',rt:=Q } (gp N vs) H) (len:∀ vs H Q E,sp vs H Q E->vs.length=ps.length:=by intro vs H Q E h;repeat (first | (obtain⟨rfl,_⟩:=h;rfl) | (obtain⟨_,h⟩:=h))):í P w K mg base (i5 P w) (k+1) f fd ps sp:=LG F S len r_
theorem bH:PS X st (λ _ _ _=>False):=λ _ _ _ _ _ _ h=>h.elim
end
end My
namespace My
open PySem PySem.W L2
open PyProof.Rows (AllBare)
section
variable {X:Cx}{Ã:List (Addr × Obj)}{σ:St}{H:Hp}{s:Shared}
theorem lJ:∀{cs:List Addr}{us:List Value},Vals (cs.map V.ref) us->us=cs.map Value.ref
 | [],_,.nil=>rfl
 | c::cs,_,.cons r t=>by
  rw [lJ t];cases (show _=Value.ref c from r);rfl
end
end My
namespace My
open PySem PySem.W L2
open PyProof.Rows (AllBare)
abbrev TH:=Addr->Addr->TS
end My
namespace My
open PySem L2
section
variable {X:Cx}
theorem wD (h:oE v=true):IW v v=true:=by
 cases v with
 | Ă=>rfl
 | bl b=>cases b <;> rfl
 | int i=>exact ź i
 | str s=>exact ź s
 | _=>cases h
end
section
variable {X:Cx}
def nu (x y:V):Prop:=oE x=true/\oE y=true/\IW x y=true
def Alike (K:PySem.W.Frag)(H:Hp):Nat->V->V->Prop
 | 0,x,y=>(∃ a,x=.ref a/\y=.ref a)\/nu x y
 | n+1,x,y=>((∃ a,x=.ref a/\y=.ref a)\/nu x y) \/
  ∃ p q xs ys,x=.ref p/\y=.ref q/\((Ė K H p xs/\Ė K H q ys)\/(Ċ K H p xs/\Ċ K H q ys))/\xs.length=ys.length/\∀(i:Nat) x y,xs[i]?=some x->ys[i]?=some y->Alike K H n x y
theorem Alike.same (h:(∃ a,x=.ref a/\y=.ref a)\/nu x y):Alike K H n x y:=by
 cases n with
 | zero=>exact h
 | succ n=>exact .inl h
theorem uJ (ru:RelV x u)(rv:RelV y v)(h:nu x y):SeqAt.EqAt A s u v true:=by
 have f:=D9 (A:=A) (s:=s) ru rv h.1 h.2.1;rw [h.2.2] at f;exact f
theorem rA (ru:RelV x u)(rv:RelV y v)(h:(∃ a,x=.ref a/\y=.ref a)\/nu x y):SeqAt.EqAt A s u v true:=by
 rcases h with⟨a,rfl,rfl⟩ | h
 ·cases (show u=.ref a from ru);cases (show v=.ref a from rv);exact Nt _
 ·exact uJ ru rv h
theorem oY (r1:Vals xs its)(r2:Vals ys Pt)(h:∀(i:Nat) x y u v,xs[i]?=some x->ys[i]?=some y->RelV x u->RelV y v->SeqAt.EqAt A s u v true) :
  ∀ j (h1:j<its.toArray.size) (h2:j<Pt.toArray.size),SeqAt.EqAt A s its.toArray[j] Pt.toArray[j] true:=by
 intro j h1 h2;have h1':j<its.length:=by simpa using h1
 have S':j<Pt.length:=by simpa using h2
 have k1:j<xs.length:=by rw [r1.length];exact h1'
 have k2:j<ys.length:=by rw [r2.length];exact S'
 obtain⟨u1,e1,q1⟩:=r1.get (Å k1);obtain⟨u2,e2,q2⟩:=r2.get (Å k2);have a1:its.toArray[j]=u1:=by
  have:=Å h1';rw [e1] at this
  simpa using (Option.some.inj this).symm
 have a2:Pt.toArray[j]=u2:=by
  have:=Å S';rw [e2] at this
  simpa using (Option.some.inj this).symm
 rw [a1,a2];exact h j _ _ _ _ (Å k1) (Å k2) q1 q2
theorem kU {A:Around}:A.in1.units=A.units+1:=rfl
theorem qK (I:Inv X Ã σ H s)(hu:A.units<cLine)(h:(Ė X.K H p xs/\Ė X.K H q ys)\/(Ċ X.K H p xs/\Ċ X.K H q ys))(len:xs.length=ys.length)
  (he:∀(i:Nat) x y u v,xs[i]?=some x->ys[i]?=some y->RelV x u->RelV y v->SeqAt.EqAt A.in1 s u v true):SeqAt.RcAt A s (.ref p) (.ref q) true/\SeqAt.RcNeAt A s (.ref p) (.ref q) false:=by
 rcases h with⟨hp,hq⟩ | ⟨hp,hq⟩
 ·obtain⟨its,r1,t1,_⟩:=I.tuple hp;obtain⟨Pt,r2,t2,_⟩:=I.tuple hq;have l1:=r1.length;have l2:=r2.length;have e:=oY r1 r2 he;have z:((List.range (min its.toArray.size Pt.toArray.size)).all (λ _=>true)&&its.toArray.size==Pt.toArray.size)=true:=by
   simp;omega
  have a:=SeqAt.RcAt.tuples t1 t2 hu e;have b:=SeqAt.RcNeAt.tuples t1 t2 hu e;rw [z] at a b;exact⟨a,b⟩
 ·obtain⟨its,r1,t1,_⟩:=I.list hp;obtain⟨Pt,r2,t2,_⟩:=I.list hq;have l1:=r1.length;have l2:=r2.length;have e:=oY r1 r2 he;have z:((List.range its.toArray.size).all (λ _=>true))=true:=by simp
  have sz:its.toArray.size=Pt.toArray.size:=by simp;omega
  have a:=SeqAt.RcAt.lists t1.isList t2.isList sz hu e;have b:=SeqAt.RcNeAt.lists t1.isList t2.isList sz hu e;rw [z] at a b;exact⟨a,b⟩
theorem nN (I:Inv X Ã σ H s):∀(n:Nat){A:Around}{x y:V}{u v:Value},A.units+n<cLine->Alike X.K H n x y->RelV x u->RelV y v->SeqAt.EqAt A s u v true
 | 0,A,x,y,u,v,hu,h,ru,rv=>rA ru rv h
 | n+1,A,x,y,u,v,hu,h,ru,rv=>by
  rcases h with h | ⟨p,q,xs,ys,rfl,rfl,hs,len,all⟩
  ·exact rA ru rv h
  ·cases (show u=.ref p from ru);cases (show v=.ref q from rv);by_cases e:p=q
   ·subst e;exact Nt _
   ·exact .of_refs e (qK I af hs len λ i x y u v hx hy ru rv=>nN I n (by rw [kU];omega) (all i x y hx hy) ru rv).1
def uh (K:PySem.W.Frag)(n:Nat)(b:Bool):R2:=λ x y H Q=>∃ p q xs ys,x=.ref p/\y=.ref q/\((Ė K H p xs/\Ė K H q ys)\/(Ċ K H p xs/\Ċ K H q ys))/\xs.length=ys.length/\(∀(i:Nat) x y,xs[i]?=some x->ys[i]?=some y->Alike K H n x y)/\Q (.bl b) H
theorem Ce (hu:X.A.units+(n+1)<cLine):je X (compareOp .NotEq) (uh X.K n false):=by
 intro Ã s σ H x y v u Q I rx ry h;obtain⟨p,q,xs,ys,rfl,rfl,hs,len,all,k⟩:=h;cases rx;cases ry;exact(qK I af hs len λ i x y u v hx hy ru rv=>nN I n (by rw [kU];omega) (all i x y hx hy) ru rv).2 X.prog X.w X.xe _ ⟨.bl false,H,I,rfl,k⟩
end
end My
namespace My
open PySem PySem.W L2
open PyProof.Rows (Call_ boot_enumerate)
section
variable {X:Cx}{Ã:List (Addr × Obj)}{σ:St}{H:Hp}{s:Shared}{h':Heap}
theorem zk (I:Inv X Ã σ H s)(k:∀ b o,b≠i1->b≠i2->s.heap.get? b=some o->h'.get? b=some o)(F1:gY X Ã H i1)(F2:gY X Ã H i2):Inv X Ã σ H { s with heap:=h',toks:=t' }:=by
 obtain⟨n1,L1,_,a1,b1,c1⟩:=F1;obtain⟨n2,L2,_,a2,b2,c2⟩:=F2;have Yp:∀ b u,H b=some u->b≠i1:=λ b u e z=>by rw [z,n1] at e;cases e
 have Yo:∀ b u,H b=some u->b≠i2:=λ b u e z=>by rw [z,n2] at e;cases e
 refine I.step (ch:=[i1,i2]) (λ b hb=>?_) (λ b o _ _ hc e _=>k b o (λ z=>hc (by simp [z])) (λ z=>hc (by simp [z])) e) (λ b o _ _ hc e _=>⟨o.slots,k b o (λ z=>hc (by simp [z])) (λ z=>hc (by simp [z])) e⟩) (λ _ _ _ _ n=>n)
  (λ b o hc e=>⟨o,k b o (λ z=>hc (by simp [z])) (λ z=>hc (by simp [z])) e⟩) (λ _ _ e=>e) (λ _ _ _ e=>e) (λ b ps e=>⟨#[],by rw [e];simp⟩) (λ q=>q) (λ m hm=>?_) (λ b u e=>?_) I.bare
 ·have e:b=i1\/b=i2:=by simpa using hb
  rcases e with rfl | rfl
  ·exact⟨a1,L1,b1,c1⟩
  ·exact⟨a2,L2,b2,c2⟩
 ·obtain⟨o,es,ep,ho,r⟩:=hm;exact⟨o,es,ep,k _ o (Ne.symm L1) (Ne.symm L2) ho,r⟩
 ·refine(I.Č b u e).Mt (λ c v hc q=>k c v ?_ ?_ q) (λ _ q=>q) λ _ _ q=>q
  ·rcases hc with z | z
   ·rw [z];exact Yp b u e
   ·exact Yp c _ z
  ·rcases hc with z | z
   ·rw [z];exact Yo b u e
   ·exact Yo c _ z
end
theorem OA {o:Obj}(d:o.data=.fields vs):o.isFreed=false:=by
 obtain⟨c,dd,dt,sl⟩:=o;cases d;rfl
def Gj (K:Frag)(a:Addr):It :=
 ⟨λ i H=>∃ xs x,Ċ K H a xs/\xs[i]?=some x,λ i H x H'=>∃ p y,x=.ref p/\H p=none/\H'=aj H p (.tup [.int i,y])/\∀ xs,Ċ K H a xs->xs[i]?=some y,λ i H=>∃ xs,Ċ K H a xs/\xs.length<=i⟩
theorem sI {x1}(a e it:Addr)(ne:e≠it):my P w K (.Tuple elts x1 pos) (Gj K a) [e,it] e (λ i h=>(∃ old,IsEnum h e it i old)/\h.IsListIter it a i) where
 mem:=by simp
 obj:=λ i h st b hb=>by
  obtain⟨⟨old,h1⟩,o,h2,c,d⟩:=st;have e:b=e\/b=it:=by simpa using hb
  rcases e with rfl | rfl
  ·exact⟨_,h1,λ v z=>by cases z⟩
  ·exact⟨o,h2,λ v z=>by rw [d] at z;cases z⟩
 keep:=λ i h h' st k=>⟨⟨_,k e (by simp) _ st.1.choose_spec⟩,st.2.at λ o z=>k it (by simp) o z⟩
 item:=by
  intro X hP hw hK hc i Ã s σ H E I hf st hg;subst hP hw hK;obtain⟨xs,x,hq,hx⟩:=hg;obtain⟨its,rv,p,hz⟩:=I.list hq;obtain⟨u,hu,ru⟩:=rv.get hx;obtain⟨⟨old,he⟩,hi⟩:=st;have Fe:=hf e (by simp)
  have Fi:=hf it (by simp)
  refine wpAny_pyNext_enum_item he hi p.isList (by simpa using hu) ne λ h1 eo QP ht UE kk=>?_
  refine⟨_,rfl,wpAny_letOwnedTupleGo_enum eo λ h2 SC sb=>?_⟩;have Pa:=sb;have ne2:=Ω (Ñ he);have WT:=(Pa.2 _ ne2).trans ht;obtain⟨oi,Nz,ci,di⟩:=hi;obtain⟨Yj,W6,ci1,ZR⟩:=id QP;have UI:=(Pa.2 _ (Ne.symm ne)).trans W6
  let hA:Heap:=(s.heap.update e λ _=>{ cls:=.type "enumerate",dict:=none,data:=.fields #[.none,.bool false,.ref it,rawInt ((i:Int)+1),.none,u],slots:=#[] }).update it λ _=>Yj
  have IA:Inv X Ã σ H { s with heap:=hA,toks:=s.toks }:=zk I (λ b o z1 z2 q=>by
   rw [è _ _ _ _ z2,è _ _ _ _ z1];exact q) Fe Fi
  have Wl:hA.objs.size=s.heap.objs.size:=by
   rw [MG,MG]
  refine⟨.ref s.heap.objs.size,aj H s.heap.objs.size (.tup [.int i,x]),?_,rfl,⟨_,x,rfl,I.Č.fresh (Æ _),rfl,λ ys hy=>by rw [I.MN hy hq];exact hx⟩,⟨⟨u,SC⟩,Yj,UI,ci1,ZR⟩,λ b hb=>?_⟩
  ·refine IA.laid (λ b v q=>?_) (γ Wl) ?_
   ·have q':=q;by_cases z2:b=it
    ·subst z2;have hg:(s.heap.update e λ _=>{ cls:=.type "enumerate",dict:=none,data:=.fields #[.none,.bool false,.ref b,rawInt ((i:Int)+1),.none,u],slots:=#[] }).get? b=some oi:=by
      rw [è _ _ _ _ (Ne.symm ne)];exact Nz
     rw [ù _ hg (OA ZR)] at q';cases q';exact UI
    ·rw [è _ _ _ _ z2] at q';by_cases z1:b=e
     ·subst z1;rw [ù _ he rfl] at q';cases q';exact SC
     ·rw [è _ _ _ _ z1] at q';exact(Pa.2 b z1).trans (kk b v z1 z2 q')
   ·exact⟨cK,[.int i s.toks,u],.cons ⟨_,rfl⟩ (.cons ru .nil),⟨_,WT,rfl,_,rfl⟩⟩
  ·have nb:b≠s.heap.objs.size:=by
    have e':b=e\/b=it:=by simpa using hb
    rcases e' with rfl | rfl
    ·exact ê (Ñ he)
    ·exact ê (Ñ Nz)
   rw [ad nb];exact(hf b hb).1
 done:=by
  intro X hP hw hK hc i Ã s σ H E I hf st hg;subst hP hw hK;obtain⟨xs,hq,hx⟩:=hg;obtain⟨its,rv,p,hz⟩:=I.list hq;obtain⟨⟨old,he⟩,hi⟩:=st;obtain⟨f0,f1,f2,f3,f4,f5⟩:=hf it (by simp)
  have hl:=rv.length;exact wpAny_pyNext_enum_end (I.ok.hd hc) he hi p.isList (by simp;omega) λ h' eb=>⟨rfl,I.turned (λ b o hb e=>eb b o hb e) f0 f1 f3 f4 f5⟩
 self:=λ _ _ _ _ _ st h=>wpAny_pyIter_enum st.1.choose_spec h
section
variable {X:Cx}
def zq (K:Frag)(ta:TA):TI:=λ σ H R=>ta σ H λ vs H1=>∃ a,vs=[.ref a]/\(∃ xs,Ċ K H1 a xs)/\R (Gj K a) H1
theorem xX {x1}(hg:Gl X "enumerate") (hm:X.mg "enumerate" = none) (ha:PA X [a] ta) (hs:starEach [a] X.env=[(false,eval a X.env)]:=by rfl):PI X (.Tuple elts x1 pt) (.Call (.Name "enumerate" p) [a] [] pos) (zq X.K ta):=by
 intro Ã s σ H R I h;refine Call_ (iZ I hg hm boot_enumerate (Ŕ (bt (ha pos Ã s σ H _ I h) λ us s1 ⟨vs,H1,I1,r1,q1⟩=>?_) hs rfl));obtain⟨l,rfl,⟨xs,hq⟩,q⟩:=q1;cases r1 with
 | cons r rr =>
  cases rr;cases r;obtain⟨its,rv,p',hz⟩:=I1.list hq;refine call_enumerate_list p'.isList λ h' he hi Rv kk=>?_;refine wpAny_pyIter_enum he ?_;refine⟨s1.heap.objs.size+1,[s1.heap.objs.size+1,s1.heap.objs.size],_,_,H1,rfl,I1.kept kk,sI l _ _ (Nat.succ_ne_self _),⟨⟨_,he⟩,hi⟩,λ b hb=>?_,q⟩;have e:b=s1.heap.objs.size+1\/b=s1.heap.objs.size:=by simpa using hb
  have le:s1.heap.objs.size<=b:=by
   rcases e with rfl | rfl
   ·exact OM _
   ·exact Æ _
  exact I1.Om le (I1.Č.fresh le)
end
theorem vQ {g:TG}{tb:TS}{D:dq}(Pv:Nat->St->Hp->Prop)(h0:Pv 0 σ H)(hl:∀ i σ H,i<=xs.length->Pv i σ H->Ċ K H a xs)
  (hs:∀ i x σ H p,xs[i]?=some x->Pv i σ H->H p=none->g (.ref p) σ (aj H p (.tup [.int i,x])) λ Ĩ H2=>tb { D with nx:=Pv (i+1),ct:=Pv (i+1),bk:=D.nx } Ĩ H2) (hd:∀ σ H,Pv xs.length σ H->D.nx σ H) :
  ∃ W:Nat->Nat->St->Hp->Prop,(∃ m,W 0 m σ H)/\∀ i m σ H,W i m σ H ->
   ((Gj K a).stop i H/\D.nx σ H)\/((Gj K a).go i H/\∃ N:St->Hp->Prop,(∀ ĸ H',N ĸ H'->∃ m',m'<m/\W (i+1) m' ĸ H')/\∀ x H',(Gj K a).ο i H x H'->g x σ H' λ Ĩ H2=>tb { D with nx:=N,ct:=N,bk:=D.nx } Ĩ H2):=by
 refine⟨λ i m σ H=>m=xs.length-i/\i<=xs.length/\Pv i σ H,⟨xs.length,by simp,Nat.zero_le _,h0⟩,?_⟩
 rintro i m σ H ⟨rfl,hi,p⟩;have q:=hl i σ H hi p;by_cases ř:i<xs.length
 ·refine .inr ⟨⟨xs,xs[i],q,Å ř⟩,Pv (i+1),λ ĸ H' n=>⟨xs.length-(i+1),af,rfl,ř,n⟩,?_⟩;rintro x H' ⟨p',y,rfl,hp,rfl,hy⟩;exact hs i y σ H p' (hy xs q) p hp
 ·have e:i=xs.length:=af;subst e;exact .inl ⟨⟨xs,q,Æ _⟩,hd σ H p⟩
end My
namespace My
open PySem L2
def qk (o:Option Str)(C:Addr)(cl:List (Str × Addr)):List (Str × Addr):=match o with | none=>cl | some x=>(x,C)::cl
def Kv:Option Str->Str->Bool
 | none=>λ _=>false
 | some x=>λ y=>y==x
def aH (X:Cx)(sc:Scope)(cl:List (Str × Addr))(o:Option Str)(N:List Str)(s:Shared)(H:Hp)(C:Addr)(fp:List Addr):Cx where
 prog:=X.prog
 w:=X.w
 K:=X.K
 mg:=X.mg
 base:=X.base
 A:=X.A
 N:=N
 ŝ:=s
 OH:=H
 env:=compEnvC sc (qk o (C+1) cl) C X.env
 outer:=X.stack
 stack:=X.stack
 ex:=fp
 fn:=Kv o
 calm:=X.calm
 pn:=[]
 xe:=λ _ _=>False
abbrev mP (X:Cx)(sc:Scope)(cl:List (Str × Addr)):=aH X sc cl none
abbrev zf (X:Cx)(sc:Scope)(cl:List (Str × Addr))(x:Str):=aH X sc cl (some x)
def gu (js:List Nat)(σ:St):St:=js.map λ j=>(σ[j]?).join
structure fQ (X:Cx)(sc:Scope)(cl:List (Str × Addr))(o:Option Str)(ts zs:List Str)(js:List Nat):Prop where
 OE:closureFor sc X.env=pure cl
 kind:sc.kind=.function
 cells:∀ C:Nat,cellsFrom C sc.names cl=qk o C cl
 names:∀ y∈sc.names,y.2=.local->sc.names.lookup y.1=some .local
 inx:∀ x,o=some x->x∈ts
 sub:∀ z c,cl.lookup z=some c->X.env.cells.lookup z=some c
 has:∀ z,((relabel sc X.env).names.lookup z=some .cell\/(relabel sc X.env).names.lookup z=some .free)->o=some z\/∃ c,cl.lookup z=some c
 nd:(ts++zs).Nodup
 ų:∀(k:Nat)(z:Str),zs[k]?=some z->∃ j:Nat,js[k]?=some j/\X.N[j]?=some z/\EM X.env.scope z/\X.env.kindOf z≠some .local /\
  ((relabel sc X.env).names.lookup z=some .cell\/(relabel sc X.env).names.lookup z=some .free)
 len:js.length=zs.length
theorem gW {o:Option Str}{z:Str}{c d:Addr}{cl:List (Str × Addr)}(h:(qk o d cl).lookup z=some c):(o=some z/\c=d)\/(o≠some z/\cl.lookup z=some c):=by
 cases o with
 | none=>exact .inr ⟨nofun,h⟩
 | some x =>
  rw [qk,ň] at h;cases e:z==x with
  | true=>rw [e] at h;exact .inl ⟨by rw [Ķ.mp e],(â h).symm⟩
  | false=>rw [e] at h;exact .inr ⟨λ q=>by cases q;simp at e,h⟩
theorem ub {o:Option Str}{z:Str}{c d:Addr}{cl:List (Str × Addr)}(n:o≠some z)(h:cl.lookup z=some c):(qk o d cl).lookup z=some c:=by
 cases o with
 | none=>exact h
 | some x=>rw [qk,ň,ċ.mpr λ e=>n (by rw [e])];exact h
theorem jk {x:Str}{d:Addr}{cl:List (Str × Addr)}:List.lookup x ((x,d)::cl)=some d:=by
 rw [ň,ź]
theorem yz {z x:Str}{c d:Addr}{cl:List (Str × Addr)}(n:z≠x)(h:cl.lookup z=some c):List.lookup z ((x,d)::cl)=some c:=by
 rw [ň,ċ.mpr n];exact h
theorem tQ {M:Model}{A:Around}{E:eE}{s:Shared}{scope:Scope}{globals:Addr}{cl:List (Str × Addr)}{qual:Str}{outer:Env}{Q:Env->Shared->Prop}
  (hQ:∀ h',h'.Ns s.heap.objs.size (λ _=>none)->(∀ b o,s.heap.get? b=some o->h'.get? b=some o)->(∀ n c,(n,c)∈cellsFrom (s.heap.objs.size+1) scope.names []->h'.IsCell c none) ->
   Q { scope:=scope,locals:=s.heap.objs.size,globals:=globals,cells:=cellsFrom (s.heap.objs.size+1) scope.names cl,qual:=qual,func:=none,code:=outer.code,frame:=outer.frame,builtins:=outer.builtins } { s with heap:=h' }) :
  wpAny M A (newFunctionEnv scope globals cl [] qual none .none (some outer)) Q E s:=by
 simp only [newFunctionEnv,Option.isSome_some,if_true];refine À (wpAny_alloc ?_);refine À (wpAny_layCells _ (λ name kind cells=>by cases hkc:kind==NameKind.cell <;> simp [hkc]) _ _ _ _ ?_)
 have ok:=cellsFrom_ok scope.names (s.heap.push { cls:=.type "dict",data:=.dict #[] }) (s.heap.objs.size+1) [] ⟨λ _ _ hm=>(nomatch hm),List.Pairwise.nil⟩ (by rw [Ĕ];exact Æ _)
 rw [Ĕ] at ok;rw [show({ s with heap:=s.heap.push { cls:=.type "dict",data:=.dict #[] } }:Shared).heap.objs.size=s.heap.objs.size+1 from Ĕ ..]
 refine À ?_;rw [List.forIn_nil];exact Á (Á (hQ _ ((Heap.Ns.new s.heap (.type "dict")).keeps (pushCells_keeps _ _)) (λ b o e=>pushCells_keeps _ _ b o (Â _ e)) λ n c hm=>(ok.empty n c hm).1))
theorem dC:∀(names:List (Str × NameKind))(n:Nat)(acc:List (Str × Addr)),cellsFrom n names acc=cellsFrom n names []++acc
 | [],_,_=>rfl
 | (name,kind)::r,n,acc=>by
  unfold cellsFrom;split
  ·rw [dC r (n+1) ((name,n)::acc),dC r (n+1) [(name,n)],N6];rfl
  ·exact dC r n acc
section
variable {X:Cx}{Ã:List (Addr × Obj)}{σ:St}{H:Hp}{s:Shared}{sc:Scope}{cl:List (Str × Addr)}{o:Option Str}{ts zs:List Str}{js:List Nat}{C:Addr}{fp:List Addr}
theorem oz {s1:Shared}{m:cr}(I:Inv X Ã σ H s)(S:fQ X sc cl o ts zs js)(hf:∀ b∈fp,gY X Ã H b/\b<s.heap.objs.size)(hC:s.heap.objs.size<=C)(ho:s1.os=s.os)(hg:s1.gens=s.gens)
  (hk:∀ b u,s.heap.get? b=some u->s1.heap.get? b=some u) (hn:s1.heap.Ns C m) (MS:∀ x,o=some x->s1.heap.IsCell (C+1) none):Inv (aH X sc cl o (ts++zs) s H C fp) [] (List.replicate ts.length none++gu js σ) H s1:=by
 have nc:∀ z,X.env.cells.lookup z≠some (C+1):=λ z e=>by
  obtain⟨v,hv⟩:=I.cell z _ e;exact absurd hv.lt (t_.mpr (e_ hC))
 have ok:(aH X sc cl o (ts++zs) s H C fp).Ok:=by
  refine⟨I.ok.mod,S.kind,I.ok.glob,I.ok.blt,hC,λ y z c h1 h2=>?_,λ z h=>?_,λ z c hx h=>?_,I.ok.hd,I.ok.frames,.inl rfl,λ b hb=>?_,I.bs,?_,λ b u e hb=>?_,λ b hb hs=>?_,I.stack,I.NH⟩
  ·rcases gW h1 with⟨e1,e2⟩ | ⟨e1,e2⟩ <;> rcases gW h2 with⟨e3,e4⟩ | ⟨e3,e4⟩
   ·exact â (e1.symm.trans e3)
   ·exact absurd (S.sub _ _ e4) (by rw [e2];exact nc z)
   ·exact absurd (S.sub _ _ e2) (by rw [e4];exact nc y)
   ·exact I.ok.inj y z c (S.sub _ _ e2) (S.sub _ _ e4)
  ·by_cases e:o=some z
   ·subst e;exact⟨C+1,jk⟩
   ·rcases S.has z h with q | ⟨c,q⟩
    ·exact absurd q e
    ·exact⟨c,ub e q⟩
  ·cases o with
   | none=>cases hx
   | some x =>
    have ez:=Ķ.mp hx;subst ez;rcases gW (o:=some z) (d:=C+1) (cl:=cl) h with⟨_,e2⟩ | ⟨e1,_⟩
    ·rw [e2];exact e_ hC
    ·exact absurd rfl e1
  ·obtain⟨⟨_,h1,_,_,h4,_⟩,h6⟩:=hf b hb;refine⟨λ e=>absurd h6 (t_.mpr (by rw [show b=C from e];exact hC)),λ z c e=>?_⟩
   rcases gW e with⟨_,e2⟩ | ⟨_,e2⟩
   ·intro q;rw [<- q,e2] at h6;exact absurd h6 (t_.mpr (e_ hC))
   ·exact h4 z c (S.sub _ _ e2)
  ·exact Í I.ok.QW I.sz
  ·obtain⟨⟨_,_,_,h3,_⟩,_⟩:=hf b hb;rcases h3 with h | h
   ·exact I.ok.P2 b u e h
   ·exact absurd (Ñ e) (t_.mpr (Í I.ok.QW h))
  ·obtain⟨⟨_,h1,h2,_⟩,_⟩:=hf b hb;rcases é.mp (I.ML b hs) with e | e
   ·exact h1 e
   ·exact h2 e
 refine⟨ok,ho,by rw [hg];exact I.bare,Un.kept hk,⟨m,hn,λ i y v h1 h2 h3=>?_⟩,λ z c e=>?_,I.Č.fresh hC,λ z c e=>?_,(λ p hp=>nomatch (show p∈([]:List (Addr × Obj)) from hp)),I.Č.kept hk,?_⟩
 ·rcases Ħ i ts.length with lt | ge
  ·rw [ý (by rw [ĺ];exact lt),Q8,Ó lt] at h2
   cases h2
  ·have h1':zs[i-ts.length]?=some y:=by
    have Xy:(ts++zs)[i]?=some y:=h1
    rwa [ç ge] at Xy
   obtain⟨j,hj,hN,hv,nl,k'⟩:=S.ų _ y h1';have S':(gu js σ)[i-ts.length]?=some (some v):=by
    rwa [ç (by rw [ĺ];exact ge),ĺ] at h2
   have h5:σ[j]?=some (some v):=by
    unfold gu at S';rw [Ô,hj] at S';have h6:(σ[j]?).join=some v:=â S';cases e:σ[j]? with
    | none=>rw [e] at h6;cases h6
    | some o=>rw [e] at h6;exact ą some h6
   obtain⟨m0,hn0,hl⟩:=I.loc;obtain⟨u,ru,lk⟩:=hl j y v hN h5 hv;refine⟨u,ru,?_⟩;rcases lk with⟨k1,_⟩ | ⟨_,c,ec,hc⟩
   ·exact absurd k1 nl
   ·have yx:o≠some y:=λ e=>(ů.mp S.nd).2.2 y (S.inx y e) y (Ì h1') rfl;rcases S.has y k' with q | ⟨c',Zn⟩
    ·exact absurd q yx
    have e2:=S.sub _ _ Zn;rw [ec] at e2;cases e2;exact .inr ⟨k',c,ub yx Zn,hc.keeps hk⟩
 ·rcases gW e with⟨e1,e2⟩ | ⟨_,e2⟩
  ·rw [e2];exact⟨none,MS _ e1⟩
  ·obtain⟨v,hv⟩:=I.cell z c (S.sub _ _ e2);exact⟨v,hv.keeps hk⟩
 ·rcases gW e with⟨_,e2⟩ | ⟨_,e2⟩
  ·rw [e2];exact I.Č.fresh (e_ hC)
  ·exact I.ψ z c (S.sub _ _ e2)
 ·show(List.replicate ts.length none++gu js σ:St).length=(ts++zs).length;simp [gu,S.len]
theorem sY {s1:Shared}{ĸ:St}{H':Hp}{h':Heap}(I:Inv X Ã σ H s)(hf:∀ b∈fp,gY X Ã H b/\b<s.heap.objs.size)(hC:s.heap.objs.size<=C)(J:Inv (aH X sc cl o (ts++zs) s H C fp) [] ĸ H' s1)
  (hs:Heap.SameBut C s1.heap h'):Inv X Ã σ H' { s1 with heap:=h' }:=by
 have old:∀ b o,s1.heap.get? b=some o->b≠C->h'.get? b=some o:=λ b o e n=>(hs.2 b n).trans e;have lt:∀{b o},s.heap.get? b=some o->b≠C:=λ {b o} e z=>by
  have q:=Ñ e;rw [z] at q;exact absurd q (t_.mpr hC)
 have B:=J.base;refine I.RB J.os ⟨λ b o e n hb hx=>old b o (B.keep b o e n hb hx) (lt e),λ b o e n hb hx=>?_,B.free,λ b o e hx=>?_,B.Nf,B.MU,B.Ng,B.sys⟩ (λ b o e=>?_) J.bare λ b hb=>?_
 ·obtain⟨sl,q⟩:=B.slot b o e n hb hx;exact⟨sl,old _ _ q (lt e)⟩
 ·obtain⟨o',q⟩:=B.there b o e hx;exact⟨o',old _ _ q (lt e)⟩
 ·have nC:∀ c u,H' c=some u->c≠C:=λ c u q z=>by
   have f:H' C=none:=J.free;rw [z,f] at q;cases q
  refine(J.Č b o e).Mt (λ c v hc q=>old c v q ?_) (λ _ q=>q) λ _ _ q=>q;rcases hc with rfl | hc
  ·exact nC _ _ e
  ·exact nC _ _ hc
 ·obtain⟨⟨_,h1,_,h3,h4,h5⟩,_⟩:=hf b hb;exact⟨h3,h1,h4,h5⟩
end
abbrev uX:=Around->Value->Env->Value->(Shared->Prop)->Shared->Prop
abbrev nE:Value->Shared->Prop:=λ _ _=>False
def pZ (prog:Program)(w:World)(whole tg:Expr)(k:Nat)(B:uX):Prop :=
 ∀(A:Around)(it:Value)(D:Addr)(env:Env)(s:Shared)(Q:Fin->Shared->Prop)(Q0:Shared->Prop)(E:eE),(∀ s,Q0 s->Q (.again (.compLoop whole k it (.ref D) env)) s)->wpAny (model prog w) A (pyNext it) (λ r ġ=>match r with
  | none=>Q (.done .next) ġ
  | some v=>wpAny (model prog w) A (letOwnedTupleGo tg it v) (λ _ ς=>B A (.ref D) env v Q0 ς) nE ġ) nE s ->
 wpAny (model prog w) (A.under (.compLoop whole k it (.ref D) env)) ((model prog w).den (.compLoop whole k it (.ref D) env)) Q E s
theorem iK {α:Type}{M:Model}{A:Around}{m:Sem α}{Q Q':α->Shared->Prop}{E:eE}{s:Shared}(h:wpAny M A m Q nE s)(k:∀ a s,Q a s->Q' a s):wpAny M A m Q' E s:=Ń h k λ _ _ z=>z.elim
section
variable {prog:Program}{w:World}{elt tg iter:Expr}{sc:Scope}{pos:Pos}
theorem km {whole:Expr}{k:Nat}{B:uX}{A:Around}{it:Value}{D:Addr}{env:Env}{R:Result->Shared->Prop}{s:Shared}(ht:pZ prog w whole tg k B)(J:Nat->Shared->Prop)
  (turn:∀ n s,J n s->wpAny (model prog w) A (pyNext it) (λ r ġ=>match r with
   | none=>R (.ok .next) ġ
   | some v=>wpAny (model prog w) A (letOwnedTupleGo tg it v) (λ _ ς=>B A (.ref D) env v (λ MJ=>∃ m,m<n/\J m MJ) ς) nE ġ) nE s)
  (n:Nat) (h:J n s):codeAny (model prog w) A (.compLoop whole k it (.ref D) env) R s:=by
 exact codeAny_loop rfl J (λ n s hJ=>ht _ _ _ _ _ _ _ _ (λ _ q=>⟨rfl,q⟩) (turn n s hJ)) n h
def yW (prog:Program)(w:World)(elt:Expr):uX:=λ A acc env _ Q s=>wpAny (model prog w) A (eval elt env) (λ x Nj=>wpAny (model prog w) A (call (.builtin "list.append") [acc,x]) (λ _ Ni=>Q Ni) nE Nj) nE s
def uj (prog:Program)(w:World)(tg:Expr)(B:uX):uX:=λ A acc env v Q s=>wpAny (model prog w) A (assign tg env v) (λ _ MJ=>B A acc env v Q MJ) nE s
def Ma (prog:Program)(w:World)(c:Expr)(B:uX):uX:=λ A acc env v Q s=>wpAny (model prog w) A (isTrue c env (eval c env)) (λ k ŝ=>(k=false->Q ŝ)/\(k=true->B A acc env v Q ŝ)) nE s
theorem Kj:pZ prog w (.ListComp elt [⟨tg,iter,[],0⟩] sc pos) tg 0 (uj prog w tg (yW prog w elt)):=by
 intro A it D env s Q Q0 E hq h;refine N0 ?_;rw [compTurn_list1];refine À (Ģ (À (iK h λ r ġ Ο=>?_)));cases r with
 | none=>exact Á Ο
 | some v=>exact À (iK Ο λ _ ς z_=>À (iK z_ λ _ MJ y_=>À (À (iK y_ λ x Nj NO=>À (iK NO λ _ Ni NN=>Á (Á (hq _ NN)))))))
theorem Gu {c:Expr}:pZ prog w (.ListComp elt [⟨tg,iter,[c],0⟩] sc pos) tg 0 (uj prog w tg (Ma prog w c (yW prog w elt))):=by
 intro A it D env s Q Q0 E hq h;refine N0 ?_;rw [compTurn_list];refine À (Ģ (À (iK h λ r ġ Ο=>?_)));cases r with
 | none=>exact Á Ο
 | some v =>
  refine À (iK Ο λ _ ς z_=>À (iK z_ λ _ MJ y_=>À (wpAny_tests_one (iK y_ λ k ŝ h₀=>?_))));cases k with
  | false=>exact Á (hq _ (h₀.1 rfl))
  | true=>exact À (À (iK (h₀.2 rfl) λ x Nj NO=>À (iK NO λ _ Ni NN=>Á (Á (hq _ NN)))))
def IH (prog:Program)(w:World)(kx vx:Expr):uX:=λ A acc env _ Q s=>∃ D,acc=.ref D/\wpAny (model prog w) A (eval kx env) (λ kv Nj=>wpAny (model prog w) A (eval vx env) (λ vv Ni=>wpAny (model prog w) A (dictSet D kv vv) (λ _ Tr=>Q Tr) nE Ni) nE Nj) nE s
theorem KP {kx vx:Expr}:pZ prog w (.DictComp kx vx [⟨tg,iter,[],0⟩] sc pos) tg 0 (uj prog w tg (IH prog w kx vx)):=by
 intro A it D env s Q Q0 E hq h;refine N0 ?_;rw [compTurn_dict];refine À (Ģ (À (iK h λ r ġ Ο=>?_)));cases r with
 | none=>exact Á Ο
 | some v =>
  refine À (iK Ο λ _ ς z_=>À (iK z_ λ _ MJ y_=>À (Á ?_)));obtain⟨D',e,y_⟩:=y_;cases e;exact À (À (iK y_ λ kv Nj NO=>À (ĕ (iK NO λ vv Ni NN=>À (Ģ (ĕ (iK NN λ _ Tr WL=>Á (hq _ WL))))))))
end
section
variable {X:Cx}{Ã:List (Addr × Obj)}{σ:St}{H:Hp}{s:Shared}{sc:Scope}{cl:List (Str × Addr)}{o:Option Str}{ts zs:List Str}{js:List Nat}{C:Addr}{fp:List Addr}
def J6 (X:Cx)(k:Nat)(ų:St)(D:Addr)(B:uX)(Ã:List (Addr × Obj))(σ:St)(H:Hp)(s:Shared)(u:Value)(N:Hp->Prop):Prop :=
 Inv X Ã σ H s->∀ Q:Shared->Prop,(∀ s' ı H',ı.length=k->Inv X Ã (ı ++ ų) H' s'->N H'->Q s')->B X.A (.ref D) X.env u Q s
theorem fF {whole tg iter:Expr}{wi:TI}{B:uX}{ž:Sem Value}{pos:Pos}{use:Option (Value->Sem Unit)}{Qf:eE}{RJ:It->Hp->Prop}{R:Addr->Hp->Prop}{u0:HO}{ob:Obj}{ifs:List Expr}{gs:List Comprehension}(hc:X.calm=true)(S:fQ X sc cl o ts zs js)(hi:PI X tg iter wi)
  (hs:∀ v,foldedSetIterable iter X.env v=pure v) (I:Inv X Ã σ H s) (h:wi σ H RJ) (hT:pZ X.prog X.w whole tg 0 B) (hcl:clausesOf whole=⟨tg,iter,ifs,0⟩::gs)
  (Ny:∀{R:Result->Shared->Prop}{s:Shared}{it acc:Value}{env:Env},codeAny (model X.prog X.w) X.A (.compLoop whole 0 it acc env) R s->wpAny (model X.prog X.w) X.A (pyIter it) (λ S3 s'=>codeAny (model X.prog X.w) X.A (.compLoop whole 0 S3 acc env) R s') (notedBy (model X.prog X.w) X.A env λ x s'=>R (.error x) s') s->codeAny (model X.prog X.w) X.A (.compStart whole 0 it acc env) R s)
  (QL:∀(s2:Shared) H2 Q,Inv X Ã σ H2 s2->(Inv X Ã σ (aj H2 s2.heap.objs.size u0) { s2 with heap:=s2.heap.push ob }->Q (.ref s2.heap.objs.size) { s2 with heap:=s2.heap.push ob })->wpAny (model X.prog X.w) X.A ž Q X.xe s2)
  (hb:∀ J H1 D s3 Ha C fp,RJ J H1->H1 D=none->∃ W:Nat->Nat->Hp->Prop,(∃ m,W 0 m (aj H1 D u0))/\∀ i m H2,W i m H2->(J.stop i H2/\R D H2)\/(J.go i H2 /\
   ∀ x H3,J.ο i H2 x H3->∀ os:St,os.length=ts.length->∀ Ã s u,RelV x u->J6 (aH X sc cl o (ts++zs) s3 Ha C fp) ts.length (gu js σ) D B Ã (os++gu js σ) H3 s u λ H'=>∃ m',m'<m/\W (i+1) m' H'))
  (NQ:∀ D H' Hq s3 (s4:Shared) m,Inv X Ã σ Hq s3->s4.heap.Ns s3.heap.objs.size m->H' s3.heap.objs.size=none->(∀ h',Heap.SameBut s3.heap.objs.size s4.heap h'->Inv X Ã σ H' { s4 with heap:=h' })->R D H'->compPost (model X.prog X.w) X.A X.xe use Qf (.ref D) s3.heap.objs.size (.ok .next) s4) :
  wpAny (model X.prog X.w) X.A (comprehension whole sc X.env pos ž false (eval iter X.env) use) Qf X.xe s:=by
 refine wpAny_comprehension_free hcl hs S.OE S.kind S.names (bt (hi Ã s σ H _ I h) λ v s1 h1=>bt h1 λ WJ s2 h2=>?_);obtain⟨it,fp,tn,J,H2,e,I2,T,Vr,f2,body⟩:=h2;subst e;have fr2:H2 s2.heap.objs.size=none:=I2.fresh;refine QL _ _ _ I2 λ I3=>?_;refine tQ (λ Ο hn Qb MS=>?_);rw [S.cells];generalize YN:({ s2 with heap:=s2.heap.push ob }:Shared)=s3 at I3 hn Qb MS ⊢
 obtain⟨W,⟨m0,w0⟩,turn⟩:=hb J H2 s2.heap.objs.size s3 (aj H2 s2.heap.objs.size u0) s3.heap.objs.size fp body fr2;have VZ:∀ b∈fp,gY X Ã (aj H2 s2.heap.objs.size u0) b/\b<s3.heap.objs.size:=λ b hb=>by
  obtain⟨o,ho,_⟩:=T.obj _ _ Vr b hb;have hl:=Ñ ho;obtain⟨z1,z2⟩:=f2 b hb;refine⟨⟨by rw [ad (ê hl)];exact z1,z2⟩,?_⟩
  rw [<- YN];show b<(s2.heap.push _).objs.size;rw [Ĕ];exact Nat.lt_succ_of_lt hl
 have Vs:tn 0 Ο:=T.keep _ _ _ Vr λ b hb o e=>Qb b o (by rw [<- YN];exact Â _ e)
 have loop:∀ sS:Shared,sS.heap = Ο->sS.os=s3.os->sS.gens=s3.gens->codeAny (model X.prog X.w) X.A (.compLoop whole 0 (.ref it) (.ref s2.heap.objs.size) (compEnvC sc (qk o (s3.heap.objs.size+1) cl) s3.heap.objs.size X.env))
   (compPost (model X.prog X.w) X.A X.xe use Qf (.ref s2.heap.objs.size) s3.heap.objs.size) sS:=by
  intro sS eh eo eg;subst eh;have J0:=oz I3 S VZ (Æ _) eo eg Qb hn λ x ex=>MS x _ (by
   have q:=S.cells (s3.heap.objs.size+1);rw [dC,ex] at q;rw [List.append_cancel_right (bs:=cl) (show _=[(x,s3.heap.objs.size+1)]++cl from q)];exact É.mpr rfl)
  have Oz:∀{H':Hp},(∀ b∈fp,H' b=none)->∀ b∈fp,gY (aH X sc cl o (ts++zs) s3 (aj H2 s2.heap.objs.size u0) s3.heap.objs.size fp) [] H' b:=λ {H'} hn b hb=>by
   obtain⟨⟨_,z1,z2,z3,z4,z5⟩,z6⟩:=VZ b hb;refine⟨hn b hb,ê z6,λ q=>?_,.inl hb,λ y c e=>?_,λ p hp=>nomatch (show p∈([]:List (Addr × Obj)) from hp)⟩
   ·rcases é.mp (I3.ML b q) with e | e
    ·exact z1 e
    ·exact z2 e
   ·rcases gW e with⟨_,e2⟩ | ⟨_,e2⟩
    ·intro q;rw [<- q,e2] at z6;exact absurd z6 (t_.mpr (OM _))
    ·exact z4 y c (S.sub _ _ e2)
  refine km hT (λ n s'=>∃ i os H',os.length=ts.length/\Inv (aH X sc cl o (ts++zs) s3 (aj H2 s2.heap.objs.size u0) s3.heap.objs.size fp) [] (os++gu js σ) H' s'/\tn i s'.heap/\(∀ b∈fp,H' b=none)/\W i n H') ?_ m0 ⟨0,_,_,ĺ,J0,Vs,λ b hb=>(VZ b hb).1.1,w0⟩;rintro n s' ⟨i,os,H',Ş,Iv,st,fr,w⟩;rcases turn i n H' w with⟨stop,q⟩ | ⟨go,step⟩
  ·refine bt (T.done (aH X sc cl o (ts++zs) s3 (aj H2 s2.heap.objs.size u0) s3.heap.objs.size fp) rfl rfl rfl hc i [] s' _ H' nE Iv (Oz fr) st stop) λ r s4 ⟨hr,I4⟩=>?_;subst hr;obtain⟨m,hm,_⟩:=id I4.loc;exact NQ _ _ _ _ _ m I3 hm I4.free (λ h' OZ=>sY I3 VZ (Æ _) I4 OZ) q
  ·refine bt (T.item (aH X sc cl o (ts++zs) s3 (aj H2 s2.heap.objs.size u0) s3.heap.objs.size fp) rfl rfl rfl hc i [] s' _ H' nE Iv (Oz fr) st go) λ r s4 ⟨u,hr,h4⟩=>?_;subst hr;refine bt h4 λ _ s5 ⟨y,H5,I5,r5,y5,R5,XE⟩=>?_;have XM:=I5.pinned (Oz XE) (T.obj _ _ R5);refine step y H5 y5 os Ş _ s5 u r5 XM _ λ s6 ı H6 Of I6 ⟨m',QN,w6⟩=>⟨m',QN,i+1,ı,H6,Of,I6.ρ,T.keep _ _ _ R5 λ b hb o e=>(I6.pin (b,o) (à _ (à _ (dA hb e)))).1,(λ b hb=>by
    obtain⟨o',e',_⟩:=T.obj _ _ R5 b hb;exact(I6.pin (b,o') (à _ (à _ (dA hb e')))).2.1),w6⟩
 exact Ny (loop _ rfl rfl rfl) (T.self _ 0 _ _ _ Vs (loop _ rfl rfl rfl))
def Fx (X:Cx)(whole iter:Expr)(sc:Scope)(ž:Sem Value)(te:TE):Prop :=
 ∀(Ã:List (Addr × Obj))(s:Shared)(σ:St)(H:Hp)(Q:VK)(pos:Pos)(use:Option (Value->Sem Unit))(Qf:eE),Inv X Ã σ H s->te σ H Q ->
 (∀ D H' Hq s3 (s4:Shared) m,Inv X Ã σ Hq s3->s4.heap.Ns s3.heap.objs.size m->H' s3.heap.objs.size=none->(∀ h',Heap.SameBut s3.heap.objs.size s4.heap h'->Inv X Ã σ H' { s4 with heap:=h' })->Q (.ref D) H'->compPost (model X.prog X.w) X.A X.xe use Qf (.ref D) s3.heap.objs.size (.ok .next) s4) ->
 wpAny (model X.prog X.w) X.A (comprehension whole sc X.env pos ž false (eval iter X.env) use) Qf X.xe s
theorem r9 {whole iter:Expr}{ž:Sem Value}{te:TE}{pos:Pos}(h:Fx X whole iter sc ž te)(he:eval whole X.env=comprehension whole sc X.env pos ž false (eval iter X.env)):PE X whole te:=by
 intro Ã s σ H Q I w;rw [he];exact h _ _ _ _ _ _ _ _ I w λ D H' Hq s3 s4 m I3 hm f ends q=>⟨m,hm,λ h' hs=>⟨.ref D,H',ends h' hs,rfl,q⟩⟩
theorem EG {whole iter:Expr}{ž:Sem Value}{te:TE}{pos p0:Pos}{y:Str}{py:Pos}{iy:Nat}(h:Fx X whole iter sc ž te)(hN:X.N.Nodup)(Xd:X.N[iy]?=some y)(hy:BX X.env.scope y)(hf:X.fn y=true\/X.env.scope.names.lookup y=some .local)
  (he:exec (.Assign [.Name y py] whole pos) X.env=standAt pos >>= λ _=>(do let _ <- comprehension whole sc X.env p0 ž false (eval iter X.env) (some (assign (.Name y py) X.env))) >>= λ _=>pure .next):PS X (.Assign [.Name y py] whole pos) (bY te (aN iy)):=by
 intro Ã s σ H De I w;rw [he];refine À (Ģ (À (À ?_)));refine Ń (h _ _ _ _ _ _ (some (assign (.Name y py) X.env)) (λ _ s'=>SP X Ã De .next s') I w λ D H' Hq s3 s4 m I3 hm fC ends q=>?_) (λ _ s' hq=>Á (Á hq)) λ _ _ e=>e;show wpAny _ _ (assign (.Name y py) X.env (.ref D)) _ _ s4;have nC:∀ b,b<s3.heap.objs.size->b≠s3.heap.objs.size:=λ b hb=>ê hb;have nL:X.env.locals≠s3.heap.objs.size:=nC _ I3.lt;have ZW:∀ z c,X.env.cells.lookup z=some c->c≠s3.heap.objs.size:=λ z c e=>by
  obtain⟨v,o,ho,_⟩:=I3.cell z c e;exact nC _ (Ñ ho)
 refine wpAny_assign_Name (lK (ends s4.heap ⟨rfl,λ _ _=>rfl⟩) hN Xd hy (v:=.ref D) rfl (λ s5 I6 hb=>?_) hf);obtain⟨a5,sb5,ha5⟩:=hb;refine⟨m,hm.sameBut sb5 (by
  rcases ha5 with e | e
  ·rw [e];exact nL.symm
  ·exact(ZW _ _ e).symm),λ h' OZ=>?_⟩
 exact⟨_,H',I6.turned (h':=h') (t':=s5.toks) (it:=s3.heap.objs.size) (λ b o hb e=>(OZ.2 b hb).trans e) fC nL.symm (.inr I3.sz) ZW λ p hp=>nC _ (Ñ (I3.pin p hp).1),q⟩
end
def jX (wi:TI)(k:Nat)(js:List Nat)(g:TG)(te:TE):TE:=λ σ H Q=>wi σ H λ J H1=>∀ D,H1 D=none->∃ W:Nat->Nat->List V->Hp->Prop,(∃ m,W 0 m [] (aj H1 D (.lst []))) /\
 ∀ i m ys H2,W i m ys H2->H2 D=some (.lst ys)/\((J.stop i H2/\Q (.ref D) H2)\/(J.go i H2/\ys.length<sizeLine /\
  ∀ x H3,J.ο i H2 x H3->∀ os:St,os.length=k->g x (os++gu js σ) H3 λ Ĩ H0=>(∃ ı:St,ı.length=k/\Ĩ = ı ++ gu js σ)/\te Ĩ H0 λ y H4=>H4 D=some (.lst ys)/\∃ m',m'<m/\W (i+1) m' (ys ++ [y]) (aj H4 D (.lst (ys ++ [y])))))
def iL (wi:TI)(k:Nat)(js:List Nat)(g:TG)(tt:TT)(te:TE):TE:=λ σ H Q=>wi σ H λ J H1=>∀ D,H1 D=none->∃ W:Nat->Nat->List V->Hp->Prop,(∃ m,W 0 m [] (aj H1 D (.lst []))) /\
 ∀ i m ys H2,W i m ys H2->H2 D=some (.lst ys)/\((J.stop i H2/\Q (.ref D) H2)\/(J.go i H2/\ys.length<sizeLine /\
  ∀ x H3,J.ο i H2 x H3->∀ os:St,os.length=k->g x (os++gu js σ) H3 λ Ĩ H0=>(∃ ı:St,ı.length=k/\Ĩ = ı ++ gu js σ)/\tt Ĩ H0 λ b H5=>(b=false->∃ m',m'<m/\W (i+1) m' ys H5) /\
   (b=true->te Ĩ H5 λ y H4=>H4 D=some (.lst ys)/\∃ m',m'<m/\W (i+1) m' (ys ++ [y]) (aj H4 D (.lst (ys ++ [y]))))))
abbrev cV (X:Cx)(sc:Scope)(cl:List (Str × Addr)):=fQ X sc cl none
section
variable {X X':Cx}{sc:Scope}{cl:List (Str × Addr)}{o:Option Str}{ts zs:List Str}{js:List Nat}{elt iter c kx vx:Expr}{pos:Pos}{tg:Expr}{g:TG}{wi:TI}{te tk tv:TE}{tt:TT}
theorem qx {Ã:List (Addr × Obj)}{s:Shared}{σ:St}{H:Hp}{D:Addr}{ys:List V}{v:Value}{N:List V->Hp->Prop}{Q:Shared->Prop}(he:PE X' elt te)(ex:X'.xe=nE)(ľ:ys.length<sizeLine)(I:Inv X' Ã σ H s)(st:te σ H λ y H4=>H4 D=some (.lst ys)/\N (ys ++ [y]) (aj H4 D (.lst (ys ++ [y]))))(k:∀ s' H' zs,Inv X' Ã σ H' s'->N zs H'->Q s'):yW X'.prog X'.w elt X'.A (.ref D) X'.env v Q s:=by
 have g:=he _ _ _ _ _ I st;rw [ex] at g;refine bt g λ uv s7 ⟨v7,H7,I7,r7,hD7,w7⟩=>?_;have g:=bQ _ s7 _ H7 (.ref D) [v7] (.ref D) [uv] (λ _ H8=>H8=aj H7 D (.lst (ys ++ [v7]))) I7 rfl (.cons r7 .nil) ⟨_,ys,v7,rfl,rfl,hD7,ľ,rfl⟩;rw [ex] at g;refine bt g λ _ s8 ⟨_,H8,I8,_,e8⟩=>?_;subst e8;exact k _ _ _ I8 w7
theorem t8 {Ã:List (Addr × Obj)}{σ:St}(s2:Shared)(H2:Hp)(Q:eE)(I:Inv X Ã σ H2 s2)(k:Inv X Ã σ (aj H2 s2.heap.objs.size (.lst [])) { s2 with heap:=s2.heap.push { cls:=.type "list",data:=.seq ([]:List Value).toArray } }->Q (.ref s2.heap.objs.size) { s2 with heap:=s2.heap.push { cls:=.type "list",data:=.seq ([]:List Value).toArray } }):wpAny (model X.prog X.w) X.A (newList []) Q X.xe s2 :=
 ã (k (I.Uv (t':=s2.toks) (ys:=[]) (its:=[]) .nil (Đ _)))
theorem zI (hc:X.calm=true)(S:fQ X sc cl o ts zs js)(hi:PI X tg iter wi)(hg:∀ s H C fp,PG (aH X sc cl o (ts++zs) s H C fp) tg g)(he:∀ s H C fp,PE (aH X sc cl o (ts++zs) s H C fp) elt te)
  (hs:∀ v,foldedSetIterable iter X.env v=pure v):Fx X (.ListComp elt [⟨tg,iter,[],0⟩] sc pos) iter sc (newList []) (jX wi ts.length js g te):=by
 intro Ã s σ H Q p use Qf I h NQ;refine fF hc S hi hs I h Kj rfl M8 t8 (λ J H1 D s3 Ha C fp hJ hD=>?_) NQ;obtain⟨W,⟨m,w0⟩,turn⟩:=hJ D hD;refine⟨λ i m H'=>∃ ys,W i m ys H',⟨m,[],w0⟩,λ i m H2 ⟨ys,w⟩=>?_⟩;obtain⟨hD,alt⟩:=turn i m ys H2 w;refine alt.imp_right λ ⟨go,ľ,step⟩=>⟨go,λ x H3 y os Ş Ã s u r I Q0 k=>?_⟩;refine bt (hg _ _ _ _ _ _ _ _ _ _ _ I r (step x H3 y os Ş)) λ _ s6 ⟨SU,H6,I6,⟨ı,Of,e6⟩,R4⟩=>?_;subst e6;exact qx (N:=λ zs H4=>∃ m',m'<m/\W (i+1) m' zs H4) (he s3 Ha C fp) rfl ľ I6 R4 λ s' H' zs I8 ⟨m',l,w⟩=>k _ _ _ Of I8 ⟨m',l,zs,w⟩
theorem C6 (hc:X.calm=true)(S:fQ X sc cl o ts zs js)(hi:PI X tg iter wi)(hg:∀ s H C fp,PG (aH X sc cl o (ts++zs) s H C fp) tg g)(ht:∀ s H C fp,PT (aH X sc cl o (ts++zs) s H C fp) c tt)(he:∀ s H C fp,PE (aH X sc cl o (ts++zs) s H C fp) elt te)
  (hs:∀ v,foldedSetIterable iter X.env v=pure v):Fx X (.ListComp elt [⟨tg,iter,[c],0⟩] sc pos) iter sc (newList []) (iL wi ts.length js g tt te):=by
 intro Ã s σ H Q p use Qf I h NQ;refine fF hc S hi hs I h Gu rfl M8 t8 (λ J H1 D s3 Ha C fp hJ hD=>?_) NQ;obtain⟨W,⟨m,w0⟩,turn⟩:=hJ D hD;refine⟨λ i m H'=>∃ ys,W i m ys H',⟨m,[],w0⟩,λ i m H2 ⟨ys,w⟩=>?_⟩;obtain⟨hD,alt⟩:=turn i m ys H2 w;refine alt.imp_right λ ⟨go,ľ,step⟩=>⟨go,λ x H3 y os Ş Ã s u r I Q0 k=>?_⟩;refine bt (hg _ _ _ _ _ _ _ _ _ _ _ I r (step x H3 y os Ş)) λ _ s6 ⟨SU,H6,I6,⟨ı,Of,e6⟩,R4⟩=>?_;subst e6;refine bt (ht s3 Ha C fp _ _ _ _ _ I6 R4) λ b sk ⟨Hk,Ik,q0,q1⟩=>⟨λ e=>?_,λ e=>?_⟩
 ·obtain⟨m',l,w⟩:=q0 e;exact k _ _ _ Of Ik ⟨m',l,ys,w⟩
 ·exact qx (N:=λ zs H4=>∃ m',m'<m/\W (i+1) m' zs H4) (he s3 Ha C fp) rfl ľ Ik (q1 e) λ s' H' zs I8 ⟨m',l,w⟩=>k _ _ _ Of I8 ⟨m',l,zs,w⟩
theorem dS (hc:X.calm=true)(S:fQ X sc cl o ts zs js)(hi:PI X tg iter wi)(hg:∀ s H C fp,PG (aH X sc cl o (ts++zs) s H C fp) tg g)(he:∀ s H C fp,PE (aH X sc cl o (ts++zs) s H C fp) elt te)
  (hs:∀ v,foldedSetIterable iter X.env v=pure v:=by intro _;rfl):PE X (.ListComp elt [⟨tg,iter,[],0⟩] sc pos) (jX wi ts.length js g te):=r9 (zI hc S hi hg he hs) (eval_ListComp ..)
theorem jj (hc:X.calm=true)(S:fQ X sc cl o ts zs js)(hi:PI X tg iter wi)(hg:∀ s H C fp,PG (aH X sc cl o (ts++zs) s H C fp) tg g)(ht:∀ s H C fp,PT (aH X sc cl o (ts++zs) s H C fp) c tt)(he:∀ s H C fp,PE (aH X sc cl o (ts++zs) s H C fp) elt te)
  (hs:∀ v,foldedSetIterable iter X.env v=pure v:=by intro _;rfl):PE X (.ListComp elt [⟨tg,iter,[c],0⟩] sc pos) (iL wi ts.length js g tt te):=r9 (C6 hc S hi hg ht he hs) (eval_ListComp ..)
theorem CK {y:Str}{py Tx:Pos}{iy:Nat}(hc:X.calm=true)(S:fQ X sc cl o ts zs js)(hi:PI X tg iter wi)(hg:∀ s H C fp,PG (aH X sc cl o (ts++zs) s H C fp) tg g)(he:∀ s H C fp,PE (aH X sc cl o (ts++zs) s H C fp) elt te)
  (hN:X.N.Nodup) (Xd:X.N[iy]?=some y) (hy:BX X.env.scope y) (hsw:swapsWith (.ListComp elt [⟨tg,iter,[],0⟩] sc pos) (some (.Name y py)) Tx.line X.env=pure true)
  (hf:X.fn y=true\/X.env.scope.names.lookup y=some .local:=by first | exact .inl rfl | exact .inr rfl | assumption)
  (hs:∀ v,foldedSetIterable iter X.env v=pure v:=by intro _;rfl):PS X (.Assign [.Name y py] (.ListComp elt [⟨tg,iter,[],0⟩] sc pos) Tx) (bY (jX wi ts.length js g te) (aN iy)):=EG (zI hc S hi hg he hs) hN Xd hy hf (exec_Assign_Name_used _ _ _ _ hsw)
end
end My
namespace My
open PySem L2 PySem.Calls PyProof.Rows
open PySem.Builtin.Str (occurrences partsBetween strSub)
section
variable {X:Cx}
def mv (i j:Int):Prop:=0<j/\j.natAbs.log2<9000
theorem cH:je X (binaryOp .FloorDiv) (rI mv λ i j=>.int (i/j)):=Am λ i j _ _ _ _ _ hc q=>by
 have z:=hc.1;exact floordiv_int af (by rw [ξ i (ħ z)];exact q) (.inl (PyProof.noPylong_of_log2 hc.2))
def Pn (i j:Int):Prop:=Builtin.Int.intBits i+Builtin.Int.intBits j<=1000000
theorem Pn.ok (h:Pn i j):IntMulOk i j:=by
 unfold IntMulOk;have z:Builtin.Int.intTooBig (Builtin.Int.intBits i+Builtin.Int.intBits j)=false:=by
  refine Ò ?_;have h':Builtin.Int.intBits i+Builtin.Int.intBits j<=1000000:=h;have hb:(1000000:Int)<=bitsLine:=aC;omega
 rw [z];simp
theorem cR:je X (binaryOp .Mult) (rI Pn λ i j=>.int (i*j)):=Am λ _ _ _ _ _ _ _ hc q=>PyProof.Rows.mul_int q hc.ok
end
end My
namespace My
open PySem PySem.W L2
structure jR (K:Frag)(D:Addr)(m:Str)(f:Addr):Prop where
 ga:specialIn K (.ref D) "__getattribute__" = some (some (.builtin "type.__getattribute__"))
 reads:readsIn K D (.type "type")=true
 at_:findCls K (.ref D) (.type "type") m=some (.val (.ref f))
 kp:keepIn K (.ref f)=true
section
variable {X:Cx}{CX:pB}{k:Nat}{f D:Addr}{fd:FuncData}{ps:List Str}{sp:Sp}{E:XK}{x m:Str}{p pos ő:Pos}{e:Expr}{es:List Expr}{t:TA}{On:List V}{ds:List Value}
theorem eI (C:jR X.K D m f)(F:í X.prog X.w X.K X.mg X.base CX k f fd ps sp)(hr:ć k X.A)(hg:Gl X x)(hm:X.mg x=some (.ref D))(hb:Binds X.K fd ps ds)(hd:Vals On ds)(hx:eO CX X E)(ha:PA X (e::es) t)
  (No:(x==("__debug__" : Str))=false:=by decide) (Ny:starEach (e::es) X.env=(false,eval e X.env)::starEach es X.env:=by rfl) (I_:(backTo pos (starEach es X.env)).any (·.1)=false:=by rfl)
  (WS:eval (.Call (.Attribute (.Name x p) m ő) (e::es) [] pos) X.env=(do
   let ov <- eval (.Name x p) X.env
   standAt ő.atName
   let (f,first) <- holding [ov] (getMethod ov m pl)
   callWith pos f first (backTo pos (starEach (e::es) X.env)) (backToKw pos (keywordEach [] X.env))):=by rfl) :
  PE X (.Call (.Attribute (.Name x p) m ő) (e::es) [] pos) (cC sp On E t):=by
 intro Ã s σ H Q I h;refine Ŷ (gE I hg hm ?_ No) WS;refine method_cls I.Š C.ga (cls_value I.Š C.reads C.at_ rfl ?_);have I0:Inv X Ã σ H { s with toks:=s.toks+1 }:=I.tok _
 refine Ũ I.ok.mod.Sv C.kp (bt (ha pos Ã _ σ H _ I0 h) λ us s1 ⟨vs,H1,I1,r,q⟩=>⟨I1.Š,?_⟩) Ny I_;exact lV F hr hb hd hx I1 r q
end
end My
namespace My
open PySem L2
open PySem.Builtin.Str (occurrences partsBetween strSub)
def LH (c:Nat):Bool:=decide (48<=c)&&decide (c<=57)
def FM (L:List Nat):Bool:=!L.isEmpty && !(L.head?==some 48&&L != [48])&&L.all LH
abbrev cs (z:Str):List Nat:=z.cps.toList
abbrev val (L:List Nat):Nat:=NumText.digitsVal L
def Me (a b:List Nat):Bool:=FM a&&FM b&&decide (2<=val b)&&decide (1<=val a)&&decide (val a<val b)&&decide (Nat.gcd (val a) (val b)=1)
def rd (z:Str):Option (Nat × Nat) :=
 if z = "0" then some (0,1) else if z = "1" then some (1,1) else
  match Txt.split z ⟨#[47]⟩ with
  | [a,b]=>if Me (cs a) (cs b)=true then some (val (cs a),val (cs b)) else none
  | _=>none
abbrev tx (n:Nat):Str:=Str.ofString (toString ((n:Nat):Int))
end My
namespace My
open PySem PySem.W L2
theorem fV {A B:Prop}(h:A):if true=true then A else B:=by rw [Ó rfl];exact h
theorem dj {A B:Prop}(h:B):if false=true then A else B:=by rw [Ë ax];exact h
def Ext (H H':Hp):Prop:=∀ b o,H b=some o->H' b=some o
theorem Ext.refl (H:Hp):Ext H H:=λ _ _ h=>h
theorem Ext.trans (a:Ext H H1)(b:Ext H1 H2):Ext H H2:=λ x o h=>b x o (a x o h)
theorem Ext.new (h:H p=none):Ext H (aj H p o):=λ b u e=>by rw [ad (aT e h)];exact e
theorem Ė.ext (h:Ė K H p xs)(e:Ext H H'):Ė K H' p xs:=by
 rcases h with h | h
 ·left;rcases h with h | ⟨o,h⟩
  ·exact .inl (e _ _ h)
  ·exact .inr ⟨o,e _ _ h⟩
 ·exact .inr h
theorem Ċ.ext (h:Ċ K H s xs)(x:Ext H H'):Ċ K H' s xs:=by
 rcases h with h | h
 ·rcases h with h | ⟨o,h⟩
  ·exact .inl (.inl (x _ _ h))
  ·exact .inl (.inr ⟨o,x _ _ h⟩)
 ·exact .inr h
theorem ce (hg:Gl X x)(hm:X.mg x=none)(hv:bootBuiltins x=some (.type n))(hn:x ≠ "__name__" := by decide +kernel) (hd:(x==("__debug__" : Str))=false:=by decide):PE X (.Name x pos) (tC (.ty n)) :=
 yr hg hm hv (show RelV (.ty n) (.type n) from rfl) hn hd
def Kd (K:Frag)(H:Hp)(x:V)(t:Value):Prop:=ŭ K H x t\/(∃ p xs,x=.ref p/\Ė K H p xs/\t=.type "tuple")\/(∃ a C,x=.ref a/\NB H a C/\tN K C/\t=.ref C)
def HB (K:Frag):List V->Hp->VK->Prop:=λ vs H Q=>∃ x n t b,vs=[x,.ty n]/\Kd K H x t/\kitOne K t (.type n)=some b/\Q (.bl b) H
theorem aX (N:pA X.K):cU X (.builtin "isinstance") (HB X.K):=by
 intro Ã s σ H xs us Q I r h;obtain⟨x,n,t,b,rfl,kd,e,q⟩:=h;obtain⟨u,u',rfl,ru,P0⟩:=ip r;cases (show u'=Value.type n from P0);rcases kd with ty | ⟨p,ys,rfl,hq,rfl⟩ | ⟨a,C,rfl,ea,T,rfl⟩
 ·exact kZ I ru ty e λ tk=>⟨.bl b,H,I.tok _,rfl,q⟩
 ·cases (show u=.ref p from ru);obtain⟨its,_,⟨o,h1,h2,_⟩,_⟩:=I.tuple hq;exact kia_one kitx_tuple I.Š ⟨o,h1,h2⟩ e (λ z=>nomatch z) λ tk=>⟨.bl b,H,I.tok _,rfl,q⟩
 ·cases (show u=.ref a from ru);exact kia_one (uF T N.gt N.tk) I.Š (ea.inst I.Č) e (λ z=>nomatch z) λ tk=>⟨.bl b,H,I.tok _,rfl,q⟩
theorem NB.ext (e:NB H a C)(x:Ext H H'):NB H' a C:=by
 rcases e with e | ⟨dx,fs,e1,e2⟩
 ·exact .inl (x _ _ e)
 ·exact .inr ⟨dx,fs,x _ _ e1,x _ _ e2⟩
theorem ŭ.ext (h:ŭ K H x t)(e:Ext H H'):ŭ K H' x t:=by
 cases h with
 | Ă=>exact .Ă
 | bl b=>exact .bl b
 | int i=>exact .int i
 | str z=>exact .str z
 | Qh z=>exact .Qh z
 | lst q=>exact .lst (e _ _ q)
 | Ŭ q=>exact .Ŭ (e _ _ q)
 | tup q=>exact .tup (e _ _ q)
 | dK q=>exact .dK (e _ _ q)
 | dT q=>exact .dT (e _ _ q)
 | ins q cl ha hn OX hm=>exact .ins (e _ _ q) cl ha hn OX hm
theorem Kd.ext (h:Kd K H x t)(e:Ext H H'):Kd K H' x t:=by
 rcases h with ty | ⟨p,ys,rfl,hq,rfl⟩ | ⟨a,C,rfl,ea,T,rfl⟩
 ·exact .inl (My.ŭ.ext ty e)
 ·exact .inr (.inl ⟨p,ys,rfl,My.Ė.ext hq e,rfl⟩)
 ·exact .inr (.inr ⟨a,C,rfl,ea.ext e,T,rfl⟩)
def Fv (K:Frag)(H:Hp)(x:V):Prop:=(∀ i,x ≠ .int i)/\∃ t b1 b2,Kd K H x t/\kitOne K t (.type "int")=some b1/\kitOne K t (.type "bool")=some b2/\(b1 && !b2)=false
def Th (K:Frag)(H:Hp)(x:V):Prop:=(∃ i,x=.int i)\/Fv K H x
def Ht:V->Bool
 | .int _=>true
 | _=>false
def Pu (lo hi:Int):V->Bool
 | .int i=>decide (lo<=i)&&decide (i<=hi)
 | _=>false
theorem mw (h:∀ i,x ≠ .int i):Ht x=false:=by
 cases x with
 | int i=>exact absurd rfl (h i)
 | _=>rfl
theorem AD (h:∀ i,x ≠ .int i):Pu lo hi x=false:=by
 cases x with
 | int i=>exact absurd rfl (h i)
 | _=>rfl
section
variable {P:Program}{w:World}{K:Frag}{mg:cr}{base:Heap}
theorem IE:kitOne K (.type "int") (.type "int")=some true:=rfl
theorem IK:kitOne K (.type "int") (.type "bool")=some false:=rfl
end
set_option exponentiation.threshold 10000
def j8:Key->PyData
 | .inl i=>.int i
 | .inr x=>.str x
 | .Ă=>.none
mutual
inductive Ą (G:Hp):V->PyData->Prop
 | Ă:Ą G .Ă .none
 | bl (b:Bool):Ą G (.bl b) (.bool b)
 | int (i:Int):Ą G (.int i) (.int i)
 | str (x:Str):Ą G (.str x) (.str x)
 | lst {a:Addr} {xs:List V} {ds:List PyData}:G a=some (.lst xs)->Ý G xs ds->Ą G (.ref a) (.list ds)
 | tup {a:Addr} {xs:List V} {ds:List PyData}:G a=some (.tup xs)->Ý G xs ds->Ą G (.ref a) (.tuple ds)
 | Oo {a:Addr}:G a=some (.dK [])->Ą G (.ref a) (.dict [])
 | RA {a:Addr} {k:Key} {v:V} {d:PyData}:G a=some (.dK [(k,v)])->Ą G v d->Ą G (.ref a) (.dict [(j8 k,d)])
inductive Ý (G:Hp):List V->List PyData->Prop
 | nil:Ý G [] []
 | cons {v:V} {vs:List V} {d:PyData} {ds:List PyData}:Ą G v d->Ý G vs ds->Ý G (v::vs) (d::ds)
end
mutual
theorem Ą.mono (s:Ext G G'):∀{v:V}{d:PyData},Ą G v d->Ą G' v d
 | _,_,.Ă=>.Ă
 | _,_,.bl b=>.bl b
 | _,_,.int i=>.int i
 | _,_,.str x=>.str x
 | _,_,.lst e r=>.lst (s _ _ e) (Ý.mono s r)
 | _,_,.tup e r=>.tup (s _ _ e) (Ý.mono s r)
 | _,_,.Oo e=>.Oo (s _ _ e)
 | _,_,.RA e r=>.RA (s _ _ e) (Ą.mono s r)
theorem Ý.mono (s:Ext G G'):∀{vs:List V}{ds:List PyData},Ý G vs ds->Ý G' vs ds
 | _,_,.nil=>.nil
 | _,_,.cons r t=>.cons (Ą.mono s r) (Ý.mono s t)
end
theorem Ý.length:∀{vs:List V}{ds:List PyData},Ý G vs ds->vs.length=ds.length
 | _,_,.nil=>rfl
 | _,_,.cons _ t=>by rw [ì,ì,t.length]
theorem Ý.append:∀{vs ws:List V}{ds es:List PyData},Ý G vs ds->Ý G ws es->Ý G (vs++ws) (ds++es)
 | _,_,_,_,.nil,s=>s
 | _,_,_,_,.cons r t,s=>.cons r (t.append s)
def uV:PyData->String
 | .none => "NoneType"
 | .bool _ => "bool"
 | .int _ => "int"
 | .str _ => "str"
 | .list _ => "list"
 | .tuple _ => "tuple"
 | _ => "dict"
def FD:PyData->Bool
 | .tuple _=>true
 | _=>false
def pR (lo hi:Int):PyData->Bool
 | .int i=>decide (lo<=i)&&decide (i<=hi)
 | _=>false
section
variable {K:Frag}{H:Hp}{v:V}{d:PyData}
theorem Ą.ty (r:Ą H v d):ŭ K H v (.type (uV d)):=by
 cases r with
 | Ă=>exact .Ă
 | bl b=>exact .bl b
 | int i=>exact .int i
 | str x=>exact .str x
 | lst e _=>exact .lst e
 | tup e _=>exact .tup e
 | Oo e=>exact .dK e
 | RA e _=>exact .dK e
theorem Ą.kd (r:Ą H v d):Kd K H v (.type (uV d)):=.inl r.ty
theorem Ą.isT (r:Ą H v d):kitOne K (.type (uV d)) (.type "tuple")=some (FD d):=by cases r <;> rfl
theorem Ą.th (r:Ą H v d):Th K H v:=by
 cases r with
 | int i=>exact .inl ⟨i,rfl⟩
 | Ă=>exact .inr ⟨λ i z=>(by cases z),_,_,_,.inl .Ă,rfl,rfl,rfl⟩
 | bl b=>exact .inr ⟨λ i z=>(by cases z),_,_,_,.inl (.bl b),rfl,rfl,rfl⟩
 | str x=>exact .inr ⟨λ i z=>(by cases z),_,_,_,.inl (.str x),rfl,rfl,rfl⟩
 | lst e _=>exact .inr ⟨λ i z=>(by cases z),_,_,_,.inl (.lst e),rfl,rfl,rfl⟩
 | tup e _=>exact .inr ⟨λ i z=>(by cases z),_,_,_,.inl (.tup e),rfl,rfl,rfl⟩
 | Oo e=>exact .inr ⟨λ i z=>(by cases z),_,_,_,.inl (.dK e),rfl,rfl,rfl⟩
 | RA e _=>exact .inr ⟨λ i z=>(by cases z),_,_,_,.inl (.dK e),rfl,rfl,rfl⟩
theorem Ą.Pu (r:Ą H v d)(lo hi:Int):My.Pu lo hi v=pR lo hi d:=by cases r <;> rfl
theorem ck (r:Ą H v (.tuple ds)):∃ a xs,v=.ref a/\H a=some (.tup xs)/\Ý H xs ds:=by
 cases r with
 | tup e t=>exact⟨_,_,rfl,e,t⟩
theorem Ý.get (r:Ý H xs ds):∀{i:Nat}{x:V},xs[i]?=some x->∃ d,ds[i]?=some d/\Ą H x d:=by
 induction xs generalizing ds with
 | nil=>intro i x h;simp at h
 | cons y ys ih =>
  cases r with
  | cons q t =>
   intro i x h;cases i with
   | zero=>cases h;exact⟨_,rfl,q⟩
   | succ i=>exact ih t h
end
end My
namespace My
open PySem L2
structure Bx (p:Prop):Prop where
 h:p
section
variable {X:Cx}{e a b:Expr}{es:List Expr}{te ta tb:TE}{t:TA}{pos:Pos}{st:Stmt}{rest:List Stmt}{ts u v:TS}
theorem bh:Bx (PA X [] aF):=⟨ar⟩
theorem cO (ha:Bx (PE X e te))(hr:Bx (PA X es t))(hs:starEach (e::es) X.env=(false,eval e X.env)::starEach es X.env:=by rfl):Bx (PA X (e::es) (ao te t)):=⟨ac ha.h hr.h hs⟩
theorem eP (h:Bx (PA X es t)):Bx (PE X (.List es pos) (cv t)):=⟨cF h.h⟩
theorem dm {x1}(h:Bx (PA X es t)):Bx (PE X (.Tuple es x1 pos) (cz t)):=⟨aP h.h⟩
theorem HL (hr:GY X r)(ha:Bx (PE X a ta))(hb:Bx (PE X b tb))(hs:mE b:=by exact λ _ _=>rfl):Bx (PE X (.Subscript a b pos) (bV r ta tb)):=⟨bL hr ha.h hb.h hs⟩
theorem cX (h:Bx (PE X e te)):Bx (PS X (.Return (some e) pos) (aY te)):=⟨cn h.h⟩
theorem yG:Bx (ſ X [] aQ):=⟨cT⟩
theorem bS (h:Bx (PS X st ts)):Bx (ſ X [st] ts):=⟨aW h.h⟩
theorem dZ (h:Bx (PS X st ts))(k:Bx (ſ X rest u)):Bx (ſ X (st::rest) (aA ts u)):=⟨bb h.h k.h⟩
theorem Fg (hc:Bx (PT X c tc))(hx:Bx (ſ X x u))(hy:Bx (ſ X y v)):Bx (PS X (.If c x y pos) (bq tc u v)):=⟨aJ hc.h hx.h hy.h⟩
theorem cy (hN:X.N.Nodup)(hi:X.N[i]?=some x)(hx:BX X.env.scope x)(he:Bx (PE X e te))(hs:swapsWith e (some (.Name x pos')) pos.line X.env=pure false:=by rfl)(hf:X.fn x=true\/X.env.scope.names.lookup x=some .local:=by first | exact .inl rfl | exact .inr rfl | assumption) :
  Bx (PS X (.Assign [.Name x pos'] e pos) (bY te (aN i))):=⟨dk hN hi hx he.h hs hf⟩
end
end My
namespace My
open PySem PySem.W L2
open AutoSeq1 (wpAny_loadPart')
section
variable {prog:Program}{w:World}{A:Around}{E:eE}{s:Shared}{r:Addr}{a b c:Int}{t u v:Tok}{n:Nat}
theorem jY (hh:A.handled=none)(hr:IsRange s.heap r a b c t u v)(MQ:Builtin.Range.small a b c=true)(hn:Builtin.Range.rangeSize a b c=n)(ľ:n<=2^24)
  (hQ:∀ h' tk acc,(∀ b o,s.heap.get? b=some o->h'.get? b=some o)->ItemsOf (λ i v=>∃ t,v=.int (a+i*c) t) acc n->Q acc.toList { s with heap:=h',toks:=tk }) :
  wpAny (model prog w) A (collect (.ref r)) Q E s:=by
 refine À (wpAny_runValue (codeAny_builtin F.entry_proto_collect ?_));rw [Around.under_plainId F.plain_proto_collect _];refine À (ã ?_);refine Á ⟨plainId_quiet F.plain_list_iadd _,codeAny_builtin F.entry_list_iadd ?_⟩;rw [Around.under_plainId F.plain_list_iadd _];have hS:(s.heap.push { cls:=.type "list",data:=.seq ([]:List Value).toArray }).get? s.heap.objs.size=some { cls:=.type "list",data:=.seq #[] 0 }:=Î _ rfl;refine Ń (wpAny_extend_range (R:=λ x s'=>∃ h' tk acc c',x=.ok (.ret (.ref s.heap.objs.size))/\s'={ s with heap:=h',toks:=tk }/\(∀ b o,s.heap.get? b=some o->h'.get? b=some o)/\h'.get? s.heap.objs.size=some { cls:=.type "list",dict:=none,data:=.seq acc c',slots:=#[] }/\ItemsOf (λ i v=>∃ t,v=.int (a+i*c) t) acc n)
  hh (Â _ hr) MQ hn ľ s.heap.objs.size (.ref s.heap.objs.size) 0 hS (λ h' tk acc c' hk Xt Np=>⟨h',tk,acc,c',rfl,rfl,λ b o e=>hk b o (ê (Ñ e)) (Â _ e),Xt,Np⟩)) (λ fin s' h=>?_) (λ e s' h=>?_)
 ·have U0:∀ Rg,(∃ h' tk acc c',Rg={ s with heap:=h',toks:=tk }/\(∀ b o,s.heap.get? b=some o->h'.get? b=some o)/\h'.get? s.heap.objs.size=some { cls:=.type "list",dict:=none,data:=.seq acc c',slots:=#[] }/\ItemsOf (λ i v=>∃ t,v=.int (a+i*c) t) acc n)->wpAny (model prog w) A (match Value.ref s.heap.objs.size with
   | Value.ref a=>do
    match (<- load a).data with
     | Data.seq xs _=>pure xs.toList
     | _=>unsupported "internal:collect"
   | _=>unsupported "internal:collect") Q E Rg:=λ Rg hx=>by
   obtain⟨h',tk,acc,c',rfl,hk,Xt,Np⟩:=hx;refine À (wpAny_load Xt ?_);exact Á (hQ h' tk acc hk Np)
  cases fin with
  | done f =>
   obtain⟨h',tk,acc,c',e,h⟩:=h;cases e;exact U0 _ ⟨h',tk,acc,c',h⟩
  | again c'=>exact⟨h.1,Β h.2 λ x Rg hr=>by obtain⟨h',tk,acc,c',rfl,hr⟩:=hr;exact U0 _ ⟨h',tk,acc,c',hr⟩⟩
 ·obtain⟨_,_,_,_,e,_⟩:=h;cases e
end
theorem fS (r:Addr)(a b c:Int)(t u v:Tok)(n:Nat)(MQ:Builtin.Range.small a b c=true)(hn:Builtin.Range.rangeSize a b c=n)(ľ:n<=2^24) :
  Meets (Builtin.«tuple.__new__» ⟨[.type "tuple",.ref r],[]⟩)
   (λ A R s=>A.handled=none/\IsRange s.heap r a b c t u v/\∀(h':Heap)(tk:Nat)(acc:Array Value),(∀ b o',s.heap.get? b=some o'->h'.get? b=some o')->ItemsOf (λ i v=>∃ t,v=.int (a+i*c) t) acc n->R (.ok (.ret (.ref h'.objs.size))) { s with heap:=h'.push { cls:=.type "tuple",data:=.seq acc },toks:=tk }) :=
 .of_wp λ prog w A R s h=>by
  obtain⟨hh,hr,h⟩:=h;have WU:=sub_tuple_self;have Y1:=init_tuple_lookup;have hmh:=madeHere_tuple;have hT:s.TypeIs (.ref r) "range" :=⟨_,hr,rfl⟩;have hh1:A.in1.handled=none:=hh
  wp_walk using wpAny_typeOf hT,jY hh1 hr MQ hn ľ
  intro h' tk acc hk Np;show wpAny _ _ (Builtin.Tuple.tupleExact acc.toList.toArray >>= λ v=>ret v) _ _ _;refine À (ã ?_ (show acc.toList.toArray.size<=sizeLine by simp only [Array.toArray_toList];rw [Np.1,Ü];omega))
  refine Á ⟨_,rfl,?_⟩;have e:acc.toList.toArray=acc:=by simp
  rw [e];exact h h' tk acc hk Np
theorem iX {n:Nat}(hh:A.handled=none)(hr:IsRange s.heap r a b c t u v)(MQ:Builtin.Range.small a b c=true)(hn:Builtin.Range.rangeSize a b c=n)(ľ:n<=2^24)
  (h:∀(h':Heap)(tk:Nat)(acc:Array Value),(∀ b o',s.heap.get? b=some o'->h'.get? b=some o')->ItemsOf (λ i v=>∃ t,v=.int (a+i*c) t) acc n->Q (.ref h'.objs.size) { s with heap:=h'.push { cls:=.type "tuple",data:=.seq acc },toks:=tk }) :
  wpAny (model prog w) A (call (.type "tuple") [.ref r]) Q E s :=
 callType_new F.called_tuple ax (F.typeCall_tuple_1 _) (F.newCall_tuple_1 _) (λ obj=>F.args_object_init_2 obj _) F.entry_tuple_new
  (fS r a b c t u v n MQ hn ľ) ⟨hh,hr,λ h' tk acc hk Np=>⟨⟨_,Î _ rfl,rfl⟩,h h' tk acc hk Np⟩⟩
def zu (lo:Int)(n:Nat):List V:=(List.range n).map λ i=>V.int (lo+(i:Nat))
theorem jl (lo:Int)(n:Nat):(zu lo n).length=n:=by unfold zu;simp
theorem vL {n:Nat}{acc:Array Value}(h:ItemsOf (λ i v=>∃ t,v=Value.int (lo+i*1) t) acc n):Vals (zu lo n) acc.toList:=by
 have gen:∀(xs:List V)(us:List Value),xs.length=us.length->(∀(i:Nat) x u,xs[i]?=some x->us[i]?=some u->RelV x u)->Vals xs us:=by
  intro xs
  induction xs with
  | nil=>intro us l _;cases us with | nil=>exact .nil | cons _ _=>cases l
  | cons x xs ih =>
   intro us l g;cases us with
   | nil=>cases l
   | cons u us=>exact .cons (g 0 x u rfl rfl) (ih us (by simpa using l) λ i x' u' h1 h2=>g (i+1) x' u' h1 h2)
 refine gen _ _ (by rw [jl];simp [h.1]) λ i x u hx hu=>?_
 unfold zu at hx;rw [Ô] at hx;obtain⟨j,hj,rfl⟩:=å.mp hx;have ej:i=j:=by
  have:=È.mp hj
  simpa using this.2
 subst ej;obtain⟨t,e⟩:=h.2 i u (by simpa using hu)
 refine⟨t,?_⟩;rw [e,Int.mul_one]
section
variable {X:Cx}
def Hv:List V->Hp->VK->Prop:=λ vs H Q=>∃ j:Int,vs=[.int j]/\∀ r,H r=none->Q (.ref r) (aj H r (.Ps 0 j))
theorem tL:cU X (.type "range") Hv:=by
 intro Ã s σ H xs us Q I r h;obtain⟨j,rfl,q⟩:=h;obtain⟨u,rfl,t,rfl⟩:=fL r;refine call_range_1 ⟨.ref s.heap.objs.size,_,I.laid (λ b o e=>Â _ e) (Æ _) ?_,rfl,q _ (I.Č.fresh (Æ _))⟩;exact⟨_,_,_,Î _ rfl⟩
def EF:List V->Hp->VK->Prop:=λ vs H Q=>∃(p:Addr)(lo hi:Int),vs=[.ref p]/\H p=some (.Ps lo hi)/\(-(2^62)<=lo/\lo<2^62/\-(2^62)<=hi/\hi<2^62)/\(hi-lo).toNat<=2^24/\∀ l,H l=none->Q (.ref l) (aj H l (.tup (zu lo (hi-lo).toNat)))
theorem lO (hc:X.calm=true):cU X (.type "tuple") EF:=by
 intro Ã s σ H xs us Q I r h;obtain⟨p,lo,hi,rfl,hp,⟨b1,b2,b3,b4⟩,hl,q⟩:=h;obtain⟨u,rfl,rx⟩:=fL r;cases (show u=.ref p from rx);obtain⟨t,u,v,e⟩:=(show ă X.prog X.w H s.heap p (.Ps lo hi) from I.Č p _ hp);have en:Builtin.Range.rangeSize lo hi 1=(((hi-lo).toNat:Nat):Int):=by rw [rangeSize_one];split <;> omega
 refine iX (I.ok.hd hc) e (small_one b1 b2 b3 b4) en hl λ h' tk acc kp Np=>?_;have I1:Inv X Ã σ H { s with heap:=h' }:=I.kept kp
 have ha:acc.toList.toArray=acc:=by simp
 have I2:Inv X Ã σ (aj H h'.objs.size (.tup (zu lo (hi-lo).toNat))) { s with heap:=h'.push { cls:=.type "tuple",data:=.seq acc },toks:=tk } :=
  I1.laid (λ b o e=>Â _ e) (Æ _) (show ă X.prog X.w _ _ _ (.tup _) from⟨by rw [jl,Ü];omega,acc.toList,vL Np,by rw [ha];exact PyProof.Rows.IsTup.new _ _⟩)
 exact⟨.ref h'.objs.size,_,I2,rfl,q _ (I1.Č.fresh (Æ _))⟩
end
end My
namespace My
open PySem L2
section
variable {X:Cx}
theorem k8:∀(xs:List Bool),(List.range xs.length).all (λ i=>xs.getD i false)=xs.all id
 | []=>rfl
 | x::xs=>by
  have ih:=k8 xs;rw [ì,List.range_succ_eq_map,List.all_cons,List.all_map,List.all_cons,<- ih];rfl
def FS (K:PySem.W.Frag):List V->Hp->VK->Prop:=λ vs H Q=>∃(l:Addr)(xs:List Bool),vs=[.ref l]/\Ċ K H l (xs.map V.bl)/\Q (.bl (xs.all id)) H
theorem jT (hc:X.calm=true):cU X (.builtin "all") (FS X.K):=by
 intro Ã s σ H vs us Q I r h;obtain⟨l,xs,rfl,hl,q⟩:=h;obtain⟨u,rfl,ru⟩:=fL r;cases (show u=Value.ref l from ru);obtain⟨its,rv,t,hz⟩:=I.list hl;have ll:l<s.heap.objs.size:=by obtain⟨_,e,_⟩:=t.isList;exact Ñ e
 have len:=rv.length;rw [Ä] at len;refine call_all_walk (D_ t.isList ?_);refine⟨s.heap.objs.size,[s.heap.objs.size,l],[s.heap.objs.size],its.toArray.size,(λ i v=>its.toArray[i]?=some v),_,λ i=>xs.getD i false,rfl,Walks.list (A:=X.A.in1) (I.ok.hd hc) s.heap.objs.size l (ê ll) its.toArray,
  ⟨⟨_,Î _ rfl,rfl,rfl⟩,t.isList.push _⟩,λ i v s' Q' E' hv hq=>?_,λ h' tk hk=>⟨.bl _,H,I.kept (λ b o e=>hk b o (λ m=>?_) (Â _ e)),?_,q⟩⟩
 ·have S5:its[i]?=some v:=by simpa using hv
  have lt:=(È.mp S5).1;have Yw:i<xs.length:=af;obtain⟨u1,e1,q1⟩:=rv.get (by rw [Ô,Å Yw];rfl)
  rw [S5] at e1;cases e1;cases (show v=Value.bool xs[i] from q1);refine Ň ?_;have e:xs.getD i false=xs[i]:=by simp [Yw]
  rw [<- e];exact hq
 ·rcases é.mp m with e2 | m
  ·exact absurd (Ñ e) (by rw [e2];exact Ő _)
  ·cases m
 ·show Value.bool _=Value.bool _;have e:=k8 xs;rw [<- e,ñ,<- len]
end
end My
namespace My
open PySem PySem.W L2
section
variable {K:Frag}{te:TE}{tt:TT}{g:TG}{k:Nat}{ų:St}{D:Addr}{H1:Hp}{Q:Hp->Prop}{a:Addr}{xs:List V}
theorem fu (Pv:Nat->List V->Hp->Prop)(hz:xs.length<sizeLine)(h0:Pv 0 [] (aj H1 D (.lst [])))
  (hl:∀ i ys H,Pv i ys H->Ċ K H a xs)
  (hs:∀ i x ys H,xs[i]?=some x->ys.length=i->H D=some (.lst ys)->Pv i ys H->∀ os:St,os.length=k->∀ R:VK,(∀ y H4,H4 D=some (.lst ys)->Pv (i+1) (ys ++ [y]) (aj H4 D (.lst (ys ++ [y])))->R y H4)->g x (os ++ ų) H λ Ĩ H0=>(∃ ı:St,ı.length=k/\Ĩ = ı ++ ų)/\te Ĩ H0 R)
  (hd:∀ ys H,ys.length=xs.length->H D=some (.lst ys)->Pv xs.length ys H->Q H) :
  ∃ W:Nat->Nat->List V->Hp->Prop,(∃ m,W 0 m [] (aj H1 D (.lst []))) /\
   ∀ i m ys H2,W i m ys H2->H2 D=some (.lst ys)/\(((nj K a).stop i H2/\Q H2)\/((nj K a).go i H2/\ys.length<sizeLine /\
    ∀ x H3,(nj K a).ο i H2 x H3->∀ os:St,os.length=k->g x (os ++ ų) H3 λ Ĩ H0=>(∃ ı:St,ı.length=k/\Ĩ = ı ++ ų)/\te Ĩ H0 λ y H4=>H4 D=some (.lst ys)/\∃ m',m'<m/\W (i+1) m' (ys ++ [y]) (aj H4 D (.lst (ys ++ [y]))))):=by
 refine⟨λ i m ys H=>m=xs.length-i/\i<=xs.length/\ys.length=i/\H D=some (.lst ys)/\Pv i ys H,⟨xs.length,by simp,Nat.zero_le _,rfl,be,h0⟩,?_⟩
 rintro i m ys H ⟨rfl,hi,hy,hD,p⟩;refine⟨hD,?_⟩;have q:=hl i ys H p;by_cases ř:i<xs.length
 ·refine .inr ⟨⟨xs,xs[i],q,by simp [ř]⟩,af,λ x H' y=>?_⟩
  obtain⟨e,y⟩:=y;subst e;exact λ os Ş=>hs i x ys _ (y xs q) hy hD p os Ş _ λ z H4 UZ p4=>⟨UZ,xs.length-(i+1),af,rfl,ř,by rw [Õ,hy];rfl,be,p4⟩
 ·have e:i=xs.length:=af;subst e;exact .inl ⟨⟨xs,q,Æ _⟩,hd ys H hy hD p⟩
end
section
variable {X:Cx}
theorem jM:∀{ns:List Int}{its:List Value},Vals (ns.map V.int) its->∃ xs:List (Int × Tok),its=xs.map (λ p=>Value.int p.1 p.2)/\ns=xs.map (·.1)
 | [],_,r=>by cases r;exact⟨[],rfl,rfl⟩
 | n::ns,_,r=>by
  rw [Ú] at r;cases r with
  | cons r1 r2 =>
   obtain⟨t,rfl⟩:=r1;obtain⟨xs,e1,e2⟩:=jM r2;exact⟨(n,t)::xs,by rw [e1];rfl,by rw [e2];rfl⟩
theorem sT {xs:List (Int × Tok)}(h:i<xs.length):numAt xs.toArray i=(xs.map (·.1))[i]'(by rw [Ä];exact h):=by
 simp [numAt,h]
end
structure uL (K:Frag)(mg:cr)(D:Addr)(nm fld:Str)(C f:Addr)(fd:FuncData):Prop where
 cls:θ K D nm C f
 VA:mg nm=some (.ref C)
 ok:∀(P:Program)(w:World)(base:Heap),í P w K mg base aB 1 f fd ["self",fld] (nW C fld)
 bi:Binds K fd ["self",fld] []
structure Df (P:Program)(w:World)(K:Frag)(mg:cr)(base:Heap)(cx:pB)(k:Nat)(nm:Str)(ps:List Str)(sp:Sp)(g:Addr)(gd:FuncData):Prop where
 G:í P w K mg base cx k g gd ps sp
 b:Binds K gd ps []
 kp:keepIn K (.ref g)=true
 m:mg nm=some (.ref g)
theorem bZ {X:Cx}{CX:pB}{k:Nat}{x:Str}{ps:List Str}{sp:Sp}{f:Addr}{fd:FuncData}{E:XK}{e:Expr}{es:List Expr}{t:TA}{p pos:Pos}(A:Df X.prog X.w X.K X.mg X.base CX k x ps sp f fd)(hr:ć k X.A)(hx:eO CX X E)(ha:PA X (e::es) t)(hg:Gl X x:=by exact rfl)(No:(x==("__debug__" : Str))=false:=by decide) (he:starEach (e::es) X.env=(false,eval e X.env)::starEach es X.env:=by rfl) (I_:(backTo pos (starEach es X.env)).any (·.1)=false:=by rfl):PE X (.Call (.Name x p) (e::es) [] pos) (cC sp [] E t):=i8 A.G hr hg A.m A.kp A.b .nil hx ha No he I_
theorem oS:eO (i5 P w) X E0:=λ _ _ _ _ _ _ _ h=>by
 obtain⟨_,_,_,_,_,_,_,_,_,_,_,_,_,h⟩:=h;exact h.elim
def iI (C:Addr)(fld:Str)(x:V)(H:Hp)(E:XK):Prop:=∀ e dx,H e=none->H dx=none->dx≠e->E (.ref C) (some e) (aj (aj H dx (.xd [(fld,x)])) e (pT e C (some dx)))
def U8 (K:Frag)(H:Hp)(v:V)(n:String):Prop:=∃ t,Kd K H v t/\kitOne K t (.type n)=some false
theorem U8.ext (h:U8 K H v n)(x:Ext H H'):U8 K H' v n:=by
 obtain⟨t,k,e⟩:=h;exact⟨t,k.ext x,e⟩
theorem gF (h:pR lo hi d=true):∃ i,d=.int i/\lo<=i/\i<=hi:=by
 cases d with
 | int i =>
  have h':(decide (lo<=i)&&decide (i<=hi))=true:=h;rw [ĉ,ÿ,ÿ] at h';exact⟨i,rfl,h'.1,h'.2⟩
 | _=>cases h
theorem aV (o:HO)(x:Ext H0 H)(h:H0 l=none):Ext H0 (aj H l o):=λ b u e=>by
 rw [ad (λ z=>by rw [z,h] at e;cases e)]
 exact x b u e
theorem aM {α:Type}{xs:List α}{x:α}(h:xs[i]?=some x):xs.take (i+1)=xs.take i ++ [x]:=by
 rw [List.take_succ,h];rfl
def Kept (H H':Hp)(p:Addr):Prop:=∀ b o,H b=some o->b≠p->H' b=some o
theorem Kept.refl (H:Hp)(p:Addr):Kept H H p:=λ _ _ h _=>h
theorem Kept.trans (x:Kept H H1 p)(y:Kept H1 H2 p):Kept H H2 p:=λ b o h n=>y b o (x b o h n) n
theorem Ext.kept (x:Ext H H')(p:Addr):Kept H H' p:=λ b o h _=>x b o h
def wo (H:Hp)(p:Addr):Hp:=λ b=>if b=p then none else H b
theorem mV (H:Hp)(p:Addr):Ext (wo H p) H:=λ b o e=>by
 unfold wo at e;split at e
 ·cases e
 ·exact e
theorem gM (n:b≠p)(e:H b=some o):wo H p b=some o:=by unfold wo;rw [Ë n];exact e
theorem yJ (k:Kept H H' p):Ext (wo H p) (wo H' p):=λ b o e=>by
 unfold wo at e;split at e
 ·cases e
 ·rename_i n
  exact gM n (k b o e n)
structure Fi (k n:Nat)(d:PyData):Prop where
 sh:d.showable=true
 dp:d.depth<=k
 lv:d.leavesShort 64=true
 bk:d.bulk<=n
section
variable {K:Frag}{H:Hp}{D:dq}{σ:St}{p:Addr}
theorem dU (h:ta σ H λ x H1=>tb σ H1 λ y H2=>r x y H2 Q):bV r ta tb σ H Q:=h
theorem aK (h:te σ H λ v H1=>u D (σ.set i (some v)) H1):aA (bY te (aN i)) u D σ H:=h
end
section
variable {G G':Hp}{xs ys:List V}{n m:Nat}
theorem Ý.take:∀{xs:List V}{ds:List PyData}(i:Nat),Ý G xs ds->Ý G (xs.take i) (ds.take i)
 | _,_,0,h=>.nil
 | _,_,i+1,.nil=>.nil
 | _,_,i+1,.cons r t=>.cons r (Ý.take i t)
end
theorem GS (h:wo H p a=some o):a≠p:=λ e=>by
 unfold wo at h;rw [Ó e] at h;cases h
theorem Ad (x:Ext H H')(p:Addr):Ext (wo H p) (wo H' p):=yJ (x.kept p)
theorem pH (h:t σ H λ xs H1=>xs.length<=sizeLine/\∀ p,H1 p=none->Q (.ref p) (aj H1 p (.lst xs))):cv t σ H Q:=h
theorem i7 (val:Nat->Int)(ns:List Int)(h:∀(i:Nat)(hi:i<ns.length),val i=ns[i]):∀ k,k<=ns.length->preSum val k=(ns.take k).sum
 | 0,_=>by simp [preSum]
 | k+1,hk=>by
  have ih:=i7 val ns h k af;have e:ns.take (k+1)=ns.take k ++ [ns[k]]:=aM (Å af);show preSum val k+val k=_;rw [ih,h k af,e,į];simp
section
variable {X:Cx}
def rZ (K:Frag):List V->Hp->VK->Prop:=λ vs H Q=>∃(l:Addr)(ns:List Int),vs=[.ref l]/\Ċ K H l (ns.map V.int)/\Q (.int ns.sum) H
theorem gz (hc:X.calm=true):cU X (.builtin "sum") (rZ X.K):=by
 intro Ã s σ H xs us Q I r h;obtain⟨l,ns,rfl,hl,q⟩:=h;obtain⟨u,rfl,ru⟩:=fL r;cases (show u=.ref l from ru);obtain⟨its,rv,p,hz⟩:=I.list hl;obtain⟨xs,rfl,rfl⟩:=jM rv;have e:(xs.map λ p=>.int p.1 p.2).toArray=intItems xs.toArray:=by simp [intItems]
 have hL:s.heap.IsList l (intItems xs.toArray):=by rw [<- e];exact p.isList
 refine sum_intListG (I.ok.hd hc) hL λ h' tk t' hk=>?_;have es:preSum (numAt xs.toArray) xs.toArray.size=(xs.map (·.1)).sum:=by
  have:=i7 (numAt xs.toArray) (xs.map (·.1)) (λ i hi=>sT (by simpa using hi)) xs.toArray.size (by simp)
  rw [this,RP (by simp)]
 rw [es];exact⟨.int _,H,I.kept hk,⟨t',rfl⟩,q⟩
end
section
variable {X:Cx}
def IQ (K:Frag):List V->Hp->VK->Prop:=λ vs H Q=>∃ x S t b,vs=[x,.ref S]/\Kd K H x t/\kitOne K t (.ref S)=some b/\Q (.bl b) H
theorem vy (N:pA X.K):cU X (.builtin "isinstance") (IQ X.K):=by
 intro Ã s σ H xs us Q I r h;obtain⟨x,S,t,b,rfl,kd,e,q⟩:=h;obtain⟨u,u',rfl,ru,P0⟩:=ip r;cases (show u'=.ref S from P0);rcases kd with ty | ⟨p,ys,rfl,hq,rfl⟩ | ⟨a,C,rfl,ea,T,rfl⟩
 ·exact kZ I ru ty e λ tk=>⟨.bl b,H,I.tok _,rfl,q⟩
 ·cases (show u=.ref p from ru);obtain⟨its,_,⟨o,h1,h2,_⟩,_⟩:=I.tuple hq;exact kia_one kitx_tuple I.Š ⟨o,h1,h2⟩ e (λ z=>nomatch z) λ tk=>⟨.bl b,H,I.tok _,rfl,q⟩
 ·cases (show u=.ref a from ru);exact kia_one (uF T N.gt N.tk) I.Š (ea.inst I.Č) e (λ z=>nomatch z) λ tk=>⟨.bl b,H,I.tok _,rfl,q⟩
end
def cG (P:Program)(w:World)(K:Frag)(mg:cr)(base:Heap)(CX:pB)(k:Nat)(m:Str)(ps:List Str)(S:Addr->Prop)(sp:Addr->Sp):Prop :=
 ∀ C,S C->Ql K C/\∃ f fd,Ih K C m f/\í P w K mg base CX k f fd ps (sp C)/\Binds K fd ps []
def dM (S:Addr->Prop)(m:Str)(sp:Addr->Sp)(E:XK)(ta:TE)(t:TA):TE:=λ σ H Q=>ta σ H λ x H1=>∃ a C dx fs,x=.ref a/\S C/\H1 a=some (.ins C dx fs)/\fs.lookup m=none /\
 t σ H1 λ vs H2=>sp C (x::vs) H2 Q E
section
variable {X:Cx}{CX:pB}{k:Nat}{S:Addr->Prop}{ps:List Str}{sp:Addr->Sp}{E:XK}{x m:Str}{p pos ő:Pos}{e o:Expr}{es:List Expr}{ta:TE}{t:TA}{σ:St}
theorem fq (he:PE X o ta)(M:cG X.prog X.w X.K X.mg X.base CX k m ps S sp)(hr:ć k X.A)(hx:eO CX X E)(ha:PA X (e::es) t)
  (Ny:starEach (e::es) X.env=(false,eval e X.env)::starEach es X.env:=by rfl) (I_:(backTo pos (starEach es X.env)).any (·.1)=false:=by rfl)
  (ht:eval (.Call (.Attribute o m ő) (e::es) [] pos) X.env=(do
   let ov <- eval o X.env
   standAt ő.atName
   let (f,first) <- holding [ov] (getMethod ov m pl)
   callWith pos f first (backTo pos (starEach (e::es) X.env)) (backToKw pos (keywordEach [] X.env))):=by rfl) :
  PE X (.Call (.Attribute o m ő) (e::es) [] pos) (dM S m sp E ta t):=by
 intro Ã s σ H Q I h;refine Ŷ (bt (he Ã s σ H _ I h) λ u s1 ⟨x,H1,I1,rx,a,C,dx,fs,ex,hS,ea,l,q⟩=>?_) ht;subst ex;obtain⟨c,f,fd,hm,F,hb⟩:=M C hS;obtain rfl:u=.ref a:=rx;refine jG I1 ea c hm l ?_;refine Ũ I.ok.mod.Sv hm.kp (bt (ha pos Ã s1 σ H1 _ I1 q) λ us s2 ⟨vs,H2,I2,r,q2⟩=>⟨I2.Š,?_⟩) Ny I_;exact lV (vs:=.ref a::vs) F hr hb .nil hx I2 (.cons rfl r) (by rw [Ī];exact q2)
theorem cJ (he:PE X o ta)(M:cG X.prog X.w X.K X.mg X.base CX k m ps S sp)(hr:ć k X.A)(hx:eO CX X E)
  (ht:eval (.Call (.Attribute o m ő) [] [] pos) X.env=(do
   let ov <- eval o X.env
   standAt ő.atName
   let (f,first) <- holding [ov] (getMethod ov m pl)
   callWith pos f first (backTo pos (starEach [] X.env)) (backToKw pos (keywordEach [] X.env))):=by rfl) :
  PE X (.Call (.Attribute o m ő) [] [] pos) (dM S m sp E ta aF):=by
 intro Ã s σ H Q I h;refine Ŷ (bt (he Ã s σ H _ I h) λ u s1 ⟨x,H1,I1,rx,a,C,dx,fs,ex,hS,ea,l,q⟩=>?_) ht;subst ex;obtain⟨c,f,fd,hm,F,hb⟩:=M C hS;obtain rfl:u=.ref a:=rx;refine jG I1 ea c hm l ?_;exact PySem.W.callWith_K0 I1.Š hm.kp (lV (vs:=[.ref a]) F hr hb .nil hx I1 (.cons rfl .nil) q)
end
section
variable {K:Frag}{te:TE}{tt:TT}{g:TG}{k:Nat}{ų:St}{D:Addr}{H1:Hp}{Q:Hp->Prop}{a:Addr}{xs:List V}
theorem iF (Pv:Nat->List V->Hp->Prop)(hz:xs.length<sizeLine)(h0:Pv 0 [] (aj H1 D (.lst [])))
  (hl:∀ i ys H,Pv i ys H->Ė K H a xs)
  (hs:∀ i x ys H,xs[i]?=some x->ys.length=i->H D=some (.lst ys)->Pv i ys H->∀ os:St,os.length=k->∀ R:VK,(∀ y H4,H4 D=some (.lst ys)->Pv (i+1) (ys ++ [y]) (aj H4 D (.lst (ys ++ [y])))->R y H4)->g x (os ++ ų) H λ Ĩ H0=>(∃ ı:St,ı.length=k/\Ĩ = ı ++ ų)/\te Ĩ H0 R)
  (hd:∀ ys H,ys.length=xs.length->H D=some (.lst ys)->Pv xs.length ys H->Q H) :
  ∃ W:Nat->Nat->List V->Hp->Prop,(∃ m,W 0 m [] (aj H1 D (.lst []))) /\
   ∀ i m ys H2,W i m ys H2->H2 D=some (.lst ys)/\(((t5 K a).stop i H2/\Q H2)\/((t5 K a).go i H2/\ys.length<sizeLine /\
    ∀ x H3,(t5 K a).ο i H2 x H3->∀ os:St,os.length=k->g x (os ++ ų) H3 λ Ĩ H0=>(∃ ı:St,ı.length=k/\Ĩ = ı ++ ų)/\te Ĩ H0 λ y H4=>H4 D=some (.lst ys)/\∃ m',m'<m/\W (i+1) m' (ys ++ [y]) (aj H4 D (.lst (ys ++ [y]))))):=by
 refine⟨λ i m ys H=>m=xs.length-i/\i<=xs.length/\ys.length=i/\H D=some (.lst ys)/\Pv i ys H,⟨xs.length,by simp,Nat.zero_le _,rfl,be,h0⟩,?_⟩
 rintro i m ys H ⟨rfl,hi,hy,hD,p⟩;refine⟨hD,?_⟩;have q:=hl i ys H p;by_cases ř:i<xs.length
 ·refine .inr ⟨⟨xs,xs[i],q,by simp [ř]⟩,af,λ x H' y=>?_⟩
  obtain⟨rfl,y⟩:=y;exact λ os Ş=>hs i x ys _ (y xs q) hy hD p os Ş _ λ z H4 UZ p4=>⟨UZ,xs.length-(i+1),af,rfl,ř,by rw [Õ,hy];rfl,be,p4⟩
 ·have e:i=xs.length:=af;subst e;exact .inl ⟨⟨xs,q,Æ _⟩,hd ys H hy hD p⟩
end
theorem bK (o:HO):Kept H (aj H p o) p:=λ b u h n=>by rw [ad n];exact h
def eY:PyData->Bool
 | .tuple [.int a,.int b]=>(decide (1<=b)&&(decide (0<=a)&&decide (a<=b)))&&decide (Nat.gcd a.toNat b.toNat=1)
 | _=>false
def dF:PyData->Bool
 | .tuple [.int a,.int b]=>eY (.tuple [.int a,.int b])&&(decide (2<=b)&&decide (b<=100))
 | _=>false
def jc (lo:Int)(n:Nat):List Int:=(List.range n).map λ k=>lo+(k:Nat)
def jZ (p:List Int):PyData:=.tuple (p.map .int)
theorem wO (lo:Int)(n:Nat):zu lo n=(jc lo n).map V.int:=by unfold zu jc;rw [δ];rfl
theorem gC (G:Hp):∀(ns:List Int),Ý G (ns.map V.int) (ns.map PyData.int)
 | []=>.nil
 | n::ns=>.cons (.int _) (gC G ns)
theorem jg:∀{p:List Int}{ys:List V},Ý G ys (p.map PyData.int)->ys=p.map V.int
 | [],_,h=>by cases h;rfl
 | n::p,_,h=>by
  cases h with
  | cons r t =>
   cases r;rw [jg t];rfl
theorem jA {ps:List (List Int)}(rs:Ý G xs (ps.map jZ)){i:Nat}(hx:xs[i]?=some x)(hp:ps[i]?=some p):∃ a,x=.ref a/\G a=some (.tup (p.map V.int)):=by
 obtain⟨d,ed,rd⟩:=rs.get hx;rw [Ô,hp] at ed;cases ed;obtain⟨a,ys,rfl,ha,ry⟩:=ck rd;refine⟨a,rfl,?_⟩
 rwa [<- jg ry]
def zw:HO->Bool
 | .lst _=>true
 | .tup _=>true
 | .dK _=>true
 | _=>false
mutual
theorem Ą.keep (s:∀ b o,G b=some o->zw o=true->G' b=some o):∀{v:V}{d:PyData},Ą G v d->Ą G' v d
 | _,_,.Ă=>.Ă
 | _,_,.bl b=>.bl b
 | _,_,.int i=>.int i
 | _,_,.str x=>.str x
 | _,_,.lst e r=>.lst (s _ _ e rfl) (Ý.keep s r)
 | _,_,.tup e r=>.tup (s _ _ e rfl) (Ý.keep s r)
 | _,_,.Oo e=>.Oo (s _ _ e rfl)
 | _,_,.RA e r=>.RA (s _ _ e rfl) (Ą.keep s r)
theorem Ý.keep (s:∀ b o,G b=some o->zw o=true->G' b=some o):∀{vs:List V}{ds:List PyData},Ý G vs ds->Ý G' vs ds
 | _,_,.nil=>.nil
 | _,_,.cons r t=>.cons (Ą.keep s r) (Ý.keep s t)
end
theorem Ą.kept (r:Ą H v d)(hx:H x=some (.ins C dx fs))(k:Kept H H' x):Ą H' v d :=
 r.keep λ b o e h=>k b o e λ z=>by rw [z,hx] at e;cases e;cases h
inductive R0 where
 | split (n k:Int)
 | pairs (n a b:Int)
 | ę (n a b f:Int)
def R0.Û:R0->Int
 | .split n _=>n
 | .pairs n _ _=>2*n
 | .ę n _ _ _=>n
def R0.begin:R0->PyData
 | .split _ k=>.int k
 | .pairs _ _ _=>.none
 | .ę _ _ _ _=>.int 0
def R0.told:R0->PyData
 | .split n k=>.tuple [.str "split",.int n,.int k]
 | .pairs n a b=>.tuple [.str "pairs",.int n,.tuple [.int a,.int b]]
 | .ę n a b f=>.tuple [.str "coins",.int n,.tuple [.int a,.int b],.int f]
def R0.kind:R0->Nat
 | .split _ _=>0
 | .pairs _ _ _=>1
 | .ę _ _ _ _=>2
def R0.ok:R0->Prop
 | .split n k=>1<=n/\n<=20/\0<=k/\k<=n
 | .pairs n a b=>1<=n/\n<=10/\dF (.tuple [.int a,.int b])=true
 | .ę n a b f=>1<=n/\n<=20/\dF (.tuple [.int a,.int b])=true/\1<=f/\f<=20
theorem R0.Į {r:R0}(h:r.ok):1<=r.Û/\r.Û <= 20:=by
 cases r <;> simp only [R0.ok,R0.Û] at * <;> omega
def fA:Int->List Int->List (List Int)
 | _,[]=>[]
 | s,n::ns=>jc s n.toNat::fA (s+n) ns
def Dr (m:Int)(ps:List (List Int)):List (List Int):=(ps.map (·.filter λ x=>decide (x<m))).filter λ p=>decide (0<p.length)
inductive Rl where
 | one (r:R0)
 | blocks (rs:List R0)
 | first (t:Rl) (m:Int)
def Rl.Û:Rl->Int
 | .one r=>r.Û
 | .blocks rs=>(rs.map R0.Û).sum
 | .first _ m=>m
def Rl.begin:Rl->PyData
 | .one r=>r.begin
 | .blocks []=>.tuple [.int 0,.none]
 | .blocks (r::_)=>.tuple [.int 0,r.begin]
 | .first t _=>t.begin
def Rl.told:Rl->PyData
 | .one r=>r.told
 | .blocks rs=>.tuple [.str "blocks",.tuple (rs.map R0.told)]
 | .first t m=>.tuple [.str "first",t.told,.int m]
def Rl.parts:Rl->List (List Int)
 | .one r=>[jc 0 r.Û.toNat]
 | .blocks rs=>fA 0 (rs.map R0.Û)
 | .first t m=>Dr m t.parts
def Rl.kind:Rl->Nat
 | .one r=>r.kind
 | .blocks _=>3
 | .first _ _=>4
def Rl.inner:Rl->Rl
 | .first t _=>t.inner
 | t=>t
def eV (ps:List (List Int)):PyData:=.tuple (ps.map jZ)
def Rl.ok:Rl->Prop
 | .one r=>r.ok
 | .blocks rs=>1<=rs.length/\rs.length<=6/\(∀ r∈rs,r.ok)/\(rs.map R0.Û).sum<=20
 | .first t m=>t.ok/\0<=m/\m<=t.Û
theorem gO:∀{ns:List Int},(∀ n∈ns,0<=n)->0<=ns.sum
 | [],_=>by simp
 | n::ns,h=>by
  have:=h n (Ö ..);have:=gO λ x hx=>h x (Ï _ hx);simp only [List.sum_cons];omega
theorem Rl.Į:∀{t:Rl},t.ok->0<=t.Û/\t.Û <= 20
 | .one r,h=>by have:=R0.Į h;simp only [Rl.Û];omega
 | .blocks rs,h=>by
  obtain⟨_,_,h3,h4⟩:=h;refine⟨gO λ n hn=>?_,h4⟩;obtain⟨r,hr,rfl⟩:=æ.mp hn;have:=R0.Į (h3 r hr);omega
 | .first t m,h=>by
  obtain⟨h1,h2,h3⟩:=h;have:=Rl.Į h1;simp only [Rl.Û];omega
def gQ:List Str:=["folk","begin","steps","told","blocks","state_ahead","state_behind"]
structure Ob (C:Addr)(H:Hp)(v:V)(fk:Int)(bg tl pt:PyData)(X:List (Str × V)->Prop):Prop where
 ex:∃ a dx fs,v=.ref a/\H a=some (.ins C dx fs)/\fs.lookup ("size" : Str)=some (.int fk)/\(∃ b,fs.lookup ("first_state" : Str)=some b/\Ą H b bg)/\(∃ m,fs.lookup ("mark" : Str)=some m/\Ą H m tl)/\(∃ p,fs.lookup ("parts" : Str)=some p/\Ą H p pt)/\(∀ m∈gQ,fs.lookup m=none)/\X fs
def R0.extra (H:Hp):R0->List (Str × V)->Prop
 | .split _ _,_=>True
 | .pairs _ a b,fs=>∃ c,fs.lookup ("coin" : Str)=some c/\Ą H c (.tuple [.int a,.int b])
 | .ę _ a b f,fs=>(∃ c,fs.lookup ("coin" : Str)=some c/\Ą H c (.tuple [.int a,.int b]))/\fs.lookup ("far" : Str)=some (.int f)
def MV (C:Nat->Addr)(H:Hp)(r:R0)(v:V):Prop:=Ob (C r.kind) H v r.Û r.begin r.told (eV [jc 0 r.Û.toNat]) (r.extra H)
def Τ (C:Nat->Addr)(H:Hp)(rs:List R0)(ws:List V):Prop:=rs.length=ws.length/\∀(i:Nat) r w,rs[i]?=some r->ws[i]?=some w->MV C H r w
def Op (C:Nat->Addr)(H:Hp)(rs:List R0)(v:V):Prop:=Ob (C 3) H v (Rl.blocks rs).Û (Rl.blocks rs).begin (Rl.blocks rs).told (eV (Rl.blocks rs).parts) (λ fs=>∃ l ws,fs.lookup ("rules" : Str)=some (.ref l)/\H l=some (.tup ws)/\Τ C H rs ws)
def Px (C:Nat->Addr)(H:Hp):Rl->V->Prop
 | .one r,v=>MV C H r v
 | .blocks rs,v=>Op C H rs v
 | .first _ _,_=>False
def Ru (C:Nat->Addr)(H:Hp):Rl->V->Prop
 | .one r,v=>MV C H r v
 | .blocks rs,v=>Op C H rs v
 | .first t m,v=>Ob (C 4) H v m t.begin (Rl.first t m).told (eV (Rl.first t m).parts) (λ fs=>∃ d,fs.lookup ("dealer" : Str)=some d/\Px C H t.inner d)
theorem Ob.mono (h:Ob C H v fk bg tl pt X)(x:Ext H H')(k:∀ fs,X fs->Y fs):Ob C H' v fk bg tl pt Y:=by
 obtain⟨a,dx,fs,rfl,ha,h1,⟨b,h2,r2⟩,⟨m,h3,r3⟩,⟨p,h4,r4⟩,h5,h6⟩:=h.ex;exact⟨a,dx,fs,rfl,x _ _ ha,h1,⟨b,h2,r2.mono x⟩,⟨m,h3,r3.mono x⟩,⟨p,h4,r4.mono x⟩,h5,k fs h6⟩
section
variable {C:Nat->Addr}{H H':Hp}
theorem MV.ext (h:MV C H r v)(x:Ext H H'):MV C H' r v:=Ob.mono h x λ fs e=>by
 cases r with
 | split _ _=>trivial
 | pairs _ a b =>
  obtain⟨c,e1,e2⟩:=e;exact⟨c,e1,e2.mono x⟩
 | ę _ a b f =>
  obtain⟨⟨c,e1,e2⟩,e3⟩:=e;exact⟨⟨c,e1,e2.mono x⟩,e3⟩
theorem Τ.ext (h:Τ C H rs ws)(x:Ext H H'):Τ C H' rs ws:=⟨h.1,λ i r w a b=>MV.ext (h.2 i r w a b) x⟩
theorem Op.ext (h:Op C H rs v)(x:Ext H H'):Op C H' rs v:=Ob.mono h x λ fs e=>by
 obtain⟨l,ws,e1,e2,e3⟩:=e;exact⟨l,ws,e1,x _ _ e2,e3.ext x⟩
theorem Px.ext (h:Px C H t v)(x:Ext H H'):Px C H' t v:=by
 cases t with
 | one r=>exact MV.ext h x
 | blocks rs=>exact Op.ext h x
 | first _ _=>exact h.elim
theorem Ru.ext (h:Ru C H t v)(x:Ext H H'):Ru C H' t v:=by
 cases t with
 | one r=>exact MV.ext h x
 | blocks rs=>exact Op.ext h x
 | first t m=>exact Ob.mono h x λ fs ⟨d,e1,e2⟩=>⟨d,e1,e2.ext x⟩
theorem Ru.ob (h:Ru C H t v):Ob (C t.kind) H v t.Û t.begin t.told (eV t.parts) (λ _=>True):=by
 cases t with
 | one r=>exact Ob.mono h (.refl _) λ _ _=>trivial
 | blocks rs=>exact Ob.mono h (.refl _) λ _ _=>trivial
 | first t m=>exact Ob.mono h (.refl _) λ _ _=>trivial
theorem Px.ru (h:Px C H t v):Ru C H t v:=by
 cases t with
 | one r=>exact h
 | blocks rs=>exact h
 | first _ _=>exact h.elim
end
theorem R0.ā (r:R0):r.kind<3:=by cases r <;> simp [R0.kind]
theorem Rl.ā (t:Rl):t.kind<5:=by
 cases t with
 | one r=>have:=r.ā;show r.kind<5;omega
 | blocks _=>show 3<5;decide
 | first _ _=>show 4<5;decide
def eK:List Str:=["size","first_state","mark","parts","coin","far","rules","dealer"]
structure KR (K:Frag)(C:Nat->Addr)(CR:Addr):Prop where
 cls:∀ i,i<5->Ql K (C i)
 no:∀ i,i<5->∀ f∈eK,ω K (C i) f
 ha:∀ i,i<5->PySem.W.findIn K (.ref (C i)) "__class__" = some (some (.builtin "object.__class__"))
 hn:PySem.W.specialIn K (.builtin "object.__class__") "__get__" = some (some (.builtin "getset_descriptor.__get__"))
 OX:PySem.W.takesIn K (.builtin "object.__class__")=some true
 hm:∀ i,i<5->PySem.W.mroIn K (C i) (.type "object")=some true
 kk:∀ i j,i<5->j<5->kitOne K (.ref (C i)) (.ref (C j))=some (i==j)
 kR:∀ i,i<5->kitOne K (.ref (C i)) (.ref CR)=some true
 kl:∀ i,i<5->kitOne K (.ref (C i)) (.type "list")=some false
 kt:∀ i,i<5->kitOne K (.ref (C i)) (.type "tuple")=some false
 ki:∀ i,i<5->kitOne K (.ref (C i)) (.type "int")=some false
 kb:∀ i,i<5->kitOne K (.ref (C i)) (.type "bool")=some false
def nI (C:Nat->Addr)(c:Addr):Prop:=∃ i,i<5/\c=C i
section
variable {K:Frag}{C:Nat->Addr}{CR:Addr}{H:Hp}
theorem Ob.kd (Z:KR K C CR)(hi:i<5)(h:Ob (C i) H v fk bg tl pt X):Kd K H v (.ref (C i)):=by
 obtain⟨a,dx,fs,rfl,ha,_⟩:=h.ex;exact .inl (.ins ha (Z.cls i hi) (Z.ha i hi) Z.hn Z.OX (Z.hm i hi))
theorem Ru.kd (Z:KR K C CR)(h:Ru C H t v):Kd K H v (.ref (C t.kind)):=h.ob.kd Z t.ā
theorem dh (hm:m∈gQ)(h:Ru C H t v)(ht:∀ R:VK,R v H->ta σ H R)(q:sp (C t.kind) [v] H Q E):dM (nI C) m sp E ta aF σ H Q:=by
 obtain⟨a,dx,fs,rfl,ha,_,_,_,_,h5,_⟩:=h.ob.ex;exact ht _ ⟨a,C t.kind,dx,fs,rfl,⟨_,t.ā,rfl⟩,ha,h5 m hm,q⟩
end
end My
namespace My
open PySem PySem.W L2
def kE:V->V->Bool
 | x,.int j=>decide (1<=j)&&Pu 0 j x
 | _,_=>false
theorem uI (h:∀ i,y ≠ .int i):kE x y=false:=by
 cases y with
 | int i=>exact absurd rfl (h i)
 | _=>rfl
section
variable {P:Program}{w:World}{K:Frag}{mg:cr}{base:Heap}
abbrev qj:Stmt:=cP 8
def l7 (K:Frag):Sp:=λ vs H Q _=>∃ x,vs=[x]/\Th K H x/\Q (.bl (Ht x)) H
theorem Jt:ai ["thing"] ["thing"] (aa qj):=bc
theorem vc (N:pA K)(F:ĵ K "is_number" "is_number" qj f fd) (mi:mg "isinstance" = none) (m1:mg "int" = none) (m2:mg "bool" = none):í P w K mg base aB 1 f fd ["thing"] (l7 K):=by
 refine F.ok Jt (λ vs H Q E h=>?_) (λ cdv A outer s H vs Q E hr h=>?_)
 ·obtain⟨c,rfl,_⟩:=h;rfl
 obtain⟨x,rfl,th,q⟩:=h;refine⟨_,aW (cn (fG (am (aX N) rfl mi Ê (ac (pv 0) (ac (ce rfl m1 Ĺ) ar)))
  (gU (CH (am (aX N) rfl mi Ê (ac (pv 0) (ac (ce rfl m2 Ō) ar))))))),?_⟩
 rcases th with⟨i,rfl⟩ | ⟨n,t,b1,b2,kd,k1,k2,z⟩
 ·exact⟨_,rfl,_,_,_,_,rfl,.inl (.int i),IE,_,rfl,⟨_,rfl,_,_,_,_,rfl,.inl (.int i),IK,_,rfl,q⟩⟩
 ·rw [mw n] at q;refine⟨_,rfl,_,_,_,_,rfl,kd,k1,_,rfl,?_⟩;cases b1 with
  | false=>exact dj q
  | true =>
   refine fV ⟨_,rfl,_,_,_,_,rfl,kd,k2,_,rfl,?_⟩;have e:(!b2)=false:=z;rw [e];exact q
abbrev u7:Stmt:=cP 9
def gZ (K:Frag):Sp:=λ vs H Q _=>∃ x lo hi,vs=[x,.int lo,.int hi]/\Th K H x/\Q (.bl (Pu lo hi x)) H
theorem Ja:ai ["thing","low","high"] ["thing","low","high"] (aa u7):=bc
theorem yE (F:ĵ K "is_whole" "is_whole" u7 f fd) (G:í P w K mg base aB 1 g gd ["thing"] (l7 K)) (bG:Binds K gd ["thing"] []) (kG:keepIn K (.ref g)=true) (mG:mg "is_number" = some (.ref g)) :
  í P w K mg base aB 2 f fd ["thing","low","high"] (gZ K):=by
 refine F.ok Ja (λ vs H Q E h=>?_) (λ cdv A outer s H vs Q E hr h=>?_)
 ·obtain⟨c,lo,hi,rfl,_⟩:=h;rfl
 obtain⟨x,lo,hi,rfl,th,q⟩:=h;refine⟨_,aW (cn (fG (i8 G hr rfl mG kG bG .nil ag (ac (pv 0) ar)) (fG (cQ wj (pv 1) (pv 0) (au _)) (gU (cQ wj (pv 0) (pv 2) (au _)))))),?_⟩;refine⟨_,rfl,x,rfl,th,_,rfl,?_⟩;rcases th with⟨i,rfl⟩ | ⟨n,_⟩
 ·refine fV ⟨_,rfl,_,rfl,_,_,rfl,rfl,_,rfl,?_⟩;refine fR (λ c=>?_) (λ c=>?_)
  ·refine⟨_,rfl,_,rfl,_,_,rfl,rfl,?_⟩;have q':Q (.bl (decide (lo<=i)&&decide (i<=hi))) H:=q;rw [Ç (ë c),j_] at q';exact q'
  ·have q':Q (.bl (decide (lo<=i)&&decide (i<=hi))) H:=q;rw [Ò (λ z=>c (Ç z)),MH] at q';exact q'
 ·rw [mw n];rw [AD n] at q;exact dj q
abbrev Ay:Stmt:=cP 12
def fe:Sp:=λ vs H Q _=>∃ a b:Nat,vs=[.int a,.int b]/\Q (.int (Nat.gcd a b)) H
theorem Yb:ai ["one","other"] ["one","other"] (aa Ay):=bc
def G2:St->Nat
 | [_,some (.int b)]=>b.toNat
 | _=>0
theorem B8 (F:ĵ K "greatest_common" "greatest_common" Ay f fd):í P w K mg base aB 1 f fd ["one","other"] fe:=by
 refine F.ok Yb (λ vs H Q E h=>?_) (λ cdv A outer s H vs Q E hr h=>?_)
 ·obtain⟨c,lo,rfl,_⟩:=h;rfl
 obtain⟨a,b,rfl,q⟩:=h;have nd:=Yb.nd;refine⟨_,bb (oH .never (aq fm (pv 1) ay (au _)) (aW (ux (i:=0) (j:=1) rfl nd rfl rfl ax rfl rfl (ac (pv 1) (ac (ak dQ (pv 0) (pv 1)) ar)) rfl))) (aW (cn (pv 0))),?_⟩;refine pq (λ σ H'=>H'=H/\∃ x y:Nat,σ=[some (.int x),some (.int y)]/\Nat.gcd x y=Nat.gcd a b) (λ σ _=>G2 σ) ⟨rfl,a,b,rfl,rfl⟩ ?_ ?_
 ·rintro σ H' ⟨rfl,x,y,rfl,e⟩;refine⟨_,rfl,_,_,rfl,rfl,_,rfl,?_⟩;refine fR (λ c=>?_) (λ c=>?_)
  ·have c':=ë c;refine⟨_,rfl,_,rfl,_,rfl,_,_,rfl,rfl,c',_,_,rfl,⟨rfl,y,x%y,?_,?_⟩,?_⟩
   ·show [some (V.int y),some (V.int ((x:Int)%(y:Int)))]=_;rw [show((x:Int)%(y:Int))=((x%y:Nat):Int) from by simp]
   ·rw [<- e,N4 x y,Nat.gcd_rec y x,N4]
   ·show((x:Int)%(y:Int)).toNat<(y:Int).toNat;have:=đ (x:Int) c';omega
  ·have c':¬ (0:Int)<(y:Int):=λ z=>c (Ç z);have y0:y=0:=af;subst y0;rw [Nat.gcd_zero_right] at e;refine⟨_,rfl,?_⟩;rw [e];exact q
 ·rintro σ H Q Q' m ⟨x,e,i,j,h1,h2,b,hb,q⟩;exact⟨x,e,i,j,h1,h2,b,hb,m _ _ q⟩
abbrev t7:Stmt:=cP 14
def pW (K:Frag):Sp:=λ vs H Q _=>∃ x y,vs=[x,y]/\Th K H x/\Th K H y/\Q (.bl (kE x y)) H
theorem Jq:ai ["top","bottom"] ["top","bottom"] (aa t7):=bc
theorem yI (F:ĵ K "is_part" "is_part" t7 f fd) (G:í P w K mg base aB 1 g gd ["thing"] (l7 K)) (bG:Binds K gd ["thing"] []) (kG:keepIn K (.ref g)=true) (mG:mg "is_number" = some (.ref g))
  (W:í P w K mg base aB 2 k kd ["thing","low","high"] (gZ K)) (bW:Binds K kd ["thing","low","high"] []) (kW:keepIn K (.ref k)=true) (mW:mg "is_whole" = some (.ref k)):í P w K mg base aB 3 f fd ["top","bottom"] (pW K):=by
 refine F.ok Jq (λ vs H Q E h=>?_) (λ cdv A outer s H vs Q E hr h=>?_)
 ·obtain⟨x,y,rfl,_⟩:=h;rfl
 obtain⟨x,y,rfl,tx,ty,q⟩:=h;have Ŧ:=hr.mono (show 1<=2 by decide)
 refine⟨_,aW (cn (fG (i8 G Ŧ rfl mG kG bG .nil ag (ac (pv 1) ar)) (fG (cQ wn (pv 1) ay (au _)) (gU (i8 W hr rfl mW kW bW .nil ag (ac (pv 0) (ac ay (ac (pv 1) ar)))))))),?_⟩;refine⟨_,rfl,y,rfl,ty,_,rfl,?_⟩;rcases ty with⟨j,rfl⟩ | ⟨n,_⟩
 ·refine fV ⟨_,rfl,_,_,rfl,rfl,_,rfl,?_⟩;have q':Q (.bl (decide (1<=j)&&Pu 0 j x)) H:=q;refine fR (λ c=>?_) (λ c=>?_)
  ·rw [Ç (ë c),j_] at q';exact⟨_,rfl,_,rfl,x,0,j,rfl,tx,q'⟩
  ·rw [Ò (λ z=>c (Ç z)),MH] at q';exact q'
 ·rw [mw n];rw [uI n] at q;exact dj q
abbrev BL:Stmt:=cP 16
def Ae:Sp:=λ vs H Q _=>∃ x d,vs=[x]/\Ą H x d/\Q (.bl (eY d)) H
theorem Re:ai ["thing","top","bottom"] ["thing"] (aa BL):=bc
theorem pG (r1:Ą H u d1)(r2:Ą H v d2):kE u v=false->eY (.tuple [d1,d2])=false:=by
 intro h;cases r1 with
 | int i =>
  cases r2 with
  | int j =>
   have h':(decide (1<=j)&&(decide (0<=i)&&decide (i<=j)))=false:=h;show((decide (1<=j)&&(decide (0<=i)&&decide (i<=j)))&&_)=false;rw [h'];rfl
  | _=>rfl
 | _=>cases r2 <;> rfl
theorem uz (h:kE x y=true):∃ a b:Nat,x=.int a/\y=.int b/\1<=b/\a<=b:=by
 cases y with
 | int j =>
  have h':(decide (1<=j)&&Pu 0 j x)=true:=h;rw [ĉ,ÿ] at h';obtain⟨h1,h2⟩:=h';cases x with
  | int i =>
   have h3:(decide (0<=i)&&decide (i<=j))=true:=h2;rw [ĉ,ÿ,ÿ] at h3;refine⟨i.toNat,j.toNat,?_,?_,af,af⟩
   ·congr 1;omega
   ·congr 1;omega
  | _=>cases h2
 | _=>cases h
theorem Bz (N:pA K)(F:ĵ K "is_share" "is_share" BL f fd) (A1:Df P w K mg base aB 3 "is_part" ["top","bottom"] (pW K) a1 d1) (A2:Df P w K mg base aB 1 "greatest_common" ["one","other"] fe a2 d2)
  (mi:mg "isinstance" = none) (mt:mg "tuple" = none) (ml:mg "len" = none):í P w K mg base aB 4 f fd ["thing"] Ae:=by
 refine F.ok Re (λ vs H Q E h=>?_) (λ cdv A outer s H vs Q E hr h=>?_)
 ·obtain⟨v,d,rfl,_⟩:=h;rfl
 obtain⟨v,d,rfl,rd,q⟩:=h;have nd:=Re.nd;have Ŧ:ć 1 _:=hr.mono ax;refine⟨_,bb (aJ (PW.pt (fY (cw (bz (am (aX N) rfl mi Ê (ac (pv 0) (ac (ce rfl mt Þ) ar))))) (eQ (aq iG (am aO rfl ml ö (ac (pv 0) ar)) ay (au _))))) (aW (cn pX)) cT)
  (bb (gg (pv 0) (bN rfl (dB (cu (i:=1) nd rfl (Or.inl rfl)) (dB (cu (i:=2) nd rfl (Or.inl rfl)) br))))
  (aW (cn (fG (bZ A1 hr ag (ac (pv 1) (ac (pv 2) ar))) (gU (cQ bE (bZ A2 Ŧ ag (ac (pv 1) (ac (pv 2) ar))) ay (au _))))))),?_⟩
 refine⟨_,rfl,_,_,_,_,rfl,rd.kd,rd.isT,_,rfl,?_⟩;cases e:FD d with
 | false =>
  refine fV (fV ?_);have z:eY d=false:=by cases d <;> first | rfl | cases e
  rw [z] at q;exact q
 | true =>
  obtain⟨ds,rfl⟩:∃ ds,d=.tuple ds:=by cases d <;> first | exact⟨_,rfl⟩ | cases e
  obtain⟨a,xs,rfl,ha,rs⟩:=ck rd;refine dj ⟨_,rfl,a,_,rfl,.inr (Ė.of ha),rfl,_,rfl,?_⟩;have len:=rs.length;by_cases l2:xs.length=2
  ·obtain⟨u,v,rfl⟩:∃ u v,xs=[u,v]:=by
    match xs,l2 with
    | [u,v],_=>exact⟨u,v,rfl⟩
   cases rs with
   | cons r1 rs =>
    cases rs with
    | cons r2 rs =>
     cases rs;refine dj ⟨_,rfl,a,_,rfl,Ė.of ha,rfl,_,_,rfl,_,_,rfl,rfl,?_⟩;refine⟨_,rfl,_,rfl,u,v,rfl,r1.th,r2.th,_,rfl,?_⟩;cases pv:kE u v with
     | false =>
      rw [pG r1 r2 pv] at q;exact dj q
     | true =>
      obtain⟨x,y,rfl,rfl,y1,xy⟩:=uz pv;cases r1;cases r2;refine fV ⟨_,rfl,_,rfl,x,y,rfl,rfl,?_⟩;have q':Q (.bl ((decide ((1:Int)<=(y:Int))&&(decide ((0:Int)<=(x:Int))&&decide ((x:Int)<=(y:Int))))&&decide (Nat.gcd (x:Int).toNat (y:Int).toNat=1))) H:=q;rw [Ç (show(1:Int)<=(y:Int) by omega),Ç (show(0:Int)<=(x:Int) by omega),Ç (show(x:Int)<=(y:Int) by omega),Ù,Ù,Bool.and_self,Bool.and_self,j_] at q'
      have ee:decide (V.int ((Nat.gcd x y:Nat):Int)=.int 1)=decide (Nat.gcd x y=1):=by
       by_cases g:Nat.gcd x y=1
       ·rw [Ç g,g];rfl
       ·rw [Ò g,Ò];intro z;injection z with z
        omega
      rw [ee];exact q'
  ·have e1:(!decide (V.int (xs.length:Nat)=.int 2))=true:=by
    rw [Ò]
    ·rfl
    ·intro h;injection h with h
     omega
   rw [e1];refine fV ?_;have z:eY (.tuple ds)=false:=by
    match ds,len,l2 with
    | [],_,_=>rfl
    | [_],_,_=>simp [eY]
    | [_,_],l,n=>exact absurd l n
    | _::_::_::_,_,_=>simp [eY]
   rw [z] at q;exact q
abbrev Jb:Stmt:=cP 26
def wM (CN:Addr):Sp:=λ vs H Q E=>∃ x d lo hi,vs=[x,.int lo,.int hi]/\Ą H x d/\(pR lo hi d=true->Q .Ă H)/\(pR lo hi d=false->iI CN "found" x H E)
theorem Je:ai ["thing","low","high"] ["thing","low","high"] (aa Jb):=bc
theorem E3 (F:ĵ K "need_number" "need_number" Jb f fd) (B:Η K D) (T:uL K mg D "NoNumber" "found" CN fC fdC) (A1:Df P w K mg base aB 2 "is_whole" ["thing","low","high"] (gZ K) a1 d1):í P w K mg base (i5 P w) 3 f fd ["thing","low","high"] (wM CN):=by
 refine qD F Je λ cdv A outer s H vs Q E hr h=>?_;obtain⟨x,d,lo,hi,rfl,rd,q1,q2⟩:=h;refine⟨_,aW (aJ (cw (bz (bZ A1 hr ag (ac (pv 0) (ac (pv 1) (ac (pv 2) ar)))))) (aW (hV B T.cls (T.ok P w base) hr T.bi rfl T.VA (pv 0))) cT),?_⟩;refine⟨_,rfl,_,rfl,_,rfl,x,lo,hi,rfl,rd.th,_,rfl,?_⟩;rw [rd.Pu];cases e:pR lo hi d with
 | true=>exact dj (q1 e)
 | false=>exact fV ⟨_,rfl,λ e' dx h1 h2 nd=>lI nd (q2 e e' dx h1 h2 nd)⟩
abbrev IJ:Stmt:=cP 27
def BW (CS:Addr):Sp:=λ vs H Q E=>∃ x d,vs=[x]/\Ą H x d/\(dF d=true->Q .Ă H)/\(dF d=false->iI CS "found" x H E)
theorem JM:ai ["thing"] ["thing"] (aa IJ):=bc
theorem oN (h:eY d=true):∃ a b,d=.tuple [.int a,.int b]:=by
 match d,h with
 | .tuple [.int a,.int b],_=>exact⟨a,b,rfl⟩
theorem HG (F:ĵ K "need_coin" "need_coin" IJ f fd) (B:Η K D) (T:uL K mg D "NoShare" "found" CS fC fdC) (A1:Df P w K mg base aB 2 "is_whole" ["thing","low","high"] (gZ K) a1 d1) (A2:Df P w K mg base aB 4 "is_share" ["thing"] Ae a2 d2) (mB:mg "MOST_BOTTOM" = some (.int 100 t)) :
  í P w K mg base (i5 P w) 5 f fd ["thing"] (BW CS):=by
 refine qD F JM λ cdv A outer s H vs Q E hr h=>?_;obtain⟨x,d,rfl,rd,q1,q2⟩:=h;have H_:ć 2 _:=hr.mono ax;refine⟨_,aW (aJ (PW.pt (fY (cw (bz (bZ A2 hr ag (ac (pv 0) ar)))) (eQ (cw (bz (bZ A1 H_ ag (ac (bL cB (pv 0) ay) (ac ay (ac (bI (v:=.int 100) rfl mB ⟨_,rfl⟩) ar)))))))))
  (aW (hV B T.cls (T.ok P w base) H_ T.bi rfl T.VA (pv 0))) cT),?_⟩
 refine⟨_,rfl,x,d,rfl,rd,_,rfl,?_⟩;cases e:eY d with
 | false =>
  have z:dF d=false:=by
   match d,e with
   | .tuple [.int a,.int b],e=>show(eY (.tuple [.int a,.int b])&&_)=false;rw [e];rfl
   | .none,_ | .bool _,_ | .int _,_ | .str _,_ | .list _,_ | .dict _,_=>rfl
   | .tuple [],_=>rfl
   | .tuple [_],_=>simp [dF]
   | .tuple (_::_::_::_),_=>simp [dF]
   | .tuple [.int _,.none],_ | .tuple [.int _,.bool _],_ | .tuple [.int _,.str _],_ | .tuple [.int _,.list _],_ | .tuple [.int _,.tuple _],_ | .tuple [.int _,.dict _],_=>rfl
   | .tuple [.none,_],_ | .tuple [.bool _,_],_ | .tuple [.str _,_],_ | .tuple [.list _,_],_ | .tuple [.tuple _,_],_ | .tuple [.dict _,_],_=>rfl
  exact fV (fV ⟨_,rfl,λ e' dx h1 h2 nd=>lI nd (q2 z e' dx h1 h2 nd)⟩)
 | true =>
  obtain⟨a,b,rfl⟩:=oN e;obtain⟨p,xs,rfl,hp,rs⟩:=ck rd;cases rs with
  | cons r1 rs =>
   cases rs with
   | cons r2 rs =>
    cases rs;cases r1;cases r2;refine dj ⟨_,rfl,p,_,_,_,rfl,rfl,Ė.of hp,jU rfl,_,2,100,rfl,.inl ⟨b,rfl⟩,_,rfl,?_⟩;have ec:dF (.tuple [.int a,.int b])=Pu 2 100 (.int b):=by
     show(eY (.tuple [.int a,.int b])&&(decide (2<=b)&&decide (b<=100)))=_;rw [e,j_];rfl
    cases z:Pu 2 100 (.int b) with
    | true=>exact dj (q1 (by rw [ec,z]))
    | false=>exact fV ⟨_,rfl,λ e' dx h1 h2 nd=>lI nd (q2 (by rw [ec,z]) e' dx h1 h2 nd)⟩
abbrev KY:Stmt:=cP 28
def yT:Sp:=λ vs H Q _=>∃ i:Int,vs=[.int i]/\0<=i/\i<=20/\∀ l H',Ext H H'->Ą H' (.ref l) (eV [jc 0 i.toNat])->Q (.ref l) H'
theorem Kx:ai ["folk"] ["folk"] (aa KY):=bc
theorem GT (F:ĵ K "one_part" "one_part" KY f fd) (mt:mg "tuple" = none) (mr:mg "range" = none):í P w K mg base aB 1 f fd ["folk"] yT:=by
 refine bX F Kx λ cdv A outer s H vs Q E hr h=>?_;obtain⟨i,rfl,h1,h2,q⟩:=h;refine⟨_,aW (cn (aP (ac (aU (lO rfl) rfl mt Þ (ac (aU tL rfl mr Q7 (ac (pv 0) ar)) ar)) ar))),?_⟩;refine⟨_,rfl,i,rfl,λ r hr=>⟨r,0,i,rfl,be,⟨af,af,af,af⟩,af,λ l hl=>⟨cK,λ m hm=>?_⟩⟩⟩;have x2:=Ext.new (o:=.tup [.ref l]) hm;refine q m _ (((Ext.new hr).trans (.new hl)).trans x2) (.tup be (.cons (.tup (x2 _ _ be) ?_) .nil));rw [Int.sub_zero,wO];exact gC _ _
end
theorem jJ:∀{names:List (Str × NameKind)},(∀ y∈names,y.2 ≠ .cell)->∀(n:Nat) acc,cellsFrom n names acc=acc
 | [],_,_,_=>rfl
 | (x,k)::r,h,n,acc=>by
  unfold cellsFrom;rw [Ë (by simpa using h (x,k) (List.mem_cons_self ..))]
  exact jJ (λ y m=>h y (Ï _ m)) n acc
theorem kX:∀{cl:List (Str × Addr)}{z:Str},z∈cl.map (·.1)->∃ c,cl.lookup z=some c
 | (x,d)::cl,z,h=>by
  by_cases e:z=x
  ·subst e;exact⟨d,jk⟩
  ·rw [Ú,é] at h;rcases h with h | h
   ·exact absurd h e
   ·obtain⟨c,hc⟩:=kX h;exact⟨c,yz e hc⟩
theorem mK {X:Cx}{sc:Scope}{cl:List (Str × Addr)}{ts zs:List Str}{js:List Nat}{M:List Str}{L:List (Str × NameKind)}(OE:closureFor sc X.env=pure cl)(kind:sc.kind=.function)(nc:∀ y∈sc.names,y.2 ≠ .cell)(nm:∀ y∈sc.names,y.2=.local->sc.names.lookup y.1=some .local)(var:∀ x∈ts,sc.names.lookup x=some .local)
  (hM:cl.map (·.1)=M) (hc:cl.map (λ y=>X.env.cells.lookup y.1)=cl.map (λ y=>some y.2)) (rl:(relabel sc X.env).names=L) (has:∀ y∈L,(y.2=.cell\/y.2=.free)->y.1∈M) (nd:(ts++zs).Nodup)
  (hj:zs.map some=js.map (λ j=>X.N[j]?)) (hv:zs.map (λ z=>X.env.scope.names.lookup z)=zs.map (λ _=>some .cell)) (hl:zs.map (λ z=>L.lookup z)=zs.map (λ _=>some .cell)):cV X sc cl ts zs js:=by
 have ln:js.length=zs.length:=by have:=ą List.length hj;simpa using this.symm
 refine⟨OE,kind,(λ C=>jJ nc C _),nm,(λ _ z=>nomatch z),λ z c h=>?_,λ z h=>.inr ?_,nd,λ k z h=>?_,ln⟩
 ·obtain⟨i,hi,e⟩:=List.getElem_of_mem (ü h);have q:=ą (λ l=>l[i]?) hc;simp only [List.getElem?_map,List.getElem?_eq_getElem hi,e,Option.map_some] at q;exact â q
 ·rw [rl] at h;refine kX ?_;rw [hM];rcases h with h | h
  ·exact has _ (ü h) (.inl rfl)
  ·exact has _ (ü h) (.inr rfl)
 ·have hk:k<zs.length:=(È.mp h).1;have Oj:k<js.length:=by rw [ln];exact hk
  have q:=ą (λ l=>l[k]?) hj;simp only [List.getElem?_map,h,List.getElem?_eq_getElem Oj,Option.map_some] at q;have v:=ą (λ l=>l[k]?) hv;simp only [List.getElem?_map,h,Option.map_some] at v;have u:=ą (λ l=>l[k]?) hl;simp only [List.getElem?_map,h,Option.map_some] at u;have v':X.env.scope.names.lookup z=some .cell:=â v;refine⟨js[k],Å Oj,(â q).symm,.inr (.inl v'),λ e=>?_,.inl (by rw [rl];exact â u)⟩
  have e':X.env.scope.names.lookup z=some .local:=e;rw [v'] at e';cases e'
theorem wa {X:Cx}{sc:Scope}{ts:List Str}{z0:Str}{c0:Addr}{j:Nat}{L:List (Str × NameKind)}(OE:closureFor sc X.env=pure [(z0,c0)])(kind:sc.kind=.function)(nc:∀ y∈sc.names,y.2 ≠ .cell)(nm:∀ y∈sc.names,y.2=.local->sc.names.lookup y.1=some .local)(var:∀ x∈ts,sc.names.lookup x=some .local)
  (hc:X.env.cells.lookup z0=some c0) (rl:(relabel sc X.env).names=L) (has:∀ y∈L,(y.2=.cell\/y.2=.free)->y.1=z0) (nd:(ts ++ [z0]).Nodup) (hj:X.N[j]?=some z0) (vis:EM X.env.scope z0) (nl:X.env.kindOf z0≠some .local) (cf:L.lookup z0=some .cell\/L.lookup z0=some .free):cV X sc [(z0,c0)] ts [z0] [j]:=by
 refine⟨OE,kind,(λ C=>jJ nc C _),nm,(λ _ z=>nomatch z),λ z c h=>?_,λ z h=>.inr ?_,nd,λ k z h=>?_,rfl⟩
 ·rw [ň] at h;cases e:z==z0 with
  | true=>rw [e] at h;cases h;rw [Ķ.mp e];exact hc
  | false=>rw [e] at h;cases h
 ·rw [rl] at h;have:z=z0:=by
   rcases h with h | h
   ·exact has _ (ü h) (.inl rfl)
   ·exact has _ (ü h) (.inr rfl)
  subst this;exact⟨c0,jk⟩
 ·match k,h with
  | 0,h =>
   cases (show some z0=some z from h);exact⟨j,rfl,hj,vis,nl,by rw [rl];exact cf⟩
  | k+1,h=>simp at h
theorem eF {X:Cx}{sc:Scope}{ts:List Str}{L:List (Str × NameKind)}(OE:closureFor sc X.env=pure [])(kind:sc.kind=.function)(nc:∀ y∈sc.names,y.2 ≠ .cell)(nm:∀ y∈sc.names,y.2=.local->sc.names.lookup y.1=some .local)(var:∀ x∈ts,sc.names.lookup x=some .local)
  (rl:(relabel sc X.env).names=L) (has:∀ y∈L,¬(y.2=.cell\/y.2=.free)) (nd:(ts ++ []).Nodup):cV X sc [] ts [] [] :=
 mK (M:=[]) OE kind nc nm var rfl rfl rl (λ y h e=>absurd e (has y h)) nd rfl rfl rfl
section
variable {P:Program}{w:World}{K:Frag}{mg:cr}{base:Heap}{C:Nat->Addr}{CR:Addr}
abbrev DV:Stmt:=bw (cP 32) 0
abbrev Ea:Stmt:=bw (cP 32) 1
abbrev Bi:Stmt:=bw (cP 32) 2
abbrev Ec:Stmt:=bw (cP 32) 4
abbrev C9:Stmt:=bw (cP 32) 5
def fU (v1 v2 v3 v4:V)(fs:List (Str × V)):List (Str × V):=cq "parts" v4 (cq "mark" v3 (cq "first_state" v2 (cq "size" v1 fs)))
def jm (C:Nat->Addr):Sp:=λ vs H Q _=>∃ x v1 v2 v3 v4 i dx fs,vs=[.ref x,v1,v2,v3,v4]/\i<5/\H x=some (.ins (C i) dx fs)/\fs.length<=5/\Q .Ă (aj H x (.ins (C i) dx (fU v1 v2 v3 v4 fs)))
theorem E2:ai ["self","size","first_state","mark","parts"] ["self","size","first_state","mark","parts"] (aa DV):=bc
theorem iC (f:Str)(v:V):∀ fs:List (Str × V),(cq f v fs).length<=fs.length+1
 | []=>Æ _
 | (g,x)::r=>by
  have:=iC f v r;show(if g=f then(g,v)::r else(g,x)::cq f v r).length<=_
  split <;> simp only [List.length_cons] <;> omega
theorem Br (Z:KR K C CR)(F:ĵ K "__init__" "Rule.__init__" DV f fd):í P w K mg base aB 1 f fd ["self","size","first_state","mark","parts"] (jm C):=by
 refine bX F E2 λ cdv A outer s H vs Q E hr h=>?_;obtain⟨x,v1,v2,v3,v4,i,dx,fs,rfl,hi,hx,l5,q⟩:=h;refine⟨_,bb (fK (pv 0) (pv 1) rfl) (bb (fK (pv 0) (pv 2) rfl) (bb (fK (pv 0) (pv 3) rfl) (aW (fK (pv 0) (pv 4) rfl)))),?_⟩;have c:=Z.cls i hi;have n:=Z.no i hi;have k1:=iC "size" v1 fs;have k2:=iC "first_state" v2 (cq "size" v1 fs);have k3:=iC "mark" v3 (cq "first_state" v2 (cq "size" v1 fs));refine⟨_,rfl,_,rfl,x,C i,dx,fs,rfl,hx,c,n _ aC,af,?_⟩;refine⟨_,rfl,_,rfl,x,C i,dx,_,rfl,be,c,n _ aC,af,?_⟩;rw [hI];refine⟨_,rfl,_,rfl,x,C i,dx,_,rfl,be,c,n _ aC,af,?_⟩;rw [hI];refine⟨_,rfl,_,rfl,x,C i,dx,_,rfl,be,c,n _ aC,af,?_⟩;rw [hI];exact q
def jx (C:Nat->Addr):Sp:=λ vs H Q _=>∃ v t,vs=[v]/\Ru C H t v/\Q (.int t.Û) H
theorem GF:ai ["self"] ["self"] (aa Ea):=bc
theorem BC (Z:KR K C CR)(F:ĵ K "folk" "Rule.folk" Ea f fd):í P w K mg base aB 1 f fd ["self"] (jx C):=by
 refine bX F GF λ cdv A outer s H vs Q E hr h=>?_;obtain⟨v,t,rfl,ru,q⟩:=h;obtain⟨a,dx,fs,rfl,ha,h1,_⟩:=ru.ob.ex;exact⟨_,aW (cn (og (pv 0) rfl)),_,rfl,a,_,dx,fs,_,rfl,ha,Z.cls _ t.ā,Z.no _ t.ā _ aC,h1,q⟩
def ir (C:Nat->Addr):Sp:=λ vs H Q _=>∃ v t G,vs=[v]/\Ext G H/\Ru C G t v/\∀ b,Ą G b t.begin->Q b H
theorem Gw:ai ["self"] ["self"] (aa Bi):=bc
theorem DM (Z:KR K C CR)(F:ĵ K "begin" "Rule.begin" Bi f fd):í P w K mg base aB 1 f fd ["self"] (ir C):=by
 refine bX F Gw λ cdv A outer s H vs Q E hr h=>?_;obtain⟨v,t,G,rfl,xG,ru,q⟩:=h;obtain⟨a,dx,fs,rfl,ha,_,⟨b,h2,r2⟩,_⟩:=ru.ob.ex;exact⟨_,aW (cn (og (pv 0) rfl)),_,rfl,a,_,dx,fs,_,rfl,xG _ _ ha,Z.cls _ t.ā,Z.no _ t.ā _ aC,h2,q b r2⟩
def jH (C:Nat->Addr):Sp:=λ vs H Q _=>∃ v t G,vs=[v]/\Ext G H/\Ru C G t v/\∀ b,Ą G b t.told->Q b H
theorem Ga:ai ["self"] ["self"] (aa Ec):=bc
theorem A9 (Z:KR K C CR)(F:ĵ K "told" "Rule.told" Ec f fd):í P w K mg base aB 1 f fd ["self"] (jH C):=by
 refine bX F Ga λ cdv A outer s H vs Q E hr h=>?_;obtain⟨v,t,G,rfl,xG,ru,q⟩:=h;obtain⟨a,dx,fs,rfl,ha,_,_,⟨b,h2,r2⟩,_⟩:=ru.ob.ex;exact⟨_,aW (cn (og (pv 0) rfl)),_,rfl,a,_,dx,fs,_,rfl,xG _ _ ha,Z.cls _ t.ā,Z.no _ t.ā _ aC,h2,q b r2⟩
def vH (C:Nat->Addr):Sp:=λ vs H Q _=>∃ v t,vs=[v]/\Ru C H t v/\t.parts.length<=20/\(∀ p∈t.parts,p.length<=20)/\∀(l:Addr)(bs:List Addr)(H':Hp),Ext H H'->H l=none->H' l=some (.lst (bs.map V.ref))->l ∉ bs->(∀ b∈bs,H b=none)->bs.length=t.parts.length->(∀(i:Nat) b p,bs[i]?=some b->t.parts[i]?=some p->H' b=some (.lst (p.map V.int)))->Q (.ref l) H'
theorem Ff:ai ["self"] ["self"] (aa C9):=bc
abbrev CO:Scope:=gr [("part",.local),("list",.globalImplicit)]
theorem EX {X:Cx}:cV X CO [] ["part"] [] [] :=
 eF (L:=[(".0",.local),("part",.local),("list",.globalImplicit)]) rfl rfl aC aC aC rfl aC aC
theorem Lj:((["part"]:List Str)++([]:List Str)).Nodup:=aC
def xF (K:Frag):List V->Hp->VK->Prop:=λ xs H Q=>∃ p ys,xs=[.ref p]/\(Ċ K H p ys\/Ė K H p ys)/\∀ l,H l=none->Q (.ref l) (aj H l (.lst ys))
theorem DZ (Z:KR K C CR)(F:ĵ K "blocks" "Rule.blocks" C9 f fd) (ml:mg "list" = none):í P w K mg base aB 1 f fd ["self"] (vH C):=by
 refine bX F Ff λ cdv A outer s H vs Q E hr h=>?_;obtain⟨v,t,rfl,ru,VD,p20,q⟩:=h;obtain⟨a,dx,fs,rfl,ha,_,_,_,⟨b,h2,r2⟩,_⟩:=ru.ob.ex;refine⟨_,aW (cn (dS (te:=iH (xF K) (ao (ae 0) aF)) (g:=aN 0) rfl EX (gR (og (pv 0) rfl)) (λ s H C fp=>cu Lj rfl (.inl rfl)) (λ s H C fp=>aU c6 rfl ml õ (ac (pv 0) ar)))),?_⟩;obtain⟨p,xs,rfl,hp,rs⟩:=ck r2;have lx:=rs.length;rw [Ä] at lx;refine⟨_,rfl,a,_,dx,fs,_,rfl,ha,Z.cls _ t.ā,Z.no _ t.ā _ aC,h2,p,rfl,⟨_,Ė.of hp⟩,λ D hD=>?_⟩;refine iF (λ i ys H'=>Ext H H'/\∃ bs:List Addr,ys=bs.map .ref/\D ∉ bs/\(∀ b∈bs,H b=none)/\∀(j:Nat) b q,bs[j]?=some b->t.parts[j]?=some q->H' b=some (.lst (q.map .int))) (by rw [Ü];omega) ⟨.new hD,[],rfl,by simp,by simp,by simp⟩ (λ i ys H' pv=>Ė.of (pv.1 _ _ hp)) ?_ ?_
 ·rintro i x ys H' ex ly ś ⟨x',bs,rfl,nD,fr,ct⟩ os Ş R k;obtain⟨o0,rfl⟩:∃ o0,os=[o0]:=by
   match os,Ş with
   | [o0],_=>exact⟨o0,rfl⟩
  have hi:i<t.parts.length:=by have:=(È.mp ex).1;omega
  obtain⟨c,rfl,hc⟩:=jA rs ex (Å hi);refine⟨⟨[some (.ref c)],rfl,rfl⟩,_,rfl,c,_,rfl,.inr (Ė.of (x' _ _ hc)),λ m hm=>?_⟩;have x2:=Ext.new (o:=.lst ((t.parts[i]).map V.int)) hm;have nm:m≠D:=λ e=>by rw [e,ś] at hm;cases hm
  have Qa:H m=none:=by
   cases e:H m with
   | none=>rfl
   | some o=>rw [x' _ _ e] at hm;cases hm
  have Ol:=x2 _ _ ś;have lb:bs.length=i:=by rw [Ä] at ly;exact ly
  refine k _ _ Ol ⟨aV _ (x'.trans x2) hD,bs ++ [m],by rw [Ð];rfl,?_,λ b hb=>?_,λ j b q hb hq=>?_⟩
  ·intro W9;rcases ß.mp W9 with h | h
   ·exact nD h
   ·exact nm (É.mp h).symm
  ·rcases ß.mp hb with h | h
   ·exact fr b h
   ·rw [É.mp h];exact Qa
  ·rcases Ħ j bs.length with lt | ge
   ·rw [ý lt] at hb;have nb:b≠D:=λ e=>nD (e ▸ Ì hb);rw [ad nb];exact x2 _ _ (ct j b q hb hq)
   ·rw [ç ge] at hb;have j0:j=bs.length:=by
     rcases Ħ (j-bs.length) 1 with z | z
     ·omega
     ·rw [Ļ (by simpa using z)] at hb;cases hb
    subst j0;rw [Χ] at hb;cases hb;rw [lb,Å hi] at hq;cases hq;rw [ad nm];exact be
 ·rintro ys H' ly ś ⟨x',bs,rfl,nD,fr,ct⟩;rw [Ä] at ly;exact q D bs H' x' hD ś nD fr af ct
end
theorem cZ:(cq f v fs).lookup g=if g=f then some v else fs.lookup g:=gc f g v fs
section
variable {v1 v2 v3 v4:V}{fs:List (Str × V)}
theorem tq:(fU v1 v2 v3 v4 fs).lookup ("size" : Str)=some v1:=by
 unfold fU;rw [cZ,Ë aC,cZ,Ë aC,cZ,Ë aC,cZ,Ó rfl]
theorem vE:(fU v1 v2 v3 v4 fs).lookup ("first_state" : Str)=some v2:=by
 unfold fU;rw [cZ,Ë aC,cZ,Ë aC,cZ,Ó rfl]
theorem tY:(fU v1 v2 v3 v4 fs).lookup ("mark" : Str)=some v3:=by
 unfold fU;rw [cZ,Ë aC,cZ,Ó rfl]
theorem qu:(fU v1 v2 v3 v4 fs).lookup ("parts" : Str)=some v4:=by
 unfold fU;rw [cZ,Ó rfl]
theorem du {g:Str}(h:g ≠ "size" /\ g ≠ "first_state" /\ g ≠ "mark" /\ g ≠ "parts"):(fU v1 v2 v3 v4 fs).lookup g=fs.lookup g:=by
 unfold fU;rw [cZ,Ë h.2.2.2,cZ,Ë h.2.2.1,cZ,Ë h.2.1,cZ,Ë h.1]
theorem uS {g:Str}(h:g∈gQ):g ≠ "size" /\ g ≠ "first_state" /\ g ≠ "mark" /\ g ≠ "parts" := by
 have:∀ g∈gQ,g ≠ "size" /\ g ≠ "first_state" /\ g ≠ "mark" /\ g ≠ "parts" := aC;exact this g h
theorem AO {g:Str}{ns:List Str}(h:g∈gQ)(hn:∀ n∈fs.map (·.1),n∈eK):fs.lookup g=none:=by
 have nf:∀ g∈gQ,∀ n∈eK,g≠n:=aC;cases e:fs.lookup g with
 | none=>rfl
 | some v =>
  exfalso;have:∀(l:List (Str × V)),l.lookup g=some v->g∈l.map (·.1):=by
   intro l
   induction l with
   | nil=>intro h;cases h
   | cons y l ih =>
    intro h;obtain⟨k,x⟩:=y;rw [ň] at h;cases e:g==k with
    | true=>rw [Ķ.mp e];exact Ö ..
    | false=>rw [e] at h;exact Ï _ (ih h)
  exact nf g h g (hn g (this fs e)) rfl
theorem hX {Cl a dx:Addr}{H:Hp}{fk:Int}{bg tl pt:PyData}{X:List (Str × V)->Prop}(ha:H a=some (.ins Cl dx (fU (.int fk) v2 v3 v4 fs)))(r2:Ą H v2 bg)(r3:Ą H v3 tl)(r4:Ą H v4 pt)(hn:∀ n∈fs.map (·.1),n∈eK)(hx:X (fU (.int fk) v2 v3 v4 fs)):Ob Cl H (.ref a) fk bg tl pt X :=
 ⟨a,dx,_,rfl,ha,tq,⟨_,vE,r2⟩,⟨_,tY,r3⟩,⟨_,qu,r4⟩,λ m hm=>by rw [du (uS hm)];exact AO (ns:=[]) hm hn,hx⟩
end
section
variable {P:Program}{w:World}{K:Frag}{mg:cr}{base:Heap}{C:Nat->Addr}{CR CN CS:Addr}
abbrev Dj:Stmt:=bw (cP 33) 0
abbrev B7:Stmt:=bw (cP 34) 0
abbrev Dc:Stmt:=bw (cP 35) 0
def qJ (C:Nat->Addr)(CN:Addr):Sp:=λ vs H Q E=>∃ x u1 u2 d1 d2 dx,vs=[.ref x,u1,u2]/\H x=some (.ins (C 0) dx [])/\Ą H u1 d1/\Ą H u2 d2/\(pR 1 20 d1=false->iI CN "found" u1 H E)/\(∀ n,d1=.int n->1<=n->n<=20->pR 0 n d2=false->iI CN "found" u2 H E) /\
 ∀ n k,d1=.int n->d2=.int k->(R0.split n k).ok->∀ H',Kept H H' x->MV C H' (.split n k) (.ref x)->Q .Ă H'
theorem HN:ai ["self","folk","ones"] ["self","folk","ones"] (aa Dj):=bc
variable {S g a1 a2 a3:Addr}{gd d1 d2 d3:FuncData}{t:Tok}
theorem AS (F:ĵ K "__init__" "Split.__init__" Dj f fd) (Cf:jR K S "__init__" g) (G:í P w K mg base aB 1 g gd ["self","size","first_state","mark","parts"] (jm C)) (bG:Binds K gd ["self","size","first_state","mark","parts"] []) (mS:mg "Rule" = some (.ref S))
  (A1:Df P w K mg base (i5 P w) 3 "need_number" ["thing","low","high"] (wM CN) a1 d1) (A2:Df P w K mg base aB 1 "one_part" ["folk"] yT a2 d2) (mF:mg "MOST_FOLK" = some (.int 20 t)):í P w K mg base (i5 P w) 4 f fd ["self","folk","ones"] (qJ C CN):=by
 refine qD F HN λ cdv A outer s H vs Q E hr h=>?_;obtain⟨x,u1,u2,e1,e2,dx,rfl,hx,r1,r2,q1,q2,q⟩:=h;have Ŧ:ć 1 _:=hr.mono ax;refine⟨_,bb (aR (bZ A1 hr i6 (ac (pv 1) (ac ay (ac (bI (v:=.int 20) rfl mF ⟨_,rfl⟩) ar))))) (bb (aR (bZ A1 hr i6 (ac (pv 2) (ac ay (ac (pv 1) ar)))))
  (aW (aR (eI Cf G Ŧ rfl mS bG .nil ag (ac (pv 0) (ac (pv 1) (ac (pv 2) (ac (aP (ac fD (ac (pv 1) (ac (pv 2) ar)))) (ac (bZ A2 Ŧ ag (ac (pv 1) ar)) ar))))))))),?_⟩
 refine⟨_,rfl,u1,e1,1,20,rfl,r1,λ h1=>?_,λ h1=>q1 h1⟩;obtain⟨n,rfl,n1,Sj⟩:=gF h1;cases r1;refine⟨_,rfl,_,rfl,u2,e2,0,n,rfl,r2,λ h2=>?_,λ h2=>q2 n rfl n1 Sj h2⟩;obtain⟨k,rfl,k0,kn⟩:=gF h2;cases r2;refine⟨_,rfl,_,rfl,_,rfl,_,rfl,_,rfl,cK,λ m hm=>⟨_,rfl,n,rfl,af,Sj,λ l H2 x2 rl=>?_⟩⟩;have xm:=Ext.new (o:=.tup [.str "split",.int n,.int k]) hm;have l_:=xm.trans x2;have QM:=x2 _ _ (show aj H m (.tup [.str "split",.int n,.int k]) m=_ from be);have Pe:=l_ _ _ hx;refine⟨x,_,_,_,_,0,dx,[],rfl,ax,Pe,ax,q n k rfl rfl ⟨n1,Sj,k0,kn⟩ _ ((l_.kept x).trans (bK _)) ?_⟩;have kk:Kept H2 (aj H2 x (.ins (C 0) dx (fU (.int n) (.int k) (.ref m) (.ref l) []))) x:=bK _;exact hX be (.int _) ((Ą.tup QM (.cons (.str _) (.cons (.int _) (.cons (.int _) .nil)))).kept Pe kk) (rl.kept Pe kk) (by simp) trivial
def qP (C:Nat->Addr)(CN CS:Addr):Sp:=λ vs H Q E=>∃ x u1 u2 d1 d2 dx,vs=[.ref x,u1,u2]/\H x=some (.ins (C 1) dx [])/\Ą H u1 d1/\Ą H u2 d2/\(pR 1 10 d1=false->iI CN "found" u1 H E)/\(pR 1 10 d1=true->dF d2=false->iI CS "found" u2 H E) /\
 ∀ n a b,d1=.int n->d2=.tuple [.int a,.int b]->(R0.pairs n a b).ok->∀ H',Kept H H' x->MV C H' (.pairs n a b) (.ref x)->Q .Ă H'
theorem G7:ai ["self","pairs","coin"] ["self","pairs","coin"] (aa B7):=bc
theorem jP (h:dF d=true):∃ a b,d=.tuple [.int a,.int b]:=by
 match d,h with
 | .tuple [.int a,.int b],_=>exact⟨a,b,rfl⟩
theorem C7 (Z:KR K C CR)(F:ĵ K "__init__" "Pairs.__init__" B7 f fd) (Cf:jR K S "__init__" g) (G:í P w K mg base aB 1 g gd ["self","size","first_state","mark","parts"] (jm C)) (bG:Binds K gd ["self","size","first_state","mark","parts"] []) (mS:mg "Rule" = some (.ref S))
  (A1:Df P w K mg base (i5 P w) 3 "need_number" ["thing","low","high"] (wM CN) a1 d1) (A2:Df P w K mg base aB 1 "one_part" ["folk"] yT a2 d2) (A3:Df P w K mg base (i5 P w) 5 "need_coin" ["thing"] (BW CS) a3 d3) (mF:mg "MOST_PAIRS" = some (.int 10 t)):í P w K mg base (i5 P w) 6 f fd ["self","pairs","coin"] (qP C CN CS):=by
 refine qD F G7 λ cdv A outer s H vs Q E hr h=>?_;obtain⟨x,u1,u2,e1,e2,dx,rfl,hx,r1,r2,q1,q2,q⟩:=h;have Ŧ:ć 1 _:=hr.mono ax;have Qr:ć 3 _:=hr.mono ax;refine⟨_,bb (aR (bZ A1 Qr i6 (ac (pv 1) (ac ay (ac (bI (v:=.int 10) rfl mF ⟨_,rfl⟩) ar))))) (bb (aR (bZ A3 hr i6 (ac (pv 2) ar))) (bb (fK (pv 0) (pv 2) rfl)
  (aW (aR (eI Cf G Ŧ rfl mS bG .nil ag (ac (pv 0) (ac (ak cY ay (pv 1)) (ac gv (ac (aP (ac fD (ac (pv 1) (ac (pv 2) ar)))) (ac (bZ A2 Ŧ ag (ac (ak cY ay (pv 1)) ar)) ar)))))))))),?_⟩
 refine⟨_,rfl,u1,e1,1,10,rfl,r1,λ h1=>?_,λ h1=>q1 h1⟩;refine⟨_,rfl,u2,e2,rfl,r2,λ h2=>?_,λ h2=>q2 h1 h2⟩;obtain⟨n,rfl,n1,n10⟩:=gF h1;obtain⟨a,b,rfl⟩:=jP h2;cases r1;refine⟨_,rfl,_,rfl,x,C 1,dx,[],rfl,hx,Z.cls 1 ax,Z.no 1 ax _ aC,ax,?_⟩;have k1:Kept H (aj H x (.ins (C 1) dx (cq "coin" u2 []))) x:=bK _;have T8:=r2.kept hx k1;have OW:aj H x (.ins (C 1) dx (cq "coin" u2 [])) x=some (.ins (C 1) dx [("coin",u2)]):=be;generalize aj H x (.ins (C 1) dx (cq "coin" u2 []))=H1 at k1 T8 OW ⊢;have cm:NW 2 n:=.inl ⟨ax,ax⟩;refine⟨_,rfl,_,rfl,_,_,rfl,rfl,cm,_,rfl,_,rfl,cK,λ m hm=>⟨_,rfl,_,_,rfl,rfl,cm,2*n,rfl,af,af,λ l H2 x2 rl=>?_⟩⟩;have xm:=Ext.new (o:=.tup [.str "pairs",.int n,u2]) hm;have l_:=xm.trans x2;have QM:=x2 _ _ (show aj H1 m (.tup [.str "pairs",.int n,u2]) m=_ from be);have Pe:=l_ _ _ OW;have T6:=T8.mono l_;refine⟨x,_,_,_,_,1,dx,[("coin",u2)],rfl,ax,Pe,(by show 1<=5;decide),q n a b rfl rfl ⟨n1,n10,h2⟩ _ ((k1.trans (l_.kept x)).trans (bK _)) ?_⟩
 have kk:Kept H2 (aj H2 x (.ins (C 1) dx (fU (.int (2*n)) .Ă (.ref m) (.ref l) [("coin",u2)]))) x:=bK _;refine hX be .Ă ((Ą.tup QM (.cons (.str _) (.cons (.int _) (.cons T6 .nil)))).kept Pe kk) (rl.kept Pe kk) (λ n hn=>?_) ⟨u2,?_,T6.kept Pe kk⟩
 ·have e:n = "coin" := by simpa using hn
  rw [e]
  decide +kernel
 ·rw [du aC];rfl
def qQ (C:Nat->Addr)(CN CS:Addr):Sp:=λ vs H Q E=>∃ x u1 u2 u3 d1 d2 d3 dx,vs=[.ref x,u1,u2,u3]/\H x=some (.ins (C 2) dx [])/\Ą H u1 d1/\Ą H u2 d2/\Ą H u3 d3/\(pR 1 20 d1=false->iI CN "found" u1 H E)/\(pR 1 20 d1=true->dF d2=false->iI CS "found" u2 H E)/\(pR 1 20 d1=true->dF d2=true->pR 1 20 d3=false->iI CN "found" u3 H E) /\
 ∀ n a b f,d1=.int n->d2=.tuple [.int a,.int b]->d3=.int f->(R0.ę n a b f).ok->∀ H',Kept H H' x->MV C H' (.ę n a b f) (.ref x)->Q .Ă H'
theorem EI:ai ["self","folk","coin","far"] ["self","folk","coin","far"] (aa Dc):=bc
theorem Cj (Z:KR K C CR)(F:ĵ K "__init__" "Coins.__init__" Dc f fd) (Cf:jR K S "__init__" g) (G:í P w K mg base aB 1 g gd ["self","size","first_state","mark","parts"] (jm C)) (bG:Binds K gd ["self","size","first_state","mark","parts"] []) (mS:mg "Rule" = some (.ref S))
  (A1:Df P w K mg base (i5 P w) 3 "need_number" ["thing","low","high"] (wM CN) a1 d1) (A2:Df P w K mg base aB 1 "one_part" ["folk"] yT a2 d2) (A3:Df P w K mg base (i5 P w) 5 "need_coin" ["thing"] (BW CS) a3 d3) (mF:mg "MOST_FOLK" = some (.int 20 t)) (mR:mg "MOST_FAR" = some (.int 20 t2)):í P w K mg base (i5 P w) 6 f fd ["self","folk","coin","far"] (qQ C CN CS):=by
 refine qD F EI λ cdv A outer s H vs Q E hr h=>?_;obtain⟨x,u1,u2,u3,e1,e2,e3,dx,rfl,hx,r1,r2,r3,q1,q2,q3,q⟩:=h;have Ŧ:ć 1 _:=hr.mono ax;have Qr:ć 3 _:=hr.mono ax;refine⟨_,bb (aR (bZ A1 Qr i6 (ac (pv 1) (ac ay (ac (bI (v:=.int 20) rfl mF ⟨_,rfl⟩) ar))))) (bb (aR (bZ A3 hr i6 (ac (pv 2) ar))) (bb (aR (bZ A1 Qr i6 (ac (pv 3) (ac ay (ac (bI (v:=.int 20) rfl mR ⟨_,rfl⟩) ar)))))
  (bb (fK (pv 0) (pv 2) rfl) (bb (fK (pv 0) (pv 3) rfl)
  (aW (aR (eI Cf G Ŧ rfl mS bG .nil ag (ac (pv 0) (ac (pv 1) (ac ay (ac (aP (ac fD (ac (pv 1) (ac (pv 2) (ac (pv 3) ar))))) (ac (bZ A2 Ŧ ag (ac (pv 1) ar)) ar)))))))))))),?_⟩
 refine⟨_,rfl,u1,e1,1,20,rfl,r1,λ h1=>?_,λ h1=>q1 h1⟩;refine⟨_,rfl,u2,e2,rfl,r2,λ h2=>?_,λ h2=>q2 h1 h2⟩;refine⟨_,rfl,u3,e3,1,20,rfl,r3,λ h3=>?_,λ h3=>q3 h1 h2 h3⟩;obtain⟨n,rfl,n1,Sj⟩:=gF h1;obtain⟨a,b,rfl⟩:=jP h2;obtain⟨k,rfl,k1',k20⟩:=gF h3;cases r1;cases r3;refine⟨_,rfl,_,rfl,x,C 2,dx,[],rfl,hx,Z.cls 2 ax,Z.no 2 ax _ aC,ax,?_⟩;have k1:Kept H (aj H x (.ins (C 2) dx (cq "coin" u2 []))) x:=bK _;have T8:=r2.kept hx k1;have OW:aj H x (.ins (C 2) dx (cq "coin" u2 [])) x=some (.ins (C 2) dx [("coin",u2)]):=be;generalize aj H x (.ins (C 2) dx (cq "coin" u2 []))=H1 at k1 T8 OW ⊢;refine⟨_,rfl,_,rfl,x,C 2,dx,[("coin",u2)],rfl,OW,Z.cls 2 ax,Z.no 2 ax _ aC,(by show 1<1000;decide),?_⟩
 have ef:cq "far" (.int k) [(("coin" : Str),u2)]=[(("coin" : Str),u2),(("far" : Str),.int k)]:=by
  show(if("coin" : Str) = "far" then _ else _)=_
  rw [Ë aC];rfl
 rw [ef];have kf:Kept H1 (aj H1 x (.ins (C 2) dx [("coin",u2),("far",.int k)])) x:=bK _;have T7:=T8.kept OW kf;have UD:aj H1 x (.ins (C 2) dx [("coin",u2),("far",.int k)]) x=some (.ins (C 2) dx [("coin",u2),("far",.int k)]):=be;generalize aj H1 x (.ins (C 2) dx [("coin",u2),("far",.int k)])=XR at kf T7 UD ⊢;refine⟨_,rfl,_,rfl,_,rfl,_,rfl,_,rfl,cK,λ m hm=>⟨_,rfl,n,rfl,af,Sj,λ l H2 x2 rl=>?_⟩⟩;have xm:=Ext.new (o:=.tup [.str "coins",.int n,u2,.int k]) hm;have l_:=xm.trans x2;have QM:=x2 _ _ (show aj XR m (.tup [.str "coins",.int n,u2,.int k]) m=_ from be);have Pe:=l_ _ _ UD;have T6:=T7.mono l_;refine⟨x,_,_,_,_,2,dx,[("coin",u2),("far",.int k)],rfl,ax,Pe,(by show 2<=5;decide),q n a b k rfl rfl rfl ⟨n1,Sj,h2,k1',k20⟩ _ (((k1.trans kf).trans (l_.kept x)).trans (bK _)) ?_⟩
 have kk:Kept H2 (aj H2 x (.ins (C 2) dx (fU (.int n) (.int 0) (.ref m) (.ref l) [("coin",u2),("far",.int k)]))) x:=bK _;refine hX be (.int _) ((Ą.tup QM (.cons (.str _) (.cons (.int _) (.cons T6 (.cons (.int _) .nil))))).kept Pe kk) (rl.kept Pe kk) (λ n hn=>?_) ⟨⟨u2,?_,T6.kept Pe kk⟩,?_⟩
 ·have e:n = "coin" \/ n = "far" := by simpa using hn
  rcases e with e | e <;> rw [e] <;> decide +kernel
 ·rw [du aC];rfl
 ·rw [du aC];rfl
end
theorem zS:Ext (wo H p) (wo (aj H p o) p):=λ b u e=>by
 have n:=GS e;exact gM n (by rw [ad n];exact mV H p _ _ e)
theorem Ext.kp (e:Ext G H)(n:G x=none)(k:Kept H H' x):Ext G H':=λ b o h=>k b o (e b o h) λ z=>by rw [z,n] at h;cases h
section
variable {X:Cx}
def GD:List V->Hp->VK->Prop:=λ vs H Q=>∃ i j:Int,vs=[.int i,.int j]/\∀ r,H r=none->Q (.ref r) (aj H r (.Ps i j))
theorem tH:cU X (.type "range") GD:=by
 intro Ã s σ H xs us Q I r h;obtain⟨i,j,rfl,q⟩:=h;obtain⟨u,v,rfl,⟨t,rfl⟩,t',rfl⟩:=ip r;refine call_range_2 ⟨.ref s.heap.objs.size,_,I.laid (λ b o e=>Â _ e) (Æ _) ?_,rfl,q _ (I.Č.fresh (Æ _))⟩;exact⟨_,_,_,Î _ rfl⟩
end
section
variable {X:Cx}{Ã:List (Addr × Obj)}{σ:St}{H:Hp}{s:Shared}{A:Around}{Q:eE}{E:eE}{b:Bool}{tp:Addr}{dd:Option Addr}{its:List Value}{n:Nat}{sl:Array (Option Value)}
theorem jF (I:Inv X Ã σ H s)(rx:RelV x u)(ty:ŭ X.K H x t)(Pf:s.heap.get? tp=some ⟨.type "tuple",dd,.seq its.toArray n,sl⟩) (e:PySem.W.kitAny X.K t its=some b) (h:∀ tk,Q (.bool b) { s with toks:=tk }) :
  wpAny (model X.prog X.w) A (call (.builtin "isinstance") [u,.ref tp]) Q E s:=by
 cases ty with
 | Ă=>cases (show u=.none from rx);exact Ĝ PySem.W.kitx_none I.Š True.intro Pf e (λ z=>nomatch z) h
 | bl y=>cases (show u=Value.bool y from rx);exact Ĝ PySem.W.kitx_bool I.Š True.intro Pf e (λ z=>nomatch z) h
 | int i=>obtain⟨t,q⟩:=(show ∃ t,u=.int i t from rx);cases q;exact Ĝ PySem.W.kitx_int I.Š True.intro Pf e (λ z=>nomatch z) h
 | str y=>obtain⟨t,q⟩:=(show ∃ t,u=.str y t from rx);cases q;exact Ĝ PySem.W.kitx_str I.Š True.intro Pf e (λ z=>nomatch z) h
 | Qh y=>obtain⟨t,q⟩:=(show ∃ t,u=Value.float y t from rx);cases q;exact Ĝ PySem.W.kitx_float I.Š True.intro Pf e (λ z=>nomatch z) h
 | @lst a xs ea =>
  cases (show u=.ref a from rx);obtain⟨_,_,n,_,h1⟩:=(show ă X.prog X.w H s.heap a (.lst xs) from I.Č a _ ea);exact Ĝ c_ I.Š ⟨_,h1,rfl⟩ Pf e (λ z=>nomatch z) h
 | @Ŭ a ob xs ea =>
  cases (show u=.ref a from rx);obtain⟨_,_,_,n,_,h1⟩:=(show ă X.prog X.w H s.heap a (.Ŭ ob (.lst xs)) from I.Č a _ ea);exact Ĝ c_ I.Š ⟨_,h1,rfl⟩ Pf e (λ z=>nomatch z) h
 | @tup a xs ea =>
  cases (show u=.ref a from rx);obtain⟨_,_,_,p⟩:=(show ă X.prog X.w H s.heap a (.tup xs) from I.Č a _ ea);obtain⟨o,h1,h2,_⟩:=p;exact Ĝ PySem.W.kitx_tuple I.Š ⟨o,h1,h2⟩ Pf e (λ z=>nomatch z) h
 | @dK a ï ea =>
  cases (show u=.ref a from rx);obtain⟨_,_,vs,_,p⟩:=(show ă X.prog X.w H s.heap a (.dK ï) from I.Č a _ ea);obtain⟨o,es,ep,h1,h2,_⟩:=p;exact Ĝ d_ I.Š ⟨o,h1,h2.1⟩ Pf e (λ z=>nomatch z) h
 | @dT a ï ea =>
  cases (show u=.ref a from rx);obtain⟨_,_,xs,_,o,es,ep,h1,h2,_⟩:=(show ă X.prog X.w H s.heap a (.dT ï) from I.Č a _ ea);exact Ĝ d_ I.Š ⟨o,h1,h2.1⟩ Pf e (λ z=>nomatch z) h
 | @ins a C dx fs ea cl ha hn OX hm =>
  cases (show u=.ref a from rx);obtain⟨mA,O,_⟩:=ic I.Č ea;obtain⟨od,J,_⟩:=O.look;exact Ĝ (PySem.W.kitx_own (cl.get _) cl.hd ha hn OX hm) I.Š J Pf e (λ z=>nomatch z) h
end
section
variable {X:Cx}
def EL (K:Frag):List V->Hp->VK->Prop:=λ vs H Q=>∃(x:V)(p:Addr)(cs:List Addr)(t:Value)(b:Bool),vs=[x,.ref p]/\ŭ K H x t/\H p=some (.tup (cs.map V.ref))/\kitAny K t (cs.map Value.ref)=some b/\Q (.bl b) H
theorem tT:cU X (.builtin "isinstance") (EL X.K):=by
 intro Ã s σ H xs us Q I r h;obtain⟨x,p,cs,t,b,rfl,ty,hp,e,q⟩:=h;obtain⟨u,u',rfl,ru,P0⟩:=ip r;cases (show u'=.ref p from P0);obtain⟨_,its,rv,⟨o,h1,h2,n,h3⟩⟩:=(show ă X.prog X.w H s.heap p (.tup (cs.map .ref)) from I.Č p _ hp);have ei:=lJ rv;subst ei;obtain⟨c0,d0,dt0,sl0⟩:=o;have Xr:=h2;have UW:=h3;subst Xr;subst UW;exact jF I ru ty h1 e λ tk=>⟨.bl b,H,I.tok _,rfl,q⟩
end
def Po (K:Frag)(C:Nat->Addr)(H:Hp)(v:V)(b:Bool):Prop:=∃ t,ŭ K H v t/\kitAny K t [.ref (C 0),.ref (C 1),.ref (C 2)]=some b
theorem Po.ext (h:Po K C H v b)(x:Ext H H'):Po K C H' v b:=by
 obtain⟨t,k,e⟩:=h;exact⟨t,My.ŭ.ext k x,e⟩
theorem yy (h1:kitOne K t a=some x)(h2:kitOne K t b=some y)(h3:kitOne K t c=some z):kitAny K t [a,b,c]=some (x||(y||z)):=by
 cases x <;> cases y <;> cases z <;> simp [kitAny,h1,h2,h3]
theorem Ob.ty {CR:Addr}(Z:KR K C CR)(hi:i<5)(h:Ob (C i) H v fk bg tl pt X):ŭ K H v (.ref (C i)):=by
 obtain⟨a,dx,fs,rfl,ha,_⟩:=h.ex;exact .ins ha (Z.cls i hi) (Z.ha i hi) Z.hn Z.OX (Z.hm i hi)
theorem wH {CR:Addr}(Z:KR K C CR)(h:Ru C H t v):Po K C H v (t.kind==0||(t.kind==1||t.kind==2)) :=
 ⟨_,h.ob.ty Z t.ā,yy (Z.kk _ 0 t.ā ax) (Z.kk _ 1 t.ā ax) (Z.kk _ 2 t.ā ax)⟩
theorem Ln {J:It}{tt:TT}{Q:Hp->Prop}{xs:List V}(p:V->Bool)(hz:xs.length<sizeLine)(hD:H1 D=none)(go:∀ i H,Ext H1 H->i<xs.length->J.go i H)(st:∀ H,Ext H1 H->J.stop xs.length H)(yl:∀ i H x H',Ext H1 H->J.ο i H x H'->H'=H/\xs[i]?=some x)
  (hs:∀(i:Nat) x H,xs[i]?=some x->Ext H1 H->∀ R:Bool->Hp->Prop,(∀ H',Ext H H'->R (p x) H')->tt (some x :: ų) H R) (hd:∀ H,Ext H1 H->H D=some (.lst (xs.filter p))->Q H) :
  ∃ W:Nat->Nat->List V->Hp->Prop,(∃ m,W 0 m [] (aj H1 D (.lst []))) /\
   ∀ i m ys H2,W i m ys H2->H2 D=some (.lst ys)/\((J.stop i H2/\Q H2)\/(J.go i H2/\ys.length<sizeLine /\
    ∀ x H3,J.ο i H2 x H3->∀ os:St,os.length=1->aN 0 x (os ++ ų) H3 λ Ĩ H0=>(∃ ı:St,ı.length=1/\Ĩ = ı ++ ų)/\tt Ĩ H0 λ b H5=>(b=false->∃ m',m'<m/\W (i+1) m' ys H5) /\
     (b=true->ae 0 Ĩ H5 λ y H4=>H4 D=some (.lst ys)/\∃ m',m'<m/\W (i+1) m' (ys ++ [y]) (aj H4 D (.lst (ys ++ [y])))))):=by
 refine⟨λ i m ys H=>m=xs.length-i/\i<=xs.length/\H D=some (.lst ys)/\ys=(xs.take i).filter p/\Ext H1 H,⟨xs.length,by simp,Nat.zero_le _,be,rfl,.new hD⟩,?_⟩
 rintro i m ys H ⟨rfl,hi,k_,rfl,x1⟩;refine⟨k_,?_⟩;by_cases ř:i<xs.length
 ·refine .inr ⟨go i H x1 ř,?_,λ x H' hyl os Ş=>?_⟩
  ·have:=Ź p (xs.take i);rw [ò] at this;omega
  obtain⟨rfl,hx⟩:=yl i H x H' x1 hyl;obtain⟨o0,rfl⟩:∃ o0,os=[o0]:=by
   match os,Ş with
   | [o0],_=>exact⟨o0,rfl⟩
  refine⟨⟨[some x],rfl,rfl⟩,hs i x H' hx x1 _ λ H5 x5=>⟨λ e=>?_,λ e=>?_⟩⟩
  ·refine⟨xs.length-(i+1),af,rfl,ř,x5 _ _ k_,?_,x1.trans x5⟩;rw [aM hx,ν,Ŋ (by rw [e];decide),Κ,Ī]
  ·refine⟨x,rfl,x5 _ _ k_,xs.length-(i+1),af,rfl,ř,be,?_,aV _ (x1.trans x5) hD⟩;rw [aM hx,ν,ŉ e,Κ]
 ·have e:i=xs.length:=af;subst e;refine .inl ⟨st H x1,hd H x1 ?_⟩;rw [á] at k_;exact k_
theorem f9 (p:Int->Bool)(pv:V->Bool)(h:∀ i,pv (.int i)=p i):∀ ns:List Int,(ns.map V.int).filter pv=(ns.filter p).map V.int
 | []=>rfl
 | n::ns=>by
  rw [Ú];cases e:p n with
  | true=>rw [ŉ (by rw [h];exact e),ŉ e,f9 p pv h ns];rfl
  | false=>rw [Ŋ (by rw [h,e];decide),Ŋ (by rw [e];decide),f9 p pv h ns]
theorem Ý.filter {α:Type}{f:α->PyData}{p:α->Bool}{pv:V->Bool}:∀{ys:List V}{qs:List α},Ý G ys (qs.map f)->(∀(i:Nat) y q,ys[i]?=some y->qs[i]?=some q->pv y=p q)->Ý G (ys.filter pv) ((qs.filter p).map f)
 | [],[],_,_=>.nil
 | [],_::_,h,_=>by cases h
 | _::_,[],h,_=>by cases h
 | y::ys,q::qs,h,k=>by
  cases h with
  | cons r t =>
   have e0:=k 0 y q rfl rfl;have ih:=Ý.filter t λ i y' q' a b=>k (i+1) y' q' a b;cases e:p q with
   | true=>rw [ŉ (by rw [e0];exact e),ŉ e];exact .cons r ih
   | false=>rw [Ŋ (by rw [e0,e];decide),Ŋ (by rw [e];decide)];exact ih
def Sm (ps:List (List Int)):Prop:=ps.length<=20/\∀ p∈ps,p.length<=20
theorem pj:∀(ns:List Int)(s:Int),(fA s ns).length=ns.length
 | [],_=>rfl
 | n::ns,s=>by show(fA (s+n) ns).length+1=_;rw [pj ns];rfl
theorem nR:∀(ns:List Int)(s:Int),(∀ n∈ns,n<=20)->∀ p∈fA s ns,p.length<=20
 | [],_,_,_,h=>by cases h
 | n::ns,s,hn,p,h=>by
  rcases é.mp h with rfl | h
  ·have:=hn n (Ö ..);unfold jc;simp only [List.length_map,List.length_range];omega
  ·exact nR ns _ (λ m hm=>hn m (Ï _ hm)) p h
theorem Sm.cut (m:Int)(h:Sm ps):Sm (Dr m ps):=by
 refine⟨Í (Ź _ _) (by rw [Ä];exact h.1),λ p hp=>?_⟩
 obtain⟨q,hq,rfl⟩:=æ.mp (O9.mp hp).1;exact Í (Ź _ _) (h.2 q hq)
theorem Rl.sm:∀{t:Rl},t.ok->Sm t.parts
 | .one r,h=>by
  have:=R0.Į h;refine⟨by show 1<=20;decide,λ p hp=>?_⟩
  rw [É.mp hp];unfold jc;simp only [List.length_map,List.length_range];omega
 | .blocks rs,h=>by
  obtain⟨h1,h6,ok,Yd⟩:=h;refine⟨by show(fA 0 (rs.map R0.Û)).length<=20;rw [pj,Ä];omega,nR _ _ λ n hn=>?_⟩
  obtain⟨r,hr,rfl⟩:=æ.mp hn;exact(R0.Į (ok r hr)).2
 | .first t m,h=>(Rl.sm h.1).cut m
theorem n6 (n:Int):∀(ns:List Int)(s:Int),fA s (ns ++ [n])=fA s ns ++ [jc (s+ns.sum) n.toNat]
 | [],s=>by simp [fA]
 | m::ns,s=>by
  show jc s m.toNat::fA (s+m) (ns ++ [n])=_;rw [n6 n ns (s+m),š,Int.add_assoc];rfl
structure Ms (P:Program)(w:World)(K:Frag)(mg:cr)(base:Heap)(C:Nat->Addr):Prop where
 Û:cG P w K mg base aB 1 "folk" ["self"] (nI C) (λ _=>jx C)
 begin:cG P w K mg base aB 1 "begin" ["self"] (nI C) (λ _=>ir C)
 told:cG P w K mg base aB 1 "told" ["self"] (nI C) (λ _=>jH C)
 blocks:cG P w K mg base aB 1 "blocks" ["self"] (nI C) (λ _=>vH C)
section
variable {P:Program}{w:World}{K:Frag}{mg:cr}{base:Heap}{C:Nat->Addr}{CR:Addr}
abbrev BY:Stmt:=cP 36
def zF (K:Frag)(C:Nat->Addr):Sp:=λ vs H Q _=>∃ v b,vs=[v]/\Po K C H v b/\∀ H',Ext H H'->Q (.bl b) H'
theorem Hz:ai ["thing"] ["thing"] (aa BY):=bc
theorem D7 (F:ĵ K "may_be_block" "may_be_block" BY f fd) (m0:mg "Split" = some (.ref (C 0))) (m1:mg "Pairs" = some (.ref (C 1))) (m2:mg "Coins" = some (.ref (C 2))) (mi:mg "isinstance" = none):í P w K mg base aB 1 f fd ["thing"] (zF K C):=by
 refine bX F Hz λ cdv A outer s H vs Q E hr h=>?_;obtain⟨v,b,rfl,bk,q⟩:=h;refine⟨_,aW (cn (am tT rfl mi Ê (ac (pv 0) (ac (aP (ac (bI (v:=.ref (C 0)) rfl m0 rfl) (ac (bI (v:=.ref (C 1)) rfl m1 rfl) (ac (bI (v:=.ref (C 2)) rfl m2 rfl) ar)))) ar)))),?_⟩;refine⟨_,rfl,cK,λ p hp=>?_⟩;have x1:=Ext.new (o:=.tup [.ref (C 0),.ref (C 1),.ref (C 2)]) hp;obtain⟨t,ty,ka⟩:=bk.ext x1;exact⟨v,p,[C 0,C 1,C 2],t,b,rfl,ty,be,ka,q _ x1⟩
abbrev Jl:Stmt:=cP 37
def qG (K:Frag)(C:Nat->Addr)(H:Hp)(xs:List V)(bs:List Bool):Prop:=xs.length=bs.length/\∀(i:Nat) x b,xs[i]?=some x->bs[i]?=some b->Po K C H x b
def GI (n:Nat)(bs:List Bool):Bool:=(decide (1<=n)&&decide (n<=6))&&bs.all id
def HM (K:Frag)(C:Nat->Addr):Sp:=λ vs H Q _=>∃ v,vs=[v]/\((U8 K H v "list" /\ ∀ H',Ext H H'->Q (.bl false) H')\/∃ a xs bs,v=.ref a/\H a=some (.lst xs)/\xs.length<1000/\qG K C H xs bs/\∀ H',Ext H H'->Q (.bl (GI xs.length bs)) H')
theorem JA:ai ["thing"] ["thing"] (aa Jl):=bc
abbrev G1:Scope:=gr [("rule",.local),("may_be_block",.globalImplicit)]
theorem Ar {X:Cx}:cV X G1 [] ["rule"] [] [] :=
 eF (L:=[(".0",.local),("rule",.local),("may_be_block",.globalImplicit)]) rfl rfl aC aC aC rfl aC aC
theorem Do:((["rule"]:List Str)++([]:List Str)).Nodup:=aC
theorem HD (N:pA K)(F:ĵ K "are_block_rules" "are_block_rules" Jl f fd) (A1:Df P w K mg base aB 1 "may_be_block" ["thing"] (zF K C) a1 d1) (A2:Df P w K mg base aB 2 "is_whole" ["thing","low","high"] (gZ K) a2 d2) (mR:mg "MOST_RULES" = some (.int 6 t))
  (mi:mg "isinstance" = none) (ml:mg "list" = none) (mn:mg "len" = none) (ma:mg "all" = none):í P w K mg base aB 3 f fd ["thing"] (HM K C):=by
 refine bX F JA λ cdv A outer s H vs Q E hr h=>?_;obtain⟨v,rfl,h⟩:=h;have Ŧ:ć 1 _:=hr.mono ax;refine⟨_,bb (aJ (PW.pt (fY (cw (bz (am (aX N) rfl mi Ê (ac (pv 0) (ac (ce rfl ml õ) ar))))) (eQ (cw (bz (bZ A2 hr ag (ac (am aO rfl mn ö (ac (pv 0) ar)) (ac ay (ac (bI (v:=.int 6) rfl mR ⟨_,rfl⟩) ar))))))))) (aW (cn pX)) cT)
  (aW (cn (am (jT rfl) rfl ma K' (ac (dS (g:=aN 0) rfl Ar (bJ (pv 0)) (λ s H C fp=>cu Do rfl (.inl rfl)) (λ s H C fp=>bZ A1 Ŧ ag (ac (pv 0) ar))) ar)))),?_⟩
 rcases h with⟨⟨t,kd,kt⟩,q⟩ | ⟨a,xs,bs,rfl,ha,Yy,⟨lb,bk⟩,q⟩
 ·exact⟨_,rfl,_,_,_,_,rfl,kd,kt,_,rfl,fV (fV (q H (.refl _)))⟩
 refine⟨_,rfl,_,_,_,_,rfl,.inl (.lst ha),rfl,_,rfl,dj ?_⟩;refine⟨_,rfl,a,xs,rfl,.inl (Ċ.of ha),_,1,6,rfl,.inl ⟨_,rfl⟩,_,rfl,?_⟩;have ei:Pu 1 6 (.int (xs.length:Nat))=(decide (1<=xs.length)&&decide (xs.length<=6)):=by
  show(decide ((1:Int)<=(xs.length:Nat))&&decide (((xs.length:Nat):Int)<=6))=_
  congr 1 <;> exact ĳ.mpr af
 rw [ei];unfold GI at q;cases e:decide (1<=xs.length)&&decide (xs.length<=6) with
 | false =>
  rw [e,MH] at q;exact fV (q H (.refl _))
 | true =>
  rw [e,j_] at q;refine dj ⟨_,rfl,a,rfl,⟨_,Ċ.of ha⟩,λ D hD=>?_⟩;refine fu (λ i ys H'=>Ext H H'/\ys=(bs.take i).map .bl) (by rw [Ü];omega) ⟨.new hD,rfl⟩ (λ i ys H' pv=>Ċ.of (pv.1 _ _ ha)) ?_ ?_
  ·rintro i x ys H' ex ly ś ⟨x',rfl⟩ os Ş R k;obtain⟨o0,rfl⟩:∃ o0,os=[o0]:=by
    match os,Ş with
    | [o0],_=>exact⟨o0,rfl⟩
   have hi:i<bs.length:=by have:=(È.mp ex).1;omega
   refine⟨⟨[some x],rfl,rfl⟩,_,rfl,x,_,rfl,(bk i x _ ex (Å hi)).ext x',λ H4 x4=>k _ H4 (x4 _ _ ś) ⟨aV _ (x'.trans x4) hD,?_⟩⟩;rw [aM (Å hi),Ð];rfl
  ·rintro ys H' ly ś ⟨x',rfl⟩;rw [lb,á] at ś;exact⟨D,bs,rfl,Ċ.of ś,q H' x'⟩
abbrev Jj:Stmt:=cP 29
def Fy (C:Nat->Addr):Sp:=λ vs H Q _=>∃(a:Addr)(xs:List V)(rs:List R0),vs=[.ref a]/\H a=some (.lst xs)/\Τ C H rs xs/\rs.length<=6/\(∀ r∈rs,r.ok)/\∀ l H',Ext H H'->Ą H' (.ref l) (eV (fA 0 (rs.map R0.Û)))->Q (.ref l) H'
abbrev LE:List Str:=["rules","parts","start","rule","behind"]
theorem TM:ai LE ["rules"] (aa Jj):=bc
theorem wT {ns:List Int}(h:ns[i]?=some n):(ns.take (i+1)).sum=(ns.take i).sum+n:=by
 rw [aM h,į];simp
theorem pV {rs:List R0}(h6:rs.length<=6)(ok:∀ r∈rs,r.ok):∀ i,0<=(((rs.take i).map R0.Û).sum)/\((rs.take i).map R0.Û).sum<=120:=by
 have gen:∀(l:List R0),(∀ r∈l,r.ok)->0<=(l.map R0.Û).sum/\(l.map R0.Û).sum<=20*(l.length:Int):=by
  intro l
  induction l with
  | nil=>intro _;simp
  | cons r l ih =>
   intro h;have h1:=R0.Į (h r (Ö ..));have h2:=ih λ x hx=>h x (Ï _ hx);simp only [List.map_cons,List.sum_cons,List.length_cons];omega
 intro i;have:=gen (rs.take i) λ r hr=>ok r (ģ hr);have l:(rs.take i).length<=6:=by rw [ò];omega
 omega
theorem HJ (F:ĵ K "parts_of" "parts_of" Jj f fd) (M:Ms P w K mg base C) (mt:mg "tuple" = none) (mr:mg "range" = none):í P w K mg base aB 2 f fd ["rules"] (Fy C):=by
 refine bX F TM λ cdv A outer s H vs Q E hr h=>?_;obtain⟨a,xs,rs,rfl,ha,al,l6,ok,q⟩:=h;have nd:=TM.nd;refine⟨_,bb (dk (i:=1) nd rfl (Or.inl rfl) (cF ar)) (bb (dk (i:=2) nd rfl (Or.inl rfl) ay)
  (bb (cj Ā rfl (bJ (pv 0)) (cu (i:=3) nd rfl (Or.inl rfl)) (bb (dk (i:=4) nd rfl (Or.inl rfl) (ak bf (pv 2) (cJ (pv 3) M.Û hr ag)))
   (bb (aR (fX ø ô ó bQ (pv 1) (ac (aU (lO rfl) rfl mt Þ (ac (aU tH rfl mr Q7 (ac (pv 2) (ac (pv 4) ar))) ar)) ar)))
   (aW (dk (i:=2) nd rfl (Or.inl rfl) (pv 4))))))
  (aW (cn (aU bU rfl mt Þ (ac (pv 1) ar)))))),?_⟩
 refine⟨cK,λ p hp=>?_⟩;have x1:=Ext.new (o:=.lst []) hp;have f1:aj H p (.lst []) p=some (.lst []):=be;generalize aj H p (.lst [])=H1 at x1 f1 ⊢;have ap:a≠p:=λ e=>by rw [<- e,ha] at hp;cases hp
 refine⟨_,rfl,a,rfl,⟨_,Ċ.of (x1 _ _ ha)⟩,c7 (xs:=xs) (λ i σ H'=>Ext H H'/\(∃ qs,H' p=some (.lst qs)/\Ý (wo H' p) qs ((fA 0 ((rs.take i).map R0.Û)).map jZ))/\∃ o3 o4,σ=[some (.ref a),some (.ref p),some (.int ((rs.take i).map R0.Û).sum),o3,o4]) ⟨x1,⟨[],f1,.nil⟩,_,_,rfl⟩ ?_ ?_ ?_⟩
 ·rintro i σ H' _ ⟨x',_⟩;exact Ċ.of (x' _ _ ha)
 ·rintro i v σ H' ev ⟨x',⟨qs,hq,rq⟩,o3,o4,rfl⟩;have hi:i<rs.length:=by have:=(È.mp ev).1;rw [al.1];exact this
  have er:=Å hi;have ru:=(al.2 i _ v er ev).ext x';have em:(rs.map R0.Û)[i]?=some rs[i].Û:=by rw [Ô,er];rfl
  have st:((rs.take (i+1)).map R0.Û).sum=((rs.take i).map R0.Û).sum+rs[i].Û:=by
   rw [j',j'];exact wT em
  have b1:=pV l6 ok i;have b2:=R0.Į (ok _ (Ĥ hi));have lq:qs.length<=6:=by
   have:=rq.length;rw [Ä] at this;have sl:∀(ns:List Int)(s:Int),(fA s ns).length=ns.length:=by
    intro ns
    induction ns with
    | nil=>intro s;rfl
    | cons n ns ih=>intro s;show(fA (s+n) ns).length+1=_;rw [ih];rfl
   rw [sl,Ä,ò] at this;omega
  refine⟨_,rfl,dh (t:=.one rs[i]) aC ru (λ R r=>⟨_,rfl,r⟩) ⟨v,.one rs[i],rfl,ru,_,_,rfl,rfl,?_⟩⟩;refine⟨_,rfl,.inl ⟨rfl,_,Ċ.of hq⟩,_,rfl,_,rfl,_,_,rfl,λ r hr=>⟨r,_,_,rfl,be,⟨by show -(2^62)<=_;omega,af,by show -(2^62)<=_+R0.Û _;omega,by show _+R0.Û _<_;omega⟩,by show(_+R0.Û _-_).toNat<=_;omega,λ l hl=>?_⟩⟩
  have xr:=Ext.new (o:=.Ps ((rs.take i).map R0.Û).sum (((rs.take i).map R0.Û).sum+rs[i].Û)) hr;have ed:(((rs.take i).map R0.Û).sum+rs[i].Û - ((rs.take i).map R0.Û).sum).toNat=rs[i].Û.toNat:=by congr 1;omega
  have ed':(((rs.take i).map R0.Û).sum+(Rl.one rs[i]).Û - ((rs.take i).map R0.Û).sum).toNat=rs[i].Û.toNat:=ed;rw [ed',wO];have Nm:aj H' r (.Ps ((rs.take i).map R0.Û).sum (((rs.take i).map R0.Û).sum+rs[i].Û)) l=none:=hl;have xl:=Ext.new (o:=.tup ((jc ((rs.take i).map R0.Û).sum rs[i].Û.toNat).map V.int)) Nm;have x2:=xr.trans xl;have QJ:=x2 _ _ hq;have np:l≠p:=λ e=>by rw [e,xr _ _ hq] at Nm;cases Nm
  have NP:aj (aj H' r (.Ps ((rs.take i).map R0.Û).sum (((rs.take i).map R0.Û).sum+rs[i].Û))) l (.tup ((jc ((rs.take i).map R0.Û).sum rs[i].Û.toNat).map V.int)) l=some (.tup ((jc ((rs.take i).map R0.Û).sum rs[i].Û.toNat).map V.int)):=be;refine⟨p,qs,.ref l,rfl,rfl,QJ,by rw [Ü];omega,?_⟩
  show bY (ae 4) (aN 2) _ [some (.ref a),some (.ref p),some (.int ((rs.take i).map R0.Û).sum),some v,some (.int (((rs.take i).map R0.Û).sum+rs[i].Û))] (aj (aj (aj H' r (.Ps ((rs.take i).map R0.Û).sum (((rs.take i).map R0.Û).sum+rs[i].Û))) l (.tup ((jc ((rs.take i).map R0.Û).sum rs[i].Û.toNat).map V.int))) p (.lst (qs ++ [.ref l])));generalize aj (aj H' r (.Ps ((rs.take i).map R0.Û).sum (((rs.take i).map R0.Û).sum+rs[i].Û))) l (.tup ((jc ((rs.take i).map R0.Û).sum rs[i].Û.toNat).map .int))=H2 at x2 QJ NP ⊢;refine⟨_,rfl,aV _ (x'.trans x2) hp,⟨_,be,?_⟩,_,_,by rw [st];rfl⟩
  have e1:(fA 0 ((rs.take (i+1)).map R0.Û)).map jZ=(fA 0 ((rs.take i).map R0.Û)).map jZ ++ [jZ (jc ((rs.take i).map R0.Û).sum rs[i].Û.toNat)]:=by
   rw [aM er,Ð,Ú,u_,n6,Ð,v_];rfl
  rw [e1];refine((Ý.mono (Ad x2 p) rq).append (.cons (.tup (gM np NP) (gC _ _)) .nil) |> Ý.mono zS)
 ·rintro σ H' ⟨x',⟨qs,hq,rq⟩,o3,o4,rfl⟩;have lr:=al.1.symm;rw [lr,á] at rq;refine⟨_,rfl,p,qs,rfl,.inl ⟨Ċ.of hq,λ l hl=>?_⟩⟩;have xl:=Ext.new (o:=.tup qs) hl;exact q l _ (x'.trans xl) (.tup be (Ý.mono ((mV H' p).trans xl) rq))
end
def cD (rs:List R0)(n:Nat):PyData:=match rs[n]? with
 | none=>.tuple [.int (n:Nat),.none]
 | some r=>.tuple [.int (n:Nat),r.begin]
theorem BV (rs:List R0):cD rs 0=(Rl.blocks rs).begin:=by cases rs <;> rfl
section
variable {P:Program}{w:World}{K:Frag}{mg:cr}{base:Heap}{C:Nat->Addr}{CR:Addr}
abbrev KN:Stmt:=bw (cP 38) 1
def ye (C:Nat->Addr):Sp:=λ vs H Q _=>∃(x:Addr)(n:Nat)(dx:Addr)(fs:List (Str × V))(l:Addr)(ws:List V)(rs:List R0),vs=[.ref x,.int (n:Nat)]/\H x=some (.ins (C 3) dx fs)/\fs.lookup ("rules" : Str)=some (.ref l)/\H l=some (.tup ws)/\Τ C H rs ws/\n<=rs.length/\∀ m H',Ext H H'->Ą H' (.ref m) (cD rs n)->Q (.ref m) H'
theorem JE:ai ["self","number"] ["self","number"] (aa KN):=bc
theorem GH (Z:KR K C CR)(F:ĵ K "state_ahead" "Blocks.state_ahead" KN f fd) (M:Ms P w K mg base C) (ml:mg "len" = none):í P w K mg base aB 2 f fd ["self","number"] (ye C):=by
 refine bX F JE λ cdv A outer s H vs Q E hr h=>?_;obtain⟨x,n,dx,fs,l,ws,rs,rfl,hx,O0,hl,al,nl,q⟩:=h;refine⟨_,bb (aJ (aq bE (pv 1) (am aO rfl ml ö (ac (og (pv 0) rfl) ar)) (au _)) (aW (cn (aP (ac (pv 1) (ac gv ar))))) cT)
  (aW (cn (aP (ac (pv 1) (ac (cJ (bL cB (og (pv 0) rfl) (pv 1)) M.begin hr ag) ar))))),?_⟩
 have c:=Z.cls 3 ax;have no:=Z.no 3 ax "rules" aC;refine⟨_,rfl,_,rfl,x,C 3,dx,fs,_,rfl,hx,c,no,O0,l,ws,rfl,.inr (Ė.of hl),rfl,_,rfl,?_⟩;have lw:=al.1;by_cases e:n=rs.length
 ·rw [Ç (by rw [<- lw,e])]
  refine fV ⟨_,rfl,cK,λ m hm=>q m _ (.new hm) ?_⟩;have ea:cD rs n=.tuple [.int (n:Nat),.none]:=by unfold cD;rw [Ļ af]
  rw [ea];exact .tup be (.cons (.int _) (.cons .Ă .nil))
 ·rw [Ò (by intro z;injection z with z;omega)]
  have hn:n<rs.length:=af;have hw:n<ws.length:=af;have ru:=al.2 n _ _ (Å hn) (Å hw);refine dj ⟨_,rfl,dh (t:=.one rs[n]) aC ru (λ R r=>⟨_,rfl,x,C 3,dx,fs,_,rfl,hx,c,no,O0,_,rfl,l,ws,_,_,rfl,rfl,Ė.of hl,jU (Å hw),r⟩) ⟨_,.one rs[n],H,rfl,.refl _,ru,λ b rb=>⟨cK,λ m hm=>q m _ (.new hm) ?_⟩⟩⟩;have ea:cD rs n=.tuple [.int (n:Nat),rs[n].begin]:=by unfold cD;rw [Å hn]
  rw [ea];exact .tup be (.cons (.int _) (.cons (rb.mono (.new hm)) .nil))
abbrev BN:Stmt:=bw (cP 38) 0
abbrev LY:List Str:=["self","rules","size","mark"]
theorem T3:ai LY ["self","rules"] (aa BN):=bc
abbrev Gr:Scope:=gr [("rule",.local)]
theorem uP {X:Cx}:cV X Gr [] ["rule"] [] [] :=
 eF (L:=[(".0",.local),("rule",.local)]) rfl rfl aC aC aC rfl aC aC
def rW (K:Frag)(C:Nat->Addr)(CT CM:Addr):Sp:=λ vs H Q E=>∃(x:Addr)(v:V)(dx:Addr)(G:Hp),vs=[.ref x,v]/\H x=some (.ins (C 3) dx [])/\Ext G H/\G x=none/\((U8 K G v "list" /\ ∀ H',Ext H H'->iI CT "found" v H' E) \/
 (∃ a xs bs,v=.ref a/\G a=some (.lst xs)/\xs.length<1000/\qG K C G xs bs/\GI xs.length bs=false/\∀ H',Ext H H'->iI CT "found" v H' E) \/
 ∃ a xs rs,v=.ref a/\G a=some (.lst xs)/\Τ C G rs xs/\1<=rs.length/\rs.length<=6/\(∀ r∈rs,r.ok)/\(20<(rs.map R0.Û).sum->∀ H',Ext H H'->iI CM "many" (.int (rs.map R0.Û).sum) H' E)/\((rs.map R0.Û).sum<=20->∀ H',Kept H H' x->Op C H' rs (.ref x)->Q .Ă H'))
theorem yO (Z:KR K C CR)(al:Τ C G rs xs):qG K C G xs (rs.map λ _=>true):=by
 refine⟨by rw [Ä,al.1],λ i x b hx hb=>?_⟩
 have hi:i<rs.length:=by have:=(È.mp hx).1;rw [al.1];exact this
 rw [Ô,Å hi] at hb;cases hb;have k:=wH (t:=.one rs[i]) Z (al.2 i _ x (Å hi) hx);have e:((Rl.one rs[i]).kind==0||((Rl.one rs[i]).kind==1||(Rl.one rs[i]).kind==2))=true:=by
  cases rs[i] <;> rfl
 rw [e] at k;exact k
theorem xU (h1:1<=n)(h6:n<=6){rs:List R0}:GI n (rs.map λ _=>true)=true:=by
 unfold GI;rw [Ç h1,Ç h6,List.all_map];simp
variable {S g a1 a2 D CT CM fT fM:Addr}{gd d1 d2 eT eM:FuncData}{t:Tok}
def Mg (C:Nat->Addr):TE:=dM (nI C) "folk" (λ _=>jx C) E0 (ae 0) aF
def Mi (C:Nat->Addr):TE:=dM (nI C) "told" (λ _=>jH C) E0 (ae 0) aF
theorem Dx (Z:KR K C CR)(F:ĵ K "__init__" "Blocks.__init__" BN f fd) (M:Ms P w K mg base C) (MA:cG P w K mg base aB 2 "state_ahead" ["self","number"] (λ c=>c=C 3) (λ _=>ye C)) (B:Η K D) (T1:uL K mg D "NoTrials" "found" CT fT eT) (T2:uL K mg D "TooMany" "many" CM fM eM)
  (Cf:jR K S "__init__" g) (G':í P w K mg base aB 1 g gd ["self","size","first_state","mark","parts"] (jm C)) (bG:Binds K gd ["self","size","first_state","mark","parts"] []) (mS:mg "Rule" = some (.ref S))
  (A1:Df P w K mg base aB 3 "are_block_rules" ["thing"] (HM K C) a1 d1) (A2:Df P w K mg base aB 2 "parts_of" ["rules"] (Fy C) a2 d2) (mF:mg "MOST_FOLK" = some (.int 20 t)) (ms:mg "sum" = none) (mt:mg "tuple" = none):í P w K mg base (i5 P w) 4 f fd ["self","rules"] (rW K C CT CM):=by
 refine qD F T3 λ cdv A outer s H vs Q E hr h=>?_;obtain⟨x,v,dx,G,rfl,hx,xG,nG,h⟩:=h;have nd:=T3.nd;have Ŧ:ć 1 _:=hr.mono ax;have H_:ć 2 _:=hr.mono ax;refine⟨_,bb (aJ (cw (bz (bZ A1 hr ag (ac (pv 1) ar)))) (aW (hV B T1.cls (T1.ok P w base) H_ T1.bi rfl T1.VA (pv 1))) cT)
  (bb (dk (i:=2) nd rfl (Or.inl rfl) (am (gz rfl) rfl ms ŷ (ac (dS (te:=Mg C) (g:=aN 0) rfl uP (bJ (pv 1)) (λ s H C fp=>by exact cu (i:=0) Do rfl (.inl rfl)) (λ s H C fp=>by exact cJ (pv 0) M.Û Ŧ ag)) ar)))
  (bb (aJ (aq fm (pv 2) (bI (v:=.int 20) rfl mF ⟨_,rfl⟩) (au _)) (aW (hV B T2.cls (T2.ok P w base) H_ T2.bi rfl T2.VA (pv 2))) cT)
  (bb (fK (pv 0) (aU bU rfl mt Þ (ac (pv 1) ar)) rfl)
  (bb (dk (i:=3) nd rfl (Or.inl rfl) (aP (ac fD (ac (aU bU rfl mt Þ (ac (dS (te:=Mi C) (g:=aN 0) rfl uP (bJ (pv 1)) (λ s H C fp=>by exact cu (i:=0) Do rfl (.inl rfl)) (λ s H C fp=>by exact cJ (pv 0) M.told Ŧ ag)) ar)) ar))))
  (aW (aR (eI Cf G' Ŧ rfl mS bG .nil ag (ac (pv 0) (ac (pv 2) (ac (fq (pv 0) MA H_ ag (ac ay ar)) (ac (pv 3) (ac (bZ A2 H_ ag (ac (pv 1) ar)) ar)))))))))))),?_⟩
 rcases h with⟨nk,q⟩ | ⟨a,xs,bs,rfl,ha,l1,bk,bad,q⟩ | ⟨a,xs,rs,rfl,ha,al,l1,l6,ok,qm,q⟩
 ·refine⟨_,rfl,v,rfl,.inl ⟨nk.ext xG,λ H1 x1=>⟨_,rfl,fV ⟨_,rfl,λ e' de h1 h2 nd=>lI nd (q H1 x1 e' de h1 h2 nd)⟩⟩⟩⟩
 ·refine⟨_,rfl,_,rfl,.inr ⟨a,xs,bs,rfl,xG _ _ ha,l1,⟨bk.1,λ i x b h1 h2=>(bk.2 i x b h1 h2).ext xG⟩,λ H1 x1=>⟨_,rfl,?_⟩⟩⟩;rw [bad];exact fV ⟨_,rfl,λ e' de h1 h2 nd=>lI nd (q H1 x1 e' de h1 h2 nd)⟩
 have bk:=yO Z al;have lx:=al.1;refine⟨_,rfl,_,rfl,.inr ⟨a,xs,_,rfl,xG _ _ ha,af,⟨bk.1,λ i x b h1 h2=>(bk.2 i x b h1 h2).ext xG⟩,λ H1 x1=>⟨_,rfl,?_⟩⟩⟩;rw [<- lx,xU l1 l6];refine dj ?_;have QC:=xG.trans x1;refine⟨_,rfl,a,rfl,⟨_,Ċ.of (QC _ _ ha)⟩,λ D hD=>?_⟩;refine fu (a:=a) (xs:=xs) (λ i ys H'=>Ext H1 H'/\ys=((rs.take i).map R0.Û).map V.int) (by rw [Ü];omega) ⟨Ext.new hD,rfl⟩ (λ i ys H' pv=>Ċ.of ((QC.trans pv.1) _ _ ha)) ?_ ?_
 ·rintro i v ys H' ev ly ś ⟨x',rfl⟩ os Ş R k;obtain⟨o0,rfl⟩:∃ o0,os=[o0]:=by
   match os,Ş with
   | [o0],_=>exact⟨o0,rfl⟩
  have hi:i<rs.length:=by have:=(È.mp ev).1;omega
  have er:=Å hi;have ru:=(al.2 i _ v er ev).ext (QC.trans x');refine⟨⟨[some v],rfl,rfl⟩,dh (t:=.one rs[i]) aC ru (λ R r=>⟨_,rfl,r⟩) ⟨v,.one rs[i],rfl,ru,k _ H' ś ⟨aV _ x' hD,?_⟩⟩⟩;rw [aM er,Ð,Ð];rfl
 rintro ys H2 ly ś ⟨x2,rfl⟩;rw [<- lx,á] at ś;refine⟨D,_,rfl,Ċ.of ś,?_⟩;refine⟨_,rfl,_,_,rfl,rfl,_,rfl,?_⟩;refine fR (λ c=>?_) (λ c=>?_)
 ·exact⟨_,rfl,λ e' de h1 h2 nd=>lI nd (qm (ë c) H2 (x1.trans x2) e' de h1 h2 nd)⟩
 have Yd:(rs.map R0.Û).sum<=20:=by
  have:¬ ((rs.map R0.Û).sum>20):=λ z=>c (Ç z);omega
 have l_:=x1.trans x2;have Te:=xG.trans l_;refine⟨_,rfl,a,xs,rfl,.inl ⟨Ċ.of (Te _ _ ha),λ l hl=>?_⟩⟩;have x3:=Ext.new (o:=.tup xs) hl;have Rx:aj H2 l (.tup xs) l=some (.tup xs):=be;have Sw:=x3 _ _ (l_ _ _ hx);have YY:G l=none:=by
  cases e:G l with
  | none=>rfl
  | some o=>rw [Te _ _ e] at hl;cases hl
 generalize aj H2 l (.tup xs)=H3 at x3 Rx Sw ⊢;have Ov:=l_.trans x3;refine⟨_,rfl,x,C 3,dx,[],rfl,Sw,Z.cls 3 ax,Z.no 3 ax _ aC,ax,?_⟩;have k4:Kept H3 (aj H3 x (.ins (C 3) dx (cq "rules" (.ref l) []))) x:=bK _;have YL:aj H3 x (.ins (C 3) dx (cq "rules" (.ref l) [])) x=some (.ins (C 3) dx [("rules",.ref l)]):=be;have xl:l≠x:=λ e=>by rw [e,Sw] at Rx;cases Rx
 have VL:=k4 _ _ Rx xl;generalize aj H3 x (.ins (C 3) dx (cq "rules" (.ref l) []))=H4 at k4 YL VL ⊢;have YC:Kept H H4 x:=(Ov.kept x).trans k4;have Vj:=xG.kp nG YC;refine⟨_,rfl,a,rfl,⟨_,Ċ.of (Vj _ _ ha)⟩,λ D2 S9=>?_⟩;refine fu (a:=a) (xs:=xs) (λ i ys H'=>Ext H4 H'/\Ý G ys ((rs.take i).map R0.told)) (by rw [Ü];omega) ⟨Ext.new S9,.nil⟩ (λ i ys H' pv=>Ċ.of ((Vj.trans pv.1) _ _ ha)) ?_ ?_
 ·rintro i v ys H' ev ly ś ⟨x',ry⟩ os Ş R k;obtain⟨o0,rfl⟩:∃ o0,os=[o0]:=by
   match os,Ş with
   | [o0],_=>exact⟨o0,rfl⟩
  have hi:i<rs.length:=by have:=(È.mp ev).1;omega
  have er:=Å hi;have Yf:=al.2 i _ v er ev;have xg:=Vj.trans x';have ru:=Yf.ext xg;refine⟨⟨[some v],rfl,rfl⟩,dh (t:=.one rs[i]) aC ru (λ R r=>⟨_,rfl,r⟩) ⟨v,.one rs[i],G,rfl,xg,Yf,λ b rb=>k b H' ś ⟨aV _ x' S9,?_⟩⟩⟩;rw [aM er,Ð];exact ry.append (.cons rb .nil)
 rintro ys H5 ly Ol ⟨x5,ry⟩;rw [<- lx,á] at ry;refine⟨D2,ys,rfl,.inl ⟨Ċ.of Ol,λ m hm=>⟨cK,λ k hk=>?_⟩⟩⟩;have x6:=Ext.new (o:=.tup ys) hm;have YV:aj H5 m (.tup ys) m=some (.tup ys):=be;generalize aj H5 m (.tup ys)=H6 at x6 YV hk ⊢;have x7:=Ext.new (o:=.tup [.str "blocks",.ref m]) hk;have YZ:aj H6 k (.tup [.str "blocks",.ref m]) k=some (.tup [.str "blocks",.ref m]):=be;generalize aj H6 k (.tup [.str "blocks",.ref m])=H7 at x7 YZ ⊢;have QD:=(x5.trans x6).trans x7;have Vi:=Vj.trans QD;have WO:=QD _ _ YL;have QO:=QD _ _ VL;have Wq:Ą H7 (.ref k) (Rl.blocks rs).told:=.tup YZ (.cons (.str _) (.cons (.tup (x7 _ _ YV) (Ý.mono Vi ry)) .nil));have ZY:=al.ext Vi;refine⟨_,rfl,_,rfl,_,rfl,x,C 3,dx,_,rfl,rfl,WO,rfl,⟨x,0,dx,_,l,xs,rs,rfl,WO,rfl,QO,ZY,Đ _,λ b H8 x8 rb=>?_⟩⟩;rw [BV] at rb;refine⟨_,rfl,_,rfl,a,xs,rs,rfl,(Vi.trans x8) _ _ ha,ZY.ext x8,l6,ok,λ pr H9 x9 rp=>?_⟩;have Tf:=x8.trans x9;have VG:=Tf _ _ WO;have hl9:=Tf _ _ QO;refine⟨x,_,_,_,_,3,dx,[("rules",.ref l)],rfl,ax,VG,(by show 1<=5;decide),q Yd _ ((YC.trans ((QD.trans Tf).kept x)).trans (bK _)) ?_⟩
 have kk:Kept H9 (aj H9 x (.ins (C 3) dx (fU (.int (rs.map R0.Û).sum) (.ref b) (.ref k) (.ref pr) [("rules",.ref l)]))) x:=bK _;have Vh:=(Vi.trans Tf).kp nG kk;refine hX be ((rb.mono x9).kept VG kk) ((Wq.mono Tf).kept VG kk) (rp.kept VG kk) (λ n hn=>?_) ⟨l,xs,?_,?_,al.ext Vh⟩
 ·have e:n = "rules" := by simpa using hn
  rw [e]
  decide +kernel
 ·rw [du aC];rfl
 ·exact kk _ _ hl9 xl
end
section
variable {P:Program}{w:World}{K:Frag}{mg:cr}{base:Heap}{C:Nat->Addr}{CR:Addr}
abbrev F4:Stmt:=cP 30
abbrev Jk:List Str:=["parts","many","cut"]
theorem TN:ai Jk ["parts","many"] (aa F4):=bc
def D4:Sp:=λ vs H Q _=>∃(v:V)(m:Int)(ps:List (List Int)),vs=[v,.int m]/\Ą H v (eV ps)/\Sm ps/\∀ l H',Ext H H'->Ą H' (.ref l) (eV (Dr m ps))->Q (.ref l) H'
abbrev zv:Scope:=gr [("part",.local),("tuple",.globalImplicit),("many",.free)]
abbrev FP:Scope:=gr [("at",.local),("many",.free)]
abbrev Hu:Scope:=gr [("part",.local),("len",.globalImplicit)]
variable {f:Addr}{cdv:Value}{A:Around}{outer:List Env}{s:Shared}{H:Hp}{E:XK}
theorem yP:cV (bR aB P w K mg base Jk "parts_below" (aa F4) f cdv A outer s H E).Φ zv [("many",s.heap.objs.size+1)] ["part"] ["many"] [1] :=
 mK (M:=["many"]) (L:=[(".0",.local),("part",.local),("tuple",.globalImplicit),("many",.cell)]) rfl rfl aC aC aC rfl rfl rfl aC aC rfl rfl rfl
theorem Hx:((["part"]:List Str)++(["many"]:List Str)).Nodup:=aC
theorem HX:((["at"]:List Str)++(["many"]:List Str)).Nodup:=aC
theorem yH {s1:Shared}{H1:Hp}{C1:Addr}{fp:List Addr}:cV (mP (bR aB P w K mg base Jk "parts_below" (aa F4) f cdv A outer s H E).Φ zv [("many",s.heap.objs.size+1)] ((["part"]:List Str)++(["many"]:List Str)) s1 H1 C1 fp) FP [("many",s.heap.objs.size+1)] ["at"] ["many"] [1] :=
 wa (L:=[(".0",.local),("at",.local),("many",.cell)]) rfl rfl aC aC aC rfl rfl aC aC rfl (.inr (.inl rfl)) (by intro z;cases z) (.inl rfl)
theorem yq {X:Cx}:cV X Hu [] ["part"] [] [] :=
 eF (L:=[(".0",.local),("part",.local),("len",.globalImplicit)]) rfl rfl aC aC aC rfl aC aC
def AK (K:Frag):List V->Hp->VK->Prop:=λ xs H Q=>∃ p ys,xs=[.ref p]/\((Ċ K H p ys/\∀ l,H l=none->Q (.ref l) (aj H l (.tup ys)))\/(Ė K H p ys/\Q (.ref p) H))
def Aa:TT:=tB (bV (gK λ i j=>.bl (decide (i<j))) (ae 0) (ae 1))
def Jm (K:Frag):TE:=iH (AK K) (ao (iL (tu K (ae 0)) 1 [1] (aN 0) Aa (ae 0)) aF)
def Gz (K:Frag):List V->Hp->VK->Prop:=λ xs H Q=>∃ p ys,xs=[.ref p]/\(Ċ K H p ys\/Ė K H p ys)/\Q (.int ys.length) H
def KA (K:Frag):TT:=tB (bV (gK λ i j=>.bl (decide (i>j))) (iH (Gz K) (ao (ae 0) aF)) (tC (.int 0)))
def Lm (m:Int):V->Bool
 | .int i=>decide (i<m)
 | _=>false
def Cm (H:Hp):V->Bool
 | .ref a=>match H a with
  | some (.tup ys)=>decide (0<ys.length)
  | _=>false
 | _=>false
theorem EY (F:ĵ K "parts_below" "parts_below" F4 f fd) (mt:mg "tuple" = none) (ml:mg "len" = none):í P w K mg base aB 1 f fd ["parts","many"] D4:=by
 refine bX F TN λ cdv A outer s H vs Q E hr h=>?_;obtain⟨v,m,ps,rfl,rv,sm,q⟩:=h;have nd:=TN.nd;refine⟨_,bb (CK (iy:=2) (te:=Jm K) (g:=aN 0) rfl yP (gR (pv 0)) (λ s H C fp=>by exact cu (i:=0) Hx rfl (.inl rfl))
   (λ s H C fp=>by exact aU bU rfl mt Þ (ac (jj (te:=ae 0) (tt:=Aa) (g:=aN 0) rfl yH (gR (pv 0)) (λ s H C fp=>by exact cu (i:=0) HX rfl (.inl rfl)) (λ s H C fp=>by exact aq k9 (pv 0) (pv 1) (au _)) (λ s H C fp=>by exact pv 0)) ar)) nd rfl (Or.inl rfl) rfl)
  (aW (cn (aU bU rfl mt Þ (ac (jj (te:=ae 0) (tt:=KA K) (g:=aN 0) rfl yq (bJ (pv 2)) (λ s H C fp=>by exact cu (i:=0) Lj rfl (.inl rfl)) (λ s H C fp=>by exact aq fm (am aO rfl ml ö (ac (pv 0) ar)) ay (au _)) (λ s H C fp=>by exact pv 0)) ar)))),?_⟩
 obtain⟨p,xs,rfl,hp,rs⟩:=ck rv;have lx:=rs.length;rw [Ä] at lx;have VD:=sm.1;refine⟨_,rfl,p,rfl,⟨_,Ė.of hp⟩,λ D hD=>?_⟩;refine iF (a:=p) (xs:=xs) (λ i ys H'=>Ext H H'/\Ý (wo H' D) ys (((ps.take i).map (·.filter λ x=>decide (x<m))).map jZ)) (by rw [Ü];omega) ⟨Ext.new hD,.nil⟩ (λ i ys H' pv=>Ė.of (pv.1 _ _ hp)) ?_ ?_
 ·rintro i x ys H' ex ly ś ⟨x',ry⟩ os Ş R k;obtain⟨o0,rfl⟩:∃ o0,os=[o0]:=by
   match os,Ş with
   | [o0],_=>exact⟨o0,rfl⟩
  have hi:i<ps.length:=by have:=(È.mp ex).1;omega
  have ep:=Å hi;obtain⟨c,rfl,hc⟩:=jA rs ex ep;have OD:=x' _ _ hc;have pl:=sm.2 _ (Ĥ hi);refine⟨⟨[some (.ref c)],rfl,rfl⟩,_,rfl,c,rfl,⟨_,Ė.of OD⟩,λ D2 S9=>?_⟩;refine Ln (xs:=ps[i].map V.int) (J:=t5 K c) (Lm m) (by rw [Ä,Ü];omega) S9 (λ j H1 x1 lt=>⟨_,_,Ė.of (x1 _ _ OD),Å lt⟩) (λ H1 x1=>⟨_,Ė.of (x1 _ _ OD),Æ _⟩)
   (λ j H1 y XR x1 ⟨e,hy⟩=>⟨e,hy _ (Ė.of (x1 _ _ OD))⟩) (λ j y H1 hy x1 R r=>?_) (λ H4 x4 h4=>?_)
  ·rw [Ô] at hy;obtain⟨n,_,rfl⟩:=å.mp hy;exact⟨_,rfl,_,rfl,_,_,rfl,rfl,_,rfl,r H1 (Ext.refl _)⟩
  rw [f9 (λ n=>decide (n<m)) (Lm m) (λ _=>rfl)] at h4;refine⟨D2,_,rfl,.inl ⟨Ċ.of h4,λ t ht=>?_⟩⟩;have x5:=Ext.new (o:=.tup ((ps[i].filter λ n=>decide (n<m)).map V.int)) ht;have QE:=x4.trans x5;have tD:t≠D:=λ e=>by rw [e,x4 _ _ ś] at ht;cases ht
  refine k _ _ (QE _ _ ś) ⟨aV _ (x'.trans QE) hD,?_⟩;rw [aM ep,Ð,Ð];exact Ý.mono zS ((Ý.mono (Ad QE D) ry).append (.cons (.tup (gM tD be) (gC _ _)) .nil))
 rintro ys H2 ly ś ⟨x2,ry⟩;rw [lx,á] at ry;have Wp:=Ý.mono (mV H2 D) ry;refine⟨_,rfl,D,rfl,⟨_,Ċ.of ś⟩,λ D3 Xu=>?_⟩;have pp:∀(i:Nat) y qq,ys[i]?=some y->(ps.map λ p:List Int=>p.filter λ x=>decide (x<m))[i]?=some qq->∃ a,y=.ref a/\H2 a=some (.tup (qq.map V.int)):=λ i y qq hy hq=>jA Wp hy hq;have ly2:=Wp.length;rw [Ä,Ä] at ly2;refine Ln (xs:=ys) (J:=nj K D) (Cm H2) (by rw [Ü];omega) Xu (λ j H1 x1 lt=>⟨_,_,Ċ.of (x1 _ _ ś),Å lt⟩) (λ H1 x1=>⟨_,Ċ.of (x1 _ _ ś),Æ _⟩)
  (λ j H1 y XR x1 ⟨e,hy⟩=>⟨e,hy _ (Ċ.of (x1 _ _ ś))⟩) (λ j y H1 hy x1 R r=>?_) (λ H4 x4 h4=>?_)
 ·have hj:j<(ps.map λ p:List Int=>p.filter λ x=>decide (x<m)).length:=by have:=(È.mp hy).1;rw [Ä];omega
  obtain⟨a,rfl,ha⟩:=pp j y _ hy (Å hj);have hv:Cm H2 (.ref a)=decide (0<((ps.map λ p:List Int=>p.filter λ x=>decide (x<m))[j].map V.int).length):=by
   show(match H2 a with | some (.tup ys)=>decide (0<ys.length) | _=>false)=_
   rw [ha]
  refine⟨_,rfl,a,_,rfl,.inr (Ė.of (x1 _ _ ha)),_,_,rfl,rfl,_,rfl,?_⟩;have:=r H1 (Ext.refl _);rw [hv] at this;have e2:decide ((((ps.map λ p:List Int=>p.filter λ x=>decide (x<m))[j].map V.int).length:Int)>0)=decide (0<((ps.map λ p:List Int=>p.filter λ x=>decide (x<m))[j].map V.int).length):=ĳ.mpr af;rw [e2];exact this
 refine⟨D3,_,rfl,.inl ⟨Ċ.of h4,λ l hl=>?_⟩⟩;have x5:=Ext.new (o:=.tup (ys.filter (Cm H2))) hl;refine q l _ (x2.trans (x4.trans x5)) (.tup be ?_);refine Ý.filter (Ý.mono (x4.trans x5) Wp) λ i y qq hy hq=>?_;obtain⟨a,rfl,ha⟩:=pp i y qq hy hq;show(match H2 a with | some (.tup ys)=>decide (0<ys.length) | _=>false)=_
 rw [ha];show decide (0<(qq.map V.int).length)=_;rw [Ä]
abbrev Cp:Stmt:=bw (cP 39) 0
abbrev LR:List Str:=["self","rule","many"]
theorem TW:ai LR ["self","rule","many"] (aa Cp):=bc
def qT (C:Nat->Addr)(CN:Addr):Sp:=λ vs H Q E=>∃(x:Addr)(v u:V)(t:Rl)(d:PyData)(dx:Addr)(G:Hp),vs=[.ref x,v,u]/\H x=some (.ins (C 4) dx [])/\Ext G H/\G x=none/\Ru C G t v/\Sm t.parts/\Ą G u d/\(pR 0 t.Û d=false->iI CN "found" u H E)/\∀ m,d=.int m->0<=m->m<=t.Û->∀ H',Kept H H' x->Ru C H' (.first t m) (.ref x)->Q .Ă H'
variable {S g a1 a2 CN:Addr}{gd d1 d2:FuncData}
theorem tU (ru:Ru C G t v):(t.kind=4->∃ a dx fs d,v=.ref a/\G a=some (.ins (C 4) dx fs)/\fs.lookup ("dealer" : Str)=some d/\Px C G t.inner d)/\(t.kind≠4->Px C G t.inner v):=by
 cases t with
 | one r=>exact⟨λ e=>by have:=r.ā;have e':r.kind=4:=e;omega,λ _=>ru⟩
 | blocks rs=>exact⟨λ e=>(by cases e),λ _=>ru⟩
 | first t m =>
  refine⟨λ _=>?_,λ e=>absurd rfl e⟩;obtain⟨a,dx,fs,rfl,ha,_,_,_,_,_,d,hd,rn⟩:=ru.ex;exact⟨a,dx,fs,d,rfl,ha,hd,rn⟩
theorem DS (N:pA K)(Z:KR K C CR)(F:ĵ K "__init__" "First.__init__" Cp f fd) (M:Ms P w K mg base C) (Cf:jR K S "__init__" g) (G':í P w K mg base aB 1 g gd ["self","size","first_state","mark","parts"] (jm C)) (bG:Binds K gd ["self","size","first_state","mark","parts"] []) (mS:mg "Rule" = some (.ref S))
  (A1:Df P w K mg base (i5 P w) 3 "need_number" ["thing","low","high"] (wM CN) a1 d1) (A2:Df P w K mg base aB 1 "parts_below" ["parts","many"] D4 a2 d2) (m4:mg "First" = some (.ref (C 4))) (mi:mg "isinstance" = none):í P w K mg base (i5 P w) 4 f fd ["self","rule","many"] (qT C CN):=by
 refine qD F TW λ cdv A outer s H vs Q E hr h=>?_;obtain⟨x,v,u,t,d,dx,G,rfl,hx,xG,nG,ru,sm,rd,qe,q⟩:=h;have nd:=TW.nd;have Ŧ:ć 1 _:=hr.mono ax;refine⟨_,bb (aR (bZ A1 hr i6 (ac (pv 2) (ac ay (ac (cJ (pv 1) M.Û Ŧ ag) ar)))))
  (bb (fK (pv 0) (ig (bz (am (vy N) rfl mi Ê (ac (pv 1) (ac (bI (v:=.ref (C 4)) rfl m4 rfl) ar)))) (og (pv 1) rfl) (pv 1)) rfl)
  (aW (aR (eI Cf G' Ŧ rfl mS bG .nil ag (ac (pv 0) (ac (pv 2) (ac (cJ (pv 1) M.begin Ŧ ag) (ac (aP (ac fD (ac (cJ (pv 1) M.told Ŧ ag) (ac (pv 2) ar)))) (ac (bZ A2 Ŧ ag (ac (og (pv 1) rfl) (ac (pv 2) ar))) ar))))))))),?_⟩
 have R_:=ru.ext xG;refine⟨_,rfl,dh aC R_ (λ R r=>⟨_,rfl,r⟩) ⟨v,t,rfl,R_,u,d,0,t.Û,rfl,rd.mono xG,λ h1=>?_,λ h1=>qe h1⟩⟩;obtain⟨m,rfl,m0,m1⟩:=gF h1;cases rd;have fin:∀ dv,Px C G t.inner dv->Gn K (ae 0) (tC dv) "dealer" ⟨λ ĸ H'=>dW (cC (jm C) [] E0 (ao (ae 0) (ao (ae 2) (ao (dM (nI C) "begin" (λ _=>ir C) E0 (ae 1) aF) (ao (cz (ao (tC (.str "first")) (ao (dM (nI C) "told" (λ _=>jH C) E0 (ae 1) aF) (ao (ae 2) aF)))) (ao (cC D4 [] E0 (ao (jo K (ae 1) "parts") (ao (ae 2) aF))) aF)))))) ⟨λ _ H'=>Q .Ă H',Q,λ _ _=>False,λ _ _=>False⟩ ĸ H',Q,λ _ _=>False,λ _ _=>False⟩ [some (.ref x),some v,some (.int m)] H:=λ dv rn=>by
  refine⟨_,rfl,x,C 4,dx,[],rfl,hx,Z.cls 4 ax,Z.no 4 ax _ aC,ax,?_⟩;have k1:Kept H (aj H x (.ins (C 4) dx (cq "dealer" dv []))) x:=bK _;have OW:aj H x (.ins (C 4) dx (cq "dealer" dv [])) x=some (.ins (C 4) dx [("dealer",dv)]):=be;generalize aj H x (.ins (C 4) dx (cq "dealer" dv []))=H1 at k1 OW ⊢;have QC:=xG.kp nG k1;have Vu:=ru.ext QC;obtain⟨a,da,fa,rfl,ha,_,_,_,⟨pp,UG,rpp⟩,_⟩:=ru.ob.ex;refine⟨_,rfl,_,rfl,dh aC Vu (λ R r=>⟨_,rfl,r⟩) ⟨_,t,G,rfl,QC,ru,λ b rb=>?_⟩⟩;refine dh aC Vu (λ R r=>⟨_,rfl,r⟩) ⟨_,t,G,rfl,QC,ru,λ c rc=>⟨_,rfl,cK,λ k hk=>?_⟩⟩;have x2:=Ext.new (o:=.tup [.str "first",c,.int m]) hk;have Y0:aj H1 k (.tup [.str "first",c,.int m]) k=some (.tup [.str "first",c,.int m]):=be;generalize aj H1 k (.tup [.str "first",c,.int m])=H2 at x2 Y0 ⊢;have Te:=QC.trans x2;refine⟨_,rfl,a,C t.kind,da,fa,_,rfl,Te _ _ ha,Z.cls _ t.ā,Z.no _ t.ā _ aC,UG,_,rfl,pp,m,t.parts,rfl,rpp.mono Te,sm,λ l H3 x3 rl=>?_⟩;have Pq:=x2.trans x3;have XX:=QC.trans Pq;have Sw:=Pq _ _ OW;have hk3:=x3 _ _ Y0;refine⟨x,_,_,_,_,4,dx,[("dealer",dv)],rfl,ax,Sw,(by show 1<=5;decide),q m rfl m0 m1 _ ((k1.trans (Pq.kept x)).trans (bK _)) ?_⟩
  have kk:Kept H3 (aj H3 x (.ins (C 4) dx (fU (.int m) b (.ref k) (.ref l) [("dealer",dv)]))) x:=bK _;have Vh:=XX.kp nG kk;refine hX be (rb.mono Vh) ((Ą.tup hk3 (.cons (.str _) (.cons (rc.mono XX) (.cons (.int _) .nil)))).kept Sw kk) (rl.kept Sw kk) (λ n hn=>?_) ⟨dv,?_,rn.ext Vh⟩
  ·have e:n = "dealer" := by simpa using hn
   rw [e]
   decide +kernel
  ·rw [du aC];rfl
 have dl:=tU ru;refine⟨_,rfl,_,_,_,_,rfl,R_.kd Z,Z.kk t.kind 4 t.ā ax,_,rfl,?_⟩;by_cases e4:t.kind=4
 ·rw [show(t.kind==4)=true from by simpa using e4]
  obtain⟨a,da,fa,dv,rfl,ha,hd,rn⟩:=dl.1 e4;exact fV ⟨_,rfl,a,C 4,da,fa,_,rfl,xG _ _ ha,Z.cls 4 ax,Z.no 4 ax _ aC,hd,fin dv rn⟩
 ·rw [show(t.kind==4)=false from by simpa using e4]
  exact dj ⟨_,rfl,fin v (dl.2 e4)⟩
end
def Mx (H H':Hp):Prop:=∀ b o,H b=some o->(∀ xs,o ≠ .lst xs)->H' b=some o
theorem Ext.Rr (x:Ext H H'):Mx H H':=λ b o h _=>x b o h
theorem Mx.trans (a:Mx H H1)(b:Mx H1 H2):Mx H H2:=λ x o h n=>b x o (a x o h n) n
theorem Mx.refl (H:Hp):Mx H H:=λ _ _ h _=>h
theorem zD (o:HO)(h:H D=some (.lst ys)):Mx H (aj H D o):=λ b u e n=>by
 rw [ad (λ z=>by rw [z,h] at e;cases e;exact n ys rfl)]
 exact e
mutual
def aG:PyData->Bool
 | .list _=>false
 | .dict _=>false
 | .tuple xs=>ī xs
 | _=>true
def ī:List PyData->Bool
 | []=>true
 | x::xs=>aG x && ī xs
end
theorem eB:∀{ds:List PyData},(∀ d∈ds,aG d=true)->ī ds=true
 | [],_=>by simp [ī]
 | x::xs,h=>by
  simp only [ī,h x (List.mem_cons_self ..),eB λ d hd=>h d (List.mem_cons_of_mem _ hd),Bool.and_self]
mutual
theorem Ą.Ē (s:Mx G G'):∀{v:V}{d:PyData},aG d=true->Ą G v d->Ą G' v d
 | _,_,_,.Ă=>.Ă
 | _,_,_,.bl b=>.bl b
 | _,_,_,.int i=>.int i
 | _,_,_,.str x=>.str x
 | _,_,h,.lst e r=>by simp [aG] at h
 | _,_,h,.tup e r=>.tup (s _ _ e (λ _ z=>by cases z)) (Ý.Ē s (by simpa only [aG] using h) r)
 | _,_,h,.Oo e=>by simp [aG] at h
 | _,_,h,.RA e r=>by simp [aG] at h
theorem Ý.Ē (s:Mx G G'):∀{vs:List V}{ds:List PyData},ī ds=true->Ý G vs ds->Ý G' vs ds
 | _,_,_,.nil=>.nil
 | _,_,h,.cons r t=>by
  simp only [ī,Bool.and_eq_true] at h;exact .cons (Ą.Ē s h.1 r) (Ý.Ē s h.2 t)
end
theorem R0.nl (r:R0):aG r.told=true:=by cases r <;> simp [R0.told,aG,ī]
theorem R0.QG (r:R0):aG r.begin=true:=by cases r <;> simp [R0.begin,aG]
theorem Rl.nl:∀ t:Rl,aG t.told=true
 | .one r=>r.nl
 | .blocks rs=>by
  have:ī (rs.map R0.told)=true:=eB λ d hd=>by
   obtain⟨r,_,rfl⟩:=æ.mp hd;exact r.nl
  simp only [Rl.told,aG,ī,this,Bool.and_self]
 | .first t m=>by simp only [Rl.told,aG,ī,t.nl,Bool.and_self]
theorem Rl.QG:∀ t:Rl,aG t.begin=true
 | .one r=>r.QG
 | .blocks []=>by simp [Rl.begin,aG,ī]
 | .blocks (r::_)=>by simp only [Rl.begin,aG,ī,r.QG,Bool.and_self]
 | .first t _=>t.QG
theorem rO:∀(ns:List Int),ī (ns.map PyData.int)=true
 | []=>by simp [ī]
 | n::ns=>by simp only [List.map_cons,ī,aG,rO ns,Bool.and_self]
theorem iB (ps:List (List Int)):aG (eV ps)=true:=by
 refine eB λ d hd=>?_;obtain⟨p,_,rfl⟩:=æ.mp hd;exact rO p
theorem Ob.Ē (h:Ob C H v fk bg tl pt X)(s:Mx H H')(n1:aG bg=true)(n2:aG tl=true)(n3:aG pt=true)(k:∀ fs,X fs->Y fs):Ob C H' v fk bg tl pt Y:=by
 obtain⟨a,dx,fs,rfl,ha,h1,⟨b,h2,r2⟩,⟨m,h3,r3⟩,⟨p,h4,r4⟩,h5,h6⟩:=h.ex;exact⟨a,dx,fs,rfl,s _ _ ha (λ _ z=>by cases z),h1,⟨b,h2,r2.Ē s n1⟩,⟨m,h3,r3.Ē s n2⟩,⟨p,h4,r4.Ē s n3⟩,h5,k fs h6⟩
section
variable {C:Nat->Addr}{H H':Hp}
theorem jh:aG (.tuple [.int a,.int b])=true:=by simp [aG,ī]
theorem MV.Ē (h:MV C H r v)(s:Mx H H'):MV C H' r v:=Ob.Ē h s r.QG r.nl (iB _) λ fs e=>by
 cases r with
 | split _ _=>trivial
 | pairs _ a b =>
  obtain⟨c,e1,e2⟩:=e;exact⟨c,e1,e2.Ē s jh⟩
 | ę _ a b f =>
  obtain⟨⟨c,e1,e2⟩,e3⟩:=e;exact⟨⟨c,e1,e2.Ē s jh⟩,e3⟩
theorem Τ.Ē (h:Τ C H rs ws)(s:Mx H H'):Τ C H' rs ws:=⟨h.1,λ i r w a b=>MV.Ē (h.2 i r w a b) s⟩
theorem wC (h:Τ C H rs ws)(k:MV C H r v):Τ C H (rs ++ [r]) (ws ++ [v]):=by
 refine⟨by rw [Õ,Õ,h.1];rfl,λ i r' w' hr hw=>?_⟩
 rcases Ħ i rs.length with lt | ge
 ·rw [ý lt] at hr;rw [ý (by rw [<- h.1];exact lt)] at hw
  exact h.2 i r' w' hr hw
 ·rw [ç ge] at hr;rw [ç (by rw [<- h.1];exact ge)] at hw
  have i0:i=rs.length:=by
   rcases Ħ (i-rs.length) 1 with z | z
   ·omega
   ·rw [Ļ (by simpa using z)] at hr;cases hr
  subst i0;rw [Χ] at hr;rw [h.1,Χ] at hw;cases hr;cases hw;exact k
end
theorem fZ (hx:H x=none)(hd:H dx=none)(ne:dx≠x):Ext H (aj (aj H dx u) x v):=by
 have h2:aj H dx u x=none:=by rw [ad ne.symm];exact hx
 exact(Ext.new hd).trans (.new h2)
end My
namespace My
open PySem PySem.W L2
structure Ŝ where
 hand:Int
 t:Nat
 b:Nat
 next:PyData
structure Ŝ.good (s:Ŝ):Prop where
 h:s.hand=0\/s.hand=1
 t1:1<=s.t
 tb:s.t<=s.b
 ű:s.b<=100
 lo:Nat.gcd s.t s.b=1
 nl:aG s.next=true
theorem gB {H:Hp}{m:Addr}(h:H m=none)(o:HO):∃ H1,Ext H H1/\H1 m=some o/\aj H m o=H1:=⟨_,Ext.new h,be,rfl⟩
def bo (a b:Nat):Nat:=a/Nat.gcd a b
def aE (a b:Nat):Nat:=b/Nat.gcd a b
theorem jy (h1:1<=a)(h2:a<=b)(h3:b<=100):1<=bo a b/\bo a b<=aE a b/\aE a b<=100/\Nat.gcd (bo a b) (aE a b)=1:=by
 have g0:=Ū b h1;refine⟨(Nat.le_div_iff_mul_le g0).mpr (by rw [Nat.one_mul];exact Ĉ h1 (Ĵ a b)),Nat.div_le_div_right h2,Í (Ŀ _ _) h3,?_⟩
 unfold bo aE;rw [Nat.gcd_div (Ĵ a b) (Ę a b)];exact N5 g0
def R0.steps:R0->PyData->Int->List Ŝ
 | .split n _,.int s,x=>(if s<n-x then [⟨0,bo (n-x-s).toNat (n-x).toNat,aE (n-x-s).toNat (n-x).toNat,.int s⟩] else [])++(if 0<s then [⟨1,bo s.toNat (n-x).toNat,aE s.toNat (n-x).toNat,.int (s-1)⟩] else [])
 | .pairs _ a b,.none,_=>[⟨0,(b-a).toNat,b.toNat,.int 0⟩,⟨1,a.toNat,b.toNat,.int 1⟩]
 | .pairs _ _ _,.int h,_=>[⟨1-h,1,1,.none⟩]
 | .ę _ a b f,.int s,_=>if f<=s then [⟨0,1,1,.int (s-1)⟩] else if s <= -f then [⟨1,1,1,.int (s+1)⟩] else [⟨0,(b-a).toNat,b.toNat,.int (s-1)⟩,⟨1,a.toNat,b.toNat,.int (s+1)⟩]
 | _,_,_=>[]
def R0.q_:R0->Int->PyData->Prop
 | .split n _,x,st=>∃ s,st=.int s/\0<=s/\s<=n-x
 | .pairs _ _ _,x,st=>(x%2=0/\st=.none)\/(x%2=1/\(st=.int 0\/st=.int 1))
 | .ę _ _ _ _,x,st=>∃ s,st=.int s/\-x<=s/\s<=x
theorem cS (h:dF (.tuple [.int a,.int b])=true):∃ x y:Nat,a=(x:Int)/\b=(y:Int)/\1<=x/\x<y/\y<=100/\Nat.gcd x y=1:=by
 have h':(((decide (1<=b)&&(decide (0<=a)&&decide (a<=b)))&&decide (Nat.gcd a.toNat b.toNat=1))&&(decide (2<=b)&&decide (b<=100)))=true:=h;simp only [Bool.and_eq_true,decide_eq_true_iff] at h';obtain⟨⟨⟨h1,h2,h3⟩,g⟩,h5,h6⟩:=h';obtain⟨x,rfl⟩:∃ x:Nat,a=(x:Int):=⟨a.toNat,af⟩;obtain⟨y,rfl⟩:∃ y:Nat,b=(y:Int):=⟨b.toNat,af⟩;rw [Ù,Ù] at g;refine⟨x,y,rfl,rfl,?_,?_,af,g⟩
 ·grind
 ·grind
theorem pL (h:x<y)(g:Nat.gcd x y=1):Nat.gcd (y-x) y=1:=by
 have h1:Nat.gcd (y-x) y ∣ y-x:=Ĵ _ _;have h2:Nat.gcd (y-x) y ∣ y:=Ę _ _;have h3:Nat.gcd (y-x) y ∣ x:=by
  have e:y-(y-x)=x:=af;have q:=Nat.dvd_sub h2 h1
  rwa [e] at q
 exact Nat.dvd_one.mp (g ▸ Nat.dvd_gcd h3 h2)
theorem oI (h:dF (.tuple [.int a,.int b])=true)(n m:PyData)(hn:aG n=true)(hm:aG m=true):(⟨0,(b-a).toNat,b.toNat,n⟩:Ŝ).good/\(⟨1,a.toNat,b.toNat,m⟩:Ŝ).good:=by
 obtain⟨x,y,rfl,rfl,h1,h2,h3,g⟩:=cS h;have e:((y:Int)-(x:Int)).toNat=y-x:=af;rw [e,Ù,Ù];exact⟨⟨.inl rfl,by show 1<=y-x;omega,by show y-x<=y;omega,h3,pL h2 g,hn⟩,⟨.inr rfl,h1,by show x<=y;omega,h3,g,hm⟩⟩
theorem iq (h:hd=0\/hd=1)(n:PyData)(hn:aG n=true):(⟨hd,1,1,n⟩:Ŝ).good:=⟨h,Æ _,Æ _,by show 1<=100;decide,by show Nat.gcd 1 1=1;decide,hn⟩
theorem R0.ŏ {r:R0}(ok:r.ok)(x0:0<=x)(x1:x<r.Û)(v:r.q_ x st):(∀ s∈r.steps st x,s.good/\r.q_ (x+1) s.next)/\r.steps st x ≠ []:=by
 cases r with
 | split n k =>
  obtain⟨s,rfl,s0,s1⟩:=v;obtain⟨h1,h2,h3,h4⟩:=ok;have xn:x<n:=x1;refine⟨λ q hq=>?_,?_⟩
  ·rcases ß.mp hq with hq | hq
   ·by_cases c:s<n-x
    ·rw [Ó c] at hq;rw [É.mp hq];obtain⟨a1,a2,a3,a4⟩:=jy (a:=(n-x-s).toNat) (b:=(n-x).toNat) af af af;exact⟨⟨.inl rfl,a1,a2,a3,a4,rfl⟩,s,rfl,s0,af⟩
    ·rw [Ë c] at hq;cases hq
   ·by_cases c:0<s
    ·rw [Ó c] at hq;rw [É.mp hq];obtain⟨a1,a2,a3,a4⟩:=jy (a:=s.toNat) (b:=(n-x).toNat) af af af;exact⟨⟨.inr rfl,a1,a2,a3,a4,rfl⟩,s-1,rfl,af,af⟩
    ·rw [Ë c] at hq;cases hq
  ·intro e;have e':=List.append_eq_nil_iff.mp e;by_cases c:0<s
   ·have:=e'.2;rw [Ó c] at this;cases this
   ·have:=e'.1;rw [Ó af] at this;cases this
 | pairs n a b =>
  obtain⟨h1,h2,h3⟩:=ok;rcases v with⟨p,rfl⟩ | ⟨p,rfl | rfl⟩
  ·obtain⟨g0,g1⟩:=oI h3 (.int 0) (.int 1) rfl rfl;refine⟨λ q hq=>?_,λ e=>nomatch e⟩;rcases é.mp hq with rfl | hq
   ·exact⟨g0,.inr ⟨af,.inl rfl⟩⟩
   ·rw [É.mp hq];exact⟨g1,.inr ⟨af,.inr rfl⟩⟩
  ·refine⟨λ q hq=>?_,λ e=>nomatch e⟩;rw [É.mp hq];exact⟨iq (.inr rfl) _ rfl,.inl ⟨af,rfl⟩⟩
  ·refine⟨λ q hq=>?_,λ e=>nomatch e⟩;rw [É.mp hq];exact⟨iq (.inl rfl) _ rfl,.inl ⟨af,rfl⟩⟩
 | ę n a b f =>
  obtain⟨h1,h2,h3,h4,h5⟩:=ok;obtain⟨s,rfl,s0,s1⟩:=v;obtain⟨g0,g1⟩:=oI h3 (.int (s-1)) (.int (s+1)) rfl rfl;simp only [R0.steps];by_cases c:f<=s
  ·rw [Ó c];refine⟨λ q hq=>?_,λ e=>nomatch e⟩;rw [É.mp hq];exact⟨iq (.inl rfl) _ rfl,s-1,rfl,af,af⟩
  ·rw [Ë c];by_cases c2:s <= -f
   ·rw [Ó c2];refine⟨λ q hq=>?_,λ e=>nomatch e⟩;rw [É.mp hq];exact⟨iq (.inr rfl) _ rfl,s+1,rfl,af,af⟩
   ·rw [Ë c2];refine⟨λ q hq=>?_,λ e=>nomatch e⟩;rcases é.mp hq with rfl | hq
    ·exact⟨g0,s-1,rfl,af,af⟩
    ·rw [É.mp hq];exact⟨g1,s+1,rfl,af,af⟩
theorem R0.Ow {r:R0}(ok:r.ok):r.q_ 0 r.begin:=by
 cases r with
 | split n k=>obtain⟨h1,h2,h3,h4⟩:=ok;exact⟨k,rfl,h3,af⟩
 | pairs n a b=>exact .inl ⟨rfl,rfl⟩
 | ę n a b f=>exact⟨0,rfl,af,af⟩
def aw (rs:List R0)(i:Nat):Int:=((rs.take i).map R0.Û).sum
theorem gS {rs:List R0}(h:rs[i]?=some r):aw rs (i+1)=aw rs i+r.Û:=by
 unfold aw;rw [aM h,Ð,į];simp
def cg (rs:List R0)(i:Nat)(x:Int)(nx:PyData):PyData:=if x+1=aw rs (i+1) then cD rs (i+1) else .tuple [.int (i:Nat),nx]
theorem uq (rs:List R0)(n:Nat):aG (cD rs n)=true:=by
 unfold cD;cases rs[n]? with
 | none=>simp [aG,ī]
 | some r=>simp [aG,ī,r.QG]
theorem iw (h:aG nx=true):aG (cg rs i x nx)=true:=by
 unfold cg;split
 ·exact uq rs _
 ·simp [aG,ī,h]
def Rl.steps:Rl->PyData->Int->List Ŝ
 | .one r,st,x=>r.steps st x
 | .blocks rs,.tuple [.int i,inner],x=>match rs[i.toNat]? with
  | none=>[]
  | some r=>(r.steps inner (x-aw rs i.toNat)).map λ s=>{ s with next:=cg rs i.toNat x s.next }
 | .first t _,st,x=>t.steps st x
 | _,_,_=>[]
def Rl.q_:Rl->Int->PyData->Prop
 | .one r,x,st=>r.q_ x st
 | .blocks rs,x,st=>∃(i:Nat)(inner:PyData)(r:R0),st=.tuple [.int (i:Nat),inner]/\rs[i]?=some r/\aw rs i<=x/\x<aw rs i+r.Û/\r.q_ (x-aw rs i) inner
 | .first t _,x,st=>t.q_ x st
theorem Rl.ŏ:∀{t:Rl}{x:Int}{st:PyData},t.ok->0<=x->x<t.Û->t.q_ x st->(∀ s∈t.steps st x,s.good/\(x+1<t.Û->t.q_ (x+1) s.next))/\t.steps st x ≠ []
 | .one r,x,st,ok,x0,x1,v=>by
  obtain⟨h1,h2⟩:=R0.ŏ ok x0 x1 v;exact⟨λ s hs=>⟨(h1 s hs).1,λ _=>(h1 s hs).2⟩,h2⟩
 | .blocks rs,x,st,ok,x0,x1,v=>by
  obtain⟨i,inner,r,rfl,er,s0,s1,v⟩:=v;obtain⟨o1,o6,oo,P1⟩:=ok;have OS:=oo r (Ì er);obtain⟨h1,h2⟩:=R0.ŏ OS af af v;have es:(Rl.blocks rs).steps (.tuple [.int (i:Nat),inner]) x=(r.steps inner (x-aw rs i)).map λ s=>{ s with next:=cg rs i x s.next }:=by
   simp only [Rl.steps,Int.toNat_natCast,er]
  rw [es];refine⟨λ s hs=>?_,λ e=>h2 (List.map_eq_nil_iff.mp e)⟩;obtain⟨q,hq,rfl⟩:=æ.mp hs;obtain⟨g,vn⟩:=h1 q hq;refine⟨⟨g.h,g.t1,g.tb,g.ű,g.lo,iw g.nl⟩,λ lt=>?_⟩;have ss:=gS er;by_cases c:x+1=aw rs (i+1)
  ·have hi:i+1<rs.length:=by
    rcases Ħ (i+1) rs.length with z | z
    ·exact z
    ·exfalso;have e:aw rs (i+1)=(Rl.blocks rs).Û:=by
      unfold aw;rw [RP z];rfl
     omega
   have U2:=Å hi;have fk:=R0.Į (oo _ (Ĥ hi));refine⟨i+1,rs[i+1].begin,rs[i+1],?_,U2,af,af,?_⟩
   ·unfold cg cD;rw [Ó c,U2]
   ·rw [show x+1-aw rs (i+1)=0 by omega]
    exact R0.Ow (oo _ (Ĥ hi))
  ·refine⟨i,q.next,r,?_,er,af,af,?_⟩
   ·unfold cg;rw [Ë c]
   ·rw [show x+1-aw rs i=x-aw rs i+1 by omega]
    exact vn
 | .first t m,x,st,ok,x0,x1,v=>by
  obtain⟨o1,o2,o3⟩:=ok;have xm:x<m:=x1;obtain⟨h1,h2⟩:=Rl.ŏ o1 x0 af v;exact⟨λ s hs=>⟨(h1 s hs).1,λ lt=>(h1 s hs).2 (by have:x+1<m:=lt;omega)⟩,h2⟩
theorem Rl.Ow:∀{t:Rl},t.ok->0<t.Û->t.q_ 0 t.begin
 | .one r,ok,_=>R0.Ow ok
 | .blocks rs,ok,f=>by
  obtain⟨o1,o6,oo,P1⟩:=ok;cases rs with
  | nil=>exact absurd o1 ax
  | cons r rs =>
   have OS:=oo r (Ö ..);have fk:=R0.Į OS;exact⟨0,r.begin,r,rfl,rfl,by show(0:Int)<=0;decide,by show(0:Int)<0+r.Û;omega,R0.Ow OS⟩
 | .first t m,ok,f=>by
  obtain⟨o1,o2,o3⟩:=ok;have:0<m:=f;exact Rl.Ow (t:=t) o1 af
theorem Rl.G_:∀(t:Rl)(st:PyData)(x:Int),t.inner.steps st x=t.steps st x
 | .one _,_,_=>rfl
 | .blocks _,_,_=>rfl
 | .first t _,st,x=>Rl.G_ t st x
theorem Rl.Nx:∀(t:Rl)(x:Int)(st:PyData),t.q_ x st->t.inner.q_ x st
 | .one _,_,_,h=>h
 | .blocks _,_,_,h=>h
 | .first t _,x,st,h=>Rl.Nx t x st h
theorem Rl.Oi:∀{t:Rl},t.ok->t.inner.ok/\t.Û <= t.inner.Û
 | .one _,h=>⟨h,MF _⟩
 | .blocks _,h=>⟨h,MF _⟩
 | .first t m,⟨o1,o2,o3⟩=>by
  obtain⟨h1,h2⟩:=Rl.Oi o1;exact⟨h1,Int.le_trans o3 h2⟩
def R0.dd:R0->Int->Nat
 | .split n _,x=>(n-x).toNat
 | .pairs _ _ b,_=>b.toNat
 | .ę _ _ b _,_=>b.toNat
theorem wI:aE a b ∣ b:=Nat.div_dvd_of_dvd (Ę a b)
theorem oX (h:1<=b):bo a b*(b/aE a b)=a:=by
 have g0:=ņ a h;have e:b/aE a b=Nat.gcd a b:=by
  exact Nat.div_div_self (Ę a b) af
 rw [e];exact Nat.div_mul_cancel (Ĵ a b)
def Ŝ.part (s:Ŝ)(d:Nat):Nat:=s.t*(d/s.b)
theorem R0.ON {r:R0}(ok:r.ok)(x0:0<=x)(x1:x<r.Û)(v:r.q_ x st):1<=r.dd x/\r.dd x<=100/\(∀ s∈r.steps st x,s.b ∣ r.dd x)/\((r.steps st x).map λ s=>s.part (r.dd x)).sum=r.dd x:=by
 cases r with
 | split n k =>
  obtain⟨s,rfl,s0,s1⟩:=v;obtain⟨h1,h2,h3,h4⟩:=ok;have xn:x<n:=x1;obtain⟨b,eb⟩:∃ b:Nat,n-x=(b:Int):=⟨(n-x).toNat,af⟩;obtain⟨c,rfl⟩:∃ c:Nat,s=(c:Int):=⟨s.toNat,af⟩;have ebn:(n-x).toNat=b:=af;have eb1:(n-x-(c:Int)).toNat=b-c:=af;have b1:1<=b:=af;show 1<=(n-x).toNat/\(n-x).toNat<=100/\(∀ s∈(if(c:Int)<n-x then [(⟨0,bo (n-x-(c:Int)).toNat (n-x).toNat,aE (n-x-(c:Int)).toNat (n-x).toNat,.int (c:Nat)⟩:Ŝ)] else [])++(if(0:Int)<(c:Int) then [(⟨1,bo ((c:Int)).toNat (n-x).toNat,aE ((c:Int)).toNat (n-x).toNat,.int ((c:Int)-1)⟩:Ŝ)] else []),s.b ∣ (n-x).toNat)/\(((if(c:Int)<n-x then [(⟨0,bo (n-x-(c:Int)).toNat (n-x).toNat,aE (n-x-(c:Int)).toNat (n-x).toNat,.int (c:Nat)⟩:Ŝ)] else [])++(if(0:Int)<(c:Int) then [(⟨1,bo ((c:Int)).toNat (n-x).toNat,aE ((c:Int)).toNat (n-x).toNat,.int ((c:Int)-1)⟩:Ŝ)] else [])).map λ s=>s.part (n-x).toNat).sum=(n-x).toNat
  rw [ebn,eb1,Ù];have p0:(⟨0,bo (b-c) b,aE (b-c) b,.int (c:Nat)⟩:Ŝ).part b=b-c:=oX b1;have p1:(⟨1,bo c b,aE c b,.int ((c:Int)-1)⟩:Ŝ).part b=c:=oX b1;refine⟨b1,af,λ s hs=>?_,?_⟩
  ·rcases ß.mp hs with hs | hs
   ·split at hs
    ·rw [É.mp hs];exact wI
    ·cases hs
   ·split at hs
    ·rw [É.mp hs];exact wI
    ·cases hs
  ·rw [Ð,į];by_cases c1:(c:Int)<n-x
   ·rw [Ó c1];by_cases c2:(0:Int)<(c:Int)
    ·rw [Ó c2];simp only [List.map_cons,List.map_nil,List.sum_cons,List.sum_nil,p0,p1];omega
    ·rw [Ë c2];simp only [List.map_cons,List.map_nil,List.sum_cons,List.sum_nil,p0];omega
   ·rw [Ë c1];by_cases c2:(0:Int)<(c:Int)
    ·rw [Ó c2];simp only [List.map_cons,List.map_nil,List.sum_cons,List.sum_nil,p1];omega
    ·omega
 | pairs n a b =>
  obtain⟨h1,h2,h3⟩:=ok;obtain⟨x',y,rfl,rfl,k1,k2,k3,kg⟩:=cS h3;have e1:((y:Int)-(x':Int)).toNat=y-x':=af;have dy:y/y=1:=N5 af;rcases v with⟨p,rfl⟩ | ⟨p,hh⟩
  ·refine⟨by show 1<=((y:Int)).toNat;omega,by show((y:Int)).toNat<=100;omega,λ s hs=>?_,?_⟩
   ·have OZ:s∈([⟨0,((y:Int)-(x':Int)).toNat,(y:Int).toNat,.int 0⟩,⟨1,(x':Int).toNat,(y:Int).toNat,.int 1⟩]:List Ŝ):=hs;simp only [List.mem_cons,List.not_mem_nil,or_false] at OZ;rcases OZ with rfl | rfl <;> exact RO _
   ·show((y:Int)-(x':Int)).toNat*((y:Int).toNat/(y:Int).toNat)+((x':Int).toNat*((y:Int).toNat/(y:Int).toNat)+0)=(y:Int).toNat;rw [e1,Ù,Ù,dy];omega
  ·have one:∀ h:Int,st=.int h->1<=((y:Int)).toNat/\((y:Int)).toNat<=100/\(∀ s∈(R0.pairs n x' y).steps st x,s.b ∣ (y:Int).toNat)/\(((R0.pairs n x' y).steps st x).map λ s=>s.part (y:Int).toNat).sum=(y:Int).toNat:=λ h e=>by
    subst e;refine⟨af,af,λ s hs=>?_,?_⟩
    ·have OZ:s∈([⟨1-h,1,1,.none⟩]:List Ŝ):=hs;rw [É.mp OZ];exact Γ _
    ·show 1*((y:Int).toNat/1)+0=(y:Int).toNat;rw [ū];omega
   rcases hh with e | e
   ·exact one _ e
   ·exact one _ e
 | ę n a b f =>
  obtain⟨h1,h2,h3,h4,h5⟩:=ok;obtain⟨x',y,rfl,rfl,k1,k2,k3,kg⟩:=cS h3;obtain⟨s,rfl,s0,s1⟩:=v;have e1:((y:Int)-(x':Int)).toNat=y-x':=af;have dy:y/y=1:=N5 af;refine⟨by show 1<=((y:Int)).toNat;omega,by show((y:Int)).toNat<=100;omega,?_⟩
  show(∀ q∈(R0.ę n x' y f).steps (.int s) x,q.b ∣ (y:Int).toNat)/\(((R0.ę n x' y f).steps (.int s) x).map λ q=>q.part (y:Int).toNat).sum=(y:Int).toNat;simp only [R0.steps];by_cases c:f<=s
  ·rw [Ó c];refine⟨λ q hq=>by rw [É.mp hq];exact Γ _,?_⟩
   show 1*((y:Int).toNat/1)+0=(y:Int).toNat;rw [ū];omega
  ·rw [Ë c];by_cases c2:s <= -f
   ·rw [Ó c2];refine⟨λ q hq=>by rw [É.mp hq];exact Γ _,?_⟩
    show 1*((y:Int).toNat/1)+0=(y:Int).toNat;rw [ū];omega
   ·rw [Ë c2];refine⟨λ q hq=>?_,?_⟩
    ·simp only [List.mem_cons,List.not_mem_nil,or_false] at hq;rcases hq with rfl | rfl <;> exact RO _
    ·show((y:Int)-(x':Int)).toNat*((y:Int).toNat/(y:Int).toNat)+((x':Int).toNat*((y:Int).toNat/(y:Int).toNat)+0)=(y:Int).toNat;rw [e1,Ù,Ù,dy];omega
theorem w_:bo a b*b=aE a b*a:=by
 unfold bo aE;have e1:=Nat.mul_div_cancel' (Ĵ a b);have e2:=Nat.mul_div_cancel' (Ę a b);generalize a/Nat.gcd a b=u at e1 ⊢;generalize b/Nat.gcd a b=v at e2 ⊢;generalize Nat.gcd a b=g at e1 e2
 calc u*b=u*(g*v):=by rw [e2]
  _=v*(g*u):=by ac_rfl
  _=v*a:=by rw [e1]
theorem lh (hb:0<b)(hd:0<d)(h:a*d=c*b):bo a b=bo c d/\aE a b=aE c d:=by
 unfold bo aE;have e1:a/Nat.gcd a b=a*d/Nat.gcd (a*d) (b*d):=by rw [f_,Ÿ _ _ hd]
 have e2:b/Nat.gcd a b=b*d/Nat.gcd (a*d) (b*d):=by rw [f_,Ÿ _ _ hd]
 have e3:c/Nat.gcd c d=c*b/Nat.gcd (c*b) (d*b):=by rw [f_,Ÿ _ _ hb]
 have e4:d/Nat.gcd c d=d*b/Nat.gcd (c*b) (d*b):=by rw [f_,Ÿ _ _ hb]
 rw [e1,e2,e3,e4,h,RM d b];exact⟨rfl,rfl⟩
theorem sP (hF:0<F):bo 0 F=0/\aE 0 F=1:=by
 unfold bo aE;rw [Nat.gcd_zero_left,Nat.zero_div,N5 hF];exact⟨rfl,rfl⟩
theorem vI:aE S F<=F:=Ŀ _ _
theorem lM (hF:0<F):0<aE S F:=Nat.div_pos (Ĉ hF (Ę S F)) (ņ S hF)
abbrev TJ:=Str->St->Hp->(Str->Hp->Prop)->Prop
def sZ (K:Frag)(a:Addr)(xs:List V):Prop:=∃(o:Obj)(its:Array Value)(n:Nat),K.lookup a=some o/\o.cls=.type "tuple" /\ o.data=.seq its n/\its.size<=sizeLine/\Vals xs its.toList
def oD:Option Nat->PyData
 | some n=>.int n
 | none=>.none
section
variable {P:Program}{w:World}{K:Frag}{mg:cr}{base:Heap}
def Sz (n:Nat):Prop:=n<2^8999
theorem Sz.log (h:Sz n):((n:Nat):Int).natAbs.log2<9000:=by
 rw [Int.natAbs_natCast];by_cases z:n=0
 ·rw [z];decide
 ·exact(Nat.log2_lt z).mpr (N3 h (Nat.pow_lt_pow_right ax ax))
theorem Sz.mono (h:Sz n)(e:m<=n):Sz m:=ι e h
theorem ji (h:n<2^k):Builtin.Int.intBits ((n:Nat):Int)<=k:=by
 unfold Builtin.Int.intBits;split
 ·exact Đ _
 ·rename_i hz
  have hn:n≠0:=λ e=>by subst e;exact hz rfl
  have:=(Nat.log2_lt hn).mpr h;rw [Int.natAbs_natCast];omega
theorem vh (n:Nat):Builtin.Int.intBits (-(n:Int))=Builtin.Int.intBits ((n:Nat):Int):=by
 unfold Builtin.Int.intBits;by_cases z:n=0
 ·subst z;rfl
 ·rw [Ë (by simp;omega),Ë (by simp;omega),Int.natAbs_neg]
theorem gm (h:Sz m)(k:Sz n):Pn ((m:Nat):Int) ((n:Nat):Int):=by
 have h1:=ji h;have h2:=ji k;show _+_<=1000000;omega
def Ls (C:Int)(c:Nat):Prop:=C=(c:Int)\/C = -(c:Int)
theorem LB (s:Ls C c)(h:Sz c)(k:Sz n):Pn C ((n:Nat):Int):=by
 have h1:=ji h;have h2:=ji k;show _+_<=1000000;rcases s with rfl | rfl
 ·omega
 ·rw [vh];omega
abbrev DF:Stmt:=cP 17
def zK (K:Frag):Sp:=λ vs H Q _=>∃(p:Addr)(a b c d W:Nat)(C:Int),vs=[.ref p,.int C,.int d]/\Ė K H p [.int a,.int b]/\Ls C c/\Sz a/\Sz b/\Sz c/\Sz d/\1<=b/\1<=d /\
 (a:Int)*((d/Nat.gcd b d:Nat):Int)+C*((b/Nat.gcd b d:Nat):Int)=(W:Int)/\∀ r,H r=none->Q (.ref r) (aj H r (.tup [.int (W/Nat.gcd W (Nat.gcd b d):Nat),.int (b/Nat.gcd b d*(d/Nat.gcd W (Nat.gcd b d)):Nat)]))
theorem Rf:ai ["one","top","bottom","common","whole","struck"] ["one","top","bottom"] (aa DF):=bc
theorem DR (F:ĵ K "added" "added" DF f fd) (G:í P w K mg base aB 1 g gd ["one","other"] fe) (bG:Binds K gd ["one","other"] []) (kG:keepIn K (.ref g)=true) (mG:mg "greatest_common" = some (.ref g)):í P w K mg base aB 2 f fd ["one","top","bottom"] (zK K):=by
 refine F.ok Rf (λ vs H Q E h=>?_) (λ cdv A outer s H vs Q E hr h=>?_)
 ·obtain⟨p,a,b,c,d,W,C,rfl,_⟩:=h;rfl
 obtain⟨p,a,b,c,d,W,C,rfl,hp,sg,sa,sb,sc,sd,b1,d1,hW,q⟩:=h;have nd:=Rf.nd;refine⟨_,bb (dk (i:=3) nd rfl (Or.inl rfl) (i8 G hr rfl mG kG bG .nil ag (ac (bL cB (pv 0) ay) (ac (pv 2) ar))))
  (bb (dk (i:=4) nd rfl (.inl rfl) (ak bf (ak cR (bL cB (pv 0) ay) (ak cH (pv 2) (pv 3))) (ak cR (pv 1) (ak cH (bL cB (pv 0) ay) (pv 3)))))
  (bb (dk (i:=5) nd rfl (.inl rfl) (i8 G hr rfl mG kG bG .nil ag (ac (pv 4) (ac (pv 3) ar))))
  (aW (cn (aP (ac (ak cH (pv 4) (pv 5)) (ac (ak cR (ak cH (bL cB (pv 0) ay) (pv 3)) (ak cH (pv 2) (pv 5))) ar))))))),?_⟩
 have g0:=Ū d b1;have Wn:=sb.mono (Ĉ b1 (Ĵ b d));have gi:mv ((d:Nat):Int) ((Nat.gcd b d:Nat):Int):=⟨af,Wn.log⟩;have gj:mv ((b:Nat):Int) ((Nat.gcd b d:Nat):Int):=⟨af,Wn.log⟩;have e1:((d:Int)/((Nat.gcd b d:Nat):Int))=((d/Nat.gcd b d:Nat):Int):=by simp
 have e2:((b:Int)/((Nat.gcd b d:Nat):Int))=((b/Nat.gcd b d:Nat):Int):=by simp
 have sd1:Sz (d/Nat.gcd b d):=sd.mono (Ŀ _ _);have R':Sz (b/Nat.gcd b d):=sb.mono (Ŀ _ _);refine⟨_,rfl,p,_,_,_,rfl,rfl,hp,rfl,_,rfl,b,d,rfl,?_⟩;refine⟨_,rfl,p,_,_,_,rfl,rfl,hp,rfl,_,rfl,_,rfl,_,_,rfl,rfl,gi,_,_,rfl,rfl,by rw [e1];exact gm sa sd1,?_⟩
 refine⟨_,rfl,_,rfl,p,_,_,_,rfl,rfl,hp,rfl,_,rfl,_,_,rfl,rfl,gj,_,_,rfl,rfl,by rw [e2];exact LB sg sc R',_,_,rfl,rfl,?_⟩
 show(aA _ _) _ [some (.ref p),some (.int C),some (.int d),some (.int (Nat.gcd b d:Nat)),some (.int ((a:Int)*((d:Int)/((Nat.gcd b d:Nat):Int))+C*((b:Int)/((Nat.gcd b d:Nat):Int)))),none] H;rw [e1,e2,hW];have s0:=ņ W g0;have ss:=Wn.mono (Ĉ g0 (Ę W _));have gs:∀ n:Nat,mv ((n:Nat):Int) ((Nat.gcd W (Nat.gcd b d):Nat):Int):=λ n=>⟨af,ss.log⟩;have e3:((W:Int)/((Nat.gcd W (Nat.gcd b d):Nat):Int))=((W/Nat.gcd W (Nat.gcd b d):Nat):Int):=by simp
 have e4:((d:Int)/((Nat.gcd W (Nat.gcd b d):Nat):Int))=((d/Nat.gcd W (Nat.gcd b d):Nat):Int):=by simp
 refine⟨_,rfl,_,rfl,W,Nat.gcd b d,rfl,?_⟩;refine⟨_,rfl,_,rfl,_,_,rfl,rfl,gs W,_,rfl,p,_,_,_,rfl,rfl,hp,rfl,_,rfl,_,_,rfl,rfl,gj,_,rfl,_,rfl,_,_,rfl,rfl,gs d,_,_,rfl,rfl,by rw [e2,e4];exact gm R' (sd.mono (Ŀ _ _)),cK,λ r hr=>?_⟩
 have:=q r hr;rw [ğ,<- e2,<- e3,<- e4] at this;exact this
abbrev D6:Stmt:=cP 19
def zr (K:Frag):Sp:=λ vs H Q _=>∃(p r:Addr)(a b c d:Nat),vs=[.ref p,.ref r]/\Ė K H p [.int a,.int b]/\Ė K H r [.int c,.int d]/\Sz a/\Sz b/\Sz c/\Sz d/\Q (.bl (decide (a*d<c*b))) H
theorem EJ:ai ["one","other"] ["one","other"] (aa D6):=bc
theorem AM (F:ĵ K "less_share" "less_share" D6 f fd):í P w K mg base aB 1 f fd ["one","other"] (zr K):=by
 refine F.ok EJ (λ vs H Q E h=>?_) (λ cdv A outer s H vs Q E hr h=>?_)
 ·obtain⟨p,r,a,b,c,d,rfl,_⟩:=h;rfl
 obtain⟨p,r,a,b,c,d,rfl,hp,O0,sa,sb,sc,sd,q⟩:=h;refine⟨_,aW (cn (cQ k9 (ak cR (bL cB (pv 0) ay) (bL cB (pv 1) ay)) (ak cR (bL cB (pv 1) ay) (bL cB (pv 0) ay)) (au _))),?_⟩;refine⟨_,rfl,p,_,_,_,rfl,rfl,hp,rfl,_,rfl,r,_,_,_,rfl,rfl,O0,rfl,_,_,rfl,rfl,gm sa sd,?_⟩;refine⟨_,rfl,r,_,_,_,rfl,rfl,O0,rfl,_,rfl,p,_,_,_,rfl,rfl,hp,rfl,_,_,rfl,rfl,gm sc sb,_,_,rfl,rfl,?_⟩;have e:decide ((a:Int)*(d:Int)<(c:Int)*(b:Int))=decide (a*d<c*b):=by
  rw [Λ,ÿ,ÿ];rw [<- ğ,<- ğ];omega
 show Q (.bl (decide ((a:Int)*(d:Int)<(c:Int)*(b:Int)))) H;rw [e];exact q
end
theorem fO {n:Nat}(h:n<=100):Sz n:=ι h (ä (by decide:100<2^7) (þ ax ax))
def RD (K:Frag)(H:Hp)(v:V)(t b:Nat):Prop:=∃ p,v=.ref p/\Ė K H p [.int (t:Nat),.int (b:Nat)]
theorem RD.ext {K:Frag}{H H':Hp}{v:V}{t b:Nat}(h:RD K H v t b)(x:Ext H H'):RD K H' v t b:=by
 obtain⟨p,e,q⟩:=h;exact⟨p,e,My.Ė.ext q x⟩
def Qi (K:Frag)(H:Hp)(p:V)(s:Ŝ):Prop:=∃ a sv nv,p=.ref a/\H a=some (.tup [.int s.hand,sv,nv])/\RD K H sv s.t s.b/\Ą H nv s.next
theorem Qi.ext {K:Frag}{H H':Hp}{p:V}{s:Ŝ}(h:Qi K H p s)(x:Ext H H'):Qi K H' p s:=by
 obtain⟨a,sv,nv,e,ha,hs,hn⟩:=h;exact⟨a,sv,nv,e,x _ _ ha,hs.ext x,hn.mono x⟩
inductive h_ (K:Frag)(H:Hp):List V->List Ŝ->Prop
 | nil:h_ K H [] []
 | cons {p:V} {s:Ŝ} {ps:List V} {ss:List Ŝ}:Qi K H p s->h_ K H ps ss->h_ K H (p::ps) (s::ss)
theorem h_.ext {K:Frag}{H H':Hp}(x:Ext H H'):∀{ps:List V}{ss:List Ŝ},h_ K H ps ss->h_ K H' ps ss
 | _,_,.nil=>.nil
 | _,_,.cons a b=>.cons (a.ext x) (b.ext x)
theorem h_.app {K:Frag}{H:Hp}:∀{ps qs:List V}{ss ts:List Ŝ},h_ K H ps ss->h_ K H qs ts->h_ K H (ps++qs) (ss++ts)
 | _,_,_,_,.nil,h=>h
 | _,_,_,_,.cons a b,h=>.cons a (b.app h)
theorem h_.len {K:Frag}{H:Hp}:∀{ps:List V}{ss:List Ŝ},h_ K H ps ss->ps.length=ss.length
 | _,_,.nil=>rfl
 | _,_,.cons _ b=>by rw [ì,ì,b.len]
theorem h_.get {K:Frag}{H:Hp}:∀{ps:List V}{ss:List Ŝ},h_ K H ps ss->∀{i:Nat}{p:V},ps[i]?=some p->∃ s,ss[i]?=some s/\Qi K H p s
 | _,_,.nil,i,p,h=>by simp at h
 | _,_,.cons a b,0,p,h=>by cases h;exact⟨_,rfl,a⟩
 | _,_,.cons a b,i+1,p,h=>b.get h
def RC (K:Frag)(H:Hp)(l:Addr)(ss:List Ŝ):Prop:=∃ ps,H l=some (.lst ps)/\h_ K H ps ss
def Iq (K:Frag)(H H':Hp)(l:Addr)(ss:List Ŝ):Prop:=H l=none/\RC K H' l ss
theorem Ext.back {H H':Hp}{l:Addr}(x:Ext H H')(h:H' l=none):H l=none:=by
 cases e:H l with
 | none=>rfl
 | some o=>rw [x _ _ e] at h;cases h
section
variable {P:Program}{w:World}{K:Frag}{mg:cr}{base:Heap}{f a1 a2 a3 n1:Addr}{fd d1 d2 d3:FuncData}
abbrev JW:Stmt:=cP 15
def p9:Sp:=λ vs H Q _=>∃ a b:Nat,vs=[.int a,.int b]/\1<=b/\a<=b/\Sz b/\∀ p,H p=none->Q (.ref p) (aj H p (.tup [.int (bo a b:Nat),.int (aE a b:Nat)]))
theorem TC:ai ["top","bottom","common"] ["top","bottom"] (aa JW):=bc
theorem FX (F:ĵ K "share_of" "share_of" JW f fd) (A1:Df P w K mg base aB 3 "is_part" ["top","bottom"] (pW K) a1 d1) (A2:Df P w K mg base aB 1 "greatest_common" ["one","other"] fe a2 d2):í P w K mg base aB 4 f fd ["top","bottom"] p9:=by
 refine F.ok TC (λ vs H Q E h=>?_) (λ cdv A outer s H vs Q E hr h=>?_)
 ·obtain⟨a,b,rfl,_⟩:=h;rfl
 obtain⟨a,b,rfl,b1,ab,ű,q⟩:=h;have nd:=TC.nd;have Ŧ:ć 1 _:=hr.mono ax;refine⟨_,bb (aJ (cw (bz (bZ A1 hr ag (ac (pv 0) (ac (pv 1) ar))))) (aW bH) cT)
  (bb (dk (i:=2) nd rfl (Or.inl rfl) (bZ A2 Ŧ ag (ac (pv 0) (ac (pv 1) ar))))
  (aW (cn (aP (ac (ak cH (pv 0) (pv 2)) (ac (ak cH (pv 1) (pv 2)) ar)))))),?_⟩
 have pv1:kE (.int (a:Nat)) (.int (b:Nat))=true:=by
  show(decide ((1:Int)<=(b:Nat))&&(decide ((0:Int)<=(a:Nat))&&decide (((a:Nat):Int)<=(b:Nat))))=true;rw [Ç af,Ç af,Ç af];rfl
 have g0:0<Nat.gcd a b:=ņ a b1;have gl:Sz (Nat.gcd a b):=ű.mono (Ĉ b1 (Ę a b));have gd:∀ n:Nat,mv ((n:Nat):Int) ((Nat.gcd a b:Nat):Int):=λ n=>⟨af,gl.log⟩;refine⟨_,rfl,_,rfl,_,_,rfl,.inl ⟨_,rfl⟩,.inl ⟨_,rfl⟩,?_⟩;rw [pv1];refine⟨_,rfl,dj ⟨_,rfl,_,rfl,a,b,rfl,?_⟩⟩;refine⟨_,rfl,_,rfl,_,_,rfl,rfl,gd a,_,rfl,_,rfl,_,_,rfl,rfl,gd b,cK,λ p hp=>?_⟩;have e1:((a:Int)/((Nat.gcd a b:Nat):Int))=((bo a b:Nat):Int):=by simp [bo]
 have e2:((b:Int)/((Nat.gcd a b:Nat):Int))=((aE a b:Nat):Int):=by simp [aE]
 show Q (.ref p) (aj H p (.tup [.int ((a:Int)/((Nat.gcd a b:Nat):Int)),.int ((b:Int)/((Nat.gcd a b:Nat):Int))]));rw [e1,e2];exact q p hp
abbrev IZ:Stmt:=cP 18
def FG (K:Frag):Sp:=λ vs H Q _=>∃(p r:Addr)(x y:Nat),vs=[.ref p,.ref r]/\Ė K H p [.int (1:Nat),.int (1:Nat)]/\Ė K H r [.int (x:Nat),.int (y:Nat)]/\x<y/\y<=100/\∀ l,H l=none->Q (.ref l) (aj H l (.tup [.int (y-x:Nat),.int (y:Nat)]))
theorem KM:ai ["one","other"] ["one","other"] (aa IZ):=bc
theorem Fp (F:ĵ K "minus_share" "minus_share" IZ f fd) (A1:Df P w K mg base aB 1 "less_share" ["one","other"] (zr K) a1 d1) (A2:Df P w K mg base aB 2 "added" ["one","top","bottom"] (zK K) a2 d2):í P w K mg base aB 3 f fd ["one","other"] (FG K):=by
 refine F.ok KM (λ vs H Q E h=>?_) (λ cdv A outer s H vs Q E hr h=>?_)
 ·obtain⟨p,r,x,y,rfl,_⟩:=h;rfl
 obtain⟨p,r,x,y,rfl,hp,O0,xy,RX,q⟩:=h;have Ŧ:ć 1 _:=hr.mono ax;refine⟨_,bb (aJ (bz (bZ A1 Ŧ ag (ac (pv 0) (ac (pv 1) ar)))) (aW bH) cT)
  (aW (cn (bZ A2 hr ag (ac (pv 0) (ac (jS gX (bL cB (pv 1) ay)) (ac (bL cB (pv 1) ay) ar)))))),?_⟩
 have s1:Sz 1:=fO ax;have sx:Sz x:=fO af;have sy:Sz y:=fO RX;refine⟨_,rfl,_,rfl,p,r,1,1,x,y,rfl,hp,O0,s1,s1,sx,sy,?_⟩;rw [show decide (1*y<x*1)=false from Ò af];refine⟨_,rfl,dj ⟨_,rfl,_,rfl,r,_,0,_,rfl,rfl,O0,jU (j:=0) rfl,_,rfl,_,rfl,r,_,1,_,rfl,rfl,O0,jU (j:=1) rfl,?_⟩⟩;refine⟨p,1,1,x,y,y-x,_,rfl,hp,.inr rfl,s1,s1,sx,sy,Æ _,af,?_,λ l hl=>?_⟩
 ·rw [Nat.gcd_one_left,ū,ū];omega
 ·have:=q l hl;rw [Nat.gcd_one_left,Nat.gcd_one_right,ū,ū,ū,Nat.one_mul];exact this
abbrev Jz:Stmt:=cP 31
def oF (K:Frag):Sp:=λ vs H Q _=>∃(r:Addr)(z o:V)(x y:Nat)(dz dO:PyData),vs=[.ref r,z,o]/\Ė K H r [.int (x:Nat),.int (y:Nat)]/\x<y/\y<=100/\Ą H z dz/\Ą H o dO/\∀ l H',Ext H H'->Iq K H H' l [⟨0,y-x,y,dz⟩,⟨1,x,y,dO⟩]->Q (.ref l) H'
theorem Js:ai ["coin","zero","one"] ["coin","zero","one"] (aa Jz):=bc
theorem Hn (F:ĵ K "coin_steps" "coin_steps" Jz f fd) (A1:Df P w K mg base aB 3 "minus_share" ["one","other"] (FG K) a1 d1) (mA:mg "ALL" = some (.ref n1)) (tA:sZ K n1 [.int (1:Nat),.int (1:Nat)]):í P w K mg base aB 4 f fd ["coin","zero","one"] (oF K):=by
 refine F.ok Js (λ vs H Q E h=>?_) (λ cdv A outer s H vs Q E hr h=>?_)
 ·obtain⟨r,z,o,x,y,dz,dO,rfl,_⟩:=h;rfl
 obtain⟨r,z,o,x,y,dz,dO,rfl,O0,xy,RX,rz,ro,q⟩:=h;refine⟨_,aW (cn (cF (ac (aP (ac ay (ac (bZ A1 hr ag (ac (bI (v:=.ref n1) rfl mA rfl) (ac (pv 0) ar))) (ac (pv 1) ar)))) (ac (aP (ac ay (ac (pv 0) (ac (pv 2) ar)))) ar)))),?_⟩;refine⟨_,rfl,n1,r,x,y,rfl,.inr tA,O0,xy,RX,λ m hm=>?_⟩;obtain⟨H1,x1,g1,eU⟩:=gB hm (.tup [.int (y-x:Nat),.int (y:Nat)]);rw [eU];refine⟨_,rfl,cK,λ a ha=>?_⟩;obtain⟨H2,x2,g2,eU⟩:=gB ha (.tup [.int 0,.ref m,z]);rw [eU];refine⟨_,rfl,_,rfl,cK,λ b hb=>⟨cK,λ l hl=>?_⟩⟩;have x3:=Ext.new (o:=.tup [.int 1,.ref r,o]) hb;have g3:aj H2 b (.tup [.int 1,.ref r,o]) b=some (.tup [.int 1,.ref r,o]):=be;have x4:=Ext.new (o:=.lst [.ref a,.ref b]) hl;have Wf:=x3.trans x4;have Pr:=(x1.trans x2).trans Wf;exact q l _ Pr ⟨((x1.trans x2).trans x3).back hl,_,be,.cons ⟨a,.ref m,z,rfl,Wf _ _ g2,⟨m,rfl,Ė.of ((x2.trans Wf) _ _ g1)⟩,rz.mono Pr⟩ (.cons ⟨b,.ref r,o,rfl,x4 _ _ g3,⟨r,rfl,My.Ė.ext O0 Pr⟩,ro.mono Pr⟩ .nil)⟩
end
theorem Ė.Ē {K:Frag}{H H':Hp}{p:Addr}{xs:List V}(h:Ė K H p xs)(s:Mx H H'):Ė K H' p xs:=by
 rcases h with h | h
 ·left;rcases h with h | ⟨o,h⟩
  ·exact .inl (s _ _ h (λ _ e=>by cases e))
  ·exact .inr ⟨o,s _ _ h (λ _ e=>by cases e)⟩
 ·exact .inr h
theorem Qi.Ē {K:Frag}{H H':Hp}{p:V}{s:Ŝ}(h:Qi K H p s)(k:Mx H H')(n:aG s.next=true):Qi K H' p s:=by
 obtain⟨a,sv,nv,e,ha,⟨q,eq,hq⟩,hn⟩:=h;exact⟨a,sv,nv,e,k _ _ ha (λ _ e=>by cases e),⟨q,eq,My.Ė.Ē hq k⟩,hn.Ē k n⟩
theorem h_.Ē {K:Frag}{H H':Hp}(k:Mx H H'):∀{ps:List V}{ss:List Ŝ},h_ K H ps ss->(∀ s∈ss,aG s.next=true)->h_ K H' ps ss
 | _,_,.nil,_=>.nil
 | _,_,.cons a b,h=>.cons (a.Ē k (h _ (Ö ..))) (b.Ē k λ s hs=>h s (Ï _ hs))
section
variable {P:Program}{w:World}{K:Frag}{mg:cr}{base:Heap}{C:Nat->Addr}{CR f a1 n1:Addr}{fd d1:FuncData}
def yX (K:Frag)(C:Nat->Addr)(i:Nat):Sp:=λ vs H Q _=>∃(v st:V)(x:Int)(r:R0)(sd:PyData),vs=[v,st,.int x]/\Ru C H (.one r) v/\r.kind=i/\r.ok/\0<=x/\x<r.Û/\r.q_ x sd/\Ą H st sd/\∀ l H',Ext H H'->Iq K H H' l (r.steps sd x)->Q (.ref l) H'
abbrev Cg:Stmt:=bw (cP 33) 1
abbrev LQ:List Str:=["self","state","at","left","ways"]
theorem Rc:ai LQ ["self","state","at"] (aa Cg):=bc
def qW (K:Frag)(te:TE):TS:=dW (wV K "list" cW (ae 4) (ao te aF))
def yF (h:Int)(e n:TE):TE:=cz (ao (tC (.int h)) (ao (cC p9 [] E0 (ao e (ao (ae 3) aF))) (ao n aF)))
def dX (a b:TE):TE:=bV (gK λ i j=>.int (i-j)) a b
theorem w4 {De:dq}{H:Hp}{σ:St}{l:Addr}{ys:List V}{ss:List Ŝ}{h y:Int}{e n:TE}{a b:Nat}(s4:σ[4]?=some (some (.ref l)))(s3:σ[3]?=some (some (.int (b:Nat))))(hl:H l=some (.lst ys))(al:h_ K H ys ss)(OB:∀ s∈ss,aG s.next=true)(len:ys.length<=10)(he:∀ R:VK,R (.int (a:Nat)) H->e σ H R)(hn:∀(H1:Hp) (R:VK),R (.int y) H1->n σ H1 R)(b1:1<=b)(ab:a<=b)(ű:b<=100)
  (k:∀ p H',(∀ H0,Ext H0 H->H0 l=none->Ext H0 H')->H' l=some (.lst (ys ++ [p]))->h_ K H' (ys ++ [p]) (ss ++ [⟨h,bo a b,aE a b,.int y⟩])->De.nx σ H'):qW K (yF h e n) De σ H:=by
 refine⟨_,s4,.inl ⟨rfl,_,Ċ.of hl⟩,he _ ⟨_,s3,a,b,rfl,b1,ab,fO ű,λ m hm=>?_⟩⟩;obtain⟨H1,x1,g1,eU⟩:=gB hm (.tup [.int (bo a b:Nat),.int (aE a b:Nat)]);rw [eU];refine hn H1 _ ⟨cK,λ p hp=>?_⟩;obtain⟨H2,x2,g2,eU⟩:=gB hp (.tup [.int h,.ref m,.int y]);rw [eU];have l_:=x1.trans x2;have NP:=l_ _ _ hl;refine⟨l,ys,.ref p,rfl,rfl,NP,by rw [Ü];omega,?_⟩
 have kp:=zD (.lst (ys ++ [.ref p])) NP;refine k (.ref p) _ (λ H0 x0 n0=>aV _ (x0.trans l_) n0) be ?_;refine h_.Ē kp (h_.app (al.ext l_) (.cons ⟨p,.ref m,.int y,rfl,g2,⟨m,rfl,Ė.of (x2 _ _ g1)⟩,.int _⟩ .nil)) λ s hs=>?_;rcases ß.mp hs with z | z
 ·exact OB s z
 ·rw [É.mp z];rfl
theorem CB (Z:KR K C CR)(F:ĵ K "steps" "Split.steps" Cg f fd) (A1:Df P w K mg base aB 4 "share_of" ["top","bottom"] p9 a1 d1):í P w K mg base aB 5 f fd ["self","state","at"] (yX K C 0):=by
 refine F.ok Rc (λ vs H Q E h=>?_) (λ cdv A outer s H vs Q E hr h=>?_)
 ·obtain⟨v,st,x,r,sd,rfl,_⟩:=h;rfl
 obtain⟨v,st,x,r,sd,rfl,ru,ek,ok,x0,x1,vs,rd,q⟩:=h;have nd:=Rc.nd;refine⟨aA (bY (dX (jo K (ae 0) "size") (ae 2)) (aN 3)) (aA (bY (cv aF) (aN 4)) (aA (bq (tB (bV (gK λ i j=>.bl (decide (i<j))) (ae 1) (ae 3))) (qW K (yF 0 (dX (ae 3) (ae 1)) (ae 1))) aQ)
   (aA (bq (tB (bV (gK λ i j=>.bl (decide (i>j))) (ae 1) (tC (.int 0)))) (qW K (yF 1 (ae 1) (dX (ae 1) (tC (.int 1))))) aQ) (aY (ae 4))))),
  bb (dk (i:=3) nd rfl (Or.inl rfl) (ak bO (og (pv 0) rfl) (pv 2)))
  (bb (dk (i:=4) nd rfl (Or.inl rfl) (cF ar))
  (bb (aJ (aq k9 (pv 1) (pv 3) (au _)) (aW (aR (fX ø ô ó bQ (pv 4) (ac (aP (ac ay (ac (bZ A1 hr ag (ac (ak bO (pv 3) (pv 1)) (ac (pv 3) ar))) (ac (pv 1) ar)))) ar)))) cT)
  (bb (aJ (aq fm (pv 1) ay (au _)) (aW (aR (fX ø ô ó bQ (pv 4) (ac (aP (ac ay (ac (bZ A1 hr ag (ac (pv 1) (ac (pv 3) ar))) (ac (ak bO (pv 1) ay) ar)))) ar)))) cT)
  (aW (cn (pv 4)))))),?_⟩
 cases r with
 | pairs _ _ _=>cases ek
 | ę _ _ _ _=>cases ek
 | split n k =>
  obtain⟨s,rfl,s0,s1⟩:=vs;cases rd;obtain⟨h1,h2,h3,h4⟩:=ok;obtain⟨a,dx,fs,rfl,ha,hz,_⟩:=ru.ob.ex;have xn:x<n:=x1;obtain⟨b,eb⟩:∃ b:Nat,n-x=(b:Int):=⟨(n-x).toNat,af⟩;refine aK (i:=3) (D:=⟨_,Q,_,_⟩) ⟨_,rfl,a,_,dx,fs,_,rfl,ha,Z.cls 0 ax,Z.no 0 ax "size" aC,hz,_,rfl,_,_,rfl,rfl,?_⟩;show aA _ _ _ [some (.ref a),some (.int s),some (.int x),some (.int (n-x)),none] H;rw [eb];refine aK (i:=4) (D:=⟨_,Q,_,_⟩) ⟨cK,λ l hl=>?_⟩;show aA _ _ _ [some (.ref a),some (.int s),some (.int x),some (.int (b:Nat)),some (.ref l)] (aj H l (.lst []));obtain⟨H1,y1,gl,eU⟩:=gB hl (.lst []);rw [eU];have e1:(n-x).toNat=b:=af;have second:∀(ys:List V)(ss:List Ŝ)(H2:Hp),Ext H H2->H2 l=some (.lst ys)->h_ K H2 ys ss->(∀ s∈ss,aG s.next=true)->ys.length<=10->(ss++(if 0<s then [⟨1,bo s.toNat b,aE s.toNat b,.int (s-1)⟩] else [])=R0.steps (.split n k) (.int s) x)->aA (bq (tB (bV (gK λ i j=>.bl (decide (i>j))) (ae 1) (tC (.int 0)))) (qW K (yF 1 (ae 1) (dX (ae 1) (tC (.int 1))))) aQ) (aY (ae 4)) ⟨λ _ H'=>Q .Ă H',Q,λ _ _=>False,λ _ _=>False⟩ [some (.ref a),some (.int s),some (.int x),some (.int (b:Nat)),some (.ref l)] H2:=λ ys ss H2 x2 h2 al OB len e=>by
   refine⟨_,rfl,_,_,rfl,rfl,_,rfl,?_⟩;refine fR (λ c=>?_) (λ c=>⟨_,rfl,q l H2 x2 ⟨hl,ys,h2,?_⟩⟩)
   ·have c':0<s:=ë c;obtain⟨t,rfl⟩:∃ t:Nat,s=(t:Int):=⟨s.toNat,af⟩;rw [Ó c',Ù] at e;refine w4 (a:=t) (b:=b) (y:=(t:Int)-1) rfl rfl h2 al OB len (λ R r=>⟨_,rfl,r⟩) (λ H3 R r=>⟨_,rfl,_,_,rfl,rfl,r⟩) af af af λ p H3 x3 h3 XI=>⟨_,rfl,q l H3 (x3 H x2 hl) ⟨hl,_,h3,?_⟩⟩;rw [<- e];exact XI
   ·rw [<- e,Ë (λ z=>c (Ç z)),Ī];exact al
  refine⟨_,rfl,_,rfl,_,_,rfl,rfl,_,rfl,?_⟩;refine fR (λ c=>?_) (λ c=>?_)
  ·have c':s<(b:Int):=ë c;obtain⟨t,et⟩:∃ t:Nat,(b:Int)-s=(t:Int):=⟨((b:Int)-s).toNat,af⟩;refine w4 (a:=t) (b:=b) (y:=s) rfl rfl gl .nil (λ _ h=>nomatch h) (by show 0<=10;decide) (λ R r=>⟨_,rfl,_,rfl,_,_,rfl,rfl,by show R (.int ((b:Int)-s)) _;rw [et];exact r⟩) (λ H3 R r=>⟨_,rfl,r⟩) af af af λ p H3 x3 h3 XI=>?_
   refine second _ _ H3 (x3 H y1 hl) h3 XI (λ z hz=>by rw [É.mp hz];rfl) (by show 1<=10;decide) ?_
   show _=(if s<n-x then _ else _)++_
   rw [Ó (show s<n-x by omega),e1,show(n-x-s).toNat=t by omega]
   rfl
  ·refine second [] [] H1 y1 gl .nil (λ _ h=>nomatch h) (by show 0<=10;decide) ?_
   have c':¬ s<(b:Int):=λ z=>c (Ç z);show _=(if s<n-x then _ else _)++_
   rw [Ë (show ¬ s<n-x by omega),e1]
end
section
variable {P:Program}{w:World}{K:Frag}{mg:cr}{base:Heap}{C:Nat->Addr}{CR f a1 n1:Addr}{fd d1:FuncData}
def nP (n1:Addr)(e n:TE):TS:=aY (cv (ao (cz (ao e (ao (tC (.ref n1)) (ao n aF)))) aF))
theorem l3 {D:dq}{H:Hp}{σ:St}{e n:TE}{h:Int}{nv:V}{nd:PyData}(tA:sZ K n1 [.int (1:Nat),.int (1:Nat)])(he:∀ R:VK,R (.int h) H->e σ H R)(hn:∀ R:VK,R nv H->n σ H R)(rn:∀ H',Ą H' nv nd)(q:∀ l H',Ext H H'->Iq K H H' l [⟨h,1,1,nd⟩]->D.rt (.ref l) H'):nP n1 e n D σ H:=by
 refine he _ (hn _ ⟨cK,λ p hp=>⟨cK,λ l hl=>?_⟩⟩);have x1:=Ext.new (o:=.tup [.int h,.ref n1,nv]) hp;have g1:aj H p (.tup [.int h,.ref n1,nv]) p=some (.tup [.int h,.ref n1,nv]):=be;have x2:=Ext.new (o:=.lst [.ref p]) hl;exact q l _ (x1.trans x2) ⟨x1.back hl,_,be,.cons ⟨p,.ref n1,nv,rfl,x2 _ _ g1,⟨n1,rfl,.inr tA⟩,rn _⟩ .nil⟩
abbrev BK:Stmt:=bw (cP 34) 1
theorem Fh:ai ["self","state","at"] ["self","state","at"] (aa BK):=bc
theorem BF (Z:KR K C CR)(F:ĵ K "steps" "Pairs.steps" BK f fd) (A1:Df P w K mg base aB 4 "coin_steps" ["coin","zero","one"] (oF K) a1 d1) (mA:mg "ALL" = some (.ref n1)) (tA:sZ K n1 [.int (1:Nat),.int (1:Nat)]):í P w K mg base aB 5 f fd ["self","state","at"] (yX K C 1):=by
 refine F.ok Fh (λ vs H Q E h=>?_) (λ cdv A outer s H vs Q E hr h=>?_)
 ·obtain⟨v,st,x,r,sd,rfl,_⟩:=h;rfl
 obtain⟨v,st,x,r,sd,rfl,ru,ek,ok,x0,x1,vs,rd,q⟩:=h;refine⟨aA (bq (tB (FK (ae 1))) (aY (cC (oF K) [] E0 (ao (jo K (ae 0) "coin") (ao (tC (.int 0)) (ao (tC (.int 1)) aF))))) aQ) (nP n1 (dX (tC (.int 1)) (ae 1)) (tC .Ă)),
  bb (aJ (jN (BI (pv 1))) (aW (cn (bZ A1 hr ag (ac (og (pv 0) rfl) (ac ay (ac ay ar)))))) cT)
  (aW (cn (cF (ac (aP (ac (ak bO ay (pv 1)) (ac (bI (v:=.ref n1) rfl mA rfl) (ac gv ar)))) ar)))),?_⟩
 cases r with
 | split _ _=>cases ek
 | ę _ _ _ _=>cases ek
 | pairs n a b =>
  obtain⟨h1,h2,h3⟩:=ok;obtain⟨x',y',ea,eb,k1,k2,k3,kg⟩:=cS h3;subst ea eb;have Ss:∀ h:Int,sd=.int h->st=.int h:=λ h e=>by subst e;cases rd;rfl
  rcases vs with⟨p,rfl⟩ | ⟨p,hh⟩
  ·cases rd;obtain⟨o,dx,fs,rfl,ho,_,_,_,_,_,c,ec,rc⟩:=Ob.ex ru;cases rc with
   | tup hc ra =>
    cases ra with
    | cons r1 ra =>
     cases r1;cases ra with
     | cons r2 ra =>
      cases r2;cases ra;refine⟨_,rfl,_,rfl,fV ⟨_,rfl,o,C 1,dx,fs,_,rfl,ho,Z.cls 1 ax,Z.no 1 ax "coin" aC,ec,?_⟩⟩;refine⟨_,.int 0,.int 1,x',y',.int 0,.int 1,rfl,Ė.of hc,k2,k3,.int _,.int _,λ l H' xe sl=>q l H' xe ⟨sl.1,?_⟩⟩;have e1:((y':Int)-(x':Int)).toNat=y'-x':=af;show RC K H' l [⟨0,((y':Int)-(x':Int)).toNat,(y':Int).toNat,.int 0⟩,⟨1,(x':Int).toNat,(y':Int).toNat,.int 1⟩];rw [e1,Ù,Ù];exact sl.2
  ·obtain⟨h,e⟩:∃ h:Int,sd=.int h:=by rcases hh with e | e <;> exact⟨_,e⟩
   have e':=Ss h e;subst e e';refine⟨_,rfl,_,rfl,dj ?_⟩;show nP n1 (dX (tC (.int 1)) (ae 1)) (tC .Ă) _ _ _;exact l3 (h:=1-h) (nv:=.Ă) (nd:=.none) tA (λ R r=>⟨_,rfl,_,_,rfl,rfl,r⟩) (λ R r=>r) (λ H'=>.Ă) λ l H' xe sl=>q l H' xe sl
abbrev A6:Stmt:=bw (cP 35) 1
theorem G5:ai ["self","state","at"] ["self","state","at"] (aa A6):=bc
theorem Cq (Z:KR K C CR)(F:ĵ K "steps" "Coins.steps" A6 f fd) (A1:Df P w K mg base aB 4 "coin_steps" ["coin","zero","one"] (oF K) a1 d1) (mA:mg "ALL" = some (.ref n1)) (tA:sZ K n1 [.int (1:Nat),.int (1:Nat)]):í P w K mg base aB 5 f fd ["self","state","at"] (yX K C 2):=by
 refine F.ok G5 (λ vs H Q E h=>?_) (λ cdv A outer s H vs Q E hr h=>?_)
 ·obtain⟨v,st,x,r,sd,rfl,_⟩:=h;rfl
 obtain⟨v,st,x,r,sd,rfl,ru,ek,ok,x0,x1,vs,rd,q⟩:=h;refine⟨aA (bq (tB (bV (gK λ i j=>.bl (decide (j<=i))) (ae 1) (jo K (ae 0) "far"))) (nP n1 (tC (.int 0)) (dX (ae 1) (tC (.int 1)))) aQ)
   (aA (bq (tB (bV (gK λ i j=>.bl (decide (i<=j))) (ae 1) (Dq (rU λ i=>.int (-i)) (jo K (ae 0) "far")))) (nP n1 (tC (.int 1)) (bV (gK λ i j=>.int (i+j)) (ae 1) (tC (.int 1)))) aQ)
   (aY (cC (oF K) [] E0 (ao (jo K (ae 0) "coin") (ao (dX (ae 1) (tC (.int 1))) (ao (bV (gK λ i j=>.int (i+j)) (ae 1) (tC (.int 1))) aF)))))),
  bb (aJ (aq wn (pv 1) (og (pv 0) rfl) (au _)) (aW (cn (cF (ac (aP (ac ay (ac (bI (v:=.ref n1) rfl mA rfl) (ac (ak bO (pv 1) ay) ar)))) ar)))) cT)
  (bb (aJ (aq wj (pv 1) (jS gX (og (pv 0) rfl)) (au _)) (aW (cn (cF (ac (aP (ac ay (ac (bI (v:=.ref n1) rfl mA rfl) (ac (ak bf (pv 1) ay) ar)))) ar)))) cT)
  (aW (cn (bZ A1 hr ag (ac (og (pv 0) rfl) (ac (ak bO (pv 1) ay) (ac (ak bf (pv 1) ay) ar))))))),?_⟩
 cases r with
 | split _ _=>cases ek
 | pairs _ _ _=>cases ek
 | ę n a b g =>
  obtain⟨h1,h2,h3,h4,h5⟩:=ok;obtain⟨x',y',ea,eb,k1,k2,k3,kg⟩:=cS h3;subst ea eb;obtain⟨s,rfl,s0,s1⟩:=vs;cases rd;obtain⟨o,dx,fs,rfl,ho,_,_,_,_,_,⟨c,ec,rc⟩,ef⟩:=Ob.ex ru;have fld:∀{R:VK}{fn:Str}{y:V},fn∈eK->fs.lookup fn=some y->R y H->jo K (ae 0) fn [some (.ref o),some (.int s),some (.int x)] H R:=λ hf e r=>⟨_,rfl,o,C 2,dx,fs,_,rfl,ho,Z.cls 2 ax,Z.no 2 ax _ hf,e,r⟩;refine⟨_,rfl,fld aC ef ⟨_,_,rfl,rfl,_,rfl,fR (λ c=>?_) (λ c=>?_)⟩⟩
  ·have c':g<=s:=ë c;refine l3 (h:=0) (nv:=.int (s-1)) (nd:=.int (s-1)) tA (λ R r=>r) (λ R r=>⟨_,rfl,_,_,rfl,rfl,r⟩) (λ H'=>.int _) λ l H' xe sl=>q l H' xe ⟨sl.1,?_⟩;simp only [R0.steps];rw [Ó c'];exact sl.2
  ·have c':¬ g<=s:=λ z=>c (Ç z);refine⟨_,rfl,fld aC ef ⟨_,rfl,_,_,rfl,rfl,_,rfl,fR (λ d=>?_) (λ d=>?_)⟩⟩
   ·have d':s <= -g:=ë d;refine l3 (h:=1) (nv:=.int (s+1)) (nd:=.int (s+1)) tA (λ R r=>r) (λ R r=>⟨_,rfl,_,_,rfl,rfl,r⟩) (λ H'=>.int _) λ l H' xe sl=>q l H' xe ⟨sl.1,?_⟩;simp only [R0.steps];rw [Ë c',Ó d'];exact sl.2
   ·have d':¬ s <= -g:=λ z=>d (Ç z);cases rc with
    | tup hc ra =>
     cases ra with
     | cons r1 ra =>
      cases r1;cases ra with
      | cons r2 ra =>
       cases r2;cases ra;refine⟨_,rfl,o,C 2,dx,fs,_,rfl,ho,Z.cls 2 ax,Z.no 2 ax "coin" aC,ec,_,rfl,_,_,rfl,rfl,_,rfl,_,_,rfl,rfl,?_⟩;refine⟨_,.int (s-1),.int (s+1),x',y',.int (s-1),.int (s+1),rfl,Ė.of hc,k2,k3,.int _,.int _,λ l H' xe sl=>q l H' xe ⟨sl.1,?_⟩⟩;have e1:((y':Int)-(x':Int)).toNat=y'-x':=af;simp only [R0.steps];rw [Ë c',Ë d',e1,Ù,Ù];exact sl.2
end
theorem KR.inj {K:Frag}{C:Nat->Addr}{CR:Addr}(Z:KR K C CR){i j:Nat}(hi:i<5)(hj:j<5)(e:C i=C j):i=j:=by
 have h1:=Z.kk i j hi hj;have h2:=Z.kk j j hj hj;rw [e,h2] at h1;have:=â h1;rw [ź] at this;exact Ķ.mp this.symm
theorem ny:∀{ns:List Int}{s n:Int}{i:Nat},ns[i]?=some n->(fA s ns)[i]?=some (jc (s+(ns.take i).sum) n.toNat)
 | [],_,_,i,h=>by simp at h
 | m::ms,s,n,0,h=>by
  cases h;simp [fA]
 | m::ms,s,n,i+1,h=>by
  have:=ny (ns:=ms) (s:=s+m) (n:=n) (i:=i) h;simp only [fA,List.getElem?_cons_succ,List.take_succ_cons,List.sum_cons];rw [this,Int.add_assoc]
theorem ur {rs:List R0}{i:Nat}{r:R0}(h:rs[i]?=some r):(Rl.blocks rs).parts[i]?=some (jc (aw rs i) r.Û.toNat):=by
 have e:(rs.map R0.Û)[i]?=some r.Û:=by rw [Ô,h];rfl
 have:=ny (s:=0) e;show(fA 0 (rs.map R0.Û))[i]?=_;rw [this,v_,<- j'];rfl
theorem wB (lo:Int)(n:Nat):jc lo (n+1)=jc lo n ++ [lo+n]:=by
 unfold jc;rw [List.range_succ,Ð];rfl
theorem vM (lo:Int)(n:Nat):(jc lo (n+1))[0]?=some lo:=by
 unfold jc;rw [Ô,List.getElem?_range af];simp
theorem Ý.at {H:Hp}:∀{xs:List V}{ds:List PyData},Ý H xs ds->∀{i:Nat}{d:PyData},ds[i]?=some d->∃ x,xs[i]?=some x/\Ą H x d
 | _,_,.nil,i,d,h=>by simp at h
 | _,_,.cons a b,0,d,h=>by cases h;exact⟨_,rfl,a⟩
 | _,_,.cons a b,i+1,d,h=>Ý.at b h
section
variable {P:Program}{w:World}{K:Frag}{mg:cr}{base:Heap}{C:Nat->Addr}{CR f a1 n1:Addr}{fd d1:FuncData}
theorem sj {H:Hp}{p:V}{rs:List R0}{i:Nat}{r:R0}(h:Ą H p (eV (Rl.blocks rs).parts))(e:rs[i]?=some r):∃ a ws b,p=.ref a/\H a=some (.tup ws)/\ws[i]?=some (.ref b)/\H b=some (.tup ((jc (aw rs i) r.Û.toNat).map V.int)):=by
 unfold eV at h;cases h with
 | tup ha ra =>
  have e':((Rl.blocks rs).parts.map jZ)[i]?=some (jZ (jc (aw rs i) r.Û.toNat)):=by rw [Ô,ur e];rfl
  obtain⟨x,hx,rx⟩:=Ý.at ra e';unfold jZ at rx;cases rx with
  | tup hb rb =>
   rw [jg rb] at hb;exact⟨_,_,_,rfl,ha,hx,hb⟩
abbrev KB:Stmt:=bw (cP 38) 2
def uB (C:Nat->Addr):Sp:=λ vs H Q _=>∃(o:Addr)(n:Nat)(x:Int)(nv:V)(nd:PyData)(rs:List R0)(r:R0),vs=[.ref o,.int (n:Nat),.int x,nv]/\Op C H rs (.ref o)/\rs[n]?=some r/\r.ok/\Ą H nv nd/\∀ m H',Ext H H'->Ą H' (.ref m) (cg rs n x nd)->Q (.ref m) H'
theorem JT:ai ["self","number","at","inner"] ["self","number","at","inner"] (aa KB):=bc
theorem Gh (Z:KR K C CR)(F:ĵ K "state_behind" "Blocks.state_behind" KB f fd) (MA:cG P w K mg base aB 2 "state_ahead" ["self","number"] (λ c=>c=C 3) (λ _=>ye C)):í P w K mg base aB 3 f fd ["self","number","at","inner"] (uB C):=by
 refine bX F JT λ cdv A outer s H vs Q E hr h=>?_;obtain⟨o,n,x,nv,nd,rs,r,rfl,ru,er,ok,rn,q⟩:=h;refine⟨_,bb (aJ (aq bE (pv 2) (bL cB (bL cB (og (pv 0) rfl) (pv 1)) (jS gX ay)) (au _)) (aW (cn (fq (pv 0) MA hr ag (ac (ak bf (pv 1) ay) ar)))) cT)
  (aW (cn (aP (ac (pv 1) (ac (pv 3) ar))))),?_⟩
 obtain⟨o',dx,fs,e0,ho,_,_,_,⟨p,hp,rp⟩,hm,l,ws,hl,hw,al⟩:=ru.ex;cases e0;obtain⟨a,us,b,rfl,ha,hb,hu⟩:=sj rp er;have fk:=R0.Į ok;obtain⟨m,em⟩:∃ m,r.Û.toNat=m+1:=⟨r.Û.toNat-1,af⟩;rw [em,wB,Ð] at hu;refine⟨_,rfl,_,rfl,o,C 3,dx,fs,_,rfl,ho,Z.cls 3 ax,Z.no 3 ax "parts" aC,hp,_,rfl,a,us,_,_,rfl,rfl,Ė.of ha,jU hb,1,rfl,b,_,-1,_,rfl,rfl,Ė.of hu,uw _ _,rfl,_,rfl,?_⟩;have ss:=gS er;refine fR (λ c=>?_) (λ c=>?_)
 ·have c':x=aw rs n+(m:Int):=V.int.inj (ë c);have hn:n<rs.length:=(È.mp er).1;refine⟨_,rfl,o,C 3,dx,fs,rfl,rfl,ho,hm _ aC,_,rfl,_,_,rfl,rfl,o,n+1,dx,fs,l,ws,rs,rfl,ho,hl,hw,al,af,λ k H' x' rk=>q k H' x' ?_⟩;unfold cg;rw [Ó af];exact rk
 ·have c':¬ x=aw rs n+(m:Int):=λ z=>c (Ç (by rw [z]))
  refine⟨_,rfl,_,rfl,cK,λ k hk=>q k _ (Ext.new hk) ?_⟩;unfold cg;rw [Ë af];exact .tup be (.cons (.int _) (.cons (rn.mono (Ext.new hk)) .nil))
def gf (K:Frag)(C:Nat->Addr)(c:Addr):Sp:=λ vs H Q _=>∃(v st:V)(x:Int)(t:Rl)(sd:PyData),vs=[v,st,.int x]/\Ru C H t v/\C t.kind=c/\t.ok/\0<=x/\x<t.Û/\t.q_ x sd/\Ą H st sd/\∀ l H',Ext H H'->Iq K H H' l (t.steps sd x)->Q (.ref l) H'
theorem qz (Z:KR K C CR){i:Nat}(hi:i<3){k:Nat}(F:í P w K mg base aB k f fd ["self","state","at"] (yX K C i)):í P w K mg base aB k f fd ["self","state","at"] (gf K C (C i)):=by
 refine F.imp λ vs H Q E h=>?_;obtain⟨v,st,x,t,sd,rfl,ru,ec,ok,x0,x1,vs,rd,q⟩:=h;have ek:=Z.inj t.ā af ec;cases t with
 | one r=>exact⟨v,st,x,r,sd,rfl,ru,ek,ok,x0,x1,vs,rd,q⟩
 | blocks rs=>have:3=i:=ek;omega
 | first t m=>have:4=i:=ek;omega
theorem jp {m:Str}{S:Addr->Prop}{sp:Addr->Sp}{E:XK}{ta:TE}{tg:TA}{σ:St}{H:Hp}{Q:VK}{t:Rl}{v:V}(hm:m∈gQ)(h:Ru C H t v)(hS:S (C t.kind))(ht:∀ R:VK,R v H->ta σ H R)(q:tg σ H λ vs H2=>sp (C t.kind) (v::vs) H2 Q E):dM S m sp E ta tg σ H Q:=by
 obtain⟨a,dx,fs,rfl,ha,_,_,_,_,h5,_⟩:=h.ob.ex;exact ht _ ⟨a,C t.kind,dx,fs,rfl,hS,ha,h5 m hm,q⟩
end
structure GV (P:Program)(w:World)(K:Frag)(mg:cr)(base:Heap)(C:Nat->Addr)(CN CS CT CM:Addr)(f0 f1 f2 f3 f4:Addr)(e0 e1 e2 e3 e4:FuncData):Prop where
 k0:Mk K (C 0) f0
 k1:Mk K (C 1) f1
 k2:Mk K (C 2) f2
 k3:Mk K (C 3) f3
 k4:Mk K (C 4) f4
 g0:í P w K mg base (i5 P w) 4 f0 e0 ["self","folk","ones"] (qJ C CN)
 g1:í P w K mg base (i5 P w) 6 f1 e1 ["self","pairs","coin"] (qP C CN CS)
 g2:í P w K mg base (i5 P w) 6 f2 e2 ["self","folk","coin","far"] (qQ C CN CS)
 g3:í P w K mg base (i5 P w) 4 f3 e3 ["self","rules"] (rW K C CT CM)
 g4:í P w K mg base (i5 P w) 4 f4 e4 ["self","rule","many"] (qT C CN)
 b0:Binds K e0 ["self","folk","ones"] []
 b1:Binds K e1 ["self","pairs","coin"] []
 b2:Binds K e2 ["self","folk","coin","far"] []
 b3:Binds K e3 ["self","rules"] []
 b4:Binds K e4 ["self","rule","many"] []
 m0:mg "Split" = some (.ref (C 0))
 m1:mg "Pairs" = some (.ref (C 1))
 m2:mg "Coins" = some (.ref (C 2))
 m3:mg "Blocks" = some (.ref (C 3))
 m4:mg "First" = some (.ref (C 4))
section
variable {K:Frag}{C:Nat->Addr}{CN CS CT CM:Addr}{H:Hp}{σ:St}{Q:VK}{E:XK}
theorem iP (h1:lo<=n)(h2:n<=hi):pR lo hi (.int n)=true:=by
 show(decide (lo<=n)&&decide (n<=hi))=true;rw [Ç h1,Ç h2];rfl
theorem ue (ht:∀ R:List V->Hp->Prop,R [.int n,.int k] H->t σ H R)(ok:(R0.split n k).ok)(q:∀ x H',Ext H H'->Ru C H' (.one (.split n k)) (.ref x)->Q (.ref x) H'):gh (C 0) (qJ C CN) [] E0 t σ H Q :=
 ht _ λ x dx hx hd ne=>by
  have xe:=fZ (u:=.own x) (v:=.ins (C 0) dx []) hx hd ne;obtain⟨o1,o2,o3,o4⟩:=id ok;refine⟨x,_,_,_,_,dx,rfl,be,.int _,.int _,λ h=>(by rw [iP o1 o2] at h;cases h),λ m e _ _ h=>(by cases e;rw [iP o3 o4] at h;cases h),λ n' k' e1 e2 _ H' kp ru=>⟨rfl,?_⟩⟩
  cases e1;cases e2;exact q x H' (xe.kp hx kp) ru
theorem vz (ht:∀ R:List V->Hp->Prop,R [.int n,c] H->t σ H R)(rc:Ą H c (.tuple [.int a,.int b]))(ok:(R0.pairs n a b).ok)(q:∀ x H',Ext H H'->Ru C H' (.one (.pairs n a b)) (.ref x)->Q (.ref x) H'):gh (C 1) (qP C CN CS) [] E0 t σ H Q :=
 ht _ λ x dx hx hd ne=>by
  have xe:=fZ (u:=.own x) (v:=.ins (C 1) dx []) hx hd ne;obtain⟨o1,o2,o3⟩:=id ok;refine⟨x,_,_,_,_,dx,rfl,be,.int _,rc.mono xe,λ h=>(by rw [iP o1 o2] at h;cases h),λ _ h=>(by rw [o3] at h;cases h),λ n' a' b' e1 e2 _ H' kp ru=>⟨rfl,?_⟩⟩
  cases e1;cases e2;exact q x H' (xe.kp hx kp) ru
theorem u6 (ht:∀ R:List V->Hp->Prop,R [.int n,c,.int f] H->t σ H R)(rc:Ą H c (.tuple [.int a,.int b]))(ok:(R0.ę n a b f).ok)(q:∀ x H',Ext H H'->Ru C H' (.one (.ę n a b f)) (.ref x)->Q (.ref x) H'):gh (C 2) (qQ C CN CS) [] E0 t σ H Q :=
 ht _ λ x dx hx hd ne=>by
  have xe:=fZ (u:=.own x) (v:=.ins (C 2) dx []) hx hd ne;obtain⟨o1,o2,o3,o4,o5⟩:=id ok;refine⟨x,_,_,_,_,_,_,dx,rfl,be,.int _,rc.mono xe,.int _,λ h=>(by rw [iP o1 o2] at h;cases h),λ _ h=>(by rw [o3] at h;cases h),λ _ _ h=>(by rw [iP o4 o5] at h;cases h),λ n' a' b' f' e1 e2 e3 _ H' kp ru=>⟨rfl,?_⟩⟩
  cases e1;cases e2;cases e3;exact q x H' (xe.kp hx kp) ru
theorem sQ (ht:∀ R:List V->Hp->Prop,R [.ref l] H->t σ H R)(hl:H l=some (.lst ws))(al:Τ C H rs ws)(ok:(Rl.blocks rs).ok)(q:∀ x H',Ext H H'->Ru C H' (.blocks rs) (.ref x)->Q (.ref x) H'):gh (C 3) (rW K C CT CM) [] E0 t σ H Q :=
 ht _ λ x dx hx hd ne=>by
  have xe:=fZ (u:=.own x) (v:=.ins (C 3) dx []) hx hd ne;obtain⟨o1,o2,o3,o4⟩:=id ok;exact⟨x,_,dx,H,rfl,be,xe,hx,.inr (.inr ⟨l,ws,rs,rfl,hl,al,o1,o2,o3,λ h=>absurd o4 af,λ _ H' kp ru=>⟨rfl,q x H' (xe.kp hx kp) ru⟩⟩)⟩
theorem vC (ht:∀ R:List V->Hp->Prop,R [v,.int m] H->t σ H R)(ru:Ru C H r v)(ok:(Rl.first r m).ok)(q:∀ x H',Ext H H'->Ru C H' (.first r m) (.ref x)->Q (.ref x) H'):gh (C 4) (qT C CN) [] E0 t σ H Q :=
 ht _ λ x dx hx hd ne=>by
  have xe:=fZ (u:=.own x) (v:=.ins (C 4) dx []) hx hd ne;obtain⟨o1,o2,o3⟩:=id ok;refine⟨x,_,_,r,_,dx,H,rfl,be,xe,hx,ru,Rl.sm o1,.int m,λ h=>(by rw [iP o2 o3] at h;cases h),λ m' e _ _ H' kp ru=>⟨rfl,?_⟩⟩
  cases e;exact q x H' (xe.kp hx kp) ru
end
section
variable {P:Program}{w:World}{K:Frag}{mg:cr}{base:Heap}{C:Nat->Addr}{CR f a1 n1:Addr}{fd d1:FuncData}
abbrev Bw:Stmt:=bw (cP 38) 3
abbrev IF:List Str:=["self","state","at","number","inner","ways"]
theorem T4:ai IF ["self","state","at"] (aa Bw):=bc
abbrev FU:Scope:=gr [("hand",.local),("share",.local),("behind",.local),("at",.free),("number",.free),("self",.free)]
section
variable {cdv:Value}{A:Around}{outer:List Env}{s:Shared}{H:Hp}{E:XK}
theorem BT:cV (bR aB P w K mg base IF "Blocks.steps" (aa Bw) f cdv A outer s H E).Φ FU [("self",s.heap.objs.size+1),("number",s.heap.objs.size+3),("at",s.heap.objs.size+2)] ["hand","share","behind"] ["at","number","self"] [2,3,0] :=
 mK (M:=["self","number","at"]) (L:=[(".0",.local),("hand",.local),("share",.local),("behind",.local),("at",.cell),("number",.cell),("self",.cell)]) rfl rfl aC aC aC rfl rfl rfl aC aC rfl rfl rfl
end
theorem Cb:((["hand","share","behind"]:List Str)++(["at","number","self"]:List Str)).Nodup:=aC
def KZ (C:Nat->Addr):TE:=dM (λ c=>c=C 3) "state_behind" (λ _=>uB C) E0 (ae 5) (ao (ae 4) (ao (ae 3) (ao (ae 2) aF)))
def Hf (C:Nat->Addr):TE:=cz (ao (ae 0) (ao (ae 1) (ao (KZ C) aF)))
def K5 (K:Frag):TG:=dL K 3 (aL (aN 0) (aL (aN 1) (aL (aN 2) dP)))
def uo (K:Frag)(C:Nat->Addr):TE:=dM (λ c=>∃ i,i<3/\c=C i) "steps" (gf K C) E0 (bV (nJ K) (jo K (ae 0) "rules") (ae 3)) (ao (ae 4) (ao (dX (ae 2) (bV (nJ K) (bV (nJ K) (jo K (ae 0) "parts") (ae 3)) (tC (.int 0)))) aF))
def Kh (K:Frag):TS:=bY (ae 1) (dL K 2 (aL (aN 3) (aL (aN 4) dP)))
def Gf (K:Frag)(C:Nat->Addr):TE:=jX (fc K (ae 5)) 3 [2,3,0] (K5 K) (Hf C)
def LD (K:Frag)(C:Nat->Addr):TS:=aA (Kh K) (aA (bY (uo K C) (aN 5)) (aY (Gf K C)))
section
variable {cdv:Value}{A:Around}{outer:List Env}{s:Shared}{H:Hp}{E:XK}
abbrev nh (k:Nat)(q:Str)(st:Stmt)(A:Around)(s:Shared)(f:Addr)(c:Value):Prop:=ć k (A.deeper (PyProof.Rows.envOfC q (aa st) s.heap.objs.size f c))
theorem Bv (M0:cG P w K mg base aB 5 "steps" ["self","state","at"] (λ c=>∃ i,i<3/\c=C i) (gf K C)) (MB:cG P w K mg base aB 3 "state_behind" ["self","number","at","inner"] (λ c=>c=C 3) (λ _=>uB C)) (hr:nh 5 "Blocks.steps" Bw A s f cdv):Bx (ſ (bR aB P w K mg base IF "Blocks.steps" (aa Bw) f cdv A outer s H E).Φ (aI Bw) (LD K C)):=by
 have nd:=T4.nd;have Qr:ć 3 _:=hr.mono ax;exact dZ ⟨gg (pv 1) (bN rfl (dB (cu nd rfl (.inr rfl)) (dB (cu nd rfl (.inl rfl)) br)))⟩
  (dZ (cy nd rfl (.inl rfl) ⟨fq (bL cB (og (pv 0) rfl) (pv 3)) M0 hr ag (ac (pv 4) (ac (ak bO (pv 2) (bL cB (bL cB (og (pv 0) rfl) (pv 3)) ay)) ar))⟩)
  (bS (cX ⟨dS rfl BT (bJ (pv 5)) (λ s H C fp=>bN rfl (dB (cu Cb rfl (.inl rfl)) (dB (cu Cb rfl (.inl rfl)) (dB (cu Cb rfl (.inl rfl)) br)))) (λ s H C fp=>aP (ac (pv 0) (ac (pv 1) (ac (fq (pv 5) MB Qr ag (ac (pv 4) (ac (pv 3) (ac (pv 2) ar)))) ar))))⟩)))
end
theorem GL {Q:Hp->Prop}(hl:H1 l=some (.lst ps))(al:h_ K H1 ps ss)(gd:∀ s∈ss,s.good)(len:ps.length<=10)(ru:Op C H1 rs (.ref o))(er:rs[n]?=some r)(ok:r.ok)(hD:H1 D=none)
  (hd:∀ zs H,Ext H1 H->H D=some (.lst zs)->h_ K H zs (ss.map λ s=>{ s with next:=cg rs n x s.next })->Q H) :
  ∃ W:Nat->Nat->List V->Hp->Prop,(∃ m,W 0 m [] (aj H1 D (.lst []))) /\
   ∀ i m' ys H2,W i m' ys H2->H2 D=some (.lst ys)/\(((nj K l).stop i H2/\Q H2)\/((nj K l).go i H2/\ys.length<sizeLine /\
    ∀ x' H3,(nj K l).ο i H2 x' H3->∀ os:St,os.length=3->K5 K x' (os ++ [some (.int x),some (.int (n:Nat)),some (.ref o)]) H3 λ Ĩ H0=>(∃ ı:St,ı.length=3/\Ĩ = ı ++ [some (.int x),some (.int (n:Nat)),some (.ref o)])/\Hf C Ĩ H0 λ y H4=>H4 D=some (.lst ys)/\∃ Yu,Yu<m'/\W (i+1) Yu (ys ++ [y]) (aj H4 D (.lst (ys ++ [y]))))):=by
 refine fu (λ i zs H'=>Ext H1 H'/\h_ K H' zs ((ss.take i).map λ s=>{ s with next:=cg rs n x s.next })) (by rw [Ü];omega) ⟨.new hD,.nil⟩ (λ i ys H' pv=>Ċ.of (pv.1 _ _ hl)) ?_ ?_
 ·rintro i v ys H' ev ly ś ⟨x',sy⟩ os Ş R k;obtain⟨o0,o1,o2,rfl⟩:∃ o0 o1 o2,os=[o0,o1,o2]:=by
   match os,Ş with
   | [o0,o1,o2],_=>exact⟨o0,o1,o2,rfl⟩
  obtain⟨t,et,ht⟩:=al.get ev;obtain⟨a,sv,nv,rfl,ha,hs,hn⟩:=ht.ext x';refine⟨a,_,rfl,Ė.of ha,rfl,_,_,rfl,_,_,rfl,_,_,rfl,rfl,⟨[some (.int t.hand),some sv,some nv],rfl,rfl⟩,?_⟩;have P0:=Op.ext ru x';obtain⟨o',dx,fs,e0,ho,_,_,_,_,hm,_⟩:=P0.ex;cases e0;refine⟨_,rfl,_,rfl,_,rfl,o,C 3,dx,fs,rfl,rfl,ho,hm _ aC,_,rfl,_,rfl,_,rfl,o,n,x,nv,t.next,rs,r,rfl,P0,er,ok,hn,λ m H4 x4 rm=>⟨cK,λ p hp=>?_⟩⟩;obtain⟨H5,x5,g5,eU⟩:=gB hp (.tup [.int t.hand,sv,.ref m]);rw [eU];have QE:=x4.trans x5;have VT:=QE _ _ ś;have kp:=zD (.lst (ys ++ [.ref p])) VT;refine k _ H5 VT ⟨aV _ (x'.trans QE) hD,?_⟩;rw [aM et,Ð];refine h_.Ē kp (h_.app (sy.ext QE) (.cons ⟨p,sv,.ref m,rfl,g5,hs.ext QE,rm.mono x5⟩ .nil)) λ z hz=>?_;rcases ß.mp hz with z1 | z1
  ·obtain⟨q,hq,rfl⟩:=æ.mp z1;exact iw (gd q (ģ hq)).nl
  ·rw [É.mp z1];exact iw (gd t (Ì et)).nl
 ·rintro ys H' ly ś ⟨x',sy⟩;rw [al.len,á] at sy;exact hd ys H' x' ś sy
theorem İ (r:R0)(sd:PyData)(x:Int):(r.steps sd x).length<=2:=by
 unfold R0.steps;split
 ·rw [Õ];split <;> split <;> simp
 ·simp
 ·simp
 ·split
  ·simp
  ·split <;> simp
 ·simp
theorem Fn (Z:KR K C CR)(F:ĵ K "steps" "Blocks.steps" Bw f fd) (M0:cG P w K mg base aB 5 "steps" ["self","state","at"] (λ c=>∃ i,i<3/\c=C i) (gf K C)) (MB:cG P w K mg base aB 3 "state_behind" ["self","number","at","inner"] (λ c=>c=C 3) (λ _=>uB C)):í P w K mg base aB 6 f fd ["self","state","at"] (gf K C (C 3)):=by
 refine bX F T4 λ cdv A outer s H vs Q E hr h=>?_;obtain⟨v,st,x,t,sd,rfl,ru,ec,ok,x0,x1,vs,rd,q⟩:=h;obtain⟨ε⟩:=Bv M0 MB hr (f:=f) (cdv:=cdv) (A:=A) (outer:=outer) (s:=s) (H:=H) (E:=E);refine⟨_,ε,?_⟩;have ek:=Z.inj t.ā ax ec;cases t with
 | one r=>have:r.kind=3:=ek;have:=r.ā;omega
 | first t m=>have:4=3:=ek;omega
 | blocks rs =>
  obtain⟨i,inner,r,rfl,er,s0,s1,vr⟩:=vs;obtain⟨o1,o6,oo,P1⟩:=ok;have OS:=oo r (Ì er);cases rd with
  | tup ha ra =>
   rename_i a us
   cases ra with
   | cons r1 ra =>
    cases r1;cases ra with
    | cons Wr ra =>
     cases ra
     rename_i iv
     obtain⟨o,dx,fs,rfl,ho,_,_,_,⟨p,hp,rp⟩,hm,l,ws,hl,hw,al⟩:=Ob.ex ru;obtain⟨pa,us,b,rfl,hpa,hb,hu⟩:=sj rp er;have fk:=R0.Į OS;obtain⟨m,em⟩:∃ m,r.Û.toNat=m+1:=⟨r.Û.toNat-1,af⟩;have hi:i<rs.length:=(È.mp er).1;have lw:=al.1;have ew:ws[i]?=some ws[i]:=Å af;have ri:=al.2 i r _ er ew;have u0:((jc (aw rs i) r.Û.toNat).map V.int)[0]?=some (.int (aw rs i)):=by rw [em,Ô,vM];rfl
     refine⟨_,rfl,a,_,rfl,Ė.of ha,rfl,_,_,rfl,_,_,rfl,rfl,?_⟩;show aA (bY (uo K C) (aN 5)) (aY (Gf K C)) _ [some (.ref o),some (.ref a),some (.int x),some (.int (i:Nat)),some iv,none] H;have fld:∀{R:VK}{fn:Str}{y:V},fn∈eK->fs.lookup fn=some y->R y H->jo K (ae 0) fn [some (.ref o),some (.ref a),some (.int x),some (.int (i:Nat)),some iv,none] H R:=λ hf e r=>⟨_,rfl,o,C 3,dx,fs,_,rfl,ho,Z.cls 3 ax,Z.no 3 ax _ hf,e,r⟩;refine aK (jp (t:=.one r) aC ri ⟨_,r.ā,rfl⟩ (λ R z=>⟨_,rfl,o,C 3,dx,fs,_,rfl,ho,Z.cls 3 ax,Z.no 3 ax "rules" aC,hl,_,rfl,l,ws,_,_,rfl,rfl,Ė.of hw,jU ew,z⟩) ?_);refine⟨_,rfl,_,rfl,_,rfl,o,C 3,dx,fs,_,rfl,ho,Z.cls 3 ax,Z.no 3 ax "parts" aC,hp,_,rfl,pa,us,_,_,rfl,rfl,Ė.of hpa,jU hb,b,_,0,_,rfl,rfl,Ė.of hu,jU u0,_,_,rfl,rfl,?_⟩;refine⟨ws[i],iv,x-aw rs i,.one r,inner,rfl,ri,rfl,OS,af,by show x-aw rs i<r.Û;omega,vr,Wr,λ lw' H1 x1 sl=>?_⟩
     obtain⟨ps,Rw,ZX⟩:=sl.2;have ls:ps.length<=10:=by
      have:=İ r inner (x-aw rs i);rw [ZX.len];exact Í this ax
     have gd:=(R0.ŏ OS af af vr).1;refine⟨_,rfl,lw',rfl,⟨_,Ċ.of Rw⟩,λ D hD=>?_⟩;refine GL Rw ZX (λ s hs=>(gd s hs).1) ls (Op.ext ru x1) er OS hD λ zs H2 x2 h2 U7=>q D H2 (x1.trans x2) ⟨x1.back hD,zs,h2,?_⟩;have es:(Rl.blocks rs).steps (.tuple [.int (i:Nat),inner]) x=(r.steps inner (x-aw rs i)).map λ s=>{ s with next:=cg rs i x s.next }:=by
      simp only [Rl.steps,Int.toNat_natCast,er]
     rw [es];exact U7
theorem Rl.İ:∀(t:Rl)(sd:PyData)(x:Int),(t.steps sd x).length<=2
 | .one r,sd,x=>My.İ r sd x
 | .first t _,sd,x=>Rl.İ t sd x
 | .blocks rs,sd,x=>by
  unfold Rl.steps
  repeat' split
  all_goals first | exact Đ _ | (rw [Ä];exact My.İ _ _ _) | (rename_i h;cases h) | (rename_i h _;cases h) | contradiction
abbrev JP:Stmt:=bw (cP 39) 1
theorem KJ:ai ["self","state","at"] ["self","state","at"] (aa JP):=bc
theorem Rl.MO:∀(t:Rl),t.inner.kind<4
 | .one r=>by have:=r.ā;show r.kind<4;omega
 | .blocks _=>by show 3<4;decide
 | .first t _=>Rl.MO t
theorem Fa (Z:KR K C CR)(F:ĵ K "steps" "First.steps" JP f fd) (M1:cG P w K mg base aB 6 "steps" ["self","state","at"] (λ c=>∃ i,i<4/\c=C i) (gf K C)):í P w K mg base aB 7 f fd ["self","state","at"] (gf K C (C 4)):=by
 refine bX F KJ λ cdv A outer s H vs Q E hr h=>?_;obtain⟨v,st,x,t,sd,rfl,ru,ec,ok,x0,x1,vs,rd,q⟩:=h;refine⟨_,aW (cn (fq (og (pv 0) rfl) M1 hr ag (ac (pv 1) (ac (pv 2) ar)))),?_⟩;have ek:=Z.inj t.ā ax ec;cases t with
 | one r=>have:r.kind=4:=ek;have:=r.ā;omega
 | blocks rs=>have:3=4:=ek;omega
 | first t m =>
  obtain⟨o1,o2,o3⟩:=ok;obtain⟨o,dx,fs,rfl,ho,_,_,_,_,hm,d,hd,rn⟩:=Ob.ex ru;obtain⟨i1,i2⟩:=Rl.Oi o1;have xm:x<m:=x1;refine jp aC rn.ru ⟨_,t.MO,rfl⟩ (λ R z=>⟨_,rfl,o,C 4,dx,fs,_,rfl,ho,Z.cls 4 ax,Z.no 4 ax "dealer" aC,hd,z⟩) ?_;refine⟨_,rfl,_,rfl,d,st,x,t.inner,sd,rfl,rn.ru,rfl,i1,x0,af,Rl.Nx t x sd vs,rd,λ l H' x' sl=>q l H' x' ⟨sl.1,?_⟩⟩;have Rb:=sl.2;rw [Rl.G_] at Rb;exact Rb
end
def eC:NK->PyData
 | .k x=>j8 x
 | .t ks=>.tuple (ks.map j8)
def Iu:PyData->Key
 | .int i=>.inl i
 | _=>.Ă
def fw:PyData->NK
 | .tuple ds=>.t (ds.map Iu)
 | d=>.k (Iu d)
def iU:PyData->Bool
 | .int _=>true
 | .none=>true
 | _=>false
def hG (tp:Bool):PyData->Bool
 | .tuple [.int _,d]=>tp&&iU d
 | d=>!tp&&iU d
theorem E8 (h:iU d=true):j8 (Iu d)=d:=by
 cases d with
 | int i=>rfl
 | none=>rfl
 | _=>cases h
theorem lE (h:hG tp d=true):eC (fw d)=d:=by
 cases d with
 | int i=>rfl
 | none=>rfl
 | tuple ds =>
  match ds,h with
  | [.int i,d],h =>
   have h':(tp&&iU d)=true:=h;rw [ĉ] at h';show PyData.tuple [.int i,j8 (Iu d)]=_;rw [E8 h'.2]
  | [],h | [_],h | (_::_::_::_),h=>simp [hG,iU] at h
  | [.none,_],h | [.bool _,_],h | [.str _,_],h | [.list _,_],h | [.tuple _,_],h | [.dict _,_],h=>simp [hG,iU] at h
 | _=>simp [hG,iU] at h
def Rl.tp:Rl->Bool
 | .one _=>false
 | .blocks _=>true
 | .first t _=>t.tp
theorem qI (h:iU d=true):hG false d=true:=by
 cases d with
 | int i=>rfl
 | none=>rfl
 | _=>cases h
theorem mN (h:iU d=true):hG true (.tuple [.int i,d])=true:=h
theorem R0.Q_ {r:R0}(v:r.q_ x st):iU st=true:=by
 cases r with
 | split n k=>obtain⟨s,rfl,_⟩:=v;rfl
 | pairs n a b=>rcases v with⟨_,rfl⟩ | ⟨_,rfl | rfl⟩ <;> rfl
 | ę n a b f=>obtain⟨s,rfl,_⟩:=v;rfl
theorem R0.Ρ (r:R0):iU r.begin=true:=by cases r <;> rfl
theorem Rl.Ρ:∀(t:Rl),t.ok->hG t.tp t.begin=true
 | .one r,_=>qI r.Ρ
 | .blocks rs,ok=>by
  obtain⟨o1,o6,oo,P1⟩:=ok;cases rs with
  | nil=>exact absurd o1 ax
  | cons r rs=>exact mN r.Ρ
 | .first t _,ok=>Rl.Ρ t ok.1
theorem xk (rs:List R0)(n:Nat):hG true (cD rs n)=true:=by
 unfold cD;cases rs[n]? with
 | none=>rfl
 | some r=>exact mN r.Ρ
theorem Rl.P3:∀{t:Rl}{x:Int}{st:PyData},t.ok->0<=x->x<t.Û->t.q_ x st->∀ s∈t.steps st x,hG t.tp s.next=true
 | .one r,x,st,ok,x0,x1,v,s,hs=>qI (R0.Q_ ((R0.ŏ ok x0 x1 v).1 s hs).2)
 | .blocks rs,x,st,ok,x0,x1,v,s,hs=>by
  obtain⟨i,inner,r,rfl,er,s0,s1,v⟩:=v;obtain⟨o1,o6,oo,P1⟩:=ok;have es:(Rl.blocks rs).steps (.tuple [.int (i:Nat),inner]) x=(r.steps inner (x-aw rs i)).map λ s=>{ s with next:=cg rs i x s.next }:=by
   simp only [Rl.steps,Int.toNat_natCast,er]
  rw [es] at hs;obtain⟨q,hq,rfl⟩:=æ.mp hs;have vn:=((R0.ŏ (oo r (Ì er)) af af v).1 q hq).2;unfold cg;split
  ·exact xk rs _
  ·exact mN (R0.Q_ vn)
 | .first t m,x,st,ok,x0,x1,v,s,hs=>by
  obtain⟨o1,o2,o3⟩:=ok;have xm:x<m:=x1;exact Rl.P3 o1 x0 af v s hs
def EB:List R0->Int->Nat
 | [],_=>1
 | r::rs,x=>if x<r.Û then r.dd x else EB rs (x-r.Û)
def Rl.dd:Rl->Int->Nat
 | .one r,x=>r.dd x
 | .blocks rs,x=>EB rs x
 | .first t _,x=>t.dd x
theorem jI (r:R0)(rs:List R0)(i:Nat):aw (r::rs) (i+1)=r.Û + aw rs i:=by
 unfold aw;rw [List.take_succ_cons,Ú,š]
theorem oR:∀{rs:List R0},(∀ r∈rs,r.ok)->∀ i,0<=aw rs i
 | _,_,0=>by simp [aw]
 | [],_,i+1=>by simp [aw]
 | r::rs,oo,i+1=>by
  have h1:=R0.Į (oo r (Ö ..));have h2:=oR (λ q hq=>oo q (Ï _ hq)) i;rw [jI];omega
theorem wu:∀{rs:List R0}{i:Nat}{r:R0}{x:Int},(∀ r∈rs,r.ok)->rs[i]?=some r->aw rs i<=x->x<aw rs i+r.Û->EB rs x=r.dd (x-aw rs i)
 | [],i,r,x,_,h,_,_=>by simp at h
 | q::rs,0,r,x,oo,h,h0,h1=>by
  cases h;have e:aw (q::rs) 0=0:=by simp [aw]
  rw [e] at h0 h1 ⊢;unfold EB;rw [Ó af,Int.sub_zero]
 | q::rs,i+1,r,x,oo,h,h0,h1=>by
  have Yi:=λ z hz=>oo z (Ï _ hz);have nn:=oR Yi i;rw [jI] at h0 h1 ⊢;unfold EB;rw [Ë af,wu Yi h af af]
  congr 1
  omega
theorem Rl.MK:∀{t:Rl}{x:Int}{st:PyData},t.ok->0<=x->x<t.Û->t.q_ x st->1<=t.dd x/\t.dd x<=100/\(∀ s∈t.steps st x,s.b ∣ t.dd x)/\((t.steps st x).map λ s=>s.part (t.dd x)).sum=t.dd x
 | .one r,x,st,ok,x0,x1,v=>R0.ON ok x0 x1 v
 | .blocks rs,x,st,ok,x0,x1,v=>by
  obtain⟨i,inner,r,rfl,er,s0,s1,v⟩:=v;obtain⟨o1,o6,oo,P1⟩:=ok;have es:(Rl.blocks rs).steps (.tuple [.int (i:Nat),inner]) x=(r.steps inner (x-aw rs i)).map λ s=>{ s with next:=cg rs i x s.next }:=by
   simp only [Rl.steps,Int.toNat_natCast,er]
  have ed:(Rl.blocks rs).dd x=r.dd (x-aw rs i):=wu oo er s0 s1;obtain⟨h1,h2,h3,h4⟩:=R0.ON (oo r (Ì er)) af af v;rw [es,ed,δ];refine⟨h1,h2,λ s hs=>?_,h4⟩;obtain⟨q,hq,rfl⟩:=æ.mp hs;exact h3 q hq
 | .first t m,x,st,ok,x0,x1,v=>by
  obtain⟨o1,o2,o3⟩:=ok;have xm:x<m:=x1;exact Rl.MK (t:=t) o1 x0 af v
theorem xE {ss:List Ŝ}(h1:∀ s∈ss,1<=s.b)(hd:∀ s∈ss,s.b ∣ d)(hF:∀ s∈ss,s.b ∣ F)(d0:0<d)(e:(ss.map λ s=>s.part d).sum=d):(ss.map λ s=>s.part F).sum=F:=by
 have one:∀ s∈ss,s.part F*d=s.part d*F:=λ s hs=>by
  obtain⟨a,ha⟩:=hd s hs;obtain⟨c,hc⟩:=hF s hs;have b1:=h1 s hs;unfold Ŝ.part;rw [ha,hc,č _ b1,č _ b1]
  ac_rfl
 have all:∀(l:List Ŝ),(∀ s∈l,s∈ss)->(l.map λ s=>s.part F).sum*d=(l.map λ s=>s.part d).sum*F:=λ l=>by
  induction l with
  | nil=>intro _;simp
  | cons s l ih =>
   intro h;simp only [List.map_cons,List.sum_cons,Nat.add_mul];rw [one s (h s (Ö ..)),ih λ q hq=>h q (Ï _ hq)]
 have z:=all ss λ _ h=>h;rw [e,RM d F] at z;exact Nat.eq_of_mul_eq_mul_right d0 z
theorem lL (h:n<=10^300):Sz n:=ι h (ä (by decide:(10:Nat)^300<2^1000) (þ ax ax))
theorem xi:bo N D<=N:=Ŀ _ _
structure Bg where
 d:Nat
 st:PyData
 s:Int
 t:Nat
 b:Nat
def Bg.more (r:Bg)(k:Nat)(c:Int)(s:Ŝ):Bg:=⟨r.d+(if s.hand=1 then 2^k else 0),s.next,r.s+s.hand*c,r.t*s.t,r.b*s.b⟩
def dY (t:Rl)(sc:List Int):Nat->List Bg
 | 0=>[⟨0,t.begin,0,1,1⟩]
 | k+1=>(dY t sc k).flatMap λ r=>(t.steps r.st (k:Nat)).map λ s=>r.more k (sc.getD k 0) s
abbrev TK:=NK × Int
def Bg.key (r:Bg):TK:=(fw r.st,r.s)
def Bg.part (r:Bg)(D:Nat):Nat:=r.t*(D/r.b)
abbrev Tw:=List (TK × Nat)
def jV:Tw->TK->Nat
 | [],_=>0
 | p::ps,k=>if p.1=k then p.2 else jV ps k
def c8:Tw->TK->Nat->Tw
 | [],k,c=>[(k,c)]
 | p::ps,k,c=>if p.1=k then(p.1,p.2+c)::ps else p::c8 ps k c
def tS (g:TK->Nat)(ps:Tw):Nat:=(ps.map λ p=>p.2*g p.1).sum
theorem uf (g:TK->Nat):∀(ps:Tw)(k:TK)(c:Nat),tS g (c8 ps k c)=tS g ps+c*g k
 | [],k,c=>by simp [c8,tS]
 | p::ps,k,c=>by
  have ih:=uf g ps k c;unfold tS at ih ⊢;unfold c8;split
  ·grind
  ·grind
theorem pw:∀(ps:Tw)(k:TK)(c:Nat),(c8 ps k c).length<=ps.length+1
 | [],k,c=>by simp [c8]
 | p::ps,k,c=>by
  have ih:=pw ps k c;unfold c8;split
  ·simp
  ·grind
theorem oJ:∀{ps:Tw}{k:TK}{c:Nat}{q:TK},q∈(c8 ps k c).map (·.1)->q=k\/q∈ps.map (·.1)
 | [],k,c,q,h=>by
  left
  simpa [c8] using h
 | p::ps,k,c,q,h=>by
  unfold c8 at h;split at h
  ·grind
  ·rw [Ú,é] at h;rcases h with h | h
   ·grind
   ·rcases oJ h with z | z
    ·grind
    ·grind
theorem rG:∀{ps:Tw}{k:TK}{c:Nat},(ps.map (·.1)).Nodup->((c8 ps k c).map (·.1)).Nodup
 | [],k,c,_=>by simp [c8]
 | p::ps,k,c,h=>by
  rw [Ú,Ğ] at h;unfold c8;split
  ·grind
  ·rename_i ne
   rw [Ú,Ğ];refine⟨λ z=>?_,rG h.2⟩;rcases oJ z with q | q
   ·grind
   ·grind
theorem pc:∀{ps:Tw}{k:TK}{c:Nat},0<c->(∀ p∈ps,0<p.2)->∀ p∈c8 ps k c,0<p.2
 | [],k,c,c0,_,p,h=>by
  rw [show p=(k,c) by simpa [c8] using h]
  exact c0
 | q::ps,k,c,c0,a,p,h=>by
  unfold c8 at h;split at h
  ·grind
  ·rcases é.mp h with rfl | h
   ·grind
   ·exact pc c0 (λ z hz=>a z (Ï _ hz)) p h
theorem wF:∀(ps:Tw)(k:TK),jV ps k<=tS (λ _=>1) ps
 | [],k=>Đ _
 | p::ps,k=>by
  have ih:=wF ps k;unfold tS at ih ⊢;unfold jV;simp only [List.map_cons,List.sum_cons,Nat.mul_one] at ih ⊢;split <;> omega
theorem qO (h:p∈ps):p.2<=tS (λ _=>1) ps:=by
 induction ps with
 | nil=>cases h
 | cons q ps ih =>
  unfold tS at ih ⊢;simp only [List.map_cons,List.sum_cons,Nat.mul_one] at ih ⊢;rcases é.mp h with rfl | h
  ·omega
  ·grind
theorem ul:∀{ps:Tw}{k:TK},(ps.map (·.1)).Nodup->tS (λ q=>if q=k then 1 else 0) ps=jV ps k
 | [],k,_=>rfl
 | p::ps,k,h=>by
  rw [Ú,Ğ] at h;have ih:=ul (k:=k) h.2;unfold tS at ih ⊢;unfold jV;simp only [List.map_cons,List.sum_cons];by_cases e:p.1=k
  ·rw [Ó e,Ó e,Nat.mul_one,ih];have z:jV ps k=0:=by
    have no:k ∉ ps.map (·.1):=by rw [<- e];exact h.1
    clear ih h
    induction ps with
    | nil=>rfl
    | cons q ps ih =>
     rw [Ú,é,not_or] at no;unfold jV;rw [Ë (λ z=>no.1 z.symm)];exact ih no.2
   omega
  ·grind
def DD (t:Rl):Nat->Nat
 | 0=>1
 | k+1=>DD t k*t.dd (k:Nat)
structure Lay (t:Rl)(sc:List Int)(k D:Nat)(ps:Tw):Prop where
 D0:0<D
 nd:(ps.map (·.1)).Nodup
 dv:∀ r∈dY t sc k,r.b ∣ D
 g:∀ g:TK->Nat,tS g ps=((dY t sc k).map λ r=>r.part D*g r.key).sum
 pos:∀ p∈ps,0<p.2
 one:tS (λ _=>1) ps=D
 len:ps.length<=2^k
 dd:D ∣ DD t k
structure Bg.ok (t:Rl)(k:Nat)(r:Bg):Prop where
 st:hG t.tp r.st=true
 v:(k:Int)<t.Û->t.q_ (k:Nat) r.st
 d:r.d<2^k
 t1:1<=r.t
 tb:r.t<=r.b
 dv:r.b ∣ DD t k
theorem c5 {t:Rl}{k:Nat}(ok:t.ok)(hk:(k:Int)<t.Û)(v:t.q_ (k:Nat) st):∀ s∈t.steps st (k:Nat),s.good/\hG t.tp s.next=true/\(((k:Int)+1<t.Û)->t.q_ ((k:Int)+1) s.next)/\s.b ∣ t.dd (k:Nat):=λ s hs=>by
 have k0:(0:Int)<=(k:Nat):=af;obtain⟨h1,h2⟩:=Rl.ŏ ok k0 hk v;exact⟨(h1 s hs).1,Rl.P3 ok k0 hk v s hs,(h1 s hs).2,(Rl.MK ok k0 hk v).2.2.1 s hs⟩
theorem dw (ok:t.ok):∀{k:Nat},(k:Int)<=t.Û->∀ r∈dY t sc k,r.ok t k
 | 0,h,r,hr=>by
  rw [show r=⟨0,t.begin,0,1,1⟩ by simpa [dY] using hr]
  exact⟨Rl.Ρ t ok,λ z=>Rl.Ow ok (by simpa using z),(by show 0<2^0;decide),Æ _,Æ _,Γ _⟩
 | k+1,h,r,hr=>by
  have hk:(k:Int)<t.Û:=af;obtain⟨q,hq,hr⟩:=ż.mp hr;obtain⟨s,hs,rfl⟩:=æ.mp hr;have o:=dw ok (ħ hk) q hq;obtain⟨g,s1,s2,s3⟩:=c5 ok hk (o.v hk) s hs;refine⟨s1,λ z=>by have:=s2 af;simpa [Bg.more] using this,?_,?_,?_,?_⟩
  ·have:=o.d;have e:2^(k+1)=2^k*2:=Ψ ..;show q.d+(if s.hand=1 then 2^k else 0)<2^(k+1)
   split <;> omega
  ·exact ŋ o.t1 g.t1
  ·exact Ů o.tb g.tb
  ·exact Nat.mul_dvd_mul o.dv s3
theorem Bg.ok.b1 {t:Rl}{r:Bg}(o:r.ok t k):1<=r.b:=Í o.t1 o.tb
theorem iu (ok:t.ok)(sc:List Int):∀{k:Nat},(k:Int)<=t.Û->1<=DD t k/\DD t k<=100^k
 | 0,_=>⟨Æ _,Æ _⟩
 | k+1,h=>by
  have hk:(k:Int)<t.Û:=af;obtain⟨h1,h2⟩:=iu ok sc (ħ hk);have ne:∃ st,t.q_ (k:Nat) st:=by
   have:∀ j:Nat,(j:Int)<t.Û->∃ st,t.q_ (j:Nat) st:=λ j=>by
    induction j with
    | zero=>intro z;exact⟨_,Rl.Ow ok (by simpa using z)⟩
    | succ j ih =>
     intro z;obtain⟨st,v⟩:=ih af;obtain⟨a1,a2⟩:=Rl.ŏ ok af af v;cases e:t.steps st (j:Nat) with
     | nil=>exact absurd e a2
     | cons s ss=>exact⟨s.next,by simpa using (a1 s (by rw [e];exact Ö ..)).2 af⟩
   exact this k hk
  obtain⟨st,v⟩:=ne;obtain⟨d1,d2,_⟩:=Rl.MK ok af hk v;exact⟨ŋ h1 d1,by rw [Ψ];exact Ů h2 d2⟩
def nB (t:Rl)(k:Nat)(c:Int)(F:Nat)(p:TK × Nat)(acc:Tw):Tw:=(t.steps (eC p.1.1) (k:Nat)).foldl (λ acc s=>c8 acc (fw s.next,p.1.2+s.hand*c) (p.2*s.part F)) acc
def vD (t:Rl)(k:Nat)(c:Int)(F:Nat)(ps:Tw):Tw:=ps.foldl (λ acc p=>nB t k c F p acc) []
section
variable {ss:List Ŝ}{F n:Nat}{s0 c:Int}
abbrev iT (ss:List Ŝ)(F n:Nat)(s0 c:Int)(acc:Tw):Tw:=ss.foldl (λ acc s=>c8 acc (fw s.next,s0+s.hand*c) (n*s.part F)) acc
theorem wd (g:TK->Nat):∀(ss:List Ŝ)(acc:Tw),tS g (iT ss F n s0 c acc)=tS g acc+n*(ss.map λ s=>s.part F*g (fw s.next,s0+s.hand*c)).sum
 | [],acc=>by simp [iT]
 | s::ss,acc=>by
  show tS g (iT ss F n s0 c (c8 acc _ _))=_;rw [wd g ss,uf];simp only [List.map_cons,List.sum_cons,Nat.mul_add,Nat.mul_assoc];omega
theorem mX:∀(ss:List Ŝ){acc:Tw},(acc.map (·.1)).Nodup->((iT ss F n s0 c acc).map (·.1)).Nodup
 | [],acc,h=>h
 | s::ss,acc,h=>mX ss (rG h)
theorem jD:∀(ss:List Ŝ)(acc:Tw),(iT ss F n s0 c acc).length<=acc.length+ss.length
 | [],acc=>Æ _
 | s::ss,acc=>by
  have h1:=jD ss (c8 acc (fw s.next,s0+s.hand*c) (n*s.part F));have h2:=pw acc (fw s.next,s0+s.hand*c) (n*s.part F);show(iT ss F n s0 c (c8 acc _ _)).length<=_;rw [ì];omega
theorem n8:∀(ss:List Ŝ){acc:Tw},0<n->(∀ s∈ss,0<s.part F)->(∀ p∈acc,0<p.2)->∀ p∈iT ss F n s0 c acc,0<p.2
 | [],acc,_,_,h=>h
 | s::ss,acc,n0,hs,h=>n8 ss n0 (λ q hq=>hs q (Ï _ hq)) (pc (ŋ n0 (hs s (Ö ..))) h)
end
section
variable {t:Rl}{k F:Nat}{c:Int}
def fP (t:Rl)(k:Nat)(c:Int)(F:Nat)(ps acc:Tw):Tw:=ps.foldl (λ acc p=>nB t k c F p acc) acc
theorem mf (g:TK->Nat):∀(ps acc:Tw),tS g (fP t k c F ps acc)=tS g acc+tS (λ q=>((t.steps (eC q.1) (k:Nat)).map λ s=>s.part F*g (fw s.next,q.2+s.hand*c)).sum) ps
 | [],acc=>by simp [fP,tS]
 | p::ps,acc=>by
  show tS g (fP t k c F ps (nB t k c F p acc))=_;rw [mf g ps];have h:=wd (F:=F) (n:=p.2) (s0:=p.1.2) (c:=c) g (t.steps (eC p.1.1) (k:Nat)) acc;have h':tS g (nB t k c F p acc)=_:=h;rw [h'];simp only [tS,List.map_cons,List.sum_cons];omega
theorem jC:∀(ps:Tw){acc:Tw},(acc.map (·.1)).Nodup->((fP t k c F ps acc).map (·.1)).Nodup
 | [],acc,h=>h
 | p::ps,acc,h=>jC ps (mX (t.steps (eC p.1.1) (k:Nat)) h)
theorem iV:∀(ps acc:Tw),(fP t k c F ps acc).length<=acc.length+2*ps.length
 | [],acc=>by simp [fP]
 | p::ps,acc=>by
  have h1:=iV ps (nB t k c F p acc);have h2:(nB t k c F p acc).length<=_:=jD (t.steps (eC p.1.1) (k:Nat)) acc;have h3:=Rl.İ t (eC p.1.1) (k:Nat);show(fP t k c F ps (nB t k c F p acc)).length<=_;rw [ì];omega
theorem lu:∀(ps:Tw){acc:Tw},(∀ p∈ps,0<p.2/\∀ s∈t.steps (eC p.1.1) (k:Nat),0<s.part F)->(∀ p∈acc,0<p.2)->∀ p∈fP t k c F ps acc,0<p.2
 | [],acc,_,h=>h
 | p::ps,acc,hp,h=>lu ps (λ q hq=>hp q (Ï _ hq)) (n8 (t.steps (eC p.1.1) (k:Nat)) (hp p (Ö ..)).1 (hp p (Ö ..)).2 h)
end
theorem vZ (h1:b ∣ a)(h2:d ∣ c)(b0:0<b)(d0:0<d):a*c/(b*d)=a/b*(c/d):=by
 obtain⟨m,rfl⟩:=h1;obtain⟨n,rfl⟩:=h2;rw [č _ b0,č _ d0,show b*m*(d*n)=b*d*(m*n) by ac_rfl,č _ (ŋ b0 d0)]
theorem qZ {α:Type}{f:α->Nat}:∀{l:List α},0<(l.map f).sum->∃ x∈l,0<f x
 | [],h=>absurd h (by simp)
 | x::l,h=>by
  rw [Ú,š] at h;rcases Nat.eq_zero_or_pos (f x) with z | z
  ·obtain⟨y,hy,h2⟩:=qZ (f:=f) (l:=l) af;exact⟨y,Ï _ hy,h2⟩
  ·grind
theorem ww {α:Type}{f:α->Nat}{x:α}:∀{l:List α},x∈l->f x<=(l.map f).sum
 | y::l,h=>by
  rw [Ú,š];rcases é.mp h with rfl | h
  ·omega
  ·have:=ww (f:=f) h;omega
theorem q8 {ps:Tw}{p:TK × Nat}(nd:(ps.map (·.1)).Nodup)(h:p∈ps):jV ps p.1=p.2:=by
 induction ps with
 | nil=>cases h
 | cons q ps ih =>
  rw [Ú,Ğ] at nd;unfold jV;rcases é.mp h with rfl | h
  ·grind
  ·grind
theorem xT {ps:Tw}{k:TK}(h:0<jV ps k):k∈ps.map (·.1):=by
 induction ps with
 | nil=>cases h
 | cons q ps ih =>
  unfold jV at h;rw [Ú,é];split at h
  ·grind
  ·grind
section
variable {t:Rl}{sc:List Int}{k D:Nat}{ps:Tw}
abbrev wm (k:TK):TK->Nat:=λ q=>if q=k then 1 else 0
theorem Lay.at_ (L:Lay t sc k D ps)(q:TK):jV ps q=((dY t sc k).map λ r=>r.part D*wm q r.key).sum:=by rw [<- ul L.nd];exact L.g _
theorem Lay.keys (L:Lay t sc k D ps)(ok:t.ok)(hk:(k:Int)<=t.Û)(q:TK):q∈ps.map (·.1) ↔ ∃ r∈dY t sc k,r.key=q:=by
 constructor
 ·intro h;obtain⟨p,hp,rfl⟩:=æ.mp h;have z:0<((dY t sc k).map λ r=>r.part D*wm p.1 r.key).sum:=by rw [<- L.at_,q8 L.nd hp];exact L.pos p hp
  obtain⟨r,hr,h2⟩:=qZ z;refine⟨r,hr,?_⟩;by_cases e:r.key=p.1
  ·exact e
  ·grind
 ·rintro⟨r,hr,rfl⟩;refine xT ?_;rw [L.at_];have o:=dw ok hk r hr;have h1:0<r.part D*wm r.key r.key:=by
   have:=Nat.div_pos (Ĉ L.D0 (L.dv r hr)) o.b1;show 0<r.t*(D/r.b)*(if r.key=r.key then 1 else 0)
   rw [Ó rfl,Nat.mul_one];exact ŋ o.t1 this
  exact ä h1 (ww (f:=λ r':Bg=>r'.part D*wm r.key r'.key) hr)
theorem Lay.st (L:Lay t sc k D ps)(ok:t.ok)(hk:(k:Int)<=t.Û)(hp:p∈ps):hG t.tp (eC p.1.1)=true/\fw (eC p.1.1)=p.1.1/\((k:Int)<t.Û->t.q_ (k:Nat) (eC p.1.1)):=by
 obtain⟨r,hr,e⟩:=(L.keys ok hk p.1).mp (ĩ hp);have o:=dw ok hk r hr;have e1:fw r.st=p.1.1:=ą Prod.fst e;have e2:=lE o.st;rw [<- e1,e2];exact⟨o.st,rfl,o.v⟩
theorem Lay.zero (t:Rl)(sc:List Int):Lay t sc 0 1 [((fw t.begin,0),1)] where
 D0:=ax
 nd:=by simp
 dv:=λ r hr=>by
  rw [show r=⟨0,t.begin,0,1,1⟩ by simpa [dY] using hr]
  exact Γ _
 g:=λ g=>by simp [tS,dY,Bg.part,Bg.key]
 pos:=by simp
 one:=by simp [tS]
 len:=by simp
 dd:=Γ _
theorem Lay.next {F:Nat}(L:Lay t sc k D ps)(ok:t.ok)(hk:(k:Int)<t.Û)(F1:1<=F)(Fd:F ∣ t.dd (k:Nat))(hF:∀ p∈ps,∀ s∈t.steps (eC p.1.1) (k:Nat),s.b ∣ F):Lay t sc (k+1) (D*F) (vD t k (sc.getD k 0) F ps):=by
 have Oj:=ħ hk;have good:∀ p∈ps,∀ s∈t.steps (eC p.1.1) (k:Nat),s.good/\s.b ∣ F:=λ p hp s hs=>⟨(c5 ok hk ((L.st ok Oj hp).2.2 hk) s hs).1,hF p hp s hs⟩;have row:∀ r∈dY t sc k,eC (fw r.st)=r.st/\∀ s∈t.steps r.st (k:Nat),s.good/\s.b ∣ F:=λ r hr=>by
  have o:=dw ok Oj r hr;have e:=lE o.st;refine⟨e,λ s hs=>?_⟩;have m:=(L.keys ok Oj r.key).mpr ⟨r,hr,rfl⟩;obtain⟨p,hp,ep⟩:=æ.mp m;have e1:p.1.1=fw r.st:=ą Prod.fst ep;refine good p hp s ?_;rw [e1,e];exact hs
 have b1:∀{s:Ŝ},s.good->1<=s.b:=λ g=>Í g.t1 g.tb;refine⟨ŋ L.D0 F1,jC ps (by simp),λ r hr=>?_,λ g=>?_,lu ps (λ p hp=>⟨L.pos p hp,λ s hs=>?_⟩) (by simp),?_,?_,Nat.mul_dvd_mul L.dd Fd⟩
 ·unfold dY at hr;obtain⟨q,hq,hr⟩:=ż.mp hr;obtain⟨s,hs,rfl⟩:=æ.mp hr;exact Nat.mul_dvd_mul (L.dv q hq) ((row q hq).2 s hs).2
 ·show tS g (fP t k (sc.getD k 0) F ps [])=_;rw [mf,L.g];show _=(((dY t sc k).flatMap λ r=>(t.steps r.st (k:Nat)).map λ s=>r.more k (sc.getD k 0) s).map λ r=>r.part (D*F)*g r.key).sum;have all:∀(l:List Bg),(∀ r∈l,r∈dY t sc k)->tS g []+(l.map λ r=>r.part D*((t.steps (eC r.key.1) (k:Nat)).map λ s=>s.part F*g (fw s.next,r.key.2+s.hand*sc.getD k 0)).sum).sum=((l.flatMap λ r=>(t.steps r.st (k:Nat)).map λ s=>r.more k (sc.getD k 0) s).map λ r=>r.part (D*F)*g r.key).sum:=λ l=>by
   induction l with
   | nil=>intro _;rfl
   | cons r l ih =>
    intro h;have WK:=ih λ q hq=>h q (Ï _ hq);have hr:=h r (Ö ..);obtain⟨e,gd⟩:=row r hr;have o:=dw ok Oj r hr;rw [List.flatMap_cons,Ð,į,<- WK,Ú,š];have inner:∀ ss:List Ŝ,(∀ s∈ss,s∈t.steps r.st (k:Nat))->r.part D*(ss.map λ s=>s.part F*g (fw s.next,r.s+s.hand*sc.getD k 0)).sum=((ss.map λ s=>r.more k (sc.getD k 0) s).map λ r=>r.part (D*F)*g r.key).sum:=λ ss=>by
     induction ss with
     | nil=>intro _;simp
     | cons s ss ih =>
      intro hs;obtain⟨gs,sb⟩:=gd s (hs s (Ö ..));have es:(r.more k (sc.getD k 0) s).part (D*F)=r.part D*s.part F:=by
       show r.t*s.t*(D*F/(r.b*s.b))=r.t*(D/r.b)*(s.t*(F/s.b));rw [vZ (L.dv r hr) sb o.b1 (b1 gs)]
       ac_rfl
      simp only [List.map_cons,List.sum_cons,Nat.mul_add];rw [ih λ q hq=>hs q (Ï _ hq),es];show r.part D*(s.part F*g (fw s.next,r.s+s.hand*sc.getD k 0))+_=r.part D*s.part F*g (fw s.next,r.s+s.hand*sc.getD k 0)+_;rw [Nat.mul_assoc]
    have i2:=inner (t.steps r.st (k:Nat)) λ _ h=>h;show tS g []+(r.part D*((t.steps (eC (fw r.st)) (k:Nat)).map λ s=>s.part F*g (fw s.next,r.s+s.hand*sc.getD k 0)).sum+_)=_;rw [e,i2];omega
  exact all _ λ _ h=>h
 ·obtain⟨g,sb⟩:=good p hp s hs;exact ŋ g.t1 (Nat.div_pos (Ĉ F1 sb) (b1 g))
 ·show tS (λ _=>1) (fP t k (sc.getD k 0) F ps [])=_;rw [mf];have all:∀ l:Tw,(∀ p∈l,p∈ps)->tS (λ _=>1) []+tS (λ q=>((t.steps (eC q.1) (k:Nat)).map λ s=>s.part F*1).sum) l=tS (λ _=>1) l*F:=λ l=>by
   induction l with
   | nil=>intro _;simp [tS]
   | cons p l ih =>
    intro h;have WK:=ih λ q hq=>h q (Ï _ hq);have hp:=h p (Ö ..);have v:=(L.st ok Oj hp).2.2 hk;obtain⟨d1,d2,d3,d4⟩:=Rl.MK ok (x:=(k:Nat)) af hk v;have e:=xE (λ s hs=>b1 (good p hp s hs).1) d3 (λ s hs=>(good p hp s hs).2) d1 d4;have e':((t.steps (eC p.1.1) (k:Nat)).map λ s=>s.part F*1).sum=F:=by simpa using e
    simp only [tS,List.map_cons,List.sum_cons,List.map_nil,List.sum_nil,Nat.mul_one,Nat.add_mul] at WK e' ⊢;rw [e'];omega
  rw [all ps λ _ h=>h,L.one]
 ·have h:=iV (t:=t) (k:=k) (c:=sc.getD k 0) (F:=F) ps [];have:=L.len;have e:2^(k+1)=2^k*2:=Ψ ..;show(fP t k (sc.getD k 0) F ps []).length<=_;simp only [List.length_nil] at h;omega
def SS (t:Rl)(sc:List Int)(k:Nat)(q:TK):Nat:=((dY t sc k).map λ r=>r.part (DD t k)*wm q r.key).sum
theorem Lay.share (L:Lay t sc k D ps)(ok:t.ok)(hk:(k:Int)<=t.Û)(hp:p∈ps):bo p.2 D=bo (SS t sc k p.1) (DD t k)/\aE p.2 D=aE (SS t sc k p.1) (DD t k):=by
 have d1:=(iu ok sc hk).1;refine lh L.D0 d1 ?_;have e:p.2=((dY t sc k).map λ r=>r.part D*wm p.1 r.key).sum:=by rw [<- L.at_,q8 L.nd hp]
 rw [e];have all:∀ l:List Bg,(∀ r∈l,r∈dY t sc k)->(l.map λ r=>r.part D*wm p.1 r.key).sum*DD t k=(l.map λ r=>r.part (DD t k)*wm p.1 r.key).sum*D:=λ l=>by
  induction l with
  | nil=>intro _;simp
  | cons r l ih =>
   intro h;have hr:=h r (Ö ..);have o:=dw ok hk r hr;have one:r.part D*DD t k=r.part (DD t k)*D:=by
    unfold Bg.part;obtain⟨m,hm⟩:=L.dv r hr;obtain⟨n,hn⟩:=o.dv;rw [hn,hm,č _ o.b1,č _ o.b1]
    ac_rfl
   simp only [List.map_cons,List.sum_cons,Nat.add_mul];rw [ih λ q hq=>h q (Ï _ hq),Nat.mul_right_comm,one,Nat.mul_right_comm]
 exact all _ λ _ h=>h
end
section
variable {prog:Program}{w:World}{A:Around}{E:eE}{s:Shared}{it d:Addr}{i ep:Nat}{es:Array DictEntry}{od:Obj}{ok ov:Value}{e:DictEntry}
theorem gD (d:Addr):¬ ((Value.ref d==Value.none)=true):=Ø
theorem pC:Builtin.Dict_items.ownsTuple "dict_itemiterator" = true:=ax
theorem pQ:Builtin.Dict_items.ownsTuple "dict_valueiterator" = false:=ax
theorem uc (hi:IsItemIter s.heap it d i es.size ep ok ov)(ho:s.heap.get? d=some od)(J':od.data=.dict es ep)(he:es[i]?=some e)
  (k:∀ h',IsItemIterOut h' it d (i+1) es.size ep e.key e.val s.heap.objs.size->h'.get? s.heap.objs.size=some { cls:=.type "tuple",data:=.seq #[e.key,e.val] }->(∀ b o,b≠it->s.heap.get? b=some o->h'.get? b=some o)->Q (some (.ref s.heap.objs.size)) { s with heap:=h' }):wpAny (model prog w) A (pyNext (.ref it)) Q E s:=by
 obtain⟨hp,gn,dr,tk,os⟩:=s;have T0:Shared.TypeIs ⟨hp,gn,dr,tk,os⟩ (.ref it) "dict_itemiterator" :=⟨_,hi,rfl⟩;have lt:i<es.size:=(û.mp he).1;have ltI:it<hp.objs.size:=Ñ hi;unfold pyNext;refine À (ļ (ð (name:=Str.ofString "__next__") T0 Ě (î Ě T0 M_ (À (Á (À (À (À (Ŏ T0 (Á (À (Α hi rfl ?_)))))))))  (MY _))));simp only [pC,if_true];show wpAny _ _ (if(Value.ref d==Value.none)=true then _ else _) _ _ _
 rw [Ë (gD d)];refine À (Á (À (ď ho J' ?_)));rw [Ë (by simp)]
 refine À (Á (À (Ĳ ho J' ?_)));rw [Ë (by simp)]
 refine Á ?_;simp only [show ¬ ((i:Int)<0) from by omega,if_false,Int.toNat_natCast,he]
 refine À (À (Ŏ T0 (Á (À (M7 T0 ?_)))));show wpAny _ _ (setField (.ref it) 3 (rawInt ((i:Int)+1))>>=_) _ _ ⟨hp,gn,dr,tk,os⟩;refine À (ē hi (by simp) λ h1 e1 R'=>?_)
 replace R':Heap.SameBut it hp h1:=R';replace e1:IsItemIter h1 it d (i+1) es.size ep ok ov:=by
  have q:((i+1:Nat):Int)=(i:Int)+1:=af;unfold IsItemIter;rw [q];simpa [rawInt] using e1
 have T1:Shared.TypeIs ⟨h1,gn,dr,tk,os⟩ (.ref it) "dict_itemiterator" :=⟨_,e1,rfl⟩;refine À (ĕ (À (M7 T1 (À (M7 T1 ?_)))));refine À (wpAny_newTuple ?_);have z1:=R'.1;have e2:IsItemIter (h1.push { cls:=.type "tuple",data:=.seq #[e.key,e.val] }) it d (i+1) es.size ep ok ov:=Â _ e1;have t2:(h1.push { cls:=.type "tuple",data:=.seq #[e.key,e.val] }).get? hp.objs.size=some { cls:=.type "tuple",data:=.seq #[e.key,e.val] }:=by rw [<- z1];exact Î _ rfl
 have k2:∀ b o,b≠it->hp.get? b=some o->(h1.push { cls:=.type "tuple",data:=.seq #[e.key,e.val] }).get? b=some o:=λ b o hb q=>Â _ (R'.extBut b o hb q);rw [z1];generalize h1.push { cls:=.type "tuple",data:=.seq #[e.key,e.val] }=h2 at e2 t2 k2 ⊢;refine À (À (ú e2 rfl rfl (Á ?_)));simp only [if_true];refine À (ú e2 rfl rfl (À (ú e2 rfl rfl (À (ē e2 (by simp) λ h3 e3 s3=>?_)))))
 replace s3:Heap.SameBut it h2 h3:=s3;replace e3:IsItemIter h3 it d (i+1) es.size ep e.key ov:=e3;refine À (ē e3 (by simp) λ h4 e4 s4=>?_)
 replace s4:Heap.SameBut it h3 h4:=s4;replace e4:IsItemIter h4 it d (i+1) es.size ep e.key e.val:=e4;refine À (ē e4 (by simp) λ h5 e5 s5=>?_)
 replace s5:Heap.SameBut it h4 h5:=s5;replace e5:IsItemIterOut h5 it d (i+1) es.size ep e.key e.val hp.objs.size:=e5;refine À (ē e5 (by simp) λ h6 e6 s6=>?_)
 replace s6:Heap.SameBut it h5 h6:=s6;replace e6:IsItemIterOut h6 it d (i+1) es.size ep e.key e.val hp.objs.size:=e6;have up:=λ b o hb q=>s6.extBut b o hb (s5.extBut b o hb (s4.extBut b o hb (s3.extBut b o hb q)));exact À (E_ (Á (Á ⟨_,rfl,Á (k h6 e6 (up _ _ (Ω ltI) t2) λ b o hb q=>up b o hb (k2 b o hb q))⟩)))
theorem yk (hh:A.handled=none)(hi:IsItemIter s.heap it d i es.size ep ok ov)(ho:s.heap.get? d=some od)(J':od.data=.dict es ep)(he:es.size<=i)
  (k:∀ h',Heap.ExtBut it s.heap h'->Q none { s with heap:=h' }):wpAny (model prog w) A (pyNext (.ref it)) Q E s:=by
 have T0:s.TypeIs (.ref it) "dict_itemiterator" :=⟨_,hi,rfl⟩;refine À (ļ (ð T0 Ě (î Ě T0 M_ (À (Á (À (À (À (Ŏ T0 (Á (À (Α hi rfl ?_)))))))))  (MY _))));simp only [pC,if_true];show wpAny _ _ (if(Value.ref d==Value.none)=true then _ else _) _ _ _
 rw [Ë (gD d)];refine À (Á (À (ď ho J' ?_)));rw [Ë (by simp)]
 refine À (Á (À (Ĳ ho J' ?_)));rw [Ë (by simp)]
 refine Á ?_;simp only [show ¬ ((i:Int)<0) from by omega,if_false,Int.toNat_natCast,Array.getElem?_eq_none he]
 refine À (À (Ŏ T0 (Á ?_)));show wpAny _ _ (setField (.ref it) 2 .none>>=_) _ _ s;refine À (Ł hi rfl (by simp) (wpAny_bind ?_))
 simp only [newExc,newTuple];refine À (ã (À (Q3 (by first | rfl | (simp only [firstArgMember];rfl)) (ã ?_ (by size_fits)))) (by size_fits))
 simp only [raiseNew];refine À (OK ?_);rw [show A.in1.handled=none from hh];refine À (Á (Q2 (À ?_)));exact ŧ ⟨_,Î _ rfl,rfl⟩ N1 (Á (k _ (((ķ ..).extBut.push _).push _)))
theorem vw (hi:s.heap.IsValIter it d i es.size ep)(ho:s.heap.get? d=some od)(J':od.data=.dict es ep)(he:es[i]?=some e)
  (k:∀ h',h'.IsValIter it d (i+1) es.size ep->Heap.SameBut it s.heap h'->Q (some e.val) { s with heap:=h' }):wpAny (model prog w) A (pyNext (.ref it)) Q E s:=by
 obtain⟨oi,Nz,SD,NR⟩:=id hi;have T0:=hi.typeIs;refine À (ļ (ð T0 ė (î ė T0 MX (À (Á (À (À (À (Œ T0 (Á (À (Α Nz NR ?_)))))))))  (ME _))));simp only [pQ,Bool.false_eq_true,if_false];show wpAny _ _ (if(Value.ref d==Value.none)=true then _ else _) _ _ _
 rw [Ë (gD d)];refine À (Á (À (ď ho J' ?_)));rw [Ë (by simp)]
 refine À (Á (À (Ĳ ho J' ?_)));rw [Ë (by simp)]
 refine Á ?_;simp only [show ¬ ((i:Int)<0) from by omega,if_false,Int.toNat_natCast,he]
 refine À (À (Œ T0 (Á (À (wpAny_isOneOf_valiter T0 ?_)))));show wpAny _ _ (setField (.ref it) 1 (rawInt ((i:Int)+1))>>=_) _ _ s;have UQ:(s.heap.update it (Obj.mapFields (·.setIfInBounds 1 (rawInt ((i:Int)+1))))).IsValIter it d (i+1) es.size ep :=
  ⟨_,ù _ Nz (Obj.isFreed_of_fields (ń NR _)),(Obj.cls_mapFields ..).trans SD,by rw [ń NR];simp [rawInt]⟩
 have T1:Shared.TypeIs { s with heap:=s.heap.update it (Obj.mapFields (·.setIfInBounds 1 (rawInt ((i:Int)+1)))) } (.ref it) "dict_valueiterator" := Heap.IsValIter.typeIs UQ
 refine À (Ł Nz NR (by simp) (wpAny_bind (wpAny_holding (wpAny_bind (wpAny_isOneOf_valiter T1 (wpAny_bind (wpAny_isOneOf_valiter T1 ?_)))))))
 exact Á (Á ⟨_,rfl,Á (k _ UQ (ķ ..))⟩)
theorem yu (hh:A.handled=none)(hi:s.heap.IsValIter it d i es.size ep)(ho:s.heap.get? d=some od)(J':od.data=.dict es ep)(he:es.size<=i)
  (k:∀ h',Heap.ExtBut it s.heap h'->Q none { s with heap:=h' }):wpAny (model prog w) A (pyNext (.ref it)) Q E s:=by
 obtain⟨oi,Nz,SD,NR⟩:=id hi;have T0:=hi.typeIs;refine À (ļ (ð T0 ė (î ė T0 MX (À (Á (À (À (À (Œ T0 (Á (À (Α Nz NR ?_)))))))))  (ME _))));simp only [pQ,Bool.false_eq_true,if_false];show wpAny _ _ (if(Value.ref d==Value.none)=true then _ else _) _ _ _
 rw [Ë (gD d)];refine À (Á (À (ď ho J' ?_)));rw [Ë (by simp)]
 refine À (Á (À (Ĳ ho J' ?_)));rw [Ë (by simp)]
 refine Á ?_;simp only [show ¬ ((i:Int)<0) from by omega,if_false,Int.toNat_natCast,Array.getElem?_eq_none he]
 refine À (À (Œ T0 (Á ?_)));show wpAny _ _ (setField (.ref it) 0 .none>>=_) _ _ s;refine À (Ł Nz NR (by simp) (wpAny_bind ?_))
 simp only [newExc,newTuple];refine À (ã (À (Q3 (by first | rfl | (simp only [firstArgMember];rfl)) (ã ?_ (by size_fits)))) (by size_fits))
 simp only [raiseNew];refine À (OK ?_);rw [show A.in1.handled=none from hh];refine À (Á (Q2 (À ?_)));exact ŧ ⟨_,Î _ rfl,rfl⟩ N1 (Á (k _ (((ķ ..).extBut.push _).push _)))
theorem vj (hT:s.TypeIs (.ref d) "dict") (hd:(d==sysModules)=false) (k:Q (.ref s.heap.objs.size) { s with heap:=s.heap.push { cls:=.type "dict_items",data:=.fields #[.ref d] } }):wpAny (model prog w) A (call (.builtin "dict.items") [.ref d]) Q E s:=by
 have m:MeetsIn prog w (Builtin.«dict.items» ⟨[.ref d],[]⟩) (λ _ R s=>s.TypeIs (.ref d) "dict" /\ R (.ok (.ret (.ref s.heap.objs.size))) { s with heap:=s.heap.push { cls:=.type "dict_items",data:=.fields #[.ref d] } }):=.of_wp λ A R s ⟨hT,h⟩=>by
  unfold Builtin.«dict.items» Builtin.Dict.noArgs Builtin.Dict.showsAll;refine À (À (Υ hT (Á ?_)));rw [Ë (by rw [hd];exact Ø)]
  exact À (Á (À (ã (Á ⟨_,rfl,h⟩))))
 exact i_ Q4 hT PySem.F.entry_dict_items (PySem.F.args_dict_items_1 _) m ⟨hT,k⟩
theorem wJ (hT:s.TypeIs (.ref d) "dict") (hd:(d==sysModules)=false) (k:Q (.ref s.heap.objs.size) { s with heap:=s.heap.push { cls:=.type "dict_values",data:=.fields #[.ref d] } }):wpAny (model prog w) A (call (.builtin "dict.values") [.ref d]) Q E s:=by
 have m:MeetsIn prog w (Builtin.«dict.values» ⟨[.ref d],[]⟩) (λ _ R s=>s.TypeIs (.ref d) "dict" /\ R (.ok (.ret (.ref s.heap.objs.size))) { s with heap:=s.heap.push { cls:=.type "dict_values",data:=.fields #[.ref d] } }):=.of_wp λ A R s ⟨hT,h⟩=>by
  refine À ?_;refine À (Υ hT (Á ?_));unfold Builtin.Dict.showsAll;rw [Ë (by rw [hd];exact Ø)]
  exact À (Á (À (ã (Á ⟨_,rfl,h⟩))))
 exact i_ QA hT PySem.F.entry_dict_values (PySem.F.args_dict_values_1 _) m ⟨hT,k⟩
theorem uR (hv:s.heap.IsItemsView v d)(ho:s.heap.get? d=some od)(J':od.data=.dict es ep)
  (k:Q (.ref s.heap.objs.size) { s with heap:=s.heap.push { cls:=.type "dict_itemiterator",data:=.fields #[.none,.bool false,.ref d,.int 0 0,.int es.size 0,.int ep 0,.none,.none] } }):wpAny (model prog w) A (pyIter (.ref v)) Q E s:=by
 obtain⟨oi,Nz,SD,NR⟩:=id hv;refine C_ hv.typeIs O7 (î O7 hv.typeIs PySem.F.entry_dict_items_iter ?_ (PySem.F.args_dict_items_iter_1 _));refine À (Á (À (À (ú Nz NR rfl (Á (À (À (ď ho J' (À (Ĳ ho J' ?_))))))))));simp only [pC,if_true];refine ã (Á ⟨_,rfl,"dict_itemiterator",_,⟨_,Î _ rfl,rfl⟩,Ě.lookup,?_⟩) (by simp only [sizeOk,Builtin.Dict_items.ownedTupleFields,List.size_toArray,List.length_append,List.length_cons,List.length_nil,sizeLine_eq];omega)
 simpa [rawInt,Builtin.Dict_items.ownedTupleFields] using k
theorem uD (hv:s.heap.IsValuesView v d)(ho:s.heap.get? d=some od)(J':od.data=.dict es ep)
  (k:Q (.ref s.heap.objs.size) { s with heap:=s.heap.push { cls:=.type "dict_valueiterator",data:=.fields #[.ref d,.int 0 0,.int es.size 0,.int ep 0] } }):wpAny (model prog w) A (pyIter (.ref v)) Q E s:=by
 obtain⟨oi,Nz,SD,NR⟩:=id hv;refine C_ hv.typeIs OL (î OL hv.typeIs PySem.F.entry_dict_values_iter ?_ (PySem.F.args_dict_values_iter_1 _));refine À (Á (À (À (ú Nz NR rfl (Á (À (À (ď ho J' (À (Ĳ ho J' ?_))))))))));simp only [pQ,Bool.false_eq_true,if_false];refine ã (Á ⟨_,rfl,"dict_valueiterator",_,⟨_,Î _ rfl,rfl⟩,ė.lookup,?_⟩)
 simpa [rawInt] using k
end
def kA:HO->Prop
 | .dK _=>True
 | .dT _=>True
 | _=>False
def cL:HO->Nat
 | .dK ï=>ï.length
 | .dT ï=>ï.length
 | _=>0
def j7 (H:Hp)(u:HO)(i:Nat)(kx v:V):Prop :=
 (∃ ï k,u=.dK ï/\ï[i]?=some (k,v)/\kx=kV k)\/∃ ï k b,u=.dT ï/\ï[i]?=some (k,v)/\kx=.ref b/\OG H k b
theorem Bo (h:(bn P w).is k u=true):RelV (kV k) u:=by
 rw [qd] at h;rcases aZ h with⟨i,t,rfl,rfl⟩ | ⟨x,t,rfl,rfl⟩ | ⟨rfl,rfl⟩
 ·exact⟨t,rfl⟩
 ·exact⟨t,rfl⟩
 ·rfl
theorem gT {α β:Type}{R:α->β->Prop}:∀{xs:List α}{ys:List β},Paired R xs ys->∀{i:Nat}{y:β},ys[i]?=some y->∃ x,xs[i]?=some x/\R x y
 | _,_,.nil,i,y,h=>by simp at h
 | _,_,.cons r _,0,y,h=>by cases h;exact⟨_,rfl,r⟩
 | _,_,.cons _ t,i+1,y,h=>gT t h
theorem gV (D:kA u)(o:ă P w H h d u):∃ ob es ep,h.get? d=some ob/\ob.ExactDict/\ob.data=.dict es ep/\(d==sysModules)=false/\es.size=cL u/\∀(i:Nat) e,es[i]?=some e->∃ kx v,j7 H u i kx v/\RelV kx e.key/\RelV v e.val:=by
 cases u with
 | dK ï =>
  obtain⟨z,hd,vs,rel,ob,es,ep,h1,h2,h3,h4,h5,h6⟩:=o;refine⟨ob,es,ep,h1,h2,h3,hd,?_,λ i e he=>?_⟩
  ·have l1:=h5.length;have l2:=Ś rel;show es.size = ï.length;rw [l2,<- l1];simp
  ·have l1:=h5.length;have lt:=(û.mp he).1;have lt':i<vs.length:=by rw [<- l1];simpa using lt
   have hv:=Å lt';obtain⟨a1,a2⟩:=h5.get? (by simpa using he) (show vs[i]?=some (vs[i].1,vs[i].2) from hv)
   obtain⟨p,hp,r1,r2⟩:=gT rel hv;refine⟨kV p.1,p.2,.inl ⟨ï,p.1,rfl,hp,rfl⟩,?_,?_⟩
   ·rw [r1];exact Bo a1
   ·rw [a2];exact r2
 | dT ï =>
  obtain⟨z,hd,xs,rel,ob,es,ep,h1,h2,h3,h4,h5⟩:=o;refine⟨ob,es,ep,h1,h2,h3,hd,?_,λ i e he=>?_⟩
  ·have l2:=Ś rel;show es.size = ï.length;rw [l2,<- Array.length_toList,h4,Ä]
  ·have Ph:es.toList[i]?=some e:=by simpa using he
   rw [h4,Ô] at Ph;obtain⟨x,hx,rfl⟩:=å.mp Ph;obtain⟨p,hp,r1,r2,r3⟩:=gT rel hx;exact⟨.ref x.2.1,p.2,.inr ⟨ï,p.1,x.2.1,rfl,hp,rfl,r2⟩,rfl,r3⟩
 | _=>exact D.elim
def Fz (H:Hp)(d:Addr)(o:Obj)(u:HO)(H':Hp):Prop:=H' d=some (.Ŭ o u)/\∀ b,b≠d->H' b=H b
theorem qo (I:Inv X Ã σ H s)(D:kA u)(e:Rd H d u):∃ o H',s.heap.get? d=some o/\Fz H d o u H'/\Inv X Ã σ H' s:=by
 rcases e with e | ⟨o,e⟩
 ·have ok:=I.Č d u e;obtain⟨ob,es,ep,h1,_⟩:=gV D ok;refine⟨ob,aj H d (.Ŭ ob u),h1,⟨be,λ b hb=>ad hb⟩,?_⟩;have mu:Eo (H d):=by
   rw [e];cases u with
   | dK ï=>exact True.intro
   | dT ï=>exact True.intro
   | _=>exact D.elim
  have new:ă X.prog X.w (aj H d (.Ŭ ob u)) s.heap d (.Ŭ ob u):=by
   refine⟨h1,?_⟩;cases u with
   | dK ï=>exact ok
   | dT ï =>
    obtain⟨z,hd,xs,rel,r⟩:=ok;refine⟨z,hd,xs,KT.keeps rel λ c ys ec=>?_,r⟩;rw [ad (λ q=>by rw [q,e] at ec;cases ec)]
    exact ec
   | _=>exact D.elim
  exact gI I mu ⟨rfl,λ _ _=>rfl⟩ ⟨ob,h1⟩ new
 ·exact⟨o,H,(show ă X.prog X.w H s.heap d (.Ŭ o u) from I.Č d _ e).1,⟨e,λ _ _=>rfl⟩,I⟩
def Gb (d:Addr)(o:Obj)(u:HO):It :=
 ⟨λ i H=>H d=some (.Ŭ o u)/\i<cL u,λ i H x H'=>∃ p kx v,x=.ref p/\H p=none/\j7 H u i kx v/\H'=aj H p (.tup [kx,v]),λ i H=>H d=some (.Ŭ o u)/\cL u<=i⟩
def Lg (d:Addr)(o:Obj)(u:HO):It :=
 ⟨λ i H=>H d=some (.Ŭ o u)/\i<cL u,λ i H x H'=>H'=H/\∃ kx,j7 H u i kx x,λ i H=>H d=some (.Ŭ o u)/\cL u<=i⟩
theorem gH (D:kA u)(ok:η P w H h)(e:H d=some (.Ŭ o u))(hd:o.data=.dict es ep):h.get? d=some o/\es.size=cL u/\∀(i:Nat) e,es[i]?=some e->∃ kx v,j7 H u i kx v/\RelV kx e.key/\RelV v e.val:=by
 obtain⟨h0,h1⟩:=(show ă P w H h d (.Ŭ o u) from ok d _ e);obtain⟨ob,V0,V1,g1,g2,g3,g4,g5,g6⟩:=gV D h1;rw [h0] at g1;cases g1;rw [hd] at g3;cases g3;exact⟨h0,g5,g6⟩
theorem wg {x1}(D:kA u)(hd:o.data=.dict es ep):my P w K (.Tuple elts x1 pos) (Gb d o u) [it] it (λ i h=>∃ ok ov,IsItemIter h it d i es.size ep ok ov) where
 mem:=by simp
 obj:=λ i h st b hb=>by
  obtain⟨ok,ov,q⟩:=st;have e:b=it:=by simpa using hb
  subst e;exact⟨_,q,λ v z=>by cases z⟩
 keep:=λ i h h' st k=>let ⟨ok,ov,q⟩:=st;⟨ok,ov,k it (by simp) _ q⟩
 item:=by
  intro X hP hw hK hc i Ã s σ H E I hf st hg;subst hP hw hK;obtain⟨Qc,ř⟩:=hg;obtain⟨ok,ov,hi⟩:=st;obtain⟨ho,Rv,rel⟩:=gH D I.Č Qc hd;obtain⟨f0,f1,f2,f3,f4,f5⟩:=hf it (by simp)
  have he:=b_ (show i<es.size by omega)
  obtain⟨kx,v,pr,rk,rv⟩:=rel i _ he;generalize es[i]'af=e at he rk rv;refine uc hi ho hd he λ h1 QP ht1 kk=>⟨_,rfl,wpAny_letOwnedTupleGo_items QP λ h2 VM sb=>?_⟩;have Pa:=sb;have ltI:=Ñ hi;have ne2:=Ω ltI;have WT:=(Pa.2 _ ne2).trans ht1
  let hA:Heap:=s.heap.update it λ _=>{ cls:=.type "dict_itemiterator",dict:=none,data:=.fields #[.none,.bool false,.ref d,.int ((i+1:Nat):Int) 0,.int es.size 0,.int ep 0,e.key,e.val],slots:=#[] }
  have IA:Inv X Ã σ H { s with heap:=hA,toks:=s.toks }:=I.turned (λ b ob hb q=>by
   rw [è _ _ _ _ hb];exact q) f0 f1 f3 f4 f5
  have Wl:hA.objs.size=s.heap.objs.size:=MG _ _ _;refine⟨.ref s.heap.objs.size,aj H s.heap.objs.size (.tup [kx,v]),?_,rfl,⟨_,kx,v,rfl,I.Č.fresh (Æ _),pr,rfl⟩,⟨_,_,VM⟩,λ b hb=>?_⟩
  ·refine IA.laid (λ b ob q=>?_) (γ Wl) ⟨cK,[e.key,e.val],.cons rk (.cons rv .nil),⟨_,WT,rfl,_,rfl⟩⟩;have q':=q;by_cases z1:b=it
   ·subst z1;rw [ù _ hi rfl] at q';cases q';exact VM
   ·rw [è _ _ _ _ z1] at q';exact(Pa.2 b z1).trans (kk b ob z1 q')
  ·have e':b=it:=by simpa using hb
   subst e';rw [ad (Ne.symm ne2)];exact f0
 done:=by
  intro X hP hw hK hc i Ã s σ H E I hf st hg;subst hP hw hK;obtain⟨Qc,ř⟩:=hg;obtain⟨ok,ov,hi⟩:=st;obtain⟨ho,Rv,rel⟩:=gH D I.Č Qc hd;obtain⟨f0,f1,f2,f3,f4,f5⟩:=hf it (by simp)
  exact yk (I.ok.hd hc) hi ho hd af λ h' eb=>⟨rfl,I.turned (λ b ob hb q=>eb b ob hb q) f0 f1 f3 f4 f5⟩
 self:=λ A i s Q E st k=>by
  obtain⟨ok,ov,hi⟩:=st;exact kcp_self hi k
theorem u9 (D:kA u)(hd:o.data=.dict es ep):my P w K tg (Lg d o u) [it] it (λ i h=>h.IsValIter it d i es.size ep) where
 mem:=by simp
 obj:=λ i h st b hb=>by
  obtain⟨oi,q,c,dd⟩:=st;have e:b=it:=by simpa using hb
  subst e;exact⟨oi,q,λ v z=>by rw [dd] at z;cases z⟩
 keep:=λ i h h' st k=>by
  obtain⟨oi,q,c,dd⟩:=st;exact⟨oi,k it (by simp) _ q,c,dd⟩
 item:=by
  intro X hP hw hK hc i Ã s σ H E I hf st hg;subst hP hw hK;obtain⟨Qc,ř⟩:=hg;obtain⟨ho,Rv,rel⟩:=gH D I.Č Qc hd;obtain⟨f0,f1,f2,f3,f4,f5⟩:=hf it (by simp)
  have he:=b_ (show i<es.size by omega)
  obtain⟨kx,v,pr,rk,rv⟩:=rel i _ he;refine vw st ho hd he λ h1 QP sb=>?_;have I1:Inv X Ã σ H { s with heap:=h1 }:=I.turned (λ b ob hb q=>(sb.2 b hb).trans q) f0 f1 f3 f4 f5
  obtain⟨oi,q,c,dd⟩:=id QP;exact⟨_,rfl,nM q c dd ax ⟨v,H,I1,rv,⟨rfl,kx,pr⟩,QP,λ b hb=>(hf b hb).1⟩⟩
 done:=by
  intro X hP hw hK hc i Ã s σ H E I hf st hg;subst hP hw hK;obtain⟨Qc,ř⟩:=hg;obtain⟨ho,Rv,rel⟩:=gH D I.Č Qc hd;obtain⟨f0,f1,f2,f3,f4,f5⟩:=hf it (by simp)
  exact yu (I.ok.hd hc) st ho hd af λ h' eb=>⟨rfl,I.turned (λ b ob hb q=>eb b ob hb q) f0 f1 f3 f4 f5⟩
 self:=λ _ _ _ _ _ st k=>wpAny_pyIter_valiter st k
section
variable {X:Cx}{o:Expr}{ő ş:Pos}{tl:TE}
def xB (tl:TE):TI:=λ σ H R=>tl σ H λ x H1=>∃ d u,x=.ref d/\kA u/\Rd H1 d u/\∀ ob H2,Fz H1 d ob u H2->R (Gb d ob u) H2
def Hd (tl:TE):TI:=λ σ H R=>tl σ H λ x H1=>∃ d u,x=.ref d/\kA u/\Rd H1 d u/\∀ ob H2,Fz H1 d ob u H2->R (Lg d ob u) H2
theorem mH (D:kA u)(ok:η P w H h)(e:Rd H d u):ă P w H h d u:=by
 rcases e with e | ⟨o,e⟩
 ·exact ok d u e
 ·exact(show ă P w H h d (.Ŭ o u) from ok d _ e).2
theorem jq {x1}(ho:PE X o tl)(MT:attributeBase o "items" X.env (eval o X.env)=eval o X.env:=by rfl) (MR:(ő.endLine == ş.line)=true:=by rfl):PI X (.Tuple elts x1 pt) (.Call (.Attribute o "items" ő) [] [] ş) (xB tl):=by
 intro Ã s σ H R I h;refine MD MT MR (bt (ho Ã s σ H _ I h) λ v s1 ⟨x,H1,I1,r1,q1⟩=>?_);obtain⟨d,u,rfl,D,rd,q⟩:=q1;cases (show v=Value.ref d from r1);obtain⟨ob,es,ep,g1,g2,g3,g4,g5,g6⟩:=gV D (mH D I1.Č rd);have hT:s1.TypeIs (.ref d) "dict" :=⟨ob,g1,g2.1⟩;refine⟨"dict","dict.items",ũ,Q4,PySem.F.type_dict_items,hT,λ b hb=>by cases hb;exact⟨ob,g1,g2.2.1⟩,ŕ rfl (M9 (vj hT g4 ?_))⟩
 obtain⟨Ua,H2,f1,f2,I2⟩:=qo I1 D rd;have eo:Ua=ob:=by rw [g1] at f1;exact(â f1).symm
 subst eo;refine uR ⟨_,Î _ rfl,rfl,rfl⟩ (Â _ g1) g3 ?_;have I3:Inv X Ã σ H2 { s1 with heap:=(s1.heap.push { cls:=.type "dict_items",data:=.fields #[.ref d] }),toks:=s1.toks }:=I2.kept λ b ob e=>Â _ e
 generalize hh:s1.heap.push { cls:=.type "dict_items",data:=.fields #[.ref d] }=hB at I3 ⊢;refine⟨hB.objs.size,[hB.objs.size],_,_,H2,rfl,I3.kept λ b ob e=>Â _ e,wg D g3,⟨.none,.none,?_⟩,λ b hb=>?_,q _ _ f2⟩
 ·exact Î _ rfl
 ·have e:b=hB.objs.size:=by simpa using hb
  subst e;exact I3.Om (Æ _) (I3.Č.fresh (Æ _))
theorem tF (ho:PE X o tl)(MT:attributeBase o "values" X.env (eval o X.env)=eval o X.env:=by rfl) (MR:(ő.endLine == ş.line)=true:=by rfl):PI X tg (.Call (.Attribute o "values" ő) [] [] ş) (Hd tl):=by
 intro Ã s σ H R I h;refine MD MT MR (bt (ho Ã s σ H _ I h) λ v s1 ⟨x,H1,I1,r1,q1⟩=>?_);obtain⟨d,u,rfl,D,rd,q⟩:=q1;cases (show v=.ref d from r1);obtain⟨ob,es,ep,g1,g2,g3,g4,g5,g6⟩:=gV D (mH D I1.Č rd);have hT:s1.TypeIs (.ref d) "dict" :=⟨ob,g1,g2.1⟩;refine⟨"dict","dict.values",ũ,QA,PySem.F.type_dict_values,hT,λ b hb=>by cases hb;exact⟨ob,g1,g2.2.1⟩,ŕ rfl (M9 (wJ hT g4 ?_))⟩
 obtain⟨Ua,H2,f1,f2,I2⟩:=qo I1 D rd;have eo:Ua=ob:=by rw [g1] at f1;exact(â f1).symm
 subst eo;refine uD ⟨_,Î _ rfl,rfl,rfl⟩ (Â _ g1) g3 ?_;have I3:Inv X Ã σ H2 { s1 with heap:=(s1.heap.push { cls:=.type "dict_values",data:=.fields #[.ref d] }),toks:=s1.toks }:=I2.kept λ b ob e=>Â _ e
 generalize hh:s1.heap.push { cls:=.type "dict_values",data:=.fields #[.ref d] }=hB at I3 ⊢;refine⟨hB.objs.size,[hB.objs.size],_,_,H2,rfl,I3.kept λ b ob e=>Â _ e,u9 D g3,⟨_,Î _ rfl,rfl,rfl⟩,λ b hb=>?_,q _ _ f2⟩;have e:b=hB.objs.size:=by simpa using hb
 subst e;exact I3.Om (Æ _) (I3.Č.fresh (Æ _))
end
theorem rF {g:TG}{tb:TS}{D:dq}(Pv:Nat->St->Hp->Prop)(h0:Pv 0 σ H)(hf:∀ i σ H,Pv i σ H->H d=some (.Ŭ ob u))
  (hs:∀ i σ H p kx v,i<cL u->Pv i σ H->H p=none->j7 H u i kx v->g (.ref p) σ (aj H p (.tup [kx,v])) λ Ĩ H2=>tb { D with nx:=Pv (i+1),ct:=Pv (i+1),bk:=D.nx } Ĩ H2) (hd:∀ σ H,Pv (cL u) σ H->D.nx σ H) :
  ∃ W:Nat->Nat->St->Hp->Prop,(∃ m,W 0 m σ H)/\∀ i m σ H,W i m σ H ->
   ((Gb d ob u).stop i H/\D.nx σ H)\/((Gb d ob u).go i H/\∃ N:St->Hp->Prop,(∀ ĸ H',N ĸ H'->∃ m',m'<m/\W (i+1) m' ĸ H')/\∀ x H',(Gb d ob u).ο i H x H'->g x σ H' λ Ĩ H2=>tb { D with nx:=N,ct:=N,bk:=D.nx } Ĩ H2):=by
 refine⟨λ i m σ H=>m=cL u-i/\i<=cL u/\Pv i σ H,⟨cL u,by simp,Nat.zero_le _,h0⟩,?_⟩
 rintro i m σ H ⟨rfl,hi,p⟩;have q:=hf i σ H p;by_cases ř:i<cL u
 ·refine .inr ⟨⟨q,ř⟩,Pv (i+1),λ ĸ H' n=>⟨cL u-(i+1),af,rfl,ř,n⟩,?_⟩;rintro x H' ⟨p',kx,v,rfl,hp,pr,rfl⟩;exact hs i σ H p' kx v ř p hp pr
 ·have e:i=cL u:=af;subst e;exact .inl ⟨⟨q,Æ _⟩,hd σ H p⟩
section
variable {X:Cx}
theorem uK (D:kA u)(o:ă P w H h d u):cL u<=sizeLine:=by
 cases u with
 | dK ï=>exact o.1
 | dT ï=>exact o.1
 | _=>exact D.elim
def uM:List V->Hp->VK->Prop:=λ xs H Q=>∃ a u,xs=[V.ref a]/\kA u/\Rd H a u/\Q (.int (cL u:Nat)) H
theorem iR:cU X (.builtin "len") uM:=by
 intro Ã s σ H xs us Q I r h;obtain⟨a,u,rfl,D,ha,q⟩:=h;obtain⟨v,rfl,ru⟩:=fL r;cases ru;have ok:=mH D I.Č ha;obtain⟨ob,es,ep,g1,g2,g3,g4,g5,g6⟩:=gV D ok;have sz:=uK D ok;have hT:s.TypeIs (.ref a) "dict" :=⟨ob,g1,g2.1⟩;refine Calls.call_function_entry kind_len plain_len entry_len (args_len1 _) ?_;unfold Builtin.«len»;refine À (m:=oneArg "len" _) (Á ?_);have m:MeetsIn X.prog X.w (Builtin.«dict.__len__» ⟨[.ref a],[]⟩) (λ _ R s'=>s'.heap=s.heap/\R (.ok (.ret (.int (cL u:Nat) s'.toks))) { s' with toks:=s'.toks+1 }):=.of_wp λ A R s' ⟨e,h⟩=>by
  show wpAny _ _ (dictSize a>>=_) _ _ s';refine À (À (ď (by rw [e];exact g1) g3 (Á ?_)))
  refine À (wpAny_pendingCount_other g4 (RH ?_));rw [Nat.add_zero,g5];exact h
 refine À (ð hT PySem.F.slot_dict_len
  (i_ PySem.F.slot_dict_len hT PySem.F.entry_dict_len (PySem.F.args_dict_len_1 _) m ⟨rfl,?_⟩))
 refine À (ĕ (Á (À (E_ ?_))));rw [Ë af];rw [Ë (by rw [Ü] at sz;omega)]
 exact À (wpAny_mkInt (Á ⟨_,rfl,⟨.int (cL u:Nat),H,I.tok _,⟨_,rfl⟩,q⟩⟩))
end
theorem jt {α β:Type}{R:α->β->Prop}:∀{xs:List α}{ys:List β},Paired R xs ys->∀{i:Nat}{x:α},xs[i]?=some x->∃ y,ys[i]?=some y/\R x y
 | _,_,.nil,i,y,h=>by simp at h
 | _,_,.cons r _,0,y,h=>by cases h;exact⟨_,rfl,r⟩
 | _,_,.cons _ t,i+1,y,h=>jt t h
section
variable {P:Program}{w:World}{K:Frag}{mg:cr}{base:Heap}{f a1 a2:Addr}{fd d1 d2:FuncData}
abbrev Jv:Stmt:=cP 13
abbrev RF (K:Frag)(H:Hp):List V->List Nat->Prop:=Paired λ v b=>1<=b/\∃ t,RD K H v t b
def wQ (K:Frag):Sp:=λ vs H Q _=>∃(p:Addr)(xs:List V)(bs:List Nat)(M:Nat),vs=[.ref p]/\Ċ K H p xs/\RF K H xs bs/\(∀ b∈bs,b ∣ M)/\1<=M/\M<=100/\∀ F:Nat,1<=F->F ∣ M->(∀ b∈bs,b ∣ F)->Q (.int (F:Nat)) H
abbrev LM:List Str:=["several","bottom","share"]
theorem TZ:ai LM ["several"] (aa Jv):=bc
theorem Av {b c:Nat}:b/Nat.gcd b c*c=Nat.lcm b c:=Nat.div_mul_right_comm (Ĵ b c) c
theorem FV (F:ĵ K "common_bottom" "common_bottom" Jv f fd) (A1:Df P w K mg base aB 1 "greatest_common" ["one","other"] fe a1 d1):í P w K mg base aB 2 f fd ["several"] (wQ K):=by
 refine bX F TZ λ cdv A outer s H vs Q E hr h=>?_;obtain⟨p,xs,bs,M,rfl,hp,ba,dv,M1,U9,q⟩:=h;have nd:=TZ.nd;refine⟨_,bb (dk (i:=1) nd rfl (Or.inl rfl) ay)
  (bb (cj Ā rfl (bJ (pv 0)) (cu (i:=2) nd rfl (Or.inl rfl))
   (aW (aJ (aq iG (ak dQ (pv 1) (bL cB (pv 2) ay)) ay (au _)) (aW (dk (i:=1) nd rfl (Or.inl rfl) (ak cR (ak cH (pv 1) (bZ A1 hr ag (ac (pv 1) (ac (bL cB (pv 2) ay) ar)))) (bL cB (pv 2) ay)))) cT)))
  (aW (cn (pv 1)))),?_⟩
 refine⟨_,rfl,p,rfl,⟨_,hp⟩,c7 (xs:=xs) (λ i σ H'=>H'=H/\∃(b:Nat)(o:Option V),σ=[some (.ref p),some (.int (b:Nat)),o]/\1<=b/\b ∣ M/\∀ c∈bs.take i,c ∣ b) ⟨rfl,1,none,rfl,Æ _,Γ _,λ c h=>by simp at h⟩ ?_ ?_ ?_⟩
 ·rintro i σ H' _ ⟨rfl,_⟩;exact hp
 ·rintro i x σ H' ex ⟨rfl,b,o,rfl,b1,bM,all⟩;obtain⟨c,ec,c1,t,z,rfl,hz⟩:=jt ba ex;have cM:=dv c (Ì ec);have XH:c<=100:=Í (Ĉ M1 cM) U9;have ű:b<=100:=Í (Ĉ M1 bM) U9;refine⟨_,rfl,_,rfl,z,_,_,_,rfl,rfl,hz,rfl,_,_,rfl,rfl,af,rfl,_,rfl,?_⟩;have tk:bs.take (i+1)=bs.take i ++ [c]:=aM ec;have em:((b:Int)%(c:Int))=((b%c:Nat):Int):=by simp
  refine fR (λ e=>?_) (λ e=>?_)
  rotate_left
  ·have e':b%c=0:=by
    by_cases z:b%c=0
    ·exact z
    ·refine absurd ?_ e;show(!decide (V.int ((b:Int)%(c:Int))=V.int 0))=true;rw [em,Ò (λ y=>by injection y with y;omega)]
     rfl
   refine⟨rfl,b,_,rfl,b1,bM,λ d hd=>?_⟩;rw [tk] at hd;rcases ß.mp hd with hd | hd
   ·exact all d hd
   ·rw [É.mp hd];exact Nat.dvd_of_mod_eq_zero e'
  ·have g0:0<Nat.gcd b c:=Ū c b1;have XC:Nat.gcd b c<=100:=Í (Ĉ b1 (Ĵ b c)) ű;have ed:((b:Int)/((Nat.gcd b c:Nat):Int))=((b/Nat.gcd b c:Nat):Int):=by simp
   refine⟨_,rfl,_,rfl,_,rfl,z,_,_,_,rfl,rfl,hz,rfl,b,c,rfl,_,_,rfl,rfl,⟨af,(fO XC).log⟩,_,rfl,z,_,_,_,rfl,rfl,hz,rfl,_,_,rfl,rfl,?_,?_⟩
   ·rw [ed];exact gm (fO (Í (Ŀ _ _) ű)) (fO XH)
   have l1:1<=Nat.lcm b c:=Nat.lcm_pos b1 c1;refine⟨rfl,Nat.lcm b c,some (.ref z),?_,l1,Nat.lcm_dvd bM cM,λ d hd=>?_⟩
   ·show [some (V.ref p),some (V.int ((b:Int)/((Nat.gcd b c:Nat):Int)*(c:Int))),some (V.ref z)]=_;rw [ed,<- ğ,Av]
   rw [tk] at hd;rcases ß.mp hd with hd | hd
   ·exact Nat.dvd_trans (all d hd) (Nat.dvd_lcm_left b c)
   ·rw [É.mp hd];exact Nat.dvd_lcm_right b c
 ·rintro σ H' ⟨rfl,b,o,rfl,b1,bM,all⟩;have ln:xs.length=bs.length:=Ś ba;rw [ln,á] at all;exact⟨_,rfl,q b b1 bM all⟩
abbrev KG:Stmt:=cP 42
def yd:Sp:=λ vs H Q _=>∃ n:Int,vs=[.int n]/\n<=5000/\Q .Ă H
theorem JI:ai ["many"] ["many"] (aa KG):=bc
theorem FF {t:Tok}(F:ĵ K "need_few" "need_few" KG f fd) (mT:mg "MOST_TOLD" = some (.int 5000 t)):í P w K mg base aB 1 f fd ["many"] yd:=by
 refine bX F JI λ cdv A outer s H vs Q E hr h=>?_;obtain⟨n,rfl,hn,q⟩:=h;refine⟨_,aW (aJ (aq fm (pv 0) (bI (v:=.int 5000) rfl mT ⟨_,rfl⟩) (au _)) (aW bH) cT),?_⟩;refine⟨_,rfl,_,_,rfl,rfl,_,rfl,?_⟩;rw [Ò af];exact dj q
abbrev KW:Stmt:=cP 45
def DO (ns:List Int):Prop:=∀ n∈ns,-100000<=n/\n<=100000
def wy (K:Frag):Sp:=λ vs H Q _=>∃(p:Addr)(ns:List Int),vs=[.ref p,.int (ns.length:Nat)]/\H p=some (.lst (ns.map V.int))/\ns.length<=20/\DO ns/\∀ H',Ext H H'->Q (.bl true) H'
theorem Ke:ai ["thing","folk"] ["thing","folk"] (aa KW):=bc
abbrev HV:Scope:=gr [("score",.local),("is_whole",.globalImplicit),("MOST_SCORE",.globalImplicit)]
theorem CD {X:Cx}:cV X HV [] ["score"] [] []:=eF (L:=[(".0",.local),("score",.local),("is_whole",.globalImplicit),("MOST_SCORE",.globalImplicit)]) rfl rfl aC aC aC rfl aC aC
theorem JX:((["score"]:List Str)++([]:List Str)).Nodup:=aC
theorem Ig {t:Tok}(N:pA K)(F:ĵ K "are_scores" "are_scores" KW f fd) (A1:Df P w K mg base aB 2 "is_whole" ["thing","low","high"] (gZ K) a1 d1) (mS:mg "MOST_SCORE" = some (.int 100000 t)) (mi:mg "isinstance" = none) (ml:mg "list" = none) (mn:mg "len" = none) (ma:mg "all" = none):í P w K mg base aB 3 f fd ["thing","folk"] (wy K):=by
 refine bX F Ke λ cdv A outer s H vs Q E hr h=>?_;obtain⟨p,ns,rfl,hp,VD,sc,q⟩:=h;refine⟨_,bb (aJ (PW.pt (fY (cw (bz (am (aX N) rfl mi Ê (ac (pv 0) (ac (ce rfl ml õ) ar))))) (eQ (aq iG (am aO rfl mn ö (ac (pv 0) ar)) (pv 1) (au _))))) (aW (cn pX)) cT)
  (aW (cn (am (jT rfl) rfl ma K' (ac (dS (te:=cC (gZ K) [] E0 (ao (ae 0) (ao (Dq (rU λ i=>.int (-i)) (tC (.int 100000))) (ao (tC (.int 100000)) aF)))) (g:=aN 0) rfl CD (bJ (pv 0)) (λ s H C fp=>by exact cu (i:=0) JX rfl (.inl rfl)) (λ s H C fp=>by exact bZ A1 hr ag (ac (pv 0) (ac (jS gX (bI (v:=.int 100000) rfl mS ⟨_,rfl⟩)) (ac (bI (v:=.int 100000) rfl mS ⟨_,rfl⟩) ar))))) ar)))),?_⟩
 refine⟨_,rfl,_,_,_,_,rfl,.inl (.lst hp),rfl,_,rfl,dj ⟨_,rfl,p,_,rfl,.inl (Ċ.of hp),_,rfl,rfl,_,rfl,?_⟩⟩;rw [Ä];rw [show(!decide (V.int ((ns.length:Nat):Int)=V.int ((ns.length:Nat):Int)))=false by rw [Ç rfl];rfl]
 refine dj ⟨_,rfl,p,rfl,⟨_,Ċ.of hp⟩,λ D hD=>?_⟩;refine fu (a:=p) (xs:=ns.map V.int) (λ i ys H'=>Ext H H'/\ys=(List.replicate i true).map V.bl) (by rw [Ü,Ä];omega) ⟨Ext.new hD,rfl⟩ (λ i ys H' pv=>Ċ.of (pv.1 _ _ hp)) ?_ ?_
 ·rintro i x ys H' ex ly ś ⟨x',rfl⟩ os Ş R k;obtain⟨o0,rfl⟩:∃ o0,os=[o0]:=by
   match os,Ş with
   | [o0],_=>exact⟨o0,rfl⟩
  rw [Ô] at ex;obtain⟨n,en,rfl⟩:=å.mp ex;obtain⟨s1,s2⟩:=sc n (Ì en);refine⟨⟨[some (.int n)],rfl,rfl⟩,_,rfl,_,rfl,_,-100000,100000,rfl,.inl ⟨_,rfl⟩,?_⟩;rw [show Pu (-100000) 100000 (.int n)=true by show(decide (-100000<=n)&&decide (n<=100000))=true;rw [Ç s1,Ç s2];rfl]
  exact k _ H' ś ⟨aV _ x' hD,by rw [List.replicate_succ',Ð];rfl⟩
 ·rintro ys H' ly ś ⟨x',rfl⟩;refine⟨D,_,rfl,Ċ.of ś,?_⟩;rw [show(List.replicate (ns.map V.int).length true).all id=true by simp]
  exact q H' x'
end
def Ji:HO->Bool
 | .tup _=>true
 | .ins _ _ _=>true
 | .Ŭ _ (.tup _)=>true
 | _=>false
def oq (H H':Hp):Prop:=∀ b o,H b=some o->Ji o=true->H' b=some o
mutual
theorem Ą.Ć (s:oq G G'):∀{v:V}{d:PyData},aG d=true->Ą G v d->Ą G' v d
 | _,_,_,.Ă=>.Ă
 | _,_,_,.bl b=>.bl b
 | _,_,_,.int i=>.int i
 | _,_,_,.str x=>.str x
 | _,_,h,.lst e r=>by simp [aG] at h
 | _,_,h,.tup e r=>.tup (s _ _ e rfl) (Ý.Ć s (by simpa only [aG] using h) r)
 | _,_,h,.Oo e=>by simp [aG] at h
 | _,_,h,.RA e r=>by simp [aG] at h
theorem Ý.Ć (s:oq G G'):∀{vs:List V}{ds:List PyData},ī ds=true->Ý G vs ds->Ý G' vs ds
 | _,_,_,.nil=>.nil
 | _,_,h,.cons r t=>by
  simp only [ī,Bool.and_eq_true] at h;exact .cons (Ą.Ć s h.1 r) (Ý.Ć s h.2 t)
end
theorem Ob.Ć (h:Ob C H v fk bg tl pt X)(s:oq H H')(n1:aG bg=true)(n2:aG tl=true)(n3:aG pt=true)(k:∀ fs,X fs->Y fs):Ob C H' v fk bg tl pt Y:=by
 obtain⟨a,dx,fs,rfl,ha,h1,⟨b,h2,r2⟩,⟨m,h3,r3⟩,⟨p,h4,r4⟩,h5,h6⟩:=h.ex;exact⟨a,dx,fs,rfl,s _ _ ha rfl,h1,⟨b,h2,r2.Ć s n1⟩,⟨m,h3,r3.Ć s n2⟩,⟨p,h4,r4.Ć s n3⟩,h5,k fs h6⟩
section
variable {C:Nat->Addr}{H H':Hp}
theorem MV.Ć (h:MV C H r v)(s:oq H H'):MV C H' r v:=Ob.Ć h s r.QG r.nl (iB _) λ fs e=>by
 cases r with
 | split _ _=>trivial
 | pairs _ a b =>
  obtain⟨c,e1,e2⟩:=e;exact⟨c,e1,e2.Ć s jh⟩
 | ę _ a b f =>
  obtain⟨⟨c,e1,e2⟩,e3⟩:=e;exact⟨⟨c,e1,e2.Ć s jh⟩,e3⟩
theorem Τ.Ć (h:Τ C H rs ws)(s:oq H H'):Τ C H' rs ws:=⟨h.1,λ i r w a b=>MV.Ć (h.2 i r w a b) s⟩
theorem Op.Ć (h:Op C H rs v)(s:oq H H'):Op C H' rs v:=Ob.Ć h s (Rl.QG _) (Rl.nl _) (iB _) λ fs e=>by
 obtain⟨l,ws,e1,e2,e3⟩:=e;exact⟨l,ws,e1,s _ _ e2 rfl,e3.Ć s⟩
theorem Px.Ć (h:Px C H t v)(s:oq H H'):Px C H' t v:=by
 cases t with
 | one r=>exact MV.Ć h s
 | blocks rs=>exact Op.Ć h s
 | first _ _=>exact h.elim
theorem Ru.Ć (h:Ru C H t v)(s:oq H H'):Ru C H' t v:=by
 cases t with
 | one r=>exact MV.Ć h s
 | blocks rs=>exact Op.Ć h s
 | first t m=>exact Ob.Ć h s t.QG (Rl.nl _) (iB _) λ fs ⟨d,e1,e2⟩=>⟨d,e1,e2.Ć s⟩
end
def pY:HO->Bool
 | .dK _=>true
 | .dT _=>true
 | .Ŭ _ (.dK _)=>true
 | .Ŭ _ (.dT _)=>true
 | _=>false
def nD (H:Hp):Hp:=λ b=>match H b with
 | some o=>if pY o=true then none else some o
 | none=>none
section
variable {H H':Hp}{b:Addr}{o:HO}
theorem kC (e:H b=some o)(n:pY o=false):nD H b=some o:=by
 unfold nD;rw [e];show(if pY o=true then none else some o)=_
 rw [n];rfl
theorem ju (e:nD H b=some o):H b=some o/\pY o=false:=by
 unfold nD at e;cases h:H b with
 | none=>rw [h] at e;cases e
 | some u =>
  rw [h] at e;have e':(if pY u=true then none else some u)=some o:=e
  cases z:pY u with
  | true=>rw [z,Ó rfl] at e';cases e'
  | false =>
   rw [z,Ë ax] at e';cases e';exact⟨rfl,z⟩
theorem eW (H:Hp):Ext (nD H) H:=λ b o e=>(ju e).1
theorem Ext.nd (x:Ext H H'):Ext (nD H) (nD H'):=λ b o e=>kC (x _ _ (ju e).1) (ju e).2
theorem vN (H:Hp):oq H (nD H):=λ b o e t=>kC e (by unfold Ji at t;split at t <;> first | rfl | cases t)
theorem wR (e:H b=some o)(z:pY o=true):Ext (nD H) (nD (aj H b u)):=λ c v h=>by
 obtain⟨h1,h2⟩:=ju h;have ne:c≠b:=λ y=>by rw [y,e] at h1;cases h1;rw [z] at h2;cases h2
 exact kC (by rw [ad ne];exact h1) h2
theorem Bp (x:Ext (nD H0) (nD H))(e:nD H0 b=none):Ext (nD H0) (nD (aj H b u)):=λ c v h=>by
 obtain⟨h1,h2⟩:=ju (x _ _ h);have ne:c≠b:=λ y=>by rw [y,e] at h;cases h
 exact kC (by rw [ad ne];exact h1) h2
theorem se (e:H b=none):nD H b=none:=by unfold nD;rw [e]
end
end My
namespace My
open PySem PySem.W L2
section
variable {prog:Program}{w:World}{A:Around}{E:eE}{s:Shared}{it d:Addr}{i ep:Nat}{es:Array DictEntry}{od:Obj}{e:DictEntry}
theorem wS:Builtin.Dict_items.ownsTuple "dict_keyiterator" = false:=ax
theorem vO (hi:s.heap.IsKeyIter it d i es.size ep)(ho:s.heap.get? d=some od)(J':od.data=.dict es ep)(he:es[i]?=some e)
  (k:∀ h',h'.IsKeyIter it d (i+1) es.size ep->Heap.SameBut it s.heap h'->Q (some e.key) { s with heap:=h' }):wpAny (model prog w) A (pyNext (.ref it)) Q E s:=by
 obtain⟨oi,Nz,SD,NR⟩:=id hi;have T0:=hi.typeIs;refine À (ļ (ð T0 Ġ (î Ġ T0 Nu (À (Á (À (À (À (œ T0 (Á (À (Α Nz NR ?_)))))))))  (Na _))));simp only [wS,Bool.false_eq_true,if_false];show wpAny _ _ (if(Value.ref d==Value.none)=true then _ else _) _ _ _
 rw [Ë (gD d)];refine À (Á (À (ď ho J' ?_)));rw [Ë (by simp)]
 refine À (Á (À (Ĳ ho J' ?_)));rw [Ë (by simp)]
 refine Á ?_;simp only [show ¬ ((i:Int)<0) from by omega,if_false,Int.toNat_natCast,he]
 refine À (À (œ T0 (Á (À (wpAny_isOneOf_keyiter T0 ?_)))));show wpAny _ _ (setField (.ref it) 1 (rawInt ((i:Int)+1))>>=_) _ _ s;have UQ:(s.heap.update it (Obj.mapFields (·.setIfInBounds 1 (rawInt ((i:Int)+1))))).IsKeyIter it d (i+1) es.size ep :=
  ⟨_,ù _ Nz (Obj.isFreed_of_fields (ń NR _)),(Obj.cls_mapFields ..).trans SD,by rw [ń NR];simp [rawInt]⟩
 have T1:Shared.TypeIs { s with heap:=s.heap.update it (Obj.mapFields (·.setIfInBounds 1 (rawInt ((i:Int)+1)))) } (.ref it) "dict_keyiterator" := Heap.IsKeyIter.typeIs UQ
 refine À (Ł Nz NR (by simp) (wpAny_bind (wpAny_holding (wpAny_bind (wpAny_isOneOf_keyiter T1 ?_)))))
 exact Á (Á ⟨_,rfl,Á (k _ UQ (ķ ..))⟩)
theorem ym (hh:A.handled=none)(hi:s.heap.IsKeyIter it d i es.size ep)(ho:s.heap.get? d=some od)(J':od.data=.dict es ep)(he:es.size<=i)
  (k:∀ h',Heap.ExtBut it s.heap h'->Q none { s with heap:=h' }):wpAny (model prog w) A (pyNext (.ref it)) Q E s:=by
 obtain⟨oi,Nz,SD,NR⟩:=id hi;have T0:=hi.typeIs;refine À (ļ (ð T0 Ġ (î Ġ T0 Nu (À (Á (À (À (À (œ T0 (Á (À (Α Nz NR ?_)))))))))  (Na _))));simp only [wS,Bool.false_eq_true,if_false];show wpAny _ _ (if(Value.ref d==Value.none)=true then _ else _) _ _ _
 rw [Ë (gD d)];refine À (Á (À (ď ho J' ?_)));rw [Ë (by simp)]
 refine À (Á (À (Ĳ ho J' ?_)));rw [Ë (by simp)]
 refine Á ?_;simp only [show ¬ ((i:Int)<0) from by omega,if_false,Int.toNat_natCast,Array.getElem?_eq_none he]
 refine À (À (œ T0 (Á ?_)));show wpAny _ _ (setField (.ref it) 0 .none>>=_) _ _ s;refine À (Ł Nz NR (by simp) (wpAny_bind ?_))
 simp only [newExc,newTuple];refine À (ã (À (Q3 (by first | rfl | (simp only [firstArgMember];rfl)) (ã ?_ (by size_fits)))) (by size_fits))
 simp only [raiseNew];refine À (OK ?_);rw [show A.in1.handled=none from hh];refine À (Á (Q2 (À ?_)));exact ŧ ⟨_,Î _ rfl,rfl⟩ N1 (Á (k _ (((ķ ..).extBut.push _).push _)))
theorem wt (hT:s.TypeIs (.ref d) "dict") (hd:(d==sysModules)=false) (ho:s.heap.get? d=some od) (J':od.data=.dict es ep)
  (k:Q (.ref s.heap.objs.size) { s with heap:=s.heap.push { cls:=.type "dict_keyiterator",data:=.fields #[.ref d,.int 0 0,.int es.size 0,.int ep 0] } }):wpAny (model prog w) A (pyIter (.ref d)) Q E s:=by
 refine C_ hT RK (î RK hT PySem.F.entry_dict_iter ?_ (PySem.F.args_dict_iter_1 _));refine À (À (Υ hT (À ?_)));refine Á (Á ?_);show wpAny _ _ (Builtin.Dict.showsAll d>>=_) _ _ s;unfold Builtin.Dict.showsAll;rw [Ë (by rw [hd];exact Ø)]
 refine À (Á (À (ď ho J' (À (Ĳ ho J' ?_)))));refine À (ã (Á ⟨_,rfl,"dict_keyiterator",_,⟨_,Î _ rfl,rfl⟩,Ġ.lookup,?_⟩))
 simpa [rawInt] using k
end
def Ij (d:Addr)(o:Obj)(u:HO):It :=
 ⟨λ i H=>H d=some (.Ŭ o u)/\i<cL u,λ i H x H'=>H'=H/\∃ v,j7 H u i x v,λ i H=>H d=some (.Ŭ o u)/\cL u<=i⟩
theorem uG (D:kA u)(hd:o.data=.dict es ep):my P w K tg (Ij d o u) [it] it (λ i h=>h.IsKeyIter it d i es.size ep) where
 mem:=by simp
 obj:=λ i h st b hb=>by
  obtain⟨oi,q,c,dd⟩:=st;have e:b=it:=by simpa using hb
  subst e;exact⟨oi,q,λ v z=>by rw [dd] at z;cases z⟩
 keep:=λ i h h' st k=>by
  obtain⟨oi,q,c,dd⟩:=st;exact⟨oi,k it (by simp) _ q,c,dd⟩
 item:=by
  intro X hP hw hK hc i Ã s σ H E I hf st hg;subst hP hw hK;obtain⟨Qc,ř⟩:=hg;obtain⟨ho,Rv,rel⟩:=gH D I.Č Qc hd;obtain⟨f0,f1,f2,f3,f4,f5⟩:=hf it (by simp)
  have he:=b_ (show i<es.size by omega)
  obtain⟨kx,v,pr,rk,rv⟩:=rel i _ he;refine vO st ho hd he λ h1 QP sb=>?_;have I1:Inv X Ã σ H { s with heap:=h1 }:=I.turned (λ b ob hb q=>(sb.2 b hb).trans q) f0 f1 f3 f4 f5
  obtain⟨oi,q,c,dd⟩:=id QP;exact⟨_,rfl,nM q c dd ax ⟨kx,H,I1,rk,⟨rfl,v,pr⟩,QP,λ b hb=>(hf b hb).1⟩⟩
 done:=by
  intro X hP hw hK hc i Ã s σ H E I hf st hg;subst hP hw hK;obtain⟨Qc,ř⟩:=hg;obtain⟨ho,Rv,rel⟩:=gH D I.Č Qc hd;obtain⟨f0,f1,f2,f3,f4,f5⟩:=hf it (by simp)
  exact ym (I.ok.hd hc) st ho hd af λ h' eb=>⟨rfl,I.turned (λ b ob hb q=>eb b ob hb q) f0 f1 f3 f4 f5⟩
 self:=λ _ _ _ _ _ st k=>wpAny_pyIter_keyiter st k
def FH (tl:TE):L2.TI:=λ σ H R=>tl σ H λ x H1=>∃ d u,x=.ref d/\kA u/\Rd H1 d u/\∀ ob H2,Fz H1 d ob u H2->R (Ij d ob u) H2
theorem rN (ho:PE X o tl):PI X tg o (FH tl):=by
 intro Ã s σ H R I h;refine bt (ho Ã s σ H _ I h) λ v s1 ⟨x,H1,I1,r1,q1⟩=>?_;obtain⟨d,u,rfl,D,rd,q⟩:=q1;cases (show v=.ref d from r1);obtain⟨ob,es,ep,g1,g2,g3,g4,g5,g6⟩:=gV D (mH D I1.Č rd);have hT:s1.TypeIs (.ref d) "dict" :=⟨ob,g1,g2.1⟩;obtain⟨Ua,H2,f1,f2,I2⟩:=qo I1 D rd;have eo:Ua=ob:=by rw [g1] at f1;exact(â f1).symm
 subst eo;refine wt hT g4 g1 g3 ?_;refine⟨s1.heap.objs.size,[s1.heap.objs.size],_,_,H2,rfl,I2.kept λ b ob e=>Â _ e,uG D g3,⟨_,Î _ rfl,rfl,rfl⟩,λ b hb=>?_,q _ _ f2⟩;have e:b=s1.heap.objs.size:=by simpa using hb
 subst e;exact I2.Om (Æ _) (I2.Č.fresh (Æ _))
theorem rh {g:TG}{tb:TS}{D:dq}(Pv:Nat->St->Hp->Prop)(h0:Pv 0 σ H)(hf:∀ i σ H,Pv i σ H->H d=some (.Ŭ ob u))
  (hs:∀ i σ H kx v,i<cL u->Pv i σ H->j7 H u i kx v->g kx σ H λ Ĩ H2=>tb { D with nx:=Pv (i+1),ct:=Pv (i+1),bk:=D.nx } Ĩ H2) (hd:∀ σ H,Pv (cL u) σ H->D.nx σ H) :
  ∃ W:Nat->Nat->St->Hp->Prop,(∃ m,W 0 m σ H)/\∀ i m σ H,W i m σ H ->
   ((Ij d ob u).stop i H/\D.nx σ H)\/((Ij d ob u).go i H/\∃ N:St->Hp->Prop,(∀ ĸ H',N ĸ H'->∃ m',m'<m/\W (i+1) m' ĸ H')/\∀ x H',(Ij d ob u).ο i H x H'->g x σ H' λ Ĩ H2=>tb { D with nx:=N,ct:=N,bk:=D.nx } Ĩ H2):=by
 refine⟨λ i m σ H=>m=cL u-i/\i<=cL u/\Pv i σ H,⟨cL u,by simp,Nat.zero_le _,h0⟩,?_⟩
 rintro i m σ H ⟨rfl,hi,p⟩;have q:=hf i σ H p;by_cases ř:i<cL u
 ·refine .inr ⟨⟨q,ř⟩,Pv (i+1),λ ĸ H' n=>⟨cL u-(i+1),af,rfl,ř,n⟩,?_⟩;rintro x H' ⟨rfl,v,pr⟩;exact hs i σ _ x v ř p pr
 ·have e:i=cL u:=af;subst e;exact .inl ⟨⟨q,Æ _⟩,hd σ H p⟩
section
variable {κ μ:Type} [DecidableEq κ] [DecidableEq μ] {g:κ->μ}
abbrev oZ (g:κ->μ)(F:κ->Prop):Prop:=∀ a b,F a->F b->g a=g b->a=b
theorem f6 {F:κ->Prop}(inj:oZ g F){n:κ}(fn:F n):∀{ps:List (κ × V)},(∀ p∈ps,F p.1)->bP (ps.map λ p=>(g p.1,p.2)) (g n)=bP ps n
 | [],_=>rfl
 | p::ps,h=>by
  have hp:=h p (Ö ..);have ih:=f6 inj fn (ps:=ps) λ q hq=>h q (Ï _ hq);rw [Ú];by_cases e:p.1=n
  ·rw [bC e,bC (p:=(g p.1,p.2)) (ą g e)]
  ·rw [bD e,bD (p:=(g p.1,p.2)) (λ z=>e (inj _ _ hp fn z)),ih]
theorem gw {F:κ->Prop}(inj:oZ g F){n:κ}(fn:F n){v:V}{ps:List (κ × V)}(h:∀ p∈ps,F p.1):bu (ps.map λ p=>(g p.1,p.2)) (g n) v=(bu ps n v).map λ p=>(g p.1,p.2):=by
 have ea:((ps.map λ p=>(g p.1,p.2)).any λ kv=>decide (kv.1=g n))=ps.any λ kv=>decide (kv.1=n):=by
  rw [List.any_map];refine any_congr λ p hp=>?_;exact ĳ.mpr ⟨λ z=>inj _ _ (h p hp) fn z,λ z=>ą g z⟩
 unfold bu;rw [ea];split
 ·rw [δ,δ];refine Nb λ p hp=>?_;show(if g p.1=g n then _ else _)=((λ p:κ × V=>(g p.1,p.2)) (if p.1=n then(p.1,v) else p))
  by_cases e:p.1=n
  ·rw [Ó (ą g e),Ó e]
  ·rw [Ë (λ z=>e (inj _ _ (h p hp) fn z)),Ë e]
 ·rw [Ð];rfl
where any_congr {α:Type} {f k:α->Bool}:∀{l:List α},(∀ x∈l,f x=k x)->l.any f=l.any k
 | [],_=>rfl
 | x::l,h=>by rw [Ţ,Ţ,h x (Ö ..),any_congr λ y hy=>h y (Ï _ hy)]
theorem oK {v:V}{n:κ}{ps:List (κ × V)}{q:κ × V}(h:q∈bu ps n v):q=(n,v)\/q∈ps:=by
 unfold bu at h;split at h
 ·obtain⟨p,hp,e⟩:=æ.mp h;split at e
  ·rename_i z
   left;rw [<- e,z]
  ·right;rw [<- e];exact hp
 ·rcases ß.mp h with h | h
  ·exact .inr h
  ·exact .inl (É.mp h)
end
def iW:Bool->NK->Prop
 | true,.t _=>True
 | false,.k _=>True
 | _,_=>False
def Ir:NK->Key
 | .k x=>x
 | .t _=>.Ă
def Ip:NK->List NK
 | .t ks=>ks.map .k
 | .k x=>[.k x]
theorem zQ:oZ Ir (iW false):=λ a b h1 h2 e=>by
 cases a with
 | t _=>exact h1.elim
 | k x=>cases b with
  | t _=>exact h2.elim
  | k y=>exact ą NK.k e
theorem kS:∀{a b:List Key},a.map NK.k=b.map NK.k->a=b
 | [],[],_=>rfl
 | [],_::_,e=>by simp at e
 | _::_,[],e=>by simp at e
 | x::a,y::b,e=>by
  rw [Ú,Ú] at e;injection e with e1 e2
  injection e1 with e1
  rw [e1,kS e2]
theorem zV:oZ Ip (iW true):=λ a b h1 h2 e=>by
 cases a with
 | k _=>exact h1.elim
 | t x=>cases b with
  | k _=>exact h2.elim
  | t y=>exact ą NK.t (kS e)
theorem vX {tp:Bool}{d:PyData}(h:hG tp d=true):iW tp (fw d):=by
 cases tp with
 | true =>
  cases d with
  | tuple ds=>trivial
  | _=>simp [hG] at h
 | false =>
  cases d with
  | tuple ds =>
   exfalso
   match ds,h with
   | [.int i,d],h=>simp [hG] at h
   | [],h | [_],h | (_::_::_::_),h=>simp [hG,iU] at h
   | [.none,_],h | [.bool _,_],h | [.str _,_],h | [.list _,_],h | [.tuple _,_],h | [.dict _,_],h=>simp [hG,iU] at h
  | _=>trivial
def fJ (tp:Bool)(ps:List (NK × V)):HO:=if tp=true then .dT (ps.map λ p=>(Ip p.1,p.2)) else .dK (ps.map λ p=>(Ir p.1,p.2))
theorem we (tp:Bool)(ps:List (NK × V)):kA (fJ tp ps)/\pY (fJ tp ps)=true/\cL (fJ tp ps)=ps.length:=by
 cases tp with
 | true=>exact⟨True.intro,rfl,Ä _⟩
 | false=>exact⟨True.intro,rfl,Ä _⟩
theorem OV {H:Hp}{x:V}{k:Key}(h:Ą H x (j8 k)):x=kV k:=by
 cases k with
 | inl i=>cases h;rfl
 | inr s=>cases h;rfl
 | Ă=>cases h;rfl
theorem OP (H:Hp)(k:Key):Ą H (kV k) (j8 k):=by
 cases k with
 | inl i=>exact .int i
 | inr s=>exact .str s
 | Ă=>exact .Ă
theorem Og {H:Hp}:∀{ks:List Key}{xs:List V},Ý H xs (ks.map j8)->xs=ks.map kV
 | [],_,h=>by cases h;rfl
 | k::ks,_,h=>by
  rw [Ú] at h;cases h with
  | cons a b=>rw [OV a,Og b];rfl
theorem N9 (H:Hp):∀(ks:List Key),Ý H (ks.map kV) (ks.map j8)
 | []=>.nil
 | k::ks=>.cons (OP H k) (N9 H ks)
theorem zJ {H:Hp}{b:Addr}{ks:List Key}(h:H b=some (.tup (ks.map kV))):OG H (ks.map .k) b:=by
 refine⟨_,h,?_⟩
 clear h
 induction ks with
 | nil=>exact .nil
 | cons k ks ih=>exact .cons rfl ih
theorem zX {H:Hp}{n:NK}{v:V}(h:NV H n v):Ą H v (eC n):=by
 cases n with
 | k x=>cases (show v=kV x from h);exact OP H x
 | t ks =>
  obtain⟨b,rfl,e⟩:=h;exact .tup e (N9 H ks)
theorem rL {H:Hp}{n:NK}{v:V}(h:Ą H v (eC n)):NV H n v:=by
 cases n with
 | k x=>exact OV h
 | t ks =>
  have h':Ą H v (.tuple (ks.map j8)):=h;cases h' with
  | tup hb rb=>exact⟨_,rfl,by rw [<- Og rb];exact hb⟩
theorem eJ {H H':Hp}{n:NK}{v:V}(h:NV H n v)(x:Ext H H'):NV H' n v:=by
 cases n with
 | k y=>exact h
 | t ks =>
  obtain⟨b,e,q⟩:=h;exact⟨b,e,x _ _ q⟩
section
variable {H:Hp}{a:Addr}{tp:Bool}{ps:List (NK × V)}{n:NK}{kx v:V}
theorem ph (hu:Rd H a (fJ tp ps))(all:∀ p∈ps,iW tp p.1)(fn:iW tp n)(nv:NV H n kx):B_ H a kx (bP ps n):=by
 cases tp with
 | true =>
  cases n with
  | k _=>exact fn.elim
  | t ks =>
   obtain⟨b,rfl,hb⟩:=nv;exact .inr ⟨_,Ip (.t ks),b,hu,rfl,zJ hb,(f6 zV fn all).symm⟩
 | false =>
  cases n with
  | t _=>exact fn.elim
  | k x=>exact .inl ⟨_,x,hu,nv,(f6 zQ fn all).symm⟩
theorem wY (hu:H a=some (fJ tp ps))(all:∀ p∈ps,iW tp p.1)(fn:iW tp n)(nv:NV H n kx)(lt:ps.length<sizeLine):su H a kx v (aj H a (fJ tp (bu ps n v))):=by
 cases tp with
 | true =>
  cases n with
  | k _=>exact fn.elim
  | t ks =>
   obtain⟨b,rfl,hb⟩:=nv;refine .inr ⟨_,Ip (.t ks),b,hu,rfl,zJ hb,by rw [Ä];exact lt,?_⟩
   rw [gw zV fn all];rfl
 | false =>
  cases n with
  | t _=>exact fn.elim
  | k x =>
   refine .inl ⟨_,x,hu,nv,by rw [Ä];exact lt,?_⟩
   have e:=gw (v:=v) zQ fn all;have e':bu (ps.map λ p=>(Ir p.1,p.2)) x v=(bu ps (NK.k x) v).map λ p=>(Ir p.1,p.2):=e;rw [e'];rfl
end
def Mq (tp:Bool):TE:=λ _ H Q=>∀ p,H p=none->Q (.ref p) (aj H p (fJ tp []))
theorem F5 {X:Cx}{pos:Pos}(tp:Bool):PE X (.Dict [] [] pos) (Mq tp):=by
 cases tp with
 | true=>exact gk
 | false=>exact wr
def bA (ps:Tw):HO:=.dT (ps.map λ p=>([p.1.1,.k (.inl p.1.2)],.int (p.2:Nat)))
theorem ix:oZ (λ q:TK=>[q.1,NK.k (.inl q.2)]) (λ _=>True):=λ a b _ _ e=>by
 have e':[a.1,NK.k (.inl a.2)]=[b.1,NK.k (.inl b.2)]:=e;injection e' with e1 e2
 injection e2 with e2 _
 injection e2 with e2
 injection e2 with e2
 exact Prod.ext e1 e2
theorem lT {H:Hp}{ps:Tw}{i:Nat}{kx v:V}(h:j7 H (bA ps) i kx v):∃ p b sv,ps[i]?=some p/\kx=.ref b/\H b=some (.tup [sv,.int p.1.2])/\NV H p.1.1 sv/\v=.int (p.2:Nat):=by
 rcases h with⟨l,k,e,_⟩ | ⟨l,k,b,e,hk,rfl,vs,hb,nv⟩
 ·cases e
 ·cases e;rw [Ô] at hk;obtain⟨p,hp,e2⟩:=å.mp hk;cases e2;cases nv with
  | cons n1 nv =>
   cases nv with
   | cons n2 nv =>
    cases nv;cases (show _=V.int p.1.2 from n2);exact⟨p,b,_,hp,rfl,hb,n1,rfl⟩
theorem wE {u:HO}(h:kA u):pY u=true/\∀ o,pY (.Ŭ o u)=true:=by
 cases u with
 | dK ï=>exact⟨rfl,λ _=>rfl⟩
 | dT ï=>exact⟨rfl,λ _=>rfl⟩
 | _=>exact h.elim
theorem wb {H:Hp}{d:Addr}{u:HO}(h:kA u)(r:Rd H d u):∃ o,H d=some o/\pY o=true:=by
 rcases r with r | ⟨o,r⟩
 ·exact⟨_,r,(wE h).1⟩
 ·exact⟨_,r,(wE h).2 o⟩
theorem uE {H H':Hp}{d:Addr}{o:Obj}{u:HO}(h:kA u)(r:Rd H d u)(z:Fz H d o u H'):Ext (nD H) (nD H'):=λ b v e=>by
 obtain⟨q,e1,e2⟩:=wb h r;obtain⟨h1,h2⟩:=ju e;have ne:b≠d:=λ y=>by rw [y,e1] at h1;cases h1;rw [e2] at h2;cases h2
 exact kC (by rw [z.2 b ne];exact h1) h2
theorem Qi.Ć {K:Frag}{H H':Hp}{p:V}{s:Ŝ}(h:Qi K H p s)(x:oq H H')(nl:aG s.next=true):Qi K H' p s:=by
 obtain⟨a,sv,nv,e,ha,⟨z,e2,hz⟩,hn⟩:=h;refine⟨a,sv,nv,e,x _ _ ha rfl,⟨z,e2,?_⟩,hn.Ć x nl⟩;rcases hz with(h | ⟨o,h⟩) | h
 ·exact .inl (.inl (x _ _ h rfl))
 ·exact .inl (.inr ⟨o,x _ _ h rfl⟩)
 ·exact .inr h
theorem h_.Ć {K:Frag}{H H':Hp}(x:oq H H'):∀{ps:List V}{ss:List Ŝ},h_ K H ps ss->(∀ s∈ss,aG s.next=true)->h_ K H' ps ss
 | _,_,.nil,_=>.nil
 | _,_,.cons a b,h=>.cons (a.Ć x (h _ (Ö ..))) (b.Ć x λ s hs=>h s (Ï _ hs))
theorem Dz {K:Frag}{H:Hp}{l:Addr}{ss:List Ŝ}(h:RC K H l ss)(nl:∀ s∈ss,aG s.next=true):RC K (nD H) l ss:=by
 obtain⟨ps,hl,al⟩:=h;exact⟨ps,kC hl rfl,al.Ć (vN H) nl⟩
theorem RC.ext {K:Frag}{H H':Hp}{l:Addr}{ss:List Ŝ}(h:RC K H l ss)(x:Ext H H'):RC K H' l ss:=by
 obtain⟨ps,hl,al⟩:=h;exact⟨ps,x _ _ hl,al.ext x⟩
def Lu (t:Rl)(k:Nat)(ps:Tw):Prop:=∀ p∈ps,hG t.tp (eC p.1.1)=true/\fw (eC p.1.1)=p.1.1/\t.q_ (k:Nat) (eC p.1.1)
def SO (K:Frag)(G:Hp)(t:Rl)(k:Nat)(qs:List (NK × V)):Prop:=∀ q∈qs,∃ l,q.2=.ref l/\RC K G l (t.steps (eC q.1) (k:Nat))
theorem SO.ext {K:Frag}{G G':Hp}{t:Rl}{k:Nat}{qs:List (NK × V)}(h:SO K G t k qs)(x:Ext G G'):SO K G' t k qs:=λ q hq=>by
 obtain⟨l,e,s⟩:=h q hq;exact⟨l,e,s.ext x⟩
section
variable {P:Program}{w:World}{K:Frag}{mg:cr}{base:Heap}{C:Nat->Addr}{f a1 a2:Addr}{fd d1 d2:FuncData}
abbrev Il:Stmt:=cP 46
abbrev LJ:List Str:=["rule","keys","at","steps","state","total"]
theorem TD:ai LJ ["rule","keys","at"] (aa Il):=bc
def vR (K:Frag)(C:Nat->Addr):Sp:=λ vs H Q _=>∃(v:V)(d:Addr)(k:Nat)(t:Rl)(ps:Tw),vs=[v,.ref d,.int (k:Nat)]/\Ru C (nD H) t v/\t.ok/\(k:Int)<t.Û/\Rd H d (bA ps)/\ps.length<=5000/\Lu t k ps /\
 ∀ a qs H',Ext (nD H) (nD H')->Kept H H' d->Rd H' d (bA ps)->H a=none->a≠d->H' a=some (fJ t.tp qs)->SO K (nD H') t k qs->(∀ q∈qs,iW t.tp q.1/\∃ p∈ps,q.1=p.1.1)->(∀ p∈ps,∃ x,bP qs p.1.1=some x/\(p.1.1,x)∈qs)->qs.length<=ps.length->Q (.ref a) H'
theorem iM {κ:Type} [DecidableEq κ] {n:κ}:∀{qs:List (κ × V)},(bP qs n=none/\∀ q∈qs,q.1≠n)\/∃ x,bP qs n=some x/\(n,x)∈qs
 | []=>.inl ⟨rfl,λ q h=>nomatch h⟩
 | p::qs=>by
  by_cases e:p.1=n
  ·right;subst e;exact⟨p.2,bC rfl,Ö ..⟩
  ·rw [bD e];rcases iM (n:=n) (qs:=qs) with⟨h,k⟩ | ⟨x,h,k⟩
   ·refine .inl ⟨h,λ q hq=>?_⟩;rcases é.mp hq with rfl | hq
    ·exact e
    ·exact k q hq
   ·exact .inr ⟨x,h,Ï _ k⟩
theorem EO (M:cG P w K mg base aB 7 "steps" ["self","state","at"] (nI C) (gf K C)) (F:ĵ K "steps_from" "steps_from" Il f fd):í P w K mg base aB 8 f fd ["rule","keys","at"] (vR K C):=by
 refine bX F TD λ cdv A outer s H vs Q E hr h=>?_;obtain⟨v,d,k,t,ps,rfl,ru,ok,hk,hd,l5,sk,q⟩:=h;have nd:=TD.nd;have hu:(A.deeper (PyProof.Rows.envOfC "steps_from" (aa Il) s.heap.objs.size f cdv)).units+2<cLine:=by have:=hr.un;omega
 refine⟨_,bb (dk (i:=3) nd rfl (Or.inl rfl) (F5 t.tp))
  (bb (cj Ā rfl (rN (pv 1)) (bN rfl (dB (cu (i:=4) nd rfl (Or.inl rfl)) (dB (cu (i:=5) nd rfl (Or.inl rfl)) br)))
   (aW (aJ (jN (kP hu (pv 4) (pv 3))) (aW (iD hu (pv 3) (pv 4) (fq (pv 0) M hr ag (ac (pv 4) (ac (pv 2) ar))) rfl)) cT)))
  (aW (cn (pv 3)))),?_⟩
 intro a ha;have Ri:a≠d:=λ e=>by
  obtain⟨o,z,_⟩:=wb (u:=bA ps) True.intro hd;rw [e,z] at ha;cases ha
 have VQ:Rd (aj H a (fJ t.tp [])) d (bA ps):=by
  rcases hd with h | ⟨o,h⟩
  ·exact .inl (by rw [ad Ri.symm];exact h)
  ·exact .inr ⟨o,by rw [ad Ri.symm];exact h⟩
 refine⟨_,rfl,d,bA ps,rfl,True.intro,VQ,λ ob H2 fz=>?_⟩;have x0:Ext (nD H) (nD H2):=(Ext.new ha).nd.trans (uE (u:=bA ps) True.intro VQ fz);refine rh (λ i σ H'=>∃(qs:List (NK × V))(o4 o5:Option V),σ=[some v,some (.ref d),some (.int (k:Nat)),some (.ref a),o4,o5]/\H' d=some (.Ŭ ob (bA ps))/\Ext (nD H) (nD H')/\Kept H H' d/\H' a=some (fJ t.tp qs)/\SO K (nD H') t k qs/\(∀ q∈qs,iW t.tp q.1/\∃ p∈ps,q.1=p.1.1)/\(∀ p∈ps.take i,∃ x,bP qs p.1.1=some x/\(p.1.1,x)∈qs)/\qs.length<=i) ?_ ?_ ?_ ?_
 ·refine⟨[],none,none,rfl,fz.1,x0,λ b o e n=>?_,?_,(λ q h=>nomatch h),(λ q h=>nomatch h),(λ p h=>by simp at h),Nat.le_refl _⟩
  ·rw [fz.2 b n,ad (aT e ha)];exact e
  ·rw [fz.2 a Ri];exact be
 ·rintro i σ H' ⟨_,_,_,_,h,_⟩;exact h
 ·rintro i σ H' kx vv hi ⟨qs,o4,o5,rfl,hf,xe,kp,Pk,sd,qf,qa,ql⟩ pr;obtain⟨p,b,sv,hp,rfl,hb,nv,rfl⟩:=lT pr;have O1:=Ì hp;have hil:i<ps.length:=(È.mp hp).1;obtain⟨s1,s2,s3⟩:=sk p O1;have fn:iW t.tp p.1.1:=by rw [<- s2];exact vX s1
  refine⟨b,_,rfl,Ė.of hb,rfl,_,_,rfl,_,_,rfl,rfl,?_⟩;have gt:=ph (.inl Pk) (λ q hq=>(qf q hq).1) fn nv;refine⟨_,rfl,_,rfl,a,_,rfl,gt,_,rfl,?_⟩;have tk:ps.take (i+1)=ps.take i ++ [p]:=aM hp;rcases iM (n:=p.1.1) (qs:=qs) with⟨e,k2⟩ | ⟨x,e,k2⟩
  ·rw [e];refine fV ?_;have vs:=(c5 ok hk s3);refine jp (t:=t) (v:=v) aC ((ru.ext xe).ext (eW _)) ⟨t.kind,t.ā,rfl⟩ (λ R r=>⟨_,rfl,r⟩) ⟨_,rfl,_,rfl,?_⟩;refine⟨v,sv,(k:Nat),t,eC p.1.1,rfl,(ru.ext xe).ext (eW _),rfl,ok,af,hk,s3,zX nv,λ l H3 x3 st=>?_⟩;obtain⟨ln,sl⟩:=st;have Rb:=Dz sl λ s hs=>(vs s hs).1.nl;have UY:=x3 _ _ Pk;have pt:=wY (v:=.ref l) (kx:=sv) UY (λ q hq=>(qf q hq).1) fn (eJ nv x3) (by rw [Ü];omega)
   have xu:Ext (nD H3) (nD (aj H3 a (fJ t.tp (bu qs p.1.1 (.ref l))))):=wR UY (we t.tp qs).2.1;have x4:=x3.nd.trans xu;refine⟨_,rfl,_,rfl,a,_,rfl,pt,bu qs p.1.1 (.ref l),_,_,rfl,?_,xe.trans x4,?_,be,?_,?_,?_,?_⟩
   ·rw [ad Ri.symm];exact x3 _ _ hf
   ·intro c o hc n;rw [ad (aT hc ha)];exact x3 _ _ (kp _ _ hc n)
   ·intro z hz;rcases oK hz with rfl | hz
    ·exact⟨l,rfl,Rb.ext xu⟩
    ·obtain⟨l',e',s'⟩:=sd z hz;exact⟨l',e',s'.ext x4⟩
   ·intro z hz;rcases oK hz with rfl | hz
    ·exact⟨fn,p,O1,rfl⟩
    ·exact qf z hz
   ·intro z hz;rw [L2.Ű _ e];rw [tk] at hz;rcases ß.mp hz with hz | hz
    ·obtain⟨x,hx,mx⟩:=qa z hz;have ne:z.1.1≠p.1.1:=λ y=>k2 _ mx y;rw [<- L2.Ű _ e,nQ,Ë ne];exact⟨x,hx,by rw [L2.Ű _ e];exact ĭ _ mx⟩
    ·rw [É.mp hz];rw [<- L2.Ű _ e,nQ,Ó rfl];exact⟨_,rfl,by rw [L2.Ű _ e];exact à _ (É.mpr rfl)⟩
   ·have:=cE qs p.1.1 (.ref l);omega
  ·rw [e];refine dj ⟨qs,_,_,rfl,hf,xe,kp,Pk,sd,qf,λ z hz=>?_,af⟩;rw [tk] at hz;rcases ß.mp hz with hz | hz
   ·exact qa z hz
   ·rw [É.mp hz];exact⟨x,e,k2⟩
 ·rintro σ H' ⟨qs,o4,o5,rfl,hf,xe,kp,Pk,sd,qf,qa,ql⟩;have le:cL (bA ps)=ps.length:=Ä _;rw [le,á] at qa;rw [le] at ql;exact⟨_,rfl,q a qs H' xe kp (.inr ⟨ob,hf⟩) ha Ri Pk sd qf qa ql⟩
end
end My
namespace My
open PySem L2
section
variable {prog:Program}{w:World}{elt t1 i1 t2 i2:Expr}{sc:Scope}{pos:Pos}
def Mh (prog:Program)(w:World)(i2 whole:Expr):uX:=λ A acc env v Q s=>wpAny (model prog w) A (eval i2 env) (λ x Nj=>wpAny (model prog w) A (pyIter x) (λ j Ni=>codeAny (model prog w) A (.compStart whole 1 j acc env) (λ r s'=>match r with | .ok _=>Q s' | .error _=>False) Ni) nE Nj) nE s
theorem KH (hs:∀ env v,foldedSetIterable i2 env v=pure v):pZ prog w (.ListComp elt [⟨t1,i1,[],0⟩,⟨t2,i2,[],0⟩] sc pos) t1 0 (uj prog w t1 (Mh prog w i2 (.ListComp elt [⟨t1,i1,[],0⟩,⟨t2,i2,[],0⟩] sc pos))):=by
 intro A it D env s Q Q0 E hq h;refine N0 ?_;rw [show compTurn (.ListComp elt [⟨t1,i1,[],0⟩,⟨t2,i2,[],0⟩] sc pos) 0 it (.ref D) env=(standAt i1.pos >>= λ _=>pyNext it >>= λ r=>match r with
   | none=>pure (.done .next)
   | some v=>letOwnedTupleGo t1 it v >>= λ _=>assign t1 env v >>= λ _ =>
    (eval i2 env >>= λ x=>standAt i2.pos >>= λ _=>foldedSetIterable i2 env x >>= λ x=>holding [x] (pyIter x) >>= λ j=>runOwn (.compStart (.ListComp elt [⟨t1,i1,[],0⟩,⟨t2,i2,[],0⟩] sc pos) 1 j (.ref D) env) env >>= λ _ =>
     again (.compLoop (.ListComp elt [⟨t1,i1,[],0⟩,⟨t2,i2,[],0⟩] sc pos) 0 it (.ref D) env))) by rfl]
 refine À (Ģ (À (iK h λ r ġ Ο=>?_)));cases r with
 | none=>exact Á Ο
 | some v =>
  refine À (iK Ο λ _ ς z_=>À (iK z_ λ _ MJ y_=>À (iK y_ λ x Nj NO=>À (Ģ ?_))));rw [hs];refine À (Á (À (ĕ (iK NO λ j Ni NN=>À (wpAny_runOwn (Β NN λ r s' hr=>?_))))));cases r with
  | ok f=>exact Á (hq _ hr)
  | error e=>exact hr.elim
theorem KL:pZ prog w (.ListComp elt [⟨t1,i1,[],0⟩,⟨t2,i2,[],0⟩] sc pos) t2 1 (uj prog w t2 (yW prog w elt)):=by
 intro A it D env s Q Q0 E hq h;refine N0 ?_;rw [show compTurn (.ListComp elt [⟨t1,i1,[],0⟩,⟨t2,i2,[],0⟩] sc pos) 1 it (.ref D) env=(standAt i2.pos >>= λ _=>pyNext it >>= λ r=>match r with
   | none=>pure (.done .next)
   | some v=>letOwnedTupleGo t2 it v >>= λ _=>assign t2 env v >>= λ _ =>
    (eval elt env >>= λ x=>call (.builtin "list.append") [.ref D,x] >>= λ _=>pure ()) >>= λ _ =>
     again (.compLoop (.ListComp elt [⟨t1,i1,[],0⟩,⟨t2,i2,[],0⟩] sc pos) 1 it (.ref D) env)) by rfl]
 refine À (Ģ (À (iK h λ r ġ Ο=>?_)));cases r with
 | none=>exact Á Ο
 | some v=>exact À (iK Ο λ _ ς z_=>À (iK z_ λ _ MJ y_=>À (À (iK y_ λ x Nj NO=>À (iK NO λ _ Ni NN=>Á (Á (hq _ NN)))))))
variable {A:Around}{R:Result->Shared->Prop}{s:Shared}{it acc:Value}{env:Env}
theorem gJ
  (h0:codeAny (model prog w) A (.compLoop (.ListComp elt [⟨t1,i1,[],0⟩,⟨t2,i2,[],0⟩] sc pos) 1 it acc env) R s)
  (h:wpAny (model prog w) A (pyIter it) (λ S3 s'=>codeAny (model prog w) A (.compLoop (.ListComp elt [⟨t1,i1,[],0⟩,⟨t2,i2,[],0⟩] sc pos) 1 S3 acc env) R s')
   (notedBy (model prog w) A env λ x s'=>R (.error x) s') s) :
  codeAny (model prog w) A (.compStart (.ListComp elt [⟨t1,i1,[],0⟩,⟨t2,i2,[],0⟩] sc pos) 1 it acc env) R s:=by
 refine codeAny_of_tree ?_;show wpAny _ _ ((compStart (.ListComp elt [⟨t1,i1,[],0⟩,⟨t2,i2,[],0⟩] sc pos) 1 it acc env).onRaise (λ x=>do noteFrame x env;standAt theWindowsPlace)) _ _ s
 refine wpAny_notedAt ?_;unfold compStart;refine À (wpAny_askSetting (wpAny_ite ?_));split
 ·exact À (Á (Á (And.intro rfl h0)))
 ·exact À (m_ (À (Ģ (À (Ń h (λ S3 s' h'=>Á (And.intro rfl h')) λ _ _ x=>x)))))
end
def Ah (wi:TI)(k:Nat)(js:List Nat)(g:TG)(RY:TI)(g2:TG)(te:TE):TE:=λ σ H Q=>wi σ H λ J H1=>∀ D,H1 D=none->∃ W:Nat->Nat->List V->Hp->Prop,(∃ m,W 0 m [] (aj H1 D (.lst []))) /\
 ∀ i m ys H2,W i m ys H2->(J.stop i H2/\Q (.ref D) H2)\/(J.go i H2 /\
  ∀ x H3,J.ο i H2 x H3->∀ os:St,os.length=k->g x (os++gu js σ) H3 λ Ĩ H0=>(∃ ı:St,ı.length=k/\Ĩ = ı ++ gu js σ)/\RY Ĩ H0 λ J2 H5=>∃ W2:Nat->Nat->List V->St->Hp->Prop,(∃ m2,W2 0 m2 ys Ĩ H5) /\
   ∀ i2 m2 Θ g_ H6,W2 i2 m2 Θ g_ H6->(J2.stop i2 H6/\(∃ ı:St,ı.length=k/\g_ = ı ++ gu js σ)/\∃ m',m'<m/\W (i+1) m' Θ H6)\/(J2.go i2 H6/\Θ.length<sizeLine /\
    ∀ y H7,J2.ο i2 H6 y H7->g2 y g_ H7 λ NX H8=>te NX H8 λ v H9=>H9 D=some (.lst Θ)/\∃ m',m'<m2/\W2 (i2+1) m' (Θ ++ [v]) NX (aj H9 D (.lst (Θ ++ [v])))))
section
variable {X:Cx}{sc:Scope}{cl:List (Str × Addr)}{o:Option Str}{ts zs:List Str}{js:List Nat}{elt iter Oh:Expr}{pos:Pos}{tg Tk:Expr}{g g2:TG}{wi RY:TI}{te:TE}
theorem zb (hc:X.calm=true)(S:fQ X sc cl o ts zs js)(hi:PI X tg iter wi)(hg:∀ s H C fp,PG (aH X sc cl o (ts++zs) s H C fp) tg g)(VM:∀ s H C fp,PI (aH X sc cl o (ts++zs) s H C fp) Tk Oh RY)(Xe:∀ s H C fp,PG (aH X sc cl o (ts++zs) s H C fp) Tk g2)(he:∀ s H C fp,PE (aH X sc cl o (ts++zs) s H C fp) elt te)
  (hs:∀ v,foldedSetIterable iter X.env v=pure v:=by intro _;rfl) (VH:∀ env v,foldedSetIterable Oh env v=pure v:=by intro _ _;rfl):PE X (.ListComp elt [⟨tg,iter,[],0⟩,⟨Tk,Oh,[],0⟩] sc pos) (Ah wi ts.length js g RY g2 te):=by
 refine r9 (λ Ã s σ H Q p use Qf I h NQ=>?_) (eval_ListComp ..);refine fF hc S hi hs I h (KH VH) rfl M8 t8 (λ J H1 D s3 Ha C fp hJ hD=>?_) NQ;obtain⟨W,⟨m,w0⟩,turn⟩:=hJ D hD;refine⟨λ i m H'=>∃ ys,W i m ys H',⟨m,[],w0⟩,λ i m H2 ⟨ys,w⟩=>?_⟩;refine(turn i m ys H2 w).imp_right λ ⟨go,step⟩=>⟨go,λ x H3 y os Ş Ã s u r I Q0 k=>?_⟩;refine bt (hg _ _ _ _ _ _ _ _ _ _ _ I r (step x H3 y os Ş)) λ _ s6 ⟨SU,H6,I6,_,R4⟩=>?_;refine bt (VM s3 Ha C fp _ _ _ _ _ I6 R4) λ uv s7 h7=>bt h7 λ jv s8 h8=>?_;obtain⟨it2,fp2,tn2,J2,H8,e8,I8,T2,X_,f8,W2,⟨m2,w2⟩,Tj⟩:=h8;subst e8;have Rq:codeAny (model X.prog X.w) X.A (.compLoop (.ListComp elt [⟨tg,iter,[],0⟩,⟨Tk,Oh,[],0⟩] sc pos) 1 (.ref it2) (.ref D) (aH X sc cl o (ts++zs) s3 Ha C fp).env) (λ r s'=>match r with | .ok _=>Q0 s' | .error _=>False) s8:=by
  refine km KL (λ n2 s'=>∃ i2 Θ g_ H',Inv (aH X sc cl o (ts++zs) s3 Ha C fp) Ã g_ H' s'/\tn2 i2 s'.heap/\(∀ b∈fp2,gY (aH X sc cl o (ts++zs) s3 Ha C fp) Ã H' b)/\W2 i2 n2 Θ g_ H') ?_ m2 ⟨0,ys,SU,H8,I8,X_,f8,w2⟩;rintro n2 s' ⟨i2,Θ,g_,H',Z1,X9,VX,wv⟩;rcases Tj i2 n2 Θ g_ H' wv with⟨Tu,⟨os3,WE,e3⟩,m',QN,w'⟩ | ⟨go2,ľ,Tv⟩
  ·refine bt (T2.done (aH X sc cl o (ts++zs) s3 Ha C fp) rfl rfl rfl hc i2 _ s' _ H' nE Z1 VX X9 Tu) λ r s4 ⟨hr,I4⟩=>?_;subst hr e3;exact k _ _ _ WE I4 ⟨m',QN,Θ,w'⟩
  ·refine bt (T2.item (aH X sc cl o (ts++zs) s3 Ha C fp) rfl rfl rfl hc i2 _ s' _ H' nE Z1 VX X9 go2) λ r s4 ⟨u,hr,h4⟩=>?_;subst hr;refine bt h4 λ _ sa ⟨y,Ha',Ia,ra,ya,Wm,fra⟩=>?_;have Ia':=Ia.pinned (λ b hb=>⟨fra b hb,(VX b hb).2⟩) (T2.obj _ _ Wm);refine bt (Xe _ _ _ _ _ _ _ _ _ _ _ Ia' ra (Tv y Ha' ya)) λ _ sb ⟨XU,Hb,Ib,stb⟩=>?_;refine qx (N:=λ zs H4=>∃ m',m'<n2/\W2 (i2+1) m' zs XU H4) (he s3 Ha C fp) rfl ľ Ib stb λ s' H' zs Id ⟨m',l,w⟩=>⟨m',l,i2+1,zs,XU,H',Id.ρ,T2.keep _ _ _ Wm λ b hb o e=>(Id.pin (b,o) (à _ (à _ (dA hb e)))).1,λ b hb=>?_,w⟩;obtain⟨o',e',_⟩:=T2.obj _ _ Wm b hb;exact⟨(Id.pin (b,o') (à _ (à _ (dA hb e')))).2.1,(VX b hb).2⟩
 exact gJ Rq (T2.self X.A 0 s8 (λ S3 s'=>codeAny (model X.prog X.w) X.A (.compLoop (.ListComp elt [⟨tg,iter,[],0⟩,⟨Tk,Oh,[],0⟩] sc pos) 1 S3 (.ref D) (aH X sc cl o (ts++zs) s3 Ha C fp).env) (λ r s'=>match r with | .ok _=>Q0 s' | .error _=>False) s') _ X_ Rq)
end
def Lv {κ:Type} [DecidableEq κ] (mk:List (κ × V)->HO)(kr:V->Hp->κ->Prop)(wi:TI)(k:Nat)(js:List Nat)(g:TG)(tk tv:TE):TE:=λ σ H Q=>wi σ H λ J H1=>∀ D,H1 D=none->∃ W:Nat->Nat->List (κ × V)->Hp->Prop,(∃ m,W 0 m [] (aj H1 D (mk []))) /\
 ∀ i m ys H2,W i m ys H2->H2 D=some (mk ys)/\((J.stop i H2/\Q (.ref D) H2)\/(J.go i H2/\ys.length<sizeLine /\
  ∀ x H3,J.ο i H2 x H3->∀ os:St,os.length=k->g x (os++gu js σ) H3 λ Ĩ H0=>(∃ ı:St,ı.length=k/\Ĩ = ı ++ gu js σ)/\tk Ĩ H0 λ y H4=>tv Ĩ H4 λ v H5=>∃ key,kr y H5 key/\H5 D=some (mk ys)/\∃ m',m'<m/\W (i+1) m' (bu ys key v) (aj H5 D (mk (bu ys key v)))))
section
variable {X:Cx}{sc:Scope}{cl:List (Str × Addr)}{o:Option Str}{ts zs:List Str}{js:List Nat}{kx vx iter:Expr}{pos:Pos}{tg:Expr}{g:TG}{wi:TI}{tk tv:TE}
theorem HZ {κ:Type} [DecidableEq κ] {mk:List (κ × V)->HO}{kr:V->Hp->κ->Prop}(WX:∀{X':Cx} {Ã σ H s a ï k y v u r}{Q:Shared->Prop},X'.A=X.A->Inv X' Ã σ H s->H a=some (mk ï)->kr y H k->ï.length<sizeLine->RelV y u->RelV v r->(∀ s',Inv X' Ã σ (aj H a (mk (bu ï k v))) s'->Q s')->wpAny (model X'.prog X'.w) X'.A (dictSet a u r) (λ _ s'=>Q s') nE s)
  (Xk:∀(s:Shared) H,η X.prog X.w H s.heap->sysModules<s.heap.objs.size->ă X.prog X.w (aj H s.heap.objs.size (mk [])) (s.heap.push { cls:=.type "dict",data:=.dict #[] }) s.heap.objs.size (mk [])) (hc:X.calm=true) (S:fQ X sc cl o ts zs js) (hi:PI X tg iter wi) (hg:∀ s H C fp,PG (aH X sc cl o (ts++zs) s H C fp) tg g) (hk:∀ s H C fp,PE (aH X sc cl o (ts++zs) s H C fp) kx tk) (hv:∀ s H C fp,PE (aH X sc cl o (ts++zs) s H C fp) vx tv)
  (hs:∀ v,foldedSetIterable iter X.env v=pure v):Fx X (.DictComp kx vx [⟨tg,iter,[],0⟩] sc pos) iter sc newDict (Lv mk kr wi ts.length js g tk tv):=by
 intro Ã s σ H Q p use Qf I h NQ;refine fF hc S hi hs I h KP rfl codeAny_compStart_dict (λ s2 H2 Q I k=>ã (k (I.laid (t':=s2.toks) (λ _ _ q=>Â _ q) (Æ _) (Xk s2 H2 I.Č I.big)))) (λ J H1 D s3 Ha C fp hJ hD=>?_) NQ;obtain⟨W,⟨m,w0⟩,turn⟩:=hJ D hD;refine⟨λ i m H'=>∃ ys,W i m ys H',⟨m,[],w0⟩,λ i m H2 ⟨ys,w⟩=>?_⟩;obtain⟨hD,alt⟩:=turn i m ys H2 w;refine alt.imp_right λ ⟨go,ľ,step⟩=>⟨go,λ x H3 y os Ş Ã s u r I Q0 k=>?_⟩;refine bt (hg _ _ _ _ _ _ _ _ _ _ _ I r (step x H3 y os Ş)) λ _ s6 ⟨SU,H6,I6,⟨ı,Of,e6⟩,R4⟩=>?_;subst e6;refine⟨D,rfl,bt (hk s3 Ha C fp _ _ _ _ _ I6 R4) λ ku s7 ⟨k7,H7,I7,Wq,st7⟩=>bt (hv s3 Ha C fp _ _ _ _ _ I7 st7) λ uv s8 ⟨v8,H8,I8,r8,key,kr8,hD8,m',QN,w8⟩=>?_⟩;exact WX (X':=aH X sc cl o (ts++zs) s3 Ha C fp) rfl I8 hD8 kr8 ľ Wq r8 λ s9 I9=>k _ _ _ Of I9 ⟨m',QN,_,w8⟩
end
section
variable {κ:Type} [DecidableEq κ] {mk:List (κ × V)->HO}{kr:V->Hp->κ->Prop}{tk tv:TE}{g:TG}{k n:Nat}{ų:St}{D:Addr}{H1:Hp}{Q:Hp->Prop}{J:It}
theorem G9 (Pv:Nat->List (κ × V)->Hp->Prop)(hz:n<sizeLine)(h0:Pv 0 [] (aj H1 D (mk [])))(hg:∀ i ys H,i<n->Pv i ys H->J.go i H)(Ny:∀ ys H,Pv n ys H->J.stop n H)
  (hs:∀(i:Nat) x ys H H3,i<n->J.ο i H x H3->ys.length<=i->H D=some (mk ys)->Pv i ys H->∀ os:St,os.length=k->∀ R:V->V->Hp->Prop,(∀ y key v H5,kr y H5 key->H5 D=some (mk ys)->Pv (i+1) (bu ys key v) (aj H5 D (mk (bu ys key v)))->R y v H5) ->
   g x (os ++ ų) H3 λ Ĩ H0=>(∃ ı:St,ı.length=k/\Ĩ = ı ++ ų)/\tk Ĩ H0 λ y H4=>tv Ĩ H4 λ v H5=>R y v H5)
  (hd:∀ ys H,H D=some (mk ys)->Pv n ys H->Q H) :
  ∃ W:Nat->Nat->List (κ × V)->Hp->Prop,(∃ m,W 0 m [] (aj H1 D (mk []))) /\
   ∀ i m ys H2,W i m ys H2->H2 D=some (mk ys)/\((J.stop i H2/\Q H2)\/(J.go i H2/\ys.length<sizeLine /\
    ∀ x H3,J.ο i H2 x H3->∀ os:St,os.length=k->g x (os ++ ų) H3 λ Ĩ H0=>(∃ ı:St,ı.length=k/\Ĩ = ı ++ ų)/\tk Ĩ H0 λ y H4=>tv Ĩ H4 λ v H5=>∃ key,kr y H5 key/\H5 D=some (mk ys)/\∃ m',m'<m/\W (i+1) m' (bu ys key v) (aj H5 D (mk (bu ys key v))))):=by
 refine⟨λ i m ys H=>m=n-i/\i<=n/\ys.length<=i/\H D=some (mk ys)/\Pv i ys H,⟨n,by simp,Nat.zero_le _,Nat.le_refl _,be,h0⟩,?_⟩
 rintro i m ys H ⟨rfl,hi,hy,k_,p⟩;refine⟨k_,?_⟩;by_cases ř:i<n
 ·refine .inr ⟨hg i ys H ř p,af,λ x H' y os Ş=>?_⟩;refine hs i x ys H H' ř y hy k_ p os Ş _ λ y key v H5 hk VT p5=>⟨key,hk,VT,n-(i+1),af,rfl,ř,?_,be,p5⟩;have:=cE ys key v;omega
 ·have e:i=n:=af;subst e;exact .inl ⟨Ny ys H p,hd ys H k_ p⟩
end
end My
namespace My
open PySem PySem.W L2
section
variable {X:Cx}{Ã:List (Addr × Obj)}{σ:St}{H:Hp}{s:Shared}
theorem rj (hu:A.units+1<cLine)(I:Inv X Ã σ H s)(e:H a=some (.dT ï))(eb:OG H k b)(l:ï.length<sizeLine)(rv:RelV v r)
  (h:∀ s',Inv X Ã σ (aj H a (.dT (bu ï k v))) s'->Q () s'):wpAny (model X.prog X.w) A (dictSet a (.ref b) r) Q E s:=by
 obtain⟨z,hd,xs,rel,dd⟩:=zU I.Č e;have hz:xs.length<=sizeLine:=by rw [<- Ś rel];exact z
 have hl:(bu ï k v).length<=sizeLine:=by have:=cE ï k v;omega
 refine wpAny_dictSet_heap (show A.units+1<cLine by omega) (iJ I.Č eb) dd λ h' QV hs=>h _ ?_
 obtain⟨q,es,ep,hq,h2,h3,h4,_,h5⟩:=QV;refine gI I (by rw [e];exact True.intro) hs ⟨q,hq⟩ ⟨hl,hd,_,(rel.put k eb rv).keeps λ c ys ec=>?_,q,es,ep,hq,h2,h3,h4,h5⟩
 rw [ad (zB ec e (λ z=>nomatch z))];exact ec
end
def qi (tk tv:TE):TE:=λ σ H Q=>∀ p,H p=none->mq [(tk,tv)] σ (aj H p (.dT [])) λ ps H2=>∃ b ks y,ps=[(.ref b,y)]/\OG H2 ks b/\H2 p=some (.dT [])/\Q (.ref p) (aj H2 p (.dT [(ks,y)]))
theorem wZ (hu:X.A.units+64<cLine)(hk:PE X k tk)(hv:PE X v tv):PE X (.Dict [some k] [v] pos) (qi tk tv):=by
 intro Ã s σ H Q I q;have hn:=I.Č.fresh (Æ s.heap.objs.size);have I1:=I.laid (t':=s.toks) (λ _ _ q=>Â _ q) (Æ _) (jO s.heap I.big);refine wpAny_Dict_any rfl rfl (by simp) (by show 1<=15;decide) (bt ((eX hk hv lQ) Ã _ σ _ _ I1 (q _ hn)) λ ws s2 ⟨ps,H2,I2,rel,b,ks,y,e1,eb,e,q2⟩=>?_)
 subst e1;cases rel with
 | @cons _ u _ _ r t =>
  cases t;obtain⟨u1,u2⟩:=u;obtain⟨r1,r2⟩:=r;cases (show u1=.ref b from r1);refine À ?_;refine À (rj af I2 e eb ax r2 λ s' I'=>Á (Á ⟨.ref s.heap.objs.size,_,I',rfl,q2⟩))
section
variable {te:TE}{tt:TT}{g:TG}{k n:Nat}{ų:St}{D:Addr}{H1:Hp}{Q:Hp->Prop}{J:It}
theorem xP (Pv:Nat->List V->Hp->Prop)(hz:n<sizeLine)(h0:Pv 0 [] (aj H1 D (.lst [])))(hg:∀ i ys H,i<n->Pv i ys H->J.go i H)(Ny:∀ ys H,Pv n ys H->J.stop n H)
  (hs:∀(i:Nat) x ys H H3,i<n->J.ο i H x H3->ys.length<=i->H D=some (.lst ys)->Pv i ys H->∀ os:St,os.length=k->∀ N:List V->Hp->Prop,(∀ M5 H',Pv (i+1) M5 H'->M5.length<=i+1->H' D=some (.lst M5)->N M5 H') ->
   g x (os ++ ų) H3 λ Ĩ H0=>(∃ ı:St,ı.length=k/\Ĩ = ı ++ ų)/\tt Ĩ H0 λ b H5=>(b=false->N ys H5)/\(b=true->te Ĩ H5 λ y H4=>H4 D=some (.lst ys)/\N (ys ++ [y]) (aj H4 D (.lst (ys ++ [y])))))
  (hd:∀ ys H,ys.length<=n->H D=some (.lst ys)->Pv n ys H->Q H) :
  ∃ W:Nat->Nat->List V->Hp->Prop,(∃ m,W 0 m [] (aj H1 D (.lst []))) /\
   ∀ i m ys H2,W i m ys H2->H2 D=some (.lst ys)/\((J.stop i H2/\Q H2)\/(J.go i H2/\ys.length<sizeLine /\
    ∀ x H3,J.ο i H2 x H3->∀ os:St,os.length=k->g x (os ++ ų) H3 λ Ĩ H0=>(∃ ı:St,ı.length=k/\Ĩ = ı ++ ų)/\tt Ĩ H0 λ b H5=>(b=false->∃ m',m'<m/\W (i+1) m' ys H5) /\
     (b=true->te Ĩ H5 λ y H4=>H4 D=some (.lst ys)/\∃ m',m'<m/\W (i+1) m' (ys ++ [y]) (aj H4 D (.lst (ys ++ [y])))))):=by
 refine⟨λ i m ys H=>m=n-i/\i<=n/\ys.length<=i/\H D=some (.lst ys)/\Pv i ys H,⟨n,by simp,Nat.zero_le _,Nat.le_refl _,be,h0⟩,?_⟩
 rintro i m ys H ⟨rfl,hi,hy,k_,p⟩;refine⟨k_,?_⟩;by_cases ř:i<n
 ·refine .inr ⟨hg i ys H ř p,af,λ x H' y os Ş=>?_⟩;exact hs i x ys H H' ř y hy k_ p os Ş (λ M5 Tb=>∃ m',m'<n-i/\(m'=n-(i+1)/\i+1<=n/\M5.length<=i+1/\Tb D=some (.lst M5)/\Pv (i+1) M5 Tb)) λ M5 Tb p' l' d'=>⟨n-(i+1),af,rfl,ř,l',d',p'⟩
 ·have e:i=n:=af;subst e;exact .inl ⟨Ny ys H p,hd ys H hy k_ p⟩
theorem AF (Pv:Nat->List V->Hp->Prop)(hz:n<sizeLine)(h0:Pv 0 [] (aj H1 D (.lst [])))(hg:∀ i ys H,i<n->Pv i ys H->J.go i H)(Ny:∀ ys H,Pv n ys H->J.stop n H)
  (hs:∀(i:Nat) x ys H H3,i<n->J.ο i H x H3->ys.length=i->H D=some (.lst ys)->Pv i ys H->∀ os:St,os.length=k->∀ R:VK,(∀ y H4,H4 D=some (.lst ys)->Pv (i+1) (ys ++ [y]) (aj H4 D (.lst (ys ++ [y])))->R y H4)->g x (os ++ ų) H3 λ Ĩ H0=>(∃ ı:St,ı.length=k/\Ĩ = ı ++ ų)/\te Ĩ H0 R)
  (hd:∀ ys H,ys.length=n->H D=some (.lst ys)->Pv n ys H->Q H) :
  ∃ W:Nat->Nat->List V->Hp->Prop,(∃ m,W 0 m [] (aj H1 D (.lst []))) /\
   ∀ i m ys H2,W i m ys H2->H2 D=some (.lst ys)/\((J.stop i H2/\Q H2)\/(J.go i H2/\ys.length<sizeLine /\
    ∀ x H3,J.ο i H2 x H3->∀ os:St,os.length=k->g x (os ++ ų) H3 λ Ĩ H0=>(∃ ı:St,ı.length=k/\Ĩ = ı ++ ų)/\te Ĩ H0 λ y H4=>H4 D=some (.lst ys)/\∃ m',m'<m/\W (i+1) m' (ys ++ [y]) (aj H4 D (.lst (ys ++ [y]))))):=by
 refine⟨λ i m ys H=>m=n-i/\i<=n/\ys.length=i/\H D=some (.lst ys)/\Pv i ys H,⟨n,by simp,Nat.zero_le _,rfl,be,h0⟩,?_⟩
 rintro i m ys H ⟨rfl,hi,hy,k_,p⟩;refine⟨k_,?_⟩;by_cases ř:i<n
 ·refine .inr ⟨hg i ys H ř p,af,λ x H' y os Ş=>?_⟩;exact hs i x ys H H' ř y hy k_ p os Ş _ λ z H4 UZ p4=>⟨UZ,n-(i+1),af,rfl,ř,by rw [Õ,hy];rfl,be,p4⟩
 ·have e:i=n:=af;subst e;exact .inl ⟨Ny ys H p,hd ys H hy k_ p⟩
end
section
variable {te:TE}{g g2:TG}{RY:TI}{k n n2:Nat}{ų:St}{D:Addr}{H1:Hp}{Q:Hp->Prop}{J J2:It}
theorem xQ (Pv:Nat->List V->Hp->Prop)(h0:Pv 0 [] (aj H1 D (.lst [])))(hg:∀ i ys H,i<n->Pv i ys H->J.go i H)(Ny:∀ ys H,Pv n ys H->J.stop n H)
  (hs:∀(i:Nat) x ys H H3,i<n->J.ο i H x H3->Pv i ys H->∀ os:St,os.length=k->∀ N:List V->Hp->Prop,(∀ M5 H',Pv (i+1) M5 H'->N M5 H') ->
   g x (os ++ ų) H3 λ Ĩ H0=>(∃ ı:St,ı.length=k/\Ĩ = ı ++ ų)/\RY Ĩ H0 λ J2 H5=>∃ W2:Nat->Nat->List V->St->Hp->Prop,(∃ m2,W2 0 m2 ys Ĩ H5) /\
    ∀ i2 m2 Θ g_ H6,W2 i2 m2 Θ g_ H6->(J2.stop i2 H6/\(∃ ı:St,ı.length=k/\g_ = ı ++ ų)/\N Θ H6)\/(J2.go i2 H6/\Θ.length<sizeLine /\
     ∀ y H7,J2.ο i2 H6 y H7->g2 y g_ H7 λ NX H8=>te NX H8 λ v H9=>H9 D=some (.lst Θ)/\∃ m',m'<m2/\W2 (i2+1) m' (Θ ++ [v]) NX (aj H9 D (.lst (Θ ++ [v])))))
  (hd:∀ ys H,Pv n ys H->Q H) :
  ∃ W:Nat->Nat->List V->Hp->Prop,(∃ m,W 0 m [] (aj H1 D (.lst []))) /\
   ∀ i m ys H2,W i m ys H2->(J.stop i H2/\Q H2)\/(J.go i H2 /\
    ∀ x H3,J.ο i H2 x H3->∀ os:St,os.length=k->g x (os ++ ų) H3 λ Ĩ H0=>(∃ ı:St,ı.length=k/\Ĩ = ı ++ ų)/\RY Ĩ H0 λ J2 H5=>∃ W2:Nat->Nat->List V->St->Hp->Prop,(∃ m2,W2 0 m2 ys Ĩ H5) /\
     ∀ i2 m2 Θ g_ H6,W2 i2 m2 Θ g_ H6->(J2.stop i2 H6/\(∃ ı:St,ı.length=k/\g_ = ı ++ ų)/\∃ m',m'<m/\W (i+1) m' Θ H6)\/(J2.go i2 H6/\Θ.length<sizeLine /\
      ∀ y H7,J2.ο i2 H6 y H7->g2 y g_ H7 λ NX H8=>te NX H8 λ v H9=>H9 D=some (.lst Θ)/\∃ m',m'<m2/\W2 (i2+1) m' (Θ ++ [v]) NX (aj H9 D (.lst (Θ ++ [v]))))):=by
 refine⟨λ i m ys H=>m=n-i/\i<=n/\Pv i ys H,⟨n,by simp,Nat.zero_le _,h0⟩,?_⟩
 rintro i m ys H ⟨rfl,hi,p⟩;by_cases ř:i<n
 ·refine .inr ⟨hg i ys H ř p,λ x H' y os Ş=>?_⟩;exact hs i x ys H H' ř y p os Ş (λ M5 Tb=>∃ m',m'<n-i/\(m'=n-(i+1)/\i+1<=n/\Pv (i+1) M5 Tb)) λ M5 Tb p'=>⟨n-(i+1),af,rfl,ř,p'⟩
 ·have e:i=n:=af;subst e;exact .inl ⟨Ny ys H p,hd ys H p⟩
theorem yo {N:List V->Hp->Prop}(Pv:Nat->List V->St->Hp->Prop)(h0:Pv 0 ys Ĩ H5)(hg:∀ i ys σ H,i<n2->Pv i ys σ H->J2.go i H/\ys.length<sizeLine)(Ny:∀ ys σ H,Pv n2 ys σ H->J2.stop n2 H)
  (hs:∀(i:Nat) y ys σ H H7,i<n2->J2.ο i H y H7->Pv i ys σ H->∀ R:St->V->Hp->Prop,(∀ v NX H9,H9 D=some (.lst ys)->Pv (i+1) (ys ++ [v]) NX (aj H9 D (.lst (ys ++ [v])))->R NX v H9)->g2 y σ H7 λ NX H8=>te NX H8 λ v H9=>R NX v H9)
  (hd:∀ ys σ H,Pv n2 ys σ H->(∃ ı:St,ı.length=k/\σ = ı ++ ų)/\N ys H) :
  ∃ W2:Nat->Nat->List V->St->Hp->Prop,(∃ m2,W2 0 m2 ys Ĩ H5) /\
   ∀ i2 m2 Θ g_ H6,W2 i2 m2 Θ g_ H6->(J2.stop i2 H6/\(∃ ı:St,ı.length=k/\g_ = ı ++ ų)/\N Θ H6)\/(J2.go i2 H6/\Θ.length<sizeLine /\
    ∀ y H7,J2.ο i2 H6 y H7->g2 y g_ H7 λ NX H8=>te NX H8 λ v H9=>H9 D=some (.lst Θ)/\∃ m',m'<m2/\W2 (i2+1) m' (Θ ++ [v]) NX (aj H9 D (.lst (Θ ++ [v])))):=by
 refine⟨λ i m ys σ H=>m=n2-i/\i<=n2/\Pv i ys σ H,⟨n2,by simp,Nat.zero_le _,h0⟩,?_⟩
 rintro i m ys σ H ⟨rfl,hi,p⟩;by_cases ř:i<n2
 ·obtain⟨h1,h2⟩:=hg i ys σ H ř p;refine .inr ⟨h1,h2,λ y H' yl=>?_⟩;exact hs i y ys σ H H' ř yl p _ λ v NX H9 e p'=>⟨e,n2-(i+1),af,rfl,ř,p'⟩
 ·have e:i=n2:=af;subst e;exact .inl ⟨Ny ys σ H p,hd ys σ H p⟩
end
theorem rM {H:Hp}{D:Addr}{u o:HO}(e:H D=some u)(n:Ji u=false):oq H (aj H D o):=λ b v h t=>by
 rw [ad (λ z=>by rw [z,e] at h;cases h;rw [n] at t;cases t)]
 exact h
theorem RD.Ć {K:Frag}{H H':Hp}{v:V}{t b:Nat}(h:RD K H v t b)(x:oq H H'):RD K H' v t b:=by
 obtain⟨z,e2,hz⟩:=h;refine⟨z,e2,?_⟩;rcases hz with(h | ⟨o,h⟩) | h
 ·exact .inl (.inl (x _ _ h rfl))
 ·exact .inl (.inr ⟨o,x _ _ h rfl⟩)
 ·exact .inr h
theorem RF.Ć {K:Frag}{H H':Hp}{xs:List V}{bs:List Nat}(h:RF K H xs bs)(x:oq H H'):RF K H' xs bs:=Paired.Pd h λ v b ⟨z,t,q⟩=>⟨z,t,q.Ć x⟩
theorem xZ {H:Hp}{tp:Bool}{qs:List (NK × V)}{i:Nat}{kx v:V}(h:j7 H (fJ tp qs) i kx v):∃ q,qs[i]?=some q/\v=q.2:=by
 cases tp with
 | true =>
  rcases h with⟨l,k,e,_⟩ | ⟨l,k,b,e,hk,_⟩
  ·cases e
  ·cases e;rw [Ô] at hk;obtain⟨p,hp,e2⟩:=å.mp hk;exact⟨p,hp,(ą Prod.snd e2).symm⟩
 | false =>
  rcases h with⟨l,k,e,hk,_⟩ | ⟨l,k,b,e,_⟩
  ·cases e;rw [Ô] at hk;obtain⟨p,hp,e2⟩:=å.mp hk;exact⟨p,hp,(ą Prod.snd e2).symm⟩
  ·cases e
section
variable {P:Program}{w:World}{K:Frag}{mg:cr}{base:Heap}
abbrev FB:Scope:=gr [("ways",.local),("hand",.local),("share",.local),("behind",.local)]
theorem C5 {X:Cx}:cV X FB [] ["ways","hand","share","behind"] [] []:=eF (L:=[(".0",.local),("ways",.local),("hand",.local),("share",.local),("behind",.local)]) rfl rfl aC aC aC rfl aC aC
theorem zh:((["ways","hand","share","behind"]:List Str)++([]:List Str)).Nodup:=aC
def Dp (K:Frag)(i:Nat):TE:=Ah (Hd (ae i)) 4 [] (aN 0) (fc K (ae 0)) (dL K 3 (aL (aN 1) (aL (aN 2) (aL (aN 3) dP)))) (ae 2)
theorem AU {t:Rl}{k i0:Nat}{σ:St}{H:Hp}{R:VK}{a:Addr}{qs:List (NK × V)}(si:σ[i0]?=some (some (.ref a)))(ha:Rd H a (fJ t.tp qs))(sd:SO K (nD H) t k qs)(gd:∀ q∈qs,∀ s∈t.steps (eC q.1) (k:Nat),1<=s.b)(l5:qs.length<=5000)
  (q:∀ D xs bs H',Ext (nD H) (nD H')->Kept H H' a->Rd H' a (fJ t.tp qs)->H D=none->H' D=some (.lst xs)->RF K H' xs bs->(∀ q∈qs,∀ s∈t.steps (eC q.1) (k:Nat),s.b∈bs)->(∀ b∈bs,∃ q∈qs,∃ s∈t.steps (eC q.1) (k:Nat),s.b=b)->R (.ref D) H'):Dp K i0 σ H R:=by
 obtain⟨dc,_,ln⟩:=we t.tp qs;refine⟨_,si,a,fJ t.tp qs,rfl,dc,ha,λ ob H1 fz D hD=>?_⟩;have x1:=uE dc ha fz;have VS:H D=none:=by
  by_cases e:D=a
  ·rw [e,fz.1] at hD;cases hD
  ·rw [<- fz.2 D e];exact hD
 have Yt:D≠a:=λ e=>by rw [e,fz.1] at hD;cases hD
 have WG:Kept H H1 a:=λ b o e n=>by rw [fz.2 b n];exact e
 have up:∀{H2:Hp}{u:HO},Ext (nD H) (nD H2)->Ext (nD H) (nD (aj H2 D u)):=λ x=>Bp x (se VS);have ku:∀{H2:Hp}{u:HO},Kept H H2 a->Kept H (aj H2 D u) a:=λ x b o e n=>by rw [ad (aT e VS)];exact x b o e n
 refine xQ (n:=qs.length) (λ i ys H'=>H' a=some (.Ŭ ob (fJ t.tp qs))/\H' D=some (.lst ys)/\Ext (nD H) (nD H')/\Kept H H' a/\∃ bs:List Nat,RF K H' ys bs/\bs.length<=2*i/\(∀ q∈qs.take i,∀ s∈t.steps (eC q.1) (k:Nat),s.b∈bs)/\∀ b∈bs,∃ q∈qs,∃ s∈t.steps (eC q.1) (k:Nat),s.b=b)
  ⟨by rw [ad Yt.symm];exact fz.1,be,up x1,ku WG,[],.nil,Æ _,(λ q h=>by simp at h),(λ b h=>nomatch h)⟩ (λ i ys H' hi pv=>⟨pv.1,by rw [ln];exact hi⟩) (λ ys H' pv=>⟨pv.1,by rw [ln];exact Æ _⟩) ?_ ?_
 ·rintro i x ys H' H3 hi ⟨rfl,kx,pr⟩ ⟨hf,ś,xe,kp,bs,ba,bl,b1,b2⟩ os Ş N kN;obtain⟨p,hp,rfl⟩:=xZ pr;have O1:=Ì hp;obtain⟨l,el,sl⟩:=sd p O1;obtain⟨ps,hl,al⟩:=sl.ext xe;obtain⟨o0,o1,o2,o3,rfl⟩:∃ o0 o1 o2 o3,os=[o0,o1,o2,o3]:=by
   match os,Ş with
   | [o0,o1,o2,o3],_=>exact⟨o0,o1,o2,o3,rfl⟩
  have Nm:=eW _ _ _ hl;have nlD:l≠D:=λ e=>by
   obtain⟨_,h0,_⟩:=sl;rw [e] at h0;rw [se VS] at h0;cases h0
  refine⟨⟨[some p.2,o1,o2,o3],rfl,rfl⟩,_,rfl,l,el,⟨_,Ċ.of Nm⟩,?_⟩;have len:=al.len;have sl2:=Rl.İ t (eC p.1) (k:Nat);refine yo (n2:=ps.length) (λ j Θ Ĩ H2=>H2 l=some (.lst ps)/\H2 a=some (.Ŭ ob (fJ t.tp qs))/\H2 D=some (.lst Θ)/\Ext (nD H) (nD H2)/\Kept H H2 a/\(∃ o1 o2 o3,Ĩ=[some p.2,o1,o2,o3])/\RF K H2 Θ (bs++((t.steps (eC p.1) (k:Nat)).take j).map (·.b))) ?_ ?_ ?_ ?_ ?_
  ·refine⟨Nm,hf,ś,xe,kp,⟨o1,o2,o3,rfl⟩,?_⟩
   simpa using ba
  ·rintro j Θ Ĩ H2 hj ⟨h1,h2,h3,h4,h5,h6,h7⟩;have:=Ś h7;rw [Õ,Ä,ò] at this;exact⟨⟨ps,_,Ċ.of h1,Å hj⟩,by rw [this,Ü];omega⟩
  ·rintro Θ Ĩ H2 ⟨h1,_⟩;exact⟨ps,Ċ.of h1,Æ _⟩
  ·rintro j y Θ Ĩ H2 H7 hj ⟨rfl,yl⟩ ⟨h1,h2,h3,h4,h5,⟨p1,p2,p3,rfl⟩,h7⟩ R kR;have ey:=yl ps (Ċ.of h1);have U7:h_ K (nD H7) ps (t.steps (eC p.1) (k:Nat)):=by
    obtain⟨SY,NP,U7⟩:=sl.ext h4;rw [(ju NP).1] at h1;cases h1;exact U7
   obtain⟨s,es,z,sv,nv,rfl,hz,hs,hn⟩:=U7.get ey;refine⟨z,_,rfl,Ė.of (eW _ _ _ hz),rfl,_,_,rfl,_,_,rfl,_,_,rfl,rfl,_,rfl,?_⟩;have kd:=rM (o:=.lst (Θ ++ [sv])) h3 rfl;refine kR sv _ H7 h3 ⟨by rw [ad nlD];exact h1,by rw [ad Yt.symm];exact h2,be,up h4,ku h5,⟨_,_,_,rfl⟩,?_⟩
   rw [aM es,Ð,<- N6];have WW:=Ì es;exact Paired.snoc (RF.Ć h7 kd) ⟨gd p O1 s WW,s.t,(hs.ext (eW _)).Ć kd⟩
  ·rintro Θ Ĩ H2 ⟨h1,h2,h3,h4,h5,⟨p1,p2,p3,rfl⟩,h7⟩;refine⟨⟨[some p.2,p1,p2,p3],rfl,rfl⟩,kN _ _ ⟨h2,h3,h4,h5,_,h7,?_,?_,?_⟩⟩
   ·rw [Õ,Ä,ò];omega
   ·intro q hq s hs;rw [aM hp] at hq;rcases ß.mp hq with hq | hq
    ·exact ĭ _ (b1 q hq s hs)
    ·rw [É.mp hq] at hs;refine à _ ?_;rw [len,á];exact ĩ hs
   ·intro b hb;rcases ß.mp hb with hb | hb
    ·exact b2 b hb
    ·obtain⟨s,hs,rfl⟩:=æ.mp hb;exact⟨p,O1,s,ģ hs,rfl⟩
 ·rintro ys H' ⟨hf,ś,xe,kp,bs,ba,bl,b1,b2⟩;rw [á] at b1;exact q D ys bs H' xe kp (.inr ⟨ob,hf⟩) VS ś ba b1 b2
end
theorem uk:∀(ps:Tw)(k:TK),(bP (ps.map λ p=>(p.1,V.int (p.2:Nat))) k=none/\jV ps k=0)\/bP (ps.map λ p=>(p.1,V.int (p.2:Nat))) k=some (.int (jV ps k:Nat))
 | [],k=>.inl ⟨rfl,rfl⟩
 | p::ps,k=>by
  rw [Ú];unfold jV;by_cases e:p.1=k
  ·right;rw [bC (p:=(p.1,V.int (p.2:Nat))) e,Ó e]
  ·rw [bD (p:=(p.1,V.int (p.2:Nat))) e,Ë e];exact uk ps k
theorem wq:∀{ps:Tw}{k:TK}{c:Nat},(ps.map (·.1)).Nodup->bu (ps.map λ p=>(p.1,V.int (p.2:Nat))) k (.int (jV ps k+c:Nat))=(c8 ps k c).map λ p=>(p.1,V.int (p.2:Nat))
 | [],k,c,_=>by simp [jV,c8,bu]
 | p::ps,k,c,nd=>by
  rw [Ú,Ğ] at nd;rw [Ú];unfold jV c8;by_cases e:p.1=k
  ·rw [Ó e,Ó e,Ú];unfold bu;rw [Ţ,Ç e,Bool.true_or,Ó rfl,Ú,Ó e]
   congr 1
   refine(Nb λ q hq=>?_).trans (List.map_id _);obtain⟨q',Pg,rfl⟩:=æ.mp hq;rw [Ë (λ z=>nd.1 (æ.mpr ⟨q',Pg,by rw [e];exact z⟩))]
   rfl
  ·rw [Ë e,Ë e,Ú,<- wq nd.2];unfold bu;rw [Ţ,Ò e,Bool.false_or];split
   ·rw [Ú,Ë e]
   ·rfl
theorem lZ (ps:Tw):bA ps=.dT ((ps.map λ p=>(p.1,V.int (p.2:Nat))).map λ p=>([p.1.1,NK.k (.inl p.1.2)],p.2)):=by
 unfold bA;rw [δ];rfl
theorem qt (ps:Tw):kA (bA ps)/\pY (bA ps)=true/\cL (bA ps)=ps.length:=⟨True.intro,rfl,Ä _⟩
section
variable {H:Hp}{a b:Addr}{ps:Tw}{q:TK}{sv:V}
theorem kO (hb:H b=some (.tup [sv,.int q.2]))(nv:NV H q.1 sv):OG H [q.1,.k (.inl q.2)] b:=⟨_,hb,.cons nv (.cons rfl .nil)⟩
theorem v6 (hu:Rd H a (bA ps))(hb:H b=some (.tup [sv,.int q.2]))(nv:NV H q.1 sv):∃ o,B_ H a (.ref b) o/\o.getD (.int 0)=.int (jV ps q:Nat)/\o=bP (ps.map λ p=>(p.1,V.int (p.2:Nat))) q:=by
 have e:bP ((ps.map λ p=>(p.1,V.int (p.2:Nat))).map λ p=>([p.1.1,NK.k (.inl p.1.2)],p.2)) [q.1,NK.k (.inl q.2)]=_:=f6 ix True.intro (n:=q) λ _ _=>True.intro;refine⟨_,.inr ⟨_,_,b,(by rw [<- lZ];exact hu),rfl,kO hb nv,rfl⟩,?_,e⟩
 rw [e];rcases uk ps q with⟨h,z⟩ | h
 ·rw [h,z];rfl
 ·rw [h];rfl
theorem wX {c:Nat}(hu:H a=some (bA ps))(nd:(ps.map (·.1)).Nodup)(hb:H b=some (.tup [sv,.int q.2]))(nv:NV H q.1 sv)(lt:ps.length<sizeLine):su H a (.ref b) (.int (jV ps q+c:Nat)) (aj H a (bA (c8 ps q c))):=by
 refine .inr ⟨_,_,b,(by rw [<- lZ];exact hu),rfl,kO hb nv,by rw [Ä,Ä];exact lt,?_⟩
 rw [gw (g:=λ q:TK=>[q.1,NK.k (.inl q.2)]) ix True.intro (n:=q) λ _ _=>True.intro,wq nd,<- lZ]
end
section
variable {P:Program}{w:World}{K:Frag}{mg:cr}{base:Heap}{C:Nat->Addr}{f a1 a2 a3:Addr}{fd d1 d2 d3:FuncData}
abbrev xh:Stmt:=cP 47
abbrev JD:List Str:=["rule","at","score","layer","bottom","tops","steps","hand","share","behind","finer","behind_tops","state","total","top","key"]
theorem R7:ai JD ["rule","at","score","layer"] (aa xh):=bc
def cI (K:Frag)(i:Nat)(k:Int):TE:=bV (nJ K) (ae i) (tC (.int k))
def xf (a b:TE):TE:=bV (rI Pn λ i j=>.int (i*j)) a b
def DJ (a b:TE):TE:=bV (gK λ i j=>.int (i+j)) a b
def LI:TS:=bY (cz (ao (ae 9) (ao (DJ (ae 13) (bV (rI NW λ i j=>.int (i*j)) (ae 7) (ae 2))) aF))) (aN 15)
def KC (K:Frag):TE:=DJ (qC (ae 11) (ae 15) (tC (.int 0))) (xf (xf (ae 14) (cI K 8 0)) (bV (rI mv λ i j=>.int (i/j)) (ae 10) (cI K 8 1)))
def FQ (K:Frag):TS:=lG (ae 11) (ae 15) (KC K)
def LO (K:Frag):TG:=dL K 3 (aL (aN 7) (aL (aN 8) (aL (aN 9) dP)))
def GO (K:Frag):TS:=fj (fc K (oG (ae 6) (ae 12))) (LO K) (aA LI (FQ K))
abbrev Sn (v y:V)(k:Nat)(c:Int)(D:Nat)(d a:Addr)(o7 o8 o9:Option V)(F:Nat)(e:Addr)(Ud Uc Ub OT:Option V):St:=[some v,some (.int (k:Nat)),some (.int c),some y,some (.int (D:Nat)),some (.ref d),some (.ref a),o7,o8,o9,some (.int (F:Nat)),some (.ref e),Ud,Uc,Ub,OT]
theorem wL {i:Nat}{σ:St}{H:Hp}{a:Addr}{xs:List V}{v:V}{Q:VK}(k:Nat)(si:σ[i]?=some (some (.ref a)))(ha:Ė K H a xs)(hk:xs[k]?=some v)(q:Q v H):cI K i (k:Nat) σ H Q:=⟨_,si,a,_,_,_,rfl,rfl,ha,jU hk,q⟩
theorem CW {De:dq}{H:Hp}{v y:V}{t:Rl}{k D F N:Nat}{c tot:Int}{d a e:Addr}{o7 o8 o9 OT:Option V}{sv:V}{n:NK}{qs:List (NK × V)}{acc:Tw}
  (ha:Rd H a (fJ t.tp qs)) (qf:∀ q∈qs,iW t.tp q.1) (fn:iW t.tp n) (nv:NV H n sv) (sd:SO K (nD H) t k qs) (hm:∃ x,bP qs n=some x/\(n,x)∈qs) (gd:∀ s∈t.steps (eC n) (k:Nat),s.good/\hG t.tp s.next=true/\s.b ∣ F) (F1:1<=F) (QZ:F<=100) (ZZ:N<=10^40)
  (he:H e=some (bA acc)) (nd:(acc.map (·.1)).Nodup) (la:acc.length<=10000) (SZ:e≠a)
  (q:∀ H' o7 o8 o9 OT,Ext (nD H) (nD H')->Kept H H' e->H' e=some (bA (iT (t.steps (eC n) (k:Nat)) F N tot c acc))->De.nx (Sn v y k c D d a o7 o8 o9 F e (some sv) (some (.int tot)) (some (.int (N:Nat))) OT) H') :
  GO K De (Sn v y k c D d a o7 o8 o9 F e (some sv) (some (.int tot)) (some (.int (N:Nat))) OT) H:=by
 obtain⟨x,hx,mx⟩:=hm;obtain⟨l,el,sl⟩:=sd _ mx;have el':x=.ref l:=el;subst el';obtain⟨ps,hl,al⟩:=sl;have gt:=ph ha qf fn nv;rw [hx] at gt;have Nm:=eW _ _ _ hl;have nle:l≠e:=λ z=>by rw [z,he] at Nm;cases Nm
 have len:=al.len;have sl2:=Rl.İ t (eC n) (k:Nat);refine⟨_,rfl,_,rfl,a,_,rfl,gt,l,rfl,⟨_,Ċ.of Nm⟩,c7 (xs:=ps) (λ j σ H'=>Ext (nD H) (nD H')/\Kept H H' e/\H' e=some (bA (iT ((t.steps (eC n) (k:Nat)).take j) F N tot c acc))/\∃ o7 o8 o9 OT,σ = Sn v y k c D d a o7 o8 o9 F e (some sv) (some (.int tot)) (some (.int (N:Nat))) OT) ⟨Ext.refl _,Kept.refl _ _,he,_,_,_,_,rfl⟩ ?_ ?_ ?_⟩
 ·rintro j σ H' _ ⟨xe,_⟩;exact Ċ.of (eW _ _ _ (xe _ _ hl))
 ·rintro j p σ H' ep ⟨xe,kp,Ph,o7,o8,o9,OT,rfl⟩;obtain⟨s,es,z,shv,nx,rfl,hz,⟨sp,rfl,hs⟩,hn⟩:=(al.ext xe).get ep;have WW:=Ì es;obtain⟨gs,s1,sb⟩:=gd s WW;have tk:=aM es;have nx':NV (nD H') (fw s.next) nx:=rL (by rw [lE s1];exact hn)
  have OZ:=My.Ė.ext hs (eW H');have b1:1<=s.b:=Í gs.t1 gs.tb;have Tq:s.t<=100:=Í gs.tb gs.ű;refine⟨z,_,rfl,Ė.of (eW _ _ _ hz),rfl,_,_,rfl,_,_,rfl,_,_,rfl,rfl,?_⟩;have cm:NW s.hand c:=by rcases gs.h with h | h <;> rw [h] <;> exact .inl ⟨ax,ax⟩
  refine aK (te:=cz (ao (ae 9) (ao (DJ (ae 13) (bV (rI NW λ i j=>.int (i*j)) (ae 7) (ae 2))) aF))) (i:=15) ⟨_,rfl,_,rfl,_,rfl,_,rfl,_,_,rfl,rfl,cm,_,_,rfl,rfl,cK,λ b hb=>?_⟩;show FQ K _ (Sn v y k c D d a (some (.int s.hand)) (some (.ref sp)) (some nx) F e (some sv) (some (.int tot)) (some (.int (N:Nat))) (some (.ref b))) (aj H' b (.tup [nx,.int (tot+s.hand*c)]));obtain⟨H1,x1,g1,eU⟩:=gB hb (.tup [nx,.int (tot+s.hand*c)]);rw [eU];have UT:=x1 _ _ Ph;have Yl:NV H1 (fw s.next) nx:=eJ (eJ nx' (eW H')) x1;have UE:=My.Ė.ext OZ x1;have eA:iT ((t.steps (eC n) (k:Nat)).take (j+1)) F N tot c acc=c8 (iT ((t.steps (eC n) (k:Nat)).take j) F N tot c acc) (fw s.next,tot+s.hand*c) (N*s.part F):=by
   rw [tk];show List.foldl _ _ _=_;rw [List.foldl_append];rfl
  have lA:=jD (F:=F) (n:=N) (s0:=tot) (c:=c) ((t.steps (eC n) (k:Nat)).take j) acc;rw [ò] at lA;have Ys:=mX (F:=F) (n:=N) (s0:=tot) (c:=c) ((t.steps (eC n) (k:Nat)).take j) nd;generalize iT ((t.steps (eC n) (k:Nat)).take j) F N tot c acc=A at Ph UT eA lA Ys;obtain⟨o,dg,ov,_⟩:=v6 (q:=(fw s.next,tot+s.hand*c)) (.inl UT) g1 Yl;have zN:Sz N:=lL (Í ZZ ax);have zt:Sz s.t:=fO Tq;have zNt:Sz (N*s.t):=lL (Í (Ů ZZ Tq) ax);have zFb:Sz (F/s.b):=fO (Í (Ŀ _ _) QZ);have ed:((F:Int)/(s.b:Int))=((F/s.b:Nat):Int):=by simp
  refine⟨_,rfl,e,rfl,.inr ⟨_,.inl UT⟩,_,rfl,o,dg,?_⟩;rw [ov];refine⟨_,rfl,wL 0 rfl UE rfl ⟨_,_,rfl,rfl,gm zN zt,_,rfl,wL 1 rfl UE rfl ⟨_,_,rfl,rfl,⟨af,(fO gs.ű).log⟩,_,_,rfl,rfl,by rw [ed,<- ğ];exact gm zNt zFb,_,_,rfl,rfl,?_⟩⟩⟩
  have ev:((jV A (fw s.next,tot+s.hand*c):Nat):Int)+(N:Int)*(s.t:Int)*((F:Int)/(s.b:Int))=((jV A (fw s.next,tot+s.hand*c)+N*s.part F:Nat):Int):=by
   rw [ed];unfold Ŝ.part;simp only [Int.natCast_add,Int.natCast_mul,Int.mul_assoc]
  refine⟨_,rfl,_,rfl,e,aj H1 e (bA (c8 A (fw s.next,tot+s.hand*c) (N*s.part F))),rfl,?_,?_⟩
  ·show su H1 e (.ref b) (.int (((jV A (fw s.next,tot+s.hand*c):Nat):Int)+(N:Int)*(s.t:Int)*((F:Int)/(s.b:Int)))) _;rw [ev];exact wX UT Ys g1 Yl (by rw [Ü];omega)
  ·have xu:Ext (nD H1) (nD (aj H1 e (bA (c8 A (fw s.next,tot+s.hand*c) (N*s.part F))))):=wR UT rfl;refine⟨(xe.trans x1.nd).trans xu,λ b' o' SG ne=>by rw [ad ne];exact x1 _ _ (kp _ _ SG ne),?_,_,_,_,_,rfl⟩
   rw [eA];exact be
 ·rintro σ H' ⟨xe,kp,Ph,o7,o8,o9,OT,rfl⟩;rw [len,á] at Ph;exact q H' _ _ _ _ xe kp Ph
end
section
variable {P:Program}{w:World}{K:Frag}{mg:cr}{base:Heap}{C:Nat->Addr}{f a1 a2 a3:Addr}{fd d1 d2 d3:FuncData}
def vi (K:Frag)(C:Nat->Addr):Sp:=λ vs H Q _=>∃(v:V)(k:Nat)(c:Int)(y d:Addr)(t:Rl)(sc:List Int)(D:Nat)(ps:Tw),vs=[v,.int (k:Nat),.int c,.ref y]/\Ru C (nD H) t v/\t.ok/\(k:Int)<t.Û/\k<12/\c=sc.getD k 0/\Ė K H y [.int (D:Nat),.ref d]/\Rd H d (bA ps)/\Lay t sc k D ps /\
 ∀ m d' D' SY H',Ext (nD H) (nD H')->Kept H H' d->Rd H' d (bA ps)->H m=none->H d'=none->H' m=some (.tup [.int (D':Nat),.ref d'])->H' d'=some (bA SY)->Lay t sc (k+1) D' SY->Q (.ref m) H'
def LC (K:Frag):TG:=dL K 2 (aL (dL K 2 (aL (aN 12) (aL (aN 13) dP))) (aL (aN 14) dP))
def DI (K:Frag):TS:=fj (xB (ae 5)) (LC K) (GO K)
def Kw (K:Frag):TS:=bY (ae 3) (dL K 2 (aL (aN 4) (aL (aN 5) dP)))
def Fj (K:Frag)(C:Nat->Addr):TS:=bY (cC (vR K C) [] E0 (ao (ae 0) (ao (ae 5) (ao (ae 1) aF)))) (aN 6)
def HF (K:Frag):TS:=bY (cC (wQ K) [] E0 (ao (Dp K 6) aF)) (aN 10)
def Ex:TS:=bY fH (aN 11)
def Jy:TS:=dW (cC yd [] E0 (ao (iH uM (ao (ae 11) aF)) aF))
def Jf:TS:=aY (cz (ao (xf (ae 4) (ae 10)) (ao (ae 11) aF)))
def L4 (K:Frag)(C:Nat->Addr):TS:=aA (Kw K) (aA (Fj K C) (aA (HF K) (aA Ex (aA (DI K) (aA Jy Jf)))))
section
variable {cdv:Value}{A:Around}{outer:List Env}{s:Shared}{H:Hp}{E:XK}
def KS (i:Nat):Stmt:=((aI xh)[i]?).getD (.Pass default)
theorem CV (hr:nh 9 "next_layer" xh A s f cdv):Bx (PS (bR aB P w K mg base JD "next_layer" (aa xh) f cdv A outer s H E).Φ (KS 4) (DI K)):=by
 have nd:=R7.nd;have hu:(A.deeper (PyProof.Rows.envOfC "next_layer" (aa xh) s.heap.objs.size f cdv)).units+2<cLine:=by have:=hr.un;omega
 exact⟨cj .never rfl (jq (pv 5)) (bN rfl (dB (bN rfl (dB (cu nd rfl (.inl rfl)) (dB (cu nd rfl (.inl rfl)) br))) (dB (cu nd rfl (.inl rfl)) br)))
  (aW (cj .never rfl (bJ (iE hu (pv 6) (pv 12))) (bN rfl (dB (cu nd rfl (.inl rfl)) (dB (cu nd rfl (.inl rfl)) (dB (cu nd rfl (.inl rfl)) br))))
   (bb (dk nd rfl (.inl rfl) (aP (ac (pv 9) (ac (ak bf (pv 13) (ak cY (pv 7) (pv 2))) ar))))
   (aW (iD hu (pv 11) (pv 15) (ak bf (pz hu (pv 11) (pv 15) ay ⟨rfl,rfl,rfl,rfl⟩) (ak cR (ak cR (pv 14) (bL cB (pv 8) ay)) (ak cH (pv 10) (bL cB (pv 8) ay)))) rfl)))))⟩
theorem Bd (A1:Df P w K mg base aB 8 "steps_from" ["rule","keys","at"] (vR K C) a1 d1) (A2:Df P w K mg base aB 2 "common_bottom" ["several"] (wQ K) a2 d2) (A3:Df P w K mg base aB 1 "need_few" ["many"] yd a3 d3) (mn:mg "len" = none) (hr:nh 9 "next_layer" xh A s f cdv):Bx (ſ (bR aB P w K mg base JD "next_layer" (aa xh) f cdv A outer s H E).Φ (aI xh) (L4 K C)):=by
 have nd:=R7.nd;have hr8:ć 8 _:=hr.mono ax;have H_:ć 2 _:=hr.mono ax;have Ŧ:ć 1 _:=hr.mono ax;exact dZ ⟨gg (pv 3) (bN rfl (dB (cu nd rfl (.inl rfl)) (dB (cu nd rfl (.inl rfl)) br)))⟩
  (dZ (cy nd rfl (.inl rfl) ⟨bZ A1 hr8 ag (ac (pv 0) (ac (pv 5) (ac (pv 1) ar)))⟩)
  (dZ (cy nd rfl (.inl rfl) ⟨bZ A2 H_ ag (ac (zb rfl C5 (tF (pv 6)) (λ s H C fp=>cu zh rfl (.inl rfl)) (λ s H C fp=>bJ (pv 0)) (λ s H C fp=>bN rfl (dB (cu zh rfl (.inl rfl)) (dB (cu zh rfl (.inl rfl)) (dB (cu zh rfl (.inl rfl)) br)))) (λ s H C fp=>pv 2)) ar)⟩)
  (dZ (cy nd rfl (.inl rfl) ⟨gk⟩)
  (dZ (CV hr)
  (dZ ⟨aR (bZ A3 Ŧ ag (ac (am iR rfl mn ö (ac (pv 11) ar)) ar))⟩
  (bS ⟨cn (aP (ac (ak cR (pv 4) (pv 10)) (ac (pv 11) ar)))⟩))))))
end
theorem vt (h:te σ H λ x H1=>sp [x] H1 Q E):cC sp [] E (ao te aF) σ H Q:=h
theorem Ak (h:k<=20):100^k<=10^40:=by
 have e:(100:Nat)^k<=100^20:=þ ax h;exact Í e ax
theorem Kept.rd (k:Kept H H' p)(r:Rd H b u)(n:b≠p):Rd H' b u:=by
 rcases r with r | ⟨o,r⟩
 ·exact .inl (k _ _ r n)
 ·exact .inr ⟨o,k _ _ r n⟩
theorem Kept.none (k:Kept H H' p)(r:Rd H' p u)(e:H' b=none):H b=none:=by
 cases h:H b with
 | none=>rfl
 | some o =>
  by_cases n:b=p
  ·subst n;rcases r with r | ⟨_,r⟩ <;> rw [e] at r <;> cases r
  ·rw [k _ _ h n] at e;cases e
theorem Gi (F:ĵ K "next_layer" "next_layer" xh f fd) (A1:Df P w K mg base aB 8 "steps_from" ["rule","keys","at"] (vR K C) a1 d1) (A2:Df P w K mg base aB 2 "common_bottom" ["several"] (wQ K) a2 d2) (A3:Df P w K mg base aB 1 "need_few" ["many"] yd a3 d3) (mn:mg "len" = none):í P w K mg base aB 10 f fd ["rule","at","score","layer"] (vi K C):=by
 refine bX F R7 λ cdv A outer s H vs Q E hr h=>?_;obtain⟨v,k,c,y,d,t,sc,D,ps,rfl,ru,ok,hk,Rs,ec,hy,hd,L,q⟩:=h;obtain⟨ε⟩:=Bd A1 A2 A3 mn hr (f:=f) (cdv:=cdv) (A:=A) (outer:=outer) (s:=s) (H:=H) (E:=E);refine⟨_,ε,?_⟩;have Oj:=ħ hk;have sk:Lu t k ps:=λ p hp=>by
  obtain⟨h1,h2,h3⟩:=L.st ok Oj hp;exact⟨h1,h2,h3 hk⟩
 have p12:2^(k+1)<=5000:=Í (þ ax (show k+1<=12 by omega)) ax
 have l5:ps.length<=5000:=Í L.len (Í (þ ax (OM k)) p12);have V7:D<=10^40:=Í (Ĉ (iu ok sc Oj).1 L.dd) (Í (iu ok sc Oj).2 (Ak af));refine⟨_,rfl,y,_,rfl,hy,rfl,_,_,rfl,_,_,rfl,rfl,?_⟩;show aA (Fj K C) _ _ [some v,some (.int (k:Nat)),some (.int c),some (.ref y),some (.int (D:Nat)),some (.ref d),none,none,none,none,none,none,none,none,none,none] H;refine aK (te:=cC (vR K C) [] E0 (ao (ae 0) (ao (ae 5) (ao (ae 1) aF)))) (i:=6) ⟨_,rfl,_,rfl,_,rfl,v,d,k,t,ps,rfl,ru,ok,hk,hd,l5,sk,λ a qs H1 x1 WG VQ ha Ri Qv sd qf qa ql=>?_⟩;show aA (HF K) _ _ [some v,some (.int (k:Nat)),some (.int c),some (.ref y),some (.int (D:Nat)),some (.ref d),some (.ref a),none,none,none,none,none,none,none,none,none] H1;have gq:∀ q∈qs,∀ s∈t.steps (eC q.1) (k:Nat),s.good/\hG t.tp s.next=true/\s.b ∣ t.dd (k:Nat):=λ q hq s hs=>by
  obtain⟨_,p,hp,e⟩:=qf q hq;rw [e] at hs;obtain⟨g1,g2,_,g3⟩:=c5 ok hk (sk p hp).2.2 s hs;exact⟨g1,g2,g3⟩
 obtain⟨ZU,ZT⟩:1<=t.dd (k:Nat)/\t.dd (k:Nat)<=100:=by
  cases e:ps with
  | nil =>
   have o:=L.one;rw [e] at o;have:=L.D0;rw [<- o] at this;exact absurd this (by simp [tS])
  | cons p SY =>
   have h:=Rl.MK ok (x:=(k:Nat)) af hk (sk p (by rw [e];exact Ö ..)).2.2
   exact⟨h.1,h.2.1⟩
 refine aK (te:=cC (wQ K) [] E0 (ao (Dp K 6) aF)) (i:=10) <| vt (AU (t:=t) (k:=k) (a:=a) rfl (.inl Qv) sd (λ q hq s hs=>Í (gq q hq s hs).1.t1 (gq q hq s hs).1.tb) af λ l xs bs H2 x2 YA Y' hl NP ba b1 b2=>⟨l,xs,bs,t.dd (k:Nat),rfl,Ċ.of NP,ba,λ b hb=>?_,ZU,ZT,λ F F1 Fd bF=>?_⟩)
 ·obtain⟨q,hq,s,hs,rfl⟩:=b2 b hb;exact(gq q hq s hs).2.2
 show aA Ex _ _ [some v,some (.int (k:Nat)),some (.int c),some (.ref y),some (.int (D:Nat)),some (.ref d),some (.ref a),none,none,none,some (.int (F:Nat)),none,none,none,none,none] H2;have QZ:F<=100:=Í (Ĉ ZU Fd) ZT;refine aK (te:=fH) (i:=11) λ e he=>?_;have hd2:Rd H2 d (bA ps):=YA.rd VQ Ri.symm;have Ux:Kept H H2 d:=λ b o hb n=>YA _ _ (WG _ _ hb n) (aT hb ha);have Rz:H e=none:=Ux.none hd2 he;have Si:e≠d:=λ z=>by
  rcases hd2 with r | ⟨_,r⟩ <;> rw [<- z,he] at r <;> cases r
 have SZ:e≠a:=λ z=>by
  rcases Y' with r | ⟨_,r⟩ <;> rw [<- z,he] at r <;> cases r
 have x3:=(Ext.new (o:=.dT []) he).nd;have kn:Kept H2 (aj H2 e (.dT [])) e:=λ b o hb n=>by rw [ad n];exact hb
 have g3:aj H2 e (.dT []) e=some (bA []):=be;have VP:=kn.rd hd2 Si.symm;have UY:=kn.rd Y' SZ.symm;have Uw:Kept H (aj H2 e (.dT [])) d:=λ b o hb n=>kn _ _ (Ux _ _ hb n) (aT hb Rz);show aA (DI K) _ _ (Sn v (.ref y) k c D d a none none none F e none none none none) (aj H2 e (.dT []));generalize aj H2 e (.dT [])=H3 at x3 kn g3 VP UY Uw ⊢;refine⟨_,rfl,d,bA ps,rfl,True.intro,VP,λ ob H4 fz=>?_⟩;have X0:=uE (u:=bA ps) True.intro VP fz;have aa3:H3 d≠none:=by rcases VP with r | ⟨_,r⟩ <;> rw [r] <;> exact λ z=>nomatch z
 have kd:Kept H3 H4 d:=λ b o hb n=>by rw [fz.2 b n];exact hb
 have ea:∀(p:TK × Nat)(acc:Tw),iT (t.steps (eC p.1.1) (k:Nat)) F p.2 p.1.2 c acc=nB t k c F p acc:=λ p acc=>rfl;refine rF (λ i σ H'=>H' d=some (.Ŭ ob (bA ps))/\Ext (nD H) (nD H')/\Kept H H' d/\Rd H' a (fJ t.tp qs)/\Ext (nD H1) (nD H')/\H' e=some (bA (fP t k c F (ps.take i) []))/\∃ o7 o8 o9 Ud Uc Ub OT,σ = Sn v (.ref y) k c D d a o7 o8 o9 F e Ud Uc Ub OT) ?_ (λ i σ H' pv=>pv.1) ?_ ?_
 ·refine⟨fz.1,((x1.trans x2).trans x3).trans X0,λ b o hb n=>kd _ _ (Uw _ _ hb n) n,kd.rd UY Ri,(x2.trans x3).trans X0,?_,_,_,_,_,_,_,_,rfl⟩
  rwa [fz.2 e Si]
 ·rintro i σ H' p' kx vv hi ⟨hf,xe,kp,Pk,We,Ph,o7,o8,o9,Ud,Uc,Ub,OT,rfl⟩ O2 pr;obtain⟨p,b,sv,hp,rfl,hb,nv,rfl⟩:=lT pr;have O1:=Ì hp;obtain⟨s1,s2,s3⟩:=sk p O1;have x5:=Ext.new (o:=.tup [.ref b,.int (p.2:Nat)]) O2;have g5:aj H' p' (.tup [.ref b,.int (p.2:Nat)]) p'=some (.tup [.ref b,.int (p.2:Nat)]):=be;have hp0:H p'=none:=kp.none (.inr ⟨ob,hf⟩) O2;generalize aj H' p' (.tup [.ref b,.int (p.2:Nat)])=H5 at x5 g5 ⊢;refine⟨p',_,rfl,Ė.of g5,rfl,_,_,rfl,b,_,rfl,Ė.of (x5 _ _ hb),rfl,_,_,rfl,_,_,rfl,rfl,_,_,rfl,rfl,?_⟩;have fn:iW t.tp p.1.1:=by rw [<- s2];exact vX s1
  have lf:=iV (t:=t) (k:=k) (c:=c) (F:=F) (ps.take i) [];rw [ò,Ι] at lf;refine CW (t:=t) (n:=p.1.1) (N:=p.2) (tot:=p.1.2) ((x5.kept e).rd Pk SZ.symm) (λ q hq=>(qf q hq).1) fn (eJ nv x5) (sd.ext (We.trans x5.nd)) (qa p O1) (λ s hs=>?_) F1 QZ (Í (qO O1) (by rw [L.one];exact V7)) (x5 _ _ Ph) (jC (ps.take i) (by simp)) af SZ ?_
  ·obtain⟨g1,g2,_,_⟩:=c5 ok hk s3 s hs;obtain⟨x,_,mx⟩:=qa p O1;exact⟨g1,g2,bF _ (b1 _ mx s hs)⟩
  ·intro H6 o7 o8 o9 OT x6 Qq he6;refine⟨Qq _ _ (x5 _ _ hf) Si.symm,(xe.trans x5.nd).trans x6,λ b' o' SG n=>Qq _ _ (x5 _ _ (kp _ _ SG n)) (aT SG Rz),Qq.rd ((x5.kept e).rd Pk SZ.symm) SZ.symm,(We.trans x5.nd).trans x6,?_,_,_,_,_,_,_,_,rfl⟩;rw [he6,ea,aM hp];show _=some (bA (List.foldl _ _ _));rw [List.foldl_append];rfl
 ·rintro σ H' ⟨hf,xe,kp,Pk,We,Ph,o7,o8,o9,Ud,Uc,Ub,OT,rfl⟩;have el:cL (bA ps)=ps.length:=Ä _;rw [el,á] at Ph;have LN:=L.next ok hk F1 Fd λ p hp s hs=>by
   obtain⟨x,_,mx⟩:=qa p hp;exact bF _ (b1 _ mx s hs)
  rw [<- ec] at LN;have SC:H' e=some (bA (vD t k c F ps)):=Ph;refine⟨_,rfl,e,bA (vD t k c F ps),rfl,True.intro,.inl SC,_,rfl,?_,?_⟩
  ·have:=LN.len;rw [(qt _).2.2];omega
  refine⟨_,rfl,_,rfl,_,_,rfl,rfl,gm (lL (Í V7 ax)) (fO QZ),_,rfl,cK,λ m hm=>?_⟩;have xm:=Ext.new (o:=.tup [.int ((D:Int)*(F:Int)),.ref e]) hm;refine q m e (D*F) _ _ (xe.trans xm.nd) (λ b o hb n=>xm _ _ (kp _ _ hb n)) (.inr ⟨ob,xm _ _ hf⟩) (kp.none (.inr ⟨ob,hf⟩) hm) Rz ?_ (xm _ _ SC) LN;rw [ğ];exact be
end
theorem lU {α:Type}{xs:List α}{x:α}:rB (xs ++ [x]) (-1)=some x:=by
 unfold rB xa;rw [Ë ax,Ó (by rw [Õ];simp;omega)]
 rw [show((-1:Int)+((xs ++ [x]).length:Nat)).toNat=xs.length by rw [Õ];simp;omega]
 simp
theorem jK (r:Rd H b u)(x:Ext H H'):Rd H' b u:=by
 rcases r with r | ⟨o,r⟩
 ·exact .inl (x _ _ r)
 ·exact .inr ⟨o,x _ _ r⟩
theorem qU (h1:Rd H d (bA a))(h2:Rd H d (bA b)):bA a=bA b:=by
 rcases h1 with h1 | ⟨_,h1⟩ <;> rcases h2 with h2 | ⟨_,h2⟩ <;> rw [h1] at h2 <;> injection h2 with h2
 ·cases h2
 ·cases h2
 ·injection h2
def NU (H0 H:Hp)(t:Rl)(sc:List Int)(k:Nat)(m:Addr):Prop:=∃ D d ps,H m=some (.tup [.int (D:Nat),.ref d])/\Rd H d (bA ps)/\H0 m=none/\H0 d=none/\Lay t sc k D ps
def A5 (H0 H:Hp)(t:Rl)(sc:List Int)(ms:List Addr):Prop:=∀(k:Nat) m,ms[k]?=some m->NU H0 H t sc k m
theorem NU.mono {H0 H H':Hp}{t:Rl}{sc:List Int}{k:Nat}{m:Addr}(h:NU H0 H t sc k m)(x:Ext H H'):NU H0 H' t sc k m:=by
 obtain⟨D,d,ps,h1,h2,h3⟩:=h;exact⟨D,d,ps,x _ _ h1,jK h2 x,h3⟩
theorem NU.XD {H0 H H':Hp}{t:Rl}{sc:List Int}{k:Nat}{m d:Addr}{ps:Tw}(h:NU H0 H t sc k m)(x:Kept H H' d)(r:Rd H d (bA ps))(r':Rd H' d (bA ps)):NU H0 H' t sc k m:=by
 obtain⟨D,d2,ps2,h1,h2,h3⟩:=h;have nm:m≠d:=λ z=>by
  rcases r with r | ⟨_,r⟩ <;> rw [<- z,h1] at r <;> cases r
 refine⟨D,d2,ps2,x _ _ h1 nm,?_,h3⟩;by_cases e:d2=d
 ·subst e;rw [qU h2 r];exact r'
 ·exact x.rd h2 e
section
variable {P:Program}{w:World}{K:Frag}{mg:cr}{base:Heap}{C:Nat->Addr}{f a1 a2 a3:Addr}{fd d1 d2 d3:FuncData}
abbrev rH:Stmt:=cP 48
abbrev GZ:List Str:=["rule","scores","layers","at","score"]
theorem R9:ai GZ ["rule","scores"] (aa rH):=bc
def xA (C:Nat->Addr):Sp:=λ vs H Q _=>∃(v:V)(p:Addr)(t:Rl)(sc:List Int),vs=[v,.ref p]/\Ru C (nD H) t v/\t.ok/\H p=some (.lst (sc.map V.int))/\(sc.length:Int)=t.Û/\sc.length<=12/\DO sc /\
 ∀ L ms H',Ext H H'->H L=none->H' L=some (.lst (ms.map V.ref))->ms.length=sc.length+1->A5 H H' t sc ms->Q (.ref L) H'
def Jo (C:Nat->Addr):TE:=dM (nI C) "folk" (λ _=>jx C) E0 (ae 0) aF
def Ie (C:Nat->Addr):TE:=dM (nI C) "begin" (λ _=>ir C) E0 (ae 0) aF
def E7 (K:Frag)(C:Nat->Addr):TS:=bq (j9 (tB (cC (wy K) [] E0 (ao (ae 1) (ao (Jo C) aF))))) (λ _ _ _=>False) aQ
def Da (C:Nat->Addr):TS:=bY (cv (ao (cz (ao (tC (.int 1)) (ao (qi (cz (ao (Ie C) (ao (tC (.int 0)) aF))) (tC (.int 1))) aF))) aF)) (aN 2)
def JO (K:Frag)(C:Nat->Addr):TS:=dW (wV K "list" cW (ae 2) (ao (cC (vi K C) [] E0 (ao (ae 0) (ao (ae 3) (ao (ae 4) (ao (bV (fE K) (ae 2) (Dq (rU λ i=>.int (-i)) (tC (.int 1)))) aF))))) aF))
def DK (K:Frag)(C:Nat->Addr):TS:=fj (zq K (ao (ae 1) aF)) (dL K 2 (aL (aN 3) (aL (aN 4) dP))) (JO K C)
def Md (K:Frag)(C:Nat->Addr):TS:=aA (E7 K C) (aA (Da C) (aA (DK K C) (aY (ae 2))))
section
variable {cdv:Value}{A:Around}{outer:List Env}{s:Shared}{H:Hp}{E:XK}
def Eb (i:Nat):Stmt:=((aI rH)[i]?).getD (.Pass default)
theorem JQ (M:Ms P w K mg base C)(A1:Df P w K mg base aB 3 "are_scores" ["thing","folk"] (wy K) a1 d1) (hr:nh 10 "layers_of" rH A s f cdv):Bx (PS (bR aB P w K mg base GZ "layers_of" (aa rH) f cdv A outer s H E).Φ (Eb 0) (E7 K C)):=by
 have Ŧ:=hr.mono (show 1<=10 by decide)
 have Qr:=hr.mono (show 3<=10 by decide)
 exact⟨aJ (cw (bz (bZ A1 Qr ag (ac (pv 1) (ac (cJ (pv 0) M.Û Ŧ ag) ar))))) (aW bH) cT⟩
theorem JC (M:Ms P w K mg base C)(hr:nh 10 "layers_of" rH A s f cdv):Bx (PS (bR aB P w K mg base GZ "layers_of" (aa rH) f cdv A outer s H E).Φ (Eb 1) (Da C)):=by
 have nd:=R9.nd;have Ŧ:=hr.mono (show 1<=10 by decide)
 have hu:(A.deeper (PyProof.Rows.envOfC "layers_of" (aa rH) s.heap.objs.size f cdv)).units+64<cLine:=by have:=hr.un;omega
 exact cy nd rfl (.inl rfl) (eP (cO (dm (cO ⟨ay⟩ (cO ⟨wZ hu (aP (ac (cJ (pv 0) M.begin Ŧ ag) (ac ay ar))) ay⟩ bh))) bh))
theorem IO (A2:Df P w K mg base aB 10 "next_layer" ["rule","at","score","layer"] (vi K C) a2 d2) (me:mg "enumerate" = none) (hr:nh 10 "layers_of" rH A s f cdv):Bx (PS (bR aB P w K mg base GZ "layers_of" (aa rH) f cdv A outer s H E).Φ (Eb 2) (DK K C)):=by
 have nd:=R9.nd;exact⟨cj .never rfl (xX rfl me (ac (pv 1) ar)) (bN rfl (dB (cu nd rfl (.inl rfl)) (dB (cu nd rfl (.inl rfl)) br)))
   (aW (aR (fX ø ô ó bQ (pv 2) (ac (bZ A2 hr ag (ac (pv 0) (ac (pv 3) (ac (pv 4) (ac (bL l8 (pv 2) (jS gX ay)) ar))))) ar))))⟩
theorem CF (M:Ms P w K mg base C)(A1:Df P w K mg base aB 3 "are_scores" ["thing","folk"] (wy K) a1 d1) (A2:Df P w K mg base aB 10 "next_layer" ["rule","at","score","layer"] (vi K C) a2 d2) (me:mg "enumerate" = none) (hr:nh 10 "layers_of" rH A s f cdv):Bx (ſ (bR aB P w K mg base GZ "layers_of" (aa rH) f cdv A outer s H E).Φ (aI rH) (Md K C)) :=
 dZ (JQ M A1 hr) (dZ (JC M hr) (dZ (IO A2 me hr) (bS ⟨cn (pv 2)⟩)))
end
theorem Ct (ok:t.ok)(Vu:Ru C H1 t v)
  (q:∀ m0 d L H6,Ext H1 H6->H1 m0=none->H1 d=none->H1 L=none->H6 L=some (.lst [.ref m0])->H6 m0=some (.tup [.int (1:Nat),.ref d])->H6 d=some (bA [((fw t.begin,0),1)])->u De [some v,some (.ref p),some (.ref L),none,none] H6):aA (Da C) u De [some v,some (.ref p),none,none,none] H1:=by
 refine aK (te:=cv (ao (cz (ao (tC (.int 1)) (ao (qi (cz (ao (Ie C) (ao (tC (.int 0)) aF))) (tC (.int 1))) aF))) aF)) (i:=2) ?_;refine pH ?_;intro d hd;obtain⟨H2,x2,g2,eU⟩:=gB hd (.dT []);rw [eU];have Ye:=Vu.ext x2;refine dh (t:=t) aC Ye (λ R r=>⟨_,rfl,r⟩) ⟨v,t,H2,rfl,Ext.refl _,Ye,λ bv rb=>⟨cK,λ b hb=>?_⟩⟩;have nvb:NV H2 (fw t.begin) bv:=rL (by rw [lE (Rl.Ρ t ok)];exact rb)
 obtain⟨H3,x3,g3,eU⟩:=gB hb (.tup [bv,.int 0]);rw [eU];refine⟨b,[fw t.begin,.k (.inl 0)],_,rfl,kO (q:=(fw t.begin,0)) g3 (eJ nvb x3),x3 _ _ g2,cK,λ m0 Qa=>⟨cK,λ L hL=>?_⟩⟩;have xd:Ext H1 (aj H3 d (.dT [([fw t.begin,.k (.inl 0)],.int 1)])):=aV _ (x2.trans x3) hd;have g4:aj H3 d (.dT [([fw t.begin,.k (.inl 0)],.int 1)]) d=some (bA [((fw t.begin,0),1)]):=be;generalize aj H3 d (.dT [([fw t.begin,.k (.inl 0)],.int 1)])=H4 at xd g4 Qa hL ⊢;have xm:=Ext.new (o:=.tup [.int 1,.ref d]) Qa;have g5:aj H4 m0 (.tup [.int 1,.ref d]) m0=some (.tup [.int (1:Nat),.ref d]):=be;generalize aj H4 m0 (.tup [.int 1,.ref d])=H5 at xm g5 hL ⊢;obtain⟨H6,xL,g6,eU⟩:=gB hL (.lst [.ref m0]);rw [eU];exact q m0 d L H6 ((xd.trans xm).trans xL) (xd.back Qa) hd ((xd.trans xm).back hL) g6 (xL _ _ g5) (xL _ _ (xm _ _ g4))
theorem Cd {De:dq}{H H6:Hp}{v:V}{p m0 d L:Addr}{t:Rl}{sc:List Int}{u:TS}(ru:Ru C (nD H) t v)(ok:t.ok)(hp:H p=some (.lst (sc.map V.int)))(fk:(sc.length:Int)=t.Û)(Nl:sc.length<=12)(Vm:Ext H H6)(QT:H L=none)(g6:H6 L=some (.lst [.ref m0]))(W':H m0=none)(UW:H d=none)(g5:H6 m0=some (.tup [.int (1:Nat),.ref d]))(g4:H6 d=some (bA [((fw t.begin,0),1)]))
  (q:∀ ms o3 o4 H',Ext H H'->H' L=some (.lst (ms.map V.ref))->ms.length=sc.length+1->A5 H H' t sc ms->u De [some v,some (.ref p),some (.ref L),o3,o4] H'):aA (DK K C) u De [some v,some (.ref p),some (.ref L),none,none] H6:=by
 refine⟨_,rfl,p,rfl,⟨_,Ċ.of (Vm _ _ hp)⟩,vQ (xs:=sc.map V.int) (λ i σ H'=>Ext H H'/\∃(ms:List Addr)(m:Addr)(o3 o4:Option V),σ=[some v,some (.ref p),some (.ref L),o3,o4]/\H' L=some (.lst (ms.map V.ref ++ [.ref m]))/\ms.length=i/\A5 H H' t sc (ms ++ [m])) ?_ ?_ ?_ ?_⟩
 ·refine⟨Vm,[],m0,none,none,rfl,g6,rfl,λ k m e=>?_⟩
  match k,e with
  | 0,e =>
   cases e;exact⟨1,d,_,g5,.inl g4,W',UW,Lay.zero t sc⟩
 ·rintro i σ H' _ ⟨x',_⟩;exact Ċ.of (x' _ _ hp)
 ·rintro i x σ H' pr ex ⟨x',ms,m,o3,o4,rfl,hl,ln,la⟩ hpr;rw [Ô] at ex;obtain⟨c,ec,rfl⟩:=å.mp ex;have hi:i<sc.length:=(È.mp ec).1;obtain⟨H7,xq,gq,eU⟩:=gB hpr (.tup [.int (i:Nat),.int c]);rw [eU];have em:(ms ++ [m])[i]?=some m:=by rw [<- ln];simp
  obtain⟨D,dd,ps,h1,h2,h3,h4,h5⟩:=(la i m em).mono xq;have QO:=xq _ _ hl;have x7:=x'.trans xq;refine⟨pr,_,rfl,Ė.of gq,rfl,_,_,rfl,_,_,rfl,rfl,?_⟩;refine⟨_,rfl,.inl ⟨rfl,_,Ċ.of QO⟩,_,rfl,_,rfl,_,rfl,_,rfl,1,rfl,L,_,-1,_,rfl,rfl,Ċ.of QO,lU,?_⟩;have es:c=sc.getD i 0:=by rw [PH,ec];rfl
  refine⟨v,i,c,m,dd,t,sc,D,ps,rfl,ru.ext x7.nd,ok,af,af,es,Ė.of h1,h2,h5,λ m' d' D' SY H8 x8 kp rd8 QN Qd g8 e8 L8=>?_⟩;have ndL:L≠dd:=λ z=>by
   rcases h2 with r | ⟨_,r⟩ <;> rw [<- z,QO] at r <;> cases r
  have Xb:=kp _ _ QO ndL;have x08:Ext H H8:=λ b o hb=>kp _ _ (x7 _ _ hb) (aT hb h4);refine⟨L,_,.ref m',rfl,rfl,Xb,by rw [Ü,Õ,Ä,ln];simp;omega,?_⟩
  have nm':m'≠L:=λ z=>by rw [z,QO] at QN;cases QN
  have nd':d'≠L:=λ z=>by rw [z,QO] at Qd;cases Qd
  refine⟨aV _ x08 QT,ms ++ [m],m',_,_,rfl,?_,by rw [Õ,ln];rfl,λ k z hz=>?_⟩
  ·rw [Ð];exact be
  ·have keep:∀{k:Nat}{z:Addr},NU H H8 t sc k z->NU H (aj H8 L (.lst (ms.map V.ref ++ [.ref m] ++ [.ref m']))) t sc k z:=λ {k z} ⟨D2,d2,p2,k1,k2,k3,k4,k5⟩=>by
    have n1:z≠L:=λ y=>by rw [y,Xb] at k1;cases k1
    have n2:d2≠L:=λ y=>by rcases k2 with r | ⟨_,r⟩ <;> rw [y,Xb] at r <;> cases r
    refine⟨D2,d2,p2,by rw [ad n1];exact k1,?_,k3,k4,k5⟩
    rcases k2 with r | ⟨o,r⟩
    ·exact .inl (by rw [ad n2];exact r)
    ·exact .inr ⟨o,by rw [ad n2];exact r⟩
   refine keep ?_;rcases Ħ k (ms ++ [m]).length with lt | ge
   ·rw [ý lt] at hz;exact((la k z hz).mono xq).XD kp h2 rd8
   ·rw [ç ge] at hz;have ek:k=i+1:=by
     have l1:(ms ++ [m]).length=i+1:=by rw [Õ,ln];rfl
     rcases Ħ (k-(ms ++ [m]).length) 1 with y | y
     ·omega
     ·rw [Ļ (by simpa using y)] at hz;cases hz
    have ez:z=m':=by
     rw [show k-(ms ++ [m]).length=0 by rw [Õ,ln];simp;omega] at hz
     exact(â hz).symm
    subst ek ez;exact⟨D',d',SY,g8,.inl e8,x7.back QN,x7.back Qd,L8⟩
 ·rintro σ H' ⟨x',ms,m,o3,o4,rfl,hl,ln,la⟩;rw [Ä] at ln;refine q (ms ++ [m]) _ _ H' x' ?_ (by rw [Õ,ln];rfl) la
  rw [Ð];exact hl
theorem HR (M:Ms P w K mg base C)(F:ĵ K "layers_of" "layers_of" rH f fd) (A1:Df P w K mg base aB 3 "are_scores" ["thing","folk"] (wy K) a1 d1) (A2:Df P w K mg base aB 10 "next_layer" ["rule","at","score","layer"] (vi K C) a2 d2) (me:mg "enumerate" = none):í P w K mg base aB 11 f fd ["rule","scores"] (xA C):=by
 refine bX F R9 λ cdv A outer s H vs Q E hr h=>?_;obtain⟨v,p,t,sc,rfl,ru,ok,hp,fk,Nl,ss,q⟩:=h;obtain⟨ε⟩:=CF M A1 A2 me hr;refine⟨_,ε,?_⟩;have R_:=ru.ext (eW H);have VD:sc.length<=20:=af;refine⟨_,rfl,dh aC R_ (λ R r=>⟨_,rfl,r⟩) ⟨v,t,rfl,R_,?_⟩⟩;refine⟨p,sc,by rw [<- fk];rfl,hp,VD,ss,λ H1 x1=>⟨_,rfl,dj ?_⟩⟩
 refine Ct ok (R_.ext x1) λ m0 d L H6 x6 hm hd hL g6 g5 g4=>?_;have Vm:=x1.trans x6;exact Cd ru ok hp fk Nl Vm (x1.back hL) g6 (x1.back hm) (x1.back hd) g5 g4 λ ms o3 o4 H' x' h1 h2 h3=>⟨_,rfl,q L ms H' x' (x1.back hL) h1 h2 h3⟩
end
abbrev Mo:V->Hp->List NK->Prop:=λ y H k=>∃ b,y=.ref b/\OG H k b
abbrev Fm:=Lv HO.dT Mo
section
variable {X:Cx}{sc:Scope}{cl:List (Str × Addr)}{o:Option Str}{ts zs:List Str}{js:List Nat}{kx vx iter:Expr}{pos:Pos}{tg:Expr}{g:TG}{wi:TI}{tk tv:TE}
theorem AQ (hu:X.A.units+1<cLine)(hc:X.calm=true)(S:fQ X sc cl o ts zs js)(hi:PI X tg iter wi)(hg:∀ s H C fp,PG (aH X sc cl o (ts++zs) s H C fp) tg g)(hk:∀ s H C fp,PE (aH X sc cl o (ts++zs) s H C fp) kx tk)(hv:∀ s H C fp,PE (aH X sc cl o (ts++zs) s H C fp) vx tv)
  (hs:∀ v,foldedSetIterable iter X.env v=pure v:=by intro _;rfl):PE X (.DictComp kx vx [⟨tg,iter,[],0⟩] sc pos) (Fm wi ts.length js g tk tv) :=
 r9 (HZ (λ eA I e kr l ry rv k=>by
  obtain⟨b,rfl,hb⟩:=kr;cases (show _=Value.ref b from ry);exact rj (by rw [eA];exact hu) I e hb l rv k) (λ s H ok big=>jO s.heap big) hc S hi hg hk hv hs) (arm_eval_DictComp ..)
end
def bT (qs:List (TK × V)):HO:=.dT (qs.map λ p=>([p.1.1,NK.k (.inl p.1.2)],p.2))
structure Bk (G:Hp)(t:Rl)(sc:List Int)(k:Nat)(qs:List (TK × V)):Prop where
 nd:(qs.map (·.1)).Nodup
 ks:∀ q,q∈qs.map (·.1) ↔ ∃ r∈dY t sc k,r.key=q
 sh:∀ p∈qs,∃ z,p.2=.ref z/\G z=some (.tup [.int (bo (SS t sc k p.1) (DD t k):Nat),.int (aE (SS t sc k p.1) (DD t k):Nat)])
theorem Bk.ext {G G':Hp}{t:Rl}(h:Bk G t sc k qs)(x:∀ z xs,G z=some (.tup xs)->G' z=some (.tup xs)):Bk G' t sc k qs:=⟨h.nd,h.ks,λ p hp=>by
 obtain⟨z,e,g⟩:=h.sh p hp;exact⟨z,e,x _ _ g⟩⟩
def ID (H0 H:Hp)(t:Rl)(sc:List Int)(k:Nat)(d:Addr):Prop:=H0 d=none/\∃ qs,H d=some (bT qs)/\Bk H t sc k qs
def xO (H0 H:Hp)(t:Rl)(sc:List Int)(ds:List Addr):Prop:=∀(k:Nat) d,ds[k]?=some d->ID H0 H t sc k d
section
variable {P:Program}{w:World}{K:Frag}{mg:cr}{base:Heap}{C:Nat->Addr}{f a1 a2 a3:Addr}{fd d1 d2 d3:FuncData}
abbrev zZ:Stmt:=cP 49
theorem KO:ai ["rule","scores"] ["rule","scores"] (aa zZ):=bc
abbrev uu:Scope:=gr [("bottom",.cell),("tops",.local)]
abbrev Gy:Scope:=gr [("key",.local),("top",.local),("share_of",.globalImplicit),("bottom",.free)]
theorem Aj:((["bottom","tops"]:List Str)++([]:List Str)).Nodup:=aC
theorem zx:((["key","top"]:List Str)++(["bottom"]:List Str)).Nodup:=aC
def II (K:Frag):TE:=Fm (xB (ae 1)) 2 [0] (dL K 2 (aL (aN 0) (aL (aN 1) dP))) (ae 0) (cC p9 [] E0 (ao (ae 1) (ao (ae 2) aF)))
def Lz (K:Frag)(C:Nat->Addr):TE:=jX (fc K (cC (xA C) [] E0 (ao (ae 0) (ao (ae 1) aF)))) 2 [] (dL K 2 (aL (aN 0) (aL (aN 1) dP))) (II K)
section
variable {cdv:Value}{A:Around}{outer:List Env}{s:Shared}{H:Hp}{E:XK}
theorem xC:fQ (bR aB P w K mg base ["rule","scores"] "table_of" (aa zZ) f cdv A outer s H E).Φ uu [] (some "bottom") ["bottom","tops"] [] []:=by
 refine⟨rfl,rfl,λ C=>rfl,aC,(λ x e=>by cases e;exact Ö ..),λ z c h=>(nomatch h),λ z h=>?_,aC,λ k z h=>by simp at h,rfl⟩
 have h:List.lookup z [((".0" : Str),NameKind.local),(("bottom" : Str),NameKind.cell),(("tops" : Str),NameKind.local)]=some .cell\/List.lookup z [((".0" : Str),NameKind.local),(("bottom" : Str),NameKind.cell),(("tops" : Str),NameKind.local)]=some .free:=h;have all:∀ y ∈ [((".0" : Str),NameKind.local),(("bottom" : Str),NameKind.cell),(("tops" : Str),NameKind.local)],(y.2=.cell\/y.2=.free)->y.1 = "bottom" := aC;rcases h with h | h
 ·exact .inl (ą some (all _ (ü h) (.inl rfl)).symm)
 ·exact .inl (ą some (all _ (ü h) (.inr rfl)).symm)
theorem xJ (hk:X.env.scope.kind=.function):cV (zf X uu cl "bottom" ((["bottom","tops"]:List Str)++([]:List Str)) s H C1 fp) Gy [("bottom",C1+1)] ["key","top"] ["bottom"] [0] :=
 wa (L:=[(".0",.local),("key",.local),("top",.local),("share_of",.globalImplicit),("bottom",.cell)]) rfl rfl aC aC aC jk rfl aC aC rfl (.inr (.inl rfl))
  (by show(relabel uu X.env).names.lookup ("bottom" : Str)≠some .local;exact λ h=>nomatch (show some NameKind.cell=some .local from h)) (.inl rfl)
theorem CQ (A1:Df P w K mg base aB 11 "layers_of" ["rule","scores"] (xA C) a1 d1) (A2:Df P w K mg base aB 4 "share_of" ["top","bottom"] p9 a2 d2) (hr:nh 11 "table_of" zZ A s f cdv):Bx (ſ (bR aB P w K mg base ["rule","scores"] "table_of" (aa zZ) f cdv A outer s H E).Φ (aI zZ) (aY (Lz K C))):=by
 have hu:(A.deeper (PyProof.Rows.envOfC "table_of" (aa zZ) s.heap.objs.size f cdv)).units+2<cLine:=by have:=hr.un;omega
 have Sx:ć 4 _:=hr.mono (show 4<=11 by decide)
 exact bS ⟨cn (dS (te:=II K) (g:=dL K 2 (aL (aN 0) (aL (aN 1) dP))) rfl xC (bJ (bZ A1 hr ag (ac (pv 0) (ac (pv 1) ar)))) (λ s H C fp=>by exact bN rfl (dB (cu (i:=0) Aj rfl (.inr rfl)) (dB (cu (i:=1) Aj rfl (.inl rfl)) br))) (λ s H C fp=>by
  exact AQ (tk:=ae 0) (tv:=cC p9 [] E0 (ao (ae 1) (ao (ae 2) aF))) (g:=dL K 2 (aL (aN 0) (aL (aN 1) dP))) (Nat.lt_of_succ_lt hu) rfl (xJ rfl) (jq (pv 1)) (λ s H C fp=>by exact bN rfl (dB (cu (i:=0) zx rfl (.inl rfl)) (dB (cu (i:=1) zx rfl (.inl rfl)) br))) (λ s H C fp=>by exact pv 0) (λ s H C fp=>by exact bZ A2 Sx ag (ac (pv 1) (ac (pv 2) ar)))))⟩
end
theorem Dk {t:Rl}{sc:List Int}{k D:Nat}{ps:Tw}{H:Hp}{d:Addr}{R:VK}(ok:t.ok)(hk:(k:Int)<=t.Û)(hd:Rd H d (bA ps))(L:Lay t sc k D ps)
  (q:∀ e qs H',Kept H H' d->Rd H' d (bA ps)->H e=none->H' e=some (bT qs)->Bk H' t sc k qs->R (.ref e) H'):II K [some (.int (D:Nat)),some (.ref d)] H R:=by
 have UO:k<=20:=by have:=(Rl.Į ok).2;omega
 have V7:D<=10^40:=Í (Ĉ (iu ok sc hk).1 L.dd) (Í (iu ok sc hk).2 (Ak UO));have p20:2^k<=2^20:=þ ax UO;have lp:=L.len;refine⟨_,rfl,d,bA ps,rfl,True.intro,hd,λ ob H1 fz e he=>?_⟩;have Si:e≠d:=λ z=>by rw [z,fz.1] at he;cases he
 have Rz:H e=none:=by rw [<- fz.2 e Si];exact he
 refine G9 (n:=ps.length) (λ i ys H'=>H' d=some (.Ŭ ob (bA ps))/\Kept H H' d/\∃ qs:List (TK × V),ys=(qs.map λ p=>([p.1.1,NK.k (.inl p.1.2)],p.2))/\qs.map (·.1)=(ps.take i).map (·.1)/\∀ p∈qs,∃ z,p.2=.ref z/\H' z=some (.tup [.int (bo (SS t sc k p.1) (DD t k):Nat),.int (aE (SS t sc k p.1) (DD t k):Nat)])) (by rw [Ü];omega) ?_ (λ i ys H' hi pv=>⟨pv.1,by rw [(qt ps).2.2];exact hi⟩) (λ ys H' pv=>⟨pv.1,by rw [(qt ps).2.2];exact Æ _⟩) ?_ ?_
 ·exact⟨by rw [ad Si.symm];exact fz.1,λ b o hb n=>by rw [ad (aT hb Rz),fz.2 b n];exact hb,[],rfl,rfl,λ p h=>nomatch h⟩
 ·rintro i x ys H' H3 hi ⟨p',kx,vv,rfl,O2,pr,rfl⟩ ly Xl ⟨hf,kp,qs,rfl,ek,al⟩ os Ş R kR;obtain⟨o0,o1,rfl⟩:∃ o0 o1,os=[o0,o1]:=by
   match os,Ş with
   | [o0,o1],_=>exact⟨o0,o1,rfl⟩
  obtain⟨p,b,sv,hp,rfl,hb,nv,rfl⟩:=lT pr;have O1:=Ì hp;obtain⟨H5,x5,g5,eU⟩:=gB O2 (.tup [.ref b,.int (p.2:Nat)]);rw [eU];refine⟨p',_,rfl,Ė.of g5,rfl,_,_,rfl,_,_,rfl,rfl,⟨[some (.ref b),some (.int (p.2:Nat))],rfl,rfl⟩,_,rfl,_,rfl,_,rfl,p.2,D,rfl,L.D0,?_,lL (Í V7 ax),λ m hm=>?_⟩
  ·have:=qO O1;rw [L.one] at this;exact this
  obtain⟨s1,s2⟩:=L.share ok hk O1;rw [s1,s2];obtain⟨H6,x6,g6,eU⟩:=gB hm (.tup [.int (bo (SS t sc k p.1) (DD t k):Nat),.int (aE (SS t sc k p.1) (DD t k):Nat)]);rw [eU];have ND:=x5.trans x6;have US:=ND _ _ Xl;have new:p.1 ∉ qs.map (·.1):=λ z=>by
   rw [ek] at z;have nd:=L.nd;have e2:ps.map (·.1)=(ps.take i).map (·.1)++(ps.drop i).map (·.1):=by rw [<- Ð,K_]
   rw [e2,ů] at nd;have z2:p.1∈(ps.drop i).map (·.1):=by
    refine ĩ (Ì (i:=0) ?_);rw [List.getElem?_drop];exact hp
   exact nd.2.2 _ z _ z2 rfl
  have vn:bP qs p.1=none:=by
   cases h:bP qs p.1 with
   | none=>rfl
   | some v=>exact absurd (rV h) new
  have pk:bu (qs.map λ p=>([p.1.1,NK.k (.inl p.1.2)],p.2)) [p.1.1,NK.k (.inl p.1.2)] (.ref m)=(qs ++ [(p.1,V.ref m)]).map λ p=>([p.1.1,NK.k (.inl p.1.2)],p.2):=by
   rw [gw (g:=λ q:TK=>[q.1,NK.k (.inl q.2)]) ix True.intro (n:=p.1) λ _ _=>True.intro,L2.Ű _ vn]
  refine kR (.ref b) [p.1.1,.k (.inl p.1.2)] (.ref m) H6 ⟨b,rfl,kO (q:=p.1) (ND _ _ hb) (eJ nv ND)⟩ US ⟨by rw [ad Si.symm];exact ND _ _ hf,λ b' o' SG n=>by rw [ad (aT SG Rz)];exact ND _ _ (kp _ _ SG n),qs ++ [(p.1,.ref m)],pk,?_,?_⟩
  ·rw [Ð,ek,aM hp,Ð];rfl
  ·intro z hz;have ne:∀{z:Addr}{xs:List V},H6 z=some (.tup xs)->aj H6 e (.dT (bu (qs.map λ p=>([p.1.1,NK.k (.inl p.1.2)],p.2)) [p.1.1,NK.k (.inl p.1.2)] (.ref m))) z=some (.tup xs):=λ {z xs} h=>by
    rw [ad (λ y=>by rw [y,US] at h;cases h)]
    exact h
   rcases ß.mp hz with hz | hz
   ·obtain⟨y,e1,e2⟩:=al z hz;exact⟨y,e1,ne (ND _ _ e2)⟩
   ·rw [É.mp hz];exact⟨m,rfl,ne g6⟩
 ·rintro ys H' Xl ⟨hf,kp,qs,rfl,ek,al⟩;rw [á] at ek;exact q e qs H' kp (.inr ⟨ob,hf⟩) Rz Xl ⟨by rw [ek];exact L.nd,λ z=>by rw [ek];exact L.keys ok hk z,al⟩
def Jp (H0 H1 H:Hp)(t:Rl)(sc:List Int)(ms:List Addr):Prop:=∀(k:Nat) m,ms[k]?=some m->∃ D d ps,H m=some (.tup [.int (D:Nat),.ref d])/\Rd H d (bA ps)/\H1 d≠none/\H0 d=none/\Lay t sc k D ps
def sV (C:Nat->Addr):Sp:=λ vs H Q _=>∃(v:V)(p:Addr)(t:Rl)(sc:List Int),vs=[v,.ref p]/\Ru C (nD H) t v/\t.ok/\H p=some (.lst (sc.map V.int))/\(sc.length:Int)=t.Û/\sc.length<=12/\DO sc /\
 ∀ L ds H',Ext H H'->H L=none->H' L=some (.lst (ds.map V.ref))->ds.length=sc.length+1->ds.Nodup->xO H H' t sc ds->Q (.ref L) H'
theorem Gp (F:ĵ K "table_of" "table_of" zZ f fd) (A1:Df P w K mg base aB 11 "layers_of" ["rule","scores"] (xA C) a1 d1) (A2:Df P w K mg base aB 4 "share_of" ["top","bottom"] p9 a2 d2):í P w K mg base aB 12 f fd ["rule","scores"] (sV C):=by
 refine bX F KO λ cdv A outer s H vs Q E hr h=>?_;obtain⟨v,p,t,sc,rfl,ru,ok,hp,fk,Nl,ss,q⟩:=h;obtain⟨ε⟩:=CQ A1 A2 hr (f:=f) (cdv:=cdv) (A:=A) (outer:=outer) (s:=s) (H:=H) (E:=E);refine⟨_,ε,?_⟩;refine⟨_,rfl,_,rfl,v,p,t,sc,rfl,ru,ok,hp,fk,Nl,ss,λ l ms H1 x1 hl h1 lm la=>⟨l,rfl,⟨_,Ċ.of h1⟩,λ D hD=>?_⟩⟩;have Xv:=x1.back hD;refine fu (a:=l) (xs:=ms.map V.ref) (λ i ys H'=>Ext H H'/\(∀ b,H' b=none->H1 b=none)/\H' l=some (.lst (ms.map V.ref))/\Jp H H1 H' t sc ms/\∃ ds:List Addr,ys=ds.map V.ref/\ds.Nodup/\xO H1 H' t sc ds) (by rw [Ü,Ä,lm];omega) ?_ (λ i ys H' pv=>Ċ.of pv.2.2.1) ?_ ?_
 ·have un:∀{H2:Hp}{u:HO}{b:Addr},aj H2 D u b=none->H2 b=none:=λ {H2 u b} h=>by
   by_cases y:b=D
   ·subst y;rw [be] at h;cases h
   ·rwa [ad y] at h
  refine⟨aV _ x1 Xv,λ b h=>un h,by rw [ad (λ z=>by rw [<- z,h1] at hD;cases hD)];exact h1,λ k m e=>?_,[],rfl,PD,λ k d e=>by simp at e⟩
  obtain⟨D2,d2,p2,j1,j2,j3,j4,j5⟩:=la k m e;have xD:=Ext.new (o:=.lst []) hD;exact⟨D2,d2,p2,xD _ _ j1,jK j2 xD,λ z=>(by rcases j2 with r | ⟨_,r⟩ <;> rw [z] at r <;> cases r),j4,j5⟩
 ·rintro i x ys H' ex ly ś ⟨x',xx,Nm,Su,ds,rfl,nd,ta⟩ os Ş R kR;obtain⟨o0,o1,rfl⟩:∃ o0 o1,os=[o0,o1]:=by
   match os,Ş with
   | [o0,o1],_=>exact⟨o0,o1,rfl⟩
  rw [Ô] at ex;obtain⟨m,em,rfl⟩:=å.mp ex;have hi:i<ms.length:=(È.mp em).1;obtain⟨D',d,ps,k1,k2,k3,k4,k5⟩:=Su i m em;refine⟨m,_,rfl,Ė.of k1,rfl,_,_,rfl,_,_,rfl,rfl,⟨[some (.int (D':Nat)),some (.ref d)],rfl,rfl⟩,?_⟩;refine Dk ok af k2 k5 λ e qs H2 kp Yh he SC tb=>?_;have QF:∀{b:Addr}{o:HO},H' b=some o->pY o=false->b≠d:=λ {b o} h z y=>by
   obtain⟨u,e1,e2⟩:=wb (u:=bA ps) True.intro k2;rw [y,e1] at h;cases h;rw [e2] at z;cases z
  have Ol:=kp _ _ ś (QF ś rfl);have NP:=kp _ _ Nm (QF Nm rfl);have x2:Ext H H2:=λ b o hb=>kp _ _ (x' _ _ hb) (aT hb k4);have Rz:=x'.back he;have neD:e≠D:=λ z=>by rw [z,ś] at he;cases he
  have un:∀{u:HO}{b:Addr},aj H2 D u b=none->H2 b=none:=λ {u b} h=>by
   by_cases y:b=D
   ·subst y;rw [be] at h;cases h
   ·rwa [ad y] at h
  have nd2:(ds ++ [e]).Nodup:=by
   rw [ů];refine⟨nd,by simp,λ a ha b hb eq=>?_⟩
   rw [É.mp hb] at eq;obtain⟨k,ek⟩:=ĥ ha;obtain⟨_,MM,g1,_⟩:=ta k a ek;rw [eq,he] at g1;cases g1
  refine kR (.ref e) H2 Ol ⟨aV _ x2 Xv,λ b h=>xx b (kp.none Yh (un h)),?_,?_,ds ++ [e],by rw [Ð];rfl,nd2,?_⟩
  ·rw [ad (λ z=>by rw [<- z,h1] at hD;cases hD)];exact NP
  ·intro k z ez;obtain⟨D2,d2,p2,YG,YE,j3,j4,j5⟩:=Su k z ez;have j1:=kp _ _ YG (QF YG rfl);have j2:Rd H2 d2 (bA p2):=by
    by_cases y:d2=d
    ·subst y;rw [qU YE k2];exact Yh
    ·exact kp.rd YE y
   have n1:z≠D:=λ y=>by rw [y,Ol] at j1;cases j1
   have n2:d2≠D:=λ y=>by rcases j2 with r | ⟨_,r⟩ <;> rw [y,Ol] at r <;> cases r
   refine⟨D2,d2,p2,by rw [ad n1];exact j1,?_,j3,j4,j5⟩
   rcases j2 with r | ⟨o,r⟩
   ·exact .inl (by rw [ad n2];exact r)
   ·exact .inr ⟨o,by rw [ad n2];exact r⟩
  ·have tk:∀{z:Addr}{xs:List V},H2 z=some (.tup xs)->aj H2 D (.lst (ds.map V.ref ++ [.ref e])) z=some (.tup xs):=λ {z xs} h=>by
    rw [ad (λ y=>by rw [y,Ol] at h;cases h)]
    exact h
   intro k z ez;rcases Ħ k ds.length with lt | ge
   ·rw [ý lt] at ez;obtain⟨z0,MM,g1,g2⟩:=ta k z ez;have nz:z≠D:=λ y=>by rw [y,ś] at g1;cases g1
    have nzd:z≠d:=λ y=>k3 (by rw [<- y];exact z0)
    refine⟨z0,MM,by rw [ad nz];exact kp _ _ g1 nzd,g2.ext λ y xs hy=>tk (kp _ _ hy (QF hy rfl))⟩
   ·rw [ç ge] at ez;have ek:k=i:=by
     rw [Ä] at ly;rcases Ħ (k-ds.length) 1 with y | y
     ·omega
     ·rw [Ļ (by simpa using y)] at ez;cases ez
    rw [Ä] at ly;have ez':z=e:=by
     rw [show k-ds.length=0 by omega] at ez
     exact(â ez).symm
    subst ek ez';exact⟨xx _ he,qs,by rw [ad neD];exact SC,tb.ext λ y xs hy=>tk hy⟩
 ·rintro ys H' ly ś ⟨x',xx,Nm,Su,ds,rfl,nd,ta⟩;rw [Ä,Ä,lm] at ly;exact q D ds H' x' Xv ś ly nd λ k d e=>⟨x1.back (ta k d e).1,(ta k d e).2⟩
end
structure ě (H:Hp)(p:Addr):Prop where
 ex:∃ a b c:Int,H p=some (.lst [.int a,.int b,.int c])/\0<=a/\0<=b/\b<2147483647/\0<=c/\c<2147483629
theorem ě.ext (h:ě H p)(x:Ext H H'):ě H' p:=by
 obtain⟨a,b,c,e,r⟩:=h.ex;exact⟨a,b,c,x _ _ e,r⟩
theorem ě.ne (h:ě H p)(e:H q=none):q≠p:=λ z=>by
 obtain⟨a,b,c,f,_⟩:=h.ex;rw [z,f] at e;cases e
theorem ě.P9 (h:ě H p)(k:Kept H H' p):oq H H':=λ b o e t=>k b o e λ z=>by
 obtain⟨_,_,_,f,_⟩:=h.ex;rw [z,f] at e;cases e;cases t
structure PF (p:Addr)(H H':Hp):Prop where
 k:Kept H H' p
 b:ě H' p
theorem PF.trans (a:PF p H H1)(b:PF p H1 H2):PF p H H2:=⟨a.k.trans b.k,b.b⟩
theorem PF.ext (a:PF p H H1)(x:Ext H1 H2):PF p H H2:=⟨a.k.trans (x.kept p),a.b.ext x⟩
theorem PF.of (b:ě H p)(x:Ext H H1):PF p H H1:=⟨x.kept p,b.ext x⟩
theorem PF.P9 (a:PF p H H')(b:ě H p):oq H H':=b.P9 a.k
section
variable {P:Program}{w:World}{K:Frag}{mg:cr}{base:Heap}{f a1 a2:Addr}{fd d1 d2:FuncData}
abbrev on:Stmt:=cP 51
def p8 (K:Frag):Sp:=λ vs H Q _=>∃(a:Addr)(ns:List Int)(k:Nat),vs=[.ref a,.int (k:Nat)]/\Ċ K H a (ns.map V.int)/\k<100/\∀ p H',H p=none->Ext H H'->ě H' p->Q (.ref p) H'
theorem PY:ai ["_law_script","_law_k","_law_cell","_law_first"] ["_law_script","_law_k"] (aa on):=bc
def Es (a b:TE):TE:=bV (rI (λ _ j=>0<j) λ i j=>.int (i%j)) a b
def yv (a b:TE):TE:=bV (rI NW λ i j=>.int (i*j)) a b
def kj (a b:TE):TE:=bV (gK λ i j=>.int (i+j)) a b
def Lo (a b:TE):TE:=bV (rI FI λ i j=>.int (i/j)) a b
def sA (K:Frag)(i:Nat):TE:=iH (λ xs H Q=>∃ p ys,xs=[.ref p]/\(Ċ K H p ys\/Ė K H p ys)/\Q (.int ys.length) H) (ao (ae i) aF)
def EH:TS:=bY (Es (kj (kj (yv (ae 2) (tC (.int 7919))) (yv (ae 1) (tC (.int 104729)))) (tC (.int 12345))) (tC (.int 2147483647))) (aN 3)
def Go:TS:=bY (Es (yv (ae 3) (ae 3)) (tC (.int 2147483647))) (aN 3)
def GB (K:Frag):TS:=bq (zL (tB (bV (gK λ i j=>.bl (decide (j<=i))) (ae 1) (sA K 0))) (tB (bV (gK λ i j=>.bl (decide (i<j))) (ae 2) (bV (rI yA λ i j=>.int (i^j.toNat)) (tC (.int 10)) (tC (.int 18)))))) (bY (tC (.int 0)) (aN 2)) aQ
def AR:TS:=aY (cv (ao (ae 2) (ao (ae 3) (ao (Es (kj (Lo (ae 3) (tC (.int 7))) (yv (tC (.int 31)) (ae 1))) (tC (.int 2147483629))) aF))))
theorem qb (q:∀ p H',H p=none->Ext H H'->ě H' p->Q (.ref p) H')(m0:0<=m)(m1:m<2147483647)(c0:0<=c):AR ⟨λ _ H'=>Q .Ă H',Q,λ _ _=>False,λ _ _=>False⟩ [some (.ref a),some (.int (k:Nat)),some (.int c),some (.int m)] H:=by
 refine⟨_,rfl,_,rfl,_,rfl,_,_,rfl,rfl,⟨ax,ax⟩,_,rfl,_,_,rfl,rfl,.inl ⟨ax,ax⟩,_,_,rfl,rfl,_,_,rfl,rfl,(by show(0:Int)<2147483629;decide),cK,λ p hp=>?_⟩
 exact q p _ hp (.new hp) ⟨_,_,_,be,c0,m0,m1,ŀ _ ax,đ _ ax⟩
theorem vA {ns:List Int}(hS:Ċ K H a (ns.map V.int))(q:∀ p H',H p=none->Ext H H'->ě H' p->Q (.ref p) H')(c0:0<=c):aA EH (aA Go (aA (GB K) AR)) ⟨λ _ H'=>Q .Ă H',Q,λ _ _=>False,λ _ _=>False⟩ [some (.ref a),some (.int (k:Nat)),some (.int c),none] H:=by
 refine⟨_,rfl,_,_,rfl,rfl,.inr ⟨ax,ax⟩,_,rfl,_,_,rfl,rfl,.inr ⟨ax,ax⟩,_,_,rfl,rfl,_,_,rfl,rfl,_,_,rfl,rfl,(by show(0:Int)<2147483647;decide),?_⟩
 have n0:0<=(c*7919+(k:Int)*104729+12345)%2147483647:=ŀ _ ax;have n1:(c*7919+(k:Int)*104729+12345)%2147483647<2147483647:=đ _ ax;have cm:NW ((c*7919+(k:Int)*104729+12345)%2147483647) ((c*7919+(k:Int)*104729+12345)%2147483647):=.inl ⟨Int.lt_of_lt_of_le ax n0,Int.lt_trans n1 ax⟩;refine⟨_,rfl,_,rfl,_,_,rfl,rfl,cm,_,_,rfl,rfl,(by show(0:Int)<2147483647;decide),?_⟩
 have m0:0<=((c*7919+(k:Int)*104729+12345)%2147483647)*((c*7919+(k:Int)*104729+12345)%2147483647)%2147483647:=ŀ _ ax;have m1:((c*7919+(k:Int)*104729+12345)%2147483647)*((c*7919+(k:Int)*104729+12345)%2147483647)%2147483647<2147483647:=đ _ ax;refine⟨_,rfl,_,rfl,a,_,rfl,.inl hS,_,_,rfl,rfl,_,rfl,?_⟩;refine fR (λ _=>qb q m0 m1 (MF _)) (λ _=>?_);refine⟨_,rfl,_,_,rfl,rfl,⟨ax,ax,ax⟩,_,_,rfl,rfl,_,rfl,?_⟩;exact fR (λ _=>qb q m0 m1 (MF _)) (λ _=>qb q m0 m1 c0)
def Jx:TS:=bY (tC (.int 0)) (aN 2)
def KK (K:Frag):TS:=bq (tB (bV (gK λ i j=>.bl (decide (i>j))) (sA K 0) (tC (.int 0)))) (bY (iH (λ xs H Q=>∃ i:Int,xs=[.int i]/\Q (.int (if i<0 then -i else i)) H) (ao (bV (fE K) (ae 0) (Es (ae 1) (sA K 0))) aF)) (aN 2)) aQ
theorem uC (ml:mg "len" = none) (ma:mg "abs" = none):Bx (ſ (bR aB P w K mg base ["_law_script","_law_k","_law_cell","_law_first"] "_law_pool" (aa on) f cdv A outer s H E).Φ (aI on) (aA Jx (aA (KK K) (aA EH (aA Go (aA (GB K) AR)))))):=by
 have nd:=PY.nd;exact⟨bb (dk nd rfl (.inl rfl) ay)
  (bb (aJ (aq fm (am aO rfl ml ö (ac (pv 0) ar)) ay (au _)) (aW (dk nd rfl (.inl rfl) (am nX rfl ma PyProof.Rows.boot_abs (ac (bL l8 (pv 0) (ak dQ (pv 1) (am aO rfl ml ö (ac (pv 0) ar)))) ar)))) cT)
  (bb (dk nd rfl (.inl rfl) (ak dQ (ak bf (ak bf (ak cY (pv 2) ay) (ak cY (pv 1) ay)) ay) ay))
  (bb (dk nd rfl (.inl rfl) (ak dQ (ak cY (pv 3) (pv 3)) ay))
  (bb (aJ (PW.pt (fY (aq wn (pv 1) (am aO rfl ml ö (ac (pv 0) ar)) (au _)) (eQ (aq k9 (pv 2) (ak Ch ay ay) (au _))))) (aW (dk nd rfl (.inl rfl) ay)) cT)
  (aW (cn (cF (ac (pv 2) (ac (pv 3) (ac (ak dQ (ak bf (ak gA (pv 3) ay) (ak cY ay (pv 1))) ay) ar))))))))))⟩
theorem yK (F:ĵ K "_law_pool" "_law_pool" on f fd) (ml:mg "len" = none) (ma:mg "abs" = none):í P w K mg base aB 1 f fd ["_law_script","_law_k"] (p8 K):=by
 refine bX F PY λ cdv A outer s H vs Q E hr h=>?_;obtain⟨a,ns,k,rfl,hS,k1,q⟩:=h;obtain⟨ε⟩:=uC ml ma (f:=f) (cdv:=cdv) (A:=A) (outer:=outer) (s:=s) (H:=H) (E:=E) (P:=P) (w:=w) (K:=K) (base:=base);refine⟨_,ε,?_⟩;refine⟨_,rfl,a,_,rfl,.inl hS,_,_,rfl,rfl,_,rfl,?_⟩;refine fR (λ c=>?_) (λ c=>vA hS q (MF _));have l0:0<ns.length:=by
  have c':(((ns.map V.int).length:Nat):Int)>0:=ë c;rw [Ä] at c';omega
 have hk:k%ns.length<ns.length:=Nat.mod_lt _ l0;refine⟨_,rfl,_,rfl,_,rfl,a,_,rfl,.inl hS,_,_,rfl,rfl,(by show(0:Int)<(((ns.map V.int).length:Nat):Int);rw [Ä];omega),a,_,_,.int ns[k%ns.length],rfl,rfl,hS,?_,_,rfl,vA hS q ?_⟩
 rotate_left
 ·split <;> omega
 have e:((k:Nat):Int)%(((ns.map V.int).length:Nat):Int)=((k%ns.length:Nat):Int):=by rw [Ä];simp
 rw [e];exact jU (by rw [Ô,Å hk];rfl)
abbrev wl:Stmt:=cP 52
def fh:Sp:=λ vs H Q _=>∃(p:Addr)(m:Int),vs=[.ref p,.int m]/\ě H p/\0<m/\m<1073741824/\∀(r:Int)(H':Hp),0<=r->r<m->PF p H H'->(∀ b,H b=none->H' b=none)->Q (.int r) H'
theorem PX:ai ["_law_pool_here","_law_m","_law_found"] ["_law_pool_here","_law_m"] (aa wl):=bc
theorem mJ (h:H p=some u):∀ b,H b=none->aj H p o b=none:=λ b hb=>by
 rw [ad (λ e=>by subst e;rw [h] at hb;cases hb)];exact hb
theorem yb (F:ĵ K "_law_take" "_law_take" wl f fd):í P w K mg base aB 1 f fd ["_law_pool_here","_law_m"] fh:=by
 refine F.ok PX (λ vs H Q E h=>?_) (λ cdv A outer s H vs Q E hr h=>?_)
 ·obtain⟨p,m,rfl,_⟩:=h;rfl
 obtain⟨p,m,rfl,⟨a,b,c,hp,a0,b0,b1,c0,c1⟩,m0,m1,q⟩:=h;have nd:=PX.nd;refine⟨_,bb (aJ (aq fm (bL l8 (pv 0) ay) ay (au _))
   (bb (dk (i:=2) nd rfl (Or.inl rfl) (ak dQ (bL l8 (pv 0) ay) (pv 1)))
   (bb (gg (ak gA (bL l8 (pv 0) ay) (pv 1)) (pU (pv 0) ay jQ))
   (aW (cn (pv 2))))) cT)
  (bb (gg (ak dQ (ak bf (ak cY (bL l8 (pv 0) ay) ay) ay) ay) (pU (pv 0) ay jQ))
  (bb (gg (ak dQ (ak bf (ak bf (ak cY (bL l8 (pv 0) ay) ay) (ak gA (bL l8 (pv 0) ay) ay)) ay) ay) (pU (pv 0) ay jQ))
  (aW (cn (ak dQ (ak bf (ak gA (bL l8 (pv 0) ay) ay) (ak gA (bL l8 (pv 0) ay) ay)) (pv 1)))))),?_⟩
 have hl:=Ċ.of (K:=K) hp;refine⟨_,rfl,p,_,_,_,rfl,rfl,hl,rfl,_,_,rfl,rfl,_,rfl,?_⟩;refine fR (λ z1=>?_) (λ z1=>?_)
 ·have z2:0<a:=ë z1;refine⟨_,rfl,p,_,_,_,rfl,rfl,hl,rfl,_,rfl,_,_,rfl,rfl,m0,?_⟩;refine⟨_,rfl,p,_,_,_,rfl,rfl,hl,rfl,_,rfl,_,_,rfl,rfl,⟨m0,m1⟩,_,rfl,p,_,0,0,rfl,rfl,hp,rfl,?_⟩;exact⟨_,rfl,q _ _ (ŀ _ af) (đ _ m0) ⟨bK _,_,_,_,be,Int.ediv_nonneg af af,b0,b1,c0,c1⟩ (mJ hp)⟩
 ·refine⟨_,rfl,p,_,_,_,rfl,rfl,hl,rfl,_,_,rfl,rfl,.inr ⟨ax,ax⟩,_,_,rfl,rfl,_,_,rfl,rfl,(by show(0:Int)<2147483647;decide),_,rfl,p,_,1,1,rfl,rfl,hp,rfl,?_⟩
  have n0:0<=(b*48271+11)%2147483647:=ŀ _ ax;have n1:(b*48271+11)%2147483647<2147483647:=đ _ ax;have k1:Kept H (aj H p (.lst [.int a,.int ((b*48271+11)%2147483647),.int c])) p:=bK _;have k2:∀ b',H b'=none->aj H p (.lst [.int a,.int ((b*48271+11)%2147483647),.int c]) b'=none:=mJ hp;have f1:aj H p (.lst [.int a,.int ((b*48271+11)%2147483647),.int c]) p=some (.lst [.int a,.int ((b*48271+11)%2147483647),.int c]):=be;have Qt:=Ċ.of (K:=K) f1;refine⟨_,rfl,p,_,_,_,rfl,rfl,Qt,rfl,_,_,rfl,rfl,.inr ⟨ax,ax⟩,_,rfl,p,_,_,_,rfl,rfl,Qt,rfl,_,_,rfl,rfl,⟨ax,ax⟩,_,_,rfl,rfl,_,_,rfl,rfl,_,_,rfl,rfl,(by show(0:Int)<2147483629;decide),_,rfl,p,_,2,2,rfl,rfl,f1,rfl,?_⟩
  have e0:0<=((c*69621+(b*48271+11)%2147483647/5+7)%2147483629):=ŀ _ ax;have e1:((c*69621+(b*48271+11)%2147483647/5+7)%2147483629)<2147483629:=đ _ ax;have f2:aj (aj H p (.lst [.int a,.int ((b*48271+11)%2147483647),.int c])) p (.lst [.int a,.int ((b*48271+11)%2147483647),.int ((c*69621+(b*48271+11)%2147483647/5+7)%2147483629)]) p=some (.lst [.int a,.int ((b*48271+11)%2147483647),.int ((c*69621+(b*48271+11)%2147483647/5+7)%2147483629)]):=be;have k3:Kept H (aj (aj H p (.lst [.int a,.int ((b*48271+11)%2147483647),.int c])) p (.lst [.int a,.int ((b*48271+11)%2147483647),.int ((c*69621+(b*48271+11)%2147483647/5+7)%2147483629)])) p:=k1.trans (bK _);have k4:∀ b',H b'=none->aj (aj H p (.lst [.int a,.int ((b*48271+11)%2147483647),.int c])) p (.lst [.int a,.int ((b*48271+11)%2147483647),.int ((c*69621+(b*48271+11)%2147483647/5+7)%2147483629)]) b'=none:=λ b' h=>mJ f1 b' (k2 b' h);have NP:=Ċ.of (K:=K) f2;refine⟨_,rfl,p,_,_,_,rfl,rfl,NP,rfl,_,_,rfl,rfl,⟨ax,ax⟩,_,rfl,p,_,_,_,rfl,rfl,NP,rfl,_,_,rfl,rfl,⟨ax,ax⟩,_,_,rfl,rfl,_,rfl,_,_,rfl,rfl,m0,?_⟩;exact q _ _ (ŀ _ af) (đ _ m0) ⟨k3,_,_,_,f2,af,n0,n1,e0,e1⟩ k4
def i4 (i:Nat)(te:TE):TE:=cC fh [] E0 (ao (ae i) (ao te aF))
theorem cA (h0:σ[i]?=some (some (.ref p)))(bx:ě H p)(hm:∀ R:VK,R (.int m) H->te σ H R)(m0:0<m)(m1:m<1073741824)(q:∀ r H',0<=r->r<m->PF p H H'->Q (.int r) H'):i4 i te σ H Q :=
 ⟨_,h0,hm _ ⟨p,m,rfl,bx,m0,m1,λ r H' r0 r1 k1 _=>q r H' r0 r1 k1⟩⟩
end
def tW (K:Frag)(i:Nat)(z:Str):TT:=tB (bV sw (cI K i 0) (tC (.str z)))
section
variable {K:Frag}{H:Hp}{σ:St}{De:dq}{i:Nat}{a:Addr}{xs:List V}{w z:Str}{t u:TS}
theorem ib (k:Nat)(si:σ[i]?=some (some (.ref a)))(ha:H a=some (.tup xs))(hk:xs[k]?=some v)(q:Q v H):cI K i (k:Nat) σ H Q:=⟨_,si,a,_,_,_,rfl,rfl,Ė.of ha,jU hk,q⟩
theorem sX (si:σ[i]?=some (some (.ref a)))(ha:H a=some (.tup (.str w::xs)))(q:Q (decide (V.str w=V.str z)) H):tW K i z σ H Q:=ib 0 si ha rfl ⟨rfl,_,rfl,q⟩
theorem dR (si:σ[i]?=some (some (.ref a)))(ha:H a=some (.tup (.str z::xs)))(h:t De σ H):bq (tW K i z) t u De σ H:=sX si ha (by rw [Ç rfl];exact fV h)
theorem bd (ne:w≠z)(si:σ[i]?=some (some (.ref a)))(ha:H a=some (.tup (.str w::xs)))(h:u De σ H):bq (tW K i z) t u De σ H:=sX si ha (by rw [Ò (λ e=>ne (V.str.inj e))];exact dj h)
end
section
variable {H:Hp}{v:V}
theorem dG (r:Ą H v (R0.split n k).told):∃ a,v=.ref a/\H a=some (.tup [.str "split",.int n,.int k]):=by
 obtain⟨a,xs,rfl,ha,rs⟩:=ck r;cases rs with | cons r1 rs=>cases rs with | cons r2 rs=>cases rs with | cons r3 rs=>cases rs;cases r1;cases r2;cases r3;exact⟨a,rfl,ha⟩
theorem dJ (r:Ą H v (R0.pairs n x y).told):∃ a c,v=.ref a/\H a=some (.tup [.str "pairs",.int n,c])/\Ą H c (.tuple [.int x,.int y]):=by
 obtain⟨a,xs,rfl,ha,rs⟩:=ck r;cases rs with | cons r1 rs=>cases rs with | cons r2 rs=>cases rs with | cons r3 rs=>cases rs;cases r1;cases r2;exact⟨a,_,rfl,ha,r3⟩
theorem dE (r:Ą H v (R0.ę n x y f).told):∃ a c,v=.ref a/\H a=some (.tup [.str "coins",.int n,c,.int f])/\Ą H c (.tuple [.int x,.int y]):=by
 obtain⟨a,xs,rfl,ha,rs⟩:=ck r;cases rs with | cons r1 rs=>cases rs with | cons r2 rs=>cases rs with | cons r3 rs=>cases rs with | cons r4 rs=>cases rs;cases r1;cases r2;cases r4;exact⟨a,_,rfl,ha,r3⟩
theorem eu (r:Ą H v (Rl.blocks rs0).told):∃ a b ys,v=.ref a/\H a=some (.tup [.str "blocks",.ref b])/\H b=some (.tup ys)/\Ý H ys (rs0.map R0.told):=by
 obtain⟨a,xs,rfl,ha,rs⟩:=ck r;cases rs with | cons r1 rs=>cases rs with | cons r2 rs=>cases rs;cases r1;obtain⟨b,ys,rfl,hb,ry⟩:=ck r2;exact⟨a,b,ys,rfl,ha,hb,ry⟩
theorem gy (r:Ą H v (Rl.first t m).told):∃ a u,v=.ref a/\H a=some (.tup [.str "first",u,.int m])/\Ą H u t.told:=by
 obtain⟨a,xs,rfl,ha,rs⟩:=ck r;cases rs with | cons r1 rs=>cases rs with | cons r2 rs=>cases rs with | cons r3 rs=>cases rs;cases r1;cases r3;exact⟨a,_,rfl,ha,r2⟩
end
def Rl.Nn:Rl->Nat
 | .one _=>0
 | .blocks _=>1
 | .first t _=>t.Nn+1
def Ep:List Int->TA
 | []=>aF
 | x::xs=>ao (tC (.int x)) (Ep xs)
theorem Al {σ:St}{H:Hp}:∀(xs:List Int){R:List V->Hp->Prop},R (xs.map V.int) H->Ep xs σ H R
 | [],_,h=>h
 | x::xs,R,h=>Al xs (R:=λ ys H'=>R (.int x::ys) H') h
theorem uN {a b:Nat}(h1:1<=a)(h2:a<b)(h3:b<=100):dF (.tuple [.int (bo a b:Nat),.int (aE a b:Nat)])=true:=by
 obtain⟨c1,c2,c3,c4⟩:=jy (a:=a) (b:=b) h1 af h3;have b2:2<=aE a b:=by
  rcases Ħ (aE a b) 2 with z | z
  ·have e1:aE a b=1:=af;have e2:bo a b=1:=af;have lc:=w_ (a:=a) (b:=b);rw [e1,e2] at lc;omega
  ·exact z
 show(((decide ((1:Int)<=(aE a b:Nat))&&(decide ((0:Int)<=(bo a b:Nat))&&decide (((bo a b:Nat):Int)<=(aE a b:Nat))))&&decide (Nat.gcd ((bo a b:Nat):Int).toNat ((aE a b:Nat):Int).toNat=1))&&(decide ((2:Int)<=(aE a b:Nat))&&decide (((aE a b:Nat):Int)<=100)))=true;rw [Ç af,Ç af,Ç af,Ù,Ù,Ç c4,Ç af,Ç af];rfl
section
variable {P:Program}{w:World}{K:Frag}{mg:cr}{base:Heap}{f a1 a2 a3:Addr}{fd d1 d2 d3:FuncData}{σ:St}{H:Hp}{Q:VK}{p:Addr}
theorem pb {i:Nat}{te:TE}{Pm:Int->Prop}(h0:σ[i]?=some (some (.ref p)))(hm:∀ R:VK,(∀ m H1,PF p H H1->Pm m->R (.int m) H1)->te σ H R)(pm:∀ m,Pm m->0<m/\m<1073741824)(q:∀ m r H2,Pm m->0<=r->r<m->PF p H H2->Q (.int r) H2):i4 i te σ H Q :=
 ⟨_,h0,hm _ λ m H1 pf h=>⟨p,m,rfl,pf.b,(pm m h).1,(pm m h).2,λ r H' r0 r1 k1 _=>q m r H' h r0 r1 (pf.trans k1)⟩⟩
theorem ou {i:Nat}{xs:List Int}{n:Int}(hn:(xs.length:Int)=n)(h0:σ[i]?=some (some (.ref p)))(bx:ě H p)(n0:0<n)(n1:n<100)(q:∀ x∈xs,∀ H',PF p H H'->Q (.int x) H'):bV (fE K) (cv (Ep xs)) (i4 i (tC (.int n))) σ H Q:=by
 refine dU (pH (Al xs ⟨by rw [Ä,Ü];omega,λ l hl=>?_⟩))
 have x1:=Ext.new (o:=.lst (xs.map V.int)) hl;have g1:aj H l (.lst (xs.map V.int)) l=some (.lst (xs.map V.int)):=be;have nl:=bx.ne hl;generalize aj H l (.lst (xs.map V.int))=H1 at x1 g1 ⊢;refine cA h0 (bx.ext x1) (λ R r=>r) n0 af λ r H2 r0 rn pf=>?_;have lt:r.toNat<xs.length:=af;have er:r=(r.toNat:Int):=af;refine⟨l,xs.map V.int,r,.int xs[r.toNat],rfl,rfl,Ċ.of (pf.k _ _ g1 nl),?_,q _ (Ĥ lt) H2 ((PF.of bx x1).trans pf)⟩;have z:rB (xs.map V.int) ((r.toNat:Nat):Int)=some (.int xs[r.toNat]):=jU (by rw [Ô,Å lt];rfl)
 rw [<- er] at z;exact z
abbrev DA:Stmt:=cP 54
theorem TX:ai ["_law_one","_law_other"] ["_law_one","_law_other"] (aa DA):=bc
theorem AY (F:ĵ K "_law_common" "_law_common" DA f fd):í P w K mg base aB 1 f fd ["_law_one","_law_other"] fe:=by
 refine F.ok TX (λ vs H Q E h=>?_) (λ cdv A outer s H vs Q E hr h=>?_)
 ·obtain⟨c,lo,rfl,_⟩:=h;rfl
 obtain⟨a,b,rfl,q⟩:=h;have nd:=TX.nd;refine⟨_,bb (oH Ā (aq fm (pv 1) ay (au _)) (aW (ux (i:=0) (j:=1) rfl nd rfl rfl ax rfl rfl (ac (pv 1) (ac (ak dQ (pv 0) (pv 1)) ar)) rfl))) (aW (cn (pv 0))),?_⟩;refine pq (λ σ H'=>H'=H/\∃ x y:Nat,σ=[some (.int x),some (.int y)]/\Nat.gcd x y=Nat.gcd a b) (λ σ _=>G2 σ) ⟨rfl,a,b,rfl,rfl⟩ ?_ ?_
 ·rintro σ H' ⟨rfl,x,y,rfl,e⟩;refine⟨_,rfl,_,_,rfl,rfl,_,rfl,?_⟩;refine fR (λ c=>?_) (λ c=>?_)
  ·have c':(0:Int)<(y:Int):=ë c;refine⟨_,rfl,_,rfl,_,rfl,_,_,rfl,rfl,c',_,_,rfl,⟨rfl,y,x%y,?_,?_⟩,?_⟩
   ·show [some (V.int y),some (V.int ((x:Int)%(y:Int)))]=_;rw [show((x:Int)%(y:Int))=((x%y:Nat):Int) from by simp]
   ·rw [<- e,N4 x y,Nat.gcd_rec y x,N4]
   ·show((x:Int)%(y:Int)).toNat<(y:Int).toNat;have:=đ (x:Int) c';omega
  ·have c':¬ (0:Int)<(y:Int):=λ z=>c (Ç z);have y0:y=0:=af;subst y0;rw [Nat.gcd_zero_right] at e;refine⟨_,rfl,?_⟩;rw [e];exact q
 ·rintro σ H Q Q' m ⟨x,e,i,j,h1,h2,b,hb,q⟩;exact⟨x,e,i,j,h1,h2,b,hb,m _ _ q⟩
abbrev Ew:Stmt:=cP 55
abbrev K4:List Str:=["_law_pool_here","_law_bottom","_law_top","_law_by"]
theorem TY:ai K4 ["_law_pool_here"] (aa Ew):=bc
def xS:Sp:=λ vs H Q _=>∃ p,vs=[.ref p]/\ě H p/\∀ t a b H',PF p H H'->H' t=some (.tup [.int a,.int b])->dF (.tuple [.int a,.int b])=true->Q (.ref t) H'
def Jn (K:Frag):TS:=bY (kj (tC (.int 2)) (i4 0 (bV (fE K) (cv (Ep [1,3,9,99])) (i4 0 (tC (.int 4)))))) (aN 1)
def Fk:TS:=bY (kj (tC (.int 1)) (i4 0 (bV (gK λ i j=>.int (i-j)) (ae 1) (tC (.int 1))))) (aN 2)
def Bb:TS:=bY (cC fe [] E0 (ao (ae 2) (ao (ae 1) aF))) (aN 3)
def Ac (a b:TE):TE:=bV (rI mv λ i j=>.int (i/j)) a b
def A0:TS:=aY (cz (ao (Ac (ae 2) (ae 3)) (ao (Ac (ae 1) (ae 3)) aF)))
theorem DH {cdv:Value}{A:Around}{outer:List Env}{s:Shared}{H:Hp}{E:XK}(A1:Df P w K mg base aB 1 "_law_take" ["_law_pool_here","_law_m"] fh a1 d1) (A2:Df P w K mg base aB 1 "_law_common" ["_law_one","_law_other"] fe a2 d2) (hr:nh 1 "_law_coin" Ew A s f cdv):Bx (ſ (bR aB P w K mg base K4 "_law_coin" (aa Ew) f cdv A outer s H E).Φ (aI Ew) (aA (Jn K) (aA Fk (aA Bb A0)))):=by
 have nd:=TY.nd;exact dZ (cy (i:=1) nd rfl (Or.inl rfl) ⟨ak bf ay (bZ A1 hr ag (ac (pv 0) (ac (bL l8 (cF (ac ay (ac ay (ac ay (ac ay ar))))) (bZ A1 hr ag (ac (pv 0) (ac ay ar)))) ar)))⟩)
  (dZ (cy (i:=2) nd rfl (Or.inl rfl) ⟨ak bf ay (bZ A1 hr ag (ac (pv 0) (ac (ak bO (pv 1) ay) ar)))⟩)
  (dZ (cy (i:=3) nd rfl (Or.inl rfl) ⟨bZ A2 hr ag (ac (pv 2) (ac (pv 1) ar))⟩)
  (bS ⟨cn (aP (ac (ak cH (pv 2) (pv 3)) (ac (ak cH (pv 1) (pv 3)) ar)))⟩)))
theorem EZ (F:ĵ K "_law_coin" "_law_coin" Ew f fd) (A1:Df P w K mg base aB 1 "_law_take" ["_law_pool_here","_law_m"] fh a1 d1) (A2:Df P w K mg base aB 1 "_law_common" ["_law_one","_law_other"] fe a2 d2):í P w K mg base aB 2 f fd ["_law_pool_here"] xS:=by
 refine bX F TY λ cdv A outer s H vs Q E hr h=>?_;obtain⟨p,rfl,bx,q⟩:=h;obtain⟨ε⟩:=DH A1 A2 hr (f:=f) (cdv:=cdv) (A:=A) (outer:=outer) (s:=s) (H:=H) (E:=E);refine⟨_,ε,?_⟩;refine aK (te:=kj (tC (.int 2)) (i4 0 (bV (fE K) (cv (Ep [1,3,9,99])) (i4 0 (tC (.int 4)))))) (i:=1) (D:=⟨_,Q,_,_⟩) (dU (pb (p:=p) (Pm:=λ m=>0<m/\m<=99) rfl (λ R k=>?_) (λ m h=>⟨h.1,af⟩) λ m r H1 pm r0 r1 pf=>⟨_,_,rfl,rfl,?_⟩))
 ·refine ou (p:=p) (n:=4) rfl rfl bx ax ax λ x hx H' pf=>k x H' pf ?_;have all:∀ x∈([1,3,9,99]:List Int),0<x/\x<=99:=ax;exact all x hx
 show aA Fk (aA Bb A0) _ [some (.ref p),some (.int (2+r)),none,none] H1;obtain⟨b,eb⟩:∃ b:Nat,2+r=(b:Int):=⟨(2+r).toNat,af⟩;rw [eb];refine aK (te:=kj (tC (.int 1)) (i4 0 (bV (gK λ i j=>.int (i-j)) (ae 1) (tC (.int 1))))) (i:=2) (dU (cA (p:=p) (m:=(b:Int)-1) rfl pf.b (λ R r=>⟨_,rfl,_,_,rfl,rfl,r⟩) af af λ r2 H2 s0 s1 pf2=>⟨_,_,rfl,rfl,?_⟩));show aA Bb A0 _ [some (.ref p),some (.int (b:Nat)),some (.int (1+r2)),none] H2;obtain⟨a,ea⟩:∃ a:Nat,1+r2=(a:Int):=⟨(1+r2).toNat,af⟩;rw [ea];have a1:1<=a:=af;have ab:a<b:=af;have ű:b<=100:=af;have g0:0<Nat.gcd a b:=Ū b a1;have gl:Sz (Nat.gcd a b):=fO (Í (Ĉ af (Ę a b)) ű);have gd:∀ n:Nat,mv ((n:Nat):Int) ((Nat.gcd a b:Nat):Int):=λ n=>⟨af,gl.log⟩;refine aK (te:=cC fe [] E0 (ao (ae 2) (ao (ae 1) aF))) (i:=3) ⟨_,rfl,_,rfl,a,b,rfl,?_⟩;refine⟨_,rfl,_,rfl,_,_,rfl,rfl,gd a,_,rfl,_,rfl,_,_,rfl,rfl,gd b,cK,λ t ht=>?_⟩;have e1:((a:Int)/((Nat.gcd a b:Nat):Int))=((bo a b:Nat):Int):=by simp [bo]
 have e2:((b:Int)/((Nat.gcd a b:Nat):Int))=((aE a b:Nat):Int):=by simp [aE]
 refine q t _ _ _ ((pf.trans pf2).ext (Ext.new ht)) be ?_;show dF (.tuple [.int ((a:Int)/((Nat.gcd a b:Nat):Int)),.int ((b:Int)/((Nat.gcd a b:Nat):Int))])=true;rw [e1,e2];exact uN a1 ab ű
end
def zR:List V->Hp->VK->Prop:=λ xs H Q=>(∃ i,xs=[.int i]/\Q (.int i) H)\/∃ k,xs=[.bl k]/\Q (.int (if k then 1 else 0)) H
def FY (K:Frag):List V->Hp->VK->Prop:=λ xs H Q=>∃ p ys,xs=[.ref p]/\((Ċ K H p ys/\∀ l,H l=none->Q (.ref l) (aj H l (.tup ys)))\/(Ė K H p ys/\Q (.ref p) H))
section
variable {P:Program}{w:World}{K:Frag}{mg:cr}{base:Heap}{f a1 a2 a3:Addr}{fd d1 d2 d3:FuncData}
abbrev Eu:Stmt:=cP 56
abbrev Ll:List Str:=["_law_pool_here","_law_most","_law_way","_law_folk_here"]
theorem TL:ai Ll ["_law_pool_here","_law_most"] (aa Eu):=bc
def yN:Sp:=λ vs H Q _=>∃(p:Addr)(m:Int),vs=[.ref p,.int m]/\ě H p/\1<=m/\m<=20/\∀ t r H',PF p H H'->Ą H' (.ref t) (R0.told r)->r.ok->r.Û <= m->Q (.ref t) H'
def EU:TE:=cC xS [] E0 (ao (ae 0) aF)
def IV:TS:=bY (i4 0 (tC (.int 3))) (aN 2)
def E9:TS:=bY (kj (tC (.int 1)) (i4 0 (ae 1))) (aN 3)
def FO:TS:=bq (tB (bV sw (ae 2) (tC (.int 0)))) (aY (cz (ao (tC (.str "split")) (ao (ae 3) (ao (i4 0 (kj (ae 3) (tC (.int 1)))) aF))))) aQ
def IU:TS:=bq (tP (tB (bV sw (ae 2) (tC (.int 1)))) (tB (bV (gK λ i j=>.bl (decide (i>j))) (ae 1) (tC (.int 1))))) (aY (cz (ao (tC (.str "pairs")) (ao (kj (tC (.int 1)) (i4 0 (Lo (ae 1) (tC (.int 2))))) (ao EU aF))))) aQ
def HK (K:Frag):TS:=aY (cz (ao (tC (.str "coins")) (ao (ae 3) (ao EU (ao (bV (fE K) (cv (Ep [1,2,3,20])) (i4 0 (tC (.int 4)))) aF)))))
def L7 (K:Frag):TS:=aA IV (aA E9 (aA FO (aA IU (HK K))))
theorem Du (A1:Df P w K mg base aB 1 "_law_take" ["_law_pool_here","_law_m"] fh a1 d1) (A2:Df P w K mg base aB 2 "_law_coin" ["_law_pool_here"] xS a2 d2) (hr:nh 2 "_law_plain" Eu A s f cdv):Bx (ſ (bR aB P w K mg base Ll "_law_plain" (aa Eu) f cdv A outer s H E).Φ (aI Eu) (L7 K)):=by
 have nd:=TL.nd;have Ŧ:ć 1 _:=hr.mono ax;exact dZ (cy nd rfl (.inl rfl) ⟨bZ A1 Ŧ ag (ac (pv 0) (ac ay ar))⟩)
  (dZ (cy nd rfl (.inl rfl) ⟨ak bf ay (bZ A1 Ŧ ag (ac (pv 0) (ac (pv 1) ar)))⟩)
  (dZ ⟨aJ (aq bE (pv 2) ay (au _)) (aW (cn (aP (ac fD (ac (pv 3) (ac (bZ A1 Ŧ ag (ac (pv 0) (ac (ak bf (pv 3) ay) ar))) ar)))))) cT⟩
  (dZ ⟨aJ (PW.pt (qv (aq bE (pv 2) ay (au _)) (mU (aq fm (pv 1) ay (au _))))) (aW (cn (aP (ac fD (ac (ak bf ay (bZ A1 Ŧ ag (ac (pv 0) (ac (ak gA (pv 1) ay) ar)))) (ac (bZ A2 hr ag (ac (pv 0) ar)) ar)))))) cT⟩
  (bS (cX (dm (cO ⟨fD⟩ (cO ⟨pv 3⟩ (cO ⟨bZ A2 hr ag (ac (pv 0) ar)⟩ (cO ⟨bL l8 (cF (ac ay (ac ay (ac ay (ac ay ar))))) (bZ A1 Ŧ ag (ac (pv 0) (ac ay ar)))⟩ bh))))))))))
theorem FR (F:ĵ K "_law_plain" "_law_plain" Eu f fd) (A1:Df P w K mg base aB 1 "_law_take" ["_law_pool_here","_law_m"] fh a1 d1) (A2:Df P w K mg base aB 2 "_law_coin" ["_law_pool_here"] xS a2 d2):í P w K mg base aB 3 f fd ["_law_pool_here","_law_most"] yN:=by
 refine bX F TL λ cdv A outer s H vs Q E hr h=>?_;obtain⟨p,m,rfl,bx,m1,m20,q⟩:=h;obtain⟨ε⟩:=Du A1 A2 hr (f:=f) (cdv:=cdv) (A:=A) (outer:=outer) (s:=s) (H:=H) (E:=E);refine⟨_,ε,?_⟩;refine aK (te:=i4 0 (tC (.int 3))) (i:=2) (D:=⟨_,Q,_,_⟩) (cA (p:=p) rfl bx (λ R r=>r) ax ax λ y H1 y0 y3 f1=>?_);show aA E9 _ _ [some (.ref p),some (.int m),some (.int y),none] H1;refine aK (te:=kj (tC (.int 1)) (i4 0 (ae 1))) (i:=3) (dU (cA (p:=p) rfl f1.b (λ R r=>⟨_,rfl,r⟩) af af λ z H2 z0 zm f2=>⟨_,_,rfl,rfl,?_⟩));have S_:=f1.trans f2;show aA FO _ _ [some (.ref p),some (.int m),some (.int y),some (.int (1+z))] H2;obtain⟨n,en⟩:∃ n,n=1+z:=⟨_,rfl⟩;rw [<- en];have n1:1<=n:=af;have nm:n<=m:=af
 clear en
 refine⟨_,rfl,rfl,_,rfl,?_⟩;by_cases e0:y=0
 ·rw [Ç (by rw [e0])]
  exact fV ⟨_,rfl,cA (p:=p) rfl f2.b (λ R r=>⟨_,rfl,_,_,rfl,rfl,r⟩) af af λ k H3 k0 kn f3=>⟨cK,λ t ht=>q t (.split n k) _ ((S_.trans f3).ext (Ext.new ht)) (.tup be (.cons (.str _) (.cons (.int _) (.cons (.int _) .nil)))) ⟨af,af,k0,af⟩ nm⟩⟩
 rw [Ò (λ z=>e0 (V.int.inj z))];refine dj ?_;have last:HK K ⟨λ _ H'=>Q .Ă H',Q,λ _ _=>False,λ _ _=>False⟩ [some (.ref p),some (.int m),some (.int y),some (.int n)] H2:=by
  refine⟨_,rfl,_,rfl,p,rfl,f2.b,λ c a b H3 f3 hc Xp=>?_⟩;refine ou (p:=p) (xs:=[1,2,3,20]) (n:=4) rfl rfl f3.b ax ax λ x hx H4 f4=>⟨cK,λ t ht=>?_⟩;have all:∀ x∈([1,2,3,20]:List Int),1<=x/\x<=20:=ax;have Oq:=all x hx;have xt:=Ext.new (o:=.tup [.str "coins",.int n,.ref c,.int x]) ht;exact q t (.ę n a b x) _ (((S_.trans f3).trans f4).ext xt) (.tup be (.cons (.str _) (.cons (.int _) (.cons (.tup (xt _ _ ((f4.P9 f3.b) _ _ hc rfl)) (.cons (.int _) (.cons (.int _) .nil))) (.cons (.int _) .nil))))) ⟨af,af,Xp,Oq.1,Oq.2⟩ nm
 refine⟨_,rfl,rfl,_,rfl,?_⟩;by_cases e1:y=1
 ·rw [Ç (by rw [e1])]
  refine fV ⟨_,rfl,_,_,rfl,rfl,_,rfl,?_⟩;by_cases em:m>1
  ·rw [Ç em];refine fV (cA rfl f2.b (λ R r=>⟨_,rfl,_,_,rfl,rfl,⟨ax,ax⟩,r⟩) af af λ k H3 k0 kn f3=>⟨_,_,rfl,rfl,_,rfl,p,rfl,f3.b,λ c a b H4 f4 hc Xp=>⟨cK,λ t ht=>?_⟩⟩);have xt:=Ext.new (o:=.tup [.str "pairs",.int (1+k),.ref c]) ht;exact q t (.pairs (1+k) a b) _ (((S_.trans f3).trans f4).ext xt) (.tup be (.cons (.str _) (.cons (.int _) (.cons (.tup (xt _ _ hc) (.cons (.int _) (.cons (.int _) .nil))) .nil)))) ⟨af,af,Xp⟩ (by show 2*(1+k)<=m;omega)
  ·rw [Ò em];exact dj last
 ·rw [Ò (λ z=>e1 (V.int.inj z))];exact dj (dj last)
abbrev Ab:Stmt:=cP 57
theorem Hr:ai ["_law_told"] ["_law_told"] (aa Ab):=bc
def kB:Sp:=λ vs H Q _=>∃ v t,vs=[v]/\Ą H v (Rl.told t)/\t.ok/\t.kind≠3/\Q (.int t.Û) H
def kc:Sp:=λ vs H Q _=>∃ v t,vs=[v]/\Ą H v (Rl.told t)/\t.ok/\∀ H',Ext H H'->Q (.int t.Û) H'
def FE (K:Frag):TS:=bq (tW K 0 "pairs") (aY (yv (tC (.int 2)) (cI K 0 1))) aQ
def F9 (K:Frag):TS:=aY (Gc (tW K 0 "first") (cI K 0 2) (cI K 0 1))
section
variable {cdv:Value}{A:Around}{outer:List Env}{s:Shared}{H:Hp}{E:XK}
theorem EN:Bx (PS (bR aB P w K mg base ["_law_told"] "_law_folk" (aa Ab) f cdv A outer s H E).Φ ((aI Ab).getD 0 (.Pass ⟨0,0,0,0⟩)) (FE K)) :=
 ⟨aJ (aq bE (bL cB (pv 0) ay) fD (au _)) (aW (cn (ak cY ay (bL cB (pv 0) ay)))) cT⟩
theorem HW:Bx (PS (bR aB P w K mg base ["_law_told"] "_law_folk" (aa Ab) f cdv A outer s H E).Φ ((aI Ab).getD 2 (.Pass ⟨0,0,0,0⟩)) (F9 K)) :=
 ⟨cn (ig (aq bE (bL cB (pv 0) ay) fD (au _)) (bL cB (pv 0) ay) (bL cB (pv 0) ay))⟩
end
theorem DT (si:σ[i]?=some (some (.ref a)))(ha:H a=some (.tup (.str z::xs)))(h:ta σ H Q):Gc (tW K i z) ta tb σ H Q:=sX si ha (by rw [Ç rfl];exact fV h)
theorem wk (ne:y≠z)(si:σ[i]?=some (some (.ref a)))(ha:H a=some (.tup (.str y::xs)))(h:tb σ H Q):Gc (tW K i z) ta tb σ H Q:=sX si ha (by rw [Ò (λ e=>ne (V.str.inj e))];exact dj h)
theorem z7 {t:Rl}(rd:Ą H v t.told)(nk:t.kind≠3)(q:De.rt (.int t.Û) H):aA (FE K) (aA (bq (tW K 0 "blocks") t1 aQ) (F9 K)) De [some v] H:=by
 cases t with
 | blocks rs=>exact absurd rfl nk
 | first t m =>
  obtain⟨a,u,rfl,ha,_⟩:=gy rd;exact bd aC rfl ha (bd aC rfl ha (DT rfl ha (ib 2 rfl ha rfl q)))
 | one r =>
  cases r with
  | split n k =>
   obtain⟨a,rfl,ha⟩:=dG rd;exact bd aC rfl ha (bd aC rfl ha (wk aC rfl ha (ib 1 rfl ha rfl q)))
  | pairs n x y =>
   obtain⟨a,c,rfl,ha,_⟩:=dJ rd;exact dR rfl ha (dU (ib 1 rfl ha rfl ⟨_,_,rfl,rfl,.inl ⟨ax,ax⟩,q⟩))
  | ę n x y g =>
   obtain⟨a,c,rfl,ha,_⟩:=dE rd;exact bd aC rfl ha (bd aC rfl ha (wk aC rfl ha (ib 1 rfl ha rfl q)))
theorem C8 (F:ĵ K "_law_folk" "_law_folk" Ab f fd):í P w K mg base aB 1 f fd ["_law_told"] kB:=by
 refine bX F Hr λ cdv A outer s H vs Q E hr h=>?_;obtain⟨v,t,rfl,rd,ok,nk,q⟩:=h;obtain⟨d0⟩:=EN;obtain⟨d2⟩:=HW;exact⟨_,bb d0 (bb (aJ (aq bE (bL cB (pv 0) ay) fD (au _)) (aW bH) cT) (aW d2)),z7 rd nk q⟩
abbrev Gk:Scope:=gr [("_law_one",.local),("_law_folk",.globalImplicit)]
theorem vq {X:Cx}:cV X Gk [] ["_law_one"] [] []:=eF (L:=[(".0",.local),("_law_one",.local),("_law_folk",.globalImplicit)]) rfl rfl aC aC aC rfl aC aC
theorem Bf:((["_law_one"]:List Str)++([]:List Str)).Nodup:=aC
theorem nK {rs:List R0}{Q:Hp->Prop}(hb:H1 b=some (.tup ys))(ry:Ý H1 ys (rs.map R0.told))(ok:∀ r∈rs,r.ok)(l6:rs.length<=6)(hD:H1 D=none)(hd:∀ H,Ext H1 H->H D=some (.lst ((rs.map R0.Û).map V.int))->Q H) :
  ∃ W:Nat->Nat->List V->Hp->Prop,(∃ m,W 0 m [] (aj H1 D (.lst []))) /\
   ∀ i m ys H2,W i m ys H2->H2 D=some (.lst ys)/\(((t5 K b).stop i H2/\Q H2)\/((t5 K b).go i H2/\ys.length<sizeLine /\
    ∀ x H3,(t5 K b).ο i H2 x H3->∀ os:St,os.length=1->aN 0 x (os ++ []) H3 λ Ĩ H0=>(∃ ı:St,ı.length=1/\Ĩ = ı ++ [])/\cC kB [] E0 (ao (ae 0) aF) Ĩ H0 λ y H4=>H4 D=some (.lst ys)/\∃ m',m'<m/\W (i+1) m' (ys ++ [y]) (aj H4 D (.lst (ys ++ [y]))))):=by
 have ly:=ry.length;rw [Ä] at ly;refine iF (λ i zs H'=>Ext H1 H'/\zs=((rs.take i).map R0.Û).map .int) (by rw [Ü];omega) ⟨.new hD,rfl⟩ (λ i zs H' pv=>Ė.of (pv.1 _ _ hb)) ?_ ?_
 ·rintro i x zs H' ex lz ś ⟨x',rfl⟩ os Ş R k;obtain⟨o0,rfl⟩:∃ o0,os=[o0]:=by
   match os,Ş with
   | [o0],_=>exact⟨o0,rfl⟩
  have hi:i<rs.length:=by have:=(È.mp ex).1;omega
  have er:=Å hi;obtain⟨d,ed,rd⟩:=ry.get ex;rw [Ô,er] at ed;cases ed;refine⟨⟨[some x],rfl,rfl⟩,_,rfl,x,.one rs[i],rfl,rd.mono x',ok _ (Ĥ hi),(by have:=rs[i].ā;show rs[i].kind≠3;omega),k _ H' ś ⟨aV _ x' hD,?_⟩⟩
  rw [aM er,Ð,Ð];rfl
 ·rintro zs H' lz ś ⟨x',rfl⟩;rw [ly,á] at ś;exact hd H' x' ś
theorem Fo (F:ĵ K "_law_folk" "_law_folk" Ab f fd) (A1:Df P w K mg base aB 1 "_law_folk" ["_law_told"] kB a1 d1) (ms:mg "sum" = none):í P w K mg base aB 2 f fd ["_law_told"] kc:=by
 refine bX F Hr λ cdv A outer s H vs Q E hr h=>?_;obtain⟨v,t,rfl,rd,ok,q⟩:=h;obtain⟨d0⟩:=EN;obtain⟨d2⟩:=HW;refine⟨_,bb d0 (bb (aJ (aq bE (bL cB (pv 0) ay) fD (au _)) (aW (cn (am (gz rfl) rfl ms ŷ (ac (dS (g:=aN 0) rfl vq (gR (bL cB (pv 0) ay)) (λ s H C fp=>cu Bf rfl (.inl rfl)) (λ s H C fp=>bZ A1 hr ag (ac (pv 0) ar))) ar)))) cT) (aW d2)),?_⟩;by_cases nk:t.kind≠3
 ·exact z7 rd nk (q H (.refl _))
 ·cases t with
  | one r=>exact absurd (by have:=r.ā;show r.kind≠3;omega) nk
  | first t m=>exact absurd (show(4:Nat)≠3 by decide) nk
  | blocks rs =>
   obtain⟨o1,o6,oo,P1⟩:=ok;obtain⟨a,b,ys,rfl,ha,hb,ry⟩:=eu rd;exact bd aC rfl ha (dR rfl ha (ib 1 rfl ha rfl ⟨b,rfl,⟨_,Ė.of hb⟩,λ D hD=>nK hb ry oo o6 hD λ H2 x2 h2=>⟨D,_,rfl,Ċ.of h2,q H2 x2⟩⟩))
end
section
variable {P:Program}{w:World}{K:Frag}{mg:cr}{base:Heap}{f a1 a2 a3:Addr}{fd d1 d2 d3:FuncData}
abbrev zT:Stmt:=cP 58
abbrev Jr:List Str:=["_law_pool_here","_law_most","_law_way","_law_told","_law_rules","_law_left","_law_k"]
theorem R6:ai Jr ["_law_pool_here","_law_most"] (aa zT):=bc
def Ck:Sp:=λ vs H Q _=>∃(p:Addr)(m:Int),vs=[.ref p,.int m]/\ě H p/\1<=m/\m<=12/\∀ a t H',PF p H H'->Ą H' (.ref a) (Rl.told t)->t.ok->t.Nn<=2->t.Û <= m->Q (.ref a) H'
def DW (te:TE):TE:=cC yN [] E0 (ao (ae 0) (ao te aF))
def Bn:List V->Hp->VK->Prop:=λ xs H Q=>∃ i j,xs=[.int i,.int j]/\Q (.int (if j<i then j else i)) H
def J4:TS:=bY (i4 0 (tC (.int 4))) (aN 2)
def EQ:TS:=bY (DW (ae 1)) (aN 3)
def KI (K:Frag):TS:=dW (wV K "list" cW (ae 4) (ao (DW (iH Bn (ao (ae 5) (ao (tC (.int 4)) aF)))) aF))
def Hm (K:Frag):TS:=bY (bV (gK λ i j=>.int (i-j)) (ae 5) (cC kc [] E0 (ao (bV (fE K) (ae 4) (Dq (rU λ i=>.int (-i)) (tC (.int 1)))) aF))) (aN 5)
def JH (K:Frag):TS:=bq (tB (bV (gK λ i j=>.bl (decide (i>j))) (ae 5) (tC (.int 0)))) (aA (KI K) (Hm K)) aQ
def Gm (K:Frag):TS:=fj (jb (ao (kj (tC (.int 1)) (i4 0 (tC (.int 4)))) aF)) (aN 6) (JH K)
def JL:TE:=iH zR (ao (qL (bV sw (ae 2) (tC (.int 3))) (bV sw (i4 0 (tC (.int 2))) (tC (.int 0)))) aF)
def HP (K:Frag):TS:=bY (bV (fE K) (cv (ao (cz (ao (tC (.str "blocks")) (ao (iH (FY K) (ao (ae 4) aF)) aF))) (ao (ae 3) aF))) JL) (aN 3)
def Ei (K:Frag):TS:=bq (tB (bV (gK λ i j=>.bl (decide (i>j))) (ae 2) (tC (.int 1)))) (aA (bY (cv aF) (aN 4)) (aA (bY (ae 1) (aN 5)) (aA (Gm K) (HP K)))) aQ
def FL:TS:=bq (tB (bV sw (ae 2) (tC (.int 3)))) (bY (cz (ao (tC (.str "first")) (ao (ae 3) (ao (i4 0 (kj (cC kc [] E0 (ao (ae 3) aF)) (tC (.int 1)))) aF)))) (aN 3)) aQ
def LT (K:Frag):TS:=aA J4 (aA EQ (aA (Ei K) (aA FL (aY (ae 3)))))
section
variable {cdv:Value}{A:Around}{outer:List Env}{s:Shared}{H:Hp}{E:XK}(A1:Df P w K mg base aB 1 "_law_take" ["_law_pool_here","_law_m"] fh a1 d1) (A2:Df P w K mg base aB 3 "_law_plain" ["_law_pool_here","_law_most"] yN a2 d2) (A3:Df P w K mg base aB 2 "_law_folk" ["_law_told"] kc a3 d3) (mm:mg "min" = none) (mr:mg "range" = none) (mt:mg "tuple" = none) (mi:mg "int" = none) (hr:nh 3 "_law_ruled" zT A s f cdv)
include A1 A2 A3 mm mr mt mi hr
theorem ze:Bx (PS (bR aB P w K mg base Jr "_law_ruled" (aa zT) f cdv A outer s H E).Φ ((aI zT).getD 2 (.Pass ⟨0,0,0,0⟩)) (Ei K)):=by
 have nd:=R6.nd;have Ŧ:ć 1 _:=hr.mono ax;have H_:ć 2 _:=hr.mono ax;exact Fg ⟨aq fm (pv 2) ay (au _)⟩
  (dZ (cy (i:=4) nd rfl (Or.inl rfl) ⟨cF ar⟩)
  (dZ (cy (i:=5) nd rfl (Or.inl rfl) ⟨pv 1⟩)
  (dZ ⟨cj Ā rfl (fB rfl mr (ac (ak bf ay (bZ A1 Ŧ ag (ac (pv 0) (ac ay ar)))) ar)) (cu (i:=6) nd rfl (Or.inl rfl))
   (aW (aJ (aq fm (pv 5) ay (au _))
    (bb (aR (fX ø ô ó bQ (pv 4) (ac (bZ A2 hr ag (ac (pv 0) (ac (am (kK rfl) rfl mm PyProof.Rows.boot_min (ac (pv 5) (ac ay ar))) ar))) ar)))
    (aW (dk (i:=5) nd rfl (Or.inl rfl) (ak bO (pv 5) (bZ A3 H_ ag (ac (bL l8 (pv 4) (jS gX ay)) ar)))))) cT))⟩
  (bS (cy (i:=3) nd rfl (Or.inl rfl) (HL l8 (eP (cO (dm (cO ⟨fD⟩ (cO ⟨aU bU rfl mt Þ (ac (pv 4) ar)⟩ bh))) (cO ⟨pv 3⟩ bh))) ⟨aU i3 rfl mi Ĺ (ac (fG (cQ bE (pv 2) ay (au _)) (gU (cQ bE (bZ A1 Ŧ ag (ac (pv 0) (ac ay ar))) ay (au _)))) ar)⟩))))))
  yG
theorem D5:Bx (ſ (bR aB P w K mg base Jr "_law_ruled" (aa zT) f cdv A outer s H E).Φ (aI zT) (LT K)):=by
 have nd:=R6.nd;have Ŧ:ć 1 _:=hr.mono ax;have H_:ć 2 _:=hr.mono ax;exact dZ (cy (i:=2) nd rfl (Or.inl rfl) ⟨bZ A1 Ŧ ag (ac (pv 0) (ac ay ar))⟩)
  (dZ (cy (i:=3) nd rfl (Or.inl rfl) ⟨bZ A2 hr ag (ac (pv 0) (ac (pv 1) ar))⟩)
  (dZ (ze A1 A2 A3 mm mr mt mi hr)
  (dZ ⟨aJ (aq bE (pv 2) ay (au _)) (aW (dk (i:=3) nd rfl (Or.inl rfl) (aP (ac fD (ac (pv 3) (ac (bZ A1 Ŧ ag (ac (pv 0) (ac (ak bf (bZ A3 H_ ag (ac (pv 3) ar)) ay) ar))) ar)))))) cT⟩
  (bS (cX ⟨pv 3⟩)))))
end
theorem xN {De:dq}{H:Hp}{p L:Addr}{m y:Int}{tv:V}{t0:R0}(bx:ě H p)(m1:1<=m)(Rp:m<=12)(hL:H L=some (.lst []))(QH:L≠p)(rt:Ą H tv t0.told)
  (q:∀ rs zs o5 o6 H',PF p (λ b=>if b=L then none else H b) H'->H' L=some (.lst zs)->Ý H' zs (List.map R0.told rs)->(∀ r∈rs,r.ok)->1<=rs.length->rs.length<=4->(rs.map R0.Û).sum<=m->De.nx [some (.ref p),some (.int m),some (.int y),some tv,some (.ref L),o5,o6] H') :
  Gm K De [some (.ref p),some (.int m),some (.int y),some tv,some (.ref L),some (.int m),none] H:=by
 refine dU (cA (p:=p) rfl bx (λ R r=>r) ax ax λ n H1 n0 n4 f1=>⟨1,n,rfl,rfl,?_⟩);refine⟨1+n,rfl,af,af,?_⟩;obtain⟨N,eN⟩:∃ N:Nat,1+n=((N+1:Nat):Int):=⟨n.toNat,af⟩;rw [eN,Ù];have kL:∀{H':Hp},Kept H H' p->PF p (λ b=>if b=L then none else H b) H'\/¬ ě H' p:=λ {H'} k=>by
  by_cases z:ě H' p
  ·refine .inl ⟨λ b o e n=>?_,z⟩;by_cases y:b=L
   ·rw [Ó y] at e;cases e
   ·rw [Ë y] at e;exact k _ _ e n
  ·exact .inr z
 refine gG (lo:=0) (n:=N+1) (λ i σ H'=>∃(rs:List R0)(zs:List V)(left:Int)(o6:Option V),σ=[some (.ref p),some (.int m),some (.int y),some tv,some (.ref L),some (.int left),o6]/\PF p (λ b=>if b=L then none else H b) H'/\H' L=some (.lst zs)/\Ý H' zs (rs.map R0.told)/\(∀ r∈rs,r.ok)/\rs.length<=i/\(1<=i->1<=rs.length)/\(rs.map R0.Û).sum+left=m/\0<=left) ?_ ?_ ?_
 ·refine⟨[],[],m,none,rfl,?_,f1.k _ _ hL QH,.nil,λ r h=>(nomatch h),Æ _,λ h=>absurd h ax,by simp,af⟩
  rcases kL f1.k with z | z
  ·exact z
  ·exact absurd f1.b z
 ·rintro i σ H' hi ⟨rs,zs,left,o6,rfl,pf,hz,rz,ok,li,ne,sm,l0⟩;refine⟨_,rfl,_,_,rfl,rfl,_,rfl,?_⟩;by_cases c:left>0
  ·rw [Ç c];refine fV ?_;refine⟨_,rfl,.inl ⟨rfl,_,Ċ.of hz⟩,_,rfl,_,rfl,left,4,rfl,?_⟩;obtain⟨k,ek,k1,kl⟩:∃ k,(if(4:Int)<left then(4:Int) else left)=k/\1<=k/\k<=left:=⟨_,rfl,by split <;> omega,by split <;> omega⟩
   have sn:=Qg ok;rw [ek];refine⟨p,k,rfl,pf.b,k1,af,λ t r H2 f2 rt2 ro rf=>?_⟩;have UC:=f2.k _ _ hz QH;have ko:=f2.P9 pf.b;refine⟨L,zs,.ref t,rfl,rfl,UC,by have:=rz.length;rw [Ä] at this;rw [Ü];omega,?_⟩
   have YB:=rM (o:=.lst (zs ++ [.ref t])) UC rfl;have Wo:Ý (aj H2 L (.lst (zs ++ [.ref t]))) (zs ++ [.ref t]) ((rs ++ [r]).map R0.told):=by
    rw [Ð];exact Ý.append ((rz.Ć ko (OB rs)).Ć YB (OB rs)) (.cons (rt2.Ć YB r.nl) .nil)
   have g2:aj H2 L (.lst (zs ++ [.ref t])) L=some (.lst (zs ++ [.ref t])):=be;have f3:PF p (λ b=>if b=L then none else H b) (aj H2 L (.lst (zs ++ [.ref t]))):=by
    refine⟨λ b o e n=>?_,?_⟩
    ·have nb:b≠L:=λ z=>by
      have e':(if b=L then none else H b)=some o:=e
      rw [Ó z] at e';cases e'
     rw [ad nb];exact f2.k _ _ (pf.k _ _ e n) n
    ·obtain⟨a,b,c,e,r⟩:=f2.b.ex;exact⟨a,b,c,by rw [ad QH.symm];exact e,r⟩
   show Hm K _ _ (aj H2 L (.lst (zs ++ [.ref t])));generalize aj H2 L (.lst (zs ++ [.ref t]))=H3 at Wo g2 f3 ⊢;have rl:Ą H3 (.ref t) r.told:=by
    have lz:=rz.length;rw [Ä] at lz;obtain⟨x,ex,rx⟩:=Ý.at Wo (i:=rs.length) (d:=r.told) (by rw [Ð,ç (by simp)];simp)
    rw [<- lz,ç (Æ _),Χ] at ex;cases ex;exact rx
   refine⟨_,rfl,_,rfl,1,rfl,L,_,-1,_,rfl,rfl,Ċ.of g2,lU,?_⟩;refine⟨.ref t,.one r,rfl,rl,ro,λ H4 x4=>⟨_,_,rfl,rfl,?_⟩⟩;refine⟨rs ++ [r],zs ++ [.ref t],left-r.Û,_,rfl,f3.ext x4,x4 _ _ g2,Wo.mono x4,λ z hz=>?_,by rw [Õ];simp;omega,λ _=>by simp,?_,?_⟩
   ·rcases ß.mp hz with h | h
    ·exact ok z h
    ·rw [É.mp h];exact ro
   ·rw [Ð,į];simp;omega
   ·have:r.Û <= k:=rf;omega
  ·rw [Ò c];refine dj ⟨rs,zs,left,_,rfl,pf,hz,rz,ok,af,λ _=>?_,sm,l0⟩;rcases Nat.eq_zero_or_pos rs.length with z | z
   ·have:rs=[]:=List.eq_nil_of_length_eq_zero z;subst this;have:left=m:=by simpa using sm
    omega
   ·exact z
 ·rintro σ H' ⟨rs,zs,left,o6,rfl,pf,hz,rz,ok,li,ne,sm,l0⟩;exact q rs zs _ _ H' pf hz rz ok (ne af) af af
where
 Qg {rs:List R0} (ok:∀ r∈rs,r.ok):0<=(rs.map R0.Û).sum:=gO λ n hn=>by
  obtain⟨r,hr,rfl⟩:=æ.mp hn;have:=R0.Į (ok r hr);omega
 OB (rs:List R0):ī (rs.map R0.told)=true:=eB λ d hd=>by
  obtain⟨r,_,rfl⟩:=æ.mp hd;exact r.nl
end
section
variable {P:Program}{w:World}{K:Frag}{mg:cr}{base:Heap}{f a1 a2 a3:Addr}{fd d1 d2 d3:FuncData}
theorem uO {De:dq}{H:Hp}{p L:Addr}{m y:Int}{tv:V}{t0:R0}{rs:List R0}{zs:List V}{o5 o6:Option V}(bx:ě H p)(hL:H L=some (.lst zs))(rz:Ý H zs (rs.map R0.told))(rt:Ą H tv t0.told)(ok0:t0.ok)(fo:t0.Û <= m)(okb:(Rl.blocks rs).ok)(fb:(Rl.blocks rs).Û <= m)
  (q:∀ v t H' o5 o6,PF p H H'->Ą H' v (Rl.told t)->t.ok->t.Nn<=1->t.Û <= m->De.nx [some (.ref p),some (.int m),some (.int y),some v,some (.ref L),o5,o6] H') :
  HP K De [some (.ref p),some (.int m),some (.int y),some tv,some (.ref L),o5,o6] H:=by
 refine dU (pH ?_);refine⟨_,rfl,L,zs,rfl,.inl ⟨Ċ.of hL,λ b hb=>⟨cK,λ a ha=>?_⟩⟩⟩;have x1:=Ext.new (o:=.tup zs) hb;have g1:aj H b (.tup zs) b=some (.tup zs):=be;generalize aj H b (.tup zs)=H1 at x1 g1 ha ⊢;obtain⟨H2,x2,g2,eU⟩:=gB ha (.tup [.str "blocks",.ref b]);rw [eU];refine⟨_,rfl,cK,λ l hl=>?_⟩;have x3:=Ext.new (o:=.lst [.ref a,tv]) hl;have g3:aj H2 l (.lst [.ref a,tv]) l=some (.lst [.ref a,tv]):=be;have Vx:=(bx.ext (x1.trans x2)).ne hl;generalize aj H2 l (.lst [.ref a,tv])=H3 at x3 g3 ⊢;have Ov:=(x1.trans x2).trans x3;have U1:=PF.of bx Ov;have rb3:Ą H3 (.ref a) (Rl.told (.blocks rs)):=.tup (x3 _ _ g2) (.cons (.str _) (.cons (.tup (x3 _ _ (x2 _ _ g1)) (rz.mono Ov)) .nil));have rt3:Ą H3 tv (Rl.told (.one t0)):=rt.mono Ov;have go:∀(k:Bool)(H4:Hp),PF p H3 H4->(fE K) (.ref l) (.int (if k then 1 else 0)) H4 λ v H'=>De.nx [some (.ref p),some (.int m),some (.int y),some v,some (.ref L),o5,o6] H':=λ k H4 f4=>by
  have g4:=f4.k _ _ g3 Vx;have ko:=f4.P9 U1.b;cases k with
  | true=>exact⟨l,_,1,tv,rfl,rfl,Ċ.of g4,jU (j:=1) rfl,q tv (.one t0) H4 _ _ (U1.trans f4) (rt3.Ć ko t0.nl) ok0 (Đ _) fo⟩
  | false=>exact⟨l,_,0,.ref a,rfl,rfl,Ċ.of g4,jU (j:=0) rfl,q (.ref a) (.blocks rs) H4 _ _ (U1.trans f4) (rb3.Ć ko (Rl.nl _)) okb (Æ _) fb⟩
 refine⟨_,rfl,rfl,_,rfl,?_⟩;by_cases e3:y=3
 ·rw [Ç (by rw [e3])]
  refine fV (cA (p:=p) rfl U1.b (λ R r=>r) ax ax λ r H4 r0 r2 f4=>⟨rfl,.inr ⟨_,rfl,?_⟩⟩);exact go _ H4 f4
 ·rw [Ò (λ z=>e3 (V.int.inj z))];exact dj (.inr ⟨_,rfl,go false H3 (PF.of U1.b (Ext.refl _))⟩)
theorem EK (F:ĵ K "_law_ruled" "_law_ruled" zT f fd) (A1:Df P w K mg base aB 1 "_law_take" ["_law_pool_here","_law_m"] fh a1 d1) (A2:Df P w K mg base aB 3 "_law_plain" ["_law_pool_here","_law_most"] yN a2 d2) (A3:Df P w K mg base aB 2 "_law_folk" ["_law_told"] kc a3 d3) (mm:mg "min" = none) (mr:mg "range" = none) (mt:mg "tuple" = none) (mi:mg "int" = none):í P w K mg base aB 4 f fd ["_law_pool_here","_law_most"] Ck:=by
 refine bX F R6 λ cdv A outer s H vs Q E hr h=>?_;obtain⟨p,m,rfl,bx,m1,Rp,q⟩:=h;obtain⟨ε⟩:=D5 A1 A2 A3 mm mr mt mi hr (f:=f) (cdv:=cdv) (A:=A) (outer:=outer) (s:=s) (H:=H) (E:=E);refine⟨_,ε,?_⟩;refine aK (te:=i4 0 (tC (.int 4))) (i:=2) (D:=⟨_,Q,_,_⟩) (cA (p:=p) rfl bx (λ R r=>r) ax ax λ y H1 y0 y4 f1=>?_);show aA EQ _ _ [some (.ref p),some (.int m),some (.int y),none,none,none,none] H1;refine aK (te:=DW (ae 1)) (i:=3) ⟨_,rfl,_,rfl,p,m,rfl,f1.b,m1,af,λ t0 r H2 f2 rt ro rf=>?_⟩;show aA (Ei K) _ _ [some (.ref p),some (.int m),some (.int y),some (.ref t0),none,none,none] H2;have S_:=f1.trans f2;have last:∀(v:V)(t:Rl)(o4 o5 o6:Option V)(H':Hp),PF p H H'->Ą H' v t.told->t.ok->t.Nn<=1->t.Û <= m->aA FL (aY (ae 3)) ⟨λ _ H'=>Q .Ă H',Q,λ _ _=>False,λ _ _=>False⟩ [some (.ref p),some (.int m),some (.int y),some v,o4,o5,o6] H':=λ v t o4 o5 o6 H' f' rt ok hg fo=>by
  have fk:=Rl.Į ok;obtain⟨va,rfl⟩:∃ a,v=.ref a:=PU rt;refine⟨_,rfl,rfl,_,rfl,?_⟩;by_cases e3:y=3
  ·rw [Ç (by rw [e3])]
   refine fV ⟨_,rfl,pb (p:=p) (Pm:=λ x=>x=t.Û + 1) rfl (λ R k=>dU ⟨_,rfl,_,t,rfl,rt,ok,λ H3 x3=>⟨_,_,rfl,rfl,k _ H3 (PF.of f'.b x3) rfl⟩⟩) (λ x h=>by omega) λ x r H3 ex r0 rx f3=>⟨cK,λ b hb=>?_⟩⟩
   have xb:=Ext.new (o:=.tup [.str "first",.ref va,.int r]) hb;refine⟨_,rfl,q b (.first t r) _ ((f'.trans f3).ext xb) (.tup be (.cons (.str _) (.cons ((rt.Ć (f3.P9 f'.b) (Rl.nl t)).mono xb) (.cons (.int _) .nil)))) ⟨ok,r0,af⟩ (by show t.Nn+1<=2;omega) (by show r<=m;omega)⟩
  ·rw [Ò (λ z=>e3 (V.int.inj z))];exact dj ⟨_,rfl,q va t H' f' rt ok af fo⟩
 refine⟨_,rfl,_,_,rfl,rfl,_,rfl,?_⟩;by_cases c:y>1
 ·rw [Ç c];refine fV ?_;refine aK (te:=cv aF) (i:=4) ⟨cK,λ L hL=>?_⟩;have xL:=Ext.new (o:=.lst []) hL;have gL:aj H2 L (.lst []) L=some (.lst []):=be;have QH:=f2.b.ne hL;have oL:∀{H5:Hp},PF p (λ b=>if b=L then none else aj H2 L (.lst []) b) H5->PF p H2 H5:=λ f=>⟨λ b o e n=>f.k _ _ (by
   have nb:b≠L:=aT e hL;show(if b=L then none else aj H2 L (.lst []) b)=some o
   rw [Ë nb,ad nb];exact e) n,f.b⟩
  show aA (bY (ae 1) (aN 5)) _ _ [some (.ref p),some (.int m),some (.int y),some (.ref t0),some (.ref L),none,none] (aj H2 L (.lst []));generalize aj H2 L (.lst [])=H3 at xL gL oL ⊢;refine⟨_,rfl,?_⟩;refine xN (t0:=r) (f2.b.ext xL) m1 Rp gL QH (rt.mono xL) λ rs zs o5 o6 H4 f4 hL4 rz okz l1 l4 sm=>?_;have XF:=oL f4;have f04:=S_.trans XF;have rt4:=rt.Ć (XF.P9 f2.b) r.nl;refine uO XF.b hL4 rz rt4 ro rf ⟨l1,af,okz,af⟩ sm λ v t H5 o5 o6 f5 rv ok hg fo=>?_;exact last v t _ _ _ H5 (f04.trans f5) rv ok hg fo
 ·rw [Ò c];exact dj (last _ (.one r) _ _ _ H2 S_ rt ro (Đ _) rf)
where
 PU {H:Hp} {v:V} {t:Rl} (rt:Ą H v t.told):∃ a,v=.ref a:=by
  cases t with
  | one r =>
   cases r with
   | split n k=>obtain⟨a,e,_⟩:=dG rt;exact⟨a,e⟩
   | pairs n x y=>obtain⟨a,_,e,_⟩:=dJ rt;exact⟨a,e⟩
   | ę n x y g=>obtain⟨a,_,e,_⟩:=dE rt;exact⟨a,e⟩
  | blocks rs=>obtain⟨a,_,_,e,_⟩:=eu rt;exact⟨a,e⟩
  | first t m=>obtain⟨a,_,e,_⟩:=gy rt;exact⟨a,e⟩
end
section
variable {P:Program}{w:World}{K:Frag}{mg:cr}{base:Heap}{C:Nat->Addr}{CR CN CS CT CM f0 f1 f2 f3 f4:Addr}{e0 e1 e2 e3 e4:FuncData}
abbrev xc:Stmt:=cP 59
theorem HC:ai ["_law_told"] ["_law_told"] (aa xc):=bc
def kh (C:Nat->Addr)(n:Nat):Sp:=λ vs H Q _=>∃ v t,vs=[v]/\Ą H v (Rl.told t)/\t.ok/\t.Nn<=n/\∀ x H',Ext H H'->Ru C H' t (.ref x)->Q (.ref x) H'
abbrev BB (i:Nat):Stmt:=(aI xc).getD i (.Pass ⟨0,0,0,0⟩)
def Bl (K:Frag)(C:Nat->Addr)(CN:Addr):TS:=bq (tW K 0 "split") (aY (gh (C 0) (qJ C CN) [] E0 (ao (cI K 0 1) (ao (cI K 0 2) aF)))) aQ
def BA (K:Frag)(C:Nat->Addr)(CN CS:Addr):TS:=bq (tW K 0 "pairs") (aY (gh (C 1) (qP C CN CS) [] E0 (ao (cI K 0 1) (ao (cI K 0 2) aF)))) aQ
def CL (K:Frag)(C:Nat->Addr)(CN CS:Addr):TS:=bq (tW K 0 "coins") (aY (gh (C 2) (qQ C CN CS) [] E0 (ao (cI K 0 1) (ao (cI K 0 2) (ao (cI K 0 3) aF))))) aQ
variable {f:Addr}{cdv:Value}{A:Around}{outer:List Env}{s:Shared}{H:Hp}{E:XK}
section
variable (L:GV P w K mg base C CN CS CT CM f0 f1 f2 f3 f4 e0 e1 e2 e3 e4)(hr:nh 7 "_law_rule" xc A s f cdv)
include L hr
theorem Ic:Bx (PS (bR aB P w K mg base ["_law_told"] "_law_rule" (aa xc) f cdv A outer s H E).Φ (BB 0) (Bl K C CN)):=by
 have VI:ć 5 _:=hr.mono ax;exact⟨aJ (aq bE (bL cB (pv 0) ay) fD (au _)) (aW (cn (iA L.k0 L.g0 VI rfl L.m0 L.b0 .nil oS (ac (bL cB (pv 0) ay) (ac (bL cB (pv 0) ay) ar))))) cT⟩
theorem GA:Bx (PS (bR aB P w K mg base ["_law_told"] "_law_rule" (aa xc) f cdv A outer s H E).Φ (BB 1) (BA K C CN CS)) :=
 ⟨aJ (aq bE (bL cB (pv 0) ay) fD (au _)) (aW (cn (iA L.k1 L.g1 hr rfl L.m1 L.b1 .nil oS (ac (bL cB (pv 0) ay) (ac (bL cB (pv 0) ay) ar))))) cT⟩
theorem F8:Bx (PS (bR aB P w K mg base ["_law_told"] "_law_rule" (aa xc) f cdv A outer s H E).Φ (BB 2) (CL K C CN CS)) :=
 ⟨aJ (aq bE (bL cB (pv 0) ay) fD (au _)) (aW (cn (iA L.k2 L.g2 hr rfl L.m2 L.b2 .nil oS (ac (bL cB (pv 0) ay) (ac (bL cB (pv 0) ay) (ac (bL cB (pv 0) ay) ar)))))) cT⟩
omit L hr
end
theorem Aq {De:dq}{v:V}{r:R0}{t3:TS}(rd:Ą H v r.told)(ok:r.ok)(q:∀ x H',Ext H H'->Ru C H' (.one r) (.ref x)->De.rt (.ref x) H'):aA (Bl K C CN) (aA (BA K C CN CS) (aA (CL K C CN CS) t3)) De [some v] H:=by
 cases r with
 | split n k =>
  obtain⟨a,rfl,ha⟩:=dG rd;exact dR rfl ha (ue (λ R r=>ib 1 rfl ha rfl (ib 2 rfl ha rfl r)) ok q)
 | pairs n x y =>
  obtain⟨a,c,rfl,ha,rc⟩:=dJ rd;exact bd aC rfl ha (dR rfl ha (vz (λ R r=>ib 1 rfl ha rfl (ib 2 rfl ha rfl r)) rc ok q))
 | ę n x y g =>
  obtain⟨a,c,rfl,ha,rc⟩:=dE rd;exact bd aC rfl ha (bd aC rfl ha (dR rfl ha (u6 (λ R r=>ib 1 rfl ha rfl (ib 2 rfl ha rfl (ib 3 rfl ha rfl r))) rc ok q)))
theorem CI {fd:FuncData}(F:ĵ K "_law_rule" "_law_rule" xc f fd) (L:GV P w K mg base C CN CS CT CM f0 f1 f2 f3 f4 e0 e1 e2 e3 e4):í P w K mg base aB 8 f fd ["_law_told"] (kh C 0):=by
 refine bX F HC λ cdv A outer s H vs Q E hr h=>?_;obtain⟨v,t,rfl,rd,ok,hg,q⟩:=h;obtain⟨q0⟩:=Ic L hr (f:=f) (cdv:=cdv) (A:=A) (outer:=outer) (s:=s) (H:=H) (E:=E);obtain⟨q1⟩:=GA L hr (f:=f) (cdv:=cdv) (A:=A) (outer:=outer) (s:=s) (H:=H) (E:=E);obtain⟨q2⟩:=F8 L hr (f:=f) (cdv:=cdv) (A:=A) (outer:=outer) (s:=s) (H:=H) (E:=E);refine⟨_,bb q0 (bb q1 (bb q2 (bb bH (aW bH)))),?_⟩;cases t with
 | one r=>exact Aq (De:=⟨_,Q,_,_⟩) rd ok q
 | blocks rs=>exact absurd hg (by show ¬ 1<=0;decide)
 | first t m=>exact absurd hg (by show ¬ t.Nn+1<=0;omega)
abbrev Hl:Scope:=gr [("_law_one",.local),("_law_rule",.globalImplicit)]
theorem CC {X:Cx}:cV X Hl [] ["_law_one"] [] [] :=
 eF (L:=[(".0",.local),("_law_one",.local),("_law_rule",.globalImplicit)]) rfl rfl aC aC aC rfl aC aC
theorem yL {K:Frag}{H1:Hp}{D b:Addr}{ys:List V}{rs:List R0}{n:Nat}{Q:Hp->Prop}(hb:H1 b=some (.tup ys))(ry:Ý H1 ys (rs.map R0.told))(ok:∀ r∈rs,r.ok)(l6:rs.length<=6)(hD:H1 D=none)(hd:∀ ws H,Ext H1 H->H D=some (.lst ws)->Τ C H rs ws->Q H) :
  ∃ W:Nat->Nat->List V->Hp->Prop,(∃ m,W 0 m [] (aj H1 D (.lst []))) /\
   ∀ i m ys H2,W i m ys H2->H2 D=some (.lst ys)/\(((t5 K b).stop i H2/\Q H2)\/((t5 K b).go i H2/\ys.length<sizeLine /\
    ∀ x H3,(t5 K b).ο i H2 x H3->∀ os:St,os.length=1->aN 0 x (os ++ []) H3 λ Ĩ H0=>(∃ ı:St,ı.length=1/\Ĩ = ı ++ [])/\cC (kh C n) [] E0 (ao (ae 0) aF) Ĩ H0 λ y H4=>H4 D=some (.lst ys)/\∃ m',m'<m/\W (i+1) m' (ys ++ [y]) (aj H4 D (.lst (ys ++ [y]))))):=by
 have ly:=ry.length;rw [Ä] at ly;refine iF (a:=b) (xs:=ys) (λ i zs H'=>Ext H1 H'/\Τ C H' (rs.take i) zs) (by rw [Ü];omega) ⟨Ext.new hD,rfl,λ i r w h=>by simp at h⟩ (λ i zs H' pv=>Ė.of (pv.1 _ _ hb)) ?_ ?_
 ·rintro i x zs H' ex lz ś ⟨x',al⟩ os Ş R k;obtain⟨o0,rfl⟩:∃ o0,os=[o0]:=by
   match os,Ş with
   | [o0],_=>exact⟨o0,rfl⟩
  have hi:i<rs.length:=by have:=(È.mp ex).1;omega
  have er:=Å hi;obtain⟨d,ed,rd⟩:=ry.get ex;rw [Ô,er] at ed;cases ed;refine⟨⟨[some x],rfl,rfl⟩,_,rfl,x,.one rs[i],rfl,rd.mono x',ok _ (Ĥ hi),Đ _,λ y H4 x4 ru=>k _ H4 (x4 _ _ ś) ⟨aV _ (x'.trans x4) hD,?_⟩⟩;rw [aM er];exact(wC (al.ext x4) ru).Ē (zD _ (x4 _ _ ś))
 ·rintro zs H' lz ś ⟨x',al⟩;rw [ly,á] at al;exact hd zs H' x' ś al
theorem At {fd:FuncData}{n:Nat}(F:ĵ K "_law_rule" "_law_rule" xc f fd) (L:GV P w K mg base C CN CS CT CM f0 f1 f2 f3 f4 e0 e1 e2 e3 e4) (A1:Df P w K mg base aB (8+n) "_law_rule" ["_law_told"] (kh C n) f fd):í P w K mg base aB (8+(n+1)) f fd ["_law_told"] (kh C (n+1)):=by
 refine bX F HC λ cdv A outer s H vs Q E hr h=>?_;obtain⟨v,t,rfl,rd,ok,hg,q⟩:=h;have WY:ć 7 _:=hr.mono (show 7<=8+n by omega)
 have VI:ć 5 _:=hr.mono (show 5<=8+n by omega)
 obtain⟨q0⟩:=Ic L WY (f:=f) (cdv:=cdv) (A:=A) (outer:=outer) (s:=s) (H:=H) (E:=E);obtain⟨q1⟩:=GA L WY (f:=f) (cdv:=cdv) (A:=A) (outer:=outer) (s:=s) (H:=H) (E:=E);obtain⟨q2⟩:=F8 L WY (f:=f) (cdv:=cdv) (A:=A) (outer:=outer) (s:=s) (H:=H) (E:=E);refine⟨aA (Bl K C CN) (aA (BA K C CN CS) (aA (CL K C CN CS) (aA (bq (tW K 0 "blocks") (aY (gh (C 3) (rW K C CT CM) [] E0 (ao (jX (tu K (cI K 0 1)) 1 [] (aN 0) (cC (kh C n) [] E0 (ao (ae 0) aF))) aF))) aQ) (aY (gh (C 4) (qT C CN) [] E0 (ao (cC (kh C n) [] E0 (ao (cI K 0 1) aF)) (ao (cI K 0 2) aF))))))),
  bb q0 (bb q1 (bb q2 (bb (aJ (aq bE (bL cB (pv 0) ay) fD (au _)) (aW (cn (iA L.k3 L.g3 VI rfl L.m3 L.b3 .nil oS (ac (dS (te:=cC (kh C n) [] E0 (ao (ae 0) aF)) (g:=aN 0) rfl CC (gR (bL cB (pv 0) ay)) (λ s H C fp=>by exact cu (i:=0) Bf rfl (.inl rfl)) (λ s H C fp=>by exact bZ A1 hr ag (ac (pv 0) ar))) ar)))) cT)
   (aW (cn (iA L.k4 L.g4 VI rfl L.m4 L.b4 .nil oS (ac (bZ A1 hr ag (ac (bL cB (pv 0) ay) ar)) (ac (bL cB (pv 0) ay) ar)))))))),?_⟩
 cases t with
 | one r=>exact Aq (De:=⟨_,Q,_,_⟩) rd ok q
 | blocks rs =>
  obtain⟨a,b,ys,rfl,ha,hb,ry⟩:=eu rd;obtain⟨o1,o6,oo,P1⟩:=id ok;refine bd aC rfl ha (bd aC rfl ha (bd aC rfl ha (dR rfl ha ?_)));refine ib 1 rfl ha rfl ⟨b,rfl,⟨_,Ė.of hb⟩,λ D hD=>yL hb ry oo o6 hD λ ws H2 x2 h2 al=>?_⟩;exact sQ (σ:=[some (.ref a)]) (t:=λ _ _ R=>R [.ref D] H2) (λ R r=>r) h2 al ok λ x H' x' ru=>q x H' (x2.trans x') ru
 | first t m =>
  obtain⟨a,u,rfl,ha,ru⟩:=gy rd;obtain⟨o1,o2,o3⟩:=id ok;refine bd aC rfl ha (bd aC rfl ha (bd aC rfl ha (bd aC rfl ha ?_)));have Xf:t.Nn<=n:=by have:t.Nn+1<=n+1:=hg;omega
  refine ib 1 rfl ha rfl ⟨u,t,rfl,ru,o1,Xf,λ y H1 x1 r1=>ib 2 rfl (x1 _ _ ha) rfl ?_⟩;exact vC (σ:=[some (.ref a)]) (t:=λ _ _ R=>R [.ref y,.int m] H1) (λ R r=>r) r1 ok λ x H' x' ru=>q x H' (x1.trans x') ru
theorem zz {fd:FuncData}(F:ĵ K "_law_rule" "_law_rule" xc f fd) (L:GV P w K mg base C CN CS CT CM f0 f1 f2 f3 f4 e0 e1 e2 e3 e4) (b:Binds K fd ["_law_told"] []) (kp:keepIn K (.ref f)=true) (m:mg "_law_rule" = some (.ref f)):∀ n,í P w K mg base aB (8+n) f fd ["_law_told"] (kh C n)
 | 0=>CI F L
 | n+1=>At F L ⟨zz F L b kp m n,b,kp,m⟩
end
def R0.NY:R0->PyData->Bool
 | .ę _ _ _ f,.int s=>decide (-f<=s)&&decide (s<=f)
 | .ę _ _ _ _,_=>false
 | _,_=>true
def Rl.NY:Rl->PyData->Prop
 | .one r,st=>r.NY st=true
 | .blocks rs,st=>∀(i:Nat) inner r,st=.tuple [.int (i:Nat),inner]->rs[i]?=some r->r.NY inner=true
 | .first t _,st=>t.NY st
theorem R0.Ε {r:R0}(ok:r.ok):r.NY r.begin=true:=by
 cases r with
 | ę n a b f =>
  obtain⟨h1,h2,h3,h4,h5⟩:=ok;show(decide (-f<=0)&&decide ((0:Int)<=f))=true;rw [Ç af,Ç af];rfl
 | _=>rfl
theorem R0.τ {r:R0}{x:Int}{st:PyData}(ok:r.ok)(n:r.NY st=true):∀ s∈r.steps st x,r.NY s.next=true:=by
 cases r with
 | ę m a b f =>
  obtain⟨h1,h2,h3,h4,h5⟩:=ok;cases st with
  | int s =>
   have n':(decide (-f<=s)&&decide (s<=f))=true:=n;rw [ĉ,ÿ,ÿ] at n';have one:∀ y:Int,-f<=y->y<=f->(R0.ę m a b f).NY (.int y)=true:=λ y a1 a2=>by
    show(decide (-f<=y)&&decide (y<=f))=true;rw [Ç a1,Ç a2];rfl
   simp only [R0.steps];intro q hq;split at hq
   ·rw [É.mp hq];exact one _ af af
   ·split at hq
    ·rw [É.mp hq];exact one _ af af
    ·rcases é.mp hq with rfl | hq
     ·exact one _ af af
     ·rw [É.mp hq];exact one _ af af
  | _=>cases n
 | _=>intro _ _;rfl
theorem lB {rs:List R0}(oo:∀ r∈rs,r.ok)(n:Nat):(Rl.blocks rs).NY (cD rs n):=by
 intro i inner r e er;unfold cD at e;cases h:rs[n]? with
 | none =>
  rw [h] at e;injection e with e
  injection e with e1 e2
  injection e1 with e1
  have:n=i:=af;rw [this,er] at h;cases h
 | some q =>
  rw [h] at e;injection e with e
  injection e with e1 e2
  injection e1 with e1
  injection e2 with e2
  have:n=i:=af;rw [this,er] at h;cases h;rw [<- e2];exact R0.Ε (oo r (Ì er))
theorem Rl.Ε:∀{t:Rl},t.ok->t.NY t.begin
 | .one r,ok=>R0.Ε ok
 | .blocks rs,ok=>by
  obtain⟨o1,o6,oo,P1⟩:=ok;have e:(Rl.blocks rs).begin=cD rs 0:=by
   cases rs with
   | nil=>rfl
   | cons r rs=>rfl
  rw [e];exact lB oo 0
 | .first t m,ok=>Rl.Ε (t:=t) ok.1
theorem Rl.τ:∀{t:Rl}{x:Int}{st:PyData},t.ok->t.q_ x st->t.NY st->∀ s∈t.steps st x,t.NY s.next
 | .one r,x,st,ok,v,n,s,hs=>R0.τ ok n s hs
 | .blocks rs,x,st,ok,v,n,s,hs=>by
  obtain⟨i,inner,r,rfl,er,s0,s1,v⟩:=v;obtain⟨o1,o6,oo,P1⟩:=ok;have es:(Rl.blocks rs).steps (.tuple [.int (i:Nat),inner]) x=(r.steps inner (x-aw rs i)).map λ s=>{ s with next:=cg rs i x s.next }:=by
   simp only [Rl.steps,Int.toNat_natCast,er]
  rw [es] at hs;obtain⟨q,hq,rfl⟩:=æ.mp hs;have nq:=R0.τ (oo r (Ì er)) (n i inner r rfl er) q hq;show(Rl.blocks rs).NY (cg rs i x q.next);unfold cg;split
  ·exact lB oo _
  ·intro j inn r' e U2;injection e with e
   injection e with e1 e2
   injection e1 with e1
   injection e2 with e2
   have ij:i=j:=af;subst ij;rw [er] at U2;cases U2;rw [<- e2];exact nq
 | .first t m,x,st,ok,v,n,s,hs=>Rl.τ (t:=t) ok.1 v n s hs
theorem qX {t:Rl}{sc:List Int}(ok:t.ok):∀{k:Nat},(k:Int)<=t.Û->∀ r∈dY t sc k,t.NY r.st
 | 0,h,r,hr=>by
  rw [show r=⟨0,t.begin,0,1,1⟩ by simpa [dY] using hr]
  exact Rl.Ε ok
 | k+1,h,r,hr=>by
  have hk:(k:Int)<t.Û:=af;unfold dY at hr;obtain⟨q,hq,hr⟩:=ż.mp hr;obtain⟨s,hs,rfl⟩:=æ.mp hr;exact Rl.τ ok ((dw ok (ħ hk) q hq).v hk) (qX ok (ħ hk) q hq) s hs
section
variable {P:Program}{w:World}{K:Frag}{mg:cr}{base:Heap}{C:Nat->Addr}{CR:Addr}
theorem jr {A:Around}{k:Nat}(hr:ć k A):A.units+2<cLine:=by have:=hr.un;omega
abbrev By:Stmt:=cP 60
theorem IT:ai ["_law_told"] ["_law_told"] (aa By):=bc
def jB (n:Nat):Sp:=λ vs H Q _=>∃ v t,vs=[v]/\Ą H v (Rl.told t)/\t.ok/\t.Nn<=n/\∀ b H',Ext H H'->Ą H' b t.begin->Q b H'
variable {f:Addr}
def yf (K:Frag):TE:=oG (zY [(tC (.str "split"),cI K 0 2),(tC (.str "pairs"),tC .Ă),(tC (.str "coins"),tC (.int 0))]) (cI K 0 0)
theorem BU {H:Hp}{Q:VK}{v:V}{r:R0}{σ:St}(rd:Ą H v r.told)(s0:σ[0]?=some (some v))(q:∀ b H',Ext H H'->Ą H' b r.begin->Q b H'):yf K σ H Q:=by
 have go:∀{a:Addr}{z:Str}{x y:V}{xs:List V}{o:V},v=.ref a->H a=some (.tup (.str z::x::y::xs))->(bP (gP [] [(Key.inr "split",y),(Key.inr "pairs",.Ă),(Key.inr "coins",.int 0)]) (Key.inr z)=some o)->(∀ H',Ext H H'->Ą H' o r.begin)->yf K σ H Q:=by
  intro a z x y xs o e ha ev ro;subst e;intro p hp;have x1:=Ext.new (o:=.dK []) hp;have a1:=x1 _ _ ha;have g1:aj H p (.dK []) p=some (.dK []):=be;refine ib 2 s0 a1 rfl ⟨g1,[(Key.inr "split",y),(Key.inr "pairs",.Ă),(Key.inr "coins",.int 0)],rfl,by show 3<=15;decide,?_⟩
  have ne:a≠p:=λ e=>by rw [e,hp] at ha;cases ha
  have x2:Ext H (aj (aj H p (.dK [])) p (.dK (gP [] [(Key.inr "split",y),(Key.inr "pairs",.Ă),(Key.inr "coins",.int 0)]))):=aV _ x1 hp;refine ib 0 s0 (x2 _ _ ha) rfl ⟨p,o,rfl,?_,q o _ x2 (ro _ x2)⟩;rw [<- ev];exact B_.k (k:=Key.inr z) be
 cases r with
 | split n k =>
  obtain⟨a,e,ha⟩:=dG rd;exact go e ha (o:=.int k) rfl (λ H' _=>.int k)
 | pairs n x y =>
  obtain⟨a,c,e,ha,rc⟩:=dJ rd;exact go e ha (o:=.Ă) rfl (λ H' _=>.Ă)
 | ę n x y g =>
  obtain⟨a,c,e,ha,rc⟩:=dE rd;exact go e ha (o:=.int 0) rfl (λ H' _=>.int 0)
theorem vY {fd:FuncData}{n k:Nat}{t2 t3:TS}(F:ĵ K "_law_begin" "_law_begin" By f fd) (hk:∀ cdv A outer s H E,ć k (A.deeper (PyProof.Rows.envOfC "_law_begin" (aa By) s.heap.objs.size f cdv))->ſ (bR aB P w K mg base ["_law_told"] "_law_begin" (aa By) f cdv A outer s H E).Φ (aI By) (aA (bq (tW K 0 "first") t3 aQ) (aA (bq (tW K 0 "blocks") t2 aQ) (aY (yf K)))))
  (h2:∀ De a b ys (rs:List R0) H,H a=some (.tup [.str "blocks",.ref b])->H b=some (.tup ys)->Ý H ys (rs.map R0.told)->(Rl.blocks rs).ok->1<=n->(∀ b H',Ext H H'->Ą H' b (Rl.blocks rs).begin->De.rt b H')->t2 De [some (.ref a)] H)
  (h3:∀ De a u t m H,H a=some (.tup [.str "first",u,.int m])->Ą H u (Rl.told t)->t.ok->t.Nn+1<=n->(∀ b H',Ext H H'->Ą H' b t.begin->De.rt b H')->t3 De [some (.ref a)] H):í P w K mg base aB (k+1) f fd ["_law_told"] (jB n):=by
 refine bX F IT λ cdv A outer s H vs Q E hr h=>?_;obtain⟨v,t,rfl,rd,ok,hg,q⟩:=h;refine⟨_,hk cdv A outer s H E hr,?_⟩;cases t with
 | one r =>
  have fin:aY (yf K) ⟨λ _ H'=>Q .Ă H',Q,λ _ _=>False,λ _ _=>False⟩ [some v] H:=BU rd rfl q;cases r with
  | split n k =>
   obtain⟨a,rfl,ha⟩:=dG rd;exact bd aC rfl ha (bd aC rfl ha fin)
  | pairs n x y =>
   obtain⟨a,c,rfl,ha,rc⟩:=dJ rd;exact bd aC rfl ha (bd aC rfl ha fin)
  | ę n x y g =>
   obtain⟨a,c,rfl,ha,rc⟩:=dE rd;exact bd aC rfl ha (bd aC rfl ha fin)
 | blocks rs =>
  obtain⟨a,b,ys,rfl,ha,hb,ry⟩:=eu rd;exact bd aC rfl ha (dR rfl ha (h2 ⟨_,Q,_,_⟩ a b ys rs H ha hb ry ok hg q))
 | first t m =>
  obtain⟨a,u,rfl,ha,ru⟩:=gy rd;exact dR rfl ha (h3 ⟨_,Q,_,_⟩ a u t m H ha ru ok.1 hg q)
theorem qH {fd:FuncData}(F:ĵ K "_law_begin" "_law_begin" By f fd) (b:Binds K fd ["_law_told"] []) (kp:keepIn K (.ref f)=true) (m:mg "_law_begin" = some (.ref f)):∀ n,í P w K mg base aB (n+1) f fd ["_law_told"] (jB n)
 | 0=>vY (n:=0) (k:=0) (t2:=λ _ _ _=>False) (t3:=λ _ _ _=>False) F (λ cdv A outer s H E hr=>by
   have hu:=jr hr;exact bb (aJ (aq bE (bL cB (pv 0) ay) fD (au _)) (aW bH) cT) (bb (aJ (aq bE (bL cB (pv 0) ay) fD (au _)) (aW bH) cT)
    (aW (cn (iE hu (re (eX fD (bL cB (pv 0) ay) (eX fD gv (eX fD ay lQ))) rfl rfl (by simp) ax) (bL cB (pv 0) ay))))))
   (λ _ _ _ _ _ _ _ _ _ _ h=>absurd h ax) (λ _ _ _ _ _ _ _ _ _ h=>absurd h af)
 | n+1=>vY (n:=n+1) (k:=n+1) (t2:=aY (cz (ao (tC (.int 0)) (ao (cC (jB n) [] E0 (ao (bV (nJ K) (cI K 0 1) (tC (.int 0))) aF)) aF)))) (t3:=aY (cC (jB n) [] E0 (ao (cI K 0 1) aF))) F
   (λ cdv A outer s H E hr=>by
    have hu:=jr hr;exact bb (aJ (aq bE (bL cB (pv 0) ay) fD (au _)) (aW (cn (i8 (qH F b kp m n) hr rfl m kp b .nil ag (ac (bL cB (pv 0) ay) ar)))) cT)
     (bb (aJ (aq bE (bL cB (pv 0) ay) fD (au _)) (aW (cn (aP (ac ay (ac (i8 (qH F b kp m n) hr rfl m kp b .nil ag (ac (bL cB (bL cB (pv 0) ay) ay) ar)) ar))))) cT)
     (aW (cn (iE hu (re (eX fD (bL cB (pv 0) ay) (eX fD gv (eX fD ay lQ))) rfl rfl (by simp) ax) (bL cB (pv 0) ay))))))
   (λ De a b ys rs H ha hb ry ok hn q=>by
    obtain⟨o1,o6,oo,P1⟩:=id ok;cases rs with
    | nil=>exact absurd o1 (by show ¬ 1<=0;decide)
    | cons r rs =>
     cases ry with
     | cons r1 ry =>
      refine dU (ib 1 rfl ha rfl ⟨b,_,_,_,rfl,rfl,Ė.of hb,jU (j:=0) rfl,_,.one r,rfl,r1,oo r (Ö ..),Đ _,λ c H1 x1 rc=>⟨cK,λ k hk=>q _ _ (x1.trans (Ext.new hk)) (.tup be (.cons (.int _) (.cons (rc.mono (Ext.new hk)) .nil)))⟩⟩))
   (λ De a u t m H ha ru ok hn q=>ib 1 rfl ha rfl ⟨u,t,rfl,ru,ok,af,q⟩)
end
section
variable {K:Frag}{te:TE}{tt:TT}{ų:St}{D:Addr}{H1:Hp}{Q:Hp->Prop}{a:Addr}{xs:List V}
theorem xR (p:V->Bool)(hz:xs.length<sizeLine)(h1:H1 a=some (.lst xs))(hD:H1 D=none)
  (hs:∀(i:Nat) x H,xs[i]?=some x->Ext H1 H->∀ R:Bool->Hp->Prop,R (p x) H->tt (some x :: ų) H R)
  (hd:∀ H,Ext H1 H->H D=some (.lst (xs.filter p))->Q H) :
  ∃ W:Nat->Nat->List V->Hp->Prop,(∃ m,W 0 m [] (aj H1 D (.lst []))) /\
   ∀ i m ys H2,W i m ys H2->H2 D=some (.lst ys)/\(((nj K a).stop i H2/\Q H2)\/((nj K a).go i H2/\ys.length<sizeLine /\
    ∀ x H3,(nj K a).ο i H2 x H3->tt (some x :: ų) H3 λ b H0=>(b=false->∃ m',m'<m/\W (i+1) m' ys H0) /\
     (b=true->ae 0 (some x :: ų) H0 λ y H4=>H4 D=some (.lst ys)/\∃ m',m'<m/\W (i+1) m' (ys ++ [y]) (aj H4 D (.lst (ys ++ [y])))))):=by
 refine⟨λ i m ys H=>m=xs.length-i/\i<=xs.length/\ys.length<=i/\H D=some (.lst ys)/\Ext H1 H/\ys=(xs.take i).filter p,⟨xs.length,by simp,Nat.zero_le _,Nat.le_refl _,be,.new hD,rfl⟩,?_⟩
 rintro i m ys H ⟨rfl,hi,hy,k_,x',ey⟩;refine⟨k_,?_⟩;have q:Ċ K H a xs:=Ċ.of (x' _ _ h1);by_cases ř:i<xs.length
 ·refine .inr ⟨⟨xs,xs[i],q,by simp [ř]⟩,af,λ x H' y=>?_⟩
  obtain⟨e,y⟩:=y;subst e;have ex:=y xs q;have et:(xs.take (i+1)).filter p=(xs.take i).filter p++(if p x then [x] else []):=by
   rw [aM ex,ν,Ž,Κ]
  refine hs i x _ ex x' _ ⟨λ b=>⟨xs.length-(i+1),af,rfl,ř,af,k_,x',?_⟩,λ b=>⟨x,rfl,k_,xs.length-(i+1),af,rfl,ř,by rw [Õ];show ys.length+1<=i+1;omega,be,aV _ x' hD,?_⟩⟩
  ·rw [et,b,ey];simp
  ·rw [et,b,ey];simp
 ·have e:i=xs.length:=af;subst e;rw [á] at ey;subst ey;exact .inl ⟨⟨xs,q,Æ _⟩,hd H x' k_⟩
theorem uH (p:V->Bool)(hz:xs.length<sizeLine)(h1:H1 a=some (.lst xs))(hD:H1 D=none)
  (hs:∀(i:Nat) x H,xs[i]?=some x->Ext H1 H->∀ R:Bool->Hp->Prop,R (p x) H->tt (some x :: ų) H R)
  (hd:∀ H,Ext H1 H->H D=some (.lst (xs.filter p))->Q H) :
  ∃ W:Nat->Nat->List V->Hp->Prop,(∃ m,W 0 m [] (aj H1 D (.lst []))) /\
   ∀ i m ys H2,W i m ys H2->H2 D=some (.lst ys)/\(((nj K a).stop i H2/\Q H2)\/((nj K a).go i H2/\ys.length<sizeLine /\
    ∀ x H3,(nj K a).ο i H2 x H3->∀ os:St,os.length=1->aN 0 x (os ++ ų) H3 λ Ĩ H0=>(∃ ı:St,ı.length=1/\Ĩ = ı ++ ų)/\tt Ĩ H0 λ b H5=>(b=false->∃ m',m'<m/\W (i+1) m' ys H5) /\
     (b=true->ae 0 Ĩ H5 λ y H4=>H4 D=some (.lst ys)/\∃ m',m'<m/\W (i+1) m' (ys ++ [y]) (aj H4 D (.lst (ys ++ [y])))))):=by
 obtain⟨W,w0,turn⟩:=xR p hz h1 hD hs hd;refine⟨W,w0,λ i m ys H2 w=>?_⟩;obtain⟨S9,alt⟩:=turn i m ys H2 w;refine⟨S9,?_⟩;rcases alt with a | ⟨go,hl,st⟩
 ·exact .inl a
 ·refine .inr ⟨go,hl,λ x H3 y os Ş=>?_⟩;obtain⟨o,rfl⟩:∃ o,os=[o]:=by
   match os,Ş with
   | [o],_=>exact⟨o,rfl⟩
  exact⟨⟨[some x],rfl,rfl⟩,st x H3 y⟩
end
structure V5 (s:Ŝ)(T B:Nat):Prop where
 x:T*s.b=s.t*B
 b1:1<=B
 tb:T<=B
 ű:B<=100
def LV (H:Hp)(p:V)(s:Ŝ):Prop:=∃ a nv T B,p=.ref a/\H a=some (.tup [.int s.hand,.int (T:Nat),.int (B:Nat),nv])/\V5 s T B/\Ą H nv s.next
inductive AA {α:Type}(P:V->α->Prop):List V->List α->Prop
 | nil:AA P [] []
 | cons {p:V} {s:α} {ps:List V} {ss:List α}:P p s->AA P ps ss->AA P (p::ps) (s::ss)
section
variable {α:Type}{P Q:V->α->Prop}
theorem AA.imp:∀{ps:List V}{ss:List α},AA P ps ss->(∀ p,∀ s∈ss,P p s->Q p s)->AA Q ps ss
 | _,_,.nil,_=>.nil
 | _,_,.cons a b,h=>.cons (h _ _ (Ö ..) a) (b.imp λ p s hs=>h p s (Ï _ hs))
theorem AA.app:∀{ps qs:List V}{ss ts:List α},AA P ps ss->AA P qs ts->AA P (ps++qs) (ss++ts)
 | _,_,_,_,.nil,h=>h
 | _,_,_,_,.cons a b,h=>.cons a (b.app h)
theorem AA.len:∀{ps:List V}{ss:List α},AA P ps ss->ps.length=ss.length
 | _,_,.nil=>rfl
 | _,_,.cons _ b=>by rw [ì,ì,b.len]
theorem AA.get:∀{ps:List V}{ss:List α},AA P ps ss->∀{i:Nat}{p:V},ps[i]?=some p->∃ s,ss[i]?=some s/\P p s
 | _,_,.nil,i,p,h=>by simp at h
 | _,_,.cons a b,0,p,h=>by cases h;exact⟨_,rfl,a⟩
 | _,_,.cons a b,i+1,p,h=>b.get h
end
abbrev LA (H:Hp):=AA (LV H)
theorem LV.ext {H H':Hp}{p:V}{s:Ŝ}(h:LV H p s)(x:Ext H H'):LV H' p s:=by
 obtain⟨a,nv,T,B,e,ha,n,r⟩:=h;exact⟨a,nv,T,B,e,x _ _ ha,n,r.mono x⟩
theorem LV.Ē {H H':Hp}{p:V}{s:Ŝ}(h:LV H p s)(k:Mx H H')(nl:aG s.next=true):LV H' p s:=by
 obtain⟨a,nv,T,B,e,ha,n,r⟩:=h;exact⟨a,nv,T,B,e,k _ _ ha (λ _ z=>by cases z),n,r.Ē k nl⟩
theorem LA.ext {H H':Hp}(x:Ext H H'){ps:List V}{ss:List Ŝ}(h:LA H ps ss):LA H' ps ss:=h.imp λ _ _ _ a=>a.ext x
theorem LA.Ē {H H':Hp}(k:Mx H H'){ps:List V}{ss:List Ŝ}(h:LA H ps ss)(n:∀ s∈ss,aG s.next=true):LA H' ps ss:=h.imp λ _ s hs a=>a.Ē k (n s hs)
def LL (H:Hp)(l:Addr)(ss:List Ŝ):Prop:=∃ ps,H l=some (.lst ps)/\LA H ps ss
def LF (H H':Hp)(l:Addr)(ss:List Ŝ):Prop:=H l=none/\LL H' l ss
theorem rR {H:Hp}{c:V}{x y:Nat}(r:Ą H c (.tuple [.int (x:Nat),.int (y:Nat)])):∃ p,c=.ref p/\H p=some (.tup [.int (x:Nat),.int (y:Nat)]):=by
 obtain⟨p,xs,rfl,hp,rr⟩:=ck r;obtain rfl:xs=[.int x,.int y]:=jg (p:=[(x:Int),(y:Int)]) rr;exact⟨p,rfl,hp⟩
def t4 (a b c d:TE):TE:=cz (ao a (ao b (ao c (ao d aF))))
section
variable {σ:St}{H:Hp}{Q:VK}
theorem zE {a b c d:TE}{xs:List V}(ln:xs.length=4)(h:∀ H1 (R:List V->Hp->Prop),R xs H1->ao a (ao b (ao c (ao d aF))) σ H1 R)(q:∀ l p H',H l=none->Ext H H'->H' l=some (.lst [.ref p])->H' p=some (.tup xs)->Q (.ref l) H'):cv (ao (t4 a b c d) aF) σ H Q:=by
 refine h H (λ vs H1=>vs.length<=sizeLine/\∀ p,H1 p=none->1<=sizeLine/\∀ l,aj H1 p (.tup vs) l=none->Q (.ref l) (aj (aj H1 p (.tup vs)) l (.lst [.ref p]))) ⟨by rw [ln];decide,λ p hp=>⟨cK,λ l hl=>?_⟩⟩
 have x1:=Ext.new (o:=.tup xs) hp;have x2:=Ext.new (o:=.lst [.ref p]) hl;exact q l p _ (x1.back hl) (x1.trans x2) be (x2 _ _ be)
theorem Ap {a b c d a' b' c' d':TE}{xs ys:List V}(ln:xs.length=4)(ln':ys.length=4)(h:∀ H1 (R:List V->Hp->Prop),R xs H1->ao a (ao b (ao c (ao d aF))) σ H1 R)(h':∀ H1 (R:List V->Hp->Prop),R ys H1->ao a' (ao b' (ao c' (ao d' aF))) σ H1 R)
  (q:∀ l p0 p1 H',H l=none->Ext H H'->H' l=some (.lst [.ref p0,.ref p1])->p1≠p0->H' p0=some (.tup xs)->H' p1=some (.tup ys)->Q (.ref l) H'):cv (ao (t4 a b c d) (ao (t4 a' b' c' d') aF)) σ H Q:=by
 refine h H (λ vs H1=>vs.length<=sizeLine/\∀ p,H1 p=none->ao a' (ao b' (ao c' (ao d' aF))) σ (aj H1 p (.tup vs)) λ ws H2=>ws.length<=sizeLine/\∀ p1,H2 p1=none->2<=sizeLine/\∀ l,aj H2 p1 (.tup ws) l=none->Q (.ref l) (aj (aj H2 p1 (.tup ws)) l (.lst [.ref p,.ref p1]))) ⟨by rw [ln];decide,λ p hp=>h' _ _ ⟨by rw [ln'];decide,λ p1 Qs=>⟨cK,λ l hl=>?_⟩⟩⟩
 have x1:=Ext.new (o:=.tup xs) hp;have x2:=Ext.new (o:=.tup ys) Qs;have x3:=Ext.new (o:=.lst [.ref p,.ref p1]) hl;have g1:aj H p (.tup xs) p=some (.tup xs):=be;refine q l p p1 _ ((x1.trans x2).back hl) ((x1.trans x2).trans x3) be (λ e=>?_) (x3 _ _ (x2 _ _ g1)) (x3 _ _ be);rw [e,g1] at Qs;cases Qs
end
section
variable {P:Program}{w:World}{K:Frag}{mg:cr}{base:Heap}{C:Nat->Addr}{CR f a1 a2 a3 a4 n0 n1:Addr}{fd d1 d2 d3 d4:FuncData}
abbrev Ev:Stmt:=cP 62
abbrev K0:List Str:=["_law_told","_law_state","_law_at","_law_left","_law_rows","_law_top","_law_bottom"]
theorem R8:ai K0 ["_law_told","_law_state","_law_at"] (aa Ev):=bc
def ke (n:Nat):Sp:=λ vs H Q _=>∃(v st:V)(x:Int)(t:Rl)(sd:PyData),vs=[v,st,.int x]/\Ą H v (Rl.told t)/\t.ok/\t.Nn<=n/\0<=x/\x<t.Û/\t.q_ x sd/\t.NY sd/\Ą H st sd/\∀ l H',Ext H H'->LF H H' l (t.steps sd x)->Q (.ref l) H'
abbrev HA:Scope:=gr [("_law_row",.local)]
theorem Dv {X:Cx}:cV X HA [] ["_law_row"] [] []:=eF (L:=[(".0",.local),("_law_row",.local)]) rfl rfl aC aC aC rfl aC aC
theorem KF:((["_law_row"]:List Str)++([]:List Str)).Nodup:=aC
def Iz (x y:TE):TE:=cv (ao x (ao y aF))
def tI (i:Int):TE:=tC (.int i)
def K2 (a b:TE):TE:=bV (gK λ i j=>.bl (decide (i>j))) a b
def K1 (a b:TE):TE:=bV (gK λ i j=>.bl (decide (i<j))) a b
def F7 (a:TE):TE:=iH zR (ao a aF)
def J5:List V->Hp->VK->Prop:=λ xs H Q=>∃ i:Int,xs=[.int i]/\Q (.int (if i<0 then -i else i)) H
def Gs (K:Frag):TT:=tB (K2 (cI K 0 1) (tI 0))
def ED (K:Frag):TS:=bY (dX (cI K 0 1) (ae 2)) (aN 3)
def Bm:TS:=bY (Iz (t4 (tI 0) (dX (ae 3) (ae 1)) (ae 3) (ae 1)) (t4 (tI 1) (ae 1) (ae 3) (dX (ae 1) (tI 1)))) (aN 4)
def yj (K:Frag):TS:=aY (iL (fc K (ae 4)) 1 [] (aN 0) (Gs K) (ae 0))
def IY (K:Frag):TS:=bq (tW K 0 "split") (aA (ED K) (aA Bm (yj K))) aQ
def Az (K:Frag):TS:=bY (cI K 0 2) (dL K 2 (aL (aN 5) (aL (aN 6) dP)))
def ug (K:Frag):TS:=bq (tP (tW K 0 "pairs") (tB (wf (ae 1)))) (aY (cv (ao (t4 (dX (tI 1) (ae 1)) (tI 1) (tI 1) (tC .Ă)) aF))) aQ
def DX (x y:TE):TE:=Iz (t4 (tI 0) (dX (ae 6) (ae 5)) (ae 6) x) (t4 (tI 1) (ae 5) (ae 6) y)
def pI (K:Frag):TS:=bq (tW K 0 "pairs") (aY (DX (tI 0) (tI 1))) aQ
def JY:TE:=t4 (F7 (K1 (ae 1) (tI 0))) (tI 1) (tI 1) (dX (kj (ae 1) (tI 1)) (yv (tI 2) (F7 (K2 (ae 1) (tI 0)))))
def nO (K:Frag):TS:=bq (tB (bV sw (iH J5 (ao (ae 1) aF)) (cI K 0 3))) (aY (cv (ao JY aF))) aQ
def oW:TS:=aY (DX (dX (ae 1) (tI 1)) (kj (ae 1) (tI 1)))
def n5 (K:Frag):TS:=aA (IY K) (aA (Az K) (aA (ug K) (aA (pI K) (aA (nO K) oW))))
section
variable {cdv:Value}{A:Around}{outer:List Env}{s:Shared}{H:Hp}{E:XK}
theorem rX (ma:mg "abs" = none) (mi:mg "int" = none):Bx (ſ (bR aB P w K mg base K0 "_law_steps" (aa Ev) f cdv A outer s H E).Φ ((aI Ev).drop 2) (n5 K)):=by
 have nd:=R8.nd;exact dZ ⟨aJ (aq bE (bL cB (pv 0) ay) fD (au _))
   (bb (dk (i:=3) nd rfl (Or.inl rfl) (ak bO (bL cB (pv 0) ay) (pv 2)))
   (bb (Bx.h (cy (i:=4) nd rfl (Or.inl rfl) (eP (cO (dm (cO ⟨ay⟩ (cO ⟨ak bO (pv 3) (pv 1)⟩ (cO ⟨pv 3⟩ (cO ⟨pv 1⟩ bh))))) (cO (dm (cO ⟨ay⟩ (cO ⟨pv 1⟩ (cO ⟨pv 3⟩ (cO ⟨ak bO (pv 1) ay⟩ bh))))) bh)))))
   (aW (cn (jj (te:=ae 0) (tt:=Gs K) (g:=aN 0) rfl Dv (bJ (pv 4)) (λ s H C fp=>by exact cu (i:=0) KF rfl (.inl rfl)) (λ s H C fp=>by exact aq fm (bL cB (pv 0) ay) ay (au _)) (λ s H C fp=>by exact pv 0)))))) cT⟩
  (dZ ⟨gg (bL cB (pv 0) ay) (bN rfl (dB (cu (i:=5) nd rfl (Or.inl rfl)) (dB (cu (i:=6) nd rfl (Or.inl rfl)) br)))⟩
  (dZ ⟨aJ (PW.pt (qv (aq bE (bL cB (pv 0) ay) fD (au _)) (mU (jN (qM (pv 1)))))) (aW (Bx.h (cX (eP (cO (dm (cO ⟨ak bO ay (pv 1)⟩ (cO ⟨ay⟩ (cO ⟨ay⟩ (cO ⟨gv⟩ bh))))) bh))))) cT⟩
  (dZ ⟨aJ (aq bE (bL cB (pv 0) ay) fD (au _)) (aW (Bx.h (cX (eP (cO (dm (cO ⟨ay⟩ (cO ⟨ak bO (pv 6) (pv 5)⟩ (cO ⟨pv 6⟩ (cO ⟨ay⟩ bh))))) (cO (dm (cO ⟨ay⟩ (cO ⟨pv 5⟩ (cO ⟨pv 6⟩ (cO ⟨ay⟩ bh))))) bh)))))) cT⟩
  (dZ ⟨aJ (aq bE (am nX rfl ma PyProof.Rows.boot_abs (ac (pv 1) ar)) (bL cB (pv 0) ay) (au _)) (aW (Bx.h (cX (eP (cO (dm (cO ⟨aU i3 rfl mi Ĺ (ac (cQ k9 (pv 1) ay (au _)) ar)⟩ (cO ⟨ay⟩ (cO ⟨ay⟩ (cO ⟨ak bO (ak bf (pv 1) ay) (ak cY ay (aU i3 rfl mi Ĺ (ac (cQ fm (pv 1) ay (au _)) ar)))⟩ bh))))) bh))))) cT⟩
  (bS (cX (eP (cO (dm (cO ⟨ay⟩ (cO ⟨ak bO (pv 6) (pv 5)⟩ (cO ⟨pv 6⟩ (cO ⟨ak bO (pv 1) ay⟩ bh))))) (cO (dm (cO ⟨ay⟩ (cO ⟨pv 5⟩ (cO ⟨pv 6⟩ (cO ⟨ak bf (pv 1) ay⟩ bh))))) bh)))))))))
end
end
section
variable {P:Program}{w:World}{K:Frag}{mg:cr}{base:Heap}{C:Nat->Addr}{CR f a1 a2 a3 a4 n0 n1:Addr}{fd d1 d2 d3 d4:FuncData}
theorem yD {w z:Str}(ne:w≠z)(si:σ[i]?=some (some (.ref a)))(ha:H a=some (.tup (.str w::xs)))(h:u De σ H):bq (tP (tW K i z) b) t u De σ H:=sX si ha (by rw [Ò (λ e=>ne (V.str.inj e))];exact dj (dj h))
theorem rS (si:σ[i]?=some (some (.ref a)))(ha:H a=some (.tup (.str z::xs)))(h:bq b t u De σ H):bq (tP (tW K i z) b) t u De σ H:=sX si ha (by rw [Ç rfl];exact fV h)
theorem V5.low (b1:1<=b)(ab:a<=b)(ű:b<=100):V5 ⟨h,bo a b,aE a b,nd⟩ a b:=⟨by rw [RM];exact w_.symm,b1,ab,ű⟩
theorem BG (hp:H p=some (.tup [.str "split",.int n,.int k])) (x0:0<=x) (x1:x<n) (Sj:n<=20) (s0:0<=s) (s1:s<=n-x)
  (q:∀ l H',Ext H H'->LF H H' l (R0.steps (.split n k) (.int s) x)->De.rt (.ref l) H'):aA (ED K) (aA Bm (yj K)) De [some (.ref p),some (.int s),some (.int x),o3,o4,o5,o6] H:=by
 obtain⟨b,eb⟩:∃ b:Nat,n-x=(b:Int):=⟨(n-x).toNat,af⟩;obtain⟨c,rfl⟩:∃ c:Nat,s=(c:Int):=⟨s.toNat,af⟩;obtain⟨d,ed⟩:∃ d:Nat,(b:Int)-(c:Int)=(d:Int):=⟨((b:Int)-c).toNat,af⟩;refine aK (te:=dX (cI K 0 1) (ae 2)) (i:=3) (D:=De) (ib 1 rfl hp rfl ⟨_,rfl,_,_,rfl,rfl,?_⟩);show aA Bm (yj K) De [some (.ref p),some (.int (c:Nat)),some (.int x),some (.int (n-x)),o4,o5,o6] H;rw [eb];refine aK (te:=Iz (t4 (tI 0) (dX (ae 3) (ae 1)) (ae 3) (ae 1)) (t4 (tI 1) (ae 1) (ae 3) (dX (ae 1) (tI 1)))) (i:=4) (D:=De) (Ap (xs:=[.int 0,.int (d:Nat),.int (b:Nat),.int (c:Nat)]) (ys:=[.int 1,.int (c:Nat),.int (b:Nat),.int ((c:Int)-1)]) rfl rfl (λ H1 R r=>⟨_,rfl,_,rfl,_,_,rfl,rfl,_,rfl,_,rfl,?_⟩) (λ H1 R r=>⟨_,rfl,_,rfl,_,rfl,_,_,rfl,rfl,r⟩) λ l p0 p1 H5 yl y5 g5 ne k0 k1=>?_)
 ·rw [<- ed] at r;exact r
 show yj K De [some (.ref p),some (.int (c:Nat)),some (.int x),some (.int (b:Nat)),some (.ref l),o5,o6] H5;have b1:1<=b:=af;refine⟨_,rfl,l,rfl,⟨_,Ċ.of g5⟩,λ D hD=>?_⟩;refine uH (K:=K) (λ v=>if v=.ref p0 then decide (0<d) else decide (0<c)) (by show 2<sizeLine;rw [Ü];decide) g5 hD (λ i v H' ev x' R r=>?_) (λ H' x' h'=>q D H' (y5.trans x') ⟨y5.back hD,_,h',?_⟩)
 ·match i,ev with
  | 0,ev =>
   cases ev;refine⟨_,rfl,p0,_,1,_,rfl,rfl,Ė.of (x' _ _ k0),jU (j:=1) rfl,_,_,rfl,rfl,_,rfl,?_⟩;rw [Ó rfl] at r;rw [show decide (((d:Nat):Int)>0)=decide (0<d) from ĳ.mpr af];exact r
  | 1,ev =>
   cases ev;refine⟨_,rfl,p1,_,1,_,rfl,rfl,Ė.of (x' _ _ k1),jU rfl,_,_,rfl,rfl,_,rfl,?_⟩;rw [Ë (λ e=>ne (V.ref.inj e))] at r;rw [show decide (((c:Nat):Int)>0)=decide (0<c) from ĳ.mpr af];exact r
 ·have S0:LV H' (.ref p0) ⟨0,bo d b,aE d b,.int (c:Nat)⟩:=⟨p0,_,d,b,rfl,x' _ _ k0,.low b1 af af,.int _⟩;have S1:LV H' (.ref p1) ⟨1,bo c b,aE c b,.int ((c:Int)-1)⟩:=⟨p1,_,c,b,rfl,x' _ _ k1,.low b1 af af,.int _⟩;have e1:(n-x).toNat=b:=af;have e2:(n-x-(c:Int)).toNat=d:=af;show LA H' _ ((if(c:Int)<n-x then [⟨0,bo (n-x-(c:Int)).toNat (n-x).toNat,aE (n-x-(c:Int)).toNat (n-x).toNat,.int (c:Nat)⟩] else [])++(if(0:Int)<(c:Int) then [⟨1,bo ((c:Int)).toNat (n-x).toNat,aE ((c:Int)).toNat (n-x).toNat,.int ((c:Int)-1)⟩] else []))
  rw [e1,e2,Ù,Ž,Ž,Κ,Ó (rfl:V.ref p0=.ref p0),Ë (λ e=>ne (V.ref.inj e))];by_cases cd:0<d
  ·rw [Ó (Ç cd),Ó (show(c:Int)<n-x by omega)]
   by_cases cc:0<c
   ·rw [Ó (Ç cc),Ó (show(0:Int)<(c:Int) by omega)]
    exact .cons S0 (.cons S1 .nil)
   ·rw [Ë (by simpa using cc),if_neg (show ¬ (0:Int)<(c:Int) by omega)]
    exact .cons S0 .nil
  ·rw [Ë (by simpa using cd),if_neg (show ¬ (c:Int)<n-x by omega)]
   by_cases cc:0<c
   ·rw [Ó (Ç cc),Ó (show(0:Int)<(c:Int) by omega)]
    exact .cons S1 .nil
   ·rw [Ë (by simpa using cc),if_neg (show ¬ (0:Int)<(c:Int) by omega)]
    exact .nil
theorem uY {x y:TE}(ab:a<b)(ű:b<=100)(hx:∀ H1 (R:VK),R (.int i) H1->x [o0,o1,o2,o3,o4,some (.int (a:Nat)),some (.int (b:Nat))] H1 R)(hy:∀ H1 (R:VK),R (.int j) H1->y [o0,o1,o2,o3,o4,some (.int (a:Nat)),some (.int (b:Nat))] H1 R)
  (q:∀ l H',Ext H H'->LF H H' l [⟨0,((b:Int)-(a:Int)).toNat,((b:Nat):Int).toNat,.int i⟩,⟨1,((a:Nat):Int).toNat,((b:Nat):Int).toNat,.int j⟩]->Q (.ref l) H'):DX x y [o0,o1,o2,o3,o4,some (.int (a:Nat)),some (.int (b:Nat))] H Q:=by
 have e1:((b:Int)-(a:Int)).toNat=b-a:=af;have e2:(b:Int)-(a:Int)=((b-a:Nat):Int):=af;refine Ap (xs:=[.int 0,.int (b-a:Nat),.int (b:Nat),.int i]) rfl rfl (λ H1 R r=>⟨_,rfl,_,rfl,_,_,rfl,rfl,_,rfl,hx _ _ ?_⟩) (λ H1 R r=>⟨_,rfl,_,rfl,hy _ _ r⟩) λ l p0 p1 H5 yl y5 g5 ne k0 k1=>q l H5 y5 ⟨yl,_,g5,?_⟩
 ·show R [.int 0,.int ((b:Int)-(a:Int)),.int (b:Nat),.int i] H1;rw [e2];exact r
 rw [e1,Ù,Ù];exact .cons ⟨p0,_,b-a,b,rfl,k0,⟨rfl,af,af,ű⟩,.int _⟩ (.cons ⟨p1,_,a,b,rfl,k1,⟨rfl,af,af,ű⟩,.int _⟩ .nil)
theorem v5 {r:R0}(rt:Ą H v r.told)(ok:r.ok)(x0:0<=x)(x1:x<r.Û)(vs:r.q_ x sd)(na:r.NY sd=true)(rd:Ą H st sd)(q:∀ l H',Ext H H'->LF H H' l (r.steps sd x)->De.rt (.ref l) H') :
  n5 K De [some v,some st,some (.int x),o3,o4,o5,o6] H:=by
 cases r with
 | split n k =>
  obtain⟨p,rfl,hp⟩:=dG rt;obtain⟨h1,h2,h3,h4⟩:=ok;obtain⟨s,rfl,s0,s1⟩:=vs;cases rd;exact dR rfl hp (BG hp x0 x1 h2 s0 s1 q)
 | pairs n a b =>
  obtain⟨p,c,rfl,hp,rc⟩:=dJ rt;obtain⟨h1,h2,h3⟩:=ok;obtain⟨x',y',ea,eb,k1,k2,k3,kg⟩:=cS h3;subst ea eb;obtain⟨cp,rfl,hc⟩:=rR rc;have Ss:∀ h:Int,sd=.int h->st=.int h:=λ h e=>by subst e;cases rd;rfl
  refine bd aC rfl hp ?_;show aA (Az K) (aA (ug K) (aA (pI K) (aA (nO K) oW))) De [some (.ref p),some st,some (.int x),o3,o4,o5,o6] H;refine ib 2 rfl hp rfl ⟨cp,_,rfl,Ė.of hc,rfl,_,_,rfl,_,_,rfl,rfl,?_⟩;show aA (ug K) (aA (pI K) (aA (nO K) oW)) De [some (.ref p),some st,some (.int x),o3,o4,some (.int (x':Nat)),some (.int (y':Nat))] H;rcases vs with⟨pp,rfl⟩ | ⟨pp,hh⟩
  ·cases rd;refine rS rfl hp ⟨_,rfl,_,rfl,dj ?_⟩;show aA (pI K) (aA (nO K) oW) De [some (.ref p),some .Ă,some (.int x),o3,o4,some (.int (x':Nat)),some (.int (y':Nat))] H;exact dR rfl hp (uY k2 k3 (λ H1 R r=>r) (λ H1 R r=>r) q)
  ·obtain⟨h,e⟩:∃ h:Int,sd=.int h:=by rcases hh with e | e <;> exact⟨_,e⟩
   have e':=Ss h e;subst e e';refine rS rfl hp ⟨_,rfl,_,rfl,fV ?_⟩;refine zE (xs:=[.int (1-h),.int (1:Nat),.int (1:Nat),.Ă]) rfl (λ H1 R r=>⟨_,rfl,_,_,rfl,rfl,r⟩) λ l p1 H' yl xe hl Qs=>q l H' xe ⟨yl,_,hl,.cons ⟨p1,.Ă,1,1,rfl,Qs,⟨rfl,Æ _,Æ _,ax⟩,.Ă⟩ .nil⟩
 | ę n a b g =>
  obtain⟨p,c,rfl,hp,rc⟩:=dE rt;obtain⟨h1,h2,h3,h4,h5⟩:=ok;obtain⟨x',y',ea,eb,k1,k2,k3,kg⟩:=cS h3;subst ea eb;obtain⟨cp,rfl,hc⟩:=rR rc;obtain⟨s,rfl,s0,s1⟩:=vs;cases rd;have na':(decide (-g<=s)&&decide (s<=g))=true:=na;rw [ĉ,ÿ,ÿ] at na';refine bd aC rfl hp ?_;show aA (Az K) (aA (ug K) (aA (pI K) (aA (nO K) oW))) De [some (.ref p),some (.int s),some (.int x),o3,o4,o5,o6] H;refine ib 2 rfl hp rfl ⟨cp,_,rfl,Ė.of hc,rfl,_,_,rfl,_,_,rfl,rfl,?_⟩;show aA (ug K) (aA (pI K) (aA (nO K) oW)) De [some (.ref p),some (.int s),some (.int x),o3,o4,some (.int (x':Nat)),some (.int (y':Nat))] H;refine yD aC rfl hp ?_;show aA (pI K) (aA (nO K) oW) De [some (.ref p),some (.int s),some (.int x),o3,o4,some (.int (x':Nat)),some (.int (y':Nat))] H;refine bd aC rfl hp ?_;show aA (nO K) oW De [some (.ref p),some (.int s),some (.int x),o3,o4,some (.int (x':Nat)),some (.int (y':Nat))] H;refine⟨_,rfl,s,rfl,ib 3 rfl hp rfl ⟨rfl,_,rfl,?_⟩⟩;refine fR (λ c=>?_) (λ c=>?_)
  ·have c':(if s<0 then -s else s)=g:=V.int.inj (ë c)
   refine zE (xs:=[.int (if decide (s<0)=true then 1 else 0),.int (1:Nat),.int (1:Nat),.int (s+1-2*(if decide (s>0)=true then 1 else 0))]) rfl (λ H1 R r=>⟨_,rfl,_,_,rfl,rfl,.inr ⟨_,rfl,_,rfl,_,_,rfl,rfl,_,rfl,_,_,rfl,rfl,.inr ⟨_,rfl,_,_,rfl,rfl,.inl ⟨ax,ax⟩,_,_,rfl,rfl,r⟩⟩⟩) λ l p1 H' yl xe hl Qs=>q l H' xe ⟨yl,_,hl,?_⟩
   by_cases z:s<0
   ·rw [Ó z] at c';rw [Ç z,Ó rfl,Ò (show ¬ s>0 by omega),Ë ax,show s+1-2*0=s+1 by omega] at Qs
    simp only [R0.steps];rw [Ë af,Ó af];exact .cons ⟨p1,_,1,1,rfl,Qs,⟨rfl,Æ _,Æ _,ax⟩,.int _⟩ .nil
   ·rw [Ë z] at c';rw [Ò z,Ë ax,Ç (show s>0 by omega),Ó rfl,show s+1-2*1=s-1 by omega] at Qs
    simp only [R0.steps];rw [Ó af];exact .cons ⟨p1,_,1,1,rfl,Qs,⟨rfl,Æ _,Æ _,ax⟩,.int _⟩ .nil
  ·have c':¬ (if s<0 then -s else s)=g:=λ z=>c (Ç (by rw [z]))
   refine uY k2 k3 (λ H1 R r=>⟨_,rfl,_,_,rfl,rfl,r⟩) (λ H1 R r=>⟨_,rfl,_,_,rfl,rfl,r⟩) λ l H' xe sl=>q l H' xe ?_;simp only [R0.steps];by_cases z:s<0
   ·rw [Ó z] at c';rw [Ë af,Ë af];exact sl
   ·rw [Ë z] at c';rw [Ë af,Ë af];exact sl
theorem wP (F:ĵ K "_law_steps" "_law_steps" Ev f fd) (ma:mg "abs" = none) (mi:mg "int" = none):í P w K mg base aB 1 f fd ["_law_told","_law_state","_law_at"] (ke 0):=by
 refine bX F R8 λ cdv A outer s H vs Q E hr h=>?_;obtain⟨v,st,x,t,sd,rfl,rt,ok,hg,x0,x1,vs,na,rd,q⟩:=h;obtain⟨ε⟩:=rX (P:=P) (w:=w) (K:=K) (base:=base) ma mi (f:=f) (cdv:=cdv) (A:=A) (outer:=outer) (s:=s) (H:=H) (E:=E);refine⟨aA (bq (tW K 0 "first") (λ _ _ _=>False) aQ) (aA (bq (tW K 0 "blocks") (λ _ _ _=>False) aQ) (n5 K)),bb (aJ (aq bE (bL cB (pv 0) ay) fD (au _)) (aW bH) cT) (bb (aJ (aq bE (bL cB (pv 0) ay) fD (au _)) (aW bH) cT) ε),?_⟩;cases t with
 | blocks rs=>exact absurd hg (by show ¬ 1<=0;decide)
 | first t m=>exact absurd hg (by show ¬ t.Nn+1<=0;omega)
 | one r =>
  have fin:=v5 (K:=K) (De:=⟨λ _ H'=>Q .Ă H',Q,λ _ _=>False,λ _ _=>False⟩) (o3:=none) (o4:=none) (o5:=none) (o6:=none) rt ok x0 x1 vs na rd q;have go:∀{p:Addr}{w:Str}{xs:List V},v=.ref p->H p=some (.tup (.str w::xs))->w ≠ "first" -> w ≠ "blocks" -> aA (bq (tW K 0 "first") (λ _ _ _=>False) aQ) (aA (bq (tW K 0 "blocks") (λ _ _ _=>False) aQ) (n5 K)) ⟨λ _ H'=>Q .Ă H',Q,λ _ _=>False,λ _ _=>False⟩ [some v,some st,some (.int x),none,none,none,none] H:=λ {p w xs} e hp n1 n2=>by
   subst e;refine bd n1 rfl hp ?_;show aA (bq (tW K 0 "blocks") (λ _ _ _=>False) aQ) (n5 K) ⟨λ _ H'=>Q .Ă H',Q,λ _ _=>False,λ _ _=>False⟩ [some (.ref p),some st,some (.int x),none,none,none,none] H;exact bd n2 rfl hp fin
  cases r with
  | split n k =>
   obtain⟨p,e,hp⟩:=dG rt;exact go e hp aC aC
  | pairs n a b =>
   obtain⟨p,c,e,hp,rc⟩:=dJ rt;exact go e hp aC aC
  | ę n a b g =>
   obtain⟨p,c,e,hp,rc⟩:=dE rt;exact go e hp aC aC
end
theorem vd (xs:List V)(k:Nat)(h:k<=xs.length):jd xs none (some (k:Int))=xs.take k:=by
 unfold jd;rw [HT.OO,HT.PZ,Nat.min_eq_left h,List.drop_zero,Nat.sub_zero]
theorem mM {rs:List R0}{i:Nat}(h:Ý H ys (rs.map R0.told))(e:rs[i]?=some r):∃ v,ys[i]?=some v/\Ą H v r.told:=by
 have e':(rs.map R0.told)[i]?=some r.told:=by rw [Ô,e];rfl
 exact Ý.at h e'
section
variable {P:Program}{w:World}{K:Frag}{mg:cr}{base:Heap}{C:Nat->Addr}{CR f a1 a2 a3 a4 n0 n1:Addr}{fd d1 d2 d3 d4:FuncData}
abbrev En:Stmt:=cP 61
abbrev Lb:List Str:=["_law_told","_law_state","_law_at","_law_rules","_law_number","_law_amid","_law_ahead","_law_found","_law_hand","_law_top","_law_bottom","_law_later","_law_after"]
theorem TV:ai Lb ["_law_told","_law_state","_law_at"] (aa En):=bc
def w5:Sp:=λ vs H Q _=>∃(v st:V)(x:Int)(rs:List R0)(sd:PyData),vs=[v,st,.int x]/\Ą H v (Rl.blocks rs).told/\(Rl.blocks rs).ok/\(Rl.blocks rs).q_ x sd/\(Rl.blocks rs).NY sd/\Ą H st sd/\∀ l H',Ext H H'->LF H H' l ((Rl.blocks rs).steps sd x)->Q (.ref l) H'
def AX (e:TE):TE:=cC kB [] E0 (ao e aF)
def Lf (K:Frag):TE:=bV (nJ K) (ae 3) (ae 4)
def IB (K:Frag):TS:=bY (cI K 0 1) (aN 3)
def FT (K:Frag):TS:=bY (ae 1) (dL K 2 (aL (aN 4) (aL (aN 5) dP)))
def AB (K:Frag):TS:=bY (iH (rZ K) (ao (jX (tu K (HU (BZ K) (ae 3) ii (nS (ae 4)))) 1 [] (aN 0) (AX (ae 0))) aF)) (aN 6)
def yn:TS:=bY (cv aF) (aN 7)
def Iy:TE:=kj (ae 4) (tI 1)
def FZ:TS:=bY (cz (ao (ae 4) (ao (ae 11) aF))) (aN 12)
def Af (K:Frag):TS:=bq (tB (K1 Iy (sA K 3))) (bY (cz (ao Iy (ao (cC (jB 0) [] E0 (ao (bV (nJ K) (ae 3) Iy) aF)) aF))) (aN 12)) aQ
def Cy (K:Frag):TS:=bq (tB (bV sw (kj (ae 2) (tI 1)) (kj (ae 6) (AX (Lf K))))) (aA (bY (cz (ao Iy (ao (tC .Ă) aF))) (aN 12)) (Af K)) aQ
def Jc (K:Frag):TS:=dW (wV K "list" cW (ae 7) (ao (t4 (ae 8) (ae 9) (ae 10) (ae 12)) aF))
def HE (K:Frag):TS:=aA FZ (aA (Cy K) (Jc K))
def Mf (K:Frag):TG:=dL K 4 (aL (aN 8) (aL (aN 9) (aL (aN 10) (aL (aN 11) dP))))
def vU (K:Frag):TS:=fj (fc K (cC (ke 0) [] E0 (ao (Lf K) (ao (ae 5) (ao (dX (ae 2) (ae 6)) aF))))) (Mf K) (HE K)
def Ly (K:Frag):TS:=aA (IB K) (aA (FT K) (aA (AB K) (aA yn (aA (vU K) (aY (ae 7))))))
section
variable {cdv:Value}{A:Around}{outer:List Env}{s:Shared}{H:Hp}{E:XK}
theorem AN (A1:Df P w K mg base aB 1 "_law_steps" ["_law_told","_law_state","_law_at"] (ke 0) a1 d1) (A2:Df P w K mg base aB 1 "_law_folk" ["_law_told"] kB a2 d2) (A3:Df P w K mg base aB 1 "_law_begin" ["_law_told"] (jB 0) a3 d3) (ms:mg "sum" = none) (ml:mg "len" = none) (hr:nh 1 "_law_in_blocks" En A s f cdv):Bx (ſ (bR aB P w K mg base Lb "_law_in_blocks" (aa En) f cdv A outer s H E).Φ (aI En) (Ly K)):=by
 have nd:=TV.nd;exact dZ ⟨dk nd rfl (.inl rfl) (bL cB (pv 0) ay)⟩
  (dZ ⟨gg (pv 1) (bN rfl (dB (cu nd rfl (.inl rfl)) (dB (cu nd rfl (.inl rfl)) br)))⟩
  (dZ ⟨dk nd rfl (.inl rfl) (am (gz rfl) rfl ms ŷ (ac (dS rfl vq (gR (oO A8 (pv 3) q9 (rC (pv 4)))) (λ s H C fp=>cu Bf rfl (.inl rfl)) (λ s H C fp=>bZ A2 hr ag (ac (pv 0) ar))) ar))⟩
  (dZ ⟨dk nd rfl (.inl rfl) (cF ar)⟩
  (dZ ⟨cj .never rfl (bJ (bZ A1 hr ag (ac (bL cB (pv 3) (pv 4)) (ac (pv 5) (ac (ak bO (pv 2) (pv 6)) ar))))) (bN rfl (dB (cu nd rfl (.inl rfl)) (dB (cu nd rfl (.inl rfl)) (dB (cu nd rfl (.inl rfl)) (dB (cu nd rfl (.inl rfl)) br)))))
   (bb (dk nd rfl (.inl rfl) (aP (ac (pv 4) (ac (pv 11) ar))))
   (bb (aJ (aq bE (ak bf (pv 2) ay) (ak bf (pv 6) (bZ A2 hr ag (ac (bL cB (pv 3) (pv 4)) ar))) (au _))
    (bb (dk nd rfl (.inl rfl) (aP (ac (ak bf (pv 4) ay) (ac gv ar))))
    (aW (aJ (aq k9 (ak bf (pv 4) ay) (am aO rfl ml ö (ac (pv 3) ar)) (au _)) (aW (dk nd rfl (.inl rfl) (aP (ac (ak bf (pv 4) ay) (ac (bZ A3 hr ag (ac (bL cB (pv 3) (ak bf (pv 4) ay)) ar)) ar))))) cT))) cT)
   (aW (aR (fX ø ô ó bQ (pv 7) (ac (aP (ac (pv 8) (ac (pv 9) (ac (pv 10) (ac (pv 12) ar))))) ar))))))⟩
  (bS (cX ⟨pv 7⟩))))))
end
theorem wz (hb:H b=some (.tup ys))(ry:Ý H ys (rs.map R0.told))(er:rs[i]?=some r)(oo:∀ r∈rs,r.ok)(l6:rs.length<=6)(rn:Ą H nv nd)
  (q:∀ m H',Ext H H'->Ą H' (.ref m) (cg rs i x nd)->u De [some v0,some st,some (.int x),some (.ref b),some (.int (i:Nat)),some iv,some (.int (aw rs i)),o7,o8,o9,oa,some nv,some (.ref m)] H') :
  aA FZ (aA (Cy K) u) De [some v0,some st,some (.int x),some (.ref b),some (.int (i:Nat)),some iv,some (.int (aw rs i)),o7,o8,o9,oa,some nv,oc] H:=by
 have ss:=gS er;have ly:=ry.length;rw [Ä] at ly;have OS:=oo r (Ì er);obtain⟨v,ev,rv⟩:=mM ry er;refine aK (te:=cz (ao (ae 4) (ao (ae 11) aF))) (i:=12) (D:=De) ⟨_,rfl,_,rfl,cK,λ m hm=>?_⟩;show aA (Cy K) u De [some v0,some st,some (.int x),some (.ref b),some (.int (i:Nat)),some iv,some (.int (aw rs i)),o7,o8,o9,oa,some nv,some (.ref m)] (aj H m (.tup [.int (i:Nat),nv]));obtain⟨H1,x1,g1,eU⟩:=gB hm (.tup [.int (i:Nat),nv]);rw [eU];have Pw:=x1 _ _ hb;refine⟨_,rfl,_,_,rfl,rfl,_,rfl,_,rfl,_,rfl,b,ys,_,_,rfl,rfl,Ė.of Pw,jU ev,?_⟩;refine⟨v,.one r,rfl,rv.mono x1,OS,(by have:=r.ā;show r.kind≠3;omega),_,_,rfl,rfl,rfl,_,rfl,?_⟩
 refine fR (λ c=>?_) (λ c=>?_)
 ·have c':x+1=aw rs (i+1):=by
   have:x+1=aw rs i+r.Û:=V.int.inj (ë c);omega
  refine⟨_,rfl,_,_,rfl,rfl,cK,λ m2 QM=>?_⟩;show Af K { De with nx:=u De } [some v0,some st,some (.int x),some (.ref b),some (.int (i:Nat)),some iv,some (.int (aw rs i)),o7,o8,o9,oa,some nv,some (.ref m2)] (aj H1 m2 (.tup [.int ((i:Int)+1),.Ă]))
  obtain⟨H2,x2,g2,eU⟩:=gB QM (.tup [.int ((i:Int)+1),.Ă]);have g2:H2 m2=some (.tup [.int ((i+1:Nat):Int),.Ă]):=g2;rw [eU];have VR:=x2 _ _ Pw;have l_:=x1.trans x2;refine⟨_,rfl,_,_,rfl,rfl,_,rfl,b,ys,rfl,.inr (Ė.of VR),_,_,rfl,rfl,_,rfl,fR (λ d=>?_) (λ d=>?_)⟩
  ·have d':i+1<rs.length:=by
    have:(i:Int)+1<(ys.length:Nat):=ë d;omega
   have Zl:=Å d';obtain⟨v2,ev2,Rh⟩:=mM ry Zl;refine⟨_,rfl,_,_,rfl,rfl,_,rfl,_,rfl,_,_,rfl,rfl,b,ys,_,_,rfl,rfl,Ė.of VR,jU (j:=i+1) ev2,?_⟩;refine⟨v2,.one rs[i+1],rfl,Rh.mono l_,oo _ (Ĥ d'),Đ _,λ bv H3 x3 rb=>⟨cK,λ m3 hm3=>?_⟩⟩;have x4:=Ext.new (o:=.tup [.int ((i:Int)+1),bv]) hm3;refine q m3 _ ((l_.trans x3).trans x4) ?_;have e:cg rs i x nd=.tuple [.int ((i+1:Nat):Int),rs[i+1].begin]:=by
    unfold cg cD;rw [Ó c',Zl]
   rw [e];exact .tup be (.cons (.int _) (.cons (rb.mono x4) .nil))
  ·have d':¬ i+1<rs.length:=λ z=>d (Ç af);refine q m2 H2 l_ ?_;have e:cg rs i x nd=.tuple [.int ((i+1:Nat):Int),.none]:=by
    unfold cg cD;rw [Ó c',Ļ af]
   rw [e];exact .tup g2 (.cons (.int _) (.cons .Ă .nil))
 ·have c':¬ x+1=aw rs (i+1):=λ z=>c (Ç (by show V.int (x+1)=.int (aw rs i+r.Û);rw [z,ss]))
  refine q m H1 x1 ?_;unfold cg;rw [Ë c'];exact .tup g1 (.cons (.int _) (.cons (rn.mono x1) .nil))
theorem GU (F:ĵ K "_law_in_blocks" "_law_in_blocks" En f fd) (A1:Df P w K mg base aB 1 "_law_steps" ["_law_told","_law_state","_law_at"] (ke 0) a1 d1) (A2:Df P w K mg base aB 1 "_law_folk" ["_law_told"] kB a2 d2) (A3:Df P w K mg base aB 1 "_law_begin" ["_law_told"] (jB 0) a3 d3) (ms:mg "sum" = none) (ml:mg "len" = none):í P w K mg base aB 2 f fd ["_law_told","_law_state","_law_at"] w5:=by
 refine bX F TV λ cdv A outer s H vs Q E hr h=>?_;obtain⟨v0,st,x,rs,sd,rfl,rv0,ok,vs,na,rd,q⟩:=h;obtain⟨ε⟩:=AN A1 A2 A3 ms ml hr (f:=f) (cdv:=cdv) (A:=A) (outer:=outer) (s:=s) (H:=H) (E:=E);refine⟨_,ε,?_⟩;obtain⟨a,b,ys,rfl,ha,hb,ry⟩:=eu rv0;obtain⟨o1,l6,oo,P1⟩:=ok;obtain⟨i,inner,r,rfl,er,s0,s1,vr⟩:=vs;have nr:=na i inner r rfl er;have OS:=oo r (Ì er);have hi:i<rs.length:=(È.mp er).1;have ly:=ry.length;rw [Ä] at ly;obtain⟨sa,us,rfl,hs,ru⟩:=ck rd;cases ru with
 | cons r1 ru =>
  cases r1;cases ru with
  | cons Wr ru =>
   cases ru
   rename_i iv
   refine aK (te:=cI K 0 1) (i:=3) (D:=⟨_,Q,_,_⟩) (ib 1 rfl ha rfl ?_);show aA (FT K) (aA (AB K) (aA yn (aA (vU K) (aY (ae 7))))) ⟨λ _ H'=>Q .Ă H',Q,λ _ _=>False,λ _ _=>False⟩ [some (.ref a),some (.ref sa),some (.int x),some (.ref b),none,none,none,none,none,none,none,none,none] H;refine⟨_,rfl,sa,_,rfl,Ė.of hs,rfl,_,_,rfl,_,_,rfl,rfl,?_⟩;show aA (AB K) (aA yn (aA (vU K) (aY (ae 7)))) ⟨λ _ H'=>Q .Ă H',Q,λ _ _=>False,λ _ _=>False⟩ [some (.ref a),some (.ref sa),some (.int x),some (.ref b),some (.int (i:Nat)),some iv,none,none,none,none,none,none,none] H;refine aK (te:=iH (rZ K) (ao (jX (tu K (HU (BZ K) (ae 3) ii (nS (ae 4)))) 1 [] (aN 0) (AX (ae 0))) aF)) (i:=6) (D:=⟨_,Q,_,_⟩) ⟨_,rfl,_,rfl,_,rfl,b,ys,rfl,Ė.of hb,?_,λ p hp=>?_⟩
   ·rintro⟨_,h2⟩;rw [HT.OO,Nat.min_eq_left af] at h2;omega
   have x1:=Ext.new (o:=.tup (jd ys none (some (i:Int)))) hp;have g1:aj H p (.tup (jd ys none (some (i:Int)))) p=some (.tup (ys.take i)):=by rw [vd _ _ af];exact be
   generalize aj H p (.tup (jd ys none (some (i:Int))))=H1 at x1 g1 ⊢;have rt:=Ý.take i (ry.mono x1);rw [<- j'] at rt;refine⟨p,rfl,⟨_,Ė.of g1⟩,λ D hD=>nK (K:=K) g1 rt (λ r hr=>oo r (ģ hr)) (by rw [ò];omega) hD λ H2 x2 h2=>⟨D,_,rfl,Ċ.of h2,?_⟩⟩
   show aA yn (aA (vU K) (aY (ae 7))) _ [some (.ref a),some (.ref sa),some (.int x),some (.ref b),some (.int (i:Nat)),some iv,some (.int (aw rs i)),none,none,none,none,none,none] H2;have Vn:=x1.trans x2;refine aK (te:=cv aF) (i:=7) (D:=⟨_,Q,_,_⟩) ⟨cK,λ lf Os=>?_⟩;show aA (vU K) (aY (ae 7)) _ [some (.ref a),some (.ref sa),some (.int x),some (.ref b),some (.int (i:Nat)),some iv,some (.int (aw rs i)),some (.ref lf),none,none,none,none,none] (aj H2 lf (.lst []));obtain⟨H3,x3,g3,eU⟩:=gB Os (.lst []);rw [eU];have Ov:=Vn.trans x3;obtain⟨v,ev,rv⟩:=mM ry er;refine⟨_,rfl,_,rfl,b,ys,_,_,rfl,rfl,Ė.of (Ov _ _ hb),jU ev,_,rfl,_,rfl,_,rfl,_,_,rfl,rfl,?_⟩;refine⟨v,iv,x-aw rs i,.one r,inner,rfl,rv.mono Ov,OS,Đ _,af,by show x-aw rs i<r.Û;omega,vr,nr,Wr.mono Ov,λ l H4 x4 sl=>?_⟩
   obtain⟨lN,ps,hl,al⟩:=sl;have g4:=x4 _ _ g3;have Wy:l≠lf:=λ e=>by rw [e,g3] at lN;cases lN
   have gd:=(R0.ŏ OS (x:=x-aw rs i) af af vr).1;have V4:Ext H2 H4:=x3.trans x4;refine⟨l,rfl,⟨_,Ċ.of hl⟩,c7 (xs:=ps) (λ j σ H'=>Ext H2 H'/\H' l=some (.lst ps)/\Mx H4 H'/\∃(zs:List V)(o8 o9 oa ob oc:Option V),σ=[some (.ref a),some (.ref sa),some (.int x),some (.ref b),some (.int (i:Nat)),some iv,some (.int (aw rs i)),some (.ref lf),o8,o9,oa,ob,oc]/\H' lf=some (.lst zs)/\LA H' zs (((r.steps inner (x-aw rs i)).take j).map λ s=>{ s with next:=cg rs i x s.next })) ⟨V4,hl,Mx.refl _,[],none,none,none,none,none,rfl,g4,.nil⟩ ?_ ?_ ?_⟩
   ·rintro j σ H' _ ⟨_,h2,_⟩;exact Ċ.of h2
   ·rintro j pv σ H' ep ⟨e2,h2,kp,zs,o8,o9,oa,ob,oc,rfl,hz,sz⟩;obtain⟨t,et,ht⟩:=al.get ep;have et':(r.steps inner (x-aw rs i))[j]?=some t:=et;have gt:=(gd t (Ì et')).1;obtain⟨a',nv,T,B,rfl,Pk,QI,hn⟩:=ht.Ē kp gt.nl;have lj:j<(r.steps inner (x-aw rs i)).length:=(È.mp et').1;have l2:=İ r inner (x-aw rs i);have lz:zs.length<=10:=by
     have:=sz.len;rw [Ä,ò] at this;omega
    have ZQ:=Vn.trans e2;refine⟨a',_,rfl,Ė.of Pk,rfl,_,_,rfl,_,_,rfl,_,_,rfl,_,_,rfl,rfl,?_⟩;show HE K _ [some (.ref a),some (.ref sa),some (.int x),some (.ref b),some (.int (i:Nat)),some iv,some (.int (aw rs i)),some (.ref lf),some (.int t.hand),some (.int (T:Nat)),some (.int (B:Nat)),some nv,oc] H';refine wz (ZQ _ _ hb) (ry.mono ZQ) er oo l6 hn λ m H5 x5 rm=>?_;refine⟨_,rfl,.inl ⟨rfl,_,Ċ.of (x5 _ _ hz)⟩,_,rfl,_,rfl,_,rfl,_,rfl,cK,λ p hp=>?_⟩;obtain⟨H6,x6,g6,eU⟩:=gB hp (.tup [.int t.hand,.int (T:Nat),.int (B:Nat),.ref m]);rw [eU];have ND:=x5.trans x6;have Rt:=ND _ _ hz;refine⟨lf,zs,.ref p,rfl,rfl,Rt,by rw [Ü];omega,?_⟩
    have Qq:=zD (.lst (zs ++ [.ref p])) Rt;refine⟨aV _ (e2.trans ND) Os,?_,kp.trans (ND.Rr.trans Qq),_,_,_,_,_,_,rfl,be,?_⟩
    ·rw [ad Wy];exact ND _ _ h2
    ·rw [aM et',Ð];refine LA.Ē Qq (AA.app (sz.ext ND) (.cons ⟨p,.ref m,T,B,rfl,g6,⟨QI.x,QI.b1,QI.tb,QI.ű⟩,rm.mono x6⟩ .nil)) λ z hz=>?_;rcases ß.mp hz with z1 | z1
     ·obtain⟨y,hy,rfl⟩:=æ.mp z1;exact iw (gd y (ģ hy)).1.nl
     ·rw [É.mp z1];exact iw gt.nl
   ·rintro σ H' ⟨e2,h2,kp,zs,o8,o9,oa,ob,oc,rfl,hz,sz⟩;refine⟨_,rfl,q lf H' (Vn.trans e2) ⟨Vn.back Os,zs,hz,?_⟩⟩;have es:(Rl.blocks rs).steps (.tuple [.int (i:Nat),inner]) x=(r.steps inner (x-aw rs i)).map λ s=>{ s with next:=cg rs i x s.next }:=by
     simp only [Rl.steps,Int.toNat_natCast,er]
    rw [es];have ln:ps.length=(r.steps inner (x-aw rs i)).length:=al.len;rw [ln,á] at sz;exact sz
theorem zy (F:ĵ K "_law_steps" "_law_steps" Ev f fd) (b:Binds K fd ["_law_told","_law_state","_law_at"] []) (kp:keepIn K (.ref f)=true) (m:mg "_law_steps" = some (.ref f)) (ma:mg "abs" = none) (mi:mg "int" = none) (A3:Df P w K mg base aB 2 "_law_in_blocks" ["_law_told","_law_state","_law_at"] w5 a3 d3):∀ n,í P w K mg base aB (n+2) f fd ["_law_told","_law_state","_law_at"] (ke n)
 | 0=>(wP F ma mi).mono ax
 | n+1=>by
  refine bX F R8 λ cdv A outer s H vs Q E hr h=>?_;obtain⟨v,st,x,t,sd,rfl,rt,ok,hg,x0,x1,vs,na,rd,q⟩:=h;have H_:ć 2 _:=hr.mono af;obtain⟨ε⟩:=rX (P:=P) (w:=w) (K:=K) (base:=base) ma mi (f:=f) (cdv:=cdv) (A:=A) (outer:=outer) (s:=s) (H:=H) (E:=E);refine⟨aA (bq (tW K 0 "first") (aY (cC (ke n) [] E0 (ao (cI K 0 1) (ao (ae 1) (ao (ae 2) aF))))) aQ) (aA (bq (tW K 0 "blocks") (aY (cC w5 [] E0 (ao (ae 0) (ao (ae 1) (ao (ae 2) aF))))) aQ) (n5 K)),bb (aJ (aq bE (bL cB (pv 0) ay) fD (au _)) (aW (cn (i8 (zy F b kp m ma mi A3 n) hr rfl m kp b .nil ag (ac (bL cB (pv 0) ay) (ac (pv 1) (ac (pv 2) ar)))))) cT) (bb (aJ (aq bE (bL cB (pv 0) ay) fD (au _)) (aW (cn (bZ A3 H_ ag (ac (pv 0) (ac (pv 1) (ac (pv 2) ar)))))) cT) ε),?_⟩;cases t with
  | blocks rs =>
   obtain⟨a,c,ys,rfl,ha,hc,ry⟩:=eu rt;refine bd aC rfl ha ?_;show aA (bq (tW K 0 "blocks") (aY (cC w5 [] E0 (ao (ae 0) (ao (ae 1) (ao (ae 2) aF))))) aQ) (n5 K) ⟨λ _ H'=>Q .Ă H',Q,λ _ _=>False,λ _ _=>False⟩ [some (.ref a),some st,some (.int x),none,none,none,none] H;exact dR rfl ha ⟨_,rfl,_,rfl,_,rfl,.ref a,st,x,rs,sd,rfl,rt,ok,vs,na,rd,q⟩
  | first t m' =>
   obtain⟨a,u,rfl,ha,ru⟩:=gy rt;obtain⟨o1,o2,o3⟩:=ok;have Xf:t.Nn<=n:=by have:t.Nn+1<=n+1:=hg;omega
   have xm:x<m':=x1;exact dR rfl ha (ib 1 rfl ha rfl ⟨_,rfl,_,rfl,u,st,x,t,sd,rfl,ru,o1,Xf,x0,af,vs,na,rd,q⟩)
  | one r =>
   have fin:=v5 (K:=K) (De:=⟨λ _ H'=>Q .Ă H',Q,λ _ _=>False,λ _ _=>False⟩) (o3:=none) (o4:=none) (o5:=none) (o6:=none) rt ok x0 x1 vs na rd q;have go:∀{p:Addr}{w:Str}{xs:List V},v=.ref p->H p=some (.tup (.str w::xs))->w ≠ "first" -> w ≠ "blocks" -> aA (bq (tW K 0 "first") (aY (cC (ke n) [] E0 (ao (cI K 0 1) (ao (ae 1) (ao (ae 2) aF))))) aQ) (aA (bq (tW K 0 "blocks") (aY (cC w5 [] E0 (ao (ae 0) (ao (ae 1) (ao (ae 2) aF))))) aQ) (n5 K)) ⟨λ _ H'=>Q .Ă H',Q,λ _ _=>False,λ _ _=>False⟩ [some v,some st,some (.int x),none,none,none,none] H:=λ {p w xs} e hp n1 n2=>by
    subst e;refine bd n1 rfl hp ?_;exact bd n2 rfl hp fin
   cases r with
   | split n k =>
    obtain⟨p,e,hp⟩:=dG rt;exact go e hp aC aC
   | pairs n a b =>
    obtain⟨p,c,e,hp,rc⟩:=dJ rt;exact go e hp aC aC
   | ę n a b g =>
    obtain⟨p,c,e,hp,rc⟩:=dE rt;exact go e hp aC aC
end
theorem u8 {tp:Bool}{d:PyData}(h:hG tp d=true):aG d=true:=by
 have k0:∀{d},iU d=true->aG d=true:=λ {d} h=>by
  cases d with
  | int i=>rfl
  | none=>rfl
  | _=>cases h
 cases d with
 | tuple ds =>
  match ds,h with
  | [.int i,d],h =>
   have h':(tp&&iU d)=true:=h;rw [ĉ] at h';simp [aG,ī,k0 h'.2]
  | [],h | [_],h | (_::_::_::_),h=>simp [hG,iU] at h
  | [.none,_],h | [.bool _,_],h | [.str _,_],h | [.list _,_],h | [.tuple _,_],h | [.dict _,_],h=>simp [hG,iU] at h
 | int i=>rfl
 | none=>rfl
 | _=>simp [hG,iU] at h
theorem ik (t:Rl)(sc:List Int):∀ k,(dY t sc k).length<=2^k
 | 0=>by simp [dY]
 | k+1=>by
  have ih:=ik t sc k;unfold dY;have one:∀ l:List Bg,(l.flatMap λ r=>(t.steps r.st (k:Nat)).map λ s=>r.more k (sc.getD k 0) s).length<=2*l.length:=λ l=>by
   induction l with
   | nil=>simp
   | cons r l ih =>
    have:=t.İ r.st (k:Nat);simp only [List.flatMap_cons,List.length_append,List.length_map,List.length_cons];omega
  have:=one (dY t sc k);rw [Ψ];omega
structure Td (k:Nat)(r:Bg)(T B:Nat):Prop where
 x:T*r.b=r.t*B
 b1:1<=B
 tb:T<=B
 le:B<=100^k
theorem Td.more {k n:Nat}{r:Bg}{T B T2 B2:Nat}{s:Ŝ}{c:Int}(h:Td k r T B)(g:V5 s T2 B2):Td (k+1) (r.more n c s) (T*T2) (B*B2):=by
 refine⟨?_,ŋ h.b1 g.b1,Ů h.tb g.tb,by rw [Ψ];exact Ů h.le g.ű⟩
 show T*T2*(r.b*s.b)=r.t*s.t*(B*B2)
 calc T*T2*(r.b*s.b)=(T*r.b)*(T2*s.b):=by ac_rfl
  _=(r.t*B)*(s.t*B2):=by rw [h.x,g.x]
  _=r.t*s.t*(B*B2):=by ac_rfl
def U' (H:Hp)(k:Nat)(p:V)(r:Bg):Prop:=∃ a nv T B,p=.ref a/\H a=some (.tup [.int (r.d:Nat),nv,.int (T:Nat),.int (B:Nat)])/\Td k r T B/\Ą H nv r.st
abbrev Q1 (H:Hp)(k:Nat):=AA (U' H k)
theorem U'.Ē {H H':Hp}{k:Nat}{p:V}{s:Bg}(h:U' H k p s)(kp:Mx H H')(nl:aG s.st=true):U' H' k p s:=by
 obtain⟨a,nv,T,B,e,ha,n,r⟩:=h;exact⟨a,nv,T,B,e,kp _ _ ha (λ _ z=>by cases z),n,r.Ē kp nl⟩
theorem Q1.Ē {H H':Hp}{k:Nat}(kp:Mx H H'){ps:List V}{ss:List Bg}(h:Q1 H k ps ss)(n:∀ s∈ss,aG s.st=true):Q1 H' k ps ss:=h.imp λ _ s hs a=>a.Ē kp (n s hs)
def Pp (H:Hp)(k:Nat)(L:Addr)(ss:List Bg):Prop:=∃ ps,H L=some (.lst ps)/\Q1 H k ps ss
section
variable {P:Program}{w:World}{K:Frag}{mg:cr}{base:Heap}{C:Nat->Addr}{CR f a1 a2 a3 a4 n0 n1:Addr}{fd d1 d2 d3 d4:FuncData}
abbrev Ek:Stmt:=cP 63
abbrev Ld:List Str:=["_law_told","_law_rows","_law_found","_law_at","_law_longer","_law_dealing","_law_state","_law_top","_law_bottom","_law_hand","_law_more","_law_below","_law_later"]
theorem TQ:ai Ld ["_law_told"] (aa Ek):=bc
def JR (H:Hp)(t:Rl)(sc:List Int)(ls:List Addr):Prop:=∀ j La,ls[j]?=some La->Pp H j La (dY t sc j)
def t6:Sp:=λ vs H Q _=>∃(v:V)(t:Rl)(sc:List Int),vs=[v]/\Ą H v (Rl.told t)/\t.ok/\t.Nn<=2/\t.Û <= 12/\∀ L ls H',Ext H H'->H L=none->H' L=some (.lst (ls.map V.ref))->(ls.length:Int)=t.Û + 1->(∀ a∈ls,H a=none)->JR H' t sc ls->Q (.ref L) H'
def LW (a b:TE):TE:=bV (rI yA λ i j=>.int (i*2^j.toNat)) a b
def Kl:TS:=bY (cv (ao (t4 (tI 0) (cC (jB 2) [] E0 (ao (ae 0) aF)) (tI 1) (tI 1)) aF)) (aN 1)
def Fl:TS:=bY (cv (ao (ae 1) aF)) (aN 2)
def Ju (K:Frag):TS:=dW (wV K "list" cW (ae 4) (ao (t4 (kj (ae 5) (LW (ae 9) (ae 3))) (ae 12) (yv (ae 7) (ae 10)) (yv (ae 8) (ae 11))) aF))
def J8 (K:Frag):TG:=dL K 4 (aL (aN 9) (aL (aN 10) (aL (aN 11) (aL (aN 12) dP))))
def EV (K:Frag):TS:=fj (fc K (cC (ke 2) [] E0 (ao (ae 0) (ao (ae 6) (ao (ae 3) aF))))) (J8 K) (Ju K)
def Jg (K:Frag):TG:=dL K 4 (aL (aN 5) (aL (aN 6) (aL (aN 7) (aL (aN 8) dP))))
def DB (K:Frag):TS:=fj (fc K (ae 1)) (Jg K) (EV K)
def JK (K:Frag):TS:=aA (bY (cv aF) (aN 4)) (aA (DB K) (aA (bY (ae 4) (aN 1)) (dW (wV K "list" cW (ae 2) (ao (ae 1) aF)))))
def Aw (K:Frag):TS:=fj (jb (ao (cC kc [] E0 (ao (ae 0) aF)) aF)) (aN 3) (JK K)
def L9 (K:Frag):TS:=aA Kl (aA Fl (aA (Aw K) (aY (ae 2))))
section
variable {cdv:Value}{A:Around}{outer:List Env}{s:Shared}{H:Hp}{E:XK}
theorem Be (A1:Df P w K mg base aB 3 "_law_begin" ["_law_told"] (jB 2) a1 d1) (A2:Df P w K mg base aB 2 "_law_folk" ["_law_told"] kc a2 d2) (A3:Df P w K mg base aB 4 "_law_steps" ["_law_told","_law_state","_law_at"] (ke 2) a3 d3) (mr:mg "range" = none) (hr:nh 4 "_law_layers" Ek A s f cdv):Bx (ſ (bR aB P w K mg base Ld "_law_layers" (aa Ek) f cdv A outer s H E).Φ (aI Ek) (L9 K)):=by
 have nd:=TQ.nd;have H_:ć 2 _:=hr.mono ax;have Qr:ć 3 _:=hr.mono ax;exact dZ (cy (i:=1) nd rfl (Or.inl rfl) (eP (cO (dm (cO ⟨ay⟩ (cO ⟨bZ A1 Qr ag (ac (pv 0) ar)⟩ (cO ⟨ay⟩ (cO ⟨ay⟩ bh))))) bh)))
  (dZ ⟨dk (i:=2) nd rfl (Or.inl rfl) (cF (ac (pv 1) ar))⟩
  (dZ ⟨cj Ā rfl (fB rfl mr (ac (bZ A2 H_ ag (ac (pv 0) ar)) ar)) (cu (i:=3) nd rfl (Or.inl rfl))
   (bb (dk (i:=4) nd rfl (Or.inl rfl) (cF ar))
   (bb (cj Ā rfl (bJ (pv 1)) (bN rfl (dB (cu (i:=5) nd rfl (Or.inl rfl)) (dB (cu (i:=6) nd rfl (Or.inl rfl)) (dB (cu (i:=7) nd rfl (Or.inl rfl)) (dB (cu (i:=8) nd rfl (Or.inl rfl)) br)))))
    (aW (cj Ā rfl (bJ (bZ A3 hr ag (ac (pv 0) (ac (pv 6) (ac (pv 3) ar))))) (bN rfl (dB (cu (i:=9) nd rfl (Or.inl rfl)) (dB (cu (i:=10) nd rfl (Or.inl rfl)) (dB (cu (i:=11) nd rfl (Or.inl rfl)) (dB (cu (i:=12) nd rfl (Or.inl rfl)) br)))))
     (aW (aR (fX ø ô ó bQ (pv 4) (ac (aP (ac (ak bf (pv 5) (ak Ee (pv 9) (pv 3))) (ac (pv 12) (ac (ak cY (pv 7) (pv 10)) (ac (ak cY (pv 8) (pv 11)) ar))))) ar)))))))
   (bb (dk (i:=1) nd rfl (Or.inl rfl) (pv 4))
   (aW (aR (fX ø ô ó bQ (pv 2) (ac (pv 1) ar)))))))⟩
  (bS (cX ⟨pv 2⟩))))
end
end
theorem lS {t:Rl}{r:Bg}(h:hG t.tp s.next=true):aG (r.more k c s).st=true:=u8 h
section
variable {P:Program}{w:World}{K:Frag}{mg:cr}{base:Heap}{C:Nat->Addr}{CR f a1 a2 a3 a4 n0 n1:Addr}{fd d1 d2 d3 d4:FuncData}
theorem CY {k:Nat}(rv:Ą H v t.told)(ok:t.ok)(hg:t.Nn<=2)(fk:t.Û <= 12)(hk:(k:Int)<t.Û)(ro:r.ok t k)(nr:t.NY r.st)(rs:Ą H st r.st)(n:Td k r T B)
  (x0:Ext H0 H) (Xz:H0 lg=none) (gl:H lg=some (.lst zs)) (az:Q1 H (k+1) zs done) (nz:∀ s∈done,aG s.st=true) (lz:done.length<=10000)
  (q:∀ H' RU o9 oa ob oc,Ext H0 H'->H' lg=some (.lst RU)->Q1 H' (k+1) RU (done++(t.steps r.st (k:Nat)).map λ s=>r.more k c s)->De.nx [some v,some (.ref rk),some (.ref lf),some (.int (k:Nat)),some (.ref lg),some (.int (r.d:Nat)),some st,some (.int (T:Nat)),some (.int (B:Nat)),o9,oa,ob,oc] H') :
  EV K De [some v,some (.ref rk),some (.ref lf),some (.int (k:Nat)),some (.ref lg),some (.int (r.d:Nat)),some st,some (.int (T:Nat)),some (.int (B:Nat)),o9,oa,ob,oc] H:=by
 refine⟨_,rfl,_,rfl,_,rfl,v,st,(k:Nat),t,r.st,rfl,rv,ok,hg,af,hk,ro.v hk,nr,rs,λ l H4 x4 ll=>?_⟩;obtain⟨lN,ps,hl,al⟩:=ll;have Wy:l≠lg:=λ e=>by rw [e,gl] at lN;cases lN
 have gd:=c5 ok hk (ro.v hk);have l2:=t.İ r.st (k:Nat);refine⟨l,rfl,⟨_,Ċ.of hl⟩,c7 (xs:=ps) (λ j σ H'=>Ext H0 H'/\H' l=some (.lst ps)/\Mx H4 H'/\∃(zs:List V)(o9 oa ob oc:Option V),σ=[some v,some (.ref rk),some (.ref lf),some (.int (k:Nat)),some (.ref lg),some (.int (r.d:Nat)),some st,some (.int (T:Nat)),some (.int (B:Nat)),o9,oa,ob,oc]/\H' lg=some (.lst zs)/\Q1 H' (k+1) zs (done++((t.steps r.st (k:Nat)).take j).map λ s=>r.more k c s)) ⟨x0.trans x4,hl,Mx.refl _,zs,o9,oa,ob,oc,rfl,x4 _ _ gl,by rw [List.take_zero,u_,Ī];exact az.Ē x4.Rr nz⟩ ?_ ?_ ?_⟩
 ·rintro j σ H' _ ⟨_,h2,_⟩;exact Ċ.of h2
 ·rintro j pv σ H' ep ⟨e2,h2,kp,zs,o9,oa,ob,oc,rfl,hz,sz⟩;obtain⟨s,et,ht⟩:=al.get ep;have et':(t.steps r.st (k:Nat))[j]?=some s:=et;obtain⟨gs,sb,_,_⟩:=gd s (Ì et');obtain⟨a',nv,T2,B2,rfl,Pk,QI,hn⟩:=ht.Ē kp gs.nl;have lj:j<(t.steps r.st (k:Nat)).length:=(È.mp et').1;refine⟨a',_,rfl,Ė.of Pk,rfl,_,_,rfl,_,_,rfl,_,_,rfl,_,_,rfl,rfl,?_⟩;have t2:T2<=100:=Í QI.tb QI.ű;have b2:=QI.ű;have hb:-1<=s.hand/\s.hand<=1:=by rcases gs.h with e | e <;> rw [e] <;> decide
  refine⟨_,rfl,.inl ⟨rfl,_,Ċ.of hz⟩,_,rfl,_,rfl,_,rfl,_,_,rfl,rfl,⟨af,af,af⟩,_,_,rfl,rfl,_,rfl,_,rfl,_,rfl,_,_,rfl,rfl,.inr ⟨af,af⟩,_,rfl,_,rfl,_,_,rfl,rfl,.inr ⟨af,af⟩,cK,λ p hp=>?_⟩;have e1:((r.d:Nat):Int)+s.hand*2^(((k:Nat):Int).toNat)=(((r.more k c s).d:Nat):Int):=by
   show((r.d:Nat):Int)+s.hand*2^(((k:Nat):Int).toNat)=((r.d+(if s.hand=1 then 2^k else 0):Nat):Int)
   rw [Ù];rcases gs.h with e | e
   ·rw [e,Ë ax];simp
   ·rw [e,Ó rfl];simp
  have eo:HO.tup [.int (((r.d:Nat):Int)+s.hand*2^(((k:Nat):Int).toNat)),nv,.int ((T:Int)*(T2:Int)),.int ((B:Int)*(B2:Int))]=HO.tup [.int ((r.more k c s).d:Nat),nv,.int (T*T2:Nat),.int (B*B2:Nat)]:=by
   rw [e1,ğ,ğ]
  have x6:=Ext.new (o:=HO.tup [.int (((r.d:Nat):Int)+s.hand*2^(((k:Nat):Int).toNat)),nv,.int ((T:Int)*(T2:Int)),.int ((B:Int)*(B2:Int))]) hp;rw [eo] at x6 ⊢;have g6:aj H' p (.tup [.int ((r.more k c s).d:Nat),nv,.int (T*T2:Nat),.int (B*B2:Nat)]) p=some (.tup [.int ((r.more k c s).d:Nat),nv,.int (T*T2:Nat),.int (B*B2:Nat)]):=be;generalize aj H' p (.tup [.int ((r.more k c s).d:Nat),nv,.int (T*T2:Nat),.int (B*B2:Nat)])=H6 at x6 g6 ⊢;have Rt:=x6 _ _ hz;have lz':=sz.len;rw [Õ,Ä,ò] at lz';refine⟨lg,zs,.ref p,rfl,rfl,Rt,by rw [Ü];omega,?_⟩
  have Qq:=zD (.lst (zs ++ [.ref p])) Rt;refine⟨aV _ (e2.trans x6) Xz,?_,kp.trans (x6.Rr.trans Qq),_,_,_,_,_,rfl,be,?_⟩
  ·rw [ad Wy];exact x6 _ _ h2
  ·have nd:∀ y∈(done++((t.steps r.st (k:Nat)).take j).map λ s=>r.more k c s),aG y.st=true:=λ y hy=>by
    rcases ß.mp hy with z | z
    ·exact nz y z
    ·obtain⟨s',OZ,rfl⟩:=æ.mp z;exact lS (gd s' (ģ OZ)).2.1
   rw [aM et',Ð,<- N6];refine AA.app ((sz.Ē x6.Rr nd).Ē Qq nd) (.cons ?_ .nil);exact U'.Ē ⟨p,nv,T*T2,B*B2,rfl,g6,n.more QI,hn.mono x6⟩ Qq (lS sb)
 ·rintro σ H' ⟨e2,h2,kp,zs,o9,oa,ob,oc,rfl,hz,sz⟩;have ln:=al.len;rw [ln,á] at sz;exact q H' zs o9 oa ob oc e2 hz sz
theorem Db {k:Nat}(rv:Ą H0 v t.told)(ok:t.ok)(hg:t.Nn<=2)(fk:t.Û <= 12)(hk:(k:Int)<t.Û)(hrk:Pp H0 k rk (dY t sc k))(x0:Ext H0 H)(Xz:H0 lg=none)(gl:H lg=some (.lst []))
  (q:∀ H' RU o5 o6 o7 o8 o9 oa ob oc,Ext H0 H'->H' lg=some (.lst RU)->Q1 H' (k+1) RU (dY t sc (k+1))->De.nx [some v,some (.ref rk),some (.ref lf),some (.int (k:Nat)),some (.ref lg),o5,o6,o7,o8,o9,oa,ob,oc] H') :
  DB K De [some v,some (.ref rk),some (.ref lf),some (.int (k:Nat)),some (.ref lg),o5,o6,o7,o8,o9,oa,ob,oc] H:=by
 obtain⟨ps,Rw,al⟩:=hrk;have Vw:=dw (sc:=sc) ok (ħ hk);have Wz:=qX (sc:=sc) ok (ħ hk);have ln:=ik t sc k;have Rs:2^k<=4096:=Í (þ ax (show k<=12 by omega)) ax
 have fl:∀ l:List Bg,(l.flatMap λ r=>(t.steps r.st (k:Nat)).map λ s=>r.more k (sc.getD k 0) s).length<=2*l.length:=λ l=>by
  induction l with
  | nil=>simp
  | cons r l ih =>
   have:=t.İ r.st (k:Nat);simp only [List.flatMap_cons,List.length_append,List.length_map,List.length_cons];omega
 refine⟨_,rfl,rk,rfl,⟨_,Ċ.of (x0 _ _ Rw)⟩,c7 (xs:=ps) (λ i σ H'=>Ext H0 H'/\∃(zs:List V)(o5 o6 o7 o8 o9 oa ob oc:Option V),σ=[some v,some (.ref rk),some (.ref lf),some (.int (k:Nat)),some (.ref lg),o5,o6,o7,o8,o9,oa,ob,oc]/\H' lg=some (.lst zs)/\Q1 H' (k+1) zs (((dY t sc k).take i).flatMap λ r=>(t.steps r.st (k:Nat)).map λ s=>r.more k (sc.getD k 0) s)) ⟨x0,[],o5,o6,o7,o8,o9,oa,ob,oc,rfl,gl,.nil⟩ ?_ ?_ ?_⟩
 ·rintro i σ H' _ ⟨x',_⟩;exact Ċ.of (x' _ _ Rw)
 ·rintro i pv σ H' ep ⟨x',zs,o5,o6,o7,o8,o9,oa,ob,oc,rfl,hz,sz⟩;obtain⟨r,er,hr⟩:=al.get ep;obtain⟨a,nv,T,B,rfl,ha,n,rn⟩:=hr;have hm:=Ì er;refine⟨a,_,rfl,Ė.of (x' _ _ ha),rfl,_,_,rfl,_,_,rfl,_,_,rfl,_,_,rfl,rfl,?_⟩;have li:=fl ((dY t sc k).take i);rw [ò] at li;refine CY (H0:=H0) (c:=sc.getD k 0) (rv.mono x') ok hg fk hk (Vw r hm) (Wz r hm) (rn.mono x') n x' Xz hz sz (λ s hs=>?_) af λ H5 zs5 o9 oa ob oc x5 h5 s5=>⟨x5,zs5,_,_,_,_,o9,oa,ob,oc,rfl,h5,?_⟩
  ·obtain⟨r',O0,hs⟩:=ż.mp hs;obtain⟨s',OZ,rfl⟩:=æ.mp hs;have W1:=ģ O0;exact lS (c5 ok hk ((Vw r' W1).v hk) s' OZ).2.1
  ·rw [aM er,List.flatMap_append]
   simpa using s5
 ·rintro σ H' ⟨x',zs,o5,o6,o7,o8,o9,oa,ob,oc,rfl,hz,sz⟩;rw [al.len,á] at sz;exact q H' zs o5 o6 o7 o8 o9 oa ob oc x' hz sz
theorem Pp.keep (h:Pp H k L ss)(kp:Mx H H')(e:H' L=H L)(nl:∀ s∈ss,aG s.st=true):Pp H' k L ss:=by
 obtain⟨ps,hp,al⟩:=h;exact⟨ps,by rw [e];exact hp,al.Ē kp nl⟩
theorem F3 (F:ĵ K "_law_layers" "_law_layers" Ek f fd) (A1:Df P w K mg base aB 3 "_law_begin" ["_law_told"] (jB 2) a1 d1) (A2:Df P w K mg base aB 2 "_law_folk" ["_law_told"] kc a2 d2) (A3:Df P w K mg base aB 4 "_law_steps" ["_law_told","_law_state","_law_at"] (ke 2) a3 d3) (mr:mg "range" = none):í P w K mg base aB 5 f fd ["_law_told"] t6:=by
 refine bX F TQ λ cdv A outer s H vs Q E hr h=>?_;obtain⟨v,t,sc,rfl,rv,ok,hg,fk,q⟩:=h;obtain⟨ε⟩:=Be A1 A2 A3 mr hr (f:=f) (cdv:=cdv) (A:=A) (outer:=outer) (s:=s) (H:=H) (E:=E);refine⟨_,ε,?_⟩;have f0:=(Rl.Į ok).1;have OB:∀(j:Nat),(j:Int)<=t.Û->∀ s∈dY t sc j,aG s.st=true:=λ j hj s hs=>u8 (dw ok hj s hs).st;refine aK (te:=cv (ao (t4 (tI 0) (cC (jB 2) [] E0 (ao (ae 0) aF)) (tI 1) (tI 1)) aF)) (i:=1) (D:=⟨_,Q,_,_⟩) ⟨_,rfl,v,t,rfl,rv,ok,hg,λ b H1 x1 rb=>⟨cK,λ p hp=>⟨cK,λ r0 W0=>?_⟩⟩⟩;have x2:=Ext.new (o:=.tup [.int 0,b,.int 1,.int 1]) hp;have g2:aj H1 p (.tup [.int 0,b,.int 1,.int 1]) p=some (.tup [.int (0:Nat),b,.int (1:Nat),.int (1:Nat)]):=be;have x3:=Ext.new (o:=.lst [.ref p]) W0;have g3:aj (aj H1 p (.tup [.int 0,b,.int 1,.int 1])) r0 (.lst [.ref p]) r0=some (.lst [.ref p]):=be;show aA Fl (aA (Aw K) (aY (ae 2))) ⟨λ _ H'=>Q .Ă H',Q,λ _ _=>False,λ _ _=>False⟩ [some v,some (.ref r0),none,none,none,none,none,none,none,none,none,none,none] (aj (aj H1 p (.tup [.int 0,b,.int 1,.int 1])) r0 (.lst [.ref p]));generalize aj (aj H1 p (.tup [.int 0,b,.int 1,.int 1])) r0 (.lst [.ref p])=H3 at x3 g3 ⊢;generalize aj H1 p (.tup [.int 0,b,.int 1,.int 1])=H2 at x2 g2 x3 W0;have Ov:=(x1.trans x2).trans x3;have b0:Pp H3 0 r0 (dY t sc 0):=⟨[.ref p],g3,.cons ⟨p,b,1,1,rfl,x3 _ _ g2,⟨rfl,Æ _,Æ _,ax⟩,rb.mono (x2.trans x3)⟩ .nil⟩;refine aK (te:=cv (ao (ae 1) aF)) (i:=2) (D:=⟨_,Q,_,_⟩) ⟨_,rfl,cK,λ lf Os=>?_⟩;show aA (Aw K) (aY (ae 2)) ⟨λ _ H'=>Q .Ă H',Q,λ _ _=>False,λ _ _=>False⟩ [some v,some (.ref r0),some (.ref lf),none,none,none,none,none,none,none,none,none,none] (aj H3 lf (.lst [.ref r0]));obtain⟨H4,x4,g4,eU⟩:=gB Os (.lst [.ref r0]);rw [eU];have Pr:=Ov.trans x4;have nr0:r0≠lf:=λ e=>by rw [<- e,g3] at Os;cases Os
 have b4:Pp H4 0 r0 (dY t sc 0):=b0.keep x4.Rr (by rw [x4 _ _ g3,g3]) (OB 0 (by simpa using f0))
 have VC:H lf=none:=Ov.back Os;obtain⟨N,eN⟩:∃ N:Nat,t.Û =(N:Int):=⟨t.Û.toNat,af⟩;refine⟨_,rfl,v,t,rfl,rv.mono Pr,ok,λ H5 x5=>⟨t.Û,rfl,af,af,?_⟩⟩;rw [eN,Ù];have QE:=x4.trans x5;refine gG (lo:=0) (n:=N) (λ i σ H'=>Ext H H'/\∃(ls:List Addr)(rk:Addr)(o3 o4 o5 o6 o7 o8 o9 oa ob oc:Option V),σ=[some v,some (.ref rk),some (.ref lf),o3,o4,o5,o6,o7,o8,o9,oa,ob,oc]/\H' lf=some (.lst (ls.map V.ref))/\ls.length=i+1/\ls[i]?=some rk/\lf ∉ ls/\(∀ a∈ls,H a=none)/\JR H' t sc ls) ⟨Pr.trans x5,[r0],r0,none,none,none,none,none,none,none,none,none,none,rfl,x5 _ _ g4,rfl,rfl,by simpa using nr0.symm,(λ a ha=>by rw [List.mem_singleton.mp ha];exact(x1.trans x2).back W0),?_⟩ ?_ ?_
 ·intro j La e
  match j,e with
  | 0,e =>
   cases e;exact b4.keep x5.Rr (by obtain⟨ps,h,_⟩:=b4;rw [x5 _ _ h,h]) (OB 0 (by simpa using f0))
  | j+1,e=>simp at e
 ·rintro i σ H' hi ⟨x',ls,rk,o3,o4,o5,o6,o7,o8,o9,oa,ob,oc,rfl,hz,lz,er,nm,nn,al⟩;have hk:(i:Int)<t.Û:=af;rw [show(0:Int)+(i:Nat)=(i:Nat) from v_ _];refine aK (te:=cv aF) (i:=4) ⟨cK,λ lg UM=>?_⟩;show aA (DB K) (aA (bY (ae 4) (aN 1)) (dW (wV K "list" cW (ae 2) (ao (ae 1) aF)))) _ [some v,some (.ref rk),some (.ref lf),some (.int (i:Nat)),some (.ref lg),o5,o6,o7,o8,o9,oa,ob,oc] (aj H' lg (.lst []));obtain⟨H6,x6,g6,eU⟩:=gB UM (.lst []);rw [eU];refine Db (H0:=H') (sc:=sc) (rv.mono x') ok hg fk hk (al i rk er) x6 UM g6 λ H7 zs o5 o6 o7 o8 o9 oa ob oc x7 h7 s7=>?_;refine aK (te:=ae 4) (i:=1) ⟨_,rfl,?_⟩;have UB:=x7 _ _ hz;refine⟨_,rfl,.inl ⟨rfl,_,Ċ.of UB⟩,_,rfl,lf,ls.map V.ref,.ref lg,rfl,rfl,UB,by rw [Ä,Ü];omega,?_⟩
  have ng:lg≠lf:=λ e=>by rw [e,hz] at UM;cases UM
  have kp:=zD (.lst (ls.map V.ref ++ [.ref lg])) UB;refine⟨aV _ (x'.trans x7) VC,ls ++ [lg],lg,_,_,_,_,_,_,_,_,_,_,rfl,by rw [Ð];exact be,by rw [Õ,lz];rfl,by rw [ç af,lz];simp,?_,?_,?_⟩
  ·intro h;rcases ß.mp h with h | h
   ·exact nm h
   ·exact ng (É.mp h).symm
  ·intro a ha;rcases ß.mp ha with h | h
   ·exact nn a h
   ·rw [É.mp h];exact x'.back UM
  ·intro j La e;rcases Ħ j ls.length with z | z
   ·rw [ý z] at e;have hb:=al j La e;have ne:La≠lf:=λ y=>nm (by rw [<- y];exact Ì e)
    have hj:(j:Int)<=t.Û:=af;have hb7:Pp H7 j La (dY t sc j):=hb.keep x7.Rr (by obtain⟨ps,h,_⟩:=hb;rw [x7 _ _ h,h]) (OB j hj)
    exact hb7.keep kp (ad ne) (OB j hj)
   ·have ej:j=i+1:=by
     have:=(È.mp e).1;rw [Õ,lz] at this;simp at this;omega
    subst ej;rw [ç af,lz,Χ] at e;cases e;exact Pp.keep ⟨zs,h7,s7⟩ kp (ad ng) (OB (i+1) af)
 ·rintro σ H' ⟨x',ls,rk,o3,o4,o5,o6,o7,o8,o9,oa,ob,oc,rfl,hz,lz,er,nm,nn,al⟩;exact⟨_,rfl,q lf ls H' x' VC hz af nn al⟩
end
def V6 (H:Hp)(D:Nat)(p:V)(n:Nat):Prop:=∃ a T B,p=.ref a/\H a=some (.tup [.int (T:Nat),.int (B:Nat)])/\T*D=n*B/\1<=B/\B<=10^24/\T<=B
abbrev RE (H:Hp)(D:Nat):=AA (V6 H D)
theorem V6.ext {D:Nat}{n:Nat}(h:V6 H D p n)(x:∀ z xs,H z=some (.tup xs)->H' z=some (.tup xs)):V6 H' D p n:=by
 obtain⟨a,T,B,e,ha,r⟩:=h;exact⟨a,T,B,e,x _ _ ha,r⟩
theorem RE.ext {D:Nat}(x:∀ z xs,H z=some (.tup xs)->H' z=some (.tup xs)){ss:List Nat}(h:RE H D ps ss):RE H' D ps ss:=h.imp λ _ _ _ a=>a.ext x
theorem yZ {S D T B n:Nat}(hD:0<D)(hB:0<B)(e:T*D=n*B):bo (bo S D*B+T*aE S D) (aE S D*B)=bo (S+n) D/\aE (bo S D*B+T*aE S D) (aE S D*B)=aE (S+n) D:=by
 refine lh (ŋ (lM hD) hB) hD ?_;have lc:bo S D*D=aE S D*S:=w_;generalize bo S D=u at lc ⊢;generalize aE S D=v at lc ⊢
 calc (u*B+T*v)*D=B*(u*D)+(T*D)*v:=by rw [Nat.add_mul];ac_rfl
  _=B*(v*S)+(n*B)*v:=by rw [lc,e]
  _=(S+n)*(v*B):=by rw [Nat.add_mul];ac_rfl
theorem sH (h:n<=10^24):Sz n:=lL (Í h ax)
section
variable {P:Program}{w:World}{K:Frag}{mg:cr}{base:Heap}{C:Nat->Addr}{CR f a1 a2 a3 a4 n0 n1:Addr}{fd d1 d2 d3 d4:FuncData}
abbrev JB:Stmt:=cP 64
abbrev LK:List Str:=["_law_parts","_law_top","_law_bottom","_law_more","_law_below","_law_by"]
theorem T5:ai LK ["_law_parts"] (aa JB):=bc
def zg:Sp:=λ vs H Q _=>∃(L:Addr)(zs:List V)(ns:List Nat)(D:Nat),vs=[.ref L]/\H L=some (.lst zs)/\RE H D zs ns/\0<D/\D<=10^24/\ns.sum<=D/\∀ p,H p=none->Q (.ref p) (aj H p (.tup [.int (bo ns.sum D:Nat),.int (aE ns.sum D:Nat)]))
def BH:TS:=aA (bY (kj (xf (ae 1) (ae 4)) (xf (ae 3) (ae 2))) (aN 1)) (aA (bY (xf (ae 2) (ae 4)) (aN 2)) (aA (bY (cC fe [] E0 (ao (ae 1) (ao (ae 2) aF))) (aN 5)) (aA (bY (Ac (ae 1) (ae 5)) (aN 1)) (bY (Ac (ae 2) (ae 5)) (aN 2)))))
def Mn (K:Frag):TS:=aA (bY (tI 0) (aN 1)) (aA (bY (tI 1) (aN 2)) (aA (fj (fc K (ae 0)) (dL K 2 (aL (aN 3) (aL (aN 4) dP))) BH) (aY (cz (ao (ae 1) (ao (ae 2) aF))))))
theorem JF {ns:List Nat}(h:ns[i]?=some n):(ns.take (i+1)).sum=(ns.take i).sum+n:=by
 rw [aM h,į];simp
theorem yQ (ns:List Nat)(i:Nat):(ns.take i).sum<=ns.sum:=by
 have e:ns.sum=(ns.take i).sum+(ns.drop i).sum:=by rw [<- į,K_]
 omega
theorem BR (hu:u<=10^24)(hv:v<=10^24)(hT:T<=10^24)(hB:B<=10^24)(v1:0<v)(B1:0<B)(q:∀ o5,De.nx [o0,some (.int (bo (u*B+T*v) (v*B):Nat)),some (.int (aE (u*B+T*v) (v*B):Nat)),some (.int (T:Nat)),some (.int (B:Nat)),o5] H) :
  BH De [o0,some (.int (u:Nat)),some (.int (v:Nat)),some (.int (T:Nat)),some (.int (B:Nat)),o5] H:=by
 refine aK (te:=kj (xf (ae 1) (ae 4)) (xf (ae 3) (ae 2))) (i:=1) (D:=De) ⟨_,rfl,_,rfl,_,_,rfl,rfl,gm (sH hu) (sH hB),_,rfl,_,rfl,_,_,rfl,rfl,gm (sH hT) (sH hv),_,_,rfl,rfl,?_⟩;show aA (bY (xf (ae 2) (ae 4)) (aN 2)) (aA (bY (cC fe [] E0 (ao (ae 1) (ao (ae 2) aF))) (aN 5)) (aA (bY (Ac (ae 1) (ae 5)) (aN 1)) (bY (Ac (ae 2) (ae 5)) (aN 2)))) De [o0,some (.int ((u:Int)*(B:Int)+(T:Int)*(v:Int))),some (.int (v:Nat)),some (.int (T:Nat)),some (.int (B:Nat)),o5] H;rw [show(u:Int)*(B:Int)+(T:Int)*(v:Int)=((u*B+T*v:Nat):Int) by rw [Int.natCast_add,ğ,ğ]]
 refine aK (te:=xf (ae 2) (ae 4)) (i:=2) (D:=De) ⟨_,rfl,_,rfl,_,_,rfl,rfl,gm (sH hv) (sH hB),?_⟩;show aA (bY (cC fe [] E0 (ao (ae 1) (ao (ae 2) aF))) (aN 5)) (aA (bY (Ac (ae 1) (ae 5)) (aN 1)) (bY (Ac (ae 2) (ae 5)) (aN 2))) De [o0,some (.int (u*B+T*v:Nat)),some (.int ((v:Int)*(B:Int))),some (.int (T:Nat)),some (.int (B:Nat)),o5] H;rw [show(v:Int)*(B:Int)=((v*B:Nat):Int) by rw [ğ]]
 have vB:0<v*B:=ŋ v1 B1;have Tg:v*B<=10^300:=Í (Ů hv hB) ax;generalize u*B+T*v=a at q ⊢;generalize v*B=b at q vB Tg ⊢;have g0:=ņ a vB;have gd:∀ n:Nat,mv ((n:Nat):Int) ((Nat.gcd a b:Nat):Int):=λ n=>⟨af,(lL (Í (Ĉ vB (Ę a b)) Tg)).log⟩;refine aK ⟨_,rfl,_,rfl,a,b,rfl,?_⟩;refine aK ⟨_,rfl,_,rfl,_,_,rfl,rfl,gd a,?_⟩;refine⟨_,rfl,_,rfl,_,_,rfl,rfl,gd b,?_⟩;have e1:((a:Int)/((Nat.gcd a b:Nat):Int))=((bo a b:Nat):Int):=by simp [bo]
 have e2:((b:Int)/((Nat.gcd a b:Nat):Int))=((aE a b:Nat):Int):=by simp [aE]
 show De.nx [o0,some (.int ((a:Int)/((Nat.gcd a b:Nat):Int))),some (.int ((b:Int)/((Nat.gcd a b:Nat):Int))),some (.int (T:Nat)),some (.int (B:Nat)),some (.int (Nat.gcd a b:Nat))] H;rw [e1,e2];exact q _
theorem GK (F:ĵ K "_law_added" "_law_added" JB f fd) (A1:Df P w K mg base aB 1 "_law_common" ["_law_one","_law_other"] fe a1 d1):í P w K mg base aB 2 f fd ["_law_parts"] zg:=by
 refine bX F T5 λ cdv A outer s H vs Q E hr h=>?_;obtain⟨L,zs,ns,D,rfl,hL,fr,D0,XT,sD,q⟩:=h;have nd:=T5.nd;have Ŧ:ć 1 _:=hr.mono ax;refine⟨Mn K,bb (dk (i:=1) nd rfl (Or.inl rfl) ay) (bb (dk (i:=2) nd rfl (Or.inl rfl) ay) (bb (cj Ā rfl (bJ (pv 0)) (bN rfl (dB (cu (i:=3) nd rfl (Or.inl rfl)) (dB (cu (i:=4) nd rfl (Or.inl rfl)) br)))
   (bb (dk (i:=1) nd rfl (Or.inl rfl) (ak bf (ak cR (pv 1) (pv 4)) (ak cR (pv 3) (pv 2))))
   (bb (dk (i:=2) nd rfl (Or.inl rfl) (ak cR (pv 2) (pv 4)))
   (bb (dk (i:=5) nd rfl (Or.inl rfl) (bZ A1 Ŧ ag (ac (pv 1) (ac (pv 2) ar))))
   (bb (dk (i:=1) nd rfl (Or.inl rfl) (ak cH (pv 1) (pv 5)))
   (aW (dk (i:=2) nd rfl (Or.inl rfl) (ak cH (pv 2) (pv 5)))))))))
  (aW (cn (aP (ac (pv 1) (ac (pv 2) ar))))))),?_⟩
 show aA (fj (fc K (ae 0)) (dL K 2 (aL (aN 3) (aL (aN 4) dP))) BH) (aY (cz (ao (ae 1) (ao (ae 2) aF)))) ⟨λ _ H'=>Q .Ă H',Q,λ _ _=>False,λ _ _=>False⟩ [some (.ref L),some (.int 0),some (.int 1),none,none,none] H;have lz:=sP D0;refine⟨_,rfl,L,rfl,⟨_,Ċ.of hL⟩,c7 (xs:=zs) (λ i σ H'=>H'=H/\∃ o3 o4 o5:Option V,σ=[some (.ref L),some (.int (bo (ns.take i).sum D:Nat)),some (.int (aE (ns.take i).sum D:Nat)),o3,o4,o5]) ⟨rfl,none,none,none,?_⟩ ?_ ?_ ?_⟩
 ·rw [List.take_zero,List.sum_nil,lz.1,lz.2];rfl
 ·rintro i σ H' _ ⟨rfl,_⟩;exact Ċ.of hL
 ·rintro i x σ H' ex ⟨rfl,o3,o4,o5,rfl⟩;obtain⟨n,en,a,T,B,rfl,ha,eq,B1,Z_,TB⟩:=fr.get ex;refine⟨a,_,rfl,Ė.of ha,rfl,_,_,rfl,_,_,rfl,rfl,?_⟩;have sl:=yQ ns i;have tl:bo (ns.take i).sum D<=10^24:=Í xi af;have bl:aE (ns.take i).sum D<=10^24:=Í vI XT;have bp:0<aE (ns.take i).sum D:=lM D0;obtain⟨e1,e2⟩:=yZ D0 B1 eq;refine BR tl bl (Í TB Z_) Z_ bp B1 λ o5=>⟨rfl,some (.int (T:Nat)),some (.int (B:Nat)),o5,?_⟩;rw [e1,e2,JF en]
 ·rintro σ H' ⟨rfl,o3,o4,o5,rfl⟩;rw [fr.len,á];exact⟨_,rfl,_,rfl,cK,λ p hp=>q p hp⟩
theorem PF.back {p:Addr}(a:PF p H H'){b:Addr}(h:H' b=none):H b=none:=by
 cases e:H b with
 | none=>rfl
 | some o =>
  by_cases z:b=p
  ·obtain⟨_,_,_,g,_⟩:=a.b.ex;rw [<- z,h] at g;cases g
  ·rw [a.k _ _ e z] at h;cases h
abbrev El:Stmt:=cP 65
abbrev Lw:List Str:=["_law_pool_here","_law_folk_here","_law_way","_law_found","_law_k","_law_number"]
theorem TU:ai Lw ["_law_pool_here","_law_folk_here"] (aa El):=bc
def Eg:Sp:=λ vs H Q _=>∃(p:Addr)(n:Nat),vs=[.ref p,.int (n:Nat)]/\ě H p/\n<=12/\∀ l sc H',PF p H H'->H l=none->H' l=some (.lst (sc.map V.int))->sc.length=n->DO sc->Q (.ref l) H'
def Gx:TA:=ao (dX (i4 0 (tI 3)) (tI 1)) (ao (dX (i4 0 (tI 19)) (tI 9)) (ao (dX (i4 0 (tI 200001)) (tI 100000)) aF))
def IL:TA:=ao (ae 5) (ao (ae 5) (ao (ae 5) (ao (tI 7) (ao (dX (tI 100000) (yv (tI 200000) (i4 0 (tI 2)))) aF))))
def Hw (K:Frag):TS:=aA (bY (bV (fE K) (cv Gx) (Es (ae 2) (tI 3))) (aN 5)) (dW (wV K "list" cW (ae 3) (ao (bV (fE K) (cv IL) (ae 2)) aF)))
def LU (K:Frag):TS:=aA (bY (i4 0 (tI 5)) (aN 2)) (aA (bY (cv aF) (aN 3)) (aA (fj (jb (ao (ae 1) aF)) (aN 4) (Hw K)) (aY (ae 3))))
theorem Cn {s:Shared}{H:Hp}(A1:Df P w K mg base aB 1 "_law_take" ["_law_pool_here","_law_m"] fh a1 d1) (mr:mg "range" = none) (hr:nh 1 "_law_scores" El A s f cdv):Bx (ſ (bR aB P w K mg base Lw "_law_scores" (aa El) f cdv A outer s H E).Φ (aI El) (LU K)):=by
 have nd:=TU.nd;exact dZ (cy nd rfl (.inl rfl) ⟨bZ A1 hr ag (ac (pv 0) (ac ay ar))⟩)
  (dZ ⟨dk nd rfl (.inl rfl) (cF ar)⟩
  (dZ ⟨cj .never rfl (fB rfl mr (ac (pv 1) ar)) (cu nd rfl (.inl rfl))
   (bb (dk nd rfl (.inl rfl) (bL l8 (Bx.h (eP (cO ⟨ak bO (bZ A1 hr ag (ac (pv 0) (ac ay ar))) ay⟩ (cO ⟨ak bO (bZ A1 hr ag (ac (pv 0) (ac ay ar))) ay⟩ (cO ⟨ak bO (bZ A1 hr ag (ac (pv 0) (ac ay ar))) ay⟩ bh))))) (ak dQ (pv 2) ay)))
   (aW (aR (fX ø ô ó bQ (pv 3) (ac (bL l8 (Bx.h (eP (cO ⟨pv 5⟩ (cO ⟨pv 5⟩ (cO ⟨pv 5⟩ (cO ⟨ay⟩ (cO ⟨ak bO ay (ak cY ay (bZ A1 hr ag (ac (pv 0) (ac ay ar))))⟩ bh))))))) (pv 2)) ar)))))⟩
  (bS (cX ⟨pv 3⟩))))
theorem t9 {xs:List Int}{r:Int}(g:H l=some (.lst (xs.map V.int)))(r0:0<=r)(r1:r<xs.length)(q:∀ x∈xs,Q (.int x) H):fE K (.ref l) (.int r) H Q:=by
 have lt:r.toNat<xs.length:=af;have er:r=(r.toNat:Int):=af;have z:rB (xs.map V.int) ((r.toNat:Nat):Int)=some (.int xs[r.toNat]):=jU (by rw [Ô,Å lt];rfl)
 rw [<- er] at z;exact⟨l,xs.map .int,r,.int xs[r.toNat],rfl,rfl,Ċ.of g,z,q _ (Ĥ lt)⟩
theorem B6 (F:ĵ K "_law_scores" "_law_scores" El f fd) (A1:Df P w K mg base aB 1 "_law_take" ["_law_pool_here","_law_m"] fh a1 d1) (mr:mg "range" = none):í P w K mg base aB 2 f fd ["_law_pool_here","_law_folk_here"] Eg:=by
 refine bX F TU λ cdv A outer s H vs Q E hr h=>?_;obtain⟨p,n,rfl,bx,n12,q⟩:=h;obtain⟨ε⟩:=Cn A1 mr hr (f:=f) (cdv:=cdv) (A:=A) (outer:=outer) (s:=s) (H:=H) (E:=E);refine⟨_,ε,?_⟩;refine aK (te:=i4 0 (tI 5)) (i:=2) (D:=⟨_,Q,_,_⟩) (cA (p:=p) (m:=5) rfl bx (λ R r=>r) ax ax λ y H1 y0 y5 f1=>?_);refine aK (te:=cv aF) (i:=3) (D:=⟨_,Q,_,_⟩) ⟨cK,λ L hL=>?_⟩;have x2:=Ext.new (o:=.lst []) hL;have g2:aj H1 L (.lst []) L=some (.lst []):=be;have QH:L≠p:=f1.b.ne hL;have QT:=f1.back hL;have f2:=f1.ext x2;show aA (fj (jb (ao (ae 1) aF)) (aN 4) (Hw K)) (aY (ae 3)) ⟨λ _ H'=>Q .Ă H',Q,λ _ _=>False,λ _ _=>False⟩ [some (.ref p),some (.int (n:Nat)),some (.int y),some (.ref L),none,none] (aj H1 L (.lst []));generalize aj H1 L (.lst [])=H2 at x2 g2 f2 ⊢;refine⟨_,rfl,(n:Nat),rfl,af,af,?_⟩;rw [Ù];have kf:∀{Ha Hb:Hp}{o:HO},PF p H Ha->PF p Ha Hb->Hb L≠none->PF p H (aj Hb L o):=λ {Ha Hb o} a b _=>by
  have c:=a.trans b;refine⟨λ z u e ne=>?_,?_⟩
  ·rw [ad (λ e2=>by rw [e2,QT] at e;cases e)]
   exact c.k _ _ e ne
  ·obtain⟨i,j,k,e,r⟩:=c.b.ex;exact⟨i,j,k,by rw [ad QH.symm];exact e,r⟩
 refine gG (lo:=0) (n:=n) (λ i σ H'=>PF p H H'/\∃(sc:List Int)(o4 o5:Option V),σ=[some (.ref p),some (.int (n:Nat)),some (.int y),some (.ref L),o4,o5]/\H' L=some (.lst (sc.map V.int))/\sc.length=i/\DO sc) ⟨f2,[],none,none,rfl,g2,rfl,λ x h=>nomatch h⟩ ?_ ?_
 ·rintro i σ H' hi ⟨f',sc,o4,o5,rfl,hz,lz,ss⟩;refine aK (te:=bV (fE K) (cv Gx) (Es (ae 2) (tI 3))) (i:=5) (dU ?_);refine dU (cA (p:=p) (m:=3) rfl f'.b (λ R r=>r) ax ax λ a H3 a0 a1 f3=>⟨_,_,rfl,rfl,?_⟩);refine dU (cA (p:=p) (m:=19) rfl f3.b (λ R r=>r) ax ax λ b H4 b0 b1 f4=>⟨_,_,rfl,rfl,?_⟩);refine dU (cA (p:=p) (m:=200001) rfl f4.b (λ R r=>r) ax ax λ c H5 c0 c1 f5=>⟨_,_,rfl,rfl,?_⟩);refine⟨cK,λ l hl=>?_⟩;have Zj:=(f3.trans f4).trans f5;have hz5:=Zj.k _ _ hz QH;obtain⟨H6,x6,g6,eU⟩:=gB hl (.lst [.int (a-1),.int (b-9),.int (c-100000)]);have g6:H6 l=some (.lst ([a-1,b-9,c-100000].map V.int)):=g6;rw [eU];have Zi:=Zj.ext x6;have m0:0<=y%3:=ŀ _ ax;have m1:y%3<3:=đ _ ax;refine⟨_,rfl,_,_,rfl,rfl,(by decide:(0:Int)<3),t9 g6 m0 (by show y%3<((3:Nat):Int);omega) λ x hx=>?_⟩
  have xb:-100000<=x/\x<=100000:=by
   simp only [List.mem_cons,List.not_mem_nil,or_false] at hx;rcases hx with rfl | rfl | rfl <;> omega
  have Rt:=x6 _ _ hz5;refine⟨_,rfl,.inl ⟨rfl,_,Ċ.of Rt⟩,?_⟩;refine dU ⟨_,rfl,_,rfl,_,rfl,?_⟩;refine dU (dU (cA rfl Zi.b (λ R r=>r) ax ax λ d H7 d0 d1 f7=>⟨_,_,rfl,rfl,.inl ⟨ax,ax⟩,_,_,rfl,rfl,?_⟩));refine⟨cK,λ l2 NP=>?_⟩;have UB:=f7.k _ _ Rt QH;obtain⟨H8,x8,g8,eU⟩:=gB NP (.lst [.int x,.int x,.int x,.int 7,.int (100000-200000*d)]);have g8:H8 l2=some (.lst ([x,x,x,7,100000-200000*d].map V.int)):=g8;rw [eU];have f8:=(Zi.trans f7).ext x8;refine⟨_,rfl,t9 g8 y0 (by show y<((5:Nat):Int);omega) λ v hv=>?_⟩
  have vb:-100000<=v/\v<=100000:=by
   simp only [List.mem_cons,List.not_mem_nil,or_false] at hv;rcases hv with rfl | rfl | rfl | rfl | rfl <;> omega
  have YJ:=x8 _ _ UB;refine⟨L,sc.map .int,.int v,rfl,rfl,YJ,by rw [Ä,Ü];omega,?_⟩
  refine⟨kf f' f8 (by rw [YJ];simp),sc ++ [v],_,_,rfl,by rw [List.map_append];exact be,by rw [Õ,lz];rfl,λ z hz=>?_⟩
  rcases ß.mp hz with h | h
  ·exact ss z h
  ·rw [É.mp h];exact vb
 ·rintro σ H' ⟨f',sc,o4,o5,rfl,hz,lz,ss⟩;exact⟨_,rfl,q L sc H' f' QT hz lz ss⟩
end
def ia (sc:List Int):Nat->Nat->Int
 | 0,_=>0
 | k+1,d=>ia sc k d+if d/2^k%2=1 then sc.getD k 0 else 0
theorem nU (sc:List Int){k:Nat}(d:Nat):∀{j:Nat},j<=k->ia sc j (d+2^k)=ia sc j d
 | 0,_=>rfl
 | j+1,h=>by
  have ih:=nU sc d (k:=k) (j:=j) af;unfold ia;rw [ih];have e:(d+2^k)/2^j%2=d/2^j%2:=by
   have e1:2^k=2^j*(2^(k-j-1)*2):=by
    rw [<- Ψ,<- Nat.pow_add]
    congr 1
    omega
   rw [e1,Nat.add_mul_div_left _ _ (Nat.two_pow_pos j)];omega
  rw [e]
theorem z8 {t:Rl}{sc:List Int}(ok:t.ok):∀{k:Nat},(k:Int)<=t.Û->∀ r∈dY t sc k,r.s=ia sc k r.d
 | 0,h,r,hr=>by
  rw [show r=⟨0,t.begin,0,1,1⟩ by simpa [dY] using hr]
  rfl
 | k+1,h,r,hr=>by
  have hk:(k:Int)<t.Û:=af;unfold dY at hr;obtain⟨q,hq,hr⟩:=ż.mp hr;obtain⟨s,hs,rfl⟩:=æ.mp hr;have o:=dw ok (ħ hk) q hq;have g:=(c5 ok hk (o.v hk) s hs).1;have ih:=z8 ok (ħ hk) q hq;have od:=o.d;show q.s+s.hand*sc.getD k 0=ia sc (k+1) (q.d+(if s.hand=1 then 2^k else 0))
  unfold ia;rcases g.h with e | e
  ·rw [e,Ë ax,Nat.add_zero,Nat.div_eq_of_lt od,ih];simp
  ·rw [e,Ó rfl,nU sc q.d (Æ k),Nat.add_div_right _ (Nat.two_pow_pos k),Nat.div_eq_of_lt od,ih];simp
theorem kH (sc:List Int)(d:Nat){n:Nat}:∀{k:Nat},k<=n->ia (sc.take n) k d=ia sc k d
 | 0,_=>rfl
 | k+1,h=>by
  unfold ia;rw [kH sc d af];have e:(sc.take n).getD k 0=sc.getD k 0:=by
   simp only [List.getD_eq_getElem?_getD];rw [QB af]
  rw [e]
def sM (sc:List Int)(d:Nat):Nat->List Int
 | 0=>[]
 | k+1=>sM sc d k++if d/2^k%2=1 then [sc.getD k 0] else []
theorem pd (sc:List Int)(d:Nat):∀ k,(sM sc d k).sum=ia sc k d
 | 0=>rfl
 | k+1=>by
  unfold sM ia;rw [į,pd];split <;> simp
theorem J3 (x i:Nat):Builtin.bitAnd (((x:Nat):Int)/2^((i:Nat):Int).toNat) 1=((x/2^i%2:Nat):Int):=by
 rw [PyProof.Rows.bitAnd_m1,Ù];simp
abbrev JJ:R2:=rI (λ _ j=>0<=j) λ i j=>.int (i/2^j.toNat)
abbrev JU:R2:=gK λ i j=>.int (Builtin.bitAnd i j)
def Fb (i j:Nat):TE:=bV JU (bV JJ (ae i) (ae j)) (tC (.int 1))
theorem AW {σ:St}{H:Hp}{Q:VK}{i j x k:Nat}(h1:σ[i]?=some (some (.int (x:Nat))))(h2:σ[j]?=some (some (.int (k:Nat))))(q:Q (.int ((x/2^k%2:Nat):Int)) H):Fb i j σ H Q:=by
 refine⟨_,h1,_,h2,_,_,rfl,rfl,af,_,_,rfl,rfl,?_⟩;show Q (.int (Builtin.bitAnd (((x:Nat):Int)/2^((k:Nat):Int).toNat) 1)) H;rw [J3];exact q
theorem tO {X:Cx}{n:String}{r:List V->Hp->VK->Prop}{x:Str}{e:Expr}{te:TE}{p pos:Pos}(hc:cU X (.builtin n) r)(hg:Gl X x)(hm:X.mg x=none)(hv:bootBuiltins x=some (.builtin n))(ha:Bx (PE X e te))(hn:x ≠ "__name__" := by decide) (No:(x==("__debug__" : Str))=false:=by decide)
  (he:starEach [e] X.env=(false,eval e X.env)::starEach [] X.env:=by rfl) (I_:(backTo pos (starEach [] X.env)).any (·.1)=false:=by rfl):Bx (PE X (.Call (.Name x p) [e] [] pos) (iH r (ao te aF))):=⟨am hc hg hm hv (ac ha.h ar (hs:=he)) hn No he I_⟩
theorem wc {X:Cx}{sc:Scope}{cl:List (Str × Addr)}{ts zs:List Str}{js:List Nat}{elt tg iter c:Expr}{wi:TI}{g:TG}{te:TE}{tt:TT}{pos:Pos}(hc:X.calm=true)(S:cV X sc cl ts zs js)(hi:Bx (PI X tg iter wi))(hg:∀ s H C fp,PG (mP X sc cl (ts++zs) s H C fp) tg g)(ht:∀ s H C fp,Bx (PT (mP X sc cl (ts++zs) s H C fp) c tt))(he:∀ s H C fp,Bx (PE (mP X sc cl (ts++zs) s H C fp) elt te))
  (hs:∀ v,foldedSetIterable iter X.env v=pure v:=by intro _;rfl):Bx (PE X (.ListComp elt [⟨tg,iter,[c],0⟩] sc pos) (iL wi ts.length js g tt te)):=⟨jj hc S hi.h hg (λ s H C fp=>(ht s H C fp).h) (λ s H C fp=>(he s H C fp).h) hs⟩
theorem Hy {X:Cx}{body:List Stmt}{t:TS}{D:dq}{σ:St}{H:Hp}(h:Bx (ſ X body t))(r:Bx (t D σ H)):∃ t,ſ X body t/\t D σ H:=⟨t,h.h,r.h⟩
theorem xK {te:TE}{r:List V->Hp->VK->Prop}{D:dq}{σ:St}{H:Hp}(h:te σ H λ x H1=>r [x] H1 D.rt):aY (iH r (ao te aF)) D σ H:=h
section
variable {P:Program}{w:World}{K:Frag}{mg:cr}{base:Heap}{f:Addr}{fd:FuncData}
abbrev Im:Stmt:=cP 66
abbrev K8:List Str:=["_law_scores_here","_law_dealing"]
theorem IN:ai K8 ["_law_scores_here","_law_dealing"] (aa Im):=bc
def wp:Sp:=λ vs H Q _=>∃(a:Addr)(d:Nat)(ns:List Int),vs=[.ref a,.int (d:Nat)]/\H a=some (.lst (ns.map V.int))/\ns.length<=12/\∀ H',Ext H H'->Q (.int (ia ns ns.length d)) H'
abbrev FC:Scope:=gr [("_law_at",.local),("_law_dealing",.free),("_law_scores_here",.free)]
theorem Jw:((["_law_at"]:List Str)++(["_law_scores_here","_law_dealing"]:List Str)).Nodup:=aC
section
variable {cdv:Value}{A:Around}{outer:List Env}{s:Shared}{H:Hp}{E:XK}
theorem DQ:cV (bR aB P w K mg base K8 "_law_sum_of" (aa Im) f cdv A outer s H E).Φ FC [("_law_scores_here",s.heap.objs.size+1),("_law_dealing",s.heap.objs.size+2)] ["_law_at"] ["_law_scores_here","_law_dealing"] [0,1] :=
 mK (M:=["_law_scores_here","_law_dealing"]) (L:=[(".0",.local),("_law_at",.local),("_law_dealing",.cell),("_law_scores_here",.cell)]) rfl rfl aC aC aC rfl rfl rfl aC aC rfl rfl rfl
end
def Ey:TT:=tB (bV sw (Fb 2 0) (tC (.int 1)))
def Mc (K:Frag):TS:=aY (iH (rZ K) (ao (iL (jb (ao (sA K 0) aF)) 1 [0,1] (aN 0) Ey (bV (fE K) (ae 1) (ae 0))) aF))
theorem E1 (F:ĵ K "_law_sum_of" "_law_sum_of" Im f fd) (mr:mg "range" = none) (ms:mg "sum" = none) (ml:mg "len" = none):í P w K mg base aB 1 f fd ["_law_scores_here","_law_dealing"] wp:=by
 refine F.ok IN (λ vs H Q E h=>?_) (λ cdv A outer s H vs Q E hr h=>?_)
 ·obtain⟨a,d,ns,rfl,_⟩:=h;rfl
 obtain⟨a,d,ns,rfl,ha,Nl,q⟩:=h;refine Hy (t:=Mc K) (bS (cX (tO (gz rfl) rfl ms ŷ (wc (te:=bV (fE K) (ae 1) (ae 0)) (tt:=Ey) (g:=aN 0) rfl DQ ⟨fB rfl mr (ac (am aO rfl ml ö (ac (pv 0) ar)) ar)⟩ (λ s H C fp=>by exact cu (i:=0) Jw rfl (.inl rfl)) (λ s H C fp=>⟨by exact aq bE (ak AE (ak B9 (pv 2) (pv 0)) ay) ay (au _)⟩) (λ s H C fp=>⟨by exact bL l8 (pv 1) (pv 0)⟩))))) ⟨xK ?_⟩
 have ln:(ns.map V.int).length=ns.length:=Ä _;refine⟨_,rfl,a,_,rfl,.inl (Ċ.of ha),_,rfl,af,af,λ D hD=>?_⟩;rw [ln,Ù];refine xP (n:=ns.length) (λ i ys H'=>Ext H H'/\ys=(sM ns d i).map V.int) (by rw [Ü];omega) ⟨Ext.new hD,rfl⟩ (λ i ys H' hi p=>by show i<ns.length;exact hi) (λ ys H' p=>by show ns.length<=ns.length;exact Æ _) ?_ ?_
 ·rintro i y ys H' H3 hi ⟨rfl,rfl⟩ ly k_ ⟨x',rfl⟩ os Ş N kk
  match os,Ş with
  | [p0],_ =>
   refine⟨⟨[_],rfl,rfl⟩,?_⟩;refine AW (i:=2) (j:=0) (k:=i) (x:=d) rfl ?_ ⟨rfl,_,rfl,λ e=>?_,λ e=>?_⟩
   ·grind
   ·have ne:¬ d/2^i%2=1:=λ z=>by rw [z] at e;exact absurd (decide_eq_false_iff_not.mp e) (λ k=>k rfl)
    refine kk _ _ ⟨x',?_⟩ af k_;show _=(sM ns d i++_).map V.int;rw [Ë ne,Ī]
   ·have eq:d/2^i%2=1:=by
     have:=ë e;injection this;omega
    have g:ns[i]?=some (ns.getD i 0):=by
     rw [PH,Å hi];rfl
    refine⟨_,rfl,_,rfl,a,_,_,.int (ns.getD i 0),rfl,rfl,Ċ.of (x' _ _ ha),?_,k_,kk _ _ ⟨aV _ x' hD,?_⟩ (by rw [Õ,L_];omega) be⟩
    ·show rB (ns.map V.int) (0+(i:Int))=_;rw [v_];exact jU (by rw [Ô,g];rfl)
    ·show _=(sM ns d i++_).map V.int;rw [Ó eq,Ð];rfl
 ·rintro ys H' ly k_ ⟨x',rfl⟩;exact⟨D,_,rfl,Ċ.of k_,by rw [pd];exact q H' x'⟩
end
def M6 (q:TK)(l:List Bg)(D:Nat):List Nat:=(l.filter λ r=>decide (r.key=q)).map λ r=>r.part D
theorem rP (q:TK)(l:List Bg)(r:Bg)(D:Nat):M6 q (l ++ [r]) D=if r.key=q then M6 q l D ++ [r.part D] else M6 q l D:=by
 unfold M6;rw [ν,Ž,Κ];by_cases e:r.key=q
 ·rw [Ç e,Ó rfl,Ó e,Ð];rfl
 ·rw [Ò e,Ë ax,Ë e,Ī]
theorem mh (q:TK)(D:Nat):∀ l:List Bg,(M6 q l D).sum=(l.map λ r=>r.part D*wm q r.key).sum
 | []=>rfl
 | r::l=>by
  have ih:=mh q D l;unfold M6 at ih ⊢;rw [Ž,Ú,š,<- ih];by_cases e:r.key=q
  ·rw [Ç e,Ó rfl,Ú,š,e];simp [wm]
  ·rw [Ò e,Ë ax];simp [wm,e]
theorem uy {q:TK}{l:List Bg}{D:Nat}(h:∀ r∈l,r.key≠q):M6 q l D=[]:=by
 unfold M6;rw [List.filter_eq_nil_iff.mpr λ r hr=>by simpa using h r hr]
 rfl
theorem p6 {t:Rl}(ok:t.ok)(sc:List Int):∀{k:Nat},(k:Int)<=t.Û->∃ ps,Lay t sc k (DD t k) ps
 | 0,_=>⟨_,Lay.zero t sc⟩
 | k+1,h=>by
  have hk:(k:Int)<t.Û:=af;obtain⟨ps,L⟩:=p6 ok sc (k:=k) (ħ hk);have d:=(iu ok sc (k:=k+1) h).1;have F1:1<=t.dd (k:Nat):=by
   have e:DD t (k+1)=DD t k*t.dd (k:Nat):=rfl;rw [e] at d;exact Nat.pos_of_mul_pos_left d
  refine⟨_,L.next ok hk F1 (RO _) λ p hp s hs=>?_⟩;exact(c5 ok hk ((L.st ok (ħ hk) hp).2.2 hk) s hs).2.2.2
theorem BD {t:Rl}(ok:t.ok)(sc:List Int){k:Nat}(hk:(k:Int)<=t.Û)(q:TK):(M6 q (dY t sc k) (DD t k)).sum<=DD t k:=by
 obtain⟨ps,L⟩:=p6 ok sc hk;rw [mh,<- L.at_ q];have h1:=wF ps q;have h2:=L.one;omega
theorem oC {κ:Type} [DecidableEq κ] {qs:List (κ × V)}{n:κ}{v:V}:(bu qs n v).map (·.1)=if n∈qs.map (·.1) then qs.map (·.1) else qs.map (·.1) ++ [n]:=by
 unfold bu;by_cases a:(qs.any λ kv=>decide (kv.1=n))=true
 ·have m:n∈qs.map (·.1):=by
   rw [o_] at a;obtain⟨p,hp,e⟩:=a;rw [<- ë e];exact ĩ hp
  rw [Ó a,Ó m,δ];refine Nb λ p hp=>?_;show(if p.1=n then(p.1,v) else p).1=p.1
  split <;> rfl
 ·have m:n ∉ qs.map (·.1):=λ z=>by
   obtain⟨p,hp,e⟩:=æ.mp z;exact a (o_.mpr ⟨p,hp,Ç e⟩)
  rw [Ë a,Ë m,Ð];rfl
theorem CG {κ:Type} [DecidableEq κ] {qs:List (κ × V)}{n:κ}{v:V}(nd:(qs.map (·.1)).Nodup):((bu qs n v).map (·.1)).Nodup:=by
 rw [oC];split
 ·exact nd
 ·rename_i h
  rw [ů];exact⟨nd,by simp,λ a ha b hb e=>h (by rw [List.mem_singleton.mp hb] at e;rw [<- e];exact ha)⟩
theorem sG {κ:Type} [DecidableEq κ] {qs:List (κ × V)}{n:κ}{v:V}{p:κ × V}(h:p∈bu qs n v):p=(n,v)\/(p∈qs/\p.1≠n):=by
 unfold bu at h;split at h
 ·obtain⟨x,hx,e⟩:=æ.mp h;by_cases z:x.1=n
  ·rw [Ó z] at e;left;rw [<- e,z]
  ·rw [Ë z] at e;right;rw [<- e];exact⟨hx,z⟩
 ·rename_i a
  rcases ß.mp h with h | h
  ·refine .inr ⟨h,λ z=>a (o_.mpr ⟨p,h,Ç z⟩)⟩
  ·exact .inl (É.mp h)
theorem jw (qs:List (TK × V)):kA (bT qs)/\pY (bT qs)=true/\cL (bT qs)=qs.length:=⟨True.intro,rfl,Ä _⟩
section
variable {H:Hp}{a b:Addr}{qs:List (TK × V)}{q:TK}{sv v:V}
theorem im (hu:Rd H a (bT qs))(hb:H b=some (.tup [sv,.int q.2]))(nv:NV H q.1 sv):B_ H a (.ref b) (bP qs q):=by
 have e:bP (qs.map λ p=>([p.1.1,NK.k (.inl p.1.2)],p.2)) [q.1,NK.k (.inl q.2)]=bP qs q:=f6 ix True.intro (n:=q) λ _ _=>True.intro;exact .inr ⟨_,_,b,hu,rfl,kO hb nv,e.symm⟩
theorem oj (hu:H a=some (bT qs))(hb:H b=some (.tup [sv,.int q.2]))(nv:NV H q.1 sv)(lt:qs.length<sizeLine):su H a (.ref b) v (aj H a (bT (bu qs q v))):=by
 refine .inr ⟨_,_,b,hu,rfl,kO hb nv,by rw [Ä];exact lt,?_⟩
 rw [gw (g:=λ q:TK=>[q.1,NK.k (.inl q.2)]) ix True.intro (n:=q) λ _ _=>True.intro];rfl
theorem qV {i:Nat}{kx:V}(h:j7 H (bT qs) i kx v):∃ p b sv,qs[i]?=some p/\kx=.ref b/\H b=some (.tup [sv,.int p.1.2])/\NV H p.1.1 sv/\v=p.2:=by
 rcases h with⟨l,k,e,_⟩ | ⟨l,k,b,e,hk,rfl,vs,hb,nv⟩
 ·cases e
 ·cases e;rw [Ô] at hk;obtain⟨p,hp,e2⟩:=å.mp hk;cases e2;cases nv with
  | cons n1 nv =>
   cases nv with
   | cons n2 nv =>
    cases nv;cases (show _=V.int p.1.2 from n2);exact⟨p,b,_,hp,rfl,hb,n1,rfl⟩
end
theorem ow {κ:Type} [DecidableEq κ] {qs:List (κ × V)}(nd:(qs.map (·.1)).Nodup){p:κ × V}(h:p∈qs):bP qs p.1=some p.2:=by
 induction qs with
 | nil=>cases h
 | cons x qs ih =>
  rw [Ú,Ğ] at nd;rcases é.mp h with rfl | h
  ·exact bC rfl
  ·rw [bD (λ z=>nd.1 (by rw [z];exact ĩ h))]
   exact ih nd.2 h
structure O4 (G:Hp)(D:Nat)(l:List Bg)(qs:List (TK × V)):Prop where
 nd:(qs.map (·.1)).Nodup
 ks:∀ q,q∈qs.map (·.1) ↔ ∃ r∈l,r.key=q
 ls:∀ p∈qs,∃ L zs,p.2=.ref L/\G L=some (.lst zs)/\RE G D zs (M6 p.1 l D)
 len:qs.length<=l.length
theorem O4.keep {G G':Hp}{D:Nat}{l:List Bg}{qs:List (TK × V)}(h:O4 G D l qs)(x:∀ z xs,G z=some (.tup xs)->G' z=some (.tup xs))(y:∀ z xs,G z=some (.lst xs)->G' z=some (.lst xs)):O4 G' D l qs:=⟨h.nd,h.ks,λ p hp=>by
 obtain⟨L,zs,e,g,f⟩:=h.ls p hp;exact⟨L,zs,e,y _ _ g,f.ext x⟩,h.len⟩
theorem O4.next {G:Hp}{D:Nat}{l:List Bg}{qs:List (TK × V)}{r:Bg}{L:Addr}{zs:List V}(h:O4 G D l qs)(hL:G L=some (.lst zs))(f:RE G D zs (M6 r.key l D ++ [r.part D])):O4 G D (l ++ [r]) (bu qs r.key (.ref L)) where
 nd:=CG h.nd
 len:=by
  have h1:=cE qs r.key (.ref L);have h2:=h.len;rw [Õ,L_];omega
 ks:=λ q=>by
  rw [oC];constructor
  ·intro hq;split at hq
   ·obtain⟨x,hx,e⟩:=(h.ks q).mp hq;exact⟨x,ĭ _ hx,e⟩
   ·rcases ß.mp hq with hq | hq
    ·obtain⟨x,hx,e⟩:=(h.ks q).mp hq;exact⟨x,ĭ _ hx,e⟩
    ·exact⟨r,à _ (É.mpr rfl),(É.mp hq).symm⟩
  ·rintro⟨x,hx,e⟩;rcases ß.mp hx with hx | hx
   ·have m:=(h.ks q).mpr ⟨x,hx,e⟩;split
    ·exact m
    ·exact ĭ _ m
   ·rw [É.mp hx] at e;subst e;split
    ·assumption
    ·exact à _ (É.mpr rfl)
 ls:=λ p hp=>by
  rcases sG hp with rfl | ⟨hp,ne⟩
  ·refine⟨L,zs,rfl,hL,?_⟩;rw [rP,Ó rfl];exact f
  ·obtain⟨L',RU,e,g,f'⟩:=h.ls p hp;refine⟨L',RU,e,g,?_⟩;rw [rP,Ë (λ z=>ne z.symm)];exact f'
section
variable {P:Program}{w:World}{K:Frag}{mg:cr}{base:Heap}{C:Nat->Addr}{CR f a1 a2 a3 a4 n0 n1:Addr}{fd d1 d2 d3 d4:FuncData}
abbrev Et:Stmt:=cP 67
abbrev Lq:List Str:=["_law_told","_law_scores_here","_law_found","_law_rows","_law_parts","_law_dealing","_law_state","_law_top","_law_bottom","_law_key","_law_layer"]
theorem Tz:ai Lq ["_law_told","_law_scores_here"] (aa Et):=bc
def Dg:Sp:=λ vs H Q _=>∃(v:V)(sp:Addr)(t:Rl)(sc:List Int),vs=[v,.ref sp]/\Ą H v (Rl.told t)/\t.ok/\t.Nn<=2/\H sp=some (.lst (sc.map V.int))/\(sc.length:Int)=t.Û/\sc.length<=12 /\
 ∀ L ds H',Ext H H'->H L=none->H' L=some (.lst (ds.map V.ref))->ds.length=sc.length+1->xO H H' t sc ds->Q (.ref L) H'
def J7 (K:Frag):TS:=bY (cz (ao (ae 6) (ao (cC wp [] E0 (ao (HU (A4 K) (ae 1) ii (nS (sA K 2))) (ao (ae 5) aF))) aF))) (aN 9)
def HS:TS:=lG (ae 4) (ae 9) (bV Hc (qC (ae 4) (ae 9) (cv aF)) (cv (ao (cz (ao (ae 7) (ao (ae 8) aF))) aF)))
def E4 (K:Frag):TS:=aA (J7 K) HS
def LZ (K:Frag):TG:=dL K 4 (aL (aN 5) (aL (aN 6) (aL (aN 7) (aL (aN 8) dP))))
def BJ (K:Frag):TS:=fj (fc K (ae 3)) (LZ K) (E4 K)
def KD:TS:=lG (ae 10) (ae 9) (cC zg [] E0 (ao (oG (ae 4) (ae 9)) aF))
def yw:TS:=fj (FH (ae 4)) (aN 9) KD
def CA (K:Frag):TS:=dW (wV K "list" cW (ae 2) (ao (ae 10) aF))
def Hj (K:Frag):TS:=aA (bY fH (aN 4)) (aA (BJ K) (aA (bY fH (aN 10)) (aA yw (CA K))))
def Mb (K:Frag):TS:=aA (bY (cv aF) (aN 2)) (aA (fj (fc K (cC t6 [] E0 (ao (ae 0) aF))) (aN 3) (Hj K)) (aY (ae 2)))
section
variable {cdv:Value}{A:Around}{outer:List Env}{s:Shared}{H:Hp}{E:XK}
theorem BE (A1:Df P w K mg base aB 5 "_law_layers" ["_law_told"] t6 a1 d1) (A2:Df P w K mg base aB 1 "_law_sum_of" ["_law_scores_here","_law_dealing"] wp a2 d2) (A3:Df P w K mg base aB 2 "_law_added" ["_law_parts"] zg a3 d3) (ml:mg "len" = none) (hr:nh 5 "_law_table" Et A s f cdv):Bx (ſ (bR aB P w K mg base Lq "_law_table" (aa Et) f cdv A outer s H E).Φ (aI Et) (Mb K)):=by
 have nd:=Tz.nd;have hu:=jr hr;have Ŧ:ć 1 _:=hr.mono ax;have H_:ć 2 _:=hr.mono ax;exact dZ ⟨dk (i:=2) nd rfl (Or.inl rfl) (cF ar)⟩
  (dZ ⟨cj Ā rfl (bJ (bZ A1 hr ag (ac (pv 0) ar))) (cu (i:=3) nd rfl (Or.inl rfl))
   (bb (dk (i:=4) nd rfl (Or.inl rfl) gk)
   (bb (cj Ā rfl (bJ (pv 3)) (bN rfl (dB (cu (i:=5) nd rfl (Or.inl rfl)) (dB (cu (i:=6) nd rfl (Or.inl rfl)) (dB (cu (i:=7) nd rfl (Or.inl rfl)) (dB (cu (i:=8) nd rfl (Or.inl rfl)) br)))))
    (bb (dk (i:=9) nd rfl (Or.inl rfl) (aP (ac (pv 6) (ac (bZ A2 Ŧ ag (ac (oO yC (pv 1) q9 (rC (am aO rfl ml ö (ac (pv 2) ar)))) (ac (pv 5) ar))) ar))))
    (aW (iD hu (pv 4) (pv 9) (ak Ef (pz hu (pv 4) (pv 9) (cF ar) ⟨rfl,rfl,rfl,rfl⟩) (Bx.h (eP (cO (dm (cO ⟨pv 7⟩ (cO ⟨pv 8⟩ bh))) bh)))) rfl))))
   (bb (dk (i:=10) nd rfl (Or.inl rfl) gk)
   (bb (cj Ā rfl (rN (pv 4)) (cu (i:=9) nd rfl (Or.inl rfl))
    (aW (iD hu (pv 10) (pv 9) (bZ A3 H_ ag (ac (iE hu (pv 4) (pv 9)) ar)) rfl)))
   (aW (aR (fX ø ô ó bQ (pv 2) (ac (pv 10) ar))))))))⟩
  (bS (cX ⟨pv 2⟩)))
end
theorem B5 {De:dq}{H0 H:Hp}{v nv:V}{t:Rl}{sc:List Int}{sp lf La pp:Addr}{ds:List Addr}{k D T B:Nat}{r:Bg}{l:List Bg}{qs:List (TK × V)}{o9 oa:Option V}(x0:Ext H0 H)(p0:H0 pp=none)(MC:H sp=some (.lst (sc.map V.int)))(Os:H lf=some (.lst (ds.map V.ref)))(ld:ds.length=k)(hk:k<=sc.length)(Nl:sc.length<=12)(rn:Ą H nv r.st)(sb:hG t.tp r.st=true)(es:r.s=ia sc k r.d)(n:Td k r T B)(rb:1<=r.b)(dv:r.b ∣ D)
  (hp:H pp=some (bT qs)) (pt:O4 H D l qs) (ll:l.length<=10000)
  (q:∀ H' N' o9,Ext H0 H'->H' pp=some (bT N')->O4 H' D (l ++ [r]) N'->De.nx [some v,some (.ref sp),some (.ref lf),some (.ref La),some (.ref pp),some (.int (r.d:Nat)),some nv,some (.int (T:Nat)),some (.int (B:Nat)),o9,oa] H') :
  E4 K De [some v,some (.ref sp),some (.ref lf),some (.ref La),some (.ref pp),some (.int (r.d:Nat)),some nv,some (.int (T:Nat)),some (.int (B:Nat)),o9,oa] H:=by
 refine aK (te:=cz (ao (ae 6) (ao (cC wp [] E0 (ao (HU (A4 K) (ae 1) ii (nS (sA K 2))) (ao (ae 5) aF))) aF))) (i:=9) (D:=De) ⟨_,rfl,_,rfl,_,rfl,lf,_,rfl,.inl (Ċ.of Os),_,rfl,sp,_,rfl,Ċ.of MC,λ s1 UE=>?_⟩;have x1:=Ext.new (o:=.lst (jd (sc.map V.int) none (some ((((ds.map V.ref).length:Nat):Int))))) UE;have g1:aj H s1 (.lst (jd (sc.map V.int) none (some ((((ds.map V.ref).length:Nat):Int))))) s1=some (.lst ((sc.take k).map V.int)):=by
  rw [be,Ä,ld,vd _ _ (by rw [Ä];exact hk),j']
 generalize aj H s1 (.lst (jd (sc.map V.int) none (some ((((ds.map V.ref).length:Nat):Int)))))=H1 at x1 g1 ⊢;have lk:(sc.take k).length=k:=by rw [ò];omega
 refine⟨_,rfl,s1,r.d,sc.take k,rfl,g1,af,λ H2 x2=>⟨cK,λ b hb=>?_⟩⟩;rw [lk,kH sc r.d (Æ k),<- es];show HS De [some v,some (.ref sp),some (.ref lf),some (.ref La),some (.ref pp),some (.int (r.d:Nat)),some nv,some (.int (T:Nat)),some (.int (B:Nat)),some (.ref b),oa] (aj H2 b (.tup [nv,.int r.s]));obtain⟨H3,x3,g3,eU⟩:=gB hb (.tup [nv,.int r.s]);have g3:H3 b=some (.tup [nv,.int r.key.2]):=g3;rw [eU];have Ov:=(x1.trans x2).trans x3;have Yk:NV H r.key.1 nv:=rL (by show Ą H nv (eC (fw r.st));rw [lE sb];exact rn)
 have YR:=Ov _ _ hp;refine⟨_,rfl,pp,rfl,.inr ⟨_,.inl YR⟩,_,rfl,cK,λ l0 YY=>?_⟩;obtain⟨H4,x4,g4,eU⟩:=gB YY (.lst []);rw [eU];have Pr:=Ov.trans x4;have YQ:=x4 _ _ YR;refine⟨_,im (q:=r.key) (.inl YQ) (x4 _ _ g3) (eJ Yk Pr),?_⟩;obtain⟨L0,RT,eo,QT,VY⟩:∃ L0 RT,(bP qs r.key).getD (.ref l0)=.ref L0/\H4 L0=some (.lst RT)/\RE H4 D RT (M6 r.key l D):=by
  rcases iM (n:=r.key) (qs:=qs) with⟨e,no⟩ | ⟨x,e,m⟩
  ·refine⟨l0,[],by rw [e];rfl,g4,?_⟩
   rw [uy λ x hx ex=>?_]
   ·exact .nil
   ·have z:=(pt.ks r.key).mpr ⟨x,hx,ex⟩;obtain⟨p,hp,ep⟩:=æ.mp z;exact no p hp ep
  ·obtain⟨L,zs,el,g,fr⟩:=pt.ls _ m;exact⟨L,zs,by rw [e];exact el,Pr _ _ g,fr.ext λ z xs h=>Pr _ _ h⟩
 rw [eo];refine⟨_,rfl,_,rfl,cK,λ m hm=>⟨cK,λ l1 Qt=>?_⟩⟩;have x5:=Ext.new (o:=.tup [.int (T:Nat),.int (B:Nat)]) hm;have g5:aj H4 m (.tup [.int (T:Nat),.int (B:Nat)]) m=some (.tup [.int (T:Nat),.int (B:Nat)]):=be;generalize aj H4 m (.tup [.int (T:Nat),.int (B:Nat)])=H5 at x5 g5 Qt ⊢;obtain⟨H6,x6,g6,eU⟩:=gB Qt (.lst [.ref m]);rw [eU];have XZ:=x5.trans x6;have fl:=VY.len;have ln:(M6 r.key l D).length<=10000:=by
  unfold M6;rw [Ä];exact Í (Ź _ _) ll
 refine⟨L0,l1,RT,_,rfl,rfl,XZ _ _ QT,g6,by rw [Ü];show RT.length+1<=_;omega,λ L hL=>?_⟩
 obtain⟨H7,x7,g7,eU⟩:=gB hL (.lst (RT ++ [.ref m]));rw [eU];have QD:=XZ.trans x7;have Vl:=Pr.trans QD;have W3:=QD _ _ YQ;have pl:=pt.len;refine⟨_,rfl,_,rfl,pp,_,rfl,oj (q:=r.key) W3 (QD _ _ (x4 _ _ g3)) (eJ Yk Vl) (by rw [Ü];omega),?_⟩
 have Ē:∀ z xs,H7 z=some (.tup xs)->aj H7 pp (bT (bu qs r.key (.ref L))) z=some (.tup xs):=λ z xs h=>by
  rw [ad (λ e=>by rw [e,W3] at h;cases h)];exact h
 have Uy:∀ z xs,H7 z=some (.lst xs)->aj H7 pp (bT (bu qs r.key (.ref L))) z=some (.lst xs):=λ z xs h=>by
  rw [ad (λ e=>by rw [e,W3] at h;cases h)];exact h
 have eq:T*D=r.part D*B:=by
  obtain⟨u,rfl⟩:=dv;unfold Bg.part;rw [č _ rb]
  calc T*(r.b*u)=(T*r.b)*u:=by ac_rfl
   _=(r.t*B)*u:=by rw [n.x]
   _=r.t*u*B:=by ac_rfl
 have fr7:RE H7 D (RT ++ [.ref m]) (M6 r.key l D ++ [r.part D]):=AA.app (VY.ext λ z xs h=>QD _ _ h) (.cons ⟨m,T,B,rfl,(x6.trans x7) _ _ g5,eq,n.b1,Í n.le (Í (þ ax (show k<=12 by omega)) ax),n.tb⟩ .nil)
 exact q _ _ _ (aV _ (x0.trans Vl) p0) be (((pt.keep (λ z xs h=>Vl _ _ h) (λ z xs h=>Vl _ _ h)).next g7 fr7).keep Ē Uy)
end
theorem Fu (ok:t.ok)(sc:List Int){k:Nat}(hk:(k:Int)<=t.Û)(Rs:k<=12):0<DD t k/\DD t k<=10^24 :=
 ⟨(iu ok sc hk).1,Í (iu ok sc hk).2 (Í (þ ax Rs) ax)⟩
theorem Pp.ext {ss:List Bg}(h:Pp H k L ss)(x:Ext H H')(nl:∀ s∈ss,aG s.st=true):Pp H' k L ss:=h.keep x.Rr (by obtain⟨ps,h,_⟩:=h;rw [x _ _ h,h]) nl
section
variable {P:Program}{w:World}{K:Frag}{mg:cr}{base:Heap}{C:Nat->Addr}{CR f a1 a2 a3 a4 n0 n1:Addr}{fd d1 d2 d3 d4:FuncData}
theorem Ca {ds:List Addr}(ok:t.ok)(fk:(sc.length:Int)=t.Û)(Nl:sc.length<=12)(hk:k<=sc.length)(hb:Pp H0 k La (dY t sc k))(x0:Ext H0 H)(p0:H0 pp=none)(MC:H0 sp=some (.lst (sc.map V.int)))(Os:H0 lf=some (.lst (ds.map V.ref)))(ld:ds.length=k)(hp:H pp=some (bT []))
  (q:∀ H' qs o5 o6 o7 o8 o9,Ext H0 H'->H' pp=some (bT qs)->O4 H' (DD t k) (dY t sc k) qs->De.nx [some v,some (.ref sp),some (.ref lf),some (.ref La),some (.ref pp),o5,o6,o7,o8,o9,oa] H') :
  BJ K De [some v,some (.ref sp),some (.ref lf),some (.ref La),some (.ref pp),o5,o6,o7,o8,o9,oa] H:=by
 have Oj:(k:Int)<=t.Û:=af;have Vw:=dw (sc:=sc) ok Oj;have ss:=z8 (sc:=sc) ok Oj;obtain⟨ps,Rw,al⟩:=hb;have ln:=ik t sc k;have Rs:2^k<=4096:=Í (þ ax (show k<=12 by omega)) ax
 refine⟨_,rfl,La,rfl,⟨_,Ċ.of (x0 _ _ Rw)⟩,c7 (xs:=ps) (λ i σ H'=>Ext H0 H'/\∃(qs:List (TK × V))(o5 o6 o7 o8 o9:Option V),σ=[some v,some (.ref sp),some (.ref lf),some (.ref La),some (.ref pp),o5,o6,o7,o8,o9,oa]/\H' pp=some (bT qs)/\O4 H' (DD t k) ((dY t sc k).take i) qs) ⟨x0,[],o5,o6,o7,o8,o9,rfl,hp,⟨by simp,λ q=>by simp,λ p h=>(nomatch h),by simp⟩⟩ ?_ ?_ ?_⟩
 ·rintro i σ H' _ ⟨x',_⟩;exact Ċ.of (x' _ _ Rw)
 ·rintro i pv σ H' ep ⟨x',qs,o5,o6,o7,o8,o9,rfl,O2,pt⟩;obtain⟨r,er,hr⟩:=al.get ep;obtain⟨a,nv,T,B,rfl,ha,n,rn⟩:=hr;have hm:=Ì er;have o:=Vw r hm;refine⟨a,_,rfl,Ė.of (x' _ _ ha),rfl,_,_,rfl,_,_,rfl,_,_,rfl,_,_,rfl,rfl,?_⟩;refine B5 x' p0 (x' _ _ MC) (x' _ _ Os) ld hk Nl (rn.mono x') o.st (ss r hm) n o.b1 o.dv O2 pt (by rw [ò];omega) λ H5 qs5 o9 x5 h5 s5=>⟨x5,qs5,_,_,_,_,o9,rfl,h5,?_⟩
  rw [aM er];exact s5
 ·rintro σ H' ⟨x',qs,o5,o6,o7,o8,o9,rfl,O2,pt⟩;rw [al.len,á] at pt;exact q H' qs o5 o6 o7 o8 o9 x' O2 pt
theorem Dt {k:Nat}(ok:t.ok)(hk:(k:Int)<=t.Û)(Rs:k<=12)(x0:Ext H0 H)(p0:H0 pp=none)(l0:H0 ly=none)(hp:H pp=some (bT qs))(pt:O4 H (DD t k) (dY t sc k) qs)(hl:H ly=some (bT []))
  (q:∀ H' MM o9,Ext H0 H'->H' ly=some (bT MM)->Bk H' t sc k MM->De.nx [some v,some (.ref sp),some (.ref lf),some (.ref La),some (.ref pp),o5,o6,o7,o8,o9,some (.ref ly)] H') :
  yw De [some v,some (.ref sp),some (.ref lf),some (.ref La),some (.ref pp),o5,o6,o7,o8,o9,some (.ref ly)] H:=by
 have Vx:ly≠pp:=λ e=>by
  rw [e,hp] at hl;injection hl with hl
  have:qs=[]:=by
   unfold bT at hl;injection hl with hl
   simpa using hl
  subst this;obtain⟨ps,L⟩:=p6 ok sc hk;have h1:=L.one;have h2:=(Fu ok sc hk Rs).1;cases ps with
  | nil=>rw [<- h1] at h2;simp [tS] at h2
  | cons p ps =>
   have m:=(L.keys ok hk p.1).mp (by simp)
   have m2:=(pt.ks p.1).mpr m;simp at m2
 obtain⟨D0,XT⟩:=Fu ok sc hk Rs;have dd:O4 H (DD t k) (dY t sc k) qs:=pt;have lq:=pt.len;have lb:=ik t sc k;have k4:2^k<=4096:=Í (þ ax Rs) ax;refine⟨_,rfl,pp,bT qs,rfl,True.intro,.inl hp,λ ob H2 fz=>?_⟩;have e2:∀{b:Addr}{o:HO},H b=some o->b≠pp->H2 b=some o:=λ {b o} h n=>by rw [fz.2 b n];exact h
 have x2:Ext H0 H2:=λ b o h=>e2 (x0 _ _ h) (λ e=>by rw [e,p0] at h;cases h)
 have T9:O4 H2 (DD t k) (dY t sc k) qs:=pt.keep (λ z xs h=>e2 h (λ e=>by rw [e,hp] at h;cases h)) (λ z xs h=>e2 h (λ e=>by rw [e,hp] at h;cases h))
 refine rh (λ i σ H'=>H' pp=some (.Ŭ ob (bT qs))/\Ext H0 H'/\O4 H' (DD t k) (dY t sc k) qs/\∃(MM:List (TK × V))(o9:Option V),σ=[some v,some (.ref sp),some (.ref lf),some (.ref La),some (.ref pp),o5,o6,o7,o8,o9,some (.ref ly)]/\H' ly=some (bT MM)/\MM.map (·.1)=(qs.take i).map (·.1)/\∀ p∈MM,∃ z,p.2=.ref z/\H' z=some (.tup [.int (bo (SS t sc k p.1) (DD t k):Nat),.int (aE (SS t sc k p.1) (DD t k):Nat)]))
  ⟨fz.1,x2,T9,[],o9,rfl,e2 hl Vx,rfl,λ p h=>nomatch h⟩ (λ i σ H' pv=>pv.1) ?_ ?_
 ·rintro i σ H' kx vv hi ⟨hf,x',Se,MM,o9,rfl,Nm,ek,al⟩ pr;obtain⟨p,b,sv,hpq,rfl,hb,nv,rfl⟩:=qV pr;have hm:=Ì hpq;obtain⟨L,zs,eL,hL,fr⟩:=Se.ls p hm;have vm:=ow Se.nd hm;have dg:=im (.inr ⟨ob,hf⟩) hb nv;rw [vm] at dg;refine⟨_,rfl,_,rfl,pp,_,rfl,dg,L,zs,M6 p.1 (dY t sc k) (DD t k),DD t k,ą (λ z=>[z]) eL,hL,fr,D0,XT,BD ok sc hk p.1,λ m hmn=>?_⟩;rw [show(M6 p.1 (dY t sc k) (DD t k)).sum=SS t sc k p.1 from mh _ _ _];obtain⟨H3,x3,g3,eU⟩:=gB hmn (.tup [.int (bo (SS t sc k p.1) (DD t k):Nat),.int (aE (SS t sc k p.1) (DD t k):Nat)]);rw [eU];have Rx:=x3 _ _ Nm;have new:p.1 ∉ MM.map (·.1):=λ z=>by
   rw [ek] at z;have nd:=Se.nd;have e2:qs.map (·.1)=(qs.take i).map (·.1)++(qs.drop i).map (·.1):=by rw [<- Ð,K_]
   rw [e2,ů] at nd;have z2:p.1∈(qs.drop i).map (·.1):=by
    refine ĩ (Ì (i:=0) ?_);rw [List.getElem?_drop];exact hpq
   exact nd.2.2 _ z _ z2 rfl
  have vn:bP MM p.1=none:=by
   cases h:bP MM p.1 with
   | none=>rfl
   | some v=>exact absurd (rV h) new
  have l2:MM.length<=qs.length:=by
   have:=ą List.length ek;rw [Ä,Ä,ò] at this;omega
  have pk:bu MM p.1 (.ref m)=MM ++ [(p.1,V.ref m)]:=L2.Ű _ vn;refine⟨_,rfl,_,rfl,ly,_,rfl,oj Rx (x3 _ _ hb) (eJ nv x3) (by rw [Ü];omega),?_⟩
  have nep:pp≠ly:=λ e=>Vx e.symm;have kT:∀ z xs,H3 z=some (.tup xs)->aj H3 ly (bT (bu MM p.1 (.ref m))) z=some (.tup xs):=λ z xs h=>by
   rw [ad (λ e=>by rw [e,Rx] at h;cases h)];exact h
  have kL:∀ z xs,H3 z=some (.lst xs)->aj H3 ly (bT (bu MM p.1 (.ref m))) z=some (.lst xs):=λ z xs h=>by
   rw [ad (λ e=>by rw [e,Rx] at h;cases h)];exact h
  refine⟨by rw [ad nep];exact x3 _ _ hf,aV _ (x'.trans x3) l0,(Se.keep (λ z xs h=>x3 _ _ h) (λ z xs h=>x3 _ _ h)).keep kT kL,MM ++ [(p.1,.ref m)],_,rfl,by rw [be,pk],?_,?_⟩
  ·rw [Ð,ek,aM hpq,Ð];rfl
  ·intro z hz;rcases ß.mp hz with hz | hz
   ·obtain⟨y,e1,e2⟩:=al z hz;exact⟨y,e1,kT _ _ (x3 _ _ e2)⟩
   ·rw [É.mp hz];exact⟨m,rfl,kT _ _ g3⟩
 ·rintro σ H' ⟨hf,x',Se,MM,o9,rfl,Nm,ek,al⟩;rw [(jw qs).2.2,á] at ek;exact q H' MM o9 x' Nm ⟨by rw [ek];exact Se.nd,λ z=>by rw [ek];exact Se.ks z,al⟩
theorem Ii (F:ĵ K "_law_table" "_law_table" Et f fd) (A1:Df P w K mg base aB 5 "_law_layers" ["_law_told"] t6 a1 d1) (A2:Df P w K mg base aB 1 "_law_sum_of" ["_law_scores_here","_law_dealing"] wp a2 d2) (A3:Df P w K mg base aB 2 "_law_added" ["_law_parts"] zg a3 d3) (ml:mg "len" = none):í P w K mg base aB 6 f fd ["_law_told","_law_scores_here"] Dg:=by
 refine bX F Tz λ cdv A outer s H vs Q E hr h=>?_;obtain⟨v,sp,t,sc,rfl,rv,ok,hg,MC,fk,Nl,q⟩:=h;obtain⟨ε⟩:=BE A1 A2 A3 ml hr (f:=f) (cdv:=cdv) (A:=A) (outer:=outer) (s:=s) (H:=H) (E:=E);refine⟨_,ε,?_⟩;have OB:∀(j:Nat),(j:Int)<=t.Û->∀ s∈dY t sc j,aG s.st=true:=λ j hj s hs=>u8 (dw ok hj s hs).st;refine aK (te:=cv aF) (i:=2) (D:=⟨_,Q,_,_⟩) ⟨cK,λ lf Os=>?_⟩;show aA (fj (fc K (cC t6 [] E0 (ao (ae 0) aF))) (aN 3) (Hj K)) (aY (ae 2)) ⟨λ _ H'=>Q .Ă H',Q,λ _ _=>False,λ _ _=>False⟩ [some v,some (.ref sp),some (.ref lf),none,none,none,none,none,none,none,none] (aj H lf (.lst []));obtain⟨H1,x1,g1,eU⟩:=gB Os (.lst []);rw [eU];refine⟨_,rfl,v,t,sc,rfl,rv.mono x1,ok,hg,af,λ L ls H2 x2 QT hL lls nn la=>⟨L,rfl,⟨_,Ċ.of hL⟩,?_⟩⟩;have nL:L≠lf:=λ e=>by rw [e,g1] at QT;cases QT
 have Wx:∀ a∈ls,a≠lf:=λ a ha e=>by have:=nn a ha;rw [e,g1] at this;cases this
 refine c7 (xs:=ls.map V.ref) (λ i σ H'=>Ext H H'/\H' L=some (.lst (ls.map V.ref))/\JR H' t sc ls/\∃(ds:List Addr)(o3 o4 o5 o6 o7 o8 o9 oa:Option V),σ=[some v,some (.ref sp),some (.ref lf),o3,o4,o5,o6,o7,o8,o9,oa]/\H' lf=some (.lst (ds.map V.ref))/\ds.length=i/\xO H H' t sc ds) ⟨x1.trans x2,hL,la,[],none,none,none,none,none,none,none,none,rfl,x2 _ _ g1,rfl,λ k d e=>by simp at e⟩ ?_ ?_ ?_
 ·rintro i σ H' _ ⟨_,h2,_⟩;exact Ċ.of h2
 ·rintro i pv σ H' ep ⟨x',Y_,Su,ds,o3,o4,o5,o6,o7,o8,o9,oa,rfl,hz,S2,ta⟩;rw [Ô] at ep;obtain⟨La,eL,rfl⟩:=å.mp ep;have hi:i<ls.length:=(È.mp eL).1;have hk:i<=sc.length:=af;have Oj:(i:Int)<=t.Û:=af;refine aK (te:=fH) (i:=4) λ pp UG=>?_;show aA (BJ K) (aA (bY fH (aN 10)) (aA yw (CA K))) _ [some v,some (.ref sp),some (.ref lf),some (.ref La),some (.ref pp),o5,o6,o7,o8,o9,oa] (aj H' pp (.dT []));obtain⟨H6,x6,g6,eU⟩:=gB UG (.dT []);have g6:H6 pp=some (bT []):=g6;rw [eU];refine Ca (H0:=H') (ds:=ds) ok fk Nl hk (Su i La eL) x6 UG (x' _ _ MC) hz S2 g6 λ H7 qs o5 o6 o7 o8 o9 x7 h7 pt=>?_;refine aK (te:=fH) (i:=10) λ ly YX=>?_;show aA yw (CA K) _ [some v,some (.ref sp),some (.ref lf),some (.ref La),some (.ref pp),o5,o6,o7,o8,o9,some (.ref ly)] (aj H7 ly (.dT []));obtain⟨H8,x8,g8,eU⟩:=gB YX (.dT []);have g8:H8 ly=some (bT []):=g8;rw [eU];have Yv:=x7.back YX;refine Dt (H0:=H') (sc:=sc) (qs:=qs) ok Oj af (x7.trans x8) UG Yv (x8 _ _ h7) (pt.keep (λ z xs h=>x8 _ _ h) (λ z xs h=>x8 _ _ h)) g8 λ H9 MM o9 x9 h9 tb=>?_;have S4:=x9 _ _ hz;refine⟨_,rfl,.inl ⟨rfl,_,Ċ.of S4⟩,_,rfl,lf,ds.map V.ref,.ref ly,rfl,rfl,S4,by rw [Ä,Ü];omega,?_⟩
  have kp:=zD (.lst (ds.map V.ref ++ [.ref ly])) S4;have VC:H lf=none:=Os;have kT:∀ z xs,H9 z=some (.tup xs)->aj H9 lf (.lst (ds.map V.ref ++ [.ref ly])) z=some (.tup xs):=λ z xs h=>by
   rw [ad (λ e=>by rw [e,S4] at h;cases h)];exact h
  refine⟨aV _ (x'.trans x9) VC,by rw [ad nL];exact x9 _ _ Y_,λ j a e=>?_,ds ++ [ly],_,_,_,_,_,_,_,_,rfl,by rw [Ð];exact be,by rw [Õ,S2];rfl,λ j d e=>?_⟩
  ·have hj:j<ls.length:=(È.mp e).1;exact((Su j a e).ext x9 (OB j af)).keep kp (ad (Wx a (Ì e))) (OB j af)
  ·rcases Ħ j ds.length with z | z
   ·rw [ý z] at e;obtain⟨d0,Vv,e1,e2⟩:=ta j d e;have Xx:=x9 _ _ e1;exact⟨d0,Vv,by rw [ad (λ y=>by rw [y,S4] at Xx;cases Xx)];exact Xx,(e2.ext λ z xs h=>x9 _ _ h).ext kT⟩
   ·have ej:j=i:=by
     have:=(È.mp e).1;rw [Õ,S2] at this;simp at this;omega
    subst ej;rw [ç af,S2,Χ] at e;cases e;exact⟨x'.back Yv,MM,by rw [ad (λ y=>by rw [y,S4] at h9;cases h9)];exact h9,tb.ext kT⟩
 ·rintro σ H' ⟨x',Y_,Su,ds,o3,o4,o5,o6,o7,o8,o9,oa,rfl,hz,S2,ta⟩;rw [Ä] at S2;exact⟨_,rfl,q lf ds H' x' Os hz af ta⟩
end
section
variable {prog:Program}{w:World}{A:Around}{E:eE}{s:Shared}
theorem xV {items}(hit:s.heap.IsTupleIter it t i)(ht:s.heap.IsTuple t items)(hx:items[i]?=some x)
  (hQ:∀ h',h'.IsTupleIter it t (i+1)->Heap.SameBut it s.heap h'->Q x { s with heap:=h' }):wpAny (model prog w) A (Builtin.SmallTypes.nextOf (.ref it)) Q E s:=by
 obtain⟨⟨o,ho,hc,hd⟩,⟨ol,W4,_,nl,Xn⟩⟩:=And.intro (id hit) ht;unfold Builtin.SmallTypes.nextOf;refine À (ð (name:=Str.ofString "__next__") hit.typeIs ţ (î ţ hit.typeIs F.entry_tuple_iterator_next ?_ (RS _)));show wpAny _ _ (field (.ref it) 0>>=_) _ _ s;refine À (ú ho hd (x:=.ref t) rfl ?_);show wpAny _ _ (if(Value.ref t==Value.none)=true then _ else _) _ _ s;rw [Ë (show ¬ ((Value.ref t == .none)=true) from Ø)]
 show wpAny _ _ (field (.ref it) 1>>=_) _ _ s;refine À (ú ho hd (x:=.int i 0) rfl ?_);show wpAny _ _ (seqItems? (.ref t)>>=_) _ _ s;refine À (ł W4 Xn ?_);simp only [Int.toNat_natCast,hx];refine À (Ł ho hd (by simp) (wpAny_pure ⟨x,rfl,wpAny_pure (hQ _ ⟨_,Heap.get?_update_self _ ho (Obj.isFreed_of_fields (Obj.data_mapFields hd _)),(Obj.cls_mapFields ..).trans hc,?_⟩ (Heap.SameBut.update ..))⟩))
 rw [ń hd];simp [rawInt]
theorem DE {items}(hh:A.handled=none)(hit:s.heap.IsTupleIter it t i)(ht:s.heap.IsTuple t items)(hx:items[i]?=none)
  (hE:∀ h' e,Heap.ExtBut it s.heap h'->(∃ o,h'.get? e=some o/\o.cls=.type "StopIteration")->E (.ref e) { s with heap:=h' }):wpAny (model prog w) A (Builtin.SmallTypes.nextOf (.ref it)) Q E s:=by
 obtain⟨⟨o,ho,hc,hd⟩,⟨ol,W4,_,nl,Xn⟩⟩:=And.intro (id hit) ht;unfold Builtin.SmallTypes.nextOf;refine À (ð (name:=Str.ofString "__next__") hit.typeIs ţ (î ţ hit.typeIs F.entry_tuple_iterator_next ?_ (RS _)));show wpAny _ _ (field (.ref it) 0>>=_) _ _ s;refine À (ú ho hd (x:=.ref t) rfl ?_);show wpAny _ _ (if(Value.ref t==Value.none)=true then _ else _) _ _ s;rw [Ë (show ¬ ((Value.ref t==Value.none)=true) from Ø)]
 show wpAny _ _ (field (.ref it) 1>>=_) _ _ s;refine À (ú ho hd (x:=.int i 0) rfl ?_);show wpAny _ _ (seqItems? (.ref t)>>=_) _ _ s;refine À (ł W4 Xn ?_);simp only [Int.toNat_natCast,hx];refine À (m_ (À (Ł ho hd (by simp) ?_)));show wpAny _ _ (newExc (.type "StopIteration") []>>=_) _ _ _
 refine À ?_;simp only [newExc,newTuple];refine À (ã ?_ (by size_fits))
 refine À (Q3 (by first | rfl | (simp only [firstArgMember];rfl)) (ã ?_ (by size_fits)))
 simp only [raiseNew];refine À (OK ?_)
 first | rw [show A.in1.handled=none from hh] | rw [hh]
 exact À (Á (Q2 (hE _ _ (((ķ ..).extBut.push _).push _) ⟨_,Î _ rfl,rfl⟩)))
abbrev lP (h:Heap)(z TI TO:Addr)(f0 f1:Value):Prop:=h.get? z=some { cls:=.type "zip",dict:=none,data:=.fields #[f0,f1,.bool false,.ref TI,.ref TO],slots:=#[] }
structure Ci (z TI TO i1 i2 l1 l2:Addr):Prop where
 a1:TI≠z
 a2:TO≠z
 a3:i1≠z
 a4:i2≠z
 a5:TI≠TO
 a6:TI≠i1
 a7:TI≠i2
 a8:TO≠i1
 a9:TO≠i2
 b1:i1≠i2
 b2:l1≠z
 b3:l1≠TO
 b4:l1≠i1
 b5:l1≠i2
 b6:l2≠z
 b7:l2≠TO
 b8:l2≠i1
 b9:l2≠i2
def kI (h h':Heap)(z TO i1 i2:Addr):Prop:=∀ c o,c≠z->c≠TO->c≠i1->c≠i2->h.get? c=some o->h'.get? c=some o
end
end My
namespace My
open PySem PySem.W L2
open PyProof.Rows (Call_ boot_enumerate)
section
variable {X:Cx}{Ã:List (Addr × Obj)}{σ:St}{H:Hp}{s:Shared}{h':Heap}
theorem xM {ch:List Addr}(I:Inv X Ã σ H s)(F:∀ b∈ch,gY X Ã H b)(k:∀ b o,b ∉ ch->s.heap.get? b=some o->h'.get? b=some o):Inv X Ã σ H { s with heap:=h',toks:=t' }:=by
 have P4:∀ b u,H b=some u->b ∉ ch:=λ b u e z=>by
  have:=(F b z).1;rw [this] at e;cases e
 refine I.step (λ b hb=>?_) (λ b o _ _ hc e _=>k b o hc e) (λ b o _ _ hc e _=>⟨o.slots,k b o hc e⟩) (λ _ _ _ _ n=>n)
  (λ b o hc e=>⟨o,k b o hc e⟩) (λ _ _ e=>e) (λ _ _ _ e=>e) (λ b ps e=>⟨#[],by rw [e];simp⟩) (λ q=>q) (λ m hm=>?_) (λ b u e=>?_) I.bare
 ·obtain⟨_,a,_,b',c,d⟩:=F b hb;exact⟨b',a,c,d⟩
 ·obtain⟨o,es,ep,ho,r⟩:=hm;exact⟨o,es,ep,k _ o (λ z=>(F _ z).2.1 rfl) ho,r⟩
 ·refine(I.Č b u e).Mt (λ c v hc q=>k c v ?_ q) (λ _ q=>q) λ _ _ q=>q;rcases hc with z | z
  ·rw [z];exact P4 _ _ e
  ·exact P4 _ _ z
end
end My
namespace My
open PySem PySem.W L2
open PyProof.Rows (Call_ boot_enumerate)
theorem yt {n l t:Nat}(h1:l<n)(h2:t<n):Ci (n+4) (n+2) (n+3) n (n+1) l t:=by
 constructor <;>(show(_:Nat)≠(_:Nat)) <;> omega
end My
namespace My
open PySem PySem.W L2
open PyProof.Rows (Call_)
section
variable {X:Cx}{Ã:List (Addr × Obj)}{σ:St}{H:Hp}{s:Shared}{h':Heap}
theorem yY {ch:List Addr}(I:Inv X Ã σ H s)(F:∀ b∈ch,gY X Ã H b)(k:∀ b o,b ∉ ch->s.heap.get? b=some o->h'.get? b=some o)
  (o1:ă X.prog X.w (aj H s.heap.objs.size (.tup xs)) h' s.heap.objs.size (.tup xs)) :
  Inv X Ã σ (aj H s.heap.objs.size (.tup xs)) { s with heap:=h',toks:=t' }:=by
 have f1:H s.heap.objs.size=none:=I.Č.fresh (Æ _);have up:∀ b u,H b=some u->aj H s.heap.objs.size (.tup xs) b=some u:=λ b u e=>by
  rw [ad (λ z=>by rw [z,f1] at e;cases e)]
  exact e
 have dn:∀ b,b<s.heap.objs.size->aj H s.heap.objs.size (.tup xs) b=H b:=λ b l=>by
  rw [ad (ê l)]
 have P4:∀ b u,H b=some u->b ∉ ch:=λ b u e z=>by
  have:=(F b z).1;rw [this] at e;cases e
 refine I.step (λ b hb=>?_) (λ b o _ _ hc e _=>k b o hc e) (λ b o _ _ hc e _=>⟨o.slots,k b o hc e⟩) (λ b o _ e n=>by rw [dn b (Ñ e)];exact n)
  (λ b o hc e=>⟨o,k b o hc e⟩) (λ b _ e=>up _ _ e) (λ _ _ _ e=>up _ _ e) (λ b ps e=>⟨#[],by rw [up _ _ e];simp⟩) (λ q=>?_) (λ m hm=>?_) (λ b u e=>?_) I.bare
 ·obtain⟨_,a,_,b',c,d⟩:=F b hb;exact⟨b',a,c,d⟩
 ·rw [dn _ (N3 (by decide:sysModules<mainGlobals) (I.mod.glob.keeps I.bk).lt)]
  exact q
 ·obtain⟨o,es,ep,ho,r⟩:=hm;exact⟨o,es,ep,k _ o (λ z=>(F _ z).2.1 rfl) ho,r⟩
 ·by_cases z1:b=s.heap.objs.size
  ·subst z1;rw [be] at e;cases e;exact o1
  ·rw [ad z1] at e;refine(I.Č b u e).Mt (λ c v hc q=>k c v ?_ q) (λ c q=>up _ _ q) λ c zs q=>up _ _ q;rcases hc with z | z
   ·rw [z];exact P4 _ _ e
   ·exact P4 _ _ z
end
section
variable {X:Cx}
theorem Oc (hc:c ∈ [n+4,n+2,n+3,n,n+1]):n<=c:=by
 simp only [List.mem_cons,List.not_mem_nil,or_false] at hc;omega
end
end My
namespace My
open PySem PySem.W L2
open PyProof.Rows (Call_)
def iN (t:Bool):String:=bif t then "tuple_iterator" else "list_iterator"
def sN (t:Bool):String:=bif t then "tuple" else "list"
def Qk (t:Bool)(h:Heap)(a l:Addr)(i:Nat):Prop:=∃ o,h.get? a=some o/\o.cls=.type (iN t)/\o.data=.fields #[.ref l,.int i 0]
def NA (t:Bool)(h:Heap)(a:Addr)(xs:Array Value):Prop:=∃ o,h.get? a=some o/\o.cls=.type (sN t)/\∃ n,o.data=.seq xs n
def sU (t:Bool)(K:Frag)(H:Hp)(a:Addr)(xs:List V):Prop:=match t with
 | true=>Ė K H a xs
 | false=>Ċ K H a xs
theorem Qk.at {t:Bool}{h h':Heap}{a l:Addr}{i:Nat}(x:Qk t h a l i)(u:∀ o,h.get? a=some o->h'.get? a=some o):Qk t h' a l i:=let ⟨o,e,r⟩:=x;⟨o,u o e,r⟩
theorem Qk.xb {t:Bool}{h h':Heap}{a b l:Addr}{i:Nat}(x:Qk t h a l i)(e:Heap.ExtBut b h h')(n:a≠b):Qk t h' a l i:=x.at λ o q=>e _ _ n q
theorem NA.xb {t:Bool}{h h':Heap}{a b:Addr}{xs:Array Value}(x:NA t h a xs)(e:Heap.ExtBut b h h')(n:a≠b):NA t h' a xs:=let ⟨o,q,r⟩:=x;⟨o,e _ _ n q,r⟩
theorem NA.lt {t:Bool}{h:Heap}{a:Addr}{xs:Array Value}(x:NA t h a xs):a<h.objs.size:=let ⟨_,q,_⟩:=x;Ñ q
section
variable {t:Bool}{prog:Program}{w:World}{A:Around}{E:eE}{s:Shared}
theorem qF {it l:Addr}{i:Nat} {items}{x:Value}{Q:eE}(hit:Qk t s.heap it l i)(hl:NA t s.heap l items)(hx:items[i]?=some x)
  (hQ:∀ h',Qk t h' it l (i+1)->Heap.SameBut it s.heap h'->Q x { s with heap:=h' }):wpAny (model prog w) A (Builtin.SmallTypes.nextOf (.ref it)) Q E s:=by
 cases t
 ·exact wpAny_nextOf_list_item hit hl hx hQ
 ·exact xV hit hl hx hQ
theorem Ag {it l:Addr}{i:Nat} {items}{Q:eE}(hh:A.handled=none)(hit:Qk t s.heap it l i)(hl:NA t s.heap l items)(hx:items[i]?=none)
  (hE:∀ h' e,Heap.ExtBut it s.heap h'->(∃ o,h'.get? e=some o/\o.cls=.type "StopIteration")->E (.ref e) { s with heap:=h' }):wpAny (model prog w) A (Builtin.SmallTypes.nextOf (.ref it)) Q E s:=by
 cases t
 ·exact wpAny_nextOf_list_end hh hit hl hx hE
 ·exact DE hh hit hl hx hE
theorem zH {z TI TO:Addr}{b:Bool}{Q:Bool->Shared->Prop}(hz:lP s.heap z TI TO .none (.bool b))(h1:Q true s):wpAny (model prog w) A (Builtin.SmallTypes.ownedTupleIsFree (.ref z)) Q E s:=by
 unfold Builtin.SmallTypes.ownedTupleIsFree;exact À (ú hz rfl (x:=.none) rfl (Á h1))
structure ZB (t:Bool)(h:Heap)(z TI TO i1 i2 l1 l2:Addr)(k:Nat)(f0:Value):Prop where
 zo:lP h z TI TO f0 (.bool false)
 ti:IsPair h TI (.ref i1) (.ref i2)
 to:∃ a b,IsPair h TO a b
 j1:Qk t h i1 l1 k
 j2:Qk t h i2 l2 k
theorem wA {z TI TO i1 i2 l1 l2:Addr}{k:Nat}{xs ys:Array Value}{x y:Value}{Q:eE}(D:Ci z TI TO i1 i2 l1 l2)(hz:ZB t s.heap z TI TO i1 i2 l1 l2 k .none)(g1:NA t s.heap l1 xs)(g2:NA t s.heap l2 ys)(hx:xs[k]?=some x)(hy:ys[k]?=some y)
  (hQ:∀ h',ZB t h' z TI TO i1 i2 l1 l2 (k+1) (rawInt s.heap.objs.size)->IsPair h' s.heap.objs.size x y->h'.objs.size=s.heap.objs.size+1->kI s.heap h' z TO i1 i2->Q (.ref s.heap.objs.size) { s with heap:=h' }) :
  wpAny (model prog w) A (Builtin.«zip.__next__» ⟨[.ref z],[]⟩) (λ fin s'=>∃ v,fin=.done (.ret v)/\Q v s') E s:=by
 obtain⟨zo,ti,⟨ta,tb,to⟩,j1,j2⟩:=hz;show wpAny _ _ (field (.ref z) 2>>=_) _ _ _;refine À (ú zo rfl (x:=.bool false) rfl ?_);show wpAny _ _ (field (.ref z) 3>>=_) _ _ _;refine À (ú zo rfl (x:=.ref TI) rfl (À (ł ti rfl ?_)));show wpAny _ _ (Builtin.SmallTypes.ownedTupleIsFree (.ref z)>>=_) _ _ _;refine À (zH zo ?_);simp only [if_true];refine À (m_ (À (ú zo rfl (x:=.ref TO) rfl (À (ē zo (by simp) λ h1 Q9 s1=>?_)))))
 have Q9:lP h1 z TI TO .ellipsis (.bool false):=Q9;have VE:=j1.xb s1.extBut D.a3;have WI:=j2.xb s1.extBut D.a4;have VW:=g1.xb s1.extBut D.b2;have XB:=g2.xb s1.extBut D.b6;have Wj:IsPair h1 TO ta tb:=s1.extBut _ _ D.a2 to;refine À ?_;simp only [List.zipIdx_cons,List.zipIdx_nil,List.forIn_cons,List.forIn_nil];refine À (À (OJ ?_));show wpAny _ _ (Builtin.SmallTypes.nextOf (.ref i1)>>=_) _ _ _;refine À (qF VE VW hx λ h2 YF s2=>Á ?_);have s2:Heap.SameBut i1 h1 h2:=s2;have to2:IsPair h2 TO ta tb:=s2.extBut _ _ D.a8 Wj;refine À (ł to2 rfl (À (NZ to2 λ h3 to3 s3=>À (E_ (Á ?_)))));have s3:Heap.SameBut TO h2 h3:=s3;have to3:IsPair h3 TO x tb:=to3;have WH:=(WI.xb s2.extBut D.b1.symm).xb s3.extBut D.a9.symm;have XA:=(XB.xb s2.extBut D.b8).xb s3.extBut D.b7;refine À (À (OJ ?_));show wpAny _ _ (Builtin.SmallTypes.nextOf (.ref i2)>>=_) _ _ _;refine À (qF WH XA hy λ h4 j2c s4=>Á ?_);have s4:Heap.SameBut i2 h3 h4:=s4;have X6:IsPair h4 TO x tb:=s4.extBut _ _ D.a9 to3;refine À (ł X6 rfl (À (NZ X6 λ h5 Vo s5=>À (E_ (Á (Á ?_))))));have s5:Heap.SameBut TO h4 h5:=s5;have Vo:IsPair h5 TO x y:=Vo;have sz:h5.objs.size=s.heap.objs.size:=by rw [s5.1,s4.1,s3.1,s2.1,s1.1]
 have up:kI s.heap h5 z TO i1 i2:=λ c o c1 c2 c3 c4 e=>s5.extBut _ _ c2 (s4.extBut _ _ c4 (s3.extBut _ _ c2 (s2.extBut _ _ c3 (s1.extBut _ _ c1 e))));have XV:lP h5 z TI TO .ellipsis (.bool false):=s5.extBut _ _ D.a2.symm (s4.extBut _ _ D.a4.symm (s3.extBut _ _ D.a2.symm (s2.extBut _ _ D.a3.symm Q9)));have j1c:=((YF.xb s3.extBut D.a8.symm).xb s4.extBut D.b1).xb s5.extBut D.a8.symm;have j2d:=j2c.xb s5.extBut D.a9.symm;refine À (ł Vo rfl (À (wpAny_newTuple ?_)));show wpAny _ _ (Builtin.SmallTypes.ownedTupleHandOut (.ref z) (.ref h5.objs.size)>>=_) _ _ _;have zo6:lP (h5.push { cls:=.type "tuple",data:=.seq #[x,y] }) z TI TO .ellipsis (.bool false):=Â _ XV;refine À ?_;unfold Builtin.SmallTypes.ownedTupleHandOut;refine À (ē zo6 (by simp) λ h7 V9 s7=>?_)
 have V9:lP h7 z TI TO (rawInt h5.objs.size) (.bool false):=V9;refine ē V9 (by simp) λ h8 V8 s8=>wpAny_pure ⟨_,rfl,?_⟩
 have V8:lP h8 z TI TO (rawInt h5.objs.size) (.bool false):=V8;have Ti:∀ c o,c≠z->h5.get? c=some o->h8.get? c=some o:=λ c o c1 e=>s8.extBut _ _ c1 (s7.extBut _ _ c1 (Â _ e));show Q (.ref h5.objs.size) _;have nz:s.heap.objs.size≠z:=by rw [<- sz];exact Ω (Ñ XV)
 rw [sz];refine hQ _ ⟨by rw [<- sz];exact V8,Ti _ _ D.a1 (up _ _ D.a1 D.a5 D.a6 D.a7 ti),⟨x,y,Ti _ _ D.a2 Vo⟩,j1c.at λ o e=>Ti _ o D.a3 e,j2d.at λ o e=>Ti _ o D.a4 e⟩ ?_ (by rw [s8.1,s7.1,Ĕ,sz]) λ c o c1 c2 c3 c4 e=>Ti c o c1 (up c o c1 c2 c3 c4 e)
 exact s8.extBut _ _ nz (s7.extBut _ _ nz (by rw [<- sz];exact Î _ rfl))
theorem yc {z TI TO i1 i2 l1 l2:Addr}{k:Nat}{xs ys:Array Value}{Q:Fin->Shared->Prop}(hh:A.handled=none)(D:Ci z TI TO i1 i2 l1 l2)(hz:ZB t s.heap z TI TO i1 i2 l1 l2 k .none)(g1:NA t s.heap l1 xs)(g2:NA t s.heap l2 ys)(hn:xs[k]?=none\/ys[k]?=none)
  (hE:∀ h' e,kI s.heap h' z TO i1 i2->(∃ o,h'.get? e=some o/\o.cls=.type "StopIteration")->E (.ref e) { s with heap:=h' }) :
  wpAny (model prog w) A (Builtin.«zip.__next__» ⟨[.ref z],[]⟩) Q E s:=by
 obtain⟨zo,ti,⟨ta,tb,to⟩,j1,j2⟩:=hz;show wpAny _ _ (field (.ref z) 2>>=_) _ _ _;refine À (ú zo rfl (x:=.bool false) rfl ?_);show wpAny _ _ (field (.ref z) 3>>=_) _ _ _;refine À (ú zo rfl (x:=.ref TI) rfl (À (ł ti rfl ?_)));show wpAny _ _ (Builtin.SmallTypes.ownedTupleIsFree (.ref z)>>=_) _ _ _;refine À (zH zo ?_);simp only [if_true];refine À (m_ (À (ú zo rfl (x:=.ref TO) rfl (À (ē zo (by simp) λ h1 Q9 s1=>?_)))))
 have Q9:lP h1 z TI TO .ellipsis (.bool false):=Q9;have VE:=j1.xb s1.extBut D.a3;have WI:=j2.xb s1.extBut D.a4;have VW:=g1.xb s1.extBut D.b2;have XB:=g2.xb s1.extBut D.b6;have Wj:IsPair h1 TO ta tb:=s1.extBut _ _ D.a2 to;have leave:∀(h2:Heap)(e:Addr),lP h2 z TI TO .ellipsis (.bool false)->kI s.heap h2 z TO i1 i2->(∃ o,h2.get? e=some o/\o.cls=.type "StopIteration")->wpAny (model prog w) A (setField (.ref z) 0 .none) (λ _ s'=>E (.ref e) s') E { s with heap:=h2 }:=λ h2 e z2 u2 he=>by
  obtain⟨oe,W7,Y6⟩:=he;have hez:e≠z:=λ q=>by subst q;rw [z2] at W7;cases W7;simp at Y6
  exact ē z2 (by simp) λ h3 _ s3=>hE h3 e (λ c o c1 c2 c3 c4 q=>s3.extBut _ _ c1 (u2 c o c1 c2 c3 c4 q)) ⟨oe,s3.extBut _ _ hez W7,Y6⟩
 refine À ?_;simp only [List.zipIdx_cons,List.zipIdx_nil,List.forIn_cons,List.forIn_nil];refine À (À (OJ ?_));show wpAny _ _ (Builtin.SmallTypes.nextOf (.ref i1)>>=_) _ _ _;cases hx:xs[k]? with
 | none =>
  refine À (Ag hh VE VW hx λ h2 e s2 he=>?_);have s2:Heap.ExtBut i1 h1 h2:=s2;exact leave h2 e (s2 _ _ D.a3.symm Q9) (λ c o c1 c2 c3 c4 q=>s2 _ _ c3 (s1.extBut _ _ c1 q)) he
 | some x =>
  have hy:ys[k]?=none:=hn.resolve_left (by rw [hx];simp)
  refine À (qF VE VW hx λ h2 YF s2=>Á ?_);have s2:Heap.SameBut i1 h1 h2:=s2;have to2:IsPair h2 TO ta tb:=s2.extBut _ _ D.a8 Wj;refine À (ł to2 rfl (À (NZ to2 λ h3 to3 s3=>À (E_ (Á ?_)))));have s3:Heap.SameBut TO h2 h3:=s3;have WH:=(WI.xb s2.extBut D.b1.symm).xb s3.extBut D.a9.symm;have XA:=(XB.xb s2.extBut D.b8).xb s3.extBut D.b7;refine À (À (OJ ?_));show wpAny _ _ (Builtin.SmallTypes.nextOf (.ref i2)>>=_) _ _ _;refine À (Ag hh WH XA hy λ h4 e s4 he=>?_);have s4:Heap.ExtBut i2 h3 h4:=s4;exact leave h4 e (s4 _ _ D.a4.symm (s3.extBut _ _ D.a2.symm (s2.extBut _ _ D.a3.symm Q9))) (λ c o c1 c2 c3 c4 q=>s4 _ _ c4 (s3.extBut _ _ c2 (s2.extBut _ _ c3 (s1.extBut _ _ c1 q)))) he
end
theorem ZB.keep {t:Bool}{h h':Heap}{f0:Value}{z TI TO i1 i2 l1 l2:Addr}{k:Nat}(a:ZB t h z TI TO i1 i2 l1 l2 k f0)(u:∀ b ∈ [z,TI,TO,i1,i2],∀ o,h.get? b=some o->h'.get? b=some o):ZB t h' z TI TO i1 i2 l1 l2 k f0:=by
 obtain⟨zo,ti,⟨ta,tb,to⟩,j1,j2⟩:=a;exact⟨u z (by simp) _ zo,u TI (by simp) _ ti,⟨ta,tb,u TO (by simp) _ to⟩,j1.at λ o e=>u i1 (by simp) o e,j2.at λ o e=>u i2 (by simp) o e⟩
section
variable {t:Bool}{prog:Program}{w:World}{A:Around}{E:eE}{s:Shared}
def tR (t:Bool)(h:Heap)(l1:Addr):Heap:=h.push { cls:=.type (iN t),data:=.fields #[.ref l1,.int 0 0] }
def pJ (t:Bool)(h:Heap)(l1 l2:Addr):Heap:=(tR t h l1).push { cls:=.type (iN t),data:=.fields #[.ref l2,.int 0 0] }
def pO (t:Bool)(h:Heap)(l1 l2:Addr):Heap:=(pJ t h l1 l2).push { cls:=.type "tuple",data:=.seq #[.ref h.objs.size,.ref (tR t h l1).objs.size] }
def qy (t:Bool)(h:Heap)(l1 l2:Addr):Heap:=(pO t h l1 l2).push { cls:=.type "tuple",data:=.seq #[.none,.none] }
def lR (t:Bool)(h:Heap)(l1 l2:Addr):Heap:=(qy t h l1 l2).push { cls:=.type "zip",data:=.fields #[.none,.bool false,.bool false,.ref (pJ t h l1 l2).objs.size,.ref (pO t h l1 l2).objs.size] }
theorem vG (t:Bool)(l1 l2:Addr)(xs ys:Array Value):Meets (Builtin.«zip.__new__» ⟨[.type "zip",.ref l1,.ref l2],[]⟩) (λ _ R s=>NA t s.heap l1 xs/\NA t s.heap l2 ys/\R (.ok (.ret (.ref (qy t s.heap l1 l2).objs.size))) { s with heap:=lR t s.heap l1 l2 }) :=
 .of_wp λ prog w A R s h=>by
  obtain⟨hp,g,d,tk,os⟩:=s;obtain⟨Qt,⟨o2,YT,r2⟩,h⟩:=h;have WU:=sub_zip;cases t
  ·have k1:Heap.IsList (Shared.heap ⟨hp,g,d,tk,os⟩) l1 xs:=Qt;have k2:Heap.IsList (Shared.heap ⟨hp.push { cls:=.type "list_iterator",data:=.fields #[.ref l1,.int 0 0] },g,d,tk,os⟩) l2 ys:=⟨o2,Â _ YT,r2⟩
   wp_walk using D_ k1,D_ k2
   exact⟨_,rfl,h⟩
  ·have k1:Heap.IsTuple (Shared.heap ⟨hp,g,d,tk,os⟩) l1 xs:=Qt;have k2:Heap.IsTuple (Shared.heap ⟨hp.push { cls:=.type "tuple_iterator",data:=.fields #[.ref l1,.int 0 0] },g,d,tk,os⟩) l2 ys:=⟨o2,Â _ YT,r2⟩
   wp_walk using O6 k1,O6 k2
   exact⟨_,rfl,h⟩
theorem w9 {l1 l2:Addr}{xs ys:Array Value}{Q:eE}(Qt:NA t s.heap l1 xs)(NP:NA t s.heap l2 ys)
  (h:∀ h',IsZip h' (s.heap.objs.size+4) (s.heap.objs.size+2) (s.heap.objs.size+3) .none->ZB t h' (s.heap.objs.size+4) (s.heap.objs.size+2) (s.heap.objs.size+3) s.heap.objs.size (s.heap.objs.size+1) l1 l2 0 .none->h'.objs.size=s.heap.objs.size+5 ->
   (∀ c o,s.heap.get? c=some o->h'.get? c=some o)->Q (.ref (s.heap.objs.size+4)) { s with heap:=h' }):wpAny (model prog w) A (call (.type "zip") [.ref l1,.ref l2]) Q E s:=by
 refine callType_new F.called_zip ax (F.typeCall_zip_2 _ _) (F.newCall_zip_2 _ _) (λ obj=>F.args_object_init_3 obj _ _) F.entry_zip_new (vG t l1 l2 xs ys) ⟨Qt,NP,?_⟩;have z1:(tR t s.heap l1).objs.size=s.heap.objs.size+1:=Ĕ ..;have z2:(pJ t s.heap l1 l2).objs.size=s.heap.objs.size+2:=by unfold pJ;rw [Ĕ,z1]
 have z3:(pO t s.heap l1 l2).objs.size=s.heap.objs.size+3:=by unfold pO;rw [Ĕ,z2]
 have z4:(qy t s.heap l1 l2).objs.size=s.heap.objs.size+4:=by unfold qy;rw [Ĕ,z3]
 have z5:(lR t s.heap l1 l2).objs.size=s.heap.objs.size+5:=by unfold lR;rw [Ĕ,z4]
 have u5:∀ c o,(qy t s.heap l1 l2).get? c=some o->(lR t s.heap l1 l2).get? c=some o:=λ c o q=>Â _ q;have u4:∀ c o,(pO t s.heap l1 l2).get? c=some o->(lR t s.heap l1 l2).get? c=some o:=λ c o q=>u5 c o (Â _ q);have u3:∀ c o,(pJ t s.heap l1 l2).get? c=some o->(lR t s.heap l1 l2).get? c=some o:=λ c o q=>u4 c o (Â _ q);have u2:∀ c o,(tR t s.heap l1).get? c=some o->(lR t s.heap l1 l2).get? c=some o:=λ c o q=>u3 c o (Â _ q);have u1:∀ c o,s.heap.get? c=some o->(lR t s.heap l1 l2).get? c=some o:=λ c o q=>u2 c o (Â _ q);have g5:(lR t s.heap l1 l2).get? (qy t s.heap l1 l2).objs.size=some _:=Î _ rfl;have g4:=u5 _ _ (show(qy t s.heap l1 l2).get? (pO t s.heap l1 l2).objs.size=some _ from Î _ rfl);have g3:=u4 _ _ (show(pO t s.heap l1 l2).get? (pJ t s.heap l1 l2).objs.size=some _ from Î _ rfl);have g2:=u3 _ _ (show(pJ t s.heap l1 l2).get? (tR t s.heap l1).objs.size=some _ from Î _ rfl);have g1:=u2 _ _ (show(tR t s.heap l1).get? s.heap.objs.size=some _ from Î _ rfl);show _/\_;rw [z2,z3,z4] at g5;rw [z1,z2] at g3;rw [z3] at g4;rw [z1] at g2;rw [z4];exact⟨⟨_,g5,rfl⟩,h _ g5 ⟨g5,g3,⟨_,_,g4⟩,⟨_,g1,rfl,rfl⟩,⟨_,g2,rfl,rfl⟩⟩ z5 u1⟩
theorem Au {z TI TO i1 i2 l1 l2:Addr}{k:Nat}{xs ys:Array Value}{x y:Value}{Q:Option Value->Shared->Prop}(D:Ci z TI TO i1 i2 l1 l2)(hz:ZB t s.heap z TI TO i1 i2 l1 l2 k .none)(g1:NA t s.heap l1 xs)(g2:NA t s.heap l2 ys)(hx:xs[k]?=some x)(hy:ys[k]?=some y)
  (hQ:∀ h',ZB t h' z TI TO i1 i2 l1 l2 (k+1) (rawInt s.heap.objs.size)->IsPair h' s.heap.objs.size x y->h'.objs.size=s.heap.objs.size+1->kI s.heap h' z TO i1 i2->Q (some (.ref s.heap.objs.size)) { s with heap:=h' }) :
  wpAny (model prog w) A (pyNext (.ref z)) Q E s:=by
 unfold pyNext;exact À (ļ (ð (name:=Str.ofString "__next__") ⟨_,hz.zo,rfl⟩ a_ (î a_ ⟨_,hz.zo,rfl⟩ F.entry_zip_next (wA D hz g1 g2 hx hy λ h' a b c d=>Á (hQ h' a b c d)) (F.args_zip_next_1 _))))
theorem sF {z TI TO i1 i2 l1 l2:Addr}{k:Nat}{xs ys:Array Value}{Q:Option Value->Shared->Prop}(hh:A.handled=none)(D:Ci z TI TO i1 i2 l1 l2)(hz:ZB t s.heap z TI TO i1 i2 l1 l2 k .none)(g1:NA t s.heap l1 xs)(g2:NA t s.heap l2 ys)(hn:xs[k]?=none\/ys[k]?=none)
  (hQ:∀ h',kI s.heap h' z TO i1 i2->Q none { s with heap:=h' }):wpAny (model prog w) A (pyNext (.ref z)) Q E s:=by
 unfold pyNext;refine À (ļ (ð (name:=Str.ofString "__next__") ⟨_,hz.zo,rfl⟩ a_ (î a_ ⟨_,hz.zo,rfl⟩ F.entry_zip_next (yc hh D hz g1 g2 hn λ h' x kz Oq=>?_) (F.args_zip_next_1 _))));obtain⟨o,ho,hc⟩:=Oq;exact À (ŧ (T:="StopIteration") (b:=true) ⟨o,ho,hc⟩ N1 (Á (hQ _ kz)))
end
theorem tX {t:Bool}{X:Cx}{Ã:List (Addr × Obj)}{σ:St}{H:Hp}{s:Shared}{a:Addr}{xs:List V}(I:Inv X Ã σ H s)(h:sU t X.K H a xs):∃ its,Vals xs its/\NA t s.heap a its.toArray:=by
 cases t
 ·obtain⟨its,rv,p,_⟩:=I.list h;exact⟨its,rv,p.isList⟩
 ·obtain⟨its,rv,⟨o,q,c,n,d⟩,_⟩:=I.tuple h;exact⟨its,rv,o,q,c,n,d⟩
theorem oA {t:Bool}{X:Cx}{Ã:List (Addr × Obj)}{σ:St}{H:Hp}{s:Shared}{a:Addr}{xs ys:List V}(I:Inv X Ã σ H s)(h:sU t X.K H a xs)(k:sU t X.K H a ys):xs=ys:=by
 cases t
 ·exact I.MN h k
 ·exact I.Nw h k
def Ge (t:Bool)(K:Frag)(a b:Addr):It :=
 ⟨λ i H=>∃ xs ys x y,sU t K H a xs/\sU t K H b ys/\xs[i]?=some x/\ys[i]?=some y,
   λ i H v H'=>∃ q x y,v=.ref q/\H q=none/\H'=aj H q (.tup [x,y])/\∀ xs ys,sU t K H a xs->sU t K H b ys->xs[i]?=some x/\ys[i]?=some y,
   λ i H=>∃ xs ys,sU t K H a xs/\sU t K H b ys/\(xs.length<=i\/ys.length<=i)⟩
theorem wx (t:Bool){P:Program}{w:World}{K:Frag}{elts:List Expr} {x1}{pos:Pos}(a b z TI TO i1 i2:Addr)(D:Ci z TI TO i1 i2 a b) :
  my P w K (.Tuple elts x1 pos) (Ge t K a b) [z,TI,TO,i1,i2] z (λ i h=>ZB t h z TI TO i1 i2 a b i .none) where
 mem:=by simp
 obj:=λ i h st c hc=>by
  obtain⟨zo,ti,⟨ta,tb,to⟩,⟨oa,ha,ca,da⟩,⟨ob,hb,cb,db⟩⟩:=st;simp only [List.mem_cons,List.not_mem_nil,or_false] at hc;rcases hc with rfl | rfl | rfl | rfl | rfl
  ·exact⟨_,zo,λ v q=>by cases q⟩
  ·exact⟨_,ti,λ v q=>by cases q⟩
  ·exact⟨_,to,λ v q=>by cases q⟩
  ·exact⟨oa,ha,λ v q=>by rw [da] at q;cases q⟩
  ·exact⟨ob,hb,λ v q=>by rw [db] at q;cases q⟩
 keep:=λ i h h' st k=>st.keep λ c hc o q=>k c hc o q
 item:=by
  intro X hP hw hK hc i Ã s σ H E I hf st hg;subst hP hw hK;obtain⟨xs,ys,x,y,hq,QJ,hx,hy⟩:=hg;obtain⟨its,rv,p⟩:=tX I hq;obtain⟨Pt,Rh,p2⟩:=tX I QJ;obtain⟨u,hu,ru⟩:=rv.get hx;obtain⟨v,hv,rv'⟩:=Rh.get hy;have zl:z<s.heap.objs.size:=Ñ st.zo;refine Au D st p p2 (x:=u) (y:=v) (by simpa using hu) (by simpa using hv) λ h1 RV pr sz1 kk=>?_
  refine⟨_,rfl,wpAny_letOwnedTupleGo_zip (s:={ s with heap:=h1 }) RV.zo λ h2 zo2 sb=>?_⟩
  have Pa:Heap.SameBut z h1 h2:=sb;have Wb:ZB t h2 z TI TO i1 i2 a b (i+1) .none:=⟨zo2,Pa.extBut _ _ D.a1 RV.ti,(by obtain⟨u,v,h⟩:=RV.to;exact⟨u,v,Pa.extBut _ _ D.a2 h⟩),RV.j1.xb Pa.extBut D.a3,RV.j2.xb Pa.extBut D.a4⟩
  have na:s.heap.objs.size≠z:=Ω zl;have pr2:IsPair h2 s.heap.objs.size u v:=(Pa.2 _ na).trans pr;have f1:H s.heap.objs.size=none:=I.Č.fresh (Æ _);refine⟨.ref s.heap.objs.size,aj H s.heap.objs.size (.tup [x,y]),?_,rfl,⟨_,x,y,rfl,f1,rfl,λ SW M5 g1 g2=>⟨by rw [oA I g1 hq];exact hx,by rw [oA I g2 QJ];exact hy⟩⟩,Wb,λ c hc=>?_⟩
  ·refine yY (t':=s.toks) (ch:=[z,TI,TO,i1,i2]) I hf (λ c o hc q=>?_) ?_
   ·simp only [List.mem_cons,List.not_mem_nil,or_false,not_or] at hc;exact(Pa.2 c hc.1).trans (kk c o hc.1 hc.2.2.1 hc.2.2.2.1 hc.2.2.2.2 q)
   ·exact⟨cK,[u,v],.cons ru (.cons rv' .nil),⟨_,pr2,rfl,_,rfl⟩⟩
  ·have q:=hf c hc;have Vs:c<s.heap.objs.size:=by
    obtain⟨zo,ti,⟨ta,tb,to⟩,⟨oa,ha,_,_⟩,⟨ob,hb,_,_⟩⟩:=st;simp only [List.mem_cons,List.not_mem_nil,or_false] at hc;rcases hc with rfl | rfl | rfl | rfl | rfl
    ·exact Ñ zo
    ·exact Ñ ti
    ·exact Ñ to
    ·exact Ñ ha
    ·exact Ñ hb
   rw [ad (ê Vs)];exact q.1
 done:=by
  intro X hP hw hK hc i Ã s σ H E I hf st hg;subst hP hw hK;obtain⟨xs,ys,hq,QJ,hn⟩:=hg;obtain⟨its,rv,p⟩:=tX I hq;obtain⟨Pt,Rh,p2⟩:=tX I QJ;have l1:=rv.length;have l2:=Rh.length;refine sF (I.ok.hd hc) D st p p2 ?_ λ h1 kk=>⟨rfl,xM (t':=s.toks) (ch:=[z,TI,TO,i1,i2]) I hf λ c o OD q=>?_⟩
  ·rcases hn with h | h
   ·exact .inl (by simp;omega)
   ·exact .inr (by simp;omega)
  ·simp only [List.mem_cons,List.not_mem_nil,or_false,not_or] at OD;exact kk c o OD.1 OD.2.2.1 OD.2.2.2.1 OD.2.2.2.2 q
 self:=λ _ s Q _ _ st h=>by
  refine C_ ⟨_,st.zo,rfl⟩ F.slot_zip_iter (î F.slot_zip_iter ⟨_,st.zo,rfl⟩ F.entry_zip_iter ?_ (F.args_zip_iter_1 _));exact Á ⟨_,rfl,"zip",_,⟨_,st.zo,rfl⟩,a_.lookup,h⟩
section
variable {X:Cx}
def Ko (u:Bool)(K:Frag)(ta:TA):TI:=λ σ H R=>ta σ H λ vs H1=>∃ l t,vs=[.ref l,.ref t]/\(∃ xs,sU u K H1 l xs)/\(∃ ys,sU u K H1 t ys)/\R (Ge u K l t) H1
theorem vF (u:Bool){elts:List Expr} {x1}{pt:Pos}{a b:Expr}{ta:TA}{p2 Sf:Pos}(Xe:Gl X "zip") (QM:X.mg "zip" = none) (ha:PA X [a,b] ta)
  (he:starEach (a :: [b]) X.env=(false,eval a X.env)::starEach [b] X.env:=by rfl) (I_:(backTo Sf (starEach [b] X.env)).any (·.1)=false:=by rfl) :
  PI X (.Tuple elts x1 pt) (.Call (.Name "zip" p2) [a,b] [] Sf) (Ko u X.K ta):=by
 intro Ã s σ H R I h;refine Call_ (iZ I Xe QM PyProof.Rows.boot_zip (Ŕ (bt (ha Sf Ã s σ H _ I h) λ us s1 ⟨vs,H1,I1,r1,q1⟩=>?_) he I_));obtain⟨l,t,rfl,⟨xs,hq⟩,⟨ys,QJ⟩,q⟩:=q1;cases r1 with
 | cons r rr =>
  cases r;cases rr with
  | cons r' rr' =>
   cases r';cases rr';obtain⟨its,rv,pl⟩:=tX I1 hq;obtain⟨Pt,Rh,ht⟩:=tX I1 QJ;refine w9 pl ht λ h2 iz za sz2 k2=>?_;refine wpAny_pyIter_zip (s:={ s1 with heap:=h2 }) iz ?_
   have D:Ci (s1.heap.objs.size+4) (s1.heap.objs.size+2) (s1.heap.objs.size+3) s1.heap.objs.size (s1.heap.objs.size+1) l t:=yt pl.lt ht.lt;exact⟨s1.heap.objs.size+4,[s1.heap.objs.size+4,s1.heap.objs.size+2,s1.heap.objs.size+3,s1.heap.objs.size,s1.heap.objs.size+1],_,_,H1,rfl,I1.kept (t':=s1.toks) (λ c o e=>k2 _ _ e),wx u l t _ _ _ _ _ D,za,λ c hc=>I1.Om (Oc hc) (I1.Č.fresh (Oc hc)),q⟩
end
theorem zd {t:Bool}{K:Frag}{a b:Addr}{xs ys:List V}{g:TG}{tb:TS}{D:dq}{σ:St}{H:Hp}(Pv:Nat->St->Hp->Prop)(h0:Pv 0 σ H)(hl:∀ i σ H,i<=min xs.length ys.length->Pv i σ H->sU t K H a xs/\sU t K H b ys)
  (hs:∀ i x y σ H q,xs[i]?=some x->ys[i]?=some y->Pv i σ H->H q=none->g (.ref q) σ (aj H q (.tup [x,y])) λ Ĩ H2=>tb { D with nx:=Pv (i+1),ct:=Pv (i+1),bk:=D.nx } Ĩ H2) (hd:∀ σ H,Pv (min xs.length ys.length) σ H->D.nx σ H) :
  ∃ W:Nat->Nat->St->Hp->Prop,(∃ m,W 0 m σ H)/\∀ i m σ H,W i m σ H ->
   ((Ge t K a b).stop i H/\D.nx σ H)\/((Ge t K a b).go i H/\∃ N:St->Hp->Prop,(∀ ĸ H',N ĸ H'->∃ m',m'<m/\W (i+1) m' ĸ H')/\∀ x H',(Ge t K a b).ο i H x H'->g x σ H' λ Ĩ H2=>tb { D with nx:=N,ct:=N,bk:=D.nx } Ĩ H2):=by
 refine⟨λ i m σ H=>m=min xs.length ys.length-i/\i<=min xs.length ys.length/\Pv i σ H,⟨min xs.length ys.length,af,Đ _,h0⟩,?_⟩;rintro i m σ H ⟨rfl,hi,pv⟩;obtain⟨q1,q2⟩:=hl i σ H hi pv;by_cases ř:i<min xs.length ys.length
 ·have l1:i<xs.length:=af;have l2:i<ys.length:=af;refine .inr ⟨⟨xs,ys,xs[i],ys[i],q1,q2,Å l1,Å l2⟩,Pv (i+1),λ ĸ H' n=>⟨min xs.length ys.length-(i+1),af,rfl,ř,n⟩,λ v H' yl=>?_⟩;obtain⟨q,x,y,rfl,hq,rfl,at'⟩:=yl;obtain⟨e1,e2⟩:=at' xs ys q1 q2;exact hs i x y σ H q e1 e2 pv hq
 ·have e:i=min xs.length ys.length:=af;subst e;exact .inl ⟨⟨xs,ys,q1,q2,af⟩,hd σ H pv⟩
end My
namespace My
open PySem PySem.W L2
section
variable {X:Cx}
def Hi (K:Frag):List V->Hp->VK->Prop:=λ vs H Q=>∃(x:V)(p:Addr)(n m:String)(t:Value)(b:Bool),vs=[x,.ref p]/\ŭ K H x t/\H p=some (.tup [.ty n,.ty m])/\kitAny K t [.type n,.type m]=some b/\Q (.bl b) H
theorem oP:cU X (.builtin "isinstance") (Hi X.K):=by
 intro Ã s σ H xs us Q I r h;obtain⟨x,p,n1,n2,t,b,rfl,ty,hp,e,q⟩:=h;obtain⟨u,u',rfl,ru,P0⟩:=ip r;cases (show u'=.ref p from P0);obtain⟨_,its,rv,⟨o,h1,h2,n,h3⟩⟩:=(show ă X.prog X.w H s.heap p (.tup [.ty n1,.ty n2]) from I.Č p _ hp);obtain⟨v1,v2,rfl,rv1,Rh⟩:=ip rv;cases (show v1=Value.type n1 from rv1);cases (show v2=Value.type n2 from Rh);obtain⟨c0,d0,dt0,sl0⟩:=o;have Xr:=h2;have UW:=h3;subst Xr;subst UW;exact jF I ru ty h1 e λ tk=>⟨.bl b,H,I.tok _,rfl,q⟩
end
section
variable {P:Program}{w:World}{K:Frag}{mg:cr}{base:Heap}{f a1:Addr}{fd d1:FuncData}
abbrev Er:Stmt:=cP 53
abbrev Lp:List Str:=["_law_found","_law_due"]
theorem G3:ai Lp ["_law_found","_law_due"] (aa Er):=bc
def rT:Sp:=λ vs H Q _=>∃ i:Int,vs=[.int i,.int i]/\∀ H',Ext H H'->Q (.bl true) H'
def xH:Sp:=λ vs H Q _=>∃(a b:Addr)(ns:List Int),vs=[.ref a,.ref b]/\H a=some (.tup (ns.map V.int))/\H b=some (.tup (ns.map V.int))/\ns.length<=10/\∀ H',Ext H H'->Q (.bl true) H'
def dI (K:Frag)(i:Nat)(n:String):TE:=iH (HB K) (ao (ae i) (ao (tC (.ty n)) aF))
def zC (K:Frag):TT:=tB (iH (Hi K) (ao (ae 1) (ao (cz (ao (tC (.ty "list")) (ao (tC (.ty "tuple")) aF))) aF)))
def ET (K:Frag):TS:=bq (zL (tB (bV Cu (dI K 1 "list") (dI K 0 "list"))) (tB (bV Cu (dI K 1 "tuple") (dI K 0 "tuple")))) (aY (tC (.bl false))) aQ
def KU (K:Frag):TE:=jX (Ko true K (ao (ae 0) (ao (ae 1) aF))) 2 [] (dL K 2 (aL (aN 0) (aL (aN 1) dP))) (cC rT [] E0 (ao (ae 0) (ao (ae 1) aF)))
def EE (K:Frag):TS:=aY (qL (bV sw (sA K 0) (sA K 1)) (iH (FS K) (ao (KU K) aF)))
def zp (K:Frag):TS:=bq (zL (tB (bV Cu (dI K 0 "bool") (dI K 1 "bool"))) (tB (bV Cu (dI K 0 "int") (dI K 1 "int")))) (aY (tC (.bl false))) aQ
def yB (K:Frag):TS:=aY (qL (bV sw (dI K 0 "str") (dI K 1 "str")) (bV sw (ae 0) (ae 1)))
structure jW (mg:cr):Prop where
 mi:mg "isinstance" = none
 ml:mg "list" = none
 mt:mg "tuple" = none
 mn:mg "int" = none
 mb:mg "bool" = none
 ms:mg "str" = none
 me:mg "len" = none
 ma:mg "all" = none
 mz:mg "zip" = none
section
variable {cdv:Value}{A:Around}{outer:List Env}{s:Shared}{H:Hp}{E:XK}
theorem HY (N:pA K)(B:jW mg):Bx (ſ (bR aB P w K mg base Lp "_law_same" (aa Er) f cdv A outer s H E).Φ ((aI Er).drop 1) (aA (zp K) (yB K))):=by
 exact dZ ⟨aJ (PW.pt (fY (aq iG (am (aX N) rfl B.mi Ê (ac (pv 0) (ac (ce rfl B.mb Ō) ar))) (am (aX N) rfl B.mi Ê (ac (pv 1) (ac (ce rfl B.mb Ō) ar))) (au _)) (eQ (aq iG (am (aX N) rfl B.mi Ê (ac (pv 0) (ac (ce rfl B.mn Ĺ) ar))) (am (aX N) rfl B.mi Ê (ac (pv 1) (ac (ce rfl B.mn Ĺ) ar))) (au _))))) (aW (cn pX)) cT⟩
  (bS ⟨cn (fG (cQ bE (am (aX N) rfl B.mi Ê (ac (pv 0) (ac (ce rfl B.ms PyProof.Rows.boot_str) ar))) (am (aX N) rfl B.mi Ê (ac (pv 1) (ac (ce rfl B.ms PyProof.Rows.boot_str) ar))) (au _)) (gU (cQ bE (pv 0) (pv 1) (au _))))⟩)
end
theorem fW {σ:St}{H:Hp}{Q:VK}{i:Nat}{n:String}{x:Int}{b:Bool}(si:σ[i]?=some (some (.int x)))(e:kitOne K (.type "int") (.type n)=some b) (q:Q (.bl b) H):dI K i n σ H Q:=⟨_,si,_,_,_,_,rfl,.inl (.int _),e,q⟩
theorem uQ (F:ĵ K "_law_same" "_law_same" Er f fd) (N:pA K) (B:jW mg):í P w K mg base aB 1 f fd ["_law_found","_law_due"] rT:=by
 refine bX F G3 λ cdv A outer s H vs Q E hr h=>?_;obtain⟨x,rfl,q⟩:=h;obtain⟨ε⟩:=HY (P:=P) (w:=w) (base:=base) N B (f:=f) (cdv:=cdv) (A:=A) (outer:=outer) (s:=s) (H:=H) (E:=E);refine⟨aA (bq (zC K) (λ _ _ _=>False) aQ) (aA (zp K) (yB K)),bb (aJ (bz (am oP rfl B.mi Ê (ac (pv 1) (ac (aP (ac (ce rfl B.ml õ) (ac (ce rfl B.mt Þ) ar))) ar)))) (bb bH (aW bH)) cT) ε,?_⟩;refine⟨_,rfl,cK,λ p hp=>?_⟩;have x1:=Ext.new (o:=.tup [.ty "list",.ty "tuple"]) hp;refine⟨_,p,_,_,_,false,rfl,.int _,be,rfl,_,rfl,dj ?_⟩;generalize aj H p (.tup [.ty "list",.ty "tuple"])=H1 at x1 ⊢;show aA (zp K) (yB K) ⟨λ _ H'=>Q .Ă H',Q,λ _ _=>False,λ _ _=>False⟩ [some (.int x),some (.int x)] H1;refine fW rfl rfl (fW rfl rfl ⟨rfl,_,rfl,dj (fW rfl rfl (fW rfl rfl ⟨rfl,_,rfl,dj ?_⟩))⟩);refine fW rfl rfl (fW rfl rfl ⟨rfl,_,rfl,fV ⟨_,rfl,_,rfl,rfl,?_⟩⟩);rw [Ç rfl];exact q _ x1
abbrev Hh:Scope:=gr [("_law_one",.local),("_law_other",.local),("_law_same",.globalImplicit)]
theorem AL {X:Cx}:cV X Hh [] ["_law_one","_law_other"] [] []:=eF (L:=[(".0",.local),("_law_one",.local),("_law_other",.local),("_law_same",.globalImplicit)]) rfl rfl aC aC aC rfl aC aC
theorem Ho:((["_law_one","_law_other"]:List Str)++([]:List Str)).Nodup:=aC
theorem iY {σ:St}{H:Hp}{Q:VK}{i:Nat}{n:String}{a:Addr}{xs:List V}{b:Bool}(si:σ[i]?=some (some (.ref a)))(ha:H a=some (.tup xs))(e:kitOne K (.type "tuple") (.type n)=some b) (q:Q (.bl b) H):dI K i n σ H Q:=⟨_,si,_,_,_,_,rfl,.inr (.inl ⟨a,xs,rfl,Ė.of ha,rfl⟩),e,q⟩
theorem yR (F:ĵ K "_law_same" "_law_same" Er f fd) (N:pA K) (B:jW mg) (A1:Df P w K mg base aB 1 "_law_same" ["_law_found","_law_due"] rT a1 d1):í P w K mg base aB 2 f fd ["_law_found","_law_due"] xH:=by
 refine bX F G3 λ cdv A outer s H vs Q E hr h=>?_;obtain⟨a,b,ns,rfl,ha,hb,l10,q⟩:=h;obtain⟨ε⟩:=HY (P:=P) (w:=w) (base:=base) N B (f:=f) (cdv:=cdv) (A:=A) (outer:=outer) (s:=s) (H:=H) (E:=E);refine⟨aA (bq (zC K) (aA (ET K) (EE K)) aQ) (aA (zp K) (yB K)),bb (aJ (bz (am oP rfl B.mi Ê (ac (pv 1) (ac (aP (ac (ce rfl B.ml õ) (ac (ce rfl B.mt Þ) ar))) ar))))
  (bb (aJ (PW.pt (fY (aq iG (am (aX N) rfl B.mi Ê (ac (pv 1) (ac (ce rfl B.ml õ) ar))) (am (aX N) rfl B.mi Ê (ac (pv 0) (ac (ce rfl B.ml õ) ar))) (au _)) (eQ (aq iG (am (aX N) rfl B.mi Ê (ac (pv 1) (ac (ce rfl B.mt Þ) ar))) (am (aX N) rfl B.mi Ê (ac (pv 0) (ac (ce rfl B.mt Þ) ar))) (au _))))) (aW (cn pX)) cT)
  (aW (cn (fG (cQ bE (am aO rfl B.me ö (ac (pv 0) ar)) (am aO rfl B.me ö (ac (pv 1) ar)) (au _)) (gU (am (jT rfl) rfl B.ma K' (ac (dS (te:=cC rT [] E0 (ao (ae 0) (ao (ae 1) aF))) (g:=dL K 2 (aL (aN 0) (aL (aN 1) dP))) rfl AL (vF true rfl B.mz (ac (pv 0) (ac (pv 1) ar))) (λ s H C fp=>by exact bN rfl (dB (cu (i:=0) Ho rfl (.inl rfl)) (dB (cu (i:=1) Ho rfl (.inl rfl)) br))) (λ s H C fp=>by exact bZ A1 hr ag (ac (pv 0) (ac (pv 1) ar)))) ar))))))) cT) ε,?_⟩
 refine⟨_,rfl,cK,λ p hp=>?_⟩;have x1:=Ext.new (o:=.tup [.ty "list",.ty "tuple"]) hp;have g1:aj H p (.tup [.ty "list",.ty "tuple"]) p=some (.tup [.ty "list",.ty "tuple"]):=be;have Pw:=x1 _ _ hb;have Qv:=x1 _ _ ha;refine⟨_,p,_,_,_,true,rfl,.tup Pw,g1,rfl,_,rfl,fV ?_⟩;generalize aj H p (.tup [.ty "list",.ty "tuple"])=H1 at x1 Qv Pw ⊢;show aA (ET K) (EE K) _ [some (.ref a),some (.ref b)] H1;refine iY rfl Pw rfl (iY rfl Qv rfl ⟨rfl,_,rfl,dj (iY rfl Pw rfl (iY rfl Qv rfl ⟨rfl,_,rfl,dj ?_⟩))⟩);refine⟨_,rfl,a,_,rfl,.inr (Ė.of Qv),_,rfl,b,_,rfl,.inr (Ė.of Pw),rfl,_,rfl,?_⟩;rw [Ç rfl];refine fV ⟨_,rfl,_,rfl,a,b,rfl,⟨_,Ė.of Qv⟩,⟨_,Ė.of Pw⟩,λ D hD=>?_⟩;have ln:(ns.map V.int).length=ns.length:=Ä _;refine AF (n:=ns.length) (λ i ys H'=>Ext H1 H'/\ys=(List.replicate i true).map V.bl) (by rw [Ü];omega) ⟨Ext.new hD,rfl⟩ (λ i ys H' hi pv=>?_) (λ ys H' pv=>⟨_,_,Ė.of (pv.1 _ _ Qv),Ė.of (pv.1 _ _ Pw),.inl (by rw [ln];exact Æ _)⟩) ?_ ?_
 ·have e:(ns.map V.int)[i]?=some (.int ns[i]):=by rw [Ô,Å hi];rfl
  exact⟨_,_,_,_,Ė.of (pv.1 _ _ Qv),Ė.of (pv.1 _ _ Pw),e,e⟩
 ·rintro i y ys H' H3 hi yl ly k_ ⟨x',rfl⟩ os Ş R kk;obtain⟨q0,x,y,rfl,UF,rfl,at'⟩:=yl;obtain⟨e1,e2⟩:=at' _ _ (Ė.of (x' _ _ Qv)) (Ė.of (x' _ _ Pw));rw [Ô,Å hi] at e1 e2;cases e1;cases e2
  match os,Ş with
  | [p0,p1],_ =>
   have x3:=Ext.new (o:=.tup [.int ns[i],.int ns[i]]) UF;refine⟨q0,_,rfl,Ė.of be,rfl,_,_,rfl,_,_,rfl,rfl,⟨[_,_],rfl,rfl⟩,_,rfl,_,rfl,ns[i],rfl,λ H4 x4=>kk _ _ (x4 _ _ (x3 _ _ k_)) ⟨aV _ (x'.trans (x3.trans x4)) hD,?_⟩⟩;rw [List.replicate_succ',Ð];rfl
 ·rintro ys H' ly k_ ⟨x',rfl⟩;refine⟨D,List.replicate ns.length true,rfl,Ċ.of k_,?_⟩;rw [show(List.replicate ns.length true).all id=true by simp]
  exact q H' (x1.trans x')
end
def tZ:Nat->PyData->Bool
 | 0,d=>iU d
 | n+1,.tuple ds=>decide (ds.length<=10)&&ds.all (tZ n)
 | _+1,d=>iU d
theorem Gv {tp:Bool}{d:PyData}(h:hG tp d=true):tZ 1 d=true:=by
 cases d with
 | tuple ds =>
  match ds,h with
  | [.int i,d],h =>
   have h':(tp&&iU d)=true:=h;rw [ĉ] at h';show(decide (2<=10)&&(true&&(iU d&&true)))=true;rw [h'.2];rfl
  | [],h | [_],h | (_::_::_::_),h=>simp [hG,iU] at h
  | [.none,_],h | [.bool _,_],h | [.str _,_],h | [.list _,_],h | [.tuple _,_],h | [.dict _,_],h=>simp [hG,iU] at h
 | int i=>rfl
 | none=>rfl
 | _=>simp [hG,iU] at h
theorem B3 {d:PyData}{s:Int}(h:tZ 1 d=true):tZ 2 (.tuple [d,.int s])=true:=by
 show(decide (2<=10)&&(tZ 1 d&&(true&&true)))=true;rw [h];rfl
theorem Bj {d:PyData}(h:iU d=true):aG d=true:=by
 cases d with
 | int i=>rfl
 | none=>rfl
 | _=>cases h
theorem zM:∀{n:Nat}{d:PyData},tZ n d=true->aG d=true
 | 0,d,h=>Bj h
 | n+1,d,h=>by
  cases d with
  | tuple ds =>
   have h':(decide (ds.length<=10)&&ds.all (tZ n))=true:=h;rw [ĉ] at h';simp only [aG];exact eB λ d hd=>zM (p_.mp h'.2 d hd)
  | int i=>rfl
  | none=>rfl
  | _=>cases h
section
variable {P:Program}{w:World}{K:Frag}{mg:cr}{base:Heap}{f a1:Addr}{fd d1:FuncData}
abbrev FA:Stmt:=cP 68
theorem ER:ai ["_law_thing"] ["_law_thing"] (aa FA):=bc
def l9 (n:Nat):Sp:=λ vs H Q _=>∃ v d,vs=[v]/\Ą H v d/\tZ n d=true/\∀ v' H',Ext H H'->Ą H' v' d->Q v' H'
def J9 (K:Frag):TS:=aY (Gc (tB (dI K 0 "bool")) (tC (.str "truth")) (ae 0))
def CP (K:Frag)(t:TS):TS:=aA (bq (tB (dI K 0 "tuple")) t aQ) (J9 K)
theorem pK {H:Hp}{Q:VK}{v:V}{d:PyData}{t:TS}(rd:Ą H v d)(s:iU d=true)(q:∀ v' H',Ext H H'->Ą H' v' d->Q v' H'):CP K t ⟨λ _ H'=>Q .Ă H',Q,λ _ _=>False,λ _ _=>False⟩ [some v] H:=by
 cases d with
 | int i =>
  cases rd;exact fW rfl rfl ⟨_,rfl,dj (fW rfl rfl ⟨_,rfl,dj ⟨_,rfl,q _ H (Ext.refl _) (.int _)⟩⟩)⟩
 | none =>
  cases rd;exact⟨_,rfl,_,_,_,_,rfl,.inl .Ă,rfl,_,rfl,dj ⟨_,rfl,_,_,_,_,rfl,.inl .Ă,rfl,_,rfl,dj ⟨_,rfl,q _ H (Ext.refl _) .Ă⟩⟩⟩
 | _=>cases s
abbrev F6:Scope:=gr [("_law_part",.local),("_law_kinds",.globalImplicit)]
theorem A7 {X:Cx}:cV X F6 [] ["_law_part"] [] []:=eF (L:=[(".0",.local),("_law_part",.local),("_law_kinds",.globalImplicit)]) rfl rfl aC aC aC rfl aC aC
theorem KQ:((["_law_part"]:List Str)++([]:List Str)).Nodup:=aC
theorem Co (F:ĵ K "_law_kinds" "_law_kinds" FA f fd) (N:pA K) (B:jW mg):í P w K mg base aB 1 f fd ["_law_thing"] (l9 0):=by
 refine bX F ER λ cdv A outer s H vs Q E hr h=>?_;obtain⟨v,d,rfl,rd,k,q⟩:=h;refine⟨CP K (λ _ _ _=>False),bb (aJ (bz (am (aX N) rfl B.mi Ê (ac (pv 0) (ac (ce rfl B.mt Þ) ar)))) (aW bH) cT) (aW (cn (ig (bz (am (aX N) rfl B.mi Ê (ac (pv 0) (ac (ce rfl B.mb Ō) ar)))) fD (pv 0)))),?_⟩;exact pK rd k q
theorem Eh {n:Nat}{ds:List PyData}{i:Nat}{d:PyData}(h:ds.all (tZ n)=true)(e:ds[i]?=some d):tZ n d=true:=p_.mp h d (Ì e)
theorem Dw {n:Nat}(F:ĵ K "_law_kinds" "_law_kinds" FA f fd) (N:pA K) (B:jW mg) (A1:Df P w K mg base aB (n+1) "_law_kinds" ["_law_thing"] (l9 n) a1 d1):í P w K mg base aB (n+2) f fd ["_law_thing"] (l9 (n+1)):=by
 refine bX F ER λ cdv A outer s H vs Q E hr h=>?_;obtain⟨v,d,rfl,rd,k,q⟩:=h;refine⟨CP K (aY (iH (FY K) (ao (jX (tu K (ae 0)) 1 [] (aN 0) (cC (l9 n) [] E0 (ao (ae 0) aF))) aF))),bb (aJ (bz (am (aX N) rfl B.mi Ê (ac (pv 0) (ac (ce rfl B.mt Þ) ar)))) (aW (cn (aU bU rfl B.mt Þ (ac (dS (te:=cC (l9 n) [] E0 (ao (ae 0) aF)) (g:=aN 0) rfl A7 (gR (pv 0)) (λ s H C fp=>by exact cu (i:=0) KQ rfl (.inl rfl)) (λ s H C fp=>by exact bZ A1 hr ag (ac (pv 0) ar))) ar)))) cT) (aW (cn (ig (bz (am (aX N) rfl B.mi Ê (ac (pv 0) (ac (ce rfl B.mb Ō) ar)))) fD (pv 0)))),?_⟩
 cases d with
 | tuple ds =>
  obtain⟨a,xs,rfl,ha,rs⟩:=ck rd;have k':(decide (ds.length<=10)&&ds.all (tZ n))=true:=k;rw [ĉ,ÿ] at k';obtain⟨l10,ka⟩:=k';have ln:=rs.length;refine iY rfl ha rfl ⟨_,rfl,fV ?_⟩;refine⟨_,rfl,a,rfl,⟨_,Ė.of ha⟩,λ D hD=>?_⟩;refine iF (a:=a) (xs:=xs) (λ i zs H'=>Ext H H'/\Ý H' zs (ds.take i)) (by rw [Ü];omega) ⟨Ext.new hD,.nil⟩ (λ i zs H' pv=>Ė.of (pv.1 _ _ ha)) ?_ ?_
  ·rintro i x zs H' ex lz ś ⟨x',al⟩ os Ş R kk;obtain⟨o0,rfl⟩:∃ o0,os=[o0]:=by
    match os,Ş with
    | [o0],_=>exact⟨o0,rfl⟩
   obtain⟨dx,ed,rx⟩:=rs.get ex;refine⟨⟨[some x],rfl,rfl⟩,_,rfl,x,dx,rfl,rx.mono x',Eh ka ed,λ y H4 x4 ry=>?_⟩;have nl:ī (ds.take (i+1))=true:=eB λ d hd=>zM (p_.mp ka d (ģ hd));refine kk y H4 (x4 _ _ ś) ⟨aV _ (x'.trans x4) hD,?_⟩;rw [aM ed] at nl ⊢;exact Ý.Ē (zD _ (x4 _ _ ś)) nl (Ý.append (al.mono x4) (.cons ry .nil))
  ·rintro zs H' lz ś ⟨x',al⟩;rw [ln,á] at al;refine⟨D,zs,rfl,.inl ⟨Ċ.of ś,λ l hl=>?_⟩⟩;have x5:=Ext.new (o:=.tup zs) hl;exact q _ _ (x'.trans x5) (.tup be (al.mono x5))
 | int i =>
  exact pK rd k q
 | none =>
  exact pK rd k q
 | _=>cases k
theorem zO {fd:FuncData}(F:ĵ K "_law_kinds" "_law_kinds" FA f fd) (N:pA K) (B:jW mg) (b:Binds K fd ["_law_thing"] []) (kp:keepIn K (.ref f)=true) (m:mg "_law_kinds" = some (.ref f)):∀ n,í P w K mg base aB (n+1) f fd ["_law_thing"] (l9 n)
 | 0=>Co F N B
 | n+1=>Dw F N B ⟨zO F N B b kp m n,b,kp,m⟩
end
theorem mZ {α:Type} [DecidableEq α]:∀{a b:List α},a.Nodup->(∀ x∈a,x∈b)->a.length<=b.length
 | [],b,_,_=>Đ _
 | x::a,b,nd,h=>by
  rw [Ğ] at nd;have hx:=h x (Ö ..);have ih:=mZ (b:=b.erase x) nd.2 λ y hy=>by
   have ne:y≠x:=λ e=>nd.1 (by rw [<- e];exact hy)
   exact(List.mem_erase_of_ne ne).mpr (h y (Ï _ hy))
  have le:=List.length_erase_of_mem hx;have p:0<b.length:=List.length_pos_of_mem hx;rw [ì];omega
theorem Bk.len {G G':Hp}{t:Rl}{sc:List Int}{k:Nat}{qs N':List (TK × V)}(a:Bk G t sc k qs)(b:Bk G' t sc k N'):qs.length=N'.length:=by
 have h1:=mZ a.nd λ x hx=>(b.ks x).mpr ((a.ks x).mp hx);have h2:=mZ b.nd λ x hx=>(a.ks x).mpr ((b.ks x).mp hx);rw [Ä,Ä] at h1 h2;omega
section
variable {P:Program}{w:World}{K:Frag}{mg:cr}{base:Heap}{f a1 a2:Addr}{fd d1 d2:FuncData}
abbrev Ej:Stmt:=cP 69
abbrev Lr:List Str:=["_law_found","_law_due","_law_layer","_law_wanted","_law_key","_law_share"]
theorem TF:ai Lr ["_law_found","_law_due"] (aa Ej):=bc
def SN (H:Hp)(t:Rl)(sc:List Int)(ds:List Addr):Prop:=∀(k:Nat) d,ds[k]?=some d->∃ qs,Rd H d (bT qs)/\Bk H t sc k qs
def Mj (H:Hp)(t:Rl)(sc:List Int)(fs:List Addr):Prop:=∀(k:Nat) f,fs[k]?=some f->∃ qs,H f=some (bT qs)/\Bk H t sc k qs
def K6 (fs:List Addr)(H H':Hp):Prop:=∀ b o,H b=some o->b ∉ fs->H' b=some o
def xw:Sp:=λ vs H Q _=>∃(F D:Addr)(fs ds:List Addr)(t:Rl)(sc:List Int),vs=[.ref F,.ref D]/\H F=some (.lst (fs.map V.ref))/\H D=some (.lst (ds.map V.ref))/\fs.length=ds.length/\fs.length<=100/\fs.Nodup/\(∀ d∈ds,d ∉ fs)/\t.ok/\fs.length<=t.Û + 1/\Mj H t sc fs/\SN H t sc ds /\
 ∀ H',K6 fs H H'->(∀ f∈fs,∀ u,H f=some u->Rd H' f u)->Q (.bl true) H'
def oQ:TS:=aY (tC (.bl false))
def IC (K:Frag):TS:=bq (zL (j9 (tB (dI K 0 "list"))) (tB (bV Cu (sA K 0) (sA K 1)))) oQ aQ
def FW (i:Nat):TE:=iH uM (ao (ae i) aF)
def Fw (K:Frag):TS:=bq (zL (j9 (tB (dI K 2 "dict"))) (tB (bV Cu (FW 2) (FW 3)))) oQ aQ
def G6 (K:Frag):TS:=bq (zL (j9 (tB (dI K 4 "tuple"))) (tB (rJ (cC (l9 2) [] E0 (ao (ae 4) aF)) (ae 3)))) oQ aQ
def B0:TS:=bq (j9 (tB (cC xH [] E0 (ao (ae 5) (ao (oG (ae 3) (ae 4)) aF))))) oQ aQ
def BO (K:Frag):TS:=fj (xB (ae 2)) (dL K 2 (aL (aN 4) (aL (aN 5) dP))) (aA (G6 K) B0)
def GQ (K:Frag):TS:=fj (Ko false K (ao (ae 0) (ao (ae 1) aF))) (dL K 2 (aL (aN 2) (aL (aN 3) dP))) (aA (Fw K) (BO K))
def LS (K:Frag):TS:=aA (IC K) (aA (GQ K) (aY (tC (.bl true))))
section
variable {cdv:Value}{A:Around}{outer:List Env}{s:Shared}{H:Hp}{E:XK}
theorem AG (N:pA K)(B:jW mg)(md:mg "dict" = none) (A1:Df P w K mg base aB 3 "_law_kinds" ["_law_thing"] (l9 2) a1 d1) (A2:Df P w K mg base aB 2 "_law_same" ["_law_found","_law_due"] xH a2 d2) (hr:nh 3 "_law_right" Ej A s f cdv):Bx (ſ (bR aB P w K mg base Lr "_law_right" (aa Ej) f cdv A outer s H E).Φ (aI Ej) (LS K)):=by
 have nd:=TF.nd;have hu:=jr hr;have H_:ć 2 _:=hr.mono ax;exact dZ ⟨aJ (PW.pt (fY (cw (bz (am (aX N) rfl B.mi Ê (ac (pv 0) (ac (ce rfl B.ml õ) ar))))) (eQ (aq iG (am aO rfl B.me ö (ac (pv 0) ar)) (am aO rfl B.me ö (ac (pv 1) ar)) (au _))))) (aW (cn pX)) cT⟩
  (dZ ⟨cj Ā rfl (vF false rfl B.mz (ac (pv 0) (ac (pv 1) ar))) (bN rfl (dB (cu (i:=2) nd rfl (Or.inl rfl)) (dB (cu (i:=3) nd rfl (Or.inl rfl)) br)))
   (bb (aJ (PW.pt (fY (cw (bz (am (aX N) rfl B.mi Ê (ac (pv 2) (ac (ce rfl md PyProof.Rows.boot_dict) ar))))) (eQ (aq iG (am iR rfl B.me ö (ac (pv 2) ar)) (am iR rfl B.me ö (ac (pv 3) ar)) (au _))))) (aW (cn pX)) cT)
   (aW (cj Ā rfl (jq (pv 2)) (bN rfl (dB (cu (i:=4) nd rfl (Or.inl rfl)) (dB (cu (i:=5) nd rfl (Or.inl rfl)) br)))
    (bb (aJ (PW.pt (fY (cw (bz (am (aX N) rfl B.mi Ê (ac (pv 4) (ac (ce rfl B.mt Þ) ar))))) (eQ (jN (kP hu (bZ A1 hr ag (ac (pv 4) ar)) (pv 3)))))) (aW (cn pX)) cT)
    (aW (aJ (cw (bz (bZ A2 H_ ag (ac (pv 5) (ac (iE hu (pv 3) (pv 4)) ar))))) (aW (cn pX)) cT)))))) ⟩
  (bS (cX ⟨pX⟩)))
end
end
section
variable {P:Program}{w:World}{K:Frag}{mg:cr}{base:Heap}{f a1 a2:Addr}{fd d1 d2:FuncData}
theorem Cr {De:dq}{H:Hp}{F D f d:Addr}{t:Rl}{sc:List Int}{k:Nat}{qs N':List (TK × V)}{o4 o5:Option V}(ok:t.ok)(hk:(k:Int)<=t.Û)(hf:H f=some (bT qs))(tb:Bk H t sc k qs)(hd:Rd H d (bT N'))(SX:Bk H t sc k N')(ne:d≠f)
  (q:∀ H' o4 o5,Kept H H' f->Rd H' f (bT qs)->De.nx [some (.ref F),some (.ref D),some (.ref f),some (.ref d),o4,o5] H') :
  BO K De [some (.ref F),some (.ref D),some (.ref f),some (.ref d),o4,o5] H:=by
 refine⟨_,rfl,f,bT qs,rfl,True.intro,.inl hf,λ ob H2 fz=>?_⟩;refine rF (λ i σ H'=>H' f=some (.Ŭ ob (bT qs))/\Kept H H' f/\∃ o4 o5:Option V,σ=[some (.ref F),some (.ref D),some (.ref f),some (.ref d),o4,o5]) ⟨fz.1,λ b o hb n=>by rw [fz.2 b n];exact hb,o4,o5,rfl⟩ (λ i σ H' pv=>pv.1) ?_ (λ σ H' pv=>?_)
 ·rintro i σ H' p' kx vv hi ⟨S7,kp,o4,o5,rfl⟩ O2 pr;obtain⟨p,b,sv,hpq,rfl,hb,nv,rfl⟩:=qV pr;have hm:=Ì hpq;have YW:p.1∈qs.map (·.1):=ĩ hm;obtain⟨z,ez,hz⟩:=tb.sh p hm;have Pc:∀{z:Addr}{xs:List V},H z=some (.tup xs)->z≠f:=λ h e=>by rw [e,hf] at h;cases h
  have hz':=kp _ _ hz (Pc hz);have Qd:Rd H' d (bT N'):=by
   rcases hd with r | ⟨o,r⟩
   ·exact .inl (kp _ _ r ne)
   ·exact .inr ⟨o,kp _ _ r ne⟩
  obtain⟨r,hr,er⟩:=(tb.ks p.1).mp YW;have sr:=(dw ok hk r hr).st;have en:fw r.st=p.1.1:=ą Prod.fst er;have kd:tZ 2 (.tuple [eC p.1.1,.int p.1.2])=true:=B3 (by rw [<- en,lE sr];exact Gv sr)
  obtain⟨v',ev,S5⟩:∃ v',bP N' p.1=some v'/\(p.1,v')∈N':=by
   have m':=(SX.ks p.1).mpr ((tb.ks p.1).mp YW);obtain⟨y,hy,ey⟩:=æ.mp m';refine⟨y.2,?_,?_⟩
   ·rw [<- ey];exact ow SX.nd hy
   ·rw [<- ey];exact hy
  obtain⟨z2,ez2,UC⟩:=SX.sh _ S5;have WM:=kp _ _ UC (Pc UC);have XG:v'=.ref z2:=ez2;have x5:=Ext.new (o:=.tup [.ref b,p.2]) O2;have g5:aj H' p' (.tup [.ref b,p.2]) p'=some (.tup [.ref b,p.2]):=be;have hp0:H p'=none:=by
   cases e:H p' with
   | none=>rfl
   | some o =>
    by_cases y:p'=f
    ·rw [y,S7] at O2;cases O2
    ·rw [kp _ _ e y] at O2;cases O2
  generalize aj H' p' (.tup [.ref b,p.2])=H5 at x5 g5 ⊢;have Y9:=x5 _ _ hb;refine⟨p',_,rfl,Ė.of g5,rfl,_,_,rfl,_,_,rfl,rfl,?_⟩;rw [ez];show aA (G6 K) B0 _ [some (.ref F),some (.ref D),some (.ref f),some (.ref d),some (.ref b),some (.ref z)] H5;refine iY rfl Y9 rfl ⟨_,rfl,dj ?_⟩;refine⟨_,rfl,.ref b,.tuple [eC p.1.1,.int p.1.2],rfl,.tup Y9 (.cons (zX (eJ nv x5)) (.cons (.int _) .nil)),kd,λ w6 H6 x6 rd6=>?_⟩;obtain⟨b2,xs,rfl,VR,rs⟩:=ck rd6;cases rs with
  | cons r1 rs =>
   cases rs with
   | cons r2 rs =>
    cases rs;cases r2;have ND:=x5.trans x6;have Y3:Rd H6 d (bT N'):=jK Qd ND;have dg:=im (q:=p.1) Y3 VR (rL r1);rw [ev] at dg;refine⟨_,rfl,d,_,rfl,dg,_,rfl,dj ?_⟩;have ZS:=im (q:=p.1) Y3 (ND _ _ hb) (eJ nv ND);rw [ev,XG] at ZS;show B0 _ [some (.ref F),some (.ref D),some (.ref f),some (.ref d),some (.ref b),some (.ref z)] H6;refine⟨_,rfl,_,rfl,_,rfl,d,.ref z2,rfl,ZS,z,z2,[(bo (SS t sc k p.1) (DD t k):Nat),(aE (SS t sc k p.1) (DD t k):Nat)],rfl,ND _ _ hz',ND _ _ WM,(show 2<=10 by decide),λ H7 x7=>⟨_,rfl,dj ?_⟩⟩
    have XY:=ND.trans x7;exact⟨XY _ _ S7,λ c o hc n=>XY _ _ (kp _ _ hc n),_,_,rfl⟩
 ·obtain⟨S7,kp,o4,o5,rfl⟩:=pv;exact q H' o4 o5 kp (.inr ⟨ob,S7⟩)
theorem G4 (F:ĵ K "_law_right" "_law_right" Ej f fd) (N:pA K) (B:jW mg) (md:mg "dict" = none) (A1:Df P w K mg base aB 3 "_law_kinds" ["_law_thing"] (l9 2) a1 d1) (A2:Df P w K mg base aB 2 "_law_same" ["_law_found","_law_due"] xH a2 d2):í P w K mg base aB 4 f fd ["_law_found","_law_due"] xw:=by
 refine bX F TF λ cdv A outer s H vs Q E hr h=>?_;obtain⟨F0,D,fs,ds,t,sc,rfl,hF,hD,ll,aa1,nd,dn,ok,fk,tf,tr,q⟩:=h;obtain⟨ε⟩:=AG N B md A1 A2 hr (f:=f) (cdv:=cdv) (A:=A) (outer:=outer) (s:=s) (H:=H) (E:=E);refine⟨_,ε,?_⟩;refine⟨_,rfl,_,_,_,_,rfl,.inl (.lst hF),rfl,_,rfl,dj ?_⟩;refine⟨_,rfl,F0,_,rfl,.inl (Ċ.of hF),_,rfl,D,_,rfl,.inl (Ċ.of hD),rfl,?_⟩;rw [Ä,Ä,ll,Ç rfl];refine⟨_,rfl,dj ?_⟩;show aA (GQ K) (aY (tC (.bl true))) ⟨λ _ H'=>Q .Ă H',Q,λ _ _=>False,λ _ _=>False⟩ [some (.ref F0),some (.ref D),none,none,none,none] H;have YH:∀ f∈fs,∃ qs,H f=some (bT qs):=λ f hf=>by
  obtain⟨k,ek⟩:=ĥ hf;obtain⟨qs,h,_⟩:=tf k f ek;exact⟨qs,h⟩
 have Sh:∀{b:Addr}{o:HO},H b=some o->pY o=false->b ∉ fs:=λ {b o} h e m=>by
  obtain⟨qs,h2⟩:=YH b m;rw [h] at h2;cases h2;cases e
 have lf:(fs.map V.ref).length=fs.length:=Ä _;have ld:(ds.map V.ref).length=ds.length:=Ä _;refine⟨_,rfl,_,rfl,F0,D,rfl,⟨_,Ċ.of hF⟩,⟨_,Ċ.of hD⟩,?_⟩;refine zd (t:=false) (xs:=fs.map V.ref) (ys:=ds.map V.ref) (λ i σ H'=>K6 fs H H'/\(∀ k f,i<=k->fs[k]?=some f->H' f=H f)/\(∀ f∈fs,∀ u,H f=some u->Rd H' f u)/\∃ o2 o3 o4 o5:Option V,σ=[some (.ref F0),some (.ref D),o2,o3,o4,o5]) ⟨λ b o h _=>h,λ k f _ _=>rfl,λ f hf u h=>.inl h,none,none,none,none,rfl⟩ ?_ ?_ ?_
 ·rintro i σ H' _ ⟨kf,_⟩;exact⟨Ċ.of (kf _ _ hF (Sh hF rfl)),Ċ.of (kf _ _ hD (Sh hD rfl))⟩
 ·rintro i x y σ H' q0 ex ey ⟨kf,Yx,Sd,o2,o3,o4,o5,rfl⟩ UF;rw [Ô] at ex ey;obtain⟨f,ef,rfl⟩:=å.mp ex;obtain⟨d,ed,rfl⟩:=å.mp ey;have Y2:=Ì ef;have Xm:=Ì ed;have hi:i<fs.length:=(È.mp ef).1;have hk:(i:Int)<=t.Û:=af;obtain⟨qs,hf,tb⟩:=tf i f ef;obtain⟨N',hd,SX⟩:=tr i d ed;have S7:H' f=some (bT qs):=by rw [Yx i f (Æ _) ef];exact hf
  have tupK:∀ z xs,H z=some (.tup xs)->H' z=some (.tup xs):=λ z xs h=>kf _ _ h (Sh h rfl);have Qd:Rd H' d (bT N'):=by
   rcases hd with r | ⟨o,r⟩
   ·exact .inl (kf _ _ r (dn d Xm))
   ·exact .inr ⟨o,kf _ _ r (dn d Xm)⟩
  obtain⟨H5,x5,g5,eU⟩:=gB UF (.tup [.ref f,.ref d]);rw [eU];have Xj:=x5 _ _ S7;have Y4:Rd H5 d (bT N'):=jK Qd x5;have tb5:=tb.ext λ z xs h=>x5 _ _ (tupK z xs h);have Wk:=SX.ext λ z xs h=>x5 _ _ (tupK z xs h);have ndf:d≠f:=λ e=>dn d Xm (by rw [e];exact Y2)
  refine⟨q0,_,rfl,Ė.of g5,rfl,_,_,rfl,_,_,rfl,rfl,?_⟩;show aA (Fw K) (BO K) _ [some (.ref F0),some (.ref D),some (.ref f),some (.ref d),o4,o5] H5;refine⟨_,rfl,_,_,_,_,rfl,.inl (.dT Xj),rfl,_,rfl,dj ?_⟩;refine⟨_,rfl,f,_,rfl,(jw qs).1,.inl Xj,_,rfl,d,_,rfl,(jw N').1,Y4,rfl,?_⟩;rw [(jw qs).2.2,(jw N').2.2,tb.len SX,Ç rfl];refine⟨_,rfl,dj ?_⟩;refine Cr ok hk Xj tb5 Y4 Wk ndf λ H6 o4 o5 k6 r6=>?_;refine⟨λ b o h n=>k6 _ _ (x5 _ _ (kf _ _ h n)) (λ e=>n (by rw [e];exact Y2)),λ k g hkg eg=>?_,λ g hg u hu=>?_,_,_,o4,o5,rfl⟩
  ·have ne:g≠f:=λ e=>by
    subst e;have:=((List.getElem?_inj (by have:=(È.mp eg).1;omega) nd).mp (by rw [eg,ef]):k=i)
    omega
   obtain⟨qg,hgq⟩:=YH g (Ì eg);have e1:=Yx k g af eg;rw [hgq] at e1 ⊢;exact k6 _ _ (x5 _ _ e1) ne
  ·by_cases e:g=f
   ·subst e;rw [hf] at hu;cases hu;exact r6
   ·have rg:=Sd g hg u hu;rcases rg with r | ⟨o,r⟩
    ·exact .inl (k6 _ _ (x5 _ _ r) e)
    ·exact .inr ⟨o,k6 _ _ (x5 _ _ r) e⟩
 ·rintro σ H' ⟨kf,_,Sd,o2,o3,o4,o5,rfl⟩;exact q H' kf Sd
end
theorem JZ (I:Inv X Ã σ H s)(D:kA u)(e:H d=some (.Ŭ o u))(nf:∀ o' u',X.OH d≠some (.Ŭ o' u')):Inv X Ã σ (aj H d u) s:=by
 have nn:∀{b:Addr},H b=none->aj H d u b=none:=λ {b} h=>by rw [ad (λ z=>by rw [z,e] at h;cases h)];exact h
 have nt:∀{b:Addr}{xs:List V},H b=some (.tup xs)->aj H d u b=some (.tup xs):=λ {b xs} h=>by rw [ad (λ z=>by rw [z,e] at h;cases h)];exact h
 have no:∀{b a:Addr},H b=some (.own a)->aj H d u b=some (.own a):=λ {b a} h=>by rw [ad (λ z=>by rw [z,e] at h;cases h)];exact h
 refine⟨I.ok,I.os,I.bare,⟨I.base.keep,I.base.slot,λ b ob q n hx=>nn (I.base.free b ob q n hx),I.base.there,λ b xs q=>nt (I.base.Nf b xs q),λ b ob v q=>?_,λ b ps q=>?_,λ q=>nn (I.base.sys q)⟩,I.loc,I.cell,nn I.free,λ x c q=>nn (I.ψ x c q),λ p hp=>?_,λ b v q=>?_,I.len⟩
 ·rw [ad (λ z=>nf ob v (by rw [<- z];exact q))]
  exact I.base.MU b ob v q
 ·obtain⟨more,h⟩:=I.base.Ng b ps q;exact⟨more,by rw [ad (λ z=>by rw [z,e] at h;cases h)];exact h⟩
 ·obtain⟨h1,h2,h3⟩:=I.pin p hp;exact⟨h1,nn h2,h3⟩
 ·by_cases z:b=d
  ·subst z;rw [be] at q;cases q;have ok:=(show ă X.prog X.w H s.heap b (.Ŭ o u) from I.Č b _ e).2;exact ok.Mt (λ _ _ _ q=>q) (λ c q=>no q) λ c xs q=>nt q
  ·rw [ad z] at q;exact(I.Č b v q).Mt (λ _ _ _ q=>q) (λ c q=>no q) λ c xs q=>nt q
section
variable {X:Cx}
def mO:V->List V->Hp->VK->Prop:=λ x vs H Q=>∃ d ï,x=.ref d/\vs=[]/\H d=some (.dT ï)/\Q .Ă (aj H d (.dT []))
theorem tJ:Jh X "dict.clear" mO:=by
 intro Ã s σ H x vs v us Q I rx rv h;obtain⟨d,ï,rfl,rfl,e,q⟩:=h;cases rx;cases rv;have ok:=I.Č d _ e;obtain⟨ob,es,ep,g1,g2,g3,g4,g5,g6⟩:=gV (u:=.dT ï) True.intro ok;have sz:es.size<=sizeLine:=by rw [g5];exact uK (u:=.dT ï) True.intro ok
 have hT:s.TypeIs (.ref d) "dict" :=⟨ob,g1,g2.1⟩;have m:MeetsIn X.prog X.w (Builtin.«dict.clear» ⟨[.ref d],[]⟩) (λ _ R s'=>s'=s/\∀ h':Heap,(∃ o',h'.get? d=some o'/\o'.ExactDict/\o'.data=.dict #[] (ep+1))->Heap.SameBut d s.heap h'->R (.ok (.ret .none)) { s with heap:=h' }):=.of_wp λ A R s' ⟨e,h⟩=>by
  subst e;refine À ?_;refine À (Υ hT ?_);refine Á (À (ď g1 g3 (À ?_)));refine À (wpAny_load g1 (Á ?_));refine À (wpAny_updateDictKeys g1 g3 ?_);have QL:=h (s'.heap.update d (Obj.mapDictKeys λ _=>#[])) ⟨_,ù _ g1 (Obj.isFreed_of_dict (Obj.data_mapDictKeys g3 _)),g2.mapDictKeys _,Obj.data_mapDictKeys g3 _⟩ (ķ ..);split
  ·exact À (E_ (Á ⟨.none,rfl,QL⟩))
  ·exact À (Á (Á ⟨.none,rfl,QL⟩))
 refine i_ Q5 hT PySem.F.entry_dict_clear (PySem.F.args_dict_clear_1 _) m ⟨rfl,λ h' ⟨o',k1,k2,k3⟩ sb=>⟨.Ă,_,?_,rfl,q⟩⟩;exact gI I (by rw [e];exact True.intro) sb ⟨o',k1⟩ ⟨Đ _,g4,[],.nil,o',#[],ep+1,k1,k2,k3,rfl,PD⟩
def vK (H0:Hp)(t:TS):TS:=λ D σ H=>t D σ H\/∃ d o u,H d=some (.Ŭ o u)/\kA u/\H0 d=none/\t D σ (aj H d u)
theorem qN (h:PS X b t):PS X b (vK X.OH t):=by
 intro Ã s σ H D I q;rcases q with q | ⟨d,o,u,e,dc,n,q⟩
 ·exact h Ã s σ H D I q
 ·exact h Ã s σ _ D (JZ I dc e (λ o' u' z=>by rw [n] at z;cases z)) q
end
section
variable {P:Program}{w:World}{K:Frag}{mg:cr}{base:Heap}{C:Nat->Addr}
def Mp (K:Frag):List V->Hp->VK->Prop:=λ xs H Q=>∃ p ys,xs=[.ref p]/\(Ċ K H p ys\/Ė K H p ys)/\∀ l,H l=none->Q (.ref l) (aj H l (.lst ys))
def Bq (K:Frag)(e:TE):TE:=iH (Mp K) (ao e aF)
def Jd (K:Frag)(C:Nat->Addr)(eR eS:TE):TE:=cC (sV C) [] E0 (ao eR (ao (Bq K eS) aF))
def xo (K:Frag)(C:Nat->Addr)(eR eS eD:TE):TE:=cC xw [] E0 (ao (Jd K C eR eS) (ao eD aF))
theorem SN.ext {H H':Hp}{t:Rl}{sc:List Int}{ds:List Addr}(h:SN H t sc ds)(x:Ext H H'):SN H' t sc ds:=λ k d e=>by
 obtain⟨qs,r,tb⟩:=h k d e;exact⟨qs,jK r x,tb.ext λ z xs g=>x _ _ g⟩
theorem qw {σ:St}{H:Hp}{Q:VK}{eR eS eD:TE}{x sp:Addr}{t:Rl}{sc:List Int}(hR:∀ R:VK,R (.ref x) H->eR σ H R)(hS:∀ R:VK,R (.ref sp) H->eS σ H R)(ru:Ru C H t (.ref x))(ok:t.ok)(MC:H sp=some (.lst (sc.map V.int)))(fk:(sc.length:Int)=t.Û)(Nl:sc.length<=12)(ss:DO sc)
  (hD:∀ H1 (R:VK),Ext H H1->(∀ D ds H2,Ext H1 H2->H2 D=some (.lst (ds.map V.ref))->ds.length=sc.length+1->(∀ d∈ds,H d≠none\/H1 d=none)->SN H2 t sc ds->R (.ref D) H2)->eD σ H1 R)
  (q:∀ H',Ext H H'->Q (.bl true) H'):xo K C eR eS eD σ H Q:=by
 refine hR _ (hS _ ⟨sp,_,rfl,.inl (Ċ.of MC),λ hl Xa=>?_⟩);obtain⟨H1,x1,g1,eU⟩:=gB Xa (.lst (sc.map V.int));rw [eU];refine⟨.ref x,hl,t,sc,rfl,(ru.ext x1).Ć (vN H1),ok,g1,fk,Nl,ss,λ F fs H2 x2 Ze hF lf nd tf=>?_⟩;have fN:∀ f∈fs,H1 f=none/\H2 f≠none:=λ f hf=>by
  obtain⟨k,ek⟩:=ĥ hf;obtain⟨f0,qs,e,_⟩:=tf k f ek;exact⟨f0,by rw [e];simp⟩
 refine hD H2 _ (x1.trans x2) λ D ds H3 x3 Xu ld dd tr=>?_;refine⟨F,D,fs,ds,t,sc,rfl,x3 _ _ hF,Xu,by rw [lf,ld],af,nd,λ d hd hf=>?_,ok,af,λ k f ek=>?_,tr,λ H4 kf Sd=>q H4 λ b o h=>kf _ _ (x3 _ _ (x2 _ _ (x1 _ _ h))) λ hf=>?_⟩
 ·obtain⟨f0,f1⟩:=fN d hf;rcases dd d hd with h | h
  ·exact h (x1.back f0)
  ·exact f1 h
 ·obtain⟨f0,qs,e,tb⟩:=tf k f ek;exact⟨qs,x3 _ _ e,tb.ext λ z xs g=>x3 _ _ g⟩
 ·have:=(fN b hf).1;rw [x1 _ _ h] at this;cases this
end
section
variable {P:Program}{w:World}{K:Frag}{mg:cr}{base:Heap}{C:Nat->Addr}{f a1 a2 a3 a4 a5 a6 a7 a8:Addr}{fd d1 d2 d3 d4 d5 d6 d7 d8:FuncData}
abbrev pS:Stmt:=cP 70
abbrev K7:List Str:=["_law_script","_law_ahead","_law_k","_law_pool_here","_law_told","_law_rule_here","_law_scores_here","_law_due","_law_handed","_law_found","_law_other"]
theorem TR:ai K7 ["_law_script"] (aa pS):=bc
def qY (K:Frag):Sp:=λ vs H Q _=>∃(a:Addr)(ns:List Int),vs=[.ref a]/\Ċ K H a (ns.map V.int)/\ns.length<=63/\H sysModules=none/\∀ H',Q (.bl true) H'
structure Dl (P:Program)(w:World)(K:Frag)(mg:cr)(base:Heap)(C:Nat->Addr)(a1 a2 a3 a4 a5 a6 a7 a8:Addr)(d1 d2 d3 d4 d5 d6 d7 d8:FuncData):Prop where
 po:Df P w K mg base aB 1 "_law_pool" ["_law_script","_law_k"] (p8 K) a1 d1
 rd:Df P w K mg base aB 4 "_law_ruled" ["_law_pool_here","_law_most"] Ck a2 d2
 md:Df P w K mg base aB 10 "_law_rule" ["_law_told"] (kh C 2) a3 d3
 sc:Df P w K mg base aB 2 "_law_scores" ["_law_pool_here","_law_folk_here"] Eg a4 d4
 fo:Df P w K mg base aB 2 "_law_folk" ["_law_told"] kc a5 d5
 tb:Df P w K mg base aB 6 "_law_table" ["_law_told","_law_scores_here"] Dg a6 d6
 to:Df P w K mg base aB 12 "table_of" ["rule","scores"] (sV C) a7 d7
 ri:Df P w K mg base aB 4 "_law_right" ["_law_found","_law_due"] xw a8 d8
 B:jW mg
 mx:mg "max" = none
 mm:mg "min" = none
 mr:mg "range" = none
def z9 (K:Frag):TE:=cC (p8 K) [] E0 (ao (ae 0) (ao (ae 2) aF))
def An:TE:=cC Ck [] E0 (ao (ae 3) (ao (tI 8) aF))
def vP (C:Nat->Addr):TE:=cC (kh C 2) [] E0 (ao (ae 4) aF)
def wW:TE:=cC Eg [] E0 (ao (ae 3) (ao (cC kc [] E0 (ao (ae 4) aF)) aF))
def DY (j:Nat):TE:=cC Dg [] E0 (ao (ae 4) (ao (ae j) aF))
def JV (K:Frag):TS:=bq (zL (j9 (tB (cC xw [] E0 (ao (ae 9) (ao (ae 7) aF))))) (tB (bV (uh K 0 false) (ae 8) (ae 6)))) oQ aQ
def Gd (K:Frag)(H:Hp):TS:=vK H (dW (DL K "dict" mO (bV (fE K) (ae 9) (Dq (rU λ i=>.int (-i)) (tI 1)))))
def uZ (K:Frag)(H:Hp):TS:=vK H (lG (bV (fE K) (ae 9) (tI 0)) (cz (ao (tI 9) (ao (tI 9) aF))) (cz (ao (tI 1) (ao (tI 2) aF))))
def xW (K:Frag):TS:=dW (wV K "list" cW (ae 9) (ao fH aF))
def JS (K:Frag)(C:Nat->Addr):TS:=bq (tP (tB (wf (ae 1))) (j9 (tB (xo K C (cI K 1 0) (cI K 1 1) (cI K 1 2))))) oQ aQ
def As (K:Frag)(C:Nat->Addr):TS:=bq (j9 (tB (xo K C (ae 5) (ae 10) (DY 10)))) oQ aQ
def yV (K:Frag)(C:Nat->Addr):TS:=bq (j9 (tB (xo K C (ae 5) (ae 6) (ae 7)))) oQ aQ
def yh:TS:=bY (cz (ao (ae 5) (ao (ae 6) (ao (ae 7) aF)))) (aN 1)
def Hg (K:Frag)(C:Nat->Addr):TS:=aA (JS K C) (aA (bY wW (aN 10)) (aA (As K C) (aA (yV K C) yh)))
def Lh (K:Frag)(C:Nat->Addr)(H:Hp):TS:=aA (bY (Bq K (ae 6)) (aN 8)) (aA (bY (cC (sV C) [] E0 (ao (ae 5) (ao (ae 8) aF))) (aN 9)) (aA (JV K) (aA (Gd K H) (aA (uZ K H) (aA (xW K) (Hg K C))))))
def Le (K:Frag)(C:Nat->Addr)(H:Hp):TS:=aA (bY (z9 K) (aN 3)) (aA (bY An (aN 4)) (aA (bY (vP C) (aN 5)) (aA (bY wW (aN 6)) (aA (bY (DY 6) (aN 7)) (Lh K C H)))))
def K9:List V->Hp->VK->Prop:=λ xs H Q=>∃ i j:Int,xs=[.int i,.int j]/\Q (.int (if j>i then j else i)) H
def Ml (K:Frag)(C:Nat->Addr)(H:Hp):TS:=aA (bY (tC .Ă) (aN 1)) (aA (fj (jb (ao (iH K9 (ao (tI 1) (ao (iH Bn (ao (tI 4) (ao (sA K 0) aF))) aF))) aF)) (aN 2) (Le K C H)) (aY (tC (.bl true))))
section
variable {cdv:Value}{A:Around}{outer:List Env}{s:Shared}{H:Hp}{E:XK}
theorem xz (D:Dl P w K mg base C a1 a2 a3 a4 a5 a6 a7 a8 d1 d2 d3 d4 d5 d6 d7 d8)(hr:nh 12 "law" pS A s f cdv):Bx (ſ (bR aB P w K mg base K7 "law" (aa pS) f cdv A outer s H E).Φ (aI pS) (Ml K C H)):=by
 have nd:=TR.nd;have hu:=jr hr;have hu1:(A.deeper (PyProof.Rows.envOfC "law" (aa pS) s.heap.objs.size f cdv)).units+(0+1)<cLine:=HQ hr;have Ŧ:ć 1 _:=hr.mono ax;have H_:ć 2 _:=hr.mono ax;have Sx:ć 4 _:=hr.mono ax;have YO:ć 6 _:=hr.mono ax;have WZ:ć 10 _:=hr.mono ax;exact dZ ⟨dk (i:=1) nd rfl (Or.inl rfl) gv⟩
  (dZ ⟨cj Ā rfl (fB rfl D.mr (ac (am (tj rfl) rfl D.mx PyProof.Rows.boot_max (ac ay (ac (am (kK rfl) rfl D.mm PyProof.Rows.boot_min (ac ay (ac (am aO rfl D.B.me ö (ac (pv 0) ar)) ar))) ar))) ar)) (cu (i:=2) nd rfl (Or.inl rfl))
   (bb (dk (i:=3) nd rfl (Or.inl rfl) (i8 D.po.G Ŧ rfl D.po.m D.po.kp D.po.b .nil ag (ac (pv 0) (ac (pv 2) ar))))
   (bb (dk (i:=4) nd rfl (Or.inl rfl) (i8 D.rd.G Sx rfl D.rd.m D.rd.kp D.rd.b .nil ag (ac (pv 3) (ac ay ar))))
   (bb (dk (i:=5) nd rfl (Or.inl rfl) (i8 D.md.G WZ rfl D.md.m D.md.kp D.md.b .nil ag (ac (pv 4) ar)))
   (bb (dk (i:=6) nd rfl (Or.inl rfl) (i8 D.sc.G H_ rfl D.sc.m D.sc.kp D.sc.b .nil ag (ac (pv 3) (ac (i8 D.fo.G H_ rfl D.fo.m D.fo.kp D.fo.b .nil ag (ac (pv 4) ar)) ar))))
   (bb (dk (i:=7) nd rfl (Or.inl rfl) (i8 D.tb.G YO rfl D.tb.m D.tb.kp D.tb.b .nil ag (ac (pv 4) (ac (pv 6) ar))))
   (bb (dk (i:=8) nd rfl (Or.inl rfl) (aU c6 rfl D.B.ml õ (ac (pv 6) ar)))
   (bb (dk (i:=9) nd rfl (Or.inl rfl) (i8 D.to.G hr rfl D.to.m D.to.kp D.to.b .nil ag (ac (pv 5) (ac (pv 8) ar))))
   (bb (aJ (PW.pt (fY (cw (bz (i8 D.ri.G Sx rfl D.ri.m D.ri.kp D.ri.b .nil ag (ac (pv 9) (ac (pv 7) ar))))) (eQ (aq (Ce (n:=0) hu1) (pv 8) (pv 6) (au _))))) (aW (cn pX)) cT)
   (bb (qN (aR (AZ ũ Q5 PySem.F.type_dict_clear tJ (bL l8 (pv 9) (jS gX ay)))))
   (bb (qN (iD hu (bL l8 (pv 9) ay) (aP (ac ay (ac ay ar))) (aP (ac ay (ac ay ar))) rfl))
   (bb (aR (fX ø ô ó bQ (pv 9) (ac gk ar)))
   (bb (aJ (PW.pt (qv (jN (qM (pv 1))) (mU (cw (bz (i8 D.ri.G Sx rfl D.ri.m D.ri.kp D.ri.b .nil ag (ac (i8 D.to.G hr rfl D.to.m D.to.kp D.to.b .nil ag (ac (bL cB (pv 1) ay) (ac (aU c6 rfl D.B.ml õ (ac (bL cB (pv 1) ay) ar)) ar))) (ac (bL cB (pv 1) ay) ar)))))))) (aW (cn pX)) cT)
   (bb (dk (i:=10) nd rfl (Or.inl rfl) (i8 D.sc.G H_ rfl D.sc.m D.sc.kp D.sc.b .nil ag (ac (pv 3) (ac (i8 D.fo.G H_ rfl D.fo.m D.fo.kp D.fo.b .nil ag (ac (pv 4) ar)) ar))))
   (bb (aJ (cw (bz (i8 D.ri.G Sx rfl D.ri.m D.ri.kp D.ri.b .nil ag (ac (i8 D.to.G hr rfl D.to.m D.to.kp D.to.b .nil ag (ac (pv 5) (ac (aU c6 rfl D.B.ml õ (ac (pv 10) ar)) ar))) (ac (i8 D.tb.G YO rfl D.tb.m D.tb.kp D.tb.b .nil ag (ac (pv 4) (ac (pv 10) ar))) ar))))) (aW (cn pX)) cT)
   (bb (aJ (cw (bz (i8 D.ri.G Sx rfl D.ri.m D.ri.kp D.ri.b .nil ag (ac (i8 D.to.G hr rfl D.to.m D.to.kp D.to.b .nil ag (ac (pv 5) (ac (aU c6 rfl D.B.ml õ (ac (pv 6) ar)) ar))) (ac (pv 7) ar))))) (aW (cn pX)) cT)
   (aW (dk (i:=1) nd rfl (Or.inl rfl) (aP (ac (pv 5) (ac (pv 6) (ac (pv 7) ar)))))))))))))))))))))⟩
  (bS (cX ⟨pX⟩)))
end
end
structure Nq (C:Nat->Addr)(H:Hp)(x sp D:Addr)(t:Rl)(sc:List Int)(ds:List Addr):Prop where
 ru:Ru C H t (.ref x)
 ok:t.ok
 sp:H sp=some (.lst (sc.map V.int))
 fk:(sc.length:Int)=t.Û
 Nl:sc.length<=12
 ss:DO sc
 D:H D=some (.lst (ds.map V.ref))
 ld:ds.length=sc.length+1
 tr:SN H t sc ds
theorem Nq.ext {C:Nat->Addr}{H H':Hp}{x sp D:Addr}{t:Rl}{sc:List Int}{ds:List Addr}(h:Nq C H x sp D t sc ds)(e:Ext H H'):Nq C H' x sp D t sc ds :=
 ⟨h.ru.ext e,h.ok,e _ _ h.sp,h.fk,h.Nl,h.ss,e _ _ h.D,h.ld,h.tr.ext e⟩
theorem Nq.YI {C:Nat->Addr}{H:Hp}{x sp D:Addr}{t:Rl}{sc:List Int}{ds:List Addr}(h:Nq C H x sp D t sc ds):∀ d∈ds,H d≠none:=λ d hd=>by
 obtain⟨k,ek⟩:=ĥ hd;obtain⟨qs,r,_⟩:=h.tr k d ek;rcases r with r | ⟨o,r⟩ <;> rw [r] <;> simp
def RG (C:Nat->Addr)(H:Hp)(v:V):Prop:=v=.Ă\/∃ q x sp D t sc ds,v=.ref q/\H q=some (.tup [.ref x,.ref sp,.ref D])/\Nq C H x sp D t sc ds
theorem RG.ext {C:Nat->Addr}{H H':Hp}{v:V}(h:RG C H v)(e:Ext H H'):RG C H' v:=by
 rcases h with h | ⟨q,x,sp,D,t,sc,ds,h,hq,d⟩
 ·exact .inl h
 ·exact .inr ⟨q,x,sp,D,t,sc,ds,h,e _ _ hq,d.ext e⟩
section
variable {P:Program}{w:World}{K:Frag}{mg:cr}{base:Heap}{C:Nat->Addr}
theorem zW {σ:St}{H:Hp}{eD:TE}{x sp D:Addr}{t:Rl}{sc:List Int}{ds:List Addr}(d:Nq C H x sp D t sc ds)(h:∀ H1 (R:VK),Ext H H1->R (.ref D) H1->eD σ H1 R):∀ H1 (R:VK),Ext H H1->(∀ D ds H2,Ext H1 H2->H2 D=some (.lst (ds.map V.ref))->ds.length=sc.length+1->(∀ d∈ds,H d≠none\/H1 d=none)->SN H2 t sc ds->R (.ref D) H2)->eD σ H1 R :=
 λ H1 R x1 k=>h H1 R x1 (k D ds H1 (Ext.refl _) (x1 _ _ d.D) d.ld (λ z hz=>.inl (d.YI z hz)) (d.tr.ext x1))
theorem D8 {G H H':Hp}{p:Addr}(x:Ext G H)(n:G p=none)(k:Kept H H' p):Ext G H':=λ b o h=>k _ _ (x _ _ h) (λ e=>by rw [e,n] at h;cases h)
theorem Gg {De:dq}{G H:Hp}{a p av x sp D:Addr}{va:V}{k:Int}{t:Rl}{sc:List Int}{ds:List Addr}{o8 o9 oa:Option V}(e:Ext G H)(pn:G p=none)(pa:ě H p)(ah:RG C G va)(d:Nq C G x sp D t sc ds)(rt:Ą G (.ref av) t.told)(hg:t.Nn<=2)
  (q:∀ RZ o8 o9 oa H',Ext G H'->RG C H' RZ->De.nx [some (.ref a),some RZ,some (.int k),some (.ref p),some (.ref av),some (.ref x),some (.ref sp),some (.ref D),o8,o9,oa] H') :
  Hg K C De [some (.ref a),some va,some (.int k),some (.ref p),some (.ref av),some (.ref x),some (.ref sp),some (.ref D),o8,o9,oa] H:=by
 have rest:∀ H,Ext G H->ě H p->aA (bY wW (aN 10)) (aA (As K C) (aA (yV K C) yh)) De [some (.ref a),some va,some (.int k),some (.ref p),some (.ref av),some (.ref x),some (.ref sp),some (.ref D),o8,o9,oa] H:=by
  intro H e pa;obtain⟨n,en⟩:∃ n:Nat,t.Û =(n:Int):=⟨sc.length,d.fk.symm⟩;have fk:=d.fk;have Nl:=d.Nl;refine aK (te:=wW) (i:=10) (D:=De) ⟨_,rfl,_,rfl,.ref av,t,rfl,rt.mono e,d.ok,λ H1 x1=>⟨p,n,by rw [en];rfl,pa.ext x1,af,λ Vt Yc H2 f2 sN h2 l2 s2=>?_⟩⟩
  have e2:Ext G H2:=D8 (e.trans x1) pn f2.k;have d2:=d.ext e2;show aA (As K C) (aA (yV K C) yh) De [some (.ref a),some va,some (.int k),some (.ref p),some (.ref av),some (.ref x),some (.ref sp),some (.ref D),o8,o9,some (.ref Vt)] H2;refine qw (K:=K) (t:=t) (sc:=Yc) (x:=x) (sp:=Vt) (λ R r=>⟨_,rfl,r⟩) (λ R r=>⟨_,rfl,r⟩) d2.ru d.ok h2 af af s2 (λ H3 R x3 kk=>?_) λ H3 x3=>⟨_,rfl,dj ?_⟩
  ·refine⟨_,rfl,_,rfl,.ref av,Vt,t,Yc,rfl,rt.mono (e2.trans x3),d.ok,hg,x3 _ _ h2,af,af,λ L ds' H4 x4 L0 hL ll tb=>kk L ds' H4 x4 hL ll (λ z hz=>.inr ?_) λ j z ez=>?_⟩
   ·obtain⟨j,ej⟩:=ĥ hz;exact(tb j z ej).1
   ·obtain⟨_,qs,g1,g2⟩:=tb j z ez;exact⟨qs,.inl g1,g2⟩
  have e3:=e2.trans x3;have d3:=d.ext e3;show aA (yV K C) yh De [some (.ref a),some va,some (.int k),some (.ref p),some (.ref av),some (.ref x),some (.ref sp),some (.ref D),o8,o9,some (.ref Vt)] H3;refine qw (K:=K) (t:=t) (sc:=sc) (x:=x) (sp:=sp) (λ R r=>⟨_,rfl,r⟩) (λ R r=>⟨_,rfl,r⟩) d3.ru d.ok d3.sp d.fk d.Nl d.ss (zW d3 λ H1 R x1 r=>⟨_,rfl,r⟩) λ H4 x4=>⟨_,rfl,dj ?_⟩;have e4:=e3.trans x4;refine aK (te:=cz (ao (ae 5) (ao (ae 6) (ao (ae 7) aF)))) (i:=1) (D:=De) ⟨_,rfl,_,rfl,_,rfl,cK,λ z hz=>?_⟩;have x5:=Ext.new (o:=.tup [.ref x,.ref sp,.ref D]) hz;exact q (.ref z) _ _ _ _ (e4.trans x5) (.inr ⟨z,x,sp,D,t,sc,ds,rfl,be,d.ext (e4.trans x5)⟩)
 have XJ:=ah.ext e;rcases XJ with rfl | ⟨q0,x0,sp0,D0,t0,sc0,ds0,rfl,hq,d0⟩
 ·exact⟨_,rfl,_,rfl,dj (dj (rest H e pa))⟩
 ·refine⟨_,rfl,_,rfl,fV ?_⟩;refine qw (K:=K) (t:=t0) (sc:=sc0) (x:=x0) (sp:=sp0) (λ R r=>ib 0 rfl hq rfl r) (λ R r=>ib 1 rfl hq rfl r) d0.ru d0.ok d0.sp d0.fk d0.Nl d0.ss (zW d0 λ H1 R x1 r=>ib 2 rfl (x1 _ _ hq) rfl r) λ H1 x1=>⟨_,rfl,dj ?_⟩;exact rest H1 (e.trans x1) (pa.ext x1)
theorem Fc {De:dq}{He H:Hp}{σ:St}{F fl:Addr}{xs:List V}{qs:List (TK × V)}(si:σ[9]?=some (some (.ref F)))(hF:H F=some (.lst xs))(el:rB xs (-1)=some (.ref fl))(r:Rd H fl (bT qs))(n:He fl=none)(q:∀ H',(∀ b o,H b=some o->b≠fl->H' b=some o)->H' fl=some (.dT [])->De.nx σ H'):Gd K He De σ H:=by
 have go:∀ H',H' fl=some (bT qs)->(∀ b o,H b=some o->b≠fl->H' b=some o)->F≠fl->dW (DL K "dict" mO (bV (fE K) (ae 9) (Dq (rU λ i=>.int (-i)) (tI 1)))) De σ H':=λ H' h k nF =>
  ⟨_,si,_,rfl,F,xs,-1,_,rfl,rfl,Ċ.of (k _ _ hF nF),el,.inr (.inr (.inl ⟨rfl,.inr ⟨_,h⟩⟩)),fl,_,rfl,rfl,h,q _ (λ b o hb nb=>by rw [ad nb];exact k _ _ hb nb) be⟩
 have nF:F≠fl:=λ e=>by rcases r with r | ⟨o,r⟩ <;> rw [<- e,hF] at r <;> cases r
 rcases r with r | ⟨o,r⟩
 ·exact .inl (go H r (λ b o h _=>h) nF)
 ·exact .inr ⟨fl,o,bT qs,r,True.intro,n,go _ be (λ b o h nb=>by rw [ad nb];exact h) nF⟩
theorem Cv {De:dq}{He H:Hp}{σ:St}{F f0:Addr}{xs:List V}{ï:List (List NK × V)}(si:σ[9]?=some (some (.ref F)))(hF:H F=some (.lst xs))(el:xs[0]?=some (.ref f0))(r:Rd H f0 (.dT ï))(lt:ï.length<sizeLine)(n:He f0=none)(q:∀ H',(∀ b o,H b=some o->b≠f0->H' b=some o)->De.nx σ H'):uZ K He De σ H:=by
 have nF:F≠f0:=λ e=>by rcases r with r | ⟨o,r⟩ <;> rw [<- e,hF] at r <;> cases r
 have go:∀ H',H' f0=some (.dT ï)->(∀ b o,H b=some o->b≠f0->H' b=some o)->lG (bV (fE K) (ae 9) (tI 0)) (cz (ao (tI 9) (ao (tI 9) aF))) (cz (ao (tI 1) (ao (tI 2) aF))) De σ H':=λ H' h k=>by
  refine⟨cK,λ m hm=>?_⟩;have x1:=Ext.new (o:=.tup [.int 1,.int 2]) hm;generalize aj H' m (.tup [.int 1,.int 2])=H1 at x1 ⊢;refine⟨_,si,F,xs,0,_,rfl,rfl,Ċ.of (x1 _ _ (k _ _ hF nF)),jU (j:=0) el,cK,λ b hb=>?_⟩;obtain⟨H2,x2,g2,eU⟩:=gB hb (.tup [.int 9,.int 9]);rw [eU];have l_:=x1.trans x2;exact⟨f0,_,rfl,.inr ⟨ï,[.k (.inl 9),.k (.inl 9)],b,l_ _ _ h,rfl,⟨_,g2,.cons rfl (.cons rfl .nil)⟩,lt,rfl⟩,q _ λ c o hc nc=>by rw [ad nc];exact l_ _ _ (k _ _ hc nc)⟩
 rcases r with r | ⟨o,r⟩
 ·exact .inl (go H r (λ b o h _=>h))
 ·exact .inr ⟨f0,o,.dT ï,r,True.intro,n,go _ be (λ b o h nb=>by rw [ad nb];exact h)⟩
end
section
variable {P:Program}{w:World}{K:Frag}{mg:cr}{base:Heap}{C:Nat->Addr}{f a1 a2 a3 a4 a5 a6 a7 a8:Addr}{fd d1 d2 d3 d4 d5 d6 d7 d8:FuncData}
theorem GJ {De:dq}{He G H:Hp}{a p av x sp D:Addr}{va:V}{k:Int}{t:Rl}{sc:List Int}{ds:List Addr}{o8 o9 oa:Option V}(eh:Ext He G)(e:Ext G H)(pn:G p=none)(pa:ě H p)(ah:RG C G va)(d:Nq C G x sp D t sc ds)(rt:Ą G (.ref av) t.told)(hg:t.Nn<=2)
  (q:∀ RZ o8 o9 oa H',Ext G H'->RG C H' RZ->De.nx [some (.ref a),some RZ,some (.int k),some (.ref p),some (.ref av),some (.ref x),some (.ref sp),some (.ref D),o8,o9,oa] H') :
  Lh K C He De [some (.ref a),some va,some (.int k),some (.ref p),some (.ref av),some (.ref x),some (.ref sp),some (.ref D),o8,o9,oa] H:=by
 have dH:=d.ext e;refine aK (te:=Bq K (ae 6)) (i:=8) (D:=De) ⟨_,rfl,sp,_,rfl,.inl (Ċ.of dH.sp),λ hl Xa=>?_⟩;show aA (bY (cC (sV C) [] E0 (ao (ae 5) (ao (ae 8) aF))) (aN 9)) (aA (JV K) (aA (Gd K He) (aA (uZ K He) (aA (xW K) (Hg K C))))) De [some (.ref a),some va,some (.int k),some (.ref p),some (.ref av),some (.ref x),some (.ref sp),some (.ref D),some (.ref hl),o9,oa] (aj H hl (.lst (sc.map V.int)));obtain⟨H1,x1,g1,eU⟩:=gB Xa (.lst (sc.map V.int));rw [eU];have e1:=e.trans x1;have D1:=d.ext e1;refine aK (te:=cC (sV C) [] E0 (ao (ae 5) (ao (ae 8) aF))) (i:=9) (D:=De) ⟨_,rfl,_,rfl,.ref x,hl,t,sc,rfl,D1.ru.Ć (vN H1),d.ok,g1,d.fk,d.Nl,d.ss,λ F fs H2 x2 FN hF lf nd tf=>?_⟩;have e2:=e1.trans x2;have D2:=d.ext e2;have fk:=d.fk;have Nl:=d.Nl;have fN:∀ f∈fs,H1 f=none:=λ f hf=>by
  obtain⟨j,ej⟩:=ĥ hf;exact(tf j f ej).1
 have G0:∀ f∈fs,He f=none:=λ f hf=>(eh.trans e1).back (fN f hf);show aA (JV K) (aA (Gd K He) (aA (uZ K He) (aA (xW K) (Hg K C)))) De [some (.ref a),some va,some (.int k),some (.ref p),some (.ref av),some (.ref x),some (.ref sp),some (.ref D),some (.ref hl),some (.ref F),oa] H2;refine⟨_,rfl,_,rfl,F,D,fs,ds,t,sc,rfl,hF,D2.D,by rw [lf,d.ld],af,nd,λ z hz hf=>?_,d.ok,af,λ j f ej=>?_,D2.tr,λ H3 kf Sd=>⟨_,rfl,dj ?_⟩⟩
 ·exact D1.YI z hz (fN z hf)
 ·obtain⟨_,qs,h,tb⟩:=tf j f ej;exact⟨qs,h,tb⟩
 have Pc:∀{b:Addr}{o:HO},H1 b=some o->b ∉ fs:=λ h hf=>by rw [fN _ hf] at h;cases h
 have F1:F ∉ fs:=λ hf=>by
  obtain⟨j,ej⟩:=ĥ hf;obtain⟨_,qs,h,_⟩:=tf j F ej;rw [hF] at h;cases h
 have Pq:Ext H1 H3:=λ b o h=>kf _ _ (x2 _ _ h) (Pc h);have Zd:H3 F=some (.lst (fs.map V.ref)):=kf _ _ hF F1;refine⟨_,rfl,_,rfl,hl,sp,_,_,rfl,rfl,.inr ⟨Ċ.of (Pq _ _ g1),Ċ.of (Pq _ _ (x1 _ _ dH.sp))⟩,rfl,λ i y z ey ez=>?_,_,rfl,dj ?_⟩
 ·rw [ey] at ez;cases ez;rw [Ô] at ey;obtain⟨n,_,rfl⟩:=å.mp ey;exact Alike.same (.inr ⟨rfl,rfl,wD rfl⟩)
 show aA (Gd K He) (aA (uZ K He) (aA (xW K) (Hg K C))) De [some (.ref a),some va,some (.int k),some (.ref p),some (.ref av),some (.ref x),some (.ref sp),some (.ref D),some (.ref hl),some (.ref F),oa] H3;have Zg:fs ≠ []:=λ z=>by rw [z] at lf;simp at lf
 obtain⟨fi,fl,Zm⟩:∃ fi fl,fs=fi ++ [fl]:=⟨fs.dropLast,fs.getLast Zg,(List.dropLast_concat_getLast Zg).symm⟩;have UR:fl∈fs:=by rw [Zm];simp
 obtain⟨qsl,hql⟩:∃ qs,H2 fl=some (bT qs):=by
  obtain⟨j,ej⟩:=ĥ UR;obtain⟨_,qs,h,_⟩:=tf j fl ej;exact⟨qs,h⟩
 refine Fc (xs:=fs.map V.ref) (fl:=fl) rfl Zd (by rw [Zm,Ð];exact lU) (Sd fl UR _ hql) (G0 fl UR) λ H4 k4 VL=>?_
 have lp:0<fs.length:=af;have e0:fs[0]?=some fs[0]:=Å lp;have VN:fs[0]∈fs:=Ĥ lp;obtain⟨_,Vv,UF,X8⟩:=tf 0 _ e0;have lq:Vv.length<=1:=by
  have h1:=mZ (b:=(dY t sc 0).map Bg.key) X8.nd λ y hy=>by
   obtain⟨r,hr,er⟩:=(X8.ks y).mp hy;rw [<- er];exact ĩ hr
  rw [Ä,Ä] at h1;exact Í h1 (ik t sc 0)
 have Z6:∀ f∈fs,F≠f:=λ f hf e=>F1 (by rw [e];exact hf)
 have Zc:H4 F=some (.lst (fs.map V.ref)):=k4 _ _ Zd (Z6 fl UR);obtain⟨ï,r4,lk⟩:∃ ï:List (List NK × V),Rd H4 fs[0] (.dT ï)/\ï.length<sizeLine:=by
  by_cases y:fs[0]=fl
  ·exact⟨[],by rw [y];exact .inl VL,by show 0<sizeLine;rw [Ü];decide⟩
  ·refine⟨Vv.map λ p=>([p.1.1,NK.k (.inl p.1.2)],p.2),?_,by rw [Ä,Ü];omega⟩
   ·rcases Sd _ VN _ UF with r | ⟨o,r⟩
    ·exact .inl (k4 _ _ r y)
    ·exact .inr ⟨o,k4 _ _ r y⟩
 refine Cv (xs:=fs.map V.ref) (f0:=fs[0]) rfl Zc (by rw [Ô,e0];rfl) r4 lk (G0 _ VN) λ H5 k5=>?_
 have Zb:H5 F=some (.lst (fs.map V.ref)):=k5 _ _ Zc (Z6 _ VN);refine⟨_,rfl,.inl ⟨rfl,_,Ċ.of Zb⟩,λ nw hnw=>?_⟩;have x6:=Ext.new (o:=.dT []) hnw;generalize aj H5 nw (.dT [])=H6 at x6 ⊢;refine⟨F,fs.map V.ref,.ref nw,rfl,rfl,x6 _ _ Zb,by rw [Ä,Ü];omega,?_⟩
 have X2:Ext H1 (aj H6 F (.lst (fs.map V.ref ++ [.ref nw]))):=λ b o h=>by
  rw [ad (λ z=>by rw [z,FN] at h;cases h)]
  exact x6 _ _ (k5 _ _ (k4 _ _ (Pq _ _ h) (λ z=>Pc h (by rw [z];exact UR))) (λ z=>Pc h (by rw [z];exact VN)))
 exact Gg (e1.trans X2) pn ((pa.ext x1).ext X2) ah d rt hg q
theorem Bu (F:ĵ K "law" "law" pS f fd) (D:Dl P w K mg base C a1 a2 a3 a4 a5 a6 a7 a8 d1 d2 d3 d4 d5 d6 d7 d8):í P w K mg base aB 13 f fd ["_law_script"] (qY K):=by
 refine F.ok TR (λ vs H Q E h=>?_) (λ cdv A outer s H vs Q E hr h=>?_)
 ·obtain⟨a,ns,rfl,_⟩:=h;rfl
 obtain⟨a,ns,rfl,ha,l63,hz,q⟩:=h;obtain⟨ε⟩:=xz D hr (f:=f) (cdv:=cdv) (A:=A) (outer:=outer) (s:=s) (H:=H) (E:=E);refine⟨_,ε,?_⟩;show aA (fj (jb (ao (iH K9 (ao (tI 1) (ao (iH Bn (ao (tI 4) (ao (sA K 0) aF))) aF))) aF)) (aN 2) (Le K C H)) (aY (tC (.bl true))) ⟨λ _ H'=>Q .Ă H',Q,λ _ _=>False,λ _ _=>False⟩ [some (.ref a),some .Ă,none,none,none,none,none,none,none,none,none] H;refine⟨_,rfl,a,_,rfl,.inl ha,4,_,rfl,1,_,rfl,?_⟩;obtain⟨m,em,aa0⟩:∃ m:Nat,(if(if((((ns.map V.int).length:Nat):Int))<4 then(((ns.map V.int).length:Nat):Int) else 4)>1 then(if((((ns.map V.int).length:Nat):Int))<4 then(((ns.map V.int).length:Nat):Int) else 4) else 1)=(m:Int)/\m<100:=by
  generalize (ns.map V.int).length=n;by_cases h:(n:Int)<4
  ·rw [Ó h];by_cases h2:(n:Int)>1
   ·rw [Ó h2];exact⟨n,rfl,af⟩
   ·rw [Ë h2];exact⟨1,rfl,ax⟩
  ·rw [Ë h,Ó ax];exact⟨4,rfl,ax⟩
 refine⟨_,rfl,?_,?_,?_⟩
 ·rw [em];omega
 ·rw [em];omega
 rw [em,Ù];refine gG (lo:=0) (n:=m) (λ i σ H'=>Ext H H'/\∃(va:V)(o2 o3 o4 o5 o6 o7 o8 o9 oa:Option V),σ=[some (.ref a),some va,o2,o3,o4,o5,o6,o7,o8,o9,oa]/\RG C H' va) ⟨Ext.refl _,.Ă,none,none,none,none,none,none,none,none,none,rfl,.inl rfl⟩ ?_ ?_
 ·rintro i σ Hs hi ⟨x0,va,o2,o3,o4,o5,o6,o7,o8,o9,oa,rfl,ah⟩;rw [show(0:Int)+(i:Nat)=(i:Nat) from v_ _];refine aK (te:=z9 K) (i:=3) ⟨_,rfl,_,rfl,a,ns,i,rfl,My.Ċ.ext ha x0,af,λ p H1 pN x1 pa=>?_⟩;refine aK (te:=An) (i:=4) ⟨_,rfl,p,8,rfl,pa,ax,ax,λ av t H2 f2 rt ok hg f8=>?_⟩;refine aK (te:=vP C) (i:=5) ⟨_,rfl,.ref av,t,rfl,rt,ok,hg,λ x H3 x3 ru=>?_⟩;have f0:=(Rl.Į ok).1;obtain⟨n,en⟩:∃ n:Nat,t.Û =(n:Int):=⟨t.Û.toNat,af⟩;refine aK (te:=wW) (i:=6) ⟨_,rfl,_,rfl,.ref av,t,rfl,rt.mono x3,ok,λ H4 x4=>⟨p,n,by rw [en];rfl,(f2.b.ext x3).ext x4,af,λ sp sc H5 f5 sN MC lsc ss=>?_⟩⟩
  have b4:ě H4 p:=(f2.b.ext x3).ext x4;have YD:=f5.P9 b4;have Yg:Ą H5 (.ref av) t.told:=((rt.mono x3).mono x4).Ć YD t.nl;have ru5:Ru C H5 t (.ref x):=(ru.ext x4).Ć YD;refine aK (te:=DY 6) (i:=7) ⟨_,rfl,_,rfl,.ref av,sp,t,sc,rfl,Yg,ok,hg,MC,af,af,λ Dd ds H6 x6 DN hD ld tb=>?_⟩;have b5:=f5.b;have b6:ě H6 p:=b5.ext x6;have Wu:∀{b:Addr}{o:HO},H6 b=some o->(∀ xs,o ≠ .lst xs)->b≠p:=λ h n e=>by
   obtain⟨_,_,_,g,_⟩:=b6.ex;rw [e,g] at h;cases h;exact n _ rfl
  have P9:oq H6 (wo H6 p):=λ b o h z=>gM (Wu h (λ xs e=>by rw [e] at z;cases z)) h
  have k16:Kept H1 H6 p:=f2.k.trans (((x3.trans x4).kept p).trans (f5.k.trans (x6.kept p)));have eG:Ext Hs (wo H6 p):=λ b o h=>by
   have ne:b≠p:=λ z=>by rw [z,pN] at h;cases h
   exact gM ne (k16 _ _ (x1 _ _ h) ne)
  have nsp:sp≠p:=λ z=>by
   obtain⟨_,_,_,g,_⟩:=b4.ex;rw [z,g] at sN;cases sN
  have nD:Dd≠p:=λ z=>by
   obtain⟨_,_,_,g,_⟩:=b5.ex;rw [z,g] at DN;cases DN
  have dat:Nq C (wo H6 p) x sp Dd t sc ds:=⟨(ru5.ext x6).Ć P9,ok,gM nsp (x6 _ _ MC),af,af,ss,gM nD hD,ld,λ j z ez=>by
   obtain⟨_,qs,g1,g2⟩:=tb j z ez;exact⟨qs,.inl (gM (Wu g1 (λ xs e=>by cases e)) g1),g2.ext λ y ys g=>gM (Wu g (λ xs e=>by cases e)) g⟩⟩
  have rtG:Ą (wo H6 p) (.ref av) t.told:=(Yg.mono x6).Ć P9 t.nl;refine GJ (x0.trans eG) (mV H6 p) (by unfold wo;rw [Ó rfl]) b6 (ah.ext eG) dat rtG hg λ RZ o8 o9 oa H' e' XJ=>⟨(x0.trans eG).trans e',RZ,_,_,_,_,_,_,o8,o9,oa,rfl,XJ⟩
 ·rintro σ H' _;exact q H'
end
abbrev BP (nm qn:Str)(st:Stmt)(ps:List Str):Prop:=∀(kV doc pm:Value)(an:Option Addr)(cdv ct:Value)(us:List Value),us.length=ps.length->bindArgs (PySem.W.fnOf nm qn (dD st) (aI st) (aa st) .none kV doc pm an cdv ct) ⟨us,[]⟩=pure (ps.zip us)
abbrev BQ (nm qn:Str)(st:Stmt)(ps:List Str)(us:List Value):Prop:=∀(kV doc pm:Value)(an:Option Addr)(cdv ct:Value),bindArgs (PySem.W.fnOf nm qn (dD st) (aI st) (aa st) .none kV doc pm an cdv ct) ⟨us,[]⟩=pure (ps.zip us)
theorem b1 (h:∀ u,BQ nm qn st [a] [u]:=by exact λ _ _ _ _ _ _ _=>rfl):BP nm qn st [a]:=λ _ _ _ _ _ _ us hl=>match us,hl with | [_],_=>h _ _ _ _ _ _ _
theorem b2 (h:∀ u v,BQ nm qn st [a,b] [u,v]:=by exact λ _ _ _ _ _ _ _ _=>rfl):BP nm qn st [a,b]:=λ _ _ _ _ _ _ us hl=>match us,hl with | [_,_],_=>h _ _ _ _ _ _ _ _
theorem b3 (h:∀ u v w,BQ nm qn st [a,b,c] [u,v,w]:=by exact λ _ _ _ _ _ _ _ _ _=>rfl):BP nm qn st [a,b,c]:=λ _ _ _ _ _ _ us hl=>match us,hl with | [_,_,_],_=>h _ _ _ _ _ _ _ _ _
theorem b4 (h:∀ u v w x,BQ nm qn st [a,b,c,d] [u,v,w,x]:=by exact λ _ _ _ _ _ _ _ _ _ _=>rfl):BP nm qn st [a,b,c,d]:=λ _ _ _ _ _ _ us hl=>match us,hl with | [_,_,_,_],_=>h _ _ _ _ _ _ _ _ _ _
theorem b5 (h:∀ u v w x y,BQ nm qn st [a,b,c,d,e] [u,v,w,x,y]:=by exact λ _ _ _ _ _ _ _ _ _ _ _=>rfl):BP nm qn st [a,b,c,d,e]:=λ _ _ _ _ _ _ us hl=>match us,hl with | [_,_,_,_,_],_=>h _ _ _ _ _ _ _ _ _ _ _
abbrev OQ (K:Frag)(mg:cr)(D:Addr)(nm fl:Str)(C f:Addr)(fd:FuncData):Prop:=Η K D->mg "DealError" = some (.ref D)->uL K mg D nm fl C f fd
theorem xj (T:θ K D nm C f)(mC:mg nm=some (.ref C))(F:ĵ K "__init__" qn st f fd) (tk:takerIn K C fl=some none) (S:ai ["self",fl] ["self",fl] (aa st)) (hb:BP "__init__" qn st ["self",fl])
  (ε:Η K D->mg "DealError" = some (.ref D)->∀(P:Program)(w:World)(base:Heap)(cdv:Value)(A:Around)(outer:List Env)(s:Shared)(H:Hp)(E:XK),ſ (bR aB P w K mg base ["self",fl] qn (aa st) f cdv A outer s H E).Φ (aI st) (aA (dW (Lx (ae 0) (tC (.str txt)) C)) (GE K C (ae 0) (ae 1) fl))):OQ K mg D nm fl C f fd:=by
 refine λ B mD=>⟨T,mC,λ P w base=>?_,F.binds hb⟩;refine F.ok S (λ vs H Q E h=>?_) (λ cdv A outer s H vs Q E hr h=>?_)
 ·obtain⟨x,v,rfl,_⟩:=h;rfl
 obtain⟨x,v,rfl,hx,q⟩:=h;exact⟨_,ε B mD P w base cdv A outer s H E,_,rfl,x,rfl,hx,_,rfl,_,rfl,x,rfl,hx,tk,q⟩
abbrev EA:Stmt:=bw (cP 2) 0
theorem of2 (T:θ K D "NoShare" C f) (mC:mg "NoShare" = some (.ref C)) (F:ĵ K "__init__" "NoShare.__init__" EA f fd) (tk:takerIn K C "found" = some none):OQ K mg D "NoShare" "found" C f fd :=
 xj T mC F tk bc b2 λ B mD _ _ _ _ _ _ _ _ _=>bb (aR (ff B T rfl mD (pv 0) fD)) (aW (lW T (pv 0) (pv 1) rfl))
abbrev E5:Stmt:=bw (cP 3) 0
theorem of3 (T:θ K D "NoNumber" C f) (mC:mg "NoNumber" = some (.ref C)) (F:ĵ K "__init__" "NoNumber.__init__" E5 f fd) (tk:takerIn K C "found" = some none):OQ K mg D "NoNumber" "found" C f fd :=
 xj T mC F tk bc b2 λ B mD _ _ _ _ _ _ _ _ _=>bb (aR (ff B T rfl mD (pv 0) fD)) (aW (lW T (pv 0) (pv 1) rfl))
abbrev Fq:Stmt:=bw (cP 5) 0
theorem of5 (T:θ K D "NoTrials" C f) (mC:mg "NoTrials" = some (.ref C)) (F:ĵ K "__init__" "NoTrials.__init__" Fq f fd) (tk:takerIn K C "found" = some none):OQ K mg D "NoTrials" "found" C f fd :=
 xj T mC F tk bc b2 λ B mD _ _ _ _ _ _ _ _ _=>bb (aR (ff B T rfl mD (pv 0) fD)) (aW (lW T (pv 0) (pv 1) rfl))
abbrev G8:Stmt:=bw (cP 6) 0
theorem of6 (T:θ K D "TooMany" C f) (mC:mg "TooMany" = some (.ref C)) (F:ĵ K "__init__" "TooMany.__init__" G8 f fd) (tk:takerIn K C "many" = some none):OQ K mg D "TooMany" "many" C f fd :=
 xj T mC F tk bc b2 λ B mD _ _ _ _ _ _ _ _ _=>bb (aR (ff B T rfl mD (pv 0) fD)) (aW (lW T (pv 0) (pv 1) rfl))
theorem bB (hm:kitMeta n=true)(h:mroIn K C (.type n)=some b):kitOne K (.ref C) (.type n)=some b:=by
 unfold kitOne;rw [Ë (by intro e;cases Ķ.mp e)]
 show(if kitMeta n=true then subIn K (.ref C) (.type n) else none)=_
 rw [Ó hm];exact h
theorem aS (hc:isClsIn K C'=true)(ht:typeIn K (.ref C')=some (.type "type")) (hs:mroIn K C' (.ref C')=some true) (hm:mroIn K C (.ref C')=some b):kitOne K (.ref C) (.ref C')=some b:=by
 unfold kitOne;by_cases e:C=C'
 ·subst e;rw [hs] at hm;cases hm;rw [Ó (ź _)]
 ·rw [Ë (by intro z;exact e (Value.ref.inj (Ķ.mp z)))]
  show(if((clsIn K C').isSome&&typeIn K (.ref C')==some (.type "type"))=true then subIn K (.ref C) (.ref C') else none)=_
  have OD:(clsIn K C').isSome=true:=hc;rw [OD,ht];simp only [beq_self_eq_true,Bool.and_self,if_true];exact hm
structure Dm (K:Frag)(nm qual:Str)(st:Stmt)(ps:List Str)(f:Addr)(fd:FuncData):Prop where
 fn:ĵ K nm qual st f fd
 bi:Binds K fd ps []
 kp:keepIn K (.ref f)=true
 Ξ:isFn K (.ref f)=true
def Cc:Value->Bool
 | .str _ _=>true
 | _=>false
theorem Oy {es:Array DictEntry}(h:(es.toList.all λ e=>Cc e.key)=true):StrKeys es:=λ e he=>by
 have z:=p_.mp h e (by simpa using he)
 cases k:e.key with
 | str n t=>exact⟨n,t,rfl⟩
 | _=>rw [k] at z;cases z
theorem mQ {K:Frag}{C:Addr}{cd:ClassData}{b:Value}(h:clsIn K C=some cd)(hb:cd.mro.isEmpty=false)(hc:cd.mro.contains b=true):mroIn K C b=some true:=by
 unfold mroIn;rw [h,Ou,hb,hc];rfl
theorem QX {K:Frag}{D N:Addr}{nm q:Str}{bs:List Value}{sn:List Str}{sub:List Value}{ab:Bool}{col:Option Bool}{dd:Option Addr}{k0 k1 k2 k3 k5:Option Value}
  {cN:Value} {dN:Option Addr} {es:Array DictEntry} {ep:Nat} {sN:Array (Option Value)}
  (lD:K.lookup D=some (excClassObj nm q D N bs tG true sn sub ab col dd k0 k1 k2 k3 k5 "ValueError.__new__"))
  (lN:K.lookup N=some ⟨cN,dN,.dict es ep,sN⟩) (sk:StrKeys es) (ni:nsFind es "__init__" = none)
  (ga:specialIn K (.ref D) "__getattribute__" = some (some (.builtin "type.__getattribute__"))) (rd:readsIn K D (.type "type")=true)
  (UA:findCls K (.ref D) (.type "type") "__init__" = some (.val (.builtin "ValueError.__init__"))) (fi:findIn K (.ref D) "__init__" = some (some (.builtin "ValueError.__init__"))) (kp:keepIn K (.ref D)=true)
  (gb:findIn K (.ref D) "__getattribute__" = some (some (.builtin Ai))) (hk:findIn K (.ref D) "__getattr__" = some none) (ca:findIn K (.ref D) "__class__" = some (some (.builtin "object.__class__"))):Η K D:=by
 have hc:clsIn K D=some { name:=nm,bases:=bs,mro:=.ref D::tG,ns:=N,qualname:=q,hasDict:=true,slotNames:=sn,subclasses:=sub,abstract:=ab,collection:=col,hasDel:=false }:=by
  unfold clsIn;rw [lD]
 refine⟨⟨nm,q,N,bs,sn,sub,ab,col,dd,k0,k1,k2,k3,k5,lD,_,es,ep,lN,rfl,sk,ni⟩,ga,rd,UA,fi,kp,⟨by rw [hc];rfl,gb,hk,mQ hc rfl ?_,mQ hc rfl ?_,ca⟩⟩
 ·show(Value.ref D::tG).contains (.type "BaseException")=true;rw [ō];rfl
 ·show(Value.ref D::tG).contains (.type "object")=true;rw [ō];rfl
theorem NS {K:Frag}{D C N f:Addr}(nm:Str)
  {q:Str} {bs:List Value} {sn:List Str} {sub:List Value} {ab:Bool} {col:Option Bool} {dd:Option Addr} {k0 k1 k2 k3 k5:Option Value}
  (lC:K.lookup C=some (excClassObj nm q C N bs (.ref D::tG) true sn sub ab col dd k0 k1 k2 k3 k5 "ValueError.__new__"))
  (UA:findIn K (.ref C) "__init__" = some (some (.ref f))) (fn:typeIn K (.ref f)=some (.type "function")) (kp:keepIn K (.ref C)=true)
  (sa:findIn K (.ref C) "__setattr__" = some (some (.builtin "object.__setattr__"))) (ga:findIn K (.ref C) "__getattribute__" = some (some (.builtin Ai))) (hk:findIn K (.ref C) "__getattr__" = some none)
  (ca:findIn K (.ref C) "__class__" = some (some (.builtin "object.__class__"))):θ K D nm C f:=by
 have hc:clsIn K C=some { name:=nm,bases:=bs,mro:=.ref C :: .ref D::tG,ns:=N,qualname:=q,hasDict:=true,slotNames:=sn,subclasses:=sub,abstract:=ab,collection:=col,hasDel:=false }:=by
  unfold clsIn;rw [lC]
 refine⟨⟨q,N,bs,sn,sub,ab,col,dd,k0,k1,k2,k3,k5,lC⟩,UA,fn,kp,sa,⟨by rw [hc];rfl,ga,hk,mQ hc rfl ?_,mQ hc rfl ?_,ca⟩⟩
 ·show(Value.ref C :: .ref D::tG).contains (.type "BaseException")=true;rw [ō,ō];rfl
 ·show(Value.ref C :: .ref D::tG).contains (.type "object")=true;rw [ō,ō];rfl
structure Dn (K:Frag)(mg:cr)(nm:Str)(st:Stmt)(ps:List Str)(f:Addr)(fd:FuncData):Prop where
 fn:ĵ K nm nm st f fd
 bi:Binds K fd ps []
 kp:keepIn K (.ref f)=true
 mg:mg nm=some (.ref f)
section
variable {P:Program}{w:World}{K:Frag}{mg:cr}{base:Heap}
theorem Dn.df {nm:Str}{st:Stmt}{ps:List Str}{f:Addr}{fd:FuncData}(d:Dn K mg nm st ps f fd){cx:pB}{k:Nat}{sp:Sp}(h:í P w K mg base cx k f fd ps sp):Df P w K mg base cx k nm ps sp f fd:=⟨h,d.bi,d.kp,d.mg⟩
end
def eZ (a b c d e:Addr):Nat->Addr
 | 0=>a
 | 1=>b
 | 2=>c
 | 3=>d
 | _=>e
theorem yg {K:Frag}{p:Addr}{i j:Nat}{od:Option Addr}{t u:Tok}{n:Nat}{sl:Array (Option Value)}(l:K.lookup p=some ⟨.type "tuple",od,.seq #[.int i t,.int j u] n,sl⟩):sZ K p [.int i,.int j] :=
 ⟨_,_,_,l,rfl,rfl,cK,.cons ⟨_,rfl⟩ (.cons ⟨_,rfl⟩ .nil)⟩
structure Cf (K:Frag)(C:Addr):Prop where
 cls:Ql K C
 Ug:makesIn K C=true
 kp:keepIn K (.ref C)=true
 ca:findIn K (.ref C) "__class__" = some (some (.builtin "object.__class__"))
 hm:mroIn K C (.type "object")=some true
 Mv:isClsIn K C=true
 Mr:typeIn K (.ref C)=some (.type "type")
theorem U5 {K:Frag}{C:Addr}(h1:plainGet K C Str.empty=true)(h2:hasDictIn K C=true)(h3:plainOver K C=true)(h4:findIn K (.ref C) "__setattr__" = some (some (.builtin "object.__setattr__"))) (h5:makesIn K C=true) (h6:keepIn K (.ref C)=true) (h7:findIn K (.ref C) "__class__" = some (some (.builtin "object.__class__"))) (h8:mroIn K C (.type "object")=some true) (h9:isClsIn K C=true) (h0:typeIn K (.ref C)=some (.type "type")):Cf K C:=⟨⟨h1,h2,h3,h4⟩,h5,h6,h7,h8,h9,h0⟩
def Qx (K:Frag)(C:Addr):List Str->Prop
 | []=>True
 | f::l=>findIn K (.ref C) f=some none/\Qx K C l
theorem noS {K:Frag}{C:Addr}{f:Str}{l:List Str}(h:findIn K (.ref C) f=some none)(t:Qx K C l):Qx K C (f::l):=⟨h,t⟩
theorem Qx.all {K:Frag}{C:Addr}:∀{l:List Str},Qx K C l->∀ f∈l,ω K C f
 | _::_,h,f,hf=>by
  rcases é.mp hf with rfl | hf
  ·exact h.1
  ·exact h.2.all f hf
def sL (K:Frag)(C:Addr):List (Value × Bool)->Prop
 | []=>True
 | x::l=>mroIn K C x.1=some x.2/\sL K C l
theorem mrS {K:Frag}{C:Addr}{v:Value}{b:Bool}{l:List (Value × Bool)}(h:mroIn K C v=some b)(t:sL K C l):sL K C ((v,b)::l):=⟨h,t⟩
theorem Ď {nm:Str}{st:Stmt}{ps:List Str}(hb:BP nm nm st ps){K:Frag}{h:Heap}{mg:cr}{g:Addr}{oc kV dc pm cd ct:Value}{od an:Option Addr}{sl:Array (Option Value)}(X:K.In h)(G:h.Ns mainGlobals mg)
  (a:nsIn K mainGlobals nm=some (some (.ref g))) (l:K.lookup g=some ⟨oc,od,.func (fnOf nm nm (dD st) (aI st) (aa st) .none kV dc pm an cd ct),sl⟩) (c:codeIn K cd nm=true) (k:keepIn K (.ref g)=true) :
  Dn K mg nm st ps g (fnOf nm nm (dD st) (aI st) (aa st) .none kV dc pm an cd ct):=by
 have F:=A_ (st:=st) l c k;exact⟨F,F.binds hb,k,Mz X G a⟩
theorem ť {nm qn:Str}{st:Stmt}{ps:List Str}(hb:BP nm qn st ps){K:Frag}{g:Addr}{oc kV dc pm cd ct:Value}{od an:Option Addr}{sl:Array (Option Value)}
  (l:K.lookup g=some ⟨oc,od,.func (fnOf nm qn (dD st) (aI st) (aa st) .none kV dc pm an cd ct),sl⟩) (c:codeIn K cd qn=true) (k:keepIn K (.ref g)=true) (f:isFn K (.ref g)=true) :
  Dm K nm qn st ps g (fnOf nm qn (dD st) (aI st) (aa st) .none kV dc pm an cd ct):=by
 have F:=A_ (st:=st) l c k;exact⟨F,F.binds hb,k,f⟩
abbrev E6:List (Value × Bool):=[(.type "tuple",false),(.type "list",false),(.type "int",false),(.type "bool",false)]
theorem all_mk {l:OpenLaw}{w:World}{K:Frag}{h:Heap}{mg:cr}{fa D Z' fE2 Z9 fE3 Z8 fE5 Z7 fE6 g0 g1 g2 g3 g4 g5 g6 g7 g8 g9 g10 g11 g12 g13 g14 g15 g16 g17 g18 g19 g20 g21 g22 g23 g24 g25 g26 g27 g28 g29 g30 g31 g32 g33 g34 g35 g36 g37 g38 g39 g40 g41 g42 g43 m0 m1 m2 m3 m4 m5 m6 m7 m8 m9 WC WB Rp Us Ur VB WA R C0 C1 C2 C3 C4:Addr}{d0 d1 d2 d3 d4 d5 d6 d7 d8 d9 d10 d11 d12 d13 d14 d15 d16 d17 d18 d19 d20 d21 d22 d23 d24 d25 d26 d27 d28 d29 d30 d31 d32 d33 d34 d35 d36 d37 d38 d39 d40 d41 d42 ZV x0 x1 x2 x3 x4 x5 x6 x7 x8 x9 X5 X4 l_ Pq Vk Wg X3 xE2 xE3 xE5 xE6:FuncData}(X:K.In h)(G:h.Ns mainGlobals mg)(hfa:mg "law" = some (.ref fa))
  {N8 NG Ox NF Nh N7 NE:Tok}
  {nA:Addr} {odA:Option Addr} {tA uA:Tok} {nmA:Nat} {slA:Array (Option Value)}
  (B:Η K D) (q2:OQ K mg D "NoShare" "found" Z' fE2 xE2) (q3:OQ K mg D "NoNumber" "found" Z9 fE3 xE3) (q5:OQ K mg D "NoTrials" "found" Z8 fE5 xE5) (q6:OQ K mg D "TooMany" "many" Z7 fE6 xE6)
  (aD:nsIn K mainGlobals "DealError" = some (some (.ref D)))
  (Wt:nsIn K mainGlobals "Rule" = some (some (.ref R)))
  (zaa:specialIn K (.ref R) "__getattribute__" = some (some (.builtin "type.__getattribute__")))
  (zab:readsIn K R (.type "type")=true)
  (zac:findCls K (.ref R) (.type "type") "__init__" = some (.val (.ref m0)))
  (P':isClsIn K R=true)
  (PR:typeIn K (.ref R)=some (.type "type"))
  (PV:mroIn K R (.ref R)=some true)
  (zad:nsIn K mainGlobals "Split" = some (some (.ref C0)))
  (M3:Cf K C0)
  (zaf:Qx K C0 eK)
  (zag:findIn K (.ref C0) "__init__" = some (some (.ref m5)))
  (zah:findIn K (.ref C0) "folk" = some (some (.ref m1)))
  (zai:findIn K (.ref C0) "begin" = some (some (.ref m2)))
  (zaj:findIn K (.ref C0) "told" = some (some (.ref m3)))
  (zak:findIn K (.ref C0) "blocks" = some (some (.ref m4)))
  (V_:findIn K (.ref C0) "steps" = some (some (.ref Rp)))
  (PL:sL K C0 [(.ref C0,true),(.ref C1,false),(.ref C2,false),(.ref C3,false),(.ref C4,false),(.ref R,true)])
  (Va:sL K C0 E6)
  (zao:nsIn K mainGlobals "Pairs" = some (some (.ref C1)))
  (MZ:Cf K C1)
  (zaq:Qx K C1 eK)
  (zar:findIn K (.ref C1) "__init__" = some (some (.ref m6)))
  (zas:findIn K (.ref C1) "folk" = some (some (.ref m1)))
  (zat:findIn K (.ref C1) "begin" = some (some (.ref m2)))
  (zau:findIn K (.ref C1) "told" = some (some (.ref m3)))
  (zav:findIn K (.ref C1) "blocks" = some (some (.ref m4)))
  (V':findIn K (.ref C1) "steps" = some (some (.ref Us)))
  (PK:sL K C1 [(.ref C0,false),(.ref C1,true),(.ref C2,false),(.ref C3,false),(.ref C4,false),(.ref R,true)])
  (U_:sL K C1 E6)
  (zaz:nsIn K mainGlobals "Coins" = some (some (.ref C2)))
  (M4:Cf K C2)
  (zaB:Qx K C2 eK)
  (zaC:findIn K (.ref C2) "__init__" = some (some (.ref m7)))
  (zaD:findIn K (.ref C2) "folk" = some (some (.ref m1)))
  (zaE:findIn K (.ref C2) "begin" = some (some (.ref m2)))
  (zaF:findIn K (.ref C2) "told" = some (some (.ref m3)))
  (zaG:findIn K (.ref C2) "blocks" = some (some (.ref m4)))
  (Wa:findIn K (.ref C2) "steps" = some (some (.ref Ur)))
  (PN:sL K C2 [(.ref C0,false),(.ref C1,false),(.ref C2,true),(.ref C3,false),(.ref C4,false),(.ref R,true)])
  (Vc:sL K C2 E6)
  (zaK:nsIn K mainGlobals "Blocks" = some (some (.ref C3)))
  (MI:Cf K C3)
  (zaM:Qx K C3 eK)
  (zaN:findIn K (.ref C3) "__init__" = some (some (.ref m8)))
  (zaO:findIn K (.ref C3) "folk" = some (some (.ref m1)))
  (zaP:findIn K (.ref C3) "begin" = some (some (.ref m2)))
  (zaQ:findIn K (.ref C3) "told" = some (some (.ref m3)))
  (zaR:findIn K (.ref C3) "blocks" = some (some (.ref m4)))
  (zaS:findIn K (.ref C3) "state_ahead" = some (some (.ref WC)))
  (XW:findIn K (.ref C3) "steps" = some (some (.ref VB)))
  (zaU:findIn K (.ref C3) "state_behind" = some (some (.ref WB)))
  (PM:sL K C3 [(.ref C0,false),(.ref C1,false),(.ref C2,false),(.ref C3,true),(.ref C4,false),(.ref R,true)])
  (Vb:sL K C3 E6)
  (zaX:nsIn K mainGlobals "First" = some (some (.ref C4)))
  (Nv:Cf K C4)
  (zaZ:Qx K C4 eK)
  (za0:findIn K (.ref C4) "__init__" = some (some (.ref m9)))
  (RV:findIn K (.ref C4) "folk" = some (some (.ref m1)))
  (Wb:findIn K (.ref C4) "begin" = some (some (.ref m2)))
  (za3:findIn K (.ref C4) "told" = some (some (.ref m3)))
  (za4:findIn K (.ref C4) "blocks" = some (some (.ref m4)))
  (za5:findIn K (.ref C4) "steps" = some (some (.ref WA)))
  (PP:sL K C4 [(.ref C0,false),(.ref C1,false),(.ref C2,false),(.ref C3,false),(.ref C4,true),(.ref R,true)])
  (Vd:sL K C4 E6)
  (za8:nsIn K mainGlobals "MOST_FOLK" = some (some (.int (20) N8)))
  (za9:nsIn K mainGlobals "MOST_PAIRS" = some (some (.int (10) NG)))
  (zba:nsIn K mainGlobals "MOST_FAR" = some (some (.int (20) Ox)))
  (zbb:nsIn K mainGlobals "MOST_RULES" = some (some (.int (6) NF)))
  (zbc:nsIn K mainGlobals "MOST_BOTTOM" = some (some (.int (100) Nh)))
  (zbd:nsIn K mainGlobals "MOST_TOLD" = some (some (.int (5000) N7)))
  (zbe:nsIn K mainGlobals "MOST_SCORE" = some (some (.int (100000) NE)))
  (gt:specialIn K (.builtin "object.__class__") "__get__" = some (some (.builtin "getset_descriptor.__get__")))
  (X7:takesIn K (.builtin "object.__class__")=some true)
  (zzA:nsIn K mainGlobals "ALL" = some (some (.ref nA)))
  (lA:K.lookup nA=some ⟨.type "tuple",odA,.seq #[.int 1 tA,.int 1 uA] nmA,slA⟩)
  (zbf:nsIn K mainGlobals "isinstance" = some none)
  (zbg:nsIn K mainGlobals "int" = some none)
  (zbh:nsIn K mainGlobals "bool" = some none)
  (zbi:nsIn K mainGlobals "len" = some none)
  (zbj:nsIn K mainGlobals "range" = some none)
  (zbk:nsIn K mainGlobals "tuple" = some none)
  (zbl:nsIn K mainGlobals "list" = some none)
  (zbm:nsIn K mainGlobals "sum" = some none)
  (zbn:nsIn K mainGlobals "all" = some none)
  (zbo:nsIn K mainGlobals "max" = some none)
  (zbp:nsIn K mainGlobals "min" = some none)
  (zbq:nsIn K mainGlobals "abs" = some none)
  (zbr:nsIn K mainGlobals "enumerate" = some none)
  (zbs:nsIn K mainGlobals "zip" = some none)
  (zbt:nsIn K mainGlobals "str" = some none)
  (zbu:nsIn K mainGlobals "dict" = some none)
  (e0:Dn K mg "is_number" qj ["thing"] g0 d0)
  (e1:Dn K mg "is_whole" u7 ["thing","low","high"] g1 d1)
  (e2:Dn K mg "greatest_common" Ay ["one","other"] g2 d2)
  (e3:Dn K mg "is_part" t7 ["top","bottom"] g3 d3)
  (e4:Dn K mg "is_share" BL ["thing"] g4 d4)
  (e5:Dn K mg "need_number" Jb ["thing","low","high"] g5 d5)
  (e6:Dn K mg "need_coin" IJ ["thing"] g6 d6)
  (e7:Dn K mg "one_part" KY ["folk"] g7 d7)
  (e8:Dn K mg "may_be_block" BY ["thing"] g8 d8)
  (e9:Dn K mg "are_block_rules" Jl ["thing"] g9 d9)
  (ZP:Dn K mg "parts_of" Jj ["rules"] g10 d10)
  (ZO:Dn K mg "parts_below" F4 ["parts","many"] g11 d11)
  (ZN:Dn K mg "share_of" JW ["top","bottom"] g12 d12)
  (ZM:Dn K mg "added" DF ["one","top","bottom"] g13 d13)
  (ZL:Dn K mg "minus_share" IZ ["one","other"] g14 d14)
  (ZK:Dn K mg "less_share" D6 ["one","other"] g15 d15)
  (ZJ:Dn K mg "coin_steps" Jz ["coin","zero","one"] g16 d16)
  (ZI:Dn K mg "common_bottom" Jv ["several"] g17 d17)
  (ZH:Dn K mg "need_few" KG ["many"] g18 d18)
  (ZG:Dn K mg "are_scores" KW ["thing","folk"] g19 d19)
  (ZF:Dn K mg "steps_from" Il ["rule","keys","at"] g20 d20)
  (ZE:Dn K mg "next_layer" xh ["rule","at","score","layer"] g21 d21)
  (ZD:Dn K mg "layers_of" rH ["rule","scores"] g22 d22)
  (ZC:Dn K mg "table_of" zZ ["rule","scores"] g23 d23)
  (V4:Dn K mg "_law_pool" on ["_law_script","_law_k"] g24 d24)
  (ZA:Dn K mg "_law_take" wl ["_law_pool_here","_law_m"] g25 d25)
  (V3:Dn K mg "_law_same" Er ["_law_found","_law_due"] g26 d26)
  (Zz:Dn K mg "_law_common" DA ["_law_one","_law_other"] g27 d27)
  (Zy:Dn K mg "_law_coin" Ew ["_law_pool_here"] g28 d28)
  (Zx:Dn K mg "_law_plain" Eu ["_law_pool_here","_law_most"] g29 d29)
  (V2:Dn K mg "_law_folk" Ab ["_law_told"] g30 d30)
  (Zw:Dn K mg "_law_ruled" zT ["_law_pool_here","_law_most"] g31 d31)
  (U4:Dn K mg "_law_rule" xc ["_law_told"] g32 d32)
  (Qw:Dn K mg "_law_begin" By ["_law_told"] g33 d33)
  (Zv:Dn K mg "_law_in_blocks" En ["_law_told","_law_state","_law_at"] g34 d34)
  (SK:Dn K mg "_law_steps" Ev ["_law_told","_law_state","_law_at"] g35 d35)
  (Zu:Dn K mg "_law_layers" Ek ["_law_told"] g36 d36)
  (Zt:Dn K mg "_law_added" JB ["_law_parts"] g37 d37)
  (Zs:Dn K mg "_law_scores" El ["_law_pool_here","_law_folk_here"] g38 d38)
  (Zr:Dn K mg "_law_sum_of" Im ["_law_scores_here","_law_dealing"] g39 d39)
  (Zq:Dn K mg "_law_table" Et ["_law_told","_law_scores_here"] g40 d40)
  (U3:Dn K mg "_law_kinds" FA ["_law_thing"] g41 d41)
  (Zp:Dn K mg "_law_right" Ej ["_law_found","_law_due"] g42 d42)
  (Zo:Dn K mg "law" pS ["_law_script"] g43 ZV)
  (y0:Dm K "__init__" "Rule.__init__" DV ["self","size","first_state","mark","parts"] m0 x0)
  (y1:Dm K "folk" "Rule.folk" Ea ["self"] m1 x1)
  (y2:Dm K "begin" "Rule.begin" Bi ["self"] m2 x2)
  (y3:Dm K "told" "Rule.told" Ec ["self"] m3 x3)
  (y4:Dm K "blocks" "Rule.blocks" C9 ["self"] m4 x4)
  (y5:Dm K "__init__" "Split.__init__" Dj ["self","folk","ones"] m5 x5)
  (y6:Dm K "__init__" "Pairs.__init__" B7 ["self","pairs","coin"] m6 x6)
  (y7:Dm K "__init__" "Coins.__init__" Dc ["self","folk","coin","far"] m7 x7)
  (y8:Dm K "__init__" "Blocks.__init__" BN ["self","rules"] m8 x8)
  (y9:Dm K "__init__" "First.__init__" Cp ["self","rule","many"] m9 x9)
  (Vg:Dm K "state_ahead" "Blocks.state_ahead" KN ["self","number"] WC X5)
  (Vf:Dm K "state_behind" "Blocks.state_behind" KB ["self","number","at","inner"] WB X4)
  (Qp:Dm K "steps" "Split.steps" Cg ["self","state","at"] Rp l_)
  (Qo:Dm K "steps" "Pairs.steps" BK ["self","state","at"] Us Pq)
  (Qn:Dm K "steps" "Coins.steps" A6 ["self","state","at"] Ur Vk)
  (RW:Dm K "steps" "Blocks.steps" Bw ["self","state","at"] VB Wg)
  (Ve:Dm K "steps" "First.steps" JP ["self","state","at"] WA X3)
  (hb:∀(s:Shared)(v:Value),BindsTo s ZV ⟨[v],[]⟩ [("_law_script",v)])
  : ∃ fd:FuncData,(∀(s:Shared)(v:Value),BindsTo s fd ⟨[v],[]⟩ [("_law_script",v)])/\∀ base:Heap,K.In base->base.Ns mainGlobals mg->í l.prog w K mg base aB 13 fa fd ["_law_script"] (qY K):=by
 have e:=hfa.symm.trans Zo.mg;cases e;refine⟨_,hb,λ base _ _=>?_⟩;have Ľ:=Ĭ X G zbf;have Od:=Ĭ X G zbg;have P5:=Ĭ X G zbh;have χ:=Ĭ X G zbi;have Ν:=Ĭ X G zbj;have Μ:=Ĭ X G zbk;have NM:=Ĭ X G zbl;have OU:=Ĭ X G zbm;have P6:=Ĭ X G zbn;have Up:=Ĭ X G zbo;have Rj:=Ĭ X G zbp;have P7:=Ĭ X G zbq;have Oe:=Ĭ X G zbr;have Um:=Ĭ X G zbs;have Uo:=Ĭ X G zbt;have Sk:=Ĭ X G zbu;have T:pA K:=⟨gt,X7⟩;have mD:=Mz X G aD;have o2:=q2 B mD;have o3:=q3 B mD;have o5:=q5 B mD;have o6:=q6 B mD;have υ:=Mz X G za8;have NL:=Mz X G za9;have OC:=Mz X G zba;have NJ:=Mz X G zbb;have Nk:=Mz X G zbc;have Oa:=Mz X G zbd;have NI:=Mz X G zbe;have P8:=Mz X G Wt;have Ζ:jR K R "__init__" m0:=⟨zaa,zab,zac,y0.kp⟩;have Ro:=Mz X G zad;have Ul:Mk K C0 m5:=⟨M3.Ug,zag,y5.Ξ,M3.kp⟩;have Rn:=Mz X G zao;have Uk:Mk K C1 m6:=⟨MZ.Ug,zar,y6.Ξ,MZ.kp⟩;have Rm:=Mz X G zaz;have Uj:Mk K C2 m7:=⟨M4.Ug,zaC,y7.Ξ,M4.kp⟩;have Uq:=Mz X G zaK;have Ui:Mk K C3 m8:=⟨MI.Ug,zaN,y8.Ξ,MI.kp⟩;have Rk:=Mz X G zaX;have Uh:Mk K C4 m9:=⟨Nv.Ug,za0,y9.Ξ,Nv.kp⟩;have XS:=vc (P:=l.prog) (w:=w) (mg:=mg) (base:=base) T e0.fn Ľ Od P5;have GN:=(e0.df XS);have Z3:=yE e1.fn XS e0.bi e0.kp e0.mg;have GW:=(e1.df Z3);have Z5:=B8 (P:=l.prog) (w:=w) (mg:=mg) (base:=base) e2.fn;have GG:=(e2.df Z5);have Z4:=e3.df (yI e3.fn XS e0.bi e0.kp e0.mg Z3 e1.bi e1.kp e1.mg);have GSh:=e4.df (Bz T e4.fn Z4 GG Ľ Μ χ);have GM:=e5.df (E3 e5.fn B o3 GW);have GC:=e6.df (HG e6.fn B o2 GW GSh Nk);have GP:=e7.df (GT (P:=l.prog) (w:=w) (mg:=mg) (base:=base) e7.fn Μ Ν);have Z:KR K (eZ C0 C1 C2 C3 C4) R:={
  cls:=λ i hi=>match i,hi with
   | 0,_=>M3.cls
   | 1,_=>MZ.cls
   | 2,_=>M4.cls
   | 3,_=>MI.cls
   | 4,_=>Nv.cls
  no:=λ i hi=>match i,hi with
   | 0,_=>zaf.all
   | 1,_=>zaq.all
   | 2,_=>zaB.all
   | 3,_=>zaM.all
   | 4,_=>zaZ.all
  ha:=λ i hi=>match i,hi with
   | 0,_=>M3.ca
   | 1,_=>MZ.ca
   | 2,_=>M4.ca
   | 3,_=>MI.ca
   | 4,_=>Nv.ca
  hn:=gt
  OX:=X7
  hm:=λ i hi=>match i,hi with
   | 0,_=>M3.hm
   | 1,_=>MZ.hm
   | 2,_=>M4.hm
   | 3,_=>MI.hm
   | 4,_=>Nv.hm
  kk:=λ i j hi hj=>match i,j,hi,hj with
   | 0,0,_,_=>aS M3.Mv M3.Mr PL.1 PL.1
   | 0,1,_,_=>aS MZ.Mv MZ.Mr PK.2.1 PL.2.1
   | 0,2,_,_=>aS M4.Mv M4.Mr PN.2.2.1 PL.2.2.1
   | 0,3,_,_=>aS MI.Mv MI.Mr PM.2.2.2.1 PL.2.2.2.1
   | 0,4,_,_=>aS Nv.Mv Nv.Mr PP.2.2.2.2.1 PL.2.2.2.2.1
   | 1,0,_,_=>aS M3.Mv M3.Mr PL.1 PK.1
   | 1,1,_,_=>aS MZ.Mv MZ.Mr PK.2.1 PK.2.1
   | 1,2,_,_=>aS M4.Mv M4.Mr PN.2.2.1 PK.2.2.1
   | 1,3,_,_=>aS MI.Mv MI.Mr PM.2.2.2.1 PK.2.2.2.1
   | 1,4,_,_=>aS Nv.Mv Nv.Mr PP.2.2.2.2.1 PK.2.2.2.2.1
   | 2,0,_,_=>aS M3.Mv M3.Mr PL.1 PN.1
   | 2,1,_,_=>aS MZ.Mv MZ.Mr PK.2.1 PN.2.1
   | 2,2,_,_=>aS M4.Mv M4.Mr PN.2.2.1 PN.2.2.1
   | 2,3,_,_=>aS MI.Mv MI.Mr PM.2.2.2.1 PN.2.2.2.1
   | 2,4,_,_=>aS Nv.Mv Nv.Mr PP.2.2.2.2.1 PN.2.2.2.2.1
   | 3,0,_,_=>aS M3.Mv M3.Mr PL.1 PM.1
   | 3,1,_,_=>aS MZ.Mv MZ.Mr PK.2.1 PM.2.1
   | 3,2,_,_=>aS M4.Mv M4.Mr PN.2.2.1 PM.2.2.1
   | 3,3,_,_=>aS MI.Mv MI.Mr PM.2.2.2.1 PM.2.2.2.1
   | 3,4,_,_=>aS Nv.Mv Nv.Mr PP.2.2.2.2.1 PM.2.2.2.2.1
   | 4,0,_,_=>aS M3.Mv M3.Mr PL.1 PP.1
   | 4,1,_,_=>aS MZ.Mv MZ.Mr PK.2.1 PP.2.1
   | 4,2,_,_=>aS M4.Mv M4.Mr PN.2.2.1 PP.2.2.1
   | 4,3,_,_=>aS MI.Mv MI.Mr PM.2.2.2.1 PP.2.2.2.1
   | 4,4,_,_=>aS Nv.Mv Nv.Mr PP.2.2.2.2.1 PP.2.2.2.2.1
  kR:=λ i hi=>match i,hi with
   | 0,_=>aS P' PR PV PL.2.2.2.2.2.1
   | 1,_=>aS P' PR PV PK.2.2.2.2.2.1
   | 2,_=>aS P' PR PV PN.2.2.2.2.2.1
   | 3,_=>aS P' PR PV PM.2.2.2.2.2.1
   | 4,_=>aS P' PR PV PP.2.2.2.2.2.1
  kl:=λ i hi=>match i,hi with
   | 0,_=>bB aC Va.2.1
   | 1,_=>bB aC U_.2.1
   | 2,_=>bB aC Vc.2.1
   | 3,_=>bB aC Vb.2.1
   | 4,_=>bB aC Vd.2.1
  kt:=λ i hi=>match i,hi with
   | 0,_=>bB aC Va.1
   | 1,_=>bB aC U_.1
   | 2,_=>bB aC Vc.1
   | 3,_=>bB aC Vb.1
   | 4,_=>bB aC Vd.1
  ki:=λ i hi=>match i,hi with
   | 0,_=>bB aC Va.2.2.1
   | 1,_=>bB aC U_.2.2.1
   | 2,_=>bB aC Vc.2.2.1
   | 3,_=>bB aC Vb.2.2.1
   | 4,_=>bB aC Vd.2.2.1
  kb:=λ i hi=>match i,hi with
   | 0,_=>bB aC Va.2.2.2.1
   | 1,_=>bB aC U_.2.2.2.1
   | 2,_=>bB aC Vc.2.2.2.1
   | 3,_=>bB aC Vb.2.2.2.1
   | 4,_=>bB aC Vd.2.2.2.1
 }
 have I0:=Br (P:=l.prog) (w:=w) (mg:=mg) (base:=base) Z y0.fn;have I1:=BC (P:=l.prog) (w:=w) (mg:=mg) (base:=base) Z y1.fn;have I2:=DM (P:=l.prog) (w:=w) (mg:=mg) (base:=base) Z y2.fn;have I3:=A9 (P:=l.prog) (w:=w) (mg:=mg) (base:=base) Z y3.fn;have I4:=DZ (P:=l.prog) (w:=w) (mg:=mg) (base:=base) Z y4.fn NM;have SR:cG l.prog w K mg base aB 1 "folk" ["self"] (nI (eZ C0 C1 C2 C3 C4)) (λ _=>jx (eZ C0 C1 C2 C3 C4)):=by
  rintro c ⟨i,hi,rfl⟩
  match i,hi with
  | 0,_=>exact⟨M3.cls,m1,x1,⟨zah,y1.Ξ,y1.kp⟩,I1,y1.bi⟩
  | 1,_=>exact⟨MZ.cls,m1,x1,⟨zas,y1.Ξ,y1.kp⟩,I1,y1.bi⟩
  | 2,_=>exact⟨M4.cls,m1,x1,⟨zaD,y1.Ξ,y1.kp⟩,I1,y1.bi⟩
  | 3,_=>exact⟨MI.cls,m1,x1,⟨zaO,y1.Ξ,y1.kp⟩,I1,y1.bi⟩
  | 4,_=>exact⟨Nv.cls,m1,x1,⟨RV,y1.Ξ,y1.kp⟩,I1,y1.bi⟩
 have QY:cG l.prog w K mg base aB 1 "begin" ["self"] (nI (eZ C0 C1 C2 C3 C4)) (λ _=>ir (eZ C0 C1 C2 C3 C4)):=by
  rintro c ⟨i,hi,rfl⟩
  match i,hi with
  | 0,_=>exact⟨M3.cls,m2,x2,⟨zai,y2.Ξ,y2.kp⟩,I2,y2.bi⟩
  | 1,_=>exact⟨MZ.cls,m2,x2,⟨zat,y2.Ξ,y2.kp⟩,I2,y2.bi⟩
  | 2,_=>exact⟨M4.cls,m2,x2,⟨zaE,y2.Ξ,y2.kp⟩,I2,y2.bi⟩
  | 3,_=>exact⟨MI.cls,m2,x2,⟨zaP,y2.Ξ,y2.kp⟩,I2,y2.bi⟩
  | 4,_=>exact⟨Nv.cls,m2,x2,⟨Wb,y2.Ξ,y2.kp⟩,I2,y2.bi⟩
 have SQ:cG l.prog w K mg base aB 1 "told" ["self"] (nI (eZ C0 C1 C2 C3 C4)) (λ _=>jH (eZ C0 C1 C2 C3 C4)):=by
  rintro c ⟨i,hi,rfl⟩
  match i,hi with
  | 0,_=>exact⟨M3.cls,m3,x3,⟨zaj,y3.Ξ,y3.kp⟩,I3,y3.bi⟩
  | 1,_=>exact⟨MZ.cls,m3,x3,⟨zau,y3.Ξ,y3.kp⟩,I3,y3.bi⟩
  | 2,_=>exact⟨M4.cls,m3,x3,⟨zaF,y3.Ξ,y3.kp⟩,I3,y3.bi⟩
  | 3,_=>exact⟨MI.cls,m3,x3,⟨zaQ,y3.Ξ,y3.kp⟩,I3,y3.bi⟩
  | 4,_=>exact⟨Nv.cls,m3,x3,⟨za3,y3.Ξ,y3.kp⟩,I3,y3.bi⟩
 have Qj:cG l.prog w K mg base aB 1 "blocks" ["self"] (nI (eZ C0 C1 C2 C3 C4)) (λ _=>vH (eZ C0 C1 C2 C3 C4)):=by
  rintro c ⟨i,hi,rfl⟩
  match i,hi with
  | 0,_=>exact⟨M3.cls,m4,x4,⟨zak,y4.Ξ,y4.kp⟩,I4,y4.bi⟩
  | 1,_=>exact⟨MZ.cls,m4,x4,⟨zav,y4.Ξ,y4.kp⟩,I4,y4.bi⟩
  | 2,_=>exact⟨M4.cls,m4,x4,⟨zaG,y4.Ξ,y4.kp⟩,I4,y4.bi⟩
  | 3,_=>exact⟨MI.cls,m4,x4,⟨zaR,y4.Ξ,y4.kp⟩,I4,y4.bi⟩
  | 4,_=>exact⟨Nv.cls,m4,x4,⟨za4,y4.Ξ,y4.kp⟩,I4,y4.bi⟩
 have Mm:Ms l.prog w K mg base (eZ C0 C1 C2 C3 C4):=⟨SR,QY,SQ,Qj⟩;have I10:=GH Z Vg.fn Mm χ;have MA:cG l.prog w K mg base aB 2 "state_ahead" ["self","number"] (λ c=>c=(eZ C0 C1 C2 C3 C4) 3) (λ _=>ye (eZ C0 C1 C2 C3 C4)):=by
  rintro c rfl;exact⟨MI.cls,WC,X5,⟨zaS,Vg.Ξ,Vg.kp⟩,I10,Vg.bi⟩
 have GMB:=e8.df (D7 (P:=l.prog) (w:=w) (mg:=mg) (base:=base) (K:=K) (C:=eZ C0 C1 C2 C3 C4) e8.fn Ro Rn Rm Ľ);have GAB:=e9.df (HD T e9.fn GMB GW NJ Ľ NM χ P6);have GPO:=ZP.df (HJ ZP.fn Mm Μ Ν);have GPB:=ZO.df (EY (P:=l.prog) (w:=w) (mg:=mg) (base:=base) ZO.fn Μ χ);have I5:=AS y5.fn Ζ I0 y0.bi P8 GM GP υ;have I6:=C7 Z y6.fn Ζ I0 y0.bi P8 GM GP GC NL;have I7:=Cj Z y7.fn Ζ I0 y0.bi P8 GM GP GC υ OC;have I8:=Dx Z y8.fn Mm MA B o5 o6 Ζ I0 y0.bi P8 GAB GPO υ OU Μ;have I9:=DS T Z y9.fn Mm Ζ I0 y0.bi P8 GM GPB Rk Ľ;have Lk:GV l.prog w K mg base (eZ C0 C1 C2 C3 C4) Z9 Z' Z8 Z7 m5 m6 m7 m8 m9 x5 x6 x7 x8 x9:=⟨Ul,Uk,Uj,Ui,Uh,I5,I6,I7,I8,I9,y5.bi,y6.bi,y7.bi,y8.bi,y9.bi,Ro,Rn,Rm,Uq,Rk⟩;have TA:sZ K nA [.int (1:Nat),.int (1:Nat)]:=yg lA;have mA:mg "ALL" = some (.ref nA):=Mz X G zzA;have Sa:=ZM.df (DR ZM.fn Z5 e2.bi e2.kp e2.mg);have Sl:=ZK.df (AM (P:=l.prog) (w:=w) (mg:=mg) (base:=base) (K:=K) ZK.fn);have So:=ZN.df (FX ZN.fn Z4 GG);have Sm:=ZL.df (Fp ZL.fn Sl Sa);have Sc:=ZJ.df (Hn ZJ.fn Sm mA TA);have I11:=Gh Z Vf.fn MA;have MB:cG l.prog w K mg base aB 3 "state_behind" ["self","number","at","inner"] (λ c=>c=(eZ C0 C1 C2 C3 C4) 3) (λ _=>uB (eZ C0 C1 C2 C3 C4)):=by
  rintro c rfl;exact⟨MI.cls,WB,X4,⟨zaU,Vf.Ξ,Vf.kp⟩,I11,Vf.bi⟩
 have XQ:=qz Z ax (CB Z Qp.fn So);have XO:=qz Z ax (BF Z Qo.fn Sc mA TA);have XN:=qz Z ax (Cq Z Qn.fn Sc mA TA);have M0:cG l.prog w K mg base aB 5 "steps" ["self","state","at"] (λ c=>∃ i,i<3/\c=(eZ C0 C1 C2 C3 C4) i) (gf K (eZ C0 C1 C2 C3 C4)):=by
  rintro c ⟨i,hi,rfl⟩
  match i,hi with
  | 0,_=>exact⟨M3.cls,Rp,l_,⟨V_,Qp.Ξ,Qp.kp⟩,XQ,Qp.bi⟩
  | 1,_=>exact⟨MZ.cls,Us,Pq,⟨V',Qo.Ξ,Qo.kp⟩,XO,Qo.bi⟩
  | 2,_=>exact⟨M4.cls,Ur,Vk,⟨Wa,Qn.Ξ,Qn.kp⟩,XN,Qn.bi⟩
 have Z2:=Fn Z RW.fn M0 MB;have M1:cG l.prog w K mg base aB 6 "steps" ["self","state","at"] (λ c=>∃ i,i<4/\c=(eZ C0 C1 C2 C3 C4) i) (gf K (eZ C0 C1 C2 C3 C4)):=by
  rintro c ⟨i,hi,rfl⟩
  match i,hi with
  | 0,_=>exact⟨M3.cls,Rp,l_,⟨V_,Qp.Ξ,Qp.kp⟩,XQ.mono ax,Qp.bi⟩
  | 1,_=>exact⟨MZ.cls,Us,Pq,⟨V',Qo.Ξ,Qo.kp⟩,XO.mono ax,Qo.bi⟩
  | 2,_=>exact⟨M4.cls,Ur,Vk,⟨Wa,Qn.Ξ,Qn.kp⟩,XN.mono ax,Qn.bi⟩
  | 3,_=>exact⟨MI.cls,VB,Wg,⟨XW,RW.Ξ,RW.kp⟩,Z2,RW.bi⟩
 have I16:=Fa Z Ve.fn M1;have M2:cG l.prog w K mg base aB 7 "steps" ["self","state","at"] (nI (eZ C0 C1 C2 C3 C4)) (gf K (eZ C0 C1 C2 C3 C4)):=by
  rintro c ⟨i,hi,rfl⟩
  match i,hi with
  | 0,_=>exact⟨M3.cls,Rp,l_,⟨V_,Qp.Ξ,Qp.kp⟩,XQ.mono ax,Qp.bi⟩
  | 1,_=>exact⟨MZ.cls,Us,Pq,⟨V',Qo.Ξ,Qo.kp⟩,XO.mono ax,Qo.bi⟩
  | 2,_=>exact⟨M4.cls,Ur,Vk,⟨Wa,Qn.Ξ,Qn.kp⟩,XN.mono ax,Qn.bi⟩
  | 3,_=>exact⟨MI.cls,VB,Wg,⟨XW,RW.Ξ,RW.kp⟩,Z2.mono ax,RW.bi⟩
  | 4,_=>exact⟨Nv.cls,WA,X3,⟨za5,Ve.Ξ,Ve.kp⟩,I16,Ve.bi⟩
 have Tc:=ZI.df (FV ZI.fn GG);have Tn:=ZH.df (FF (P:=l.prog) (w:=w) (mg:=mg) (base:=base) ZH.fn Oa);have Ta:=ZG.df (Ig T ZG.fn GW NI Ľ NM χ P6);have Ts:=ZF.df (EO M2 ZF.fn);have Tl:=ZE.df (Gi ZE.fn Ts Tc Tn χ);have To:=ZD.df (HR Mm ZD.fn Ta Tl Oe);have Tt:=ZC.df (Gp ZC.fn To So);have Kp:=V4.df (yK (P:=l.prog) (w:=w) (mg:=mg) (base:=base) V4.fn χ P7);have Kt:=ZA.df (yb (P:=l.prog) (w:=w) (mg:=mg) (base:=base) ZA.fn);have Km:=Zz.df (AY (P:=l.prog) (w:=w) (mg:=mg) (base:=base) Zz.fn);have Kc:=Zy.df (EZ Zy.fn Kt Km);have Kn:=Zx.df (FR Zx.fn Kt Kc);have Z0:=V2.df (C8 (P:=l.prog) (w:=w) (mg:=mg) (base:=base) (K:=K) V2.fn);have Kf:=V2.df (Fo V2.fn Z0 OU);have Kr:=Zw.df (EK Zw.fn Kt Kn Kf Rj Ν Μ Od);have Kd:=U4.df (zz U4.fn Lk U4.bi U4.kp U4.mg 2);have Kb0:=Qw.df (qH (P:=l.prog) (w:=w) (mg:=mg) (base:=base) Qw.fn Qw.bi Qw.kp Qw.mg 0);have Kb:=Qw.df (qH (P:=l.prog) (w:=w) (mg:=mg) (base:=base) Qw.fn Qw.bi Qw.kp Qw.mg 2);have Ks0:=SK.df (wP (P:=l.prog) (w:=w) (mg:=mg) (base:=base) SK.fn P7 Od);have Kbl:=Zv.df (GU Zv.fn Ks0 Z0 Kb0 OU χ);have Ks:=SK.df (zy SK.fn SK.bi SK.kp SK.mg P7 Od Kbl 2);have Ky:=Zu.df (F3 Zu.fn Kb Kf Ks Ν);have Ka:=Zt.df (GK Zt.fn Km);have Kz:=Zs.df (B6 Zs.fn Kt Ν);have Ku:=Zr.df (E1 (P:=l.prog) (w:=w) (mg:=mg) (base:=base) Zr.fn Ν OU χ);have Kg:=Zq.df (Ii Zq.fn Ky Ku Ka χ);have Bs:jW mg:=⟨Ľ,NM,Μ,Od,P5,Uo,χ,P6,Um⟩;have Kq0:=V3.df (uQ (P:=l.prog) (w:=w) (mg:=mg) (base:=base) V3.fn T Bs);have Kq:=V3.df (yR V3.fn T Bs Kq0);have Kk:=U3.df (zO (P:=l.prog) (w:=w) (mg:=mg) (base:=base) U3.fn T Bs U3.bi U3.kp U3.mg 2);have Ki:=Zp.df (G4 Zp.fn T Bs Sk Kk Kq);exact Bu Zo.fn ⟨Kp,Kr,Kd,Kz,Kf,Kg,Tt,Ki,Bs,Up,Rj,Ν⟩
theorem walk {l:OpenLaw}{q:Program}{loose:List Str}{XP:(Str->Option Value)->Heap->Prop}{YP:World->Heap->Prop}{d:DefRec}{K:Params->Frag}(hn:l.most=some 63)(UV:d.params.defaults=[])
  (hY:∀(w:World)(h:Heap),YP w h->(K w.params).In h)
  (F:∀(w:World)(mg:cr)(fa:Addr)(h:Heap),(K w.params).In h->h.Ns mainGlobals mg->mg d.name=some (.ref fa) ->
   ∃ fd:FuncData,(∀(s:Shared)(u:Value),BindsTo s fd ⟨[u],[]⟩ [("_law_script",u)])/\∀ base:Heap,(K w.params).In base->base.Ns mainGlobals mg->í l.prog w (K w.params) mg base aB 13 fa fd ["_law_script"] (qY (K w.params))) :
  WalkO q loose XP YP l.row.toRowW d [] (λ f vs=>PySem.call f vs) :=
 L2.PQ (n:=63) (k:=13) (x:="_law_script") (CX:=λ _=>aB) (sp:=λ w=>qY (K w.params)) hn ax UV ⟨rfl,ax,ax,rfl⟩ hY F (λ _ _ a ns hl _ hS hz=>⟨a,ns,rfl,hS,hl,hz,λ _=>rfl⟩) λ _ _ _ _ _ z=>z
end My
open PySem PySem.W PyProof.Rows
namespace PySem.W.Fast
def tw15211269444147763221:=()
def tw9458584802563864915:=()
def tw10477171064803191575:=()
def tw4727228573656798192:=()
def tw16406887792175909162:=()
def tw2684904342233365678:=()
def tw18343992293844825218:=()
def tw143100787265247359:=()
def tw7690823789949939846:=()
def tw4130948584182248652:=()
def tw1075062748679767587:=()
def tw18044690678053221159:=()
def tw9119553335807203366:=()
def tw15082338408696253176:=()
def tw13910353263025212769:=()
def tw8481694040128532035:=()
def tw15811468037490182253:=()
def tw3024428640877318178:=()
def tw9443112584986621919:=()
def tw5681348756809974296:=()
def tw13985370323244226860:=()
def tw17011816472842735777:=()
def tw14713392144477640515:=()
def tw12835386750771774778:=()
def tw18274449189099710957:=()
def tw14061193542433445186:=()
def tw7769471965621504300:=()
def tw10551580815972575229:=()
def tw15820558554422990496:=()
def tw14235585737202607395:=()
def tw12956682215625594316:=()
def tw8796566066199296383:=()
def tw11318288818094412967:=()
def tw9993966238194502634:=()
def tw4057828818080408883:=()
def tw9166880017774922707:=()
def tw17015739136468806439:=()
def tw12649294764197539249:=()
def tw1624686238021732596:=()
def tw8956485829393358305:=()
def tw9788061528389728070:=()
def tw7719399659934777528:=()
def tw11926470051356059666:=()
def tw4452061884628442678:=()
def tw7980848487463995291:=()
def tw14647143946780745112:=()
def tw14982082047955647794:=()
def tw16641625454046912171:=()
def tw4418284888826706092:=()
def tw18132242283995140430:=()
def tw4527295041195096985:=()
def tw9926059264998526451:=()
def tw12310103825645081156:=()
def tw14559263068247935800:=()
def tw2988977051633651651:=()
def tw8125614551346882838:=()
def tw3374023058908643881:=()
def tw3422649797895219006:=()
def tw6629455785877658053:=()
def tw11497721200041075863:=()
def tw7397183431850478012:=()
def tw10777098463453413219:=()
def tw14568892485598910214:=()
def tw1511839885214393861:=()
def tw15445854800801265549:=()
def tw5775310831223340960:=()
def tw10172888245308605031:=()
def tw13414220784008927687:=()
def tw6866854293099414923:=()
def tw2645128437325623566:=()
def tw3409305177497228212:=()
def tw13519359174817863245:=()
def tw7466979986968427830:=()
def tw12375505528322556745:=()
def tw17664483060103362694:=()
def tw3001371214802073345:=()
def tw10880314219115965738:=()
def tw3439927969266689645:=()
def tw2452757142759504565:=()
def tw16758088740155217392:=()
def tw9133443083036280506:=()
def tw13876583706514583781:=()
def tw14872194574296872492:=()
def tw4761565643641987280:=()
def tw11638242731549868069:=()
def tw10547356469638076755:=()
def tw18284703574689366991:=()
def tw7974379640529735884:=()
def tw797928278428807006:=()
def tw3172053999682298577:=()
def tw2391129648695771450:=()
def tw13035999255087993408:=()
def tw15052033349618722633:=()
def tw11088044865871904685:=()
def tw16915272863947657572:=()
def tw15904889953916512049:=()
def tw67555684203522368:=()
def tw12775179355118278657:=()
def tw2850613715960105886:=()
def tw12642781006302979008:=()
def tw14880997803636462271:=()
def tw10981071970098770921:=()
def tw15725241825251792835:=()
def tw9902577622572754317:=()
def tw1807732419413623528:=()
def tw13660948472356496692:=()
def tw7544437559918701134:=()
def tw1011097279110694265:=()
def tw13632360383505363809:=()
def tw4538732299917727454:=()
def tw12991942480265223293:=()
def tw15248447650674286574:=()
def tw11654506599333401984:=()
def tw15056107332164421259:=()
def tw11325269049482473840:=()
def tw12719698824848369215:=()
def tw3468537109058027984:=()
def tw4876614660635542777:=()
def tw1484753356988858000:=()
def tw9106227959896062313:=()
def tw13979736213889119776:=()
def tw1578147603721594832:=()
def tw14137151422984904867:=()
def tw6429327487803796893:=()
def tw5058071586704519123:=()
def tw10055273267102016798:=()
def tw6013209475911108426:=()
def tw9692372850314878912:=()
def tw12665468373369442047:=()
def tw5572689905871926421:=()
def tw4780943108719680975:=()
def tw10682193885091161002:=()
def tw17677918476832717390:=()
def tw3458666541483162882:=()
def tw10877204368381209365:=()
def tw4436513531280551335:=()
def tw14375766699073088203:=()
def tw6221408558018676922:=()
def tw17175251416219423107:=()
def tw11784537149606130356:=()
def tw3582841923904281755:=()
def tw11719599519974923463:=()
def tw13719775054635640274:=()
def tw2979927209945773130:=()
def tw8073939206444951539:=()
def tw6969272764629848510:=()
def tw6269353792391356086:=()
def tw7758437686876432444:=()
def tw17115584903500929511:=()
def tw11307078413078327594:=()
def tw12437070725325030242:=()
def tw29376096010149674:=()
def tw9614715642236707329:=()
def tw6881668267970747219:=()
def tw12764717892638038400:=()
def tw6707653677234665502:=()
def tw11152195671501992211:=()
def tw9763212573796650048:=()
def tw13743772086176336407:=()
def tw10845998904468694831:=()
def tw17918209258169109394:=()
def tw12902603379733243622:=()
def tw8241072717603289475:=()
def tw14755856219807122120:=()
def tw17721471768871016815:=()
def tw16652720299497882092:=()
def tw17229603929174676042:=()
def tw4315354412622830917:=()
def tw10150343850249055382:=()
def tw5711091240266333651:=()
def tw10424087766223777999:=()
def tw8560394283671128302:=()
def tw3752176467716892094:=()
def tw9800062337868946948:=()
def tw8312623841260756854:=()
def tw3872631079544606103:=()
def tw9673499107567832901:=()
def tw4277575207568450004:=()
def tw6321717657481021272:=()
def tw2922575704957695623:=()
def tw2265152319540121580:=()
def tw18245201657841824823:=()
def tw460305644530269391:=()
def tw9814256778272653942:=()
def tw18086540571048597879:=()
def tw7026994823209093005:=()
def tw14116597461274544402:=()
def tw8702026352078471423:=()
def tw10472982701583156783:=()
def tw15844740019673170351:=()
def tw13952894181308808219:=()
def tw2087157660675728728:=()
def tw9600758506345472067:=()
def tw11121504906193290983:=()
def tw8175927041262135744:=()
def tw2207404187771364113:=()
def tw17084450843617769333:=()
def tw4263230022572505766:=()
def tw5703552463557063592:=()
def tw398172030199195263:=()
def tw12886318604520639548:=()
def tw13509953221664283044:=()
def tw7198529897799738848:=()
def tw6191935930323476048:=()
def tw13306843406400257985:=()
def tw16073256933269015745:=()
def tw15633466138755547895:=()
def tw14109182770221215028:=()
def tw2049593743838077502:=()
def tw14446460271260944415:=()
def tw18043664772553396620:=()
def tw10497537488191268790:=()
def tw17909505062793543313:=()
def tw6986950164901587679:=()
def tw9536037802562228131:=()
def tw16148565839395210423:=()
def tw2574677633438748542:=()
def tw15328327463467319179:=()
def tw14348281667486311184:=()
def tw16034978184304181064:=()
def tw12221682454080591365:=()
def tw8286548653443365134:=()
def tw8964232025141241024:=()
def tw6258872697536983552:=()
def tw9760659579217368614:=()
def tw11525963305915021411:=()
def tw11894300406811575372:=()
def tw11941148442314592446:=()
def tw4155912115013959016:=()
def tw7938736251304014531:=()
def tw6535432053778824117:=()
def tw1030921151417797712:=()
def tw10747808408282650730:=()
def tw13682199719010591037:=()
def tw12365952772803423171:=()
def tw6130489669997145689:=()
def tw16292879085090475168:=()
def tw4466577985985606175:=()
def tw6016389790361424552:=()
def tw6630987529327992499:=()
def tw11944503062379602986:=()
def tw17197524850626946993:=()
def tw7857074505264666965:=()
def tw10114373751929355457:=()
def tw13771774999474675347:=()
def tw18446061290151796158:=()
def tw15157588403514051185:=()
def tw15411274052063230017:=()
def tw15590461895192302890:=()
def tw863093137964339996:=()
def tw7892845982916312399:=()
def tw14109335111868899502:=()
def tw3785500777369953544:=()
def tw17680466531632737970:=()
def tw2252303159844063310:=()
def tw14751684394999186448:=()
def tw8929883553375939476:=()
def tw17281020651039612035:=()
def tw817148085939740891:=()
def tw3873318975446571251:=()
end PySem.W.Fast
set_option maxRecDepth 100000 in
set_option maxHeartbeats 0 in
theorem PySem.Challenge.cw_trialdeal_k22_tables_by_layers_holds : PySem.Challenge.rw_trialdeal_k22_tables_by_layers.Holds := by
 w_on;o_law;k_head;(case hw=>w_witness2)
 k_fill
 refine My.walk (l:=PySem.Challenge.rw_trialdeal_k22_tables_by_layers) rfl rfl (λ w h Y=>PySem.W.kIn_of Y) ?F
 case F =>
  intro w mg fa h KX G UL;refine' My.all_mk KX G UL (My.QX ?jaa ?jab ?jac ?jad ?jae ?jaf ?jag ?jah ?jai ?jaj ?jak ?jal) (My.of2 (My.NS "NoShare" ?jam ?jan ?jao ?jap ?jaq ?jar ?jas ?jat) (mg_of KX G ?jau) (L2.A_ ?jav ?jaw ?jax) ?jay) (My.of3 (My.NS "NoNumber" ?jaz ?jaA ?jaB ?jaC ?jaD ?jaE ?jaF ?jaG) (mg_of KX G ?jaH) (L2.A_ ?jaI ?jaJ ?jaK) ?jaL) (My.of5 (My.NS "NoTrials" ?jaM ?jaN ?jaO ?jaP ?jaQ ?jaR ?jaS ?jaT) (mg_of KX G ?jaU) (L2.A_ ?jaV ?jaW ?jaX) ?jaY) (My.of6 (My.NS "TooMany" ?jaZ ?ja0 ?ja1 ?ja2 ?ja3 ?ja4 ?ja5 ?ja6) (mg_of KX G ?ja7) (L2.A_ ?ja8 ?ja9 ?jba) ?jbb)
   ?jbc ?jbd ?jbe ?jbf ?jbg ?jbh ?jbi ?jbj ?jbk ?jbl ?jbm ?jbn ?jbo ?jbp ?jbq ?jbr ?jbs ?jbt ?jbu ?jbv ?jbw ?jbx ?jby ?jbz ?jbA ?jbB ?jbC ?jbD ?jbE ?jbF ?jbG ?jbH ?jbI ?jbJ ?jbK ?jbL ?jbM ?jbN ?jbO ?jbP ?jbQ ?jbR ?jbS ?jbT ?jbU ?jbV ?jbW ?jbX ?jbY ?jbZ ?jb0 ?jb1 ?jb2 ?jb3 ?jb4 ?jb5 ?jb6 ?jb7 ?jb8 ?jb9 ?jca ?jcb ?jcc ?jcd ?jce ?jcf ?jcg ?jch ?jci ?jcj ?jck ?jcl ?jcm ?jcn ?jco ?jcp ?jcq ?jcr ?jcs ?jct ?jcu ?jcv ?jcw ?jcx ?jcy ?jcz ?jcA ?jcB ?jcC ?jcD ?jcE ?jcF (My.Ď My.b1 KX G ?jcG ?jcH ?jcI ?jcJ) (My.Ď My.b3 KX G ?jcK ?jcL ?jcM ?jcN) (My.Ď My.b2 KX G ?jcO ?jcP ?jcQ ?jcR) (My.Ď My.b2 KX G ?jcS ?jcT ?jcU ?jcV) (My.Ď My.b1 KX G ?jcW ?jcX ?jcY ?jcZ) (My.Ď My.b3 KX G ?jc0 ?jc1 ?jc2 ?jc3) (My.Ď My.b1 KX G ?jc4 ?jc5 ?jc6 ?jc7) (My.Ď My.b1 KX G ?jc8 ?jc9 ?jda ?jdb) (My.Ď My.b1 KX G ?jdc ?jdd ?jde ?jdf) (My.Ď My.b1 KX G ?jdg ?jdh ?jdi ?jdj) (My.Ď My.b1 KX G ?jdk ?jdl ?jdm ?jdn) (My.Ď My.b2 KX G ?jdo ?jdp ?jdq ?jdr) (My.Ď My.b2 KX G ?jds ?jdt ?jdu ?jdv) (My.Ď My.b3 KX G ?jdw ?jdx ?jdy ?jdz) (My.Ď My.b2 KX G ?jdA ?jdB ?jdC ?jdD) (My.Ď My.b2 KX G ?jdE ?jdF ?jdG ?jdH) (My.Ď My.b3 KX G ?jdI ?jdJ ?jdK ?jdL) (My.Ď My.b1 KX G ?jdM ?jdN ?jdO ?jdP) (My.Ď My.b1 KX G ?jdQ ?jdR ?jdS ?jdT) (My.Ď My.b2 KX G ?jdU ?jdV ?jdW ?jdX) (My.Ď My.b3 KX G ?jdY ?jdZ ?jd0 ?jd1) (My.Ď My.b4 KX G ?jd2 ?jd3 ?jd4 ?jd5) (My.Ď My.b2 KX G ?jd6 ?jd7 ?jd8 ?jd9) (My.Ď My.b2 KX G ?jea ?jeb ?jec ?jed) (My.Ď My.b2 KX G ?jee ?jef ?jeg ?jeh) (My.Ď My.b2 KX G ?jei ?jej ?jek ?jel) (My.Ď My.b2 KX G ?jem ?jen ?jeo ?jep) (My.Ď My.b2 KX G ?jeq ?jer ?jes ?jet) (My.Ď My.b1 KX G ?jeu ?jev ?jew ?jex) (My.Ď My.b2 KX G ?jey ?jez ?jeA ?jeB) (My.Ď My.b1 KX G ?jeC ?jeD ?jeE ?jeF) (My.Ď My.b2 KX G ?jeG ?jeH ?jeI ?jeJ) (My.Ď My.b1 KX G ?jeK ?jeL ?jeM ?jeN) (My.Ď My.b1 KX G ?jeO ?jeP ?jeQ ?jeR) (My.Ď My.b3 KX G ?jeS ?jeT ?jeU ?jeV) (My.Ď My.b3 KX G ?jeW ?jeX ?jeY ?jeZ) (My.Ď My.b1 KX G ?je0 ?je1 ?je2 ?je3) (My.Ď My.b1 KX G ?je4 ?je5 ?je6 ?je7) (My.Ď My.b2 KX G ?je8 ?je9 ?jfa ?jfb) (My.Ď My.b2 KX G ?jfc ?jfd ?jfe ?jff) (My.Ď My.b2 KX G ?jfg ?jfh ?jfi ?jfj) (My.Ď My.b1 KX G ?jfk ?jfl ?jfm ?jfn) (My.Ď My.b2 KX G ?jfo ?jfp ?jfq ?jfr) (My.Ď My.b1 KX G ?jfs ?jft ?jfu ?jfv) (My.ť My.b5 ?jfw ?jfx ?jfy ?jfz) (My.ť My.b1 ?jfA ?jfB ?jfC ?jfD) (My.ť My.b1 ?jfE ?jfF ?jfG ?jfH) (My.ť My.b1 ?jfI ?jfJ ?jfK ?jfL) (My.ť My.b1 ?jfM ?jfN ?jfO ?jfP) (My.ť My.b3 ?jfQ ?jfR ?jfS ?jfT) (My.ť My.b3 ?jfU ?jfV ?jfW ?jfX) (My.ť My.b4 ?jfY ?jfZ ?jf0 ?jf1) (My.ť My.b2 ?jf2 ?jf3 ?jf4 ?jf5) (My.ť My.b3 ?jf6 ?jf7 ?jf8 ?jf9) (My.ť My.b2 ?jga ?jgb ?jgc ?jgd) (My.ť My.b4 ?jge ?jgf ?jgg ?jgh) (My.ť My.b3 ?jgi ?jgj ?jgk ?jgl) (My.ť My.b3 ?jgm ?jgn ?jgo ?jgp) (My.ť My.b3 ?jgq ?jgr ?jgs ?jgt) (My.ť My.b3 ?jgu ?jgv ?jgw ?jgx) (My.ť My.b3 ?jgy ?jgz ?jgA ?jgB)
   (λ s v=>.of_eq rfl)
  case jbc | jau | jaH | jaU | ja7 | jaa | jab=>k_is
  (case jac=>exact My.Oy rfl)
  (case jad=>first | rfl | decide +kernel)
  case jae | jaf | jag | jah | jai | jaj | jak | jal | jam | jan | jao | jap | jaq | jar | jas | jat | jav | jaw | jax | jay | jaz | jaA | jaB | jaC | jaD | jaE | jaF | jaG | jaI | jaJ | jaK | jaL | jaM | jaN | jaO | jaP | jaQ | jaR | jaS | jaT | jaV | jaW | jaX | jaY | jaZ | ja0 | ja1 | ja2 | ja3 | ja4 | ja5 | ja6 | ja8 | ja9 | jba | jbb | jbd | jbk | jbv | jbG | jbR | jb4 | jbg | jbn | jbo | jbp | jbq | jbr | jbs | jby | jbz | jbA | jbB | jbC | jbD | jbJ | jbK | jbL | jbM | jbN | jbO | jbU | jbV | jbW | jbX | jbY | jbZ | jb0 | jb1 | jb7 | jb8 | jb9 | jca | jcb | jcc=>k_is
  case jbl | jbw | jbH | jbS | jb5 =>
   exact My.U5 (by k_is) (by k_is) (by k_is) (by k_is) (by k_is) (by k_is) (by k_is) (by k_is) (by k_is) (by k_is)
  case jbm | jbx | jbI | jbT | jb6 =>
   repeat (refine My.noS (by k_is) ?_)
   exact trivial
  case jbt | jbu | jbE | jbF | jbP | jbQ | jb2 | jb3 | jcd | jce =>
   repeat (refine My.mrS (by k_is) ?_)
   exact trivial
  case jbe | jbf | jbh | jbi | jbj | jcf | jcg | jch | jci | jcj | jck | jcl | jcm | jcn | jco | jcp | jcq | jcr | jcs | jct | jcu | jcv | jcw | jcx | jcy | jcz | jcA | jcB | jcC | jcD | jcE | jcF | jcG | jcH | jcI | jcJ | jcK | jcL | jcM | jcN | jcO | jcP | jcQ | jcR | jcS | jcT | jcU | jcV | jcW | jcX | jcY | jcZ | jc0 | jc1 | jc2 | jc3 | jc4 | jc5 | jc6 | jc7 | jc8 | jc9 | jda | jdb | jdc | jdd | jde | jdf | jdg | jdh | jdi | jdj | jdk | jdl | jdm | jdn | jdo | jdp | jdq | jdr | jds | jdt | jdu | jdv | jdw | jdx | jdy | jdz | jdA | jdB | jdC | jdD | jdE | jdF | jdG | jdH | jdI | jdJ | jdK | jdL | jdM | jdN | jdO | jdP | jdQ | jdR | jdS | jdT | jdU | jdV | jdW | jdX | jdY | jdZ | jd0 | jd1 | jd2 | jd3 | jd4 | jd5 | jd6 | jd7 | jd8 | jd9 | jea | jeb | jec | jed | jee | jef | jeg | jeh | jei | jej | jek | jel | jem | jen | jeo | jep | jeq | jer | jes | jet | jeu | jev | jew | jex | jey | jez | jeA | jeB | jeC | jeD | jeE | jeF | jeG | jeH | jeI | jeJ | jeK | jeL | jeM | jeN | jeO | jeP | jeQ | jeR | jeS | jeT | jeU | jeV | jeW | jeX | jeY | jeZ | je0 | je1 | je2 | je3 | je4 | je5 | je6 | je7 | je8 | je9 | jfa | jfb | jfc | jfd | jfe | jff | jfg | jfh | jfi | jfj | jfk | jfl | jfm | jfn | jfo | jfp | jfq | jfr | jfs | jft | jfu | jfv | jfw | jfx | jfy | jfz | jfA | jfB | jfC | jfD | jfE | jfF | jfG | jfH | jfI | jfJ | jfK | jfL | jfM | jfN | jfO | jfP | jfQ | jfR | jfS | jfT | jfU | jfV | jfW | jfX | jfY | jfZ | jf0 | jf1 | jf2 | jf3 | jf4 | jf5 | jf6 | jf7 | jf8 | jf9 | jga | jgb | jgc | jgd | jge | jgf | jgg | jgh | jgi | jgj | jgk | jgl | jgm | jgn | jgo | jgp | jgq | jgr | jgs | jgt | jgu | jgv | jgw | jgx | jgy | jgz | jgA | jgB=>k_is
