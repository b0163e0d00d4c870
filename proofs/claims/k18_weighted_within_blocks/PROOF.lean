import PyProof.Rows.All
import Wide.All
import OpenK.AllK
import Wide.FinOn
import Lean
import PyProof.EqAt
import PyProof.EqKinds
import PyProof.TupleCall
import PyProof.ExcClass2
import PyProof.InstStoreFacts
import PyProof.ExcArgs
import PyProof.ExcInit
import PyProof.ExcBaseAll.ValueError
import KE.KIsAll
import PyProof.RulesRaise
import PyProof.RulesAs
import PyProof.RaisesMany
import PyProof.NeKinds
import PyProof.EnumFor
import PyProof.EnumStmt
import PyProof.EnumMake
import PyProof.Rows.EnumRows
import PyProof.CompFree
import KE.KIntText
import PyProof.StrBlockG
import PyProof.StrBlockH
import PyProof.StrWalks
import PyProof.Rows.StrNews2
import PyProof.Rows.StrOr
import PyProof.Rows.Digits
import PyProof.StrBlockL
import PyProof.MeetsStr2
import PyProof.CompMap
import KE.IntTextLaws
import PyProof.Rows.StrPartPair
import PyProof.StrLawsTight
import PyProof.StrLawsChain
import PyProof.Rows.StrIntSpec
import PyProof.Rows.StrItems
import PyProof.ReprRoads
import PyProof.ReprBulk
import PyProof.FitsInt
import PyProof.CallFns
import PyProof.Rows.FactsT3
import PyProof.ListRange
import PyProof.TupleOfSeq
import PyProof.TupleOfGen
import PyProof.ConsumeWalk
import PyProof.Rows.SeqGen
import PyProof.CompUse
import KE.KUnpack
import PyProof.Draws
import PyProof.Rows.RuleB_bool
import PyProof.WalkInts
import PyProof.SeqI3
import KE.KRevSl
import KE.BitLaws
import PyProof.Rows.SumAny
import PyProof.ZipIter
import PyProof.TupleIter
import PyProof.WalksMore
import PyProof.Rows.FactsT2
import PyProof.Rows.SortWalk
import PyProof.Rows.SeqMore2
import PyProof.DictCompW
import PyProof.Cells
import PyProof.DictItems
import PyProof.DictValues
import PySem.Challenge.RW_trialdeal_k18_weighted_within_blocks
set_option autoImplicit true
set_option relaxedAutoImplicit true
set_option linter.all false
def À:=@PySem.wpAny_bind
def Á:=@List.getElem?_eq_getElem
def Â:=@List.length_map
def Ã:=@PySem.Heap.get?_push_of_some
def Å:=@List.getElem?_eq_some_iff
def Æ:=@PySem.wpAny_pure
def Ç:=@List.getElem?_map
def È:=@decide_eq_false
def É:=@PySem.Heap.lt_size
def Ê:=@Nat.le_refl
def Ë:=@decide_eq_true
def Ì:=@List.map_append
def Í:=@List.length_append
def Î:=@List.mem_append_right
def Ï:=@if_neg
def Ð:=@Option.map_eq_some_iff
def Ò:=@PySem.Heap.get?_push_size
def Ó:=@Nat.ne_of_lt
def Ô:=@Bool.false_ne_true
def Õ:=@Option.some.inj
def Ö:=@PySem.sizeLine_eq
def Ø:=@if_pos
def Ú:=@List.take_length
def Û:=@PyProof.Rows.boot_isinstance
def Ü:=@PySem.F.plainAttrs_list
def Ý:=@List.getElem?_append_right
def Þ:=@Nat.lt_of_lt_of_le
def ß:=@PySem.Heap.get?_update_ne
def á:=@List.mem_cons_of_mem
def â:=@List.size_toArray
def ã:=@beq_eq_false_iff_ne
def ä:=@List.mem_singleton
def å:=@List.mem_of_getElem?
def æ:=@List.length_replicate
def è:=@PySem.mem_of_lookup
def é:=@List.getElem?_append_left
def ê:=@PySem.boot_len
def ë:=@List.mem_cons
def í:=@Array.getElem?_eq_some_iff
def î:=@PySem.wpAny_setField_rec
def ï:=@List.map_cons
def ð:=@List.mem_map
def ñ:=@PySem.wpAny_mono
def ò:=@List.mem_cons_self
def ó:=@List.lookup_cons
def õ:=@Nat.le_trans
def ö:=@PySem.wpAny_field
def ø:=@List.getD_eq_getElem?_getD
def ù:=@PyProof.Rows.boot_tuple
def ú:=@List.all_eq_true
def û:=@PySem.Heap.size_push
def ü:=@List.getElem_of_mem
def ý:=@PySem.wpAny_newObj_type
def þ:=@PySem.Heap.get?_update_self
def ÿ:=@PySem.wpAny_callSpecial?_slot
def Ā:=@List.length_take
def ā:=@List.length_cons
def Ă:=@PyProof.Rows.boot_list
def ą:=@PySem.F.type_list_append
def Ć:=@PySem.F.slot_list_append
def ć:=@PySem.wpAny_holding
def Ĉ:=@of_decide_eq_true
def ĉ:=@PySem.wpAny_call_entry
def Č:=@Nat.lt_or_ge
def č:=@List.getElem_mem
def Đ:=@List.flatten_append
def Ē:=@Nat.lt_succ_of_lt
def ē:=@PySem.F.slot_dict_itemiterator_next
def ĕ:=@PySem.W.kia_tup
def Ė:=@PySem.W.kia_one
def ė:=@Nat.not_lt_zero
def Ę:=@List.append_nil
def Ě:=@beq_iff_eq
def ě:=@List.contains_cons
def ğ:=@PyProof.Rows.callWith_type1
def ġ:=@congrArg
def Ģ:=@Int.toNat_natCast
def ģ:=@List.mem_append
def ĥ:=@List.length_filter_le
def Ħ:=@PySem.W.Looks.here
def Ĩ:=@PySem.wpAny_ite_false
def ī:=@PySem.F.slot_zip_next
def Ĭ:=@PySem.W.mg_none_of
def Į:=@PySem.wpAny_standAt
def İ:=@PySem.wpAny_Call_Name_kw
def ı:=@Nat.zero_le
def Ĳ:=@Nat.ne_of_gt
def ĵ:=@Option.isSome_iff_exists
def Ķ:=@Nat.lt_irrefl
def ķ:=@PySem.wpAny_truthy_bool
def ĸ:=@PyProof.Rows.boot_range
def Ĺ:=@List.filter_cons_of_pos
def ĺ:=@List.filter_cons_of_neg
def Ļ:=@List.filter_cons
def ľ:=@PySem.wpAny_comprehension_free
def Ŀ:=@PySem.wpAny_attempt
def Ł:=@PySem.W.callWith_K
def ł:=@Int.emod_lt_of_pos
def ń:=@PySem.wpAny_typeNameOfWhole_itemiter
def Ņ:=@PySem.wpAny_seqItems
def Ň:=@Bool.true_and
def ň:=@PySem.W.methodCall_KW
def ŉ:=@PyProof.Rows.boot_int
def Ŋ:=@List.take_append_drop
def Ŏ:=@PySem.wpAny_passesOwn
def ŏ:=@PySem.F.slot_NoneType_hash
def Ő:=@PySem.F.excAttr_ValueError
def œ:=@beq_self_eq_true
def Ŕ:=@Int.zero_add
def ŕ:=@Bool.and_eq_true
def ř:=@PySem.F.slot_tuple_iterator_next
def ś:=@List.sum_append
def Ŝ:=@List.of_mem_zip
def ŝ:=@decide_eq_true_iff
def Ş:=@PySem.codeAny_mono
def ş:=@Nat.not_lt
def Š:=@List.filter_append
def Ũ:=@PyProof.Rows.boot_bool
def ũ:=@List.take_of_length_le
def Ū:=@List.getElem?_set_self
def ū:=@List.flatten_cons
def ů:=@PySem.wpAny_execs_nil
def ű:=@PySem.wpAny_call
def Ų:=@PySem.W.mg_of
def ŷ:=@PyProof.Rows.boot_sum
def ſ:=@PySem.wpAny_nextOf_list_item
def Α:=@PySem.codeAny_compStart_list
def Β:=@Nat.le_succ
def Γ:=@PySem.Heap.get?_push_at
def Κ:=@Int.emod_nonneg
def Ν:=@PySem.F.slot_enumerate_next
def Ο:=@Nat.le_of_eq
def Υ:=@PySem.wpAny_newFunctionEnv
def Φ:=@PySem.codeAny_call_builtin
def Χ:=@Bool.false_and
def ζ:=@PySem.W.kitx_list
def η:=@PySem.W.kitx_dict
def θ:=@Nat.le_succ_of_le
def ξ:=@PySem.F.type_list_extend
def ο:=@PySem.F.slot_list_extend
def π:=@List.any_cons
def ρ:=@List.all_cons
def χ:=@PySem.wpAny_setField
def ψ:=@PySem.wpAny_ite_true
def ω:=@PySem.W.looks_findIn
def a_:=@PySem.F.slot_list_index
def b_:=@Option.bind_some
def c_:=@List.getElem?_replicate
def g_:=@Nat.sub_self
def h_:=@Nat.lt_trans
def i_:=@List.map_nil
def n_:=@PySem.wpAny_pyIter_enum
def o_:=@Option.map_some
def p_:=@List.nodup_cons
def q_:=@List.length_nil
def r_:=@List.filter_nil
def s_:=@PySem.F.args_zip_next_1
def t_:=@Bool.eq_iff_iff
def u_:=@PySem.wpAny_onRaise
def v_:=@PyProof.Rows.boot_max
def w_:=@PySem.Paired.length
def x_:=@List.getElem?_zipWith
def y_:=@List.getElem?_eq_none
def E_:=@PySem.W.looks_mroIn
def G_:=@List.mem_of_mem_take
def H_:=@List.mem_append_left
def I_:=@List.getElem?_set_ne
def J':=@PySem.Heap.size_update
def J_:=@PySem.F.entry_zip_next
def Mb:=@PySem.F.args_dict_itemiterator_next_1
def Mh:=@PySem.wpAny_rule
def Mi:=@PySem.wpAny_isOneOf_itemiter
def Mj:=@PySem.W.plainGet_of
def Ml:=@PySem.F.entry_dict_itemiterator_next
def Mn:=@List.filterMap_cons
def Mo:=@PySem.Calls.callWith_builtin
def MG:=@PySem.SeqAt.EqAt.same
def MH:=@List.sum_cons
def Nc:=@PySem.wpAny_updateSeq_pair
def Nd:=@PySem.wpAny_setFlight_none
def Nf:=@PySem.wpAny_newTuple
def Ng:=@List.all_map
def NA:=@decide_eq_decide
def NB:=@PyProof.Rows.callWith_builtin1
def NC:=@Nat.lt_succ_self
def ND:=@List.countP_cons
def N3:=@PySem.Value.ref.inj
def Ol:=@PySem.call_meets
def Om:=@PySem.F.slot_dict_items_iter
def On:=@PySem.Obj.data_mapFields
def Oo:=@List.mem_filter
def Op:=@List.length_zip
def Oq:=@PySem.Calls.spliced_cons
def OO:=@PySem.wpAny_pyIter_list
def OP:=@PySem.wpAny_loadPart_at
def OR:=@PySem.wpAny_dictEntries
def OS:=@PySem.F.excBase_ValueError
def OT:=@PySem.PassesOwn.leaving
def OU:=@Nat.mod_two_eq_zero_or_one
def OV:=@List.forIn_nil
def PB:=@PySem.plainObj_wpAny_Assign_Attribute
def PY:=@PySem.wpAny_pyIter_zip
def PZ:=@PySem.wpAny_isInstance
def P0:=@PySem.wpAny_execs_cons
def P1:=@PyProof.Rows.boot_sorted
def P2:=@List.map_take
def Qo:=@PySem.wpAny_letGo
def Qp:=@PySem.F.type_list_index
def Qq:=@PySem.F.type_list_count
def Qr:=@PySem.F.slot_list_count
def Qs:=@PySem.F.slot_dict_items
def Qt:=@Nat.exists_eq_add_of_le
def Qu:=@Nat.add_sub_cancel_left
def Qv:=@List.length_eq_zero_iff
def Qw:=@Int.eq_ofNat_of_zero_le
def Q0:=@PySem.wpAny_specialOf
def Q1:=@PySem.wpAny_loadPart'
def Q2:=@PySem.wpAny_dictEpoch
def Q3:=@PySem.W.cellsFrom_some
def Q4:=@Nat.le_of_lt
def Q5:=@List.range_succ_eq_map
def Q6:=@List.map_map
def Q7:=@List.getElem_cons_drop
def Q8:=@PySem.F.args_tuple_iterator_next_1
theorem av {p:Prop}(h:p:=by decide +kernel):p:=h
theorem au {p:Prop}(h:p:=by decide):p:=h
theorem ai {p:Prop}(h:p:=by omega):p:=h
theorem cL {n:Nat}(h:Nat.ble n 1000=true:=by exact rfl):n<=PySem.sizeLine:=õ (Nat.le_of_ble_eq_true h) (by decide)
abbrev fg:=PySem.Value->PySem.Shared->Prop
abbrev bC:=PySem.Str->Option PySem.Value
abbrev dJ (l:List (PySem.Str × PySem.NameKind)):PySem.Scope:={ kind:=.function,names:=(".0",.local)::l,isGenerator:=false,isCoroutine:=false }
set_option Elab.async false
set_option maxRecDepth 100000
namespace L2
open PySem PySem.Spec PyProof.Rows
inductive Key where
 | inl (i:Int) | inr (x:Str) | Ċ
 deriving DecidableEq
def jJ:Key->Value->Bool
 | .inl k,v=>Value.isInt k v
 | .inr x,v=>Value.isStrOf x v
 | .Ċ,v=>v == .none
def Im (w:World):Key->Int
 | .inl k=>hashInt k
 | .inr x=>hashStr w x
 | .Ċ=>0xFCA86420
theorem nP (h:Q 0xFCA86420 { s with toks:=s.toks+1 }):wpAny (model prog w) A (pyHash .none) Q E s:=by
 have hT:s.TypeIs .none "NoneType" := rfl;have hv:[Value.none].any Value.onHeap=false:=rfl;refine À ?_;rw [cRoomFor,Ï (by rw [hv];exact Ô)];refine Æ ?_
 refine À (Q0 hT ŏ.lookup ?_);rw [Ï (by rw [beq_builtin_none];exact Ô)]
 refine À (Q0 hT ŏ.lookup ?_);refine À (wpAny_callSpecialIfBoundUnlessNone?_slot hT ŏ
  (ĉ ŏ hT PySem.F.entry_NoneType_hash
   (show wpAny _ _ (do ret (<- mkInt 0xFCA86420)) _ _ s from wpAny_ret_mkInt ?_) (PySem.F.args_NoneType_hash_1 _)))
 show wpAny _ _ (if(decide (-(2:Int)^63<=0xFCA86420)&&decide ((0xFCA86420:Int)<2^63))=true then _ else _) Q E _
 rw [Ø au];exact Æ h
theorem bh:∀{k:Key}{v:Value},jJ k v=true->(∃ i t,k=Key.inl i/\v=Value.int i t)\/(∃ x t,k=Key.inr x/\v=Value.str x t)\/(k=Key.Ċ/\v=Value.none)
 | .inl i,v,h=>by
  obtain⟨t,e⟩:=Value.isInt_shape h;exact .inl ⟨i,t,rfl,e⟩
 | .inr x,v,h=>by
  obtain⟨t,e⟩:=Value.isStrOf_shape h;exact .inr (.inl ⟨x,t,rfl,e⟩)
 | .Ċ,v,h=>.inr (.inr ⟨rfl,eq_of_beq h⟩)
theorem rV (i:Int)(t:Tok):jJ (.inl i) (.int i t)=true:=by simp [jJ,Value.isInt]
theorem sK (x:Str)(t:Tok):jJ (.inr x) (.str x t)=true:=by simp [jJ,Value.isStrOf]
theorem Bs (a b:Int):decide (Key.inl a=Key.inl b)=(a==b):=by
 by_cases e:a=b
 ·subst e;simp
 ·rw [È (λ q=>e (Key.inl.inj q))];exact(ã.mpr e).symm
theorem Br (a b:Str):decide (Key.inr a=Key.inr b)=decide (a=b):=by
 by_cases e:a=b
 ·subst e;simp
 ·rw [È (λ q=>e (Key.inr.inj q)),È e]
theorem Aw (a:Int)(b:Str):decide (Key.inl a=Key.inr b)=false:=È (λ q=>nomatch q)
theorem C8 (a:Str)(b:Int):decide (Key.inr a=Key.inl b)=false:=È (λ q=>nomatch q)
theorem yX (a:Int):decide (Key.inl a=Key.Ċ)=false:=È (λ q=>nomatch q)
theorem Dk (a:Int):decide (Key.Ċ = Key.inl a)=false:=È (λ q=>nomatch q)
theorem Ae (a:Str):decide (Key.inr a=Key.Ċ)=false:=È (λ q=>nomatch q)
theorem A0 (a:Str):decide (Key.Ċ = Key.inr a)=false:=È (λ q=>nomatch q)
def bv (prog:Program)(w:World):PySem.KeyKind prog w Key where
 is:=jJ
 hash:=Im w
 inj:=λ v a b ha hb=>by
  rcases bh ha with⟨i,t,rfl,rfl⟩ | ⟨x,t,rfl,rfl⟩ | ⟨rfl,rfl⟩
  ·rcases bh hb with⟨j,u,rfl,e⟩ | ⟨y,u,rfl,e⟩ | ⟨rfl,e⟩
   ·injection e with e1 _;rw [e1]
   ·exact nomatch e
   ·exact nomatch e
  ·rcases bh hb with⟨j,u,rfl,e⟩ | ⟨y,u,rfl,e⟩ | ⟨rfl,e⟩
   ·exact nomatch e
   ·injection e with e1 _;rw [e1]
   ·exact nomatch e
  ·rcases bh hb with⟨j,u,rfl,e⟩ | ⟨y,u,rfl,e⟩ | ⟨rfl,e⟩
   ·exact nomatch e
   ·exact nomatch e
   ·rfl
 byValue:=λ k v h=>by
  rcases bh h with⟨i,t,rfl,rfl⟩ | ⟨x,t,rfl,rfl⟩ | ⟨rfl,rfl⟩ <;> rfl
 pyHash:=λ hv h=>by
  rcases bh hv with⟨i,t,rfl,rfl⟩ | ⟨x,t,rfl,rfl⟩ | ⟨rfl,rfl⟩
  ·exact wpAny_pyHash_int h
  ·exact wpAny_pyHash_str h
  ·exact nP h
 eqBool:=λ hu hv h=>by
  rcases bh hu with⟨i,t,rfl,rfl⟩ | ⟨x,t,rfl,rfl⟩ | ⟨rfl,rfl⟩
  ·rcases bh hv with⟨j,u,rfl,rfl⟩ | ⟨y,u,rfl,rfl⟩ | ⟨rfl,rfl⟩
   ·rw [Bs] at h;exact wpAny_eqBool_int h
   ·rw [Aw] at h;exact SeqAt.EqAt.int_str i t y u _ _ _ _ h
   ·rw [yX] at h;exact SeqAt.EqAt.int_none i t _ _ _ _ h
  ·rcases bh hv with⟨j,u,rfl,rfl⟩ | ⟨y,u,rfl,rfl⟩ | ⟨rfl,rfl⟩
   ·rw [C8] at h;exact SeqAt.EqAt.str_int x t j u _ _ _ _ h
   ·rw [Br] at h;exact wpAny_eqBool_str h
   ·rw [Ae] at h;exact SeqAt.EqAt.str_none x t _ _ _ _ h
  ·rcases bh hv with⟨j,u,rfl,rfl⟩ | ⟨y,u,rfl,rfl⟩ | ⟨rfl,rfl⟩
   ·rw [Dk] at h;exact SeqAt.EqAt.none_int j u _ _ _ _ h
   ·rw [A0] at h;exact SeqAt.EqAt.none_str y u _ _ _ _ h
   ·exact MG _ _ _ _ _ (by simpa using h)
 «strs» := λ k x t v h=>by
  rcases bh h with⟨i,u,rfl,e⟩ | ⟨y,u,rfl,e⟩ | ⟨rfl,e⟩
  ·exact nomatch e
  ·injection e with e1 _
   subst e1;cases v <;> rfl
  ·exact nomatch e
theorem jK (prog:Program)(w:World)(k:Key)(v:Value):(bv prog w).is k v=jJ k v:=rfl
theorem oN (prog:Program)(w:World)(i:Int)(t:Tok):(bv prog w).is (.inl i) (.int i t)=true:=rV i t
theorem nV (prog:Program)(w:World)(x:Str)(t:Tok):(bv prog w).is (.inr x) (.str x t)=true:=sK x t
inductive V where
 | Ċ | bl (b:Bool) | int (i:Int) | str (x:Str) | ON (b:Array UInt8) | PR (b:UInt64) | ref (a:Addr) | ty (n:String)
 deriving DecidableEq
def RelV:V->Value->Prop
 | .Ċ,u=>u=Value.none
 | .bl b,u=>u=Value.bool b
 | .int i,u=>∃ t,u=Value.int i t
 | .str x,u=>∃ t,u=Value.str x t
 | .ON b,u=>∃ t,u=Value.bytes b t
 | .PR b,u=>∃ t,u=Value.float b t
 | .ref a,u=>u=Value.ref a
 | .ty n,u=>u=Value.type n
abbrev Vals:List V->List Value->Prop:=Paired RelV
theorem Vals.length {xs:List V}{us:List Value}(r:Vals xs us):xs.length=us.length:=w_ r
theorem Vals.get:∀{xs:List V}{us:List Value}{i:Nat}{x:V},Vals xs us->xs[i]?=some x->∃ u,us[i]?=some u/\RelV x u
 | _,_,_,_,.nil,e=>by simp at e
 | _,_,0,_,.cons r _,e=>by simp at e;subst e;exact⟨_,rfl,r⟩
 | _,_,i+1,x,.cons _ t,e=>by
  obtain⟨u,h1,h2⟩:=Vals.get t (by simpa using e)
  exact⟨u,by simpa using h1,h2⟩
theorem Vals.set (r:RelV x u):∀{xs:List V}{us:List Value}(i:Nat),Vals xs us->Vals (xs.set i x) (us.set i u)
 | _,_,_,.nil=>.nil
 | _,_,0,.cons _ t=>.cons r t
 | _,_,i+1,.cons q t=>.cons q (Vals.set r i t)
theorem Vals.append:∀{xs ys:List V}{us ws:List Value},Vals xs us->Vals ys ws->Vals (xs++ys) (us++ws)
 | _,_,_,_,.nil,s=>s
 | _,_,_,_,.cons r t,s=>.cons r (Vals.append t s)
def Ρ:Option V->Option Value->Prop
 | some v,some u=>RelV v u
 | none,none=>True
 | _,_=>False
def KV {κ:Type}:List (κ × V)->List (κ × Value)->Prop:=Paired λ (p:κ × V)(q:κ × Value)=>p.1=q.1/\RelV p.2 q.2
def kV:Key->V
 | .inl i=>.int i
 | .inr x=>.str x
 | .Ċ=>.Ċ
inductive HO where
 | lst (xs:List V)
 | tup (xs:List V)
 | dK (ì:List (Key × V)) | dT (ì:List (List Key × V))
 | set (S:Int->Bool)(n:Nat)
 | ins (C dx:Addr)(fs:List (Str × V))
 | own (x:Addr)
 | xd (fs:List (Str × V))
 | met (f x:Addr)
 | Mc (lo hi:Int)
 | υ (o:Obj)(u:HO)
 | Rb (ps:Array Value)
 | ext (φ:Heap->Prop)
abbrev Hp:=Addr->Option HO
def ad (H:Hp)(a:Addr)(o:HO):Hp:=λ b=>if b=a then some o else H b
theorem aM {H:Hp}:ad H a o a=some o:=by unfold ad;rw [Ø rfl]
theorem af (h:b≠a):ad H a o b=H b:=by unfold ad;rw [Ï h]
theorem fQ:ad (ad H a o) a u=ad H a u:=by
 funext b;unfold ad;split <;> rfl
theorem Hd {H:Hp}(h:H a=some o)(h':H b=some u)(d:o≠u):a≠b:=by
 intro e;subst e;rw [h] at h';exact d (Õ h')
theorem dM {H:Hp}(h:H a=some o)(h':H b=none):a≠b:=by
 intro e;subst e;rw [h] at h';cases h'
section
variable (P:Program)(w:World)
def Ą (H:Hp)(h:Heap)(a:Addr):HO->Prop
 | .lst xs=>xs.length<=sizeLine/\∃(its:List Value)(n:Nat),Vals xs its/\h.get? a=some { cls:=.type "list",data:=.seq its.toArray n }
 | .tup xs=>xs.length<=sizeLine/\∃ its:List Value,Vals xs its/\IsTup h a its.toArray
 | .dK ì=>ì.length<=sizeLine/\(a==sysModules)=false/\∃ vs,KV ì vs/\h.DictOf (bv P w) a vs
 | .dT ì=>ì.length<=sizeLine/\(a==sysModules)=false/\∃ xs:List (List Key × Addr × Value),
   Paired (λ (p:List Key × V)(q:List Key × Addr × Value)=>p.1=q.1/\H q.2.1=some (.tup (p.1.map kV))/\RelV p.2 q.2.2) ì xs /\
   ∃ o es ep,h.get? a=some o/\o.ExactDict/\o.data=.dict es ep/\es.toList=xs.map (entryOfKey (tupleKind (bv P w)))/\(xs.map (·.1)).Nodup
 | .set S n=>h.SetOf (intKind P w) a S n
 | .ins C dx fs=>H dx=some (.own a)/\fs.length<=1000/\dx≠a/\h.get? a=some (PySem.W.instObj C dx) /\
   ∃ mA,h.Ns1 dx mA/\(∀ f,Ρ (fs.lookup f) (mA f))/\PySem.Within mA (fs.map (·.1))
 | .own _=>∃ o,h.get? a=some o
 | .xd fs=>∃ mA,h.Ns1 a mA/\∀ f,Ρ (fs.lookup f) (mA f)
 | .Mc lo hi=>∃ t u v,h.get? a=some { cls:=.type "range",data:=.fields #[.int lo t,.int hi u,.int 1 v] }
 | .υ o u=>h.get? a=some o/\Ą H h a u
 | .Rb ps=>h.get? a=some { cls:=.none,data:=.fields ps }
 | .met f x=>h.get? a=some (PySem.W.methodObj (.ref f) (.ref x))
 | .ext φ=>φ h/\(∃ o,h.get? a=some o)/\∀ h1 h2:Heap,φ h1->(∀ o,h1.get? a=some o->h2.get? a=some o)->φ h2
def Ι (H:Hp)(h:Heap):Prop:=∀ a o,H a=some o->Ą P w H h a o
end
section
variable {P:Program}{w:World}{H H':Hp}{h h':Heap}{a:Addr}{o:HO}
theorem Ą.lt (x:Ą P w H h a o):a<h.objs.size:=by
 cases o with
 | lst xs=>obtain⟨_,_,_,_,e⟩:=x;exact É e
 | tup xs=>obtain⟨_,_,_,p⟩:=x;exact p.lt
 | dK ì=>obtain⟨_,_,_,_,o,_,_,e,_⟩:=x;exact É e
 | dT ì=>obtain⟨_,_,_,_,o,_,_,e,_⟩:=x;exact É e
 | set S n=>obtain⟨o,_,_,_,e,_⟩:=x;exact É e
 | ins C dx fs=>obtain⟨_,_,_,e,_⟩:=x;exact É e
 | own y=>obtain⟨_,e⟩:=x;exact É e
 | xd fs=>obtain⟨_,⟨_,_,_,e,_⟩,_⟩:=x;exact É e
 | Mc lo hi=>obtain⟨_,_,_,e⟩:=x;exact É e
 | υ ob u=>obtain⟨e,_⟩:=x;exact É e
 | Rb ps=>exact É (show h.get? a=some _ from x)
 | met f y=>exact É (show h.get? a=some _ from x)
 | ext φ=>obtain⟨_,⟨_,e⟩,_⟩:=x;exact É e
theorem Paired.Rk {α β:Type}{F G:α->β->Prop}:∀{S0:List α}{SZ:List β},Paired F S0 SZ->(∀ a b,F a b->G a b)->Paired G S0 SZ
 | _,_,.nil,_=>.nil
 | _,_,.cons r t,f=>.cons (f _ _ r) (Paired.Rk t f)
theorem Ą.l_ (x:Ą P w H h a o)(k:∀ b u,(b=a\/H b=some (.own a))->h.get? b=some u->h'.get? b=some u)
  (ho:∀ b,H b=some (.own a)->H' b=some (.own a))(ht:∀ b xs,H b=some (.tup xs)->H' b=some (.tup xs)):Ą P w H' h' a o:=by
 induction o with
 | lst xs=>obtain⟨z,its,n,r,e⟩:=x;exact⟨z,its,n,r,k _ _ (.inl rfl) e⟩
 | tup xs=>obtain⟨z,its,r,ob,e,c⟩:=x;exact⟨z,its,r,ob,k _ _ (.inl rfl) e,c⟩
 | dK ì=>obtain⟨z,y,vs,r,ob,es,ep,e,c⟩:=x;exact⟨z,y,vs,r,ob,es,ep,k _ _ (.inl rfl) e,c⟩
 | dT ì =>
  obtain⟨z,y,xs,r,ob,es,ep,e,c⟩:=x;exact⟨z,y,xs,Paired.Rk r λ p q z=>⟨z.1,ht _ _ z.2.1,z.2.2⟩,ob,es,ep,k _ _ (.inl rfl) e,c⟩
 | set S n=>obtain⟨ob,es,ep,t,e,c⟩:=x;exact⟨ob,es,ep,t,k _ _ (.inl rfl) e,c⟩
 | ins C dx fs =>
  obtain⟨d,z,ne,e,mA,⟨od,es,ep,e2,c⟩,r⟩:=x;exact⟨ho _ d,z,ne,k _ _ (.inl rfl) e,mA,⟨od,es,ep,k _ _ (.inr d) e2,c⟩,r⟩
 | own y=>obtain⟨ob,e⟩:=x;exact⟨ob,k _ _ (.inl rfl) e⟩
 | xd fs=>obtain⟨mA,⟨od,es,ep,e,c⟩,r⟩:=x;exact⟨mA,⟨od,es,ep,k _ _ (.inl rfl) e,c⟩,r⟩
 | Mc lo hi=>obtain⟨t,u,v,e⟩:=x;exact⟨t,u,v,k _ _ (.inl rfl) e⟩
 | υ ob u ih=>obtain⟨e,q⟩:=x;exact⟨k _ _ (.inl rfl) e,ih q⟩
 | Rb ps =>
  have e:=x;exact k a _ (.inl rfl) e
 | met f y =>
  have e:=x;exact k a _ (.inl rfl) e
 | ext φ=>obtain⟨p,⟨o,e⟩,st⟩:=x;exact⟨st _ _ p λ o q=>k _ _ (.inl rfl) q,⟨o,k _ _ (.inl rfl) e⟩,st⟩
theorem Ι.lt (x:Ι P w H h)(e:H a=some o):a<h.objs.size:=(x a o e).lt
theorem Ι.fresh (x:Ι P w H h)(e:h.objs.size<=a):H a=none:=by
 cases q:H a with
 | none=>rfl
 | some u=>exact absurd (Þ (x.lt q) e) (Ķ _)
theorem Ι.kept (x:Ι P w H h)(k:∀ b u,h.get? b=some u->h'.get? b=some u):Ι P w H h':=λ a o e =>
 (x a o e).l_ (λ b u _ q=>k b u q) (λ _ q=>q) λ _ _ q=>q
theorem Ι.laid (x:Ι P w H h)(k:∀ b u,h.get? b=some u->h'.get? b=some u)(hp:h.objs.size<=a)(new:Ą P w (ad H a o) h' a o):Ι P w (ad H a o) h':=λ b u e=>by
 have hn:=x.fresh hp;by_cases hb:b=a
 ·subst hb;rw [aM] at e;cases e;exact new
 ·rw [af hb] at e;exact(x b u e).l_ (λ c v _ q=>k c v q) (λ c q=>by rw [af (dM q hn)];exact q) λ c xs q=>by rw [af (dM q hn)];exact q
end
def Rd (H:Hp)(a:Addr)(u:HO):Prop:=H a=some u\/∃ o,H a=some (.υ o u)
theorem Rd.ok {P:Program}{w:World}{H:Hp}{h:Heap}{a:Addr}{u:HO}(r:Rd H a u)(x:Ι P w H h):Ą P w H h a u:=by
 rcases r with r | ⟨o,r⟩
 ·exact x a u r
 ·obtain⟨_,q⟩:=x a _ r;exact q
def DB:Option HO->Prop
 | some (.lst _)=>True
 | some (.dK _)=>True
 | some (.dT _)=>True
 | some (.set _ _)=>True
 | some (.ins _ _ _)=>True
 | some (.ext _)=>True
 | _=>False
section
variable {P:Program}{w:World}{H:Hp}{h h':Heap}{x e:Addr}{o':HO}
theorem Ι.write (ok:Ι P w H h)(mu:DB (H x))(he:e=x\/H e=some (.own x))(k:∀ b u,b≠e->h.get? b=some u->h'.get? b=some u)(RZ:∃ u,h'.get? e=some u)
  (new:Ą P w (ad H x o') h' x o'):Ι P w (ad H x o') h':=λ b u q=>by
 have SI:∀ c y,H c=some (.own y)->c≠x:=λ c y r z=>by subst z;rw [r] at mu;exact mu
 have Vm:∀ c xs,H c=some (.tup xs)->c≠x:=λ c xs r z=>by subst z;rw [r] at mu;exact mu
 by_cases hb:b=x
 ·subst hb;rw [aM] at q;cases q;exact new
 ·rw [af hb] at q;by_cases RB:b=e
  ·have q':H b=some (.own x):=by
    rcases he with z | z
    ·exact absurd (RB.trans z) hb
    ·rw [RB];exact z
   rw [q] at q';cases q';obtain⟨v,hv⟩:=RZ;exact⟨v,by rw [RB];exact hv⟩
  ·refine(ok b u q).l_ (λ c v hc r=>k c v ?_ r) (λ c r=>by rw [af (SI c b r)];exact r) λ c xs r=>by rw [af (Vm c xs r)];exact r
   rcases hc with rfl | hc
   ·exact RB
   ·rintro rfl;rcases he with z | z
    ·exact SI c b hc z
    ·rw [hc] at z;cases z;exact hb rfl
end
structure Un (fs ex:List Addr)(H H':Hp)(h h':Heap):Prop where
 keep:∀ b o,h.get? b=some o->H b=none->b ∉ fs->b ∉ ex->h'.get? b=some o
 slot:∀ b o,h.get? b=some o->H b=none->b∈fs->b ∉ ex->∃ sl,h'.get? b=some { o with slots:=sl }
 free:∀ b o,h.get? b=some o->H b=none->b ∉ ex->H' b=none
 there:∀ b o,h.get? b=some o->b ∉ ex->∃ o',h'.get? b=some o'
 K':∀ b xs,H b=some (.tup xs)->H' b=some (.tup xs)
 D_:∀ b o u,H b=some (.υ o u)->H' b=some (.υ o u)
 K_:∀ b ps,H b=some (.Rb ps)->∃ more,H' b=some (.Rb (ps++more))
 sys:H sysModules=none->H' sysModules=none
section
variable {fs fs' ex ex':List Addr}{H H1 H2:Hp}{h h1 h2 h':Heap}{a x e:Addr}{o:HO}
theorem Un.any (u:Un fs ex H H1 h h1)(q:h.get? b=some ob)(n:H b=none)(hx:b ∉ ex):∃ sl,h1.get? b=some { ob with slots:=sl }:=by
 by_cases hb:b∈fs
 ·exact u.slot b ob q n hb hx
 ·exact⟨ob.slots,u.keep b ob q n hb hx⟩
theorem Un.kept (k:∀ b u,h.get? b=some u->h'.get? b=some u):Un fs ex H H h h' :=
 ⟨λ b ob q _ _ _=>k b ob q,λ b ob q _ _ _=>⟨ob.slots,k b ob q⟩,λ _ _ _ n _=>n,λ b ob q _=>⟨ob,k b ob q⟩,λ _ _ q=>q,λ _ _ _ q=>q,λ _ ps q=>⟨#[],by rw [q];simp⟩,λ q=>q⟩
theorem Un.refl:Un fs ex H H h h:=Un.kept λ _ _ q=>q
theorem Un.laid (k:∀ b u,h.get? b=some u->h'.get? b=some u)(hp:h.objs.size<=a)(hn:H a=none)(hz:sysModules<h.objs.size):Un fs ex H (ad H a o) h h' where
 sys:=λ q=>by rw [af (Ó (Þ hz hp))];exact q
 keep:=λ b u q _ _ _=>k b u q
 slot:=λ b u q _ _ _=>⟨u.slots,k b u q⟩
 free:=λ b u q n _=>by rw [af (Ó (Þ (É q) hp))];exact n
 there:=λ b u q _=>⟨u,k b u q⟩
 K':=λ b xs q=>by rw [af (dM q hn)];exact q
 D_:=λ b u xs q=>by rw [af (dM q hn)];exact q
 K_:=λ b ps q=>⟨#[],by rw [af (dM q hn),q];simp⟩
theorem Un.write (mu:DB (H x))(he:e=x\/H e=some (.own x))(k:∀ b u,b≠e->h.get? b=some u->h'.get? b=some u)(RZ:∃ u,h'.get? e=some u):Un fs ex H (ad H x o) h h':=by
 have hx:∀ b,H b=none->b≠x:=λ b n z=>by subst z;rw [n] at mu;exact mu
 have hb:∀ b,H b=none->b≠e:=λ b n z=>by
  subst z;rcases he with r | r
  ·exact hx b n r
  ·rw [n] at r;cases r
 have hm:∀ b u,H b=some u->¬ DB (some u)->b≠x:=λ b u q nm z=>by subst z;rw [q] at mu;exact nm mu
 refine⟨λ b u q n _ _=>k b u (hb b n) q,λ b u q n _ _=>⟨u.slots,k b u (hb b n) q⟩,λ b u q n _=>by rw [af (hx b n)];exact n,λ b u q _=>?_,
  λ b xs q=>by rw [af (hm b _ q λ z=>z)];exact q,λ b u xs q=>by rw [af (hm b _ q λ z=>z)];exact q,λ b ps q=>⟨#[],by rw [af (hm b _ q λ z=>z),q];simp⟩,λ q=>by rw [af (hx _ q)];exact q⟩
 by_cases RB:b=e
 ·subst RB;exact RZ
 ·exact⟨u,k b u RB q⟩
end
def HD (h:Heap)(H:Hp):List Addr:=(List.range h.objs.size).filter λ a=>(H a).isSome
def oq (h:Heap)(H:Hp):Heap:=PySem.W.hideAll h (HD h H)
theorem sE (h:Heap)(H:Hp):(oq h H).objs.size=h.objs.size:=PySem.W.hideAll_size _ _
theorem uE (e:h.get? b=some o)(n:H b=none):(oq h H).get? b=some o :=
 PySem.W.hideAll_get _ e λ hm=>by
  have q:=(Oo.mp hm).2;rw [n] at q;simp at q
theorem vF (e:(oq h H).get? b=some o):h.get? b=some o/\H b=none:=by
 have e':=PySem.W.of_hideAll (HD h H) e;refine⟨e',?_⟩;cases q:H b with
 | none=>rfl
 | some x =>
  have hm:b∈HD h H:=Oo.mpr ⟨List.mem_range.mpr (É e'),by simp [q]⟩
  have z:(oq h H).get? b=none:=PySem.W.hideAll_none (HD h H) hm;rw [z] at e;cases e
def wb (g h:Heap)(L:Addr):List (Addr × Obj):=(List.range h.objs.size).filterMap λ a=>if a=L\/(g.get? a).isSome=true then none else(h.get? a).map λ o=>(a,o)
def rest (g h:Heap)(L d:Addr):List (Addr × Obj):=(wb g h L).filter λ p=>decide (p.1≠d)
structure Mod (K:PySem.W.Frag)(mg:bC)(base:Heap):Prop where
 QQ:K.In base
 glob:base.Ns mainGlobals mg
 blt:∃ mb,base.Ns builtinsNs mb/\∀ x:Str,x ≠ "__name__" -> mb x=bootBuiltins x
 nolimit:base.NoLimit
structure Cx where
 prog:Program
 w:World
 K:PySem.W.Frag
 mg:Str->Option Value
 base:Heap
 A:Around
 N:List Str
 Ŗ:Shared
 OE:Hp
 env:Env
 outer:List Env
 stack:List Env
 ex:List Addr
 fn:Str->Bool
 calm:Bool
 pn:List (Addr × Obj)
 xe:Value->Shared->Prop
def nu (l:List Env):List Addr:=l.filterMap (·.frame)
abbrev Cx.fs (X:Cx):List Addr:=nu X.outer
def yy (sc:Scope)(x:Str):Prop:=sc.names.lookup x=some .local\/sc.names.lookup x=some .cell\/sc.names.lookup x=some .free
def CB (sc:Scope)(x:Str):Prop:=sc.names.lookup x=some .local\/sc.names.lookup x=some .cell
def Kb (env:Env)(h:Heap)(m:bC)(x:Str)(u:Value):Prop :=
 (env.kindOf x=some .local/\m x=some u)\/((env.kindOf x=some .cell\/env.kindOf x=some .free)/\∃ c,env.cells.lookup x=some c/\h.IsCell c (some u))
structure Cx.Ok (X:Cx):Prop where
 mod:Mod X.K X.mg X.base
 kind:X.env.scope.kind=.function
 glob:X.env.globals=mainGlobals
 blt:X.env.builtins=builtinsNs
 above:X.Ŗ.heap.objs.size<=X.env.locals
 inj:∀ x y c,X.env.cells.lookup x=some c->X.env.cells.lookup y=some c->x=y
 has:∀ x,(X.env.kindOf x=some .cell\/X.env.kindOf x=some .free)->∃ c,X.env.cells.lookup x=some c
 QY:∀ x c,X.fn x=true->X.env.cells.lookup x=some c->X.Ŗ.heap.objs.size<=c
 hd:X.calm=true->X.A.handled=none
 frames:X.A.frames=some X.stack
 Re:X.stack=X.outer\/(X.stack=X.env::X.outer/\X.env.frame=some X.env.locals)
 Tk:∀ b∈X.ex,b≠X.env.locals/\∀ x c,X.env.cells.lookup x=some c->c≠b
 bs:∀ b o,X.base.get? b=some o->X.Ŗ.heap.get? b=some o/\X.OE b=none
 Oh:X.base.objs.size<=X.Ŗ.heap.objs.size
 MV:∀ b o,X.base.get? b=some o->b ∉ X.ex
 NW:∀ b∈X.ex,b ∉ X.fs
 ς:X.Ŗ.heap.FunFrames X.base X.outer
 PQ:∀ b∈X.fs,X.OE b=none
structure Inv (X:Cx)(Ä:List (Addr × Obj))(σ:List (Option V))(H:Hp)(s:Shared):Prop where
 ok:X.Ok
 os:s.os=X.Ŗ.os
 bare:AllBare s.gens
 base:Un X.fs X.ex X.OE H X.Ŗ.heap s.heap
 loc:∃ m,s.heap.Ns X.env.locals m/\∀(i:Nat)(x:Str)(v:V),X.N[i]?=some x->σ[i]?=some (some v)->yy X.env.scope x->∃ u,RelV v u/\Kb X.env s.heap m x u
 cell:∀ x c,X.env.cells.lookup x=some c->∃ v,s.heap.IsCell c v
 free:H X.env.locals=none
 Ť:∀ x c,X.env.cells.lookup x=some c->H c=none
 pin:∀ p∈X.pn ++ Ä,s.heap.get? p.1=some p.2/\H p.1=none/\p.1≠X.env.locals/\p.1 ∉ X.fs/\∀ v,p.2.data ≠ .cell v
 ċ:Ι X.prog X.w H s.heap
 len:σ.length=X.N.length
section
variable {X:Cx}{Ä:List (Addr × Obj)}{σ:List (Option V)}{H H':Hp}{s:Shared}{h':Heap}
theorem Cx.Ok.Vr (ok:X.Ok)(e:X.base.get? b=some o):b ∉ X.fs:=λ hb=>by
 have:=(ok.ς.mem hb).1;rw [e] at this;cases this
theorem Inv.bs (I:Inv X Ä σ H s):∀ b o,X.base.get? b=some o->s.heap.get? b=some o/\H b=none:=λ b o e =>
 ⟨I.base.keep b o (I.ok.bs b o e).1 (I.ok.bs b o e).2 (I.ok.Vr e) (I.ok.MV b o e),I.base.free b o (I.ok.bs b o e).1 (I.ok.bs b o e).2 (I.ok.MV b o e)⟩
theorem Inv.bk (I:Inv X Ä σ H s):∀ b o,X.base.get? b=some o->s.heap.get? b=some o:=λ b o e=>(I.bs b o e).1
theorem Inv.mod (I:Inv X Ä σ H s):Mod X.K X.mg X.base:=I.ok.mod
theorem Inv.Ō (I:Inv X Ä σ H s):X.K.In s.heap:=I.ok.mod.QQ.keeps I.bk
theorem Inv.lt (I:Inv X Ä σ H s):X.env.locals<s.heap.objs.size:=let ⟨_,hn,_⟩:=I.loc;hn.lt
theorem Inv.sz (I:Inv X Ä σ H s):X.Ŗ.heap.objs.size<=s.heap.objs.size:=õ I.ok.above (Q4 I.lt)
theorem Inv.Vq (I:Inv X Ä σ H s)(h:s.heap.objs.size<=a):a ∉ X.fs:=λ hb=>by
 obtain⟨_,o,ho,_⟩:=I.ok.ς.mem hb;exact absurd (Þ (É ho) (õ I.sz h)) (Ķ _)
theorem Inv.Px (I:Inv X Ä σ H s):∀ x c,X.env.cells.lookup x=some c->c≠X.env.locals:=λ x c e z=>by
 obtain⟨v,o,ho,hd⟩:=I.cell x c e;obtain⟨m,⟨o',es,ep,Rw,NU,_⟩,_⟩:=I.loc;rw [z,Rw] at ho;cases ho;rw [NU] at hd;cases hd
theorem Inv.ς (I:Inv X Ä σ H s):s.heap.FunFrames X.base X.outer:=by
 have all:∀(l:List Env),(∀ b∈nu l,b∈X.fs)->X.Ŗ.heap.FunFrames X.base l->s.heap.FunFrames X.base l:=by
  intro l
  induction l with
  | nil=>intro _ _;trivial
  | cons env r ih =>
   intro hs hl;obtain⟨hk,⟨L,o,hf,hn,ho,hd⟩,hr⟩:=hl;have hL:=hs L (by unfold nu;rw [Mn,hf];exact ò)
   obtain⟨sl,e⟩:=I.base.slot L o ho (I.ok.PQ L hL) hL λ z=>I.ok.NW L z hL;exact⟨hk,⟨L,_,hf,hn,e,hd⟩,ih (λ b hb=>hs b (by unfold nu;rw [Mn,hf];exact á _ hb)) hr⟩
 exact all X.outer (λ _ hb=>hb) I.ok.ς
theorem Inv.stack (I:Inv X Ä σ H s):s.heap.FunFrames X.base X.stack:=by
 rcases I.ok.Re with e | ⟨e,hf⟩
 ·rw [e];exact I.ς
 ·rw [e];obtain⟨m,hn,_⟩:=I.loc;refine .cons (by rw [I.ok.kind];decide) hf hn ?_ I.ς
  exact Heap.get?_none_of_le (õ I.ok.Oh I.ok.above)
theorem Inv.ż (I:Inv X Ä σ H s):∀ b∈nu X.stack,b∈X.env.locals::X.fs:=λ b hb=>by
 rcases I.ok.Re with e | ⟨e,hf⟩
 ·rw [e] at hb;exact á _ hb
 ·rw [e] at hb;unfold nu at hb;rw [Mn,hf] at hb;exact hb
theorem Inv.F' (I:Inv X Ä σ H s):∀ b∈nu X.stack,H b=none:=λ b hb=>by
 rcases ë.mp (I.ż b hb) with e | hb
 ·rw [e];exact I.free
 ·obtain⟨_,o,ho,_⟩:=I.ok.ς.mem hb;exact I.base.free b o ho (I.ok.PQ b hb) λ z=>I.ok.NW b z hb
theorem Inv.step {ch:List Addr}(I:Inv X Ä σ H s)
  (PN:∀ b∈ch,(b∈X.ex\/X.Ŗ.heap.objs.size<=b)/\b≠X.env.locals/\(∀ x c,X.env.cells.lookup x=some c->c≠b)/\∀ p∈X.pn ++ Ä,p.1≠b)
  (keep:∀ b o,b≠X.env.locals->b ∉ X.fs->b ∉ ch->s.heap.get? b=some o->H b=none->h'.get? b=some o)
  (slot:∀ b o,b≠X.env.locals->b∈X.fs->b ∉ ch->s.heap.get? b=some o->H b=none->∃ sl,h'.get? b=some { o with slots:=sl })(free:∀ b o,b ∉ ch->s.heap.get? b=some o->H b=none->H' b=none)
  (there:∀ b o,b ∉ ch->s.heap.get? b=some o->∃ o',h'.get? b=some o')
  (K':∀ b xs,H b=some (.tup xs)->H' b=some (.tup xs))(D_:∀ b o u,H b=some (.υ o u)->H' b=some (.υ o u))(K_:∀ b ps,H b=some (.Rb ps)->∃ more,H' b=some (.Rb (ps++more)))(sys:H sysModules=none->H' sysModules=none)
  (ns:∀ m,s.heap.Ns X.env.locals m->h'.Ns X.env.locals m)(ċ:Ι X.prog X.w H' h')(hg:AllBare g') :
  Inv X Ä σ H' { s with heap:=h',gens:=g',drawn:=d',toks:=t' }:=by
 have Xx:∀ b o,X.Ŗ.heap.get? b=some o->b≠X.env.locals:=λ b o e=>Ó (Þ (É e) I.ok.above);have T_:∀ b o,X.Ŗ.heap.get? b=some o->b ∉ X.ex->b ∉ ch:=λ b o e hx hb=>by
  rcases(PN b hb).1 with z | z
  ·exact hx z
  ·exact absurd (Þ (É e) z) (Ķ _)
 have cellK:∀ x c,X.env.cells.lookup x=some c->∀ v,s.heap.IsCell c v->h'.IsCell c v:=λ x c e v ⟨o,ho,hd⟩=>by
  have N_:=λ z=>(PN c z).2.2.1 x c e rfl;by_cases hc:c∈X.fs
  ·obtain⟨sl,q⟩:=slot c o (I.Px x c e) hc N_ ho (I.Ť x c e);exact⟨_,q,hd⟩
  ·exact⟨o,keep c o (I.Px x c e) hc N_ ho (I.Ť x c e),hd⟩
 refine⟨I.ok,I.os,hg,⟨λ b o e n hb hx=>?_,λ b o e n hb hx=>?_,λ b o e n hx=>?_,λ b o e hx=>?_,λ b xs e=>K' b xs (I.base.K' b xs e),λ b o xs e=>D_ b o xs (I.base.D_ b o xs e),λ b ps e=>?_,λ q=>sys (I.base.sys q)⟩,?_,λ x c e=>?_,?_,λ x c e=>?_,λ p hp=>?_,ċ,I.len⟩
 ·exact keep b o (Xx b o e) hb (T_ b o e hx) (I.base.keep b o e n hb hx) (I.base.free b o e n hx)
 ·obtain⟨sl,e1⟩:=I.base.slot b o e n hb hx;obtain⟨U6,e2⟩:=slot b _ (Xx b o e) hb (T_ b o e hx) e1 (I.base.free b o e n hx);exact⟨U6,e2⟩
 ·obtain⟨o',e1⟩:=I.base.there b o e hx;exact free b o' (T_ b o e hx) e1 (I.base.free b o e n hx)
 ·obtain⟨o',e1⟩:=I.base.there b o e hx;exact there b o' (T_ b o e hx) e1
 ·obtain⟨m1,e1⟩:=I.base.K_ b ps e;obtain⟨m2,e2⟩:=K_ b _ e1;exact⟨m1++m2,by rw [e2,Array.append_assoc]⟩
 ·obtain⟨m,hn,hl⟩:=I.loc;refine⟨m,ns m hn,λ i x v e1 e2 e3=>?_⟩;obtain⟨u,r,l⟩:=hl i x v e1 e2 e3;refine⟨u,r,?_⟩;rcases l with l | ⟨k,c,e,z⟩
  ·exact .inl l
  ·exact .inr ⟨k,c,e,cellK x c e _ z⟩
 ·obtain⟨v,z⟩:=I.cell x c e;exact⟨v,cellK x c e v z⟩
 ·obtain⟨m,⟨o,_,_,ho,_⟩,_⟩:=I.loc;exact free _ o (λ z=>(PN _ z).2.1 rfl) ho I.free
 ·obtain⟨v,o,ho,hd⟩:=I.cell x c e;exact free c o (λ z=>(PN c z).2.2.1 x c e rfl) ho (I.Ť x c e)
 ·obtain⟨e,n,ne,nf,d⟩:=I.pin p hp;have N_:=λ z=>(PN p.1 z).2.2.2 p hp rfl;exact⟨keep p.1 p.2 ne nf N_ e n,free p.1 p.2 N_ e n,ne,nf,d⟩
theorem Inv.un (I:Inv X Ä σ H s)(u:Un X.fs [] H H' s.heap h')(ċ:Ι X.prog X.w H' h'):Inv X Ä σ H' { s with heap:=h',toks:=t' }:=by
 obtain⟨m,⟨o,es,ep,ho,r⟩,_⟩:=id I.loc;obtain⟨sl,hL⟩:=u.any ho I.free (by simp)
 exact I.step (ch:=[]) (λ _ z=>nomatch z) (λ b o _ hb _ e n=>u.keep b o e n hb (by simp)) (λ b o _ hb _ e n=>u.slot b o e n hb (by simp)) (λ b o _ e n=>u.free b o e n (by simp)) (λ b o _ e=>u.there b o e (by simp)) u.K' u.D_ u.K_ u.sys (λ m' hm=>by
  obtain⟨o',RJ,UB,Rw,r'⟩:=hm;rw [ho] at Rw;cases Rw;exact⟨_,RJ,UB,hL,r'⟩) ċ I.bare
theorem Inv.call (I:Inv X Ä σ H s)(u:Un (nu X.stack) ch H H' s.heap h')(ċ:Ι X.prog X.w H' h')(hg:AllBare g')
  (PN:∀ b∈ch,(b∈X.ex\/X.Ŗ.heap.objs.size<=b)/\b≠X.env.locals/\(∀ x c,X.env.cells.lookup x=some c->c≠b)/\∀ p∈X.pn ++ Ä,p.1≠b) :
  Inv X Ä σ H' { s with heap:=h',gens:=g',drawn:=d',toks:=t' }:=by
 obtain⟨m,⟨o,es,ep,ho,r⟩,_⟩:=id I.loc;obtain⟨sl,hL⟩:=u.any ho I.free λ z=>(PN _ z).2.1 rfl;exact I.step PN (λ b o hL hb hc e n=>u.keep b o e n (λ z=>(ë.mp (I.ż b z)).elim hL hb) hc) (λ b o _ _ hc e n=>u.any e n hc) (λ b o hc e n=>u.free b o e n hc) (λ b o hc e=>u.there b o e hc) u.K' u.D_ u.K_ u.sys (λ m' hm=>by
  obtain⟨o',RJ,UB,Rw,r'⟩:=hm;rw [ho] at Rw;cases Rw;exact⟨_,RJ,UB,hL,r'⟩) ċ hg
theorem Inv.turned (I:Inv X Ä σ H s)(k:∀ b o,b≠it->s.heap.get? b=some o->h'.get? b=some o)(hn:H it=none)(hL:it≠X.env.locals)
  (h1:it∈X.ex\/X.Ŗ.heap.objs.size<=it)(h2:∀ x c,X.env.cells.lookup x=some c->c≠it)(h3:∀ p∈X.pn ++ Ä,p.1≠it):Inv X Ä σ H { s with heap:=h',toks:=t' }:=by
 have Xt:∀ b u,H b=some u->b≠it:=λ b u e z=>by rw [z,hn] at e;cases e
 refine I.step (ch:=[it]) (λ b hb=>?_) (λ b o _ _ hc e _=>k b o (λ z=>hc (by simp [z])) e) (λ b o _ _ hc e _=>⟨o.slots,k b o (λ z=>hc (by simp [z])) e⟩) (λ _ _ _ _ n=>n)
  (λ b o hc e=>⟨o,k b o (λ z=>hc (by simp [z])) e⟩) (λ _ _ e=>e) (λ _ _ _ e=>e) (λ b ps e=>⟨#[],by rw [e];simp⟩) (λ q=>q) (λ m hm=>?_) (λ b u e=>?_) I.bare
 ·have e:b=it:=by simpa using hb
  subst e;exact⟨h1,hL,h2,h3⟩
 ·obtain⟨o,es,ep,ho,r⟩:=hm;exact⟨o,es,ep,k _ o (Ne.symm hL) ho,r⟩
 ·refine(I.ċ b u e).l_ (λ c v hc q=>k c v ?_ q) (λ _ q=>q) λ _ _ q=>q;rcases hc with z | z
  ·rw [z];exact Xt b u e
  ·exact Xt c _ z
theorem Inv.tok (I:Inv X Ä σ H s)(t:Nat):Inv X Ä σ H { s with toks:=t }:=I.un Un.refl I.ċ
theorem Inv.kept (I:Inv X Ä σ H s)(k:∀ b u,s.heap.get? b=some u->h'.get? b=some u):Inv X Ä σ H { s with heap:=h',toks:=t' }:=I.un (Un.kept k) (I.ċ.kept k)
theorem Inv.laid (I:Inv X Ä σ H s)(k:∀ b u,s.heap.get? b=some u->h'.get? b=some u)(hp:s.heap.objs.size<=a)(new:Ą X.prog X.w (ad H a o) h' a o) :
  Inv X Ä σ (ad H a o) { s with heap:=h',toks:=t' }:=I.un (Un.laid k hp (I.ċ.fresh hp) (h_ (by decide:sysModules<mainGlobals) (I.mod.glob.keeps I.bk).lt)) (I.ċ.laid k hp new)
theorem Inv.write (I:Inv X Ä σ H s)(mu:DB (H x))(he:e=x\/H e=some (.own x))(k:∀ b u,b≠e->s.heap.get? b=some u->h'.get? b=some u)(RZ:∃ u,h'.get? e=some u)
  (new:Ą X.prog X.w (ad H x o) h' x o):Inv X Ä σ (ad H x o) { s with heap:=h',toks:=t' }:=I.un (Un.write mu he k RZ) (I.ċ.write mu he k RZ new)
theorem Inv.N9 (I:Inv X Ä σ H s)(h:∀ p∈Nl,s.heap.get? p.1=some p.2/\H p.1=none/\p.1≠X.env.locals/\p.1 ∉ X.fs/\∀ v,p.2.data ≠ .cell v):Inv X Nl σ H s :=
 ⟨I.ok,I.os,I.bare,I.base,I.loc,I.cell,I.free,I.Ť,λ p hp=>(ģ.mp hp).elim (λ z=>I.pin p (H_ _ z)) (h p),I.ċ,I.len⟩
theorem j8 {N:List Str}(hN:N.Nodup){i j:Nat}(a:N[i]?=some x)(b:N[j]?=some x):i=j:=by
 obtain⟨h1,e1⟩:=Å.mp a;obtain⟨h2,e2⟩:=Å.mp b;exact(List.getElem_inj hN).mp (e1.trans e2.symm)
theorem lF (I:Inv X Ä σ H s)(hN:X.N.Nodup)(hi:X.N[i]?=some x)(hx:CB X.env.scope x)(r:RelV v u)
  (h:∀ s',Inv X Ä (σ.set i (some v)) H s'->(∃ a,Heap.SameBut a s.heap s'.heap/\(a=X.env.locals\/X.env.cells.lookup x=some a))->Q () s')(hf:X.fn x=true\/X.env.scope.names.lookup x=some .local:=by first | exact .inl rfl | exact .inr rfl | assumption):wpAny M A (storeName X.env x u) Q E s:=by
 obtain⟨m,hn,hl⟩:=id I.loc;have Rz:(X.env.scope.kind == .class||(X.env.scope.kind == .module&&X.env.locals != X.env.globals))=false:=by rw [I.ok.kind];rfl
 have OA:i < σ.length:=by rw [I.len];exact(Å.mp hi).1
 have Px:=I.Px;have tracked:∀{a:Addr}{h':Heap},(∃ o,s.heap.get? a=some o/\H a=none)->Heap.SameBut a s.heap h'->Ι X.prog X.w H h':=λ {a h'} ha hs b ob e=>by
  obtain⟨_,_,QV⟩:=ha;refine(I.ċ b ob e).l_ (λ c w' hc q=>(hs.2 c ?_).trans q) (λ _ q=>q) λ _ _ q=>q;rintro rfl;rcases hc with rfl | hc
  ·rw [QV] at e;cases e
  ·rw [QV] at hc;cases hc
 rcases hx with hk | hk
 ·refine wpAny_storeName_local hk hn (λ h' QT hs=>?_) Rz;obtain⟨oL,_,_,XO,_⟩:=id hn;refine h _ ⟨I.ok,I.os,I.bare,⟨λ b o e n hb hx=>?_,λ b o e n hb hx=>?_,I.base.free,λ b o e hx=>?_,I.base.K',I.base.D_,I.base.K_,I.base.sys⟩,⟨_,QT,λ j y v' e1 e2 e3=>?_⟩,λ y c e=>?_,I.free,I.Ť,λ p hp=>?_,tracked ⟨oL,XO,I.free⟩ hs,by simpa using I.len⟩ ⟨_,hs,.inl rfl⟩
  ·exact(hs.2 b (Ó (Þ (É e) I.ok.above))).trans (I.base.keep b o e n hb hx)
  ·obtain⟨sl,e1⟩:=I.base.slot b o e n hb hx;exact⟨sl,(hs.2 b (Ó (Þ (É e) I.ok.above))).trans e1⟩
  ·obtain⟨o',e1⟩:=I.base.there b o e hx;exact⟨o',(hs.2 b (Ó (Þ (É e) I.ok.above))).trans e1⟩
  ·by_cases hj:j=i
   ·subst hj;rw [hi] at e1;cases e1;rw [Ū OA] at e2;cases e2;exact⟨u,r,.inl ⟨hk,by simp⟩⟩
   ·rw [I_ (Ne.symm hj)] at e2;obtain⟨u',r',q⟩:=hl j y v' e1 e2 e3;refine⟨u',r',?_⟩;rcases q with⟨k,e⟩ | ⟨k,c,e,z⟩
    ·refine .inl ⟨k,?_⟩;have:y≠x:=λ e=>hj (j8 hN e1 (e ▸ hi));simp [this,e]
    ·exact .inr ⟨k,c,e,z.sameBut hs (Px y c e)⟩
  ·obtain⟨w',z⟩:=I.cell y c e;exact⟨w',z.sameBut hs (Px y c e)⟩
  ·obtain⟨e,n,ne,nf,d⟩:=I.pin p hp;exact⟨(hs.2 p.1 ne).trans e,n,ne,nf,d⟩
 ·have Wn:X.fn x=true:=by
   rcases hf with z | z
   ·exact z
   ·rw [z] at hk;cases hk
  obtain⟨c,hc⟩:=I.ok.has x (.inl hk);obtain⟨w',z⟩:=I.cell x c hc;refine wpAny_storeName_cell I.ok.kind hk hc z (λ h' MF hs=>?_);obtain⟨oc,XM,Wd⟩:=id z;refine h { s with heap:=h' } ⟨I.ok,I.os,I.bare,⟨λ b o e n hb hx=>?_,λ b o e n hb hx=>?_,I.base.free,λ b o e hx=>?_,I.base.K',I.base.D_,I.base.K_,I.base.sys⟩,⟨m,hn.sameBut hs (Ne.symm (Px x c hc)),λ j y v' e1 e2 e3=>?_⟩,λ y c' e=>?_,I.free,I.Ť,λ p hp=>?_,tracked ⟨oc,XM,I.Ť x c hc⟩ hs,by simpa using I.len⟩ ⟨c,hs,.inr hc⟩
  ·exact(hs.2 b (Ó (Þ (É e) (I.ok.QY x c Wn hc)))).trans (I.base.keep b o e n hb hx)
  ·obtain⟨sl,e1⟩:=I.base.slot b o e n hb hx;exact⟨sl,(hs.2 b (Ó (Þ (É e) (I.ok.QY x c Wn hc)))).trans e1⟩
  ·obtain⟨o',e1⟩:=I.base.there b o e hx;exact⟨o',(hs.2 b (Ó (Þ (É e) (I.ok.QY x c Wn hc)))).trans e1⟩
  ·by_cases hj:j=i
   ·subst hj;rw [hi] at e1;cases e1;rw [Ū OA] at e2;cases e2;exact⟨u,r,.inr ⟨.inl hk,c,hc,MF⟩⟩
   ·rw [I_ (Ne.symm hj)] at e2;obtain⟨u',r',q⟩:=hl j y v' e1 e2 e3;refine⟨u',r',?_⟩;rcases q with q | ⟨k,c',e,z'⟩
    ·exact .inl q
    ·refine .inr ⟨k,c',e,z'.sameBut hs ?_⟩;rintro rfl;exact hj (j8 hN e1 (I.ok.inj _ _ _ e hc ▸ hi))
  ·by_cases XY:c'=c
   ·subst XY;exact⟨_,MF⟩
   ·obtain⟨w2,z2⟩:=I.cell y c' e;exact⟨w2,z2.sameBut hs XY⟩
  ·obtain⟨e,n,ne,nf,d⟩:=I.pin p hp;refine⟨(hs.2 p.1 ?_).trans e,n,ne,nf,d⟩;intro q;rw [q,XM] at e;have q':=Õ e;exact d w' (by rw [<- q'];exact Wd)
theorem eY (I:Inv X Ä σ H s)(hN:X.N.Nodup)(hi:X.N[i]?=some x)(hx:CB X.env.scope x)(r:RelV v u)
  (h:∀ s',Inv X Ä (σ.set i (some v)) H s'->Q () s')(hf:X.fn x=true\/X.env.scope.names.lookup x=some .local:=by first | exact .inl rfl | exact .inr rfl | assumption):wpAny M A (storeName X.env x u) Q E s :=
 lF I hN hi hx r (λ s' I' _=>h s' I') hf
theorem Inv.Og (I:Inv X Ä σ H s)(ho:s'.os=s.os)(u:Un (nu X.stack) ch H H' s.heap s'.heap)(ċ:Ι X.prog X.w H' s'.heap)(hg:AllBare s'.gens)
  (PN:∀ b∈ch,(b∈X.ex\/X.Ŗ.heap.objs.size<=b)/\b≠X.env.locals/\(∀ x c,X.env.cells.lookup x=some c->c≠b)/\∀ p∈X.pn ++ Ä,p.1≠b):Inv X Ä σ H' s':=by
 obtain⟨h',g',d',t',o'⟩:=s';have e:=ho;subst e;exact I.call u ċ hg PN
end
abbrev XK:=Value->Option Addr->Hp->Prop
abbrev St:=List (Option V)
abbrev VK:=V->Hp->Prop
abbrev TE:=St->Hp->VK->Prop
abbrev TT:=St->Hp->(Bool->Hp->Prop)->Prop
abbrev TA:=St->Hp->(List V->Hp->Prop)->Prop
structure bX where
 nx:St->Hp->Prop
 rt:VK
 bk:St->Hp->Prop:=λ _ _=>False
 ct:St->Hp->Prop:=λ _ _=>False
abbrev TS:=bX->St->Hp->Prop
def EP (X:Cx)(Ä:List (Addr × Obj))(σ:St)(Q:VK)(u:Value)(s':Shared):Prop:=∃ v H',Inv X Ä σ H' s'/\RelV v u/\Q v H'
def TP (X:Cx)(Ä:List (Addr × Obj))(σ:St)(Q:Bool->Hp->Prop)(b:Bool)(s':Shared):Prop:=∃ H',Inv X Ä σ H' s'/\Q b H'
def AP (X:Cx)(Ä:List (Addr × Obj))(σ:St)(Q:List V->Hp->Prop)(us:List Value)(s':Shared):Prop:=∃ vs H',Inv X Ä σ H' s'/\Vals vs us/\Q vs H'
def SP (X:Cx)(Ä:List (Addr × Obj))(D:bX)(f:Flow)(s':Shared):Prop :=
 match f with
 | .next=>∃ ĝ H',Inv X Ä ĝ H' s'/\D.nx ĝ H'
 | .brk=>∃ ĝ H',Inv X Ä ĝ H' s'/\D.bk ĝ H'
 | .cont=>∃ ĝ H',Inv X Ä ĝ H' s'/\D.ct ĝ H'
 | .ret u=>∃ v ĝ H',Inv X Ä ĝ H' s'/\RelV v u/\D.rt v H'
def PE (X:Cx)(e:Expr)(t:TE):Prop :=
 ∀(Ä:List (Addr × Obj))(s:Shared)(σ:St)(H:Hp)(Q:VK),Inv X Ä σ H s->t σ H Q->wpAny (model X.prog X.w) X.A (eval e X.env) (EP X Ä σ Q) X.xe s
def PT (X:Cx)(e:Expr)(t:TT):Prop :=
 ∀(Ä:List (Addr × Obj))(s:Shared)(σ:St)(H:Hp)(Q:Bool->Hp->Prop),Inv X Ä σ H s->t σ H Q->wpAny (model X.prog X.w) X.A (isTrue e X.env (eval e X.env)) (TP X Ä σ Q) X.xe s
def PW (X:Cx)(e:Expr)(t:TT):Prop :=
 ∀(whole:Sem Value)(Ä:List (Addr × Obj))(s:Shared)(σ:St)(H:Hp)(Q:Bool->Hp->Prop),Inv X Ä σ H s->t σ H Q->wpAny (model X.prog X.w) X.A (isTrue e X.env whole) (TP X Ä σ Q) X.xe s
theorem PW.pt (h:PW X e t):PT X e t:=h _
def PA (X:Cx)(es:List Expr)(t:TA):Prop :=
 ∀(ô:Pos)(Ä:List (Addr × Obj))(s:Shared)(σ:St)(H:Hp)(Q:List V->Hp->Prop),Inv X Ä σ H s->t σ H Q->wpAny (model X.prog X.w) X.A (spliced (backTo ô (starEach es X.env))) (AP X Ä σ Q) X.xe s
def PS (X:Cx)(st:Stmt)(t:TS):Prop :=
 ∀(Ä:List (Addr × Obj))(s:Shared)(σ:St)(H:Hp)(D:bX),Inv X Ä σ H s->t D σ H->wpAny (model X.prog X.w) X.A (exec st X.env) (SP X Ä D) X.xe s
def Ž (X:Cx)(st:List Stmt)(t:TS):Prop :=
 ∀(Ä:List (Addr × Obj))(s:Shared)(σ:St)(H:Hp)(D:bX),Inv X Ä σ H s->t D σ H->wpAny (model X.prog X.w) X.A (execs st X.env) (SP X Ä D) X.xe s
theorem aV {α:Type}{t:Sem α}{Q Q':α->Shared->Prop}{M:Model}{A:Around}{E:fg}{s:Shared}(h:wpAny M A t Q E s)(hQ:∀ a s,Q a s->Q' a s):wpAny M A t Q' E s:=ñ h hQ λ _ _ x=>x
section
variable {X:Cx}
theorem LU (ha:PE X a ta)(hb:PE X b tb){R:V->V->Hp->Prop}(I:Inv X Ä σ H s)(h:ta σ H λ x H1=>tb σ H1 λ y H2=>R x y H2)
  {α:Type}{Q:α->Shared->Prop}{f:Value->Value->Sem α}
  (hf:∀ v u s2 x y H2,Inv X Ä σ H2 s2->RelV x v->RelV y u->R x y H2->wpAny (model X.prog X.w) X.A (f v u) Q X.xe s2) :
  wpAny (model X.prog X.w) X.A (eval a X.env) (λ v Ď=>wpAny (model X.prog X.w) X.A (eval b X.env) (λ u Ż=>wpAny (model X.prog X.w) X.A (f v u) Q X.xe Ż) X.xe Ď) X.xe s:=by
 refine aV (ha Ä s σ H _ I h) λ v s1 ⟨x,H1,I1,r1,q1⟩=>?_;refine aV (hb Ä s1 σ H1 _ I1 q1) λ u s2 ⟨y,H2,I2,r2,q2⟩=>?_;exact hf v u s2 x y H2 I2 r1 r2 q2
def ag (i:Nat):TE:=λ σ H Q=>∃ v,σ[i]?=some (some v)/\Q v H
def tC (v:V):TE:=λ _ H Q=>Q v H
theorem zN (hN:X.N[i]?=some x)(hv:yy X.env.scope x)(hd:(x==("__debug__" : Str))=false:=by decide)(OB:(x==("__classdict__" : Str))=false:=by decide):PE X (.Name x ô) (ag i):=by
 intro Ä s σ H Q I h;obtain⟨v,e,h⟩:=h;obtain⟨m,hn,hl⟩:=I.loc;obtain⟨u,r,l⟩:=hl i x v hN e hv;have fin:EP X Ä σ Q u s:=⟨v,H,I,r,h⟩;rcases l with⟨hk,hm⟩ | ⟨hk,c,hc,L6⟩
 ·exact wpAny_Name (wpAny_loadName_local I.ok.kind hk hn hm fin) hd
 ·rcases hk with hk | hk
  ·exact wpAny_Name (wpAny_loadName_cell I.ok.kind hk hc L6 fin) hd
  ·exact wpAny_Name (wpAny_loadName_free I.ok.kind hk hc L6 fin OB) hd
theorem aF {i j ô}:PE X (.Constant (.int i) j ô) (tC (.int i)):=λ _ _ _ H _ I h=>wpAny_Constant_int ⟨.int i,H,I.tok _,⟨_,rfl⟩,h⟩
theorem vy {b j ô}:PE X (.Constant (.bool b) j ô) (tC (.bl b)):=λ _ _ _ H _ I h=>Constant_bool ⟨.bl b,H,I,rfl,h⟩
theorem hI {j ô}:PE X (.Constant .none j ô) (tC .Ċ):=λ _ _ _ H _ I h=>Constant_none ⟨.Ċ,H,I,rfl,h⟩
theorem ay {x j ô}:PE X (.Constant (.str x) j ô) (tC (.str x)):=λ _ _ _ H _ I h=>Calls.Constant_str ⟨.str x,H,I.tok _,⟨_,rfl⟩,h⟩
def Gl (X:Cx)(x:Str):Prop:=X.env.kindOf x=some .globalImplicit
theorem eO (I:Inv X Ä σ H s)(hg:Gl X x)(hm:X.mg x=some u)(h:Q u s)
  (hd:(x==("__debug__" : Str))=false:=by decide):wpAny (model X.prog X.w) X.A (eval (.Name x ô) X.env) Q E s :=
 Calls.Name_function_global I.ok.kind hg (Calls.loadGlobal_global (by rw [I.ok.glob];exact I.mod.glob.keeps I.bk) hm h) hd
theorem gC (I:Inv X Ä σ H s)(hg:Gl X x)(hm:X.mg x=none)(hv:bootBuiltins x=some u)(h:Q u s)
  (hn:x ≠ "__name__" := by decide)(hd:(x==("__debug__" : Str))=false:=by decide):wpAny (model X.prog X.w) X.A (eval (.Name x ô) X.env) Q E s:=by
 obtain⟨mb,h1,h2⟩:=I.mod.blt;exact Calls.Name_function_global I.ok.kind hg (Calls.loadGlobal_builtin (by rw [I.ok.glob];exact I.mod.glob.keeps I.bk) hm (by rw [I.ok.blt];exact h1.keeps I.bk) ((h2 x hn).trans hv) h) hd
theorem bA (hg:Gl X x)(hm:X.mg x=some u)(r:RelV v u)(hd:(x==("__debug__" : Str))=false:=by decide):PE X (.Name x ô) (tC v) :=
 λ _ _ _ H _ I h=>eO I hg hm ⟨v,H,I,r,h⟩ hd
theorem wY (hg:Gl X x)(hm:X.mg x=none)(hv:bootBuiltins x=some u)(r:RelV v u)(hn:x ≠ "__name__" := by decide)(hd:(x==("__debug__" : Str))=false:=by decide):PE X (.Name x ô) (tC v) :=
 λ _ _ _ H _ I h=>gC I hg hm hv ⟨v,H,I,r,h⟩ hn hd
def LL (ta tb:TE)(k:Int->Int->Hp->Prop):St->Hp->Prop:=λ σ H=>ta σ H λ x H1=>tb σ H1 λ y H2=>∃ i j,x=.int i/\y=.int j/\k i j H2
variable {a b:Expr}{ta tb:TE}{ô:Pos}
def PC (X:Cx)(op:CmpOp)(a b:Expr)(t:TE):Prop :=
 ∀(Ä:List (Addr × Obj))(s:Shared)(σ:St)(H:Hp)(Q:VK),Inv X Ä σ H s->t σ H Q ->
  wpAny (model X.prog X.w) X.A (eval a X.env) (λ v Ď=>wpAny (model X.prog X.w) X.A (eval b X.env) (λ u Ż=>wpAny (model X.prog X.w) X.A (compareOp op v u) (EP X Ä σ Q) X.xe Ż) X.xe Ď) X.xe s
theorem u9 (b:Expr)(h:op ≠ .In)(h2:op ≠ .NotIn):behindInMarks op b=false:=by
 have e1:(op==CmpOp.In)=false:=by cases op <;> first | rfl | exact absurd rfl h
 have e2:(op==CmpOp.NotIn)=false:=by cases op <;> first | rfl | exact absurd rfl h2
 cases b <;> simp [behindInMarks,e1,e2]
def Hw (p:Int->Int->Bool)(ta tb:TE):TE:=λ σ H Q=>LL ta tb (λ i j H2=>Q (.bl (p i j)) H2) σ H
abbrev HB:TE->TE->TE:=Hw λ i j=>decide (j<i)
abbrev xj:TE->TE->TE:=Hw λ i j=>decide (j<=i)
def tB (t:TE):TT:=λ σ H Q=>t σ H λ x H1=>∃ c,x=.bl c/\Q c H1
theorem Ia (h:PC X op a b t)(h1:behindInMarks op b=false:=by first | exact u9 _ au au | rfl):PT X (.Compare a [op] [b] ô) (tB t):=by
 intro Ä s σ H Q I hw;refine wpAny_isTrue_Compare1 (aV (h Ä s σ H _ I hw) λ v s1 h1=>aV h1 λ u s2 h2=>aV h2 λ c s3 ⟨x,H1,I1,r1,q1⟩=>?_) h1;obtain⟨d,rfl,q⟩:=q1;cases r1;exact ķ ⟨H1,I1,q⟩
theorem bE (h:PE X e t)(he:∀ whole,isTrue e X.env whole=(do let v <- whole;standAt e.pos;holding [v] (truthy v)):=by intro _;rfl):PT X e (tB t):=by
 intro Ä s σ H Q I hw;refine isTrue_plain (aV (h Ä s σ H _ I hw) λ v s1 ⟨x,H1,I1,r1,q1⟩=>?_) (he _);obtain⟨d,rfl,q⟩:=q1;cases r1;exact ķ ⟨H1,I1,q⟩
variable {tA T3:TT}{rest:List Expr}
def nI (t u:TT):TT:=λ σ H Q=>t σ H λ c H1=>if c=true then u σ H1 Q else Q false H1
def E6 (t u:TT):TT:=λ σ H Q=>t σ H λ c H1=>if c=true then Q true H1 else u σ H1 Q
def tm (t:TT):TT:=λ σ H Q=>t σ H λ c H1=>Q (!c) H1
theorem fh (ha:PT X a tA):PW X (.BoolOp .And [a] ô) tA:=by
 intro wh Ä s σ H Q I h;refine isTrue_and (aV (ha Ä s σ H Q I h) λ c s1 e=>?_);cases c with
 | true=>exact isTrue_and_nil e
 | false=>exact e
theorem fv (ha:PT X a tA):PW X (.BoolOp .Or [a] ô) tA:=by
 intro wh Ä s σ H Q I h;refine isTrue_or (aV (ha Ä s σ H Q I h) λ c s1 e=>?_);cases c with
 | false=>exact isTrue_or_nil e
 | true=>exact e
theorem gv (ha:PT X a tA)(hb:PW X (.BoolOp .And (b::rest) ô) T3):PW X (.BoolOp .And (a::b::rest) ô) (nI tA T3):=by
 intro wh Ä s σ H Q I h;refine isTrue_and (aV (ha Ä s σ H _ I h) λ c s1 ⟨H1,I1,q1⟩=>?_);cases c with
 | true=>exact hb wh Ä s1 σ H1 Q I1 q1
 | false=>exact⟨H1,I1,q1⟩
theorem gR (ha:PT X a tA)(hb:PW X (.BoolOp .Or (b::rest) ô) T3):PW X (.BoolOp .Or (a::b::rest) ô) (E6 tA T3):=by
 intro wh Ä s σ H Q I h;refine isTrue_or (aV (ha Ä s σ H _ I h) λ c s1 ⟨H1,I1,q1⟩=>?_);cases c with
 | true=>exact⟨H1,I1,q1⟩
 | false=>exact hb wh Ä s1 σ H1 Q I1 q1
theorem cp (ha:PT X a tA):PT X (.UnaryOp .Not a ô) (tm tA):=by
 intro Ä s σ H Q I h;exact isTrue_not (ha Ä s σ H (λ c H1=>Q (!c) H1) I h)
def yj (ta tb:TE):TE:=λ σ H Q=>ta σ H λ x H1=>∃ c,x=.bl c/\if c=true then tb σ H1 Q else Q (.bl false) H1
def AB (ta tb:TE):TE:=λ σ H Q=>ta σ H λ x H1=>∃ c,x=.bl c/\if c=true then Q (.bl true) H1 else tb σ H1 Q
def GQ (ta:TE):TE:=λ σ H Q=>ta σ H λ x H1=>∃ c,x=.bl c/\Q (.bl (!c)) H1
theorem fH {op}(h:PE X a t):PE X (.BoolOp op [a] ô) t:=λ Ä s σ H Q I hw=>BoolOp_one (h Ä s σ H Q I hw)
theorem fw (ha:PE X a ta)(hb:PE X (.BoolOp .And (b::rest) ô) tb):PE X (.BoolOp .And (a::b::rest) ô) (yj ta tb):=by
 intro Ä s σ H Q I h;refine BoolOp_and (aV (ha Ä s σ H _ I h) λ v s1 ⟨x,H1,I1,r1,q1⟩=>?_);obtain⟨c,rfl,q1⟩:=q1;cases r1;refine ķ ?_;cases c with
 | true=>exact hb Ä s1 σ H1 Q I1 q1
 | false=>exact⟨.bl false,H1,I1,rfl,q1⟩
theorem F5 (ha:PE X a ta)(hb:PE X (.BoolOp .Or (b::rest) ô) tb):PE X (.BoolOp .Or (a::b::rest) ô) (AB ta tb):=by
 intro Ä s σ H Q I h;refine BoolOp_or (aV (ha Ä s σ H _ I h) λ v s1 ⟨x,H1,I1,r1,q1⟩=>?_);obtain⟨c,rfl,q1⟩:=q1;cases r1;refine ķ ?_;cases c with
 | false=>exact hb Ä s1 σ H1 Q I1 q1
 | true=>exact⟨.bl true,H1,I1,rfl,q1⟩
theorem tL (ha:PE X a ta):PE X (.UnaryOp .Not a ô) (GQ ta):=by
 intro Ä s σ H Q I h;refine UnaryOp_ (aV (ha Ä s σ H _ I h) λ v s1 ⟨x,H1,I1,r1,q1⟩=>?_);obtain⟨c,rfl,q1⟩:=q1;cases r1;exact not_of (ķ ⟨.bl (!c),H1,I1,rfl,q1⟩)
def LS (t:TT)(ta tb:TE):TE:=λ σ H Q=>t σ H λ c H1=>if c=true then ta σ H1 Q else tb σ H1 Q
theorem oQ {c:Expr}(hc:PT X c tA)(ha:PE X a ta)(hb:PE X b tb):PE X (.IfExp c a b ô) (LS tA ta tb):=by
 intro Ä s σ H Q I h;refine wpAny_IfExp (aV (hc Ä s σ H _ I h) λ d s1 ⟨H1,I1,q1⟩=>?_);cases d with
 | true=>exact ha Ä s1 σ H1 Q I1 q1
 | false=>exact hb Ä s1 σ H1 Q I1 q1
end
def ç (K:PySem.W.Frag)(H:Hp)(a:Addr)(xs:List V):Prop :=
 Rd H a (.lst xs) \/
  ∃(o:Obj)(its:Array Value)(n:Nat),K.lookup a=some o/\o.cls=.type "list" /\ o.dict=none/\o.data=.seq its n/\its.size<=sizeLine/\Vals xs its.toList
def đ (K:PySem.W.Frag)(H:Hp)(a:Addr)(xs:List V):Prop :=
 Rd H a (.tup xs) \/
  ∃(o:Obj)(its:Array Value)(n:Nat),K.lookup a=some o/\o.cls=.type "tuple" /\ o.data=.seq its n/\its.size<=sizeLine/\Vals xs its.toList
def BU:Value->Option V
 | .none=>some .Ċ
 | .bool b=>some (.bl b)
 | .int i _=>some (.int i)
 | .str x _=>some (.str x)
 | .bytes b _=>some (.ON b)
 | .float b _=>some (.PR b)
 | .ref a=>some (.ref a)
 | .type n=>some (.ty n)
 | _=>none
theorem RelV.abs (r:RelV x u):BU u=some x:=by
 cases x with
 | Ċ=>cases r;rfl
 | bl _=>cases r;rfl
 | int _=>obtain⟨t,rfl⟩:=r;rfl
 | str _=>obtain⟨t,rfl⟩:=r;rfl
 | ON _=>obtain⟨t,rfl⟩:=r;rfl
 | PR _=>obtain⟨t,rfl⟩:=r;rfl
 | ref _=>cases r;rfl
 | ty _=>cases r;rfl
theorem RelV.inj {x y:V}{u:Value}(r:RelV x u)(q:RelV y u):x=y:=Õ (r.abs.symm.trans q.abs)
theorem Vals.inj:∀{xs ys:List V}{us:List Value},Vals xs us->Vals ys us->xs=ys
 | _,_,_,.nil,.nil=>rfl
 | _,_,_,.cons r t,.cons r' t'=>by rw [r.inj r',Vals.inj t t']
section
variable {X:Cx}{Ä:List (Addr × Obj)}{σ:St}{H:Hp}{s:Shared}{a:Addr}{xs ys:List V}
theorem ç.of {K:PySem.W.Frag}(h:H a=some (.lst xs)):ç K H a xs:=.inl (.inl h)
theorem đ.of {K:PySem.W.Frag}(h:H a=some (.tup xs)):đ K H a xs:=.inl (.inl h)
theorem Inv.list (I:Inv X Ä σ H s)(h:ç X.K H a xs):∃ its:List Value,Vals xs its/\PlainL s.heap a its.toArray/\xs.length<=sizeLine:=by
 rcases h with h | ⟨o,its,n,hk,hc,hd,hs,hz,r⟩
 ·obtain⟨z,its,n,r,e⟩:=h.ok I.ċ;exact⟨its,r,⟨_,n,e,rfl,rfl,rfl⟩,z⟩
 ·refine⟨its.toList,r,⟨o,n,I.Ō a o hk,hc,hd,by simpa using hs⟩,?_⟩
  have e:=r.length;simp only [Array.length_toList] at e;omega
theorem Inv.tuple (I:Inv X Ä σ H s)(h:đ X.K H a xs):∃ its:List Value,Vals xs its/\IsTup s.heap a its.toArray/\xs.length<=sizeLine:=by
 rcases h with h | ⟨o,its,n,hk,hc,hs,hz,r⟩
 ·obtain⟨z,its,r,p⟩:=h.ok I.ċ;exact⟨its,r,p,z⟩
 ·refine⟨its.toList,r,⟨o,I.Ō a o hk,hc,n,by simpa using hs⟩,?_⟩
  have e:=r.length;simp only [Array.length_toList] at e;omega
theorem Inv.d_ (I:Inv X Ä σ H s)(h:ç X.K H a xs)(h':ç X.K H a ys):xs=ys:=by
 obtain⟨its,r,⟨o,n,e,_,_,d⟩,_⟩:=I.list h;obtain⟨B_,r',⟨o',n',e',_,_,d'⟩,_⟩:=I.list h';rw [e] at e';cases e';rw [d] at d';injection d' with d1 _
 have:its=B_:=by simpa using congrArg Array.toList d1
 subst this;exact r.inj r'
theorem Inv.j_ (I:Inv X Ä σ H s)(h:đ X.K H a xs)(h':đ X.K H a ys):xs=ys:=by
 obtain⟨its,r,⟨o,e,_,n,d⟩,_⟩:=I.tuple h;obtain⟨B_,r',⟨o',e',_,n',d'⟩,_⟩:=I.tuple h';rw [e] at e';cases e';rw [d] at d';injection d' with d1 _
 have:its=B_:=by simpa using congrArg Array.toList d1
 subst this;exact r.inj r'
end
abbrev Cx.Mp (X:Cx)(E:fg):Cx:={ X with xe:=E }
abbrev Cx.ŋ (X:Cx):Cx:=X.Mp λ _ _=>False
theorem Cx.Ok.Mp {X:Cx}(ok:X.Ok)(E:fg):(X.Mp E).Ok :=
 ⟨ok.mod,ok.kind,ok.glob,ok.blt,ok.above,ok.inj,ok.has,ok.QY,ok.hd,ok.frames,ok.Re,ok.Tk,ok.bs,ok.Oh,ok.MV,ok.NW,ok.ς,ok.PQ⟩
theorem Cx.Ok.Ψ {X:Cx}(ok:(X.Mp E).Ok):X.Ok :=
 ⟨ok.mod,ok.kind,ok.glob,ok.blt,ok.above,ok.inj,ok.has,ok.QY,ok.hd,ok.frames,ok.Re,ok.Tk,ok.bs,ok.Oh,ok.MV,ok.NW,ok.ς,ok.PQ⟩
section
variable {X:Cx}{Ä:List (Addr × Obj)}{σ:St}{H:Hp}{s:Shared}{E:fg}
theorem Inv.Mp (I:Inv X Ä σ H s)(E:fg):Inv (X.Mp E) Ä σ H s:=⟨I.ok.Mp E,I.os,I.bare,I.base,I.loc,I.cell,I.free,I.Ť,I.pin,I.ċ,I.len⟩
theorem Inv.Ψ (I:Inv (X.Mp E) Ä σ H s):Inv X Ä σ H s:=⟨I.ok.Ψ,I.os,I.bare,I.base,I.loc,I.cell,I.free,I.Ť,I.pin,I.ċ,I.len⟩
theorem SP.Ψ {f:Flow}(h:SP (X.Mp E) Ä D f s'):SP X Ä D f s':=by
 cases f with
 | next=>obtain⟨ĝ,H',I,q⟩:=h;exact⟨ĝ,H',I.Ψ,q⟩
 | brk=>obtain⟨ĝ,H',I,q⟩:=h;exact⟨ĝ,H',I.Ψ,q⟩
 | cont=>obtain⟨ĝ,H',I,q⟩:=h;exact⟨ĝ,H',I.Ψ,q⟩
 | ret u=>obtain⟨v,ĝ,H',I,r,q⟩:=h;exact⟨v,ĝ,H',I.Ψ,r,q⟩
theorem Ž.ŋ {st:List Stmt}(h:Ž X.ŋ st t):Ž X st t:=λ Ä s σ H D I hw =>
 ñ (h Ä s σ H D (I.Mp _) hw) (λ _ _ q=>q.Ψ) λ _ _ z=>False.elim z
end
section
variable {X:Cx}{st:Stmt}{rest:List Stmt}{t u:TS}{e:Expr}{te:TE}{ô:Pos}
def bV:TS:=λ D σ H=>D.nx σ H
def aO (t u:TS):TS:=λ D σ H=>t { D with nx:=u D } σ H
theorem f6:Ž X [] bV:=λ _ _ σ H _ I h=>ů ⟨σ,H,I,h⟩
theorem bU (h1:PS X st t)(h2:Ž X rest u):Ž X (st::rest) (aO t u):=by
 intro Ä s σ H D I h;refine P0 (aV (h1 Ä s σ H { D with nx:=u D } I h) λ f s1 q=>?_)
 cases f with
 | next =>
  obtain⟨ĝ,H',I',q⟩:=q;exact h2 Ä s1 ĝ H' D I' q
 | ret v=>exact q
 | brk=>exact q
 | cont=>exact q
theorem aX (h1:PS X st t):Ž X [st] t:=by
 intro Ä s σ H D I h;refine P0 (aV (h1 Ä s σ H D I h) λ f s1 q=>?_);cases f with
 | next=>exact ů q
 | ret v=>exact q
 | brk=>exact q
 | cont=>exact q
theorem vW:PS X (.Pass ô) bV:=λ _ _ σ H _ I h=>wpAny_Pass ⟨σ,H,I,h⟩
theorem Inv.quiet (I:Inv X Ä σ H s):interactive X.env=false:=by simp [interactive,I.ok.kind]
def f7 (te:TE):TS:=λ D σ H=>te σ H λ _ H1=>D.nx σ H1
theorem aw (he:PE X e te)(hs:swapsWith e none ô.line X.env=pure false:=by rfl):PS X (.Expr e ô) (f7 te):=by
 intro Ä s σ H D I h;exact wpAny_Expr_any (aV (he Ä s σ H _ I h) λ v s1 ⟨x,H1,I1,r1,q1⟩=>⟨σ,H1,I1,q1⟩) I.quiet hs
def cH (te:TE):TS:=λ D σ H=>te σ H D.rt
theorem dk (he:PE X e te):PS X (.Return (some e) ô) (cH te):=by
 intro Ä s σ H D I h;exact wpAny_Return_some (aV (he Ä s σ H _ I h) λ v s1 ⟨x,H1,I1,r1,q1⟩=>⟨x,σ,H1,I1,r1,q1⟩)
def dA (c:TT)(t u:TS):TS:=λ D σ H=>c σ H λ b H1=>if b=true then t D σ H1 else u D σ H1
theorem be (hc:PT X c tc)(ha:Ž X a t)(hb:Ž X b u):PS X (.If c a b ô) (dA tc t u):=by
 intro Ä s σ H D I h;refine wpAny_If (aV (hc Ä s σ H _ I h) λ d s1 ⟨H1,I1,q1⟩=>?_);cases d with
 | true=>exact ha Ä s1 σ H1 D I1 q1
 | false=>exact hb Ä s1 σ H1 D I1 q1
end
abbrev TG:=V->St->Hp->(St->Hp->Prop)->Prop
abbrev DA:=List V->St->Hp->(St->Hp->Prop)->Prop
def PG (X:Cx)(target:Expr)(t:TG):Prop :=
 ∀(Ä:List (Addr × Obj))(s:Shared)(σ:St)(H:Hp)(v:V)(u:Value)(Q:St->Hp->Prop),Inv X Ä σ H s->RelV v u->t v σ H Q ->
  wpAny (model X.prog X.w) X.A (assign target X.env u) (λ _ s'=>∃ ĝ H',Inv X Ä ĝ H' s'/\Q ĝ H') X.xe s
def Ga (X:Cx)(ts:List Expr)(t:DA):Prop :=
 ∀(Ä:List (Addr × Obj))(s:Shared)(σ:St)(H:Hp)(vs:List V)(us:List Value)(Q:St->Hp->Prop),Inv X Ä σ H s->Vals vs us->t vs σ H Q ->
  wpAny (model X.prog X.w) X.A (assignInOrder ((assignEach ts X.env).map (·.2)) us) (λ _ s'=>∃ ĝ H',Inv X Ä ĝ H' s'/\Q ĝ H') X.xe s
abbrev AA:=V->V->V->Hp->(Hp->Prop)->Prop
def Ax (X:Cx)(t:AA):Prop :=
 ∀(Ä:List (Addr × Obj))(s:Shared)(σ:St)(H:Hp)(o i v:V)(ov iv u:Value)(Q:Hp->Prop),Inv X Ä σ H s->RelV o ov->RelV i iv->RelV v u->t o i v H Q ->
  wpAny (model X.prog X.w) X.A (setItem ov iv u) (λ _ s'=>∃ H',Inv X Ä σ H' s'/\Q H') X.xe s
abbrev HN:=V->V->Hp->VK->Prop
def Ku (X:Cx)(op:Operator)(t:HN):Prop :=
 ∀(Ä:List (Addr × Obj))(s:Shared)(σ:St)(H:Hp)(x y:V)(v u:Value)(Q:VK),Inv X Ä σ H s->RelV x v->RelV y u->t x y H Q ->
  wpAny (model X.prog X.w) X.A (inplaceOp op v u) (EP X Ä σ Q) X.xe s
section
variable {X:Cx}{ô:Pos}
def ba (i:Nat):TG:=λ v σ H Q=>Q (σ.set i (some v)) H
theorem cq (hN:X.N.Nodup)(hi:X.N[i]?=some x)(hx:CB X.env.scope x)(hf:X.fn x=true\/X.env.scope.names.lookup x=some .local:=by first | exact .inl rfl | exact .inr rfl | assumption):PG X (.Name x ô) (ba i):=by
 intro Ä s σ H v u Q I r h;exact wpAny_assign_Name (eY I hN hi hx r (λ s' I'=>⟨_,H,I',h⟩) hf)
def ix:DA:=λ vs σ H Q=>vs=[]/\Q σ H
def bT (t:TG)(u:DA):DA:=λ vs σ H Q=>∃ v r,vs=v::r/\t v σ H λ ĝ H'=>u r ĝ H' Q
theorem aZ:Ga X [] ix:=by
 intro Ä s σ H vs us Q I r h;obtain⟨e,h⟩:=h;subst e;cases r;exact assignInOrder_nil ⟨σ,H,I,h⟩
theorem eF (h1:PG X e t)(h2:Ga X es u)
  (hs:(assignEach (e::es) X.env).map (·.2)=assign e X.env::(assignEach es X.env).map (·.2):=by rfl):Ga X (e::es) (bT t u):=by
 intro Ä s σ H vs us Q I r h;obtain⟨v,vr,e1,h⟩:=h;subst e1;cases r with
 | cons r rr =>
  rw [hs];refine assignInOrder_cons (aV (h1 Ä s σ H _ _ _ I r h) λ _ s1 ⟨RR,H1,I1,q1⟩=>?_);exact h2 Ä s1 RR H1 _ _ Q I1 rr q1
def i3 (K:PySem.W.Frag)(n:Nat)(t:DA):TG:=λ v σ H Q=>∃ a xs,v=.ref a/\đ K H a xs/\xs.length=n/\t xs σ H Q
theorem bF (hc:X.calm=true)(h:Ga X es t)
  (hn:(assignEach es X.env).length=n:=by rfl)(OM:(assignEach es X.env).findIdx? (·.1)=none:=by rfl):PG X (.Tuple es k ô) (i3 X.K n t):=by
 intro Ä s σ H v u Q I r hw;obtain⟨a,xs,e1,hq,hl,hw⟩:=hw;subst e1;cases r;obtain⟨its,rv,ht,hz⟩:=I.tuple hq;refine assign_Tuple_tuple (I.ok.hd hc) ht (by simp [hn,<- hl,rv.length]) OM λ h' hx=>?_
 have I1:Inv X Ä σ H { s with heap:=h' }:=I.kept λ b o e=>hx b o (Ó (É e)) e
 exact h Ä _ σ H xs _ Q I1 (by simpa using rv) hw
def Dp (to ti:TE)(t:AA):TG:=λ v σ H Q=>to σ H λ o H1=>ti σ H1 λ i H2=>t o i v H2 λ H3=>Q σ H3
theorem jX (ho:PE X o to)(hi:PE X i ti)(hs:Ax X t)
  (ha:∀ v,assign (.Subscript o i ô) X.env v=(do
   let ov <- holding [v] (eval o X.env)
   let iv <- holding [v,ov] (eval i X.env)
   standAt ô
   holding [v,ov,iv] (setItem ov iv v)
   release [v,ov,iv] []):=by intro _;rfl):PG X (.Subscript o i ô) (Dp to ti t):=by
 intro Ä s σ H v u Q I r h;rw [ha];refine À (ć (aV (ho Ä s σ H _ I h) λ ov s1 ⟨x,H1,I1,r1,q1⟩=>?_));refine À (ć (aV (hi Ä s1 σ H1 _ I1 q1) λ iv s2 ⟨y,H2,I2,r2,q2⟩=>?_));refine À (Į (À (ć (aV (hs Ä s2 σ H2 x y v ov iv u _ I2 r1 r2 r q2) λ _ s3 ⟨H3,I3,q3⟩=>?_))));exact wpAny_release ⟨σ,H3,I3,q3⟩
def cR (te:TE)(g:TG):TS:=λ D σ H=>te σ H λ x H1=>g x σ H1 D.nx
theorem gB (he:PE X e te)(hg:PG X tg g)(hs:swapsWithSole [tg] e ô.line X.env=pure false:=by rfl)(hw:swappedStores [tg] e X.env=pure none:=by rfl)
  (h1:(assignEach [tg] X.env).map (·.2)=[assign tg X.env]:=by rfl):PS X (.Assign [tg] e ô) (cR te g):=by
 intro Ä s σ H D I h;refine wpAny_Assign_stores (aV (he Ä s σ H _ I h) λ v s1 ⟨x,H1,I1,r1,q1⟩=>?_) hs hw;rw [h1];exact aV (hg Ä s1 σ H1 x v _ I1 r1 q1) λ _ s2 q=>q
theorem gG (hN:X.N.Nodup)(hi:X.N[i]?=some x)(hx:CB X.env.scope x)(he:PE X e te)(hs:swapsWith e (some (.Name x pos')) ô.line X.env=pure false:=by rfl)(hf:X.fn x=true\/X.env.scope.names.lookup x=some .local:=by first | exact .inl rfl | exact .inr rfl | assumption) :
  PS X (.Assign [.Name x pos'] e ô) (cR te (ba i)):=by
 intro Ä s σ H D I h;refine wpAny_Assign_Name (aV (he Ä s σ H _ I h) λ v s1 ⟨y,H1,I1,r1,q1⟩=>?_) hs;exact eY I1 hN hi hx r1 (λ s2 I2=>⟨_,H1,I2,q1⟩) hf
def Ib (i j:Nat)(ta:TA):TS:=λ D σ H=>ta σ H λ vs H1=>∃ v w,vs=[v,w]/\D.nx ((σ.set i (some v)).set j (some w)) H1
theorem Ak {kt k2 Vg}(hc:X.calm=true)(hN:X.N.Nodup)(hi:X.N[i]?=some x)(hj:X.N[j]?=some y)(hij:i≠j)
  (hx:X.env.scope.names.lookup x=some .local)(hy:X.env.scope.names.lookup y=some .local)(ha:PA X [a,b] ta)
  (hw:swappedStores [.Tuple [.Name x px,.Name y py] kt pt] (.Tuple [a,b] k2 Vg) X.env=pure (some [x,y]))
  (hs:swapsWithSole [.Tuple [.Name x px,.Name y py] kt pt] (.Tuple [a,b] k2 Vg) ô.line X.env=pure false:=by rfl) :
  PS X (.Assign [.Tuple [.Name x px,.Name y py] kt pt] (.Tuple [a,b] k2 Vg) ô) (Ib i j ta):=by
 intro Ä s σ H D I h;rw [exec_Assign_arm];refine À (Į ?_);rw [hs];refine À (Æ ?_);rw [Ï au];refine À (Tuple_ (aV (ha _ Ä s σ H _ I h) λ us s1 ⟨vs,H1,I1,r1,q1⟩=>?_));obtain⟨v,w,e1,q1⟩:=q1;subst e1;obtain⟨u1,u2,rfl,rv,OL⟩:∃ u1 u2,us=[u1,u2]/\RelV v u1/\RelV w u2:=by
  cases r1 with
  | cons p q =>
   cases q with
   | cons p' q' =>
    cases q';exact⟨_,_,rfl,p,p'⟩
 refine ý ?_ cL;have I2:Inv X Ä σ H1 { s1 with heap:=s1.heap.push { cls:=.type "tuple",data:=.seq [u1,u2].toArray } }:=I1.kept λ b o e=>Ã _ e
 rw [hw];refine À (Æ ?_);refine À (Mh (À (unpackItems_tuple (items:=#[u1,u2]) (I.ok.hd hc) (IsTup.new s1.heap _) λ h' Ox=>?_)));have I3:=I2.kept (t':=s1.toks) λ b o e=>Ox b o (Ó (É e)) e;refine À (assignInOrder_cons (wpAny_bindName (eY I3 hN hj (.inl hy) OL (λ s2 I4=>?_) (.inr hy))));refine assignInOrder_cons (wpAny_bindName (eY I4 hN hi (.inl hx) rv (λ s3 I5=>assignInOrder_nil (Æ ?_)) (.inr hx)));rw [List.set_comm _ _ (Ne.symm hij)] at I5;exact⟨_,H1,I5,q1⟩
def ye (to ti te:TE)(Ra:V->V->Hp->VK->Prop)(UW:HN)(Q9:AA):TS:=λ D σ H=>to σ H λ o H1=>ti σ H1 λ i H2=>Ra o i H2 λ x H3=>te σ H3 λ y H4=>UW x y H4 λ z H5=>Q9 o i z H5 λ H6=>D.nx σ H6
def GO (X:Cx)(t:V->V->Hp->VK->Prop):Prop :=
 ∀(Ä:List (Addr × Obj))(s:Shared)(σ:St)(H:Hp)(o i:V)(ov iv:Value)(Q:VK),Inv X Ä σ H s->RelV o ov->RelV i iv->t o i H Q ->
  wpAny (model X.prog X.w) X.A (getItem ov iv) (EP X Ä σ Q) X.xe s
theorem vE (ho:PE X o to)(hi:PE X i ti)(hg:GO X Ra)(he:PE X e te)(hp:Ku X op UW)(hs:Ax X Q9)
  (ha:∀ ov iv new,augStore i ov iv new=(do holding [new,ov,iv] (setItem ov iv new);release [new,ov,iv] [];pure .next):=by intros;rfl):PS X (.AugAssign (.Subscript o i Sg) op e ô) (ye to ti te Ra UW Q9):=by
 intro Ä s σ H D I h;refine wpAny_AugAssign_SubscriptAny (aV (ho Ä s σ H _ I h) λ ov s1 ⟨x1,H1,I1,r1,q1⟩=>?_) ha;refine aV (hi Ä s1 σ H1 _ I1 q1) λ iv s2 ⟨x2,H2,I2,r2,q2⟩=>?_;refine aV (hg Ä s2 σ H2 x1 x2 ov iv _ I2 r1 r2 q2) λ old s3 ⟨x3,H3,I3,r3,q3⟩=>?_;refine aV (he Ä s3 σ H3 _ I3 q3) λ v s4 ⟨x4,H4,I4,r4,q4⟩=>?_;refine aV (hp Ä s4 σ H4 x3 x4 old v _ I4 r3 r4 q4) λ new s5 ⟨x5,H5,I5,r5,q5⟩=>?_;exact aV (hs Ä s5 σ H5 x1 x2 x5 ov iv new _ I5 r1 r2 r5 q5) λ _ s6 ⟨H6,I6,q6⟩=>⟨σ,H6,I6,q6⟩
def KU (f:Int->Int->Int):HN:=λ x y H Q=>∃ i j,x=.int i/\y=.int j/\Q (.int (f i j)) H
theorem Db:Ku X .Add (KU λ i j=>i+j):=by
 intro Ä s σ H x y v u Q I r1 r2 h;obtain⟨i,j,e1,e2,q⟩:=h;subst e1;subst e2;obtain⟨t,rfl⟩:=r1;obtain⟨t',rfl⟩:=r2;exact iadd_int ⟨.int _,H,I.tok _,⟨_,rfl⟩,q⟩
end
section
variable {X:Cx}{ô:Pos}
def qf (c:TT)(tb:TS):TS:=λ D σ H=>∃ W:Nat->St->Hp->Prop,(∃ m,W m σ H)/\∀ m σ H,W m σ H ->
 c σ H λ b H1=>if b=true then ∃ N:St->Hp->Prop,(∀ ĝ H',N ĝ H'->∃ m',m'<m/\W m' ĝ H')/\tb { D with nx:=N,ct:=N,bk:=D.nx } σ H1 else D.nx σ H1
theorem j6 (hp:PassesOwn (model X.prog X.w) X.A X.env X.xe)(hc:PT X c tc)(hb:Ž X body tb):PS X (.While c body [] ô) (qf tc tb):=by
 intro Ä s σ H D I h;obtain⟨W,⟨m0,w0⟩,turn⟩:=h;refine wpAny_While (codeAny_whileLoop (λ n s'=>∃ ĝ H',Inv X Ä ĝ H' s'/\W n ĝ H') ?_ m0 ⟨σ,H,I,w0⟩);rintro n s1 ⟨RR,H1,I1,w1⟩;refine Ŏ hp (aV (hc Ä s1 RR H1 _ I1 (turn n RR H1 w1)) λ b s2 ⟨H2,I2,q2⟩=>?_);cases b with
 | true =>
  obtain⟨N,hN,q2⟩:=q2;rw [Ø rfl];refine Ŏ hp (aV (hb Ä s2 RR H2 _ I2 q2) λ f s3 q3=>?_);cases f with
  | next =>
   obtain⟨OX,H3,I3,n3⟩:=q3;obtain⟨m',hm,w3⟩:=hN OX H3 n3;exact⟨m',hm,OX,H3,I3,w3⟩
  | cont =>
   obtain⟨OX,H3,I3,n3⟩:=q3;obtain⟨m',hm,w3⟩:=hN OX H3 n3;exact⟨m',hm,OX,H3,I3,w3⟩
  | brk=>exact q3
  | ret v=>exact q3
 | false =>
  rw [Ï Ô];exact ů ⟨RR,H2,I2,q2⟩
end
structure It where
 go:Nat->Hp->Prop
 MJ:Nat->Hp->V->Hp->Prop
 stop:Nat->Hp->Prop
def dL (X:Cx)(Ä:List (Addr × Obj))(H:Hp)(b:Addr):Prop :=
 H b=none/\b≠X.env.locals/\b ∉ X.fs/\(b∈X.ex\/X.Ŗ.heap.objs.size<=b)/\(∀ x c,X.env.cells.lookup x=some c->c≠b)/\∀ p∈X.pn ++ Ä,p.1≠b
theorem Inv.NV (I:Inv X Ä σ H s)(hb:s.heap.objs.size<=b)(hn:H' b=none):dL X Ä H' b:=by
 refine⟨hn,Ĳ (Þ I.lt hb),I.Vq hb,.inr (õ I.sz hb),λ x c e z=>?_,λ p hp z=>?_⟩
 ·obtain⟨v,q⟩:=I.cell x c e;exact absurd (Þ q.lt (by rw [z];exact hb)) (Ķ _)
 ·exact absurd (Þ (É (I.pin p hp).1) (by rw [z];exact hb)) (Ķ _)
structure nR (P:Program)(w:World)(K:PySem.W.Frag)(tg:Expr)(J:It)(fp:List Addr)(it:Addr)(tn:Nat->Heap->Prop):Prop where
 mem:it∈fp
 obj:∀ i h,tn i h->∀ b∈fp,∃ o,h.get? b=some o/\∀ v,o.data ≠ .cell v
 keep:∀ i h h',tn i h->(∀ b∈fp,∀ o,h.get? b=some o->h'.get? b=some o)->tn i h'
 item:∀(X:Cx),X.prog=P->X.w=w->X.K=K->X.calm=true->∀(i:Nat)(Ä:List (Addr × Obj))(s:Shared)(σ:St)(H:Hp)(E:fg),Inv X Ä σ H s->(∀ b∈fp,dL X Ä H b)->tn i s.heap->J.go i H ->
  wpAny (model P w) X.A (pyNext (.ref it)) (λ r s1=>∃ u,r=some u /\
   wpAny (model P w) X.A (letOwnedTupleGo tg (.ref it) u) (λ _ s2=>∃ x H',Inv X Ä σ H' s2/\RelV x u/\J.MJ i H x H'/\tn (i+1) s2.heap/\∀ b∈fp,H' b=none) E s1) E s
 done:∀(X:Cx),X.prog=P->X.w=w->X.K=K->X.calm=true->∀(i:Nat)(Ä:List (Addr × Obj))(s:Shared)(σ:St)(H:Hp)(E:fg),Inv X Ä σ H s->(∀ b∈fp,dL X Ä H b)->tn i s.heap->J.stop i H ->
  wpAny (model P w) X.A (pyNext (.ref it)) (λ r s1=>r=none/\Inv X Ä σ H s1) E s
 self:∀(A:Around)(i:Nat)(s:Shared)(Q:fg)(E:fg),tn i s.heap->Q (.ref it) s->wpAny (model P w) A (pyIter (.ref it)) Q E s
abbrev TI:=St->Hp->(It->Hp->Prop)->Prop
def KY (X:Cx)(Ä:List (Addr × Obj))(σ:St)(tg:Expr)(R:It->Hp->Prop)(Rq:Value)(s2:Shared):Prop :=
 ∃(it:Addr)(fp:List Addr)(tn:Nat->Heap->Prop)(J:It)(H':Hp),Rq=.ref it/\Inv X Ä σ H' s2/\nR X.prog X.w X.K tg J fp it tn/\tn 0 s2.heap/\(∀ b∈fp,dL X Ä H' b)/\R J H'
def PI (X:Cx)(tg iter:Expr)(wi:TI):Prop :=
 ∀(Ä:List (Addr × Obj))(s:Shared)(σ:St)(H:Hp)(R:It->Hp->Prop),Inv X Ä σ H s->wi σ H R ->
  wpAny (model X.prog X.w) X.A (eval iter X.env) (λ v s1=>wpAny (model X.prog X.w) X.A (pyIter v) (KY X Ä σ tg R) X.xe s1) X.xe s
theorem vg (ho:s.heap.get? it=some o)(hc:o.cls=.type n)(hd:o.data=.fields vs)
  (hn:["enumerate","zip","dict_itemiterator","dict_reverseitemiterator","odict_iterator","itertools.zip_longest","itertools.pairwise"].contains n=false)(hQ:Q () s):wpAny M A (letOwnedTupleGo tg (.ref it) u) Q E s:=by
 cases tg <;> first
  | exact Æ hQ
  | (cases u <;> first
    | exact Æ hQ
    | (refine À (wpAny_load ho ?_)
       rw [hc,hd];show wpAny M A (if(["enumerate","zip","dict_itemiterator","dict_reverseitemiterator","odict_iterator","itertools.zip_longest","itertools.pairwise"].contains n&&vs[0]?==some (rawInt _))=true then _ else _) Q E s
       rw [Ï (by intro h;rw [hn,Χ] at h;cases h)]
       exact Æ hQ))
def nt (K:PySem.W.Frag)(a:Addr):It :=
 ⟨λ i H=>∃ xs x,ç K H a xs/\xs[i]?=some x,λ i H x H'=>H'=H/\∀ xs,ç K H a xs->xs[i]?=some x,λ i H=>∃ xs,ç K H a xs/\xs.length<=i⟩
def DC (K:PySem.W.Frag)(a:Addr):It :=
 ⟨λ i H=>∃ xs x,đ K H a xs/\xs[i]?=some x,λ i H x H'=>H'=H/\∀ xs,đ K H a xs->xs[i]?=some x,λ i H=>∃ xs,đ K H a xs/\xs.length<=i⟩
def xI (lo:Int)(n:Nat):It:=⟨λ i _=>i<n,λ i H x H'=>H'=H/\x=.int (lo+i),λ i _=>n<=i⟩
theorem sJ {K:PySem.W.Frag}(a it:Addr):nR P w K tg (nt K a) [it] it (λ i h=>h.IsListIter it a i) where
 mem:=by simp
 obj:=λ i h st b hb=>by
  have e:b=it:=by simpa using hb
  subst e;obtain⟨o,e,c,d⟩:=st;exact⟨o,e,λ v z=>by rw [d] at z;cases z⟩
 keep:=λ i h h' st k=>st.at λ o e=>k it (by simp) o e
 item:=by
  intro X hP hw hK hc i Ä s σ H E I hf st hg;subst hP hw hK;obtain⟨xs,x,hq,hx⟩:=hg;obtain⟨its,rv,p,hz⟩:=I.list hq;obtain⟨u,hu,ru⟩:=rv.get hx;obtain⟨f0,f1,f2,f3,f4,f5⟩:=hf it (by simp)
  refine wpAny_pyNext_list_item st p.isList (by simpa using hu) λ h' Qy sb=>?_
  have I1:Inv X Ä σ H { s with heap:=h' }:=I.turned (λ b o hb e=>(sb.2 b hb).trans e) f0 f1 f3 f4 f5
  obtain⟨o,e,c,d⟩:=id Qy;exact⟨u,rfl,vg e c d au ⟨x,H,I1,ru,⟨rfl,λ ys hy=>by rw [I.d_ hy hq];exact hx⟩,Qy,λ b hb=>(hf b hb).1⟩⟩
 done:=by
  intro X hP hw hK hc i Ä s σ H E I hf st hg;subst hP hw hK;obtain⟨xs,hq,hx⟩:=hg;obtain⟨its,rv,p,hz⟩:=I.list hq;obtain⟨f0,f1,f2,f3,f4,f5⟩:=hf it (by simp)
  have hl:=rv.length;exact wpAny_pyNext_list_end (I.ok.hd hc) st p.isList (by simp;omega) λ h' eb=>⟨rfl,I.turned (λ b o hb e=>eb b o hb e) f0 f1 f3 f4 f5⟩
 self:=λ _ _ _ _ _ st h=>wpAny_pyIter_listiter st h
theorem pD {K:PySem.W.Frag}(a it:Addr):nR P w K tg (DC K a) [it] it (λ i h=>h.IsTupleIter it a i) where
 mem:=by simp
 obj:=λ i h st b hb=>by
  have e:b=it:=by simpa using hb
  subst e;obtain⟨o,e,c,d⟩:=st;exact⟨o,e,λ v z=>by rw [d] at z;cases z⟩
 keep:=λ i h h' st k=>st.at λ o e=>k it (by simp) o e
 item:=by
  intro X hP hw hK hc i Ä s σ H E I hf st hg;subst hP hw hK;obtain⟨xs,x,hq,hx⟩:=hg;obtain⟨its,rv,p,hz⟩:=I.tuple hq;obtain⟨u,hu,ru⟩:=rv.get hx;obtain⟨f0,f1,f2,f3,f4,f5⟩:=hf it (by simp)
  refine wpAny_pyNext_tuple_item st (show s.heap.IsTuple a its.toArray from p) (by simpa using hu) λ h' Qy sb=>?_
  have I1:Inv X Ä σ H { s with heap:=h' }:=I.turned (λ b o hb e=>(sb.2 b hb).trans e) f0 f1 f3 f4 f5
  obtain⟨o,e,c,d⟩:=id Qy;exact⟨u,rfl,vg e c d au ⟨x,H,I1,ru,⟨rfl,λ ys hy=>by rw [I.j_ hy hq];exact hx⟩,Qy,λ b hb=>(hf b hb).1⟩⟩
 done:=by
  intro X hP hw hK hc i Ä s σ H E I hf st hg;subst hP hw hK;obtain⟨xs,hq,hx⟩:=hg;obtain⟨its,rv,p,hz⟩:=I.tuple hq;obtain⟨f0,f1,f2,f3,f4,f5⟩:=hf it (by simp)
  have hl:=rv.length;exact wpAny_pyNext_tuple_end (I.ok.hd hc) st (show s.heap.IsTuple a its.toArray from p) (by simp;omega) λ h' eb=>⟨rfl,I.turned (λ b o hb e=>eb b o hb e) f0 f1 f3 f4 f5⟩
 self:=λ _ _ _ _ _ st h=>wpAny_pyIter_tupleiter st h
theorem pZ {P:Program}{w:World}{K:PySem.W.Frag}{tg:Expr}(it:Addr)(lo:Int)(n:Nat):nR P w K tg (xI lo n) [it] it (λ i h=>IsRangeIter h it (lo+(i:Nat)*1) ((n:Int)-(i:Nat)) 1) where
 mem:=by simp
 obj:=λ i h st b hb=>by
  have e:b=it:=by simpa using hb
  subst e;exact⟨_,st,λ v z=>by
   have z':Data.fields _=Data.cell v:=z;cases z'⟩
 keep:=λ i h h' st k=>k it (by simp) _ st
 item:=by
  intro X hP hw hK hc i Ä s σ H E I hf st hg;subst hP hw hK;obtain⟨f0,f1,f2,f3,f4,f5⟩:=hf it (by simp)
  have W:=Walks.range (prog:=X.prog) (w:=X.w) (I.ok.hd hc) it lo 1 n;refine W.item i s _ _ hg st λ v h' tk hv Qy kk=>?_;obtain⟨t,rfl⟩:=hv;have I1:Inv X Ä σ H { s with heap:=h',toks:=tk }:=I.turned (λ b o hb e=>kk b o (by simpa using hb) e) f0 f1 f3 f4 f5
  refine⟨_,rfl,vg Qy rfl rfl au ⟨.int (lo+i),H,I1,⟨t,?_⟩,⟨rfl,rfl⟩,Qy,λ b hb=>(hf b hb).1⟩⟩;rw [Int.mul_one]
 done:=by
  intro X hP hw hK hc i Ä s σ H E I hf st hg;subst hP hw hK;obtain⟨f0,f1,f2,f3,f4,f5⟩:=hf it (by simp)
  exact wpAny_pyNext_range_end (I.ok.hd hc) st (by have:n<=i:=hg;omega) λ h' eb=>⟨rfl,I.turned (λ b o hb e=>eb b o hb e) f0 f1 f3 f4 f5⟩
 self:=λ _ _ _ _ _ st h=>wpAny_pyIter_rangeiter st h
section
variable {X:Cx}{tg:Expr}
def bL (K:PySem.W.Frag)(tl:TE):TI:=λ σ H R=>tl σ H λ x H1=>∃ a,x=.ref a/\(∃ xs,ç K H1 a xs)/\R (nt K a) H1
def Hq (K:PySem.W.Frag)(tl:TE):TI:=λ σ H R=>tl σ H λ x H1=>∃ a,x=.ref a/\(∃ xs,đ K H1 a xs)/\R (DC K a) H1
theorem aS {tl:TE}(hl:PE X l tl):PI X tg l (bL X.K tl):=by
 intro Ä s σ H R I h;refine aV (hl Ä s σ H _ I h) λ v s1 ⟨x,H1,I1,r1,q1⟩=>?_;obtain⟨a,e,⟨xs,hq⟩,q⟩:=q1;subst e;cases r1;obtain⟨its,rv,p,hz⟩:=I1.list hq;refine OO p.isList ?_;refine⟨s1.heap.objs.size,[s1.heap.objs.size],_,_,H1,rfl,I1.kept λ b o e=>Ã _ e,sJ a _,⟨_,Ò _ rfl,rfl,rfl⟩,λ b hb=>?_,q⟩;have e:b=s1.heap.objs.size:=by simpa using hb
 subst e;exact I1.NV (Ê _) (I1.ċ.fresh (Ê _))
theorem pS (hl:PE X l tl):PI X tg l (Hq X.K tl):=by
 intro Ä s σ H R I h;refine aV (hl Ä s σ H _ I h) λ v s1 ⟨x,H1,I1,r1,q1⟩=>?_;obtain⟨a,e,⟨xs,hq⟩,q⟩:=q1;subst e;cases r1;obtain⟨its,rv,p,hz⟩:=I1.tuple hq;refine wpAny_pyIter_tuple (show s1.heap.IsTuple a its.toArray from p) ?_;refine⟨s1.heap.objs.size,[s1.heap.objs.size],_,_,H1,rfl,I1.kept λ b o e=>Ã _ e,pD a _,⟨_,Ò _ rfl,rfl,rfl⟩,λ b hb=>?_,q⟩;have e:b=s1.heap.objs.size:=by simpa using hb
 subst e;exact I1.NV (Ê _) (I1.ċ.fresh (Ê _))
theorem uZ {Ä:List (Addr × Obj)}{σ:St}{H:Hp}{s:Shared}{R:It->Hp->Prop}{E:fg}{lo hi:Int}{t u v:Tok}{tk:Nat}(I:Inv X Ä σ H s)(h1:-(2^62)<=lo)(h2:lo<2^62)(h3:-(2^62)<=hi)(h4:hi<2^62)
  (q:R (xI lo (hi-lo).toNat) H):wpAny (model X.prog X.w) X.A (pyIter (.ref s.heap.objs.size)) (KY X Ä σ tg R) E { s with heap:=s.heap.push { cls:=.type "range",data:=.fields #[.int lo t,.int hi u,.int 1 v] },toks:=tk }:=by
 refine wpAny_pyIter_range (IsRange.new ..) (small_one h1 h2 h3 h4) ?_;have I1:Inv X Ä σ H { s with heap:=s.heap.push { cls:=.type "range",data:=.fields #[.int lo t,.int hi u,.int 1 v] },toks:=tk }:=I.kept λ b o e=>Ã _ e
 refine⟨(s.heap.push { cls:=.type "range",data:=.fields #[.int lo t,.int hi u,.int 1 v] }).objs.size,[(s.heap.push { cls:=.type "range",data:=.fields #[.int lo t,.int hi u,.int 1 v] }).objs.size],_,_,H,rfl,
  I1.kept λ b o e=>Ã _ e,pZ _ lo (hi-lo).toNat,?_,λ b hb=>?_,q⟩
 ·have e1:lo+((0:Nat):Int)*1=lo:=by simp
  have e2:(((hi-lo).toNat:Nat):Int)-((0:Nat):Int)=Builtin.Range.rangeSize lo hi 1:=by rw [rangeSize_one];split <;> omega
  rw [e1,e2];exact Ò _ rfl
 ·have e:b=(s.heap.push { cls:=.type "range",data:=.fields #[.int lo t,.int hi u,.int 1 v] }).objs.size:=by simpa using hb
  subst e;exact I1.NV (Ê _) (I1.ċ.fresh (Ê _))
def jd (ta:TA):TI:=λ σ H R=>ta σ H λ vs H1=>∃ j:Int,vs=[.int j]/\-(2^62)<=j/\j<2^62/\R (xI 0 j.toNat) H1
theorem dI {a:Expr}{ta:TA}{p ô:Pos}(hg:Gl X "range")(hm:X.mg "range" = none)(ha:PA X [a] ta)(hs:starEach [a] X.env=[(false,eval a X.env)]:=by rfl):PI X tg (.Call (.Name "range" p) [a] [] ô) (jd ta):=by
 intro Ä s σ H R I h;refine Call_ (gC I hg hm boot_range (ğ (aV (ha ô Ä s σ H _ I h) λ us s1 ⟨vs,H1,I1,r1,q1⟩=>?_) hs rfl));obtain⟨j,e,q1,q2,q⟩:=q1;subst e;cases r1 with
 | cons r rr =>
  cases rr;obtain⟨t,rfl⟩:=r;exact call_range_1 (uZ I1 ai ai q1 q2 (by simpa using q))
def gj (wi:TI)(g:TG)(tb:TS):TS:=λ D σ H=>wi σ H λ J H1=>∃ W:Nat->Nat->St->Hp->Prop,(∃ m,W 0 m σ H1)/\∀ i m σ H,W i m σ H ->
 (J.stop i H/\D.nx σ H)\/(J.go i H/\∃ N:St->Hp->Prop,(∀ ĝ H',N ĝ H'->∃ m',m'<m/\W (i+1) m' ĝ H')/\∀ x H',J.MJ i H x H'->g x σ H' λ Ĵ H2=>tb { D with nx:=N,ct:=N,bk:=D.nx } Ĵ H2)
def mH (fp:List Addr)(h:Heap):List (Addr × Obj):=fp.filterMap λ b=>(h.get? b).map λ o=>(b,o)
theorem bp (hb:b∈fp)(e:h.get? b=some o):(b,o)∈mH fp h:=List.mem_filterMap.mpr ⟨b,hb,by rw [e];rfl⟩
theorem rP (hp:p∈mH fp h):p.1∈fp/\h.get? p.1=some p.2:=by
 obtain⟨b,hb,e⟩:=List.mem_filterMap.mp hp;cases q:h.get? b with
 | none=>rw [q] at e;cases e
 | some o =>
  rw [q] at e;have e':=Õ e;subst e';exact⟨hb,q⟩
theorem Inv.pinned (I:Inv X Ä σ H s)(hf:∀ b∈fp,dL X Ä H b)(ho:∀ b∈fp,∃ o,s.heap.get? b=some o/\∀ v,o.data ≠ .cell v):Inv X (Ä ++ mH fp s.heap) σ H s :=
 I.N9 λ p hp=>(ģ.mp hp).elim (λ z=>I.pin p (Î _ z)) λ z=>by
  obtain⟨hb,e⟩:=rP z;obtain⟨f0,f1,f2,_⟩:=hf p.1 hb;obtain⟨o,e',d⟩:=ho p.1 hb;rw [e] at e';cases e';exact⟨e,f0,f1,f2,d⟩
theorem Inv.ő (I:Inv X (Ä ++ pl) σ H s):Inv X Ä σ H s:=I.N9 λ p hp=>I.pin p (Î _ (H_ _ hp))
theorem bY (hp:PassesOwn (model X.prog X.w) X.A X.env X.xe)(hc:X.calm=true)(hi:PI X tg iter wi)(hg:PG X tg g)(hb:Ž X body tb)
  (hs:∀ x,foldedSetIterable iter X.env x=pure x:=by intro _;rfl):PS X (.For tg iter body [] ô) (gj wi g tb):=by
 intro Ä s σ H D I h;refine wpAny_For (aV (hi Ä s σ H _ I h) λ v s1 h1=>aV h1 λ Rq s2 h2=>?_) hs;obtain⟨it,fp,tn,J,H2,e,I2,T,Mw,f2,W,⟨m0,w0⟩,turn⟩:=h2;subst e;have Ŭ:∀{H':Hp},(∀ b∈fp,H' b=none)->∀ b∈fp,dL X Ä H' b:=λ hn b hb=>⟨hn b hb,(f2 b hb).2⟩;refine codeAny_forLoop_any (λ n s'=>∃ i ĝ H',Inv X Ä ĝ H' s'/\tn i s'.heap/\(∀ b∈fp,H' b=none)/\W i n ĝ H') ?_ m0 ⟨0,σ,H2,I2,Mw,λ b hb=>(f2 b hb).1,w0⟩;rintro n s3 ⟨i,OX,H3,I3,OJ,Yj,w3⟩;rcases turn i n OX H3 w3 with⟨stop,qn⟩ | ⟨go,N,hN,step⟩
 ·refine Ŏ hp (aV (T.done X rfl rfl rfl hc i Ä s3 OX H3 X.xe I3 (Ŭ Yj) OJ stop) λ r s4 ⟨hr,I4⟩=>?_);subst hr;exact ů ⟨OX,H3,I4,qn⟩
 ·refine Ŏ hp (aV (T.item X rfl rfl rfl hc i Ä s3 OX H3 X.xe I3 (Ŭ Yj) OJ go) λ r s4 ⟨u,hr,h4⟩=>?_);subst hr;refine Ŏ hp (aV h4 λ _ s5 ⟨x,H5,I5,r5,y5,z_,Pt⟩=>?_);have Pz:=I5.pinned (Ŭ Pt) (T.obj _ _ z_);refine Ŏ hp (aV (hg _ s5 OX H5 x u _ Pz r5 (step x H5 y5)) λ _ s6 ⟨RQ,H6,I6,q6⟩=>?_);refine Ŏ hp (aV (hb _ s6 RQ H6 _ I6 q6) λ f s7 q7=>?_);have again:∀{OW:St}{H7:Hp},Inv X (Ä ++ mH fp s5.heap) OW H7 s7->N OW H7->∃ m,m<n/\∃ i ĝ H',Inv X Ä ĝ H' s7/\tn i s7.heap/\(∀ b∈fp,H' b=none)/\W i m ĝ H':=λ {OW H7} I7 n7=>by
   obtain⟨m',hm,w7⟩:=hN OW H7 n7;refine⟨m',hm,i+1,OW,H7,I7.ő,T.keep _ _ _ z_ λ b hb o e=>(I7.pin (b,o) (Î _ (Î _ (bp hb e)))).1,λ b hb=>?_,w7⟩;obtain⟨o,e,d⟩:=T.obj _ _ z_ b hb;exact(I7.pin (b,o) (Î _ (Î _ (bp hb e)))).2.1
  cases f with
  | next=>obtain⟨OW,H7,I7,n7⟩:=q7;exact again I7 n7
  | cont=>obtain⟨OW,H7,I7,n7⟩:=q7;exact again I7 n7
  | brk=>obtain⟨OW,H7,I7,q7⟩:=q7;exact⟨OW,H7,I7.ő,q7⟩
  | ret v=>obtain⟨x7,OW,H7,I7,r7,q7⟩:=q7;exact⟨x7,OW,H7,I7.ő,r7,q7⟩
end
theorem eV {K:PySem.W.Frag}{a:Addr}{xs:List V}{g:TG}{tb:TS}{D:bX}{σ:St}{H:Hp}(Pv:Nat->St->Hp->Prop)(h0:Pv 0 σ H)(hl:∀ i σ H,i<=xs.length->Pv i σ H->ç K H a xs)
  (hs:∀ i x σ H,xs[i]?=some x->Pv i σ H->g x σ H λ Ĵ H2=>tb { D with nx:=Pv (i+1),ct:=Pv (i+1),bk:=D.nx } Ĵ H2)(hd:∀ σ H,Pv xs.length σ H->D.nx σ H) :
  ∃ W:Nat->Nat->St->Hp->Prop,(∃ m,W 0 m σ H)/\∀ i m σ H,W i m σ H ->
   ((nt K a).stop i H/\D.nx σ H)\/((nt K a).go i H/\∃ N:St->Hp->Prop,(∀ ĝ H',N ĝ H'->∃ m',m'<m/\W (i+1) m' ĝ H')/\∀ x H',(nt K a).MJ i H x H'->g x σ H' λ Ĵ H2=>tb { D with nx:=N,ct:=N,bk:=D.nx } Ĵ H2):=by
 refine⟨λ i m σ H=>m=xs.length-i/\i<=xs.length/\Pv i σ H,⟨xs.length,by simp,Nat.zero_le _,h0⟩,?_⟩
 rintro i m σ H ⟨rfl,hi,p⟩;have q:=hl i σ H hi p;by_cases ŵ:i<xs.length
 ·refine .inr ⟨⟨xs,xs[i],q,by simp [ŵ]⟩,Pv (i+1),λ ĝ H' p'=>⟨xs.length-(i+1),ai,rfl,ŵ,p'⟩,λ x H' y=>?_⟩
  obtain⟨e,y⟩:=y;subst e;exact hs i x σ _ (y xs q) p
 ·have e:i=xs.length:=ai;subst e;exact .inl ⟨⟨xs,q,Ê _⟩,hd σ H p⟩
theorem gO {lo:Int}{n:Nat}{g:TG}{tb:TS}{D:bX}{σ:St}{H:Hp}(Pv:Nat->St->Hp->Prop)(h0:Pv 0 σ H)
  (hs:∀ i σ H,i<n->Pv i σ H->g (.int (lo+i)) σ H λ Ĵ H2=>tb { D with nx:=Pv (i+1),ct:=Pv (i+1),bk:=D.nx } Ĵ H2)(hd:∀ σ H,Pv n σ H->D.nx σ H) :
  ∃ W:Nat->Nat->St->Hp->Prop,(∃ m,W 0 m σ H)/\∀ i m σ H,W i m σ H ->
   ((xI lo n).stop i H/\D.nx σ H)\/((xI lo n).go i H/\∃ N:St->Hp->Prop,(∀ ĝ H',N ĝ H'->∃ m',m'<m/\W (i+1) m' ĝ H')/\∀ x H',(xI lo n).MJ i H x H'->g x σ H' λ Ĵ H2=>tb { D with nx:=N,ct:=N,bk:=D.nx } Ĵ H2):=by
 refine⟨λ i m σ H=>m=n-i/\i<=n/\Pv i σ H,⟨n,by simp,Nat.zero_le _,h0⟩,?_⟩
 rintro i m σ H ⟨rfl,hi,p⟩;by_cases ŵ:i<n
 ·refine .inr ⟨ŵ,Pv (i+1),λ ĝ H' p'=>⟨n-(i+1),ai,rfl,ŵ,p'⟩,λ x H' y=>?_⟩;obtain⟨e,y⟩:=y;subst e y;exact hs i σ _ ŵ p
 ·have e:i=n:=ai;subst e;exact .inl ⟨Ê _,hd σ H p⟩
theorem uQ (Pv:St->Hp->Prop)(μ:St->Hp->Nat)(h0:Pv σ H)
  (hs:∀ σ H,Pv σ H->c σ H λ b H1=>if b=true then tb { D with nx:=λ ĝ H'=>Pv ĝ H'/\μ ĝ H' < μ σ H,ct:=λ ĝ H'=>Pv ĝ H'/\μ ĝ H' < μ σ H,bk:=D.nx } σ H1 else D.nx σ H1)
  (mono:∀ σ H Q Q',(∀ b H1,Q b H1->Q' b H1)->c σ H Q->c σ H Q'):qf c tb D σ H:=by
 refine⟨λ m σ H=>m = μ σ H/\Pv σ H,⟨_,rfl,h0⟩,?_⟩;rintro m σ H ⟨rfl,p⟩;refine mono σ H _ _ (λ b H1 q=>?_) (hs σ H p);cases b with
 | true=>exact⟨_,λ ĝ H' ⟨p',l⟩=>⟨_,l,rfl,p'⟩,q⟩
 | false=>exact q
abbrev R2:=V->V->Hp->VK->Prop
def jn (X:Cx)(f:Value->Value->Sem Value)(r:R2):Prop :=
 ∀(Ä:List (Addr × Obj))(s:Shared)(σ:St)(H:Hp)(x y:V)(v u:Value)(Q:VK),Inv X Ä σ H s->RelV x v->RelV y u->r x y H Q ->
  wpAny (model X.prog X.w) X.A (f v u) (EP X Ä σ Q) X.xe s
def Is (X:Cx)(f:Value->Sem Value)(r:V->Hp->VK->Prop):Prop :=
 ∀(Ä:List (Addr × Obj))(s:Shared)(σ:St)(H:Hp)(x:V)(v:Value)(Q:VK),Inv X Ä σ H s->RelV x v->r x H Q ->
  wpAny (model X.prog X.w) X.A (f v) (EP X Ä σ Q) X.xe s
def dC (X:Cx)(f:Value)(r:List V->Hp->VK->Prop):Prop :=
 ∀(Ä:List (Addr × Obj))(s:Shared)(σ:St)(H:Hp)(xs:List V)(us:List Value)(Q:VK),Inv X Ä σ H s->Vals xs us->r xs H Q ->
  wpAny (model X.prog X.w) X.A (call f us) (EP X Ä σ Q) X.xe s
def aQ (r:R2)(ta tb:TE):TE:=λ σ H Q=>ta σ H λ x H1=>tb σ H1 λ y H2=>r x y H2 Q
def LH (r:V->Hp->VK->Prop)(ta:TE):TE:=λ σ H Q=>ta σ H λ x H1=>r x H1 Q
def rI (C:Int->Int->Prop)(g:Int->Int->V):R2:=λ x y H Q=>∃ i j,x=.int i/\y=.int j/\C i j/\Q (g i j) H
def dR (g:Int->Int->V):R2:=λ x y H Q=>∃ i j,x=.int i/\y=.int j/\Q (g i j) H
def rU (g:Int->V):V->Hp->VK->Prop:=λ x H Q=>∃ i,x=.int i/\Q (g i) H
section
variable {X:Cx}{a b c:Expr}{ta tb tc:TE}{ô:Pos}
theorem Bp (ha:PE X a ta)(hb:PE X b tb){Ä:List (Addr × Obj)}{s:Shared}{σ:St}{H:Hp}{R:V->V->Hp->Prop}(I:Inv X Ä σ H s)
  (h:ta σ H λ x H1=>tb σ H1 λ y H2=>R x y H2){Q:fg}{f:Value->Value->Sem Value}
  (hf:∀ v u s2 x y H2,Inv X Ä σ H2 s2->RelV x v->RelV y u->R x y H2->wpAny (model X.prog X.w) X.A (f v u) Q X.xe s2) :
  wpAny (model X.prog X.w) X.A (eval a X.env) (λ v Ď=>wpAny (model X.prog X.w) X.A (eval b X.env) (λ u Ż=>wpAny (model X.prog X.w) X.A (f v u) Q X.xe Ż) X.xe Ď) X.xe s:=by
 refine aV (ha Ä s σ H _ I h) λ v s1 ⟨x,H1,I1,r1,q1⟩=>?_;refine aV (hb Ä s1 σ H1 _ I1 q1) λ u s2 ⟨y,H2,I2,r2,q2⟩=>?_;exact hf v u s2 x y H2 I2 r1 r2 q2
theorem aE {op:Operator}{r:R2}(ho:jn X (binaryOp op) r)(ha:PE X a ta)(hb:PE X b tb):PE X (.BinOp a op b ô) (aQ r ta tb):=by
 intro Ä s σ H Q I h;exact wpAny_BinOp (Bp ha hb I h λ v u s2 x y H2 I2 rx ry q=>ho Ä s2 σ H2 x y v u Q I2 rx ry q)
theorem F8 (ho:Is X (unaryOp op) r)(ha:PE X a ta):PE X (.UnaryOp op a ô) (LH r ta):=by
 intro Ä s σ H Q I h;exact UnaryOp_ (aV (ha Ä s σ H _ I h) λ v s1 ⟨x,H1,I1,r1,q1⟩=>ho Ä s1 σ H1 x v Q I1 r1 q1)
theorem HE {f:Value->Value->Sem Value}{C:Int->Int->Prop}{g:Int->Int->Int}
  (rule:∀(i j:Int)(t u:Tok)(s:Shared)(Q:fg)(E:fg),C i j->Q (.int (g i j) s.toks) { s with toks:=s.toks+1 }->wpAny (model X.prog X.w) X.A (f (.int i t) (.int j u)) Q E s) :
  jn X f (rI C λ i j=>.int (g i j)):=by
 intro Ä s σ H x y v u Q I rx ry h;obtain⟨i,j,rfl,rfl,hc,q⟩:=h;obtain⟨t,rfl⟩:=rx;obtain⟨t',rfl⟩:=ry;exact rule i j t t' s _ _ hc ⟨.int (g i j),H,I.tok _,⟨_,rfl⟩,q⟩
theorem zE {f:Value->Value->Sem Value}{g:Int->Int->Int}
  (rule:∀(i j:Int)(t u:Tok)(s:Shared)(Q:fg)(E:fg),Q (.int (g i j) s.toks) { s with toks:=s.toks+1 }->wpAny (model X.prog X.w) X.A (f (.int i t) (.int j u)) Q E s) :
  jn X f (dR λ i j=>.int (g i j)):=by
 intro Ä s σ H x y v u Q I rx ry h;obtain⟨i,j,rfl,rfl,q⟩:=h;obtain⟨t,rfl⟩:=rx;obtain⟨t',rfl⟩:=ry;exact rule i j t t' s _ _ ⟨.int (g i j),H,I.tok _,⟨_,rfl⟩,q⟩
theorem vL {f:Value->Value->Sem Value}{g:Int->Int->Bool}
  (rule:∀(i j:Int)(t u:Tok)(s:Shared)(Q:fg)(E:fg),Q (.bool (g i j)) s->wpAny (model X.prog X.w) X.A (f (.int i t) (.int j u)) Q E s) :
  jn X f (dR λ i j=>.bl (g i j)):=by
 intro Ä s σ H x y v u Q I rx ry h;obtain⟨i,j,rfl,rfl,q⟩:=h;obtain⟨t,rfl⟩:=rx;obtain⟨t',rfl⟩:=ry;exact rule i j t t' s _ _ ⟨.bl (g i j),H,I,rfl,q⟩
def kO (i j:Int):Prop:=0<j/\j<1073741824
def Hg (i j:Int):Prop:=0<=j/\j<=1000000/\i.natAbs<2^64
def Ζ (i j:Int):Prop:=(-(2^64)<i/\i<2^64)\/(-(2^64)<j/\j<2^64)
theorem Ζ.ok {i j:Int}(h:Ζ i j):IntMulOk i j:=by
 rcases h with⟨h1,h2⟩ | ⟨h1,h2⟩
 ·exact .of_left (intBits_le_64 h1 h2)
 ·exact .of_right (intBits_le_64 h1 h2)
theorem bw:jn X (binaryOp .Add) (dR λ i j=>.int (i+j)):=zE λ _ _ _ _ _ _ _ q=>add_int q
theorem ib:jn X (binaryOp .Sub) (dR λ i j=>.int (i-j)):=zE λ _ _ _ _ _ _ _ q=>sub_int q
theorem dY:jn X (binaryOp .Mult) (rI Ζ λ i j=>.int (i*j)):=HE λ _ _ _ _ _ _ _ hc q=>mul_int q hc.ok
theorem fY:jn X (binaryOp .FloorDiv) (rI kO λ i j=>.int (i/j)):=HE λ i j _ _ _ _ _ hc q=>by
 have h1:=hc.1;have h2:=hc.2;exact floordiv_int ai (by rw [Int.fdiv_eq_ediv_of_nonneg i ai];exact q) (.inl (PyProof.noPylong_small ai))
theorem c6:jn X (binaryOp .Mod) (rI (λ _ j=>0<j) λ i j=>.int (i%j)):=HE λ i j _ _ _ _ _ hc q=>by
 have h1:=hc;exact mod_int' ai (by rw [Int.fmod_eq_emod_of_nonneg i ai];exact q)
theorem zh:jn X (binaryOp .Pow) (rI Hg λ i j=>.int (i^j.toNat)):=HE λ _ _ _ _ _ _ _ hc q=>pow_int_small hc.1 hc.2.1 hc.2.2 q
theorem B7:jn X (binaryOp .BitXor) (dR λ i j=>.int (Builtin.bitXor i j)):=zE λ _ _ _ _ _ _ _ q=>xor_int q
theorem LO {f:Value->Sem Value}{g:Int->Int}
  (rule:∀(i:Int)(t:Tok)(s:Shared)(Q:fg)(E:fg),Q (.int (g i) s.toks) { s with toks:=s.toks+1 }->wpAny (model X.prog X.w) X.A (f (.int i t)) Q E s) :
  Is X f (rU λ i=>.int (g i)):=by
 intro Ä s σ H x v Q I rx h;obtain⟨i,rfl,q⟩:=h;obtain⟨t,rfl⟩:=rx;exact rule i t s _ _ ⟨.int (g i),H,I.tok _,⟨_,rfl⟩,q⟩
theorem Cu:Is X (unaryOp .USub) (rU λ i=>.int (-i)):=LO λ _ _ _ _ _ q=>neg_int q
end
def Ey:V->V->Bool
 | .Ċ,.Ċ=>true | .Ċ,.int _=>true | .int _,.Ċ=>true | .Ċ,.bl _=>true | .bl _,.Ċ=>true | .Ċ,.str _=>true | .str _,.Ċ=>true
 | .int _,.int _=>true | .bl _,.bl _=>true | .str _,.str _=>true | .ON _,.ON _=>true
 | .int _,.str _=>true | .str _,.int _=>true | .bl _,.str _=>true | .str _,.bl _=>true
 | _,_=>false
def nA:R2:=λ x y H Q=>Ey x y=true/\Q (.bl (decide (x=y))) H
def Iy:R2:=λ x y H Q=>Ey x y=true/\Q (.bl (!decide (x=y))) H
theorem rj:decide (V.int i=V.int j)=(i==j):=by
 rw [t_];simp
theorem vl:decide (V.bl i=V.bl j)=(i==j):=by
 rw [t_];simp
theorem qZ:decide (V.str i=V.str j)=(i==j):=by
 rw [t_];simp
theorem rB:decide (V.ON i=V.ON j)=(i.toList==j.toList):=by
 rw [t_];cases i;cases j;simp
section
variable {X:Cx}{a b c:Expr}{ta tb tc:TE}{ô:Pos}
theorem bc (I:Inv X Ä σ H s)(q:Q (.bl k) H)(e:k=k'):EP X Ä σ Q (.bool k') s:=by
 subst e;exact⟨.bl k,H,I,rfl,q⟩
theorem cj:jn X (compareOp .Eq) nA:=by
 intro Ä s σ H x y v u Q I rx ry h;obtain⟨hs,q⟩:=h;cases x with
 | Ċ =>
  cases rx;cases y with
  | Ċ=>cases ry;exact PySem.EqNone.eq_none_none (bc I q (by simp))
  | bl j=>cases ry;exact PySem.EqNone.eq_none_bool (bc I q (by simp))
  | int j=>obtain⟨t',rfl⟩:=ry;exact PySem.EqNone.eq_none_int (bc I q (by simp))
  | str j=>obtain⟨t',rfl⟩:=ry;exact PySem.EqNone.eq_none_str (bc I q (by simp))
  | _=>exact absurd (show false=true from hs) Ô
 | bl i =>
  cases rx;cases y with
  | Ċ=>cases ry;exact PySem.EqNone.eq_bool_none (bc I q (by simp))
  | bl j=>cases ry;exact eq_bool (bc I q vl)
  | str j=>obtain⟨t',rfl⟩:=ry;exact PySem.EqMixed.eq_bool_str (bc I q (by simp))
  | _=>exact absurd (show false=true from hs) Ô
 | int i =>
  obtain⟨t,rfl⟩:=rx;cases y with
  | Ċ=>cases ry;exact PySem.EqNone.eq_int_none (bc I q (by simp))
  | int j=>obtain⟨t',rfl⟩:=ry;exact eq_int (bc I q rj)
  | str j=>obtain⟨t',rfl⟩:=ry;exact PySem.EqMixed.eq_int_str (bc I q (by simp))
  | _=>exact absurd (show false=true from hs) Ô
 | str i =>
  obtain⟨t,rfl⟩:=rx;cases y with
  | Ċ=>cases ry;exact PySem.EqNone.eq_str_none (bc I q (by simp))
  | bl j=>cases ry;exact PySem.EqMixed.eq_str_bool (bc I q (by simp))
  | int j=>obtain⟨t',rfl⟩:=ry;exact PySem.EqMixed.eq_str_int (bc I q (by simp))
  | str j=>obtain⟨t',rfl⟩:=ry;exact eq_str (bc I q qZ)
  | _=>exact absurd (show false=true from hs) Ô
 | ON i =>
  obtain⟨t,rfl⟩:=rx;cases y with
  | ON j=>obtain⟨t',rfl⟩:=ry;exact PySem.W.eq_bytes (bc I q rB)
  | _=>exact absurd (show false=true from hs) Ô
 | _=>cases y <;> exact absurd (show false=true from hs) Ô
theorem lG:jn X (compareOp .NotEq) Iy:=by
 intro Ä s σ H x y v u Q I rx ry h;obtain⟨hs,q⟩:=h;cases x with
 | Ċ =>
  cases rx;cases y with
  | Ċ=>cases ry;exact PySem.EqNone.ne_none_none (bc I q (by simp))
  | bl j=>cases ry;exact PySem.EqNone.ne_none_bool (bc I q (by simp))
  | int j=>obtain⟨t',rfl⟩:=ry;exact PySem.EqNone.ne_none_int (bc I q (by simp))
  | str j=>obtain⟨t',rfl⟩:=ry;exact PySem.EqNone.ne_none_str (bc I q (by simp))
  | _=>exact absurd (show false=true from hs) Ô
 | bl i =>
  cases rx;cases y with
  | Ċ=>cases ry;exact PySem.EqNone.ne_bool_none (bc I q (by simp))
  | bl j=>cases ry;exact ne_bool (bc I q (ġ not vl))
  | str j=>obtain⟨t',rfl⟩:=ry;exact PySem.EqMixed.ne_bool_str (bc I q (by simp))
  | _=>exact absurd (show false=true from hs) Ô
 | int i =>
  obtain⟨t,rfl⟩:=rx;cases y with
  | Ċ=>cases ry;exact PySem.EqNone.ne_int_none (bc I q (by simp))
  | int j=>obtain⟨t',rfl⟩:=ry;exact ne_int (bc I q (ġ not rj))
  | str j=>obtain⟨t',rfl⟩:=ry;exact PySem.EqMixed.ne_int_str (bc I q (by simp))
  | _=>exact absurd (show false=true from hs) Ô
 | str i =>
  obtain⟨t,rfl⟩:=rx;cases y with
  | Ċ=>cases ry;exact PySem.EqNone.ne_str_none (bc I q (by simp))
  | bl j=>cases ry;exact PySem.EqMixed.ne_str_bool (bc I q (by simp))
  | int j=>obtain⟨t',rfl⟩:=ry;exact PySem.EqMixed.ne_str_int (bc I q (by simp))
  | str j=>obtain⟨t',rfl⟩:=ry;exact ne_str (bc I q (ġ not qZ))
  | _=>exact absurd (show false=true from hs) Ô
 | ON i =>
  obtain⟨t,rfl⟩:=rx;cases y with
  | ON j=>obtain⟨t',rfl⟩:=ry;exact PySem.W.ne_bytes (bc I q (ġ not rB))
  | _=>exact absurd (show false=true from hs) Ô
 | _=>cases y <;> exact absurd (show false=true from hs) Ô
theorem nX:jn X (compareOp .Lt) (dR λ i j=>.bl (decide (i<j))):=vL λ _ _ _ _ _ _ _ q=>lt_int q
theorem yB:jn X (compareOp .LtE) (dR λ i j=>.bl (decide (i<=j))):=vL λ _ _ _ _ _ _ _ q=>le_int q
theorem f9:jn X (compareOp .Gt) (dR λ i j=>.bl (decide (j<i))):=vL λ _ _ _ _ _ _ _ q=>gt_int q
theorem yv:jn X (compareOp .GtE) (dR λ i j=>.bl (decide (j<=i))):=vL λ _ _ _ _ _ _ _ q=>ge_int q
theorem qO:jn X (compareOp .IsNot) (λ x y H Q=>y=.Ċ/\Q (.bl (!decide (x=.Ċ))) H):=by
 intro Ä s σ H x y v u Q I rx ry h;obtain⟨rfl,q⟩:=h;cases ry;refine isnot_none_gen (bc I q ?_);cases x <;> first
  | (cases rx;rfl)
  | (obtain⟨t,rfl⟩:=rx;rfl)
theorem ax (b:Expr)(h:op ≠ .In:=by decide)(h2:op ≠ .NotIn:=by decide):behindInMarks op b=false:=by
 have e1:(op==CmpOp.In)=false:=by cases op <;> first | rfl | exact absurd rfl h
 have e2:(op==CmpOp.NotIn)=false:=by cases op <;> first | rfl | exact absurd rfl h2
 cases b <;> simp [behindInMarks,e1,e2]
theorem dB {op:CmpOp}{r:R2}(ho:jn X (compareOp op) r)(ha:PE X a ta)(hb:PE X b tb)(hm:behindInMarks op b=false):PE X (.Compare a [op] [b] ô) (aQ r ta tb):=by
 intro Ä s σ H Q I h;exact wpAny_Compare1 (Bp ha hb I h λ v u s2 x y H2 I2 rx ry q=>ho Ä s2 σ H2 x y v u Q I2 rx ry q) hm
def Fb (t:TE):TT:=λ σ H Q=>t σ H λ x H'=>∃ k,x=.bl k/\Q k H'
theorem ar (ho:jn X (compareOp op) r)(ha:PE X a ta)(hb:PE X b tb)(hm:behindInMarks op b=false):PT X (.Compare a [op] [b] ô) (Fb (aQ r ta tb)):=by
 intro Ä s σ H Q I h;refine wpAny_isTrue_Compare1 (aV (ha Ä s σ H _ I h) λ v s1 ⟨x,H1,I1,r1,q1⟩=>aV (hb Ä s1 σ H1 _ I1 q1) λ u s2 ⟨y,H2,I2,r2,q2⟩ =>
  aV (ho Ä s2 σ H2 x y v u _ I2 r1 r2 q2) λ c s3 ⟨z,H3,I3,r3,k,e,q3⟩=>?_) hm
 subst e;cases r3;exact ķ ⟨H3,I3,q3⟩
theorem j3:(sizeLine:Nat)<2^63:=by rw [Ö];decide
theorem fm (r:Vals [x] us):∃ u,us=[u]/\RelV x u:=by
 cases r with
 | cons r1 r2=>cases r2;exact⟨_,rfl,r1⟩
theorem ky (r:Vals [x,y] us):∃ u w',us=[u,w']/\RelV x u/\RelV y w':=by
 cases r with
 | cons r1 r2 =>
  cases r2 with
  | cons r3 r4=>cases r4;exact⟨_,_,rfl,r1,r3⟩
theorem i9 (hc:X.calm=true):dC X (.builtin "max") (λ xs H Q=>∃ i j,xs=[.int i,.int j]/\Q (.int (if j>i then j else i)) H):=by
 intro Ä s σ H xs us Q I r h;obtain⟨i,j,rfl,q⟩:=h;obtain⟨u,w',rfl,⟨t,rfl⟩,⟨t',rfl⟩⟩:=ky r;refine max_two_ints (I.ok.hd hc) λ h' tk k=>⟨_,H,I.kept k,?_,q⟩;by_cases hj:j>i
 ·rw [Ø hj,Ø hj];exact⟨_,rfl⟩
 ·rw [Ï hj,Ï hj];exact⟨_,rfl⟩
theorem rM (hc:X.calm=true):dC X (.builtin "min") (λ xs H Q=>∃ i j,xs=[.int i,.int j]/\Q (.int (if j<i then j else i)) H):=by
 intro Ä s σ H xs us Q I r h;obtain⟨i,j,rfl,q⟩:=h;obtain⟨u,w',rfl,⟨t,rfl⟩,⟨t',rfl⟩⟩:=ky r;refine min_two_ints (I.ok.hd hc) λ h' tk k=>⟨_,H,I.kept k,?_,q⟩;by_cases hj:j<i
 ·rw [Ø hj,Ø hj];exact⟨_,rfl⟩
 ·rw [Ï hj,Ï hj];exact⟨_,rfl⟩
theorem iY:dC X (.type "int") (λ xs H Q=>(∃ i,xs=[.int i]/\Q (.int i) H)\/∃ k,xs=[.bl k]/\Q (.int (if k then 1 else 0)) H):=by
 intro Ä s σ H xs us Q I r h;rcases h with⟨i,rfl,q⟩ | ⟨k,rfl,q⟩
 ·obtain⟨u,rfl,t,rfl⟩:=fm r;exact call_int_int ⟨.int i,H,I,⟨_,rfl⟩,q⟩
 ·obtain⟨u,rfl,r1⟩:=fm r;cases r1;exact call_int_bool ⟨.int (if k then 1 else 0),H,I.tok _,⟨_,rfl⟩,q⟩
end
structure NZ (h:Heap)(x dx C:Addr)(mA:bC):Prop where
 obj:h.get? x=some (PySem.W.instObj C dx)
 ns:h.Ns1 dx mA
 ne:dx≠x
theorem iR {h:Heap}{dx:Addr}{mA:bC}(n:h.Ns1 dx mA):∃ od,h.get? dx=some od/\∀ name,PySem.W.lookIn name od=some (mA name):=by
 obtain⟨o,es,ep,ho,hd,hk,_,hm⟩:=n;refine⟨o,ho,λ name=>?_⟩;have e:=hm name;unfold nsFind findBy at e;rw [<- Array.find?_toList] at e;unfold PySem.W.lookIn;rw [hd]
 dsimp only
 split
 ·rename_i y q
  rw [q] at e;exact ġ some e
 ·rename_i q
  rw [q] at e;have a:es.toList.any (·.refKey)=false:=by
   rw [List.any_eq_false];intro y hy;obtain⟨z,t,Wi⟩:=hk y (Array.mem_toList_iff.mp hy);simp [DictEntry.refKey,Wi]
  have a':¬ es.toList.any (·.refKey)=true:=by rw [a];exact Ô
  rw [Ï a'];exact ġ some e
theorem NZ.look (I:NZ h x dx C mA):∃ od,PySem.W.InstAt h x (PySem.W.instObj C dx) C (some od)/\∀ name,PySem.W.lookIn name od=some (mA name) :=
 let ⟨od,ho,hl⟩:=iR I.ns
 ⟨od,⟨I.obj,rfl,rfl,ho⟩,hl⟩
section
variable {prog:Program}{w:World}{A:Around}{E:fg}{s:Shared}{K:PySem.W.Frag}{x dx C f:Addr}{mA:bC}{name:Str}{v:Value}
theorem xH (X:K.In s.heap)(I:NZ s.heap x dx C mA)(hg:PySem.W.plainGet K C name=true)(hh:PySem.W.hasDictIn K C=true)
  (ha:PySem.W.findIn K (.ref C) name=some none)(hv:mA name=some v)(QR:PySem.W.handedIn v=true)(h:Q v { s with toks:=s.toks+1 }) :
  wpAny (model prog w) A (getAttr (.ref x) name expr) Q E s:=by
 obtain⟨od,J,hl⟩:=I.look;exact PySem.W.get_value X J (Mj hg).1 (PySem.W.findObj_own hh ha rfl (by rw [hl,hv])) QR h
theorem uh (X:K.In s.heap)(I:NZ s.heap x dx C mA)(hg:PySem.W.plainGet K C name=true)
  (hf:PySem.W.findIn K (.ref C) name=some (some (.ref f)))(ht:PySem.W.isFn K (.ref f)=true)(hv:mA name=none)(h:Q (.ref f,[.ref x]) s) :
  wpAny (model prog w) A (getMethod (.ref x) name pl) Q E s:=by
 obtain⟨od,J,hl⟩:=I.look;exact PySem.W.method_fn X J (Mj hg).1 (Mj hg).2 hf (Ě.mp ht) (by show(PySem.W.lookIn name od).map (·.isSome)=some false;rw [hl,hv];rfl) h
theorem w6 (X:K.In s.heap)(I:NZ s.heap x dx C mA)
  (hs:PySem.W.findIn K (.ref C) "__setattr__" = some (some (.builtin "object.__setattr__")))(hp:PySem.W.plainOver K C=true)(ht:PySem.W.takerIn K C name=some none)(hh:PySem.W.hasDictIn K C=true)
  (hw:PySem.Within mA ns)(hsz:ns.length<=sizeLine)
  (h:∀ h',NZ h' x dx C (λ y=>if y=name then some v else mA y)->Heap.SameBut dx s.heap h'->Q () { s with heap:=h',toks:=s.toks+2 }) :
  wpAny (model prog w) A (setAttr (.ref x) name v) Q E s:=by
 obtain⟨od,J,hl⟩:=I.look;refine PySem.W.set_plain X J hs (PySem.W.osa_open X J hp ht λ b=>?_);obtain⟨cd,hc,NU⟩:=PySem.W.any_some hh;have hx:=I.obj;refine À (Æ (À (À (wpAny_loadPart hx (À (PySem.W.Looks.here (PySem.W.looks_clsIn X hc) ?_))))));rw [NU];refine Æ (À (Æ (À ?_)));refine wpAny_nsSet1 I.ns λ h' Uq XJ=>?_;obtain⟨oD,esD,epD,Rv,Tc,Pq⟩:=Uq.count (PySem.Within.cons name v hw);refine À (wpAny_lookBehind Rv (by rw [Tc];exact pastItsLine_dict (õ Pq (by rw [ā];omega))) ?_)
 exact Æ (h _ ⟨(XJ.2 _ (Ne.symm I.ne)).trans I.obj,Uq,I.ne⟩ XJ)
theorem sV (X:K.In s.heap)(hm:PySem.W.makesIn K C=true)
  (hi:PySem.W.findIn K (.ref C) "__init__" = some (some (.ref f)))(hf:PySem.W.typeIn K (.ref f)=some (.type "function"))
  (h:codeAny (model prog w) (A.under (.builtin "type.__call__" ⟨.ref C::vs,kw⟩)) (.call (.ref f) ⟨.ref (s.heap.objs.size+1)::vs,kw⟩) (PySem.W.InitBack (s.heap.objs.size+1) R)
   { s with heap:=(s.heap.push PySem.W.emptyDict).push (PySem.W.instObj C s.heap.objs.size) }) :
  codeAny (model prog w) A (.call (.ref C) ⟨vs,kw⟩) R s:=by
 obtain⟨hh,g,d,t,os⟩:=s;exact PySem.W.make_core (PySem.W.makes_of X hm) (PySem.W.looks_findIn X hi) (λ self=>PySem.W.bind_fn X self hf) (.inl rfl) h
end
def bK (f:Str)(v:V):List (Str × V)->List (Str × V)
 | []=>[(f,v)]
 | (g,x)::r=>if g=f then(g,v)::r else(g,x)::bK f v r
theorem gu (f g:Str)(v:V):∀ fs:List (Str × V),(bK f v fs).lookup g=if g=f then some v else fs.lookup g
 | []=>by
  show List.lookup g [(f,v)]=_;by_cases h:g=f
  ·have hb:=Ě.mpr h;simp only [List.lookup,hb,if_pos h]
  ·have hb:=ã.mpr h;simp only [List.lookup,hb,if_neg h]
 | (k,x)::r=>by
  have ih:=gu f g v r;rw [show bK f v ((k,x)::r)=(if k=f then(k,v)::r else(k,x)::bK f v r) from rfl]
  by_cases hk:k=f
  ·rw [Ø hk];by_cases h:g=k
   ·have hb:=Ě.mpr h;simp only [List.lookup,hb,if_pos (h.trans hk)]
   ·have hb:=ã.mpr h;simp only [List.lookup,hb,if_neg (λ e:g=f=>h (e.trans hk.symm))]
  ·rw [Ï hk];by_cases h:g=k
   ·have hb:=Ě.mpr h;simp only [List.lookup,hb,if_neg (λ e:g=f=>hk (h.symm.trans e))]
   ·have hb:=ã.mpr h;simp only [List.lookup,hb];exact ih
theorem iP (f:Str)(v:V):∀ fs:List (Str × V),f∈(bK f v fs).map (·.1)/\∀ g,g∈fs.map (·.1)->g∈(bK f v fs).map (·.1)
 | []=>⟨by simp [bK],λ g h=>by simp at h⟩
 | (k,x)::r=>by
  obtain⟨i1,i2⟩:=iP f v r;rw [show bK f v ((k,x)::r)=(if k=f then(k,v)::r else(k,x)::bK f v r) from rfl]
  by_cases hk:k=f
  ·rw [Ø hk];subst hk;exact⟨by simp,λ g h=>by simpa using h⟩
  ·rw [Ï hk];refine⟨?_,λ g h=>?_⟩
   ·rw [ï];exact á _ i1
   ·rw [ï] at h ⊢;rcases ë.mp h with e | e
    ·exact ë.mpr (.inl e)
    ·exact á _ (i2 g e)
theorem je (f:Str)(v:V):∀ fs:List (Str × V),(bK f v fs).length<=fs.length+1
 | []=>by simp [bK]
 | (k,x)::r=>by
  have ih:=je f v r;rw [show bK f v ((k,x)::r)=(if k=f then(k,v)::r else(k,x)::bK f v r) from rfl]
  by_cases hk:k=f
  ·rw [Ø hk,ā,ā];omega
  ·rw [Ï hk,ā,ā];omega
theorem Ρ.some_of (r:Ρ (some v) o):∃ u,o=some u/\RelV v u:=by
 cases o with
 | none=>exact(show False from r).elim
 | some u=>exact⟨u,rfl,r⟩
theorem Ρ.none_of (r:Ρ none o):o=none:=by
 cases o with
 | none=>rfl
 | some u=>exact(show False from r).elim
theorem lg (r:RelV v u):PySem.W.handedIn u=true:=by
 cases v with
 | Ċ=>cases (show u=.none from r);rfl
 | bl b=>cases (show u=Value.bool b from r);rfl
 | int i=>obtain⟨t,e⟩:=(show ∃ t,u=.int i t from r);cases e;rfl
 | str x=>obtain⟨t,e⟩:=(show ∃ t,u=.str x t from r);cases e;rfl
 | ON b=>obtain⟨t,e⟩:=(show ∃ t,u=Value.bytes b t from r);cases e;rfl
 | PR b=>obtain⟨t,e⟩:=(show ∃ t,u=Value.float b t from r);cases e;rfl
 | ref a=>cases (show u=.ref a from r);rfl
 | ty n=>cases (show u=Value.type n from r);rfl
section
variable {P:Program}{w:World}{H H':Hp}{h h':Heap}{a C dx:Addr}{fs fs':List (Str × V)}
theorem iA (ċ:Ι P w H h)(e:H a=some (.ins C dx fs)):∃ mA,NZ h a dx C mA/\(∀ f,Ρ (fs.lookup f) (mA f))/\PySem.Within mA (fs.map (·.1))/\fs.length<=1000/\H dx=some (.own a):=by
 obtain⟨d,z,ne,ob,mA,n,r,q⟩:=(show Ą P w H h a (.ins C dx fs) from ċ a _ e);exact⟨mA,⟨ob,n,ne⟩,r,q,z,d⟩
end
structure OF (K:PySem.W.Frag)(C:Addr):Prop where
 pg:PySem.W.plainGet K C Str.empty=true
 hd:PySem.W.hasDictIn K C=true
 po:PySem.W.plainOver K C=true
 sa:PySem.W.findIn K (.ref C) "__setattr__" = some (some (.builtin "object.__setattr__"))
theorem OF.get {K:PySem.W.Frag}{C:Addr}(c:OF K C)(f:Str):PySem.W.plainGet K C f=true:=c.pg
def ž (K:PySem.W.Frag)(C:Addr)(f:Str):Prop:=PySem.W.findIn K (.ref C) f=some none
theorem ž.Sh {K:PySem.W.Frag}{C:Addr}{f:Str}(n:ž K C f):PySem.W.takerIn K C f=some none:=by
 unfold PySem.W.takerIn;rw [show PySem.W.findIn K (.ref C) f=some none from n];rfl
structure G2 (K:PySem.W.Frag)(C:Addr)(m:Str)(f:Addr):Prop where
 at_:PySem.W.findIn K (.ref C) m=some (some (.ref f))
 fn:PySem.W.isFn K (.ref f)=true
 kp:PySem.W.keepIn K (.ref f)=true
section
variable {X:Cx}{Ä:List (Addr × Obj)}{σ:St}{H:Hp}{s:Shared}{a C dx:Addr}{fs:List (Str × V)}{f:Str}{v:V}{A:Around}{E:fg}
theorem pA (I:Inv X Ä σ H s)(e:H a=some (.ins C dx fs))(c:OF X.K C)(n:ž X.K C f)(l:fs.lookup f=some v)
  (h:∀ u s',Inv X Ä σ H s'->RelV v u->Q u s'):wpAny (model X.prog X.w) A (getAttr (.ref a) f b) Q E s:=by
 obtain⟨mA,O,r,_,_,_⟩:=iA I.ċ e;obtain⟨u,hu,ru⟩:=Ρ.some_of (by rw [<- l];exact r f)
 exact xH I.Ō O (c.get f) c.hd n hu (lg ru) (h u _ (I.tok _) ru)
theorem hV (I:Inv X Ä σ H s)(e:H a=some (.ins C dx fs))(c:OF X.K C)(k:G2 X.K C m g)(l:fs.lookup m=none)
  (h:Q (.ref g,[.ref a]) s):wpAny (model X.prog X.w) A (getMethod (.ref a) m pl) Q E s:=by
 obtain⟨mA,O,r,_,_,_⟩:=iA I.ċ e;have hn:=Ρ.none_of (by rw [<- l];exact r m)
 exact uh I.Ō O (c.get m) k.at_ k.fn hn h
theorem pR (I:Inv X Ä σ H s)(e:H a=some (.ins C dx fs))(c:OF X.K C)(n:ž X.K C f)(hl:fs.length<1000)(ry:RelV y u)
  (h:∀ s',Inv X Ä σ (ad H a (.ins C dx (bK f y fs))) s'->Q () s'):wpAny (model X.prog X.w) A (setAttr (.ref a) f u) Q E s:=by
 obtain⟨mA,O,r,wi,_,ho⟩:=iA I.ċ e;have hz:(fs.map (·.1)).length<=sizeLine:=by rw [Â,Ö];omega
 refine w6 I.Ō O c.sa c.po n.Sh c.hd wi hz λ h' O' sb=>h _ ?_;have hd:∃ o,h'.get? dx=some o:=let ⟨o,_,_,e',_⟩:=O'.ns;⟨o,e'⟩
 refine I.write (by rw [e];exact True.intro) (.inr ho) (λ b q hb z=>(sb.2 b hb).trans z) hd ?_
 refine⟨by rw [af O.ne];exact ho,?_,O.ne,O'.obj,_,O'.ns,λ g=>?_,λ g hg=>?_⟩
 ·have:=je f y fs;omega
 ·rw [gu];by_cases q:g=f
  ·rw [Ø q,Ø q];exact ry
  ·rw [Ï q,Ï q];exact r g
 ·by_cases q:g=f
  ·rw [q];exact(iP f y fs).1
  ·refine(iP f y fs).2 g (wi g λ z=>hg ?_);show(if g=f then some u else mA g)=none
   rw [Ï q];exact z
theorem Inv.made (I:Inv X Ä σ H s):Inv X Ä σ (ad (ad H s.heap.objs.size (.own (s.heap.objs.size+1))) (s.heap.objs.size+1) (.ins C s.heap.objs.size []))
  { s with heap:=(s.heap.push PySem.W.emptyDict).push (PySem.W.instObj C s.heap.objs.size) }:=by
 have e1:(s.heap.push PySem.W.emptyDict).get? s.heap.objs.size=some PySem.W.emptyDict:=Ò s.heap rfl;have e2:((s.heap.push PySem.W.emptyDict).push (PySem.W.instObj C s.heap.objs.size)).get? (s.heap.objs.size+1)=some (PySem.W.instObj C s.heap.objs.size):=by
  have:=Ò (s.heap.push PySem.W.emptyDict) (o:=PySem.W.instObj C s.heap.objs.size) rfl
  rwa [û] at this
 have e3:(s.heap.push PySem.W.emptyDict).Ns s.heap.objs.size (λ _=>none):=⟨PySem.W.emptyDict,#[],_,e1,rfl,(λ e he=>absurd he (by simp)),λ _=>rfl⟩
 have I1:=I.laid (a:=s.heap.objs.size) (o:=.own (s.heap.objs.size+1)) (t':=s.toks) (λ b u q=>Ã _ q) (Ê _) ⟨_,e1⟩;refine I1.laid (λ b u q=>Ã _ q) (Ο (û _ _)) ?_;have ne:s.heap.objs.size≠s.heap.objs.size+1:=Ó (NC _);refine⟨by rw [af ne,aM],ı _,ne,e2,λ _=>none,(Heap.Ns1.of_empty e3).at λ o q=>Ã _ q,λ _=>True.intro,λ y hy=>absurd rfl hy⟩
theorem qQ (hb:attributeBase e f env (eval e env)=eval e env)
  (h:wpAny (model prog w) A (eval e env) (λ o Ď=>wpAny (model prog w) A (getAttr o f true) Q E Ď) E s):wpAny (model prog w) A (eval (.Attribute e f ô) env) Q E s :=
 Attribute_any_ h (by rw [arm_eval_Attribute,hb])
end
def vd (K:PySem.W.Frag)(ta:TE)(f:Str):TE:=λ σ H Q=>ta σ H λ x H1=>∃ a C dx fs v,x=.ref a/\H1 a=some (.ins C dx fs)/\OF K C/\ž K C f/\fs.lookup f=some v/\Q v H1
def ES (K:PySem.W.Frag)(ta tv:TE)(f:Str):TS:=λ D σ H=>tv σ H λ y H1=>ta σ H1 λ x H2=>∃ a C dx fs,x=.ref a/\H2 a=some (.ins C dx fs)/\OF K C/\ž K C f/\fs.length<1000 /\
 D.nx σ (ad H2 a (.ins C dx (bK f y fs)))
section
variable {X:Cx}{o e value:Expr}{f:Str}{ô pos' Sg:Pos}{ta tv:TE}
theorem oW (he:PE X e ta)(hb:attributeBase e f X.env (eval e X.env)=eval e X.env):PE X (.Attribute e f ô) (vd X.K ta f):=by
 intro Ä s σ H Q I h;refine qQ hb (aV (he Ä s σ H _ I h) λ u s1 ⟨x,H1,I1,rx,a,C,dx,fs,v,ex,ea,c,n,l,q⟩=>?_);subst ex;obtain rfl:u=.ref a:=rx;exact pA I1 ea c n l λ u' s2 I2 ru=>⟨v,H1,I2,ru,q⟩
theorem dG (ha:PE X o ta)(hv:PE X value tv)(hs:swapsWith value (some (.Attribute o f pos')) ô.line X.env=pure false):PS X (.Assign [.Attribute o f pos'] value ô) (ES X.K ta tv f):=by
 intro Ä s σ H D I h;refine PB (aV (hv Ä s σ H _ I h) λ u s1 ⟨y,H1,I1,ry,q⟩=>aV (ha Ä s1 σ H1 _ I1 q) λ ov s2 ⟨x,H2,I2,rx,a,C,dx,fs,ex,ea,c,n,l,q2⟩=>?_) hs;subst ex;obtain rfl:ov=.ref a:=rx;exact pR I2 ea c n l ry λ s3 I3=>⟨σ,_,I3,q2⟩
end
section
variable {X:Cx}{Ä:List (Addr × Obj)}{σ:St}{H:Hp}{s:Shared}{A:Around}{E:fg}{Q:fg}{c:Value}{b:Bool}
inductive š (K:PySem.W.Frag)(H:Hp):V->Value->Prop where
 | Ċ:š K H .Ċ (.type "NoneType")
 | bl (x:Bool):š K H (.bl x) (.type "bool")
 | int (i:Int):š K H (.int i) (.type "int")
 | str (x:Str):š K H (.str x) (.type "str")
 | PR (x:UInt64):š K H (.PR x) (.type "float")
 | lst {a:Addr}{xs:List V}(e:H a=some (.lst xs)):š K H (.ref a) (.type "list")
 | υ {a:Addr}{o:Obj}{xs:List V}(e:H a=some (.υ o (.lst xs))):š K H (.ref a) (.type "list")
 | tup {a:Addr}{xs:List V}(e:H a=some (.tup xs)):š K H (.ref a) (.type "tuple")
 | dK {a:Addr}{ì:List (Key × V)}(e:H a=some (.dK ì)):š K H (.ref a) (.type "dict")
 | dT {a:Addr}{ì:List (List Key × V)}(e:H a=some (.dT ì)):š K H (.ref a) (.type "dict")
 | ins {a C dx:Addr}{fs:List (Str × V)}(e:H a=some (.ins C dx fs))(cl:OF K C)(ha:PySem.W.findIn K (.ref C) "__class__" = some (some (.builtin "object.__class__")))
   (hn:PySem.W.specialIn K (.builtin "object.__class__") "__get__" = some (some (.builtin "getset_descriptor.__get__")))(Nq:PySem.W.takesIn K (.builtin "object.__class__")=some true)
   (hm:PySem.W.mroIn K C (.type "object")=some true):š K H (.ref a) (.ref C)
theorem kY (I:Inv X Ä σ H s)(rx:RelV x u)(ty:š X.K H x t)(e:PySem.W.kitOne X.K t c=some b)(h:∀ tk,Q (.bool b) { s with toks:=tk }) :
  wpAny (model X.prog X.w) A (call (.builtin "isinstance") [u,c]) Q E s:=by
 cases ty with
 | Ċ=>cases (show u=.none from rx);exact Ė PySem.W.kitx_none I.Ō True.intro e (λ z=>nomatch z) h
 | bl y=>cases (show u=Value.bool y from rx);exact Ė PySem.W.kitx_bool I.Ō True.intro e (λ z=>nomatch z) h
 | int i=>obtain⟨t,q⟩:=(show ∃ t,u=.int i t from rx);cases q;exact Ė PySem.W.kitx_int I.Ō True.intro e (λ z=>nomatch z) h
 | str y=>obtain⟨t,q⟩:=(show ∃ t,u=.str y t from rx);cases q;exact Ė PySem.W.kitx_str I.Ō True.intro e (λ z=>nomatch z) h
 | PR y=>obtain⟨t,q⟩:=(show ∃ t,u=Value.float y t from rx);cases q;exact Ė PySem.W.kitx_float I.Ō True.intro e (λ z=>nomatch z) h
 | @lst a xs ea =>
  cases (show u=.ref a from rx);obtain⟨_,_,n,_,h1⟩:=(show Ą X.prog X.w H s.heap a (.lst xs) from I.ċ a _ ea);exact Ė ζ I.Ō ⟨_,h1,rfl⟩ e (λ z=>nomatch z) h
 | @υ a ob xs ea =>
  cases (show u=.ref a from rx);obtain⟨_,_,_,n,_,h1⟩:=(show Ą X.prog X.w H s.heap a (.υ ob (.lst xs)) from I.ċ a _ ea);exact Ė ζ I.Ō ⟨_,h1,rfl⟩ e (λ z=>nomatch z) h
 | @tup a xs ea =>
  cases (show u=.ref a from rx);obtain⟨_,_,_,p⟩:=(show Ą X.prog X.w H s.heap a (.tup xs) from I.ċ a _ ea);obtain⟨o,h1,h2,_⟩:=p;exact Ė PySem.W.kitx_tuple I.Ō ⟨o,h1,h2⟩ e (λ z=>nomatch z) h
 | @dK a ì ea =>
  cases (show u=.ref a from rx);obtain⟨_,_,vs,_,p⟩:=(show Ą X.prog X.w H s.heap a (.dK ì) from I.ċ a _ ea);obtain⟨o,es,ep,h1,h2,_⟩:=p;exact Ė η I.Ō ⟨o,h1,h2.1⟩ e (λ z=>nomatch z) h
 | @dT a ì ea =>
  cases (show u=.ref a from rx);obtain⟨_,_,xs,_,o,es,ep,h1,h2,_⟩:=(show Ą X.prog X.w H s.heap a (.dT ì) from I.ċ a _ ea);exact Ė η I.Ō ⟨o,h1,h2.1⟩ e (λ z=>nomatch z) h
 | @ins a C dx fs ea cl ha hn Nq hm =>
  cases (show u=.ref a from rx);obtain⟨mA,O,_⟩:=iA I.ċ ea;obtain⟨od,J,_⟩:=O.look;exact Ė (PySem.W.kitx_own (cl.get _) cl.hd ha hn Nq hm) I.Ō J e (λ z=>nomatch z) h
end
structure ă (k:Nat)(A:Around):Prop where
 hd:A.handled=none
 dp:A.depth+3*k+5<recursionLimit
 un:A.units+16*k+200<cLine
 gd:A.guards=some []
theorem ă.mono (r:ă k A)(h:j<=k):ă j A:=⟨r.hd,by have:=r.dp;omega,by have:=r.un;omega,r.gd⟩
theorem ă.deeper (r:ă (k+1) A)(env:Env):ă k (A.deeper env) :=
 ⟨r.hd,by have:=r.dp;show A.depth+1+3*k+5<_;omega,by have:=r.un;show A.units+3+16*k+200<_;omega,r.gd⟩
theorem pI {A:Around}{C:Addr}{us:List Value}{kw:List (Str × Value)}:(A.under (.builtin "type.__call__" ⟨.ref C::us,kw⟩)).depth=A.depth+1:=by
 first | rfl | simp [Around.under,Code.weight,Code.isCreation,Code.isGuard,Code.isCaller,Code.frames,Code.isFrame,guardIds]
theorem pq {A:Around}{C:Addr}{us:List Value}{kw:List (Str × Value)}:(A.under (.builtin "type.__call__" ⟨.ref C::us,kw⟩)).units=A.units+1:=by
 first | rfl | simp [Around.under,Code.cUnits,Code.frames,Code.isFrame]
theorem ă.make (r:ă (k+1) A)(C:Addr)(us:List Value)(kw:List (Str × Value)):ă k (A.under (.builtin "type.__call__" ⟨.ref C::us,kw⟩)) :=
 ⟨r.hd,by have:=r.dp;rw [pI];omega,by have:=r.un;rw [pq];omega,by have h:=r.gd;first | (simp only [Around.under];rw [h];rfl) | simp [Around.under,h,pushGuards,Code.guards,Code.isGuard,guardIds]⟩
theorem ă.depth (r:ă k A):A.depth<recursionLimit:=by have:=r.dp;omega
theorem ă.units (r:ă k A):A.units+64<cLine:=by have:=r.un;omega
theorem ă.NG (r:ă k A):A.units<cLine:=by have:=r.un;omega
def aK:TA:=λ _ H Q=>Q [] H
def am (ta:TE)(tr:TA):TA:=λ σ H Q=>ta σ H λ x H1=>tr σ H1 λ xs H2=>Q (x::xs) H2
section
variable {X:Cx}{e:Expr}{es:List Expr}{te:TE}{t:TA}{ô:Pos}
theorem ao:PA X [] aK:=λ _ _ _ _ H Q I h=>Calls.spliced_nil ⟨[],H,I,.nil,h⟩
theorem ac (ha:PE X e te)(hr:PA X es t)(hs:starEach (e::es) X.env=(false,eval e X.env)::starEach es X.env:=by rfl):PA X (e::es) (am te t):=by
 intro ô Ä s σ H Q I h;rw [hs];refine Oq (aV (ha Ä s σ H _ I h) λ u s1 ⟨x,H1,I1,r1,q1⟩=>?_);exact aV (hr ô Ä s1 σ H1 _ I1 q1) λ us s2 ⟨xs,H2,I2,r2,q2⟩=>⟨x::xs,H2,I2,.cons r1 r2,q2⟩
def dO (t:TA):TE:=λ σ H Q=>t σ H λ xs H1=>xs.length<=sizeLine/\∀ p,H1 p=none->Q (.ref p) (ad H1 p (.tup xs))
def cg (t:TA):TE:=λ σ H Q=>t σ H λ xs H1=>xs.length<=sizeLine/\∀ p,H1 p=none->Q (.ref p) (ad H1 p (.lst xs))
theorem aP {x1}(h:PA X es t):PE X (.Tuple es x1 ô) (dO t):=by
 intro Ä s σ H Q I hq;refine wpAny_Tuple_spliced (aV (h ô Ä s σ H _ I hq) λ us s1 ⟨xs,H1,I1,r,z,q⟩=>⟨by rw [<- r.length];exact z,?_⟩)
 have hf:=I1.ċ.fresh (Ê _);refine⟨.ref s1.heap.objs.size,ad H1 s1.heap.objs.size (.tup xs),I1.laid (λ b u e=>Ã _ e) (Ê _) ?_,rfl,q _ hf⟩;exact⟨z,us,r,⟨_,Ò _ rfl,rfl,_,rfl⟩⟩
theorem bM (h:PA X es t):PE X (.List es ô) (cg t):=by
 intro Ä s σ H Q I hq;refine wpAny_List_spliced (aV (h ô Ä s σ H _ I hq) λ us s1 ⟨xs,H1,I1,r,z,q⟩=>⟨by rw [<- r.length];exact z,?_⟩)
 have hf:=I1.ċ.fresh (Ê _);refine⟨.ref s1.heap.objs.size,ad H1 s1.heap.objs.size (.lst xs),I1.laid (λ b u e=>Ã _ e) (Ê _) ?_,rfl,q _ hf⟩;exact⟨z,us,0,r,Ò _ rfl⟩
end
abbrev Sp:=List V->Hp->VK->XK->Prop
abbrev kX:=List Env->Hp->Shared->XK->Value->Shared->Prop
structure N1 (P:Program)(w:World)(K:PySem.W.Frag)(mg:bC)(base:Heap)(A:Around)(outer:List Env)(s:Shared)(H:Hp):Prop where
 frames:A.frames=some outer
 mod:Mod K mg base
 bs:∀ b o,base.get? b=some o->s.heap.get? b=some o/\H b=none
 Oh:base.objs.size<=s.heap.objs.size
 ς:s.heap.FunFrames base outer
 PQ:∀ b∈nu outer,H b=none
 ċ:Ι P w H s.heap
 bare:AllBare s.gens
def CE (outer:List Env)(P:Program)(w:World)(H:Hp)(s:Shared)(Q:VK)(u:Value)(s':Shared):Prop :=
 ∃ v H',s'.os=s.os/\AllBare s'.gens/\Un (nu outer) [] H H' s.heap s'.heap/\Ι P w H' s'.heap/\RelV v u/\Q v H'
def CR (CX:kX)(outer:List Env)(P:Program)(w:World)(H:Hp)(s:Shared)(Q:VK)(E:XK)(r:Result)(s':Shared):Prop :=
 match r with
 | .ok (.ret u)=>CE outer P w H s Q u s'
 | .ok _=>False
 | .error e=>CX outer H s E e s'
structure à (P:Program)(w:World)(K:PySem.W.Frag)(mg:bC)(base:Heap)(CX:kX)(k:Nat)(f:Addr)(fd:FuncData)(ps:List Str)(sp:Sp):Prop where
 len:∀ vs H Q E,sp vs H Q E->vs.length=ps.length
 run:∀(A:Around)(outer:List Env)(s:Shared)(H:Hp)(args:Args)(us:List Value)(vs:List V)(Q:VK)(E:XK),ă k A->N1 P w K mg base A outer s H->BindsTo s fd args (ps.zip us)->Vals vs us->sp vs H Q E ->
  codeAny (model P w) A (.call (.ref f) args) (CR CX outer P w H s Q E) s
theorem à.mono {P:Program}{w:World}{K:PySem.W.Frag}{mg:bC}{base:Heap}{CX:kX}{j k:Nat}{f:Addr}{fd:FuncData}{ps:List Str}{sp:Sp}(F:à P w K mg base CX j f fd ps sp)(h:j<=k) :
  à P w K mg base CX k f fd ps sp:=⟨F.len,λ A outer s H args us vs Q E hr=>F.run A outer s H args us vs Q E (hr.mono h)⟩
theorem à.imp {P:Program}{w:World}{K:PySem.W.Frag}{mg:bC}{base:Heap}{CX:kX}{k:Nat}{f:Addr}{fd:FuncData}{ps:List Str}{sp Xi:Sp}(F:à P w K mg base CX k f fd ps sp)
  (h:∀ vs H Q E,Xi vs H Q E->sp vs H Q E):à P w K mg base CX k f fd ps Xi :=
 ⟨λ vs H Q E q=>F.len vs H Q E (h _ _ _ _ q),λ A outer s H args us vs Q E hr he hb hv hs=>F.run A outer s H args us vs Q E hr he hb hv (h _ _ _ _ hs)⟩
theorem N1.make {P:Program}{w:World}{K:PySem.W.Frag}{mg:bC}{base:Heap}{A:Around}{outer:List Env}{s:Shared}{H:Hp}(e:N1 P w K mg base A outer s H)(C:Addr)(us:List Value)(kw:List (Str × Value)) :
  N1 P w K mg base (A.under (.builtin "type.__call__" ⟨.ref C::us,kw⟩)) outer s H:=⟨by first | exact e.frames | (simpa [Around.under,Code.envs,Code.isFrame,pushEnvs] using e.frames),e.mod,e.bs,e.Oh,e.ς,e.PQ,e.ċ,e.bare⟩
section
variable {X:Cx}{Ä:List (Addr × Obj)}{σ:St}{H:Hp}{s s':Shared}
theorem Inv.Qj (I:Inv X Ä σ H s):N1 X.prog X.w X.K X.mg X.base X.A X.stack s H :=
 ⟨I.ok.frames,I.ok.mod,I.bs,õ I.ok.Oh I.sz,I.stack,I.F',I.ċ,I.bare⟩
theorem Inv.after (I:Inv X Ä σ H s)(h:CE X.stack X.prog X.w H s Q u s'):EP X Ä σ Q u s':=by
 obtain⟨v,H',os,bare,un,ċ,r,q⟩:=h;obtain⟨hh,g,d,t,ō⟩:=s';obtain rfl:ō = s.os:=os;exact⟨v,H',I.call un ċ bare (λ b z=>absurd z (by simp)),r,q⟩
end
def iE (sp:Sp)(L9:List V)(E:XK)(t:TA):TE:=λ σ H Q=>t σ H λ vs H1=>sp (vs++L9) H1 Q E
def dD (C:Addr)(sp:Sp)(L9:List V)(E:XK)(t:TA):TE:=λ σ H Q=>t σ H λ vs H1=>∀ x dx,H1 x=none->H1 dx=none->dx≠x ->
 sp (.ref x::(vs++L9)) (ad (ad H1 dx (.own x)) x (.ins C dx [])) (λ v H2=>v=.Ċ/\Q (.ref x) H2) E
def Binds (K:PySem.W.Frag)(fd:FuncData)(ps:List Str)(ds:List Value):Prop :=
 ∀(s:Shared)(us:List Value),K.In s.heap->(us++ds).length=ps.length->BindsTo s fd ⟨us,[]⟩ (ps.zip (us++ds))
theorem Binds.all {K:PySem.W.Frag}{fd:FuncData}{ps:List Str}(h:∀ us:List Value,us.length=ps.length->bindArgs fd ⟨us,[]⟩=pure (ps.zip us)):Binds K fd ps []:=λ s us _ hl=>by
 rw [Ę] at hl ⊢;exact .of_eq (h us hl)
def dX (CX:kX)(X:Cx)(E:XK):Prop:=∀(Ä:List (Addr × Obj))(σ:St)(H:Hp)(s:Shared)(e:Value)(s':Shared),Inv X Ä σ H s->CX X.stack H s E e s'->X.xe e s'
section
variable {X:Cx}{CX:kX}{k:Nat}{f C:Addr}{fd:FuncData}{ps:List Str}{sp:Sp}{L9:List V}{ds:List Value}{E:XK}{x m:Str}{p ô Œ:Pos}{e o:Expr}{es:List Expr}{ta:TE}{t:TA}
theorem my (F:à X.prog X.w X.K X.mg X.base CX k f fd ps sp)(hr:ă k X.A)(hb:Binds X.K fd ps ds)(hd:Vals L9 ds)(hx:dX CX X E)
  (I:Inv X Ä σ H s)(r:Vals vs us)(h:sp (vs++L9) H Q E):wpAny (model X.prog X.w) X.A (call (.ref f) us) (EP X Ä σ Q) X.xe s:=by
 have r2:=r.append hd;have hl:(us++ds).length=ps.length:=by rw [<- r2.length];exact F.len _ _ _ _ h
 refine ű (Ş (F.run X.A X.stack s H ⟨us,[]⟩ (us++ds) (vs++L9) Q E hr I.Qj (hb s us I.Ō hl) r2 h) λ r s' hq=>?_);cases r with
 | error e=>exact hx Ä σ H s e s' I hq
 | ok fl =>
  cases fl with
  | ret u=>exact I.after hq
  | next=>exact False.elim hq
  | brk=>exact False.elim hq
  | cont=>exact False.elim hq
theorem kU (F:à X.prog X.w X.K X.mg X.base CX k f fd ps sp)(hr:ă k X.A)(hg:Gl X x)(hm:X.mg x=some (.ref f))(hk:PySem.W.keepIn X.K (.ref f)=true)(hb:Binds X.K fd ps ds)(hd:Vals L9 ds)(hx:dX CX X E)
  (ha:PA X (e::es) t)(L5:(x==("__debug__" : Str))=false:=by decide)(he:starEach (e::es) X.env=(false,eval e X.env)::starEach es X.env:=by rfl)(ź:(backTo ô (starEach es X.env)).any (·.1)=false:=by rfl) :
  PE X (.Call (.Name x p) (e::es) [] ô) (iE sp L9 E t):=by
 intro Ä s σ H Q I h;refine İ (eO I hg hm ?_ L5);refine Ł I.ok.mod.QQ hk (aV (ha ô Ä s σ H _ I h) λ us s1 ⟨vs,H1,I1,r,q⟩=>⟨I1.Ō,?_⟩) he ź;exact my F hr hb hd hx I1 r q
structure Mk (K:PySem.W.Frag)(C f:Addr):Prop where
 makes:PySem.W.makesIn K C=true
 init:PySem.W.findIn K (.ref C) "__init__" = some (some (.ref f))
 fn:PySem.W.isFn K (.ref f)=true
 kp:PySem.W.keepIn K (.ref C)=true
theorem om (M:Mk X.K C f)(F:à X.prog X.w X.K X.mg X.base CX k f fd ps sp)(hr:ă (k+1) X.A)(hb:Binds X.K fd ps ds)(hd:Vals L9 ds)
  (hx:dX CX X E)(I:Inv X Ä σ H s)(r:Vals vs us)
  (h:∀ x dx,H x=none->H dx=none->dx≠x->sp (.ref x::(vs++L9)) (ad (ad H dx (.own x)) x (.ins C dx [])) (λ v H2=>v=.Ċ/\Q (.ref x) H2) E) :
  wpAny (model X.prog X.w) X.A (call (.ref C) us) (EP X Ä σ Q) X.xe s:=by
 have hq:=h (s.heap.objs.size+1) s.heap.objs.size (I.ċ.fresh (Β _)) (I.ċ.fresh (Ê _)) (Ó (NC _));have I2:=Inv.made (C:=C) I;have r2:Vals (V.ref (s.heap.objs.size+1)::(vs++L9)) (Value.ref (s.heap.objs.size+1)::(us++ds)):=.cons rfl (r.append hd);have hl:(.ref (s.heap.objs.size+1)::us++ds).length=ps.length:=by
  have e:=r2.length;rw [F.len _ _ _ _ hq] at e;exact e.symm
 refine ű (sV I.Ō M.makes M.init (Ě.mp M.fn) (Ş (F.run _ X.stack _ _ ⟨.ref (s.heap.objs.size+1)::us,[]⟩ (.ref (s.heap.objs.size+1)::(us++ds)) _ _ E (hr.make C us [])
  (I2.Qj.make C us []) (hb _ (.ref (s.heap.objs.size+1)::us) I2.Ō hl) r2 hq) λ r s' Pn=>?_))
 cases r with
 | error e=>exact hx Ä σ _ _ e s' I2 Pn
 | ok fl =>
  cases fl with
  | ret u =>
   obtain⟨v,H',I3,rv,ev,q3⟩:=I2.after Pn;subst ev;exact⟨rv,⟨.ref (s.heap.objs.size+1),H',I3,rfl,q3⟩⟩
  | next=>exact False.elim Pn
  | brk=>exact False.elim Pn
  | cont=>exact False.elim Pn
theorem eR (M:Mk X.K C f)(F:à X.prog X.w X.K X.mg X.base CX k f fd ps sp)(hr:ă (k+1) X.A)(hg:Gl X x)(hm:X.mg x=some (.ref C))(hb:Binds X.K fd ps ds)(hd:Vals L9 ds)(hx:dX CX X E)
  (ha:PA X (e::es) t)(L5:(x==("__debug__" : Str))=false:=by decide)(he:starEach (e::es) X.env=(false,eval e X.env)::starEach es X.env:=by rfl)(ź:(backTo ô (starEach es X.env)).any (·.1)=false:=by rfl) :
  PE X (.Call (.Name x p) (e::es) [] ô) (dD C sp L9 E t):=by
 intro Ä s σ H Q I h;refine İ (eO I hg hm ?_ L5);refine Ł I.ok.mod.QQ M.kp (aV (ha ô Ä s σ H _ I h) λ us s1 ⟨vs,H1,I1,r,q⟩=>⟨I1.Ō,?_⟩) he ź;exact om M F hr hb hd hx I1 r q
theorem iC (M:Mk X.K C f)(F:à X.prog X.w X.K X.mg X.base CX k f fd ps sp)(hr:ă (k+1) X.A)(hg:Gl X x)(hm:X.mg x=some (.ref C))(hb:Binds X.K fd ps ds)(hd:Vals L9 ds)(hx:dX CX X E)
  (L5:(x==("__debug__" : Str))=false:=by decide):PE X (.Call (.Name x p) [] [] ô) (dD C sp L9 E aK):=by
 intro Ä s σ H Q I h;refine İ (eO I hg hm ?_ L5);exact PySem.W.callWith_K0 I.Ō M.kp (om M F hr hb hd hx I .nil h)
end
structure ae (N P:List Str)(sc:Scope):Prop where
 kind:sc.kind=.function
 co:sc.isCoroutine=false
 gen:sc.isGenerator=false
 nd:N.Nodup
 pre:N.take P.length=P
 par:∀ x∈P,sc.names.lookup x=some .local\/sc.names.lookup x=some .cell
 NM:∀ y∈sc.names,y.2 ≠ .free
theorem aR {N P:List Str}{sc:Scope}(a:sc.kind=.function:=by rfl)(b:sc.isCoroutine=false:=by rfl)(c:sc.isGenerator=false:=by rfl)(d:N.Nodup:=by decide +kernel)(e:N.take P.length=P:=by rfl)(f:∀ x∈P,sc.names.lookup x=some .local\/sc.names.lookup x=some .cell:=by decide +kernel)(g:∀ y∈sc.names,y.2 ≠ .free:=by decide +kernel):ae N P sc:=⟨a,b,c,d,e,f,g⟩
theorem lE {kindOf:Str->Option NameKind}{x:Str}:∀{binds:List (Str × Value)}{m:bC},(∀ v,(x,v) ∉ binds)->bindL kindOf binds m x=m x
 | [],_,_=>rfl
 | (n,v)::r,m,h=>by
  unfold bindL;rw [lE λ w hw=>h w (á _ hw)];split
  ·have:x≠n:=by rintro rfl;exact h v ò
   simp [this]
  ·rfl
theorem lu {kindOf:Str->Option NameKind}{x:Str}:∀{binds:List (Str × Value)}{m:bC},(∀ v,(x,v) ∉ binds)->bindC kindOf binds m x=m x
 | [],_,_=>rfl
 | (n,v)::r,m,h=>by
  unfold bindC;rw [lu λ w hw=>h w (á _ hw)];split
  ·rfl
  ·have:x≠n:=by rintro rfl;exact h v ò
   simp [this]
theorem ld {kindOf:Str->Option NameKind}{x:Str}{v:Value}:∀{P:List Str}{vs:List Value}{i:Nat}{m:bC},P.Nodup->P[i]?=some x->vs[i]?=some v->kindOf x=some .local ->
  bindL kindOf (P.zip vs) m x=some v
 | [],_,_,_,_,h,_,_=>by simp at h
 | _::_,[],_,_,_,_,h,_=>by simp at h
 | p::P,w::vs,0,m,nd,h1,h2,hk=>by
  simp at h1 h2;subst h1;subst h2;show bindL kindOf ((p,w)::P.zip vs) m p=_;unfold bindL;rw [lE λ v hv=>(p_.mp nd).1 (Ŝ hv).1,Ø hk];simp
 | p::P,w::vs,i+1,m,nd,h1,h2,hk=>by
  show bindL kindOf ((p,w)::P.zip vs) m x=_;exact ld (p_.mp nd).2 (by simpa using h1) (by simpa using h2) hk
theorem lO {kindOf:Str->Option NameKind}{x:Str}{v:Value}:∀{P:List Str}{vs:List Value}{i:Nat}{m:bC},P.Nodup->P[i]?=some x->vs[i]?=some v->kindOf x≠some .local ->
  bindC kindOf (P.zip vs) m x=some v
 | [],_,_,_,_,h,_,_=>by simp at h
 | _::_,[],_,_,_,_,h,_=>by simp at h
 | p::P,w::vs,0,m,nd,h1,h2,hk=>by
  simp at h1 h2;subst h1;subst h2;show bindC kindOf ((p,w)::P.zip vs) m p=_;unfold bindC;rw [lu λ v hv=>(p_.mp nd).1 (Ŝ hv).1,Ï hk];simp
 | p::P,w::vs,i+1,m,nd,h1,h2,hk=>by
  show bindC kindOf ((p,w)::P.zip vs) m x=_;exact lO (p_.mp nd).2 (by simpa using h1) (by simpa using h2) hk
def gr (N:List Str)(vs:List V):St:=vs.map some++List.replicate (N.length-vs.length) none
def aW (CX:kX)(P:Program)(w:World)(K:PySem.W.Frag)(mg:bC)(base:Heap)(N:List Str)(qual:Str)(scope:Scope)(f:Addr)(cd:Value)(A:Around)(outer:List Env)(s:Shared)(H:Hp)(E:XK):Cx where
 prog:=P
 w:=w
 K:=K
 mg:=mg
 base:=base
 A:=A.deeper (envOfC qual scope s.heap.objs.size f cd)
 N:=N
 Ŗ:=s
 OE:=H
 env:=envOfC qual scope s.heap.objs.size f cd
 outer:=outer
 stack:=envOfC qual scope s.heap.objs.size f cd::outer
 ex:=[]
 calm:=true
 fn:=λ _=>true
 pn:=[]
 xe:=λ e s'=>wpAny (model P w) (A.deeper (envOfC qual scope s.heap.objs.size f cd)) (leaving (envOfC qual scope s.heap.objs.size f cd) e) (λ _ QD=>CX outer H s E e QD) (λ e' QD=>CX outer H s E e' QD) s'
theorem nN {sc:Scope}{n:Nat}{x:Str}(h:sc.names.lookup x=some .cell):∃ c,(cellsFrom n sc.names []).lookup x=some c:=by
 have q:=Q3 sc.names n [] (.inl h);exact ĵ.mp q
theorem sg {CX:kX}{P:Program}{w:World}{K:PySem.W.Frag}{mg:bC}{base:Heap}{N ps:List Str}{qual:Str}{scope:Scope}{f:Addr}{cd:Value}{A:Around}{outer:List Env}{s s1:Shared}{H:Hp}{E:XK}{us:List Value}{vs:List V}
  (S:ae N ps scope)(hd:A.handled=none)(e0:N1 P w K mg base A outer s H)(hl:vs.length=ps.length)(r:Vals vs us)
  (x:InCallC s s.heap.objs.size (bindL (envOfC qual scope s.heap.objs.size f cd).kindOf (ps.zip us) λ _=>none) (cellsFrom (s.heap.objs.size+1) scope.names []) (bindC (envOfC qual scope s.heap.objs.size f cd).kindOf (ps.zip us) λ _=>none) s1) :
  Inv (aW CX P w K mg base N qual scope f cd A outer s H E) [] (gr N vs) H s1:=by
 have ź:ps.length<=N.length:=by have:=ġ List.length S.pre;rw [Ā] at this;omega
 obtain⟨h1,tk,rfl,hk⟩:=x.done;have SJ:∀ b:Addr,b ∉ (aW CX P w K mg base N qual scope f cd A outer s H E).ex:=λ b z=>absurd (show b∈([]:List Addr) from z) (by simp)
 refine⟨⟨e0.mod,S.kind,rfl,rfl,Ê _,λ y z c h1 h2=>?_,λ y hy=>?_,λ y c _ h=>?_,λ _=>hd,Around.frames_deeper e0.frames,.inr ⟨rfl,rfl⟩,λ b z=>absurd z (SJ b),e0.bs,e0.Oh,λ b _ _=>SJ b,λ b z=>absurd z (SJ b),e0.ς,e0.PQ⟩,
  rfl,e0.bare,Un.kept hk,⟨_,x.toInCall.ns,λ i y v h1 h2 h3=>?_⟩,λ y c h=>⟨_,x.cell y c h⟩,e0.ċ.fresh (Ê _),λ y c h=>?_,λ p hp=>absurd (show p∈([]:List (Addr × Obj)) from hp) (by simp),e0.ċ.kept hk,?_⟩
 ·exact name_of_addr x.apart (è h1) (è h2)
 ·have hy:scope.names.lookup y=some .cell\/scope.names.lookup y=some .free:=hy;rcases hy with hy | hy
  ·exact nN hy
  ·exact absurd rfl (S.NM _ (è hy))
 ·exact Q4 (x.above y c (è h))
 ·have hi:i<vs.length:=by
   unfold gr at h2;by_cases hi:i<vs.length
   ·exact hi
   ·rw [Ý (by simpa using hi)] at h2
    rw [c_] at h2;split at h2 <;> cases h2
  have ha:vs[i]?=some v:=by
   unfold gr at h2;rw [é (by simpa using hi),List.getElem?_map] at h2
   cases e:vs[i]? with
   | none=>rw [e] at h2;cases h2
   | some a=>rw [e] at h2;cases h2;rfl
  obtain⟨u,hu,rv⟩:=r.get ha;have hp:ps[i]?=some y:=by
   rw [<- S.pre,List.getElem?_take_of_lt ai];exact h1
  have Xy:ps.Nodup:=by rw [<- S.pre];exact S.nd.sublist (List.take_sublist _ _)
  refine⟨u,rv,?_⟩;rcases S.par y (å hp) with k | k
  ·exact .inl ⟨k,ld Xy hp hu k⟩
  ·obtain⟨c,e⟩:=nN k;refine .inr ⟨.inl k,c,e,?_⟩;have q:=x.cell y c e;rw [lO Xy hp hu (by show scope.names.lookup y≠_;rw [k];decide)] at q
   exact q
 ·exact e0.ċ.fresh (Q4 (x.above y c (è h)))
 ·unfold gr;show _=N.length;rw [Í,Â,æ];omega
theorem yz {CX:kX}{P:Program}{w:World}{K:PySem.W.Frag}{mg:bC}{base:Heap}{k:Nat}{f:Addr}{name qual:Str}{params:Arguments}{body:List Stmt}{scope:Scope}{dV kV doc pm cdv ct oc:Value}{an od:Option Addr}
  {P8:Array (Option Value)}{N ps:List Str}{sp:Sp}(lk:K.lookup f=some ⟨oc,od,.func (PySem.W.fnOf name qual params body scope dV kV doc pm an cdv ct),P8⟩)(OB:PySem.W.codeIn K cdv qual=true)(S:ae N ps scope)
  (len:∀ vs H Q E,sp vs H Q E->vs.length=ps.length)
  (e_:∀(A:Around)(outer:List Env)(s:Shared)(H:Hp)(vs:List V)(Q:VK)(E:XK),ă k (A.deeper (envOfC qual scope s.heap.objs.size f cdv))->sp vs H Q E ->
   ∃ t,Ž (aW CX P w K mg base N qual scope f cdv A outer s H E) body t/\t { nx:=λ _ H'=>Q .Ċ H',rt:=Q } (gr N vs) H) :
  à P w K mg base CX (k+1) f (PySem.W.fnOf name qual params body scope dV kV doc pm an cdv ct) ps sp:=by
 refine⟨len,λ A outer s H args us vs Q E hr e0 hb r Oz=>?_⟩;have hl:=len _ _ _ _ Oz;have KX:K.In s.heap:=e0.mod.QQ.keeps λ b o e=>(e0.bs b o e).1;have lim:s.heap.NoLimit:=e0.mod.nolimit.keeps λ b o e=>(e0.bs b o e).1;have S_:∀ y∈ps.zip us,scope.names.lookup y.1=some .local\/(scope.names.lookup y.1=some .cell/\((cellsFrom (s.heap.objs.size+1) scope.names []).lookup y.1).isSome=true):=λ ⟨n,v⟩ hy=>by
  rcases S.par n (Ŝ hy).1 with q | q
  ·exact .inl q
  ·exact .inr ⟨q,Q3 _ _ _ (.inl q)⟩
 refine codeAny_call_function hr.depth (KX _ _ lk) rfl S.co S.gen rfl (PySem.W.codeRec_of KX OB) (hb _ _ _ _ ?_);refine wpAny_newFunctionEnv_cells S.kind S_ λ env he s1 x=>?_;subst he;refine⟨lim.keeps x.toInCall.keep,codeAny_func ?_⟩;obtain⟨t,ht,hq⟩:=e_ A outer s H vs Q E (hr.deeper _) Oz;have I:Inv (aW CX P w K mg base N qual scope f cdv A outer s H E) [] (gr N vs) H s1:=sg S hr.hd e0 hl r x;refine ñ (ht [] s1 (gr N vs) H _ I hq) (λ fl s' hs=>?_) λ e s' hs=>hs;have fin:∀{ĝ:St}{H':Hp}{v:V}{u:Value},Inv (aW CX P w K mg base N qual scope f cdv A outer s H E) [] ĝ H' s'->RelV v u->Q v H'->CE outer P w H s Q u s' :=
  λ {ĝ H' v u} J rv q=>⟨v,H',J.os,J.bare,J.base,J.ċ,rv,q⟩
 cases fl with
 | ret u =>
  obtain⟨v,ĝ,H',J,rv,q⟩:=hs;exact fin J rv q
 | next =>
  obtain⟨ĝ,H',J,q⟩:=hs;exact fin (v:=V.Ċ) J rfl q
 | brk =>
  obtain⟨_,_,_,q⟩:=hs;exact False.elim q
 | cont =>
  obtain⟨_,_,_,q⟩:=hs;exact False.elim q
section
variable {X:Cx}{x:Str}{p ô:Pos}{e:Expr}{es:List Expr}{t:TA}{id T:String}{r:List V->Hp->VK->Prop}
def gQ (r:List V->Hp->VK->Prop)(t:TA):TE:=λ σ H Q=>t σ H λ vs H1=>r vs H1 Q
theorem aj (hc:dC X (.builtin id) r)(hg:Gl X x)(hm:X.mg x=none)(hv:bootBuiltins x=some (.builtin id))(ha:PA X (e::es) t)(hn:x ≠ "__name__" := by decide)(L5:(x==("__debug__" : Str))=false:=by decide)
  (he:starEach (e::es) X.env=(false,eval e X.env)::starEach es X.env:=by rfl)(ź:(backTo ô (starEach es X.env)).any (·.1)=false:=by rfl):PE X (.Call (.Name x p) (e::es) [] ô) (gQ r t):=by
 intro Ä s σ H Q I h;refine İ (gC I hg hm hv ?_ hn L5);exact NB (aV (ha ô Ä s σ H _ I h) λ us s1 ⟨vs,H1,I1,r1,q1⟩=>hc Ä s1 σ H1 vs us Q I1 r1 q1) he ź
theorem aN (hc:dC X (.type T) r)(hg:Gl X x)(hm:X.mg x=none)(hv:bootBuiltins x=some (.type T))(ha:PA X (e::es) t)(hn:x ≠ "__name__" := by decide)(L5:(x==("__debug__" : Str))=false:=by decide)
  (he:starEach (e::es) X.env=(false,eval e X.env)::starEach es X.env:=by rfl)(ź:(backTo ô (starEach es X.env)).any (·.1)=false:=by rfl):PE X (.Call (.Name x p) (e::es) [] ô) (gQ r t):=by
 intro Ä s σ H Q I h;refine İ (gC I hg hm hv ?_ hn L5);exact ğ (aV (ha ô Ä s σ H _ I h) λ us s1 ⟨vs,H1,I1,r1,q1⟩=>hc Ä s1 σ H1 vs us Q I1 r1 q1) he ź
end
abbrev TO:=St->Hp->(Option Int->Hp->Prop)->Prop
theorem jZ:∀{us:List Value},Vals (ns.map V.int) us->IntsAre us ns:=by
 induction ns with
 | nil=>intro us r;rw [i_] at r;cases r;exact .nil
 | cons n ns ih =>
  intro us r;rw [ï] at r;cases r with
  | cons r1 r2 =>
   obtain⟨t,e⟩:=r1;subst e;exact .cons n t (ih r2)
def xX (n:Nat)(i:Int):Option Nat:=if 0<=i then(if i<n then some i.toNat else none) else if -(n:Int)<=i then some (i+n).toNat else none
def rJ {α:Type}(xs:List α)(i:Int):Option α:=(xX xs.length i).bind λ j=>xs[j]?
theorem qG (h:xX n i=some j):seqIndex? i n=some j/\j<n/\-(n:Int)<=i/\i<n:=by
 unfold xX at h;by_cases h0:0<=i
 ·rw [Ø h0] at h;by_cases h1:i<n
  ·rw [Ø h1] at h;have e:=Õ h;exact⟨by rw [seqIndex_of h0 h1,e],ai,ai,h1⟩
  ·rw [Ï h1] at h;cases h
 ·rw [Ï h0] at h;by_cases h1:-(n:Int)<=i
  ·rw [Ø h1] at h;have e:=Õ h;exact⟨by rw [seqIndex_neg ai h1,e],ai,h1,ai⟩
  ·rw [Ï h1] at h;cases h
theorem qp {α:Type}{xs:List α}{i:Int}{v:α}(h:rJ xs i=some v):∃ j,seqIndex? i xs.length=some j/\xs[j]?=some v/\j<xs.length/\-(xs.length:Int)<=i/\i<xs.length:=by
 unfold rJ at h;cases e:xX xs.length i with
 | none=>rw [e] at h;cases h
 | some j =>
  rw [e] at h;obtain⟨h1,h2,h3,h4⟩:=qG e;exact⟨j,h1,h,h2,h3,h4⟩
theorem dh {α:Type}{xs:List α}{j:Nat}{v:α}(h:xs[j]?=some v):rJ xs (j:Int)=some v:=by
 have hj:=(Å.mp h).1;have e:xX xs.length (j:Int)=some j:=by
  unfold xX;rw [Ø ai,Ø ai];simp
 unfold rJ;rw [e];exact h
def mY (b:Expr):Prop:=∀ o i,subscripted b false o i=operate [o,i] (getItem o i)
def FF (X:Cx)(r:R2):Prop :=
 ∀(value slice:Expr)(Ä:List (Addr × Obj))(s:Shared)(σ:St)(H:Hp)(x y:V)(v u:Value)(Q:VK),Inv X Ä σ H s->RelV x v->RelV y u->r x y H Q ->
  subscripted slice false v u=operate [v,u] (getItem v u)->wpAny (model X.prog X.w) X.A (subscriptTail value slice v u) (EP X Ä σ Q) X.xe s
def HG (X:Cx)(id:String)(r:V->List V->Hp->VK->Prop):Prop :=
 ∀(Ä:List (Addr × Obj))(s:Shared)(σ:St)(H:Hp)(x:V)(xs:List V)(v:Value)(us:List Value)(Q:VK),Inv X Ä σ H s->RelV x v->Vals xs us->r x xs H Q ->
  wpAny (model X.prog X.w) X.A (call (.builtin id) (v::us)) (EP X Ä σ Q) X.xe s
section
variable {X:Cx}{a b:Expr}{ta tb:TE}{ô:Pos}
theorem GX (hr:FF X r)(ha:PE X a ta)(hb:PE X b tb)(hs:mY b):PE X (.Subscript a b ô) (aQ r ta tb):=by
 intro Ä s σ H Q I h;exact Subscript_ (Bp ha hb I h λ v u s2 x y H2 I2 rx ry q=>hr a b Ä s2 σ H2 x y v u Q I2 rx ry q (hs _ _))
theorem cS {r:R2}(hr:FF X r)(ha:PE X a ta)(hb:PE X b tb)(hs:mY b:=by exact λ _ _=>rfl):PE X (.Subscript a b ô) (aQ r ta tb):=GX hr ha hb hs
def dy (K:PySem.W.Frag):R2:=λ x y H Q=>∃ p xs i v,x=.ref p/\y=.int i/\ç K H p xs/\rJ xs i=some v/\Q v H
def ke (K:PySem.W.Frag):R2:=λ x y H Q=>∃ p xs i v,x=.ref p/\y=.int i/\đ K H p xs/\rJ xs i=some v/\Q v H
theorem fS:FF X (dy X.K):=by
 intro value slice Ä s σ H x y v u Q I rx ry h hs;obtain⟨p,xs,i,z,rfl,rfl,hq,he,q⟩:=h;cases rx;obtain⟨t,rfl⟩:=ry;obtain⟨its,r,pl,hz⟩:=I.list hq;obtain⟨j,h1,h2,h3,h4,h5⟩:=qp he;obtain⟨w,ew,OL⟩:=r.get h2;have hl:=r.length;have hn:=j3;have fin:EP X Ä σ Q w s:=⟨z,H,I,OL,q⟩;by_cases h0:0<=i
 ·have hj:i.toNat=j:=by
   rw [seqIndex_of h0 h5] at h1;exact Õ h1
  exact item_listR pl.isList h0 ai (by rw [hj];simpa using ew) fin hs
 ·have hj:(i+(its.toArray.size:Int)).toNat=j:=by
   rw [seqIndex_neg ai h4] at h1;rw [â,<- hl];exact Õ h1
  exact subscriptTail_builtinR pl.isList.typeIs slot_list_getitem.lookup
   (wpAny_getItem_list_neg pl.isList ai (by rw [â] <;> omega) ai (by rw [hj];simpa using ew) ⟨rfl,fin⟩) hs
theorem ia:FF X (ke X.K):=by
 intro value slice Ä s σ H x y v u Q I rx ry h hs;obtain⟨p,xs,i,z,rfl,rfl,hq,he,q⟩:=h;cases rx;obtain⟨t,rfl⟩:=ry;obtain⟨its,r,pl,hz⟩:=I.tuple hq;obtain⟨j,h1,h2,h3,h4,h5⟩:=qp he;obtain⟨w,ew,OL⟩:=r.get h2;have hl:=r.length;have hn:=j3;have fin:EP X Ä σ Q w s:=⟨z,H,I,OL,q⟩;exact subscriptTail_builtinR pl.typeIs slot_tuple_getitem.lookup
  (getItem_tuple pl ai ai (by rw [â,<- hl];exact h1) (by simpa using ew) ⟨rfl,fin⟩) hs
theorem pL (its:List Value)(n j:Nat)(u:Value):Obj.mapSeq (·.setIfInBounds j u) { cls:=.type "list",data:=.seq its.toArray n }={ cls:=.type "list",data:=.seq (its.set j u).toArray n }:=by
 simp [Obj.mapSeq]
theorem Inv.lst {Ä:List (Addr × Obj)}{σ:St}{H:Hp}{s:Shared}{p:Addr}{xs:List V}(I:Inv X Ä σ H s)(h:H p=some (.lst xs)) :
  ∃(its:List Value)(n:Nat),Vals xs its/\s.heap.get? p=some { cls:=.type "list",data:=.seq its.toArray n }/\xs.length<=sizeLine:=by
 obtain⟨z,its,n,r,e⟩:=I.ċ p _ h;exact⟨its,n,r,e,z⟩
theorem Inv.Rm {Ä:List (Addr × Obj)}{σ:St}{H:Hp}{s:Shared}{p:Addr}{xs ys:List V}{its B_:List Value}{n n':Nat}{f:Obj->Obj}(I:Inv X Ä σ H s)(h:H p=some (.lst xs))
  (ho:s.heap.get? p=some { cls:=.type "list",data:=.seq its.toArray n })(hf:f { cls:=.type "list",data:=.seq its.toArray n }={ cls:=.type "list",data:=.seq B_.toArray n' })(r:Vals ys B_)(hz:ys.length<=sizeLine)(t:Nat) :
  Inv X Ä σ (ad H p (.lst ys)) { s with heap:=s.heap.update p f,toks:=t }:=by
 have e:(s.heap.update p f).get? p=some { cls:=.type "list",data:=.seq B_.toArray n' }:=by
  rw [þ f ho (by rw [hf] <;> rfl),hf]
 refine I.write (by rw [h];trivial) (.inl rfl) (λ b u hb q=>(Heap.get?_update_other _ _ (Ne.symm hb)).trans q) ⟨_,e⟩ ?_
 exact⟨hz,B_,n',r,e⟩
def qP:V->V->V->Hp->(Hp->Prop)->Prop:=λ o i v H Q=>∃ p xs k j,o=.ref p/\i=.int k/\H p=some (.lst xs)/\xX xs.length k=some j/\Q (ad H p (.lst (xs.set j v)))
theorem fF:Ax X qP:=by
 intro Ä s σ H o i v ov iv u Q I ro ri rv h;obtain⟨p,xs,k,j,rfl,rfl,hp,hj,q⟩:=h;cases ro;obtain⟨t,rfl⟩:=ri;obtain⟨its,n,r,ho,hz⟩:=I.lst hp;obtain⟨h1,h2,h3,h4⟩:=qG hj;have hl:=r.length;have hn:=j3;have I' :=
  I.Rm hp ho (pL its n j u) (r.set rv j) (by rw [List.length_set];exact hz) s.toks
 by_cases h0:0<=k
 ·have hk:k.toNat=j:=by
   rw [seqIndex_of h0 h4] at h1;exact Õ h1
  exact PySem.W.ki_setAt ho h0 ai (by rw [â,<- hl];exact h4) (by rw [hk];exact⟨_,I',q⟩)
 ·have hk:(k+(its.toArray.size:Int)).toNat=j:=by
   rw [seqIndex_neg ai h3] at h1;rw [â,<- hl];exact Õ h1
  exact PySem.W.ki_setBack ho ai (by rw [â,<- hl];exact h3) ai (by rw [hk];exact⟨_,I',q⟩)
def gS:V->Bool
 | .Ċ=>true
 | .bl _=>true
 | .int _=>true
 | .str _=>true
 | _=>false
def pC:V->V->Bool
 | .Ċ,.Ċ=>true
 | .bl a,.bl b=>a==b
 | .bl a,.int b=>(if a then 1 else 0)==b
 | .int a,.bl b=>a==(if b then 1 else 0)
 | .int a,.int b=>a==b
 | .str a,.str b=>a==b
 | _,_=>false
theorem uR (ry:RelV y u)(rx:RelV x v)(fy:gS y=true)(fx:gS x=true):SeqAt.EqAt A s u v (pC y x):=by
 cases y with
 | Ċ =>
  cases ry;cases x with
  | Ċ=>cases rx;exact MG _
  | bl b=>cases rx;exact SeqAt.EqAt.none_bool b
  | int b=>obtain⟨t,rfl⟩:=rx;exact SeqAt.EqAt.none_int b t
  | str b=>obtain⟨t,rfl⟩:=rx;exact SeqAt.EqAt.none_str b t
  | _=>exact absurd (show false=true from fx) Ô
 | bl a =>
  cases ry;cases x with
  | Ċ=>cases rx;exact SeqAt.EqAt.bool_none a
  | bl b=>cases rx;exact SeqAt.EqAt.bool_bool a b
  | int b=>obtain⟨t,rfl⟩:=rx;exact SeqAt.EqAt.bool_int a b t
  | str b=>obtain⟨t,rfl⟩:=rx;exact SeqAt.EqAt.bool_str a b t
  | _=>exact absurd (show false=true from fx) Ô
 | int a =>
  obtain⟨t',rfl⟩:=ry;cases x with
  | Ċ=>cases rx;exact SeqAt.EqAt.int_none a t'
  | bl b=>cases rx;exact SeqAt.EqAt.int_bool a t' b
  | int b=>obtain⟨t,rfl⟩:=rx;exact SeqAt.EqAt.int_int a t' b t
  | str b=>obtain⟨t,rfl⟩:=rx;exact SeqAt.EqAt.int_str a t' b t
  | _=>exact absurd (show false=true from fx) Ô
 | str a =>
  obtain⟨t',rfl⟩:=ry;cases x with
  | Ċ=>cases rx;exact SeqAt.EqAt.str_none a t'
  | bl b=>cases rx;exact SeqAt.EqAt.str_bool a t' b
  | int b=>obtain⟨t,rfl⟩:=rx;exact SeqAt.EqAt.str_int a t' b t
  | str b=>obtain⟨t,rfl⟩:=rx;exact SeqAt.EqAt.str_str a t' b t
  | _=>exact absurd (show false=true from fx) Ô
 | _=>exact absurd (show false=true from fy) Ô
def wP (x:V)(u:Value):Bool:=match u with
 | .none=>pC .Ċ x
 | .bool b=>pC (.bl b) x
 | .int i _=>pC (.int i) x
 | .str z _=>pC (.str z) x
 | _=>false
theorem vh (r:RelV y u)(f:gS y=true):wP x u=pC y x:=by
 cases y with
 | Ċ=>cases r;rfl
 | bl b=>cases r;rfl
 | int i=>obtain⟨t,rfl⟩:=r;rfl
 | str z=>obtain⟨t,rfl⟩:=r;rfl
 | _=>exact absurd (show false=true from f) Ô
theorem l3:∀{xs:List V}{us:List Value},Vals xs us->xs.all gS=true->us.any (wP x)=xs.any λ y=>pC y x
 | _,_,.nil,_=>rfl
 | y::xs,u::us,.cons r t,f=>by
  rw [ρ,ŕ] at f;rw [π,π,vh r f.1,l3 t f.2]
theorem km (rx:RelV x v)(fx:gS x=true):∀{xs:List V}{us:List Value},Vals xs us->xs.all gS=true->∀ u∈us,SeqAt.EqAt A s u v (wP x u)
 | _,_,.nil,_=>λ u hu=>by cases hu
 | y::xs,u::us,.cons r t,f=>λ u' hu=>by
  rw [ρ,ŕ] at f;rcases ë.mp hu with rfl | hu
  ·rw [vh r f.1];exact uR r rx f.1 fx
  ·exact km rx fx t f.2 u' hu
def IS (x:V)(xs:List V):Bool:=xs.any λ y=>pC y x
def Lg (K:PySem.W.Frag)(neg:Bool):R2:=λ x y H Q=>∃ p xs,y=.ref p/\(ç K H p xs\/đ K H p xs)/\gS x=true/\xs.all gS=true/\Q (.bl (if neg then !IS x xs else IS x xs)) H
theorem sx:jn X (compareOp .In) (Lg X.K false):=by
 intro Ä s σ H x y v u Q I rx ry h;obtain⟨p,xs,rfl,hq,fx,fs,q⟩:=h;cases ry;rcases hq with hq | hq
 ·obtain⟨its,r,pl,hz⟩:=I.list hq;refine SeqAt.in_listAt (wP x) pl.isList (λ w hw=>km rx fx r fs w (by simpa using hw)) ⟨.bl _,H,I,rfl,?_⟩
  rw [show its.toArray.any (wP x)=its.any (wP x) by simp,l3 r fs]
  exact q
 ·obtain⟨its,r,pl,hz⟩:=I.tuple hq;refine SeqAt.in_tupleAt (wP x) pl (λ w hw=>km rx fx r fs w (by simpa using hw)) ⟨.bl _,H,I,rfl,?_⟩
  rw [show its.toArray.any (wP x)=its.any (wP x) by simp,l3 r fs]
  exact q
theorem az:dC X (.builtin "len") (λ xs H Q=>∃ p ys,xs=[.ref p]/\(ç X.K H p ys\/đ X.K H p ys)/\Q (.int ys.length) H):=by
 intro Ä s σ H xs us Q I r h;obtain⟨p,ys,rfl,hq,q⟩:=h;obtain⟨u,rfl,rx⟩:=fm r;cases rx;have hn:=j3;rcases hq with hq | hq
 ·obtain⟨its,r',pl,hz⟩:=I.list hq;have Ń:=r'.length;exact Calls.call_len_list pl.isList (by simp only [List.size_toArray] <;> omega) ⟨.int ys.length,H,I.tok _,⟨s.toks+1,by rw [â,Ń]⟩,q⟩
 ·obtain⟨its,r',pl,hz⟩:=I.tuple hq;have Ń:=r'.length;exact len_tuple pl (by simp only [List.size_toArray] <;> omega) ⟨.int ys.length,H,I.tok _,⟨s.toks+1,by rw [â,Ń]⟩,q⟩
theorem eQ:dC X (.type "list") (λ xs H Q=>∃ p ys,xs=[.ref p]/\(ç X.K H p ys\/đ X.K H p ys)/\∀ l,H l=none->Q (.ref l) (ad H l (.lst ys))):=by
 intro Ä s σ H xs us Q I r h;obtain⟨p,ys,rfl,hq,q⟩:=h;obtain⟨u,rfl,rx⟩:=fm r;cases rx;have fin:∀(its:List Value),Vals ys its->ys.length<=sizeLine->∀(h':Heap)(c':Nat),(∀ b o',s.heap.get? b=some o'->h'.get? b=some o') ->
   h'.get? s.heap.objs.size=some { cls:=.type "list",dict:=none,data:=.seq its.toArray c',slots:=#[] }->EP X Ä σ Q (.ref s.heap.objs.size) { s with heap:=h' }:=λ its r' hz h' c' kp e =>
  ⟨.ref s.heap.objs.size,_,I.laid kp (Ê _) (show Ą X.prog X.w _ h' _ (.lst ys) from⟨hz,its,c',r',e⟩),rfl,q _ (I.ċ.fresh (Ê _))⟩
 rcases hq with hq | hq
 ·obtain⟨its,r',pl,hz⟩:=I.list hq;have Ń:=r'.length;obtain⟨o,ho,hc,n,hd⟩:=pl.isList;exact call_list_seq p (.inl rfl) ho hc hd (λ h' c' kp e=>fin its r' hz h' c' kp e) (by simp only [List.size_toArray] <;> omega)
 ·obtain⟨its,r',pl,hz⟩:=I.tuple hq;have Ń:=r'.length;obtain⟨o,ho,hc,n,hd⟩:=pl;exact call_list_seq p (.inr rfl) ho hc hd (λ h' c' kp e=>fin its r' hz h' c' kp e) (by simp only [List.size_toArray] <;> omega)
theorem bR:dC X (.type "tuple") (λ xs H Q=>∃ p ys,xs=[.ref p]/\((ç X.K H p ys/\∀ l,H l=none->Q (.ref l) (ad H l (.tup ys)))\/(đ X.K H p ys/\Q (.ref p) H))):=by
 intro Ä s σ H xs us Q I r h;obtain⟨p,ys,rfl,h⟩:=h;obtain⟨u,rfl,rx⟩:=fm r;cases rx;rcases h with⟨hq,q⟩ | ⟨hq,q⟩
 ·obtain⟨its,r',pl,hz⟩:=I.list hq;have Ń:=r'.length;refine call_tuple_list pl.isList (λ h' kp=>?_) (by simp only [List.size_toArray] <;> omega)
  have I1:Inv X Ä σ H { s with heap:=h' }:=I.kept kp
  have I2:Inv X Ä σ (ad H h'.objs.size (.tup ys)) { s with heap:=h'.push { cls:=.type "tuple",data:=.seq its.toArray } } :=
   I1.laid (λ b o e=>Ã _ e) (Ê _) (show Ą X.prog X.w _ _ _ (.tup ys) from⟨hz,its,r',IsTup.new _ _⟩)
  exact⟨.ref h'.objs.size,_,I2,rfl,q _ (I1.ċ.fresh (Ê _))⟩
 ·obtain⟨its,r',pl,hz⟩:=I.tuple hq;exact call_tuple_same pl ⟨.ref p,H,I,rfl,q⟩
def Je (K:PySem.W.Frag)(T:String)(x:V)(H:Hp):Prop:=match x with
 | .str _=>T = "str"
 | .int _=>T = "int"
 | .ref p=>(T = "list" /\ ∃ xs,ç K H p xs)\/(T = "tuple" /\ ∃ o,K.lookup p=some o/\o.cls=.type "tuple" /\ o.dict=none) \/
   (T = "dict" /\ ((∃ ì,H p=some (.dK ì))\/∃ ì,H p=some (.dT ì)))\/(T = "set" /\ ∃ S n,H p=some (.set S n))
 | _=>False
theorem uW (I:Inv X Ä σ H s)(r:RelV x v)(ty:Je X.K T x H) :
  s.TypeIs v T/\∀ a,v=.ref a->∃ ob,s.heap.get? a=some ob/\ob.dict=none:=by
 cases x with
 | str z =>
  obtain⟨t,rfl⟩:=r;cases (show T = "str" from ty);exact⟨typeIs_str s z t,λ _ e=>nomatch e⟩
 | int i =>
  obtain⟨t,rfl⟩:=r;cases (show T = "int" from ty);exact⟨typeIs_int s i t,λ _ e=>nomatch e⟩
 | ref p =>
  cases r;rcases ty with⟨rfl,xs,hq⟩ | ⟨rfl,o,hk,hc,hd⟩ | ⟨rfl,hk⟩ | ⟨rfl,S,n,hk⟩
  ·obtain⟨its,_,pl,_⟩:=I.list hq;refine⟨pl.isList.typeIs,λ a e=>?_⟩;cases e;obtain⟨o,n,e,c,hd,_⟩:=pl;exact⟨o,e,hd⟩
  ·refine⟨⟨o,I.Ō p o hk,hc⟩,λ a e=>?_⟩;cases e;exact⟨o,I.Ō _ o hk,hd⟩
  ·have z:∃ o,s.heap.get? p=some o/\o.ExactDict:=by
    rcases hk with⟨ì,hk⟩ | ⟨ì,hk⟩
    ·obtain⟨_,_,_,_,o,_,_,e,ex,_⟩:=I.ċ p _ hk;exact⟨o,e,ex⟩
    ·obtain⟨_,_,_,_,o,_,_,e,ex,_⟩:=I.ċ p _ hk;exact⟨o,e,ex⟩
   obtain⟨o,e,ex⟩:=z;refine⟨⟨o,e,ex.1⟩,λ a e2=>?_⟩;cases e2;exact⟨o,e,ex.2.1⟩
  ·obtain⟨o,_,_,_,e,ex,_⟩:=I.ċ p _ hk;refine⟨⟨o,e,ex.1⟩,λ a e2=>?_⟩;cases e2;exact⟨o,e,ex.2.1⟩
 | _=>exact False.elim ty
def D7 (K:PySem.W.Frag)(T:String)(r:V->List V->Hp->VK->Prop)(to:TE):TE:=λ σ H Q=>to σ H λ x H1=>Je K T x H1/\r x [] H1 Q
def rY (K:PySem.W.Frag)(T:String)(r:V->List V->Hp->VK->Prop)(to:TE)(t:TA):TE:=λ σ H Q=>to σ H λ x H1=>Je K T x H1/\t σ H1 λ xs H2=>r x xs H2 Q
variable {o e:Expr}{es:List Expr}{to:TE}{t:TA}{name:Str}{Œ Ŷ:Pos}{T id:String}{r:V->List V->Hp->VK->Prop}
theorem Aj (pa:PlainAttrs T)(slot:Slot T name id)(V2:typeOf (.builtin id)=pure (.type "method_descriptor"))(hm:HG X id r)(ho:PE X o to)
  (Nt:attributeBase o name X.env (eval o X.env)=eval o X.env:=by rfl)(Nr:(Œ.endLine == Ŷ.line)=true:=by rfl):PE X (.Call (.Attribute o name Œ) [] [] Ŷ) (D7 X.K T r to):=by
 intro Ä s σ H Q I h;refine wpAny_Call_method0_late Nt Nr (aV (ho Ä s σ H _ I h) λ v s1 ⟨x,H1,I1,r1,ty,q1⟩=>?_);obtain⟨h1,h2⟩:=uW I1 r1 ty;exact⟨T,id,pa,slot,V2,h1,h2,Mo rfl (PySem.evalArgs_none (hm Ä s1 σ H1 x [] v [] Q I1 r1 .nil q1))⟩
theorem eG (pa:PlainAttrs T)(slot:Slot T name id)(V2:typeOf (.builtin id)=pure (.type "method_descriptor"))(hm:HG X id r)(ho:PE X o to)(ha:PA X (e::es) t)
  (Nt:attributeBase o name X.env (eval o X.env)=eval o X.env:=by rfl)
  (Wo:((backTo Ŷ (starEach (e::es) X.env)).all (λ x=>!x.1)&&(backToKw Ŷ (keywordEach [] X.env)).all (λ x=>x.1.isSome)
   && decide ((e::es).length+([]:List Keyword).length+(if([]:List Keyword).isEmpty then 0 else 1)<30))=true:=by rfl)
  (Nr:(Œ.endLine == Ŷ.line)=true:=by rfl)(hs:starEach (e::es) X.env=(false,eval e X.env)::starEach es X.env:=by rfl)(Rs:(backTo Ŷ (starEach es X.env)).any (·.1)=false:=by rfl) :
  PE X (.Call (.Attribute o name Œ) (e::es) [] Ŷ) (rY X.K T r to t):=by
 intro Ä s σ H Q I h;refine wpAny_Call_method_late Nt Wo Nr rfl (aV (ho Ä s σ H _ I h) λ v s1 ⟨x,H1,I1,r1,ty,q1⟩=>?_);obtain⟨h1,h2⟩:=uW I1 r1 ty;refine⟨T,id,pa,slot,V2,h1,h2,?_⟩;have hA:=ha Ŷ Ä s1 σ H1 _ I1 q1;rw [hs] at hA ⊢;refine Mo (by show(false||(backTo Ŷ (starEach es X.env)).any (·.1))=false;rw [Rs] <;> rfl) (Calls.evalArgs_plain ?_)
 exact aV hA λ us s2 ⟨vs,H2,I2,r2,q2⟩=>hm Ä s2 σ H2 x vs v us Q I2 r1 r2 q2
end
def Jv (X:Cx)(id:String)(r:V->List V->Hp->VK->Prop):Prop :=
 ∀(Ä:List (Addr × Obj))(s:Shared)(σ:St)(H:Hp)(x:V)(xs:List V)(v:Value)(us:List Value)(Q:VK),Inv X Ä σ H s->RelV x v->Vals xs us->r x xs H Q ->
  wpAny (model X.prog X.w) X.A (call (.builtin id) (v::us)) (EP X Ä σ Q) X.xe s
theorem Vals.one:∀{x:V}{us:List Value},Vals [x] us->∃ u,us=[u]/\RelV x u
 | _,_,.cons r .nil=>⟨_,rfl,r⟩
theorem Vals.zero:∀{us:List Value},Vals [] us->us=[]
 | _,.nil=>rfl
section
variable {X:Cx}{Ä:List (Addr × Obj)}{σ:St}{H:Hp}{s:Shared}{l b:Addr}{xs ys zs:List V}
theorem Inv.Rn {its B_:List Value}{n:Nat}{f:Array Value->Array Value}{t':Nat}(I:Inv X Ä σ H s)(hH:H l=some (.lst xs))
  (e:s.heap.get? l=some { cls:=.type "list",data:=.seq its.toArray n })(hf:f its.toArray=B_.toArray)(hv:Vals ys B_)(hz:ys.length<=sizeLine) :
  Inv X Ä σ (ad H l (.lst ys)) { s with heap:=s.heap.update l (Obj.mapSeq f),toks:=t' }:=by
 have q:=PySem.IsL.update e f;rw [hf] at q;refine I.write (by rw [hH];exact trivial) (.inl rfl) (λ b' u hb hu=>(Heap.get?_update_other s.heap (Obj.mapSeq f) (Ne.symm hb)).trans hu) ⟨_,q⟩ ?_
 exact⟨hz,B_,_,hv,q⟩
theorem Inv.P' (I:Inv X Ä σ H s)(hv:Vals ys its)(hz:ys.length<=sizeLine) :
  Inv X Ä σ (ad H s.heap.objs.size (.lst ys)) { s with heap:=s.heap.push { cls:=.type "list",data:=.seq its.toArray },toks:=t' } :=
 I.laid (λ _ _ q=>Ã _ q) (Ê _) ⟨hz,its,0,hv,Ò _ rfl⟩
theorem Inv.fresh (I:Inv X Ä σ H s):H s.heap.objs.size=none:=I.ċ.fresh (Ê _)
theorem Inv.P9 (I:Inv X Ä σ H s)(hH:H l=some (.lst xs)):xs.length<=sizeLine/\∃(its:List Value)(n:Nat),Vals xs its/\xs.length=its.length/\s.heap.get? l=some { cls:=.type "list",data:=.seq its.toArray n }:=by
 obtain⟨z,its,n,r,e⟩:=I.ċ l _ hH;exact⟨z,its,n,r,r.length,e⟩
theorem tq (h:n<=sizeLine):Builtin.List.listTooLong n=false:=by
 exact È ai
end
section
variable {X:Cx}
def gM:V->List V->Hp->VK->Prop:=λ x vs H Q=>∃ l xs y,x=.ref l/\vs=[y]/\H l=some (.lst xs)/\xs.length<sizeLine/\Q .Ċ (ad H l (.lst (xs ++ [y])))
theorem bH:Jv X "list.append" gM:=by
 intro Ä s σ H x vs v us Q I rx rv h;obtain⟨l,xs,y,rfl,rfl,hH,hz,q⟩:=h;cases rx;obtain⟨u,rfl,ru⟩:=rv.one;obtain⟨z,its,n,r,hl,e⟩:=I.P9 hH;refine Ol F.slot_list_append ⟨_,e,rfl⟩ F.entry_list_append (F.args_list_append_2 _ _) (PySem.list_append l its.toArray n u (by rw [â];omega)) ⟨e,?_⟩
 refine⟨.Ċ,_,I.Rn hH e (by simp) (r.append (.cons ru .nil)) ?_,rfl,q⟩
 rw [Í,List.length_singleton];omega
def jv:V->List V->Hp->VK->Prop:=λ x vs H Q=>∃ l b xs zs,x=.ref l/\vs=[.ref b]/\H l=some (.lst xs)/\H b=some (.lst zs)/\xs.length+zs.length<=sizeLine/\Q .Ċ (ad H l (.lst (xs++zs)))
theorem i6:Jv X "list.extend" jv:=by
 intro Ä s σ H x vs v us Q I rx rv h;obtain⟨l,b,xs,zs,rfl,rfl,hH,hB,hz,q⟩:=h;cases rx;obtain⟨u,rfl,ru⟩:=rv.one;cases ru;obtain⟨z,its,n,r,hl,e⟩:=I.P9 hH;obtain⟨z2,Rr,n2,r2,PK,e2⟩:=I.P9 hB;have hsz:its.toArray.size+Rr.toArray.size<=sizeLine:=by rw [â,â];omega
 have S':¬ (!its.toArray.isEmpty&&Builtin.List.listTooLong (its.toArray.size+Rr.toArray.size))=true:=by
  rw [tq hsz,Bool.and_false];exact Ô
 refine Ol F.slot_list_extend ⟨_,e,rfl⟩ F.entry_list_extend (F.args_list_extend_2 _ _)
  (AutoSeq1.list_extend_list_list_0 l its.toArray n b Rr.toArray n2 S' (by rw [â];omega) ai) ⟨e,e2,?_⟩
 refine⟨.Ċ,_,I.Rn hH e (by simp) (r.append r2) ?_,rfl,q⟩
 rw [Í];omega
def tj:V->List V->Hp->VK->Prop:=λ x vs H Q=>∃ l xs,x=.ref l/\vs=[]/\H l=some (.lst xs)/\Q .Ċ (ad H l (.lst []))
theorem tK:Jv X "list.clear" tj:=by
 intro Ä s σ H x vs v us Q I rx rv h;obtain⟨l,xs,rfl,rfl,hH,q⟩:=h;cases rx;have hus:=rv.zero;subst hus;obtain⟨z,its,n,r,hl,e⟩:=I.P9 hH;refine Ol F.slot_list_clear ⟨_,e,rfl⟩ F.entry_list_clear (F.args_list_clear_1 _) (AutoSeq1.list_clear_list_0 l its.toArray n (by rw [â];omega)) ⟨e,?_⟩
 exact⟨.Ċ,_,I.Rn hH e rfl .nil (ı _),rfl,q⟩
end
section
variable {κ:Type} [DecidableEq κ]
def dZ (ì:List (κ × V))(k:κ):Option V:=(ì.find? λ kv=>decide (kv.1=k)).map (·.2)
def dm (ì:List (κ × V))(k:κ)(v:V):List (κ × V) :=
 if(ì.any λ kv=>decide (kv.1=k))=true then ì.map (λ kv=>if kv.1=k then(kv.1,v) else kv) else ì ++ [(k,v)]
theorem cJ {p:κ × V}{r:List (κ × V)}{k:κ}(e:p.1=k):dZ (p::r) k=some p.2:=by simp [dZ,List.find?_cons,e]
theorem cI {p:κ × V}{r:List (κ × V)}{k:κ}(e:¬ p.1=k):dZ (p::r) k=dZ r k:=by simp [dZ,List.find?_cons,e]
theorem fB (k:κ):∀ ì:List (κ × V),(ì.any λ kv=>decide (kv.1=k))=(dZ ì k).isSome
 | []=>rfl
 | p::r=>by
  rw [π];by_cases e:p.1=k
  ·simp only [cJ e,decide_eq_true e,Bool.true_or,Option.isSome_some]
  ·rw [cI e,È e,Bool.false_or];exact fB k r
theorem nU (k j:κ)(y:V):∀ ì:List (κ × V),dZ (ì.map λ kv=>if kv.1=k then(kv.1,y) else kv) j=(dZ ì j).map λ x=>if j=k then y else x
 | []=>rfl
 | p::r=>by
  have ih:=nU k j y r;rw [ï];by_cases h:p.1=k
  ·rw [Ø h];by_cases e:p.1=j
   ·rw [cJ (p:=(p.1,y)) e,cJ e,o_,Ø (e.symm.trans h)]
   ·rw [cI (p:=(p.1,y)) e,cI e,ih]
  ·rw [Ï h];by_cases e:p.1=j
   ·rw [cJ (p:=p) e,cJ e,o_,Ï (λ z=>h (e.trans z))]
   ·rw [cI (p:=p) e,cI e,ih]
theorem lJ (k j:κ)(y:V):∀ ì:List (κ × V),dZ ì k=none->dZ (ì ++ [(k,y)]) j=if j=k then some y else dZ ì j
 | [],_=>by
  by_cases e:k=j
  ·rw [Ø e.symm];exact cJ (p:=(k,y)) e
  ·rw [Ï (λ z=>e z.symm)];exact cI (p:=(k,y)) e
 | p::r,hn=>by
  rw [List.cons_append];have hk:¬ p.1=k:=λ z=>by rw [cJ z] at hn;cases hn
  rw [cI hk] at hn;have ih:=lJ k j y r hn;by_cases e:p.1=j
  ·rw [cJ e,cJ e,Ï (λ z=>hk (e.trans z))]
  ·rw [cI e,cI e,ih]
theorem cA (ì:List (κ × V))(k j:κ)(y:V):dZ (dm ì k y) j=if j=k then some y else dZ ì j:=by
 unfold dm;by_cases a:(ì.any λ kv=>decide (kv.1=k))=true
 ·rw [Ø a,nU];rw [fB] at a;by_cases e:j=k
  ·obtain⟨x,hx⟩:=ĵ.mp a;rw [Ø e,e,hx,o_,Ø rfl]
  ·rw [Ï e];cases dZ ì j with
   | none=>rfl
   | some x=>rw [o_,Ï e]
 ·rw [Ï a];refine lJ k j y ì ?_;rw [fB] at a;cases q:dZ ì k with
  | none=>rfl
  | some x=>rw [q] at a;exact(a rfl).elim
theorem c7 (ì:List (κ × V))(k:κ)(v:V):(dm ì k v).length <= ì.length+1:=by
 unfold dm;split
 ·rw [Â];omega
 ·rw [Í,ā,q_];omega
theorem uS {ì:List (κ × V)}{k:κ}(v:V)(h:dZ ì k=none):dm ì k v = ì ++ [(k,v)]:=by
 unfold dm;rw [fB,h];exact Ï au
theorem Ρ.Ow (r:Ρ o u):o.isSome=u.isSome:=by
 cases o with
 | none=>cases u with
  | none=>rfl
  | some _=>exact(show False from r).elim
 | some _=>cases u with
  | none=>exact(show False from r).elim
  | some _=>rfl
theorem KV.val {ì:List (κ × V)}{vs:List (κ × Value)}(r:KV ì vs)(k:κ):Ρ (dZ ì k) (valueAt vs k):=by
 unfold KV at r
 induction r with
 | nil=>exact True.intro
 | @cons p q ps qs h t ih =>
  obtain⟨h1,h2⟩:=h;by_cases e:p.1=k
  ·have e':q.1=k:=h1.symm.trans e;have b:valueAt (q::qs) k=some q.2:=by simp [valueAt,List.find?_cons,e']
   rw [cJ e,b];exact h2
  ·have e':¬ q.1=k:=λ z=>e (h1.trans z);have b:valueAt (q::qs) k=valueAt qs k:=by simp [valueAt,List.find?_cons,e']
   rw [cI e,b];exact ih
theorem KV.any (r:KV ì vs)(k:κ):(ì.any λ kv=>decide (kv.1=k))=vs.any λ kv=>decide (kv.1=k):=by
 induction r with
 | nil=>rfl
 | cons h t ih=>rw [π,π,ih,h.1]
theorem KV.Ri (r:KV ì vs)(k:κ)(ry:RelV y u) :
  KV (ì.map λ kv=>if kv.1=k then(kv.1,y) else kv) (vs.map λ kv=>if kv.1=k then(kv.1,u) else kv):=by
 induction r with
 | nil=>exact .nil
 | @cons p q ps qs h t ih =>
  rw [ï,ï];refine .cons ?_ ih;obtain⟨h1,h2⟩:=h;by_cases e:p.1=k
  ·rw [Ø e,Ø (h1.symm.trans e)];exact⟨h1,ry⟩
  ·rw [Ï e,Ï (λ z=>e (h1.trans z))];exact⟨h1,h2⟩
theorem KV.put (r:KV ì vs)(k:κ)(ry:RelV y u):KV (dm ì k y) (stored vs k u):=by
 unfold dm stored;rw [r.any k];by_cases e:(vs.any λ kv=>decide (kv.1=k))=true
 ·rw [Ø e,Ø e];exact r.Ri k ry
 ·rw [Ï e,Ï e];exact Paired.snoc r ⟨rfl,ry⟩
theorem KV.length {ì:List (κ × V)}{vs:List (κ × Value)}(r:KV ì vs):ì.length=vs.length:=w_ r
end
theorem nQ (r:RelV (kV k) u):(bv P w).is k u=true:=by
 cases k with
 | inl i=>obtain⟨t,e⟩:=(show ∃ t,u=.int i t from r);subst e;exact oN P w i t
 | inr x=>obtain⟨t,e⟩:=(show ∃ t,u=.str x t from r);subst e;exact nV P w x t
 | Ċ=>cases (show u=.none from r);rfl
theorem k9:∀{ks:List Key}{us:List Value},Vals (ks.map kV) us->ItemsAre (bv P w) ks us
 | [],_,r=>by rw [i_] at r;cases r;exact .nil
 | k::ks,_,r=>by
  rw [ï] at r;cases r with
  | cons h t=>exact .cons (nQ h) (k9 t)
abbrev KT (H:Hp):List (List Key × V)->List (List Key × Addr × Value)->Prop:=Paired λ p q=>p.1=q.1/\H q.2.1=some (.tup (p.1.map kV))/\RelV p.2 q.2.2
theorem KT.val {H:Hp}{ì:List (List Key × V)}{xs:List (List Key × Addr × Value)}(r:KT H ì xs)(k:List Key):Ρ (dZ ì k) ((atKey xs k).map (·.2)):=by
 induction r with
 | nil=>exact True.intro
 | @cons p q ps qs h t ih =>
  obtain⟨h1,_,h2⟩:=h;by_cases e:p.1=k
  ·have e':q.1=k:=h1.symm.trans e;have b:atKey (q::qs) k=some q.2:=by simp [atKey,List.find?_cons,e']
   rw [cJ e,b];exact h2
  ·have e':¬ q.1=k:=λ z=>e (h1.trans z);have b:atKey (q::qs) k=atKey qs k:=by simp [atKey,List.find?_cons,e']
   rw [cI e,b];exact ih
theorem KT.Ri (r:KT H ì xs)(k:List Key)(ry:RelV y u) :
  KT H (ì.map λ kv=>if kv.1=k then(kv.1,y) else kv) (xs.map (putAt k u)):=by
 induction r with
 | nil=>exact .nil
 | @cons p q ps qs h t ih =>
  rw [ï,ï];refine .cons ?_ ih;obtain⟨h1,h2,h3⟩:=h;unfold putAt;by_cases e:p.1=k
  ·rw [Ø e,Ø (h1.symm.trans e)];exact⟨h1,h2,ry⟩
  ·rw [Ï e,Ï (λ z=>e (h1.trans z))];exact⟨h1,h2,h3⟩
theorem KT.put (r:KT H ì xs)(k:List Key)(hb:H b=some (.tup (k.map kV)))(ry:RelV y u) :
  KT H (dm ì k y) (storedH xs k b u):=by
 have e:(ì.any λ kv=>decide (kv.1=k))=(atKey xs k).isSome:=by
  rw [fB,(r.val k).Ow,Option.isSome_map]
 unfold dm storedH;rw [e];by_cases q:(atKey xs k).isSome=true
 ·rw [Ø q,Ø q];exact r.Ri k ry
 ·rw [Ï q,Ï q];exact Paired.snoc r ⟨rfl,hb,ry⟩
theorem KT.keeps (r:KT H ì xs)(ht:∀ b ys,H b=some (.tup ys)->H' b=some (.tup ys)):KT H' ì xs :=
 Paired.Rk r λ _ _ z=>⟨z.1,ht _ _ z.2.1,z.2.2⟩
section
variable {P:Program}{w:World}{H:Hp}{h:Heap}{a:Addr}
theorem ya (ok:Ι P w H h)(e:Rd H a u):Ą P w H h a u:=e.ok ok
theorem vp (ok:Ι P w H h)(e:Rd H a (.dK ì)):ì.length<=sizeLine/\(a==sysModules)=false/\∃ vs,KV ì vs/\h.DictOf (bv P w) a vs :=
 show Ą P w H h a (.dK ì) from ya ok e
theorem va (ok:Ι P w H h)(e:H a=some (.dK ì)):ì.length<=sizeLine/\(a==sysModules)=false/\∃ vs,KV ì vs/\h.DictOf (bv P w) a vs:=vp ok (.inl e)
theorem pY (ok:Ι P w H h)(e:H a=some (.tup (ks.map kV))):(tupleKind (bv P w)).is h ks a:=by
 obtain⟨_,its,r,o,h1,h2,n,h3⟩:=(show Ą P w H h a (.tup (ks.map kV)) from ok a _ e);exact⟨o,its.toArray,n,h1,h2,h3,by simpa using k9 r⟩
theorem uN (ok:Ι P w H h)(e:Rd H a (.dT ì)):ì.length<=sizeLine/\(a==sysModules)=false /\
  ∃ xs,KT H ì xs/\h.DictOfH (tupleKind (bv P w)) a xs:=by
 obtain⟨z,y,xs,r,o,es,ep,h1,h2,h3,h4,h5⟩:=(show Ą P w H h a (.dT ì) from ya ok e);refine⟨z,y,xs,r,o,es,ep,h1,h2,h3,h4,λ x hx=>?_,h5⟩;have all:∀{l:List (List Key × V)}{m:List (List Key × Addr × Value)},KT H l m->∀ x∈m,(tupleKind (bv P w)).is h x.1 x.2.1:=by
  intro l m q
  induction q with
  | nil=>intro x hx;exact nomatch hx
  | @cons p q ps qs hq t ih =>
   intro x hx;rcases ë.mp hx with e | hx
   ·subst e;exact pY ok (by rw [<- hq.1];exact hq.2.1)
   ·exact ih x hx
 exact all r x hx
theorem E8 (ok:Ι P w H h)(e:H a=some (.dT ì)):ì.length<=sizeLine/\(a==sysModules)=false /\
  ∃ xs,KT H ì xs/\h.DictOfH (tupleKind (bv P w)) a xs:=uN ok (.inl e)
end
def N2 (H:Hp)(a:Addr)(y:V)(r:Option V):Prop :=
 (∃ ì k,Rd H a (.dK ì)/\y=kV k/\r=dZ ì k)\/∃ ì k b,Rd H a (.dT ì)/\y=.ref b/\H b=some (.tup (k.map kV))/\r=dZ ì k
def wg (H:Hp)(a:Addr)(y v:V)(H':Hp):Prop :=
 (∃ ì k,H a=some (.dK ì)/\y=kV k/\ì.length<sizeLine/\H'=ad H a (.dK (dm ì k v))) \/
 ∃ ì k b,H a=some (.dT ì)/\y=.ref b/\H b=some (.tup (k.map kV))/\ì.length<sizeLine/\H'=ad H a (.dT (dm ì k v))
theorem N2.k {H:Hp}{a:Addr}{ì:List (Key × V)}{k:Key}(e:H a=some (.dK ì)):N2 H a (kV k) (dZ ì k):=.inl ⟨ì,k,.inl e,rfl,rfl⟩
section
variable {X:Cx}{Ä:List (Addr × Obj)}{σ:St}{H:Hp}{s:Shared}{a:Addr}{y v:V}{u r:Value}{o:Option V}{A:Around}{E:fg}
theorem Inv.big (I:Inv X Ä σ H s):sysModules<s.heap.objs.size:=by
 have h:=(I.mod.glob.keeps I.bk).lt;exact h_ au h
theorem sD (hu:A.units+1<cLine)(I:Inv X Ä σ H s)(g:N2 H a y (some v))(ry:RelV y u)(h:∀ w' s',Inv X Ä σ H s'->RelV v w'->Q w' s') :
  wpAny (model X.prog X.w) A (getItem (.ref a) u) Q E s:=by
 rcases g with⟨ì,k,e,ey,l⟩ | ⟨ì,k,b,e,ey,eb,l⟩
 ·subst ey;obtain⟨z,hd,vs,rel,dd⟩:=vp I.ċ e;obtain⟨w',hw,OL⟩:=Ρ.some_of (by rw [l];exact rel.val k)
  exact wpAny_getItem_of (nQ ry) dd.mapOf hw (h w' _ (I.tok _) OL)
 ·subst ey;cases (show u=.ref b from ry);obtain⟨z,hd,xs,rel,dd⟩:=uN I.ċ e;obtain⟨w',hw,OL⟩:=Ρ.some_of (by rw [l];exact rel.val k)
  obtain⟨p,hp,hp2⟩:=Ð.mp hw;refine wpAny_getItem_heap (tupleKind_room_in1 hu) (pY I.ċ eb) dd hp ?_;rw [hp2];exact h w' _ (I.tok _) OL
theorem iw (I:Inv X Ä σ H s)(mu:DB (H a))(hs:Heap.SameBut a s.heap h')(he:∃ q,h'.get? a=some q)(new:Ą X.prog X.w (ad H a ob) h' a ob) :
  Inv X Ä σ (ad H a ob) { s with heap:=h',toks:=t' } :=
 I.write mu (.inl rfl) (λ b q hb z=>(hs.2 b hb).trans z) he new
theorem pT (z:ì.length<=sizeLine)(hd:(a==sysModules)=false)(rel:KV ì vs)(dd:h'.DictOf (bv P w) a vs) :
  Ą P w H' h' a (.dK ì):=⟨z,hd,vs,rel,dd⟩
theorem rS (hu:A.units+1<cLine)(I:Inv X Ä σ H s)(g:wg H a y v H')(ry:RelV y u)(rv:RelV v r)(h:∀ s',Inv X Ä σ H' s'->Q () s') :
  wpAny (model X.prog X.w) A (setItem (.ref a) u r) Q E s:=by
 rcases g with⟨ì,k,e,ey,l,eH⟩ | ⟨ì,k,b,e,ey,eb,l,eH⟩
 ·subst ey eH;obtain⟨z,hd,vs,rel,dd⟩:=va I.ċ e;have hz:vs.length<=sizeLine:=by rw [<- rel.length];exact z
  have hl:(dm ì k v).length<=sizeLine:=by have:=c7 ì k v;omega
  refine wpAny_setItem_pairs (hsz:=hz) (nQ ry) dd λ h' Of hs=>h _ ?_;have he:∃ q,h'.get? a=some q:=let ⟨q,_,_,hq,_⟩:=Of;⟨q,hq⟩
  exact iw I (by rw [e];exact True.intro) hs he (pT hl hd (rel.put k rv) Of)
 ·subst ey eH;cases (show u=Value.ref b from ry);obtain⟨z,hd,xs,rel,dd⟩:=E8 I.ċ e;have hz:xs.length<=sizeLine:=by rw [<- w_ rel];exact z
  have hl:(dm ì k v).length<=sizeLine:=by have:=c7 ì k v;omega
  refine wpAny_setItem_heap (hsz:=hz) (tupleKind_room_in1 hu) (pY I.ċ eb) dd λ h' Of hs=>h _ ?_;obtain⟨q,es,ep,hq,h2,h3,h4,_,h5⟩:=Of;refine iw I (by rw [e];exact True.intro) hs ⟨q,hq⟩ ⟨hl,hd,_,(rel.put k eb rv).keeps λ c ys ec=>?_,q,es,ep,hq,h2,h3,h4,h5⟩
  rw [af (Hd ec e (λ z=>nomatch z))];exact ec
end
def EQ (i:Expr):Prop:=∀ ov iv,subscripted i false ov iv=operate [ov,iv] (getItem ov iv)
theorem vG {prog:Program}{w:World}{A:Around}{E:fg}{s:Shared}{env:Env}{value slice:Expr}{ô:Pos}{T id:String}{Q:fg}
  (hl:typeLookup (.type T) "__getitem__" = pure (some (.builtin id)))(hs:EQ slice)
  (h:wpAny (model prog w) A (eval value env) (λ o Ď=>wpAny (model prog w) A (eval slice env) (λ i Ż=>Ż.TypeIs o T/\wpAny (model prog w) A (getItem o i) Q E Ż) E Ď) E s) :
  wpAny (model prog w) A (eval (.Subscript value slice ô) env) Q E s:=by
 refine Subscript_ (ñ h (λ o Ď Ś=>ñ Ś (λ i Ż M0=>?_) λ _ _ x=>x) λ _ _ x=>x);obtain⟨hT,M0⟩:=M0;refine À ?_;rw [getitemInPython_of_ne hT.not_modules];refine À (Q0 hT hl ?_);have fin:wpAny (model prog w) A (subscripted slice false o i) (λ r k_=>wpAny (model prog w) A (letTemporaryGo value o r >>= λ _=>pure r) Q E k_) E Ż:=by
  rw [hs o i];exact wpAny_operating (ñ M0 (λ r k_ NQ=>À (wpAny_letTemporaryGo (Æ NQ))) λ _ _ x=>x)
 first
  | exact Æ (À fin)
  | exact À (Æ (À fin))
  | exact À fin
theorem nK (I:Inv X Ä σ H s)(g:N2 H a y o):s.TypeIs (.ref a) "dict" := by
 rcases g with⟨ì,k,e,_,_⟩ | ⟨ì,k,b,e,_,_,_⟩
 ·obtain⟨_,_,vs,_,dd⟩:=vp I.ċ e;exact dd.typeIs
 ·obtain⟨_,_,xs,_,dd⟩:=uN I.ċ e;exact dd.typeIs
def on (td ty:TE):TE:=λ σ H Q=>td σ H λ x H1=>ty σ H1 λ y H2=>∃ a v,x=.ref a/\N2 H2 a y (some v)/\Q v H2
def kD (td ty tv:TE):TS:=λ D σ H=>tv σ H λ v H1=>td σ H1 λ x H2=>ty σ H2 λ y H3=>∃ a H4,x=.ref a/\wg H3 a y v H4/\D.nx σ H4
section
variable {X:Cx}{o i e value:Expr}{ô pos' Sg:Pos}{td ty tv:TE}
theorem lT (hu:X.A.units+1<cLine)(ho:PE X o td)(hi:PE X i ty)(hs:EQ i:=by exact λ _ _=>rfl):PE X (.Subscript o i ô) (on td ty):=by
 intro Ä s σ H Q I h;refine vG PySem.F.slot_dict_getitem.lookup hs (aV (ho Ä s σ H _ I h) λ u s1 ⟨x,H1,I1,rx,q1⟩=>aV (hi Ä s1 σ H1 _ I1 q1) λ iv s2 ⟨y,H2,I2,ry,a,v,ex,g,q2⟩=>?_);subst ex;obtain rfl:u=.ref a:=rx;exact⟨nK I2 g,sD hu I2 g ry λ w' s3 I3 OL=>⟨v,H2,I3,OL,q2⟩⟩
theorem ij (hu:X.A.units+1<cLine)(ho:PE X o td)(hi:PE X i ty)(hv:PE X value tv)(hs:swapsWith value (some (.Subscript o i pos')) ô.line X.env=pure false) :
  PS X (.Assign [.Subscript o i pos'] value ô) (kD td ty tv):=by
 intro Ä s σ H D I h;refine wpAny_Assign_Subscript (aV (hv Ä s σ H _ I h) λ r s1 ⟨v,H1,I1,rv,q1⟩=>aV (ho Ä s1 σ H1 _ I1 q1) λ u s2 ⟨x,H2,I2,rx,q2⟩=>aV (hi Ä s2 σ H2 _ I2 q2) λ iv s3 ⟨y,H3,I3,ry,a,H4,ex,g,q3⟩=>?_) hs;subst ex;obtain rfl:u=.ref a:=rx;exact rS hu I3 g ry rv λ s4 I4=>⟨σ,H4,I4,q3⟩
end
theorem kA (h:Heap)(hb:sysModules<h.objs.size):Ą P w H (h.push { cls:=.type "dict",data:=.dict #[] }) h.objs.size (.dK []) :=
 ⟨ı _,ã.mpr (Ne.symm (Ó hb)),[],.nil,Heap.DictOf.new h⟩
def jL:TE:=λ _ H Q=>∀ p,H p=none->Q (.ref p) (ad H p (.dK []))
section
variable {X:Cx}{ô:Pos}
theorem pf:PE X (.Dict [] [] ô) jL:=λ Ä s σ H Q I h =>
 wpAny_Dict_empty ⟨.ref s.heap.objs.size,_,I.laid (λ _ _ q=>Ã _ q) (Ê _) (kA s.heap I.big),rfl,h _ (I.ċ.fresh (Ê _))⟩
end
def iW:List (TE × TE)->St->Hp->(List (V × V)->Hp->Prop)->Prop
 | [],_,H,Q=>Q [] H
 | (tk,tv)::r,σ,H,Q=>tk σ H λ x H1=>tv σ H1 λ y H2=>iW r σ H2 λ ps H3=>Q ((x,y)::ps) H3
abbrev VV:List (V × V)->List (Value × Value)->Prop:=Paired λ p q=>RelV p.1 q.1/\RelV p.2 q.2
def Hz (X:Cx)(ô:Pos)(keys:List (Option Expr))(values:List Expr)(Q_:List (TE × TE)):Prop :=
 ∀(Ä:List (Addr × Obj))(s:Shared)(σ:St)(H:Hp)(Q:List (V × V)->Hp->Prop),Inv X Ä σ H s->iW Q_ σ H Q ->
  wpAny (model X.prog X.w) X.A (evalPairs (pairTrees keys values X.env ô)) (λ vs s'=>∃ ps H',Inv X Ä σ H' s'/\VV ps vs/\Q ps H') X.xe s
theorem vX:Hz X ô [] [] []:=λ Ä s σ H Q I h=>pairTrees_nil_walk ⟨[],H,I,.nil,h⟩
theorem iB (hk:PE X k tk)(hv:PE X v tv)(hr:Hz X ô ks vs Q_) :
  Hz X ô (some k::ks) (v::vs) ((tk,tv)::Q_):=λ Ä s σ H Q I h =>
 pairTrees_cons_walk (aV (hk Ä s σ H _ I h) λ u s1 ⟨x,H1,I1,rx,q1⟩=>aV (hv Ä s1 σ H1 _ I1 q1) λ w2 s2 ⟨y,H2,I2,ry,q2⟩ =>
  aV (hr Ä s2 σ H2 _ I2 q2) λ ws s3 ⟨ps,H3,I3,rel,q3⟩=>⟨(x,y)::ps,H3,I3,.cons ⟨rx,ry⟩ rel,q3⟩)
def dw (ì more:List (Key × V)):List (Key × V):=more.foldl (λ acc kv=>dm acc kv.1 kv.2) ì
theorem KV.merge:∀{more:List (Key × V)}{rs:List (Key × Value)}{ì:List (Key × V)}{vs:List (Key × Value)},KV more rs->KV ì vs->KV (dw ì more) (merged vs rs):=by
 intro more rs ì vs r
 induction r generalizing ì vs with
 | nil=>intro q;exact q
 | @cons p q ps qs h t ih =>
  intro r0;have e:KV (dm ì p.1 p.2) (stored vs q.1 q.2):=by
   have:=r0.put p.1 h.2;rw [<- h.1];exact this
  exact ih e
theorem gY:∀(more ì:List (Key × V)),(dw ì more).length <= ì.length+more.length
 | [],ì=>by show ì.length <= ì.length+0;omega
 | p::r,ì=>by
  have h1:=gY r (dm ì p.1 p.2);have h2:=c7 ì p.1 p.2;show(dw (dm ì p.1 p.2) r).length<=_;rw [ā];omega
theorem jN:∀{ì:List (Key × V)}{ws:List (Value × Value)},VV (ì.map λ kv=>(kV kv.1,kv.2)) ws->∃ rs,Carries (bv P w) ws rs/\KV ì rs
 | [],_,r=>by rw [i_] at r;cases r;exact⟨[],True.intro,.nil⟩
 | p :: ì,_,r=>by
  rw [ï] at r;cases r with
  | @cons a b as bs h t =>
   obtain⟨rs,c,q⟩:=jN t;obtain⟨b1,b2⟩:=b;exact⟨(p.1,b2)::rs,⟨nQ h.1,rfl,c⟩,.cons ⟨rfl,h.2⟩ q⟩
def xS (Q_:List (TE × TE)):TE:=λ σ H Q=>∀ p,H p=none->iW Q_ σ (ad H p (.dK [])) λ ps H2=>H2 p=some (.dK [])/\∃ ì:List (Key × V),ps = ì.map (λ kv=>(kV kv.1,kv.2))/\ì.length<=15/\Q (.ref p) (ad H2 p (.dK (dw [] ì)))
theorem wW (h:Hz X ô keys values Q_)(RC:keys.all (·.isSome)=true)(hl:keys.length=values.length)(h0:keys ≠ [])
  (h15:keys.length<=15):PE X (.Dict keys values ô) (xS Q_):=by
 intro Ä s σ H Q I q;have hn:=I.ċ.fresh (Ê s.heap.objs.size);have I1:=I.laid (a:=s.heap.objs.size) (o:=.dK []) (h':=s.heap.push { cls:=.type "dict",data:=.dict #[] }) (t':=s.toks) (λ _ _ q=>Ã _ q) (Ê _) (kA s.heap I.big);refine wpAny_Dict_walk (knd:=bv X.prog X.w) RC hl h0 h15 (aV (h Ä _ σ _ _ I1 (q _ hn)) λ ws s2 ⟨ps,H2,I2,rel,e,ì,ep,lk,q2⟩=>?_);subst ep;obtain⟨rs,c,rk⟩:=jN (P:=X.prog) (w:=X.w) rel;obtain⟨z,hd,vs0,r0,dd⟩:=va I2.ċ e;cases r0;refine⟨rs,c,dd,λ h' Of hs=>⟨.ref s.heap.objs.size,_,?_,rfl,q2⟩⟩;have hz:(dw [] ì).length<=sizeLine:=by
  have h1:=gY ì [];rw [q_] at h1;rw [Ö];omega
 have he:∃ q,h'.get? s.heap.objs.size=some q:=let ⟨q,_,_,hq,_⟩:=Of;⟨q,hq⟩
 exact iw I2 (by rw [e];exact True.intro) hs he (pT hz hd (rk.merge .nil) Of)
structure M1 (X:Cx)(o:Expr)(m:Str)(Œ:Pos)(e:Expr)(Ŷ:Pos):Prop where
 base:attributeBase o m X.env (eval o X.env)=eval o X.env
 few:((backTo Ŷ (starEach [e] X.env)).all (λ x=>!x.1)&&(backToKw Ŷ (keywordEach [] X.env)).all (λ x=>x.1.isSome)
  && decide (([e]:List Expr).length+([]:List Keyword).length+(if([]:List Keyword).isEmpty then 0 else 1)<30))=true
 line:(Œ.endLine == Ŷ.line)=true
 trees:backTo Ŷ (starEach [e] X.env)=[(false,eval e X.env)]
structure M2 (X:Cx)(o:Expr)(m:Str)(Œ:Pos)(e f:Expr)(Ŷ:Pos):Prop where
 base:attributeBase o m X.env (eval o X.env)=eval o X.env
 few:((backTo Ŷ (starEach [e,f] X.env)).all (λ x=>!x.1)&&(backToKw Ŷ (keywordEach [] X.env)).all (λ x=>x.1.isSome)
  && decide (([e,f]:List Expr).length+([]:List Keyword).length+(if([]:List Keyword).isEmpty then 0 else 1)<30))=true
 line:(Œ.endLine == Ŷ.line)=true
 trees:backTo Ŷ (starEach [e,f] X.env)=[(false,eval e X.env),(false,eval f X.env)]
end L2
namespace Att
open PySem PySem.W PySem.Calls PyProof.Rows
theorem jh:∀(ns:List Int)(vs:List Value),WellAll P h vs (ns.map WData.int)->IntsAre vs ns:=by
 intro ns
 induction ns with
 | nil =>
  intro vs w;rw [i_] at w;cases w;exact .nil
 | cons n ns ih =>
  intro vs w;rw [ï] at w;cases w with
  | cons a b =>
   cases a;exact .cons _ _ (ih _ b)
theorem sd {l:OpenLaw}{n:Nat}(hn:l.most=some n){P:Params}{h:Heap}{args:List WData}{vals:List Value}
  (Qb:l.row.toRowW.claim.pre args=true)(V0:WellAll P h vals args) :
  ∃ a vs ns,vals=[Value.ref a]/\args=[WData.list (ns.map WData.int)]/\h.get? a=some { cls:=.type "list",data:=.seq vs.toArray }/\IntsAre vs ns/\ns.length<=n:=by
 have hsh:=(pre_splitW Qb).1;have hc:=(pre_splitW Qb).2;obtain⟨d,r,rfl,h1,h2⟩:=hasAllW_cons hsh;obtain rfl:=hasAllW_nil h2;obtain⟨xs,rfl,h3⟩:=hasW_list h1;obtain⟨ns,rfl⟩:=items_int h3;have Ń:ns.length<=n:=by
  have h4:(WTm.not (.lt (.lit (.int (n:Int))) (.len (.arg 0)))).holds [] { args:=[.list (ns.map .int)] }=true:=by
   have h4:=(holds_andW hc).1;rw [hn] at h4;exact h4
  have h5:=condW_of h4 (w_not (w_lt w_lit (w_len_list (w_arg rfl))));rw [Â] at h5;refine Nat.le_of_not_lt λ q=>?_;have q':(n:Int)<((ns.length:Nat):Int):=ai
  first
   | (rw [Ë q'] at h5;exact absurd h5 au)
   | (simp at h5;omega)
 cases V0 with
 | cons w1 w2 =>
  cases w2;cases w1 with
  | list ho RC=>exact⟨_,_,ns,rfl,rfl,ho,jh ns _ RC,Ń⟩
theorem sG (l:OpenLaw)(args:List WData):l.row.toRowW.claim.post args (.bool true) args=true :=
 postW_of
  (show WShape.has [] (.bool true) .bool=true by first | rfl | decide | simp [WShape.has,WShape.arms,WShape.armsAll])
  (show(WTm.eq .res (.lit (.bool true))).value [] { args:=args,res:=some (.bool true),after:=args }=some (.bool (true==true)) from w_eq_bool (w_res rfl) w_lit) rfl
end Att
namespace L2
open PySem PySem.Spec PyProof.Rows
theorem iG:∀{vs:List Value}{ns:List Int},IntsAre vs ns->Vals (ns.map V.int) vs
 | _,_,.nil=>.nil
 | _,_,.cons n t h=>.cons ⟨t,rfl⟩ (iG h)
def Ci (H:Hp):Prop:=∀ b,H b=none\/∃ o xs,H b=some (.υ o (.lst xs))
def aG (s:Stmt)(j:Nat):Stmt:=match s with
 | .ClassDef _ _ _ body _ _ _ _ _ _ _=>body.getD j (.Pass ⟨0,0,0,0⟩)
 | _=>.Pass ⟨0,0,0,0⟩
def dU (s:Stmt):Arguments:=match s with
 | .FunctionDef _ a _ _ _ _ _ _ _ _=>a
 | _=>{ posonlyargs:=[],args:=[],vararg:=none,kwonlyargs:=[],kw_defaults:=[],kwarg:=none,defaults:=[] }
def aH (s:Stmt):List Stmt:=match s with
 | .FunctionDef _ _ b _ _ _ _ _ _ _=>b
 | _=>[]
def aa (s:Stmt):Scope:=match s with
 | .FunctionDef _ _ _ _ _ _ sc _ _ _=>sc
 | _=>{ kind:=.function,names:=[],isGenerator:=false,isCoroutine:=false }
abbrev aB:kX:=λ _ _ _ _ _ _=>False
abbrev E0:XK:=λ _ _ _=>False
theorem ak:dX aB X E0:=λ _ _ _ _ _ _ _ h=>h.elim
structure Ī (K:PySem.W.Frag)(x qual:Str)(st:Stmt)(f:Addr)(fd:FuncData):Prop where
 ex:∃(oc:Value)(od:Option Addr)(kV doc pm:Value)(an:Option Addr)(cdv ct:Value)(P8:Array (Option Value)),
  fd=PySem.W.fnOf x qual (dU st) (aH st) (aa st) .none kV doc pm an cdv ct/\K.lookup f=some ⟨oc,od,.func fd,P8⟩/\PySem.W.codeIn K cdv qual=true
 kp:PySem.W.keepIn K (.ref f)=true
section
variable {P:Program}{w:World}{K:PySem.W.Frag}{mg:bC}{base:Heap}
theorem Ī.ok {x qual:Str}{st:Stmt}{f:Addr}{fd:FuncData}{N ps:List Str}{k:Nat}{sp:Sp}(F:Ī K x qual st f fd)(S:ae N ps (aa st))(len:∀ vs H Q E,sp vs H Q E->vs.length=ps.length)
  (e_:∀(cdv:Value)(A:Around)(outer:List Env)(s:Shared)(H:Hp)(vs:List V)(Q:VK)(E:XK),ă k (A.deeper (envOfC qual (aa st) s.heap.objs.size f cdv))->sp vs H Q E ->
   ∃ t,Ž (aW aB P w K mg base N qual (aa st) f cdv A outer s H E).ŋ (aH st) t/\t { nx:=λ _ H'=>Q .Ċ H',rt:=Q } (gr N vs) H):à P w K mg base aB (k+1) f fd ps sp:=by
 obtain⟨oc,od,kV,doc,pm,an,cdv,ct,P8,rfl,lk,OB⟩:=F.ex;refine yz lk OB S len λ A outer s H vs Q E hr Oz=>?_;obtain⟨t,h,q⟩:=e_ cdv A outer s H vs Q E hr Oz;exact⟨t,h.ŋ,q⟩
theorem bO {x qual:Str}{st:Stmt}{f:Addr}{fd:FuncData}{N ps:List Str}{k:Nat}{sp:Sp}(F:Ī K x qual st f fd)(S:ae N ps (aa st))
  (e_:∀(cdv:Value)(A:Around)(outer:List Env)(s:Shared)(H:Hp)(vs:List V)(Q:VK)(E:XK),ă k (A.deeper (envOfC qual (aa st) s.heap.objs.size f cdv))->sp vs H Q E ->
   ∃ t,Ž (aW aB P w K mg base N qual (aa st) f cdv A outer s H E).ŋ (aH st) t/\t { nx:=λ _ H'=>Q .Ċ H',rt:=Q } (gr N vs) H)(len:∀ vs H Q E,sp vs H Q E->vs.length=ps.length:=by intro vs H Q E h;repeat (first | (obtain⟨rfl,_⟩:=h;rfl) | (obtain⟨_,h⟩:=h))):à P w K mg base aB (k+1) f fd ps sp:=F.ok S len e_
theorem Ī.binds {x qual:Str}{st:Stmt}{f:Addr}{fd:FuncData}{ps:List Str}(F:Ī K x qual st f fd)
  (h:∀(kV doc pm:Value)(an:Option Addr)(cdv ct:Value)(us:List Value),us.length=ps.length->bindArgs (PySem.W.fnOf x qual (dU st) (aH st) (aa st) .none kV doc pm an cdv ct) ⟨us,[]⟩=pure (ps.zip us)):Binds K fd ps []:=by
 obtain⟨oc,od,kV,doc,pm,an,cdv,ct,P8,rfl,lk,OB⟩:=F.ex;exact .all (h kV doc pm an cdv ct)
theorem ŭ {x qual:Str}{st:Stmt}{f:Addr}{oc:Value}{od an:Option Addr}{P8:Array (Option Value)}{kV doc pm cdv ct:Value}(l:K.lookup f=some ⟨oc,od,.func (PySem.W.fnOf x qual (dU st) (aH st) (aa st) .none kV doc pm an cdv ct),P8⟩)
  (c:PySem.W.codeIn K cdv qual=true)(k:PySem.W.keepIn K (.ref f)=true):Ī K x qual st f (PySem.W.fnOf x qual (dU st) (aH st) (aa st) .none kV doc pm an cdv ct):=⟨⟨oc,od,kV,doc,pm,an,cdv,ct,P8,rfl,l,c⟩,k⟩
end
section
variable {X:Cx}
theorem pv (i:Nat)(hN:X.N[i]?=some x:=by rfl)(hv:yy X.env.scope x:=by first | exact Or.inl rfl | exact Or.inr (Or.inl rfl) | exact Or.inr (Or.inr rfl))(hd:(x==("__debug__" : Str))=false:=by decide)
  (OB:(x==("__classdict__" : Str))=false:=by decide):PE X (.Name x ô) (ag i):=zN hN hv hd OB
end
theorem jP {c A B:Prop} [Decidable c] (h1:c->A)(h2:¬ c->B):if c then A else B:=by
 by_cases h:c
 ·rw [Ø h];exact h1 h
 ·rw [Ï h];exact h2 h
end L2
set_option maxHeartbeats 4000000
namespace Att
open PySem PySem.W PySem.Calls PyProof.Rows
theorem p3 (r:ReadsAllW R cl h [.ref a] [.list ds] as):a∈as:=by
 cases r with
 | cons r1 r2 =>
  cases r1 with
  | list=>simp
theorem M6 {l:OpenLaw}
  (hn:l.most=some n)(Tb:d.params.defaults=[])
  (call:∀(w:World)(Ŗ Ď:Shared)(mg mb:bC)(fa:Addr)(o:Obj)(pm cd doc:Value)(a:Addr)(vs:List Value)(ns:List Int),
   Ground q loose [] XP w Ŗ mg mb Ď.heap->YP w Ď.heap ->
   Ď.heap.get? fa=some o->o.data=.func (docDef d.name d.params d.body d.scope pm cd doc)->Ď.heap.CodeRec cd d.name->mg d.name=some (.ref fa) ->
   Ď.heap.get? a=some { cls:=.type "list",data:=.seq vs.toArray }->IntsAre vs ns->ns.length<=n->Ď.gens = #[]->a≠sysModules ->
   codeAny (model l.prog w) callerA (.call (.ref fa) ⟨[.ref a],[]⟩) (λ r s'=>r=.ok (.ret (.bool true))/\OldK Ď.heap s'.heap/\s'.os = Ď.os/\AllBare s'.gens) Ď) :
  WalkO q loose XP YP l.row.toRowW d [] (λ f vs=>PySem.call f vs):=by
 intro w Ŗ Ď mg mb G Y fa o pm cd doc dV kV ho hd OB hD S9 hg args vals as Qb aa0 hrd V0 hlo;obtain rfl:dV=.none:=Dflts.none hD Tb;obtain rfl:kV=.none:=Dflts.noKw hD;obtain⟨a,vs,ns,rfl,rfl,Rt,hints,Ń⟩:=sd hn Qb V0;have low:=ã.mp (hlo a (p3 hrd));refine enter_call (Ş (call w Ŗ Ď mg mb fa o pm cd doc a vs ns G Y ho (fd_plain hd) OB S9 Rt hints Ń hg low) λ r s' hq=>?_);obtain⟨rfl,h2,h3,h4⟩:=hq;exact⟨.inl ⟨.bool true,.bool true,[],rfl,λ _=>rfl,.bool true,sG l _,λ _=>⟨List.Pairwise.nil,λ _ hm=>(nomatch hm)⟩⟩,h2,h3,h4⟩
end Att
namespace L2
open PySem PySem.Spec PyProof.Rows
theorem sC {K:PySem.W.Frag}
  (KX:K.In Ď.heap)(XQ:Ď.heap.Ns mainGlobals mg)(hb:Ď.heap.Ns builtinsNs mb)(hbb:∀ x:Str,x ≠ "__name__" -> mb x=bootBuiltins x)(Wf:Ď.heap.NoLimit)(hg:Ď.gens = #[])
  (ha:Ď.heap.get? a=some { cls:=.type "list",data:=.seq vs.toArray })(hi:IntsAre vs ns)(hl:ns.length<=sizeLine)(hr:ă k callerA)(low:a≠sysModules)
  (F:∀ base:Heap,K.In base->base.Ns mainGlobals mg->à P w K mg base CX k fa fd [x] sp)(Td:∀(s:Shared)(u:Value),BindsTo s fd ⟨[u],[]⟩ [(x,u)])
  (Oz:∀ H:Hp,Ci H->ç K H a (ns.map V.int)->H sysModules=none->sp [.ref a] H (λ v _=>v=.bl true) λ _ _ _=>False)
  (WC:∀ H e s',CX [] H Ď (λ _ _ _=>False) e s'->False) :
  codeAny (model P w) callerA (.call (.ref fa) ⟨[.ref a],[]⟩) (λ r s'=>r=.ok (.ret (.bool true))/\OldK Ď.heap s'.heap/\s'.os = Ď.os/\AllBare s'.gens) Ď:=by
 have rv:=iG hi;have VO:=hi.length;have core:∀ H:Hp,Ci H->ç K H a (ns.map V.int)->Ι P w H Ď.heap->(∀ b,H b≠none->b=a)->(H a≠none->K.lookup a=none) ->
   codeAny (model P w) callerA (.call (.ref fa) ⟨[.ref a],[]⟩) (λ r s'=>r=.ok (.ret (.bool true))/\OldK Ď.heap s'.heap/\s'.os = Ď.os/\AllBare s'.gens) Ď:=by
  intro H hO hS ċ hA hK;have hz:H sysModules=none:=by
   cases q:H sysModules with
   | none=>rfl
   | some u=>exact absurd (hA _ (by rw [q];simp)).symm low
  have Oi:∀{b:Addr}{o:Obj},Ď.heap.get? b=some o->H b=none->(oq Ď.heap H).get? b=some o:=λ e n=>uE e n;have SJ:∀{b:Addr}{o:Obj}{es:Array DictEntry}{ep:Nat},Ď.heap.get? b=some o->o.data=.dict es ep->H b=none:=λ {b o es ep} e d=>by
   cases q:H b with
   | none=>rfl
   | some u =>
    have e':b=a:=hA b (by rw [q];simp)
    subst e';rw [ha] at e;cases e;have d':Data.seq vs.toArray _=Data.dict es ep:=d;cases d'
  have T8:∀{b:Addr}{m:bC},Ď.heap.Ns b m->(oq Ď.heap H).Ns b m:=λ {b m} ⟨o,es,ep,e,d,r⟩=>⟨o,es,ep,Oi e (SJ e d),d,r⟩;have X8:=λ b o e=>Oi (KX b o e) (by
   cases q:H b with
   | none=>rfl
   | some u =>
    have e':=hA b (by rw [q];simp)
    subst e';rw [hK (by rw [q];simp)] at e;cases e)
  have hM:Mod K mg (oq Ď.heap H):=⟨X8,T8 XQ,⟨mb,T8 hb,hbb⟩,let ⟨mc,h1,h2⟩:=Wf;⟨mc,T8 h1,h2⟩⟩
  have e0:N1 P w K mg (oq Ď.heap H) callerA [] Ď H:=⟨rfl,hM,λ b o e=>vF e,Ο (sE _ _),trivial,λ b hb=>absurd (show b∈([]:List Addr) from hb) (by simp),ċ,.of_eq hg⟩
  refine Ş ((F _ X8 (T8 XQ)).run callerA [] Ď H ⟨[.ref a],[]⟩ [.ref a] [.ref a] _ _ hr e0 (Td Ď (.ref a)) (.cons rfl .nil) (Oz H hO hS hz)) λ r s' h=>?_;cases r with
  | error e=>exact(WC H e s' h).elim
  | ok fl =>
   cases fl with
   | next=>exact False.elim h
   | brk=>exact False.elim h
   | cont=>exact False.elim h
   | ret u =>
    obtain⟨v,H',os,bare,un,V_,r',q⟩:=h;have q':=q;subst q';obtain rfl:u=Value.bool true:=r';refine⟨rfl,OldK.of_keep λ b o e=>?_,os,bare⟩;cases q:H b with
    | none=>exact un.keep b o e q (by intro z;exact absurd (show b∈([]:List Addr) from z) (by simp)) (by simp)
    | some u =>
     rcases hO b with z | ⟨ob,xs,z⟩
     ·rw [q] at z;cases z
     ·have z2:=un.D_ b ob _ z;obtain⟨e1,_⟩:=ċ b _ z;obtain⟨e2,_⟩:=V_ b _ z2;rw [e] at e1;cases e1;exact e2
 cases hk:K.lookup a with
 | some o =>
  have e:=KX a o hk;rw [ha] at e;cases e;refine core (λ _=>none) (λ _=>.inl rfl) (.inr ⟨_,vs.toArray,_,hk,rfl,rfl,rfl,by rw [â,VO];exact hl,by simpa using rv⟩) (λ b u z=>by have z':=z;cases z') (λ b z=>absurd rfl z) λ z=>absurd rfl z
 | none =>
  refine core (λ b=>if b=a then some (.υ { cls:=.type "list",data:=.seq vs.toArray } (.lst (ns.map .int))) else none) (λ b=>?_) (.inl (.inr ⟨{ cls:=.type "list",data:=.seq vs.toArray },Ø rfl⟩)) (λ b u z=>?_) (λ b z=>?_) λ _=>hk
  ·by_cases hb:b=a
   ·exact .inr ⟨_,_,Ø hb⟩
   ·exact .inl (Ï hb)
  ·by_cases hb:b=a
   ·have z':=(Ø hb).symm.trans z;cases z';subst hb;exact⟨ha,by rw [Â];exact hl,vs,_,rv,ha⟩
   ·have z':=(Ï hb).symm.trans z;cases z'
  ·by_cases hb:b=a
   ·exact hb
   ·exact absurd (Ï hb) z
theorem O6 {l:PySem.W.OpenLaw}{n k:Nat}{q:Program}{loose:List Str}{XP:(Str->Option Value)->Heap->Prop}{YP:World->Heap->Prop}{K:Params->PySem.W.Frag}{CX:World->kX}{sp:World->Sp}
  (hn:l.most=some n)(Uq:n<=sizeLine)(Tb:d.params.defaults=[])(hr:ă k callerA)
  (hY:∀(w:World)(h:Heap),YP w h->(K w.params).In h)
  (F:∀(w:World)(mg:bC)(fa:Addr)(h:Heap),(K w.params).In h->h.Ns mainGlobals mg->mg d.name=some (.ref fa) ->
   ∃ fd:FuncData,(∀(s:Shared)(u:Value),BindsTo s fd ⟨[u],[]⟩ [(x,u)]) /\
    ∀ base:Heap,(K w.params).In base->base.Ns mainGlobals mg->à l.prog w (K w.params) mg base (CX w) k fa fd [x] (sp w))
  (Oz:∀(w:World)(H:Hp)(a:Addr)(ns:List Int),ns.length<=n->Ci H->ç (K w.params) H a (ns.map V.int)->H sysModules=none->sp w [.ref a] H (λ v _=>v=.bl true) λ _ _ _=>False)
  (WC:∀(w:World)(H:Hp)(s:Shared)(e:Value)(s':Shared),CX w [] H s (λ _ _ _=>False) e s'->False) :
  PySem.W.WalkO q loose XP YP l.row.toRowW d [] (λ f vs=>PySem.call f vs):=by
 refine Att.M6 hn Tb λ w Ŗ Ď mg mb fa o pm cd doc a vs ns G Y ho hd OB S9 Rt hints Ń hg low=>?_;have KX:=hY w _ Y;obtain⟨fd,hb,hF⟩:=F w mg fa _ KX G.T.g S9;exact sC KX G.T.g G.T.b G.T.builtins G.T.nolimit hg Rt hints (õ Ń Uq) hr low hF hb (λ H hO hS hz=>Oz w H a ns Ń hO hS hz) λ H e s'=>WC w H Ď e s'
end L2
namespace My
open PySem L2
def cw (i:Nat):Stmt:=PySem.Challenge.pw_trialdeal_k18_weighted_within_blocks.main.body.getD i (.Pass ⟨0,0,0,0⟩)
end My
namespace My
open PySem
section
variable {prog:Program}{w:World}{A:Around}{h:Heap}{g:Array GenState}{d:Drawn}{tk:Nat}{os:OsState}{C N e t0:Addr}
variable {nm q:Str}{bs bm RN:List Value}{Qg ab:Bool}{sn:List Str}{sub:List Value}{col:Option Bool}{dd:Option Addr}
variable {k0 k1 k2 k3 k5:Option Value}{B newId LZ:String}
abbrev iq (C t:Addr):Obj:={ cls:=.ref C,data:=.fields #[.ref t,.none,.none,.none,.bool false,.none] }
theorem Ag (F:ExcBaseFacts B newId LZ RN)(T:OwnTail h RN bm)
  (hC:h.get? C=some (excClassObj nm q C N bs bm Qg sn sub ab col dd k0 k1 k2 k3 k5 newId))(he:h.get? e=some (iq C t0))
  (hR:∀ h',h'.get? e=some (iq C h.objs.size)->(∀ b o,b≠e->h.get? b=some o->h'.get? b=some o)->R (.ok (.ret .none)) ⟨h',g,d,tk,os⟩) :
  codeAny (model prog w) A (.call (.builtin LZ) ⟨[.ref e,v],[]⟩) R ⟨h,g,d,tk,os⟩:=by
 refine Φ F.init.plain F.initEntry (wpAny_check_init_subT F T hC he rfl ?_)
 wp_walk
 refine hR _ ?_ λ b o hb eb=>?_
 ·exact þ _ (Ã _ he) rfl
 ·exact(ß _ _ _ _ hb).trans (Ã _ eb)
end
end My
namespace My
open PySem PySem.W Builtin Builtin.ObjectAttr
section
variable {prog:Program}{w:World}{A:Around}{s:Shared}{K:Frag}{C x:Addr}
theorem wC (X:K.In s.heap)(I:InstAt s.heap x ox C od)
  (hc:clsIn K C=some cd)(hp:refuseLoop (.ref x) "__setattr__" cd.mro=pure ())(Po:mroIn K C (.type "object")=some true)(ht:takerIn K C name=some none)
  (h:∀ b,wpAny (model prog w) A.in1 (storeInOwnDict (.ref x) (.ref C) (.str name tk) name v b)
   (λ fin s'=>match fin with | .done f=>R (.ok f) s' | .again c'=>c'.quiet=true/\codeAny (model prog w) A c' R s') (λ e s'=>R (.error e) s') s) :
  codeAny (model prog w) A (.call (.builtin "object.__setattr__") ⟨[.ref x,.str name tk,v],[]⟩) R s:=by
 have SF:=PySem.F.store_object;have sub:Looks (model prog w) s.heap (isInstance (.ref x) (.type "object")) true:=I.type.andThen (E_ X Po);refine Φ SF.slot.plain SF.entry (@check_slot (model prog w) _ _ s "object.__setattr__" "object" "__setattr__" (.ref x) [.str name tk,v] [] _ SF.kind SF.split sub (SF.args _ _ _) ?_);obtain⟨attr,ha,hr⟩:=Option.bind_eq_some_iff.mp ht;have hm:Looks (model prog w) s.heap (mroOf (.ref C)) cd.mro:=(looks_clsIn X hc).andThen .now;have L3:Looks (model prog w) s.heap (storeTaker? attr) none:=by
  cases attr with
  | none=>exact .now
  | some a =>
   obtain⟨b,hb,e⟩:=Ð.mp hr;refine(looks_takesIn X hb).andThen ?_;cases b
   ·exact .now
   ·cases e
 rw [osa_eq,refuse_eq];refine À (À (I.type.here (À (hm.here ?_))));rw [hp];refine Æ (À (I.type.here (À ((ω X ha).here (À (L3.here ?_))))));exact h _
end
section
variable {prog:Program}{w:World}{A:Around}{E:fg}{s:Shared}{K:Frag}{C x:Addr}
theorem CA (X:K.In s.heap)(hx:s.heap.get? x=some ⟨.ref C,none,.fields fs,sl⟩)
  (hs:findIn K (.ref C) "__setattr__" = some (some (.builtin "object.__setattr__")))(hc:clsIn K C=some cd)(hd:cd.hasDict=true)
  (hp:refuseLoop (.ref x) "__setattr__" cd.mro=pure ())(Po:mroIn K C (.type "object")=some true)(ht:takerIn K C name=some none)
  (h:∀ h' tk,h'.get? x=some ⟨.ref C,some s.heap.objs.size,.fields fs,sl⟩->h'.Ns1 s.heap.objs.size (λ y=>if y=name then some v else none) ->
   (∀ b o,b≠x->s.heap.get? b=some o->h'.get? b=some o)->Q () { s with heap:=h',toks:=tk }):wpAny (model prog w) A (setAttr (.ref x) name v) Q E s:=by
 have J:InstAt s.heap x ⟨.ref C,none,.fields fs,sl⟩ C none:=⟨hx,rfl,rfl,True.intro⟩;refine set_plain X J hs (wC X J hc hp Po ht λ b=>?_);refine À (Æ (À (À (wpAny_loadPart hx (À (Ħ (looks_clsIn X hc) ?_))))));rw [hd];have ML:(s.heap.push { cls:=.type "dict",data:=.dict #[] }).get? x=some ⟨.ref C,none,.fields fs,sl⟩:=Ã _ hx;have XI:=Ó (É hx);refine À (wpAny_alloc' ?_);refine À (wpAny_update' ML ?_);refine Æ ?_;generalize eU:((s.heap.push { cls:=.type "dict",data:=.dict #[] }).update x λ o=>{ cls:=o.cls,dict:=some s.heap.objs.size,data:=o.data,slots:=o.slots }:Heap)=hU;have gd:hU.get? s.heap.objs.size=some { cls:=.type "dict",data:=.dict #[] }:=by
  rw [<- eU];exact(ß _ _ _ _ XI.symm).trans (Γ rfl rfl)
 have gx:hU.get? x=some ⟨.ref C,some s.heap.objs.size,.fields fs,sl⟩:=by
  rw [<- eU];exact þ _ ML rfl
 have nd:hU.Ns s.heap.objs.size (λ _=>none):=⟨_,#[],_,gd,rfl,λ e he=>absurd he (by simp),λ _=>rfl⟩
 refine À (Æ (À (wpAny_nsSet1 (Heap.Ns1.of_empty nd) λ h' QT Od=>?_)));obtain⟨oD,esD,epD,Rv,Tc,Pq⟩:=QT.count (Within.cons name v Within.nil);refine À (wpAny_lookBehind Rv (by
  rw [Tc];exact pastItsLine_dict (õ Pq (by rw [ā,q_,Ö];omega))) ?_)
 refine Æ ?_;refine h h' _ ((Od.2 x XI).trans gx) QT λ b o hb e=>?_;refine(Od.2 b (Ó (É e))).trans ?_;rw [<- eU];exact(ß _ _ _ _ hb).trans (Ã _ e)
end
section
variable {prog:Program}{w:World}{A:Around}{E:fg}{s:Shared}{K:Frag}{C x dx:Addr}
abbrev pz:String:="BaseException.__getattribute__"
theorem wf (X:K.In s.heap)(I:InstAt s.heap x ox C od)
  (Po:mroIn K C (.type "BaseException")=some true)(hf:findObj K C od name=some (.value v))(h:R (.ok (.ret v)) s) :
  codeAny (model prog w) A (.call (.builtin pz) ⟨[.ref x,.str name tk],[]⟩) R s:=by
 have sub:Looks (model prog w) s.heap (isInstance (.ref x) (.type "BaseException")) true:=I.type.andThen (E_ X Po);have L1:=looks_find (M:=model prog w) X I hf;refine Φ Ő.ga.plain PySem.F.entry_bexc_ga (@check_slot (model prog w) _ _ s pz "BaseException" "__getattribute__" (.ref x) [.str name tk] [] _ av av sub (PySem.F.args_bexc_ga _ _) ?_);refine À (Æ (À (Æ (À (I.type.here (À (L1.here ?_)))))));exact Æ h
theorem yZ (X:K.In s.heap)(I:InstAt s.heap x ox C od)
  (hga:findIn K (.ref C) "__getattribute__" = some (some (.builtin pz)))(hk:findIn K (.ref C) "__getattr__" = some none)
  (Po:mroIn K C (.type "BaseException")=some true)(hf:findObj K C od name=some (.value v))(QR:handedIn v=true)(h:Q v { s with toks:=s.toks+1 }) :
  wpAny (model prog w) A (getAttr (.ref x) name expr) Q E s:=by
 have L0:=I.type (M:=model prog w);have L1:=ω (M:=model prog w) X hga;have L2:=ω (M:=model prog w) X hk;have f3:=Ő.ga.bind (.ref x);unfold getAttr getAttrBy;refine À (wpAny_mkText (ć (À (Ħ (s:={ s with toks:=s.toks+1 }) L0 (À (Ħ (s:={ s with toks:=s.toks+1 }) L1 ?_))))))
 have ML:(onTheHeap (Value.ref C)&&Value.builtin pz==Value.builtin "object.__getattribute__")=false:=by
  rw [show(Value.builtin pz==Value.builtin "object.__getattribute__")=false from by decide +kernel]
  rfl
 show wpAny _ _ (if(onTheHeap (Value.ref C)&&Value.builtin pz==Value.builtin "object.__getattribute__")=true then _ else _) _ _ _
 rw [Ï (by rw [ML];decide)]
 unfold getAttrByItsOwn;refine À ?_;show wpAny _ _ (typeLookup (.ref C) "__getattr__") _ _ _;refine Ħ L2 ?_;have hx0:(expr&&onTheHeap (.builtin pz))=false:=by cases expr <;> rfl
 refine À (Ŀ (ć ?_));unfold callGetattribute;rw [Ï (by rw [hx0];decide)]
 unfold boundAndCalled;rw [f3];refine À (Æ ?_);refine ű (wf X I Po hf ?_);show wpAny _ _ (handedOut v) _ _ _;rw [handedOut_of QR];exact Æ h
end
end My
namespace My
open PySem PySem.W
section
variable {prog:Program}{w:World}{A:Around}{E:fg}{h:Heap}{g:Array GenState}
variable {d:Drawn}{t:Nat}{os:OsState}{nm q:Str}{C N:Addr}{bs bm RN:List Value}{Qg ab:Bool}
variable {sn:List Str}{sub:List Value}{col:Option Bool}{dd:Option Addr}
variable {k0 k1 k2 k3 k5:Option Value}{B newId LZ:String}{K:Frag}
abbrev mQ (vs:List Value):Obj:={ cls:=.type "tuple",data:=.seq vs.toArray }
theorem CQ (X:K.In h)(F:ExcBaseFacts B newId LZ RN)(T:OwnTail h RN bm)
  (hC:h.get? C=some (excClassObj nm q C N bs bm Qg sn sub ab col dd k0 k1 k2 k3 k5 newId))
  (hi:findIn K (.ref C) "__init__" = some (some (.ref fI)))(Wp:typeIn K (.ref fI)=some (.type "function"))
  (hq:wpAny (model prog w) A (call (.ref fI) (.ref (h.objs.size+1)::rest))
   (λ r s'=>r=.none/\Q (.done (.ret (.ref (h.objs.size+1)))) s') E ⟨(h.push (mQ rest)).push (iq C h.objs.size),g,d,t,os⟩)
  (Pk:rest.length<=sizeLine) :
  wpAny (model prog w) A (Builtin.«type.__call__» ⟨.ref C::rest,[]⟩) Q E ⟨h,g,d,t,os⟩:=by
 repeat (first
  | with_reducible refine OP hC ?_
  | with_reducible refine wpAny_madeBy_exc hC ?_
  | wp_step)
 refine codeAny_call_builtin_code (Code.quiet_builtin _ F.quiet) (wpAny_check_new_subT F T hC ?_);refine codeAny_exc_new_subT F T hC ?_ Pk;show wpAny _ _ _ _ _ _;have up:∀ b o,h.get? b=some o->((h.push (mQ rest)).push (iq C h.objs.size)).get? b=some o :=
  λ b o e=>Ã _ (Ã _ e)
 have hC1:=up _ _ hC;have X1:=X.keeps up;have hg1:((h.push (mQ rest)).push (iq C h.objs.size)).get? (h.objs.size+1)=some (iq C h.objs.size):=by heap_get
 have hcC:(.ref C::bm).contains (.ref C)=true:=by simp
 repeat (first
  | with_reducible refine OP hg1 ?_
  | (with_reducible refine wpAny_isSubtype_exc hC1 ?_;rw [hcC])
  | wp_step)
 refine Ħ (ω X1 hi) ?_;refine ć (À ?_);refine À (Ħ (looks_typeIn X1 Wp) ?_);rw [Ø au];refine Æ (À (ñ hq (λ r s' hr=>?_) λ _ _ x=>x));obtain⟨rfl,hQ⟩:=hr
 wp_walk
 exact hQ
theorem G6 (X:K.In h)(F:ExcBaseFacts B newId LZ RN)(T:OwnTail h RN bm)
  (hC:h.get? C=some (excClassObj nm q C N bs bm Qg sn sub ab col dd k0 k1 k2 k3 k5 newId))
  (hi:findIn K (.ref C) "__init__" = some (some (.ref fI)))(Wp:typeIn K (.ref fI)=some (.type "function"))
  (hq:wpAny (model prog w) (A.under (.builtin "type.__call__" ⟨.ref C::rest,[]⟩))
   (call (.ref fI) (.ref (h.objs.size+1)::rest)) (λ r s'=>r=.none/\Q (.ref (h.objs.size+1)) s') E ⟨(h.push (mQ rest)).push (iq C h.objs.size),g,d,t,os⟩)
  (Pk:rest.length<=sizeLine):wpAny (model prog w) A (call (.ref C) rest) Q E ⟨h,g,d,t,os⟩:=by
 have f1:=tc_lookup;have f2:=tc_bind (.ref C);have hT:Shared.TypeIs ⟨h,g,d,t,os⟩ (.ref C) "type" :=⟨_,hC,rfl⟩;refine ű (codeAny_of_tree ?_)
 repeat (any_goals (first
  | assumption
  | with_reducible refine OP hC ?_
  | wp_step))
 refine⟨rfl,?_⟩;refine codeAny_call_builtin_at (Code.quiet_builtin _ av) entry_typeCall (wpAny_check_type_call_sub hC ?_);exact CQ X F T hC hi Wp hq Pk
end
section
variable {prog:Program}{w:World}{A:Around}{E:fg}{s:Shared}{K:Frag}{x C:Addr}{ox:Obj}{od:Option Obj}
theorem tN (hc:(clsIn K C).isSome=true)(ha:findIn K (.ref C) name=some (some a))(hg:specialIn K a "__get__" = some (some g))(ht:takesIn K a=some true):findObj K C od name=some (.bind g a):=by
 obtain⟨cd,hc⟩:=ĵ.mp hc;unfold findObj;rw [hc,b_,ha,b_];simp [hg,ht]
theorem wB (X:K.In s.heap)(I:InstAt s.heap x ox C od)
  (Po:mroIn K C (.type "BaseException")=some true)(hf:findObj K C od name=some (.bind g a))
  (h:wpAny (model prog w) A.in1 (call g [a,.ref x,.ref C]) (λ v s'=>R (.ok (.ret v)) s') (λ e s'=>R (.error e) s') s) :
  codeAny (model prog w) A (.call (.builtin pz) ⟨[.ref x,.str name tk],[]⟩) R s:=by
 have sub:Looks (model prog w) s.heap (isInstance (.ref x) (.type "BaseException")) true:=I.type.andThen (E_ X Po);have L1:=looks_find (M:=model prog w) X I hf;refine Φ Ő.ga.plain PySem.F.entry_bexc_ga (@check_slot (model prog w) _ _ s pz "BaseException" "__getattribute__" (.ref x) [.str name tk] [] _ av av sub (PySem.F.args_bexc_ga _ _) ?_);refine À (Æ (À (Æ (À (I.type.here (À (L1.here ?_)))))));exact À (ć (ñ h (λ v s' z=>Æ z) λ _ _ z=>z))
structure oh (K:Frag)(C:Addr):Prop where
 cls:(clsIn K C).isSome=true
 ga:findIn K (.ref C) "__getattribute__" = some (some (.builtin pz))
 hk:findIn K (.ref C) "__getattr__" = some none
 mb:mroIn K C (.type "BaseException")=some true
 mo:mroIn K C (.type "object")=some true
 ca:findIn K (.ref C) "__class__" = some (some (.builtin "object.__class__"))
theorem uO (T:oh K C)(hn:specialIn K (.builtin "object.__class__") "__get__" = some (some (.builtin "getset_descriptor.__get__")))(Nq:takesIn K (.builtin "object.__class__")=some true)
  (X:K.In s.heap)(I:InstAt s.heap x ox C od)(h:Q (some (.ref C)) { s with toks:=s.toks+1 }):wpAny (model prog w) A (getAttr? (.ref x) "__class__") Q E s:=by
 have hf:findObj K C od "__class__" = some (.bind (.builtin "getset_descriptor.__get__") (.builtin "object.__class__")):=tN T.cls T.ca hn Nq;have L0:=I.type (M:=model prog w);have L1:=ω (M:=model prog w) X T.ga;have L2:=ω (M:=model prog w) X T.hk;have f3:=Ő.ga.bind (.ref x);unfold getAttr? getAttrBy? getAttrBy;refine À (wpAny_mkText (À (Ŀ (ć (À (Ħ (s:={ s with toks:=s.toks+1 }) L0 (À (Ħ (s:={ s with toks:=s.toks+1 }) L1 ?_))))))))
 have ML:(onTheHeap (Value.ref C)&&Value.builtin pz==Value.builtin "object.__getattribute__")=false:=by
  rw [show(Value.builtin pz==Value.builtin "object.__getattribute__")=false from by decide +kernel]
  rfl
 show wpAny _ _ (if(onTheHeap (Value.ref C)&&Value.builtin pz==Value.builtin "object.__getattribute__")=true then _ else _) _ _ _
 rw [Ï (by rw [ML];decide)]
 unfold getAttrByItsOwn;refine À ?_;show wpAny _ _ (typeLookup (.ref C) "__getattr__") _ _ _;refine Ħ (s:={ s with toks:=s.toks+1 }) L2 ?_
 refine À (Ŀ (ć ?_));unfold callGetattribute;rw [Ï au];unfold boundAndCalled;rw [f3];refine À (Æ ?_);refine ű (wB X I T.mb hf ?_);refine ű (class_get X I T.mo ?_);show wpAny _ _ (handedOut (.ref C)) _ _ _;rw [handedOut_of rfl];exact Æ (Æ h)
theorem uI (T:oh K C)(hn:specialIn K (.builtin "object.__class__") "__get__" = some (some (.builtin "getset_descriptor.__get__")))(Nq:takesIn K (.builtin "object.__class__")=some true) :
  KitX K (.ref x) (.ref C) (λ h=>∃ ox od,InstAt h x ox C od) where
 ty:=λ _ _ _ ⟨_,_,I⟩=>I.type
 it:=λ _ _ X _=>by
  obtain⟨cdD,Pq⟩:=ĵ.mp T.cls;unfold clsIn at Pq;split at Pq
  ·rename_i c' d' cd' U6 ho
   intro A' Q' E' s' k q;unfold isType loadHead;exact À (wpAny_loadPart (k _ _ (X _ _ ho)) (Æ q))
  ·cases Pq
 ne:=λ h tp dd its n sl X Oy=>by
  obtain⟨cdD,Pq⟩:=ĵ.mp T.cls;refine Bool.eq_false_iff.mpr λ q=>?_;have e:=N3 (Ě.mp q);subst e;unfold clsIn at Pq;split at Pq
  ·rename_i c' d' cd' U6 ho
   have z:=(X _ _ ho).symm.trans Oy;cases z
  ·cases Pq
 ca:=λ X ⟨_,_,I⟩ k=>uO T hn Nq X I k
end
end My
namespace My
open PySem PySem.W L2
abbrev qo:List Value:=[.type "ValueError",.type "Exception",.type "BaseException",.type "object"]
abbrev pb (C:Addr)(d:Option Addr)(t:Addr):Obj:={ cls:=.ref C,dict:=d,data:=.fields #[.ref t,.none,.none,.none,.bool false,.none] }
def ft (x C:Addr)(d:Option Addr):HO:=.ext λ h=>∃ t,h.get? x=some (pb C d t)
theorem nh (e:h.get? x=some (pb C d t)):Ą P w H h x (ft x C d) :=
 ⟨⟨t,e⟩,⟨_,e⟩,λ _ _ ⟨t',e'⟩ k=>⟨t',k _ e'⟩⟩
theorem ir (ok:Ι P w H h)(e:H x=some (ft x C d)):∃ t,h.get? x=some (pb C d t):=(ok x _ e).1
theorem pN (h:H a=some o):ad H a o=H:=by
 funext b
 unfold ad;split
 ·rename_i e;rw [e,h]
 ·rfl
structure ĳ (K:Frag)(D:Addr):Prop where
 cls:∃ nm q N bs sn sub ab col dd k0 k1 k2 k3 k5,K.lookup D=some (excClassObj nm q D N bs qo true sn sub ab col dd k0 k1 k2 k3 k5 "ValueError.__new__") /\
    ∃ o es ep,K.lookup N=some o/\o.data=.dict es ep/\StrKeys es/\nsFind es "__init__" = none
 ga:specialIn K (.ref D) "__getattribute__" = some (some (.builtin "type.__getattribute__"))
 reads:readsIn K D (.type "type")=true
 S4:findCls K (.ref D) (.type "type") "__init__" = some (.val (.builtin "ValueError.__init__"))
 fi:findIn K (.ref D) "__init__" = some (some (.builtin "ValueError.__init__"))
 kp:keepIn K (.ref D)=true
 it:oh K D
theorem ĳ.tail (B:ĳ K D)(X:K.In h):OwnTail h qo (.ref D::qo):=by
 obtain⟨nm,q,N,bs,sn,sub,ab,col,dd,k0,k1,k2,k3,k5,l,o,es,ep,lN,hd,hs,hn⟩:=B.cls;exact .own (X _ _ l) ⟨o,es,ep,X _ _ lN,hd,hs,λ _=>rfl⟩ hn .base
structure ņ (K:Frag)(D:Addr)(nm:Str)(C f:Addr):Prop where
 cls:∃ q N bs sn sub ab col dd k0 k1 k2 k3 k5,K.lookup C=some (excClassObj nm q C N bs (.ref D::qo) true sn sub ab col dd k0 k1 k2 k3 k5 "ValueError.__new__")
 init:findIn K (.ref C) "__init__" = some (some (.ref f))
 fn:typeIn K (.ref f)=some (.type "function")
 kp:keepIn K (.ref C)=true
 sa:findIn K (.ref C) "__setattr__" = some (some (.builtin "object.__setattr__"))
 it:oh K C
theorem ņ.clsIn (T:ņ K D nm C f):∃ cd,PySem.W.clsIn K C=some cd/\cd.hasDict=true/\cd.mro=.ref C :: .ref D::qo:=by
 obtain⟨q,N,bs,sn,sub,ab,col,dd,k0,k1,k2,k3,k5,l⟩:=T.cls;unfold PySem.W.clsIn;rw [l];exact⟨_,rfl,rfl,rfl⟩
theorem ņ.refuse (T:ņ K D nm C f)(x:Addr):∃ cd,PySem.W.clsIn K C=some cd/\cd.hasDict=true/\refuseLoop (.ref x) "__setattr__" cd.mro=pure ():=by
 obtain⟨cd,h1,h2,h3⟩:=T.clsIn;refine⟨cd,h1,h2,?_⟩;rw [h3,refuseLoop_ref,refuseLoop_ref];exact PySem.F.store_ValueError.passes _
section
variable {X:Cx}{Ä:List (Addr × Obj)}{σ:St}{H:Hp}{s:Shared}
def oo (C:Addr)(fld:Str):Sp:=λ vs H Q _=>∃ x v,vs=[.ref x,v]/\H x=some (ft x C none)/\∀ dx,H dx=none->dx≠x->Q .Ċ (ad (ad H dx (.xd [(fld,v)])) x (ft x C (some dx)))
def FB (C:Addr)(fld:Str)(te:TE):TE:=λ σ H Q=>te σ H λ v H1=>∀ x dx,H1 x=none->H1 dx=none->dx≠x->Q (.ref x) (ad (ad H1 dx (.xd [(fld,v)])) x (ft x C (some dx)))
theorem Kp (n:dx≠x):ad (ad (ad H x a) dx b) x c=ad (ad H dx b) x c:=by
 funext z
 unfold ad;by_cases h1:z=x
 ·rw [Ø h1,Ø h1]
 ·rw [Ï h1,Ï h1];by_cases h2:z=dx
  ·rw [Ø h2,Ï h1]
  ·rw [Ï h2,Ï h1]
theorem um {nm fld:Str}(B:ĳ X.K D)(T:ņ X.K D nm C f)(F:à X.prog X.w X.K X.mg X.base aB k f fd ps (oo C fld))(hr:ă (k+1) X.A)(hb:Binds X.K fd ps [])
  (I:Inv X Ä σ H s)(r:RelV v u)(h:∀ x dx,H x=none->H dx=none->dx≠x->Q (.ref x) (ad (ad H dx (.xd [(fld,v)])) x (ft x C (some dx)))) :
  wpAny (model X.prog X.w) X.A (call (.ref C) [u]) (EP X Ä σ Q) X.xe s:=by
 obtain⟨hp,g,dr,tk,os⟩:=s;obtain⟨q,N,bs,sn,sub,ab,col,dd,k0,k1,k2,k3,k5,l⟩:=T.cls;refine G6 (C:=C) I.Ō OS (B.tail I.Ō) (I.Ō _ _ l) T.init T.fn ?_ (by rw [ā,q_,Ö];omega)
 have f0:H hp.objs.size=none:=I.fresh;have I1:Inv X Ä σ H ⟨hp.push (mQ [u]),g,dr,tk,os⟩:=I.kept (h':=hp.push (mQ [u])) (t':=tk) λ b o e=>Ã _ e;have sz:(hp.push (mQ [u])).objs.size=hp.objs.size+1:=û _ _;have fx:H (hp.objs.size+1)=none:=by rw [<- sz];exact I1.fresh
 have I2:Inv X Ä σ (ad H (hp.objs.size+1) (ft (hp.objs.size+1) C none)) ⟨(hp.push (mQ [u])).push (iq C hp.objs.size),g,dr,tk,os⟩ :=
  I1.laid (λ b o e=>Ã _ e) (Ο sz)
   (nh (Γ sz.symm rfl))
 generalize (⟨(hp.push (mQ [u])).push (iq C hp.objs.size),g,dr,tk,os⟩:Shared)=s2 at I2 ⊢;generalize hp.objs.size+1=x at fx I2 ⊢;have r2:Vals [V.ref x,v] [Value.ref x,u]:=.cons rfl (.cons r .nil);have Oz:oo C fld [V.ref x,v] (ad H x (ft x C none)) (λ y H2=>y=.Ċ/\Q (.ref x) H2) E0 :=
  ⟨x,v,rfl,aM,λ dx hd nd=>⟨rfl,by
   rw [Kp nd];rw [af nd] at hd;exact h x dx fx hd nd⟩⟩
 have hl:([.ref x,u] ++ []:List Value).length=ps.length:=by
  rw [Ę,<- r2.length];exact F.len _ _ _ _ Oz
 have X2:=hb s2 [.ref x,u] I2.Ō hl;rw [Ę] at X2;refine ű (Ş (F.run _ X.stack s2 _ ⟨[.ref x,u],[]⟩ [.ref x,u] _ _ E0 (hr.make C [u] []) (I2.Qj.make C [u] []) X2 r2 Oz) λ r s' Pn=>?_);cases r with
 | error e=>exact False.elim Pn
 | ok fl =>
  cases fl with
  | ret u' =>
   obtain⟨y,H',I3,ry,ey,q3⟩:=I2.after Pn;subst ey;exact⟨ry,.ref x,H',I3,rfl,q3⟩
  | next=>exact False.elim Pn
  | brk=>exact False.elim Pn
  | cont=>exact False.elim Pn
end
def yF (h:Heap)(e:Addr)(vs:Array Value):Prop:=vs[1]?=some .none\/∃ T oT ts,vs[1]?=some (.ref T)/\T≠e/\h.get? T=some oT/\oT.data=.fields ts/\ts[3]?=some .none
structure Ma (fr:List Addr)(e T:Addr)(oe:Obj)(h h':Heap)(r:Value):Prop where
 keep:∀ b o,b≠e->b ∉ fr->h.get? b=some o->h'.get? b=some o
 slot:∀ b o,b≠e->h.get? b=some o->∃ sl,h'.get? b=some { o with slots:=sl }
 new:h.objs.size<=T
 exc:h'.get? e=some (oe.mapFields (λ x=>x.setIfInBounds 1 (.ref T)))
 TY:∃ oT ts,h'.get? T=some oT/\oT.data=.fields ts/\ts[3]?=some r/\T≠e
theorem jw {vs:Array Value}(h:vs[i]?=some v):vs.setIfInBounds i v=vs:=by
 obtain⟨hi,e⟩:=í.mp h;apply Array.ext
 ·simp
 ·intro j h1 h2;simp only [Array.size_setIfInBounds] at h1;rw [Array.getElem_setIfInBounds h1];split
  ·rename_i z;subst z;exact e.symm
  ·rfl
theorem oK {o:Obj}(hd:o.data=.fields vs)(f:Array Value->Array Value):o.mapFields f={ o with data:=.fields (f vs) }:=by
 obtain⟨c,d,dt,sl⟩:=o;have e:=hd;subst e;rfl
theorem mv (hl:vs.length<=sizeLine+2)
  (q:Q (.ref s.heap.objs.size) { s with heap:=s.heap.push { cls:=.type c,data:=.fields vs.toArray } }):wpAny M A (newFields c vs) Q E s:=by
 refine Ĩ (È (by rw [â];omega)) ?_
 exact À (wpAny_alloc (Æ q))
theorem sF (h:IsPlace pl):pl.length<=6:=by
 rcases h with rfl | ⟨a,b,c,d,c9,b10,_,rfl⟩
 ·decide
 ·exact Ê _
section
variable {M:Model}{A:Around}{E:fg}{s:Shared}{base:Heap}{env:Env}{outer:List Env}{L e:Addr}{oe:Obj}{vs:Array Value}{Q:Unit->Shared->Prop}
theorem qr (hA:A.frames=some (env::outer))(hF:s.heap.FunFrames base (env::outer))(hL:env.frame=some L)(he:s.heap.get? e=some oe)(hd:oe.data=.fields vs)(h1:1<vs.size)
  (q:∀ h' T,Ma (nu (env::outer)) e T oe s.heap h' (rawInt ↑L)->Q () { s with heap:=h' }) :
  wpAny M A (do
   let a <- frameOf env
   let pl <- entryPlaceOf L hn
   let b <- EntryCells.newEntry head a .none (rawInt ↑L) .none pl
   setField (.ref e) 1 b) Q E s:=by
 have T9:e ∉ nu (env::outer):=λ z=>by
  obtain⟨_,o,ho,hn⟩:=hF.mem z;rw [he] at ho;cases ho;exact hn vs hd
 refine À (wpAny_frameOf_fun hA hF hL λ h1' so=>?_);refine À (wpAny_entryPlaceOf λ pl ź=>?_);refine À ?_;refine mv ?_ ?_
 ·have:=sF ź;have b:100<=sizeLine:=au;rw [Í];split
  ·rw [æ];show 5+6<=_;omega
  ·show 5+pl.length<=_;omega
 have e1:h1'.get? e=some oe:=by rw [so.2.1 e T9];exact he
 have lt:=É e1;generalize XN:({ cls:=.type "traceback",data:=.fields ([head,.ref L,.none,rawInt ↑L,.none]++if pl.isEmpty=true then List.replicate 6 .none else pl).toArray }:Obj)=ob
 have e2:(h1'.push ob).get? e=some oe:=Ã _ e1;refine χ e2 hd h1 ?_;refine q _ h1'.objs.size ⟨λ b o nb nf hb=>?_,λ b o nb hb=>?_,Ο so.1.symm,?_,?_⟩
 ·rw [ß _ _ _ _ nb];exact Ã _ (by rw [so.2.1 b nf];exact hb)
 ·obtain⟨sl,z⟩:=so.2.2 b o hb;exact⟨sl,by rw [ß _ _ _ _ nb];exact Ã _ z⟩
 ·exact þ _ e2 (by rw [oK hd];rfl)
 ·have nT:=Ne.symm (Ó lt);refine⟨ob,_,?_,by rw [<- XN],?_,nT⟩
  ·rw [ß _ _ _ _ nT];exact Γ rfl (by rw [<- XN];rfl)
  ·rfl
theorem jR (hA:A.frames=some (env::outer))(hF:s.heap.FunFrames base (env::outer))(hL:env.frame=some L)(he:s.heap.get? e=some oe)(hd:oe.data=.fields vs)(hv:yF s.heap e vs)
  (q:∀ h' T,Ma (nu (env::outer)) e T oe s.heap h' (rawInt ↑L)->Q () { s with heap:=h' }):wpAny M A (noteFrame (.ref e) env) Q E s:=by
 unfold noteFrame;rw [hL];rcases hv with hv | ⟨T,oT,ts,hv,nT,hT,Pr,h3⟩
 ·have h1:=(í.mp hv).1;refine À (ö he hd hv ?_);refine Ĩ rfl ?_;exact qr hA hF hL he hd h1 q
 ·have h1:=(í.mp hv).1;have Uy:=(í.mp h3).1;refine À (ö he hd hv ?_);refine ψ rfl ?_;refine À (ö hT Pr h3 ?_);refine Ĩ rfl ?_;refine À (χ hT Pr Uy ?_);have g:∀ b,(s.heap.update T (Obj.mapFields λ x=>x.setIfInBounds 3 Value.none)).get? b=s.heap.get? b:=λ b=>by
   by_cases z:b=T
   ·subst z;rw [þ _ hT (by rw [oK Pr];rfl),hT,oK Pr,jw h3,<- Pr]
   ·exact ß _ _ _ _ z
  have sz:(s.heap.update T (Obj.mapFields λ x=>x.setIfInBounds 3 Value.none)).objs.size=s.heap.objs.size:=J' _ _ _;generalize s.heap.update T (Obj.mapFields λ x=>x.setIfInBounds 3 .none)=h0 at g sz;have hF0:=Heap.FunFrames.of_keeps (λ b o hb _=>⟨o,by rw [g];exact hb,rfl⟩) hF
  refine qr hA hF0 hL (by show h0.get? e=_;rw [g];exact he) hd h1 λ h' T' x=>?_
  exact q h' T' ⟨λ b o nb nf hb=>x.keep b o nb nf (by show h0.get? b=_;rw [g];exact hb),λ b o nb hb=>x.slot b o nb (by show h0.get? b=_;rw [g];exact hb),by rw [<- sz];exact x.new,x.exc,x.TY⟩
theorem Ma.Pu (x:Ma fr e T oe h h' r)(hd:oe.data=.fields vs)(h1:1<vs.size)(s':Shared)(es:s'.heap=h')
  (q:∀ h2,Ma fr e T oe h h2 .none->Q () { s' with heap:=h2 }):wpAny M A (setFlight (.ref e) none) Q E s':=by
 subst es;obtain⟨oT,ts,hT,Pr,h3,nT⟩:=x.TY;have Uy:=(í.mp h3).1;have e1:(oe.mapFields (λ x=>x.setIfInBounds 1 (.ref T))).data=.fields (vs.setIfInBounds 1 (.ref T)):=On hd _;have e2:(vs.setIfInBounds 1 (.ref T))[1]?=some (.ref T):=by simp [h1]
 refine Nd x.exc e1 e2 hT Pr Uy (q _ ⟨λ b o nb nf hb=>?_,λ b o nb hb=>?_,x.new,?_,?_⟩)
 ·have z:=x.keep b o nb nf hb;rw [ß _ _ _ _ (λ w=>?_)]
  ·exact z
  ·rw [w] at hb;exact absurd (Þ (É hb) x.new) (Ķ _)
 ·obtain⟨sl,z⟩:=x.slot b o nb hb;refine⟨sl,?_⟩;rw [ß _ _ _ _ (λ w=>?_)]
  ·exact z
  ·rw [w] at hb;exact absurd (Þ (É hb) x.new) (Ķ _)
 ·rw [ß _ _ _ _ nT.symm];exact x.exc
 ·refine⟨_,_,þ _ hT (by rw [oK Pr];rfl),On Pr _,?_,nT⟩
  simp [Uy]
theorem oA (hA:A.frames=some (env::outer))(hF:s.heap.FunFrames base (env::outer))(hL:env.frame=some L)(he:s.heap.get? e=some oe)(hd:oe.data=.fields vs)(hv:yF s.heap e vs)
  (q:∀ h' T,Ma (nu (env::outer)) e T oe s.heap h' .none->Q () { s with heap:=h' }):wpAny M A (leaving env (.ref e)) Q E s:=by
 have h1:1<vs.size:=by
  rcases hv with hv | ⟨T,oT,ts,hv,_⟩
  ·exact(í.mp hv).1
  ·exact(í.mp hv).1
 exact À (jR hA hF hL he hd hv λ h' T x=>x.Pu hd h1 _ rfl λ h2 x2=>q h2 T x2)
end
def one (P:V->Hp->Prop)(vs:List V)(H:Hp):Prop:=match vs with
 | [v]=>P v H
 | _=>False
theorem zd (h:one P vs H):∃ v,vs=[v]/\P v H:=by
 cases vs with
 | nil=>exact h.elim
 | cons v r =>
  cases r with
  | nil=>exact⟨v,rfl,h⟩
  | cons _ _=>exact h.elim
def two (P:V->V->Hp->Prop)(vs:List V)(H:Hp):Prop:=match vs with
 | [v,u]=>P v u H
 | _=>False
theorem C6 (h:two P vs H):∃ v u,vs=[v,u]/\P v u H:=by
 match vs,h with
 | [v,u],h=>exact⟨v,u,rfl,h⟩
section
variable {X:Cx}{Ä:List (Addr × Obj)}{σ:St}{H:Hp}{s:Shared}
theorem BZ {nm fld x:Str}(B:ĳ X.K D)(T:ņ X.K D nm C f)(F:à X.prog X.w X.K X.mg X.base aB k f fd ps (oo C fld))(hr:ă (k+1) X.A)(hb:Binds X.K fd ps [])
  (hg:Gl X x)(hm:X.mg x=some (.ref C))(ha:PE X e te)(L5:(x==("__debug__" : Str))=false:=by decide)(he:starEach [e] X.env=(false,eval e X.env)::starEach [] X.env:=by rfl)(ź:(backTo ô (starEach [] X.env)).any (·.1)=false:=by rfl) :
  PE X (.Call (.Name x p) [e] [] ô) (FB C fld te):=by
 intro Ä s σ H Q I h;refine İ (eO I hg hm ?_ L5);have pa:=ac ha ao he;have h':am te aK σ H (one λ v H1=>∀ x dx,H1 x=none->H1 dx=none->dx≠x->Q (.ref x) (ad (ad H1 dx (.xd [(fld,v)])) x (ft x C (some dx)))):=h;refine Ł I.ok.mod.QQ T.kp (aV (pa ô Ä s σ H _ I h') λ us s1 ⟨vs,H1,I1,r,q⟩=>⟨I1.Ō,?_⟩) he ź;obtain⟨v,rfl,q⟩:=zd q;obtain⟨u,rfl,ru⟩:=fm r;exact um B T F hr hb I1 ru q
def K9 (ts tt:TE)(C:Addr):TE:=λ σ H Q=>ts σ H λ x H1=>tt σ H1 λ v H2=>∃ a,x=.ref a/\H2 a=some (ft a C none)/\Q .Ċ H2
theorem bN (B:ĳ X.K D)(T:ņ X.K D nm C f)(hg:Gl X x)(hm:X.mg x=some (.ref D))(hs:PE X o ts)(ht:PE X e tt)(L5:(x==("__debug__" : Str))=false:=by decide)
  (OM:starEach [o,e] X.env=(false,eval o X.env)::starEach [e] X.env:=by rfl)(V5:starEach [e] X.env=(false,eval e X.env)::starEach [] X.env:=by rfl)(ź:(backTo ô (starEach [e] X.env)).any (·.1)=false:=by rfl)
  (V3:eval (.Call (.Attribute (.Name x p) "__init__" Œ) [o,e] [] ô) X.env=(do
   let ov <- eval (.Name x p) X.env
   standAt Œ.atName
   let (f,first) <- holding [ov] (getMethod ov "__init__" pl)
   callWith ô f first (backTo ô (starEach [o,e] X.env)) (backToKw ô (keywordEach [] X.env))):=by rfl) :
  PE X (.Call (.Attribute (.Name x p) "__init__" Œ) [o,e] [] ô) (K9 ts tt C):=by
 intro Ä s σ H Q I h;refine ň (pl:=pl) (eO I hg hm ?_ L5) V3;refine method_cls I.Ō B.ga (cls_value I.Ō B.reads B.S4 rfl ?_);have I0:Inv X Ä σ H { s with toks:=s.toks+1 }:=I.tok _
 have pa:=ac hs (ac ht ao V5) OM;have h':am ts (am tt aK) σ H (two λ x v H2=>∃ a,x=.ref a/\H2 a=some (ft a C none)/\Q .Ċ H2):=h;refine NB (aV (pa ô Ä _ σ H _ I0 h') λ us s1 ⟨vs,H1,I1,r,q⟩=>?_) OM ź;obtain⟨_,v,rfl,a,rfl,ha,q⟩:=C6 q;obtain⟨u,u',rfl,ru,PF⟩:=ky r;cases (show u=.ref a from ru);obtain⟨t0,hx⟩:=ir I1.ċ ha;obtain⟨q',N,bs,sn,sub,ab,col,dd,k0,k1,k2,k3,k5,l⟩:=T.cls;obtain⟨hp,g,dr,tk,os⟩:=s1;refine ű (Ag OS (B.tail I1.Ō) (I1.Ō _ _ l) hx λ h' Ox hk=>?_);have I2:Inv X Ä σ (ad H1 a (ft a C none)) ⟨h',g,dr,tk,os⟩:=I1.write (by rw [ha];exact True.intro) (.inl rfl) (λ b o hb e=>hk b o hb e) ⟨_,Ox⟩ (nh Ox)
 rw [pN ha] at I2;exact⟨.Ċ,H1,I2,rfl,q⟩
def Et (K:Frag)(C:Addr)(ta tv:TE)(f:Str):TS:=λ D σ H=>tv σ H λ y H1=>ta σ H1 λ x H2=>∃ a,x=.ref a/\H2 a=some (ft a C none)/\takerIn K C f=some none/\∀ dx,H2 dx=none->dx≠a->D.nx σ (ad (ad H2 dx (.xd [(f,y)])) a (ft a C (some dx)))
theorem fR (T:ņ X.K D nm C fI)(ha:PE X o ta)(hv:PE X value tv)(hs:swapsWith value (some (.Attribute o f pos')) ô.line X.env=pure false) :
  PS X (.Assign [.Attribute o f pos'] value ô) (Et X.K C ta tv f):=by
 intro Ä s σ H D' I h;refine PB (aV (hv Ä s σ H _ I h) λ u s1 ⟨y,H1,I1,ry,q⟩=>aV (ha Ä s1 σ H1 _ I1 q) λ ov s2 ⟨x,H2,I2,rx,a,ex,ea,tk,q2⟩=>?_) hs;subst ex;obtain rfl:ov=.ref a:=rx;obtain⟨t0,hx⟩:=ir I2.ċ ea;obtain⟨cd,hc,hd,hp⟩:=T.refuse a;refine CA I2.Ō hx T.sa hc hd hp T.it.mo tk λ h' tk' Ox QT hk=>?_;have fr:=I2.fresh;have nz:s2.heap.objs.size≠a:=λ z=>by rw [<- z,fr] at ea;cases ea
 obtain⟨oD,es,ep,Rv,rD⟩:=id QT;have nf:=Obj.isFreed_of_dict rD.1;have I3:Inv X Ä σ (ad H2 s2.heap.objs.size (.xd [(f,y)])) { s2 with heap:=s2.heap.push oD,toks:=s2.toks }:=by
  refine I2.laid (λ b o e=>Ã _ e) (Ê _) ⟨_,⟨oD,es,ep,Γ rfl nf,rD⟩,λ g=>?_⟩;by_cases e:g=f
  ·subst e;rw [Ø rfl,List.lookup_cons_self];exact ry
  ·rw [Ï e,ó,ã.mpr e];exact True.intro
 have ea3:ad H2 s2.heap.objs.size (.xd [(f,y)]) a=some (ft a C none):=by rw [af nz.symm];exact ea
 have I4:Inv X Ä σ (ad (ad H2 s2.heap.objs.size (.xd [(f,y)])) a (ft a C (some s2.heap.objs.size))) { s2 with heap:=h',toks:=tk' }:=by
  refine I3.write (by rw [ea3];exact True.intro) (.inl rfl) (λ b o hb e=>?_) ⟨_,Ox⟩ (nh Ox)
  by_cases z:b=s2.heap.objs.size
  ·subst z;have e':=e;rw [Γ rfl nf] at e';cases e';exact Rv
  ·have e':=e;exact hk b o hb (by rw [<- Heap.get?_push_ne _ _ oD z];exact e')
 exact⟨σ,_,I4,q2 _ fr nz⟩
end
section
variable {X:Cx}{Ä:List (Addr × Obj)}{σ:St}{H:Hp}{s:Shared}
theorem oz (ok:Ι P w H h)(ea:H a=some (ft a C (some dx)))(ed:H dx=some (.xd fs)) :
  ∃(ox od:Obj),InstAt h a ox C (some od)/\∃ mA:Str->Option Value,(∀ f,Ρ (fs.lookup f) (mA f))/\∀ name,lookIn name od=some (mA name):=by
 obtain⟨t,hx⟩:=ir ok ea;obtain⟨mA,hn,hr⟩:=(show Ą P w H h dx (.xd fs) from ok dx _ ed);obtain⟨od,Wc,hl⟩:=iR hn;exact⟨_,od,⟨hx,rfl,rfl,Wc⟩,mA,hr,hl⟩
structure sP (K:Frag):Prop where
 gt:specialIn K (.builtin "object.__class__") "__get__" = some (some (.builtin "getset_descriptor.__get__"))
 tk:takesIn K (.builtin "object.__class__")=some true
def MN (H:Hp)(a C:Addr):Prop:=H a=some (ft a C none)\/∃ dx fs,H a=some (ft a C (some dx))/\H dx=some (.xd fs)
theorem MN.inst (E:MN H a C)(ok:Ι P w H h):∃ ox od,InstAt h a ox C od:=by
 rcases E with e | ⟨dx,fs,ea,ed⟩
 ·obtain⟨t,hx⟩:=ir ok e;exact⟨_,none,⟨hx,rfl,rfl,True.intro⟩⟩
 ·obtain⟨ox,od,J,_⟩:=oz ok ea ed;exact⟨ox,some od,J⟩
end
end My
namespace My
open PySem PySem.W L2
open PyProof.Rows (AllBare)
abbrev oP (C:Addr)(d:Option Addr)(t:Addr)(v:Value):Obj:={ cls:=.ref C,dict:=d,data:=.fields #[.ref t,v,.none,.none,.bool false,.none] }
def iS (x C:Addr)(d:Option Addr):HO:=.ext λ h=>∃ t v,h.get? x=some (oP C d t v)
theorem wE (e:h.get? x=some (oP C d t v)):Ą P w H h x (iS x C d) :=
 ⟨⟨t,v,e⟩,⟨_,e⟩,λ _ _ ⟨t',v',e'⟩ k=>⟨t',v',k _ e'⟩⟩
theorem vC (ok:Ι P w H h)(e:H x=some (iS x C d)):∃ t v,h.get? x=some (oP C d t v):=(ok x _ e).1
def LT (n:Nat)(H:Hp)(h:Heap)(x C:Addr)(d:Option Addr):Prop:=∃ t T oT ts,h.get? x=some (oP C d t (.ref T))/\T≠x/\n<=T/\H T=none/\h.get? T=some oT/\oT.data=.fields ts/\ts[3]?=some Value.none
def cY (P:Program)(w:World):kX:=λ outer H s E e s'=>∃ x C dx fs H',e=.ref x/\s'.os=s.os/\AllBare s'.gens/\Un (nu outer) [] H H' s.heap s'.heap/\Ι P w H' s'.heap/\H' x=some (iS x C (some dx))/\H' dx=some (.xd fs)/\LT s.heap.objs.size H' s'.heap x C (some dx)/\E (.ref C) (some x) H'
section
variable {X:Cx}{Ä:List (Addr × Obj)}{σ:St}{H:Hp}{s:Shared}
theorem Inv.left (I:Inv X Ä σ H s)(hS:X.stack=X.env::X.outer)(hx:H x=some o)(ho:(∃ φ,o=.ext φ))(he:s.heap.get? x=some (oP C d t v))
  (l:Ma (nu (X.env::X.outer)) x T (oP C d t v) s.heap h' r):Inv X Ä σ (ad H x (iS x C d)) { s with heap:=h' }:=by
 obtain⟨φ,rfl⟩:=ho;have nx:∀ b u,H b=some u->(∀ φ,u ≠ .ext φ)->b≠x:=λ b u e n z=>by
  subst z;rw [hx] at e;exact n φ (Õ e).symm
 have fr0:=λ b hb=>I.F' b (by rw [hS];exact hb)
 have T9:∀ b u,H b=some u->b ∉ nu (X.env::X.outer):=λ b u e z=>by rw [fr0 b z] at e;cases e
 have exc:=l.exc;have sub:=λ b hb=>ë.mp (I.ż b (by rw [hS];exact hb))
 refine I.step (ch:=[]) (λ _ z=>nomatch z) (λ b o hL hf _ e n=>?_) (λ b o hL hf _ e n=>?_) (λ b o _ e n=>?_) (λ b o _ e=>?_) (λ b xs e=>?_) (λ b o u e=>?_) (λ b ps e=>⟨#[],?_⟩) (λ e=>?_) (λ m hm=>?_) (λ b u e=>?_) I.bare
 ·refine l.keep b o (λ z=>by rw [z,hx] at n;cases n) (λ z=>?_) e
  rcases sub b z with q | q
  ·exact hL q
  ·exact hf q
 ·exact l.slot b o (λ z=>by rw [z,hx] at n;cases n) e
 ·rw [af (λ z=>by rw [z,hx] at n;cases n)];exact n
 ·by_cases z:b=x
  ·subst z;exact⟨_,exc⟩
  ·obtain⟨sl,q⟩:=l.slot b o z e;exact⟨_,q⟩
 ·rw [af (nx b _ e λ _=>by intro z;cases z)];exact e
 ·rw [af (nx b _ e λ _=>by intro z;cases z)];exact e
 ·rw [af (nx b _ e λ _=>by intro z;cases z),e];simp
 ·rw [af (λ z=>by rw [z,hx] at e;cases e)];exact e
 ·obtain⟨o,es,ep,ho,r⟩:=hm;obtain⟨sl,q⟩:=l.slot _ o (λ z=>by have:=I.free;rw [z,hx] at this;cases this) ho
  exact⟨_,es,ep,q,r⟩
 ·by_cases z:b=x
  ·subst z;rw [aM] at e;cases e;exact wE exc
  ·rw [af z] at e;refine(I.ċ b u e).l_ (λ c o' hc q=>?_) (λ c q=>?_) λ c xs q=>?_
   ·rcases hc with rfl | hc
    ·exact l.keep c o' z (T9 c u e) q
    ·exact l.keep c o' (nx c _ hc λ _=>by intro w;cases w) (T9 c _ hc) q
   ·rw [af (nx c _ q λ _=>by intro w;cases w)];exact q
   ·rw [af (nx c _ q λ _=>by intro w;cases w)];exact q
end
section
variable {P:Program}{w:World}{K:Frag}{mg:bC}{base:Heap}{N:List Str}{qual:Str}{scope:Scope}{f:Addr}{cd:Value}{A:Around}{outer:List Env}{s0:Shared}{H0:Hp}{E:XK}{Ä:List (Addr × Obj)}{σ:St}{H:Hp}{s:Shared}
theorem yo (I:Inv (aW (cY P w) P w K mg base N qual scope f cd A outer s0 H0 E) Ä σ H s)(hx:H x=some o)(ho:(∃ φ,o=.ext φ))(NT:H dx=some (.xd fs))(he:s.heap.get? x=some (oP C (some dx) t v))
  (hv:yF s.heap x #[.ref t,v,.none,.none,.bool false,.none])(q:E (.ref C) (some x) (ad H x (iS x C (some dx)))):(aW (cY P w) P w K mg base N qual scope f cd A outer s0 H0 E).xe (.ref x) s:=by
 have hA:=I.ok.frames;refine oA hA I.stack rfl he rfl hv λ h' T l=>?_;have J:=Inv.left I rfl hx ho he l;have nT:=I.ċ.fresh l.new;obtain⟨oT,ts,h1,h2,h3,h4⟩:=l.TY;have nd:dx≠x:=λ z=>by
  obtain⟨φ,rfl⟩:=ho;rw [z,hx] at NT;cases NT
 refine⟨x,C,dx,fs,_,rfl,J.os,J.bare,J.base,J.ċ,aM,by rw [af nd];exact NT,⟨t,T,oT,ts,l.exc,h4,õ I.sz l.new,?_,h1,h2,h3⟩,q⟩
 rw [af h4];exact nT
theorem dE:dX (cY P w) (aW (cY P w) P w K mg base N qual scope f cd A outer s0 H0 E) E:=by
 intro Ä σ H s e s' I h;obtain⟨x,C,dx,fs,H',rfl,os,bare,un,ċ,hx,NT,⟨t,T,oT,ts,h1,h2,_,h4,h5,h6,h7⟩,q⟩:=h;have J:=I.Og os un ċ bare (λ b z=>absurd z (by simp))
 refine yo J hx ⟨_,rfl⟩ NT h1 (.inr ⟨T,oT,ts,rfl,h2,h5,h6,h7⟩) ?_;rw [pN hx];exact q
end
end My
namespace My
open PySem PySem.W L2
open PyProof.Rows (AllBare)
section
variable {prog:Program}{w:World}{A:Around}{E:fg}{s:Shared}{env:Env}{x:Sem Value}{Q:Flow->Shared->Prop}{K:Frag}{C:Addr}
theorem sU (T:oh K C)(ht:typeIn K (.ref C)=some (.type "type"))(hA:A.handled=none)
  (hx:wpAny (model prog w) A x (λ v s1=>∃ e t d od,v=.ref e/\InstAt s1.heap e (pb C d t) C od/\K.In s1.heap/\E (.ref e) s1) E s):wpAny (model prog w) A (raiseStmt env (some x) none) Q E s:=by
 unfold raiseStmt;refine À (ñ hx (λ v s1 h=>?_) (λ _ _ z=>z));obtain⟨e,t,d,od,rfl,I,KX,q⟩:=h;obtain⟨hp,g,dr,tk,os⟩:=s1;have Xs:∀ c:ClassData,(pb C d t).data≠Data.cls c:=λ c z=>by cases z
 refine À (Æ ?_);refine À ?_;show wpAny _ _ (excFromValue (.ref e) _) _ _ _;unfold excFromValue;refine À ?_;unfold isExcClass;refine À (ks_wpAny_isType_inst I.at_ Xs ?_);refine Ĩ rfl (Æ ?_);refine Ĩ rfl ?_;refine À ?_;have sub:Looks (model prog w) hp (isInstance (.ref e) (.type "BaseException")) true:=I.type.andThen (E_ KX T.mb);refine Ħ sub ?_;refine ψ rfl (Æ ?_);refine À (ks_wpAny_isType_inst I.at_ Xs ?_);refine Ĩ rfl ?_;refine À ?_;refine À (Ħ I.type ?_);refine À (Ħ (looks_typeIn KX ht) ?_);refine ψ rfl (Æ ?_);refine À ?_;refine À (ö I.at_ rfl rfl ?_);refine Ĩ rfl (Æ ?_);exact wpAny_raiseNew_none hA q
end
theorem ņ.type (T:ņ K D nm C f):typeIn K (.ref C)=some (.type "type"):=by
 obtain⟨q,N,bs,sn,sub,ab,col,dd,k0,k1,k2,k3,k5,l⟩:=T.cls;show(K.lookup C).map (λ o=>o.cls)=_;rw [l];rfl
def qR (E:XK)(C:Addr):VK:=λ y H'=>∃ x dx fs,y=.ref x/\H' x=some (ft x C (some dx))/\H' dx=some (.xd fs)/\E (.ref C) (some x) (ad H' x (iS x C (some dx)))
def BO (E:XK)(C:Addr)(fld:Str)(te:TE):TS:=λ _ σ H=>FB C fld te σ H (qR E C)
theorem fQ:ad (ad H x a) x b=ad H x b:=by
 funext z
 unfold ad;by_cases h:z=x
 ·rw [Ø h,Ø h]
 ·rw [Ï h,Ï h,Ï h]
section
variable {P:Program}{w:World}{K:Frag}{mg:bC}{base:Heap}{N:List Str}{qual:Str}{scope:Scope}{f:Addr}{cd:Value}{A:Around}{outer:List Env}{s0:Shared}{H0:Hp}{E:XK}
abbrev vq (P:Program)(w:World)(K:Frag)(mg:bC)(base:Heap)(N:List Str)(qual:Str)(scope:Scope)(f:Addr)(cd:Value)(A:Around)(outer:List Env)(s0:Shared)(H0:Hp)(E:XK):Cx:=aW (cY P w) P w K mg base N qual scope f cd A outer s0 H0 E
theorem cE {nm fld x:Str}(B:ĳ K D)(T:ņ K D nm C fI)(F:à P w K mg base aB k fI fd ps (oo C fld))(hr:ă (k+1) (vq P w K mg base N qual scope f cd A outer s0 H0 E).A)(hb:Binds K fd ps [])
  (hg:Gl (vq P w K mg base N qual scope f cd A outer s0 H0 E) x)(hm:mg x=some (.ref C))(ha:PE (vq P w K mg base N qual scope f cd A outer s0 H0 E) e te)
  (L5:(x==("__debug__" : Str))=false:=by decide)(he:starEach [e] (vq P w K mg base N qual scope f cd A outer s0 H0 E).env=(false,eval e (vq P w K mg base N qual scope f cd A outer s0 H0 E).env)::starEach [] (vq P w K mg base N qual scope f cd A outer s0 H0 E).env:=by rfl)(ź:(backTo ô (starEach [] (vq P w K mg base N qual scope f cd A outer s0 H0 E).env)).any (·.1)=false:=by rfl) :
  PS (vq P w K mg base N qual scope f cd A outer s0 H0 E) (.Raise (some (.Call (.Name x p) [e] [] ô)) none pos') (BO E C fld te):=by
 intro Ä s σ H D' I h;have pe:=BZ (p:=p) B T F hr hb hg hm ha L5 he ź;have hd:=I.ok.hd rfl;rw [arm_exec_Raise];refine À (Į ?_);refine sU T.it T.type hd ?_;refine À (aV (pe Ä s σ H (qR E C) I h) λ u s1 h1=>?_);obtain⟨y,H1,I1,ry,x,dx,fs,rfl,e1,e2,q⟩:=h1;refine À (Į (Æ ?_));obtain⟨t,ht⟩:=ir I1.ċ e1;obtain⟨ox,od,J,_⟩:=oz I1.ċ e1 e2;have eo:=Õ (J.at_.symm.trans ht);subst eo;exact⟨x,t,some dx,some od,ry,J,I1.Ō,yo I1 e1 ⟨_,rfl⟩ e2 ht (.inl rfl) q⟩
theorem eJ {fld:Str}(nd:dx≠x)(q:E (.ref C) (some x) (ad (ad H1 dx (.xd [(fld,v)])) x (iS x C (some dx)))):qR E C (.ref x) (ad (ad H1 dx (.xd [(fld,v)])) x (ft x C (some dx))) :=
 ⟨x,dx,_,rfl,aM,by rw [af nd,aM],by rw [fQ];exact q⟩
theorem Hx (F:Ī K x qual st f fd)(S:ae N ps (aa st))(len:∀ vs H Q E,sp vs H Q E->vs.length=ps.length)
  (e_:∀(cdv:Value)(A:Around)(outer:List Env)(s:Shared)(H:Hp)(vs:List V)(Q:VK)(E:XK),ă k (A.deeper (PyProof.Rows.envOfC qual (aa st) s.heap.objs.size f cdv))->sp vs H Q E ->
   ∃ t,Ž (vq P w K mg base N qual (aa st) f cdv A outer s H E) (aH st) t/\t { nx:=λ _ H'=>Q .Ċ H',rt:=Q } (gr N vs) H):à P w K mg base (cY P w) (k+1) f fd ps sp:=by
 obtain⟨oc,od,kV,doc,pm,an,cdv,ct,P8,rfl,lk,OB⟩:=F.ex;refine yz lk OB S len λ A outer s H vs Q E hr Oz=>?_;obtain⟨t,h,q⟩:=e_ cdv A outer s H vs Q E hr Oz;exact⟨t,h,q⟩
theorem gP (F:Ī K x qual st f fd)(S:ae N ps (aa st))
  (e_:∀(cdv:Value)(A:Around)(outer:List Env)(s:Shared)(H:Hp)(vs:List V)(Q:VK)(E:XK),ă k (A.deeper (PyProof.Rows.envOfC qual (aa st) s.heap.objs.size f cdv))->sp vs H Q E ->
   ∃ t,Ž (vq P w K mg base N qual (aa st) f cdv A outer s H E) (aH st) t/\t { nx:=λ _ H'=>Q .Ċ H',rt:=Q } (gr N vs) H)(len:∀ vs H Q E,sp vs H Q E->vs.length=ps.length:=by intro vs H Q E h;repeat (first | (obtain⟨rfl,_⟩:=h;rfl) | (obtain⟨_,h⟩:=h))):à P w K mg base (cY P w) (k+1) f fd ps sp:=Hx F S len e_
theorem à.toE (F:à P w K mg base aB k f fd ps sp):à P w K mg base (cY P w) k f fd ps sp :=
 ⟨F.len,λ A outer s H args us vs Q E hr he hb hv hs=>Ş (F.run A outer s H args us vs Q E hr he hb hv hs) λ r s' h=>by
  cases r with
  | error e=>exact False.elim h
  | ok fl=>cases fl <;> exact h⟩
end
end My
namespace My
open PySem PySem.W L2
open PyProof.Rows (AllBare)
def PX (X:Cx)(σ:St)(e:Expr)(t:TE):Prop:=∀(Ä:List (Addr × Obj))(s:Shared)(H:Hp)(Q:VK),Inv X Ä σ H s->t σ H Q->wpAny (model X.prog X.w) X.A (eval e X.env) (EP X Ä σ Q) X.xe s
def Ef (X:Cx)(σ:St)(es:List Expr)(t:TA):Prop:=∀(ô:Pos)(Ä:List (Addr × Obj))(s:Shared)(H:Hp)(Q:List V->Hp->Prop),Inv X Ä σ H s->t σ H Q->wpAny (model X.prog X.w) X.A (spliced (backTo ô (starEach es X.env))) (AP X Ä σ Q) X.xe s
section
variable {X:Cx}{σ:St}{e:Expr}{es:List Expr}{te:TE}{t:TA}{ô:Pos}
theorem xL (h:PE X e te):PX X σ e te:=λ Ä s H Q I q=>h Ä s σ H Q I q
theorem tS (h:PA X es t):Ef X σ es t:=λ ô Ä s H Q I q=>h ô Ä s σ H Q I q
theorem oZ (ha:PX X σ e te)(hr:Ef X σ es t)(hs:starEach (e::es) X.env=(false,eval e X.env)::starEach es X.env:=by rfl):Ef X σ (e::es) (am te t):=by
 intro ô Ä s H Q I h;rw [hs];refine Oq (aV (ha Ä s H _ I h) λ u s1 ⟨x,H1,I1,r1,q1⟩=>?_);exact aV (hr ô Ä s1 H1 _ I1 q1) λ us s2 ⟨xs,H2,I2,r2,q2⟩=>⟨x::xs,H2,I2,.cons r1 r2,q2⟩
theorem zR {x1}(h:Ef X σ es t):PX X σ (.Tuple es x1 ô) (dO t):=by
 intro Ä s H Q I hq;refine wpAny_Tuple_spliced (aV (h ô Ä s H _ I hq) λ us s1 ⟨xs,H1,I1,r,z,q⟩=>⟨by rw [<- r.length];exact z,?_⟩)
 have hf:=I1.ċ.fresh (Ê _);refine⟨.ref s1.heap.objs.size,ad H1 s1.heap.objs.size (.tup xs),I1.laid (λ b u e=>Ã _ e) (Ê _) ?_,rfl,q _ hf⟩;exact⟨z,us,r,⟨_,Ò _ rfl,rfl,_,rfl⟩⟩
def tM (CX:kX)(X:Cx)(σ:St)(E:XK):Prop:=∀(Ä:List (Addr × Obj))(H:Hp)(s:Shared)(e:Value)(s':Shared),Inv X Ä σ H s->CX X.stack H s E e s'->X.xe e s'
variable {CX:kX}{k:Nat}{f C:Addr}{fd:FuncData}{ps:List Str}{sp:Sp}{L9:List V}{ds:List Value}{E:XK}{x:Str}{p:Pos}
theorem v6 (F:à X.prog X.w X.K X.mg X.base CX k f fd ps sp)(hr:ă k X.A)(hb:Binds X.K fd ps ds)(hd:Vals L9 ds)(hx:tM CX X σ E)
  (I:Inv X Ä σ H s)(r:Vals vs us)(h:sp (vs++L9) H Q E):wpAny (model X.prog X.w) X.A (call (.ref f) us) (EP X Ä σ Q) X.xe s:=by
 have r2:=r.append hd;have hl:(us++ds).length=ps.length:=by rw [<- r2.length];exact F.len _ _ _ _ h
 refine ű (Ş (F.run X.A X.stack s H ⟨us,[]⟩ (us++ds) (vs++L9) Q E hr I.Qj (hb s us I.Ō hl) r2 h) λ r s' hq=>?_);cases r with
 | error e=>exact hx Ä H s e s' I hq
 | ok fl =>
  cases fl with
  | ret u=>exact I.after hq
  | next=>exact False.elim hq
  | brk=>exact False.elim hq
  | cont=>exact False.elim hq
end
section
variable {prog:Program}{w:World}{A:Around}{E:fg}{s:Shared}{K:Frag}{C D e:Addr}{Q:Bool->Shared->Prop}{ox:Obj}{od:Option Obj}{b:Bool}
theorem jA (KX:K.In s.heap)(hD:∃ cd,clsIn K D=some cd)(hT:typeIn K (.ref D)=some (.type "type"))(hB:mroIn K D (.type "BaseException")=some true)(I:InstAt s.heap e ox C od)(hC:mroIn K C (.ref D)=some b)(q:Q b s):wpAny (model prog w) A (excMatches (.ref e) (.ref D)) Q E s:=by
 unfold excMatches;have L1:Looks (model prog w) s.heap (isInstance (.ref D) (.type "tuple")) false:=(looks_typeIn KX hT).andThen (Looks.of_pure rfl);refine À (Ħ L1 ?_);refine Ĩ rfl ?_;refine À (Æ ?_);refine À ?_;obtain⟨cd,hc⟩:=hD;obtain⟨hp,g,dr,tk,os⟩:=s;obtain⟨oD,Rv,Tc⟩:∃ oD,K.lookup D=some oD/\oD.data=.cls cd:=by
  unfold clsIn at hc;split at hc
  ·rename_i h
   exact⟨_,h,by cases hc;rfl⟩
  ·cases hc
 rw [List.forIn_cons];refine À (À ?_);unfold isExcClass;refine À (ks_wpAny_isType_cls (KX _ _ Rv) Tc ?_);refine ψ rfl ?_;refine Ħ (E_ KX hB) ?_;refine Ĩ rfl (Æ ?_);show wpAny _ _ (forIn ([]:List Value) PUnit.unit _) _ _ _;rw [OV];refine Æ ?_;refine À (Ħ I.type ?_);refine À ?_;rw [List.forIn_cons];refine À (À (Ħ (E_ KX hC) ?_));cases b with
 | true =>
  refine ψ rfl (Æ ?_);exact Æ (Æ q)
 | false =>
  refine Ĩ rfl (Æ ?_);show wpAny _ _ (forIn ([]:List Value) _ _) _ _ _;rw [OV];exact Æ (Æ q)
end
end My
namespace My
open PySem PySem.W L2
open PyProof.Rows (AllBare)
def KF (X:Cx)(σ:St)(st:Stmt)(t:TS):Prop:=∀(Ä:List (Addr × Obj))(s:Shared)(H:Hp)(D:bX),Inv X Ä σ H s->t D σ H->wpAny (model X.prog X.w) X.A (exec st X.env) (SP X Ä D) X.xe s
section
variable {X:Cx}{σ:St}{e:Expr}{te:TE}{ô:Pos}
theorem v9 (hN:X.N.Nodup)(hi:X.N[i]?=some x)(hx:CB X.env.scope x)(he:PX X σ e te)(hs:swapsWith e (some (.Name x pos')) ô.line X.env=pure false:=by rfl)(hf:X.fn x=true\/X.env.scope.names.lookup x=some .local:=by first | exact .inl rfl | exact .inr rfl | assumption) :
  KF X σ (.Assign [.Name x pos'] e ô) (cR te (ba i)):=by
 intro Ä s H D I h;refine wpAny_Assign_Name (aV (he Ä s H _ I h) λ v s1 ⟨y,H1,I1,r1,q1⟩=>?_) hs;exact eY I1 hN hi hx r1 (λ s2 I2=>⟨_,H1,I2,q1⟩) hf
end
abbrev jQ (X:Cx)(pn:List (Addr × Obj))(xe:fg):Cx:={ X with pn:=pn,xe:=xe }
abbrev sf (X:Cx)(x:Addr):Cx:={ X with A:=X.A.mark (some (.ref x)),calm:=false,xe:=λ _ _=>False }
section
variable {X:Cx}{Ä Nl pn:List (Addr × Obj)}{σ:St}{H:Hp}{s:Shared}{xe:fg}{x:Addr}
theorem Ok.O8 (ok:X.Ok):(jQ X pn xe).Ok:=⟨ok.mod,ok.kind,ok.glob,ok.blt,ok.above,ok.inj,ok.has,ok.QY,ok.hd,ok.frames,ok.Re,ok.Tk,ok.bs,ok.Oh,ok.MV,ok.NW,ok.ς,ok.PQ⟩
theorem Ok.Ξ (ok:(jQ X pn xe).Ok):X.Ok:=⟨ok.mod,ok.kind,ok.glob,ok.blt,ok.above,ok.inj,ok.has,ok.QY,ok.hd,ok.frames,ok.Re,ok.Tk,ok.bs,ok.Oh,ok.MV,ok.NW,ok.ς,ok.PQ⟩
theorem Inv.O8 (I:Inv X Ä σ H s):Inv (jQ X (X.pn ++ Ä) xe) [] σ H s :=
 ⟨Ok.O8 I.ok,I.os,I.bare,I.base,I.loc,I.cell,I.free,I.Ť,λ p hp=>I.pin p (by rw [Ę] at hp;exact hp),I.ċ,I.len⟩
theorem Inv.Ξ (I:Inv (jQ X (X.pn ++ Ä) xe) Nl σ H s):Inv X Ä σ H s :=
 ⟨Ok.Ξ I.ok,I.os,I.bare,I.base,I.loc,I.cell,I.free,I.Ť,λ p hp=>I.pin p (H_ _ hp),I.ċ,I.len⟩
theorem Inv.P4 (I:Inv X Ä σ H s):Inv (sf X x) Ä σ H s :=
 ⟨⟨I.ok.mod,I.ok.kind,I.ok.glob,I.ok.blt,I.ok.above,I.ok.inj,I.ok.has,I.ok.QY,λ z=>Bool.noConfusion z,I.ok.frames,I.ok.Re,I.ok.Tk,I.ok.bs,I.ok.Oh,I.ok.MV,I.ok.NW,I.ok.ς,I.ok.PQ⟩,I.os,I.bare,I.base,I.loc,I.cell,I.free,I.Ť,I.pin,I.ċ,I.len⟩
theorem Inv.NL (ok:X.Ok)(I:Inv (sf X x) Ä σ H s):Inv X Ä σ H s:=⟨ok,I.os,I.bare,I.base,I.loc,I.cell,I.free,I.Ť,I.pin,I.ċ,I.len⟩
theorem SP.NL (ok:X.Ok)(h:SP (sf X x) Ä D f s):SP X Ä D f s:=by
 cases f with
 | next=>obtain⟨ĝ,H',I,q⟩:=h;exact⟨ĝ,H',Inv.NL ok I,q⟩
 | brk=>obtain⟨ĝ,H',I,q⟩:=h;exact⟨ĝ,H',Inv.NL ok I,q⟩
 | cont=>obtain⟨ĝ,H',I,q⟩:=h;exact⟨ĝ,H',Inv.NL ok I,q⟩
 | ret u=>obtain⟨v,ĝ,H',I,r,q⟩:=h;exact⟨v,ĝ,H',Inv.NL ok I,r,q⟩
theorem SP.Ξ (h:SP (jQ X (X.pn ++ Ä) xe) Nl D f s):SP X Ä D f s:=by
 cases f with
 | next=>obtain⟨ĝ,H',I,q⟩:=h;exact⟨ĝ,H',Inv.Ξ I,q⟩
 | brk=>obtain⟨ĝ,H',I,q⟩:=h;exact⟨ĝ,H',Inv.Ξ I,q⟩
 | cont=>obtain⟨ĝ,H',I,q⟩:=h;exact⟨ĝ,H',Inv.Ξ I,q⟩
 | ret u=>obtain⟨v,ĝ,H',I,r,q⟩:=h;exact⟨v,ĝ,H',Inv.Ξ I,r,q⟩
theorem rQ (I:Inv X Ä σ H s)(hN:X.N.Nodup)(hi:X.N[i]?=some n)(hk:X.env.scope.names.lookup n=some .local)(hv:σ[i]?=some (some v))
  (h:∀ s',Inv X Ä (σ.set i none) H s'->Q () s'):wpAny M A (unbindName X.env n) Q E s:=by
 obtain⟨m,hn,hl⟩:=id I.loc;have Rz:(X.env.scope.kind == .class||(X.env.scope.kind == .module&&X.env.locals != X.env.globals))=false:=by rw [I.ok.kind];rfl
 have OA:i < σ.length:=by rw [I.len];exact(Å.mp hi).1
 obtain⟨u,_,lk⟩:=hl i n v hi hv (.inl hk);have mu:m n=some u:=by
  rcases lk with⟨_,z⟩ | ⟨z,_⟩
  ·exact z
  ·have k':X.env.kindOf n=some .local:=hk;rcases z with z | z <;>(rw [k'] at z;cases z)
 have Px:=I.Px;refine wpAny_unbindName_local hk hn mu Rz λ h' u' QT hs=>?_;obtain⟨oL,_,_,XO,_⟩:=id hn;have tracked:=λ b ob e=>by
  refine(I.ċ b ob e).l_ (λ c w' hc q=>(hs.2 c ?_).trans q) (λ _ q=>q) λ _ _ q=>q;rintro rfl;rcases hc with rfl | hc
  ·rw [I.free] at e;cases e
  ·rw [I.free] at hc;cases hc
 refine h _ ⟨I.ok,I.os,I.bare,⟨λ b o e n hb hx=>?_,λ b o e n hb hx=>?_,I.base.free,λ b o e hx=>?_,I.base.K',I.base.D_,I.base.K_,I.base.sys⟩,⟨_,QT,λ j y v' e1 e2 e3=>?_⟩,λ y c e=>?_,I.free,I.Ť,λ p hp=>?_,tracked,by simpa using I.len⟩
 ·exact(hs.2 b (Ó (Þ (É e) I.ok.above))).trans (I.base.keep b o e n hb hx)
 ·obtain⟨sl,e1⟩:=I.base.slot b o e n hb hx;exact⟨sl,(hs.2 b (Ó (Þ (É e) I.ok.above))).trans e1⟩
 ·obtain⟨o',e1⟩:=I.base.there b o e hx;exact⟨o',(hs.2 b (Ó (Þ (É e) I.ok.above))).trans e1⟩
 ·by_cases hj:j=i
  ·subst hj;rw [Ū OA] at e2;cases e2
  ·rw [I_ (Ne.symm hj)] at e2;obtain⟨u2,r',q⟩:=hl j y v' e1 e2 e3;refine⟨u2,r',?_⟩;rcases q with⟨k,e⟩ | ⟨k,c,e,z⟩
   ·refine .inl ⟨k,?_⟩;have:y≠n:=λ e=>hj (j8 hN e1 (e ▸ hi));simp [this,e]
   ·exact .inr ⟨k,c,e,z.sameBut hs (Px y c e)⟩
 ·obtain⟨w',z⟩:=I.cell y c e;exact⟨w',z.sameBut hs (Px y c e)⟩
 ·obtain⟨e,n,ne,nf,d⟩:=I.pin p hp;exact⟨(hs.2 p.1 ne).trans e,n,ne,nf,d⟩
end
structure gT (K:Frag)(D:Addr):Prop where
 cls:∃ cd,clsIn K D=some cd
 ty:typeIn K (.ref D)=some (.type "type")
 mb:mroIn K D (.type "BaseException")=some true
def pM (D:bX)(i:Nat):bX:=⟨λ σ H=>D.nx (σ.set i none) H,D.rt,λ σ H=>D.bk (σ.set i none) H,λ σ H=>D.ct (σ.set i none) H⟩
end My
namespace My
open PySem PySem.W L2
open PyProof.Rows (AllBare)
section
variable {X:Cx}{Ä:List (Addr × Obj)}{σ:St}{H:Hp}{s:Shared}
theorem rN (ok:X.Ok)(hN:X.N.Nodup)(hi:X.N[i]?=some n)(hk:X.env.scope.names.lookup n=some .local)(h:SP X Ä (pM D i) f s) :
  wpAny (model X.prog X.w) X.A (do
   bindName X.env n .none
   unbindBehindTheSuite X.env n ô) (λ _ s'=>SP X Ä D f s') E s:=by
 have go:∀{ĝ:St}{H':Hp},Inv X Ä ĝ H' s->(∀ s',Inv X Ä (ĝ.set i none) H' s'->SP X Ä D f s')->wpAny (model X.prog X.w) X.A (do
   bindName X.env n .none
   unbindBehindTheSuite X.env n ô) (λ _ s'=>SP X Ä D f s') E s:=λ {ĝ H'} I q=>by
  have OA:i < ĝ.length:=by rw [I.len];exact(Å.mp hi).1
  refine À (wpAny_bindName (eY I hN hi (.inl hk) (v:=V.Ċ) rfl (λ s1 I1=>?_) (.inr hk)));refine u_ (rQ I1 hN hi hk (Ū OA) λ s2 I2=>?_);rw [List.set_set] at I2;exact q s2 I2
 cases f with
 | next=>obtain⟨ĝ,H',I,q⟩:=h;exact go I λ s' I'=>⟨_,H',I',q⟩
 | brk=>obtain⟨ĝ,H',I,q⟩:=h;exact go I λ s' I'=>⟨_,H',I',q⟩
 | cont=>obtain⟨ĝ,H',I,q⟩:=h;exact go I λ s' I'=>⟨_,H',I',q⟩
 | ret u=>obtain⟨v,ĝ,H',I,r,q⟩:=h;exact go I λ s' I'=>⟨v,_,H',I',r,q⟩
end
section
variable {X:Cx}{Ä:List (Addr × Obj)}{σ:St}{H:Hp}{s:Shared}
theorem iK (ok:Ι P w H h)(ea:H a=some (iS a C (some dx)))(ed:H dx=some (.xd fs)) :
  ∃(ox od:Obj),InstAt h a ox C (some od)/\∃ mA:Str->Option Value,(∀ f,Ρ (fs.lookup f) (mA f))/\∀ name,lookIn name od=some (mA name):=by
 obtain⟨t,v,hx⟩:=vC ok ea;obtain⟨mA,hn,hr⟩:=(show Ą P w H h dx (.xd fs) from ok dx _ ed);obtain⟨od,Wc,hl⟩:=iR hn;exact⟨_,od,⟨hx,rfl,rfl,Wc⟩,mA,hr,hl⟩
def ud (K:Frag)(ta:TE)(f:Str):TE:=λ σ H Q=>ta σ H λ x H1=>∃ a C dx fs v,x=.ref a/\H1 a=some (iS a C (some dx))/\H1 dx=some (.xd fs)/\fs.lookup f=some v/\oh K C/\hasDictIn K C=true/\findIn K (.ref C) f=some none/\Q v H1
theorem gF (he:PE X e ta)(hb:attributeBase e f X.env (eval e X.env)=eval e X.env):PE X (.Attribute e f ô) (ud X.K ta f):=by
 intro Ä s σ H Q I h;refine qQ hb (aV (he Ä s σ H _ I h) λ u s1 ⟨x,H1,I1,rx,a,C,dx,fs,v,ex,ea,ed,l,T,hd,nf,q⟩=>?_);subst ex;obtain rfl:u=.ref a:=rx;obtain⟨ox,od,J,mA,hr,hl⟩:=iK I1.ċ ea ed;obtain⟨u,eu,ru⟩:=Ρ.some_of (l ▸ hr f);exact yZ I1.Ō J T.ga T.hk T.mb (findObj_own hd nf rfl (by rw [hl,eu])) (lg ru) ⟨v,H1,I1.tok _,ru,q⟩
theorem lA:∀{cs:List Addr}{us:List Value},Vals (cs.map V.ref) us->us=cs.map Value.ref
 | [],_,.nil=>rfl
 | c::cs,_,.cons r t=>by
  rw [lA t];cases (show _=Value.ref c from r);rfl
end
end My
namespace My
open PySem PySem.W L2
open PyProof.Rows (AllBare)
structure zK (X:Cx)(Ä:List (Addr × Obj))(σ:St)(H:Hp)(s:Shared)(x C:Addr):Prop where
 inv:Inv X Ä σ H s
 err:∃ dx fs,H x=some (iS x C (some dx))/\H dx=some (.xd fs)
 fl:∃ dx t T oT ts,s.heap.get? x=some (oP C dx t (.ref T))/\s.heap.get? T=some oT/\oT.data=.fields ts/\ts[3]?=some Value.none
abbrev TH:=Addr->Addr->TS
def DK (X:Cx)(hs:List ExceptHandler)(th:TH):Prop:=∀(Ä:List (Addr × Obj))(s:Shared)(σ:St)(H:Hp)(D:bX)(x C:Addr),zK X Ä σ H s x C->th x C D σ H->wpAny (model X.prog X.w) X.A (handleBy (.ref x) X.env hs) (SP X Ä D) X.xe s
def Fk:TH:=λ _ _ _ _ _=>False
def DM (K:Frag)(B:Addr)(i:Nat)(th:TS)(rest:TH):TH:=λ x C D σ H=>∃ b,mroIn K C (.ref B)=some b/\if b=true then th (pM D i) (σ.set i (some (.ref x))) H else rest x C D σ H
def KS (K:Frag)(B:Addr)(th:TS)(rest:TH):TH:=λ x C D σ H=>∃ b,mroIn K C (.ref B)=some b/\if b=true then th D σ H else rest x C D σ H
section
variable {X:Cx}{hs:List ExceptHandler}{rest:TH}
theorem w9:DK X [] Fk:=λ _ _ _ _ _ _ _ _ h=>False.elim h
theorem kC (hN:X.N.Nodup)(hi:X.N[i]?=some n)(hk:X.env.scope.names.lookup n=some .local)(cB:gT X.K B)(hg:Gl X cn)(hm:X.mg cn=some (.ref B))
  (hh:∀ x,Ž (sf X x) (RL::O9) th)(hr:DK X hs rest)(L5:(cn==("__debug__" : Str))=false:=by decide):DK X (.ExceptHandler (some (.Name cn pc)) (some n) (RL::O9) ph::hs) (DM X.K B i th rest):=by
 intro Ä s σ H D x C G h;obtain⟨b,Nb,q⟩:=h;obtain⟨J2,⟨dx,fs,hx,NT⟩,WH,t,T',Vl,UT,RI,f1,f2,f3⟩:=id G;refine wpAny_handleBy_cons ?_ (by intro z;cases z)
 refine codeAny_handlers_test ?_;refine eO (Inv.P4 J2) hg hm ?_ L5;obtain⟨ox,odd,JI⟩:∃ ox od,InstAt s.heap x ox C od:=by
  obtain⟨ox,od,J,_⟩:=iK J2.ċ hx NT;exact⟨ox,some od,J⟩
 refine jA J2.Ō cB.cls cB.ty cB.mb JI Nb ?_;cases b with
 | false =>
  rw [Ï au] at q;exact hr Ä s σ H D x C G q
 | true =>
  rw [Ø rfl] at q;refine codeAny_handlers_suite_as ?_;have h3:=(í.mp f3).1;refine Nd RI rfl rfl f1 f2 h3 ?_;have J3:Inv X Ä σ H { s with heap:=s.heap.update T' (Obj.mapFields λ x=>x.setIfInBounds 3 .none) }:=by
   refine J2.kept λ b u hb=>?_;by_cases z:b=T'
   ·subst z;have e:=Õ (f1.symm.trans hb);subst e;rw [þ _ f1 (by rw [oK f2];rfl),oK f2,jw f3,<- f2]
   ·rw [ß _ _ _ _ z];exact hb
  generalize ({ s with heap:=s.heap.update T' (Obj.mapFields λ x=>x.setIfInBounds 3 .none) }:Shared)=s3 at J3
  refine eY (X:=sf X x) (Inv.P4 J3) hN hi (.inl hk) (v:=V.ref x) rfl (λ s4 I4=>?_) (.inr hk);refine ñ (hh x Ä s4 _ H (pM D i) I4 q) (λ f s5 q5=>?_) (λ _ _ z=>False.elim z);exact rN J3.ok hN hi hk (SP.NL J3.ok q5)
theorem Dj (cB:gT X.K B)(hg:Gl X cn)(hm:X.mg cn=some (.ref B))
  (hh:∀ x,Ž (sf X x) (RL::O9) th)(hr:DK X hs rest)(L5:(cn==("__debug__" : Str))=false:=by decide):DK X (.ExceptHandler (some (.Name cn pc)) none (RL::O9) ph::hs) (KS X.K B th rest):=by
 intro Ä s σ H D x C G h;obtain⟨b,Nb,q⟩:=h;obtain⟨J2,⟨dx,fs,hx,NT⟩,WH,t,T',Vl,UT,RI,f1,f2,f3⟩:=id G;refine wpAny_handleBy_cons ?_ (by intro z;cases z)
 refine codeAny_handlers_test ?_;refine eO (Inv.P4 J2) hg hm ?_ L5;obtain⟨ox,odd,JI⟩:∃ ox od,InstAt s.heap x ox C od:=by
  obtain⟨ox,od,J,_⟩:=iK J2.ċ hx NT;exact⟨ox,some od,J⟩
 refine jA J2.Ō cB.cls cB.ty cB.mb JI Nb ?_;cases b with
 | false =>
  rw [Ï au] at q;exact hr Ä s σ H D x C G q
 | true =>
  rw [Ø rfl] at q;refine codeAny_handlers_suite ?_;have h3:=(í.mp f3).1;refine Nd RI rfl rfl f1 f2 h3 ?_;have J3:Inv X Ä σ H { s with heap:=s.heap.update T' (Obj.mapFields λ x=>x.setIfInBounds 3 .none) }:=by
   refine J2.kept λ b u hb=>?_;by_cases z:b=T'
   ·subst z;have e:=Õ (f1.symm.trans hb);subst e;rw [þ _ f1 (by rw [oK f2];rfl),oK f2,jw f3,<- f2]
   ·rw [ß _ _ _ _ z];exact hb
  generalize ({ s with heap:=s.heap.update T' (Obj.mapFields λ x=>x.setIfInBounds 3 .none) }:Shared)=s3 at J3
  refine ñ (hh x Ä s3 _ H D (Inv.P4 J3) q) (λ f s5 q5=>?_) (λ _ _ z=>False.elim z);exact SP.NL J3.ok q5
end
def uJ (th:TH)(D:bX)(σ:St):XK:=λ c o H'=>∃ x C,c=.ref C/\o=some x/\th x C D σ H'
def uA (tb:XK->TS)(th:TH):TS:=λ D σ H=>tb (uJ th D σ) D σ H
theorem xu (hS:X.stack=X.env::X.outer)(hL:X.env.frame=some X.env.locals)
  (hb:∀(σ:St)(E:XK)(pn:List (Addr × Obj))(xe:fg),tM (cY X.prog X.w) (jQ X pn xe) σ E->KF (jQ X pn xe) σ st (tb E))(hh:DK X (h₀ :: hs) th):PS X (.Try [st] (h₀ :: hs) [] [] ô) (uA tb th):=by
 intro Ä s σ H D I h;refine wpAny_Try_except ?_;have px:=hb σ (uJ th D σ) (X.pn ++ Ä) (λ e Ď=>wpAny (model X.prog X.w) X.A (noteFrame e X.env) (λ _ Ż=>wpAny (model X.prog X.w) X.A (setFlight e none) (λ _ k_=>wpAny (model X.prog X.w) X.A (handleBy e X.env (h₀ :: hs)) (SP X Ä D) X.xe k_) X.xe Ż) X.xe Ď) ?_
 ·refine P0 (aV (px [] s H D (Inv.O8 I) h) λ f s1 q=>?_);cases f with
  | next=>exact ů (ů (SP.Ξ q))
  | ret v=>exact SP.Ξ q
  | brk=>exact SP.Ξ q
  | cont=>exact SP.Ξ q
 intro Nl H1 s1 ev s' I1 h1;obtain⟨x,C,dx,fs,H',rfl,os,bare,un,ċ,hx,NT,⟨t,T,oT,ts,e1,e2,_,e4,e5,e6,e7⟩,x',C',ec,eo,q⟩:=h1;cases ec;cases eo;have J:=Inv.Ξ (I1.Og os un ċ bare (λ b z=>absurd z (by simp)))
 have hA:X.A.frames=some (X.env::X.outer):=by rw [<- hS];exact J.ok.frames
 have hF:s'.heap.FunFrames X.base (X.env::X.outer):=by rw [<- hS];exact J.stack
 refine jR hA hF hL e1 rfl (.inr ⟨T,oT,ts,rfl,e2,e5,e6,e7⟩) λ h' T' l=>?_;refine l.Pu rfl (by show 1<6;decide) _ rfl λ h2 l2=>?_
 have J2:=Inv.left J hS hx ⟨_,rfl⟩ e1 l2;rw [pN hx] at J2;have RI:=l2.exc;obtain⟨Vl,UT,f1,f2,f3,f4⟩:=l2.TY;exact hh Ä _ σ H' D x C ⟨J2,⟨dx,fs,hx,NT⟩,some dx,t,T',Vl,UT,RI,f1,f2,f3⟩ q
end My
namespace My
open PySem L2
section
variable {X:Cx}
theorem kT {A:Around}:A.in1.units=A.units+1:=rfl
def pG (K:PySem.W.Frag):V->List V->Hp->VK->Prop:=λ x vs H Q=>∃ l xs y,x=.ref l/\vs=[y]/\ç K H l xs/\xs.all gS=true/\gS y=true/\Q (.int (xs.countP λ z=>pC z y:Nat)) H
theorem oE:HG X "list.count" (pG X.K):=by
 intro Ä s σ H x vs v us Q I rx rv h;obtain⟨l,xs,y,rfl,rfl,hl,f1,f2,q⟩:=h;cases rx;obtain⟨u,rfl,ru⟩:=fm rv;obtain⟨its,r,t,hz0⟩:=I.list hl;obtain⟨⟨c,dd,dt,sl⟩,h1,hc,n,hd⟩:=t.isList;replace hc:c=.type "list" := hc;replace hd:dt=.seq its.toArray n:=hd;subst hc hd;refine Ol F.slot_list_count ⟨_,h1,rfl⟩ F.entry_list_count (F.args_list_count_2 _ _) (SeqAt.list_countAt l its.toArray n dd sl u (λ z=>match BU z with | some a=>pC a y | none=>false)) ⟨h1,λ z hz=>?_,?_⟩
 ·obtain⟨i,hi,e⟩:=ü (show z∈its by simpa using hz)
  have k1:i<xs.length:=by rw [r.length];exact hi
  obtain⟨u1,e1,q1⟩:=r.get (Á k1);rw [Á hi,e] at e1;cases e1;rw [q1.abs];exact uR q1 ru (ú.mp f1 _ (č k1)) f2
 ·refine⟨.int _,H,I.tok _,⟨_,rfl⟩,?_⟩;have z:its.toArray.toList.countP (λ z=>match BU z with | some a=>pC a y | none=>false)=xs.countP λ z=>pC z y:=by
   clear h1 t hl f1 q hz0
   rw [List.toList_toArray]
   induction r with
   | nil=>rfl
   | cons q1 _ ih=>rw [ND,ND,ih,q1.abs]
  rw [z];exact q
end
end My
namespace My
open PySem PySem.W L2
open PyProof.Rows (Call_ boot_enumerate)
section
variable {X:Cx}{Ä:List (Addr × Obj)}{σ:St}{H:Hp}{s:Shared}{h':Heap}
theorem xA (I:Inv X Ä σ H s)(k:∀ b o,b≠i1->b≠i2->s.heap.get? b=some o->h'.get? b=some o)(F1:dL X Ä H i1)(F2:dL X Ä H i2):Inv X Ä σ H { s with heap:=h',toks:=t' }:=by
 obtain⟨n1,L1,_,a1,b1,c1⟩:=F1;obtain⟨n2,L2,_,a2,b2,c2⟩:=F2;have Xv:∀ b u,H b=some u->b≠i1:=λ b u e z=>by rw [z,n1] at e;cases e
 have Xu:∀ b u,H b=some u->b≠i2:=λ b u e z=>by rw [z,n2] at e;cases e
 refine I.step (ch:=[i1,i2]) (λ b hb=>?_) (λ b o _ _ hc e _=>k b o (λ z=>hc (by simp [z])) (λ z=>hc (by simp [z])) e) (λ b o _ _ hc e _=>⟨o.slots,k b o (λ z=>hc (by simp [z])) (λ z=>hc (by simp [z])) e⟩) (λ _ _ _ _ n=>n)
  (λ b o hc e=>⟨o,k b o (λ z=>hc (by simp [z])) (λ z=>hc (by simp [z])) e⟩) (λ _ _ e=>e) (λ _ _ _ e=>e) (λ b ps e=>⟨#[],by rw [e];simp⟩) (λ q=>q) (λ m hm=>?_) (λ b u e=>?_) I.bare
 ·have e:b=i1\/b=i2:=by simpa using hb
  rcases e with rfl | rfl
  ·exact⟨a1,L1,b1,c1⟩
  ·exact⟨a2,L2,b2,c2⟩
 ·obtain⟨o,es,ep,ho,r⟩:=hm;exact⟨o,es,ep,k _ o (Ne.symm L1) (Ne.symm L2) ho,r⟩
 ·refine(I.ċ b u e).l_ (λ c v hc q=>k c v ?_ ?_ q) (λ _ q=>q) λ _ _ q=>q
  ·rcases hc with z | z
   ·rw [z];exact Xv b u e
   ·exact Xv c _ z
  ·rcases hc with z | z
   ·rw [z];exact Xu b u e
   ·exact Xu c _ z
end
theorem NM {o:Obj}(d:o.data=.fields vs):o.isFreed=false:=by
 obtain⟨c,dd,dt,sl⟩:=o;cases d;rfl
def yi (K:Frag)(a:Addr):It :=
 ⟨λ i H=>∃ xs x,ç K H a xs/\xs[i]?=some x,λ i H x H'=>∃ p y,x=.ref p/\H p=none/\H'=ad H p (.tup [.int i,y])/\∀ xs,ç K H a xs->xs[i]?=some y,λ i H=>∃ xs,ç K H a xs/\xs.length<=i⟩
theorem rO {x1}(a e it:Addr)(ne:e≠it):nR P w K (.Tuple elts x1 ô) (yi K a) [e,it] e (λ i h=>(∃ old,IsEnum h e it i old)/\h.IsListIter it a i) where
 mem:=by simp
 obj:=λ i h st b hb=>by
  obtain⟨⟨old,h1⟩,o,h2,c,d⟩:=st;have e:b=e\/b=it:=by simpa using hb
  rcases e with rfl | rfl
  ·exact⟨_,h1,λ v z=>by cases z⟩
  ·exact⟨o,h2,λ v z=>by rw [d] at z;cases z⟩
 keep:=λ i h h' st k=>⟨⟨_,k e (by simp) _ st.1.choose_spec⟩,st.2.at λ o z=>k it (by simp) o z⟩
 item:=by
  intro X hP hw hK hc i Ä s σ H E I hf st hg;subst hP hw hK;obtain⟨xs,x,hq,hx⟩:=hg;obtain⟨its,rv,p,hz⟩:=I.list hq;obtain⟨u,hu,ru⟩:=rv.get hx;obtain⟨⟨old,he⟩,hi⟩:=st;have Fe:=hf e (by simp)
  have Fi:=hf it (by simp)
  refine wpAny_pyNext_enum_item he hi p.isList (by simpa using hu) ne λ h1 eo Wj ht V6 kk=>?_
  refine⟨_,rfl,wpAny_letOwnedTupleGo_enum eo λ h2 QW sb=>?_⟩;have N8:=sb;have ne2:=Ĳ (É he);have V4:=(N8.2 _ ne2).trans ht;obtain⟨oi,Up,ci,di⟩:=hi;obtain⟨Xr,Wa,ci1,YQ⟩:=id Wj;have S8:=(N8.2 _ (Ne.symm ne)).trans Wa
  let hA:Heap:=(s.heap.update e λ _=>{ cls:=.type "enumerate",dict:=none,data:=.fields #[.none,.bool false,.ref it,rawInt ((i:Int)+1),.none,u],slots:=#[] }).update it λ _=>Xr
  have IA:Inv X Ä σ H { s with heap:=hA,toks:=s.toks }:=xA I (λ b o z1 z2 q=>by
   rw [ß _ _ _ _ z2,ß _ _ _ _ z1];exact q) Fe Fi
  have UX:hA.objs.size=s.heap.objs.size:=by
   rw [J',J']
  refine⟨.ref s.heap.objs.size,ad H s.heap.objs.size (.tup [.int i,x]),?_,rfl,⟨_,x,rfl,I.ċ.fresh (Ê _),rfl,λ ys hy=>by rw [I.d_ hy hq];exact hx⟩,⟨⟨u,QW⟩,Xr,S8,ci1,YQ⟩,λ b hb=>?_⟩
  ·refine IA.laid (λ b v q=>?_) (Ο UX) ?_
   ·have q':=q;by_cases z2:b=it
    ·subst z2;have hg:(s.heap.update e λ _=>{ cls:=.type "enumerate",dict:=none,data:=.fields #[.none,.bool false,.ref b,rawInt ((i:Int)+1),.none,u],slots:=#[] }).get? b=some oi:=by
      rw [ß _ _ _ _ (Ne.symm ne)];exact Up
     rw [þ _ hg (NM YQ)] at q';cases q';exact S8
    ·rw [ß _ _ _ _ z2] at q';by_cases z1:b=e
     ·subst z1;rw [þ _ he rfl] at q';cases q';exact QW
     ·rw [ß _ _ _ _ z1] at q';exact(N8.2 b z1).trans (kk b v z1 z2 q')
   ·exact⟨cL,[.int i s.toks,u],.cons ⟨_,rfl⟩ (.cons ru .nil),⟨_,V4,rfl,_,rfl⟩⟩
  ·have nb:b≠s.heap.objs.size:=by
    have e':b=e\/b=it:=by simpa using hb
    rcases e' with rfl | rfl
    ·exact Ó (É he)
    ·exact Ó (É Up)
   rw [af nb];exact(hf b hb).1
 done:=by
  intro X hP hw hK hc i Ä s σ H E I hf st hg;subst hP hw hK;obtain⟨xs,hq,hx⟩:=hg;obtain⟨its,rv,p,hz⟩:=I.list hq;obtain⟨⟨old,he⟩,hi⟩:=st;obtain⟨f0,f1,f2,f3,f4,f5⟩:=hf it (by simp)
  have hl:=rv.length;exact wpAny_pyNext_enum_end (I.ok.hd hc) he hi p.isList (by simp;omega) λ h' eb=>⟨rfl,I.turned (λ b o hb e=>eb b o hb e) f0 f1 f3 f4 f5⟩
 self:=λ _ _ _ _ _ st h=>n_ st.1.choose_spec h
section
variable {X:Cx}
def lK (K:Frag)(ta:TA):TI:=λ σ H R=>ta σ H λ vs H1=>∃ a,vs=[.ref a]/\(∃ xs,ç K H1 a xs)/\R (yi K a) H1
theorem fJ {x1}(hg:Gl X "enumerate")(hm:X.mg "enumerate" = none)(ha:PA X [a] ta)(hs:starEach [a] X.env=[(false,eval a X.env)]:=by rfl):PI X (.Tuple elts x1 pt) (.Call (.Name "enumerate" p) [a] [] ô) (lK X.K ta):=by
 intro Ä s σ H R I h;refine Call_ (gC I hg hm boot_enumerate (ğ (aV (ha ô Ä s σ H _ I h) λ us s1 ⟨vs,H1,I1,r1,q1⟩=>?_) hs rfl));obtain⟨l,rfl,⟨xs,hq⟩,q⟩:=q1;cases r1 with
 | cons r rr =>
  cases rr;cases r;obtain⟨its,rv,p',hz⟩:=I1.list hq;refine call_enumerate_list p'.isList λ h' he hi hsz kk=>?_;refine n_ he ?_;refine⟨s1.heap.objs.size+1,[s1.heap.objs.size+1,s1.heap.objs.size],_,_,H1,rfl,I1.kept kk,rO l _ _ (Nat.succ_ne_self _),⟨⟨_,he⟩,hi⟩,λ b hb=>?_,q⟩;have e:b=s1.heap.objs.size+1\/b=s1.heap.objs.size:=by simpa using hb
  have le:s1.heap.objs.size<=b:=by
   rcases e with rfl | rfl
   ·exact Β _
   ·exact Ê _
  exact I1.NV le (I1.ċ.fresh le)
end
theorem fE {g:TG}{tb:TS}{D:bX}(Pv:Nat->St->Hp->Prop)(h0:Pv 0 σ H)(hl:∀ i σ H,i<=xs.length->Pv i σ H->ç K H a xs)
  (hs:∀ i x σ H p,xs[i]?=some x->Pv i σ H->H p=none->g (.ref p) σ (ad H p (.tup [.int i,x])) λ Ĵ H2=>tb { D with nx:=Pv (i+1),ct:=Pv (i+1),bk:=D.nx } Ĵ H2)(hd:∀ σ H,Pv xs.length σ H->D.nx σ H) :
  ∃ W:Nat->Nat->St->Hp->Prop,(∃ m,W 0 m σ H)/\∀ i m σ H,W i m σ H ->
   ((yi K a).stop i H/\D.nx σ H)\/((yi K a).go i H/\∃ N:St->Hp->Prop,(∀ ĝ H',N ĝ H'->∃ m',m'<m/\W (i+1) m' ĝ H')/\∀ x H',(yi K a).MJ i H x H'->g x σ H' λ Ĵ H2=>tb { D with nx:=N,ct:=N,bk:=D.nx } Ĵ H2):=by
 refine⟨λ i m σ H=>m=xs.length-i/\i<=xs.length/\Pv i σ H,⟨xs.length,by simp,Nat.zero_le _,h0⟩,?_⟩
 rintro i m σ H ⟨rfl,hi,p⟩;have q:=hl i σ H hi p;by_cases ŵ:i<xs.length
 ·refine .inr ⟨⟨xs,xs[i],q,Á ŵ⟩,Pv (i+1),λ ĝ H' n=>⟨xs.length-(i+1),ai,rfl,ŵ,n⟩,?_⟩;rintro x H' ⟨p',y,rfl,hp,rfl,hy⟩;exact hs i y σ H p' (hy xs q) p hp
 ·have e:i=xs.length:=ai;subst e;exact .inl ⟨⟨xs,q,Ê _⟩,hd σ H p⟩
end My
namespace My
open PySem L2
section
variable {prog:Program}{w:World}{A:Around}{R:Result->Shared->Prop}{s:Shared}
theorem i5 (J:Nat->Shared->Prop)
  (turn:∀ n s,J n s->wpAny (model prog w) A (pyNext it) (λ r Ď=>match r with
   | none=>R (.ok .next) Ď
   | some v=>wpAny (model prog w) A (letOwnedTupleGo target it v) (λ _ Ż=>wpAny (model prog w) A (assign target env v) (λ _ k_=>wpAny (model prog w) A (eval elt env)
     (λ x Nk=>wpAny (model prog w) A (call (.builtin "list.append") [acc,x]) (λ _ Nj=>∃ m,m<n/\J m Nj) (λ _ _=>False) Nk) (λ _ _=>False) k_) (λ _ _=>False) Ż) (λ _ _=>False) Ď) (λ _ _=>False) s)
  (n:Nat)(h:J n s):codeAny (model prog w) A (.compLoop (.ListComp elt [⟨target,iter,[],0⟩] scope ô) 0 it acc env) R s:=by
 refine codeAny_loop rfl J (λ n s hJ=>?_) n h;refine wpAny_noted ?_;rw [compTurn_list1];refine À (Į (À (ñ (turn n s hJ) (λ r Ď Ś=>?_) λ _ _ z=>z.elim)));cases r with
 | none=>exact Æ Ś
 | some v =>
  refine À (ñ Ś (λ _ Ż M0=>?_) λ _ _ z=>z.elim);refine À (ñ M0 (λ _ k_ NQ=>?_) λ _ _ z=>z.elim);refine À (À (ñ NQ (λ x Nk Pi=>?_) λ _ _ z=>z.elim));refine À (ñ Pi (λ _ Nj Ph=>Æ (Æ ⟨rfl,Ph⟩)) λ _ _ z=>z.elim)
end
def bI (X:Cx)(sc:Scope)(cl:List (Str × Addr))(N:List Str)(s:Shared)(H:Hp)(C:Addr)(fp:List Addr):Cx where
 prog:=X.prog
 w:=X.w
 K:=X.K
 mg:=X.mg
 base:=X.base
 A:=X.A
 N:=N
 Ŗ:=s
 OE:=H
 env:=compEnvC sc cl C X.env
 outer:=X.stack
 stack:=X.stack
 ex:=fp
 fn:=λ _=>false
 calm:=X.calm
 pn:=[]
 xe:=λ _ _=>False
def cV (js:List Nat)(σ:St):St:=js.map λ j=>(σ[j]?).join
section
variable {prog:Program}{w:World}{A:Around}{R:Result->Shared->Prop}{s:Shared}
theorem pQ (J:Nat->Shared->Prop)
  (turn:∀ n s,J n s->wpAny (model prog w) A (pyNext it) (λ r Ď=>match r with
   | none=>R (.ok .next) Ď
   | some v=>wpAny (model prog w) A (letOwnedTupleGo target it v) (λ _ Ż=>wpAny (model prog w) A (assign target env v) (λ _ k_=>wpAny (model prog w) A (isTrue c env (eval c env)) (λ k Ŗ =>
     (k=false->∃ m,m<n/\J m Ŗ)/\(k=true->wpAny (model prog w) A (eval elt env)
     (λ x Nk=>wpAny (model prog w) A (call (.builtin "list.append") [acc,x]) (λ _ Nj=>∃ m,m<n/\J m Nj) (λ _ _=>False) Nk) (λ _ _=>False) Ŗ)) (λ _ _=>False) k_) (λ _ _=>False) Ż) (λ _ _=>False) Ď) (λ _ _=>False) s)
  (n:Nat)(h:J n s):codeAny (model prog w) A (.compLoop (.ListComp elt [⟨target,iter,[c],0⟩] scope ô) 0 it acc env) R s:=by
 refine codeAny_loop rfl J (λ n s hJ=>?_) n h;refine wpAny_noted ?_;rw [compTurn_list];refine À (Į (À (ñ (turn n s hJ) (λ r Ď Ś=>?_) λ _ _ z=>z.elim)));cases r with
 | none=>exact Æ Ś
 | some v =>
  refine À (ñ Ś (λ _ Ż M0=>?_) λ _ _ z=>z.elim);refine À (ñ M0 (λ _ k_ NQ=>?_) λ _ _ z=>z.elim);refine À (wpAny_tests_one (ñ NQ (λ k Ŗ h₀=>?_) λ _ _ z=>z.elim));cases k with
  | false=>exact Æ ⟨rfl,h₀.1 rfl⟩
  | true =>
   refine À (À (ñ (h₀.2 rfl) (λ x Nk Pi=>?_) λ _ _ z=>z.elim));refine À (ñ Pi (λ _ Nj Ph=>Æ (Æ ⟨rfl,Ph⟩)) λ _ _ z=>z.elim)
end
structure bu (X:Cx)(sc:Scope)(cl:List (Str × Addr))(ts zs:List Str)(js:List Nat):Prop where
 f_:closureFor sc X.env=pure cl
 kind:sc.kind=.function
 MW:∀ y∈sc.names,y.2 ≠ .cell
 names:∀ y∈sc.names,y.2=.local->sc.names.lookup y.1=some .local
 var:∀ x∈ts,sc.names.lookup x=some .local
 sub:∀ z c,cl.lookup z=some c->X.env.cells.lookup z=some c
 has:∀ z,((relabel sc X.env).names.lookup z=some .cell\/(relabel sc X.env).names.lookup z=some .free)->∃ c,cl.lookup z=some c
 nd:(ts++zs).Nodup
 cap:∀(k:Nat)(z:Str),zs[k]?=some z->∃ j:Nat,js[k]?=some j/\X.N[j]?=some z/\yy X.env.scope z/\X.env.kindOf z≠some .local /\
  ((relabel sc X.env).names.lookup z=some .cell\/(relabel sc X.env).names.lookup z=some .free)
 len:js.length=zs.length
def dW (wi:TI)(k:Nat)(js:List Nat)(g:TG)(te:TE):TE:=λ σ H Q=>wi σ H λ J H1=>∀ D,H1 D=none->∃ W:Nat->Nat->List V->Hp->Prop,(∃ m,W 0 m [] (ad H1 D (.lst []))) /\
 ∀ i m ys H2,W i m ys H2->H2 D=some (.lst ys)/\((J.stop i H2/\Q (.ref D) H2)\/(J.go i H2/\ys.length<sizeLine /\
  ∀ x H3,J.MJ i H2 x H3->∀ os:St,os.length=k->g x (os++cV js σ) H3 λ Ĵ H0=>(∃ ō:St,ō.length=k/\Ĵ = ō ++ cV js σ)/\te Ĵ H0 λ y H4=>H4 D=some (.lst ys)/\∃ m',m'<m/\W (i+1) m' (ys ++ [y]) (ad H4 D (.lst (ys ++ [y])))))
def jH (wi:TI)(k:Nat)(js:List Nat)(g:TG)(tt:TT)(te:TE):TE:=λ σ H Q=>wi σ H λ J H1=>∀ D,H1 D=none->∃ W:Nat->Nat->List V->Hp->Prop,(∃ m,W 0 m [] (ad H1 D (.lst []))) /\
 ∀ i m ys H2,W i m ys H2->H2 D=some (.lst ys)/\((J.stop i H2/\Q (.ref D) H2)\/(J.go i H2/\ys.length<sizeLine /\
  ∀ x H3,J.MJ i H2 x H3->∀ os:St,os.length=k->g x (os++cV js σ) H3 λ Ĵ H0=>(∃ ō:St,ō.length=k/\Ĵ = ō ++ cV js σ)/\tt Ĵ H0 λ b H5=>(b=false->∃ m',m'<m/\W (i+1) m' ys H5) /\
   (b=true->te Ĵ H5 λ y H4=>H4 D=some (.lst ys)/\∃ m',m'<m/\W (i+1) m' (ys ++ [y]) (ad H4 D (.lst (ys ++ [y]))))))
section
variable {X:Cx}{Ä:List (Addr × Obj)}{σ:St}{H:Hp}{s:Shared}{sc:Scope}{cl:List (Str × Addr)}{ts zs:List Str}{js:List Nat}{C:Addr}{fp:List Addr}
theorem sZ (I:Inv X Ä σ H s)(S:bu X sc cl ts zs js)(hf:∀ b∈fp,dL X Ä H b/\b<s.heap.objs.size)(hC:s.heap.objs.size<=C):(bI X sc cl (ts++zs) s H C fp).Ok:=by
 refine⟨I.ok.mod,S.kind,I.ok.glob,I.ok.blt,hC,λ y z c h1 h2=>I.ok.inj y z c (S.sub _ _ h1) (S.sub _ _ h2),λ z h=>S.has z h,(λ _ _ h=>nomatch h),I.ok.hd,I.ok.frames,.inl rfl,λ b hb=>?_,I.bs,?_,λ b o e hb=>?_,λ b hb hs=>?_,I.stack,I.F'⟩
 ·obtain⟨⟨_,h1,_,_,h4,_⟩,h6⟩:=hf b hb;exact⟨λ e=>absurd h6 (ş.mpr (by rw [show b=C from e];exact hC)),λ z c e=>h4 z c (S.sub _ _ e)⟩
 ·exact õ I.ok.Oh I.sz
 ·obtain⟨⟨_,_,_,h3,_⟩,_⟩:=hf b hb;rcases h3 with h | h
  ·exact I.ok.MV b o e h
  ·exact absurd (É e) (ş.mpr (õ I.ok.Oh h))
 ·obtain⟨⟨_,h1,h2,_⟩,_⟩:=hf b hb;rcases ë.mp (I.ż b hs) with e | e
  ·exact h1 e
  ·exact h2 e
theorem fq (I:Inv X Ä σ H s)(S:bu X sc cl ts zs js)(hf:∀ b∈fp,dL X Ä H b/\b<s.heap.objs.size)(hC:s.heap.objs.size<=C)(ho:s1.os=s.os)(hg:s1.gens=s.gens)
  (hk:∀ b o,s.heap.get? b=some o->s1.heap.get? b=some o)(hn:s1.heap.Ns C m):Inv (bI X sc cl (ts++zs) s H C fp) [] (List.replicate ts.length none++cV js σ) H s1:=by
 refine⟨sZ I S hf hC,ho,by rw [hg];exact I.bare,Un.kept hk,⟨m,hn,λ i y v h1 h2 h3=>?_⟩,λ z c e=>?_,I.ċ.fresh hC,λ z c e=>I.Ť z c (S.sub _ _ e),λ p hp=>absurd (show p∈([]:List (Addr × Obj)) from hp) (by simp),I.ċ.kept hk,?_⟩
 ·rcases Č i ts.length with lt | ge
  ·rw [é (by rw [æ];exact lt),c_,Ø lt] at h2
   cases h2
  ·have h1':zs[i-ts.length]?=some y:=by
    have Ps:(ts++zs)[i]?=some y:=h1;rw [Ý ge] at Ps;exact Ps
   obtain⟨j,hj,hN,hv,nl,k'⟩:=S.cap _ y h1';have RF:(cV js σ)[i-ts.length]?=some (some v):=by
    rw [Ý (by rw [æ];exact ge),æ] at h2
    exact h2
   have h5:σ[j]?=some (some v):=by
    unfold cV at RF;rw [Ç,hj] at RF;have h6:(σ[j]?).join=some v:=Õ RF;cases e:σ[j]? with
    | none=>rw [e] at h6;cases h6
    | some o=>rw [e] at h6;exact ġ some h6
   obtain⟨m0,hn0,hl⟩:=I.loc;obtain⟨u,ru,lk⟩:=hl j y v hN h5 hv;refine⟨u,ru,?_⟩;rcases lk with⟨k1,_⟩ | ⟨_,c,ec,hc⟩
   ·exact absurd k1 nl
   ·obtain⟨c',Tn⟩:=S.has y k';have e2:=S.sub _ _ Tn;rw [ec] at e2;cases e2;exact .inr ⟨k',c,Tn,hc.keeps hk⟩
 ·obtain⟨v,hv⟩:=I.cell z c (S.sub _ _ e);exact⟨v,hv.keeps hk⟩
 ·show(List.replicate ts.length none++cV js σ:St).length=(ts++zs).length;unfold cV;rw [Í,Í,Â,æ,S.len]
theorem gI (I:Inv X Ä σ H s)(hf:∀ b∈fp,dL X Ä H b/\b<s.heap.objs.size)(hC:s.heap.objs.size<=C)(J:Inv (bI X sc cl (ts++zs) s H C fp) [] ĝ H' s1)
  (hs:Heap.SameBut C s1.heap h'):Inv X Ä σ H' { s1 with heap:=h' }:=by
 have old:∀ b o,s1.heap.get? b=some o->b≠C->h'.get? b=some o:=λ b o e n=>(hs.2 b n).trans e;have lt:∀{b o},s.heap.get? b=some o->b≠C:=λ {b o} e z=>by
  have q:=É e;rw [z] at q;exact absurd q (ş.mpr hC)
 have B:=J.base;refine I.Og J.os ⟨λ b o e n hb hx=>old b o (B.keep b o e n hb hx) (lt e),λ b o e n hb hx=>?_,B.free,λ b o e hx=>?_,B.K',B.D_,B.K_,B.sys⟩ (λ b o e=>?_) J.bare λ b hb=>?_
 ·obtain⟨sl,q⟩:=B.slot b o e n hb hx;exact⟨sl,old _ _ q (lt e)⟩
 ·obtain⟨o',q⟩:=B.there b o e hx;exact⟨o',old _ _ q (lt e)⟩
 ·have nC:∀ c u,H' c=some u->c≠C:=λ c u q z=>by
   have f:H' C=none:=J.free;rw [z,f] at q;cases q
  refine(J.ċ b o e).l_ (λ c v hc q=>old c v q ?_) (λ _ q=>q) λ _ _ q=>q;rcases hc with rfl | hc
  ·exact nC _ _ e
  ·exact nC _ _ hc
 ·obtain⟨⟨_,h1,_,h3,h4,h5⟩,_⟩:=hf b hb;exact⟨h3,h1,h4,h5⟩
end
section
variable {X:Cx}{sc:Scope}{cl:List (Str × Addr)}{ts zs:List Str}{js:List Nat}{elt iter:Expr}{ô:Pos}{tg:Expr}{g:TG}{wi:TI}{te:TE}
theorem cu (hc:X.calm=true)(S:bu X sc cl ts zs js)(hi:PI X tg iter wi)(hg:∀ s H C fp,PG (bI X sc cl (ts++zs) s H C fp) tg g)(he:∀ s H C fp,PE (bI X sc cl (ts++zs) s H C fp) elt te)
  (hs:∀ v,foldedSetIterable iter X.env v=pure v:=by intro _;rfl):PE X (.ListComp elt [⟨tg,iter,[],0⟩] sc ô) (dW wi ts.length js g te):=by
 intro Ä s σ H Q I h;rw [eval_ListComp];refine ľ (use:=none) rfl hs S.f_ S.kind S.names (aV (hi Ä s σ H _ I h) λ v s1 h1=>aV h1 λ Rq s2 h2=>?_);obtain⟨it,fp,tn,J,H2,e,I2,T,Mw,f2,body⟩:=h2;subst e;have Qi:H2 s2.heap.objs.size=none:=I2.fresh;obtain⟨W,⟨m0,w0⟩,turn⟩:=body _ Qi;refine ý ?_;have I3:Inv X Ä σ (ad H2 s2.heap.objs.size (.lst [])) { s2 with heap:=s2.heap.push { cls:=.type "list",data:=.seq ([]:List Value).toArray } }:=I2.P' (t':=s2.toks) (ys:=[]) (its:=[]) .nil (ı _)
 refine Υ S.MW (by intro y hy;simp at hy) (λ Ś hn Od=>?_) S.kind
 generalize M3:({ s2 with heap:=s2.heap.push { cls:=.type "list",data:=.seq ([]:List Value).toArray } }:Shared)=s3 at I3 hn Od ⊢
 have F_:∀ b∈fp,dL X Ä (ad H2 s2.heap.objs.size (.lst [])) b/\b<s3.heap.objs.size:=λ b hb=>by
  obtain⟨o,ho,_⟩:=T.obj _ _ Mw b hb;have hl:=É ho;have Qc:b≠s2.heap.objs.size:=Ó hl;obtain⟨z1,z2⟩:=f2 b hb;refine⟨⟨by rw [af Qc];exact z1,z2⟩,?_⟩
  rw [<- M3];show b<(s2.heap.push _).objs.size;rw [û];exact Ē hl
 have old:∀ b o,s3.heap.get? b=some o->Ś.get? b=some o:=λ b o e=>Od.extBut b o (Ó (É e)) (Ã _ e);have loop:∀ sS:Shared,sS.heap = Ś->sS.os=s3.os->sS.gens=s3.gens->codeAny (model X.prog X.w) X.A (.compLoop (.ListComp elt [⟨tg,iter,[],0⟩] sc ô) 0 (.ref it) (.ref s2.heap.objs.size) (compEnvC sc cl s3.heap.objs.size X.env))
   (compPost (model X.prog X.w) X.A X.xe none (EP X Ä σ Q) (.ref s2.heap.objs.size) s3.heap.objs.size) sS:=by
  intro sS eh eo eg;subst eh;have J0:Inv (bI X sc cl (ts++zs) s3 (ad H2 s2.heap.objs.size (.lst [])) s3.heap.objs.size fp) [] (List.replicate ts.length none++cV js σ) (ad H2 s2.heap.objs.size (.lst [])) sS:=fq I3 S F_ (Ê _) eo eg old hn;generalize hX:bI X sc cl (ts++zs) s3 (ad H2 s2.heap.objs.size (.lst [])) s3.heap.objs.size fp=X' at J0;have Ŭ:∀{H':Hp},(∀ b∈fp,H' b=none)->∀ b∈fp,dL X' [] H' b:=λ {H'} hn b hb=>by
   subst hX;obtain⟨⟨_,z1,z2,z3,z4,z5⟩,z6⟩:=F_ b hb;refine⟨hn b hb,Ó z6,λ q=>?_,.inl hb,λ y c e=>z4 y c (S.sub _ _ e),λ p hp=>absurd (show p∈([]:List (Addr × Obj)) from hp) (by simp)⟩
   rcases ë.mp (I3.ż b q) with e | e
   ·exact z1 e
   ·exact z2 e
  have OJ:=T.keep _ _ _ Mw λ b hb o e=>old b o (by rw [<- M3];exact Ã _ e)
  refine i5 (λ n s'=>∃ i ys os H',os.length=ts.length/\Inv X' [] (os++cV js σ) H' s'/\tn i s'.heap/\(∀ b∈fp,H' b=none)/\W i n ys H') ?_ m0 ⟨0,[],_,_,æ,J0,OJ,λ b hb=>(F_ b hb).1.1,w0⟩;rintro n s' ⟨i,ys,os,H',ŀ,Iv,st,fr,w⟩;obtain⟨hD,alt⟩:=turn i n ys H' w;have eP:X'.prog=X.prog:=by subst hX;rfl
  have eW:X'.w=X.w:=by subst hX;rfl
  have eK:X'.K=X.K:=by subst hX;rfl
  have eC:X'.calm=true:=by subst hX;exact hc
  have eA:X'.A=X.A:=by subst hX;rfl
  have eE:X'.env=compEnvC sc cl s3.heap.objs.size X.env:=by subst hX;rfl
  have eX:X'.xe = λ _ _=>False:=by subst hX;rfl
  rcases alt with⟨stop,q⟩ | ⟨go,Ń,step⟩
  ·have d:=T.done X' eP eW eK eC i [] s' _ H' (λ _ _=>False) Iv (Ŭ fr) st stop;rw [eA] at d;refine aV d λ r s4 ⟨hr,I4⟩=>?_;subst hr;obtain⟨m,hm,_⟩:=id I4.loc;rw [eE] at hm;subst hX;exact⟨m,hm,λ h' Pj=>⟨.ref s2.heap.objs.size,H',gI I3 F_ (Ê _) I4 Pj,rfl,q⟩⟩
  ·have d:=T.item X' eP eW eK eC i [] s' _ H' (λ _ _=>False) Iv (Ŭ fr) st go;rw [eA] at d;refine aV d λ r s4 ⟨u,hr,h4⟩=>?_;subst hr;refine aV h4 λ _ s5 ⟨y,H5,I5,r5,y5,z_,Pt⟩=>?_;have Pz:=I5.pinned (Ŭ Pt) (T.obj _ _ z_);have Qe:PG X' tg g:=by subst hX;exact hg _ _ _ _
   have g6:=Qe _ s5 _ H5 y u _ Pz r5 (step y H5 y5 os ŀ);rw [eP,eW,eA,eE,eX] at g6;refine aV g6 λ _ s6 ⟨RQ,H6,I6,⟨ō,MD,e6⟩,P5⟩=>?_;subst e6;have PM:PE X' elt te:=by subst hX;exact he _ _ _ _
   have g7:=PM _ s6 _ H6 _ I6 P5;rw [eP,eW,eA,eE,eX] at g7;refine aV g7 λ uv s7 ⟨v7,H7,I7,r7,RD,m',Nb,w7⟩=>?_;have g8:=(bH) _ s7 _ H7 (.ref s2.heap.objs.size) [v7] (.ref s2.heap.objs.size) [uv] (λ _ H8=>H8=ad H7 s2.heap.objs.size (.lst (ys ++ [v7]))) I7 rfl (.cons r7 .nil) ⟨_,ys,v7,rfl,rfl,RD,Ń,rfl⟩;rw [eP,eW,eA,eX] at g8;refine aV g8 λ _ s8 ⟨_,H8,I8,_,e8⟩=>?_;subst e8;refine⟨m',Nb,i+1,ys ++ [v7],ō,_,MD,I8.ő,T.keep _ _ _ z_ λ b hb o e=>(I8.pin (b,o) (Î _ (Î _ (bp hb e)))).1,λ b hb=>?_,w7⟩;obtain⟨o',e',_⟩:=T.obj _ _ z_ b hb;exact(I8.pin (b,o') (Î _ (Î _ (bp hb e')))).2.1
 have N7:=T.keep _ _ _ Mw λ b hb o e=>old b o (by rw [<- M3];exact Ã _ e)
 exact Α (loop _ rfl rfl rfl) (T.self _ 0 _ _ _ N7 (loop _ rfl rfl rfl))
end
section
variable {X:Cx}{sc:Scope}{cl:List (Str × Addr)}{ts zs:List Str}{js:List Nat}{elt iter c:Expr}{ô:Pos}{tg:Expr}{g:TG}{wi:TI}{te:TE}{tt:TT}
theorem iu (hc:X.calm=true)(S:bu X sc cl ts zs js)(hi:PI X tg iter wi)(hg:∀ s H C fp,PG (bI X sc cl (ts++zs) s H C fp) tg g)(ht:∀ s H C fp,PT (bI X sc cl (ts++zs) s H C fp) c tt)(he:∀ s H C fp,PE (bI X sc cl (ts++zs) s H C fp) elt te)
  (hs:∀ v,foldedSetIterable iter X.env v=pure v:=by intro _;rfl):PE X (.ListComp elt [⟨tg,iter,[c],0⟩] sc ô) (jH wi ts.length js g tt te):=by
 intro Ä s σ H Q I h;rw [eval_ListComp];refine ľ (use:=none) rfl hs S.f_ S.kind S.names (aV (hi Ä s σ H _ I h) λ v s1 h1=>aV h1 λ Rq s2 h2=>?_);obtain⟨it,fp,tn,J,H2,e,I2,T,Mw,f2,body⟩:=h2;subst e;have Qi:H2 s2.heap.objs.size=none:=I2.fresh;obtain⟨W,⟨m0,w0⟩,turn⟩:=body _ Qi;refine ý ?_;have I3:Inv X Ä σ (ad H2 s2.heap.objs.size (.lst [])) { s2 with heap:=s2.heap.push { cls:=.type "list",data:=.seq ([]:List Value).toArray } }:=I2.P' (t':=s2.toks) (ys:=[]) (its:=[]) .nil (ı _)
 refine Υ S.MW (by intro y hy;simp at hy) (λ Ś hn Od=>?_) S.kind
 generalize M3:({ s2 with heap:=s2.heap.push { cls:=.type "list",data:=.seq ([]:List Value).toArray } }:Shared)=s3 at I3 hn Od ⊢
 have F_:∀ b∈fp,dL X Ä (ad H2 s2.heap.objs.size (.lst [])) b/\b<s3.heap.objs.size:=λ b hb=>by
  obtain⟨o,ho,_⟩:=T.obj _ _ Mw b hb;have hl:=É ho;have Qc:b≠s2.heap.objs.size:=Ó hl;obtain⟨z1,z2⟩:=f2 b hb;refine⟨⟨by rw [af Qc];exact z1,z2⟩,?_⟩
  rw [<- M3];show b<(s2.heap.push _).objs.size;rw [û];exact Ē hl
 have old:∀ b o,s3.heap.get? b=some o->Ś.get? b=some o:=λ b o e=>Od.extBut b o (Ó (É e)) (Ã _ e);have loop:∀ sS:Shared,sS.heap = Ś->sS.os=s3.os->sS.gens=s3.gens->codeAny (model X.prog X.w) X.A (.compLoop (.ListComp elt [⟨tg,iter,[c],0⟩] sc ô) 0 (.ref it) (.ref s2.heap.objs.size) (compEnvC sc cl s3.heap.objs.size X.env))
   (compPost (model X.prog X.w) X.A X.xe none (EP X Ä σ Q) (.ref s2.heap.objs.size) s3.heap.objs.size) sS:=by
  intro sS eh eo eg;subst eh;have J0:Inv (bI X sc cl (ts++zs) s3 (ad H2 s2.heap.objs.size (.lst [])) s3.heap.objs.size fp) [] (List.replicate ts.length none++cV js σ) (ad H2 s2.heap.objs.size (.lst [])) sS:=fq I3 S F_ (Ê _) eo eg old hn;generalize hX:bI X sc cl (ts++zs) s3 (ad H2 s2.heap.objs.size (.lst [])) s3.heap.objs.size fp=X' at J0;have Ŭ:∀{H':Hp},(∀ b∈fp,H' b=none)->∀ b∈fp,dL X' [] H' b:=λ {H'} hn b hb=>by
   subst hX;obtain⟨⟨_,z1,z2,z3,z4,z5⟩,z6⟩:=F_ b hb;refine⟨hn b hb,Ó z6,λ q=>?_,.inl hb,λ y c e=>z4 y c (S.sub _ _ e),λ p hp=>absurd (show p∈([]:List (Addr × Obj)) from hp) (by simp)⟩
   rcases ë.mp (I3.ż b q) with e | e
   ·exact z1 e
   ·exact z2 e
  have OJ:=T.keep _ _ _ Mw λ b hb o e=>old b o (by rw [<- M3];exact Ã _ e)
  refine pQ (λ n s'=>∃ i ys os H',os.length=ts.length/\Inv X' [] (os++cV js σ) H' s'/\tn i s'.heap/\(∀ b∈fp,H' b=none)/\W i n ys H') ?_ m0 ⟨0,[],_,_,æ,J0,OJ,λ b hb=>(F_ b hb).1.1,w0⟩;rintro n s' ⟨i,ys,os,H',ŀ,Iv,st,fr,w⟩;obtain⟨hD,alt⟩:=turn i n ys H' w;have eP:X'.prog=X.prog:=by subst hX;rfl
  have eW:X'.w=X.w:=by subst hX;rfl
  have eK:X'.K=X.K:=by subst hX;rfl
  have eC:X'.calm=true:=by subst hX;exact hc
  have eA:X'.A=X.A:=by subst hX;rfl
  have eE:X'.env=compEnvC sc cl s3.heap.objs.size X.env:=by subst hX;rfl
  have eX:X'.xe = λ _ _=>False:=by subst hX;rfl
  rcases alt with⟨stop,q⟩ | ⟨go,Ń,step⟩
  ·have d:=T.done X' eP eW eK eC i [] s' _ H' (λ _ _=>False) Iv (Ŭ fr) st stop;rw [eA] at d;refine aV d λ r s4 ⟨hr,I4⟩=>?_;subst hr;obtain⟨m,hm,_⟩:=id I4.loc;rw [eE] at hm;subst hX;exact⟨m,hm,λ h' Pj=>⟨.ref s2.heap.objs.size,H',gI I3 F_ (Ê _) I4 Pj,rfl,q⟩⟩
  ·have d:=T.item X' eP eW eK eC i [] s' _ H' (λ _ _=>False) Iv (Ŭ fr) st go;rw [eA] at d;refine aV d λ r s4 ⟨u,hr,h4⟩=>?_;subst hr;refine aV h4 λ _ s5 ⟨y,H5,I5,r5,y5,z_,Pt⟩=>?_;have Pz:=I5.pinned (Ŭ Pt) (T.obj _ _ z_);have Qe:PG X' tg g:=by subst hX;exact hg _ _ _ _
   have g6:=Qe _ s5 _ H5 y u _ Pz r5 (step y H5 y5 os ŀ);rw [eP,eW,eA,eE,eX] at g6;refine aV g6 λ _ s6 ⟨RQ,H6,I6,⟨ō,MD,e6⟩,P5⟩=>?_;subst e6;have QS:PT X' c tt:=by subst hX;exact ht _ _ _ _
   have g0:=QS _ s6 _ H6 _ I6 P5;rw [eP,eW,eA,eE,eX] at g0;refine aV g0 λ k sk ⟨Hk,Ik,qk⟩=>?_;cases k with
   | false =>
    obtain⟨m',Nb,w7⟩:=qk.1 rfl;refine⟨λ _=>?_,λ z=>nomatch z⟩;refine⟨m',Nb,i+1,ys,ō,_,MD,Ik.ő,T.keep _ _ _ z_ λ b hb o e=>(Ik.pin (b,o) (Î _ (Î _ (bp hb e)))).1,λ b hb=>?_,w7⟩;obtain⟨o',e',_⟩:=T.obj _ _ z_ b hb;exact(Ik.pin (b,o') (Î _ (Î _ (bp hb e')))).2.1
   | true =>
   refine⟨λ z=>(nomatch z),λ _=>?_⟩;have PM:PE X' elt te:=by subst hX;exact he _ _ _ _
   have g7:=PM _ sk _ Hk _ Ik (qk.2 rfl);rw [eP,eW,eA,eE,eX] at g7;refine aV g7 λ uv s7 ⟨v7,H7,I7,r7,RD,m',Nb,w7⟩=>?_;have g8:=(bH) _ s7 _ H7 (.ref s2.heap.objs.size) [v7] (.ref s2.heap.objs.size) [uv] (λ _ H8=>H8=ad H7 s2.heap.objs.size (.lst (ys ++ [v7]))) I7 rfl (.cons r7 .nil) ⟨_,ys,v7,rfl,rfl,RD,Ń,rfl⟩;rw [eP,eW,eA,eX] at g8;refine aV g8 λ _ s8 ⟨_,H8,I8,_,e8⟩=>?_;subst e8;refine⟨m',Nb,i+1,ys ++ [v7],ō,_,MD,I8.ő,T.keep _ _ _ z_ λ b hb o e=>(I8.pin (b,o) (Î _ (Î _ (bp hb e)))).1,λ b hb=>?_,w7⟩;obtain⟨o',e',_⟩:=T.obj _ _ z_ b hb;exact(I8.pin (b,o') (Î _ (Î _ (bp hb e')))).2.1
 have N7:=T.keep _ _ _ Mw λ b hb o e=>old b o (by rw [<- M3];exact Ã _ e)
 exact Α (loop _ rfl rfl rfl) (T.self _ 0 _ _ _ N7 (loop _ rfl rfl rfl))
end
end My
namespace My
open PySem PySem.W L2
structure fD (K:Frag)(D:Addr)(m:Str)(f:Addr):Prop where
 ga:specialIn K (.ref D) "__getattribute__" = some (some (.builtin "type.__getattribute__"))
 reads:readsIn K D (.type "type")=true
 at_:findCls K (.ref D) (.type "type") m=some (.val (.ref f))
 kp:keepIn K (.ref f)=true
section
variable {X:Cx}{CX:kX}{k:Nat}{f D:Addr}{fd:FuncData}{ps:List Str}{sp:Sp}{E:XK}{x m:Str}{p ô Œ:Pos}{e:Expr}{es:List Expr}{t:TA}{L9:List V}{ds:List Value}
theorem bP (C:fD X.K D m f)(F:à X.prog X.w X.K X.mg X.base CX k f fd ps sp)(hr:ă k X.A)(hg:Gl X x)(hm:X.mg x=some (.ref D))(hb:Binds X.K fd ps ds)(hd:Vals L9 ds)(hx:dX CX X E)(ha:PA X (e::es) t)
  (L5:(x==("__debug__" : Str))=false:=by decide)(OM:starEach (e::es) X.env=(false,eval e X.env)::starEach es X.env:=by rfl)(ź:(backTo ô (starEach es X.env)).any (·.1)=false:=by rfl)
  (V3:eval (.Call (.Attribute (.Name x p) m Œ) (e::es) [] ô) X.env=(do
   let ov <- eval (.Name x p) X.env
   standAt Œ.atName
   let (f,first) <- holding [ov] (getMethod ov m pl)
   callWith ô f first (backTo ô (starEach (e::es) X.env)) (backToKw ô (keywordEach [] X.env))):=by rfl) :
  PE X (.Call (.Attribute (.Name x p) m Œ) (e::es) [] ô) (iE sp L9 E t):=by
 intro Ä s σ H Q I h;refine ň (eO I hg hm ?_ L5) V3;refine method_cls I.Ō C.ga (cls_value I.Ō C.reads C.at_ rfl ?_);have I0:Inv X Ä σ H { s with toks:=s.toks+1 }:=I.tok _
 refine Ł I.ok.mod.QQ C.kp (aV (ha ô Ä _ σ H _ I0 h) λ us s1 ⟨vs,H1,I1,r,q⟩=>⟨I1.Ō,?_⟩) OM ź;exact my F hr hb hd hx I1 r q
end
end My
namespace My
open PySem L2
open PySem.Builtin.Str (occurrences partsBetween strSub)
def Ly (c:Nat):Bool:=decide (48<=c)&&decide (c<=57)
def GJ (L:List Nat):Bool:=!L.isEmpty && !(L.head?==some 48&&L != [48])&&L.all Ly
abbrev cs (z:Str):List Nat:=z.cps.toList
abbrev val (L:List Nat):Nat:=NumText.digitsVal L
def LK (a b:List Nat):Bool:=GJ a&&GJ b&&decide (2<=val b)&&decide (1<=val a)&&decide (val a<val b)&&decide (Nat.gcd (val a) (val b)=1)
def rd (z:Str):Option (Nat × Nat) :=
 if z = "0" then some (0,1) else if z = "1" then some (1,1) else
  match Txt.split z ⟨#[47]⟩ with
  | [a,b]=>if LK (cs a) (cs b)=true then some (val (cs a),val (cs b)) else none
  | _=>none
abbrev tx (n:Nat):Str:=Str.ofString (toString ((n:Nat):Int))
end My
namespace My
open PySem PySem.W L2
theorem cy {A B:Prop}(h:A):if true=true then A else B:=by rw [Ø rfl];exact h
theorem bZ {A B:Prop}(h:B):if false=true then A else B:=by rw [Ï au];exact h
def Ext (H H':Hp):Prop:=∀ b o,H b=some o->H' b=some o
theorem Ext.refl (H:Hp):Ext H H:=λ _ _ h=>h
theorem Ext.trans (a:Ext H H1)(b:Ext H1 H2):Ext H H2:=λ x o h=>b x o (a x o h)
theorem Ext.new (h:H p=none):Ext H (ad H p o):=λ b u e=>by rw [af (dM e h)];exact e
theorem đ.ext (h:đ K H p xs)(e:Ext H H'):đ K H' p xs:=by
 rcases h with h | h
 ·left;rcases h with h | ⟨o,h⟩
  ·exact .inl (e _ _ h)
  ·exact .inr ⟨o,e _ _ h⟩
 ·exact .inr h
theorem ç.ext (h:ç K H s xs)(x:Ext H H'):ç K H' s xs:=by
 rcases h with h | h
 ·rcases h with h | ⟨o,h⟩
  ·exact .inl (.inl (x _ _ h))
  ·exact .inl (.inr ⟨o,x _ _ h⟩)
 ·exact .inr h
theorem gz (hg:Gl X x)(hm:X.mg x=none)(hv:bootBuiltins x=some (.type n))(hn:x ≠ "__name__" := by decide +kernel)(hd:(x==("__debug__" : Str))=false:=by decide):PE X (.Name x ô) (tC (.ty n)) :=
 wY hg hm hv (show RelV (.ty n) (.type n) from rfl) hn hd
def Kd (K:Frag)(H:Hp)(x:V)(t:Value):Prop:=š K H x t\/(∃ p xs,x=.ref p/\đ K H p xs/\t=.type "tuple")\/(∃ a C,x=.ref a/\MN H a C/\oh K C/\t=.ref C)
def EE (K:Frag):List V->Hp->VK->Prop:=λ vs H Q=>∃ x n t b,vs=[x,.ty n]/\Kd K H x t/\kitOne K t (.type n)=some b/\Q (.bl b) H
theorem cK (N:sP X.K):dC X (.builtin "isinstance") (EE X.K):=by
 intro Ä s σ H xs us Q I r h;obtain⟨x,n,t,b,rfl,kd,e,q⟩:=h;obtain⟨u,u',rfl,ru,PF⟩:=ky r;cases (show u'=Value.type n from PF);rcases kd with ty | ⟨p,ys,rfl,hq,rfl⟩ | ⟨a,C,rfl,ea,T,rfl⟩
 ·exact kY I ru ty e λ tk=>⟨.bl b,H,I.tok _,rfl,q⟩
 ·cases (show u=.ref p from ru);obtain⟨its,_,⟨o,h1,h2,_⟩,_⟩:=I.tuple hq;exact kia_one kitx_tuple I.Ō ⟨o,h1,h2⟩ e (λ z=>nomatch z) λ tk=>⟨.bl b,H,I.tok _,rfl,q⟩
 ·cases (show u=.ref a from ru);exact kia_one (uI T N.gt N.tk) I.Ō (ea.inst I.ċ) e (λ z=>nomatch z) λ tk=>⟨.bl b,H,I.tok _,rfl,q⟩
theorem MN.ext (e:MN H a C)(x:Ext H H'):MN H' a C:=by
 rcases e with e | ⟨dx,fs,e1,e2⟩
 ·exact .inl (x _ _ e)
 ·exact .inr ⟨dx,fs,x _ _ e1,x _ _ e2⟩
theorem š.ext (h:š K H x t)(e:Ext H H'):š K H' x t:=by
 cases h with
 | Ċ=>exact .Ċ
 | bl b=>exact .bl b
 | int i=>exact .int i
 | str z=>exact .str z
 | PR z=>exact .PR z
 | lst q=>exact .lst (e _ _ q)
 | υ q=>exact .υ (e _ _ q)
 | tup q=>exact .tup (e _ _ q)
 | dK q=>exact .dK (e _ _ q)
 | dT q=>exact .dT (e _ _ q)
 | ins q cl ha hn Nq hm=>exact .ins (e _ _ q) cl ha hn Nq hm
theorem Kd.ext (h:Kd K H x t)(e:Ext H H'):Kd K H' x t:=by
 rcases h with ty | ⟨p,ys,rfl,hq,rfl⟩ | ⟨a,C,rfl,ea,T,rfl⟩
 ·exact .inl (My.š.ext ty e)
 ·exact .inr (.inl ⟨p,ys,rfl,My.đ.ext hq e,rfl⟩)
 ·exact .inr (.inr ⟨a,C,rfl,ea.ext e,T,rfl⟩)
def Hs (K:Frag)(H:Hp)(x:V):Prop:=(∀ i,x ≠ .int i)/\∃ t b1 b2,Kd K H x t/\kitOne K t (.type "int")=some b1/\kitOne K t (.type "bool")=some b2/\(b1 && !b2)=false
def Th (K:Frag)(H:Hp)(x:V):Prop:=(∃ i,x=.int i)\/Hs K H x
theorem Th.ext (h:Th K H x)(e:Ext H H'):Th K H' x:=by
 rcases h with h | ⟨n,t,b1,b2,kd,k1,k2,z⟩
 ·exact .inl h
 ·exact .inr ⟨n,t,b1,b2,kd.ext e,k1,k2,z⟩
def Gg:V->Bool
 | .int _=>true
 | _=>false
def NP (lo hi:Int):V->Bool
 | .int i=>decide (lo<=i)&&decide (i<=hi)
 | _=>false
theorem lR (h:∀ i,x ≠ .int i):Gg x=false:=by
 cases x with
 | int i=>exact absurd rfl (h i)
 | _=>rfl
theorem BY (h:∀ i,x ≠ .int i):NP lo hi x=false:=by
 cases x with
 | int i=>exact absurd rfl (h i)
 | _=>rfl
section
variable {P:Program}{w:World}{K:Frag}{mg:bC}{base:Heap}
theorem G1:kitOne K (.type "int") (.type "int")=some true:=rfl
theorem CL:kitOne K (.type "int") (.type "bool")=some false:=rfl
end
set_option exponentiation.threshold 10000
def Ck:Key->PyData
 | .inl i=>.int i
 | .inr x=>.str x
 | .Ċ=>.none
mutual
inductive Ĝ (G:Hp):V->PyData->Prop
 | Ċ:Ĝ G .Ċ .none
 | bl (b:Bool):Ĝ G (.bl b) (.bool b)
 | int (i:Int):Ĝ G (.int i) (.int i)
 | str (x:Str):Ĝ G (.str x) (.str x)
 | lst {a:Addr}{xs:List V}{ds:List PyData}:G a=some (.lst xs)->Ù G xs ds->Ĝ G (.ref a) (.list ds)
 | tup {a:Addr}{xs:List V}{ds:List PyData}:G a=some (.tup xs)->Ù G xs ds->Ĝ G (.ref a) (.tuple ds)
 | Ε {a:Addr}:G a=some (.dK [])->Ĝ G (.ref a) (.dict [])
 | MM {a:Addr}{k:Key}{v:V}{d:PyData}:G a=some (.dK [(k,v)])->Ĝ G v d->Ĝ G (.ref a) (.dict [(Ck k,d)])
inductive Ù (G:Hp):List V->List PyData->Prop
 | nil:Ù G [] []
 | cons {v:V}{vs:List V}{d:PyData}{ds:List PyData}:Ĝ G v d->Ù G vs ds->Ù G (v::vs) (d::ds)
end
mutual
theorem Ĝ.mono (s:Ext G G'):∀{v:V}{d:PyData},Ĝ G v d->Ĝ G' v d
 | _,_,.Ċ=>.Ċ
 | _,_,.bl b=>.bl b
 | _,_,.int i=>.int i
 | _,_,.str x=>.str x
 | _,_,.lst e r=>.lst (s _ _ e) (Ù.mono s r)
 | _,_,.tup e r=>.tup (s _ _ e) (Ù.mono s r)
 | _,_,.Ε e=>.Ε (s _ _ e)
 | _,_,.MM e r=>.MM (s _ _ e) (Ĝ.mono s r)
theorem Ù.mono (s:Ext G G'):∀{vs:List V}{ds:List PyData},Ù G vs ds->Ù G' vs ds
 | _,_,.nil=>.nil
 | _,_,.cons r t=>.cons (Ĝ.mono s r) (Ù.mono s t)
end
theorem Ù.length:∀{vs:List V}{ds:List PyData},Ù G vs ds->vs.length=ds.length
 | _,_,.nil=>rfl
 | _,_,.cons _ t=>by rw [ā,ā,t.length]
theorem Ù.append:∀{vs ws:List V}{ds es:List PyData},Ù G vs ds->Ù G ws es->Ù G (vs++ws) (ds++es)
 | _,_,_,_,.nil,s=>s
 | _,_,_,_,.cons r t,s=>.cons r (t.append s)
section
variable {P:Program}{w:World}{H:Hp}{h:Heap}
theorem rW (r:(bv P w).is k u=true):Reads h u (Ck k) []:=by
 rw [jK] at r;rcases bh r with⟨i,t,rfl,rfl⟩ | ⟨x,t,rfl,rfl⟩ | ⟨rfl,rfl⟩
 ·exact .int i t
 ·exact .str x t
 ·exact .none
theorem yO (ps:Pairs (bv P w) es ([]:List (Key × Value))):es=[]:=by
 cases ps;rfl
theorem AT (ps:Pairs (bv P w) es [(k,u)]):∃ e,es=[e]/\(bv P w).is k e.key=true/\e.val=u:=by
 cases ps with
 | cons h1 h2 h3 =>
  cases h3;exact⟨_,rfl,h1,h2⟩
mutual
theorem nW (ok:Ι P w H h)(z:H sysModules=none):∀{v:V}{d:PyData}{u:Value},Ĝ H v d->RelV v u->∃ as,Reads h u d as/\sysModules ∉ as
 | _,_,_,.Ċ,r=>by cases r;exact⟨[],.none,by simp⟩
 | _,_,_,.bl b,r=>by cases r;exact⟨[],.bool b,by simp⟩
 | _,_,_,.int i,r=>by obtain⟨t,rfl⟩:=r;exact⟨[],.int i t,by simp⟩
 | _,_,_,.str x,r=>by obtain⟨t,rfl⟩:=r;exact⟨[],.str x t,by simp⟩
 | _,_,_,.lst (a:=a) e t,r=>by
  cases r;obtain⟨_,its,n,rv,ho⟩:=(show Ą P w H h _ (.lst _) from ok _ _ e);obtain⟨as,ra,na⟩:=Ω ok z t rv;refine⟨a::as,.list ho rfl rfl (by simpa using ra),?_⟩
  intro m;rcases ë.mp m with m | m
  ·rw [<- m,z] at e;cases e
  ·exact na m
 | _,_,_,.tup e t,r=>by
  cases r;obtain⟨_,its,rv,o,ho,hc,n,hd⟩:=(show Ą P w H h _ (.tup _) from ok _ _ e);obtain⟨as,ra,na⟩:=Ω ok z t rv;exact⟨as,.tuple ho hc hd (by simpa using ra),na⟩
 | _,_,_,.Ε (a:=a) e,r=>by
  cases r;obtain⟨_,hs,vs,kv,o,es,ep,ho,hx,hd,hks,V8,hnd⟩:=(show Ą P w H h _ (.dK _) from ok _ _ e);cases kv;have ee:=yO V8;refine⟨a :: [] ++ [],.dict ho hx.1 hd (by rw [ee];exact .nil) (by rw [ee];exact .nil),?_⟩
  intro m;have m':sysModules=a:=by simpa using m
  rw [<- m',z] at e;cases e
 | _,_,_,.MM (a:=a) (k:=k) e t,r=>by
  cases r;obtain⟨_,hs,vs,kv,o,es,ep,ho,hx,hd,hks,V8,hnd⟩:=(show Ą P w H h _ (.dK _) from ok _ _ e);cases kv with
  | cons q q' =>
   cases q';obtain⟨hq1,M4⟩:=q;obtain⟨e0,ee,ek,ev⟩:=AT V8;rw [<- ev] at M4;rw [<- hq1] at ek;obtain⟨as,ra,na⟩:=nW ok z t M4;have rk:ReadsAll h [e0.key] [Ck k] ([] ++ []):=.cons (rW ek) .nil;have rv:ReadsAll h [e0.val] [_] (as ++ []):=.cons ra .nil;refine⟨a::([] ++ [])++(as ++ []),.dict ho hx.1 hd (by rw [ee];exact rk) (by rw [ee];exact rv),?_⟩
   intro m;rw [Ę,Ę] at m;rcases ë.mp m with m | m
   ·rw [<- m,z] at e;cases e
   ·exact na (by simpa using m)
theorem Ω (ok:Ι P w H h)(z:H sysModules=none):∀{vs:List V}{ds:List PyData}{us:List Value},Ù H vs ds->Vals vs us->∃ as,ReadsAll h us ds as/\sysModules ∉ as
 | _,_,_,.nil,r=>by cases r;exact⟨[],.nil,by simp⟩
 | _,_,_,.cons r t,rv=>by
  cases rv with
  | cons q qs =>
   obtain⟨as,ra,na⟩:=nW ok z r q;obtain⟨bs,rb,nb⟩:=Ω ok z t qs;refine⟨as++bs,.cons ra rb,λ m=>?_⟩;rcases ģ.mp m with m | m
   ·exact na m
   ·exact nb m
end
end
def rh:PyData->String
 | .none => "NoneType"
 | .bool _ => "bool"
 | .int _ => "int"
 | .str _ => "str"
 | .list _ => "list"
 | .tuple _ => "tuple"
 | _ => "dict"
def BV:PyData->Bool
 | .tuple _=>true
 | _=>false
def wU:PyData->Bool
 | .bool _=>true
 | _=>false
def lP (lo hi:Int):PyData->Bool
 | .int i=>decide (lo<=i)&&decide (i<=hi)
 | _=>false
section
variable {K:Frag}{H:Hp}{v:V}{d:PyData}
theorem Ĝ.ty (r:Ĝ H v d):š K H v (.type (rh d)):=by
 cases r with
 | Ċ=>exact .Ċ
 | bl b=>exact .bl b
 | int i=>exact .int i
 | str x=>exact .str x
 | lst e _=>exact .lst e
 | tup e _=>exact .tup e
 | Ε e=>exact .dK e
 | MM e _=>exact .dK e
theorem Ĝ.kd (r:Ĝ H v d):Kd K H v (.type (rh d)):=.inl r.ty
theorem Ĝ.XH (r:Ĝ H v d):kitOne K (.type (rh d)) (.type "tuple")=some (BV d):=by cases r <;> rfl
theorem Ĝ.isB (r:Ĝ H v d):kitOne K (.type (rh d)) (.type "bool")=some (wU d):=by cases r <;> rfl
theorem Ĝ.th (r:Ĝ H v d):Th K H v:=by
 cases r with
 | int i=>exact .inl ⟨i,rfl⟩
 | Ċ=>exact .inr ⟨λ i z=>(by cases z),_,_,_,.inl .Ċ,rfl,rfl,rfl⟩
 | bl b=>exact .inr ⟨λ i z=>(by cases z),_,_,_,.inl (.bl b),rfl,rfl,rfl⟩
 | str x=>exact .inr ⟨λ i z=>(by cases z),_,_,_,.inl (.str x),rfl,rfl,rfl⟩
 | lst e _=>exact .inr ⟨λ i z=>(by cases z),_,_,_,.inl (.lst e),rfl,rfl,rfl⟩
 | tup e _=>exact .inr ⟨λ i z=>(by cases z),_,_,_,.inl (.tup e),rfl,rfl,rfl⟩
 | Ε e=>exact .inr ⟨λ i z=>(by cases z),_,_,_,.inl (.dK e),rfl,rfl,rfl⟩
 | MM e _=>exact .inr ⟨λ i z=>(by cases z),_,_,_,.inl (.dK e),rfl,rfl,rfl⟩
theorem Ĝ.NP (r:Ĝ H v d)(lo hi:Int):My.NP lo hi v=lP lo hi d:=by cases r <;> rfl
theorem gL (r:Ĝ H v (.tuple ds)):∃ a xs,v=.ref a/\H a=some (.tup xs)/\Ù H xs ds:=by
 cases r with
 | tup e t=>exact⟨_,_,rfl,e,t⟩
theorem Ù.get (r:Ù H xs ds):∀{i:Nat}{x:V},xs[i]?=some x->∃ d,ds[i]?=some d/\Ĝ H x d:=by
 induction xs generalizing ds with
 | nil=>intro i x h;simp at h
 | cons y ys ih =>
  cases r with
  | cons q t =>
   intro i x h;cases i with
   | zero=>cases h;exact⟨_,rfl,q⟩
   | succ i=>exact ih t h
end
end My
namespace My
open PySem L2
structure Bx (p:Prop):Prop where
 h:p
section
variable {X:Cx}{e a b:Expr}{es:List Expr}{te ta tb:TE}{t:TA}{ô:Pos}{st:Stmt}{rest:List Stmt}{ts u v:TS}
theorem ck:Bx (PA X [] aK):=⟨ao⟩
theorem f8 (ha:Bx (PE X e te))(hr:Bx (PA X es t))(hs:starEach (e::es) X.env=(false,eval e X.env)::starEach es X.env:=by rfl):Bx (PA X (e::es) (am te t)):=⟨ac ha.h hr.h hs⟩
theorem jM (h:Bx (PA X es t)):Bx (PE X (.List es ô) (cg t)):=⟨bM h.h⟩
theorem fu {x1}(h:Bx (PA X es t)):Bx (PE X (.Tuple es x1 ô) (dO t)):=⟨aP h.h⟩
theorem Eb (hr:FF X r)(ha:Bx (PE X a ta))(hb:Bx (PE X b tb))(hs:mY b:=by exact λ _ _=>rfl):Bx (PE X (.Subscript a b ô) (aQ r ta tb)):=⟨cS hr ha.h hb.h hs⟩
theorem jV (h:Bx (PE X e te)):Bx (PS X (.Return (some e) ô) (cH te)):=⟨dk h.h⟩
theorem fV:Bx (Ž X [] bV):=⟨f6⟩
theorem br (h:Bx (PS X st ts)):Bx (Ž X [st] ts):=⟨aX h.h⟩
theorem dq (h:Bx (PS X st ts))(k:Bx (Ž X rest u)):Bx (Ž X (st::rest) (aO ts u)):=⟨bU h.h k.h⟩
theorem kj (hc:Bx (PT X c tc))(hx:Bx (Ž X x u))(hy:Bx (Ž X y v)):Bx (PS X (.If c x y ô) (dA tc u v)):=⟨be hc.h hx.h hy.h⟩
theorem bq (hN:X.N.Nodup)(hi:X.N[i]?=some x)(hx:CB X.env.scope x)(he:Bx (PE X e te))(hs:swapsWith e (some (.Name x pos')) ô.line X.env=pure false:=by rfl)(hf:X.fn x=true\/X.env.scope.names.lookup x=some .local:=by first | exact .inl rfl | exact .inr rfl | assumption) :
  Bx (PS X (.Assign [.Name x pos'] e ô) (cR te (ba i))):=⟨gG hN hi hx he.h hs hf⟩
end
end My
namespace My
open PySem PySem.W L2
open AutoSeq1 (wpAny_loadPart')
section
variable {prog:Program}{w:World}{A:Around}{E:fg}{s:Shared}{r:Addr}{a b c:Int}{t u v:Tok}{n:Nat}
theorem kK (hh:A.handled=none)(hr:IsRange s.heap r a b c t u v)(L4:Builtin.Range.small a b c=true)(hn:Builtin.Range.rangeSize a b c=n)(Ń:n<=2^24)
  (hQ:∀ h' tk acc,(∀ b o,s.heap.get? b=some o->h'.get? b=some o)->ItemsOf (λ i v=>∃ t,v=.int (a+i*c) t) acc n->Q acc.toList { s with heap:=h',toks:=tk }) :
  wpAny (model prog w) A (collect (.ref r)) Q E s:=by
 refine À (wpAny_runValue (codeAny_builtin F.entry_proto_collect ?_));rw [Around.under_plainId F.plain_proto_collect _];refine À (ý ?_);refine Æ ⟨plainId_quiet F.plain_list_iadd _,codeAny_builtin F.entry_list_iadd ?_⟩;rw [Around.under_plainId F.plain_list_iadd _];have hS:(s.heap.push { cls:=.type "list",data:=.seq ([]:List Value).toArray }).get? s.heap.objs.size=some { cls:=.type "list",data:=.seq #[] 0 }:=Ò _ rfl;refine ñ (wpAny_extend_range (R:=λ x s'=>∃ h' tk acc c',x=.ok (.ret (.ref s.heap.objs.size))/\s'={ s with heap:=h',toks:=tk }/\(∀ b o,s.heap.get? b=some o->h'.get? b=some o)/\h'.get? s.heap.objs.size=some { cls:=.type "list",dict:=none,data:=.seq acc c',slots:=#[] }/\ItemsOf (λ i v=>∃ t,v=.int (a+i*c) t) acc n)
  hh (Ã _ hr) L4 hn Ń s.heap.objs.size (.ref s.heap.objs.size) 0 hS (λ h' tk acc c' hk Oe C_=>⟨h',tk,acc,c',rfl,rfl,λ b o e=>hk b o (Ó (É e)) (Ã _ e),Oe,C_⟩)) (λ fin s' h=>?_) (λ e s' h=>?_)
 ·have Tj:∀ QD,(∃ h' tk acc c',QD={ s with heap:=h',toks:=tk }/\(∀ b o,s.heap.get? b=some o->h'.get? b=some o)/\h'.get? s.heap.objs.size=some { cls:=.type "list",dict:=none,data:=.seq acc c',slots:=#[] }/\ItemsOf (λ i v=>∃ t,v=.int (a+i*c) t) acc n)->wpAny (model prog w) A (match Value.ref s.heap.objs.size with
   | Value.ref a=>do
    match (<- load a).data with
     | Data.seq xs _=>pure xs.toList
     | _=>unsupported "internal:collect"
   | _=>unsupported "internal:collect") Q E QD:=λ QD hx=>by
   obtain⟨h',tk,acc,c',rfl,hk,Oe,C_⟩:=hx;refine À (wpAny_load Oe ?_);exact Æ (hQ h' tk acc hk C_)
  cases fin with
  | done f =>
   obtain⟨h',tk,acc,c',e,h⟩:=h;cases e;exact Tj _ ⟨h',tk,acc,c',h⟩
  | again c'=>exact⟨h.1,Ş h.2 λ x QD hr=>by obtain⟨h',tk,acc,c',rfl,hr⟩:=hr;exact Tj _ ⟨h',tk,acc,c',hr⟩⟩
 ·obtain⟨_,_,_,_,e,_⟩:=h;cases e
end
theorem gc (r:Addr)(a b c:Int)(t u v:Tok)(n:Nat)(L4:Builtin.Range.small a b c=true)(hn:Builtin.Range.rangeSize a b c=n)(Ń:n<=2^24) :
  Meets (Builtin.«tuple.__new__» ⟨[.type "tuple",.ref r],[]⟩)
   (λ A R s=>A.handled=none/\IsRange s.heap r a b c t u v/\∀(h':Heap)(tk:Nat)(acc:Array Value),(∀ b o',s.heap.get? b=some o'->h'.get? b=some o')->ItemsOf (λ i v=>∃ t,v=.int (a+i*c) t) acc n->R (.ok (.ret (.ref h'.objs.size))) { s with heap:=h'.push { cls:=.type "tuple",data:=.seq acc },toks:=tk }) :=
 .of_wp λ prog w A R s h=>by
  obtain⟨hh,hr,h⟩:=h;have S7:=sub_tuple_self;have XU:=init_tuple_lookup;have hmh:=madeHere_tuple;have hT:s.TypeIs (.ref r) "range" :=⟨_,hr,rfl⟩;have hh1:A.in1.handled=none:=hh
  wp_walk using wpAny_typeOf hT,kK hh1 hr L4 hn Ń
  intro h' tk acc hk C_;show wpAny _ _ (Builtin.Tuple.tupleExact acc.toList.toArray >>= λ v=>ret v) _ _ _;refine À (ý ?_ (show acc.toList.toArray.size<=sizeLine by simp only [Array.toArray_toList];rw [C_.1,Ö];omega))
  refine Æ ⟨_,rfl,?_⟩;have e:acc.toList.toArray=acc:=by simp
  rw [e];exact h h' tk acc hk C_
theorem iQ {n:Nat}(hh:A.handled=none)(hr:IsRange s.heap r a b c t u v)(L4:Builtin.Range.small a b c=true)(hn:Builtin.Range.rangeSize a b c=n)(Ń:n<=2^24)
  (h:∀(h':Heap)(tk:Nat)(acc:Array Value),(∀ b o',s.heap.get? b=some o'->h'.get? b=some o')->ItemsOf (λ i v=>∃ t,v=.int (a+i*c) t) acc n->Q (.ref h'.objs.size) { s with heap:=h'.push { cls:=.type "tuple",data:=.seq acc },toks:=tk }) :
  wpAny (model prog w) A (call (.type "tuple") [.ref r]) Q E s :=
 callType_new F.called_tuple au (F.typeCall_tuple_1 _) (F.newCall_tuple_1 _) (λ obj=>F.args_object_init_2 obj _) F.entry_tuple_new
  (gc r a b c t u v n L4 hn Ń) ⟨hh,hr,λ h' tk acc hk C_=>⟨⟨_,Ò _ rfl,rfl⟩,h h' tk acc hk C_⟩⟩
def vz (lo:Int)(n:Nat):List V:=(List.range n).map λ i=>V.int (lo+(i:Nat))
theorem ic (lo:Int)(n:Nat):(vz lo n).length=n:=by unfold vz;simp
theorem ou {n:Nat}{acc:Array Value}(h:ItemsOf (λ i v=>∃ t,v=Value.int (lo+i*1) t) acc n):Vals (vz lo n) acc.toList:=by
 have gen:∀(xs:List V)(us:List Value),xs.length=us.length->(∀(i:Nat) x u,xs[i]?=some x->us[i]?=some u->RelV x u)->Vals xs us:=by
  intro xs
  induction xs with
  | nil=>intro us l _;cases us with | nil=>exact .nil | cons _ _=>cases l
  | cons x xs ih =>
   intro us l g;cases us with
   | nil=>cases l
   | cons u us=>exact .cons (g 0 x u rfl rfl) (ih us (by simpa using l) λ i x' u' h1 h2=>g (i+1) x' u' h1 h2)
 refine gen _ _ (by rw [ic];simp [h.1]) λ i x u hx hu=>?_
 unfold vz at hx;rw [Ç] at hx;obtain⟨j,hj,rfl⟩:=Ð.mp hx;have ej:i=j:=by
  have:=Å.mp hj
  simpa using this.2
 subst ej;obtain⟨t,e⟩:=h.2 i u (by simpa using hu)
 refine⟨t,?_⟩;rw [e,Int.mul_one]
section
variable {X:Cx}
def FE:List V->Hp->VK->Prop:=λ vs H Q=>∃ j:Int,vs=[.int j]/\∀ r,H r=none->Q (.ref r) (ad H r (.Mc 0 j))
theorem r9:dC X (.type "range") FE:=by
 intro Ä s σ H xs us Q I r h;obtain⟨j,rfl,q⟩:=h;obtain⟨u,rfl,t,rfl⟩:=fm r;refine call_range_1 ⟨.ref s.heap.objs.size,_,I.laid (λ b o e=>Ã _ e) (Ê _) ?_,rfl,q _ (I.ċ.fresh (Ê _))⟩;exact⟨_,_,_,Ò _ rfl⟩
def F7:List V->Hp->VK->Prop:=λ vs H Q=>∃(p:Addr)(lo hi:Int),vs=[.ref p]/\H p=some (.Mc lo hi)/\(-(2^62)<=lo/\lo<2^62/\-(2^62)<=hi/\hi<2^62)/\(hi-lo).toNat<=2^24/\∀ l,H l=none->Q (.ref l) (ad H l (.tup (vz lo (hi-lo).toNat)))
theorem kZ (hc:X.calm=true):dC X (.type "tuple") F7:=by
 intro Ä s σ H xs us Q I r h;obtain⟨p,lo,hi,rfl,hp,⟨b1,b2,b3,b4⟩,hl,q⟩:=h;obtain⟨u,rfl,rx⟩:=fm r;cases (show u=.ref p from rx);obtain⟨t,u,v,e⟩:=(show Ą X.prog X.w H s.heap p (.Mc lo hi) from I.ċ p _ hp);have en:Builtin.Range.rangeSize lo hi 1=(((hi-lo).toNat:Nat):Int):=by rw [rangeSize_one];split <;> omega
 refine iQ (I.ok.hd hc) e (small_one b1 b2 b3 b4) en hl λ h' tk acc kp C_=>?_;have I1:Inv X Ä σ H { s with heap:=h' }:=I.kept kp
 have ha:acc.toList.toArray=acc:=by simp
 have I2:Inv X Ä σ (ad H h'.objs.size (.tup (vz lo (hi-lo).toNat))) { s with heap:=h'.push { cls:=.type "tuple",data:=.seq acc },toks:=tk } :=
  I1.laid (λ b o e=>Ã _ e) (Ê _) (show Ą X.prog X.w _ _ _ (.tup _) from⟨by rw [ic,Ö];omega,acc.toList,ou C_,by rw [ha];exact PyProof.Rows.IsTup.new _ _⟩)
 exact⟨.ref h'.objs.size,_,I2,rfl,q _ (I1.ċ.fresh (Ê _))⟩
def uX:List V->Hp->VK->Prop:=λ vs H Q=>∃(p:Addr)(lo hi:Int),vs=[.ref p]/\H p=some (.Mc lo hi)/\(-(2^62)<=lo/\lo<2^62/\-(2^62)<=hi/\hi<2^62)/\(hi-lo).toNat<=2^24/\∀ l,H l=none->Q (.ref l) (ad H l (.lst (vz lo (hi-lo).toNat)))
theorem iJ (hc:X.calm=true):dC X (.type "list") uX:=by
 intro Ä s σ H xs us Q I r h;obtain⟨p,lo,hi,rfl,hp,⟨b1,b2,b3,b4⟩,hl,q⟩:=h;obtain⟨u,rfl,rx⟩:=fm r;cases (show u=.ref p from rx);obtain⟨t,u,v,e⟩:=(show Ą X.prog X.w H s.heap p (.Mc lo hi) from I.ċ p _ hp);have en:Builtin.Range.rangeSize lo hi 1=(((hi-lo).toNat:Nat):Int):=by rw [rangeSize_one];split <;> omega
 refine call_list_range (I.ok.hd hc) e (small_one b1 b2 b3 b4) en hl λ h' tk acc c' kp hS C_=>?_;have ha:acc.toList.toArray=acc:=by simp
 have I2:Inv X Ä σ (ad H s.heap.objs.size (.lst (vz lo (hi-lo).toNat))) { s with heap:=h',toks:=tk } :=
  I.laid kp (Ê _) (show Ą X.prog X.w _ _ _ (.lst _) from⟨by rw [ic,Ö];omega,acc.toList,c',ou C_,by rw [ha];exact hS⟩)
 exact⟨.ref s.heap.objs.size,_,I2,rfl,q _ (I.ċ.fresh (Ê _))⟩
end
end My
namespace My
open PySem L2
section
variable {X:Cx}
theorem lc:∀(xs:List Bool),(List.range xs.length).all (λ i=>xs.getD i false)=xs.all id
 | []=>rfl
 | x::xs=>by
  have ih:=lc xs;rw [ā,Q5,ρ,Ng,ρ,<- ih];rfl
def Jp (K:PySem.W.Frag):List V->Hp->VK->Prop:=λ vs H Q=>∃(l:Addr)(xs:List Bool),vs=[.ref l]/\ç K H l (xs.map V.bl)/\Q (.bl (xs.all id)) H
theorem oS (hc:X.calm=true):dC X (.builtin "all") (Jp X.K):=by
 intro Ä s σ H vs us Q I r h;obtain⟨l,xs,rfl,hl,q⟩:=h;obtain⟨u,rfl,ru⟩:=fm r;cases (show u=.ref l from ru);obtain⟨its,rv,t,hz⟩:=I.list hl;have ll:l<s.heap.objs.size:=by obtain⟨_,e,_⟩:=t.isList;exact É e
 have len:=rv.length;rw [Â] at len;refine call_all_walk (OO t.isList ?_);refine⟨s.heap.objs.size,[s.heap.objs.size,l],[s.heap.objs.size],its.toArray.size,(λ i v=>its.toArray[i]?=some v),_,λ i=>xs.getD i false,rfl,Walks.list (A:=X.A.in1) (I.ok.hd hc) s.heap.objs.size l (Ó ll) its.toArray,
  ⟨⟨_,Ò _ rfl,rfl,rfl⟩,t.isList.push _⟩,λ i v s' Q' E' hv hq=>?_,λ h' tk hk=>⟨.bl _,H,I.kept (λ b o e=>hk b o (λ m=>?_) (Ã _ e)),?_,q⟩⟩
 ·have QR:its[i]?=some v:=by simpa using hv
  have lt:=(Å.mp QR).1;have RV:i<xs.length:=ai;obtain⟨u1,e1,q1⟩:=rv.get (by rw [Ç,Á RV];rfl)
  rw [QR] at e1;cases e1;cases (show v=Value.bool xs[i] from q1);refine ķ ?_;have e:xs.getD i false=xs[i]:=by simp [RV]
  rw [<- e];exact hq
 ·rcases ë.mp m with e2 | m
  ·exact absurd (É e) (by rw [e2];exact Ķ _)
  ·cases m
 ·show Value.bool _=Value.bool _;have e:=lc xs;rw [<- e,â,<- len]
end
end My
namespace My
open PySem PySem.W L2
section
variable {K:Frag}{te:TE}{tt:TT}{g:TG}{k:Nat}{cap:St}{D:Addr}{H1:Hp}{Q:Hp->Prop}{a:Addr}{xs:List V}
theorem bD (Pv:Nat->List V->Hp->Prop)(hz:xs.length<sizeLine)(h0:Pv 0 [] (ad H1 D (.lst [])))
  (hl:∀ i ys H,Pv i ys H->ç K H a xs)
  (hs:∀ i x ys H,xs[i]?=some x->ys.length=i->H D=some (.lst ys)->Pv i ys H->∀ os:St,os.length=k->∀ R:VK,(∀ y H4,H4 D=some (.lst ys)->Pv (i+1) (ys ++ [y]) (ad H4 D (.lst (ys ++ [y])))->R y H4)->g x (os++cap) H λ Ĵ H0=>(∃ ō:St,ō.length=k/\Ĵ = ō ++ cap)/\te Ĵ H0 R)
  (hd:∀ ys H,ys.length=xs.length->H D=some (.lst ys)->Pv xs.length ys H->Q H) :
  ∃ W:Nat->Nat->List V->Hp->Prop,(∃ m,W 0 m [] (ad H1 D (.lst []))) /\
   ∀ i m ys H2,W i m ys H2->H2 D=some (.lst ys)/\(((nt K a).stop i H2/\Q H2)\/((nt K a).go i H2/\ys.length<sizeLine /\
    ∀ x H3,(nt K a).MJ i H2 x H3->∀ os:St,os.length=k->g x (os++cap) H3 λ Ĵ H0=>(∃ ō:St,ō.length=k/\Ĵ = ō ++ cap)/\te Ĵ H0 λ y H4=>H4 D=some (.lst ys)/\∃ m',m'<m/\W (i+1) m' (ys ++ [y]) (ad H4 D (.lst (ys ++ [y]))))):=by
 refine⟨λ i m ys H=>m=xs.length-i/\i<=xs.length/\ys.length=i/\H D=some (.lst ys)/\Pv i ys H,⟨xs.length,by simp,Nat.zero_le _,rfl,aM,h0⟩,?_⟩
 rintro i m ys H ⟨rfl,hi,hy,hD,p⟩;refine⟨hD,?_⟩;have q:=hl i ys H p;by_cases ŵ:i<xs.length
 ·refine .inr ⟨⟨xs,xs[i],q,by simp [ŵ]⟩,ai,λ x H' y=>?_⟩
  obtain⟨e,y⟩:=y;subst e;exact λ os ŀ=>hs i x ys _ (y xs q) hy hD p os ŀ _ λ z H4 RE p4=>⟨RE,xs.length-(i+1),ai,rfl,ŵ,by rw [Í,hy];rfl,aM,p4⟩
 ·have e:i=xs.length:=ai;subst e;exact .inl ⟨⟨xs,q,Ê _⟩,hd ys H hy hD p⟩
theorem u6 (Pv:Nat->List V->Hp->Prop)(hz:xs.length<sizeLine)(h0:Pv 0 [] (ad H1 D (.lst [])))
  (hl:∀ i ys H,Pv i ys H->ç K H a xs)
  (hs:∀ i x ys H p,xs[i]?=some x->ys.length=i->H D=some (.lst ys)->Pv i ys H->H p=none->∀ os:St,os.length=k->∀ R:VK,(∀ y H4,H4 D=some (.lst ys)->Pv (i+1) (ys ++ [y]) (ad H4 D (.lst (ys ++ [y])))->R y H4)->g (.ref p) (os++cap) (ad H p (.tup [.int (i:Nat),x])) λ Ĵ H0=>(∃ ō:St,ō.length=k/\Ĵ = ō ++ cap)/\te Ĵ H0 R)
  (hd:∀ ys H,ys.length=xs.length->H D=some (.lst ys)->Pv xs.length ys H->Q H) :
  ∃ W:Nat->Nat->List V->Hp->Prop,(∃ m,W 0 m [] (ad H1 D (.lst []))) /\
   ∀ i m ys H2,W i m ys H2->H2 D=some (.lst ys)/\(((yi K a).stop i H2/\Q H2)\/((yi K a).go i H2/\ys.length<sizeLine /\
    ∀ x H3,(yi K a).MJ i H2 x H3->∀ os:St,os.length=k->g x (os++cap) H3 λ Ĵ H0=>(∃ ō:St,ō.length=k/\Ĵ = ō ++ cap)/\te Ĵ H0 λ y H4=>H4 D=some (.lst ys)/\∃ m',m'<m/\W (i+1) m' (ys ++ [y]) (ad H4 D (.lst (ys ++ [y]))))):=by
 refine⟨λ i m ys H=>m=xs.length-i/\i<=xs.length/\ys.length=i/\H D=some (.lst ys)/\Pv i ys H,⟨xs.length,by simp,Nat.zero_le _,rfl,aM,h0⟩,?_⟩
 rintro i m ys H ⟨rfl,hi,hy,hD,p⟩;refine⟨hD,?_⟩;have q:=hl i ys H p;by_cases ŵ:i<xs.length
 ·refine .inr ⟨⟨xs,xs[i],q,by simp [ŵ]⟩,ai,λ x H' y=>?_⟩
  obtain⟨p',z,rfl,hp',rfl,Ug⟩:=y;exact λ os ŀ=>hs i z ys H p' (Ug xs q) hy hD p hp' os ŀ _ λ z H4 RE p4=>⟨RE,xs.length-(i+1),ai,rfl,ŵ,by rw [Í,hy];rfl,aM,p4⟩
 ·have e:i=xs.length:=ai;subst e;exact .inl ⟨⟨xs,q,Ê _⟩,hd ys H hy hD p⟩
end
end My
namespace My
open PySem L2
section
variable {X:Cx}{sc:Scope}{cl:List (Str × Addr)}{ts zs:List Str}{js:List Nat}{elt iter c:Expr}{ô:Pos}{tg:Expr}{g:TG}{wi:TI}{te:TE}{tt:TT}
theorem nj (hc:X.calm=true)(S:bu X sc cl ts zs js)(hi:PI X tg iter wi)(hg:∀ s H C fp,PG (bI X sc cl (ts++zs) s H C fp) tg g)(he:∀ s H C fp,PE (bI X sc cl (ts++zs) s H C fp) elt te)
  (hN:X.N.Nodup)(hiy:X.N[iy]?=some y)(hy:CB X.env.scope y)(hsw:swapsWith (.ListComp elt [⟨tg,iter,[],0⟩] sc ô) (some (.Name y py)) UZ.line X.env=pure true)
  (hf:X.fn y=true\/X.env.scope.names.lookup y=some .local:=by first | exact .inl rfl | exact .inr rfl | assumption)
  (hs:∀ v,foldedSetIterable iter X.env v=pure v:=by intro _;rfl):PS X (.Assign [.Name y py] (.ListComp elt [⟨tg,iter,[],0⟩] sc ô) UZ) (cR (dW wi ts.length js g te) (ba iy)):=by
 intro Ä s σ H De I h;rw [exec_Assign_Name_used _ _ _ _ hsw];refine À (Į (À ?_));show wpAny _ _ (do let _ <- comprehension (.ListComp elt [⟨tg,iter,[],0⟩] sc ô) sc X.env _ (newList []) false (eval iter X.env) (some (assign (.Name y py) X.env))) _ _ s
 refine À (ñ (ľ (use:=some (assign (.Name y py) X.env)) (Q:=λ _ s'=>SP X Ä De .next s') rfl hs S.f_ S.kind S.names ?_) (λ _ s' hq=>Æ (Æ hq)) λ _ _ e=>e);refine(aV (hi Ä s σ H _ I h) λ v s1 h1=>aV h1 λ Rq s2 h2=>?_);obtain⟨it,fp,tn,J,H2,e,I2,T,Mw,f2,body⟩:=h2;subst e;have Qi:H2 s2.heap.objs.size=none:=I2.fresh;obtain⟨W,⟨m0,w0⟩,turn⟩:=body _ Qi;refine ý ?_;have I3:Inv X Ä σ (ad H2 s2.heap.objs.size (.lst [])) { s2 with heap:=s2.heap.push { cls:=.type "list",data:=.seq ([]:List Value).toArray } }:=I2.P' (t':=s2.toks) (ys:=[]) (its:=[]) .nil (ı _)
 refine Υ S.MW (by intro y hy;simp at hy) (λ Ś hn Od=>?_) S.kind
 generalize M3:({ s2 with heap:=s2.heap.push { cls:=.type "list",data:=.seq ([]:List Value).toArray } }:Shared)=s3 at I3 hn Od ⊢
 have F_:∀ b∈fp,dL X Ä (ad H2 s2.heap.objs.size (.lst [])) b/\b<s3.heap.objs.size:=λ b hb=>by
  obtain⟨o,ho,_⟩:=T.obj _ _ Mw b hb;have hl:=É ho;have Qc:b≠s2.heap.objs.size:=Ó hl;obtain⟨z1,z2⟩:=f2 b hb;refine⟨⟨by rw [af Qc];exact z1,z2⟩,?_⟩
  rw [<- M3];show b<(s2.heap.push _).objs.size;rw [û];exact Ē hl
 have old:∀ b o,s3.heap.get? b=some o->Ś.get? b=some o:=λ b o e=>Od.extBut b o (Ó (É e)) (Ã _ e);have loop:∀ sS:Shared,sS.heap = Ś->sS.os=s3.os->sS.gens=s3.gens->codeAny (model X.prog X.w) X.A (.compLoop (.ListComp elt [⟨tg,iter,[],0⟩] sc ô) 0 (.ref it) (.ref s2.heap.objs.size) (compEnvC sc cl s3.heap.objs.size X.env))
   (compPost (model X.prog X.w) X.A X.xe (some (assign (.Name y py) X.env)) (λ _ s'=>SP X Ä De .next s') (.ref s2.heap.objs.size) s3.heap.objs.size) sS:=by
  intro sS eh eo eg;subst eh;have J0:Inv (bI X sc cl (ts++zs) s3 (ad H2 s2.heap.objs.size (.lst [])) s3.heap.objs.size fp) [] (List.replicate ts.length none++cV js σ) (ad H2 s2.heap.objs.size (.lst [])) sS:=fq I3 S F_ (Ê _) eo eg old hn;generalize hX:bI X sc cl (ts++zs) s3 (ad H2 s2.heap.objs.size (.lst [])) s3.heap.objs.size fp=X' at J0;have Ŭ:∀{H':Hp},(∀ b∈fp,H' b=none)->∀ b∈fp,dL X' [] H' b:=λ {H'} hn b hb=>by
   subst hX;obtain⟨⟨_,z1,z2,z3,z4,z5⟩,z6⟩:=F_ b hb;refine⟨hn b hb,Ó z6,λ q=>?_,.inl hb,λ y c e=>z4 y c (S.sub _ _ e),λ p hp=>absurd (show p∈([]:List (Addr × Obj)) from hp) (by simp)⟩
   rcases ë.mp (I3.ż b q) with e | e
   ·exact z1 e
   ·exact z2 e
  have OJ:tn 0 sS.heap:=T.keep _ _ _ Mw λ b hb o e=>old b o (by rw [<- M3];exact Ã _ e)
  refine i5 (λ n s'=>∃ i ys os H',os.length=ts.length/\Inv X' [] (os++cV js σ) H' s'/\tn i s'.heap/\(∀ b∈fp,H' b=none)/\W i n ys H') ?_ m0 ⟨0,[],_,_,æ,J0,OJ,λ b hb=>(F_ b hb).1.1,w0⟩;rintro n s' ⟨i,ys,os,H',ŀ,Iv,st,fr,w⟩;obtain⟨hD,alt⟩:=turn i n ys H' w;have eP:X'.prog=X.prog:=by subst hX;rfl
  have eW:X'.w=X.w:=by subst hX;rfl
  have eK:X'.K=X.K:=by subst hX;rfl
  have eC:X'.calm=true:=by subst hX;exact hc
  have eA:X'.A=X.A:=by subst hX;rfl
  have eE:X'.env=compEnvC sc cl s3.heap.objs.size X.env:=by subst hX;rfl
  have eX:X'.xe = λ _ _=>False:=by subst hX;rfl
  rcases alt with⟨stop,q⟩ | ⟨go,Ń,step⟩
  ·have d:=T.done X' eP eW eK eC i [] s' _ H' (λ _ _=>False) Iv (Ŭ fr) st stop;rw [eA] at d;refine aV d λ r s4 ⟨hr,I4⟩=>?_;subst hr;obtain⟨m,hm,_⟩:=id I4.loc;have fC:H' s3.heap.objs.size=none:=by
    have z:=I4.free;rw [eE] at z;exact z
   rw [eE] at hm;subst hX;have I5:Inv X Ä σ H' s4:=gI (h':=s4.heap) I3 F_ (Ê _) I4 ⟨rfl,λ _ _=>rfl⟩;show wpAny _ _ (assign (.Name y py) X.env (.ref s2.heap.objs.size)) _ _ s4;have nC:∀ b,b<s3.heap.objs.size->b≠s3.heap.objs.size:=λ b hb=>Ó hb;have nL:=nC _ I3.lt;have YS:∀ z c,X.env.cells.lookup z=some c->c≠s3.heap.objs.size:=λ z c e=>by
    obtain⟨v,o,ho,_⟩:=I3.cell z c e;exact nC _ (É ho)
   refine wpAny_assign_Name (lF I5 hN hiy hy (v:=.ref s2.heap.objs.size) rfl (λ s5 I6 hb=>?_) hf);obtain⟨a5,sb5,ha5⟩:=hb;have na5:s3.heap.objs.size≠a5:=by
    rcases ha5 with e | e
    ·rw [e];exact nL.symm
    ·exact(YS _ _ e).symm
   refine⟨m,hm.sameBut sb5 na5,λ h' Pj=>?_⟩;have I7:Inv X Ä (σ.set iy (some (.ref s2.heap.objs.size))) H' { s5 with heap:=h',toks:=s5.toks } :=
    I6.turned (λ b o hb e=>(Pj.2 b hb).trans e) fC nL.symm (.inr I3.sz) YS λ p hp=>by
     obtain⟨e1,_⟩:=I3.pin p hp;exact nC _ (É e1)
   exact⟨_,H',I7,q⟩
  ·have d:=T.item X' eP eW eK eC i [] s' _ H' (λ _ _=>False) Iv (Ŭ fr) st go;rw [eA] at d;refine aV d λ r s4 ⟨u,hr,h4⟩=>?_;subst hr;refine aV h4 λ _ s5 ⟨y,H5,I5,r5,y5,z_,Pt⟩=>?_;have Pz:=I5.pinned (Ŭ Pt) (T.obj _ _ z_);have Qe:PG X' tg g:=by subst hX;exact hg _ _ _ _
   have g6:=Qe _ s5 _ H5 y u _ Pz r5 (step y H5 y5 os ŀ);rw [eP,eW,eA,eE,eX] at g6;refine aV g6 λ _ s6 ⟨RQ,H6,I6,⟨ō,MD,e6⟩,P5⟩=>?_;subst e6;have PM:PE X' elt te:=by subst hX;exact he _ _ _ _
   have g7:=PM _ s6 _ H6 _ I6 P5;rw [eP,eW,eA,eE,eX] at g7;refine aV g7 λ uv s7 ⟨v7,H7,I7,r7,RD,m',Nb,w7⟩=>?_;have g8:=(bH) _ s7 _ H7 (.ref s2.heap.objs.size) [v7] (.ref s2.heap.objs.size) [uv] (λ _ H8=>H8=ad H7 s2.heap.objs.size (.lst (ys ++ [v7]))) I7 rfl (.cons r7 .nil) ⟨_,ys,v7,rfl,rfl,RD,Ń,rfl⟩;rw [eP,eW,eA,eX] at g8;refine aV g8 λ _ s8 ⟨_,H8,I8,_,e8⟩=>?_;subst e8;refine⟨m',Nb,i+1,ys ++ [v7],ō,_,MD,I8.ő,T.keep _ _ _ z_ λ b hb o e=>(I8.pin (b,o) (Î _ (Î _ (bp hb e)))).1,λ b hb=>?_,w7⟩;obtain⟨o',e',_⟩:=T.obj _ _ z_ b hb;exact(I8.pin (b,o') (Î _ (Î _ (bp hb e')))).2.1
 have N7:=T.keep _ _ _ Mw λ b hb o e=>old b o (by rw [<- M3];exact Ã _ e)
 exact Α (loop _ rfl rfl rfl) (T.self _ 0 _ _ _ N7 (loop _ rfl rfl rfl))
end
end My
namespace My
open PySem PySem.W L2
def xY (K:PySem.W.Frag)(n:Nat)(t:DA):TG:=λ v σ H Q=>∃ a xs,v=.ref a/\ç K H a xs/\xs.length=n/\t xs σ H Q
section
variable {X:Cx}{ô:Pos}
theorem xv (hc:X.calm=true)(h:Ga X es t)
  (hn:(assignEach es X.env).length=n:=by rfl)(OM:(assignEach es X.env).findIdx? (·.1)=none:=by rfl):PG X (.Tuple es k ô) (xY X.K n t):=by
 intro Ä s σ H v u Q I r hw;obtain⟨a,xs,e1,hq,hl,hw⟩:=hw;subst e1;cases r;obtain⟨its,rv,ht,hz⟩:=I.list hq;rw [PyProof.Rows.assign_Tuple];refine À (Į ?_);unfold unpack;rw [OM,show(assignEach es X.env).length=its.toArray.size by rw [hn,â,<- rv.length];exact hl.symm]
 refine À (ć (kun_itemsOf (I.ok.hd hc) ht.isList λ h' hx=>?_));have I1:Inv X Ä σ H { s with heap:=h' }:=I.kept λ b o e=>hx b o (Ó (É e)) e
 exact h Ä _ σ H xs _ Q I1 (by simpa using rv) hw
end
section
variable {K:Frag}{te:TE}{g:TG}{k:Nat}{cap:St}{D:Addr}{H1:Hp}{Q:Hp->Prop}
theorem i8 (Pv:Nat->List V->Hp->Prop)(hz:n<sizeLine)(h0:Pv 0 [] (ad H1 D (.lst [])))
  (hs:∀ i ys H,i<n->ys.length=i->H D=some (.lst ys)->Pv i ys H->∀ os:St,os.length=k->∀ R:VK,(∀ y H4,H4 D=some (.lst ys)->Pv (i+1) (ys ++ [y]) (ad H4 D (.lst (ys ++ [y])))->R y H4)->g (.int (lo+i)) (os++cap) H λ Ĵ H0=>(∃ ō:St,ō.length=k/\Ĵ = ō ++ cap)/\te Ĵ H0 R)
  (hd:∀ ys H,ys.length=n->H D=some (.lst ys)->Pv n ys H->Q H) :
  ∃ W:Nat->Nat->List V->Hp->Prop,(∃ m,W 0 m [] (ad H1 D (.lst []))) /\
   ∀ i m ys H2,W i m ys H2->H2 D=some (.lst ys)/\(((xI lo n).stop i H2/\Q H2)\/((xI lo n).go i H2/\ys.length<sizeLine /\
    ∀ x H3,(xI lo n).MJ i H2 x H3->∀ os:St,os.length=k->g x (os++cap) H3 λ Ĵ H0=>(∃ ō:St,ō.length=k/\Ĵ = ō ++ cap)/\te Ĵ H0 λ y H4=>H4 D=some (.lst ys)/\∃ m',m'<m/\W (i+1) m' (ys ++ [y]) (ad H4 D (.lst (ys ++ [y]))))):=by
 refine⟨λ i m ys H=>m=n-i/\i<=n/\ys.length=i/\H D=some (.lst ys)/\Pv i ys H,⟨n,by simp,Nat.zero_le _,rfl,aM,h0⟩,?_⟩
 rintro i m ys H ⟨rfl,hi,hy,hD,p⟩;refine⟨hD,?_⟩;by_cases ŵ:i<n
 ·refine .inr ⟨ŵ,ai,λ x H' y=>?_⟩;obtain⟨e,y⟩:=y;subst e y;exact λ os ŀ=>hs i ys _ ŵ hy hD p os ŀ _ λ z H4 RE p4=>⟨RE,n-(i+1),ai,rfl,ŵ,by rw [Í,hy];rfl,aM,p4⟩
 ·have e:i=n:=ai;subst e;exact .inl ⟨Ê _,hd ys H hy hD p⟩
end
section
variable {X:Cx}
theorem kc:∀{ns:List Int}{its:List Value},Vals (ns.map V.int) its->∃ xs:List (Int × Tok),its=xs.map (λ p=>Value.int p.1 p.2)/\ns=xs.map (·.1)
 | [],_,r=>by cases r;exact⟨[],rfl,rfl⟩
 | n::ns,_,r=>by
  rw [ï] at r;cases r with
  | cons r1 r2 =>
   obtain⟨t,rfl⟩:=r1;obtain⟨xs,e1,e2⟩:=kc r2;exact⟨(n,t)::xs,by rw [e1];rfl,by rw [e2];rfl⟩
theorem sy {xs:List (Int × Tok)}(h:i<xs.length):numAt xs.toArray i=(xs.map (·.1))[i]'(by rw [Â];exact h):=by
 simp [numAt,h]
end
structure iM (K:Frag)(mg:bC)(D:Addr)(nm fld:Str)(C f:Addr)(fd:FuncData):Prop where
 cls:ņ K D nm C f
 Nm:mg nm=some (.ref C)
 ok:∀(P:Program)(w:World)(base:Heap),à P w K mg base aB 1 f fd ["self",fld] (oo C fld)
 bi:Binds K fd ["self",fld] []
structure Df (P:Program)(w:World)(K:Frag)(mg:bC)(base:Heap)(cx:kX)(k:Nat)(nm:Str)(ps:List Str)(sp:Sp)(g:Addr)(gd:FuncData):Prop where
 G:à P w K mg base cx k g gd ps sp
 b:Binds K gd ps []
 kp:keepIn K (.ref g)=true
 m:mg nm=some (.ref g)
theorem cZ {X:Cx}{CX:kX}{k:Nat}{x:Str}{ps:List Str}{sp:Sp}{f:Addr}{fd:FuncData}{E:XK}{e:Expr}{es:List Expr}{t:TA}{p ô:Pos}(A:Df X.prog X.w X.K X.mg X.base CX k x ps sp f fd)(hr:ă k X.A)(hx:dX CX X E)(ha:PA X (e::es) t)(hg:Gl X x:=by exact rfl)(L5:(x==("__debug__" : Str))=false:=by decide)(he:starEach (e::es) X.env=(false,eval e X.env)::starEach es X.env:=by rfl)(ź:(backTo ô (starEach es X.env)).any (·.1)=false:=by rfl):PE X (.Call (.Name x p) (e::es) [] ô) (iE sp [] E t):=kU A.G hr hg A.m A.kp A.b .nil hx ha L5 he ź
theorem gy:dX (cY P w) X E0:=λ _ _ _ _ _ _ _ h=>by
 obtain⟨_,_,_,_,_,_,_,_,_,_,_,_,_,h⟩:=h;exact h.elim
def cQ (C:Addr)(fld:Str)(x:V)(H:Hp)(E:XK):Prop:=∀ e dx,H e=none->H dx=none->dx≠e->E (.ref C) (some e) (ad (ad H dx (.xd [(fld,x)])) e (iS e C (some dx)))
def PV (K:Frag)(H:Hp)(v:V)(n:String):Prop:=∃ t,Kd K H v t/\kitOne K t (.type n)=some false
theorem PV.ext (h:PV K H v n)(x:Ext H H'):PV K H' v n:=by
 obtain⟨t,k,e⟩:=h;exact⟨t,k.ext x,e⟩
theorem fN (h:lP lo hi d=true):∃ i,d=.int i/\lo<=i/\i<=hi:=by
 cases d with
 | int i =>
  have h':(decide (lo<=i)&&decide (i<=hi))=true:=h;rw [ŕ,ŝ,ŝ] at h';exact⟨i,rfl,h'.1,h'.2⟩
 | _=>cases h
def bQ (bs:List Bool)(i:Nat):Prop:=(∀ j b,j<i->bs[j]?=some b->b=true)/\bs[i]?=some false
theorem aI (o:HO)(x:Ext H0 H)(h:H0 l=none):Ext H0 (ad H l o):=λ b u e=>by
 rw [af (λ z=>by rw [z,h] at e;cases e)]
 exact x b u e
theorem aC {α:Type}{xs:List α}{x:α}(h:xs[i]?=some x):xs.take (i+1)=xs.take i ++ [x]:=by
 rw [List.take_succ,h];rfl
def Kept (H H':Hp)(p:Addr):Prop:=∀ b o,H b=some o->b≠p->H' b=some o
theorem Kept.refl (H:Hp)(p:Addr):Kept H H p:=λ _ _ h _=>h
theorem Kept.trans (x:Kept H H1 p)(y:Kept H1 H2 p):Kept H H2 p:=λ b o h n=>y b o (x b o h n) n
theorem Ext.kept (x:Ext H H')(p:Addr):Kept H H' p:=λ b o h _=>x b o h
def wo (H:Hp)(p:Addr):Hp:=λ b=>if b=p then none else H b
theorem ah (H:Hp)(p:Addr):Ext (wo H p) H:=λ b o e=>by
 unfold wo at e;split at e
 ·cases e
 ·exact e
theorem aJ (n:b≠p)(e:H b=some o):wo H p b=some o:=by unfold wo;rw [Ï n];exact e
theorem aL (k:Kept H H' p):Ext (wo H p) (wo H' p):=λ b o e=>by
 unfold wo at e;split at e
 ·cases e
 ·rename_i n
  exact aJ n (k b o e n)
structure Ľ (H:Hp)(p:Addr):Prop where
 ex:∃ a b c:Int,H p=some (.lst [.int a,.int b,.int c])/\0<=a/\0<=b/\0<=c/\c<2147483647
theorem Ľ.ext (h:Ľ H p)(x:Ext H H'):Ľ H' p:=by
 obtain⟨a,b,c,e,r⟩:=h.ex;exact⟨a,b,c,x _ _ e,r⟩
theorem Ľ.ne (h:Ľ H p)(e:H q=none):q≠p:=λ z=>by
 obtain⟨a,b,c,f,_⟩:=h.ex;rw [z,f] at e;cases e
structure Fi (k n:Nat)(d:PyData):Prop where
 sh:d.showable=true
 dp:d.depth<=k
 lv:d.leavesShort 64=true
 bk:d.bulk<=n
theorem As (h:i.natAbs<10^30):Fi 0 2 (.int i):=by
 refine⟨?_,by simp [PyData.depth],?_,by simp [PyData.bulk]⟩
 ·simp only [PyData.showable,decide_eq_true_eq];by_cases z:i.natAbs=0
  ·rw [z];decide
  ·exact(Nat.log2_lt z).mpr (h_ h av)
 ·have e:=int_text_length_le10 au h;simp only [PyData.leavesShort,PyData.shown];refine Ë (show(Str.ofString (toString i)).length<=64 from ?_);rw [ofString_length];omega
theorem tP (h1:-1000000000<=i)(h2:i<=1000000000):Fi 0 2 (.int i):=As (Nat.lt_of_le_of_lt (show i.natAbs<=1000000000 by omega) au)
structure qt (K:Frag)(C:Addr)(fld:Str):Prop where
 it:oh K C
 hd:hasDictIn K C=true
 nf:findIn K (.ref C) fld=some none
section
variable {K:Frag}{H:Hp}{D:bX}{σ:St}{p:Addr}
theorem j9 (h:ta σ H λ x H1=>tb σ H1 λ y H2=>r x y H2 Q):aQ r ta tb σ H Q:=h
theorem Ľ.up (b:Ľ H p)(n:l≠p):Ľ (ad H l o) p:=by
 obtain⟨x,y,z,hp,r⟩:=b;exact⟨x,y,z,by rw [af n.symm];exact hp,r⟩
theorem aY (h:te σ H λ v H1=>u D (σ.set i (some v)) H1):aO (cR te (ba i)) u D σ H:=h
end
def wt (H:Hp)(p t:Addr):Hp:=wo (wo H p) t
theorem zI (H:Hp)(p t:Addr):Ext (wt H p t) H:=(ah _ t).trans (ah H p)
theorem jf (n:b≠p)(m:b≠t)(e:H b=some o):wt H p t b=some o:=aJ m (aJ n e)
theorem mf (k:Kept H H' p):Ext (wt H p t) (wt H' p t):=aL ((aL k).kept t)
theorem oB (x:Ext H H')(p t:Addr):Ext (wt H p t) (wt H' p t):=mf (x.kept p)
theorem eL (h:wo H p a=some o):a≠p:=λ e=>by
 unfold wo at h;rw [Ø e] at h;cases h
theorem bn (x:Ext H H')(p:Addr):Ext (wo H p) (wo H' p):=aL (x.kept p)
structure GE (p:Addr)(k m:Nat)(te:TE):Prop where
 h:∀(σ:St)(H:Hp)(Q:VK),Ľ H p->(∀ v H',Ext H H'->(∃ d,Ĝ (wo H' p) v d/\Fi k m d)->Q v H')->te σ H Q
section
variable {p:Addr}{k m k' m' n:Nat}{te ta tb:TE}{t:TA}
theorem vY (r:∀ G,Ĝ G v d)(f:Fi k m d):GE p k m (tC v):=⟨λ σ H Q bx q=>q v H (.refl _) ⟨d,r _,f⟩⟩
theorem ge_int (h1:-1000000000<=i)(h2:i<=1000000000):GE p 0 2 (tC (.int i)):=vY (λ _=>.int _) (tP h1 h2)
end
theorem qh {fld:Str}(h:∀ e dx H',Ext H1 H'->H' e=some (iS e C (some dx))->H' dx=some (.xd [(fld,v)])->E' (.ref C) (some e) H'):cQ C fld v H1 E':=λ e dx he NT ne=>by
 have x2:=Ext.new (o:=.xd [(fld,v)]) NT;have QW:ad H1 dx (.xd [(fld,v)]) e=none:=by rw [af ne.symm];exact he
 have x3:=Ext.new (o:=iS e C (some dx)) QW;exact h e dx _ (x2.trans x3) aM (x3 _ _ aM)
section
variable {X:Cx}
def lW (K:Frag):R2:=λ x y H Q=>∃ p q xs,x=.ref p/\y=.ref q/\ç K H p xs/\ç K H q []/\Q (.bl (!xs.isEmpty)) H
theorem kE (hu:X.A.units<cLine):jn X (compareOp .NotEq) (lW X.K):=by
 intro Ä s σ H x y v u Q I rx ry h;obtain⟨p,q,xs,rfl,rfl,hp,hq,k⟩:=h;cases rx;cases ry;obtain⟨its,r1,t1,_⟩:=I.list hp;obtain⟨Θ,r2,t2,_⟩:=I.list hq;have l1:=r1.length;have l2:=r2.length;have e2:=Qv.mp l2.symm;subst e2;cases xs with
 | nil =>
  have e1:=Qv.mp l1.symm;subst e1;exact SeqAt.RcNeAt.lists (e:=λ _=>true) t1.isList t2.isList rfl hu (λ j h _=>absurd h (ė _)) X.prog X.w X.xe _ ⟨.bl false,H,I,rfl,k⟩
 | cons x xs =>
  exact SeqAt.RcNeAt.lists_lengths t1.isList t2.isList (by simp [<- l1]) hu X.prog X.w X.xe _ ⟨.bl true,H,I,rfl,k⟩
end
section
variable {K:Frag}{H:Hp}
def yw (K:Frag)(t:TA):TE:=λ σ H Q=>t σ H λ xs H1=>xs.length<=sizeLine/\∀ p,H1 p=none->K.lookup p=none->Q (.ref p) (ad H1 p (.lst xs))
theorem wH (h:PA X es t):PE X (.List es ô) (yw X.K t):=by
 intro Ä s σ H Q I hq;refine wpAny_List_spliced (aV (h ô Ä s σ H _ I hq) λ us s1 ⟨xs,H1,I1,r,z,q⟩=>⟨by rw [<- r.length];exact z,?_⟩)
 have hf:=I1.ċ.fresh (Ê _);have hk:X.K.lookup s1.heap.objs.size=none:=by
  cases e:X.K.lookup s1.heap.objs.size with
  | none=>rfl
  | some o=>exact absurd (É (I1.Ō _ _ e)) (Ķ _)
 refine⟨.ref s1.heap.objs.size,ad H1 s1.heap.objs.size (.lst xs),I1.laid (λ b u e=>Ã _ e) (Ê _) ?_,rfl,q _ hf hk⟩;exact⟨z,us,0,r,Ò _ rfl⟩
theorem ç.neN (h:ç K H a xs)(hp:H p=none)(hk:K.lookup p=none):a≠p:=λ e=>by
 subst e;rcases h with(h | ⟨o,h⟩) | ⟨o,its,n,h,_⟩
 ·rw [hp] at h;cases h
 ·rw [hp] at h;cases h
 ·rw [hk] at h;cases h
end
theorem oM:Ext (wt H p t) (wt (ad H t o) p t):=λ c u h=>by
 have h1:=zI H p t _ _ h;have n2:=eL h;have n1:=eL (ah _ t _ _ h);exact jf n1 n2 (by rw [af n2];exact h1)
section
variable {H:Hp}{De:bX}
theorem yK (h:t { De with nx:=u De } σ H):aO t u De σ H:=h
end
def xV (K:Frag):V->V->Hp->VK->Prop:=λ o i H Q=>∃(p:Addr)(xs:List V)(k:Nat)(v:V),o=.ref p/\i=.int (k:Nat)/\ç K H p xs/\xs[k]?=some v/\Q v H
theorem vf:GO X (xV X.K):=by
 intro Ä s σ H o i ov iv Q I ro ri h;obtain⟨p,xs,k,v,rfl,rfl,hq,hv,q⟩:=h;cases (show ov=.ref p from ro);obtain⟨t,rfl⟩:=ri;obtain⟨its,r,pl,hz⟩:=I.list hq;obtain⟨u,hu,ru⟩:=r.get hv;exact wpAny_getItem_list pl.isList ai (by have:=(Å.mp hu).1;have:=r.length;have:=j3;simp;omega) (by simpa using hu) ⟨v,H,I,ru,q⟩
theorem ç.kp (h:ç K H a xs)(k:Kept H H' p)(n:a≠p):ç K H' a xs:=by
 rcases h with(h | ⟨o,h⟩) | h
 ·exact .inl (.inl (k _ _ h n))
 ·exact .inl (.inr ⟨o,k _ _ h n⟩)
 ·exact .inr h
theorem ja (val:Nat->Int)(ns:List Int)(h:∀(i:Nat)(hi:i<ns.length),val i=ns[i]):∀ k,k<=ns.length->preSum val k=(ns.take k).sum
 | 0,_=>by simp [preSum]
 | k+1,hk=>by
  have ih:=ja val ns h k ai;have e:ns.take (k+1)=ns.take k ++ [ns[k]]:=aC (Á ai);show preSum val k+val k=_;rw [ih,h k ai,e,ś];simp
section
variable {X:Cx}
def tH (K:Frag):List V->Hp->VK->Prop:=λ vs H Q=>∃(l:Addr)(ns:List Int),vs=[.ref l]/\ç K H l (ns.map V.int)/\Q (.int ns.sum) H
theorem gK (hc:X.calm=true):dC X (.builtin "sum") (tH X.K):=by
 intro Ä s σ H xs us Q I r h;obtain⟨l,ns,rfl,hl,q⟩:=h;obtain⟨u,rfl,ru⟩:=fm r;cases (show u=.ref l from ru);obtain⟨its,rv,p,hz⟩:=I.list hl;obtain⟨xs,rfl,rfl⟩:=kc rv;have e:(xs.map λ p=>.int p.1 p.2).toArray=intItems xs.toArray:=by simp [intItems]
 have hL:s.heap.IsList l (intItems xs.toArray):=by rw [<- e];exact p.isList
 refine sum_intListG (I.ok.hd hc) hL λ h' tk t' hk=>?_;have es:preSum (numAt xs.toArray) xs.toArray.size=(xs.map (·.1)).sum:=by
  have:=ja (numAt xs.toArray) (xs.map (·.1)) (λ i hi=>sy (by simpa using hi)) xs.toArray.size (by simp)
  rw [this,ũ (by simp)]
 rw [es];exact⟨.int _,H,I.kept hk,⟨t',rfl⟩,q⟩
end
section
variable {X:Cx}
def EG (K:Frag):List V->Hp->VK->Prop:=λ vs H Q=>∃ x S t b,vs=[x,.ref S]/\Kd K H x t/\kitOne K t (.ref S)=some b/\Q (.bl b) H
theorem nJ (N:sP X.K):dC X (.builtin "isinstance") (EG X.K):=by
 intro Ä s σ H xs us Q I r h;obtain⟨x,S,t,b,rfl,kd,e,q⟩:=h;obtain⟨u,u',rfl,ru,PF⟩:=ky r;cases (show u'=.ref S from PF);rcases kd with ty | ⟨p,ys,rfl,hq,rfl⟩ | ⟨a,C,rfl,ea,T,rfl⟩
 ·exact kY I ru ty e λ tk=>⟨.bl b,H,I.tok _,rfl,q⟩
 ·cases (show u=.ref p from ru);obtain⟨its,_,⟨o,h1,h2,_⟩,_⟩:=I.tuple hq;exact kia_one kitx_tuple I.Ō ⟨o,h1,h2⟩ e (λ z=>nomatch z) λ tk=>⟨.bl b,H,I.tok _,rfl,q⟩
 ·cases (show u=.ref a from ru);exact kia_one (uI T N.gt N.tk) I.Ō (ea.inst I.ċ) e (λ z=>nomatch z) λ tk=>⟨.bl b,H,I.tok _,rfl,q⟩
end
mutual
def eN:PyData->PyData->Bool
 | .list xs,.list ys=>L8 xs ys
 | .tuple xs,.tuple ys=>L8 xs ys
 | .none,.none=>true
 | .bool a,.bool b=>a==b
 | .bool a,.int j=>(if a then(1:Int) else 0)==j
 | .int i,.bool b=>i==(if b then(1:Int) else 0)
 | .int i,.int j=>i==j
 | .str x,.str y=>x==y
 | _,_=>false
def L8:List PyData->List PyData->Bool
 | [],[]=>true
 | x::xs,y::ys=>eN x y&&L8 xs ys
 | _,_=>false
end
mutual
def aT:PyData->Bool
 | .list xs=>ħ xs
 | .tuple xs=>ħ xs
 | .dict _=>false
 | _=>true
def ħ:List PyData->Bool
 | []=>true
 | x::xs=>aT x && ħ xs
end
mutual
theorem io:∀{d:PyData},aT d=true->eN d d=true
 | .none,_=>by simp [eN]
 | .bool b,_=>by simp [eN]
 | .int i,_=>by simp [eN]
 | .str x,_=>by simp [eN]
 | .list xs,h=>by simp only [eN];exact Δ (by simpa only [aT] using h)
 | .tuple xs,h=>by simp only [eN];exact Δ (by simpa only [aT] using h)
 | .dict _,h=>by simp [aT] at h
theorem Δ:∀{ds:List PyData},ħ ds=true->L8 ds ds=true
 | [],_=>by simp [L8]
 | d::ds,h=>by
  simp only [ħ,Bool.and_eq_true] at h;simp only [L8,io h.1,Δ h.2,Bool.and_self]
end
mutual
theorem Ĝ.det:∀{v:V}{d e:PyData},Ĝ G v d->Ĝ G v e->d=e
 | _,_,_,.Ċ,r=>by cases r;rfl
 | _,_,_,.bl b,r=>by cases r;rfl
 | _,_,_,.int i,r=>by cases r;rfl
 | _,_,_,.str x,r=>by cases r;rfl
 | _,_,_,.lst h t,r=>by
  cases r with
  | lst h' t'=>rw [h] at h';cases h';rw [Ù.det t t']
  | tup h' _=>rw [h] at h';cases h'
  | Ε h'=>rw [h] at h';cases h'
  | MM h' _=>rw [h] at h';cases h'
 | _,_,_,.tup h t,r=>by
  cases r with
  | lst h' _=>rw [h] at h';cases h'
  | tup h' t'=>rw [h] at h';cases h';rw [Ù.det t t']
  | Ε h'=>rw [h] at h';cases h'
  | MM h' _=>rw [h] at h';cases h'
 | _,_,_,.Ε h,r=>by
  cases r with
  | lst h' _=>rw [h] at h';cases h'
  | tup h' _=>rw [h] at h';cases h'
  | Ε h'=>rfl
  | MM h' _=>rw [h] at h';cases h'
 | _,_,_,.MM h t,r=>by
  cases r with
  | lst h' _=>rw [h] at h';cases h'
  | tup h' _=>rw [h] at h';cases h'
  | Ε h'=>rw [h] at h';cases h'
  | MM h' t'=>rw [h] at h';cases h';rw [Ĝ.det t t']
theorem Ù.det:∀{vs:List V}{ds es:List PyData},Ù G vs ds->Ù G vs es->ds=es
 | _,_,_,.nil,r=>by cases r;rfl
 | _,_,_,.cons h t,r=>by
  cases r with
  | cons h' t'=>rw [Ĝ.det h h',Ù.det t t']
end
theorem jF:∀(xs ys:List PyData),((List.range (min xs.length ys.length)).all (λ j=>eN (xs.getD j .none) (ys.getD j .none))&&xs.length==ys.length)=L8 xs ys
 | [],[]=>by simp [L8]
 | [],y::ys=>by simp [L8]
 | x::xs,[]=>by simp [L8]
 | x::xs,y::ys=>by
  have ih:=jF xs ys;simp only [L8];rw [<- ih,ā,ā,Nat.succ_min_succ,Q5,ρ,Ng,Bool.and_assoc]
  congr 1
  rw [show(xs.length+1==ys.length+1)=(xs.length==ys.length) from by simp]
  rfl
section
variable {X:Cx}
structure Kv (A:Around)(s:Shared)(u v:Value)(b:Bool):Prop where
 eq:SeqAt.RcAt A s u v b
 ne:SeqAt.RcNeAt A s u v (!b)
structure LP (A:Around)(s:Shared)(u v:Value)(b:Bool):Prop where
 eq:SeqAt.RcAt A s u v b
 ne:SeqAt.RcNeAt A s u v (!b)
 at_:SeqAt.EqAt A s u v b
theorem vZ {its Θ:List Value}(hu:A.units<cLine)(t1:s.heap.IsTuple p its.toArray)(t2:s.heap.IsTuple q Θ.toArray)(e:Nat->Bool)(he:∀ j (h1:j<its.length)(h2:j < Θ.length),SeqAt.EqAt A.in1 s its[j] Θ[j] (e j)) :
  Kv A s (.ref p) (.ref q) ((List.range (min its.length Θ.length)).all e&&its.length == Θ.length):=by
 have h':=λ j h1 h2=>by
  simpa using he j (by simpa using h1) (by simpa using h2)
 have a:=SeqAt.RcAt.tuples t1 t2 hu h';have b:=SeqAt.RcNeAt.tuples t1 t2 hu h';rw [â,â] at a b;exact⟨a,b⟩
theorem wa {its Θ:List Value}(hu:A.units<cLine)(t1:s.heap.IsList p its.toArray)(t2:s.heap.IsList q Θ.toArray)(e:Nat->Bool)(he:∀ j (h1:j<its.length)(h2:j < Θ.length),SeqAt.EqAt A.in1 s its[j] Θ[j] (e j)) :
  Kv A s (.ref p) (.ref q) ((List.range (min its.length Θ.length)).all e&&its.length == Θ.length):=by
 have h':=λ j h1 h2=>by
  simpa using he j (by simpa using h1) (by simpa using h2)
 by_cases sz:its.length = Θ.length
 ·have a:=SeqAt.RcAt.lists t1 t2 (by simpa using sz) hu h'
  have b:=SeqAt.RcNeAt.lists t1 t2 (by simpa using sz) hu h'
  rw [â] at a b;have z:((List.range (min its.length Θ.length)).all e&&its.length == Θ.length)=(List.range its.length).all e:=by
   rw [sz,Nat.min_self];simp
  rw [z];exact⟨a,b⟩
 ·have z:((List.range (min its.length Θ.length)).all e&&its.length == Θ.length)=false:=by
   rw [show(its.length == Θ.length)=false from by simpa using sz]
   simp
  rw [z];exact⟨SeqAt.RcAt.lists_lengths t1 t2 (by simpa using sz) hu,SeqAt.RcNeAt.lists_lengths t1 t2 (by simpa using sz) hu⟩
mutual
theorem pP (I:Inv X Ä σ H s):∀{x:V}{d:PyData},Ĝ H x d->∀{A:Around}{y:V}{e:PyData}{u v:Value},Ĝ H y e->aT d=true->aT e=true->A.units+d.depth<cLine->RelV x u->RelV y v->LP A s u v (eN d e)
 | _,_,.Ċ,A,y,e,u,v,ry,pd,pe,hu,ru,rv=>by
  have h0:A.units<cLine:=ai;cases ru;cases ry with
  | Ċ=>cases rv;simp only [eN];exact⟨.none_none,.none_none,.same _⟩
  | bl b=>cases rv;simp only [eN];exact⟨.none_bool _,.none_bool _,.none_bool _⟩
  | int j=>obtain⟨t,rfl⟩:=rv;simp only [eN];exact⟨.none_int _ _,.none_int _ _,.none_int _ _⟩
  | str z=>obtain⟨t,rfl⟩:=rv;simp only [eN];exact⟨.none_str _ _,.none_str _ _,.none_str _ _⟩
  | lst h _=>cases rv;obtain⟨its,_,t,_⟩:=I.list (ç.of (K:=X.K) h);simp only [eN];exact⟨.none_list t.isList h0,.none_list t.isList h0,.none_list t.isList h0⟩
  | tup h _=>cases rv;obtain⟨its,_,t,_⟩:=I.tuple (đ.of (K:=X.K) h);simp only [eN];exact⟨.none_tuple t h0,.none_tuple t h0,.none_tuple t h0⟩
  | Ε _=>simp [aT] at pe
  | MM _ _=>simp [aT] at pe
 | _,_,.bl a,A,y,e,u,v,ry,pd,pe,hu,ru,rv=>by
  have h0:A.units<cLine:=ai;cases ru;cases ry with
  | Ċ=>cases rv;simp only [eN];exact⟨.bool_none _,.bool_none _,.bool_none _⟩
  | bl b=>cases rv;simp only [eN];exact⟨.bool_bool _ _,.bool_bool _ _,.bool_bool _ _⟩
  | int j=>obtain⟨t,rfl⟩:=rv;simp only [eN];exact⟨.bool_int _ _ _,.bool_int _ _ _,.bool_int _ _ _⟩
  | str z=>obtain⟨t,rfl⟩:=rv;simp only [eN];exact⟨.bool_str _ _ _,.bool_str _ _ _,.bool_str _ _ _⟩
  | lst h _=>cases rv;obtain⟨its,_,t,_⟩:=I.list (ç.of (K:=X.K) h);simp only [eN];exact⟨.bool_list _ t.isList h0,.bool_list _ t.isList h0,.bool_list _ t.isList h0⟩
  | tup h _=>cases rv;obtain⟨its,_,t,_⟩:=I.tuple (đ.of (K:=X.K) h);simp only [eN];exact⟨.bool_tuple _ t h0,.bool_tuple _ t h0,.bool_tuple _ t h0⟩
  | Ε _=>simp [aT] at pe
  | MM _ _=>simp [aT] at pe
 | _,_,.int i,A,y,e,u,v,ry,pd,pe,hu,ru,rv=>by
  have h0:A.units<cLine:=ai;obtain⟨tu,rfl⟩:=ru;cases ry with
  | Ċ=>cases rv;simp only [eN];exact⟨.int_none _ _,.int_none _ _,.int_none _ _⟩
  | bl b=>cases rv;simp only [eN];exact⟨.int_bool _ _ _,.int_bool _ _ _,.int_bool _ _ _⟩
  | int j=>obtain⟨t,rfl⟩:=rv;simp only [eN];exact⟨.int_int _ _ _ _,.int_int _ _ _ _,.int_int _ _ _ _⟩
  | str z=>obtain⟨t,rfl⟩:=rv;simp only [eN];exact⟨.int_str _ _ _ _,.int_str _ _ _ _,.int_str _ _ _ _⟩
  | lst h _=>cases rv;obtain⟨its,_,t,_⟩:=I.list (ç.of (K:=X.K) h);simp only [eN];exact⟨.int_list _ _ t.isList h0,.int_list _ _ t.isList h0,.int_list _ _ t.isList h0⟩
  | tup h _=>cases rv;obtain⟨its,_,t,_⟩:=I.tuple (đ.of (K:=X.K) h);simp only [eN];exact⟨.int_tuple _ _ t h0,.int_tuple _ _ t h0,.int_tuple _ _ t h0⟩
  | Ε _=>simp [aT] at pe
  | MM _ _=>simp [aT] at pe
 | _,_,.str x,A,y,e,u,v,ry,pd,pe,hu,ru,rv=>by
  have h0:A.units<cLine:=ai;obtain⟨tu,rfl⟩:=ru;cases ry with
  | Ċ=>cases rv;simp only [eN];exact⟨.str_none _ _,.str_none _ _,.str_none _ _⟩
  | bl b=>cases rv;simp only [eN];exact⟨.str_bool _ _ _,.str_bool _ _ _,.str_bool _ _ _⟩
  | int j=>obtain⟨t,rfl⟩:=rv;simp only [eN];exact⟨.str_int _ _ _ _,.str_int _ _ _ _,.str_int _ _ _ _⟩
  | str z=>obtain⟨t,rfl⟩:=rv;simp only [eN];exact⟨.str_str _ _ _ _,.str_str _ _ _ _,.str_str _ _ _ _⟩
  | lst h _=>cases rv;obtain⟨its,_,t,_⟩:=I.list (ç.of (K:=X.K) h);simp only [eN];exact⟨.str_list _ _ t.isList h0,.str_list _ _ t.isList h0,.str_list _ _ t.isList h0⟩
  | tup h _=>cases rv;obtain⟨its,_,t,_⟩:=I.tuple (đ.of (K:=X.K) h);simp only [eN];exact⟨.str_tuple _ _ t h0,.str_tuple _ _ t h0,.str_tuple _ _ t h0⟩
  | Ε _=>simp [aT] at pe
  | MM _ _=>simp [aT] at pe
 | _,_,.lst (a:=a') (xs:=xs) (ds:=ds) h rs,A,y,e,u,v,ry,pd,pe,hu,ru,rv=>by
  have h0:A.units<cLine:=ai;cases ru;obtain⟨its,r1,t1,_⟩:=I.list (ç.of h);cases ry with
  | Ċ=>cases rv;simp only [eN];exact⟨.list_none t1.isList h0,.list_none t1.isList h0,.list_none t1.isList h0⟩
  | bl b=>cases rv;simp only [eN];exact⟨.list_bool _ t1.isList h0,.list_bool _ t1.isList h0,.list_bool _ t1.isList h0⟩
  | int j=>obtain⟨t,rfl⟩:=rv;simp only [eN];exact⟨.list_int _ _ t1.isList h0,.list_int _ _ t1.isList h0,.list_int _ _ t1.isList h0⟩
  | str z=>obtain⟨t,rfl⟩:=rv;simp only [eN];exact⟨.list_str _ _ t1.isList h0,.list_str _ _ t1.isList h0,.list_str _ _ t1.isList h0⟩
  | @lst b' ys es h' ts =>
   cases rv;obtain⟨Θ,r2,t2,_⟩:=I.list (ç.of h');have SG:ħ ds=true:=by simpa only [aT] using pd
   have Vj:ħ es=true:=by simpa only [aT] using pe
   have dd:A.in1.units+PyData.depthAll ds<cLine:=by rw [kT];simp only [PyData.depth] at hu;omega
   have k:=wa h0 t1.isList t2.isList (λ j=>eN (ds.getD j .none) (es.getD j .none)) (λ j h1 h2=>M5 I rs ts SG Vj dd r1 r2 h1 h2);rw [<- r1.length,<- r2.length,rs.length,ts.length,jF] at k;simp only [eN];refine⟨k.eq,k.ne,?_⟩;by_cases e:a'=b'
   ·subst e;rw [h] at h';cases h';have:=Ù.det rs ts;subst this;rw [Δ SG];exact MG _
   ·exact .of_refs e k.eq
  | tup h' _=>cases rv;obtain⟨Θ,_,t,_⟩:=I.tuple (đ.of h');simp only [eN];exact⟨.list_tuple t1.isList t h0,.list_tuple t1.isList t h0,.list_tuple t1.isList t h0⟩
  | Ε _=>simp [aT] at pe
  | MM _ _=>simp [aT] at pe
 | _,_,.tup (a:=a') (ds:=ds) h rs,A,y,e,u,v,ry,pd,pe,hu,ru,rv=>by
  have h0:A.units<cLine:=ai;cases ru;obtain⟨its,r1,t1,_⟩:=I.tuple (đ.of h);cases ry with
  | Ċ=>cases rv;simp only [eN];exact⟨.tuple_none t1 h0,.tuple_none t1 h0,.tuple_none t1 h0⟩
  | bl b=>cases rv;simp only [eN];exact⟨.tuple_bool _ t1 h0,.tuple_bool _ t1 h0,.tuple_bool _ t1 h0⟩
  | int j=>obtain⟨t,rfl⟩:=rv;simp only [eN];exact⟨.tuple_int _ _ t1 h0,.tuple_int _ _ t1 h0,.tuple_int _ _ t1 h0⟩
  | str z=>obtain⟨t,rfl⟩:=rv;simp only [eN];exact⟨.tuple_str _ _ t1 h0,.tuple_str _ _ t1 h0,.tuple_str _ _ t1 h0⟩
  | @tup b' ys es h' ts =>
   cases rv;obtain⟨Θ,r2,t2,_⟩:=I.tuple (đ.of h');have SG:ħ ds=true:=by simpa only [aT] using pd
   have Vj:ħ es=true:=by simpa only [aT] using pe
   have dd:A.in1.units+PyData.depthAll ds<cLine:=by rw [kT];simp only [PyData.depth] at hu;omega
   have k:=vZ h0 t1 t2 (λ j=>eN (ds.getD j .none) (es.getD j .none)) (λ j h1 h2=>M5 I rs ts SG Vj dd r1 r2 h1 h2);rw [<- r1.length,<- r2.length,rs.length,ts.length,jF] at k;simp only [eN];refine⟨k.eq,k.ne,?_⟩;by_cases e:a'=b'
   ·subst e;rw [h] at h';cases h';have:=Ù.det rs ts;subst this;rw [Δ SG];exact MG _
   ·exact .of_refs e k.eq
  | lst h' _=>cases rv;obtain⟨Θ,_,t,_⟩:=I.list (ç.of h');simp only [eN];exact⟨.tuple_list t1 t.isList h0,.tuple_list t1 t.isList h0,.tuple_list t1 t.isList h0⟩
  | Ε _=>simp [aT] at pe
  | MM _ _=>simp [aT] at pe
 | _,_,.Ε _,_,_,_,_,_,_,pd,_,_,_,_=>by simp [aT] at pd
 | _,_,.MM _ _,_,_,_,_,_,_,pd,_,_,_,_=>by simp [aT] at pd
theorem M5 (I:Inv X Ä σ H s):∀{xs:List V}{ds:List PyData},Ù H xs ds->∀{A:Around}{ys:List V}{es:List PyData} {its Θ:List Value},Ù H ys es->ħ ds=true->ħ es=true->A.units+PyData.depthAll ds<cLine->Vals xs its->Vals ys Θ ->
  ∀{j:Nat}(h1:j<its.length)(h2:j < Θ.length),SeqAt.EqAt A s its[j] Θ[j] (eN (ds.getD j .none) (es.getD j .none))
 | _,_,.nil,A,ys,es,its,Θ,ts,pd,pe,hu,r1,r2,j,h1,h2=>by cases r1;exact absurd h1 (ė _)
 | _,_,.cons r rs,A,ys,es,its,Θ,ts,pd,pe,hu,r1,r2,j,h1,h2=>by
  cases ts with
  | nil=>cases r2;exact absurd h2 (ė _)
  | cons r' ts =>
   cases r1 with
   | cons q1 r1 =>
    cases r2 with
    | cons q2 r2 =>
     simp only [ħ,Bool.and_eq_true] at pd pe;simp only [PyData.depthAll] at hu;cases j with
     | zero =>
      exact(pP I r r' pd.1 pe.1 ai q1 q2).at_
     | succ j=>exact M5 I rs ts pd.2 pe.2 ai r1 r2 (by simpa using h1) (by simpa using h2)
end
def t6 (g:Bool->Bool):R2:=λ x y H Q=>∃ d e,Ĝ H x d/\Ĝ H y e/\aT d=true/\aT e=true/\d.depth<=20/\Q (.bl (g (eN d e))) H
theorem AM (hu:X.A.units+64<cLine):jn X (compareOp .Eq) (t6 id):=by
 intro Ä s σ H x y v u Q I rx ry h;obtain⟨d,e,r1,r2,p1,p2,dd,k⟩:=h;exact(pP I r1 r2 p1 p2 ai rx ry).eq X.prog X.w X.xe _ ⟨.bl _,H,I,rfl,k⟩
theorem tO (hu:X.A.units+64<cLine):jn X (compareOp .NotEq) (t6 not):=by
 intro Ä s σ H x y v u Q I rx ry h;obtain⟨d,e,r1,r2,p1,p2,dd,k⟩:=h;exact(pP I r1 r2 p1 p2 ai rx ry).ne X.prog X.w X.xe _ ⟨.bl _,H,I,rfl,k⟩
end
end My
namespace My
open PySem PySem.W L2
def bJ (P:Program)(w:World)(K:Frag)(mg:bC)(base:Heap)(CX:kX)(k:Nat)(m:Str)(ps:List Str)(S:Addr->Prop)(sp:Addr->Sp):Prop :=
 ∀ C,S C->OF K C/\∃ f fd,G2 K C m f/\à P w K mg base CX k f fd ps (sp C)/\Binds K fd ps []
def cr (S:Addr->Prop)(m:Str)(sp:Addr->Sp)(E:XK)(ta:TE)(t:TA):TE:=λ σ H Q=>ta σ H λ x H1=>∃ a C dx fs,x=.ref a/\S C/\H1 a=some (.ins C dx fs)/\fs.lookup m=none /\
 t σ H1 λ vs H2=>sp C (x::vs) H2 Q E
section
variable {X:Cx}{CX:kX}{k:Nat}{S:Addr->Prop}{ps:List Str}{sp:Addr->Sp}{E:XK}{x m:Str}{p ô Œ:Pos}{e o:Expr}{es:List Expr}{ta:TE}{t:TA}{σ:St}
theorem gm (he:PE X o ta)(M:bJ X.prog X.w X.K X.mg X.base CX k m ps S sp)(hr:ă k X.A)(hx:dX CX X E)(ha:PA X (e::es) t)
  (OM:starEach (e::es) X.env=(false,eval e X.env)::starEach es X.env:=by rfl)(ź:(backTo ô (starEach es X.env)).any (·.1)=false:=by rfl)
  (ht:eval (.Call (.Attribute o m Œ) (e::es) [] ô) X.env=(do
   let ov <- eval o X.env
   standAt Œ.atName
   let (f,first) <- holding [ov] (getMethod ov m pl)
   callWith ô f first (backTo ô (starEach (e::es) X.env)) (backToKw ô (keywordEach [] X.env))):=by rfl) :
  PE X (.Call (.Attribute o m Œ) (e::es) [] ô) (cr S m sp E ta t):=by
 intro Ä s σ H Q I h;refine ň (aV (he Ä s σ H _ I h) λ u s1 ⟨x,H1,I1,rx,a,C,dx,fs,ex,hS,ea,l,q⟩=>?_) ht;subst ex;obtain⟨c,f,fd,hm,F,hb⟩:=M C hS;obtain rfl:u=.ref a:=rx;refine hV I1 ea c hm l ?_;refine Ł I.ok.mod.QQ hm.kp (aV (ha ô Ä s1 σ H1 _ I1 q) λ us s2 ⟨vs,H2,I2,r,q2⟩=>⟨I2.Ō,?_⟩) OM ź;exact my (vs:=.ref a::vs) F hr hb .nil hx I2 (.cons rfl r) (by rw [Ę];exact q2)
theorem bt (he:PE X o ta)(M:bJ X.prog X.w X.K X.mg X.base CX k m ps S sp)(hr:ă k X.A)(hx:dX CX X E)
  (ht:eval (.Call (.Attribute o m Œ) [] [] ô) X.env=(do
   let ov <- eval o X.env
   standAt Œ.atName
   let (f,first) <- holding [ov] (getMethod ov m pl)
   callWith ô f first (backTo ô (starEach [] X.env)) (backToKw ô (keywordEach [] X.env))):=by rfl) :
  PE X (.Call (.Attribute o m Œ) [] [] ô) (cr S m sp E ta aK):=by
 intro Ä s σ H Q I h;refine ň (aV (he Ä s σ H _ I h) λ u s1 ⟨x,H1,I1,rx,a,C,dx,fs,ex,hS,ea,l,q⟩=>?_) ht;subst ex;obtain⟨c,f,fd,hm,F,hb⟩:=M C hS;obtain rfl:u=.ref a:=rx;refine hV I1 ea c hm l ?_;exact PySem.W.callWith_K0 I1.Ō hm.kp (my (vs:=[.ref a]) F hr hb .nil hx I1 (.cons rfl .nil) q)
theorem uU (he:PX X σ o ta)(M:bJ X.prog X.w X.K X.mg X.base CX k m ps S sp)(hr:ă k X.A)(hx:tM CX X σ E)(ha:Ef X σ (e::es) t)
  (OM:starEach (e::es) X.env=(false,eval e X.env)::starEach es X.env:=by rfl)(ź:(backTo ô (starEach es X.env)).any (·.1)=false:=by rfl)
  (ht:eval (.Call (.Attribute o m Œ) (e::es) [] ô) X.env=(do
   let ov <- eval o X.env
   standAt Œ.atName
   let (f,first) <- holding [ov] (getMethod ov m pl)
   callWith ô f first (backTo ô (starEach (e::es) X.env)) (backToKw ô (keywordEach [] X.env))):=by rfl) :
  PX X σ (.Call (.Attribute o m Œ) (e::es) [] ô) (cr S m sp E ta t):=by
 intro Ä s H Q I h;refine ň (aV (he Ä s H _ I h) λ u s1 ⟨x,H1,I1,rx,a,C,dx,fs,ex,hS,ea,l,q⟩=>?_) ht;subst ex;obtain⟨c,f,fd,hm,F,hb⟩:=M C hS;obtain rfl:u=.ref a:=rx;refine hV I1 ea c hm l ?_;refine Ł I.ok.mod.QQ hm.kp (aV (ha ô Ä s1 H1 _ I1 q) λ us s2 ⟨vs,H2,I2,r,q2⟩=>⟨I2.Ō,?_⟩) OM ź;exact v6 (vs:=.ref a::vs) F hr hb .nil hx I2 (.cons rfl r) (by rw [Ę];exact q2)
end
section
variable {K:Frag}{te:TE}{tt:TT}{g:TG}{k:Nat}{cap:St}{D:Addr}{H1:Hp}{Q:Hp->Prop}{a:Addr}{xs:List V}
theorem qM (Pv:Nat->List V->Hp->Prop)(hz:xs.length<sizeLine)(h0:Pv 0 [] (ad H1 D (.lst [])))
  (hl:∀ i ys H,Pv i ys H->đ K H a xs)
  (hs:∀ i x ys H,xs[i]?=some x->ys.length=i->H D=some (.lst ys)->Pv i ys H->∀ os:St,os.length=k->∀ R:VK,(∀ y H4,H4 D=some (.lst ys)->Pv (i+1) (ys ++ [y]) (ad H4 D (.lst (ys ++ [y])))->R y H4)->g x (os++cap) H λ Ĵ H0=>(∃ ō:St,ō.length=k/\Ĵ = ō ++ cap)/\te Ĵ H0 R)
  (hd:∀ ys H,ys.length=xs.length->H D=some (.lst ys)->Pv xs.length ys H->Q H) :
  ∃ W:Nat->Nat->List V->Hp->Prop,(∃ m,W 0 m [] (ad H1 D (.lst []))) /\
   ∀ i m ys H2,W i m ys H2->H2 D=some (.lst ys)/\(((DC K a).stop i H2/\Q H2)\/((DC K a).go i H2/\ys.length<sizeLine /\
    ∀ x H3,(DC K a).MJ i H2 x H3->∀ os:St,os.length=k->g x (os++cap) H3 λ Ĵ H0=>(∃ ō:St,ō.length=k/\Ĵ = ō ++ cap)/\te Ĵ H0 λ y H4=>H4 D=some (.lst ys)/\∃ m',m'<m/\W (i+1) m' (ys ++ [y]) (ad H4 D (.lst (ys ++ [y]))))):=by
 refine⟨λ i m ys H=>m=xs.length-i/\i<=xs.length/\ys.length=i/\H D=some (.lst ys)/\Pv i ys H,⟨xs.length,by simp,Nat.zero_le _,rfl,aM,h0⟩,?_⟩
 rintro i m ys H ⟨rfl,hi,hy,hD,p⟩;refine⟨hD,?_⟩;have q:=hl i ys H p;by_cases ŵ:i<xs.length
 ·refine .inr ⟨⟨xs,xs[i],q,by simp [ŵ]⟩,ai,λ x H' y=>?_⟩
  obtain⟨e,y⟩:=y;subst e;exact λ os ŀ=>hs i x ys _ (y xs q) hy hD p os ŀ _ λ z H4 RE p4=>⟨RE,xs.length-(i+1),ai,rfl,ŵ,by rw [Í,hy];rfl,aM,p4⟩
 ·have e:i=xs.length:=ai;subst e;exact .inl ⟨⟨xs,q,Ê _⟩,hd ys H hy hD p⟩
end
theorem bj (o:HO):Kept H (ad H p o) p:=λ b u h n=>by rw [af n];exact h
def eS:PyData->Bool
 | .tuple [.int a,.int b]=>(decide (1<=b)&&(decide (0<=a)&&decide (a<=b)))&&decide (Nat.gcd a.toNat b.toNat=1)
 | _=>false
def eI:PyData->Bool
 | .tuple [.int a,.int b]=>eS (.tuple [.int a,.int b])&&(decide (2<=b)&&decide (b<=100))
 | _=>false
def c5 (lo:Int)(n:Nat):List Int:=(List.range n).map λ k=>lo+(k:Nat)
def qj (p:List Int):PyData:=.tuple (p.map .int)
def nH (p:List Int):PyData:=.list (p.map .int)
theorem mh (lo:Int)(n:Nat):vz lo n=(c5 lo n).map V.int:=by unfold vz c5;rw [Q6];rfl
theorem c8 (G:Hp):∀(ns:List Int),Ù G (ns.map V.int) (ns.map PyData.int)
 | []=>.nil
 | n::ns=>.cons (.int _) (c8 G ns)
theorem mX:∀{p:List Int}{ys:List V},Ù G ys (p.map PyData.int)->ys=p.map V.int
 | [],_,h=>by cases h;rfl
 | n::p,_,h=>by
  cases h with
  | cons r t =>
   cases r;rw [mX t];rfl
theorem jY {ps:List (List Int)}(rs:Ù G xs (ps.map qj)){i:Nat}(hx:xs[i]?=some x)(hp:ps[i]?=some p):∃ a,x=.ref a/\G a=some (.tup (p.map V.int)):=by
 obtain⟨d,ed,rd⟩:=rs.get hx;rw [Ç,hp] at ed;cases ed;obtain⟨a,ys,rfl,ha,ry⟩:=gL rd;refine⟨a,rfl,?_⟩;rw [<- mX ry];exact ha
def yu:HO->Bool
 | .lst _=>true
 | .tup _=>true
 | .dK _=>true
 | _=>false
mutual
theorem Ĝ.keep (s:∀ b o,G b=some o->yu o=true->G' b=some o):∀{v:V}{d:PyData},Ĝ G v d->Ĝ G' v d
 | _,_,.Ċ=>.Ċ
 | _,_,.bl b=>.bl b
 | _,_,.int i=>.int i
 | _,_,.str x=>.str x
 | _,_,.lst e r=>.lst (s _ _ e rfl) (Ù.keep s r)
 | _,_,.tup e r=>.tup (s _ _ e rfl) (Ù.keep s r)
 | _,_,.Ε e=>.Ε (s _ _ e rfl)
 | _,_,.MM e r=>.MM (s _ _ e rfl) (Ĝ.keep s r)
theorem Ù.keep (s:∀ b o,G b=some o->yu o=true->G' b=some o):∀{vs:List V}{ds:List PyData},Ù G vs ds->Ù G' vs ds
 | _,_,.nil=>.nil
 | _,_,.cons r t=>.cons (Ĝ.keep s r) (Ù.keep s t)
end
theorem Ĝ.kept (r:Ĝ H v d)(hx:H x=some (.ins C dx fs))(k:Kept H H' x):Ĝ H' v d :=
 r.keep λ b o e h=>k b o e λ z=>by rw [z,hx] at e;cases e;cases h
inductive R0 where
 | split (n k:Int)
 | pairs (n a b:Int)
 | ť (n a b f:Int)
def R0.Ñ:R0->Int
 | .split n _=>n
 | .pairs n _ _=>2*n
 | .ť n _ _ _=>n
def R0.begin:R0->PyData
 | .split _ k=>.int k
 | .pairs _ _ _=>.none
 | .ť _ _ _ _=>.int 0
def R0.told:R0->PyData
 | .split n k=>.tuple [.str "split",.int n,.int k]
 | .pairs n a b=>.tuple [.str "pairs",.int n,.tuple [.int a,.int b]]
 | .ť n a b f=>.tuple [.str "coins",.int n,.tuple [.int a,.int b],.int f]
def R0.kind:R0->Nat
 | .split _ _=>0
 | .pairs _ _ _=>1
 | .ť _ _ _ _=>2
def R0.ok:R0->Prop
 | .split n k=>1<=n/\n<=20/\0<=k/\k<=n
 | .pairs n a b=>1<=n/\n<=10/\eI (.tuple [.int a,.int b])=true
 | .ť n a b f=>1<=n/\n<=20/\eI (.tuple [.int a,.int b])=true/\1<=f/\f<=20
theorem R0.ď {r:R0}(h:r.ok):1<=r.Ñ/\r.Ñ <= 20:=by
 cases r <;> simp only [R0.ok,R0.Ñ] at * <;> omega
def cX:Int->List Int->List (List Int)
 | _,[]=>[]
 | s,n::ns=>c5 s n.toNat::cX (s+n) ns
def i4 (m:Int)(ps:List (List Int)):List (List Int):=(ps.map (·.filter λ x=>decide (x<m))).filter λ p=>decide (0<p.length)
inductive Rl where
 | one (r:R0)
 | blocks (rs:List R0)
 | first (t:Rl)(m:Int)
def Rl.Ñ:Rl->Int
 | .one r=>r.Ñ
 | .blocks rs=>(rs.map R0.Ñ).sum
 | .first _ m=>m
def Rl.begin:Rl->PyData
 | .one r=>r.begin
 | .blocks []=>.tuple [.int 0,.none]
 | .blocks (r::_)=>.tuple [.int 0,r.begin]
 | .first t _=>t.begin
def Rl.told:Rl->PyData
 | .one r=>r.told
 | .blocks rs=>.tuple [.str "blocks",.tuple (rs.map R0.told)]
 | .first t m=>.tuple [.str "first",t.told,.int m]
def Rl.parts:Rl->List (List Int)
 | .one r=>[c5 0 r.Ñ.toNat]
 | .blocks rs=>cX 0 (rs.map R0.Ñ)
 | .first t m=>i4 m t.parts
def Rl.kind:Rl->Nat
 | .one r=>r.kind
 | .blocks _=>3
 | .first _ _=>4
def Rl.inner:Rl->Rl
 | .first t _=>t.inner
 | t=>t
def fG (ps:List (List Int)):PyData:=.tuple (ps.map qj)
def Rl.ok:Rl->Prop
 | .one r=>r.ok
 | .blocks rs=>1<=rs.length/\rs.length<=6/\(∀ r∈rs,r.ok)/\(rs.map R0.Ñ).sum<=20
 | .first t m=>t.ok/\0<=m/\m<=t.Ñ
theorem cM:∀{ns:List Int},(∀ n∈ns,0<=n)->0<=ns.sum
 | [],_=>by simp
 | n::ns,h=>by
  have:=h n (ò ..);have:=cM λ x hx=>h x (á _ hx);simp only [List.sum_cons];omega
theorem Rl.ď:∀{t:Rl},t.ok->0<=t.Ñ/\t.Ñ <= 20
 | .one r,h=>by have:=R0.ď h;simp only [Rl.Ñ];omega
 | .blocks rs,h=>by
  obtain⟨_,_,h3,h4⟩:=h;refine⟨cM λ n hn=>?_,h4⟩;obtain⟨r,hr,rfl⟩:=ð.mp hn;have:=R0.ď (h3 r hr);omega
 | .first t m,h=>by
  obtain⟨h1,h2,h3⟩:=h;have:=Rl.ď h1;simp only [Rl.Ñ];omega
def i7:List Str:=["folk","begin","steps","told","blocks","state_ahead","state_behind"]
structure Ob (C:Addr)(H:Hp)(v:V)(fk:Int)(bg tl pt:PyData)(X:List (Str × V)->Prop):Prop where
 ex:∃ a dx fs,v=.ref a/\H a=some (.ins C dx fs)/\fs.lookup ("size" : Str)=some (.int fk)/\(∃ b,fs.lookup ("first_state" : Str)=some b/\Ĝ H b bg)/\(∃ m,fs.lookup ("mark" : Str)=some m/\Ĝ H m tl)/\(∃ p,fs.lookup ("parts" : Str)=some p/\Ĝ H p pt)/\(∀ m∈i7,fs.lookup m=none)/\X fs
def R0.extra (H:Hp):R0->List (Str × V)->Prop
 | .split _ _,_=>True
 | .pairs _ a b,fs=>∃ c,fs.lookup ("coin" : Str)=some c/\Ĝ H c (.tuple [.int a,.int b])
 | .ť _ a b f,fs=>(∃ c,fs.lookup ("coin" : Str)=some c/\Ĝ H c (.tuple [.int a,.int b]))/\fs.lookup ("far" : Str)=some (.int f)
def m_ (C:Nat->Addr)(H:Hp)(r:R0)(v:V):Prop:=Ob (C r.kind) H v r.Ñ r.begin r.told (fG [c5 0 r.Ñ.toNat]) (r.extra H)
def ε (C:Nat->Addr)(H:Hp)(rs:List R0)(ws:List V):Prop:=rs.length=ws.length/\∀(i:Nat) r w,rs[i]?=some r->ws[i]?=some w->m_ C H r w
def OC (C:Nat->Addr)(H:Hp)(rs:List R0)(v:V):Prop:=Ob (C 3) H v (Rl.blocks rs).Ñ (Rl.blocks rs).begin (Rl.blocks rs).told (fG (Rl.blocks rs).parts) (λ fs=>∃ l ws,fs.lookup ("rules" : Str)=some (.ref l)/\H l=some (.tup ws)/\ε C H rs ws)
def PU (C:Nat->Addr)(H:Hp):Rl->V->Prop
 | .one r,v=>m_ C H r v
 | .blocks rs,v=>OC C H rs v
 | .first _ _,_=>False
def Ru (C:Nat->Addr)(H:Hp):Rl->V->Prop
 | .one r,v=>m_ C H r v
 | .blocks rs,v=>OC C H rs v
 | .first t m,v=>Ob (C 4) H v m t.begin (Rl.first t m).told (fG (Rl.first t m).parts) (λ fs=>∃ d,fs.lookup ("dealer" : Str)=some d/\PU C H t.inner d)
theorem Ob.mono (h:Ob C H v fk bg tl pt X)(x:Ext H H')(k:∀ fs,X fs->Y fs):Ob C H' v fk bg tl pt Y:=by
 obtain⟨a,dx,fs,rfl,ha,h1,⟨b,h2,r2⟩,⟨m,h3,r3⟩,⟨p,h4,r4⟩,h5,h6⟩:=h.ex;exact⟨a,dx,fs,rfl,x _ _ ha,h1,⟨b,h2,r2.mono x⟩,⟨m,h3,r3.mono x⟩,⟨p,h4,r4.mono x⟩,h5,k fs h6⟩
section
variable {C:Nat->Addr}{H H':Hp}
theorem m_.ext (h:m_ C H r v)(x:Ext H H'):m_ C H' r v:=Ob.mono h x λ fs e=>by
 cases r with
 | split _ _=>trivial
 | pairs _ a b =>
  obtain⟨c,e1,e2⟩:=e;exact⟨c,e1,e2.mono x⟩
 | ť _ a b f =>
  obtain⟨⟨c,e1,e2⟩,e3⟩:=e;exact⟨⟨c,e1,e2.mono x⟩,e3⟩
theorem ε.ext (h:ε C H rs ws)(x:Ext H H'):ε C H' rs ws:=⟨h.1,λ i r w a b=>m_.ext (h.2 i r w a b) x⟩
theorem OC.ext (h:OC C H rs v)(x:Ext H H'):OC C H' rs v:=Ob.mono h x λ fs e=>by
 obtain⟨l,ws,e1,e2,e3⟩:=e;exact⟨l,ws,e1,x _ _ e2,e3.ext x⟩
theorem PU.ext (h:PU C H t v)(x:Ext H H'):PU C H' t v:=by
 cases t with
 | one r=>exact m_.ext h x
 | blocks rs=>exact OC.ext h x
 | first _ _=>exact h.elim
theorem Ru.ext (h:Ru C H t v)(x:Ext H H'):Ru C H' t v:=by
 cases t with
 | one r=>exact m_.ext h x
 | blocks rs=>exact OC.ext h x
 | first t m=>exact Ob.mono h x λ fs ⟨d,e1,e2⟩=>⟨d,e1,e2.ext x⟩
theorem Ru.ob (h:Ru C H t v):Ob (C t.kind) H v t.Ñ t.begin t.told (fG t.parts) (λ _=>True):=by
 cases t with
 | one r=>exact Ob.mono h (.refl _) λ _ _=>trivial
 | blocks rs=>exact Ob.mono h (.refl _) λ _ _=>trivial
 | first t m=>exact Ob.mono h (.refl _) λ _ _=>trivial
end
theorem R0.Ĥ (r:R0):r.kind<3:=by cases r <;> simp [R0.kind]
theorem Rl.Ĥ (t:Rl):t.kind<5:=by
 cases t with
 | one r=>have:=r.Ĥ;show r.kind<5;omega
 | blocks _=>show 3<5;decide
 | first _ _=>show 4<5;decide
def fL:List Str:=["size","first_state","mark","parts","coin","far","rules","dealer"]
structure KR (K:Frag)(C:Nat->Addr)(CR:Addr):Prop where
 cls:∀ i,i<5->OF K (C i)
 no:∀ i,i<5->∀ f∈fL,ž K (C i) f
 ha:∀ i,i<5->PySem.W.findIn K (.ref (C i)) "__class__" = some (some (.builtin "object.__class__"))
 hn:PySem.W.specialIn K (.builtin "object.__class__") "__get__" = some (some (.builtin "getset_descriptor.__get__"))
 Nq:PySem.W.takesIn K (.builtin "object.__class__")=some true
 hm:∀ i,i<5->PySem.W.mroIn K (C i) (.type "object")=some true
 kk:∀ i j,i<5->j<5->kitOne K (.ref (C i)) (.ref (C j))=some (i==j)
 kR:∀ i,i<5->kitOne K (.ref (C i)) (.ref CR)=some true
 kl:∀ i,i<5->kitOne K (.ref (C i)) (.type "list")=some false
 kt:∀ i,i<5->kitOne K (.ref (C i)) (.type "tuple")=some false
 ki:∀ i,i<5->kitOne K (.ref (C i)) (.type "int")=some false
 kb:∀ i,i<5->kitOne K (.ref (C i)) (.type "bool")=some false
def qN (C:Nat->Addr)(c:Addr):Prop:=∃ i,i<5/\c=C i
section
variable {K:Frag}{C:Nat->Addr}{CR:Addr}{H:Hp}
theorem Ob.kd (Z:KR K C CR)(hi:i<5)(h:Ob (C i) H v fk bg tl pt X):Kd K H v (.ref (C i)):=by
 obtain⟨a,dx,fs,rfl,ha,_⟩:=h.ex;exact .inl (.ins ha (Z.cls i hi) (Z.ha i hi) Z.hn Z.Nq (Z.hm i hi))
theorem Ru.kd (Z:KR K C CR)(h:Ru C H t v):Kd K H v (.ref (C t.kind)):=h.ob.kd Z t.Ĥ
theorem cG (hm:m∈i7)(h:Ru C H t v)(ht:∀ R:VK,R v H->ta σ H R)(q:sp (C t.kind) [v] H Q E):cr (qN C) m sp E ta aK σ H Q:=by
 obtain⟨a,dx,fs,rfl,ha,_,_,_,_,h5,_⟩:=h.ob.ex;exact ht _ ⟨a,C t.kind,dx,fs,rfl,⟨_,t.Ĥ,rfl⟩,ha,h5 m hm,q⟩
end
theorem hZ:∀(ns:List Int),ħ (ns.map PyData.int)=true
 | []=>by simp [ħ]
 | n::ns=>by simp only [List.map_cons,ħ,aT,hZ ns,Bool.and_self]
end My
namespace My
open PySem PySem.W L2
def oI:V->V->Bool
 | x,.int j=>decide (1<=j)&&NP 0 j x
 | _,_=>false
theorem tW (h:∀ i,y ≠ .int i):oI x y=false:=by
 cases y with
 | int i=>exact absurd rfl (h i)
 | _=>rfl
section
variable {P:Program}{w:World}{K:Frag}{mg:bC}{base:Heap}
abbrev pF:Stmt:=cw 12
def mI (K:Frag):Sp:=λ vs H Q _=>∃ x,vs=[x]/\Th K H x/\Q (.bl (Gg x)) H
theorem Kc:ae ["thing"] ["thing"] (aa pF):=aR
theorem tz (N:sP K)(F:Ī K "is_number" "is_number" pF f fd)(mi:mg "isinstance" = none)(m1:mg "int" = none)(m2:mg "bool" = none):à P w K mg base aB 1 f fd ["thing"] (mI K):=by
 refine F.ok Kc (λ vs H Q E h=>?_) (λ cdv A outer s H vs Q E hr h=>?_)
 ·obtain⟨c,rfl,_⟩:=h;rfl
 obtain⟨x,rfl,th,q⟩:=h;refine⟨_,aX (dk (fw (aj (cK N) rfl mi Û (ac (pv 0) (ac (gz rfl m1 ŉ) ao)))
  (fH (tL (aj (cK N) rfl mi Û (ac (pv 0) (ac (gz rfl m2 Ũ) ao))))))),?_⟩
 rcases th with⟨i,rfl⟩ | ⟨n,t,b1,b2,kd,k1,k2,z⟩
 ·exact⟨_,rfl,_,_,_,_,rfl,.inl (.int i),G1,_,rfl,⟨_,rfl,_,_,_,_,rfl,.inl (.int i),CL,_,rfl,q⟩⟩
 ·rw [lR n] at q;refine⟨_,rfl,_,_,_,_,rfl,kd,k1,_,rfl,?_⟩;cases b1 with
  | false=>exact bZ q
  | true =>
   refine cy ⟨_,rfl,_,_,_,_,rfl,kd,k2,_,rfl,?_⟩;have e:(!b2)=false:=z;rw [e];exact q
abbrev tR:Stmt:=cw 13
def gD (K:Frag):Sp:=λ vs H Q _=>∃ x lo hi,vs=[x,.int lo,.int hi]/\Th K H x/\Q (.bl (NP lo hi x)) H
theorem Ic:ae ["thing","low","high"] ["thing","low","high"] (aa tR):=aR
theorem xq (F:Ī K "is_whole" "is_whole" tR f fd)(G:à P w K mg base aB 1 g gd ["thing"] (mI K))(bG:Binds K gd ["thing"] [])(kG:keepIn K (.ref g)=true)(mG:mg "is_number" = some (.ref g)) :
  à P w K mg base aB 2 f fd ["thing","low","high"] (gD K):=by
 refine F.ok Ic (λ vs H Q E h=>?_) (λ cdv A outer s H vs Q E hr h=>?_)
 ·obtain⟨c,lo,hi,rfl,_⟩:=h;rfl
 obtain⟨x,lo,hi,rfl,th,q⟩:=h;refine⟨_,aX (dk (fw (kU G hr rfl mG kG bG .nil ak (ac (pv 0) ao)) (fw (dB yB (pv 1) (pv 0) (ax _)) (fH (dB yB (pv 0) (pv 2) (ax _)))))),?_⟩;refine⟨_,rfl,x,rfl,th,_,rfl,?_⟩;rcases th with⟨i,rfl⟩ | ⟨n,_⟩
 ·refine cy ⟨_,rfl,_,rfl,_,_,rfl,rfl,_,rfl,?_⟩;refine jP (λ c=>?_) (λ c=>?_)
  ·refine⟨_,rfl,_,rfl,_,_,rfl,rfl,?_⟩;have q':Q (.bl (decide (lo<=i)&&decide (i<=hi))) H:=q;rw [Ë (Ĉ c),Ň] at q';exact q'
  ·have q':Q (.bl (decide (lo<=i)&&decide (i<=hi))) H:=q;rw [È (λ z=>c (Ë z)),Χ] at q';exact q'
 ·rw [lR n];rw [BY n] at q;exact bZ q
abbrev AL:Stmt:=cw 16
def xZ:Sp:=λ vs H Q _=>∃ a b:Nat,vs=[.int a,.int b]/\Q (.int (Nat.gcd a b)) H
theorem Xj:ae ["one","other"] ["one","other"] (aa AL):=aR
def J5:St->Nat
 | [_,some (.int b)]=>b.toNat
 | _=>0
theorem AR (F:Ī K "greatest_common" "greatest_common" AL f fd):à P w K mg base aB 1 f fd ["one","other"] xZ:=by
 refine F.ok Xj (λ vs H Q E h=>?_) (λ cdv A outer s H vs Q E hr h=>?_)
 ·obtain⟨c,lo,rfl,_⟩:=h;rfl
 obtain⟨a,b,rfl,q⟩:=h;have nd:=Xj.nd;refine⟨_,bU (j6 .never (ar f9 (pv 1) aF (ax _)) (aX (Ak (i:=0) (j:=1) rfl nd rfl rfl au rfl rfl (ac (pv 1) (ac (aE c6 (pv 0) (pv 1)) ao)) rfl))) (aX (dk (pv 0))),?_⟩;refine uQ (λ σ H'=>H'=H/\∃ x y:Nat,σ=[some (.int x),some (.int y)]/\Nat.gcd x y=Nat.gcd a b) (λ σ _=>J5 σ) ⟨rfl,a,b,rfl,rfl⟩ ?_ ?_
 ·rintro σ H' ⟨rfl,x,y,rfl,e⟩;refine⟨_,rfl,_,_,rfl,rfl,_,rfl,?_⟩;refine jP (λ c=>?_) (λ c=>?_)
  ·have c':=Ĉ c;refine⟨_,rfl,_,rfl,_,rfl,_,_,rfl,rfl,c',_,_,rfl,⟨rfl,y,x%y,?_,?_⟩,?_⟩
   ·show [some (V.int y),some (V.int ((x:Int)%(y:Int)))]=_;rw [show((x:Int)%(y:Int))=((x%y:Nat):Int) from by simp]
   ·rw [<- e,Nat.gcd_comm x y,Nat.gcd_rec y x,Nat.gcd_comm]
   ·show((x:Int)%(y:Int)).toNat<(y:Int).toNat;have:=ł (x:Int) c';omega
  ·have c':¬ (0:Int)<(y:Int):=λ z=>c (Ë z);have y0:y=0:=ai;subst y0;rw [Nat.gcd_zero_right] at e;refine⟨_,rfl,?_⟩;rw [e];exact q
 ·rintro σ H Q Q' m ⟨x,e,i,j,h1,h2,b,hb,q⟩;exact⟨x,e,i,j,h1,h2,b,hb,m _ _ q⟩
abbrev vk:Stmt:=cw 17
def uK (K:Frag):Sp:=λ vs H Q _=>∃ x y,vs=[x,y]/\Th K H x/\Th K H y/\Q (.bl (oI x y)) H
theorem HT:ae ["top","bottom"] ["top","bottom"] (aa vk):=aR
theorem vB (F:Ī K "is_part" "is_part" vk f fd)(G:à P w K mg base aB 1 g gd ["thing"] (mI K))(bG:Binds K gd ["thing"] [])(kG:keepIn K (.ref g)=true)(mG:mg "is_number" = some (.ref g))
  (W:à P w K mg base aB 2 k kd ["thing","low","high"] (gD K))(bW:Binds K kd ["thing","low","high"] [])(kW:keepIn K (.ref k)=true)(mW:mg "is_whole" = some (.ref k)):à P w K mg base aB 3 f fd ["top","bottom"] (uK K):=by
 refine F.ok HT (λ vs H Q E h=>?_) (λ cdv A outer s H vs Q E hr h=>?_)
 ·obtain⟨x,y,rfl,_⟩:=h;rfl
 obtain⟨x,y,rfl,tx,ty,q⟩:=h;have ĭ:=hr.mono (show 1<=2 by decide)
 refine⟨_,aX (dk (fw (kU G ĭ rfl mG kG bG .nil ak (ac (pv 1) ao)) (fw (dB yv (pv 1) aF (ax _)) (fH (kU W hr rfl mW kW bW .nil ak (ac (pv 0) (ac aF (ac (pv 1) ao)))))))),?_⟩;refine⟨_,rfl,y,rfl,ty,_,rfl,?_⟩;rcases ty with⟨j,rfl⟩ | ⟨n,_⟩
 ·refine cy ⟨_,rfl,_,_,rfl,rfl,_,rfl,?_⟩;have q':Q (.bl (decide (1<=j)&&NP 0 j x)) H:=q;refine jP (λ c=>?_) (λ c=>?_)
  ·rw [Ë (Ĉ c),Ň] at q';exact⟨_,rfl,_,rfl,x,0,j,rfl,tx,q'⟩
  ·rw [È (λ z=>c (Ë z)),Χ] at q';exact q'
 ·rw [lR n];rw [tW n] at q;exact bZ q
abbrev yC:Stmt:=cw 19
def yt:Sp:=λ vs H Q _=>∃ x d,vs=[x]/\Ĝ H x d/\Q (.bl (eS d)) H
theorem QC:ae ["thing","top","bottom"] ["thing"] (aa yC):=aR
theorem p7 (r1:Ĝ H u d1)(r2:Ĝ H v d2):oI u v=false->eS (.tuple [d1,d2])=false:=by
 intro h;cases r1 with
 | int i =>
  cases r2 with
  | int j =>
   have h':(decide (1<=j)&&(decide (0<=i)&&decide (i<=j)))=false:=h;show((decide (1<=j)&&(decide (0<=i)&&decide (i<=j)))&&_)=false;rw [h'];rfl
  | _=>rfl
 | _=>cases r2 <;> rfl
theorem t7 (h:oI x y=true):∃ a b:Nat,x=.int a/\y=.int b/\1<=b/\a<=b:=by
 cases y with
 | int j =>
  have h':(decide (1<=j)&&NP 0 j x)=true:=h;rw [ŕ,ŝ] at h';obtain⟨h1,h2⟩:=h';cases x with
  | int i =>
   have h3:(decide (0<=i)&&decide (i<=j))=true:=h2;rw [ŕ,ŝ,ŝ] at h3;refine⟨i.toNat,j.toNat,?_,?_,ai,ai⟩
   ·congr 1;omega
   ·congr 1;omega
  | _=>cases h2
 | _=>cases h
theorem BX (N:sP K)(F:Ī K "is_share" "is_share" yC f fd)(A1:Df P w K mg base aB 3 "is_part" ["top","bottom"] (uK K) a1 d1)(A2:Df P w K mg base aB 1 "greatest_common" ["one","other"] xZ a2 d2)
  (mi:mg "isinstance" = none)(mt:mg "tuple" = none)(ml:mg "len" = none):à P w K mg base aB 4 f fd ["thing"] yt:=by
 refine F.ok QC (λ vs H Q E h=>?_) (λ cdv A outer s H vs Q E hr h=>?_)
 ·obtain⟨v,d,rfl,_⟩:=h;rfl
 obtain⟨v,d,rfl,rd,q⟩:=h;have nd:=QC.nd;have ĭ:ă 1 _:=hr.mono au;refine⟨_,bU (be (PW.pt (gR (cp (bE (aj (cK N) rfl mi Û (ac (pv 0) (ac (gz rfl mt ù) ao))))) (fv (ar lG (aj az rfl ml ê (ac (pv 0) ao)) aF (ax _))))) (aX (dk vy)) f6)
  (bU (gB (pv 0) (bF rfl (eF (cq (i:=1) nd rfl (Or.inl rfl)) (eF (cq (i:=2) nd rfl (Or.inl rfl)) aZ))))
  (aX (dk (fw (cZ A1 hr ak (ac (pv 1) (ac (pv 2) ao))) (fH (dB cj (cZ A2 ĭ ak (ac (pv 1) (ac (pv 2) ao))) aF (ax _))))))),?_⟩
 refine⟨_,rfl,_,_,_,_,rfl,rd.kd,rd.XH,_,rfl,?_⟩;cases e:BV d with
 | false =>
  refine cy (cy ?_);have z:eS d=false:=by cases d <;> first | rfl | cases e
  rw [z] at q;exact q
 | true =>
  obtain⟨ds,rfl⟩:∃ ds,d=.tuple ds:=by cases d <;> first | exact⟨_,rfl⟩ | cases e
  obtain⟨a,xs,rfl,ha,rs⟩:=gL rd;refine bZ ⟨_,rfl,a,_,rfl,.inr (đ.of ha),rfl,_,rfl,?_⟩;have len:=rs.length;by_cases l2:xs.length=2
  ·obtain⟨u,v,rfl⟩:∃ u v,xs=[u,v]:=by
    match xs,l2 with
    | [u,v],_=>exact⟨u,v,rfl⟩
   cases rs with
   | cons r1 rs =>
    cases rs with
    | cons r2 rs =>
     cases rs;refine bZ ⟨_,rfl,a,_,rfl,đ.of ha,rfl,_,_,rfl,_,_,rfl,rfl,?_⟩;refine⟨_,rfl,_,rfl,u,v,rfl,r1.th,r2.th,_,rfl,?_⟩;cases pv:oI u v with
     | false =>
      rw [p7 r1 r2 pv] at q;exact bZ q
     | true =>
      obtain⟨x,y,rfl,rfl,y1,xy⟩:=t7 pv;cases r1;cases r2;refine cy ⟨_,rfl,_,rfl,x,y,rfl,rfl,?_⟩;have q':Q (.bl ((decide ((1:Int)<=(y:Int))&&(decide ((0:Int)<=(x:Int))&&decide ((x:Int)<=(y:Int))))&&decide (Nat.gcd (x:Int).toNat (y:Int).toNat=1))) H:=q;rw [Ë (show(1:Int)<=(y:Int) by omega),Ë (show(0:Int)<=(x:Int) by omega),Ë (show(x:Int)<=(y:Int) by omega),Ģ,Ģ,Bool.and_self,Bool.and_self,Ň] at q'
      have ee:decide (V.int ((Nat.gcd x y:Nat):Int)=.int 1)=decide (Nat.gcd x y=1):=by
       by_cases g:Nat.gcd x y=1
       ·rw [Ë g,g];rfl
       ·rw [È g,È];intro z;injection z with z
        omega
      rw [ee];exact q'
  ·have e1:(!decide (V.int (xs.length:Nat)=.int 2))=true:=by
    rw [È]
    ·rfl
    ·intro h;injection h with h
     omega
   rw [e1];refine cy ?_;have z:eS (.tuple ds)=false:=by
    match ds,len,l2 with
    | [],_,_=>rfl
    | [_],_,_=>simp [eS]
    | [_,_],l,n=>exact absurd l n
    | _::_::_::_,_,_=>simp [eS]
   rw [z] at q;exact q
abbrev Ke:Stmt:=cw 29
def ui (CN:Addr):Sp:=λ vs H Q E=>∃ x d lo hi,vs=[x,.int lo,.int hi]/\Ĝ H x d/\(lP lo hi d=true->Q .Ċ H)/\(lP lo hi d=false->cQ CN "found" x H E)
theorem IG:ae ["thing","low","high"] ["thing","low","high"] (aa Ke):=aR
theorem GS (F:Ī K "need_number" "need_number" Ke f fd)(B:ĳ K D)(T:iM K mg D "NoNumber" "found" CN fC R3)(A1:Df P w K mg base aB 2 "is_whole" ["thing","low","high"] (gD K) a1 d1):à P w K mg base (cY P w) 3 f fd ["thing","low","high"] (ui CN):=by
 refine gP F IG λ cdv A outer s H vs Q E hr h=>?_;obtain⟨x,d,lo,hi,rfl,rd,q1,q2⟩:=h;refine⟨_,aX (be (cp (bE (cZ A1 hr ak (ac (pv 0) (ac (pv 1) (ac (pv 2) ao)))))) (aX (cE B T.cls (T.ok P w base) hr T.bi rfl T.Nm (pv 0))) f6),?_⟩;refine⟨_,rfl,_,rfl,_,rfl,x,lo,hi,rfl,rd.th,_,rfl,?_⟩;rw [rd.NP];cases e:lP lo hi d with
 | true=>exact bZ (q1 e)
 | false=>exact cy ⟨_,rfl,λ e' dx h1 h2 nd=>eJ nd (q2 e e' dx h1 h2 nd)⟩
abbrev IX:Stmt:=cw 30
def Bm (CS:Addr):Sp:=λ vs H Q E=>∃ x d,vs=[x]/\Ĝ H x d/\(eI d=true->Q .Ċ H)/\(eI d=false->cQ CS "found" x H E)
theorem HX:ae ["thing"] ["thing"] (aa IX):=aR
theorem pi (h:eS d=true):∃ a b,d=.tuple [.int a,.int b]:=by
 match d,h with
 | .tuple [.int a,.int b],_=>exact⟨a,b,rfl⟩
theorem Fp (F:Ī K "need_coin" "need_coin" IX f fd)(B:ĳ K D)(T:iM K mg D "NoShare" "found" CS fC R3)(A1:Df P w K mg base aB 2 "is_whole" ["thing","low","high"] (gD K) a1 d1)(A2:Df P w K mg base aB 4 "is_share" ["thing"] yt a2 d2)(mB:mg "MOST_BOTTOM" = some (.int 100 t)) :
  à P w K mg base (cY P w) 5 f fd ["thing"] (Bm CS):=by
 refine gP F HX λ cdv A outer s H vs Q E hr h=>?_;obtain⟨x,d,rfl,rd,q1,q2⟩:=h;have Md:ă 2 _:=hr.mono au;refine⟨_,aX (be (PW.pt (gR (cp (bE (cZ A2 hr ak (ac (pv 0) ao)))) (fv (cp (bE (cZ A1 Md ak (ac (cS ia (pv 0) aF) (ac aF (ac (bA (v:=.int 100) rfl mB ⟨_,rfl⟩) ao)))))))))
  (aX (cE B T.cls (T.ok P w base) Md T.bi rfl T.Nm (pv 0))) f6),?_⟩
 refine⟨_,rfl,x,d,rfl,rd,_,rfl,?_⟩;cases e:eS d with
 | false =>
  have z:eI d=false:=by
   match d,e with
   | .tuple [.int a,.int b],e=>show(eS (.tuple [.int a,.int b])&&_)=false;rw [e];rfl
   | .none,_ | .bool _,_ | .int _,_ | .str _,_ | .list _,_ | .dict _,_=>rfl
   | .tuple [],_=>rfl
   | .tuple [_],_=>simp [eI]
   | .tuple (_::_::_::_),_=>simp [eI]
   | .tuple [.int _,.none],_ | .tuple [.int _,.bool _],_ | .tuple [.int _,.str _],_ | .tuple [.int _,.list _],_ | .tuple [.int _,.tuple _],_ | .tuple [.int _,.dict _],_=>rfl
   | .tuple [.none,_],_ | .tuple [.bool _,_],_ | .tuple [.str _,_],_ | .tuple [.list _,_],_ | .tuple [.tuple _,_],_ | .tuple [.dict _,_],_=>rfl
  exact cy (cy ⟨_,rfl,λ e' dx h1 h2 nd=>eJ nd (q2 z e' dx h1 h2 nd)⟩)
 | true =>
  obtain⟨a,b,rfl⟩:=pi e;obtain⟨p,xs,rfl,hp,rs⟩:=gL rd;cases rs with
  | cons r1 rs =>
   cases rs with
   | cons r2 rs =>
    cases rs;cases r1;cases r2;refine bZ ⟨_,rfl,p,_,_,_,rfl,rfl,đ.of hp,dh rfl,_,2,100,rfl,.inl ⟨b,rfl⟩,_,rfl,?_⟩;have ec:eI (.tuple [.int a,.int b])=NP 2 100 (.int b):=by
     show(eS (.tuple [.int a,.int b])&&(decide (2<=b)&&decide (b<=100)))=_;rw [e,Ň];rfl
    cases z:NP 2 100 (.int b) with
    | true=>exact bZ (q1 (by rw [ec,z]))
    | false=>exact cy ⟨_,rfl,λ e' dx h1 h2 nd=>eJ nd (q2 (by rw [ec,z]) e' dx h1 h2 nd)⟩
abbrev IP:Stmt:=cw 31
def wq:Sp:=λ vs H Q _=>∃ i:Int,vs=[.int i]/\0<=i/\i<=20/\∀ l H',Ext H H'->Ĝ H' (.ref l) (fG [c5 0 i.toNat])->Q (.ref l) H'
theorem JL:ae ["folk"] ["folk"] (aa IP):=aR
theorem DW (F:Ī K "one_part" "one_part" IP f fd)(mt:mg "tuple" = none)(mr:mg "range" = none):à P w K mg base aB 1 f fd ["folk"] wq:=by
 refine bO F JL λ cdv A outer s H vs Q E hr h=>?_;obtain⟨i,rfl,h1,h2,q⟩:=h;refine⟨_,aX (dk (aP (ac (aN (kZ rfl) rfl mt ù (ac (aN r9 rfl mr ĸ (ac (pv 0) ao)) ao)) ao))),?_⟩;refine⟨_,rfl,i,rfl,λ r hr=>⟨r,0,i,rfl,aM,⟨ai,ai,ai,ai⟩,ai,λ l hl=>⟨cL,λ m hm=>?_⟩⟩⟩;have x2:=Ext.new (o:=.tup [.ref l]) hm;refine q m _ (((Ext.new hr).trans (.new hl)).trans x2) (.tup aM (.cons (.tup (x2 _ _ aM) ?_) .nil));rw [Int.sub_zero,mh];exact c8 _ _
end
def vH:PyData->Bool
 | .tuple [a,b]=>lP (-99) 99 a&&wU b
 | _=>false
def Ot (K:Frag)(H:Hp)(v:V)(b:Bool):Prop:=(∃ d,Ĝ H v d/\b=vH d)\/(PV K H v "tuple" /\ b=false)
theorem Ot.ext (h:Ot K H v b)(x:Ext H H'):Ot K H' v b:=by
 rcases h with⟨d,r,e⟩ | ⟨n,e⟩
 ·exact .inl ⟨d,r.mono x,e⟩
 ·exact .inr ⟨n.ext x,e⟩
theorem wz (h:vH d=true):∃(x:Int)(b:Bool),d=.tuple [.int x,.bool b]/\-99<=x/\x<=99:=by
 match d,h with
 | .tuple [a,b],h =>
  have h':(lP (-99) 99 a&&wU b)=true:=h;rw [ŕ] at h';obtain⟨i,rfl,h1,h2⟩:=fN h'.1;cases b with
  | bool b=>exact⟨i,b,rfl,h1,h2⟩
  | _=>cases h'.2
theorem Ot.two (h:Ot K H v true):∃ a n s,v=.ref a/\H a=some (.tup [.int n,.bl s]):=by
 rcases h with⟨d,r,e⟩ | ⟨_,e⟩
 ·obtain⟨n,s,rfl,_⟩:=wz e.symm;cases r with
  | tup ha rs =>
   cases rs with
   | cons r1 rs =>
    cases rs with
    | cons r2 rs =>
     cases rs;cases r1;cases r2;exact⟨_,_,_,rfl,ha⟩
 ·cases e
def ul (K:Frag)(H:Hp)(xs:List V)(bs:List Bool):Prop:=xs.length=bs.length/\∀(i:Nat) x,xs[i]?=some x->∃ b,bs[i]?=some b/\Ot K H x b
section
variable {P:Program}{w:World}{K:Frag}{mg:bC}{base:Heap}
abbrev Jh:Stmt:=cw 46
def DN (K:Frag):Sp:=λ vs H Q _=>∃ v b,vs=[v]/\Ot K H v b/\Q (.bl b) H
theorem Sw:ae ["thing","number","sure"] ["thing"] (aa Jh):=aR
theorem EX (N:sP K)(F:Ī K "is_outcome" "is_outcome" Jh f fd)(A1:Df P w K mg base aB 2 "is_whole" ["thing","low","high"] (gD K) a1 d1)(mL:mg "LEAST_NUMBER" = some (.int (-99) t1))(mM:mg "MOST_NUMBER" = some (.int 99 t2))
  (mi:mg "isinstance" = none)(mt:mg "tuple" = none)(ml:mg "len" = none)(mb:mg "bool" = none):à P w K mg base aB 3 f fd ["thing"] (DN K):=by
 refine F.ok Sw (λ vs H Q E h=>?_) (λ cdv A outer s H vs Q E hr h=>?_)
 ·obtain⟨v,b,rfl,_⟩:=h;rfl
 obtain⟨v,b,rfl,ot,q⟩:=h;have nd:=Sw.nd;refine⟨_,bU (be (PW.pt (gR (cp (bE (aj (cK N) rfl mi Û (ac (pv 0) (ac (gz rfl mt ù) ao))))) (fv (ar lG (aj az rfl ml ê (ac (pv 0) ao)) aF (ax _))))) (aX (dk vy)) f6)
  (bU (gB (pv 0) (bF rfl (eF (cq (i:=1) nd rfl (.inl rfl)) (eF (cq (i:=2) nd rfl (.inl rfl)) aZ))))
  (aX (dk (fw (cZ A1 hr ak (ac (pv 1) (ac (bA (v:=.int (-99)) rfl mL ⟨_,rfl⟩) (ac (bA (v:=.int 99) rfl mM ⟨_,rfl⟩) ao)))) (fH (aj (cK N) rfl mi Û (ac (pv 2) (ac (gz rfl mb Ũ) ao)))))))),?_⟩
 rcases ot with⟨d,rd,rfl⟩ | ⟨⟨t,kd,kt⟩,rfl⟩
 rotate_left
 ·exact⟨_,rfl,_,_,_,_,rfl,kd,kt,_,rfl,cy (cy q)⟩
 refine⟨_,rfl,_,_,_,_,rfl,rd.kd,rd.XH,_,rfl,?_⟩;cases e:BV d with
 | false =>
  refine cy (cy ?_);have z:vH d=false:=by cases d <;> first | rfl | cases e
  rw [z] at q;exact q
 | true =>
  obtain⟨ds,rfl⟩:∃ ds,d=.tuple ds:=by cases d <;> first | exact⟨_,rfl⟩ | cases e
  obtain⟨a,xs,rfl,ha,rs⟩:=gL rd;refine bZ ⟨_,rfl,a,_,rfl,.inr (đ.of ha),rfl,_,rfl,?_⟩;have len:=rs.length;by_cases l2:xs.length=2
  ·obtain⟨u,v,rfl⟩:∃ u v,xs=[u,v]:=by
    match xs,l2 with
    | [u,v],_=>exact⟨u,v,rfl⟩
   cases rs with
   | cons r1 rs =>
    cases rs with
    | cons r2 rs =>
     cases rs;refine bZ ⟨_,rfl,a,_,rfl,đ.of ha,rfl,_,_,rfl,_,_,rfl,rfl,?_⟩;refine⟨_,rfl,u,-99,99,rfl,r1.th,_,rfl,?_⟩;rw [r1.NP]
     rename_i d1 d2
     have qq:Q (.bl (lP (-99) 99 d1&&wU d2)) H:=q;cases e1:lP (-99) 99 d1 with
     | false =>
      rw [e1] at qq;exact bZ qq
     | true =>
      rw [e1] at qq;exact cy ⟨_,rfl,_,_,_,_,rfl,r2.kd,r2.isB,qq⟩
  ·have e1:(!decide (V.int (xs.length:Nat)=.int 2))=true:=by
    rw [È]
    ·rfl
    ·intro h;injection h with h
     omega
   rw [e1];refine cy ?_;have z:vH (.tuple ds)=false:=by
    match ds,len,l2 with
    | [],_,_=>rfl
    | [_],_,_=>rfl
    | [_,_],l,n=>exact absurd l n
    | _::_::_::_,_,_=>rfl
   rw [z] at q;exact q
abbrev J1:Stmt:=cw 47
def Am (K:Frag)(C:Addr):Sp:=λ vs H Q E=>∃(v:V)(b:Bool)(i:Nat),vs=[v,.int (i:Nat)]/\Ot K H v b/\(b=true->Q .Ċ H)/\(b=false->cQ C "place" (.int (i:Nat)) H E)
theorem JR:ae ["thing","place"] ["thing","place"] (aa J1):=aR
theorem Es (F:Ī K "need_outcome" "need_outcome" J1 f fd)(B:ĳ K D)(T:iM K mg D "NoOutcome" "place" C fC R3)(A1:Df P w K mg base aB 3 "is_outcome" ["thing"] (DN K) a1 d1):à P w K mg base (cY P w) 4 f fd ["thing","place"] (Am K C):=by
 refine Hx F JR (λ vs H Q E h=>?_) (λ cdv A outer s H vs Q E hr h=>?_)
 ·obtain⟨v,d,n,rfl,_⟩:=h;rfl
 obtain⟨v,d,i,rfl,rd,q1,q2⟩:=h;have Md:=hr.mono (show 2<=3 by decide)
 refine⟨_,aX (be (cp (bE (cZ A1 hr ak (ac (pv 0) ao)))) (aX (cE B T.cls (T.ok P w base) Md T.bi rfl T.Nm (pv 1))) f6),?_⟩;refine⟨_,rfl,v,d,rfl,rd,_,rfl,?_⟩;cases e:d with
 | false=>exact cy ⟨_,rfl,λ e' dx h1 h2 nd=>eJ nd (q2 e e' dx h1 h2 nd)⟩
 | true=>exact bZ (q1 e)
abbrev Dc:Stmt:=cw 48
def yk (K:Frag)(CF CO:Addr):Sp:=λ vs H Q E=>∃(v:V),vs=[v]/\((PV K H v "list" /\ cQ CF "found" v H E)\/∃ a xs bs,v=.ref a/\H a=some (.lst xs)/\ul K H xs bs/\(bs.all id=true->∀ H',Ext H H'->Q .Ċ H')/\∀ i,bQ bs i->∀ H',Ext H H'->cQ CO "place" (.int (i:Nat)) H' E)
theorem QB:ae ["thing","place","outcome"] ["thing"] (aa Dc):=aR
theorem BD (N:sP K)(F:Ī K "need_outcomes" "need_outcomes" Dc f fd)(B:ĳ K D)(T:iM K mg D "NoFolk" "found" CF fC R3)(A1:Df P w K mg base (cY P w) 4 "need_outcome" ["thing","place"] (Am K CO) a1 d1)
  (mi:mg "isinstance" = none)(ml:mg "list" = none)(me:mg "enumerate" = none):à P w K mg base (cY P w) 5 f fd ["thing"] (yk K CF CO):=by
 refine Hx F QB (λ vs H Q E h=>?_) (λ cdv A outer s H vs Q E hr h=>?_)
 ·obtain⟨v,rfl,_⟩:=h;rfl
 obtain⟨v,rfl,h⟩:=h;have nd:=QB.nd;have Md:=hr.mono (show 2<=4 by decide)
 refine⟨_,bU (be (cp (bE (aj (cK N) rfl mi Û (ac (pv 0) (ac (gz rfl ml Ă) ao))))) (aX (cE B T.cls (T.ok P w base) Md T.bi rfl T.Nm (pv 0))) f6)
  (aX (bY OT rfl (fJ rfl me (ac (pv 0) ao)) (bF rfl (eF (cq (i:=1) nd rfl (.inl rfl)) (eF (cq (i:=2) nd rfl (.inl rfl)) aZ)))
   (aX (aw (cZ A1 hr dE (ac (pv 2) (ac (pv 1) ao))))))),?_⟩
 rcases h with⟨⟨t,kd,kt⟩,q1⟩ | ⟨a,xs,bs,rfl,ha,⟨ln,ot⟩,qn,qe⟩
 ·exact⟨_,rfl,_,_,_,_,rfl,kd,kt,_,rfl,cy ⟨_,rfl,λ e' dx h1 h2 nd=>eJ nd (q1 e' dx h1 h2 nd)⟩⟩
 refine⟨_,rfl,_,_,_,_,rfl,.inl (.lst ha),rfl,_,rfl,bZ ?_⟩;refine⟨_,rfl,a,rfl,⟨_,ç.of ha⟩,fE (xs:=xs) (λ i σ H'=>Ext H H'/\(∀(j:Nat) b,j<i->bs[j]?=some b->b=true)/\∃ o1 o2,σ=[some (.ref a),o1,o2]) ⟨.refl _,λ j d h=>absurd h (ė _),_,_,rfl⟩ ?_ ?_ ?_⟩
 ·rintro i σ H' _ ⟨x',_⟩;exact ç.of (x' _ _ ha)
 ·rintro i v σ H' k ev ⟨x',good,o1,o2,rfl⟩ hk;have xk:=Ext.new (o:=.tup [.int (i:Nat),v]) hk;obtain⟨d,ed,rv⟩:=ot i v ev;refine⟨k,_,rfl,đ.of aM,rfl,_,_,rfl,_,_,rfl,rfl,?_⟩;refine⟨_,rfl,_,rfl,v,d,i,rfl,rv.ext (x'.trans xk),λ o=>?_,λ o=>?_⟩
  ·refine⟨x'.trans xk,λ j d' hj hd=>?_,_,_,rfl⟩;rcases Č j i with lt | ge
   ·exact good j d' lt hd
   ·have e0:j=i:=ai;subst e0;rw [ed] at hd;cases hd;exact o
  ·exact qe i ⟨good,by rw [ed,o]⟩ _ (x'.trans xk)
 ·rintro σ H' ⟨x',good,o1,o2,rfl⟩;refine qn ?_ H' x';rw [ú];intro d hd;obtain⟨j,hj,e⟩:=ü hd;exact good j d (by rw [ln];exact hj) (by rw [Á hj,e])
end
def Cm (n1:Int)(s1:Bool)(n2:Int)(s2:Bool):Int:=if(s2&&decide (n1>n2))=true then 1 else if(s1&&decide (n2>n1))=true then -1 else 0
section
variable {P:Program}{w:World}{K:Frag}{mg:bC}{base:Heap}
abbrev J7:Stmt:=cw 50
def EC:Sp:=λ vs H Q _=>∃(a1 a2:Addr)(n1 n2:Int)(s1 s2:Bool),vs=[.ref a1,.ref a2]/\H a1=some (.tup [.int n1,.bl s1])/\H a2=some (.tup [.int n2,.bl s2])/\Q (.bl (s2&&decide (n1>n2))) H
theorem HL:ae ["one","other"] ["one","other"] (aa J7):=aR
theorem Ei (F:Ī K "surely_greater" "surely_greater" J7 f fd):à P w K mg base aB 1 f fd ["one","other"] EC:=by
 refine bO F HL λ cdv A outer s H vs Q E hr h=>?_;obtain⟨a1,a2,n1,n2,s1,s2,rfl,h1,h2,q⟩:=h;refine⟨_,aX (dk (fw (cS ia (pv 1) aF) (fH (dB f9 (cS ia (pv 0) aF) (cS ia (pv 1) aF) (ax _))))),?_⟩;refine⟨_,rfl,a2,_,_,_,rfl,rfl,đ.of h2,dh rfl,_,rfl,?_⟩;cases s2 with
 | false=>exact bZ q
 | true=>exact cy ⟨_,rfl,a1,_,_,_,rfl,rfl,đ.of h1,dh rfl,_,rfl,a2,_,_,_,rfl,rfl,đ.of h2,dh rfl,_,_,rfl,rfl,q⟩
abbrev J9:Stmt:=cw 51
def pW (K:Frag)(CO:Addr):Sp:=λ vs H Q E=>∃(v1 v2:V)(b1 b2:Bool),vs=[v1,v2]/\Ot K H v1 b1/\Ot K H v2 b2/\(b1=false->cQ CO "place" (.int (0:Nat)) H E)/\(b1=true->b2=false->cQ CO "place" (.int (1:Nat)) H E) /\
 ∀ a1 a2 n1 n2 s1 s2,v1=.ref a1->v2=.ref a2->H a1=some (.tup [.int n1,.bl s1])->H a2=some (.tup [.int n2,.bl s2])->b1=true->b2=true->Q (.int (Cm n1 s1 n2 s2)) H
theorem HK:ae ["one","other"] ["one","other"] (aa J9):=aR
theorem GU (F:Ī K "stands_to" "stands_to" J9 f fd)(A1:Df P w K mg base (cY P w) 4 "need_outcome" ["thing","place"] (Am K CO) a1 d1)(A2:Df P w K mg base aB 1 "surely_greater" ["one","other"] EC a2 d2):à P w K mg base (cY P w) 5 f fd ["one","other"] (pW K CO):=by
 refine gP F HK λ cdv A outer s H vs Q E hr h=>?_;obtain⟨v1,v2,b1,b2,rfl,o1,o2,e1,e2,q⟩:=h;have ĭ:ă 1 _:=hr.mono au;refine⟨_,bU (aw (cZ A1 hr dE (ac (pv 0) (ac aF ao)))) (bU (aw (cZ A1 hr dE (ac (pv 1) (ac aF ao))))
  (bU (be (bE (cZ A2 ĭ ak (ac (pv 0) (ac (pv 1) ao)))) (aX (dk aF)) f6)
  (bU (be (bE (cZ A2 ĭ ak (ac (pv 1) (ac (pv 0) ao)))) (aX (dk (F8 Cu aF))) f6)
  (aX (dk aF))))),?_⟩
 refine⟨_,rfl,v1,b1,0,rfl,o1,λ h1=>⟨_,rfl,v2,b2,1,rfl,o2,λ h2=>?_,λ h2=>e2 h1 h2⟩,λ h1=>e1 h1⟩;subst h1 h2;obtain⟨p1,n1,s1,rfl,t1⟩:=o1.two;obtain⟨p2,n2,s2,rfl,t2⟩:=o2.two;have qq:=q p1 p2 n1 n2 s1 s2 rfl rfl t1 t2 rfl rfl;unfold Cm at qq;refine⟨_,rfl,_,rfl,p1,p2,n1,n2,s1,s2,rfl,t1,t2,_,rfl,?_⟩;cases g1:s2&&decide (n1>n2) with
 | true=>rw [g1,Ø rfl] at qq;exact cy qq
 | false =>
  rw [g1,Ï au] at qq;refine bZ ⟨_,rfl,_,rfl,p2,p1,n2,n1,s2,s1,rfl,t2,t1,_,rfl,?_⟩;cases g2:s1&&decide (n2>n1) with
  | true=>rw [g2,Ø rfl] at qq;exact cy ⟨1,rfl,qq⟩
  | false=>rw [g2,Ï au] at qq;exact bZ qq
abbrev Bf:Stmt:=cw 49
def yp (K:Frag)(CF CO:Addr):Sp:=λ vs H Q E=>∃(v:V)(n:Int),vs=[v,.int n]/\((PV K H v "list" /\ cQ CF "found" v H E)\/∃ a xs bs,v=.ref a/\H a=some (.lst xs)/\ul K H xs bs/\(bs.all id=true->∀ H',Ext H H'->if(xs.length:Int)=n then Q .Ċ H' else cQ CF "found" (.int (xs.length:Nat)) H' E)/\∀ i,bQ bs i->∀ H',Ext H H'->cQ CO "place" (.int (i:Nat)) H' E)
theorem DQ:ae ["thing","folk"] ["thing","folk"] (aa Bf):=aR
theorem Bb (F:Ī K "need_outcomes_of" "need_outcomes_of" Bf f fd)(B:ĳ K D)(T:iM K mg D "NoFolk" "found" CF fC R3)(A1:Df P w K mg base (cY P w) 5 "need_outcomes" ["thing"] (yk K CF CO) a1 d1)(ml:mg "len" = none):à P w K mg base (cY P w) 6 f fd ["thing","folk"] (yp K CF CO):=by
 refine Hx F DQ (λ vs H Q E h=>?_) (λ cdv A outer s H vs Q E hr h=>?_)
 ·obtain⟨v,n,rfl,_⟩:=h;rfl
 obtain⟨v,n,rfl,h⟩:=h;have Md:=hr.mono (show 2<=5 by decide)
 refine⟨_,bU (aw (cZ A1 hr dE (ac (pv 0) ao)))
  (aX (be (ar lG (aj az rfl ml ê (ac (pv 0) ao)) (pv 1) (ax _)) (aX (cE B T.cls (T.ok P w base) Md T.bi rfl T.Nm (aj az rfl ml ê (ac (pv 0) ao)))) f6)),?_⟩
 rcases h with⟨nk,q1⟩ | ⟨a,xs,bs,rfl,ha,ot,qn,qe⟩
 ·exact⟨_,rfl,v,rfl,.inl ⟨nk,q1⟩⟩
 ·refine⟨_,rfl,_,rfl,.inr ⟨a,xs,bs,rfl,ha,ot,λ al H' x'=>?_,qe⟩⟩;have q:=qn al H' x';refine⟨_,rfl,a,xs,rfl,.inl (ç.of (x' _ _ ha)),_,rfl,rfl,_,rfl,?_⟩;by_cases e:(xs.length:Int)=n
  ·rw [Ø e] at q;rw [Ë (by rw [e])]
   exact bZ q
  ·rw [Ï e] at q;rw [È (λ z=>e (V.int.inj z))];exact cy ⟨_,rfl,a,xs,rfl,.inl (ç.of (x' _ _ ha)),λ e' dx h1 h2 nd=>eJ nd (q e' dx h1 h2 nd)⟩
abbrev CZ:Stmt:=cw 55
def GL (H:Hp)(v:V)(o:Int × Bool):Prop:=∃ a,v=.ref a/\H a=some (.tup [.int o.1,.bl o.2])
def Μ (H:Hp)(xs:List V)(os:List (Int × Bool)):Prop:=xs.length=os.length/\∀(i:Nat) x o,xs[i]?=some x->os[i]?=some o->GL H x o
def uG (CU:Addr):Sp:=λ vs H Q E=>∃ a xs os,vs=[.ref a]/\H a=some (.lst xs)/\Μ H xs os/\((os.map (·.2)).all id=true->∀ H',Ext H H'->Q .Ċ H')/\∀ i,bQ (os.map (·.2)) i->∀ H',Ext H H'->cQ CU "place" (.int (i:Nat)) H' E
theorem QA:ae ["outcomes","place","outcome"] ["outcomes"] (aa CZ):=aR
theorem yR (F:Ī K "need_sure" "need_sure" CZ f fd)(B:ĳ K D)(T:iM K mg D "NotSure" "place" CU fC R3)(me:mg "enumerate" = none):à P w K mg base (cY P w) 3 f fd ["outcomes"] (uG CU):=by
 refine gP F QA λ cdv A outer s H vs Q E hr h=>?_;obtain⟨a,xs,os,rfl,ha,⟨ln,oc⟩,qn,qe⟩:=h;have nd:=QA.nd;have Md:=hr;refine⟨_,aX (bY OT rfl (fJ rfl me (ac (pv 0) ao)) (bF rfl (eF (cq (i:=1) nd rfl (.inl rfl)) (eF (cq (i:=2) nd rfl (.inl rfl)) aZ)))
   (aX (be (cp (bE (cS ia (pv 2) aF))) (aX (cE B T.cls (T.ok P w base) Md T.bi rfl T.Nm (pv 1))) f6))),?_⟩
 refine⟨_,rfl,a,rfl,⟨_,ç.of ha⟩,fE (xs:=xs) (λ i σ H'=>Ext H H'/\(∀(j:Nat) b,j<i->(os.map (·.2))[j]?=some b->b=true)/\∃ o1 o2,σ=[some (.ref a),o1,o2]) ⟨.refl _,λ j d h=>absurd h (ė _),_,_,rfl⟩ ?_ ?_ ?_⟩
 ·rintro i σ H' _ ⟨x',_⟩;exact ç.of (x' _ _ ha)
 ·rintro i v σ H' k ev ⟨x',good,o1,o2,rfl⟩ hk;have xk:=Ext.new (o:=.tup [.int (i:Nat),v]) hk;have li:i<os.length:=by rw [<- ln];exact(Å.mp ev).1
  obtain⟨b,rfl,hb⟩:=oc i v _ ev (Á li);have em:(os.map (·.2))[i]?=some os[i].2:=by rw [Ç,Á li];rfl
  refine⟨k,_,rfl,đ.of aM,rfl,_,_,rfl,_,_,rfl,rfl,?_⟩;refine⟨_,rfl,b,_,_,_,rfl,rfl,đ.of (xk _ _ (x' _ _ hb)),dh rfl,_,rfl,?_⟩;cases hs:os[i].2 with
  | true =>
   refine bZ ⟨x'.trans xk,λ j d' hj hd=>?_,_,_,rfl⟩;rcases Č j i with lt | ge
   ·exact good j d' lt hd
   ·have e0:j=i:=ai;subst e0;rw [em,hs] at hd;cases hd;rfl
  | false =>
   refine cy ⟨_,rfl,λ e' dx h1 h2 nd=>eJ nd (qe i ⟨good,by rw [em,hs]⟩ _ (x'.trans xk) e' dx h1 h2 nd)⟩
 ·rintro σ H' ⟨x',good,o1,o2,rfl⟩;refine qn ?_ H' x';rw [ú];intro d hd;obtain⟨j,hj,e⟩:=ü hd;exact good j d (by rw [ln];simpa using hj) (by rw [List.getElem?_eq_getElem hj,e])
end
section
variable {P:Program}{w:World}{K:Frag}{mg:bC}{base:Heap}{C:Nat->Addr}{CR:Addr}
abbrev zM:Stmt:=aG (cw 35) 0
abbrev Dz:Stmt:=aG (cw 35) 1
abbrev zW:Stmt:=aG (cw 35) 2
abbrev zD:Stmt:=aG (cw 35) 4
abbrev zS:Stmt:=aG (cw 35) 5
def gh (v1 v2 v3 v4:V)(fs:List (Str × V)):List (Str × V):=bK "parts" v4 (bK "mark" v3 (bK "first_state" v2 (bK "size" v1 fs)))
def jE (C:Nat->Addr):Sp:=λ vs H Q _=>∃ x v1 v2 v3 v4 i dx fs,vs=[.ref x,v1,v2,v3,v4]/\i<5/\H x=some (.ins (C i) dx fs)/\fs.length<=5/\Q .Ċ (ad H x (.ins (C i) dx (gh v1 v2 v3 v4 fs)))
theorem F4:ae ["self","size","first_state","mark","parts"] ["self","size","first_state","mark","parts"] (aa zM):=aR
theorem ii (f:Str)(v:V):∀ fs:List (Str × V),(bK f v fs).length<=fs.length+1
 | []=>Ê _
 | (g,x)::r=>by
  have:=ii f v r;show(if g=f then(g,v)::r else(g,x)::bK f v r).length<=_
  split <;> simp only [List.length_cons] <;> omega
theorem AJ (Z:KR K C CR)(F:Ī K "__init__" "Rule.__init__" zM f fd):à P w K mg base aB 1 f fd ["self","size","first_state","mark","parts"] (jE C):=by
 refine bO F F4 λ cdv A outer s H vs Q E hr h=>?_;obtain⟨x,v1,v2,v3,v4,i,dx,fs,rfl,hi,hx,l5,q⟩:=h;refine⟨_,bU (dG (pv 0) (pv 1) rfl) (bU (dG (pv 0) (pv 2) rfl) (bU (dG (pv 0) (pv 3) rfl) (aX (dG (pv 0) (pv 4) rfl)))),?_⟩;have c:=Z.cls i hi;have n:=Z.no i hi;have k1:=ii "size" v1 fs;have k2:=ii "first_state" v2 (bK "size" v1 fs);have k3:=ii "mark" v3 (bK "first_state" v2 (bK "size" v1 fs));refine⟨_,rfl,_,rfl,x,C i,dx,fs,rfl,hx,c,n _ av,ai,?_⟩;refine⟨_,rfl,_,rfl,x,C i,dx,_,rfl,aM,c,n _ av,ai,?_⟩;rw [fQ];refine⟨_,rfl,_,rfl,x,C i,dx,_,rfl,aM,c,n _ av,ai,?_⟩;rw [fQ];refine⟨_,rfl,_,rfl,x,C i,dx,_,rfl,aM,c,n _ av,ai,?_⟩;rw [fQ];exact q
def mE (C:Nat->Addr):Sp:=λ vs H Q _=>∃ v t,vs=[v]/\Ru C H t v/\Q (.int t.Ñ) H
theorem GZ:ae ["self"] ["self"] (aa Dz):=aR
theorem Bu (Z:KR K C CR)(F:Ī K "folk" "Rule.folk" Dz f fd):à P w K mg base aB 1 f fd ["self"] (mE C):=by
 refine bO F GZ λ cdv A outer s H vs Q E hr h=>?_;obtain⟨v,t,rfl,ru,q⟩:=h;obtain⟨a,dx,fs,rfl,ha,h1,_⟩:=ru.ob.ex;exact⟨_,aX (dk (oW (pv 0) rfl)),_,rfl,a,_,dx,fs,_,rfl,ha,Z.cls _ t.Ĥ,Z.no _ t.Ĥ _ av,h1,q⟩
def jo (C:Nat->Addr):Sp:=λ vs H Q _=>∃ v t G,vs=[v]/\Ext G H/\Ru C G t v/\∀ b,Ĝ G b t.begin->Q b H
theorem Ha:ae ["self"] ["self"] (aa zW):=aR
theorem Az (Z:KR K C CR)(F:Ī K "begin" "Rule.begin" zW f fd):à P w K mg base aB 1 f fd ["self"] (jo C):=by
 refine bO F Ha λ cdv A outer s H vs Q E hr h=>?_;obtain⟨v,t,G,rfl,xG,ru,q⟩:=h;obtain⟨a,dx,fs,rfl,ha,_,⟨b,h2,r2⟩,_⟩:=ru.ob.ex;exact⟨_,aX (dk (oW (pv 0) rfl)),_,rfl,a,_,dx,fs,_,rfl,xG _ _ ha,Z.cls _ t.Ĥ,Z.no _ t.Ĥ _ av,h2,q b r2⟩
def jU (C:Nat->Addr):Sp:=λ vs H Q _=>∃ v t G,vs=[v]/\Ext G H/\Ru C G t v/\∀ b,Ĝ G b t.told->Q b H
theorem D4:ae ["self"] ["self"] (aa zD):=aR
theorem zv (Z:KR K C CR)(F:Ī K "told" "Rule.told" zD f fd):à P w K mg base aB 1 f fd ["self"] (jU C):=by
 refine bO F D4 λ cdv A outer s H vs Q E hr h=>?_;obtain⟨v,t,G,rfl,xG,ru,q⟩:=h;obtain⟨a,dx,fs,rfl,ha,_,_,⟨b,h2,r2⟩,_⟩:=ru.ob.ex;exact⟨_,aX (dk (oW (pv 0) rfl)),_,rfl,a,_,dx,fs,_,rfl,xG _ _ ha,Z.cls _ t.Ĥ,Z.no _ t.Ĥ _ av,h2,q b r2⟩
def qy (C:Nat->Addr):Sp:=λ vs H Q _=>∃ v t,vs=[v]/\Ru C H t v/\t.parts.length<=20/\(∀ p∈t.parts,p.length<=20)/\∀(l:Addr)(bs:List Addr)(H':Hp),Ext H H'->H l=none->H' l=some (.lst (bs.map V.ref))->l ∉ bs->(∀ b∈bs,H b=none)->bs.length=t.parts.length->(∀(i:Nat) b p,bs[i]?=some b->t.parts[i]?=some p->H' b=some (.lst (p.map V.int)))->Q (.ref l) H'
theorem Hf:ae ["self"] ["self"] (aa zS):=aR
abbrev BS:Scope:=dJ [("part",.local),("list",.globalImplicit)]
theorem EJ:bu X BS [] ["part"] [] []:=by
 refine⟨rfl,rfl,av,av,av,(λ z c h=>nomatch h),(λ z h=>?_),av,(λ k z h=>by simp at h),rfl⟩
 exfalso;have h':List.lookup z [((".0" : Str),NameKind.local),(("part" : Str),NameKind.local),(("list" : Str),NameKind.globalImplicit)]=some .cell\/List.lookup z [((".0" : Str),NameKind.local),(("part" : Str),NameKind.local),(("list" : Str),NameKind.globalImplicit)]=some .free:=h;simp only [List.lookup_cons,List.lookup_nil] at h'
 repeat' (split at h')
 all_goals simp at h'
theorem KZ:((["part"]:List Str)++([]:List Str)).Nodup:=av
def vA (K:Frag):List V->Hp->VK->Prop:=λ xs H Q=>∃ p ys,xs=[.ref p]/\(ç K H p ys\/đ K H p ys)/\∀ l,H l=none->Q (.ref l) (ad H l (.lst ys))
theorem Ad (Z:KR K C CR)(F:Ī K "blocks" "Rule.blocks" zS f fd)(ml:mg "list" = none):à P w K mg base aB 1 f fd ["self"] (qy C):=by
 refine bO F Hf λ cdv A outer s H vs Q E hr h=>?_;obtain⟨v,t,rfl,ru,ME,Xp,q⟩:=h;obtain⟨a,dx,fs,rfl,ha,_,_,_,⟨b,h2,r2⟩,_⟩:=ru.ob.ex;refine⟨_,aX (dk (cu (te:=gQ (vA K) (am (ag 0) aK)) (g:=ba 0) rfl EJ (pS (oW (pv 0) rfl)) (λ s H C fp=>cq KZ rfl (.inl rfl)) (λ s H C fp=>aN eQ rfl ml Ă (ac (pv 0) ao)))),?_⟩;obtain⟨p,xs,rfl,hp,rs⟩:=gL r2;have lx:=rs.length;rw [Â] at lx;refine⟨_,rfl,a,_,dx,fs,_,rfl,ha,Z.cls _ t.Ĥ,Z.no _ t.Ĥ _ av,h2,p,rfl,⟨_,đ.of hp⟩,λ D hD=>?_⟩;refine qM (λ i ys H'=>Ext H H'/\∃ bs:List Addr,ys=bs.map .ref/\D ∉ bs/\(∀ b∈bs,H b=none)/\∀(j:Nat) b q,bs[j]?=some b->t.parts[j]?=some q->H' b=some (.lst (q.map .int))) (by rw [Ö];omega) ⟨.new hD,[],rfl,by simp,by simp,by simp⟩ (λ i ys H' pv=>đ.of (pv.1 _ _ hp)) ?_ ?_
 ·rintro i x ys H' ex ly Ġ ⟨x',bs,rfl,nD,fr,ct⟩ os ŀ R k;obtain⟨o0,rfl⟩:∃ o0,os=[o0]:=by
   match os,ŀ with
   | [o0],_=>exact⟨o0,rfl⟩
  have hi:i<t.parts.length:=by have:=(Å.mp ex).1;omega
  obtain⟨c,rfl,hc⟩:=jY rs ex (Á hi);refine⟨⟨[some (.ref c)],rfl,rfl⟩,_,rfl,c,_,rfl,.inr (đ.of (x' _ _ hc)),λ m hm=>?_⟩;have x2:=Ext.new (o:=.lst ((t.parts[i]).map V.int)) hm;have nm:m≠D:=λ e=>by rw [e,Ġ] at hm;cases hm
  have Po:H m=none:=by
   cases e:H m with
   | none=>rfl
   | some o=>rw [x' _ _ e] at hm;cases hm
  have L7:=x2 _ _ Ġ;have lb:bs.length=i:=by rw [Â] at ly;exact ly
  refine k _ _ L7 ⟨aI _ (x'.trans x2) hD,bs ++ [m],by rw [Ì];rfl,?_,λ b hb=>?_,λ j b q hb hq=>?_⟩
  ·intro We;rcases ģ.mp We with h | h
   ·exact nD h
   ·exact nm (ä.mp h).symm
  ·rcases ģ.mp hb with h | h
   ·exact fr b h
   ·rw [ä.mp h];exact Po
  ·rcases Č j bs.length with lt | ge
   ·rw [é lt] at hb;have nb:b≠D:=λ e=>nD (e ▸ å hb);rw [af nb];exact x2 _ _ (ct j b q hb hq)
   ·rw [Ý ge] at hb;have j0:j=bs.length:=by
     rcases Č (j-bs.length) 1 with z | z
     ·omega
     ·rw [y_ (by simpa using z)] at hb;cases hb
    subst j0;rw [g_] at hb;cases hb;rw [lb,Á hi] at hq;cases hq;rw [af nm];exact aM
 ·rintro ys H' ly Ġ ⟨x',bs,rfl,nD,fr,ct⟩;rw [Â] at ly;exact q D bs H' x' hD Ġ nD fr ai ct
end
theorem dz:(bK f v fs).lookup g=if g=f then some v else fs.lookup g:=gu f g v fs
section
variable {v1 v2 v3 v4:V}{fs:List (Str × V)}
theorem r6:(gh v1 v2 v3 v4 fs).lookup ("size" : Str)=some v1:=by
 unfold gh;rw [dz,Ï av,dz,Ï av,dz,Ï av,dz,Ø rfl]
theorem uo:(gh v1 v2 v3 v4 fs).lookup ("first_state" : Str)=some v2:=by
 unfold gh;rw [dz,Ï av,dz,Ï av,dz,Ø rfl]
theorem sH:(gh v1 v2 v3 v4 fs).lookup ("mark" : Str)=some v3:=by
 unfold gh;rw [dz,Ï av,dz,Ø rfl]
theorem pU:(gh v1 v2 v3 v4 fs).lookup ("parts" : Str)=some v4:=by
 unfold gh;rw [dz,Ø rfl]
theorem dP {g:Str}(h:g ≠ "size" /\ g ≠ "first_state" /\ g ≠ "mark" /\ g ≠ "parts"):(gh v1 v2 v3 v4 fs).lookup g=fs.lookup g:=by
 unfold gh;rw [dz,Ï h.2.2.2,dz,Ï h.2.2.1,dz,Ï h.2.1,dz,Ï h.1]
theorem uy {g:Str}(h:g∈i7):g ≠ "size" /\ g ≠ "first_state" /\ g ≠ "mark" /\ g ≠ "parts" := by
 have:∀ g∈i7,g ≠ "size" /\ g ≠ "first_state" /\ g ≠ "mark" /\ g ≠ "parts" := av;exact this g h
theorem Dd {g:Str}{ns:List Str}(h:g∈i7)(hn:∀ n∈fs.map (·.1),n∈fL):fs.lookup g=none:=by
 have nf:∀ g∈i7,∀ n∈fL,g≠n:=av;cases e:fs.lookup g with
 | none=>rfl
 | some v =>
  exfalso;have:∀(l:List (Str × V)),l.lookup g=some v->g∈l.map (·.1):=by
   intro l
   induction l with
   | nil=>intro h;cases h
   | cons y l ih =>
    intro h;obtain⟨k,x⟩:=y;rw [ó] at h;cases e:g==k with
    | true=>rw [Ě.mp e];exact ò ..
    | false=>rw [e] at h;exact á _ (ih h)
  exact nf g h g (hn g (this fs e)) rfl
theorem iD {Cl a dx:Addr}{H:Hp}{fk:Int}{bg tl pt:PyData}{X:List (Str × V)->Prop}(ha:H a=some (.ins Cl dx (gh (.int fk) v2 v3 v4 fs)))(r2:Ĝ H v2 bg)(r3:Ĝ H v3 tl)(r4:Ĝ H v4 pt)(hn:∀ n∈fs.map (·.1),n∈fL)(hx:X (gh (.int fk) v2 v3 v4 fs)):Ob Cl H (.ref a) fk bg tl pt X :=
 ⟨a,dx,_,rfl,ha,r6,⟨_,uo,r2⟩,⟨_,sH,r3⟩,⟨_,pU,r4⟩,λ m hm=>by rw [dP (uy hm)];exact Dd (ns:=[]) hm hn,hx⟩
end
section
variable {P:Program}{w:World}{K:Frag}{mg:bC}{base:Heap}{C:Nat->Addr}{CR CN CS:Addr}
abbrev Cn:Stmt:=aG (cw 36) 0
abbrev zb:Stmt:=aG (cw 37) 0
abbrev yE:Stmt:=aG (cw 38) 0
def oF (C:Nat->Addr)(CN:Addr):Sp:=λ vs H Q E=>∃ x u1 u2 d1 d2 dx,vs=[.ref x,u1,u2]/\H x=some (.ins (C 0) dx [])/\Ĝ H u1 d1/\Ĝ H u2 d2/\(lP 1 20 d1=false->cQ CN "found" u1 H E)/\(∀ n,d1=.int n->1<=n->n<=20->lP 0 n d2=false->cQ CN "found" u2 H E) /\
 ∀ n k,d1=.int n->d2=.int k->(R0.split n k).ok->∀ H',Kept H H' x->m_ C H' (.split n k) (.ref x)->Q .Ċ H'
theorem Gf:ae ["self","folk","ones"] ["self","folk","ones"] (aa Cn):=aR
variable {S g a1 a2 a3:Addr}{gd d1 d2 d3:FuncData}{t:Tok}
theorem Cd (F:Ī K "__init__" "Split.__init__" Cn f fd)(Cf:fD K S "__init__" g)(G:à P w K mg base aB 1 g gd ["self","size","first_state","mark","parts"] (jE C))(bG:Binds K gd ["self","size","first_state","mark","parts"] [])(mS:mg "Rule" = some (.ref S))
  (A1:Df P w K mg base (cY P w) 3 "need_number" ["thing","low","high"] (ui CN) a1 d1)(A2:Df P w K mg base aB 1 "one_part" ["folk"] wq a2 d2)(mF:mg "MOST_FOLK" = some (.int 20 t)):à P w K mg base (cY P w) 4 f fd ["self","folk","ones"] (oF C CN):=by
 refine gP F Gf λ cdv A outer s H vs Q E hr h=>?_;obtain⟨x,u1,u2,e1,e2,dx,rfl,hx,r1,r2,q1,q2,q⟩:=h;have ĭ:ă 1 _:=hr.mono au;refine⟨_,bU (aw (cZ A1 hr dE (ac (pv 1) (ac aF (ac (bA (v:=.int 20) rfl mF ⟨_,rfl⟩) ao))))) (bU (aw (cZ A1 hr dE (ac (pv 2) (ac aF (ac (pv 1) ao)))))
  (aX (aw (bP Cf G ĭ rfl mS bG .nil ak (ac (pv 0) (ac (pv 1) (ac (pv 2) (ac (aP (ac ay (ac (pv 1) (ac (pv 2) ao)))) (ac (cZ A2 ĭ ak (ac (pv 1) ao)) ao))))))))),?_⟩
 refine⟨_,rfl,u1,e1,1,20,rfl,r1,λ h1=>?_,λ h1=>q1 h1⟩;obtain⟨n,rfl,n1,NO⟩:=fN h1;cases r1;refine⟨_,rfl,_,rfl,u2,e2,0,n,rfl,r2,λ h2=>?_,λ h2=>q2 n rfl n1 NO h2⟩;obtain⟨k,rfl,k0,kn⟩:=fN h2;cases r2;refine⟨_,rfl,_,rfl,_,rfl,_,rfl,_,rfl,cL,λ m hm=>⟨_,rfl,n,rfl,ai,NO,λ l H2 x2 rl=>?_⟩⟩;have xm:=Ext.new (o:=.tup [.str "split",.int n,.int k]) hm;have Ţ:=xm.trans x2;have Qd:=x2 _ _ (show ad H m (.tup [.str "split",.int n,.int k]) m=_ from aM);have NR:=Ţ _ _ hx;refine⟨x,_,_,_,_,0,dx,[],rfl,au,NR,au,q n k rfl rfl ⟨n1,NO,k0,kn⟩ _ ((Ţ.kept x).trans (bj _)) ?_⟩;have kk:Kept H2 (ad H2 x (.ins (C 0) dx (gh (.int n) (.int k) (.ref m) (.ref l) []))) x:=bj _;exact iD aM (.int _) ((Ĝ.tup Qd (.cons (.str _) (.cons (.int _) (.cons (.int _) .nil)))).kept NR kk) (rl.kept NR kk) (by simp) trivial
def kS (C:Nat->Addr)(CN CS:Addr):Sp:=λ vs H Q E=>∃ x u1 u2 d1 d2 dx,vs=[.ref x,u1,u2]/\H x=some (.ins (C 1) dx [])/\Ĝ H u1 d1/\Ĝ H u2 d2/\(lP 1 10 d1=false->cQ CN "found" u1 H E)/\(lP 1 10 d1=true->eI d2=false->cQ CS "found" u2 H E) /\
 ∀ n a b,d1=.int n->d2=.tuple [.int a,.int b]->(R0.pairs n a b).ok->∀ H',Kept H H' x->m_ C H' (.pairs n a b) (.ref x)->Q .Ċ H'
theorem FV:ae ["self","pairs","coin"] ["self","pairs","coin"] (aa zb):=aR
theorem kq (h:eI d=true):∃ a b,d=.tuple [.int a,.int b]:=by
 match d,h with
 | .tuple [.int a,.int b],_=>exact⟨a,b,rfl⟩
theorem zz (Z:KR K C CR)(F:Ī K "__init__" "Pairs.__init__" zb f fd)(Cf:fD K S "__init__" g)(G:à P w K mg base aB 1 g gd ["self","size","first_state","mark","parts"] (jE C))(bG:Binds K gd ["self","size","first_state","mark","parts"] [])(mS:mg "Rule" = some (.ref S))
  (A1:Df P w K mg base (cY P w) 3 "need_number" ["thing","low","high"] (ui CN) a1 d1)(A2:Df P w K mg base aB 1 "one_part" ["folk"] wq a2 d2)(A3:Df P w K mg base (cY P w) 5 "need_coin" ["thing"] (Bm CS) a3 d3)(mF:mg "MOST_PAIRS" = some (.int 10 t)):à P w K mg base (cY P w) 6 f fd ["self","pairs","coin"] (kS C CN CS):=by
 refine gP F FV λ cdv A outer s H vs Q E hr h=>?_;obtain⟨x,u1,u2,e1,e2,dx,rfl,hx,r1,r2,q1,q2,q⟩:=h;have ĭ:ă 1 _:=hr.mono au;have Pm:ă 3 _:=hr.mono au;refine⟨_,bU (aw (cZ A1 Pm dE (ac (pv 1) (ac aF (ac (bA (v:=.int 10) rfl mF ⟨_,rfl⟩) ao))))) (bU (aw (cZ A3 hr dE (ac (pv 2) ao))) (bU (dG (pv 0) (pv 2) rfl)
  (aX (aw (bP Cf G ĭ rfl mS bG .nil ak (ac (pv 0) (ac (aE dY aF (pv 1)) (ac hI (ac (aP (ac ay (ac (pv 1) (ac (pv 2) ao)))) (ac (cZ A2 ĭ ak (ac (aE dY aF (pv 1)) ao)) ao)))))))))),?_⟩
 refine⟨_,rfl,u1,e1,1,10,rfl,r1,λ h1=>?_,λ h1=>q1 h1⟩;refine⟨_,rfl,u2,e2,rfl,r2,λ h2=>?_,λ h2=>q2 h1 h2⟩;obtain⟨n,rfl,n1,n10⟩:=fN h1;obtain⟨a,b,rfl⟩:=kq h2;cases r1;refine⟨_,rfl,_,rfl,x,C 1,dx,[],rfl,hx,Z.cls 1 au,Z.no 1 au _ av,au,?_⟩;have k1:Kept H (ad H x (.ins (C 1) dx (bK "coin" u2 []))) x:=bj _;have SE:=r2.kept hx k1;have ML:ad H x (.ins (C 1) dx (bK "coin" u2 [])) x=some (.ins (C 1) dx [("coin",u2)]):=aM;generalize ad H x (.ins (C 1) dx (bK "coin" u2 []))=H1 at k1 SE ML ⊢;have cm:Ζ 2 n:=.inl ⟨au,au⟩;refine⟨_,rfl,_,rfl,_,_,rfl,rfl,cm,_,rfl,_,rfl,cL,λ m hm=>⟨_,rfl,_,_,rfl,rfl,cm,2*n,rfl,ai,ai,λ l H2 x2 rl=>?_⟩⟩;have xm:=Ext.new (o:=.tup [.str "pairs",.int n,u2]) hm;have Ţ:=xm.trans x2;have Qd:=x2 _ _ (show ad H1 m (.tup [.str "pairs",.int n,u2]) m=_ from aM);have NR:=Ţ _ _ ML;have SC:=SE.mono Ţ;refine⟨x,_,_,_,_,1,dx,[("coin",u2)],rfl,au,NR,(by show 1<=5;decide),q n a b rfl rfl ⟨n1,n10,h2⟩ _ ((k1.trans (Ţ.kept x)).trans (bj _)) ?_⟩
 have kk:Kept H2 (ad H2 x (.ins (C 1) dx (gh (.int (2*n)) .Ċ (.ref m) (.ref l) [("coin",u2)]))) x:=bj _;refine iD aM .Ċ ((Ĝ.tup Qd (.cons (.str _) (.cons (.int _) (.cons SC .nil)))).kept NR kk) (rl.kept NR kk) (λ n hn=>?_) ⟨u2,?_,SC.kept NR kk⟩
 ·have e:n = "coin" := by simpa using hn
  rw [e]
  decide +kernel
 ·rw [dP av];rfl
def nB (C:Nat->Addr)(CN CS:Addr):Sp:=λ vs H Q E=>∃ x u1 u2 u3 d1 d2 d3 dx,vs=[.ref x,u1,u2,u3]/\H x=some (.ins (C 2) dx [])/\Ĝ H u1 d1/\Ĝ H u2 d2/\Ĝ H u3 d3/\(lP 1 20 d1=false->cQ CN "found" u1 H E)/\(lP 1 20 d1=true->eI d2=false->cQ CS "found" u2 H E)/\(lP 1 20 d1=true->eI d2=true->lP 1 20 d3=false->cQ CN "found" u3 H E) /\
 ∀ n a b f,d1=.int n->d2=.tuple [.int a,.int b]->d3=.int f->(R0.ť n a b f).ok->∀ H',Kept H H' x->m_ C H' (.ť n a b f) (.ref x)->Q .Ċ H'
theorem FG:ae ["self","folk","coin","far"] ["self","folk","coin","far"] (aa yE):=aR
theorem Bo (Z:KR K C CR)(F:Ī K "__init__" "Coins.__init__" yE f fd)(Cf:fD K S "__init__" g)(G:à P w K mg base aB 1 g gd ["self","size","first_state","mark","parts"] (jE C))(bG:Binds K gd ["self","size","first_state","mark","parts"] [])(mS:mg "Rule" = some (.ref S))
  (A1:Df P w K mg base (cY P w) 3 "need_number" ["thing","low","high"] (ui CN) a1 d1)(A2:Df P w K mg base aB 1 "one_part" ["folk"] wq a2 d2)(A3:Df P w K mg base (cY P w) 5 "need_coin" ["thing"] (Bm CS) a3 d3)(mF:mg "MOST_FOLK" = some (.int 20 t))(mR:mg "MOST_FAR" = some (.int 20 t2)):à P w K mg base (cY P w) 6 f fd ["self","folk","coin","far"] (nB C CN CS):=by
 refine gP F FG λ cdv A outer s H vs Q E hr h=>?_;obtain⟨x,u1,u2,u3,e1,e2,e3,dx,rfl,hx,r1,r2,r3,q1,q2,q3,q⟩:=h;have ĭ:ă 1 _:=hr.mono au;have Pm:ă 3 _:=hr.mono au;refine⟨_,bU (aw (cZ A1 Pm dE (ac (pv 1) (ac aF (ac (bA (v:=.int 20) rfl mF ⟨_,rfl⟩) ao))))) (bU (aw (cZ A3 hr dE (ac (pv 2) ao))) (bU (aw (cZ A1 Pm dE (ac (pv 3) (ac aF (ac (bA (v:=.int 20) rfl mR ⟨_,rfl⟩) ao)))))
  (bU (dG (pv 0) (pv 2) rfl) (bU (dG (pv 0) (pv 3) rfl)
  (aX (aw (bP Cf G ĭ rfl mS bG .nil ak (ac (pv 0) (ac (pv 1) (ac aF (ac (aP (ac ay (ac (pv 1) (ac (pv 2) (ac (pv 3) ao))))) (ac (cZ A2 ĭ ak (ac (pv 1) ao)) ao)))))))))))),?_⟩
 refine⟨_,rfl,u1,e1,1,20,rfl,r1,λ h1=>?_,λ h1=>q1 h1⟩;refine⟨_,rfl,u2,e2,rfl,r2,λ h2=>?_,λ h2=>q2 h1 h2⟩;refine⟨_,rfl,u3,e3,1,20,rfl,r3,λ h3=>?_,λ h3=>q3 h1 h2 h3⟩;obtain⟨n,rfl,n1,NO⟩:=fN h1;obtain⟨a,b,rfl⟩:=kq h2;obtain⟨k,rfl,S2,k20⟩:=fN h3;cases r1;cases r3;refine⟨_,rfl,_,rfl,x,C 2,dx,[],rfl,hx,Z.cls 2 au,Z.no 2 au _ av,au,?_⟩;have k1:Kept H (ad H x (.ins (C 2) dx (bK "coin" u2 []))) x:=bj _;have SE:=r2.kept hx k1;have ML:ad H x (.ins (C 2) dx (bK "coin" u2 [])) x=some (.ins (C 2) dx [("coin",u2)]):=aM;generalize ad H x (.ins (C 2) dx (bK "coin" u2 []))=H1 at k1 SE ML ⊢;refine⟨_,rfl,_,rfl,x,C 2,dx,[("coin",u2)],rfl,ML,Z.cls 2 au,Z.no 2 au _ av,(by show 1<1000;decide),?_⟩
 have ef:bK "far" (.int k) [(("coin" : Str),u2)]=[(("coin" : Str),u2),(("far" : Str),.int k)]:=by
  show(if("coin" : Str) = "far" then _ else _)=_
  rw [Ï av];rfl
 rw [ef];have kf:Kept H1 (ad H1 x (.ins (C 2) dx [("coin",u2),("far",.int k)])) x:=bj _;have SD:=SE.kept ML kf;have S6:ad H1 x (.ins (C 2) dx [("coin",u2),("far",.int k)]) x=some (.ins (C 2) dx [("coin",u2),("far",.int k)]):=aM;generalize ad H1 x (.ins (C 2) dx [("coin",u2),("far",.int k)])=WU at kf SD S6 ⊢;refine⟨_,rfl,_,rfl,_,rfl,_,rfl,_,rfl,cL,λ m hm=>⟨_,rfl,n,rfl,ai,NO,λ l H2 x2 rl=>?_⟩⟩;have xm:=Ext.new (o:=.tup [.str "coins",.int n,u2,.int k]) hm;have Ţ:=xm.trans x2;have Qd:=x2 _ _ (show ad WU m (.tup [.str "coins",.int n,u2,.int k]) m=_ from aM);have NR:=Ţ _ _ S6;have SC:=SD.mono Ţ;refine⟨x,_,_,_,_,2,dx,[("coin",u2),("far",.int k)],rfl,au,NR,(by show 2<=5;decide),q n a b k rfl rfl rfl ⟨n1,NO,h2,S2,k20⟩ _ (((k1.trans kf).trans (Ţ.kept x)).trans (bj _)) ?_⟩
 have kk:Kept H2 (ad H2 x (.ins (C 2) dx (gh (.int n) (.int 0) (.ref m) (.ref l) [("coin",u2),("far",.int k)]))) x:=bj _;refine iD aM (.int _) ((Ĝ.tup Qd (.cons (.str _) (.cons (.int _) (.cons SC (.cons (.int _) .nil))))).kept NR kk) (rl.kept NR kk) (λ n hn=>?_) ⟨⟨u2,?_,SC.kept NR kk⟩,?_⟩
 ·have e:n = "coin" \/ n = "far" := by simpa using hn
  rcases e with e | e <;> rw [e] <;> decide +kernel
 ·rw [dP av];rfl
 ·rw [dP av];rfl
end
theorem yq:Ext (wo H p) (wo (ad H p o) p):=λ b u e=>by
 have n:=eL e;exact aJ n (by rw [af n];exact ah H p _ _ e)
theorem Ext.kp (e:Ext G H)(n:G x=none)(k:Kept H H' x):Ext G H':=λ b o h=>k b o (e b o h) λ z=>by rw [z,n] at h;cases h
section
variable {X:Cx}
def ve:List V->Hp->VK->Prop:=λ vs H Q=>∃ i j:Int,vs=[.int i,.int j]/\∀ r,H r=none->Q (.ref r) (ad H r (.Mc i j))
theorem gN:dC X (.type "range") ve:=by
 intro Ä s σ H xs us Q I r h;obtain⟨i,j,rfl,q⟩:=h;obtain⟨u,v,rfl,⟨t,rfl⟩,t',rfl⟩:=ky r;refine call_range_2 ⟨.ref s.heap.objs.size,_,I.laid (λ b o e=>Ã _ e) (Ê _) ?_,rfl,q _ (I.ċ.fresh (Ê _))⟩;exact⟨_,_,_,Ò _ rfl⟩
end
section
variable {X:Cx}{Ä:List (Addr × Obj)}{σ:St}{H:Hp}{s:Shared}{A:Around}{Q:fg}{E:fg}{b:Bool}{tp:Addr}{dd:Option Addr}{its:List Value}{n:Nat}{sl:Array (Option Value)}
theorem p8 (I:Inv X Ä σ H s)(rx:RelV x u)(ty:š X.K H x t)(Oy:s.heap.get? tp=some ⟨.type "tuple",dd,.seq its.toArray n,sl⟩)(e:PySem.W.kitAny X.K t its=some b)(h:∀ tk,Q (.bool b) { s with toks:=tk }) :
  wpAny (model X.prog X.w) A (call (.builtin "isinstance") [u,.ref tp]) Q E s:=by
 cases ty with
 | Ċ=>cases (show u=.none from rx);exact ĕ PySem.W.kitx_none I.Ō True.intro Oy e (λ z=>nomatch z) h
 | bl y=>cases (show u=Value.bool y from rx);exact ĕ PySem.W.kitx_bool I.Ō True.intro Oy e (λ z=>nomatch z) h
 | int i=>obtain⟨t,q⟩:=(show ∃ t,u=.int i t from rx);cases q;exact ĕ PySem.W.kitx_int I.Ō True.intro Oy e (λ z=>nomatch z) h
 | str y=>obtain⟨t,q⟩:=(show ∃ t,u=.str y t from rx);cases q;exact ĕ PySem.W.kitx_str I.Ō True.intro Oy e (λ z=>nomatch z) h
 | PR y=>obtain⟨t,q⟩:=(show ∃ t,u=Value.float y t from rx);cases q;exact ĕ PySem.W.kitx_float I.Ō True.intro Oy e (λ z=>nomatch z) h
 | @lst a xs ea =>
  cases (show u=.ref a from rx);obtain⟨_,_,n,_,h1⟩:=(show Ą X.prog X.w H s.heap a (.lst xs) from I.ċ a _ ea);exact ĕ ζ I.Ō ⟨_,h1,rfl⟩ Oy e (λ z=>nomatch z) h
 | @υ a ob xs ea =>
  cases (show u=.ref a from rx);obtain⟨_,_,_,n,_,h1⟩:=(show Ą X.prog X.w H s.heap a (.υ ob (.lst xs)) from I.ċ a _ ea);exact ĕ ζ I.Ō ⟨_,h1,rfl⟩ Oy e (λ z=>nomatch z) h
 | @tup a xs ea =>
  cases (show u=.ref a from rx);obtain⟨_,_,_,p⟩:=(show Ą X.prog X.w H s.heap a (.tup xs) from I.ċ a _ ea);obtain⟨o,h1,h2,_⟩:=p;exact ĕ PySem.W.kitx_tuple I.Ō ⟨o,h1,h2⟩ Oy e (λ z=>nomatch z) h
 | @dK a ì ea =>
  cases (show u=.ref a from rx);obtain⟨_,_,vs,_,p⟩:=(show Ą X.prog X.w H s.heap a (.dK ì) from I.ċ a _ ea);obtain⟨o,es,ep,h1,h2,_⟩:=p;exact ĕ η I.Ō ⟨o,h1,h2.1⟩ Oy e (λ z=>nomatch z) h
 | @dT a ì ea =>
  cases (show u=.ref a from rx);obtain⟨_,_,xs,_,o,es,ep,h1,h2,_⟩:=(show Ą X.prog X.w H s.heap a (.dT ì) from I.ċ a _ ea);exact ĕ η I.Ō ⟨o,h1,h2.1⟩ Oy e (λ z=>nomatch z) h
 | @ins a C dx fs ea cl ha hn Nq hm =>
  cases (show u=.ref a from rx);obtain⟨mA,O,_⟩:=iA I.ċ ea;obtain⟨od,J,_⟩:=O.look;exact ĕ (PySem.W.kitx_own (cl.get _) cl.hd ha hn Nq hm) I.Ō J Oy e (λ z=>nomatch z) h
end
section
variable {X:Cx}
def DO (K:Frag):List V->Hp->VK->Prop:=λ vs H Q=>∃(x:V)(p:Addr)(cs:List Addr)(t:Value)(b:Bool),vs=[x,.ref p]/\š K H x t/\H p=some (.tup (cs.map V.ref))/\kitAny K t (cs.map Value.ref)=some b/\Q (.bl b) H
theorem lL:dC X (.builtin "isinstance") (DO X.K):=by
 intro Ä s σ H xs us Q I r h;obtain⟨x,p,cs,t,b,rfl,ty,hp,e,q⟩:=h;obtain⟨u,u',rfl,ru,PF⟩:=ky r;cases (show u'=.ref p from PF);obtain⟨_,its,rv,⟨o,h1,h2,n,h3⟩⟩:=(show Ą X.prog X.w H s.heap p (.tup (cs.map .ref)) from I.ċ p _ hp);have ei:=lA rv;subst ei;obtain⟨c0,d0,dt0,sl0⟩:=o;have Uu:=h2;have hd0:=h3;subst Uu;subst hd0;exact p8 I ru ty h1 e λ tk=>⟨.bl b,H,I.tok _,rfl,q⟩
end
def OG (K:Frag)(C:Nat->Addr)(H:Hp)(v:V)(b:Bool):Prop:=∃ t,š K H v t/\kitAny K t [.ref (C 0),.ref (C 1),.ref (C 2)]=some b
theorem OG.ext (h:OG K C H v b)(x:Ext H H'):OG K C H' v b:=by
 obtain⟨t,k,e⟩:=h;exact⟨t,My.š.ext k x,e⟩
theorem xo (h1:kitOne K t a=some x)(h2:kitOne K t b=some y)(h3:kitOne K t c=some z):kitAny K t [a,b,c]=some (x||(y||z)):=by
 cases x <;> cases y <;> cases z <;> simp [kitAny,h1,h2,h3]
theorem Ob.ty {CR:Addr}(Z:KR K C CR)(hi:i<5)(h:Ob (C i) H v fk bg tl pt X):š K H v (.ref (C i)):=by
 obtain⟨a,dx,fs,rfl,ha,_⟩:=h.ex;exact .ins ha (Z.cls i hi) (Z.ha i hi) Z.hn Z.Nq (Z.hm i hi)
theorem vi {CR:Addr}(Z:KR K C CR)(h:Ru C H t v):OG K C H v (t.kind==0||(t.kind==1||t.kind==2)) :=
 ⟨_,h.ob.ty Z t.Ĥ,xo (Z.kk _ 0 t.Ĥ au) (Z.kk _ 1 t.Ĥ au) (Z.kk _ 2 t.Ĥ au)⟩
theorem Kt {J:It}{tt:TT}{Q:Hp->Prop}{xs:List V}(p:V->Bool)(hz:xs.length<sizeLine)(hD:H1 D=none)(go:∀ i H,Ext H1 H->i<xs.length->J.go i H)(st:∀ H,Ext H1 H->J.stop xs.length H)(yl:∀ i H x H',Ext H1 H->J.MJ i H x H'->H'=H/\xs[i]?=some x)
  (hs:∀(i:Nat) x H,xs[i]?=some x->Ext H1 H->∀ R:Bool->Hp->Prop,(∀ H',Ext H H'->R (p x) H')->tt (some x::cap) H R)(hd:∀ H,Ext H1 H->H D=some (.lst (xs.filter p))->Q H) :
  ∃ W:Nat->Nat->List V->Hp->Prop,(∃ m,W 0 m [] (ad H1 D (.lst []))) /\
   ∀ i m ys H2,W i m ys H2->H2 D=some (.lst ys)/\((J.stop i H2/\Q H2)\/(J.go i H2/\ys.length<sizeLine /\
    ∀ x H3,J.MJ i H2 x H3->∀ os:St,os.length=1->ba 0 x (os++cap) H3 λ Ĵ H0=>(∃ ō:St,ō.length=1/\Ĵ = ō ++ cap)/\tt Ĵ H0 λ b H5=>(b=false->∃ m',m'<m/\W (i+1) m' ys H5) /\
     (b=true->ag 0 Ĵ H5 λ y H4=>H4 D=some (.lst ys)/\∃ m',m'<m/\W (i+1) m' (ys ++ [y]) (ad H4 D (.lst (ys ++ [y])))))):=by
 refine⟨λ i m ys H=>m=xs.length-i/\i<=xs.length/\H D=some (.lst ys)/\ys=(xs.take i).filter p/\Ext H1 H,⟨xs.length,by simp,Nat.zero_le _,aM,rfl,.new hD⟩,?_⟩
 rintro i m ys H ⟨rfl,hi,Nz,rfl,x1⟩;refine⟨Nz,?_⟩;by_cases ŵ:i<xs.length
 ·refine .inr ⟨go i H x1 ŵ,?_,λ x H' hyl os ŀ=>?_⟩
  ·have:=ĥ p (xs.take i);rw [Ā] at this;omega
  obtain⟨rfl,hx⟩:=yl i H x H' x1 hyl;obtain⟨o0,rfl⟩:∃ o0,os=[o0]:=by
   match os,ŀ with
   | [o0],_=>exact⟨o0,rfl⟩
  refine⟨⟨[some x],rfl,rfl⟩,hs i x H' hx x1 _ λ H5 x5=>⟨λ e=>?_,λ e=>?_⟩⟩
  ·refine⟨xs.length-(i+1),ai,rfl,ŵ,x5 _ _ Nz,?_,x1.trans x5⟩;rw [aC hx,Š,ĺ (by rw [e];decide),r_,Ę]
  ·refine⟨x,rfl,x5 _ _ Nz,xs.length-(i+1),ai,rfl,ŵ,aM,?_,aI _ (x1.trans x5) hD⟩;rw [aC hx,Š,Ĺ e,r_]
 ·have e:i=xs.length:=ai;subst e;refine .inl ⟨st H x1,hd H x1 ?_⟩;rw [Ú] at Nz;exact Nz
theorem fj (p:Int->Bool)(pv:V->Bool)(h:∀ i,pv (.int i)=p i):∀ ns:List Int,(ns.map V.int).filter pv=(ns.filter p).map V.int
 | []=>rfl
 | n::ns=>by
  rw [ï];cases e:p n with
  | true=>rw [Ĺ (by rw [h];exact e),Ĺ e,fj p pv h ns];rfl
  | false=>rw [ĺ (by rw [h,e];decide),ĺ (by rw [e];decide),fj p pv h ns]
theorem Ù.filter {α:Type}{f:α->PyData}{p:α->Bool}{pv:V->Bool}:∀{ys:List V}{qs:List α},Ù G ys (qs.map f)->(∀(i:Nat) y q,ys[i]?=some y->qs[i]?=some q->pv y=p q)->Ù G (ys.filter pv) ((qs.filter p).map f)
 | [],[],_,_=>.nil
 | [],_::_,h,_=>by cases h
 | _::_,[],h,_=>by cases h
 | y::ys,q::qs,h,k=>by
  cases h with
  | cons r t =>
   have e0:=k 0 y q rfl rfl;have ih:=Ù.filter t λ i y' q' a b=>k (i+1) y' q' a b;cases e:p q with
   | true=>rw [Ĺ (by rw [e0];exact e),Ĺ e];exact .cons r ih
   | false=>rw [ĺ (by rw [e0,e];decide),ĺ (by rw [e];decide)];exact ih
def Sm (ps:List (List Int)):Prop:=ps.length<=20/\∀ p∈ps,p.length<=20
theorem fc:∀(ns:List Int)(s:Int),(cX s ns).length=ns.length
 | [],_=>rfl
 | n::ns,s=>by show(cX (s+n) ns).length+1=_;rw [fc ns];rfl
theorem j5:∀(ns:List Int)(s:Int),(∀ n∈ns,n<=20)->∀ p∈cX s ns,p.length<=20
 | [],_,_,_,h=>by cases h
 | n::ns,s,hn,p,h=>by
  rcases ë.mp h with rfl | h
  ·have:=hn n (ò ..);unfold c5;simp only [List.length_map,List.length_range];omega
  ·exact j5 ns _ (λ m hm=>hn m (á _ hm)) p h
theorem Sm.cut (m:Int)(h:Sm ps):Sm (i4 m ps):=by
 refine⟨õ (ĥ _ _) (by rw [Â];exact h.1),λ p hp=>?_⟩
 obtain⟨q,hq,rfl⟩:=ð.mp (Oo.mp hp).1;exact õ (ĥ _ _) (h.2 q hq)
theorem Rl.sm:∀{t:Rl},t.ok->Sm t.parts
 | .one r,h=>by
  have:=R0.ď h;refine⟨by show 1<=20;decide,λ p hp=>?_⟩
  rw [ä.mp hp];unfold c5;simp only [List.length_map,List.length_range];omega
 | .blocks rs,h=>by
  obtain⟨h1,h6,ok,Xl⟩:=h;refine⟨by show(cX 0 (rs.map R0.Ñ)).length<=20;rw [fc,Â];omega,j5 _ _ λ n hn=>?_⟩
  obtain⟨r,hr,rfl⟩:=ð.mp hn;exact(R0.ď (ok r hr)).2
 | .first t m,h=>(Rl.sm h.1).cut m
theorem jD (n:Int):∀(ns:List Int)(s:Int),cX s (ns ++ [n])=cX s ns ++ [c5 (s+ns.sum) n.toNat]
 | [],s=>by simp [cX]
 | m::ns,s=>by
  show c5 s m.toNat::cX (s+m) (ns ++ [n])=_;rw [jD n ns (s+m),MH,Int.add_assoc];rfl
structure Ms (P:Program)(w:World)(K:Frag)(mg:bC)(base:Heap)(C:Nat->Addr):Prop where
 Ñ:bJ P w K mg base aB 1 "folk" ["self"] (qN C) (λ _=>mE C)
 begin:bJ P w K mg base aB 1 "begin" ["self"] (qN C) (λ _=>jo C)
 told:bJ P w K mg base aB 1 "told" ["self"] (qN C) (λ _=>jU C)
 blocks:bJ P w K mg base aB 1 "blocks" ["self"] (qN C) (λ _=>qy C)
section
variable {P:Program}{w:World}{K:Frag}{mg:bC}{base:Heap}{C:Nat->Addr}{CR:Addr}
abbrev B2:Stmt:=cw 39
def ut (K:Frag)(C:Nat->Addr):Sp:=λ vs H Q _=>∃ v b,vs=[v]/\OG K C H v b/\∀ H',Ext H H'->Q (.bl b) H'
theorem Ht:ae ["thing"] ["thing"] (aa B2):=aR
theorem Cz (F:Ī K "may_be_block" "may_be_block" B2 f fd)(m0:mg "Split" = some (.ref (C 0)))(m1:mg "Pairs" = some (.ref (C 1)))(m2:mg "Coins" = some (.ref (C 2)))(mi:mg "isinstance" = none):à P w K mg base aB 1 f fd ["thing"] (ut K C):=by
 refine bO F Ht λ cdv A outer s H vs Q E hr h=>?_;obtain⟨v,b,rfl,bk,q⟩:=h;refine⟨_,aX (dk (aj lL rfl mi Û (ac (pv 0) (ac (aP (ac (bA (v:=.ref (C 0)) rfl m0 rfl) (ac (bA (v:=.ref (C 1)) rfl m1 rfl) (ac (bA (v:=.ref (C 2)) rfl m2 rfl) ao)))) ao)))),?_⟩;refine⟨_,rfl,cL,λ p hp=>?_⟩;have x1:=Ext.new (o:=.tup [.ref (C 0),.ref (C 1),.ref (C 2)]) hp;obtain⟨t,ty,ka⟩:=bk.ext x1;exact⟨v,p,[C 0,C 1,C 2],t,b,rfl,ty,aM,ka,q _ x1⟩
abbrev ID:Stmt:=cw 40
def p5 (K:Frag)(C:Nat->Addr)(H:Hp)(xs:List V)(bs:List Bool):Prop:=xs.length=bs.length/\∀(i:Nat) x b,xs[i]?=some x->bs[i]?=some b->OG K C H x b
def Ea (n:Nat)(bs:List Bool):Bool:=(decide (1<=n)&&decide (n<=6))&&bs.all id
def Ed (K:Frag)(C:Nat->Addr):Sp:=λ vs H Q _=>∃ v,vs=[v]/\((PV K H v "list" /\ ∀ H',Ext H H'->Q (.bl false) H')\/∃ a xs bs,v=.ref a/\H a=some (.lst xs)/\xs.length<1000/\p5 K C H xs bs/\∀ H',Ext H H'->Q (.bl (Ea xs.length bs)) H')
theorem IB:ae ["thing"] ["thing"] (aa ID):=aR
abbrev Gw:Scope:=dJ [("rule",.local),("may_be_block",.globalImplicit)]
theorem AH:bu X Gw [] ["rule"] [] []:=by
 refine⟨rfl,rfl,av,av,av,(λ z c h=>nomatch h),(λ z h=>?_),av,(λ k z h=>by simp at h),rfl⟩
 exfalso;have h':List.lookup z [((".0" : Str),NameKind.local),(("rule" : Str),NameKind.local),(("may_be_block" : Str),NameKind.globalImplicit)]=some .cell\/List.lookup z [((".0" : Str),NameKind.local),(("rule" : Str),NameKind.local),(("may_be_block" : Str),NameKind.globalImplicit)]=some .free:=h;simp only [List.lookup_cons,List.lookup_nil] at h'
 repeat' (split at h')
 all_goals simp at h'
theorem zX:((["rule"]:List Str)++([]:List Str)).Nodup:=av
theorem DT (N:sP K)(F:Ī K "are_block_rules" "are_block_rules" ID f fd)(A1:Df P w K mg base aB 1 "may_be_block" ["thing"] (ut K C) a1 d1)(A2:Df P w K mg base aB 2 "is_whole" ["thing","low","high"] (gD K) a2 d2)(mR:mg "MOST_RULES" = some (.int 6 t))
  (mi:mg "isinstance" = none)(ml:mg "list" = none)(mn:mg "len" = none)(ma:mg "all" = none):à P w K mg base aB 3 f fd ["thing"] (Ed K C):=by
 refine bO F IB λ cdv A outer s H vs Q E hr h=>?_;obtain⟨v,rfl,h⟩:=h;have ĭ:ă 1 _:=hr.mono au;refine⟨_,bU (be (PW.pt (gR (cp (bE (aj (cK N) rfl mi Û (ac (pv 0) (ac (gz rfl ml Ă) ao))))) (fv (cp (bE (cZ A2 hr ak (ac (aj az rfl mn ê (ac (pv 0) ao)) (ac aF (ac (bA (v:=.int 6) rfl mR ⟨_,rfl⟩) ao))))))))) (aX (dk vy)) f6)
  (aX (dk (aj (oS rfl) rfl ma PyProof.Rows.boot_all (ac (cu (te:=iE (ut K C) [] E0 (am (ag 0) aK)) (g:=ba 0) rfl AH (aS (pv 0)) (λ s H C fp=>cq zX rfl (.inl rfl)) (λ s H C fp=>cZ A1 ĭ ak (ac (pv 0) ao))) ao)))),?_⟩
 rcases h with⟨⟨t,kd,kt⟩,q⟩ | ⟨a,xs,bs,rfl,ha,S1,⟨lb,bk⟩,q⟩
 ·exact⟨_,rfl,_,_,_,_,rfl,kd,kt,_,rfl,cy (cy (q H (.refl _)))⟩
 refine⟨_,rfl,_,_,_,_,rfl,.inl (.lst ha),rfl,_,rfl,bZ ?_⟩;refine⟨_,rfl,a,xs,rfl,.inl (ç.of ha),_,1,6,rfl,.inl ⟨_,rfl⟩,_,rfl,?_⟩;have ei:NP 1 6 (.int (xs.length:Nat))=(decide (1<=xs.length)&&decide (xs.length<=6)):=by
  show(decide ((1:Int)<=(xs.length:Nat))&&decide (((xs.length:Nat):Int)<=6))=_
  congr 1 <;> exact NA.mpr ai
 rw [ei];unfold Ea at q;cases e:decide (1<=xs.length)&&decide (xs.length<=6) with
 | false =>
  rw [e,Χ] at q;exact cy (q H (.refl _))
 | true =>
  rw [e,Ň] at q;refine bZ ⟨_,rfl,a,rfl,⟨_,ç.of ha⟩,λ D hD=>?_⟩;refine bD (λ i ys H'=>Ext H H'/\ys=(bs.take i).map .bl) (by rw [Ö];omega) ⟨.new hD,rfl⟩ (λ i ys H' pv=>ç.of (pv.1 _ _ ha)) ?_ ?_
  ·rintro i x ys H' ex ly Ġ ⟨x',rfl⟩ os ŀ R k;obtain⟨o0,rfl⟩:∃ o0,os=[o0]:=by
    match os,ŀ with
    | [o0],_=>exact⟨o0,rfl⟩
   have hi:i<bs.length:=by have:=(Å.mp ex).1;omega
   refine⟨⟨[some x],rfl,rfl⟩,_,rfl,x,_,rfl,(bk i x _ ex (Á hi)).ext x',λ H4 x4=>k _ H4 (x4 _ _ Ġ) ⟨aI _ (x'.trans x4) hD,?_⟩⟩;rw [aC (Á hi),Ì];rfl
  ·rintro ys H' ly Ġ ⟨x',rfl⟩;rw [lb,Ú] at Ġ;exact⟨D,bs,rfl,ç.of Ġ,q H' x'⟩
abbrev Jw:Stmt:=cw 32
def F0 (C:Nat->Addr):Sp:=λ vs H Q _=>∃(a:Addr)(xs:List V)(rs:List R0),vs=[.ref a]/\H a=some (.lst xs)/\ε C H rs xs/\rs.length<=6/\(∀ r∈rs,r.ok)/\∀ l H',Ext H H'->Ĝ H' (.ref l) (fG (cX 0 (rs.map R0.Ñ)))->Q (.ref l) H'
abbrev LC:List Str:=["rules","parts","start","rule","behind"]
theorem Sn:ae LC ["rules"] (aa Jw):=aR
theorem ua {ns:List Int}(h:ns[i]?=some n):(ns.take (i+1)).sum=(ns.take i).sum+n:=by
 rw [aC h,ś];simp
theorem pK {rs:List R0}(h6:rs.length<=6)(ok:∀ r∈rs,r.ok):∀ i,0<=(((rs.take i).map R0.Ñ).sum)/\((rs.take i).map R0.Ñ).sum<=120:=by
 have gen:∀(l:List R0),(∀ r∈l,r.ok)->0<=(l.map R0.Ñ).sum/\(l.map R0.Ñ).sum<=20*(l.length:Int):=by
  intro l
  induction l with
  | nil=>intro _;simp
  | cons r l ih =>
   intro h;have h1:=R0.ď (h r (ò ..));have h2:=ih λ x hx=>h x (á _ hx);simp only [List.map_cons,List.sum_cons,List.length_cons];omega
 intro i;have:=gen (rs.take i) λ r hr=>ok r (G_ hr);have l:(rs.take i).length<=6:=by rw [Ā];omega
 omega
theorem En (F:Ī K "parts_of" "parts_of" Jw f fd)(M:Ms P w K mg base C)(mt:mg "tuple" = none)(mr:mg "range" = none):à P w K mg base aB 2 f fd ["rules"] (F0 C):=by
 refine bO F Sn λ cdv A outer s H vs Q E hr h=>?_;obtain⟨a,xs,rs,rfl,ha,al,l6,ok,q⟩:=h;have nd:=Sn.nd;refine⟨_,bU (gG (i:=1) nd rfl (Or.inl rfl) (bM ao)) (bU (gG (i:=2) nd rfl (Or.inl rfl) aF)
  (bU (bY PassesOwn.never rfl (aS (pv 0)) (cq (i:=3) nd rfl (Or.inl rfl)) (bU (gG (i:=4) nd rfl (Or.inl rfl) (aE bw (pv 2) (bt (pv 3) M.Ñ hr ak)))
   (bU (aw (eG Ü Ć ą bH (pv 1) (ac (aN (kZ rfl) rfl mt ù (ac (aN gN rfl mr ĸ (ac (pv 2) (ac (pv 4) ao))) ao)) ao)))
   (aX (gG (i:=2) nd rfl (Or.inl rfl) (pv 4))))))
  (aX (dk (aN bR rfl mt ù (ac (pv 1) ao)))))),?_⟩
 refine⟨cL,λ p hp=>?_⟩;have x1:=Ext.new (o:=.lst []) hp;have f1:ad H p (.lst []) p=some (.lst []):=aM;generalize ad H p (.lst [])=H1 at x1 f1 ⊢;have ap:a≠p:=λ e=>by rw [<- e,ha] at hp;cases hp
 refine⟨_,rfl,a,rfl,⟨_,ç.of (x1 _ _ ha)⟩,eV (xs:=xs) (λ i σ H'=>Ext H H'/\(∃ qs,H' p=some (.lst qs)/\Ù (wo H' p) qs ((cX 0 ((rs.take i).map R0.Ñ)).map qj))/\∃ o3 o4,σ=[some (.ref a),some (.ref p),some (.int ((rs.take i).map R0.Ñ).sum),o3,o4]) ⟨x1,⟨[],f1,.nil⟩,_,_,rfl⟩ ?_ ?_ ?_⟩
 ·rintro i σ H' _ ⟨x',_⟩;exact ç.of (x' _ _ ha)
 ·rintro i v σ H' ev ⟨x',⟨qs,hq,rq⟩,o3,o4,rfl⟩;have hi:i<rs.length:=by have:=(Å.mp ev).1;rw [al.1];exact this
  have er:=Á hi;have ru:=(al.2 i _ v er ev).ext x';have em:(rs.map R0.Ñ)[i]?=some rs[i].Ñ:=by rw [Ç,er];rfl
  have st:((rs.take (i+1)).map R0.Ñ).sum=((rs.take i).map R0.Ñ).sum+rs[i].Ñ:=by
   rw [P2,P2];exact ua em
  have b1:=pK l6 ok i;have b2:=R0.ď (ok _ (č hi));have lq:qs.length<=6:=by
   have:=rq.length;rw [Â] at this;have sl:∀(ns:List Int)(s:Int),(cX s ns).length=ns.length:=by
    intro ns
    induction ns with
    | nil=>intro s;rfl
    | cons n ns ih=>intro s;show(cX (s+n) ns).length+1=_;rw [ih];rfl
   rw [sl,Â,Ā] at this;omega
  refine⟨_,rfl,cG (t:=.one rs[i]) av ru (λ R r=>⟨_,rfl,r⟩) ⟨v,.one rs[i],rfl,ru,_,_,rfl,rfl,?_⟩⟩;refine⟨_,rfl,.inl ⟨rfl,_,ç.of hq⟩,_,rfl,_,rfl,_,_,rfl,λ r hr=>⟨r,_,_,rfl,aM,⟨by show -(2^62)<=_;omega,ai,by show -(2^62)<=_+R0.Ñ _;omega,by show _+R0.Ñ _<_;omega⟩,by show(_+R0.Ñ _-_).toNat<=_;omega,λ l hl=>?_⟩⟩
  have xr:=Ext.new (o:=.Mc ((rs.take i).map R0.Ñ).sum (((rs.take i).map R0.Ñ).sum+rs[i].Ñ)) hr;have ed:(((rs.take i).map R0.Ñ).sum+rs[i].Ñ - ((rs.take i).map R0.Ñ).sum).toNat=rs[i].Ñ.toNat:=by congr 1;omega
  have ed':(((rs.take i).map R0.Ñ).sum+(Rl.one rs[i]).Ñ - ((rs.take i).map R0.Ñ).sum).toNat=rs[i].Ñ.toNat:=ed;rw [ed',mh];have PL:ad H' r (.Mc ((rs.take i).map R0.Ñ).sum (((rs.take i).map R0.Ñ).sum+rs[i].Ñ)) l=none:=hl;have xl:=Ext.new (o:=.tup ((c5 ((rs.take i).map R0.Ñ).sum rs[i].Ñ.toNat).map V.int)) PL;have x2:=xr.trans xl;have M4:=x2 _ _ hq;have np:l≠p:=λ e=>by rw [e,xr _ _ hq] at PL;cases PL
  have PK:ad (ad H' r (.Mc ((rs.take i).map R0.Ñ).sum (((rs.take i).map R0.Ñ).sum+rs[i].Ñ))) l (.tup ((c5 ((rs.take i).map R0.Ñ).sum rs[i].Ñ.toNat).map V.int)) l=some (.tup ((c5 ((rs.take i).map R0.Ñ).sum rs[i].Ñ.toNat).map V.int)):=aM;refine⟨p,qs,.ref l,rfl,rfl,M4,by rw [Ö];omega,?_⟩
  show cR (ag 4) (ba 2) _ [some (.ref a),some (.ref p),some (.int ((rs.take i).map R0.Ñ).sum),some v,some (.int (((rs.take i).map R0.Ñ).sum+rs[i].Ñ))] (ad (ad (ad H' r (.Mc ((rs.take i).map R0.Ñ).sum (((rs.take i).map R0.Ñ).sum+rs[i].Ñ))) l (.tup ((c5 ((rs.take i).map R0.Ñ).sum rs[i].Ñ.toNat).map V.int))) p (.lst (qs ++ [.ref l])));generalize ad (ad H' r (.Mc ((rs.take i).map R0.Ñ).sum (((rs.take i).map R0.Ñ).sum+rs[i].Ñ))) l (.tup ((c5 ((rs.take i).map R0.Ñ).sum rs[i].Ñ.toNat).map .int))=H2 at x2 M4 PK ⊢;refine⟨_,rfl,aI _ (x'.trans x2) hp,⟨_,aM,?_⟩,_,_,by rw [st];rfl⟩
  have e1:(cX 0 ((rs.take (i+1)).map R0.Ñ)).map qj=(cX 0 ((rs.take i).map R0.Ñ)).map qj ++ [qj (c5 ((rs.take i).map R0.Ñ).sum rs[i].Ñ.toNat)]:=by
   rw [aC er,Ì,ï,i_,jD,Ì,Ŕ];rfl
  rw [e1];refine((Ù.mono (bn x2 p) rq).append (.cons (.tup (aJ np PK) (c8 _ _)) .nil) |> Ù.mono yq)
 ·rintro σ H' ⟨x',⟨qs,hq,rq⟩,o3,o4,rfl⟩;have lr:=al.1.symm;rw [lr,Ú] at rq;refine⟨_,rfl,p,qs,rfl,.inl ⟨ç.of hq,λ l hl=>?_⟩⟩;have xl:=Ext.new (o:=.tup qs) hl;exact q l _ (x'.trans xl) (.tup aM (Ù.mono ((ah H' p).trans xl) rq))
end
section
variable {prog:Program}{w:World}{A:Around}{E:fg}{s:Shared}
theorem qJ {items}(hit:s.heap.IsTupleIter it t i)(ht:s.heap.IsTuple t items)(hx:items[i]?=some x)
  (hQ:∀ h',h'.IsTupleIter it t (i+1)->Heap.SameBut it s.heap h'->Q x { s with heap:=h' }):wpAny (model prog w) A (Builtin.SmallTypes.nextOf (.ref it)) Q E s:=by
 obtain⟨⟨o,ho,hc,hd⟩,⟨ol,V',_,nl,Wu⟩⟩:=And.intro (id hit) ht;unfold Builtin.SmallTypes.nextOf;refine À (ÿ hit.typeIs ř (ĉ ř hit.typeIs F.entry_tuple_iterator_next ?_ (Q8 _)));show wpAny _ _ (field (.ref it) 0>>=_) _ _ s;refine À (ö ho hd (x:=.ref t) rfl ?_);show wpAny _ _ (if(Value.ref t == .none)=true then _ else _) _ _ s;rw [Ï (show ¬ ((Value.ref t == .none)=true) from Ô)]
 show wpAny _ _ (field (.ref it) 1>>=_) _ _ s;refine À (ö ho hd (x:=.int i 0) rfl ?_);show wpAny _ _ (seqItems? (.ref t)>>=_) _ _ s;refine À (Ņ V' Wu ?_);simp only [Int.toNat_natCast,hx];refine À (χ ho hd (by simp) (wpAny_pure ⟨x,rfl,wpAny_pure (hQ _ ⟨_,Heap.get?_update_self _ ho (Obj.isFreed_of_fields (Obj.data_mapFields hd _)),(Obj.cls_mapFields ..).trans hc,?_⟩ (Heap.SameBut.update ..))⟩))
 rw [On hd];simp [rawInt]
theorem tf {items}(hh:A.handled=none)(hit:s.heap.IsTupleIter it t i)(ht:s.heap.IsTuple t items)(hx:items[i]?=none)
  (hE:∀ h' e,Heap.ExtBut it s.heap h'->(∃ o,h'.get? e=some o/\o.cls=.type "StopIteration")->E (.ref e) { s with heap:=h' }):wpAny (model prog w) A (Builtin.SmallTypes.nextOf (.ref it)) Q E s:=by
 obtain⟨⟨o,ho,hc,hd⟩,⟨ol,V',_,nl,Wu⟩⟩:=And.intro (id hit) ht;unfold Builtin.SmallTypes.nextOf;refine À (ÿ (name:=Str.ofString "__next__") hit.typeIs ř (ĉ ř hit.typeIs F.entry_tuple_iterator_next ?_ (Q8 _)));show wpAny _ _ (field (.ref it) 0>>=_) _ _ s;refine À (ö ho hd (x:=.ref t) rfl ?_);show wpAny _ _ (if(Value.ref t == .none)=true then _ else _) _ _ s;rw [Ï (show ¬ ((Value.ref t == .none)=true) from Ô)]
 show wpAny _ _ (field (.ref it) 1>>=_) _ _ s;refine À (ö ho hd (x:=.int i 0) rfl ?_);show wpAny _ _ (seqItems? (.ref t)>>=_) _ _ s;refine À (Ņ V' Wu ?_);simp only [Int.toNat_natCast,hx];refine À (Mh (À (χ ho hd (by simp) ?_)));show wpAny _ _ (newExc (.type "StopIteration") []>>=_) _ _ _
 refine À ?_;simp only [newExc,newTuple];refine À (ý ?_ (by size_fits))
 refine À (wpAny_of_eq (by first | rfl | (simp only [firstArgMember];rfl)) (ý ?_ (by size_fits)))
 simp only [raiseNew];refine À (wpAny_handled ?_)
 first | rw [show A.in1.handled=none from hh] | rw [hh]
 exact À (Æ (wpAny_throw (hE _ _ (((Heap.SameBut.update ..).extBut.push _).push _) ⟨_,Ò _ rfl,rfl⟩)))
abbrev kL (h:Heap)(z TI TO:Addr)(f0 f1:Value):Prop:=h.get? z=some { cls:=.type "zip",dict:=none,data:=.fields #[f0,f1,.bool false,.ref TI,.ref TO],slots:=#[] }
def KG (f0:Value):Prop:=f0=.none\/∃ a:Int,f0=rawInt a
theorem vR (h:Q (s.heap.get? a) s):wpAny (model prog w) A (loadIfAlive a) Q E s:=λ _ _ _=>by
 unfold loadIfAlive;rw [Sem.wp_loadIfAlive];exact h
theorem rA {z TI TO:Addr}(hz:kL s.heap z TI TO f0 (.bool b))(ow:KG f0)(h1:Q true s)
  (h2:∀ h',kL h' z TI TO f0 (.bool true)->Heap.SameBut z s.heap h'->Q false { s with heap:=h' }):wpAny (model prog w) A (Builtin.SmallTypes.ownedTupleIsFree (.ref z)) Q E s:=by
 refine À (ö hz rfl rfl ?_);rcases ow with rfl | ⟨a,rfl⟩
 ·exact Æ h1
 ·refine À (vR ?_);cases s.heap.get? a.toNat with
  | none=>exact Æ h1
  | some o =>
   refine À (ö hz rfl rfl ?_);cases b with
   | true =>
    refine Æ ?_;have e:=h2 s.heap hz ⟨rfl,λ _ _=>rfl⟩;exact e
   | false =>
    exact À (î hz (by simp) λ h' Ug Pj=>wpAny_pure (h2 h' Ug Pj))
structure sM (z TI TO i1 i2 l1 l2:Addr):Prop where
 a1:TI≠z
 a2:TO≠z
 a3:i1≠z
 a4:i2≠z
 a5:TI≠TO
 a6:TI≠i1
 a7:TI≠i2
 a8:TO≠i1
 a9:TO≠i2
 b1:i1≠i2
 b2:l1≠z
 b3:l1≠TO
 b4:l1≠i1
 b5:l1≠i2
 b6:l2≠z
 b7:l2≠TO
 b8:l2≠i1
 b9:l2≠i2
structure Mg (h:Heap)(z TI TO i1 i2 l1 l2:Addr)(k:Nat):Prop where
 zo:∃ f0 b,kL h z TI TO f0 (.bool b)/\KG f0
 ti:IsPair h TI (.ref i1) (.ref i2)
 to:∃ a b,IsPair h TO a b
 j1:h.IsListIter i1 l1 k
 j2:h.IsTupleIter i2 l2 k
def gX (h h':Heap)(z TO i1 i2:Addr):Prop:=∀ c o,c≠z->c≠TO->c≠i1->c≠i2->h.get? c=some o->h'.get? c=some o
theorem qW {z TI TO i1 i2 l1 l2:Addr}{Q:fg}(D:sM z TI TO i1 i2 l1 l2)(hz:Mg s.heap z TI TO i1 i2 l1 l2 k)(g1:s.heap.IsList l1 xs)(g2:s.heap.IsTuple l2 ys)(hx:xs[k]?=some x)(hy:ys[k]?=some y)
  (hQ:∀ h',Mg h' z TI TO i1 i2 l1 l2 (k+1)->IsPair h' s.heap.objs.size x y->h'.objs.size=s.heap.objs.size+1->gX s.heap h' z TO i1 i2->Q (.ref s.heap.objs.size) { s with heap:=h' }) :
  wpAny (model prog w) A (Builtin.«zip.__next__» ⟨[.ref z],[]⟩) (λ fin s'=>∃ v,fin=.done (.ret v)/\Q v s') E s:=by
 obtain⟨⟨f0,b,zo,ow⟩,ti,⟨ta,tb,to⟩,j1,j2⟩:=hz;show wpAny _ _ (field (.ref z) 2>>=_) _ _ _;refine À (ö zo rfl (x:=.bool false) rfl ?_);show wpAny _ _ (field (.ref z) 3>>=_) _ _ _;refine À (ö zo rfl (x:=.ref TI) rfl (À (Ņ ti rfl ?_)));show wpAny _ _ (Builtin.SmallTypes.ownedTupleIsFree (.ref z)>>=_) _ _ _;refine À (rA zo ow ?_ λ h1 OY s1=>?_)
 ·simp only [if_true];refine À (Mh (À (ö zo rfl (x:=.ref TO) rfl (À (î zo (by simp) λ h1 OY s1=>?_)))))
  have OY:kL h1 z TI TO .ellipsis (.bool b):=OY;have P_:=j1.extBut s1.extBut D.a3;have Rp:=j2.extBut s1.extBut D.a4;have Qh:=g1.extBut s1.extBut D.b2;have RH:=g2.extBut s1.extBut D.b6;have UU:IsPair h1 TO ta tb:=s1.extBut _ _ D.a2 to;refine À ?_;simp only [List.zipIdx_cons,List.zipIdx_nil,List.forIn_cons,List.forIn_nil];refine À (À (u_ ?_));show wpAny _ _ (Builtin.SmallTypes.nextOf (.ref i1)>>=_) _ _ _;refine À (ſ P_ Qh hx λ h2 S3 s2=>Æ ?_);have s2:Heap.SameBut i1 h1 h2:=s2;have to2:IsPair h2 TO ta tb:=s2.extBut _ _ D.a8 UU;refine À (Ņ to2 rfl (À (Nc to2 λ h3 to3 s3=>À (Qo (Æ ?_)))));have s3:Heap.SameBut TO h2 h3:=s3;have to3:IsPair h3 TO x tb:=to3;have Ro:=(Rp.extBut s2.extBut D.b1.symm).extBut s3.extBut D.a9.symm;have RG:=(RH.extBut s2.extBut D.b8).extBut s3.extBut D.b7;refine À (À (u_ ?_));show wpAny _ _ (Builtin.SmallTypes.nextOf (.ref i2)>>=_) _ _ _;refine À (qJ Ro RG hy λ h4 VU s4=>Æ ?_);have s4:Heap.SameBut i2 h3 h4:=s4;have Xf:IsPair h4 TO x tb:=s4.extBut _ _ D.a9 to3;refine À (Ņ Xf rfl (À (Nc Xf λ h5 TZ s5=>À (Qo (Æ (Æ ?_))))));have s5:Heap.SameBut TO h4 h5:=s5;have TZ:IsPair h5 TO x y:=TZ;have sz:h5.objs.size=s.heap.objs.size:=by rw [s5.1,s4.1,s3.1,s2.1,s1.1]
  have up:gX s.heap h5 z TO i1 i2:=λ c o c1 c2 c3 c4 e=>s5.extBut _ _ c2 (s4.extBut _ _ c4 (s3.extBut _ _ c2 (s2.extBut _ _ c3 (s1.extBut _ _ c1 e))));have WY:kL h5 z TI TO .ellipsis (.bool b):=s5.extBut _ _ D.a2.symm (s4.extBut _ _ D.a4.symm (s3.extBut _ _ D.a2.symm (s2.extBut _ _ D.a3.symm OY)));have j1c:=((S3.extBut s3.extBut D.a8.symm).extBut s4.extBut D.b1).extBut s5.extBut D.a8.symm;have j2d:=VU.extBut s5.extBut D.a9.symm;refine À (Ņ TZ rfl (À (Nf ?_)));show wpAny _ _ (Builtin.SmallTypes.ownedTupleHandOut (.ref z) (.ref h5.objs.size)>>=_) _ _ _;have Y4:kL (h5.push { cls:=.type "tuple",data:=.seq #[x,y] }) z TI TO .ellipsis (.bool b):=Ã _ WY;refine À ?_;unfold Builtin.SmallTypes.ownedTupleHandOut;refine À (î Y4 (by simp) λ h7 UH s7=>?_)
  have UH:kL h7 z TI TO (rawInt h5.objs.size) (.bool b):=UH;refine î UH (by simp) λ h8 UG s8=>wpAny_pure ⟨_,rfl,?_⟩
  have UG:kL h8 z TI TO (rawInt h5.objs.size) (.bool false):=UG;have Sf:∀ c o,c≠z->h5.get? c=some o->h8.get? c=some o:=λ c o c1 e=>s8.extBut _ _ c1 (s7.extBut _ _ c1 (Ã _ e));show Q (.ref h5.objs.size) _;have nz:s.heap.objs.size≠z:=by rw [<- sz];exact Ĳ (É WY)
  rw [sz];refine hQ _ ⟨⟨_,false,UG,.inr ⟨_,rfl⟩⟩,Sf _ _ D.a1 (up _ _ D.a1 D.a5 D.a6 D.a7 ti),⟨x,y,Sf _ _ D.a2 TZ⟩,j1c.at λ o e=>Sf _ o D.a3 e,j2d.at λ o e=>Sf _ o D.a4 e⟩ ?_ (by rw [s8.1,s7.1,û,sz]) λ c o c1 c2 c3 c4 e=>Sf c o c1 (up c o c1 c2 c3 c4 e)
  exact s8.extBut _ _ nz (s7.extBut _ _ nz (by rw [<- sz];exact Ò _ rfl))
 ·simp only [Bool.false_eq_true,if_false];have P_:=j1.extBut s1.extBut D.a3;have Rp:=j2.extBut s1.extBut D.a4;have Qh:=g1.extBut s1.extBut D.b2;have RH:=g2.extBut s1.extBut D.b6;refine À ?_;rw [<- Array.forIn_toList];simp only [List.forIn_cons,List.forIn_nil];refine À (À (ć ?_));show wpAny _ _ (Builtin.SmallTypes.nextOf (.ref i1)>>=_) _ _ _;refine À (ſ P_ Qh hx λ h2 S3 s2=>Æ (Æ ?_));have Ro:=Rp.extBut s2.extBut D.b1.symm;have RG:=RH.extBut s2.extBut D.b8;refine À (À (ć ?_));show wpAny _ _ (Builtin.SmallTypes.nextOf (.ref i2)>>=_) _ _ _;refine À (qJ Ro RG hy λ h3 VU s3=>Æ (Æ (Æ ?_)));show wpAny _ _ (newTuple [x,y]>>=_) _ _ _;have s2:Heap.SameBut i1 h1 h2:=s2;have s3:Heap.SameBut i2 h2 h3:=s3;have sz:h3.objs.size=s.heap.objs.size:=by rw [s3.1,s2.1,s1.1]
  have up:gX s.heap h3 z TO i1 i2:=λ c o c1 c2 c3 c4 e=>s3.extBut _ _ c4 (s2.extBut _ _ c3 (s1.extBut _ _ c1 e));refine À (Nf (Æ ⟨_,rfl,?_⟩));show Q (.ref h3.objs.size) _;rw [sz];refine hQ _ ⟨⟨f0,true,Ã _ (s3.extBut _ _ D.a4.symm (s2.extBut _ _ D.a3.symm OY)),ow⟩,Ã _ (up _ _ D.a1 D.a5 D.a6 D.a7 ti),⟨ta,tb,Ã _ (s3.extBut _ _ D.a9 (s2.extBut _ _ D.a8 (s1.extBut _ _ D.a2 to)))⟩,(S3.extBut s3.extBut D.b1).at λ o e=>Ã _ e,VU.at λ o e=>Ã _ e⟩ ?_ (by rw [û,sz]) λ c o c1 c2 c3 c4 e=>Ã _ (up c o c1 c2 c3 c4 e)
  rw [<- sz];exact Ò _ rfl
theorem uz {z TI TO i1 i2 l1 l2:Addr}(hh:A.handled=none)(D:sM z TI TO i1 i2 l1 l2)(hz:Mg s.heap z TI TO i1 i2 l1 l2 k)(g1:s.heap.IsList l1 xs)(g2:s.heap.IsTuple l2 ys)(hn:xs[k]?=none\/ys[k]?=none)
  (hE:∀ h' e,gX s.heap h' z TO i1 i2->(∃ o,h'.get? e=some o/\o.cls=.type "StopIteration")->E (.ref e) { s with heap:=h' }) :
  wpAny (model prog w) A (Builtin.«zip.__next__» ⟨[.ref z],[]⟩) Q E s:=by
 obtain⟨⟨f0,b,zo,ow⟩,ti,⟨ta,tb,to⟩,j1,j2⟩:=hz;show wpAny _ _ (field (.ref z) 2>>=_) _ _ _;refine À (ö zo rfl (x:=.bool false) rfl ?_);show wpAny _ _ (field (.ref z) 3>>=_) _ _ _;refine À (ö zo rfl (x:=.ref TI) rfl (À (Ņ ti rfl ?_)));show wpAny _ _ (Builtin.SmallTypes.ownedTupleIsFree (.ref z)>>=_) _ _ _;refine À (rA zo ow ?_ λ h1 OY s1=>?_)
 ·simp only [if_true];refine À (Mh (À (ö zo rfl (x:=.ref TO) rfl (À (î zo (by simp) λ h1 OY s1=>?_)))))
  have OY:kL h1 z TI TO .ellipsis (.bool b):=OY;have P_:=j1.extBut s1.extBut D.a3;have Rp:=j2.extBut s1.extBut D.a4;have Qh:=g1.extBut s1.extBut D.b2;have RH:=g2.extBut s1.extBut D.b6;have UU:IsPair h1 TO ta tb:=s1.extBut _ _ D.a2 to;have leave:∀(h2:Heap)(e:Addr),kL h2 z TI TO .ellipsis (.bool b)->gX s.heap h2 z TO i1 i2->(∃ o,h2.get? e=some o/\o.cls=.type "StopIteration")->wpAny (model prog w) A (setField (.ref z) 0 .none) (λ _ s'=>E (.ref e) s') E { s with heap:=h2 }:=λ h2 e z2 u2 he=>by
   obtain⟨oe,Wb,XX⟩:=he;have hez:e≠z:=λ q=>by subst q;rw [z2] at Wb;cases Wb;simp at XX
   exact î z2 (by simp) λ h3 _ s3=>hE h3 e (λ c o c1 c2 c3 c4 q=>s3.extBut _ _ c1 (u2 c o c1 c2 c3 c4 q)) ⟨oe,s3.extBut _ _ hez Wb,XX⟩
  refine À ?_;simp only [List.zipIdx_cons,List.zipIdx_nil,List.forIn_cons,List.forIn_nil];refine À (À (u_ ?_));cases hx:xs[k]? with
  | none =>
   refine À (wpAny_nextOf_list_end hh P_ Qh hx λ h2 e s2 he=>?_);have s2:=s2;exact leave h2 e (s2 _ _ D.a3.symm OY) (λ c o c1 c2 c3 c4 q=>s2 _ _ c3 (s1.extBut _ _ c1 q)) he
  | some x =>
   have hy:=hn.resolve_left (by rw [hx];simp)
   refine À (ſ P_ Qh hx λ h2 S3 s2=>Æ ?_);have s2:=s2;have to2:=s2.extBut _ _ D.a8 UU;refine À (Ņ to2 rfl (À (Nc to2 λ h3 to3 s3=>À (Qo (Æ ?_)))));have s3:=s3;have Ro:=(Rp.extBut s2.extBut D.b1.symm).extBut s3.extBut D.a9.symm;have RG:=(RH.extBut s2.extBut D.b8).extBut s3.extBut D.b7;refine À (À (u_ ?_));refine À (tf hh Ro RG hy λ h4 e s4 he=>?_);have s4:=s4;exact leave h4 e (s4 _ _ D.a4.symm (s3.extBut _ _ D.a2.symm (s2.extBut _ _ D.a3.symm OY))) (λ c o c1 c2 c3 c4 q=>s4 _ _ c4 (s3.extBut _ _ c2 (s2.extBut _ _ c3 (s1.extBut _ _ c1 q)))) he
 ·simp only [Bool.false_eq_true,if_false];have P_:=j1.extBut s1.extBut D.a3;have Rp:=j2.extBut s1.extBut D.a4;have Qh:=g1.extBut s1.extBut D.b2;have RH:=g2.extBut s1.extBut D.b6;refine À ?_;rw [<- Array.forIn_toList];simp only [List.forIn_cons,List.forIn_nil];refine À (À (ć ?_));cases hx:xs[k]? with
  | none =>
   refine À (wpAny_nextOf_list_end hh P_ Qh hx λ h2 e s2 he=>?_);have s2:=s2;exact hE h2 e (λ c o c1 c2 c3 c4 q=>s2 _ _ c3 (s1.extBut _ _ c1 q)) he
  | some x =>
   have hy:=hn.resolve_left (by rw [hx];simp)
   refine À (ſ P_ Qh hx λ h2 S3 s2=>Æ (Æ ?_));have s2:=s2;have Ro:=Rp.extBut s2.extBut D.b1.symm;have RG:=RH.extBut s2.extBut D.b8;refine À (À (ć ?_));refine À (tf hh Ro RG hy λ h3 e s3 he=>?_);have s3:=s3;exact hE h3 e (λ c o c1 c2 c3 c4 q=>s3 _ _ c4 (s2.extBut _ _ c3 (s1.extBut _ _ c1 q))) he
end
theorem Mg.keep {z TI TO i1 i2 l1 l2:Addr}(a:Mg h z TI TO i1 i2 l1 l2 k)(u:∀ b ∈ [z,TI,TO,i1,i2],∀ o,h.get? b=some o->h'.get? b=some o):Mg h' z TI TO i1 i2 l1 l2 k:=by
 obtain⟨⟨f0,b,zo,ow⟩,ti,⟨ta,tb,to⟩,j1,j2⟩:=a;exact⟨⟨f0,b,u z (by simp) _ zo,ow⟩,u TI (by simp) _ ti,⟨ta,tb,u TO (by simp) _ to⟩,j1.at λ o e=>u i1 (by simp) o e,j2.at λ o e=>u i2 (by simp) o e⟩
section
variable {prog:Program}{w:World}{A:Around}{E:fg}{s:Shared}
theorem Mg.ty {z TI TO i1 i2 l1 l2:Addr}(a:Mg s.heap z TI TO i1 i2 l1 l2 k):s.TypeIs (.ref z) "zip" := by
 obtain⟨⟨f0,b,zo,ow⟩,_⟩:=a;exact⟨_,zo,rfl⟩
theorem D9 {z TI TO i1 i2 l1 l2:Addr}(D:sM z TI TO i1 i2 l1 l2)(hz:Mg s.heap z TI TO i1 i2 l1 l2 k)(g1:s.heap.IsList l1 xs)(g2:s.heap.IsTuple l2 ys)(hx:xs[k]?=some x)(hy:ys[k]?=some y)
  (hQ:∀ h',Mg h' z TI TO i1 i2 l1 l2 (k+1)->IsPair h' s.heap.objs.size x y->h'.objs.size=s.heap.objs.size+1->gX s.heap h' z TO i1 i2->Q (.ref s.heap.objs.size) { s with heap:=h' }) :
  wpAny (model prog w) A (Builtin.SmallTypes.nextOf (.ref z)) Q E s:=by
 exact À (ÿ hz.ty ī (ĉ ī hz.ty J_ (qW D hz g1 g2 hx hy λ h' a b c d=>Æ (hQ h' a b c d)) (s_ _)))
theorem ET {z TI TO i1 i2 l1 l2:Addr}(hh:A.handled=none)(D:sM z TI TO i1 i2 l1 l2)(hz:Mg s.heap z TI TO i1 i2 l1 l2 k)(g1:s.heap.IsList l1 xs)(g2:s.heap.IsTuple l2 ys)(hn:xs[k]?=none\/ys[k]?=none)
  (hE:∀ h' e,gX s.heap h' z TO i1 i2->(∃ o,h'.get? e=some o/\o.cls=.type "StopIteration")->E (.ref e) { s with heap:=h' }):wpAny (model prog w) A (Builtin.SmallTypes.nextOf (.ref z)) Q E s:=by
 exact À (ÿ hz.ty ī (ĉ ī hz.ty J_ (uz hh D hz g1 g2 hn hE) (s_ _)))
theorem FT {e z TI TO i1 i2 l1 l2:Addr}{k:Nat}(D:sM z TI TO i1 i2 l1 l2)(he:IsEnum s.heap e z k old)(hz:Mg s.heap z TI TO i1 i2 l1 l2 k)(g1:s.heap.IsList l1 xs)(g2:s.heap.IsTuple l2 ys)(hx:xs[k]?=some x)(hy:ys[k]?=some y)
  (ne:∀ b ∈ [z,TI,TO,i1,i2],b≠e)
  (hQ:∀ h',IsEnumOut h' e z ((k:Int)+1) (.ref s.heap.objs.size) (s.heap.objs.size+1)->Mg h' z TI TO i1 i2 l1 l2 (k+1)->IsPair h' s.heap.objs.size x y->h'.get? (s.heap.objs.size+1)=some { cls:=.type "tuple",data:=.seq #[.int k s.toks,.ref s.heap.objs.size] } ->
   (∀ c o,c≠e->c≠z->c≠TO->c≠i1->c≠i2->s.heap.get? c=some o->h'.get? c=some o)->Q (some (.ref (s.heap.objs.size+1))) { s with heap:=h',toks:=s.toks+1 }) :
  wpAny (model prog w) A (pyNext (.ref e)) Q E s:=by
 have hT:s.TypeIs (.ref e) "enumerate" :=⟨_,he,rfl⟩;have el:=É he;have nz:e≠z:=(ne z (by simp)).symm
 have nTO:e≠TO:=(ne TO (by simp)).symm
 have n1:e≠i1:=(ne i1 (by simp)).symm
 have n2:e≠i2:=(ne i2 (by simp)).symm
 unfold pyNext;refine À (Ŀ (ÿ (name:=Str.ofString "__next__") hT Ν (ĉ Ν hT F.entry_enumerate_next ?_ (F.args_enumerate_next_1 _))));show wpAny _ _ (field (.ref e) 2>>=_) _ _ _;refine À (ö he rfl (x:=.ref z) rfl (À (D9 D hz g1 g2 hx hy λ h1 za pr Xg kz=>?_)));have Wt:IsEnum h1 e z k old:=kz _ _ nz nTO n1 n2 he;show wpAny _ _ (field (.ref e) 3>>=_) _ _ _;refine À (ö Wt rfl (x:=rawInt k) rfl ?_);show wpAny _ _ (field (.ref e) 4>>=_) _ _ _;refine À (ö Wt rfl (x:=.none) rfl ?_);show wpAny _ _ (mkInt k>>=_) _ _ _;refine À (wpAny_mkInt ?_);show wpAny _ _ (setField (.ref e) 3 (rawInt ((k:Int)+1))>>=_) _ _ _;refine À (î Wt (by simp) λ h2 QW s2=>wpAny_bind (wpAny_setField_rec (show IsEnum h2 e z ((k:Int)+1) old from QW) (by simp) λ h3 Ws s3=>?_))
 have s2:Heap.SameBut e h1 h2:=s2;have s3:Heap.SameBut e h2 h3:=s3;have Ws:IsEnum h3 e z ((k:Int)+1) old:=Ws;have Sj:h3.objs.size=s.heap.objs.size+1:=by rw [s3.1,s2.1,Xg]
 show wpAny _ _ (newTuple [.int k s.toks,.ref s.heap.objs.size]>>=_) _ _ _;refine À (Nf ?_);have Ut:IsEnum (h3.push { cls:=.type "tuple",data:=.seq #[.int k s.toks,.ref s.heap.objs.size] }) e z ((k:Int)+1) old:=Ã _ Ws;have t4:(h3.push { cls:=.type "tuple",data:=.seq #[.int k s.toks,.ref s.heap.objs.size] }).get? (s.heap.objs.size+1)=some { cls:=.type "tuple",data:=.seq #[.int k s.toks,.ref s.heap.objs.size] }:=by rw [<- Sj];exact Ò _ rfl
 have u4:∀ c o,c≠e->h1.get? c=some o->(h3.push { cls:=.type "tuple",data:=.seq #[.int k s.toks,.ref s.heap.objs.size] }).get? c=some o:=λ c o ce q=>Ã _ (s3.extBut _ _ ce (s2.extBut _ _ ce q));rw [Sj];generalize (h3.push { cls:=.type "tuple",data:=.seq #[.int k s.toks,.ref s.heap.objs.size] })=h4 at Ut t4 u4;refine À ?_;refine À (ö Ut rfl rfl (Æ ?_));simp only [if_true];refine À (Mh (À (ö Ut rfl rfl (À (î Ut (by simp) λ h5 Wr s5=>?_)))))
 have s5:=s5;have Wr:=Wr;refine À ?_;refine À (î Wr (by simp) λ h6 Wq s6=>?_)
 have Wq:=Wq;refine î Wq (by simp) λ h7 he7 s7=>wpAny_bind (wpAny_letGo (wpAny_pure ⟨_,rfl,wpAny_pure ?_⟩))
 have s6:=s6;have s7:=s7;have u7:∀ c o,c≠e->h4.get? c=some o->h7.get? c=some o:=λ c o ce q=>s7.extBut _ _ ce (s6.extBut _ _ ce (s5.extBut _ _ ce q));have na:=Ĳ el;have nb:=Ĳ (Ē el);exact hQ h7 he7 (za.keep λ b hb o q=>u7 b o (ne b hb) (u4 b o (ne b hb) q)) (u7 _ _ na (u4 _ _ na pr)) (u7 _ _ nb t4) λ c o ce c1 c2 c3 c4 q=>u7 c o ce (u4 c o ce (kz c o c1 c2 c3 c4 q))
theorem vn {e z TI TO i1 i2 l1 l2:Addr}(hh:A.handled=none)(D:sM z TI TO i1 i2 l1 l2)(he:IsEnum s.heap e z i old)(hz:Mg s.heap z TI TO i1 i2 l1 l2 k)(g1:s.heap.IsList l1 xs)(g2:s.heap.IsTuple l2 ys)(hn:xs[k]?=none\/ys[k]?=none)
  (hQ:∀ h',gX s.heap h' z TO i1 i2->Q none { s with heap:=h' }):wpAny (model prog w) A (pyNext (.ref e)) Q E s:=by
 have hT:s.TypeIs (.ref e) "enumerate" :=⟨_,he,rfl⟩;refine À (Ŀ (ÿ hT Ν (ĉ Ν hT F.entry_enumerate_next ?_ (F.args_enumerate_next_1 _))));show wpAny _ _ (field (.ref e) 2>>=_) _ _ _;refine À (ö he rfl (x:=.ref z) rfl (À (ET hh D hz g1 g2 hn λ h' x kz Ox=>?_)));obtain⟨o,ho,hc⟩:=Ox;exact À (PZ ⟨o,ho,hc⟩ isSubtype_stop (Æ (hQ _ kz)))
end
end My
namespace My
open PySem PySem.W L2
open PyProof.Rows (Call_ boot_enumerate)
open AutoSeq1 (wpAny_loadPart')
def D6 (h:Heap)(l1:Addr):Heap:=h.push { cls:=.type "list_iterator",data:=.fields #[.ref l1,.int 0 0] }
def DL (h:Heap)(l1 l2:Addr):Heap:=(D6 h l1).push { cls:=.type "tuple_iterator",data:=.fields #[.ref l2,.int 0 0] }
def DJ (h:Heap)(l1 l2:Addr):Heap:=(DL h l1 l2).push { cls:=.type "tuple",data:=.seq #[.ref h.objs.size,.ref (D6 h l1).objs.size] }
def Cp (h:Heap)(l1 l2:Addr):Heap:=(DJ h l1 l2).push { cls:=.type "tuple",data:=.seq #[.none,.none] }
def EZ (h:Heap)(l1 l2:Addr):Heap:=(Cp h l1 l2).push { cls:=.type "zip",data:=.fields #[.none,.bool false,.bool false,.ref (DL h l1 l2).objs.size,.ref (DJ h l1 l2).objs.size] }
theorem xh (l1 l2:Addr)(xs ys:Array Value):Meets (Builtin.«zip.__new__» ⟨[.type "zip",.ref l1,.ref l2],[]⟩) (λ _ R s=>s.heap.IsList l1 xs/\s.heap.IsTuple l2 ys/\R (.ok (.ret (.ref (Cp s.heap l1 l2).objs.size))) { s with heap:=EZ s.heap l1 l2 }) :=
 .of_wp λ prog w A R s h=>by
  obtain⟨hp,g,d,tk,os⟩:=s;obtain⟨Wg,PK,h⟩:=h;have S7:=sub_zip;have k1:=Wg;have k2:Heap.IsTuple (Shared.heap ⟨hp.push { cls:=.type "list_iterator",data:=.fields #[.ref l1,.int 0 0] },g,d,tk,os⟩) l2 ys:=by
   obtain⟨o,ho,r⟩:=PK;exact⟨o,Ã _ ho,r⟩
  wp_walk using OO k1,wpAny_pyIter_tuple k2
  exact⟨_,rfl,h⟩
theorem rZ (z:Addr)(TI TO:Addr):Meets (Builtin.«enumerate.__new__» ⟨[.type "enumerate",.ref z],[]⟩) (λ _ R s=>IsZip s.heap z TI TO .none /\
   R (.ok (.ret (.ref s.heap.objs.size))) { s with heap:=s.heap.push { cls:=.type "enumerate",data:=.fields #[.none,.bool false,.ref z,rawInt 0,.none,.none] } }) :=
 .of_wp λ prog w A R s h=>by
  obtain⟨hp,g,d,tk,os⟩:=s;obtain⟨hl,h⟩:=h;have S7:=sub_enumerate;have hL:=hl
  wp_walk using Q1 hl
  refine wpAny_stack_any λ st=>Æ ?_;split
  ·rename_i c _ _ _ _ _
   cases (c==Value.type "enumerate") <;>(wp_walk using Q1 hl,PY hL) <;> exact⟨_,rfl,h⟩
  ·wp_walk using Q1 hl,PY hL
   exact⟨_,rfl,h⟩
section
variable {prog:Program}{w:World}{A:Around}{E:fg}{s:Shared}
theorem rL {z TI TO:Addr}(hz:IsZip s.heap z TI TO .none)
  (h:∀ h',IsEnum h' s.heap.objs.size z 0 .none->h'.objs.size=s.heap.objs.size+1->(∀ b o,s.heap.get? b=some o->h'.get? b=some o)->Q (.ref s.heap.objs.size) { s with heap:=h' }) :
  wpAny (model prog w) A (call (.type "enumerate") [.ref z]) Q E s:=by
 refine callType_new F.called_enumerate au (F.typeCall_enumerate_1 _) (F.newCall_enumerate_1 _) (λ obj=>F.args_object_init_2 obj _) F.entry_enumerate_new (rZ z TI TO) ⟨hz,?_⟩;have g:=Ò s.heap (o:={ cls:=.type "enumerate",data:=.fields #[.none,.bool false,.ref z,rawInt 0,.none,.none] }) rfl;exact⟨⟨_,g,rfl⟩,h _ g (û ..) λ b o q=>Ã _ q⟩
theorem qu (Wg:s.heap.IsList l1 xs)(PK:s.heap.IsTuple l2 ys)
  (h:∀ h',IsZip h' (s.heap.objs.size+4) (s.heap.objs.size+2) (s.heap.objs.size+3) .none->Mg h' (s.heap.objs.size+4) (s.heap.objs.size+2) (s.heap.objs.size+3) s.heap.objs.size (s.heap.objs.size+1) l1 l2 0->h'.objs.size=s.heap.objs.size+5 ->
   (∀ c o,s.heap.get? c=some o->h'.get? c=some o)->Q (.ref (s.heap.objs.size+4)) { s with heap:=h' }):wpAny (model prog w) A (call (.type "zip") [.ref l1,.ref l2]) Q E s:=by
 refine callType_new F.called_zip au (F.typeCall_zip_2 _ _) (F.newCall_zip_2 _ _) (λ obj=>F.args_object_init_3 obj _ _) F.entry_zip_new (xh l1 l2 xs ys) ⟨Wg,PK,?_⟩;have z1:(D6 s.heap l1).objs.size=s.heap.objs.size+1:=û ..;have z2:(DL s.heap l1 l2).objs.size=s.heap.objs.size+2:=by unfold DL;rw [û,z1]
 have z3:(DJ s.heap l1 l2).objs.size=s.heap.objs.size+3:=by unfold DJ;rw [û,z2]
 have z4:(Cp s.heap l1 l2).objs.size=s.heap.objs.size+4:=by unfold Cp;rw [û,z3]
 have z5:(EZ s.heap l1 l2).objs.size=s.heap.objs.size+5:=by unfold EZ;rw [û,z4]
 have u5:∀ c o,(Cp s.heap l1 l2).get? c=some o->(EZ s.heap l1 l2).get? c=some o:=λ c o q=>Ã _ q;have u4:=λ c o q=>u5 c o (Ã _ q);have u3:=λ c o q=>u4 c o (Ã _ q);have u2:=λ c o q=>u3 c o (Ã _ q);have u1:=λ c o q=>u2 c o (Ã _ q);have g5:(EZ s.heap l1 l2).get? (Cp s.heap l1 l2).objs.size=some _:=Ò _ rfl;have g4:=u5 _ _ (show(Cp s.heap l1 l2).get? (DJ s.heap l1 l2).objs.size=some _ from Ò _ rfl);have g3:=u4 _ _ (show(DJ s.heap l1 l2).get? (DL s.heap l1 l2).objs.size=some _ from Ò _ rfl);have g2:=u3 _ _ (show(DL s.heap l1 l2).get? (D6 s.heap l1).objs.size=some _ from Ò _ rfl);have g1:=u2 _ _ (show(D6 s.heap l1).get? s.heap.objs.size=some _ from Ò _ rfl);rw [z2,z3,z4] at g5;rw [z1,z2] at g3;rw [z3] at g4;rw [z1] at g2;rw [z4];exact⟨⟨_,g5,rfl⟩,h _ g5 ⟨⟨_,_,g5,.inl rfl⟩,g3,⟨_,_,g4⟩,⟨_,g1,rfl,rfl⟩,⟨_,g2,rfl,rfl⟩⟩ z5 u1⟩
end
end My
namespace My
open PySem PySem.W L2
open PyProof.Rows (Call_ boot_enumerate)
section
variable {X:Cx}{Ä:List (Addr × Obj)}{σ:St}{H:Hp}{s:Shared}{h':Heap}
theorem wR {ch:List Addr}(I:Inv X Ä σ H s)(F:∀ b∈ch,dL X Ä H b)(k:∀ b o,b ∉ ch->s.heap.get? b=some o->h'.get? b=some o)
  (o1:Ą X.prog X.w (ad (ad H s.heap.objs.size (.tup xs)) (s.heap.objs.size+1) (.tup ys)) h' s.heap.objs.size (.tup xs))(o2:Ą X.prog X.w (ad (ad H s.heap.objs.size (.tup xs)) (s.heap.objs.size+1) (.tup ys)) h' (s.heap.objs.size+1) (.tup ys)) :
  Inv X Ä σ (ad (ad H s.heap.objs.size (.tup xs)) (s.heap.objs.size+1) (.tup ys)) { s with heap:=h',toks:=t' }:=by
 have f1:=I.ċ.fresh (Ê _);have f2:=I.ċ.fresh (Β _);have up:∀ b u,H b=some u->ad (ad H s.heap.objs.size (.tup xs)) (s.heap.objs.size+1) (.tup ys) b=some u:=λ b u e=>by
  rw [af (λ z=>by rw [z,f2] at e;cases e),af (λ z=>by rw [z,f1] at e;cases e)]
  exact e
 have dn:∀ b,b<s.heap.objs.size->ad (ad H s.heap.objs.size (.tup xs)) (s.heap.objs.size+1) (.tup ys) b=H b:=λ b l=>by
  rw [af (Ó (Ē l)),af (Ó l)]
 have N_:∀ b u,H b=some u->b ∉ ch:=λ b u e z=>by
  have:=(F b z).1;rw [this] at e;cases e
 refine I.step (λ b hb=>?_) (λ b o _ _ hc e _=>k b o hc e) (λ b o _ _ hc e _=>⟨o.slots,k b o hc e⟩) (λ b o _ e n=>by rw [dn b (É e)];exact n)
  (λ b o hc e=>⟨o,k b o hc e⟩) (λ b _ e=>up _ _ e) (λ _ _ _ e=>up _ _ e) (λ b ps e=>⟨#[],by rw [up _ _ e];simp⟩) (λ q=>?_) (λ m hm=>?_) (λ b u e=>?_) I.bare
 ·obtain⟨_,a,_,b',c,d⟩:=F b hb;exact⟨b',a,c,d⟩
 ·rw [dn _ (h_ (by decide:sysModules<mainGlobals) (I.mod.glob.keeps I.bk).lt)]
  exact q
 ·obtain⟨o,es,ep,ho,r⟩:=hm;exact⟨o,es,ep,k _ o (λ z=>(F _ z).2.1 rfl) ho,r⟩
 ·by_cases z2:b=s.heap.objs.size+1
  ·subst z2;rw [aM] at e;cases e;exact o2
  ·by_cases z1:b=s.heap.objs.size
   ·subst z1;rw [af z2,aM] at e;cases e;exact o1
   ·rw [af z2,af z1] at e;refine(I.ċ b u e).l_ (λ c v hc q=>k c v ?_ q) (λ c q=>up _ _ q) λ c zs q=>up _ _ q;rcases hc with z | z
    ·rw [z];exact N_ _ _ e
    ·exact N_ _ _ z
theorem qS {ch:List Addr}(I:Inv X Ä σ H s)(F:∀ b∈ch,dL X Ä H b)(k:∀ b o,b ∉ ch->s.heap.get? b=some o->h'.get? b=some o):Inv X Ä σ H { s with heap:=h',toks:=t' }:=by
 have N_:∀ b u,H b=some u->b ∉ ch:=λ b u e z=>by
  have:=(F b z).1;rw [this] at e;cases e
 refine I.step (λ b hb=>?_) (λ b o _ _ hc e _=>k b o hc e) (λ b o _ _ hc e _=>⟨o.slots,k b o hc e⟩) (λ _ _ _ _ n=>n)
  (λ b o hc e=>⟨o,k b o hc e⟩) (λ _ _ e=>e) (λ _ _ _ e=>e) (λ b ps e=>⟨#[],by rw [e];simp⟩) (λ q=>q) (λ m hm=>?_) (λ b u e=>?_) I.bare
 ·obtain⟨_,a,_,b',c,d⟩:=F b hb;exact⟨b',a,c,d⟩
 ·obtain⟨o,es,ep,ho,r⟩:=hm;exact⟨o,es,ep,k _ o (λ z=>(F _ z).2.1 rfl) ho,r⟩
 ·refine(I.ċ b u e).l_ (λ c v hc q=>k c v ?_ q) (λ _ q=>q) λ _ _ q=>q;rcases hc with z | z
  ·rw [z];exact N_ _ _ e
  ·exact N_ _ _ z
end
def G9 (K:Frag)(a b:Addr):It :=
 ⟨λ i H=>∃ xs ys x y,ç K H a xs/\đ K H b ys/\xs[i]?=some x/\ys[i]?=some y,
   λ i H v H'=>∃ q p x y,v=.ref p/\H q=none/\H p=none/\p≠q/\H'=ad (ad H q (.tup [x,y])) p (.tup [.int i,.ref q])/\∀ xs ys,ç K H a xs->đ K H b ys->xs[i]?=some x/\ys[i]?=some y,
   λ i H=>∃ xs ys,ç K H a xs/\đ K H b ys/\(xs.length<=i\/ys.length<=i)⟩
theorem tX {x1}(a b e z TI TO i1 i2:Addr)(D:sM z TI TO i1 i2 a b)(ne:∀ c ∈ [z,TI,TO,i1,i2],c≠e) :
  nR P w K (.Tuple elts x1 ô) (G9 K a b) [e,z,TI,TO,i1,i2] e (λ i h=>(∃ old,IsEnum h e z i old)/\Mg h z TI TO i1 i2 a b i) where
 mem:=by simp
 obj:=λ i h st c hc=>by
  obtain⟨⟨old,h1⟩,⟨f0,bb,zo,ow⟩,ti,⟨ta,tb,to⟩,⟨oa,ha,ca,da⟩,⟨ob,hb,cb,db⟩⟩:=st;simp only [List.mem_cons,List.not_mem_nil,or_false] at hc;rcases hc with rfl | rfl | rfl | rfl | rfl | rfl
  ·exact⟨_,h1,λ v q=>by cases q⟩
  ·exact⟨_,zo,λ v q=>by cases q⟩
  ·exact⟨_,ti,λ v q=>by cases q⟩
  ·exact⟨_,to,λ v q=>by cases q⟩
  ·exact⟨oa,ha,λ v q=>by rw [da] at q;cases q⟩
  ·exact⟨ob,hb,λ v q=>by rw [db] at q;cases q⟩
 keep:=λ i h h' st k=>⟨⟨_,k e (by simp) _ st.1.choose_spec⟩,st.2.keep λ c hc o q=>k c (List.mem_cons_of_mem _ hc) o q⟩
 item:=by
  intro X hP hw hK hc i Ä s σ H E I hf st hg;subst hP hw hK;obtain⟨xs,ys,x,y,hq,M4,hx,hy⟩:=hg;obtain⟨its,rv,p,hz⟩:=I.list hq;obtain⟨Θ,P7,p2,S5⟩:=I.tuple M4;obtain⟨u,hu,ru⟩:=rv.get hx;obtain⟨v,hv,U'⟩:=P7.get hy;obtain⟨⟨old,he⟩,za⟩:=st;have Pd:s.heap.IsTuple b Θ.toArray:=by
   obtain⟨o,q,c,n,d⟩:=p2;exact⟨o,q,c,n,d⟩
  refine FT D he za p.isList Pd (by simpa using hu) (by simpa using hv) ne λ h1 eo R8 pr tu kk=>?_
  refine⟨_,rfl,wpAny_letOwnedTupleGo_enum eo λ h2 QW sb=>?_⟩;have N8:=sb;have el:=É he;have na:=Ĳ el;have nb:=Ĳ (Ē el);have Vh:=(N8.2 _ na).trans pr;have tu2:=(N8.2 _ nb).trans tu;have f1:=I.ċ.fresh (Ê _);have f2:=I.ċ.fresh (Β _);refine⟨.ref (s.heap.objs.size+1),ad (ad H s.heap.objs.size (.tup [x,y])) (s.heap.objs.size+1) (.tup [.int i,.ref s.heap.objs.size]),?_,rfl,⟨_,_,x,y,rfl,f1,f2,Nat.succ_ne_self _,rfl,λ xs' N4 g1 g2=>⟨by rw [I.d_ g1 hq];exact hx,by rw [I.j_ g2 M4];exact hy⟩⟩,⟨⟨_,QW⟩,R8.keep λ c hc o q=>(N8.2 c (ne c hc)).trans q⟩,λ c hc=>?_⟩
  ·refine wR I hf (λ c o hc q=>?_) ?_ ?_
   ·simp only [List.mem_cons,List.not_mem_nil,or_false,not_or] at hc;exact(N8.2 c hc.1).trans (kk c o hc.1 hc.2.1 hc.2.2.2.1 hc.2.2.2.2.1 hc.2.2.2.2.2 q)
   ·exact⟨cL,[u,v],.cons ru (.cons U' .nil),⟨_,Vh,rfl,_,rfl⟩⟩
   ·exact⟨cL,[.int i s.toks,.ref s.heap.objs.size],.cons ⟨_,rfl⟩ (.cons rfl .nil),⟨_,tu2,rfl,_,rfl⟩⟩
  ·have q:=hf c hc;have N7:c<s.heap.objs.size:=by
    obtain⟨⟨f0,bb,zo,ow⟩,ti,⟨ta,tb,to⟩,⟨oa,ha,_,_⟩,⟨ob,hb,_,_⟩⟩:=za;simp only [List.mem_cons,List.not_mem_nil,or_false] at hc;rcases hc with rfl | rfl | rfl | rfl | rfl | rfl
    ·exact el
    ·exact É zo
    ·exact É ti
    ·exact É to
    ·exact É ha
    ·exact É hb
   rw [af (Ó (Ē N7)),af (Ó N7)];exact q.1
 done:=by
  intro X hP hw hK hc i Ä s σ H E I hf st hg;subst hP hw hK;obtain⟨xs,ys,hq,M4,hn⟩:=hg;obtain⟨its,rv,p,hz⟩:=I.list hq;obtain⟨Θ,P7,p2,S5⟩:=I.tuple M4;obtain⟨⟨old,he⟩,za⟩:=st;have Pd:s.heap.IsTuple b Θ.toArray:=by
   obtain⟨o,q,c,n,d⟩:=p2;exact⟨o,q,c,n,d⟩
  have l1:=rv.length;have l2:=P7.length;refine vn (I.ok.hd hc) D he za p.isList Pd ?_ λ h1 kk=>⟨rfl,qS I hf λ c o MF q=>?_⟩
  ·rcases hn with h | h
   ·exact .inl (by simp;omega)
   ·exact .inr (by simp;omega)
  ·simp only [List.mem_cons,List.not_mem_nil,or_false,not_or] at MF;exact kk c o MF.2.1 MF.2.2.2.1 MF.2.2.2.2.1 MF.2.2.2.2.2 q
 self:=λ _ _ _ _ _ st h=>n_ st.1.choose_spec h
end My
namespace My
open PySem PySem.W L2
open PyProof.Rows (Call_ boot_enumerate)
theorem qv {n l t:Nat}(h1:l<n)(h2:t<n):sM (n+4) (n+2) (n+3) n (n+1) l t:=by
 constructor <;>(show(_:Nat)≠(_:Nat)) <;> omega
theorem wr (hm:m=n+5)(hc:c ∈ [n+4,n+2,n+3,n,n+1]):c≠m:=by
 simp only [List.mem_cons,List.not_mem_nil,or_false] at hc;omega
theorem vP (hm:m=n+5)(hc:c ∈ [m,n+4,n+2,n+3,n,n+1]):n<=c:=by
 simp only [List.mem_cons,List.not_mem_nil,or_false] at hc;omega
section
variable {X:Cx}
def LI (K:Frag)(ta:TA):TI:=λ σ H R=>ta σ H λ vs H1=>∃ l t,vs=[.ref l,.ref t]/\(∃ xs,ç K H1 l xs)/\(∃ ys,đ K H1 t ys)/\R (G9 K l t) H1
theorem E2 {x1}(hg:Gl X "enumerate")(hm:X.mg "enumerate" = none)(Wk:Gl X "zip")(Qd:X.mg "zip" = none)(ha:PA X [a,b] ta)
  (hs:starEach [.Call (.Name "zip" p2) [a,b] [] NK] X.env=[(false,eval (.Call (.Name "zip" p2) [a,b] [] NK) X.env)]:=by rfl)(he:starEach (a :: [b]) X.env=(false,eval a X.env)::starEach [b] X.env:=by rfl)(ź:(backTo NK (starEach [b] X.env)).any (·.1)=false:=by rfl) :
  PI X (.Tuple elts x1 pt) (.Call (.Name "enumerate" p) [.Call (.Name "zip" p2) [a,b] [] NK] [] ô) (LI X.K ta):=by
 intro Ä s σ H R I h;refine Call_ (gC I hg hm boot_enumerate (ğ ?_ hs rfl));rw [hs];refine Oq (İ (gC I Wk Qd PyProof.Rows.boot_zip (ğ (aV (ha NK Ä s σ H _ I h) λ us s1 ⟨vs,H1,I1,r1,q1⟩=>?_) he ź)));obtain⟨l,t,rfl,⟨xs,hq⟩,⟨ys,M4⟩,q⟩:=q1;cases r1 with
 | cons r rr =>
  cases r;cases rr with
  | cons r' Vb =>
   cases r';cases Vb;obtain⟨its,rv,pl,hz⟩:=I1.list hq;obtain⟨Θ,P7,Pd,S5⟩:=I1.tuple M4;have ht:s1.heap.IsTuple t Θ.toArray:=by
    obtain⟨o,q,c,n,d⟩:=Pd;exact⟨o,q,c,n,d⟩
   have VM:l<s1.heap.objs.size:=by
    obtain⟨o,q,_⟩:=pl.isList;exact É q
   have RV:t<s1.heap.objs.size:=by
    obtain⟨o,q,_⟩:=ht;exact É q
   refine qu pl.isList ht λ h2 iz za UY k2=>Calls.spliced_nil ?_;refine rL iz λ h3 en Sj k3=>?_;have Sj:=Sj;have en:=en;have k3:=k3;refine n_ en ?_;have D:=qv VM RV;refine⟨h2.objs.size,[h2.objs.size,s1.heap.objs.size+4,s1.heap.objs.size+2,s1.heap.objs.size+3,s1.heap.objs.size,s1.heap.objs.size+1],_,_,H1,rfl,I1.kept (λ c o e=>k3 _ _ (k2 _ _ e)),tX l t _ _ _ _ _ _ D (λ c hc=>?_),⟨⟨_,en⟩,za.keep λ c _ o e=>k3 c o e⟩,λ c hc=>?_,q⟩
   ·exact wr (show h2.objs.size=s1.heap.objs.size+5 from UY) hc
   ·have le:=vP (show h2.objs.size=s1.heap.objs.size+5 from UY) hc;exact I1.NV le (I1.ċ.fresh le)
end
theorem Ab {g:TG}{tb:TS}{D:bX}(Pv:Nat->St->Hp->Prop)(h0:Pv 0 σ H)(hl:∀ i σ H,i<=min xs.length ys.length->Pv i σ H->ç K H a xs/\đ K H b ys)
  (hs:∀ i x y σ H q p,xs[i]?=some x->ys[i]?=some y->Pv i σ H->H q=none->H p=none->p≠q->g (.ref p) σ (ad (ad H q (.tup [x,y])) p (.tup [.int i,.ref q])) λ Ĵ H2=>tb { D with nx:=Pv (i+1),ct:=Pv (i+1),bk:=D.nx } Ĵ H2)(hd:∀ σ H,Pv (min xs.length ys.length) σ H->D.nx σ H) :
  ∃ W:Nat->Nat->St->Hp->Prop,(∃ m,W 0 m σ H)/\∀ i m σ H,W i m σ H ->
   ((G9 K a b).stop i H/\D.nx σ H)\/((G9 K a b).go i H/\∃ N:St->Hp->Prop,(∀ ĝ H',N ĝ H'->∃ m',m'<m/\W (i+1) m' ĝ H')/\∀ x H',(G9 K a b).MJ i H x H'->g x σ H' λ Ĵ H2=>tb { D with nx:=N,ct:=N,bk:=D.nx } Ĵ H2):=by
 refine⟨λ i m σ H=>m=min xs.length ys.length-i/\i<=min xs.length ys.length/\Pv i σ H,⟨min xs.length ys.length,ai,ı _,h0⟩,?_⟩;rintro i m σ H ⟨rfl,hi,pv⟩;obtain⟨q1,q2⟩:=hl i σ H hi pv;by_cases ŵ:i<min xs.length ys.length
 ·have l1:i<xs.length:=ai;have l2:i<ys.length:=ai;refine .inr ⟨⟨xs,ys,xs[i],ys[i],q1,q2,Á l1,Á l2⟩,Pv (i+1),λ ĝ H' n=>⟨min xs.length ys.length-(i+1),ai,rfl,ŵ,n⟩,λ v H' yl=>?_⟩;obtain⟨q,p,x,y,rfl,hq,hp,ne,rfl,at'⟩:=yl;obtain⟨e1,e2⟩:=at' xs ys q1 q2;exact hs i x y σ H q p e1 e2 pv hq hp ne
 ·have e:i=min xs.length ys.length:=ai;subst e;exact .inl ⟨⟨xs,ys,q1,q2,ai⟩,hd σ H pv⟩
end My
namespace My
open PySem PySem.W L2
def R0.word:R0->Str
 | .split _ _ => "split"
 | .pairs _ _ _ => "pairs"
 | .ť _ _ _ _ => "coins"
theorem R0.N6 (r:R0):r.word ≠ "first" /\ r.word ≠ "blocks" := by
 cases r with
 | split n k=>exact⟨(by decide +kernel:(("split" : String):Str)≠(("first" : String):Str)),(by decide +kernel:(("split" : String):Str)≠(("blocks" : String):Str))⟩
 | pairs n x y=>exact⟨(by decide +kernel:(("pairs" : String):Str)≠(("first" : String):Str)),(by decide +kernel:(("pairs" : String):Str)≠(("blocks" : String):Str))⟩
 | ť n x y f=>exact⟨(by decide +kernel:(("coins" : String):Str)≠(("first" : String):Str)),(by decide +kernel:(("coins" : String):Str)≠(("blocks" : String):Str))⟩
def R0.Qa:R0->Bool
 | .pairs _ _ _=>true
 | _=>false
theorem R0.O5 (r:R0):decide (V.str r.word=V.str "pairs")=r.Qa:=by
 cases r with
 | split n k=>exact È λ z=>absurd (V.str.inj z) (by decide +kernel:(("split" : String):Str)≠(("pairs" : String):Str))
 | pairs n x y=>exact Ë rfl
 | ť n x y f=>exact È λ z=>absurd (V.str.inj z) (by decide +kernel:(("coins" : String):Str)≠(("pairs" : String):Str))
def Rl.base:Rl->List R0
 | .one r=>[r]
 | .blocks rs=>rs
 | .first t _=>t.base
def Rl.high:Rl->Nat
 | .first t _=>t.high+1
 | _=>0
theorem mq (r:Ĝ H v (.tuple ds)):∃ a xs,v=.ref a/\H a=some (.tup xs)/\Ù H xs ds:=by
 cases r with
 | tup ha rs=>exact⟨_,_,rfl,ha,rs⟩
theorem im (r:Ĝ H v (.tuple (.str z::ds))):∃ a xs,v=.ref a/\H a=some (.tup (.str z::xs))/\Ù H xs ds:=by
 obtain⟨a,xs,rfl,ha,rs⟩:=mq r;cases rs with
 | cons r1 rs=>cases r1;exact⟨a,_,rfl,ha,rs⟩
theorem R0.mark {r:R0}(h:Ĝ H v r.told):∃ a xs,v=.ref a/\H a=some (.tup (.str r.word::xs)):=by
 cases r with
 | split n k=>obtain⟨a,xs,e,ha,_⟩:=im h;exact⟨a,xs,e,ha⟩
 | pairs n x y=>obtain⟨a,xs,e,ha,_⟩:=im h;exact⟨a,xs,e,ha⟩
 | ť n x y f=>obtain⟨a,xs,e,ha,_⟩:=im h;exact⟨a,xs,e,ha⟩
theorem pO (h:Ĝ H v (Rl.first t m).told):∃ a u w,v=.ref a/\H a=some (.tup [.str "first",u,w])/\Ĝ H u t.told:=by
 obtain⟨a,xs,rfl,ha,rs⟩:=im h;cases rs with | cons r2 rs=>cases rs with | cons r3 rs=>cases rs;exact⟨a,_,_,rfl,ha,r2⟩
theorem oJ (h:Ĝ H v (Rl.blocks rs0).told):∃ a b ys,v=.ref a/\H a=some (.tup [.str "blocks",.ref b])/\H b=some (.tup ys)/\Ù H ys (rs0.map R0.told):=by
 obtain⟨a,xs,rfl,ha,rs⟩:=im h;cases rs with | cons r2 rs=>cases rs;obtain⟨b,ys,rfl,hb,ry⟩:=mq r2;exact⟨a,b,ys,rfl,ha,hb,ry⟩
section
variable {P:Program}{w:World}{K:Frag}{mg:bC}{base:Heap}{C:Nat->Addr}{CR f a1:Addr}{fd d1:FuncData}
abbrev JF:Stmt:=cw 56
def GY (C:Nat->Addr):Sp:=λ vs H Q _=>∃ v t,vs=[v]/\Ru C H t v/\∀ p ms H',Ext H H'->H' p=some (.tup ms)->Ù H' ms (t.base.map R0.told)->Q (.ref p) H'
theorem SA:ae ["rule","mark"] ["rule"] (aa JF):=aR
theorem Hv (F:Ī K "block_marks" "block_marks" JF f fd)(M:Ms P w K mg base C):à P w K mg base aB 2 f fd ["rule"] (GY C):=by
 refine bO F SA λ cdv A outer s H vs Q E hr h=>?_;obtain⟨v,t,rfl,ru,q⟩:=h;have nd:=SA.nd;refine⟨_,bU (gG (i:=1) nd rfl (Or.inl rfl) (bt (pv 0) M.told hr ak))
  (bU (j6 PassesOwn.never (ar cj (cS ia (pv 1) aF) ay (ax _)) (aX (gG (i:=1) nd rfl (Or.inl rfl) (cS ia (pv 1) aF))))
  (aX (dk (oQ (ar cj (cS ia (pv 1) aF) ay (ax _)) (cS ia (pv 1) aF) (aP (ac (pv 1) ao)))))),?_⟩
 refine cG (t:=t) av ru (λ R r=>⟨_,rfl,r⟩) ⟨v,t,H,rfl,Ext.refl _,ru,λ b rb=>?_⟩;refine⟨λ n σ H'=>H'=H/\∃(t':Rl)(b':V),t'.high=n/\t'.base=t.base/\Ĝ H b' t'.told/\σ=[some v,some b'],⟨t.high,rfl,t,b,rfl,rfl,rb,rfl⟩,?_⟩;rintro n σ H' ⟨rfl,t',b',hh,hb,T7,rfl⟩;cases t' with
 | one r =>
  obtain⟨a,xs,rfl,ha⟩:=R0.mark T7;refine⟨_,rfl,a,_,_,_,rfl,rfl,đ.of ha,dh (j:=0) rfl,rfl,_,rfl,?_⟩;rw [È (λ z=>r.N6.1 (V.str.inj z))];refine bZ ⟨_,rfl,a,_,_,_,rfl,rfl,đ.of ha,dh (j:=0) rfl,rfl,_,rfl,?_⟩;rw [È (λ z=>r.N6.2 (V.str.inj z))];refine bZ ⟨_,rfl,cL,λ p hp=>?_⟩;have x:=Ext.new (o:=.tup [.ref a]) hp;refine q p _ _ x aM ?_;rw [<- hb];exact .cons (T7.mono x) .nil
 | blocks rs =>
  obtain⟨a,c,ys,rfl,ha,hc,ry⟩:=oJ T7;refine⟨_,rfl,a,_,_,_,rfl,rfl,đ.of ha,dh rfl,rfl,_,rfl,?_⟩;rw [È (by intro z;exact absurd (V.str.inj z) av)]
  refine bZ ⟨_,rfl,a,_,_,_,rfl,rfl,đ.of ha,dh rfl,rfl,_,rfl,?_⟩;rw [Ë rfl];refine cy ⟨_,rfl,a,_,_,_,rfl,rfl,đ.of ha,dh rfl,?_⟩;refine q c ys _ (.refl _) hc ?_;rw [<- hb];exact ry
 | first t2 m =>
  obtain⟨a,u,w',rfl,ha,PF⟩:=pO T7;refine⟨_,rfl,a,_,_,_,rfl,rfl,đ.of ha,dh rfl,rfl,_,rfl,?_⟩;rw [Ë rfl];refine cy ⟨λ ĝ H2=>∃ m',m'<n/\H2=H'/\∃(t':Rl)(b':V),t'.high=m'/\t'.base=t.base/\Ĝ H' b' t'.told/\ĝ=[some v,some b'],λ ĝ H2 h=>?_,?_⟩
  ·obtain⟨m',lt,e,r⟩:=h;exact⟨m',lt,e,r⟩
  ·refine⟨_,rfl,a,_,_,_,rfl,rfl,đ.of ha,dh rfl,?_⟩;exact⟨t2.high,by rw [<- hh];exact NC _,rfl,t2,u,rfl,hb,PF,rfl⟩
def oj (t:Rl):List Bool:=List.zipWith (λ (p:List Int)(r:R0)=>r.Qa&&decide (p.length%2=0)) t.parts t.base
abbrev Ki:Stmt:=cw 57
def DS (C:Nat->Addr)(CN:Addr):Sp:=λ vs H Q E=>∃ v t,vs=[v]/\Ru C H t v/\t.parts.length<=20/\(∀ p∈t.parts,p.length<=20)/\((oj t).all id=true->∀ H',Ext H H'->Q .Ċ H')/\∀ i,bQ (oj t) i->∀ H',Ext H H'->cQ CN "block" (.int (i:Nat)) H' E
theorem Sq:ae ["rule","number","block","mark"] ["rule"] (aa Ki):=aR
theorem GA (F:Ī K "need_pairs" "need_pairs" Ki f fd)(M:Ms P w K mg base C)(B:ĳ K D)(T:iM K mg D "NoPairs" "block" CN fC R3)(A1:Df P w K mg base aB 2 "block_marks" ["rule"] (GY C) a1 d1)(me:mg "enumerate" = none)(mz:mg "zip" = none)(ml:mg "len" = none):à P w K mg base (cY P w) 3 f fd ["rule"] (DS C CN):=by
 refine gP F Sq λ cdv A outer s H vs Q E hr h=>?_;obtain⟨v,t,rfl,ru,ME,Xp,qn,qe⟩:=h;have nd:=Sq.nd;have ĭ:ă 1 _:=hr.mono au;refine⟨_,aX (bY OT rfl (E2 rfl me rfl mz (ac (bt (pv 0) M.blocks ĭ ak) (ac (cZ A1 hr ak (ac (pv 0) ao)) ao)))
   (bF rfl (eF (cq (i:=1) nd rfl (Or.inl rfl)) (eF (bF rfl (eF (cq (i:=2) nd rfl (Or.inl rfl)) (eF (cq (i:=3) nd rfl (Or.inl rfl)) aZ))) aZ)))
   (aX (be (PW.pt (gR (ar lG (cS ia (pv 3) aF) ay (ax _)) (fv (ar cj (aE c6 (aj az rfl ml ê (ac (pv 2) ao)) aF) aF (ax _)))))
    (aX (cE B T.cls (T.ok P w base) hr T.bi rfl T.Nm (pv 1))) f6))),?_⟩
 refine cG (t:=t) av ru (λ R r=>⟨_,rfl,r⟩) ⟨v,t,rfl,ru,ME,Xp,λ l bs H1 x1 nl hl lb fb Xz hbs=>?_⟩;refine⟨_,rfl,v,t,rfl,ru.ext x1,λ p ms H2 x2 hp rm=>?_⟩;have PK:=x2 _ _ hl;have lm:=rm.length;rw [Â] at lm;have len:(oj t).length=min (bs.map V.ref).length ms.length:=by
  unfold oj;rw [List.length_zipWith,Â,Xz,lm]
 refine⟨l,p,rfl,⟨_,ç.of PK⟩,⟨_,đ.of hp⟩,Ab (xs:=bs.map V.ref) (ys:=ms) (λ i σ H'=>Ext H2 H'/\(∀(j:Nat) b,j<i->(oj t)[j]?=some b->b=true)/\∃ o1 o2 o3,σ=[some v,o1,o2,o3]) ⟨Ext.refl _,λ j d h=>absurd h (ė _),_,_,_,rfl⟩ ?_ ?_ ?_⟩
 ·rintro i σ H' _ ⟨x',_⟩;exact⟨ç.of (x' _ _ PK),đ.of (x' _ _ hp)⟩
 ·rintro i x y σ H' q1 p1 ex ey ⟨x',good,o1,o2,o3,rfl⟩ hq hp1 ne;have xa:=Ext.new (o:=.tup [x,y]) hq;have V9:ad H' q1 (.tup [x,y]) p1=none:=by rw [af ne];exact hp1
  have xb:=Ext.new (o:=.tup [.int (i:Nat),.ref q1]) V9;have x3:=(x'.trans xa).trans xb;have gq:=xb _ _ (show ad H' q1 (.tup [x,y]) q1=some (.tup [x,y]) from aM);have gp:ad (ad H' q1 (.tup [x,y])) p1 (.tup [.int (i:Nat),.ref q1]) p1=some (.tup [.int (i:Nat),.ref q1]):=aM;generalize ad (ad H' q1 (.tup [x,y])) p1 (.tup [.int (i:Nat),.ref q1])=H3 at x3 gq gp ⊢;rw [Ç] at ex;obtain⟨b,eb,rfl⟩:=Ð.mp ex;obtain⟨d,ed,rd⟩:=rm.get ey;rw [Ç] at ed;obtain⟨r,er,rfl⟩:=Ð.mp ed;have li:i<t.parts.length:=by rw [<- Xz];exact(Å.mp eb).1
  have ep:=Á li;have hb:=x3 _ _ (x2 _ _ (hbs i b _ eb ep));obtain⟨m,zs,rfl,hm⟩:=R0.mark (rd.mono x3);have em:(oj t)[i]?=some (r.Qa&&decide (t.parts[i].length%2=0)):=by
   unfold oj;rw [x_,ep,er]
  refine⟨p1,_,rfl,đ.of gp,rfl,_,_,rfl,_,_,rfl,q1,_,rfl,đ.of gq,rfl,_,_,rfl,_,_,rfl,rfl,rfl,?_⟩;have bad:(r.Qa&&decide (t.parts[i].length%2=0))=false->cQ CN "block" (.int (i:Nat)) H3 E:=λ e=>qe i ⟨good,by rw [em,e]⟩ _ ((x1.trans x2).trans x3)
  have next:(r.Qa&&decide (t.parts[i].length%2=0))=true->(Ext H2 H3/\(∀(j:Nat) b,j<i+1->(oj t)[j]?=some b->b=true)):=λ e=>⟨x3,λ j d' hj hd=>by
   rcases Č j i with lt | ge
   ·exact good j d' lt hd
   ·have e0:j=i:=ai;subst e0;rw [em,e] at hd;cases hd;rfl⟩
  refine⟨_,rfl,m,_,_,_,rfl,rfl,đ.of hm,dh rfl,rfl,_,rfl,?_⟩;rw [R0.O5];cases hp:r.Qa with
  | false=>exact cy (cy ⟨_,rfl,λ e' dx h1 h2 nd=>eJ nd (bad (by rw [hp];rfl) e' dx h1 h2 nd)⟩)
  | true =>
   refine bZ ⟨_,rfl,b,_,rfl,.inl (ç.of hb),_,_,rfl,rfl,(by show(0:Int)<2;decide),rfl,_,rfl,?_⟩
   rw [Â];by_cases e:t.parts[i].length%2=0
   ·rw [È (λ z=>by have z':=V.int.inj z;omega)]
    obtain⟨xx,gg⟩:=next (by rw [hp,Ë e];rfl)
    exact bZ ⟨xx,gg,_,_,_,rfl⟩
   ·have one:((t.parts[i].length:Nat):Int)%2=1:=ai;rw [Ë (show V.int (((t.parts[i].length:Nat):Int)%2)=.int 1 from by rw [one])]
    exact cy ⟨_,rfl,λ e' dx h1 h2 nd=>eJ nd (bad (by rw [hp,È e];rfl) e' dx h1 h2 nd)⟩
 ·rintro σ H' ⟨x',good,o1,o2,o3,rfl⟩;refine qn ?_ H' ((x1.trans x2).trans x');rw [ú];intro d hd;obtain⟨j,hj,e⟩:=ü hd;exact good j d (by rw [<- len];exact hj) (by rw [Á hj,e])
end
section
variable {P:Program}{w:World}{K:Frag}{mg:bC}{base:Heap}{C:Nat->Addr}{CR f a1:Addr}{fd d1:FuncData}
def kP (H:Hp)(ns:List Int)(Q:VK):Prop:=∀ l H',Ext H H'->H l=none->H' l=some (.lst (ns.map V.int))->Q (.ref l) H'
abbrev AW:Stmt:=aG (cw 59) 2
def vO (sc:List (Int × Bool)->List Int):Sp:=λ vs H Q _=>∃ v a xs os,vs=[v,.ref a]/\H a=some (.lst xs)/\Μ H xs os/\os.length<=20/\kP H (sc os) Q
theorem Gm:ae ["self","outcomes"] ["self","outcomes"] (aa AW):=aR
abbrev FM:Scope:=dJ [("number",.local),("sure",.local)]
theorem uH:bu X FM [] ["number","sure"] [] []:=by
 refine⟨rfl,rfl,av,av,av,(λ z c h=>nomatch h),(λ z h=>?_),av,(λ k z h=>by simp at h),rfl⟩
 exfalso;have h':List.lookup z [((".0" : Str),NameKind.local),(("number" : Str),NameKind.local),(("sure" : Str),NameKind.local)]=some .cell\/List.lookup z [((".0" : Str),NameKind.local),(("number" : Str),NameKind.local),(("sure" : Str),NameKind.local)]=some .free:=h;simp only [List.lookup_cons,List.lookup_nil] at h'
 repeat' (split at h')
 all_goals simp at h'
theorem vU:((["number","sure"]:List Str)++([]:List Str)).Nodup:=av
def DH (K:Frag):TG:=i3 K 2 (bT (ba 0) (bT (ba 1) ix))
theorem qE {os:List (Int × Bool)}(si:σ[i]?=some (some (.ref a)))(ha:H a=some (.lst xs))(oc:Μ H xs os)(lo:os.length<=20)(q:kP H (os.map (·.1)) Q):dW (bL K (ag i)) 2 [] (DH K) (ag 0) σ H Q:=by
 obtain⟨lx,oc⟩:=oc;refine⟨_,si,a,rfl,⟨_,ç.of ha⟩,λ D hD=>?_⟩;refine bD (λ i ys H'=>Ext H H'/\ys=((os.take i).map (·.1)).map .int) (by rw [Ö];omega) ⟨.new hD,rfl⟩ (λ i ys H' pv=>ç.of (pv.1 _ _ ha)) ?_ ?_
 ·rintro i x ys H' ex ly Ġ ⟨x',ey⟩ ι ŀ R k;obtain⟨o0,o1,rfl⟩:∃ o0 o1,ι=[o0,o1]:=by
   match ι,ŀ with
   | [o0,o1],_=>exact⟨o0,o1,rfl⟩
  have li:i<os.length:=by rw [<- lx];exact(Å.mp ex).1
  have eo:=Á li;obtain⟨p,rfl,hp⟩:=oc i x _ ex eo;refine⟨p,_,rfl,đ.of (x' _ _ hp),rfl,_,_,rfl,_,_,rfl,rfl,⟨[some (.int os[i].1),some (.bl os[i].2)],rfl,rfl⟩,_,rfl,?_⟩;refine k _ H' Ġ ⟨aI _ x' hD,?_⟩;rw [aC eo,Ì,Ì,<- ey];rfl
 ·rintro ys H' ly Ġ ⟨x',ey⟩;rw [lx,Ú] at ey;rw [ey] at Ġ;exact q D H' x' hD Ġ
theorem Au (F:Ī K "among" "Sum.among" AW f fd):à P w K mg base aB 1 f fd ["self","outcomes"] (vO λ os=>os.map (·.1)):=by
 refine bO F Gm λ cdv A outer s H vs Q E hr h=>?_;obtain⟨v,a,xs,os,rfl,ha,oc,lo,q⟩:=h;refine⟨_,aX (dk (cu (g:=DH K) rfl uH (aS (pv 1)) (λ s H C fp=>bF rfl (eF (cq vU rfl (.inl rfl)) (eF (cq vU rfl (.inl rfl)) aZ))) (λ s H C fp=>pv 0))),?_⟩;exact qE rfl ha oc lo q
end
section
variable {X:Cx}
def kg (K:Frag):List V->Hp->VK->Prop:=λ xs H Q=>∃(p:Addr)(ns:List Int),xs=[.ref p]/\ç K H p (ns.map V.int)/\ns.length<64/\∀(l:Addr)(Ř:List Int),H l=none->Ř.Perm ns->Ř.Pairwise (· <= ·)->Q (.ref l) (ad H l (.lst (Ř.map V.int)))
theorem kH:dC X (.builtin "sorted") (kg X.K):=by
 intro Ä s σ H xs us Q I r h;obtain⟨p,ns,rfl,hq,hl,q⟩:=h;obtain⟨u,rfl,rx⟩:=fm r;cases rx;obtain⟨its,r',pl,hz⟩:=I.list hq;have Ń:=r'.length;rw [Â] at Ń;refine PyProof.Rows.sorted_ints pl.isList (jZ r') ai λ out Ř a1 a2 a3=>?_;obtain⟨e,he⟩:=PyProof.Rows.sortedAll_at s.heap its out;refine⟨.ref (s.heap.objs.size+1),_,I.laid (λ _ _=>PyProof.Rows.sortedAll_old) (Β _) (show Ą X.prog X.w _ _ _ (.lst (Ř.map .int)) from⟨?_,out.toList,e,iG a1,?_⟩),rfl,q _ Ř (I.ċ.fresh (Β _)) a2 a3⟩
 ·rw [Â,a2.length_eq,Ö];omega
 ·exact he
def uq (K:Frag):V->List V->Hp->VK->Prop:=λ x vs H Q=>∃(l:Addr)(ns:List Int)(k:Int),x=.ref l/\vs=[.int k]/\ç K H l (ns.map V.int)/\k∈ns/\Q (.int (ns.idxOf k:Nat)) H
theorem ql:HG X "list.index" (uq X.K):=by
 intro Ä s σ H x vs v us Q I rx rv h;obtain⟨l,ns,k,rfl,rfl,hl,hk,q⟩:=h;cases rx;obtain⟨u,rfl,ru⟩:=fm rv;obtain⟨t,e⟩:=(show ∃ t,u=.int k t from ru);subst e;obtain⟨its,r,pl,hz⟩:=I.list hl;have hi:=jZ r;obtain⟨⟨cls,dd,data,sl⟩,ho,hc,n,hd⟩:=id pl.isList;simp only at hc hd;subst hc hd;have Ń:=hi.length;have hj:=List.idxOf_lt_length_iff.mpr hk;have Ug:ns.length<=16777216:=by rw [Â,Ö] at hz;exact hz
 refine Ol a_ ⟨_,ho,rfl⟩ PySem.F.entry_list_index (PySem.F.args_list_index_2 _ _)
  (SeqAt.list_indexAt l its.toArray n dd sl (.int k t) (PyProof.Rows.isInt k) (ns.idxOf k) (by simpa [Ń] using hj) ai ?_ ?_) ⟨ho,λ y hy=>(PyProof.Rows.eq_isInt k t hi y (by simpa using hy)).at _ _,⟨.int _,H,I.tok _,⟨_,rfl⟩,q⟩⟩
 ·show PyProof.Rows.isInt k its[ns.idxOf k]=true;rw [PyProof.Rows.isInt_at k hi _ ai hj]
  simpa using List.getElem_idxOf hj
 ·intro j hjs ŵ;have h1:j<ns.length:=ai;show PyProof.Rows.isInt k (its[j]'ai)=false;rw [PyProof.Rows.isInt_at k hi _ ai h1];have:=List.not_of_lt_findIdx ŵ
  simpa using this
end
end My
namespace My
open PySem L2
section
variable {prog:Program}{w:World}{A:Around}{R:Result->Shared->Prop}{s:Shared}
theorem qc (J:Nat->Shared->Prop)
  (turn:∀ n s,J n s->wpAny (model prog w) A (pyNext it) (λ r Ď=>match r with
   | none=>R (.ok .next) Ď
   | some v=>wpAny (model prog w) A (letOwnedTupleGo target it v) (λ _ Ż=>wpAny (model prog w) A (assign target env v) (λ _ k_=>wpAny (model prog w) A (eval kx env)
     (λ kv Nk=>wpAny (model prog w) A (eval vx env) (λ vv Nj=>wpAny (model prog w) A (dictSet D kv vv) (λ _ Si=>∃ m,m<n/\J m Si) (λ _ _=>False) Nj) (λ _ _=>False) Nk) (λ _ _=>False) k_) (λ _ _=>False) Ż) (λ _ _=>False) Ď) (λ _ _=>False) s)
  (n:Nat)(h:J n s):codeAny (model prog w) A (.compLoop (.DictComp kx vx [⟨target,iter,[],0⟩] scope ô) 0 it (.ref D) env) R s:=by
 refine codeAny_loop rfl J (λ n s hJ=>?_) n h;refine wpAny_noted ?_;rw [compTurn_dict];refine À (Į (À (ñ (turn n s hJ) (λ r Ď Ś=>?_) λ _ _ z=>z.elim)));cases r with
 | none=>exact Æ Ś
 | some v =>
  refine À (ñ Ś (λ _ Ż M0=>?_) λ _ _ z=>z.elim);refine À (ñ M0 (λ _ k_ NQ=>?_) λ _ _ z=>z.elim);refine À (Æ ?_);exact À (À (ñ NQ (λ kv Nk Pi=>À (ć (ñ Pi (λ vv Nj Ph=>À (Į (ć (ñ Ph (λ _ Si VW=>Æ ⟨rfl,VW⟩) λ _ _ z=>z.elim)))) λ _ _ z=>z.elim))) λ _ _ z=>z.elim))
end
section
variable {X:Cx}
theorem An (I:Inv X Ä σ H s)(e:H a=some (.dK ì))(l:ì.length<sizeLine)(ry:RelV (kV k) u)(rv:RelV v r)
  (h:∀ s',Inv X Ä σ (ad H a (.dK (dm ì k v))) s'->Q () s'):wpAny (model X.prog X.w) A (dictSet a u r) Q E s:=by
 obtain⟨z,hd,vs,rel,dd⟩:=va I.ċ e;refine wpAny_dictSet_pairs (nQ ry) dd (λ h' Of hs=>h _ ?_) (by rw [<- rel.length];exact z)
 have he:∃ q,h'.get? a=some q:=let ⟨q,_,_,hq,_⟩:=Of;⟨q,hq⟩
 exact iw I (by rw [e];exact True.intro) hs he (pT (by have:=c7 ì k v;omega) hd (rel.put k rv) Of)
end
def Fy (wi:TI)(k:Nat)(js:List Nat)(g:TG)(tk tv:TE):TE:=λ σ H Q=>wi σ H λ J H1=>∀ D,H1 D=none->∃ W:Nat->Nat->List (Key × V)->Hp->Prop,(∃ m,W 0 m [] (ad H1 D (.dK []))) /\
 ∀ i m ys H2,W i m ys H2->H2 D=some (.dK ys)/\((J.stop i H2/\Q (.ref D) H2)\/(J.go i H2/\ys.length<sizeLine /\
  ∀ x H3,J.MJ i H2 x H3->∀ os:St,os.length=k->g x (os++cV js σ) H3 λ Ĵ H0=>(∃ ō:St,ō.length=k/\Ĵ = ō ++ cV js σ)/\tk Ĵ H0 λ y H4=>tv Ĵ H4 λ v H5=>∃ key,y=kV key/\H5 D=some (.dK ys)/\∃ m',m'<m/\W (i+1) m' (dm ys key v) (ad H5 D (.dK (dm ys key v)))))
section
variable {X:Cx}{sc:Scope}{cl:List (Str × Addr)}{ts zs:List Str}{js:List Nat}{kx vx iter:Expr}{ô:Pos}{tg:Expr}{g:TG}{wi:TI}{tk tv:TE}
theorem AN (hc:X.calm=true)(S:bu X sc cl ts zs js)(hi:PI X tg iter wi)(hg:∀ s H C fp,PG (bI X sc cl (ts++zs) s H C fp) tg g)(hk:∀ s H C fp,PE (bI X sc cl (ts++zs) s H C fp) kx tk)(hv:∀ s H C fp,PE (bI X sc cl (ts++zs) s H C fp) vx tv)
  (hs:∀ v,foldedSetIterable iter X.env v=pure v:=by intro _;rfl):PE X (.DictComp kx vx [⟨tg,iter,[],0⟩] sc ô) (Fy wi ts.length js g tk tv):=by
 intro Ä s σ H Q I h;rw [arm_eval_DictComp];refine ľ (use:=none) rfl hs S.f_ S.kind S.names (aV (hi Ä s σ H _ I h) λ v s1 h1=>aV h1 λ Rq s2 h2=>?_);obtain⟨it,fp,tn,J,H2,e,I2,T,Mw,f2,body⟩:=h2;subst e;have Qi:H2 s2.heap.objs.size=none:=I2.fresh;obtain⟨W,⟨m0,w0⟩,turn⟩:=body _ Qi;refine ý ?_;have I3:Inv X Ä σ (ad H2 s2.heap.objs.size (.dK [])) { s2 with heap:=s2.heap.push { cls:=.type "dict",data:=.dict #[] } }:=I2.laid (a:=s2.heap.objs.size) (o:=.dK []) (t':=s2.toks) (λ _ _ q=>Ã _ q) (Ê _) (kA s2.heap I2.big)
 refine Υ S.MW (by intro y hy;simp at hy) (λ Ś hn Od=>?_) S.kind
 generalize M3:({ s2 with heap:=s2.heap.push { cls:=.type "dict",data:=.dict #[] } }:Shared)=s3 at I3 hn Od ⊢
 have F_:∀ b∈fp,dL X Ä (ad H2 s2.heap.objs.size (.dK [])) b/\b<s3.heap.objs.size:=λ b hb=>by
  obtain⟨o,ho,_⟩:=T.obj _ _ Mw b hb;have hl:=É ho;have Qc:b≠s2.heap.objs.size:=Ó hl;obtain⟨z1,z2⟩:=f2 b hb;refine⟨⟨by rw [af Qc];exact z1,z2⟩,?_⟩
  rw [<- M3];show b<(s2.heap.push _).objs.size;rw [û];exact Ē hl
 have old:∀ b o,s3.heap.get? b=some o->Ś.get? b=some o:=λ b o e=>Od.extBut b o (Ó (É e)) (Ã _ e);have loop:∀ sS:Shared,sS.heap = Ś->sS.os=s3.os->sS.gens=s3.gens->codeAny (model X.prog X.w) X.A (.compLoop (.DictComp kx vx [⟨tg,iter,[],0⟩] sc ô) 0 (.ref it) (.ref s2.heap.objs.size) (compEnvC sc cl s3.heap.objs.size X.env))
   (compPost (model X.prog X.w) X.A X.xe none (EP X Ä σ Q) (.ref s2.heap.objs.size) s3.heap.objs.size) sS:=by
  intro sS eh eo eg;subst eh;have J0:Inv (bI X sc cl (ts++zs) s3 (ad H2 s2.heap.objs.size (.dK [])) s3.heap.objs.size fp) [] (List.replicate ts.length none++cV js σ) (ad H2 s2.heap.objs.size (.dK [])) sS:=fq I3 S F_ (Ê _) eo eg old hn;generalize hX:bI X sc cl (ts++zs) s3 (ad H2 s2.heap.objs.size (.dK [])) s3.heap.objs.size fp=X' at J0;have Ŭ:∀{H':Hp},(∀ b∈fp,H' b=none)->∀ b∈fp,dL X' [] H' b:=λ {H'} hn b hb=>by
   subst hX;obtain⟨⟨_,z1,z2,z3,z4,z5⟩,z6⟩:=F_ b hb;refine⟨hn b hb,Ó z6,λ q=>?_,.inl hb,λ y c e=>z4 y c (S.sub _ _ e),λ p hp=>absurd (show p∈([]:List (Addr × Obj)) from hp) (by simp)⟩
   rcases ë.mp (I3.ż b q) with e | e
   ·exact z1 e
   ·exact z2 e
  have OJ:=T.keep _ _ _ Mw λ b hb o e=>old b o (by rw [<- M3];exact Ã _ e)
  refine qc (λ n s'=>∃ i ys os H',os.length=ts.length/\Inv X' [] (os++cV js σ) H' s'/\tn i s'.heap/\(∀ b∈fp,H' b=none)/\W i n ys H') ?_ m0 ⟨0,[],_,_,æ,J0,OJ,λ b hb=>(F_ b hb).1.1,w0⟩;rintro n s' ⟨i,ys,os,H',ŀ,Iv,st,fr,w⟩;obtain⟨hD,alt⟩:=turn i n ys H' w;have eP:X'.prog=X.prog:=by subst hX;rfl
  have eW:X'.w=X.w:=by subst hX;rfl
  have eK:X'.K=X.K:=by subst hX;rfl
  have eC:X'.calm=true:=by subst hX;exact hc
  have eA:X'.A=X.A:=by subst hX;rfl
  have eE:X'.env=compEnvC sc cl s3.heap.objs.size X.env:=by subst hX;rfl
  have eX:X'.xe = λ _ _=>False:=by subst hX;rfl
  rcases alt with⟨stop,q⟩ | ⟨go,Ń,step⟩
  ·have d:=T.done X' eP eW eK eC i [] s' _ H' (λ _ _=>False) Iv (Ŭ fr) st stop;rw [eA] at d;refine aV d λ r s4 ⟨hr,I4⟩=>?_;subst hr;obtain⟨m,hm,_⟩:=id I4.loc;rw [eE] at hm;subst hX;exact⟨m,hm,λ h' Pj=>⟨.ref s2.heap.objs.size,H',gI I3 F_ (Ê _) I4 Pj,rfl,q⟩⟩
  ·have d:=T.item X' eP eW eK eC i [] s' _ H' (λ _ _=>False) Iv (Ŭ fr) st go;rw [eA] at d;refine aV d λ r s4 ⟨u,hr,h4⟩=>?_;subst hr;refine aV h4 λ _ s5 ⟨y,H5,I5,r5,y5,z_,Pt⟩=>?_;have Pz:=I5.pinned (Ŭ Pt) (T.obj _ _ z_);have Qe:PG X' tg g:=by subst hX;exact hg _ _ _ _
   have g6:=Qe _ s5 _ H5 y u _ Pz r5 (step y H5 y5 os ŀ);rw [eP,eW,eA,eE,eX] at g6;refine aV g6 λ _ s6 ⟨RQ,H6,I6,⟨ō,MD,e6⟩,P5⟩=>?_;subst e6;have Us:PE X' kx tk:=by subst hX;exact hk _ _ _ _
   have g7:=Us _ s6 _ H6 _ I6 P5;rw [eP,eW,eA,eE,eX] at g7;refine aV g7 λ ku s7 ⟨k7,H7,I7,Ve,st7⟩=>?_;have QR:PE X' vx tv:=by subst hX;exact hv _ _ _ _
   have g8:=QR _ s7 _ H7 _ I7 st7;rw [eP,eW,eA,eE,eX] at g8;refine aV g8 λ uv s8 ⟨v8,H8',I8',r8,key,ek,hD8,m',Nb,w8⟩=>?_;subst ek;have g9:=An (A:=X'.A) (E:=X'.xe) (Q:=λ _ s9=>Inv X' _ _ (ad H8' s2.heap.objs.size (.dK (dm ys key v8))) s9) I8' hD8 Ń Ve r8 λ s9 I9=>I9;rw [eP,eW,eA,eX] at g9;refine aV g9 λ _ s9 I8=>?_;refine⟨m',Nb,i+1,dm ys key v8,ō,_,MD,I8.ő,T.keep _ _ _ z_ λ b hb o e=>(I8.pin (b,o) (Î _ (Î _ (bp hb e)))).1,λ b hb=>?_,w8⟩;obtain⟨o',e',_⟩:=T.obj _ _ z_ b hb;exact(I8.pin (b,o') (Î _ (Î _ (bp hb e')))).2.1
 have N7:=T.keep _ _ _ Mw λ b hb o e=>old b o (by rw [<- M3];exact Ã _ e)
 exact codeAny_compStart_dict (loop _ rfl rfl rfl) (T.self _ 0 _ _ _ N7 (loop _ rfl rfl rfl))
end
end My
namespace My
open PySem PySem.W L2
theorem oV {n z:Str}(h:List.lookup z [(n,a)]=some c):z=n/\c=a:=by
 rw [ó] at h;cases e:z==n with
 | true=>rw [e] at h;exact⟨Ě.mp e,(Õ h).symm⟩
 | false=>rw [e] at h;cases h
theorem qi (f_:closureFor sc X.env=pure [(z0,c0)])(kind:sc.kind=.function)(nc:∀ y∈sc.names,y.2 ≠ .cell)(nm:∀ y∈sc.names,y.2=.local->sc.names.lookup y.1=some .local)(var:∀ x∈ts,sc.names.lookup x=some .local)
  (hc:X.env.cells.lookup z0=some c0)(rl:(relabel sc X.env).names=L)(has:∀ y∈L,(y.2=.cell\/y.2=.free)->y.1=z0)(nd:(ts ++ [z0]).Nodup)(hj:X.N[j]?=some z0)(vis:yy X.env.scope z0)(nl:X.env.kindOf z0≠some .local)(cf:L.lookup z0=some .cell\/L.lookup z0=some .free):bu X sc [(z0,c0)] ts [z0] [j]:=by
 refine⟨f_,kind,nc,nm,var,λ z c h=>?_,λ z h=>?_,nd,λ k z h=>?_,rfl⟩
 ·obtain⟨rfl,rfl⟩:=oV h;exact hc
 ·rw [rl] at h;have:z=z0:=by
   rcases h with h | h
   ·exact has _ (è h) (.inl rfl)
   ·exact has _ (è h) (.inr rfl)
  subst this;exact⟨c0,by rw [ó,œ]⟩
 ·match k,h with
  | 0,h =>
   have h:=h;cases h;exact⟨j,rfl,hj,vis,nl,by rw [rl];exact cf⟩
  | k+1,h=>simp at h
theorem j7 (f_:closureFor sc X.env=pure [])(kind:sc.kind=.function)(nc:∀ y∈sc.names,y.2 ≠ .cell)(nm:∀ y∈sc.names,y.2=.local->sc.names.lookup y.1=some .local)(var:∀ x∈ts,sc.names.lookup x=some .local)
  (rl:(relabel sc X.env).names=L)(has:∀ y∈L,¬(y.2=.cell\/y.2=.free))(nd:(ts ++ []).Nodup):bu X sc [] ts [] []:=by
 refine⟨f_,kind,nc,nm,var,(λ z c h=>by cases h),λ z h=>?_,nd,(λ k z h=>by simp at h),rfl⟩
 rw [rl] at h;rcases h with h | h
 ·exact absurd (.inl rfl) (has _ (è h))
 ·exact absurd (.inr rfl) (has _ (è h))
theorem EF {n m z:Str}(h:List.lookup z [(n,a),(m,b)]=some c):(z=n/\c=a)\/(z=m/\c=b):=by
 rw [ó] at h;cases e:z==n with
 | true=>rw [e] at h;exact .inl ⟨Ě.mp e,(Õ h).symm⟩
 | false =>
  rw [e] at h;have h:=h;rw [ó] at h;cases e2:z==m with
  | true=>rw [e2] at h;exact .inr ⟨Ě.mp e2,(Õ h).symm⟩
  | false=>rw [e2] at h;cases h
theorem AK (f_:closureFor sc X.env=pure [(y1,c1),(y2,c2)])(kind:sc.kind=.function)(nc:∀ y∈sc.names,y.2 ≠ .cell)(nm:∀ y∈sc.names,y.2=.local->sc.names.lookup y.1=some .local)(var:∀ x∈ts,sc.names.lookup x=some .local)
  (h1:X.env.cells.lookup y1=some c1)(h2:X.env.cells.lookup y2=some c2)(rl:(relabel sc X.env).names=L)(has:∀ y∈L,(y.2=.cell\/y.2=.free)->y.1=y1\/y.1=y2)(ny:y1≠y2)(nd:(ts ++ [z1,z2]).Nodup)
  (g1:X.N[j1]?=some z1)(g2:X.N[j2]?=some z2)(v1:yy X.env.scope z1)(v2:yy X.env.scope z2)(n1:X.env.kindOf z1≠some .local)(n2:X.env.kindOf z2≠some .local)(f1:L.lookup z1=some .cell\/L.lookup z1=some .free)(f2:L.lookup z2=some .cell\/L.lookup z2=some .free):bu X sc [(y1,c1),(y2,c2)] ts [z1,z2] [j1,j2]:=by
 refine⟨f_,kind,nc,nm,var,λ z c h=>?_,λ z h=>?_,nd,λ k z h=>?_,rfl⟩
 ·rcases EF h with⟨rfl,rfl⟩ | ⟨rfl,rfl⟩
  ·exact h1
  ·exact h2
 ·rw [rl] at h;have e:z=y1\/z=y2:=by
   rcases h with h | h
   ·exact has _ (è h) (.inl rfl)
   ·exact has _ (è h) (.inr rfl)
  rcases e with rfl | rfl
  ·exact⟨c1,by rw [ó,œ]⟩
  ·refine⟨c2,?_⟩;rw [ó,ã.mpr ny.symm];rw [ó,œ]
 ·match k,h with
  | 0,h =>
   have h:=h;cases h;exact⟨j1,rfl,g1,v1,n1,by rw [rl];exact f1⟩
  | 1,h =>
   have h:=h;cases h;exact⟨j2,rfl,g2,v2,n2,by rw [rl];exact f2⟩
  | k+2,h=>simp at h
section
variable {P:Program}{w:World}{K:Frag}{mg:bC}{base:Heap}{C:Nat->Addr}{CR f a1:Addr}{fd d1:FuncData}
abbrev jg:Stmt:=aG (cw 60) 2
abbrev HC:List Str:=["self","outcomes","numbers","firsts"]
theorem Qz:ae HC ["self","outcomes"] (aa jg):=aR
abbrev Eg:Scope:=dJ [("number",.local),("numbers",.free)]
abbrev E7:Scope:=dJ [("number",.local),("sure",.local),("firsts",.free),("numbers",.free)]
section
variable {cdv:Value}{A:Around}{outer:List Env}{s:Shared}{H:Hp}{E:XK}
theorem vK:bu (aW aB P w K mg base HC "Ranks.among" (aa jg) f cdv A outer s H E).ŋ Eg [("numbers",s.heap.objs.size+1)] ["number"] ["numbers"] [2] :=
 qi (L:=[(".0",.local),("number",.local),("numbers",.cell)]) rfl rfl av av av rfl rfl av av rfl (.inr (.inl rfl)) (by show(aa jg).names.lookup ("numbers" : Str)≠some .local;decide +kernel) (.inl rfl)
theorem xD:bu (aW aB P w K mg base HC "Ranks.among" (aa jg) f cdv A outer s H E).ŋ E7 [("numbers",s.heap.objs.size+1),("firsts",s.heap.objs.size+2)] ["number","sure"] ["firsts","numbers"] [3,2] :=
 AK (L:=[(".0",.local),("number",.local),("sure",.local),("firsts",.cell),("numbers",.cell)]) rfl rfl av av av rfl rfl rfl av av av rfl rfl (.inr (.inl rfl)) (.inr (.inl rfl)) (by show(aa jg).names.lookup ("firsts" : Str)≠some .local;decide +kernel) (by show(aa jg).names.lookup ("numbers" : Str)≠some .local;decide +kernel) (.inl rfl) (.inl rfl)
end
theorem EA:((["number"]:List Str)++(["numbers"]:List Str)).Nodup:=av
theorem xN:((["number","sure"]:List Str)++(["firsts","numbers"]:List Str)).Nodup:=av
def Ie (K:Frag):TS:=cR (gQ (kg K) (am (dW (bL K (ag 1)) 2 [] (DH K) (ag 0)) aK)) (ba 2)
def HP (K:Frag):TE:=aQ (dR λ i j=>.int (i+j)) (rY K "list" (uq K) (ag 1) (am (ag 0) aK)) (tC (.int 1))
def Fh (K:Frag):TS:=cR (Fy (bL K (ag 2)) 1 [2] (ba 0) (ag 0) (HP K)) (ba 3)
def Kq (K:Frag):TE:=aQ (dR λ i j=>.int (i-j)) (aQ (dR λ i j=>.int (i+j)) (aQ (rI Ζ λ i j=>.int (i*j)) (tC (.int 2)) (on (ag 2) (ag 0))) (rY K "list" (pG K) (ag 3) (am (ag 0) aK))) (tC (.int 1))
def AS (K:Frag):TS:=cH (dW (bL K (ag 1)) 2 [3,2] (DH K) (Kq K))
section
variable {cdv:Value}{A:Around}{outer:List Env}{s:Shared}{H:Hp}{E:XK}
abbrev pj (k:Nat)(q:Str)(st:Stmt)(A:Around)(s:Shared)(f:Addr)(c:Value):Prop:=ă k (A.deeper (PyProof.Rows.envOfC q (aa st) s.heap.objs.size f c))
theorem Ct (ms:mg "sorted" = none)(hr:pj 0 "Ranks.among" jg A s f cdv):Bx (Ž (aW aB P w K mg base HC "Ranks.among" (aa jg) f cdv A outer s H E).ŋ (aH jg) (aO (Ie K) (aO (Fh K) (AS K)))):=by
 have nd:=Qz.nd;have hu:(A.deeper (PyProof.Rows.envOfC "Ranks.among" (aa jg) s.heap.objs.size f cdv)).units+1<cLine:=by have:=hr.un;omega
 exact dq ⟨gG nd rfl (.inr rfl) (aj kH rfl ms P1 (ac (cu rfl uH (aS (pv 1)) (λ s H C fp=>bF rfl (eF (cq vU rfl (.inl rfl)) (eF (cq vU rfl (.inl rfl)) aZ))) (λ s H C fp=>pv 0)) ao))⟩
  (dq ⟨gG nd rfl (.inr rfl) (AN rfl vK (aS (pv 2)) (λ s H C fp=>cq EA rfl (.inl rfl)) (λ s H C fp=>pv 0) (λ s H C fp=>aE bw (eG Ü a_ Qp ql (pv 1) (ac (pv 0) ao)) aF))⟩
  (br ⟨dk (cu rfl xD (aS (pv 1)) (λ s H C fp=>bF rfl (eF (cq xN rfl (.inl rfl)) (eF (cq xN rfl (.inl rfl)) aZ))) (λ s H C fp=>aE ib (aE bw (aE dY aF (lT hu (pv 2) (pv 0))) (eG Ü Qr Qq oE (pv 3) (ac (pv 0) ao))) aF))⟩))
end
theorem jC:∀{l:List Int},l.Pairwise (· <= ·)->∀{n:Int},n∈l->l.idxOf n=l.countP (λ m=>decide (m<n))
 | [],_,_,h=>nomatch h
 | a::l,p,n,h=>by
  obtain⟨pa,pl⟩:=List.pairwise_cons.mp p;rw [List.idxOf_cons,ND];by_cases e:a=n
  ·subst e;have z:l.countP (λ m=>decide (m<a))=0:=List.countP_eq_zero.mpr λ m hm=>by have:=pa m hm;simp;omega
   rw [z];simp
  ·have hn:n∈l:=by
    rcases ë.mp h with z | z
    ·exact absurd z.symm e
    ·exact z
   have lt:a<n:=by have:=pa n hn;omega
   rw [show(a==n)=false from ã.mpr e,jC pl hn];simp [lt]
def rk (ns:List Int)(n:Int):Int:=2*((ns.countP λ m=>decide (m<n))+1:Nat)+(ns.countP λ m=>decide (m=n):Nat)-1
theorem oX (ns:List Int)(n:Int):((ns.map V.int).countP λ z=>pC z (.int n))=ns.countP λ m=>decide (m=n):=by
 rw [List.countP_map];refine List.countP_congr λ m _=>?_;show(m==n)=true ↔ _;simp
theorem B8 (h:te σ H λ x H1=>r [x] H1 Q):gQ r (am te aK) σ H Q:=h
theorem Cq (F:Ī K "among" "Ranks.among" jg f fd)(ms:mg "sorted" = none):à P w K mg base aB 1 f fd ["self","outcomes"] (vO λ os=>os.map λ o=>rk (os.map (·.1)) o.1):=by
 refine bO F Qz λ cdv A outer s H vs Q E hr h=>?_;obtain⟨v,a,xs,os,rfl,ha,oc,lo,q⟩:=h;obtain⟨NX⟩:=Ct ms hr (f:=f) (cdv:=cdv) (A:=A) (outer:=outer) (s:=s) (H:=H) (E:=E) (P:=P) (w:=w) (base:=base);refine⟨_,NX,?_⟩;have lx:=oc.1;have sz:=Ö;refine aY (te:=gQ (kg K) (am (dW (bL K (ag 1)) 2 [] (DH K) (ag 0)) aK)) (i:=2) (D:=⟨_,Q,_,_⟩) ?_;refine B8 (qE (σ:=[some v,some (.ref a),none,none]) (i:=1) rfl ha oc lo λ l0 H0 x0 n0 g0=>?_);refine⟨l0,os.map (·.1),rfl,ç.of g0,by rw [Â];omega,λ l Ř hl pm pw=>?_⟩
 have x1:=Ext.new (o:=.lst (Ř.map V.int)) hl;have g1:ad H0 l (.lst (Ř.map V.int)) l=some (.lst (Ř.map V.int)):=aM;have Sb:=x0.trans x1;show aO (Fh K) (AS K) _ [some v,some (.ref a),some (.ref l),none] (ad H0 l (.lst (Ř.map V.int)));generalize ad H0 l (.lst (Ř.map V.int))=H1 at x1 g1 Sb ⊢;have ln:Ř.length<=20:=by rw [pm.length_eq,Â];exact lo
 refine⟨_,rfl,l,rfl,⟨_,ç.of g1⟩,λ D hD=>?_⟩;refine⟨λ i m ys H'=>m = Ř.length-i/\i <= Ř.length/\H' D=some (.dK ys)/\Ext H1 H'/\ys.length<=i/\∀ n ∈ Ř.take i,dZ ys (.inl n)=some (.int ((Ř.idxOf n:Nat)+1)),⟨Ř.length,ai,ı _,aM,Ext.new hD,Ê _,λ n hn=>by simp at hn⟩,?_⟩
 rintro i m ys H2 ⟨rfl,hi,h2,x2,ly,kv⟩;refine⟨h2,?_⟩;have g2:=x2 _ _ g1;by_cases lt:i < Ř.length
 ·refine .inr ⟨⟨_,.int Ř[i],ç.of g2,by rw [Ç,Á lt];rfl⟩,ai,λ x H3 yl ō ŀ=>?_⟩
  obtain⟨e,yl⟩:=yl;subst e;have ex:=yl _ (ç.of g2);rw [Ç,Á lt] at ex;cases ex;obtain⟨o0,rfl⟩:∃ o0,ō=[o0]:=by
   match ō,ŀ with
   | [o0],_=>exact⟨o0,rfl⟩
  have mem:Ř[i] ∈ Ř:=č lt;refine⟨⟨[some (.int Ř[i])],rfl,rfl⟩,_,rfl,?_⟩;refine⟨_,rfl,.inl ⟨rfl,_,ç.of g2⟩,_,rfl,l,Ř,Ř[i],rfl,rfl,ç.of g2,mem,_,_,rfl,rfl,.inl Ř[i],rfl,h2,Ř.length-(i+1),ai,rfl,lt,aM,aI _ x2 hD,?_,λ n hn=>?_⟩
  ·refine õ (c7 ys (Key.inl Ř[i]) _) ?_;omega
  ·rw [cA];by_cases e:n = Ř[i]
   ·subst e;rw [Ø rfl]
   ·rw [Ï (λ z=>e (Key.inl.inj z))];refine kv n ?_;rw [List.take_succ_eq_append_getElem lt] at hn;rcases ģ.mp hn with z | z
    ·exact z
    ·exact absurd (ä.mp z) e
 ·have e:i = Ř.length:=ai;subst e;refine .inl ⟨⟨_,ç.of g2,by rw [Â];exact Ê _⟩,?_⟩
  rw [Ú] at kv;show AS K _ [some v,some (.ref a),some (.ref l),some (.ref D)] H2;have X4:=x2 _ _ (Sb _ _ ha);have oc2:∀(i:Nat) x o,xs[i]?=some x->os[i]?=some o->GL H2 x o:=λ i x o h1 h2=>by
   obtain⟨p,e,hp⟩:=oc.2 i x o h1 h2;exact⟨p,e,x2 _ _ (Sb _ _ hp)⟩
  refine⟨_,rfl,a,rfl,⟨_,ç.of X4⟩,λ E0 hE=>?_⟩;refine bD (a:=a) (λ i ys H'=>Ext H2 H'/\ys=((os.take i).map λ o=>rk (os.map (·.1)) o.1).map .int) ai ⟨.new hE,rfl⟩ (λ i ys H' pv=>ç.of (pv.1 _ _ X4)) ?_ ?_
  ·rintro i x N4 H' ex ly' Ġ ⟨x',ey⟩ ι ŀ R k;obtain⟨o0,o1,rfl⟩:∃ o0 o1,ι=[o0,o1]:=by
    match ι,ŀ with
    | [o0,o1],_=>exact⟨o0,o1,rfl⟩
   have li:i<os.length:=by rw [<- lx];exact(Å.mp ex).1
   have eo:=Á li;obtain⟨p,rfl,hp⟩:=oc2 i x _ ex eo;have mem:=pm.mem_iff.mpr (ð.mpr ⟨os[i],č li,rfl⟩);have kn:=kv _ mem;refine⟨p,_,rfl,đ.of (x' _ _ hp),rfl,_,_,rfl,_,_,rfl,rfl,⟨[some (.int os[i].1),some (.bl os[i].2)],rfl,rfl⟩,?_⟩;have dg:N2 H' D (.int os[i].1) (some (.int ((Ř.idxOf os[i].1:Nat)+1))):=by
    have z:=N2.k (k:=Key.inl os[i].1) (x' _ _ h2);rw [kn] at z;exact z
   refine j9 (j9 (j9 ⟨_,rfl,_,rfl,D,_,rfl,dg,_,_,rfl,rfl,?_,_,rfl,.inl ⟨rfl,_,ç.of (x' _ _ g2)⟩,_,rfl,l,_,_,rfl,rfl,ç.of (x' _ _ g2),?_,rfl,_,_,rfl,rfl,_,_,rfl,rfl,?_⟩))
   ·exact .inl ⟨au,au⟩
   ·rw [Ng,ú];intro n _;rfl
   ·refine k _ H' Ġ ⟨aI _ x' hE,?_⟩;rw [aC eo,Ì,Ì,<- ey];show _=N4 ++ [V.int (rk (os.map (·.1)) os[i].1)];have e1:rk (os.map (·.1)) os[i].1=2*((Ř.idxOf os[i].1:Nat)+1)+((Ř.map .int).countP λ z=>pC z (.int os[i].1):Nat)-1:=by
     unfold rk;rw [oX,jC pw mem,pm.countP_eq,pm.countP_eq];omega
    rw [e1]
  ·rintro N4 H' ly' Ġ ⟨x',ey⟩;rw [lx,Ú] at ey;rw [ey] at Ġ;have x3:=(Sb.trans x2).trans x';refine q E0 H' x3 ?_ Ġ;cases e:H E0 with
   | none=>rfl
   | some o=>rw [(Sb.trans x2) _ _ e] at hE;cases hE
end
def ji (i:Nat):Nat:=if i%2=0 then i+1 else i-1
theorem ux (i:Nat)(h:i<20):Builtin.bitXor (i:Int) 1=(ji i:Nat):=by
 have all:∀ j:Nat,j<20->Builtin.bitXor (j:Int) 1=(ji j:Nat):=av;exact all i h
theorem qU (h:i<n)(e:n%2=0):ji i<n:=by
 unfold ji;split <;> omega
section
variable {P:Program}{w:World}{K:Frag}{mg:bC}{base:Heap}{C:Nat->Addr}{CO CR f a1:Addr}{fd d1:FuncData}
def rG (o p:Int × Bool):Int:=Cm o.1 o.2 p.1 p.2
def kQ (os:List (Int × Bool)):List Int:=os.mapIdx λ i o=>rG o (os.getD (ji i) (0,false))
abbrev oH:Stmt:=aG (cw 62) 2
theorem Eo:ae ["self","outcomes"] ["self","outcomes"] (aa oH):=aR
abbrev ER:Scope:=dJ [("at",.local),("one",.local),("stands_to",.globalImplicit),("outcomes",.free)]
theorem DU:((["at","one"]:List Str)++(["outcomes"]:List Str)).Nodup:=av
def xT (K:Frag):Sp:=λ vs H Q _=>∃ v a xs os,vs=[v,.ref a]/\H a=some (.lst xs)/\Μ H xs os/\(∀ o∈os,-99<=o.1/\o.1<=99)/\os.length<=20/\os.length%2=0/\kP H (kQ os) Q
def JA (K:Frag)(CO:Addr):TE:=iE (pW K CO) [] E0 (am (ag 1) (am (aQ (dy K) (ag 2) (aQ (dR λ i j=>.int (Builtin.bitXor i j)) (ag 0) (tC (.int 1)))) aK))
section
variable {cdv:Value}{A:Around}{outer:List Env}{s:Shared}{H:Hp}{E:XK}
theorem zg:bu (aW aB P w K mg base ["self","outcomes"] "Signs.among" (aa oH) f cdv A outer s H E).ŋ ER [("outcomes",s.heap.objs.size+1)] ["at","one"] ["outcomes"] [1] :=
 qi (L:=[(".0",.local),("at",.local),("one",.local),("stands_to",.globalImplicit),("outcomes",.cell)]) rfl rfl av av av rfl rfl av av rfl (.inr (.inl rfl)) (by show(aa oH).names.lookup ("outcomes" : Str)≠some .local;decide +kernel) (.inl rfl)
theorem Co (A1:Df P w K mg base (cY P w) 5 "stands_to" ["one","other"] (pW K CO) a1 d1)(me:mg "enumerate" = none)(hr:pj 5 "Signs.among" oH A s f cdv):Bx (Ž (aW aB P w K mg base ["self","outcomes"] "Signs.among" (aa oH) f cdv A outer s H E).ŋ (aH oH) (cH (dW (lK K (am (ag 1) aK)) 2 [1] (DH K) (JA K CO)))) :=
 br ⟨dk (cu rfl zg (fJ rfl me (ac (pv 1) ao)) (λ s H C fp=>bF rfl (eF (cq DU rfl (.inl rfl)) (eF (cq DU rfl (.inl rfl)) aZ))) (λ s H C fp=>cZ A1 hr gy (ac (pv 1) (ac (cS fS (pv 2) (aE B7 (pv 0) aF)) ao))))⟩
end
theorem Ce (F:Ī K "among" "Signs.among" oH f fd)(A1:Df P w K mg base (cY P w) 5 "stands_to" ["one","other"] (pW K CO) a1 d1)(me:mg "enumerate" = none):à P w K mg base aB 6 f fd ["self","outcomes"] (xT K):=by
 refine bO F Eo λ cdv A outer s H vs Q E hr h=>?_;obtain⟨v,a,xs,os,rfl,ha,oc,bd,lo,ev,q⟩:=h;obtain⟨NX⟩:=Co A1 me hr (f:=f) (cdv:=cdv) (A:=A) (outer:=outer) (s:=s) (H:=H) (E:=E) (P:=P) (w:=w) (base:=base);refine⟨_,NX,?_⟩;obtain⟨lx,oc⟩:=oc;have sz:=Ö;have ot:∀{H':Hp}{i:Nat}{b:Addr},Ext H H'->(hi:i<os.length)->H' b=some (.tup [.int os[i].1,.bl os[i].2])->Ot K H' (.ref b) true:=λ {H' i b} x' hi hb=>by
  have:=bd os[i] (č hi);refine .inl ⟨.tuple [.int os[i].1,.bool os[i].2],.tup hb (.cons (.int _) (.cons (.bl _) .nil)),?_⟩;show true=((decide ((-99:Int)<=os[i].1)&&decide (os[i].1<=99))&&true);rw [Ë this.1,Ë this.2];rfl
 refine⟨_,rfl,a,rfl,⟨_,ç.of ha⟩,λ D hD=>?_⟩;refine u6 (λ i ys H'=>Ext H H'/\ys=((kQ os).take i).map .int) ai ⟨.new hD,rfl⟩ (λ i ys H' pv=>ç.of (pv.1 _ _ ha)) ?_ ?_
 ·rintro i x ys H' p ex ly Ġ ⟨x',ey⟩ hp ι ŀ R k;obtain⟨o0,o1,rfl⟩:∃ o0 o1,ι=[o0,o1]:=by
   match ι,ŀ with
   | [o0,o1],_=>exact⟨o0,o1,rfl⟩
  have xp:=Ext.new (o:=.tup [.int (i:Nat),x]) hp;have gp:ad H' p (.tup [.int (i:Nat),x]) p=some (.tup [.int (i:Nat),x]):=aM;have L7:=xp _ _ Ġ;have x2:=x'.trans xp;generalize ad H' p (.tup [.int (i:Nat),x])=H2 at xp gp L7 x2 ⊢;have li:i<os.length:=by rw [<- lx];exact(Å.mp ex).1
  have lm:=qU li ev;have XC:ji i<xs.length:=by rw [lx];exact lm
  obtain⟨b,rfl,hb⟩:=oc i x _ ex (Á li);obtain⟨b2,e2,Mf⟩:=oc (ji i) xs[ji i] _ (Á XC) (Á lm);have em:rJ xs (Builtin.bitXor (i:Int) 1)=some (.ref b2):=by
   rw [ux i ai,<- e2];exact dh (Á XC)
  refine⟨p,_,rfl,đ.of gp,rfl,_,_,rfl,_,_,rfl,rfl,⟨[some (.int (i:Nat)),some (.ref b)],rfl,rfl⟩,?_⟩;refine⟨_,rfl,_,rfl,_,rfl,_,_,rfl,rfl,a,_,_,_,rfl,rfl,ç.of (x2 _ _ ha),em,.ref b,.ref b2,true,true,rfl,ot x2 li (x2 _ _ hb),ot x2 lm (x2 _ _ Mf),(λ z=>by cases z),(λ _ z=>by cases z),λ a1 a2 n1 n2 s1 s2 q1 q2 t1 t2 _ _=>?_⟩
  cases q1;cases q2;rw [x2 _ _ hb] at t1;rw [x2 _ _ Mf] at t2;cases t1;cases t2;refine k _ H2 L7 ⟨aI _ x2 hD,?_⟩;have es:(kQ os)[i]?=some (rG os[i] os[ji i]):=by
   unfold kQ;rw [List.getElem?_mapIdx,Á li];rw [ø,Á lm];rfl
  rw [aC es,Ì,<- ey];rfl
 ·rintro ys H' ly Ġ ⟨x',ey⟩;have l2:(kQ os).length=xs.length:=by unfold kQ;rw [List.length_mapIdx,lx]
  rw [<- l2,Ú] at ey;rw [ey] at Ġ;exact q D H' x' hD Ġ
end
def aA:Nat->Str
 | 0 => "sum"
 | 1 => "ranks"
 | 2 => "wins"
 | _ => "signs"
def Me (MC:Nat->Addr)(H:Hp)(k:Nat)(v:V):Prop:=∃ a dx m,v=.ref a/\H a=some (.ins (MC k) dx [("mark",.ref m)])/\H m=some (.tup [.str (aA k)])
theorem Me.ext (h:Me MC H k v)(x:Ext H H'):Me MC H' k v:=by
 obtain⟨a,dx,m,e,ha,hm⟩:=h;exact⟨a,dx,m,e,x _ _ ha,x _ _ hm⟩
def vw (MC:Nat->Addr)(c:Addr):Prop:=∃ i,i<4/\c=MC i
structure KM (K:Frag)(MC:Nat->Addr):Prop where
 cls:∀ i,i<4->OF K (MC i)
 no:∀ i,i<4->ž K (MC i) "mark"
section
variable {P:Program}{w:World}{K:Frag}{mg:bC}{base:Heap}{C MC:Nat->Addr}{CO CR CF CU CN f a1 a2:Addr}{fd d1 d2:FuncData}
theorem jx {m:Str}(hm:m ≠ "mark")(hk:k<4)(h:Me MC H k v)(ht:∀ R:VK,R v H->ta σ H R)(q:t σ H λ vs H2=>sp (MC k) (v::vs) H2 Q E):cr (vw MC) m sp E ta t σ H Q:=by
 obtain⟨a,dx,m',rfl,ha,_⟩:=h;refine ht _ ⟨a,MC k,dx,_,rfl,⟨k,hk,rfl⟩,ha,?_,q⟩;rw [ó,ã.mpr hm];rfl
abbrev vT:Stmt:=aG (cw 58) 2
def uw (MC:Nat->Addr):Sp:=λ vs H Q _=>∃ v k,vs=[v]/\k<4/\Me MC H k v/\∀ m,H m=some (.tup [.str (aA k)])->Q (.ref m) H
theorem yb:ae ["self"] ["self"] (aa vT):=aR
theorem zk (Z:KM K MC)(F:Ī K "told" "Measure.told" vT f fd):à P w K mg base aB 1 f fd ["self"] (uw MC):=by
 refine bO F yb λ cdv A outer s H vs Q E hr h=>?_;obtain⟨v,k,rfl,hk,⟨a,dx,m,rfl,ha,hm⟩,q⟩:=h;exact⟨_,aX (dk (oW (pv 0) rfl)),_,rfl,a,_,dx,_,_,rfl,ha,Z.cls k hk,Z.no k hk,rfl,q m hm⟩
abbrev zA:Stmt:=aG (cw 59) 1
abbrev CK:Stmt:=aG (cw 60) 1
abbrev zq:Stmt:=aG (cw 62) 1
abbrev BK:Stmt:=aG (cw 58) 4
theorem FU:ae ["self","rule","outcomes"] ["self","rule","outcomes"] (aa zA):=aR
theorem Fj:ae ["self","rule","outcomes"] ["self","rule","outcomes"] (aa CK):=aR
theorem GH:ae ["self","rule","outcomes"] ["self","rule","outcomes"] (aa zq):=aR
theorem FQ:ae ["self","rule","outcomes"] ["self","rule","outcomes"] (aa BK):=aR
def xn (CU:Addr):Sp:=λ vs H Q E=>∃ v r a xs os,vs=[v,r,.ref a]/\H a=some (.lst xs)/\Μ H xs os/\((os.map (·.2)).all id=true->∀ H',Ext H H'->Q .Ċ H')/\∀ i,bQ (os.map (·.2)) i->∀ H',Ext H H'->cQ CU "place" (.int (i:Nat)) H' E
def Hr (C:Nat->Addr)(CN:Addr):Sp:=λ vs H Q E=>∃ v r o t,vs=[v,r,o]/\Ru C H t r/\t.parts.length<=20/\(∀ p∈t.parts,p.length<=20)/\((oj t).all id=true->∀ H',Ext H H'->Q .Ċ H')/\∀ i,bQ (oj t) i->∀ H',Ext H H'->cQ CN "block" (.int (i:Nat)) H' E
def Ep:Sp:=λ vs H Q _=>∃ v r o,vs=[v,r,o]/\Q .Ċ H
theorem Ah (F:Ī K "need_fit" "Sum.need_fit" zA f fd)(A1:Df P w K mg base (cY P w) 3 "need_sure" ["outcomes"] (uG CU) a1 d1):à P w K mg base (cY P w) 4 f fd ["self","rule","outcomes"] (xn CU):=by
 refine gP F FU λ cdv A outer s H vs Q E hr h=>?_;obtain⟨v,r,a,xs,os,rfl,ha,oc,q1,q2⟩:=h;exact⟨_,aX (aw (cZ A1 hr dE (ac (pv 2) ao))),_,rfl,a,xs,os,rfl,ha,oc,q1,q2⟩
theorem BE (F:Ī K "need_fit" "Ranks.need_fit" CK f fd)(A1:Df P w K mg base (cY P w) 3 "need_sure" ["outcomes"] (uG CU) a1 d1):à P w K mg base (cY P w) 4 f fd ["self","rule","outcomes"] (xn CU):=by
 refine gP F Fj λ cdv A outer s H vs Q E hr h=>?_;obtain⟨v,r,a,xs,os,rfl,ha,oc,q1,q2⟩:=h;exact⟨_,aX (aw (cZ A1 hr dE (ac (pv 2) ao))),_,rfl,a,xs,os,rfl,ha,oc,q1,q2⟩
theorem zf (F:Ī K "need_fit" "Signs.need_fit" zq f fd)(A1:Df P w K mg base (cY P w) 3 "need_pairs" ["rule"] (DS C CN) a1 d1):à P w K mg base (cY P w) 4 f fd ["self","rule","outcomes"] (Hr C CN):=by
 refine gP F GH λ cdv A outer s H vs Q E hr h=>?_;obtain⟨v,r,o,t,rfl,ru,l1,l2,q1,q2⟩:=h;exact⟨_,aX (aw (cZ A1 hr dE (ac (pv 1) ao))),_,rfl,r,t,rfl,ru,l1,l2,q1,q2⟩
theorem yH (F:Ī K "need_fit" "Measure.need_fit" BK f fd):à P w K mg base aB 1 f fd ["self","rule","outcomes"] Ep:=by
 refine bO F FQ λ cdv A outer s H vs Q E hr h=>?_;obtain⟨v,r,o,rfl,q⟩:=h;exact⟨_,aX vW,q⟩
end
def mZ (os:List (Int × Bool)):List Int:=os.map λ o=>(os.map λ p=>rG o p).sum
def ig:Nat->List (Int × Bool)->List Int
 | 0,os=>os.map (·.1)
 | 1,os=>os.map λ o=>rk (os.map (·.1)) o.1
 | 2,os=>mZ os
 | _,os=>kQ os
def jy:Nat->Rl->List (Int × Bool)->List Bool
 | 0,_,os=>os.map (·.2)
 | 1,_,os=>os.map (·.2)
 | 2,_,_=>[]
 | _,t,_=>oj t
def mJ (CU CN:Addr)(k:Nat):Addr:=if k=3 then CN else CU
def nq (k:Nat):Str:=if k=3 then "block" else "place"
section
variable {P:Program}{w:World}{K:Frag}{mg:bC}{base:Heap}{C MC:Nat->Addr}{CO CR CF CU CN f a1 a2:Addr}{fd d1 d2:FuncData}
structure Go (H:Hp)(k:Nat)(a:Addr)(os:List (Int × Bool)):Prop where
 ex:∃ xs,H a=some (.lst xs)/\Μ H xs os
 bd:∀ o∈os,-99<=o.1/\o.1<=99
 ln:os.length<=20
 ev:k=3->os.length%2=0
def jb (MC:Nat->Addr)(c:Addr):Sp:=λ vs H Q _=>∃ k v a os,k<4/\c=MC k/\vs=[v,.ref a]/\Go H k a os/\kP H (ig k os) Q
def kF (C MC:Nat->Addr)(CU CN c:Addr):Sp:=λ vs H Q E=>∃ k v r t a xs os,k<4/\c=MC k/\vs=[v,r,.ref a]/\Ru C H t r/\t.parts.length<=20/\(∀ p∈t.parts,p.length<=20)/\H a=some (.lst xs)/\Μ H xs os/\((jy k t os).all id=true->∀ H',Ext H H'->Q .Ċ H')/\∀ i,bQ (jy k t os) i->∀ H',Ext H H'->cQ (mJ CU CN k) (nq k) (.int (i:Nat)) H' E
abbrev Ip:Stmt:=aG (cw 58) 5
abbrev Dw:Stmt:=aG (cw 58) 3
theorem ED:ae ["self","rule","outcomes"] ["self","rule","outcomes"] (aa Dw):=aR
end
end My
namespace My
open PySem L2
structure qI (X:Cx)(sc:Scope)(cl:List (Str × Addr))(x:Str)(ts zs:List Str)(js:List Nat):Prop where
 f_:closureFor sc X.env=pure cl
 kind:sc.kind=.function
 cells:∀ C:Nat,cellsFrom C sc.names cl=(x,C)::cl
 names:∀ y∈sc.names,y.2=.local->sc.names.lookup y.1=some .local
 inx:x∈ts
 sub:∀ z c,cl.lookup z=some c->X.env.cells.lookup z=some c
 has:∀ z,((relabel sc X.env).names.lookup z=some .cell\/(relabel sc X.env).names.lookup z=some .free)->z=x\/∃ c,cl.lookup z=some c
 nd:(ts++zs).Nodup
 cap:∀(k:Nat)(z:Str),zs[k]?=some z->∃ j:Nat,js[k]?=some j/\X.N[j]?=some z/\yy X.env.scope z/\X.env.kindOf z≠some .local /\
  ((relabel sc X.env).names.lookup z=some .cell\/(relabel sc X.env).names.lookup z=some .free)
 len:js.length=zs.length
def fO (X:Cx)(sc:Scope)(cl:List (Str × Addr))(x:Str)(N:List Str)(s:Shared)(H:Hp)(C:Addr)(fp:List Addr):Cx where
 prog:=X.prog
 w:=X.w
 K:=X.K
 mg:=X.mg
 base:=X.base
 A:=X.A
 N:=N
 Ŗ:=s
 OE:=H
 env:=compEnvC sc ((x,C+1)::cl) C X.env
 outer:=X.stack
 stack:=X.stack
 ex:=fp
 fn:=λ y=>y==x
 calm:=X.calm
 pn:=[]
 xe:=λ _ _=>False
theorem fX {z x:Str}(h:List.lookup z ((x,d)::cl)=some c):(z=x/\c=d)\/(z≠x/\cl.lookup z=some c):=by
 rw [ó] at h;cases e:z==x with
 | true=>rw [e] at h;exact .inl ⟨Ě.mp e,(Õ h).symm⟩
 | false=>rw [e] at h;exact .inr ⟨ã.mp e,h⟩
theorem l8 {z x:Str}(n:z≠x)(h:cl.lookup z=some c):List.lookup z ((x,d)::cl)=some c:=by
 rw [ó,ã.mpr n];exact h
theorem jp {x:Str}:List.lookup x ((x,d)::cl)=some d:=by
 rw [ó,œ]
theorem ss
  (hQ:∀ h',h'.Ns s.heap.objs.size (λ _=>none)->(∀ b o,s.heap.get? b=some o->h'.get? b=some o)->(∀ n c,(n,c)∈cellsFrom (s.heap.objs.size+1) scope.names []->h'.IsCell c none) ->
   Q { scope:=scope,locals:=s.heap.objs.size,globals:=globals,cells:=cellsFrom (s.heap.objs.size+1) scope.names cl,qual:=qual,func:=none,code:=outer.code,frame:=outer.frame,builtins:=outer.builtins } { s with heap:=h' }) :
  wpAny M A (newFunctionEnv scope globals cl [] qual none .none (some outer)) Q E s:=by
 simp only [newFunctionEnv,Option.isSome_some,if_true];refine À (wpAny_alloc ?_);refine À (wpAny_layCells _ (λ name kind cells=>by cases hkc:kind == .cell <;> simp [hkc]) _ _ _ _ ?_)
 have ok:=cellsFrom_ok scope.names (s.heap.push { cls:=.type "dict",data:=.dict #[] }) (s.heap.objs.size+1) [] ⟨λ _ _ hm=>(nomatch hm),List.Pairwise.nil⟩ (by rw [û];exact Ê _)
 rw [û] at ok;rw [show({ s with heap:=s.heap.push { cls:=.type "dict",data:=.dict #[] } }:Shared).heap.objs.size=s.heap.objs.size+1 from û ..]
 refine À ?_;rw [OV];exact Æ (Æ (hQ _ ((Heap.Ns.new s.heap (.type "dict")).keeps (pushCells_keeps _ _)) (λ b o e=>pushCells_keeps _ _ b o (Ã _ e)) λ n c hm=>(ok.empty n c hm).1))
theorem dS:∀(names:List (Str × NameKind))(n:Nat)(acc:List (Str × Addr)),cellsFrom n names acc=cellsFrom n names []++acc
 | [],_,_=>rfl
 | (name,kind)::r,n,acc=>by
  unfold cellsFrom;split
  ·rw [dS r (n+1) ((name,n)::acc),dS r (n+1) [(name,n)],List.append_assoc];rfl
  ·exact dS r n acc
section
variable {X:Cx}{Ä:List (Addr × Obj)}{σ:St}{H:Hp}{s:Shared}{sc:Scope}{cl:List (Str × Addr)}{x:Str}{ts zs:List Str}{js:List Nat}{C:Addr}{fp:List Addr}
theorem vo (I:Inv X Ä σ H s)(S:qI X sc cl x ts zs js)(hf:∀ b∈fp,dL X Ä H b/\b<s.heap.objs.size)(hC:s.heap.objs.size<=C):(fO X sc cl x (ts++zs) s H C fp).Ok:=by
 have nc:∀ z,X.env.cells.lookup z≠some (C+1):=λ z e=>by
  obtain⟨v,hv⟩:=I.cell z _ e;exact absurd hv.lt (ş.mpr (θ hC))
 refine⟨I.ok.mod,S.kind,I.ok.glob,I.ok.blt,hC,λ y z c h1 h2=>?_,λ z h=>?_,λ z c hx h=>?_,I.ok.hd,I.ok.frames,.inl rfl,λ b hb=>?_,I.bs,?_,λ b o e hb=>?_,λ b hb hs=>?_,I.stack,I.F'⟩
 ·rcases fX h1 with⟨e1,e2⟩ | ⟨e1,e2⟩ <;> rcases fX h2 with⟨e3,e4⟩ | ⟨e3,e4⟩
  ·exact e1.trans e3.symm
  ·exact absurd (S.sub _ _ e4) (by rw [e2];exact nc z)
  ·exact absurd (S.sub _ _ e2) (by rw [e4];exact nc y)
  ·exact I.ok.inj y z c (S.sub _ _ e2) (S.sub _ _ e4)
 ·by_cases e:z=x
  ·subst e;exact⟨C+1,jp⟩
  ·rcases S.has z h with q | ⟨c,q⟩
   ·exact absurd q e
   ·exact⟨c,l8 e q⟩
 ·have ez:=Ě.mp hx;subst ez;rcases fX h with⟨_,e2⟩ | ⟨e1,_⟩
  ·rw [e2];exact θ hC
  ·exact absurd rfl e1
 ·obtain⟨⟨_,h1,_,_,h4,_⟩,h6⟩:=hf b hb;refine⟨λ e=>absurd h6 (ş.mpr (by rw [show b=C from e];exact hC)),λ z c e=>?_⟩
  rcases fX e with⟨_,e2⟩ | ⟨_,e2⟩
  ·intro q;rw [<- q,e2] at h6;exact absurd h6 (ş.mpr (θ hC))
  ·exact h4 z c (S.sub _ _ e2)
 ·exact õ I.ok.Oh I.sz
 ·obtain⟨⟨_,_,_,h3,_⟩,_⟩:=hf b hb;rcases h3 with h | h
  ·exact I.ok.MV b o e h
  ·exact absurd (É e) (ş.mpr (õ I.ok.Oh h))
 ·obtain⟨⟨_,h1,h2,_⟩,_⟩:=hf b hb;rcases ë.mp (I.ż b hs) with e | e
  ·exact h1 e
  ·exact h2 e
theorem oO (I:Inv X Ä σ H s)(S:qI X sc cl x ts zs js)(hf:∀ b∈fp,dL X Ä H b/\b<s.heap.objs.size)(hC:s.heap.objs.size<=C)(ho:s1.os=s.os)(hg:s1.gens=s.gens)
  (hk:∀ b o,s.heap.get? b=some o->s1.heap.get? b=some o)(hn:s1.heap.Ns C m)(L6:s1.heap.IsCell (C+1) none):Inv (fO X sc cl x (ts++zs) s H C fp) [] (List.replicate ts.length none++cV js σ) H s1:=by
 refine⟨vo I S hf hC,ho,by rw [hg];exact I.bare,Un.kept hk,⟨m,hn,λ i y v h1 h2 h3=>?_⟩,λ z c e=>?_,I.ċ.fresh hC,λ z c e=>?_,λ p hp=>absurd (show p∈([]:List (Addr × Obj)) from hp) (by simp),I.ċ.kept hk,?_⟩
 ·rcases Č i ts.length with lt | ge
  ·rw [é (by rw [æ];exact lt),c_,Ø lt] at h2
   cases h2
  ·have h1':zs[i-ts.length]?=some y:=by
    have Ps:(ts++zs)[i]?=some y:=h1;rw [Ý ge] at Ps;exact Ps
   obtain⟨j,hj,hN,hv,nl,k'⟩:=S.cap _ y h1';have RF:(cV js σ)[i-ts.length]?=some (some v):=by
    rw [Ý (by rw [æ];exact ge),æ] at h2
    exact h2
   have h5:σ[j]?=some (some v):=by
    unfold cV at RF;rw [Ç,hj] at RF;have h6:(σ[j]?).join=some v:=Õ RF;cases e:σ[j]? with
    | none=>rw [e] at h6;cases h6
    | some o=>rw [e] at h6;exact ġ some h6
   obtain⟨m0,hn0,hl⟩:=I.loc;obtain⟨u,ru,lk⟩:=hl j y v hN h5 hv;refine⟨u,ru,?_⟩;rcases lk with⟨k1,_⟩ | ⟨_,c,ec,hc⟩
   ·exact absurd k1 nl
   ·have yx:y≠x:=λ e=>by
     subst e;have hz:=å h1';exact(List.nodup_append.mp S.nd).2.2 y S.inx y hz rfl
    rcases S.has y k' with q | ⟨c',Tn⟩
    ·exact absurd q yx
    have e2:=S.sub _ _ Tn;rw [ec] at e2;cases e2;exact .inr ⟨k',c,l8 yx Tn,hc.keeps hk⟩
 ·rcases fX e with⟨_,e2⟩ | ⟨_,e2⟩
  ·rw [e2];exact⟨none,L6⟩
  ·obtain⟨v,hv⟩:=I.cell z c (S.sub _ _ e2);exact⟨v,hv.keeps hk⟩
 ·rcases fX e with⟨_,e2⟩ | ⟨_,e2⟩
  ·rw [e2];exact I.ċ.fresh (θ hC)
  ·exact I.Ť z c (S.sub _ _ e2)
 ·show(List.replicate ts.length none++cV js σ:St).length=(ts++zs).length;unfold cV;rw [Í,Í,Â,æ,S.len]
theorem rX (I:Inv X Ä σ H s)(hf:∀ b∈fp,dL X Ä H b/\b<s.heap.objs.size)(hC:s.heap.objs.size<=C)(J:Inv (fO X sc cl x (ts++zs) s H C fp) [] ĝ H' s1)
  (hs:Heap.SameBut C s1.heap h'):Inv X Ä σ H' { s1 with heap:=h' }:=by
 have old:∀ b o,s1.heap.get? b=some o->b≠C->h'.get? b=some o:=λ b o e n=>(hs.2 b n).trans e;have lt:∀{b o},s.heap.get? b=some o->b≠C:=λ {b o} e z=>by
  have q:=É e;rw [z] at q;exact absurd q (ş.mpr hC)
 have B:=J.base;refine I.Og J.os ⟨λ b o e n hb hx=>old b o (B.keep b o e n hb hx) (lt e),λ b o e n hb hx=>?_,B.free,λ b o e hx=>?_,B.K',B.D_,B.K_,B.sys⟩ (λ b o e=>?_) J.bare λ b hb=>?_
 ·obtain⟨sl,q⟩:=B.slot b o e n hb hx;exact⟨sl,old _ _ q (lt e)⟩
 ·obtain⟨o',q⟩:=B.there b o e hx;exact⟨o',old _ _ q (lt e)⟩
 ·have nC:∀ c u,H' c=some u->c≠C:=λ c u q z=>by
   have f:H' C=none:=J.free;rw [z,f] at q;cases q
  refine(J.ċ b o e).l_ (λ c v hc q=>old c v q ?_) (λ _ q=>q) λ _ _ q=>q;rcases hc with rfl | hc
  ·exact nC _ _ e
  ·exact nC _ _ hc
 ·obtain⟨⟨_,h1,_,h3,h4,h5⟩,_⟩:=hf b hb;exact⟨h3,h1,h4,h5⟩
end
section
variable {X:Cx}{sc:Scope}{cl:List (Str × Addr)}{x:Str}{ts zs:List Str}{js:List Nat}{elt iter:Expr}{ô:Pos}{tg:Expr}{g:TG}{wi:TI}{te:TE}
theorem yT (hc:X.calm=true)(S:qI X sc cl x ts zs js)(hi:PI X tg iter wi)(hg:∀ s H C fp,PG (fO X sc cl x (ts++zs) s H C fp) tg g)(he:∀ s H C fp,PE (fO X sc cl x (ts++zs) s H C fp) elt te)
  (hs:∀ v,foldedSetIterable iter X.env v=pure v:=by intro _;rfl):PE X (.ListComp elt [⟨tg,iter,[],0⟩] sc ô) (dW wi ts.length js g te):=by
 intro Ä s σ H Q I h;rw [eval_ListComp];refine ľ (use:=none) rfl hs S.f_ S.kind S.names (aV (hi Ä s σ H _ I h) λ v s1 h1=>aV h1 λ Rq s2 h2=>?_);obtain⟨it,fp,tn,J,H2,e,I2,T,Mw,f2,body⟩:=h2;subst e;have Qi:H2 s2.heap.objs.size=none:=I2.fresh;obtain⟨W,⟨m0,w0⟩,turn⟩:=body _ Qi;refine ý ?_;have I3:Inv X Ä σ (ad H2 s2.heap.objs.size (.lst [])) { s2 with heap:=s2.heap.push { cls:=.type "list",data:=.seq ([]:List Value).toArray } }:=I2.P' (t':=s2.toks) (ys:=[]) (its:=[]) .nil (ı _)
 refine ss (λ Ś hn QU L6=>?_);rw [S.cells];generalize M3:({ s2 with heap:=s2.heap.push { cls:=.type "list",data:=.seq ([]:List Value).toArray } }:Shared)=s3 at I3 hn QU L6 ⊢
 have F_:∀ b∈fp,dL X Ä (ad H2 s2.heap.objs.size (.lst [])) b/\b<s3.heap.objs.size:=λ b hb=>by
  obtain⟨o,ho,_⟩:=T.obj _ _ Mw b hb;have hl:=É ho;have Qc:b≠s2.heap.objs.size:=Ó hl;obtain⟨z1,z2⟩:=f2 b hb;refine⟨⟨by rw [af Qc];exact z1,z2⟩,?_⟩
  rw [<- M3];show b<(s2.heap.push _).objs.size;rw [û];exact Ē hl
 have old:∀ b o,s3.heap.get? b=some o->Ś.get? b=some o:=QU;have RA:Ś.IsCell (s3.heap.objs.size+1) none:=by
  refine L6 x _ ?_;have q:=S.cells (s3.heap.objs.size+1);rw [dS] at q;have q2:cellsFrom (s3.heap.objs.size+1) sc.names []=[(x,s3.heap.objs.size+1)]:=List.append_cancel_right (bs:=cl) q;rw [q2];exact ä.mpr rfl
 have loop:∀ sS:Shared,sS.heap = Ś->sS.os=s3.os->sS.gens=s3.gens->codeAny (model X.prog X.w) X.A (.compLoop (.ListComp elt [⟨tg,iter,[],0⟩] sc ô) 0 (.ref it) (.ref s2.heap.objs.size) (compEnvC sc ((x,s3.heap.objs.size+1)::cl) s3.heap.objs.size X.env))
   (compPost (model X.prog X.w) X.A X.xe none (EP X Ä σ Q) (.ref s2.heap.objs.size) s3.heap.objs.size) sS:=by
  intro sS eh eo eg;subst eh;have J0:=oO I3 S F_ (Ê _) eo eg old hn RA;generalize hX:fO X sc cl x (ts++zs) s3 (ad H2 s2.heap.objs.size (.lst [])) s3.heap.objs.size fp=X' at J0;have Ŭ:∀{H':Hp},(∀ b∈fp,H' b=none)->∀ b∈fp,dL X' [] H' b:=λ {H'} hn b hb=>by
   subst hX;obtain⟨⟨_,z1,z2,z3,z4,z5⟩,z6⟩:=F_ b hb;refine⟨hn b hb,Ó z6,λ q=>?_,.inl hb,λ y c e=>?_,λ p hp=>absurd (show p∈([]:List (Addr × Obj)) from hp) (by simp)⟩
   ·rcases ë.mp (I3.ż b q) with e | e
    ·exact z1 e
    ·exact z2 e
   ·rcases fX e with⟨_,e2⟩ | ⟨_,e2⟩
    ·intro q;rw [<- q,e2] at z6;exact absurd z6 (ş.mpr (Β _))
    ·exact z4 y c (S.sub _ _ e2)
  have OJ:=T.keep _ _ _ Mw λ b hb o e=>old b o (by rw [<- M3];exact Ã _ e)
  refine i5 (λ n s'=>∃ i ys os H',os.length=ts.length/\Inv X' [] (os++cV js σ) H' s'/\tn i s'.heap/\(∀ b∈fp,H' b=none)/\W i n ys H') ?_ m0 ⟨0,[],_,_,æ,J0,OJ,λ b hb=>(F_ b hb).1.1,w0⟩;rintro n s' ⟨i,ys,os,H',ŀ,Iv,st,fr,w⟩;obtain⟨hD,alt⟩:=turn i n ys H' w;have eP:X'.prog=X.prog:=by subst hX;rfl
  have eW:X'.w=X.w:=by subst hX;rfl
  have eK:X'.K=X.K:=by subst hX;rfl
  have eC:X'.calm=true:=by subst hX;exact hc
  have eA:X'.A=X.A:=by subst hX;rfl
  have eE:X'.env=compEnvC sc ((x,s3.heap.objs.size+1)::cl) s3.heap.objs.size X.env:=by subst hX;rfl
  have eX:X'.xe = λ _ _=>False:=by subst hX;rfl
  rcases alt with⟨stop,q⟩ | ⟨go,Ń,step⟩
  ·have d:=T.done X' eP eW eK eC i [] s' _ H' (λ _ _=>False) Iv (Ŭ fr) st stop;rw [eA] at d;refine aV d λ r s4 ⟨hr,I4⟩=>?_;subst hr;obtain⟨m,hm,_⟩:=id I4.loc;rw [eE] at hm;subst hX;exact⟨m,hm,λ h' Pj=>⟨.ref s2.heap.objs.size,H',rX I3 F_ (Ê _) I4 Pj,rfl,q⟩⟩
  ·have d:=T.item X' eP eW eK eC i [] s' _ H' (λ _ _=>False) Iv (Ŭ fr) st go;rw [eA] at d;refine aV d λ r s4 ⟨u,hr,h4⟩=>?_;subst hr;refine aV h4 λ _ s5 ⟨y,H5,I5,r5,y5,z_,Pt⟩=>?_;have Pz:=I5.pinned (Ŭ Pt) (T.obj _ _ z_);have Qe:PG X' tg g:=by subst hX;exact hg _ _ _ _
   have g6:=Qe _ s5 _ H5 y u _ Pz r5 (step y H5 y5 os ŀ);rw [eP,eW,eA,eE,eX] at g6;refine aV g6 λ _ s6 ⟨RQ,H6,I6,⟨ō,MD,e6⟩,P5⟩=>?_;subst e6;have PM:PE X' elt te:=by subst hX;exact he _ _ _ _
   have g7:=PM _ s6 _ H6 _ I6 P5;rw [eP,eW,eA,eE,eX] at g7;refine aV g7 λ uv s7 ⟨v7,H7,I7,r7,RD,m',Nb,w7⟩=>?_;have g8:=(bH) _ s7 _ H7 (.ref s2.heap.objs.size) [v7] (.ref s2.heap.objs.size) [uv] (λ _ H8=>H8=ad H7 s2.heap.objs.size (.lst (ys ++ [v7]))) I7 rfl (.cons r7 .nil) ⟨_,ys,v7,rfl,rfl,RD,Ń,rfl⟩;rw [eP,eW,eA,eX] at g8;refine aV g8 λ _ s8 ⟨_,H8,I8,_,e8⟩=>?_;subst e8;refine⟨m',Nb,i+1,ys ++ [v7],ō,_,MD,I8.ő,T.keep _ _ _ z_ λ b hb o e=>(I8.pin (b,o) (Î _ (Î _ (bp hb e)))).1,λ b hb=>?_,w7⟩;obtain⟨o',e',_⟩:=T.obj _ _ z_ b hb;exact(I8.pin (b,o') (Î _ (Î _ (bp hb e')))).2.1
 have N7:=T.keep _ _ _ Mw λ b hb o e=>old b o (by rw [<- M3];exact Ã _ e)
 exact Α (loop _ rfl rfl rfl) (T.self _ 0 _ _ _ N7 (loop _ rfl rfl rfl))
end
end My
namespace My
open PySem PySem.W L2
section
variable {P:Program}{w:World}{K:Frag}{mg:bC}{base:Heap}{C:Nat->Addr}{CO CR f a1:Addr}{fd d1:FuncData}
abbrev nZ:Stmt:=aG (cw 61) 1
theorem Gn:ae ["self","outcomes"] ["self","outcomes"] (aa nZ):=aR
abbrev ug:Scope:=dJ [("one",.cell),("sum",.globalImplicit),("outcomes",.free)]
abbrev Ej:Scope:=dJ [("other",.local),("stands_to",.globalImplicit),("one",.free)]
theorem Fn:((["one"]:List Str)++(["outcomes"]:List Str)).Nodup:=av
theorem Gb:((["other"]:List Str)++(["one"]:List Str)).Nodup:=av
def xP (K:Frag):Sp:=λ vs H Q _=>∃ v a xs os,vs=[v,.ref a]/\H a=some (.lst xs)/\Μ H xs os/\(∀ o∈os,-99<=o.1/\o.1<=99)/\os.length<=20/\kP H (mZ os) Q
def IK (K:Frag)(CO:Addr):TE:=dW (bL K (ag 1)) 1 [0] (ba 0) (iE (pW K CO) [] E0 (am (ag 1) (am (ag 0) aK)))
def IU (K:Frag)(CO:Addr):TE:=gQ (tH K) (am (IK K CO) aK)
section
variable {cdv:Value}{A:Around}{outer:List Env}{s:Shared}{H:Hp}{E:XK}
theorem wS:qI (aW aB P w K mg base ["self","outcomes"] "Wins.among" (aa nZ) f cdv A outer s H E).ŋ ug [("outcomes",s.heap.objs.size+1)] "one" ["one"] ["outcomes"] [1]:=by
 refine⟨rfl,rfl,λ C=>rfl,av,ä.mpr rfl,λ z c h=>?_,λ z h=>?_,av,λ k z h=>?_,rfl⟩
 ·obtain⟨rfl,rfl⟩:=oV h;rfl
 ·have h:=h;have all:∀ y ∈ [((".0" : Str),NameKind.local),(("one" : Str),.cell),(("sum" : Str),.globalImplicit),(("outcomes" : Str),.cell)],(y.2=.cell\/y.2=.free)->y.1 = "one" \/ y.1 = "outcomes" := av;have e:z = "one" \/ z = "outcomes" := by
   rcases h with h | h
   ·exact all _ (è h) (.inl rfl)
   ·exact all _ (è h) (.inr rfl)
  rcases e with rfl | rfl
  ·exact .inl rfl
  ·exact .inr ⟨_,jp⟩
 ·match k,h with
  | 0,h =>
   have h:=h;cases h;exact⟨1,rfl,rfl,.inr (.inl rfl),by show(aa nZ).names.lookup ("outcomes" : Str)≠some .local;decide +kernel,.inl rfl⟩
  | k+1,h=>simp at h
theorem vJ (hk:X.env.scope.kind=.function):bu (fO X ug cl "one" ((["one"]:List Str)++(["outcomes"]:List Str)) s H C1 fp) Ej [("one",C1+1)] ["other"] ["one"] [0] :=
 qi (L:=[(".0",.local),("other",.local),("stands_to",.globalImplicit),("one",.cell)]) rfl rfl av av av jp rfl av av rfl (.inr (.inl rfl))
  (by show(relabel ug X.env).names.lookup ("one" : Str)≠some .local;exact λ h=>nomatch (show some NameKind.cell=some .local from h)) (.inl rfl)
theorem zG (A1:Df P w K mg base (cY P w) 5 "stands_to" ["one","other"] (pW K CO) a1 d1)(ms:mg "sum" = none)(hr:pj 5 "Wins.among" nZ A s f cdv):Bx (Ž (aW aB P w K mg base ["self","outcomes"] "Wins.among" (aa nZ) f cdv A outer s H E).ŋ (aH nZ) (cH (dW (bL K (ag 1)) 1 [1] (ba 0) (IU K CO)))) :=
 br ⟨dk (yT rfl wS (aS (pv 1)) (λ s H C fp=>cq Fn rfl (.inr rfl)) (λ s H C fp=>by
  exact aj (gK rfl) rfl ms ŷ (ac (cu rfl (vJ rfl) (aS (pv 1)) (λ s H C fp=>cq Gb rfl (.inl rfl)) (λ s H C fp=>by
   exact cZ A1 hr gy (ac (pv 1) (ac (pv 0) ao)))) ao)))⟩
end
theorem Do (F:Ī K "among" "Wins.among" nZ f fd)(A1:Df P w K mg base (cY P w) 5 "stands_to" ["one","other"] (pW K CO) a1 d1)(ms:mg "sum" = none):à P w K mg base aB 6 f fd ["self","outcomes"] (xP K):=by
 refine bO F Gn λ cdv A outer s H vs Q E hr h=>?_;obtain⟨v,a,xs,os,rfl,ha,oc,bd,lo,q⟩:=h;obtain⟨NX⟩:=zG A1 ms hr (f:=f) (cdv:=cdv) (A:=A) (outer:=outer) (s:=s) (H:=H) (E:=E) (P:=P) (w:=w) (base:=base);refine⟨_,NX,?_⟩;obtain⟨lx,oc⟩:=oc;have sz:=Ö;have ot:∀{H':Hp}{i:Nat}{b:Addr},Ext H H'->(hi:i<os.length)->H' b=some (.tup [.int os[i].1,.bl os[i].2])->Ot K H' (.ref b) true:=λ {H' i b} x' hi hb=>by
  have:=bd os[i] (č hi);refine .inl ⟨.tuple [.int os[i].1,.bool os[i].2],.tup hb (.cons (.int _) (.cons (.bl _) .nil)),?_⟩;show true=((decide ((-99:Int)<=os[i].1)&&decide (os[i].1<=99))&&true);rw [Ë this.1,Ë this.2];rfl
 refine⟨_,rfl,a,rfl,⟨_,ç.of ha⟩,λ D hD=>?_⟩;refine bD (λ i ys H'=>Ext H H'/\ys=((mZ os).take i).map .int) ai ⟨.new hD,rfl⟩ (λ i ys H' pv=>ç.of (pv.1 _ _ ha)) ?_ ?_
 ·rintro i x ys H' ex ly Ġ ⟨x',ey⟩ ι ŀ R k;obtain⟨o0,rfl⟩:∃ o0,ι=[o0]:=by
   match ι,ŀ with
   | [o0],_=>exact⟨o0,rfl⟩
  have li:i<os.length:=by rw [<- lx];exact(Å.mp ex).1
  obtain⟨b,rfl,hb⟩:=oc i x _ ex (Á li);refine⟨⟨[some (.ref b)],rfl,rfl⟩,?_⟩;refine⟨_,rfl,a,rfl,⟨_,ç.of (x' _ _ ha)⟩,λ D2 Ŧ=>?_⟩;have nD:D2≠D:=λ e=>by rw [e,Ġ] at Ŧ;cases Ŧ
  refine bD (λ j zs H2=>Ext H' H2/\zs=((os.map λ p=>rG os[i] p).take j).map .int) ai ⟨.new Ŧ,rfl⟩ (λ j zs H2 pv=>ç.of (pv.1 _ _ (x' _ _ ha))) ?_ ?_
  ·rintro j y zs H2 Yl lz L7 ⟨x2,ez⟩ SH VN R2 k2;obtain⟨o0,rfl⟩:∃ o0,SH=[o0]:=by
    match SH,VN with
    | [o0],_=>exact⟨o0,rfl⟩
   have lj:j<os.length:=by rw [<- lx];exact(Å.mp Yl).1
   obtain⟨b2,rfl,Mf⟩:=oc j y _ Yl (Á lj);have Ţ:=x'.trans x2;refine⟨⟨[some (.ref b2)],rfl,rfl⟩,_,rfl,_,rfl,.ref b,.ref b2,true,true,rfl,ot Ţ li (Ţ _ _ hb),ot Ţ lj (Ţ _ _ Mf),(λ z=>by cases z),(λ _ z=>by cases z),λ a1 a2 n1 n2 s1 s2 q1 q2 t1 t2 _ _=>?_⟩
   cases q1;cases q2;rw [Ţ _ _ hb] at t1;rw [Ţ _ _ Mf] at t2;cases t1;cases t2;refine k2 _ H2 L7 ⟨aI _ x2 Ŧ,?_⟩;have es:(os.map λ p=>rG os[i] p)[j]?=some (rG os[i] os[j]):=by
    rw [Ç,Á lj];rfl
   rw [aC es,Ì,<- ez];rfl
  ·rintro zs H2 lz L7 ⟨x2,ez⟩;have l2:(os.map λ p=>rG os[i] p).length=xs.length:=by rw [Â,lx]
   rw [<- l2,Ú] at ez;rw [ez] at L7;refine⟨D2,_,rfl,ç.of L7,?_⟩;refine k _ H2 (x2 _ _ Ġ) ⟨aI _ (x'.trans x2) hD,?_⟩;have es:(mZ os)[i]?=some ((os.map λ p=>rG os[i] p).sum):=by
    unfold mZ;rw [Ç,Á li];rfl
   rw [aC es,Ì,<- ey];rfl
 ·rintro ys H' ly Ġ ⟨x',ey⟩;have l2:(mZ os).length=xs.length:=by unfold mZ;rw [Â,lx]
  rw [<- l2,Ú] at ey;rw [ey] at Ġ;exact q D H' x' hD Ġ
end
section
variable {P:Program}{w:World}{K:Frag}{mg:bC}{base:Heap}{C MC:Nat->Addr}{CU CN f:Addr}{fd:FuncData}(dj:∀ i j,i<4->j<4->MC i=MC j->i=j)
include dj
theorem JE (h:à P w K mg base aB 1 f fd ["self","outcomes"] (vO λ os=>os.map (·.1))):à P w K mg base aB 7 f fd ["self","outcomes"] (jb MC (MC 0)):=by
 refine(h.mono au).imp λ vs H Q E z=>?_;obtain⟨k,v,a,os,hk,e,rfl,go,q⟩:=z;have ek:=dj 0 k au hk e;subst ek;obtain⟨xs,ha,oc⟩:=go.ex;exact⟨v,a,xs,os,rfl,ha,oc,go.ln,q⟩
theorem Kg (h:à P w K mg base aB 1 f fd ["self","outcomes"] (vO λ os=>os.map λ o=>rk (os.map (·.1)) o.1)):à P w K mg base aB 7 f fd ["self","outcomes"] (jb MC (MC 1)):=by
 refine(h.mono au).imp λ vs H Q E z=>?_;obtain⟨k,v,a,os,hk,e,rfl,go,q⟩:=z;have ek:=dj 1 k au hk e;subst ek;obtain⟨xs,ha,oc⟩:=go.ex;exact⟨v,a,xs,os,rfl,ha,oc,go.ln,q⟩
theorem JG (h:à P w K mg base aB 6 f fd ["self","outcomes"] (xP K)):à P w K mg base aB 7 f fd ["self","outcomes"] (jb MC (MC 2)):=by
 refine(h.mono au).imp λ vs H Q E z=>?_;obtain⟨k,v,a,os,hk,e,rfl,go,q⟩:=z;have ek:=dj 2 k au hk e;subst ek;obtain⟨xs,ha,oc⟩:=go.ex;exact⟨v,a,xs,os,rfl,ha,oc,go.bd,go.ln,q⟩
theorem IM (h:à P w K mg base aB 6 f fd ["self","outcomes"] (xT K)):à P w K mg base aB 7 f fd ["self","outcomes"] (jb MC (MC 3)):=by
 refine(h.mono au).imp λ vs H Q E z=>?_;obtain⟨k,v,a,os,hk,e,rfl,go,q⟩:=z;have ek:=dj 3 k au hk e;subst ek;obtain⟨xs,ha,oc⟩:=go.ex;exact⟨v,a,xs,os,rfl,ha,oc,go.bd,go.ln,go.ev rfl,q⟩
theorem J6 (h:à P w K mg base (cY P w) 4 f fd ["self","rule","outcomes"] (xn CU)):à P w K mg base (cY P w) 5 f fd ["self","rule","outcomes"] (kF C MC CU CN (MC 0)):=by
 refine(h.mono au).imp λ vs H Q E z=>?_;obtain⟨k,v,r,t,a,xs,os,hk,e,rfl,ru,l1,l2,ha,oc,q1,q2⟩:=z;have ek:=dj 0 k au hk e;subst ek;exact⟨v,r,a,xs,os,rfl,ha,oc,q1,q2⟩
theorem Kl (h:à P w K mg base (cY P w) 4 f fd ["self","rule","outcomes"] (xn CU)):à P w K mg base (cY P w) 5 f fd ["self","rule","outcomes"] (kF C MC CU CN (MC 1)):=by
 refine(h.mono au).imp λ vs H Q E z=>?_;obtain⟨k,v,r,t,a,xs,os,hk,e,rfl,ru,l1,l2,ha,oc,q1,q2⟩:=z;have ek:=dj 1 k au hk e;subst ek;exact⟨v,r,a,xs,os,rfl,ha,oc,q1,q2⟩
theorem Jb (h:à P w K mg base aB 1 f fd ["self","rule","outcomes"] Ep):à P w K mg base (cY P w) 5 f fd ["self","rule","outcomes"] (kF C MC CU CN (MC 2)):=by
 refine(My.à.toE (h.mono (show 1<=5 by decide))).imp λ vs H Q E z=>?_
 obtain⟨k,v,r,t,a,xs,os,hk,e,rfl,ru,l1,l2,ha,oc,q1,q2⟩:=z;have ek:=dj 2 k au hk e;subst ek;exact⟨v,r,_,rfl,q1 rfl H (.refl _)⟩
theorem Ix (h:à P w K mg base (cY P w) 4 f fd ["self","rule","outcomes"] (Hr C CN)):à P w K mg base (cY P w) 5 f fd ["self","rule","outcomes"] (kF C MC CU CN (MC 3)):=by
 refine(h.mono au).imp λ vs H Q E z=>?_;obtain⟨k,v,r,t,a,xs,os,hk,e,rfl,ru,l1,l2,ha,oc,q1,q2⟩:=z;have ek:=dj 3 k au hk e;subst ek;exact⟨v,r,_,t,rfl,ru,l1,l2,q1,q2⟩
omit dj
end
section
variable {P:Program}{w:World}{K:Frag}{mg:bC}{base:Heap}
abbrev gw:Stmt:=cw 68
abbrev t8 (i:Nat):Stmt:=(aH gw).getD i (.Pass ⟨0,0,0,0⟩)
def dH (K:Frag):Sp:=λ vs H Q _=>∃(s:Addr)(ns:List Int)(p:Addr)(m:Int),vs=[.ref s,.ref p,.int m]/\ç K H s (ns.map V.int)/\ns.length<=63/\s≠p/\Ľ H p/\0<m/\m<1073741824/\∀(r:Int)(H':Hp),0<=r->r<m->Ľ H' p->Kept H H' p->(∀ b,H b=none->H' b=none)->Q (.int r) H'
abbrev yD:List Str:=["_law_script","_law_pen","_law_many","_law_cell","_law_found","_law_number"]
theorem T5:ae yD ["_law_script","_law_pen","_law_many"] (aa gw):=aR
theorem jj (o:HO):Kept H (ad H p o) p:=λ b u h n=>by rw [af n];exact h
theorem jq (h:H p=some u):∀ b,H b=none->ad H p o b=none:=λ b hb=>by
 rw [af (λ e=>by subst e;rw [h] at hb;cases hb)];exact hb
def mT (K:Frag)(i:Int):TE:=aQ (dy K) (ag 1) (tC (.int i))
def oU (i:Int)(te:TE):TS:=cR te (Dp (ag 1) (tC (.int i)) qP)
def Ez (K:Frag):TE:=gQ (λ xs H Q=>∃ i j,xs=[.int i,.int j]/\Q (.int (if j<i then j else i)) H) (am (gQ (λ xs H Q=>∃ p ys,xs=[.ref p]/\(ç K H p ys\/đ K H p ys)/\Q (.int ys.length) H) (am (ag 0) aK)) (am (tC (.int 63)) aK))
def LG (K:Frag):TS:=aO (cR (aQ (dy K) (ag 0) (mT K 0)) (ba 3)) (aO (ye (ag 1) (tC (.int 0)) (tC (.int 1)) (xV K) (KU λ i j=>i+j) qP)
 (aO (oU 2 (aQ (rI (λ _ j=>0<j) λ i j=>.int (i%j)) (aQ (dR λ i j=>.int (i+j)) (aQ (dR λ i j=>.int (i+j)) (aQ (rI Ζ λ i j=>.int (i*j)) (mT K 2) (tC (.int 48271))) (aQ (rI (λ _ j=>0<j) λ i j=>.int (i%j)) (ag 3) (tC (.int 2147483629)))) (mT K 0)) (tC (.int 2147483647))))
 (dA (tB (aQ (dR λ i j=>.bl (decide (j<=i))) (ag 3) (aQ (rI Hg λ i j=>.int (i^j.toNat)) (tC (.int 10)) (tC (.int 18))))) (oU 1 (ag 3)) bV)))
def Cs (K:Frag):TS:=dA (nI (tB (aQ nA (mT K 1) (tC (.int 0)))) (tB (aQ (dR λ i j=>.bl (decide (i<j))) (mT K 0) (Ez K)))) (LG K) bV
def Ft (K:Frag):TS:=dA (tB (aQ (dR λ i j=>.bl (decide (i>j))) (mT K 1) (tC (.int 0)))) (aO (cR (aQ (rI (λ _ j=>0<j) λ i j=>.int (i%j)) (mT K 1) (ag 2)) (ba 4)) (aO (oU 1 (aQ (rI kO λ i j=>.int (i/j)) (mT K 1) (ag 2))) (cH (ag 4)))) bV
def Gd (K:Frag):TS:=oU 2 (aQ (rI (λ _ j=>0<j) λ i j=>.int (i%j)) (aQ (dR λ i j=>.int (i+j)) (aQ (rI Ζ λ i j=>.int (i*j)) (mT K 2) (tC (.int 69621))) (tC (.int 1013904223))) (tC (.int 2147483647)))
def Fq (K:Frag):TS:=cR (aQ (rI (λ _ j=>0<j) λ i j=>.int (i%j)) (aQ (rI Ζ λ i j=>.int (i*j)) (mT K 2) (mT K 2)) (tC (.int 2147483629))) (ba 5)
def Bn (K:Frag):TS:=cH (aQ (rI (λ _ j=>0<j) λ i j=>.int (i%j)) (aQ (rI kO λ i j=>.int (i/j)) (aQ (rI (λ _ j=>0<j) λ i j=>.int (i%j)) (aQ (rI Ζ λ i j=>.int (i*j)) (aQ (dR λ i j=>.int (i+j)) (ag 5) (aQ (rI kO λ i j=>.int (i/j)) (mT K 2) (tC (.int 16)))) (aQ (dR λ i j=>.int (i+j)) (ag 5) (tC (.int 3)))) (tC (.int 2147483587))) (tC (.int 7))) (ag 2))
def FY (K:Frag):TS:=aO (Cs K) (aO (Ft K) (aO (Gd K) (aO (Fq K) (Bn K))))
variable {f:Addr}{cdv:Value}{A:Around}{outer:List Env}{s:Shared}{H:Hp}{E:XK}
theorem Kf (ml:mg "len" = none)(mm:mg "min" = none):Bx (PS (aW aB P w K mg base yD "_law_take" (aa gw) f cdv A outer s H E).ŋ (t8 0) (Cs K)):=by
 have nd:=T5.nd;exact kj ⟨PW.pt (gv (ar cj (cS fS (pv 1) aF) aF (ax _)) (fh (ar nX (cS fS (pv 1) aF) (aj (rM rfl) rfl mm PyProof.Rows.boot_min (ac (aj az rfl ml ê (ac (pv 0) ao)) (ac aF ao))) (ax _))))⟩
  (dq (bq nd rfl (.inl rfl) ⟨cS fS (pv 0) (cS fS (pv 1) aF)⟩) (dq ⟨vE (pv 1) aF vf aF Db fF⟩
  (dq ⟨gB (aE c6 (aE bw (aE bw (aE dY (cS fS (pv 1) aF) aF) (aE c6 (pv 3) aF)) (cS fS (pv 1) aF)) aF) (jX (pv 1) aF fF)⟩
  (br ⟨be (ar yv (pv 3) (aE zh aF aF) (ax _)) (aX (gB (pv 3) (jX (pv 1) aF fF))) f6⟩)))) fV
theorem JS:Bx (PS (aW aB P w K mg base yD "_law_take" (aa gw) f cdv A outer s H E).ŋ (t8 1) (Ft K)):=by
 have nd:=T5.nd;exact kj ⟨ar f9 (cS fS (pv 1) aF) aF (ax _)⟩ (dq (bq nd rfl (.inl rfl) ⟨aE c6 (cS fS (pv 1) aF) (pv 2)⟩)
  (dq ⟨gB (aE fY (cS fS (pv 1) aF) (pv 2)) (jX (pv 1) aF fF)⟩ (br ⟨dk (pv 4)⟩))) fV
theorem JN:Bx (PS (aW aB P w K mg base yD "_law_take" (aa gw) f cdv A outer s H E).ŋ (t8 2) (Gd K)) :=
 ⟨gB (aE c6 (aE bw (aE dY (cS fS (pv 1) aF) aF) aF) aF) (jX (pv 1) aF fF)⟩
theorem JD:Bx (PS (aW aB P w K mg base yD "_law_take" (aa gw) f cdv A outer s H E).ŋ (t8 3) (Fq K)) :=
 bq T5.nd rfl (.inl rfl) ⟨aE c6 (aE dY (cS fS (pv 1) aF) (cS fS (pv 1) aF)) aF⟩
theorem JW:Bx (PS (aW aB P w K mg base yD "_law_take" (aa gw) f cdv A outer s H E).ŋ (t8 4) (Bn K)) :=
 ⟨dk (aE c6 (aE fY (aE c6 (aE dY (aE bw (pv 5) (aE fY (cS fS (pv 1) aF) aF)) (aE bw (pv 5) aF)) aF) aF) (pv 2))⟩
theorem BH (ml:mg "len" = none)(mm:mg "min" = none):Bx (Ž (aW aB P w K mg base yD "_law_take" (aa gw) f cdv A outer s H E).ŋ (aH gw) (FY K)) :=
 dq (Kf ml mm) (dq JS (dq JN (dq JD (br JW))))
end
section
variable {P:Program}{w:World}{K:Frag}{mg:bC}{base:Heap}{H:Hp}{D:bX}
theorem fZ (k:Nat)(h1:σ[1]?=some (some (.ref p)))(hp:H p=some (.lst xs))(hv:xs[k]?=some v)(q:Q v H):mT K (k:Nat) σ H Q:=⟨_,h1,p,_,_,_,rfl,rfl,ç.of hp,dh hv,q⟩
theorem CD (h0:0<=c)(h1:c<2147483647)(y:Int):Ζ c y:=.inl ⟨Int.lt_of_lt_of_le au h0,Int.lt_trans h1 au⟩
theorem jl (k:Nat)(h1:σ[1]?=some (some (.ref p)))(hp:H p=some (.lst xs))(hk:k<xs.length)(ht:∀ R:VK,R v H->te σ H R)(nx:D.nx σ (ad H p (.lst (xs.set k v)))):oU (k:Nat) te D σ H:=by
 refine ht _ ⟨_,h1,p,xs,_,k,rfl,rfl,hp,?_,nx⟩;unfold xX;rw [Ø ai,Ø ai,Ģ]
theorem yP {ns:List Int}(hs:ç K H sA (ns.map V.int))(Oc:ns.length<=63)(bx:Ľ H p)(nx:∀ o3 H',Ľ H' p->Kept H H' p->(∀ b,H b=none->H' b=none)->D.nx [some (.ref sA),some (.ref p),o2,o3,o4,o5] H') :
  Cs K D [some (.ref sA),some (.ref p),o2,o3,o4,o5] H:=by
 obtain⟨a,b,c,hp,a0,b0,c0,c1⟩:=id bx.ex;refine fZ 1 rfl hp rfl ⟨rfl,_,rfl,?_⟩;by_cases eb:b=0
 rotate_left
 ·rw [È (λ z=>eb (V.int.inj z))];exact bZ (bZ (nx _ H bx (Kept.refl _ _) λ _ h=>h))
 rw [Ë (by rw [eb])]
 refine cy (fZ 0 rfl hp rfl ⟨_,rfl,sA,_,rfl,.inl hs,_,_,rfl,_,_,rfl,rfl,_,rfl,?_⟩);refine jP (λ cc=>?_) (λ cc=>nx _ H bx (Kept.refl _ _) λ _ h=>h);have cl:a<ns.length:=by
  have:=Ĉ cc;rw [Â] at this;split at this <;> omega
 have ha:a.toNat<ns.length:=ai;have ea:a=((a.toNat:Nat):Int):=ai;have at1:rJ (ns.map V.int) a=some (.int ns[a.toNat]):=by
  have e:=dh (xs:=ns.map V.int) (j:=a.toNat) (v:=.int ns[a.toNat]) (by rw [Ç,Á ha];rfl)
  rwa [<- ea] at e
 refine⟨_,rfl,fZ 0 rfl hp rfl ⟨sA,_,_,_,rfl,rfl,hs,at1,?_⟩⟩;generalize ns[a.toNat]=cell;refine⟨_,rfl,p,_,0,_,rfl,rfl,ç.of hp,rfl,a,1,rfl,rfl,p,_,_,0,rfl,rfl,hp,rfl,?_⟩;have f1:ad H p (.lst [.int (a+1),.int b,.int c]) p=some (.lst [.int (a+1),.int b,.int c]):=aM;show aO _ _ D _ (ad H p (.lst [.int (a+1),.int b,.int c]));refine jl (σ:=[some (.ref sA),some (.ref p),o2,some (.int cell),o4,o5]) (te:=aQ (rI (λ _ j=>0<j) λ i j=>.int (i%j)) (aQ (dR λ i j=>.int (i+j)) (aQ (dR λ i j=>.int (i+j)) (aQ (rI Ζ λ i j=>.int (i*j)) (mT K 2) (tC (.int 48271))) (aQ (rI (λ _ j=>0<j) λ i j=>.int (i%j)) (ag 3) (tC (.int 2147483629)))) (mT K 0)) (tC (.int 2147483647))) (v:=.int ((c*48271+cell%2147483629+(a+1))%2147483647)) 2 rfl f1 (by show 2<3;decide) (λ R r=>fZ 2 rfl f1 rfl ⟨_,_,rfl,rfl,CD c0 c1 _,_,rfl,_,_,rfl,rfl,(by show(0:Int)<2147483629;decide),_,_,rfl,rfl,fZ 0 rfl f1 rfl ⟨_,_,rfl,rfl,_,_,rfl,rfl,(by show(0:Int)<2147483647;decide),r⟩⟩) ?_
 rw [fQ];have m0:0<=(c*48271+cell%2147483629+(a+1))%2147483647:=Κ _ au;have m1:(c*48271+cell%2147483629+(a+1))%2147483647<2147483647:=ł _ au;generalize (c*48271+cell%2147483629+(a+1))%2147483647=c' at m0 m1 ⊢;rw [show([V.int (a+1),.int b,.int c].set 2 (.int c'))=[.int (a+1),.int b,.int c'] from rfl];have f2:ad H p (.lst [.int (a+1),.int b,.int c']) p=some (.lst [.int (a+1),.int b,.int c']):=aM;refine⟨_,rfl,10,18,rfl,rfl,⟨au,au,au⟩,_,_,rfl,rfl,_,rfl,?_⟩;refine jP (λ c2=>?_) (λ c2=>?_)
 ·have big:=Ĉ c2;have aa1:(0:Int)<=(10:Int)^(18:Int).toNat:=au;refine jl 1 rfl f2 (by show 1<3;decide) (λ R r=>⟨_,rfl,r⟩) ?_
  rw [fQ];exact nx _ _ ⟨_,_,_,aM,ai,ai,m0,m1⟩ (jj _) (jq hp)
 ·exact nx _ _ ⟨_,_,_,f2,ai,b0,m0,m1⟩ (jj _) (jq hp)
theorem wK (F:Ī K "_law_take" "_law_take" gw f fd)(ml:mg "len" = none)(mm:mg "min" = none):à P w K mg base aB 1 f fd ["_law_script","_law_pen","_law_many"] (dH K):=by
 refine bO F T5 λ cdv A outer s H vs Q E hr h=>?_;obtain⟨sA,ns,p,m,rfl,hs,Oc,ne,bx0,m0,m1,q0⟩:=h;obtain⟨NX⟩:=BH ml mm (f:=f) (cdv:=cdv) (A:=A) (outer:=outer) (s:=s) (H:=H) (E:=E) (P:=P) (w:=w) (base:=base);refine⟨_,NX,?_⟩;refine yP (D:=⟨_,Q,_,_⟩) hs Oc bx0 λ o3 H1 bx k1 n1=>?_;have q:∀(r:Int)(H':Hp),0<=r->r<m->Ľ H' p->Kept H1 H' p->(∀ b,H1 b=none->H' b=none)->Q (.int r) H':=λ r H' a b c d e=>q0 r H' a b c (k1.trans d) λ b h=>e b (n1 b h);obtain⟨a,b,c,hp,a0,b0,c0,c1⟩:=id bx.ex;refine fZ 1 rfl hp rfl ⟨_,_,rfl,rfl,_,rfl,?_⟩;refine jP (λ cc=>?_) (λ cc=>?_)
 ·have b1:0<b:=Ĉ cc;refine aY (te:=aQ (rI (λ _ j=>0<j) λ i j=>.int (i%j)) (mT K 1) (ag 2)) (i:=4) (D:=⟨_,Q,_,_⟩) (fZ 1 rfl hp rfl ⟨_,rfl,_,_,rfl,rfl,m0,?_⟩);refine jl (D:=⟨_,Q,_,_⟩) (v:=.int (b/m)) 1 rfl hp (by show 1<3;decide) (λ R r=>fZ 1 rfl hp rfl ⟨_,rfl,_,_,rfl,rfl,⟨m0,m1⟩,r⟩) ?_
  exact⟨_,rfl,q _ _ (Κ _ ai) (ł _ m0) ⟨_,_,_,aM,a0,Int.ediv_nonneg b0 ai,c0,c1⟩ (jj _) (jq hp)⟩
 ·refine jl (σ:=[some (.ref sA),some (.ref p),some (.int m),o3,none,none]) (te:=aQ (rI (λ _ j=>0<j) λ i j=>.int (i%j)) (aQ (dR λ i j=>.int (i+j)) (aQ (rI Ζ λ i j=>.int (i*j)) (mT K 2) (tC (.int 69621))) (tC (.int 1013904223))) (tC (.int 2147483647))) (D:=⟨_,Q,_,_⟩) (v:=.int ((c*69621+1013904223)%2147483647)) 2 rfl hp (by show 2<3;decide) (λ R r=>fZ 2 rfl hp rfl ⟨_,_,rfl,rfl,CD c0 c1 _,_,_,rfl,rfl,_,_,rfl,rfl,(by show(0:Int)<2147483647;decide),r⟩) ?_
  have e0:0<=(c*69621+1013904223)%2147483647:=Κ _ au;have e1:(c*69621+1013904223)%2147483647<2147483647:=ł _ au;generalize (c*69621+1013904223)%2147483647=c' at e0 e1 ⊢;have f2:ad H1 p (.lst [.int a,.int b,.int c']) p=some (.lst [.int a,.int b,.int c']):=aM;have RM:Ľ (ad H1 p (.lst [.int a,.int b,.int c'])) p:=⟨_,_,_,f2,a0,b0,e0,e1⟩;have q2:=λ r h0 h1=>q r (ad H1 p (.lst [.int a,.int b,.int c'])) h0 h1 RM (jj _) (jq hp);show aO _ _ _ _ (ad H1 p (.lst [.int a,.int b,.int c']));generalize ad H1 p (.lst [.int a,.int b,.int c'])=H2 at f2 RM q2 ⊢;refine aY (te:=aQ (rI (λ _ j=>0<j) λ i j=>.int (i%j)) (aQ (rI Ζ λ i j=>.int (i*j)) (mT K 2) (mT K 2)) (tC (.int 2147483629))) (i:=5) (D:=⟨_,Q,_,_⟩) (fZ 2 rfl f2 rfl (fZ 2 rfl f2 rfl ⟨_,_,rfl,rfl,CD e0 e1 _,_,_,rfl,rfl,(by show(0:Int)<2147483629;decide),?_⟩))
  have n0:0<=c'*c'%2147483629:=Κ _ au;have n1:c'*c'%2147483629<2147483629:=ł _ au;show Bn K _ [some (.ref sA),some (.ref p),some (.int m),o3,none,some (.int (c'*c'%2147483629))] H2;generalize c'*c'%2147483629=n at n0 n1 ⊢;have g0:0<=c'/16:=Int.ediv_nonneg e0 au;have g1:c'/16<2147483647:=Int.lt_of_le_of_lt (Int.ediv_le_self _ e0) e1;have cm:Ζ (n+c'/16) (n+3):=.inl ⟨ai,ai⟩;refine⟨_,rfl,fZ 2 rfl f2 rfl ⟨_,_,rfl,rfl,⟨(by show(0:Int)<16;decide),(by show(16:Int)<1073741824;decide)⟩,_,_,rfl,rfl,_,rfl,_,_,rfl,rfl,_,_,rfl,rfl,cm,_,_,rfl,rfl,(by show(0:Int)<2147483587;decide),_,_,rfl,rfl,⟨(by show(0:Int)<7;decide),(by show(7:Int)<1073741824;decide)⟩,_,rfl,_,_,rfl,rfl,m0,?_⟩⟩
  exact q2 _ (Κ _ ai) (ł _ m0)
end
structure Sc (K:Frag)(H:Hp)(s p:Addr)(ns:List Int):Prop where
 sq:ç K H s (ns.map V.int)
 Oc:ns.length<=63
 ne:s≠p
 bx:Ľ H p
theorem Sc.kept (c:Sc K H s p ns)(k:Kept H H' p)(b:Ľ H' p):Sc K H' s p ns:=⟨My.ç.kp c.sq k c.ne,c.Oc,c.ne,b⟩
theorem Sc.ext (c:Sc K H s p ns)(x:Ext H H'):Sc K H' s p ns:=c.kept (x.kept p) (c.bx.ext x)
def gk (K:Frag)(te:TE):TE:=iE (dH K) [] E0 (am (ag 0) (am (ag 1) (am te aK)))
theorem bo (c:Sc K H s p ns)(h0:σ[0]?=some (some (.ref s)))(h1:σ[1]?=some (some (.ref p)))(hm:∀ R:VK,R (.int m) H->te σ H R)(m0:0<m)(m1:m<1073741824)(q:∀ r H',0<=r->r<m->Sc K H' s p ns->Kept H H' p->Q (.int r) H'):gk K te σ H Q :=
 ⟨_,h0,_,h1,hm _ ⟨s,ns,p,m,rfl,c.sq,c.Oc,c.ne,c.bx,m0,m1,λ r H' a b d e _=>q r H' a b (c.kept e d) e⟩⟩
def iI (rs:List R0)(n:Nat):PyData:=match rs[n]? with
 | none=>.tuple [.int (n:Nat),.none]
 | some r=>.tuple [.int (n:Nat),r.begin]
theorem Bg (rs:List R0):iI rs 0=(Rl.blocks rs).begin:=by cases rs <;> rfl
section
variable {P:Program}{w:World}{K:Frag}{mg:bC}{base:Heap}{C:Nat->Addr}{CR:Addr}
abbrev Jr:Stmt:=aG (cw 41) 1
def Du (C:Nat->Addr):Sp:=λ vs H Q _=>∃(x:Addr)(n:Nat)(dx:Addr)(fs:List (Str × V))(l:Addr)(ws:List V)(rs:List R0),vs=[.ref x,.int (n:Nat)]/\H x=some (.ins (C 3) dx fs)/\fs.lookup ("rules" : Str)=some (.ref l)/\H l=some (.tup ws)/\ε C H rs ws/\n<=rs.length/\∀ m H',Ext H H'->Ĝ H' (.ref m) (iI rs n)->Q (.ref m) H'
theorem Kh:ae ["self","number"] ["self","number"] (aa Jr):=aR
theorem Gr (Z:KR K C CR)(F:Ī K "state_ahead" "Blocks.state_ahead" Jr f fd)(M:Ms P w K mg base C)(ml:mg "len" = none):à P w K mg base aB 2 f fd ["self","number"] (Du C):=by
 refine bO F Kh λ cdv A outer s H vs Q E hr h=>?_;obtain⟨x,n,dx,fs,l,ws,rs,rfl,hx,Na,hl,al,nl,q⟩:=h;refine⟨_,bU (be (ar cj (pv 1) (aj az rfl ml ê (ac (oW (pv 0) rfl) ao)) (ax _)) (aX (dk (aP (ac (pv 1) (ac hI ao))))) f6)
  (aX (dk (aP (ac (pv 1) (ac (bt (cS ia (oW (pv 0) rfl) (pv 1)) M.begin hr ak) ao))))),?_⟩
 have c:=Z.cls 3 au;have no:=Z.no 3 au "rules" av;refine⟨_,rfl,_,rfl,x,C 3,dx,fs,_,rfl,hx,c,no,Na,l,ws,rfl,.inr (đ.of hl),rfl,_,rfl,?_⟩;have lw:=al.1;by_cases e:n=rs.length
 ·rw [Ë (by rw [<- lw,e])]
  refine cy ⟨_,rfl,cL,λ m hm=>q m _ (.new hm) ?_⟩;have ea:iI rs n=.tuple [.int (n:Nat),.none]:=by unfold iI;rw [y_ ai]
  rw [ea];exact .tup aM (.cons (.int _) (.cons .Ċ .nil))
 ·rw [È (by intro z;injection z with z;omega)]
  have hn:n<rs.length:=ai;have hw:n<ws.length:=ai;have ru:=al.2 n _ _ (Á hn) (Á hw);refine bZ ⟨_,rfl,cG (t:=.one rs[n]) av ru (λ R r=>⟨_,rfl,x,C 3,dx,fs,_,rfl,hx,c,no,Na,_,rfl,l,ws,_,_,rfl,rfl,đ.of hl,dh (Á hw),r⟩) ⟨_,.one rs[n],H,rfl,.refl _,ru,λ b rb=>⟨cL,λ m hm=>q m _ (.new hm) ?_⟩⟩⟩;have ea:iI rs n=.tuple [.int (n:Nat),rs[n].begin]:=by unfold iI;rw [Á hn]
  rw [ea];exact .tup aM (.cons (.int _) (.cons (rb.mono (.new hm)) .nil))
abbrev Ap:Stmt:=aG (cw 41) 0
abbrev LJ:List Str:=["self","rules","size","mark"]
theorem Sz:ae LJ ["self","rules"] (aa Ap):=aR
abbrev D1:Scope:=dJ [("rule",.local)]
theorem uB:bu X D1 [] ["rule"] [] []:=by
 refine⟨rfl,rfl,av,av,av,(λ z c h=>nomatch h),(λ z h=>?_),av,(λ k z h=>by simp at h),rfl⟩
 exfalso;have h':List.lookup z [((".0" : Str),NameKind.local),(("rule" : Str),NameKind.local)]=some .cell\/List.lookup z [((".0" : Str),NameKind.local),(("rule" : Str),NameKind.local)]=some .free:=h;simp only [List.lookup_cons,List.lookup_nil] at h'
 repeat' (split at h')
 all_goals simp at h'
def ko (K:Frag)(C:Nat->Addr)(CT CM:Addr):Sp:=λ vs H Q E=>∃(x:Addr)(v:V)(dx:Addr)(G:Hp),vs=[.ref x,v]/\H x=some (.ins (C 3) dx [])/\Ext G H/\G x=none/\((PV K G v "list" /\ ∀ H',Ext H H'->cQ CT "found" v H' E) \/
 (∃ a xs bs,v=.ref a/\G a=some (.lst xs)/\xs.length<1000/\p5 K C G xs bs/\Ea xs.length bs=false/\∀ H',Ext H H'->cQ CT "found" v H' E) \/
 ∃ a xs rs,v=.ref a/\G a=some (.lst xs)/\ε C G rs xs/\1<=rs.length/\rs.length<=6/\(∀ r∈rs,r.ok)/\(20<(rs.map R0.Ñ).sum->∀ H',Ext H H'->cQ CM "many" (.int (rs.map R0.Ñ).sum) H' E)/\((rs.map R0.Ñ).sum<=20->∀ H',Kept H H' x->OC C H' rs (.ref x)->Q .Ċ H'))
theorem vS (Z:KR K C CR)(al:ε C G rs xs):p5 K C G xs (rs.map λ _=>true):=by
 refine⟨by rw [Â,al.1],λ i x b hx hb=>?_⟩
 have hi:i<rs.length:=by have:=(Å.mp hx).1;rw [al.1];exact this
 rw [Ç,Á hi] at hb;cases hb;have k:=vi (t:=.one rs[i]) Z (al.2 i _ x (Á hi) hx);have e:((Rl.one rs[i]).kind==0||((Rl.one rs[i]).kind==1||(Rl.one rs[i]).kind==2))=true:=by
  cases rs[i] <;> rfl
 rw [e] at k;exact k
theorem wO (h1:1<=n)(h6:n<=6){rs:List R0}:Ea n (rs.map λ _=>true)=true:=by
 unfold Ea;rw [Ë h1,Ë h6,Ng];simp
variable {S g a1 a2 D CT CM fT fM:Addr}{gd d1 d2 eT eM:FuncData}{t:Tok}
def LE (C:Nat->Addr):TE:=cr (qN C) "folk" (λ _=>mE C) E0 (ag 0) aK
def Lq (C:Nat->Addr):TE:=cr (qN C) "told" (λ _=>jU C) E0 (ag 0) aK
theorem CH (Z:KR K C CR)(F:Ī K "__init__" "Blocks.__init__" Ap f fd)(M:Ms P w K mg base C)(MA:bJ P w K mg base aB 2 "state_ahead" ["self","number"] (λ c=>c=C 3) (λ _=>Du C))(B:ĳ K D)(T1:iM K mg D "NoTrials" "found" CT fT eT)(T2:iM K mg D "TooMany" "many" CM fM eM)
  (Cf:fD K S "__init__" g)(G':à P w K mg base aB 1 g gd ["self","size","first_state","mark","parts"] (jE C))(bG:Binds K gd ["self","size","first_state","mark","parts"] [])(mS:mg "Rule" = some (.ref S))
  (A1:Df P w K mg base aB 3 "are_block_rules" ["thing"] (Ed K C) a1 d1)(A2:Df P w K mg base aB 2 "parts_of" ["rules"] (F0 C) a2 d2)(mF:mg "MOST_FOLK" = some (.int 20 t))(ms:mg "sum" = none)(mt:mg "tuple" = none):à P w K mg base (cY P w) 4 f fd ["self","rules"] (ko K C CT CM):=by
 refine gP F Sz λ cdv A outer s H vs Q E hr h=>?_;obtain⟨x,v,dx,G,rfl,hx,xG,nG,h⟩:=h;have nd:=Sz.nd;have ĭ:ă 1 _:=hr.mono au;have Md:ă 2 _:=hr.mono au;refine⟨_,bU (be (cp (bE (cZ A1 hr ak (ac (pv 1) ao)))) (aX (cE B T1.cls (T1.ok P w base) Md T1.bi rfl T1.Nm (pv 1))) f6)
  (bU (gG (i:=2) nd rfl (Or.inl rfl) (aj (gK rfl) rfl ms ŷ (ac (cu (te:=LE C) (g:=ba 0) rfl uB (aS (pv 1)) (λ s H C fp=>by exact cq (i:=0) zX rfl (.inl rfl)) (λ s H C fp=>by exact bt (pv 0) M.Ñ ĭ ak)) ao)))
  (bU (be (ar f9 (pv 2) (bA (v:=.int 20) rfl mF ⟨_,rfl⟩) (ax _)) (aX (cE B T2.cls (T2.ok P w base) Md T2.bi rfl T2.Nm (pv 2))) f6)
  (bU (dG (pv 0) (aN bR rfl mt ù (ac (pv 1) ao)) rfl)
  (bU (gG (i:=3) nd rfl (Or.inl rfl) (aP (ac ay (ac (aN bR rfl mt ù (ac (cu (te:=Lq C) (g:=ba 0) rfl uB (aS (pv 1)) (λ s H C fp=>by exact cq (i:=0) zX rfl (.inl rfl)) (λ s H C fp=>by exact bt (pv 0) M.told ĭ ak)) ao)) ao))))
  (aX (aw (bP Cf G' ĭ rfl mS bG .nil ak (ac (pv 0) (ac (pv 2) (ac (gm (pv 0) MA Md ak (ac aF ao)) (ac (pv 3) (ac (cZ A2 Md ak (ac (pv 1) ao)) ao)))))))))))),?_⟩
 rcases h with⟨nk,q⟩ | ⟨a,xs,bs,rfl,ha,l1,bk,bad,q⟩ | ⟨a,xs,rs,rfl,ha,al,l1,l6,ok,qm,q⟩
 ·refine⟨_,rfl,v,rfl,.inl ⟨nk.ext xG,λ H1 x1=>⟨_,rfl,cy ⟨_,rfl,λ e' de h1 h2 nd=>eJ nd (q H1 x1 e' de h1 h2 nd)⟩⟩⟩⟩
 ·refine⟨_,rfl,_,rfl,.inr ⟨a,xs,bs,rfl,xG _ _ ha,l1,⟨bk.1,λ i x b h1 h2=>(bk.2 i x b h1 h2).ext xG⟩,λ H1 x1=>⟨_,rfl,?_⟩⟩⟩;rw [bad];exact cy ⟨_,rfl,λ e' de h1 h2 nd=>eJ nd (q H1 x1 e' de h1 h2 nd)⟩
 have bk:=vS Z al;have lx:=al.1;refine⟨_,rfl,_,rfl,.inr ⟨a,xs,_,rfl,xG _ _ ha,ai,⟨bk.1,λ i x b h1 h2=>(bk.2 i x b h1 h2).ext xG⟩,λ H1 x1=>⟨_,rfl,?_⟩⟩⟩;rw [<- lx,wO l1 l6];refine bZ ?_;have N5:=xG.trans x1;refine⟨_,rfl,a,rfl,⟨_,ç.of (N5 _ _ ha)⟩,λ D hD=>?_⟩;refine bD (a:=a) (xs:=xs) (λ i ys H'=>Ext H1 H'/\ys=((rs.take i).map R0.Ñ).map V.int) (by rw [Ö];omega) ⟨Ext.new hD,rfl⟩ (λ i ys H' pv=>ç.of ((N5.trans pv.1) _ _ ha)) ?_ ?_
 ·rintro i v ys H' ev ly Ġ ⟨x',rfl⟩ os ŀ R k;obtain⟨o0,rfl⟩:∃ o0,os=[o0]:=by
   match os,ŀ with
   | [o0],_=>exact⟨o0,rfl⟩
  have hi:i<rs.length:=by have:=(Å.mp ev).1;omega
  have er:=Á hi;have ru:=(al.2 i _ v er ev).ext (N5.trans x');refine⟨⟨[some v],rfl,rfl⟩,cG (t:=.one rs[i]) av ru (λ R r=>⟨_,rfl,r⟩) ⟨v,.one rs[i],rfl,ru,k _ H' Ġ ⟨aI _ x' hD,?_⟩⟩⟩;rw [aC er,Ì,Ì];rfl
 rintro ys H2 ly Ġ ⟨x2,rfl⟩;rw [<- lx,Ú] at Ġ;refine⟨D,_,rfl,ç.of Ġ,?_⟩;refine⟨_,rfl,_,_,rfl,rfl,_,rfl,?_⟩;refine jP (λ c=>?_) (λ c=>?_)
 ·exact⟨_,rfl,λ e' de h1 h2 nd=>eJ nd (qm (Ĉ c) H2 (x1.trans x2) e' de h1 h2 nd)⟩
 have Xl:(rs.map R0.Ñ).sum<=20:=by
  have:¬ ((rs.map R0.Ñ).sum>20):=λ z=>c (Ë z);omega
 have Ţ:=x1.trans x2;have R':=xG.trans Ţ;refine⟨_,rfl,a,xs,rfl,.inl ⟨ç.of (R' _ _ ha),λ l hl=>?_⟩⟩;have x3:=Ext.new (o:=.tup xs) hl;have Ur:ad H2 l (.tup xs) l=some (.tup xs):=aM;have PJ:=x3 _ _ (Ţ _ _ hx);have Wh:G l=none:=by
  cases e:G l with
  | none=>rfl
  | some o=>rw [R' _ _ e] at hl;cases hl
 generalize ad H2 l (.tup xs)=H3 at x3 Ur PJ ⊢;have x03:=Ţ.trans x3;refine⟨_,rfl,x,C 3,dx,[],rfl,PJ,Z.cls 3 au,Z.no 3 au _ av,au,?_⟩;have k4:Kept H3 (ad H3 x (.ins (C 3) dx (bK "rules" (.ref l) []))) x:=bj _;have RX:ad H3 x (.ins (C 3) dx (bK "rules" (.ref l) [])) x=some (.ins (C 3) dx [("rules",.ref l)]):=aM;have xl:l≠x:=λ e=>by rw [e,PJ] at Ur;cases Ur
 have Ry:=k4 _ _ Ur xl;generalize ad H3 x (.ins (C 3) dx (bK "rules" (.ref l) []))=H4 at k4 RX Ry ⊢;have XF:Kept H H4 x:=(x03.kept x).trans k4;have TU:=xG.kp nG XF;refine⟨_,rfl,a,rfl,⟨_,ç.of (TU _ _ ha)⟩,λ D2 Ŧ=>?_⟩;refine bD (a:=a) (xs:=xs) (λ i ys H'=>Ext H4 H'/\Ù G ys ((rs.take i).map R0.told)) (by rw [Ö];omega) ⟨Ext.new Ŧ,.nil⟩ (λ i ys H' pv=>ç.of ((TU.trans pv.1) _ _ ha)) ?_ ?_
 ·rintro i v ys H' ev ly Ġ ⟨x',ry⟩ os ŀ R k;obtain⟨o0,rfl⟩:∃ o0,os=[o0]:=by
   match os,ŀ with
   | [o0],_=>exact⟨o0,rfl⟩
  have hi:i<rs.length:=by have:=(Å.mp ev).1;omega
  have er:=Á hi;have Xn:=al.2 i _ v er ev;have xg:=TU.trans x';have ru:=Xn.ext xg;refine⟨⟨[some v],rfl,rfl⟩,cG (t:=.one rs[i]) av ru (λ R r=>⟨_,rfl,r⟩) ⟨v,.one rs[i],G,rfl,xg,Xn,λ b rb=>k b H' Ġ ⟨aI _ x' Ŧ,?_⟩⟩⟩;rw [aC er,Ì];exact ry.append (.cons rb .nil)
 rintro ys H5 ly L7 ⟨x5,ry⟩;rw [<- lx,Ú] at ry;refine⟨D2,ys,rfl,.inl ⟨ç.of L7,λ m hm=>⟨cL,λ k hk=>?_⟩⟩⟩;have x6:=Ext.new (o:=.tup ys) hm;have Rx:ad H5 m (.tup ys) m=some (.tup ys):=aM;generalize ad H5 m (.tup ys)=H6 at x6 Rx hk ⊢;have x7:=Ext.new (o:=.tup [.str "blocks",.ref m]) hk;have XS:ad H6 k (.tup [.str "blocks",.ref m]) k=some (.tup [.str "blocks",.ref m]):=aM;generalize ad H6 k (.tup [.str "blocks",.ref m])=H7 at x7 XS ⊢;have TW:=(x5.trans x6).trans x7;have RT:=TU.trans TW;have VX:=TW _ _ RX;have XR:=TW _ _ Ry;have Ve:Ĝ H7 (.ref k) (Rl.blocks rs).told:=.tup XS (.cons (.str _) (.cons (.tup (x7 _ _ Rx) (Ù.mono RT ry)) .nil));have YT:=al.ext RT;refine⟨_,rfl,_,rfl,_,rfl,x,C 3,dx,_,rfl,rfl,VX,rfl,⟨x,0,dx,_,l,xs,rs,rfl,VX,rfl,XR,YT,ı _,λ b H8 x8 rb=>?_⟩⟩;rw [Bg] at rb;refine⟨_,rfl,_,rfl,a,xs,rs,rfl,(RT.trans x8) _ _ ha,YT.ext x8,l6,ok,λ pr H9 x9 rp=>?_⟩;have R_:=x8.trans x9;have Uh:=R_ _ _ VX;have hl9:=R_ _ _ XR;refine⟨x,_,_,_,_,3,dx,[("rules",.ref l)],rfl,au,Uh,(by show 1<=5;decide),q Xl _ ((XF.trans ((TW.trans R_).kept x)).trans (bj _)) ?_⟩
 have kk:Kept H9 (ad H9 x (.ins (C 3) dx (gh (.int (rs.map R0.Ñ).sum) (.ref b) (.ref k) (.ref pr) [("rules",.ref l)]))) x:=bj _;have TR:=(RT.trans R_).kp nG kk;refine iD aM ((rb.mono x9).kept Uh kk) ((Ve.mono R_).kept Uh kk) (rp.kept Uh kk) (λ n hn=>?_) ⟨l,xs,?_,?_,al.ext TR⟩
 ·have e:n = "rules" := by simpa using hn
  rw [e]
  decide +kernel
 ·rw [dP av];rfl
 ·exact kk _ _ hl9 xl
end
section
variable {P:Program}{w:World}{K:Frag}{mg:bC}{base:Heap}{C:Nat->Addr}{CR:Addr}
abbrev DF:Stmt:=cw 33
abbrev Ih:List Str:=["parts","many","cut"]
theorem So:ae Ih ["parts","many"] (aa DF):=aR
def Da:Sp:=λ vs H Q _=>∃(v:V)(m:Int)(ps:List (List Int)),vs=[v,.int m]/\Ĝ H v (fG ps)/\Sm ps/\∀ l H',Ext H H'->Ĝ H' (.ref l) (fG (i4 m ps))->Q (.ref l) H'
abbrev yd:Scope:=dJ [("part",.local),("tuple",.globalImplicit),("many",.free)]
abbrev FP:Scope:=dJ [("at",.local),("many",.free)]
abbrev Hu:Scope:=dJ [("part",.local),("len",.globalImplicit)]
theorem jB {n z:Str}(h:List.lookup z [(n,a)]=some c):z=n/\c=a:=by
 rw [ó] at h;cases e:z==n with
 | true =>
  rw [e] at h;exact⟨Ě.mp e,(Õ h).symm⟩
 | false =>
  rw [e] at h;cases h
variable {f:Addr}{cdv:Value}{A:Around}{outer:List Env}{s:Shared}{H:Hp}{E:XK}
theorem wx:bu (aW aB P w K mg base Ih "parts_below" (aa DF) f cdv A outer s H E).ŋ yd [("many",s.heap.objs.size+1)] ["part"] ["many"] [1]:=by
 refine⟨rfl,rfl,av,av,av,(λ z c h=>?_),(λ z h=>?_),av,(λ k z h=>?_),rfl⟩
 ·obtain⟨rfl,rfl⟩:=jB h;rfl
 ·have h':List.lookup z [((".0" : Str),NameKind.local),(("part" : Str),NameKind.local),(("tuple" : Str),NameKind.globalImplicit),(("many" : Str),NameKind.cell)]=some .cell\/List.lookup z [((".0" : Str),NameKind.local),(("part" : Str),NameKind.local),(("tuple" : Str),NameKind.globalImplicit),(("many" : Str),NameKind.cell)]=some .free:=h;have e:z = "many" := by
   simp only [List.lookup_cons,List.lookup_nil] at h'
   repeat' (split at h')
   all_goals first | (simp at h';done) | (rename_i e;exact Ě.mp e)
  subst e;exact⟨_,rfl⟩
 ·cases k with
  | zero =>
   cases h;exact⟨1,rfl,rfl,.inr (.inl rfl),(by show(aa DF).names.lookup ("many" : Str)≠some .local;decide +kernel),.inl rfl⟩
  | succ k=>cases h
theorem D5:((["part"]:List Str)++(["many"]:List Str)).Nodup:=av
theorem FO:((["at"]:List Str)++(["many"]:List Str)).Nodup:=av
theorem wM:bu (bI (aW aB P w K mg base Ih "parts_below" (aa DF) f cdv A outer s H E).ŋ yd [("many",s.heap.objs.size+1)] ((["part"]:List Str)++(["many"]:List Str)) s1 H1 C1 fp) FP [("many",s.heap.objs.size+1)] ["at"] ["many"] [1]:=by
 refine⟨rfl,rfl,av,av,av,(λ z c h=>?_),(λ z h=>?_),av,(λ k z h=>?_),rfl⟩
 ·obtain⟨rfl,rfl⟩:=jB h;rfl
 ·have h':List.lookup z [((".0" : Str),NameKind.local),(("at" : Str),NameKind.local),(("many" : Str),NameKind.cell)]=some .cell\/List.lookup z [((".0" : Str),NameKind.local),(("at" : Str),NameKind.local),(("many" : Str),NameKind.cell)]=some .free:=h;have e:z = "many" := by
   simp only [List.lookup_cons,List.lookup_nil] at h'
   repeat' (split at h')
   all_goals first | (simp at h';done) | (rename_i e;exact Ě.mp e)
  subst e;exact⟨_,rfl⟩
 ·cases k with
  | zero =>
   cases h;exact⟨1,rfl,rfl,.inr (.inl rfl),(by intro z;cases z),.inl rfl⟩
  | succ k=>cases h
theorem wN:bu X Hu [] ["part"] [] []:=by
 refine⟨rfl,rfl,av,av,av,(λ z c h=>nomatch h),(λ z h=>?_),av,(λ k z h=>by simp at h),rfl⟩
 exfalso;have h':List.lookup z [((".0" : Str),NameKind.local),(("part" : Str),NameKind.local),(("len" : Str),NameKind.globalImplicit)]=some .cell\/List.lookup z [((".0" : Str),NameKind.local),(("part" : Str),NameKind.local),(("len" : Str),NameKind.globalImplicit)]=some .free:=h;simp only [List.lookup_cons,List.lookup_nil] at h'
 repeat' (split at h')
 all_goals simp at h'
def Bi (K:Frag):List V->Hp->VK->Prop:=λ xs H Q=>∃ p ys,xs=[.ref p]/\((ç K H p ys/\∀ l,H l=none->Q (.ref l) (ad H l (.tup ys)))\/(đ K H p ys/\Q (.ref p) H))
def yr:TT:=tB (aQ (dR λ i j=>.bl (decide (i<j))) (ag 0) (ag 1))
def JK (K:Frag):TE:=gQ (Bi K) (am (jH (Hq K (ag 0)) 1 [1] (ba 0) yr (ag 0)) aK)
def FD (K:Frag):List V->Hp->VK->Prop:=λ xs H Q=>∃ p ys,xs=[.ref p]/\(ç K H p ys\/đ K H p ys)/\Q (.int ys.length) H
def IJ (K:Frag):TT:=tB (aQ (dR λ i j=>.bl (decide (i>j))) (gQ (FD K) (am (ag 0) aK)) (tC (.int 0)))
def KL (m:Int):V->Bool
 | .int i=>decide (i<m)
 | _=>false
def Cv (H:Hp):V->Bool
 | .ref a=>match H a with
  | some (.tup ys)=>decide (0<ys.length)
  | _=>false
 | _=>false
theorem E3 (F:Ī K "parts_below" "parts_below" DF f fd)(mt:mg "tuple" = none)(ml:mg "len" = none):à P w K mg base aB 1 f fd ["parts","many"] Da:=by
 refine bO F So λ cdv A outer s H vs Q E hr h=>?_;obtain⟨v,m,ps,rfl,rv,sm,q⟩:=h;have nd:=So.nd;refine⟨_,bU (nj (iy:=2) (te:=JK K) (g:=ba 0) rfl wx (pS (pv 0)) (λ s H C fp=>by exact cq (i:=0) D5 rfl (.inl rfl))
   (λ s H C fp=>by exact aN bR rfl mt ù (ac (iu (te:=ag 0) (tt:=yr) (g:=ba 0) rfl wM (pS (pv 0)) (λ s H C fp=>by exact cq (i:=0) FO rfl (.inl rfl)) (λ s H C fp=>by exact ar nX (pv 0) (pv 1) (ax _)) (λ s H C fp=>by exact pv 0)) ao)) nd rfl (Or.inl rfl) rfl)
  (aX (dk (aN bR rfl mt ù (ac (iu (te:=ag 0) (tt:=IJ K) (g:=ba 0) rfl wN (aS (pv 2)) (λ s H C fp=>by exact cq (i:=0) KZ rfl (.inl rfl)) (λ s H C fp=>by exact ar f9 (aj az rfl ml ê (ac (pv 0) ao)) aF (ax _)) (λ s H C fp=>by exact pv 0)) ao)))),?_⟩
 obtain⟨p,xs,rfl,hp,rs⟩:=gL rv;have lx:=rs.length;rw [Â] at lx;have ME:=sm.1;refine⟨_,rfl,p,rfl,⟨_,đ.of hp⟩,λ D hD=>?_⟩;refine qM (a:=p) (xs:=xs) (λ i ys H'=>Ext H H'/\Ù (wo H' D) ys (((ps.take i).map (·.filter λ x=>decide (x<m))).map qj)) (by rw [Ö];omega) ⟨Ext.new hD,.nil⟩ (λ i ys H' pv=>đ.of (pv.1 _ _ hp)) ?_ ?_
 ·rintro i x ys H' ex ly Ġ ⟨x',ry⟩ os ŀ R k;obtain⟨o0,rfl⟩:∃ o0,os=[o0]:=by
   match os,ŀ with
   | [o0],_=>exact⟨o0,rfl⟩
  have hi:i<ps.length:=by have:=(Å.mp ex).1;omega
  have ep:=Á hi;obtain⟨c,rfl,hc⟩:=jY rs ex ep;have MF:=x' _ _ hc;have pl:=sm.2 _ (č hi);refine⟨⟨[some (.ref c)],rfl,rfl⟩,_,rfl,c,rfl,⟨_,đ.of MF⟩,λ D2 Ŧ=>?_⟩;refine Kt (xs:=ps[i].map V.int) (J:=DC K c) (KL m) (by rw [Â,Ö];omega) Ŧ (λ j H1 x1 lt=>⟨_,_,đ.of (x1 _ _ MF),Á lt⟩) (λ H1 x1=>⟨_,đ.of (x1 _ _ MF),Ê _⟩)
   (λ j H1 y WU x1 ⟨e,hy⟩=>⟨e,hy _ (đ.of (x1 _ _ MF))⟩) (λ j y H1 hy x1 R r=>?_) (λ H4 x4 h4=>?_)
  ·rw [Ç] at hy;obtain⟨n,_,rfl⟩:=Ð.mp hy;exact⟨_,rfl,_,rfl,_,_,rfl,rfl,_,rfl,r H1 (Ext.refl _)⟩
  rw [fj (λ n=>decide (n<m)) (KL m) (λ _=>rfl)] at h4;refine⟨D2,_,rfl,.inl ⟨ç.of h4,λ t ht=>?_⟩⟩;have x5:=Ext.new (o:=.tup ((ps[i].filter λ n=>decide (n<m)).map V.int)) ht;have UQ:=x4.trans x5;have tD:t≠D:=λ e=>by rw [e,x4 _ _ Ġ] at ht;cases ht
  refine k _ _ (UQ _ _ Ġ) ⟨aI _ (x'.trans UQ) hD,?_⟩;rw [aC ep,Ì,Ì];exact Ù.mono yq ((Ù.mono (bn UQ D) ry).append (.cons (.tup (aJ tD aM) (c8 _ _)) .nil))
 rintro ys H2 ly Ġ ⟨x2,ry⟩;rw [lx,Ú] at ry;have U9:=Ù.mono (ah H2 D) ry;refine⟨_,rfl,D,rfl,⟨_,ç.of Ġ⟩,λ D3 hD3=>?_⟩;have pp:∀(i:Nat) y qq,ys[i]?=some y->(ps.map λ p:List Int=>p.filter λ x=>decide (x<m))[i]?=some qq->∃ a,y=.ref a/\H2 a=some (.tup (qq.map V.int)):=λ i y qq hy hq=>jY U9 hy hq;have ly2:=U9.length;rw [Â,Â] at ly2;refine Kt (xs:=ys) (J:=nt K D) (Cv H2) (by rw [Ö];omega) hD3 (λ j H1 x1 lt=>⟨_,_,ç.of (x1 _ _ Ġ),Á lt⟩) (λ H1 x1=>⟨_,ç.of (x1 _ _ Ġ),Ê _⟩)
  (λ j H1 y WU x1 ⟨e,hy⟩=>⟨e,hy _ (ç.of (x1 _ _ Ġ))⟩) (λ j y H1 hy x1 R r=>?_) (λ H4 x4 h4=>?_)
 ·have hj:j<(ps.map λ p:List Int=>p.filter λ x=>decide (x<m)).length:=by have:=(Å.mp hy).1;rw [Â];omega
  obtain⟨a,rfl,ha⟩:=pp j y _ hy (Á hj);have hv:Cv H2 (.ref a)=decide (0<((ps.map λ p:List Int=>p.filter λ x=>decide (x<m))[j].map V.int).length):=by
   show(match H2 a with | some (.tup ys)=>decide (0<ys.length) | _=>false)=_
   rw [ha]
  refine⟨_,rfl,a,_,rfl,.inr (đ.of (x1 _ _ ha)),_,_,rfl,rfl,_,rfl,?_⟩;have:=r H1 (Ext.refl _);rw [hv] at this;have e2:decide ((((ps.map λ p:List Int=>p.filter λ x=>decide (x<m))[j].map V.int).length:Int)>0)=decide (0<((ps.map λ p:List Int=>p.filter λ x=>decide (x<m))[j].map V.int).length):=NA.mpr ai;rw [e2];exact this
 refine⟨D3,_,rfl,.inl ⟨ç.of h4,λ l hl=>?_⟩⟩;have x5:=Ext.new (o:=.tup (ys.filter (Cv H2))) hl;refine q l _ (x2.trans (x4.trans x5)) (.tup aM ?_);refine Ù.filter (Ù.mono (x4.trans x5) U9) λ i y qq hy hq=>?_;obtain⟨a,rfl,ha⟩:=pp i y qq hy hq;show(match H2 a with | some (.tup ys)=>decide (0<ys.length) | _=>false)=_
 rw [ha];show decide (0<(qq.map V.int).length)=_;rw [Â]
abbrev A8:Stmt:=aG (cw 42) 0
abbrev Lx:List Str:=["self","rule","many"]
theorem Sx:ae Lx ["self","rule","many"] (aa A8):=aR
def n4 (C:Nat->Addr)(CN:Addr):Sp:=λ vs H Q E=>∃(x:Addr)(v u:V)(t:Rl)(d:PyData)(dx:Addr)(G:Hp),vs=[.ref x,v,u]/\H x=some (.ins (C 4) dx [])/\Ext G H/\G x=none/\Ru C G t v/\Sm t.parts/\Ĝ G u d/\(lP 0 t.Ñ d=false->cQ CN "found" u H E)/\∀ m,d=.int m->0<=m->m<=t.Ñ->∀ H',Kept H H' x->Ru C H' (.first t m) (.ref x)->Q .Ċ H'
variable {S g a1 a2 CN:Addr}{gd d1 d2:FuncData}
theorem sB (ru:Ru C G t v):(t.kind=4->∃ a dx fs d,v=.ref a/\G a=some (.ins (C 4) dx fs)/\fs.lookup ("dealer" : Str)=some d/\PU C G t.inner d)/\(t.kind≠4->PU C G t.inner v):=by
 cases t with
 | one r=>exact⟨λ e=>by have:=r.Ĥ;have e':r.kind=4:=e;omega,λ _=>ru⟩
 | blocks rs=>exact⟨λ e=>(by cases e),λ _=>ru⟩
 | first t m =>
  refine⟨λ _=>?_,λ e=>absurd rfl e⟩;obtain⟨a,dx,fs,rfl,ha,_,_,_,_,_,d,hd,rn⟩:=ru.ex;exact⟨a,dx,fs,d,rfl,ha,hd,rn⟩
theorem Dg (N:sP K)(Z:KR K C CR)(F:Ī K "__init__" "First.__init__" A8 f fd)(M:Ms P w K mg base C)(Cf:fD K S "__init__" g)(G':à P w K mg base aB 1 g gd ["self","size","first_state","mark","parts"] (jE C))(bG:Binds K gd ["self","size","first_state","mark","parts"] [])(mS:mg "Rule" = some (.ref S))
  (A1:Df P w K mg base (cY P w) 3 "need_number" ["thing","low","high"] (ui CN) a1 d1)(A2:Df P w K mg base aB 1 "parts_below" ["parts","many"] Da a2 d2)(m4:mg "First" = some (.ref (C 4)))(mi:mg "isinstance" = none):à P w K mg base (cY P w) 4 f fd ["self","rule","many"] (n4 C CN):=by
 refine gP F Sx λ cdv A outer s H vs Q E hr h=>?_;obtain⟨x,v,u,t,d,dx,G,rfl,hx,xG,nG,ru,sm,rd,qe,q⟩:=h;have nd:=Sx.nd;have ĭ:ă 1 _:=hr.mono au;refine⟨_,bU (aw (cZ A1 hr dE (ac (pv 2) (ac aF (ac (bt (pv 1) M.Ñ ĭ ak) ao)))))
  (bU (dG (pv 0) (oQ (bE (aj (nJ N) rfl mi Û (ac (pv 1) (ac (bA (v:=.ref (C 4)) rfl m4 rfl) ao)))) (oW (pv 1) rfl) (pv 1)) rfl)
  (aX (aw (bP Cf G' ĭ rfl mS bG .nil ak (ac (pv 0) (ac (pv 2) (ac (bt (pv 1) M.begin ĭ ak) (ac (aP (ac ay (ac (bt (pv 1) M.told ĭ ak) (ac (pv 2) ao)))) (ac (cZ A2 ĭ ak (ac (oW (pv 1) rfl) (ac (pv 2) ao))) ao))))))))),?_⟩
 have U_:=ru.ext xG;refine⟨_,rfl,cG av U_ (λ R r=>⟨_,rfl,r⟩) ⟨v,t,rfl,U_,u,d,0,t.Ñ,rfl,rd.mono xG,λ h1=>?_,λ h1=>qe h1⟩⟩;obtain⟨m,rfl,m0,m1⟩:=fN h1;cases rd;have fin:∀ dv,PU C G t.inner dv->ES K (ag 0) (tC dv) "dealer" ⟨λ ĝ H'=>f7 (iE (jE C) [] E0 (am (ag 0) (am (ag 2) (am (cr (qN C) "begin" (λ _=>jo C) E0 (ag 1) aK) (am (dO (am (tC (.str "first")) (am (cr (qN C) "told" (λ _=>jU C) E0 (ag 1) aK) (am (ag 2) aK)))) (am (iE Da [] E0 (am (vd K (ag 1) "parts") (am (ag 2) aK))) aK)))))) ⟨λ _ H'=>Q .Ċ H',Q,λ _ _=>False,λ _ _=>False⟩ ĝ H',Q,λ _ _=>False,λ _ _=>False⟩ [some (.ref x),some v,some (.int m)] H:=λ dv rn=>by
  refine⟨_,rfl,x,C 4,dx,[],rfl,hx,Z.cls 4 au,Z.no 4 au _ av,au,?_⟩;have k1:Kept H (ad H x (.ins (C 4) dx (bK "dealer" dv []))) x:=bj _;have ML:ad H x (.ins (C 4) dx (bK "dealer" dv [])) x=some (.ins (C 4) dx [("dealer",dv)]):=aM;generalize ad H x (.ins (C 4) dx (bK "dealer" dv []))=H1 at k1 ML ⊢;have N5:=xG.kp nG k1;have Xm:=ru.ext N5;obtain⟨a,da,fa,rfl,ha,_,_,_,⟨pp,hpp,rpp⟩,_⟩:=ru.ob.ex;refine⟨_,rfl,_,rfl,cG av Xm (λ R r=>⟨_,rfl,r⟩) ⟨_,t,G,rfl,N5,ru,λ b rb=>?_⟩⟩;refine cG av Xm (λ R r=>⟨_,rfl,r⟩) ⟨_,t,G,rfl,N5,ru,λ c rc=>⟨_,rfl,cL,λ k hk=>?_⟩⟩;have x2:=Ext.new (o:=.tup [.str "first",c,.int m]) hk;have XT:ad H1 k (.tup [.str "first",c,.int m]) k=some (.tup [.str "first",c,.int m]):=aM;generalize ad H1 k (.tup [.str "first",c,.int m])=H2 at x2 XT ⊢;have R':=N5.trans x2;refine⟨_,rfl,a,C t.kind,da,fa,_,rfl,R' _ _ ha,Z.cls _ t.Ĥ,Z.no _ t.Ĥ _ av,hpp,_,rfl,pp,m,t.parts,rfl,rpp.mono R',sm,λ l H3 x3 rl=>?_⟩;have OI:=x2.trans x3;have TV:=N5.trans OI;have PJ:=OI _ _ ML;have hk3:=x3 _ _ XT;refine⟨x,_,_,_,_,4,dx,[("dealer",dv)],rfl,au,PJ,(by show 1<=5;decide),q m rfl m0 m1 _ ((k1.trans (OI.kept x)).trans (bj _)) ?_⟩
  have kk:Kept H3 (ad H3 x (.ins (C 4) dx (gh (.int m) b (.ref k) (.ref l) [("dealer",dv)]))) x:=bj _;have TR:=TV.kp nG kk;refine iD aM (rb.mono TR) ((Ĝ.tup hk3 (.cons (.str _) (.cons (rc.mono TV) (.cons (.int _) .nil)))).kept PJ kk) (rl.kept PJ kk) (λ n hn=>?_) ⟨dv,?_,rn.ext TR⟩
  ·have e:n = "dealer" := by simpa using hn
   rw [e]
   decide +kernel
  ·rw [dP av];rfl
 have dl:=sB ru;refine⟨_,rfl,_,_,_,_,rfl,U_.kd Z,Z.kk t.kind 4 t.Ĥ au,_,rfl,?_⟩;by_cases e4:t.kind=4
 ·rw [show(t.kind==4)=true from by simpa using e4]
  obtain⟨a,da,fa,dv,rfl,ha,hd,rn⟩:=dl.1 e4;exact cy ⟨_,rfl,a,C 4,da,fa,_,rfl,xG _ _ ha,Z.cls 4 au,Z.no 4 au _ av,hd,fin dv rn⟩
 ·rw [show(t.kind==4)=false from by simpa using e4]
  exact bZ ⟨_,rfl,fin v (dl.2 e4)⟩
end
def tT (H H':Hp):Prop:=∀ b o,H b=some o->(∀ xs,o ≠ .lst xs)->H' b=some o
theorem K2 (o:HO)(h:H D=some (.lst ys)):tT H (ad H D o):=λ b u e n=>by
 rw [af (λ z=>by rw [z,h] at e;cases e;exact n ys rfl)]
 exact e
mutual
def cz:PyData->Bool
 | .list _=>false
 | .dict _=>false
 | .tuple xs=>į xs
 | _=>true
def į:List PyData->Bool
 | []=>true
 | x::xs=>cz x && į xs
end
theorem gJ:∀{ds:List PyData},(∀ d∈ds,cz d=true)->į ds=true
 | [],_=>by simp [į]
 | x::xs,h=>by
  simp only [į,h x (List.mem_cons_self ..),gJ λ d hd=>h d (List.mem_cons_of_mem _ hd),Bool.and_self]
mutual
theorem Ĝ.Ğ (s:tT G G'):∀{v:V}{d:PyData},cz d=true->Ĝ G v d->Ĝ G' v d
 | _,_,_,.Ċ=>.Ċ
 | _,_,_,.bl b=>.bl b
 | _,_,_,.int i=>.int i
 | _,_,_,.str x=>.str x
 | _,_,h,.lst e r=>by simp [cz] at h
 | _,_,h,.tup e r=>.tup (s _ _ e (λ _ z=>by cases z)) (Ù.Ğ s (by simpa only [cz] using h) r)
 | _,_,h,.Ε e=>by simp [cz] at h
 | _,_,h,.MM e r=>by simp [cz] at h
theorem Ù.Ğ (s:tT G G'):∀{vs:List V}{ds:List PyData},į ds=true->Ù G vs ds->Ù G' vs ds
 | _,_,_,.nil=>.nil
 | _,_,h,.cons r t=>by
  simp only [į,Bool.and_eq_true] at h;exact .cons (Ĝ.Ğ s h.1 r) (Ù.Ğ s h.2 t)
end
theorem R0.nl (r:R0):cz r.told=true:=by cases r <;> simp [R0.told,cz,į]
theorem R0.Rj (r:R0):cz r.begin=true:=by cases r <;> simp [R0.begin,cz]
theorem Rl.nl:∀ t:Rl,cz t.told=true
 | .one r=>r.nl
 | .blocks rs=>by
  have:į (rs.map R0.told)=true:=gJ λ d hd=>by
   obtain⟨r,_,rfl⟩:=ð.mp hd;exact r.nl
  simp only [Rl.told,cz,į,this,Bool.and_self]
 | .first t m=>by simp only [Rl.told,cz,į,t.nl,Bool.and_self]
theorem Rl.Rj:∀ t:Rl,cz t.begin=true
 | .one r=>r.Rj
 | .blocks []=>by simp [Rl.begin,cz,į]
 | .blocks (r::_)=>by simp only [Rl.begin,cz,į,r.Rj,Bool.and_self]
 | .first t _=>t.Rj
theorem qF:∀(ns:List Int),į (ns.map PyData.int)=true
 | []=>by simp [į]
 | n::ns=>by simp only [List.map_cons,į,cz,qF ns,Bool.and_self]
theorem jI (ps:List (List Int)):cz (fG ps)=true:=by
 refine gJ λ d hd=>?_;obtain⟨p,_,rfl⟩:=ð.mp hd;exact qF p
theorem Ob.Ğ (h:Ob C H v fk bg tl pt X)(s:tT H H')(n1:cz bg=true)(n2:cz tl=true)(n3:cz pt=true)(k:∀ fs,X fs->Y fs):Ob C H' v fk bg tl pt Y:=by
 obtain⟨a,dx,fs,rfl,ha,h1,⟨b,h2,r2⟩,⟨m,h3,r3⟩,⟨p,h4,r4⟩,h5,h6⟩:=h.ex;exact⟨a,dx,fs,rfl,s _ _ ha (λ _ z=>by cases z),h1,⟨b,h2,r2.Ğ s n1⟩,⟨m,h3,r3.Ğ s n2⟩,⟨p,h4,r4.Ğ s n3⟩,h5,k fs h6⟩
section
variable {C:Nat->Addr}{H H':Hp}
theorem lZ:cz (.tuple [.int a,.int b])=true:=by simp [cz,į]
theorem m_.Ğ (h:m_ C H r v)(s:tT H H'):m_ C H' r v:=Ob.Ğ h s r.Rj r.nl (jI _) λ fs e=>by
 cases r with
 | split _ _=>trivial
 | pairs _ a b =>
  obtain⟨c,e1,e2⟩:=e;exact⟨c,e1,e2.Ğ s lZ⟩
 | ť _ a b f =>
  obtain⟨⟨c,e1,e2⟩,e3⟩:=e;exact⟨⟨c,e1,e2.Ğ s lZ⟩,e3⟩
theorem ε.Ğ (h:ε C H rs ws)(s:tT H H'):ε C H' rs ws:=⟨h.1,λ i r w a b=>m_.Ğ (h.2 i r w a b) s⟩
theorem OC.Ğ (h:OC C H rs v)(s:tT H H'):OC C H' rs v:=Ob.Ğ h s (Rl.Rj _) (Rl.nl _) (jI _) λ fs e=>by
 obtain⟨l,ws,e1,e2,e3⟩:=e;exact⟨l,ws,e1,s _ _ e2 (λ _ z=>by cases z),e3.Ğ s⟩
theorem PU.Ğ (h:PU C H t v)(s:tT H H'):PU C H' t v:=by
 cases t with
 | one r=>exact m_.Ğ h s
 | blocks rs=>exact OC.Ğ h s
 | first _ _=>exact h.elim
theorem Ru.Ğ (h:Ru C H t v)(s:tT H H'):Ru C H' t v:=by
 cases t with
 | one r=>exact m_.Ğ h s
 | blocks rs=>exact OC.Ğ h s
 | first t m=>exact Ob.Ğ h s t.Rj (Rl.nl _) (jI _) λ fs ⟨d,e1,e2⟩=>⟨d,e1,e2.Ğ s⟩
theorem oY (h:ε C H rs ws)(k:m_ C H r v):ε C H (rs ++ [r]) (ws ++ [v]):=by
 refine⟨by rw [Í,Í,h.1];rfl,λ i r' w' hr hw=>?_⟩
 rcases Č i rs.length with lt | ge
 ·rw [é lt] at hr;rw [é (by rw [<- h.1];exact lt)] at hw
  exact h.2 i r' w' hr hw
 ·rw [Ý ge] at hr;rw [Ý (by rw [<- h.1];exact ge)] at hw
  have i0:i=rs.length:=by
   rcases Č (i-rs.length) 1 with z | z
   ·omega
   ·rw [y_ (by simpa using z)] at hr;cases hr
  subst i0;rw [g_] at hr;rw [h.1,g_] at hw;cases hr;cases hw;exact k
end
theorem eZ (hx:H x=none)(hd:H dx=none)(ne:dx≠x):Ext H (ad (ad H dx u) x v):=by
 have h2:ad H dx u x=none:=by rw [af ne.symm];exact hx
 exact(Ext.new hd).trans (.new h2)
end My
namespace My
open PySem PySem.W L2
structure Aq (P:Program)(w:World)(K:Frag)(mg:bC)(base:Heap)(C:Nat->Addr)(CN CS CT CM:Addr)(f0 f1 f2 f3 f4:Addr)(e0 e1 e2 e3 e4:FuncData):Prop where
 k0:Mk K (C 0) f0
 k1:Mk K (C 1) f1
 k2:Mk K (C 2) f2
 k3:Mk K (C 3) f3
 k4:Mk K (C 4) f4
 g0:à P w K mg base (cY P w) 4 f0 e0 ["self","folk","ones"] (oF C CN)
 g1:à P w K mg base (cY P w) 6 f1 e1 ["self","pairs","coin"] (kS C CN CS)
 g2:à P w K mg base (cY P w) 6 f2 e2 ["self","folk","coin","far"] (nB C CN CS)
 g3:à P w K mg base (cY P w) 4 f3 e3 ["self","rules"] (ko K C CT CM)
 g4:à P w K mg base (cY P w) 4 f4 e4 ["self","rule","many"] (n4 C CN)
 b0:Binds K e0 ["self","folk","ones"] []
 b1:Binds K e1 ["self","pairs","coin"] []
 b2:Binds K e2 ["self","folk","coin","far"] []
 b3:Binds K e3 ["self","rules"] []
 b4:Binds K e4 ["self","rule","many"] []
 m0:mg "Split" = some (.ref (C 0))
 m1:mg "Pairs" = some (.ref (C 1))
 m2:mg "Coins" = some (.ref (C 2))
 m3:mg "Blocks" = some (.ref (C 3))
 m4:mg "First" = some (.ref (C 4))
section
variable {K:Frag}{C:Nat->Addr}{CN CS CT CM:Addr}{H:Hp}{σ:St}{Q:VK}{E:XK}
theorem iT (h1:lo<=n)(h2:n<=hi):lP lo hi (.int n)=true:=by
 show(decide (lo<=n)&&decide (n<=hi))=true;rw [Ë h1,Ë h2];rfl
end
def GD (H0:Hp)(σ:St)(te:TE)(d:PyData):Prop:=∀(H:Hp)(Q:VK),Ext H0 H->(∀ v H',Ext H H'->Ĝ H' v d->Q v H')->te σ H Q
def Qm (H0:Hp)(σ:St)(ta:TA)(ds:List PyData):Prop:=∀(H:Hp)(Q:List V->Hp->Prop),Ext H0 H->(∀ vs H',Ext H H'->Ù H' vs ds->Q vs H')->ta σ H Q
section
variable {H0:Hp}{σ:St}{te:TE}{ta:TA}{d:PyData}{ds:List PyData}
theorem GD.int (i:Int):GD H0 σ (tC (.int i)) (.int i):=λ H Q _ q=>q _ H (.refl _) (.int i)
theorem Qm.nil:Qm H0 σ aK []:=λ H Q _ q=>q [] H (.refl _) .nil
theorem Qm.cons (h:GD H0 σ te d)(k:Qm H0 σ ta ds):Qm H0 σ (am te ta) (d::ds):=λ H Q x q =>
 h H _ x λ v H1 x1 r=>k H1 _ (x.trans x1) λ vs H2 x2 rs=>q (v::vs) H2 (x1.trans x2) (.cons (r.mono x2) rs)
theorem GD.tup (k:Qm H0 σ ta ds)(hz:ds.length<=sizeLine):GD H0 σ (dO ta) (.tuple ds):=λ H Q x q =>
 k H _ x λ vs H1 x1 rs=>⟨by rw [rs.length];exact hz,λ p hp=>q _ _ (x1.trans (.new hp)) (.tup aM (rs.mono (.new hp)))⟩
theorem Qm.use (k:Qm H0 σ ta ds)(hz:ds.length<=sizeLine)(q:∀ l vs H',Ext H0 H'->H0 l=none->H' l=some (.lst vs)->Ù H' vs ds->Q (.ref l) H'):cg ta σ H0 Q :=
 k H0 _ (.refl _) λ vs H1 x1 rs=>⟨by rw [rs.length];exact hz,λ p hp=>q p vs _ (x1.trans (.new hp)) (by
  cases e:H0 p with
  | none=>rfl
  | some o=>rw [x1 _ _ e] at hp;cases hp) aM (rs.mono (.new hp))⟩
end
theorem Sc.RU (c:Sc K H s p ns)(x:Ext (wo H p) (wo H' p))(b:Ľ H' p):Sc K H' s p ns:=by
 refine⟨?_,c.Oc,c.ne,b⟩;rcases c.sq with(h | ⟨o,h⟩) | h
 ·exact .inl (.inl (ah _ _ _ _ (x _ _ (aJ c.ne h))))
 ·exact .inl (.inr ⟨o,ah _ _ _ _ (x _ _ (aJ c.ne h))⟩)
 ·exact .inr h
def NY:List (Int × Int):=[(1,2),(1,2),(1,3),(2,3),(1,4),(5,7),(1,100),(99,100)]
def vt (c:Int × Int):PyData:=.tuple [.int c.1,.int c.2]
theorem rR:∀ c∈NY,eI (vt c)=true:=av
theorem m_.wo {C:Nat->Addr}{H:Hp}{p:Addr}{r:R0}{v:V}(h:m_ C H r v)(b:Ľ H p):m_ C (wo H p) r v:=h.Ğ λ a o e n=>by
 obtain⟨_,_,_,hp,_⟩:=b.ex;exact aJ (λ z=>by subst z;rw [hp] at e;cases e;exact n _ rfl) e
section
variable {K:Frag}{C:Nat->Addr}{CN CS CT CM:Addr}{H:Hp}{R:VK}{E:XK}{x dx:Addr}
theorem lh (hx:H x=none)(hd:H dx=none)(ne:dx≠x)(ok:(R0.split n k).ok)(q:∀ H',Ext H H'->Ru C H' (.one (.split n k)) (.ref x)->R .Ċ H'):oF C CN [.ref x,.int n,.int k] (ad (ad H dx (.own x)) x (.ins (C 0) dx [])) R E:=by
 have xe:=eZ (u:=.own x) (v:=.ins (C 0) dx []) hx hd ne;obtain⟨o1,o2,o3,o4⟩:=id ok;refine⟨x,_,_,_,_,dx,rfl,aM,.int _,.int _,λ h=>(by rw [iT o1 o2] at h;cases h),λ m e _ _ h=>(by cases e;rw [iT o3 o4] at h;cases h),λ n' k' e1 e2 _ H' kp ru=>?_⟩
 cases e1;cases e2;exact q H' (xe.kp hx kp) ru
theorem lM (hx:H x=none)(hd:H dx=none)(ne:dx≠x)(rc:Ĝ H c (.tuple [.int a,.int b]))(ok:(R0.pairs n a b).ok)(q:∀ H',Ext H H'->Ru C H' (.one (.pairs n a b)) (.ref x)->R .Ċ H'):kS C CN CS [.ref x,.int n,c] (ad (ad H dx (.own x)) x (.ins (C 1) dx [])) R E:=by
 have xe:=eZ (u:=.own x) (v:=.ins (C 1) dx []) hx hd ne;obtain⟨o1,o2,o3⟩:=id ok;refine⟨x,_,_,_,_,dx,rfl,aM,.int _,rc.mono xe,λ h=>(by rw [iT o1 o2] at h;cases h),λ _ h=>(by rw [o3] at h;cases h),λ n' a' b' e1 e2 _ H' kp ru=>?_⟩
 cases e1;cases e2;exact q H' (xe.kp hx kp) ru
theorem rT (hx:H x=none)(hd:H dx=none)(ne:dx≠x)(rc:Ĝ H c (.tuple [.int a,.int b]))(ok:(R0.ť n a b f).ok)(q:∀ H',Ext H H'->Ru C H' (.one (.ť n a b f)) (.ref x)->R .Ċ H'):nB C CN CS [.ref x,.int n,c,.int f] (ad (ad H dx (.own x)) x (.ins (C 2) dx [])) R E:=by
 have xe:=eZ (u:=.own x) (v:=.ins (C 2) dx []) hx hd ne;obtain⟨o1,o2,o3,o4,o5⟩:=id ok;refine⟨x,_,_,_,_,_,_,dx,rfl,aM,.int _,rc.mono xe,.int _,λ h=>(by rw [iT o1 o2] at h;cases h),λ _ h=>(by rw [o3] at h;cases h),λ _ _ h=>(by rw [iT o4 o5] at h;cases h),λ n' a' b' f' e1 e2 e3 _ H' kp ru=>?_⟩
 cases e1;cases e2;cases e3;exact q H' (xe.kp hx kp) ru
theorem jW (hx:H x=none)(hd:H dx=none)(ne:dx≠x)(hl:H l=some (.lst ws))(al:ε C H rs ws)(ok:(Rl.blocks rs).ok)(q:∀ H',Ext H H'->Ru C H' (.blocks rs) (.ref x)->R .Ċ H'):ko K C CT CM [.ref x,.ref l] (ad (ad H dx (.own x)) x (.ins (C 3) dx [])) R E:=by
 have xe:=eZ (u:=.own x) (v:=.ins (C 3) dx []) hx hd ne;obtain⟨o1,o2,o3,o4⟩:=id ok;exact⟨x,_,dx,H,rfl,aM,xe,hx,.inr (.inr ⟨l,ws,rs,rfl,hl,al,o1,o2,o3,λ h=>absurd o4 ai,λ _ H' kp ru=>q H' (xe.kp hx kp) ru⟩)⟩
theorem sr (hx:H x=none)(hd:H dx=none)(ne:dx≠x)(ru:Ru C H r v)(ok:(Rl.first r m).ok)(q:∀ H',Ext H H'->Ru C H' (.first r m) (.ref x)->R .Ċ H'):n4 C CN [.ref x,v,.int m] (ad (ad H dx (.own x)) x (.ins (C 4) dx [])) R E:=by
 have xe:=eZ (u:=.own x) (v:=.ins (C 4) dx []) hx hd ne;obtain⟨o1,o2,o3⟩:=id ok;refine⟨x,_,_,r,_,dx,H,rfl,aM,xe,hx,ru,Rl.sm o1,.int m,λ h=>(by rw [iT o2 o3] at h;cases h),λ m' e _ _ H' kp ru=>?_⟩
 cases e;exact q H' (xe.kp hx kp) ru
end
section
variable {P:Program}{w:World}{K:Frag}{mg:bC}{base:Heap}{C:Nat->Addr}{CR CN CS CT CM f f0 f1 f2 f3 f4 a1:Addr}{fd e0 e1 e2 e3 e4 d1:FuncData}
abbrev sj:Stmt:=cw 69
abbrev sI (i:Nat):Stmt:=(aH sj).getD i (.Pass ⟨0,0,0,0⟩)
abbrev yn:List Str:=["_law_script","_law_pen","_law_most","_law_coin","_law_way","_law_pairs","_law_folk_here"]
theorem Pa:ae yn ["_law_script","_law_pen","_law_most"] (aa sj):=aR
def τ (C:Nat->Addr)(H:Hp)(v:V)(r:R0):Prop:=∃ l u,v=.ref l/\H l=some (.lst [.str r.word,u,.int r.Ñ])/\m_ C H r u
theorem τ.ext (h:τ C H v r)(x:Ext H H'):τ C H' v r:=by
 obtain⟨l,u,e,hl,ru⟩:=h;exact⟨l,u,e,x _ _ hl,ru.ext x⟩
def uc (K:Frag)(C:Nat->Addr):Sp:=λ vs H Q _=>∃(s p:Addr)(ns:List Int)(m:Int),vs=[.ref s,.ref p,.int m]/\Sc K H s p ns/\1<=m/\m<=20/\∀ l r H',Sc K H' s p ns->Ext (wo H p) (wo H' p)->wo H p l=none->τ C (wo H' p) (.ref l) r->r.ok->r.Ñ <= m->Q (.ref l) H'
def mw (a b:Int):TE:=dO (am (tC (.int a)) (am (tC (.int b)) aK))
def EV:TA:=am (mw 1 2) (am (mw 1 2) (am (mw 1 3) (am (mw 2 3) (am (mw 1 4) (am (mw 5 7) (am (mw 1 100) (am (mw 99 100) aK)))))))
def By (K:Frag):TS:=cR (aQ (dy K) (cg EV) (gk K (tC (.int 8)))) (ba 3)
def Fw (K:Frag):TS:=cR (gk K (tC (.int 3))) (ba 4)
def kJ (t:TE):TE:=aQ (dR λ i j=>.int (i+j)) (tC (.int 1)) t
def F9 (K:Frag)(C:Nat->Addr)(CN CS:Addr):TS:=dA (nI (tB (aQ nA (ag 4) (tC (.int 1)))) (tB (aQ (dR λ i j=>.bl (decide (i>j))) (ag 2) (tC (.int 1)))))
 (aO (cR (kJ (gk K (aQ (rI kO λ i j=>.int (i/j)) (ag 2) (tC (.int 2))))) (ba 5)) (cH (cg (am (tC (.str "pairs")) (am (dD (C 1) (kS C CN CS) [] E0 (am (ag 5) (am (ag 3) aK))) (am (aQ (rI Ζ λ i j=>.int (i*j)) (tC (.int 2)) (ag 5)) aK)))))) bV
def Ao (K:Frag):TS:=cR (kJ (gk K (ag 2))) (ba 6)
def AC (K:Frag)(C:Nat->Addr)(CN CS:Addr):TS:=dA (tB (aQ nA (ag 4) (tC (.int 2)))) (cH (cg (am (tC (.str "coins")) (am (dD (C 2) (nB C CN CS) [] E0 (am (ag 6) (am (ag 3) (am (kJ (gk K (aQ (dy K) (cg (am (tC (.int 2)) (am (tC (.int 20)) aK))) (gk K (tC (.int 2)))))) aK)))) (am (ag 6) aK))))) bV
def wj (K:Frag)(C:Nat->Addr)(CN:Addr):TS:=cH (cg (am (tC (.str "split")) (am (dD (C 0) (oF C CN) [] E0 (am (ag 6) (am (gk K (aQ (dR λ i j=>.int (i+j)) (ag 6) (tC (.int 1)))) aK))) (am (ag 6) aK))))
def Lj (K:Frag)(C:Nat->Addr)(CN CS:Addr):TS:=aO (By K) (aO (Fw K) (aO (F9 K C CN CS) (aO (Ao K) (aO (AC K C CN CS) (wj K C CN)))))
section
variable {cdv:Value}{A:Around}{outer:List Env}{s:Shared}{H:Hp}{E:XK}(L:Aq P w K mg base C CN CS CT CM f0 f1 f2 f3 f4 e0 e1 e2 e3 e4)(A1:Df P w K mg base aB 1 "_law_take" ["_law_script","_law_pen","_law_many"] (dH K) a1 d1)(hr:pj 7 "_law_plain_rule" sj A s f cdv)
include A1 hr
theorem HQ:Bx (PS (aW aB P w K mg base yn "_law_plain_rule" (aa sj) f cdv A outer s H E).ŋ (sI 0) (By K)):=by
 have ĭ:ă 1 _:=hr.mono au;exact bq Pa.nd rfl (.inl rfl) (Eb fS (jM (f8 (fu (f8 ⟨aF⟩ (f8 ⟨aF⟩ ck))) (f8 (fu (f8 ⟨aF⟩ (f8 ⟨aF⟩ ck))) (f8 (fu (f8 ⟨aF⟩ (f8 ⟨aF⟩ ck))) (f8 (fu (f8 ⟨aF⟩ (f8 ⟨aF⟩ ck)))
  (f8 (fu (f8 ⟨aF⟩ (f8 ⟨aF⟩ ck))) (f8 (fu (f8 ⟨aF⟩ (f8 ⟨aF⟩ ck))) (f8 (fu (f8 ⟨aF⟩ (f8 ⟨aF⟩ ck))) (f8 (fu (f8 ⟨aF⟩ (f8 ⟨aF⟩ ck))) ck)))))))))
  ⟨cZ A1 ĭ ak (ac (pv 0) (ac (pv 1) (ac aF ao)))⟩)
theorem Ja:Bx (PS (aW aB P w K mg base yn "_law_plain_rule" (aa sj) f cdv A outer s H E).ŋ (sI 1) (Fw K)):=by
 have ĭ:ă 1 _:=hr.mono au;exact bq Pa.nd rfl (.inl rfl) ⟨cZ A1 ĭ ak (ac (pv 0) (ac (pv 1) (ac aF ao)))⟩
theorem Jx:Bx (PS (aW aB P w K mg base yn "_law_plain_rule" (aa sj) f cdv A outer s H E).ŋ (sI 3) (Ao K)):=by
 have ĭ:ă 1 _:=hr.mono au;exact bq Pa.nd rfl (.inl rfl) ⟨aE bw aF (cZ A1 ĭ ak (ac (pv 0) (ac (pv 1) (ac (pv 2) ao))))⟩
include L
theorem HS:Bx (PS (aW aB P w K mg base yn "_law_plain_rule" (aa sj) f cdv A outer s H E).ŋ (sI 2) (F9 K C CN CS)):=by
 have ĭ:ă 1 _:=hr.mono au;exact kj ⟨PW.pt (gv (ar cj (pv 4) aF (ax _)) (fh (ar f9 (pv 2) aF (ax _))))⟩
  (dq (bq Pa.nd rfl (.inl rfl) ⟨aE bw aF (cZ A1 ĭ ak (ac (pv 0) (ac (pv 1) (ac (aE fY (pv 2) aF) ao))))⟩)
  (br (jV (jM (f8 ⟨ay⟩ (f8 ⟨eR L.k1 L.g1 hr rfl L.m1 L.b1 .nil gy (ac (pv 5) (ac (pv 3) ao))⟩ (f8 ⟨aE dY aF (pv 5)⟩ ck))))))) fV
theorem JY:Bx (PS (aW aB P w K mg base yn "_law_plain_rule" (aa sj) f cdv A outer s H E).ŋ (sI 4) (AC K C CN CS)):=by
 have ĭ:ă 1 _:=hr.mono au;exact kj ⟨ar cj (pv 4) aF (ax _)⟩ (br (jV (jM (f8 ⟨ay⟩ (f8 ⟨eR L.k2 L.g2 hr rfl L.m2 L.b2 .nil gy (ac (pv 6) (ac (pv 3) (ac (aE bw aF (cZ A1 ĭ ak (ac (pv 0) (ac (pv 1) (ac (cS fS (bM (ac aF (ac aF ao))) (cZ A1 ĭ ak (ac (pv 0) (ac (pv 1) (ac aF ao))))) ao))))) ao)))⟩ (f8 ⟨pv 6⟩ ck)))))) fV
theorem IL:Bx (PS (aW aB P w K mg base yn "_law_plain_rule" (aa sj) f cdv A outer s H E).ŋ (sI 5) (wj K C CN)):=by
 have ĭ:ă 1 _:=hr.mono au;have Pl:ă 5 _:=hr.mono au;exact jV (jM (f8 ⟨ay⟩ (f8 ⟨eR L.k0 L.g0 Pl rfl L.m0 L.b0 .nil gy (ac (pv 6) (ac (cZ A1 ĭ ak (ac (pv 0) (ac (pv 1) (ac (aE bw (pv 6) aF) ao)))) ao))⟩ (f8 ⟨pv 6⟩ ck))))
theorem Ba:Bx (Ž (aW aB P w K mg base yn "_law_plain_rule" (aa sj) f cdv A outer s H E).ŋ (aH sj) (Lj K C CN CS)) :=
 dq (HQ A1 hr) (dq (Ja A1 hr) (dq (HS L A1 hr) (dq (Jx A1 hr) (dq (JY L A1 hr) (br (IL L A1 hr))))))
end
theorem pX {Q:VK}(ŗ:Sc K H1 s p ns)(xw:Ext (wo H p) (wo H1 p))(ru:m_ C H1 r (.ref x))(ok:r.ok)(le:r.Ñ <= m)
  (q:∀ l r H',Sc K H' s p ns->Ext (wo H p) (wo H' p)->wo H p l=none->τ C (wo H' p) (.ref l) r->r.ok->r.Ñ <= m->Q (.ref l) H')(l:Addr)(hl:H1 l=none):Q (.ref l) (ad H1 l (.lst [.str r.word,.ref x,.int r.Ñ])):=by
 have x2:=Ext.new (o:=.lst [.str r.word,.ref x,.int r.Ñ]) hl;have g2:ad H1 l (.lst [.str r.word,.ref x,.int r.Ñ]) l=some (.lst [.str r.word,.ref x,.int r.Ñ]):=aM;have Τ:=ŗ.ext x2;refine q l r _ Τ (xw.trans (bn x2 p)) ?_ ⟨l,_,rfl,aJ (ŗ.bx.ne hl) g2,(ru.wo ŗ.bx).ext (bn x2 p)⟩ ok le;cases e:wo H p l with
 | none=>rfl
 | some o=>have:=ah _ _ _ _ (xw _ _ e);rw [hl] at this;cases this
theorem Ac (H:Hp)(σ:St):Qm H σ EV (NY.map vt) :=
 .cons (.tup (.cons (.int 1) (.cons (.int 2) .nil)) au) (.cons (.tup (.cons (.int 1) (.cons (.int 2) .nil)) au) (.cons (.tup (.cons (.int 1) (.cons (.int 3) .nil)) au) (.cons (.tup (.cons (.int 2) (.cons (.int 3) .nil)) au)
  (.cons (.tup (.cons (.int 1) (.cons (.int 4) .nil)) au) (.cons (.tup (.cons (.int 5) (.cons (.int 7) .nil)) au) (.cons (.tup (.cons (.int 1) (.cons (.int 100) .nil)) au) (.cons (.tup (.cons (.int 99) (.cons (.int 100) .nil)) au) .nil)))))))
theorem Dy {De:bX}{u:TS}{H:Hp}{sA p:Addr}{ns:List Int}{o2 o3 o4 o5 o6:Option V}(sc:Sc K H sA p ns)(k:∀ cv co H1,co∈NY->Sc K H1 sA p ns->Ext (wo H p) (wo H1 p)->Ĝ (wo H1 p) cv (vt co)->u De [some (.ref sA),some (.ref p),o2,some cv,o4,o5,o6] H1) :
  aO (By K) u De [some (.ref sA),some (.ref p),o2,o3,o4,o5,o6] H:=by
 refine aY (j9 ((Ac H _).use au λ l0 vs H0 x0 n0 g0 rs=>?_));refine bo (sc.ext x0) rfl rfl (λ R r=>r) au au λ r H1 r0 r8 ŗ k1=>?_;have Vi:=sc.bx.ne n0;have g1:=k1 _ _ g0 Vi;have lv:=rs.length;rw [Â] at lv;have Uo:r.toNat<vs.length:=by rw [lv];show _<8;omega
 obtain⟨d,ed,rd⟩:=rs.get (Á Uo);rw [Ç] at ed;obtain⟨co,eco,rfl⟩:=Ð.mp ed;have rdw:Ĝ (wo H0 p) vs[r.toNat] (vt co):=rd.Ğ (λ a o e n=>by
  obtain⟨_,_,_,hp,_⟩:=(sc.ext x0).bx.ex;exact aJ (λ z=>by subst z;rw [hp] at e;cases e;exact n _ rfl) e) lZ
 have er:r=(r.toNat:Int):=ai;refine⟨l0,_,r,vs[r.toNat],rfl,rfl,ç.of g1,by have z:=dh (Á Uo);rwa [<- er] at z,?_⟩
 exact k _ co H1 (å eco) ŗ ((bn x0 p).trans (aL k1)) (rdw.mono (aL k1))
theorem zT {De:bX}{u:TS}{H H2:Hp}{sA p:Addr}{ns:List Int}{m:Int}{cv:V}{co:Int × Int}{o4 o5 o6:Option V}{Q:VK} (Τ:Sc K H2 sA p ns)(xb:Ext (wo H p) (wo H2 p))(NJ:Ĝ (wo H2 p) cv (vt co))(Pw:eI (vt co)=true)(em:m>1)(m2:m<=20)(PP:De.rt=Q)
  (q:∀ l r H',Sc K H' sA p ns->Ext (wo H p) (wo H' p)->wo H p l=none->τ C (wo H' p) (.ref l) r->r.ok->r.Ñ <= m->Q (.ref l) H') :
  aO (cR (kJ (gk K (aQ (rI kO λ i j=>.int (i/j)) (ag 2) (tC (.int 2))))) (ba 5)) (cH (cg (am (tC (.str "pairs")) (am (dD (C 1) (kS C CN CS) [] E0 (am (ag 5) (am (ag 3) aK))) (am (aQ (rI Ζ λ i j=>.int (i*j)) (tC (.int 2)) (ag 5)) aK))))) De [some (.ref sA),some (.ref p),some (.int m),some cv,o4,o5,o6] H2:=by
 refine aY ?_;refine bo Τ rfl rfl (λ R r=>⟨_,rfl,_,_,rfl,rfl,⟨au,au⟩,r⟩) ai ai λ z H3 z0 zm B' k3=>⟨_,_,rfl,rfl,?_⟩;refine⟨_,rfl,_,rfl,?_⟩;have Pc:=NJ.mono (aL k3);refine λ x dx hx hd ne=>lM hx hd ne (Pc.mono (ah _ _)) ⟨ai,ai,Pw⟩ λ H6 x6 ru=>⟨rfl,?_⟩;refine⟨_,rfl,_,_,rfl,rfl,.inl ⟨au,au⟩,cL,λ l hl=>?_⟩;rw [PP];exact pX (B'.ext x6) ((xb.trans (aL k3)).trans (bn x6 p)) ru ⟨ai,ai,Pw⟩ (by show 2*(1+z)<=m;omega) q l hl
theorem zJ (B':Sc K H3 sA p ns)(xc:Ext (wo H p) (wo H3 p))(n1:1<=n)(nm:n<=m)(m2:m<=20)(PP:De.rt=Q)
  (q:∀ l r H',Sc K H' sA p ns->Ext (wo H p) (wo H' p)->wo H p l=none->τ C (wo H' p) (.ref l) r->r.ok->r.Ñ <= m->Q (.ref l) H'):wj K C CN De [some (.ref sA),some (.ref p),o2,o3,o4,o5,some (.int n)] H3:=by
 refine⟨_,rfl,?_⟩;refine bo B' rfl rfl (λ R r=>⟨_,rfl,_,_,rfl,rfl,r⟩) ai ai λ u H7 u0 ub SB k7=>?_;refine λ x dx hx hd ne=>lh hx hd ne ⟨ai,ai,ai,ai⟩ λ H6 x6 ru=>⟨rfl,?_⟩;refine⟨_,rfl,cL,λ l hl=>?_⟩;rw [PP];exact pX (SB.ext x6) ((xc.trans (aL k7)).trans (bn x6 p)) ru ⟨ai,ai,ai,ai⟩ (by show n<=m;omega) q l hl
def Gs (K:Frag):TE:=gk K (aQ (dy K) (cg (am (tC (.int 2)) (am (tC (.int 20)) aK))) (gk K (tC (.int 2))))
theorem BR (B':Sc K H3 sA p ns)(h0:σ[0]?=some (some (.ref sA)))(h1:σ[1]?=some (some (.ref p)))(k:∀ u H5,0<=u->u<20->Sc K H5 sA p ns->Ext (wo H3 p) (wo H5 p)->R (.int u) H5):Gs K σ H3 R:=by
 refine⟨_,h0,_,h1,cL,λ l5 h5=>?_⟩;have x5:=Ext.new (o:=.lst [V.int 2,.int 20]) h5;have g5:ad H3 l5 (.lst [V.int 2,.int 20]) l5=some (.lst [V.int 2,.int 20]):=aM;have n5:=B'.bx.ne h5;have Ou:=B'.ext x5;generalize ad H3 l5 (.lst [.int 2,.int 20])=H4 at x5 g5 Ou ⊢;refine bo Ou h0 h1 (λ R r=>r) au au λ j H6 j0 j2 Pb k6=>?_;have g6:=k6 _ _ g5 n5;obtain⟨b,eb,b1,b2⟩:∃ b:Int,([.int 2,.int 20]:List V)[j.toNat]?=some (.int b)/\2<=b/\b<=20:=by
  rcases(by omega:j=0\/j=1) with rfl | rfl
  ·exact⟨2,rfl,au,au⟩
  ·exact⟨20,rfl,au,au⟩
 have ej:j=(j.toNat:Int):=ai;refine⟨l5,_,j,.int b,rfl,rfl,ç.of g6,by rw [ej];exact dh eb,?_⟩
 exact⟨sA,ns,p,b,rfl,Pb.sq,Pb.Oc,Pb.ne,Pb.bx,ai,ai,λ u H7 u0 ub bx7 k7 _=>k u H7 ai ai (Pb.kept k7 bx7) (((bn x5 p).trans (aL k6)).trans (aL k7))⟩
theorem zw (B':Sc K H3 sA p ns)(xc:Ext (wo H p) (wo H3 p))(Pc:Ĝ (wo H3 p) cv (vt co))(Pw:eI (vt co)=true)(n1:1<=n)(nm:n<=m)(m2:m<=20)(PP:De.rt=Q)
  (q:∀ l r H',Sc K H' sA p ns->Ext (wo H p) (wo H' p)->wo H p l=none->τ C (wo H' p) (.ref l) r->r.ok->r.Ñ <= m->Q (.ref l) H') :
  cH (cg (am (tC (.str "coins")) (am (dD (C 2) (nB C CN CS) [] E0 (am (ag 6) (am (ag 3) (am (kJ (Gs K)) aK)))) (am (ag 6) aK)))) De [some (.ref sA),some (.ref p),o2,some cv,o4,o5,some (.int n)] H3:=by
 refine⟨_,rfl,_,rfl,?_⟩;refine BR B' rfl rfl λ u H5 u1 u2 Ou x5=>⟨_,_,rfl,rfl,?_⟩;refine λ x dx hx hd ne=>rT hx hd ne ((Pc.mono x5).mono (ah _ _)) ⟨ai,ai,Pw,ai,ai⟩ λ H6 x6 ru=>⟨rfl,?_⟩;refine⟨_,rfl,cL,λ l hl=>?_⟩;rw [PP];exact pX (Ou.ext x6) ((xc.trans x5).trans (bn x6 p)) ru ⟨ai,ai,Pw,ai,ai⟩ (by show n<=m;omega) q l hl
theorem tY {De:bX}{H H2:Hp}{sA p:Addr}{ns:List Int}{m y:Int}{cv:V}{co:Int × Int}{o5 o6:Option V}{Q:VK} (Τ:Sc K H2 sA p ns)(xb:Ext (wo H p) (wo H2 p))(NJ:Ĝ (wo H2 p) cv (vt co))(Pw:eI (vt co)=true)(m1:1<=m)(m2:m<=20)(PP:De.rt=Q)
  (q:∀ l r H',Sc K H' sA p ns->Ext (wo H p) (wo H' p)->wo H p l=none->τ C (wo H' p) (.ref l) r->r.ok->r.Ñ <= m->Q (.ref l) H'):aO (Ao K) (aO (AC K C CN CS) (wj K C CN)) De [some (.ref sA),some (.ref p),some (.int m),some cv,some (.int y),o5,o6] H2:=by
 refine aY ?_;refine bo Τ rfl rfl (λ R r=>⟨_,rfl,r⟩) ai ai λ z H3 z0 zm B' k3=>⟨_,_,rfl,rfl,?_⟩;have xc:=xb.trans (aL k3);have Pc:=NJ.mono (aL k3);refine⟨_,rfl,rfl,_,rfl,?_⟩;by_cases e2:y=2
 ·rw [Ë (by rw [e2])]
  exact cy (zw B' xc Pc Pw ai ai m2 PP q)
 ·rw [È (λ z=>e2 (V.int.inj z))];exact bZ (zJ B' xc ai ai m2 PP q)
theorem zQ {H:Hp}{sA p:Addr}{ns:List Int}{m:Int}{o3 o4 o5 o6:Option V}{De:bX}(sc:Sc K H sA p ns)(m1:1<=m)(m2:m<=20)
  (q:∀ l r H',Sc K H' sA p ns->Ext (wo H p) (wo H' p)->wo H p l=none->τ C (wo H' p) (.ref l) r->r.ok->r.Ñ <= m->De.rt (.ref l) H'):Bx (Lj K C CN CS De [some (.ref sA),some (.ref p),some (.int m),o3,o4,o5,o6] H):=by
 refine⟨Dy sc λ cv co H1 hco ŗ xa Vf=>?_⟩;refine aY ?_;refine bo ŗ rfl rfl (λ R r=>r) au au λ y H2 y0 y3 Τ k2=>?_;have xb:=xa.trans (aL k2);have NJ:=Vf.mono (aL k2);have Pw:=rR co hco;refine⟨_,rfl,rfl,_,rfl,?_⟩;by_cases e1:y=1
 ·subst e1;refine cy ⟨_,rfl,_,_,rfl,rfl,_,rfl,?_⟩;by_cases em:m>1
  ·rw [Ë em];exact cy (zT (u:=bV) Τ xb NJ Pw em m2 rfl q)
  ·rw [È em];exact bZ (tY Τ xb NJ Pw m1 m2 rfl q)
 ·rw [È (λ z=>e1 (V.int.inj z))];exact bZ (bZ (tY Τ xb NJ Pw m1 m2 rfl q))
theorem il (h:Bx (Ž X body t))(r:Bx (t D σ H)):∃ t,Ž X body t/\t D σ H:=⟨t,h.h,r.h⟩
theorem Hm (F:Ī K "_law_plain_rule" "_law_plain_rule" sj f fd)(L:Aq P w K mg base C CN CS CT CM f0 f1 f2 f3 f4 e0 e1 e2 e3 e4)(A1:Df P w K mg base aB 1 "_law_take" ["_law_script","_law_pen","_law_many"] (dH K) a1 d1):à P w K mg base aB 8 f fd ["_law_script","_law_pen","_law_most"] (uc K C):=by
 refine bO F Pa λ cdv A outer s H vs Q E hr h=>?_;obtain⟨sA,p,ns,m,rfl,sc,m1,m2,q⟩:=h;exact il (Ba L A1 hr) (zQ sc m1 m2 q)
end
theorem k8:∀{cl:List (Str × Addr)}{z:Str},z∈cl.map (·.1)->∃ c,cl.lookup z=some c
 | (x,d)::cl,z,h=>by
  by_cases e:z=x
  ·subst e;exact⟨d,jp⟩
  ·rw [ï,ë] at h;rcases h with h | h
   ·exact absurd h e
   ·obtain⟨c,hc⟩:=k8 h;exact⟨c,l8 e hc⟩
theorem fK (f_:closureFor sc X.env=pure cl)(kind:sc.kind=.function)(nc:∀ y∈sc.names,y.2 ≠ .cell)(nm:∀ y∈sc.names,y.2=.local->sc.names.lookup y.1=some .local)(var:∀ x∈ts,sc.names.lookup x=some .local)
  (hM:cl.map (·.1)=M)(hc:cl.map (λ y=>X.env.cells.lookup y.1)=cl.map (λ y=>some y.2))(rl:(relabel sc X.env).names=L)(has:∀ y∈L,(y.2=.cell\/y.2=.free)->y.1∈M)(nd:(ts++zs).Nodup)
  (hj:zs.map some=js.map (λ j=>X.N[j]?))(hv:zs.map (λ z=>X.env.scope.names.lookup z)=zs.map (λ _=>some .cell))(hl:zs.map (λ z=>L.lookup z)=zs.map (λ _=>some .cell)):bu X sc cl ts zs js:=by
 have ln:js.length=zs.length:=by have:=ġ List.length hj;simpa using this.symm
 refine⟨f_,kind,nc,nm,var,λ z c h=>?_,λ z h=>?_,nd,λ k z h=>?_,ln⟩
 ·have m:=è h;obtain⟨i,hi,e⟩:=ü m;have q:=ġ (λ l=>l[i]?) hc;simp only [List.getElem?_map,List.getElem?_eq_getElem hi,e,Option.map_some] at q;exact Õ q
 ·rw [rl] at h;refine k8 ?_;rw [hM];rcases h with h | h
  ·exact has _ (è h) (.inl rfl)
  ·exact has _ (è h) (.inr rfl)
 ·have hk:=(Å.mp h).1;have Us:k<js.length:=by rw [ln];exact hk
  have q:=ġ (λ l=>l[k]?) hj;simp only [List.getElem?_map,h,List.getElem?_eq_getElem Us,Option.map_some] at q;have v:=ġ (λ l=>l[k]?) hv;simp only [List.getElem?_map,h,Option.map_some] at v;have u:=ġ (λ l=>l[k]?) hl;simp only [List.getElem?_map,h,Option.map_some] at u;have v':=Õ v;refine⟨js[k],Á Us,(Õ q).symm,.inr (.inl v'),λ e=>?_,.inl (by rw [rl];exact Õ u)⟩
  have e':X.env.scope.names.lookup z=some .local:=e;rw [v'] at e';cases e'
section
variable {K:Frag}{te:TE}{tt:TT}{g:TG}{k:Nat}{cap:St}{D:Addr}{H1:Hp}{Q:Hp->Prop}{a:Addr}{xs:List V}
theorem se (Pv:Nat->List V->Hp->Prop)(hz:xs.length<sizeLine)(h0:Pv 0 [] (ad H1 D (.lst [])))(hl:∀ i ys H,Pv i ys H->ç K H a xs)
  (hs:∀(i:Nat) x ys H,xs[i]?=some x->ys.length<=i->H D=some (.lst ys)->Pv i ys H->∀ os:St,os.length=k->∀ N:List V->Hp->Prop,(∀ N4 H',Pv (i+1) N4 H'->N4.length<=i+1->H' D=some (.lst N4)->N N4 H') ->
   g x (os++cap) H λ Ĵ H0=>(∃ ō:St,ō.length=k/\Ĵ = ō ++ cap)/\tt Ĵ H0 λ b H5=>(b=false->N ys H5)/\(b=true->te Ĵ H5 λ y H4=>H4 D=some (.lst ys)/\N (ys ++ [y]) (ad H4 D (.lst (ys ++ [y])))))
  (hd:∀ ys H,ys.length<=xs.length->H D=some (.lst ys)->Pv xs.length ys H->Q H) :
  ∃ W:Nat->Nat->List V->Hp->Prop,(∃ m,W 0 m [] (ad H1 D (.lst []))) /\
   ∀ i m ys H2,W i m ys H2->H2 D=some (.lst ys)/\(((nt K a).stop i H2/\Q H2)\/((nt K a).go i H2/\ys.length<sizeLine /\
    ∀ x H3,(nt K a).MJ i H2 x H3->∀ os:St,os.length=k->g x (os++cap) H3 λ Ĵ H0=>(∃ ō:St,ō.length=k/\Ĵ = ō ++ cap)/\tt Ĵ H0 λ b H5=>(b=false->∃ m',m'<m/\W (i+1) m' ys H5) /\
     (b=true->te Ĵ H5 λ y H4=>H4 D=some (.lst ys)/\∃ m',m'<m/\W (i+1) m' (ys ++ [y]) (ad H4 D (.lst (ys ++ [y])))))):=by
 refine⟨λ i m ys H=>m=xs.length-i/\i<=xs.length/\ys.length<=i/\H D=some (.lst ys)/\Pv i ys H,⟨xs.length,by simp,Nat.zero_le _,Nat.le_refl _,aM,h0⟩,?_⟩
 rintro i m ys H ⟨rfl,hi,hy,Nz,p⟩;refine⟨Nz,?_⟩;have q:=hl i ys H p;by_cases ŵ:i<xs.length
 ·refine .inr ⟨⟨xs,xs[i],q,by simp [ŵ]⟩,ai,λ x H' y os ŀ=>?_⟩
  obtain⟨e,y⟩:=y;subst e;exact hs i x ys _ (y xs q) hy Nz p os ŀ (λ N4 WV=>∃ m',m'<xs.length-i/\(m'=xs.length-(i+1)/\i+1<=xs.length/\N4.length<=i+1/\WV D=some (.lst N4)/\Pv (i+1) N4 WV)) λ N4 WV p' l' d'=>⟨xs.length-(i+1),ai,rfl,ŵ,l',d',p'⟩
 ·have e:i=xs.length:=ai;subst e;exact .inl ⟨⟨xs,q,Ê _⟩,hd ys H hy Nz p⟩
end
section
variable {P:Program}{w:World}{K:Frag}{mg:bC}{base:Heap}{C:Nat->Addr}{CR CN CS CT CM f f0 f1 f2 f3 f4 a1 a2:Addr}{fd e0 e1 e2 e3 e4 d1 d2:FuncData}
abbrev n8:Stmt:=cw 70
abbrev pV (i:Nat):Stmt:=(aH n8).getD i (.Pass ⟨0,0,0,0⟩)
abbrev sO:List Str:=["_law_script","_law_pen","_law_most","_law_several","_law_many","_law_blocks","_law_ahead","_law_word","_law_rule_here","_law_folk_here"]
theorem A_:ae sO ["_law_script","_law_pen","_law_most"] (aa n8):=aR
abbrev Ii:Scope:=dJ [("_law_k",.local),("_law_plain_rule",.globalImplicit),("max",.globalImplicit),("int",.globalImplicit),("_law_most",.free),("_law_pen",.free),("_law_script",.free)]
abbrev Io:Scope:=dJ [("_law_one",.local)]
abbrev Ge:Scope:=dJ [("_law_word",.local),("_law_folk_here",.local),("_law_many",.free)]
abbrev JJ:Scope:=dJ [("_law_place",.local),("_law_many",.free)]
abbrev HY:Scope:=dJ [("_law_word",.local),("_law_folk_here",.local)]
theorem IV:((["_law_k"]:List Str)++(["_law_most","_law_pen","_law_script"]:List Str)).Nodup:=av
theorem Jt:((["_law_one"]:List Str)++([]:List Str)).Nodup:=av
theorem Fm:((["_law_word","_law_folk_here"]:List Str)++(["_law_many"]:List Str)).Nodup:=av
theorem IO:((["_law_place"]:List Str)++(["_law_many"]:List Str)).Nodup:=av
theorem vN:((["_law_word","_law_folk_here"]:List Str)++([]:List Str)).Nodup:=av
def KH (K:Frag)(i:Nat):TE:=gQ (λ xs H Q=>∃ i j,xs=[.int i,.int j]/\Q (.int (if j>i then j else i)) H) (am (tC (.int 1)) (am (aQ (rI kO λ i j=>.int (i/j)) (ag i) (aQ (dy K) (cg (am (tC (.int 3)) (am (tC (.int 4)) aK))) (gQ (λ xs H Q=>(∃ i,xs=[.int i]/\Q (.int i) H)\/∃ k,xs=[.bl k]/\Q (.int (if k then 1 else 0)) H) (am (aQ (dR λ i j=>.bl (decide (i>j))) (ag i) (tC (.int 8))) aK)))) aK))
def HI (K:Frag)(C:Nat->Addr):TE:=iE (uc K C) [] E0 (am (ag 3) (am (ag 2) (am (KH K 1) aK)))
def zi (K:Frag)(C:Nat->Addr):TS:=cR (cg (am (iE (uc K C) [] E0 (am (ag 0) (am (ag 1) (am (ag 2) aK)))) aK)) (ba 3)
def C9 (K:Frag)(C:Nat->Addr):TS:=dA (tB (aQ nA (gk K (tC (.int 3))) (tC (.int 0)))) (aO (cR (kJ (gk K (tC (.int 4)))) (ba 4)) (cR (dW (jd (am (ag 4) aK)) 1 [2,1,0] (ba 0) (HI K C)) (ba 3))) bV
def yA (K:Frag):TS:=aO (f7 (rY K "list" gM (ag 5) (am (dO (am (ag 7) (am (gQ uX (am (gQ ve (am (ag 6) (am (aQ (dR λ i j=>.int (i+j)) (ag 6) (ag 9)) aK))) aK)) aK))) aK))) (cR (aQ (dR λ i j=>.int (i+j)) (ag 6) (ag 9)) (ba 6))
def xK (K:Frag):TS:=gj (bL K (ag 3)) (xY K 3 (bT (ba 7) (bT (ba 8) (bT (ba 9) ix)))) (yA K)
def zF (K:Frag):TS:=cR (aQ (dy K) (aQ (dy K) (ag 3) (tC (.int 0))) (tC (.int 1))) (ba 8)
def Ar (K:Frag):TE:=aQ (dy K) (ag 0) (tC (.int 1))
def AY (K:Frag)(C:Nat->Addr)(CT CM:Addr):TS:=dA (E6 (tB (aQ (dR λ i j=>.bl (decide (i>j))) (gQ (λ xs H Q=>∃ p ys,xs=[.ref p]/\(ç K H p ys\/đ K H p ys)/\Q (.int ys.length) H) (am (ag 3) aK)) (tC (.int 1)))) (tB (aQ nA (gk K (tC (.int 4))) (tC (.int 0)))))
 (cR (dD (C 3) (ko K C CT CM) [] E0 (am (dW (bL K (ag 3)) 1 [] (ba 0) (Ar K)) aK)) (ba 8)) bV
def Jy:TT:=tB (aQ (dR λ i j=>.bl (decide (i<j))) (ag 0) (ag 1))
def LA (K:Frag):TE:=jH (bL K (ag 1)) 1 [2] (ba 0) Jy (ag 0)
def B3 (K:Frag):TE:=dO (am (ag 0) (am (LA K) aK))
def FR (K:Frag):TG:=i3 K 2 (bT (ba 0) (bT (ba 1) ix))
def EN (K:Frag):TS:=cR (gk K (aQ (dR λ i j=>.int (i+j)) (ag 6) (tC (.int 1)))) (ba 4)
def Fl (K:Frag)(C:Nat->Addr)(CN:Addr):TS:=cR (dD (C 4) (n4 C CN) [] E0 (am (ag 8) (am (ag 4) aK))) (ba 8)
def Gx (K:Frag):TS:=cR (dW (bL K (ag 5)) 2 [4] (FR K) (B3 K)) (ba 5)
def A6 (K:Frag)(C:Nat->Addr)(CN:Addr):TS:=dA (tB (aQ nA (gk K (tC (.int 4))) (tC (.int 0)))) (aO (EN K) (aO (Fl K C CN) (Gx K))) bV
def HR (K:Frag):TT:=tB (aQ (lW K) (ag 1) (cg aK))
def yI (K:Frag):TS:=cH (dO (am (ag 8) (am (jH (bL K (ag 5)) 2 [] (FR K) (HR K) (dO (am (ag 0) (am (ag 1) aK)))) aK)))
def Kr (K:Frag)(C:Nat->Addr)(CN CT CM:Addr):TS:=aO (zi K C) (aO (C9 K C) (aO (cR (cg aK) (ba 5)) (aO (cR (tC (.int 0)) (ba 6)) (aO (xK K) (aO (zF K) (aO (AY K C CT CM) (aO (A6 K C CN) (yI K))))))))
section
variable {cdv:Value}{A:Around}{outer:List Env}{s:Shared}{H:Hp}{E:XK}(L:Aq P w K mg base C CN CS CT CM f0 f1 f2 f3 f4 e0 e1 e2 e3 e4)(A1:Df P w K mg base aB 1 "_law_take" ["_law_script","_law_pen","_law_many"] (dH K) a1 d1)(A2:Df P w K mg base aB 8 "_law_plain_rule" ["_law_script","_law_pen","_law_most"] (uc K C) a2 d2)(hr:pj 8 "_law_rule" n8 A s f cdv)
theorem BC:bu (aW aB P w K mg base sO "_law_rule" (aa n8) f cdv A outer s H E).ŋ Ii [("_law_script",s.heap.objs.size+1),("_law_pen",s.heap.objs.size+2),("_law_most",s.heap.objs.size+3)] ["_law_k"] ["_law_most","_law_pen","_law_script"] [2,1,0] :=
 fK (M:=["_law_script","_law_pen","_law_most"]) (L:=[(".0",.local),("_law_k",.local),("_law_plain_rule",.globalImplicit),("max",.globalImplicit),("int",.globalImplicit),("_law_most",.cell),("_law_pen",.cell),("_law_script",.cell)]) rfl rfl av av av rfl rfl rfl av av rfl rfl rfl
theorem BN:bu X Io [] ["_law_one"] [] []:=j7 (L:=[(".0",.local),("_law_one",.local)]) rfl rfl av av av rfl av av
theorem Bt:bu (aW aB P w K mg base sO "_law_rule" (aa n8) f cdv A outer s H E).ŋ Ge [("_law_many",s.heap.objs.size+4)] ["_law_word","_law_folk_here"] ["_law_many"] [4] :=
 fK (M:=["_law_many"]) (L:=[(".0",.local),("_law_word",.local),("_law_folk_here",.local),("_law_many",.cell)]) rfl rfl av av av rfl rfl rfl av av rfl rfl rfl
theorem Bq:bu (bI (aW aB P w K mg base sO "_law_rule" (aa n8) f cdv A outer s H E).ŋ Ge [("_law_many",s.heap.objs.size+4)] ((["_law_word","_law_folk_here"]:List Str)++(["_law_many"]:List Str)) s' H' C1 fp) JJ [("_law_many",s.heap.objs.size+4)] ["_law_place"] ["_law_many"] [2] :=
 fK (M:=["_law_many"]) (L:=[(".0",.local),("_law_place",.local),("_law_many",.cell)]) rfl rfl av av av rfl rfl rfl av av rfl rfl rfl
theorem yS:bu X HY [] ["_law_word","_law_folk_here"] [] []:=j7 (L:=[(".0",.local),("_law_word",.local),("_law_folk_here",.local)]) rfl rfl av av av rfl av av
include A2 hr
theorem JV:Bx (PS (aW aB P w K mg base sO "_law_rule" (aa n8) f cdv A outer s H E).ŋ (pV 0) (zi K C)) :=
 bq A_.nd rfl (.inl rfl) (jM (f8 ⟨cZ A2 hr ak (ac (pv 0) (ac (pv 1) (ac (pv 2) ao)))⟩ ck))
include A1
theorem J4 (mr:mg "range" = none)(mm:mg "max" = none)(mi:mg "int" = none):Bx (PS (aW aB P w K mg base sO "_law_rule" (aa n8) f cdv A outer s H E).ŋ (pV 1) (C9 K C)):=by
 have ĭ:ă 1 _:=hr.mono au;exact kj ⟨ar cj (cZ A1 ĭ ak (ac (pv 0) (ac (pv 1) (ac aF ao)))) aF (ax _)⟩
  (dq (bq A_.nd rfl (.inr rfl) ⟨aE bw aF (cZ A1 ĭ ak (ac (pv 0) (ac (pv 1) (ac aF ao))))⟩)
  (br ⟨nj rfl BC (dI rfl mr (ac (pv 4) ao)) (λ s H C fp=>cq IV rfl (.inl rfl)) (λ s H C fp=>by
   exact cZ A2 hr ak (ac (pv 3) (ac (pv 2) (ac (aj (i9 rfl) rfl mm v_ (ac aF (ac (aE fY (pv 1) (cS fS (bM (ac aF (ac aF ao))) (aN iY rfl mi ŉ (ac (dB f9 (pv 1) aF (ax _)) ao)))) ao))) ao)))) A_.nd rfl (.inl rfl) rfl⟩)) fV
omit A1 A2 hr
theorem Jk (ml:mg "list" = none)(mr:mg "range" = none):Bx (PS (aW aB P w K mg base sO "_law_rule" (aa n8) f cdv A outer s H E).ŋ (pV 4) (xK K)):=by
 have nd:=A_.nd;exact⟨bY .never rfl (aS (pv 3)) (xv rfl (eF (cq nd rfl (.inl rfl)) (eF (cq nd rfl (.inl rfl)) (eF (cq nd rfl (.inl rfl)) aZ))))
  (bU (aw (eG Ü Ć ą bH (pv 5) (ac (aP (ac (pv 7) (ac (aN (iJ rfl) rfl ml Ă (ac (aN gN rfl mr ĸ (ac (pv 6) (ac (aE bw (pv 6) (pv 9)) ao))) ao)) ao))) ao)))
  (aX (gG nd rfl (.inl rfl) (aE bw (pv 6) (pv 9)))))⟩
theorem Jm:Bx (PS (aW aB P w K mg base sO "_law_rule" (aa n8) f cdv A outer s H E).ŋ (pV 5) (zF K)) :=
 bq A_.nd rfl (.inl rfl) ⟨cS fS (cS fS (pv 3) aF) aF⟩
include L A1 hr
theorem Il (ml:mg "len" = none):Bx (PS (aW aB P w K mg base sO "_law_rule" (aa n8) f cdv A outer s H E).ŋ (pV 6) (AY K C CT CM)):=by
 have ĭ:ă 1 _:=hr.mono au;have Pl:ă 5 _:=hr.mono au;exact kj ⟨PW.pt (gR (ar f9 (aj az rfl ml ê (ac (pv 3) ao)) aF (ax _)) (fv (ar cj (cZ A1 ĭ ak (ac (pv 0) (ac (pv 1) (ac aF ao)))) aF (ax _))))⟩
  (br (bq A_.nd rfl (.inl rfl) ⟨eR L.k3 L.g3 Pl rfl L.m3 L.b3 .nil gy (ac (cu rfl BN (aS (pv 3)) (λ s H C fp=>cq Jt rfl (.inl rfl)) (λ s H C fp=>cS fS (pv 0) aF)) ao)⟩)) fV
theorem IQ:Bx (PS (aW aB P w K mg base sO "_law_rule" (aa n8) f cdv A outer s H E).ŋ (pV 7) (A6 K C CN)):=by
 have ĭ:ă 1 _:=hr.mono au;have Pl:ă 5 _:=hr.mono au;exact kj ⟨ar cj (cZ A1 ĭ ak (ac (pv 0) (ac (pv 1) (ac aF ao)))) aF (ax _)⟩
  (dq (bq A_.nd rfl (.inr rfl) ⟨cZ A1 ĭ ak (ac (pv 0) (ac (pv 1) (ac (aE bw (pv 6) aF) ao)))⟩)
  (dq (bq A_.nd rfl (.inl rfl) ⟨eR L.k4 L.g4 Pl rfl L.m4 L.b4 .nil gy (ac (pv 8) (ac (pv 4) ao))⟩)
  (br ⟨nj rfl Bt (aS (pv 5)) (λ s H C fp=>bF rfl (eF (cq Fm rfl (.inl rfl)) (eF (cq Fm rfl (.inl rfl)) aZ))) (λ s H C fp=>by
   exact aP (ac (pv 0) (ac (iu rfl Bq (aS (pv 1)) (λ s H C fp=>cq IO rfl (.inl rfl)) (λ s H C fp=>ar nX (pv 0) (pv 1) (ax _)) (λ s H C fp=>pv 0)) ao))) A_.nd rfl (.inl rfl) rfl⟩))) fV
omit L A1
theorem Ir:Bx (PS (aW aB P w K mg base sO "_law_rule" (aa n8) f cdv A outer s H E).ŋ (pV 8) (yI K)):=by
 have hu:=hr.NG;exact jV (fu (f8 ⟨pv 8⟩ (f8 ⟨iu rfl yS (aS (pv 5)) (λ s H C fp=>bF rfl (eF (cq vN rfl (.inl rfl)) (eF (cq vN rfl (.inl rfl)) aZ))) (λ s H C fp=>ar (kE hu) (pv 1) (bM ao) (ax _)) (λ s H C fp=>aP (ac (pv 0) (ac (pv 1) ao)))⟩ ck)))
include L A1 A2
theorem Ay (mr:mg "range" = none)(mm:mg "max" = none)(mi:mg "int" = none)(ml:mg "list" = none)(mn:mg "len" = none):Bx (Ž (aW aB P w K mg base sO "_law_rule" (aa n8) f cdv A outer s H E).ŋ (aH n8) (Kr K C CN CT CM)) :=
 dq (JV A2 hr) (dq (J4 A1 A2 hr mr mm mi) (dq (bq A_.nd rfl (.inl rfl) ⟨bM ao⟩) (dq (bq A_.nd rfl (.inl rfl) ⟨aF⟩) (dq (Jk ml mr) (dq Jm (dq (Il L A1 hr mn) (dq (IQ L A1 hr) (br (Ir hr)))))))))
end
end
def Oj {α β:Type}(R:α->β->Prop)(xs:List α)(ys:List β):Prop:=xs.length=ys.length/\∀(i:Nat) x y,xs[i]?=some x->ys[i]?=some y->R x y
theorem Oj.nil {α β:Type}{R:α->β->Prop}:Oj R [] []:=⟨rfl,λ i x y h=>by simp at h⟩
theorem Oj.mono {α β:Type}{R S:α->β->Prop}{xs:List α}{ys:List β}(h:Oj R xs ys)(k:∀ x y,R x y->S x y):Oj S xs ys:=⟨h.1,λ i x y a b=>k x y (h.2 i x y a b)⟩
theorem Oj.app {α β:Type}{R:α->β->Prop}{xs:List α}{ys:List β}{x:α}{y:β}(h:Oj R xs ys)(k:R x y):Oj R (xs ++ [x]) (ys ++ [y]):=by
 refine⟨by rw [Í,Í,h.1];rfl,λ i a b ha hb=>?_⟩
 rcases Č i xs.length with lt | ge
 ·rw [é lt] at ha;rw [é (by rw [<- h.1];exact lt)] at hb
  exact h.2 i a b ha hb
 ·rw [Ý ge] at ha;rw [Ý (by rw [<- h.1];exact ge),<- h.1] at hb
  match i-xs.length,ha,hb with
  | 0,ha,hb=>cases ha;cases hb;exact k
  | n+1,ha,hb=>simp at ha
theorem Oj.at {α β:Type}{R:α->β->Prop}{xs:List α}{ys:List β}(h:Oj R xs ys){i:Nat}{x:α}(e:xs[i]?=some x):∃ y,ys[i]?=some y/\R x y:=by
 have l:i<ys.length:=by rw [<- h.1];exact(Å.mp e).1
 exact⟨ys[i],Á l,h.2 i _ _ e (Á l)⟩
theorem lY {m:Int}:∀{rs:List R0},(∀ r∈rs,r.Ñ <= m)->(rs.map R0.Ñ).sum<=rs.length*m
 | [],_=>by simp
 | r::rs,h=>by
  have h1:=h r (ò ..);have h2:=lY λ x hx=>h x (á _ hx);simp only [List.map_cons,List.sum_cons,List.length_cons];have:((rs.length+1:Nat):Int)*m=rs.length*m+m:=by rw [Int.natCast_add,Int.add_mul];omega
  omega
structure Sv (C:Nat->Addr)(G:Hp)(sv:Addr)(rs:List R0):Prop where
 ex:∃ xs,G sv=some (.lst xs)/\Oj (τ C G) xs rs
 l1:1<=rs.length
 l4:rs.length<=4
 ok:∀ r∈rs,r.ok
 sm:(rs.map R0.Ñ).sum<=20
theorem Sv.ext {C:Nat->Addr}{G G':Hp}{sv:Addr}{rs:List R0}(h:Sv C G sv rs)(x:Ext G G'):Sv C G' sv rs:=by
 obtain⟨xs,e,al⟩:=h.ex;exact⟨⟨xs,x _ _ e,al.mono λ _ _ r=>r.ext x⟩,h.l1,h.l4,h.ok,h.sm⟩
section
variable {P:Program}{w:World}{K:Frag}{mg:bC}{base:Heap}{C:Nat->Addr}{CR CN CS CT CM:Addr}{De:bX}{u:TS}{H:Hp}{sA p:Addr}{ns:List Int}{m:Int}{o3 o4 o5 o6 o7 o8 o9:Option V}
theorem AE (sc:Sc K H sA p ns)(m1:1<=m)(m2:m<=20)(k:∀ sv rs H',Sc K H' sA p ns->Ext (wo H p) (wo H' p)->Sv C (wo H' p) sv rs->u De [some (.ref sA),some (.ref p),some (.int m),some (.ref sv),o4,o5,o6,o7,o8,o9] H') :
  aO (zi K C) u De [some (.ref sA),some (.ref p),some (.int m),o3,o4,o5,o6,o7,o8,o9] H:=by
 refine aY ?_;refine⟨_,rfl,_,rfl,_,rfl,sA,p,ns,m,rfl,sc,m1,m2,λ l r H1 ŗ x1 n1 row ok le=>⟨cL,λ sv NS=>?_⟩⟩;have x2:=Ext.new (o:=.lst [V.ref l]) NS;have g2:ad H1 sv (.lst [V.ref l]) sv=some (.lst [V.ref l]):=aM;have nn:=ŗ.bx.ne NS;refine k sv [r] _ (ŗ.ext x2) (x1.trans (bn x2 p)) ⟨⟨_,aJ nn g2,Oj.nil.app (row.ext (bn x2 p))⟩,Ê _,(show 1<=4 by decide),λ r' h=>by rw [ä.mp h];exact ok,?_⟩
 have:=(R0.ď ok).2
 simpa using this
theorem FK {i:Nat}{σ:St}{R:VK}(si:σ[i]?=some (some (.int m)))(m1:1<=m)(m2:m<=20)(k:∀ b H',Ext H H'->1<=b->4*b<=20->R (.int b) H'):KH K i σ H R:=by
 refine⟨_,si,cL,λ l hl=>⟨_,si,_,_,rfl,rfl,.inr ⟨_,rfl,?_⟩⟩⟩;have x1:=Ext.new (o:=.lst [V.int 3,.int 4]) hl;have g1:ad H l (.lst [V.int 3,.int 4]) l=some (.lst [V.int 3,.int 4]):=aM;by_cases e:m>8
 ·rw [Ë e];refine⟨l,_,1,.int 4,rfl,rfl,ç.of g1,dh rfl,_,_,rfl,rfl,⟨au,au⟩,_,_,rfl,?_⟩;refine k _ _ x1 (by split <;> omega) (by split <;> omega)
 ·rw [È e];refine⟨l,_,0,.int 3,rfl,rfl,ç.of g1,dh rfl,_,_,rfl,rfl,⟨au,au⟩,_,_,rfl,?_⟩;refine k _ _ x1 (by split <;> omega) (by split <;> omega)
theorem τ.wt {H:Hp}{D:Addr}{ys:List V}{l:Addr}{r:R0}(h:τ C (wo H p) (.ref l) r)(n:l≠D)(hD:H D=some (.lst ys)):τ C (wt H p D) (.ref l) r:=by
 obtain⟨l',u,e,hl,ru⟩:=h;cases e;refine⟨l,u,rfl,aJ n hl,ru.Ğ λ a o e' nl=>?_⟩;exact aJ (λ z=>by subst z;rw [ah _ _ _ _ e'] at hD;cases hD;exact nl _ rfl) e'
theorem Dx (sc:Sc K H sA p ns)(m1:1<=m)(m2:m<=20){sv:Addr}{rs:List R0}(hv:Sv C (wo H p) sv rs)(k:∀ sv rs o4 H',Sc K H' sA p ns->Ext (wo H p) (wo H' p)->Sv C (wo H' p) sv rs->u De [some (.ref sA),some (.ref p),some (.int m),some (.ref sv),o4,o5,o6,o7,o8,o9] H') :
  aO (C9 K C) u De [some (.ref sA),some (.ref p),some (.int m),some (.ref sv),o4,o5,o6,o7,o8,o9] H:=by
 refine bo sc rfl rfl (λ R r=>r) au au λ z H1 z0 z3 ŗ k1=>⟨rfl,_,rfl,?_⟩;have xa:=aL k1;by_cases ez:z=0
 ·rw [Ë (by rw [ez])]
  refine cy ?_;refine aY (te:=kJ (gk K (tC (.int 4)))) (i:=4) ?_;refine bo ŗ rfl rfl (λ R r=>r) au au λ y H2 y0 y4 Τ k2=>⟨_,_,rfl,rfl,?_⟩;have xb:=xa.trans (aL k2);refine⟨_,rfl,1+y,rfl,ai,ai,λ D hD=>?_⟩;have nD:=Τ.bx.ne hD;obtain⟨n,rfl⟩:∃ n:Nat,y=(n:Int):=⟨y.toNat,ai⟩;have en:(1+(n:Int)).toNat=n+1:=ai;rw [en];have woD:wo H p D=none:=by
   cases e:wo H p D with
   | none=>rfl
   | some o=>have:=ah _ _ _ _ (xb _ _ e);rw [hD] at this;cases this
  refine i8 (lo:=0) (n:=n+1) (λ i ys H'=>Sc K H' sA p ns/\Ext (wo H p) (wo H' p)/\∃ rs,rs.length=i/\Oj (τ C (wt H' p D)) ys rs/\∀ r∈rs,r.ok/\r.Ñ <= 5) (by rw [Ö];omega) ?_ ?_ ?_
  ·have x3:=Ext.new (o:=.lst []) hD;exact⟨Τ.ext x3,xb.trans (bn x3 p),[],rfl,Oj.nil,λ r h=>nomatch h⟩
  ·rintro i ys H' hi ly Ġ ⟨OK,x',Va,lr,al,good⟩ os ŀ R k';obtain⟨o0,rfl⟩:∃ o0,os=[o0]:=by
    match os,ŀ with
    | [o0],_=>exact⟨o0,rfl⟩
   refine⟨⟨[_],rfl,rfl⟩,_,rfl,_,rfl,?_⟩;refine FK (i:=1) rfl m1 m2 λ b H5 x5 b1 b4=>⟨sA,p,ns,b,rfl,OK.ext x5,b1,ai,λ l r H6 Pb x6 n6 row ok le=>?_⟩;have Yb:=aJ nD (x5 _ _ Ġ);have Ya:H6 D=some (.lst ys):=ah _ _ _ _ (x6 _ _ Yb);have lD:l≠D:=λ e=>by rw [e,Yb] at n6;cases n6
   have x7:Ext (wt H' p D) (wt H6 p D):=aL (((bn x5 p).trans x6).kept D);have Vc:=row.wt lD Ya;have xf:Ext (wo H p) (wo (ad H6 D (.lst (ys ++ [.ref l]))) p):=λ b o e=>by
    have n1:b≠D:=λ z=>by rw [z,woD] at e;cases e
    have e2:=((x'.trans (bn x5 p)).trans x6) _ _ e;exact aJ (eL e) (by rw [af n1];exact ah _ _ _ _ e2)
   refine k' _ H6 Ya ⟨sc.RU xf (Pb.bx.up nD),xf,Va ++ [r],by rw [Í,lr];rfl,?_,λ r' h=>?_⟩
   ·exact((al.mono λ _ _ q=>q.ext x7).app Vc).mono λ _ _ q=>q.ext oM
   ·rcases ģ.mp h with h | h
    ·exact good r' h
    ·rw [ä.mp h];exact⟨ok,ai⟩
  ·rintro ys H' ly Ġ ⟨OK,x',Va,lr,al,good⟩;refine k D Va _ H' OK x' ⟨⟨ys,aJ nD Ġ,al.mono λ _ _ q=>q.ext (ah _ _)⟩,ai,ai,λ r h=>(good r h).1,?_⟩;have:=lY λ r h=>(good r h).2;omega
 ·rw [È (λ h=>ez (V.int.inj h))];exact bZ (k sv rs _ H1 ŗ xa (hv.ext xa))
end
abbrev Bk:=Str × List Int
def gV (b:Bk):PyData:=.tuple [.str b.1,nH b.2]
def gi (rs:List R0):List Bk:=(rs.map R0.word).zip (cX 0 (rs.map R0.Ñ))
def iO (m:Int)(B:List Bk):List Bk:=B.map λ b=>(b.1,b.2.filter λ x=>decide (x<m))
def ie (B:List Bk):List Bk:=B.filter λ b=>!b.2.isEmpty
def Rl.bl:Rl->List Bk
 | .one r=>[(r.word,c5 0 r.Ñ.toNat)]
 | .blocks rs=>gi rs
 | .first t m=>ie (iO m t.bl)
theorem nM (rs:List R0):(gi rs).length=rs.length:=by
 unfold gi;rw [Op,Â,fc,Â,Nat.min_self]
theorem nY (rs:List R0)(r:R0):gi (rs ++ [r])=gi rs ++ [(r.word,c5 ((rs.map R0.Ñ).sum) r.Ñ.toNat)]:=by
 unfold gi;rw [Ì,Ì];show((rs.map R0.word) ++ [r.word]).zip (cX 0 (rs.map R0.Ñ ++ [r.Ñ]))=_;rw [jD,List.zip_append (by rw [Â,fc,Â])]
 rw [Ŕ];rfl
theorem AX (h:1<=n):c5 lo n ≠ []:=λ e=>by
 have:=ġ List.length e;unfold c5 at this;rw [Â,List.length_range] at this;simp at this;omega
theorem l7:∀(ns:List Int)(s:Int),(∀ n∈ns,1<=n)->∀ p∈cX s ns,p ≠ []
 | [],_,_,p,h=>nomatch h
 | n::ns,s,h,p,hp=>by
  rcases ë.mp hp with rfl | hp
  ·exact AX (by have:=h n (ò ..);omega)
  ·exact l7 ns (s+n) (λ x hx=>h x (á _ hx)) p hp
theorem uj (ok:∀ r∈rs,r.ok):ie (gi rs)=gi rs:=by
 unfold ie;rw [List.filter_eq_self];intro b hb;have h2:=(Ŝ hb).2;have:=l7 _ 0 (λ n hn=>by
  obtain⟨r,hr,rfl⟩:=ð.mp hn;exact(R0.ď (ok r hr)).1) _ h2
 cases e:b.2 with
 | nil=>exact absurd e this
 | cons _ _=>rfl
section
variable {P:Program}{w:World}{K:Frag}{mg:bC}{base:Heap}{C:Nat->Addr}{CR CN CS CT CM:Addr}{De:bX}{u:TS}{H:Hp}{sA p:Addr}{ns:List Int}{m:Int}{o0 o1 o2 o3 o4 o5 o6 o7 o8 o9:Option V}
theorem jc (r:Ĝ G x (gV b)):∃ a l,x=.ref a/\G a=some (.tup [.str b.1,.ref l])/\G l=some (.lst (b.2.map V.int)):=by
 obtain⟨a,xs,rfl,ha,rs⟩:=mq r;cases rs with
 | cons r1 rs =>
  cases rs with
  | cons r2 rs =>
   cases rs;cases r1;cases r2 with
   | lst hl ra=>exact⟨a,_,rfl,ha,by rw [<- mX ra];exact hl⟩
theorem oC (ha:G a=some (.tup [.str b.1,.ref l]))(hl:G l=some (.lst (b.2.map V.int))):Ĝ G (.ref a) (gV b):=.tup ha (.cons (.str _) (.cons (.lst hl (c8 G _)) .nil))
theorem AV (sc:Sc K H sA p ns)(hv:Sv C (wo H p) sv rs)(k:∀ bl ys o7 o8 o9 H',Sc K H' sA p ns->Ext (wo H p) (wo H' p)->wo H' p bl=some (.lst ys)->Ù (wo H' p) ys ((gi rs).map gV)->u De [some (.ref sA),some (.ref p),o2,some (.ref sv),o4,some (.ref bl),some (.int (rs.map R0.Ñ).sum),o7,o8,o9] H') :
  aO (cR (cg aK) (ba 5)) (aO (cR (tC (.int 0)) (ba 6)) (aO (xK K) u)) De [some (.ref sA),some (.ref p),o2,some (.ref sv),o4,o5,o6,o7,o8,o9] H:=by
 refine aY (te:=cg aK) (i:=5) ⟨cL,λ bl PO=>?_⟩;have x1:=Ext.new (o:=.lst []) PO;have g1:ad H bl (.lst []) bl=some (.lst []):=aM;have nb:=sc.bx.ne PO;refine aY (te:=tC (.int 0)) (i:=6) ?_;show aO (xK K) u De [some (.ref sA),some (.ref p),o2,some (.ref sv),o4,some (.ref bl),some (.int 0),o7,o8,o9] (ad H bl (.lst []));have ŗ:=sc.ext x1;generalize ad H bl (.lst [])=H1 at x1 g1 ŗ ⊢;obtain⟨xs,NS,al⟩:=hv.ex;have l4:=hv.l4;have wob:wo H p bl=none:=by
  cases e:wo H p bl with
  | none=>rfl
  | some o=>have:=ah _ _ _ _ e;rw [PO] at this;cases this
 refine⟨_,rfl,sv,rfl,⟨xs,ç.of (x1 _ _ (ah _ _ _ _ NS))⟩,eV (xs:=xs) (λ i σ H'=>∃ ys o7 o8 o9,σ=[some (.ref sA),some (.ref p),o2,some (.ref sv),o4,some (.ref bl),some (.int ((rs.take i).map R0.Ñ).sum),o7,o8,o9]/\Sc K H' sA p ns/\Ext (wo H p) (wo H' p)/\H' bl=some (.lst ys)/\ys.length=i/\Ù (wt H' p bl) ys ((gi (rs.take i)).map gV)) ⟨[],_,_,_,rfl,ŗ,bn x1 p,g1,rfl,.nil⟩ ?_ ?_ ?_⟩
 ·rintro i σ H' _ ⟨ys,o7,o8,o9,rfl,OK,x',_⟩;exact ç.of (ah _ _ _ _ (x' _ _ NS))
 ·rintro i x σ H' ex ⟨ys,o7,o8,o9,rfl,OK,x',hb,ly,ra⟩;obtain⟨r,er,l,uu,rfl,hl,ru⟩:=al.at ex;have li:i<xs.length:=(Å.mp ex).1;have lxr:=al.1;have Vd:=R0.ď (hv.ok r (å er));have smb:0<=((rs.take i).map R0.Ñ).sum/\((rs.take i).map R0.Ñ).sum<=80:=by
   refine⟨cM λ n hn=>?_,?_⟩
   ·obtain⟨r',Na,rfl⟩:=ð.mp hn;have:=R0.ď (hv.ok r' (G_ Na));omega
   ·have h1:=lY (m:=20) (rs:=rs.take i) λ r' Na=>(R0.ď (hv.ok r' (G_ Na))).2;have:(rs.take i).length<=4:=by rw [Ā];omega
    omega
  refine⟨l,_,rfl,ç.of (ah _ _ _ _ (x' _ _ hl)),rfl,_,_,rfl,_,_,rfl,_,_,rfl,rfl,?_⟩;show yA K _ [some (.ref sA),some (.ref p),o2,some (.ref sv),o4,some (.ref bl),some (.int ((rs.take i).map R0.Ñ).sum),some (.str r.word),some uu,some (.int r.Ñ)] H';refine⟨_,rfl,.inl ⟨rfl,_,ç.of hb⟩,_,rfl,_,rfl,_,rfl,_,rfl,_,_,rfl,rfl,_,_,rfl,λ rg V7=>?_⟩;have x2:=Ext.new (o:=.Mc ((rs.take i).map R0.Ñ).sum (((rs.take i).map R0.Ñ).sum+r.Ñ)) V7;have g2:ad H' rg (.Mc ((rs.take i).map R0.Ñ).sum (((rs.take i).map R0.Ñ).sum+r.Ñ)) rg=some (.Mc ((rs.take i).map R0.Ñ).sum (((rs.take i).map R0.Ñ).sum+r.Ñ)):=aM;have Τ:=OK.ext x2;have Mf:=x2 _ _ hb;generalize ad H' rg (.Mc ((rs.take i).map R0.Ñ).sum (((rs.take i).map R0.Ñ).sum+r.Ñ))=H2 at x2 g2 Τ Mf ⊢;refine⟨rg,_,_,rfl,g2,ai,ai,λ pl ź=>?_⟩;have ef:(((rs.take i).map R0.Ñ).sum+r.Ñ - ((rs.take i).map R0.Ñ).sum).toNat=r.Ñ.toNat:=by congr 1;omega
  rw [ef,mh];have x3:=Ext.new (o:=.lst ((c5 ((rs.take i).map R0.Ñ).sum r.Ñ.toNat).map V.int)) ź;have g3:ad H2 pl (.lst ((c5 ((rs.take i).map R0.Ñ).sum r.Ñ.toNat).map V.int)) pl=some (.lst ((c5 ((rs.take i).map R0.Ñ).sum r.Ñ.toNat).map V.int)):=aM;have B':=Τ.ext x3;have np3:=Τ.bx.ne ź;have nb3:pl≠bl:=λ e=>by rw [e,Mf] at ź;cases ź
  have Te:=x3 _ _ Mf;generalize ad H2 pl (.lst ((c5 ((rs.take i).map R0.Ñ).sum r.Ñ.toNat).map V.int))=H3 at x3 g3 B' Te ⊢;refine⟨cL,λ t ht=>?_⟩;have x4:=Ext.new (o:=.tup [.str r.word,.ref pl]) ht;have g4:ad H3 t (.tup [.str r.word,.ref pl]) t=some (.tup [.str r.word,.ref pl]):=aM;have Ov:=B'.ext x4;have np4:=B'.bx.ne ht;have nb4:t≠bl:=λ e=>by rw [e,Te] at ht;cases ht
  have X3:=x4 _ _ Te;have Uz:=x4 _ _ g3;generalize ad H3 t (.tup [.str r.word,.ref pl])=H4 at x4 g4 Ov X3 Uz ⊢;have xx:=(x2.trans x3).trans x4;have xf:Ext (wo H p) (wo (ad H4 bl (.lst (ys ++ [.ref t]))) p):=λ b o e=>by
   have n1:b≠bl:=λ z=>by rw [z,wob] at e;cases e
   have e2:=(x'.trans (bn xx p)) _ _ e;exact aJ (eL e) (by rw [af n1];exact ah _ _ _ _ e2)
  refine⟨bl,ys,.ref t,rfl,rfl,X3,by rw [Ö];omega,?_⟩
  refine⟨_,rfl,_,rfl,_,_,rfl,rfl,ys ++ [.ref t],some (.str r.word),some uu,some (.int r.Ñ),?_,sc.RU xf (Ov.bx.up nb),xf,aM,by rw [Í,ly];rfl,?_⟩
  ·have et:((rs.take (i+1)).map R0.Ñ).sum=((rs.take i).map R0.Ñ).sum+r.Ñ:=by
    rw [aC er,Ì,ś];simp
   rw [et];rfl
  ·rw [aC er,nY,Ì];refine((ra.mono (oB xx p bl)).append (.cons ?_ .nil)).mono oM;exact oC (jf np4 nb4 g4) (jf np3 nb3 Uz)
 ·rintro σ H' ⟨ys,o7,o8,o9,rfl,OK,x',hb,ly,ra⟩;rw [al.1,Ú] at ra ⊢;exact k bl ys _ _ _ H' OK x' (aJ nb hb) (ra.mono (ah _ _))
end
section
variable {K:Frag}{te:TE}{tt:TT}{cap:St}{D:Addr}{H1:Hp}{Q:Hp->Prop}{a:Addr}{xs:List V}
theorem xi (p:V->Bool)(hz:xs.length<sizeLine)(h1:H1 a=some (.lst xs))(hD:H1 D=none)
  (hs:∀(i:Nat) x H,xs[i]?=some x->Ext H1 H->∀ R:Bool->Hp->Prop,R (p x) H->tt (some x::cap) H R)
  (hd:∀ H,Ext H1 H->H D=some (.lst (xs.filter p))->Q H) :
  ∃ W:Nat->Nat->List V->Hp->Prop,(∃ m,W 0 m [] (ad H1 D (.lst []))) /\
   ∀ i m ys H2,W i m ys H2->H2 D=some (.lst ys)/\(((nt K a).stop i H2/\Q H2)\/((nt K a).go i H2/\ys.length<sizeLine /\
    ∀ x H3,(nt K a).MJ i H2 x H3->tt (some x::cap) H3 λ b H0=>(b=false->∃ m',m'<m/\W (i+1) m' ys H0) /\
     (b=true->ag 0 (some x::cap) H0 λ y H4=>H4 D=some (.lst ys)/\∃ m',m'<m/\W (i+1) m' (ys ++ [y]) (ad H4 D (.lst (ys ++ [y])))))):=by
 refine⟨λ i m ys H=>m=xs.length-i/\i<=xs.length/\ys.length<=i/\H D=some (.lst ys)/\Ext H1 H/\ys=(xs.take i).filter p,⟨xs.length,by simp,Nat.zero_le _,Nat.le_refl _,aM,.new hD,rfl⟩,?_⟩
 rintro i m ys H ⟨rfl,hi,hy,Nz,x',ey⟩;refine⟨Nz,?_⟩;have q:ç K H a xs:=ç.of (x' _ _ h1);by_cases ŵ:i<xs.length
 ·refine .inr ⟨⟨xs,xs[i],q,by simp [ŵ]⟩,ai,λ x H' y=>?_⟩
  obtain⟨e,y⟩:=y;subst e;have ex:=y xs q;have et:(xs.take (i+1)).filter p=(xs.take i).filter p++(if p x then [x] else []):=by
   rw [aC ex,Š,Ļ,r_]
  refine hs i x _ ex x' _ ⟨λ b=>⟨xs.length-(i+1),ai,rfl,ŵ,ai,Nz,x',?_⟩,λ b=>⟨x,rfl,Nz,xs.length-(i+1),ai,rfl,ŵ,by rw [Í];show ys.length+1<=i+1;omega,aM,aI _ x' hD,?_⟩⟩
  ·rw [et,b,ey];simp
  ·rw [et,b,ey];simp
 ·have e:i=xs.length:=ai;subst e;rw [Ú] at ey;subst ey;exact .inl ⟨⟨xs,q,Ê _⟩,hd H x' Nz⟩
theorem oR (p:V->Bool)(hz:xs.length<sizeLine)(h1:H1 a=some (.lst xs))(hD:H1 D=none)
  (hs:∀(i:Nat) x H,xs[i]?=some x->Ext H1 H->∀ R:Bool->Hp->Prop,R (p x) H->tt (some x::cap) H R)
  (hd:∀ H,Ext H1 H->H D=some (.lst (xs.filter p))->Q H) :
  ∃ W:Nat->Nat->List V->Hp->Prop,(∃ m,W 0 m [] (ad H1 D (.lst []))) /\
   ∀ i m ys H2,W i m ys H2->H2 D=some (.lst ys)/\(((nt K a).stop i H2/\Q H2)\/((nt K a).go i H2/\ys.length<sizeLine /\
    ∀ x H3,(nt K a).MJ i H2 x H3->∀ os:St,os.length=1->ba 0 x (os++cap) H3 λ Ĵ H0=>(∃ ō:St,ō.length=1/\Ĵ = ō ++ cap)/\tt Ĵ H0 λ b H5=>(b=false->∃ m',m'<m/\W (i+1) m' ys H5) /\
     (b=true->ag 0 Ĵ H5 λ y H4=>H4 D=some (.lst ys)/\∃ m',m'<m/\W (i+1) m' (ys ++ [y]) (ad H4 D (.lst (ys ++ [y])))))):=by
 obtain⟨W,w0,turn⟩:=xi p hz h1 hD hs hd;refine⟨W,w0,λ i m ys H2 w=>?_⟩;obtain⟨Ŧ,alt⟩:=turn i m ys H2 w;refine⟨Ŧ,?_⟩;rcases alt with a | ⟨go,hl,st⟩
 ·exact .inl a
 ·refine .inr ⟨go,hl,λ x H3 y os ŀ=>?_⟩;obtain⟨o,rfl⟩:∃ o,os=[o]:=by
   match os,ŀ with
   | [o],_=>exact⟨o,rfl⟩
  exact⟨⟨[some x],rfl,rfl⟩,st x H3 y⟩
end
def Rl.plain1:Rl->Prop
 | .first _ _=>False
 | _=>True
def Rl.flat:Rl->Prop
 | .first t _=>t.plain1
 | _=>True
theorem Ru.wo (h:Ru C H t v)(b:Ľ H p):Ru C (wo H p) t v:=h.Ğ λ a o e n=>by
 obtain⟨_,_,_,hp,_⟩:=b.ex;exact aJ (λ z=>by subst z;rw [hp] at e;cases e;exact n _ rfl) e
section
variable {P:Program}{w:World}{K:Frag}{mg:bC}{base:Heap}{C:Nat->Addr}{CR CN CS CT CM:Addr}{De:bX}{u:TS}{H:Hp}{sA p:Addr}{ns:List Int}{m:Int}{o0 o1 o2 o3 o4 o5 o6 o7 o8 o9:Option V}
theorem zY (s3:σ[3]?=some (some (.ref sv)))(hv:Sv C (wo H p) sv rs)(k:∀ x H',Ext H H'->Ru C H' (.blocks rs) (.ref x)->Q (.ref x) H'):dD (C 3) (ko K C CT CM) [] E0 (am (dW (bL K (ag 3)) 1 [] (ba 0) (Ar K)) aK) σ H Q:=by
 obtain⟨xs,NS,al⟩:=hv.ex;have l4:=hv.l4;have lx:=al.1;refine⟨_,s3,sv,rfl,⟨xs,ç.of (ah _ _ _ _ NS)⟩,λ D hD=>?_⟩;refine bD (λ i ys H'=>Ext H H'/\ε C (wo H p) (rs.take i) ys) (by rw [Ö];omega) ⟨.new hD,rfl,λ i r w h=>by simp at h⟩ (λ i ys H' pv=>ç.of (pv.1 _ _ (ah _ _ _ _ NS))) ?_ ?_
 ·rintro i x ys H' ex ly Ġ ⟨x',all⟩ os ŀ R k';obtain⟨o0,rfl⟩:∃ o0,os=[o0]:=by
   match os,ŀ with
   | [o0],_=>exact⟨o0,rfl⟩
  obtain⟨r,er,l,uu,rfl,hl,ru⟩:=al.at ex;refine⟨⟨[some (.ref l)],rfl,rfl⟩,_,rfl,l,_,_,_,rfl,rfl,ç.of (x' _ _ (ah _ _ _ _ hl)),dh rfl,?_⟩;refine k' _ H' Ġ ⟨aI _ x' hD,?_⟩;rw [aC er];exact oY all ru
 ·rintro ys H' ly Ġ ⟨x',all⟩;rw [lx,Ú] at all;refine λ x dx hx hd ne=>jW hx hd ne Ġ (all.ext ((ah _ _).trans x')) ⟨hv.l1,ai,hv.ok,hv.sm⟩ λ H2 x2 ru=>⟨rfl,k x H2 (x'.trans x2) ru⟩
theorem Dt (sc:Sc K H sA p ns)(hv:Sv C (wo H p) sv rs)(k:∀ v t H',Sc K H' sA p ns->Ext (wo H p) (wo H' p)->Ru C (wo H' p) t v->t.plain1->t.ok->t.bl=gi rs->t.Ñ =(rs.map R0.Ñ).sum->u De [some (.ref sA),some (.ref p),o2,some (.ref sv),o4,o5,o6,o7,some v,o9] H') :
  aO (zF K) (aO (AY K C CT CM) u) De [some (.ref sA),some (.ref p),o2,some (.ref sv),o4,o5,o6,o7,o8,o9] H:=by
 obtain⟨xs,NS,al⟩:=hv.ex;have lx:=al.1;have l1:=hv.l1;have l0:0<xs.length:=ai;obtain⟨r0,er0,l,uu,e0,hl,ru⟩:=al.at (Á l0);refine aY ?_;refine⟨_,rfl,sv,_,_,_,rfl,rfl,ç.of (ah _ _ _ _ NS),dh (Á l0),l,_,_,_,e0,rfl,ç.of (ah _ _ _ _ hl),dh rfl,?_⟩;have many:∀(H1:Hp)(o8:Option V)(WX:bX),WX.nx=u De->Sc K H1 sA p ns->Ext (wo H p) (wo H1 p)->cR (dD (C 3) (ko K C CT CM) [] E0 (am (dW (bL K (ag 3)) 1 [] (ba 0) (Ar K)) aK)) (ba 8) WX [some (.ref sA),some (.ref p),o2,some (.ref sv),o4,o5,o6,o7,o8,o9] H1:=by
  intro H1 o8 WX PP ŗ x1;refine zY rfl (hv.ext x1) λ x H2 x2 ru2=>?_;rw [PP];have l4:=hv.l4;exact k (.ref x) (.blocks rs) H2 (ŗ.ext x2) (x1.trans (bn x2 p)) (ru2.wo (ŗ.ext x2).bx) trivial ⟨hv.l1,ai,hv.ok,hv.sm⟩ rfl rfl
 refine⟨_,rfl,sv,xs,rfl,.inl (ç.of (ah _ _ _ _ NS)),_,_,rfl,rfl,_,rfl,?_⟩;by_cases hx:((xs.length:Nat):Int)>1
 ·rw [Ë hx];exact cy (cy (many H _ _ rfl sc (.refl _)))
 ·rw [È hx];refine bZ (bo sc rfl rfl (λ R r=>r) au au λ z H1 z0 z3 ŗ k1=>⟨rfl,_,rfl,?_⟩);by_cases ez:z=0
  ·rw [Ë (by rw [ez])]
   exact cy (many H1 _ _ rfl ŗ (aL k1))
  ·rw [È (λ h=>ez (V.int.inj h))];have er:rs=[r0]:=by
    match rs,er0,(by omega:rs.length=1) with
    | [r],e,_=>cases e;rfl
   subst er;refine bZ (k uu (.one r0) H1 ŗ (aL k1) (ru.ext (aL k1)) trivial (hv.ok r0 (ä.mpr rfl)) ?_ ?_)
   ·rfl
   ·show r0.Ñ =([r0].map R0.Ñ).sum;simp
def KB (m:Int):V->Bool
 | .int i=>decide (i<m)
 | _=>false
theorem z8 (s5:σ[5]?=some (some (.ref bl)))(s4:σ[4]?=some (some (.int m)))(b:Ľ H p)(hb:wo H p bl=some (.lst ys))(ra:Ù (wo H p) ys (B.map gV))(l6:B.length<=6)(ME:∀ b∈B,b.2.length<=20)(k:∀ D zs H',Ext H H'->wo H' p D=some (.lst zs)->Ù (wo H' p) zs ((iO m B).map gV)->Q (.ref D) H') :
  dW (bL K (ag 5)) 2 [4] (FR K) (B3 K) σ H Q:=by
 have ly:=ra.length;rw [Â] at ly;refine⟨_,s5,bl,rfl,⟨ys,ç.of (ah _ _ _ _ hb)⟩,λ D hD=>?_⟩;have nD:=b.ne hD;have ec:cV [4] σ=[some (.int m)]:=by unfold cV;rw [ï,s4];rfl
 rw [ec];refine bD (a:=bl) (xs:=ys) (λ i zs H'=>Ext H H'/\Ù (wt H' p D) zs ((iO m (B.take i)).map gV)) (by rw [Ö];omega) ⟨.new hD,.nil⟩ (λ i zs H' pv=>ç.of (pv.1 _ _ (ah _ _ _ _ hb))) ?_ ?_
 ·rintro i x zs H' ex lz Ġ ⟨x',rz⟩ os ŀ R k';obtain⟨o0,o1,rfl⟩:∃ o0 o1,os=[o0,o1]:=by
   match os,ŀ with
   | [o0,o1],_=>exact⟨o0,o1,rfl⟩
  obtain⟨d,ed,rd⟩:=ra.get ex;rw [Ç] at ed;obtain⟨bk,ebk,rfl⟩:=Ð.mp ed;obtain⟨a,l,rfl,ha,hl⟩:=jc rd;have lb:=ME bk (å ebk);refine⟨a,_,rfl,đ.of (x' _ _ (ah _ _ _ _ ha)),rfl,_,_,rfl,_,_,rfl,rfl,⟨[some (.str bk.1),some (.ref l)],rfl,rfl⟩,_,rfl,?_⟩;refine⟨_,rfl,l,rfl,⟨_,ç.of (x' _ _ (ah _ _ _ _ hl))⟩,λ D2 Ŧ=>?_⟩;refine oR (KB m) (by rw [Ö,Â];omega) (x' _ _ (ah _ _ _ _ hl)) Ŧ ?_ ?_
  ·rintro j v H2 ev x2 R2 r2;rw [Ç] at ev;obtain⟨n,en,rfl⟩:=Ð.mp ev;exact⟨_,rfl,_,rfl,_,_,rfl,rfl,_,rfl,r2⟩
  ·intro H2 x2 Tf;rw [fj (λ x=>decide (x<m)) (KB m) (λ _=>rfl)] at Tf;have nD2:D2≠D:=λ e=>by rw [e,Ġ] at Ŧ;cases Ŧ
   have b2:=b.ext x';have Vv:=b2.ne Ŧ;refine⟨cL,λ t ht=>?_⟩;have x3:=Ext.new (o:=.tup [.str bk.1,.ref D2]) ht;have g3:ad H2 t (.tup [.str bk.1,.ref D2]) t=some (.tup [.str bk.1,.ref D2]):=aM;have Vo:t≠D:=λ e=>by rw [e,x2 _ _ Ġ] at ht;cases ht
   have Vn:=(b2.ext x2).ne ht;generalize ad H2 t (.tup [.str bk.1,.ref D2])=H3 at x3 g3 ⊢;have NF:=x2.trans x3;refine k' _ H3 (NF _ _ Ġ) ⟨aI _ (x'.trans NF) hD,?_⟩;have et:iO m (B.take (i+1))=iO m (B.take i) ++ [(bk.1,bk.2.filter λ x=>decide (x<m))]:=by
    unfold iO;rw [aC ebk,Ì];rfl
   rw [et,Ì];refine((rz.mono (oB NF p D)).append (.cons ?_ .nil)).mono oM;exact oC (jf Vn Vo g3) (jf Vv nD2 (x3 _ _ Tf))
 ·rintro zs H' lz Ġ ⟨x',rz⟩;rw [ly,Ú] at rz;exact k D zs H' x' (aJ nD Ġ) (rz.mono (ah _ _))
theorem v5 (h:te σ H λ x H1=>g x σ H1 De.nx):cR te g De σ H:=h
theorem yQ (sc:Sc K H sA p ns)(ru:Ru C (wo H p) t v)(pl:t.plain1)(ok:t.ok)(eb:t.bl=gi rs)(Vd:∀ r∈rs,r.ok)(l4:rs.length<=4)(hb:wo H p bl=some (.lst ys))(ra:Ù (wo H p) ys ((gi rs).map gV))
  (k:∀ v t o4 bl ys B H',Sc K H' sA p ns->Ext (wo H p) (wo H' p)->Ru C (wo H' p) t v->t.flat->t.ok->B.length<=4->(∀ b∈B,b.2.length<=20)->wo H' p bl=some (.lst ys)->Ù (wo H' p) ys (B.map gV)->ie B=t.bl->u De [some (.ref sA),some (.ref p),o2,o3,o4,some (.ref bl),o6,o7,some v,o9] H')(s6:o6=some (.int t.Ñ)) :
  aO (A6 K C CN) u De [some (.ref sA),some (.ref p),o2,o3,o4,some (.ref bl),o6,o7,some v,o9] H:=by
 subst s6;have fk:=Rl.ď ok;have lB:(gi rs).length<=4:=by rw [nM];exact l4
 have ME:∀ b∈gi rs,b.2.length<=20:=λ b hb=>j5 _ 0 (λ n hn=>by
  obtain⟨r,hr,rfl⟩:=ð.mp hn;exact(R0.ď (Vd r hr)).2) _ (Ŝ hb).2
 refine bo sc rfl rfl (λ R r=>r) au au λ z H1 z0 z3 ŗ k1=>⟨rfl,_,rfl,?_⟩;have xa:=aL k1;by_cases ez:z=0
 ·rw [Ë (by rw [ez])]
  refine cy ?_;refine aY (te:=gk K (aQ (dR λ i j=>.int (i+j)) (ag 6) (tC (.int 1)))) (i:=4) ?_;refine bo (m:=t.Ñ + 1) ŗ rfl rfl (λ R r=>⟨_,rfl,_,_,rfl,rfl,r⟩) ai ai λ y H2 y0 ym Τ k2=>?_;have xb:=xa.trans (aL k2);refine aY (te:=dD (C 4) (n4 C CN) [] E0 (am (ag 8) (am (ag 4) aK))) (i:=8) ?_;have Xq:(Rl.first t y).ok:=⟨ok,y0,ai⟩;refine⟨_,rfl,_,rfl,λ x dx hx hd ne=>sr hx hd ne ((ru.ext xb).ext (ah _ _)) Xq λ H3 x3 ru3=>⟨rfl,?_⟩⟩;have B':=Τ.ext x3;have xc:=xb.trans (bn x3 p);refine v5 (te:=dW (bL K (ag 5)) 2 [4] (FR K) (B3 K)) (g:=ba 5) ?_;refine z8 (p:=p) rfl rfl B'.bx (xc _ _ hb) (ra.mono xc) ai ME λ D zs H4 x4 hD rz=>?_;have Ov:=B'.ext x4;refine k (.ref x) (.first t y) (some (.int y)) D zs (iO y (gi rs)) H4 Ov (xc.trans (bn x4 p)) ((ru3.wo B'.bx).ext (bn x4 p)) pl Xq (by unfold iO;rw [Â];exact lB) (λ b hb=>?_) hD rz (by show _=ie (iO y t.bl);rw [eb])
  obtain⟨b',Wv,rfl⟩:=ð.mp hb;exact õ (ĥ _ _) (ME b' Wv)
 ·rw [È (λ h=>ez (V.int.inj h))];refine bZ (k v t _ bl ys (gi rs) H1 ŗ xa (ru.ext xa) ?_ ok lB ME (xa _ _ hb) (ra.mono xa) (by rw [uj Vd,eb]))
  cases t with
  | one r=>trivial
  | blocks rs=>trivial
  | first t m=>exact pl.elim
theorem CJ (sc:Sc K H sA p ns)(l4:B.length<=4)(ME:∀ b∈B,b.2.length<=20)(hb:wo H p bl=some (.lst ys))(ra:Ù (wo H p) ys (B.map gV))
  (k:∀ a D zs H',Ext H H'->H D=none->wo H' p a=some (.tup [v,.ref D])->wo H' p D=some (.lst zs)->Ù (wo H' p) zs ((ie B).map gV)->De.rt (.ref a) H'):yI K De [o0,o1,o2,o3,o4,some (.ref bl),o6,o7,some v,o9] H:=by
 have ly:=ra.length;rw [Â] at ly;refine⟨_,rfl,_,rfl,bl,rfl,⟨ys,ç.of (ah _ _ _ _ hb)⟩,λ D hD=>?_⟩;have nD:=sc.bx.ne hD;refine se (a:=bl) (xs:=ys) (λ i zs H'=>Ext H H'/\Ù (wt H' p D) zs ((ie (B.take i)).map gV)) (by rw [Ö];omega) ⟨Ext.new hD,.nil⟩ (λ i zs H' pv=>ç.of (pv.1 _ _ (ah _ _ _ _ hb))) ?_ ?_
 ·rintro i x zs H' ex lz Ġ ⟨x',rz⟩ os ŀ N kN;obtain⟨o0,o1,rfl⟩:∃ o0 o1,os=[o0,o1]:=by
   match os,ŀ with
   | [o0,o1],_=>exact⟨o0,o1,rfl⟩
  obtain⟨d,ed,rd⟩:=ra.get ex;rw [Ç] at ed;obtain⟨bk,ebk,rfl⟩:=Ð.mp ed;obtain⟨a,l,rfl,ha,hl⟩:=jc rd;refine⟨a,_,rfl,đ.of (x' _ _ (ah _ _ _ _ ha)),rfl,_,_,rfl,_,_,rfl,rfl,⟨[some (.str bk.1),some (.ref l)],rfl,rfl⟩,_,rfl,cL,λ q hq=>?_⟩;have x2:=Ext.new (o:=.lst []) hq;have g2:ad H' q (.lst []) q=some (.lst []):=aM;generalize ad H' q (.lst [])=H2 at x2 g2 ⊢;have et:ie (B.take (i+1))=ie (B.take i)++(if(!bk.2.isEmpty)=true then [bk] else []):=by
   unfold ie;rw [aC ebk,Š,Ļ,r_]
  refine⟨l,q,_,rfl,rfl,ç.of (x2 _ _ (x' _ _ (ah _ _ _ _ hl))),ç.of g2,_,rfl,?_⟩;have ee:(bk.2.map V.int).isEmpty=bk.2.isEmpty:=by cases bk.2 <;> rfl
  rw [ee];refine⟨λ hf=>kN zs H2 ⟨x'.trans x2,?_⟩ ai (x2 _ _ Ġ),λ ht=>?_⟩
  ·rw [et,Ï (by rw [hf];decide),Ę]
   exact rz.mono (oB x2 p D)
  ·refine⟨_,rfl,_,rfl,cL,λ tt Uk=>?_⟩;have x3:=Ext.new (o:=.tup [.str bk.1,.ref l]) Uk;have g3:ad H2 tt (.tup [.str bk.1,.ref l]) tt=some (.tup [.str bk.1,.ref l]):=aM;have Vo:tt≠D:=λ e=>by rw [e,x2 _ _ Ġ] at Uk;cases Uk
   have Vn:=(sc.bx.ext (x'.trans x2)).ne Uk;generalize ad H2 tt (.tup [.str bk.1,.ref l])=H3 at x3 g3 ⊢;have NF:=x2.trans x3;have WA:=NF _ _ Ġ;refine⟨WA,kN _ _ ⟨aI _ (x'.trans NF) hD,?_⟩ (by rw [Í];show zs.length+1<=i+1;omega) aM⟩
   have lD:l≠D:=λ e=>by rw [e] at hl;have:=ah _ _ _ _ hl;rw [hD] at this;cases this
   rw [et,Ø ht,Ì];refine((rz.mono (oB NF p D)).append (.cons ?_ .nil)).mono oM;exact oC (jf Vn Vo g3) (jf (eL hl) lD (NF _ _ (x' _ _ (ah _ _ _ _ hl))))
 ·rintro zs H' lz Ġ ⟨x',rz⟩;rw [ly,Ú] at rz;refine⟨cL,λ a ha=>?_⟩;have x3:=Ext.new (o:=.tup [v,.ref D]) ha;have g3:ad H' a (.tup [v,.ref D]) a=some (.tup [v,.ref D]):=aM;have nap:=(sc.bx.ext x').ne ha;exact k a D zs _ (x'.trans x3) hD (aJ nap g3) (aJ nD (x3 _ _ Ġ)) ((rz.mono (ah _ _)).mono (bn x3 p))
def Ch (K:Frag)(C:Nat->Addr):Sp:=λ vs H Q _=>∃(s p:Addr)(ns:List Int)(m:Int),vs=[.ref s,.ref p,.int m]/\Sc K H s p ns/\1<=m/\m<=20/\∀ a v D zs t H',Sc K H' s p ns->Ext (wo H p) (wo H' p)->wo H p D=none->wo H' p a=some (.tup [v,.ref D])->Ru C (wo H' p) t v->t.flat->t.ok->wo H' p D=some (.lst zs)->Ù (wo H' p) zs (t.bl.map gV)->Q (.ref a) H'
theorem BJ (sc:Sc K H sA p ns)(m1:1<=m)(m2:m<=20)(q:∀ a v D zs t H',Sc K H' sA p ns->Ext (wo H p) (wo H' p)->wo H p D=none->wo H' p a=some (.tup [v,.ref D])->Ru C (wo H' p) t v->t.flat->t.ok->wo H' p D=some (.lst zs)->Ù (wo H' p) zs (t.bl.map gV)->De.rt (.ref a) H') :
  Bx (Kr K C CN CT CM De [some (.ref sA),some (.ref p),some (.int m),o3,o4,o5,o6,o7,o8,o9] H):=by
 refine⟨AE sc m1 m2 λ sv rs H1 ŗ x1 sv1=>?_⟩;refine Dx ŗ m1 m2 sv1 λ sv rs o4 H2 Τ x2 T4=>?_;refine AV Τ T4 λ bl ys o7 o8 o9 H3 B' x3 hb ra=>?_;refine Dt B' (T4.ext x3) λ v t H4 Ov x4 ru pl ok eb ef=>?_;refine yQ Ov ru pl ok eb T4.ok T4.l4 (x4 _ _ hb) (ra.mono x4) (λ v t o4 bl ys B H5 Ou x5 ru5 fl ok5 l4 ME Uv ra5 ec=>?_) (by rw [ef])
 refine CJ Ou l4 ME Uv ra5 λ a D zs H6 x6 nD ha hD rz=>?_;have wn:wo H p D=none:=by
  cases e:wo H p D with
  | none=>rfl
  | some o=>rw [ah _ _ _ _ ((((x1.trans x2).trans x3).trans (x4.trans x5)) _ _ e)] at nD;cases nD
 have W1:=bn x6 p;rw [ec] at rz;exact q a v D zs t H6 (Ou.ext x6) ((((x1.trans x2).trans x3).trans (x4.trans x5)).trans W1) wn ha (ru5.ext W1) fl ok5 hD rz
theorem Hc (F:Ī K "_law_rule" "_law_rule" n8 f fd)(L:Aq P w K mg base C CN CS CT CM f0 f1 f2 f3 f4 e0 e1 e2 e3 e4)(A1:Df P w K mg base aB 1 "_law_take" ["_law_script","_law_pen","_law_many"] (dH K) a1 d1)(A2:Df P w K mg base aB 8 "_law_plain_rule" ["_law_script","_law_pen","_law_most"] (uc K C) a2 d2)(mr:mg "range" = none)(mm:mg "max" = none)(mi:mg "int" = none)(ml:mg "list" = none)(mn:mg "len" = none):à P w K mg base aB 9 f fd ["_law_script","_law_pen","_law_most"] (Ch K C):=by
 refine bO F A_ λ cdv A outer s H vs Q E hr h=>?_;obtain⟨sA,p,ns,m,rfl,sc,m1,m2,q⟩:=h;exact il (Ay L A1 A2 hr mr mm mi ml mn) (BJ sc m1 m2 q)
end
theorem dQ (s:Int)(n:Nat):(c5 s n).length=n:=by unfold c5;rw [Â,List.length_range]
theorem rE (h:i<n):(c5 s n)[i]?=some (s+(i:Nat)):=by
 unfold c5;rw [Ç,List.getElem?_range h];rfl
theorem mK (s:Int)(a b:Nat):c5 s (a+b)=c5 s a++c5 (s+(a:Nat)) b:=by
 unfold c5;rw [List.range_add,Ì,Q6]
 congr 1
 apply List.map_congr_left;intro k _;show s+((a+k:Nat):Int)=s+(a:Nat)+(k:Nat);omega
theorem jz (s:Int)(n:Nat):c5 s (n+1)=s::c5 (s+1) n:=by
 rw [Nat.add_comm n 1,mK];show [s+((0:Nat):Int)]++_=_;simp
theorem iH:∀(n:Nat)(s m:Int),m<=s->(c5 s n).filter (λ x=>decide (x<m))=[]
 | 0,s,m,h=>rfl
 | n+1,s,m,h=>by
  rw [jz,Ļ,Ï (by simp;omega)]
  exact iH n (s+1) m ai
theorem j4:∀(n:Nat)(s m:Int),s+(n:Nat)<=m->(c5 s n).filter (λ x=>decide (x<m))=c5 s n
 | 0,s,m,h=>rfl
 | n+1,s,m,h=>by
  rw [jz,Ļ,Ø (by simp;omega),j4 n (s+1) m ai]
theorem tZ (n:Nat)(s m:Int)(h1:s<=m)(h2:m<=s+(n:Nat)):(c5 s n).filter (λ x=>decide (x<m))=c5 s (m-s).toNat:=by
 obtain⟨a,ha⟩:∃ a:Nat,m-s=(a:Int):=⟨(m-s).toNat,ai⟩;obtain⟨b,rfl⟩:∃ b:Nat,n=a+b:=⟨n-a,ai⟩;rw [mK,Š,j4 a s m ai,iH b _ m ai,Ę,ha,Ģ]
theorem lI (m:Int)(p:List Int)(ps:List (List Int)):i4 m (p::ps)=if 0<(p.filter λ x=>decide (x<m)).length then(p.filter λ x=>decide (x<m))::i4 m ps else i4 m ps:=by
 unfold i4;rw [ï,Ļ];by_cases h:0<(p.filter λ x=>decide (x<m)).length
 ·rw [Ø h,Ø (Ë h)]
 ·rw [Ï h,Ï (by rw [È h];decide)]
theorem ip:∀(ns:List Int)(s m:Int),(∀ n∈ns,1<=n)->∃ Ř,(∀ n ∈ Ř,1<=n)/\i4 m (cX s ns)=cX s Ř/\(s<=m->m<=s+ns.sum->s + Ř.sum=m)/\(m<=s->Ř=[])
 | [],s,m,_=>⟨[],(λ n h=>nomatch h),rfl,(λ h1 h2=>by simp at h2 ⊢;omega),λ _=>rfl⟩
 | n::ns,s,m,h=>by
  have hn:=h n (ò ..);obtain⟨Ř,g1,g2,g3,g4⟩:=ip ns (s+n) m λ x hx=>h x (á _ hx);show ∃ Ř,_/\i4 m (c5 s n.toNat::cX (s+n) ns)=_/\_/\_;rw [lI,g2];by_cases hs:s<m
  ·by_cases hm:s+n<=m
   ·refine⟨n :: Ř,λ x hx=>?_,?_,λ _ h2=>?_,λ h3=>absurd h3 ai⟩
    ·rcases ë.mp hx with rfl | hx
     ·exact hn
     ·exact g1 x hx
    ·rw [j4 _ _ _ ai,dQ,Ø ai];rfl
    ·rw [MH] at h2 ⊢;have:=g3 ai ai;omega
   ·have e:=g4 ai;subst e;refine⟨[m-s],λ x hx=>?_,?_,λ _ _=>?_,λ h3=>absurd h3 ai⟩
    ·rw [ä.mp hx];omega
    ·rw [tZ _ _ _ ai ai,dQ,Ø ai];rfl
    ·simp;omega
  ·have e:=g4 ai;subst e;refine⟨[],(λ n h=>nomatch h),?_,λ h1 h2=>?_,λ _=>rfl⟩
   ·rw [iH _ _ _ ai,Ï (by simp)]
    rfl
   ·simp;omega
theorem mj:∀(ws:List Str)(ns:List Int)(s m:Int),(∀ n∈ns,1<=n)->ie (iO m (ws.zip (cX s ns)))=ws.zip (i4 m (cX s ns))
 | [],ns,s,m,_=>by simp [ie,iO]
 | w::ws,[],s,m,_=>rfl
 | w::ws,n::ns,s,m,h=>by
  have hn:=h n (ò ..);have h':=λ x hx=>h x (á _ hx);have ih:=mj ws ns (s+n) m h';show ie (iO m ((w,c5 s n.toNat)::ws.zip (cX (s+n) ns)))=(w::ws).zip (i4 m (c5 s n.toNat::cX (s+n) ns));rw [lI];show ie ((w,(c5 s n.toNat).filter λ x=>decide (x<m))::iO m (ws.zip (cX (s+n) ns)))=_;unfold ie at ih ⊢;rw [Ļ];by_cases hl:0<((c5 s n.toNat).filter λ x=>decide (x<m)).length
  ·rw [Ø hl,Ø (by
    cases e:(c5 s n.toNat).filter (λ x=>decide (x<m)) with
    | nil=>rw [e] at hl;exact absurd hl (by simp)
    | cons _ _=>rfl),List.zip_cons_cons]
   rw [ih]
  ·rw [Ï hl];have e:(c5 s n.toNat).filter (λ x=>decide (x<m))=[]:=List.eq_nil_of_length_eq_zero ai;have ms:m<=s:=by
    rcases Int.lt_or_le s m with lt | ge
    ·exfalso;obtain⟨k,hk⟩:∃ k:Nat,n.toNat=k+1:=⟨n.toNat-1,ai⟩;rw [hk,jz,Ļ,Ø (by simpa using lt)] at e
     cases e
    ·exact ge
   rw [Ï (by rw [e];exact Ô),ih]
   obtain⟨Ř,_,g2,_,g4⟩:=ip ns (s+n) m h';rw [g2,g4 ai];show ws.zip []=(w::ws).zip [];rw [List.zip_nil_right,List.zip_nil_right]
theorem fA {rs:List R0}(ok:∀ r∈rs,r.ok):∀ n∈rs.map R0.Ñ,1<=n:=λ n hn=>by
 obtain⟨r,hr,rfl⟩:=ð.mp hn;exact(R0.ď (ok r hr)).1
theorem hG:∀{t:Rl},t.ok->t.flat->∃ ns,(∀ n∈ns,1<=n)/\t.parts=cX 0 ns/\ns.sum=t.Ñ
 | .one r,h,_=>⟨[r.Ñ],λ n hn=>by rw [ä.mp hn];exact(R0.ď h).1,rfl,by simp [Rl.Ñ]⟩
 | .blocks rs,h,_=>⟨rs.map R0.Ñ,fA h.2.2.1,rfl,rfl⟩
 | .first (.one r) m,h,_=>by
  obtain⟨Ř,g1,g2,g3,_⟩:=ip ([r].map R0.Ñ) 0 m (fA λ r' h'=>by rw [ä.mp h'];exact h.1)
  refine⟨Ř,g1,g2,?_⟩;have:=g3 h.2.1 (by have:=h.2.2;simp [Rl.Ñ] at this ⊢;exact this)
  rw [Ŕ] at this;exact this
 | .first (.blocks rs) m,h,_=>by
  obtain⟨Ř,g1,g2,g3,_⟩:=ip (rs.map R0.Ñ) 0 m (fA h.1.2.2.1);refine⟨Ř,g1,g2,?_⟩;have:=g3 h.2.1 (by rw [Ŕ];exact h.2.2)
  rw [Ŕ] at this;exact this
 | .first (.first _ _) _,_,h=>h.elim
theorem tI:∀{t:Rl},t.ok->t.flat->t.bl=(t.base.map R0.word).zip t.parts
 | .one r,_,_=>rfl
 | .blocks rs,_,_=>rfl
 | .first (.one r) m,h,_=>mj ([r].map R0.word) ([r].map R0.Ñ) 0 m (fA λ r' h'=>by rw [ä.mp h'];exact h.1)
 | .first (.blocks rs) m,h,_=>mj (rs.map R0.word) (rs.map R0.Ñ) 0 m (fA h.1.2.2.1)
 | .first (.first _ _) _,_,h=>h.elim
theorem kB:∀{t:Rl},t.flat->t.parts.length<=t.base.length
 | .one r,_=>Ê _
 | .blocks rs,_=>by show(cX 0 (rs.map R0.Ñ)).length<=rs.length;rw [fc,Â];exact Ê _
 | .first (.one r) m,_=>by
  show(i4 m [c5 0 r.Ñ.toNat]).length<=1;exact õ (ĥ _ _) (by simp)
 | .first (.blocks rs) m,_=>by
  show(i4 m (cX 0 (rs.map R0.Ñ))).length<=rs.length;refine õ (ĥ _ _) ?_;rw [Â,fc,Â];exact Ê _
 | .first (.first _ _) _,h=>h.elim
theorem gH {t:Rl}(ok:t.ok)(fl:t.flat):t.bl.map (·.2)=t.parts:=by
 rw [tI ok fl];exact List.map_snd_zip (by rw [Â];exact kB fl)
def lH (b:Bk):Bool:=decide (V.str b.1=V.str "pairs")&&decide (b.2.length%2=0)
theorem uM:∀(ps:List (List Int))(rs:List R0),List.zipWith (λ (p:List Int)(r:R0)=>r.Qa&&decide (p.length%2=0)) ps rs=((rs.map R0.word).zip ps).map lH
 | [],rs=>by simp
 | p::ps,[]=>by simp
 | p::ps,r::rs=>by
  show(r.Qa&&decide (p.length%2=0))::_=lH (r.word,p)::_;rw [uM ps rs];unfold lH;rw [R0.O5];rfl
theorem yJ (ok:t.ok)(fl:t.flat):oj t=t.bl.map lH:=by
 rw [tI ok fl];exact uM _ _
theorem iV:∀(ns:List Int)(s:Int),(∀ n∈ns,1<=n)->(cX s ns).flatten=c5 s ns.sum.toNat
 | [],s,_=>rfl
 | n::ns,s,h=>by
  have hn:=h n (ò ..);have h':=λ x hx=>h x (á _ hx);have s0:=cM λ x hx=>by have:=h' x hx;omega
  show(c5 s n.toNat::cX (s+n) ns).flatten=_;rw [ū,iV ns (s+n) h',MH];have e:(n+ns.sum).toNat=n.toNat+ns.sum.toNat:=ai;rw [e,mK]
  congr 2
  omega
theorem wD {t:Rl}(ok:t.ok)(fl:t.flat):(t.bl.map (·.2)).flatten=c5 0 t.Ñ.toNat:=by
 obtain⟨ns,h1,h2,h3⟩:=hG ok fl;rw [gH ok fl,h2,iV ns 0 h1,h3]
def DE (o:Int × Bool):PyData:=.tuple [.int o.1,.bool o.2]
def sW (os:List (Int × Bool)):Prop:=∀ o∈os,-99<=o.1/\o.1<=99
theorem E1 {os:List (Int × Bool)}(h:Ù H xs (os.map DE)):Μ H xs os:=by
 have l:=h.length;rw [Â] at l;refine⟨l,λ i x o h1 h2=>?_⟩;obtain⟨d,ed,rd⟩:=h.get h1;rw [Ç,h2] at ed;cases ed;obtain⟨a,ys,rfl,ha,rs⟩:=mq rd;cases rs with
 | cons r1 rs=>cases rs with
  | cons r2 rs=>cases rs;cases r1;cases r2;exact⟨a,rfl,ha⟩
section
variable {P:Program}{w:World}{K:Frag}{mg:bC}{base:Heap}{f a1:Addr}{fd d1:FuncData}
abbrev Ij:Stmt:=cw 71
theorem IT:ae ["_law_blocks"] ["_law_blocks"] (aa Ij):=aR
def CC:Sp:=λ vs H Q _=>∃(D:Addr)(zs:List V)(B:List Bk),vs=[.ref D]/\H D=some (.lst zs)/\Ù H zs (B.map gV)/\B.length<=20/\∀ H',Ext H H'->Q (.int ((B.map (·.2)).flatten.length:Nat)) H'
abbrev Er:Scope:=dJ [("_law_word",.local),("_law_folk_here",.local),("len",.globalImplicit)]
theorem Dl:bu X Er [] ["_law_word","_law_folk_here"] [] []:=j7 (L:=[(".0",.local),("_law_word",.local),("_law_folk_here",.local),("len",.globalImplicit)]) rfl rfl av av av rfl av av
def jS (K:Frag)(i:Nat):TE:=gQ (λ xs H Q=>∃ p ys,xs=[.ref p]/\(ç K H p ys\/đ K H p ys)/\Q (.int ys.length) H) (am (ag i) aK)
theorem EM (F:Ī K "_law_folk" "_law_folk" Ij f fd)(ms:mg "sum" = none)(mn:mg "len" = none):à P w K mg base aB 1 f fd ["_law_blocks"] CC:=by
 refine bO F IT λ cdv A outer s H vs Q E hr h=>?_;obtain⟨D,zs,B,rfl,hD,ra,ME,q⟩:=h;refine⟨_,aX (dk (aj (gK rfl) rfl ms ŷ (ac (cu (te:=jS K 1) (g:=FR K) rfl Dl (aS (pv 0)) (λ s H C fp=>bF rfl (eF (cq vN rfl (.inl rfl)) (eF (cq vN rfl (.inl rfl)) aZ))) (λ s H C fp=>aj az rfl mn ê (ac (pv 1) ao))) ao))),?_⟩;have lz:=ra.length;rw [Â] at lz;refine⟨_,rfl,D,rfl,⟨zs,ç.of hD⟩,λ D2 Ŧ=>?_⟩;refine bD (λ i ys H'=>Ext H H'/\ys=((B.take i).map λ b=>((b.2.length:Nat):Int)).map .int) (by rw [Ö];omega) ⟨.new Ŧ,rfl⟩ (λ i ys H' pv=>ç.of (pv.1 _ _ hD)) ?_ ?_
 ·rintro i x ys H' ex ly Ġ ⟨x',ey⟩ os ŀ R k;obtain⟨o0,o1,rfl⟩:∃ o0 o1,os=[o0,o1]:=by
   match os,ŀ with
   | [o0,o1],_=>exact⟨o0,o1,rfl⟩
  obtain⟨d,ed,rd⟩:=ra.get ex;rw [Ç] at ed;obtain⟨bk,ebk,rfl⟩:=Ð.mp ed;obtain⟨a,l,rfl,ha,hl⟩:=jc rd;refine⟨a,_,rfl,đ.of (x' _ _ ha),rfl,_,_,rfl,_,_,rfl,rfl,⟨[some (.str bk.1),some (.ref l)],rfl,rfl⟩,_,rfl,l,_,rfl,.inl (ç.of (x' _ _ hl)),?_⟩;refine k _ H' Ġ ⟨aI _ x' Ŧ,?_⟩;rw [aC ebk,Ì,Ì,<- ey,Â];rfl
 ·rintro ys H' ly Ġ ⟨x',ey⟩;rw [lz,Ú] at ey;rw [ey] at Ġ;refine⟨D2,_,rfl,ç.of Ġ,?_⟩;have e:∀ B:List Bk,(B.map λ b=>((b.2.length:Nat):Int)).sum=(((B.map (·.2)).flatten.length:Nat):Int):=λ B=>by
   induction B with
   | nil=>rfl
   | cons b B ih =>
    rw [ï,MH,ih,ï,ū,Í];omega
  rw [e];exact q H' x'
abbrev Ko:Stmt:=cw 73
theorem Iz:ae ["_law_one","_law_other"] ["_law_one","_law_other"] (aa Ko):=aR
def pH:Sp:=λ vs H Q _=>∃ v1 v2 o p,vs=[v1,v2]/\GL H v1 o/\GL H v2 p/\Q (.int (rG o p)) H
theorem FJ (F:Ī K "_law_stands" "_law_stands" Ko f fd)(mi:mg "int" = none):à P w K mg base aB 1 f fd ["_law_one","_law_other"] pH:=by
 refine bO F Iz λ cdv A outer s H vs Q E hr h=>?_;obtain⟨v1,v2,o,p,rfl,⟨a1,rfl,h1⟩,⟨a2,rfl,h2⟩,q⟩:=h;refine⟨_,bU (be (PW.pt (gv (bE (cS ia (pv 1) aF)) (fh (ar f9 (cS ia (pv 0) aF) (cS ia (pv 1) aF) (ax _))))) (aX (dk aF)) f6)
  (aX (dk (aE ib aF (aN iY rfl mi ŉ (ac (fw (cS ia (pv 0) aF) (fH (dB f9 (cS ia (pv 1) aF) (cS ia (pv 0) aF) (ax _)))) ao))))),?_⟩
 obtain⟨n1,s1⟩:=o;obtain⟨n2,s2⟩:=p;have fin:(s2&&decide (n1>n2))=false->Q (.int (if(s1&&decide (n2>n1))=true then -1 else 0)) H:=λ e=>by
  have:rG (n1,s1) (n2,s2)=if(s1&&decide (n2>n1))=true then -1 else 0:=by
   show Cm n1 s1 n2 s2=_;unfold Cm;rw [e];rfl
  rw [<- this];exact q
 have last:∀ D:bX,D.rt=Q->(s2&&decide (n1>n2))=false->cH (aQ (dR λ i j=>.int (i-j)) (tC (.int 0)) (gQ (λ xs H Q=>(∃ i,xs=[.int i]/\Q (.int i) H)\/∃ k,xs=[.bl k]/\Q (.int (if k then 1 else 0)) H) (am (yj (aQ (ke K) (ag 0) (tC (.int 1))) (aQ (dR λ i j=>.bl (decide (i>j))) (aQ (ke K) (ag 1) (tC (.int 0))) (aQ (ke K) (ag 0) (tC (.int 0))))) aK))) D [some (.ref a1),some (.ref a2)] H:=by
  intro D hD e;have f:=fin e;refine⟨_,rfl,a1,_,_,_,rfl,rfl,đ.of h1,dh rfl,_,rfl,?_⟩;cases s1 with
  | false =>
   refine bZ (.inr ⟨_,rfl,_,_,rfl,rfl,?_⟩);rw [hD];exact f
  | true =>
   refine cy ⟨_,rfl,a2,_,_,_,rfl,rfl,đ.of h2,dh rfl,_,rfl,a1,_,_,_,rfl,rfl,đ.of h1,dh rfl,_,_,rfl,rfl,.inr ⟨_,rfl,_,_,rfl,rfl,?_⟩⟩;rw [hD];cases g:decide (n2>n1) with
   | true=>rw [g] at f;exact f
   | false=>rw [g] at f;exact f
 refine⟨_,rfl,a2,_,_,_,rfl,rfl,đ.of h2,dh rfl,_,rfl,?_⟩;cases s2 with
 | false=>exact bZ (bZ (last _ rfl rfl))
 | true =>
  refine cy ⟨_,rfl,a1,_,_,_,rfl,rfl,đ.of h1,dh rfl,_,rfl,a2,_,_,_,rfl,rfl,đ.of h2,dh rfl,_,_,rfl,rfl,_,rfl,?_⟩;cases g:decide (n1>n2) with
  | true =>
   refine cy ?_;have:rG (n1,s1) (n2,true)=1:=by
    show Cm n1 s1 n2 true=_;unfold Cm;rw [g];rfl
   rw [this] at q;exact q
  | false=>exact bZ (last _ rfl (by rw [g];rfl))
abbrev DD:Stmt:=cw 72
abbrev K1:List Str:=["_law_script","_law_pen","_law_folk_here","_law_sure","_law_wide","_law_found","_law_k","_law_number"]
theorem Su:ae K1 ["_law_script","_law_pen","_law_folk_here","_law_sure"] (aa DD):=aR
def Bh (K:Frag):Sp:=λ vs H Q _=>∃(s p:Addr)(ns:List Int)(n:Nat)(b:Bool),vs=[.ref s,.ref p,.int (n:Nat),.bl b]/\Sc K H s p ns/\n<=1200/\∀ l xs os H',Sc K H' s p ns->Ext (wo H p) (wo H' p)->wo H p l=none->wo H' p l=some (.lst xs)->Ù (wo H' p) xs (os.map DE)->sW os->os.length=n->Q (.ref l) H'
def LQ (K:Frag):TS:=cR (aQ (dy K) (cg (am (tC (.int 2)) (am (tC (.int 5)) (am (tC (.int 19)) (am (tC (.int 199)) aK))))) (gk K (tC (.int 4)))) (ba 4)
def LD:TS:=cR (cg aK) (ba 5)
def Li (K:Frag):TS:=cR (aQ (dR λ i j=>.int (i-j)) (gk K (ag 4)) (aQ (rI kO λ i j=>.int (i/j)) (ag 4) (tC (.int 2)))) (ba 7)
def Ky (K:Frag):TS:=f7 (rY K "list" gM (ag 5) (am (dO (am (ag 7) (am (AB (ag 3) (aQ (dR λ i j=>.bl (decide (i>j))) (gk K (tC (.int 3))) (tC (.int 0)))) aK))) aK))
def K7 (K:Frag):TS:=gj (jd (am (ag 2) aK)) (ba 6) (aO (Li K) (Ky K))
def Lv (K:Frag):TS:=aO (LQ K) (aO LD (aO (K7 K) (cH (ag 5))))
section
variable {cdv:Value}{A:Around}{outer:List Env}{s:Shared}{H:Hp}{E:XK}
theorem CY (A1:Df P w K mg base aB 1 "_law_take" ["_law_script","_law_pen","_law_many"] (dH K) a1 d1)(mr:mg "range" = none)(hr:pj 1 "_law_outcomes" DD A s f cdv):Bx (Ž (aW aB P w K mg base K1 "_law_outcomes" (aa DD) f cdv A outer s H E).ŋ (aH DD) (Lv K)):=by
 have nd:=Su.nd;exact dq ⟨gG nd rfl (.inl rfl) (cS fS (bM (ac aF (ac aF (ac aF (ac aF ao))))) (cZ A1 hr ak (ac (pv 0) (ac (pv 1) (ac aF ao)))))⟩
  (dq ⟨gG nd rfl (.inl rfl) (bM ao)⟩
  (dq ⟨bY .never rfl (dI rfl mr (ac (pv 2) ao)) (cq nd rfl (.inl rfl))
   (bU (gG nd rfl (.inl rfl) (aE ib (cZ A1 hr ak (ac (pv 0) (ac (pv 1) (ac (pv 4) ao)))) (aE fY (pv 4) aF)))
   (aX (aw (eG Ü Ć ą bH (pv 5) (ac (aP (ac (pv 7) (ac (F5 (pv 3) (fH (dB f9 (cZ A1 hr ak (ac (pv 0) (ac (pv 1) (ac aF ao)))) aF (ax _)))) ao))) ao)))))⟩
  (br ⟨dk (pv 5)⟩)))
end
theorem z7 (sc:Sc K H sA p ns)(h0:σ[0]?=some (some (.ref sA)))(h1:σ[1]?=some (some (.ref p)))(h3:σ[3]?=some (some (.bl b)))(k:∀ c H',Sc K H' sA p ns->Kept H H' p->R (.bl c) H'):AB (ag 3) (aQ (dR λ i j=>.bl (decide (i>j))) (gk K (tC (.int 3))) (tC (.int 0))) σ H R:=by
 refine⟨_,h3,_,rfl,?_⟩;cases b with
 | true=>exact cy (k true H sc (Kept.refl _ _))
 | false=>exact bZ (bo sc h0 h1 (λ R r=>r) au au λ t H4 t0 t3 Ov k4=>⟨_,_,rfl,rfl,k _ H4 Ov k4⟩)
theorem FX (F:Ī K "_law_outcomes" "_law_outcomes" DD f fd)(A1:Df P w K mg base aB 1 "_law_take" ["_law_script","_law_pen","_law_many"] (dH K) a1 d1)(mr:mg "range" = none):à P w K mg base aB 2 f fd ["_law_script","_law_pen","_law_folk_here","_law_sure"] (Bh K):=by
 refine bO F Su λ cdv A outer s H vs Q E hr h=>?_;obtain⟨sA,p,ns,n,sb,rfl,sc,hn,q⟩:=h;obtain⟨NX⟩:=CY A1 mr hr (f:=f) (cdv:=cdv) (A:=A) (outer:=outer) (s:=s) (H:=H) (E:=E);refine⟨_,NX,?_⟩;refine aY (te:=aQ (dy K) (cg (am (tC (.int 2)) (am (tC (.int 5)) (am (tC (.int 19)) (am (tC (.int 199)) aK))))) (gk K (tC (.int 4)))) (i:=4) (D:=⟨_,Q,_,_⟩) (j9 ⟨cL,λ l0 h0=>?_⟩);have x0:=Ext.new (o:=.lst [V.int 2,.int 5,.int 19,.int 199]) h0;have g0:ad H l0 (.lst [V.int 2,.int 5,.int 19,.int 199]) l0=some (.lst [V.int 2,.int 5,.int 19,.int 199]):=aM;show gk K (tC (.int 4)) _ (ad H l0 (.lst [V.int 2,.int 5,.int 19,.int 199])) _;generalize ad H l0 (.lst [V.int 2,.int 5,.int 19,.int 199])=H0 at x0 g0 ⊢;have Vi:l0≠p:=sc.bx.ne h0;refine bo (sc.ext x0) rfl rfl (λ R r=>r) au au λ r H1 r0 r4 ŗ k1=>?_;have g1:=k1 _ _ g0 Vi;obtain⟨wd,ew,w1,w2⟩:∃ wd:Int,([V.int 2,.int 5,.int 19,.int 199]:List V)[r.toNat]?=some (.int wd)/\2<=wd/\wd<=199:=by
  obtain⟨m,rfl⟩:∃ m:Nat,r=(m:Int):=⟨r.toNat,ai⟩;have hm:m<4:=ai;rw [Ģ]
  match m,hm with
  | 0,_=>exact⟨2,rfl,au,au⟩
  | 1,_=>exact⟨5,rfl,au,au⟩
  | 2,_=>exact⟨19,rfl,au,au⟩
  | 3,_=>exact⟨199,rfl,au,au⟩
 have er:r=(r.toNat:Int):=ai;refine⟨l0,_,r,.int wd,rfl,rfl,ç.of g1,by rw [er];exact dh ew,?_⟩
 have xa:Ext (wo H p) (wo H1 p):=(bn x0 p).trans (aL k1);refine aY (te:=cg aK) (i:=5) (D:=⟨_,Q,_,_⟩) ⟨cL,λ fl Qf=>?_⟩;have x2:=Ext.new (o:=.lst []) Qf;have g2:ad H1 fl (.lst []) fl=some (.lst []):=aM;have nf:fl≠p:=ŗ.bx.ne Qf;have Sd:wo H p fl=none:=by
  cases e:wo H p fl with
  | none=>rfl
  | some o=>have:=ah _ _ _ _ (xa _ _ e);rw [Qf] at this;cases this
 show aO (K7 K) (cH (ag 5)) _ [some (.ref sA),some (.ref p),some (.int (n:Nat)),some (.bl sb),some (.int wd),some (.ref fl),none,none] (ad H1 fl (.lst []));have Τ:=ŗ.ext x2;generalize ad H1 fl (.lst [])=H2 at x2 g2 Τ ⊢;have xb:=xa.trans (bn x2 p);refine⟨_,rfl,(n:Int),rfl,ai,ai,?_⟩;rw [Ģ];refine gO (lo:=0) (n:=n) (λ i σ H'=>∃ ys os o6 o7,σ=[some (.ref sA),some (.ref p),some (.int (n:Nat)),some (.bl sb),some (.int wd),some (.ref fl),o6,o7]/\Sc K H' sA p ns/\Ext (wo H p) (wo H' p)/\H' fl=some (.lst ys)/\Ù (wt H' p fl) ys (os.map DE)/\sW os/\os.length=i/\ys.length=i) ⟨[],[],_,_,rfl,Τ,xb,g2,.nil,(λ o ho=>nomatch ho),rfl,rfl⟩ ?_ ?_
 ·rintro i σ H' hi ⟨ys,os,o6,o7,rfl,OK,xt,gf,ra,ok,lo,ly⟩;show aO (Li K) (Ky K) _ [some (.ref sA),some (.ref p),some (.int (n:Nat)),some (.bl sb),some (.int wd),some (.ref fl),some (.int (0+(i:Int))),o7] H';refine aY (te:=aQ (dR λ i j=>.int (i-j)) (gk K (ag 4)) (aQ (rI kO λ i j=>.int (i/j)) (ag 4) (tC (.int 2)))) (i:=7) (D:=⟨_,Q,_,_⟩) (j9 (bo OK rfl rfl (λ R r=>⟨_,rfl,r⟩) ai ai λ r H3 r0 OL B' k3=>⟨_,rfl,_,_,rfl,rfl,⟨au,au⟩,_,_,rfl,rfl,?_⟩));have Yf:=k3 _ _ gf nf;refine⟨_,rfl,.inl ⟨rfl,_,ç.of Yf⟩,_,rfl,?_⟩;refine z7 B' rfl rfl rfl λ c H4 Ov k4=>⟨cL,λ k hk=>?_⟩;have Ye:=k4 _ _ Yf nf;have x5:=Ext.new (o:=.tup [.int (r-wd/2),.bl c]) hk;have g5:ad H4 k (.tup [.int (r-wd/2),.bl c]) k=some (.tup [.int (r-wd/2),.bl c]):=aM;have nk1:k≠fl:=λ e=>by rw [e,Ye] at hk;cases hk
  have nk2:=Ov.bx.ne hk;have Ou:=Ov.ext x5;generalize ad H4 k (.tup [.int (r-wd/2),.bl c])=H5 at x5 g5 Ou ⊢;have gf5:=x5 _ _ Ye;have b:-99<=r-wd/2/\r-wd/2<=99:=ai;have xw:=((mf k3).trans (mf k4)).trans (oB x5 p fl);have xw0:=((aL k3).trans (aL k4)).trans (bn x5 p);have xf:Ext (wo H p) (wo (ad H5 fl (.lst (ys ++ [.ref k]))) p):=λ b o e=>by
   have n1:b≠fl:=λ z=>by rw [z,Sd] at e;cases e
   have e2:=(xt.trans xw0) _ _ e;exact aJ (eL e) (by rw [af n1];exact ah _ _ _ _ e2)
  refine⟨fl,ys,.ref k,rfl,rfl,gf5,by rw [Ö];omega,ys ++ [.ref k],os ++ [(r-wd/2,c)],_,_,rfl,?_,?_,aM,?_,?_,by rw [Í,lo];rfl,by rw [Í,ly];rfl⟩
  ·exact sc.RU xf (Ou.bx.up nf)
  ·exact xf
  ·rw [Ì];exact((ra.mono xw).append (.cons (.tup (jf nk2 nk1 g5) (.cons (.int _) (.cons (.bl _) .nil))) .nil)).mono oM
  ·intro o ho;rcases ģ.mp ho with h | h
   ·exact ok o h
   ·rw [ä.mp h];exact b
 ·rintro σ H' ⟨ys,os,o6,o7,rfl,OK,xt,gf,ra,ok,lo,ly⟩;exact⟨_,rfl,q fl ys os H' OK xt Sd (aJ nf gf) (ra.mono (ah (wo H' p) fl)) ok lo⟩
end
section
variable {P:Program}{w:World}{K:Frag}{mg:bC}{base:Heap}{f a1 a2:Addr}{fd d1 d2:FuncData}
abbrev Eu:Stmt:=cw 74
abbrev K4:List Str:=["_law_numbers","_law_line","_law_found","_law_number","_law_first"]
theorem Ss:ae K4 ["_law_numbers"] (aa Eu):=aR
def tE:Sp:=λ vs H Q _=>∃(a:Addr)(ns:List Int),vs=[.ref a]/\H a=some (.lst (ns.map V.int))/\ns.length<=20/\kP H (ns.map (rk ns)) Q
def Gz (K:Frag):TS:=aO (cR (aQ (dR λ i j=>.int (i+j)) (rY K "list" (uq K) (ag 1) (am (ag 3) aK)) (tC (.int 1))) (ba 4))
 (f7 (rY K "list" gM (ag 2) (am (aQ (dR λ i j=>.int (i-j)) (aQ (dR λ i j=>.int (i+j)) (aQ (rI Ζ λ i j=>.int (i*j)) (tC (.int 2)) (ag 4)) (rY K "list" (pG K) (ag 1) (am (ag 3) aK))) (tC (.int 1))) aK)))
def LM (K:Frag):TS:=aO (cR (gQ (kg K) (am (ag 0) aK)) (ba 1)) (aO (cR (cg aK) (ba 2)) (aO (gj (bL K (ag 0)) (ba 3) (Gz K)) (cH (ag 2))))
theorem AZ (ms:mg "sorted" = none):Bx (Ž (aW aB P w K mg base K4 "_law_ranks" (aa Eu) f cdv A outer s H E).ŋ (aH Eu) (LM K)):=by
 have nd:=Ss.nd;exact dq (bq nd rfl (.inl rfl) ⟨aj kH rfl ms P1 (ac (pv 0) ao)⟩) (dq (bq nd rfl (.inl rfl) ⟨bM ao⟩)
  (dq ⟨bY .never rfl (aS (pv 0)) (cq nd rfl (.inl rfl)) (bU (gG nd rfl (.inl rfl) (aE bw (eG Ü a_ Qp ql (pv 1) (ac (pv 3) ao)) aF))
   (aX (aw (eG Ü Ć ą bH (pv 2) (ac (aE ib (aE bw (aE dY aF (pv 4)) (eG Ü Qr Qq oE (pv 1) (ac (pv 3) ao))) aF) ao)))))⟩ (br ⟨dk (pv 2)⟩)))
theorem FA (F:Ī K "_law_ranks" "_law_ranks" Eu f fd)(ms:mg "sorted" = none):à P w K mg base aB 1 f fd ["_law_numbers"] tE:=by
 refine bO F Ss λ cdv A outer s H vs Q E hr h=>?_;obtain⟨a,ns,rfl,ha,ME,q⟩:=h;obtain⟨NX⟩:=AZ ms (f:=f) (cdv:=cdv) (A:=A) (outer:=outer) (s:=s) (H:=H) (E:=E) (P:=P) (w:=w) (base:=base) (K:=K);refine⟨_,NX,?_⟩;have sz:=Ö;refine aY (te:=gQ (kg K) (am (ag 0) aK)) (i:=1) (D:=⟨_,Q,_,_⟩) ⟨_,rfl,a,ns,rfl,ç.of ha,ai,λ l Ř hl pm pw=>?_⟩;have x1:=Ext.new (o:=.lst (Ř.map V.int)) hl;have g1:ad H l (.lst (Ř.map V.int)) l=some (.lst (Ř.map V.int)):=aM;refine aY (te:=cg aK) (i:=2) (D:=⟨_,Q,_,_⟩) ⟨cL,λ fl Qf=>?_⟩;show aO (gj (bL K (ag 0)) (ba 3) (Gz K)) (cH (ag 2)) _ [some (.ref a),some (.ref l),some (.ref fl),none,none] (ad (ad H l (.lst (Ř.map V.int))) fl (.lst []));have Xw:H fl=none:=by
  cases e:H fl with
  | none=>rfl
  | some o=>rw [x1 _ _ e] at Qf;cases Qf
 have x2:=Ext.new (o:=.lst []) Qf;have g2:ad (ad H l (.lst (Ř.map V.int))) fl (.lst []) fl=some (.lst []):=aM;have nl:fl≠l:=λ e=>by rw [e,g1] at Qf;cases Qf
 have Ti:=x2 _ _ g1;have Ţ:=x1.trans x2;generalize ad (ad H l (.lst (Ř.map V.int))) fl (.lst [])=H2 at x2 g2 Ti Ţ ⊢;refine⟨_,rfl,a,rfl,⟨_,ç.of (Ţ _ _ ha)⟩,eV (xs:=ns.map V.int) (λ i σ H'=>∃ o3 o4,σ=[some (.ref a),some (.ref l),some (.ref fl),o3,o4]/\Ext H H'/\H' l=some (.lst (Ř.map .int))/\H' fl=some (.lst (((ns.take i).map (rk ns)).map .int))) ⟨_,_,rfl,Ţ,Ti,g2⟩ ?_ ?_ ?_⟩
 ·rintro i σ H' _ ⟨o3,o4,rfl,x',_⟩;exact ç.of (x' _ _ ha)
 ·rintro i x σ H' ex ⟨o3,o4,rfl,x',PL,Ta⟩;rw [Ç] at ex;obtain⟨n,en,rfl⟩:=Ð.mp ex;have mem:=pm.mem_iff.mpr (å en);have li:=(Å.mp en).1;refine aY ?_;refine⟨_,rfl,.inl ⟨rfl,_,ç.of PL⟩,_,rfl,l,Ř,n,rfl,rfl,ç.of PL,mem,_,_,rfl,rfl,?_⟩;refine⟨_,rfl,.inl ⟨rfl,_,ç.of Ta⟩,_,rfl,_,_,rfl,rfl,.inl ⟨au,au⟩,?_⟩;refine⟨_,rfl,.inl ⟨rfl,_,ç.of PL⟩,_,rfl,l,_,_,rfl,rfl,ç.of PL,by rw [ú];intro z hz;obtain⟨_,_,rfl⟩:=ð.mp hz;rfl,rfl,_,_,rfl,rfl,_,_,rfl,rfl,?_⟩
  refine⟨fl,_,_,rfl,rfl,Ta,by rw [Â,Â,Ā];omega,_,_,rfl,aI _ x' Xw,by rw [af nl.symm];exact PL,?_⟩
  rw [aM,aC en,Ì,Ì];have e1:rk ns n=2*((Ř.idxOf n:Nat)+1)+((Ř.map .int).countP λ z=>pC z (.int n):Nat)-1:=by
   unfold rk;rw [jC pw mem,oX,pm.countP_eq,pm.countP_eq];omega
  show _=some (HO.lst (_ ++ [V.int (rk ns n)]));rw [e1]
 ·rintro σ H' ⟨o3,o4,rfl,x',PL,Ta⟩;rw [Â,Ú] at Ta;exact⟨_,rfl,q fl H' x' Xw Ta⟩
abbrev pk:Stmt:=cw 75
abbrev zn (i:Nat):Stmt:=(aH pk).getD i (.Pass ⟨0,0,0,0⟩)
abbrev yV:List Str:=["_law_word","_law_blocks","_law_outcomes_here","_law_places","_law_kind","_law_folk_here","_law_found","_law_at","_law_place"]
theorem Os:ae yV ["_law_word","_law_blocks","_law_outcomes_here"] (aa pk):=aR
abbrev Jc:Scope:=dJ [("_law_one",.local),("_law_outcomes_here",.free)]
abbrev IW:Scope:=dJ [("_law_other",.local),("_law_stands",.globalImplicit),("_law_outcomes_here",.free),("_law_place",.free)]
theorem Jf:((["_law_one"]:List Str)++(["_law_outcomes_here"]:List Str)).Nodup:=av
theorem JO:((["_law_other"]:List Str)++(["_law_outcomes_here","_law_place"]:List Str)).Nodup:=av
def ze (K:Frag):TS:=gj (bL K (ag 1)) (i3 K 2 (bT (ba 4) (bT (ba 5) ix))) (f7 (rY K "list" jv (ag 3) (am (ag 5) aK)))
def rK (z:Str):TT:=tB (aQ nA (ag 0) (tC (.str z)))
def EU (K:Frag):TE:=aQ (ke K) (aQ (dy K) (ag 1) (ag 0)) (tC (.int 0))
def Kn (K:Frag):TE:=iE pH [] E0 (am (aQ (dy K) (ag 1) (ag 2)) (am (aQ (dy K) (ag 1) (ag 0)) aK))
def KO (K:Frag):TS:=kD (ag 6) (ag 8) (aQ (ke K) (aQ (dy K) (ag 2) (ag 8)) (tC (.int 0)))
def KA (K:Frag):TS:=kD (ag 6) (ag 8) (aQ (dy K) (iE tE [] E0 (am (dW (bL K (ag 3)) 1 [2] (ba 0) (EU K)) aK)) (ag 7))
def K6 (K:Frag):TS:=kD (ag 6) (ag 8) (gQ (tH K) (am (dW (bL K (ag 3)) 1 [2,8] (ba 0) (Kn K)) aK))
def K0 (K:Frag):TS:=kD (ag 6) (ag 8) (iE pH [] E0 (am (aQ (dy K) (ag 2) (ag 8)) (am (aQ (dy K) (ag 2) (aQ (dy K) (ag 5) (aQ (dR λ i j=>.int (i-j)) (aQ (dR λ i j=>.int (i+j)) (ag 7) (tC (.int 1))) (aQ (rI Ζ λ i j=>.int (i*j)) (tC (.int 2)) (aQ (rI (λ _ j=>0<j) λ i j=>.int (i%j)) (ag 7) (tC (.int 2))))))) aK)))
def Kx (K:Frag):TG:=i3 K 2 (bT (ba 7) (bT (ba 8) ix))
def zU (K:Frag):TS:=gj (lK K (am (ag 3) aK)) (Kx K) (dA (rK "sum") (KO K) (dA (rK "ranks") (KA K) (dA (rK "wins") (K6 K) bV)))
def AF (K:Frag):TS:=gj (bL K (ag 1)) (i3 K 2 (bT (ba 4) (bT (ba 5) ix))) (gj (lK K (am (ag 5) aK)) (Kx K) (dA (rK "signs") (K0 K) bV))
def Jq (K:Frag):TS:=aO (cR (cg aK) (ba 3)) (aO (ze K) (aO (cR jL (ba 6)) (aO (zU K) (aO (AF K) (cH (ag 6))))))
section
variable {cdv:Value}{A:Around}{outer:List Env}{s:Shared}{H:Hp}{E:XK}
theorem Dq:bu (aW aB P w K mg base yV "_law_scores" (aa pk) f cdv A outer s H E).ŋ Jc [("_law_outcomes_here",s.heap.objs.size+1)] ["_law_one"] ["_law_outcomes_here"] [2] :=
 fK (M:=["_law_outcomes_here"]) (L:=[(".0",.local),("_law_one",.local),("_law_outcomes_here",.cell)]) rfl rfl av av av rfl rfl rfl av av rfl rfl rfl
theorem zp:bu (aW aB P w K mg base yV "_law_scores" (aa pk) f cdv A outer s H E).ŋ IW [("_law_place",s.heap.objs.size+2),("_law_outcomes_here",s.heap.objs.size+1)] ["_law_other"] ["_law_outcomes_here","_law_place"] [2,8] :=
 fK (M:=["_law_place","_law_outcomes_here"]) (L:=[(".0",.local),("_law_other",.local),("_law_stands",.globalImplicit),("_law_outcomes_here",.cell),("_law_place",.cell)]) rfl rfl av av av rfl rfl rfl av av rfl rfl rfl
theorem JT:Bx (PS (aW aB P w K mg base yV "_law_scores" (aa pk) f cdv A outer s H E).ŋ (zn 1) (ze K)):=by
 have nd:=Os.nd;exact⟨bY .never rfl (aS (pv 1)) (bF rfl (eF (cq nd rfl (.inl rfl)) (eF (cq nd rfl (.inl rfl)) aZ))) (aX (aw (eG Ü ο ξ i6 (pv 3) (ac (pv 5) ao))))⟩
theorem Jg (A1:Df P w K mg base aB 1 "_law_ranks" ["_law_numbers"] tE a1 d1)(A2:Df P w K mg base aB 1 "_law_stands" ["_law_one","_law_other"] pH a2 d2)(me:mg "enumerate" = none)(ms:mg "sum" = none)(hr:pj 1 "_law_scores" pk A s f cdv):Bx (PS (aW aB P w K mg base yV "_law_scores" (aa pk) f cdv A outer s H E).ŋ (zn 3) (zU K)):=by
 have nd:=Os.nd;have hu:(A.deeper (PyProof.Rows.envOfC "_law_scores" (aa pk) s.heap.objs.size f cdv)).units+1<cLine:=by have:=hr.un;omega
 exact⟨bY .never rfl (fJ rfl me (ac (pv 3) ao)) (bF rfl (eF (cq nd rfl (.inl rfl)) (eF (cq nd rfl (.inr rfl)) aZ)))
  (aX (be (ar cj (pv 0) ay (ax _)) (aX (ij hu (pv 6) (pv 8) (cS ia (cS fS (pv 2) (pv 8)) aF) rfl))
  (aX (be (ar cj (pv 0) ay (ax _)) (aX (ij hu (pv 6) (pv 8) (cS fS (cZ A1 hr ak (ac (cu rfl Dq (aS (pv 3)) (λ s H C fp=>cq Jf rfl (.inl rfl)) (λ s H C fp=>cS ia (cS fS (pv 1) (pv 0)) aF)) ao)) (pv 7)) rfl))
  (aX (be (ar cj (pv 0) ay (ax _)) (aX (ij hu (pv 6) (pv 8) (aj (gK rfl) rfl ms ŷ (ac (cu rfl zp (aS (pv 3)) (λ s H C fp=>cq JO rfl (.inl rfl)) (λ s H C fp=>cZ A2 hr ak (ac (cS fS (pv 1) (pv 2)) (ac (cS fS (pv 1) (pv 0)) ao)))) ao)) rfl)) f6))))))⟩
theorem Jz (A2:Df P w K mg base aB 1 "_law_stands" ["_law_one","_law_other"] pH a2 d2)(me:mg "enumerate" = none)(hr:pj 1 "_law_scores" pk A s f cdv):Bx (PS (aW aB P w K mg base yV "_law_scores" (aa pk) f cdv A outer s H E).ŋ (zn 4) (AF K)):=by
 have nd:=Os.nd;have hu:(A.deeper (PyProof.Rows.envOfC "_law_scores" (aa pk) s.heap.objs.size f cdv)).units+1<cLine:=by have:=hr.un;omega
 exact⟨bY .never rfl (aS (pv 1)) (bF rfl (eF (cq nd rfl (.inl rfl)) (eF (cq nd rfl (.inl rfl)) aZ)))
  (aX (bY .never rfl (fJ rfl me (ac (pv 5) ao)) (bF rfl (eF (cq nd rfl (.inl rfl)) (eF (cq nd rfl (.inr rfl)) aZ)))
  (aX (be (ar cj (pv 0) ay (ax _)) (aX (ij hu (pv 6) (pv 8) (cZ A2 hr ak (ac (cS fS (pv 2) (pv 8)) (ac (cS fS (pv 2) (cS fS (pv 5) (aE ib (aE bw (pv 7) aF) (aE dY aF (aE c6 (pv 7) aF))))) ao))) rfl)) f6))))⟩
theorem Bj (A1:Df P w K mg base aB 1 "_law_ranks" ["_law_numbers"] tE a1 d1)(A2:Df P w K mg base aB 1 "_law_stands" ["_law_one","_law_other"] pH a2 d2)(me:mg "enumerate" = none)(ms:mg "sum" = none)(hr:pj 1 "_law_scores" pk A s f cdv):Bx (Ž (aW aB P w K mg base yV "_law_scores" (aa pk) f cdv A outer s H E).ŋ (aH pk) (Jq K)) :=
 dq (bq Os.nd rfl (.inl rfl) ⟨bM ao⟩) (dq JT (dq (bq Os.nd rfl (.inl rfl) ⟨pf⟩) (dq (Jg A1 A2 me ms hr) (dq (Jz A2 me hr) (br ⟨dk (pv 6)⟩)))))
end
end
section
variable {P:Program}{w:World}{K:Frag}{mg:bC}{base:Heap}{C MC:Nat->Addr}{f S g:Addr}{fd gd:FuncData}
abbrev vM:Stmt:=aG (cw 58) 0
def oG (MC:Nat->Addr):Sp:=λ vs H Q _=>∃ x v k dx,k<4/\vs=[.ref x,v]/\H x=some (.ins (MC k) dx [])/\Q .Ċ (ad H x (.ins (MC k) dx [("mark",v)]))
theorem xR:ae ["self","mark"] ["self","mark"] (aa vM):=aR
theorem CI (Z:KM K MC)(F:Ī K "__init__" "Measure.__init__" vM f fd):à P w K mg base aB 1 f fd ["self","mark"] (oG MC):=by
 refine bO F xR λ cdv A outer s H vs Q E hr h=>?_;obtain⟨x,v,k,dx,hk,rfl,hx,q⟩:=h;exact⟨_,aX (dG (pv 0) (pv 1) rfl),_,rfl,_,rfl,x,_,dx,[],rfl,hx,Z.cls k hk,Z.no k hk,au,q⟩
def gU (MC:Nat->Addr)(k:Nat):Sp:=λ vs H Q _=>∃ x dx,vs=[.ref x]/\H x=some (.ins (MC k) dx [])/\∀ m H',Kept H H' x->H' m=some (.tup [.str (aA k)])->H' x=some (.ins (MC k) dx [("mark",.ref m)])->Q .Ċ H'
abbrev Cg:Stmt:=aG (cw 59) 0
theorem Em:ae ["self"] ["self"] (aa Cg):=aR
theorem Bv (F:Ī K "__init__" "Sum.__init__" Cg f fd)(Cf:fD K S "__init__" g)(G:à P w K mg base aB 1 g gd ["self","mark"] (oG MC))(bG:Binds K gd ["self","mark"] [])(mS:mg "Measure" = some (.ref S)):à P w K mg base aB 2 f fd ["self"] (gU MC 0):=by
 refine bO F Em λ cdv A outer s H vs Q E hr h=>?_;obtain⟨x,dx,rfl,hx,q⟩:=h;refine⟨_,aX (aw (bP Cf G hr rfl mS bG .nil ak (ac (pv 0) (ac (aP (ac ay ao)) ao)))),?_⟩;refine⟨_,rfl,cL,λ t ht=>?_⟩;have x1:=Ext.new (o:=.tup [.str "sum"]) ht;have ne:t≠x:=λ e=>by rw [e,hx] at ht;cases ht
 refine⟨x,_,0,dx,au,rfl,x1 _ _ hx,q t _ ((x1.kept x).trans (bj _)) ?_ aM⟩;rw [af ne];exact aM
abbrev AI:Stmt:=aG (cw 60) 0
theorem G4:ae ["self"] ["self"] (aa AI):=aR
theorem B1 (F:Ī K "__init__" "Ranks.__init__" AI f fd)(Cf:fD K S "__init__" g)(G:à P w K mg base aB 1 g gd ["self","mark"] (oG MC))(bG:Binds K gd ["self","mark"] [])(mS:mg "Measure" = some (.ref S)):à P w K mg base aB 2 f fd ["self"] (gU MC 1):=by
 refine bO F G4 λ cdv A outer s H vs Q E hr h=>?_;obtain⟨x,dx,rfl,hx,q⟩:=h;refine⟨_,aX (aw (bP Cf G hr rfl mS bG .nil ak (ac (pv 0) (ac (aP (ac ay ao)) ao)))),?_⟩;refine⟨_,rfl,cL,λ t ht=>?_⟩;have x1:=Ext.new (o:=.tup [.str "ranks"]) ht;have ne:t≠x:=λ e=>by rw [e,hx] at ht;cases ht
 refine⟨x,_,1,dx,au,rfl,x1 _ _ hx,q t _ ((x1.kept x).trans (bj _)) ?_ aM⟩;rw [af ne];exact aM
abbrev Cy:Stmt:=aG (cw 61) 0
theorem Gy:ae ["self"] ["self"] (aa Cy):=aR
theorem BT (F:Ī K "__init__" "Wins.__init__" Cy f fd)(Cf:fD K S "__init__" g)(G:à P w K mg base aB 1 g gd ["self","mark"] (oG MC))(bG:Binds K gd ["self","mark"] [])(mS:mg "Measure" = some (.ref S)):à P w K mg base aB 2 f fd ["self"] (gU MC 2):=by
 refine bO F Gy λ cdv A outer s H vs Q E hr h=>?_;obtain⟨x,dx,rfl,hx,q⟩:=h;refine⟨_,aX (aw (bP Cf G hr rfl mS bG .nil ak (ac (pv 0) (ac (aP (ac ay ao)) ao)))),?_⟩;refine⟨_,rfl,cL,λ t ht=>?_⟩;have x1:=Ext.new (o:=.tup [.str "wins"]) ht;have ne:t≠x:=λ e=>by rw [e,hx] at ht;cases ht
 refine⟨x,_,2,dx,au,rfl,x1 _ _ hx,q t _ ((x1.kept x).trans (bj _)) ?_ aM⟩;rw [af ne];exact aM
abbrev zc:Stmt:=aG (cw 62) 0
theorem Hn:ae ["self"] ["self"] (aa zc):=aR
theorem yL (F:Ī K "__init__" "Signs.__init__" zc f fd)(Cf:fD K S "__init__" g)(G:à P w K mg base aB 1 g gd ["self","mark"] (oG MC))(bG:Binds K gd ["self","mark"] [])(mS:mg "Measure" = some (.ref S)):à P w K mg base aB 2 f fd ["self"] (gU MC 3):=by
 refine bO F Hn λ cdv A outer s H vs Q E hr h=>?_;obtain⟨x,dx,rfl,hx,q⟩:=h;refine⟨_,aX (aw (bP Cf G hr rfl mS bG .nil ak (ac (pv 0) (ac (aP (ac ay ao)) ao)))),?_⟩;refine⟨_,rfl,cL,λ t ht=>?_⟩;have x1:=Ext.new (o:=.tup [.str "signs"]) ht;have ne:t≠x:=λ e=>by rw [e,hx] at ht;cases ht
 refine⟨x,_,3,dx,au,rfl,x1 _ _ hx,q t _ ((x1.kept x).trans (bj _)) ?_ aM⟩;rw [af ne];exact aM
structure Ks (P:Program)(w:World)(K:Frag)(mg:bC)(base:Heap)(MC:Nat->Addr)(f0 f1 f2 f3:Addr)(e0 e1 e2 e3:FuncData):Prop where
 k0:Mk K (MC 0) f0
 k1:Mk K (MC 1) f1
 k2:Mk K (MC 2) f2
 k3:Mk K (MC 3) f3
 g0:à P w K mg base aB 2 f0 e0 ["self"] (gU MC 0)
 g1:à P w K mg base aB 2 f1 e1 ["self"] (gU MC 1)
 g2:à P w K mg base aB 2 f2 e2 ["self"] (gU MC 2)
 g3:à P w K mg base aB 2 f3 e3 ["self"] (gU MC 3)
 b0:Binds K e0 ["self"] []
 b1:Binds K e1 ["self"] []
 b2:Binds K e2 ["self"] []
 b3:Binds K e3 ["self"] []
 m0:mg "Sum" = some (.ref (MC 0))
 m1:mg "Ranks" = some (.ref (MC 1))
 m2:mg "Wins" = some (.ref (MC 2))
 m3:mg "Signs" = some (.ref (MC 3))
theorem Gi (hx:H x=none)(hd:H dx=none)(ne:dx≠x)(q:∀ H',Ext H H'->Me MC H' k (.ref x)->R .Ċ H'):gU MC k [.ref x] (ad (ad H dx (.own x)) x (.ins (MC k) dx [])) R E:=by
 have xe:=eZ (u:=.own x) (v:=.ins (MC k) dx []) hx hd ne;exact⟨x,dx,rfl,aM,λ m H' kp hm Ox=>q H' (xe.kp hx kp) ⟨x,dx,m,rfl,Ox,hm⟩⟩
end
structure KW (K:Frag)(MC:Nat->Addr)(MS:Addr):Prop where
 cls:OF K (MC 4)
 no:∀ n,n∈(["inner","weights","mark"]:List Str)->ž K (MC 4) n
 ha:∀ i,i<5->PySem.W.findIn K (.ref (MC i)) "__class__" = some (some (.builtin "object.__class__"))
 hn:PySem.W.specialIn K (.builtin "object.__class__") "__get__" = some (some (.builtin "getset_descriptor.__get__"))
 Nq:PySem.W.takesIn K (.builtin "object.__class__")=some true
 hm:∀ i,i<5->PySem.W.mroIn K (MC i) (.type "object")=some true
 kk:∀ i j,i<5->j<4->kitOne K (.ref (MC i)) (.ref (MC j))=some (i==j)
 kM:∀ i,i<5->kitOne K (.ref (MC i)) (.ref MS)=some true
def InK (K:Frag)(MC:Nat->Addr)(H:Hp)(v:V)(b:Bool):Prop:=∃ t,š K H v t/\kitAny K t [.ref (MC 0),.ref (MC 1),.ref (MC 2),.ref (MC 3)]=some b
theorem InK.ext (h:InK K MC H v b)(x:Ext H H'):InK K MC H' v b:=by
 obtain⟨t,k,e⟩:=h;exact⟨t,My.š.ext k x,e⟩
theorem w5 (h1:kitOne K t a=some x)(h2:kitOne K t b=some y)(h3:kitOne K t c=some z)(h4:kitOne K t d=some u):kitAny K t [a,b,c,d]=some (x||(y||(z||u))):=by
 cases x <;> cases y <;> cases z <;> cases u <;> simp [kitAny,h1,h2,h3,h4]
theorem Me.inK (Z:KM K MC)(Y:KW K MC MS)(hk:k<4)(h:Me MC H k v):InK K MC H v true:=by
 obtain⟨a,dx,m,rfl,ha,_⟩:=h;have k5:=Ē hk;refine⟨_,.ins ha (Z.cls k hk) (Y.ha k k5) Y.hn Y.Nq (Y.hm k k5),?_⟩;rw [w5 (Y.kk k 0 k5 au) (Y.kk k 1 k5 au) (Y.kk k 2 k5 au) (Y.kk k 3 k5 au)]
 match k,hk with
 | 0,_=>rfl
 | 1,_=>rfl
 | 2,_=>rfl
 | 3,_=>rfl
def Wm (MC:Nat->Addr)(H:Hp)(k:Nat)(ws:List Int)(v:V):Prop:=∃ a dx i t m r,v=.ref a/\H a=some (.ins (MC 4) dx [("inner",i),("weights",.ref t),("mark",.ref m)])/\Me MC H k i/\H t=some (.tup (ws.map V.int))/\H m=some (.tup [.str "weighted",.ref r,.ref t])/\H r=some (.tup [.str (aA k)])
theorem Wm.ext (h:Wm MC H k ws v)(x:Ext H H'):Wm MC H' k ws v:=by
 obtain⟨a,dx,i,t,m,r,e,ha,hi,ht,hm,hr⟩:=h;exact⟨a,dx,i,t,m,r,e,x _ _ ha,hi.ext x,x _ _ ht,x _ _ hm,x _ _ hr⟩
def zy (ws:List Int):Prop:=1<=ws.length/\ws.length<=6/\∀ n∈ws,0<=n/\n<=20
def Ex (xs:List V):Bool:=(decide (1<=xs.length)&&decide (xs.length<=6))&&(xs.map (NP 0 20)).all id
theorem zO (h:zy ws):Ex (ws.map V.int)=true:=by
 unfold Ex;rw [Â,Ë h.1,Ë h.2.1,Ň,Ň,ú];intro b hb;rw [Q6] at hb;obtain⟨n,hn,rfl⟩:=ð.mp hb;obtain⟨h1,h2⟩:=h.2.2 n hn;show(decide ((0:Int)<=n)&&decide (n<=20))=true;rw [Ë h1,Ë h2];rfl
section
variable {P:Program}{w:World}{K:Frag}{mg:bC}{base:Heap}{C MC:Nat->Addr}{MS f g a1 a2 D CT CW fT fW:Addr}{fd gd d1 d2 eT eW:FuncData}
abbrev zH:Stmt:=cw 63
def yh (K:Frag)(MC:Nat->Addr):Sp:=λ vs H Q _=>∃ v b,vs=[v]/\InK K MC H v b/\∀ H',Ext H H'->Q (.bl b) H'
theorem E9:ae ["thing"] ["thing"] (aa zH):=aR
theorem A7 (F:Ī K "may_be_inner" "may_be_inner" zH f fd)(m0:mg "Sum" = some (.ref (MC 0)))(m1:mg "Ranks" = some (.ref (MC 1)))(m2:mg "Wins" = some (.ref (MC 2)))(m3:mg "Signs" = some (.ref (MC 3)))(mi:mg "isinstance" = none):à P w K mg base aB 1 f fd ["thing"] (yh K MC):=by
 refine bO F E9 λ cdv A outer s H vs Q E hr h=>?_;obtain⟨v,b,rfl,bk,q⟩:=h;refine⟨_,aX (dk (aj lL rfl mi Û (ac (pv 0) (ac (aP (ac (bA (v:=.ref (MC 0)) rfl m0 rfl) (ac (bA (v:=.ref (MC 1)) rfl m1 rfl) (ac (bA (v:=.ref (MC 2)) rfl m2 rfl) (ac (bA (v:=.ref (MC 3)) rfl m3 rfl) ao))))) ao)))),?_⟩;refine⟨_,rfl,cL,λ p hp=>?_⟩;have x1:=Ext.new (o:=.tup [.ref (MC 0),.ref (MC 1),.ref (MC 2),.ref (MC 3)]) hp;obtain⟨t,ty,ka⟩:=bk.ext x1;exact⟨v,p,[MC 0,MC 1,MC 2,MC 3],t,b,rfl,ty,aM,ka,q _ x1⟩
abbrev Kk:Stmt:=cw 64
def FL (K:Frag):Sp:=λ vs H Q _=>∃ v,vs=[v]/\((PV K H v "list" /\ ∀ H',Ext H H'->Q (.bl false) H')\/∃ a xs,v=.ref a/\H a=some (.lst xs)/\xs.length<1000/\(∀ x∈xs,Th K H x)/\∀ H',Ext H H'->Q (.bl (Ex xs)) H')
theorem Jl:ae ["thing"] ["thing"] (aa Kk):=aR
abbrev E4:Scope:=dJ [("weight",.local),("is_whole",.globalImplicit),("MOST_WEIGHT",.globalImplicit)]
theorem Cb:bu X E4 [] ["weight"] [] []:=by
 refine⟨rfl,rfl,av,av,av,(λ z c h=>nomatch h),(λ z h=>?_),av,(λ k z h=>by simp at h),rfl⟩
 exfalso;have h':List.lookup z [((".0" : Str),NameKind.local),(("weight" : Str),NameKind.local),(("is_whole" : Str),NameKind.globalImplicit),(("MOST_WEIGHT" : Str),NameKind.globalImplicit)]=some .cell\/List.lookup z [((".0" : Str),NameKind.local),(("weight" : Str),NameKind.local),(("is_whole" : Str),NameKind.globalImplicit),(("MOST_WEIGHT" : Str),NameKind.globalImplicit)]=some .free:=h;simp only [List.lookup_cons,List.lookup_nil] at h'
 repeat' (split at h')
 all_goals simp at h'
theorem Ji:((["weight"]:List Str)++([]:List Str)).Nodup:=av
theorem FZ (N:sP K)(F:Ī K "are_weights" "are_weights" Kk f fd)(A2:Df P w K mg base aB 2 "is_whole" ["thing","low","high"] (gD K) a2 d2)(mR:mg "MOST_WEIGHTS" = some (.int 6 t))(mR':mg "MOST_WEIGHT" = some (.int 20 t'))
  (mi:mg "isinstance" = none)(ml:mg "list" = none)(mn:mg "len" = none)(ma:mg "all" = none):à P w K mg base aB 3 f fd ["thing"] (FL K):=by
 refine bO F Jl λ cdv A outer s H vs Q E hr h=>?_;obtain⟨v,rfl,h⟩:=h;refine⟨_,bU (be (PW.pt (gR (cp (bE (aj (cK N) rfl mi Û (ac (pv 0) (ac (gz rfl ml Ă) ao))))) (fv (cp (bE (cZ A2 hr ak (ac (aj az rfl mn ê (ac (pv 0) ao)) (ac aF (ac (bA (v:=.int 6) rfl mR ⟨_,rfl⟩) ao))))))))) (aX (dk vy)) f6)
  (aX (dk (aj (oS rfl) rfl ma PyProof.Rows.boot_all (ac (cu (te:=iE (gD K) [] E0 (am (ag 0) (am (tC (.int 0)) (am (tC (.int 20)) aK)))) (g:=ba 0) rfl Cb (aS (pv 0)) (λ s H C fp=>cq Ji rfl (.inl rfl)) (λ s H C fp=>cZ A2 hr ak (ac (pv 0) (ac aF (ac (bA rfl mR' ⟨_,rfl⟩) ao))))) ao)))),?_⟩
 rcases h with⟨⟨t,kd,kt⟩,q⟩ | ⟨a,xs,rfl,ha,S1,bk,q⟩
 ·exact⟨_,rfl,_,_,_,_,rfl,kd,kt,_,rfl,cy (cy (q H (.refl _)))⟩
 refine⟨_,rfl,_,_,_,_,rfl,.inl (.lst ha),rfl,_,rfl,bZ ?_⟩;refine⟨_,rfl,a,xs,rfl,.inl (ç.of ha),_,1,6,rfl,.inl ⟨_,rfl⟩,_,rfl,?_⟩;have ei:NP 1 6 (.int (xs.length:Nat))=(decide (1<=xs.length)&&decide (xs.length<=6)):=by
  show(decide ((1:Int)<=(xs.length:Nat))&&decide (((xs.length:Nat):Int)<=6))=_
  congr 1 <;> exact NA.mpr ai
 rw [ei];unfold Ex at q;cases e:decide (1<=xs.length)&&decide (xs.length<=6) with
 | false =>
  rw [e,Χ] at q;exact cy (q H (.refl _))
 | true =>
  rw [e,Ň] at q;refine bZ ⟨_,rfl,a,rfl,⟨_,ç.of ha⟩,λ D hD=>?_⟩;refine bD (λ i ys H'=>Ext H H'/\ys=((xs.take i).map (NP 0 20)).map .bl) (by rw [Ö];omega) ⟨.new hD,rfl⟩ (λ i ys H' pv=>ç.of (pv.1 _ _ ha)) ?_ ?_
  ·rintro i x ys H' ex ly Ġ ⟨x',rfl⟩ os ŀ R k;obtain⟨o0,rfl⟩:∃ o0,os=[o0]:=by
    match os,ŀ with
    | [o0],_=>exact⟨o0,rfl⟩
   refine⟨⟨[some x],rfl,rfl⟩,_,rfl,x,0,20,rfl,(bk x (å ex)).ext x',k _ H' Ġ ⟨aI _ x' hD,?_⟩⟩;rw [aC ex,Ì,Ì];rfl
  ·rintro ys H' ly Ġ ⟨x',rfl⟩;rw [Ú] at Ġ;exact⟨D,_,rfl,ç.of Ġ,q H' x'⟩
def yg (MC:Nat->Addr):Sp:=λ vs H Q _=>∃ x v dx fs,vs=[.ref x,v]/\H x=some (.ins (MC 4) dx fs)/\fs.length<20/\Q .Ċ (ad H x (.ins (MC 4) dx (bK "mark" v fs)))
theorem zZ (Y:KW K MC MS)(F:Ī K "__init__" "Measure.__init__" vM f fd):à P w K mg base aB 1 f fd ["self","mark"] (yg MC):=by
 refine bO F xR λ cdv A outer s H vs Q E hr h=>?_;obtain⟨x,v,dx,fs,rfl,hx,l,q⟩:=h;exact⟨_,aX (dG (pv 0) (pv 1) rfl),_,rfl,_,rfl,x,_,dx,fs,rfl,hx,Y.cls,Y.no _ av,ai,q⟩
abbrev HJ:Stmt:=aG (cw 65) 0
abbrev Fg:List Str:=["self","inner","weights"]
theorem Jo:ae Fg Fg (aa HJ):=aR
def wZ (K:Frag)(MC:Nat->Addr)(CT CW:Addr):Sp:=λ vs H Q E=>∃(x:Addr)(v u:V)(dx:Addr)(G:Hp),vs=[.ref x,v,u]/\H x=some (.ins (MC 4) dx [])/\Ext G H/\G x=none/\((InK K MC G v false/\∀ H',Ext H H'->cQ CT "found" v H' E) \/
 ∃ k,k<4/\Me MC G k v/\((PV K G u "list" /\ ∀ H',Ext H H'->cQ CW "found" u H' E)\/(∃ a xs,u=.ref a/\G a=some (.lst xs)/\xs.length<1000/\(∀ x∈xs,Th K G x)/\Ex xs=false/\∀ H',Ext H H'->cQ CW "found" u H' E) \/
 ∃ a ws,u=.ref a/\G a=some (.lst (ws.map V.int))/\zy ws/\∀ H',Kept H H' x->Wm MC H' k ws (.ref x)->Q .Ċ H'))
theorem D8 (Z:KM K MC)(Y:KW K MC MS)(F:Ī K "__init__" "Weighted.__init__" HJ f fd)(B:ĳ K D)(T1:iM K mg D "NoTrials" "found" CT fT eT)(T2:iM K mg D "NoWeights" "found" CW fW eW)
  (Cf:fD K MS "__init__" g)(G':à P w K mg base aB 1 g gd ["self","mark"] (yg MC))(bG:Binds K gd ["self","mark"] [])(mS:mg "Measure" = some (.ref MS))
  (A1:Df P w K mg base aB 1 "may_be_inner" ["thing"] (yh K MC) a1 d1)(A2:Df P w K mg base aB 3 "are_weights" ["thing"] (FL K) a2 d2)(Mt:bJ P w K mg base aB 1 "told" ["self"] (vw MC) (λ _=>uw MC))(mt:mg "tuple" = none):à P w K mg base (cY P w) 4 f fd Fg (wZ K MC CT CW):=by
 refine gP F Jo λ cdv A outer s H vs Q E hr h=>?_;obtain⟨x,v,u,dx,G,rfl,hx,xG,nG,h⟩:=h;have ĭ:ă 1 _:=hr.mono au;have Md:ă 2 _:=hr.mono au;refine⟨_,bU (be (cp (bE (cZ A1 ĭ ak (ac (pv 1) ao)))) (aX (cE B T1.cls (T1.ok P w base) Md T1.bi rfl T1.Nm (pv 1))) f6)
  (bU (be (cp (bE (cZ A2 hr ak (ac (pv 2) ao)))) (aX (cE B T2.cls (T2.ok P w base) Md T2.bi rfl T2.Nm (pv 2))) f6)
  (bU (dG (pv 0) (pv 1) rfl)
  (bU (dG (pv 0) (aN bR rfl mt ù (ac (pv 2) ao)) rfl)
  (aX (aw (bP Cf G' ĭ rfl mS bG .nil ak (ac (pv 0) (ac (aP (ac ay (ac (bt (pv 1) Mt ĭ ak) (ac (oW (pv 0) rfl) ao)))) ao)))))))),?_⟩
 rcases h with⟨ik,q⟩ | ⟨k,hk,me,h⟩
 ·exact⟨_,rfl,v,false,rfl,ik.ext xG,λ H1 x1=>⟨_,rfl,cy ⟨_,rfl,λ e' de h1 h2 nd=>eJ nd (q H1 x1 e' de h1 h2 nd)⟩⟩⟩
 refine⟨_,rfl,v,true,rfl,(me.inK Z Y hk).ext xG,λ H1 x1=>⟨_,rfl,bZ ?_⟩⟩;have N5:=xG.trans x1;rcases h with⟨nk,q⟩ | ⟨a,xs,rfl,ha,l1,bk,bad,q⟩ | ⟨a,ws,rfl,ha,ok,q⟩
 ·exact⟨_,rfl,u,rfl,.inl ⟨nk.ext N5,λ H2 x2=>⟨_,rfl,cy ⟨_,rfl,λ e' de h1 h2 nd=>eJ nd (q H2 (x1.trans x2) e' de h1 h2 nd)⟩⟩⟩⟩
 ·refine⟨_,rfl,_,rfl,.inr ⟨a,xs,rfl,N5 _ _ ha,l1,λ x hx=>(bk x hx).ext N5,λ H2 x2=>⟨_,rfl,?_⟩⟩⟩;rw [bad];exact cy ⟨_,rfl,λ e' de h1 h2 nd=>eJ nd (q H2 (x1.trans x2) e' de h1 h2 nd)⟩
 have l6:=ok.2.1;refine⟨_,rfl,_,rfl,.inr ⟨a,_,rfl,N5 _ _ ha,by rw [Â];omega,λ x hx=>?_,λ H2 x2=>⟨_,rfl,?_⟩⟩⟩
 ·obtain⟨n,_,rfl⟩:=ð.mp hx;exact .inl ⟨n,rfl⟩
 rw [zO ok];refine bZ ?_;have Ţ:=x1.trans x2;have NR:=Ţ _ _ hx;refine⟨_,rfl,_,rfl,x,_,dx,[],rfl,NR,Y.cls,Y.no _ av,au,?_⟩;have k3:Kept H2 (ad H2 x (.ins (MC 4) dx (bK "inner" v []))) x:=bj _;have PJ:ad H2 x (.ins (MC 4) dx (bK "inner" v [])) x=some (.ins (MC 4) dx [("inner",v)]):=aM;generalize ad H2 x (.ins (MC 4) dx (bK "inner" v []))=H3 at k3 PJ ⊢;have XG:Kept H H3 x:=(Ţ.kept x).trans k3;have TV:=xG.kp nG XG;refine⟨_,rfl,a,_,rfl,.inl ⟨ç.of (TV _ _ ha),λ l hl=>?_⟩⟩;have x4:=Ext.new (o:=.tup (ws.map V.int)) hl;have Ry:ad H3 l (.tup (ws.map V.int)) l=some (.tup (ws.map V.int)):=aM;have RX:=x4 _ _ PJ;generalize ad H3 l (.tup (ws.map V.int))=H4 at x4 Ry RX ⊢;have xl:l≠x:=λ e=>by rw [e,RX] at Ry;cases Ry
 refine⟨_,rfl,x,_,dx,_,rfl,RX,Y.cls,Y.no _ av,(by show 1<_;decide),?_⟩
 have k5:Kept H4 (ad H4 x (.ins (MC 4) dx (bK "weights" (.ref l) [("inner",v)]))) x:=bj _;have VZ:ad H4 x (.ins (MC 4) dx (bK "weights" (.ref l) [("inner",v)])) x=some (.ins (MC 4) dx [("inner",v),("weights",.ref l)]):=aM;generalize ad H4 x (.ins (MC 4) dx (bK "weights" (.ref l) [("inner",v)]))=H5 at k5 VZ ⊢;have hl5:=k5 _ _ Ry xl;have XE:Kept H H5 x:=(XG.trans (x4.kept x)).trans k5;have W0:=xG.kp nG XE;have XA:=me.ext W0;refine⟨_,rfl,jx av hk XA (λ R r=>⟨_,rfl,r⟩) ⟨v,k,rfl,hk,XA,λ r Na=>?_⟩⟩;refine⟨_,rfl,x,_,dx,_,_,rfl,VZ,Y.cls,Y.no _ av,rfl,cL,λ m hm=>?_⟩;have x6:=Ext.new (o:=.tup [.str "weighted",.ref r,.ref l]) hm;have Rx:ad H5 m (.tup [.str "weighted",.ref r,.ref l]) m=some (.tup [.str "weighted",.ref r,.ref l]):=aM;generalize ad H5 m (.tup [.str "weighted",.ref r,.ref l])=H6 at x6 Rx ⊢;have VY:=x6 _ _ VZ;have hl6:=x6 _ _ hl5;have RY:=x6 _ _ Na;refine⟨x,_,dx,_,rfl,VY,(by show 2<20;decide),q _ ((XE.trans (x6.kept x)).trans (bj _)) ?_⟩
 have Uf:Kept H6 (ad H6 x (.ins (MC 4) dx (bK "mark" (.ref m) [("inner",v),("weights",.ref l)]))) x:=bj _;have RT:=(W0.trans x6).kp nG Uf;have nm:m≠x:=λ e=>by rw [e,VY] at Rx;cases Rx
 have nr:r≠x:=λ e=>by rw [e,VY] at RY;cases RY
 exact⟨x,dx,v,l,m,r,rfl,aM,me.ext RT,Uf _ _ hl6 xl,Uf _ _ Rx nm,Uf _ _ RY nr⟩
end
end My
namespace My
open PySem PySem.W L2
open PyProof.Rows (Call_)
section
variable {prog:Program}{w:World}{A:Around}{E:fg}{s:Shared}
theorem zL {x1}{z TI TO i1 i2 l1 l2 T:Addr}(D:sM z TI TO i1 i2 l1 l2)(hz:Mg s.heap z TI TO i1 i2 l1 l2 k)
  (hQ:∀ h',Mg h' z TI TO i1 i2 l1 l2 k->Heap.SameBut z s.heap h'->Q () { s with heap:=h' }):wpAny (model prog w) A (letOwnedTupleGo (.Tuple elts x1 ô) (.ref z) (.ref T)) Q E s:=by
 obtain⟨⟨f0,b,zo,ow⟩,ti,⟨ta,tb,to⟩,j1,j2⟩:=hz;refine À (wpAny_load zo ?_);show wpAny _ _ (if(["enumerate","zip","dict_itemiterator","dict_reverseitemiterator","odict_iterator","itertools.zip_longest","itertools.pairwise"].contains "zip" &&
   (#[f0,f0,.bool false,.ref TI,.ref TO]:Array Value)[0]?==some (rawInt T))=true then _ else _) Q E s
 split
 ·refine À (Mh ?_);refine î zo (by simp) λ h' Y5 s'=>hQ h' ⟨⟨_,b,Y5,.inl rfl⟩,s'.extBut _ _ D.a1 ti,⟨ta,tb,s'.extBut _ _ D.a2 to⟩,j1.extBut s'.extBut D.a3,j2.extBut s'.extBut D.a4⟩ s'
 ·exact Æ (hQ s.heap ⟨⟨f0,b,zo,ow⟩,ti,⟨ta,tb,to⟩,j1,j2⟩ ⟨rfl,λ _ _=>rfl⟩)
theorem GR {z TI TO i1 i2 l1 l2:Addr}(D:sM z TI TO i1 i2 l1 l2)(hz:Mg s.heap z TI TO i1 i2 l1 l2 k)(g1:s.heap.IsList l1 xs)(g2:s.heap.IsTuple l2 ys)(hx:xs[k]?=some x)(hy:ys[k]?=some y)
  (hQ:∀ h',Mg h' z TI TO i1 i2 l1 l2 (k+1)->IsPair h' s.heap.objs.size x y->h'.objs.size=s.heap.objs.size+1->gX s.heap h' z TO i1 i2->Q (some (.ref s.heap.objs.size)) { s with heap:=h' }) :
  wpAny (model prog w) A (pyNext (.ref z)) Q E s:=by
 exact À (Ŀ (ÿ hz.ty ī (ĉ ī hz.ty J_ (qW D hz g1 g2 hx hy λ h' a b c d=>Æ (hQ h' a b c d)) (s_ _))))
theorem t5 {z TI TO i1 i2 l1 l2:Addr}(hh:A.handled=none)(D:sM z TI TO i1 i2 l1 l2)(hz:Mg s.heap z TI TO i1 i2 l1 l2 k)(g1:s.heap.IsList l1 xs)(g2:s.heap.IsTuple l2 ys)(hn:xs[k]?=none\/ys[k]?=none)
  (hQ:∀ h',gX s.heap h' z TO i1 i2->Q none { s with heap:=h' }):wpAny (model prog w) A (pyNext (.ref z)) Q E s:=by
 refine À (Ŀ (ÿ hz.ty ī (ĉ ī hz.ty J_ (uz hh D hz g1 g2 hn λ h' x kz Ox=>?_) (s_ _))));obtain⟨o,ho,hc⟩:=Ox;exact À (PZ ⟨o,ho,hc⟩ isSubtype_stop (Æ (hQ _ kz)))
end
section
variable {X:Cx}{Ä:List (Addr × Obj)}{σ:St}{H:Hp}{s:Shared}{h':Heap}
theorem wQ {ch:List Addr}(I:Inv X Ä σ H s)(F:∀ b∈ch,dL X Ä H b)(k:∀ b o,b ∉ ch->s.heap.get? b=some o->h'.get? b=some o)
  (o1:Ą X.prog X.w (ad H s.heap.objs.size (.tup xs)) h' s.heap.objs.size (.tup xs)) :
  Inv X Ä σ (ad H s.heap.objs.size (.tup xs)) { s with heap:=h',toks:=t' }:=by
 have f1:=I.ċ.fresh (Ê _);have up:∀ b u,H b=some u->ad H s.heap.objs.size (.tup xs) b=some u:=λ b u e=>by
  rw [af (λ z=>by rw [z,f1] at e;cases e)]
  exact e
 have dn:∀ b,b<s.heap.objs.size->ad H s.heap.objs.size (.tup xs) b=H b:=λ b l=>by
  rw [af (Ó l)]
 have N_:∀ b u,H b=some u->b ∉ ch:=λ b u e z=>by
  have:=(F b z).1;rw [this] at e;cases e
 refine I.step (λ b hb=>?_) (λ b o _ _ hc e _=>k b o hc e) (λ b o _ _ hc e _=>⟨o.slots,k b o hc e⟩) (λ b o _ e n=>by rw [dn b (É e)];exact n)
  (λ b o hc e=>⟨o,k b o hc e⟩) (λ b _ e=>up _ _ e) (λ _ _ _ e=>up _ _ e) (λ b ps e=>⟨#[],by rw [up _ _ e];simp⟩) (λ q=>?_) (λ m hm=>?_) (λ b u e=>?_) I.bare
 ·obtain⟨_,a,_,b',c,d⟩:=F b hb;exact⟨b',a,c,d⟩
 ·rw [dn _ (h_ (by decide:sysModules<mainGlobals) (I.mod.glob.keeps I.bk).lt)]
  exact q
 ·obtain⟨o,es,ep,ho,r⟩:=hm;exact⟨o,es,ep,k _ o (λ z=>(F _ z).2.1 rfl) ho,r⟩
 ·by_cases z1:b=s.heap.objs.size
  ·subst z1;rw [aM] at e;cases e;exact o1
  ·rw [af z1] at e;refine(I.ċ b u e).l_ (λ c v hc q=>k c v ?_ q) (λ c q=>up _ _ q) λ c zs q=>up _ _ q;rcases hc with z | z
   ·rw [z];exact N_ _ _ e
   ·exact N_ _ _ z
end
def FN (K:Frag)(a b:Addr):It :=
 ⟨λ i H=>∃ xs ys x y,ç K H a xs/\đ K H b ys/\xs[i]?=some x/\ys[i]?=some y,
   λ i H v H'=>∃ q x y,v=.ref q/\H q=none/\H'=ad H q (.tup [x,y])/\∀ xs ys,ç K H a xs->đ K H b ys->xs[i]?=some x/\ys[i]?=some y,
   λ i H=>∃ xs ys,ç K H a xs/\đ K H b ys/\(xs.length<=i\/ys.length<=i)⟩
theorem vV {x1}(a b z TI TO i1 i2:Addr)(D:sM z TI TO i1 i2 a b) :
  nR P w K (.Tuple elts x1 ô) (FN K a b) [z,TI,TO,i1,i2] z (λ i h=>Mg h z TI TO i1 i2 a b i) where
 mem:=by simp
 obj:=λ i h st c hc=>by
  obtain⟨⟨f0,bb,zo,ow⟩,ti,⟨ta,tb,to⟩,⟨oa,ha,ca,da⟩,⟨ob,hb,cb,db⟩⟩:=st;simp only [List.mem_cons,List.not_mem_nil,or_false] at hc;rcases hc with rfl | rfl | rfl | rfl | rfl
  ·exact⟨_,zo,λ v q=>by cases q⟩
  ·exact⟨_,ti,λ v q=>by cases q⟩
  ·exact⟨_,to,λ v q=>by cases q⟩
  ·exact⟨oa,ha,λ v q=>by rw [da] at q;cases q⟩
  ·exact⟨ob,hb,λ v q=>by rw [db] at q;cases q⟩
 keep:=λ i h h' st k=>st.keep λ c hc o q=>k c hc o q
 item:=by
  intro X hP hw hK hc i Ä s σ H E I hf st hg;subst hP hw hK;obtain⟨xs,ys,x,y,hq,M4,hx,hy⟩:=hg;obtain⟨its,rv,p,hz⟩:=I.list hq;obtain⟨Θ,P7,p2,S5⟩:=I.tuple M4;obtain⟨u,hu,ru⟩:=rv.get hx;obtain⟨v,hv,U'⟩:=P7.get hy;have Pd:s.heap.IsTuple b Θ.toArray:=by
   obtain⟨o,q,c,n,d⟩:=p2;exact⟨o,q,c,n,d⟩
  have zl:z<s.heap.objs.size:=by
   obtain⟨f0,bb,zo,ow⟩:=st.1;exact É zo
  refine GR D st p.isList Pd (by simpa using hu) (by simpa using hv) λ h1 R8 pr Xg kk=>?_
  refine⟨_,rfl,zL D R8 λ h2 UI sb=>?_⟩;have N8:=sb;have na:=Ĳ zl;have Vh:=(N8.2 _ na).trans pr;have f1:=I.ċ.fresh (Ê _);refine⟨.ref s.heap.objs.size,ad H s.heap.objs.size (.tup [x,y]),?_,rfl,⟨_,x,y,rfl,f1,rfl,λ xs' N4 g1 g2=>⟨by rw [I.d_ g1 hq];exact hx,by rw [I.j_ g2 M4];exact hy⟩⟩,UI,λ c hc=>?_⟩
  ·refine wQ I hf (λ c o hc q=>?_) ?_
   ·simp only [List.mem_cons,List.not_mem_nil,or_false,not_or] at hc;exact(N8.2 c hc.1).trans (kk c o hc.1 hc.2.2.1 hc.2.2.2.1 hc.2.2.2.2 q)
   ·exact⟨cL,[u,v],.cons ru (.cons U' .nil),⟨_,Vh,rfl,_,rfl⟩⟩
  ·have q:=hf c hc;have N7:c<s.heap.objs.size:=by
    obtain⟨⟨f0,bb,zo,ow⟩,ti,⟨ta,tb,to⟩,⟨oa,ha,_,_⟩,⟨ob,hb,_,_⟩⟩:=st;simp only [List.mem_cons,List.not_mem_nil,or_false] at hc;rcases hc with rfl | rfl | rfl | rfl | rfl
    ·exact É zo
    ·exact É ti
    ·exact É to
    ·exact É ha
    ·exact É hb
   rw [af (Ó N7)];exact q.1
 done:=by
  intro X hP hw hK hc i Ä s σ H E I hf st hg;subst hP hw hK;obtain⟨xs,ys,hq,M4,hn⟩:=hg;obtain⟨its,rv,p,hz⟩:=I.list hq;obtain⟨Θ,P7,p2,S5⟩:=I.tuple M4;have Pd:s.heap.IsTuple b Θ.toArray:=by
   obtain⟨o,q,c,n,d⟩:=p2;exact⟨o,q,c,n,d⟩
  have l1:=rv.length;have l2:=P7.length;refine t5 (I.ok.hd hc) D st p.isList Pd ?_ λ h1 kk=>⟨rfl,qS I hf λ c o MF q=>?_⟩
  ·rcases hn with h | h
   ·exact .inl (by simp;omega)
   ·exact .inr (by simp;omega)
  ·simp only [List.mem_cons,List.not_mem_nil,or_false,not_or] at MF;exact kk c o MF.1 MF.2.2.1 MF.2.2.2.1 MF.2.2.2.2 q
 self:=λ _ s Q _ _ st h=>by
  refine wpAny_pyIter_slot st.ty F.slot_zip_iter (ĉ F.slot_zip_iter st.ty F.entry_zip_iter ?_ (F.args_zip_iter_1 _));exact Æ ⟨_,rfl,"zip",_,st.ty,ī.lookup,h⟩
section
variable {X:Cx}
def KQ (K:Frag)(ta:TA):TI:=λ σ H R=>ta σ H λ vs H1=>∃ l t,vs=[.ref l,.ref t]/\(∃ xs,ç K H1 l xs)/\(∃ ys,đ K H1 t ys)/\R (FN K l t) H1
theorem Nn (hc:c ∈ [n+4,n+2,n+3,n,n+1]):n<=c:=by
 simp only [List.mem_cons,List.not_mem_nil,or_false] at hc;omega
theorem Hh {x1}(Wk:Gl X "zip")(Qd:X.mg "zip" = none)(ha:PA X [a,b] ta)
  (he:starEach (a :: [b]) X.env=(false,eval a X.env)::starEach [b] X.env:=by rfl)(ź:(backTo NK (starEach [b] X.env)).any (·.1)=false:=by rfl) :
  PI X (.Tuple elts x1 pt) (.Call (.Name "zip" p2) [a,b] [] NK) (KQ X.K ta):=by
 intro Ä s σ H R I h;refine Call_ (gC I Wk Qd PyProof.Rows.boot_zip (ğ (aV (ha NK Ä s σ H _ I h) λ us s1 ⟨vs,H1,I1,r1,q1⟩=>?_) he ź));obtain⟨l,t,rfl,⟨xs,hq⟩,⟨ys,M4⟩,q⟩:=q1;cases r1 with
 | cons r rr =>
  cases r;cases rr with
  | cons r' Vb =>
   cases r';cases Vb;obtain⟨its,rv,pl,hz⟩:=I1.list hq;obtain⟨Θ,P7,Pd,S5⟩:=I1.tuple M4;have ht:s1.heap.IsTuple t Θ.toArray:=by
    obtain⟨o,q,c,n,d⟩:=Pd;exact⟨o,q,c,n,d⟩
   have VM:l<s1.heap.objs.size:=by
    obtain⟨o,q,_⟩:=pl.isList;exact É q
   have RV:t<s1.heap.objs.size:=by
    obtain⟨o,q,_⟩:=ht;exact É q
   refine qu pl.isList ht λ h2 iz za UY k2=>?_;refine PY iz ?_;have D:=qv VM RV;exact⟨s1.heap.objs.size+4,[s1.heap.objs.size+4,s1.heap.objs.size+2,s1.heap.objs.size+3,s1.heap.objs.size,s1.heap.objs.size+1],_,_,H1,rfl,I1.kept (λ c o e=>k2 _ _ e),vV l t _ _ _ _ _ D,za,λ c hc=>I1.NV (Nn hc) (I1.ċ.fresh (Nn hc)),q⟩
end
theorem zV {g:TG}{tb:TS}{D:bX}(Pv:Nat->St->Hp->Prop)(h0:Pv 0 σ H)(hl:∀ i σ H,i<=min xs.length ys.length->Pv i σ H->ç K H a xs/\đ K H b ys)
  (hs:∀ i x y σ H q,xs[i]?=some x->ys[i]?=some y->Pv i σ H->H q=none->g (.ref q) σ (ad H q (.tup [x,y])) λ Ĵ H2=>tb { D with nx:=Pv (i+1),ct:=Pv (i+1),bk:=D.nx } Ĵ H2)(hd:∀ σ H,Pv (min xs.length ys.length) σ H->D.nx σ H) :
  ∃ W:Nat->Nat->St->Hp->Prop,(∃ m,W 0 m σ H)/\∀ i m σ H,W i m σ H ->
   ((FN K a b).stop i H/\D.nx σ H)\/((FN K a b).go i H/\∃ N:St->Hp->Prop,(∀ ĝ H',N ĝ H'->∃ m',m'<m/\W (i+1) m' ĝ H')/\∀ x H',(FN K a b).MJ i H x H'->g x σ H' λ Ĵ H2=>tb { D with nx:=N,ct:=N,bk:=D.nx } Ĵ H2):=by
 refine⟨λ i m σ H=>m=min xs.length ys.length-i/\i<=min xs.length ys.length/\Pv i σ H,⟨min xs.length ys.length,ai,ı _,h0⟩,?_⟩;rintro i m σ H ⟨rfl,hi,pv⟩;obtain⟨q1,q2⟩:=hl i σ H hi pv;by_cases ŵ:i<min xs.length ys.length
 ·have l1:i<xs.length:=ai;have l2:i<ys.length:=ai;refine .inr ⟨⟨xs,ys,xs[i],ys[i],q1,q2,Á l1,Á l2⟩,Pv (i+1),λ ĝ H' n=>⟨min xs.length ys.length-(i+1),ai,rfl,ŵ,n⟩,λ v H' yl=>?_⟩;obtain⟨q,x,y,rfl,hq,rfl,at'⟩:=yl;obtain⟨e1,e2⟩:=at' xs ys q1 q2;exact hs i x y σ H q e1 e2 pv hq
 ·have e:i=min xs.length ys.length:=ai;subst e;exact .inl ⟨⟨xs,ys,q1,q2,ai⟩,hd σ H pv⟩
end My
namespace My
open PySem PySem.W L2
def aU (os:List (Int × Bool))(p:List Int):List (Int × Bool):=p.map λ i=>os.getD i.toNat (0,false)
def iZ (k:Nat)(ws:List Int)(ps:List (List Int))(os:List (Int × Bool)):List Int:=(List.zipWith (λ (p:List Int)(n:Int)=>(ig k (aU os p)).map (n * ·)) ps ws).flatten
theorem Μ.Nu {os:List (Int × Bool)}(h:Μ H xs os)(x:Ext H H'):Μ H' xs os:=by
 refine⟨h.1,λ i y o h1 h2=>?_⟩;obtain⟨p,e,hp⟩:=h.2 i y o h1 h2;exact⟨p,e,x _ _ hp⟩
section
variable {P:Program}{w:World}{K:Frag}{mg:bC}{base:Heap}{C MC:Nat->Addr}{MS CU CN CW D f g a1 a2 fW:Addr}{fd gd d1 d2 eW:FuncData}
abbrev Kj:Stmt:=aG (cw 65) 1
theorem JB:ae ["self","rule","outcomes"] ["self","rule","outcomes"] (aa Kj):=aR
def md (C MC:Nat->Addr)(CU CN CW:Addr):Sp:=λ vs H Q E=>∃ k ws v r t a xs os,k<4/\vs=[v,r,.ref a]/\Wm MC H k ws v/\ws.length<=6/\Ru C H t r/\t.parts.length<=20/\(∀ p∈t.parts,p.length<=20)/\H a=some (.lst xs)/\Μ H xs os /\
 (ws.length<t.parts.length->∀ l H',Ext H H'->H l=none->H' l=some (.lst (ws.map V.int))->cQ CW "found" (.ref l) H' E) /\
 (t.parts.length<=ws.length->((jy k t os).all id=true->∀ H',Ext H H'->Q .Ċ H')/\∀ i,bQ (jy k t os) i->∀ H',Ext H H'->cQ (mJ CU CN k) (nq k) (.int (i:Nat)) H' E)
theorem EH (Y:KW K MC MS)(F:Ī K "need_fit" "Weighted.need_fit" Kj f fd)(Mr:Ms P w K mg base C)(M1:bJ P w K mg base (cY P w) 5 "need_fit" ["self","rule","outcomes"] (vw MC) (kF C MC CU CN))(B:ĳ K D)(T2:iM K mg D "NoWeights" "found" CW fW eW)(mn:mg "len" = none)(ml:mg "list" = none) :
  à P w K mg base (cY P w) 6 f fd ["self","rule","outcomes"] (md C MC CU CN CW):=by
 refine gP F JB λ cdv A outer s H vs Q E hr h=>?_;obtain⟨k,ws,v,r,t,a,xs,os,hk,rfl,wm,l6,ru,l1,l2,ha,oc,q1,q2⟩:=h;have ĭ:ă 1 _:=hr.mono au;have Md:ă 2 _:=hr.mono au;refine⟨_,bU (be (ar f9 (aj az rfl mn ê (ac (bt (pv 1) Mr.blocks ĭ ak) ao)) (aj az rfl mn ê (ac (oW (pv 0) rfl) ao)) (ax _)) (aX (cE B T2.cls (T2.ok P w base) Md T2.bi rfl T2.Nm (aN eQ rfl ml Ă (ac (oW (pv 0) rfl) ao)))) f6)
  (aX (aw (gm (oW (pv 0) rfl) M1 hr dE (ac (pv 1) (ac (pv 2) ao))))),?_⟩
 obtain⟨x,dx,i,tw,m,rr,rfl,hx,me,Uj,hm,Um⟩:=wm;refine cG av ru (λ R r=>⟨_,rfl,r⟩) ⟨_,t,rfl,ru,l1,l2,λ l bs H1 x1 nl hl Vs nb lb hb=>?_⟩;refine⟨l,_,rfl,.inl (ç.of hl),?_⟩;have ML:=x1 _ _ hx;have Ul:=x1 _ _ Uj;refine⟨_,rfl,x,_,dx,_,_,rfl,ML,Y.cls,Y.no _ av,rfl,tw,_,rfl,.inr (đ.of Ul),?_⟩;refine⟨_,_,rfl,rfl,_,rfl,?_⟩;have le:((bs.map V.ref).length:Int)=(t.parts.length:Nat):=by rw [Â,lb]
 have lw:((ws.map V.int).length:Int)=(ws.length:Nat):=by rw [Â]
 refine jP (λ c=>?_) (λ c=>?_)
 ·have c':=Ĉ c;rw [le,lw] at c';refine⟨_,rfl,x,_,dx,_,_,rfl,ML,Y.cls,Y.no _ av,rfl,tw,_,rfl,.inr (đ.of Ul),λ L hL=>?_⟩;refine λ e' de h1 h2 nd=>eJ nd (q1 ai L _ (x1.trans (.new hL)) ?_ aM e' de h1 h2 nd);cases e:H L with
  | none=>rfl
  | some o=>rw [x1 _ _ e] at hL;cases hL
 ·have c':¬ (((bs.map V.ref).length:Int)>((ws.map V.int).length:Int)):=λ z=>c (Ë z);rw [le,lw] at c';obtain⟨qa,qb⟩:=q2 ai;show cr (vw MC) "need_fit" (kF C MC CU CN) _ (vd K (ag 0) "inner") (am (ag 1) (am (ag 2) aK)) [some (.ref x),some r,some (.ref a)] H1 _;exact jx av hk (me.ext x1) (λ R r=>⟨_,rfl,x,_,dx,_,_,rfl,ML,Y.cls,Y.no _ av,rfl,r⟩) ⟨_,rfl,_,rfl,k,i,r,t,a,xs,os,hk,rfl,rfl,ru.ext x1,l1,l2,x1 _ _ ha,oc.Nu x1,λ al H2 x2=>qa al H2 (x1.trans x2),λ i fi H2 x2=>qb i fi H2 (x1.trans x2)⟩
abbrev xQ:Stmt:=aG (cw 65) 2
abbrev Hy:List Str:=["self","rule","outcomes","scores","block","weight","among"]
theorem Sk:ae Hy ["self","rule","outcomes"] (aa xQ):=aR
abbrev Gc:Scope:=dJ [("at",.local),("outcomes",.free)]
abbrev Hl:Scope:=dJ [("score",.local),("weight",.free)]
theorem EW:((["at"]:List Str)++(["outcomes"]:List Str)).Nodup:=av
theorem G0:((["score"]:List Str)++(["weight"]:List Str)).Nodup:=av
def Ff (K:Frag):TE:=dW (bL K (ag 4)) 1 [2] (ba 0) (aQ (dy K) (ag 1) (ag 0))
def DX (K:Frag):TE:=dW (bL K (ag 6)) 1 [5] (ba 0) (aQ (rI Ζ λ i j=>.int (i*j)) (ag 1) (ag 0))
def JQ (K:Frag)(MC:Nat->Addr):TS:=cR (cr (vw MC) "among" (jb MC) E0 (vd K (ag 0) "inner") (am (Ff K) aK)) (ba 6)
def Js (K:Frag):TS:=f7 (rY K "list" jv (ag 3) (am (DX K) aK))
def FW (K:Frag)(C MC:Nat->Addr):TS:=aO (cR (cg aK) (ba 3)) (aO (gj (KQ K (am (cr (qN C) "blocks" (λ _=>qy C) E0 (ag 1) aK) (am (vd K (ag 0) "weights") aK))) (i3 K 2 (bT (ba 4) (bT (ba 5) ix))) (aO (JQ K MC) (Js K))) (cH (ag 3)))
section
variable {cdv:Value}{A:Around}{outer:List Env}{s:Shared}{H:Hp}{E:XK}
theorem wV:bu (aW aB P w K mg base Hy "Weighted.scored" (aa xQ) f cdv A outer s H E).ŋ Gc [("outcomes",s.heap.objs.size+1)] ["at"] ["outcomes"] [2] :=
 fK (M:=["outcomes"]) (L:=[(".0",.local),("at",.local),("outcomes",.cell)]) rfl rfl av av av rfl rfl rfl av av rfl rfl rfl
theorem wF:bu (aW aB P w K mg base Hy "Weighted.scored" (aa xQ) f cdv A outer s H E).ŋ Hl [("weight",s.heap.objs.size+2)] ["score"] ["weight"] [5] :=
 fK (M:=["weight"]) (L:=[(".0",.local),("score",.local),("weight",.cell)]) rfl rfl av av av rfl rfl rfl av av rfl rfl rfl
theorem Be (Mr:Ms P w K mg base C)(M:bJ P w K mg base aB 7 "among" ["self","outcomes"] (vw MC) (jb MC))(mz:mg "zip" = none)(hr:pj 7 "Weighted.scored" xQ A s f cdv):Bx (Ž (aW aB P w K mg base Hy "Weighted.scored" (aa xQ) f cdv A outer s H E).ŋ (aH xQ) (FW K C MC)):=by
 have nd:=Sk.nd;have ĭ:ă 1 _:=hr.mono au;exact⟨bU (gG nd rfl (.inl rfl) (bM ao))
  (bU (bY .never rfl (Hh rfl mz (ac (bt (pv 1) Mr.blocks ĭ ak) (ac (oW (pv 0) rfl) ao))) (bF rfl (eF (cq nd rfl (.inl rfl)) (eF (cq nd rfl (.inr rfl)) aZ)))
   (bU (gG nd rfl (.inl rfl) (gm (oW (pv 0) rfl) M hr ak (ac (cu rfl wV (aS (pv 4)) (λ s H C fp=>cq EW rfl (.inl rfl)) (λ s H C fp=>cS fS (pv 1) (pv 0))) ao)))
   (aX (aw (eG Ü ο ξ i6 (pv 3) (ac (cu rfl wF (aS (pv 6)) (λ s H C fp=>cq G0 rfl (.inl rfl)) (λ s H C fp=>aE dY (pv 1) (pv 0))) ao))))))
  (aX (dk (pv 3))))⟩
end
end
theorem Μ.nil:Μ H [] []:=⟨rfl,λ i x o h=>by simp at h⟩
theorem Μ.snoc {os:List (Int × Bool)}(h:Μ H xs os)(hx:GL H x o):Μ H (xs ++ [x]) (os ++ [o]):=by
 refine⟨by rw [Í,Í,h.1];rfl,λ i y p h1 h2=>?_⟩
 by_cases l:i<xs.length
 ·rw [é l] at h1;rw [é (by rw [<- h.1];exact l)] at h2
  exact h.2 i y p h1 h2
 ·have l1:=(Å.mp h1).1;rw [Í] at l1;have e:i=xs.length:=by simp at l1;omega
  subst e;rw [Ý (Ê _),g_] at h1;rw [h.1,Ý (Ê _),g_] at h2;cases h1;cases h2;exact hx
section
variable {P:Program}{w:World}{K:Frag}{mg:bC}{base:Heap}{C MC:Nat->Addr}{MS CU CN CW CF CO D f g a1 a2 fW:Addr}{fd gd d1 d2 eW:FuncData}{H:Hp}{Q:VK}{σ:St}{a b:Addr}{xs:List V}{os:List (Int × Bool)}
theorem FH {p:List Int}(s2:σ[2]?=some (some (.ref a)))(s4:σ[4]?=some (some (.ref b)))(ha:H a=some (.lst xs))(oc:Μ H xs os)(hb:H b=some (.lst (p.map V.int)))(ME:p.length<=20)(hp:∀ i∈p,0<=i/\i<(os.length:Nat))
  (q:∀ l ys H',Ext H H'->H l=none->H' l=some (.lst ys)->Μ H' ys (aU os p)->Q (.ref l) H'):Ff K σ H Q:=by
 have sz:=Ö;refine⟨_,s4,b,rfl,⟨_,ç.of hb⟩,λ D2 Ŧ=>?_⟩;have ec:cV [2] σ=[some (.ref a)]:=by unfold cV;rw [ï,s2];rfl
 rw [ec];refine bD (λ i ys H'=>Ext H H'/\Μ H ys (aU os (p.take i))) (by rw [Â];omega) ⟨.new Ŧ,Μ.nil⟩ (λ i ys H' pv=>ç.of (pv.1 _ _ hb)) ?_ ?_
 ·rintro i x ys H' ex ly Ġ ⟨x',oy⟩ ι ŀ R k;obtain⟨q0,rfl⟩:∃ o0,ι=[o0]:=by
   match ι,ŀ with
   | [o0],_=>exact⟨o0,rfl⟩
  rw [Ç] at ex;obtain⟨n,en,rfl⟩:=Ð.mp ex;obtain⟨h0,h1⟩:=hp n (å en);obtain⟨j,rfl⟩:=Qw h0;have lj:j<os.length:=ai;have lx:j<xs.length:=by rw [oc.1];exact lj
  refine⟨⟨[_],rfl,rfl⟩,_,rfl,_,rfl,a,xs,_,_,rfl,rfl,ç.of (x' _ _ ha),dh (Á lx),k _ H' Ġ ⟨aI _ x' Ŧ,?_⟩⟩;have e2:aU os (p.take (i+1))=aU os (p.take i) ++ [os[j]]:=by
   unfold aU;rw [aC en,Ì]
   congr 1
   show [os.getD j (0,false)]=_;rw [ø,Á lj];rfl
  rw [e2];exact oy.snoc (oc.2 j _ _ (Á lx) (Á lj))
 ·rintro ys H' ly Ġ ⟨x',oy⟩;rw [Â,Ú] at oy;exact q D2 ys H' x' Ŧ Ġ (oy.Nu x')
theorem Fu {ns:List Int}{n:Int}(s5:σ[5]?=some (some (.int n)))(s6:σ[6]?=some (some (.ref b)))(hb:H b=some (.lst (ns.map V.int)))(ME:ns.length<=20)(hn:0<=n/\n<=20)(q:kP H (ns.map (n * ·)) Q):DX K σ H Q:=by
 have sz:=Ö;refine⟨_,s6,b,rfl,⟨_,ç.of hb⟩,λ D2 Ŧ=>?_⟩;have ec:cV [5] σ=[some (.int n)]:=by unfold cV;rw [ï,s5];rfl
 rw [ec];refine bD (λ i ys H'=>Ext H H'/\ys=((ns.take i).map (n * ·)).map .int) (by rw [Â];omega) ⟨.new Ŧ,rfl⟩ (λ i ys H' pv=>ç.of (pv.1 _ _ hb)) ?_ ?_
 ·rintro i x ys H' ex ly Ġ ⟨x',rfl⟩ ι ŀ R k;obtain⟨q0,rfl⟩:∃ o0,ι=[o0]:=by
   match ι,ŀ with
   | [o0],_=>exact⟨o0,rfl⟩
  rw [Ç] at ex;obtain⟨m,em,rfl⟩:=Ð.mp ex;refine⟨⟨[_],rfl,rfl⟩,_,rfl,_,rfl,n,m,rfl,rfl,.inl (by constructor <;> omega),k _ H' Ġ ⟨aI _ x' Ŧ,?_⟩⟩
  rw [aC em,Ì,Ì];rfl
 ·rintro ys H' ly Ġ ⟨x',rfl⟩;rw [Â,Ú] at Ġ;exact q D2 H' x' Ŧ Ġ
theorem gs {k:Nat}(hk:k<4)(os:List (Int × Bool)):(ig k os).length=os.length:=by
 match k,hk with
 | 0,_=>exact Â ..
 | 1,_=>exact Â ..
 | 2,_=>exact Â ..
 | 3,_=>exact List.length_mapIdx
theorem lX {k:Nat}(hk:k<4)(os:List (Int × Bool)):∀(ps:List (List Int))(ws:List Int),(iZ k ws ps os).length<=ps.flatten.length
 | [],ws=>by simp [iZ]
 | p::ps,[]=>by simp [iZ]
 | p::ps,n::ws=>by
  have ih:=lX hk os ps ws;have e:iZ k (n::ws) (p::ps) os=(ig k (aU os p)).map (n * ·)++iZ k ws ps os:=rfl;have l:(aU os p).length=p.length:=Â ..;rw [e,Í,Â,gs hk,l,ū,Í];omega
theorem cC {p:List Int}:(aU os p).length=p.length:=Â ..
theorem xE {p:List Int}(hp:∀ i∈p,0<=i/\i<(os.length:Nat))(bd:∀ o∈os,-99<=o.1/\o.1<=99):∀ o∈aU os p,-99<=o.1/\o.1<=99:=by
 intro o ho;obtain⟨i,hi,rfl⟩:=ð.mp ho;obtain⟨h0,h1⟩:=hp i hi;have l:i.toNat<os.length:=ai;rw [ø,Á l];exact bd _ (č l)
structure Km (H:Hp)(k:Nat)(ws:List Int)(t:Rl)(a:Addr)(os:List (Int × Bool)):Prop where
 ex:∃ xs,H a=some (.lst xs)/\Μ H xs os
 bd:∀ o∈os,-99<=o.1/\o.1<=99
 ln:os.length<=20
 l1:t.parts.length<=20
 l2:∀ p∈t.parts,p.length<=20
 fl:t.parts.flatten.length<=20
 pl:∀ p∈t.parts,∀ i∈p,0<=i/\i<(os.length:Nat)
 ev:k=3->∀ p∈t.parts,p.length%2=0
 wk:zy ws
def qw (C MC:Nat->Addr):Sp:=λ vs H Q _=>∃ k ws v r t a os,k<4/\vs=[v,r,.ref a]/\Wm MC H k ws v/\Ru C H t r/\Km H k ws t a os/\kP H (iZ k ws t.parts os) Q
theorem Ho (Y:KW K MC MS)(F:Ī K "scored" "Weighted.scored" xQ f fd)(Mr:Ms P w K mg base C)(M:bJ P w K mg base aB 7 "among" ["self","outcomes"] (vw MC) (jb MC))(mz:mg "zip" = none):à P w K mg base aB 8 f fd ["self","rule","outcomes"] (qw C MC):=by
 refine bO F Sk λ cdv A outer s H vs Q E hr h=>?_;obtain⟨k,ws,v,r,t,a,os,hk,rfl,wm,ru,go,q⟩:=h;obtain⟨NX⟩:=Be (w:=w) (K:=K) (mg:=mg) (base:=base) (C:=C) (MC:=MC) (f:=f) (cdv:=cdv) (A:=A) (outer:=outer) (s:=s) (H:=H) (E:=E) Mr M mz hr;refine⟨_,NX,?_⟩;obtain⟨xs,ha,oc⟩:=go.ex;have sz:=Ö;show FW K C MC _ [some v,some r,some (.ref a),none,none,none,none] H;refine aY (te:=cg aK) (i:=3) ⟨cL,λ S hS=>?_⟩;have x1:=Ext.new (o:=.lst []) hS;have g1:ad H S (.lst []) S=some (.lst []):=aM;show aO _ _ _ [some v,some r,some (.ref a),some (.ref S),none,none,none] (ad H S (.lst []));generalize ad H S (.lst [])=H1 at x1 g1 ⊢;refine cG (t:=t) av (ru.ext x1) (λ R r=>⟨_,rfl,r⟩) ⟨_,t,rfl,ru.ext x1,go.l1,go.l2,λ l bs H2 x2 nl hl Vs nb lb hb=>?_⟩;obtain⟨x,dx,i,tw,m,rr,rfl,hx,me,Uj,hm,Um⟩:=wm;have Ţ:=x1.trans x2;refine⟨_,rfl,x,_,dx,_,_,rfl,Ţ _ _ hx,Y.cls,Y.no _ av,rfl,l,tw,rfl,⟨_,ç.of hl⟩,⟨_,đ.of (Ţ _ _ Uj)⟩,?_⟩;have nS:wo H2 S S=none:=by unfold wo;rw [Ø rfl]
 have lS:l≠S:=λ e=>by rw [e,g1] at nl;cases nl
 have bS:∀ b∈bs,b≠S:=λ b Wv e=>by have:=nb b Wv;rw [e,g1] at this;cases this
 have xw:Ext H (wo H2 S):=λ b o e=>aJ (λ z=>by rw [z,hS] at e;cases e) (Ţ _ _ e)
 have hlw:=aJ lS hl;have lp:(ws.map V.int).length=ws.length:=Â ..;have lq:(bs.map V.ref).length=t.parts.length:=by rw [Â,lb]
 refine zV (xs:=bs.map V.ref) (ys:=ws.map V.int) (λ n σ H'=>Ext (wo H2 S) H'/\H' S=some (.lst ((iZ k (ws.take n) (t.parts.take n) os).map V.int))/\∃ o4 o5 o6,σ=[some (.ref x),some r,some (.ref a),some (.ref S),o4,o5,o6]) ⟨ah _ _,x2 _ _ g1,_,_,_,rfl⟩ (λ n σ H' _ pv=>⟨ç.of (pv.1 _ _ hlw),đ.of ((xw.trans pv.1) _ _ Uj)⟩) ?_ ?_
 ·rintro n y z σ H' p ey ez ⟨x',Oe,o4,o5,o6,rfl⟩ hp;rw [Ç] at ey ez;obtain⟨b,eb,rfl⟩:=Ð.mp ey;obtain⟨c,ec,rfl⟩:=Ð.mp ez;have lt:n<t.parts.length:=by rw [<- lb];exact(Å.mp eb).1
  have et:=Á lt;have Mf:=hb n b _ eb et;have bm:=å eb;have pm:t.parts[n]∈t.parts:=č lt;generalize t.parts[n]=pp at et Mf pm;have x3:=Ext.new (o:=.tup [.ref b,.int c]) hp;have g3:ad H' p (.tup [.ref b,.int c]) p=some (.tup [.ref b,.int c]):=aM;have Vt:S≠p:=λ e=>by rw [e,hp] at Oe;cases Oe
  have X7:=x3 _ _ Oe;refine⟨p,_,rfl,đ.of g3,rfl,_,_,rfl,_,_,rfl,rfl,?_⟩;generalize ad H' p (.tup [.ref b,.int c])=H3 at x3 g3 X7 ⊢;have UO:=x'.trans x3;have O4:=xw.trans UO;refine jx av hk (me.ext O4) (λ R r=>⟨_,rfl,x,_,dx,_,_,rfl,O4 _ _ hx,Y.cls,Y.no _ av,rfl,r⟩) ?_;refine FH rfl rfl (O4 _ _ ha) (oc.Nu O4) (UO _ _ (aJ (bS b bm) Mf)) (go.l2 _ pm) (go.pl _ pm) λ la ys H4 x4 nla hla ocl=>?_;refine⟨k,i,la,aU os pp,hk,rfl,rfl,⟨⟨ys,hla,ocl⟩,xE (go.pl _ pm) go.bd,by rw [cC];exact go.l2 _ pm,λ e=>by rw [cC];exact go.ev e _ pm⟩,λ lm H5 x5 nlm hlm=>?_⟩
  have xw5:=(UO.trans x4).trans x5;have X6:=(x4.trans x5) _ _ X7;have wc:=go.wk.2.2 c (å ec);have ls:(ig k (aU os pp)).length=pp.length:=by rw [gs hk,cC]
  refine⟨_,rfl,.inl ⟨rfl,_,ç.of X6⟩,Fu rfl rfl hlm (by rw [ls];exact go.l2 _ pm) wc λ lf H6 x6 nlf hlf=>?_⟩
  have e1:iZ k (ws.take (n+1)) (t.parts.take (n+1)) os=iZ k (ws.take n) (t.parts.take n) os++(ig k (aU os pp)).map (c * ·):=by
   unfold iZ;rw [aC ec,aC et,List.zipWith_append (by rw [Ā,Ā];have:=(Å.mp ec).1;omega),Đ]
   simp
  have le1:=lX hk os (t.parts.take (n+1)) (ws.take (n+1));have le2:(t.parts.take (n+1)).flatten.length<=t.parts.flatten.length:=by
   conv=>rhs;rw [<- Ŋ (n+1) t.parts]
   rw [Đ,Í];omega
  have le3:=go.fl;rw [e1,Í] at le1;refine⟨S,lf,_,_,rfl,rfl,x6 _ _ X6,hlf,by rw [Â,Â];omega,aI _ (xw5.trans x6) nS,?_,_,_,_,rfl⟩
  rw [aM,e1,Ì]
 ·rintro σ H' ⟨x',Oe,o4,o5,o6,rfl⟩;rw [lp,lq] at Oe;have e2:iZ k (ws.take (min t.parts.length ws.length)) (t.parts.take (min t.parts.length ws.length)) os=iZ k ws t.parts os:=by
   unfold iZ
   congr 1
   exact(List.zipWith_eq_zipWith_take_min ..).symm
  rw [e2] at Oe;exact⟨_,rfl,q S H' (xw.trans x') hS Oe⟩
theorem gA (hm:m ∉ (["inner","weights","mark"]:List Str))(h:Wm MC H k ws v)(ht:∀ R:VK,R v H->ta σ H R)(q:t σ H λ vs H2=>sp (MC 4) (v::vs) H2 Q E):cr (λ c=>c=MC 4) m sp E ta t σ H Q:=by
 obtain⟨a,dx,i,tw,m',r,rfl,ha,_⟩:=h;refine ht _ ⟨a,MC 4,dx,_,rfl,rfl,ha,?_,q⟩;simp only [List.mem_cons,List.not_mem_nil,or_false,not_or] at hm;rw [ó,ã.mpr hm.1,ó,ã.mpr hm.2.1,ó,ã.mpr hm.2.2];rfl
def iU (C MC:Nat->Addr)(CU CN CW:Addr):Sp:=λ vs H Q E=>∃ k ws v r t a os,k<4/\vs=[v,r,.ref a]/\Wm MC H k ws v/\Ru C H t r/\t.Ñ =(os.length:Nat)/\(∃ xs,H a=some (.lst xs)/\Μ H xs os)/\((k=3->(oj t).all id=true)->Km H k ws t a os) /\
 (∀ o∈os,-99<=o.1/\o.1<=99)/\t.parts.length<=20/\(∀ p∈t.parts,p.length<=20)/\ws.length<=6 /\
 (ws.length<t.parts.length->∀ l H',Ext H H'->H l=none->H' l=some (.lst (ws.map V.int))->cQ CW "found" (.ref l) H' E) /\
 (t.parts.length<=ws.length->((jy k t os).all id=true->kP H (iZ k ws t.parts os) Q)/\∀ i,bQ (jy k t os) i->∀ H',Ext H H'->cQ (mJ CU CN k) (nq k) (.int (i:Nat)) H' E)
theorem wT (F:Ī K "scores" "Measure.scores" Dw f fd)(Mr:Ms P w K mg base C)(A1:Df P w K mg base (cY P w) 6 "need_outcomes_of" ["thing","folk"] (yp K CF CO) a1 d1)(M1:bJ P w K mg base (cY P w) 6 "need_fit" ["self","rule","outcomes"] (λ c=>c=MC 4) (λ _=>md C MC CU CN CW))(M2:bJ P w K mg base aB 8 "scored" ["self","rule","outcomes"] (λ c=>c=MC 4) (λ _=>qw C MC)) :
  à P w K mg base (cY P w) 9 f fd ["self","rule","outcomes"] (iU C MC CU CN CW):=by
 refine gP F ED λ cdv A outer s H vs Q E hr h=>?_;obtain⟨k,ws,v,r,t,a,os,hk,rfl,wm,ru,fk,⟨xs,ha,oc⟩,go,bd,l1,l2,l6,q1,q2⟩:=h;have ĭ:ă 1 _:=hr.mono au;have RY:ă 6 _:=hr.mono au;refine⟨_,bU (aw (cZ A1 RY dE (ac (pv 2) (ac (bt (pv 1) Mr.Ñ ĭ ak) ao))))
  (bU (aw (gm (pv 0) M1 RY dE (ac (pv 1) (ac (pv 2) ao))))
  (aX (dk (gm (pv 0) M2 hr ak (ac (pv 1) (ac (pv 2) ao)))))),?_⟩
 have lx:=oc.1;have ot:ul K H xs (os.map λ _=>true):=by
  refine⟨by rw [Â];exact lx,λ i x hx=>?_⟩
  have li:i<os.length:=by rw [<- lx];exact(Å.mp hx).1
  obtain⟨b,rfl,hb⟩:=oc.2 i x _ hx (Á li);have z:=bd os[i] (č li);refine⟨true,by rw [Ç,Á li];rfl,.inl ⟨.tuple [.int os[i].1,.bool os[i].2],.tup hb (.cons (.int _) (.cons (.bl _) .nil)),?_⟩⟩
  show true=((decide ((-99:Int)<=os[i].1)&&decide (os[i].1<=99))&&true);rw [Ë z.1,Ë z.2];rfl
 refine⟨_,rfl,cG av ru (λ R r=>⟨_,rfl,r⟩) ⟨r,t,rfl,ru,?_⟩⟩;refine⟨.ref a,t.Ñ,rfl,.inr ⟨a,xs,_,rfl,ha,ot,λ _ H1 x1=>?_,λ i fi=>?_⟩⟩
 ·rw [Ø (by rw [fk,lx])]
  show cr (λ c=>c=MC 4) "need_fit" (λ _=>md C MC CU CN CW) _ (ag 0) (am (ag 1) (am (ag 2) aK)) [some v,some r,some (.ref a)] H1 _;refine gA av (wm.ext x1) (λ R r=>⟨_,rfl,r⟩) ⟨_,rfl,_,rfl,k,ws,v,r,t,a,xs,os,hk,rfl,wm.ext x1,l6,ru.ext x1,l1,l2,x1 _ _ ha,oc.Nu x1,λ lt l H2 x2 nl hl=>q1 lt l H2 (x1.trans x2) ?_ hl,λ le=>⟨λ al H2 x2=>?_,λ i fi H2 x2=>(q2 le).2 i fi H2 (x1.trans x2)⟩⟩
  ·cases e:H l with
   | none=>rfl
   | some o=>rw [x1 _ _ e] at nl;cases nl
  ·have Ţ:=x1.trans x2;have g0:=go (λ e=>by subst e;exact al)
   show cr (λ c=>c=MC 4) "scored" (λ _=>qw C MC) _ (ag 0) (am (ag 1) (am (ag 2) aK)) [some v,some r,some (.ref a)] H2 _;refine gA av (wm.ext Ţ) (λ R r=>⟨_,rfl,r⟩) ⟨_,rfl,_,rfl,k,ws,v,r,t,a,os,hk,rfl,wm.ext Ţ,ru.ext Ţ,⟨⟨xs,Ţ _ _ ha,oc.Nu Ţ⟩,g0.bd,g0.ln,g0.l1,g0.l2,g0.fl,g0.pl,g0.ev,g0.wk⟩,λ l H3 x3 nl hl=>?_⟩;refine(q2 le).1 al l H3 (Ţ.trans x3) ?_ hl;cases e:H l with
   | none=>rfl
   | some o=>rw [Ţ _ _ e] at nl;cases nl
 ·exfalso;have z:=fi.2;rw [Ç] at z;obtain⟨_,_,z⟩:=Ð.mp z;cases z
end
section
variable {P:Program}{w:World}{K:Frag}{mg:bC}{base:Heap}{De:bX}{u:TS}{H Hb:Hp}{a D pl d:Addr}{xs zs:List V}{os:List (Int × Bool)}{o0 o1 o2 o3 o4 o5 o6 o7 o8:Option V}{ì:List (Key × V)}{p:List Int}
structure sL (os:List (Int × Bool))(p:List Int):Prop where
 bd:∀ i∈p,0<=i/\i<(os.length:Nat)
 nd:p.Nodup
 ln:p.length<=20
theorem jO (oc:Μ H xs os)(hp:sL os p){i:Nat}(e:p[i]?=some x):∃(j:Nat)(b:Addr)(o:Int × Bool),x=(j:Int)/\xs[j]?=some (.ref b)/\H b=some (.tup [.int o.1,.bl o.2])/\(aU os p)[i]?=some o:=by
 obtain⟨h0,h1⟩:=hp.bd x (å e);obtain⟨j,rfl⟩:=Qw h0;have lj:j<os.length:=ai;have lx:j<xs.length:=by rw [oc.1];exact lj
 obtain⟨b,eb,hb⟩:=oc.2 j xs[j] os[j] (Á lx) (Á lj);refine⟨j,b,os[j],rfl,by rw [Á lx,eb],hb,?_⟩
 unfold aU;rw [Ç,e];show some (os.getD j (0,false))=_;rw [ø,Á lj];rfl
def kI (p:List Int)(vs:List Int)(n:Nat):List (Key × V):=((p.take n).zip (vs.take n)).map λ x=>(Key.inl x.1,V.int x.2)
theorem jm:(kI p vs n).length<=n:=by
 unfold kI;rw [Â,Op,Ā];omega
theorem jr (nd:p.Nodup)(e:p[n]?=some x)(e2:vs[n]?=some v):dm (kI p vs n) (.inl x) (.int v)=kI p vs (n+1):=by
 have l1:=(Å.mp e).1;have l2:=(Å.mp e2).1;rw [uS]
 ·unfold kI;rw [aC e,aC e2,List.zip_append (by rw [Ā,Ā];omega),Ì]
  rfl
 ·have an:=fB (.inl x) (kI p vs n);cases hv:dZ (kI p vs n) (.inl x) with
  | none=>rfl
  | some y =>
   exfalso;rw [hv] at an;obtain⟨kv,hm,hk⟩:=List.any_eq_true.mp an;obtain⟨z,hz,rfl⟩:=ð.mp hm;have e3:=Key.inl.inj (Ĉ hk);have m1:=(Ŝ (show(z.1,z.2)∈_ from hz)).1;rw [e3] at m1;obtain⟨i,hi,ei⟩:=ü m1;rw [Ā] at hi;rw [List.getElem_take] at ei;have e4:=(Å.mp e).2;have:=(List.getElem_inj nd).mp (ei.trans e4.symm);omega
theorem C5 (s2:σ[2]?=some (some (.ref a)))(s3:σ[3]?=some (some (.ref pl)))(ha:H a=some (.lst xs))(oc:Μ H xs os)(hP:sL os p)(hp:H pl=some (.lst (p.map V.int)))(q:kP H ((aU os p).map (·.1)) Q):dW (bL K (ag 3)) 1 [2] (ba 0) (EU K) σ H Q:=by
 have sz:=Ö;have ME:=hP.ln;refine⟨_,s3,pl,rfl,⟨_,ç.of hp⟩,λ D2 Ŧ=>?_⟩;have ec:cV [2] σ=[some (.ref a)]:=by unfold cV;rw [ï,s2];rfl
 rw [ec];refine bD (λ i ys H'=>Ext H H'/\ys=(((aU os p).take i).map (·.1)).map .int) (by rw [Â];omega) ⟨.new Ŧ,rfl⟩ (λ i ys H' pv=>ç.of (pv.1 _ _ hp)) ?_ ?_
 ·rintro i x ys H' ex ly Ġ ⟨x',ey⟩ ι ŀ R k;obtain⟨q0,rfl⟩:∃ o0,ι=[o0]:=by
   match ι,ŀ with
   | [o0],_=>exact⟨o0,rfl⟩
  rw [Ç] at ex;obtain⟨n,en,rfl⟩:=Ð.mp ex;obtain⟨j,b,o,rfl,WF,hb,eo⟩:=jO oc hP en;refine⟨⟨[_],rfl,rfl⟩,_,rfl,_,rfl,a,xs,_,_,rfl,rfl,ç.of (x' _ _ ha),dh WF,b,_,_,_,rfl,rfl,đ.of (x' _ _ hb),dh rfl,?_⟩;refine k _ H' Ġ ⟨aI _ x' Ŧ,?_⟩;rw [aC eo,Ì,Ì,<- ey];rfl
 ·rintro ys H' ly Ġ ⟨x',ey⟩;rw [Â,<- cC,Ú] at ey;rw [ey] at Ġ;exact q D2 H' x' Ŧ Ġ
theorem qH (s6:σ[6]?=some (some (.ref d)))(s8:σ[8]?=some (some (.int i)))(hd:H1 d=some (.dK ì))(l:ì.length<sizeLine)(q:De.nx σ (ad H1 d (.dK (dm ì (.inl i) v)))) :
  (λ v H1=>ag 6 σ H1 λ x H2=>ag 8 σ H2 λ y H3=>∃ a H4,x=.ref a/\wg H3 a y v H4/\De.nx σ H4) v H1:=⟨_,s6,_,s8,d,_,rfl,.inl ⟨ì,.inl i,hd,rfl,l,rfl⟩,q⟩
theorem nO (h:tv σ H λ v H1=>td σ H1 λ x H2=>ty σ H2 λ y H3=>∃ a H4,x=.ref a/\wg H3 a y v H4/\De.nx σ H4):kD td ty tv De σ H:=h
theorem rH (h:te σ H λ x H1=>sp [x] H1 Q E):iE sp [] E (am te aK) σ H Q:=h
theorem B6 {i:Nat}(ha:H a=some (.lst xs))(oc:Μ H xs os)(hP:sL os p)(e:p[i]?=some x)(eo:(aU os p)[i]?=some o)(hd:H d=some (.dK ì))(l:ì.length<sizeLine)
  (q:De.nx [o0,o1,some (.ref a),o3,o4,o5,some (.ref d),o7,some (.int x)] (ad H d (.dK (dm ì (.inl x) (.int o.1))))):KO K De [o0,o1,some (.ref a),o3,o4,o5,some (.ref d),o7,some (.int x)] H:=by
 obtain⟨j,b,o',rfl,ex,hb,Tl⟩:=jO oc hP e;rw [eo] at Tl;cases Tl;exact⟨_,rfl,_,rfl,a,xs,_,_,rfl,rfl,ç.of ha,dh ex,b,_,_,_,rfl,rfl,đ.of hb,dh rfl,qH rfl rfl hd l q⟩
theorem yN (ha:H a=some (.lst xs))(oc:Μ H xs os)(hP:sL os p)(hp:H pl=some (.lst (p.map V.int)))(e:p[i]?=some x)(eo:(aU os p)[i]?=some o)(hd:H d=some (.dK ì))(l:ì.length<sizeLine)
  (q:∀ H',Ext H H'->De.nx [o0,o1,some (.ref a),some (.ref pl),o4,o5,some (.ref d),some (.int (i:Nat)),some (.int x)] (ad H' d (.dK (dm ì (.inl x) (.int (rk ((aU os p).map (·.1)) o.1)))))):KA K De [o0,o1,some (.ref a),some (.ref pl),o4,o5,some (.ref d),some (.int (i:Nat)),some (.int x)] H:=by
 refine nO ?_;refine j9 ?_;refine rH ?_;refine C5 rfl rfl ha oc hP hp ?_;refine λ l0 H1 x1 n1 g1=>⟨l0,(aU os p).map (·.1),rfl,g1,by rw [Â,cC];exact hP.ln,λ l2 H2 x2 n2 g2=>?_⟩
 have Ww:rJ ((((aU os p).map (·.1)).map (rk ((aU os p).map (·.1)))).map V.int) ((i:Nat):Int)=some (.int (rk ((aU os p).map (·.1)) o.1)):=dh (by
  rw [Ç,Ç,Ç,eo];rfl)
 generalize (((aU os p).map (·.1)).map (rk ((aU os p).map (·.1)))).map V.int=rs at g2 Ww;generalize rk ((aU os p).map (·.1)) o.1=rv at q Ww;have hd2:=(x1.trans x2) _ _ hd;have q2:=q H2 (x1.trans x2);exact⟨_,rfl,l2,rs,(i:Nat),.int rv,rfl,rfl,ç.of g2,Ww,_,rfl,_,rfl,d,_,rfl,.inl ⟨ì,.inl x,hd2,rfl,l,rfl⟩,q2⟩
theorem AO {i:Nat}(ha:H a=some (.lst xs))(oc:Μ H xs os)(hP:sL os p)(hp:H pl=some (.lst (p.map V.int)))(e:p[i]?=some x)(eo:(aU os p)[i]?=some o)(hd:H d=some (.dK ì))(l:ì.length<sizeLine)
  (q:∀ H',Ext H H'->De.nx [o0,o1,some (.ref a),some (.ref pl),o4,o5,some (.ref d),o7,some (.int x)] (ad H' d (.dK (dm ì (.inl x) (.int ((aU os p).map λ y=>rG o y).sum))))):K6 K De [o0,o1,some (.ref a),some (.ref pl),o4,o5,some (.ref d),o7,some (.int x)] H:=by
 have sz:=Ö;have ME:=hP.ln;obtain⟨j0,b,o',rfl,WF,hb,Tl⟩:=jO oc hP e;rw [eo] at Tl;cases Tl;refine⟨_,rfl,pl,rfl,⟨_,ç.of hp⟩,λ D2 Ŧ=>?_⟩;refine bD (λ j ys H'=>Ext H H'/\ys=(((aU os p).take j).map λ y=>rG o y).map .int) (by rw [Â];omega) ⟨.new Ŧ,rfl⟩ (λ i ys H' pv=>ç.of (pv.1 _ _ hp)) ?_ ?_
 ·rintro j x ys H' ex ly Ġ ⟨x',ey⟩ ι ŀ R k;obtain⟨q0,rfl⟩:∃ o0,ι=[o0]:=by
   match ι,ŀ with
   | [o0],_=>exact⟨o0,rfl⟩
  rw [Ç] at ex;obtain⟨n,en,rfl⟩:=Ð.mp ex;obtain⟨j2,b2,o2,rfl,WE,Mf,WG⟩:=jO oc hP en;refine⟨⟨[_],rfl,rfl⟩,_,rfl,_,rfl,a,xs,_,_,rfl,rfl,ç.of (x' _ _ ha),dh WF,_,rfl,_,rfl,a,xs,_,_,rfl,rfl,ç.of (x' _ _ ha),dh WE,_,_,o,o2,rfl,⟨b,rfl,x' _ _ hb⟩,⟨b2,rfl,x' _ _ Mf⟩,?_⟩;refine k _ H' Ġ ⟨aI _ x' Ŧ,?_⟩;rw [aC WG,Ì,Ì,<- ey];rfl
 ·rintro ys H' ly Ġ ⟨x',ey⟩;rw [Â,<- cC,Ú] at ey;rw [ey] at Ġ;exact⟨D2,_,rfl,ç.of Ġ,qH rfl rfl (x' _ _ hd) l (q H' x')⟩
end
section
variable {P:Program}{w:World}{K:Frag}{mg:bC}{base:Heap}{De:bX}{u:TS}{H Hb:Hp}{a D pl d:Addr}{xs zs:List V}{os:List (Int × Bool)}{B:List Bk}{o0 o1 o2 o3 o4 o5 o6 o7 o8:Option V}{ì:List (Key × V)}
theorem zC (hD:H D=some (.lst zs))(ra:Ù H zs (B.map gV))(ME:B.length<=20)(lf:(B.map (·.2)).flatten.length<=20)(k:∀ pl o4 o5 H',Ext H H'->H pl=none->H' pl=some (.lst ((B.map (·.2)).flatten.map V.int))->u De [o0,some (.ref D),o2,some (.ref pl),o4,o5,o6,o7,o8] H') :
  aO (cR (cg aK) (ba 3)) (aO (ze K) u) De [o0,some (.ref D),o2,o3,o4,o5,o6,o7,o8] H:=by
 refine aY ⟨cL,λ pl ź=>?_⟩;have x1:=Ext.new (o:=.lst []) ź;have g1:ad H pl (.lst []) pl=some (.lst []):=aM;generalize ad H pl (.lst [])=H1 at x1 g1 ⊢;have sz:=Ö;have lz:=ra.length;rw [Â] at lz;refine⟨_,rfl,D,rfl,⟨zs,ç.of (x1 _ _ hD)⟩,eV (xs:=zs) (λ i σ H'=>∃ o4 o5,σ=[o0,some (.ref D),o2,some (.ref pl),o4,o5,o6,o7,o8]/\Ext H H'/\H' pl=some (.lst (((B.take i).map (·.2)).flatten.map .int))) ⟨_,_,rfl,x1,g1⟩ ?_ ?_ ?_⟩
 ·rintro i σ H' _ ⟨o4,o5,rfl,x',_⟩;exact ç.of (x' _ _ hD)
 ·rintro i x σ H' ex ⟨o4,o5,rfl,x',hp⟩;obtain⟨dd,ed,rd⟩:=ra.get ex;rw [Ç] at ed;obtain⟨bk,ebk,rfl⟩:=Ð.mp ed;obtain⟨a,l,rfl,ha,hl⟩:=jc rd;refine⟨a,_,rfl,đ.of (x' _ _ ha),rfl,_,_,rfl,_,_,rfl,rfl,?_⟩;have le:((B.take (i+1)).map (·.2)).flatten.length<=20:=by
   refine õ ?_ lf
   conv=>rhs;rw [<- Ŋ (i+1) B]
   rw [Ì,Đ,Í];omega
  rw [aC ebk,Ì,Đ,Í] at le;simp only [List.map_cons,List.map_nil,List.flatten_cons,List.flatten_nil,List.append_nil] at le;refine⟨_,rfl,.inl ⟨rfl,_,ç.of hp⟩,_,rfl,pl,l,_,_,rfl,rfl,hp,x' _ _ hl,by rw [Â,Â];omega,_,_,rfl,aI _ x' ź,?_⟩
  rw [aM,aC ebk,Ì,Đ,Ì];simp
 ·rintro σ H' ⟨o4,o5,rfl,x',hp⟩;rw [lz,Ú] at hp;exact k pl _ _ H' x' ź hp
theorem nE (s0:σ[0]?=some (some (.str (aA k))))(q:Q (decide (V.str (aA k)=V.str z)) H):rK z σ H Q:=⟨_,s0,rfl,_,rfl,q⟩
theorem jT:∀ k j:Nat,k<4->j<4->decide (V.str (aA k)=V.str (aA j))=decide (k=j)
 | 0,0,_,_=>Ë rfl
 | 1,1,_,_=>Ë rfl
 | 2,2,_,_=>Ë rfl
 | 3,3,_,_=>Ë rfl
 | 0,1,_,_=>È λ z=>absurd (V.str.inj z) (by decide +kernel:(("sum" : String):Str)≠(("ranks" : String):Str))
 | 0,2,_,_=>È λ z=>absurd (V.str.inj z) (by decide +kernel:(("sum" : String):Str)≠(("wins" : String):Str))
 | 0,3,_,_=>È λ z=>absurd (V.str.inj z) (by decide +kernel:(("sum" : String):Str)≠(("signs" : String):Str))
 | 1,0,_,_=>È λ z=>absurd (V.str.inj z) (by decide +kernel:(("ranks" : String):Str)≠(("sum" : String):Str))
 | 1,2,_,_=>È λ z=>absurd (V.str.inj z) (by decide +kernel:(("ranks" : String):Str)≠(("wins" : String):Str))
 | 1,3,_,_=>È λ z=>absurd (V.str.inj z) (by decide +kernel:(("ranks" : String):Str)≠(("signs" : String):Str))
 | 2,0,_,_=>È λ z=>absurd (V.str.inj z) (by decide +kernel:(("wins" : String):Str)≠(("sum" : String):Str))
 | 2,1,_,_=>È λ z=>absurd (V.str.inj z) (by decide +kernel:(("wins" : String):Str)≠(("ranks" : String):Str))
 | 2,3,_,_=>È λ z=>absurd (V.str.inj z) (by decide +kernel:(("wins" : String):Str)≠(("signs" : String):Str))
 | 3,0,_,_=>È λ z=>absurd (V.str.inj z) (by decide +kernel:(("signs" : String):Str)≠(("sum" : String):Str))
 | 3,1,_,_=>È λ z=>absurd (V.str.inj z) (by decide +kernel:(("signs" : String):Str)≠(("ranks" : String):Str))
 | 3,2,_,_=>È λ z=>absurd (V.str.inj z) (by decide +kernel:(("signs" : String):Str)≠(("wins" : String):Str))
theorem uV (j:Nat):((j:Int)+1-2*((j:Int)%2))=(ji j:Nat):=by
 unfold ji;by_cases e:j%2=0
 ·rw [Ø e];omega
 ·rw [Ï e];omega
end
def lQ (k:Nat)(B:List Bk)(os:List (Int × Bool)):List Bool:=if k=3 then B.map lH else if k=2 then [] else os.map (·.2)
def kh (k:Nat):Str:=if k=3 then "pairs" else "sure"
section
variable {P:Program}{w:World}{K:Frag}{mg:bC}{base:Heap}{f:Addr}{fd:FuncData}
abbrev yf:Stmt:=cw 76
abbrev Ek (i:Nat):Stmt:=(aH yf).getD i (.Pass ⟨0,0,0,0⟩)
abbrev HH:List Str:=["_law_word","_law_blocks","_law_outcomes_here","_law_number","_law_kind","_law_folk_here","_law_place"]
theorem Rh:ae HH ["_law_word","_law_blocks","_law_outcomes_here"] (aa yf):=aR
def IY (K:Frag):TT:=nI (rK "signs") (E6 (tB (aQ Iy (ag 4) (tC (.str "pairs")))) (tB (aQ nA (aQ (rI (λ _ j=>0<j) λ i j=>.int (i%j)) (jS K 5) (tC (.int 2))) (tC (.int 1)))))
def Ds (K:Frag):TS:=gj (lK K (am (ag 1) aK)) (i3 K 2 (bT (ba 3) (bT (i3 K 2 (bT (ba 4) (bT (ba 5) ix))) ix))) (dA (IY K) (cH (dO (am (tC (.str "pairs")) (am (ag 3) aK)))) bV)
def JC (K:Frag):TT:=nI (tB (aQ (Lg K false) (ag 0) (dO (am (tC (.str "sum")) (am (tC (.str "ranks")) aK))))) (tm (tB (aQ (ke K) (aQ (dy K) (ag 2) (ag 6)) (tC (.int 1)))))
def Gk (K:Frag):TS:=dA (JC K) (cH (dO (am (tC (.str "sure")) (am (ag 6) aK)))) bV
def BI (K:Frag):TS:=gj (bL K (ag 1)) (i3 K 2 (bT (ba 4) (bT (ba 5) ix))) (gj (bL K (ag 5)) (ba 6) (Gk K))
def LR (K:Frag):TS:=aO (Ds K) (aO (BI K) (cH (tC .Ċ)))
section
variable {cdv:Value}{A:Around}{outer:List Env}{s:Shared}{H:Hp}{E:XK}
theorem JU (me:mg "enumerate" = none)(mn:mg "len" = none):Bx (PS (aW aB P w K mg base HH "_law_refused_by" (aa yf) f cdv A outer s H E).ŋ (Ek 0) (Ds K)):=by
 have nd:=Rh.nd;exact⟨bY .never rfl (fJ rfl me (ac (pv 1) ao)) (bF rfl (eF (cq nd rfl (.inl rfl)) (eF (bF rfl (eF (cq nd rfl (.inl rfl)) (eF (cq nd rfl (.inl rfl)) aZ))) aZ)))
  (aX (be (PW.pt (gv (ar cj (pv 0) ay (ax _)) (fh (PW.pt (gR (ar lG (pv 4) ay (ax _)) (fv (ar cj (aE c6 (aj az rfl mn ê (ac (pv 5) ao)) aF) aF (ax _)))))))) (aX (dk (aP (ac ay (ac (pv 3) ao))))) f6))⟩
theorem Ka:Bx (PS (aW aB P w K mg base HH "_law_refused_by" (aa yf) f cdv A outer s H E).ŋ (Ek 1) (BI K)):=by
 have nd:=Rh.nd;exact⟨bY .never rfl (aS (pv 1)) (bF rfl (eF (cq nd rfl (.inl rfl)) (eF (cq nd rfl (.inl rfl)) aZ)))
  (aX (bY .never rfl (aS (pv 5)) (cq nd rfl (.inl rfl)) (aX (be (PW.pt (gv (ar sx (pv 0) (aP (ac ay (ac ay ao))) rfl) (fh (cp (bE (cS ia (cS fS (pv 2) (pv 6)) aF)))))) (aX (dk (aP (ac ay (ac (pv 6) ao))))) f6))))⟩
theorem Bz (me:mg "enumerate" = none)(mn:mg "len" = none):Bx (Ž (aW aB P w K mg base HH "_law_refused_by" (aa yf) f cdv A outer s H E).ŋ (aH yf) (LR K)) :=
 dq (JU me mn) (dq Ka (br ⟨dk hI⟩))
end
section
variable {De:bX}{u:TS}{H Hb:Hp}{a D:Addr}{xs zs:List V}{os:List (Int × Bool)}{B:List Bk}{k:Nat}{o3 o4 o5 o6:Option V}
theorem zP:lH b = !((!decide (V.str b.1=V.str "pairs"))||decide (V.int ((b.2.length:Int)%2)=V.int 1)):=by
 unfold lH;cases decide (V.str b.1=.str "pairs") with
 | false=>rfl
 | true =>
  by_cases e:b.2.length%2=0
  ·rw [Ë e,È (λ z=>by have:=V.int.inj z;omega)];rfl
  ·rw [È e,Ë (ġ V.int ai)];rfl
theorem A9 (hk:k<4)(hD:H D=some (.lst zs))(ra:Ù H zs (B.map gV))(q0:∀ o3 o4 o5 H',Ext H H'->(k=3->(B.map lH).all id=true)->u De [some (.str (aA k)),some (.ref D),some (.ref a),o3,o4,o5,o6] H')
  (q1:k=3->∀ i,bQ (B.map lH) i->∀ c H',Ext H H'->H c=none->H' c=some (.tup [.str "pairs",.int (i:Nat)])->De.rt (.ref c) H'):aO (Ds K) u De [some (.str (aA k)),some (.ref D),some (.ref a),o3,o4,o5,o6] H:=by
 have lz:=ra.length;rw [Â] at lz;refine⟨_,rfl,D,rfl,⟨_,ç.of hD⟩,fE (xs:=zs) (λ i σ H'=>∃ o3 o4 o5,σ=[some (.str (aA k)),some (.ref D),some (.ref a),o3,o4,o5,o6]/\Ext H H'/\(k=3->∀(j:Nat) b,j<i->(B.map lH)[j]?=some b->b=true)) ⟨_,_,_,rfl,Ext.refl _,λ _ j b h=>absurd h (ė _)⟩ ?_ ?_ ?_⟩
 ·rintro i σ H' _ ⟨o3,o4,o5,rfl,x',_⟩;exact ç.of (x' _ _ hD)
 ·rintro i x σ H' t ex ⟨o3,o4,o5,rfl,x',good⟩ ht;obtain⟨dd,ed,rd⟩:=ra.get ex;rw [Ç] at ed;obtain⟨bk,ebk,rfl⟩:=Ð.mp ed;obtain⟨b,l,rfl,hb,hl⟩:=jc rd;have xt:=Ext.new (o:=.tup [.int (i:Nat),.ref b]) ht;have gt:ad H' t (.tup [.int (i:Nat),.ref b]) t=some (.tup [.int (i:Nat),.ref b]):=aM;generalize ad H' t (.tup [.int (i:Nat),.ref b])=H2 at xt gt ⊢;have x2:=x'.trans xt;have em:(B.map lH)[i]?=some (lH bk):=by rw [Ç,ebk];rfl
  refine⟨t,_,rfl,đ.of gt,rfl,_,_,rfl,_,_,rfl,⟨b,_,rfl,đ.of (x2 _ _ hb),rfl,_,_,rfl,_,_,rfl,rfl,rfl,?_⟩⟩;refine nE (z:=aA 3) rfl ?_;rw [jT k 3 hk au];by_cases e3:k=3
  ·rw [Ë e3];refine cy ⟨_,rfl,rfl,_,rfl,?_⟩;have nx:lH bk=true->∃ o3' o4' o5',[some (.str (aA k)),some (.ref D),some (.ref a),some (.int (i:Nat)),some (.str bk.1),some (.ref l),o6]=[some (.str (aA k)),some (.ref D),some (.ref a),o3',o4',o5',o6]/\Ext H H2/\(k=3->∀(j:Nat) b,j<i+1->(B.map lH)[j]?=some b->b=true):=λ hb=>⟨_,_,_,rfl,x2,λ z j b hj e=>by
    rcases Č j i with lt | ge
    ·exact good z j b lt e
    ·have:j=i:=ai;subst this;rw [em,hb] at e;cases e;rfl⟩
   have rt:lH bk=false->dO (am (tC (.str "pairs")) (am (ag 3) aK)) [some (.str (aA k)),some (.ref D),some (.ref a),some (.int (i:Nat)),some (.str bk.1),some (.ref l),o6] H2 De.rt:=λ hb=>⟨_,rfl,cL,λ c hc=>by
    have x3:=Ext.new (o:=.tup [.str "pairs",.int (i:Nat)]) hc;refine q1 e3 i ⟨good e3,by rw [em,hb]⟩ c _ (x2.trans x3) ?_ aM
    cases e:H c with
    | none=>rfl
    | some o=>rw [x2 _ _ e] at hc;cases hc⟩
   have ep:=zP (b:=bk);cases g:decide (V.str bk.1=.str "pairs") with
   | false =>
    rw [g] at ep;exact cy (cy (rt ep))
   | true =>
    rw [g] at ep;refine bZ ⟨_,rfl,l,_,rfl,.inl (ç.of (x2 _ _ hl)),_,_,rfl,rfl,(by show(0:Int)<2;decide),rfl,_,rfl,?_⟩
    rw [Â];cases g2:decide (V.int ((bk.2.length:Int)%2)=.int 1) with
    | true=>rw [g2] at ep;exact cy (rt ep)
    | false=>rw [g2] at ep;exact bZ (nx ep)
  ·rw [È e3];exact bZ (bZ ⟨_,_,_,rfl,x2,λ z=>absurd z e3⟩)
 ·rintro σ H' ⟨o3,o4,o5,rfl,x',good⟩;refine q0 _ _ _ H' x' λ z=>?_;rw [ú];intro b hb;obtain⟨j,hj,e⟩:=ü hb;exact good z j b (by rw [lz];rw [Â] at hj;exact hj) (by rw [Á hj,e])
theorem At:∀ k:Nat,k<4->IS (.str (aA k)) [.str "sum",.str "ranks"]=decide (k<2)
 | 0,_=>by decide +kernel
 | 1,_=>by decide +kernel
 | 2,_=>by decide +kernel
 | 3,_=>by decide +kernel
theorem wL (e:B[i]?=some bk)(ej:bk.2[j]?=some n):((B.map (·.2)).flatten)[((B.take i).map (·.2)).flatten.length+j]?=some n:=by
 have li:=(Å.mp e).1;have eb:B[i]=bk:=by rw [Á li] at e;exact Õ e
 have eB:B=B.take i++bk::B.drop (i+1):=by
  rw [<- eb,Q7,Ŋ]
 have e2:(B.map (·.2)).flatten=((B.take i).map (·.2)).flatten++(bk.2++((B.drop (i+1)).map (·.2)).flatten):=by
  conv=>lhs;rw [eB]
  rw [Ì,Đ];rfl
 rw [e2,Ý ai,Qu,é (Å.mp ej).1];exact ej
end
end
section
variable {P:Program}{w:World}{K:Frag}{mg:bC}{base:Heap}{De:bX}{u:TS}{H Hb:Hp}{a D pl d:Addr}{xs zs:List V}{os:List (Int × Bool)}{o0 o1 o2 o3 o4 o5 o6 o7 o8:Option V}{ì:List (Key × V)}{p:List Int}{k:Nat}
theorem qD:kI p vs 0=[]:=rfl
theorem vI (hk:k<4)(xb:Ext Hb H)(nd:Hb d=none)(ha:Hb a=some (.lst xs))(oc:Μ Hb xs os)(hP:sL os p)(hp:Hb pl=some (.lst (p.map V.int)))(hd:H d=some (.dK []))
  (q:∀ o7 o8 H',Ext Hb H'->H' d=some (.dK (if k=3 then [] else kI p (ig k (aU os p)) p.length))->u De [some (.str (aA k)),o1,some (.ref a),some (.ref pl),o4,o5,some (.ref d),o7,o8] H') :
  aO (zU K) u De [some (.str (aA k)),o1,some (.ref a),some (.ref pl),o4,o5,some (.ref d),o7,o8] H:=by
 have sz:=Ö;have ME:=hP.ln;refine⟨_,rfl,pl,rfl,⟨_,ç.of (xb _ _ hp)⟩,fE (xs:=p.map V.int) (λ i σ H'=>∃ o7 o8,σ=[some (.str (aA k)),o1,some (.ref a),some (.ref pl),o4,o5,some (.ref d),o7,o8]/\Ext Hb H'/\H' d=some (.dK (if k=3 then [] else kI p (ig k (aU os p)) i))) ⟨_,_,rfl,xb,by rw [hd,qD];split <;> rfl⟩ ?_ ?_ ?_⟩
 ·rintro i σ H' _ ⟨o7,o8,rfl,x',_⟩;exact ç.of (x' _ _ hp)
 ·rintro i x σ H' t ex ⟨o7,o8,rfl,x',NU⟩ ht;rw [Ç] at ex;obtain⟨n,en,rfl⟩:=Ð.mp ex;have li:=(Å.mp en).1;have lis:i<(aU os p).length:=by rw [cC];exact li
  have eo:=Á lis;generalize (aU os p)[i]=o at eo;have xt:=Ext.new (o:=.tup [.int (i:Nat),.int n]) ht;have gt:ad H' t (.tup [.int (i:Nat),.int n]) t=some (.tup [.int (i:Nat),.int n]):=aM;generalize ad H' t (.tup [.int (i:Nat),.int n])=H2 at xt gt ⊢;refine⟨t,_,rfl,đ.of gt,rfl,_,_,rfl,_,_,rfl,rfl,?_⟩;have x2:=x'.trans xt;have hd2:=xt _ _ NU;refine nE (z:=aA 0) rfl ?_;rw [jT k 0 hk au];by_cases e0:k=0
  ·subst e0;rw [Ï au] at hd2;have gl:=jm (p:=p) (vs:=ig 0 (aU os p)) (n:=i);refine cy (B6 (x2 _ _ ha) (oc.Nu x2) hP en eo hd2 ai ⟨_,_,rfl,aI _ x2 nd,?_⟩);rw [aM,Ï au,jr hP.nd en];show(List.map (·.1) (aU os p))[i]?=_;rw [Ç,eo];rfl
  rw [È e0];refine bZ (nE (z:=aA 1) rfl ?_);rw [jT k 1 hk au];by_cases e1:k=1
  ·subst e1;rw [Ï au] at hd2;have gl:=jm (p:=p) (vs:=ig 1 (aU os p)) (n:=i);refine cy (yN (x2 _ _ ha) (oc.Nu x2) hP (x2 _ _ hp) en eo hd2 ai λ H3 x3=>⟨_,_,rfl,aI _ (x2.trans x3) nd,?_⟩);rw [aM,Ï au,jr hP.nd en];show(List.map (λ o=>rk ((aU os p).map (·.1)) o.1) (aU os p))[i]?=_;rw [Ç,eo];rfl
  rw [È e1];refine bZ (nE (z:=aA 2) rfl ?_);rw [jT k 2 hk au];by_cases e2:k=2
  ·subst e2;rw [Ï au] at hd2;have gl:=jm (p:=p) (vs:=ig 2 (aU os p)) (n:=i);refine cy (AO (x2 _ _ ha) (oc.Nu x2) hP (x2 _ _ hp) en eo hd2 ai λ H3 x3=>⟨_,_,rfl,aI _ (x2.trans x3) nd,?_⟩);rw [aM,Ï au,jr hP.nd en];show(mZ (aU os p))[i]?=_;unfold mZ;rw [Ç,eo];rfl
  rw [È e2];have e3:k=3:=ai;subst e3;rw [Ø rfl] at hd2;exact bZ ⟨_,_,rfl,x2,by rw [hd2,Ø rfl]⟩
 ·rintro σ H' ⟨o7,o8,rfl,x',NU⟩;rw [Â] at NU;exact q _ _ H' x' NU
theorem Cj (ha:H a=some (.lst xs))(oc:Μ H xs os)(hP:sL os p)(hl:H l=some (.lst (p.map V.int)))(e:p[j]?=some x)(en:p.length%2=0)(hd:H d=some (.dK ì))(lk:ì.length<sizeLine)
  (q:∀ v,(kQ (aU os p))[j]?=some v->De.nx [o0,o1,some (.ref a),o3,o4,some (.ref l),some (.ref d),some (.int (j:Nat)),some (.int x)] (ad H d (.dK (dm ì (.inl x) (.int v))))):K0 K De [o0,o1,some (.ref a),o3,o4,some (.ref l),some (.ref d),some (.int (j:Nat)),some (.int x)] H:=by
 have hj:=(Å.mp e).1;have hm:=qU hj en;have e2:=Á hm;generalize p[ji j]=y at e2;obtain⟨j1,b,oa,rfl,ex,hb,eo⟩:=jO oc hP e;obtain⟨j2,b2,ob,rfl,RI,Mf,WG⟩:=jO oc hP e2;have ev:(kQ (aU os p))[j]?=some (rG oa ob):=by
  unfold kQ;rw [List.getElem?_mapIdx,eo];rw [ø,WG];rfl
 have q:=q _ ev;have at2:rJ (p.map V.int) ((j:Int)+1-2*((j:Int)%2))=some (.int ((j2:Nat))):=by
  rw [uV];refine dh ?_;rw [Ç,e2];rfl
 generalize p.map V.int=ls at hl at2;refine nO ?_;refine⟨_,rfl,_,rfl,a,xs,_,_,rfl,rfl,ç.of ha,dh ex,_,rfl,_,rfl,_,rfl,_,_,rfl,rfl,_,rfl,_,_,rfl,rfl,(by show(0:Int)<2;decide),_,_,rfl,rfl,.inl ⟨au,au⟩,_,_,rfl,rfl,l,ls,_,_,rfl,rfl,ç.of hl,at2,a,xs,_,_,rfl,rfl,ç.of ha,dh RI,_,_,oa,ob,rfl,⟨b,rfl,hb⟩,⟨b2,rfl,Mf⟩,?_⟩
 exact⟨_,rfl,_,rfl,d,_,rfl,.inl ⟨ì,.inl ((j1:Nat)),hd,rfl,lk,rfl⟩,q⟩
theorem wA (hk:k<4)(xb:Ext Hb H)(nd:Hb d=none)(hD:Hb D=some (.lst [z]))(rz:Ĝ Hb z (gV (wd,p)))(ha:Hb a=some (.lst xs))(oc:Μ Hb xs os)(hP:sL os p)(ev:k=3->p.length%2=0)(hd:H d=some (.dK (if k=3 then [] else kI p (ig k (aU os p)) p.length)))
  (q:∀ o4 o5 o7 o8 H',Ext Hb H'->H' d=some (.dK (kI p (ig k (aU os p)) p.length))->u De [some (.str (aA k)),some (.ref D),some (.ref a),o3,o4,o5,some (.ref d),o7,o8] H') :
  aO (AF K) u De [some (.str (aA k)),some (.ref D),some (.ref a),o3,o4,o5,some (.ref d),o7,o8] H:=by
 have sz:=Ö;have ME:=hP.ln;obtain⟨b,l,rfl,hb,hl⟩:=jc rz;refine⟨_,rfl,D,rfl,⟨_,ç.of (xb _ _ hD)⟩,eV (xs:=[.ref b]) (λ i σ H'=>∃ o4 o5 o7 o8,σ=[some (.str (aA k)),some (.ref D),some (.ref a),o3,o4,o5,some (.ref d),o7,o8]/\Ext Hb H'/\H' d=some (.dK (if k=3/\i=0 then [] else kI p (ig k (aU os p)) p.length))) ⟨_,_,_,_,rfl,xb,?_⟩ ?_ ?_ ?_⟩
 ·rw [hd];by_cases e3:k=3
  ·rw [Ø e3,Ø ⟨e3,rfl⟩]
  ·rw [Ï e3,Ï λ z=>e3 z.1]
 ·rintro i σ H' _ ⟨o4,o5,o7,o8,rfl,x',_⟩;exact ç.of (x' _ _ hD)
 ·rintro i x σ H' ex ⟨o4,o5,o7,o8,rfl,x',NU⟩;have i0:i=0:=by have:=(Å.mp ex).1;simp at this;exact this
  subst i0;cases ex;refine⟨b,_,rfl,đ.of (x' _ _ hb),rfl,_,_,rfl,_,_,rfl,rfl,?_⟩;refine⟨_,rfl,l,rfl,⟨_,ç.of (x' _ _ hl)⟩,fE (xs:=p.map V.int) (λ j σ H'=>∃ o7 o8,σ=[some (.str (aA k)),some (.ref D),some (.ref a),o3,some (.str wd),some (.ref l),some (.ref d),o7,o8]/\Ext Hb H'/\H' d=some (.dK (if k=3 then kI p (ig k (aU os p)) j else kI p (ig k (aU os p)) p.length))) ⟨_,_,rfl,x',?_⟩ ?_ ?_ ?_⟩
  ·rw [NU];by_cases e3:k=3
   ·rw [Ø e3,Ø ⟨e3,rfl⟩,qD]
   ·rw [Ï e3,Ï λ z=>e3 z.1]
  ·rintro j σ H2 _ ⟨o7,o8,rfl,x2,_⟩;exact ç.of (x2 _ _ hl)
  ·rintro j y σ H2 t ey ⟨o7,o8,rfl,x2,hd2⟩ ht;rw [Ç] at ey;obtain⟨n,en,rfl⟩:=Ð.mp ey;have lj:=(Å.mp en).1;have xt:=Ext.new (o:=.tup [.int (j:Nat),.int n]) ht;have gt:ad H2 t (.tup [.int (j:Nat),.int n]) t=some (.tup [.int (j:Nat),.int n]):=aM;generalize ad H2 t (.tup [.int (j:Nat),.int n])=H3 at xt gt ⊢;refine⟨t,_,rfl,đ.of gt,rfl,_,_,rfl,_,_,rfl,rfl,?_⟩;have x3:=x2.trans xt;have R1:=xt _ _ hd2;refine nE (z:=aA 3) rfl ?_;rw [jT k 3 hk au];by_cases e3:k=3
   ·subst e3;rw [Ø rfl] at R1;have gl:=jm (p:=p) (vs:=ig 3 (aU os p)) (n:=j);refine cy (Cj (x3 _ _ ha) (oc.Nu x3) hP (x3 _ _ hl) en (ev rfl) R1 ai λ v hv=>⟨_,_,rfl,aI _ x3 nd,?_⟩);rw [aM,Ø rfl,jr hP.nd en];exact hv
   ·rw [È e3];rw [Ï e3] at R1;exact bZ ⟨_,_,rfl,x3,by rw [R1,Ï e3]⟩
  ·rintro σ H2 ⟨o7,o8,rfl,x2,hd2⟩;refine⟨_,_,_,_,rfl,x2,?_⟩;rw [Â,ite_self] at hd2;rw [hd2,Ï (λ z=>absurd z.2 (Nat.succ_ne_zero _))]
 ·rintro σ H' ⟨o4,o5,o7,o8,rfl,x',NU⟩;refine q _ _ _ _ H' x' ?_;rw [NU,Ï (λ z=>by have:=z.2;simp at this)]
def qA:Sp:=λ vs H Q _=>∃(k:Nat)(D:Addr)(z:V)(wd:Str)(p:List Int)(a:Addr)(xs:List V)(os:List (Int × Bool)),k<4/\vs=[.str (aA k),.ref D,.ref a]/\H D=some (.lst [z])/\Ĝ H z (gV (wd,p))/\sL os p/\H a=some (.lst xs)/\Μ H xs os/\(k=3->p.length%2=0) /\
 ∀ d H',Ext H H'->H d=none->H' d=some (.dK (kI p (ig k (aU os p)) p.length))->Q (.ref d) H'
theorem Bd (F:Ī K "_law_scores" "_law_scores" pk f fd)(A1:Df P w K mg base aB 1 "_law_ranks" ["_law_numbers"] tE a1 d1)(A2:Df P w K mg base aB 1 "_law_stands" ["_law_one","_law_other"] pH a2 d2)(me:mg "enumerate" = none)(ms:mg "sum" = none):à P w K mg base aB 2 f fd ["_law_word","_law_blocks","_law_outcomes_here"] qA:=by
 refine bO F Os λ cdv A outer s H vs Q E hr h=>?_;obtain⟨k,D,z,wd,p,a,xs,os,hk,rfl,hD,rz,hP,ha,oc,ev,q⟩:=h;refine il (Bj A1 A2 me ms hr) ⟨?_⟩;have ef:([((wd,p):Bk)].map (·.2)).flatten=p:=by simp
 refine zC (B:=[(wd,p)]) hD (.cons rz .nil) (by show 1<=20;decide) (by rw [ef];exact hP.ln) λ pl o4 o5 H1 x1 n1 g1=>?_
 rw [ef] at g1;refine aY (te:=jL) (i:=6) λ d hd=>?_;have x2:=Ext.new (o:=.dK []) hd;have g2:ad H1 d (.dK []) d=some (.dK []):=aM;refine vI hk x2 hd (x1 _ _ ha) (oc.Nu x1) hP g1 g2 λ o7 o8 H3 x3 g3=>?_;refine wA hk x3 hd (x1 _ _ hD) (rz.mono x1) (x1 _ _ ha) (oc.Nu x1) hP ev g3 λ o4 o5 o7 o8 H4 x4 g4=>?_;refine⟨_,rfl,q d H4 (x1.trans x4) ?_ g4⟩;cases e:H d with
 | none=>rfl
 | some o=>rw [x1 _ _ e] at hd;cases hd
end
def iF (k:Nat)(wd:Str)(p:List Int)(os:List (Int × Bool)):List Bool:=if k=3 then [lH (wd,p)] else if k=2 then [] else(aU os p).map (·.2)
def tJ (k:Nat)(p:List Int)(i:Nat):Int:=if k=3 then 0 else p.getD i 0
section
variable {P:Program}{w:World}{K:Frag}{mg:bC}{base:Heap}{De:bX}{u:TS}{H Hb:Hp}{a D:Addr}{xs zs:List V}{os:List (Int × Bool)}{o3 o4 o5 o6:Option V}{p:List Int}{k:Nat}{wd:Str}{z:V}
theorem wX (hk:k<4)(hD:H D=some (.lst [z]))(rz:Ĝ H z (gV (wd,p)))(ha:H a=some (.lst xs))(oc:Μ H xs os)(hP:sL os p)(q0:∀ o4 o5 o6 H',Ext H H'->(k<2->((aU os p).map (·.2)).all id=true)->u De [some (.str (aA k)),some (.ref D),some (.ref a),o3,o4,o5,o6] H')
  (q1:k<2->∀ i,bQ ((aU os p).map (·.2)) i->∀ c H',Ext H H'->H c=none->H' c=some (.tup [.str "sure",.int (p.getD i 0)])->De.rt (.ref c) H'):aO (BI K) u De [some (.str (aA k)),some (.ref D),some (.ref a),o3,o4,o5,o6] H:=by
 obtain⟨b,l,rfl,hb,hl⟩:=jc rz;refine⟨_,rfl,D,rfl,⟨_,ç.of hD⟩,eV (xs:=[.ref b]) (λ i σ H'=>∃ o4 o5 o6,σ=[some (.str (aA k)),some (.ref D),some (.ref a),o3,o4,o5,o6]/\Ext H H'/\(i=1->k<2->((aU os p).map (·.2)).all id=true)) ⟨_,_,_,rfl,Ext.refl _,λ z=>by cases z⟩ ?_ ?_ ?_⟩
 ·rintro i σ H' _ ⟨o3,o4,o5,rfl,x',_⟩;exact ç.of (x' _ _ hD)
 ·rintro i x σ H' ex ⟨o4,o5,o6,rfl,x',_⟩;have i0:i=0:=by have:=(Å.mp ex).1;simp at this;exact this
  subst i0;cases ex;refine⟨b,_,rfl,đ.of (x' _ _ hb),rfl,_,_,rfl,_,_,rfl,rfl,?_⟩;refine⟨_,rfl,l,rfl,⟨_,ç.of (x' _ _ hl)⟩,eV (xs:=p.map V.int) (λ j σ H'=>∃ o6,σ=[some (.str (aA k)),some (.ref D),some (.ref a),o3,some (.str wd),some (.ref l),o6]/\Ext H H'/\(k<2->∀(j':Nat) b,j'<j->((aU os p).map (·.2))[j']?=some b->b=true)) ⟨_,rfl,x',λ _ j b h=>absurd h (ė _)⟩ ?_ ?_ ?_⟩
  ·rintro j σ H2 _ ⟨o6,rfl,x2,_⟩;exact ç.of (x2 _ _ hl)
  ·rintro j y σ H2 ey ⟨o6,rfl,x2,good2⟩;rw [Ç] at ey;obtain⟨n,en,rfl⟩:=Ð.mp ey;have egd:p.getD j 0=n:=by rw [ø,en];rfl
   obtain⟨pl,b3,o,rfl,ex3,Te,eo⟩:=jO oc hP en;refine⟨_,rfl,cL,λ t ht=>?_⟩;have xt:=Ext.new (o:=.tup [V.str "sum",.str "ranks"]) ht;have gt:ad H2 t (.tup [V.str "sum",.str "ranks"]) t=some (.tup [V.str "sum",.str "ranks"]):=aM;generalize ad H2 t (.tup [.str "sum",.str "ranks"])=H3 at xt gt ⊢;have x3:=x2.trans xt;refine⟨t,_,rfl,.inr (đ.of gt),rfl,rfl,_,rfl,?_⟩;rw [At k hk];have em:((aU os p).map (·.2))[j]?=some o.2:=by rw [Ç,eo];rfl
   by_cases e2:k<2
   ·rw [Ë e2];refine cy ⟨_,rfl,_,rfl,a,xs,_,_,rfl,rfl,ç.of (x3 _ _ ha),dh ex3,b3,_,_,_,rfl,rfl,đ.of (x3 _ _ Te),dh rfl,_,rfl,?_⟩;cases hs:o.2 with
    | true =>
     refine bZ ⟨_,rfl,x3,λ z j' b' hj e=>?_⟩;rcases Č j' j with lt | ge
     ·exact good2 z j' b' lt e
     ·have:j'=j:=ai;subst this;rw [em,hs] at e;cases e;rfl
    | false =>
     refine cy ⟨_,rfl,cL,λ c hc=>?_⟩;have x4:=Ext.new (o:=.tup [.str "sure",.int (pl:Nat)]) hc;refine q1 e2 j ⟨good2 e2,by rw [em,hs]⟩ c _ (x3.trans x4) ?_ (by rw [egd];exact aM)
     cases e:H c with
     | none=>rfl
     | some o=>rw [x3 _ _ e] at hc;cases hc
   ·rw [È e2];exact bZ (bZ ⟨_,rfl,x3,λ z=>absurd z e2⟩)
  ·rintro σ H2 ⟨o6,rfl,x2,good2⟩;refine⟨_,_,_,rfl,x2,λ _ z=>?_⟩;rw [ú];intro b hb;obtain⟨j,hj,e⟩:=ü hb;refine good2 z j b ?_ (by rw [Á hj,e])
   rw [Â];rw [Â,cC] at hj;exact hj
 ·rintro σ H' ⟨o4,o5,o6,rfl,x',good⟩;exact q0 _ _ _ H' x' (good rfl)
def qx:Sp:=λ vs H Q _=>∃(k:Nat)(D:Addr)(z:V)(wd:Str)(p:List Int)(a:Addr)(xs:List V)(os:List (Int × Bool)),k<4/\vs=[.str (aA k),.ref D,.ref a]/\H D=some (.lst [z])/\Ĝ H z (gV (wd,p))/\sL os p/\H a=some (.lst xs)/\Μ H xs os /\
 ((iF k wd p os).all id=true->∀ H',Ext H H'->Q .Ċ H')/\∀ i,bQ (iF k wd p os) i->∀ c H',Ext H H'->H c=none->H' c=some (.tup [.str (kh k),.int (tJ k p i)])->Q (.ref c) H'
theorem Af (F:Ī K "_law_refused_by" "_law_refused_by" yf f fd)(me:mg "enumerate" = none)(mn:mg "len" = none):à P w K mg base aB 1 f fd ["_law_word","_law_blocks","_law_outcomes_here"] qx:=by
 refine bO F Rh λ cdv A outer s H vs Q E hr h=>?_;obtain⟨k,D,z,wd,p,a,xs,os,hk,rfl,hD,rz,hP,ha,oc,q0,q1⟩:=h;refine il (Bz me mn) ⟨?_⟩;refine A9 (B:=[(wd,p)]) hk hD (.cons rz .nil) (λ o3 o4 o5 H1 x1 al=>?_) λ e3 i fi c H' x' nc hc=>?_
 ·refine wX hk (x1 _ _ hD) (rz.mono x1) (x1 _ _ ha) (oc.Nu x1) hP (λ o4 o5 o6 H2 x2 UC=>?_) λ e2 i fi c H' x' nc hc=>?_
  ·refine q0 ?_ H2 (x1.trans x2);unfold iF;by_cases e3:k=3
   ·rw [Ø e3];exact al e3
   ·rw [Ï e3];by_cases e2:k=2
    ·rw [Ø e2];rfl
    ·rw [Ï e2];exact UC ai
  ·have n3:k≠3:=ai;refine q1 i (by unfold iF;rw [Ï n3,Ï ai];exact fi) c H' (x1.trans x') ?_ (by unfold kh tJ;rw [Ï n3,Ï n3];exact hc)
   cases e:H c with
   | none=>rfl
   | some o=>rw [x1 _ _ e] at nc;cases nc
 ·have i0:i=0:=by have:=(Å.mp fi.2).1;simp at this;exact this
  subst i0;exact q1 0 (by unfold iF;rw [Ø e3];exact fi) c H' x' nc (by unfold kh tJ;rw [Ø e3,Ø e3];exact hc)
end
section
variable {prog:Program}{w:World}{A:Around}{E:fg}{s:Shared}{it d:Addr}{i ep:Nat}{es:Array DictEntry}{od:Obj}{ok ov:Value}{e:DictEntry}
theorem qY (d:Addr):¬ ((Value.ref d==Value.none)=true):=Ô
theorem p9:Builtin.Dict_items.ownsTuple "dict_itemiterator" = true:=au
theorem uC (hi:IsItemIter s.heap it d i es.size ep ok ov)(ho:s.heap.get? d=some od)(QX:od.data=.dict es ep)(he:es[i]?=some e)
  (k:∀ h',IsItemIterOut h' it d (i+1) es.size ep e.key e.val s.heap.objs.size->h'.get? s.heap.objs.size=some { cls:=.type "tuple",data:=.seq #[e.key,e.val] }->(∀ b o,b≠it->s.heap.get? b=some o->h'.get? b=some o)->Q (some (.ref s.heap.objs.size)) { s with heap:=h' }):wpAny (model prog w) A (pyNext (.ref it)) Q E s:=by
 obtain⟨hp,gn,dr,tk,os⟩:=s;have T0:Shared.TypeIs ⟨hp,gn,dr,tk,os⟩ (.ref it) "dict_itemiterator" :=⟨_,hi,rfl⟩;have lt:i<es.size:=(í.mp he).1;have ltI:it<hp.objs.size:=É hi;unfold pyNext;refine À (Ŀ (ÿ (name:=Str.ofString "__next__") T0 ē (ĉ ē T0 Ml (À (Æ (À (À (À (ń T0 (Æ (À (wpAny_fieldsOf hi rfl ?_)))))))))  (Mb _))));simp only [p9,if_true];show wpAny _ _ (if(Value.ref d==Value.none)=true then _ else _) _ _ _
 rw [Ï (qY d)];refine À (Æ (À (OR ho QX ?_)));rw [Ï (by simp)]
 refine À (Æ (À (Q2 ho QX ?_)));rw [Ï (by simp)]
 refine Æ ?_;simp only [show ¬ ((i:Int)<0) from by omega,if_false,Int.toNat_natCast,he]
 refine À (À (ń T0 (Æ (À (Mi T0 ?_)))));show wpAny _ _ (setField (.ref it) 3 (rawInt ((i:Int)+1))>>=_) _ _ ⟨hp,gn,dr,tk,os⟩;refine À (î hi (by simp) λ h1 e1 T6=>?_)
 replace T6:Heap.SameBut it hp h1:=T6;replace e1:IsItemIter h1 it d (i+1) es.size ep ok ov:=by
  have q:((i+1:Nat):Int)=(i:Int)+1:=ai;unfold IsItemIter;rw [q];simpa [rawInt] using e1
 have T1:Shared.TypeIs ⟨h1,gn,dr,tk,os⟩ (.ref it) "dict_itemiterator" :=⟨_,e1,rfl⟩;refine À (ć (À (Mi T1 (À (Mi T1 ?_)))));refine À (Nf ?_);have z1:=T6.1;have e2:IsItemIter (h1.push { cls:=.type "tuple",data:=.seq #[e.key,e.val] }) it d (i+1) es.size ep ok ov:=Ã _ e1;have t2:(h1.push { cls:=.type "tuple",data:=.seq #[e.key,e.val] }).get? hp.objs.size=some { cls:=.type "tuple",data:=.seq #[e.key,e.val] }:=by rw [<- z1];exact Ò _ rfl
 have k2:∀ b o,b≠it->hp.get? b=some o->(h1.push { cls:=.type "tuple",data:=.seq #[e.key,e.val] }).get? b=some o:=λ b o hb q=>Ã _ (T6.extBut b o hb q);rw [z1];generalize h1.push { cls:=.type "tuple",data:=.seq #[e.key,e.val] }=h2 at e2 t2 k2 ⊢;refine À (À (ö e2 rfl rfl (Æ ?_)));simp only [if_true];refine À (ö e2 rfl rfl (À (ö e2 rfl rfl (À (î e2 (by simp) λ h3 e3 s3=>?_)))))
 replace s3:Heap.SameBut it h2 h3:=s3;replace e3:IsItemIter h3 it d (i+1) es.size ep e.key ov:=e3;refine À (î e3 (by simp) λ h4 e4 s4=>?_)
 replace s4:Heap.SameBut it h3 h4:=s4;replace e4:IsItemIter h4 it d (i+1) es.size ep e.key e.val:=e4;refine À (î e4 (by simp) λ h5 e5 s5=>?_)
 replace s5:Heap.SameBut it h4 h5:=s5;replace e5:IsItemIterOut h5 it d (i+1) es.size ep e.key e.val hp.objs.size:=e5;refine À (î e5 (by simp) λ h6 e6 s6=>?_)
 replace s6:Heap.SameBut it h5 h6:=s6;replace e6:IsItemIterOut h6 it d (i+1) es.size ep e.key e.val hp.objs.size:=e6;have up:=λ b o hb q=>s6.extBut b o hb (s5.extBut b o hb (s4.extBut b o hb (s3.extBut b o hb q)));exact À (Qo (Æ (Æ ⟨_,rfl,Æ (k h6 e6 (up _ _ (Ĳ ltI) t2) λ b o hb q=>up b o hb (k2 b o hb q))⟩)))
theorem xF (hh:A.handled=none)(hi:IsItemIter s.heap it d i es.size ep ok ov)(ho:s.heap.get? d=some od)(QX:od.data=.dict es ep)(he:es.size<=i)
  (k:∀ h',Heap.ExtBut it s.heap h'->Q none { s with heap:=h' }):wpAny (model prog w) A (pyNext (.ref it)) Q E s:=by
 have T0:s.TypeIs (.ref it) "dict_itemiterator" :=⟨_,hi,rfl⟩;refine À (Ŀ (ÿ T0 ē (ĉ ē T0 Ml (À (Æ (À (À (À (ń T0 (Æ (À (wpAny_fieldsOf hi rfl ?_)))))))))  (Mb _))));simp only [p9,if_true];show wpAny _ _ (if(Value.ref d==Value.none)=true then _ else _) _ _ _
 rw [Ï (qY d)];refine À (Æ (À (OR ho QX ?_)));rw [Ï (by simp)]
 refine À (Æ (À (Q2 ho QX ?_)));rw [Ï (by simp)]
 refine Æ ?_;simp only [show ¬ ((i:Int)<0) from by omega,if_false,Int.toNat_natCast,Array.getElem?_eq_none he]
 refine À (À (ń T0 (Æ ?_)));show wpAny _ _ (setField (.ref it) 2 .none>>=_) _ _ s;refine À (χ hi rfl (by simp) (wpAny_bind ?_))
 simp only [newExc,newTuple];refine À (ý (À (wpAny_of_eq (by first | rfl | (simp only [firstArgMember];rfl)) (ý ?_ (by size_fits)))) (by size_fits))
 simp only [raiseNew];refine À (wpAny_handled ?_);rw [show A.in1.handled=none from hh];refine À (Æ (wpAny_throw (À ?_)));exact PZ ⟨_,Ò _ rfl,rfl⟩ isSubtype_stop (Æ (k _ (((Heap.SameBut.update ..).extBut.push _).push _)))
theorem u8 (hT:s.TypeIs (.ref d) "dict")(hd:(d==sysModules)=false)(k:Q (.ref s.heap.objs.size) { s with heap:=s.heap.push { cls:=.type "dict_items",data:=.fields #[.ref d] } }):wpAny (model prog w) A (call (.builtin "dict.items") [.ref d]) Q E s:=by
 have m:MeetsIn prog w (Builtin.«dict.items» ⟨[.ref d],[]⟩) (λ _ R s=>s.TypeIs (.ref d) "dict" /\ R (.ok (.ret (.ref s.heap.objs.size))) { s with heap:=s.heap.push { cls:=.type "dict_items",data:=.fields #[.ref d] } }):=.of_wp λ A R s ⟨hT,h⟩=>by
  unfold Builtin.«dict.items» Builtin.Dict.noArgs Builtin.Dict.showsAll;refine À (À (wpAny_notOrdered_dict hT (Æ ?_)));rw [Ï (by rw [hd];exact Ô)]
  exact À (Æ (À (ý (Æ ⟨_,rfl,h⟩))))
 exact call_meetsIn Qs hT PySem.F.entry_dict_items (PySem.F.args_dict_items_1 _) m ⟨hT,k⟩
theorem uD (hv:s.heap.IsItemsView v d)(ho:s.heap.get? d=some od)(QX:od.data=.dict es ep)
  (k:Q (.ref s.heap.objs.size) { s with heap:=s.heap.push { cls:=.type "dict_itemiterator",data:=.fields #[.none,.bool false,.ref d,.int 0 0,.int es.size 0,.int ep 0,.none,.none] } }):wpAny (model prog w) A (pyIter (.ref v)) Q E s:=by
 obtain⟨oi,Up,hci,hdi⟩:=id hv;refine wpAny_pyIter_slot hv.typeIs Om (ĉ Om hv.typeIs PySem.F.entry_dict_items_iter ?_ (PySem.F.args_dict_items_iter_1 _));refine À (Æ (À (À (ö Up hdi rfl (Æ (À (À (OR ho QX (À (Q2 ho QX ?_))))))))));simp only [p9,if_true];refine ý (Æ ⟨_,rfl,"dict_itemiterator",_,⟨_,Ò _ rfl,rfl⟩,ē.lookup,?_⟩) (by simp only [sizeOk,Builtin.Dict_items.ownedTupleFields,List.size_toArray,List.length_append,List.length_cons,List.length_nil,sizeLine_eq];omega)
 simpa [rawInt,Builtin.Dict_items.ownedTupleFields] using k
end
def DG:HO->Prop
 | .dK _=>True
 | .dT _=>True
 | _=>False
def iN:HO->Nat
 | .dK ì=>ì.length
 | .dT ì=>ì.length
 | _=>0
def vD (H:Hp)(u:HO)(i:Nat)(kx v:V):Prop :=
 (∃ ì k,u=.dK ì/\ì[i]?=some (k,v)/\kx=kV k)\/∃ ì k b,u=.dT ì/\ì[i]?=some (k,v)/\kx=.ref b/\H b=some (.tup (k.map kV))
theorem Dh (h:(bv P w).is k u=true):RelV (kV k) u:=by
 rw [jK] at h;rcases bh h with⟨i,t,rfl,rfl⟩ | ⟨x,t,rfl,rfl⟩ | ⟨rfl,rfl⟩
 ·exact⟨t,rfl⟩
 ·exact⟨t,rfl⟩
 ·rfl
theorem gZ {α β:Type}{R:α->β->Prop}:∀{xs:List α}{ys:List β},Paired R xs ys->∀{i:Nat}{y:β},ys[i]?=some y->∃ x,xs[i]?=some x/\R x y
 | _,_,.nil,i,y,h=>by simp at h
 | _,_,.cons r _,0,y,h=>by cases h;exact⟨_,rfl,r⟩
 | _,_,.cons _ t,i+1,y,h=>gZ t h
theorem p6 (D:DG u)(o:Ą P w H h d u):∃ ob es ep,h.get? d=some ob/\ob.ExactDict/\ob.data=.dict es ep/\(d==sysModules)=false/\es.size=iN u/\∀(i:Nat) e,es[i]?=some e->∃ kx v,vD H u i kx v/\RelV kx e.key/\RelV v e.val:=by
 cases u with
 | dK ì =>
  obtain⟨z,hd,vs,rel,ob,es,ep,h1,h2,h3,h4,h5,h6⟩:=o;refine⟨ob,es,ep,h1,h2,h3,hd,?_,λ i e he=>?_⟩
  ·have l1:=h5.length;have l2:=w_ rel;show es.size = ì.length;rw [l2,<- l1];simp
  ·have l1:=h5.length;have lt:=(í.mp he).1;have lt':i<vs.length:=by rw [<- l1];simpa using lt
   have hv:=Á lt';obtain⟨a1,a2⟩:=h5.get? (by simpa using he) (show vs[i]?=some (vs[i].1,vs[i].2) from hv)
   obtain⟨p,hp,r1,r2⟩:=gZ rel hv;refine⟨kV p.1,p.2,.inl ⟨ì,p.1,rfl,hp,rfl⟩,?_,?_⟩
   ·rw [r1];exact Dh a1
   ·rw [a2];exact r2
 | dT ì =>
  obtain⟨z,hd,xs,rel,ob,es,ep,h1,h2,h3,h4,h5⟩:=o;refine⟨ob,es,ep,h1,h2,h3,hd,?_,λ i e he=>?_⟩
  ·have l2:=w_ rel;show es.size = ì.length;rw [l2,<- Array.length_toList,h4,Â]
  ·have PM:es.toList[i]?=some e:=by simpa using he
   rw [h4,Ç] at PM;obtain⟨x,hx,rfl⟩:=Ð.mp PM;obtain⟨p,hp,r1,r2,r3⟩:=gZ rel hx;exact⟨.ref x.2.1,p.2,.inr ⟨ì,p.1,x.2.1,rfl,hp,rfl,r2⟩,rfl,r3⟩
 | _=>exact D.elim
def Fz (H:Hp)(d:Addr)(o:Obj)(u:HO)(H':Hp):Prop:=H' d=some (.υ o u)/\∀ b,b≠d->H' b=H b
theorem B4 (I:Inv X Ä σ H s)(D:DG u)(e:Rd H d u):∃ o H',s.heap.get? d=some o/\Fz H d o u H'/\Inv X Ä σ H' s:=by
 rcases e with e | ⟨o,e⟩
 ·have ok:=I.ċ d u e;obtain⟨ob,es,ep,h1,_⟩:=p6 D ok;refine⟨ob,ad H d (.υ ob u),h1,⟨aM,λ b hb=>af hb⟩,?_⟩;have mu:DB (H d):=by
   rw [e];cases u with
   | dK ì=>exact True.intro
   | dT ì=>exact True.intro
   | _=>exact D.elim
  have new:Ą X.prog X.w (ad H d (.υ ob u)) s.heap d (.υ ob u):=by
   refine⟨h1,?_⟩;cases u with
   | dK ì=>exact ok
   | dT ì =>
    obtain⟨z,hd,xs,rel,r⟩:=ok;refine⟨z,hd,xs,KT.keeps rel λ c ys ec=>?_,r⟩;rw [af (λ q=>by rw [q,e] at ec;cases ec)]
    exact ec
   | _=>exact D.elim
  exact iw I mu ⟨rfl,λ _ _=>rfl⟩ ⟨ob,h1⟩ new
 ·exact⟨o,H,(show Ą X.prog X.w H s.heap d (.υ o u) from I.ċ d _ e).1,⟨e,λ _ _=>rfl⟩,I⟩
def FS (d:Addr)(o:Obj)(u:HO):It :=
 ⟨λ i H=>H d=some (.υ o u)/\i<iN u,λ i H x H'=>∃ p kx v,x=.ref p/\H p=none/\vD H u i kx v/\H'=ad H p (.tup [kx,v]),λ i H=>H d=some (.υ o u)/\iN u<=i⟩
theorem qX (D:DG u)(ok:Ι P w H h)(e:H d=some (.υ o u))(hd:o.data=.dict es ep):h.get? d=some o/\es.size=iN u/\∀(i:Nat) e,es[i]?=some e->∃ kx v,vD H u i kx v/\RelV kx e.key/\RelV v e.val:=by
 obtain⟨h0,h1⟩:=(show Ą P w H h d (.υ o u) from ok d _ e);obtain⟨ob,RJ,UB,g1,g2,g3,g4,g5,g6⟩:=p6 D h1;rw [h0] at g1;cases g1;rw [hd] at g3;cases g3;exact⟨h0,g5,g6⟩
theorem uL {x1}(D:DG u)(hd:o.data=.dict es ep):nR P w K (.Tuple elts x1 ô) (FS d o u) [it] it (λ i h=>∃ ok ov,IsItemIter h it d i es.size ep ok ov) where
 mem:=by simp
 obj:=λ i h st b hb=>by
  obtain⟨ok,ov,q⟩:=st;have e:b=it:=by simpa using hb
  subst e;exact⟨_,q,λ v z=>by cases z⟩
 keep:=λ i h h' st k=>let ⟨ok,ov,q⟩:=st;⟨ok,ov,k it (by simp) _ q⟩
 item:=by
  intro X hP hw hK hc i Ä s σ H E I hf st hg;subst hP hw hK;obtain⟨Wl,ŵ⟩:=hg;obtain⟨ok,ov,hi⟩:=st;obtain⟨ho,hsz,rel⟩:=qX D I.ċ Wl hd;obtain⟨f0,f1,f2,f3,f4,f5⟩:=hf it (by simp)
  have he:=Array.getElem?_eq_getElem (show i<es.size by omega)
  obtain⟨kx,v,pr,rk,rv⟩:=rel i _ he;generalize es[i]'ai=e at he rk rv;refine uC hi ho hd he λ h1 Wj Ul kk=>⟨_,rfl,wpAny_letOwnedTupleGo_items Wj λ h2 XV sb=>?_⟩;have N8:=sb;have ltI:=É hi;have ne2:=Ĳ ltI;have V4:=(N8.2 _ ne2).trans Ul
  let hA:Heap:=s.heap.update it λ _=>{ cls:=.type "dict_itemiterator",dict:=none,data:=.fields #[.none,.bool false,.ref d,.int ((i+1:Nat):Int) 0,.int es.size 0,.int ep 0,e.key,e.val],slots:=#[] }
  have IA:Inv X Ä σ H { s with heap:=hA,toks:=s.toks }:=I.turned (λ b ob hb q=>by
   rw [ß _ _ _ _ hb];exact q) f0 f1 f3 f4 f5
  have UX:hA.objs.size=s.heap.objs.size:=J' _ _ _;refine⟨.ref s.heap.objs.size,ad H s.heap.objs.size (.tup [kx,v]),?_,rfl,⟨_,kx,v,rfl,I.ċ.fresh (Ê _),pr,rfl⟩,⟨_,_,XV⟩,λ b hb=>?_⟩
  ·refine IA.laid (λ b ob q=>?_) (Ο UX) ⟨cL,[e.key,e.val],.cons rk (.cons rv .nil),⟨_,V4,rfl,_,rfl⟩⟩;have q':=q;by_cases z1:b=it
   ·subst z1;rw [þ _ hi rfl] at q';cases q';exact XV
   ·rw [ß _ _ _ _ z1] at q';exact(N8.2 b z1).trans (kk b ob z1 q')
  ·have e':b=it:=by simpa using hb
   subst e';rw [af (Ne.symm ne2)];exact f0
 done:=by
  intro X hP hw hK hc i Ä s σ H E I hf st hg;subst hP hw hK;obtain⟨Wl,ŵ⟩:=hg;obtain⟨ok,ov,hi⟩:=st;obtain⟨ho,hsz,rel⟩:=qX D I.ċ Wl hd;obtain⟨f0,f1,f2,f3,f4,f5⟩:=hf it (by simp)
  exact xF (I.ok.hd hc) hi ho hd ai λ h' eb=>⟨rfl,I.turned (λ b ob hb q=>eb b ob hb q) f0 f1 f3 f4 f5⟩
 self:=λ A i s Q E st k=>by
  obtain⟨ok,ov,hi⟩:=st;exact kcp_self hi k
section
variable {X:Cx}{o:Expr}{Œ Ŷ:Pos}{tl:TE}
def Fv (tl:TE):TI:=λ σ H R=>tl σ H λ x H1=>∃ d u,x=.ref d/\DG u/\Rd H1 d u/\∀ ob H2,Fz H1 d ob u H2->R (FS d ob u) H2
theorem BW (D:DG u)(ok:Ι P w H h)(e:Rd H d u):Ą P w H h d u:=by
 rcases e with e | ⟨o,e⟩
 ·exact ok d u e
 ·exact(show Ą P w H h d (.υ o u) from ok d _ e).2
theorem ue {x1}(ho:PE X o tl)(Nt:attributeBase o "items" X.env (eval o X.env)=eval o X.env:=by rfl)(Nr:(Œ.endLine == Ŷ.line)=true:=by rfl):PI X (.Tuple elts x1 pt) (.Call (.Attribute o "items" Œ) [] [] Ŷ) (Fv tl):=by
 intro Ä s σ H R I h;refine wpAny_Call_method0_late Nt Nr (aV (ho Ä s σ H _ I h) λ v s1 ⟨x,H1,I1,r1,q1⟩=>?_);obtain⟨d,u,rfl,D,rd,q⟩:=q1;cases (show v=Value.ref d from r1);obtain⟨ob,es,ep,g1,g2,g3,g4,g5,g6⟩:=p6 D (BW D I1.ċ rd);have hT:s1.TypeIs (.ref d) "dict" :=⟨ob,g1,g2.1⟩;refine⟨"dict","dict.items",PySem.F.plainAttrs_dict,Qs,PySem.F.type_dict_items,hT,λ b hb=>by cases hb;exact⟨ob,g1,g2.2.1⟩,Mo rfl (PySem.evalArgs_none (u8 hT g4 ?_))⟩
 obtain⟨ob',H2,f1,f2,I2⟩:=B4 I1 D rd;have eo:ob'=ob:=by rw [g1] at f1;exact(Õ f1).symm
 subst eo;refine uD ⟨_,Ò _ rfl,rfl,rfl⟩ (Ã _ g1) g3 ?_;have I3:Inv X Ä σ H2 { s1 with heap:=(s1.heap.push { cls:=.type "dict_items",data:=.fields #[.ref d] }),toks:=s1.toks }:=I2.kept λ b ob e=>Ã _ e
 generalize hh:s1.heap.push { cls:=.type "dict_items",data:=.fields #[.ref d] }=hB at I3 ⊢;refine⟨hB.objs.size,[hB.objs.size],_,_,H2,rfl,I3.kept λ b ob e=>Ã _ e,uL D g3,⟨.none,.none,?_⟩,λ b hb=>?_,q _ _ f2⟩
 ·exact Ò _ rfl
 ·have e:b=hB.objs.size:=by simpa using hb
  subst e;exact I3.NV (Ê _) (I3.ċ.fresh (Ê _))
end
theorem xC {g:TG}{tb:TS}{D:bX}(Pv:Nat->St->Hp->Prop)(h0:Pv 0 σ H)(hf:∀ i σ H,Pv i σ H->H d=some (.υ ob u))
  (hs:∀ i σ H p kx v,i<iN u->Pv i σ H->H p=none->vD H u i kx v->g (.ref p) σ (ad H p (.tup [kx,v])) λ Ĵ H2=>tb { D with nx:=Pv (i+1),ct:=Pv (i+1),bk:=D.nx } Ĵ H2)(hd:∀ σ H,Pv (iN u) σ H->D.nx σ H) :
  ∃ W:Nat->Nat->St->Hp->Prop,(∃ m,W 0 m σ H)/\∀ i m σ H,W i m σ H ->
   ((FS d ob u).stop i H/\D.nx σ H)\/((FS d ob u).go i H/\∃ N:St->Hp->Prop,(∀ ĝ H',N ĝ H'->∃ m',m'<m/\W (i+1) m' ĝ H')/\∀ x H',(FS d ob u).MJ i H x H'->g x σ H' λ Ĵ H2=>tb { D with nx:=N,ct:=N,bk:=D.nx } Ĵ H2):=by
 refine⟨λ i m σ H=>m=iN u-i/\i<=iN u/\Pv i σ H,⟨iN u,by simp,Nat.zero_le _,h0⟩,?_⟩
 rintro i m σ H ⟨rfl,hi,p⟩;have q:=hf i σ H p;by_cases ŵ:i<iN u
 ·refine .inr ⟨⟨q,ŵ⟩,Pv (i+1),λ ĝ H' n=>⟨iN u-(i+1),ai,rfl,ŵ,n⟩,?_⟩;rintro x H' ⟨p',kx,v,rfl,hp,pr,rfl⟩;exact hs i σ H p' kx v ŵ p hp pr
 ·have e:i=iN u:=ai;subst e;exact .inl ⟨⟨q,Ê _⟩,hd σ H p⟩
section
variable {P:Program}{w:World}{K:Frag}{mg:bC}{base:Heap}{f a1 a2:Addr}{fd d1 d2:FuncData}
abbrev xO:Stmt:=cw 79
abbrev HU:List Str:=["_law_word","_law_blocks","_law_outcomes_here","_law_weights","_law_found","_law_number","_law_block","_law_refused","_law_place","_law_score"]
theorem Sy:ae HU ["_law_word","_law_blocks","_law_outcomes_here","_law_weights"] (aa xO):=aR
abbrev GB:Scope:=dJ [("_law_place",.local),("_law_found",.free)]
theorem Gh:((["_law_place"]:List Str)++(["_law_found"]:List Str)).Nodup:=av
def Aa:R2:=λ x y H Q=>y=.Ċ/\Q (.bl (!decide (x=.Ċ))) H
def Id (K:Frag):TS:=dA (tB (aQ (dR λ i j=>.bl (decide (i<j))) (jS K 3) (jS K 1))) (cH (dO (am (tC (.str "weights")) (am (ag 3) aK)))) bV
def EY:TS:=cR (iE qx [] E0 (am (ag 0) (am (cg (am (ag 6) aK)) (am (ag 2) aK)))) (ba 7)
def AD (K:Frag):TS:=dA (nI (tB (aQ Aa (ag 7) (tC .Ċ))) (tB (aQ nA (aQ (ke K) (ag 7) (tC (.int 0))) (tC (.str "pairs"))))) (cH (dO (am (tC (.str "pairs")) (am (ag 5) aK)))) bV
def tG:TS:=dA (tB (aQ Aa (ag 7) (tC .Ċ))) (cH (ag 7)) bV
def sw (K:Frag):TS:=gj (Fv (iE qA [] E0 (am (ag 0) (am (cg (am (ag 6) aK)) (am (ag 2) aK))))) (i3 K 2 (bT (ba 8) (bT (ba 9) ix))) (kD (ag 4) (ag 8) (aQ (rI Ζ λ i j=>.int (i*j)) (aQ (dy K) (ag 3) (ag 5)) (ag 9)))
def Gp (K:Frag):TS:=gj (lK K (am (ag 1) aK)) (i3 K 2 (bT (ba 5) (bT (ba 6) ix))) (aO EY (aO (AD K) (aO tG (sw K))))
def BB (K:Frag):TS:=cH (dO (am (tC (.str "scores")) (am (dW (jd (am (jS K 2) aK)) 1 [4] (ba 0) (on (ag 1) (ag 0))) aK)))
def LN (K:Frag):TS:=aO (Id K) (aO (cR jL (ba 4)) (aO (Gp K) (BB K)))
section
variable {cdv:Value}{A:Around}{outer:List Env}{s:Shared}{H:Hp}{E:XK}
theorem B0:bu (aW aB P w K mg base HU "_law_due" (aa xO) f cdv A outer s H E).ŋ GB [("_law_found",s.heap.objs.size+1)] ["_law_place"] ["_law_found"] [4] :=
 fK (M:=["_law_found"]) (L:=[(".0",.local),("_law_place",.local),("_law_found",.cell)]) rfl rfl av av av rfl rfl rfl av av rfl rfl rfl
theorem yY (A1:Df P w K mg base aB 1 "_law_refused_by" ["_law_word","_law_blocks","_law_outcomes_here"] qx a1 d1)(A2:Df P w K mg base aB 2 "_law_scores" ["_law_word","_law_blocks","_law_outcomes_here"] qA a2 d2)(me:mg "enumerate" = none)(mn:mg "len" = none)(mr:mg "range" = none)(hr:pj 2 "_law_due" xO A s f cdv) :
  Bx (Ž (aW aB P w K mg base HU "_law_due" (aa xO) f cdv A outer s H E).ŋ (aH xO) (LN K)):=by
 have nd:=Sy.nd;have ĭ:ă 1 _:=hr.mono au;have Ui:(A.deeper (PyProof.Rows.envOfC "_law_due" (aa xO) s.heap.objs.size f cdv)).units+1<cLine:=by have:=hr.un;omega
 exact dq ⟨be (ar nX (aj az rfl mn ê (ac (pv 3) ao)) (aj az rfl mn ê (ac (pv 1) ao)) (ax _)) (aX (dk (aP (ac ay (ac (pv 3) ao))))) f6⟩
  (dq (bq nd rfl (.inr rfl) ⟨pf⟩)
  (dq ⟨bY .never rfl (fJ rfl me (ac (pv 1) ao)) (bF rfl (eF (cq nd rfl (.inl rfl)) (eF (cq nd rfl (.inl rfl)) aZ)))
   (bU (gG nd rfl (.inl rfl) (cZ A1 ĭ ak (ac (pv 0) (ac (bM (ac (pv 6) ao)) (ac (pv 2) ao)))))
   (bU (be (PW.pt (gv (ar qO (pv 7) hI (ax _)) (fh (ar cj (cS ia (pv 7) aF) ay (ax _))))) (aX (dk (aP (ac ay (ac (pv 5) ao))))) f6)
   (bU (be (ar qO (pv 7) hI (ax _)) (aX (dk (pv 7))) f6)
   (aX (bY .never rfl (ue (cZ A2 hr ak (ac (pv 0) (ac (bM (ac (pv 6) ao)) (ac (pv 2) ao))))) (bF rfl (eF (cq nd rfl (.inl rfl)) (eF (cq nd rfl (.inl rfl)) aZ)))
    (aX (ij Ui (pv 4) (pv 8) (aE dY (cS fS (pv 3) (pv 5)) (pv 9)) rfl)))))))⟩
  (br ⟨dk (aP (ac ay (ac (cu rfl B0 (dI rfl mr (ac (aj az rfl mn ê (ac (pv 2) ao)) ao)) (λ s H C fp=>cq Gh rfl (.inl rfl)) (λ s H C fp=>lT Ui (pv 1) (pv 0))) ao)))⟩)))
end
end
def cT (B:List Bk)(i:Nat):Nat:=((B.take i).map (·.2)).flatten.length
theorem iX (e:B[i]?=some b):cT B (i+1)=cT B i+b.2.length:=by
 unfold cT;rw [aC e,Ì,Đ,Í];simp
theorem ju (fl:(B.map (·.2)).flatten=c5 0 n)(e:B[i]?=some b):cT B i+b.2.length<=n:=by
 rw [<- iX e];have:=ġ List.length fl;rw [dQ] at this;rw [<- this];unfold cT
 conv=>rhs;rw [<- Ŋ (i+1) B]
 rw [Ì,Đ,Í];omega
theorem iL (fl:(B.map (·.2)).flatten=c5 0 n)(e:B[i]?=some b)(hm:m<b.2.length):b.2[m]?=some ((cT B i+m:Nat):Int):=by
 have z:=wL e (Á hm);have le:=ju fl e;rw [fl] at z;have z2:=rE (s:=0) (show cT B i+m<n by omega)
 unfold cT at z2 ⊢;rw [z] at z2;rw [Á hm,z2,Ŕ]
theorem qB {B:List Bk}{i:Nat}{os:List (Int × Bool)}(fl:(B.map (·.2)).flatten=c5 0 os.length)(e:B[i]?=some b)(l:b.2.length<=20):sL os b.2:=by
 have le:=ju fl e;refine⟨λ x hx=>?_,?_,l⟩
 ·obtain⟨m,hm,ex⟩:=ü hx;have z:=iL fl e hm;rw [Á hm,ex] at z;have z:=Õ z;omega
 ·rw [List.nodup_iff_pairwise_ne,List.pairwise_iff_getElem];intro j m hj hm lt ee;have z1:=iL fl e hj;have z2:=iL fl e hm;rw [Á hj] at z1;rw [Á hm,<- ee] at z2;rw [z1] at z2;have z:=Õ z2;omega
theorem uF {α:Type}{L:List (List α)}{q:List α}(e:L[i]?=some q){n:α}(ej:q[j]?=some n):L.flatten[(L.take i).flatten.length+j]?=some n:=by
 have li:=(Å.mp e).1;have eb:L[i]=q:=by rw [Á li] at e;exact Õ e
 have eB:L=L.take i++q::L.drop (i+1):=by
  rw [<- eb,Q7,Ŋ]
 have e2:L.flatten=(L.take i).flatten++(q++(L.drop (i+1)).flatten):=by
  conv=>lhs;rw [eB]
  rw [Đ];rfl
 rw [e2,Ý ai,Qu,é (Å.mp ej).1];exact ej
theorem ng {f:List Int->Int->List Int}(hf:∀ p n,(f p n).length=p.length):∀(ps:List (List Int))(ws:List Int)(i:Nat),ps.length<=ws.length->((List.zipWith f ps ws).take i).flatten.length=(ps.take i).flatten.length
 | [],ws,i,_=>by simp
 | p::ps,[],i,h=>by simp at h
 | p::ps,n::ws,0,_=>by simp
 | p::ps,n::ws,i+1,h=>by
  have ih:=ng hf ps ws i (by simpa using h)
  rw [List.zipWith_cons_cons,List.take_succ_cons,List.take_succ_cons,ū,ū,Í,Í,hf,ih]
theorem A5 {os:List (Int × Bool)}(hk:k<4)(l:B.length<=ws.length)(e:B[i]?=some b)(ec:ws[i]?=some c)(ev:(ig k (aU os b.2))[m]?=some v):(iZ k ws (B.map (·.2)) os)[cT B i+m]?=some (c*v):=by
 have hf:∀(p:List Int)(n:Int),((ig k (aU os p)).map (n * ·)).length=p.length:=λ p n=>by rw [Â,gs hk,cC]
 have zl:=ng hf (B.map (·.2)) ws i (by rw [Â];exact l)
 have eo:cT B i=(List.take i (List.zipWith (λ (p:List Int)(n:Int)=>(ig k (aU os p)).map (n * ·)) (B.map (·.2)) ws)).flatten.length:=by
  rw [zl,<- P2];rfl
 rw [eo];refine uF ?_ (by rw [Ç,ev];rfl)
 rw [x_,Ç,e,ec];rfl
theorem vj {B:List Bk}{os:List (Int × Bool)}(hk:k<4)(l:B.length<=ws.length):(iZ k ws (B.map (·.2)) os).length=(B.map (·.2)).flatten.length:=by
 have hf:∀(p:List Int)(n:Int),((ig k (aU os p)).map (n * ·)).length=p.length:=λ p n=>by rw [Â,gs hk,cC]
 have zl:=ng hf (B.map (·.2)) ws B.length (by rw [Â];exact l)
 have l1:(List.zipWith (λ (p:List Int)(n:Int)=>(ig k (aU os p)).map (n * ·)) (B.map (·.2)) ws).length=B.length:=by rw [List.length_zipWith,Â];omega
 conv at zl=>lhs;rw [<- l1,Ú]
 rw [ũ (by rw [Â];exact Ê _)] at zl
 exact zl
def ν (vs:List Int)(n:Nat)(ì:List (Key × V)):Prop:=ì.length<=n/\∀ j:Nat,j<n->dZ ì (.inl (j:Int))=some (.int (vs.getD j 0))
theorem ν.nil:ν vs 0 []:=⟨Ê _,λ j h=>absurd h (ė _)⟩
theorem ν.put (h:ν vs n ì)(e:vs[n]?=some v):ν vs (n+1) (dm ì (.inl ((n:Nat):Int)) (.int v)):=by
 refine⟨õ (c7 ì _ _) (Nat.succ_le_succ h.1),λ j hj=>?_⟩;rw [cA];by_cases ej:j=n
 ·subst ej;rw [Ø rfl,ø,e];rfl
 ·rw [Ï (λ z=>ej (by have:=Key.inl.inj z;omega))]
  exact h.2 j ai
section
variable {P:Program}{w:World}{K:Frag}{mg:bC}{base:Heap}{De:bX}{u:TS}{H:Hp}{a D F W:Addr}{xs zs:List V}{os:List (Int × Bool)}{B:List Bk}{o0 o1 o2 o3 o4 o5 o6 o7 o8 o9:Option V}{ì:List (Key × V)}{k i:Nat}{ws:List Int}{b:Bk}{z:V}{c:Int}
theorem zu (hk:k<4)(xb:Ext Hb H)(nF:Hb F=none)(hF:H F=some (.dK ì))(good:ν (iZ k ws (B.map (·.2)) os) (cT B i) ì)(e:B[i]?=some b)(rz:Ĝ Hb z (gV b))(fl:(B.map (·.2)).flatten=c5 0 os.length)(lo:os.length<=20)(lb:b.2.length<=20)(l:B.length<=ws.length)(ev:k=3->b.2.length%2=0)
  (ha:Hb a=some (.lst xs))(oc:Μ Hb xs os)(hW:Hb W=some (.lst (ws.map V.int)))(hw:∀ n∈ws,0<=n/\n<=20)
  (q:∀ ì o8 o9 H',Ext Hb H'->H' F=some (.dK ì)->ν (iZ k ws (B.map (·.2)) os) (cT B (i+1)) ì->De.nx [some (.str (aA k)),o1,some (.ref a),some (.ref W),some (.ref F),some (.int (i:Nat)),some z,o7,o8,o9] H') :
  sw K De [some (.str (aA k)),o1,some (.ref a),some (.ref W),some (.ref F),some (.int (i:Nat)),some z,o7,o8,o9] H:=by
 have sz:=Ö;have hP:=qB fl e lb;have li:i<ws.length:=by have:=(Å.mp e).1;omega
 have ec:=Á li;have hc:=hw _ (č li);generalize ws[i]=c at ec hc;refine⟨_,rfl,_,rfl,cL,λ L hL=>?_⟩;have x1:=Ext.new (o:=.lst [z]) hL;have g1:ad H L (.lst [z]) L=some (.lst [z]):=aM;have Wy:=x1 _ _ hF;generalize ad H L (.lst [z])=H1 at x1 g1 Wy ⊢;have NE:=xb.trans x1;obtain⟨wd,p⟩:=b;refine⟨_,rfl,k,L,z,wd,p,a,xs,os,hk,rfl,g1,rz.mono NE,hP,NE _ _ ha,oc.Nu NE,ev,λ d H2 x2 nd hd=>?_⟩;have Wx:=x2 _ _ Wy;have dF:d≠F:=λ z=>by rw [z,Wy] at nd;cases nd
 refine⟨d,_,rfl,(by exact True.intro),.inl hd,λ ob H3 fz=>?_⟩
 obtain⟨R1,same⟩:=fz;have Ux:H3 F=some (.dK ì):=by rw [same F (Ne.symm dF)];exact Wx
 have xb2:=NE.trans x2;have nd0:Hb d=none:=by
  cases e:Hb d with
  | none=>rfl
  | some o=>rw [NE _ _ e] at nd;cases nd
 have xb3:Ext Hb H3:=λ y o ey=>by rw [same y (λ z=>by rw [z,nd0] at ey;cases ey)];exact xb2 _ _ ey
 have lv:(ig k (aU os p)).length=p.length:=by rw [gs hk,cC]
 have lk:(kI p (ig k (aU os p)) p.length).length=p.length:=by
  unfold kI;rw [Â,Op,Ā,Ā,lv];omega
 have ole:cT B i+p.length<=os.length:=ju fl e;refine xC (d:=d) (ob:=ob) (u:=.dK (kI p (ig k (aU os p)) p.length)) (λ m σ H'=>∃ ì o8 o9,σ=[some (.str (aA k)),o1,some (.ref a),some (.ref W),some (.ref F),some (.int (i:Nat)),some z,o7,o8,o9]/\Ext Hb H'/\H' d=some (.υ ob (.dK (kI p (ig k (aU os p)) p.length)))/\H' F=some (.dK ì)/\ν (iZ k ws (B.map (·.2)) os) (cT B i+m) ì) ⟨ì,_,_,rfl,xb3,R1,Ux,good⟩ ?_ ?_ ?_
 ·rintro m σ H' ⟨_,_,_,_,_,h,_⟩;exact h
 ·rintro m σ H' t kx v hm ⟨ì,o8,o9,rfl,x',NU,Wz,gd⟩ ht pr;have hm:m<p.length:=by rw [<- lk];exact hm
  have hmv:m<(ig k (aU os p)).length:=by rw [lv];exact hm
  have ep:=iL fl e hm;have es:=Á hmv;generalize (ig k (aU os p))[m]=sv at es;obtain⟨rfl,rfl⟩:kx=.int ((cT B i+m:Nat):Int)/\v=.int sv:=by
   rcases pr with⟨VP,kk,eu,e1,rfl⟩ | ⟨VP,kk,b',eu,_⟩
   ·cases eu;unfold kI at e1;rw [ũ (Ê _),ũ (by rw [lv];exact Ê _),Ç,List.getElem?_zip_eq_some (z:=(((cT B i+m:Nat):Int),sv)) |>.mpr ⟨ep,es⟩] at e1
    cases e1;exact⟨rfl,rfl⟩
   ·cases eu
  have xt:=Ext.new (o:=.tup [V.int ((cT B i+m:Nat):Int),.int sv]) ht;have gt:ad H' t (.tup [V.int ((cT B i+m:Nat):Int),.int sv]) t=some (.tup [V.int ((cT B i+m:Nat):Int),.int sv]):=aM;generalize ad H' t (.tup [.int ((cT B i+m:Nat):Int),.int sv])=H4 at xt gt ⊢;have x4:=x'.trans xt;refine⟨t,_,rfl,đ.of gt,rfl,_,_,rfl,_,_,rfl,rfl,?_⟩;have gl:=gd.1;have atw:rJ (ws.map V.int) ((i:Nat):Int)=some (.int c):=dh (by rw [Ç,ec];rfl)
  refine⟨_,rfl,_,rfl,W,_,_,_,rfl,rfl,ç.of (x4 _ _ hW),atw,_,rfl,c,sv,rfl,rfl,.inl (by constructor <;> omega),?_⟩
  refine⟨_,rfl,_,rfl,F,_,rfl,.inl ⟨ì,.inl ((cT B i+m:Nat):Int),xt _ _ Wz,rfl,ai,rfl⟩,?_⟩;refine⟨_,_,_,rfl,aI _ x4 nF,?_,aM,gd.put (A5 hk l e ec es)⟩;rw [af dF];exact xt _ _ NU
 ·rintro σ H' ⟨ì,o8,o9,rfl,x',NU,Wz,gd⟩;refine q ì _ _ H' x' Wz ?_;rw [iX e];rw [show iN (.dK (kI p (ig k (aU os p)) p.length))=p.length from lk] at gd;exact gd
end
theorem mV {os:List (Int × Bool)}(fl:(B.map (·.2)).flatten=c5 0 os.length)(e:B[i]?=some b)(hm:m<b.2.length):(aU os b.2)[m]?=os[cT B i+m]?:=by
 have le:=ju fl e;have l2:cT B i+m<os.length:=ai;unfold aU;rw [Ç,iL fl e hm];show some (os.getD (cT B i+m) (0,false))=_;rw [ø,Á l2];rfl
theorem qK (s:σ[i]?=some (some v))(q:Q (!decide (v=.Ċ)) H):tB (aQ Aa (ag i) (tC .Ċ)) σ H Q:=⟨_,s,rfl,_,rfl,q⟩
structure M7 (k:Nat)(B:List Bk)(os:List (Int × Bool))(i:Nat):Prop where
 pr:k=3->∀(j:Nat) b,j<i->(B.map lH)[j]?=some b->b=true
 su:k<2->∀(j:Nat) b,j<cT B i->(os.map (·.2))[j]?=some b->b=true
theorem M7.zero {os:List (Int × Bool)}:M7 k B os 0:=⟨λ _ j b h=>absurd h (ė _),λ _ j b h=>absurd h (ė _)⟩
theorem M7.step {os:List (Int × Bool)}(h:M7 k B os i)(hk:k<4)(fl:(B.map (·.2)).flatten=c5 0 os.length)(e:B[i]?=some (wd,p))(al:(iF k wd p os).all id=true):M7 k B os (i+1):=by
 have al:=ú.mp al;refine⟨λ z j b hj eb=>?_,λ z j b hj eb=>?_⟩
 ·rcases Č j i with lt | ge
  ·exact h.pr z j b lt eb
  ·have:j=i:=ai;subst this;rw [Ç,e] at eb;cases eb;have:=al (lH (wd,p)) (by unfold iF;rw [Ø z];exact ä.mpr rfl)
   exact this
 ·rcases Č j (cT B i) with lt | ge
  ·exact h.su z j b lt eb
  ·rw [iX e] at hj;obtain⟨m,rfl⟩:=Qt ge;have hm:m<p.length:=by have hj':cT B i+m<cT B i+p.length:=hj;omega
   have es:=mV fl e hm;rw [Ç,<- es,<- Ç] at eb;have:=al b (by unfold iF;rw [Ï ai,Ï ai];exact å eb)
   exact this
theorem M7.first {os:List (Int × Bool)}(h:M7 k B os i)(hk:k<4)(fl:(B.map (·.2)).flatten=c5 0 os.length)(e:B[i]?=some (wd,p))(fi:bQ (iF k wd p os) j) :
  (k=3/\bQ (lQ k B os) i)\/(k<2/\bQ (lQ k B os) (cT B i+j)/\tJ k p j=((cT B i+j:Nat):Int)):=by
 by_cases e3:k=3
 ·refine .inl ⟨e3,?_⟩;unfold iF at fi;rw [Ø e3] at fi;have j0:j=0:=by have:=(Å.mp fi.2).1;simp at this;exact this
  subst j0;unfold lQ;rw [Ø e3];refine⟨h.pr e3,?_⟩;rw [Ç,e];exact fi.2
 ·by_cases e2:k=2
  ·exfalso;unfold iF at fi;rw [Ï e3,Ø e2] at fi;have:=(Å.mp fi.2).1;simp at this
  ·have k2:k<2:=ai;unfold iF at fi;rw [Ï e3,Ï e2] at fi;have hj:j<p.length:=by have:=(Å.mp fi.2).1;rw [Â,cC] at this;exact this
   refine .inr ⟨k2,?_,?_⟩
   ·unfold lQ;rw [Ï e3,Ï e2];refine⟨λ j' b hj' eb=>?_,?_⟩
    ·rcases Č j' (cT B i) with lt | ge
     ·exact h.su k2 j' b lt eb
     ·obtain⟨m,rfl⟩:=Qt ge;have hm:m<j:=ai;have es:=mV fl e (show m<p.length by omega)
      rw [Ç,<- es,<- Ç] at eb;exact fi.1 m b hm eb
    ·have es:=mV fl e hj;rw [Ç,<- es,<- Ç];exact fi.2
   ·unfold tJ;rw [Ï e3,ø,iL fl e hj];rfl
section
variable {P:Program}{w:World}{K:Frag}{mg:bC}{base:Heap}{f a1 a2:Addr}{fd d1 d2:FuncData}
def zr:Sp:=λ vs H Q _=>∃(k:Nat)(D:Addr)(zs:List V)(B:List Bk)(a:Addr)(xs:List V)(os:List (Int × Bool))(W:Addr)(ws:List Int),k<4/\vs=[.str (aA k),.ref D,.ref a,.ref W]/\H D=some (.lst zs)/\Ù H zs (B.map gV)/\(∀ b∈B,b.2.length<=20)/\(B.map (·.2)).flatten=c5 0 os.length/\H a=some (.lst xs)/\Μ H xs os/\os.length<=20/\H W=some (.lst (ws.map V.int))/\(∀ n∈ws,0<=n/\n<=20)/\ws.length<=6 /\
 (ws.length<B.length->∀ c H',Ext H H'->H c=none->H' c=some (.tup [.str "weights",.ref W])->Q (.ref c) H') /\
 (B.length<=ws.length->((lQ k B os).all id=true->∀ c l H',Ext H H'->H c=none->H l=none->H' c=some (.tup [.str "scores",.ref l])->H' l=some (.lst ((iZ k ws (B.map (·.2)) os).map V.int))->Q (.ref c) H') /\
  ∀ i,bQ (lQ k B os) i->∀ c H',Ext H H'->H c=none->H' c=some (.tup [.str (kh k),.int (i:Nat)])->Q (.ref c) H')
theorem DY (F:Ī K "_law_due" "_law_due" xO f fd)(A1:Df P w K mg base aB 1 "_law_refused_by" ["_law_word","_law_blocks","_law_outcomes_here"] qx a1 d1)(A2:Df P w K mg base aB 2 "_law_scores" ["_law_word","_law_blocks","_law_outcomes_here"] qA a2 d2)(me:mg "enumerate" = none)(mn:mg "len" = none)(mr:mg "range" = none):à P w K mg base aB 3 f fd ["_law_word","_law_blocks","_law_outcomes_here","_law_weights"] zr:=by
 refine bO F Sy λ cdv A outer s H vs Q E hr h=>?_;obtain⟨k,D,zs,B,a,xs,os,W,ws,hk,rfl,hD,ra,lB,fl,ha,oc,lo,hW,hw,l6,q1,q2⟩:=h;refine il (yY A1 A2 me mn mr hr) ⟨?_⟩;have sz:=Ö;have lz:=ra.length;rw [Â] at lz;have fresh:∀{H1:Hp}{c:Addr},Ext H H1->H1 c=none->H c=none:=λ {H1 c} x n=>by
  cases e:H c with
  | none=>rfl
  | some o=>rw [x _ _ e] at n;cases n
 refine⟨_,rfl,W,_,rfl,.inl (ç.of hW),_,rfl,D,_,rfl,.inl (ç.of hD),_,_,rfl,rfl,_,rfl,?_⟩;refine jP (λ c=>?_) (λ c=>?_)
 ·have c':=Ĉ c;rw [Â] at c';refine⟨_,rfl,cL,λ t ht=>?_⟩;exact q1 ai t _ (Ext.new ht) ht aM
 have le:B.length<=ws.length:=by
  have c':¬ (((ws.map V.int).length:Int)<(zs.length:Int)):=λ z=>c (Ë z);rw [Â] at c';omega
 obtain⟨qa,qb⟩:=q2 le;refine aY (te:=jL) (i:=4) λ Fd X9=>?_;have x1:=Ext.new (o:=.dK []) X9;have g1:ad H Fd (.dK []) Fd=some (.dK []):=aM;show aO (Gp K) (BB K) _ [some (.str (aA k)),some (.ref D),some (.ref a),some (.ref W),some (.ref Fd),none,none,none,none,none] (ad H Fd (.dK []));generalize ad H Fd (.dK [])=H1 at x1 g1 ⊢;refine⟨_,rfl,D,rfl,⟨_,ç.of (x1 _ _ hD)⟩,fE (xs:=zs) (λ i σ H'=>∃ ì o5 o6 o7 o8 o9,σ=[some (.str (aA k)),some (.ref D),some (.ref a),some (.ref W),some (.ref Fd),o5,o6,o7,o8,o9]/\Ext H H'/\H' Fd=some (.dK ì)/\ν (iZ k ws (B.map (·.2)) os) (cT B i) ì/\M7 k B os i) ⟨[],_,_,_,_,_,rfl,x1,g1,ν.nil,M7.zero⟩ ?_ ?_ ?_⟩
 ·rintro i σ H' _ ⟨_,_,_,_,_,_,rfl,x',_⟩;exact ç.of (x' _ _ hD)
 ·rintro i z σ H' t ez ⟨ì,o5,o6,o7,o8,o9,rfl,x',hF,gd,ok⟩ ht;obtain⟨dd,ed,rd⟩:=ra.get ez;rw [Ç] at ed;obtain⟨⟨wd,p⟩,ebk,rfl⟩:=Ð.mp ed;have lb:=lB _ (å ebk);have hP:=qB fl ebk lb;have xt:=Ext.new (o:=.tup [.int (i:Nat),z]) ht;have gt:ad H' t (.tup [.int (i:Nat),z]) t=some (.tup [.int (i:Nat),z]):=aM;generalize ad H' t (.tup [.int (i:Nat),z])=H2 at xt gt ⊢;refine⟨t,_,rfl,đ.of gt,rfl,_,_,rfl,_,_,rfl,rfl,?_⟩;show aO EY _ _ [some (.str (aA k)),some (.ref D),some (.ref a),some (.ref W),some (.ref Fd),some (.int (i:Nat)),some z,o7,o8,o9] H2;have x2:=x'.trans xt;have Wx:=xt _ _ hF;refine⟨_,rfl,_,rfl,cL,λ L hL=>?_⟩;have x3:=Ext.new (o:=.lst [z]) hL;have g3:ad H2 L (.lst [z]) L=some (.lst [z]):=aM;have Ux:=x3 _ _ Wx;generalize ad H2 L (.lst [z])=H3 at x3 g3 Ux ⊢;have O4:=x2.trans x3;refine⟨_,rfl,k,L,z,wd,p,a,xs,os,hk,rfl,g3,rd.mono O4,hP,O4 _ _ ha,oc.Nu O4,λ al H4 x4=>?_,λ j fi c H4 x4 nc hc=>?_⟩
  ·have R9:=O4.trans x4;show aO (AD K) (aO tG (sw K)) _ [some (.str (aA k)),some (.ref D),some (.ref a),some (.ref W),some (.ref Fd),some (.int (i:Nat)),some z,some .Ċ,o8,o9] H4;refine qK (i:=7) rfl ?_;refine bZ (bZ ?_);show aO tG (sw K) _ [some (.str (aA k)),some (.ref D),some (.ref a),some (.ref W),some (.ref Fd),some (.int (i:Nat)),some z,some .Ċ,o8,o9] H4;refine qK (i:=7) rfl ?_;refine bZ ?_;refine zu hk R9 X9 (x4 _ _ Ux) gd ebk rd fl lo lb le (λ e3=>?_) ha oc hW hw λ ì o8 o9 H5 x5 hF5 gd5=>⟨ì,_,_,_,_,_,rfl,x5,hF5,gd5,ok.step hk fl ebk al⟩;have b1:=ú.mp al (lH (wd,p)) (by unfold iF;rw [Ø e3];exact ä.mpr rfl)
   unfold lH at b1;exact Ĉ (Bool.and_eq_true_iff.mp b1).2
  ·have R9:=O4.trans x4;show aO (AD K) (aO tG (sw K)) _ [some (.str (aA k)),some (.ref D),some (.ref a),some (.ref W),some (.ref Fd),some (.int (i:Nat)),some z,some (.ref c),o8,o9] H4;refine qK (i:=7) rfl ?_;refine cy ?_;refine⟨_,rfl,c,_,_,_,rfl,rfl,đ.of hc,dh (j:=0) rfl,rfl,_,rfl,?_⟩;rcases ok.first hk fl ebk fi with⟨e3,ff⟩ | ⟨k2,ff,ee⟩
   ·subst e3;refine cy ⟨_,rfl,cL,λ c2 XZ=>?_⟩;exact qb i ff c2 _ (R9.trans (Ext.new XZ)) (fresh R9 XZ) aM
   ·have e0:kh k = "sure" := by unfold kh;rw [Ï ai]
    rw [e0] at hc ⊢;rw [È (λ z=>absurd (V.str.inj z) (by decide +kernel:(("sure" : String):Str)≠(("pairs" : String):Str)))]
    refine bZ ?_;show aO tG (sw K) _ [some (.str (aA k)),some (.ref D),some (.ref a),some (.ref W),some (.ref Fd),some (.int (i:Nat)),some z,some (.ref c),o8,o9] H4;refine qK (i:=7) rfl ?_;refine cy ⟨_,rfl,?_⟩;refine qb _ ff c H4 R9 (fresh O4 nc) ?_;rw [hc,e0,ee]
 ·rintro σ H' ⟨ì,o5,o6,o7,o8,o9,rfl,x',hF,gd,ok⟩;rw [lz] at gd ok;have eo:cT B B.length=os.length:=by
   unfold cT;rw [Ú,fl,dQ]
  rw [eo] at gd;have lw:(iZ k ws (B.map (·.2)) os).length=os.length:=by rw [vj hk le,fl,dQ]
  show BB K _ [some (.str (aA k)),some (.ref D),some (.ref a),some (.ref W),some (.ref Fd),o5,o6,o7,o8,o9] H';have al:(lQ k B os).all id=true:=by
   unfold lQ;by_cases e3:k=3
   ·rw [Ø e3,ú];intro b hb;obtain⟨j,hj,e⟩:=ü hb;exact ok.pr e3 j b (by rw [Â] at hj;exact hj) (by rw [Á hj,e])
   ·rw [Ï e3];by_cases e2:k=2
    ·rw [Ø e2];rfl
    ·rw [Ï e2,ú];intro b hb;obtain⟨j,hj,e⟩:=ü hb;exact ok.su ai j b (by rw [eo];rw [Â] at hj;exact hj) (by rw [Á hj,e])
  have lx:=oc.1;generalize iZ k ws (B.map (·.2)) os=wv at qa gd lw;refine⟨_,rfl,a,xs,rfl,.inl (ç.of (x' _ _ ha)),(xs.length:Nat),rfl,ai,ai,λ D2 Ŧ=>?_⟩;rw [Ģ];refine i8 (lo:=0) (n:=xs.length) (cap:=[some (.ref Fd)]) (λ i ys H2=>Ext H' H2/\ys=(wv.take i).map V.int) ai ⟨Ext.new Ŧ,rfl⟩ ?_ ?_
  ·rintro i ys H2 hi ly Ġ ⟨x2,ey⟩ ι ŀ R kk;obtain⟨q0,rfl⟩:∃ o0,ι=[o0]:=by
    match ι,ŀ with
    | [o0],_=>exact⟨o0,rfl⟩
   have hv:=gd.2 i ai;refine⟨⟨[_],rfl,rfl⟩,_,rfl,_,rfl,Fd,_,rfl,.inl ⟨ì,.inl (0+(i:Int)),.inl (x2 _ _ hF),rfl,by rw [Ŕ];exact hv.symm⟩,?_⟩
   refine kk _ H2 Ġ ⟨aI _ x2 Ŧ,?_⟩;have li:i<wv.length:=ai;rw [aC (Á li),Ì,<- ey,ø,Á li];rfl
  ·rintro ys H2 ly Ġ ⟨x2,ey⟩;rw [lx,<- lw,Ú] at ey;rw [ey] at Ġ;refine⟨cL,λ t ht=>?_⟩;have x3:=Ext.new (o:=.tup [.str "scores",.ref D2]) ht;exact qa al t D2 _ ((x'.trans x2).trans x3) (fresh (x'.trans x2) ht) (fresh x' Ŧ) aM (x3 _ _ Ġ)
end
section
variable {P:Program}{w:World}{K:Frag}{mg:bC}{base:Heap}{C MC:Nat->Addr}{f S g:Addr}{fd gd:FuncData}
abbrev IE:Stmt:=cw 67
theorem II:ae ["_law_found"] ["_law_found"] (aa IE):=aR
def B9:Sp:=λ vs H Q _=>∃ n:Int,vs=[.int n]/\Q (.bl true) H
theorem GV (N:sP K)(F:Ī K "_law_whole" "_law_whole" IE f fd)(mi:mg "isinstance" = none)(m1:mg "int" = none)(m2:mg "bool" = none):à P w K mg base aB 1 f fd ["_law_found"] B9:=by
 refine bO F II λ cdv A outer s H vs Q E hr h=>?_;obtain⟨n,rfl,q⟩:=h;refine⟨_,aX (dk (fw (aj (cK N) rfl mi Û (ac (pv 0) (ac (gz rfl m1 ŉ) ao)))
  (fH (tL (aj (cK N) rfl mi Û (ac (pv 0) (ac (gz rfl m2 Ũ) ao))))))),?_⟩
 exact⟨_,rfl,_,_,_,_,rfl,.inl (.int n),G1,_,rfl,⟨_,rfl,_,_,_,_,rfl,.inl (.int n),CL,_,rfl,q⟩⟩
end
section
variable {P:Program}{w:World}{K:Frag}{mg:bC}{base:Heap}{C MC:Nat->Addr}{f S g:Addr}{fd gd:FuncData}
abbrev Bc:Stmt:=aG (cw 58) 1
theorem El:ae ["self"] ["self"] (aa Bc):=aR
end
theorem vb (fl:t.flat)(al:(oj t).all id=true):∀ p∈t.parts,p.length%2=0:=by
 intro p hp;obtain⟨i,hi,e⟩:=ü hp;have lb:=kB fl;have hb:i<t.base.length:=ai;have z:(oj t)[i]?=some (t.base[i].Qa&&decide (p.length%2=0)):=by
  unfold oj;rw [x_,Á hi,Á hb,e]
 have y:=ú.mp al _ (å z);exact Ĉ (Bool.and_eq_true_iff.mp y).2
theorem pJ {t:Rl}(ok:t.ok)(fl:t.flat):t.parts.flatten=c5 0 t.Ñ.toNat:=by
 obtain⟨ns,h1,e,es⟩:=hG ok fl;rw [e,iV ns 0 h1,es]
section
variable {P:Program}{w:World}{K:Frag}{mg:bC}{base:Heap}{C MC:Nat->Addr}{MS D CU CP CW CO CF f a1:Addr}{fd d1:FuncData}
def qV (MC:Nat->Addr):Sp:=λ vs H Q _=>∃ v k ws,vs=[v]/\Wm MC H k ws v/\Q (.str "weighted") H
theorem yW (Y:KW K MC MS)(F:Ī K "word" "Measure.word" Bc f fd):à P w K mg base aB 1 f fd ["self"] (qV MC):=by
 refine bO F El λ cdv A outer s H vs Q E hr h=>?_;obtain⟨v,k,ws,rfl,⟨a,dx,i,t,m,r,rfl,ha,me,ht,hm,Um⟩,q⟩:=h;exact⟨_,aX (dk (cS ia (oW (pv 0) rfl) aF)),_,rfl,a,_,dx,_,_,rfl,ha,Y.cls,Y.no _ av,rfl,m,_,_,_,rfl,rfl,đ.of hm,dh rfl,q⟩
def qz (MC:Nat->Addr):Sp:=λ vs H Q _=>∃ v k ws,vs=[v]/\Wm MC H k ws v/\∀ m r t,H m=some (.tup [.str "weighted",.ref r,.ref t])->H r=some (.tup [.str (aA k)])->H t=some (.tup (ws.map V.int))->Q (.ref m) H
theorem BL (Y:KW K MC MS)(F:Ī K "told" "Measure.told" vT f fd):à P w K mg base aB 1 f fd ["self"] (qz MC):=by
 refine bO F yb λ cdv A outer s H vs Q E hr h=>?_;obtain⟨v,k,ws,rfl,⟨a,dx,i,t,m,r,rfl,ha,me,ht,hm,Um⟩,q⟩:=h;exact⟨_,aX (dk (oW (pv 0) rfl)),_,rfl,a,_,dx,_,_,rfl,ha,Y.cls,Y.no _ av,rfl,q m r t hm Um ht⟩
structure zt (K:Frag)(mg:bC)(D CU CP CW CO CF:Addr):Prop where
 cU:gT K CU
 cP:gT K CP
 cW:gT K CW
 cO:gT K CO
 cF:gT K CF
 cD:gT K D
 fU:qt K CU "place"
 fP:qt K CP "block"
 fW:qt K CW "found"
 uu:mroIn K CU (.ref CU)=some true
 pu:mroIn K CP (.ref CU)=some false
 pp:mroIn K CP (.ref CP)=some true
 wu:mroIn K CW (.ref CU)=some false
 wp:mroIn K CW (.ref CP)=some false
 ww:mroIn K CW (.ref CW)=some true
 mU:mg "NotSure" = some (.ref CU)
 mP:mg "NoPairs" = some (.ref CP)
 mW:mg "NoWeights" = some (.ref CW)
 mO:mg "NoOutcome" = some (.ref CO)
 mF:mg "NoFolk" = some (.ref CF)
 mD:mg "DealError" = some (.ref D)
def FI (K:Frag)(z fld:Str):TS:=cR (dO (am (tC (.str z)) (am (ud K (ag 4) fld) aK))) (ba 3)
def LF:TS:=cR (dO (am (tC (.str "other")) (am (tC .Ċ) aK))) (ba 3)
abbrev DI:Stmt:=cw 77
abbrev KJ:List Str:=["_law_measure","_law_rule_here","_law_outcomes_here","_law_told_here","e"]
theorem Sl:ae KJ ["_law_measure","_law_rule_here","_law_outcomes_here"] (aa DI):=aR
structure L' (C MC:Nat->Addr)(H:Hp)(k:Nat)(ws:List Int)(v r:V)(t:Rl)(a:Addr)(xs:List V)(os:List (Int × Bool)):Prop where
 hk:k<4
 me:Wm MC H k ws v
 wk:zy ws
 ru:Ru C H t r
 ok:t.ok
 fl:t.flat
 ha:H a=some (.lst xs)
 oc:Μ H xs os
 bd:sW os
 fk:t.Ñ =(os.length:Nat)
theorem L'.lo {os:List (Int × Bool)}(h:L' C MC H k ws v r t a xs os):os.length<=20:=by
 have:=Rl.ď h.ok;have:=h.fk;omega
theorem L'.fla {os:List (Int × Bool)}(h:L' C MC H k ws v r t a xs os):t.parts.flatten=c5 0 os.length:=by
 rw [pJ h.ok h.fl,h.fk,Ģ]
theorem L'.go {os:List (Int × Bool)}(h:L' C MC H k ws v r t a xs os)(al:k=3->(oj t).all id=true):Km H k ws t a os:=by
 refine⟨⟨xs,h.ha,h.oc⟩,h.bd,h.lo,(Rl.sm h.ok).1,(Rl.sm h.ok).2,?_,λ p hp i hi=>?_,λ e=>vb h.fl (al e),h.wk⟩
 ·rw [h.fla,dQ];exact h.lo
 ·have m:=List.mem_flatten.mpr ⟨p,hp,hi⟩;rw [h.fla] at m;obtain⟨j,hj,e⟩:=ü m;rw [dQ] at hj;have z:=rE (s:=0) hj;rw [Á (by rw [dQ];exact hj),e] at z
  have z:=Õ z;omega
def tF (C MC:Nat->Addr):Sp:=λ vs H Q _=>∃ k ws v r t a xs os,vs=[v,r,.ref a]/\L' C MC H k ws v r t a xs os /\
 (ws.length<t.parts.length->∀ p l H',Ext H H'->H l=none->H' l=some (.lst (ws.map V.int))->H' p=some (.tup [.str "weights",.ref l])->Q (.ref p) H') /\
 (t.parts.length<=ws.length->((jy k t os).all id=true->∀ p l H',Ext H H'->H l=none->H' l=some (.lst ((iZ k ws t.parts os).map V.int))->H' p=some (.tup [.str "scores",.ref l])->Q (.ref p) H') /\
  ∀ i,bQ (jy k t os) i->∀ p H',Ext H H'->H' p=some (.tup [.str (kh k),.int (i:Nat)])->Q (.ref p) H')
def Pr (K:Frag)(D CU CP CW CO CF:Addr):TH:=DM K CU 4 (FI K "sure" "place") (DM K CP 4 (FI K "pairs" "block") (DM K CW 4 (FI K "weights" "found") (DM K CO 4 (FI K "outcome" "place") (DM K CF 4 (FI K "folk" "found") (KS K D LF Fk)))))
def Ew (C MC:Nat->Addr)(CU CP CW:Addr)(E:XK):TS:=cR (dO (am (tC (.str "scores")) (am (cr (λ c=>c=MC 4) "scores" (λ _=>iU C MC CU CP CW) E (ag 0) (am (ag 1) (am (ag 2) aK))) aK))) (ba 3)
variable {cdv:Value}{A:Around}{outer:List Env}{s:Shared}{H:Hp}{E:XK}
theorem CG (Z:zt K mg D CU CP CW CO CF)(M:bJ P w K mg base (cY P w) 9 "scores" ["self","rule","outcomes"] (λ c=>c=MC 4) (λ _=>iU C MC CU CP CW))(hr:pj 9 "_law_told" DI A s f cdv) :
  Bx (Ž (aW aB P w K mg base KJ "_law_told" (aa DI) f cdv A outer s H E).ŋ (aH DI) (aO (cR (tC .Ċ) (ba 3)) (aO (uA (Ew C MC CU CP CW) (Pr K D CU CP CW CO CF)) (cH (ag 3))))):=by
 have nd:=Sl.nd;exact dq (bq nd rfl (.inl rfl) ⟨hI⟩) (dq ⟨xu rfl rfl
   (λ σ E' pn xe hp=>v9 nd rfl (.inl rfl) (zR (oZ (xL ay) (oZ (uU (xL (pv 0)) M hr hp (tS (ac (pv 1) (ac (pv 2) ao)))) (tS ao)))))
   (kC nd rfl rfl Z.cU rfl Z.mU (λ x=>aX (gG nd rfl (.inl rfl) (aP (ac ay (ac (gF (pv 4) rfl) ao)))))
   (kC nd rfl rfl Z.cP rfl Z.mP (λ x=>aX (gG nd rfl (.inl rfl) (aP (ac ay (ac (gF (pv 4) rfl) ao)))))
   (kC nd rfl rfl Z.cW rfl Z.mW (λ x=>aX (gG nd rfl (.inl rfl) (aP (ac ay (ac (gF (pv 4) rfl) ao)))))
   (kC nd rfl rfl Z.cO rfl Z.mO (λ x=>aX (gG nd rfl (.inl rfl) (aP (ac ay (ac (gF (pv 4) rfl) ao)))))
   (kC nd rfl rfl Z.cF rfl Z.mF (λ x=>aX (gG nd rfl (.inl rfl) (aP (ac ay (ac (gF (pv 4) rfl) ao)))))
   (Dj Z.cD rfl Z.mD (λ x=>aX (gG nd rfl (.inl rfl) (aP (ac ay (ac hI ao))))) w9))))))⟩ (br ⟨dk (pv 3)⟩))
theorem Hi (h:cr (λ c=>c=MC 4) "scores" (λ _=>iU C MC CU CP CW) E (ag 0) (am (ag 1) (am (ag 2) aK)) σ H λ x H1=>2<=sizeLine/\∀ p,H1 p=none->De.nx (σ.set 3 (some (.ref p))) (ad H1 p (.tup [.str "scores",x]))):Ew C MC CU CP CW E De σ H:=h
theorem xJ (h:tb (uJ th De σ) De σ H):uA tb th De σ H:=h
theorem Gv (F:Ī K "_law_told" "_law_told" DI f fd)(Z:zt K mg D CU CP CW CO CF)(M:bJ P w K mg base (cY P w) 9 "scores" ["self","rule","outcomes"] (λ c=>c=MC 4) (λ _=>iU C MC CU CP CW)):à P w K mg base aB 10 f fd ["_law_measure","_law_rule_here","_law_outcomes_here"] (tF C MC):=by
 refine bO F Sl λ cdv A outer s H vs Q E hr h=>?_;obtain⟨k,ws,v,r,t,a,xs,os,rfl,pre,q0,q1⟩:=h;refine il (CG Z M hr) ⟨?_⟩;have hk:=pre.hk;refine aY (te:=tC .Ċ) (i:=3) (yK (xJ (Hi (gA av pre.me (λ R r=>⟨_,rfl,r⟩) ⟨_,rfl,_,rfl,?_⟩))));refine⟨k,ws,v,r,t,a,os,hk,rfl,pre.me,pre.ru,pre.fk,⟨xs,pre.ha,pre.oc⟩,pre.go,pre.bd,(Rl.sm pre.ok).1,(Rl.sm pre.ok).2,pre.wk.2.1,λ lt l H1 x1 nl hl=>?_,λ le=>⟨λ al l H1 x1 nl hl=>⟨cL,λ p hp=>?_⟩,λ i fi H1 x1=>?_⟩⟩
 ·refine qh λ e dx H2 x2 fe fd=>⟨e,CW,rfl,rfl,false,Z.wu,bZ ⟨false,Z.wp,bZ ⟨true,Z.ww,cy ⟨_,rfl,e,CW,dx,_,_,rfl,fe,fd,rfl,Z.fW.it,Z.fW.hd,Z.fW.nf,cL,λ p hp=>?_⟩⟩⟩⟩;exact⟨_,rfl,q0 lt p l _ ((x1.trans x2).trans (Ext.new hp)) nl ((x2.trans (.new hp)) _ _ hl) aM⟩
 ·have x2:=Ext.new (o:=.tup [.str "scores",.ref l]) hp;exact⟨_,rfl,(q1 le).1 al p l _ (x1.trans x2) nl (x2 _ _ hl) aM⟩
 ·have q:=(q1 le).2 i fi;unfold kh at q;unfold mJ nq;by_cases e3:k=3
  ·rw [Ø e3] at q ⊢;rw [Ø e3];refine qh λ e dx H2 x2 fe fd=>⟨e,CP,rfl,rfl,false,Z.pu,bZ ⟨true,Z.pp,cy ⟨_,rfl,e,CP,dx,_,_,rfl,fe,fd,rfl,Z.fP.it,Z.fP.hd,Z.fP.nf,cL,λ p hp=>?_⟩⟩⟩;exact⟨_,rfl,q p _ ((x1.trans x2).trans (.new hp)) aM⟩
  ·rw [Ï e3] at q ⊢;rw [Ï e3];refine qh λ e dx H2 x2 fe fd=>⟨e,CU,rfl,rfl,true,Z.uu,cy ⟨_,rfl,e,CU,dx,_,_,rfl,fe,fd,rfl,Z.fU.it,Z.fU.hd,Z.fU.nf,cL,λ p hp=>?_⟩⟩;exact⟨_,rfl,q p _ ((x1.trans x2).trans (.new hp)) aM⟩
end
def w3 (H:Hp)(p a c:Addr):Hp:=wo (wo (wo H p) a) c
theorem n9 (n1:b≠p)(n2:b≠a)(n3:b≠c)(e:H b=some o):w3 H p a c b=some o:=aJ n3 (aJ n2 (aJ n1 e))
theorem t9 (e:w3 H p a c b=some o):b≠p/\b≠a/\b≠c/\H b=some o:=by
 have h1:=ah _ _ _ _ e;have h2:=ah _ _ _ _ h1;exact⟨eL h2,eL h1,eL e,ah _ _ _ _ h2⟩
theorem qg (x:Ext (wo H p) (wo H' p)):Ext (w3 H p a c) (w3 H' p a c):=λ b o e=>by
 obtain⟨n1,n2,n3,h⟩:=t9 e;exact n9 n1 n2 n3 (ah _ _ _ _ (x _ _ (aJ n1 h)))
theorem BG:Ext (w3 H p a c) (w3 (ad H a o) p a c):=λ b u e=>by
 obtain⟨n1,n2,n3,h⟩:=t9 e;exact n9 n1 n2 n3 (by rw [af n2];exact h)
theorem AQ:Ext (w3 H p a c) (w3 (ad H c o) p a c):=λ b u e=>by
 obtain⟨n1,n2,n3,h⟩:=t9 e;exact n9 n1 n2 n3 (by rw [af n3];exact h)
theorem Ev:Ext (w3 H p a c) (wo H p):=(ah _ _).trans (ah _ _)
theorem tQ (b:Ľ H p)(x:Ext (wo H p) (wo H' p)):tT H H':=λ a o e n=>by
 obtain⟨_,_,_,hp,_⟩:=b.ex;exact ah _ _ _ _ (x _ _ (aJ (λ z=>by subst z;rw [hp] at e;cases e;exact n _ rfl) e))
structure OD (K:Frag)(C:Nat->Addr)(H0 H:Hp)(sA p:Addr)(ns:List Int)(sv bl:Addr)(n:Int)(rs:List R0):Prop where
 s0:Sc K H0 sA p ns
 sc:Sc K H sA p ns
 x:Ext (wo H0 p) (wo H p)
 hs:∃ ws,H sv=some (.lst ws)/\ε C H rs ws
 hb:∃ zs,H bl=some (.lst zs)/\Ù (w3 H p sv bl) zs ((gi rs).map gV)
 n1:sv≠p
 n2:bl≠p
 n3:sv≠bl
 z1:wo H0 p sv=none
 z2:wo H0 p bl=none
 ok:∀ r∈rs,r.ok
 sm:(rs.map R0.Ñ).sum<=n
 l6:rs.length<=6
 l5:(rs.map R0.Ñ).sum<n->rs.length<=5
section
variable {P:Program}{w:World}{K:Frag}{mg:bC}{base:Heap}{C:Nat->Addr}{CR CN CS CT CM:Addr}{De:bX}{H0 H H1:Hp}{sA p sv bl:Addr}{ns:List Int}{n size:Int}{rs:List R0}{o6:Option V}
theorem OD.go (h:OD K C H0 H sA p ns sv bl n rs)(sc:Sc K H1 sA p ns)(x1:Ext (wo H p) (wo H1 p)):OD K C H0 H1 sA p ns sv bl n rs:=by
 obtain⟨ws,hs,al⟩:=h.hs;obtain⟨zs,hb,ra⟩:=h.hb;exact⟨h.s0,sc,h.x.trans x1,⟨ws,ah _ _ _ _ (x1 _ _ (aJ h.n1 hs)),al.Ğ (tQ h.sc.bx x1)⟩,⟨zs,ah _ _ _ _ (x1 _ _ (aJ h.n2 hb)),ra.mono (qg x1)⟩,h.n1,h.n2,h.n3,h.z1,h.z2,h.ok,h.sm,h.l6,h.l5⟩
def mN (K:Frag)(i:Nat)(te:TE):TS:=f7 (rY K "list" gM (ag i) (am te aK))
def uk (z:Str):TE:=dO (am (tC (.str z)) (am (gQ uX (am (gQ ve (am (ag 5) (am (aQ (dR λ i j=>.int (i+j)) (ag 5) (ag 6)) aK))) aK)) aK))
theorem uP (h:OD K C H0 H sA p ns sv bl n rs)(le:(rs.map R0.Ñ).sum+size<=n)(NO:n<=20)(l5:rs.length<=5)(RW:rs.length=5->(rs.map R0.Ñ).sum+size=n)
  (ht:∀ R:VK,(∀ x r H1,r.word=z->r.Ñ = size->r.ok->Sc K H1 sA p ns->Ext (wo H p) (wo H1 p)->m_ C H1 r (.ref x)->R (.ref x) H1)->te [some (.ref sA),some (.ref p),some (.int n),some (.ref sv),some (.ref bl),some (.int (rs.map R0.Ñ).sum),some (.int size)] H R)
  (nx:∀ r H',r.Ñ = size->OD K C H0 H' sA p ns sv bl n (rs ++ [r])->De.nx [some (.ref sA),some (.ref p),some (.int n),some (.ref sv),some (.ref bl),some (.int (rs.map R0.Ñ).sum),some (.int size)] H') :
  aO (mN K 3 te) (mN K 4 (uk z)) De [some (.ref sA),some (.ref p),some (.int n),some (.ref sv),some (.ref bl),some (.int (rs.map R0.Ñ).sum),some (.int size)] H:=by
 have sz:=Ö;obtain⟨ws,hs,al⟩:=h.hs;obtain⟨zs,hb,ra⟩:=h.hb;have lw:=al.1;have lz:=ra.length;rw [Â,nM] at lz;have s0:0<=(rs.map R0.Ñ).sum:=cM λ m hm=>by
  obtain⟨r',Na,rfl⟩:=ð.mp hm;have:=R0.ď (h.ok r' Na);omega
 refine⟨_,rfl,.inl ⟨rfl,_,ç.of hs⟩,ht _ λ x r H1 ez Ym ok ŗ x1 ru=>?_⟩;subst ez;have es:=Ym.symm;have rf:=R0.ď ok;have p1:=h.go ŗ x1;have V6:H1 sv=some (.lst ws):=ah _ _ _ _ (x1 _ _ (aJ h.n1 hs));have hb1:H1 bl=some (.lst zs):=ah _ _ _ _ (x1 _ _ (aJ h.n2 hb));have al1:=al.Ğ (tQ h.sc.bx x1);refine⟨sv,ws,.ref x,rfl,rfl,V6,ai,?_⟩;have k2:=K2 (.lst (ws ++ [.ref x])) V6;have g2:ad H1 sv (.lst (ws ++ [.ref x])) sv=some (.lst (ws ++ [.ref x])):=aM;have Mf:ad H1 sv (.lst (ws ++ [.ref x])) bl=some (.lst zs):=by rw [af h.n3.symm];exact hb1
 have RM:=ŗ.bx.up (l:=sv) (o:=.lst (ws ++ [.ref x])) h.n1;have w2:Ext (w3 H p sv bl) (w3 (ad H1 sv (.lst (ws ++ [.ref x]))) p sv bl):=(qg x1).trans BG;have e2:Ext (wo H0 p) (wo (ad H1 sv (.lst (ws ++ [.ref x]))) p):=λ b o e=>by
  have nb:b≠sv:=λ z=>by rw [z,h.z1] at e;cases e
  exact aJ (eL e) (by rw [af nb];exact ah _ _ _ _ (p1.x _ _ e))
 have UC:ε C (ad H1 sv (.lst (ws ++ [.ref x]))) (rs ++ [r]) (ws ++ [.ref x]):=oY (al1.Ğ k2) (ru.Ğ k2);show mN K 4 (uk r.word) De _ (ad H1 sv (.lst (ws ++ [.ref x])));generalize ad H1 sv (.lst (ws ++ [.ref x]))=H2 at k2 g2 Mf RM w2 e2 UC ⊢;refine⟨_,rfl,.inl ⟨rfl,_,ç.of Mf⟩,_,rfl,_,rfl,_,rfl,_,_,rfl,rfl,_,_,rfl,λ rg V7=>?_⟩;have x3:=Ext.new (o:=.Mc (rs.map R0.Ñ).sum ((rs.map R0.Ñ).sum+size)) V7;have g3:ad H2 rg (.Mc (rs.map R0.Ñ).sum ((rs.map R0.Ñ).sum+size)) rg=some (.Mc (rs.map R0.Ñ).sum ((rs.map R0.Ñ).sum+size)):=aM;generalize ad H2 rg (.Mc (rs.map R0.Ñ).sum ((rs.map R0.Ñ).sum+size))=H3 at x3 g3 ⊢;refine⟨rg,_,_,rfl,g3,ai,ai,λ pl ź=>?_⟩;have ef:((rs.map R0.Ñ).sum+size-(rs.map R0.Ñ).sum).toNat=r.Ñ.toNat:=by congr 1;omega
 rw [ef,mh];have x4:=Ext.new (o:=.lst ((c5 (rs.map R0.Ñ).sum r.Ñ.toNat).map V.int)) ź;have g4:ad H3 pl (.lst ((c5 (rs.map R0.Ñ).sum r.Ñ.toNat).map V.int)) pl=some (.lst ((c5 (rs.map R0.Ñ).sum r.Ñ.toNat).map V.int)):=aM;have m1:pl≠p:=(RM.ext x3).ne ź;have m2:pl≠sv:=λ e=>by rw [e,x3 _ _ g2] at ź;cases ź
 have m3:pl≠bl:=λ e=>by rw [e,x3 _ _ Mf] at ź;cases ź
 generalize ad H3 pl (.lst ((c5 (rs.map R0.Ñ).sum r.Ñ.toNat).map V.int))=H4 at x4 g4 ⊢;have P3:=x3.trans x4;refine⟨cL,λ t QS=>?_⟩;have x5:=Ext.new (o:=.tup [.str r.word,.ref pl]) QS;have g5:ad H4 t (.tup [.str r.word,.ref pl]) t=some (.tup [.str r.word,.ref pl]):=aM;have t1:=(RM.ext P3).ne QS;have t2:t≠sv:=λ e=>by rw [e,P3 _ _ g2] at QS;cases QS
 have t3:t≠bl:=λ e=>by rw [e,P3 _ _ Mf] at QS;cases QS
 have Yg:=x5 _ _ g4;generalize ad H4 t (.tup [.str r.word,.ref pl])=H5 at x5 g5 Yg ⊢;have OH:=P3.trans x5;have Uv:=OH _ _ Mf;refine⟨bl,zs,.ref t,rfl,rfl,Uv,ai,nx r _ Ym ?_⟩;have e6:Ext (wo H0 p) (wo (ad H5 bl (.lst (zs ++ [.ref t]))) p):=λ b o e=>by
  have nb:b≠bl:=λ z=>by rw [z,h.z2] at e;cases e
  exact aJ (eL e) (by rw [af nb];exact ah _ _ _ _ ((bn OH p) _ _ (e2 _ _ e)))
 have RJ:((rs ++ [r]).map R0.Ñ).sum=(rs.map R0.Ñ).sum+size:=by rw [Ì,ś,es];simp
 refine⟨h.s0,h.s0.RU e6 ((RM.ext OH).up h.n2),e6,⟨ws ++ [.ref x],by rw [af h.n3];exact OH _ _ g2,(UC.ext OH).Ğ (K2 _ Uv)⟩,⟨zs ++ [.ref t],aM,?_⟩,h.n1,h.n2,h.n3,h.z1,h.z2,λ r' Na=>?_,by rw [RJ];exact le,by rw [Í];show rs.length+1<=6;omega,λ lt=>?_⟩
 ·rw [nY,Ì];refine(((ra.mono w2).mono (qg (bn OH p))).append (.cons ?_ .nil)).mono AQ;exact oC (n9 t1 t2 t3 g5) (n9 m1 m2 m3 Yg)
 ·rcases ģ.mp Na with h' | h'
  ·exact h.ok r' h'
  ·rw [ä.mp h'];exact ok
 ·rw [RJ] at lt;rw [Í];show rs.length+1<=5;by_cases e5:rs.length=5
  ·have:=RW e5;omega
  ·omega
end
section
variable {P:Program}{w:World}{K:Frag}{mg:bC}{base:Heap}{C:Nat->Addr}{CR CN CS CT CM f f0 f1 f2 f3 f4 a1:Addr}{fd e0 e1 e2 e3 e4 d1:FuncData}
abbrev yc:Stmt:=cw 78
abbrev HW (i:Nat):Stmt:=(aH yc).getD i (.Pass ⟨0,0,0,0⟩)
abbrev HV:List Str:=["_law_script","_law_pen","_law_folk_here","_law_several","_law_blocks","_law_ahead","_law_size"]
theorem Rg:ae HV ["_law_script","_law_pen","_law_folk_here"] (aa yc):=aR
def Cc:TE:=aQ (dR λ i j=>.int (i-j)) (ag 2) (ag 5)
def Hj (K:Frag):TS:=cR (kJ (gk K Cc)) (ba 6)
def Fo (K:Frag):TS:=dA (tB (aQ nA (jS K 3) (tC (.int 5)))) (cR Cc (ba 6)) bV
def F3 (C:Nat->Addr)(CN CS:Addr):TE:=dD (C 1) (kS C CN CS) [] E0 (am (aQ (rI kO λ i j=>.int (i/j)) (ag 6) (tC (.int 2))) (am (mw 1 2) aK))
def Av (K:Frag)(C:Nat->Addr)(CN:Addr):TE:=dD (C 0) (oF C CN) [] E0 (am (ag 6) (am (gk K (aQ (dR λ i j=>.int (i+j)) (ag 6) (tC (.int 1)))) aK))
def IF (K:Frag):TT:=nI (tB (aQ nA (aQ (rI (λ _ j=>0<j) λ i j=>.int (i%j)) (ag 6) (tC (.int 2))) (tC (.int 0)))) (tB (aQ nA (gk K (tC (.int 2))) (tC (.int 0))))
def vQ (K:Frag)(C:Nat->Addr)(CN CS:Addr):TS:=dA (IF K) (aO (mN K 3 (F3 C CN CS)) (mN K 4 (uk "pairs"))) (aO (mN K 3 (Av K C CN)) (mN K 4 (uk "split")))
def Al:TS:=cR (aQ (dR λ i j=>.int (i+j)) (ag 5) (ag 6)) (ba 5)
def A4 (K:Frag)(C:Nat->Addr)(CN CS:Addr):TS:=qf (tB (aQ (dR λ i j=>.bl (decide (i<j))) (ag 5) (ag 2))) (aO (Hj K) (aO (Fo K) (aO (vQ K C CN CS) Al)))
def GK (K:Frag)(C:Nat->Addr)(CT CM:Addr):TS:=cH (dO (am (dD (C 3) (ko K C CT CM) [] E0 (am (ag 3) aK)) (am (ag 4) aK)))
def Ll (K:Frag)(C:Nat->Addr)(CN CS CT CM:Addr):TS:=aO (cR (cg aK) (ba 3)) (aO (cR (cg aK) (ba 4)) (aO (cR (tC (.int 0)) (ba 5)) (aO (A4 K C CN CS) (GK K C CT CM))))
section
variable {cdv:Value}{A:Around}{outer:List Env}{s:Shared}{H:Hp}{E:XK}(L:Aq P w K mg base C CN CS CT CM f0 f1 f2 f3 f4 e0 e1 e2 e3 e4)(A1:Df P w K mg base aB 1 "_law_take" ["_law_script","_law_pen","_law_many"] (dH K) a1 d1)(hr:pj 7 "_law_parted" yc A s f cdv)
include L A1 hr
theorem JZ (mn:mg "len" = none)(ml:mg "list" = none)(mr:mg "range" = none):Bx (PS (aW aB P w K mg base HV "_law_parted" (aa yc) f cdv A outer s H E).ŋ (HW 3) (A4 K C CN CS)):=by
 have nd:=Rg.nd;have ĭ:ă 1 _:=hr.mono au;have Pl:ă 5 _:=hr.mono au;exact⟨j6 .never (ar nX (pv 5) (pv 2) (ax _))
  (bU (gG nd rfl (.inl rfl) (aE bw aF (cZ A1 ĭ ak (ac (pv 0) (ac (pv 1) (ac (aE ib (pv 2) (pv 5)) ao))))))
  (bU (be (ar cj (aj az rfl mn ê (ac (pv 3) ao)) aF (ax _)) (aX (gG nd rfl (.inl rfl) (aE ib (pv 2) (pv 5)))) f6)
  (bU (be (PW.pt (gv (ar cj (aE c6 (pv 6) aF) aF (ax _)) (fh (ar cj (cZ A1 ĭ ak (ac (pv 0) (ac (pv 1) (ac aF ao)))) aF (ax _)))))
   (bU (aw (eG Ü Ć ą bH (pv 3) (ac (eR L.k1 L.g1 hr rfl L.m1 L.b1 .nil gy (ac (aE fY (pv 6) aF) (ac (aP (ac aF (ac aF ao))) ao))) ao)))
   (aX (aw (eG Ü Ć ą bH (pv 4) (ac (aP (ac ay (ac (aN (iJ rfl) rfl ml Ă (ac (aN gN rfl mr ĸ (ac (pv 5) (ac (aE bw (pv 5) (pv 6)) ao))) ao)) ao))) ao)))))
   (bU (aw (eG Ü Ć ą bH (pv 3) (ac (eR L.k0 L.g0 Pl rfl L.m0 L.b0 .nil gy (ac (pv 6) (ac (cZ A1 ĭ ak (ac (pv 0) (ac (pv 1) (ac (aE bw (pv 6) aF) ao)))) ao))) ao)))
   (aX (aw (eG Ü Ć ą bH (pv 4) (ac (aP (ac ay (ac (aN (iJ rfl) rfl ml Ă (ac (aN gN rfl mr ĸ (ac (pv 5) (ac (aE bw (pv 5) (pv 6)) ao))) ao)) ao))) ao))))))
  (aX (gG nd rfl (.inl rfl) (aE bw (pv 5) (pv 6)))))))⟩
theorem yU (mn:mg "len" = none)(ml:mg "list" = none)(mr:mg "range" = none):Bx (Ž (aW aB P w K mg base HV "_law_parted" (aa yc) f cdv A outer s H E).ŋ (aH yc) (Ll K C CN CS CT CM)):=by
 have nd:=Rg.nd;have Pl:ă 5 _:=hr.mono au;exact dq (bq nd rfl (.inl rfl) ⟨bM ao⟩) (dq (bq nd rfl (.inl rfl) ⟨bM ao⟩) (dq (bq nd rfl (.inl rfl) ⟨aF⟩) (dq (JZ L A1 hr mn ml mr)
  (br (jV (fu (f8 ⟨eR L.k3 L.g3 Pl rfl L.m3 L.b3 .nil gy (ac (pv 3) ao)⟩ (f8 ⟨pv 4⟩ ck))))))))
end
section
variable {De:bX}{H0 H H1:Hp}{sA p sv bl:Addr}{ns:List Int}{n size:Int}{rs:List R0}{o6:Option V}
theorem Cr (sc:Sc K H sA p ns)(s6:σ[6]?=some (some (.int size)))(h1:1<=size/2)(h2:size/2<=10)(k:∀ x H1,Sc K H1 sA p ns->Ext (wo H p) (wo H1 p)->m_ C H1 (.pairs (size/2) 1 2) (.ref x)->R (.ref x) H1):F3 C CN CS σ H R:=by
 refine⟨_,s6,_,_,rfl,rfl,⟨au,au⟩,cL,λ t ht=>?_⟩;have x1:=Ext.new (o:=.tup [.int 1,.int 2]) ht;have g1:ad H t (.tup [.int 1,.int 2]) t=some (.tup [.int 1,.int 2]):=aM;refine λ x dx hx hd ne=>lM hx hd ne (.tup g1 (.cons (.int _) (.cons (.int _) .nil))) ⟨h1,h2,au⟩ λ H2 x2 ru=>⟨rfl,?_⟩;have Ţ:=x1.trans x2;exact k x H2 (sc.ext Ţ) (bn Ţ p) ru
theorem zj (sc:Sc K H sA p ns)(s0:σ[0]?=some (some (.ref sA)))(s1:σ[1]?=some (some (.ref p)))(s6:σ[6]?=some (some (.int size)))(h1:1<=size)(h2:size<=20)(k:∀ x j H1,0<=j->j<=size->Sc K H1 sA p ns->Ext (wo H p) (wo H1 p)->m_ C H1 (.split size j) (.ref x)->R (.ref x) H1):Av K C CN σ H R:=by
 refine⟨_,s6,?_⟩;refine bo sc s0 s1 (λ R r=>⟨_,s6,_,_,rfl,rfl,r⟩) ai ai λ j H1 j0 j1 ŗ k1=>?_;refine λ x dx hx hd ne=>lh hx hd ne ⟨h1,h2,j0,ai⟩ λ H2 x2 ru=>⟨rfl,?_⟩;exact k x j H2 j0 ai (ŗ.ext x2) ((aL k1).trans (bn x2 p)) ru
theorem xz (h:t { De with nx:=u De } σ H):aO t u De σ H:=h
theorem AG (h:OD K C H0 H sA p ns sv bl n rs)(s1:1<=size)(le:(rs.map R0.Ñ).sum+size<=n)(NO:n<=20)(l5:rs.length<=5)(RW:rs.length=5->(rs.map R0.Ñ).sum+size=n)
  (nx:∀ r H',r.Ñ = size->OD K C H0 H' sA p ns sv bl n (rs ++ [r])->De.nx [some (.ref sA),some (.ref p),some (.int n),some (.ref sv),some (.ref bl),some (.int (rs.map R0.Ñ).sum),some (.int size)] H') :
  vQ K C CN CS De [some (.ref sA),some (.ref p),some (.int n),some (.ref sv),some (.ref bl),some (.int (rs.map R0.Ñ).sum),some (.int size)] H:=by
 have s0:0<=(rs.map R0.Ñ).sum:=cM λ m hm=>by
  obtain⟨r',Na,rfl⟩:=ð.mp hm;have:=R0.ď (h.ok r' Na);omega
 have Xh:∀{H1:Hp},OD K C H0 H1 sA p ns sv bl n rs->aO (mN K 3 (Av K C CN)) (mN K 4 (uk "split")) De [some (.ref sA),some (.ref p),some (.int n),some (.ref sv),some (.ref bl),some (.int (rs.map R0.Ñ).sum),some (.int size)] H1:=by
  intro H1 h1;exact uP h1 le NO l5 RW (λ R k=>zj h1.sc rfl rfl rfl s1 ai λ x j H2 j0 j1 Τ x2 ru=>k x (.split size j) H2 rfl rfl ⟨s1,ai,j0,j1⟩ Τ x2 ru) nx
 refine⟨_,rfl,_,_,rfl,rfl,(by show(0:Int)<2;decide),rfl,_,rfl,?_⟩
 by_cases e:size%2=0
 ·rw [Ë (ġ V.int e)];refine cy (bo h.sc rfl rfl (λ R r=>r) au au λ z H1 z0 z2 ŗ k1=>⟨rfl,_,rfl,?_⟩);have h1:=h.go ŗ (aL k1);by_cases ez:z=0
  ·rw [Ë (by rw [ez])]
   exact cy (uP h1 le NO l5 RW (λ R k=>Cr h1.sc rfl ai ai λ x H2 Τ x2 ru=>k x (.pairs (size/2) 1 2) H2 rfl (by show 2*(size/2)=size;omega) ⟨ai,ai,au⟩ Τ x2 ru) nx)
  ·rw [È (λ q=>ez (V.int.inj q))];exact bZ (Xh h1)
 ·rw [È (λ q=>e (V.int.inj q))];exact bZ (bZ (Xh h))
theorem Ca (h:OD K C H0 H sA p ns sv bl n rs)(NO:n<=20)(lt:(rs.map R0.Ñ).sum<n)
  (nx:∀ r H',1<=r.Ñ->OD K C H0 H' sA p ns sv bl n (rs ++ [r])->De.nx [some (.ref sA),some (.ref p),some (.int n),some (.ref sv),some (.ref bl),some (.int ((rs ++ [r]).map R0.Ñ).sum),some (.int r.Ñ)] H') :
  aO (Hj K) (aO (Fo K) (aO (vQ K C CN CS) Al)) De [some (.ref sA),some (.ref p),some (.int n),some (.ref sv),some (.ref bl),some (.int (rs.map R0.Ñ).sum),o6] H:=by
 have s0:0<=(rs.map R0.Ñ).sum:=cM λ m hm=>by
  obtain⟨r',Na,rfl⟩:=ð.mp hm;have:=R0.ď (h.ok r' Na);omega
 have l5:=h.l5 lt;refine aY (te:=kJ (gk K Cc)) (i:=6) ?_;refine bo h.sc rfl rfl (λ R r=>⟨_,rfl,_,rfl,_,_,rfl,rfl,r⟩) ai ai λ z H1 z0 zm ŗ k1=>⟨_,_,rfl,rfl,?_⟩;have h1:=h.go ŗ (aL k1);obtain⟨ws,hs,al⟩:=h1.hs;have lw:=al.1;have go:∀ size,1<=size->(rs.map R0.Ñ).sum+size<=n->(rs.length=5->(rs.map R0.Ñ).sum+size=n)->aO (vQ K C CN CS) Al De [some (.ref sA),some (.ref p),some (.int n),some (.ref sv),some (.ref bl),some (.int (rs.map R0.Ñ).sum),some (.int size)] H1:=by
  intro size s1 le RW;refine xz (AG h1 s1 le NO l5 RW λ r H2 er h2=>?_);refine⟨_,rfl,_,rfl,_,_,rfl,rfl,?_⟩;have q:=nx r H2 ai h2;have es:((rs ++ [r]).map R0.Ñ).sum=(rs.map R0.Ñ).sum+size:=by rw [Ì,ś,<- er];simp
  rw [es,er] at q;exact q
 refine⟨_,rfl,sv,ws,rfl,.inl (ç.of hs),rfl,_,rfl,?_⟩;by_cases e5:rs.length=5
 ·rw [Ë (by rw [<- lw,e5];rfl)]
  refine cy ⟨_,rfl,_,rfl,_,_,rfl,rfl,?_⟩;exact go (n-(rs.map R0.Ñ).sum) ai ai (λ _=>by omega)
 ·rw [È (λ q=>e5 (by have:=V.int.inj q;omega))]
  exact bZ (go (1+z) ai ai (λ q=>absurd q e5))
def C7 (K:Frag)(C:Nat->Addr):Sp:=λ vs H Q _=>∃(s p:Addr)(ns:List Int)(n:Nat),vs=[.ref s,.ref p,.int (n:Nat)]/\Sc K H s p ns/\1<=n/\n<=20/\∀ a v D zs rs H',Sc K H' s p ns->Ext (wo H p) (wo H' p)->wo H p D=none->wo H' p a=some (.tup [v,.ref D])->Ru C (wo H' p) (.blocks rs) v->(Rl.blocks rs).ok->wo H' p D=some (.lst zs)->Ù (wo H' p) zs ((Rl.blocks rs).bl.map gV)->(Rl.blocks rs).Ñ =(n:Nat)->Q (.ref a) H'
end
section
variable {De:bX}{H:Hp}{sA p:Addr}{ns:List Int}{n:Nat}{o3 o4 o5 o6:Option V}
theorem CV (sc:Sc K H sA p ns)(n1:1<=n)(NO:n<=20)(q:∀ a v D zs rs H',Sc K H' sA p ns->Ext (wo H p) (wo H' p)->wo H p D=none->wo H' p a=some (.tup [v,.ref D])->Ru C (wo H' p) (.blocks rs) v->(Rl.blocks rs).ok->wo H' p D=some (.lst zs)->Ù (wo H' p) zs ((Rl.blocks rs).bl.map gV)->(Rl.blocks rs).Ñ =(n:Nat)->De.rt (.ref a) H') :
  Bx (Ll K C CN CS CT CM De [some (.ref sA),some (.ref p),some (.int (n:Nat)),o3,o4,o5,o6] H):=by
 constructor;refine aY (te:=cg aK) (i:=3) ⟨cL,λ sv NS=>?_⟩;have x1:=Ext.new (o:=.lst []) NS;have g1:ad H sv (.lst []) sv=some (.lst []):=aM;have m1:=sc.bx.ne NS;have ŗ:=sc.ext x1;generalize ad H sv (.lst [])=H1 at x1 g1 ŗ ⊢;refine aY (te:=cg aK) (i:=4) ⟨cL,λ bl PO=>?_⟩;have x2:=Ext.new (o:=.lst []) PO;have g2:ad H1 bl (.lst []) bl=some (.lst []):=aM;have m2:=ŗ.bx.ne PO;have m3:sv≠bl:=λ e=>by rw [<- e,g1] at PO;cases PO
 have Τ:=ŗ.ext x2;have UA:=x2 _ _ g1;generalize ad H1 bl (.lst [])=H2 at x2 g2 Τ UA ⊢;have wn:∀ b,H b=none->wo H p b=none:=λ b e=>by
  cases e2:wo H p b with
  | none=>rfl
  | some o=>rw [ah _ _ _ _ e2] at e;cases e
 have nb:H bl=none:=by
  cases e:H bl with
  | none=>rfl
  | some o=>rw [x1 _ _ e] at PO;cases PO
 refine aY (te:=tC (.int 0)) (i:=5) ?_;show aO (A4 K C CN CS) (GK K C CT CM) De [some (.ref sA),some (.ref p),some (.int (n:Nat)),some (.ref sv),some (.ref bl),some (.int 0),o6] H2;have p0:OD K C H H2 sA p ns sv bl (n:Nat) []:=⟨sc,Τ,bn (x1.trans x2) p,⟨[],UA,rfl,λ i r w h=>by simp at h⟩,⟨[],g2,.nil⟩,m1,m2,m3,wn _ NS,wn _ nb,(λ r h=>nomatch h),by simp,by simp,λ _=>by simp⟩
 refine⟨λ m σ H'=>∃ rs o6,m=n-((rs.map R0.Ñ).sum).toNat/\OD K C H H' sA p ns sv bl (n:Nat) rs/\σ=[some (.ref sA),some (.ref p),some (.int (n:Nat)),some (.ref sv),some (.ref bl),some (.int (rs.map R0.Ñ).sum),o6],⟨_,[],o6,rfl,p0,rfl⟩,?_⟩;rintro m σ H' ⟨rs,o6,rfl,h,rfl⟩;have s0:0<=(rs.map R0.Ñ).sum:=cM λ m hm=>by
  obtain⟨r',Na,rfl⟩:=ð.mp hm;have:=R0.ď (h.ok r' Na);omega
 refine⟨_,rfl,_,rfl,_,_,rfl,rfl,_,rfl,?_⟩;by_cases lt:(rs.map R0.Ñ).sum<(n:Nat)
 ·rw [Ë lt];refine cy ⟨λ ĝ H2=>∃ m',m'<n-((rs.map R0.Ñ).sum).toNat/\∃ rs o6,m'=n-((rs.map R0.Ñ).sum).toNat/\OD K C H H2 sA p ns sv bl (n:Nat) rs/\ĝ=[some (.ref sA),some (.ref p),some (.int (n:Nat)),some (.ref sv),some (.ref bl),some (.int (rs.map R0.Ñ).sum),o6],λ ĝ H2 z=>z,?_⟩;refine Ca h ai lt λ r H3 r1 h3=>⟨_,?_,rs ++ [r],_,rfl,h3,rfl⟩;have es:((rs ++ [r]).map R0.Ñ).sum=(rs.map R0.Ñ).sum+r.Ñ:=by rw [Ì,ś];simp
  rw [es];have:=h3.sm;rw [es] at this;omega
 ·rw [È lt];refine bZ ?_;have sm:=h.sm;have eq:(rs.map R0.Ñ).sum=(n:Nat):=ai;obtain⟨ws,hs,al⟩:=h.hs;obtain⟨zs,hb,ra⟩:=h.hb;have l1:1<=rs.length:=by
   cases rs with
   | nil=>simp at eq;omega
   | cons _ _=>simp
  have ok:(Rl.blocks rs).ok:=⟨l1,h.l6,h.ok,by rw [eq];omega⟩
  refine⟨_,rfl,λ x dx hx hd ne=>jW hx hd ne hs al ok λ H3 x3 ru=>⟨rfl,_,rfl,cL,λ a ha=>?_⟩⟩;have x4:=Ext.new (o:=.tup [.ref x,.ref bl]) ha;have P3:=x3.trans x4;refine q a (.ref x) bl zs rs _ (h.sc.ext P3) (h.x.trans (bn P3 p)) h.z2 (aJ ((h.sc.ext x3).bx.ne ha) aM) ((ru.wo (h.sc.ext x3).bx).ext (bn x4 p)) ok (aJ h.n2 (P3 _ _ hb)) ((ra.mono Ev).mono (bn P3 p)) eq
theorem G8 (F:Ī K "_law_parted" "_law_parted" yc f fd)(L:Aq P w K mg base C CN CS CT CM f0 f1 f2 f3 f4 e0 e1 e2 e3 e4)(A1:Df P w K mg base aB 1 "_law_take" ["_law_script","_law_pen","_law_many"] (dH K) a1 d1)(mn:mg "len" = none)(ml:mg "list" = none)(mr:mg "range" = none):à P w K mg base aB 8 f fd ["_law_script","_law_pen","_law_folk_here"] (C7 K C):=by
 refine bO F Rg λ cdv A outer s H vs Q E hr h=>?_;obtain⟨sA,p,ns,n,rfl,sc,n1,NO,q⟩:=h;exact il (yU L A1 hr mn ml mr) (CV sc n1 NO q)
end
end
section
variable {P:Program}{w:World}{K:Frag}{mg:bC}{base:Heap}{C MC:Nat->Addr}{MS CT CW f fW a1 a2 a3 f0 f1 f2 f3:Addr}{fd eW d1 d2 d3 e0 e1 e2 e3:FuncData}
structure Dr (P:Program)(w:World)(K:Frag)(mg:bC)(base:Heap)(C MC:Nat->Addr)(MS CT CW fW:Addr)(eW:FuncData)(f0 f1 f2 f3 a1 a2 a3:Addr)(e0 e1 e2 e3 d1 d2 d3:FuncData):Prop where
 L:Ks P w K mg base MC f0 f1 f2 f3 e0 e1 e2 e3
 kW:Mk K (MC 4) fW
 gW:à P w K mg base (cY P w) 4 fW eW Fg (wZ K MC CT CW)
 bW:Binds K eW Fg []
 mW:mg "Weighted" = some (.ref (MC 4))
 du:Df P w K mg base aB 3 "_law_due" ["_law_word","_law_blocks","_law_outcomes_here","_law_weights"] zr a1 d1
 td:Df P w K mg base aB 10 "_law_told" ["_law_measure","_law_rule_here","_law_outcomes_here"] (tF C MC) a2 d2
 wh:Df P w K mg base aB 1 "_law_whole" ["_law_found"] B9 a3 d3
 wd:bJ P w K mg base aB 1 "word" ["self"] (λ c=>c=MC 4) (λ _=>qV MC)
 tl:bJ P w K mg base aB 1 "told" ["self"] (λ c=>c=MC 4) (λ _=>qz MC)
 N:sP K
 Y:KW K MC MS
 mM:mg "Measure" = some (.ref MS)
 mi:mg "isinstance" = none
 mb:mg "bool" = none
 ml:mg "list" = none
 mr:mg "range" = none
 mt:mg "tuple" = none
abbrev vu:Stmt:=cw 80
abbrev JH (i:Nat):Stmt:=(aH vu).getD i (.Pass ⟨0,0,0,0⟩)
abbrev HM:List Str:=["_law_word","_law_rule_here","_law_blocks","_law_outcomes_here","_law_weights"]
abbrev Iu:List Str:=["_law_word","_law_rule_here","_law_blocks","_law_outcomes_here","_law_weights","_law_inner","_law_handed","_law_measure","_law_lap","_law_due_here","_law_told_here"]
theorem Rf:ae Iu HM (aa vu):=aR
abbrev GI:Scope:=dJ [("_law_score",.local),("_law_whole",.globalImplicit)]
theorem EL:((["_law_score"]:List Str)++([]:List Str)).Nodup:=av
theorem yG:bu X GI [] ["_law_score"] [] []:=j7 (L:=[(".0",.local),("_law_score",.local),("_law_whole",.globalImplicit)]) rfl rfl av av av rfl av av
def sX (K:Frag):List V->Hp->VK->Prop:=λ xs H Q=>∃ p ys,xs=[.ref p]/\(ç K H p ys\/đ K H p ys)/\∀ l,H l=none->Q (.ref l) (ad H l (.lst ys))
def Ee (K:Frag):List V->Hp->VK->Prop:=λ xs H Q=>∃ p ys,xs=[.ref p]/\((ç K H p ys/\∀ l,H l=none->Q (.ref l) (ad H l (.tup ys)))\/(đ K H p ys/\Q (.ref p) H))
def GF (MC:Nat->Addr)(k:Nat):TE:=dD (MC k) (gU MC k) [] E0 aK
def Kz (MC:Nat->Addr):TS:=cR (on (xS [(tC (.str "sum"),GF MC 0),(tC (.str "ranks"),GF MC 1),(tC (.str "wins"),GF MC 2),(tC (.str "signs"),GF MC 3)]) (ag 0)) (ba 5)
def Kw (K:Frag):TS:=cR (gQ (sX K) (am (ag 4) aK)) (ba 6)
def K3 (K:Frag)(MC:Nat->Addr)(CT CW:Addr):TS:=cR (dD (MC 4) (wZ K MC CT CW) [] E0 (am (ag 5) (am (ag 6) aK))) (ba 7)
def K5:TS:=dA (tB (aQ (t6 not) (ag 6) (ag 4))) (cH (tC (.bl false))) bV
def Ln (K:Frag):TS:=f7 (D7 K "list" tj (ag 6))
def KI (K:Frag):TS:=f7 (rY K "list" jv (ag 6) (am (cg (am (tC (.int 3)) (am (tC (.int 3)) (am (tC (.int 3)) (am (tC (.int 3)) (am (tC (.int 3)) (am (tC (.int 3)) aK))))))) aK))
def GT (K:Frag)(i:Nat):TE:=aQ (dy K) (ag i) (aQ (rI (λ _ j=>0<j) λ i j=>.int (i%j)) (ag 8) (tC (.int 2)))
def K8 (K:Frag):TS:=cR (iE zr [] E0 (am (ag 0) (am (GT K 2) (am (ag 3) (am (ag 4) aK))))) (ba 9)
def Jn (K:Frag)(C MC:Nat->Addr):TS:=cR (iE (tF C MC) [] E0 (am (ag 7) (am (GT K 1) (am (gQ (sX K) (am (ag 3) aK)) aK)))) (ba 10)
def HF (K:Frag)(i:Int):TE:=aQ (ke K) (ag 10) (tC (.int i))
def B5 (K:Frag):TS:=dA (E6 (tB (aQ (t6 not) (ag 10) (ag 9))) (tB (gQ (EE K) (am (HF K 1) (am (tC (.ty "bool")) aK))))) (cH (tC (.bl false))) bV
def HB (K:Frag):TT:=tB (aQ nA (HF K 0) (tC (.str "scores")))
def LB:TT:=tm (tB (iE B9 [] E0 (am (ag 0) aK)))
def xW (K:Frag):TS:=dA (nI (HB K) (tB (aQ (lW K) (jH (bL K (HF K 1)) 1 [] (ba 0) LB (ag 0)) (cg aK)))) (cH (tC (.bl false))) bV
def xj (K:Frag):TS:=dA (HB K) (f7 (rY K "list" gM (HF K 1) (am (tC (.int 7)) aK))) bV
def IC (K:Frag)(C MC:Nat->Addr):TS:=gj (jd (am (tC (.int 3)) aK)) (ba 8) (aO (K8 K) (aO (Jn K C MC) (aO (B5 K) (aO (xW K) (xj K)))))
def KN (K:Frag)(MC:Nat->Addr)(MS:Addr):TS:=dA (E6 (tm (tB (gQ (EG K) (am (ag 7) (am (tC (.ref MS)) aK))))) (tB (aQ Iy (cr (λ c=>c=MC 4) "word" (λ _=>qV MC) E0 (ag 7) aK) (tC (.str "weighted"))))) (cH (tC (.bl false))) bV
def Jd (K:Frag)(MC:Nat->Addr):TS:=cH (aQ (t6 id) (cr (λ c=>c=MC 4) "told" (λ _=>qz MC) E0 (ag 7) aK) (dO (am (tC (.str "weighted")) (am (dO (am (ag 0) aK)) (am (gQ (Ee K) (am (ag 4) aK)) aK)))))
def Lz (K:Frag)(C MC:Nat->Addr)(MS CT CW:Addr):TS:=aO (Kz MC) (aO (Kw K) (aO (K3 K MC CT CW) (aO K5 (aO (Ln K) (aO (KI K) (aO (IC K C MC) (aO (KN K MC MS) (Jd K MC))))))))
section
variable {cdv:Value}{A:Around}{outer:List Env}{s:Shared}{H:Hp}{E:XK}
theorem Ig (Z:Dr P w K mg base C MC MS CT CW fW eW f0 f1 f2 f3 a1 a2 a3 e0 e1 e2 e3 d1 d2 d3)(hr:pj 10 "_law_right" vu A s f cdv):Bx (PS (aW aB P w K mg base Iu "_law_right" (aa vu) f cdv A outer s H E).ŋ (JH 6) (IC K C MC)):=by
 have nd:=Rf.nd;have ĭ:ă 1 _:=hr.mono au;have Pm:ă 3 _:=hr.mono au;have hu:=hr.units;have V1:=hr.NG;exact⟨bY .never rfl (dI rfl Z.mr (ac aF ao)) (cq nd rfl (.inl rfl))
  (bU (gG nd rfl (.inl rfl) (kU Z.du.G Pm rfl Z.du.m Z.du.kp Z.du.b .nil ak (ac (pv 0) (ac (cS fS (pv 2) (aE c6 (pv 8) aF)) (ac (pv 3) (ac (pv 4) ao))))))
  (bU (gG nd rfl (.inl rfl) (kU Z.td.G hr rfl Z.td.m Z.td.kp Z.td.b .nil ak (ac (pv 7) (ac (cS fS (pv 1) (aE c6 (pv 8) aF)) (ac (aN eQ rfl Z.ml Ă (ac (pv 3) ao)) ao)))))
  (bU (be (PW.pt (gR (ar (tO hu) (pv 10) (pv 9) (ax _)) (fv (bE (aj (cK Z.N) rfl Z.mi Û (ac (cS ia (pv 10) aF) (ac (gz rfl Z.mb Ũ) ao))))))) (aX (dk vy)) f6)
  (bU (be (PW.pt (gv (ar cj (cS ia (pv 10) aF) ay (ax _)) (fh (ar (kE V1) (iu rfl yG (aS (cS ia (pv 10) aF)) (λ s H C fp=>cq EL rfl (.inl rfl)) (λ s H C fp=>cp (bE (kU Z.wh.G ĭ rfl Z.wh.m Z.wh.kp Z.wh.b .nil ak (ac (pv 0) ao)))) (λ s H C fp=>pv 0)) (bM ao) (ax _))))) (aX (dk vy)) f6)
  (aX (be (ar cj (cS ia (pv 10) aF) ay (ax _)) (aX (aw (eG Ü Ć ą bH (cS ia (pv 10) aF) (ac aF ao)))) f6))))))⟩
theorem zB (Z:Dr P w K mg base C MC MS CT CW fW eW f0 f1 f2 f3 a1 a2 a3 e0 e1 e2 e3 d1 d2 d3)(hr:pj 10 "_law_right" vu A s f cdv):Bx (Ž (aW aB P w K mg base Iu "_law_right" (aa vu) f cdv A outer s H E).ŋ (aH vu) (Lz K C MC MS CT CW)):=by
 have nd:=Rf.nd;have ĭ:ă 1 _:=hr.mono au;have Pm:ă 3 _:=hr.mono au;have Pl:ă 5 _:=hr.mono au;have hu:=hr.units;have Ui:(A.deeper (PyProof.Rows.envOfC "_law_right" (aa vu) s.heap.objs.size f cdv)).units+1<cLine:=by have:=hr.un;omega
 exact dq (bq nd rfl (.inl rfl) ⟨lT Ui (wW (iB ay (iC Z.L.k0 Z.L.g0 Pm rfl Z.L.m0 Z.L.b0 .nil ak) (iB ay (iC Z.L.k1 Z.L.g1 Pm rfl Z.L.m1 Z.L.b1 .nil ak) (iB ay (iC Z.L.k2 Z.L.g2 Pm rfl Z.L.m2 Z.L.b2 .nil ak) (iB ay (iC Z.L.k3 Z.L.g3 Pm rfl Z.L.m3 Z.L.b3 .nil ak) vX)))) rfl rfl (λ z=>by cases z) au) (pv 0)⟩)
  (dq (bq nd rfl (.inl rfl) ⟨aN eQ rfl Z.ml Ă (ac (pv 4) ao)⟩)
  (dq (bq nd rfl (.inl rfl) ⟨eR Z.kW Z.gW Pl rfl Z.mW Z.bW .nil gy (ac (pv 5) (ac (pv 6) ao))⟩)
  (dq ⟨be (ar (tO hu) (pv 6) (pv 4) (ax _)) (aX (dk vy)) f6⟩
  (dq ⟨aw (Aj Ü PySem.F.slot_list_clear PySem.F.type_list_clear (λ Ä s σ H x vs v us Q I rx rv h=>tK Ä s σ H x vs v us Q I rx rv h) (pv 6))⟩
  (dq ⟨aw (eG Ü ο ξ i6 (pv 6) (ac (bM (ac aF (ac aF (ac aF (ac aF (ac aF (ac aF ao))))))) ao))⟩
  (dq (Ig Z hr)
  (dq ⟨be (PW.pt (gR (cp (bE (aj (nJ Z.N) rfl Z.mi Û (ac (pv 7) (ac (bA rfl Z.mM rfl) ao))))) (fv (ar lG (bt (pv 7) Z.wd ĭ ak) ay (ax _))))) (aX (dk vy)) f6⟩
  (br ⟨dk (dB (AM hu) (bt (pv 7) Z.tl ĭ ak) (aP (ac ay (ac (aP (ac (pv 0) ao)) (ac (aN bR rfl Z.mt ù (ac (pv 4) ao)) ao)))) (ax _))⟩))))))))
end
end
theorem Ec:∀{ds:List PyData},(∀ d∈ds,d.depth<=k)->PyData.depthAll ds<=k
 | [],_=>by simp [PyData.depthAll]
 | d::ds,h=>by
  have h1:=h d (ò ..);have h2:=Ec λ x hx=>h x (á _ hx);simp only [PyData.depthAll];omega
theorem gE (ns:List Int):aT (nH ns)=true:=hZ ns
theorem mx (ns:List Int):PyData.depthAll (ns.map PyData.int)=0:=by
 have:PyData.depthAll (ns.map PyData.int)<=0:=Ec λ d hd=>by
  obtain⟨o,_,rfl⟩:=ð.mp hd;simp [PyData.depth]
 omega
theorem Di (ns:List Int):(nH ns).depth<=20:=by
 have:=mx ns;simp only [nH,PyData.depth];omega
theorem we {os:List (Int × Bool)}(hk:k<4)(ok:t.ok)(fl:t.flat):jy k t os=lQ k t.bl os:=by
 match k,hk with
 | 0,_=>rfl
 | 1,_=>rfl
 | 2,_=>rfl
 | 3,_=>exact yJ ok fl
theorem og (h:bQ bs i):¬ bs.all id=true:=λ al=>by
 have:=ú.mp al false (å h.2);cases this
theorem tU (h:bQ bs i)(k:bQ bs j):i=j:=by
 rcases Nat.lt_trichotomy i j with lt | e | gt
 ·have:=k.1 i false lt h.2;cases this
 ·exact e
 ·have:=h.1 j false gt k.2;cases this
section
variable {P:Program}{w:World}{K:Frag}{mg:bC}{base:Heap}{C MC:Nat->Addr}{De:bX}{H Hb:Hp}{p c l:Addr}{o0 o1 o2 o3 o4 o5 o6 o7 o8:Option V}
theorem lV (ha:H a=some (.lst (ns.map V.int))):Ĝ H (.ref a) (nH ns):=.lst ha (c8 H ns)
theorem rC (e:H p=some (.tup [.str z,.int n])):Ĝ H (.ref p) (.tuple [.str z,.int n]):=.tup e (.cons (.str _) (.cons (.int _) .nil))
theorem jt (e:H p=some (.tup [.str z,.ref l]))(hl:H l=some (.lst (ns.map V.int))):Ĝ H (.ref p) (.tuple [.str z,nH ns]):=.tup e (.cons (.str _) (.cons (lV hl) .nil))
theorem sR (hp:H p=some (.tup [.str z,x]))(rp:Ĝ H (.ref p) d)(rc:Ĝ H (.ref c) d)(pl:aT d=true)(dp:d.depth<=20)(kd:Kd K H x ty)(kf:kitOne K ty (.type "bool")=some false)
  (q:u De [o0,o1,o2,o3,o4,o5,o6,o7,o8,some (.ref c),some (.ref p)] H):aO (B5 K) u De [o0,o1,o2,o3,o4,o5,o6,o7,o8,some (.ref c),some (.ref p)] H:=by
 refine⟨_,rfl,_,rfl,d,d,rp,rc,pl,pl,dp,_,rfl,?_⟩;rw [io pl];exact bZ ⟨_,rfl,p,_,_,_,rfl,rfl,đ.of hp,dh rfl,_,_,_,_,rfl,kd,kf,_,rfl,bZ q⟩
theorem qT (hp:H p=some (.tup [.str z,x]))(q:Q (decide (V.str z=V.str "scores")) H):HB K [o0,o1,o2,o3,o4,o5,o6,o7,o8,some (.ref c),some (.ref p)] H Q:=⟨_,rfl,p,_,_,_,rfl,rfl,đ.of hp,dh rfl,rfl,_,rfl,q⟩
theorem xM (hp:H p=some (.tup [.str z,x]))(hz:z ≠ "scores")(q:De.nx [o0,o1,o2,o3,o4,o5,o6,o7,o8,some (.ref c),some (.ref p)] H):aO (xW K) (xj K) De [o0,o1,o2,o3,o4,o5,o6,o7,o8,some (.ref c),some (.ref p)] H:=by
 have e:=È λ y=>hz (V.str.inj y);refine qT hp ?_;rw [e];refine bZ (bZ ?_);refine qT hp ?_;rw [e];exact bZ q
theorem Gj {ns:List Int}(nl:Hb l=none)(xb:Ext Hb H)(hp:H p=some (.tup [.str "scores",.ref l]))(hl:H l=some (.lst (ns.map V.int)))(ln:ns.length<=20)(q:∀ H',Ext Hb H'->De.nx [o0,o1,o2,o3,o4,o5,o6,o7,o8,some (.ref c),some (.ref p)] H'):aO (xW K) (xj K) De [o0,o1,o2,o3,o4,o5,o6,o7,o8,some (.ref c),some (.ref p)] H:=by
 have sz:=Ö;refine qT hp ?_;rw [Ë rfl];refine cy ⟨_,rfl,p,_,_,_,rfl,rfl,đ.of hp,dh rfl,l,rfl,⟨_,ç.of hl⟩,λ D2 Ŧ=>?_⟩;refine oR (λ _=>false) (by rw [Â];omega) hl Ŧ ?_ ?_
 ·intro j v H' ev x' R r;rw [Ç] at ev;obtain⟨n,_,rfl⟩:=Ð.mp ev;exact⟨_,rfl,n,rfl,_,rfl,r⟩
 ·intro H' x' hD;have e0:(ns.map V.int).filter (λ _=>false)=[]:=List.filter_eq_nil_iff.mpr λ _ _=>by decide
  rw [e0] at hD;refine⟨cL,λ r hr=>?_⟩;have x2:=Ext.new (o:=.lst []) hr;have xx:=x'.trans x2;refine⟨D2,r,[],rfl,rfl,ç.of (x2 _ _ hD),ç.of aM,_,rfl,bZ ?_⟩;refine qT (xx _ _ hp) ?_;rw [Ë rfl];exact cy ⟨_,rfl,p,_,_,_,rfl,rfl,đ.of (xx _ _ hp),dh rfl,.inl ⟨rfl,_,ç.of (xx _ _ hl)⟩,l,_,_,rfl,rfl,xx _ _ hl,by rw [Â];omega,q _ (aI _ (xb.trans xx) nl)⟩
theorem L'.ext {os:List (Int × Bool)}(h:L' C MC H k ws v r t a xs os)(x:Ext H H'):L' C MC H' k ws v r t a xs os:=⟨h.hk,h.me.ext x,h.wk,h.ru.ext x,h.ok,h.fl,x _ _ h.ha,h.oc.Nu x,h.bd,h.fk⟩
structure DP (C MC:Nat->Addr)(H:Hp)(k:Nat)(ws:List Int)(v:V)(R Bl a W:Addr)(r:Nat->V)(t:Nat->Rl)(D:Nat->Addr)(zs:Nat->List V)(xs:List V)(os:List (Int × Bool)):Prop where
 hR:H R=some (.lst [r 0,r 1])
 hB:H Bl=some (.lst [.ref (D 0),.ref (D 1)])
 pr:∀ j,j<2->L' C MC H k ws v (r j) (t j) a xs os
 hD:∀ j,j<2->H (D j)=some (.lst (zs j))
 ra:∀ j,j<2->Ù H (zs j) ((t j).bl.map gV)
 hW:H W=some (.lst (ws.map V.int))
theorem AU {os:List (Int × Bool)}(L:DP C MC Hb k ws v R Bl a W r t D zs xs os)(xb:Ext Hb H)
  (q:∀ o9 Ű H',Ext Hb H'->De.nx [some (.str (aA k)),some (.ref R),some (.ref Bl),some (.ref a),some (.ref W),o5,o6,some v,some (.int (m:Nat)),o9,Ű] H') :
  aO (K8 K) (aO (Jn K C MC) (aO (B5 K) (aO (xW K) (xj K)))) De [some (.str (aA k)),some (.ref R),some (.ref Bl),some (.ref a),some (.ref W),o5,o6,some v,some (.int (m:Nat)),o9,Ű] H:=by
 have hj:m%2<2:=Nat.mod_lt _ au;have em:((m:Nat):Int)%2=((m%2:Nat):Int):=ai;have a1:rJ [r 0,r 1] (((m:Nat):Int)%2)=some (r (m%2)):=by
  rw [em];refine dh ?_;rcases OU m with e | e <;> rw [e] <;> rfl
 have a2:rJ [V.ref (D 0),V.ref (D 1)] (((m:Nat):Int)%2)=some (.ref (D (m%2))):=by
  rw [em];refine dh ?_;rcases OU m with e | e <;> rw [e] <;> rfl
 have pre:=L.pr _ hj;have X_:=L.hD _ hj;have Xo:=L.ra _ hj;generalize m%2=j at a1 a2 pre X_ Xo;have pe:=gH pre.ok pre.fl;have fla:=pre.fla;rw [<- pe] at fla;have ll:(t j).bl.length=(t j).parts.length:=by rw [<- pe,Â]
 have ef:=we (os:=os) pre.hk pre.ok pre.fl;have lo:=pre.lo;have wl:(iZ k ws (t j).parts os).length<=20:=by
  have:=lX pre.hk os (t j).parts ws;rw [<- pe,fla,dQ] at this;rw [<- pe];omega
 have ns1:("weights" : Str) ≠ "scores" := av;have ns2:kh k ≠ "scores" := by
  unfold kh;split <;> decide +kernel
 have told:∀{H1:Hp}{c:Addr},Ext Hb H1 ->
   ((ws.length<(t j).parts.length->∀ p l H',Ext H1 H'->H1 l=none->H' l=some (.lst (ws.map V.int))->H' p=some (.tup [.str "weights",.ref l])->aO (B5 K) (aO (xW K) (xj K)) De [some (.str (aA k)),some (.ref R),some (.ref Bl),some (.ref a),some (.ref W),o5,o6,some v,some (.int (m:Nat)),some (.ref c),some (.ref p)] H') /\
    ((t j).parts.length<=ws.length->((jy k (t j) os).all id=true->∀ p l H',Ext H1 H'->H1 l=none->H' l=some (.lst ((iZ k ws (t j).parts os).map V.int))->H' p=some (.tup [.str "scores",.ref l])->aO (B5 K) (aO (xW K) (xj K)) De [some (.str (aA k)),some (.ref R),some (.ref Bl),some (.ref a),some (.ref W),o5,o6,some v,some (.int (m:Nat)),some (.ref c),some (.ref p)] H') /\
     ∀ i,bQ (jy k (t j) os) i->∀ p H',Ext H1 H'->H' p=some (.tup [.str (kh k),.int (i:Nat)])->aO (B5 K) (aO (xW K) (xj K)) De [some (.str (aA k)),some (.ref R),some (.ref Bl),some (.ref a),some (.ref W),o5,o6,some v,some (.int (m:Nat)),some (.ref c),some (.ref p)] H')) ->
   aO (Jn K C MC) (aO (B5 K) (aO (xW K) (xj K))) De [some (.str (aA k)),some (.ref R),some (.ref Bl),some (.ref a),some (.ref W),o5,o6,some v,some (.int (m:Nat)),some (.ref c),Ű] H1:=by
  intro H1 c x1 h;refine⟨_,rfl,_,rfl,_,rfl,_,_,rfl,rfl,(by show(0:Int)<2;decide),R,_,_,_,rfl,rfl,ç.of (x1 _ _ L.hR),a1,_,rfl,a,xs,rfl,.inl (ç.of (x1 _ _ pre.ha)),λ g hg=>?_⟩
  have x2:=Ext.new (o:=.lst xs) hg;have g2:ad H1 g (.lst xs) g=some (.lst xs):=aM;generalize ad H1 g (.lst xs)=H2 at x2 g2 ⊢;have p2:=pre.ext (x1.trans x2);have fr:∀{y:Addr},H2 y=none->H1 y=none:=λ {y} n=>by
   cases e:H1 y with
   | none=>rfl
   | some o=>rw [x2 _ _ e] at n;cases n
  exact⟨k,ws,v,r j,t j,g,xs,os,rfl,⟨p2.hk,p2.me,p2.wk,p2.ru,p2.ok,p2.fl,g2,p2.oc,p2.bd,p2.fk⟩,λ lt p l H3 x3 nl hl hp=>h.1 lt p l H3 (x2.trans x3) (fr nl) hl hp,λ le=>⟨λ al p l H3 x3 nl hl hp=>(h.2 le).1 al p l H3 (x2.trans x3) (fr nl) hl hp,λ i fi p H3 x3 hp=>(h.2 le).2 i fi p H3 (x2.trans x3) hp⟩⟩
 refine⟨_,rfl,_,rfl,_,rfl,_,_,rfl,rfl,(by show(0:Int)<2;decide),Bl,_,_,_,rfl,rfl,ç.of (xb _ _ L.hB),a2,_,rfl,_,rfl,?_⟩
 refine⟨k,D j,zs j,(t j).bl,a,xs,os,W,ws,pre.hk,rfl,xb _ _ X_,Xo.mono xb,λ b hb=>(Rl.sm pre.ok).2 b.2 (by rw [<- pe];exact ð.mpr ⟨b,hb,rfl⟩),fla,xb _ _ pre.ha,pre.oc.Nu xb,lo,xb _ _ L.hW,pre.wk.2.2,pre.wk.2.1,λ lt c H1 x1 nc hc=>?_,λ le=>⟨λ al c l0 H1 x1 nc nl0 hc Wh=>?_,λ i fi c H1 x1 nc hc=>?_⟩⟩
 ·have NE:=xb.trans x1;refine told NE ⟨λ lt' p l H' x' nl hl hp=>?_,λ le=>absurd lt ai⟩;have RS:=NE.trans x';refine sR hp (jt hp hl) (jt (x' _ _ hc) (RS _ _ L.hW)) (by simp [aT,ħ,gE]) ?_ (.inl (.lst hl)) rfl (xM hp ns1 (q _ _ H' RS))
  have:=mx ws;simp only [PyData.depth,PyData.depthAll,nH];omega
 ·have NE:=xb.trans x1;refine told NE ⟨λ lt=>absurd lt ai,λ _=>⟨λ YU p l H' x' nl hl hp=>?_,λ i fi=>absurd (by rw [ef];exact al) (og fi)⟩⟩
  have RS:=NE.trans x';rw [pe] at Wh;have Vs:Hb l=none:=by
   cases e:Hb l with
   | none=>rfl
   | some o=>rw [NE _ _ e] at nl;cases nl
  refine sR hp (jt hp hl) (jt (x' _ _ hc) (x' _ _ Wh)) (by simp [aT,ħ,gE]) ?_ (.inl (.lst hl)) rfl (Gj Vs RS hp hl wl λ H2 x2=>q _ _ H2 x2)
  have:=mx (iZ k ws (t j).parts os);simp only [PyData.depth,PyData.depthAll,nH];omega
 ·have NE:=xb.trans x1;rw [<- ef] at fi;refine told NE ⟨λ lt=>absurd lt ai,λ _=>⟨λ YU=>absurd YU (og fi),λ i' fi' p H' x' hp=>?_⟩⟩;have ei:=tU fi' fi;subst ei;have RS:=NE.trans x';refine sR hp (rC hp) (rC (x' _ _ hc)) (by simp [aT,ħ]) (by simp [PyData.depth,PyData.depthAll]) (.inl (.int _)) CL (xM hp ns2 (q _ _ H' RS))
end
section
variable {P:Program}{w:World}{K:Frag}{mg:bC}{base:Heap}{C MC:Nat->Addr}{MS CT CW f fW a1 a2 a3 f0 f1 f2 f3:Addr}{fd eW d1 d2 d3 e0 e1 e2 e3:FuncData}
theorem re (q:∀ v H',Ext H H'->Me MC H' k v->Q v H'):GF MC k σ H Q:=λ x dx hx hd ne=>Gi hx hd ne λ H' x' me=>⟨rfl,q _ H' x' me⟩
structure J8 (C:Nat->Addr)(H:Hp)(k:Nat)(ws:List Int)(R Bl a W:Addr)(r:Nat->V)(t:Nat->Rl)(D:Nat->Addr)(zs:Nat->List V)(xs:List V)(os:List (Int × Bool)):Prop where
 hk:k<4
 wk:zy ws
 hR:H R=some (.lst [r 0,r 1])
 hB:H Bl=some (.lst [.ref (D 0),.ref (D 1)])
 ru:∀ j,j<2->Ru C H (t j) (r j)
 ok:∀ j,j<2->(t j).ok
 fl:∀ j,j<2->(t j).flat
 fk:∀ j,j<2->(t j).Ñ =(os.length:Nat)
 ha:H a=some (.lst xs)
 oc:Μ H xs os
 bd:sW os
 hD:∀ j,j<2->H (D j)=some (.lst (zs j))
 ra:∀ j,j<2->Ù H (zs j) ((t j).bl.map gV)
 hW:H W=some (.lst (ws.map V.int))
def zx (C:Nat->Addr):Sp:=λ vs H Q _=>∃ k ws R Bl a W r t D zs xs os,vs=[.str (aA k),.ref R,.ref Bl,.ref a,.ref W]/\J8 C H k ws R Bl a W r t D zs xs os/\∀ H',Ext H H'->Q (.bl true) H'
theorem wG:∀ k:Nat,k<4->dZ (dw [] [(Key.inr "sum",v0),(Key.inr "ranks",v1),(Key.inr "wins",v2),(Key.inr "signs",v3)]) (Key.inr (aA k))=some (match k with | 0=>v0 | 1=>v1 | 2=>v2 | _=>v3)
 | 0,_=>by
  unfold dw;simp only [List.foldl_cons,List.foldl_nil];rw [cA,Ï av,cA,Ï av,cA,Ï av,cA,Ø av]
 | 1,_=>by
  unfold dw;simp only [List.foldl_cons,List.foldl_nil];rw [cA,Ï av,cA,Ï av,cA,Ø av]
 | 2,_=>by
  unfold dw;simp only [List.foldl_cons,List.foldl_nil];rw [cA,Ï av,cA,Ø av]
 | 3,_=>by
  unfold dw;simp only [List.foldl_cons,List.foldl_nil];rw [cA,Ø av]
theorem jk (h:tv σ H λ y H2=>iW r σ H2 λ ps H3=>Q ((x,y)::ps) H3):iW ((tC x,tv)::r) σ H Q:=by
 exact h
theorem ur (h:Q [] H):iW [] σ H Q:=by
 exact h
theorem E5 (hk:k<4)(s0:σ[0]?=some (some (.str (aA k))))(q:∀ v H',Ext H H'->Me MC H' k v->u De (σ.set 5 (some v)) H'):aO (Kz MC) u De σ H:=by
 refine aY (te:=on _ (ag 0)) (i:=5) λ p hp=>?_;have x0:=Ext.new (o:=.dK []) hp;have g0:ad H p (.dK []) p=some (.dK []):=aM;generalize ad H p (.dK [])=H0 at x0 g0 ⊢;refine jk (re λ v0 H1 x1 m0=>jk (re λ v1 H2 x2 m1=>jk (re λ v2 H3 x3 m2=>jk (re λ v3 H4 x4 m3=>ur ?_))));have UR:=((x1.trans x2).trans x3).trans x4;refine⟨UR _ _ g0,[(Key.inr "sum",v0),(Key.inr "ranks",v1),(Key.inr "wins",v2),(Key.inr "signs",v3)],rfl,by show 4<=15;decide,?_⟩
 have k5:Kept H4 (ad H4 p (.dK (dw [] [(Key.inr "sum",v0),(Key.inr "ranks",v1),(Key.inr "wins",v2),(Key.inr "signs",v3)]))) p:=bj _;have g5:ad H4 p (.dK (dw [] [(Key.inr "sum",v0),(Key.inr "ranks",v1),(Key.inr "wins",v2),(Key.inr "signs",v3)])) p=some (.dK (dw [] [(Key.inr "sum",v0),(Key.inr "ranks",v1),(Key.inr "wins",v2),(Key.inr "signs",v3)])):=aM;have h4:=UR _ _ g0;generalize ad H4 p (.dK (dw [] [(.inr "sum",v0),(.inr "ranks",v1),(.inr "wins",v2),(.inr "signs",v3)]))=H5 at k5 g5 ⊢;have mk:∀{j:Nat}{v:V},Me MC H4 j v->Me MC H5 j v:=λ {j v} h=>by
  obtain⟨a,dx,m,e,ha,hm⟩:=h;exact⟨a,dx,m,e,k5 _ _ ha (λ z=>by rw [z,h4] at ha;cases ha),k5 _ _ hm (λ z=>by rw [z,h4] at hm;cases hm)⟩
 have xH5:=(x0.trans UR).kp hp k5;refine⟨_,s0,p,_,rfl,.inl ⟨_,.inr (aA k),.inl g5,rfl,(wG k hk).symm⟩,q _ H5 xH5 ?_⟩
 match k,hk with
 | 0,_=>exact mk (((m0.ext x2).ext x3).ext x4)
 | 1,_=>exact mk ((m1.ext x3).ext x4)
 | 2,_=>exact mk (m2.ext x4)
 | 3,_=>exact mk m3
end
section
variable {P:Program}{w:World}{K:Frag}{mg:bC}{base:Heap}{C MC:Nat->Addr}{MS CT CW f fW a1 a2 a3 f0 f1 f2 f3:Addr}{fd eW d1 d2 d3 e0 e1 e2 e3:FuncData}
theorem Wm.wo (h:Wm MC H k ws v)(hp:H p=some (.lst zs)):Wm MC (wo H p) k ws v:=by
 obtain⟨a,dx,i,t,m,r,e,ha,⟨a',WH,m',ei,Uw,Nb⟩,ht,hm,hr⟩:=h;have ne:∀{b:Addr}{o:HO},H b=some o->(∀ l,o ≠ .lst l)->b≠p:=λ {b o} hb ho z=>by rw [z,hp] at hb;exact ho _ (Õ hb).symm
 exact⟨a,dx,i,t,m,r,e,aJ (ne ha (λ _ z=>by cases z)) ha,⟨a',WH,m',ei,aJ (ne Uw (λ _ z=>by cases z)) Uw,aJ (ne Nb (λ _ z=>by cases z)) Nb⟩,aJ (ne ht (λ _ z=>by cases z)) ht,aJ (ne hm (λ _ z=>by cases z)) hm,aJ (ne hr (λ _ z=>by cases z)) hr⟩
theorem yM (Y:KW K MC MS)(wm:Wm MC H k ws v)(hW:H W=some (.lst (ws.map V.int)))(q:∀ H',Ext H H'->De.rt (.bl true) H') :
  aO (KN K MC MS) (Jd K MC) De [some (.str (aA k)),o1,o2,o3,some (.ref W),o5,o6,some v,o8,o9,Ű] H:=by
 obtain⟨x,dx,i,t,m,r,rfl,hx,me,ht,hm,hr⟩:=id wm;refine⟨_,rfl,_,MS,_,true,rfl,.inl (.ins hx Y.cls (Y.ha 4 au) Y.hn Y.Nq (Y.hm 4 au)),Y.kM 4 au,_,rfl,?_⟩;refine bZ ?_;refine gA av wm (λ R r=>⟨_,rfl,r⟩) ⟨_,k,ws,rfl,wm,?_⟩;refine⟨rfl,_,rfl,?_⟩;rw [Ë rfl];refine bZ ?_;show Jd K MC De _ H;refine gA av wm (λ R r=>⟨_,rfl,r⟩) ⟨_,k,ws,rfl,wm,λ m r t hm hr ht=>?_⟩;refine⟨_,rfl,cL,λ c hc=>?_⟩;have x1:=Ext.new (o:=.tup [.str (aA k)]) hc;have g1:ad H c (.tup [.str (aA k)]) c=some (.tup [.str (aA k)]):=aM;generalize ad H c (.tup [.str (aA k)])=H1 at x1 g1 ⊢;refine⟨_,rfl,W,_,rfl,.inl ⟨ç.of (x1 _ _ hW),λ e he=>?_⟩⟩;have x2:=Ext.new (o:=.tup (ws.map V.int)) he;have g2:ad H1 e (.tup (ws.map V.int)) e=some (.tup (ws.map V.int)):=aM;have Ti:=x2 _ _ g1;generalize ad H1 e (.tup (ws.map .int))=H2 at x2 g2 Ti ⊢;refine⟨cL,λ b hb=>?_⟩;have x3:=Ext.new (o:=.tup [.str "weighted",.ref c,.ref e]) hb;have g3:ad H2 b (.tup [.str "weighted",.ref c,.ref e]) b=some (.tup [.str "weighted",.ref c,.ref e]):=aM;have Tg:=x3 _ _ Ti;have Yi:=x3 _ _ g2;generalize ad H2 b (.tup [.str "weighted",.ref c,.ref e])=H3 at x3 g3 Tg Yi ⊢;have x:=(x1.trans x2).trans x3;have pl:aT (.tuple [.str "weighted",.tuple [.str (aA k)],.tuple (ws.map .int)])=true:=by
  simp [aT,ħ,hZ]
 have dp:(PyData.tuple [.str "weighted",.tuple [.str (aA k)],.tuple (ws.map .int)]).depth<=20:=by
  have:=mx ws;simp only [PyData.depth,PyData.depthAll];omega
 refine⟨_,_,.tup (x _ _ hm) (.cons (.str _) (.cons (.tup (x _ _ hr) (.cons (.str _) .nil)) (.cons (.tup (x _ _ ht) (c8 _ ws)) .nil))),.tup g3 (.cons (.str _) (.cons (.tup Tg (.cons (.str _) .nil)) (.cons (.tup Yi (c8 _ ws)) .nil))),pl,pl,dp,?_⟩;rw [io pl];exact q _ x
theorem EO (F:Ī K "_law_right" "_law_right" vu f fd)(Z:Dr P w K mg base C MC MS CT CW fW eW f0 f1 f2 f3 a1 a2 a3 e0 e1 e2 e3 d1 d2 d3):à P w K mg base aB 11 f fd HM (zx C):=by
 refine bO F Rf λ cdv A outer s H vs Q E hr h=>?_;obtain⟨k,ws,R,Bl,a,W,r,t,D,zs,xs,os,rfl,pre,q⟩:=h;refine il (zB Z hr) ⟨?_⟩;have sz:=Ö;have l6:=pre.wk.2.1;refine E5 pre.hk rfl λ v H1 x1 me=>?_;show aO (Kw K) _ _ [some (.str (aA k)),some (.ref R),some (.ref Bl),some (.ref a),some (.ref W),some v,none,none,none,none,none] H1;have X5:=x1 _ _ pre.hW;refine aY (te:=gQ (sX K) (am (ag 4) aK)) (i:=6) ⟨_,rfl,W,_,rfl,.inl (ç.of X5),λ hd XW=>?_⟩;have x2:=Ext.new (o:=.lst (ws.map V.int)) XW;have g2:ad H1 hd (.lst (ws.map V.int)) hd=some (.lst (ws.map V.int)):=aM;show aO (K3 K MC CT CW) _ _ [some (.str (aA k)),some (.ref R),some (.ref Bl),some (.ref a),some (.ref W),some v,some (.ref hd),none,none,none,none] (ad H1 hd (.lst (ws.map V.int)));generalize ad H1 hd (.lst (ws.map V.int))=H2 at x2 g2 ⊢;refine aY (te:=dD (MC 4) (wZ K MC CT CW) [] E0 (am (ag 5) (am (ag 6) aK))) (i:=7) ⟨_,rfl,_,rfl,λ x dx hx NT ne=>?_⟩;have xe:=eZ (u:=.own x) (v:=.ins (MC 4) dx []) hx NT ne;refine⟨x,v,.ref hd,dx,H2,rfl,aM,xe,hx,.inr ⟨k,pre.hk,me.ext x2,.inr (.inr ⟨hd,ws,rfl,g2,pre.wk,λ H3 kp wm=>⟨rfl,?_⟩⟩)⟩⟩;show aO K5 _ _ [some (.str (aA k)),some (.ref R),some (.ref Bl),some (.ref a),some (.ref W),some v,some (.ref hd),some (.ref x),none,none,none] H3;have NF:=xe.kp hx kp;have g3:=NF _ _ g2;have hW3:=NF _ _ (x2 _ _ X5);refine⟨_,rfl,_,rfl,_,_,lV g3,lV hW3,gE _,gE _,Di _,_,rfl,?_⟩;rw [io (gE _)];refine bZ ?_;show aO (Ln K) _ _ [some (.str (aA k)),some (.ref R),some (.ref Bl),some (.ref a),some (.ref W),some v,some (.ref hd),some (.ref x),none,none,none] H3;have OI:Ext H1 (wo H3 hd):=λ b o e=>aJ (λ z=>by rw [z,XW] at e;cases e) (NF _ _ (x2 _ _ e))
 have xw:=x1.trans OI;have nw:wo H3 hd hd=none:=by unfold wo;rw [Ø rfl]
 have Xd:=wm.wo g3;refine⟨_,rfl,.inl ⟨rfl,_,ç.of g3⟩,hd,_,rfl,rfl,g3,?_⟩;have x4:Ext (wo H3 hd) (ad H3 hd (.lst [])):=aI _ (ah _ _) nw;have g4:ad H3 hd (.lst []) hd=some (.lst []):=aM;show aO (KI K) _ _ [some (.str (aA k)),some (.ref R),some (.ref Bl),some (.ref a),some (.ref W),some v,some (.ref hd),some (.ref x),none,none,none] (ad H3 hd (.lst []));generalize ad H3 hd (.lst [])=H4 at x4 g4 ⊢;refine⟨_,rfl,.inl ⟨rfl,_,ç.of g4⟩,cL,λ y hy=>?_⟩;have x5:=Ext.new (o:=.lst [.int 3,.int 3,.int 3,.int 3,.int 3,.int 3]) hy;have g5:ad H4 y (.lst [.int 3,.int 3,.int 3,.int 3,.int 3,.int 3]) y=some (.lst [.int 3,.int 3,.int 3,.int 3,.int 3,.int 3]):=aM;have Yh:=x5 _ _ g4;generalize ad H4 y (.lst [.int 3,.int 3,.int 3,.int 3,.int 3,.int 3])=H5 at x5 g5 Yh ⊢;refine⟨hd,y,_,_,rfl,rfl,Yh,g5,cL,?_⟩;have x6:Ext (wo H3 hd) (ad H5 hd (.lst ([] ++ [.int 3,.int 3,.int 3,.int 3,.int 3,.int 3]))):=aI _ (x4.trans x5) nw;show aO (IC K C MC) _ _ [some (.str (aA k)),some (.ref R),some (.ref Bl),some (.ref a),some (.ref W),some v,some (.ref hd),some (.ref x),none,none,none] (ad H5 hd (.lst ([] ++ [.int 3,.int 3,.int 3,.int 3,.int 3,.int 3])));generalize ad H5 hd (.lst ([] ++ [.int 3,.int 3,.int 3,.int 3,.int 3,.int 3]))=H6 at x6 ⊢;have L:DP C MC (wo H3 hd) k ws (.ref x) R Bl a W r t D zs xs os:=⟨xw _ _ pre.hR,xw _ _ pre.hB,λ j hj=>⟨pre.hk,Xd,pre.wk,(pre.ru j hj).ext xw,pre.ok j hj,pre.fl j hj,xw _ _ pre.ha,pre.oc.Nu xw,pre.bd,pre.fk j hj⟩,λ j hj=>xw _ _ (pre.hD j hj),λ j hj=>(pre.ra j hj).mono xw,xw _ _ pre.hW⟩;refine⟨3,rfl,au,au,gO (lo:=0) (λ i σ H'=>∃ o8 o9 Ű,σ=[some (.str (aA k)),some (.ref R),some (.ref Bl),some (.ref a),some (.ref W),some v,some (.ref hd),some (.ref x),o8,o9,Ű]/\Ext (wo H3 hd) H') ⟨_,_,_,rfl,x6⟩ ?_ ?_⟩
 ·rintro i σ H' hi ⟨o8,o9,Ű,rfl,x'⟩;rw [Ŕ];exact AU L x' λ o9 Ű H2 x2=>⟨_,_,_,rfl,x2⟩
 ·rintro σ H' ⟨o8,o9,Ű,rfl,x'⟩;exact yM Z.Y (Xd.ext x') ((xw.trans x') _ _ pre.hW) λ H2 x2=>q H2 ((xw.trans x').trans x2)
end
section
variable {P:Program}{w:World}{K:Frag}{mg:bC}{base:Heap}{C:Nat->Addr}{f a0 a1 a2 a3 a4 a5:Addr}{fd d0 d1 d2 d3 d4 d5:FuncData}
structure Dv (P:Program)(w:World)(K:Frag)(mg:bC)(base:Heap)(C:Nat->Addr)(a0 a1 a2 a3 a4 a5:Addr)(d0 d1 d2 d3 d4 d5:FuncData):Prop where
 tk:Df P w K mg base aB 1 "_law_take" ["_law_script","_law_pen","_law_many"] (dH K) a0 d0
 rl:Df P w K mg base aB 9 "_law_rule" ["_law_script","_law_pen","_law_most"] (Ch K C) a1 d1
 oc:Df P w K mg base aB 2 "_law_outcomes" ["_law_script","_law_pen","_law_folk_here","_law_sure"] (Bh K) a2 d2
 fo:Df P w K mg base aB 1 "_law_folk" ["_law_blocks"] CC a3 d3
 pd:Df P w K mg base aB 8 "_law_parted" ["_law_script","_law_pen","_law_folk_here"] (C7 K C) a4 d4
 rt:Df P w K mg base aB 11 "_law_right" HM (zx C) a5 d5
 mr:mg "range" = none
 mt:mg "int" = none
 mn:mg "len" = none
 mm:mg "max" = none
abbrev qd:Stmt:=cw 81
abbrev IR:List Str:=["_law_script","_law_pen","_law_k","_law_rule_here","_law_blocks","_law_outcomes_here","_law_rules","_law_lap","_law_word","_law_many","_law_weights"]
theorem Sr:ae IR ["_law_script"] (aa qd):=aR
abbrev Iw:Scope:=dJ [("_law_place",.local),("_law_take",.globalImplicit),("_law_pen",.free),("_law_script",.free)]
abbrev IZ:Scope:=dJ [("_law_one",.local)]
theorem IH:((["_law_place"]:List Str)++(["_law_pen","_law_script"]:List Str)).Nodup:=av
theorem He:((["_law_one"]:List Str)++([]:List Str)).Nodup:=av
theorem uf:bu X IZ [] ["_law_one"] [] []:=j7 (L:=[(".0",.local),("_law_one",.local)]) rfl rfl av av av rfl av av
def Gq:List V->Hp->VK->Prop:=λ xs H Q=>(∃ i,xs=[.int i]/\Q (.int i) H)\/∃ k,xs=[.bl k]/\Q (.int (if k then 1 else 0)) H
def KP:List V->Hp->VK->Prop:=λ xs H Q=>∃ i j,xs=[.int i,.int j]/\Q (.int (if j>i then j else i)) H
def KD (K:Frag):TE:=aQ (dy K) (cg (am (tC (.int 8)) (am (tC (.int 20)) aK))) (gQ Gq (am (aQ nA (gk K (tC (.int 6))) (tC (.int 0))) aK))
def KC (K:Frag)(C:Nat->Addr):TS:=cR (iE (Ch K C) [] E0 (am (ag 0) (am (ag 1) (am (KD K) aK)))) (i3 K 2 (bT (ba 3) (bT (ba 4) ix)))
def JM (K:Frag):TS:=cR (iE (Bh K) [] E0 (am (ag 0) (am (ag 1) (am (iE CC [] E0 (am (ag 4) aK)) (am (aQ nA (gk K (tC (.int 2))) (tC (.int 0))) aK))))) (ba 5)
def IN:TS:=cR (cg (am (dO (am (ag 3) (am (ag 4) aK))) (am (dO (am (ag 3) (am (ag 4) aK))) aK))) (ba 6)
def Iq (K:Frag)(C:Nat->Addr):TS:=dA (tB (aQ (lW K) (ag 5) (cg aK))) (cR (iE (C7 K C) [] E0 (am (ag 0) (am (ag 1) (am (jS K 5) aK)))) (Dp (ag 6) (gk K (tC (.int 2))) qP)) bV
def Jj (K:Frag):TS:=cR (aQ (dy K) (cg (am (tC (.str "sum")) (am (tC (.str "ranks")) (am (tC (.str "wins")) (am (tC (.str "signs")) aK))))) (aQ (rI (λ _ j=>0<j) λ i j=>.int (i%j)) (aQ (dR λ i j=>.int (i+j)) (ag 7) (gk K (tC (.int 4)))) (tC (.int 4)))) (ba 8)
def Fa (K:Frag)(i:Int):TE:=gQ (λ xs H Q=>∃ p ys,xs=[.ref p]/\(ç K H p ys\/đ K H p ys)/\Q (.int ys.length) H) (am (aQ (ke K) (aQ (dy K) (ag 6) (tC (.int i))) (tC (.int 1))) aK)
def JP (K:Frag):TS:=cR (gQ KP (am (Fa K 0) (am (Fa K 1) aK))) (ba 9)
def JX (K:Frag):TS:=dA (tB (aQ nA (gk K (tC (.int 3))) (tC (.int 0)))) (cR (kJ (gk K (tC (.int 6)))) (ba 9)) bV
def KK (K:Frag):TE:=iE (dH K) [] E0 (am (ag 2) (am (ag 1) (am (aQ (dy K) (cg (am (tC (.int 21)) (am (tC (.int 3)) aK))) (iE (dH K) [] E0 (am (ag 2) (am (ag 1) (am (tC (.int 2)) aK))))) aK)))
def Ju (K:Frag):TS:=cR (dW (jd (am (gQ KP (am (tC (.int 1)) (am (ag 9) aK))) aK)) 1 [1,0] (ba 0) (KK K)) (ba 10)
def uY (K:Frag)(i:Int):TE:=dW (bL K (ag 6)) 1 [] (ba 0) (aQ (ke K) (ag 0) (tC (.int i)))
def HZ (K:Frag)(C:Nat->Addr):TS:=dA (tm (tB (iE (zx C) [] E0 (am (ag 8) (am (uY K 0) (am (uY K 1) (am (ag 5) (am (ag 10) aK)))))))) (cH (tC (.bl false))) bV
def HA (K:Frag)(C:Nat->Addr):TS:=gj (jd (am (tC (.int 4)) aK)) (ba 7) (aO (Jj K) (aO (JP K) (aO (JX K) (aO (Ju K) (HZ K C)))))
def tV (K:Frag)(C:Nat->Addr):TS:=gj (jd (am (tC (.int 2)) aK)) (ba 2) (aO (KC K C) (aO (JM K) (aO IN (aO (Iq K C) (HA K C)))))
def DZ (K:Frag)(C:Nat->Addr):TS:=aO (cR (yw K (am (tC (.int 0)) (am (tC (.int 0)) (am (tC (.int 7)) aK)))) (ba 1)) (aO (tV K C) (cH (tC (.bl true))))
section
variable {cdv:Value}{A:Around}{outer:List Env}{s:Shared}{H:Hp}{E:XK}
theorem BA:bu (aW aB P w K mg base IR "law" (aa qd) f cdv A outer s H E).ŋ Iw [("_law_script",s.heap.objs.size+1),("_law_pen",s.heap.objs.size+2)] ["_law_place"] ["_law_pen","_law_script"] [1,0] :=
 fK (M:=["_law_script","_law_pen"]) (L:=[(".0",.local),("_law_place",.local),("_law_take",.globalImplicit),("_law_pen",.cell),("_law_script",.cell)]) rfl rfl av av av rfl rfl rfl av av rfl rfl rfl
theorem wJ (D:Dv P w K mg base C a0 a1 a2 a3 a4 a5 d0 d1 d2 d3 d4 d5)(hr:pj 11 "law" qd A s f cdv):Bx (Ž (aW aB P w K mg base IR "law" (aa qd) f cdv A outer s H E).ŋ (aH qd) (DZ K C)):=by
 have nd:=Sr.nd;have ĭ:ă 1 _:=hr.mono au;have Md:ă 2 _:=hr.mono au;have Uo:ă 8 _:=hr.mono au;have hr9:ă 9 _:=hr.mono au;have V1:=hr.NG;exact dq (bq nd rfl (.inr rfl) ⟨wH (ac aF (ac aF (ac aF ao)))⟩) (dq ⟨bY .never rfl (dI rfl D.mr (ac aF ao)) (cq nd rfl (.inl rfl))
  (bU (gB (kU D.rl.G hr9 rfl D.rl.m D.rl.kp D.rl.b .nil ak (ac (pv 0) (ac (pv 1) (ac (cS fS (bM (ac aF (ac aF ao))) (aN iY rfl D.mt ŉ (ac (dB cj (kU D.tk.G ĭ rfl D.tk.m D.tk.kp D.tk.b .nil ak (ac (pv 0) (ac (pv 1) (ac aF ao)))) aF (ax _)) ao))) ao))))
    (bF rfl (eF (cq nd rfl (.inl rfl)) (eF (cq nd rfl (.inl rfl)) aZ))))
  (bU (gG nd rfl (.inl rfl) (kU D.oc.G Md rfl D.oc.m D.oc.kp D.oc.b .nil ak (ac (pv 0) (ac (pv 1) (ac (kU D.fo.G ĭ rfl D.fo.m D.fo.kp D.fo.b .nil ak (ac (pv 4) ao)) (ac (dB cj (kU D.tk.G ĭ rfl D.tk.m D.tk.kp D.tk.b .nil ak (ac (pv 0) (ac (pv 1) (ac aF ao)))) aF (ax _)) ao))))))
  (bU (gG nd rfl (.inl rfl) (bM (ac (aP (ac (pv 3) (ac (pv 4) ao))) (ac (aP (ac (pv 3) (ac (pv 4) ao))) ao))))
  (bU (be (ar (kE V1) (pv 5) (bM ao) (ax _)) (aX (gB (kU D.pd.G Uo rfl D.pd.m D.pd.kp D.pd.b .nil ak (ac (pv 0) (ac (pv 1) (ac (aj az rfl D.mn ê (ac (pv 5) ao)) ao)))) (jX (pv 6) (kU D.tk.G ĭ rfl D.tk.m D.tk.kp D.tk.b .nil ak (ac (pv 0) (ac (pv 1) (ac aF ao)))) fF))) f6)
  (aX (bY .never rfl (dI rfl D.mr (ac aF ao)) (cq nd rfl (.inl rfl))
   (bU (gG nd rfl (.inl rfl) (cS fS (bM (ac ay (ac ay (ac ay (ac ay ao))))) (aE c6 (aE bw (pv 7) (kU D.tk.G ĭ rfl D.tk.m D.tk.kp D.tk.b .nil ak (ac (pv 0) (ac (pv 1) (ac aF ao))))) aF)))
   (bU (gG nd rfl (.inl rfl) (aj (i9 rfl) rfl D.mm v_ (ac (aj az rfl D.mn ê (ac (cS ia (cS fS (pv 6) aF) aF) ao)) (ac (aj az rfl D.mn ê (ac (cS ia (cS fS (pv 6) aF) aF) ao)) ao))))
   (bU (be (ar cj (kU D.tk.G ĭ rfl D.tk.m D.tk.kp D.tk.b .nil ak (ac (pv 0) (ac (pv 1) (ac aF ao)))) aF (ax _)) (aX (gG nd rfl (.inl rfl) (aE bw aF (kU D.tk.G ĭ rfl D.tk.m D.tk.kp D.tk.b .nil ak (ac (pv 0) (ac (pv 1) (ac aF ao))))))) f6)
   (bU (nj rfl BA (dI rfl D.mr (ac (aj (i9 rfl) rfl D.mm v_ (ac aF (ac (pv 9) ao))) ao)) (λ s H C fp=>cq IH rfl (.inl rfl)) (λ s H C fp=>kU D.tk.G ĭ rfl D.tk.m D.tk.kp D.tk.b .nil ak (ac (pv 2) (ac (pv 1) (ac (cS fS (bM (ac aF (ac aF ao))) (kU D.tk.G ĭ rfl D.tk.m D.tk.kp D.tk.b .nil ak (ac (pv 2) (ac (pv 1) (ac aF ao))))) ao)))) nd rfl (.inl rfl) rfl)
   (aX (be (cp (bE (kU D.rt.G hr rfl D.rt.m D.rt.kp D.rt.b .nil ak (ac (pv 8) (ac (cu rfl uf (aS (pv 6)) (λ s H C fp=>cq He rfl (.inl rfl)) (λ s H C fp=>cS ia (pv 0) aF)) (ac (cu rfl uf (aS (pv 6)) (λ s H C fp=>cq He rfl (.inl rfl)) (λ s H C fp=>cS ia (pv 0) aF)) (ac (pv 5) (ac (pv 10) ao)))))))) (aX (dk vy)) f6))))))))))))⟩ (br ⟨dk vy⟩))
end
end
theorem Rl.XD:∀{t:Rl},t.ok->t.parts.length<=6
 | .one r,h=>by show 1<=6;decide
 | .blocks rs,h=>by show(cX 0 (rs.map R0.Ñ)).length<=6;rw [fc,Â];exact h.2.1
 | .first t m,h=>by
  exact õ (ĥ _ _) (by rw [Â];exact Rl.XD h.1)
structure L_ (K:Frag)(C:Nat->Addr)(H:Hp)(sA p S l:Addr)(ns:List Int)(c:Nat->Addr)(r:Nat->V)(t:Nat->Rl)(D:Nat->Addr)(zs:Nat->List V)(xs:List V)(os:List (Int × Bool)):Prop where
 sc:Sc K H sA p ns
 hS:wo H p S=some (.lst [.ref (c 0),.ref (c 1)])
 hc:∀ j,j<2->wo H p (c j)=some (.tup [r j,.ref (D j)])
 ru:∀ j,j<2->Ru C (wo H p) (t j) (r j)
 ok:∀ j,j<2->(t j).ok
 fl:∀ j,j<2->(t j).flat
 fk:∀ j,j<2->(t j).Ñ =(os.length:Nat)
 hD:∀ j,j<2->wo H p (D j)=some (.lst (zs j))
 ra:∀ j,j<2->Ù (wo H p) (zs j) ((t j).bl.map gV)
 hl:wo H p l=some (.lst xs)
 ro:Ù (wo H p) xs (os.map DE)
 bd:sW os
section
variable {P:Program}{w:World}{K:Frag}{mg:bC}{base:Heap}{C:Nat->Addr}{De:bX}{u:TS}{H H':Hp}{sA p S l:Addr}{ns:List Int}{c:Nat->Addr}{r:Nat->V}{t:Nat->Rl}{D:Nat->Addr}{zs:Nat->List V}{xs:List V}{os:List (Int × Bool)}{o2 o3 o4 o8 o9 Ű:Option V}
theorem L_.go (h:L_ K C H sA p S l ns c r t D zs xs os)(sc:Sc K H' sA p ns)(x:Ext (wo H p) (wo H' p)):L_ K C H' sA p S l ns c r t D zs xs os :=
 ⟨sc,x _ _ h.hS,λ j hj=>x _ _ (h.hc j hj),λ j hj=>(h.ru j hj).ext x,h.ok,h.fl,h.fk,λ j hj=>x _ _ (h.hD j hj),λ j hj=>(h.ra j hj).mono x,x _ _ h.hl,h.ro.mono x,h.bd⟩
theorem L_.ext (h:L_ K C H sA p S l ns c r t D zs xs os)(x:Ext H H'):L_ K C H' sA p S l ns c r t D zs xs os:=h.go (h.sc.ext x) (bn x p)
theorem xB:∀ m:Nat,m<4->([.str "sum",.str "ranks",.str "wins",.str "signs"]:List V)[m]?=some (.str (aA m))
 | 0,_=>rfl
 | 1,_=>rfl
 | 2,_=>rfl
 | 3,_=>rfl
theorem EB (h:L_ K C H sA p S l ns c r t D zs xs os)(q:∀ k H',k<4->L_ K C H' sA p S l ns c r t D zs xs os->u De [some (.ref sA),some (.ref p),o2,o3,o4,some (.ref l),some (.ref S),some (.int (0+(i:Nat))),some (.str (aA k)),o9,Ű] H') :
  aO (Jj K) u De [some (.ref sA),some (.ref p),o2,o3,o4,some (.ref l),some (.ref S),some (.int (0+(i:Nat))),o8,o9,Ű] H:=by
 refine⟨cL,λ L hL=>?_⟩;have x0:=Ext.new (o:=.lst [V.str "sum",.str "ranks",.str "wins",.str "signs"]) hL;have g0:ad H L (.lst [V.str "sum",.str "ranks",.str "wins",.str "signs"]) L=some (.lst [V.str "sum",.str "ranks",.str "wins",.str "signs"]):=aM;have n0:=h.sc.bx.ne hL;have h0:=h.ext x0;refine⟨_,rfl,?_⟩;generalize ad H L (.lst [.str "sum",.str "ranks",.str "wins",.str "signs"])=H0 at x0 g0 h0 ⊢;refine bo h0.sc rfl rfl (λ R r=>r) au au λ z H1 z0 z4 ŗ k1=>?_;have g1:=k1 _ _ g0 n0;have h1:=h0.go ŗ (aL k1);obtain⟨m,em,lm⟩:∃ m:Nat,((0+(i:Nat):Int)+z)%4=(m:Nat)/\m<4:=⟨(((0+(i:Nat):Int)+z)%4).toNat,ai,ai⟩;exact⟨_,_,rfl,rfl,_,_,rfl,rfl,(by show(0:Int)<4;decide),L,_,_,_,rfl,rfl,ç.of g1,by rw [em];exact dh (xB m lm),q m H1 lm h1⟩
theorem D0 (h:L_ K C H sA p S l ns c r t D zs xs os)(q:∀ m:Int,m<=6->u De [some (.ref sA),some (.ref p),o2,o3,o4,some (.ref l),some (.ref S),o7,o8,some (.int m),Ű] H) :
  aO (JP K) u De [some (.ref sA),some (.ref p),o2,o3,o4,some (.ref l),some (.ref S),o7,o8,o9,Ű] H:=by
 have xw:=ah H p;have ln:∀ j,j<2->(zs j).length<=6:=λ j hj=>by
  have:=(h.ra j hj).length;rw [Â] at this;have l2:=ġ List.length (gH (h.ok j hj) (h.fl j hj));rw [Â] at l2;have:=Rl.XD (h.ok j hj);omega
 refine⟨_,rfl,S,_,_,_,rfl,rfl,ç.of (xw _ _ h.hS),dh rfl,c 0,_,_,_,rfl,rfl,đ.of (xw _ _ (h.hc 0 au)),dh rfl,D 0,_,rfl,.inl (ç.of (xw _ _ (h.hD 0 au))),?_⟩;refine⟨_,rfl,S,_,_,_,rfl,rfl,ç.of (xw _ _ h.hS),dh rfl,c 1,_,_,_,rfl,rfl,đ.of (xw _ _ (h.hc 1 au)),dh rfl,D 1,_,rfl,.inl (ç.of (xw _ _ (h.hD 1 au))),_,_,rfl,?_⟩;refine q _ ?_;have l0:=ln 0 au;have l1:=ln 1 au;split <;> omega
theorem EI (h:L_ K C H sA p S l ns c r t D zs xs os)(hm:m<=6)(q:∀ m H',m<=6->L_ K C H' sA p S l ns c r t D zs xs os->u De [some (.ref sA),some (.ref p),o2,o3,o4,some (.ref l),some (.ref S),o7,o8,some (.int m),Ű] H') :
  aO (JX K) u De [some (.ref sA),some (.ref p),o2,o3,o4,some (.ref l),some (.ref S),o7,o8,some (.int m),Ű] H:=by
 refine bo h.sc rfl rfl (λ R r=>r) au au λ z H1 z0 z3 ŗ k1=>⟨rfl,_,rfl,?_⟩;have h1:=h.go ŗ (aL k1);refine jP (λ _=>?_) (λ _=>q m H1 hm h1);refine bo h1.sc rfl rfl (λ R r=>r) au au λ z' H2 z0' z6' Τ k2=>⟨_,_,rfl,rfl,?_⟩;exact q _ H2 ai (h1.go Τ (aL k2))
end
section
variable {P:Program}{w:World}{K:Frag}{mg:bC}{base:Heap}{C:Nat->Addr}{De:bX}{u:TS}{H H':Hp}{sA p S l:Addr}{ns:List Int}{c:Nat->Addr}{r:Nat->V}{t:Nat->Rl}{D:Nat->Addr}{zs:Nat->List V}{xs:List V}{os:List (Int × Bool)}{o2 o3 o4 o7 o8 o9 Ű:Option V}
theorem FC (sc:Sc K H sA p ns)(q:∀ z H',0<=z->z<=20->Sc K H' sA p ns->(∃ H1,Ext H H1/\Kept H1 H' p)->Q (.int z) H'):KK K [o,some (.ref p),some (.ref sA)] H Q:=by
 refine⟨_,rfl,_,rfl,cL,λ L hL=>?_⟩;have x0:=Ext.new (o:=.lst [V.int 21,.int 3]) hL;have g0:ad H L (.lst [V.int 21,.int 3]) L=some (.lst [V.int 21,.int 3]):=aM;have n0:=sc.bx.ne hL;have P6:=sc.ext x0;generalize ad H L (.lst [.int 21,.int 3])=H0 at x0 g0 P6 ⊢;refine⟨_,rfl,_,rfl,sA,ns,p,2,rfl,P6.sq,P6.Oc,P6.ne,P6.bx,au,au,λ z H1 z0 z2 b1 k1 _=>?_⟩;have ŗ:=P6.kept k1 b1;have g1:=k1 _ _ g0 n0;obtain⟨j,b,ej,eb,b0,b21⟩:∃(j:Nat)(b:Int),z=(j:Nat)/\([.int 21,.int 3]:List V)[j]?=some (.int b)/\0<b/\b<=21:=by
  by_cases e:z=0
  ·exact⟨0,21,by rw [e];rfl,rfl,au,au⟩
  ·exact⟨1,3,ai,rfl,au,au⟩
 refine⟨L,_,_,.int b,rfl,rfl,ç.of g1,by rw [ej];exact dh eb,sA,ns,p,b,rfl,ŗ.sq,ŗ.Oc,ŗ.ne,ŗ.bx,b0,ai,λ z' H2 y0 y1 b2 k2 _=>?_⟩
 exact q z' H2 y0 ai (ŗ.kept k2 b2) ⟨H0,x0,k1.trans k2⟩
theorem Gu (h:L_ K C H sA p S l ns c r t D zs xs os)(hm:m<=6)(q:∀ W ws H',zy ws->L_ K C H' sA p S l ns c r t D zs xs os->H' W=some (.lst (ws.map V.int))->u De [some (.ref sA),some (.ref p),o2,o3,o4,some (.ref l),some (.ref S),o7,o8,some (.int m),some (.ref W)] H') :
  aO (Ju K) u De [some (.ref sA),some (.ref p),o2,o3,o4,some (.ref l),some (.ref S),o7,o8,some (.int m),Ű] H:=by
 have sz:=Ö;obtain⟨n,en,n1,n6⟩:∃ n:Nat,(if m>1 then m else 1)=(n:Nat)/\1<=n/\n<=6:=⟨(if m>1 then m else 1).toNat,by split <;> omega,by split <;> omega,by split <;> omega⟩
 refine⟨_,rfl,1,m,rfl,(if m>1 then m else 1),rfl,by rw [en];omega,by rw [en];omega,λ D2 Ŧ=>?_⟩
 rw [en,Ģ];have np:=h.sc.bx.ne Ŧ;refine i8 (λ i ys H'=>Ext (wo H p) (wo H' p)/\Ľ H' p/\∃ ws:List Int,ys=ws.map .int/\ws.length=i/\∀ y∈ws,0<=y/\y<=20) ai ⟨bn (.new Ŧ) p,h.sc.bx.ext (.new Ŧ),[],rfl,rfl,λ y hy=>nomatch hy⟩ ?_ ?_
 ·rintro i ys H' hi ly Ġ ⟨x',WI,ws,rfl,lw,hw⟩ ι ŀ R kk;obtain⟨q0,rfl⟩:∃ o0,ι=[o0]:=by
   match ι,ŀ with
   | [o0],_=>exact⟨o0,rfl⟩
  refine⟨⟨[_],rfl,rfl⟩,?_⟩;refine FC (h.sc.RU x' WI) λ z H2 z0 z20 Τ ⟨H1,x1,k1⟩=>?_;have WB:=k1 _ _ (x1 _ _ Ġ) np;refine kk _ H2 WB ⟨λ b o e=>?_,Τ.bx.up np,ws ++ [z],by rw [Ì];rfl,by rw [Í,lw];rfl,λ y hy=>?_⟩
  ·have nb:b≠D2:=λ z=>by
    have:=ah _ _ _ _ e;rw [z,Ŧ] at this;cases this
   exact aJ (eL e) (by rw [af nb];exact ah _ _ _ _ ((aL k1) _ _ ((bn x1 p) _ _ (x' _ _ e))))
  ·rcases ģ.mp hy with y' | y'
   ·exact hw y y'
   ·rw [ä.mp y'];exact⟨z0,z20⟩
 ·rintro ys H' ly Ġ ⟨x',WI,ws,rfl,lw,hw⟩;exact q D2 ws H' ⟨ai,ai,hw⟩ (h.go (h.sc.RU x' WI) x') Ġ
theorem qC {v:Nat->V}(s6:σ[6]?=some (some (.ref S)))(hS:H S=some (.lst [.ref (c 0),.ref (c 1)]))(hc:∀ j,j<2->∃ ys,H (c j)=some (.tup ys)/\ys[i]?=some (v j))(q:∀ R H',Ext H H'->H' R=some (.lst [v 0,v 1])->Q (.ref R) H'):uY K (i:Nat) σ H Q:=by
 have sz:=Ö;refine⟨_,s6,S,rfl,⟨_,ç.of hS⟩,λ D2 Ŧ=>?_⟩;refine bD (λ n ys H'=>Ext H H'/\ys=[v 0,v 1].take n) (by show 2<sizeLine;rw [sz];decide) ⟨.new Ŧ,rfl⟩ (λ n ys H' pv=>ç.of (pv.1 _ _ hS)) ?_ ?_
 ·rintro n x ys H' ex ly Ġ ⟨x',rfl⟩ ι ŀ R kk;obtain⟨q0,rfl⟩:∃ o0,ι=[o0]:=by
   match ι,ŀ with
   | [o0],_=>exact⟨o0,rfl⟩
  have hn:=(Å.mp ex).1;obtain⟨ys,hy,ey⟩:=hc n hn
  match n,hn,ex with
  | 0,_,ex =>
   cases ex;exact⟨⟨[_],rfl,rfl⟩,_,rfl,c 0,ys,_,_,rfl,rfl,đ.of (x' _ _ hy),dh ey,kk _ H' Ġ ⟨aI _ x' Ŧ,rfl⟩⟩
  | 1,_,ex =>
   cases ex;exact⟨⟨[_],rfl,rfl⟩,_,rfl,c 1,ys,_,_,rfl,rfl,đ.of (x' _ _ hy),dh ey,kk _ H' Ġ ⟨aI _ x' Ŧ,rfl⟩⟩
 ·rintro ys H' ly Ġ ⟨x',rfl⟩;exact q D2 H' x' Ġ
end
section
variable {P:Program}{w:World}{K:Frag}{mg:bC}{base:Heap}{C:Nat->Addr}{De:bX}{u:TS}{H H':Hp}{sA p S l:Addr}{ns:List Int}{c:Nat->Addr}{r:Nat->V}{t:Nat->Rl}{D:Nat->Addr}{zs:Nat->List V}{xs:List V}{os:List (Int × Bool)}{o2 o3 o4 o7 o8 o9 Ű:Option V}
theorem DR (hk:k<4)(wk:zy ws)(h:L_ K C H sA p S l ns c r t D zs xs os)(hW:H W=some (.lst (ws.map V.int)))(q:∀ H',L_ K C H' sA p S l ns c r t D zs xs os->De.nx [some (.ref sA),some (.ref p),o2,o3,o4,some (.ref l),some (.ref S),o7,some (.str (aA k)),o9,some (.ref W)] H') :
  HZ K C De [some (.ref sA),some (.ref p),o2,o3,o4,some (.ref l),some (.ref S),o7,some (.str (aA k)),o9,some (.ref W)] H:=by
 have xw:=ah H p;refine⟨_,rfl,qC rfl (xw _ _ h.hS) (λ j hj=>⟨_,xw _ _ (h.hc j hj),rfl⟩) λ R H1 x1 hR=>?_⟩;refine qC rfl (x1 _ _ (xw _ _ h.hS)) (λ j hj=>⟨_,x1 _ _ (xw _ _ (h.hc j hj)),rfl⟩) λ Bl H2 x2 hB=>?_;have Ţ:=x1.trans x2;have xx:=xw.trans Ţ;refine⟨_,rfl,_,rfl,k,ws,R,Bl,l,W,r,t,D,zs,xs,os,rfl,⟨hk,wk,x2 _ _ hR,hB,λ j hj=>(h.ru j hj).ext xx,h.ok,h.fl,h.fk,xx _ _ h.hl,E1 (h.ro.mono xx),h.bd,λ j hj=>xx _ _ (h.hD j hj),λ j hj=>(h.ra j hj).mono xx,Ţ _ _ hW⟩,λ H3 x3=>?_⟩;exact⟨_,rfl,bZ (q H3 (h.ext (Ţ.trans x3)))⟩
theorem w4 (h:L_ K C H sA p S l ns c r t D zs xs os)(q:∀ o8 o9 Ű H',L_ K C H' sA p S l ns c r t D zs xs os->De.nx [some (.ref sA),some (.ref p),o2,o3,o4,some (.ref l),some (.ref S),some (.int (0+(i:Nat))),o8,o9,Ű] H') :
  aO (Jj K) (aO (JP K) (aO (JX K) (aO (Ju K) (HZ K C)))) De [some (.ref sA),some (.ref p),o2,o3,o4,some (.ref l),some (.ref S),some (.int (0+(i:Nat))),o8,o9,Ű] H :=
 EB h λ k H1 hk h1=>D0 h1 λ m hm=>EI h1 hm λ m H2 hm h2=>Gu h2 hm λ W ws H3 wk h3 hW=>DR hk wk h3 hW λ H4 h4=>q _ _ _ H4 h4
theorem xU (h:L_ K C H sA p S l ns c r t D zs xs os)(q:∀ o7 o8 o9 Ű H',Sc K H' sA p ns->De.nx [some (.ref sA),some (.ref p),o2,o3,o4,some (.ref l),some (.ref S),o7,o8,o9,Ű] H'):HA K C De [some (.ref sA),some (.ref p),o2,o3,o4,some (.ref l),some (.ref S),o7,o8,o9,Ű] H:=by
 refine⟨4,rfl,au,au,gO (λ i σ H'=>∃ o7 o8 o9 Ű,σ=[some (.ref sA),some (.ref p),o2,o3,o4,some (.ref l),some (.ref S),o7,o8,o9,Ű]/\L_ K C H' sA p S l ns c r t D zs xs os) ⟨_,_,_,_,rfl,h⟩ ?_ ?_⟩
 ·rintro i σ H' hi ⟨o7,o8,o9,Ű,rfl,h'⟩;exact w4 h' λ o8 o9 Ű H2 h2=>⟨_,_,_,_,rfl,h2⟩
 ·rintro σ H' ⟨o7,o8,o9,Ű,rfl,h'⟩;exact q _ _ _ _ H' h'.sc
end
theorem BF:∀(os:List (Int × Bool)),į (os.map DE)=true:=λ os=>gJ λ d hd=>by
 obtain⟨o,_,rfl⟩:=ð.mp hd;simp [DE,cz,į]
theorem qL (hs:G S=some (.lst ys))(rf:∀ y∈ys,∃ a,y=.ref a):∀{B:List Bk},(∀ b∈B,b.2 ≠ [])->Ù G zs (B.map gV)->Ù (wo G S) zs (B.map gV):=by
 intro B
 induction B generalizing zs with
 | nil=>intro _ h;cases h;exact .nil
 | cons b B ih =>
  intro ne h;cases h with
  | cons r t =>
   refine .cons ?_ (ih (λ x hx=>ne x (á _ hx)) t);obtain⟨a,l,rfl,ha,hl⟩:=jc r;refine oC (aJ (λ e=>by rw [e,hs] at ha;cases ha) ha) (aJ (λ e=>?_) hl)
   rw [e,hs] at hl;have hn:=ne b (ò ..);cases eb:b.2 with
   | nil=>exact hn eb
   | cons i is =>
    rw [eb] at hl;cases hl;obtain⟨_,z⟩:=rf (.int i) (ò ..);cases z
theorem vm {t:Rl}(ok:t.ok)(fl:t.flat):∀ b∈t.bl,b.2 ≠ []:=λ b hb=>by
 obtain⟨ns,h1,h2,_⟩:=hG ok fl;refine l7 ns 0 h1 b.2 ?_;rw [<- h2,<- gH ok fl];exact ð.mpr ⟨b,hb,rfl⟩
theorem sT (hs:G S=some (.lst ys)):tT G (wo G S):=λ a o e n=>aJ (λ z=>by subst z;rw [hs] at e;cases e;exact n _ rfl) e
def sQ {α:Type}(f:Nat->α)(j:Nat)(x:α):Nat->α:=λ i=>if i=j then x else f i
section
variable {P:Program}{w:World}{K:Frag}{mg:bC}{base:Heap}{C:Nat->Addr}{De:bX}{u:TS}{H H':Hp}{sA p S l:Addr}{ns:List Int}{c:Nat->Addr}{r:Nat->V}{t:Nat->Rl}{D:Nat->Addr}{zs:Nat->List V}{xs:List V}{os:List (Int × Bool)}
theorem L_.put (h:L_ K C H sA p S l ns c r t D zs xs os)(nD:∀ j,j<2->D j≠S)(nl:l≠S)(hj:j<2)(ha:wo H p a'=some (.tup [v',.ref D']))(ru:Ru C (wo H p) t' v')(ok:t'.ok)(fl:t'.flat)(fk:t'.Ñ =(os.length:Nat))(hD:wo H p D'=some (.lst UF))(Ua:D'≠S)(ra:Ù (wo H p) UF (t'.bl.map gV)) :
  L_ K C (ad H S (.lst (([.ref (c 0),.ref (c 1)]:List V).set j (.ref a')))) sA p S l ns (sQ c j a') (sQ r j v') (sQ t j t') (sQ D j D') (sQ zs j UF) xs os:=by
 have hS:=h.hS;have Vt:S≠p:=eL hS;have Oe:=ah _ _ _ _ hS;have rf:∀ y∈([.ref (c 0),.ref (c 1)]:List V),∃ a,y=.ref a:=λ y hy=>by
  simp only [List.mem_cons,List.not_mem_nil,or_false] at hy;rcases hy with rfl | rfl
  ·exact⟨_,rfl⟩
  ·exact⟨_,rfl⟩
 have x:Ext (wo (wo H p) S) (wo (ad H S (.lst (([.ref (c 0),.ref (c 1)]:List V).set j (.ref a')))) p):=λ b o e=>by
  have e1:=ah _ _ _ _ e;exact aJ (eL e1) (by rw [af (eL e)];exact ah _ _ _ _ e1)
 have kp:=sT hS;have tup:∀{b:Addr}{ys:List V},wo H p b=some (.tup ys)->wo (wo H p) S b=some (.tup ys):=λ {b ys} e=>aJ (λ z=>by rw [z,hS] at e;cases e) e
 have pick:∀{α:Type}{f:Nat->α}{y:α}{Pp:α->Prop},(∀ i,i<2->Pp (f i))->Pp y->∀ i,i<2->Pp (sQ f j y i):=λ {α f y Pp} h1 h2 i hi=>by
  unfold sQ;split
  ·exact h2
  ·exact h1 i hi
 refine⟨⟨?_,h.sc.Oc,h.sc.ne,h.sc.bx.up Vt⟩,?_,λ i hi=>?_,λ i hi=>?_,pick h.ok ok,pick h.fl fl,λ i hi=>?_,λ i hi=>?_,λ i hi=>?_,x _ _ (aJ nl h.hl),(h.ro.Ğ kp (BF os)).mono x,h.bd⟩
 ·rcases h.sc.sq with(e | ⟨o,e⟩) | e
  ·refine .inl (.inl ?_);rw [af (λ z=>?_)]
   ·exact e
   ·rw [z,Oe] at e;cases ns with
    | nil=>cases e
    | cons n ns=>cases e
  ·refine .inl (.inr ⟨o,?_⟩);rw [af (λ z=>by rw [z,Oe] at e;cases e)]
   exact e
  ·exact .inr e
 ·refine aJ Vt ?_;rw [aM]
  match j,hj with
  | 0,_=>rfl
  | 1,_=>rfl
 ·refine x _ _ (tup ?_);unfold sQ;by_cases e:i=j
  ·simp only [if_pos e];exact ha
  ·simp only [if_neg e];exact h.hc i hi
 ·unfold sQ;by_cases e:i=j
  ·simp only [if_pos e];exact(ru.Ğ kp).ext x
  ·simp only [if_neg e];exact((h.ru i hi).Ğ kp).ext x
 ·unfold sQ;by_cases e:i=j
  ·simp only [if_pos e];exact fk
  ·simp only [if_neg e];exact h.fk i hi
 ·unfold sQ;by_cases e:i=j
  ·simp only [if_pos e];exact x _ _ (aJ Ua hD)
  ·simp only [if_neg e];exact x _ _ (aJ (nD i hi) (h.hD i hi))
 ·unfold sQ;by_cases e:i=j
  ·simp only [if_pos e];exact(qL hS rf (vm ok fl) ra).mono x
  ·simp only [if_neg e];exact(qL hS rf (vm (h.ok i hi) (h.fl i hi)) (h.ra i hi)).mono x
end
section
variable {P:Program}{w:World}{K:Frag}{mg:bC}{base:Heap}{C:Nat->Addr}{f a0 a1 a2 a3 a4 a5:Addr}{fd d0 d1 d2 d3 d4 d5:FuncData}{De:bX}{u:TS}{H:Hp}{sA p:Addr}{ns:List Int}{o2 o3 o4 o5 o6 o7 o8 o9 Ű:Option V}
theorem Fx (sc:Sc K H sA p ns)(s0:σ[0]?=some (some (.ref sA)))(s1:σ[1]?=some (some (.ref p)))(k:∀ m H',1<=m->m<=20->Sc K H' sA p ns->Ext (wo H p) (wo H' p)->R (.int m) H'):KD K σ H R:=by
 refine⟨cL,λ l0 h0=>?_⟩;have x0:=Ext.new (o:=.lst [V.int 8,.int 20]) h0;have g0:ad H l0 (.lst [V.int 8,.int 20]) l0=some (.lst [V.int 8,.int 20]):=aM;have n0:=sc.bx.ne h0;have P6:=sc.ext x0;generalize ad H l0 (.lst [.int 8,.int 20])=H0 at x0 g0 P6 ⊢;refine bo P6 s0 s1 (λ R r=>r) au au λ z H1 z0 z6 ŗ k1=>⟨rfl,.inr ⟨_,rfl,?_⟩⟩;have g1:=k1 _ _ g0 n0;have xa:=(bn x0 p).trans (aL k1);obtain⟨j,b,ej,eb,b1,b2⟩:∃(j:Nat)(b:Int),(if decide (V.int z=.int 0)=true then(1:Int) else 0)=(j:Nat)/\([.int 8,.int 20]:List V)[j]?=some (.int b)/\1<=b/\b<=20:=by
  by_cases e:z=0
  ·exact⟨1,20,by rw [Ë (by rw [e])];rfl,rfl,au,au⟩
  ·exact⟨0,8,by rw [È (λ q=>e (V.int.inj q))];rfl,rfl,au,au⟩
 exact⟨l0,_,_,.int b,rfl,rfl,ç.of g1,by rw [ej];exact dh eb,k b _ b1 b2 ŗ xa⟩
theorem wy (sc:Sc K H sA p ns)(q:∀ o3 o4 o5 o6 o7 o8 o9 Ű H',Sc K H' sA p ns->De.nx [some (.ref sA),some (.ref p),o2,o3,o4,o5,o6,o7,o8,o9,Ű] H') :
  aO (KC K C) (aO (JM K) (aO IN (aO (Iq K C) (HA K C)))) De [some (.ref sA),some (.ref p),o2,o3,o4,o5,o6,o7,o8,o9,Ű] H:=by
 refine⟨_,rfl,_,rfl,Fx sc rfl rfl λ m H1 m1 m2 ŗ x1=>⟨sA,p,ns,m,rfl,ŗ,m1,m2,λ a v D zs t H2 Τ x2 nD ha ru fl ok hD ra=>?_⟩⟩;refine⟨a,_,rfl,đ.of (ah _ _ _ _ ha),rfl,_,_,rfl,_,_,rfl,rfl,?_⟩;have sm:=Rl.sm ok;have lb:t.bl.length<=20:=by
  have:=ġ List.length (gH ok fl);rw [Â] at this;have:=sm.1;omega
 have bf:=ġ List.length (wD ok fl);rw [dQ] at bf;have fk:=Rl.ď ok;show aO (JM K) _ _ [some (.ref sA),some (.ref p),o2,some v,some (.ref D),o5,o6,o7,o8,o9,Ű] H2;refine⟨_,rfl,_,rfl,_,rfl,D,zs,t.bl,rfl,ah _ _ _ _ hD,ra.mono (ah _ _),lb,λ H3 x3=>?_⟩;have B':=Τ.ext x3;show gk K (tC (.int 2)) _ H3 _;refine bo B' rfl rfl (λ R r=>r) au au λ z H4 z0 z2 Ov k4=>⟨rfl,?_⟩;refine⟨sA,p,ns,(t.bl.map (·.2)).flatten.length,_,rfl,Ov,ai,λ l xs os H5 Ou x5 nl hl ro bd lo=>?_⟩;show aO IN _ _ [some (.ref sA),some (.ref p),o2,some v,some (.ref D),some (.ref l),o6,o7,o8,o9,Ű] H5;have OH:Ext (wo H2 p) (wo H5 p):=((bn x3 p).trans (aL k4)).trans x5;refine⟨_,rfl,_,rfl,cL,λ c0 Uu=>?_⟩;have y0:=Ext.new (o:=.tup [v,.ref D]) Uu;have g0:ad H5 c0 (.tup [v,.ref D]) c0=some (.tup [v,.ref D]):=aM;have n0:=Ou.bx.ne Uu;have Pb:=Ou.ext y0;generalize ad H5 c0 (.tup [v,.ref D])=H6 at y0 g0 Pb ⊢;refine⟨_,rfl,_,rfl,cL,λ c1 X0=>?_⟩;have y1:=Ext.new (o:=.tup [v,.ref D]) X0;have g1:ad H6 c1 (.tup [v,.ref D]) c1=some (.tup [v,.ref D]):=aM;have n1:=Pb.bx.ne X0;have SB:=Pb.ext y1;generalize ad H6 c1 (.tup [v,.ref D])=H7 at y1 g1 SB ⊢;refine⟨cL,λ S hS=>?_⟩;have y2:=Ext.new (o:=.lst [.ref c0,.ref c1]) hS;have g2:ad H7 S (.lst [.ref c0,.ref c1]) S=some (.lst [.ref c0,.ref c1]):=aM;have n2:=SB.bx.ne hS;have Xk:=SB.ext y2;have WZ:=y0.trans y1;have Xe:=bn WZ p;have nDS:D≠S:=λ e=>by
  have:=ah _ _ _ _ (Xe _ _ (OH _ _ hD));rw [e,hS] at this;cases this
 have nlS:l≠S:=λ e=>by
  have:=ah _ _ _ _ (Xe _ _ hl);rw [e,hS] at this;cases this
 show aO (Iq K C) (HA K C) _ [some (.ref sA),some (.ref p),o2,some v,some (.ref D),some (.ref l),some (.ref S),o7,o8,o9,Ű] (ad H7 S (.lst [.ref c0,.ref c1]));generalize ad H7 S (.lst [.ref c0,.ref c1])=H8 at y2 g2 Xk ⊢;have US:=bn (WZ.trans y2) p;have Sa:=OH.trans US;have fo:t.Ñ =(os.length:Nat):=by rw [lo];omega
 have lx:=ro.length;rw [Â] at lx;have h8:L_ K C H8 sA p S l ns (λ j=>if j=0 then c0 else c1) (λ _=>v) (λ _=>t) (λ _=>D) (λ _=>zs) xs os :=
  ⟨Xk,aJ n2 g2,λ j hj=>by
   match j,hj with
   | 0,_=>exact aJ n0 ((y1.trans y2) _ _ g0)
   | 1,_=>exact aJ n1 (y2 _ _ g1),λ _ _=>ru.ext Sa,λ _ _=>ok,λ _ _=>fl,λ _ _=>fo,λ _ _=>Sa _ _ hD,λ _ _=>ra.mono Sa,US _ _ hl,ro.mono US,bd⟩
 refine⟨_,rfl,cL,λ e he=>?_⟩;have y3:=Ext.new (o:=.lst []) he;have g3:ad H8 e (.lst []) e=some (.lst []):=aM;have h9:=h8.ext y3;generalize ad H8 e (.lst [])=H9 at y3 g3 h9 ⊢;refine⟨l,e,xs,rfl,rfl,ç.of (ah _ _ _ _ h9.hl),ç.of g3,_,rfl,?_⟩;refine jP (λ cc=>?_) (λ _=>?_)
 ·have l1:1<=xs.length:=by
   cases xs with
   | nil=>cases cc
   | cons y ys=>show 1<=ys.length+1;omega
  refine⟨_,rfl,_,rfl,_,rfl,l,xs,rfl,.inl (ç.of (ah _ _ _ _ h9.hl)),sA,p,ns,xs.length,rfl,h9.sc,l1,ai,λ a' v' D' UF rs H10 U8 TX Ua Uw PF ok' Nz ra' fk'=>?_⟩;have Yd:=h9.go U8 TX;have Vu:D'≠S:=λ z=>by rw [z,h9.hS] at Ua;cases Ua
  refine⟨_,rfl,?_⟩;refine bo Yd.sc rfl rfl (λ R r=>r) au au λ z H11 z0 z2 U7 k11=>?_;have Se:=aL k11;have Yc:=Yd.go U7 Se;obtain⟨j,ej,lj⟩:∃ j:Nat,z=(j:Nat)/\j<2:=⟨z.toNat,ai,ai⟩;refine⟨S,_,_,j,rfl,rfl,ah _ _ _ _ Yc.hS,?_,?_⟩
  ·rw [ej]
   match j,lj with
   | 0,_=>rfl
   | 1,_=>rfl
  ·exact xU (Yc.put (λ _ _=>nDS) nlS lj (Se _ _ Uw) (PF.ext Se) ok' True.intro (by rw [fk',lx]) (Se _ _ Nz) Vu (ra'.mono Se)) λ o7 o8 o9 Ű H' s'=>q _ _ _ _ _ _ _ _ H' s'
 ·exact xU h9 λ o7 o8 o9 Ű H' s'=>q _ _ _ _ _ _ _ _ H' s'
def rF (K:Frag):Sp:=λ vs H Q _=>∃(a:Addr)(ns:List Int),vs=[.ref a]/\ç K H a (ns.map V.int)/\ns.length<=63/\H sysModules=none/\∀ H',Q (.bl true) H'
theorem Cw (ha:ç K H a (ns.map V.int))(Oc:ns.length<=63)(q:∀ H',De.rt (.bl true) H'):Bx (DZ K C De [some (.ref a),o1,o2,o3,o4,o5,o6,o7,o8,o9,Ű] H):=by
 constructor;refine aY ⟨cL,λ p hp hk=>?_⟩;have np:=ç.neN ha hp hk;have c:Sc K (ad H p (.lst [.int 0,.int 0,.int 7])) a p ns:=⟨My.ç.ext ha (.new hp),Oc,np,⟨0,0,7,aM,au,au,au,au⟩⟩;generalize ad H p (.lst [.int 0,.int 0,.int 7])=H1 at c ⊢;refine⟨2,rfl,au,au,gO (λ i σ H'=>∃ o2 o3 o4 o5 o6 o7 o8 o9 Ű,σ=[some (.ref a),some (.ref p),o2,o3,o4,o5,o6,o7,o8,o9,Ű]/\Sc K H' a p ns) ⟨_,_,_,_,_,_,_,_,_,rfl,c⟩ ?_ ?_⟩
 ·rintro i σ H' hi ⟨o2,o3,o4,o5,o6,o7,o8,o9,Ű,rfl,h⟩;exact wy h λ o3 o4 o5 o6 o7 o8 o9 Ű H2 h2=>⟨_,_,_,_,_,_,_,_,_,rfl,h2⟩
 ·rintro σ H3 _;exact q H3
theorem Ai (F:Ī K "law" "law" qd f fd)(D:Dv P w K mg base C a0 a1 a2 a3 a4 a5 d0 d1 d2 d3 d4 d5):à P w K mg base aB 12 f fd ["_law_script"] (rF K):=by
 refine F.ok Sr (λ vs H Q E h=>?_) (λ cdv A outer s H vs Q E hr h=>?_)
 ·obtain⟨a,ns,rfl,_⟩:=h;rfl
 obtain⟨a,ns,rfl,ha,Oc,hz,q⟩:=h;exact il (wJ D hr) (Cw ha Oc q)
end
theorem EK {K:Frag}{D C f:Addr}{nm:Str}(T:ņ K D nm C f)(b:Value):mroIn K C b=some ((Value.ref C :: .ref D::qo).contains b):=by
 obtain⟨cd,h1,_,h3⟩:=T.clsIn;unfold mroIn;rw [h1,b_,h3];rfl
theorem BM {K:Frag}{D C f:Addr}{nm:Str}(T:ņ K D nm C f)(B:ĳ K D):C≠D:=by
 intro e;obtain⟨q,N,bs,sn,sub,ab,col,dd,k0,k1,k2,k3,k5,l⟩:=T.cls;obtain⟨QE,q',N',WJ,U5,Rc,WK,RK,Of,VT,S2,VS,VR,VQ,l',_⟩:=B.cls;rw [e,l'] at l;have z:=Õ l;injection z with _ _ z _
 injection z with z
 injection z with _ _ z
 cases z
theorem uT {K:Frag}{D C f C' f':Addr}{nm QE:Str}(T:ņ K D nm C f)(T':ņ K D QE C' f')(h:nm≠QE):C'≠C:=by
 intro e;obtain⟨q,N,bs,sn,sub,ab,col,dd,k0,k1,k2,k3,k5,l⟩:=T.cls;obtain⟨q',N',WJ,U5,Rc,WK,RK,Of,VT,S2,VS,VR,VQ,l'⟩:=T'.cls;rw [e,l] at l';have z:=Õ l';injection z with _ _ z _
 injection z with z
 injection z with z
 exact h z
theorem sY {K:Frag}{D:Addr}(B:ĳ K D):typeIn K (.ref D)=some (.type "type"):=by
 obtain⟨QE,q',N',WJ,U5,Rc,WK,RK,Of,VT,S2,VS,VR,VQ,l',_⟩:=B.cls;show(List.lookup D K).map (·.cls)=_;rw [l'];rfl
theorem wI {K:Frag}{D:Addr}(B:ĳ K D):∃ cd,clsIn K D=some cd:=by
 obtain⟨QE,q',N',WJ,U5,Rc,WK,RK,Of,VT,S2,VS,VR,VQ,l',_⟩:=B.cls;unfold clsIn;rw [l'];exact⟨_,rfl⟩
abbrev BP (nm qn:Str)(st:Stmt)(ps:List Str):Prop:=∀(kV doc pm:Value)(an:Option Addr)(cdv ct:Value)(us:List Value),us.length=ps.length->bindArgs (PySem.W.fnOf nm qn (dU st) (aH st) (aa st) .none kV doc pm an cdv ct) ⟨us,[]⟩=pure (ps.zip us)
abbrev BQ (nm qn:Str)(st:Stmt)(ps:List Str)(us:List Value):Prop:=∀(kV doc pm:Value)(an:Option Addr)(cdv ct:Value),bindArgs (PySem.W.fnOf nm qn (dU st) (aH st) (aa st) .none kV doc pm an cdv ct) ⟨us,[]⟩=pure (ps.zip us)
theorem b1 {nm qn a:Str}{st:Stmt}(h:∀ u,BQ nm qn st [a] [u]:=by exact λ _ _ _ _ _ _ _=>rfl):BP nm qn st [a]:=λ _ _ _ _ _ _ us hl=>match us,hl with | [_],_=>h _ _ _ _ _ _ _
theorem b2 {nm qn a b:Str}{st:Stmt}(h:∀ u v,BQ nm qn st [a,b] [u,v]:=by exact λ _ _ _ _ _ _ _ _=>rfl):BP nm qn st [a,b]:=λ _ _ _ _ _ _ us hl=>match us,hl with | [_,_],_=>h _ _ _ _ _ _ _ _
theorem b3 {nm qn a b c:Str}{st:Stmt}(h:∀ u v w,BQ nm qn st [a,b,c] [u,v,w]:=by exact λ _ _ _ _ _ _ _ _ _=>rfl):BP nm qn st [a,b,c]:=λ _ _ _ _ _ _ us hl=>match us,hl with | [_,_,_],_=>h _ _ _ _ _ _ _ _ _
theorem b4 {nm qn a b c d:Str}{st:Stmt}(h:∀ u v w x,BQ nm qn st [a,b,c,d] [u,v,w,x]:=by exact λ _ _ _ _ _ _ _ _ _ _=>rfl):BP nm qn st [a,b,c,d]:=λ _ _ _ _ _ _ us hl=>match us,hl with | [_,_,_,_],_=>h _ _ _ _ _ _ _ _ _ _
theorem b5 {nm qn a b c d e:Str}{st:Stmt}(h:∀ u v w x y,BQ nm qn st [a,b,c,d,e] [u,v,w,x,y]:=by exact λ _ _ _ _ _ _ _ _ _ _ _=>rfl):BP nm qn st [a,b,c,d,e]:=λ _ _ _ _ _ _ us hl=>match us,hl with | [_,_,_,_,_],_=>h _ _ _ _ _ _ _ _ _ _ _
abbrev OQ (K:Frag)(mg:bC)(D:Addr)(nm fl:Str)(C f:Addr)(fd:FuncData):Prop:=ĳ K D->mg "DealError" = some (.ref D)->iM K mg D nm fl C f fd
theorem lU {K:Frag}{mg:bC}{D C f:Addr}{fd:FuncData}{nm qn fl txt:Str}{st:Stmt}(T:ņ K D nm C f)(mC:mg nm=some (.ref C))(F:Ī K "__init__" qn st f fd)(tk:takerIn K C fl=some none)(S:ae ["self",fl] ["self",fl] (aa st))(hb:BP "__init__" qn st ["self",fl])
  (NX:ĳ K D->mg "DealError" = some (.ref D)->∀(P:Program)(w:World)(base:Heap)(cdv:Value)(A:Around)(outer:List Env)(s:Shared)(H:Hp)(E:XK),Ž (aW aB P w K mg base ["self",fl] qn (aa st) f cdv A outer s H E).ŋ (aH st) (aO (f7 (K9 (ag 0) (tC (.str txt)) C)) (Et K C (ag 0) (ag 1) fl))):OQ K mg D nm fl C f fd:=by
 refine λ B mD=>⟨T,mC,λ P w base=>?_,F.binds hb⟩;refine F.ok S (λ vs H Q E h=>?_) (λ cdv A outer s H vs Q E hr h=>?_)
 ·obtain⟨x,v,rfl,_⟩:=h;rfl
 obtain⟨x,v,rfl,hx,q⟩:=h;exact⟨_,NX B mD P w base cdv A outer s H E,_,rfl,x,rfl,hx,_,rfl,_,rfl,x,rfl,hx,tk,q⟩
abbrev Eh:Stmt:=aG (cw 2) 0
theorem of2 {K:Frag}{mg:bC}{D C f:Addr}{fd:FuncData}(T:ņ K D "NoShare" C f)(mC:mg "NoShare" = some (.ref C))(F:Ī K "__init__" "NoShare.__init__" Eh f fd)(tk:takerIn K C "found" = some none):OQ K mg D "NoShare" "found" C f fd :=
 lU T mC F tk aR b2 λ B mD _ _ _ _ _ _ _ _ _=>bU (aw (bN B T rfl mD (pv 0) ay)) (aX (fR T (pv 0) (pv 1) rfl))
abbrev Fc:Stmt:=aG (cw 3) 0
theorem of3 {K:Frag}{mg:bC}{D C f:Addr}{fd:FuncData}(T:ņ K D "NoNumber" C f)(mC:mg "NoNumber" = some (.ref C))(F:Ī K "__init__" "NoNumber.__init__" Fc f fd)(tk:takerIn K C "found" = some none):OQ K mg D "NoNumber" "found" C f fd :=
 lU T mC F tk aR b2 λ B mD _ _ _ _ _ _ _ _ _=>bU (aw (bN B T rfl mD (pv 0) ay)) (aX (fR T (pv 0) (pv 1) rfl))
abbrev Fs:Stmt:=aG (cw 4) 0
theorem of4 {K:Frag}{mg:bC}{D C f:Addr}{fd:FuncData}(T:ņ K D "NoFolk" C f)(mC:mg "NoFolk" = some (.ref C))(F:Ī K "__init__" "NoFolk.__init__" Fs f fd)(tk:takerIn K C "found" = some none):OQ K mg D "NoFolk" "found" C f fd :=
 lU T mC F tk aR b2 λ B mD _ _ _ _ _ _ _ _ _=>bU (aw (bN B T rfl mD (pv 0) ay)) (aX (fR T (pv 0) (pv 1) rfl))
abbrev DV:Stmt:=aG (cw 5) 0
theorem of5 {K:Frag}{mg:bC}{D C f:Addr}{fd:FuncData}(T:ņ K D "NoWeights" C f)(mC:mg "NoWeights" = some (.ref C))(F:Ī K "__init__" "NoWeights.__init__" DV f fd)(tk:takerIn K C "found" = some none):OQ K mg D "NoWeights" "found" C f fd :=
 lU T mC F tk aR b2 λ B mD _ _ _ _ _ _ _ _ _=>bU (aw (bN B T rfl mD (pv 0) ay)) (aX (fR T (pv 0) (pv 1) rfl))
abbrev F6:Stmt:=aG (cw 6) 0
theorem of6 {K:Frag}{mg:bC}{D C f:Addr}{fd:FuncData}(T:ņ K D "NoTrials" C f)(mC:mg "NoTrials" = some (.ref C))(F:Ī K "__init__" "NoTrials.__init__" F6 f fd)(tk:takerIn K C "found" = some none):OQ K mg D "NoTrials" "found" C f fd :=
 lU T mC F tk aR b2 λ B mD _ _ _ _ _ _ _ _ _=>bU (aw (bN B T rfl mD (pv 0) ay)) (aX (fR T (pv 0) (pv 1) rfl))
abbrev G5:Stmt:=aG (cw 7) 0
theorem of7 {K:Frag}{mg:bC}{D C f:Addr}{fd:FuncData}(T:ņ K D "NoOutcome" C f)(mC:mg "NoOutcome" = some (.ref C))(F:Ī K "__init__" "NoOutcome.__init__" G5 f fd)(tk:takerIn K C "place" = some none):OQ K mg D "NoOutcome" "place" C f fd :=
 lU T mC F tk aR b2 λ B mD _ _ _ _ _ _ _ _ _=>bU (aw (bN B T rfl mD (pv 0) ay)) (aX (fR T (pv 0) (pv 1) rfl))
abbrev G7:Stmt:=aG (cw 8) 0
theorem of8 {K:Frag}{mg:bC}{D C f:Addr}{fd:FuncData}(T:ņ K D "NotSure" C f)(mC:mg "NotSure" = some (.ref C))(F:Ī K "__init__" "NotSure.__init__" G7 f fd)(tk:takerIn K C "place" = some none):OQ K mg D "NotSure" "place" C f fd :=
 lU T mC F tk aR b2 λ B mD _ _ _ _ _ _ _ _ _=>bU (aw (bN B T rfl mD (pv 0) ay)) (aX (fR T (pv 0) (pv 1) rfl))
abbrev G3:Stmt:=aG (cw 9) 0
theorem of9 {K:Frag}{mg:bC}{D C f:Addr}{fd:FuncData}(T:ņ K D "NoPairs" C f)(mC:mg "NoPairs" = some (.ref C))(F:Ī K "__init__" "NoPairs.__init__" G3 f fd)(tk:takerIn K C "block" = some none):OQ K mg D "NoPairs" "block" C f fd :=
 lU T mC F tk aR b2 λ B mD _ _ _ _ _ _ _ _ _=>bU (aw (bN B T rfl mD (pv 0) ay)) (aX (fR T (pv 0) (pv 1) rfl))
abbrev z9:Stmt:=aG (cw 10) 0
theorem Vk {K:Frag}{mg:bC}{D C f:Addr}{fd:FuncData}(T:ņ K D "TooMany" C f)(mC:mg "TooMany" = some (.ref C))(F:Ī K "__init__" "TooMany.__init__" z9 f fd)(tk:takerIn K C "many" = some none):OQ K mg D "TooMany" "many" C f fd :=
 lU T mC F tk aR b2 λ B mD _ _ _ _ _ _ _ _ _=>bU (aw (bN B T rfl mD (pv 0) ay)) (aX (fR T (pv 0) (pv 1) rfl))
theorem pE {K:Frag}{D C f:Addr}{nm fld:Str}(T:ņ K D nm C f)(nf:findIn K (.ref C) fld=some none):qt K C fld:=by
 obtain⟨cd,h1,h2,h3⟩:=T.clsIn;refine⟨T.it,?_,nf⟩;unfold hasDictIn;rw [h1];exact h2
theorem kr {K:Frag}{D C f:Addr}{nm:Str}(T:ņ K D nm C f):gT K C:=by
 obtain⟨cd,h1,h2,h3⟩:=T.clsIn;exact⟨⟨cd,h1⟩,T.type,T.it.mb⟩
theorem vc {K:Frag}{D:Addr}(B:ĳ K D):gT K D:=⟨wI B,sY B,B.it.mb⟩
theorem jG {K:Frag}{D C f:Addr}{nm:Str}(T:ņ K D nm C f):mroIn K C (.ref C)=some true:=by
 rw [EK T,ě,œ];rfl
theorem pB {K:Frag}{D C f C' f':Addr}{nm QE:Str}(B:ĳ K D)(T:ņ K D nm C f)(T':ņ K D QE C' f')(h:nm≠QE):mroIn K C (.ref C')=some false:=by
 have ne:=uT T T' h;have nd:=BM T' B;rw [EK T,ě,ě];have n1:(Value.ref C'==Value.ref C)=false:=ã.mpr λ z=>ne (N3 z);have n2:(Value.ref C'==Value.ref D)=false:=ã.mpr λ z=>nd (N3 z);rw [n1,n2];rfl
theorem bz {K:Frag}{C:Addr}{n:String}{b:Bool}(hm:kitMeta n=true)(h:mroIn K C (.type n)=some b):kitOne K (.ref C) (.type n)=some b:=by
 unfold kitOne;rw [Ï (by intro e;cases Ě.mp e)]
 show(if kitMeta n=true then subIn K (.ref C) (.type n) else none)=_
 rw [Ø hm];exact h
theorem aq {K:Frag}{C C':Addr}{b:Bool}(hc:isClsIn K C'=true)(ht:typeIn K (.ref C')=some (.type "type"))(hs:mroIn K C' (.ref C')=some true)(hm:mroIn K C (.ref C')=some b):kitOne K (.ref C) (.ref C')=some b:=by
 unfold kitOne;by_cases e:C=C'
 ·subst e;rw [hs] at hm;cases hm;rw [Ø (œ _)]
 ·rw [Ï (by intro z;exact e (N3 (Ě.mp z)))]
  show(if((clsIn K C').isSome&&typeIn K (.ref C')==some (.type "type"))=true then subIn K (.ref C) (.ref C') else none)=_
  have MF:(clsIn K C').isSome=true:=hc;rw [MF,ht];simp only [beq_self_eq_true,Bool.and_self,if_true];exact hm
theorem eD {K:Frag}{C C':Addr}(hs:mroIn K C' (.ref C')=some true)(hm:mroIn K C (.ref C')=some false):C≠C':=λ e=>by
 subst e;rw [hs] at hm;cases hm
structure Dm (K:Frag)(nm qual:Str)(st:Stmt)(ps:List Str)(f:Addr)(fd:FuncData):Prop where
 fn:Ī K nm qual st f fd
 bi:Binds K fd ps []
 kp:keepIn K (.ref f)=true
 ŧ:isFn K (.ref f)=true
def Bw:Value->Bool
 | .str _ _=>true
 | _=>false
theorem NI {es:Array DictEntry}(h:(es.toList.all λ e=>Bw e.key)=true):StrKeys es:=λ e he=>by
 have z:=ú.mp h e (by simpa using he)
 cases k:e.key with
 | str n t=>exact⟨n,t,rfl⟩
 | _=>rw [k] at z;cases z
theorem l9 {K:Frag}{C:Addr}{cd:ClassData}{b:Value}(h:clsIn K C=some cd)(hb:cd.mro.isEmpty=false)(hc:cd.mro.contains b=true):mroIn K C b=some true:=by
 unfold mroIn;rw [h,b_,hb,hc];rfl
theorem Qk {K:Frag}{D N:Addr}{nm q:Str}{bs:List Value}{sn:List Str}{sub:List Value}{ab:Bool}{col:Option Bool}{dd:Option Addr}{k0 k1 k2 k3 k5:Option Value}
  {cN:Value}{dN:Option Addr}{es:Array DictEntry}{ep:Nat}{sN:Array (Option Value)}
  (lD:K.lookup D=some (excClassObj nm q D N bs qo true sn sub ab col dd k0 k1 k2 k3 k5 "ValueError.__new__"))
  (lN:K.lookup N=some ⟨cN,dN,.dict es ep,sN⟩)(sk:StrKeys es)(ni:nsFind es "__init__" = none)
  (ga:specialIn K (.ref D) "__getattribute__" = some (some (.builtin "type.__getattribute__")))(rd:readsIn K D (.type "type")=true)
  (S4:findCls K (.ref D) (.type "type") "__init__" = some (.val (.builtin "ValueError.__init__")))(fi:findIn K (.ref D) "__init__" = some (some (.builtin "ValueError.__init__")))(kp:keepIn K (.ref D)=true)
  (gb:findIn K (.ref D) "__getattribute__" = some (some (.builtin pz)))(hk:findIn K (.ref D) "__getattr__" = some none)(ca:findIn K (.ref D) "__class__" = some (some (.builtin "object.__class__"))):ĳ K D:=by
 have hc:clsIn K D=some { name:=nm,bases:=bs,mro:=.ref D::qo,ns:=N,qualname:=q,hasDict:=true,slotNames:=sn,subclasses:=sub,abstract:=ab,collection:=col,hasDel:=false }:=by
  unfold clsIn;rw [lD]
 refine⟨⟨nm,q,N,bs,sn,sub,ab,col,dd,k0,k1,k2,k3,k5,lD,_,es,ep,lN,rfl,sk,ni⟩,ga,rd,S4,fi,kp,⟨by rw [hc];rfl,gb,hk,l9 hc rfl ?_,l9 hc rfl ?_,ca⟩⟩
 ·show(Value.ref D::qo).contains (.type "BaseException")=true;rw [ě];rfl
 ·show(Value.ref D::qo).contains (.type "object")=true;rw [ě];rfl
theorem Λ {K:Frag}{D C N f:Addr}(nm:Str)
  {q:Str}{bs:List Value}{sn:List Str}{sub:List Value}{ab:Bool}{col:Option Bool}{dd:Option Addr}{k0 k1 k2 k3 k5:Option Value}
  (lC:K.lookup C=some (excClassObj nm q C N bs (.ref D::qo) true sn sub ab col dd k0 k1 k2 k3 k5 "ValueError.__new__"))
  (S4:findIn K (.ref C) "__init__" = some (some (.ref f)))(fn:typeIn K (.ref f)=some (.type "function"))(kp:keepIn K (.ref C)=true)
  (sa:findIn K (.ref C) "__setattr__" = some (some (.builtin "object.__setattr__")))(ga:findIn K (.ref C) "__getattribute__" = some (some (.builtin pz)))(hk:findIn K (.ref C) "__getattr__" = some none)
  (ca:findIn K (.ref C) "__class__" = some (some (.builtin "object.__class__"))):ņ K D nm C f:=by
 have hc:clsIn K C=some { name:=nm,bases:=bs,mro:=.ref C :: .ref D::qo,ns:=N,qualname:=q,hasDict:=true,slotNames:=sn,subclasses:=sub,abstract:=ab,collection:=col,hasDel:=false }:=by
  unfold clsIn;rw [lC]
 refine⟨⟨q,N,bs,sn,sub,ab,col,dd,k0,k1,k2,k3,k5,lC⟩,S4,fn,kp,sa,⟨by rw [hc];rfl,ga,hk,l9 hc rfl ?_,l9 hc rfl ?_,ca⟩⟩
 ·show(Value.ref C :: .ref D::qo).contains (.type "BaseException")=true;rw [ě,ě];rfl
 ·show(Value.ref C :: .ref D::qo).contains (.type "object")=true;rw [ě,ě];rfl
structure Dn (K:Frag)(mg:bC)(nm:Str)(st:Stmt)(ps:List Str)(f:Addr)(fd:FuncData):Prop where
 fn:Ī K nm nm st f fd
 bi:Binds K fd ps []
 kp:keepIn K (.ref f)=true
 mg:mg nm=some (.ref f)
section
variable {P:Program}{w:World}{K:Frag}{mg:bC}{base:Heap}
theorem Dn.df {nm:Str}{st:Stmt}{ps:List Str}{f:Addr}{fd:FuncData}(d:Dn K mg nm st ps f fd){cx:kX}{k:Nat}{sp:Sp}(h:à P w K mg base cx k f fd ps sp):Df P w K mg base cx k nm ps sp f fd:=⟨h,d.bi,d.kp,d.mg⟩
end
def bB (a b c d e:Addr):Nat->Addr
 | 0=>a
 | 1=>b
 | 2=>c
 | 3=>d
 | _=>e
structure Cf (K:Frag)(C:Addr):Prop where
 cls:OF K C
 PH:makesIn K C=true
 kp:keepIn K (.ref C)=true
 ca:findIn K (.ref C) "__class__" = some (some (.builtin "object.__class__"))
 hm:mroIn K C (.type "object")=some true
 Ŵ:isClsIn K C=true
 ų:typeIn K (.ref C)=some (.type "type")
theorem To {K:Frag}{C:Addr}(h1:plainGet K C Str.empty=true)(h2:hasDictIn K C=true)(h3:plainOver K C=true)(h4:findIn K (.ref C) "__setattr__" = some (some (.builtin "object.__setattr__")))(h5:makesIn K C=true)(h6:keepIn K (.ref C)=true)(h7:findIn K (.ref C) "__class__" = some (some (.builtin "object.__class__")))(h8:mroIn K C (.type "object")=some true)(h9:isClsIn K C=true)(h0:typeIn K (.ref C)=some (.type "type")):Cf K C:=⟨⟨h1,h2,h3,h4⟩,h5,h6,h7,h8,h9,h0⟩
def N0 (K:Frag)(C:Addr):List Str->Prop
 | []=>True
 | f::l=>findIn K (.ref C) f=some none/\N0 K C l
theorem noS {K:Frag}{C:Addr}{f:Str}{l:List Str}(h:findIn K (.ref C) f=some none)(t:N0 K C l):N0 K C (f::l):=⟨h,t⟩
theorem N0.all {K:Frag}{C:Addr}:∀{l:List Str},N0 K C l->∀ f∈l,ž K C f
 | _::_,h,f,hf=>by
  rcases ë.mp hf with rfl | hf
  ·exact h.1
  ·exact h.2.all f hf
def nv (K:Frag)(C:Addr):List (Value × Bool)->Prop
 | []=>True
 | x::l=>mroIn K C x.1=some x.2/\nv K C l
theorem mrS {K:Frag}{C:Addr}{v:Value}{b:Bool}{l:List (Value × Bool)}(h:mroIn K C v=some b)(t:nv K C l):nv K C ((v,b)::l):=⟨h,t⟩
theorem ę {nm:Str}{st:Stmt}{ps:List Str}(hb:BP nm nm st ps){K:Frag}{h:Heap}{mg:bC}{g:Addr}{oc kV dc pm cd ct:Value}{od an:Option Addr}{sl:Array (Option Value)}(X:K.In h)(G:h.Ns mainGlobals mg)
  (a:nsIn K mainGlobals nm=some (some (.ref g)))(l:K.lookup g=some ⟨oc,od,.func (fnOf nm nm (dU st) (aH st) (aa st) .none kV dc pm an cd ct),sl⟩)(c:codeIn K cd nm=true)(k:keepIn K (.ref g)=true) :
  Dn K mg nm st ps g (fnOf nm nm (dU st) (aH st) (aa st) .none kV dc pm an cd ct):=by
 have F:=ŭ (st:=st) l c k;exact⟨F,F.binds hb,k,Ų X G a⟩
theorem ĩ {nm qn:Str}{st:Stmt}{ps:List Str}(hb:BP nm qn st ps){K:Frag}{g:Addr}{oc kV dc pm cd ct:Value}{od an:Option Addr}{sl:Array (Option Value)}
  (l:K.lookup g=some ⟨oc,od,.func (fnOf nm qn (dU st) (aH st) (aa st) .none kV dc pm an cd ct),sl⟩)(c:codeIn K cd qn=true)(k:keepIn K (.ref g)=true)(f:isFn K (.ref g)=true) :
  Dm K nm qn st ps g (fnOf nm qn (dU st) (aH st) (aa st) .none kV dc pm an cd ct):=by
 have F:=ŭ (st:=st) l c k;exact⟨F,F.binds hb,k,f⟩
abbrev Fr:List (Value × Bool):=[(.type "tuple",false),(.type "list",false),(.type "int",false),(.type "bool",false)]
theorem all_mk {l:OpenLaw}{w:World}{K:Frag}{h:Heap}{mg:bC}{fa D Y3 fE2 Y2 fE3 Y1 fE4 Tp fE5 Y0 fE6 YZ fE7 QZ fE8 Qn fE9 Tq WD g0 g1 g2 g3 g4 g5 g6 g7 g8 g9 g10 g11 UA g13 g14 g15 g16 g17 g18 g19 g20 g21 g22 g23 g24 g25 g26 g27 g28 g29 g30 g31 g32 g33 Uz g35 g36 g37 m0 m1 m2 m3 m4 m5 m6 m7 m8 m9 VL VJ VI Pf VH VG XB Ue VF VE Ud VD VC Uc VB Ub VA Vz Vy Vx Vw R MS C0 C1 C2 C3 C4 U0 U1 U2 U3 U4:Addr}{d0 d1 d2 d3 d4 d5 d6 d7 d8 d9 d10 d11 d12 d13 d14 d15 d16 d17 d18 d19 d20 d21 d22 d23 d24 d25 d26 d27 d28 d29 d30 d31 d32 d33 d34 d35 d36 YR x0 x1 x2 x3 x4 x5 x6 x7 x8 x9 TX x11 Ţ OI Xc Xb x16 Xa W_ W' W9 W8 W7 NF W6 OH W5 W4 Sa W3 W2 xE2 xE3 xE4 xE5 xE6 xE7 xE8 xE9 UP:FuncData}(X:K.In h)(G:h.Ns mainGlobals mg)(hfa:mg "law" = some (.ref fa))
  {Ni MU NH MT Mv LW Mu LV Mq:Tok}
  (B:ĳ K D)(q2:OQ K mg D "NoShare" "found" Y3 fE2 xE2)(q3:OQ K mg D "NoNumber" "found" Y2 fE3 xE3)(q4:OQ K mg D "NoFolk" "found" Y1 fE4 xE4)(q5:OQ K mg D "NoWeights" "found" Tp fE5 xE5)(q6:OQ K mg D "NoTrials" "found" Y0 fE6 xE6)(q7:OQ K mg D "NoOutcome" "place" YZ fE7 xE7)(q8:OQ K mg D "NotSure" "place" QZ fE8 xE8)(q9:OQ K mg D "NoPairs" "block" Qn fE9 xE9)(q10:OQ K mg D "TooMany" "many" Tq WD UP)
  (aD:nsIn K mainGlobals "DealError" = some (some (.ref D)))
  (nf5:findIn K (.ref Tp) "found" = some none)
  (nf8:findIn K (.ref QZ) "place" = some none)
  (nf9:findIn K (.ref Qn) "block" = some none)
  (Vp:nsIn K mainGlobals "Rule" = some (some (.ref R)))
  (zaa:specialIn K (.ref R) "__getattribute__" = some (some (.builtin "type.__getattribute__")))
  (zab:readsIn K R (.type "type")=true)
  (zac:findCls K (.ref R) (.type "type") "__init__" = some (.val (.ref m0)))
  (Pg:isClsIn K R=true)
  (O7:typeIn K (.ref R)=some (.type "type"))
  (O_:mroIn K R (.ref R)=some true)
  (zad:nsIn K mainGlobals "Measure" = some (some (.ref MS)))
  (zae:specialIn K (.ref MS) "__getattribute__" = some (some (.builtin "type.__getattribute__")))
  (Z_:readsIn K MS (.type "type")=true)
  (Z':findCls K (.ref MS) (.type "type") "__init__" = some (.val (.ref VJ)))
  (R7:isClsIn K MS=true)
  (R6:typeIn K (.ref MS)=some (.type "type"))
  (R5:mroIn K MS (.ref MS)=some true)
  (Z9:nsIn K mainGlobals "Split" = some (some (.ref C0)))
  (MP:Cf K C0)
  (Z8:N0 K C0 fL)
  (Z7:findIn K (.ref C0) "__init__" = some (some (.ref m5)))
  (Z6:findIn K (.ref C0) "folk" = some (some (.ref m1)))
  (Z5:findIn K (.ref C0) "begin" = some (some (.ref m2)))
  (Z4:findIn K (.ref C0) "told" = some (some (.ref m3)))
  (Z3:findIn K (.ref C0) "blocks" = some (some (.ref m4)))
  (OZ:nv K C0 [(.ref C0,true),(.ref C1,false),(.ref C2,false),(.ref C3,false),(.ref C4,false),(.ref R,true)])
  (Tr:nv K C0 Fr)
  (Z2:nsIn K mainGlobals "Pairs" = some (some (.ref C1)))
  (MO:Cf K C1)
  (Z1:N0 K C1 fL)
  (Z0:findIn K (.ref C1) "__init__" = some (some (.ref m6)))
  (ZZ:findIn K (.ref C1) "folk" = some (some (.ref m1)))
  (ZY:findIn K (.ref C1) "begin" = some (some (.ref m2)))
  (zaA:findIn K (.ref C1) "told" = some (some (.ref m3)))
  (zaB:findIn K (.ref C1) "blocks" = some (some (.ref m4)))
  (O2:nv K C1 [(.ref C0,false),(.ref C1,true),(.ref C2,false),(.ref C3,false),(.ref C4,false),(.ref R,true)])
  (Tu:nv K C1 Fr)
  (zaE:nsIn K mainGlobals "Coins" = some (some (.ref C2)))
  (MQ:Cf K C2)
  (zaG:N0 K C2 fL)
  (zaH:findIn K (.ref C2) "__init__" = some (some (.ref m7)))
  (zaI:findIn K (.ref C2) "folk" = some (some (.ref m1)))
  (zaJ:findIn K (.ref C2) "begin" = some (some (.ref m2)))
  (zaK:findIn K (.ref C2) "told" = some (some (.ref m3)))
  (zaL:findIn K (.ref C2) "blocks" = some (some (.ref m4)))
  (O1:nv K C2 [(.ref C0,false),(.ref C1,false),(.ref C2,true),(.ref C3,false),(.ref C4,false),(.ref R,true)])
  (Tt:nv K C2 Fr)
  (zaO:nsIn K mainGlobals "Blocks" = some (some (.ref C3)))
  (MI:Cf K C3)
  (zaQ:N0 K C3 fL)
  (zaR:findIn K (.ref C3) "__init__" = some (some (.ref m8)))
  (zaS:findIn K (.ref C3) "folk" = some (some (.ref m1)))
  (zaT:findIn K (.ref C3) "begin" = some (some (.ref m2)))
  (zaU:findIn K (.ref C3) "told" = some (some (.ref m3)))
  (zaV:findIn K (.ref C3) "blocks" = some (some (.ref m4)))
  (zaW:findIn K (.ref C3) "state_ahead" = some (some (.ref VL)))
  (O0:nv K C3 [(.ref C0,false),(.ref C1,false),(.ref C2,false),(.ref C3,true),(.ref C4,false),(.ref R,true)])
  (Ts:nv K C3 Fr)
  (zaZ:nsIn K mainGlobals "First" = some (some (.ref C4)))
  (MR:Cf K C4)
  (R8:N0 K C4 fL)
  (UI:findIn K (.ref C4) "__init__" = some (some (.ref m9)))
  (za3:findIn K (.ref C4) "folk" = some (some (.ref m1)))
  (za4:findIn K (.ref C4) "begin" = some (some (.ref m2)))
  (za5:findIn K (.ref C4) "told" = some (some (.ref m3)))
  (za6:findIn K (.ref C4) "blocks" = some (some (.ref m4)))
  (O3:nv K C4 [(.ref C0,false),(.ref C1,false),(.ref C2,false),(.ref C3,false),(.ref C4,true),(.ref R,true)])
  (Tv:nv K C4 Fr)
  (za9:nsIn K mainGlobals "Sum" = some (some (.ref U0)))
  (M_:Cf K U0)
  (Zp:N0 K U0 ["mark"])
  (Zo:findIn K (.ref U0) "__init__" = some (some (.ref Ue)))
  (Zn:findIn K (.ref U0) "told" = some (some (.ref Pf)))
  (Zl:findIn K (.ref U0) "need_fit" = some (some (.ref VF)))
  (zbf:findIn K (.ref U0) "scored" = some (some (.ref XB)))
  (Zk:findIn K (.ref U0) "among" = some (some (.ref VE)))
  (Nx:nv K U0 [(.ref U0,true),(.ref U1,false),(.ref U2,false),(.ref U3,false),(.ref MS,true)])
  (Zj:nsIn K mainGlobals "Ranks" = some (some (.ref U1)))
  (M':Cf K U1)
  (Zi:N0 K U1 ["mark"])
  (Zh:findIn K (.ref U1) "__init__" = some (some (.ref Ud)))
  (Zg:findIn K (.ref U1) "told" = some (some (.ref Pf)))
  (Zf:findIn K (.ref U1) "need_fit" = some (some (.ref VD)))
  (Ze:findIn K (.ref U1) "among" = some (some (.ref VC)))
  (Nw:nv K U1 [(.ref U0,false),(.ref U1,true),(.ref U2,false),(.ref U3,false),(.ref MS,true)])
  (Zd:nsIn K mainGlobals "Wins" = some (some (.ref U2)))
  (M9:Cf K U2)
  (Zc:N0 K U2 ["mark"])
  (Zb:findIn K (.ref U2) "__init__" = some (some (.ref Uc)))
  (Za:findIn K (.ref U2) "told" = some (some (.ref Pf)))
  (Y_:findIn K (.ref U2) "need_fit" = some (some (.ref VG)))
  (Y':findIn K (.ref U2) "among" = some (some (.ref VB)))
  (Nv:nv K U2 [(.ref U0,false),(.ref U1,false),(.ref U2,true),(.ref U3,false),(.ref MS,true)])
  (Y9:nsIn K mainGlobals "Signs" = some (some (.ref U3)))
  (M8:Cf K U3)
  (ZN:N0 K U3 ["mark"])
  (ZM:findIn K (.ref U3) "__init__" = some (some (.ref Ub)))
  (ZL:findIn K (.ref U3) "told" = some (some (.ref Pf)))
  (ZJ:findIn K (.ref U3) "need_fit" = some (some (.ref VA)))
  (ZI:findIn K (.ref U3) "among" = some (some (.ref Vz)))
  (Ny:nv K U3 [(.ref U0,false),(.ref U1,false),(.ref U2,false),(.ref U3,true),(.ref MS,true)])
  (ZH:nsIn K mainGlobals "Weighted" = some (some (.ref U4)))
  (PD:Cf K U4)
  (ZG:N0 K U4 ["inner","weights","mark"])
  (ZF:findIn K (.ref U4) "__init__" = some (some (.ref Vy)))
  (ZE:findIn K (.ref U4) "word" = some (some (.ref VI)))
  (ZD:findIn K (.ref U4) "told" = some (some (.ref Pf)))
  (ZC:findIn K (.ref U4) "scores" = some (some (.ref VH)))
  (ZB:findIn K (.ref U4) "need_fit" = some (some (.ref Vx)))
  (ZA:findIn K (.ref U4) "scored" = some (some (.ref Vw)))
  (R4:nv K U4 [(.ref U0,false),(.ref U1,false),(.ref U2,false),(.ref U3,false),(.ref MS,true)])
  (Zz:nsIn K mainGlobals "MOST_FOLK" = some (some (.int (20) Ni)))
  (Zy:nsIn K mainGlobals "MOST_PAIRS" = some (some (.int (10) MU)))
  (Zx:nsIn K mainGlobals "MOST_FAR" = some (some (.int (20) NH)))
  (Zw:nsIn K mainGlobals "MOST_RULES" = some (some (.int (6) MT)))
  (Zv:nsIn K mainGlobals "MOST_BOTTOM" = some (some (.int (100) Mv)))
  (Zu:nsIn K mainGlobals "LEAST_NUMBER" = some (some (.int (-99) LW)))
  (Zt:nsIn K mainGlobals "MOST_NUMBER" = some (some (.int (99) Mu)))
  (Zs:nsIn K mainGlobals "MOST_WEIGHTS" = some (some (.int (6) LV)))
  (Zr:nsIn K mainGlobals "MOST_WEIGHT" = some (some (.int (20) Mq)))
  (gt:specialIn K (.builtin "object.__class__") "__get__" = some (some (.builtin "getset_descriptor.__get__")))
  (UV:takesIn K (.builtin "object.__class__")=some true)
  (Zq:nsIn K mainGlobals "isinstance" = some none)
  (ZX:nsIn K mainGlobals "int" = some none)
  (ZW:nsIn K mainGlobals "bool" = some none)
  (ZV:nsIn K mainGlobals "len" = some none)
  (ZU:nsIn K mainGlobals "range" = some none)
  (ZT:nsIn K mainGlobals "tuple" = some none)
  (ZS:nsIn K mainGlobals "list" = some none)
  (ZR:nsIn K mainGlobals "sum" = some none)
  (ZQ:nsIn K mainGlobals "all" = some none)
  (ZP:nsIn K mainGlobals "max" = some none)
  (ZO:nsIn K mainGlobals "min" = some none)
  (Y8:nsIn K mainGlobals "enumerate" = some none)
  (Y7:nsIn K mainGlobals "zip" = some none)
  (Y6:nsIn K mainGlobals "sorted" = some none)
  (e0:Dn K mg "is_number" pF ["thing"] g0 d0)
  (e1:Dn K mg "is_whole" tR ["thing","low","high"] g1 d1)
  (e2:Dn K mg "greatest_common" AL ["one","other"] g2 d2)
  (e3:Dn K mg "is_part" vk ["top","bottom"] g3 d3)
  (e4:Dn K mg "is_share" yC ["thing"] g4 d4)
  (e5:Dn K mg "need_number" Ke ["thing","low","high"] g5 d5)
  (e6:Dn K mg "need_coin" IX ["thing"] g6 d6)
  (e7:Dn K mg "one_part" IP ["folk"] g7 d7)
  (e8:Dn K mg "may_be_block" B2 ["thing"] g8 d8)
  (e9:Dn K mg "are_block_rules" ID ["thing"] g9 d9)
  (YO:Dn K mg "parts_of" Jw ["rules"] g10 d10)
  (YN:Dn K mg "parts_below" DF ["parts","many"] g11 d11)
  (YM:Dn K mg "is_outcome" Jh ["thing"] UA d12)
  (YL:Dn K mg "need_outcome" J1 ["thing","place"] g13 d13)
  (YK:Dn K mg "need_outcomes" Dc ["thing"] g14 d14)
  (YJ:Dn K mg "need_outcomes_of" Bf ["thing","folk"] g15 d15)
  (YI:Dn K mg "surely_greater" J7 ["one","other"] g16 d16)
  (YH:Dn K mg "stands_to" J9 ["one","other"] g17 d17)
  (YG:Dn K mg "need_sure" CZ ["outcomes"] g18 d18)
  (YF:Dn K mg "block_marks" JF ["rule"] g19 d19)
  (YE:Dn K mg "need_pairs" Ki ["rule"] g20 d20)
  (YD:Dn K mg "may_be_inner" zH ["thing"] g21 d21)
  (YC:Dn K mg "are_weights" Kk ["thing"] g22 d22)
  (YB:Dn K mg "_law_whole" IE ["_law_found"] g23 d23)
  (YA:Dn K mg "_law_take" gw ["_law_script","_law_pen","_law_many"] g24 d24)
  (Yz:Dn K mg "_law_plain_rule" sj ["_law_script","_law_pen","_law_most"] g25 d25)
  (Yy:Dn K mg "_law_rule" n8 ["_law_script","_law_pen","_law_most"] g26 d26)
  (Yx:Dn K mg "_law_folk" Ij ["_law_blocks"] g27 d27)
  (Yw:Dn K mg "_law_outcomes" DD ["_law_script","_law_pen","_law_folk_here","_law_sure"] g28 d28)
  (Yv:Dn K mg "_law_stands" Ko ["_law_one","_law_other"] g29 d29)
  (Yu:Dn K mg "_law_ranks" Eu ["_law_numbers"] g30 d30)
  (Yt:Dn K mg "_law_scores" pk ["_law_word","_law_blocks","_law_outcomes_here"] g31 d31)
  (Ys:Dn K mg "_law_refused_by" yf ["_law_word","_law_blocks","_law_outcomes_here"] g32 d32)
  (Yr:Dn K mg "_law_due" xO ["_law_word","_law_blocks","_law_outcomes_here","_law_weights"] g33 d33)
  (Yq:Dn K mg "_law_told" DI ["_law_measure","_law_rule_here","_law_outcomes_here"] Uz d34)
  (Yp:Dn K mg "_law_parted" yc ["_law_script","_law_pen","_law_folk_here"] g35 d35)
  (Yo:Dn K mg "_law_right" vu ["_law_word","_law_rule_here","_law_blocks","_law_outcomes_here","_law_weights"] g36 d36)
  (Yn:Dn K mg "law" qd ["_law_script"] g37 YR)
  (y0:Dm K "__init__" "Rule.__init__" zM ["self","size","first_state","mark","parts"] m0 x0)
  (y1:Dm K "folk" "Rule.folk" Dz ["self"] m1 x1)
  (y2:Dm K "begin" "Rule.begin" zW ["self"] m2 x2)
  (y3:Dm K "told" "Rule.told" zD ["self"] m3 x3)
  (y4:Dm K "blocks" "Rule.blocks" zS ["self"] m4 x4)
  (y5:Dm K "__init__" "Split.__init__" Cn ["self","folk","ones"] m5 x5)
  (y6:Dm K "__init__" "Pairs.__init__" zb ["self","pairs","coin"] m6 x6)
  (y7:Dm K "__init__" "Coins.__init__" yE ["self","folk","coin","far"] m7 x7)
  (y8:Dm K "__init__" "Blocks.__init__" Ap ["self","rules"] m8 x8)
  (y9:Dm K "__init__" "First.__init__" A8 ["self","rule","many"] m9 x9)
  (TQ:Dm K "state_ahead" "Blocks.state_ahead" Jr ["self","number"] VL TX)
  (Qx:Dm K "__init__" "Measure.__init__" vM ["self","mark"] VJ x11)
  (TN:Dm K "word" "Measure.word" Bc ["self"] VI Ţ)
  (Nh:Dm K "told" "Measure.told" vT ["self"] Pf OI)
  (TM:Dm K "scores" "Measure.scores" Dw ["self","rule","outcomes"] VH Xc)
  (TL:Dm K "need_fit" "Measure.need_fit" BK ["self","rule","outcomes"] VG Xb)
  (y16:Dm K "scored" "Measure.scored" Ip ["self","rule","outcomes"] XB x16)
  (UN:Dm K "__init__" "Sum.__init__" Cg ["self"] Ue Xa)
  (TK:Dm K "need_fit" "Sum.need_fit" zA ["self","rule","outcomes"] VF W_)
  (TJ:Dm K "among" "Sum.among" AW ["self","outcomes"] VE W')
  (UM:Dm K "__init__" "Ranks.__init__" AI ["self"] Ud W9)
  (TF:Dm K "need_fit" "Ranks.need_fit" CK ["self","rule","outcomes"] VD W8)
  (TD:Dm K "among" "Ranks.among" jg ["self","outcomes"] VC W7)
  (UL:Dm K "__init__" "Wins.__init__" Cy ["self"] Uc NF)
  (TC:Dm K "among" "Wins.among" nZ ["self","outcomes"] VB W6)
  (UK:Dm K "__init__" "Signs.__init__" zc ["self"] Ub OH)
  (TB:Dm K "need_fit" "Signs.need_fit" zq ["self","rule","outcomes"] VA W5)
  (Tz:Dm K "among" "Signs.among" oH ["self","outcomes"] Vz W4)
  (UJ:Dm K "__init__" "Weighted.__init__" HJ ["self","inner","weights"] Vy Sa)
  (Tx:Dm K "need_fit" "Weighted.need_fit" Kj ["self","rule","outcomes"] Vx W3)
  (Tw:Dm K "scored" "Weighted.scored" xQ ["self","rule","outcomes"] Vw W2)
  (hb:∀(s:Shared)(v:Value),BindsTo s YR ⟨[v],[]⟩ [("_law_script",v)])
  : ∃ fd:FuncData,(∀(s:Shared)(v:Value),BindsTo s fd ⟨[v],[]⟩ [("_law_script",v)])/\∀ base:Heap,K.In base->base.Ns mainGlobals mg->à l.prog w K mg base aB 12 fa fd ["_law_script"] (rF K):=by
 have e:=hfa.symm.trans Yn.mg;cases e;refine⟨_,hb,λ base _ _=>?_⟩;have Ĕ:=Ĭ X G Zq;have Np:=Ĭ X G ZX;have MZ:=Ĭ X G ZW;have ţ:=Ĭ X G ZV;have Ź:=Ĭ X G ZU;have Ÿ:=Ĭ X G ZT;have δ:=Ĭ X G ZS;have Oa:=Ĭ X G ZR;have QH:=Ĭ X G ZQ;have QG:=Ĭ X G ZP;have SW:=Ĭ X G ZO;have ļ:=Ĭ X G Y8;have QF:=Ĭ X G Y7;have No:=Ĭ X G Y6;have T:sP K:=⟨gt,UV⟩;have mD:=Ų X G aD;have o2:=q2 B mD;have o3:=q3 B mD;have o4:=q4 B mD;have o5:=q5 B mD;have o6:=q6 B mD;have o7:=q7 B mD;have o8:=q8 B mD;have o9:=q9 B mD;have Ű:=q10 B mD;have γ:=Ų X G Zz;have MY:=Ų X G Zy;have NN:=Ų X G Zx;have MX:=Ų X G Zw;have MB:=Ų X G Zv;have LY:=Ų X G Zu;have Mz:=Ų X G Zt;have LX:=Ų X G Zs;have Mx:=Ų X G Zr;have Pe:=Ų X G Vp;have Η:fD K R "__init__" m0:=⟨zaa,zab,zac,y0.kp⟩;have MK:=Ų X G zad;have Ů:fD K MS "__init__" VJ:=⟨zae,Z_,Z',Qx.kp⟩;have QP:=Ų X G Z9;have SV:Mk K C0 m5:=⟨MP.PH,Z7,y5.ŧ,MP.kp⟩;have QO:=Ų X G Z2;have SU:Mk K C1 m6:=⟨MO.PH,Z0,y6.ŧ,MO.kp⟩;have QN:=Ų X G zaE;have SS:Mk K C2 m7:=⟨MQ.PH,zaH,y7.ŧ,MQ.kp⟩;have SY:=Ų X G zaO;have SR:Mk K C3 m8:=⟨MI.PH,zaR,y8.ŧ,MI.kp⟩;have QM:=Ų X G zaZ;have SQ:Mk K C4 m9:=⟨MR.PH,UI,y9.ŧ,MR.kp⟩;have QL:=Ų X G za9;have SO:Mk K U0 Ue:=⟨M_.PH,Zo,UN.ŧ,M_.kp⟩;have QK:=Ų X G Zj;have SN:Mk K U1 Ud:=⟨M'.PH,Zh,UM.ŧ,M'.kp⟩;have QJ:=Ų X G Zd;have SM:Mk K U2 Uc:=⟨M9.PH,Zb,UL.ŧ,M9.kp⟩;have QI:=Ų X G Y9;have SL:Mk K U3 Ub:=⟨M8.PH,ZM,UK.ŧ,M8.kp⟩;have SX:=Ų X G ZH;have SK:Mk K U4 Vy:=⟨PD.PH,ZF,UJ.ŧ,PD.kp⟩;have WW:=tz (P:=l.prog) (w:=w) (mg:=mg) (base:=base) T e0.fn Ĕ Np MZ;have GN:=(e0.df WW);have YV:=xq e1.fn WW e0.bi e0.kp e0.mg;have GW:=(e1.df YV);have GG:=e2.df (AR (P:=l.prog) (w:=w) (mg:=mg) (base:=base) e2.fn);have GPa:=e3.df (vB e3.fn WW e0.bi e0.kp e0.mg YV e1.bi e1.kp e1.mg);have GSh:=e4.df (BX T e4.fn GPa GG Ĕ Ÿ ţ);have GM:=e5.df (GS e5.fn B o3 GW);have GC:=e6.df (Fp e6.fn B o2 GW GSh MB);have GP:=e7.df (DW (P:=l.prog) (w:=w) (mg:=mg) (base:=base) e7.fn Ÿ Ź);have Z:KR K (bB C0 C1 C2 C3 C4) R:={
  cls:=λ i hi=>match i,hi with
   | 0,_=>MP.cls
   | 1,_=>MO.cls
   | 2,_=>MQ.cls
   | 3,_=>MI.cls
   | 4,_=>MR.cls
  no:=λ i hi=>match i,hi with
   | 0,_=>Z8.all
   | 1,_=>Z1.all
   | 2,_=>zaG.all
   | 3,_=>zaQ.all
   | 4,_=>R8.all
  ha:=λ i hi=>match i,hi with
   | 0,_=>MP.ca
   | 1,_=>MO.ca
   | 2,_=>MQ.ca
   | 3,_=>MI.ca
   | 4,_=>MR.ca
  hn:=gt
  Nq:=UV
  hm:=λ i hi=>match i,hi with
   | 0,_=>MP.hm
   | 1,_=>MO.hm
   | 2,_=>MQ.hm
   | 3,_=>MI.hm
   | 4,_=>MR.hm
  kk:=λ i j hi hj=>match i,j,hi,hj with
   | 0,0,_,_=>aq MP.Ŵ MP.ų OZ.1 OZ.1
   | 0,1,_,_=>aq MO.Ŵ MO.ų O2.2.1 OZ.2.1
   | 0,2,_,_=>aq MQ.Ŵ MQ.ų O1.2.2.1 OZ.2.2.1
   | 0,3,_,_=>aq MI.Ŵ MI.ų O0.2.2.2.1 OZ.2.2.2.1
   | 0,4,_,_=>aq MR.Ŵ MR.ų O3.2.2.2.2.1 OZ.2.2.2.2.1
   | 1,0,_,_=>aq MP.Ŵ MP.ų OZ.1 O2.1
   | 1,1,_,_=>aq MO.Ŵ MO.ų O2.2.1 O2.2.1
   | 1,2,_,_=>aq MQ.Ŵ MQ.ų O1.2.2.1 O2.2.2.1
   | 1,3,_,_=>aq MI.Ŵ MI.ų O0.2.2.2.1 O2.2.2.2.1
   | 1,4,_,_=>aq MR.Ŵ MR.ų O3.2.2.2.2.1 O2.2.2.2.2.1
   | 2,0,_,_=>aq MP.Ŵ MP.ų OZ.1 O1.1
   | 2,1,_,_=>aq MO.Ŵ MO.ų O2.2.1 O1.2.1
   | 2,2,_,_=>aq MQ.Ŵ MQ.ų O1.2.2.1 O1.2.2.1
   | 2,3,_,_=>aq MI.Ŵ MI.ų O0.2.2.2.1 O1.2.2.2.1
   | 2,4,_,_=>aq MR.Ŵ MR.ų O3.2.2.2.2.1 O1.2.2.2.2.1
   | 3,0,_,_=>aq MP.Ŵ MP.ų OZ.1 O0.1
   | 3,1,_,_=>aq MO.Ŵ MO.ų O2.2.1 O0.2.1
   | 3,2,_,_=>aq MQ.Ŵ MQ.ų O1.2.2.1 O0.2.2.1
   | 3,3,_,_=>aq MI.Ŵ MI.ų O0.2.2.2.1 O0.2.2.2.1
   | 3,4,_,_=>aq MR.Ŵ MR.ų O3.2.2.2.2.1 O0.2.2.2.2.1
   | 4,0,_,_=>aq MP.Ŵ MP.ų OZ.1 O3.1
   | 4,1,_,_=>aq MO.Ŵ MO.ų O2.2.1 O3.2.1
   | 4,2,_,_=>aq MQ.Ŵ MQ.ų O1.2.2.1 O3.2.2.1
   | 4,3,_,_=>aq MI.Ŵ MI.ų O0.2.2.2.1 O3.2.2.2.1
   | 4,4,_,_=>aq MR.Ŵ MR.ų O3.2.2.2.2.1 O3.2.2.2.2.1
  kR:=λ i hi=>match i,hi with
   | 0,_=>aq Pg O7 O_ OZ.2.2.2.2.2.1
   | 1,_=>aq Pg O7 O_ O2.2.2.2.2.2.1
   | 2,_=>aq Pg O7 O_ O1.2.2.2.2.2.1
   | 3,_=>aq Pg O7 O_ O0.2.2.2.2.2.1
   | 4,_=>aq Pg O7 O_ O3.2.2.2.2.2.1
  kl:=λ i hi=>match i,hi with
   | 0,_=>bz av Tr.2.1
   | 1,_=>bz av Tu.2.1
   | 2,_=>bz av Tt.2.1
   | 3,_=>bz av Ts.2.1
   | 4,_=>bz av Tv.2.1
  kt:=λ i hi=>match i,hi with
   | 0,_=>bz av Tr.1
   | 1,_=>bz av Tu.1
   | 2,_=>bz av Tt.1
   | 3,_=>bz av Ts.1
   | 4,_=>bz av Tv.1
  ki:=λ i hi=>match i,hi with
   | 0,_=>bz av Tr.2.2.1
   | 1,_=>bz av Tu.2.2.1
   | 2,_=>bz av Tt.2.2.1
   | 3,_=>bz av Ts.2.2.1
   | 4,_=>bz av Tv.2.2.1
  kb:=λ i hi=>match i,hi with
   | 0,_=>bz av Tr.2.2.2.1
   | 1,_=>bz av Tu.2.2.2.1
   | 2,_=>bz av Tt.2.2.2.1
   | 3,_=>bz av Ts.2.2.2.1
   | 4,_=>bz av Tv.2.2.2.1
 }
 have I0:=AJ (P:=l.prog) (w:=w) (mg:=mg) (base:=base) Z y0.fn;have I1:=Bu (P:=l.prog) (w:=w) (mg:=mg) (base:=base) Z y1.fn;have I2:=Az (P:=l.prog) (w:=w) (mg:=mg) (base:=base) Z y2.fn;have I3:=zv (P:=l.prog) (w:=w) (mg:=mg) (base:=base) Z y3.fn;have I4:=Ad (P:=l.prog) (w:=w) (mg:=mg) (base:=base) Z y4.fn δ;have RP:bJ l.prog w K mg base aB 1 "folk" ["self"] (qN (bB C0 C1 C2 C3 C4)) (λ _=>mE (bB C0 C1 C2 C3 C4)):=by
  rintro c ⟨i,hi,rfl⟩
  match i,hi with
  | 0,_=>exact⟨MP.cls,m1,x1,⟨Z6,y1.ŧ,y1.kp⟩,I1,y1.bi⟩
  | 1,_=>exact⟨MO.cls,m1,x1,⟨ZZ,y1.ŧ,y1.kp⟩,I1,y1.bi⟩
  | 2,_=>exact⟨MQ.cls,m1,x1,⟨zaI,y1.ŧ,y1.kp⟩,I1,y1.bi⟩
  | 3,_=>exact⟨MI.cls,m1,x1,⟨zaS,y1.ŧ,y1.kp⟩,I1,y1.bi⟩
  | 4,_=>exact⟨MR.cls,m1,x1,⟨za3,y1.ŧ,y1.kp⟩,I1,y1.bi⟩
 have Ql:bJ l.prog w K mg base aB 1 "begin" ["self"] (qN (bB C0 C1 C2 C3 C4)) (λ _=>jo (bB C0 C1 C2 C3 C4)):=by
  rintro c ⟨i,hi,rfl⟩
  match i,hi with
  | 0,_=>exact⟨MP.cls,m2,x2,⟨Z5,y2.ŧ,y2.kp⟩,I2,y2.bi⟩
  | 1,_=>exact⟨MO.cls,m2,x2,⟨ZY,y2.ŧ,y2.kp⟩,I2,y2.bi⟩
  | 2,_=>exact⟨MQ.cls,m2,x2,⟨zaJ,y2.ŧ,y2.kp⟩,I2,y2.bi⟩
  | 3,_=>exact⟨MI.cls,m2,x2,⟨zaT,y2.ŧ,y2.kp⟩,I2,y2.bi⟩
  | 4,_=>exact⟨MR.cls,m2,x2,⟨za4,y2.ŧ,y2.kp⟩,I2,y2.bi⟩
 have RO:bJ l.prog w K mg base aB 1 "told" ["self"] (qN (bB C0 C1 C2 C3 C4)) (λ _=>jU (bB C0 C1 C2 C3 C4)):=by
  rintro c ⟨i,hi,rfl⟩
  match i,hi with
  | 0,_=>exact⟨MP.cls,m3,x3,⟨Z4,y3.ŧ,y3.kp⟩,I3,y3.bi⟩
  | 1,_=>exact⟨MO.cls,m3,x3,⟨zaA,y3.ŧ,y3.kp⟩,I3,y3.bi⟩
  | 2,_=>exact⟨MQ.cls,m3,x3,⟨zaK,y3.ŧ,y3.kp⟩,I3,y3.bi⟩
  | 3,_=>exact⟨MI.cls,m3,x3,⟨zaU,y3.ŧ,y3.kp⟩,I3,y3.bi⟩
  | 4,_=>exact⟨MR.cls,m3,x3,⟨za5,y3.ŧ,y3.kp⟩,I3,y3.bi⟩
 have Py:bJ l.prog w K mg base aB 1 "blocks" ["self"] (qN (bB C0 C1 C2 C3 C4)) (λ _=>qy (bB C0 C1 C2 C3 C4)):=by
  rintro c ⟨i,hi,rfl⟩
  match i,hi with
  | 0,_=>exact⟨MP.cls,m4,x4,⟨Z3,y4.ŧ,y4.kp⟩,I4,y4.bi⟩
  | 1,_=>exact⟨MO.cls,m4,x4,⟨zaB,y4.ŧ,y4.kp⟩,I4,y4.bi⟩
  | 2,_=>exact⟨MQ.cls,m4,x4,⟨zaL,y4.ŧ,y4.kp⟩,I4,y4.bi⟩
  | 3,_=>exact⟨MI.cls,m4,x4,⟨zaV,y4.ŧ,y4.kp⟩,I4,y4.bi⟩
  | 4,_=>exact⟨MR.cls,m4,x4,⟨za6,y4.ŧ,y4.kp⟩,I4,y4.bi⟩
 have Mm:Ms l.prog w K mg base (bB C0 C1 C2 C3 C4):=⟨RP,Ql,RO,Py⟩;have I10:=Gr Z TQ.fn Mm ţ;have MA:bJ l.prog w K mg base aB 2 "state_ahead" ["self","number"] (λ c=>c=(bB C0 C1 C2 C3 C4) 3) (λ _=>Du (bB C0 C1 C2 C3 C4)):=by
  rintro c rfl;exact⟨MI.cls,VL,TX,⟨zaW,TQ.ŧ,TQ.kp⟩,I10,TQ.bi⟩
 have GMB:=e8.df (Cz (P:=l.prog) (w:=w) (mg:=mg) (base:=base) (K:=K) (C:=bB C0 C1 C2 C3 C4) e8.fn QP QO QN Ĕ);have GAB:=e9.df (DT T e9.fn GMB GW MX Ĕ δ ţ QH);have GPO:=YO.df (En YO.fn Mm Ÿ Ź);have GPB:=YN.df (E3 (P:=l.prog) (w:=w) (mg:=mg) (base:=base) YN.fn Ÿ ţ);have I5:=Cd y5.fn Η I0 y0.bi Pe GM GP γ;have I6:=zz Z y6.fn Η I0 y0.bi Pe GM GP GC MY;have I7:=Bo Z y7.fn Η I0 y0.bi Pe GM GP GC γ NN;have I8:=CH Z y8.fn Mm MA B o6 Ű Η I0 y0.bi Pe GAB GPO γ Oa Ÿ;have I9:=Dg T Z y9.fn Mm Η I0 y0.bi Pe GM GPB QM Ĕ;have Lk:Aq l.prog w K mg base (bB C0 C1 C2 C3 C4) Y2 Y3 Y0 Tq m5 m6 m7 m8 m9 x5 x6 x7 x8 x9:=⟨SV,SU,SS,SR,SQ,I5,I6,I7,I8,I9,y5.bi,y6.bi,y7.bi,y8.bi,y9.bi,QP,QO,QN,SY,QM⟩;have GIo:=YM.df (EX T YM.fn GW LY Mz Ĕ Ÿ ţ MZ);have YY:=YL.df (Es YL.fn B o7 GIo);have GNs:=YK.df (BD T YK.fn B o4 YY Ĕ δ ļ);have GOf:=YJ.df (Bb YJ.fn B o4 GNs ţ);have GSg:=YI.df (Ei (P:=l.prog) (w:=w) (mg:=mg) (base:=base) YI.fn);have YX:=YH.df (GU YH.fn YY GSg);have YW:=YG.df (yR (P:=l.prog) (w:=w) (mg:=mg) (base:=base) YG.fn B o8 ļ);have GBm:=YF.df (Hv YF.fn Mm);have GNp:=YE.df (GA YE.fn Mm B o9 GBm ļ QF ţ);have Zm:KM K (bB U0 U1 U2 U3 U4):=⟨λ i hi=>match i,hi with
   | 0,_=>M_.cls
   | 1,_=>M'.cls
   | 2,_=>M9.cls
   | 3,_=>M8.cls,λ i hi=>match i,hi with
   | 0,_=>Zp.1
   | 1,_=>Zi.1
   | 2,_=>Zc.1
   | 3,_=>ZN.1⟩
 have dj:∀ i j,i<4->j<4->(bB U0 U1 U2 U3 U4) i=(bB U0 U1 U2 U3 U4) j->i=j:=λ i j hi hj=>match i,j,hi,hj with
   | 0,0,_,_=>λ _=>rfl
   | 0,1,_,_=>λ e=>absurd e (eD Nw.2.1 Nx.2.1)
   | 0,2,_,_=>λ e=>absurd e (eD Nv.2.2.1 Nx.2.2.1)
   | 0,3,_,_=>λ e=>absurd e (eD Ny.2.2.2.1 Nx.2.2.2.1)
   | 1,0,_,_=>λ e=>absurd e (eD Nx.1 Nw.1)
   | 1,1,_,_=>λ _=>rfl
   | 1,2,_,_=>λ e=>absurd e (eD Nv.2.2.1 Nw.2.2.1)
   | 1,3,_,_=>λ e=>absurd e (eD Ny.2.2.2.1 Nw.2.2.2.1)
   | 2,0,_,_=>λ e=>absurd e (eD Nx.1 Nv.1)
   | 2,1,_,_=>λ e=>absurd e (eD Nw.2.1 Nv.2.1)
   | 2,2,_,_=>λ _=>rfl
   | 2,3,_,_=>λ e=>absurd e (eD Ny.2.2.2.1 Nv.2.2.2.1)
   | 3,0,_,_=>λ e=>absurd e (eD Nx.1 Ny.1)
   | 3,1,_,_=>λ e=>absurd e (eD Nw.2.1 Ny.2.1)
   | 3,2,_,_=>λ e=>absurd e (eD Nv.2.2.1 Ny.2.2.1)
   | 3,3,_,_=>λ _=>rfl
 have UE:=CI (P:=l.prog) (w:=w) (mg:=mg) (base:=base) Zm Qx.fn;have UD:=zk (P:=l.prog) (w:=w) (mg:=mg) (base:=base) Zm Nh.fn;have J17:=Bv UN.fn Ů UE Qx.bi MK;have J20:=B1 UM.fn Ů UE Qx.bi MK;have J23:=BT UL.fn Ů UE Qx.bi MK;have J25:=yL UK.fn Ů UE Qx.bi MK;have J19:=JE (MC:=(bB U0 U1 U2 U3 U4)) dj (Au (P:=l.prog) (w:=w) (mg:=mg) (base:=base) TJ.fn);have J22:=Kg (MC:=(bB U0 U1 U2 U3 U4)) dj (Cq (P:=l.prog) (w:=w) (mg:=mg) (base:=base) TD.fn No);have J24:=JG (MC:=(bB U0 U1 U2 U3 U4)) dj (Do TC.fn YX Oa);have J27:=IM (MC:=(bB U0 U1 U2 U3 U4)) dj (Ce Tz.fn YX ļ);have J18:=J6 (C:=(bB C0 C1 C2 C3 C4)) (CN:=Qn) (MC:=(bB U0 U1 U2 U3 U4)) dj (Ah TK.fn YW);have J21:=Kl (C:=(bB C0 C1 C2 C3 C4)) (CN:=Qn) (MC:=(bB U0 U1 U2 U3 U4)) dj (BE TF.fn YW);have J15:=Jb (C:=(bB C0 C1 C2 C3 C4)) (CU:=QZ) (CN:=Qn) (MC:=(bB U0 U1 U2 U3 U4)) dj (yH (P:=l.prog) (w:=w) (mg:=mg) (base:=base) TL.fn);have J26:=Ix (CU:=QZ) (MC:=(bB U0 U1 U2 U3 U4)) dj (zf TB.fn GNp);have Mam:bJ l.prog w K mg base aB 7 "among" ["self","outcomes"] (vw (bB U0 U1 U2 U3 U4)) (jb (bB U0 U1 U2 U3 U4)):=by
  rintro c ⟨i,hi,rfl⟩
  match i,hi with
  | 0,_=>exact⟨M_.cls,VE,W',⟨Zk,TJ.ŧ,TJ.kp⟩,J19,TJ.bi⟩
  | 1,_=>exact⟨M'.cls,VC,W7,⟨Ze,TD.ŧ,TD.kp⟩,J22,TD.bi⟩
  | 2,_=>exact⟨M9.cls,VB,W6,⟨Y',TC.ŧ,TC.kp⟩,J24,TC.bi⟩
  | 3,_=>exact⟨M8.cls,Vz,W4,⟨ZI,Tz.ŧ,Tz.kp⟩,J27,Tz.bi⟩
 have Mft:bJ l.prog w K mg base (cY l.prog w) 5 "need_fit" ["self","rule","outcomes"] (vw (bB U0 U1 U2 U3 U4)) (kF (bB C0 C1 C2 C3 C4) (bB U0 U1 U2 U3 U4) QZ Qn):=by
  rintro c ⟨i,hi,rfl⟩
  match i,hi with
  | 0,_=>exact⟨M_.cls,VF,W_,⟨Zl,TK.ŧ,TK.kp⟩,J18,TK.bi⟩
  | 1,_=>exact⟨M'.cls,VD,W8,⟨Zf,TF.ŧ,TF.kp⟩,J21,TF.bi⟩
  | 2,_=>exact⟨M9.cls,VG,Xb,⟨Y_,TL.ŧ,TL.kp⟩,J15,TL.bi⟩
  | 3,_=>exact⟨M8.cls,VA,W5,⟨ZJ,TB.ŧ,TB.kp⟩,J26,TB.bi⟩
 have Mtl:bJ l.prog w K mg base aB 1 "told" ["self"] (vw (bB U0 U1 U2 U3 U4)) (λ _=>uw (bB U0 U1 U2 U3 U4)):=by
  rintro c ⟨i,hi,rfl⟩
  match i,hi with
  | 0,_=>exact⟨M_.cls,Pf,OI,⟨Zn,Nh.ŧ,Nh.kp⟩,UD,Nh.bi⟩
  | 1,_=>exact⟨M'.cls,Pf,OI,⟨Zg,Nh.ŧ,Nh.kp⟩,UD,Nh.bi⟩
  | 2,_=>exact⟨M9.cls,Pf,OI,⟨Za,Nh.ŧ,Nh.kp⟩,UD,Nh.bi⟩
  | 3,_=>exact⟨M8.cls,Pf,OI,⟨ZL,Nh.ŧ,Nh.kp⟩,UD,Nh.bi⟩
 have Lm:Ks l.prog w K mg base (bB U0 U1 U2 U3 U4) Ue Ud Uc Ub Xa W9 NF OH:=⟨SO,SN,SM,SL,J17,J20,J23,J25,UN.bi,UM.bi,UL.bi,UK.bi,QL,QK,QJ,QI⟩;have Yk:KW K (bB U0 U1 U2 U3 U4) MS:=⟨PD.cls,ZG.all,λ i hi=>match i,hi with
   | 0,_=>M_.ca
   | 1,_=>M'.ca
   | 2,_=>M9.ca
   | 3,_=>M8.ca
   | 4,_=>PD.ca,gt,UV,λ i hi=>match i,hi with
   | 0,_=>M_.hm
   | 1,_=>M'.hm
   | 2,_=>M9.hm
   | 3,_=>M8.hm
   | 4,_=>PD.hm,λ i j hi hj=>match i,j,hi,hj with
   | 0,0,_,_=>aq M_.Ŵ M_.ų Nx.1 Nx.1
   | 0,1,_,_=>aq M'.Ŵ M'.ų Nw.2.1 Nx.2.1
   | 0,2,_,_=>aq M9.Ŵ M9.ų Nv.2.2.1 Nx.2.2.1
   | 0,3,_,_=>aq M8.Ŵ M8.ų Ny.2.2.2.1 Nx.2.2.2.1
   | 1,0,_,_=>aq M_.Ŵ M_.ų Nx.1 Nw.1
   | 1,1,_,_=>aq M'.Ŵ M'.ų Nw.2.1 Nw.2.1
   | 1,2,_,_=>aq M9.Ŵ M9.ų Nv.2.2.1 Nw.2.2.1
   | 1,3,_,_=>aq M8.Ŵ M8.ų Ny.2.2.2.1 Nw.2.2.2.1
   | 2,0,_,_=>aq M_.Ŵ M_.ų Nx.1 Nv.1
   | 2,1,_,_=>aq M'.Ŵ M'.ų Nw.2.1 Nv.2.1
   | 2,2,_,_=>aq M9.Ŵ M9.ų Nv.2.2.1 Nv.2.2.1
   | 2,3,_,_=>aq M8.Ŵ M8.ų Ny.2.2.2.1 Nv.2.2.2.1
   | 3,0,_,_=>aq M_.Ŵ M_.ų Nx.1 Ny.1
   | 3,1,_,_=>aq M'.Ŵ M'.ų Nw.2.1 Ny.2.1
   | 3,2,_,_=>aq M9.Ŵ M9.ų Nv.2.2.1 Ny.2.2.1
   | 3,3,_,_=>aq M8.Ŵ M8.ų Ny.2.2.2.1 Ny.2.2.2.1
   | 4,0,_,_=>aq M_.Ŵ M_.ų Nx.1 R4.1
   | 4,1,_,_=>aq M'.Ŵ M'.ų Nw.2.1 R4.2.1
   | 4,2,_,_=>aq M9.Ŵ M9.ų Nv.2.2.1 R4.2.2.1
   | 4,3,_,_=>aq M8.Ŵ M8.ų Ny.2.2.2.1 R4.2.2.2.1
   ,λ i hi=>match i,hi with
   | 0,_=>aq R7 R6 R5 Nx.2.2.2.2.1
   | 1,_=>aq R7 R6 R5 Nw.2.2.2.2.1
   | 2,_=>aq R7 R6 R5 Nv.2.2.2.2.1
   | 3,_=>aq R7 R6 R5 Ny.2.2.2.2.1
   | 4,_=>aq R7 R6 R5 R4.2.2.2.2.1⟩
 have GMi:=YD.df (A7 (P:=l.prog) (w:=w) (mg:=mg) (base:=base) (K:=K) (MC:=(bB U0 U1 U2 U3 U4)) YD.fn QL QK QJ QI Ĕ);have GAw:=YC.df (FZ T YC.fn GW LX Mx Ĕ δ ţ QH);have WT:=zZ (P:=l.prog) (w:=w) (mg:=mg) (base:=base) Yk Qx.fn;have J28:=D8 Zm Yk UJ.fn B o6 o5 Ů WT Qx.bi MK GMi GAw Mtl Ÿ;have J29:=EH Yk Tx.fn Mm Mft B o5 ţ δ;have WP:bJ l.prog w K mg base (cY l.prog w) 6 "need_fit" ["self","rule","outcomes"] (λ c=>c=(bB U0 U1 U2 U3 U4) 4) (λ _=>md (bB C0 C1 C2 C3 C4) (bB U0 U1 U2 U3 U4) QZ Qn Tp):=by
  rintro c rfl;exact⟨PD.cls,Vx,W3,⟨ZB,Tx.ŧ,Tx.kp⟩,J29,Tx.bi⟩
 have J30:=Ho Yk Tw.fn Mm Mam QF;have WO:bJ l.prog w K mg base aB 8 "scored" ["self","rule","outcomes"] (λ c=>c=(bB U0 U1 U2 U3 U4) 4) (λ _=>qw (bB C0 C1 C2 C3 C4) (bB U0 U1 U2 U3 U4)):=by
  rintro c rfl;exact⟨PD.cls,Vw,W2,⟨ZA,Tw.ŧ,Tw.kp⟩,J30,Tw.bi⟩
 have WQ:=wT TM.fn Mm GOf WP WO;have WN:bJ l.prog w K mg base (cY l.prog w) 9 "scores" ["self","rule","outcomes"] (λ c=>c=(bB U0 U1 U2 U3 U4) 4) (λ _=>iU (bB C0 C1 C2 C3 C4) (bB U0 U1 U2 U3 U4) QZ Qn Tp):=by
  rintro c rfl;exact⟨PD.cls,VH,Xc,⟨ZC,TM.ŧ,TM.kp⟩,WQ,TM.bi⟩
 have WS:=yW (P:=l.prog) (w:=w) (mg:=mg) (base:=base) Yk TN.fn;have WL:bJ l.prog w K mg base aB 1 "word" ["self"] (λ c=>c=(bB U0 U1 U2 U3 U4) 4) (λ _=>qV (bB U0 U1 U2 U3 U4)):=by
  rintro c rfl;exact⟨PD.cls,VI,Ţ,⟨ZE,TN.ŧ,TN.kp⟩,WS,TN.bi⟩
 have WR:=BL (P:=l.prog) (w:=w) (mg:=mg) (base:=base) Yk Nh.fn;have WM:bJ l.prog w K mg base aB 1 "told" ["self"] (λ c=>c=(bB U0 U1 U2 U3 U4) 4) (λ _=>qz (bB U0 U1 U2 U3 U4)):=by
  rintro c rfl;exact⟨PD.cls,Pf,OI,⟨ZD,Nh.ŧ,Nh.kp⟩,WR,Nh.bi⟩
 have ZK:zt K mg D QZ Qn Tp YZ Y1:=⟨kr o8.cls,kr o9.cls,kr o5.cls,kr o7.cls,kr o4.cls,vc B,pE o8.cls nf8,pE o9.cls nf9,pE o5.cls nf5,jG o8.cls,pB B o9.cls o8.cls av,jG o9.cls,pB B o5.cls o8.cls av,pB B o5.cls o9.cls av,jG o5.cls,o8.Nm,o9.Nm,o5.Nm,o7.Nm,o4.Nm,mD⟩;have Lw:=YB.df (GV (P:=l.prog) (w:=w) (mg:=mg) (base:=base) T YB.fn Ĕ Np MZ);have Lt:=YA.df (wK (P:=l.prog) (w:=w) (mg:=mg) (base:=base) YA.fn ţ SW);have Lp:=Yz.df (Hm Yz.fn Lk Lt);have Lr:=Yy.df (Hc Yy.fn Lk Lt Lp Ź QG Np δ ţ);have Lf:=Yx.df (EM (P:=l.prog) (w:=w) (mg:=mg) (base:=base) Yx.fn Oa ţ);have Lo:=Yw.df (FX Yw.fn Lt Ź);have Ls:=Yv.df (FJ (P:=l.prog) (w:=w) (mg:=mg) (base:=base) Yv.fn Np);have La:=Yu.df (FA (P:=l.prog) (w:=w) (mg:=mg) (base:=base) Yu.fn No);have Lc:=Yt.df (Bd Yt.fn La Ls ļ Oa);have Lb:=Ys.df (Af (P:=l.prog) (w:=w) (mg:=mg) (base:=base) Ys.fn ļ ţ);have Lu:=Yr.df (DY Yr.fn Lb Lc ļ ţ Ź);have Ld:=Yq.df (Gv Yq.fn ZK WN);have Le:=Yp.df (G8 Yp.fn Lk Lt ţ δ Ź);have Lh:=Yo.df (EO Yo.fn ⟨Lm,SK,J28,UJ.bi,SX,Lu,Ld,Lw,WL,WM,T,Yk,MK,Ĕ,MZ,δ,Ź,Ÿ⟩);exact Ai Yn.fn ⟨Lt,Lr,Lo,Lf,Le,Lh,Ź,Np,ţ,QG⟩
theorem walk {l:OpenLaw}{q:Program}{loose:List Str}{XP:(Str->Option Value)->Heap->Prop}{YP:World->Heap->Prop}{d:DefRec}{K:Params->Frag}(hn:l.most=some 63)(Tb:d.params.defaults=[])
  (hY:∀(w:World)(h:Heap),YP w h->(K w.params).In h)
  (F:∀(w:World)(mg:bC)(fa:Addr)(h:Heap),(K w.params).In h->h.Ns mainGlobals mg->mg d.name=some (.ref fa) ->
   ∃ fd:FuncData,(∀(s:Shared)(u:Value),BindsTo s fd ⟨[u],[]⟩ [("_law_script",u)])/\∀ base:Heap,(K w.params).In base->base.Ns mainGlobals mg->à l.prog w (K w.params) mg base aB 12 fa fd ["_law_script"] (rF (K w.params))) :
  WalkO q loose XP YP l.row.toRowW d [] (λ f vs=>PySem.call f vs) :=
 L2.O6 (n:=63) (k:=12) (x:="_law_script") (CX:=λ _=>aB) (sp:=λ w=>rF (K w.params)) hn au Tb ⟨rfl,au,au,rfl⟩ hY F (λ _ _ a ns hl _ hS hz=>⟨a,ns,rfl,hS,hl,hz,λ _=>rfl⟩) λ _ _ _ _ _ z=>z
end My
open PySem PySem.W PyProof.Rows
namespace PySem.W.Fast
def tw13717830386506841975:=()
def tw7434209104448295513:=()
def tw14677812700574433286:=()
def tw4315731964979062141:=()
def tw3177473092989079511:=()
def tw12502873151295206113:=()
def tw3285878692217889749:=()
def tw3786123157886393825:=()
def tw1795552145490435654:=()
def tw15557671962460861521:=()
def tw15559115420860572257:=()
def tw12406204768216713461:=()
def tw12437920296147777795:=()
def tw14879585082323862859:=()
def tw12947460874178470625:=()
def tw4846542730024799906:=()
def tw12678038080451766219:=()
def tw6175718938534644:=()
def tw14516392925961060282:=()
def tw6019485888995296674:=()
def tw10326409256174311028:=()
def tw15686547390973388258:=()
def tw5659860849981190142:=()
def tw11879433636783928565:=()
def tw10180126046414115600:=()
def tw15251543819095127867:=()
def tw4027613664101380699:=()
def tw8900162785581513416:=()
def tw7548601246473100825:=()
def tw16541508863959813472:=()
def tw7009735914545221242:=()
def tw15339992234240188001:=()
def tw3327113597401942890:=()
def tw10076969154609911774:=()
def tw4139312393813659941:=()
def tw7084770143560377411:=()
def tw16811003578127511730:=()
def tw10676303884388133918:=()
def tw9574529858862248482:=()
def tw10047805134443683156:=()
def tw2104148706080934763:=()
def tw9395052380541722130:=()
def tw15898501890632420311:=()
def tw13685683693491822624:=()
def tw1855483692626914999:=()
def tw8265483844555676966:=()
def tw10289606237655571311:=()
def tw1606932559072707779:=()
def tw8123091769771099727:=()
def tw7838392316003373296:=()
def tw9307959600608862973:=()
def tw14212236058903969555:=()
def tw2647284295913729789:=()
def tw15854597950280016876:=()
def tw2347733594266778862:=()
def tw1796367587644627995:=()
def tw12126218149871377364:=()
def tw4091038724818126571:=()
def tw211471410960806356:=()
def tw12673370390469185205:=()
def tw6083042655725263146:=()
def tw10440093837434398640:=()
def tw14356443053637324736:=()
def tw10285010398181744566:=()
def tw1807761547242238050:=()
def tw17383356340572533442:=()
def tw1435504109787649928:=()
def tw14542885757150619722:=()
def tw17132010731371695924:=()
def tw10567315069107559260:=()
def tw18030611220347399007:=()
def tw9761785700203519088:=()
def tw2967066515553804749:=()
def tw12041792918350094237:=()
def tw14422388238888430186:=()
def tw1367881682522401535:=()
def tw5394818968557985399:=()
def tw15473683270157672301:=()
def tw16386057386875964253:=()
def tw18256340633750036929:=()
def tw15928697767324701941:=()
def tw4957230099639799540:=()
def tw7194645027670204808:=()
def tw9718720659535556069:=()
def tw14960550787706685648:=()
def tw6935523784911280290:=()
def tw1754114597130580789:=()
def tw11564616213102361259:=()
def tw12100384472354703735:=()
def tw1924349006590606485:=()
def tw7285670991175934827:=()
def tw8963987093216545739:=()
def tw1462764614202339140:=()
def tw6882007404731981846:=()
def tw15012585697101141364:=()
def tw570559596705024037:=()
def tw16317970906468200784:=()
def tw2115737311209439656:=()
def tw9777259690972284276:=()
def tw17181490674615776511:=()
def tw944673276876749290:=()
def tw13123927771060717209:=()
def tw1822599077926879294:=()
def tw11733137878856582553:=()
def tw8462532170731806592:=()
def tw10641734395734638553:=()
def tw1798160862283559793:=()
def tw2526401871370327880:=()
def tw5781487638431186629:=()
def tw14883384208904472346:=()
def tw10133420256110332216:=()
def tw7705735021437129151:=()
def tw9543080467097129558:=()
def tw2190918878721285184:=()
def tw16434949585981967112:=()
def tw4714417586823812988:=()
def tw14496019692138779607:=()
def tw847840860654272621:=()
def tw12118062805808737325:=()
def tw15466705146885060368:=()
def tw5259637753668238343:=()
def tw5583610997126487030:=()
def tw13770907305202763366:=()
def tw185894338591862169:=()
def tw3942604414507195648:=()
def tw4787784877224662442:=()
def tw2033901012317342618:=()
def tw15032905691149419194:=()
def tw16153301971270037020:=()
def tw5605956643951916714:=()
def tw1984177330295024494:=()
def tw2280719823775871483:=()
def tw2479430044703184960:=()
def tw16367001453353632121:=()
def tw6762356420156243043:=()
def tw4037294145932493939:=()
def tw3385695275805448375:=()
def tw7403441448684220969:=()
def tw9239630240903260553:=()
def tw14772917712772820223:=()
def tw4578485250993324367:=()
def tw15585613930412109783:=()
def tw4555654194543811978:=()
def tw7962649273358892471:=()
def tw1678801944170014251:=()
def tw4099439241027261389:=()
def tw8229798198794375534:=()
def tw6579730516250675688:=()
def tw1559723287926622429:=()
def tw6002874524205793065:=()
def tw14717683669289125141:=()
def tw18399799664601001583:=()
def tw9353148576077590256:=()
def tw18397533932465321714:=()
def tw5846113305489772449:=()
def tw3297916320573135774:=()
def tw8778119429277471001:=()
def tw11708395997615601511:=()
def tw5554684564717453941:=()
def tw13937950396262911523:=()
def tw7272261860812661603:=()
def tw7341567075997233168:=()
def tw2626947095320410986:=()
def tw3116223254191743061:=()
def tw5960661102519949181:=()
def tw5942677763854849696:=()
def tw16366785803557902963:=()
def tw7074795228585114913:=()
def tw7772988055851401427:=()
def tw7606730299527283771:=()
def tw16938884596653613356:=()
def tw8478705077551648074:=()
def tw14648029945236772568:=()
def tw15448432329527106818:=()
def tw4511146262772869841:=()
def tw4031027006459950730:=()
def tw14046970243528511444:=()
def tw17127581267078536108:=()
def tw17906526544485958397:=()
def tw12070340970777547683:=()
def tw14694738792548324981:=()
def tw6217200921243314776:=()
def tw5807424959483257987:=()
def tw2050440778985173771:=()
def tw3951043319806589390:=()
def tw12731250402592771377:=()
def tw1184130774111723985:=()
def tw5229253975924483431:=()
def tw9201682826783260764:=()
def tw3402249540312844542:=()
def tw3751651403635221080:=()
def tw3193281275334623471:=()
def tw14472249397897105852:=()
def tw7822379636424881751:=()
def tw4876856076902901770:=()
def tw5011545979222398726:=()
def tw16841132675580429951:=()
def tw10110820636501453789:=()
def tw7134518122702568629:=()
def tw13573547493235944957:=()
def tw7757426505870029281:=()
def tw686484624725130802:=()
def tw5695041264608474699:=()
def tw12669134380200805689:=()
def tw16729967320992526019:=()
def tw11757669666447867240:=()
def tw17897181705097514376:=()
def tw11111131294681270041:=()
def tw17802842818535266694:=()
def tw9268593948740046992:=()
def tw10668186277447977701:=()
def tw2813004720847732642:=()
def tw2719567765918200872:=()
def tw16710751410985770407:=()
def tw4834512341795522410:=()
def tw17194031385730751056:=()
def tw5463594732254552148:=()
def tw10331745457460055714:=()
def tw15643234731637396305:=()
def tw11495409455536812481:=()
def tw13804573991195639288:=()
def tw9723064372771193342:=()
def tw14556522088041632713:=()
def tw14818268885156684917:=()
def tw12520954080602005822:=()
def tw17496321286461303037:=()
def tw754807211093896239:=()
def tw7697711358968862537:=()
def tw2999025904959436358:=()
def tw4329692212191732526:=()
def tw14758340829993018769:=()
def tw5738825885109920540:=()
def tw11853185657584450441:=()
def tw14823905256500501807:=()
def tw1033109145770391807:=()
def tw7723846787089486146:=()
def tw18391497219303625783:=()
def tw6580536635842375370:=()
def tw18389431745545305350:=()
def tw13219225765469985772:=()
def tw18259081340243680213:=()
def tw4372818994240038817:=()
def tw15695921034078202075:=()
def tw14753758222492400663:=()
def tw13360068852303693943:=()
def tw5877577075498504514:=()
def tw7273345435654949232:=()
def tw8582278226409620714:=()
def tw8169658570937792498:=()
def tw3682681906793635797:=()
def tw1164108007307587715:=()
def tw4282485431061432304:=()
def tw1099313318061046115:=()
def tw16330313012178430940:=()
def tw4806331439336992612:=()
def tw3795451190947114321:=()
def tw12045183799859929931:=()
def tw2309887841636371047:=()
def tw15874708821605332135:=()
def tw7562826794196856002:=()
def tw4834182616857179813:=()
def tw9863839785042458155:=()
def tw10989369082488301825:=()
def tw339366925560622612:=()
def tw6754499530321516873:=()
def tw9074011357095744856:=()
def tw14276395891556072424:=()
def tw15589392391339211952:=()
def tw13416102784596219608:=()
def tw6284908130288845598:=()
def tw17277653254724540465:=()
def tw16554639477536416092:=()
def tw5197531656416283185:=()
def tw5176578707815147375:=()
def tw10543358504051786308:=()
def tw17563472109926740439:=()
def tw5074468924042220592:=()
def tw11721290661245541679:=()
def tw967152796806138877:=()
def tw18435968285586111790:=()
def tw4112319727750716855:=()
def tw5377234819258210962:=()
def tw13384367781702860133:=()
def tw4901918993518227784:=()
def tw16099503616868143045:=()
def tw10618540412899731913:=()
def tw6808029429397994094:=()
def tw10342761614202066931:=()
def tw11327485956698657534:=()
def tw15467726036030590131:=()
def tw4670443383637966654:=()
def tw7984742101259992183:=()
def tw11997804429955162227:=()
def tw5877413514067696992:=()
def tw7441395370917518574:=()
def tw16618579537307130231:=()
def tw16624855932966751041:=()
def tw6661903799733381970:=()
def tw2821399899280319947:=()
def tw16677028661569012569:=()
def tw16773562599324789354:=()
def tw1907448047768960983:=()
def tw15217560561512763586:=()
def tw13897435487817983790:=()
def tw2905360516443616834:=()
def tw5189534569506631382:=()
def tw2244342237199188676:=()
def tw7444321288322678089:=()
def tw18112940140168536199:=()
def tw8268376546004902081:=()
def tw16781343727358008133:=()
def tw13552227176726842625:=()
def tw17308201983039071789:=()
def tw3308224663647461958:=()
def tw10777329449283488544:=()
def tw18203884644295085662:=()
def tw3321935887443528878:=()
def tw15117371872984995572:=()
def tw423136755016716548:=()
def tw2524313190271333552:=()
def tw15205826660367174243:=()
def tw3181293980582224023:=()
def tw3969539299835640167:=()
def tw10397681242970333342:=()
def tw18017657318797566408:=()
def tw11012063178314395988:=()
def tw13747965881532506784:=()
def tw1099527484221967456:=()
def tw399893843872163806:=()
def tw2458982819143124055:=()
def tw8290526151564836761:=()
def tw6757147639698644067:=()
def tw11790442620802772261:=()
def tw2439648455620415412:=()
def tw16866273416242367214:=()
def tw1483703722454479028:=()
def tw15440397243273695195:=()
def tw10247330671582009114:=()
def tw1511079495705873342:=()
def tw11094388702546312789:=()
def tw9107670271604952257:=()
def tw6431290923102477652:=()
def tw4941056946529763654:=()
def tw5611161347032688940:=()
def tw15764871472877969146:=()
def tw15153345921554963872:=()
def tw17802364751785500037:=()
def tw12865238163045901822:=()
def tw1012515651733750470:=()
def tw12314219993009194240:=()
def tw2873531178039272558:=()
def tw15051962591178328196:=()
def tw1238539935974089408:=()
def tw15658756476515625998:=()
def tw16765723306453310762:=()
def tw6085705032698632881:=()
def tw2648434364084235774:=()
def tw10857951394112517353:=()
def tw11491255707690094736:=()
def tw2438316270329550328:=()
def tw3134927676687825164:=()
def tw16781602236021535126:=()
def tw12000268871664365770:=()
def tw3753529930823308256:=()
def tw17876267399126193738:=()
def tw8202339111880729676:=()
def tw18315956317900708198:=()
def tw12672903189714666227:=()
def tw10791306980477198297:=()
def tw18311597569248105379:=()
def tw7337550593953817824:=()
def tw9262553757459243254:=()
def tw5196038723265873391:=()
def tw12655199023676971232:=()
def tw2413122320720304033:=()
def tw17330230391401848829:=()
def tw7575524957997078420:=()
def tw8117902357885343610:=()
def tw14594465196862495801:=()
def tw10661397833603126754:=()
def tw10648455751755238123:=()
def tw17696437925032474960:=()
def tw2745590359670030283:=()
def tw11723254817818175243:=()
def tw6499455298086595316:=()
end PySem.W.Fast
set_option maxRecDepth 100000 in
set_option maxHeartbeats 0 in
theorem PySem.Challenge.cw_trialdeal_k18_weighted_within_blocks_holds : PySem.Challenge.rw_trialdeal_k18_weighted_within_blocks.Holds := by
 w_on;o_law;k_head;(case hw=>w_witness2)
 k_fill
 refine My.walk (l:=PySem.Challenge.rw_trialdeal_k18_weighted_within_blocks) rfl rfl (λ w h Y=>PySem.W.kIn_of Y) ?F
 case F =>
  intro w mg fa h KX G S9;refine' My.all_mk KX G S9 (My.Qk ?jaa ?jab ?jac ?jad ?jae ?jaf ?jag ?jah ?jai ?jaj ?jak ?jal) (My.of2 (My.Λ "NoShare" ?jam ?jan ?jao ?jap ?jaq ?jar ?jas ?jat) (mg_of KX G ?jau) (L2.ŭ ?jav ?jaw ?jax) ?jay) (My.of3 (My.Λ "NoNumber" ?jaz ?jaA ?jaB ?jaC ?jaD ?jaE ?jaF ?jaG) (mg_of KX G ?jaH) (L2.ŭ ?jaI ?jaJ ?jaK) ?jaL) (My.of4 (My.Λ "NoFolk" ?jaM ?jaN ?jaO ?jaP ?jaQ ?jaR ?jaS ?jaT) (mg_of KX G ?jaU) (L2.ŭ ?jaV ?jaW ?jaX) ?jaY) (My.of5 (My.Λ "NoWeights" ?jaZ ?ja0 ?ja1 ?ja2 ?ja3 ?ja4 ?ja5 ?ja6) (mg_of KX G ?ja7) (L2.ŭ ?ja8 ?ja9 ?jba) ?jbb) (My.of6 (My.Λ "NoTrials" ?jbc ?jbd ?jbe ?jbf ?jbg ?jbh ?jbi ?jbj) (mg_of KX G ?jbk) (L2.ŭ ?jbl ?jbm ?jbn) ?jbo) (My.of7 (My.Λ "NoOutcome" ?jbp ?jbq ?jbr ?jbs ?jbt ?jbu ?jbv ?jbw) (mg_of KX G ?jbx) (L2.ŭ ?jby ?jbz ?jbA) ?jbB) (My.of8 (My.Λ "NotSure" ?jbC ?jbD ?jbE ?jbF ?jbG ?jbH ?jbI ?jbJ) (mg_of KX G ?jbK) (L2.ŭ ?jbL ?jbM ?jbN) ?jbO) (My.of9 (My.Λ "NoPairs" ?jbP ?jbQ ?jbR ?jbS ?jbT ?jbU ?jbV ?jbW) (mg_of KX G ?jbX) (L2.ŭ ?jbY ?jbZ ?jb0) ?jb1) (My.Vk (My.Λ "TooMany" ?jb2 ?jb3 ?jb4 ?jb5 ?jb6 ?jb7 ?jb8 ?jb9) (mg_of KX G ?jca) (L2.ŭ ?jcb ?jcc ?jcd) ?jce)
   ?jcf ?jcg ?jch ?jci ?jcj ?jck ?jcl ?jcm ?jcn ?jco ?jcp ?jcq ?jcr ?jcs ?jct ?jcu ?jcv ?jcw ?jcx ?jcy ?jcz ?jcA ?jcB ?jcC ?jcD ?jcE ?jcF ?jcG ?jcH ?jcI ?jcJ ?jcK ?jcL ?jcM ?jcN ?jcO ?jcP ?jcQ ?jcR ?jcS ?jcT ?jcU ?jcV ?jcW ?jcX ?jcY ?jcZ ?jc0 ?jc1 ?jc2 ?jc3 ?jc4 ?jc5 ?jc6 ?jc7 ?jc8 ?jc9 ?jda ?jdb ?jdc ?jdd ?jde ?jdf ?jdg ?jdh ?jdi ?jdj ?jdk ?jdl ?jdm ?jdn ?jdo ?jdp ?jdq ?jdr ?jds ?jdt ?jdu ?jdv ?jdw ?jdx ?jdy ?jdz ?jdA ?jdB ?jdC ?jdD ?jdE ?jdF ?jdG ?jdH ?jdI ?jdJ ?jdK ?jdL ?jdM ?jdN ?jdO ?jdP ?jdQ ?jdR ?jdS ?jdT ?jdU ?jdV ?jdW ?jdX ?jdY ?jdZ ?jd0 ?jd1 ?jd2 ?jd3 ?jd4 ?jd5 ?jd6 ?jd7 ?jd8 ?jd9 ?jea ?jeb ?jec ?jed ?jee ?jef ?jeg ?jeh ?jei ?jej ?jek ?jel ?jem ?jen ?jeo ?jep ?jeq ?jer (My.ę My.b1 KX G ?jes ?jet ?jeu ?jev) (My.ę My.b3 KX G ?jew ?jex ?jey ?jez) (My.ę My.b2 KX G ?jeA ?jeB ?jeC ?jeD) (My.ę My.b2 KX G ?jeE ?jeF ?jeG ?jeH) (My.ę My.b1 KX G ?jeI ?jeJ ?jeK ?jeL) (My.ę My.b3 KX G ?jeM ?jeN ?jeO ?jeP) (My.ę My.b1 KX G ?jeQ ?jeR ?jeS ?jeT) (My.ę My.b1 KX G ?jeU ?jeV ?jeW ?jeX) (My.ę My.b1 KX G ?jeY ?jeZ ?je0 ?je1) (My.ę My.b1 KX G ?je2 ?je3 ?je4 ?je5) (My.ę My.b1 KX G ?je6 ?je7 ?je8 ?je9) (My.ę My.b2 KX G ?jfa ?jfb ?jfc ?jfd) (My.ę My.b1 KX G ?jfe ?jff ?jfg ?jfh) (My.ę My.b2 KX G ?jfi ?jfj ?jfk ?jfl) (My.ę My.b1 KX G ?jfm ?jfn ?jfo ?jfp) (My.ę My.b2 KX G ?jfq ?jfr ?jfs ?jft) (My.ę My.b2 KX G ?jfu ?jfv ?jfw ?jfx) (My.ę My.b2 KX G ?jfy ?jfz ?jfA ?jfB) (My.ę My.b1 KX G ?jfC ?jfD ?jfE ?jfF) (My.ę My.b1 KX G ?jfG ?jfH ?jfI ?jfJ) (My.ę My.b1 KX G ?jfK ?jfL ?jfM ?jfN) (My.ę My.b1 KX G ?jfO ?jfP ?jfQ ?jfR) (My.ę My.b1 KX G ?jfS ?jfT ?jfU ?jfV) (My.ę My.b1 KX G ?jfW ?jfX ?jfY ?jfZ) (My.ę My.b3 KX G ?jf0 ?jf1 ?jf2 ?jf3) (My.ę My.b3 KX G ?jf4 ?jf5 ?jf6 ?jf7) (My.ę My.b3 KX G ?jf8 ?jf9 ?jga ?jgb) (My.ę My.b1 KX G ?jgc ?jgd ?jge ?jgf) (My.ę My.b4 KX G ?jgg ?jgh ?jgi ?jgj) (My.ę My.b2 KX G ?jgk ?jgl ?jgm ?jgn) (My.ę My.b1 KX G ?jgo ?jgp ?jgq ?jgr) (My.ę My.b3 KX G ?jgs ?jgt ?jgu ?jgv) (My.ę My.b3 KX G ?jgw ?jgx ?jgy ?jgz) (My.ę My.b4 KX G ?jgA ?jgB ?jgC ?jgD) (My.ę My.b3 KX G ?jgE ?jgF ?jgG ?jgH) (My.ę My.b3 KX G ?jgI ?jgJ ?jgK ?jgL) (My.ę My.b5 KX G ?jgM ?jgN ?jgO ?jgP) (My.ę My.b1 KX G ?jgQ ?jgR ?jgS ?jgT) (My.ĩ My.b5 ?jgU ?jgV ?jgW ?jgX) (My.ĩ My.b1 ?jgY ?jgZ ?jg0 ?jg1) (My.ĩ My.b1 ?jg2 ?jg3 ?jg4 ?jg5) (My.ĩ My.b1 ?jg6 ?jg7 ?jg8 ?jg9) (My.ĩ My.b1 ?jha ?jhb ?jhc ?jhd) (My.ĩ My.b3 ?jhe ?jhf ?jhg ?jhh) (My.ĩ My.b3 ?jhi ?jhj ?jhk ?jhl) (My.ĩ My.b4 ?jhm ?jhn ?jho ?jhp) (My.ĩ My.b2 ?jhq ?jhr ?jhs ?jht) (My.ĩ My.b3 ?jhu ?jhv ?jhw ?jhx) (My.ĩ My.b2 ?jhy ?jhz ?jhA ?jhB) (My.ĩ My.b2 ?jhC ?jhD ?jhE ?jhF) (My.ĩ My.b1 ?jhG ?jhH ?jhI ?jhJ) (My.ĩ My.b1 ?jhK ?jhL ?jhM ?jhN) (My.ĩ My.b3 ?jhO ?jhP ?jhQ ?jhR) (My.ĩ My.b3 ?jhS ?jhT ?jhU ?jhV) (My.ĩ My.b3 ?jhW ?jhX ?jhY ?jhZ) (My.ĩ My.b1 ?jh0 ?jh1 ?jh2 ?jh3) (My.ĩ My.b3 ?jh4 ?jh5 ?jh6 ?jh7) (My.ĩ My.b2 ?jh8 ?jh9 ?jia ?jib) (My.ĩ My.b1 ?jic ?jid ?jie ?jif) (My.ĩ My.b3 ?jig ?jih ?jii ?jij) (My.ĩ My.b2 ?jik ?jil ?jim ?jin) (My.ĩ My.b1 ?jio ?jip ?jiq ?jir) (My.ĩ My.b2 ?jis ?jit ?jiu ?jiv) (My.ĩ My.b1 ?jiw ?jix ?jiy ?jiz) (My.ĩ My.b3 ?jiA ?jiB ?jiC ?jiD) (My.ĩ My.b2 ?jiE ?jiF ?jiG ?jiH) (My.ĩ My.b3 ?jiI ?jiJ ?jiK ?jiL) (My.ĩ My.b3 ?jiM ?jiN ?jiO ?jiP) (My.ĩ My.b3 ?jiQ ?jiR ?jiS ?jiT)
   (λ s v=>.of_eq rfl)
  case jcf | jau | jaH | jaU | ja7 | jbk | jbx | jbK | jbX | jca | jaa | jab=>k_is
  (case jac=>exact My.NI rfl)
  (case jad=>first | rfl | decide +kernel)
  case jae | jaf | jag | jah | jai | jaj | jak | jal | jam | jan | jao | jap | jaq | jar | jas | jat | jav | jaw | jax | jay | jaz | jaA | jaB | jaC | jaD | jaE | jaF | jaG | jaI | jaJ | jaK | jaL | jaM | jaN | jaO | jaP | jaQ | jaR | jaS | jaT | jaV | jaW | jaX | jaY | jaZ | ja0 | ja1 | ja2 | ja3 | ja4 | ja5 | ja6 | ja8 | ja9 | jba | jbb | jbc | jbd | jbe | jbf | jbg | jbh | jbi | jbj | jbl | jbm | jbn | jbo | jbp | jbq | jbr | jbs | jbt | jbu | jbv | jbw | jby | jbz | jbA | jbB | jbC | jbD | jbE | jbF | jbG | jbH | jbI | jbJ | jbL | jbM | jbN | jbO | jbP | jbQ | jbR | jbS | jbT | jbU | jbV | jbW | jbY | jbZ | jb0 | jb1 | jb2 | jb3 | jb4 | jb5 | jb6 | jb7 | jb8 | jb9 | jcb | jcc | jcd | jce | jcj | jcq | jcx | jcH | jcR | jc1 | jdc | jdm | jdv | jdD | jdL | jdT | jcm | jct | jcA | jcB | jcC | jcD | jcE | jcK | jcL | jcM | jcN | jcO | jcU | jcV | jcW | jcX | jcY | jc4 | jc5 | jc6 | jc7 | jc8 | jc9 | jdf | jdg | jdh | jdi | jdj | jdp | jdq | jdr | jds | jdt | jdy | jdz | jdA | jdB | jdG | jdH | jdI | jdJ | jdO | jdP | jdQ | jdR | jdW | jdX | jdY | jdZ | jd0 | jd1=>k_is
  case jcy | jcI | jcS | jc2 | jdd | jdn | jdw | jdE | jdM | jdU =>
   exact My.To (by k_is) (by k_is) (by k_is) (by k_is) (by k_is) (by k_is) (by k_is) (by k_is) (by k_is) (by k_is)
  case jcz | jcJ | jcT | jc3 | jde | jdo | jdx | jdF | jdN | jdV =>
   repeat (refine My.noS (by k_is) ?_)
   exact trivial
  case jcF | jcG | jcP | jcQ | jcZ | jc0 | jda | jdb | jdk | jdl | jdu | jdC | jdK | jdS | jd2 =>
   repeat (refine My.mrS (by k_is) ?_)
   exact trivial
  case jcg | jch | jci | jck | jcl | jcn | jco | jcp | jcr | jcs | jcu | jcv | jcw | jd3 | jd4 | jd5 | jd6 | jd7 | jd8 | jd9 | jea | jeb | jec | jed | jee | jef | jeg | jeh | jei | jej | jek | jel | jem | jen | jeo | jep | jeq | jer | jes | jet | jeu | jev | jew | jex | jey | jez | jeA | jeB | jeC | jeD | jeE | jeF | jeG | jeH | jeI | jeJ | jeK | jeL | jeM | jeN | jeO | jeP | jeQ | jeR | jeS | jeT | jeU | jeV | jeW | jeX | jeY | jeZ | je0 | je1 | je2 | je3 | je4 | je5 | je6 | je7 | je8 | je9 | jfa | jfb | jfc | jfd | jfe | jff | jfg | jfh | jfi | jfj | jfk | jfl | jfm | jfn | jfo | jfp | jfq | jfr | jfs | jft | jfu | jfv | jfw | jfx | jfy | jfz | jfA | jfB | jfC | jfD | jfE | jfF | jfG | jfH | jfI | jfJ | jfK | jfL | jfM | jfN | jfO | jfP | jfQ | jfR | jfS | jfT | jfU | jfV | jfW | jfX | jfY | jfZ | jf0 | jf1 | jf2 | jf3 | jf4 | jf5 | jf6 | jf7 | jf8 | jf9 | jga | jgb | jgc | jgd | jge | jgf | jgg | jgh | jgi | jgj | jgk | jgl | jgm | jgn | jgo | jgp | jgq | jgr | jgs | jgt | jgu | jgv | jgw | jgx | jgy | jgz | jgA | jgB | jgC | jgD | jgE | jgF | jgG | jgH | jgI | jgJ | jgK | jgL | jgM | jgN | jgO | jgP | jgQ | jgR | jgS | jgT | jgU | jgV | jgW | jgX | jgY | jgZ | jg0 | jg1 | jg2 | jg3 | jg4 | jg5 | jg6 | jg7 | jg8 | jg9 | jha | jhb | jhc | jhd | jhe | jhf | jhg | jhh | jhi | jhj | jhk | jhl | jhm | jhn | jho | jhp | jhq | jhr | jhs | jht | jhu | jhv | jhw | jhx | jhy | jhz | jhA | jhB | jhC | jhD | jhE | jhF | jhG | jhH | jhI | jhJ | jhK | jhL | jhM | jhN | jhO | jhP | jhQ | jhR | jhS | jhT | jhU | jhV | jhW | jhX | jhY | jhZ | jh0 | jh1 | jh2 | jh3 | jh4 | jh5 | jh6 | jh7 | jh8 | jh9 | jia | jib | jic | jid | jie | jif | jig | jih | jii | jij | jik | jil | jim | jin | jio | jip | jiq | jir | jis | jit | jiu | jiv | jiw | jix | jiy | jiz | jiA | jiB | jiC | jiD | jiE | jiF | jiG | jiH | jiI | jiJ | jiK | jiL | jiM | jiN | jiO | jiP | jiQ | jiR | jiS | jiT=>k_is
