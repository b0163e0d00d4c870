import PyProof.Rows.All
import Wide.All
import OpenK.AllK
import Wide.FinOn
import Lean
import PyProof.EqAt
import PyProof.EqKinds
import PyProof.TupleCall
import PyProof.ExcClass2
import PyProof.InstStoreFacts
import PyProof.ExcArgs
import PyProof.ExcInit
import PyProof.ExcBaseAll.ValueError
import KE.KIsAll
import PyProof.RulesRaise
import PyProof.RulesAs
import PyProof.RaisesMany
import PyProof.NeKinds
import PyProof.EnumFor
import PyProof.EnumStmt
import PyProof.EnumMake
import PyProof.Rows.EnumRows
import PyProof.CompFree
import PyProof.CompUse
import PyProof.CompMap
import PyProof.DictCompW
import PyProof.Cells
import KE.KIntText
import PyProof.StrBlockG
import PyProof.StrBlockH
import PyProof.StrWalks
import PyProof.Rows.StrNews2
import PyProof.Rows.StrOr
import PyProof.Rows.Digits
import PyProof.StrBlockL
import PyProof.MeetsStr2
import KE.IntTextLaws
import PyProof.Rows.StrPartPair
import PyProof.StrLawsTight
import PyProof.StrLawsChain
import PyProof.Rows.StrIntSpec
import PyProof.Rows.StrItems
import PyProof.ReprRoads
import PyProof.ReprBulk
import PyProof.FitsInt
import PyProof.CallFns
import PyProof.Rows.FactsT3
import PyProof.ListRange
import PyProof.TupleOfSeq
import PyProof.TupleOfGen
import PyProof.ConsumeWalk
import PyProof.Rows.SeqGen
import KE.KUnpack
import PyProof.Draws
import PyProof.Rows.RuleB_bool
import PyProof.WalkInts
import PyProof.SeqI3
import KE.KRevSl
import KE.BitLaws
import PyProof.Rows.SumAny
import OpenK.KTop
import PyProof.Rows.FStr
import PyProof.ZipIter
import PyProof.TupleIter
import PyProof.WalksMore
import PyProof.Rows.FactsT2
import PyProof.Rows.SortWalk
import PyProof.Rows.SeqMore2
import PyProof.DictItems
import PyProof.DictValues
import KE.KDictSum
import KE.KDictList
import PyProof.SumWalkG
import PyProof.AttrMiss
import PyProof.IsiH_list
import KE.KDictOf
import KE.KEqDict
import PyProof.Rows.TupDisplay
import PySem.Challenge.RW_trialdeal_k30_trials_refused
set_option autoImplicit true
set_option relaxedAutoImplicit true
set_option linter.all false
def À:=@PySem.wpAny_bind
def Á:=@List.getElem?_eq_getElem
def Â:=@PySem.Heap.get?_push_of_some
def Ã:=@PySem.wpAny_pure
def Ä:=@decide_eq_true
def Å:=@decide_eq_false
def Æ:=@List.length_map
def Ç:=@Nat.le_refl
def È:=@PySem.Heap.lt_size
def É:=@List.getElem?_eq_some_iff
def Ê:=@Bool.false_ne_true
def Ë:=@PySem.Heap.get?_push_size
def Ì:=@if_neg
def Í:=@Nat.lt_of_lt_of_le
def Î:=@Int.toNat_natCast
def Ï:=@if_pos
def Ð:=@List.mem_singleton
def Ñ:=@Nat.ne_of_lt
def Ó:=@Option.some.inj
def Ô:=@Nat.le_trans
def Õ:=@PySem.Heap.get?_update_ne
def Ö:=@PyProof.Rows.boot_isinstance
def Ø:=@PySem.sizeLine_eq
def Ù:=@List.getElem?_map
def Ú:=@PySem.wpAny_holding
def Û:=@of_decide_eq_true
def Ü:=@List.size_toArray
def Ý:=@List.length_append
def Þ:=@beq_eq_false_iff_ne
def ß:=@List.mem_cons
def á:=@List.map_append
def â:=@PyProof.Rows.boot_repr
def ã:=@Nat.pow_le_pow_right
def ä:=@List.mem_cons_of_mem
def å:=@List.length_cons
def æ:=@Array.getElem?_eq_some_iff
def ç:=@PySem.mem_of_lookup
def è:=@PySem.wpAny_field
def é:=@List.all_eq_true
def ê:=@List.mem_of_getElem?
def ì:=@PySem.Heap.size_push
def í:=@List.mem_append_right
def ï:=@Nat.gcd_dvd_right
def ð:=@PySem.Heap.get?_update_self
def ò:=@PySem.boot_len
def ø:=@List.mem_cons_self
def ù:=@List.append_nil
def ú:=@Nat.gcd_dvd_left
def û:=@PySem.wpAny_setField_rec
def ý:=@PySem.wpAny_call_entry
def Ā:=@PySem.W.kia_one
def ā:=@List.mem_map
def Ă:=@List.mem_append
def ă:=@decide_eq_true_iff
def Ą:=@beq_iff_eq
def ą:=@List.contains_cons
def Ć:=@PySem.wpAny_ite_true
def ć:=@PySem.F.plainAttrs_list
def Ĉ:=@PyProof.Rows.boot_tuple
def ĉ:=@List.take_length
def Ċ:=@List.lookup_cons
def ċ:=@List.getElem_mem
def Č:=@PySem.wpAny_Call_Name_kw
def Ď:=@Nat.div_le_self
def ď:=@PySem.Paired.length
def Đ:=@PySem.W.Looks.here
def đ:=@PySem.wpAny_ite_false
def Ē:=@PySem.PassesOwn.never
def Ĕ:=@Nat.gcd_pos_of_pos_right
def ĕ:=@List.map_map
def Ė:=@List.map_cons
def Ę:=@PySem.W.mg_none_of
def ę:=@PyProof.Rows.callWith_type1
def Ě:=@Option.map_eq_some_iff
def ě:=@PySem.wpAny_truthy_bool
def Ĝ:=@PySem.wpAny_newObj_type
def ĝ:=@PySem.wpAny_callSpecial?_slot
def Ğ:=@PySem.wpAny_mono
def ğ:=@Bool.and_eq_true
def Ġ:=@PySem.W.callWith_K
def Ģ:=@List.length_replicate
def ģ:=@PySem.wpAny_standAt
def ĥ:=@PySem.wpAny_seqItems
def Ħ:=@PySem.F.type_list_append
def ħ:=@PySem.F.slot_list_append
def Ĩ:=@Option.isSome_iff_exists
def ī:=@Nat.mul_div_cancel'
def Ĭ:=@List.getElem_of_mem
def ĭ:=@congrArg
def İ:=@Int.emod_lt_of_pos
def ı:=@Nat.lt_irrefl
def Ĳ:=@Bool.true_and
def ĳ:=@PyProof.Rows.boot_int
def Ķ:=@PySem.wpAny_passesOwn
def ķ:=@PySem.F.slot_NoneType_hash
def ĸ:=@PySem.F.excAttr_ValueError
def Ĺ:=@List.getElem?_append_right
def ĺ:=@Bool.false_and
def ļ:=@Nat.lt_trans
def Ľ:=@Nat.lt_or_ge
def Ŀ:=@Nat.le_of_dvd
def ŀ:=@PySem.F.slot_tuple_iterator_next
def Ł:=@Bool.eq_iff_iff
def ł:=@PySem.codeAny_mono
def Ń:=@Nat.lt_of_le_of_lt
def ń:=@Nat.le_succ
def ň:=@PySem.wpAny_attempt
def ŉ:=@PyProof.Rows.boot_bool
def Ŋ:=@Nat.ne_of_gt
def ŋ:=@Nat.lt_succ_of_lt
def Ō:=@List.mem_range
def ō:=@List.getElem?_set_self
def ŏ:=@PySem.wpAny_specialOf
def Ő:=@PySem.wpAny_execs_nil
def ő:=@PySem.wpAny_rule
def Œ:=@PySem.wpAny_call
def Ŕ:=@PySem.W.methodCall_KW
def Ŗ:=@beq_self_eq_true
def Ś:=@PySem.wpAny_nextOf_list_item
def ś:=@PySem.Heap.get?_push_at
def ŝ:=@Option.map_some
def Ş:=@Int.natCast_mul
def ş:=@Int.emod_nonneg
def ť:=@PySem.F.slot_enumerate_next
def ũ:=@PySem.wpAny_isInstance
def ū:=@PySem.W.mg_of
def Ŭ:=@PySem.codeAny_call_builtin
def ŭ:=@Int.natAbs_natCast
def Ů:=@Int.fdiv_eq_ediv_of_nonneg
def ů:=@Array.forIn_toList
def Ű:=@PySem.Around.under_plainId
def Ÿ:=@List.getElem?_append_left
def Ź:=@Nat.zero_le
def ź:=@Nat.le_succ_of_le
def Ž:=@PySem.wpAny_typeOf
def ž:=@List.any_cons
def Γ:=@PySem.wpAny_loadPart
def Δ:=@PySem.W.looks_findIn
def Ε:=@decide_eq_false_iff_not
def Ζ:=@decide_eq_decide
def Η:=@Option.bind_some
def Θ:=@Nat.gcd_pos_of_pos_left
def Ι:=@List.length_take
def Υ:=@PyProof.Rows.boot_list
def Φ:=@Nat.not_lt
def Χ:=@Nat.le_of_eq
def Ψ:=@Int.zero_add
def ε:=@PySem.wpAny_pyIter_enum
def ζ:=@Nat.not_lt_zero
def η:=@List.nodup_cons
def θ:=@List.mem_filter
def ι:=@PySem.F.slot_tuple_hash
def ο:=@PySem.wpAny_onRaise
def τ:=@PySem.W.looks_mroIn
def χ:=@Nat.div_one
def ψ:=@List.mem_append_left
def ω:=@List.getElem?_set_ne
def a_:=@Int.one_mul
def q_:=@PySem.W.plainGet_of
def r_:=@Nat.mul_le_mul_left
def s_:=@List.filterMap_cons
def D_:=@PySem.codeAny_builtin
def E_:=@Nat.mul_assoc
def F':=@PySem.F.slot_zip_next
def IR:=@PySem.wpAny_callSpecialIfBoundUnlessNone?_slot
def IS:=@List.mem_filterMap
def Jh:=@PySem.wpAny_updateSeq_pair
def Ji:=@PySem.wpAny_setFlight_none
def Jj:=@PySem.wpAny_setField
def Jk:=@Nat.le_of_lt
def JE:=@PyProof.Rows.callWith_builtin1
def JF:=@Nat.lt_succ_self
def JG:=@List.countP_cons
def JH:=@List.any_eq_true
def J9:=@PySem.Value.ref.inj
def J':=@Nat.log2_lt
def J_:=@Int.mul_one
def KB:=@PySem.wpAny_tupleItemsOf
def KC:=@PySem.Obj.data_mapFields
def KD:=@List.of_mem_zip
def KF:=@List.length_nil
def K8:=@PySem.wpAny_pyIter_list
def K9:=@PySem.wpAny_loadPart_at
def K':=@PySem.F.excBase_ValueError
def K_:=@PySem.PassesOwn.leaving
def La:=@Nat.mul_le_mul
def Lb:=@List.getD_eq_getElem?_getD
def Lc:=@List.forIn_nil
def LI:=@PySem.plainObj_wpAny_Assign_Attribute
def LS:=@PySem.wpAny_forIn_list
def LU:=@PySem.wpAny_execs_cons
def LV:=@PyProof.Rows.boot_sorted
def LW:=@List.all_cons
def LX:=@PySem.Heap.size_update
def Mu:=@PySem.wpAny_of_eq
def Mv:=@PySem.F.slot_list_index
def Mw:=@Nat.mul_div_cancel_left
def Mx:=@List.length_eq_zero_iff
def Mz:=@List.getElem?_replicate
def M3:=@PySem.wpAny_loadPart'
def M4:=@PySem.W.cellsFrom_some
def M5:=@PyProof.Rows.boot_dict
def M6:=@List.take_of_length_le
def M7:=@List.map_nil
def M8:=@List.filter_eq_nil_iff
def M9:=@PySem.F.slot_tuple_eq
def M':=@PySem.F.args_tuple_iterator_next_1
theorem aA {p:Prop}(h:p:=by decide +kernel):p:=h
theorem ag {p:Prop}(h:p:=by decide):p:=h
theorem ae {p:Prop}(h:p:=by omega):p:=h
theorem dy {n:Nat}(h:Nat.ble n 1000=true:=by exact rfl):n<=PySem.sizeLine:=Ô (Nat.le_of_ble_eq_true h) (by decide)
abbrev bz:=PySem.Value->PySem.Shared->Prop
abbrev aX:=PySem.Str->Option PySem.Value
abbrev ij (l:List (PySem.Str × PySem.NameKind)):PySem.Scope:={ kind:=.function,names:=(".0",.local)::l,isGenerator:=false,isCoroutine:=false }
set_option Elab.async false
set_option maxRecDepth 100000
namespace L2
open PySem PySem.Spec PyProof.Rows
inductive Key where
 | inl (i:Int) | inr (x:Str) | ô
 deriving DecidableEq
def iV:Key->Value->Bool
 | .inl k,v=>Value.isInt k v
 | .inr x,v=>Value.isStrOf x v
 | .ô,v=>v == .none
def EK (w:World):Key->Int
 | .inl k=>hashInt k
 | .inr x=>hashStr w x
 | .ô=>0xFCA86420
theorem my {prog:Program}{w:World}{A:Around}{E:bz}{s:Shared}{Q:Int->Shared->Prop}(h:Q 0xFCA86420 { s with toks:=s.toks+1 }):wpAny (model prog w) A (pyHash .none) Q E s:=by
 unfold pyHash;have hT:s.TypeIs .none "NoneType" := rfl;have hv:[Value.none].any Value.onHeap=false:=rfl;refine À ?_;rw [cRoomFor,Ì (by rw [hv];exact Ê)];refine Ã ?_
 refine À (ŏ hT ķ.lookup ?_);show wpAny _ _ (if(some (Value.builtin "NoneType.__hash__")==some Value.none)=true then _ else _) Q E s
 rw [Ì (by rw [beq_builtin_none];exact Ê)]
 refine À (ŏ hT ķ.lookup ?_);show wpAny _ _ (callSpecialIfBoundUnlessNone? .none "__hash__" _>>=_) Q E s;refine À (IR hT ķ
  (ý ķ hT PySem.F.entry_NoneType_hash
   (show wpAny _ _ (do ret (<- mkInt 0xFCA86420)) _ _ s from wpAny_ret_mkInt ?_) (PySem.F.args_NoneType_hash_1 _)))
 show wpAny _ _ (if(decide (-(2:Int)^63<=0xFCA86420)&&decide ((0xFCA86420:Int)<2^63))=true then _ else _) Q E _
 rw [Ï ag];exact Ã h
theorem aJ:∀{k:Key}{v:Value},iV k v=true->(∃ i t,k=Key.inl i/\v=Value.int i t)\/(∃ x t,k=Key.inr x/\v=Value.str x t)\/(k=Key.ô/\v=Value.none)
 | .inl i,v,h=>by
  obtain⟨t,e⟩:=Value.isInt_shape (k:=i) (v:=v) h;exact .inl ⟨i,t,rfl,e⟩
 | .inr x,v,h=>by
  obtain⟨t,e⟩:=Value.isStrOf_shape (x:=x) (v:=v) h;exact .inr (.inl ⟨x,t,rfl,e⟩)
 | .ô,v,h=>.inr (.inr ⟨rfl,eq_of_beq h⟩)
theorem qJ (i:Int)(t:Tok):iV (.inl i) (.int i t)=true:=by simp [iV,Value.isInt]
theorem qa (x:Str)(t:Tok):iV (.inr x) (.str x t)=true:=by simp [iV,Value.isStrOf]
theorem AN (a b:Int):decide (Key.inl a=Key.inl b)=(a==b):=by
 by_cases e:a=b
 ·subst e;simp
 ·rw [Å (λ q=>e (Key.inl.inj q))];exact(Þ.mpr e).symm
theorem yf (a b:Str):decide (Key.inr a=Key.inr b)=decide (a=b):=by
 by_cases e:a=b
 ·subst e;simp
 ·rw [Å (λ q=>e (Key.inr.inj q)),Å e]
theorem AV (a:Int)(b:Str):decide (Key.inl a=Key.inr b)=false:=Å (λ q=>nomatch q)
theorem yC (a:Str)(b:Int):decide (Key.inr a=Key.inl b)=false:=Å (λ q=>nomatch q)
theorem AS (a:Int):decide (Key.inl a=Key.ô)=false:=Å (λ q=>nomatch q)
theorem Bb (a:Int):decide (Key.ô = Key.inl a)=false:=Å (λ q=>nomatch q)
theorem zB (a:Str):decide (Key.inr a=Key.ô)=false:=Å (λ q=>nomatch q)
theorem Ap (a:Str):decide (Key.ô = Key.inr a)=false:=Å (λ q=>nomatch q)
def aL (prog:Program)(w:World):PySem.KeyKind prog w Key where
 is:=iV
 hash:=EK w
 inj:=λ v a b ha hb=>by
  rcases aJ ha with⟨i,t,rfl,rfl⟩ | ⟨x,t,rfl,rfl⟩ | ⟨rfl,rfl⟩
  ·rcases aJ hb with⟨j,u,rfl,e⟩ | ⟨y,u,rfl,e⟩ | ⟨rfl,e⟩
   ·injection e with e1 _;rw [e1]
   ·exact nomatch e
   ·exact nomatch e
  ·rcases aJ hb with⟨j,u,rfl,e⟩ | ⟨y,u,rfl,e⟩ | ⟨rfl,e⟩
   ·exact nomatch e
   ·injection e with e1 _;rw [e1]
   ·exact nomatch e
  ·rcases aJ hb with⟨j,u,rfl,e⟩ | ⟨y,u,rfl,e⟩ | ⟨rfl,e⟩
   ·exact nomatch e
   ·exact nomatch e
   ·rfl
 byValue:=λ k v h=>by
  rcases aJ h with⟨i,t,rfl,rfl⟩ | ⟨x,t,rfl,rfl⟩ | ⟨rfl,rfl⟩ <;> rfl
 pyHash:=λ hv h=>by
  rcases aJ hv with⟨i,t,rfl,rfl⟩ | ⟨x,t,rfl,rfl⟩ | ⟨rfl,rfl⟩
  ·exact wpAny_pyHash_int h
  ·exact wpAny_pyHash_str h
  ·exact my h
 eqBool:=λ hu hv h=>by
  rcases aJ hu with⟨i,t,rfl,rfl⟩ | ⟨x,t,rfl,rfl⟩ | ⟨rfl,rfl⟩
  ·rcases aJ hv with⟨j,u,rfl,rfl⟩ | ⟨y,u,rfl,rfl⟩ | ⟨rfl,rfl⟩
   ·rw [AN] at h;exact wpAny_eqBool_int h
   ·rw [AV] at h;exact SeqAt.EqAt.int_str i t y u _ _ _ _ h
   ·rw [AS] at h;exact SeqAt.EqAt.int_none i t _ _ _ _ h
  ·rcases aJ hv with⟨j,u,rfl,rfl⟩ | ⟨y,u,rfl,rfl⟩ | ⟨rfl,rfl⟩
   ·rw [yC] at h;exact SeqAt.EqAt.str_int x t j u _ _ _ _ h
   ·rw [yf] at h;exact wpAny_eqBool_str h
   ·rw [zB] at h;exact SeqAt.EqAt.str_none x t _ _ _ _ h
  ·rcases aJ hv with⟨j,u,rfl,rfl⟩ | ⟨y,u,rfl,rfl⟩ | ⟨rfl,rfl⟩
   ·rw [Bb] at h;exact SeqAt.EqAt.none_int j u _ _ _ _ h
   ·rw [Ap] at h;exact SeqAt.EqAt.none_str y u _ _ _ _ h
   ·exact SeqAt.EqAt.same _ _ _ _ _ (by simpa using h)
 «strs» := λ k x t v h=>by
  rcases aJ h with⟨i,u,rfl,e⟩ | ⟨y,u,rfl,e⟩ | ⟨rfl,e⟩
  ·exact nomatch e
  ·injection e with e1 _
   subst e1;cases v <;> rfl
  ·exact nomatch e
theorem iF (prog:Program)(w:World)(k:Key)(v:Value):(aL prog w).is k v=iV k v:=rfl
theorem lB (prog:Program)(w:World)(i:Int)(t:Tok):(aL prog w).is (.inl i) (.int i t)=true:=qJ i t
theorem mh (prog:Program)(w:World)(x:Str)(t:Tok):(aL prog w).is (.inr x) (.str x t)=true:=qa x t
inductive V where
 | ô | bl (b:Bool) | int (i:Int) | str (x:Str) | K0 (b:Array UInt8) | LQ (b:UInt64) | ref (a:Addr) | ty (n:String)
 deriving DecidableEq
def RelV:V->Value->Prop
 | .ô,u=>u=Value.none
 | .bl b,u=>u=Value.bool b
 | .int i,u=>∃ t,u=Value.int i t
 | .str x,u=>∃ t,u=Value.str x t
 | .K0 b,u=>∃ t,u=Value.bytes b t
 | .LQ b,u=>∃ t,u=Value.float b t
 | .ref a,u=>u=Value.ref a
 | .ty n,u=>u=Value.type n
abbrev Vals:List V->List Value->Prop:=Paired RelV
theorem Vals.length {xs:List V}{us:List Value}(r:Vals xs us):xs.length=us.length:=ď r
theorem Vals.get:∀{xs:List V}{us:List Value}{i:Nat}{x:V},Vals xs us->xs[i]?=some x->∃ u,us[i]?=some u/\RelV x u
 | _,_,_,_,.nil,e=>by simp at e
 | _,_,0,_,.cons r _,e=>by simp at e;subst e;exact⟨_,rfl,r⟩
 | _,_,i+1,x,.cons _ t,e=>by
  obtain⟨u,h1,h2⟩:=Vals.get (i:=i) (x:=x) t (by simpa using e)
  exact⟨u,by simpa using h1,h2⟩
theorem Vals.set {x:V}{u:Value}(r:RelV x u):∀{xs:List V}{us:List Value}(i:Nat),Vals xs us->Vals (xs.set i x) (us.set i u)
 | _,_,_,.nil=>.nil
 | _,_,0,.cons _ t=>.cons r t
 | _,_,i+1,.cons q t=>.cons q (Vals.set r i t)
theorem Vals.append:∀{xs ys:List V}{us ws:List Value},Vals xs us->Vals ys ws->Vals (xs++ys) (us++ws)
 | _,_,_,_,.nil,s=>s
 | _,_,_,_,.cons r t,s=>.cons r (Vals.append t s)
theorem Vals.take:∀{xs:List V}{us:List Value}(n:Nat),Vals xs us->Vals (xs.take n) (us.take n)
 | _,_,0,_=>.nil
 | _,_,_+1,.nil=>.nil
 | _,_,n+1,.cons r t=>.cons r (Vals.take n t)
theorem Vals.drop:∀{xs:List V}{us:List Value}(n:Nat),Vals xs us->Vals (xs.drop n) (us.drop n)
 | _,_,0,r=>r
 | _,_,_+1,.nil=>.nil
 | _,_,n+1,.cons _ t=>Vals.drop n t
def Ţ:Option V->Option Value->Prop
 | some v,some u=>RelV v u
 | none,none=>True
 | _,_=>False
def KV {κ:Type}:List (κ × V)->List (κ × Value)->Prop:=Paired λ (p:κ × V)(q:κ × Value)=>p.1=q.1/\RelV p.2 q.2
def kV:Key->V
 | .inl i=>.int i
 | .inr x=>.str x
 | .ô=>.ô
theorem Paired.Ln {α β:Type}{F G:α->β->Prop}:∀{Lp:List α}{Lo:List β},Paired F Lp Lo->(∀ a b,F a b->G a b)->Paired G Lp Lo
 | _,_,.nil,_=>.nil
 | _,_,.cons r t,f=>.cons (f _ _ r) (Paired.Ln t f)
inductive NK where
 | k (x:Key) | t (ks:List Key)
 deriving DecidableEq
section
variable (P:Program)(w:World)(h:Heap)
def fR:NK->Value->Prop
 | .k x,v=>(aL P w).is x v=true
 | .t ks,v=>∃ a,v=.ref a/\IsTupleKey (aL P w) h ks a
def Bp:NK->Int
 | .k x=>EK w x
 | .t ks=>tupleKeyHash (aL P w) ks
def FX:NK->Nat
 | .k _=>1
 | .t ks=>ks.length+1
def qo (ks:List NK):Nat:=(ks.map FX).sum
def γ (ks:List NK)(a:Addr):Prop:=∃ o items n,h.get? a=some o/\o.cls=.type "tuple" /\ o.data=.seq items n/\Paired (fR P w h) ks items.toList
end
section
variable {P:Program}{w:World}{A:Around}{E:bz}{s:Shared}{h:Heap}
theorem tY {x:Key}{b:Addr}:¬ (aL P w).is x (.ref b)=true:=λ e=>nomatch ((aL P w).byValue _ _ e:carriedByValue (.ref b)=true)
theorem zj:∀{x y:NK}{v:Value},fR P w h x v->fR P w h y v->x=y
 | .k a,.k b,v,h1,h2=>ĭ NK.k ((aL P w).inj v a b h1 h2)
 | .k a,.t b,v,h1,⟨_,e,_⟩=>absurd h1 (by rw [e];exact tY)
 | .t a,.k b,v,⟨_,e,_⟩,h2=>absurd h2 (by rw [e];exact tY)
 | .t a,.t b,v,⟨c,e,h1⟩,⟨d,e2,h2⟩=>by
  rw [e] at e2;cases e2;rw [h1.inj h2]
theorem pH:∀{xs ys:List NK}{vs:List Value},Paired (fR P w h) xs vs->Paired (fR P w h) ys vs->xs=ys
 | _,_,_,.nil,h2=>by cases h2;rfl
 | _,_,_,.cons a r,h2=>by
  cases h2 with
  | cons b t=>rw [zj a b,pH r t]
theorem γ.inj {a:Addr}{x y:List NK}(hx:γ P w h x a)(hy:γ P w h y a):x=y:=by
 obtain⟨o,i,n,h1,_,h3,h4⟩:=hx;obtain⟨o',i',n',k1,_,k3,k4⟩:=hy;rw [h1] at k1;cases k1;rw [h3] at k3;cases k3;exact pH h4 k4
theorem γ.keeps {h':Heap}{ks:List NK}{a d:Addr}{o:Obj} {es ep}(x:γ P w h ks a)(ho:h.get? d=some o)(hd:o.data=.dict es ep)(hs:Heap.SameBut d h h'):γ P w h' ks a:=by
 obtain⟨o',i,n,h1,h2,h3,h4⟩:=x;have ne:a≠d:=λ e=>by
  rw [e,ho] at h1;cases h1;rw [hd] at h3;cases h3
 refine⟨o',i,n,(hs.2 a ne).trans h1,h2,h3,Paired.Ln h4 λ k v z=>?_⟩;cases k with
 | k x=>exact z
 | t xs =>
  obtain⟨b,e,q⟩:=z;exact⟨b,e,q.keeps ho hd hs⟩
theorem uL {x:NK}{v:Value}{Q:Int->Shared->Prop}(hu:A.units<cLine)(hx:fR P w s.heap x v)(q:Q (Bp P w x) { s with toks:=s.toks+FX x }):wpAny (model P w) A (pyHash v) Q E s:=by
 cases x with
 | k x=>exact(aL P w).pyHash hx q
 | t ks =>
  obtain⟨a,rfl,hk⟩:=hx;exact wpAny_pyHash_tuple hu hk q
theorem tS {ks:List Key}{b:Addr}(z:IsTupleKey (aL P w) h ks b):∃ its,h.IsTuple b its:=by
 obtain⟨o,i,n,h1,h2,h3,_⟩:=z;exact⟨i,o,h1,h2,n,h3⟩
theorem B5 {x y:NK}{u v:Value}{Q:Bool->Shared->Prop}(hu:A.units<cLine)(hx:fR P w s.heap x u)(hy:fR P w s.heap y v)(q:Q (decide (x=y)) s):wpAny (model P w) A (eqBool u v) Q E s:=by
 cases x with
 | k x =>
  cases y with
  | k y =>
   refine(aL P w).eqBool hx hy ?_;rw [show decide (x=y)=decide (NK.k x=NK.k y) from Ζ.mpr ⟨λ e=>by rw [e],λ e=>by cases e;rfl⟩]
   exact q
  | t ys =>
   obtain⟨b,rfl,z⟩:=hy;obtain⟨its,ht⟩:=tS z;rw [Å (λ e=>nomatch e)] at q;rcases aJ hx with⟨i,t,rfl,rfl⟩ | ⟨z,t,rfl,rfl⟩ | ⟨rfl,rfl⟩
   ·exact SeqAt.EqAt.int_tuple i t ht hu _ _ _ _ q
   ·exact SeqAt.EqAt.str_tuple z t ht hu _ _ _ _ q
   ·exact SeqAt.EqAt.none_tuple ht hu _ _ _ _ q
 | t xs =>
  obtain⟨a,rfl,z⟩:=hx;cases y with
  | k y =>
   obtain⟨its,ht⟩:=tS z;rw [Å (λ e=>nomatch e)] at q;rcases aJ hy with⟨i,t,rfl,rfl⟩ | ⟨z,t,rfl,rfl⟩ | ⟨rfl,rfl⟩
   ·exact SeqAt.EqAt.tuple_int i t ht hu _ _ _ _ q
   ·exact SeqAt.EqAt.tuple_str z t ht hu _ _ _ _ q
   ·exact SeqAt.EqAt.tuple_none ht hu _ _ _ _ q
  | t ys =>
   obtain⟨b,rfl,z2⟩:=hy;refine wpAny_eqBool_tuple hu z z2 ?_;rw [show decide (xs=ys)=decide (NK.t xs=NK.t ys) from Ζ.mpr ⟨λ e=>by rw [e],λ e=>by cases e;rfl⟩]
   exact q
theorem lV {ok:Value->Prop}{n:Nat}{a:Addr}{o:Obj}{its:Array Value}{m:Nat}{Q:Bool->Shared->Prop}(ho:s.heap.get? a=some o)(hc:o.cls=.type "tuple") (hd:o.data=.seq its m) (hv:∀ v∈its.toList,ok v) (each:∀ v (R:Bool->Shared->Prop),ok v->R true s->wpAny (model P w) A (eqIsQuiet n v) R E s) (q:Q true s):wpAny (model P w) A (eqIsQuiet (n+1) (.ref a)) Q E s:=by
 have hT:s.TypeIs (.ref a) "tuple" :=⟨o,ho,hc⟩;unfold eqIsQuiet;refine À (ŏ hT M9.lookup ?_);show wpAny _ _ (isInstance (.ref a) (.type "tuple")>>=_) _ _ s;refine À (ũ hT isSubtype_tuple_tuple ?_);simp only [Bool.not_true,Bool.false_eq_true,if_false];refine À (ĥ ho hd (À ?_));show wpAny _ _ (forIn its _ _) _ _ s;rw [<- ů];refine LS _ (λ rest r s'=>r.1=none/\s'=s/\∀ v∈rest,ok v) _ ?_ ?_ _ _ ⟨rfl,rfl,hv⟩
 ·rintro v rest r s' ⟨hr,rfl,Mh⟩;refine À (each v _ (Mh v ø) ?_);simp only [Bool.not_true,Bool.false_eq_true,if_false];exact Ã ⟨rfl,rfl,λ u Xg=>Mh u (ä _ Xg)⟩
 ·rintro⟨r1,r2⟩ s' ⟨hr,rfl,_⟩;simp only at hr;subst hr;exact Ã q
theorem uq {x:NK}{n:Nat}{v:Value}{Q:Bool->Shared->Prop}(hx:fR P w s.heap x v)(q:Q true s):wpAny (model P w) A (eqIsQuiet (n+1) v) Q E s:=by
 cases x with
 | k x =>
  rw [eqIsQuiet_byValue _ ((aL P w).byValue _ _ hx)];exact Ã q
 | t ks =>
  obtain⟨a,rfl,o,its,m,h1,h2,h3,h4⟩:=hx;refine lV (ok:=λ v=>carriedByValue v=true) h1 h2 h3 h4.byValue (λ v R c r=>?_) q;rw [eqIsQuiet_byValue _ c];exact Ã r
theorem rS:∀{ks:List NK}{vs:List Value},Paired (fR P w h) ks vs->∀ v∈vs,∃ k,fR P w h k v
 | _,_,.nil,v,m=>nomatch m
 | _,_,.cons a t,v,m=>by
  rcases ß.mp m with rfl | m
  ·exact⟨_,a⟩
  ·exact rS t v m
theorem pW {ks:List NK}{a:Addr}{Q:Bool->Shared->Prop}(hk:γ P w s.heap ks a)(q:Q true s):wpAny (model P w) A (eqIsQuiet 8 (.ref a)) Q E s:=by
 obtain⟨o,its,m,h1,h2,h3,h4⟩:=hk;exact lV (n:=7) (ok:=λ v=>∃ k,fR P w s.heap k v) h1 h2 h3 (rS h4) (λ v R ⟨k,c⟩ r=>uq c r) q
def yp (P:Program)(w:World)(ks:List NK):Int:=reduceHash (Builtin.Tuple.tupleHashOf (ks.map (Bp P w)))
theorem qZ {ks:List NK}{a:Addr}{Q:Int->Shared->Prop}(hu:A.units+1<cLine)(hk:γ P w s.heap ks a)(q:Q (yp P w ks) { s with toks:=s.toks+(qo ks+1) }):wpAny (model P w) A (pyHash (.ref a)) Q E s:=by
 obtain⟨o,its,n,ho,hc,hd,hi⟩:=hk;have hT:s.TypeIs (.ref a) "tuple" :=⟨o,ho,hc⟩;unfold pyHash
 first | unfold pyHashByItsType | skip
 first | refine À (wpAny_cRoomFor_or (.inr ae) ?_) | skip
 refine À (ŏ hT ι.lookup ?_);show wpAny _ _ (if(some (Value.builtin "tuple.__hash__")==some Value.none)=true then _ else _) Q E s
 rw [Ì (by rw [beq_builtin_none];exact Ê)]
 refine À (ŏ hT ι.lookup ?_);show wpAny _ _ (callSpecialIfBoundUnlessNone? (.ref a) "__hash__" _>>=_) Q E s;refine À (IR hT ι (ý ι hT F.entry_tuple_hash ?_ (F.args_tuple_hash_1 _)));show wpAny _ _ (Builtin.Tuple.tupleItemsOf (.ref a)>>=_) _ _ s;refine À (KB ho hd (À ?_));rw [<- ů];refine LS _ (λ rest (b:Array Int) s'=>∃ done left,ks=done++left/\Paired (fR P w s.heap) left rest/\b.toList=done.map (Bp P w)/\s'={ s with toks:=s.toks+qo done }) _ ?_ ?_ _ _ ⟨[],ks,rfl,hi,rfl,rfl⟩
 ·rintro x rest b s' ⟨done,left,rfl,hl,hb,rfl⟩;cases hl with
  | @cons k _ S8 _ h1 Tg =>
   have e:qo (done ++ [k])=qo done+FX k:=by simp [qo]
   refine À (uL hu h1 ?_)
   first
    | exact Ã ⟨done ++ [k],S8,by simp,Tg,by simp [hb],by rw [e];simp [Nat.add_assoc]⟩
    | exact À (Ã (Ã ⟨done ++ [k],S8,by simp,Tg,by simp [hb],by rw [e];simp [Nat.add_assoc]⟩))
 ·rintro b s' ⟨done,left,rfl,hl,hb,rfl⟩;cases hl;rw [ù] at q;show wpAny _ _ (retInt (Builtin.Tuple.tupleHashOf b.toList)) _ _ _;rw [hb];refine wpAny_ret_mkInt ?_;show wpAny _ _ (if(decide (-(2:Int)^63<=Builtin.Tuple.tupleHashOf (done.map (Bp P w)))&&decide (Builtin.Tuple.tupleHashOf (done.map (Bp P w))<2^63))=true then _ else _) Q E _
  unfold yp reduceHash at q;by_cases hr:(decide (-(2:Int)^63<=Builtin.Tuple.tupleHashOf (done.map (Bp P w)))&&decide (Builtin.Tuple.tupleHashOf (done.map (Bp P w))<2^63))=true
  ·rw [Ï hr];rw [Ï hr] at q;exact Ã (by simpa [Nat.add_assoc] using q)
  ·rw [Ì hr];rw [Ì hr] at q;exact À (ő (Ã (by simpa [Nat.add_assoc] using q)))
theorem ug {x y:List NK}{a b:Addr}{R:Fin->Shared->Prop}(hu:A.units<cLine)(hx:γ P w s.heap x a)(hy:γ P w s.heap y b)(q:R (.done (.ret (.bool (decide (x=y))))) s):wpAny (model P w) A (Builtin.«tuple.__eq__» ⟨[.ref a,.ref b],[]⟩) R E s:=by
 obtain⟨oa,xs,na,Xx,_,XR,XE⟩:=hx;obtain⟨ob,ys,nb,O_,XT,Ν,XD⟩:=hy;show wpAny _ _ (isInstance (.ref b) (.type "tuple")>>=_) _ _ s;refine À (ũ ⟨ob,O_,XT⟩ isSubtype_tuple_tuple ?_);simp only [Bool.not_true,Bool.false_eq_true,if_false];refine À (KB Xx XR (À (KB O_ Ν (À ?_))));refine LS _ (λ rest r s'=>r.1=none/\s'=s/\∃ x' y' NW IT,rest=List.zip NW IT/\Paired (fR P w s.heap) x' NW/\Paired (fR P w s.heap) y' IT/\decide (x'=y')=decide (x=y)/\(NW.length==IT.length)=(xs.size==ys.size)) _ ?_ ?_ _ _ ⟨rfl,rfl,x,y,xs.toList,ys.toList,rfl,XE,XD,rfl,by simp⟩
 ·rintro⟨u,v⟩ rest r s' ⟨hr,rfl,x',y',NW,IT,hz,Js,Qh,Mf,ĩ⟩;cases Js with
  | nil=>simp at hz
  | @cons k1 u' Wb QC h1 Rp =>
   cases Qh with
   | nil=>simp at hz
   | @cons k2 v' V3 Qw h2 Ro =>
    simp only [List.zip_cons_cons,List.cons.injEq,Prod.mk.injEq] at hz;obtain⟨⟨rfl,rfl⟩,rfl⟩:=hz;refine À (B5 hu h1 h2 ?_);by_cases hk:k1=k2
    ·subst hk;rw [Ä rfl];simp only [Bool.not_true,Bool.false_eq_true,if_false];refine Ã ⟨rfl,rfl,Wb,V3,QC,Qw,rfl,Rp,Ro,?_,by simpa using ĩ⟩
     rw [<- Mf];exact Ζ.mpr ⟨λ e=>by rw [e],λ e=>by injection e⟩
    ·rw [Å hk];simp only [Bool.not_false,if_true];have hf:decide (x=y)=false:=by rw [<- Mf];simp [hk]
     rw [hf] at q;exact À (Ã (Ã (Ã q)))
 ·rintro⟨r1,r2⟩ s' ⟨hr,rfl,x',y',NW,IT,hz,Js,Qh,Mf,ĩ⟩;simp only at hr;subst hr;refine Ã ?_;have fin:(xs.size==ys.size)=decide (x=y):=by
   rw [<- Mf,<- ĩ];cases Js with
   | nil =>
    cases Qh with
    | nil=>simp
    | cons _ _=>simp
   | cons _ _ =>
    cases Qh with
    | nil=>simp
    | cons _ _=>simp at hz
  show R (.done (.ret (.bool (xs.size==ys.size)))) s';rw [fin];exact q
theorem Al {x y:List NK}{a b:Addr}{Q:Bool->Shared->Prop}(hu:A.units+1<cLine)(hx:γ P w s.heap x a)(hy:γ P w s.heap y b)(q:Q (decide (x=y)) s):wpAny (model P w) A (eqBool (.ref a) (.ref b)) Q E s:=by
 unfold eqBool
 try with_reducible refine Ú ?_
 show wpAny _ _ (if(Value.ref a==Value.ref b)=true then _ else _) Q E s
 have tx:s.TypeIs (.ref a) "tuple" := let ⟨o,_,_,h1,h2,_⟩:=hx;⟨o,h1,h2⟩
 have ty:s.TypeIs (.ref b) "tuple" := let ⟨o,_,_,h1,h2,_⟩:=hy;⟨o,h1,h2⟩
 by_cases Pi:(Value.ref a==Value.ref b)=true
 ·rw [Ï Pi];have e:a=b:=by have:=eq_of_beq Pi;injection this
  subst e;obtain rfl:=hx.inj hy;exact À (ő (Ã (by simpa using q)))
 ·rw [Ì Pi];exact À (wpAny_richCompare_same_room (op:=.Eq) tx ty M9
   (ý M9 tx F.entry_tuple_eq (ug hu hx hy ⟨_,rfl,(λ e=>nomatch e),ě q⟩) (F.args_tuple_eq_2 _ _)) ae)
def ky (P:Program)(w:World):HeapKind P w (List NK) where
 is:=γ P w
 hash:=yp P w
 draws:=λ ks=>qo ks+1
 room:=λ A=>A.units+1<cLine
 inj:=λ hx hy=>hx.inj hy
 keeps:=λ x ho hd hs=>x.keeps ho hd hs
 pyHash:=λ hu hk h=>qZ hu hk h
 eqBool:=λ hu hx hy h=>Al hu hx hy h
 quiet:=λ hk h=>pW hk h
end
inductive HO where
 | lst (xs:List V)
 | tup (xs:List V)
 | dK (kvs:List (Key × V)) | dT (kvs:List (List NK × V))
 | set (S:Int->Bool) (n:Nat)
 | ins (C dx:Addr) (fs:List (Str × V))
 | own (x:Addr)
 | xd (fs:List (Str × V))
 | met (f x:Addr)
 | Nm (lo hi:Int)
 | JB (o:Obj) (u:HO)
 | Ng (ps:Array Value)
 | ext (φ:Heap->Prop)
abbrev Hp:=Addr->Option HO
def aj (H:Hp)(a:Addr)(o:HO):Hp:=λ b=>if b=a then some o else H b
theorem aQ {H:Hp}{a:Addr}{o:HO}:aj H a o a=some o:=by unfold aj;rw [Ï rfl]
theorem ah {H:Hp}{a b:Addr}{o:HO}(h:b≠a):aj H a o b=H b:=by unfold aj;rw [Ì h]
theorem eN {H:Hp}{a:Addr}{o u:HO}:aj (aj H a o) a u=aj H a u:=by
 funext b;unfold aj;split <;> rfl
theorem aS {H:Hp}{a b:Addr}{o:HO}(h:H a=some o)(h':H b=none):a≠b:=by
 intro e;subst e;rw [h] at h';cases h'
def NV (H:Hp):NK->V->Prop
 | .k x,v=>v=kV x
 | .t ks,v=>∃ b,v=.ref b/\H b=some (.tup (ks.map kV))
def NM (H:Hp)(ks:List NK)(b:Addr):Prop:=∃ vs,H b=some (.tup vs)/\Paired (NV H) ks vs
theorem NM.keep {H H':Hp}{ks:List NK}{b:Addr}(x:NM H ks b)(ht:∀ b xs,H b=some (.tup xs)->H' b=some (.tup xs)):NM H' ks b:=by
 obtain⟨vs,e,r⟩:=x;refine⟨vs,ht _ _ e,Paired.Ln r λ k v z=>?_⟩;cases k with
 | k x=>exact z
 | t ks =>
  obtain⟨b,e,q⟩:=z;exact⟨b,e,ht _ _ q⟩
section
variable (P:Program)(w:World)
def ñ (H:Hp)(h:Heap)(a:Addr):HO->Prop
 | .lst xs=>xs.length<=sizeLine/\∃(its:List Value)(n:Nat),Vals xs its/\h.get? a=some { cls:=.type "list",data:=.seq its.toArray n }
 | .tup xs=>xs.length<=sizeLine/\∃ its:List Value,Vals xs its/\IsTup h a its.toArray
 | .dK kvs=>kvs.length<=sizeLine/\(a==sysModules)=false/\∃ vs,KV kvs vs/\h.DictOf (aL P w) a vs
 | .dT kvs=>kvs.length<=sizeLine/\(a==sysModules)=false/\∃ xs:List (List NK × Addr × Value),
   Paired (λ (p:List NK × V)(q:List NK × Addr × Value)=>p.1=q.1/\NM H p.1 q.2.1/\RelV p.2 q.2.2) kvs xs /\
   ∃ o es ep,h.get? a=some o/\o.ExactDict/\o.data=.dict es ep/\es.toList=xs.map (entryOfKey (ky P w))/\(xs.map (·.1)).Nodup
 | .set S n=>h.SetOf (intKind P w) a S n
 | .ins C dx fs=>H dx=some (.own a)/\fs.length<=1000/\dx≠a/\h.get? a=some (PySem.W.instObj C dx) /\
   ∃ mA,h.Ns1 dx mA/\(∀ f,Ţ (fs.lookup f) (mA f))/\PySem.Within mA (fs.map (·.1))
 | .own _=>∃ o,h.get? a=some o
 | .xd fs=>∃ mA,h.Ns1 a mA/\∀ f,Ţ (fs.lookup f) (mA f)
 | .Nm lo hi=>∃ t u v,h.get? a=some { cls:=.type "range",data:=.fields #[.int lo t,.int hi u,.int 1 v] }
 | .JB o u=>h.get? a=some o/\ñ H h a u
 | .Ng ps=>h.get? a=some { cls:=.none,data:=.fields ps }
 | .met f x=>h.get? a=some (PySem.W.methodObj (.ref f) (.ref x))
 | .ext φ=>φ h/\(∃ o,h.get? a=some o)/\∀ h1 h2:Heap,φ h1->(∀ o,h1.get? a=some o->h2.get? a=some o)->φ h2
def ţ (H:Hp)(h:Heap):Prop:=∀ a o,H a=some o->ñ P w H h a o
end
section
variable {P:Program}{w:World}{H H':Hp}{h h':Heap}{a:Addr}{o:HO}
theorem ñ.lt (x:ñ P w H h a o):a<h.objs.size:=by
 cases o with
 | lst xs=>obtain⟨_,_,_,_,e⟩:=x;exact È e
 | tup xs=>obtain⟨_,_,_,p⟩:=x;exact p.lt
 | dK kvs=>obtain⟨_,_,_,_,o,_,_,e,_⟩:=x;exact È e
 | dT kvs=>obtain⟨_,_,_,_,o,_,_,e,_⟩:=x;exact È e
 | set S n=>obtain⟨o,_,_,_,e,_⟩:=x;exact È e
 | ins C dx fs=>obtain⟨_,_,_,e,_⟩:=x;exact È e
 | own y=>obtain⟨_,e⟩:=x;exact È e
 | xd fs=>obtain⟨_,⟨_,_,_,e,_⟩,_⟩:=x;exact È e
 | Nm lo hi=>obtain⟨_,_,_,e⟩:=x;exact È e
 | JB ob u=>obtain⟨e,_⟩:=x;exact È e
 | Ng ps=>exact È (show h.get? a=some _ from x)
 | met f y=>exact È (show h.get? a=some _ from x)
 | ext φ=>obtain⟨_,⟨_,e⟩,_⟩:=x;exact È e
theorem Paired.imp' {α β:Type}{F G:α->β->Prop}(f:∀ a b,F a b->G a b){Lp:List α}{Lo:List β}(r:Paired F Lp Lo):Paired G Lp Lo:=Paired.Ln r f
theorem ñ.π (x:ñ P w H h a o)(k:∀ b u,(b=a\/H b=some (.own a))->h.get? b=some u->h'.get? b=some u)
  (ho:∀ b,H b=some (.own a)->H' b=some (.own a)) (ht:∀ b xs,H b=some (.tup xs)->H' b=some (.tup xs)):ñ P w H' h' a o:=by
 induction o with
 | lst xs=>obtain⟨z,its,n,r,e⟩:=x;exact⟨z,its,n,r,k _ _ (.inl rfl) e⟩
 | tup xs=>obtain⟨z,its,r,ob,e,c⟩:=x;exact⟨z,its,r,ob,k _ _ (.inl rfl) e,c⟩
 | dK kvs=>obtain⟨z,y,vs,r,ob,es,ep,e,c⟩:=x;exact⟨z,y,vs,r,ob,es,ep,k _ _ (.inl rfl) e,c⟩
 | dT kvs =>
  obtain⟨z,y,xs,r,ob,es,ep,e,c⟩:=x;exact⟨z,y,xs,Paired.Ln r λ p q z=>⟨z.1,z.2.1.keep ht,z.2.2⟩,ob,es,ep,k _ _ (.inl rfl) e,c⟩
 | set S n=>obtain⟨ob,es,ep,t,e,c⟩:=x;exact⟨ob,es,ep,t,k _ _ (.inl rfl) e,c⟩
 | ins C dx fs =>
  obtain⟨d,z,ne,e,mA,⟨od,es,ep,e2,c⟩,r⟩:=x;exact⟨ho _ d,z,ne,k _ _ (.inl rfl) e,mA,⟨od,es,ep,k _ _ (.inr d) e2,c⟩,r⟩
 | own y=>obtain⟨ob,e⟩:=x;exact⟨ob,k _ _ (.inl rfl) e⟩
 | xd fs=>obtain⟨mA,⟨od,es,ep,e,c⟩,r⟩:=x;exact⟨mA,⟨od,es,ep,k _ _ (.inl rfl) e,c⟩,r⟩
 | Nm lo hi=>obtain⟨t,u,v,e⟩:=x;exact⟨t,u,v,k _ _ (.inl rfl) e⟩
 | JB ob u ih=>obtain⟨e,q⟩:=x;exact⟨k _ _ (.inl rfl) e,ih q⟩
 | Ng ps =>
  have e:h.get? a=some { cls:=.none,data:=.fields ps }:=x;show h'.get? a=some { cls:=.none,data:=.fields ps };exact k a _ (.inl rfl) e
 | met f y =>
  have e:h.get? a=some (PySem.W.methodObj (.ref f) (.ref y)):=x;show h'.get? a=some (PySem.W.methodObj (.ref f) (.ref y));exact k a _ (.inl rfl) e
 | ext φ=>obtain⟨p,⟨o,e⟩,st⟩:=x;exact⟨st _ _ p λ o q=>k _ _ (.inl rfl) q,⟨o,k _ _ (.inl rfl) e⟩,st⟩
theorem ţ.lt (x:ţ P w H h)(e:H a=some o):a<h.objs.size:=(x a o e).lt
theorem ţ.fresh (x:ţ P w H h)(e:h.objs.size<=a):H a=none:=by
 cases q:H a with
 | none=>rfl
 | some u=>exact absurd (Í (x.lt q) e) (ı _)
theorem ţ.kept (x:ţ P w H h)(k:∀ b u,h.get? b=some u->h'.get? b=some u):ţ P w H h':=λ a o e =>
 (x a o e).π (λ b u _ q=>k b u q) (λ _ q=>q) λ _ _ q=>q
theorem ţ.laid (x:ţ P w H h)(k:∀ b u,h.get? b=some u->h'.get? b=some u)(hp:h.objs.size<=a)(new:ñ P w (aj H a o) h' a o):ţ P w (aj H a o) h':=λ b u e=>by
 have hn:=x.fresh hp;by_cases hb:b=a
 ·subst hb;rw [aQ] at e;cases e;exact new
 ·rw [ah hb] at e;exact(x b u e).π (λ c v _ q=>k c v q) (λ c q=>by rw [ah (aS q hn)];exact q) λ c xs q=>by rw [ah (aS q hn)];exact q
end
def Rd (H:Hp)(a:Addr)(u:HO):Prop:=H a=some u\/∃ o,H a=some (.JB o u)
theorem Rd.of {H:Hp}{a:Addr}{u:HO}(h:H a=some u):Rd H a u:=.inl h
theorem Rd.ok {P:Program}{w:World}{H:Hp}{h:Heap}{a:Addr}{u:HO}(r:Rd H a u)(x:ţ P w H h):ñ P w H h a u:=by
 rcases r with r | ⟨o,r⟩
 ·exact x a u r
 ·obtain⟨_,q⟩:=x a _ r;exact q
def DS:Option HO->Prop
 | some (.lst _)=>True
 | some (.dK _)=>True
 | some (.dT _)=>True
 | some (.set _ _)=>True
 | some (.ins _ _ _)=>True
 | some (.ext _)=>True
 | _=>False
section
variable {P:Program}{w:World}{H:Hp}{h h':Heap}{x e:Addr}{o':HO}
theorem ţ.write (ok:ţ P w H h)(mu:DS (H x))(he:e=x\/H e=some (.own x))(k:∀ b u,b≠e->h.get? b=some u->h'.get? b=some u)(N3:∃ u,h'.get? e=some u)
  (new:ñ P w (aj H x o') h' x o'):ţ P w (aj H x o') h':=λ b u q=>by
 have OC:∀ c y,H c=some (.own y)->c≠x:=λ c y r z=>by subst z;rw [r] at mu;exact mu
 have QT:∀ c xs,H c=some (.tup xs)->c≠x:=λ c xs r z=>by subst z;rw [r] at mu;exact mu
 by_cases hb:b=x
 ·subst hb;rw [aQ] at q;cases q;exact new
 ·rw [ah hb] at q;by_cases NC:b=e
  ·have q':H b=some (.own x):=by
    rcases he with z | z
    ·exact absurd (NC.trans z) hb
    ·rw [NC];exact z
   rw [q] at q';cases q';obtain⟨v,hv⟩:=N3;exact⟨v,by rw [NC];exact hv⟩
  ·refine(ok b u q).π (λ c v hc r=>k c v ?_ r) (λ c r=>by rw [ah (OC c b r)];exact r) λ c xs r=>by rw [ah (QT c xs r)];exact r
   rcases hc with rfl | hc
   ·exact NC
   ·rintro rfl;rcases he with z | z
    ·exact OC c b hc z
    ·rw [hc] at z;cases z;exact hb rfl
end
structure Un (fs ex:List Addr)(H H':Hp)(h h':Heap):Prop where
 keep:∀ b o,h.get? b=some o->H b=none->b ∉ fs->b ∉ ex->h'.get? b=some o
 slot:∀ b o,h.get? b=some o->H b=none->b∈fs->b ∉ ex->∃ sl,h'.get? b=some { o with slots:=sl }
 free:∀ b o,h.get? b=some o->H b=none->b ∉ ex->H' b=none
 there:∀ b o,h.get? b=some o->b ∉ ex->∃ o',h'.get? b=some o'
 u_:∀ b xs,H b=some (.tup xs)->H' b=some (.tup xs)
 l_:∀ b o u,H b=some (.JB o u)->H' b=some (.JB o u)
 w_:∀ b ps,H b=some (.Ng ps)->∃ more,H' b=some (.Ng (ps++more))
 sys:H sysModules=none->H' sysModules=none
section
variable {fs YF ex Z8:List Addr}{H H1 H2:Hp}{h h1 h2 h':Heap}{a x e:Addr}{o:HO}
theorem Un.any (u:Un fs ex H H1 h h1){b:Addr}{ob:Obj}(q:h.get? b=some ob)(n:H b=none)(hx:b ∉ ex):∃ sl,h1.get? b=some { ob with slots:=sl }:=by
 by_cases hb:b∈fs
 ·exact u.slot b ob q n hb hx
 ·exact⟨ob.slots,u.keep b ob q n hb hx⟩
theorem Un.kept (k:∀ b u,h.get? b=some u->h'.get? b=some u):Un fs ex H H h h' :=
 ⟨λ b ob q _ _ _=>k b ob q,λ b ob q _ _ _=>⟨ob.slots,k b ob q⟩,λ _ _ _ n _=>n,λ b ob q _=>⟨ob,k b ob q⟩,λ _ _ q=>q,λ _ _ _ q=>q,λ _ ps q=>⟨#[],by rw [q];simp⟩,λ q=>q⟩
theorem Un.refl:Un fs ex H H h h:=Un.kept λ _ _ q=>q
theorem Un.laid (k:∀ b u,h.get? b=some u->h'.get? b=some u)(hp:h.objs.size<=a)(hn:H a=none)(hz:sysModules<h.objs.size):Un fs ex H (aj H a o) h h' where
 sys:=λ q=>by rw [ah (Ñ (Í hz hp))];exact q
 keep:=λ b u q _ _ _=>k b u q
 slot:=λ b u q _ _ _=>⟨u.slots,k b u q⟩
 free:=λ b u q n _=>by rw [ah (Ñ (Í (È q) hp))];exact n
 there:=λ b u q _=>⟨u,k b u q⟩
 u_:=λ b xs q=>by rw [ah (aS q hn)];exact q
 l_:=λ b u xs q=>by rw [ah (aS q hn)];exact q
 w_:=λ b ps q=>⟨#[],by rw [ah (aS q hn),q];simp⟩
theorem Un.write (mu:DS (H x))(he:e=x\/H e=some (.own x))(k:∀ b u,b≠e->h.get? b=some u->h'.get? b=some u)(N3:∃ u,h'.get? e=some u):Un fs ex H (aj H x o) h h':=by
 have hx:∀ b,H b=none->b≠x:=λ b n z=>by subst z;rw [n] at mu;exact mu
 have hb:∀ b,H b=none->b≠e:=λ b n z=>by
  subst z;rcases he with r | r
  ·exact hx b n r
  ·rw [n] at r;cases r
 have hm:∀ b u,H b=some u->¬ DS (some u)->b≠x:=λ b u q nm z=>by subst z;rw [q] at mu;exact nm mu
 refine⟨λ b u q n _ _=>k b u (hb b n) q,λ b u q n _ _=>⟨u.slots,k b u (hb b n) q⟩,λ b u q n _=>by rw [ah (hx b n)];exact n,λ b u q _=>?_,
  λ b xs q=>by rw [ah (hm b _ q λ z=>z)];exact q,λ b u xs q=>by rw [ah (hm b _ q λ z=>z)];exact q,λ b ps q=>⟨#[],by rw [ah (hm b _ q λ z=>z),q];simp⟩,λ q=>by rw [ah (hx _ q)];exact q⟩
 by_cases NC:b=e
 ·subst NC;exact N3
 ·exact⟨u,k b u NC q⟩
end
def Fd (h:Heap)(H:Hp):List Addr:=(List.range h.objs.size).filter λ a=>(H a).isSome
def jX (h:Heap)(H:Hp):Heap:=PySem.W.hideAll h (Fd h H)
theorem pU (h:Heap)(H:Hp):(jX h H).objs.size=h.objs.size:=PySem.W.hideAll_size _ _
theorem rA {h:Heap}{H:Hp}{b:Addr}{o:Obj}(e:h.get? b=some o)(n:H b=none):(jX h H).get? b=some o :=
 PySem.W.hideAll_get _ e λ hm=>by
  have q:(H b).isSome=true:=(θ.mp hm).2;rw [n] at q;simp at q
theorem wR {h:Heap}{H:Hp}{b:Addr}{o:Obj}(e:(jX h H).get? b=some o):h.get? b=some o/\H b=none:=by
 have e':h.get? b=some o:=PySem.W.of_hideAll (Fd h H) e;refine⟨e',?_⟩;cases q:H b with
 | none=>rfl
 | some x =>
  have hm:b∈Fd h H:=θ.mpr ⟨Ō.mpr (È e'),by simp [q]⟩
  have z:(jX h H).get? b=none:=PySem.W.hideAll_none (Fd h H) hm;rw [z] at e;cases e
def pq (g h:Heap)(L:Addr):List (Addr × Obj):=(List.range h.objs.size).filterMap λ a=>if a=L\/(g.get? a).isSome=true then none else(h.get? a).map λ o=>(a,o)
theorem wZ {g h:Heap}{L a:Addr}{o:Obj}(h1:a≠L)(h2:g.get? a=none)(h3:h.get? a=some o):(a,o)∈pq g h L :=
 IS.mpr ⟨a,Ō.mpr (È h3),by simp [h1,h2,h3]⟩
def rest (g h:Heap)(L d:Addr):List (Addr × Obj):=(pq g h L).filter λ p=>decide (p.1≠d)
structure Mod (K:PySem.W.Frag)(mg:aX)(base:Heap):Prop where
 L':K.In base
 glob:base.Ns mainGlobals mg
 blt:∃ mb,base.Ns builtinsNs mb/\∀ x:Str,x ≠ "__name__" -> mb x=bootBuiltins x
 nolimit:base.NoLimit
structure Cx where
 prog:Program
 w:World
 K:PySem.W.Frag
 mg:Str->Option Value
 base:Heap
 A:Around
 N:List Str
 ľ:Shared
 J7:Hp
 env:Env
 outer:List Env
 stack:List Env
 ex:List Addr
 fn:Str->Bool
 calm:Bool
 pn:List (Addr × Obj)
 xe:Value->Shared->Prop
def jJ (l:List Env):List Addr:=l.filterMap (·.frame)
abbrev Cx.fs (X:Cx):List Addr:=jJ X.outer
def Ev (sc:Scope)(x:Str):Prop:=sc.names.lookup x=some .local\/sc.names.lookup x=some .cell\/sc.names.lookup x=some .free
def xV (sc:Scope)(x:Str):Prop:=sc.names.lookup x=some .local\/sc.names.lookup x=some .cell
def FC (env:Env)(h:Heap)(m:aX)(x:Str)(u:Value):Prop :=
 (env.kindOf x=some .local/\m x=some u)\/((env.kindOf x=some .cell\/env.kindOf x=some .free)/\∃ c,env.cells.lookup x=some c/\h.IsCell c (some u))
structure Cx.Ok (X:Cx):Prop where
 mod:Mod X.K X.mg X.base
 kind:X.env.scope.kind=.function
 glob:X.env.globals=mainGlobals
 blt:X.env.builtins=builtinsNs
 above:X.ľ.heap.objs.size<=X.env.locals
 inj:∀ x y c,X.env.cells.lookup x=some c->X.env.cells.lookup y=some c->x=y
 has:∀ x,(X.env.kindOf x=some .cell\/X.env.kindOf x=some .free)->∃ c,X.env.cells.lookup x=some c
 MX:∀ x c,X.fn x=true->X.env.cells.lookup x=some c->X.ľ.heap.objs.size<=c
 hd:X.calm=true->X.A.handled=none
 frames:X.A.frames=some X.stack
 Ni:X.stack=X.outer\/(X.stack=X.env::X.outer/\X.env.frame=some X.env.locals)
 Pm:∀ b∈X.ex,b≠X.env.locals/\∀ x c,X.env.cells.lookup x=some c->c≠b
 bs:∀ b o,X.base.get? b=some o->X.ľ.heap.get? b=some o/\X.J7 b=none
 K7:X.base.objs.size<=X.ľ.heap.objs.size
 Jn:∀ b o,X.base.get? b=some o->b ∉ X.ex
 J1:∀ b∈X.ex,b ∉ X.fs
 ſ:X.ľ.heap.FunFrames X.base X.outer
 LP:∀ b∈X.fs,X.J7 b=none
structure Inv (X:Cx)(pins:List (Addr × Obj))(σ:List (Option V))(H:Hp)(s:Shared):Prop where
 ok:X.Ok
 os:s.os=X.ľ.os
 bare:AllBare s.gens
 base:Un X.fs X.ex X.J7 H X.ľ.heap s.heap
 loc:∃ m,s.heap.Ns X.env.locals m/\∀(i:Nat)(x:Str)(v:V),X.N[i]?=some x->σ[i]?=some (some v)->Ev X.env.scope x->∃ u,RelV v u/\FC X.env s.heap m x u
 cell:∀ x c,X.env.cells.lookup x=some c->∃ v,s.heap.IsCell c v
 free:H X.env.locals=none
 Ŏ:∀ x c,X.env.cells.lookup x=some c->H c=none
 pin:∀ p∈X.pn++pins,s.heap.get? p.1=some p.2/\H p.1=none/\p.1≠X.env.locals/\p.1 ∉ X.fs/\∀ v,p.2.data ≠ .cell v
 þ:ţ X.prog X.w H s.heap
 len:σ.length=X.N.length
section
variable {X:Cx}{pins:List (Addr × Obj)}{σ:List (Option V)}{H H':Hp}{s:Shared}{h':Heap}
theorem Cx.Ok.QW (ok:X.Ok){b:Addr}{o:Obj}(e:X.base.get? b=some o):b ∉ X.fs:=λ hb=>by
 have:=(ok.ſ.mem hb).1;rw [e] at this;cases this
theorem Inv.bs (I:Inv X pins σ H s):∀ b o,X.base.get? b=some o->s.heap.get? b=some o/\H b=none:=λ b o e =>
 ⟨I.base.keep b o (I.ok.bs b o e).1 (I.ok.bs b o e).2 (I.ok.QW e) (I.ok.Jn b o e),I.base.free b o (I.ok.bs b o e).1 (I.ok.bs b o e).2 (I.ok.Jn b o e)⟩
theorem Inv.bk (I:Inv X pins σ H s):∀ b o,X.base.get? b=some o->s.heap.get? b=some o:=λ b o e=>(I.bs b o e).1
theorem Inv.mod (I:Inv X pins σ H s):Mod X.K X.mg X.base:=I.ok.mod
theorem Inv.Ņ (I:Inv X pins σ H s):X.K.In s.heap:=I.ok.mod.L'.keeps I.bk
theorem Inv.lt (I:Inv X pins σ H s):X.env.locals<s.heap.objs.size:=let ⟨_,hn,_⟩:=I.loc;hn.lt
theorem Inv.sz (I:Inv X pins σ H s):X.ľ.heap.objs.size<=s.heap.objs.size:=Ô I.ok.above (Jk I.lt)
theorem Inv.QV (I:Inv X pins σ H s){a:Addr}(h:s.heap.objs.size<=a):a ∉ X.fs:=λ hb=>by
 obtain⟨_,o,ho,_⟩:=I.ok.ſ.mem hb;exact absurd (Í (È ho) (Ô I.sz h)) (ı _)
theorem Inv.LC (I:Inv X pins σ H s):∀ x c,X.env.cells.lookup x=some c->c≠X.env.locals:=λ x c e z=>by
 obtain⟨v,o,ho,hd⟩:=I.cell x c e;obtain⟨m,⟨o',es,ep,Md,RV,_⟩,_⟩:=I.loc;rw [z,Md] at ho;cases ho;rw [RV] at hd;cases hd
theorem Inv.ſ (I:Inv X pins σ H s):s.heap.FunFrames X.base X.outer:=by
 have all:∀(l:List Env),(∀ b∈jJ l,b∈X.fs)->X.ľ.heap.FunFrames X.base l->s.heap.FunFrames X.base l:=by
  intro l
  induction l with
  | nil=>intro _ _;trivial
  | cons env r ih =>
   intro hs hl;obtain⟨hk,⟨L,o,hf,hn,ho,hd⟩,hr⟩:=hl;have hL:L∈X.fs:=hs L (by unfold jJ;rw [s_,hf];exact ø)
   obtain⟨sl,e⟩:=I.base.slot L o ho (I.ok.LP L hL) hL λ z=>I.ok.J1 L z hL;exact⟨hk,⟨L,_,hf,hn,e,hd⟩,ih (λ b hb=>hs b (by unfold jJ;rw [s_,hf];exact ä _ hb)) hr⟩
 exact all X.outer (λ _ hb=>hb) I.ok.ſ
theorem Inv.stack (I:Inv X pins σ H s):s.heap.FunFrames X.base X.stack:=by
 rcases I.ok.Ni with e | ⟨e,hf⟩
 ·rw [e];exact I.ſ
 ·rw [e];obtain⟨m,hn,_⟩:=I.loc;refine .cons (by rw [I.ok.kind];decide) hf hn ?_ I.ſ
  exact Heap.get?_none_of_le (Ô I.ok.K7 I.ok.above)
theorem Inv.e_ (I:Inv X pins σ H s):∀ b∈jJ X.stack,b∈X.env.locals::X.fs:=λ b hb=>by
 rcases I.ok.Ni with e | ⟨e,hf⟩
 ·rw [e] at hb;exact ä _ hb
 ·rw [e] at hb;unfold jJ at hb;rw [s_,hf] at hb;exact hb
theorem Inv.IV (I:Inv X pins σ H s):∀ b∈jJ X.stack,H b=none:=λ b hb=>by
 rcases ß.mp (I.e_ b hb) with e | hb
 ·rw [e];exact I.free
 ·obtain⟨_,o,ho,_⟩:=I.ok.ſ.mem hb;exact I.base.free b o ho (I.ok.LP b hb) λ z=>I.ok.J1 b z hb
theorem Inv.step {g':Array GenState}{t':Nat}{d':Drawn}{ch:List Addr}(I:Inv X pins σ H s)
  (LN:∀ b∈ch,(b∈X.ex\/X.ľ.heap.objs.size<=b)/\b≠X.env.locals/\(∀ x c,X.env.cells.lookup x=some c->c≠b)/\∀ p∈X.pn++pins,p.1≠b)
  (keep:∀ b o,b≠X.env.locals->b ∉ X.fs->b ∉ ch->s.heap.get? b=some o->H b=none->h'.get? b=some o)
  (slot:∀ b o,b≠X.env.locals->b∈X.fs->b ∉ ch->s.heap.get? b=some o->H b=none->∃ sl,h'.get? b=some { o with slots:=sl }) (free:∀ b o,b ∉ ch->s.heap.get? b=some o->H b=none->H' b=none)
  (there:∀ b o,b ∉ ch->s.heap.get? b=some o->∃ o',h'.get? b=some o')
  (u_:∀ b xs,H b=some (.tup xs)->H' b=some (.tup xs)) (l_:∀ b o u,H b=some (.JB o u)->H' b=some (.JB o u)) (w_:∀ b ps,H b=some (.Ng ps)->∃ more,H' b=some (.Ng (ps++more))) (sys:H sysModules=none->H' sysModules=none)
  (ns:∀ m,s.heap.Ns X.env.locals m->h'.Ns X.env.locals m) (þ:ţ X.prog X.w H' h') (hg:AllBare g') :
  Inv X pins σ H' { s with heap:=h',gens:=g',drawn:=d',toks:=t' }:=by
 have S3:∀ b o,X.ľ.heap.get? b=some o->b≠X.env.locals:=λ b o e=>Ñ (Í (È e) I.ok.above);have P9:∀ b o,X.ľ.heap.get? b=some o->b ∉ X.ex->b ∉ ch:=λ b o e hx hb=>by
  rcases(LN b hb).1 with z | z
  ·exact hx z
  ·exact absurd (Í (È e) z) (ı _)
 have cellK:∀ x c,X.env.cells.lookup x=some c->∀ v,s.heap.IsCell c v->h'.IsCell c v:=λ x c e v ⟨o,ho,hd⟩=>by
  have Ll:c ∉ ch:=λ z=>(LN c z).2.2.1 x c e rfl;by_cases hc:c∈X.fs
  ·obtain⟨sl,q⟩:=slot c o (I.LC x c e) hc Ll ho (I.Ŏ x c e);exact⟨_,q,hd⟩
  ·exact⟨o,keep c o (I.LC x c e) hc Ll ho (I.Ŏ x c e),hd⟩
 refine⟨I.ok,I.os,hg,⟨λ b o e n hb hx=>?_,λ b o e n hb hx=>?_,λ b o e n hx=>?_,λ b o e hx=>?_,λ b xs e=>u_ b xs (I.base.u_ b xs e),λ b o xs e=>l_ b o xs (I.base.l_ b o xs e),λ b ps e=>?_,λ q=>sys (I.base.sys q)⟩,?_,λ x c e=>?_,?_,λ x c e=>?_,λ p hp=>?_,þ,I.len⟩
 ·exact keep b o (S3 b o e) hb (P9 b o e hx) (I.base.keep b o e n hb hx) (I.base.free b o e n hx)
 ·obtain⟨sl,e1⟩:=I.base.slot b o e n hb hx;obtain⟨QG,e2⟩:=slot b _ (S3 b o e) hb (P9 b o e hx) e1 (I.base.free b o e n hx);exact⟨QG,e2⟩
 ·obtain⟨o',e1⟩:=I.base.there b o e hx;exact free b o' (P9 b o e hx) e1 (I.base.free b o e n hx)
 ·obtain⟨o',e1⟩:=I.base.there b o e hx;exact there b o' (P9 b o e hx) e1
 ·obtain⟨m1,e1⟩:=I.base.w_ b ps e;obtain⟨m2,e2⟩:=w_ b _ e1;exact⟨m1++m2,by rw [e2,Array.append_assoc]⟩
 ·obtain⟨m,hn,hl⟩:=I.loc;refine⟨m,ns m hn,λ i x v e1 e2 e3=>?_⟩;obtain⟨u,r,l⟩:=hl i x v e1 e2 e3;refine⟨u,r,?_⟩;rcases l with l | ⟨k,c,e,z⟩
  ·exact .inl l
  ·exact .inr ⟨k,c,e,cellK x c e _ z⟩
 ·obtain⟨v,z⟩:=I.cell x c e;exact⟨v,cellK x c e v z⟩
 ·obtain⟨m,⟨o,_,_,ho,_⟩,_⟩:=I.loc;exact free _ o (λ z=>(LN _ z).2.1 rfl) ho I.free
 ·obtain⟨v,o,ho,hd⟩:=I.cell x c e;exact free c o (λ z=>(LN c z).2.2.1 x c e rfl) ho (I.Ŏ x c e)
 ·obtain⟨e,n,ne,nf,d⟩:=I.pin p hp;have Ll:p.1 ∉ ch:=λ z=>(LN p.1 z).2.2.2 p hp rfl;exact⟨keep p.1 p.2 ne nf Ll e n,free p.1 p.2 Ll e n,ne,nf,d⟩
theorem Inv.un {t':Nat}(I:Inv X pins σ H s)(u:Un X.fs [] H H' s.heap h')(þ:ţ X.prog X.w H' h'):Inv X pins σ H' { s with heap:=h',toks:=t' }:=by
 obtain⟨m,⟨o,es,ep,ho,r⟩,_⟩:=id I.loc;obtain⟨sl,hL⟩:=u.any ho I.free (by simp)
 exact I.step (g':=s.gens) (d':=s.drawn) (ch:=[]) (λ _ z=>nomatch z) (λ b o _ hb _ e n=>u.keep b o e n hb (by simp)) (λ b o _ hb _ e n=>u.slot b o e n hb (by simp)) (λ b o _ e n=>u.free b o e n (by simp)) (λ b o _ e=>u.there b o e (by simp)) u.u_ u.l_ u.w_ u.sys (λ m' hm=>by
  obtain⟨o',R5,R6,Md,r'⟩:=hm;rw [ho] at Md;cases Md;exact⟨_,R5,R6,hL,r'⟩) þ I.bare
theorem Inv.call {g':Array GenState}{t':Nat}{d':Drawn}{ch:List Addr}(I:Inv X pins σ H s)(u:Un (jJ X.stack) ch H H' s.heap h')(þ:ţ X.prog X.w H' h')(hg:AllBare g')
  (LN:∀ b∈ch,(b∈X.ex\/X.ľ.heap.objs.size<=b)/\b≠X.env.locals/\(∀ x c,X.env.cells.lookup x=some c->c≠b)/\∀ p∈X.pn++pins,p.1≠b) :
  Inv X pins σ H' { s with heap:=h',gens:=g',drawn:=d',toks:=t' }:=by
 obtain⟨m,⟨o,es,ep,ho,r⟩,_⟩:=id I.loc;obtain⟨sl,hL⟩:=u.any ho I.free λ z=>(LN _ z).2.1 rfl;exact I.step (ch:=ch) LN (λ b o hL hb hc e n=>u.keep b o e n (λ z=>(ß.mp (I.e_ b z)).elim hL hb) hc) (λ b o _ _ hc e n=>u.any e n hc) (λ b o hc e n=>u.free b o e n hc) (λ b o hc e=>u.there b o e hc) u.u_ u.l_ u.w_ u.sys (λ m' hm=>by
  obtain⟨o',R5,R6,Md,r'⟩:=hm;rw [ho] at Md;cases Md;exact⟨_,R5,R6,hL,r'⟩) þ hg
theorem Inv.turned {t':Nat}{it:Addr}(I:Inv X pins σ H s)(k:∀ b o,b≠it->s.heap.get? b=some o->h'.get? b=some o)(hn:H it=none)(hL:it≠X.env.locals)
  (h1:it∈X.ex\/X.ľ.heap.objs.size<=it) (h2:∀ x c,X.env.cells.lookup x=some c->c≠it) (h3:∀ p∈X.pn++pins,p.1≠it):Inv X pins σ H { s with heap:=h',toks:=t' }:=by
 have SY:∀ b u,H b=some u->b≠it:=λ b u e z=>by rw [z,hn] at e;cases e
 refine I.step (g':=s.gens) (d':=s.drawn) (ch:=[it]) (λ b hb=>?_) (λ b o _ _ hc e _=>k b o (λ z=>hc (by simp [z])) e) (λ b o _ _ hc e _=>⟨o.slots,k b o (λ z=>hc (by simp [z])) e⟩) (λ _ _ _ _ n=>n)
  (λ b o hc e=>⟨o,k b o (λ z=>hc (by simp [z])) e⟩) (λ _ _ e=>e) (λ _ _ _ e=>e) (λ b ps e=>⟨#[],by rw [e];simp⟩) (λ q=>q) (λ m hm=>?_) (λ b u e=>?_) I.bare
 ·have e:b=it:=by simpa using hb
  subst e;exact⟨h1,hL,h2,h3⟩
 ·obtain⟨o,es,ep,ho,r⟩:=hm;exact⟨o,es,ep,k _ o (Ne.symm hL) ho,r⟩
 ·refine(I.þ b u e).π (λ c v hc q=>k c v ?_ q) (λ _ q=>q) λ _ _ q=>q;rcases hc with z | z
  ·rw [z];exact SY b u e
  ·exact SY c _ z
theorem Inv.tok (I:Inv X pins σ H s)(t:Nat):Inv X pins σ H { s with toks:=t }:=I.un (h':=s.heap) (t':=t) Un.refl I.þ
theorem Inv.kept {t':Nat}(I:Inv X pins σ H s)(k:∀ b u,s.heap.get? b=some u->h'.get? b=some u):Inv X pins σ H { s with heap:=h',toks:=t' }:=I.un (Un.kept k) (I.þ.kept k)
theorem Inv.laid {a:Addr}{o:HO}{t':Nat}(I:Inv X pins σ H s)(k:∀ b u,s.heap.get? b=some u->h'.get? b=some u)(hp:s.heap.objs.size<=a)(new:ñ X.prog X.w (aj H a o) h' a o) :
  Inv X pins σ (aj H a o) { s with heap:=h',toks:=t' }:=I.un (Un.laid k hp (I.þ.fresh hp) (ļ (by decide:sysModules<mainGlobals) (I.mod.glob.keeps I.bk).lt)) (I.þ.laid k hp new)
theorem Inv.write {x e:Addr}{o:HO}{t':Nat}(I:Inv X pins σ H s)(mu:DS (H x))(he:e=x\/H e=some (.own x))(k:∀ b u,b≠e->s.heap.get? b=some u->h'.get? b=some u)(N3:∃ u,h'.get? e=some u)
  (new:ñ X.prog X.w (aj H x o) h' x o):Inv X pins σ (aj H x o) { s with heap:=h',toks:=t' }:=I.un (Un.write mu he k N3) (I.þ.write mu he k N3 new)
theorem Inv.Kj {G_:List (Addr × Obj)}(I:Inv X pins σ H s)(h:∀ p∈G_,s.heap.get? p.1=some p.2/\H p.1=none/\p.1≠X.env.locals/\p.1 ∉ X.fs/\∀ v,p.2.data ≠ .cell v):Inv X G_ σ H s :=
 ⟨I.ok,I.os,I.bare,I.base,I.loc,I.cell,I.free,I.Ŏ,λ p hp=>(Ă.mp hp).elim (λ z=>I.pin p (ψ _ z)) (h p),I.þ,I.len⟩
theorem jb {N:List Str}(hN:N.Nodup){i j:Nat}{x:Str}(a:N[i]?=some x)(b:N[j]?=some x):i=j:=by
 obtain⟨h1,e1⟩:=É.mp a;obtain⟨h2,e2⟩:=É.mp b;exact(List.getElem_inj hN).mp (e1.trans e2.symm)
theorem jz {M:Model}{A:Around}{E:bz}{i:Nat}{x:Str}{v:V}{u:Value}{Q:Unit->Shared->Prop}(I:Inv X pins σ H s)(hN:X.N.Nodup)(hi:X.N[i]?=some x)(hx:xV X.env.scope x)(r:RelV v u)
  (h:∀ s',Inv X pins (σ.set i (some v)) H s'->(∃ a,Heap.SameBut a s.heap s'.heap/\(a=X.env.locals\/X.env.cells.lookup x=some a))->Q () s') (hf:X.fn x=true\/X.env.scope.names.lookup x=some .local:=by first | exact .inl rfl | exact .inr rfl | assumption):wpAny M A (storeName X.env x u) Q E s:=by
 obtain⟨m,hn,hl⟩:=id I.loc;have NB:(X.env.scope.kind == .class||(X.env.scope.kind == .module&&X.env.locals != X.env.globals))=false:=by rw [I.ok.kind];rfl
 have KU:i < σ.length:=by rw [I.len];exact(É.mp hi).1
 have LC:=I.LC;have tracked:∀{a:Addr}{h':Heap},(∃ o,s.heap.get? a=some o/\H a=none)->Heap.SameBut a s.heap h'->ţ X.prog X.w H h':=λ {a h'} ha hs b ob e=>by
  obtain⟨_,_,MT⟩:=ha;refine(I.þ b ob e).π (λ c w' hc q=>(hs.2 c ?_).trans q) (λ _ q=>q) λ _ _ q=>q;rintro rfl;rcases hc with rfl | hc
  ·rw [MT] at e;cases e
  ·rw [MT] at hc;cases hc
 rcases hx with hk | hk
 ·refine wpAny_storeName_local hk hn (λ h' MR hs=>?_) NB;obtain⟨oL,_,_,Td,_⟩:=id hn;refine h _ ⟨I.ok,I.os,I.bare,⟨λ b o e n hb hx=>?_,λ b o e n hb hx=>?_,I.base.free,λ b o e hx=>?_,I.base.u_,I.base.l_,I.base.w_,I.base.sys⟩,⟨_,MR,λ j y v' e1 e2 e3=>?_⟩,λ y c e=>?_,I.free,I.Ŏ,λ p hp=>?_,tracked ⟨oL,Td,I.free⟩ hs,by simpa using I.len⟩ ⟨_,hs,.inl rfl⟩
  ·exact(hs.2 b (Ñ (Í (È e) I.ok.above))).trans (I.base.keep b o e n hb hx)
  ·obtain⟨sl,e1⟩:=I.base.slot b o e n hb hx;exact⟨sl,(hs.2 b (Ñ (Í (È e) I.ok.above))).trans e1⟩
  ·obtain⟨o',e1⟩:=I.base.there b o e hx;exact⟨o',(hs.2 b (Ñ (Í (È e) I.ok.above))).trans e1⟩
  ·by_cases hj:j=i
   ·subst hj;rw [hi] at e1;cases e1;rw [ō KU] at e2;cases e2;exact⟨u,r,.inl ⟨hk,by simp⟩⟩
   ·rw [ω (Ne.symm hj)] at e2;obtain⟨u',r',q⟩:=hl j y v' e1 e2 e3;refine⟨u',r',?_⟩;rcases q with⟨k,e⟩ | ⟨k,c,e,z⟩
    ·refine .inl ⟨k,?_⟩;have:y≠x:=λ e=>hj (jb hN e1 (e ▸ hi));simp [this,e]
    ·exact .inr ⟨k,c,e,z.sameBut hs (LC y c e)⟩
  ·obtain⟨w',z⟩:=I.cell y c e;exact⟨w',z.sameBut hs (LC y c e)⟩
  ·obtain⟨e,n,ne,nf,d⟩:=I.pin p hp;exact⟨(hs.2 p.1 ne).trans e,n,ne,nf,d⟩
 ·have RL:X.fn x=true:=by
   rcases hf with z | z
   ·exact z
   ·rw [z] at hk;cases hk
  obtain⟨c,hc⟩:=I.ok.has x (.inl hk);obtain⟨w',z⟩:=I.cell x c hc;refine wpAny_storeName_cell I.ok.kind hk hc z (λ h' LO hs=>?_);obtain⟨oc,Tc,RE⟩:=id z;refine h { s with heap:=h' } ⟨I.ok,I.os,I.bare,⟨λ b o e n hb hx=>?_,λ b o e n hb hx=>?_,I.base.free,λ b o e hx=>?_,I.base.u_,I.base.l_,I.base.w_,I.base.sys⟩,⟨m,hn.sameBut hs (Ne.symm (LC x c hc)),λ j y v' e1 e2 e3=>?_⟩,λ y c' e=>?_,I.free,I.Ŏ,λ p hp=>?_,tracked ⟨oc,Tc,I.Ŏ x c hc⟩ hs,by simpa using I.len⟩ ⟨c,hs,.inr hc⟩
  ·exact(hs.2 b (Ñ (Í (È e) (I.ok.MX x c RL hc)))).trans (I.base.keep b o e n hb hx)
  ·obtain⟨sl,e1⟩:=I.base.slot b o e n hb hx;exact⟨sl,(hs.2 b (Ñ (Í (È e) (I.ok.MX x c RL hc)))).trans e1⟩
  ·obtain⟨o',e1⟩:=I.base.there b o e hx;exact⟨o',(hs.2 b (Ñ (Í (È e) (I.ok.MX x c RL hc)))).trans e1⟩
  ·by_cases hj:j=i
   ·subst hj;rw [hi] at e1;cases e1;rw [ō KU] at e2;cases e2;exact⟨u,r,.inr ⟨.inl hk,c,hc,LO⟩⟩
   ·rw [ω (Ne.symm hj)] at e2;obtain⟨u',r',q⟩:=hl j y v' e1 e2 e3;refine⟨u',r',?_⟩;rcases q with q | ⟨k,c',e,z'⟩
    ·exact .inl q
    ·refine .inr ⟨k,c',e,z'.sameBut hs ?_⟩;rintro rfl;exact hj (jb hN e1 (I.ok.inj _ _ _ e hc ▸ hi))
  ·by_cases Tn:c'=c
   ·subst Tn;exact⟨_,LO⟩
   ·obtain⟨w2,z2⟩:=I.cell y c' e;exact⟨w2,z2.sameBut hs Tn⟩
  ·obtain⟨e,n,ne,nf,d⟩:=I.pin p hp;refine⟨(hs.2 p.1 ?_).trans e,n,ne,nf,d⟩;intro q;rw [q,Tc] at e;have q':oc=p.2:=Ó e;exact d w' (by rw [<- q'];exact RE)
theorem dM {M:Model}{A:Around}{E:bz}{i:Nat}{x:Str}{v:V}{u:Value}{Q:Unit->Shared->Prop}(I:Inv X pins σ H s)(hN:X.N.Nodup)(hi:X.N[i]?=some x)(hx:xV X.env.scope x)(r:RelV v u)
  (h:∀ s',Inv X pins (σ.set i (some v)) H s'->Q () s') (hf:X.fn x=true\/X.env.scope.names.lookup x=some .local:=by first | exact .inl rfl | exact .inr rfl | assumption):wpAny M A (storeName X.env x u) Q E s :=
 jz I hN hi hx r (λ s' I' _=>h s' I') hf
theorem Inv.LD {s':Shared}{ch:List Addr}(I:Inv X pins σ H s)(ho:s'.os=s.os)(u:Un (jJ X.stack) ch H H' s.heap s'.heap)(þ:ţ X.prog X.w H' s'.heap)(hg:AllBare s'.gens)
  (LN:∀ b∈ch,(b∈X.ex\/X.ľ.heap.objs.size<=b)/\b≠X.env.locals/\(∀ x c,X.env.cells.lookup x=some c->c≠b)/\∀ p∈X.pn++pins,p.1≠b):Inv X pins σ H' s':=by
 obtain⟨h',g',d',t',o'⟩:=s';have e:o'=s.os:=ho;subst e;exact I.call (g':=g') (t':=t') (d':=d') u þ hg LN
end
abbrev XK:=Value->Option Addr->Hp->Prop
abbrev St:=List (Option V)
abbrev VK:=V->Hp->Prop
abbrev TE:=St->Hp->VK->Prop
abbrev TT:=St->Hp->(Bool->Hp->Prop)->Prop
abbrev TA:=St->Hp->(List V->Hp->Prop)->Prop
structure bT where
 nx:St->Hp->Prop
 rt:VK
 bk:St->Hp->Prop:=λ _ _=>False
 ct:St->Hp->Prop:=λ _ _=>False
abbrev TS:=bT->St->Hp->Prop
def EP (X:Cx)(pins:List (Addr × Obj))(σ:St)(Q:VK)(u:Value)(s':Shared):Prop:=∃ v H',Inv X pins σ H' s'/\RelV v u/\Q v H'
def TP (X:Cx)(pins:List (Addr × Obj))(σ:St)(Q:Bool->Hp->Prop)(b:Bool)(s':Shared):Prop:=∃ H',Inv X pins σ H' s'/\Q b H'
def AP (X:Cx)(pins:List (Addr × Obj))(σ:St)(Q:List V->Hp->Prop)(us:List Value)(s':Shared):Prop:=∃ vs H',Inv X pins σ H' s'/\Vals vs us/\Q vs H'
def SP (X:Cx)(pins:List (Addr × Obj))(D:bT)(f:Flow)(s':Shared):Prop :=
 match f with
 | .next=>∃ ē H',Inv X pins ē H' s'/\D.nx ē H'
 | .brk=>∃ ē H',Inv X pins ē H' s'/\D.bk ē H'
 | .cont=>∃ ē H',Inv X pins ē H' s'/\D.ct ē H'
 | .ret u=>∃ v ē H',Inv X pins ē H' s'/\RelV v u/\D.rt v H'
def PE (X:Cx)(e:Expr)(t:TE):Prop :=
 ∀(pins:List (Addr × Obj))(s:Shared)(σ:St)(H:Hp)(Q:VK),Inv X pins σ H s->t σ H Q->wpAny (model X.prog X.w) X.A (eval e X.env) (EP X pins σ Q) X.xe s
def PT (X:Cx)(e:Expr)(t:TT):Prop :=
 ∀(pins:List (Addr × Obj))(s:Shared)(σ:St)(H:Hp)(Q:Bool->Hp->Prop),Inv X pins σ H s->t σ H Q->wpAny (model X.prog X.w) X.A (isTrue e X.env (eval e X.env)) (TP X pins σ Q) X.xe s
def PW (X:Cx)(e:Expr)(t:TT):Prop :=
 ∀(whole:Sem Value)(pins:List (Addr × Obj))(s:Shared)(σ:St)(H:Hp)(Q:Bool->Hp->Prop),Inv X pins σ H s->t σ H Q->wpAny (model X.prog X.w) X.A (isTrue e X.env whole) (TP X pins σ Q) X.xe s
theorem PW.pt {X:Cx}{e:Expr}{t:TT}(h:PW X e t):PT X e t:=h _
def PA (X:Cx)(es:List Expr)(t:TA):Prop :=
 ∀(pos:Pos)(pins:List (Addr × Obj))(s:Shared)(σ:St)(H:Hp)(Q:List V->Hp->Prop),Inv X pins σ H s->t σ H Q->wpAny (model X.prog X.w) X.A (spliced (backTo pos (starEach es X.env))) (AP X pins σ Q) X.xe s
def PS (X:Cx)(st:Stmt)(t:TS):Prop :=
 ∀(pins:List (Addr × Obj))(s:Shared)(σ:St)(H:Hp)(D:bT),Inv X pins σ H s->t D σ H->wpAny (model X.prog X.w) X.A (exec st X.env) (SP X pins D) X.xe s
def Ũ (X:Cx)(st:List Stmt)(t:TS):Prop :=
 ∀(pins:List (Addr × Obj))(s:Shared)(σ:St)(H:Hp)(D:bT),Inv X pins σ H s->t D σ H->wpAny (model X.prog X.w) X.A (execs st X.env) (SP X pins D) X.xe s
theorem aW {α:Type}{t:Sem α}{Q Q':α->Shared->Prop}{M:Model}{A:Around}{E:bz}{s:Shared}(h:wpAny M A t Q E s)(hQ:∀ a s,Q a s->Q' a s):wpAny M A t Q' E s:=Ğ h hQ λ _ _ x=>x
section
variable {X:Cx}
def aq (i:Nat):TE:=λ σ H Q=>∃ v,σ[i]?=some (some v)/\Q v H
def tC (v:V):TE:=λ _ H Q=>Q v H
theorem zP {i:Nat}{x:Str}{pos:Pos}(hN:X.N[i]?=some x)(hv:Ev X.env.scope x)(hd:(x==("__debug__" : Str))=false:=by decide) (JZ:(x==("__classdict__" : Str))=false:=by decide):PE X (.Name x pos) (aq i):=by
 intro pins s σ H Q I h;obtain⟨v,e,h⟩:=h;obtain⟨m,hn,hl⟩:=I.loc;obtain⟨u,r,l⟩:=hl i x v hN e hv;have fin:EP X pins σ Q u s:=⟨v,H,I,r,h⟩;rcases l with⟨hk,hm⟩ | ⟨hk,c,hc,k_⟩
 ·exact wpAny_Name (wpAny_loadName_local I.ok.kind hk hn hm fin) hd
 ·rcases hk with hk | hk
  ·exact wpAny_Name (wpAny_loadName_cell I.ok.kind hk hc k_ fin) hd
  ·exact wpAny_Name (wpAny_loadName_free I.ok.kind hk hc k_ fin JZ) hd
theorem au {i j pos}:PE X (.Constant (.int i) j pos) (tC (.int i)):=λ _ _ _ H _ I h=>wpAny_Constant_int ⟨.int i,H,I.tok _,⟨_,rfl⟩,h⟩
theorem l9 {b j pos}:PE X (.Constant (.bool b) j pos) (tC (.bl b)):=λ _ _ _ H _ I h=>Constant_bool ⟨.bl b,H,I,rfl,h⟩
theorem gQ {j pos}:PE X (.Constant .none j pos) (tC .ô):=λ _ _ _ H _ I h=>Constant_none ⟨.ô,H,I,rfl,h⟩
theorem cL {x j pos}:PE X (.Constant (.str x) j pos) (tC (.str x)):=λ _ _ _ H _ I h=>Calls.Constant_str ⟨.str x,H,I.tok _,⟨_,rfl⟩,h⟩
def Gl (X:Cx)(x:Str):Prop:=X.env.kindOf x=some .globalImplicit
theorem cu {E:bz}{pins:List (Addr × Obj)}{s:Shared}{σ:St}{H:Hp}{x:Str}{u:Value}{pos:Pos}{Q:bz}(I:Inv X pins σ H s)(hg:Gl X x)(hm:X.mg x=some u)(h:Q u s)
  (hd:(x==("__debug__" : Str))=false:=by decide):wpAny (model X.prog X.w) X.A (eval (.Name x pos) X.env) Q E s :=
 Calls.Name_function_global I.ok.kind hg (Calls.loadGlobal_global (by rw [I.ok.glob];exact I.mod.glob.keeps I.bk) hm h) hd
theorem gu {E:bz}{pins:List (Addr × Obj)}{s:Shared}{σ:St}{H:Hp}{x:Str}{u:Value}{pos:Pos}{Q:bz}(I:Inv X pins σ H s)(hg:Gl X x)(hm:X.mg x=none)(hv:bootBuiltins x=some u)(h:Q u s)
  (hn:x ≠ "__name__" := by decide) (hd:(x==("__debug__" : Str))=false:=by decide):wpAny (model X.prog X.w) X.A (eval (.Name x pos) X.env) Q E s:=by
 obtain⟨mb,h1,h2⟩:=I.mod.blt;exact Calls.Name_function_global I.ok.kind hg (Calls.loadGlobal_builtin (by rw [I.ok.glob];exact I.mod.glob.keeps I.bk) hm (by rw [I.ok.blt];exact h1.keeps I.bk) ((h2 x hn).trans hv) h) hd
theorem bn {x:Str}{v:V}{u:Value}{pos:Pos}(hg:Gl X x)(hm:X.mg x=some u)(r:RelV v u)(hd:(x==("__debug__" : Str))=false:=by decide):PE X (.Name x pos) (tC v) :=
 λ _ _ _ H _ I h=>cu I hg hm ⟨v,H,I,r,h⟩ hd
theorem vB {x:Str}{v:V}{u:Value}{pos:Pos}(hg:Gl X x)(hm:X.mg x=none)(hv:bootBuiltins x=some u)(r:RelV v u)(hn:x ≠ "__name__" := by decide) (hd:(x==("__debug__" : Str))=false:=by decide):PE X (.Name x pos) (tC v) :=
 λ _ _ _ H _ I h=>gu I hg hm hv ⟨v,H,I,r,h⟩ hn hd
variable {a b:Expr}{ta tb:TE}{pos:Pos}
def PC (X:Cx)(op:CmpOp)(a b:Expr)(t:TE):Prop :=
 ∀(pins:List (Addr × Obj))(s:Shared)(σ:St)(H:Hp)(Q:VK),Inv X pins σ H s->t σ H Q ->
  wpAny (model X.prog X.w) X.A (eval a X.env) (λ v ü=>wpAny (model X.prog X.w) X.A (eval b X.env) (λ u Ų=>wpAny (model X.prog X.w) X.A (compareOp op v u) (EP X pins σ Q) X.xe Ų) X.xe ü) X.xe s
theorem rq (b:Expr){op:CmpOp}(h:op ≠ .In)(h2:op ≠ .NotIn):behindInMarks op b=false:=by
 have e1:(op==CmpOp.In)=false:=by cases op <;> first | rfl | exact absurd rfl h
 have e2:(op==CmpOp.NotIn)=false:=by cases op <;> first | rfl | exact absurd rfl h2
 cases b <;> simp [behindInMarks,e1,e2]
def Dl (ta:TE):TE:=λ σ H Q=>ta σ H λ x H1=>Q (.bl (decide (x=.ô))) H1
theorem RelV.Lj {x:V}{v:Value}(r:RelV x v):(v==Value.none)=decide (x=.ô):=by
 cases x with
 | ô=>cases r;rfl
 | bl _=>cases r;rfl
 | int _=>obtain⟨t,rfl⟩:=r;rfl
 | str _=>obtain⟨t,rfl⟩:=r;rfl
 | K0 _=>obtain⟨t,rfl⟩:=r;rfl
 | LQ _=>obtain⟨t,rfl⟩:=r;rfl
 | ref _=>cases r;rfl
 | ty _=>cases r;rfl
theorem Bd {j pos'}(ha:PE X a ta):PC X .Is a (.Constant .none j pos') (Dl ta):=by
 intro pins s σ H Q I h;refine aW (ha pins s σ H _ I h) λ v s1 ⟨x,H1,I1,r1,q1⟩=>?_;exact Constant_none (is_none_gen ⟨.bl _,H1,I1,by rw [r1.Lj];rfl,q1⟩)
def tB (t:TE):TT:=λ σ H Q=>t σ H λ x H1=>∃ c,x=.bl c/\Q c H1
theorem uz {op:CmpOp}{t:TE}(h:PC X op a b t)(h1:behindInMarks op b=false:=by first | exact rq _ ag ag | rfl):PT X (.Compare a [op] [b] pos) (tB t):=by
 intro pins s σ H Q I hw;refine wpAny_isTrue_Compare1 (aW (h pins s σ H _ I hw) λ v s1 h1=>aW h1 λ u s2 h2=>aW h2 λ c s3 ⟨x,H1,I1,r1,q1⟩=>?_) h1;obtain⟨d,rfl,q⟩:=q1;cases r1;exact ě ⟨H1,I1,q⟩
theorem bf {e:Expr}{t:TE}(h:PE X e t)(he:∀ whole,isTrue e X.env whole=(do let v <- whole;standAt e.pos;holding [v] (truthy v)):=by intro _;rfl):PT X e (tB t):=by
 intro pins s σ H Q I hw;refine isTrue_plain (aW (h pins s σ H _ I hw) λ v s1 ⟨x,H1,I1,r1,q1⟩=>?_) (he _);obtain⟨d,rfl,q⟩:=q1;cases r1;exact ě ⟨H1,I1,q⟩
variable {tA Jf:TT}{rest:List Expr}
def Au (t u:TT):TT:=λ σ H Q=>t σ H λ c H1=>if c=true then u σ H1 Q else Q false H1
def Hn (t u:TT):TT:=λ σ H Q=>t σ H λ c H1=>if c=true then Q true H1 else u σ H1 Q
def r9 (t:TT):TT:=λ σ H Q=>t σ H λ c H1=>Q (!c) H1
theorem pM (ha:PT X a tA):PW X (.BoolOp .And [a] pos) tA:=by
 intro wh pins s σ H Q I h;refine isTrue_and (aW (ha pins s σ H Q I h) λ c s1 e=>?_);cases c with
 | true=>exact isTrue_and_nil e
 | false=>exact e
theorem fX (ha:PT X a tA):PW X (.BoolOp .Or [a] pos) tA:=by
 intro wh pins s σ H Q I h;refine isTrue_or (aW (ha pins s σ H Q I h) λ c s1 e=>?_);cases c with
 | false=>exact isTrue_or_nil e
 | true=>exact e
theorem uj (ha:PT X a tA)(hb:PW X (.BoolOp .And (b::rest) pos) Jf):PW X (.BoolOp .And (a::b::rest) pos) (Au tA Jf):=by
 intro wh pins s σ H Q I h;refine isTrue_and (aW (ha pins s σ H _ I h) λ c s1 ⟨H1,I1,q1⟩=>?_);cases c with
 | true=>exact hb wh pins s1 σ H1 Q I1 q1
 | false=>exact⟨H1,I1,q1⟩
theorem gY (ha:PT X a tA)(hb:PW X (.BoolOp .Or (b::rest) pos) Jf):PW X (.BoolOp .Or (a::b::rest) pos) (Hn tA Jf):=by
 intro wh pins s σ H Q I h;refine isTrue_or (aW (ha pins s σ H _ I h) λ c s1 ⟨H1,I1,q1⟩=>?_);cases c with
 | true=>exact⟨H1,I1,q1⟩
 | false=>exact hb wh pins s1 σ H1 Q I1 q1
theorem bD (ha:PT X a tA):PT X (.UnaryOp .Not a pos) (r9 tA):=by
 intro pins s σ H Q I h;exact isTrue_not (ha pins s σ H (λ c H1=>Q (!c) H1) I h)
def B4 (ta tb:TE):TE:=λ σ H Q=>ta σ H λ x H1=>∃ c,x=.bl c/\if c=true then tb σ H1 Q else Q (.bl false) H1
def Ex (ta tb:TE):TE:=λ σ H Q=>ta σ H λ x H1=>∃ c,x=.bl c/\if c=true then Q (.bl true) H1 else tb σ H1 Q
def BY (ta:TE):TE:=λ σ H Q=>ta σ H λ x H1=>∃ c,x=.bl c/\Q (.bl (!c)) H1
theorem eT {op}{t:TE}(h:PE X a t):PE X (.BoolOp op [a] pos) t:=λ pins s σ H Q I hw=>BoolOp_one (h pins s σ H Q I hw)
theorem eE (ha:PE X a ta)(hb:PE X (.BoolOp .And (b::rest) pos) tb):PE X (.BoolOp .And (a::b::rest) pos) (B4 ta tb):=by
 intro pins s σ H Q I h;refine BoolOp_and (aW (ha pins s σ H _ I h) λ v s1 ⟨x,H1,I1,r1,q1⟩=>?_);obtain⟨c,rfl,q1⟩:=q1;cases r1;refine ě ?_;cases c with
 | true=>exact hb pins s1 σ H1 Q I1 q1
 | false=>exact⟨.bl false,H1,I1,rfl,q1⟩
theorem C4 (ha:PE X a ta)(hb:PE X (.BoolOp .Or (b::rest) pos) tb):PE X (.BoolOp .Or (a::b::rest) pos) (Ex ta tb):=by
 intro pins s σ H Q I h;refine BoolOp_or (aW (ha pins s σ H _ I h) λ v s1 ⟨x,H1,I1,r1,q1⟩=>?_);obtain⟨c,rfl,q1⟩:=q1;cases r1;refine ě ?_;cases c with
 | false=>exact hb pins s1 σ H1 Q I1 q1
 | true=>exact⟨.bl true,H1,I1,rfl,q1⟩
theorem sW (ha:PE X a ta):PE X (.UnaryOp .Not a pos) (BY ta):=by
 intro pins s σ H Q I h;refine UnaryOp_ (aW (ha pins s σ H _ I h) λ v s1 ⟨x,H1,I1,r1,q1⟩=>?_);obtain⟨c,rfl,q1⟩:=q1;cases r1;exact not_of (ě ⟨.bl (!c),H1,I1,rfl,q1⟩)
def Ig (t:TT)(ta tb:TE):TE:=λ σ H Q=>t σ H λ c H1=>if c=true then ta σ H1 Q else tb σ H1 Q
theorem tF {c:Expr}(hc:PT X c tA)(ha:PE X a ta)(hb:PE X b tb):PE X (.IfExp c a b pos) (Ig tA ta tb):=by
 intro pins s σ H Q I h;refine wpAny_IfExp (aW (hc pins s σ H _ I h) λ d s1 ⟨H1,I1,q1⟩=>?_);cases d with
 | true=>exact ha pins s1 σ H1 Q I1 q1
 | false=>exact hb pins s1 σ H1 Q I1 q1
end
def ÿ (K:PySem.W.Frag)(H:Hp)(a:Addr)(xs:List V):Prop :=
 Rd H a (.lst xs) \/
  ∃(o:Obj)(its:Array Value)(n:Nat),K.lookup a=some o/\o.cls=.type "list" /\ o.dict=none/\o.data=.seq its n/\its.size<=sizeLine/\Vals xs its.toList
def č (K:PySem.W.Frag)(H:Hp)(a:Addr)(xs:List V):Prop :=
 Rd H a (.tup xs) \/
  ∃(o:Obj)(its:Array Value)(n:Nat),K.lookup a=some o/\o.cls=.type "tuple" /\ o.data=.seq its n/\its.size<=sizeLine/\Vals xs its.toList
def Ba:Value->Option V
 | .none=>some .ô
 | .bool b=>some (.bl b)
 | .int i _=>some (.int i)
 | .str x _=>some (.str x)
 | .bytes b _=>some (.K0 b)
 | .float b _=>some (.LQ b)
 | .ref a=>some (.ref a)
 | .type n=>some (.ty n)
 | _=>none
theorem RelV.abs {x:V}{u:Value}(r:RelV x u):Ba u=some x:=by
 cases x with
 | ô=>cases r;rfl
 | bl _=>cases r;rfl
 | int _=>obtain⟨t,rfl⟩:=r;rfl
 | str _=>obtain⟨t,rfl⟩:=r;rfl
 | K0 _=>obtain⟨t,rfl⟩:=r;rfl
 | LQ _=>obtain⟨t,rfl⟩:=r;rfl
 | ref _=>cases r;rfl
 | ty _=>cases r;rfl
theorem RelV.inj {x y:V}{u:Value}(r:RelV x u)(q:RelV y u):x=y:=Ó (r.abs.symm.trans q.abs)
theorem Vals.inj:∀{xs ys:List V}{us:List Value},Vals xs us->Vals ys us->xs=ys
 | _,_,_,.nil,.nil=>rfl
 | _,_,_,.cons r t,.cons r' t'=>by rw [r.inj r',Vals.inj t t']
section
variable {X:Cx}{pins:List (Addr × Obj)}{σ:St}{H:Hp}{s:Shared}{a:Addr}{xs ys:List V}
theorem ÿ.of {K:PySem.W.Frag}(h:H a=some (.lst xs)):ÿ K H a xs:=.inl (.inl h)
theorem č.of {K:PySem.W.Frag}(h:H a=some (.tup xs)):č K H a xs:=.inl (.inl h)
theorem Inv.list (I:Inv X pins σ H s)(h:ÿ X.K H a xs):∃ its:List Value,Vals xs its/\PlainL s.heap a its.toArray/\xs.length<=sizeLine:=by
 rcases h with h | ⟨o,its,n,hk,hc,hd,hs,hz,r⟩
 ·obtain⟨z,its,n,r,e⟩:=h.ok I.þ;exact⟨its,r,⟨_,n,e,rfl,rfl,rfl⟩,z⟩
 ·refine⟨its.toList,r,⟨o,n,I.Ņ a o hk,hc,hd,by simpa using hs⟩,?_⟩
  have e:=r.length;simp only [Array.length_toList] at e;omega
theorem Inv.tuple (I:Inv X pins σ H s)(h:č X.K H a xs):∃ its:List Value,Vals xs its/\IsTup s.heap a its.toArray/\xs.length<=sizeLine:=by
 rcases h with h | ⟨o,its,n,hk,hc,hs,hz,r⟩
 ·obtain⟨z,its,r,p⟩:=h.ok I.þ;exact⟨its,r,p,z⟩
 ·refine⟨its.toList,r,⟨o,I.Ņ a o hk,hc,n,by simpa using hs⟩,?_⟩
  have e:=r.length;simp only [Array.length_toList] at e;omega
theorem Inv.i_ (I:Inv X pins σ H s)(h:ÿ X.K H a xs)(h':ÿ X.K H a ys):xs=ys:=by
 obtain⟨its,r,⟨o,n,e,_,_,d⟩,_⟩:=I.list h;obtain⟨its',r',⟨o',n',e',_,_,d'⟩,_⟩:=I.list h';rw [e] at e';cases e';rw [d] at d';injection d' with d1 _
 have:its=its':=by simpa using congrArg Array.toList d1
 subst this;exact r.inj r'
theorem Inv.F_ (I:Inv X pins σ H s)(h:č X.K H a xs)(h':č X.K H a ys):xs=ys:=by
 obtain⟨its,r,⟨o,e,_,n,d⟩,_⟩:=I.tuple h;obtain⟨its',r',⟨o',e',_,n',d'⟩,_⟩:=I.tuple h';rw [e] at e';cases e';rw [d] at d';injection d' with d1 _
 have:its=its':=by simpa using congrArg Array.toList d1
 subst this;exact r.inj r'
end
abbrev Cx.t_ (X:Cx)(E:bz):Cx:={ X with xe:=E }
abbrev Cx.υ (X:Cx):Cx:=X.t_ λ _ _=>False
theorem Cx.Ok.t_ {X:Cx}(ok:X.Ok)(E:bz):(X.t_ E).Ok :=
 ⟨ok.mod,ok.kind,ok.glob,ok.blt,ok.above,ok.inj,ok.has,ok.MX,ok.hd,ok.frames,ok.Ni,ok.Pm,ok.bs,ok.K7,ok.Jn,ok.J1,ok.ſ,ok.LP⟩
theorem Cx.Ok.ű {X:Cx}{E:bz}(ok:(X.t_ E).Ok):X.Ok :=
 ⟨ok.mod,ok.kind,ok.glob,ok.blt,ok.above,ok.inj,ok.has,ok.MX,ok.hd,ok.frames,ok.Ni,ok.Pm,ok.bs,ok.K7,ok.Jn,ok.J1,ok.ſ,ok.LP⟩
section
variable {X:Cx}{pins:List (Addr × Obj)}{σ:St}{H:Hp}{s:Shared}{E:bz}
theorem Inv.t_ (I:Inv X pins σ H s)(E:bz):Inv (X.t_ E) pins σ H s:=⟨I.ok.t_ E,I.os,I.bare,I.base,I.loc,I.cell,I.free,I.Ŏ,I.pin,I.þ,I.len⟩
theorem Inv.ű (I:Inv (X.t_ E) pins σ H s):Inv X pins σ H s:=⟨I.ok.ű,I.os,I.bare,I.base,I.loc,I.cell,I.free,I.Ŏ,I.pin,I.þ,I.len⟩
theorem SP.ű {D:bT}{f:Flow}{s':Shared}(h:SP (X.t_ E) pins D f s'):SP X pins D f s':=by
 cases f with
 | next=>obtain⟨ē,H',I,q⟩:=h;exact⟨ē,H',I.ű,q⟩
 | brk=>obtain⟨ē,H',I,q⟩:=h;exact⟨ē,H',I.ű,q⟩
 | cont=>obtain⟨ē,H',I,q⟩:=h;exact⟨ē,H',I.ű,q⟩
 | ret u=>obtain⟨v,ē,H',I,r,q⟩:=h;exact⟨v,ē,H',I.ű,r,q⟩
theorem Ũ.υ {st:List Stmt}{t:TS}(h:Ũ X.υ st t):Ũ X st t:=λ pins s σ H D I hw =>
 Ğ (h pins s σ H D (I.t_ _) hw) (λ _ _ q=>q.ű) λ _ _ z=>False.elim z
end
section
variable {X:Cx}{st:Stmt}{rest:List Stmt}{t u:TS}{e:Expr}{te:TE}{pos:Pos}
def bB:TS:=λ D σ H=>D.nx σ H
def az (t u:TS):TS:=λ D σ H=>t { D with nx:=u D } σ H
theorem dm:Ũ X [] bB:=λ _ _ σ H _ I h=>Ő ⟨σ,H,I,h⟩
theorem ba (h1:PS X st t)(h2:Ũ X rest u):Ũ X (st::rest) (az t u):=by
 intro pins s σ H D I h;refine LU (aW (h1 pins s σ H { D with nx:=u D } I h) λ f s1 q=>?_)
 cases f with
 | next =>
  obtain⟨ē,H',I',q⟩:=q;exact h2 pins s1 ē H' D I' q
 | ret v=>exact q
 | brk=>exact q
 | cont=>exact q
theorem aK (h1:PS X st t):Ũ X [st] t:=by
 intro pins s σ H D I h;refine LU (aW (h1 pins s σ H D I h) λ f s1 q=>?_);cases f with
 | next=>exact Ő q
 | ret v=>exact q
 | brk=>exact q
 | cont=>exact q
theorem wc:PS X (.Pass pos) bB:=λ _ _ σ H _ I h=>wpAny_Pass ⟨σ,H,I,h⟩
theorem Inv.quiet {pins:List (Addr × Obj)}{σ:St}{H:Hp}{s:Shared}(I:Inv X pins σ H s):interactive X.env=false:=by simp [interactive,I.ok.kind]
def mn (te:TE):TS:=λ D σ H=>te σ H λ _ H1=>D.nx σ H1
theorem ax (he:PE X e te)(hs:swapsWith e none pos.line X.env=pure false:=by rfl):PS X (.Expr e pos) (mn te):=by
 intro pins s σ H D I h;exact wpAny_Expr_any (aW (he pins s σ H _ I h) λ v s1 ⟨x,H1,I1,r1,q1⟩=>⟨σ,H1,I1,q1⟩) I.quiet hs
def aV (te:TE):TS:=λ D σ H=>te σ H D.rt
theorem bh (he:PE X e te):PS X (.Return (some e) pos) (aV te):=by
 intro pins s σ H D I h;exact wpAny_Return_some (aW (he pins s σ H _ I h) λ v s1 ⟨x,H1,I1,r1,q1⟩=>⟨x,σ,H1,I1,r1,q1⟩)
def cp (c:TT)(t u:TS):TS:=λ D σ H=>c σ H λ b H1=>if b=true then t D σ H1 else u D σ H1
theorem aG {c:Expr}{a b:List Stmt}{tc:TT}(hc:PT X c tc)(ha:Ũ X a t)(hb:Ũ X b u):PS X (.If c a b pos) (cp tc t u):=by
 intro pins s σ H D I h;refine wpAny_If (aW (hc pins s σ H _ I h) λ d s1 ⟨H1,I1,q1⟩=>?_);cases d with
 | true=>exact ha pins s1 σ H1 D I1 q1
 | false=>exact hb pins s1 σ H1 D I1 q1
def sB:TS:=λ _ _ _=>False
theorem gE:PS X st sB:=λ _ _ _ _ _ _ h=>h.elim
theorem jU {Wi:List Stmt}:Ũ X Wi sB:=λ _ _ _ _ _ _ h=>h.elim
end
abbrev TG:=V->St->Hp->(St->Hp->Prop)->Prop
abbrev vm:=List V->St->Hp->(St->Hp->Prop)->Prop
def PG (X:Cx)(target:Expr)(t:TG):Prop :=
 ∀(pins:List (Addr × Obj))(s:Shared)(σ:St)(H:Hp)(v:V)(u:Value)(Q:St->Hp->Prop),Inv X pins σ H s->RelV v u->t v σ H Q ->
  wpAny (model X.prog X.w) X.A (assign target X.env u) (λ _ s'=>∃ ē H',Inv X pins ē H' s'/\Q ē H') X.xe s
def DN (X:Cx)(ts:List Expr)(t:vm):Prop :=
 ∀(pins:List (Addr × Obj))(s:Shared)(σ:St)(H:Hp)(vs:List V)(us:List Value)(Q:St->Hp->Prop),Inv X pins σ H s->Vals vs us->t vs σ H Q ->
  wpAny (model X.prog X.w) X.A (assignInOrder ((assignEach ts X.env).map (·.2)) us) (λ _ s'=>∃ ē H',Inv X pins ē H' s'/\Q ē H') X.xe s
abbrev Bo:=V->V->V->Hp->(Hp->Prop)->Prop
def Es (X:Cx)(t:Bo):Prop :=
 ∀(pins:List (Addr × Obj))(s:Shared)(σ:St)(H:Hp)(o i v:V)(ov iv u:Value)(Q:Hp->Prop),Inv X pins σ H s->RelV o ov->RelV i iv->RelV v u->t o i v H Q ->
  wpAny (model X.prog X.w) X.A (setItem ov iv u) (λ _ s'=>∃ H',Inv X pins σ H' s'/\Q H') X.xe s
section
variable {X:Cx}{pos:Pos}
def be (i:Nat):TG:=λ v σ H Q=>Q (σ.set i (some v)) H
theorem cT {i:Nat}{x:Str}(hN:X.N.Nodup)(hi:X.N[i]?=some x)(hx:xV X.env.scope x)(hf:X.fn x=true\/X.env.scope.names.lookup x=some .local:=by first | exact .inl rfl | exact .inr rfl | assumption):PG X (.Name x pos) (be i):=by
 intro pins s σ H v u Q I r h;exact wpAny_assign_Name (dM I hN hi hx r (λ s' I'=>⟨_,H,I',h⟩) hf)
def qH:vm:=λ vs σ H Q=>vs=[]/\Q σ H
def de (t:TG)(u:vm):vm:=λ vs σ H Q=>∃ v r,vs=v::r/\t v σ H λ ē H'=>u r ē H' Q
theorem aZ:DN X [] qH:=by
 intro pins s σ H vs us Q I r h;obtain⟨e,h⟩:=h;subst e;cases r;exact assignInOrder_nil ⟨σ,H,I,h⟩
theorem dZ {e:Expr}{es:List Expr}{t:TG}{u:vm}(h1:PG X e t)(h2:DN X es u)
  (hs:(assignEach (e::es) X.env).map (·.2)=assign e X.env::(assignEach es X.env).map (·.2):=by rfl):DN X (e::es) (de t u):=by
 intro pins s σ H vs us Q I r h;obtain⟨v,vr,e1,h⟩:=h;subst e1;cases r with
 | cons r rr =>
  rw [hs];refine assignInOrder_cons (aW (h1 pins s σ H _ _ _ I r h) λ _ s1 ⟨NP,H1,I1,q1⟩=>?_);exact h2 pins s1 NP H1 _ _ Q I1 rr q1
def wm (K:PySem.W.Frag)(n:Nat)(t:vm):TG:=λ v σ H Q=>∃ a xs,v=.ref a/\č K H a xs/\xs.length=n/\t xs σ H Q
theorem bI {es:List Expr}{k:Nat}{t:vm}{n:Nat}(hc:X.calm=true)(h:DN X es t)
  (hn:(assignEach es X.env).length=n:=by rfl) (K6:(assignEach es X.env).findIdx? (·.1)=none:=by rfl):PG X (.Tuple es k pos) (wm X.K n t):=by
 intro pins s σ H v u Q I r hw;obtain⟨a,xs,e1,hq,hl,hw⟩:=hw;subst e1;cases r;obtain⟨its,rv,ht,hz⟩:=I.tuple hq;refine assign_Tuple_tuple (I.ok.hd hc) ht (by simp [hn,<- hl,rv.length]) K6 λ h' hx=>?_
 have I1:Inv X pins σ H { s with heap:=h' }:=I.kept (t':=s.toks) λ b o e=>hx b o (Ñ (È e)) e
 exact h pins _ σ H xs _ Q I1 (by simpa using rv) hw
def G2 (to ti:TE)(t:Bo):TG:=λ v σ H Q=>to σ H λ o H1=>ti σ H1 λ i H2=>t o i v H2 λ H3=>Q σ H3
theorem sT {o i:Expr}{to ti:TE}{t:Bo}(ho:PE X o to)(hi:PE X i ti)(hs:Es X t)
  (ha:∀ v,assign (.Subscript o i pos) X.env v=(do
   let ov <- holding [v] (eval o X.env)
   let iv <- holding [v,ov] (eval i X.env)
   standAt pos
   holding [v,ov,iv] (setItem ov iv v)
   release [v,ov,iv] []):=by intro _;rfl):PG X (.Subscript o i pos) (G2 to ti t):=by
 intro pins s σ H v u Q I r h;rw [ha];refine À (Ú (aW (ho pins s σ H _ I h) λ ov s1 ⟨x,H1,I1,r1,q1⟩=>?_));refine À (Ú (aW (hi pins s1 σ H1 _ I1 q1) λ iv s2 ⟨y,H2,I2,r2,q2⟩=>?_));refine À (ģ (À (Ú (aW (hs pins s2 σ H2 x y v ov iv u _ I2 r1 r2 r q2) λ _ s3 ⟨H3,I3,q3⟩=>?_))));exact wpAny_release ⟨σ,H3,I3,q3⟩
def cM (te:TE)(g:TG):TS:=λ D σ H=>te σ H λ x H1=>g x σ H1 D.nx
theorem gn {tg e:Expr}{te:TE}{g:TG}(he:PE X e te)(hg:PG X tg g)(hs:swapsWithSole [tg] e pos.line X.env=pure false:=by rfl)(hw:swappedStores [tg] e X.env=pure none:=by rfl)
  (h1:(assignEach [tg] X.env).map (·.2)=[assign tg X.env]:=by rfl):PS X (.Assign [tg] e pos) (cM te g):=by
 intro pins s σ H D I h;refine wpAny_Assign_stores (aW (he pins s σ H _ I h) λ v s1 ⟨x,H1,I1,r1,q1⟩=>?_) hs hw;rw [h1];exact aW (hg pins s1 σ H1 x v _ I1 r1 q1) λ _ s2 q=>q
theorem dq {i:Nat}{x:Str}{e:Expr}{te:TE}{pos':Pos}(hN:X.N.Nodup)(hi:X.N[i]?=some x)(hx:xV X.env.scope x)(he:PE X e te)(hs:swapsWith e (some (.Name x pos')) pos.line X.env=pure false:=by rfl)(hf:X.fn x=true\/X.env.scope.names.lookup x=some .local:=by first | exact .inl rfl | exact .inr rfl | assumption) :
  PS X (.Assign [.Name x pos'] e pos) (cM te (be i)):=by
 intro pins s σ H D I h;refine wpAny_Assign_Name (aW (he pins s σ H _ I h) λ v s1 ⟨y,H1,I1,r1,q1⟩=>?_) hs;exact dM I1 hN hi hx r1 (λ s2 I2=>⟨_,H1,I2,q1⟩) hf
def FS (i j:Nat)(ta:TA):TS:=λ D σ H=>ta σ H λ vs H1=>∃ v w,vs=[v,w]/\D.nx ((σ.set i (some v)).set j (some w)) H1
theorem zO {i j:Nat}{x y:Str}{a b:Expr}{ta:TA}{px py pt:Pos} {kt k2 QJ}(hc:X.calm=true)(hN:X.N.Nodup)(hi:X.N[i]?=some x)(hj:X.N[j]?=some y)(KW:i≠j)
  (hx:X.env.scope.names.lookup x=some .local) (hy:X.env.scope.names.lookup y=some .local) (ha:PA X [a,b] ta)
  (hw:swappedStores [.Tuple [.Name x px,.Name y py] kt pt] (.Tuple [a,b] k2 QJ) X.env=pure (some [x,y]))
  (hs:swapsWithSole [.Tuple [.Name x px,.Name y py] kt pt] (.Tuple [a,b] k2 QJ) pos.line X.env=pure false:=by rfl) :
  PS X (.Assign [.Tuple [.Name x px,.Name y py] kt pt] (.Tuple [a,b] k2 QJ) pos) (FS i j ta):=by
 intro pins s σ H D I h;rw [exec_Assign_arm];refine À (ģ ?_);rw [hs];refine À (Ã ?_);rw [Ì ag];refine À (Tuple_ (aW (ha _ pins s σ H _ I h) λ us s1 ⟨vs,H1,I1,r1,q1⟩=>?_));obtain⟨v,w,e1,q1⟩:=q1;subst e1;obtain⟨u1,u2,rfl,rv,Kh⟩:∃ u1 u2,us=[u1,u2]/\RelV v u1/\RelV w u2:=by
  cases r1 with
  | cons p q =>
   cases q with
   | cons p' q' =>
    cases q';exact⟨_,_,rfl,p,p'⟩
 refine Ĝ ?_ dy;have I2:Inv X pins σ H1 { s1 with heap:=s1.heap.push { cls:=.type "tuple",data:=.seq [u1,u2].toArray } }:=I1.kept (t':=s1.toks) λ b o e=>Â _ e
 rw [hw];refine À (Ã ?_);show wpAny (model X.prog X.w) X.A (do rule "assign.swapped-stores";let items <- unpackItems (.ref s1.heap.objs.size) 2 none;assignInOrder [λ v=>bindName X.env y v,λ v=>bindName X.env x v] items.reverse;pure Flow.next) _ _ _
 refine À (ő (À (unpackItems_tuple (items:=#[u1,u2]) (I.ok.hd hc) (IsTup.new s1.heap _) λ h' Js=>?_)));have I3:=I2.kept (h':=h') (t':=s1.toks) λ b o e=>Js b o (Ñ (È e)) e;show wpAny _ _ (assignInOrder [λ v=>bindName X.env y v,λ v=>bindName X.env x v] [u2,u1] >>= λ _=>pure Flow.next) _ _ _;refine À (assignInOrder_cons (wpAny_bindName (dM I3 hN hj (.inl hy) Kh (λ s2 I4=>?_) (.inr hy))));refine assignInOrder_cons (wpAny_bindName (dM I4 hN hi (.inl hx) rv (λ s3 I5=>assignInOrder_nil (Ã ?_)) (.inr hx)));rw [List.set_comm _ _ (Ne.symm KW)] at I5;exact⟨_,H1,I5,q1⟩
end
section
variable {X:Cx}{pos:Pos}
def rH (c:TT)(tb:TS):TS:=λ D σ H=>∃ W:Nat->St->Hp->Prop,(∃ m,W m σ H)/\∀ m σ H,W m σ H ->
 c σ H λ b H1=>if b=true then ∃ N:St->Hp->Prop,(∀ ē H',N ē H'->∃ m',m'<m/\W m' ē H')/\tb { D with nx:=N,ct:=N,bk:=D.nx } σ H1 else D.nx σ H1
theorem mO {c:Expr}{body:List Stmt}{tc:TT}{tb:TS}(hp:PassesOwn (model X.prog X.w) X.A X.env X.xe)(hc:PT X c tc)(hb:Ũ X body tb):PS X (.While c body [] pos) (rH tc tb):=by
 intro pins s σ H D I h;obtain⟨W,⟨m0,w0⟩,turn⟩:=h;refine wpAny_While (codeAny_whileLoop (λ n s'=>∃ ē H',Inv X pins ē H' s'/\W n ē H') ?_ m0 ⟨σ,H,I,w0⟩);rintro n s1 ⟨NP,H1,I1,w1⟩;refine Ķ hp (aW (hc pins s1 NP H1 _ I1 (turn n NP H1 w1)) λ b s2 ⟨H2,I2,q2⟩=>?_);cases b with
 | true =>
  obtain⟨N,hN,q2⟩:=q2;rw [Ï rfl];refine Ķ hp (aW (hb pins s2 NP H2 _ I2 q2) λ f s3 q3=>?_);cases f with
  | next =>
   obtain⟨Le,H3,I3,n3⟩:=q3;obtain⟨m',hm,w3⟩:=hN Le H3 n3;exact⟨m',hm,Le,H3,I3,w3⟩
  | cont =>
   obtain⟨Le,H3,I3,n3⟩:=q3;obtain⟨m',hm,w3⟩:=hN Le H3 n3;exact⟨m',hm,Le,H3,I3,w3⟩
  | brk=>exact q3
  | ret v=>exact q3
 | false =>
  rw [Ì Ê];exact Ő ⟨NP,H2,I2,q2⟩
end
structure It where
 go:Nat->Hp->Prop
 JJ:Nat->Hp->V->Hp->Prop
 stop:Nat->Hp->Prop
def fK (X:Cx)(pins:List (Addr × Obj))(H:Hp)(b:Addr):Prop :=
 H b=none/\b≠X.env.locals/\b ∉ X.fs/\(b∈X.ex\/X.ľ.heap.objs.size<=b)/\(∀ x c,X.env.cells.lookup x=some c->c≠b)/\∀ p∈X.pn++pins,p.1≠b
theorem Inv.KY {X:Cx}{pins:List (Addr × Obj)}{σ:St}{H H':Hp}{s:Shared}{b:Addr}(I:Inv X pins σ H s)(hb:s.heap.objs.size<=b)(hn:H' b=none):fK X pins H' b:=by
 refine⟨hn,Ŋ (Í I.lt hb),I.QV hb,.inr (Ô I.sz hb),λ x c e z=>?_,λ p hp z=>?_⟩
 ·obtain⟨v,q⟩:=I.cell x c e;exact absurd (Í q.lt (by rw [z];exact hb)) (ı _)
 ·exact absurd (Í (È (I.pin p hp).1) (by rw [z];exact hb)) (ı _)
structure p9 (P:Program)(w:World)(K:PySem.W.Frag)(tg:Expr)(J:It)(fp:List Addr)(it:Addr)(tn:Nat->Heap->Prop):Prop where
 mem:it∈fp
 obj:∀ i h,tn i h->∀ b∈fp,∃ o,h.get? b=some o/\∀ v,o.data ≠ .cell v
 keep:∀ i h h',tn i h->(∀ b∈fp,∀ o,h.get? b=some o->h'.get? b=some o)->tn i h'
 item:∀(X:Cx),X.prog=P->X.w=w->X.K=K->X.calm=true->∀(i:Nat)(pins:List (Addr × Obj))(s:Shared)(σ:St)(H:Hp)(E:bz),Inv X pins σ H s->(∀ b∈fp,fK X pins H b)->tn i s.heap->J.go i H ->
  wpAny (model P w) X.A (pyNext (.ref it)) (λ r s1=>∃ u,r=some u /\
   wpAny (model P w) X.A (letOwnedTupleGo tg (.ref it) u) (λ _ s2=>∃ x H',Inv X pins σ H' s2/\RelV x u/\J.JJ i H x H'/\tn (i+1) s2.heap/\∀ b∈fp,H' b=none) E s1) E s
 done:∀(X:Cx),X.prog=P->X.w=w->X.K=K->X.calm=true->∀(i:Nat)(pins:List (Addr × Obj))(s:Shared)(σ:St)(H:Hp)(E:bz),Inv X pins σ H s->(∀ b∈fp,fK X pins H b)->tn i s.heap->J.stop i H ->
  wpAny (model P w) X.A (pyNext (.ref it)) (λ r s1=>r=none/\Inv X pins σ H s1) E s
 self:∀(A:Around)(i:Nat)(s:Shared)(Q:bz)(E:bz),tn i s.heap->Q (.ref it) s->wpAny (model P w) A (pyIter (.ref it)) Q E s
abbrev TI:=St->Hp->(It->Hp->Prop)->Prop
def HM (X:Cx)(pins:List (Addr × Obj))(σ:St)(tg:Expr)(R:It->Hp->Prop)(Rk:Value)(s2:Shared):Prop :=
 ∃(it:Addr)(fp:List Addr)(tn:Nat->Heap->Prop)(J:It)(H':Hp),Rk=.ref it/\Inv X pins σ H' s2/\p9 X.prog X.w X.K tg J fp it tn/\tn 0 s2.heap/\(∀ b∈fp,fK X pins H' b)/\R J H'
def PI (X:Cx)(tg iter:Expr)(wi:TI):Prop :=
 ∀(pins:List (Addr × Obj))(s:Shared)(σ:St)(H:Hp)(R:It->Hp->Prop),Inv X pins σ H s->wi σ H R ->
  wpAny (model X.prog X.w) X.A (eval iter X.env) (λ v s1=>wpAny (model X.prog X.w) X.A (pyIter v) (HM X pins σ tg R) X.xe s1) X.xe s
theorem tK {M:Model}{A:Around}{E:bz}{s:Shared}{tg:Expr}{it:Addr}{u:Value}{o:Obj}{n:String}{vs:Array Value}{Q:Unit->Shared->Prop}(ho:s.heap.get? it=some o)(hc:o.cls=.type n)(hd:o.data=.fields vs)
  (hn:["enumerate","zip","dict_itemiterator","dict_reverseitemiterator","odict_iterator","itertools.zip_longest","itertools.pairwise"].contains n=false) (hQ:Q () s):wpAny M A (letOwnedTupleGo tg (.ref it) u) Q E s:=by
 unfold letOwnedTupleGo;cases tg <;> first
  | exact Ã hQ
  | (cases u <;> first
    | exact Ã hQ
    | (refine À (wpAny_load ho ?_)
       rw [hc,hd];show wpAny M A (if(["enumerate","zip","dict_itemiterator","dict_reverseitemiterator","odict_iterator","itertools.zip_longest","itertools.pairwise"].contains n&&vs[0]?==some (rawInt _))=true then _ else _) Q E s
       rw [Ì (by intro h;rw [hn,ĺ] at h;cases h)]
       exact Ã hQ))
def qV (K:PySem.W.Frag)(a:Addr):It :=
 ⟨λ i H=>∃ xs x,ÿ K H a xs/\xs[i]?=some x,λ i H x H'=>H'=H/\∀ xs,ÿ K H a xs->xs[i]?=some x,λ i H=>∃ xs,ÿ K H a xs/\xs.length<=i⟩
def EE (K:PySem.W.Frag)(a:Addr):It :=
 ⟨λ i H=>∃ xs x,č K H a xs/\xs[i]?=some x,λ i H x H'=>H'=H/\∀ xs,č K H a xs->xs[i]?=some x,λ i H=>∃ xs,č K H a xs/\xs.length<=i⟩
def uJ (lo:Int)(n:Nat):It:=⟨λ i _=>i<n,λ i H x H'=>H'=H/\x=.int (lo+i),λ i _=>n<=i⟩
theorem qm {P:Program}{w:World}{K:PySem.W.Frag}{tg:Expr}(a it:Addr):p9 P w K tg (qV K a) [it] it (λ i h=>h.IsListIter it a i) where
 mem:=by simp
 obj:=λ i h st b hb=>by
  have e:b=it:=by simpa using hb
  subst e;obtain⟨o,e,c,d⟩:=st;exact⟨o,e,λ v z=>by rw [d] at z;cases z⟩
 keep:=λ i h h' st k=>st.at λ o e=>k it (by simp) o e
 item:=by
  intro X hP hw hK hc i pins s σ H E I hf st hg;subst hP hw hK;obtain⟨xs,x,hq,hx⟩:=hg;obtain⟨its,rv,p,hz⟩:=I.list hq;obtain⟨u,hu,ru⟩:=rv.get hx;obtain⟨f0,f1,f2,f3,f4,f5⟩:=hf it (by simp)
  refine wpAny_pyNext_list_item st p.isList (x:=u) (by simpa using hu) λ h' LK sb=>?_
  have I1:Inv X pins σ H { s with heap:=h' }:=I.turned (t':=s.toks) (λ b o hb e=>(sb.2 b hb).trans e) f0 f1 f3 f4 f5
  obtain⟨o,e,c,d⟩:=id LK;exact⟨u,rfl,tK (s:={ s with heap:=h' }) e c d ag ⟨x,H,I1,ru,⟨rfl,λ ys hy=>by rw [I.i_ hy hq];exact hx⟩,LK,λ b hb=>(hf b hb).1⟩⟩
 done:=by
  intro X hP hw hK hc i pins s σ H E I hf st hg;subst hP hw hK;obtain⟨xs,hq,hx⟩:=hg;obtain⟨its,rv,p,hz⟩:=I.list hq;obtain⟨f0,f1,f2,f3,f4,f5⟩:=hf it (by simp)
  have hl:=rv.length;exact wpAny_pyNext_list_end (I.ok.hd hc) st p.isList (by simp;omega) λ h' eb=>⟨rfl,I.turned (t':=s.toks) (λ b o hb e=>eb b o hb e) f0 f1 f3 f4 f5⟩
 self:=λ _ _ _ _ _ st h=>wpAny_pyIter_listiter st h
theorem nO {P:Program}{w:World}{K:PySem.W.Frag}{tg:Expr}(a it:Addr):p9 P w K tg (EE K a) [it] it (λ i h=>h.IsTupleIter it a i) where
 mem:=by simp
 obj:=λ i h st b hb=>by
  have e:b=it:=by simpa using hb
  subst e;obtain⟨o,e,c,d⟩:=st;exact⟨o,e,λ v z=>by rw [d] at z;cases z⟩
 keep:=λ i h h' st k=>st.at λ o e=>k it (by simp) o e
 item:=by
  intro X hP hw hK hc i pins s σ H E I hf st hg;subst hP hw hK;obtain⟨xs,x,hq,hx⟩:=hg;obtain⟨its,rv,p,hz⟩:=I.tuple hq;obtain⟨u,hu,ru⟩:=rv.get hx;obtain⟨f0,f1,f2,f3,f4,f5⟩:=hf it (by simp)
  refine wpAny_pyNext_tuple_item st (show s.heap.IsTuple a its.toArray from p) (x:=u) (by simpa using hu) λ h' LK sb=>?_
  have I1:Inv X pins σ H { s with heap:=h' }:=I.turned (t':=s.toks) (λ b o hb e=>(sb.2 b hb).trans e) f0 f1 f3 f4 f5
  obtain⟨o,e,c,d⟩:=id LK;exact⟨u,rfl,tK (s:={ s with heap:=h' }) e c d ag ⟨x,H,I1,ru,⟨rfl,λ ys hy=>by rw [I.F_ hy hq];exact hx⟩,LK,λ b hb=>(hf b hb).1⟩⟩
 done:=by
  intro X hP hw hK hc i pins s σ H E I hf st hg;subst hP hw hK;obtain⟨xs,hq,hx⟩:=hg;obtain⟨its,rv,p,hz⟩:=I.tuple hq;obtain⟨f0,f1,f2,f3,f4,f5⟩:=hf it (by simp)
  have hl:=rv.length;exact wpAny_pyNext_tuple_end (I.ok.hd hc) st (show s.heap.IsTuple a its.toArray from p) (by simp;omega) λ h' eb=>⟨rfl,I.turned (t':=s.toks) (λ b o hb e=>eb b o hb e) f0 f1 f3 f4 f5⟩
 self:=λ _ _ _ _ _ st h=>wpAny_pyIter_tupleiter st h
theorem nS {P:Program}{w:World}{K:PySem.W.Frag}{tg:Expr}(it:Addr)(lo:Int)(n:Nat):p9 P w K tg (uJ lo n) [it] it (λ i h=>IsRangeIter h it (lo+(i:Nat)*1) ((n:Int)-(i:Nat)) 1) where
 mem:=by simp
 obj:=λ i h st b hb=>by
  have e:b=it:=by simpa using hb
  subst e;exact⟨_,st,λ v z=>by
   have z':Data.fields _=Data.cell v:=z;cases z'⟩
 keep:=λ i h h' st k=>k it (by simp) _ st
 item:=by
  intro X hP hw hK hc i pins s σ H E I hf st hg;subst hP hw hK;obtain⟨f0,f1,f2,f3,f4,f5⟩:=hf it (by simp)
  have W:=Walks.range (prog:=X.prog) (w:=X.w) (I.ok.hd hc) it lo 1 n;refine W.item i s _ _ hg st λ v h' tk hv LK kk=>?_;obtain⟨t,rfl⟩:=hv;have I1:Inv X pins σ H { s with heap:=h',toks:=tk }:=I.turned (λ b o hb e=>kk b o (by simpa using hb) e) f0 f1 f3 f4 f5
  refine⟨_,rfl,tK (s:={ s with heap:=h',toks:=tk }) (n:="range_iterator") LK rfl rfl ag ⟨.int (lo+i),H,I1,⟨t,?_⟩,⟨rfl,rfl⟩,LK,λ b hb=>(hf b hb).1⟩⟩
  rw [J_]
 done:=by
  intro X hP hw hK hc i pins s σ H E I hf st hg;subst hP hw hK;obtain⟨f0,f1,f2,f3,f4,f5⟩:=hf it (by simp)
  exact wpAny_pyNext_range_end (I.ok.hd hc) st (by have:n<=i:=hg;omega) λ h' eb=>⟨rfl,I.turned (t':=s.toks) (λ b o hb e=>eb b o hb e) f0 f1 f3 f4 f5⟩
 self:=λ _ _ _ _ _ st h=>wpAny_pyIter_rangeiter st h
section
variable {X:Cx}{tg:Expr}
def eJ (K:PySem.W.Frag)(tl:TE):TI:=λ σ H R=>tl σ H λ x H1=>∃ a,x=.ref a/\(∃ xs,ÿ K H1 a xs)/\R (qV K a) H1
def GB (K:PySem.W.Frag)(tl:TE):TI:=λ σ H R=>tl σ H λ x H1=>∃ a,x=.ref a/\(∃ xs,č K H1 a xs)/\R (EE K a) H1
theorem cF {l:Expr}{tl:TE}(hl:PE X l tl):PI X tg l (eJ X.K tl):=by
 intro pins s σ H R I h;refine aW (hl pins s σ H _ I h) λ v s1 ⟨x,H1,I1,r1,q1⟩=>?_;obtain⟨a,e,⟨xs,hq⟩,q⟩:=q1;subst e;cases r1;obtain⟨its,rv,p,hz⟩:=I1.list hq;refine K8 p.isList ?_;refine⟨s1.heap.objs.size,[s1.heap.objs.size],_,_,H1,rfl,I1.kept (t':=s1.toks) λ b o e=>Â _ e,qm a _,⟨_,Ë _ rfl,rfl,rfl⟩,λ b hb=>?_,q⟩;have e:b=s1.heap.objs.size:=by simpa using hb
 subst e;exact I1.KY (Ç _) (I1.þ.fresh (Ç _))
theorem Bt {l:Expr}{tl:TE}(hl:PE X l tl):PI X tg l (GB X.K tl):=by
 intro pins s σ H R I h;refine aW (hl pins s σ H _ I h) λ v s1 ⟨x,H1,I1,r1,q1⟩=>?_;obtain⟨a,e,⟨xs,hq⟩,q⟩:=q1;subst e;cases r1;obtain⟨its,rv,p,hz⟩:=I1.tuple hq;refine wpAny_pyIter_tuple (show s1.heap.IsTuple a its.toArray from p) ?_;refine⟨s1.heap.objs.size,[s1.heap.objs.size],_,_,H1,rfl,I1.kept (t':=s1.toks) λ b o e=>Â _ e,nO a _,⟨_,Ë _ rfl,rfl,rfl⟩,λ b hb=>?_,q⟩;have e:b=s1.heap.objs.size:=by simpa using hb
 subst e;exact I1.KY (Ç _) (I1.þ.fresh (Ç _))
theorem sO {pins:List (Addr × Obj)}{σ:St}{H:Hp}{s:Shared}{R:It->Hp->Prop}{E:bz}{lo hi:Int}{t u v:Tok}{tk:Nat}(I:Inv X pins σ H s)(h1:-(2^62)<=lo)(h2:lo<2^62)(h3:-(2^62)<=hi)(h4:hi<2^62)
  (q:R (uJ lo (hi-lo).toNat) H):wpAny (model X.prog X.w) X.A (pyIter (.ref s.heap.objs.size)) (HM X pins σ tg R) E { s with heap:=s.heap.push { cls:=.type "range",data:=.fields #[.int lo t,.int hi u,.int 1 v] },toks:=tk }:=by
 refine wpAny_pyIter_range (IsRange.new ..) (small_one h1 h2 h3 h4) ?_;have I1:Inv X pins σ H { s with heap:=s.heap.push { cls:=.type "range",data:=.fields #[.int lo t,.int hi u,.int 1 v] },toks:=tk }:=I.kept λ b o e=>Â _ e
 refine⟨(s.heap.push { cls:=.type "range",data:=.fields #[.int lo t,.int hi u,.int 1 v] }).objs.size,[(s.heap.push { cls:=.type "range",data:=.fields #[.int lo t,.int hi u,.int 1 v] }).objs.size],_,_,H,rfl,
  I1.kept (t':=tk) λ b o e=>Â _ e,nS _ lo (hi-lo).toNat,?_,λ b hb=>?_,q⟩
 ·have e1:lo+((0:Nat):Int)*1=lo:=by simp
  have e2:(((hi-lo).toNat:Nat):Int)-((0:Nat):Int)=Builtin.Range.rangeSize lo hi 1:=by rw [rangeSize_one];split <;> omega
  show IsRangeIter _ _ (lo+((0:Nat):Int)*1) ((((hi-lo).toNat:Nat):Int)-((0:Nat):Int)) 1;rw [e1,e2];exact Ë _ rfl
 ·have e:b=(s.heap.push { cls:=.type "range",data:=.fields #[.int lo t,.int hi u,.int 1 v] }).objs.size:=by simpa using hb
  subst e;exact I1.KY (Ç _) (I1.þ.fresh (Ç _))
def ff (ta:TA):TI:=λ σ H R=>ta σ H λ vs H1=>∃ j:Int,vs=[.int j]/\-(2^62)<=j/\j<2^62/\R (uJ 0 j.toNat) H1
theorem cg {a:Expr}{ta:TA}{p pos:Pos}(hg:Gl X "range") (hm:X.mg "range" = none) (ha:PA X [a] ta) (hs:starEach [a] X.env=[(false,eval a X.env)]:=by rfl):PI X tg (.Call (.Name "range" p) [a] [] pos) (ff ta):=by
 intro pins s σ H R I h;refine Call_ (gu I hg hm boot_range (ę (aW (ha pos pins s σ H _ I h) λ us s1 ⟨vs,H1,I1,r1,q1⟩=>?_) hs rfl));obtain⟨j,e,q1,q2,q⟩:=q1;subst e;cases r1 with
 | cons r rr =>
  cases rr;obtain⟨t,rfl⟩:=r;exact call_range_1 (sO I1 ae ae q1 q2 (by simpa using q))
def gU (wi:TI)(g:TG)(tb:TS):TS:=λ D σ H=>wi σ H λ J H1=>∃ W:Nat->Nat->St->Hp->Prop,(∃ m,W 0 m σ H1)/\∀ i m σ H,W i m σ H ->
 (J.stop i H/\D.nx σ H)\/(J.go i H/\∃ N:St->Hp->Prop,(∀ ē H',N ē H'->∃ m',m'<m/\W (i+1) m' ē H')/\∀ x H',J.JJ i H x H'->g x σ H' λ Ļ H2=>tb { D with nx:=N,ct:=N,bk:=D.nx } Ļ H2)
def kL (fp:List Addr)(h:Heap):List (Addr × Obj):=fp.filterMap λ b=>(h.get? b).map λ o=>(b,o)
theorem eO {fp:List Addr}{h:Heap}{b:Addr}{o:Obj}(hb:b∈fp)(e:h.get? b=some o):(b,o)∈kL fp h:=IS.mpr ⟨b,hb,by rw [e];rfl⟩
theorem qC {fp:List Addr}{h:Heap}{p:Addr × Obj}(hp:p∈kL fp h):p.1∈fp/\h.get? p.1=some p.2:=by
 obtain⟨b,hb,e⟩:=IS.mp hp;cases q:h.get? b with
 | none=>rw [q] at e;cases e
 | some o =>
  rw [q] at e;have e':(b,o)=p:=Ó e;subst e';exact⟨hb,q⟩
theorem Inv.pinned {pins:List (Addr × Obj)}{σ:St}{H:Hp}{s:Shared}{fp:List Addr}(I:Inv X pins σ H s)(hf:∀ b∈fp,fK X pins H b)(ho:∀ b∈fp,∃ o,s.heap.get? b=some o/\∀ v,o.data ≠ .cell v):Inv X (pins++kL fp s.heap) σ H s :=
 I.Kj λ p hp=>(Ă.mp hp).elim (λ z=>I.pin p (í _ z)) λ z=>by
  obtain⟨hb,e⟩:=qC z;obtain⟨f0,f1,f2,_⟩:=hf p.1 hb;obtain⟨o,e',d⟩:=ho p.1 hb;rw [e] at e';cases e';exact⟨e,f0,f1,f2,d⟩
theorem Inv.Κ {pins pl:List (Addr × Obj)}{σ:St}{H:Hp}{s:Shared}(I:Inv X (pins++pl) σ H s):Inv X pins σ H s:=I.Kj λ p hp=>I.pin p (í _ (ψ _ hp))
theorem dJ {iter:Expr}{body:List Stmt}{wi:TI}{g:TG}{tb:TS}{pos:Pos}(hp:PassesOwn (model X.prog X.w) X.A X.env X.xe)(hc:X.calm=true)(hi:PI X tg iter wi)(hg:PG X tg g)(hb:Ũ X body tb)
  (hs:∀ x,foldedSetIterable iter X.env x=pure x:=by intro _;rfl):PS X (.For tg iter body [] pos) (gU wi g tb):=by
 intro pins s σ H D I h;refine wpAny_For (aW (hi pins s σ H _ I h) λ v s1 h1=>aW h1 λ Rk s2 h2=>?_) hs;obtain⟨it,fp,tn,J,H2,e,I2,T,P2,f2,W,⟨m0,w0⟩,turn⟩:=h2;subst e;have JN:∀{H':Hp},(∀ b∈fp,H' b=none)->∀ b∈fp,fK X pins H' b:=λ hn b hb=>⟨hn b hb,(f2 b hb).2⟩;refine codeAny_forLoop_any (λ n s'=>∃ i ē H',Inv X pins ē H' s'/\tn i s'.heap/\(∀ b∈fp,H' b=none)/\W i n ē H') ?_ m0 ⟨0,σ,H2,I2,P2,λ b hb=>(f2 b hb).1,w0⟩;rintro n s3 ⟨i,Le,H3,I3,SH,Tu,w3⟩;rcases turn i n Le H3 w3 with⟨stop,qn⟩ | ⟨go,N,hN,step⟩
 ·refine Ķ hp (aW (T.done X rfl rfl rfl hc i pins s3 Le H3 X.xe I3 (JN Tu) SH stop) λ r s4 ⟨hr,I4⟩=>?_);subst hr;exact Ő ⟨Le,H3,I4,qn⟩
 ·refine Ķ hp (aW (T.item X rfl rfl rfl hc i pins s3 Le H3 X.xe I3 (JN Tu) SH go) λ r s4 ⟨u,hr,h4⟩=>?_);subst hr;refine Ķ hp (aW h4 λ _ s5 ⟨x,H5,I5,r5,y5,Nj,R4⟩=>?_);have R':=I5.pinned (JN R4) (T.obj _ _ Nj);refine Ķ hp (aW (hg _ s5 Le H5 x u _ R' r5 (step x H5 y5)) λ _ s6 ⟨Pz,H6,I6,q6⟩=>?_);refine Ķ hp (aW (hb _ s6 Pz H6 _ I6 q6) λ f s7 q7=>?_);have again:∀{Ld:St}{H7:Hp},Inv X (pins++kL fp s5.heap) Ld H7 s7->N Ld H7->∃ m,m<n/\∃ i ē H',Inv X pins ē H' s7/\tn i s7.heap/\(∀ b∈fp,H' b=none)/\W i m ē H':=λ {Ld H7} I7 n7=>by
   obtain⟨m',hm,w7⟩:=hN Ld H7 n7;refine⟨m',hm,i+1,Ld,H7,I7.Κ,T.keep _ _ _ Nj λ b hb o e=>(I7.pin (b,o) (í _ (í _ (eO hb e)))).1,λ b hb=>?_,w7⟩;obtain⟨o,e,d⟩:=T.obj _ _ Nj b hb;exact(I7.pin (b,o) (í _ (í _ (eO hb e)))).2.1
  cases f with
  | next=>obtain⟨Ld,H7,I7,n7⟩:=q7;exact again I7 n7
  | cont=>obtain⟨Ld,H7,I7,n7⟩:=q7;exact again I7 n7
  | brk=>obtain⟨Ld,H7,I7,q7⟩:=q7;exact⟨Ld,H7,I7.Κ,q7⟩
  | ret v=>obtain⟨x7,Ld,H7,I7,r7,q7⟩:=q7;exact⟨x7,Ld,H7,I7.Κ,r7,q7⟩
end
theorem lG {K:PySem.W.Frag}{a:Addr}{xs:List V}{g:TG}{tb:TS}{D:bT}{σ:St}{H:Hp}(Pv:Nat->St->Hp->Prop)(h0:Pv 0 σ H)(hl:∀ i σ H,i<=xs.length->Pv i σ H->ÿ K H a xs)
  (hs:∀ i x σ H,xs[i]?=some x->Pv i σ H->g x σ H λ Ļ H2=>tb { D with nx:=Pv (i+1),ct:=Pv (i+1),bk:=D.nx } Ļ H2) (hd:∀ σ H,Pv xs.length σ H->D.nx σ H) :
  ∃ W:Nat->Nat->St->Hp->Prop,(∃ m,W 0 m σ H)/\∀ i m σ H,W i m σ H ->
   ((qV K a).stop i H/\D.nx σ H)\/((qV K a).go i H/\∃ N:St->Hp->Prop,(∀ ē H',N ē H'->∃ m',m'<m/\W (i+1) m' ē H')/\∀ x H',(qV K a).JJ i H x H'->g x σ H' λ Ļ H2=>tb { D with nx:=N,ct:=N,bk:=D.nx } Ļ H2):=by
 refine⟨λ i m σ H=>m=xs.length-i/\i<=xs.length/\Pv i σ H,⟨xs.length,by simp,Nat.zero_le _,h0⟩,?_⟩
 rintro i m σ H ⟨rfl,hi,p⟩;have q:=hl i σ H hi p;by_cases Β:i<xs.length
 ·refine .inr ⟨⟨xs,xs[i],q,by simp [Β]⟩,Pv (i+1),λ ē H' p'=>⟨xs.length-(i+1),ae,rfl,Β,p'⟩,λ x H' y=>?_⟩
  obtain⟨e,y⟩:=y;subst e;exact hs i x σ _ (y xs q) p
 ·have e:i=xs.length:=ae;subst e;exact .inl ⟨⟨xs,q,Ç _⟩,hd σ H p⟩
theorem dw {lo:Int}{n:Nat}{g:TG}{tb:TS}{D:bT}{σ:St}{H:Hp}(Pv:Nat->St->Hp->Prop)(h0:Pv 0 σ H)
  (hs:∀ i σ H,i<n->Pv i σ H->g (.int (lo+i)) σ H λ Ļ H2=>tb { D with nx:=Pv (i+1),ct:=Pv (i+1),bk:=D.nx } Ļ H2) (hd:∀ σ H,Pv n σ H->D.nx σ H) :
  ∃ W:Nat->Nat->St->Hp->Prop,(∃ m,W 0 m σ H)/\∀ i m σ H,W i m σ H ->
   ((uJ lo n).stop i H/\D.nx σ H)\/((uJ lo n).go i H/\∃ N:St->Hp->Prop,(∀ ē H',N ē H'->∃ m',m'<m/\W (i+1) m' ē H')/\∀ x H',(uJ lo n).JJ i H x H'->g x σ H' λ Ļ H2=>tb { D with nx:=N,ct:=N,bk:=D.nx } Ļ H2):=by
 refine⟨λ i m σ H=>m=n-i/\i<=n/\Pv i σ H,⟨n,by simp,Nat.zero_le _,h0⟩,?_⟩
 rintro i m σ H ⟨rfl,hi,p⟩;by_cases Β:i<n
 ·refine .inr ⟨Β,Pv (i+1),λ ē H' p'=>⟨n-(i+1),ae,rfl,Β,p'⟩,λ x H' y=>?_⟩;obtain⟨e,y⟩:=y;subst e y;exact hs i σ _ Β p
 ·have e:i=n:=ae;subst e;exact .inl ⟨Ç _,hd σ H p⟩
theorem uf {c:TT}{tb:TS}{D:bT}{σ:St}{H:Hp}(Pv:St->Hp->Prop)(μ:St->Hp->Nat)(h0:Pv σ H)
  (hs:∀ σ H,Pv σ H->c σ H λ b H1=>if b=true then tb { D with nx:=λ ē H'=>Pv ē H'/\μ ē H' < μ σ H,ct:=λ ē H'=>Pv ē H'/\μ ē H' < μ σ H,bk:=D.nx } σ H1 else D.nx σ H1)
  (mono:∀ σ H Q Q',(∀ b H1,Q b H1->Q' b H1)->c σ H Q->c σ H Q'):rH c tb D σ H:=by
 refine⟨λ m σ H=>m = μ σ H/\Pv σ H,⟨_,rfl,h0⟩,?_⟩;rintro m σ H ⟨rfl,p⟩;refine mono σ H _ _ (λ b H1 q=>?_) (hs σ H p);cases b with
 | true=>exact⟨_,λ ē H' ⟨p',l⟩=>⟨_,l,rfl,p'⟩,q⟩
 | false=>exact q
abbrev R2:=V->V->Hp->VK->Prop
def gv (X:Cx)(f:Value->Value->Sem Value)(r:R2):Prop :=
 ∀(pins:List (Addr × Obj))(s:Shared)(σ:St)(H:Hp)(x y:V)(v u:Value)(Q:VK),Inv X pins σ H s->RelV x v->RelV y u->r x y H Q ->
  wpAny (model X.prog X.w) X.A (f v u) (EP X pins σ Q) X.xe s
def FR (X:Cx)(f:Value->Sem Value)(r:V->Hp->VK->Prop):Prop :=
 ∀(pins:List (Addr × Obj))(s:Shared)(σ:St)(H:Hp)(x:V)(v:Value)(Q:VK),Inv X pins σ H s->RelV x v->r x H Q ->
  wpAny (model X.prog X.w) X.A (f v) (EP X pins σ Q) X.xe s
def dh (X:Cx)(f:Value)(r:List V->Hp->VK->Prop):Prop :=
 ∀(pins:List (Addr × Obj))(s:Shared)(σ:St)(H:Hp)(xs:List V)(us:List Value)(Q:VK),Inv X pins σ H s->Vals xs us->r xs H Q ->
  wpAny (model X.prog X.w) X.A (call f us) (EP X pins σ Q) X.xe s
def aT (r:R2)(ta tb:TE):TE:=λ σ H Q=>ta σ H λ x H1=>tb σ H1 λ y H2=>r x y H2 Q
def Fh (r:V->Hp->VK->Prop)(ta:TE):TE:=λ σ H Q=>ta σ H λ x H1=>r x H1 Q
def rI (C:Int->Int->Prop)(g:Int->Int->V):R2:=λ x y H Q=>∃ i j,x=.int i/\y=.int j/\C i j/\Q (g i j) H
def fL (g:Int->Int->V):R2:=λ x y H Q=>∃ i j,x=.int i/\y=.int j/\Q (g i j) H
def rU (g:Int->V):V->Hp->VK->Prop:=λ x H Q=>∃ i,x=.int i/\Q (g i) H
section
variable {X:Cx}{a b c:Expr}{ta tb tc:TE}{pos:Pos}
theorem yO (ha:PE X a ta)(hb:PE X b tb){pins:List (Addr × Obj)}{s:Shared}{σ:St}{H:Hp}{R:V->V->Hp->Prop}(I:Inv X pins σ H s)
  (h:ta σ H λ x H1=>tb σ H1 λ y H2=>R x y H2) {Q:bz} {f:Value->Value->Sem Value}
  (hf:∀ v u s2 x y H2,Inv X pins σ H2 s2->RelV x v->RelV y u->R x y H2->wpAny (model X.prog X.w) X.A (f v u) Q X.xe s2) :
  wpAny (model X.prog X.w) X.A (eval a X.env) (λ v ü=>wpAny (model X.prog X.w) X.A (eval b X.env) (λ u Ų=>wpAny (model X.prog X.w) X.A (f v u) Q X.xe Ų) X.xe ü) X.xe s:=by
 refine aW (ha pins s σ H _ I h) λ v s1 ⟨x,H1,I1,r1,q1⟩=>?_;refine aW (hb pins s1 σ H1 _ I1 q1) λ u s2 ⟨y,H2,I2,r2,q2⟩=>?_;exact hf v u s2 x y H2 I2 r1 r2 q2
theorem af {op:Operator}{r:R2}(ho:gv X (binaryOp op) r)(ha:PE X a ta)(hb:PE X b tb):PE X (.BinOp a op b pos) (aT r ta tb):=by
 intro pins s σ H Q I h;exact wpAny_BinOp (yO ha hb I h λ v u s2 x y H2 I2 rx ry q=>ho pins s2 σ H2 x y v u Q I2 rx ry q)
theorem jx {op:UnaryOp}{r:V->Hp->VK->Prop}(ho:FR X (unaryOp op) r)(ha:PE X a ta):PE X (.UnaryOp op a pos) (Fh r ta):=by
 intro pins s σ H Q I h;exact UnaryOp_ (aW (ha pins s σ H _ I h) λ v s1 ⟨x,H1,I1,r1,q1⟩=>ho pins s1 σ H1 x v Q I1 r1 q1)
theorem xq {f:Value->Value->Sem Value}{C:Int->Int->Prop}{g:Int->Int->Int}
  (rule:∀(i j:Int)(t u:Tok)(s:Shared)(Q:bz)(E:bz),C i j->Q (.int (g i j) s.toks) { s with toks:=s.toks+1 }->wpAny (model X.prog X.w) X.A (f (.int i t) (.int j u)) Q E s) :
  gv X f (rI C λ i j=>.int (g i j)):=by
 intro pins s σ H x y v u Q I rx ry h;obtain⟨i,j,rfl,rfl,hc,q⟩:=h;obtain⟨t,rfl⟩:=rx;obtain⟨t',rfl⟩:=ry;exact rule i j t t' s _ _ hc ⟨.int (g i j),H,I.tok _,⟨_,rfl⟩,q⟩
theorem wl {f:Value->Value->Sem Value}{g:Int->Int->Int}
  (rule:∀(i j:Int)(t u:Tok)(s:Shared)(Q:bz)(E:bz),Q (.int (g i j) s.toks) { s with toks:=s.toks+1 }->wpAny (model X.prog X.w) X.A (f (.int i t) (.int j u)) Q E s) :
  gv X f (fL λ i j=>.int (g i j)):=by
 intro pins s σ H x y v u Q I rx ry h;obtain⟨i,j,rfl,rfl,q⟩:=h;obtain⟨t,rfl⟩:=rx;obtain⟨t',rfl⟩:=ry;exact rule i j t t' s _ _ ⟨.int (g i j),H,I.tok _,⟨_,rfl⟩,q⟩
theorem uU {f:Value->Value->Sem Value}{g:Int->Int->Bool}
  (rule:∀(i j:Int)(t u:Tok)(s:Shared)(Q:bz)(E:bz),Q (.bool (g i j)) s->wpAny (model X.prog X.w) X.A (f (.int i t) (.int j u)) Q E s) :
  gv X f (fL λ i j=>.bl (g i j)):=by
 intro pins s σ H x y v u Q I rx ry h;obtain⟨i,j,rfl,rfl,q⟩:=h;obtain⟨t,rfl⟩:=rx;obtain⟨t',rfl⟩:=ry;exact rule i j t t' s _ _ ⟨.bl (g i j),H,I,rfl,q⟩
def Em (i j:Int):Prop:=0<j/\j<1073741824
def vG (i j:Int):Prop:=0<=j/\j<=1000000/\i.natAbs<2^64
def p_ (i j:Int):Prop:=(-(2^64)<i/\i<2^64)\/(-(2^64)<j/\j<2^64)
theorem p_.ok {i j:Int}(h:p_ i j):IntMulOk i j:=by
 rcases h with⟨h1,h2⟩ | ⟨h1,h2⟩
 ·exact .of_left (intBits_le_64 h1 h2)
 ·exact .of_right (intBits_le_64 h1 h2)
theorem nW (k:Nat):(0:Int)<=2^k:=by
 rw [two_pow_cast];exact Int.natCast_nonneg _
theorem aM:gv X (binaryOp .Add) (fL λ i j=>.int (i+j)):=wl λ _ _ _ _ _ _ _ q=>add_int q
theorem bK:gv X (binaryOp .Sub) (fL λ i j=>.int (i-j)):=wl λ _ _ _ _ _ _ _ q=>sub_int q
theorem bp:gv X (binaryOp .Mult) (rI p_ λ i j=>.int (i*j)):=xq λ _ _ _ _ _ _ _ hc q=>mul_int q hc.ok
theorem jZ:gv X (binaryOp .FloorDiv) (rI Em λ i j=>.int (i/j)):=xq λ i j _ _ _ _ _ hc q=>by
 have h1:(0:Int)<j:=hc.1;have h2:j<1073741824:=hc.2;exact floordiv_int ae (by rw [Ů i ae];exact q) (.inl (PyProof.noPylong_small ae))
theorem fA:gv X (binaryOp .Mod) (rI (λ _ j=>0<j) λ i j=>.int (i%j)):=xq λ i j _ _ _ _ _ hc q=>by
 have h1:(0:Int)<j:=hc;exact mod_int' ae (by rw [Int.fmod_eq_emod_of_nonneg i ae];exact q)
theorem rX:gv X (binaryOp .Pow) (rI vG λ i j=>.int (i^j.toNat)):=xq λ _ _ _ _ _ _ _ hc q=>pow_int_small hc.1 hc.2.1 hc.2.2 q
theorem ft:gv X (binaryOp .LShift) (rI vG λ i j=>.int (i*2^j.toNat)):=xq λ _ _ _ _ _ _ _ hc q=>lshift_int_small hc.1 hc.2.1 hc.2.2 q
theorem A7:gv X (binaryOp .RShift) (rI (λ _ j=>0<=j) λ i j=>.int (i/2^j.toNat)):=xq λ i j _ _ _ _ _ hc q =>
 rshift_int hc (by rw [Ů i (nW _)];exact q)
theorem yR:gv X (binaryOp .BitAnd) (fL λ i j=>.int (Builtin.bitAnd i j)):=wl λ _ _ _ _ _ _ _ q=>and_int q
theorem tJ:gv X (binaryOp .BitXor) (fL λ i j=>.int (Builtin.bitXor i j)):=wl λ _ _ _ _ _ _ _ q=>xor_int q
theorem ID {f:Value->Sem Value}{g:Int->Int}
  (rule:∀(i:Int)(t:Tok)(s:Shared)(Q:bz)(E:bz),Q (.int (g i) s.toks) { s with toks:=s.toks+1 }->wpAny (model X.prog X.w) X.A (f (.int i t)) Q E s) :
  FR X f (rU λ i=>.int (g i)):=by
 intro pins s σ H x v Q I rx h;obtain⟨i,rfl,q⟩:=h;obtain⟨t,rfl⟩:=rx;exact rule i t s _ _ ⟨.int (g i),H,I.tok _,⟨_,rfl⟩,q⟩
theorem gR:FR X (unaryOp .USub) (rU λ i=>.int (-i)):=ID λ _ _ _ _ _ q=>neg_int q
end
def Di:V->V->Bool
 | .ô,.ô=>true | .ô,.int _=>true | .int _,.ô=>true | .ô,.bl _=>true | .bl _,.ô=>true | .ô,.str _=>true | .str _,.ô=>true
 | .int _,.int _=>true | .bl _,.bl _=>true | .str _,.str _=>true | .K0 _,.K0 _=>true
 | .int _,.str _=>true | .str _,.int _=>true | .bl _,.str _=>true | .str _,.bl _=>true
 | _,_=>false
def qQ:R2:=λ x y H Q=>Di x y=true/\Q (.bl (decide (x=y))) H
def Fv:R2:=λ x y H Q=>Di x y=true/\Q (.bl (!decide (x=y))) H
theorem oW {i j:Int}:decide (V.int i=V.int j)=(i==j):=by
 rw [Ł];simp
theorem tH {i j:Bool}:decide (V.bl i=V.bl j)=(i==j):=by
 rw [Ł];simp
theorem oO {i j:Str}:decide (V.str i=V.str j)=(i==j):=by
 rw [Ł];simp
theorem oQ {i j:Array UInt8}:decide (V.K0 i=V.K0 j)=(i.toList==j.toList):=by
 rw [Ł];cases i;cases j;simp
section
variable {X:Cx}{a b c:Expr}{ta tb tc:TE}{pos:Pos}
theorem aN {pins:List (Addr × Obj)}{σ:St}{H:Hp}{s:Shared}{Q:VK}{k k':Bool}(I:Inv X pins σ H s)(q:Q (.bl k) H)(e:k=k'):EP X pins σ Q (.bool k') s:=by
 subst e;exact⟨.bl k,H,I,rfl,q⟩
theorem bu:gv X (compareOp .Eq) qQ:=by
 intro pins s σ H x y v u Q I rx ry h;obtain⟨hs,q⟩:=h;cases x with
 | ô =>
  cases rx;cases y with
  | ô=>cases ry;exact PySem.EqNone.eq_none_none (aN I q (by simp))
  | bl j=>cases ry;exact PySem.EqNone.eq_none_bool (aN I q (by simp))
  | int j=>obtain⟨t',rfl⟩:=ry;exact PySem.EqNone.eq_none_int (aN I q (by simp))
  | str j=>obtain⟨t',rfl⟩:=ry;exact PySem.EqNone.eq_none_str (aN I q (by simp))
  | _=>exact absurd (show false=true from hs) Ê
 | bl i =>
  cases rx;cases y with
  | ô=>cases ry;exact PySem.EqNone.eq_bool_none (aN I q (by simp))
  | bl j=>cases ry;exact eq_bool (aN I q tH)
  | str j=>obtain⟨t',rfl⟩:=ry;exact PySem.EqMixed.eq_bool_str (aN I q (by simp))
  | _=>exact absurd (show false=true from hs) Ê
 | int i =>
  obtain⟨t,rfl⟩:=rx;cases y with
  | ô=>cases ry;exact PySem.EqNone.eq_int_none (aN I q (by simp))
  | int j=>obtain⟨t',rfl⟩:=ry;exact eq_int (aN I q oW)
  | str j=>obtain⟨t',rfl⟩:=ry;exact PySem.EqMixed.eq_int_str (aN I q (by simp))
  | _=>exact absurd (show false=true from hs) Ê
 | str i =>
  obtain⟨t,rfl⟩:=rx;cases y with
  | ô=>cases ry;exact PySem.EqNone.eq_str_none (aN I q (by simp))
  | bl j=>cases ry;exact PySem.EqMixed.eq_str_bool (aN I q (by simp))
  | int j=>obtain⟨t',rfl⟩:=ry;exact PySem.EqMixed.eq_str_int (aN I q (by simp))
  | str j=>obtain⟨t',rfl⟩:=ry;exact eq_str (aN I q oO)
  | _=>exact absurd (show false=true from hs) Ê
 | K0 i =>
  obtain⟨t,rfl⟩:=rx;cases y with
  | K0 j=>obtain⟨t',rfl⟩:=ry;exact PySem.W.eq_bytes (aN I q oQ)
  | _=>exact absurd (show false=true from hs) Ê
 | _=>cases y <;> exact absurd (show false=true from hs) Ê
theorem hX:gv X (compareOp .NotEq) Fv:=by
 intro pins s σ H x y v u Q I rx ry h;obtain⟨hs,q⟩:=h;cases x with
 | ô =>
  cases rx;cases y with
  | ô=>cases ry;exact PySem.EqNone.ne_none_none (aN I q (by simp))
  | bl j=>cases ry;exact PySem.EqNone.ne_none_bool (aN I q (by simp))
  | int j=>obtain⟨t',rfl⟩:=ry;exact PySem.EqNone.ne_none_int (aN I q (by simp))
  | str j=>obtain⟨t',rfl⟩:=ry;exact PySem.EqNone.ne_none_str (aN I q (by simp))
  | _=>exact absurd (show false=true from hs) Ê
 | bl i =>
  cases rx;cases y with
  | ô=>cases ry;exact PySem.EqNone.ne_bool_none (aN I q (by simp))
  | bl j=>cases ry;exact ne_bool (aN I q (ĭ not tH))
  | str j=>obtain⟨t',rfl⟩:=ry;exact PySem.EqMixed.ne_bool_str (aN I q (by simp))
  | _=>exact absurd (show false=true from hs) Ê
 | int i =>
  obtain⟨t,rfl⟩:=rx;cases y with
  | ô=>cases ry;exact PySem.EqNone.ne_int_none (aN I q (by simp))
  | int j=>obtain⟨t',rfl⟩:=ry;exact ne_int (aN I q (ĭ not oW))
  | str j=>obtain⟨t',rfl⟩:=ry;exact PySem.EqMixed.ne_int_str (aN I q (by simp))
  | _=>exact absurd (show false=true from hs) Ê
 | str i =>
  obtain⟨t,rfl⟩:=rx;cases y with
  | ô=>cases ry;exact PySem.EqNone.ne_str_none (aN I q (by simp))
  | bl j=>cases ry;exact PySem.EqMixed.ne_str_bool (aN I q (by simp))
  | int j=>obtain⟨t',rfl⟩:=ry;exact PySem.EqMixed.ne_str_int (aN I q (by simp))
  | str j=>obtain⟨t',rfl⟩:=ry;exact ne_str (aN I q (ĭ not oO))
  | _=>exact absurd (show false=true from hs) Ê
 | K0 i =>
  obtain⟨t,rfl⟩:=rx;cases y with
  | K0 j=>obtain⟨t',rfl⟩:=ry;exact PySem.W.ne_bytes (aN I q (ĭ not oQ))
  | _=>exact absurd (show false=true from hs) Ê
 | _=>cases y <;> exact absurd (show false=true from hs) Ê
theorem ut:gv X (compareOp .Lt) (fL λ i j=>.bl (decide (i<j))):=uU λ _ _ _ _ _ _ _ q=>lt_int q
theorem lu:gv X (compareOp .LtE) (fL λ i j=>.bl (decide (i<=j))):=uU λ _ _ _ _ _ _ _ q=>le_int q
theorem lO:gv X (compareOp .Gt) (fL λ i j=>.bl (decide (j<i))):=uU λ _ _ _ _ _ _ _ q=>gt_int q
theorem rZ:gv X (compareOp .GtE) (fL λ i j=>.bl (decide (j<=i))):=uU λ _ _ _ _ _ _ _ q=>ge_int q
theorem av (b:Expr){op:CmpOp}(h:op ≠ .In:=by decide)(h2:op ≠ .NotIn:=by decide):behindInMarks op b=false:=by
 have e1:(op==CmpOp.In)=false:=by cases op <;> first | rfl | exact absurd rfl h
 have e2:(op==CmpOp.NotIn)=false:=by cases op <;> first | rfl | exact absurd rfl h2
 cases b <;> simp [behindInMarks,e1,e2]
theorem bX {op:CmpOp}{r:R2}(ho:gv X (compareOp op) r)(ha:PE X a ta)(hb:PE X b tb)(hm:behindInMarks op b=false):PE X (.Compare a [op] [b] pos) (aT r ta tb):=by
 intro pins s σ H Q I h;exact wpAny_Compare1 (yO ha hb I h λ v u s2 x y H2 I2 rx ry q=>ho pins s2 σ H2 x y v u Q I2 rx ry q) hm
def Ea (t:TE):TT:=λ σ H Q=>t σ H λ x H'=>∃ k,x=.bl k/\Q k H'
theorem ar {op:CmpOp}{r:R2}(ho:gv X (compareOp op) r)(ha:PE X a ta)(hb:PE X b tb)(hm:behindInMarks op b=false):PT X (.Compare a [op] [b] pos) (Ea (aT r ta tb)):=by
 intro pins s σ H Q I h;refine wpAny_isTrue_Compare1 (aW (ha pins s σ H _ I h) λ v s1 ⟨x,H1,I1,r1,q1⟩=>aW (hb pins s1 σ H1 _ I1 q1) λ u s2 ⟨y,H2,I2,r2,q2⟩ =>
  aW (ho pins s2 σ H2 x y v u _ I2 r1 r2 q2) λ c s3 ⟨z,H3,I3,r3,k,e,q3⟩=>?_) hm
 subst e;cases r3;exact ě ⟨H3,I3,q3⟩
def zM (r r':R2)(ta tb tc:TE):TE:=λ σ H Q=>ta σ H λ x H1=>tb σ H1 λ y H2=>r x y H2 λ z H3=>∃ k,z=.bl k /\
 (if k=true then tc σ H3 λ w' H4=>r' y w' H4 Q else Q (.bl false) H3)
theorem sP {op QM:CmpOp}{r r':R2}(ho:gv X (compareOp op) r)(Md:gv X (compareOp QM) r')(ha:PE X a ta)(hb:PE X b tb)(hc:PE X c tc)
  (hm:lastMarks [op,QM] [b,c]=false:=by with_unfolding_all rfl):PE X (.Compare a [op,QM] [b,c] pos) (zM r r' ta tb tc):=by
 intro pins s σ H Q I h;refine Compare_chain (aW (ha pins s σ H _ I h) λ v s1 ⟨x,H1,I1,r1,q1⟩=>chain_link (aW (hb pins s1 σ H1 _ I1 q1) λ u s2 ⟨y,H2,I2,r2,q2⟩ =>
  aW (ho pins s2 σ H2 x y v u _ I2 r1 r2 q2) λ d s3 ⟨z,H3,I3,r3,k,e,q3⟩=>?_)) hm
 subst e;cases r3;refine ě ?_;cases k with
 | false=>exact ite_ff ⟨.bl false,H3,I3,rfl,q3⟩
 | true=>exact ite_tt (chain_last (aW (hc pins s3 σ H3 _ I3 q3) λ w' s4 ⟨z',H4,I4,r4,q4⟩=>Md pins s4 σ H4 y z' u w' Q I4 r2 r4 q4))
theorem kK:(sizeLine:Nat)<2^63:=by rw [Ø];decide
theorem dH {x:V}{us:List Value}(r:Vals [x] us):∃ u,us=[u]/\RelV x u:=by
 cases r with
 | cons r1 r2=>cases r2;exact⟨_,rfl,r1⟩
theorem mJ {x y:V}{us:List Value}(r:Vals [x,y] us):∃ u w',us=[u,w']/\RelV x u/\RelV y w':=by
 cases r with
 | cons r1 r2 =>
  cases r2 with
  | cons r3 r4=>cases r4;exact⟨_,_,rfl,r1,r3⟩
theorem qv (hc:X.calm=true):dh X (.builtin "max") (λ xs H Q=>∃ i j,xs=[.int i,.int j]/\Q (.int (if j>i then j else i)) H):=by
 intro pins s σ H xs us Q I r h;obtain⟨i,j,rfl,q⟩:=h;obtain⟨u,w',rfl,⟨t,rfl⟩,⟨t',rfl⟩⟩:=mJ r;refine max_two_ints (I.ok.hd hc) λ h' tk k=>⟨_,H,I.kept k,?_,q⟩;by_cases hj:j>i
 ·rw [Ï hj,Ï hj];exact⟨_,rfl⟩
 ·rw [Ì hj,Ì hj];exact⟨_,rfl⟩
theorem qf (hc:X.calm=true):dh X (.builtin "min") (λ xs H Q=>∃ i j,xs=[.int i,.int j]/\Q (.int (if j<i then j else i)) H):=by
 intro pins s σ H xs us Q I r h;obtain⟨i,j,rfl,q⟩:=h;obtain⟨u,w',rfl,⟨t,rfl⟩,⟨t',rfl⟩⟩:=mJ r;refine min_two_ints (I.ok.hd hc) λ h' tk k=>⟨_,H,I.kept k,?_,q⟩;by_cases hj:j<i
 ·rw [Ï hj,Ï hj];exact⟨_,rfl⟩
 ·rw [Ì hj,Ì hj];exact⟨_,rfl⟩
theorem gT:dh X (.type "int") (λ xs H Q=>(∃ i,xs=[.int i]/\Q (.int i) H)\/∃ k,xs=[.bl k]/\Q (.int (if k then 1 else 0)) H):=by
 intro pins s σ H xs us Q I r h;rcases h with⟨i,rfl,q⟩ | ⟨k,rfl,q⟩
 ·obtain⟨u,rfl,t,rfl⟩:=dH r;exact call_int_int ⟨.int i,H,I,⟨_,rfl⟩,q⟩
 ·obtain⟨u,rfl,r1⟩:=dH r;cases r1;exact call_int_bool ⟨.int (if k then 1 else 0),H,I.tok _,⟨_,rfl⟩,q⟩
end
structure J6 (h:Heap)(x dx C:Addr)(mA:aX):Prop where
 obj:h.get? x=some (PySem.W.instObj C dx)
 ns:h.Ns1 dx mA
 ne:dx≠x
theorem gW {h:Heap}{dx:Addr}{mA:aX}(n:h.Ns1 dx mA):∃ od,h.get? dx=some od/\∀ name,PySem.W.lookIn name od=some (mA name):=by
 obtain⟨o,es,ep,ho,hd,hk,_,hm⟩:=n;refine⟨o,ho,λ name=>?_⟩;have e:=hm name;unfold nsFind findBy at e;rw [<- Array.find?_toList] at e;unfold PySem.W.lookIn;rw [hd]
 dsimp only
 split
 ·rename_i y q
  rw [q] at e;exact ĭ some e
 ·rename_i q
  rw [q] at e;have a:es.toList.any (·.refKey)=false:=by
   rw [List.any_eq_false];intro y hy;obtain⟨z,t,RI⟩:=hk y (Array.mem_toList_iff.mp hy);simp [DictEntry.refKey,RI]
  have a':¬ es.toList.any (·.refKey)=true:=by rw [a];exact Ê
  rw [Ì a'];exact ĭ some e
theorem J6.look {h:Heap}{x dx C:Addr}{mA:aX}(I:J6 h x dx C mA):∃ od,PySem.W.InstAt h x (PySem.W.instObj C dx) C (some od)/\∀ name,PySem.W.lookIn name od=some (mA name) :=
 let ⟨od,ho,hl⟩:=gW I.ns
 ⟨od,⟨I.obj,rfl,rfl,ho⟩,hl⟩
section
variable {prog:Program}{w:World}{A:Around}{E:bz}{s:Shared}{K:PySem.W.Frag}{x dx C f:Addr}{mA:aX}{name:Str}{v:Value}
theorem uV {expr:Bool}{Q:bz}(X:K.In s.heap)(I:J6 s.heap x dx C mA)(hg:PySem.W.plainGet K C name=true)(hh:PySem.W.hasDictIn K C=true)
  (ha:PySem.W.findIn K (.ref C) name=some none) (hv:mA name=some v) (O5:PySem.W.handedIn v=true) (h:Q v { s with toks:=s.toks+1 }) :
  wpAny (model prog w) A (getAttr (.ref x) name expr) Q E s:=by
 obtain⟨od,J,hl⟩:=I.look;exact PySem.W.get_value X J (q_ hg).1 (PySem.W.findObj_own hh ha rfl (by rw [hl,hv])) O5 h
theorem tU {pl:Sem Bool}{Q:Value × List Value->Shared->Prop}(X:K.In s.heap)(I:J6 s.heap x dx C mA)(hg:PySem.W.plainGet K C name=true)
  (hf:PySem.W.findIn K (.ref C) name=some (some (.ref f))) (ht:PySem.W.isFn K (.ref f)=true) (hv:mA name=none) (h:Q (.ref f,[.ref x]) s) :
  wpAny (model prog w) A (getMethod (.ref x) name pl) Q E s:=by
 obtain⟨od,J,hl⟩:=I.look;exact PySem.W.method_fn X J (q_ hg).1 (q_ hg).2 hf (Ą.mp ht) (by show(PySem.W.lookIn name od).map (·.isSome)=some false;rw [hl,hv];rfl) h
theorem vN {ns:List Str}{Q:Unit->Shared->Prop}(X:K.In s.heap)(I:J6 s.heap x dx C mA)
  (hs:PySem.W.findIn K (.ref C) "__setattr__" = some (some (.builtin "object.__setattr__"))) (hp:PySem.W.plainOver K C=true) (ht:PySem.W.takerIn K C name=some none) (hh:PySem.W.hasDictIn K C=true)
  (hw:PySem.Within mA ns) (Xl:ns.length<=sizeLine)
  (h:∀ h',J6 h' x dx C (λ y=>if y=name then some v else mA y)->Heap.SameBut dx s.heap h'->Q () { s with heap:=h',toks:=s.toks+2 }) :
  wpAny (model prog w) A (setAttr (.ref x) name v) Q E s:=by
 obtain⟨od,J,hl⟩:=I.look;refine PySem.W.set_plain X J hs (PySem.W.osa_open (s:={ s with toks:=s.toks+1 }) (r:=none) X J hp ht λ b=>?_)
 obtain⟨cd,hc,RV⟩:=PySem.W.any_some hh;have hx:s.heap.get? x=some ⟨.ref C,some dx,.plain,#[]⟩:=I.obj;refine À (Ã (À (À (Γ hx (À (PySem.W.Looks.here (s:={ s with toks:=s.toks+1 }) (PySem.W.looks_clsIn X hc) ?_))))))
 rw [RV];refine Ã (a:=some dx) (À (Ã (À ?_)));refine wpAny_nsSet1 (s:={ s with toks:=s.toks+1 }) I.ns λ h' Qi Ta=>?_
 obtain⟨oD,YS,YT,Ny,Pf,Lz⟩:=Qi.count (PySem.Within.cons name v hw);refine À (wpAny_lookBehind Ny (by rw [Pf];exact pastItsLine_dict (Ô Lz (by rw [å];omega))) ?_)
 exact Ã (h _ ⟨(Ta.2 _ (Ne.symm I.ne)).trans I.obj,Qi,I.ne⟩ Ta)
theorem lp {R:Result->Shared->Prop}{vs:List Value}{kw:List (Str × Value)}(X:K.In s.heap)(hm:PySem.W.makesIn K C=true)
  (hi:PySem.W.findIn K (.ref C) "__init__" = some (some (.ref f))) (hf:PySem.W.typeIn K (.ref f)=some (.type "function"))
  (h:codeAny (model prog w) (A.under (.builtin "type.__call__" ⟨.ref C::vs,kw⟩)) (.call (.ref f) ⟨.ref (s.heap.objs.size+1)::vs,kw⟩) (PySem.W.InitBack (s.heap.objs.size+1) R)
   { s with heap:=(s.heap.push PySem.W.emptyDict).push (PySem.W.instObj C s.heap.objs.size) }) :
  codeAny (model prog w) A (.call (.ref C) ⟨vs,kw⟩) R s:=by
 obtain⟨hh,g,d,t,os⟩:=s;exact PySem.W.make_core (PySem.W.makes_of X hm) (PySem.W.looks_findIn X hi) (λ self=>PySem.W.bind_fn X self hf) (.inl rfl) h
end
def aO (f:Str)(v:V):List (Str × V)->List (Str × V)
 | []=>[(f,v)]
 | (g,x)::r=>if g=f then(g,v)::r else(g,x)::aO f v r
theorem fB (f g:Str)(v:V):∀ fs:List (Str × V),(aO f v fs).lookup g=if g=f then some v else fs.lookup g
 | []=>by
  show List.lookup g [(f,v)]=_;by_cases h:g=f
  ·have hb:(g==f)=true:=Ą.mpr h;simp only [List.lookup,hb,if_pos h]
  ·have hb:(g==f)=false:=Þ.mpr h;simp only [List.lookup,hb,if_neg h]
 | (k,x)::r=>by
  have ih:=fB f g v r;rw [show aO f v ((k,x)::r)=(if k=f then(k,v)::r else(k,x)::aO f v r) from rfl]
  by_cases hk:k=f
  ·rw [Ï hk];by_cases h:g=k
   ·have hb:(g==k)=true:=Ą.mpr h;simp only [List.lookup,hb,if_pos (h.trans hk)]
   ·have hb:(g==k)=false:=Þ.mpr h;simp only [List.lookup,hb,if_neg (λ e:g=f=>h (e.trans hk.symm))]
  ·rw [Ì hk];by_cases h:g=k
   ·have hb:(g==k)=true:=Ą.mpr h;simp only [List.lookup,hb,if_neg (λ e:g=f=>hk (h.symm.trans e))]
   ·have hb:(g==k)=false:=Þ.mpr h;simp only [List.lookup,hb];exact ih
theorem gO (f:Str)(v:V):∀ fs:List (Str × V),f∈(aO f v fs).map (·.1)/\∀ g,g∈fs.map (·.1)->g∈(aO f v fs).map (·.1)
 | []=>⟨by simp [aO],λ g h=>by simp at h⟩
 | (k,x)::r=>by
  obtain⟨i1,i2⟩:=gO f v r;rw [show aO f v ((k,x)::r)=(if k=f then(k,v)::r else(k,x)::aO f v r) from rfl]
  by_cases hk:k=f
  ·rw [Ï hk];subst hk;exact⟨by simp,λ g h=>by simpa using h⟩
  ·rw [Ì hk];refine⟨?_,λ g h=>?_⟩
   ·rw [Ė];exact ä _ i1
   ·rw [Ė] at h ⊢;rcases ß.mp h with e | e
    ·exact ß.mpr (.inl e)
    ·exact ä _ (i2 g e)
theorem hV (f:Str)(v:V):∀ fs:List (Str × V),(aO f v fs).length<=fs.length+1
 | []=>by simp [aO]
 | (k,x)::r=>by
  have ih:=hV f v r;rw [show aO f v ((k,x)::r)=(if k=f then(k,v)::r else(k,x)::aO f v r) from rfl]
  by_cases hk:k=f
  ·rw [Ï hk,å,å];omega
  ·rw [Ì hk,å,å];omega
theorem Ţ.some_of {v:V}{o:Option Value}(r:Ţ (some v) o):∃ u,o=some u/\RelV v u:=by
 cases o with
 | none=>exact(show False from r).elim
 | some u=>exact⟨u,rfl,r⟩
theorem Ţ.none_of {o:Option Value}(r:Ţ none o):o=none:=by
 cases o with
 | none=>rfl
 | some u=>exact(show False from r).elim
theorem jK {v:V}{u:Value}(r:RelV v u):PySem.W.handedIn u=true:=by
 cases v with
 | ô=>cases (show u=Value.none from r);rfl
 | bl b=>cases (show u=Value.bool b from r);rfl
 | int i=>obtain⟨t,e⟩:=(show ∃ t,u=Value.int i t from r);cases e;rfl
 | str x=>obtain⟨t,e⟩:=(show ∃ t,u=Value.str x t from r);cases e;rfl
 | K0 b=>obtain⟨t,e⟩:=(show ∃ t,u=Value.bytes b t from r);cases e;rfl
 | LQ b=>obtain⟨t,e⟩:=(show ∃ t,u=Value.float b t from r);cases e;rfl
 | ref a=>cases (show u=Value.ref a from r);rfl
 | ty n=>cases (show u=Value.type n from r);rfl
section
variable {P:Program}{w:World}{H H':Hp}{h h':Heap}{a C dx:Addr}{fs YF:List (Str × V)}
theorem ir (þ:ţ P w H h)(e:H a=some (.ins C dx fs)):∃ mA,J6 h a dx C mA/\(∀ f,Ţ (fs.lookup f) (mA f))/\PySem.Within mA (fs.map (·.1))/\fs.length<=1000/\H dx=some (.own a):=by
 obtain⟨d,z,ne,ob,mA,n,r,q⟩:=(show ñ P w H h a (.ins C dx fs) from þ a _ e);exact⟨mA,⟨ob,n,ne⟩,r,q,z,d⟩
end
structure K4 (K:PySem.W.Frag)(C:Addr):Prop where
 pg:PySem.W.plainGet K C Str.empty=true
 hd:PySem.W.hasDictIn K C=true
 po:PySem.W.plainOver K C=true
 sa:PySem.W.findIn K (.ref C) "__setattr__" = some (some (.builtin "object.__setattr__"))
theorem K4.get {K:PySem.W.Frag}{C:Addr}(c:K4 K C)(f:Str):PySem.W.plainGet K C f=true:=c.pg
def ř (K:PySem.W.Frag)(C:Addr)(f:Str):Prop:=PySem.W.findIn K (.ref C) f=some none
theorem ř.N9 {K:PySem.W.Frag}{C:Addr}{f:Str}(n:ř K C f):PySem.W.takerIn K C f=some none:=by
 unfold PySem.W.takerIn;rw [show PySem.W.findIn K (.ref C) f=some none from n];rfl
structure DV (K:PySem.W.Frag)(C:Addr)(m:Str)(f:Addr):Prop where
 at_:PySem.W.findIn K (.ref C) m=some (some (.ref f))
 fn:PySem.W.isFn K (.ref f)=true
 kp:PySem.W.keepIn K (.ref f)=true
section
variable {X:Cx}{pins:List (Addr × Obj)}{σ:St}{H:Hp}{s:Shared}{a C dx:Addr}{fs:List (Str × V)}{f:Str}{v:V}{A:Around}{E:bz}
theorem nG {b:Bool}{Q:bz}(I:Inv X pins σ H s)(e:H a=some (.ins C dx fs))(c:K4 X.K C)(n:ř X.K C f)(l:fs.lookup f=some v)
  (h:∀ u s',Inv X pins σ H s'->RelV v u->Q u s'):wpAny (model X.prog X.w) A (getAttr (.ref a) f b) Q E s:=by
 obtain⟨mA,O,r,_,_,_⟩:=ir I.þ e;obtain⟨u,hu,ru⟩:=Ţ.some_of (v:=v) (o:=mA f) (by rw [<- l];exact r f)
 exact uV I.Ņ O (c.get f) c.hd n hu (jK ru) (h u _ (I.tok _) ru)
theorem iU {m:Str}{g:Addr}{pl:Sem Bool}{Q:Value × List Value->Shared->Prop}(I:Inv X pins σ H s)(e:H a=some (.ins C dx fs))(c:K4 X.K C)(k:DV X.K C m g)(l:fs.lookup m=none)
  (h:Q (.ref g,[.ref a]) s):wpAny (model X.prog X.w) A (getMethod (.ref a) m pl) Q E s:=by
 obtain⟨mA,O,r,_,_,_⟩:=ir I.þ e;have hn:mA m=none:=Ţ.none_of (by rw [<- l];exact r m)
 exact tU I.Ņ O (c.get m) k.at_ k.fn hn h
theorem nR {y:V}{u:Value}{Q:Unit->Shared->Prop}(I:Inv X pins σ H s)(e:H a=some (.ins C dx fs))(c:K4 X.K C)(n:ř X.K C f)(hl:fs.length<1000)(ry:RelV y u)
  (h:∀ s',Inv X pins σ (aj H a (.ins C dx (aO f y fs))) s'->Q () s'):wpAny (model X.prog X.w) A (setAttr (.ref a) f u) Q E s:=by
 obtain⟨mA,O,r,wi,_,ho⟩:=ir I.þ e;have hz:(fs.map (·.1)).length<=sizeLine:=by rw [Æ,Ø];omega
 refine vN I.Ņ O c.sa c.po n.N9 c.hd wi hz λ h' O' sb=>h _ ?_;have hd:∃ o,h'.get? dx=some o:=let ⟨o,_,_,e',_⟩:=O'.ns;⟨o,e'⟩
 refine I.write (x:=a) (e:=dx) (by rw [e];exact True.intro) (.inr ho) (λ b q hb z=>(sb.2 b hb).trans z) hd ?_
 refine⟨by rw [ah O.ne];exact ho,?_,O.ne,O'.obj,_,O'.ns,λ g=>?_,λ g hg=>?_⟩
 ·have:=hV f y fs;omega
 ·show Ţ ((aO f y fs).lookup g) (if g=f then some u else mA g)
  rw [fB];by_cases q:g=f
  ·rw [Ï q,Ï q];exact ry
  ·rw [Ì q,Ì q];exact r g
 ·by_cases q:g=f
  ·rw [q];exact(gO f y fs).1
  ·refine(gO f y fs).2 g (wi g λ z=>hg ?_);show(if g=f then some u else mA g)=none
   rw [Ì q];exact z
theorem Inv.made (I:Inv X pins σ H s):Inv X pins σ (aj (aj H s.heap.objs.size (.own (s.heap.objs.size+1))) (s.heap.objs.size+1) (.ins C s.heap.objs.size []))
  { s with heap:=(s.heap.push PySem.W.emptyDict).push (PySem.W.instObj C s.heap.objs.size) }:=by
 have e1:(s.heap.push PySem.W.emptyDict).get? s.heap.objs.size=some PySem.W.emptyDict:=Ë s.heap rfl;have e2:((s.heap.push PySem.W.emptyDict).push (PySem.W.instObj C s.heap.objs.size)).get? (s.heap.objs.size+1)=some (PySem.W.instObj C s.heap.objs.size):=by
  have:=Ë (s.heap.push PySem.W.emptyDict) (o:=PySem.W.instObj C s.heap.objs.size) rfl
  rwa [ì] at this
 have e3:(s.heap.push PySem.W.emptyDict).Ns s.heap.objs.size (λ _=>none):=⟨PySem.W.emptyDict,#[],_,e1,rfl,(λ e he=>absurd he (by simp)),λ _=>rfl⟩
 have I1:=I.laid (a:=s.heap.objs.size) (o:=.own (s.heap.objs.size+1)) (h':=s.heap.push PySem.W.emptyDict) (t':=s.toks) (λ b u q=>Â _ q) (Ç _) ⟨_,e1⟩;refine I1.laid (a:=s.heap.objs.size+1) (o:=.ins C s.heap.objs.size []) (t':=s.toks) (λ b u q=>Â _ q) (Χ (ì _ _)) ?_;have ne:s.heap.objs.size≠s.heap.objs.size+1:=Ñ (JF _);refine⟨by rw [ah ne,aQ],Ź _,ne,e2,λ _=>none,(Heap.Ns1.of_empty e3).at λ o q=>Â _ q,λ _=>True.intro,λ y hy=>absurd rfl hy⟩
theorem oU {prog:Program}{w:World}{env:Env}{e:Expr}{f:Str}{pos:Pos}{s:Shared}{Q:bz}(hb:attributeBase e f env (eval e env)=eval e env)
  (h:wpAny (model prog w) A (eval e env) (λ o ü=>wpAny (model prog w) A (getAttr o f true) Q E ü) E s):wpAny (model prog w) A (eval (.Attribute e f pos) env) Q E s :=
 Attribute_any_ h (by rw [arm_eval_Attribute,hb])
end
def kM (K:PySem.W.Frag)(ta:TE)(f:Str):TE:=λ σ H Q=>ta σ H λ x H1=>∃ a C dx fs v,x=.ref a/\H1 a=some (.ins C dx fs)/\K4 K C/\ř K C f/\fs.lookup f=some v/\Q v H1
def BN (K:PySem.W.Frag)(ta tv:TE)(f:Str):TS:=λ D σ H=>tv σ H λ y H1=>ta σ H1 λ x H2=>∃ a C dx fs,x=.ref a/\H2 a=some (.ins C dx fs)/\K4 K C/\ř K C f/\fs.length<1000 /\
 D.nx σ (aj H2 a (.ins C dx (aO f y fs)))
section
variable {X:Cx}{o e value:Expr}{f:Str}{pos pos' QD:Pos}{ta tv:TE}
theorem uD (he:PE X e ta)(hb:attributeBase e f X.env (eval e X.env)=eval e X.env):PE X (.Attribute e f pos) (kM X.K ta f):=by
 intro pins s σ H Q I h;refine oU hb (aW (he pins s σ H _ I h) λ u s1 ⟨x,H1,I1,rx,a,C,dx,fs,v,ex,ea,c,n,l,q⟩=>?_);subst ex;obtain rfl:u=Value.ref a:=rx;exact nG I1 ea c n l λ u' s2 I2 ru=>⟨v,H1,I2,ru,q⟩
theorem cR (ha:PE X o ta)(hv:PE X value tv)(hs:swapsWith value (some (.Attribute o f pos')) pos.line X.env=pure false):PS X (.Assign [.Attribute o f pos'] value pos) (BN X.K ta tv f):=by
 intro pins s σ H D I h;refine LI (aW (hv pins s σ H _ I h) λ u s1 ⟨y,H1,I1,ry,q⟩=>aW (ha pins s1 σ H1 _ I1 q) λ ov s2 ⟨x,H2,I2,rx,a,C,dx,fs,ex,ea,c,n,l,q2⟩=>?_) hs;subst ex;obtain rfl:ov=Value.ref a:=rx;exact nR I2 ea c n l ry λ s3 I3=>⟨σ,_,I3,q2⟩
end
section
variable {X:Cx}{pins:List (Addr × Obj)}{σ:St}{H:Hp}{s:Shared}{A:Around}{E:bz}{Q:bz}{c:Value}{b:Bool}
inductive Ū (K:PySem.W.Frag)(H:Hp):V->Value->Prop where
 | ô:Ū K H .ô (.type "NoneType")
 | bl (x:Bool):Ū K H (.bl x) (.type "bool")
 | int (i:Int):Ū K H (.int i) (.type "int")
 | str (x:Str):Ū K H (.str x) (.type "str")
 | LQ (x:UInt64):Ū K H (.LQ x) (.type "float")
 | lst {a:Addr} {xs:List V} (e:H a=some (.lst xs)):Ū K H (.ref a) (.type "list")
 | JB {a:Addr} {o:Obj} {xs:List V} (e:H a=some (.JB o (.lst xs))):Ū K H (.ref a) (.type "list")
 | tup {a:Addr} {xs:List V} (e:H a=some (.tup xs)):Ū K H (.ref a) (.type "tuple")
 | dK {a:Addr} {kvs:List (Key × V)} (e:H a=some (.dK kvs)):Ū K H (.ref a) (.type "dict")
 | dT {a:Addr} {kvs:List (List NK × V)} (e:H a=some (.dT kvs)):Ū K H (.ref a) (.type "dict")
 | ins {a C dx:Addr} {fs:List (Str × V)} (e:H a=some (.ins C dx fs)) (cl:K4 K C) (ha:PySem.W.findIn K (.ref C) "__class__" = some (some (.builtin "object.__class__")))
   (hn:PySem.W.specialIn K (.builtin "object.__class__") "__get__" = some (some (.builtin "getset_descriptor.__get__"))) (LL:PySem.W.takesIn K (.builtin "object.__class__")=some true)
   (hm:PySem.W.mroIn K C (.type "object")=some true):Ū K H (.ref a) (.ref C)
theorem qF {x:V}{u t:Value}(I:Inv X pins σ H s)(rx:RelV x u)(ty:Ū X.K H x t)(e:PySem.W.kitOne X.K t c=some b)(h:∀ tk,Q (.bool b) { s with toks:=tk }) :
  wpAny (model X.prog X.w) A (call (.builtin "isinstance") [u,c]) Q E s:=by
 cases ty with
 | ô=>cases (show u=Value.none from rx);exact Ā PySem.W.kitx_none I.Ņ True.intro e (λ z=>nomatch z) h
 | bl y=>cases (show u=Value.bool y from rx);exact Ā PySem.W.kitx_bool I.Ņ True.intro e (λ z=>nomatch z) h
 | int i=>obtain⟨t,q⟩:=(show ∃ t,u=Value.int i t from rx);cases q;exact Ā PySem.W.kitx_int I.Ņ True.intro e (λ z=>nomatch z) h
 | str y=>obtain⟨t,q⟩:=(show ∃ t,u=Value.str y t from rx);cases q;exact Ā PySem.W.kitx_str I.Ņ True.intro e (λ z=>nomatch z) h
 | LQ y=>obtain⟨t,q⟩:=(show ∃ t,u=Value.float y t from rx);cases q;exact Ā PySem.W.kitx_float I.Ņ True.intro e (λ z=>nomatch z) h
 | @lst a xs ea =>
  cases (show u=Value.ref a from rx);obtain⟨_,_,n,_,h1⟩:=(show ñ X.prog X.w H s.heap a (.lst xs) from I.þ a _ ea);exact Ā PySem.W.kitx_list I.Ņ ⟨_,h1,rfl⟩ e (λ z=>nomatch z) h
 | @JB a ob xs ea =>
  cases (show u=Value.ref a from rx);obtain⟨_,_,_,n,_,h1⟩:=(show ñ X.prog X.w H s.heap a (.JB ob (.lst xs)) from I.þ a _ ea);exact Ā PySem.W.kitx_list I.Ņ ⟨_,h1,rfl⟩ e (λ z=>nomatch z) h
 | @tup a xs ea =>
  cases (show u=Value.ref a from rx);obtain⟨_,_,_,p⟩:=(show ñ X.prog X.w H s.heap a (.tup xs) from I.þ a _ ea);obtain⟨o,h1,h2,_⟩:=p;exact Ā PySem.W.kitx_tuple I.Ņ ⟨o,h1,h2⟩ e (λ z=>nomatch z) h
 | @dK a kvs ea =>
  cases (show u=Value.ref a from rx);obtain⟨_,_,vs,_,p⟩:=(show ñ X.prog X.w H s.heap a (.dK kvs) from I.þ a _ ea);obtain⟨o,es,ep,h1,h2,_⟩:=p;exact Ā PySem.W.kitx_dict I.Ņ ⟨o,h1,h2.1⟩ e (λ z=>nomatch z) h
 | @dT a kvs ea =>
  cases (show u=Value.ref a from rx);obtain⟨_,_,xs,_,o,es,ep,h1,h2,_⟩:=(show ñ X.prog X.w H s.heap a (.dT kvs) from I.þ a _ ea);exact Ā PySem.W.kitx_dict I.Ņ ⟨o,h1,h2.1⟩ e (λ z=>nomatch z) h
 | @ins a C dx fs ea cl ha hn LL hm =>
  cases (show u=Value.ref a from rx);obtain⟨mA,O,_⟩:=ir I.þ ea;obtain⟨od,J,_⟩:=O.look;exact Ā (PySem.W.kitx_own (cl.get _) cl.hd ha hn LL hm) I.Ņ J e (λ z=>nomatch z) h
end
structure î (k:Nat)(A:Around):Prop where
 hd:A.handled=none
 dp:A.depth+3*k+5<recursionLimit
 un:A.units+16*k+200<cLine
 gd:A.guards=some []
theorem î.mono {j k:Nat}{A:Around}(r:î k A)(h:j<=k):î j A:=⟨r.hd,by have:=r.dp;omega,by have:=r.un;omega,r.gd⟩
theorem î.deeper {k:Nat}{A:Around}(r:î (k+1) A)(env:Env):î k (A.deeper env) :=
 ⟨r.hd,by have:=r.dp;show A.depth+1+3*k+5<_;omega,by have:=r.un;show A.units+3+16*k+200<_;omega,r.gd⟩
theorem mY {A:Around}{C:Addr}{us:List Value}{kw:List (Str × Value)}:(A.under (.builtin "type.__call__" ⟨.ref C::us,kw⟩)).depth=A.depth+1:=by
 first | rfl | simp [Around.under,Code.weight,Code.isCreation,Code.isGuard,Code.isCaller,Code.frames,Code.isFrame,guardIds]
theorem mZ {A:Around}{C:Addr}{us:List Value}{kw:List (Str × Value)}:(A.under (.builtin "type.__call__" ⟨.ref C::us,kw⟩)).units=A.units+1:=by
 first | rfl | simp [Around.under,Code.cUnits,Code.frames,Code.isFrame]
theorem î.make {k:Nat}{A:Around}(r:î (k+1) A)(C:Addr)(us:List Value)(kw:List (Str × Value)):î k (A.under (.builtin "type.__call__" ⟨.ref C::us,kw⟩)) :=
 ⟨r.hd,by have:=r.dp;rw [mY];omega,by have:=r.un;rw [mZ];omega,by have h:=r.gd;first | (simp only [Around.under];rw [h];rfl) | simp [Around.under,h,pushGuards,Code.guards,Code.isGuard,guardIds]⟩
theorem î.depth {k:Nat}{A:Around}(r:î k A):A.depth<recursionLimit:=by have:=r.dp;omega
theorem î.units {k:Nat}{A:Around}(r:î k A):A.units+64<cLine:=by have:=r.un;omega
theorem î.b_ {k:Nat}{A:Around}(r:î k A):A.units<cLine:=by have:=r.un;omega
def aP:TA:=λ _ H Q=>Q [] H
def aw (ta:TE)(tr:TA):TA:=λ σ H Q=>ta σ H λ x H1=>tr σ H1 λ xs H2=>Q (x::xs) H2
section
variable {X:Cx}{e:Expr}{es:List Expr}{te:TE}{t:TA}{pos:Pos}
theorem ao:PA X [] aP:=λ _ _ _ _ H Q I h=>Calls.spliced_nil ⟨[],H,I,.nil,h⟩
theorem ac (ha:PE X e te)(hr:PA X es t)(hs:starEach (e::es) X.env=(false,eval e X.env)::starEach es X.env:=by rfl):PA X (e::es) (aw te t):=by
 intro pos pins s σ H Q I h;rw [hs];show wpAny _ _ (spliced ((false,eval e X.env)::backTo pos (starEach es X.env))) _ _ s;refine Calls.spliced_cons (aW (ha pins s σ H _ I h) λ u s1 ⟨x,H1,I1,r1,q1⟩=>?_);exact aW (hr pos pins s1 σ H1 _ I1 q1) λ us s2 ⟨xs,H2,I2,r2,q2⟩=>⟨x::xs,H2,I2,.cons r1 r2,q2⟩
def fh (t:TA):TE:=λ σ H Q=>t σ H λ xs H1=>xs.length<=sizeLine/\∀ p,H1 p=none->Q (.ref p) (aj H1 p (.tup xs))
def bE (t:TA):TE:=λ σ H Q=>t σ H λ xs H1=>xs.length<=sizeLine/\∀ p,H1 p=none->Q (.ref p) (aj H1 p (.lst xs))
theorem aE {x1}(h:PA X es t):PE X (.Tuple es x1 pos) (fh t):=by
 intro pins s σ H Q I hq;refine wpAny_Tuple_spliced (aW (h pos pins s σ H _ I hq) λ us s1 ⟨xs,H1,I1,r,z,q⟩=>⟨by rw [<- r.length];exact z,?_⟩)
 have hf:H1 s1.heap.objs.size=none:=I1.þ.fresh (Ç _);refine⟨.ref s1.heap.objs.size,aj H1 s1.heap.objs.size (.tup xs),I1.laid (t':=s1.toks) (λ b u e=>Â _ e) (Ç _) ?_,rfl,q _ hf⟩;exact⟨z,us,r,⟨_,Ë _ rfl,rfl,_,rfl⟩⟩
theorem bJ (h:PA X es t):PE X (.List es pos) (bE t):=by
 intro pins s σ H Q I hq;refine wpAny_List_spliced (aW (h pos pins s σ H _ I hq) λ us s1 ⟨xs,H1,I1,r,z,q⟩=>⟨by rw [<- r.length];exact z,?_⟩)
 have hf:H1 s1.heap.objs.size=none:=I1.þ.fresh (Ç _);refine⟨.ref s1.heap.objs.size,aj H1 s1.heap.objs.size (.lst xs),I1.laid (t':=s1.toks) (λ b u e=>Â _ e) (Ç _) ?_,rfl,q _ hf⟩;exact⟨z,us,0,r,Ë _ rfl⟩
end
abbrev Sp:=List V->Hp->VK->XK->Prop
abbrev iC:=List Env->Hp->Shared->XK->Value->Shared->Prop
structure J8 (P:Program)(w:World)(K:PySem.W.Frag)(mg:aX)(base:Heap)(A:Around)(outer:List Env)(s:Shared)(H:Hp):Prop where
 frames:A.frames=some outer
 mod:Mod K mg base
 bs:∀ b o,base.get? b=some o->s.heap.get? b=some o/\H b=none
 K7:base.objs.size<=s.heap.objs.size
 ſ:s.heap.FunFrames base outer
 LP:∀ b∈jJ outer,H b=none
 þ:ţ P w H s.heap
 bare:AllBare s.gens
def CE (outer:List Env)(P:Program)(w:World)(H:Hp)(s:Shared)(Q:VK)(u:Value)(s':Shared):Prop :=
 ∃ v H',s'.os=s.os/\AllBare s'.gens/\Un (jJ outer) [] H H' s.heap s'.heap/\ţ P w H' s'.heap/\RelV v u/\Q v H'
def CR (CX:iC)(outer:List Env)(P:Program)(w:World)(H:Hp)(s:Shared)(Q:VK)(E:XK)(r:Result)(s':Shared):Prop :=
 match r with
 | .ok (.ret u)=>CE outer P w H s Q u s'
 | .ok _=>False
 | .error e=>CX outer H s E e s'
structure Ò (P:Program)(w:World)(K:PySem.W.Frag)(mg:aX)(base:Heap)(CX:iC)(k:Nat)(f:Addr)(fd:FuncData)(ps:List Str)(sp:Sp):Prop where
 len:∀ vs H Q E,sp vs H Q E->vs.length=ps.length
 run:∀(A:Around)(outer:List Env)(s:Shared)(H:Hp)(args:Args)(us:List Value)(vs:List V)(Q:VK)(E:XK),î k A->J8 P w K mg base A outer s H->BindsTo s fd args (ps.zip us)->Vals vs us->sp vs H Q E ->
  codeAny (model P w) A (.call (.ref f) args) (CR CX outer P w H s Q E) s
theorem Ò.mono {P:Program}{w:World}{K:PySem.W.Frag}{mg:aX}{base:Heap}{CX:iC}{j k:Nat}{f:Addr}{fd:FuncData}{ps:List Str}{sp:Sp}(F:Ò P w K mg base CX j f fd ps sp)(h:j<=k) :
  Ò P w K mg base CX k f fd ps sp:=⟨F.len,λ A outer s H args us vs Q E hr=>F.run A outer s H args us vs Q E (hr.mono h)⟩
theorem Ò.imp {P:Program}{w:World}{K:PySem.W.Frag}{mg:aX}{base:Heap}{CX:iC}{k:Nat}{f:Addr}{fd:FuncData}{ps:List Str}{sp SI:Sp}(F:Ò P w K mg base CX k f fd ps sp)
  (h:∀ vs H Q E,SI vs H Q E->sp vs H Q E):Ò P w K mg base CX k f fd ps SI :=
 ⟨λ vs H Q E q=>F.len vs H Q E (h _ _ _ _ q),λ A outer s H args us vs Q E hr he hb hv hs=>F.run A outer s H args us vs Q E hr he hb hv (h _ _ _ _ hs)⟩
theorem J8.make {P:Program}{w:World}{K:PySem.W.Frag}{mg:aX}{base:Heap}{A:Around}{outer:List Env}{s:Shared}{H:Hp}(e:J8 P w K mg base A outer s H)(C:Addr)(us:List Value)(kw:List (Str × Value)) :
  J8 P w K mg base (A.under (.builtin "type.__call__" ⟨.ref C::us,kw⟩)) outer s H:=⟨by first | exact e.frames | (simpa [Around.under,Code.envs,Code.isFrame,pushEnvs] using e.frames),e.mod,e.bs,e.K7,e.ſ,e.LP,e.þ,e.bare⟩
section
variable {X:Cx}{pins:List (Addr × Obj)}{σ:St}{H:Hp}{s s':Shared}
theorem Inv.Mn (I:Inv X pins σ H s):J8 X.prog X.w X.K X.mg X.base X.A X.stack s H :=
 ⟨I.ok.frames,I.ok.mod,I.bs,Ô I.ok.K7 I.sz,I.stack,I.IV,I.þ,I.bare⟩
theorem Inv.after {Q:VK}{u:Value}(I:Inv X pins σ H s)(h:CE X.stack X.prog X.w H s Q u s'):EP X pins σ Q u s':=by
 obtain⟨v,H',os,bare,un,þ,r,q⟩:=h;obtain⟨hh,g,d,t,Ň⟩:=s';obtain rfl:Ň = s.os:=os;exact⟨v,H',I.call (h':=hh) (g':=g) (d':=d) (t':=t) (ch:=[]) un þ bare (λ b z=>absurd z (by simp)),r,q⟩
end
def ie (sp:Sp)(dvs:List V)(E:XK)(t:TA):TE:=λ σ H Q=>t σ H λ vs H1=>sp (vs++dvs) H1 Q E
def fc (C:Addr)(sp:Sp)(dvs:List V)(E:XK)(t:TA):TE:=λ σ H Q=>t σ H λ vs H1=>∀ x dx,H1 x=none->H1 dx=none->dx≠x ->
 sp (.ref x::(vs++dvs)) (aj (aj H1 dx (.own x)) x (.ins C dx [])) (λ v H2=>v=.ô/\Q (.ref x) H2) E
def Binds (K:PySem.W.Frag)(fd:FuncData)(ps:List Str)(ds:List Value):Prop :=
 ∀(s:Shared)(us:List Value),K.In s.heap->(us++ds).length=ps.length->BindsTo s fd ⟨us,[]⟩ (ps.zip (us++ds))
theorem Binds.all {K:PySem.W.Frag}{fd:FuncData}{ps:List Str}(h:∀ us:List Value,us.length=ps.length->bindArgs fd ⟨us,[]⟩=pure (ps.zip us)):Binds K fd ps []:=λ s us _ hl=>by
 rw [ù] at hl ⊢;exact .of_eq (h us hl)
def cO (CX:iC)(X:Cx)(E:XK):Prop:=∀(pins:List (Addr × Obj))(σ:St)(H:Hp)(s:Shared)(e:Value)(s':Shared),Inv X pins σ H s->CX X.stack H s E e s'->X.xe e s'
section
variable {X:Cx}{CX:iC}{k:Nat}{f C:Addr}{fd:FuncData}{ps:List Str}{sp:Sp}{dvs:List V}{ds:List Value}{E:XK}{x m:Str}{p pos œ:Pos}{e o:Expr}{es:List Expr}{ta:TE}{t:TA}
theorem iO {pins:List (Addr × Obj)}{σ:St}{H:Hp}{s:Shared}{Q:VK}{us:List Value}{vs:List V}(F:Ò X.prog X.w X.K X.mg X.base CX k f fd ps sp)(hr:î k X.A)(hb:Binds X.K fd ps ds)(hd:Vals dvs ds)(hx:cO CX X E)
  (I:Inv X pins σ H s) (r:Vals vs us) (h:sp (vs++dvs) H Q E):wpAny (model X.prog X.w) X.A (call (.ref f) us) (EP X pins σ Q) X.xe s:=by
 have r2:Vals (vs++dvs) (us++ds):=r.append hd;have hl:(us++ds).length=ps.length:=by rw [<- r2.length];exact F.len _ _ _ _ h
 refine Œ (ł (F.run X.A X.stack s H ⟨us,[]⟩ (us++ds) (vs++dvs) Q E hr I.Mn (hb s us I.Ņ hl) r2 h) λ r s' hq=>?_);cases r with
 | error e=>exact hx pins σ H s e s' I hq
 | ok fl =>
  cases fl with
  | ret u=>exact I.after hq
  | next=>exact False.elim hq
  | brk=>exact False.elim hq
  | cont=>exact False.elim hq
theorem nq (F:Ò X.prog X.w X.K X.mg X.base CX k f fd ps sp)(hr:î k X.A)(hg:Gl X x)(hm:X.mg x=some (.ref f))(hk:PySem.W.keepIn X.K (.ref f)=true)(hb:Binds X.K fd ps ds)(hd:Vals dvs ds)(hx:cO CX X E)
  (ha:PA X (e::es) t) (Ν:(x==("__debug__" : Str))=false:=by decide) (he:starEach (e::es) X.env=(false,eval e X.env)::starEach es X.env:=by rfl) (Ρ:(backTo pos (starEach es X.env)).any (·.1)=false:=by rfl) :
  PE X (.Call (.Name x p) (e::es) [] pos) (ie sp dvs E t):=by
 intro pins s σ H Q I h;refine Č (cu I hg hm ?_ Ν);refine Ġ (h₀:=X.base) I.ok.mod.L' hk (aW (ha pos pins s σ H _ I h) λ us s1 ⟨vs,H1,I1,r,q⟩=>⟨I1.Ņ,?_⟩) he Ρ;exact iO F hr hb hd hx I1 r q
structure Mk (K:PySem.W.Frag)(C f:Addr):Prop where
 makes:PySem.W.makesIn K C=true
 init:PySem.W.findIn K (.ref C) "__init__" = some (some (.ref f))
 fn:PySem.W.isFn K (.ref f)=true
 kp:PySem.W.keepIn K (.ref C)=true
theorem mP {pins:List (Addr × Obj)}{σ:St}{H:Hp}{s:Shared}{Q:VK}{us:List Value}{vs:List V}(M:Mk X.K C f)(F:Ò X.prog X.w X.K X.mg X.base CX k f fd ps sp)(hr:î (k+1) X.A)(hb:Binds X.K fd ps ds)(hd:Vals dvs ds)
  (hx:cO CX X E) (I:Inv X pins σ H s) (r:Vals vs us)
  (h:∀ x dx,H x=none->H dx=none->dx≠x->sp (.ref x::(vs++dvs)) (aj (aj H dx (.own x)) x (.ins C dx [])) (λ v H2=>v=.ô/\Q (.ref x) H2) E) :
  wpAny (model X.prog X.w) X.A (call (.ref C) us) (EP X pins σ Q) X.xe s:=by
 have hq:=h (s.heap.objs.size+1) s.heap.objs.size (I.þ.fresh (ń _)) (I.þ.fresh (Ç _)) (Ñ (JF _));have I2:=Inv.made (C:=C) I;have r2:Vals (V.ref (s.heap.objs.size+1)::(vs++dvs)) (Value.ref (s.heap.objs.size+1)::(us++ds)):=.cons rfl (r.append hd);have hl:(Value.ref (s.heap.objs.size+1)::us++ds).length=ps.length:=by
  have e:=r2.length;rw [F.len _ _ _ _ hq] at e;exact e.symm
 refine Œ (lp (f:=f) I.Ņ M.makes M.init (Ą.mp M.fn) (ł (F.run _ X.stack _ _ ⟨Value.ref (s.heap.objs.size+1)::us,[]⟩ (Value.ref (s.heap.objs.size+1)::(us++ds)) _ _ E (hr.make C us [])
  (I2.Mn.make C us []) (hb _ (Value.ref (s.heap.objs.size+1)::us) I2.Ņ hl) r2 hq) λ r s' Lv=>?_))
 cases r with
 | error e=>exact hx pins σ _ _ e s' I2 Lv
 | ok fl =>
  cases fl with
  | ret u =>
   obtain⟨v,H',I3,rv,ev,q3⟩:=I2.after Lv;subst ev;exact⟨rv,⟨V.ref (s.heap.objs.size+1),H',I3,rfl,q3⟩⟩
  | next=>exact False.elim Lv
  | brk=>exact False.elim Lv
  | cont=>exact False.elim Lv
theorem j6 (M:Mk X.K C f)(F:Ò X.prog X.w X.K X.mg X.base CX k f fd ps sp)(hr:î (k+1) X.A)(hg:Gl X x)(hm:X.mg x=some (.ref C))(hb:Binds X.K fd ps ds)(hd:Vals dvs ds)(hx:cO CX X E)
  (ha:PA X (e::es) t) (Ν:(x==("__debug__" : Str))=false:=by decide) (he:starEach (e::es) X.env=(false,eval e X.env)::starEach es X.env:=by rfl) (Ρ:(backTo pos (starEach es X.env)).any (·.1)=false:=by rfl) :
  PE X (.Call (.Name x p) (e::es) [] pos) (fc C sp dvs E t):=by
 intro pins s σ H Q I h;refine Č (cu I hg hm ?_ Ν);refine Ġ (h₀:=X.base) I.ok.mod.L' M.kp (aW (ha pos pins s σ H _ I h) λ us s1 ⟨vs,H1,I1,r,q⟩=>⟨I1.Ņ,?_⟩) he Ρ;exact mP M F hr hb hd hx I1 r q
theorem gz (M:Mk X.K C f)(F:Ò X.prog X.w X.K X.mg X.base CX k f fd ps sp)(hr:î (k+1) X.A)(hg:Gl X x)(hm:X.mg x=some (.ref C))(hb:Binds X.K fd ps ds)(hd:Vals dvs ds)(hx:cO CX X E)
  (Ν:(x==("__debug__" : Str))=false:=by decide):PE X (.Call (.Name x p) [] [] pos) (fc C sp dvs E aP):=by
 intro pins s σ H Q I h;refine Č (cu I hg hm ?_ Ν);exact PySem.W.callWith_K0 I.Ņ M.kp (mP (us:=[]) M F hr hb hd hx I .nil h)
end
structure ad (N P:List Str)(sc:Scope):Prop where
 kind:sc.kind=.function
 co:sc.isCoroutine=false
 gen:sc.isGenerator=false
 nd:N.Nodup
 pre:N.take P.length=P
 par:∀ x∈P,sc.names.lookup x=some .local\/sc.names.lookup x=some .cell
 JQ:∀ y∈sc.names,y.2 ≠ .free
theorem aF {N P:List Str}{sc:Scope}(a:sc.kind=.function:=by rfl)(b:sc.isCoroutine=false:=by rfl)(c:sc.isGenerator=false:=by rfl)(d:N.Nodup:=by decide +kernel)(e:N.take P.length=P:=by rfl)(f:∀ x∈P,sc.names.lookup x=some .local\/sc.names.lookup x=some .cell:=by decide +kernel)(g:∀ y∈sc.names,y.2 ≠ .free:=by decide +kernel):ad N P sc:=⟨a,b,c,d,e,f,g⟩
theorem jC {kindOf:Str->Option NameKind}{x:Str}:∀{binds:List (Str × Value)}{m:aX},(∀ v,(x,v) ∉ binds)->bindL kindOf binds m x=m x
 | [],_,_=>rfl
 | (n,v)::r,m,h=>by
  unfold bindL;rw [jC λ w hw=>h w (ä _ hw)];split
  ·have:x≠n:=by rintro rfl;exact h v ø
   simp [this]
  ·rfl
theorem jR {kindOf:Str->Option NameKind}{x:Str}:∀{binds:List (Str × Value)}{m:aX},(∀ v,(x,v) ∉ binds)->bindC kindOf binds m x=m x
 | [],_,_=>rfl
 | (n,v)::r,m,h=>by
  unfold bindC;rw [jR λ w hw=>h w (ä _ hw)];split
  ·rfl
  ·have:x≠n:=by rintro rfl;exact h v ø
   simp [this]
theorem jv {kindOf:Str->Option NameKind}{x:Str}{v:Value}:∀{P:List Str}{vs:List Value}{i:Nat}{m:aX},P.Nodup->P[i]?=some x->vs[i]?=some v->kindOf x=some .local ->
  bindL kindOf (P.zip vs) m x=some v
 | [],_,_,_,_,h,_,_=>by simp at h
 | _::_,[],_,_,_,_,h,_=>by simp at h
 | p::P,w::vs,0,m,nd,h1,h2,hk=>by
  simp at h1 h2;subst h1;subst h2;show bindL kindOf ((p,w)::P.zip vs) m p=_;unfold bindL;rw [jC λ v hv=>(η.mp nd).1 (KD hv).1,Ï hk];simp
 | p::P,w::vs,i+1,m,nd,h1,h2,hk=>by
  show bindL kindOf ((p,w)::P.zip vs) m x=_;unfold bindL;exact jv (i:=i) (η.mp nd).2 (by simpa using h1) (by simpa using h2) hk
theorem jS {kindOf:Str->Option NameKind}{x:Str}{v:Value}:∀{P:List Str}{vs:List Value}{i:Nat}{m:aX},P.Nodup->P[i]?=some x->vs[i]?=some v->kindOf x≠some .local ->
  bindC kindOf (P.zip vs) m x=some v
 | [],_,_,_,_,h,_,_=>by simp at h
 | _::_,[],_,_,_,_,h,_=>by simp at h
 | p::P,w::vs,0,m,nd,h1,h2,hk=>by
  simp at h1 h2;subst h1;subst h2;show bindC kindOf ((p,w)::P.zip vs) m p=_;unfold bindC;rw [jR λ v hv=>(η.mp nd).1 (KD hv).1,Ì hk];simp
 | p::P,w::vs,i+1,m,nd,h1,h2,hk=>by
  show bindC kindOf ((p,w)::P.zip vs) m x=_;unfold bindC;exact jS (i:=i) (η.mp nd).2 (by simpa using h1) (by simpa using h2) hk
def fD (N:List Str)(vs:List V):St:=vs.map some++List.replicate (N.length-vs.length) none
def cq (CX:iC)(P:Program)(w:World)(K:PySem.W.Frag)(mg:aX)(base:Heap)(N:List Str)(qual:Str)(scope:Scope)(f:Addr)(cd:Value)(A:Around)(outer:List Env)(s:Shared)(H:Hp)(E:XK):Cx where
 prog:=P
 w:=w
 K:=K
 mg:=mg
 base:=base
 A:=A.deeper (envOfC qual scope s.heap.objs.size f cd)
 N:=N
 ľ:=s
 J7:=H
 env:=envOfC qual scope s.heap.objs.size f cd
 outer:=outer
 stack:=envOfC qual scope s.heap.objs.size f cd::outer
 ex:=[]
 calm:=true
 fn:=λ _=>true
 pn:=[]
 xe:=λ e s'=>wpAny (model P w) (A.deeper (envOfC qual scope s.heap.objs.size f cd)) (leaving (envOfC qual scope s.heap.objs.size f cd) e) (λ _ MM=>CX outer H s E e MM) (λ e' MM=>CX outer H s E e' MM) s'
theorem ma {sc:Scope}{n:Nat}{x:Str}(h:sc.names.lookup x=some .cell):∃ c,(cellsFrom n sc.names []).lookup x=some c:=by
 have q:=M4 sc.names n [] (.inl h);exact Ĩ.mp q
theorem qI {CX:iC}{P:Program}{w:World}{K:PySem.W.Frag}{mg:aX}{base:Heap}{N ps:List Str}{qual:Str}{scope:Scope}{f:Addr}{cd:Value}{A:Around}{outer:List Env}{s s1:Shared}{H:Hp}{E:XK}{us:List Value}{vs:List V}
  (S:ad N ps scope) (hd:A.handled=none) (e0:J8 P w K mg base A outer s H) (hl:vs.length=ps.length) (r:Vals vs us)
  (x:InCallC s s.heap.objs.size (bindL (envOfC qual scope s.heap.objs.size f cd).kindOf (ps.zip us) λ _=>none) (cellsFrom (s.heap.objs.size+1) scope.names []) (bindC (envOfC qual scope s.heap.objs.size f cd).kindOf (ps.zip us) λ _=>none) s1) :
  Inv (cq CX P w K mg base N qual scope f cd A outer s H E) [] (fD N vs) H s1:=by
 have Ρ:ps.length<=N.length:=by have:=ĭ List.length S.pre;rw [Ι] at this;omega
 obtain⟨h1,tk,rfl,hk⟩:=x.done;have OD:∀ b:Addr,b ∉ (cq CX P w K mg base N qual scope f cd A outer s H E).ex:=λ b z=>absurd (show b∈([]:List Addr) from z) (by simp)
 refine⟨⟨e0.mod,S.kind,rfl,rfl,Ç _,λ y z c h1 h2=>?_,λ y hy=>?_,λ y c _ h=>?_,λ _=>hd,Around.frames_deeper e0.frames,.inr ⟨rfl,rfl⟩,λ b z=>absurd z (OD b),e0.bs,e0.K7,λ b _ _=>OD b,λ b z=>absurd z (OD b),e0.ſ,e0.LP⟩,
  rfl,e0.bare,Un.kept hk,⟨_,x.toInCall.ns,λ i y v h1 h2 h3=>?_⟩,λ y c h=>⟨_,x.cell y c h⟩,e0.þ.fresh (Ç _),λ y c h=>?_,λ p hp=>absurd (show p∈([]:List (Addr × Obj)) from hp) (by simp),e0.þ.kept hk,?_⟩
 ·exact name_of_addr x.apart (ç h1) (ç h2)
 ·have hy:scope.names.lookup y=some .cell\/scope.names.lookup y=some .free:=hy;rcases hy with hy | hy
  ·exact ma hy
  ·exact absurd rfl (S.JQ _ (ç hy))
 ·exact Jk (x.above y c (ç h))
 ·have hi:i<vs.length:=by
   unfold fD at h2;by_cases hi:i<vs.length
   ·exact hi
   ·rw [Ĺ (by simpa using hi)] at h2
    rw [Mz] at h2;split at h2 <;> cases h2
  have ha:vs[i]?=some v:=by
   unfold fD at h2;rw [Ÿ (by simpa using hi),List.getElem?_map] at h2
   cases e:vs[i]? with
   | none=>rw [e] at h2;cases h2
   | some a=>rw [e] at h2;cases h2;rfl
  obtain⟨u,hu,rv⟩:=r.get ha;have hp:ps[i]?=some y:=by
   rw [<- S.pre,List.getElem?_take_of_lt ae];exact h1
  have S4:ps.Nodup:=by rw [<- S.pre];exact S.nd.sublist (List.take_sublist _ _)
  refine⟨u,rv,?_⟩;rcases S.par y (ê hp) with k | k
  ·exact .inl ⟨k,jv S4 hp hu k⟩
  ·obtain⟨c,e⟩:=ma (n:=s.heap.objs.size+1) k;refine .inr ⟨.inl k,c,e,?_⟩;have q:=x.cell y c e;rw [jS S4 hp hu (by show scope.names.lookup y≠_;rw [k];decide)] at q
   exact q
 ·exact e0.þ.fresh (Jk (x.above y c (ç h)))
 ·unfold fD;show _=N.length;rw [Ý,Æ,Ģ];omega
theorem xN {CX:iC}{P:Program}{w:World}{K:PySem.W.Frag}{mg:aX}{base:Heap}{k:Nat}{f:Addr}{name qual:Str}{params:Arguments}{body:List Stmt}{scope:Scope}{dV kV doc pm cdv ct oc:Value}{an od:Option Addr}
  {L5:Array (Option Value)} {N ps:List Str} {sp:Sp} (lk:K.lookup f=some ⟨oc,od,.func (PySem.W.fnOf name qual params body scope dV kV doc pm an cdv ct),L5⟩) (JZ:PySem.W.codeIn K cdv qual=true) (S:ad N ps scope)
  (len:∀ vs H Q E,sp vs H Q E->vs.length=ps.length)
  (Ξ:∀(A:Around)(outer:List Env)(s:Shared)(H:Hp)(vs:List V)(Q:VK)(E:XK),î k (A.deeper (envOfC qual scope s.heap.objs.size f cdv))->sp vs H Q E ->
   ∃ t,Ũ (cq CX P w K mg base N qual scope f cdv A outer s H E) body t/\t { nx:=λ _ H'=>Q .ô H',rt:=Q } (fD N vs) H) :
  Ò P w K mg base CX (k+1) f (PySem.W.fnOf name qual params body scope dV kV doc pm an cdv ct) ps sp:=by
 refine⟨len,λ A outer s H args us vs Q E hr e0 hb r KQ=>?_⟩;have hl:=len _ _ _ _ KQ;have KX:K.In s.heap:=e0.mod.L'.keeps λ b o e=>(e0.bs b o e).1;have lim:s.heap.NoLimit:=e0.mod.nolimit.keeps λ b o e=>(e0.bs b o e).1;have Pc:∀ y∈ps.zip us,scope.names.lookup y.1=some .local\/(scope.names.lookup y.1=some .cell/\((cellsFrom (s.heap.objs.size+1) scope.names []).lookup y.1).isSome=true):=λ ⟨n,v⟩ hy=>by
  rcases S.par n (KD hy).1 with q | q
  ·exact .inl q
  ·exact .inr ⟨q,M4 _ _ _ (.inl q)⟩
 refine codeAny_call_function hr.depth (KX _ _ lk) rfl S.co S.gen rfl (PySem.W.codeRec_of KX JZ) (hb _ _ _ _ ?_);refine wpAny_newFunctionEnv_cells S.kind Pc λ env he s1 x=>?_;subst he;refine⟨lim.keeps x.toInCall.keep,codeAny_func ?_⟩;obtain⟨t,ht,hq⟩:=Ξ A outer s H vs Q E (hr.deeper _) KQ;have I:Inv (cq CX P w K mg base N qual scope f cdv A outer s H E) [] (fD N vs) H s1:=qI S hr.hd e0 hl r x;refine Ğ (ht [] s1 (fD N vs) H _ I hq) (λ fl s' hs=>?_) λ e s' hs=>hs;have fin:∀{ē:St}{H':Hp}{v:V}{u:Value},Inv (cq CX P w K mg base N qual scope f cdv A outer s H E) [] ē H' s'->RelV v u->Q v H'->CE outer P w H s Q u s' :=
  λ {ē H' v u} J rv q=>⟨v,H',J.os,J.bare,J.base,J.þ,rv,q⟩
 cases fl with
 | ret u =>
  obtain⟨v,ē,H',J,rv,q⟩:=hs;exact fin J rv q
 | next =>
  obtain⟨ē,H',J,q⟩:=hs;exact fin (v:=V.ô) (u:=Value.none) J rfl q
 | brk =>
  obtain⟨_,_,_,q⟩:=hs;exact False.elim q
 | cont =>
  obtain⟨_,_,_,q⟩:=hs;exact False.elim q
section
variable {X:Cx}{x:Str}{p pos:Pos}{e:Expr}{es:List Expr}{t:TA}{id T:String}{r:List V->Hp->VK->Prop}
def nu (r:List V->Hp->VK->Prop)(t:TA):TE:=λ σ H Q=>t σ H λ vs H1=>r vs H1 Q
theorem am (hc:dh X (.builtin id) r)(hg:Gl X x)(hm:X.mg x=none)(hv:bootBuiltins x=some (.builtin id))(ha:PA X (e::es) t)(hn:x ≠ "__name__" := by decide) (Ν:(x==("__debug__" : Str))=false:=by decide)
  (he:starEach (e::es) X.env=(false,eval e X.env)::starEach es X.env:=by rfl) (Ρ:(backTo pos (starEach es X.env)).any (·.1)=false:=by rfl):PE X (.Call (.Name x p) (e::es) [] pos) (nu r t):=by
 intro pins s σ H Q I h;refine Č (gu I hg hm hv ?_ hn Ν);exact JE (aW (ha pos pins s σ H _ I h) λ us s1 ⟨vs,H1,I1,r1,q1⟩=>hc pins s1 σ H1 vs us Q I1 r1 q1) he Ρ
theorem bq (hc:dh X (.type T) r)(hg:Gl X x)(hm:X.mg x=none)(hv:bootBuiltins x=some (.type T))(ha:PA X (e::es) t)(hn:x ≠ "__name__" := by decide) (Ν:(x==("__debug__" : Str))=false:=by decide)
  (he:starEach (e::es) X.env=(false,eval e X.env)::starEach es X.env:=by rfl) (Ρ:(backTo pos (starEach es X.env)).any (·.1)=false:=by rfl):PE X (.Call (.Name x p) (e::es) [] pos) (nu r t):=by
 intro pins s σ H Q I h;refine Č (gu I hg hm hv ?_ hn Ν);exact ę (aW (ha pos pins s σ H _ I h) λ us s1 ⟨vs,H1,I1,r1,q1⟩=>hc pins s1 σ H1 vs us Q I1 r1 q1) he Ρ
end
end L2
namespace HT
open PySem PyProof.Rows
section
variable {prog:Program}{w:World}{A:Around}{E:bz}{s:Shared}
def JO (n d:Nat):Option Int->Nat
 | none=>d
 | some v=>if v<0 then(v+(n:Int)).toNat else min v.toNat n
end
end HT
namespace L2
open PySem PySem.Spec PyProof.Rows
abbrev TO:=St->Hp->(Option Int->Hp->Prop)->Prop
def PO (X:Cx)(e:Option Expr)(t:TO):Prop :=
 ∀(pins:List (Addr × Obj))(s:Shared)(σ:St)(H:Hp)(Q:Option Int->Hp->Prop),Inv X pins σ H s->t σ H Q ->
  wpAny (model X.prog X.w) X.A (evalPart e X.env) (λ u s'=>∃ o H',Inv X pins σ H' s'/\IsPart u o/\Q o H') X.xe s
def kj:TO:=λ _ H Q=>Q none H
def pD (t:TE):TO:=λ σ H Q=>t σ H λ x H1=>∃ i,x=.int i/\Q (some i) H1
theorem f7 {ns:List Int}:∀{us:List Value},Vals (ns.map V.int) us->IntsAre us ns:=by
 induction ns with
 | nil=>intro us r;rw [M7] at r;cases r;exact .nil
 | cons n ns ih =>
  intro us r;rw [Ė] at r;cases r with
  | cons r1 r2 =>
   obtain⟨t,e⟩:=r1;subst e;exact .cons n t (ih r2)
section
variable {X:Cx}{e:Expr}{te:TE}{lo hi:Option Expr}{tl th:TO}{pos p2:Pos}
theorem fM:PO X none kj:=by
 intro pins s σ H Q I h;rw [evalPart_none];exact Ã ⟨none,H,I,.none,h⟩
theorem fP (h:PE X e te):PO X (some e) (pD te):=by
 intro pins s σ H Q I hw;rw [evalPart_some];refine aW (h pins s σ H _ I hw) λ u s1 ⟨x,H1,I1,r1,q1⟩=>?_;obtain⟨i,rfl,q⟩:=q1;obtain⟨t,rfl⟩:=r1;exact⟨some i,H1,I1,.int i t,q⟩
def HY (X:Cx)(r:V->Option Int->Option Int->Hp->VK->Prop):Prop :=
 ∀(pins:List (Addr × Obj))(s:Shared)(σ:St)(H:Hp)(x:V)(v vl vu:Value)(lo hi:Option Int)(sl:Addr)(Q:VK),Inv X pins σ H s->RelV x v->s.heap.IsSliceOf sl vl vu .none->IsPart vl lo->IsPart vu hi->r x lo hi H Q ->
  ∃ T id,typeLookup (.type T) "__getitem__" = pure (some (.builtin id))/\s.TypeIs v T/\wpAny (model X.prog X.w) X.A (getItem v (.ref sl)) (EP X pins σ Q) X.xe s
def Fj (r:V->Option Int->Option Int->Hp->VK->Prop)(te:TE)(tl th:TO):TE:=λ σ H Q=>te σ H λ x H1=>tl σ H1 λ l H2=>th σ H2 λ u H3=>r x l u H3 Q
theorem eG {r:V->Option Int->Option Int->Hp->VK->Prop}(hr:HY X r)(he:PE X e te)(hl:PO X lo tl)(hu:PO X hi th):PE X (.Subscript e (.Slice lo hi none p2) pos) (Fj r te tl th):=by
 intro pins s σ H Q I h;refine Subscript_ (aW (he pins s σ H _ I h) λ v s1 ⟨x,H1,I1,r1,q1⟩=>?_);refine wpAny_Slice (aW (hl pins s1 σ H1 _ I1 q1) λ vl s2 ⟨l,H2,I2,pl,q2⟩=>aW (hu pins s2 σ H2 _ I2 q2) λ vu s3 ⟨u,H3,I3,pu,q3⟩=>?_);rw [evalPart_none];refine Ã ?_;have I4:Inv X pins σ H3 { s3 with heap:=s3.heap.push { cls:=.type "slice",data:=.fields #[vl,vu,.none] } }:=I3.kept (t':=s3.toks) λ b ob q=>Â _ q
 obtain⟨T,id,hT,ht,hg⟩:=hr pins { s3 with heap:=s3.heap.push { cls:=.type "slice",data:=.fields #[vl,vu,.none] } } σ H3 x v vl vu l u s3.heap.objs.size Q I4 r1 (Heap.IsSliceOf.new ..) pl pu q3;show wpAny (model X.prog X.w) X.A (subscriptTail e (.Slice lo hi none p2) v (.ref s3.heap.objs.size)) (EP X pins σ Q) X.xe { s3 with heap:=s3.heap.push { cls:=.type "slice",data:=.fields #[vl,vu,.none] } }
 exact tail_any (ops:=[.ref s3.heap.objs.size,v]) ht hT hg (by with_unfolding_all rfl)
def qK (xs:List V)(lo hi:Option Int):List V:=(xs.drop (HT.JO xs.length 0 lo)).take (HT.JO xs.length xs.length hi-HT.JO xs.length 0 lo)
theorem hZ (xs:List V)(lo hi:Option Int):(qK xs lo hi).length<=xs.length:=by
 unfold qK;rw [Ι,List.length_drop];omega
end
def AR (n:Nat)(i:Int):Option Nat:=if 0<=i then(if i<n then some i.toNat else none) else if -(n:Int)<=i then some (i+n).toNat else none
def xD {α:Type}(xs:List α)(i:Int):Option α:=(AR xs.length i).bind λ j=>xs[j]?
theorem pz {n:Nat}{i:Int}{j:Nat}(h:AR n i=some j):seqIndex? i n=some j/\j<n/\-(n:Int)<=i/\i<n:=by
 unfold AR at h;by_cases h0:0<=i
 ·rw [Ï h0] at h;by_cases h1:i<n
  ·rw [Ï h1] at h;have e:i.toNat=j:=Ó h;exact⟨by rw [seqIndex_of h0 h1,e],ae,ae,h1⟩
  ·rw [Ì h1] at h;cases h
 ·rw [Ì h0] at h;by_cases h1:-(n:Int)<=i
  ·rw [Ï h1] at h;have e:(i+n).toNat=j:=Ó h;exact⟨by rw [seqIndex_neg ae h1,e],ae,h1,ae⟩
  ·rw [Ì h1] at h;cases h
theorem oE {α:Type}{xs:List α}{i:Int}{v:α}(h:xD xs i=some v):∃ j,seqIndex? i xs.length=some j/\xs[j]?=some v/\j<xs.length/\-(xs.length:Int)<=i/\i<xs.length:=by
 unfold xD at h;cases e:AR xs.length i with
 | none=>rw [e] at h;cases h
 | some j =>
  rw [e] at h;obtain⟨h1,h2,h3,h4⟩:=pz e;exact⟨j,h1,h,h2,h3,h4⟩
theorem fm {α:Type}{xs:List α}{j:Nat}{v:α}(h:xs[j]?=some v):xD xs (j:Int)=some v:=by
 have hj:j<xs.length:=(É.mp h).1;have e:AR xs.length (j:Int)=some j:=by
  unfold AR;rw [Ï ae,Ï ae];simp
 unfold xD;rw [e];exact h
def oY (b:Expr):Prop:=∀ o i,subscripted b false o i=operate [o,i] (getItem o i)
def Ft (X:Cx)(r:R2):Prop :=
 ∀(value slice:Expr)(pins:List (Addr × Obj))(s:Shared)(σ:St)(H:Hp)(x y:V)(v u:Value)(Q:VK),Inv X pins σ H s->RelV x v->RelV y u->r x y H Q ->
  subscripted slice false v u=operate [v,u] (getItem v u)->wpAny (model X.prog X.w) X.A (subscriptTail value slice v u) (EP X pins σ Q) X.xe s
def GJ (X:Cx)(id:String)(r:V->List V->Hp->VK->Prop):Prop :=
 ∀(pins:List (Addr × Obj))(s:Shared)(σ:St)(H:Hp)(x:V)(xs:List V)(v:Value)(us:List Value)(Q:VK),Inv X pins σ H s->RelV x v->Vals xs us->r x xs H Q ->
  wpAny (model X.prog X.w) X.A (call (.builtin id) (v::us)) (EP X pins σ Q) X.xe s
section
variable {X:Cx}{a b:Expr}{ta tb:TE}{pos:Pos}
theorem Ey {r:R2}(hr:Ft X r)(ha:PE X a ta)(hb:PE X b tb)(hs:oY b):PE X (.Subscript a b pos) (aT r ta tb):=by
 intro pins s σ H Q I h;exact Subscript_ (yO ha hb I h λ v u s2 x y H2 I2 rx ry q=>hr a b pins s2 σ H2 x y v u Q I2 rx ry q (hs _ _))
theorem bC {r:R2}(hr:Ft X r)(ha:PE X a ta)(hb:PE X b tb)(hs:oY b:=by exact λ _ _=>rfl):PE X (.Subscript a b pos) (aT r ta tb):=Ey hr ha hb hs
def cX (K:PySem.W.Frag):R2:=λ x y H Q=>∃ p xs i v,x=.ref p/\y=.int i/\ÿ K H p xs/\xD xs i=some v/\Q v H
def oq (K:PySem.W.Frag):R2:=λ x y H Q=>∃ p xs i v,x=.ref p/\y=.int i/\č K H p xs/\xD xs i=some v/\Q v H
theorem iQ:Ft X (cX X.K):=by
 intro value slice pins s σ H x y v u Q I rx ry h hs;obtain⟨p,xs,i,z,rfl,rfl,hq,he,q⟩:=h;cases rx;obtain⟨t,rfl⟩:=ry;obtain⟨its,r,pl,hz⟩:=I.list hq;obtain⟨j,h1,h2,h3,h4,h5⟩:=oE he;obtain⟨w,ew,Kh⟩:=r.get h2;have hl:=r.length;have hn:=kK;have fin:EP X pins σ Q w s:=⟨z,H,I,Kh,q⟩;by_cases h0:0<=i
 ·have hj:i.toNat=j:=by
   rw [seqIndex_of h0 h5] at h1;exact Ó h1
  exact item_listR pl.isList h0 ae (by rw [hj];simpa using ew) fin hs
 ·have hj:(i+(its.toArray.size:Int)).toNat=j:=by
   rw [seqIndex_neg ae h4] at h1;rw [Ü,<- hl];exact Ó h1
  exact subscriptTail_builtinR (x:=w) pl.isList.typeIs slot_list_getitem.lookup
   (wpAny_getItem_list_neg (Q:=λ r s'=>r=w/\EP X pins σ Q r s') pl.isList ae (by rw [Ü] <;> omega) ae (by rw [hj];simpa using ew) ⟨rfl,fin⟩) hs
theorem cZ:Ft X (oq X.K):=by
 intro value slice pins s σ H x y v u Q I rx ry h hs;obtain⟨p,xs,i,z,rfl,rfl,hq,he,q⟩:=h;cases rx;obtain⟨t,rfl⟩:=ry;obtain⟨its,r,pl,hz⟩:=I.tuple hq;obtain⟨j,h1,h2,h3,h4,h5⟩:=oE he;obtain⟨w,ew,Kh⟩:=r.get h2;have hl:=r.length;have hn:=kK;have fin:EP X pins σ Q w s:=⟨z,H,I,Kh,q⟩;exact subscriptTail_builtinR (x:=w) pl.typeIs slot_tuple_getitem.lookup
  (getItem_tuple (j:=j) (Q:=λ r s'=>r=w/\EP X pins σ Q r s') pl ae ae (by rw [Ü,<- hl];exact h1) (by simpa using ew) ⟨rfl,fin⟩) hs
theorem n9 (its:List Value)(n j:Nat)(u:Value):Obj.mapSeq (·.setIfInBounds j u) { cls:=.type "list",data:=.seq its.toArray n }={ cls:=.type "list",data:=.seq (its.set j u).toArray n }:=by
 simp [Obj.mapSeq]
theorem Inv.lst {pins:List (Addr × Obj)}{σ:St}{H:Hp}{s:Shared}{p:Addr}{xs:List V}(I:Inv X pins σ H s)(h:H p=some (.lst xs)) :
  ∃(its:List Value)(n:Nat),Vals xs its/\s.heap.get? p=some { cls:=.type "list",data:=.seq its.toArray n }/\xs.length<=sizeLine:=by
 obtain⟨z,its,n,r,e⟩:=I.þ p _ h;exact⟨its,n,r,e,z⟩
theorem Inv.Np {pins:List (Addr × Obj)}{σ:St}{H:Hp}{s:Shared}{p:Addr}{xs ys:List V}{its its':List Value}{n n':Nat}{f:Obj->Obj}(I:Inv X pins σ H s)(h:H p=some (.lst xs))
  (ho:s.heap.get? p=some { cls:=.type "list",data:=.seq its.toArray n }) (hf:f { cls:=.type "list",data:=.seq its.toArray n }={ cls:=.type "list",data:=.seq its'.toArray n' }) (r:Vals ys its') (hz:ys.length<=sizeLine) (t:Nat) :
  Inv X pins σ (aj H p (.lst ys)) { s with heap:=s.heap.update p f,toks:=t }:=by
 have e:(s.heap.update p f).get? p=some { cls:=.type "list",data:=.seq its'.toArray n' }:=by
  rw [ð f ho (by rw [hf] <;> rfl),hf]
 refine I.write (x:=p) (e:=p) (by rw [h];trivial) (.inl rfl) (λ b u hb q=>(Heap.get?_update_other _ _ (Ne.symm hb)).trans q) ⟨_,e⟩ ?_
 exact⟨hz,its',n',r,e⟩
def Dr:V->V->V->Hp->(Hp->Prop)->Prop:=λ o i v H Q=>∃ p xs k j,o=.ref p/\i=.int k/\H p=some (.lst xs)/\AR xs.length k=some j/\Q (aj H p (.lst (xs.set j v)))
theorem lE:Es X Dr:=by
 intro pins s σ H o i v ov iv u Q I ro ri rv h;obtain⟨p,xs,k,j,rfl,rfl,hp,hj,q⟩:=h;cases ro;obtain⟨t,rfl⟩:=ri;obtain⟨its,n,r,ho,hz⟩:=I.lst hp;obtain⟨h1,h2,h3,h4⟩:=pz hj;have hl:=r.length;have hn:=kK;have I':Inv X pins σ (aj H p (.lst (xs.set j v))) { s with heap:=s.heap.update p (Obj.mapSeq (·.setIfInBounds j u)) } :=
  I.Np hp ho (n9 its n j u) (r.set rv j) (by rw [List.length_set];exact hz) s.toks
 by_cases h0:0<=k
 ·have hk:k.toNat=j:=by
   rw [seqIndex_of h0 h4] at h1;exact Ó h1
  exact PySem.W.ki_setAt ho h0 ae (by rw [Ü,<- hl];exact h4) (by rw [hk];exact⟨_,I',q⟩)
 ·have hk:(k+(its.toArray.size:Int)).toNat=j:=by
   rw [seqIndex_neg ae h3] at h1;rw [Ü,<- hl];exact Ó h1
  exact PySem.W.ki_setBack ho ae (by rw [Ü,<- hl];exact h3) ae (by rw [hk];exact⟨_,I',q⟩)
theorem kq (lo hi:Option Int)(n:Nat):(sliceBounds lo hi none n).1=((HT.JO n 0 lo:Nat):Int)/\(sliceBounds lo hi none n).2.1=((HT.JO n n hi:Nat):Int)/\(sliceBounds lo hi none n).2.2=1:=by
 refine⟨?_,?_,rfl⟩
 ·cases lo with
  | none=>simp [sliceBounds,HT.JO]
  | some i =>
   simp only [sliceBounds,HT.JO,Option.getD_none,show(1:Int)>0 by decide,if_true]
   by_cases h:i<0
   ·simp only [h,if_true] <;> omega
   ·simp only [h,if_false] <;> omega
 ·cases hi with
  | none=>simp [sliceBounds,HT.JO]
  | some i =>
   simp only [sliceBounds,HT.JO,Option.getD_none,show(1:Int)>0 by decide,if_true]
   by_cases h:i<0
   ·simp only [h,if_true] <;> omega
   ·simp only [h,if_false] <;> omega
theorem jn (its:List Value)(lo hi:Option Int):slicePick its.toArray lo hi none=((its.drop (HT.JO its.length 0 lo)).take (HT.JO its.length its.length hi-HT.JO its.length 0 lo)).toArray:=by
 obtain⟨h1,h2,h3⟩:=kq lo hi its.toArray.size;unfold slicePick;rw [h1,h2,h3];simp only [sliceRange_one,pick_run,List.size_toArray] <;> rfl
def uQ (K:PySem.W.Frag):V->Option Int->Option Int->Hp->VK->Prop:=λ x lo hi H Q=>∃ a xs,x=.ref a/\ÿ K H a xs/\∀ p,H p=none->Q (.ref p) (aj H p (.lst (qK xs lo hi)))
theorem fO:HY X (uQ X.K):=by
 intro pins s σ H x v vl vu lo hi sl Q I rx hs pl pu h;obtain⟨a,xs,rfl,hx,q⟩:=h;cases rx;obtain⟨its,r,ht,hz⟩:=I.list hx;have ĩ:=r.length;refine⟨"list",_,slot_list_getitem.lookup,ht.isList.typeIs,?_⟩;refine wpAny_getItem_list_slice ht.isList hs pl pu .none (by simp) ?_ (by rw [List.size_toArray] <;> omega)
 rw [jn,<- ĩ];refine⟨.ref s.heap.objs.size,_,I.laid (t':=s.toks) (o:=.lst (qK xs lo hi)) (λ b ob q=>Â _ q) (Ç _) ?_,rfl,q _ (I.þ.fresh (Ç _))⟩;exact⟨Ô (hZ xs lo hi) hz,_,0,(r.drop (HT.JO xs.length 0 lo)).take (HT.JO xs.length xs.length hi-HT.JO xs.length 0 lo),Ë _ rfl⟩
def dS:V->Bool
 | .ô=>true
 | .bl _=>true
 | .int _=>true
 | .str _=>true
 | _=>false
def kN:V->V->Bool
 | .ô,.ô=>true
 | .bl a,.bl b=>a==b
 | .bl a,.int b=>(if a then 1 else 0)==b
 | .int a,.bl b=>a==(if b then 1 else 0)
 | .int a,.int b=>a==b
 | .str a,.str b=>a==b
 | _,_=>false
theorem nU {A:Around}{s:Shared}{y x:V}{u v:Value}(ry:RelV y u)(rx:RelV x v)(fy:dS y=true)(fx:dS x=true):SeqAt.EqAt A s u v (kN y x):=by
 cases y with
 | ô =>
  cases ry;cases x with
  | ô=>cases rx;exact SeqAt.EqAt.same _
  | bl b=>cases rx;exact SeqAt.EqAt.none_bool b
  | int b=>obtain⟨t,rfl⟩:=rx;exact SeqAt.EqAt.none_int b t
  | str b=>obtain⟨t,rfl⟩:=rx;exact SeqAt.EqAt.none_str b t
  | _=>exact absurd (show false=true from fx) Ê
 | bl a =>
  cases ry;cases x with
  | ô=>cases rx;exact SeqAt.EqAt.bool_none a
  | bl b=>cases rx;exact SeqAt.EqAt.bool_bool a b
  | int b=>obtain⟨t,rfl⟩:=rx;exact SeqAt.EqAt.bool_int a b t
  | str b=>obtain⟨t,rfl⟩:=rx;exact SeqAt.EqAt.bool_str a b t
  | _=>exact absurd (show false=true from fx) Ê
 | int a =>
  obtain⟨t',rfl⟩:=ry;cases x with
  | ô=>cases rx;exact SeqAt.EqAt.int_none a t'
  | bl b=>cases rx;exact SeqAt.EqAt.int_bool a t' b
  | int b=>obtain⟨t,rfl⟩:=rx;exact SeqAt.EqAt.int_int a t' b t
  | str b=>obtain⟨t,rfl⟩:=rx;exact SeqAt.EqAt.int_str a t' b t
  | _=>exact absurd (show false=true from fx) Ê
 | str a =>
  obtain⟨t',rfl⟩:=ry;cases x with
  | ô=>cases rx;exact SeqAt.EqAt.str_none a t'
  | bl b=>cases rx;exact SeqAt.EqAt.str_bool a t' b
  | int b=>obtain⟨t,rfl⟩:=rx;exact SeqAt.EqAt.str_int a t' b t
  | str b=>obtain⟨t,rfl⟩:=rx;exact SeqAt.EqAt.str_str a t' b t
  | _=>exact absurd (show false=true from fx) Ê
 | _=>exact absurd (show false=true from fy) Ê
def uM (x:V)(u:Value):Bool:=match u with
 | .none=>kN .ô x
 | .bool b=>kN (.bl b) x
 | .int i _=>kN (.int i) x
 | .str z _=>kN (.str z) x
 | _=>false
theorem uC {x y:V}{u:Value}(r:RelV y u)(f:dS y=true):uM x u=kN y x:=by
 cases y with
 | ô=>cases r;rfl
 | bl b=>cases r;rfl
 | int i=>obtain⟨t,rfl⟩:=r;rfl
 | str z=>obtain⟨t,rfl⟩:=r;rfl
 | _=>exact absurd (show false=true from f) Ê
theorem kO {x:V}:∀{xs:List V}{us:List Value},Vals xs us->xs.all dS=true->us.any (uM x)=xs.any λ y=>kN y x
 | _,_,.nil,_=>rfl
 | y::xs,u::us,.cons r t,f=>by
  rw [LW,ğ] at f;rw [ž,ž,uC r f.1,kO t f.2]
theorem iE {A:Around}{s:Shared}{x:V}{v:Value}(rx:RelV x v)(fx:dS x=true):∀{xs:List V}{us:List Value},Vals xs us->xs.all dS=true->∀ u∈us,SeqAt.EqAt A s u v (uM x u)
 | _,_,.nil,_=>λ u hu=>by cases hu
 | y::xs,u::us,.cons r t,f=>λ u' hu=>by
  rw [LW,ğ] at f;rcases ß.mp hu with rfl | hu
  ·rw [uC r f.1];exact nU r rx f.1 fx
  ·exact iE rx fx t f.2 u' hu
def Ci (x:V)(xs:List V):Bool:=xs.any λ y=>kN y x
def HN (K:PySem.W.Frag)(neg:Bool):R2:=λ x y H Q=>∃ p xs,y=.ref p/\(ÿ K H p xs\/č K H p xs)/\dS x=true/\xs.all dS=true/\Q (.bl (if neg then !Ci x xs else Ci x xs)) H
theorem jD:gv X (compareOp .In) (HN X.K false):=by
 intro pins s σ H x y v u Q I rx ry h;obtain⟨p,xs,rfl,hq,fx,fs,q⟩:=h;cases ry;rcases hq with hq | hq
 ·obtain⟨its,r,pl,hz⟩:=I.list hq;refine SeqAt.in_listAt (uM x) pl.isList (λ w hw=>iE rx fx r fs w (by simpa using hw)) ⟨.bl _,H,I,rfl,?_⟩
  rw [show its.toArray.any (uM x)=its.any (uM x) by simp,kO r fs]
  exact q
 ·obtain⟨its,r,pl,hz⟩:=I.tuple hq;refine SeqAt.in_tupleAt (uM x) pl (λ w hw=>iE rx fx r fs w (by simpa using hw)) ⟨.bl _,H,I,rfl,?_⟩
  rw [show its.toArray.any (uM x)=its.any (uM x) by simp,kO r fs]
  exact q
theorem aH:dh X (.builtin "len") (λ xs H Q=>∃ p ys,xs=[.ref p]/\(ÿ X.K H p ys\/č X.K H p ys)/\Q (.int ys.length) H):=by
 intro pins s σ H xs us Q I r h;obtain⟨p,ys,rfl,hq,q⟩:=h;obtain⟨u,rfl,rx⟩:=dH r;cases rx;have hn:=kK;rcases hq with hq | hq
 ·obtain⟨its,r',pl,hz⟩:=I.list hq;have ĩ:=r'.length;exact Calls.call_len_list pl.isList (by simp only [List.size_toArray] <;> omega) ⟨.int ys.length,H,I.tok _,⟨s.toks+1,by rw [Ü,ĩ]⟩,q⟩
 ·obtain⟨its,r',pl,hz⟩:=I.tuple hq;have ĩ:=r'.length;exact len_tuple pl (by simp only [List.size_toArray] <;> omega) ⟨.int ys.length,H,I.tok _,⟨s.toks+1,by rw [Ü,ĩ]⟩,q⟩
theorem j7:dh X (.type "list") (λ xs H Q=>∃ p ys,xs=[.ref p]/\(ÿ X.K H p ys\/č X.K H p ys)/\∀ l,H l=none->Q (.ref l) (aj H l (.lst ys))):=by
 intro pins s σ H xs us Q I r h;obtain⟨p,ys,rfl,hq,q⟩:=h;obtain⟨u,rfl,rx⟩:=dH r;cases rx;have fin:∀(its:List Value),Vals ys its->ys.length<=sizeLine->∀(h':Heap)(c':Nat),(∀ b o',s.heap.get? b=some o'->h'.get? b=some o') ->
   h'.get? s.heap.objs.size=some { cls:=.type "list",dict:=none,data:=.seq its.toArray c',slots:=#[] }->EP X pins σ Q (.ref s.heap.objs.size) { s with heap:=h' }:=λ its r' hz h' c' kp e =>
  ⟨.ref s.heap.objs.size,_,I.laid (t':=s.toks) kp (Ç _) (show ñ X.prog X.w _ h' _ (.lst ys) from⟨hz,its,c',r',e⟩),rfl,q _ (I.þ.fresh (Ç _))⟩
 rcases hq with hq | hq
 ·obtain⟨its,r',pl,hz⟩:=I.list hq;have ĩ:=r'.length;obtain⟨o,ho,hc,n,hd⟩:=pl.isList;exact call_list_seq p (.inl rfl) ho hc hd (λ h' c' kp e=>fin its r' hz h' c' kp e) (by simp only [List.size_toArray] <;> omega)
 ·obtain⟨its,r',pl,hz⟩:=I.tuple hq;have ĩ:=r'.length;obtain⟨o,ho,hc,n,hd⟩:=pl;exact call_list_seq p (.inr rfl) ho hc hd (λ h' c' kp e=>fin its r' hz h' c' kp e) (by simp only [List.size_toArray] <;> omega)
theorem dY:dh X (.type "tuple") (λ xs H Q=>∃ p ys,xs=[.ref p]/\((ÿ X.K H p ys/\∀ l,H l=none->Q (.ref l) (aj H l (.tup ys)))\/(č X.K H p ys/\Q (.ref p) H))):=by
 intro pins s σ H xs us Q I r h;obtain⟨p,ys,rfl,h⟩:=h;obtain⟨u,rfl,rx⟩:=dH r;cases rx;rcases h with⟨hq,q⟩ | ⟨hq,q⟩
 ·obtain⟨its,r',pl,hz⟩:=I.list hq;have ĩ:=r'.length;refine call_tuple_list pl.isList (λ h' kp=>?_) (by simp only [List.size_toArray] <;> omega)
  have I1:Inv X pins σ H { s with heap:=h' }:=I.kept (t':=s.toks) kp
  have I2:Inv X pins σ (aj H h'.objs.size (.tup ys)) { s with heap:=h'.push { cls:=.type "tuple",data:=.seq its.toArray } } :=
   I1.laid (t':=s.toks) (λ b o e=>Â _ e) (Ç _) (show ñ X.prog X.w _ _ _ (.tup ys) from⟨hz,its,r',IsTup.new _ _⟩)
  exact⟨.ref h'.objs.size,_,I2,rfl,q _ (I1.þ.fresh (Ç _))⟩
 ·obtain⟨its,r',pl,hz⟩:=I.tuple hq;exact call_tuple_same pl ⟨.ref p,H,I,rfl,q⟩
def HJ (K:PySem.W.Frag)(T:String)(x:V)(H:Hp):Prop:=match x with
 | .str _=>T = "str"
 | .int _=>T = "int"
 | .ref p=>(T = "list" /\ ∃ xs,ÿ K H p xs)\/(T = "tuple" /\ ∃ o,K.lookup p=some o/\o.cls=.type "tuple" /\ o.dict=none) \/
   (T = "dict" /\ ((∃ kvs,H p=some (.dK kvs))\/∃ kvs,H p=some (.dT kvs)))\/(T = "set" /\ ∃ S n,H p=some (.set S n))
 | _=>False
theorem Bl {pins:List (Addr × Obj)}{σ:St}{H:Hp}{s:Shared}{T:String}{x:V}{v:Value}(I:Inv X pins σ H s)(r:RelV x v)(ty:HJ X.K T x H) :
  s.TypeIs v T/\∀ a,v=.ref a->∃ ob,s.heap.get? a=some ob/\ob.dict=none:=by
 cases x with
 | str z =>
  obtain⟨t,rfl⟩:=r;cases (show T = "str" from ty);exact⟨typeIs_str s z t,λ _ e=>nomatch e⟩
 | int i =>
  obtain⟨t,rfl⟩:=r;cases (show T = "int" from ty);exact⟨typeIs_int s i t,λ _ e=>nomatch e⟩
 | ref p =>
  cases r;rcases ty with⟨rfl,xs,hq⟩ | ⟨rfl,o,hk,hc,hd⟩ | ⟨rfl,hk⟩ | ⟨rfl,S,n,hk⟩
  ·obtain⟨its,_,pl,_⟩:=I.list hq;refine⟨pl.isList.typeIs,λ a e=>?_⟩;cases e;obtain⟨o,n,e,c,hd,_⟩:=pl;exact⟨o,e,hd⟩
  ·refine⟨⟨o,I.Ņ p o hk,hc⟩,λ a e=>?_⟩;cases e;exact⟨o,I.Ņ _ o hk,hd⟩
  ·have z:∃ o,s.heap.get? p=some o/\o.ExactDict:=by
    rcases hk with⟨kvs,hk⟩ | ⟨kvs,hk⟩
    ·obtain⟨_,_,_,_,o,_,_,e,ex,_⟩:=I.þ p _ hk;exact⟨o,e,ex⟩
    ·obtain⟨_,_,_,_,o,_,_,e,ex,_⟩:=I.þ p _ hk;exact⟨o,e,ex⟩
   obtain⟨o,e,ex⟩:=z;refine⟨⟨o,e,ex.1⟩,λ a e2=>?_⟩;cases e2;exact⟨o,e,ex.2.1⟩
  ·obtain⟨o,_,_,_,e,ex,_⟩:=I.þ p _ hk;refine⟨⟨o,e,ex.1⟩,λ a e2=>?_⟩;cases e2;exact⟨o,e,ex.2.1⟩
 | _=>exact False.elim ty
def BF (K:PySem.W.Frag)(T:String)(r:V->List V->Hp->VK->Prop)(to:TE)(t:TA):TE:=λ σ H Q=>to σ H λ x H1=>HJ K T x H1/\t σ H1 λ xs H2=>r x xs H2 Q
variable {o e:Expr}{es:List Expr}{to:TE}{t:TA}{name:Str}{œ Ŷ:Pos}{T id:String}{r:V->List V->Hp->VK->Prop}
theorem iX (pa:PlainAttrs T)(slot:Slot T name id)(Xh:typeOf (.builtin id)=pure (.type "method_descriptor")) (hm:GJ X id r) (ho:PE X o to) (ha:PA X (e::es) t)
  (Ph:attributeBase o name X.env (eval o X.env)=eval o X.env:=by rfl)
  (RN:((backTo Ŷ (starEach (e::es) X.env)).all (λ x=>!x.1)&&(backToKw Ŷ (keywordEach [] X.env)).all (λ x=>x.1.isSome)
   && decide ((e::es).length+([]:List Keyword).length+(if([]:List Keyword).isEmpty then 0 else 1)<30))=true:=by rfl)
  (Pb:(œ.endLine == Ŷ.line)=true:=by rfl) (hs:starEach (e::es) X.env=(false,eval e X.env)::starEach es X.env:=by rfl) (Nw:(backTo Ŷ (starEach es X.env)).any (·.1)=false:=by rfl) :
  PE X (.Call (.Attribute o name œ) (e::es) [] Ŷ) (BF X.K T r to t):=by
 intro pins s σ H Q I h;refine wpAny_Call_method_late Ph RN Pb rfl (aW (ho pins s σ H _ I h) λ v s1 ⟨x,H1,I1,r1,ty,q1⟩=>?_);obtain⟨h1,h2⟩:=Bl I1 r1 ty;refine⟨T,id,pa,slot,Xh,h1,h2,?_⟩;have hA:=ha Ŷ pins s1 σ H1 _ I1 q1;rw [hs] at hA ⊢;refine Calls.callWith_builtin (by show(false||(backTo Ŷ (starEach es X.env)).any (·.1))=false;rw [Nw] <;> rfl) (Calls.evalArgs_plain ?_)
 exact aW hA λ us s2 ⟨vs,H2,I2,r2,q2⟩=>hm pins s2 σ H2 x vs v us Q I2 r1 r2 q2
end
def Ij (X:Cx)(id:String)(r:V->List V->Hp->VK->Prop):Prop :=
 ∀(pins:List (Addr × Obj))(s:Shared)(σ:St)(H:Hp)(x:V)(xs:List V)(v:Value)(us:List Value)(Q:VK),Inv X pins σ H s->RelV x v->Vals xs us->r x xs H Q ->
  wpAny (model X.prog X.w) X.A (call (.builtin id) (v::us)) (EP X pins σ Q) X.xe s
theorem Vals.one:∀{x:V}{us:List Value},Vals [x] us->∃ u,us=[u]/\RelV x u
 | _,_,.cons r .nil=>⟨_,rfl,r⟩
section
variable {X:Cx}{pins:List (Addr × Obj)}{σ:St}{H:Hp}{s:Shared}{l b:Addr}{xs ys zs:List V}
theorem Inv.Q_ {its its':List Value}{n:Nat}{f:Array Value->Array Value}{t':Nat}(I:Inv X pins σ H s)(hH:H l=some (.lst xs))
  (e:s.heap.get? l=some { cls:=.type "list",data:=.seq its.toArray n }) (hf:f its.toArray=its'.toArray) (hv:Vals ys its') (hz:ys.length<=sizeLine) :
  Inv X pins σ (aj H l (.lst ys)) { s with heap:=s.heap.update l (Obj.mapSeq f),toks:=t' }:=by
 have q:=PySem.IsL.update e f;rw [hf] at q;refine I.write (x:=l) (e:=l) (by rw [hH];exact trivial) (.inl rfl) (λ b' u hb hu=>(Heap.get?_update_other s.heap (Obj.mapSeq f) (Ne.symm hb)).trans hu) ⟨_,q⟩ ?_
 exact⟨hz,its',_,hv,q⟩
theorem Inv.OZ {its:List Value}{t':Nat}(I:Inv X pins σ H s)(hv:Vals ys its)(hz:ys.length<=sizeLine) :
  Inv X pins σ (aj H s.heap.objs.size (.lst ys)) { s with heap:=s.heap.push { cls:=.type "list",data:=.seq its.toArray },toks:=t' } :=
 I.laid (λ _ _ q=>Â _ q) (Ç _) ⟨hz,its,0,hv,Ë _ rfl⟩
theorem Inv.fresh (I:Inv X pins σ H s):H s.heap.objs.size=none:=I.þ.fresh (Ç _)
theorem Inv.Nq (I:Inv X pins σ H s)(hH:H l=some (.lst xs)):xs.length<=sizeLine/\∃(its:List Value)(n:Nat),Vals xs its/\xs.length=its.length/\s.heap.get? l=some { cls:=.type "list",data:=.seq its.toArray n }:=by
 obtain⟨z,its,n,r,e⟩:=I.þ l _ hH;exact⟨z,its,n,r,r.length,e⟩
end
section
variable {X:Cx}
def ix:V->List V->Hp->VK->Prop:=λ x vs H Q=>∃ l xs y,x=.ref l/\vs=[y]/\H l=some (.lst xs)/\xs.length<sizeLine/\Q .ô (aj H l (.lst (xs ++ [y])))
theorem dv:Ij X "list.append" ix:=by
 intro pins s σ H x vs v us Q I rx rv h;obtain⟨l,xs,y,rfl,rfl,hH,hz,q⟩:=h;cases rx;obtain⟨u,rfl,ru⟩:=rv.one;obtain⟨z,its,n,r,hl,e⟩:=I.Nq hH;refine call_meets F.slot_list_append ⟨_,e,rfl⟩ F.entry_list_append (F.args_list_append_2 _ _) (PySem.list_append l its.toArray n u (by rw [Ü];omega)) ⟨e,?_⟩
 refine⟨.ô,_,I.Q_ (its':=its ++ [u]) hH e (by simp) (r.append (.cons ru .nil)) ?_,rfl,q⟩
 rw [Ý,List.length_singleton];omega
def eC:R2:=λ x y H Q=>∃ l b xs zs,x=.ref l/\y=.ref b/\H l=some (.lst xs)/\H b=some (.lst zs)/\xs.length+zs.length<=sizeLine/\∀ p,H p=none->Q (.ref p) (aj H p (.lst (xs++zs)))
theorem dI:gv X (binaryOp .Add) eC:=by
 intro pins s σ H x y v u Q I rx ry h;obtain⟨l,b,xs,zs,rfl,rfl,hH,hB,hz,q⟩:=h;cases rx;cases ry;obtain⟨z,its,n,r,hl,e⟩:=I.Nq hH;obtain⟨z2,O2,n2,r2,Jg,e2⟩:=I.Nq hB;refine PySem.P.add_list e e2 ?_ (by rw [Ü,Ü];omega)
 have ea:its.toArray++O2.toArray=(its++O2).toArray:=by simp
 rw [ea];exact⟨.ref _,_,I.OZ (t':=s.toks) (r.append r2) (by rw [Ý];omega),rfl,q _ I.fresh⟩
end
section
variable {κ:Type} [DecidableEq κ]
def cP (kvs:List (κ × V))(k:κ):Option V:=(kvs.find? λ kv=>decide (kv.1=k)).map (·.2)
def eI (kvs:List (κ × V))(k:κ)(v:V):List (κ × V) :=
 if(kvs.any λ kv=>decide (kv.1=k))=true then kvs.map (λ kv=>if kv.1=k then(kv.1,v) else kv) else kvs ++ [(k,v)]
theorem bN {p:κ × V}{r:List (κ × V)}{k:κ}(e:p.1=k):cP (p::r) k=some p.2:=by simp [cP,List.find?_cons,e]
theorem bO {p:κ × V}{r:List (κ × V)}{k:κ}(e:¬ p.1=k):cP (p::r) k=cP r k:=by simp [cP,List.find?_cons,e]
theorem eK (k:κ):∀ kvs:List (κ × V),(kvs.any λ kv=>decide (kv.1=k))=(cP kvs k).isSome
 | []=>rfl
 | p::r=>by
  rw [ž];by_cases e:p.1=k
  ·simp only [bN e,decide_eq_true e,Bool.true_or,Option.isSome_some]
  ·rw [bO e,Å e,Bool.false_or];exact eK k r
theorem lg (k j:κ)(y:V):∀ kvs:List (κ × V),cP (kvs.map λ kv=>if kv.1=k then(kv.1,y) else kv) j=(cP kvs j).map λ x=>if j=k then y else x
 | []=>rfl
 | p::r=>by
  have ih:=lg k j y r;rw [Ė];by_cases h:p.1=k
  ·rw [Ï h];by_cases e:p.1=j
   ·rw [bN (p:=(p.1,y)) e,bN e,ŝ,Ï (e.symm.trans h)]
   ·rw [bO (p:=(p.1,y)) e,bO e,ih]
  ·rw [Ì h];by_cases e:p.1=j
   ·rw [bN (p:=p) e,bN e,ŝ,Ì (λ z=>h (e.trans z))]
   ·rw [bO (p:=p) e,bO e,ih]
theorem jV (k j:κ)(y:V):∀ kvs:List (κ × V),cP kvs k=none->cP (kvs ++ [(k,y)]) j=if j=k then some y else cP kvs j
 | [],_=>by
  by_cases e:k=j
  ·rw [Ï e.symm];exact bN (p:=(k,y)) e
  ·rw [Ì (λ z=>e z.symm)];exact bO (p:=(k,y)) e
 | p::r,hn=>by
  rw [List.cons_append];have hk:¬ p.1=k:=λ z=>by rw [bN z] at hn;cases hn
  rw [bO hk] at hn;have ih:=jV k j y r hn;by_cases e:p.1=j
  ·rw [bN e,bN e,Ì (λ z=>hk (e.trans z))]
  ·rw [bO e,bO e,ih]
theorem rP (kvs:List (κ × V))(k j:κ)(y:V):cP (eI kvs k y) j=if j=k then some y else cP kvs j:=by
 unfold eI;by_cases a:(kvs.any λ kv=>decide (kv.1=k))=true
 ·rw [Ï a,lg];rw [eK] at a;by_cases e:j=k
  ·obtain⟨x,hx⟩:=Ĩ.mp a;rw [Ï e,e,hx,ŝ,Ï rfl]
  ·rw [Ì e];cases cP kvs j with
   | none=>rfl
   | some x=>rw [ŝ,Ì e]
 ·rw [Ì a];refine jV k j y kvs ?_;rw [eK] at a;cases q:cP kvs k with
  | none=>rfl
  | some x=>rw [q] at a;exact(a rfl).elim
theorem dU (kvs:List (κ × V))(k:κ)(v:V):(eI kvs k v).length<=kvs.length+1:=by
 unfold eI;split
 ·rw [Æ];omega
 ·rw [Ý,å,KF];omega
theorem lH {kvs:List (κ × V)}{k:κ}(v:V)(h:cP kvs k=none):eI kvs k v=kvs ++ [(k,v)]:=by
 unfold eI;rw [eK,h];exact Ì ag
theorem Ţ.H_ {o:Option V}{u:Option Value}(r:Ţ o u):o.isSome=u.isSome:=by
 cases o with
 | none=>cases u with
  | none=>rfl
  | some _=>exact(show False from r).elim
 | some _=>cases u with
  | none=>exact(show False from r).elim
  | some _=>rfl
theorem KV.val {kvs:List (κ × V)}{vs:List (κ × Value)}(r:KV kvs vs)(k:κ):Ţ (cP kvs k) (valueAt vs k):=by
 unfold KV at r
 induction r with
 | nil=>exact True.intro
 | @cons p q ps qs h t ih =>
  obtain⟨h1,h2⟩:=h;by_cases e:p.1=k
  ·have e':q.1=k:=h1.symm.trans e;have b:valueAt (q::qs) k=some q.2:=by simp [valueAt,List.find?_cons,e']
   rw [bN e,b];exact h2
  ·have e':¬ q.1=k:=λ z=>e (h1.trans z);have b:valueAt (q::qs) k=valueAt qs k:=by simp [valueAt,List.find?_cons,e']
   rw [bO e,b];exact ih
theorem KV.any {kvs:List (κ × V)}{vs:List (κ × Value)}(r:KV kvs vs)(k:κ):(kvs.any λ kv=>decide (kv.1=k))=vs.any λ kv=>decide (kv.1=k):=by
 unfold KV at r
 induction r with
 | nil=>rfl
 | cons h t ih=>rw [ž,ž,ih,h.1]
theorem KV.QI {kvs:List (κ × V)}{vs:List (κ × Value)}(r:KV kvs vs)(k:κ){y:V}{u:Value}(ry:RelV y u) :
  KV (kvs.map λ kv=>if kv.1=k then(kv.1,y) else kv) (vs.map λ kv=>if kv.1=k then(kv.1,u) else kv):=by
 unfold KV at r ⊢
 induction r with
 | nil=>exact .nil
 | @cons p q ps qs h t ih =>
  rw [Ė,Ė];refine .cons ?_ ih;obtain⟨h1,h2⟩:=h;by_cases e:p.1=k
  ·rw [Ï e,Ï (h1.symm.trans e)];exact⟨h1,ry⟩
  ·rw [Ì e,Ì (λ z=>e (h1.trans z))];exact⟨h1,h2⟩
theorem KV.put {kvs:List (κ × V)}{vs:List (κ × Value)}(r:KV kvs vs)(k:κ){y:V}{u:Value}(ry:RelV y u):KV (eI kvs k y) (stored vs k u):=by
 unfold eI stored;rw [r.any k];by_cases e:(vs.any λ kv=>decide (kv.1=k))=true
 ·rw [Ï e,Ï e];exact r.QI k ry
 ·rw [Ì e,Ì e];exact Paired.snoc r ⟨rfl,ry⟩
theorem KV.length {kvs:List (κ × V)}{vs:List (κ × Value)}(r:KV kvs vs):kvs.length=vs.length:=ď r
end
theorem jE {P:Program}{w:World}{k:Key}{u:Value}(r:RelV (kV k) u):(aL P w).is k u=true:=by
 cases k with
 | inl i=>obtain⟨t,e⟩:=(show ∃ t,u=Value.int i t from r);subst e;exact lB P w i t
 | inr x=>obtain⟨t,e⟩:=(show ∃ t,u=Value.str x t from r);subst e;exact mh P w x t
 | ô=>cases (show u=Value.none from r);rfl
theorem jQ {P:Program}{w:World}:∀{ks:List Key}{us:List Value},Vals (ks.map kV) us->ItemsAre (aL P w) ks us
 | [],_,r=>by rw [M7] at r;cases r;exact .nil
 | k::ks,_,r=>by
  rw [Ė] at r;cases r with
  | cons h t=>exact .cons (jE h) (jQ t)
abbrev KT (H:Hp):List (List NK × V)->List (List NK × Addr × Value)->Prop:=Paired λ p q=>p.1=q.1/\NM H p.1 q.2.1/\RelV p.2 q.2.2
theorem KT.val {H:Hp}{kvs:List (List NK × V)}{xs:List (List NK × Addr × Value)}(r:KT H kvs xs)(k:List NK):Ţ (cP kvs k) ((atKey xs k).map (·.2)):=by
 induction r with
 | nil=>exact True.intro
 | @cons p q ps qs h t ih =>
  obtain⟨h1,_,h2⟩:=h;by_cases e:p.1=k
  ·have e':q.1=k:=h1.symm.trans e;have b:atKey (q::qs) k=some q.2:=by simp [atKey,List.find?_cons,e']
   rw [bN e,b];exact h2
  ·have e':¬ q.1=k:=λ z=>e (h1.trans z);have b:atKey (q::qs) k=atKey qs k:=by simp [atKey,List.find?_cons,e']
   rw [bO e,b];exact ih
section
variable {P:Program}{w:World}{H:Hp}{h:Heap}{a:Addr}
theorem xE {u:HO}(ok:ţ P w H h)(e:Rd H a u):ñ P w H h a u:=e.ok ok
theorem lF {kvs:List (Key × V)}(ok:ţ P w H h)(e:Rd H a (.dK kvs)):kvs.length<=sizeLine/\(a==sysModules)=false/\∃ vs,KV kvs vs/\h.DictOf (aL P w) a vs :=
 show ñ P w H h a (.dK kvs) from xE ok e
theorem xI {kvs:List (Key × V)}(ok:ţ P w H h)(e:H a=some (.dK kvs)):kvs.length<=sizeLine/\(a==sysModules)=false/\∃ vs,KV kvs vs/\h.DictOf (aL P w) a vs:=lF ok (.inl e)
theorem ng {ks:List NK}(ok:ţ P w H h)(e:NM H ks a):(ky P w).is h ks a:=by
 obtain⟨vs,e,r⟩:=e;obtain⟨lz,its,rv,o,h1,h2,n,h3⟩:=(show ñ P w H h a (.tup vs) from ok a _ e);refine⟨o,its.toArray,n,h1,h2,h3,?_⟩;show Paired (fR P w h) ks its
 clear h3 e lz
 induction r generalizing its with
 | nil=>cases rv;exact .nil
 | @cons k v ks vs z t ih =>
  cases rv with
  | cons rx rv =>
   refine .cons ?_ (ih _ rv);cases k with
   | k x =>
    cases (show v=kV x from z);exact jE rx
   | t ks =>
    obtain⟨b,rfl,q⟩:=z;cases rx;obtain⟨_,its,r,o,h1,h2,n,h3⟩:=(show ñ P w H h b (.tup (ks.map kV)) from ok b _ q);exact⟨b,rfl,o,its.toArray,n,h1,h2,h3,by simpa using jQ r⟩
theorem uB {kvs:List (List NK × V)}(ok:ţ P w H h)(e:Rd H a (.dT kvs)):kvs.length<=sizeLine/\(a==sysModules)=false /\
  ∃ xs,KT H kvs xs/\h.DictOfH (ky P w) a xs:=by
 obtain⟨z,y,xs,r,o,es,ep,h1,h2,h3,h4,h5⟩:=(show ñ P w H h a (.dT kvs) from xE ok e);refine⟨z,y,xs,r,o,es,ep,h1,h2,h3,h4,λ x hx=>?_,h5⟩;have all:∀{l:List (List NK × V)}{m:List (List NK × Addr × Value)},KT H l m->∀ x∈m,(ky P w).is h x.1 x.2.1:=by
  intro l m q
  induction q with
  | nil=>intro x hx;exact nomatch hx
  | @cons p q ps qs hq t ih =>
   intro x hx;rcases ß.mp hx with e | hx
   ·subst e;exact ng ok (by rw [<- hq.1];exact hq.2.1)
   ·exact ih x hx
 exact all r x hx
end
def C_ (H:Hp)(a:Addr)(y:V)(r:Option V):Prop :=
 (∃ kvs k,Rd H a (.dK kvs)/\y=kV k/\r=cP kvs k)\/∃ kvs k b,Rd H a (.dT kvs)/\y=.ref b/\NM H k b/\r=cP kvs k
theorem C_.k {H:Hp}{a:Addr}{kvs:List (Key × V)}{k:Key}(e:H a=some (.dK kvs)):C_ H a (kV k) (cP kvs k):=.inl ⟨kvs,k,.inl e,rfl,rfl⟩
section
variable {X:Cx}{pins:List (Addr × Obj)}{σ:St}{H:Hp}{s:Shared}{a:Addr}{y v:V}{u r:Value}{o:Option V}{A:Around}{E:bz}
theorem Inv.big (I:Inv X pins σ H s):sysModules<s.heap.objs.size:=by
 have h:mainGlobals<s.heap.objs.size:=(I.mod.glob.keeps I.bk).lt;exact ļ ag h
theorem ql {Q:bz}(hu:A.units+2<cLine)(I:Inv X pins σ H s)(g:C_ H a y (some v))(ry:RelV y u)(h:∀ w' s',Inv X pins σ H s'->RelV v w'->Q w' s') :
  wpAny (model X.prog X.w) A (getItem (.ref a) u) Q E s:=by
 rcases g with⟨kvs,k,e,ey,l⟩ | ⟨kvs,k,b,e,ey,eb,l⟩
 ·subst ey;obtain⟨z,hd,vs,rel,dd⟩:=lF I.þ e;obtain⟨w',hw,Kh⟩:=Ţ.some_of (v:=v) (o:=valueAt vs k) (by rw [l];exact rel.val k)
  exact wpAny_getItem_of (jE ry) dd.mapOf hw (h w' _ (I.tok _) Kh)
 ·subst ey;cases (show u=Value.ref b from ry);obtain⟨z,hd,xs,rel,dd⟩:=uB I.þ e;obtain⟨w',hw,Kh⟩:=Ţ.some_of (v:=v) (o:=(atKey xs k).map (·.2)) (by rw [l];exact rel.val k)
  obtain⟨p,hp,Xv⟩:=Ě.mp hw;refine wpAny_getItem_heap hu (ng I.þ eb) dd hp ?_;rw [Xv];exact h w' _ (I.tok _) Kh
theorem vh {Q:bz}(hu:A.units+2<cLine)(I:Inv X pins σ H s)(g:C_ H a y o)(ry:RelV y u)(h:∀ s',Inv X pins σ H s'->Q (.bool (!o.isSome)) s') :
  wpAny (model X.prog X.w) A (compareOp .NotIn u (.ref a)) Q E s:=by
 rcases g with⟨kvs,k,e,ey,l⟩ | ⟨kvs,k,b,e,ey,eb,l⟩
 ·subst ey;obtain⟨z,hd,vs,rel,dd⟩:=lF I.þ e;refine wpAny_notIn_of (jE ry) hd dd.mapOf ?_;rw [<- (rel.val k).H_,<- l];exact h _ (I.tok _)
 ·subst ey;cases (show u=Value.ref b from ry);obtain⟨z,hd,xs,rel,dd⟩:=uB I.þ e;refine wpAny_notIn_heap hu (ng I.þ eb) hd dd ?_;have q:=(rel.val k).H_;rw [Option.isSome_map] at q;rw [<- q,<- l];exact h _ (I.tok _)
theorem pF {h':Heap}{t':Nat}{ob:HO}(I:Inv X pins σ H s)(mu:DS (H a))(hs:Heap.SameBut a s.heap h')(he:∃ q,h'.get? a=some q)(new:ñ X.prog X.w (aj H a ob) h' a ob) :
  Inv X pins σ (aj H a ob) { s with heap:=h',toks:=t' } :=
 I.write (x:=a) (e:=a) mu (.inl rfl) (λ b q hb z=>(hs.2 b hb).trans z) he new
theorem tR {P:Program}{w:World}{H':Hp}{h':Heap}{kvs:List (Key × V)}{vs:List (Key × Value)}(z:kvs.length<=sizeLine)(hd:(a==sysModules)=false)(rel:KV kvs vs)(dd:h'.DictOf (aL P w) a vs) :
  ñ P w H' h' a (.dK kvs):=⟨z,hd,vs,rel,dd⟩
end
def Cy (i:Expr):Prop:=∀ ov iv,subscripted i false ov iv=operate [ov,iv] (getItem ov iv)
theorem vL {prog:Program}{w:World}{A:Around}{E:bz}{s:Shared}{env:Env}{value slice:Expr}{pos:Pos}{T id:String}{Q:bz}
  (hl:typeLookup (.type T) "__getitem__" = pure (some (.builtin id))) (hs:Cy slice)
  (h:wpAny (model prog w) A (eval value env) (λ o ü=>wpAny (model prog w) A (eval slice env) (λ i Ų=>Ų.TypeIs o T/\wpAny (model prog w) A (getItem o i) Q E Ų) E ü) E s) :
  wpAny (model prog w) A (eval (.Subscript value slice pos) env) Q E s:=by
 refine Subscript_ (Ğ h (λ o ü Ω=>Ğ Ω (λ i Ų Ja=>?_) λ _ _ x=>x) λ _ _ x=>x);obtain⟨hT,Ja⟩:=Ja;unfold subscriptTail;refine À ?_;rw [getitemInPython_of_ne hT.not_modules];refine À (ŏ hT hl ?_);have fin:wpAny (model prog w) A (subscripted slice false o i) (λ r d_=>wpAny (model prog w) A (letTemporaryGo value o r >>= λ _=>pure r) Q E d_) E Ų:=by
  rw [hs o i];exact wpAny_operating (Ğ Ja (λ r d_ I_=>À (wpAny_letTemporaryGo (Ã I_))) λ _ _ x=>x)
 first
  | exact Ã (À fin)
  | exact À (Ã (À fin))
  | exact À fin
theorem mq {X:Cx}{pins:List (Addr × Obj)}{σ:St}{H:Hp}{s:Shared}{a:Addr}{y:V}{o:Option V}(I:Inv X pins σ H s)(g:C_ H a y o):s.TypeIs (.ref a) "dict" := by
 rcases g with⟨kvs,k,e,_,_⟩ | ⟨kvs,k,b,e,_,_,_⟩
 ·obtain⟨_,_,vs,_,dd⟩:=lF I.þ e;exact dd.typeIs
 ·obtain⟨_,_,xs,_,dd⟩:=uB I.þ e;exact dd.typeIs
def xj (td ty:TE):TE:=λ σ H Q=>td σ H λ x H1=>ty σ H1 λ y H2=>∃ a v,x=.ref a/\C_ H2 a y (some v)/\Q v H2
def oZ (ty td:TE):TE:=λ σ H Q=>ty σ H λ y H1=>td σ H1 λ x H2=>∃ a o,x=.ref a/\C_ H2 a y o/\Q (.bl (!o.isSome)) H2
section
variable {X:Cx}{o i e value:Expr}{pos pos' QD:Pos}{td ty tv:TE}
theorem wK (hu:X.A.units+2<cLine)(ho:PE X o td)(hi:PE X i ty)(hs:Cy i:=by exact λ _ _=>rfl):PE X (.Subscript o i pos) (xj td ty):=by
 intro pins s σ H Q I h;refine vL PySem.F.slot_dict_getitem.lookup hs (aW (ho pins s σ H _ I h) λ u s1 ⟨x,H1,I1,rx,q1⟩=>aW (hi pins s1 σ H1 _ I1 q1) λ iv s2 ⟨y,H2,I2,ry,a,v,ex,g,q2⟩=>?_);subst ex;obtain rfl:u=Value.ref a:=rx;exact⟨mq I2 g,ql hu I2 g ry λ w' s3 I3 Kh=>⟨v,H2,I3,Kh,q2⟩⟩
theorem pN (hu:X.A.units+2<cLine)(hi:PE X i ty)(ho:PE X o td):PC X .NotIn i o (oZ ty td):=by
 intro pins s σ H Q I h;refine aW (hi pins s σ H _ I h) λ iv s1 ⟨y,H1,I1,ry,q1⟩=>aW (ho pins s1 σ H1 _ I1 q1) λ u s2 ⟨x,H2,I2,rx,a,ov,ex,g,q2⟩=>?_;subst ex;obtain rfl:u=Value.ref a:=rx;exact vh hu I2 g ry λ s3 I3=>⟨.bl (!ov.isSome),H2,I3,rfl,q2⟩
end
theorem jj {P:Program}{w:World}{H:Hp}(h:Heap)(hb:sysModules<h.objs.size):ñ P w H (h.push { cls:=.type "dict",data:=.dict #[] }) h.objs.size (.dK []) :=
 ⟨Ź _,Þ.mpr (Ne.symm (Ñ hb)),[],.nil,Heap.DictOf.new h⟩
def nF:TE:=λ _ H Q=>∀ p,H p=none->Q (.ref p) (aj H p (.dK []))
section
variable {X:Cx}{pos:Pos}
theorem rF:PE X (.Dict [] [] pos) nF:=λ pins s σ H Q I h =>
 wpAny_Dict_empty ⟨.ref s.heap.objs.size,_,I.laid (a:=s.heap.objs.size) (o:=.dK []) (t':=s.toks) (λ _ _ q=>Â _ q) (Ç _) (jj s.heap I.big),rfl,h _ (I.þ.fresh (Ç _))⟩
end
structure M1 (X:Cx)(o:Expr)(m:Str)(œ:Pos)(e:Expr)(Ŷ:Pos):Prop where
 base:attributeBase o m X.env (eval o X.env)=eval o X.env
 YJ:((backTo Ŷ (starEach [e] X.env)).all (λ x=>!x.1)&&(backToKw Ŷ (keywordEach [] X.env)).all (λ x=>x.1.isSome)
  && decide (([e]:List Expr).length+([]:List Keyword).length+(if([]:List Keyword).isEmpty then 0 else 1)<30))=true
 line:(œ.endLine == Ŷ.line)=true
 trees:backTo Ŷ (starEach [e] X.env)=[(false,eval e X.env)]
structure M2 (X:Cx)(o:Expr)(m:Str)(œ:Pos)(e f:Expr)(Ŷ:Pos):Prop where
 base:attributeBase o m X.env (eval o X.env)=eval o X.env
 YJ:((backTo Ŷ (starEach [e,f] X.env)).all (λ x=>!x.1)&&(backToKw Ŷ (keywordEach [] X.env)).all (λ x=>x.1.isSome)
  && decide (([e,f]:List Expr).length+([]:List Keyword).length+(if([]:List Keyword).isEmpty then 0 else 1)<30))=true
 line:(œ.endLine == Ŷ.line)=true
 trees:backTo Ŷ (starEach [e,f] X.env)=[(false,eval e X.env),(false,eval f X.env)]
end L2
namespace Att
open PySem PySem.W PySem.Calls PyProof.Rows
theorem ic {P:Params}{h:Heap}:∀(ns:List Int)(vs:List Value),WellAll P h vs (ns.map WData.int)->IntsAre vs ns:=by
 intro ns
 induction ns with
 | nil =>
  intro vs w;rw [M7] at w;cases w;exact .nil
 | cons n ns ih =>
  intro vs w;rw [Ė] at w;cases w with
  | cons a b =>
   cases a;exact .cons _ _ (ih _ b)
theorem qL {l:OpenLaw}{n:Nat}(hn:l.most=some n){P:Params}{h:Heap}{args:List WData}{vals:List Value}
  (Mc:l.row.toRowW.claim.pre args=true) (Rq:WellAll P h vals args) :
  ∃ a vs ns,vals=[Value.ref a]/\args=[WData.list (ns.map WData.int)]/\h.get? a=some { cls:=.type "list",data:=.seq vs.toArray }/\IntsAre vs ns/\ns.length<=n:=by
 have Xn:WShape.hasAll [] args [.list .int]=true:=(pre_splitW Mc).1;have hc:l.pre.holds [] { args:=args }=true:=(pre_splitW Mc).2;obtain⟨d,r,rfl,h1,h2⟩:=hasAllW_cons Xn;obtain rfl:=hasAllW_nil h2;obtain⟨xs,rfl,h3⟩:=hasW_list h1;obtain⟨ns,rfl⟩:=items_int h3;have ĩ:ns.length<=n:=by
  unfold OpenLaw.pre at hc;have h4:(WTm.not (.lt (.lit (.int (n:Int))) (.len (.arg 0)))).holds [] { args:=[.list (ns.map .int)] }=true:=by
   have h4:=(holds_andW hc).1;rw [hn] at h4;exact h4
  have h5:=condW_of h4 (w_not (w_lt w_lit (w_len_list (w_arg rfl))));rw [Æ] at h5;refine Nat.le_of_not_lt λ q=>?_;have q':(n:Int)<((ns.length:Nat):Int):=ae
  first
   | (rw [Ä q'] at h5;exact absurd h5 ag)
   | (simp at h5;omega)
 cases Rq with
 | cons w1 w2 =>
  cases w2;cases w1 with
  | list ho Mh=>exact⟨_,_,ns,rfl,rfl,ho,ic ns _ Mh,ĩ⟩
theorem pP (l:OpenLaw)(args:List WData):l.row.toRowW.claim.post args (.bool true) args=true :=
 postW_of (r:=l.row.toRowW) (X:=(true==true))
  (show WShape.has [] (.bool true) .bool=true by first | rfl | decide | simp [WShape.has,WShape.arms,WShape.armsAll])
  (show(WTm.eq .res (.lit (.bool true))).value [] { args:=args,res:=some (.bool true),after:=args }=some (.bool (true==true)) from w_eq_bool (w_res rfl) w_lit) rfl
end Att
namespace L2
open PySem PySem.Spec PyProof.Rows
theorem fQ:∀{vs:List Value}{ns:List Int},IntsAre vs ns->Vals (ns.map V.int) vs
 | _,_,.nil=>.nil
 | _,_,.cons n t h=>.cons ⟨t,rfl⟩ (fQ h)
def yw (H:Hp):Prop:=∀ b,H b=none\/∃ o xs,H b=some (.JB o (.lst xs))
def aB (s:Stmt)(j:Nat):Stmt:=match s with
 | .ClassDef _ _ _ body _ _ _ _ _ _ _=>body.getD j (.Pass ⟨0,0,0,0⟩)
 | _=>.Pass ⟨0,0,0,0⟩
def cV (s:Stmt):Arguments:=match s with
 | .FunctionDef _ a _ _ _ _ _ _ _ _=>a
 | _=>{ posonlyargs:=[],args:=[],vararg:=none,kwonlyargs:=[],kw_defaults:=[],kwarg:=none,defaults:=[] }
def aI (s:Stmt):List Stmt:=match s with
 | .FunctionDef _ _ b _ _ _ _ _ _ _=>b
 | _=>[]
def aa (s:Stmt):Scope:=match s with
 | .FunctionDef _ _ _ _ _ _ sc _ _ _=>sc
 | _=>{ kind:=.function,names:=[],isGenerator:=false,isCoroutine:=false }
abbrev ay:iC:=λ _ _ _ _ _ _=>False
abbrev E0:XK:=λ _ _ _=>False
theorem ai {X:Cx}:cO ay X E0:=λ _ _ _ _ _ _ _ h=>h.elim
structure ė (K:PySem.W.Frag)(x qual:Str)(st:Stmt)(f:Addr)(fd:FuncData):Prop where
 ex:∃(oc:Value)(od:Option Addr)(kV doc pm:Value)(an:Option Addr)(cdv ct:Value)(L5:Array (Option Value)),
  fd=PySem.W.fnOf x qual (cV st) (aI st) (aa st) .none kV doc pm an cdv ct/\K.lookup f=some ⟨oc,od,.func fd,L5⟩/\PySem.W.codeIn K cdv qual=true
 kp:PySem.W.keepIn K (.ref f)=true
section
variable {P:Program}{w:World}{K:PySem.W.Frag}{mg:aX}{base:Heap}
theorem ė.ok {x qual:Str}{st:Stmt}{f:Addr}{fd:FuncData}{N ps:List Str}{k:Nat}{sp:Sp}(F:ė K x qual st f fd)(S:ad N ps (aa st))(len:∀ vs H Q E,sp vs H Q E->vs.length=ps.length)
  (Ξ:∀(cdv:Value)(A:Around)(outer:List Env)(s:Shared)(H:Hp)(vs:List V)(Q:VK)(E:XK),î k (A.deeper (envOfC qual (aa st) s.heap.objs.size f cdv))->sp vs H Q E ->
   ∃ t,Ũ (cq ay P w K mg base N qual (aa st) f cdv A outer s H E).υ (aI st) t/\t { nx:=λ _ H'=>Q .ô H',rt:=Q } (fD N vs) H):Ò P w K mg base ay (k+1) f fd ps sp:=by
 obtain⟨oc,od,kV,doc,pm,an,cdv,ct,L5,rfl,lk,JZ⟩:=F.ex;refine xN lk JZ S len λ A outer s H vs Q E hr KQ=>?_;obtain⟨t,h,q⟩:=Ξ cdv A outer s H vs Q E hr KQ;exact⟨t,h.υ,q⟩
theorem bR {x qual:Str}{st:Stmt}{f:Addr}{fd:FuncData}{N ps:List Str}{k:Nat}{sp:Sp}(F:ė K x qual st f fd)(S:ad N ps (aa st))
  (Ξ:∀(cdv:Value)(A:Around)(outer:List Env)(s:Shared)(H:Hp)(vs:List V)(Q:VK)(E:XK),î k (A.deeper (envOfC qual (aa st) s.heap.objs.size f cdv))->sp vs H Q E ->
   ∃ t,Ũ (cq ay P w K mg base N qual (aa st) f cdv A outer s H E).υ (aI st) t/\t { nx:=λ _ H'=>Q .ô H',rt:=Q } (fD N vs) H) (len:∀ vs H Q E,sp vs H Q E->vs.length=ps.length:=by intro vs H Q E h;repeat (first | (obtain⟨rfl,_⟩:=h;rfl) | (obtain⟨_,h⟩:=h))):Ò P w K mg base ay (k+1) f fd ps sp:=F.ok S len Ξ
theorem ė.binds {x qual:Str}{st:Stmt}{f:Addr}{fd:FuncData}{ps:List Str}(F:ė K x qual st f fd)
  (h:∀(kV doc pm:Value)(an:Option Addr)(cdv ct:Value)(us:List Value),us.length=ps.length->bindArgs (PySem.W.fnOf x qual (cV st) (aI st) (aa st) .none kV doc pm an cdv ct) ⟨us,[]⟩=pure (ps.zip us)):Binds K fd ps []:=by
 obtain⟨oc,od,kV,doc,pm,an,cdv,ct,L5,rfl,lk,JZ⟩:=F.ex;exact .all (h kV doc pm an cdv ct)
theorem š {x qual:Str}{st:Stmt}{f:Addr}{oc:Value}{od an:Option Addr}{L5:Array (Option Value)}{kV doc pm cdv ct:Value}(l:K.lookup f=some ⟨oc,od,.func (PySem.W.fnOf x qual (cV st) (aI st) (aa st) .none kV doc pm an cdv ct),L5⟩)
  (c:PySem.W.codeIn K cdv qual=true) (k:PySem.W.keepIn K (.ref f)=true):ė K x qual st f (PySem.W.fnOf x qual (cV st) (aI st) (aa st) .none kV doc pm an cdv ct):=⟨⟨oc,od,kV,doc,pm,an,cdv,ct,L5,rfl,l,c⟩,k⟩
end
section
variable {X:Cx}
theorem pv (i:Nat){x:Str}{pos:Pos}(hN:X.N[i]?=some x:=by rfl)(hv:Ev X.env.scope x:=by first | exact Or.inl rfl | exact Or.inr (Or.inl rfl) | exact Or.inr (Or.inr rfl))(hd:(x==("__debug__" : Str))=false:=by decide)
  (JZ:(x==("__classdict__" : Str))=false:=by decide):PE X (.Name x pos) (aq i):=zP hN hv hd JZ
end
theorem jk {c A B:Prop} [Decidable c] (h1:c->A)(h2:¬ c->B):if c then A else B:=by
 by_cases h:c
 ·rw [Ï h];exact h1 h
 ·rw [Ì h];exact h2 h
section
variable {κ:Type} [DecidableEq κ]
theorem sR {kvs:List (κ × V)}{k:κ}(h:cP kvs k=none):¬ k∈kvs.map (·.1):=by
 intro m;obtain⟨p,hp,e⟩:=ā.mp m;have q:(kvs.any λ kv=>decide (kv.1=k))=true:=JH.mpr ⟨p,hp,Ä e⟩;rw [eK,h] at q;exact absurd q (by simp)
theorem wz {kvs:List (κ × V)}{k:κ}{v:V}(h:cP kvs k=some v):k∈kvs.map (·.1):=by
 have q:(kvs.any λ kv=>decide (kv.1=k))=true:=by
  rw [eK,h]
  all_goals rfl
 obtain⟨p,hp,e⟩:=JH.mp q;exact ā.mpr ⟨p,hp,Û e⟩
end
end L2
set_option maxHeartbeats 4000000
namespace Att
open PySem PySem.W PySem.Calls PyProof.Rows
theorem oh {R:WRecords}{cl:Str->Option Addr}{h:Heap}{a:Addr}{ds:List WData}{as:List Addr}(r:ReadsAllW R cl h [.ref a] [.list ds] as):a∈as:=by
 cases r with
 | cons r1 r2 =>
  cases r1 with
  | list=>simp
theorem Jd {l:OpenLaw}{n:Nat}{q:Program}{loose:List Str}{XP:(Str->Option Value)->Heap->Prop}{YP:World->Heap->Prop}{d:DefRec}
  (hn:l.most=some n) (Pe:d.params.defaults=[])
  (call:∀(w:World)(ľ ü:Shared)(mg mb:aX)(fa:Addr)(o:Obj)(pm cd doc:Value)(a:Addr)(vs:List Value)(ns:List Int),
   Ground q loose [] XP w ľ mg mb ü.heap->YP w ü.heap ->
   ü.heap.get? fa=some o->o.data=.func (docDef d.name d.params d.body d.scope pm cd doc)->ü.heap.CodeRec cd d.name->mg d.name=some (.ref fa) ->
   ü.heap.get? a=some { cls:=.type "list",data:=.seq vs.toArray }->IntsAre vs ns->ns.length<=n->ü.gens = #[]->a≠sysModules ->
   codeAny (model l.prog w) callerA (.call (.ref fa) ⟨[.ref a],[]⟩) (λ r s'=>r=.ok (.ret (.bool true))/\OldK ü.heap s'.heap/\s'.os = ü.os/\AllBare s'.gens) ü) :
  WalkO q loose XP YP l.row.toRowW d [] (λ f vs=>PySem.call f vs):=by
 intro w ľ ü mg mb G Y fa o pm cd doc dV kV ho hd JZ hD Pa hg args vals as Mc XA Xp Rq Xz;obtain rfl:dV=.none:=Dflts.none hD Pe;obtain rfl:kV=.none:=Dflts.noKw hD;obtain⟨a,vs,ns,rfl,rfl,Nx,hints,ĩ⟩:=qL hn Mc Rq;have low:a≠sysModules:=Þ.mp (Xz a (oh Xp));refine enter_call (ł (call w ľ ü mg mb fa o pm cd doc a vs ns G Y ho (fd_plain hd) JZ Pa Nx hints ĩ hg low) λ r s' hq=>?_);obtain⟨rfl,h2,h3,h4⟩:=hq;exact⟨.inl ⟨.bool true,.bool true,[],rfl,λ _=>rfl,.bool true,pP l _,λ _=>⟨List.Pairwise.nil,λ _ hm=>(nomatch hm)⟩⟩,h2,h3,h4⟩
end Att
namespace L2
open PySem PySem.Spec PyProof.Rows
theorem qM {P:Program}{w:World}{K:PySem.W.Frag}{mg mb:aX}{CX:iC}{k:Nat}{fa a:Addr}{fd:FuncData}{x:Str}{sp:Sp}{ü:Shared}{vs:List Value}{ns:List Int}
  (KX:K.In ü.heap) (Tf:ü.heap.Ns mainGlobals mg) (hb:ü.heap.Ns builtinsNs mb) (XW:∀ x:Str,x ≠ "__name__" -> mb x=bootBuiltins x) (RH:ü.heap.NoLimit) (hg:ü.gens = #[])
  (ha:ü.heap.get? a=some { cls:=.type "list",data:=.seq vs.toArray }) (hi:IntsAre vs ns) (hl:ns.length<=sizeLine) (hr:î k callerA) (low:a≠sysModules)
  (F:∀ base:Heap,K.In base->base.Ns mainGlobals mg->Ò P w K mg base CX k fa fd [x] sp) (Pg:∀(s:Shared)(u:Value),BindsTo s fd ⟨[u],[]⟩ [(x,u)])
  (KQ:∀ H:Hp,yw H->ÿ K H a (ns.map V.int)->H sysModules=none->sp [.ref a] H (λ v _=>v=.bl true) λ _ _ _=>False)
  (RY:∀ H e s',CX [] H ü (λ _ _ _=>False) e s'->False) :
  codeAny (model P w) callerA (.call (.ref fa) ⟨[.ref a],[]⟩) (λ r s'=>r=.ok (.ret (.bool true))/\OldK ü.heap s'.heap/\s'.os = ü.os/\AllBare s'.gens) ü:=by
 have rv:=fQ hi;have Rc:=hi.length;have core:∀ H:Hp,yw H->ÿ K H a (ns.map V.int)->ţ P w H ü.heap->(∀ b,H b≠none->b=a)->(H a≠none->K.lookup a=none) ->
   codeAny (model P w) callerA (.call (.ref fa) ⟨[.ref a],[]⟩) (λ r s'=>r=.ok (.ret (.bool true))/\OldK ü.heap s'.heap/\s'.os = ü.os/\AllBare s'.gens) ü:=by
  intro H hO hS þ hA hK;have hz:H sysModules=none:=by
   cases q:H sysModules with
   | none=>rfl
   | some u=>exact absurd (hA _ (by rw [q];simp)).symm low
  have KA:∀{b:Addr}{o:Obj},ü.heap.get? b=some o->H b=none->(jX ü.heap H).get? b=some o:=λ e n=>rA e n;have OD:∀{b:Addr}{o:Obj}{es:Array DictEntry}{ep:Nat},ü.heap.get? b=some o->o.data=.dict es ep->H b=none:=λ {b o es ep} e d=>by
   cases q:H b with
   | none=>rfl
   | some u =>
    have e':b=a:=hA b (by rw [q];simp)
    subst e';rw [ha] at e;cases e;have d':Data.seq vs.toArray _=Data.dict es ep:=d;cases d'
  have P7:∀{b:Addr}{m:aX},ü.heap.Ns b m->(jX ü.heap H).Ns b m:=λ {b m} ⟨o,es,ep,e,d,r⟩=>⟨o,es,ep,KA e (OD e d),d,r⟩;have Tq:K.In (jX ü.heap H):=λ b o e=>KA (KX b o e) (by
   cases q:H b with
   | none=>rfl
   | some u =>
    have e':b=a:=hA b (by rw [q];simp)
    subst e';rw [hK (by rw [q];simp)] at e;cases e)
  have hM:Mod K mg (jX ü.heap H):=⟨Tq,P7 Tf,⟨mb,P7 hb,XW⟩,let ⟨mc,h1,h2⟩:=RH;⟨mc,P7 h1,h2⟩⟩
  have e0:J8 P w K mg (jX ü.heap H) callerA [] ü H:=⟨rfl,hM,λ b o e=>wR e,Χ (pU _ _),trivial,λ b hb=>absurd (show b∈([]:List Addr) from hb) (by simp),þ,.of_eq hg⟩
  refine ł ((F _ Tq (P7 Tf)).run callerA [] ü H ⟨[.ref a],[]⟩ [.ref a] [.ref a] _ _ hr e0 (Pg ü (.ref a)) (.cons rfl .nil) (KQ H hO hS hz)) λ r s' h=>?_;cases r with
  | error e=>exact(RY H e s' h).elim
  | ok fl =>
   cases fl with
   | next=>exact False.elim h
   | brk=>exact False.elim h
   | cont=>exact False.elim h
   | ret u =>
    obtain⟨v,H',os,bare,un,RA,r',q⟩:=h;have q':v=.bl true:=q;subst q';obtain rfl:u=Value.bool true:=r';refine⟨rfl,OldK.of_keep λ b o e=>?_,os,bare⟩;cases q:H b with
    | none=>exact un.keep b o e q (by intro z;exact absurd (show b∈([]:List Addr) from z) (by simp)) (by simp)
    | some u =>
     rcases hO b with z | ⟨ob,xs,z⟩
     ·rw [q] at z;cases z
     ·have z2:=un.l_ b ob _ z;obtain⟨e1,_⟩:=þ b _ z;obtain⟨e2,_⟩:=RA b _ z2;rw [e] at e1;cases e1;exact e2
 cases hk:K.lookup a with
 | some o =>
  have e:=KX a o hk;rw [ha] at e;cases e;refine core (λ _=>none) (λ _=>.inl rfl) (.inr ⟨_,vs.toArray,_,hk,rfl,rfl,rfl,by rw [Ü,Rc];exact hl,by simpa using rv⟩) (λ b u z=>by have z':(none:Option HO)=some u:=z;cases z') (λ b z=>absurd rfl z) λ z=>absurd rfl z
 | none =>
  refine core (λ b=>if b=a then some (.JB { cls:=.type "list",data:=.seq vs.toArray } (.lst (ns.map V.int))) else none) (λ b=>?_) (.inl (.inr ⟨{ cls:=.type "list",data:=.seq vs.toArray },Ï rfl⟩)) (λ b u z=>?_) (λ b z=>?_) λ _=>hk
  ·by_cases hb:b=a
   ·exact .inr ⟨_,_,Ï hb⟩
   ·exact .inl (Ì hb)
  ·by_cases hb:b=a
   ·have z':=(Ï hb).symm.trans z;cases z';subst hb;exact⟨ha,by rw [Æ];exact hl,vs,_,rv,ha⟩
   ·have z':=(Ì hb).symm.trans z;cases z'
  ·by_cases hb:b=a
   ·exact hb
   ·exact absurd (Ì hb) z
theorem Lg {l:PySem.W.OpenLaw}{n k:Nat}{q:Program}{loose:List Str}{XP:(Str->Option Value)->Heap->Prop}{YP:World->Heap->Prop}{d:DefRec}{K:Params->PySem.W.Frag}{CX:World->iC}{sp:World->Sp}{x:Str}
  (hn:l.most=some n) (Qi:n<=sizeLine) (Pe:d.params.defaults=[]) (hr:î k callerA)
  (hY:∀(w:World)(h:Heap),YP w h->(K w.params).In h)
  (F:∀(w:World)(mg:aX)(fa:Addr)(h:Heap),(K w.params).In h->h.Ns mainGlobals mg->mg d.name=some (.ref fa) ->
   ∃ fd:FuncData,(∀(s:Shared)(u:Value),BindsTo s fd ⟨[u],[]⟩ [(x,u)]) /\
    ∀ base:Heap,(K w.params).In base->base.Ns mainGlobals mg->Ò l.prog w (K w.params) mg base (CX w) k fa fd [x] (sp w))
  (KQ:∀(w:World)(H:Hp)(a:Addr)(ns:List Int),ns.length<=n->yw H->ÿ (K w.params) H a (ns.map V.int)->H sysModules=none->sp w [.ref a] H (λ v _=>v=.bl true) λ _ _ _=>False)
  (RY:∀(w:World)(H:Hp)(s:Shared)(e:Value)(s':Shared),CX w [] H s (λ _ _ _=>False) e s'->False) :
  PySem.W.WalkO q loose XP YP l.row.toRowW d [] (λ f vs=>PySem.call f vs):=by
 refine Att.Jd hn Pe λ w ľ ü mg mb fa o pm cd doc a vs ns G Y ho hd JZ Pa Nx hints ĩ hg low=>?_;have KX:=hY w _ Y;obtain⟨fd,hb,hF⟩:=F w mg fa _ KX G.T.g Pa;exact qM KX G.T.g G.T.b G.T.builtins G.T.nolimit hg Nx hints (Ô ĩ Qi) hr low hF hb (λ H hO hS hz=>KQ w H a ns ĩ hO hS hz) λ H e s'=>RY w H ü e s'
end L2
namespace My
open PySem L2
def bw (i:Nat):Stmt:=PySem.Challenge.pw_trialdeal_k30_trials_refused.main.body.getD i (.Pass ⟨0,0,0,0⟩)
end My
namespace My
open PySem
section
variable {prog:Program}{w:World}{A:Around}{h:Heap}{g:Array GenState}{d:Drawn}{tk:Nat}{os:OsState}{C N e t0:Addr}
variable {nm q:Str}{bs bm NJ:List Value}{Mg ab:Bool}{sn:List Str}{sub:List Value}{col:Option Bool}{dd:Option Addr}
variable {k0 k1 k2 k3 k5:Option Value}{B newId j':String}
abbrev eL (C t:Addr):Obj:={ cls:=.ref C,data:=.fields #[.ref t,.none,.none,.none,.bool false,.none] }
theorem zv {R:Result->Shared->Prop}{v:Value}(F:ExcBaseFacts B newId j' NJ)(T:OwnTail h NJ bm)
  (hC:h.get? C=some (excClassObj nm q C N bs bm Mg sn sub ab col dd k0 k1 k2 k3 k5 newId)) (he:h.get? e=some (eL C t0))
  (hR:∀ h',h'.get? e=some (eL C h.objs.size)->(∀ b o,b≠e->h.get? b=some o->h'.get? b=some o)->R (.ok (.ret .none)) ⟨h',g,d,tk,os⟩) :
  codeAny (model prog w) A (.call (.builtin j') ⟨[.ref e,v],[]⟩) R ⟨h,g,d,tk,os⟩:=by
 refine Ŭ F.init.plain F.initEntry (wpAny_check_init_subT F T hC he rfl ?_)
 wp_walk
 refine hR _ ?_ λ b o hb eb=>?_
 ·exact ð _ (Â _ he) rfl
 ·exact(Õ _ _ _ _ hb).trans (Â _ eb)
end
end My
namespace My
open PySem PySem.W Builtin Builtin.ObjectAttr
section
variable {prog:Program}{w:World}{A:Around}{s:Shared}{K:Frag}{C x:Addr}
theorem wA {R:Result->Shared->Prop}{ox:Obj}{od:Option Obj}{name:Str}{tk:Tok}{v:Value}{cd:ClassData}(X:K.In s.heap)(I:InstAt s.heap x ox C od)
  (hc:clsIn K C=some cd) (hp:refuseLoop (.ref x) "__setattr__" cd.mro=pure ()) (Lx:mroIn K C (.type "object")=some true) (ht:takerIn K C name=some none)
  (h:∀ b,wpAny (model prog w) A.in1 (storeInOwnDict (.ref x) (.ref C) (.str name tk) name v b)
   (λ fin s'=>match fin with | .done f=>R (.ok f) s' | .again c'=>c'.quiet=true/\codeAny (model prog w) A c' R s') (λ e s'=>R (.error e) s') s) :
  codeAny (model prog w) A (.call (.builtin "object.__setattr__") ⟨[.ref x,.str name tk,v],[]⟩) R s:=by
 have SF:=PySem.F.store_object;have sub:Looks (model prog w) s.heap (isInstance (.ref x) (.type "object")) true:=I.type.andThen (τ X Lx);refine Ŭ SF.slot.plain SF.entry (@check_slot (model prog w) _ _ s "object.__setattr__" "object" "__setattr__" (.ref x) [.str name tk,v] [] _ SF.kind SF.split sub (SF.args _ _ _) ?_);obtain⟨attr,ha,hr⟩:=Option.bind_eq_some_iff.mp ht;have hm:Looks (model prog w) s.heap (mroOf (.ref C)) cd.mro:=(looks_clsIn X hc).andThen .now;have L3:Looks (model prog w) s.heap (storeTaker? attr) none:=by
  cases attr with
  | none=>exact .now
  | some a =>
   obtain⟨b,hb,e⟩:=Ě.mp hr;refine(looks_takesIn X hb).andThen ?_;cases b
   ·exact .now
   ·cases e
 rw [osa_eq,refuse_eq];refine À (À (I.type.here (À (hm.here ?_))));rw [hp];refine Ã (À (I.type.here (À ((Δ X ha).here (À (L3.here ?_))))));exact h _
end
section
variable {prog:Program}{w:World}{A:Around}{E:bz}{s:Shared}{K:Frag}{C x:Addr}
theorem zL {fs:Array Value}{sl:Array (Option Value)}{name:Str}{v:Value}{cd:ClassData}{Q:Unit->Shared->Prop}(X:K.In s.heap)(hx:s.heap.get? x=some ⟨.ref C,none,.fields fs,sl⟩)
  (hs:findIn K (.ref C) "__setattr__" = some (some (.builtin "object.__setattr__"))) (hc:clsIn K C=some cd) (hd:cd.hasDict=true)
  (hp:refuseLoop (.ref x) "__setattr__" cd.mro=pure ()) (Lx:mroIn K C (.type "object")=some true) (ht:takerIn K C name=some none)
  (h:∀ h' tk,h'.get? x=some ⟨.ref C,some s.heap.objs.size,.fields fs,sl⟩->h'.Ns1 s.heap.objs.size (λ y=>if y=name then some v else none) ->
   (∀ b o,b≠x->s.heap.get? b=some o->h'.get? b=some o)->Q () { s with heap:=h',toks:=tk }):wpAny (model prog w) A (setAttr (.ref x) name v) Q E s:=by
 have J:InstAt s.heap x ⟨.ref C,none,.fields fs,sl⟩ C none:=⟨hx,rfl,rfl,True.intro⟩;refine set_plain X J hs (wA (s:={ s with toks:=s.toks+1 }) X J hc hp Lx ht λ b=>?_)
 refine À (Ã (À (À (Γ hx (À (Đ (s:={ s with toks:=s.toks+1 }) (looks_clsIn X hc) ?_))))))
 rw [hd];have KP:(s.heap.push { cls:=.type "dict",data:=.dict #[] }).get? x=some ⟨.ref C,none,.fields fs,sl⟩:=Â _ hx;have S9:x≠s.heap.objs.size:=Ñ (È hx);refine À (wpAny_alloc' ?_);refine À (wpAny_update' KP ?_);refine Ã ?_;generalize eU:((s.heap.push { cls:=.type "dict",data:=.dict #[] }).update x λ o=>{ cls:=o.cls,dict:=some s.heap.objs.size,data:=o.data,slots:=o.slots }:Heap)=hU;have gd:hU.get? s.heap.objs.size=some { cls:=.type "dict",data:=.dict #[] }:=by
  rw [<- eU];exact(Õ _ _ _ _ S9.symm).trans (ś rfl rfl)
 have gx:hU.get? x=some ⟨.ref C,some s.heap.objs.size,.fields fs,sl⟩:=by
  rw [<- eU];exact ð _ KP rfl
 have nd:hU.Ns s.heap.objs.size (λ _=>none):=⟨_,#[],_,gd,rfl,λ e he=>absurd he (by simp),λ _=>rfl⟩
 show wpAny _ _ (storeInDict s.heap.objs.size (.str name _) name v) _ _ _;unfold storeInDict newKeyGuard;refine À (Ã (À (wpAny_nsSet1 (Heap.Ns1.of_empty nd) λ h' MR S'=>?_)));obtain⟨oD,YS,YT,Ny,Pf,Lz⟩:=MR.count (Within.cons name v Within.nil);refine À (wpAny_lookBehind Ny (by
  rw [Pf];exact pastItsLine_dict (Ô Lz (by rw [å,KF,Ø];omega))) ?_)
 refine Ã ?_;refine h h' _ ((S'.2 x S9).trans gx) MR λ b o hb e=>?_;refine(S'.2 b (Ñ (È e))).trans ?_;rw [<- eU];exact(Õ _ _ _ _ hb).trans (Â _ e)
end
section
variable {prog:Program}{w:World}{A:Around}{E:bz}{s:Shared}{K:Frag}{C x dx:Addr}
abbrev nI:String:="BaseException.__getattribute__"
theorem vO {R:Result->Shared->Prop}{ox:Obj}{od:Option Obj}{name:Str}{tk:Tok}{v:Value}(X:K.In s.heap)(I:InstAt s.heap x ox C od)
  (Lx:mroIn K C (.type "BaseException")=some true) (hf:findObj K C od name=some (.value v)) (h:R (.ok (.ret v)) s) :
  codeAny (model prog w) A (.call (.builtin nI) ⟨[.ref x,.str name tk],[]⟩) R s:=by
 have sub:Looks (model prog w) s.heap (isInstance (.ref x) (.type "BaseException")) true:=I.type.andThen (τ X Lx);have L1:=looks_find (M:=model prog w) X I hf;refine Ŭ ĸ.ga.plain PySem.F.entry_bexc_ga (@check_slot (model prog w) _ _ s nI "BaseException" "__getattribute__" (.ref x) [.str name tk] [] _ aA aA sub (PySem.F.args_bexc_ga _ _) ?_);refine À (Ã (À (Ã (À (I.type.here (À (L1.here ?_)))))));exact Ã h
theorem Bq {expr:Bool}{ox:Obj}{od:Option Obj}{name:Str}{v:Value}{Q:bz}(X:K.In s.heap)(I:InstAt s.heap x ox C od)
  (XI:findIn K (.ref C) "__getattribute__" = some (some (.builtin nI))) (hk:findIn K (.ref C) "__getattr__" = some none)
  (Lx:mroIn K C (.type "BaseException")=some true) (hf:findObj K C od name=some (.value v)) (O5:handedIn v=true) (h:Q v { s with toks:=s.toks+1 }) :
  wpAny (model prog w) A (getAttr (.ref x) name expr) Q E s:=by
 have L0:=I.type (M:=model prog w);have L1:=Δ (M:=model prog w) X XI;have L2:=Δ (M:=model prog w) X hk;have f3:=ĸ.ga.bind (.ref x);unfold getAttr getAttrBy;refine À (wpAny_mkText (Ú (À (Đ (s:={ s with toks:=s.toks+1 }) L0 (À (Đ (s:={ s with toks:=s.toks+1 }) L1 ?_))))))
 have KP:(onTheHeap (Value.ref C)&&Value.builtin nI==Value.builtin "object.__getattribute__")=false:=by
  rw [show(Value.builtin nI==Value.builtin "object.__getattribute__")=false from by decide +kernel]
  rfl
 show wpAny _ _ (if(onTheHeap (Value.ref C)&&Value.builtin nI==Value.builtin "object.__getattribute__")=true then _ else _) _ _ _
 rw [Ì (by rw [KP];decide)]
 unfold getAttrByItsOwn;refine À ?_;show wpAny _ _ (typeLookup (.ref C) "__getattr__") _ _ _;refine Đ (s:={ s with toks:=s.toks+1 }) L2 ?_
 have Xc:(expr&&onTheHeap (Value.builtin nI))=false:=by cases expr <;> rfl
 refine À (ň (Ú ?_));unfold callGetattribute;rw [Ì (by rw [Xc];decide)]
 unfold boundAndCalled;rw [f3];refine À (Ã ?_);refine Œ (vO (s:={ s with toks:=s.toks+1 }) X I Lx hf ?_)
 show wpAny _ _ (handedOut v) _ _ _;rw [handedOut_of O5];exact Ã h
end
end My
namespace My
open PySem PySem.W
section
variable {prog:Program}{w:World}{A:Around}{E:bz}{h:Heap}{g:Array GenState}
variable {d:Drawn}{t:Nat}{os:OsState}{nm q:Str}{C N:Addr}{bs bm NJ:List Value}{Mg ab:Bool}
variable {sn:List Str}{sub:List Value}{col:Option Bool}{dd:Option Addr}
variable {k0 k1 k2 k3 k5:Option Value}{B newId j':String}{K:Frag}
abbrev gV (vs:List Value):Obj:={ cls:=.type "tuple",data:=.seq vs.toArray }
theorem zA (X:K.In h)(F:ExcBaseFacts B newId j' NJ)(T:OwnTail h NJ bm){rest:List Value}
  {fI:Addr} {Q:Fin->Shared->Prop}
  (hC:h.get? C=some (excClassObj nm q C N bs bm Mg sn sub ab col dd k0 k1 k2 k3 k5 newId))
  (hi:findIn K (.ref C) "__init__" = some (some (.ref fI))) (RO:typeIn K (.ref fI)=some (.type "function"))
  (hq:wpAny (model prog w) A (call (.ref fI) (.ref (h.objs.size+1)::rest))
   (λ r s'=>r=.none/\Q (.done (.ret (.ref (h.objs.size+1)))) s') E ⟨(h.push (gV rest)).push (eL C h.objs.size),g,d,t,os⟩)
  (Lu:rest.length<=sizeLine) :
  wpAny (model prog w) A (Builtin.«type.__call__» ⟨.ref C::rest,[]⟩) Q E ⟨h,g,d,t,os⟩:=by
 repeat (first
  | with_reducible refine K9 hC ?_
  | with_reducible refine wpAny_madeBy_exc hC ?_
  | wp_step)
 refine codeAny_call_builtin_code (Code.quiet_builtin _ F.quiet) (wpAny_check_new_subT F T hC ?_);refine codeAny_exc_new_subT F T hC ?_ Lu;show wpAny _ _ _ _ _ _;have up:∀ b o,h.get? b=some o->((h.push (gV rest)).push (eL C h.objs.size)).get? b=some o :=
  λ b o e=>Â _ (Â _ e)
 have X4:=up _ _ hC;have X1:K.In ((h.push (gV rest)).push (eL C h.objs.size)):=X.keeps up;have XM:((h.push (gV rest)).push (eL C h.objs.size)).get? (h.objs.size+1)=some (eL C h.objs.size):=by heap_get
 have XU:(Value.ref C::bm).contains (.ref C)=true:=by simp
 unfold isInstance
 repeat (first
  | with_reducible refine K9 XM ?_
  | (with_reducible refine wpAny_isSubtype_exc X4 ?_;rw [XU])
  | wp_step)
 show wpAny _ _ (typeLookup (.ref C) _) _ _ _;refine Đ (s:=⟨(h.push (gV rest)).push (eL C h.objs.size),g,d,t,os⟩) (Δ X1 hi) ?_;refine Ú (À ?_);unfold bindSpecial;refine À (Đ (s:=⟨(h.push (gV rest)).push (eL C h.objs.size),g,d,t,os⟩) (looks_typeIn X1 RO) ?_);rw [Ï ag];refine Ã (À (Ğ hq (λ r s' hr=>?_) λ _ _ x=>x));obtain⟨rfl,hQ⟩:=hr
 wp_walk
 exact hQ
theorem DM (X:K.In h)(F:ExcBaseFacts B newId j' NJ)(T:OwnTail h NJ bm){rest:List Value}
  {fI:Addr} {Q:bz}
  (hC:h.get? C=some (excClassObj nm q C N bs bm Mg sn sub ab col dd k0 k1 k2 k3 k5 newId))
  (hi:findIn K (.ref C) "__init__" = some (some (.ref fI))) (RO:typeIn K (.ref fI)=some (.type "function"))
  (hq:wpAny (model prog w) (A.under (.builtin "type.__call__" ⟨.ref C::rest,[]⟩))
   (call (.ref fI) (.ref (h.objs.size+1)::rest)) (λ r s'=>r=.none/\Q (.ref (h.objs.size+1)) s') E ⟨(h.push (gV rest)).push (eL C h.objs.size),g,d,t,os⟩)
  (Lu:rest.length<=sizeLine):wpAny (model prog w) A (call (.ref C) rest) Q E ⟨h,g,d,t,os⟩:=by
 have f1:=tc_lookup;have f2:=tc_bind (.ref C);have hT:Shared.TypeIs ⟨h,g,d,t,os⟩ (.ref C) "type" :=⟨_,hC,rfl⟩;refine Œ (codeAny_of_tree ?_);show wpAny _ _ (callAny (.ref C) _) _ _ _
 repeat (any_goals (first
  | assumption
  | with_reducible refine K9 hC ?_
  | wp_step))
 refine⟨rfl,?_⟩;refine codeAny_call_builtin_at (Code.quiet_builtin _ aA) entry_typeCall (wpAny_check_type_call_sub hC ?_);exact zA X F T hC hi RO hq Lu
end
section
variable {prog:Program}{w:World}{A:Around}{E:bz}{s:Shared}{K:Frag}{x C:Addr}{ox:Obj}{od:Option Obj}
theorem tO {a g:Value}{name:Str}(hc:(clsIn K C).isSome=true)(ha:findIn K (.ref C) name=some (some a))(hg:specialIn K a "__get__" = some (some g)) (ht:takesIn K a=some true):findObj K C od name=some (.bind g a):=by
 obtain⟨cd,hc⟩:=Ĩ.mp hc;unfold findObj;rw [hc,Η,ha,Η];simp [hg,ht]
theorem wN {R:Result->Shared->Prop}{name:Str}{tk:Tok}{a g:Value}(X:K.In s.heap)(I:InstAt s.heap x ox C od)
  (Lx:mroIn K C (.type "BaseException")=some true) (hf:findObj K C od name=some (.bind g a))
  (h:wpAny (model prog w) A.in1 (call g [a,.ref x,.ref C]) (λ v s'=>R (.ok (.ret v)) s') (λ e s'=>R (.error e) s') s) :
  codeAny (model prog w) A (.call (.builtin nI) ⟨[.ref x,.str name tk],[]⟩) R s:=by
 have sub:Looks (model prog w) s.heap (isInstance (.ref x) (.type "BaseException")) true:=I.type.andThen (τ X Lx);have L1:=looks_find (M:=model prog w) X I hf;refine Ŭ ĸ.ga.plain PySem.F.entry_bexc_ga (@check_slot (model prog w) _ _ s nI "BaseException" "__getattribute__" (.ref x) [.str name tk] [] _ aA aA sub (PySem.F.args_bexc_ga _ _) ?_);refine À (Ã (À (Ã (À (I.type.here (À (L1.here ?_)))))));show wpAny _ _ (holding [a] (call g [a,.ref x,.ref C])>>=ret) _ _ _;exact À (Ú (Ğ h (λ v s' z=>Ã z) λ _ _ z=>z))
structure mH (K:Frag)(C:Addr):Prop where
 cls:(clsIn K C).isSome=true
 ga:findIn K (.ref C) "__getattribute__" = some (some (.builtin nI))
 hk:findIn K (.ref C) "__getattr__" = some none
 mb:mroIn K C (.type "BaseException")=some true
 mo:mroIn K C (.type "object")=some true
 ca:findIn K (.ref C) "__class__" = some (some (.builtin "object.__class__"))
theorem rL {Q:Option Value->Shared->Prop}(T:mH K C)(hn:specialIn K (.builtin "object.__class__") "__get__" = some (some (.builtin "getset_descriptor.__get__"))) (LL:takesIn K (.builtin "object.__class__")=some true)
  (X:K.In s.heap) (I:InstAt s.heap x ox C od) (h:Q (some (.ref C)) { s with toks:=s.toks+1 }):wpAny (model prog w) A (getAttr? (.ref x) "__class__") Q E s:=by
 have hf:findObj K C od "__class__" = some (.bind (.builtin "getset_descriptor.__get__") (.builtin "object.__class__")):=tO T.cls T.ca hn LL;have L0:=I.type (M:=model prog w);have L1:=Δ (M:=model prog w) X T.ga;have L2:=Δ (M:=model prog w) X T.hk;have f3:=ĸ.ga.bind (.ref x);unfold getAttr? getAttrBy? getAttrBy;refine À (wpAny_mkText (À (ň (Ú (À (Đ (s:={ s with toks:=s.toks+1 }) L0 (À (Đ (s:={ s with toks:=s.toks+1 }) L1 ?_))))))))
 have KP:(onTheHeap (Value.ref C)&&Value.builtin nI==Value.builtin "object.__getattribute__")=false:=by
  rw [show(Value.builtin nI==Value.builtin "object.__getattribute__")=false from by decide +kernel]
  rfl
 show wpAny _ _ (if(onTheHeap (Value.ref C)&&Value.builtin nI==Value.builtin "object.__getattribute__")=true then _ else _) _ _ _
 rw [Ì (by rw [KP];decide)]
 unfold getAttrByItsOwn;refine À ?_;show wpAny _ _ (typeLookup (.ref C) "__getattr__") _ _ _;refine Đ (s:={ s with toks:=s.toks+1 }) L2 ?_
 refine À (ň (Ú ?_));unfold callGetattribute;rw [Ì ag];unfold boundAndCalled;rw [f3];refine À (Ã ?_);refine Œ (wN (s:={ s with toks:=s.toks+1 }) X I T.mb hf ?_)
 refine Œ (class_get (s:={ s with toks:=s.toks+1 }) (ox:=ox) (od:=od) X I T.mo ?_)
 show wpAny _ _ (handedOut (.ref C)) _ _ _;rw [handedOut_of rfl];exact Ã (Ã h)
theorem yU (T:mH K C)(hn:specialIn K (.builtin "object.__class__") "__get__" = some (some (.builtin "getset_descriptor.__get__"))) (LL:takesIn K (.builtin "object.__class__")=some true) :
  KitX K (.ref x) (.ref C) (λ h=>∃ ox od,InstAt h x ox C od) where
 ty:=λ _ _ _ ⟨_,_,I⟩=>I.type
 it:=λ _ _ X _=>by
  obtain⟨Zz,Lz⟩:=Ĩ.mp T.cls;unfold clsIn at Lz;split at Lz
  ·rename_i c' d' ZA QG ho
   intro A' Q' E' s' k q;unfold isType loadHead;exact À (Γ (k _ _ (X _ _ ho)) (Ã q))
  ·cases Lz
 ne:=λ h tp dd its n sl X Xi=>by
  obtain⟨Zz,Lz⟩:=Ĩ.mp T.cls;refine Bool.eq_false_iff.mpr λ q=>?_;have e:C=tp:=J9 (Ą.mp q);subst e;unfold clsIn at Lz;split at Lz
  ·rename_i c' d' ZA QG ho
   have z:=(X _ _ ho).symm.trans Xi;cases z
  ·cases Lz
 ca:=λ X ⟨_,_,I⟩ k=>rL T hn LL X I k
end
end My
namespace My
open PySem PySem.W L2
abbrev oM:List Value:=[.type "ValueError",.type "Exception",.type "BaseException",.type "object"]
abbrev jP (C:Addr)(d:Option Addr)(t:Addr):Obj:={ cls:=.ref C,dict:=d,data:=.fields #[.ref t,.none,.none,.none,.bool false,.none] }
def eD (x C:Addr)(d:Option Addr):HO:=.ext λ h=>∃ t,h.get? x=some (jP C d t)
theorem jY {P:Program}{w:World}{H:Hp}{h:Heap}{x C:Addr}{d:Option Addr}{t:Addr}(e:h.get? x=some (jP C d t)):ñ P w H h x (eD x C d) :=
 ⟨⟨t,e⟩,⟨_,e⟩,λ _ _ ⟨t',e'⟩ k=>⟨t',k _ e'⟩⟩
theorem gF {P:Program}{w:World}{H:Hp}{h:Heap}{x C:Addr}{d:Option Addr}(ok:ţ P w H h)(e:H x=some (eD x C d)):∃ t,h.get? x=some (jP C d t):=(ok x _ e).1
theorem nh {H:Hp}{a:Addr}{o:HO}(h:H a=some o):aj H a o=H:=by
 funext b
 unfold aj;split
 ·rename_i e;rw [e,h]
 ·rfl
structure Ī (K:Frag)(D:Addr):Prop where
 cls:∃ nm q N bs sn sub ab col dd k0 k1 k2 k3 k5,K.lookup D=some (excClassObj nm q D N bs oM true sn sub ab col dd k0 k1 k2 k3 k5 "ValueError.__new__") /\
    ∃ o es ep,K.lookup N=some o/\o.data=.dict es ep/\StrKeys es/\nsFind es "__init__" = none
 ga:specialIn K (.ref D) "__getattribute__" = some (some (.builtin "type.__getattribute__"))
 reads:readsIn K D (.type "type")=true
 O3:findCls K (.ref D) (.type "type") "__init__" = some (.val (.builtin "ValueError.__init__"))
 fi:findIn K (.ref D) "__init__" = some (some (.builtin "ValueError.__init__"))
 kp:keepIn K (.ref D)=true
 it:mH K D
theorem Ī.tail {K:Frag}{D:Addr}(B:Ī K D){h:Heap}(X:K.In h):OwnTail h oM (.ref D::oM):=by
 obtain⟨nm,q,N,bs,sn,sub,ab,col,dd,k0,k1,k2,k3,k5,l,o,es,ep,lN,hd,hs,hn⟩:=B.cls;exact .own (X _ _ l) ⟨o,es,ep,X _ _ lN,hd,hs,λ _=>rfl⟩ hn .base
structure ĵ (K:Frag)(D:Addr)(nm:Str)(C f:Addr):Prop where
 cls:∃ q N bs sn sub ab col dd k0 k1 k2 k3 k5,K.lookup C=some (excClassObj nm q C N bs (.ref D::oM) true sn sub ab col dd k0 k1 k2 k3 k5 "ValueError.__new__")
 init:findIn K (.ref C) "__init__" = some (some (.ref f))
 fn:typeIn K (.ref f)=some (.type "function")
 kp:keepIn K (.ref C)=true
 sa:findIn K (.ref C) "__setattr__" = some (some (.builtin "object.__setattr__"))
 it:mH K C
theorem ĵ.clsIn {K:Frag}{D C f:Addr}{nm:Str}(T:ĵ K D nm C f):∃ cd,PySem.W.clsIn K C=some cd/\cd.hasDict=true/\cd.mro=.ref C :: .ref D::oM:=by
 obtain⟨q,N,bs,sn,sub,ab,col,dd,k0,k1,k2,k3,k5,l⟩:=T.cls;unfold PySem.W.clsIn;rw [l];exact⟨_,rfl,rfl,rfl⟩
theorem ĵ.refuse {K:Frag}{D C f:Addr}{nm:Str}(T:ĵ K D nm C f)(x:Addr):∃ cd,PySem.W.clsIn K C=some cd/\cd.hasDict=true/\refuseLoop (.ref x) "__setattr__" cd.mro=pure ():=by
 obtain⟨cd,h1,h2,h3⟩:=T.clsIn;refine⟨cd,h1,h2,?_⟩;rw [h3,refuseLoop_ref,refuseLoop_ref];exact PySem.F.store_ValueError.passes _
section
variable {X:Cx}{pins:List (Addr × Obj)}{σ:St}{H:Hp}{s:Shared}
def lR (C:Addr)(fld:Str):Sp:=λ vs H Q _=>∃ x v,vs=[.ref x,v]/\H x=some (eD x C none)/\∀ dx,H dx=none->dx≠x->Q .ô (aj (aj H dx (.xd [(fld,v)])) x (eD x C (some dx)))
def B1 (C:Addr)(fld:Str)(te:TE):TE:=λ σ H Q=>te σ H λ v H1=>∀ x dx,H1 x=none->H1 dx=none->dx≠x->Q (.ref x) (aj (aj H1 dx (.xd [(fld,v)])) x (eD x C (some dx)))
theorem G7 {H:Hp}{x dx:Addr}{a b c:HO}(n:dx≠x):aj (aj (aj H x a) dx b) x c=aj (aj H dx b) x c:=by
 funext z
 unfold aj;by_cases h1:z=x
 ·rw [Ï h1,Ï h1]
 ·rw [Ì h1,Ì h1];by_cases h2:z=dx
  ·rw [Ï h2,Ì h1]
  ·rw [Ì h2,Ì h1]
theorem sE {D C f:Addr}{nm fld:Str}{k:Nat}{fd:FuncData}{ps:List Str}{u:Value}{v:V}{Q:VK}(B:Ī X.K D)(T:ĵ X.K D nm C f)(F:Ò X.prog X.w X.K X.mg X.base ay k f fd ps (lR C fld))(hr:î (k+1) X.A)(hb:Binds X.K fd ps [])
  (I:Inv X pins σ H s) (r:RelV v u) (h:∀ x dx,H x=none->H dx=none->dx≠x->Q (.ref x) (aj (aj H dx (.xd [(fld,v)])) x (eD x C (some dx)))) :
  wpAny (model X.prog X.w) X.A (call (.ref C) [u]) (EP X pins σ Q) X.xe s:=by
 obtain⟨hp,g,dr,tk,os⟩:=s;obtain⟨q,N,bs,sn,sub,ab,col,dd,k0,k1,k2,k3,k5,l⟩:=T.cls;refine DM (C:=C) I.Ņ K' (B.tail I.Ņ) (I.Ņ _ _ l) T.init T.fn ?_ (by rw [å,KF,Ø];omega)
 have f0:H hp.objs.size=none:=I.fresh;have I1:Inv X pins σ H ⟨hp.push (gV [u]),g,dr,tk,os⟩:=I.kept (h':=hp.push (gV [u])) (t':=tk) λ b o e=>Â _ e;have sz:(hp.push (gV [u])).objs.size=hp.objs.size+1:=ì _ _;have fx:H (hp.objs.size+1)=none:=by rw [<- sz];exact I1.fresh
 have I2:Inv X pins σ (aj H (hp.objs.size+1) (eD (hp.objs.size+1) C none)) ⟨(hp.push (gV [u])).push (eL C hp.objs.size),g,dr,tk,os⟩ :=
  I1.laid (h':=(hp.push (gV [u])).push (eL C hp.objs.size)) (t':=tk) (a:=hp.objs.size+1) (λ b o e=>Â _ e) (Χ sz)
   (jY (t:=hp.objs.size) (ś sz.symm rfl))
 generalize (⟨(hp.push (gV [u])).push (eL C hp.objs.size),g,dr,tk,os⟩:Shared)=s2 at I2 ⊢;generalize hp.objs.size+1=x at fx I2 ⊢;have r2:Vals [V.ref x,v] [Value.ref x,u]:=.cons rfl (.cons r .nil);have KQ:lR C fld [V.ref x,v] (aj H x (eD x C none)) (λ y H2=>y=.ô/\Q (.ref x) H2) E0 :=
  ⟨x,v,rfl,aQ,λ dx hd nd=>⟨rfl,by
   rw [G7 nd];rw [ah nd] at hd;exact h x dx fx hd nd⟩⟩
 have hl:([Value.ref x,u] ++ []:List Value).length=ps.length:=by
  rw [ù,<- r2.length];exact F.len _ _ _ _ KQ
 have To:=hb s2 [Value.ref x,u] I2.Ņ hl;rw [ù] at To;refine Œ (ł (F.run _ X.stack s2 _ ⟨[Value.ref x,u],[]⟩ [Value.ref x,u] _ _ E0 (hr.make C [u] []) (I2.Mn.make C [u] []) To r2 KQ) λ r s' Lv=>?_);cases r with
 | error e=>exact False.elim Lv
 | ok fl =>
  cases fl with
  | ret u' =>
   obtain⟨y,H',I3,ry,ey,q3⟩:=I2.after Lv;subst ey;exact⟨ry,V.ref x,H',I3,rfl,q3⟩
  | next=>exact False.elim Lv
  | brk=>exact False.elim Lv
  | cont=>exact False.elim Lv
end
def zR (h:Heap)(e:Addr)(vs:Array Value):Prop:=vs[1]?=some .none\/∃ T oT ts,vs[1]?=some (.ref T)/\T≠e/\h.get? T=some oT/\oT.data=.fields ts/\ts[3]?=some .none
structure o_ (fr:List Addr)(e T:Addr)(oe:Obj)(h h':Heap)(r:Value):Prop where
 keep:∀ b o,b≠e->b ∉ fr->h.get? b=some o->h'.get? b=some o
 slot:∀ b o,b≠e->h.get? b=some o->∃ sl,h'.get? b=some { o with slots:=sl }
 new:h.objs.size<=T
 exc:h'.get? e=some (oe.mapFields (λ x=>x.setIfInBounds 1 (.ref T)))
 PZ:∃ oT ts,h'.get? T=some oT/\oT.data=.fields ts/\ts[3]?=some r/\T≠e
theorem iS {vs:Array Value}{i:Nat}{v:Value}(h:vs[i]?=some v):vs.setIfInBounds i v=vs:=by
 obtain⟨hi,e⟩:=æ.mp h;apply Array.ext
 ·simp
 ·intro j h1 h2;simp only [Array.size_setIfInBounds] at h1;rw [Array.getElem_setIfInBounds h1];split
  ·rename_i z;subst z;exact e.symm
  ·rfl
theorem k8 {o:Obj}{vs:Array Value}(hd:o.data=.fields vs)(f:Array Value->Array Value):o.mapFields f={ o with data:=.fields (f vs) }:=by
 obtain⟨c,d,dt,sl⟩:=o;have e:dt=.fields vs:=hd;subst e;rfl
theorem kB {M:Model}{A:Around}{E:bz}{s:Shared}{c:String}{vs:List Value}{Q:bz}(hl:vs.length<=sizeLine+2)
  (q:Q (.ref s.heap.objs.size) { s with heap:=s.heap.push { cls:=.type c,data:=.fields vs.toArray } }):wpAny M A (newFields c vs) Q E s:=by
 unfold newFields newObj;refine đ (Å (by rw [Ü];omega)) ?_
 unfold newObjAsIs;exact À (wpAny_alloc (Ã q))
theorem pZ {pl:List Value}(h:IsPlace pl):pl.length<=6:=by
 rcases h with rfl | ⟨a,b,c,d,c9,Z9,_,rfl⟩
 ·decide
 ·exact Ç _
section
variable {M:Model}{A:Around}{E:bz}{s:Shared}{base:Heap}{env:Env}{outer:List Env}{L e:Addr}{oe:Obj}{vs:Array Value}{Q:Unit->Shared->Prop}
theorem oC {head:Value}{hn:Bool}(hA:A.frames=some (env::outer))(hF:s.heap.FunFrames base (env::outer))(hL:env.frame=some L)(he:s.heap.get? e=some oe)(hd:oe.data=.fields vs)(h1:1<vs.size)
  (q:∀ h' T,o_ (jJ (env::outer)) e T oe s.heap h' (rawInt ↑L)->Q () { s with heap:=h' }) :
  wpAny M A (do
   let a <- frameOf env
   let pl <- entryPlaceOf L hn
   let b <- EntryCells.newEntry head a .none (rawInt ↑L) .none pl
   setField (.ref e) 1 b) Q E s:=by
 have P8:e ∉ jJ (env::outer):=λ z=>by
  obtain⟨_,o,ho,hn⟩:=hF.mem z;rw [he] at ho;cases ho;exact hn vs hd
 refine À (wpAny_frameOf_fun hA hF hL λ h1' so=>?_);refine À (wpAny_entryPlaceOf λ pl Ρ=>?_);refine À ?_;unfold EntryCells.newEntry;refine kB ?_ ?_
 ·have:=pZ Ρ;have b:100<=sizeLine:=ag;rw [Ý];split
  ·rw [Ģ];show 5+6<=_;omega
  ·show 5+pl.length<=_;omega
 have e1:h1'.get? e=some oe:=by rw [so.2.1 e P8];exact he
 have lt:=È e1;generalize O_:({ cls:=.type "traceback",data:=.fields ([head,Value.ref L,.none,rawInt ↑L,.none]++if pl.isEmpty=true then List.replicate 6 Value.none else pl).toArray }:Obj)=ob
 have e2:(h1'.push ob).get? e=some oe:=Â _ e1;refine Jj e2 hd h1 ?_;refine q _ h1'.objs.size ⟨λ b o nb nf hb=>?_,λ b o nb hb=>?_,Χ so.1.symm,?_,?_⟩
 ·rw [Õ _ _ _ _ nb];exact Â _ (by rw [so.2.1 b nf];exact hb)
 ·obtain⟨sl,z⟩:=so.2.2 b o hb;exact⟨sl,by rw [Õ _ _ _ _ nb];exact Â _ z⟩
 ·exact ð _ e2 (by rw [k8 hd];rfl)
 ·have nT:h1'.objs.size≠e:=Ne.symm (Ñ lt);refine⟨ob,_,?_,by rw [<- O_],?_,nT⟩
  ·rw [Õ _ _ _ _ nT];exact ś rfl (by rw [<- O_];rfl)
  ·rfl
theorem iG (hA:A.frames=some (env::outer))(hF:s.heap.FunFrames base (env::outer))(hL:env.frame=some L)(he:s.heap.get? e=some oe)(hd:oe.data=.fields vs)(hv:zR s.heap e vs)
  (q:∀ h' T,o_ (jJ (env::outer)) e T oe s.heap h' (rawInt ↑L)->Q () { s with heap:=h' }):wpAny M A (noteFrame (.ref e) env) Q E s:=by
 unfold noteFrame;rw [hL];rcases hv with hv | ⟨T,oT,ts,hv,nT,hT,Mi,h3⟩
 ·have h1:1<vs.size:=(æ.mp hv).1;refine À (è he hd hv ?_);refine đ rfl ?_;exact oC hA hF hL he hd h1 q
 ·have h1:1<vs.size:=(æ.mp hv).1;have Qk:3<ts.size:=(æ.mp h3).1;refine À (è he hd hv ?_);refine Ć rfl ?_;refine À (è hT Mi h3 ?_);refine đ rfl ?_;refine À (Jj hT Mi Qk ?_);have g:∀ b,(s.heap.update T (Obj.mapFields λ x=>x.setIfInBounds 3 Value.none)).get? b=s.heap.get? b:=λ b=>by
   by_cases z:b=T
   ·subst z;rw [ð _ hT (by rw [k8 Mi];rfl),hT,k8 Mi,iS h3,<- Mi]
   ·exact Õ _ _ _ _ z
  have sz:(s.heap.update T (Obj.mapFields λ x=>x.setIfInBounds 3 Value.none)).objs.size=s.heap.objs.size:=LX _ _ _;generalize s.heap.update T (Obj.mapFields λ x=>x.setIfInBounds 3 Value.none)=h0 at g sz;have X0:h0.FunFrames base (env::outer):=Heap.FunFrames.of_keeps (λ b o hb _=>⟨o,by rw [g];exact hb,rfl⟩) hF
  refine oC (s:={ s with heap:=h0 }) hA X0 hL (by show h0.get? e=_;rw [g];exact he) hd h1 λ h' T' x=>?_
  exact q h' T' ⟨λ b o nb nf hb=>x.keep b o nb nf (by show h0.get? b=_;rw [g];exact hb),λ b o nb hb=>x.slot b o nb (by show h0.get? b=_;rw [g];exact hb),by rw [<- sz];exact x.new,x.exc,x.PZ⟩
theorem o_.LA {fr:List Addr}{T:Addr}{h h':Heap}{r:Value}(x:o_ fr e T oe h h' r)(hd:oe.data=.fields vs)(h1:1<vs.size)(s':Shared)(es:s'.heap=h')
  (q:∀ h2,o_ fr e T oe h h2 .none->Q () { s' with heap:=h2 }):wpAny M A (setFlight (.ref e) none) Q E s':=by
 subst es;obtain⟨oT,ts,hT,Mi,h3,nT⟩:=x.PZ;have Qk:3<ts.size:=(æ.mp h3).1;have e1:(oe.mapFields (λ x=>x.setIfInBounds 1 (.ref T))).data=.fields (vs.setIfInBounds 1 (.ref T)):=KC hd _;have e2:(vs.setIfInBounds 1 (Value.ref T))[1]?=some (.ref T):=by simp [h1]
 refine Ji x.exc e1 e2 hT Mi Qk (q _ ⟨λ b o nb nf hb=>?_,λ b o nb hb=>?_,x.new,?_,?_⟩)
 ·have z:=x.keep b o nb nf hb;rw [Õ _ _ _ _ (λ w=>?_)]
  ·exact z
  ·rw [w] at hb;exact absurd (Í (È hb) x.new) (ı _)
 ·obtain⟨sl,z⟩:=x.slot b o nb hb;refine⟨sl,?_⟩;rw [Õ _ _ _ _ (λ w=>?_)]
  ·exact z
  ·rw [w] at hb;exact absurd (Í (È hb) x.new) (ı _)
 ·rw [Õ _ _ _ _ nT.symm];exact x.exc
 ·refine⟨_,_,ð _ hT (by rw [k8 Mi];rfl),KC Mi _,?_,nT⟩
  simp [Qk]
theorem lY (hA:A.frames=some (env::outer))(hF:s.heap.FunFrames base (env::outer))(hL:env.frame=some L)(he:s.heap.get? e=some oe)(hd:oe.data=.fields vs)(hv:zR s.heap e vs)
  (q:∀ h' T,o_ (jJ (env::outer)) e T oe s.heap h' .none->Q () { s with heap:=h' }):wpAny M A (leaving env (.ref e)) Q E s:=by
 have h1:1<vs.size:=by
  rcases hv with hv | ⟨T,oT,ts,hv,_⟩
  ·exact(æ.mp hv).1
  ·exact(æ.mp hv).1
 unfold leaving;exact À (iG hA hF hL he hd hv λ h' T x=>x.LA hd h1 _ rfl λ h2 x2=>q h2 T x2)
end
def one (P:V->Hp->Prop)(vs:List V)(H:Hp):Prop:=match vs with
 | [v]=>P v H
 | _=>False
theorem Ai {P:V->Hp->Prop}{vs:List V}{H:Hp}(h:one P vs H):∃ v,vs=[v]/\P v H:=by
 cases vs with
 | nil=>exact h.elim
 | cons v r =>
  cases r with
  | nil=>exact⟨v,rfl,h⟩
  | cons _ _=>exact h.elim
def two (P:V->V->Hp->Prop)(vs:List V)(H:Hp):Prop:=match vs with
 | [v,u]=>P v u H
 | _=>False
theorem zI {P:V->V->Hp->Prop}{vs:List V}{H:Hp}(h:two P vs H):∃ v u,vs=[v,u]/\P v u H:=by
 match vs,h with
 | [v,u],h=>exact⟨v,u,rfl,h⟩
section
variable {X:Cx}{pins:List (Addr × Obj)}{σ:St}{H:Hp}{s:Shared}
theorem Bw {D C f:Addr}{nm fld x:Str}{k:Nat}{fd:FuncData}{ps:List Str}{e:Expr}{te:TE}{p pos:Pos}(B:Ī X.K D)(T:ĵ X.K D nm C f)(F:Ò X.prog X.w X.K X.mg X.base ay k f fd ps (lR C fld))(hr:î (k+1) X.A)(hb:Binds X.K fd ps [])
  (hg:Gl X x) (hm:X.mg x=some (.ref C)) (ha:PE X e te) (Ν:(x==("__debug__" : Str))=false:=by decide) (he:starEach [e] X.env=(false,eval e X.env)::starEach [] X.env:=by rfl) (Ρ:(backTo pos (starEach [] X.env)).any (·.1)=false:=by rfl) :
  PE X (.Call (.Name x p) [e] [] pos) (B1 C fld te):=by
 intro pins s σ H Q I h;refine Č (cu I hg hm ?_ Ν);have pa:PA X [e] (aw te aP):=ac ha ao he;have h':aw te aP σ H (one λ v H1=>∀ x dx,H1 x=none->H1 dx=none->dx≠x->Q (.ref x) (aj (aj H1 dx (.xd [(fld,v)])) x (eD x C (some dx)))):=h;refine Ġ (h₀:=X.base) I.ok.mod.L' T.kp (aW (pa pos pins s σ H _ I h') λ us s1 ⟨vs,H1,I1,r,q⟩=>⟨I1.Ņ,?_⟩) he Ρ;obtain⟨v,rfl,q⟩:=Ai q;obtain⟨u,rfl,ru⟩:=dH r;exact sE B T F hr hb I1 ru q
def Ia (ts tt:TE)(C:Addr):TE:=λ σ H Q=>ts σ H λ x H1=>tt σ H1 λ v H2=>∃ a,x=.ref a/\H2 a=some (eD a C none)/\Q .ô H2
theorem bM {D C f:Addr}{nm x:Str}{o e:Expr}{ts tt:TE}{p œ pos:Pos}{pl:Sem Bool}(B:Ī X.K D)(T:ĵ X.K D nm C f)(hg:Gl X x)(hm:X.mg x=some (.ref D))(hs:PE X o ts)(ht:PE X e tt) (Ν:(x==("__debug__" : Str))=false:=by decide)
  (K6:starEach [o,e] X.env=(false,eval o X.env)::starEach [e] X.env:=by rfl) (Rs:starEach [e] X.env=(false,eval e X.env)::starEach [] X.env:=by rfl) (Ρ:(backTo pos (starEach [e] X.env)).any (·.1)=false:=by rfl)
  (Rr:eval (.Call (.Attribute (.Name x p) "__init__" œ) [o,e] [] pos) X.env=(do
   let ov <- eval (.Name x p) X.env
   standAt œ.atName
   let (f,first) <- holding [ov] (getMethod ov "__init__" pl)
   callWith pos f first (backTo pos (starEach [o,e] X.env)) (backToKw pos (keywordEach [] X.env))):=by rfl) :
  PE X (.Call (.Attribute (.Name x p) "__init__" œ) [o,e] [] pos) (Ia ts tt C):=by
 intro pins s σ H Q I h;refine Ŕ (pl:=pl) (cu I hg hm ?_ Ν) Rr;refine method_cls I.Ņ B.ga (cls_value I.Ņ B.reads B.O3 rfl ?_);have I0:Inv X pins σ H { s with toks:=s.toks+1 }:=I.tok _
 have pa:PA X [o,e] (aw ts (aw tt aP)):=ac hs (ac ht ao Rs) K6;have h':aw ts (aw tt aP) σ H (two λ x v H2=>∃ a,x=.ref a/\H2 a=some (eD a C none)/\Q .ô H2):=h;refine JE (aW (pa pos pins _ σ H _ I0 h') λ us s1 ⟨vs,H1,I1,r,q⟩=>?_) K6 Ρ;obtain⟨_,v,rfl,a,rfl,ha,q⟩:=zI q;obtain⟨u,u',rfl,ru,P4⟩:=mJ r;cases (show u=Value.ref a from ru);obtain⟨t0,hx⟩:=gF I1.þ ha;obtain⟨q',N,bs,sn,sub,ab,col,dd,k0,k1,k2,k3,k5,l⟩:=T.cls;obtain⟨hp,g,dr,tk,os⟩:=s1;refine Œ (zv (C:=C) K' (B.tail I1.Ņ) (I1.Ņ _ _ l) hx λ h' Js hk=>?_);have I2:Inv X pins σ (aj H1 a (eD a C none)) ⟨h',g,dr,tk,os⟩:=I1.write (h':=h') (t':=tk) (x:=a) (e:=a) (by rw [ha];exact True.intro) (.inl rfl) (λ b o hb e=>hk b o hb e) ⟨_,Js⟩ (jY Js)
 rw [nh ha] at I2;exact⟨.ô,H1,I2,rfl,q⟩
def Cn (K:Frag)(C:Addr)(ta tv:TE)(f:Str):TS:=λ D σ H=>tv σ H λ y H1=>ta σ H1 λ x H2=>∃ a,x=.ref a/\H2 a=some (eD a C none)/\takerIn K C f=some none/\∀ dx,H2 dx=none->dx≠a->D.nx σ (aj (aj H2 dx (.xd [(f,y)])) a (eD a C (some dx)))
theorem fW {D C fI:Addr}{nm f:Str}{o value:Expr}{ta tv:TE}{pos pos':Pos}(T:ĵ X.K D nm C fI)(ha:PE X o ta)(hv:PE X value tv)(hs:swapsWith value (some (.Attribute o f pos')) pos.line X.env=pure false) :
  PS X (.Assign [.Attribute o f pos'] value pos) (Cn X.K C ta tv f):=by
 intro pins s σ H D' I h;refine LI (aW (hv pins s σ H _ I h) λ u s1 ⟨y,H1,I1,ry,q⟩=>aW (ha pins s1 σ H1 _ I1 q) λ ov s2 ⟨x,H2,I2,rx,a,ex,ea,tk,q2⟩=>?_) hs;subst ex;obtain rfl:ov=Value.ref a:=rx;obtain⟨t0,hx⟩:=gF I2.þ ea;obtain⟨cd,hc,hd,hp⟩:=T.refuse a;refine zL I2.Ņ hx T.sa hc hd hp T.it.mo tk λ h' NZ Js MR hk=>?_;have fr:H2 s2.heap.objs.size=none:=I2.fresh;have nz:s2.heap.objs.size≠a:=λ z=>by rw [<- z,fr] at ea;cases ea
 obtain⟨oD,es,ep,Ny,rD⟩:=id MR;have nf:oD.isFreed=false:=Obj.isFreed_of_dict rD.1;have I3:Inv X pins σ (aj H2 s2.heap.objs.size (.xd [(f,y)])) { s2 with heap:=s2.heap.push oD,toks:=s2.toks }:=by
  refine I2.laid (h':=s2.heap.push oD) (t':=s2.toks) (a:=s2.heap.objs.size) (λ b o e=>Â _ e) (Ç _) ⟨_,⟨oD,es,ep,ś rfl nf,rD⟩,λ g=>?_⟩;by_cases e:g=f
  ·subst e;rw [Ï rfl,List.lookup_cons_self];exact ry
  ·rw [Ì e,Ċ,Þ.mpr e];exact True.intro
 have YW:aj H2 s2.heap.objs.size (.xd [(f,y)]) a=some (eD a C none):=by rw [ah nz.symm];exact ea
 have I4:Inv X pins σ (aj (aj H2 s2.heap.objs.size (.xd [(f,y)])) a (eD a C (some s2.heap.objs.size))) { s2 with heap:=h',toks:=NZ }:=by
  refine I3.write (h':=h') (t':=NZ) (x:=a) (e:=a) (by rw [YW];exact True.intro) (.inl rfl) (λ b o hb e=>?_) ⟨_,Js⟩ (jY (t:=t0) Js)
  by_cases z:b=s2.heap.objs.size
  ·subst z;have e':(s2.heap.push oD).get? s2.heap.objs.size=some o:=e;rw [ś rfl nf] at e';cases e';exact Ny
  ·have e':(s2.heap.push oD).get? b=some o:=e;exact hk b o hb (by rw [<- Heap.get?_push_ne _ _ oD z];exact e')
 exact⟨σ,_,I4,q2 _ fr nz⟩
end
section
variable {X:Cx}{pins:List (Addr × Obj)}{σ:St}{H:Hp}{s:Shared}
theorem kT {P:Program}{w:World}{H:Hp}{h:Heap}{a C dx:Addr}{fs:List (Str × V)}(ok:ţ P w H h)(ea:H a=some (eD a C (some dx)))(ed:H dx=some (.xd fs)) :
  ∃(ox od:Obj),InstAt h a ox C (some od)/\∃ mA:Str->Option Value,(∀ f,Ţ (fs.lookup f) (mA f))/\∀ name,lookIn name od=some (mA name):=by
 obtain⟨t,hx⟩:=gF ok ea;obtain⟨mA,hn,hr⟩:=(show ñ P w H h dx (.xd fs) from ok dx _ ed);obtain⟨od,RD,hl⟩:=gW hn;exact⟨_,od,⟨hx,rfl,rfl,RD⟩,mA,hr,hl⟩
structure uH (K:Frag):Prop where
 gt:specialIn K (.builtin "object.__class__") "__get__" = some (some (.builtin "getset_descriptor.__get__"))
 tk:takesIn K (.builtin "object.__class__")=some true
def IQ (H:Hp)(a C:Addr):Prop:=H a=some (eD a C none)\/∃ dx fs,H a=some (eD a C (some dx))/\H dx=some (.xd fs)
theorem IQ.inst {P:Program}{w:World}{H:Hp}{h:Heap}{a C:Addr}(E:IQ H a C)(ok:ţ P w H h):∃ ox od,InstAt h a ox C od:=by
 rcases E with e | ⟨dx,fs,ea,ed⟩
 ·obtain⟨t,hx⟩:=gF ok e;exact⟨_,none,⟨hx,rfl,rfl,True.intro⟩⟩
 ·obtain⟨ox,od,J,_⟩:=kT ok ea ed;exact⟨ox,some od,J⟩
end
end My
namespace My
open PySem PySem.W L2
open PyProof.Rows (AllBare)
abbrev jp (C:Addr)(d:Option Addr)(t:Addr)(v:Value):Obj:={ cls:=.ref C,dict:=d,data:=.fields #[.ref t,v,.none,.none,.bool false,.none] }
def gh (x C:Addr)(d:Option Addr):HO:=.ext λ h=>∃ t v,h.get? x=some (jp C d t v)
theorem vt {P:Program}{w:World}{H:Hp}{h:Heap}{x C:Addr}{d:Option Addr}{t:Addr}{v:Value}(e:h.get? x=some (jp C d t v)):ñ P w H h x (gh x C d) :=
 ⟨⟨t,v,e⟩,⟨_,e⟩,λ _ _ ⟨t',v',e'⟩ k=>⟨t',v',k _ e'⟩⟩
theorem vS {P:Program}{w:World}{H:Hp}{h:Heap}{x C:Addr}{d:Option Addr}(ok:ţ P w H h)(e:H x=some (gh x C d)):∃ t v,h.get? x=some (jp C d t v):=(ok x _ e).1
def Ie (n:Nat)(H:Hp)(h:Heap)(x C:Addr)(d:Option Addr):Prop:=∃ t T oT ts,h.get? x=some (jp C d t (.ref T))/\T≠x/\n<=T/\H T=none/\h.get? T=some oT/\oT.data=.fields ts/\ts[3]?=some Value.none
def bP (P:Program)(w:World):iC:=λ outer H s E e s'=>∃ x C dx fs H',e=.ref x/\s'.os=s.os/\AllBare s'.gens/\Un (jJ outer) [] H H' s.heap s'.heap/\ţ P w H' s'.heap/\H' x=some (gh x C (some dx))/\H' dx=some (.xd fs)/\Ie s.heap.objs.size H' s'.heap x C (some dx)/\E (.ref C) (some x) H'
section
variable {X:Cx}{pins:List (Addr × Obj)}{σ:St}{H:Hp}{s:Shared}
theorem Inv.left {x C:Addr}{d:Option Addr}{t T:Addr}{v r:Value}{h':Heap}{o:HO}(I:Inv X pins σ H s)(hS:X.stack=X.env::X.outer)(hx:H x=some o)(ho:(∃ φ,o=.ext φ))(he:s.heap.get? x=some (jp C d t v))
  (l:o_ (jJ (X.env::X.outer)) x T (jp C d t v) s.heap h' r):Inv X pins σ (aj H x (gh x C d)) { s with heap:=h' }:=by
 obtain⟨φ,rfl⟩:=ho;have nx:∀ b u,H b=some u->(∀ φ,u ≠ .ext φ)->b≠x:=λ b u e n z=>by
  subst z;rw [hx] at e;exact n φ (Ó e).symm
 have YH:∀ b∈jJ (X.env::X.outer),H b=none:=λ b hb=>I.IV b (by rw [hS];exact hb)
 have P8:∀ b u,H b=some u->b ∉ jJ (X.env::X.outer):=λ b u e z=>by rw [YH b z] at e;cases e
 have exc:h'.get? x=some (jp C d t (.ref T)):=l.exc;have sub:∀ b,b∈jJ (X.env::X.outer)->b=X.env.locals\/b∈X.fs:=λ b hb=>ß.mp (I.e_ b (by rw [hS];exact hb))
 refine I.step (g':=s.gens) (d':=s.drawn) (t':=s.toks) (ch:=[]) (λ _ z=>nomatch z) (λ b o hL hf _ e n=>?_) (λ b o hL hf _ e n=>?_) (λ b o _ e n=>?_) (λ b o _ e=>?_) (λ b xs e=>?_) (λ b o u e=>?_) (λ b ps e=>⟨#[],?_⟩) (λ e=>?_) (λ m hm=>?_) (λ b u e=>?_) I.bare
 ·refine l.keep b o (λ z=>by rw [z,hx] at n;cases n) (λ z=>?_) e
  rcases sub b z with q | q
  ·exact hL q
  ·exact hf q
 ·exact l.slot b o (λ z=>by rw [z,hx] at n;cases n) e
 ·rw [ah (λ z=>by rw [z,hx] at n;cases n)];exact n
 ·by_cases z:b=x
  ·subst z;exact⟨_,exc⟩
  ·obtain⟨sl,q⟩:=l.slot b o z e;exact⟨_,q⟩
 ·rw [ah (nx b _ e λ _=>by intro z;cases z)];exact e
 ·rw [ah (nx b _ e λ _=>by intro z;cases z)];exact e
 ·rw [ah (nx b _ e λ _=>by intro z;cases z),e];simp
 ·rw [ah (λ z=>by rw [z,hx] at e;cases e)];exact e
 ·obtain⟨o,es,ep,ho,r⟩:=hm;obtain⟨sl,q⟩:=l.slot _ o (λ z=>by have:=I.free;rw [z,hx] at this;cases this) ho
  exact⟨_,es,ep,q,r⟩
 ·by_cases z:b=x
  ·subst z;rw [aQ] at e;cases e;exact vt exc
  ·rw [ah z] at e;refine(I.þ b u e).π (λ c o' hc q=>?_) (λ c q=>?_) λ c xs q=>?_
   ·rcases hc with rfl | hc
    ·exact l.keep c o' z (P8 c u e) q
    ·exact l.keep c o' (nx c _ hc λ _=>by intro w;cases w) (P8 c _ hc) q
   ·rw [ah (nx c _ q λ _=>by intro w;cases w)];exact q
   ·rw [ah (nx c _ q λ _=>by intro w;cases w)];exact q
end
section
variable {P:Program}{w:World}{K:Frag}{mg:aX}{base:Heap}{N:List Str}{qual:Str}{scope:Scope}{f:Addr}{cd:Value}{A:Around}{outer:List Env}{s0:Shared}{H0:Hp}{E:XK}{pins:List (Addr × Obj)}{σ:St}{H:Hp}{s:Shared}
theorem xr {x C dx:Addr}{t:Addr}{v:Value}{o:HO}{fs:List (Str × V)}(I:Inv (cq (bP P w) P w K mg base N qual scope f cd A outer s0 H0 E) pins σ H s)(hx:H x=some o)(ho:(∃ φ,o=.ext φ))(JY:H dx=some (.xd fs))(he:s.heap.get? x=some (jp C (some dx) t v))
  (hv:zR s.heap x #[.ref t,v,.none,.none,.bool false,.none]) (q:E (.ref C) (some x) (aj H x (gh x C (some dx)))):(cq (bP P w) P w K mg base N qual scope f cd A outer s0 H0 E).xe (.ref x) s:=by
 have hA:=I.ok.frames;refine lY hA I.stack rfl he rfl hv λ h' T l=>?_;have J:=Inv.left I rfl hx ho he l;have nT:H T=none:=I.þ.fresh l.new;obtain⟨oT,ts,h1,h2,h3,h4⟩:=l.PZ;have nd:dx≠x:=λ z=>by
  obtain⟨φ,rfl⟩:=ho;rw [z,hx] at JY;cases JY
 refine⟨x,C,dx,fs,_,rfl,J.os,J.bare,J.base,J.þ,aQ,by rw [ah nd];exact JY,⟨t,T,oT,ts,l.exc,h4,Ô I.sz l.new,?_,h1,h2,h3⟩,q⟩
 rw [ah h4];exact nT
theorem bQ:cO (bP P w) (cq (bP P w) P w K mg base N qual scope f cd A outer s0 H0 E) E:=by
 intro pins σ H s e s' I h;obtain⟨x,C,dx,fs,H',rfl,os,bare,un,þ,hx,JY,⟨t,T,oT,ts,h1,h2,_,h4,h5,h6,h7⟩,q⟩:=h;have J:=I.LD os un þ bare (λ b z=>absurd z (by simp))
 refine xr J hx ⟨_,rfl⟩ JY h1 (.inr ⟨T,oT,ts,rfl,h2,h5,h6,h7⟩) ?_;rw [nh hx];exact q
end
end My
namespace My
open PySem PySem.W L2
open PyProof.Rows (AllBare)
section
variable {prog:Program}{w:World}{A:Around}{E:bz}{s:Shared}{env:Env}{x:Sem Value}{Q:Flow->Shared->Prop}{K:Frag}{C:Addr}
theorem tX (T:mH K C)(ht:typeIn K (.ref C)=some (.type "type")) (hA:A.handled=none)
  (hx:wpAny (model prog w) A x (λ v s1=>∃ e t d od,v=.ref e/\InstAt s1.heap e (jP C d t) C od/\K.In s1.heap/\E (.ref e) s1) E s):wpAny (model prog w) A (raiseStmt env (some x) none) Q E s:=by
 unfold raiseStmt;refine À (Ğ hx (λ v s1 h=>?_) (λ _ _ z=>z));obtain⟨e,t,d,od,rfl,I,KX,q⟩:=h;obtain⟨hp,g,dr,tk,os⟩:=s1;have SW:∀ c:ClassData,(jP C d t).data≠Data.cls c:=λ c z=>by cases z
 refine À (Ã ?_);refine À ?_;show wpAny _ _ (excFromValue (.ref e) _) _ _ _;unfold excFromValue;refine À ?_;unfold isExcClass;refine À (ks_wpAny_isType_inst I.at_ SW ?_);refine đ rfl (Ã ?_);refine đ rfl ?_;refine À ?_;have sub:Looks (model prog w) hp (isInstance (.ref e) (.type "BaseException")) true:=I.type.andThen (τ KX T.mb);refine Đ (s:=⟨hp,g,dr,tk,os⟩) sub ?_;refine Ć rfl (Ã ?_);refine À (ks_wpAny_isType_inst I.at_ SW ?_);refine đ rfl ?_;refine À ?_;unfold raisedInstance;refine À (Đ (s:=⟨hp,g,dr,tk,os⟩) I.type ?_);refine À (Đ (s:=⟨hp,g,dr,tk,os⟩) (looks_typeIn KX ht) ?_);refine Ć rfl (Ã ?_);refine À ?_;unfold setFlight;refine À (è I.at_ rfl rfl ?_);refine đ rfl (Ã ?_);exact wpAny_raiseNew_none hA q
end
theorem ĵ.type {K:Frag}{D:Addr}{nm:Str}{C f:Addr}(T:ĵ K D nm C f):typeIn K (.ref C)=some (.type "type"):=by
 obtain⟨q,N,bs,sn,sub,ab,col,dd,k0,k1,k2,k3,k5,l⟩:=T.cls;show(K.lookup C).map (λ o=>o.cls)=_;rw [l];rfl
def qR (E:XK)(C:Addr):VK:=λ y H'=>∃ x dx fs,y=.ref x/\H' x=some (eD x C (some dx))/\H' dx=some (.xd fs)/\E (.ref C) (some x) (aj H' x (gh x C (some dx)))
def zD (E:XK)(C:Addr)(fld:Str)(te:TE):TS:=λ _ σ H=>B1 C fld te σ H (qR E C)
theorem eN {H:Hp}{x:Addr}{a b:HO}:aj (aj H x a) x b=aj H x b:=by
 funext z
 unfold aj;by_cases h:z=x
 ·rw [Ï h,Ï h]
 ·rw [Ì h,Ì h,Ì h]
section
variable {P:Program}{w:World}{K:Frag}{mg:aX}{base:Heap}{N:List Str}{qual:Str}{scope:Scope}{f:Addr}{cd:Value}{A:Around}{outer:List Env}{s0:Shared}{H0:Hp}{E:XK}
abbrev qP (P:Program)(w:World)(K:Frag)(mg:aX)(base:Heap)(N:List Str)(qual:Str)(scope:Scope)(f:Addr)(cd:Value)(A:Around)(outer:List Env)(s0:Shared)(H0:Hp)(E:XK):Cx:=cq (bP P w) P w K mg base N qual scope f cd A outer s0 H0 E
theorem cH {D C fI:Addr}{nm fld x:Str}{k:Nat}{fd:FuncData}{ps:List Str}{e:Expr}{te:TE}{p pos pos':Pos}(B:Ī K D)(T:ĵ K D nm C fI)(F:Ò P w K mg base ay k fI fd ps (lR C fld))(hr:î (k+1) (qP P w K mg base N qual scope f cd A outer s0 H0 E).A)(hb:Binds K fd ps [])
  (hg:Gl (qP P w K mg base N qual scope f cd A outer s0 H0 E) x) (hm:mg x=some (.ref C)) (ha:PE (qP P w K mg base N qual scope f cd A outer s0 H0 E) e te)
  (Ν:(x==("__debug__" : Str))=false:=by decide) (he:starEach [e] (qP P w K mg base N qual scope f cd A outer s0 H0 E).env=(false,eval e (qP P w K mg base N qual scope f cd A outer s0 H0 E).env)::starEach [] (qP P w K mg base N qual scope f cd A outer s0 H0 E).env:=by rfl) (Ρ:(backTo pos (starEach [] (qP P w K mg base N qual scope f cd A outer s0 H0 E).env)).any (·.1)=false:=by rfl) :
  PS (qP P w K mg base N qual scope f cd A outer s0 H0 E) (.Raise (some (.Call (.Name x p) [e] [] pos)) none pos') (zD E C fld te):=by
 intro pins s σ H D' I h;have pe:=Bw (X:=qP P w K mg base N qual scope f cd A outer s0 H0 E) (p:=p) (pos:=pos) B T F hr hb hg hm ha Ν he Ρ;have hd:(qP P w K mg base N qual scope f cd A outer s0 H0 E).A.handled=none:=I.ok.hd rfl;rw [arm_exec_Raise];refine À (ģ ?_);refine tX T.it T.type hd ?_;refine À (aW (pe pins s σ H (qR E C) I h) λ u s1 h1=>?_);obtain⟨y,H1,I1,ry,x,dx,fs,rfl,e1,e2,q⟩:=h1;refine À (ģ (Ã ?_));obtain⟨t,ht⟩:=gF I1.þ e1;obtain⟨ox,od,J,_⟩:=kT I1.þ e1 e2;have eo:ox=jP C (some dx) t:=Ó (J.at_.symm.trans ht);subst eo;exact⟨x,t,some dx,some od,ry,J,I1.Ņ,xr I1 e1 ⟨_,rfl⟩ e2 ht (.inl rfl) q⟩
theorem fv {C x dx:Addr}{fld:Str}{v:V}{H1:Hp}(nd:dx≠x)(q:E (.ref C) (some x) (aj (aj H1 dx (.xd [(fld,v)])) x (gh x C (some dx)))):qR E C (.ref x) (aj (aj H1 dx (.xd [(fld,v)])) x (eD x C (some dx))) :=
 ⟨x,dx,_,rfl,aQ,by rw [ah nd,aQ],by rw [eN];exact q⟩
theorem Fw {x qual:Str}{st:Stmt}{f:Addr}{fd:FuncData}{N ps:List Str}{k:Nat}{sp:Sp}(F:ė K x qual st f fd)(S:ad N ps (aa st))(len:∀ vs H Q E,sp vs H Q E->vs.length=ps.length)
  (Ξ:∀(cdv:Value)(A:Around)(outer:List Env)(s:Shared)(H:Hp)(vs:List V)(Q:VK)(E:XK),î k (A.deeper (PyProof.Rows.envOfC qual (aa st) s.heap.objs.size f cdv))->sp vs H Q E ->
   ∃ t,Ũ (qP P w K mg base N qual (aa st) f cdv A outer s H E) (aI st) t/\t { nx:=λ _ H'=>Q .ô H',rt:=Q } (fD N vs) H):Ò P w K mg base (bP P w) (k+1) f fd ps sp:=by
 obtain⟨oc,od,kV,doc,pm,an,cdv,ct,L5,rfl,lk,JZ⟩:=F.ex;refine xN lk JZ S len λ A outer s H vs Q E hr KQ=>?_;obtain⟨t,h,q⟩:=Ξ cdv A outer s H vs Q E hr KQ;exact⟨t,h,q⟩
theorem fH {x qual:Str}{st:Stmt}{f:Addr}{fd:FuncData}{N ps:List Str}{k:Nat}{sp:Sp}(F:ė K x qual st f fd)(S:ad N ps (aa st))
  (Ξ:∀(cdv:Value)(A:Around)(outer:List Env)(s:Shared)(H:Hp)(vs:List V)(Q:VK)(E:XK),î k (A.deeper (PyProof.Rows.envOfC qual (aa st) s.heap.objs.size f cdv))->sp vs H Q E ->
   ∃ t,Ũ (qP P w K mg base N qual (aa st) f cdv A outer s H E) (aI st) t/\t { nx:=λ _ H'=>Q .ô H',rt:=Q } (fD N vs) H) (len:∀ vs H Q E,sp vs H Q E->vs.length=ps.length:=by intro vs H Q E h;repeat (first | (obtain⟨rfl,_⟩:=h;rfl) | (obtain⟨_,h⟩:=h))):Ò P w K mg base (bP P w) (k+1) f fd ps sp:=Fw F S len Ξ
theorem gE {X:Cx}{st:Stmt}:PS X st (λ _ _ _=>False):=λ _ _ _ _ _ _ h=>h.elim
theorem Ò.SB {k:Nat}{f:Addr}{fd:FuncData}{ps:List Str}{sp:Sp}(F:Ò P w K mg base ay k f fd ps sp):Ò P w K mg base (bP P w) k f fd ps sp :=
 ⟨F.len,λ A outer s H args us vs Q E hr he hb hv hs=>ł (F.run A outer s H args us vs Q E hr he hb hv hs) λ r s' h=>by
  cases r with
  | error e=>exact False.elim h
  | ok fl=>cases fl <;> exact h⟩
end
end My
namespace My
open PySem PySem.W L2
open PyProof.Rows (AllBare)
def PX (X:Cx)(σ:St)(e:Expr)(t:TE):Prop:=∀(pins:List (Addr × Obj))(s:Shared)(H:Hp)(Q:VK),Inv X pins σ H s->t σ H Q->wpAny (model X.prog X.w) X.A (eval e X.env) (EP X pins σ Q) X.xe s
def H9 (X:Cx)(σ:St)(es:List Expr)(t:TA):Prop:=∀(pos:Pos)(pins:List (Addr × Obj))(s:Shared)(H:Hp)(Q:List V->Hp->Prop),Inv X pins σ H s->t σ H Q->wpAny (model X.prog X.w) X.A (spliced (backTo pos (starEach es X.env))) (AP X pins σ Q) X.xe s
section
variable {X:Cx}{σ:St}{e:Expr}{es:List Expr}{te:TE}{t:TA}{pos:Pos}
theorem yI (h:PA X es t):H9 X σ es t:=λ pos pins s H Q I q=>h pos pins s σ H Q I q
def sJ (CX:iC)(X:Cx)(σ:St)(E:XK):Prop:=∀(pins:List (Addr × Obj))(H:Hp)(s:Shared)(e:Value)(s':Shared),Inv X pins σ H s->CX X.stack H s E e s'->X.xe e s'
variable {CX:iC}{k:Nat}{f C:Addr}{fd:FuncData}{ps:List Str}{sp:Sp}{dvs:List V}{ds:List Value}{E:XK}{x:Str}{p:Pos}
end
section
variable {prog:Program}{w:World}{A:Around}{E:bz}{s:Shared}{K:Frag}{C D e:Addr}{Q:Bool->Shared->Prop}{ox:Obj}{od:Option Obj}{b:Bool}
theorem jd (KX:K.In s.heap)(hD:∃ cd,clsIn K D=some cd)(hT:typeIn K (.ref D)=some (.type "type")) (hB:mroIn K D (.type "BaseException")=some true) (I:InstAt s.heap e ox C od) (hC:mroIn K C (.ref D)=some b) (q:Q b s):wpAny (model prog w) A (excMatches (.ref e) (.ref D)) Q E s:=by
 unfold excMatches;have L1:Looks (model prog w) s.heap (isInstance (.ref D) (.type "tuple")) false:=(looks_typeIn KX hT).andThen (Looks.of_pure rfl);refine À (Đ L1 ?_);refine đ rfl ?_;refine À (Ã ?_);refine À ?_;obtain⟨cd,hc⟩:=hD;obtain⟨hp,g,dr,tk,os⟩:=s;obtain⟨oD,Ny,Pf⟩:∃ oD,K.lookup D=some oD/\oD.data=.cls cd:=by
  unfold clsIn at hc;split at hc
  ·rename_i h
   exact⟨_,h,by cases hc;rfl⟩
  ·cases hc
 rw [List.forIn_cons];refine À (À ?_);unfold isExcClass;refine À (ks_wpAny_isType_cls (KX _ _ Ny) Pf ?_);refine Ć rfl ?_;refine Đ (s:=⟨hp,g,dr,tk,os⟩) (τ KX hB) ?_;refine đ rfl (Ã ?_);show wpAny _ _ (forIn ([]:List Value) PUnit.unit _) _ _ _;rw [Lc];refine Ã ?_;refine À (Đ (s:=⟨hp,g,dr,tk,os⟩) I.type ?_);refine À ?_;rw [List.forIn_cons];refine À (À (Đ (s:=⟨hp,g,dr,tk,os⟩) (τ KX hC) ?_));cases b with
 | true =>
  refine Ć rfl (Ã ?_);exact Ã (Ã q)
 | false =>
  refine đ rfl (Ã ?_);show wpAny _ _ (forIn ([]:List Value) _ _) _ _ _;rw [Lc];exact Ã (Ã q)
end
end My
namespace My
open PySem PySem.W L2
open PyProof.Rows (AllBare)
def Hz (X:Cx)(σ:St)(st:Stmt)(t:TS):Prop:=∀(pins:List (Addr × Obj))(s:Shared)(H:Hp)(D:bT),Inv X pins σ H s->t D σ H->wpAny (model X.prog X.w) X.A (exec st X.env) (SP X pins D) X.xe s
section
variable {X:Cx}{σ:St}{e:Expr}{te:TE}{pos:Pos}
theorem uR {i:Nat}{x:Str}{pos':Pos}(hN:X.N.Nodup)(hi:X.N[i]?=some x)(hx:xV X.env.scope x)(he:PX X σ e te)(hs:swapsWith e (some (.Name x pos')) pos.line X.env=pure false:=by rfl)(hf:X.fn x=true\/X.env.scope.names.lookup x=some .local:=by first | exact .inl rfl | exact .inr rfl | assumption) :
  Hz X σ (.Assign [.Name x pos'] e pos) (cM te (be i)):=by
 intro pins s H D I h;refine wpAny_Assign_Name (aW (he pins s H _ I h) λ v s1 ⟨y,H1,I1,r1,q1⟩=>?_) hs;exact dM I1 hN hi hx r1 (λ s2 I2=>⟨_,H1,I2,q1⟩) hf
end
abbrev iD (X:Cx)(pn:List (Addr × Obj))(xe:bz):Cx:={ X with pn:=pn,xe:=xe }
abbrev kc (X:Cx)(x:Addr):Cx:={ X with A:=X.A.mark (some (.ref x)),calm:=false,xe:=λ _ _=>False }
section
variable {X:Cx}{pins G_ pn:List (Addr × Obj)}{σ:St}{H:Hp}{s:Shared}{xe:bz}{x:Addr}
theorem Ok.Lh (ok:X.Ok):(iD X pn xe).Ok:=⟨ok.mod,ok.kind,ok.glob,ok.blt,ok.above,ok.inj,ok.has,ok.MX,ok.hd,ok.frames,ok.Ni,ok.Pm,ok.bs,ok.K7,ok.Jn,ok.J1,ok.ſ,ok.LP⟩
theorem Ok.Ŧ (ok:(iD X pn xe).Ok):X.Ok:=⟨ok.mod,ok.kind,ok.glob,ok.blt,ok.above,ok.inj,ok.has,ok.MX,ok.hd,ok.frames,ok.Ni,ok.Pm,ok.bs,ok.K7,ok.Jn,ok.J1,ok.ſ,ok.LP⟩
theorem Inv.Lh (I:Inv X pins σ H s):Inv (iD X (X.pn++pins) xe) [] σ H s :=
 ⟨Ok.Lh I.ok,I.os,I.bare,I.base,I.loc,I.cell,I.free,I.Ŏ,λ p hp=>I.pin p (by rw [ù] at hp;exact hp),I.þ,I.len⟩
theorem Inv.Ŧ (I:Inv (iD X (X.pn++pins) xe) G_ σ H s):Inv X pins σ H s :=
 ⟨Ok.Ŧ I.ok,I.os,I.bare,I.base,I.loc,I.cell,I.free,I.Ŏ,λ p hp=>I.pin p (ψ _ hp),I.þ,I.len⟩
theorem Inv.L4 (I:Inv X pins σ H s):Inv (kc X x) pins σ H s :=
 ⟨⟨I.ok.mod,I.ok.kind,I.ok.glob,I.ok.blt,I.ok.above,I.ok.inj,I.ok.has,I.ok.MX,λ z=>Bool.noConfusion z,I.ok.frames,I.ok.Ni,I.ok.Pm,I.ok.bs,I.ok.K7,I.ok.Jn,I.ok.J1,I.ok.ſ,I.ok.LP⟩,I.os,I.bare,I.base,I.loc,I.cell,I.free,I.Ŏ,I.pin,I.þ,I.len⟩
theorem Inv.JP (ok:X.Ok)(I:Inv (kc X x) pins σ H s):Inv X pins σ H s:=⟨ok,I.os,I.bare,I.base,I.loc,I.cell,I.free,I.Ŏ,I.pin,I.þ,I.len⟩
theorem SP.JP {D:bT}{f:Flow}(ok:X.Ok)(h:SP (kc X x) pins D f s):SP X pins D f s:=by
 cases f with
 | next=>obtain⟨ē,H',I,q⟩:=h;exact⟨ē,H',Inv.JP ok I,q⟩
 | brk=>obtain⟨ē,H',I,q⟩:=h;exact⟨ē,H',Inv.JP ok I,q⟩
 | cont=>obtain⟨ē,H',I,q⟩:=h;exact⟨ē,H',Inv.JP ok I,q⟩
 | ret u=>obtain⟨v,ē,H',I,r,q⟩:=h;exact⟨v,ē,H',Inv.JP ok I,r,q⟩
theorem SP.Ŧ {D:bT}{f:Flow}(h:SP (iD X (X.pn++pins) xe) G_ D f s):SP X pins D f s:=by
 cases f with
 | next=>obtain⟨ē,H',I,q⟩:=h;exact⟨ē,H',Inv.Ŧ I,q⟩
 | brk=>obtain⟨ē,H',I,q⟩:=h;exact⟨ē,H',Inv.Ŧ I,q⟩
 | cont=>obtain⟨ē,H',I,q⟩:=h;exact⟨ē,H',Inv.Ŧ I,q⟩
 | ret u=>obtain⟨v,ē,H',I,r,q⟩:=h;exact⟨v,ē,H',Inv.Ŧ I,r,q⟩
theorem qg {M:Model}{A:Around}{E:bz}{i:Nat}{n:Str}{v:V}{Q:Unit->Shared->Prop}(I:Inv X pins σ H s)(hN:X.N.Nodup)(hi:X.N[i]?=some n)(hk:X.env.scope.names.lookup n=some .local)(hv:σ[i]?=some (some v))
  (h:∀ s',Inv X pins (σ.set i none) H s'->Q () s'):wpAny M A (unbindName X.env n) Q E s:=by
 obtain⟨m,hn,hl⟩:=id I.loc;have NB:(X.env.scope.kind == .class||(X.env.scope.kind == .module&&X.env.locals != X.env.globals))=false:=by rw [I.ok.kind];rfl
 have KU:i < σ.length:=by rw [I.len];exact(É.mp hi).1
 obtain⟨u,_,lk⟩:=hl i n v hi hv (.inl hk);have mu:m n=some u:=by
  rcases lk with⟨_,z⟩ | ⟨z,_⟩
  ·exact z
  ·have k':X.env.kindOf n=some .local:=hk;rcases z with z | z <;>(rw [k'] at z;cases z)
 have LC:=I.LC;refine wpAny_unbindName_local hk hn mu NB λ h' u' MR hs=>?_;obtain⟨oL,_,_,Td,_⟩:=id hn;have tracked:ţ X.prog X.w H h':=λ b ob e=>by
  refine(I.þ b ob e).π (λ c w' hc q=>(hs.2 c ?_).trans q) (λ _ q=>q) λ _ _ q=>q;rintro rfl;rcases hc with rfl | hc
  ·rw [I.free] at e;cases e
  ·rw [I.free] at hc;cases hc
 refine h _ ⟨I.ok,I.os,I.bare,⟨λ b o e n hb hx=>?_,λ b o e n hb hx=>?_,I.base.free,λ b o e hx=>?_,I.base.u_,I.base.l_,I.base.w_,I.base.sys⟩,⟨_,MR,λ j y v' e1 e2 e3=>?_⟩,λ y c e=>?_,I.free,I.Ŏ,λ p hp=>?_,tracked,by simpa using I.len⟩
 ·exact(hs.2 b (Ñ (Í (È e) I.ok.above))).trans (I.base.keep b o e n hb hx)
 ·obtain⟨sl,e1⟩:=I.base.slot b o e n hb hx;exact⟨sl,(hs.2 b (Ñ (Í (È e) I.ok.above))).trans e1⟩
 ·obtain⟨o',e1⟩:=I.base.there b o e hx;exact⟨o',(hs.2 b (Ñ (Í (È e) I.ok.above))).trans e1⟩
 ·by_cases hj:j=i
  ·subst hj;rw [ō KU] at e2;cases e2
  ·rw [ω (Ne.symm hj)] at e2;obtain⟨u2,r',q⟩:=hl j y v' e1 e2 e3;refine⟨u2,r',?_⟩;rcases q with⟨k,e⟩ | ⟨k,c,e,z⟩
   ·refine .inl ⟨k,?_⟩;have:y≠n:=λ e=>hj (jb hN e1 (e ▸ hi));simp [this,e]
   ·exact .inr ⟨k,c,e,z.sameBut hs (LC y c e)⟩
 ·obtain⟨w',z⟩:=I.cell y c e;exact⟨w',z.sameBut hs (LC y c e)⟩
 ·obtain⟨e,n,ne,nf,d⟩:=I.pin p hp;exact⟨(hs.2 p.1 ne).trans e,n,ne,nf,d⟩
end
structure jT (K:Frag)(D:Addr):Prop where
 cls:∃ cd,clsIn K D=some cd
 ty:typeIn K (.ref D)=some (.type "type")
 mb:mroIn K D (.type "BaseException")=some true
def kD (D:bT)(i:Nat):bT:=⟨λ σ H=>D.nx (σ.set i none) H,D.rt,λ σ H=>D.bk (σ.set i none) H,λ σ H=>D.ct (σ.set i none) H⟩
end My
namespace My
open PySem PySem.W L2
open PyProof.Rows (AllBare)
section
variable {X:Cx}{pins:List (Addr × Obj)}{σ:St}{H:Hp}{s:Shared}
theorem qG {i:Nat}{n:Str}{pos:Pos}{E:bz}{D:bT}{f:Flow}(ok:X.Ok)(hN:X.N.Nodup)(hi:X.N[i]?=some n)(hk:X.env.scope.names.lookup n=some .local)(h:SP X pins (kD D i) f s) :
  wpAny (model X.prog X.w) X.A (do
   bindName X.env n .none
   unbindBehindTheSuite X.env n pos) (λ _ s'=>SP X pins D f s') E s:=by
 have go:∀{ē:St}{H':Hp},Inv X pins ē H' s->(∀ s',Inv X pins (ē.set i none) H' s'->SP X pins D f s')->wpAny (model X.prog X.w) X.A (do
   bindName X.env n .none
   unbindBehindTheSuite X.env n pos) (λ _ s'=>SP X pins D f s') E s:=λ {ē H'} I q=>by
  have KU:i < ē.length:=by rw [I.len];exact(É.mp hi).1
  refine À (wpAny_bindName (dM I hN hi (.inl hk) (v:=V.ô) (u:=Value.none) rfl (λ s1 I1=>?_) (.inr hk)));unfold unbindBehindTheSuite;refine ο (qg (v:=V.ô) I1 hN hi hk (ō KU) λ s2 I2=>?_);rw [List.set_set] at I2;exact q s2 I2
 cases f with
 | next=>obtain⟨ē,H',I,q⟩:=h;exact go I λ s' I'=>⟨_,H',I',q⟩
 | brk=>obtain⟨ē,H',I,q⟩:=h;exact go I λ s' I'=>⟨_,H',I',q⟩
 | cont=>obtain⟨ē,H',I,q⟩:=h;exact go I λ s' I'=>⟨_,H',I',q⟩
 | ret u=>obtain⟨v,ē,H',I,r,q⟩:=h;exact go I λ s' I'=>⟨v,_,H',I',r,q⟩
end
section
variable {X:Cx}{pins:List (Addr × Obj)}{σ:St}{H:Hp}{s:Shared}
theorem gS {P:Program}{w:World}{H:Hp}{h:Heap}{a C dx:Addr}{fs:List (Str × V)}(ok:ţ P w H h)(ea:H a=some (gh a C (some dx)))(ed:H dx=some (.xd fs)) :
  ∃(ox od:Obj),InstAt h a ox C (some od)/\∃ mA:Str->Option Value,(∀ f,Ţ (fs.lookup f) (mA f))/\∀ name,lookIn name od=some (mA name):=by
 obtain⟨t,v,hx⟩:=vS ok ea;obtain⟨mA,hn,hr⟩:=(show ñ P w H h dx (.xd fs) from ok dx _ ed);obtain⟨od,RD,hl⟩:=gW hn;exact⟨_,od,⟨hx,rfl,rfl,RD⟩,mA,hr,hl⟩
def uo (K:Frag)(ta:TE)(f:Str):TE:=λ σ H Q=>ta σ H λ x H1=>∃ a C dx fs v,x=.ref a/\H1 a=some (gh a C (some dx))/\H1 dx=some (.xd fs)/\fs.lookup f=some v/\mH K C/\hasDictIn K C=true/\findIn K (.ref C) f=some none/\Q v H1
theorem rB {e:Expr}{ta:TE}{f:Str}{pos:Pos}(he:PE X e ta)(hb:attributeBase e f X.env (eval e X.env)=eval e X.env):PE X (.Attribute e f pos) (uo X.K ta f):=by
 intro pins s σ H Q I h;refine oU hb (aW (he pins s σ H _ I h) λ u s1 ⟨x,H1,I1,rx,a,C,dx,fs,v,ex,ea,ed,l,T,hd,nf,q⟩=>?_);subst ex;obtain rfl:u=Value.ref a:=rx;obtain⟨ox,od,J,mA,hr,hl⟩:=gS I1.þ ea ed;obtain⟨u,eu,ru⟩:=Ţ.some_of (l ▸ hr f);exact Bq I1.Ņ J T.ga T.hk T.mb (findObj_own hd nf rfl (by rw [hl,eu])) (jK ru) ⟨v,H1,I1.tok _,ru,q⟩
end
end My
namespace My
open PySem PySem.W L2
open PyProof.Rows (AllBare)
structure AT (X:Cx)(pins:List (Addr × Obj))(σ:St)(H:Hp)(s:Shared)(x C:Addr):Prop where
 inv:Inv X pins σ H s
 err:∃ dx fs,H x=some (gh x C (some dx))/\H dx=some (.xd fs)
 fl:∃ dx t T oT ts,s.heap.get? x=some (jp C dx t (.ref T))/\s.heap.get? T=some oT/\oT.data=.fields ts/\ts[3]?=some Value.none
abbrev TH:=Addr->Addr->TS
def Bz (X:Cx)(hs:List ExceptHandler)(th:TH):Prop:=∀(pins:List (Addr × Obj))(s:Shared)(σ:St)(H:Hp)(D:bT)(x C:Addr),AT X pins σ H s x C->th x C D σ H->wpAny (model X.prog X.w) X.A (handleBy (.ref x) X.env hs) (SP X pins D) X.xe s
def BM:TH:=λ _ _ _ _ _=>False
def A9 (K:Frag)(B:Addr)(i:Nat)(th:TS)(rest:TH):TH:=λ x C D σ H=>∃ b,mroIn K C (.ref B)=some b/\if b=true then th (kD D i) (σ.set i (some (.ref x))) H else rest x C D σ H
def HQ (K:Frag)(B:Addr)(th:TS)(rest:TH):TH:=λ x C D σ H=>∃ b,mroIn K C (.ref B)=some b/\if b=true then th D σ H else rest x C D σ H
section
variable {X:Cx}{hs:List ExceptHandler}{rest:TH}
theorem vR:Bz X [] BM:=λ _ _ _ _ _ _ _ _ h=>False.elim h
theorem jh {th:TS}{B:Addr}{n cn:Str}{i:Nat}{LF:Stmt}{Jm:List Stmt}{pc ph:Pos}(hN:X.N.Nodup)(hi:X.N[i]?=some n)(hk:X.env.scope.names.lookup n=some .local)(cB:jT X.K B)(hg:Gl X cn)(hm:X.mg cn=some (.ref B))
  (hh:∀ x,Ũ (kc X x) (LF::Jm) th) (hr:Bz X hs rest) (Ν:(cn==("__debug__" : Str))=false:=by decide):Bz X (.ExceptHandler (some (.Name cn pc)) (some n) (LF::Jm) ph::hs) (A9 X.K B i th rest):=by
 intro pins s σ H D x C G h;obtain⟨b,Nz,q⟩:=h;obtain⟨J2,⟨dx,fs,hx,JY⟩,Um,t,T',OB,N8,Pn,f1,f2,f3⟩:=id G;refine wpAny_handleBy_cons ?_ (by intro z;cases z)
 refine codeAny_handlers_test ?_;refine cu (X:=kc X x) (Inv.L4 J2) hg hm ?_ Ν;obtain⟨ox,odd,JI⟩:∃ ox od,InstAt s.heap x ox C od:=by
  obtain⟨ox,od,J,_⟩:=gS J2.þ hx JY;exact⟨ox,some od,J⟩
 refine jd J2.Ņ cB.cls cB.ty cB.mb JI Nz ?_;cases b with
 | false =>
  rw [Ì ag] at q;exact hr pins s σ H D x C G q
 | true =>
  rw [Ï rfl] at q;show codeAny _ _ _ _ _;refine codeAny_handlers_suite_as ?_;have h3:3<N8.size:=(æ.mp f3).1;refine Ji Pn rfl rfl f1 f2 h3 ?_;have J3:Inv X pins σ H { s with heap:=s.heap.update T' (Obj.mapFields λ x=>x.setIfInBounds 3 Value.none) }:=by
   refine J2.kept (t':=s.toks) λ b u hb=>?_;by_cases z:b=T'
   ·subst z;have e:OB=u:=Ó (f1.symm.trans hb);subst e;rw [ð _ f1 (by rw [k8 f2];rfl),k8 f2,iS f3,<- f2]
   ·rw [Õ _ _ _ _ z];exact hb
  generalize ({ s with heap:=s.heap.update T' (Obj.mapFields λ x=>x.setIfInBounds 3 Value.none) }:Shared)=s3 at J3
  refine dM (X:=kc X x) (Inv.L4 J3) hN hi (.inl hk) (v:=V.ref x) (u:=Value.ref x) rfl (λ s4 I4=>?_) (.inr hk);refine Ğ (hh x pins s4 _ H (kD D i) I4 q) (λ f s5 q5=>?_) (λ _ _ z=>False.elim z);exact qG J3.ok hN hi hk (SP.JP J3.ok q5)
theorem xY {th:TS}{B:Addr}{cn:Str}{LF:Stmt}{Jm:List Stmt}{pc ph:Pos}(cB:jT X.K B)(hg:Gl X cn)(hm:X.mg cn=some (.ref B))
  (hh:∀ x,Ũ (kc X x) (LF::Jm) th) (hr:Bz X hs rest) (Ν:(cn==("__debug__" : Str))=false:=by decide):Bz X (.ExceptHandler (some (.Name cn pc)) none (LF::Jm) ph::hs) (HQ X.K B th rest):=by
 intro pins s σ H D x C G h;obtain⟨b,Nz,q⟩:=h;obtain⟨J2,⟨dx,fs,hx,JY⟩,Um,t,T',OB,N8,Pn,f1,f2,f3⟩:=id G;refine wpAny_handleBy_cons ?_ (by intro z;cases z)
 refine codeAny_handlers_test ?_;refine cu (X:=kc X x) (Inv.L4 J2) hg hm ?_ Ν;obtain⟨ox,odd,JI⟩:∃ ox od,InstAt s.heap x ox C od:=by
  obtain⟨ox,od,J,_⟩:=gS J2.þ hx JY;exact⟨ox,some od,J⟩
 refine jd J2.Ņ cB.cls cB.ty cB.mb JI Nz ?_;cases b with
 | false =>
  rw [Ì ag] at q;exact hr pins s σ H D x C G q
 | true =>
  rw [Ï rfl] at q;show codeAny _ _ _ _ _;refine codeAny_handlers_suite ?_;have h3:3<N8.size:=(æ.mp f3).1;refine Ji Pn rfl rfl f1 f2 h3 ?_;have J3:Inv X pins σ H { s with heap:=s.heap.update T' (Obj.mapFields λ x=>x.setIfInBounds 3 Value.none) }:=by
   refine J2.kept (t':=s.toks) λ b u hb=>?_;by_cases z:b=T'
   ·subst z;have e:OB=u:=Ó (f1.symm.trans hb);subst e;rw [ð _ f1 (by rw [k8 f2];rfl),k8 f2,iS f3,<- f2]
   ·rw [Õ _ _ _ _ z];exact hb
  generalize ({ s with heap:=s.heap.update T' (Obj.mapFields λ x=>x.setIfInBounds 3 Value.none) }:Shared)=s3 at J3
  refine Ğ (hh x pins s3 _ H D (Inv.L4 J3) q) (λ f s5 q5=>?_) (λ _ _ z=>False.elim z);exact SP.JP J3.ok q5
end
def w9 (th:TH)(D:bT)(σ:St):XK:=λ c o H'=>∃ x C,c=.ref C/\o=some x/\th x C D σ H'
def xz (tb:XK->TS)(th:TH):TS:=λ D σ H=>tb (w9 th D σ) D σ H
theorem wq {X:Cx}{st:Stmt}{tb:XK->TS}{th:TH}{h₀:ExceptHandler}{hs:List ExceptHandler}{pos:Pos}(hS:X.stack=X.env::X.outer)(hL:X.env.frame=some X.env.locals)
  (hb:∀(σ:St)(E:XK)(pn:List (Addr × Obj))(xe:bz),sJ (bP X.prog X.w) (iD X pn xe) σ E->Hz (iD X pn xe) σ st (tb E)) (hh:Bz X (h₀ :: hs) th):PS X (.Try [st] (h₀ :: hs) [] [] pos) (xz tb th):=by
 intro pins s σ H D I h;refine wpAny_Try_except ?_;have px:=hb σ (w9 th D σ) (X.pn++pins) (λ e ü=>wpAny (model X.prog X.w) X.A (noteFrame e X.env) (λ _ Ų=>wpAny (model X.prog X.w) X.A (setFlight e none) (λ _ d_=>wpAny (model X.prog X.w) X.A (handleBy e X.env (h₀ :: hs)) (SP X pins D) X.xe d_) X.xe Ų) X.xe ü) ?_
 ·refine LU (aW (px [] s H D (Inv.Lh I) h) λ f s1 q=>?_);cases f with
  | next=>exact Ő (Ő (SP.Ŧ (f:=.next) q))
  | ret v=>exact SP.Ŧ (f:=.ret v) q
  | brk=>exact SP.Ŧ (f:=.brk) q
  | cont=>exact SP.Ŧ (f:=.cont) q
 intro G_ H1 s1 ev s' I1 h1;obtain⟨x,C,dx,fs,H',rfl,os,bare,un,þ,hx,JY,⟨t,T,oT,ts,e1,e2,_,e4,e5,e6,e7⟩,x',C',ec,eo,q⟩:=h1;cases ec;cases eo;have J:Inv X pins σ H' s':=Inv.Ŧ (I1.LD os un þ bare (λ b z=>absurd z (by simp)))
 have hA:X.A.frames=some (X.env::X.outer):=by rw [<- hS];exact J.ok.frames
 have hF:s'.heap.FunFrames X.base (X.env::X.outer):=by rw [<- hS];exact J.stack
 refine iG hA hF hL e1 rfl (.inr ⟨T,oT,ts,rfl,e2,e5,e6,e7⟩) λ h' T' l=>?_;refine l.LA rfl (by show 1<6;decide) _ rfl λ h2 l2=>?_
 have J2:=Inv.left J hS hx ⟨_,rfl⟩ e1 l2;rw [nh hx] at J2;have Pn:h2.get? x=some (jp C (some dx) t (.ref T')):=l2.exc;obtain⟨OB,N8,f1,f2,f3,f4⟩:=l2.PZ;exact hh pins _ σ H' D x C ⟨J2,⟨dx,fs,hx,JY⟩,some dx,t,T',OB,N8,Pn,f1,f2,f3⟩ q
end My
namespace My
open PySem L2
section
variable {X:Cx}
def fZ:List V->List V->Bool
 | [],[]=>true
 | x::xs,y::ys=>kN x y&&fZ xs ys
 | _,_=>false
theorem iM:∀(xs ys:List V),((List.range (min xs.length ys.length)).all (λ j=>kN (xs.getD j .ô) (ys.getD j .ô))&&xs.length==ys.length)=fZ xs ys
 | [],[]=>rfl
 | [],y::ys=>by simp [fZ]
 | x::xs,[]=>by simp [fZ]
 | x::xs,y::ys=>by
  have ih:=iM xs ys;show _=(kN x y&&fZ xs ys);rw [<- ih,å,å,Nat.succ_min_succ,List.range_succ_eq_map,LW,List.all_map,Bool.and_assoc]
  congr 1
  rw [show(xs.length+1==ys.length+1)=(xs.length==ys.length) from by simp]
  rfl
theorem oN {pins:List (Addr × Obj)}{σ:St}{H:Hp}{s:Shared}{A:Around}{xs ys:List V}{its Jz:List Value}(r1:Vals xs its)(r2:Vals ys Jz)(f1:xs.all dS=true)(f2:ys.all dS=true) :
  ∀ j (h1:j<its.toArray.size) (h2:j<Jz.toArray.size),SeqAt.EqAt A s its.toArray[j] Jz.toArray[j] (kN (xs.getD j .ô) (ys.getD j .ô)):=by
 intro j h1 h2;have h1':j<its.length:=by simpa using h1
 have N4:j<Jz.length:=by simpa using h2
 have k1:j<xs.length:=by rw [r1.length];exact h1'
 have k2:j<ys.length:=by rw [r2.length];exact N4
 obtain⟨u1,e1,q1⟩:=r1.get (Á k1);obtain⟨u2,e2,q2⟩:=r2.get (Á k2);have a1:its.toArray[j]=u1:=by
  have:=Á h1';rw [e1] at this
  simpa using (Option.some.inj this).symm
 have a2:Jz.toArray[j]=u2:=by
  have:=Á N4;rw [e2] at this
  simpa using (Option.some.inj this).symm
 have z1:xs.getD j .ô = xs[j]:=by simp [k1]
 have z2:ys.getD j .ô = ys[j]:=by simp [k2]
 rw [a1,a2,z1,z2];exact nU q1 q2 (é.mp f1 _ (ċ k1)) (é.mp f2 _ (ċ k2))
def BA (K:PySem.W.Frag)(g:Bool->Bool):R2:=λ x y H Q=>∃ p q xs ys,x=.ref p/\y=.ref q/\č K H p xs/\č K H q ys/\xs.all dS=true/\ys.all dS=true/\Q (.bl (g (fZ xs ys))) H
theorem on (hu:X.A.units<cLine):gv X (compareOp .Eq) (BA X.K id):=by
 intro pins s σ H x y v u Q I rx ry h;obtain⟨p,q,xs,ys,rfl,rfl,hp,hq,f1,f2,k⟩:=h;cases rx;cases ry;obtain⟨its,r1,t1,_⟩:=I.tuple hp;obtain⟨Jz,r2,t2,_⟩:=I.tuple hq;refine SeqAt.eq_tupleAt t1 t2 hu (oN (pins:=pins) (σ:=σ) (H:=H) r1 r2 f1 f2) ?_;refine⟨.bl _,H,I,?_,k⟩;have z:=iM xs ys;rw [r1.length,r2.length] at z;show Value.bool _=Value.bool _;rw [id,<- z];simp
theorem zf (hu:X.A.units<cLine):gv X (compareOp .NotEq) (BA X.K not):=by
 intro pins s σ H x y v u Q I rx ry h;obtain⟨p,q,xs,ys,rfl,rfl,hp,hq,f1,f2,k⟩:=h;cases rx;cases ry;obtain⟨its,r1,t1,_⟩:=I.tuple hp;obtain⟨Jz,r2,t2,_⟩:=I.tuple hq;refine SeqAt.RcNeAt.tuples t1 t2 hu (oN (pins:=pins) (σ:=σ) (H:=H) r1 r2 f1 f2) X.prog X.w X.xe _ ?_;refine⟨.bl _,H,I,?_,k⟩;have z:=iM xs ys;rw [r1.length,r2.length] at z;show Value.bool _=Value.bool _;rw [<- z];simp
end
section
variable {X:Cx}
def ue (K:PySem.W.Frag):V->List V->Hp->VK->Prop:=λ x vs H Q=>∃ l xs y,x=.ref l/\vs=[y]/\ÿ K H l xs/\xs.all dS=true/\dS y=true/\Q (.int (xs.countP λ z=>kN z y:Nat)) H
theorem tL:GJ X "list.count" (ue X.K):=by
 intro pins s σ H x vs v us Q I rx rv h;obtain⟨l,xs,y,rfl,rfl,hl,f1,f2,q⟩:=h;cases rx;obtain⟨u,rfl,ru⟩:=dH rv;obtain⟨its,r,t,Xb⟩:=I.list hl;obtain⟨⟨c,dd,dt,sl⟩,h1,hc,n,hd⟩:=t.isList;replace hc:c=.type "list" := hc;replace hd:dt=.seq its.toArray n:=hd;subst hc hd;refine call_meets F.slot_list_count ⟨_,h1,rfl⟩ F.entry_list_count (F.args_list_count_2 _ _) (SeqAt.list_countAt l its.toArray n dd sl u (λ z=>match Ba z with | some a=>kN a y | none=>false)) ⟨h1,λ z hz=>?_,?_⟩
 ·obtain⟨i,hi,e⟩:=Ĭ (show z∈its by simpa using hz)
  have k1:i<xs.length:=by rw [r.length];exact hi
  obtain⟨u1,e1,q1⟩:=r.get (Á k1);rw [Á hi,e] at e1;cases e1;rw [q1.abs];exact nU q1 ru (é.mp f1 _ (ċ k1)) f2
 ·refine⟨.int _,H,I.tok _,⟨_,rfl⟩,?_⟩;have z:its.toArray.toList.countP (λ z=>match Ba z with | some a=>kN a y | none=>false)=xs.countP λ z=>kN z y:=by
   clear h1 t hl f1 q Xb
   rw [List.toList_toArray]
   induction r with
   | nil=>rfl
   | cons q1 _ ih=>rw [JG,JG,ih,q1.abs]
  rw [z];exact q
end
end My
namespace My
open PySem PySem.W L2
open PyProof.Rows (Call_ boot_enumerate)
section
variable {X:Cx}{pins:List (Addr × Obj)}{σ:St}{H:Hp}{s:Shared}{h':Heap}
theorem u9 {t':Nat}{i1 i2:Addr}(I:Inv X pins σ H s)(k:∀ b o,b≠i1->b≠i2->s.heap.get? b=some o->h'.get? b=some o)(F1:fK X pins H i1)(F2:fK X pins H i2):Inv X pins σ H { s with heap:=h',toks:=t' }:=by
 obtain⟨n1,L1,_,a1,b1,c1⟩:=F1;obtain⟨n2,L2,_,a2,b2,c2⟩:=F2;have S0:∀ b u,H b=some u->b≠i1:=λ b u e z=>by rw [z,n1] at e;cases e
 have SZ:∀ b u,H b=some u->b≠i2:=λ b u e z=>by rw [z,n2] at e;cases e
 refine I.step (g':=s.gens) (d':=s.drawn) (ch:=[i1,i2]) (λ b hb=>?_) (λ b o _ _ hc e _=>k b o (λ z=>hc (by simp [z])) (λ z=>hc (by simp [z])) e) (λ b o _ _ hc e _=>⟨o.slots,k b o (λ z=>hc (by simp [z])) (λ z=>hc (by simp [z])) e⟩) (λ _ _ _ _ n=>n)
  (λ b o hc e=>⟨o,k b o (λ z=>hc (by simp [z])) (λ z=>hc (by simp [z])) e⟩) (λ _ _ e=>e) (λ _ _ _ e=>e) (λ b ps e=>⟨#[],by rw [e];simp⟩) (λ q=>q) (λ m hm=>?_) (λ b u e=>?_) I.bare
 ·have e:b=i1\/b=i2:=by simpa using hb
  rcases e with rfl | rfl
  ·exact⟨a1,L1,b1,c1⟩
  ·exact⟨a2,L2,b2,c2⟩
 ·obtain⟨o,es,ep,ho,r⟩:=hm;exact⟨o,es,ep,k _ o (Ne.symm L1) (Ne.symm L2) ho,r⟩
 ·refine(I.þ b u e).π (λ c v hc q=>k c v ?_ ?_ q) (λ _ q=>q) λ _ _ q=>q
  ·rcases hc with z | z
   ·rw [z];exact S0 b u e
   ·exact S0 c _ z
  ·rcases hc with z | z
   ·rw [z];exact SZ b u e
   ·exact SZ c _ z
end
theorem JQ {o:Obj}{vs:Array Value}(d:o.data=.fields vs):o.isFreed=false:=by
 obtain⟨c,dd,dt,sl⟩:=o;cases d;rfl
def xU (K:Frag)(a:Addr):It :=
 ⟨λ i H=>∃ xs x,ÿ K H a xs/\xs[i]?=some x,λ i H x H'=>∃ p y,x=.ref p/\H p=none/\H'=aj H p (.tup [.int i,y])/\∀ xs,ÿ K H a xs->xs[i]?=some y,λ i H=>∃ xs,ÿ K H a xs/\xs.length<=i⟩
theorem qz {P:Program}{w:World}{K:Frag}{elts:List Expr} {x1}{pos:Pos}(a e it:Addr)(ne:e≠it):p9 P w K (.Tuple elts x1 pos) (xU K a) [e,it] e (λ i h=>(∃ old,IsEnum h e it i old)/\h.IsListIter it a i) where
 mem:=by simp
 obj:=λ i h st b hb=>by
  obtain⟨⟨old,h1⟩,o,h2,c,d⟩:=st;have e:b=e\/b=it:=by simpa using hb
  rcases e with rfl | rfl
  ·exact⟨_,h1,λ v z=>by cases z⟩
  ·exact⟨o,h2,λ v z=>by rw [d] at z;cases z⟩
 keep:=λ i h h' st k=>⟨⟨_,k e (by simp) _ st.1.choose_spec⟩,st.2.at λ o z=>k it (by simp) o z⟩
 item:=by
  intro X hP hw hK hc i pins s σ H E I hf st hg;subst hP hw hK;obtain⟨xs,x,hq,hx⟩:=hg;obtain⟨its,rv,p,hz⟩:=I.list hq;obtain⟨u,hu,ru⟩:=rv.get hx;obtain⟨⟨old,he⟩,hi⟩:=st;have Fe:=hf e (by simp)
  have Fi:=hf it (by simp)
  refine wpAny_pyNext_enum_item he hi p.isList (x:=u) (by simpa using hu) ne λ h1 eo XG ht Xo kk=>?_
  refine⟨_,rfl,wpAny_letOwnedTupleGo_enum (s:={ s with heap:=h1,toks:=s.toks+1 }) eo λ h2 MU sb=>?_⟩
  have ML:Heap.SameBut e h1 h2:=sb;have ne2:s.heap.objs.size≠e:=Ŋ (È he);have Xk:h2.get? s.heap.objs.size=some { cls:=.type "tuple",data:=.seq #[.int i s.toks,u] }:=(ML.2 _ ne2).trans ht;obtain⟨oi,Tb,ci,di⟩:=hi;obtain⟨QN,RB,Zy,Uo⟩:=id XG;have O9:h2.get? it=some QN:=(ML.2 _ (Ne.symm ne)).trans RB
  let hA:Heap:=(s.heap.update e λ _=>{ cls:=.type "enumerate",dict:=none,data:=.fields #[.none,.bool false,.ref it,rawInt ((i:Int)+1),.none,u],slots:=#[] }).update it λ _=>QN
  have IA:Inv X pins σ H { s with heap:=hA,toks:=s.toks }:=u9 I (λ b o z1 z2 q=>by
   show hA.get? b=some o;rw [Õ _ _ _ _ z2,Õ _ _ _ _ z1];exact q) Fe Fi
  have Wg:hA.objs.size=s.heap.objs.size:=by
   show((s.heap.update e _).update it _).objs.size=_;rw [LX,LX]
  refine⟨.ref s.heap.objs.size,aj H s.heap.objs.size (.tup [.int i,x]),?_,rfl,⟨_,x,rfl,I.þ.fresh (Ç _),rfl,λ ys hy=>by rw [I.i_ hy hq];exact hx⟩,⟨⟨u,MU⟩,QN,O9,Zy,Uo⟩,λ b hb=>?_⟩
  ·refine IA.laid (t':=s.toks+1) (λ b v q=>?_) (Χ Wg) ?_
   ·have q':hA.get? b=some v:=q;by_cases z2:b=it
    ·subst z2;have hg:(s.heap.update e λ _=>{ cls:=.type "enumerate",dict:=none,data:=.fields #[.none,.bool false,.ref b,rawInt ((i:Int)+1),.none,u],slots:=#[] }).get? b=some oi:=by
      rw [Õ _ _ _ _ (Ne.symm ne)];exact Tb
     rw [ð _ hg (JQ Uo)] at q';cases q';exact O9
    ·rw [Õ _ _ _ _ z2] at q';by_cases z1:b=e
     ·subst z1;rw [ð _ he rfl] at q';cases q';exact MU
     ·rw [Õ _ _ _ _ z1] at q';exact(ML.2 b z1).trans (kk b v z1 z2 q')
   ·exact⟨dy,[.int i s.toks,u],.cons ⟨_,rfl⟩ (.cons ru .nil),⟨_,Xk,rfl,_,rfl⟩⟩
  ·have nb:b≠s.heap.objs.size:=by
    have e':b=e\/b=it:=by simpa using hb
    rcases e' with rfl | rfl
    ·exact Ñ (È he)
    ·exact Ñ (È Tb)
   rw [ah nb];exact(hf b hb).1
 done:=by
  intro X hP hw hK hc i pins s σ H E I hf st hg;subst hP hw hK;obtain⟨xs,hq,hx⟩:=hg;obtain⟨its,rv,p,hz⟩:=I.list hq;obtain⟨⟨old,he⟩,hi⟩:=st;obtain⟨f0,f1,f2,f3,f4,f5⟩:=hf it (by simp)
  have hl:=rv.length;exact wpAny_pyNext_enum_end (I.ok.hd hc) he hi p.isList (by simp;omega) λ h' eb=>⟨rfl,I.turned (t':=s.toks) (λ b o hb e=>eb b o hb e) f0 f1 f3 f4 f5⟩
 self:=λ _ _ _ _ _ st h=>ε st.1.choose_spec h
section
variable {X:Cx}
def wY (K:Frag)(ta:TA):TI:=λ σ H R=>ta σ H λ vs H1=>∃ a,vs=[.ref a]/\(∃ xs,ÿ K H1 a xs)/\R (xU K a) H1
theorem j5 {elts:List Expr} {x1}{pt:Pos}{a:Expr}{ta:TA}{p pos:Pos}(hg:Gl X "enumerate") (hm:X.mg "enumerate" = none) (ha:PA X [a] ta) (hs:starEach [a] X.env=[(false,eval a X.env)]:=by rfl):PI X (.Tuple elts x1 pt) (.Call (.Name "enumerate" p) [a] [] pos) (wY X.K ta):=by
 intro pins s σ H R I h;refine Call_ (gu I hg hm boot_enumerate (ę (aW (ha pos pins s σ H _ I h) λ us s1 ⟨vs,H1,I1,r1,q1⟩=>?_) hs rfl));obtain⟨l,rfl,⟨xs,hq⟩,q⟩:=q1;cases r1 with
 | cons r rr =>
  cases rr;cases r;obtain⟨its,rv,p',hz⟩:=I1.list hq;refine call_enumerate_list p'.isList λ h' he hi Xl kk=>?_;refine ε he ?_;refine⟨s1.heap.objs.size+1,[s1.heap.objs.size+1,s1.heap.objs.size],_,_,H1,rfl,I1.kept (t':=s1.toks) kk,qz l _ _ (Nat.succ_ne_self _),⟨⟨_,he⟩,hi⟩,λ b hb=>?_,q⟩;have e:b=s1.heap.objs.size+1\/b=s1.heap.objs.size:=by simpa using hb
  have le:s1.heap.objs.size<=b:=by
   rcases e with rfl | rfl
   ·exact ń _
   ·exact Ç _
  exact I1.KY le (I1.þ.fresh le)
end
theorem ld {K:Frag}{a:Addr}{xs:List V}{g:TG}{tb:TS}{D:bT}{σ:St}{H:Hp}(Pv:Nat->St->Hp->Prop)(h0:Pv 0 σ H)(hl:∀ i σ H,i<=xs.length->Pv i σ H->ÿ K H a xs)
  (hs:∀ i x σ H p,xs[i]?=some x->Pv i σ H->H p=none->g (.ref p) σ (aj H p (.tup [.int i,x])) λ Ļ H2=>tb { D with nx:=Pv (i+1),ct:=Pv (i+1),bk:=D.nx } Ļ H2) (hd:∀ σ H,Pv xs.length σ H->D.nx σ H) :
  ∃ W:Nat->Nat->St->Hp->Prop,(∃ m,W 0 m σ H)/\∀ i m σ H,W i m σ H ->
   ((xU K a).stop i H/\D.nx σ H)\/((xU K a).go i H/\∃ N:St->Hp->Prop,(∀ ē H',N ē H'->∃ m',m'<m/\W (i+1) m' ē H')/\∀ x H',(xU K a).JJ i H x H'->g x σ H' λ Ļ H2=>tb { D with nx:=N,ct:=N,bk:=D.nx } Ļ H2):=by
 refine⟨λ i m σ H=>m=xs.length-i/\i<=xs.length/\Pv i σ H,⟨xs.length,by simp,Nat.zero_le _,h0⟩,?_⟩
 rintro i m σ H ⟨rfl,hi,p⟩;have q:=hl i σ H hi p;by_cases Β:i<xs.length
 ·refine .inr ⟨⟨xs,xs[i],q,Á Β⟩,Pv (i+1),λ ē H' n=>⟨xs.length-(i+1),ae,rfl,Β,n⟩,?_⟩;rintro x H' ⟨p',y,rfl,hp,rfl,hy⟩;exact hs i y σ H p' (hy xs q) p hp
 ·have e:i=xs.length:=ae;subst e;exact .inl ⟨⟨xs,q,Ç _⟩,hd σ H p⟩
end My
namespace My
open PySem L2
def nr (o:Option Str)(C:Addr)(cl:List (Str × Addr)):List (Str × Addr):=match o with | none=>cl | some x=>(x,C)::cl
def F5:Option Str->Str->Bool
 | none=>λ _=>false
 | some x=>λ y=>y==x
def aC (X:Cx)(sc:Scope)(cl:List (Str × Addr))(o:Option Str)(N:List Str)(s:Shared)(H:Hp)(C:Addr)(fp:List Addr):Cx where
 prog:=X.prog
 w:=X.w
 K:=X.K
 mg:=X.mg
 base:=X.base
 A:=X.A
 N:=N
 ľ:=s
 J7:=H
 env:=compEnvC sc (nr o (C+1) cl) C X.env
 outer:=X.stack
 stack:=X.stack
 ex:=fp
 fn:=F5 o
 calm:=X.calm
 pn:=[]
 xe:=λ _ _=>False
def fE (js:List Nat)(σ:St):St:=js.map λ j=>(σ[j]?).join
structure eZ (X:Cx)(sc:Scope)(cl:List (Str × Addr))(o:Option Str)(ts zs:List Str)(js:List Nat):Prop where
 J4:closureFor sc X.env=pure cl
 kind:sc.kind=.function
 cells:∀ C:Nat,cellsFrom C sc.names cl=nr o C cl
 names:∀ y∈sc.names,y.2=.local->sc.names.lookup y.1=some .local
 W':∀ x,o=some x->x∈ts
 sub:∀ z c,cl.lookup z=some c->X.env.cells.lookup z=some c
 has:∀ z,((relabel sc X.env).names.lookup z=some .cell\/(relabel sc X.env).names.lookup z=some .free)->o=some z\/∃ c,cl.lookup z=some c
 nd:(ts++zs).Nodup
 ż:∀(k:Nat)(z:Str),zs[k]?=some z->∃ j:Nat,js[k]?=some j/\X.N[j]?=some z/\Ev X.env.scope z/\X.env.kindOf z≠some .local /\
  ((relabel sc X.env).names.lookup z=some .cell\/(relabel sc X.env).names.lookup z=some .free)
 len:js.length=zs.length
theorem gc {o:Option Str}{z:Str}{c d:Addr}{cl:List (Str × Addr)}(h:(nr o d cl).lookup z=some c):(o=some z/\c=d)\/(o≠some z/\cl.lookup z=some c):=by
 cases o with
 | none=>exact .inr ⟨nofun,h⟩
 | some x =>
  rw [nr,Ċ] at h;cases e:z==x with
  | true=>rw [e] at h;exact .inl ⟨by rw [Ą.mp e],(Ó h).symm⟩
  | false=>rw [e] at h;exact .inr ⟨λ q=>by cases q;simp at e,h⟩
theorem sL {o:Option Str}{z:Str}{c d:Addr}{cl:List (Str × Addr)}(n:o≠some z)(h:cl.lookup z=some c):(nr o d cl).lookup z=some c:=by
 cases o with
 | none=>exact h
 | some x=>rw [nr,Ċ,Þ.mpr λ e=>n (by rw [e])];exact h
theorem gw {x:Str}{d:Addr}{cl:List (Str × Addr)}:List.lookup x ((x,d)::cl)=some d:=by
 rw [Ċ,Ŗ]
theorem uP {z x:Str}{c d:Addr}{cl:List (Str × Addr)}(n:z≠x)(h:cl.lookup z=some c):List.lookup z ((x,d)::cl)=some c:=by
 rw [Ċ,Þ.mpr n];exact h
theorem pX {M:Model}{A:Around}{E:bz}{s:Shared}{scope:Scope}{globals:Addr}{cl:List (Str × Addr)}{qual:Str}{outer:Env}{Q:Env->Shared->Prop}
  (hQ:∀ h',h'.Ns s.heap.objs.size (λ _=>none)->(∀ b o,s.heap.get? b=some o->h'.get? b=some o)->(∀ n c,(n,c)∈cellsFrom (s.heap.objs.size+1) scope.names []->h'.IsCell c none) ->
   Q { scope:=scope,locals:=s.heap.objs.size,globals:=globals,cells:=cellsFrom (s.heap.objs.size+1) scope.names cl,qual:=qual,func:=none,code:=outer.code,frame:=outer.frame,builtins:=outer.builtins } { s with heap:=h' }) :
  wpAny M A (newFunctionEnv scope globals cl [] qual none .none (some outer)) Q E s:=by
 simp only [newFunctionEnv,Option.isSome_some,if_true];refine À (wpAny_alloc ?_);refine À (wpAny_layCells _ (λ name kind cells=>by cases XC:kind==NameKind.cell <;> simp [XC]) _ _ _ _ ?_)
 have ok:=cellsFrom_ok scope.names (s.heap.push { cls:=.type "dict",data:=.dict #[] }) (s.heap.objs.size+1) [] ⟨λ _ _ hm=>(nomatch hm),List.Pairwise.nil⟩ (by rw [ì];exact Ç _)
 rw [ì] at ok;rw [show({ s with heap:=s.heap.push { cls:=.type "dict",data:=.dict #[] } }:Shared).heap.objs.size=s.heap.objs.size+1 from ì ..]
 refine À ?_;rw [Lc];exact Ã (Ã (hQ _ ((Heap.Ns.new s.heap (.type "dict")).keeps (pushCells_keeps _ _)) (λ b o e=>pushCells_keeps _ _ b o (Â _ e)) λ n c hm=>(ok.empty n c hm).1))
theorem cS:∀(names:List (Str × NameKind))(n:Nat)(acc:List (Str × Addr)),cellsFrom n names acc=cellsFrom n names []++acc
 | [],_,_=>rfl
 | (name,kind)::r,n,acc=>by
  unfold cellsFrom;split
  ·rw [cS r (n+1) ((name,n)::acc),cS r (n+1) [(name,n)],List.append_assoc];rfl
  ·exact cS r n acc
section
variable {X:Cx}{pins:List (Addr × Obj)}{σ:St}{H:Hp}{s:Shared}{sc:Scope}{cl:List (Str × Addr)}{o:Option Str}{ts zs:List Str}{js:List Nat}{C:Addr}{fp:List Addr}
theorem kU {s1:Shared}{m:aX}(I:Inv X pins σ H s)(S:eZ X sc cl o ts zs js)(hf:∀ b∈fp,fK X pins H b/\b<s.heap.objs.size)(hC:s.heap.objs.size<=C)(ho:s1.os=s.os)(hg:s1.gens=s.gens)
  (hk:∀ b u,s.heap.get? b=some u->s1.heap.get? b=some u) (hn:s1.heap.Ns C m) (k_:∀ x,o=some x->s1.heap.IsCell (C+1) none):Inv (aC X sc cl o (ts++zs) s H C fp) [] (List.replicate ts.length none++fE js σ) H s1:=by
 have nc:∀ z,X.env.cells.lookup z≠some (C+1):=λ z e=>by
  obtain⟨v,hv⟩:=I.cell z _ e;exact absurd hv.lt (Φ.mpr (ź hC))
 have ok:(aC X sc cl o (ts++zs) s H C fp).Ok:=by
  refine⟨I.ok.mod,S.kind,I.ok.glob,I.ok.blt,hC,λ y z c h1 h2=>?_,λ z h=>?_,λ z c hx h=>?_,I.ok.hd,I.ok.frames,.inl rfl,λ b hb=>?_,I.bs,?_,λ b u e hb=>?_,λ b hb hs=>?_,I.stack,I.IV⟩
  ·rcases gc h1 with⟨e1,e2⟩ | ⟨e1,e2⟩ <;> rcases gc h2 with⟨e3,e4⟩ | ⟨e3,e4⟩
   ·exact Ó (e1.symm.trans e3)
   ·exact absurd (S.sub _ _ e4) (by rw [e2];exact nc z)
   ·exact absurd (S.sub _ _ e2) (by rw [e4];exact nc y)
   ·exact I.ok.inj y z c (S.sub _ _ e2) (S.sub _ _ e4)
  ·by_cases e:o=some z
   ·subst e;exact⟨C+1,gw⟩
   ·rcases S.has z h with q | ⟨c,q⟩
    ·exact absurd q e
    ·exact⟨c,sL e q⟩
  ·cases o with
   | none=>cases hx
   | some x =>
    have ez:=Ą.mp hx;subst ez;rcases gc (o:=some z) (d:=C+1) (cl:=cl) h with⟨_,e2⟩ | ⟨e1,_⟩
    ·rw [e2];exact ź hC
    ·exact absurd rfl e1
  ·obtain⟨⟨_,h1,_,_,h4,_⟩,h6⟩:=hf b hb;refine⟨λ e=>absurd h6 (Φ.mpr (by rw [show b=C from e];exact hC)),λ z c e=>?_⟩
   rcases gc e with⟨_,e2⟩ | ⟨_,e2⟩
   ·intro q;rw [<- q,e2] at h6;exact absurd h6 (Φ.mpr (ź hC))
   ·exact h4 z c (S.sub _ _ e2)
  ·exact Ô I.ok.K7 I.sz
  ·obtain⟨⟨_,_,_,h3,_⟩,_⟩:=hf b hb;rcases h3 with h | h
   ·exact I.ok.Jn b u e h
   ·exact absurd (È e) (Φ.mpr (Ô I.ok.K7 h))
  ·obtain⟨⟨_,h1,h2,_⟩,_⟩:=hf b hb;rcases ß.mp (I.e_ b hs) with e | e
   ·exact h1 e
   ·exact h2 e
 refine⟨ok,ho,by rw [hg];exact I.bare,Un.kept hk,⟨m,hn,λ i y v h1 h2 h3=>?_⟩,λ z c e=>?_,I.þ.fresh hC,λ z c e=>?_,(λ p hp=>nomatch (show p∈([]:List (Addr × Obj)) from hp)),I.þ.kept hk,?_⟩
 ·rcases Ľ i ts.length with lt | ge
  ·rw [Ÿ (by rw [Ģ];exact lt),Mz,Ï lt] at h2
   cases h2
  ·have h1':zs[i-ts.length]?=some y:=by
    have RZ:(ts++zs)[i]?=some y:=h1
    rwa [Ĺ ge] at RZ
   obtain⟨j,hj,hN,hv,nl,k'⟩:=S.ż _ y h1';have N4:(fE js σ)[i-ts.length]?=some (some v):=by
    rwa [Ĺ (by rw [Ģ];exact ge),Ģ] at h2
   have h5:σ[j]?=some (some v):=by
    unfold fE at N4;rw [Ù,hj] at N4;have h6:(σ[j]?).join=some v:=Ó N4;cases e:σ[j]? with
    | none=>rw [e] at h6;cases h6
    | some o=>rw [e] at h6;exact ĭ some h6
   obtain⟨m0,Z4,hl⟩:=I.loc;obtain⟨u,ru,lk⟩:=hl j y v hN h5 hv;refine⟨u,ru,?_⟩;rcases lk with⟨k1,_⟩ | ⟨_,c,ec,hc⟩
   ·exact absurd k1 nl
   ·have yx:o≠some y:=λ e=>(List.nodup_append.mp S.nd).2.2 y (S.W' y e) y (ê h1') rfl;rcases S.has y k' with q | ⟨c',Tz⟩
    ·exact absurd q yx
    have e2:=S.sub _ _ Tz;rw [ec] at e2;cases e2;exact .inr ⟨k',c,sL yx Tz,hc.keeps hk⟩
 ·rcases gc e with⟨e1,e2⟩ | ⟨_,e2⟩
  ·rw [e2];exact⟨none,k_ _ e1⟩
  ·obtain⟨v,hv⟩:=I.cell z c (S.sub _ _ e2);exact⟨v,hv.keeps hk⟩
 ·rcases gc e with⟨_,e2⟩ | ⟨_,e2⟩
  ·rw [e2];exact I.þ.fresh (ź hC)
  ·exact I.Ŏ z c (S.sub _ _ e2)
 ·show(List.replicate ts.length none++fE js σ:St).length=(ts++zs).length;simp [fE,S.len]
theorem qD {s1:Shared}{ē:St}{H':Hp}{h':Heap}(I:Inv X pins σ H s)(hf:∀ b∈fp,fK X pins H b/\b<s.heap.objs.size)(hC:s.heap.objs.size<=C)(J:Inv (aC X sc cl o (ts++zs) s H C fp) [] ē H' s1)
  (hs:Heap.SameBut C s1.heap h'):Inv X pins σ H' { s1 with heap:=h' }:=by
 have old:∀ b o,s1.heap.get? b=some o->b≠C->h'.get? b=some o:=λ b o e n=>(hs.2 b n).trans e;have lt:∀{b o},s.heap.get? b=some o->b≠C:=λ {b o} e z=>by
  have q:=È e;rw [z] at q;exact absurd q (Φ.mpr hC)
 have B:=J.base;refine I.LD J.os ⟨λ b o e n hb hx=>old b o (B.keep b o e n hb hx) (lt e),λ b o e n hb hx=>?_,B.free,λ b o e hx=>?_,B.u_,B.l_,B.w_,B.sys⟩ (λ b o e=>?_) J.bare λ b hb=>?_
 ·obtain⟨sl,q⟩:=B.slot b o e n hb hx;exact⟨sl,old _ _ q (lt e)⟩
 ·obtain⟨o',q⟩:=B.there b o e hx;exact⟨o',old _ _ q (lt e)⟩
 ·have nC:∀ c u,H' c=some u->c≠C:=λ c u q z=>by
   have f:H' C=none:=J.free;rw [z,f] at q;cases q
  refine(J.þ b o e).π (λ c v hc q=>old c v q ?_) (λ _ q=>q) λ _ _ q=>q;rcases hc with rfl | hc
  ·exact nC _ _ e
  ·exact nC _ _ hc
 ·obtain⟨⟨_,h1,_,h3,h4,h5⟩,_⟩:=hf b hb;exact⟨h3,h1,h4,h5⟩
end
abbrev uF:=Around->Value->Env->Value->(Shared->Prop)->Shared->Prop
abbrev nE:Value->Shared->Prop:=λ _ _=>False
def sI (prog:Program)(w:World)(whole tg:Expr)(k:Nat)(B:uF):Prop :=
 ∀(A:Around)(it:Value)(D:Addr)(env:Env)(s:Shared)(Q:Fin->Shared->Prop)(Q0:Shared->Prop)(E:bz),(∀ s,Q0 s->Q (.again (.compLoop whole k it (.ref D) env)) s)->wpAny (model prog w) A (pyNext it) (λ r ü=>match r with
  | none=>Q (.done .next) ü
  | some v=>wpAny (model prog w) A (letOwnedTupleGo tg it v) (λ _ Ų=>B A (.ref D) env v Q0 Ų) nE ü) nE s ->
 wpAny (model prog w) (A.under (.compLoop whole k it (.ref D) env)) ((model prog w).den (.compLoop whole k it (.ref D) env)) Q E s
theorem lJ {α:Type}{M:Model}{A:Around}{m:Sem α}{Q Q':α->Shared->Prop}{E:bz}{s:Shared}(h:wpAny M A m Q nE s)(k:∀ a s,Q a s->Q' a s):wpAny M A m Q' E s:=Ğ h k λ _ _ z=>z.elim
section
variable {prog:Program}{w:World}{elt tg iter:Expr}{sc:Scope}{pos:Pos}
theorem qr {whole:Expr}{k:Nat}{B:uF}{A:Around}{it:Value}{D:Addr}{env:Env}{R:Result->Shared->Prop}{s:Shared}(ht:sI prog w whole tg k B)(J:Nat->Shared->Prop)
  (turn:∀ n s,J n s->wpAny (model prog w) A (pyNext it) (λ r ü=>match r with
   | none=>R (.ok .next) ü
   | some v=>wpAny (model prog w) A (letOwnedTupleGo tg it v) (λ _ Ų=>B A (.ref D) env v (λ d_=>∃ m,m<n/\J m d_) Ų) nE ü) nE s)
  (n:Nat) (h:J n s):codeAny (model prog w) A (.compLoop whole k it (.ref D) env) R s:=by
 exact codeAny_loop rfl J (λ n s hJ=>ht _ _ _ _ _ _ _ _ (λ _ q=>⟨rfl,q⟩) (turn n s hJ)) n h
def zV (prog:Program)(w:World)(elt:Expr):uF:=λ A acc env _ Q s=>wpAny (model prog w) A (eval elt env) (λ x KJ=>wpAny (model prog w) A (call (.builtin "list.append") [acc,x]) (λ _ KI=>Q KI) nE KJ) nE s
def z7 (prog:Program)(w:World)(tg:Expr)(B:uF):uF:=λ A acc env v Q s=>wpAny (model prog w) A (assign tg env v) (λ _ d_=>B A acc env v Q d_) nE s
def Id (prog:Program)(w:World)(c:Expr)(B:uF):uF:=λ A acc env v Q s=>wpAny (model prog w) A (isTrue c env (eval c env)) (λ k ľ=>(k=false->Q ľ)/\(k=true->B A acc env v Q ľ)) nE s
theorem Ho:sI prog w (.ListComp elt [⟨tg,iter,[],0⟩] sc pos) tg 0 (z7 prog w tg (zV prog w elt)):=by
 intro A it D env s Q Q0 E hq h;refine wpAny_noted ?_;rw [compTurn_list1];refine À (ģ (À (lJ h λ r ü Ω=>?_)));cases r with
 | none=>exact Ã Ω
 | some v=>exact À (lJ Ω λ _ Ų Ja=>À (lJ Ja λ _ d_ I_=>À (À (lJ I_ λ x KJ Ls=>À (lJ Ls λ _ KI Lr=>Ã (Ã (hq _ Lr)))))))
theorem Ek {c:Expr}:sI prog w (.ListComp elt [⟨tg,iter,[c],0⟩] sc pos) tg 0 (z7 prog w tg (Id prog w c (zV prog w elt))):=by
 intro A it D env s Q Q0 E hq h;refine wpAny_noted ?_;rw [compTurn_list];refine À (ģ (À (lJ h λ r ü Ω=>?_)));cases r with
 | none=>exact Ã Ω
 | some v =>
  refine À (lJ Ω λ _ Ų Ja=>À (lJ Ja λ _ d_ I_=>À (wpAny_tests_one (lJ I_ λ k ľ h₀=>?_))));cases k with
  | false=>exact Ã (hq _ (h₀.1 rfl))
  | true=>exact À (À (lJ (h₀.2 rfl) λ x KJ Ls=>À (lJ Ls λ _ KI Lr=>Ã (Ã (hq _ Lr)))))
def Hj (prog:Program)(w:World)(kx vx:Expr):uF:=λ A acc env _ Q s=>∃ D,acc=.ref D/\wpAny (model prog w) A (eval kx env) (λ kv KJ=>wpAny (model prog w) A (eval vx env) (λ vv KI=>wpAny (model prog w) A (dictSet D kv vv) (λ _ N_=>Q N_) nE KI) nE KJ) nE s
theorem FN {kx vx:Expr}:sI prog w (.DictComp kx vx [⟨tg,iter,[],0⟩] sc pos) tg 0 (z7 prog w tg (Hj prog w kx vx)):=by
 intro A it D env s Q Q0 E hq h;refine wpAny_noted ?_;rw [compTurn_dict];refine À (ģ (À (lJ h λ r ü Ω=>?_)));cases r with
 | none=>exact Ã Ω
 | some v =>
  refine À (lJ Ω λ _ Ų Ja=>À (lJ Ja λ _ d_ I_=>À (Ã ?_)));obtain⟨D',e,I_⟩:=I_;cases e;exact À (À (lJ I_ λ kv KJ Ls=>À (Ú (lJ Ls λ vv KI Lr=>À (ģ (Ú (lJ Lr λ _ N_ Rn=>Ã (hq _ Rn))))))))
end
section
variable {X:Cx}{pins:List (Addr × Obj)}{σ:St}{H:Hp}{s:Shared}{sc:Scope}{cl:List (Str × Addr)}{o:Option Str}{ts zs:List Str}{js:List Nat}{C:Addr}{fp:List Addr}
def G8 (X:Cx)(k:Nat)(ż:St)(D:Addr)(B:uF)(pins:List (Addr × Obj))(σ:St)(H:Hp)(s:Shared)(u:Value)(N:Hp->Prop):Prop :=
 Inv X pins σ H s->∀ Q:Shared->Prop,(∀ s' Ň H',Ň.length=k->Inv X pins (Ň ++ ż) H' s'->N H'->Q s')->B X.A (.ref D) X.env u Q s
theorem gk {whole tg iter:Expr}{wi:TI}{B:uF}{ŗ:Sem Value}{pos:Pos}{use:Option (Value->Sem Unit)}{Qf:bz}{RJ:It->Hp->Prop}{R:Addr->Hp->Prop}{u0:HO}{ob:Obj}{ifs:List Expr}{gs:List Comprehension}(hc:X.calm=true)(S:eZ X sc cl o ts zs js)(hi:PI X tg iter wi)
  (hs:∀ v,foldedSetIterable iter X.env v=pure v) (I:Inv X pins σ H s) (h:wi σ H RJ) (hT:sI X.prog X.w whole tg 0 B) (XS:clausesOf whole=⟨tg,iter,ifs,0⟩::gs)
  (K6:∀{R:Result->Shared->Prop}{s:Shared}{it acc:Value}{env:Env},codeAny (model X.prog X.w) X.A (.compLoop whole 0 it acc env) R s->wpAny (model X.prog X.w) X.A (pyIter it) (λ W6 s'=>codeAny (model X.prog X.w) X.A (.compLoop whole 0 W6 acc env) R s') (notedBy (model X.prog X.w) X.A env λ x s'=>R (.error x) s') s->codeAny (model X.prog X.w) X.A (.compStart whole 0 it acc env) R s)
  (RF:∀(s2:Shared) H2 Q,Inv X pins σ H2 s2->(Inv X pins σ (aj H2 s2.heap.objs.size u0) { s2 with heap:=s2.heap.push ob }->Q (.ref s2.heap.objs.size) { s2 with heap:=s2.heap.push ob })->wpAny (model X.prog X.w) X.A ŗ Q X.xe s2)
  (hb:∀ J H1 D s3 Ha C fp,RJ J H1->H1 D=none->∃ W:Nat->Nat->Hp->Prop,(∃ m,W 0 m (aj H1 D u0))/\∀ i m H2,W i m H2->(J.stop i H2/\R D H2)\/(J.go i H2 /\
   ∀ x H3,J.JJ i H2 x H3->∀ os:St,os.length=ts.length->∀ pins s u,RelV x u->G8 (aC X sc cl o (ts++zs) s3 Ha C fp) ts.length (fE js σ) D B pins (os++fE js σ) H3 s u λ H'=>∃ m',m'<m/\W (i+1) m' H'))
  (JX:∀ D H' Hq s3 (s4:Shared) m,Inv X pins σ Hq s3->s4.heap.Ns s3.heap.objs.size m->H' s3.heap.objs.size=none->(∀ h',Heap.SameBut s3.heap.objs.size s4.heap h'->Inv X pins σ H' { s4 with heap:=h' })->R D H'->compPost (model X.prog X.w) X.A X.xe use Qf (.ref D) s3.heap.objs.size (.ok .next) s4) :
  wpAny (model X.prog X.w) X.A (comprehension whole sc X.env pos ŗ false (eval iter X.env) use) Qf X.xe s:=by
 refine wpAny_comprehension_free XS hs S.J4 S.kind S.names (aW (hi pins s σ H _ I h) λ v s1 h1=>aW h1 λ Rk s2 h2=>?_);obtain⟨it,fp,tn,J,H2,e,I2,T,P2,f2,body⟩:=h2;subst e;have YG:H2 s2.heap.objs.size=none:=I2.fresh;refine RF _ _ _ I2 λ I3=>?_;refine pX (λ Ω hn Ly k_=>?_);rw [S.cells];generalize S_:({ s2 with heap:=s2.heap.push ob }:Shared)=s3 at I3 hn Ly k_ ⊢
 obtain⟨W,⟨m0,w0⟩,turn⟩:=hb J H2 s2.heap.objs.size s3 (aj H2 s2.heap.objs.size u0) s3.heap.objs.size fp body YG;have Qm:∀ b∈fp,fK X pins (aj H2 s2.heap.objs.size u0) b/\b<s3.heap.objs.size:=λ b hb=>by
  obtain⟨o,ho,_⟩:=T.obj _ _ P2 b hb;have hl:=È ho;obtain⟨z1,z2⟩:=f2 b hb;refine⟨⟨by rw [ah (Ñ hl)];exact z1,z2⟩,?_⟩
  rw [<- S_];show b<(s2.heap.push _).objs.size;rw [ì];exact ŋ hl
 have Od:tn 0 Ω:=T.keep _ _ _ P2 λ b hb o e=>Ly b o (by rw [<- S_];exact Â _ e)
 have loop:∀ sS:Shared,sS.heap = Ω->sS.os=s3.os->sS.gens=s3.gens->codeAny (model X.prog X.w) X.A (.compLoop whole 0 (.ref it) (.ref s2.heap.objs.size) (compEnvC sc (nr o (s3.heap.objs.size+1) cl) s3.heap.objs.size X.env))
   (compPost (model X.prog X.w) X.A X.xe use Qf (.ref s2.heap.objs.size) s3.heap.objs.size) sS:=by
  intro sS eh eo eg;subst eh;have J0:=kU I3 S Qm (Ç _) eo eg Ly hn λ x ex=>k_ x _ (by
   have q:=S.cells (s3.heap.objs.size+1);rw [cS,ex] at q;rw [List.append_cancel_right (bs:=cl) (show _=[(x,s3.heap.objs.size+1)]++cl from q)];exact Ð.mpr rfl)
  have JN:∀{H':Hp},(∀ b∈fp,H' b=none)->∀ b∈fp,fK (aC X sc cl o (ts++zs) s3 (aj H2 s2.heap.objs.size u0) s3.heap.objs.size fp) [] H' b:=λ {H'} hn b hb=>by
   obtain⟨⟨_,z1,z2,z3,z4,z5⟩,z6⟩:=Qm b hb;refine⟨hn b hb,Ñ z6,λ q=>?_,.inl hb,λ y c e=>?_,λ p hp=>nomatch (show p∈([]:List (Addr × Obj)) from hp)⟩
   ·rcases ß.mp (I3.e_ b q) with e | e
    ·exact z1 e
    ·exact z2 e
   ·rcases gc e with⟨_,e2⟩ | ⟨_,e2⟩
    ·intro q;rw [<- q,e2] at z6;exact absurd z6 (Φ.mpr (ń _))
    ·exact z4 y c (S.sub _ _ e2)
  refine qr hT (λ n s'=>∃ i os H',os.length=ts.length/\Inv (aC X sc cl o (ts++zs) s3 (aj H2 s2.heap.objs.size u0) s3.heap.objs.size fp) [] (os++fE js σ) H' s'/\tn i s'.heap/\(∀ b∈fp,H' b=none)/\W i n H') ?_ m0 ⟨0,_,_,Ģ,J0,Od,λ b hb=>(Qm b hb).1.1,w0⟩;rintro n s' ⟨i,os,H',Ŵ,Iv,st,fr,w⟩;rcases turn i n H' w with⟨stop,q⟩ | ⟨go,step⟩
  ·refine aW (T.done (aC X sc cl o (ts++zs) s3 (aj H2 s2.heap.objs.size u0) s3.heap.objs.size fp) rfl rfl rfl hc i [] s' _ H' nE Iv (JN fr) st stop) λ r s4 ⟨hr,I4⟩=>?_;subst hr;obtain⟨m,hm,_⟩:=id I4.loc;exact JX _ _ _ _ _ m I3 hm I4.free (λ h' O7=>qD I3 Qm (Ç _) I4 O7) q
  ·refine aW (T.item (aC X sc cl o (ts++zs) s3 (aj H2 s2.heap.objs.size u0) s3.heap.objs.size fp) rfl rfl rfl hc i [] s' _ H' nE Iv (JN fr) st go) λ r s4 ⟨u,hr,h4⟩=>?_;subst hr;refine aW h4 λ _ s5 ⟨y,H5,I5,r5,y5,Nj,R4⟩=>?_;have R':=I5.pinned (JN R4) (T.obj _ _ Nj);refine step y H5 y5 os Ŵ _ s5 u r5 R' _ λ s6 Ň H6 Jq I6 ⟨m',Nz,w6⟩=>⟨m',Nz,i+1,Ň,H6,Jq,I6.Κ,T.keep _ _ _ Nj λ b hb o e=>(I6.pin (b,o) (í _ (í _ (eO hb e)))).1,(λ b hb=>by
    obtain⟨o',e',_⟩:=T.obj _ _ Nj b hb;exact(I6.pin (b,o') (í _ (í _ (eO hb e')))).2.1),w6⟩
 exact K6 (loop _ rfl rfl rfl) (T.self _ 0 _ _ _ Od (loop _ rfl rfl rfl))
def BG (X:Cx)(whole iter:Expr)(sc:Scope)(ŗ:Sem Value)(te:TE):Prop :=
 ∀(pins:List (Addr × Obj))(s:Shared)(σ:St)(H:Hp)(Q:VK)(pos:Pos)(use:Option (Value->Sem Unit))(Qf:bz),Inv X pins σ H s->te σ H Q ->
 (∀ D H' Hq s3 (s4:Shared) m,Inv X pins σ Hq s3->s4.heap.Ns s3.heap.objs.size m->H' s3.heap.objs.size=none->(∀ h',Heap.SameBut s3.heap.objs.size s4.heap h'->Inv X pins σ H' { s4 with heap:=h' })->Q (.ref D) H'->compPost (model X.prog X.w) X.A X.xe use Qf (.ref D) s3.heap.objs.size (.ok .next) s4) ->
 wpAny (model X.prog X.w) X.A (comprehension whole sc X.env pos ŗ false (eval iter X.env) use) Qf X.xe s
theorem sY {whole iter:Expr}{ŗ:Sem Value}{te:TE}{pos:Pos}(h:BG X whole iter sc ŗ te)(he:eval whole X.env=comprehension whole sc X.env pos ŗ false (eval iter X.env)):PE X whole te:=by
 intro pins s σ H Q I w;rw [he];exact h _ _ _ _ _ _ _ _ I w λ D H' Hq s3 s4 m I3 hm f ends q=>⟨m,hm,λ h' hs=>⟨.ref D,H',ends h' hs,rfl,q⟩⟩
theorem Cu {whole iter:Expr}{ŗ:Sem Value}{te:TE}{pos p0:Pos}{y:Str}{py:Pos}{iy:Nat}(h:BG X whole iter sc ŗ te)(hN:X.N.Nodup)(RK:X.N[iy]?=some y)(hy:xV X.env.scope y)(hf:X.fn y=true\/X.env.scope.names.lookup y=some .local)
  (he:exec (.Assign [.Name y py] whole pos) X.env=standAt pos >>= λ _=>(do let _ <- comprehension whole sc X.env p0 ŗ false (eval iter X.env) (some (assign (.Name y py) X.env))) >>= λ _=>pure .next):PS X (.Assign [.Name y py] whole pos) (cM te (be iy)):=by
 intro pins s σ H De I w;rw [he];refine À (ģ (À (À ?_)));refine Ğ (h _ _ _ _ _ _ (some (assign (.Name y py) X.env)) (λ _ s'=>SP X pins De .next s') I w λ D H' Hq s3 s4 m I3 hm fC ends q=>?_) (λ _ s' hq=>Ã (Ã hq)) λ _ _ e=>e;show wpAny _ _ (assign (.Name y py) X.env (.ref D)) _ _ s4;have nC:∀ b,b<s3.heap.objs.size->b≠s3.heap.objs.size:=λ b hb=>Ñ hb;have nL:X.env.locals≠s3.heap.objs.size:=nC _ I3.lt;have Ur:∀ z c,X.env.cells.lookup z=some c->c≠s3.heap.objs.size:=λ z c e=>by
  obtain⟨v,o,ho,_⟩:=I3.cell z c e;exact nC _ (È ho)
 refine wpAny_assign_Name (jz (ends s4.heap ⟨rfl,λ _ _=>rfl⟩) hN RK hy (v:=.ref D) rfl (λ s5 I6 hb=>?_) hf);obtain⟨a5,Wq,XY⟩:=hb;refine⟨m,hm.sameBut Wq (by
  rcases XY with e | e
  ·rw [e];exact nL.symm
  ·exact(Ur _ _ e).symm),λ h' O7=>?_⟩
 exact⟨_,H',I6.turned (h':=h') (t':=s5.toks) (it:=s3.heap.objs.size) (λ b o hb e=>(O7.2 b hb).trans e) fC nL.symm (.inr I3.sz) Ur λ p hp=>nC _ (È (I3.pin p hp).1),q⟩
end
def jf (wi:TI)(k:Nat)(js:List Nat)(g:TG)(te:TE):TE:=λ σ H Q=>wi σ H λ J H1=>∀ D,H1 D=none->∃ W:Nat->Nat->List V->Hp->Prop,(∃ m,W 0 m [] (aj H1 D (.lst []))) /\
 ∀ i m ys H2,W i m ys H2->H2 D=some (.lst ys)/\((J.stop i H2/\Q (.ref D) H2)\/(J.go i H2/\ys.length<sizeLine /\
  ∀ x H3,J.JJ i H2 x H3->∀ os:St,os.length=k->g x (os++fE js σ) H3 λ Ļ H0=>(∃ Ň:St,Ň.length=k/\Ļ = Ň ++ fE js σ)/\te Ļ H0 λ y H4=>H4 D=some (.lst ys)/\∃ m',m'<m/\W (i+1) m' (ys ++ [y]) (aj H4 D (.lst (ys ++ [y])))))
def iW (wi:TI)(k:Nat)(js:List Nat)(g:TG)(tt:TT)(te:TE):TE:=λ σ H Q=>wi σ H λ J H1=>∀ D,H1 D=none->∃ W:Nat->Nat->List V->Hp->Prop,(∃ m,W 0 m [] (aj H1 D (.lst []))) /\
 ∀ i m ys H2,W i m ys H2->H2 D=some (.lst ys)/\((J.stop i H2/\Q (.ref D) H2)\/(J.go i H2/\ys.length<sizeLine /\
  ∀ x H3,J.JJ i H2 x H3->∀ os:St,os.length=k->g x (os++fE js σ) H3 λ Ļ H0=>(∃ Ň:St,Ň.length=k/\Ļ = Ň ++ fE js σ)/\tt Ļ H0 λ b H5=>(b=false->∃ m',m'<m/\W (i+1) m' ys H5) /\
   (b=true->te Ļ H5 λ y H4=>H4 D=some (.lst ys)/\∃ m',m'<m/\W (i+1) m' (ys ++ [y]) (aj H4 D (.lst (ys ++ [y]))))))
abbrev dP (X:Cx)(sc:Scope)(cl:List (Str × Addr)):=eZ X sc cl none
section
variable {X X':Cx}{sc:Scope}{cl:List (Str × Addr)}{o:Option Str}{ts zs:List Str}{js:List Nat}{elt iter c kx vx:Expr}{pos:Pos}{tg:Expr}{g:TG}{wi:TI}{te tk tv:TE}{tt:TT}
theorem sX {pins:List (Addr × Obj)}{s:Shared}{σ:St}{H:Hp}{D:Addr}{ys:List V}{v:Value}{N:List V->Hp->Prop}{Q:Shared->Prop}(he:PE X' elt te)(ex:X'.xe=nE)(ĩ:ys.length<sizeLine)(I:Inv X' pins σ H s)(st:te σ H λ y H4=>H4 D=some (.lst ys)/\N (ys ++ [y]) (aj H4 D (.lst (ys ++ [y]))))(k:∀ s' H' zs,Inv X' pins σ H' s'->N zs H'->Q s'):zV X'.prog X'.w elt X'.A (.ref D) X'.env v Q s:=by
 have g:=he _ _ _ _ _ I st;rw [ex] at g;refine aW g λ uv s7 ⟨v7,H7,I7,r7,X3,w7⟩=>?_;have g:=dv _ s7 _ H7 (.ref D) [v7] (.ref D) [uv] (λ _ H8=>H8=aj H7 D (.lst (ys ++ [v7]))) I7 rfl (.cons r7 .nil) ⟨_,ys,v7,rfl,rfl,X3,ĩ,rfl⟩;rw [ex] at g;refine aW g λ _ s8 ⟨_,H8,I8,_,e8⟩=>?_;subst e8;exact k _ _ _ I8 w7
theorem xl {pins:List (Addr × Obj)}{σ:St}(s2:Shared)(H2:Hp)(Q:bz)(I:Inv X pins σ H2 s2)(k:Inv X pins σ (aj H2 s2.heap.objs.size (.lst [])) { s2 with heap:=s2.heap.push { cls:=.type "list",data:=.seq ([]:List Value).toArray } }->Q (.ref s2.heap.objs.size) { s2 with heap:=s2.heap.push { cls:=.type "list",data:=.seq ([]:List Value).toArray } }):wpAny (model X.prog X.w) X.A (newList []) Q X.xe s2 :=
 Ĝ (k (I.OZ (t':=s2.toks) (ys:=[]) (its:=[]) .nil (Ź _)))
theorem DC (hc:X.calm=true)(S:eZ X sc cl o ts zs js)(hi:PI X tg iter wi)(hg:∀ s H C fp,PG (aC X sc cl o (ts++zs) s H C fp) tg g)(he:∀ s H C fp,PE (aC X sc cl o (ts++zs) s H C fp) elt te)
  (hs:∀ v,foldedSetIterable iter X.env v=pure v):BG X (.ListComp elt [⟨tg,iter,[],0⟩] sc pos) iter sc (newList []) (jf wi ts.length js g te):=by
 intro pins s σ H Q p use Qf I h JX;refine gk hc S hi hs I h Ho rfl codeAny_compStart_list xl (λ J H1 D s3 Ha C fp hJ hD=>?_) JX;obtain⟨W,⟨m,w0⟩,turn⟩:=hJ D hD;refine⟨λ i m H'=>∃ ys,W i m ys H',⟨m,[],w0⟩,λ i m H2 ⟨ys,w⟩=>?_⟩;obtain⟨hD,alt⟩:=turn i m ys H2 w;refine alt.imp_right λ ⟨go,ĩ,step⟩=>⟨go,λ x H3 y os Ŵ pins s u r I Q0 k=>?_⟩;refine aW (hg _ _ _ _ _ _ _ _ _ _ _ I r (step x H3 y os Ŵ)) λ _ s6 ⟨Pz,H6,I6,⟨Ň,Jq,e6⟩,Oc⟩=>?_;subst e6;exact sX (N:=λ zs H4=>∃ m',m'<m/\W (i+1) m' zs H4) (he s3 Ha C fp) rfl ĩ I6 Oc λ s' H' zs I8 ⟨m',l,w⟩=>k _ _ _ Jq I8 ⟨m',l,zs,w⟩
theorem rC (hc:X.calm=true)(S:eZ X sc cl o ts zs js)(hi:PI X tg iter wi)(hg:∀ s H C fp,PG (aC X sc cl o (ts++zs) s H C fp) tg g)(ht:∀ s H C fp,PT (aC X sc cl o (ts++zs) s H C fp) c tt)(he:∀ s H C fp,PE (aC X sc cl o (ts++zs) s H C fp) elt te)
  (hs:∀ v,foldedSetIterable iter X.env v=pure v):BG X (.ListComp elt [⟨tg,iter,[c],0⟩] sc pos) iter sc (newList []) (iW wi ts.length js g tt te):=by
 intro pins s σ H Q p use Qf I h JX;refine gk hc S hi hs I h Ek rfl codeAny_compStart_list xl (λ J H1 D s3 Ha C fp hJ hD=>?_) JX;obtain⟨W,⟨m,w0⟩,turn⟩:=hJ D hD;refine⟨λ i m H'=>∃ ys,W i m ys H',⟨m,[],w0⟩,λ i m H2 ⟨ys,w⟩=>?_⟩;obtain⟨hD,alt⟩:=turn i m ys H2 w;refine alt.imp_right λ ⟨go,ĩ,step⟩=>⟨go,λ x H3 y os Ŵ pins s u r I Q0 k=>?_⟩;refine aW (hg _ _ _ _ _ _ _ _ _ _ _ I r (step x H3 y os Ŵ)) λ _ s6 ⟨Pz,H6,I6,⟨Ň,Jq,e6⟩,Oc⟩=>?_;subst e6;refine aW (ht s3 Ha C fp _ _ _ _ _ I6 Oc) λ b sk ⟨Hk,Ik,q0,q1⟩=>⟨λ e=>?_,λ e=>?_⟩
 ·obtain⟨m',l,w⟩:=q0 e;exact k _ _ _ Jq Ik ⟨m',l,ys,w⟩
 ·exact sX (N:=λ zs H4=>∃ m',m'<m/\W (i+1) m' zs H4) (he s3 Ha C fp) rfl ĩ Ik (q1 e) λ s' H' zs I8 ⟨m',l,w⟩=>k _ _ _ Jq I8 ⟨m',l,zs,w⟩
theorem eQ (hc:X.calm=true)(S:eZ X sc cl o ts zs js)(hi:PI X tg iter wi)(hg:∀ s H C fp,PG (aC X sc cl o (ts++zs) s H C fp) tg g)(he:∀ s H C fp,PE (aC X sc cl o (ts++zs) s H C fp) elt te)
  (hs:∀ v,foldedSetIterable iter X.env v=pure v:=by intro _;rfl):PE X (.ListComp elt [⟨tg,iter,[],0⟩] sc pos) (jf wi ts.length js g te):=sY (DC hc S hi hg he hs) (eval_ListComp ..)
theorem wQ (hc:X.calm=true)(S:eZ X sc cl o ts zs js)(hi:PI X tg iter wi)(hg:∀ s H C fp,PG (aC X sc cl o (ts++zs) s H C fp) tg g)(ht:∀ s H C fp,PT (aC X sc cl o (ts++zs) s H C fp) c tt)(he:∀ s H C fp,PE (aC X sc cl o (ts++zs) s H C fp) elt te)
  (hs:∀ v,foldedSetIterable iter X.env v=pure v:=by intro _;rfl):PE X (.ListComp elt [⟨tg,iter,[c],0⟩] sc pos) (iW wi ts.length js g tt te):=sY (rC hc S hi hg ht he hs) (eval_ListComp ..)
theorem oR {y:Str}{py Oe:Pos}{iy:Nat}(hc:X.calm=true)(S:eZ X sc cl o ts zs js)(hi:PI X tg iter wi)(hg:∀ s H C fp,PG (aC X sc cl o (ts++zs) s H C fp) tg g)(ht:∀ s H C fp,PT (aC X sc cl o (ts++zs) s H C fp) c tt)(he:∀ s H C fp,PE (aC X sc cl o (ts++zs) s H C fp) elt te)
  (hN:X.N.Nodup) (RK:X.N[iy]?=some y) (hy:xV X.env.scope y) (Xm:swapsWith (.ListComp elt [⟨tg,iter,[c],0⟩] sc pos) (some (.Name y py)) Oe.line X.env=pure true)
  (hf:X.fn y=true\/X.env.scope.names.lookup y=some .local:=by first | exact .inl rfl | exact .inr rfl | assumption)
  (hs:∀ v,foldedSetIterable iter X.env v=pure v:=by intro _;rfl):PS X (.Assign [.Name y py] (.ListComp elt [⟨tg,iter,[c],0⟩] sc pos) Oe) (cM (iW wi ts.length js g tt te) (be iy)):=Cu (rC hc S hi hg ht he hs) hN RK hy hf (exec_Assign_Name_used _ _ _ _ Xm)
end
end My
namespace My
open PySem L2 PySem.Calls PyProof.Rows
open PySem.Builtin.Str (occurrences partsBetween strSub)
section
variable {X:Cx}
def mQ (i j:Int):Prop:=0<j/\j.natAbs.log2<9000
theorem cA:gv X (binaryOp .FloorDiv) (rI mQ λ i j=>.int (i/j)):=xq λ i j _ _ _ _ _ hc q=>by
 have z:=hc.1;exact floordiv_int ae (by rw [Ů i (Int.le_of_lt z)];exact q) (.inl (PyProof.noPylong_of_log2 hc.2))
def LH (i j:Int):Prop:=Builtin.Int.intBits i+Builtin.Int.intBits j<=1000000
theorem LH.ok {i j:Int}(h:LH i j):IntMulOk i j:=by
 unfold IntMulOk;have z:Builtin.Int.intTooBig (Builtin.Int.intBits i+Builtin.Int.intBits j)=false:=by
  unfold Builtin.Int.intTooBig;refine Å ?_;have h':Builtin.Int.intBits i+Builtin.Int.intBits j<=1000000:=h;have hb:(1000000:Int)<=bitsLine:=aA;omega
 rw [z];simp
theorem eW:gv X (binaryOp .Mult) (rI LH λ i j=>.int (i*j)):=xq λ _ _ _ _ _ _ _ hc q=>PyProof.Rows.mul_int q hc.ok
end
end My
namespace My
open PySem PySem.W L2
structure fV (K:Frag)(D:Addr)(m:Str)(f:Addr):Prop where
 ga:specialIn K (.ref D) "__getattribute__" = some (some (.builtin "type.__getattribute__"))
 reads:readsIn K D (.type "type")=true
 at_:findCls K (.ref D) (.type "type") m=some (.val (.ref f))
 kp:keepIn K (.ref f)=true
section
variable {X:Cx}{CX:iC}{k:Nat}{f D:Addr}{fd:FuncData}{ps:List Str}{sp:Sp}{E:XK}{x m:Str}{p pos œ:Pos}{e:Expr}{es:List Expr}{t:TA}{dvs:List V}{ds:List Value}
theorem cc {pl:Sem Bool}(C:fV X.K D m f)(F:Ò X.prog X.w X.K X.mg X.base CX k f fd ps sp)(hr:î k X.A)(hg:Gl X x)(hm:X.mg x=some (.ref D))(hb:Binds X.K fd ps ds)(hd:Vals dvs ds)(hx:cO CX X E)(ha:PA X (e::es) t)
  (Ν:(x==("__debug__" : Str))=false:=by decide) (K6:starEach (e::es) X.env=(false,eval e X.env)::starEach es X.env:=by rfl) (Ρ:(backTo pos (starEach es X.env)).any (·.1)=false:=by rfl)
  (Rr:eval (.Call (.Attribute (.Name x p) m œ) (e::es) [] pos) X.env=(do
   let ov <- eval (.Name x p) X.env
   standAt œ.atName
   let (f,first) <- holding [ov] (getMethod ov m pl)
   callWith pos f first (backTo pos (starEach (e::es) X.env)) (backToKw pos (keywordEach [] X.env))):=by rfl) :
  PE X (.Call (.Attribute (.Name x p) m œ) (e::es) [] pos) (ie sp dvs E t):=by
 intro pins s σ H Q I h;refine Ŕ (pl:=pl) (cu I hg hm ?_ Ν) Rr;refine method_cls I.Ņ C.ga (cls_value I.Ņ C.reads C.at_ rfl ?_);have I0:Inv X pins σ H { s with toks:=s.toks+1 }:=I.tok _
 refine Ġ (h₀:=X.base) I.ok.mod.L' C.kp (aW (ha pos pins _ σ H _ I0 h) λ us s1 ⟨vs,H1,I1,r,q⟩=>⟨I1.Ņ,?_⟩) K6 Ρ;exact iO F hr hb hd hx I1 r q
end
end My
namespace My
open PySem L2
open PySem.Builtin.Str (occurrences partsBetween strSub)
def Ip (c:Nat):Bool:=decide (48<=c)&&decide (c<=57)
def CV (L:List Nat):Bool:=!L.isEmpty && !(L.head?==some 48&&L != [48])&&L.all Ip
abbrev cs (z:Str):List Nat:=z.cps.toList
abbrev val (L:List Nat):Nat:=NumText.digitsVal L
def Iy (a b:List Nat):Bool:=CV a&&CV b&&decide (2<=val b)&&decide (1<=val a)&&decide (val a<val b)&&decide (Nat.gcd (val a) (val b)=1)
def rd (z:Str):Option (Nat × Nat) :=
 if z = "0" then some (0,1) else if z = "1" then some (1,1) else
  match Txt.split z ⟨#[47]⟩ with
  | [a,b]=>if Iy (cs a) (cs b)=true then some (val (cs a),val (cs b)) else none
  | _=>none
abbrev tx (n:Nat):Str:=Str.ofString (toString ((n:Nat):Int))
end My
namespace My
open PySem PySem.W L2
theorem cK {A B:Prop}(h:A):if true=true then A else B:=by rw [Ï rfl];exact h
theorem cJ {A B:Prop}(h:B):if false=true then A else B:=by rw [Ì ag];exact h
def Ext (H H':Hp):Prop:=∀ b o,H b=some o->H' b=some o
theorem Ext.refl (H:Hp):Ext H H:=λ _ _ h=>h
theorem Ext.trans {H H1 H2:Hp}(a:Ext H H1)(b:Ext H1 H2):Ext H H2:=λ x o h=>b x o (a x o h)
theorem Ext.new {H:Hp}{p:Addr}{o:HO}(h:H p=none):Ext H (aj H p o):=λ b u e=>by rw [ah (aS e h)];exact e
theorem č.ext {K:Frag}{H H':Hp}{p:Addr}{xs:List V}(h:č K H p xs)(e:Ext H H'):č K H' p xs:=by
 rcases h with h | h
 ·left;rcases h with h | ⟨o,h⟩
  ·exact .inl (e _ _ h)
  ·exact .inr ⟨o,e _ _ h⟩
 ·exact .inr h
theorem ÿ.ext {K:Frag}{H H':Hp}{s:Addr}{xs:List V}(h:ÿ K H s xs)(x:Ext H H'):ÿ K H' s xs:=by
 rcases h with h | h
 ·rcases h with h | ⟨o,h⟩
  ·exact .inl (.inl (x _ _ h))
  ·exact .inl (.inr ⟨o,x _ _ h⟩)
 ·exact .inr h
theorem fF {X:Cx}{x:Str}{n:String}{pos:Pos}(hg:Gl X x)(hm:X.mg x=none)(hv:bootBuiltins x=some (.type n))(hn:x ≠ "__name__" := by decide +kernel) (hd:(x==("__debug__" : Str))=false:=by decide):PE X (.Name x pos) (tC (.ty n)) :=
 vB hg hm hv (show RelV (.ty n) (.type n) from rfl) hn hd
def Kd (K:Frag)(H:Hp)(x:V)(t:Value):Prop:=Ū K H x t\/(∃ p xs,x=.ref p/\č K H p xs/\t=.type "tuple")\/(∃ a C,x=.ref a/\IQ H a C/\mH K C/\t=.ref C)
def Ec (K:Frag):List V->Hp->VK->Prop:=λ vs H Q=>∃ x n t b,vs=[x,.ty n]/\Kd K H x t/\kitOne K t (.type n)=some b/\Q (.bl b) H
theorem bH {X:Cx}(N:uH X.K):dh X (.builtin "isinstance") (Ec X.K):=by
 intro pins s σ H xs us Q I r h;obtain⟨x,n,t,b,rfl,kd,e,q⟩:=h;obtain⟨u,u',rfl,ru,P4⟩:=mJ r;cases (show u'=Value.type n from P4);rcases kd with ty | ⟨p,ys,rfl,hq,rfl⟩ | ⟨a,C,rfl,ea,T,rfl⟩
 ·exact qF I ru ty e λ tk=>⟨.bl b,H,I.tok _,rfl,q⟩
 ·cases (show u=Value.ref p from ru);obtain⟨its,_,⟨o,h1,h2,_⟩,_⟩:=I.tuple hq;exact kia_one kitx_tuple I.Ņ ⟨o,h1,h2⟩ e (λ z=>nomatch z) λ tk=>⟨.bl b,H,I.tok _,rfl,q⟩
 ·cases (show u=Value.ref a from ru);exact kia_one (yU T N.gt N.tk) I.Ņ (ea.inst I.þ) e (λ z=>nomatch z) λ tk=>⟨.bl b,H,I.tok _,rfl,q⟩
theorem IQ.ext {H H':Hp}{a C:Addr}(e:IQ H a C)(x:Ext H H'):IQ H' a C:=by
 rcases e with e | ⟨dx,fs,e1,e2⟩
 ·exact .inl (x _ _ e)
 ·exact .inr ⟨dx,fs,x _ _ e1,x _ _ e2⟩
theorem Ū.ext {K:Frag}{H H':Hp}{x:V}{t:Value}(h:Ū K H x t)(e:Ext H H'):Ū K H' x t:=by
 cases h with
 | ô=>exact .ô
 | bl b=>exact .bl b
 | int i=>exact .int i
 | str z=>exact .str z
 | LQ z=>exact .LQ z
 | lst q=>exact .lst (e _ _ q)
 | JB q=>exact .JB (e _ _ q)
 | tup q=>exact .tup (e _ _ q)
 | dK q=>exact .dK (e _ _ q)
 | dT q=>exact .dT (e _ _ q)
 | ins q cl ha hn LL hm=>exact .ins (e _ _ q) cl ha hn LL hm
theorem Kd.ext {K:Frag}{H H':Hp}{x:V}{t:Value}(h:Kd K H x t)(e:Ext H H'):Kd K H' x t:=by
 rcases h with ty | ⟨p,ys,rfl,hq,rfl⟩ | ⟨a,C,rfl,ea,T,rfl⟩
 ·exact .inl (My.Ū.ext ty e)
 ·exact .inr (.inl ⟨p,ys,rfl,My.č.ext hq e,rfl⟩)
 ·exact .inr (.inr ⟨a,C,rfl,ea.ext e,T,rfl⟩)
def CC (K:Frag)(H:Hp)(x:V):Prop:=(∀ i,x ≠ .int i)/\∃ t b1 b2,Kd K H x t/\kitOne K t (.type "int")=some b1/\kitOne K t (.type "bool")=some b2/\(b1 && !b2)=false
def Th (K:Frag)(H:Hp)(x:V):Prop:=(∃ i,x=.int i)\/CC K H x
def B6:V->Bool
 | .int _=>true
 | _=>false
def Kq (lo hi:Int):V->Bool
 | .int i=>decide (lo<=i)&&decide (i<=hi)
 | _=>false
theorem kC {x:V}(h:∀ i,x ≠ .int i):B6 x=false:=by
 cases x with
 | int i=>exact absurd rfl (h i)
 | _=>rfl
theorem yW {lo hi:Int}{x:V}(h:∀ i,x ≠ .int i):Kq lo hi x=false:=by
 cases x with
 | int i=>exact absurd rfl (h i)
 | _=>rfl
section
variable {P:Program}{w:World}{K:Frag}{mg:aX}{base:Heap}
theorem FD:kitOne K (.type "int") (.type "int")=some true:=rfl
theorem FY:kitOne K (.type "int") (.type "bool")=some false:=rfl
end
set_option exponentiation.threshold 10000
def wC:Key->PyData
 | .inl i=>.int i
 | .inr x=>.str x
 | .ô=>.none
mutual
inductive õ (G:Hp):V->PyData->Prop
 | ô:õ G .ô .none
 | bl (b:Bool):õ G (.bl b) (.bool b)
 | int (i:Int):õ G (.int i) (.int i)
 | str (x:Str):õ G (.str x) (.str x)
 | lst {a:Addr} {xs:List V} {ds:List PyData}:G a=some (.lst xs)->à G xs ds->õ G (.ref a) (.list ds)
 | tup {a:Addr} {xs:List V} {ds:List PyData}:G a=some (.tup xs)->à G xs ds->õ G (.ref a) (.tuple ds)
 | B_ {a:Addr}:G a=some (.dK [])->õ G (.ref a) (.dict [])
 | LB {a:Addr} {k:Key} {v:V} {d:PyData}:G a=some (.dK [(k,v)])->õ G v d->õ G (.ref a) (.dict [(wC k,d)])
inductive à (G:Hp):List V->List PyData->Prop
 | nil:à G [] []
 | cons {v:V} {vs:List V} {d:PyData} {ds:List PyData}:õ G v d->à G vs ds->à G (v::vs) (d::ds)
end
mutual
theorem õ.mono {G G':Hp}(s:Ext G G'):∀{v:V}{d:PyData},õ G v d->õ G' v d
 | _,_,.ô=>.ô
 | _,_,.bl b=>.bl b
 | _,_,.int i=>.int i
 | _,_,.str x=>.str x
 | _,_,.lst e r=>.lst (s _ _ e) (à.mono s r)
 | _,_,.tup e r=>.tup (s _ _ e) (à.mono s r)
 | _,_,.B_ e=>.B_ (s _ _ e)
 | _,_,.LB e r=>.LB (s _ _ e) (õ.mono s r)
theorem à.mono {G G':Hp}(s:Ext G G'):∀{vs:List V}{ds:List PyData},à G vs ds->à G' vs ds
 | _,_,.nil=>.nil
 | _,_,.cons r t=>.cons (õ.mono s r) (à.mono s t)
end
theorem à.length {G:Hp}:∀{vs:List V}{ds:List PyData},à G vs ds->vs.length=ds.length
 | _,_,.nil=>rfl
 | _,_,.cons _ t=>by rw [å,å,t.length]
theorem à.append {G:Hp}:∀{vs ws:List V}{ds es:List PyData},à G vs ds->à G ws es->à G (vs++ws) (ds++es)
 | _,_,_,_,.nil,s=>s
 | _,_,_,_,.cons r t,s=>.cons r (t.append s)
section
variable {P:Program}{w:World}{H:Hp}{h:Heap}
theorem qj {k:Key}{u:Value}(r:(aL P w).is k u=true):Reads h u (wC k) []:=by
 rw [iF] at r;rcases aJ r with⟨i,t,rfl,rfl⟩ | ⟨x,t,rfl,rfl⟩ | ⟨rfl,rfl⟩
 ·exact .int i t
 ·exact .str x t
 ·exact .none
theorem yY {es:List DictEntry}(ps:Pairs (aL P w) es ([]:List (Key × Value))):es=[]:=by
 cases ps;rfl
theorem yA {es:List DictEntry}{k:Key}{u:Value}(ps:Pairs (aL P w) es [(k,u)]):∃ e,es=[e]/\(aL P w).is k e.key=true/\e.val=u:=by
 cases ps with
 | cons h1 h2 h3 =>
  cases h3;exact⟨_,rfl,h1,h2⟩
mutual
theorem iY (ok:ţ P w H h)(z:H sysModules=none):∀{v:V}{d:PyData}{u:Value},õ H v d->RelV v u->∃ as,Reads h u d as/\sysModules ∉ as
 | _,_,_,.ô,r=>by cases r;exact⟨[],.none,by simp⟩
 | _,_,_,.bl b,r=>by cases r;exact⟨[],.bool b,by simp⟩
 | _,_,_,.int i,r=>by obtain⟨t,rfl⟩:=r;exact⟨[],.int i t,by simp⟩
 | _,_,_,.str x,r=>by obtain⟨t,rfl⟩:=r;exact⟨[],.str x t,by simp⟩
 | _,_,_,.lst (a:=a) e t,r=>by
  cases r;obtain⟨_,its,n,rv,ho⟩:=(show ñ P w H h _ (.lst _) from ok _ _ e);obtain⟨as,ra,na⟩:=ų ok z t rv;refine⟨a::as,.list ho rfl rfl (by simpa using ra),?_⟩
  intro m;rcases ß.mp m with m | m
  ·rw [<- m,z] at e;cases e
  ·exact na m
 | _,_,_,.tup (a:=a) e t,r=>by
  cases r;obtain⟨_,its,rv,o,ho,hc,n,hd⟩:=(show ñ P w H h _ (.tup _) from ok _ _ e);obtain⟨as,ra,na⟩:=ų ok z t rv;exact⟨as,.tuple ho hc hd (by simpa using ra),na⟩
 | _,_,_,.B_ (a:=a) e,r=>by
  cases r;obtain⟨_,hs,vs,kv,o,es,ep,ho,hx,hd,XB,Rw,Xy⟩:=(show ñ P w H h _ (.dK _) from ok _ _ e);cases kv;have ee:es.toList=[]:=yY Rw;refine⟨a :: [] ++ [],.dict (kvs:=[]) ho hx.1 hd (by rw [ee];exact .nil) (by rw [ee];exact .nil),?_⟩
  intro m;have m':sysModules=a:=by simpa using m
  rw [<- m',z] at e;cases e
 | _,_,_,.LB (a:=a) (k:=k) e t,r=>by
  cases r;obtain⟨_,hs,vs,kv,o,es,ep,ho,hx,hd,XB,Rw,Xy⟩:=(show ñ P w H h _ (.dK _) from ok _ _ e);cases kv with
  | cons q q' =>
   cases q';obtain⟨Xu,Mb⟩:=q;obtain⟨e0,ee,ek,ev⟩:=yA Rw;rw [<- ev] at Mb;rw [<- Xu] at ek;obtain⟨as,ra,na⟩:=iY ok z t Mb;have rk:ReadsAll h [e0.key] [wC k] ([] ++ []):=.cons (qj ek) .nil;have rv:ReadsAll h [e0.val] [_] (as ++ []):=.cons ra .nil;refine⟨a::([] ++ [])++(as ++ []),.dict (kvs:=[(wC k,_)]) ho hx.1 hd (by rw [ee];exact rk) (by rw [ee];exact rv),?_⟩
   intro m;rw [ù,ù] at m;rcases ß.mp m with m | m
   ·rw [<- m,z] at e;cases e
   ·exact na (by simpa using m)
theorem ų (ok:ţ P w H h)(z:H sysModules=none):∀{vs:List V}{ds:List PyData}{us:List Value},à H vs ds->Vals vs us->∃ as,ReadsAll h us ds as/\sysModules ∉ as
 | _,_,_,.nil,r=>by cases r;exact⟨[],.nil,by simp⟩
 | _,_,_,.cons r t,rv=>by
  cases rv with
  | cons q qs =>
   obtain⟨as,ra,na⟩:=iY ok z r q;obtain⟨bs,rb,nb⟩:=ų ok z t qs;refine⟨as++bs,.cons ra rb,λ m=>?_⟩;rcases Ă.mp m with m | m
   ·exact na m
   ·exact nb m
end
end
structure fz (d:PyData):Prop where
 sh:d.showable=true
 dp:d.depth<=10
 sz:d.shown.length<=sizeLine
section
variable {X:Cx}
def tq:List V->Hp->VK->Prop:=λ vs H Q=>∃ v d,vs=[v]/\õ H v d/\fz d/\Q (.str d.shown) H
theorem bo (hz:X.J7 sysModules=none)(hg:X.A.guards=some [])(hu:X.A.units+64<cLine):dh X (.builtin "repr") tq:=by
 intro pins s σ H xs us Q I r h;obtain⟨v,d,rfl,rd,sw,q⟩:=h;have z:H sysModules=none:=I.base.sys hz;obtain⟨u,rfl,ru⟩:=dH r;have big:∀ a,u=Value.ref a->wpAny (model X.prog X.w) X.A (call (.builtin "repr") [u]) (EP X pins σ Q) X.xe s:=λ a e=>by
  obtain⟨as,rr,na⟩:=iY I.þ z rd ru;subst e;have hd:=sw.dp;exact repr_of_reads' (h₀:=s.heap) rr sw.sh (λ _=>na) hg ae (λ _ _ e=>e) (λ h' u tk hk=>⟨.str d.shown,H,I.kept (h':=h') (t':=tk) hk,⟨u,rfl⟩,q⟩) sw.sz
 cases rd with
 | ô=>cases ru;exact PySem.P.repr_of_none ⟨.str _,H,I.tok _,⟨_,rfl⟩,q⟩
 | bl b=>cases ru;cases b <;> exact PySem.P.repr_of_bool ⟨.str _,H,I.tok _,⟨_,rfl⟩,q⟩
 | int i =>
  obtain⟨t,rfl⟩:=ru;exact PySem.P.repr_of_int (by have h:=sw.sh;simpa only [PyData.showable,decide_eq_true_eq] using h) ⟨.str _,H,I.tok _,⟨_,rfl⟩,q⟩
 | str x =>
  obtain⟨t,rfl⟩:=ru;exact PySem.P.repr_of_str ⟨.str _,H,I.tok _,⟨_,rfl⟩,q⟩ sw.sz
 | lst e t=>exact big _ ru
 | tup e t=>exact big _ ru
 | B_ e=>exact big _ ru
 | LB e t=>exact big _ ru
end
def jB:PyData->String
 | .none => "NoneType"
 | .bool _ => "bool"
 | .int _ => "int"
 | .str _ => "str"
 | .list _ => "list"
 | .tuple _ => "tuple"
 | _ => "dict"
def uZ:PyData->Bool
 | .tuple _=>true
 | _=>false
def E8:PyData->Bool
 | .list _=>true
 | _=>false
def ka:PyData->Bool
 | .bool _=>true
 | _=>false
def ib (lo hi:Int):PyData->Bool
 | .int i=>decide (lo<=i)&&decide (i<=hi)
 | _=>false
section
variable {K:Frag}{H:Hp}{v:V}{d:PyData}
theorem õ.ty (r:õ H v d):Ū K H v (.type (jB d)):=by
 cases r with
 | ô=>exact .ô
 | bl b=>exact .bl b
 | int i=>exact .int i
 | str x=>exact .str x
 | lst e _=>exact .lst e
 | tup e _=>exact .tup e
 | B_ e=>exact .dK e
 | LB e _=>exact .dK e
theorem õ.kd (r:õ H v d):Kd K H v (.type (jB d)):=.inl r.ty
theorem õ.Rm (r:õ H v d):kitOne K (.type (jB d)) (.type "tuple")=some (uZ d):=by cases r <;> rfl
theorem õ.W8 (r:õ H v d):kitOne K (.type (jB d)) (.type "list")=some (E8 d):=by cases r <;> rfl
theorem õ.Qe (r:õ H v d):kitOne K (.type (jB d)) (.type "bool")=some (ka d):=by cases r <;> rfl
theorem õ.th (r:õ H v d):Th K H v:=by
 cases r with
 | int i=>exact .inl ⟨i,rfl⟩
 | ô=>exact .inr ⟨λ i z=>(by cases z),_,_,_,.inl .ô,rfl,rfl,rfl⟩
 | bl b=>exact .inr ⟨λ i z=>(by cases z),_,_,_,.inl (.bl b),rfl,rfl,rfl⟩
 | str x=>exact .inr ⟨λ i z=>(by cases z),_,_,_,.inl (.str x),rfl,rfl,rfl⟩
 | lst e _=>exact .inr ⟨λ i z=>(by cases z),_,_,_,.inl (.lst e),rfl,rfl,rfl⟩
 | tup e _=>exact .inr ⟨λ i z=>(by cases z),_,_,_,.inl (.tup e),rfl,rfl,rfl⟩
 | B_ e=>exact .inr ⟨λ i z=>(by cases z),_,_,_,.inl (.dK e),rfl,rfl,rfl⟩
 | LB e _=>exact .inr ⟨λ i z=>(by cases z),_,_,_,.inl (.dK e),rfl,rfl,rfl⟩
theorem õ.Kq (r:õ H v d)(lo hi:Int):My.Kq lo hi v=ib lo hi d:=by cases r <;> rfl
theorem cG (r:õ H v (.tuple ds)):∃ a xs,v=.ref a/\H a=some (.tup xs)/\à H xs ds:=by
 cases r with
 | tup e t=>exact⟨_,_,rfl,e,t⟩
theorem eV (r:õ H v (.list ds)):∃ a xs,v=.ref a/\H a=some (.lst xs)/\à H xs ds:=by
 cases r with
 | lst e t=>exact⟨_,_,rfl,e,t⟩
theorem à.get {xs:List V}{ds:List PyData}(r:à H xs ds):∀{i:Nat}{x:V},xs[i]?=some x->∃ d,ds[i]?=some d/\õ H x d:=by
 induction xs generalizing ds with
 | nil=>intro i x h;simp at h
 | cons y ys ih =>
  cases r with
  | cons q t =>
   intro i x h;cases i with
   | zero=>cases h;exact⟨_,rfl,q⟩
   | succ i=>exact ih t h
end
end My
namespace My
open PySem L2
structure Bx (p:Prop):Prop where
 h:p
section
variable {X:Cx}{e a b:Expr}{es:List Expr}{te ta tb:TE}{t:TA}{pos:Pos}{st:Stmt}{rest:List Stmt}{ts u v:TS}
theorem aY:Bx (PA X [] aP):=⟨ao⟩
theorem cU (ha:Bx (PE X e te))(hr:Bx (PA X es t))(hs:starEach (e::es) X.env=(false,eval e X.env)::starEach es X.env:=by rfl):Bx (PA X (e::es) (aw te t)):=⟨ac ha.h hr.h hs⟩
theorem cC (h:Bx (PA X es t)):Bx (PE X (.List es pos) (bE t)):=⟨bJ h.h⟩
theorem j9 {x1}(h:Bx (PA X es t)):Bx (PE X (.Tuple es x1 pos) (fh t)):=⟨aE h.h⟩
theorem cv (h:Bx (PS X st ts)):Bx (Ũ X [st] ts):=⟨aK h.h⟩
theorem eM (h:Bx (PS X st ts))(k:Bx (Ũ X rest u)):Bx (Ũ X (st::rest) (az ts u)):=⟨ba h.h k.h⟩
end
end My
namespace My
open PySem PySem.W L2
open AutoSeq1 (wpAny_loadPart')
section
variable {prog:Program}{w:World}{A:Around}{E:bz}{s:Shared}{r:Addr}{a b c:Int}{t u v:Tok}{n:Nat}
theorem jo {Q:List Value->Shared->Prop}(hh:A.handled=none)(hr:IsRange s.heap r a b c t u v)(j_:Builtin.Range.small a b c=true)(hn:Builtin.Range.rangeSize a b c=n)(ĩ:n<=2^24)
  (hQ:∀ h' tk acc,(∀ b o,s.heap.get? b=some o->h'.get? b=some o)->ItemsOf (λ i v=>∃ t,v=.int (a+i*c) t) acc n->Q acc.toList { s with heap:=h',toks:=tk }) :
  wpAny (model prog w) A (collect (.ref r)) Q E s:=by
 unfold collect;refine À (wpAny_runValue (D_ F.entry_proto_collect ?_));rw [Ű F.plain_proto_collect _];show wpAny _ A.in1 (newList [] >>= λ l=>again (.builtin "list.__iadd__" ⟨[l,.ref r],[]⟩)) _ _ s;refine À (Ĝ ?_);refine Ã ⟨plainId_quiet F.plain_list_iadd _,D_ F.entry_list_iadd ?_⟩;rw [Ű F.plain_list_iadd _];show wpAny _ A.in1 (Builtin.List.listExtendWith (.ref s.heap.objs.size) (.ref r) (.ref s.heap.objs.size)) _ _ _;have hS:(s.heap.push { cls:=.type "list",data:=.seq ([]:List Value).toArray }).get? s.heap.objs.size=some { cls:=.type "list",data:=.seq #[] 0 }:=Ë _ rfl;refine Ğ (wpAny_extend_range (A:=A) (R:=λ x s'=>∃ h' tk acc c',x=.ok (.ret (.ref s.heap.objs.size))/\s'={ s with heap:=h',toks:=tk }/\(∀ b o,s.heap.get? b=some o->h'.get? b=some o)/\h'.get? s.heap.objs.size=some { cls:=.type "list",dict:=none,data:=.seq acc c',slots:=#[] }/\ItemsOf (λ i v=>∃ t,v=.int (a+i*c) t) acc n)
  (s:={ s with heap:=s.heap.push { cls:=.type "list",data:=.seq ([]:List Value).toArray } }) hh (Â _ hr) j_ hn ĩ s.heap.objs.size (.ref s.heap.objs.size) 0 hS (λ h' tk acc c' hk RX Bk=>⟨h',tk,acc,c',rfl,rfl,λ b o e=>hk b o (Ñ (È e)) (Â _ e),RX,Bk⟩)) (λ fin s' h=>?_) (λ e s' h=>?_)
 ·have Pl:∀ MM,(∃ h' tk acc c',MM={ s with heap:=h',toks:=tk }/\(∀ b o,s.heap.get? b=some o->h'.get? b=some o)/\h'.get? s.heap.objs.size=some { cls:=.type "list",dict:=none,data:=.seq acc c',slots:=#[] }/\ItemsOf (λ i v=>∃ t,v=.int (a+i*c) t) acc n)->wpAny (model prog w) A (match Value.ref s.heap.objs.size with
   | Value.ref a=>do
    match (<- load a).data with
     | Data.seq xs _=>pure xs.toList
     | _=>unsupported "internal:collect"
   | _=>unsupported "internal:collect") Q E MM:=λ MM hx=>by
   obtain⟨h',tk,acc,c',rfl,hk,RX,Bk⟩:=hx;show wpAny _ A (load s.heap.objs.size>>=_) _ _ _;refine À (wpAny_load RX ?_);exact Ã (hQ h' tk acc hk Bk)
  cases fin with
  | done f =>
   obtain⟨h',tk,acc,c',e,h⟩:=h;cases e;exact Pl _ ⟨h',tk,acc,c',h⟩
  | again c'=>exact⟨h.1,ł h.2 λ x MM hr=>by obtain⟨h',tk,acc,c',rfl,hr⟩:=hr;exact Pl _ ⟨h',tk,acc,c',hr⟩⟩
 ·obtain⟨_,_,_,_,e,_⟩:=h;cases e
end
theorem fg (r:Addr)(a b c:Int)(t u v:Tok)(n:Nat)(j_:Builtin.Range.small a b c=true)(hn:Builtin.Range.rangeSize a b c=n)(ĩ:n<=2^24) :
  Meets (Builtin.«tuple.__new__» ⟨[.type "tuple",.ref r],[]⟩)
   (λ A R s=>A.handled=none/\IsRange s.heap r a b c t u v/\∀(h':Heap)(tk:Nat)(acc:Array Value),(∀ b o',s.heap.get? b=some o'->h'.get? b=some o')->ItemsOf (λ i v=>∃ t,v=.int (a+i*c) t) acc n->R (.ok (.ret (.ref h'.objs.size))) { s with heap:=h'.push { cls:=.type "tuple",data:=.seq acc },toks:=tk }) :=
 .of_wp λ prog w A R s h=>by
  obtain⟨hh,hr,h⟩:=h;have O6:=sub_tuple_self;have Tj:=init_tuple_lookup;have Z5:=madeHere_tuple;have hT:s.TypeIs (.ref r) "range" :=⟨_,hr,rfl⟩;have XH:A.in1.handled=none:=hh
  wp_walk using Ž hT,jo XH hr j_ hn ĩ
  intro h' tk acc hk Bk;show wpAny _ _ (Builtin.Tuple.tupleExact acc.toList.toArray >>= λ v=>ret v) _ _ _;unfold Builtin.Tuple.tupleExact;refine À (Ĝ ?_ (show acc.toList.toArray.size<=sizeLine by simp only [Array.toArray_toList];rw [Bk.1,Ø];omega))
  refine Ã ⟨_,rfl,?_⟩;have e:acc.toList.toArray=acc:=by simp
  rw [e];exact h h' tk acc hk Bk
theorem gM {prog:Program}{w:World}{A:Around}{E:bz}{s:Shared}{r:Addr}{a b c:Int}{t u v:Tok}{n:Nat}{Q:bz}(hh:A.handled=none)(hr:IsRange s.heap r a b c t u v)(j_:Builtin.Range.small a b c=true)(hn:Builtin.Range.rangeSize a b c=n)(ĩ:n<=2^24)
  (h:∀(h':Heap)(tk:Nat)(acc:Array Value),(∀ b o',s.heap.get? b=some o'->h'.get? b=some o')->ItemsOf (λ i v=>∃ t,v=.int (a+i*c) t) acc n->Q (.ref h'.objs.size) { s with heap:=h'.push { cls:=.type "tuple",data:=.seq acc },toks:=tk }) :
  wpAny (model prog w) A (call (.type "tuple") [.ref r]) Q E s :=
 callType_new F.called_tuple ag (F.typeCall_tuple_1 _) (F.newCall_tuple_1 _) (λ obj=>F.args_object_init_2 obj _) F.entry_tuple_new
  (fg r a b c t u v n j_ hn ĩ) ⟨hh,hr,λ h' tk acc hk Bk=>⟨⟨_,Ë _ rfl,rfl⟩,h h' tk acc hk Bk⟩⟩
def xA (lo:Int)(n:Nat):List V:=(List.range n).map λ i=>V.int (lo+(i:Nat))
theorem iJ (lo:Int)(n:Nat):(xA lo n).length=n:=by unfold xA;simp
theorem rQ {lo:Int}{n:Nat}{acc:Array Value}(h:ItemsOf (λ i v=>∃ t,v=Value.int (lo+i*1) t) acc n):Vals (xA lo n) acc.toList:=by
 have gen:∀(xs:List V)(us:List Value),xs.length=us.length->(∀(i:Nat) x u,xs[i]?=some x->us[i]?=some u->RelV x u)->Vals xs us:=by
  intro xs
  induction xs with
  | nil=>intro us l _;cases us with | nil=>exact .nil | cons _ _=>cases l
  | cons x xs ih =>
   intro us l g;cases us with
   | nil=>cases l
   | cons u us=>exact .cons (g 0 x u rfl rfl) (ih us (by simpa using l) λ i x' u' h1 h2=>g (i+1) x' u' h1 h2)
 refine gen _ _ (by rw [iJ];simp [h.1]) λ i x u hx hu=>?_
 unfold xA at hx;rw [Ù] at hx;obtain⟨j,hj,rfl⟩:=Ě.mp hx;have ej:i=j:=by
  have:=É.mp hj
  simpa using this.2
 subst ej;obtain⟨t,e⟩:=h.2 i u (by simpa using hu)
 refine⟨t,?_⟩;rw [e,J_]
section
variable {X:Cx}
def E9:List V->Hp->VK->Prop:=λ vs H Q=>∃ j:Int,vs=[.int j]/\∀ r,H r=none->Q (.ref r) (aj H r (.Nm 0 j))
theorem qp:dh X (.type "range") E9:=by
 intro pins s σ H xs us Q I r h;obtain⟨j,rfl,q⟩:=h;obtain⟨u,rfl,t,rfl⟩:=dH r;refine call_range_1 ⟨.ref s.heap.objs.size,_,I.laid (t':=s.toks+1+1) (o:=.Nm 0 j) (λ b o e=>Â _ e) (Ç _) ?_,rfl,q _ (I.þ.fresh (Ç _))⟩;exact⟨_,_,_,Ë _ rfl⟩
def Db:List V->Hp->VK->Prop:=λ vs H Q=>∃(p:Addr)(lo hi:Int),vs=[.ref p]/\H p=some (.Nm lo hi)/\(-(2^62)<=lo/\lo<2^62/\-(2^62)<=hi/\hi<2^62)/\(hi-lo).toNat<=2^24/\∀ l,H l=none->Q (.ref l) (aj H l (.tup (xA lo (hi-lo).toNat)))
theorem qx (hc:X.calm=true):dh X (.type "tuple") Db:=by
 intro pins s σ H xs us Q I r h;obtain⟨p,lo,hi,rfl,hp,⟨b1,b2,b3,b4⟩,hl,q⟩:=h;obtain⟨u,rfl,rx⟩:=dH r;cases (show u=Value.ref p from rx);obtain⟨t,u,v,e⟩:=(show ñ X.prog X.w H s.heap p (.Nm lo hi) from I.þ p _ hp);have en:Builtin.Range.rangeSize lo hi 1=(((hi-lo).toNat:Nat):Int):=by rw [rangeSize_one];split <;> omega
 refine gM (I.ok.hd hc) e (small_one b1 b2 b3 b4) en hl λ h' tk acc kp Bk=>?_;have I1:Inv X pins σ H { s with heap:=h' }:=I.kept (t':=s.toks) kp
 have ha:acc.toList.toArray=acc:=by simp
 have I2:Inv X pins σ (aj H h'.objs.size (.tup (xA lo (hi-lo).toNat))) { s with heap:=h'.push { cls:=.type "tuple",data:=.seq acc },toks:=tk } :=
  I1.laid (t':=tk) (λ b o e=>Â _ e) (Ç _) (show ñ X.prog X.w _ _ _ (.tup _) from⟨by rw [iJ,Ø];omega,acc.toList,rQ Bk,by rw [ha];exact PyProof.Rows.IsTup.new _ _⟩)
 exact⟨.ref h'.objs.size,_,I2,rfl,q _ (I1.þ.fresh (Ç _))⟩
end
end My
namespace My
open PySem PySem.W L2
section
variable {K:Frag}{te:TE}{tt:TT}{g:TG}{k:Nat}{ż:St}{D:Addr}{H1:Hp}{Q:Hp->Prop}{a:Addr}{xs:List V}
theorem eH (Pv:Nat->List V->Hp->Prop)(hz:xs.length<sizeLine)(h0:Pv 0 [] (aj H1 D (.lst [])))
  (hl:∀ i ys H,Pv i ys H->ÿ K H a xs)
  (hs:∀ i x ys H,xs[i]?=some x->ys.length=i->H D=some (.lst ys)->Pv i ys H->∀ os:St,os.length=k->∀ R:VK,(∀ y H4,H4 D=some (.lst ys)->Pv (i+1) (ys ++ [y]) (aj H4 D (.lst (ys ++ [y])))->R y H4)->g x (os ++ ż) H λ Ļ H0=>(∃ Ň:St,Ň.length=k/\Ļ = Ň ++ ż)/\te Ļ H0 R)
  (hd:∀ ys H,ys.length=xs.length->H D=some (.lst ys)->Pv xs.length ys H->Q H) :
  ∃ W:Nat->Nat->List V->Hp->Prop,(∃ m,W 0 m [] (aj H1 D (.lst []))) /\
   ∀ i m ys H2,W i m ys H2->H2 D=some (.lst ys)/\(((qV K a).stop i H2/\Q H2)\/((qV K a).go i H2/\ys.length<sizeLine /\
    ∀ x H3,(qV K a).JJ i H2 x H3->∀ os:St,os.length=k->g x (os ++ ż) H3 λ Ļ H0=>(∃ Ň:St,Ň.length=k/\Ļ = Ň ++ ż)/\te Ļ H0 λ y H4=>H4 D=some (.lst ys)/\∃ m',m'<m/\W (i+1) m' (ys ++ [y]) (aj H4 D (.lst (ys ++ [y]))))):=by
 refine⟨λ i m ys H=>m=xs.length-i/\i<=xs.length/\ys.length=i/\H D=some (.lst ys)/\Pv i ys H,⟨xs.length,by simp,Nat.zero_le _,rfl,aQ,h0⟩,?_⟩
 rintro i m ys H ⟨rfl,hi,hy,hD,p⟩;refine⟨hD,?_⟩;have q:=hl i ys H p;by_cases Β:i<xs.length
 ·refine .inr ⟨⟨xs,xs[i],q,by simp [Β]⟩,ae,λ x H' y=>?_⟩
  obtain⟨e,y⟩:=y;subst e;exact λ os Ŵ=>hs i x ys _ (y xs q) hy hD p os Ŵ _ λ z H4 Jt p4=>⟨Jt,xs.length-(i+1),ae,rfl,Β,by rw [Ý,hy];rfl,aQ,p4⟩
 ·have e:i=xs.length:=ae;subst e;exact .inl ⟨⟨xs,q,Ç _⟩,hd ys H hy hD p⟩
theorem sV (Pv:Nat->List V->Hp->Prop)(hz:xs.length<sizeLine)(h0:Pv 0 [] (aj H1 D (.lst [])))
  (hl:∀ i ys H,Pv i ys H->ÿ K H a xs)
  (hs:∀ i x ys H p,xs[i]?=some x->ys.length=i->H D=some (.lst ys)->Pv i ys H->H p=none->∀ os:St,os.length=k->∀ R:VK,(∀ y H4,H4 D=some (.lst ys)->Pv (i+1) (ys ++ [y]) (aj H4 D (.lst (ys ++ [y])))->R y H4)->g (.ref p) (os ++ ż) (aj H p (.tup [.int (i:Nat),x])) λ Ļ H0=>(∃ Ň:St,Ň.length=k/\Ļ = Ň ++ ż)/\te Ļ H0 R)
  (hd:∀ ys H,ys.length=xs.length->H D=some (.lst ys)->Pv xs.length ys H->Q H) :
  ∃ W:Nat->Nat->List V->Hp->Prop,(∃ m,W 0 m [] (aj H1 D (.lst []))) /\
   ∀ i m ys H2,W i m ys H2->H2 D=some (.lst ys)/\(((xU K a).stop i H2/\Q H2)\/((xU K a).go i H2/\ys.length<sizeLine /\
    ∀ x H3,(xU K a).JJ i H2 x H3->∀ os:St,os.length=k->g x (os ++ ż) H3 λ Ļ H0=>(∃ Ň:St,Ň.length=k/\Ļ = Ň ++ ż)/\te Ļ H0 λ y H4=>H4 D=some (.lst ys)/\∃ m',m'<m/\W (i+1) m' (ys ++ [y]) (aj H4 D (.lst (ys ++ [y]))))):=by
 refine⟨λ i m ys H=>m=xs.length-i/\i<=xs.length/\ys.length=i/\H D=some (.lst ys)/\Pv i ys H,⟨xs.length,by simp,Nat.zero_le _,rfl,aQ,h0⟩,?_⟩
 rintro i m ys H ⟨rfl,hi,hy,hD,p⟩;refine⟨hD,?_⟩;have q:=hl i ys H p;by_cases Β:i<xs.length
 ·refine .inr ⟨⟨xs,xs[i],q,by simp [Β]⟩,ae,λ x H' y=>?_⟩
  obtain⟨p',z,rfl,Xw,rfl,Qg⟩:=y;exact λ os Ŵ=>hs i z ys H p' (Qg xs q) hy hD p Xw os Ŵ _ λ z H4 Jt p4=>⟨Jt,xs.length-(i+1),ae,rfl,Β,by rw [Ý,hy];rfl,aQ,p4⟩
 ·have e:i=xs.length:=ae;subst e;exact .inl ⟨⟨xs,q,Ç _⟩,hd ys H hy hD p⟩
end
def tT (K:PySem.W.Frag)(n:Nat)(t:vm):TG:=λ v σ H Q=>∃ a xs,v=.ref a/\ÿ K H a xs/\xs.length=n/\t xs σ H Q
section
variable {X:Cx}{pos:Pos}
theorem vZ {es:List Expr}{k:Nat}{t:vm}{n:Nat}(hc:X.calm=true)(h:DN X es t)
  (hn:(assignEach es X.env).length=n:=by rfl) (K6:(assignEach es X.env).findIdx? (·.1)=none:=by rfl):PG X (.Tuple es k pos) (tT X.K n t):=by
 intro pins s σ H v u Q I r hw;obtain⟨a,xs,e1,hq,hl,hw⟩:=hw;subst e1;cases r;obtain⟨its,rv,ht,hz⟩:=I.list hq;rw [PyProof.Rows.assign_Tuple];refine À (ģ ?_);unfold unpack;rw [K6,show(assignEach es X.env).length=its.toArray.size by rw [hn,Ü,<- rv.length];exact hl.symm]
 refine À (Ú (kun_itemsOf (I.ok.hd hc) ht.isList λ h' hx=>?_));have I1:Inv X pins σ H { s with heap:=h' }:=I.kept (t':=s.toks) λ b o e=>hx b o (Ñ (È e)) e
 exact h pins _ σ H xs _ Q I1 (by simpa using rv) hw
end
section
variable {X:Cx}
theorem iH:∀{ns:List Int}{its:List Value},Vals (ns.map V.int) its->∃ xs:List (Int × Tok),its=xs.map (λ p=>Value.int p.1 p.2)/\ns=xs.map (·.1)
 | [],_,r=>by cases r;exact⟨[],rfl,rfl⟩
 | n::ns,_,r=>by
  rw [Ė] at r;cases r with
  | cons r1 r2 =>
   obtain⟨t,rfl⟩:=r1;obtain⟨xs,e1,e2⟩:=iH r2;exact⟨(n,t)::xs,by rw [e1];rfl,by rw [e2];rfl⟩
theorem qh {xs:List (Int × Tok)}{i:Nat}(h:i<xs.length):numAt xs.toArray i=(xs.map (·.1))[i]'(by rw [Æ];exact h):=by
 simp [numAt,h]
end
structure jq (K:Frag)(mg:aX)(D:Addr)(nm fld:Str)(C f:Addr)(fd:FuncData):Prop where
 cls:ĵ K D nm C f
 Kn:mg nm=some (.ref C)
 ok:∀(P:Program)(w:World)(base:Heap),Ò P w K mg base ay 1 f fd ["self",fld] (lR C fld)
 bi:Binds K fd ["self",fld] []
structure Df (P:Program)(w:World)(K:Frag)(mg:aX)(base:Heap)(cx:iC)(k:Nat)(nm:Str)(ps:List Str)(sp:Sp)(g:Addr)(gd:FuncData):Prop where
 G:Ò P w K mg base cx k g gd ps sp
 b:Binds K gd ps []
 kp:keepIn K (.ref g)=true
 m:mg nm=some (.ref g)
theorem br {X:Cx}{CX:iC}{k:Nat}{x:Str}{ps:List Str}{sp:Sp}{f:Addr}{fd:FuncData}{E:XK}{e:Expr}{es:List Expr}{t:TA}{p pos:Pos}(A:Df X.prog X.w X.K X.mg X.base CX k x ps sp f fd)(hr:î k X.A)(hx:cO CX X E)(ha:PA X (e::es) t)(hg:Gl X x:=by exact rfl) (Ν:(x==("__debug__" : Str))=false:=by decide) (he:starEach (e::es) X.env=(false,eval e X.env)::starEach es X.env:=by rfl) (Ρ:(backTo pos (starEach es X.env)).any (·.1)=false:=by rfl):PE X (.Call (.Name x p) (e::es) [] pos) (ie sp [] E t):=nq A.G hr hg A.m A.kp A.b .nil hx ha Ν he Ρ
theorem ls {P:Program}{w:World}{X:Cx}:cO (bP P w) X E0:=λ _ _ _ _ _ _ _ h=>by
 obtain⟨_,_,_,_,_,_,_,_,_,_,_,_,_,h⟩:=h;exact h.elim
def cz (C:Addr)(fld:Str)(x:V)(H:Hp)(E:XK):Prop:=∀ e dx,H e=none->H dx=none->dx≠e->E (.ref C) (some e) (aj (aj H dx (.xd [(fld,x)])) e (gh e C (some dx)))
def NL (K:Frag)(H:Hp)(v:V)(n:String):Prop:=∃ t,Kd K H v t/\kitOne K t (.type n)=some false
theorem NL.ext {K:Frag}{H H':Hp}{v:V}{n:String}(h:NL K H v n)(x:Ext H H'):NL K H' v n:=by
 obtain⟨t,k,e⟩:=h;exact⟨t,k.ext x,e⟩
theorem eP {lo hi:Int}{d:PyData}(h:ib lo hi d=true):∃ i,d=.int i/\lo<=i/\i<=hi:=by
 cases d with
 | int i =>
  have h':(decide (lo<=i)&&decide (i<=hi))=true:=h;rw [ğ,ă,ă] at h';exact⟨i,rfl,h'.1,h'.2⟩
 | _=>cases h
def dX (bs:List Bool)(i:Nat):Prop:=(∀ j b,j<i->bs[j]?=some b->b=true)/\bs[i]?=some false
theorem bV {H0 H:Hp}{l:Addr}(o:HO)(x:Ext H0 H)(h:H0 l=none):Ext H0 (aj H l o):=λ b u e=>by
 rw [ah (λ z=>by rw [z,h] at e;cases e)]
 exact x b u e
theorem bF {α:Type}{xs:List α}{i:Nat}{x:α}(h:xs[i]?=some x):xs.take (i+1)=xs.take i ++ [x]:=by
 rw [List.take_succ,h];rfl
def Kept (H H':Hp)(p:Addr):Prop:=∀ b o,H b=some o->b≠p->H' b=some o
theorem Kept.refl (H:Hp)(p:Addr):Kept H H p:=λ _ _ h _=>h
theorem Kept.trans {H H1 H2:Hp}{p:Addr}(x:Kept H H1 p)(y:Kept H1 H2 p):Kept H H2 p:=λ b o h n=>y b o (x b o h n) n
theorem Ext.kept {H H':Hp}(x:Ext H H')(p:Addr):Kept H H' p:=λ b o h _=>x b o h
def wo (H:Hp)(p:Addr):Hp:=λ b=>if b=p then none else H b
theorem aU (H:Hp)(p:Addr):Ext (wo H p) H:=λ b o e=>by
 unfold wo at e;split at e
 ·cases e
 ·exact e
theorem cj {H:Hp}{p b:Addr}{o:HO}(n:b≠p)(e:H b=some o):wo H p b=some o:=by unfold wo;rw [Ì n];exact e
theorem iu {H H':Hp}{p:Addr}(k:Kept H H' p):Ext (wo H p) (wo H' p):=λ b o e=>by
 unfold wo at e;split at e
 ·cases e
 ·rename_i n
  exact cj n (k b o e n)
def qS (sp:Sp)(E:XK)(t:TA):TE:=λ σ H Q=>t σ H λ vs H1=>H1 sysModules=none->sp vs H1 Q E
section
variable {X:Cx}{CX:iC}{k:Nat}{f:Addr}{fd:FuncData}{ps:List Str}{sp:Sp}{E:XK}{x:Str}{p pos:Pos}{e:Expr}{es:List Expr}{t:TA}{σ:St}
theorem gy (hz:X.J7 sysModules=none)(F:Ò X.prog X.w X.K X.mg X.base CX k f fd ps sp)(hr:î k X.A)(hg:Gl X x)(hm:X.mg x=some (.ref f))(hk:PySem.W.keepIn X.K (.ref f)=true)(hb:Binds X.K fd ps [])(hx:cO CX X E)
  (ha:PA X (e::es) t) (Ν:(x==("__debug__" : Str))=false:=by decide) (he:starEach (e::es) X.env=(false,eval e X.env)::starEach es X.env:=by rfl) (Ρ:(backTo pos (starEach es X.env)).any (·.1)=false:=by rfl) :
  PE X (.Call (.Name x p) (e::es) [] pos) (qS sp E t):=by
 intro pins s σ H Q I h;refine Č (cu I hg hm ?_ Ν);refine Ġ (h₀:=X.base) I.ok.mod.L' hk (aW (ha pos pins s σ H _ I h) λ us s1 ⟨vs,H1,I1,r,q⟩=>⟨I1.Ņ,?_⟩) he Ρ;exact iO (dvs:=[]) F hr hb .nil hx I1 r (by rw [ù];exact q (I1.base.sys hz))
end
theorem dA {i:Nat}(h:i<10000):fz (.int (i:Nat)):=by
 refine⟨?_,by simp [PyData.depth],?_⟩
 ·simp only [PyData.showable,decide_eq_true_eq];rw [ŭ];by_cases z:i=0
  ·rw [z];decide
  ·exact(J' z).mpr (ļ h (Í (by decide:10000<2^14) (ã ag ag)))
 ·have e:=PySem.int_text_length_le10 (a:=((i:Nat):Int)) (k:=4) ag (by rw [ŭ];exact h)
  simp only [PyData.shown];show(Str.ofString (toString ((i:Nat):Int))).length<=sizeLine;rw [ofString_length,Ø];omega
structure Fi (k n:Nat)(d:PyData):Prop where
 sh:d.showable=true
 dp:d.depth<=k
 lv:d.leavesShort 64=true
 bk:d.bulk<=n
structure Pu (k n:Nat)(ds:List PyData):Prop where
 sh:PyData.showableAll ds=true
 dp:PyData.depthAll ds<=k
 lv:PyData.leavesShortAll 64 ds=true
 bk:PyData.bulkAll ds<=(n+1)*ds.length
theorem Fi.mono {k k' n n':Nat}{d:PyData}(f:Fi k n d)(h1:k<=k')(h2:n<=n'):Fi k' n' d:=⟨f.sh,Ô f.dp h1,f.lv,Ô f.bk h2⟩
theorem Pu.of {k n:Nat}:∀{ds:List PyData},(∀ d∈ds,Fi k n d)->Pu k n ds
 | [],_=>⟨by simp [PyData.showableAll],by simp [PyData.depthAll],by simp [PyData.leavesShortAll],by simp [PyData.bulkAll]⟩
 | d::ds,h=>by
  have f:=h d (ø ..);have g:=Pu.of (ds:=ds) λ x hx=>h x (ä _ hx);refine⟨?_,?_,?_,?_⟩
  ·simp only [PyData.showableAll,f.sh,g.sh,Bool.and_self]
  ·have h1:=f.dp;have h2:=g.dp;simp only [PyData.depthAll];omega
  ·simp only [PyData.leavesShortAll,f.lv,g.lv,Bool.and_self]
  ·have h1:=f.bk;have h2:=g.bk;simp only [PyData.bulkAll,List.length_cons,Nat.mul_add];omega
theorem j3 {k n m:Nat}{ds:List PyData}(h:∀ d∈ds,Fi k n d)(hl:ds.length<=m):Fi (k+1) ((n+1)*m+1) (.list ds):=by
 have f:=Pu.of h;refine⟨by simp only [PyData.showable,f.sh],?_,by simp only [PyData.leavesShort,f.lv],?_⟩
 ·have:=f.dp;simp only [PyData.depth];omega
 ·have:=f.bk;have h2:=r_ (n+1) hl;simp only [PyData.bulk];omega
theorem jc {k n m:Nat}{ds:List PyData}(h:∀ d∈ds,Fi k n d)(hl:ds.length<=m):Fi (k+1) ((n+1)*m+1) (.tuple ds):=by
 have f:=Pu.of h;refine⟨by simp only [PyData.showable,f.sh],?_,by simp only [PyData.leavesShort,f.lv],?_⟩
 ·have:=f.dp;simp only [PyData.depth];omega
 ·have:=f.bk;have h2:=r_ (n+1) hl;simp only [PyData.bulk];omega
theorem Fi.show {k n:Nat}{d:PyData}(f:Fi k n d)(hk:k<=10)(hn:n<=200000):fz d:=by
 refine⟨f.sh,Ô f.dp hk,?_⟩;have e:=PyData.shown_le_bulk 64 ag d f.lv;have e2:(64+2)*d.bulk<=66*200000:=r_ _ (Ô f.bk hn);rw [Ø];omega
theorem tM {i:Int}(h:i.natAbs<10^30):Fi 0 2 (.int i):=by
 refine⟨?_,by simp [PyData.depth],?_,by simp [PyData.bulk]⟩
 ·simp only [PyData.showable,decide_eq_true_eq];by_cases z:i.natAbs=0
  ·rw [z];decide
  ·exact(J' z).mpr (ļ h aA)
 ·have e:=int_text_length_le10 (k:=30) ag h;simp only [PyData.leavesShort,PyData.shown];refine Ä (show(Str.ofString (toString i)).length<=64 from ?_);rw [ofString_length];omega
theorem Ml:Fi 0 2 .none:=⟨rfl,by simp [PyData.depth],rfl,by simp [PyData.bulk]⟩
theorem Ky {b:Bool}:Fi 0 2 (.bool b):=by cases b <;> exact⟨rfl,by simp [PyData.depth],rfl,by simp [PyData.bulk]⟩
theorem l6 {i:Int}(h1:-1000000000<=i)(h2:i<=1000000000):Fi 0 2 (.int i):=tM (Ń (show i.natAbs<=1000000000 by omega) ag)
structure rE (K:Frag)(C:Addr)(fld:Str):Prop where
 it:mH K C
 hd:hasDictIn K C=true
 nf:findIn K (.ref C) fld=some none
section
variable {K:Frag}{H:Hp}{D:bT}{σ:St}{p:Addr}
theorem jW {r:R2}{ta tb:TE}{Q:VK}(h:ta σ H λ x H1=>tb σ H1 λ y H2=>r x y H2 Q):aT r ta tb σ H Q:=h
theorem cI {te:TE}{i:Nat}{u:TS}(h:te σ H λ v H1=>u D (σ.set i (some v)) H1):az (cM te (be i)) u D σ H:=h
end
def wt (H:Hp)(p t:Addr):Hp:=wo (wo H p) t
theorem yk (H:Hp)(p t:Addr):Ext (wt H p t) H:=(aU _ t).trans (aU H p)
theorem xu {H:Hp}{p t b:Addr}{o:HO}(n:b≠p)(m:b≠t)(e:H b=some o):wt H p t b=some o:=cj m (cj n e)
theorem vE {H H':Hp}{p t:Addr}(k:Kept H H' p):Ext (wt H p t) (wt H' p t):=iu ((iu k).kept t)
theorem pJ {H:Hp}{p a:Addr}{o:HO}(h:wo H p a=some o):a≠p:=λ e=>by
 unfold wo at h;rw [Ï e] at h;cases h
theorem jI {H H':Hp}(x:Ext H H')(p:Addr):Ext (wo H p) (wo H' p):=iu (x.kept p)
theorem z8 {C:Addr}{fld:Str}{v:V}{H1:Hp}{E':XK}(h:∀ e dx H',Ext H1 H'->H' e=some (gh e C (some dx))->H' dx=some (.xd [(fld,v)])->E' (.ref C) (some e) H'):cz C fld v H1 E':=λ e dx he JY ne=>by
 have x2:=Ext.new (o:=.xd [(fld,v)]) JY;have MU:aj H1 dx (.xd [(fld,v)]) e=none:=by rw [ah ne.symm];exact he
 have x3:=Ext.new (o:=gh e C (some dx)) MU;exact h e dx _ (x2.trans x3) aQ (x3 _ _ aQ)
section
variable {X:Cx}
def kH (K:Frag):R2:=λ x y H Q=>∃ p q xs,x=.ref p/\y=.ref q/\ÿ K H p xs/\ÿ K H q []/\Q (.bl (!xs.isEmpty)) H
theorem lT (hu:X.A.units<cLine):gv X (compareOp .NotEq) (kH X.K):=by
 intro pins s σ H x y v u Q I rx ry h;obtain⟨p,q,xs,rfl,rfl,hp,hq,k⟩:=h;cases rx;cases ry;obtain⟨its,r1,t1,_⟩:=I.list hp;obtain⟨Jz,r2,t2,_⟩:=I.list hq;have l1:=r1.length;have l2:=r2.length;have e2:Jz=[]:=Mx.mp l2.symm;subst e2;cases xs with
 | nil =>
  have e1:its=[]:=Mx.mp l1.symm;subst e1;exact SeqAt.RcNeAt.lists (e:=λ _=>true) t1.isList t2.isList rfl hu (λ j h _=>absurd h (ζ _)) X.prog X.w X.xe _ ⟨.bl false,H,I,rfl,k⟩
 | cons x xs =>
  exact SeqAt.RcNeAt.lists_lengths t1.isList t2.isList (by simp [<- l1]) hu X.prog X.w X.xe _ ⟨.bl true,H,I,rfl,k⟩
end
theorem DJ {H:Hp}{p t:Addr}{o:HO}:Ext (wt H p t) (wt (aj H t o) p t):=λ c u h=>by
 have h1:=yk H p t _ _ h;have n2:=pJ h;have n1:=pJ (aU _ t _ _ h);exact xu n1 n2 (by rw [ah n2];exact h1)
theorem hI (val:Nat->Int)(ns:List Int)(h:∀(i:Nat)(hi:i<ns.length),val i=ns[i]):∀ k,k<=ns.length->preSum val k=(ns.take k).sum
 | 0,_=>by simp [preSum]
 | k+1,hk=>by
  have ih:=hI val ns h k ae;have e:ns.take (k+1)=ns.take k ++ [ns[k]]:=bF (Á ae);show preSum val k+val k=_;rw [ih,h k ae,e,List.sum_append];simp
section
variable {X:Cx}
def xf (K:Frag):List V->Hp->VK->Prop:=λ vs H Q=>∃(l:Addr)(ns:List Int),vs=[.ref l]/\ÿ K H l (ns.map V.int)/\Q (.int ns.sum) H
theorem qB (hc:X.calm=true):dh X (.builtin "sum") (xf X.K):=by
 intro pins s σ H xs us Q I r h;obtain⟨l,ns,rfl,hl,q⟩:=h;obtain⟨u,rfl,ru⟩:=dH r;cases (show u=Value.ref l from ru);obtain⟨its,rv,p,hz⟩:=I.list hl;obtain⟨xs,rfl,rfl⟩:=iH rv;have e:(xs.map λ p=>Value.int p.1 p.2).toArray=intItems xs.toArray:=by simp [intItems]
 have hL:s.heap.IsList l (intItems xs.toArray):=by rw [<- e];exact p.isList
 refine sum_intListG (I.ok.hd hc) hL λ h' tk t' hk=>?_;have es:preSum (numAt xs.toArray) xs.toArray.size=(xs.map (·.1)).sum:=by
  have:=hI (numAt xs.toArray) (xs.map (·.1)) (λ i hi=>qh (by simpa using hi)) xs.toArray.size (by simp)
  rw [this,M6 (by simp)]
 rw [es];exact⟨.int _,H,I.kept hk,⟨t',rfl⟩,q⟩
end
def bL (P:Program)(w:World)(K:Frag)(mg:aX)(base:Heap)(CX:iC)(k:Nat)(m:Str)(ps:List Str)(S:Addr->Prop)(sp:Addr->Sp):Prop :=
 ∀ C,S C->K4 K C/\∃ f fd,DV K C m f/\Ò P w K mg base CX k f fd ps (sp C)/\Binds K fd ps []
def eY (S:Addr->Prop)(m:Str)(sp:Addr->Sp)(E:XK)(ta:TE)(t:TA):TE:=λ σ H Q=>ta σ H λ x H1=>∃ a C dx fs,x=.ref a/\S C/\H1 a=some (.ins C dx fs)/\fs.lookup m=none /\
 t σ H1 λ vs H2=>sp C (x::vs) H2 Q E
section
variable {X:Cx}{CX:iC}{k:Nat}{S:Addr->Prop}{ps:List Str}{sp:Addr->Sp}{E:XK}{x m:Str}{p pos œ:Pos}{e o:Expr}{es:List Expr}{ta:TE}{t:TA}{σ:St}
theorem dC {pl:Sem Bool}(he:PE X o ta)(M:bL X.prog X.w X.K X.mg X.base CX k m ps S sp)(hr:î k X.A)(hx:cO CX X E)(ha:PA X (e::es) t)
  (K6:starEach (e::es) X.env=(false,eval e X.env)::starEach es X.env:=by rfl) (Ρ:(backTo pos (starEach es X.env)).any (·.1)=false:=by rfl)
  (ht:eval (.Call (.Attribute o m œ) (e::es) [] pos) X.env=(do
   let ov <- eval o X.env
   standAt œ.atName
   let (f,first) <- holding [ov] (getMethod ov m pl)
   callWith pos f first (backTo pos (starEach (e::es) X.env)) (backToKw pos (keywordEach [] X.env))):=by rfl) :
  PE X (.Call (.Attribute o m œ) (e::es) [] pos) (eY S m sp E ta t):=by
 intro pins s σ H Q I h;refine Ŕ (pl:=pl) (aW (he pins s σ H _ I h) λ u s1 ⟨x,H1,I1,rx,a,C,dx,fs,ex,hS,ea,l,q⟩=>?_) ht;subst ex;obtain⟨c,f,fd,hm,F,hb⟩:=M C hS;obtain rfl:u=Value.ref a:=rx;refine iU I1 ea c hm l ?_;refine Ġ (first:=[.ref a]) (h₀:=X.base) I.ok.mod.L' hm.kp (aW (ha pos pins s1 σ H1 _ I1 q) λ us s2 ⟨vs,H2,I2,r,q2⟩=>⟨I2.Ņ,?_⟩) K6 Ρ
 exact iO (us:=.ref a::us) (vs:=.ref a::vs) (dvs:=[]) F hr hb .nil hx I2 (.cons rfl r) (by rw [ù];exact q2)
theorem ck {pl:Sem Bool}(he:PE X o ta)(M:bL X.prog X.w X.K X.mg X.base CX k m ps S sp)(hr:î k X.A)(hx:cO CX X E)
  (ht:eval (.Call (.Attribute o m œ) [] [] pos) X.env=(do
   let ov <- eval o X.env
   standAt œ.atName
   let (f,first) <- holding [ov] (getMethod ov m pl)
   callWith pos f first (backTo pos (starEach [] X.env)) (backToKw pos (keywordEach [] X.env))):=by rfl) :
  PE X (.Call (.Attribute o m œ) [] [] pos) (eY S m sp E ta aP):=by
 intro pins s σ H Q I h;refine Ŕ (pl:=pl) (aW (he pins s σ H _ I h) λ u s1 ⟨x,H1,I1,rx,a,C,dx,fs,ex,hS,ea,l,q⟩=>?_) ht;subst ex;obtain⟨c,f,fd,hm,F,hb⟩:=M C hS;obtain rfl:u=Value.ref a:=rx;refine iU I1 ea c hm l ?_;exact PySem.W.callWith_K0 (first:=[.ref a]) I1.Ņ hm.kp (iO (us:=[.ref a]) (vs:=[.ref a]) (dvs:=[]) F hr hb .nil hx I1 (.cons rfl .nil) q)
end
section
variable {K:Frag}{te:TE}{tt:TT}{g:TG}{k:Nat}{ż:St}{D:Addr}{H1:Hp}{Q:Hp->Prop}{a:Addr}{xs:List V}
theorem vM (Pv:Nat->List V->Hp->Prop)(hz:xs.length<sizeLine)(h0:Pv 0 [] (aj H1 D (.lst [])))
  (hl:∀ i ys H,Pv i ys H->č K H a xs)
  (hs:∀ i x ys H,xs[i]?=some x->ys.length=i->H D=some (.lst ys)->Pv i ys H->∀ os:St,os.length=k->∀ R:VK,(∀ y H4,H4 D=some (.lst ys)->Pv (i+1) (ys ++ [y]) (aj H4 D (.lst (ys ++ [y])))->R y H4)->g x (os ++ ż) H λ Ļ H0=>(∃ Ň:St,Ň.length=k/\Ļ = Ň ++ ż)/\te Ļ H0 R)
  (hd:∀ ys H,ys.length=xs.length->H D=some (.lst ys)->Pv xs.length ys H->Q H) :
  ∃ W:Nat->Nat->List V->Hp->Prop,(∃ m,W 0 m [] (aj H1 D (.lst []))) /\
   ∀ i m ys H2,W i m ys H2->H2 D=some (.lst ys)/\(((EE K a).stop i H2/\Q H2)\/((EE K a).go i H2/\ys.length<sizeLine /\
    ∀ x H3,(EE K a).JJ i H2 x H3->∀ os:St,os.length=k->g x (os ++ ż) H3 λ Ļ H0=>(∃ Ň:St,Ň.length=k/\Ļ = Ň ++ ż)/\te Ļ H0 λ y H4=>H4 D=some (.lst ys)/\∃ m',m'<m/\W (i+1) m' (ys ++ [y]) (aj H4 D (.lst (ys ++ [y]))))):=by
 refine⟨λ i m ys H=>m=xs.length-i/\i<=xs.length/\ys.length=i/\H D=some (.lst ys)/\Pv i ys H,⟨xs.length,by simp,Nat.zero_le _,rfl,aQ,h0⟩,?_⟩
 rintro i m ys H ⟨rfl,hi,hy,hD,p⟩;refine⟨hD,?_⟩;have q:=hl i ys H p;by_cases Β:i<xs.length
 ·refine .inr ⟨⟨xs,xs[i],q,by simp [Β]⟩,ae,λ x H' y=>?_⟩
  obtain⟨e,y⟩:=y;subst e;exact λ os Ŵ=>hs i x ys _ (y xs q) hy hD p os Ŵ _ λ z H4 Jt p4=>⟨Jt,xs.length-(i+1),ae,rfl,Β,by rw [Ý,hy];rfl,aQ,p4⟩
 ·have e:i=xs.length:=ae;subst e;exact .inl ⟨⟨xs,q,Ç _⟩,hd ys H hy hD p⟩
end
theorem bA {H:Hp}{p:Addr}(o:HO):Kept H (aj H p o) p:=λ b u h n=>by rw [ah n];exact h
def dE:PyData->Bool
 | .tuple [.int a,.int b]=>(decide (1<=b)&&(decide (0<=a)&&decide (a<=b)))&&decide (Nat.gcd a.toNat b.toNat=1)
 | _=>false
def cy:PyData->Bool
 | .tuple [.int a,.int b]=>dE (.tuple [.int a,.int b])&&(decide (2<=b)&&decide (b<=100))
 | _=>false
def xR (lo:Int)(n:Nat):List Int:=(List.range n).map λ k=>lo+(k:Nat)
def Dv (p:List Int):PyData:=.tuple (p.map .int)
theorem Bm (lo:Int)(n:Nat):xA lo n=(xR lo n).map V.int:=by unfold xA xR;rw [ĕ];rfl
theorem jw (G:Hp):∀(ns:List Int),à G (ns.map V.int) (ns.map PyData.int)
 | []=>.nil
 | n::ns=>.cons (.int _) (jw G ns)
theorem pB {G:Hp}:∀{p:List Int}{ys:List V},à G ys (p.map PyData.int)->ys=p.map V.int
 | [],_,h=>by cases h;rfl
 | n::p,_,h=>by
  cases h with
  | cons r t =>
   cases r;rw [pB t];rfl
theorem ua {G:Hp}{ps:List (List Int)}{xs:List V}(rs:à G xs (ps.map Dv)){i:Nat}{x:V}{p:List Int}(hx:xs[i]?=some x)(hp:ps[i]?=some p):∃ a,x=.ref a/\G a=some (.tup (p.map V.int)):=by
 obtain⟨d,ed,rd⟩:=rs.get hx;rw [Ù,hp] at ed;cases ed;obtain⟨a,ys,rfl,ha,ry⟩:=cG rd;refine⟨a,rfl,?_⟩;rw [<- pB ry];exact ha
def xM:HO->Bool
 | .lst _=>true
 | .tup _=>true
 | .dK _=>true
 | _=>false
mutual
theorem õ.keep {G G':Hp}(s:∀ b o,G b=some o->xM o=true->G' b=some o):∀{v:V}{d:PyData},õ G v d->õ G' v d
 | _,_,.ô=>.ô
 | _,_,.bl b=>.bl b
 | _,_,.int i=>.int i
 | _,_,.str x=>.str x
 | _,_,.lst e r=>.lst (s _ _ e rfl) (à.keep s r)
 | _,_,.tup e r=>.tup (s _ _ e rfl) (à.keep s r)
 | _,_,.B_ e=>.B_ (s _ _ e rfl)
 | _,_,.LB e r=>.LB (s _ _ e rfl) (õ.keep s r)
theorem à.keep {G G':Hp}(s:∀ b o,G b=some o->xM o=true->G' b=some o):∀{vs:List V}{ds:List PyData},à G vs ds->à G' vs ds
 | _,_,.nil=>.nil
 | _,_,.cons r t=>.cons (õ.keep s r) (à.keep s t)
end
theorem õ.kept {H H':Hp}{x:Addr}{v:V}{d:PyData}{C dx:Addr}{fs:List (Str × V)}(r:õ H v d)(hx:H x=some (.ins C dx fs))(k:Kept H H' x):õ H' v d :=
 r.keep λ b o e h=>k b o e λ z=>by rw [z,hx] at e;cases e;cases h
inductive R0 where
 | split (n k:Int)
 | pairs (n a b:Int)
 | ö (n a b f:Int)
def R0.ë:R0->Int
 | .split n _=>n
 | .pairs n _ _=>2*n
 | .ö n _ _ _=>n
def R0.begin:R0->PyData
 | .split _ k=>.int k
 | .pairs _ _ _=>.none
 | .ö _ _ _ _=>.int 0
def R0.told:R0->PyData
 | .split n k=>.tuple [.str "split",.int n,.int k]
 | .pairs n a b=>.tuple [.str "pairs",.int n,.tuple [.int a,.int b]]
 | .ö n a b f=>.tuple [.str "coins",.int n,.tuple [.int a,.int b],.int f]
def R0.kind:R0->Nat
 | .split _ _=>0
 | .pairs _ _ _=>1
 | .ö _ _ _ _=>2
def R0.ok:R0->Prop
 | .split n k=>1<=n/\n<=20/\0<=k/\k<=n
 | .pairs n a b=>1<=n/\n<=10/\cy (.tuple [.int a,.int b])=true
 | .ö n a b f=>1<=n/\n<=20/\cy (.tuple [.int a,.int b])=true/\1<=f/\f<=20
theorem R0.Ο {r:R0}(h:r.ok):1<=r.ë/\r.ë <= 20:=by
 cases r <;> simp only [R0.ok,R0.ë] at * <;> omega
inductive Rl where
 | one (r:R0)
def Rl.ë:Rl->Int
 | .one r=>r.ë
def Rl.begin:Rl->PyData
 | .one r=>r.begin
def Rl.told:Rl->PyData
 | .one r=>r.told
def Rl.parts:Rl->List (List Int)
 | .one r=>[xR 0 r.ë.toNat]
def Rl.kind:Rl->Nat
 | .one r=>r.kind
def nP (ps:List (List Int)):PyData:=.tuple (ps.map Dv)
def Rl.ok:Rl->Prop
 | .one r=>r.ok
theorem Rl.Ο:∀{t:Rl},t.ok->0<=t.ë/\t.ë <= 20
 | .one r,h=>by have:=R0.Ο h;simp only [Rl.ë];omega
def fY:List Str:=["folk","begin","steps","told","blocks","state_ahead","state_behind"]
structure Ob (C:Addr)(H:Hp)(v:V)(fk:Int)(bg tl pt:PyData)(X:List (Str × V)->Prop):Prop where
 ex:∃ a dx fs,v=.ref a/\H a=some (.ins C dx fs)/\fs.lookup ("size" : Str)=some (.int fk)/\(∃ b,fs.lookup ("first_state" : Str)=some b/\õ H b bg)/\(∃ m,fs.lookup ("mark" : Str)=some m/\õ H m tl)/\(∃ p,fs.lookup ("parts" : Str)=some p/\õ H p pt)/\(∀ m∈fY,fs.lookup m=none)/\X fs
def R0.extra (H:Hp):R0->List (Str × V)->Prop
 | .split _ _,_=>True
 | .pairs _ a b,fs=>∃ c,fs.lookup ("coin" : Str)=some c/\õ H c (.tuple [.int a,.int b])
 | .ö _ a b f,fs=>(∃ c,fs.lookup ("coin" : Str)=some c/\õ H c (.tuple [.int a,.int b]))/\fs.lookup ("far" : Str)=some (.int f)
def M0 (C:Nat->Addr)(H:Hp)(r:R0)(v:V):Prop:=Ob (C r.kind) H v r.ë r.begin r.told (nP [xR 0 r.ë.toNat]) (r.extra H)
def Ru (C:Nat->Addr)(H:Hp):Rl->V->Prop
 | .one r,v=>M0 C H r v
theorem Ob.mono {C:Addr}{H H':Hp}{v:V}{fk:Int}{bg tl pt:PyData}{X Y:List (Str × V)->Prop}(h:Ob C H v fk bg tl pt X)(x:Ext H H')(k:∀ fs,X fs->Y fs):Ob C H' v fk bg tl pt Y:=by
 obtain⟨a,dx,fs,rfl,ha,h1,⟨b,h2,r2⟩,⟨m,h3,r3⟩,⟨p,h4,r4⟩,h5,h6⟩:=h.ex;exact⟨a,dx,fs,rfl,x _ _ ha,h1,⟨b,h2,r2.mono x⟩,⟨m,h3,r3.mono x⟩,⟨p,h4,r4.mono x⟩,h5,k fs h6⟩
section
variable {C:Nat->Addr}{H H':Hp}
theorem M0.ext {r:R0}{v:V}(h:M0 C H r v)(x:Ext H H'):M0 C H' r v:=Ob.mono h x λ fs e=>by
 cases r with
 | split _ _=>trivial
 | pairs _ a b =>
  obtain⟨c,e1,e2⟩:=e;exact⟨c,e1,e2.mono x⟩
 | ö _ a b f =>
  obtain⟨⟨c,e1,e2⟩,e3⟩:=e;exact⟨⟨c,e1,e2.mono x⟩,e3⟩
theorem Ru.ext {t:Rl}{v:V}(h:Ru C H t v)(x:Ext H H'):Ru C H' t v:=by
 cases t with
 | one r=>exact M0.ext h x
theorem Ru.ob {t:Rl}{v:V}(h:Ru C H t v):Ob (C t.kind) H v t.ë t.begin t.told (nP t.parts) (λ _=>True):=by
 cases t with
 | one r=>exact Ob.mono h (Ext.refl _) λ _ _=>trivial
end
theorem R0.Į (r:R0):r.kind<3:=by cases r <;> simp [R0.kind]
theorem Rl.Į (t:Rl):t.kind<3:=by
 cases t with
 | one r=>have:=r.Į;show r.kind<3;omega
def fq:List Str:=["size","first_state","mark","parts","coin","far","rules","dealer"]
structure KR (K:Frag)(C:Nat->Addr)(CR:Addr):Prop where
 cls:∀ i,i<3->K4 K (C i)
 no:∀ i,i<3->∀ f∈fq,ř K (C i) f
 ha:∀ i,i<3->PySem.W.findIn K (.ref (C i)) "__class__" = some (some (.builtin "object.__class__"))
 hn:PySem.W.specialIn K (.builtin "object.__class__") "__get__" = some (some (.builtin "getset_descriptor.__get__"))
 LL:PySem.W.takesIn K (.builtin "object.__class__")=some true
 hm:∀ i,i<3->PySem.W.mroIn K (C i) (.type "object")=some true
 kk:∀ i j,i<3->j<3->kitOne K (.ref (C i)) (.ref (C j))=some (i==j)
 kR:∀ i,i<3->kitOne K (.ref (C i)) (.ref CR)=some true
 kl:∀ i,i<3->kitOne K (.ref (C i)) (.type "list")=some false
 kt:∀ i,i<3->kitOne K (.ref (C i)) (.type "tuple")=some false
 ki:∀ i,i<3->kitOne K (.ref (C i)) (.type "int")=some false
 kb:∀ i,i<3->kitOne K (.ref (C i)) (.type "bool")=some false
def pO (C:Nat->Addr)(c:Addr):Prop:=∃ i,i<3/\c=C i
section
variable {K:Frag}{C:Nat->Addr}{CR:Addr}{H:Hp}
theorem cY {m:Str}{sp:Addr->Sp}{E:XK}{ta:TE}{σ:St}{Q:VK}{t:Rl}{v:V}(hm:m∈fY)(h:Ru C H t v)(ht:∀ R:VK,R v H->ta σ H R)(q:sp (C t.kind) [v] H Q E):eY (pO C) m sp E ta aP σ H Q:=by
 obtain⟨a,dx,fs,rfl,ha,_,_,_,_,h5,_⟩:=h.ob.ex;exact ht _ ⟨a,C t.kind,dx,fs,rfl,⟨_,t.Į,rfl⟩,ha,h5 m hm,q⟩
end
end My
namespace My
open PySem PySem.W L2
def jM:V->V->Bool
 | x,.int j=>decide (1<=j)&&Kq 0 j x
 | _,_=>false
theorem sD {x y:V}(h:∀ i,y ≠ .int i):jM x y=false:=by
 cases y with
 | int i=>exact absurd rfl (h i)
 | _=>rfl
section
variable {P:Program}{w:World}{K:Frag}{mg:aX}{base:Heap}
abbrev nj:Stmt:=bw 12
def j4 (K:Frag):Sp:=λ vs H Q _=>∃ x,vs=[x]/\Th K H x/\Q (.bl (B6 x)) H
theorem Gd:ad ["thing"] ["thing"] (aa nj):=aF
theorem uw {f:Addr}{fd:FuncData}(N:uH K)(F:ė K "is_number" "is_number" nj f fd) (mi:mg "isinstance" = none) (m1:mg "int" = none) (m2:mg "bool" = none):Ò P w K mg base ay 1 f fd ["thing"] (j4 K):=by
 refine F.ok Gd (λ vs H Q E h=>?_) (λ cdv A outer s H vs Q E hr h=>?_)
 ·obtain⟨c,rfl,_⟩:=h;rfl
 obtain⟨x,rfl,th,q⟩:=h;refine⟨_,aK (bh (eE (am (bH N) rfl mi Ö (ac (pv 0) (ac (fF rfl m1 ĳ) ao)))
  (eT (sW (am (bH N) rfl mi Ö (ac (pv 0) (ac (fF rfl m2 ŉ) ao))))))),?_⟩
 rcases th with⟨i,rfl⟩ | ⟨n,t,b1,b2,kd,k1,k2,z⟩
 ·exact⟨_,rfl,_,_,_,_,rfl,.inl (.int i),FD,_,rfl,⟨_,rfl,_,_,_,_,rfl,.inl (.int i),FY,_,rfl,q⟩⟩
 ·rw [kC n] at q;refine⟨_,rfl,_,_,_,_,rfl,kd,k1,_,rfl,?_⟩;cases b1 with
  | false=>exact cJ q
  | true =>
   refine cK ⟨_,rfl,_,_,_,_,rfl,kd,k2,_,rfl,?_⟩;have e:(!b2)=false:=z;rw [e];exact q
abbrev tE:Stmt:=bw 13
def f9 (K:Frag):Sp:=λ vs H Q _=>∃ x lo hi,vs=[x,.int lo,.int hi]/\Th K H x/\Q (.bl (Kq lo hi x)) H
theorem Gn:ad ["thing","low","high"] ["thing","low","high"] (aa tE):=aF
theorem vq {f g:Addr}{fd gd:FuncData}(F:ė K "is_whole" "is_whole" tE f fd) (G:Ò P w K mg base ay 1 g gd ["thing"] (j4 K)) (bG:Binds K gd ["thing"] []) (kG:keepIn K (.ref g)=true) (mG:mg "is_number" = some (.ref g)) :
  Ò P w K mg base ay 2 f fd ["thing","low","high"] (f9 K):=by
 refine F.ok Gn (λ vs H Q E h=>?_) (λ cdv A outer s H vs Q E hr h=>?_)
 ·obtain⟨c,lo,hi,rfl,_⟩:=h;rfl
 obtain⟨x,lo,hi,rfl,th,q⟩:=h;refine⟨_,aK (bh (eE (nq G hr rfl mG kG bG .nil ai (ac (pv 0) ao)) (eE (bX lu (pv 1) (pv 0) (av _)) (eT (bX lu (pv 0) (pv 2) (av _)))))),?_⟩;refine⟨_,rfl,x,rfl,th,_,rfl,?_⟩;rcases th with⟨i,rfl⟩ | ⟨n,_⟩
 ·refine cK ⟨_,rfl,_,rfl,_,_,rfl,rfl,_,rfl,?_⟩;refine jk (λ c=>?_) (λ c=>?_)
  ·refine⟨_,rfl,_,rfl,_,_,rfl,rfl,?_⟩;have q':Q (.bl (decide (lo<=i)&&decide (i<=hi))) H:=q;rw [Ä (Û c),Ĳ] at q';exact q'
  ·have q':Q (.bl (decide (lo<=i)&&decide (i<=hi))) H:=q;rw [Å (λ z=>c (Ä z)),ĺ] at q';exact q'
 ·rw [kC n];rw [yW n] at q;exact cJ q
abbrev zK:Stmt:=bw 17
def kX:Sp:=λ vs H Q _=>∃ a b:Nat,vs=[.int a,.int b]/\Q (.int (Nat.gcd a b)) H
theorem SK:ad ["one","other"] ["one","other"] (aa zK):=aF
def GD:St->Nat
 | [_,some (.int b)]=>b.toNat
 | _=>0
theorem AA {f:Addr}{fd:FuncData}(F:ė K "greatest_common" "greatest_common" zK f fd):Ò P w K mg base ay 1 f fd ["one","other"] kX:=by
 refine F.ok SK (λ vs H Q E h=>?_) (λ cdv A outer s H vs Q E hr h=>?_)
 ·obtain⟨c,lo,rfl,_⟩:=h;rfl
 obtain⟨a,b,rfl,q⟩:=h;have nd:=SK.nd;refine⟨_,ba (mO Ē (ar lO (pv 1) au (av _)) (aK (zO (i:=0) (j:=1) rfl nd rfl rfl ag rfl rfl (ac (pv 1) (ac (af fA (pv 0) (pv 1)) ao)) rfl))) (aK (bh (pv 0))),?_⟩;refine uf (λ σ H'=>H'=H/\∃ x y:Nat,σ=[some (.int x),some (.int y)]/\Nat.gcd x y=Nat.gcd a b) (λ σ _=>GD σ) ⟨rfl,a,b,rfl,rfl⟩ ?_ ?_
 ·rintro σ H' ⟨rfl,x,y,rfl,e⟩;refine⟨_,rfl,_,_,rfl,rfl,_,rfl,?_⟩;refine jk (λ c=>?_) (λ c=>?_)
  ·have c':(0:Int)<(y:Int):=Û c;refine⟨_,rfl,_,rfl,_,rfl,_,_,rfl,rfl,c',_,_,rfl,⟨rfl,y,x%y,?_,?_⟩,?_⟩
   ·show [some (V.int y),some (V.int ((x:Int)%(y:Int)))]=_;rw [show((x:Int)%(y:Int))=((x%y:Nat):Int) from by simp]
   ·rw [<- e,Nat.gcd_comm x y,Nat.gcd_rec y x,Nat.gcd_comm]
   ·show((x:Int)%(y:Int)).toNat<(y:Int).toNat;have:=İ (x:Int) c';omega
  ·have c':¬ (0:Int)<(y:Int):=λ z=>c (Ä z);have y0:y=0:=ae;subst y0;rw [Nat.gcd_zero_right] at e;refine⟨_,rfl,?_⟩;rw [e];exact q
 ·rintro σ H Q Q' m ⟨x,e,i,j,h1,h2,b,hb,q⟩;exact⟨x,e,i,j,h1,h2,b,hb,m _ _ q⟩
abbrev ux:Stmt:=bw 19
def nM (K:Frag):Sp:=λ vs H Q _=>∃ x y,vs=[x,y]/\Th K H x/\Th K H y/\Q (.bl (jM x y)) H
theorem GK:ad ["top","bottom"] ["top","bottom"] (aa ux):=aF
theorem wI {f g k:Addr}{fd gd kd:FuncData}(F:ė K "is_part" "is_part" ux f fd) (G:Ò P w K mg base ay 1 g gd ["thing"] (j4 K)) (bG:Binds K gd ["thing"] []) (kG:keepIn K (.ref g)=true) (mG:mg "is_number" = some (.ref g))
  (W:Ò P w K mg base ay 2 k kd ["thing","low","high"] (f9 K)) (bW:Binds K kd ["thing","low","high"] []) (kW:keepIn K (.ref k)=true) (mW:mg "is_whole" = some (.ref k)):Ò P w K mg base ay 3 f fd ["top","bottom"] (nM K):=by
 refine F.ok GK (λ vs H Q E h=>?_) (λ cdv A outer s H vs Q E hr h=>?_)
 ·obtain⟨x,y,rfl,_⟩:=h;rfl
 obtain⟨x,y,rfl,tx,ty,q⟩:=h;have Ĵ:=hr.mono (show 1<=2 by decide)
 refine⟨_,aK (bh (eE (nq G Ĵ rfl mG kG bG .nil ai (ac (pv 1) ao)) (eE (bX rZ (pv 1) au (av _)) (eT (nq W hr rfl mW kW bW .nil ai (ac (pv 0) (ac au (ac (pv 1) ao)))))))),?_⟩;refine⟨_,rfl,y,rfl,ty,_,rfl,?_⟩;rcases ty with⟨j,rfl⟩ | ⟨n,_⟩
 ·refine cK ⟨_,rfl,_,_,rfl,rfl,_,rfl,?_⟩;have q':Q (.bl (decide (1<=j)&&Kq 0 j x)) H:=q;refine jk (λ c=>?_) (λ c=>?_)
  ·rw [Ä (Û c),Ĳ] at q';exact⟨_,rfl,_,rfl,x,0,j,rfl,tx,q'⟩
  ·rw [Å (λ z=>c (Ä z)),ĺ] at q';exact q'
 ·rw [kC n];rw [sD n] at q;exact cJ q
abbrev Av:Stmt:=bw 21
def wT:Sp:=λ vs H Q _=>∃ x d,vs=[x]/\õ H x d/\Q (.bl (dE d)) H
theorem MJ:ad ["thing","top","bottom"] ["thing"] (aa Av):=aF
theorem nB {d1 d2:PyData}{H:Hp}{u v:V}(r1:õ H u d1)(r2:õ H v d2):jM u v=false->dE (.tuple [d1,d2])=false:=by
 intro h;cases r1 with
 | int i =>
  cases r2 with
  | int j =>
   have h':(decide (1<=j)&&(decide (0<=i)&&decide (i<=j)))=false:=h;show((decide (1<=j)&&(decide (0<=i)&&decide (i<=j)))&&_)=false;rw [h'];rfl
  | _=>rfl
 | _=>cases r2 <;> rfl
theorem tD {x y:V}(h:jM x y=true):∃ a b:Nat,x=.int a/\y=.int b/\1<=b/\a<=b:=by
 cases y with
 | int j =>
  have h':(decide (1<=j)&&Kq 0 j x)=true:=h;rw [ğ,ă] at h';obtain⟨h1,h2⟩:=h';cases x with
  | int i =>
   have h3:(decide (0<=i)&&decide (i<=j))=true:=h2;rw [ğ,ă,ă] at h3;refine⟨i.toNat,j.toNat,?_,?_,ae,ae⟩
   ·congr 1;omega
   ·congr 1;omega
  | _=>cases h2
 | _=>cases h
theorem AX {f a1 a2:Addr}{fd d1 d2:FuncData}(N:uH K)(F:ė K "is_share" "is_share" Av f fd) (A1:Df P w K mg base ay 3 "is_part" ["top","bottom"] (nM K) a1 d1) (A2:Df P w K mg base ay 1 "greatest_common" ["one","other"] kX a2 d2)
  (mi:mg "isinstance" = none) (mt:mg "tuple" = none) (ml:mg "len" = none):Ò P w K mg base ay 4 f fd ["thing"] wT:=by
 refine F.ok MJ (λ vs H Q E h=>?_) (λ cdv A outer s H vs Q E hr h=>?_)
 ·obtain⟨v,d,rfl,_⟩:=h;rfl
 obtain⟨v,d,rfl,rd,q⟩:=h;have nd:=MJ.nd;have Ĵ:î 1 _:=hr.mono ag;refine⟨_,ba (aG (PW.pt (gY (bD (bf (am (bH N) rfl mi Ö (ac (pv 0) (ac (fF rfl mt Ĉ) ao))))) (fX (ar hX (am aH rfl ml ò (ac (pv 0) ao)) au (av _))))) (aK (bh l9)) dm)
  (ba (gn (pv 0) (bI rfl (dZ (cT (i:=1) nd rfl (Or.inl rfl)) (dZ (cT (i:=2) nd rfl (Or.inl rfl)) aZ))))
  (aK (bh (eE (br A1 hr ai (ac (pv 1) (ac (pv 2) ao))) (eT (bX bu (br A2 Ĵ ai (ac (pv 1) (ac (pv 2) ao))) au (av _))))))),?_⟩
 refine⟨_,rfl,_,_,_,_,rfl,rd.kd,rd.Rm,_,rfl,?_⟩;cases e:uZ d with
 | false =>
  refine cK (cK ?_);have z:dE d=false:=by cases d <;> first | rfl | cases e
  rw [z] at q;exact q
 | true =>
  obtain⟨ds,rfl⟩:∃ ds,d=.tuple ds:=by cases d <;> first | exact⟨_,rfl⟩ | cases e
  obtain⟨a,xs,rfl,ha,rs⟩:=cG rd;refine cJ ⟨_,rfl,a,_,rfl,.inr (č.of ha),rfl,_,rfl,?_⟩;have len:=rs.length;by_cases l2:xs.length=2
  ·obtain⟨u,v,rfl⟩:∃ u v,xs=[u,v]:=by
    match xs,l2 with
    | [u,v],_=>exact⟨u,v,rfl⟩
   cases rs with
   | cons r1 rs =>
    cases rs with
    | cons r2 rs =>
     cases rs;refine cJ ⟨_,rfl,a,_,rfl,č.of ha,rfl,_,_,rfl,_,_,rfl,rfl,?_⟩;refine⟨_,rfl,_,rfl,u,v,rfl,r1.th,r2.th,_,rfl,?_⟩;cases pv:jM u v with
     | false =>
      rw [nB r1 r2 pv] at q;exact cJ q
     | true =>
      obtain⟨x,y,rfl,rfl,y1,xy⟩:=tD pv;cases r1;cases r2;refine cK ⟨_,rfl,_,rfl,x,y,rfl,rfl,?_⟩;have q':Q (.bl ((decide ((1:Int)<=(y:Int))&&(decide ((0:Int)<=(x:Int))&&decide ((x:Int)<=(y:Int))))&&decide (Nat.gcd (x:Int).toNat (y:Int).toNat=1))) H:=q;rw [Ä (show(1:Int)<=(y:Int) by omega),Ä (show(0:Int)<=(x:Int) by omega),Ä (show(x:Int)<=(y:Int) by omega),Î,Î,Bool.and_self,Bool.and_self,Ĳ] at q'
      have ee:decide (V.int ((Nat.gcd x y:Nat):Int)=V.int 1)=decide (Nat.gcd x y=1):=by
       by_cases g:Nat.gcd x y=1
       ·rw [Ä g,g];rfl
       ·rw [Å g,Å];intro z;injection z with z
        omega
      rw [ee];exact q'
  ·have e1:(!decide (V.int (xs.length:Nat)=V.int 2))=true:=by
    rw [Å]
    ·rfl
    ·intro h;injection h with h
     omega
   rw [e1];refine cK ?_;have z:dE (.tuple ds)=false:=by
    match ds,len,l2 with
    | [],_,_=>rfl
    | [_],_,_=>simp [dE]
    | [_,_],l,n=>exact absurd l n
    | _::_::_::_,_,_=>simp [dE]
   rw [z] at q;exact q
abbrev F6:Stmt:=bw 32
def u8 (CN:Addr):Sp:=λ vs H Q E=>∃ x d lo hi,vs=[x,.int lo,.int hi]/\õ H x d/\(ib lo hi d=true->Q .ô H)/\(ib lo hi d=false->cz CN "found" x H E)
theorem FQ:ad ["thing","low","high"] ["thing","low","high"] (aa F6):=aF
theorem B2 {f a1 D CN fC:Addr}{fd d1 Ju:FuncData}(F:ė K "need_number" "need_number" F6 f fd) (B:Ī K D) (T:jq K mg D "NoNumber" "found" CN fC Ju) (A1:Df P w K mg base ay 2 "is_whole" ["thing","low","high"] (f9 K) a1 d1):Ò P w K mg base (bP P w) 3 f fd ["thing","low","high"] (u8 CN):=by
 refine fH F FQ λ cdv A outer s H vs Q E hr h=>?_;obtain⟨x,d,lo,hi,rfl,rd,q1,q2⟩:=h;refine⟨_,aK (aG (bD (bf (br A1 hr ai (ac (pv 0) (ac (pv 1) (ac (pv 2) ao)))))) (aK (cH B T.cls (T.ok P w base) hr T.bi rfl T.Kn (pv 0))) dm),?_⟩;refine⟨_,rfl,_,rfl,_,rfl,x,lo,hi,rfl,rd.th,_,rfl,?_⟩;rw [rd.Kq];cases e:ib lo hi d with
 | true=>exact cJ (q1 e)
 | false=>exact cK ⟨_,rfl,λ e' dx h1 h2 nd=>fv nd (q2 e e' dx h1 h2 nd)⟩
abbrev Gi:Stmt:=bw 33
def zx (CS:Addr):Sp:=λ vs H Q E=>∃ x d,vs=[x]/\õ H x d/\(cy d=true->Q .ô H)/\(cy d=false->cz CS "found" x H E)
theorem Gy:ad ["thing"] ["thing"] (aa Gi):=aF
theorem lw {d:PyData}(h:dE d=true):∃ a b,d=.tuple [.int a,.int b]:=by
 match d,h with
 | .tuple [.int a,.int b],_=>exact⟨a,b,rfl⟩
theorem EJ {f a1 a2 D CS fC:Addr}{fd d1 d2 Ju:FuncData}{t:Tok}(F:ė K "need_coin" "need_coin" Gi f fd) (B:Ī K D) (T:jq K mg D "NoShare" "found" CS fC Ju) (A1:Df P w K mg base ay 2 "is_whole" ["thing","low","high"] (f9 K) a1 d1) (A2:Df P w K mg base ay 4 "is_share" ["thing"] wT a2 d2) (mB:mg "MOST_BOTTOM" = some (.int 100 t)) :
  Ò P w K mg base (bP P w) 5 f fd ["thing"] (zx CS):=by
 refine fH F Gy λ cdv A outer s H vs Q E hr h=>?_;obtain⟨x,d,rfl,rd,q1,q2⟩:=h;have JA:î 2 _:=hr.mono ag;refine⟨_,aK (aG (PW.pt (gY (bD (bf (br A2 hr ai (ac (pv 0) ao)))) (fX (bD (bf (br A1 JA ai (ac (bC cZ (pv 0) au) (ac au (ac (bn (v:=.int 100) rfl mB ⟨_,rfl⟩) ao)))))))))
  (aK (cH B T.cls (T.ok P w base) JA T.bi rfl T.Kn (pv 0))) dm),?_⟩
 refine⟨_,rfl,x,d,rfl,rd,_,rfl,?_⟩;cases e:dE d with
 | false =>
  have z:cy d=false:=by
   match d,e with
   | .tuple [.int a,.int b],e=>show(dE (.tuple [.int a,.int b])&&_)=false;rw [e];rfl
   | .none,_ | .bool _,_ | .int _,_ | .str _,_ | .list _,_ | .dict _,_=>rfl
   | .tuple [],_=>rfl
   | .tuple [_],_=>simp [cy]
   | .tuple (_::_::_::_),_=>simp [cy]
   | .tuple [.int _,.none],_ | .tuple [.int _,.bool _],_ | .tuple [.int _,.str _],_ | .tuple [.int _,.list _],_ | .tuple [.int _,.tuple _],_ | .tuple [.int _,.dict _],_=>rfl
   | .tuple [.none,_],_ | .tuple [.bool _,_],_ | .tuple [.str _,_],_ | .tuple [.list _,_],_ | .tuple [.tuple _,_],_ | .tuple [.dict _,_],_=>rfl
  exact cK (cK ⟨_,rfl,λ e' dx h1 h2 nd=>fv nd (q2 z e' dx h1 h2 nd)⟩)
 | true =>
  obtain⟨a,b,rfl⟩:=lw e;obtain⟨p,xs,rfl,hp,rs⟩:=cG rd;cases rs with
  | cons r1 rs =>
   cases rs with
   | cons r2 rs =>
    cases rs;cases r1;cases r2;refine cJ ⟨_,rfl,p,_,_,_,rfl,rfl,č.of hp,fm (j:=1) rfl,_,2,100,rfl,.inl ⟨b,rfl⟩,_,rfl,?_⟩;have ec:cy (.tuple [.int a,.int b])=Kq 2 100 (.int b):=by
     show(dE (.tuple [.int a,.int b])&&(decide (2<=b)&&decide (b<=100)))=_;rw [e,Ĳ];rfl
    cases z:Kq 2 100 (.int b) with
    | true=>exact cJ (q1 (by rw [ec,z]))
    | false=>exact cK ⟨_,rfl,λ e' dx h1 h2 nd=>fv nd (q2 (by rw [ec,z]) e' dx h1 h2 nd)⟩
abbrev Gx:Stmt:=bw 34
def wr:Sp:=λ vs H Q _=>∃ i:Int,vs=[.int i]/\0<=i/\i<=20/\∀ l H',Ext H H'->õ H' (.ref l) (nP [xR 0 i.toNat])->Q (.ref l) H'
theorem Fz:ad ["folk"] ["folk"] (aa Gx):=aF
theorem D6 {f:Addr}{fd:FuncData}(F:ė K "one_part" "one_part" Gx f fd) (mt:mg "tuple" = none) (mr:mg "range" = none):Ò P w K mg base ay 1 f fd ["folk"] wr:=by
 refine bR F Fz λ cdv A outer s H vs Q E hr h=>?_;obtain⟨i,rfl,h1,h2,q⟩:=h;refine⟨_,aK (bh (aE (ac (bq (qx rfl) rfl mt Ĉ (ac (bq qp rfl mr PyProof.Rows.boot_range (ac (pv 0) ao)) ao)) ao))),?_⟩;refine⟨_,rfl,i,rfl,λ r hr=>⟨r,0,i,rfl,aQ,⟨ae,ae,ae,ae⟩,ae,λ l hl=>⟨dy,λ m hm=>?_⟩⟩⟩;have x2:=Ext.new (o:=.tup [.ref l]) hm;refine q m _ (((Ext.new hr).trans (Ext.new hl)).trans x2) (.tup aQ (.cons (.tup (x2 _ _ aQ) ?_) .nil));rw [Int.sub_zero,Bm];exact jw _ _
end
end My
namespace My
theorem oX {a b c:Nat}(h:Nat.Coprime a c)(k:Nat.Coprime b c):Nat.Coprime (a*b) c:=Nat.Coprime.mul_left h k
theorem jO {b d:Nat}(h:0<Nat.gcd b d):Nat.Coprime (b/Nat.gcd b d) (d/Nat.gcd b d):=Nat.coprime_div_gcd_div_gcd h
theorem iB {a b k:Nat}(h:Nat.Coprime a b)(hk:k ∣ b):Nat.Coprime a (b/k):=Nat.Coprime.coprime_dvd_right (Nat.div_dvd_of_dvd hk) h
theorem rN {a b c d:Nat}(b1:1<=b)(d1:1<=d)(Pi:Nat.gcd a b=1)(JZ:Nat.gcd c d=1) :
  (a/Nat.gcd a d*(c/Nat.gcd c b)=a*c/Nat.gcd (a*c) (b*d))/\(b/Nat.gcd c b*(d/Nat.gcd a d)=b*d/Nat.gcd (a*c) (b*d)):=by
 have l0:0<Nat.gcd a d:=Ĕ a d1;have r0:0<Nat.gcd c b:=Ĕ c b1;have ea:Nat.gcd a d*(a/Nat.gcd a d)=a:=ī (ú a d);have ed:Nat.gcd a d*(d/Nat.gcd a d)=d:=ī (ï a d);have ec:Nat.gcd c b*(c/Nat.gcd c b)=c:=ī (ú c b);have eb:Nat.gcd c b*(b/Nat.gcd c b)=b:=ī (ï c b);have p1:Nat.Coprime (a/Nat.gcd a d) (d/Nat.gcd a d):=jO (b:=a) (d:=d) l0;have p2:Nat.Coprime (c/Nat.gcd c b) (b/Nat.gcd c b):=jO (b:=c) (d:=b) r0;have p3:Nat.Coprime (a/Nat.gcd a d) (b/Nat.gcd c b):=(iB (Nat.Coprime.symm (iB (Nat.Coprime.symm Pi) (ú a d))) (ï c b));have p4:Nat.Coprime (c/Nat.gcd c b) (d/Nat.gcd a d):=(iB (Nat.Coprime.symm (iB (Nat.Coprime.symm JZ) (ú c b))) (ï a d));have e1:a*c=Nat.gcd a d*Nat.gcd c b*(a/Nat.gcd a d*(c/Nat.gcd c b)):=by
  conv=>lhs;rw [<- ea,<- ec]
  rw [E_,E_,Nat.mul_left_comm (a/Nat.gcd a d)]
 have e2:b*d=Nat.gcd a d*Nat.gcd c b*(b/Nat.gcd c b*(d/Nat.gcd a d)):=by
  conv=>lhs;rw [<- eb,<- ed]
  rw [Nat.mul_comm (Nat.gcd a d) (Nat.gcd c b),E_,E_,Nat.mul_left_comm (b/Nat.gcd c b)]
 have k:Nat.Coprime (a/Nat.gcd a d*(c/Nat.gcd c b)) (b/Nat.gcd c b*(d/Nat.gcd a d)):=Nat.Coprime.mul_right (oX p3 p2) (oX p1 p4);have g:Nat.gcd (a*c) (b*d)=Nat.gcd a d*Nat.gcd c b:=by
  rw [e1,e2,Nat.gcd_mul_left,k,Nat.mul_one]
 rw [g];have lr:0<Nat.gcd a d*Nat.gcd c b:=Nat.mul_pos l0 r0;constructor
 ·conv=>rhs;rw [e1]
  exact(Mw _ lr).symm
 ·conv=>rhs;rw [e2]
  exact(Mw _ lr).symm
end My
namespace My
open PySem PySem.W L2
abbrev TJ:=Str->St->Hp->(Str->Hp->Prop)->Prop
def kE (K:Frag)(a:Addr)(xs:List V):Prop:=∃(o:Obj)(its:Array Value)(n:Nat),K.lookup a=some o/\o.cls=.type "tuple" /\ o.data=.seq its n/\its.size<=sizeLine/\Vals xs its.toList
def oD:Option Nat->PyData
 | some n=>.int n
 | none=>.none
theorem w5 (a b c d:Nat):fZ [.int a,.int b] [.int c,.int d]=(decide (a=c)&&decide (b=d)):=by
 show(((a:Int)==(c:Int))&&(((b:Int)==(d:Int))&&true))=_;rw [Bool.and_true,Ł,ğ,ğ,Ą,Ą,ă,ă];omega
structure Fk (K:Frag)(mg:aX)(n0 n1:Addr):Prop where
 m0:mg "NONE" = some (.ref n0)
 m1:mg "ALL" = some (.ref n1)
 t0:kE K n0 [.int (0:Nat),.int (1:Nat)]
 t1:kE K n1 [.int (1:Nat),.int (1:Nat)]
section
variable {P:Program}{w:World}{K:Frag}{mg:aX}{base:Heap}
def Sz (n:Nat):Prop:=n<2^8999
theorem Sz.log {n:Nat}(h:Sz n):((n:Nat):Int).natAbs.log2<9000:=by
 rw [ŭ];by_cases z:n=0
 ·rw [z];decide
 ·exact(J' z).mpr (ļ h (Nat.pow_lt_pow_right ag ag))
theorem Sz.mono {m n:Nat}(h:Sz n)(e:m<=n):Sz m:=Ń e h
theorem ik {n:Nat}{k:Nat}(h:n<2^k):Builtin.Int.intBits ((n:Nat):Int)<=k:=by
 unfold Builtin.Int.intBits;split
 ·exact Ź _
 ·rename_i hz
  have hn:n≠0:=λ e=>by subst e;exact hz rfl
  have:n.log2<k:=(J' hn).mpr h;rw [ŭ];omega
theorem ui (n:Nat):Builtin.Int.intBits (-(n:Int))=Builtin.Int.intBits ((n:Nat):Int):=by
 unfold Builtin.Int.intBits;by_cases z:n=0
 ·subst z;rfl
 ·rw [Ì (by simp;omega),Ì (by simp;omega),Int.natAbs_neg]
theorem gm {m n:Nat}(h:Sz m)(k:Sz n):LH ((m:Nat):Int) ((n:Nat):Int):=by
 have h1:=ik h;have h2:=ik k;show _+_<=1000000;omega
def HB (C:Int)(c:Nat):Prop:=C=(c:Int)\/C = -(c:Int)
theorem Ii {C:Int}{c n:Nat}(s:HB C c)(h:Sz c)(k:Sz n):LH C ((n:Nat):Int):=by
 have h1:=ik h;have h2:=ik k;show _+_<=1000000;rcases s with rfl | rfl
 ·omega
 ·rw [ui];omega
abbrev Am:Stmt:=bw 22
def w4 (K:Frag):Sp:=λ vs H Q _=>∃(p:Addr)(a b c d W:Nat)(C:Int),vs=[.ref p,.int C,.int d]/\č K H p [.int a,.int b]/\HB C c/\Sz a/\Sz b/\Sz c/\Sz d/\1<=b/\1<=d /\
 (a:Int)*((d/Nat.gcd b d:Nat):Int)+C*((b/Nat.gcd b d:Nat):Int)=(W:Int)/\∀ r,H r=none->Q (.ref r) (aj H r (.tup [.int (W/Nat.gcd W (Nat.gcd b d):Nat),.int (b/Nat.gcd b d*(d/Nat.gcd W (Nat.gcd b d)):Nat)]))
theorem MK:ad ["one","top","bottom","common","whole","struck"] ["one","top","bottom"] (aa Am):=aF
theorem zp {f g:Addr}{fd gd:FuncData}(F:ė K "added" "added" Am f fd) (G:Ò P w K mg base ay 1 g gd ["one","other"] kX) (bG:Binds K gd ["one","other"] []) (kG:keepIn K (.ref g)=true) (mG:mg "greatest_common" = some (.ref g)):Ò P w K mg base ay 2 f fd ["one","top","bottom"] (w4 K):=by
 refine F.ok MK (λ vs H Q E h=>?_) (λ cdv A outer s H vs Q E hr h=>?_)
 ·obtain⟨p,a,b,c,d,W,C,rfl,_⟩:=h;rfl
 obtain⟨p,a,b,c,d,W,C,rfl,hp,sg,sa,sb,sc,sd,b1,d1,hW,q⟩:=h;have nd:=MK.nd;refine⟨_,ba (dq (i:=3) nd rfl (Or.inl rfl) (nq G hr rfl mG kG bG .nil ai (ac (bC cZ (pv 0) au) (ac (pv 2) ao))))
  (ba (dq (i:=4) nd rfl (Or.inl rfl) (af aM (af eW (bC cZ (pv 0) au) (af cA (pv 2) (pv 3))) (af eW (pv 1) (af cA (bC cZ (pv 0) au) (pv 3)))))
  (ba (dq (i:=5) nd rfl (Or.inl rfl) (nq G hr rfl mG kG bG .nil ai (ac (pv 4) (ac (pv 3) ao))))
  (aK (bh (aE (ac (af cA (pv 4) (pv 5)) (ac (af eW (af cA (bC cZ (pv 0) au) (pv 3)) (af cA (pv 2) (pv 5))) ao))))))),?_⟩
 have g0:0<Nat.gcd b d:=Θ d b1;have QH:Sz (Nat.gcd b d):=sb.mono (Ŀ b1 (ú b d));have gi:mQ ((d:Nat):Int) ((Nat.gcd b d:Nat):Int):=⟨ae,QH.log⟩;have gj:mQ ((b:Nat):Int) ((Nat.gcd b d:Nat):Int):=⟨ae,QH.log⟩;have e1:((d:Int)/((Nat.gcd b d:Nat):Int))=((d/Nat.gcd b d:Nat):Int):=by simp
 have e2:((b:Int)/((Nat.gcd b d:Nat):Int))=((b/Nat.gcd b d:Nat):Int):=by simp
 have Wp:Sz (d/Nat.gcd b d):=sd.mono (Ď _ _);have SL:Sz (b/Nat.gcd b d):=sb.mono (Ď _ _);refine⟨_,rfl,p,_,_,_,rfl,rfl,hp,rfl,_,rfl,b,d,rfl,?_⟩;refine⟨_,rfl,p,_,_,_,rfl,rfl,hp,rfl,_,rfl,_,rfl,_,_,rfl,rfl,gi,_,_,rfl,rfl,by rw [e1];exact gm sa Wp,?_⟩
 refine⟨_,rfl,_,rfl,p,_,_,_,rfl,rfl,hp,rfl,_,rfl,_,_,rfl,rfl,gj,_,_,rfl,rfl,by rw [e2];exact Ii sg sc SL,_,_,rfl,rfl,?_⟩
 show(az _ _) _ [some (.ref p),some (.int C),some (.int d),some (.int (Nat.gcd b d:Nat)),some (.int ((a:Int)*((d:Int)/((Nat.gcd b d:Nat):Int))+C*((b:Int)/((Nat.gcd b d:Nat):Int)))),none] H;rw [e1,e2,hW];have s0:0<Nat.gcd W (Nat.gcd b d):=Ĕ W g0;have ss:Sz (Nat.gcd W (Nat.gcd b d)):=QH.mono (Ŀ g0 (ï W _));have gs:∀ n:Nat,mQ ((n:Nat):Int) ((Nat.gcd W (Nat.gcd b d):Nat):Int):=λ n=>⟨ae,ss.log⟩;have e3:((W:Int)/((Nat.gcd W (Nat.gcd b d):Nat):Int))=((W/Nat.gcd W (Nat.gcd b d):Nat):Int):=by simp
 have e4:((d:Int)/((Nat.gcd W (Nat.gcd b d):Nat):Int))=((d/Nat.gcd W (Nat.gcd b d):Nat):Int):=by simp
 refine⟨_,rfl,_,rfl,W,Nat.gcd b d,rfl,?_⟩;refine⟨_,rfl,_,rfl,_,_,rfl,rfl,gs W,_,rfl,p,_,_,_,rfl,rfl,hp,rfl,_,rfl,_,_,rfl,rfl,gj,_,rfl,_,rfl,_,_,rfl,rfl,gs d,_,_,rfl,rfl,by rw [e2,e4];exact gm SL (sd.mono (Ď _ _)),dy,λ r hr=>?_⟩
 have:=q r hr;rw [Ş,<- e2,<- e3,<- e4] at this;exact this
abbrev Aq:Stmt:=bw 25
def xO (K:Frag):Sp:=λ vs H Q _=>∃(p r:Addr)(a b c d:Nat),vs=[.ref p,.ref r]/\č K H p [.int a,.int b]/\č K H r [.int c,.int d]/\Sz a/\Sz b/\Sz c/\Sz d/\Q (.bl (decide (a*d<c*b))) H
theorem BZ:ad ["one","other"] ["one","other"] (aa Aq):=aF
theorem yG {f:Addr}{fd:FuncData}(F:ė K "less_share" "less_share" Aq f fd):Ò P w K mg base ay 1 f fd ["one","other"] (xO K):=by
 refine F.ok BZ (λ vs H Q E h=>?_) (λ cdv A outer s H vs Q E hr h=>?_)
 ·obtain⟨p,r,a,b,c,d,rfl,_⟩:=h;rfl
 obtain⟨p,r,a,b,c,d,rfl,hp,Kv,sa,sb,sc,sd,q⟩:=h;refine⟨_,aK (bh (bX ut (af eW (bC cZ (pv 0) au) (bC cZ (pv 1) au)) (af eW (bC cZ (pv 1) au) (bC cZ (pv 0) au)) (av _))),?_⟩;refine⟨_,rfl,p,_,_,_,rfl,rfl,hp,rfl,_,rfl,r,_,_,_,rfl,rfl,Kv,rfl,_,_,rfl,rfl,gm sa sd,?_⟩;refine⟨_,rfl,r,_,_,_,rfl,rfl,Kv,rfl,_,rfl,p,_,_,_,rfl,rfl,hp,rfl,_,_,rfl,rfl,gm sc sb,_,_,rfl,rfl,?_⟩;have e:decide ((a:Int)*(d:Int)<(c:Int)*(b:Int))=decide (a*d<c*b):=by
  rw [Ł,ă,ă];rw [<- Ş,<- Ş];omega
 show Q (.bl (decide ((a:Int)*(d:Int)<(c:Int)*(b:Int)))) H;rw [e];exact q
end
theorem i3:∀{names:List (Str × NameKind)},(∀ y∈names,y.2 ≠ .cell)->∀(n:Nat) acc,cellsFrom n names acc=acc
 | [],_,_,_=>rfl
 | (x,k)::r,h,n,acc=>by
  unfold cellsFrom;rw [Ì (by simpa using h (x,k) (List.mem_cons_self ..))]
  exact i3 (λ y m=>h y (ä _ m)) n acc
theorem jy:∀{cl:List (Str × Addr)}{z:Str},z∈cl.map (·.1)->∃ c,cl.lookup z=some c
 | (x,d)::cl,z,h=>by
  by_cases e:z=x
  ·subst e;exact⟨d,gw⟩
  ·rw [Ė,ß] at h;rcases h with h | h
   ·exact absurd h e
   ·obtain⟨c,hc⟩:=jy h;exact⟨c,uP e hc⟩
theorem gP {X:Cx}{sc:Scope}{cl:List (Str × Addr)}{ts zs:List Str}{js:List Nat}{M:List Str}{L:List (Str × NameKind)}(J4:closureFor sc X.env=pure cl)(kind:sc.kind=.function)(nc:∀ y∈sc.names,y.2 ≠ .cell)(nm:∀ y∈sc.names,y.2=.local->sc.names.lookup y.1=some .local)(var:∀ x∈ts,sc.names.lookup x=some .local)
  (hM:cl.map (·.1)=M) (hc:cl.map (λ y=>X.env.cells.lookup y.1)=cl.map (λ y=>some y.2)) (rl:(relabel sc X.env).names=L) (has:∀ y∈L,(y.2=.cell\/y.2=.free)->y.1∈M) (nd:(ts++zs).Nodup)
  (hj:zs.map some=js.map (λ j=>X.N[j]?)) (hv:zs.map (λ z=>X.env.scope.names.lookup z)=zs.map (λ _=>some .cell)) (hl:zs.map (λ z=>L.lookup z)=zs.map (λ _=>some .cell)):dP X sc cl ts zs js:=by
 have ln:js.length=zs.length:=by have:=ĭ List.length hj;simpa using this.symm
 refine⟨J4,kind,(λ C=>i3 nc C _),nm,(λ _ z=>nomatch z),λ z c h=>?_,λ z h=>.inr ?_,nd,λ k z h=>?_,ln⟩
 ·obtain⟨i,hi,e⟩:=Ĭ (ç h);have q:=ĭ (λ l=>l[i]?) hc;simp only [List.getElem?_map,List.getElem?_eq_getElem hi,e,Option.map_some] at q;exact Ó q
 ·rw [rl] at h;refine jy ?_;rw [hM];rcases h with h | h
  ·exact has _ (ç h) (.inl rfl)
  ·exact has _ (ç h) (.inr rfl)
 ·have hk:k<zs.length:=(É.mp h).1;have Pd:k<js.length:=by rw [ln];exact hk
  have q:=ĭ (λ l=>l[k]?) hj;simp only [List.getElem?_map,h,List.getElem?_eq_getElem Pd,Option.map_some] at q;have v:=ĭ (λ l=>l[k]?) hv;simp only [List.getElem?_map,h,Option.map_some] at v;have u:=ĭ (λ l=>l[k]?) hl;simp only [List.getElem?_map,h,Option.map_some] at u;have v':X.env.scope.names.lookup z=some .cell:=Ó v;refine⟨js[k],Á Pd,(Ó q).symm,.inr (.inl v'),λ e=>?_,.inl (by rw [rl];exact Ó u)⟩
  have e':X.env.scope.names.lookup z=some .local:=e;rw [v'] at e';cases e'
theorem n8 {X:Cx}{sc:Scope}{ts:List Str}{z0:Str}{c0:Addr}{j:Nat}{L:List (Str × NameKind)}(J4:closureFor sc X.env=pure [(z0,c0)])(kind:sc.kind=.function)(nc:∀ y∈sc.names,y.2 ≠ .cell)(nm:∀ y∈sc.names,y.2=.local->sc.names.lookup y.1=some .local)(var:∀ x∈ts,sc.names.lookup x=some .local)
  (hc:X.env.cells.lookup z0=some c0) (rl:(relabel sc X.env).names=L) (has:∀ y∈L,(y.2=.cell\/y.2=.free)->y.1=z0) (nd:(ts ++ [z0]).Nodup) (hj:X.N[j]?=some z0) (Wc:Ev X.env.scope z0) (nl:X.env.kindOf z0≠some .local) (cf:L.lookup z0=some .cell\/L.lookup z0=some .free):dP X sc [(z0,c0)] ts [z0] [j]:=by
 refine⟨J4,kind,(λ C=>i3 nc C _),nm,(λ _ z=>nomatch z),λ z c h=>?_,λ z h=>.inr ?_,nd,λ k z h=>?_,rfl⟩
 ·rw [Ċ] at h;cases e:z==z0 with
  | true=>rw [e] at h;cases h;rw [Ą.mp e];exact hc
  | false=>rw [e] at h;cases h
 ·rw [rl] at h;have:z=z0:=by
   rcases h with h | h
   ·exact has _ (ç h) (.inl rfl)
   ·exact has _ (ç h) (.inr rfl)
  subst this;exact⟨c0,gw⟩
 ·match k,h with
  | 0,h =>
   cases (show some z0=some z from h);exact⟨j,rfl,hj,Wc,nl,by rw [rl];exact cf⟩
  | k+1,h=>simp at h
theorem nQ {X:Cx}{sc:Scope}{ts:List Str}{L:List (Str × NameKind)}(J4:closureFor sc X.env=pure [])(kind:sc.kind=.function)(nc:∀ y∈sc.names,y.2 ≠ .cell)(nm:∀ y∈sc.names,y.2=.local->sc.names.lookup y.1=some .local)(var:∀ x∈ts,sc.names.lookup x=some .local)
  (rl:(relabel sc X.env).names=L) (has:∀ y∈L,¬(y.2=.cell\/y.2=.free)) (nd:(ts ++ []).Nodup):dP X sc [] ts [] [] :=
 gP (M:=[]) J4 kind nc nm var rfl rfl rl (λ y h e=>absurd e (has y h)) nd rfl rfl rfl
section
variable {P:Program}{w:World}{K:Frag}{mg:aX}{base:Heap}{C:Nat->Addr}{CR:Addr}
abbrev yz:Stmt:=aB (bw 36) 0
abbrev zT:Stmt:=aB (bw 36) 1
abbrev z9:Stmt:=aB (bw 36) 2
abbrev AU:Stmt:=aB (bw 36) 4
abbrev yr:Stmt:=aB (bw 36) 5
def fS (v1 v2 v3 v4:V)(fs:List (Str × V)):List (Str × V):=aO "parts" v4 (aO "mark" v3 (aO "first_state" v2 (aO "size" v1 fs)))
def pd (C:Nat->Addr):Sp:=λ vs H Q _=>∃ x v1 v2 v3 v4 i dx fs,vs=[.ref x,v1,v2,v3,v4]/\i<3/\H x=some (.ins (C i) dx fs)/\fs.length<=5/\Q .ô (aj H x (.ins (C i) dx (fS v1 v2 v3 v4 fs)))
theorem BL:ad ["self","size","first_state","mark","parts"] ["self","size","first_state","mark","parts"] (aa yz):=aF
theorem cW (f:Str)(v:V):∀ fs:List (Str × V),(aO f v fs).length<=fs.length+1
 | []=>Ç _
 | (g,x)::r=>by
  have:=cW f v r;show(if g=f then(g,v)::r else(g,x)::aO f v r).length<=_
  split <;> simp only [List.length_cons] <;> omega
theorem yB {f:Addr}{fd:FuncData}(Z:KR K C CR)(F:ė K "__init__" "Rule.__init__" yz f fd):Ò P w K mg base ay 1 f fd ["self","size","first_state","mark","parts"] (pd C):=by
 refine bR F BL λ cdv A outer s H vs Q E hr h=>?_;obtain⟨x,v1,v2,v3,v4,i,dx,fs,rfl,hi,hx,l5,q⟩:=h;refine⟨_,ba (cR (pv 0) (pv 1) rfl) (ba (cR (pv 0) (pv 2) rfl) (ba (cR (pv 0) (pv 3) rfl) (aK (cR (pv 0) (pv 4) rfl)))),?_⟩;have c:=Z.cls i hi;have n:=Z.no i hi;have k1:=cW "size" v1 fs;have k2:=cW "first_state" v2 (aO "size" v1 fs);have k3:=cW "mark" v3 (aO "first_state" v2 (aO "size" v1 fs));refine⟨_,rfl,_,rfl,x,C i,dx,fs,rfl,hx,c,n _ aA,ae,?_⟩;refine⟨_,rfl,_,rfl,x,C i,dx,_,rfl,aQ,c,n _ aA,ae,?_⟩;rw [eN];refine⟨_,rfl,_,rfl,x,C i,dx,_,rfl,aQ,c,n _ aA,ae,?_⟩;rw [eN];refine⟨_,rfl,_,rfl,x,C i,dx,_,rfl,aQ,c,n _ aA,ae,?_⟩;rw [eN];exact q
def kh (C:Nat->Addr):Sp:=λ vs H Q _=>∃ v t,vs=[v]/\Ru C H t v/\Q (.int t.ë) H
theorem B9:ad ["self"] ["self"] (aa zT):=aF
theorem zH {f:Addr}{fd:FuncData}(Z:KR K C CR)(F:ė K "folk" "Rule.folk" zT f fd):Ò P w K mg base ay 1 f fd ["self"] (kh C):=by
 refine bR F B9 λ cdv A outer s H vs Q E hr h=>?_;obtain⟨v,t,rfl,ru,q⟩:=h;obtain⟨a,dx,fs,rfl,ha,h1,_⟩:=ru.ob.ex;exact⟨_,aK (bh (uD (pv 0) rfl)),_,rfl,a,_,dx,fs,_,rfl,ha,Z.cls _ t.Į,Z.no _ t.Į _ aA,h1,q⟩
def iw (C:Nat->Addr):Sp:=λ vs H Q _=>∃ v t G,vs=[v]/\Ext G H/\Ru C G t v/\∀ b,õ G b t.begin->Q b H
theorem EZ:ad ["self"] ["self"] (aa z9):=aF
theorem zU {f:Addr}{fd:FuncData}(Z:KR K C CR)(F:ė K "begin" "Rule.begin" z9 f fd):Ò P w K mg base ay 1 f fd ["self"] (iw C):=by
 refine bR F EZ λ cdv A outer s H vs Q E hr h=>?_;obtain⟨v,t,G,rfl,xG,ru,q⟩:=h;obtain⟨a,dx,fs,rfl,ha,_,⟨b,h2,r2⟩,_⟩:=ru.ob.ex;exact⟨_,aK (bh (uD (pv 0) rfl)),_,rfl,a,_,dx,fs,_,rfl,xG _ _ ha,Z.cls _ t.Į,Z.no _ t.Į _ aA,h2,q b r2⟩
def mT (C:Nat->Addr):Sp:=λ vs H Q _=>∃ v t G,vs=[v]/\Ext G H/\Ru C G t v/\∀ b,õ G b t.told->Q b H
theorem BV:ad ["self"] ["self"] (aa AU):=aF
theorem yn {f:Addr}{fd:FuncData}(Z:KR K C CR)(F:ė K "told" "Rule.told" AU f fd):Ò P w K mg base ay 1 f fd ["self"] (mT C):=by
 refine bR F BV λ cdv A outer s H vs Q E hr h=>?_;obtain⟨v,t,G,rfl,xG,ru,q⟩:=h;obtain⟨a,dx,fs,rfl,ha,_,_,⟨b,h2,r2⟩,_⟩:=ru.ob.ex;exact⟨_,aK (bh (uD (pv 0) rfl)),_,rfl,a,_,dx,fs,_,rfl,xG _ _ ha,Z.cls _ t.Į,Z.no _ t.Į _ aA,h2,q b r2⟩
def uy (C:Nat->Addr):Sp:=λ vs H Q _=>∃ v t,vs=[v]/\Ru C H t v/\t.parts.length<=20/\(∀ p∈t.parts,p.length<=20)/\∀(l:Addr)(bs:List Addr)(H':Hp),Ext H H'->H l=none->H' l=some (.lst (bs.map V.ref))->l ∉ bs->(∀ b∈bs,H b=none)->bs.length=t.parts.length->(∀(i:Nat) b p,bs[i]?=some b->t.parts[i]?=some p->H' b=some (.lst (p.map V.int)))->Q (.ref l) H'
theorem Dc:ad ["self"] ["self"] (aa yr):=aF
abbrev zG:Scope:=ij [("part",.local),("list",.globalImplicit)]
theorem Eo {X:Cx}:dP X zG [] ["part"] [] [] :=
 nQ (L:=[(".0",.local),("part",.local),("list",.globalImplicit)]) rfl rfl aA aA aA rfl aA aA
theorem Iq:((["part"]:List Str)++([]:List Str)).Nodup:=aA
def vz (K:Frag):List V->Hp->VK->Prop:=λ xs H Q=>∃ p ys,xs=[.ref p]/\(ÿ K H p ys\/č K H p ys)/\∀ l,H l=none->Q (.ref l) (aj H l (.lst ys))
theorem yQ {f:Addr}{fd:FuncData}(Z:KR K C CR)(F:ė K "blocks" "Rule.blocks" yr f fd) (ml:mg "list" = none):Ò P w K mg base ay 1 f fd ["self"] (uy C):=by
 refine bR F Dc λ cdv A outer s H vs Q E hr h=>?_;obtain⟨v,t,rfl,ru,L9,SU,q⟩:=h;obtain⟨a,dx,fs,rfl,ha,_,_,_,⟨b,h2,r2⟩,_⟩:=ru.ob.ex;refine⟨_,aK (bh (eQ (te:=nu (vz K) (aw (aq 0) aP)) (g:=be 0) rfl Eo (Bt (uD (pv 0) rfl)) (λ s H C fp=>by exact cT (i:=0) Iq rfl (.inl rfl)) (λ s H C fp=>by exact bq j7 rfl ml Υ (ac (pv 0) ao)))),?_⟩
 obtain⟨p,xs,rfl,hp,rs⟩:=cG r2;have lx:=rs.length;rw [Æ] at lx;refine⟨_,rfl,a,_,dx,fs,_,rfl,ha,Z.cls _ t.Į,Z.no _ t.Į _ aA,h2,p,rfl,⟨_,č.of hp⟩,λ D hD=>?_⟩;refine vM (a:=p) (xs:=xs) (λ i ys H'=>Ext H H'/\∃ bs:List Addr,ys=bs.map V.ref/\D ∉ bs/\(∀ b∈bs,H b=none)/\∀(j:Nat) b q,bs[j]?=some b->t.parts[j]?=some q->H' b=some (.lst (q.map V.int))) (by rw [Ø];omega) ⟨Ext.new hD,[],rfl,by simp,by simp,by simp⟩ (λ i ys H' pv=>č.of (pv.1 _ _ hp)) ?_ ?_
 ·rintro i x ys H' ex ly ρ ⟨x',bs,rfl,nD,fr,ct⟩ os Ŵ R k;obtain⟨o0,rfl⟩:∃ o0,os=[o0]:=by
   match os,Ŵ with
   | [o0],_=>exact⟨o0,rfl⟩
  have hi:i<t.parts.length:=by have:=(É.mp ex).1;omega
  obtain⟨c,rfl,hc⟩:=ua rs ex (Á hi);refine⟨⟨[some (.ref c)],rfl,rfl⟩,_,rfl,c,_,rfl,.inr (č.of (x' _ _ hc)),λ m hm=>?_⟩;have x2:=Ext.new (o:=.lst ((t.parts[i]).map V.int)) hm;have nm:m≠D:=λ e=>by rw [e,ρ] at hm;cases hm
  have Lx:H m=none:=by
   cases e:H m with
   | none=>rfl
   | some o=>rw [x' _ _ e] at hm;cases hm
  have Jb:=x2 _ _ ρ;have lb:bs.length=i:=by rw [Æ] at ly;exact ly
  refine k _ _ Jb ⟨bV _ (x'.trans x2) hD,bs ++ [m],by rw [á];rfl,?_,λ b hb=>?_,λ j b q hb hq=>?_⟩
  ·intro RG;rcases Ă.mp RG with h | h
   ·exact nD h
   ·exact nm (Ð.mp h).symm
  ·rcases Ă.mp hb with h | h
   ·exact fr b h
   ·rw [Ð.mp h];exact Lx
  ·rcases Ľ j bs.length with lt | ge
   ·rw [Ÿ lt] at hb;have nb:b≠D:=λ e=>nD (e ▸ ê hb);rw [ah nb];exact x2 _ _ (ct j b q hb hq)
   ·rw [Ĺ ge] at hb;have j0:j=bs.length:=by
     rcases Ľ (j-bs.length) 1 with z | z
     ·omega
     ·rw [List.getElem?_eq_none (by simpa using z)] at hb;cases hb
    subst j0;rw [Nat.sub_self] at hb;cases hb;rw [lb,Á hi] at hq;cases hq;rw [ah nm];exact aQ
 ·rintro ys H' ly ρ ⟨x',bs,rfl,nD,fr,ct⟩;rw [Æ] at ly;exact q D bs H' x' hD ρ nD fr ae ct
end
structure Ms (P:Program)(w:World)(K:Frag)(mg:aX)(base:Heap)(C:Nat->Addr):Prop where
 ë:bL P w K mg base ay 1 "folk" ["self"] (pO C) (λ _=>kh C)
 begin:bL P w K mg base ay 1 "begin" ["self"] (pO C) (λ _=>iw C)
 told:bL P w K mg base ay 1 "told" ["self"] (pO C) (λ _=>mT C)
 blocks:bL P w K mg base ay 1 "blocks" ["self"] (pO C) (λ _=>uy C)
theorem cr {f g:Str}{v:V}{fs:List (Str × V)}:(aO f v fs).lookup g=if g=f then some v else fs.lookup g:=fB f g v fs
section
variable {v1 v2 v3 v4:V}{fs:List (Str × V)}
theorem pV:(fS v1 v2 v3 v4 fs).lookup ("size" : Str)=some v1:=by
 unfold fS;rw [cr,Ì aA,cr,Ì aA,cr,Ì aA,cr,Ï rfl]
theorem rh:(fS v1 v2 v3 v4 fs).lookup ("first_state" : Str)=some v2:=by
 unfold fS;rw [cr,Ì aA,cr,Ì aA,cr,Ï rfl]
theorem qc:(fS v1 v2 v3 v4 fs).lookup ("mark" : Str)=some v3:=by
 unfold fS;rw [cr,Ì aA,cr,Ï rfl]
theorem mX:(fS v1 v2 v3 v4 fs).lookup ("parts" : Str)=some v4:=by
 unfold fS;rw [cr,Ï rfl]
theorem eR {g:Str}(h:g ≠ "size" /\ g ≠ "first_state" /\ g ≠ "mark" /\ g ≠ "parts"):(fS v1 v2 v3 v4 fs).lookup g=fs.lookup g:=by
 unfold fS;rw [cr,Ì h.2.2.2,cr,Ì h.2.2.1,cr,Ì h.2.1,cr,Ì h.1]
theorem sf {g:Str}(h:g∈fY):g ≠ "size" /\ g ≠ "first_state" /\ g ≠ "mark" /\ g ≠ "parts" := by
 have:∀ g∈fY,g ≠ "size" /\ g ≠ "first_state" /\ g ≠ "mark" /\ g ≠ "parts" := aA;exact this g h
theorem zX {g:Str}{ns:List Str}(h:g∈fY)(hn:∀ n∈fs.map (·.1),n∈fq):fs.lookup g=none:=by
 have nf:∀ g∈fY,∀ n∈fq,g≠n:=aA;cases e:fs.lookup g with
 | none=>rfl
 | some v =>
  exfalso;have:∀(l:List (Str × V)),l.lookup g=some v->g∈l.map (·.1):=by
   intro l
   induction l with
   | nil=>intro h;cases h
   | cons y l ih =>
    intro h;obtain⟨k,x⟩:=y;rw [Ċ] at h;cases e:g==k with
    | true=>rw [Ą.mp e];exact ø ..
    | false=>rw [e] at h;exact ä _ (ih h)
  exact nf g h g (hn g (this fs e)) rfl
theorem kJ {Cl a dx:Addr}{H:Hp}{fk:Int}{bg tl pt:PyData}{X:List (Str × V)->Prop}(ha:H a=some (.ins Cl dx (fS (.int fk) v2 v3 v4 fs)))(r2:õ H v2 bg)(r3:õ H v3 tl)(r4:õ H v4 pt)(hn:∀ n∈fs.map (·.1),n∈fq)(hx:X (fS (.int fk) v2 v3 v4 fs)):Ob Cl H (.ref a) fk bg tl pt X :=
 ⟨a,dx,_,rfl,ha,pV,⟨_,rh,r2⟩,⟨_,qc,r3⟩,⟨_,mX,r4⟩,λ m hm=>by rw [eR (sf hm)];exact zX (ns:=[]) hm hn,hx⟩
end
section
variable {P:Program}{w:World}{K:Frag}{mg:aX}{base:Heap}{C:Nat->Addr}{CR CN CS:Addr}
abbrev zd:Stmt:=aB (bw 37) 0
abbrev zn:Stmt:=aB (bw 38) 0
abbrev yS:Stmt:=aB (bw 39) 0
def oF (C:Nat->Addr)(CN:Addr):Sp:=λ vs H Q E=>∃ x u1 u2 d1 d2 dx,vs=[.ref x,u1,u2]/\H x=some (.ins (C 0) dx [])/\õ H u1 d1/\õ H u2 d2/\(ib 1 20 d1=false->cz CN "found" u1 H E)/\(∀ n,d1=.int n->1<=n->n<=20->ib 0 n d2=false->cz CN "found" u2 H E) /\
 ∀ n k,d1=.int n->d2=.int k->(R0.split n k).ok->∀ H',Kept H H' x->M0 C H' (.split n k) (.ref x)->Q .ô H'
theorem DZ:ad ["self","folk","ones"] ["self","folk","ones"] (aa zd):=aF
variable {S g a1 a2 a3:Addr}{gd d1 d2 d3:FuncData}{t:Tok}
theorem zh {f:Addr}{fd:FuncData}(F:ė K "__init__" "Split.__init__" zd f fd) (Cf:fV K S "__init__" g) (G:Ò P w K mg base ay 1 g gd ["self","size","first_state","mark","parts"] (pd C)) (bG:Binds K gd ["self","size","first_state","mark","parts"] []) (mS:mg "Rule" = some (.ref S))
  (A1:Df P w K mg base (bP P w) 3 "need_number" ["thing","low","high"] (u8 CN) a1 d1) (A2:Df P w K mg base ay 1 "one_part" ["folk"] wr a2 d2) (mF:mg "MOST_FOLK" = some (.int 20 t)):Ò P w K mg base (bP P w) 4 f fd ["self","folk","ones"] (oF C CN):=by
 refine fH F DZ λ cdv A outer s H vs Q E hr h=>?_;obtain⟨x,u1,u2,e1,e2,dx,rfl,hx,r1,r2,q1,q2,q⟩:=h;have Ĵ:î 1 _:=hr.mono ag;refine⟨_,ba (ax (br A1 hr bQ (ac (pv 1) (ac au (ac (bn (v:=.int 20) rfl mF ⟨_,rfl⟩) ao))))) (ba (ax (br A1 hr bQ (ac (pv 2) (ac au (ac (pv 1) ao)))))
  (aK (ax (cc Cf G Ĵ rfl mS bG .nil ai (ac (pv 0) (ac (pv 1) (ac (pv 2) (ac (aE (ac cL (ac (pv 1) (ac (pv 2) ao)))) (ac (br A2 Ĵ ai (ac (pv 1) ao)) ao))))))))),?_⟩
 refine⟨_,rfl,u1,e1,1,20,rfl,r1,λ h1=>?_,λ h1=>q1 h1⟩;obtain⟨n,rfl,n1,MP⟩:=eP h1;cases r1;refine⟨_,rfl,_,rfl,u2,e2,0,n,rfl,r2,λ h2=>?_,λ h2=>q2 n rfl n1 MP h2⟩;obtain⟨k,rfl,k0,kn⟩:=eP h2;cases r2;refine⟨_,rfl,_,rfl,_,rfl,_,rfl,_,rfl,dy,λ m hm=>⟨_,rfl,n,rfl,ae,MP,λ l H2 x2 rl=>?_⟩⟩;have xm:=Ext.new (o:=.tup [.str "split",.int n,.int k]) hm;have ņ:=xm.trans x2;have Lw:=x2 _ _ (show aj H m (.tup [.str "split",.int n,.int k]) m=_ from aQ);have JW:=ņ _ _ hx;refine⟨x,_,_,_,_,0,dx,[],rfl,ag,JW,ag,q n k rfl rfl ⟨n1,MP,k0,kn⟩ _ ((ņ.kept x).trans (bA _)) ?_⟩;have kk:Kept H2 (aj H2 x (.ins (C 0) dx (fS (.int n) (.int k) (.ref m) (.ref l) []))) x:=bA _;exact kJ aQ (.int _) ((õ.tup Lw (.cons (.str _) (.cons (.int _) (.cons (.int _) .nil)))).kept JW kk) (rl.kept JW kk) (by simp) trivial
def oG (C:Nat->Addr)(CN CS:Addr):Sp:=λ vs H Q E=>∃ x u1 u2 d1 d2 dx,vs=[.ref x,u1,u2]/\H x=some (.ins (C 1) dx [])/\õ H u1 d1/\õ H u2 d2/\(ib 1 10 d1=false->cz CN "found" u1 H E)/\(ib 1 10 d1=true->cy d2=false->cz CS "found" u2 H E) /\
 ∀ n a b,d1=.int n->d2=.tuple [.int a,.int b]->(R0.pairs n a b).ok->∀ H',Kept H H' x->M0 C H' (.pairs n a b) (.ref x)->Q .ô H'
theorem EC:ad ["self","pairs","coin"] ["self","pairs","coin"] (aa zn):=aF
theorem iK {d:PyData}(h:cy d=true):∃ a b,d=.tuple [.int a,.int b]:=by
 match d,h with
 | .tuple [.int a,.int b],_=>exact⟨a,b,rfl⟩
theorem Ae {f:Addr}{fd:FuncData}(Z:KR K C CR)(F:ė K "__init__" "Pairs.__init__" zn f fd) (Cf:fV K S "__init__" g) (G:Ò P w K mg base ay 1 g gd ["self","size","first_state","mark","parts"] (pd C)) (bG:Binds K gd ["self","size","first_state","mark","parts"] []) (mS:mg "Rule" = some (.ref S))
  (A1:Df P w K mg base (bP P w) 3 "need_number" ["thing","low","high"] (u8 CN) a1 d1) (A2:Df P w K mg base ay 1 "one_part" ["folk"] wr a2 d2) (A3:Df P w K mg base (bP P w) 5 "need_coin" ["thing"] (zx CS) a3 d3) (mF:mg "MOST_PAIRS" = some (.int 10 t)):Ò P w K mg base (bP P w) 6 f fd ["self","pairs","coin"] (oG C CN CS):=by
 refine fH F EC λ cdv A outer s H vs Q E hr h=>?_;obtain⟨x,u1,u2,e1,e2,dx,rfl,hx,r1,r2,q1,q2,q⟩:=h;have Ĵ:î 1 _:=hr.mono ag;have KS:î 3 _:=hr.mono ag;refine⟨_,ba (ax (br A1 KS bQ (ac (pv 1) (ac au (ac (bn (v:=.int 10) rfl mF ⟨_,rfl⟩) ao))))) (ba (ax (br A3 hr bQ (ac (pv 2) ao))) (ba (cR (pv 0) (pv 2) rfl)
  (aK (ax (cc Cf G Ĵ rfl mS bG .nil ai (ac (pv 0) (ac (af bp au (pv 1)) (ac gQ (ac (aE (ac cL (ac (pv 1) (ac (pv 2) ao)))) (ac (br A2 Ĵ ai (ac (af bp au (pv 1)) ao)) ao)))))))))),?_⟩
 refine⟨_,rfl,u1,e1,1,10,rfl,r1,λ h1=>?_,λ h1=>q1 h1⟩;refine⟨_,rfl,u2,e2,rfl,r2,λ h2=>?_,λ h2=>q2 h1 h2⟩;obtain⟨n,rfl,n1,WX⟩:=eP h1;obtain⟨a,b,rfl⟩:=iK h2;cases r1;refine⟨_,rfl,_,rfl,x,C 1,dx,[],rfl,hx,Z.cls 1 ag,Z.no 1 ag _ aA,ag,?_⟩;have k1:Kept H (aj H x (.ins (C 1) dx (aO "coin" u2 []))) x:=bA _;have Oy:=r2.kept hx k1;have KP:aj H x (.ins (C 1) dx (aO "coin" u2 [])) x=some (.ins (C 1) dx [("coin",u2)]):=aQ;generalize aj H x (.ins (C 1) dx (aO "coin" u2 []))=H1 at k1 Oy KP ⊢;have cm:p_ 2 n:=.inl ⟨ag,ag⟩;refine⟨_,rfl,_,rfl,_,_,rfl,rfl,cm,_,rfl,_,rfl,dy,λ m hm=>⟨_,rfl,_,_,rfl,rfl,cm,2*n,rfl,ae,ae,λ l H2 x2 rl=>?_⟩⟩;have xm:=Ext.new (o:=.tup [.str "pairs",.int n,u2]) hm;have ņ:=xm.trans x2;have Lw:=x2 _ _ (show aj H1 m (.tup [.str "pairs",.int n,u2]) m=_ from aQ);have JW:=ņ _ _ KP;have Ow:=Oy.mono ņ;refine⟨x,_,_,_,_,1,dx,[("coin",u2)],rfl,ag,JW,(by show 1<=5;decide),q n a b rfl rfl ⟨n1,WX,h2⟩ _ ((k1.trans (ņ.kept x)).trans (bA _)) ?_⟩
 have kk:Kept H2 (aj H2 x (.ins (C 1) dx (fS (.int (2*n)) .ô (.ref m) (.ref l) [("coin",u2)]))) x:=bA _;refine kJ aQ .ô ((õ.tup Lw (.cons (.str _) (.cons (.int _) (.cons Ow .nil)))).kept JW kk) (rl.kept JW kk) (λ n hn=>?_) ⟨u2,?_,Ow.kept JW kk⟩
 ·have e:n = "coin" := by simpa using hn
  rw [e]
  decide +kernel
 ·rw [eR aA];rfl
def lh (C:Nat->Addr)(CN CS:Addr):Sp:=λ vs H Q E=>∃ x u1 u2 u3 d1 d2 d3 dx,vs=[.ref x,u1,u2,u3]/\H x=some (.ins (C 2) dx [])/\õ H u1 d1/\õ H u2 d2/\õ H u3 d3/\(ib 1 20 d1=false->cz CN "found" u1 H E)/\(ib 1 20 d1=true->cy d2=false->cz CS "found" u2 H E)/\(ib 1 20 d1=true->cy d2=true->ib 1 20 d3=false->cz CN "found" u3 H E) /\
 ∀ n a b f,d1=.int n->d2=.tuple [.int a,.int b]->d3=.int f->(R0.ö n a b f).ok->∀ H',Kept H H' x->M0 C H' (.ö n a b f) (.ref x)->Q .ô H'
theorem EL:ad ["self","folk","coin","far"] ["self","folk","coin","far"] (aa yS):=aF
theorem yi {f:Addr}{fd:FuncData}{t2:Tok}(Z:KR K C CR)(F:ė K "__init__" "Coins.__init__" yS f fd) (Cf:fV K S "__init__" g) (G:Ò P w K mg base ay 1 g gd ["self","size","first_state","mark","parts"] (pd C)) (bG:Binds K gd ["self","size","first_state","mark","parts"] []) (mS:mg "Rule" = some (.ref S))
  (A1:Df P w K mg base (bP P w) 3 "need_number" ["thing","low","high"] (u8 CN) a1 d1) (A2:Df P w K mg base ay 1 "one_part" ["folk"] wr a2 d2) (A3:Df P w K mg base (bP P w) 5 "need_coin" ["thing"] (zx CS) a3 d3) (mF:mg "MOST_FOLK" = some (.int 20 t)) (mR:mg "MOST_FAR" = some (.int 20 t2)):Ò P w K mg base (bP P w) 6 f fd ["self","folk","coin","far"] (lh C CN CS):=by
 refine fH F EL λ cdv A outer s H vs Q E hr h=>?_;obtain⟨x,u1,u2,u3,e1,e2,e3,dx,rfl,hx,r1,r2,r3,q1,q2,q3,q⟩:=h;have Ĵ:î 1 _:=hr.mono ag;have KS:î 3 _:=hr.mono ag;refine⟨_,ba (ax (br A1 KS bQ (ac (pv 1) (ac au (ac (bn (v:=.int 20) rfl mF ⟨_,rfl⟩) ao))))) (ba (ax (br A3 hr bQ (ac (pv 2) ao))) (ba (ax (br A1 KS bQ (ac (pv 3) (ac au (ac (bn (v:=.int 20) rfl mR ⟨_,rfl⟩) ao)))))
  (ba (cR (pv 0) (pv 2) rfl) (ba (cR (pv 0) (pv 3) rfl)
  (aK (ax (cc Cf G Ĵ rfl mS bG .nil ai (ac (pv 0) (ac (pv 1) (ac au (ac (aE (ac cL (ac (pv 1) (ac (pv 2) (ac (pv 3) ao))))) (ac (br A2 Ĵ ai (ac (pv 1) ao)) ao)))))))))))),?_⟩
 refine⟨_,rfl,u1,e1,1,20,rfl,r1,λ h1=>?_,λ h1=>q1 h1⟩;refine⟨_,rfl,u2,e2,rfl,r2,λ h2=>?_,λ h2=>q2 h1 h2⟩;refine⟨_,rfl,u3,e3,1,20,rfl,r3,λ h3=>?_,λ h3=>q3 h1 h2 h3⟩;obtain⟨n,rfl,n1,MP⟩:=eP h1;obtain⟨a,b,rfl⟩:=iK h2;obtain⟨k,rfl,O0,W3⟩:=eP h3;cases r1;cases r3;refine⟨_,rfl,_,rfl,x,C 2,dx,[],rfl,hx,Z.cls 2 ag,Z.no 2 ag _ aA,ag,?_⟩;have k1:Kept H (aj H x (.ins (C 2) dx (aO "coin" u2 []))) x:=bA _;have Oy:=r2.kept hx k1;have KP:aj H x (.ins (C 2) dx (aO "coin" u2 [])) x=some (.ins (C 2) dx [("coin",u2)]):=aQ;generalize aj H x (.ins (C 2) dx (aO "coin" u2 []))=H1 at k1 Oy KP ⊢;refine⟨_,rfl,_,rfl,x,C 2,dx,[("coin",u2)],rfl,KP,Z.cls 2 ag,Z.no 2 ag _ aA,(by show 1<1000;decide),?_⟩
 have ef:aO "far" (.int k) [(("coin" : Str),u2)]=[(("coin" : Str),u2),(("far" : Str),.int k)]:=by
  show(if("coin" : Str) = "far" then _ else _)=_
  rw [Ì aA];rfl
 rw [ef];have kf:Kept H1 (aj H1 x (.ins (C 2) dx [("coin",u2),("far",.int k)])) x:=bA _;have Ox:=Oy.kept KP kf;have O4:aj H1 x (.ins (C 2) dx [("coin",u2),("far",.int k)]) x=some (.ins (C 2) dx [("coin",u2),("far",.int k)]):=aQ;generalize aj H1 x (.ins (C 2) dx [("coin",u2),("far",.int k)])=ZQ at kf Ox O4 ⊢;refine⟨_,rfl,_,rfl,_,rfl,_,rfl,_,rfl,dy,λ m hm=>⟨_,rfl,n,rfl,ae,MP,λ l H2 x2 rl=>?_⟩⟩;have xm:=Ext.new (o:=.tup [.str "coins",.int n,u2,.int k]) hm;have ņ:=xm.trans x2;have Lw:=x2 _ _ (show aj ZQ m (.tup [.str "coins",.int n,u2,.int k]) m=_ from aQ);have JW:=ņ _ _ O4;have Ow:=Ox.mono ņ;refine⟨x,_,_,_,_,2,dx,[("coin",u2),("far",.int k)],rfl,ag,JW,(by show 2<=5;decide),q n a b k rfl rfl rfl ⟨n1,MP,h2,O0,W3⟩ _ (((k1.trans kf).trans (ņ.kept x)).trans (bA _)) ?_⟩
 have kk:Kept H2 (aj H2 x (.ins (C 2) dx (fS (.int n) (.int 0) (.ref m) (.ref l) [("coin",u2),("far",.int k)]))) x:=bA _;refine kJ aQ (.int _) ((õ.tup Lw (.cons (.str _) (.cons (.int _) (.cons Ow (.cons (.int _) .nil))))).kept JW kk) (rl.kept JW kk) (λ n hn=>?_) ⟨⟨u2,?_,Ow.kept JW kk⟩,?_⟩
 ·have e:n = "coin" \/ n = "far" := by simpa using hn
  rcases e with e | e <;> rw [e] <;> decide +kernel
 ·rw [eR aA];rfl
 ·rw [eR aA];rfl
end
theorem xC {H:Hp}{p:Addr}{o:HO}:Ext (wo H p) (wo (aj H p o) p):=λ b u e=>by
 have n:=pJ e;exact cj n (by rw [ah n];exact aU H p _ _ e)
theorem Ext.kp {G H H':Hp}{x:Addr}(e:Ext G H)(n:G x=none)(k:Kept H H' x):Ext G H':=λ b o h=>k b o (e b o h) λ z=>by rw [z,n] at h;cases h
def Sm (ps:List (List Int)):Prop:=ps.length<=20/\∀ p∈ps,p.length<=20
def BC (H H':Hp):Prop:=∀ b o,H b=some o->(∀ xs,o ≠ .lst xs)->H' b=some o
theorem Iu {H:Hp}{D:Addr}{ys:List V}(o:HO)(h:H D=some (.lst ys)):BC H (aj H D o):=λ b u e n=>by
 rw [ah (λ z=>by rw [z,h] at e;cases e;exact n ys rfl)]
 exact e
mutual
def dQ:PyData->Bool
 | .list _=>false
 | .dict _=>false
 | .tuple xs=>IW xs
 | _=>true
def IW:List PyData->Bool
 | []=>true
 | x::xs=>dQ x&&IW xs
end
mutual
theorem õ.ŧ {G G':Hp}(s:BC G G'):∀{v:V}{d:PyData},dQ d=true->õ G v d->õ G' v d
 | _,_,_,.ô=>.ô
 | _,_,_,.bl b=>.bl b
 | _,_,_,.int i=>.int i
 | _,_,_,.str x=>.str x
 | _,_,h,.lst e r=>by simp [dQ] at h
 | _,_,h,.tup e r=>.tup (s _ _ e (λ _ z=>by cases z)) (à.ŧ s (by simpa only [dQ] using h) r)
 | _,_,h,.B_ e=>by simp [dQ] at h
 | _,_,h,.LB e r=>by simp [dQ] at h
theorem à.ŧ {G G':Hp}(s:BC G G'):∀{vs:List V}{ds:List PyData},IW ds=true->à G vs ds->à G' vs ds
 | _,_,_,.nil=>.nil
 | _,_,h,.cons r t=>by
  simp only [IW,Bool.and_eq_true] at h;exact .cons (õ.ŧ s h.1 r) (à.ŧ s h.2 t)
end
theorem gK {H:Hp}{x dx:Addr}{u v:HO}(hx:H x=none)(hd:H dx=none)(ne:dx≠x):Ext H (aj (aj H dx u) x v):=by
 have h2:aj H dx u x=none:=by rw [ah ne.symm];exact hx
 exact(Ext.new hd).trans (Ext.new h2)
end My
namespace My
open PySem PySem.W L2
structure Τ where
 hand:Int
 t:Nat
 b:Nat
 next:PyData
structure Τ.good (s:Τ):Prop where
 h:s.hand=0\/s.hand=1
 t1:1<=s.t
 tb:s.t<=s.b
 K1:s.b<=100
 lo:Nat.gcd s.t s.b=1
 nl:dQ s.next=true
theorem BO {H:Hp}{m:Addr}(h:H m=none)(o:HO):∃ H1,Ext H H1/\H1 m=some o/\aj H m o=H1:=⟨_,Ext.new h,aQ,rfl⟩
def dG (a b:Nat):Nat:=a/Nat.gcd a b
def bj (a b:Nat):Nat:=b/Nat.gcd a b
theorem i7 {a b:Nat}(h1:1<=a)(h2:a<=b)(h3:b<=100):1<=dG a b/\dG a b<=bj a b/\bj a b<=100/\Nat.gcd (dG a b) (bj a b)=1:=by
 have g0:0<Nat.gcd a b:=Θ b h1;refine⟨(Nat.le_div_iff_mul_le g0).mpr (by rw [Nat.one_mul];exact Ŀ h1 (ú a b)),Nat.div_le_div_right h2,Ô (Ď _ _) h3,?_⟩
 unfold dG bj;rw [Nat.gcd_div (ú a b) (ï a b)];exact Nat.div_self g0
def R0.steps:R0->PyData->Int->List Τ
 | .split n _,.int s,x=>(if s<n-x then [⟨0,dG (n-x-s).toNat (n-x).toNat,bj (n-x-s).toNat (n-x).toNat,.int s⟩] else [])++(if 0<s then [⟨1,dG s.toNat (n-x).toNat,bj s.toNat (n-x).toNat,.int (s-1)⟩] else [])
 | .pairs _ a b,.none,_=>[⟨0,(b-a).toNat,b.toNat,.int 0⟩,⟨1,a.toNat,b.toNat,.int 1⟩]
 | .pairs _ _ _,.int h,_=>[⟨1-h,1,1,.none⟩]
 | .ö _ a b f,.int s,_=>if f<=s then [⟨0,1,1,.int (s-1)⟩] else if s <= -f then [⟨1,1,1,.int (s+1)⟩] else [⟨0,(b-a).toNat,b.toNat,.int (s-1)⟩,⟨1,a.toNat,b.toNat,.int (s+1)⟩]
 | _,_,_=>[]
def R0.KH:R0->Int->PyData->Prop
 | .split n _,x,st=>∃ s,st=.int s/\0<=s/\s<=n-x
 | .pairs _ _ _,x,st=>(x%2=0/\st=.none)\/(x%2=1/\(st=.int 0\/st=.int 1))
 | .ö _ _ _ _,x,st=>∃ s,st=.int s/\-x<=s/\s<=x
theorem dB {a b:Int}(h:cy (.tuple [.int a,.int b])=true):∃ x y:Nat,a=(x:Int)/\b=(y:Int)/\1<=x/\x<y/\y<=100/\Nat.gcd x y=1:=by
 have h':(((decide (1<=b)&&(decide (0<=a)&&decide (a<=b)))&&decide (Nat.gcd a.toNat b.toNat=1))&&(decide (2<=b)&&decide (b<=100)))=true:=h;simp only [Bool.and_eq_true,decide_eq_true_iff] at h';obtain⟨⟨⟨h1,h2,h3⟩,g⟩,h5,h6⟩:=h';obtain⟨x,rfl⟩:∃ x:Nat,a=(x:Int):=⟨a.toNat,ae⟩;obtain⟨y,rfl⟩:∃ y:Nat,b=(y:Int):=⟨b.toNat,ae⟩;rw [Î,Î] at g;refine⟨x,y,rfl,rfl,?_,?_,ae,g⟩
 ·rcases Nat.eq_zero_or_pos x with z | z
  ·rw [z,Nat.gcd_zero_left] at g;omega
  ·exact z
 ·rcases Ľ x y with z | z
  ·exact z
  ·have:x=y:=ae;rw [this,Nat.gcd_self] at g;omega
theorem nY {x y:Nat}(h:x<y)(g:Nat.gcd x y=1):Nat.gcd (y-x) y=1:=by
 have h1:Nat.gcd (y-x) y ∣ y-x:=ú _ _;have h2:Nat.gcd (y-x) y ∣ y:=ï _ _;have h3:Nat.gcd (y-x) y ∣ x:=by
  have e:y-(y-x)=x:=ae;have q:=Nat.dvd_sub h2 h1
  rwa [e] at q
 exact Nat.dvd_one.mp (g ▸ Nat.dvd_gcd h3 h2)
theorem mv {a b:Int}(h:cy (.tuple [.int a,.int b])=true)(n m:PyData)(hn:dQ n=true)(hm:dQ m=true):(⟨0,(b-a).toNat,b.toNat,n⟩:Τ).good/\(⟨1,a.toNat,b.toNat,m⟩:Τ).good:=by
 obtain⟨x,y,rfl,rfl,h1,h2,h3,g⟩:=dB h;have e:((y:Int)-(x:Int)).toNat=y-x:=ae;rw [e,Î,Î];exact⟨⟨.inl rfl,by show 1<=y-x;omega,by show y-x<=y;omega,h3,nY h2 g,hn⟩,⟨.inr rfl,h1,by show x<=y;omega,h3,g,hm⟩⟩
theorem gL {hd:Int}(h:hd=0\/hd=1)(n:PyData)(hn:dQ n=true):(⟨hd,1,1,n⟩:Τ).good:=⟨h,Ç _,Ç _,by show 1<=100;decide,by show Nat.gcd 1 1=1;decide,hn⟩
theorem R0.Μ {r:R0}{x:Int}{st:PyData}(ok:r.ok)(x0:0<=x)(x1:x<r.ë)(v:r.KH x st):(∀ s∈r.steps st x,s.good/\r.KH (x+1) s.next)/\r.steps st x ≠ []:=by
 cases r with
 | split n k =>
  obtain⟨s,rfl,s0,s1⟩:=v;obtain⟨h1,h2,h3,h4⟩:=ok;have xn:x<n:=x1;refine⟨λ q hq=>?_,?_⟩
  ·rcases Ă.mp hq with hq | hq
   ·by_cases c:s<n-x
    ·rw [Ï c] at hq;rw [Ð.mp hq];obtain⟨a1,a2,a3,a4⟩:=i7 (a:=(n-x-s).toNat) (b:=(n-x).toNat) ae ae ae;exact⟨⟨.inl rfl,a1,a2,a3,a4,rfl⟩,s,rfl,s0,ae⟩
    ·rw [Ì c] at hq;cases hq
   ·by_cases c:0<s
    ·rw [Ï c] at hq;rw [Ð.mp hq];obtain⟨a1,a2,a3,a4⟩:=i7 (a:=s.toNat) (b:=(n-x).toNat) ae ae ae;exact⟨⟨.inr rfl,a1,a2,a3,a4,rfl⟩,s-1,rfl,ae,ae⟩
    ·rw [Ì c] at hq;cases hq
  ·intro e;have e':=List.append_eq_nil_iff.mp e;by_cases c:0<s
   ·have:=e'.2;rw [Ï c] at this;cases this
   ·have:=e'.1;rw [Ï ae] at this;cases this
 | pairs n a b =>
  obtain⟨h1,h2,h3⟩:=ok;rcases v with⟨p,rfl⟩ | ⟨p,rfl | rfl⟩
  ·obtain⟨g0,g1⟩:=mv h3 (.int 0) (.int 1) rfl rfl;refine⟨λ q hq=>?_,λ e=>nomatch e⟩;rcases ß.mp hq with rfl | hq
   ·exact⟨g0,.inr ⟨ae,.inl rfl⟩⟩
   ·rw [Ð.mp hq];exact⟨g1,.inr ⟨ae,.inr rfl⟩⟩
  ·refine⟨λ q hq=>?_,λ e=>nomatch e⟩;rw [Ð.mp hq];exact⟨gL (.inr rfl) _ rfl,.inl ⟨ae,rfl⟩⟩
  ·refine⟨λ q hq=>?_,λ e=>nomatch e⟩;rw [Ð.mp hq];exact⟨gL (.inl rfl) _ rfl,.inl ⟨ae,rfl⟩⟩
 | ö n a b f =>
  obtain⟨h1,h2,h3,h4,h5⟩:=ok;obtain⟨s,rfl,s0,s1⟩:=v;obtain⟨g0,g1⟩:=mv h3 (.int (s-1)) (.int (s+1)) rfl rfl;simp only [R0.steps];by_cases c:f<=s
  ·rw [Ï c];refine⟨λ q hq=>?_,λ e=>nomatch e⟩;rw [Ð.mp hq];exact⟨gL (.inl rfl) _ rfl,s-1,rfl,ae,ae⟩
  ·rw [Ì c];by_cases c2:s <= -f
   ·rw [Ï c2];refine⟨λ q hq=>?_,λ e=>nomatch e⟩;rw [Ð.mp hq];exact⟨gL (.inr rfl) _ rfl,s+1,rfl,ae,ae⟩
   ·rw [Ì c2];refine⟨λ q hq=>?_,λ e=>nomatch e⟩;rcases ß.mp hq with rfl | hq
    ·exact⟨g0,s-1,rfl,ae,ae⟩
    ·rw [Ð.mp hq];exact⟨g1,s+1,rfl,ae,ae⟩
theorem R0.LY {r:R0}(ok:r.ok):r.KH 0 r.begin:=by
 cases r with
 | split n k=>obtain⟨h1,h2,h3,h4⟩:=ok;exact⟨k,rfl,h3,ae⟩
 | pairs n a b=>exact .inl ⟨rfl,rfl⟩
 | ö n a b f=>exact⟨0,rfl,ae,ae⟩
def Rl.steps:Rl->PyData->Int->List Τ
 | .one r,st,x=>r.steps st x
def Rl.KH:Rl->Int->PyData->Prop
 | .one r,x,st=>r.KH x st
theorem Rl.Μ:∀{t:Rl}{x:Int}{st:PyData},t.ok->0<=x->x<t.ë->t.KH x st->(∀ s∈t.steps st x,s.good/\(x+1<t.ë->t.KH (x+1) s.next))/\t.steps st x ≠ []
 | .one r,x,st,ok,x0,x1,v=>by
  obtain⟨h1,h2⟩:=R0.Μ ok x0 x1 v;exact⟨λ s hs=>⟨(h1 s hs).1,λ _=>(h1 s hs).2⟩,h2⟩
theorem Rl.LY:∀{t:Rl},t.ok->0<t.ë->t.KH 0 t.begin
 | .one r,ok,_=>R0.LY ok
theorem jL {n:Nat}(h:n<=100):Sz n:=Ń h (Í (by decide:100<2^7) (ã ag ag))
def MZ (K:Frag)(H:Hp)(v:V)(t b:Nat):Prop:=∃ p,v=.ref p/\č K H p [.int (t:Nat),.int (b:Nat)]
theorem MZ.ext {K:Frag}{H H':Hp}{v:V}{t b:Nat}(h:MZ K H v t b)(x:Ext H H'):MZ K H' v t b:=by
 obtain⟨p,e,q⟩:=h;exact⟨p,e,My.č.ext q x⟩
def MY (K:Frag)(H:Hp)(p:V)(s:Τ):Prop:=∃ a sv nv,p=.ref a/\H a=some (.tup [.int s.hand,sv,nv])/\MZ K H sv s.t s.b/\õ H nv s.next
theorem MY.ext {K:Frag}{H H':Hp}{p:V}{s:Τ}(h:MY K H p s)(x:Ext H H'):MY K H' p s:=by
 obtain⟨a,sv,nv,e,ha,hs,hn⟩:=h;exact⟨a,sv,nv,e,x _ _ ha,hs.ext x,hn.mono x⟩
inductive m_ (K:Frag)(H:Hp):List V->List Τ->Prop
 | nil:m_ K H [] []
 | cons {p:V} {s:Τ} {ps:List V} {ss:List Τ}:MY K H p s->m_ K H ps ss->m_ K H (p::ps) (s::ss)
theorem m_.ext {K:Frag}{H H':Hp}(x:Ext H H'):∀{ps:List V}{ss:List Τ},m_ K H ps ss->m_ K H' ps ss
 | _,_,.nil=>.nil
 | _,_,.cons a b=>.cons (a.ext x) (b.ext x)
theorem m_.app {K:Frag}{H:Hp}:∀{ps qs:List V}{ss ts:List Τ},m_ K H ps ss->m_ K H qs ts->m_ K H (ps++qs) (ss++ts)
 | _,_,_,_,.nil,h=>h
 | _,_,_,_,.cons a b,h=>.cons a (b.app h)
theorem m_.len {K:Frag}{H:Hp}:∀{ps:List V}{ss:List Τ},m_ K H ps ss->ps.length=ss.length
 | _,_,.nil=>rfl
 | _,_,.cons _ b=>by rw [å,å,b.len]
theorem m_.get {K:Frag}{H:Hp}:∀{ps:List V}{ss:List Τ},m_ K H ps ss->∀{i:Nat}{p:V},ps[i]?=some p->∃ s,ss[i]?=some s/\MY K H p s
 | _,_,.nil,i,p,h=>by simp at h
 | _,_,.cons a b,0,p,h=>by cases h;exact⟨_,rfl,a⟩
 | _,_,.cons a b,i+1,p,h=>b.get h
def HI (K:Frag)(H:Hp)(l:Addr)(ss:List Τ):Prop:=∃ ps,H l=some (.lst ps)/\m_ K H ps ss
def Fp (K:Frag)(H H':Hp)(l:Addr)(ss:List Τ):Prop:=H l=none/\HI K H' l ss
theorem Ext.back {H H':Hp}{l:Addr}(x:Ext H H')(h:H' l=none):H l=none:=by
 cases e:H l with
 | none=>rfl
 | some o=>rw [x _ _ e] at h;cases h
section
variable {P:Program}{w:World}{K:Frag}{mg:aX}{base:Heap}{f a1 a2 a3 n1:Addr}{fd d1 d2 d3:FuncData}
abbrev Ga:Stmt:=bw 20
def vH:Sp:=λ vs H Q _=>∃ a b:Nat,vs=[.int a,.int b]/\1<=b/\a<=b/\Sz b/\∀ p,H p=none->Q (.ref p) (aj H p (.tup [.int (dG a b:Nat),.int (bj a b:Nat)]))
theorem Oi:ad ["top","bottom","common"] ["top","bottom"] (aa Ga):=aF
theorem EN (F:ė K "share_of" "share_of" Ga f fd) (A1:Df P w K mg base ay 3 "is_part" ["top","bottom"] (nM K) a1 d1) (A2:Df P w K mg base ay 1 "greatest_common" ["one","other"] kX a2 d2):Ò P w K mg base ay 4 f fd ["top","bottom"] vH:=by
 refine F.ok Oi (λ vs H Q E h=>?_) (λ cdv A outer s H vs Q E hr h=>?_)
 ·obtain⟨a,b,rfl,_⟩:=h;rfl
 obtain⟨a,b,rfl,b1,ab,K1,q⟩:=h;have nd:=Oi.nd;have Ĵ:î 1 _:=hr.mono ag;refine⟨_,ba (aG (bD (bf (br A1 hr ai (ac (pv 0) (ac (pv 1) ao))))) (aK gE) dm)
  (ba (dq (i:=2) nd rfl (Or.inl rfl) (br A2 Ĵ ai (ac (pv 0) (ac (pv 1) ao))))
  (aK (bh (aE (ac (af cA (pv 0) (pv 2)) (ac (af cA (pv 1) (pv 2)) ao)))))),?_⟩
 have Wx:jM (.int (a:Nat)) (.int (b:Nat))=true:=by
  show(decide ((1:Int)<=(b:Nat))&&(decide ((0:Int)<=(a:Nat))&&decide (((a:Nat):Int)<=(b:Nat))))=true;rw [Ä ae,Ä ae,Ä ae];rfl
 have g0:0<Nat.gcd a b:=Ĕ a b1;have gl:Sz (Nat.gcd a b):=K1.mono (Ŀ b1 (ï a b));have gd:∀ n:Nat,mQ ((n:Nat):Int) ((Nat.gcd a b:Nat):Int):=λ n=>⟨ae,gl.log⟩;refine⟨_,rfl,_,rfl,_,_,rfl,.inl ⟨_,rfl⟩,.inl ⟨_,rfl⟩,?_⟩;rw [Wx];refine⟨_,rfl,cJ ⟨_,rfl,_,rfl,a,b,rfl,?_⟩⟩;refine⟨_,rfl,_,rfl,_,_,rfl,rfl,gd a,_,rfl,_,rfl,_,_,rfl,rfl,gd b,dy,λ p hp=>?_⟩;have e1:((a:Int)/((Nat.gcd a b:Nat):Int))=((dG a b:Nat):Int):=by simp [dG]
 have e2:((b:Int)/((Nat.gcd a b:Nat):Int))=((bj a b:Nat):Int):=by simp [bj]
 show Q (.ref p) (aj H p (.tup [.int ((a:Int)/((Nat.gcd a b:Nat):Int)),.int ((b:Int)/((Nat.gcd a b:Nat):Int))]));rw [e1,e2];exact q p hp
abbrev Ht:Stmt:=bw 23
def CZ (K:Frag):Sp:=λ vs H Q _=>∃(p r:Addr)(x y:Nat),vs=[.ref p,.ref r]/\č K H p [.int (1:Nat),.int (1:Nat)]/\č K H r [.int (x:Nat),.int (y:Nat)]/\x<y/\y<=100/\∀ l,H l=none->Q (.ref l) (aj H l (.tup [.int (y-x:Nat),.int (y:Nat)]))
theorem FO:ad ["one","other"] ["one","other"] (aa Ht):=aF
theorem DT (F:ė K "minus_share" "minus_share" Ht f fd) (A1:Df P w K mg base ay 1 "less_share" ["one","other"] (xO K) a1 d1) (A2:Df P w K mg base ay 2 "added" ["one","top","bottom"] (w4 K) a2 d2):Ò P w K mg base ay 3 f fd ["one","other"] (CZ K):=by
 refine F.ok FO (λ vs H Q E h=>?_) (λ cdv A outer s H vs Q E hr h=>?_)
 ·obtain⟨p,r,x,y,rfl,_⟩:=h;rfl
 obtain⟨p,r,x,y,rfl,hp,Kv,xy,Nc,q⟩:=h;have Ĵ:î 1 _:=hr.mono ag;refine⟨_,ba (aG (bf (br A1 Ĵ ai (ac (pv 0) (ac (pv 1) ao)))) (aK gE) dm)
  (aK (bh (br A2 hr ai (ac (pv 0) (ac (jx gR (bC cZ (pv 1) au)) (ac (bC cZ (pv 1) au) ao)))))),?_⟩
 have s1:Sz 1:=jL ag;have sx:Sz x:=jL ae;have sy:Sz y:=jL Nc;refine⟨_,rfl,_,rfl,p,r,1,1,x,y,rfl,hp,Kv,s1,s1,sx,sy,?_⟩;rw [show decide (1*y<x*1)=false from Å ae];refine⟨_,rfl,cJ ⟨_,rfl,_,rfl,r,_,0,_,rfl,rfl,Kv,fm (j:=0) rfl,_,rfl,_,rfl,r,_,1,_,rfl,rfl,Kv,fm (j:=1) rfl,?_⟩⟩;refine⟨p,1,1,x,y,y-x,_,rfl,hp,.inr rfl,s1,s1,sx,sy,Ç _,ae,?_,λ l hl=>?_⟩
 ·rw [Nat.gcd_one_left,χ,χ];omega
 ·have:=q l hl;rw [Nat.gcd_one_left,Nat.gcd_one_right,χ,χ,χ,Nat.one_mul];exact this
abbrev He:Stmt:=bw 35
def lW (K:Frag):Sp:=λ vs H Q _=>∃(r:Addr)(z o:V)(x y:Nat)(dz dO:PyData),vs=[.ref r,z,o]/\č K H r [.int (x:Nat),.int (y:Nat)]/\x<y/\y<=100/\õ H z dz/\õ H o dO/\∀ l H',Ext H H'->Fp K H H' l [⟨0,y-x,y,dz⟩,⟨1,x,y,dO⟩]->Q (.ref l) H'
theorem GS:ad ["coin","zero","one"] ["coin","zero","one"] (aa He):=aF
theorem D0 (F:ė K "coin_steps" "coin_steps" He f fd) (A1:Df P w K mg base ay 3 "minus_share" ["one","other"] (CZ K) a1 d1) (mA:mg "ALL" = some (.ref n1)) (tA:kE K n1 [.int (1:Nat),.int (1:Nat)]):Ò P w K mg base ay 4 f fd ["coin","zero","one"] (lW K):=by
 refine F.ok GS (λ vs H Q E h=>?_) (λ cdv A outer s H vs Q E hr h=>?_)
 ·obtain⟨r,z,o,x,y,dz,dO,rfl,_⟩:=h;rfl
 obtain⟨r,z,o,x,y,dz,dO,rfl,Kv,xy,Nc,rz,ro,q⟩:=h;refine⟨_,aK (bh (bJ (ac (aE (ac au (ac (br A1 hr ai (ac (bn (v:=.ref n1) rfl mA rfl) (ac (pv 0) ao))) (ac (pv 1) ao)))) (ac (aE (ac au (ac (pv 0) (ac (pv 2) ao)))) ao)))),?_⟩;refine⟨_,rfl,n1,r,x,y,rfl,.inr tA,Kv,xy,Nc,λ m hm=>?_⟩;obtain⟨H1,x1,g1,eU⟩:=BO hm (.tup [.int (y-x:Nat),.int (y:Nat)]);rw [eU];refine⟨_,rfl,dy,λ a ha=>?_⟩;obtain⟨H2,x2,g2,eU⟩:=BO ha (.tup [.int 0,.ref m,z]);rw [eU];refine⟨_,rfl,_,rfl,dy,λ b hb=>⟨dy,λ l hl=>?_⟩⟩;have x3:=Ext.new (o:=.tup [.int 1,.ref r,o]) hb;have g3:aj H2 b (.tup [.int 1,.ref r,o]) b=some (.tup [.int 1,.ref r,o]):=aQ;have x4:=Ext.new (o:=.lst [.ref a,.ref b]) hl;have NX:=x3.trans x4;have PY:=(x1.trans x2).trans NX;exact q l _ PY ⟨((x1.trans x2).trans x3).back hl,_,aQ,.cons ⟨a,.ref m,z,rfl,NX _ _ g2,⟨m,rfl,č.of ((x2.trans NX) _ _ g1)⟩,rz.mono PY⟩ (.cons ⟨b,.ref r,o,rfl,x4 _ _ g3,⟨r,rfl,My.č.ext Kv PY⟩,ro.mono PY⟩ .nil)⟩
end
theorem č.ŧ {K:Frag}{H H':Hp}{p:Addr}{xs:List V}(h:č K H p xs)(s:BC H H'):č K H' p xs:=by
 rcases h with h | h
 ·left;rcases h with h | ⟨o,h⟩
  ·exact .inl (s _ _ h (λ _ e=>by cases e))
  ·exact .inr ⟨o,s _ _ h (λ _ e=>by cases e)⟩
 ·exact .inr h
theorem MY.ŧ {K:Frag}{H H':Hp}{p:V}{s:Τ}(h:MY K H p s)(k:BC H H')(n:dQ s.next=true):MY K H' p s:=by
 obtain⟨a,sv,nv,e,ha,⟨q,eq,hq⟩,hn⟩:=h;exact⟨a,sv,nv,e,k _ _ ha (λ _ e=>by cases e),⟨q,eq,My.č.ŧ hq k⟩,hn.ŧ k n⟩
theorem m_.ŧ {K:Frag}{H H':Hp}(k:BC H H'):∀{ps:List V}{ss:List Τ},m_ K H ps ss->(∀ s∈ss,dQ s.next=true)->m_ K H' ps ss
 | _,_,.nil,_=>.nil
 | _,_,.cons a b,h=>.cons (a.ŧ k (h _ (ø ..))) (b.ŧ k λ s hs=>h s (ä _ hs))
section
variable {P:Program}{w:World}{K:Frag}{mg:aX}{base:Heap}{C:Nat->Addr}{CR f a1 n1:Addr}{fd d1:FuncData}
def uT (K:Frag)(C:Nat->Addr)(i:Nat):Sp:=λ vs H Q _=>∃(v st:V)(x:Int)(r:R0)(sd:PyData),vs=[v,st,.int x]/\Ru C H (.one r) v/\r.kind=i/\r.ok/\0<=x/\x<r.ë/\r.KH x sd/\õ H st sd/\∀ l H',Ext H H'->Fp K H H' l (r.steps sd x)->Q (.ref l) H'
abbrev As:Stmt:=aB (bw 37) 1
abbrev IN:List Str:=["self","state","at","left","ways"]
theorem MF:ad IN ["self","state","at"] (aa As):=aF
def oH (K:Frag)(te:TE):TS:=mn (BF K "list" ix (aq 4) (aw te aP))
def wP (h:Int)(e n:TE):TE:=fh (aw (tC (.int h)) (aw (ie vH [] E0 (aw e (aw (aq 3) aP))) (aw n aP)))
def kQ (a b:TE):TE:=aT (fL λ i j=>.int (i-j)) a b
theorem tf {De:bT}{H:Hp}{σ:St}{l:Addr}{ys:List V}{ss:List Τ}{h y:Int}{e n:TE}{a b:Nat}(s4:σ[4]?=some (some (.ref l)))(s3:σ[3]?=some (some (.int (b:Nat))))(hl:H l=some (.lst ys))(al:m_ K H ys ss)(QX:∀ s∈ss,dQ s.next=true)(len:ys.length<=10)(he:∀ R:VK,R (.int (a:Nat)) H->e σ H R)(hn:∀(H1:Hp) (R:VK),R (.int y) H1->n σ H1 R)(b1:1<=b)(ab:a<=b)(K1:b<=100)
  (k:∀ p H',(∀ H0,Ext H0 H->H0 l=none->Ext H0 H')->H' l=some (.lst (ys ++ [p]))->m_ K H' (ys ++ [p]) (ss ++ [⟨h,dG a b,bj a b,.int y⟩])->De.nx σ H'):oH K (wP h e n) De σ H:=by
 refine⟨_,s4,.inl ⟨rfl,_,ÿ.of hl⟩,he _ ⟨_,s3,a,b,rfl,b1,ab,jL K1,λ m hm=>?_⟩⟩;obtain⟨H1,x1,g1,eU⟩:=BO hm (.tup [.int (dG a b:Nat),.int (bj a b:Nat)]);rw [eU];refine hn H1 _ ⟨dy,λ p hp=>?_⟩;obtain⟨H2,x2,g2,eU⟩:=BO hp (.tup [.int h,.ref m,.int y]);rw [eU];have ņ:=x1.trans x2;have Jg:=ņ _ _ hl;refine⟨l,ys,.ref p,rfl,rfl,Jg,by rw [Ø];omega,?_⟩
 have kp:=Iu (.lst (ys ++ [.ref p])) Jg;refine k (.ref p) _ (λ H0 x0 n0=>bV _ (x0.trans ņ) n0) aQ ?_;refine m_.ŧ kp (m_.app (al.ext ņ) (.cons ⟨p,.ref m,.int y,rfl,g2,⟨m,rfl,č.of (x2 _ _ g1)⟩,.int _⟩ .nil)) λ s hs=>?_;rcases Ă.mp hs with z | z
 ·exact QX s z
 ·rw [Ð.mp z];rfl
theorem AW (Z:KR K C CR)(F:ė K "steps" "Split.steps" As f fd) (A1:Df P w K mg base ay 4 "share_of" ["top","bottom"] vH a1 d1):Ò P w K mg base ay 5 f fd ["self","state","at"] (uT K C 0):=by
 refine F.ok MF (λ vs H Q E h=>?_) (λ cdv A outer s H vs Q E hr h=>?_)
 ·obtain⟨v,st,x,r,sd,rfl,_⟩:=h;rfl
 obtain⟨v,st,x,r,sd,rfl,ru,ek,ok,x0,x1,vs,rd,q⟩:=h;have nd:=MF.nd;refine⟨az (cM (kQ (kM K (aq 0) "size") (aq 2)) (be 3)) (az (cM (bE aP) (be 4)) (az (cp (tB (aT (fL λ i j=>.bl (decide (i<j))) (aq 1) (aq 3))) (oH K (wP 0 (kQ (aq 3) (aq 1)) (aq 1))) bB)
   (az (cp (tB (aT (fL λ i j=>.bl (decide (i>j))) (aq 1) (tC (.int 0)))) (oH K (wP 1 (aq 1) (kQ (aq 1) (tC (.int 1))))) bB) (aV (aq 4))))),
  ba (dq (i:=3) nd rfl (Or.inl rfl) (af bK (uD (pv 0) rfl) (pv 2)))
  (ba (dq (i:=4) nd rfl (Or.inl rfl) (bJ ao))
  (ba (aG (ar ut (pv 1) (pv 3) (av _)) (aK (ax (iX ć ħ Ħ dv (pv 4) (ac (aE (ac au (ac (br A1 hr ai (ac (af bK (pv 3) (pv 1)) (ac (pv 3) ao))) (ac (pv 1) ao)))) ao)))) dm)
  (ba (aG (ar lO (pv 1) au (av _)) (aK (ax (iX ć ħ Ħ dv (pv 4) (ac (aE (ac au (ac (br A1 hr ai (ac (pv 1) (ac (pv 3) ao))) (ac (af bK (pv 1) au) ao)))) ao)))) dm)
  (aK (bh (pv 4)))))),?_⟩
 cases r with
 | pairs _ _ _=>cases ek
 | ö _ _ _ _=>cases ek
 | split n k =>
  obtain⟨s,rfl,s0,s1⟩:=vs;cases rd;obtain⟨h1,h2,h3,h4⟩:=ok;obtain⟨a,dx,fs,rfl,ha,hz,_⟩:=ru.ob.ex;have xn:x<n:=x1;obtain⟨b,eb⟩:∃ b:Nat,n-x=(b:Int):=⟨(n-x).toNat,ae⟩;refine cI (i:=3) (D:=⟨_,Q,_,_⟩) ⟨_,rfl,a,_,dx,fs,_,rfl,ha,Z.cls 0 ag,Z.no 0 ag "size" aA,hz,_,rfl,_,_,rfl,rfl,?_⟩;show az _ _ _ [some (.ref a),some (.int s),some (.int x),some (.int (n-x)),none] H;rw [eb];refine cI (i:=4) (D:=⟨_,Q,_,_⟩) ⟨dy,λ l hl=>?_⟩;show az _ _ _ [some (.ref a),some (.int s),some (.int x),some (.int (b:Nat)),some (.ref l)] (aj H l (.lst []));obtain⟨H1,y1,gl,eU⟩:=BO hl (.lst []);rw [eU];have e1:(n-x).toNat=b:=ae;have second:∀(ys:List V)(ss:List Τ)(H2:Hp),Ext H H2->H2 l=some (.lst ys)->m_ K H2 ys ss->(∀ s∈ss,dQ s.next=true)->ys.length<=10->(ss++(if 0<s then [⟨1,dG s.toNat b,bj s.toNat b,.int (s-1)⟩] else [])=R0.steps (.split n k) (.int s) x)->az (cp (tB (aT (fL λ i j=>.bl (decide (i>j))) (aq 1) (tC (.int 0)))) (oH K (wP 1 (aq 1) (kQ (aq 1) (tC (.int 1))))) bB) (aV (aq 4)) ⟨λ _ H'=>Q .ô H',Q,λ _ _=>False,λ _ _=>False⟩ [some (.ref a),some (.int s),some (.int x),some (.int (b:Nat)),some (.ref l)] H2:=λ ys ss H2 x2 h2 al QX len e=>by
   refine⟨_,rfl,_,_,rfl,rfl,_,rfl,?_⟩;refine jk (λ c=>?_) (λ c=>⟨_,rfl,q l H2 x2 ⟨hl,ys,h2,?_⟩⟩)
   ·have c':0<s:=Û c;obtain⟨t,rfl⟩:∃ t:Nat,s=(t:Int):=⟨s.toNat,ae⟩;rw [Ï c',Î] at e;refine tf (a:=t) (b:=b) (y:=(t:Int)-1) rfl rfl h2 al QX len (λ R r=>⟨_,rfl,r⟩) (λ H3 R r=>⟨_,rfl,_,_,rfl,rfl,r⟩) ae ae ae λ p H3 x3 h3 R8=>⟨_,rfl,q l H3 (x3 H x2 hl) ⟨hl,_,h3,?_⟩⟩;rw [<- e];exact R8
   ·rw [<- e,Ì (λ z=>c (Ä z)),ù];exact al
  refine⟨_,rfl,_,rfl,_,_,rfl,rfl,_,rfl,?_⟩;refine jk (λ c=>?_) (λ c=>?_)
  ·have c':s<(b:Int):=Û c;obtain⟨t,et⟩:∃ t:Nat,(b:Int)-s=(t:Int):=⟨((b:Int)-s).toNat,ae⟩;refine tf (a:=t) (b:=b) (y:=s) rfl rfl gl .nil (λ _ h=>nomatch h) (by show 0<=10;decide) (λ R r=>⟨_,rfl,_,rfl,_,_,rfl,rfl,by show R (.int ((b:Int)-s)) _;rw [et];exact r⟩) (λ H3 R r=>⟨_,rfl,r⟩) ae ae ae λ p H3 x3 h3 R8=>?_
   refine second _ _ H3 (x3 H y1 hl) h3 R8 (λ z hz=>by rw [Ð.mp hz];rfl) (by show 1<=10;decide) ?_
   show _=(if s<n-x then _ else _)++_
   rw [Ï (show s<n-x by omega),e1,show(n-x-s).toNat=t by omega]
   rfl
  ·refine second [] [] H1 y1 gl .nil (λ _ h=>nomatch h) (by show 0<=10;decide) ?_
   have c':¬ s<(b:Int):=λ z=>c (Ä z);show _=(if s<n-x then _ else _)++_
   rw [Ì (show ¬ s<n-x by omega),e1]
end
section
variable {P:Program}{w:World}{K:Frag}{mg:aX}{base:Heap}{C:Nat->Addr}{CR f a1 n1:Addr}{fd d1:FuncData}
def lX (n1:Addr)(e n:TE):TS:=aV (bE (aw (fh (aw e (aw (tC (.ref n1)) (aw n aP)))) aP))
theorem ko {D:bT}{H:Hp}{σ:St}{e n:TE}{h:Int}{nv:V}{nd:PyData}(tA:kE K n1 [.int (1:Nat),.int (1:Nat)])(he:∀ R:VK,R (.int h) H->e σ H R)(hn:∀ R:VK,R nv H->n σ H R)(rn:∀ H',õ H' nv nd)(q:∀ l H',Ext H H'->Fp K H H' l [⟨h,1,1,nd⟩]->D.rt (.ref l) H'):lX n1 e n D σ H:=by
 refine he _ (hn _ ⟨dy,λ p hp=>⟨dy,λ l hl=>?_⟩⟩);have x1:=Ext.new (o:=.tup [.int h,.ref n1,nv]) hp;have g1:aj H p (.tup [.int h,.ref n1,nv]) p=some (.tup [.int h,.ref n1,nv]):=aQ;have x2:=Ext.new (o:=.lst [.ref p]) hl;exact q l _ (x1.trans x2) ⟨x1.back hl,_,aQ,.cons ⟨p,.ref n1,nv,rfl,x2 _ _ g1,⟨n1,rfl,.inr tA⟩,rn _⟩ .nil⟩
abbrev yj:Stmt:=aB (bw 38) 1
theorem Ct:ad ["self","state","at"] ["self","state","at"] (aa yj):=aF
theorem ym (Z:KR K C CR)(F:ė K "steps" "Pairs.steps" yj f fd) (A1:Df P w K mg base ay 4 "coin_steps" ["coin","zero","one"] (lW K) a1 d1) (mA:mg "ALL" = some (.ref n1)) (tA:kE K n1 [.int (1:Nat),.int (1:Nat)]):Ò P w K mg base ay 5 f fd ["self","state","at"] (uT K C 1):=by
 refine F.ok Ct (λ vs H Q E h=>?_) (λ cdv A outer s H vs Q E hr h=>?_)
 ·obtain⟨v,st,x,r,sd,rfl,_⟩:=h;rfl
 obtain⟨v,st,x,r,sd,rfl,ru,ek,ok,x0,x1,vs,rd,q⟩:=h;refine⟨az (cp (tB (Dl (aq 1))) (aV (ie (lW K) [] E0 (aw (kM K (aq 0) "coin") (aw (tC (.int 0)) (aw (tC (.int 1)) aP))))) bB) (lX n1 (kQ (tC (.int 1)) (aq 1)) (tC .ô)),
  ba (aG (uz (Bd (pv 1))) (aK (bh (br A1 hr ai (ac (uD (pv 0) rfl) (ac au (ac au ao)))))) dm)
  (aK (bh (bJ (ac (aE (ac (af bK au (pv 1)) (ac (bn (v:=.ref n1) rfl mA rfl) (ac gQ ao)))) ao)))),?_⟩
 cases r with
 | split _ _=>cases ek
 | ö _ _ _ _=>cases ek
 | pairs n a b =>
  obtain⟨h1,h2,h3⟩:=ok;obtain⟨x',y',ea,eb,k1,k2,k3,kg⟩:=dB h3;subst ea eb;have Re:∀ h:Int,sd=.int h->st=.int h:=λ h e=>by subst e;cases rd;rfl
  rcases vs with⟨p,rfl⟩ | ⟨p,hh⟩
  ·cases rd;obtain⟨o,dx,fs,rfl,ho,_,_,_,_,_,c,ec,rc⟩:=Ob.ex ru;cases rc with
   | tup hc ra =>
    cases ra with
    | cons r1 ra =>
     cases r1;cases ra with
     | cons r2 ra =>
      cases r2;cases ra;refine⟨_,rfl,_,rfl,cK ⟨_,rfl,o,C 1,dx,fs,_,rfl,ho,Z.cls 1 ag,Z.no 1 ag "coin" aA,ec,?_⟩⟩;refine⟨_,.int 0,.int 1,x',y',.int 0,.int 1,rfl,č.of hc,k2,k3,.int _,.int _,λ l H' xe sl=>q l H' xe ⟨sl.1,?_⟩⟩;have e1:((y':Int)-(x':Int)).toNat=y'-x':=ae;show HI K H' l [⟨0,((y':Int)-(x':Int)).toNat,(y':Int).toNat,.int 0⟩,⟨1,(x':Int).toNat,(y':Int).toNat,.int 1⟩];rw [e1,Î,Î];exact sl.2
  ·obtain⟨h,e⟩:∃ h:Int,sd=.int h:=by rcases hh with e | e <;> exact⟨_,e⟩
   have e':=Re h e;subst e e';refine⟨_,rfl,_,rfl,cJ ?_⟩;show lX n1 (kQ (tC (.int 1)) (aq 1)) (tC .ô) _ _ _;exact ko (h:=1-h) (nv:=.ô) (nd:=.none) tA (λ R r=>⟨_,rfl,_,_,rfl,rfl,r⟩) (λ R r=>r) (λ H'=>.ô) λ l H' xe sl=>q l H' xe sl
abbrev Bj:Stmt:=aB (bw 39) 1
theorem Eb:ad ["self","state","at"] ["self","state","at"] (aa Bj):=aF
theorem AZ (Z:KR K C CR)(F:ė K "steps" "Coins.steps" Bj f fd) (A1:Df P w K mg base ay 4 "coin_steps" ["coin","zero","one"] (lW K) a1 d1) (mA:mg "ALL" = some (.ref n1)) (tA:kE K n1 [.int (1:Nat),.int (1:Nat)]):Ò P w K mg base ay 5 f fd ["self","state","at"] (uT K C 2):=by
 refine F.ok Eb (λ vs H Q E h=>?_) (λ cdv A outer s H vs Q E hr h=>?_)
 ·obtain⟨v,st,x,r,sd,rfl,_⟩:=h;rfl
 obtain⟨v,st,x,r,sd,rfl,ru,ek,ok,x0,x1,vs,rd,q⟩:=h;refine⟨az (cp (tB (aT (fL λ i j=>.bl (decide (j<=i))) (aq 1) (kM K (aq 0) "far"))) (lX n1 (tC (.int 0)) (kQ (aq 1) (tC (.int 1)))) bB)
   (az (cp (tB (aT (fL λ i j=>.bl (decide (i<=j))) (aq 1) (Fh (rU λ i=>.int (-i)) (kM K (aq 0) "far")))) (lX n1 (tC (.int 1)) (aT (fL λ i j=>.int (i+j)) (aq 1) (tC (.int 1)))) bB)
   (aV (ie (lW K) [] E0 (aw (kM K (aq 0) "coin") (aw (kQ (aq 1) (tC (.int 1))) (aw (aT (fL λ i j=>.int (i+j)) (aq 1) (tC (.int 1))) aP)))))),
  ba (aG (ar rZ (pv 1) (uD (pv 0) rfl) (av _)) (aK (bh (bJ (ac (aE (ac au (ac (bn (v:=.ref n1) rfl mA rfl) (ac (af bK (pv 1) au) ao)))) ao)))) dm)
  (ba (aG (ar lu (pv 1) (jx gR (uD (pv 0) rfl)) (av _)) (aK (bh (bJ (ac (aE (ac au (ac (bn (v:=.ref n1) rfl mA rfl) (ac (af aM (pv 1) au) ao)))) ao)))) dm)
  (aK (bh (br A1 hr ai (ac (uD (pv 0) rfl) (ac (af bK (pv 1) au) (ac (af aM (pv 1) au) ao))))))),?_⟩
 cases r with
 | split _ _=>cases ek
 | pairs _ _ _=>cases ek
 | ö n a b g =>
  obtain⟨h1,h2,h3,h4,h5⟩:=ok;obtain⟨x',y',ea,eb,k1,k2,k3,kg⟩:=dB h3;subst ea eb;obtain⟨s,rfl,s0,s1⟩:=vs;cases rd;obtain⟨o,dx,fs,rfl,ho,_,_,_,_,_,⟨c,ec,rc⟩,ef⟩:=Ob.ex ru;have fld:∀{R:VK}{fn:Str}{y:V},fn∈fq->fs.lookup fn=some y->R y H->kM K (aq 0) fn [some (.ref o),some (.int s),some (.int x)] H R:=λ hf e r=>⟨_,rfl,o,C 2,dx,fs,_,rfl,ho,Z.cls 2 ag,Z.no 2 ag _ hf,e,r⟩;refine⟨_,rfl,fld aA ef ⟨_,_,rfl,rfl,_,rfl,jk (λ c=>?_) (λ c=>?_)⟩⟩
  ·have c':g<=s:=Û c;refine ko (h:=0) (nv:=.int (s-1)) (nd:=.int (s-1)) tA (λ R r=>r) (λ R r=>⟨_,rfl,_,_,rfl,rfl,r⟩) (λ H'=>.int _) λ l H' xe sl=>q l H' xe ⟨sl.1,?_⟩;simp only [R0.steps];rw [Ï c'];exact sl.2
  ·have c':¬ g<=s:=λ z=>c (Ä z);refine⟨_,rfl,fld aA ef ⟨_,rfl,_,_,rfl,rfl,_,rfl,jk (λ d=>?_) (λ d=>?_)⟩⟩
   ·have d':s <= -g:=Û d;refine ko (h:=1) (nv:=.int (s+1)) (nd:=.int (s+1)) tA (λ R r=>r) (λ R r=>⟨_,rfl,_,_,rfl,rfl,r⟩) (λ H'=>.int _) λ l H' xe sl=>q l H' xe ⟨sl.1,?_⟩;simp only [R0.steps];rw [Ì c',Ï d'];exact sl.2
   ·have d':¬ s <= -g:=λ z=>d (Ä z);cases rc with
    | tup hc ra =>
     cases ra with
     | cons r1 ra =>
      cases r1;cases ra with
      | cons r2 ra =>
       cases r2;cases ra;refine⟨_,rfl,o,C 2,dx,fs,_,rfl,ho,Z.cls 2 ag,Z.no 2 ag "coin" aA,ec,_,rfl,_,_,rfl,rfl,_,rfl,_,_,rfl,rfl,?_⟩;refine⟨_,.int (s-1),.int (s+1),x',y',.int (s-1),.int (s+1),rfl,č.of hc,k2,k3,.int _,.int _,λ l H' xe sl=>q l H' xe ⟨sl.1,?_⟩⟩;have e1:((y':Int)-(x':Int)).toNat=y'-x':=ae;simp only [R0.steps];rw [Ì c',Ì d',e1,Î,Î];exact sl.2
end
theorem KR.inj {K:Frag}{C:Nat->Addr}{CR:Addr}(Z:KR K C CR){i j:Nat}(hi:i<3)(hj:j<3)(e:C i=C j):i=j:=by
 have h1:=Z.kk i j hi hj;have h2:=Z.kk j j hj hj;rw [e,h2] at h1;have:=Ó h1;rw [Ŗ] at this;exact Ą.mp this.symm
section
variable {P:Program}{w:World}{K:Frag}{mg:aX}{base:Heap}{C:Nat->Addr}{CR f a1 n1:Addr}{fd d1:FuncData}
def uh (K:Frag)(C:Nat->Addr)(c:Addr):Sp:=λ vs H Q _=>∃(v st:V)(x:Int)(t:Rl)(sd:PyData),vs=[v,st,.int x]/\Ru C H t v/\C t.kind=c/\t.ok/\0<=x/\x<t.ë/\t.KH x sd/\õ H st sd/\∀ l H',Ext H H'->Fp K H H' l (t.steps sd x)->Q (.ref l) H'
theorem oy (Z:KR K C CR){i:Nat}(hi:i<3){k:Nat}(F:Ò P w K mg base ay k f fd ["self","state","at"] (uT K C i)):Ò P w K mg base ay k f fd ["self","state","at"] (uh K C (C i)):=by
 refine F.imp λ vs H Q E h=>?_;obtain⟨v,st,x,t,sd,rfl,ru,ec,ok,x0,x1,vs,rd,q⟩:=h;have ek:=Z.inj t.Į ae ec;cases t with
 | one r=>exact⟨v,st,x,r,sd,rfl,ru,ek,ok,x0,x1,vs,rd,q⟩
theorem sj {m:Str}{S:Addr->Prop}{sp:Addr->Sp}{E:XK}{ta:TE}{tg:TA}{σ:St}{H:Hp}{Q:VK}{t:Rl}{v:V}(hm:m∈fY)(h:Ru C H t v)(hS:S (C t.kind))(ht:∀ R:VK,R v H->ta σ H R)(q:tg σ H λ vs H2=>sp (C t.kind) (v::vs) H2 Q E):eY S m sp E ta tg σ H Q:=by
 obtain⟨a,dx,fs,rfl,ha,_,_,_,_,h5,_⟩:=h.ob.ex;exact ht _ ⟨a,C t.kind,dx,fs,rfl,hS,ha,h5 m hm,q⟩
end
structure Ib (P:Program)(w:World)(K:Frag)(mg:aX)(base:Heap)(C:Nat->Addr)(CN CS:Addr)(f0 f1 f2:Addr)(e0 e1 e2:FuncData):Prop where
 k0:Mk K (C 0) f0
 k1:Mk K (C 1) f1
 k2:Mk K (C 2) f2
 g0:Ò P w K mg base (bP P w) 4 f0 e0 ["self","folk","ones"] (oF C CN)
 g1:Ò P w K mg base (bP P w) 6 f1 e1 ["self","pairs","coin"] (oG C CN CS)
 g2:Ò P w K mg base (bP P w) 6 f2 e2 ["self","folk","coin","far"] (lh C CN CS)
 b0:Binds K e0 ["self","folk","ones"] []
 b1:Binds K e1 ["self","pairs","coin"] []
 b2:Binds K e2 ["self","folk","coin","far"] []
 m0:mg "Split" = some (.ref (C 0))
 m1:mg "Pairs" = some (.ref (C 1))
 m2:mg "Coins" = some (.ref (C 2))
section
variable {K:Frag}{C:Nat->Addr}{CN CS CT CM:Addr}{H:Hp}{σ:St}{Q:VK}{E:XK}
theorem iR {lo hi n:Int}(h1:lo<=n)(h2:n<=hi):ib lo hi (.int n)=true:=by
 show(decide (lo<=n)&&decide (n<=hi))=true;rw [Ä h1,Ä h2];rfl
theorem tw {n k:Int}{t:TA}(ht:∀ R:List V->Hp->Prop,R [.int n,.int k] H->t σ H R)(ok:(R0.split n k).ok)(q:∀ x H',Ext H H'->Ru C H' (.one (.split n k)) (.ref x)->Q (.ref x) H'):fc (C 0) (oF C CN) [] E0 t σ H Q :=
 ht _ λ x dx hx hd ne=>by
  have xe:=gK (u:=.own x) (v:=.ins (C 0) dx []) hx hd ne;obtain⟨o1,o2,o3,o4⟩:=id ok;refine⟨x,_,_,_,_,dx,rfl,aQ,.int _,.int _,λ h=>(by rw [iR o1 o2] at h;cases h),λ m e _ _ h=>(by cases e;rw [iR o3 o4] at h;cases h),λ n' k' e1 e2 _ H' kp ru=>⟨rfl,?_⟩⟩
  cases e1;cases e2;exact q x H' (xe.kp hx kp) ru
theorem um {n a b:Int}{c:V}{t:TA}(ht:∀ R:List V->Hp->Prop,R [.int n,c] H->t σ H R)(rc:õ H c (.tuple [.int a,.int b]))(ok:(R0.pairs n a b).ok)(q:∀ x H',Ext H H'->Ru C H' (.one (.pairs n a b)) (.ref x)->Q (.ref x) H'):fc (C 1) (oG C CN CS) [] E0 t σ H Q :=
 ht _ λ x dx hx hd ne=>by
  have xe:=gK (u:=.own x) (v:=.ins (C 1) dx []) hx hd ne;obtain⟨o1,o2,o3⟩:=id ok;refine⟨x,_,_,_,_,dx,rfl,aQ,.int _,rc.mono xe,λ h=>(by rw [iR o1 o2] at h;cases h),λ _ h=>(by rw [o3] at h;cases h),λ n' a' b' e1 e2 _ H' kp ru=>⟨rfl,?_⟩⟩
  cases e1;cases e2;exact q x H' (xe.kp hx kp) ru
theorem ub {n a b f:Int}{c:V}{t:TA}(ht:∀ R:List V->Hp->Prop,R [.int n,c,.int f] H->t σ H R)(rc:õ H c (.tuple [.int a,.int b]))(ok:(R0.ö n a b f).ok)(q:∀ x H',Ext H H'->Ru C H' (.one (.ö n a b f)) (.ref x)->Q (.ref x) H'):fc (C 2) (lh C CN CS) [] E0 t σ H Q :=
 ht _ λ x dx hx hd ne=>by
  have xe:=gK (u:=.own x) (v:=.ins (C 2) dx []) hx hd ne;obtain⟨o1,o2,o3,o4,o5⟩:=id ok;refine⟨x,_,_,_,_,_,_,dx,rfl,aQ,.int _,rc.mono xe,.int _,λ h=>(by rw [iR o1 o2] at h;cases h),λ _ h=>(by rw [o3] at h;cases h),λ _ _ h=>(by rw [iR o4 o5] at h;cases h),λ n' a' b' f' e1 e2 e3 _ H' kp ru=>⟨rfl,?_⟩⟩
  cases e1;cases e2;cases e3;exact q x H' (xe.kp hx kp) ru
end
section
variable {P:Program}{w:World}{K:Frag}{mg:aX}{base:Heap}
abbrev yL:Stmt:=bw 24
def xH (K:Frag):Sp:=λ vs H Q _=>∃(p r:Addr)(a b c d:Nat),vs=[.ref p,.ref r]/\č K H p [.int a,.int b]/\č K H r [.int c,.int d]/\Sz a/\Sz b/\Sz c/\Sz d/\1<=b/\1<=d /\
 ∀ l,H l=none->Q (.ref l) (aj H l (.tup [.int (a/Nat.gcd a d*(c/Nat.gcd c b):Nat),.int (b/Nat.gcd c b*(d/Nat.gcd a d):Nat)]))
theorem ME:ad ["one","other","left","right"] ["one","other"] (aa yL):=aF
theorem Aa {f g:Addr}{fd gd:FuncData}(F:ė K "times_share" "times_share" yL f fd) (G:Ò P w K mg base ay 1 g gd ["one","other"] kX) (bG:Binds K gd ["one","other"] []) (kG:keepIn K (.ref g)=true) (mG:mg "greatest_common" = some (.ref g)):Ò P w K mg base ay 2 f fd ["one","other"] (xH K):=by
 refine F.ok ME (λ vs H Q E h=>?_) (λ cdv A outer s H vs Q E hr h=>?_)
 ·obtain⟨p,r,a,b,c,d,rfl,_⟩:=h;rfl
 obtain⟨p,r,a,b,c,d,rfl,hp,Kv,sa,sb,sc,sd,b1,d1,q⟩:=h;have nd:=ME.nd;refine⟨_,ba (dq (i:=2) nd rfl (Or.inl rfl) (nq G hr rfl mG kG bG .nil ai (ac (bC cZ (pv 0) au) (ac (bC cZ (pv 1) au) ao))))
  (ba (dq (i:=3) nd rfl (Or.inl rfl) (nq G hr rfl mG kG bG .nil ai (ac (bC cZ (pv 1) au) (ac (bC cZ (pv 0) au) ao))))
  (aK (bh (aE (ac (af eW (af cA (bC cZ (pv 0) au) (pv 2)) (af cA (bC cZ (pv 1) au) (pv 3)))
   (ac (af eW (af cA (bC cZ (pv 0) au) (pv 3)) (af cA (bC cZ (pv 1) au) (pv 2))) ao)))))),?_⟩
 have l0:0<Nat.gcd a d:=Ĕ a d1;have r0:0<Nat.gcd c b:=Ĕ c b1;have sl:Sz (Nat.gcd a d):=sd.mono (Ŀ d1 (ï a d));have sr:Sz (Nat.gcd c b):=sb.mono (Ŀ b1 (ï c b));have gl:∀ n:Nat,mQ ((n:Nat):Int) ((Nat.gcd a d:Nat):Int):=λ n=>⟨ae,sl.log⟩;have gr:∀ n:Nat,mQ ((n:Nat):Int) ((Nat.gcd c b:Nat):Int):=λ n=>⟨ae,sr.log⟩;have ea:((a:Int)/((Nat.gcd a d:Nat):Int))=((a/Nat.gcd a d:Nat):Int):=by simp
 have ed:((d:Int)/((Nat.gcd a d:Nat):Int))=((d/Nat.gcd a d:Nat):Int):=by simp
 have ec:((c:Int)/((Nat.gcd c b:Nat):Int))=((c/Nat.gcd c b:Nat):Int):=by simp
 have eb:((b:Int)/((Nat.gcd c b:Nat):Int))=((b/Nat.gcd c b:Nat):Int):=by simp
 refine⟨_,rfl,p,_,_,_,rfl,rfl,hp,rfl,_,rfl,r,_,_,_,rfl,rfl,Kv,rfl,a,d,rfl,?_⟩;refine⟨_,rfl,r,_,_,_,rfl,rfl,Kv,rfl,_,rfl,p,_,_,_,rfl,rfl,hp,rfl,c,b,rfl,?_⟩;refine⟨_,rfl,p,_,_,_,rfl,rfl,hp,rfl,_,rfl,_,_,rfl,rfl,gl a,_,rfl,r,_,_,_,rfl,rfl,Kv,rfl,_,rfl,_,_,rfl,rfl,gr c,_,_,rfl,rfl,by rw [ea,ec];exact gm (sa.mono (Ď _ _)) (sc.mono (Ď _ _)),?_⟩
 refine⟨_,rfl,p,_,_,_,rfl,rfl,hp,rfl,_,rfl,_,_,rfl,rfl,gr b,_,rfl,r,_,_,_,rfl,rfl,Kv,rfl,_,rfl,_,_,rfl,rfl,gl d,_,_,rfl,rfl,by rw [eb,ed];exact gm (sb.mono (Ď _ _)) (sd.mono (Ď _ _)),dy,λ l hl=>?_⟩
 have:=q l hl;rw [Ş,Ş,<- ea,<- eb,<- ec,<- ed] at this;exact this
end
def cw (ss:List Τ)(h:Int):Option Τ:=ss.find? λ s=>decide (s.hand=h)
def nK (p:Nat × Nat)(c d:Nat):Nat × Nat:=(p.1/Nat.gcd p.1 d*(c/Nat.gcd c p.2),p.2/Nat.gcd c p.2*(d/Nat.gcd p.1 d))
def fu (t:Rl)(dl:Int):Nat->Nat->PyData->Nat × Nat->Nat × Nat
 | 0,_,_,sh=>sh
 | n+1,x,sd,sh=>match cw (t.steps sd (x:Nat)) (dl/2^x%2) with
  | none=>(0,1)
  | some s=>fu t dl n (x+1) s.next (nK sh s.t s.b)
structure n_ (p:Nat × Nat)(x:Nat):Prop where
 t1:1<=p.1
 tb:p.1<=p.2
 hb:p.2<=100^x
 lo:Nat.gcd p.1 p.2=1
theorem wn {p:Nat × Nat}{c d:Nat}(b1:1<=p.2)(d1:1<=d)(hp:Nat.gcd p.1 p.2=1)(hc:Nat.gcd c d=1):nK p c d=(dG (p.1*c) (p.2*d),bj (p.1*c) (p.2*d)):=by
 obtain⟨h1,h2⟩:=rN b1 d1 hp hc;unfold nK dG bj;rw [h1,h2]
theorem n_.mul {p:Nat × Nat}{x:Nat}{s:Τ}(h:n_ p x)(g:s.good):n_ (nK p s.t s.b) (x+1):=by
 have b1:1<=p.2:=Ô h.t1 h.tb;have d1:1<=s.b:=Ô g.t1 g.tb;rw [wn b1 d1 h.lo g.lo];have k1:1<=p.1*s.t:=La h.t1 g.t1;have k2:p.1*s.t<=p.2*s.b:=La h.tb g.tb;have g0:0<Nat.gcd (p.1*s.t) (p.2*s.b):=Θ _ k1;refine⟨(Nat.le_div_iff_mul_le g0).mpr (by rw [Nat.one_mul];exact Ŀ k1 (ú _ _)),Nat.div_le_div_right k2,?_,?_⟩
 ·refine Ô (Ď _ _) ?_;rw [Nat.pow_succ];exact La h.hb g.K1
 ·unfold dG bj;rw [Nat.gcd_div (ú _ _) (ï _ _)];exact Nat.div_self g0
theorem n_.one:n_ (1,1) 0:=⟨Ç _,Ç _,ag,ag⟩
theorem n_.sz {p:Nat × Nat}{x:Nat}(h:n_ p x)(hx:x<=20):Sz p.1/\Sz p.2:=by
 have e:(100:Nat)^x<=100^20:=ã ag hx;have l:(100:Nat)^20<2^8999:=Í (by decide:(100:Nat)^20<2^140) (ã ag ag)
 have hb:=h.hb;have tb:=h.tb;exact⟨Ń (Ô tb (Ô hb e)) l,Ń (Ô hb e) l⟩
theorem iN {ss:List Τ}{h:Int}{s:Τ}(e:cw ss h=some s):s∈ss/\s.hand=h:=by
 refine⟨List.mem_of_find?_eq_some e,?_⟩;have:=List.find?_some e;exact Û this
theorem oo {α:Type}{xs:List α}{i:Nat}{x:α}(h:xs[i]?=some x):xs.drop i=x::xs.drop (i+1):=by
 obtain⟨hi,rfl⟩:=É.mp h;exact List.drop_eq_getElem_cons hi
section
variable {P:Program}{w:World}{K:Frag}{mg:aX}{base:Heap}{C:Nat->Addr}{CR f a1 a2 a3 a4 n0 n1:Addr}{fd d1 d2 d3 d4:FuncData}
abbrev Gv:Stmt:=bw 44
def DW:Sp:=λ vs H Q _=>∃(x:Int)(i:Nat),vs=[.int x,.int (i:Nat)]/\Q (.int (x/2^i%2)) H
theorem GQ:ad ["dealing","at"] ["dealing","at"] (aa Gv):=aF
theorem Cw (F:ė K "hand_of" "hand_of" Gv f fd):Ò P w K mg base ay 1 f fd ["dealing","at"] DW:=by
 refine F.ok GQ (λ vs H Q E h=>?_) (λ cdv A outer s H vs Q E hr h=>?_)
 ·obtain⟨x,i,rfl,_⟩:=h;rfl
 obtain⟨x,i,rfl,q⟩:=h;refine⟨_,aK (bh (af yR (af A7 (pv 0) (pv 1)) au)),?_⟩;refine⟨_,rfl,_,rfl,_,_,rfl,rfl,(by show(0:Int)<=(i:Int);omega),_,_,rfl,rfl,?_⟩
 show Q (.int (Builtin.bitAnd (x/2^((i:Int)).toNat) 1)) H;rw [PyProof.Rows.bitAnd_m1];exact q
abbrev Fo:Stmt:=bw 43
def DB:Sp:=λ vs H Q _=>∃(x:Int)(n:Nat),vs=[.int x,.int (n:Nat)]/\n<=20/\0<=x/\x<2^n/\Q .ô H
theorem CH:ad ["thing","folk"] ["thing","folk"] (aa Fo):=aF
theorem Dj (F:ė K "need_hands" "need_hands" Fo f fd) (A1:Df P w K mg base ay 2 "is_whole" ["thing","low","high"] (f9 K) a1 d1):Ò P w K mg base ay 3 f fd ["thing","folk"] DB:=by
 refine F.ok CH (λ vs H Q E h=>?_) (λ cdv A outer s H vs Q E hr h=>?_)
 ·obtain⟨x,n,rfl,_⟩:=h;rfl
 obtain⟨x,n,rfl,MP,x0,x1,q⟩:=h;refine⟨_,aK (aG (bD (bf (br A1 hr ai (ac (pv 0) (ac au (ac (af bK (af ft au (pv 1)) au) ao)))))) (aK gE) dm),?_⟩;have th:Th K H (.int x):=(õ.int (G:=H) x).th;refine⟨_,rfl,_,rfl,_,_,rfl,rfl,⟨ae,ae,ag⟩,_,_,rfl,rfl,.int x,0,_,rfl,th,_,rfl,?_⟩;have e:Kq 0 (1*2^(n:Int).toNat-1) (.int x)=true:=by
  show(decide ((0:Int)<=x)&&decide (x<=1*2^(n:Int).toNat-1))=true;rw [Î,Ä x0,Ä ae];rfl
 rw [e];exact cJ q
abbrev Hg:Stmt:=bw 45
abbrev IL:List Str:=["rule","state","at","hand","way","share","behind"]
theorem Og:ad IL ["rule","state","at","hand"] (aa Hg):=aF
def G6 (K:Frag)(H:Hp)(sv nv:V):Option Τ->Prop
 | some s=>MZ K H sv s.t s.b/\õ H nv s.next
 | none=>MZ K H sv 0 1
def Ca (K:Frag)(C:Nat->Addr):Sp:=λ vs H Q _=>∃(v st:V)(x h:Int)(t:Rl)(sd:PyData),vs=[v,st,.int x,.int h]/\Ru C H t v/\t.ok/\0<=x/\x<t.ë/\t.KH x sd/\õ H st sd/\∀ m sv nv H',Ext H H'->H' m=some (.tup [sv,nv])->G6 K H' sv nv (cw (t.steps sd x) h)->Q (.ref m) H'
theorem E5 (F:ė K "step_to" "step_to" Hg f fd) (M:bL P w K mg base ay 7 "steps" ["self","state","at"] (pO C) (uh K C)) (T:Fk K mg n0 n1):Ò P w K mg base ay 8 f fd ["rule","state","at","hand"] (Ca K C):=by
 refine bR F Og λ cdv A outer s H vs Q E hr h=>?_;obtain⟨v,st,x,h,t,sd,rfl,ru,ok,x0,x1,vs,rd,q⟩:=h;have nd:=Og.nd;refine⟨_,ba (dJ Ē rfl (cF (dC (pv 0) M hr ai (ac (pv 1) (ac (pv 2) ao)))) (bI rfl (dZ (cT (i:=4) nd rfl (Or.inl rfl)) (dZ (cT (i:=5) nd rfl (Or.inl rfl)) (dZ (cT (i:=6) nd rfl (Or.inl rfl)) aZ))))
  (aK (aG (ar bu (pv 4) (pv 3) (av _)) (aK (bh (aE (ac (pv 5) (ac (pv 6) ao))))) dm)))
  (aK (bh (aE (ac (bn (v:=.ref n0) rfl T.m0 rfl) (ac (pv 1) ao))))),?_⟩
 refine sj (t:=t) (v:=v) aA ru ⟨_,t.Į,rfl⟩ (λ R r=>⟨_,rfl,r⟩) ⟨_,rfl,_,rfl,v,st,x,t,sd,rfl,ru,rfl,ok,x0,x1,vs,rd,λ l H1 e1 sl=>?_⟩;obtain⟨ps,hl,al⟩:=sl.2;refine⟨l,rfl,⟨_,ÿ.of hl⟩,lG (xs:=ps) (λ i σ H'=>H'=H1/\cw (t.steps sd x) h=cw ((t.steps sd x).drop i) h/\∃ o1 o2 o3,σ=[some v,some st,some (.int x),some (.int h),o1,o2,o3]) ⟨rfl,rfl,_,_,_,rfl⟩ ?_ ?_ ?_⟩
 ·rintro i σ H' _ ⟨rfl,_⟩;exact ÿ.of hl
 ·rintro i p σ H' ep ⟨rfl,fb,o1,o2,o3,rfl⟩;obtain⟨s',es,hs⟩:=al.get ep;obtain⟨a,sv,nv,rfl,ha,h1,h2⟩:=hs;rw [oo es] at fb;refine⟨a,_,rfl,č.of ha,rfl,_,_,rfl,_,_,rfl,_,_,rfl,rfl,?_⟩;refine⟨_,rfl,_,rfl,rfl,_,rfl,jk (λ c=>?_) (λ c=>?_)⟩
  ·have c':s'.hand=h:=V.int.inj (Û c);refine⟨_,rfl,_,rfl,dy,λ b hb=>?_⟩;have x2:=Ext.new (o:=.tup [sv,nv]) hb;refine q b sv nv _ (e1.trans x2) aQ ?_;rw [fb];have e:cw (s'::(t.steps sd x).drop (i+1)) h=some s':=by
    unfold cw;rw [List.find?_cons_of_pos (by exact Ä c')]
   rw [e];exact⟨h1.ext x2,h2.mono x2⟩
  ·have c':¬ s'.hand=h:=λ z=>c (Ä (by rw [z]))
   refine⟨rfl,?_,_,_,_,rfl⟩;rw [fb];unfold cw;rw [List.find?_cons_of_neg (by simpa using c')]
 ·rintro σ H' ⟨rfl,fb,o1,o2,o3,rfl⟩;rw [al.len,List.drop_length] at fb;refine⟨_,rfl,dy,λ b hb=>?_⟩;refine q b (.ref n0) st _ (e1.trans (Ext.new hb)) aQ ?_;rw [fb];exact⟨n0,rfl,.inr T.t0⟩
end
def Rl.share (t:Rl)(dl:Int):Nat × Nat:=fu t dl t.ë.toNat 0 t.begin (1,1)
section
variable {P:Program}{w:World}{K:Frag}{mg:aX}{base:Heap}{C:Nat->Addr}{CR f a1 a2 a3 a4 n0 n1:Addr}{fd d1 d2 d3 d4:FuncData}
abbrev Cj:Stmt:=bw 46
abbrev IF:List Str:=["rule","dealing","whole","state","at","share"]
theorem Nl:ad IF ["rule","dealing"] (aa Cj):=aF
def Ef (K:Frag)(C:Nat->Addr):Sp:=λ vs H Q _=>∃(v:V)(d:Int)(t:Rl),vs=[v,.int d]/\Ru C H t v/\t.ok/\0<=d/\d<2^t.ë.toNat/\∀ r H',Ext H H'->MZ K H' r (t.share d).1 (t.share d).2->Q r H'
theorem Ez (F:ė K "dealing_share" "dealing_share" Cj f fd) (M:Ms P w K mg base C) (T:Fk K mg n0 n1) (A1:Df P w K mg base ay 3 "need_hands" ["thing","folk"] DB a1 d1) (A2:Df P w K mg base ay 8 "step_to" ["rule","state","at","hand"] (Ca K C) a2 d2) (A3:Df P w K mg base ay 1 "hand_of" ["dealing","at"] DW a3 d3) (A4:Df P w K mg base ay 2 "times_share" ["one","other"] (xH K) a4 d4) (mr:mg "range" = none):Ò P w K mg base ay 9 f fd ["rule","dealing"] (Ef K C):=by
 refine bR F Nl λ cdv A outer s H vs Q E hr h=>?_;obtain⟨v,d,t,rfl,ru,ok,d0,Uq,q⟩:=h;have nd:=Nl.nd;have Ĵ:î 1 _:=hr.mono ag;have JA:î 2 _:=hr.mono ag;have KS:î 3 _:=hr.mono ag;have hu:(A.deeper (PyProof.Rows.envOfC "dealing_share" (aa Cj) s.heap.objs.size f cdv)).units<cLine:=hr.b_;refine⟨_,ba (ax (br A1 KS ai (ac (pv 1) (ac (ck (pv 0) M.ë Ĵ ai) ao))))
  (ba (dq (i:=2) nd rfl (Or.inl rfl) (bn (v:=.ref n1) rfl T.m1 rfl))
  (ba (dq (i:=3) nd rfl (Or.inl rfl) (ck (pv 0) M.begin Ĵ ai))
  (ba (dJ Ē rfl (cg rfl mr (ac (ck (pv 0) M.ë Ĵ ai) ao)) (cT (i:=4) nd rfl (Or.inl rfl))
   (ba (gn (br A2 hr ai (ac (pv 0) (ac (pv 3) (ac (pv 4) (ac (br A3 Ĵ ai (ac (pv 1) (ac (pv 4) ao))) ao))))) (bI rfl (dZ (cT (i:=5) nd rfl (Or.inl rfl)) (dZ (cT (i:=3) nd rfl (Or.inl rfl)) aZ))))
   (ba (aG (ar (on hu) (pv 5) (bn (v:=.ref n0) rfl T.m0 rfl) (av _)) (aK (bh (bn (v:=.ref n0) rfl T.m0 rfl))) dm)
   (aK (dq (i:=2) nd rfl (Or.inl rfl) (br A4 JA ai (ac (pv 2) (ac (pv 5) ao))))))))
  (aK (bh (pv 2)))))),?_⟩
 have fk:=Rl.Ο ok;obtain⟨n,en⟩:∃ n:Nat,t.ë =(n:Int):=⟨t.ë.toNat,ae⟩;have Qn:t.ë.toNat=n:=ae;rw [Qn] at Uq;refine⟨_,rfl,cY (t:=t) aA ru (λ R r=>⟨_,rfl,r⟩) ⟨v,t,rfl,ru,?_⟩⟩;rw [en];refine⟨d,n,rfl,ae,d0,Uq,?_⟩;show eY (pO C) "begin" (λ _=>iw C) E0 (aq 0) aP [some v,some (.int d),some (.ref n1),none,none,none] H _;refine cY (t:=t) aA ru (λ R r=>⟨_,rfl,r⟩) ⟨v,t,H,rfl,Ext.refl _,ru,λ b rb=>?_⟩;show eY (pO C) "folk" (λ _=>kh C) E0 (aq 0) aP [some v,some (.int d),some (.ref n1),some b,none,none] H _;refine cY (t:=t) aA ru (λ R r=>⟨_,rfl,r⟩) ⟨v,t,rfl,ru,?_⟩;rw [en];refine⟨(n:Int),rfl,ae,ae,?_⟩;rw [Î];have Wo:t.share d=fu t d n 0 t.begin (1,1):=by unfold Rl.share;rw [Qn]
 refine dw (lo:=0) (n:=n) (λ i σ H'=>Ext H H'/\∃(wv st:V)(sd:PyData)(p:Nat × Nat)(o4 o5:Option V),σ=[some v,some (.int d),some wv,some st,o4,o5]/\MZ K H' wv p.1 p.2/\n_ p i/\õ H' st sd/\(i<n->t.KH (i:Nat) sd)/\t.share d=fu t d (n-i) i sd p) ⟨Ext.refl _,.ref n1,b,t.begin,(1,1),none,none,rfl,⟨n1,rfl,.inr T.t1⟩,n_.one,rb,λ h=>Rl.LY ok ae,Wo⟩ ?_ ?_
 ·rintro i σ H' hi ⟨x',wv,st,sd,p,o4,o5,rfl,hw,so,rs,vv,sh⟩;have P4:=ru.ext x';have ei:(0:Int)+(i:Int)=(i:Int):=Ψ _;show az _ _ _ [some v,some (.int d),some wv,some st,some (.int (0+(i:Int))),o5] H';rw [ei];obtain⟨m,em⟩:∃ m,n-i=m+1:=⟨n-i-1,ae⟩;have YV:n-(i+1)=m:=ae;rw [em] at sh;refine⟨_,rfl,_,rfl,_,rfl,_,rfl,_,rfl,d,i,rfl,?_⟩;have vi:=vv hi;refine⟨v,st,(i:Int),d/2^i%2,t,sd,rfl,P4,ok,ae,ae,vi,rs,λ m' sv nv H1 x1 hm to=>?_⟩;refine⟨m',_,rfl,č.of hm,rfl,_,_,rfl,_,_,rfl,rfl,?_⟩;have gd:=(Rl.Μ ok (x:=(i:Int)) ae ae vi).1;cases es:cw (t.steps sd (i:Nat)) (d/2^i%2) with
  | none =>
   rw [es] at to;obtain⟨r,rfl,hq⟩:=to;refine⟨_,rfl,r,n0,_,_,rfl,rfl,hq,.inr T.t0,rfl,rfl,_,rfl,?_⟩;show if(fZ [.int (0:Nat),.int (1:Nat)] [.int (0:Nat),.int (1:Nat)])=true then _ else _
   rw [w5];refine cK (q (.ref n0) H1 (x'.trans x1) ?_);rw [sh];unfold fu;rw [es];exact⟨n0,rfl,.inr T.t0⟩
  | some s' =>
   rw [es] at to;obtain⟨⟨r,rfl,hq⟩,rn⟩:=to;obtain⟨g,vn⟩:=gd s' (iN es).1;have g1:=g.t1;have g2:=g.tb;have g3:=g.K1;refine⟨_,rfl,r,n0,_,_,rfl,rfl,hq,.inr T.t0,rfl,rfl,_,rfl,?_⟩;show if(fZ [.int (s'.t:Nat),.int (s'.b:Nat)] [.int (0:Nat),.int (1:Nat)])=true then _ else _
   rw [w5,show decide (s'.t=0)=false from Å ae,ĺ];obtain⟨Kh,ew,Xe⟩:=hw;subst ew;have Xd:=My.č.ext Xe x1;have sz:=so.sz ae;have b1:=so.t1;have b2:=so.tb;refine cJ ⟨_,rfl,_,rfl,Kh,r,p.1,p.2,s'.t,s'.b,rfl,Xd,hq,sz.1,sz.2,jL ae,jL g3,ae,ae,λ l hl=>?_⟩;have x2:=Ext.new (o:=.tup [.int (p.1/Nat.gcd p.1 s'.b*(s'.t/Nat.gcd s'.t p.2):Nat),.int (p.2/Nat.gcd s'.t p.2*(s'.b/Nat.gcd p.1 s'.b):Nat)]) hl;refine⟨(x'.trans x1).trans x2,.ref l,nv,s'.next,nK p s'.t s'.b,_,_,rfl,⟨l,rfl,č.of aQ⟩,so.mul g,rn.mono x2,λ h=>?_,?_⟩
   ·have:=vn ae;rw [show((i+1:Nat):Int)=(i:Int)+1 by omega]
    exact this
   ·rw [sh,YV]
    conv=>lhs;unfold fu
    rw [es]
 ·rintro σ H' ⟨x',wv,st,sd,p,o4,o5,rfl,hw,so,rs,vv,sh⟩;refine⟨_,rfl,q wv H' x' ?_⟩;rw [sh,Nat.sub_self];exact hw
end
theorem jU {X:Cx}{ss:List Stmt}:Ũ X ss (λ _ _ _=>False):=λ _ _ _ _ _ _ h=>h.elim
section
variable {P:Program}{w:World}{K:Frag}{mg:aX}{base:Heap}{C:Nat->Addr}{CR CD D fC f a1:Addr}{fd d1 Ju:FuncData}
def xL (CD:Addr):Sp:=λ vs H _ E=>∃(x:V)(d:PyData)(n:Nat),vs=[x,.int (n:Nat)]/\n<=20/\õ H x d/\ib 0 (2^n-1) d=false/\cz CD "found" x H E
theorem Aj (F:ė K "need_hands" "need_hands" Fo f fd) (B:Ī K D) (T:jq K mg D "NoDealing" "found" CD fC Ju) (A1:Df P w K mg base ay 2 "is_whole" ["thing","low","high"] (f9 K) a1 d1):Ò P w K mg base (bP P w) 3 f fd ["thing","folk"] (xL CD):=by
 refine fH F CH λ cdv A outer s H vs Q E hr h=>?_;obtain⟨x,d,n,rfl,MP,rd,bad,q⟩:=h;refine⟨_,aK (aG (bD (bf (br A1 hr ai (ac (pv 0) (ac au (ac (af bK (af ft au (pv 1)) au) ao)))))) (aK (cH B T.cls (T.ok P w base) hr T.bi rfl T.Kn (pv 0))) dm),?_⟩;refine⟨_,rfl,_,rfl,_,_,rfl,rfl,⟨ae,ae,ag⟩,_,_,rfl,rfl,x,0,_,rfl,rd.th,_,rfl,?_⟩;have e:Kq 0 (1*2^(n:Int).toNat-1) x=false:=by
  rw [rd.Kq,Î,a_];exact bad
 rw [e];exact cK ⟨_,rfl,λ e' dx h1 h2 nd=>fv nd (q e' dx h1 h2 nd)⟩
def xt (C:Nat->Addr)(CD:Addr):Sp:=λ vs H _ E=>∃(v x:V)(d:PyData)(t:Rl),vs=[v,x]/\Ru C H t v/\t.ok/\õ H x d/\ib 0 (2^t.ë.toNat-1) d=false/\cz CD "found" x H E
theorem zm (F:ė K "dealing_share" "dealing_share" Cj f fd) (M:Ms P w K mg base C) (A1:Df P w K mg base (bP P w) 3 "need_hands" ["thing","folk"] (xL CD) a1 d1):Ò P w K mg base (bP P w) 4 f fd ["rule","dealing"] (xt C CD):=by
 refine fH F Nl λ cdv A outer s H vs Q E hr h=>?_;obtain⟨v,x,d,t,rfl,ru,ok,rd,bad,q⟩:=h;have Ĵ:î 1 _:=hr.mono ag;refine⟨_,ba (ax (br A1 hr bQ (ac (pv 1) (ac (ck (pv 0) M.ë Ĵ ai) ao)))) jU,?_⟩;have fk:=Rl.Ο ok;obtain⟨n,en⟩:∃ n:Nat,t.ë =(n:Int):=⟨t.ë.toNat,ae⟩;have Qn:t.ë.toNat=n:=ae;rw [Qn] at bad;refine⟨_,rfl,cY (t:=t) aA ru (λ R r=>⟨_,rfl,r⟩) ⟨v,t,rfl,ru,?_⟩⟩;rw [en];exact⟨x,d,n,rfl,ae,rd,bad,q⟩
end
def vo (r:R0)(d:Int):Nat->Nat->PyData->Bool
 | 0,_,_=>true
 | n+1,x,sd=>match ((r.steps sd (x:Nat)).map λ s=>(s.hand,s.next)).find? (λ p=>decide (p.1=d/2^x%2)) with
  | none=>false
  | some p=>vo r d n (x+1) p.2
theorem gN {r r':R0}{d:Int}(h:∀ st x,(r.steps st x).map (λ s=>(s.hand,s.next))=(r'.steps st x).map λ s=>(s.hand,s.next)):∀ n x sd,vo r d n x sd=vo r' d n x sd
 | 0,_,_=>rfl
 | n+1,x,sd=>by
  unfold vo;rw [h];split
  ·rfl
  ·exact gN h n _ _
theorem pE {q:R0}(ok:q.ok){d:Int}:∀(n x:Nat)(sd:PyData)(p:Nat × Nat),((x+n:Nat):Int)=q.ë->q.KH (x:Nat) sd->n_ p x->if vo q d n x sd=true then(fu (.one q) d n x sd p).1≠0 else fu (.one q) d n x sd p=(0,1)
 | 0,x,sd,p,_,_,so=>by
  rw [Ï (show vo q d 0 x sd=true from rfl)];have:=so.t1;show p.1≠0;omega
 | n+1,x,sd,p,e,v,so=>by
  have fd:((q.steps sd (x:Nat)).map λ s=>(s.hand,s.next)).find? (λ p=>decide (p.1=d/2^x%2))=(cw (q.steps sd (x:Nat)) (d/2^x%2)).map λ s=>(s.hand,s.next):=by
   rw [List.find?_map];rfl
  unfold vo fu;rw [fd];show if(match (cw (q.steps sd (x:Nat)) (d/2^x%2)).map λ s=>(s.hand,s.next) with
   | none=>false
   | some p=>vo q d n (x+1) p.2)=true then(match cw (q.steps sd (x:Nat)) (d/2^x%2) with
   | none=>(0,1)
   | some s=>fu (.one q) d n (x+1) s.next (nK p s.t s.b)).1≠0 else(match cw (q.steps sd (x:Nat)) (d/2^x%2) with
   | none=>(0,1)
   | some s=>fu (.one q) d n (x+1) s.next (nK p s.t s.b))=(0,1)
  cases es:cw (q.steps sd (x:Nat)) (d/2^x%2) with
  | none=>rfl
  | some s =>
   obtain⟨g,v'⟩:=(R0.Μ ok ae ae v).1 s (iN es).1;exact pE ok n (x+1) s.next _ (by rw [<- e];congr 1;omega) (by exact_mod_cast v') (so.mul g)
def ur (r:R0)(d:Int):Bool:=vo r d r.ë.toNat 0 r.begin
theorem ll {r:R0}(ok:r.ok)(d:Int):if ur r d=true then((Rl.one r).share d).1≠0 else(Rl.one r).share d=(0,1):=by
 have f:=R0.Ο ok;exact pE ok _ 0 _ (1,1) ae (R0.LY ok) n_.one
def lS:Nat->List (Nat × Nat)
 | 0=>[(0,0)]
 | n+1=>lS n++(lS n).map λ p=>(p.1+2^n,p.2+1)
def lP:Nat->List Nat
 | 0=>[0]
 | n+1=>(lP n).flatMap λ d=>[d+2^(2*n),d+2*2^(2*n)]
def lC (f:Int):Nat->List (Nat × Int)
 | 0=>[(0,0)]
 | n+1=>(lC f n).flatMap λ p=>if p.2=f then [(p.1,p.2-1)] else if p.2 = -f then [(p.1+2^n,p.2+1)] else [(p.1,p.2-1),(p.1+2^n,p.2+1)]
def R0.keys:R0->List Nat
 | .split n k=>((lS n.toNat).filter λ p=>decide (((p.2:Nat):Int)=k)).map (·.1)
 | .pairs n _ _=>lP n.toNat
 | .ö n _ _ f=>(lC f n.toNat).map (·.1)
def R0.small:R0->Prop
 | .split n k=>1<=n/\n<=6/\0<=k/\k<=n
 | .pairs n a b=>1<=n/\n<=3/\cy (.tuple [.int a,.int b])=true/\b<=7
 | .ö n a b f=>1<=n/\n<=6/\cy (.tuple [.int a,.int b])=true/\b<=7/\1<=f/\f<=4
def i8 (ks:List Nat)(m:Nat)(go:Int->Bool):Prop:=ks.Nodup/\0<ks.length/\ks.length<64/\(∀ d∈ks,d<m)/\∀ d:Fin 64,d.val<m->decide (d.val∈ks)=go d.val
instance (ks:List Nat)(m:Nat)(go:Int->Bool):Decidable (i8 ks m go):=by unfold i8;infer_instance
theorem qk:∀ n:Fin 6,∀ k:Fin 7,k.val<=n.val+1->i8 (R0.split (n.val+1:Nat) (k.val:Nat)).keys (2^(n.val+1)) (ur (.split (n.val+1:Nat) (k.val:Nat))):=aA
theorem qE:∀ n:Fin 3,i8 (R0.pairs (n.val+1:Nat) 1 2).keys (2^(2*(n.val+1))) (ur (.pairs (n.val+1:Nat) 1 2)):=aA
theorem qw:∀ n:Fin 6,∀ f:Fin 4,i8 (R0.ö (n.val+1:Nat) 1 2 (f.val+1:Nat)).keys (2^(n.val+1)) (ur (.ö (n.val+1:Nat) 1 2 (f.val+1:Nat))):=aA
theorem R0.small.ok {r:R0}(h:r.small):r.ok:=by
 cases r with
 | split n k=>obtain⟨h1,h2,h3,h4⟩:=h;exact⟨h1,ae,h3,h4⟩
 | pairs n a b=>obtain⟨h1,h2,h3,h4⟩:=h;exact⟨h1,ae,h3⟩
 | ö n a b f=>obtain⟨h1,h2,h3,h4,h5,h6⟩:=h;exact⟨h1,ae,h3,h5,ae⟩
theorem R0.small.fk {r:R0}(h:r.small):1<=r.ë/\r.ë <= 6:=by
 cases r with
 | split n k=>obtain⟨h1,h2,h3,h4⟩:=h;exact⟨h1,h2⟩
 | pairs n a b=>obtain⟨h1,h2,h3,h4⟩:=h;show 1<=2*n/\2*n<=6;omega
 | ö n a b f=>obtain⟨h1,h2,h3,h4,h5,h6⟩:=h;exact⟨h1,h2⟩
theorem R0.small.Kz {r:R0}(h:r.small):i8 r.keys (2^r.ë.toNat) (ur r):=by
 cases r with
 | split n k =>
  obtain⟨h1,h2,h3,h4⟩:=h;obtain⟨m,rfl⟩:∃ m:Nat,n=((m+1:Nat):Int):=⟨n.toNat-1,ae⟩;obtain⟨j,rfl⟩:∃ j:Nat,k=(j:Int):=⟨k.toNat,ae⟩;exact qk ⟨m,ae⟩ ⟨j,ae⟩ (by show j<=m+1;omega)
 | pairs n a b =>
  obtain⟨h1,h2,h3,h4⟩:=h;obtain⟨m,rfl⟩:∃ m:Nat,n=((m+1:Nat):Int):=⟨n.toNat-1,ae⟩;have z:=qE ⟨m,ae⟩;have e:ur (.pairs (m+1:Nat) a b)=ur (.pairs (m+1:Nat) 1 2):=funext λ d=>gN (λ st x=>by cases st <;> rfl) _ _ _
  rw [e];have ef:((2*((m+1:Nat):Int))).toNat=2*(m+1):=ae;show i8 (lP ((m+1:Nat):Int).toNat) (2^(2*((m+1:Nat):Int)).toNat) _;rw [ef];exact z
 | ö n a b f =>
  obtain⟨h1,h2,h3,h4,h5,h6⟩:=h;obtain⟨m,rfl⟩:∃ m:Nat,n=((m+1:Nat):Int):=⟨n.toNat-1,ae⟩;obtain⟨j,rfl⟩:∃ j:Nat,f=((j+1:Nat):Int):=⟨f.toNat-1,ae⟩;have e:ur (.ö (m+1:Nat) a b (j+1:Nat))=ur (.ö (m+1:Nat) 1 2 (j+1:Nat)):=funext λ d=>gN (λ st x=>by
   cases st <;> try rfl
   rename_i s
   simp only [R0.steps];split
   ·rfl
   ·split <;> rfl) _ _ _
  rw [e];exact qw ⟨m,ae⟩ ⟨j,ae⟩
def eX:PyData->Bool
 | .tuple [a,b]=>ib (-99) 99 a&&ka b
 | _=>false
def Ot (K:Frag)(H:Hp)(v:V)(b:Bool):Prop:=(∃ d,õ H v d/\b=eX d)\/(NL K H v "tuple" /\ b=false)
theorem Ot.ext {K:Frag}{H H':Hp}{v:V}{b:Bool}(h:Ot K H v b)(x:Ext H H'):Ot K H' v b:=by
 rcases h with⟨d,r,e⟩ | ⟨n,e⟩
 ·exact .inl ⟨d,r.mono x,e⟩
 ·exact .inr ⟨n.ext x,e⟩
theorem oV {d:PyData}(h:eX d=true):∃(x:Int)(b:Bool),d=.tuple [.int x,.bool b]/\-99<=x/\x<=99:=by
 match d,h with
 | .tuple [a,b],h =>
  have h':(ib (-99) 99 a&&ka b)=true:=h;rw [ğ] at h';obtain⟨i,rfl,h1,h2⟩:=eP h'.1;cases b with
  | bool b=>exact⟨i,b,rfl,h1,h2⟩
  | _=>cases h'.2
theorem Ot.two {K:Frag}{H:Hp}{v:V}(h:Ot K H v true):∃ a n s,v=.ref a/\H a=some (.tup [.int n,.bl s]):=by
 rcases h with⟨d,r,e⟩ | ⟨_,e⟩
 ·obtain⟨n,s,rfl,_⟩:=oV e.symm;cases r with
  | tup ha rs =>
   cases rs with
   | cons r1 rs =>
    cases rs with
    | cons r2 rs =>
     cases rs;cases r1;cases r2;exact⟨_,_,_,rfl,ha⟩
 ·cases e
def pA (K:Frag)(H:Hp)(xs:List V)(bs:List Bool):Prop:=xs.length=bs.length/\∀(i:Nat) x,xs[i]?=some x->∃ b,bs[i]?=some b/\Ot K H x b
section
variable {P:Program}{w:World}{K:Frag}{mg:aX}{base:Heap}
abbrev Gb:Stmt:=bw 51
def BS (K:Frag):Sp:=λ vs H Q _=>∃ v b,vs=[v]/\Ot K H v b/\Q (.bl b) H
theorem On:ad ["thing","number","sure"] ["thing"] (aa Gb):=aF
theorem Dw {f a1:Addr}{fd d1:FuncData}{t1 t2:Tok}(N:uH K)(F:ė K "is_outcome" "is_outcome" Gb f fd) (A1:Df P w K mg base ay 2 "is_whole" ["thing","low","high"] (f9 K) a1 d1) (mL:mg "LEAST_NUMBER" = some (.int (-99) t1)) (mM:mg "MOST_NUMBER" = some (.int 99 t2))
  (mi:mg "isinstance" = none) (mt:mg "tuple" = none) (ml:mg "len" = none) (mb:mg "bool" = none):Ò P w K mg base ay 3 f fd ["thing"] (BS K):=by
 refine F.ok On (λ vs H Q E h=>?_) (λ cdv A outer s H vs Q E hr h=>?_)
 ·obtain⟨v,b,rfl,_⟩:=h;rfl
 obtain⟨v,b,rfl,ot,q⟩:=h;have nd:=On.nd;refine⟨_,ba (aG (PW.pt (gY (bD (bf (am (bH N) rfl mi Ö (ac (pv 0) (ac (fF rfl mt Ĉ) ao))))) (fX (ar hX (am aH rfl ml ò (ac (pv 0) ao)) au (av _))))) (aK (bh l9)) dm)
  (ba (gn (pv 0) (bI rfl (dZ (cT (i:=1) nd rfl (Or.inl rfl)) (dZ (cT (i:=2) nd rfl (Or.inl rfl)) aZ))))
  (aK (bh (eE (br A1 hr ai (ac (pv 1) (ac (bn (v:=.int (-99)) rfl mL ⟨_,rfl⟩) (ac (bn (v:=.int 99) rfl mM ⟨_,rfl⟩) ao)))) (eT (am (bH N) rfl mi Ö (ac (pv 2) (ac (fF rfl mb ŉ) ao)))))))),?_⟩
 rcases ot with⟨d,rd,rfl⟩ | ⟨⟨t,kd,kt⟩,rfl⟩
 rotate_left
 ·exact⟨_,rfl,_,_,_,_,rfl,kd,kt,_,rfl,cK (cK q)⟩
 refine⟨_,rfl,_,_,_,_,rfl,rd.kd,rd.Rm,_,rfl,?_⟩;cases e:uZ d with
 | false =>
  refine cK (cK ?_);have z:eX d=false:=by cases d <;> first | rfl | cases e
  rw [z] at q;exact q
 | true =>
  obtain⟨ds,rfl⟩:∃ ds,d=.tuple ds:=by cases d <;> first | exact⟨_,rfl⟩ | cases e
  obtain⟨a,xs,rfl,ha,rs⟩:=cG rd;refine cJ ⟨_,rfl,a,_,rfl,.inr (č.of ha),rfl,_,rfl,?_⟩;have len:=rs.length;by_cases l2:xs.length=2
  ·obtain⟨u,v,rfl⟩:∃ u v,xs=[u,v]:=by
    match xs,l2 with
    | [u,v],_=>exact⟨u,v,rfl⟩
   cases rs with
   | cons r1 rs =>
    cases rs with
    | cons r2 rs =>
     cases rs;refine cJ ⟨_,rfl,a,_,rfl,č.of ha,rfl,_,_,rfl,_,_,rfl,rfl,?_⟩;refine⟨_,rfl,u,-99,99,rfl,r1.th,_,rfl,?_⟩;rw [r1.Kq]
     rename_i d1 d2
     have qq:Q (.bl (ib (-99) 99 d1&&ka d2)) H:=q;cases e1:ib (-99) 99 d1 with
     | false =>
      rw [e1] at qq;exact cJ qq
     | true =>
      rw [e1] at qq;exact cK ⟨_,rfl,_,_,_,_,rfl,r2.kd,r2.Qe,qq⟩
  ·have e1:(!decide (V.int (xs.length:Nat)=V.int 2))=true:=by
    rw [Å]
    ·rfl
    ·intro h;injection h with h
     omega
   rw [e1];refine cK ?_;have z:eX (.tuple ds)=false:=by
    match ds,len,l2 with
    | [],_,_=>rfl
    | [_],_,_=>rfl
    | [_,_],l,n=>exact absurd l n
    | _::_::_::_,_,_=>rfl
   rw [z] at q;exact q
abbrev F3:Stmt:=bw 52
def yK (K:Frag)(C:Addr):Sp:=λ vs H Q E=>∃(v:V)(b:Bool)(i:Nat),vs=[v,.int (i:Nat)]/\Ot K H v b/\(b=true->Q .ô H)/\(b=false->cz C "place" (.int (i:Nat)) H E)
theorem FH:ad ["thing","place"] ["thing","place"] (aa F3):=aF
theorem CJ {f D C fC a1:Addr}{fd Ju d1:FuncData}(F:ė K "need_outcome" "need_outcome" F3 f fd) (B:Ī K D) (T:jq K mg D "NoOutcome" "place" C fC Ju) (A1:Df P w K mg base ay 3 "is_outcome" ["thing"] (BS K) a1 d1):Ò P w K mg base (bP P w) 4 f fd ["thing","place"] (yK K C):=by
 refine Fw F FH (λ vs H Q E h=>?_) (λ cdv A outer s H vs Q E hr h=>?_)
 ·obtain⟨v,d,n,rfl,_⟩:=h;rfl
 obtain⟨v,d,i,rfl,rd,q1,q2⟩:=h;have JA:=hr.mono (show 2<=3 by decide)
 refine⟨_,aK (aG (bD (bf (br A1 hr ai (ac (pv 0) ao)))) (aK (cH B T.cls (T.ok P w base) JA T.bi rfl T.Kn (pv 1))) dm),?_⟩;refine⟨_,rfl,v,d,rfl,rd,_,rfl,?_⟩;cases e:d with
 | false=>exact cK ⟨_,rfl,λ e' dx h1 h2 nd=>fv nd (q2 e e' dx h1 h2 nd)⟩
 | true=>exact cJ (q1 e)
abbrev AC:Stmt:=bw 53
def xo (K:Frag)(CF CO:Addr):Sp:=λ vs H Q E=>∃(v:V),vs=[v]/\((NL K H v "list" /\ cz CF "found" v H E)\/∃ a xs bs,v=.ref a/\H a=some (.lst xs)/\pA K H xs bs/\(bs.all id=true->∀ H',Ext H H'->Q .ô H')/\∀ i,dX bs i->∀ H',Ext H H'->cz CO "place" (.int (i:Nat)) H' E)
theorem MI:ad ["thing","place","outcome"] ["thing"] (aa AC):=aF
theorem zq {f D CF fC CO a1:Addr}{fd Ju d1:FuncData}(N:uH K)(F:ė K "need_outcomes" "need_outcomes" AC f fd) (B:Ī K D) (T:jq K mg D "NoFolk" "found" CF fC Ju) (A1:Df P w K mg base (bP P w) 4 "need_outcome" ["thing","place"] (yK K CO) a1 d1)
  (mi:mg "isinstance" = none) (ml:mg "list" = none) (me:mg "enumerate" = none):Ò P w K mg base (bP P w) 5 f fd ["thing"] (xo K CF CO):=by
 refine Fw F MI (λ vs H Q E h=>?_) (λ cdv A outer s H vs Q E hr h=>?_)
 ·obtain⟨v,rfl,_⟩:=h;rfl
 obtain⟨v,rfl,h⟩:=h;have nd:=MI.nd;have JA:=hr.mono (show 2<=4 by decide)
 refine⟨_,ba (aG (bD (bf (am (bH N) rfl mi Ö (ac (pv 0) (ac (fF rfl ml Υ) ao))))) (aK (cH B T.cls (T.ok P w base) JA T.bi rfl T.Kn (pv 0))) dm)
  (aK (dJ K_ rfl (j5 rfl me (ac (pv 0) ao)) (bI rfl (dZ (cT (i:=1) nd rfl (Or.inl rfl)) (dZ (cT (i:=2) nd rfl (Or.inl rfl)) aZ)))
   (aK (ax (br A1 hr bQ (ac (pv 2) (ac (pv 1) ao))))))),?_⟩
 rcases h with⟨⟨t,kd,kt⟩,q1⟩ | ⟨a,xs,bs,rfl,ha,⟨ln,ot⟩,qn,qe⟩
 ·exact⟨_,rfl,_,_,_,_,rfl,kd,kt,_,rfl,cK ⟨_,rfl,λ e' dx h1 h2 nd=>fv nd (q1 e' dx h1 h2 nd)⟩⟩
 refine⟨_,rfl,_,_,_,_,rfl,.inl (.lst ha),rfl,_,rfl,cJ ?_⟩;refine⟨_,rfl,a,rfl,⟨_,ÿ.of ha⟩,ld (xs:=xs) (λ i σ H'=>Ext H H'/\(∀(j:Nat) b,j<i->bs[j]?=some b->b=true)/\∃ o1 o2,σ=[some (.ref a),o1,o2]) ⟨Ext.refl _,λ j d h=>absurd h (ζ _),_,_,rfl⟩ ?_ ?_ ?_⟩
 ·rintro i σ H' _ ⟨x',_⟩;exact ÿ.of (x' _ _ ha)
 ·rintro i v σ H' k ev ⟨x',good,o1,o2,rfl⟩ hk;have xk:=Ext.new (o:=.tup [.int (i:Nat),v]) hk;obtain⟨d,ed,rv⟩:=ot i v ev;refine⟨k,_,rfl,č.of aQ,rfl,_,_,rfl,_,_,rfl,rfl,?_⟩;refine⟨_,rfl,_,rfl,v,d,i,rfl,rv.ext (x'.trans xk),λ o=>?_,λ o=>?_⟩
  ·refine⟨x'.trans xk,λ j d' hj hd=>?_,_,_,rfl⟩;rcases Ľ j i with lt | ge
   ·exact good j d' lt hd
   ·have e0:j=i:=ae;subst e0;rw [ed] at hd;cases hd;exact o
  ·exact qe i ⟨good,by rw [ed,o]⟩ _ (x'.trans xk)
 ·rintro σ H' ⟨x',good,o1,o2,rfl⟩;refine qn ?_ H' x';rw [é];intro d hd;obtain⟨j,hj,e⟩:=Ĭ hd;exact good j d (by rw [ln];exact hj) (by rw [Á hj,e])
end
def Fy (n1:Int)(s1:Bool)(n2:Int)(s2:Bool):Int:=if(s2&&decide (n1>n2))=true then 1 else if(s1&&decide (n2>n1))=true then -1 else 0
section
variable {P:Program}{w:World}{K:Frag}{mg:aX}{base:Heap}
abbrev Gw:Stmt:=bw 55
def Cg:Sp:=λ vs H Q _=>∃(a1 a2:Addr)(n1 n2:Int)(s1 s2:Bool),vs=[.ref a1,.ref a2]/\H a1=some (.tup [.int n1,.bl s1])/\H a2=some (.tup [.int n2,.bl s2])/\Q (.bl (s2&&decide (n1>n2))) H
theorem Gq:ad ["one","other"] ["one","other"] (aa Gw):=aF
theorem EF {f:Addr}{fd:FuncData}(F:ė K "surely_greater" "surely_greater" Gw f fd):Ò P w K mg base ay 1 f fd ["one","other"] Cg:=by
 refine bR F Gq λ cdv A outer s H vs Q E hr h=>?_;obtain⟨a1,a2,n1,n2,s1,s2,rfl,h1,h2,q⟩:=h;refine⟨_,aK (bh (eE (bC cZ (pv 1) au) (eT (bX lO (bC cZ (pv 0) au) (bC cZ (pv 1) au) (av _))))),?_⟩;refine⟨_,rfl,a2,_,_,_,rfl,rfl,č.of h2,fm (j:=1) rfl,_,rfl,?_⟩;cases s2 with
 | false=>exact cJ q
 | true=>exact cK ⟨_,rfl,a1,_,_,_,rfl,rfl,č.of h1,fm (j:=0) rfl,_,rfl,a2,_,_,_,rfl,rfl,č.of h2,fm (j:=0) rfl,_,_,rfl,rfl,q⟩
abbrev FG:Stmt:=bw 56
def mj (K:Frag)(CO:Addr):Sp:=λ vs H Q E=>∃(v1 v2:V)(b1 b2:Bool),vs=[v1,v2]/\Ot K H v1 b1/\Ot K H v2 b2/\(b1=false->cz CO "place" (.int (0:Nat)) H E)/\(b1=true->b2=false->cz CO "place" (.int (1:Nat)) H E) /\
 ∀ a1 a2 n1 n2 s1 s2,v1=.ref a1->v2=.ref a2->H a1=some (.tup [.int n1,.bl s1])->H a2=some (.tup [.int n2,.bl s2])->b1=true->b2=true->Q (.int (Fy n1 s1 n2 s2)) H
theorem Hi:ad ["one","other"] ["one","other"] (aa FG):=aF
theorem DR {f CO a1 a2:Addr}{fd d1 d2:FuncData}(F:ė K "stands_to" "stands_to" FG f fd) (A1:Df P w K mg base (bP P w) 4 "need_outcome" ["thing","place"] (yK K CO) a1 d1) (A2:Df P w K mg base ay 1 "surely_greater" ["one","other"] Cg a2 d2):Ò P w K mg base (bP P w) 5 f fd ["one","other"] (mj K CO):=by
 refine fH F Hi λ cdv A outer s H vs Q E hr h=>?_;obtain⟨v1,v2,b1,b2,rfl,o1,o2,e1,e2,q⟩:=h;have Ĵ:î 1 _:=hr.mono ag;refine⟨_,ba (ax (br A1 hr bQ (ac (pv 0) (ac au ao)))) (ba (ax (br A1 hr bQ (ac (pv 1) (ac au ao))))
  (ba (aG (bf (br A2 Ĵ ai (ac (pv 0) (ac (pv 1) ao)))) (aK (bh au)) dm)
  (ba (aG (bf (br A2 Ĵ ai (ac (pv 1) (ac (pv 0) ao)))) (aK (bh (jx gR au))) dm)
  (aK (bh au))))),?_⟩
 refine⟨_,rfl,v1,b1,0,rfl,o1,λ h1=>⟨_,rfl,v2,b2,1,rfl,o2,λ h2=>?_,λ h2=>e2 h1 h2⟩,λ h1=>e1 h1⟩;subst h1 h2;obtain⟨p1,n1,s1,rfl,t1⟩:=o1.two;obtain⟨p2,n2,s2,rfl,t2⟩:=o2.two;have qq:=q p1 p2 n1 n2 s1 s2 rfl rfl t1 t2 rfl rfl;unfold Fy at qq;refine⟨_,rfl,_,rfl,p1,p2,n1,n2,s1,s2,rfl,t1,t2,_,rfl,?_⟩;cases g1:s2&&decide (n1>n2) with
 | true=>rw [g1,Ï rfl] at qq;exact cK qq
 | false =>
  rw [g1,Ì ag] at qq;refine cJ ⟨_,rfl,_,rfl,p2,p1,n2,n1,s2,s1,rfl,t2,t1,_,rfl,?_⟩;cases g2:s1&&decide (n2>n1) with
  | true=>rw [g2,Ï rfl] at qq;exact cK ⟨1,rfl,qq⟩
  | false=>rw [g2,Ì ag] at qq;exact cJ qq
abbrev AJ:Stmt:=bw 54
def oJ (K:Frag)(CF CO:Addr):Sp:=λ vs H Q E=>∃(v:V)(n:Int),vs=[v,.int n]/\((NL K H v "list" /\ cz CF "found" v H E)\/∃ a xs bs,v=.ref a/\H a=some (.lst xs)/\pA K H xs bs/\(bs.all id=true->∀ H',Ext H H'->if(xs.length:Int)=n then Q .ô H' else cz CF "found" (.int (xs.length:Nat)) H' E)/\∀ i,dX bs i->∀ H',Ext H H'->cz CO "place" (.int (i:Nat)) H' E)
theorem ED:ad ["thing","folk"] ["thing","folk"] (aa AJ):=aF
theorem yu {f D CF fC CO a1:Addr}{fd Ju d1:FuncData}(F:ė K "need_outcomes_of" "need_outcomes_of" AJ f fd) (B:Ī K D) (T:jq K mg D "NoFolk" "found" CF fC Ju) (A1:Df P w K mg base (bP P w) 5 "need_outcomes" ["thing"] (xo K CF CO) a1 d1) (ml:mg "len" = none):Ò P w K mg base (bP P w) 6 f fd ["thing","folk"] (oJ K CF CO):=by
 refine Fw F ED (λ vs H Q E h=>?_) (λ cdv A outer s H vs Q E hr h=>?_)
 ·obtain⟨v,n,rfl,_⟩:=h;rfl
 obtain⟨v,n,rfl,h⟩:=h;have JA:=hr.mono (show 2<=5 by decide)
 refine⟨_,ba (ax (br A1 hr bQ (ac (pv 0) ao)))
  (aK (aG (ar hX (am aH rfl ml ò (ac (pv 0) ao)) (pv 1) (av _)) (aK (cH B T.cls (T.ok P w base) JA T.bi rfl T.Kn (am aH rfl ml ò (ac (pv 0) ao)))) dm)),?_⟩
 rcases h with⟨nk,q1⟩ | ⟨a,xs,bs,rfl,ha,ot,qn,qe⟩
 ·exact⟨_,rfl,v,rfl,.inl ⟨nk,q1⟩⟩
 ·refine⟨_,rfl,_,rfl,.inr ⟨a,xs,bs,rfl,ha,ot,λ al H' x'=>?_,qe⟩⟩;have q:=qn al H' x';refine⟨_,rfl,a,xs,rfl,.inl (ÿ.of (x' _ _ ha)),_,rfl,rfl,_,rfl,?_⟩;by_cases e:(xs.length:Int)=n
  ·rw [Ï e] at q;rw [Ä (by rw [e])]
   exact cJ q
  ·rw [Ì e] at q;rw [Å (λ z=>e (V.int.inj z))];exact cK ⟨_,rfl,a,xs,rfl,.inl (ÿ.of (x' _ _ ha)),λ e' dx h1 h2 nd=>fv nd (q e' dx h1 h2 nd)⟩
abbrev zJ:Stmt:=bw 58
def HX (H:Hp)(v:V)(o:Int × Bool):Prop:=∃ a,v=.ref a/\H a=some (.tup [.int o.1,.bl o.2])
def uI (H:Hp)(xs:List V)(os:List (Int × Bool)):Prop:=xs.length=os.length/\∀(i:Nat) x o,xs[i]?=some x->os[i]?=some o->HX H x o
def rj (CU:Addr):Sp:=λ vs H Q E=>∃ a xs os,vs=[.ref a]/\H a=some (.lst xs)/\uI H xs os/\((os.map (·.2)).all id=true->∀ H',Ext H H'->Q .ô H')/\∀ i,dX (os.map (·.2)) i->∀ H',Ext H H'->cz CU "place" (.int (i:Nat)) H' E
theorem MH:ad ["outcomes","place","outcome"] ["outcomes"] (aa zJ):=aF
theorem Aw {f D CU fC:Addr}{fd Ju:FuncData}(F:ė K "need_sure" "need_sure" zJ f fd) (B:Ī K D) (T:jq K mg D "NotSure" "place" CU fC Ju) (me:mg "enumerate" = none):Ò P w K mg base (bP P w) 3 f fd ["outcomes"] (rj CU):=by
 refine fH F MH λ cdv A outer s H vs Q E hr h=>?_;obtain⟨a,xs,os,rfl,ha,⟨ln,oc⟩,qn,qe⟩:=h;have nd:=MH.nd;have JA:=hr;refine⟨_,aK (dJ K_ rfl (j5 rfl me (ac (pv 0) ao)) (bI rfl (dZ (cT (i:=1) nd rfl (Or.inl rfl)) (dZ (cT (i:=2) nd rfl (Or.inl rfl)) aZ)))
   (aK (aG (bD (bf (bC cZ (pv 2) au))) (aK (cH B T.cls (T.ok P w base) JA T.bi rfl T.Kn (pv 1))) dm))),?_⟩
 refine⟨_,rfl,a,rfl,⟨_,ÿ.of ha⟩,ld (xs:=xs) (λ i σ H'=>Ext H H'/\(∀(j:Nat) b,j<i->(os.map (·.2))[j]?=some b->b=true)/\∃ o1 o2,σ=[some (.ref a),o1,o2]) ⟨Ext.refl _,λ j d h=>absurd h (ζ _),_,_,rfl⟩ ?_ ?_ ?_⟩
 ·rintro i σ H' _ ⟨x',_⟩;exact ÿ.of (x' _ _ ha)
 ·rintro i v σ H' k ev ⟨x',good,o1,o2,rfl⟩ hk;have xk:=Ext.new (o:=.tup [.int (i:Nat),v]) hk;have li:i<os.length:=by rw [<- ln];exact(É.mp ev).1
  obtain⟨b,rfl,hb⟩:=oc i v _ ev (Á li);have em:(os.map (·.2))[i]?=some os[i].2:=by rw [Ù,Á li];rfl
  refine⟨k,_,rfl,č.of aQ,rfl,_,_,rfl,_,_,rfl,rfl,?_⟩;refine⟨_,rfl,b,_,_,_,rfl,rfl,č.of (xk _ _ (x' _ _ hb)),fm (j:=1) rfl,_,rfl,?_⟩;cases hs:os[i].2 with
  | true =>
   refine cJ ⟨x'.trans xk,λ j d' hj hd=>?_,_,_,rfl⟩;rcases Ľ j i with lt | ge
   ·exact good j d' lt hd
   ·have e0:j=i:=ae;subst e0;rw [em,hs] at hd;cases hd;rfl
  | false =>
   refine cK ⟨_,rfl,λ e' dx h1 h2 nd=>fv nd (qe i ⟨good,by rw [em,hs]⟩ _ (x'.trans xk) e' dx h1 h2 nd)⟩
 ·rintro σ H' ⟨x',good,o1,o2,rfl⟩;refine qn ?_ H' x';rw [é];intro d hd;obtain⟨j,hj,e⟩:=Ĭ hd;exact good j d (by rw [ln];simpa using hj) (by rw [List.getElem?_eq_getElem hj,e])
end
section
variable {prog:Program}{w:World}{A:Around}{E:bz}{s:Shared}
theorem oS {it t:Addr}{i:Nat} {items}{x:Value}{Q:bz}(hit:s.heap.IsTupleIter it t i)(ht:s.heap.IsTuple t items)(hx:items[i]?=some x)
  (hQ:∀ h',h'.IsTupleIter it t (i+1)->Heap.SameBut it s.heap h'->Q x { s with heap:=h' }):wpAny (model prog w) A (Builtin.SmallTypes.nextOf (.ref it)) Q E s:=by
 obtain⟨⟨o,ho,hc,hd⟩,⟨ol,Rz,_,nl,RU⟩⟩:=And.intro (id hit) ht;unfold Builtin.SmallTypes.nextOf;refine À (ĝ (name:=Str.ofString "__next__") hit.typeIs ŀ (ý ŀ hit.typeIs F.entry_tuple_iterator_next ?_ (M' _)));show wpAny _ _ (field (.ref it) 0>>=_) _ _ s;refine À (è ho hd (x:=.ref t) rfl ?_);show wpAny _ _ (if(Value.ref t==Value.none)=true then _ else _) _ _ s;rw [Ì (show ¬ ((Value.ref t==Value.none)=true) from Ê)]
 show wpAny _ _ (field (.ref it) 1>>=_) _ _ s;refine À (è ho hd (x:=.int i 0) rfl ?_);show wpAny _ _ (seqItems? (.ref t)>>=_) _ _ s;refine À (ĥ Rz RU ?_);simp only [Int.toNat_natCast,hx];refine À (Jj ho hd (by simp) (wpAny_pure ⟨x,rfl,wpAny_pure (hQ _ ⟨_,Heap.get?_update_self _ ho (Obj.isFreed_of_fields (Obj.data_mapFields hd _)),(Obj.cls_mapFields ..).trans hc,?_⟩ (Heap.SameBut.update ..))⟩))
 rw [KC hd];simp [rawInt]
theorem rg {it t:Addr}{i:Nat} {items}{Q:bz}(hh:A.handled=none)(hit:s.heap.IsTupleIter it t i)(ht:s.heap.IsTuple t items)(hx:items[i]?=none)
  (hE:∀ h' e,Heap.ExtBut it s.heap h'->(∃ o,h'.get? e=some o/\o.cls=.type "StopIteration")->E (.ref e) { s with heap:=h' }):wpAny (model prog w) A (Builtin.SmallTypes.nextOf (.ref it)) Q E s:=by
 obtain⟨⟨o,ho,hc,hd⟩,⟨ol,Rz,_,nl,RU⟩⟩:=And.intro (id hit) ht;unfold Builtin.SmallTypes.nextOf;refine À (ĝ (name:=Str.ofString "__next__") hit.typeIs ŀ (ý ŀ hit.typeIs F.entry_tuple_iterator_next ?_ (M' _)));show wpAny _ _ (field (.ref it) 0>>=_) _ _ s;refine À (è ho hd (x:=.ref t) rfl ?_);show wpAny _ _ (if(Value.ref t==Value.none)=true then _ else _) _ _ s;rw [Ì (show ¬ ((Value.ref t==Value.none)=true) from Ê)]
 show wpAny _ _ (field (.ref it) 1>>=_) _ _ s;refine À (è ho hd (x:=.int i 0) rfl ?_);show wpAny _ _ (seqItems? (.ref t)>>=_) _ _ s;refine À (ĥ Rz RU ?_);simp only [Int.toNat_natCast,hx];refine À (ő (À (Jj ho hd (by simp) ?_)));show wpAny _ _ (newExc (.type "StopIteration") []>>=_) _ _ _
 refine À ?_;simp only [newExc,newTuple];refine À (Ĝ ?_ (by size_fits))
 refine À (m:=firstArgMember _ _) (Mu (a:=Value.none) (by first | rfl | (simp only [firstArgMember];rfl)) (Ĝ ?_ (by size_fits)))
 simp only [raiseNew];refine À (wpAny_handled ?_)
 first | rw [show A.in1.handled=none from hh] | rw [hh]
 exact À (Ã (wpAny_throw (hE _ _ (((Heap.SameBut.update ..).extBut.push _).push _) ⟨_,Ë _ rfl,rfl⟩)))
abbrev ju (h:Heap)(z TI TO:Addr)(f0 f1:Value):Prop:=h.get? z=some { cls:=.type "zip",dict:=none,data:=.fields #[f0,f1,.bool false,.ref TI,.ref TO],slots:=#[] }
def HC (f0:Value):Prop:=f0=.none\/∃ a:Int,f0=rawInt a
theorem vj {a:Addr}{Q:Option Obj->Shared->Prop}(h:Q (s.heap.get? a) s):wpAny (model prog w) A (loadIfAlive a) Q E s:=λ _ _ _=>by
 unfold loadIfAlive;rw [Sem.wp_loadIfAlive];exact h
theorem pp {z TI TO:Addr}{f0:Value}{b:Bool}{Q:Bool->Shared->Prop}(hz:ju s.heap z TI TO f0 (.bool b))(ow:HC f0)(h1:Q true s)
  (h2:∀ h',ju h' z TI TO f0 (.bool true)->Heap.SameBut z s.heap h'->Q false { s with heap:=h' }):wpAny (model prog w) A (Builtin.SmallTypes.ownedTupleIsFree (.ref z)) Q E s:=by
 unfold Builtin.SmallTypes.ownedTupleIsFree;refine À (è hz rfl (x:=f0) rfl ?_);rcases ow with rfl | ⟨a,rfl⟩
 ·exact Ã h1
 ·show wpAny _ _ (loadIfAlive a.toNat>>=_) _ _ s;refine À (vj ?_);cases s.heap.get? a.toNat with
  | none=>exact Ã h1
  | some o =>
   show wpAny _ _ (field (.ref z) 1>>=_) _ _ s;refine À (è hz rfl (x:=.bool b) rfl ?_);cases b with
   | true =>
    refine Ã ?_;have e:=h2 s.heap hz ⟨rfl,λ _ _=>rfl⟩;exact e
   | false =>
    show wpAny _ _ (setField (.ref z) 1 (.bool true)>>=_) _ _ s;exact À (û hz (by simp) λ h' Qg O7=>wpAny_pure (h2 h' Qg O7))
structure wg (z TI TO i1 i2 l1 l2:Addr):Prop where
 a1:TI≠z
 a2:TO≠z
 a3:i1≠z
 a4:i2≠z
 a5:TI≠TO
 a6:TI≠i1
 a7:TI≠i2
 a8:TO≠i1
 a9:TO≠i2
 b1:i1≠i2
 b2:l1≠z
 b3:l1≠TO
 b4:l1≠i1
 b5:l1≠i2
 b6:l2≠z
 b7:l2≠TO
 b8:l2≠i1
 b9:l2≠i2
structure JD (h:Heap)(z TI TO i1 i2 l1 l2:Addr)(k:Nat):Prop where
 zo:∃ f0 b,ju h z TI TO f0 (.bool b)/\HC f0
 ti:IsPair h TI (.ref i1) (.ref i2)
 to:∃ a b,IsPair h TO a b
 j1:h.IsListIter i1 l1 k
 j2:h.IsTupleIter i2 l2 k
def hG (h h':Heap)(z TO i1 i2:Addr):Prop:=∀ c o,c≠z->c≠TO->c≠i1->c≠i2->h.get? c=some o->h'.get? c=some o
theorem wH {z TI TO i1 i2 l1 l2:Addr}{k:Nat}{xs ys:Array Value}{x y:Value}{Q:bz}(D:wg z TI TO i1 i2 l1 l2)(hz:JD s.heap z TI TO i1 i2 l1 l2 k)(g1:s.heap.IsList l1 xs)(g2:s.heap.IsTuple l2 ys)(hx:xs[k]?=some x)(hy:ys[k]?=some y)
  (hQ:∀ h',JD h' z TI TO i1 i2 l1 l2 (k+1)->IsPair h' s.heap.objs.size x y->h'.objs.size=s.heap.objs.size+1->hG s.heap h' z TO i1 i2->Q (.ref s.heap.objs.size) { s with heap:=h' }) :
  wpAny (model prog w) A (Builtin.«zip.__next__» ⟨[.ref z],[]⟩) (λ fin s'=>∃ v,fin=.done (.ret v)/\Q v s') E s:=by
 obtain⟨⟨f0,b,zo,ow⟩,ti,⟨ta,tb,to⟩,j1,j2⟩:=hz;show wpAny _ _ (field (.ref z) 2>>=_) _ _ _;refine À (è zo rfl (x:=.bool false) rfl ?_);show wpAny _ _ (field (.ref z) 3>>=_) _ _ _;refine À (è zo rfl (x:=.ref TI) rfl (À (ĥ ti rfl ?_)));show wpAny _ _ (Builtin.SmallTypes.ownedTupleIsFree (.ref z)>>=_) _ _ _;refine À (pp zo ow ?_ λ h1 Lf s1=>?_)
 ·simp only [if_true];refine À (ő (À (è zo rfl (x:=.ref TO) rfl (À (û zo (by simp) λ h1 Lf s1=>?_)))))
  have Lf:ju h1 z TI TO .ellipsis (.bool b):=Lf;have L_:=j1.extBut s1.extBut D.a3;have Nu:=j2.extBut s1.extBut D.a4;have Mj:=g1.extBut s1.extBut D.b2;have NF:=g2.extBut s1.extBut D.b6;have QE:IsPair h1 TO ta tb:=s1.extBut _ _ D.a2 to;refine À ?_;simp only [List.zipIdx_cons,List.zipIdx_nil,List.forIn_cons,List.forIn_nil];refine À (À (ο ?_));show wpAny _ _ (Builtin.SmallTypes.nextOf (.ref i1)>>=_) _ _ _;refine À (Ś L_ Mj hx λ h2 O1 s2=>Ã ?_);have s2:Heap.SameBut i1 h1 h2:=s2;have to2:IsPair h2 TO ta tb:=s2.extBut _ _ D.a8 QE;refine À (ĥ to2 rfl (À (Jh to2 λ h3 to3 s3=>À (wpAny_letGo (Ã ?_)))));have s3:Heap.SameBut TO h2 h3:=s3;have to3:IsPair h3 TO x tb:=to3;have Nt:=(Nu.extBut s2.extBut D.b1.symm).extBut s3.extBut D.a9.symm;have NE:=(NF.extBut s2.extBut D.b8).extBut s3.extBut D.b7;refine À (À (ο ?_));show wpAny _ _ (Builtin.SmallTypes.nextOf (.ref i2)>>=_) _ _ _;refine À (oS Nt NE hy λ h4 Rj s4=>Ã ?_);have s4:Heap.SameBut i2 h3 h4:=s4;have SC:IsPair h4 TO x tb:=s4.extBut _ _ D.a9 to3;refine À (ĥ SC rfl (À (Jh SC λ h5 P0 s5=>À (wpAny_letGo (Ã (Ã ?_))))));have s5:Heap.SameBut TO h4 h5:=s5;have P0:IsPair h5 TO x y:=P0;have sz:h5.objs.size=s.heap.objs.size:=by rw [s5.1,s4.1,s3.1,s2.1,s1.1]
  have up:hG s.heap h5 z TO i1 i2:=λ c o c1 c2 c3 c4 e=>s5.extBut _ _ c2 (s4.extBut _ _ c4 (s3.extBut _ _ c2 (s2.extBut _ _ c3 (s1.extBut _ _ c1 e))));have Sd:ju h5 z TI TO .ellipsis (.bool b):=s5.extBut _ _ D.a2.symm (s4.extBut _ _ D.a4.symm (s3.extBut _ _ D.a2.symm (s2.extBut _ _ D.a3.symm Lf)));have W5:=((O1.extBut s3.extBut D.a8.symm).extBut s4.extBut D.b1).extBut s5.extBut D.a8.symm;have W4:=Rj.extBut s5.extBut D.a9.symm;refine À (ĥ P0 rfl (À (wpAny_newTuple ?_)));show wpAny _ _ (Builtin.SmallTypes.ownedTupleHandOut (.ref z) (.ref h5.objs.size)>>=_) _ _ _;have UI:ju (h5.push { cls:=.type "tuple",data:=.seq #[x,y] }) z TI TO .ellipsis (.bool b):=Â _ Sd;refine À ?_;unfold Builtin.SmallTypes.ownedTupleHandOut;refine À (û UI (by simp) λ h7 Qu s7=>?_)
  have Qu:ju h7 z TI TO (rawInt h5.objs.size) (.bool b):=Qu;refine û Qu (by simp) λ h8 Qt s8=>wpAny_pure ⟨_,rfl,?_⟩
  have Qt:ju h8 z TI TO (rawInt h5.objs.size) (.bool false):=Qt;have N7:∀ c o,c≠z->h5.get? c=some o->h8.get? c=some o:=λ c o c1 e=>s8.extBut _ _ c1 (s7.extBut _ _ c1 (Â _ e));show Q (.ref h5.objs.size) _;have nz:s.heap.objs.size≠z:=by rw [<- sz];exact Ŋ (È Sd)
  rw [sz];refine hQ _ ⟨⟨_,false,Qt,.inr ⟨_,rfl⟩⟩,N7 _ _ D.a1 (up _ _ D.a1 D.a5 D.a6 D.a7 ti),⟨x,y,N7 _ _ D.a2 P0⟩,W5.at λ o e=>N7 _ o D.a3 e,W4.at λ o e=>N7 _ o D.a4 e⟩ ?_ (by rw [s8.1,s7.1,ì,sz]) λ c o c1 c2 c3 c4 e=>N7 c o c1 (up c o c1 c2 c3 c4 e)
  exact s8.extBut _ _ nz (s7.extBut _ _ nz (by rw [<- sz];exact Ë _ rfl))
 ·simp only [Bool.false_eq_true,if_false];have L_:=j1.extBut s1.extBut D.a3;have Nu:=j2.extBut s1.extBut D.a4;have Mj:=g1.extBut s1.extBut D.b2;have NF:=g2.extBut s1.extBut D.b6;refine À ?_;rw [<- ů];simp only [List.forIn_cons,List.forIn_nil];refine À (À (Ú ?_));show wpAny _ _ (Builtin.SmallTypes.nextOf (.ref i1)>>=_) _ _ _;refine À (Ś L_ Mj hx λ h2 O1 s2=>Ã (Ã ?_));have Nt:=Nu.extBut s2.extBut D.b1.symm;have NE:=NF.extBut s2.extBut D.b8;refine À (À (Ú ?_));show wpAny _ _ (Builtin.SmallTypes.nextOf (.ref i2)>>=_) _ _ _;refine À (oS Nt NE hy λ h3 Rj s3=>Ã (Ã (Ã ?_)));show wpAny _ _ (newTuple [x,y]>>=_) _ _ _;have s2:Heap.SameBut i1 h1 h2:=s2;have s3:Heap.SameBut i2 h2 h3:=s3;have sz:h3.objs.size=s.heap.objs.size:=by rw [s3.1,s2.1,s1.1]
  have up:hG s.heap h3 z TO i1 i2:=λ c o c1 c2 c3 c4 e=>s3.extBut _ _ c4 (s2.extBut _ _ c3 (s1.extBut _ _ c1 e));refine À (wpAny_newTuple (Ã ⟨_,rfl,?_⟩));show Q (.ref h3.objs.size) _;rw [sz];refine hQ _ ⟨⟨f0,true,Â _ (s3.extBut _ _ D.a4.symm (s2.extBut _ _ D.a3.symm Lf)),ow⟩,Â _ (up _ _ D.a1 D.a5 D.a6 D.a7 ti),⟨ta,tb,Â _ (s3.extBut _ _ D.a9 (s2.extBut _ _ D.a8 (s1.extBut _ _ D.a2 to)))⟩,(O1.extBut s3.extBut D.b1).at λ o e=>Â _ e,Rj.at λ o e=>Â _ e⟩ ?_ (by rw [ì,sz]) λ c o c1 c2 c3 c4 e=>Â _ (up c o c1 c2 c3 c4 e)
  rw [<- sz];exact Ë _ rfl
theorem zt {z TI TO i1 i2 l1 l2:Addr}{k:Nat}{xs ys:Array Value}{Q:Fin->Shared->Prop}(hh:A.handled=none)(D:wg z TI TO i1 i2 l1 l2)(hz:JD s.heap z TI TO i1 i2 l1 l2 k)(g1:s.heap.IsList l1 xs)(g2:s.heap.IsTuple l2 ys)(hn:xs[k]?=none\/ys[k]?=none)
  (hE:∀ h' e,hG s.heap h' z TO i1 i2->(∃ o,h'.get? e=some o/\o.cls=.type "StopIteration")->E (.ref e) { s with heap:=h' }) :
  wpAny (model prog w) A (Builtin.«zip.__next__» ⟨[.ref z],[]⟩) Q E s:=by
 obtain⟨⟨f0,b,zo,ow⟩,ti,⟨ta,tb,to⟩,j1,j2⟩:=hz;show wpAny _ _ (field (.ref z) 2>>=_) _ _ _;refine À (è zo rfl (x:=.bool false) rfl ?_);show wpAny _ _ (field (.ref z) 3>>=_) _ _ _;refine À (è zo rfl (x:=.ref TI) rfl (À (ĥ ti rfl ?_)));show wpAny _ _ (Builtin.SmallTypes.ownedTupleIsFree (.ref z)>>=_) _ _ _;refine À (pp zo ow ?_ λ h1 Lf s1=>?_)
 ·simp only [if_true];refine À (ő (À (è zo rfl (x:=.ref TO) rfl (À (û zo (by simp) λ h1 Lf s1=>?_)))))
  have Lf:ju h1 z TI TO .ellipsis (.bool b):=Lf;have L_:=j1.extBut s1.extBut D.a3;have Nu:=j2.extBut s1.extBut D.a4;have Mj:=g1.extBut s1.extBut D.b2;have NF:=g2.extBut s1.extBut D.b6;have QE:IsPair h1 TO ta tb:=s1.extBut _ _ D.a2 to;have leave:∀(h2:Heap)(e:Addr),ju h2 z TI TO .ellipsis (.bool b)->hG s.heap h2 z TO i1 i2->(∃ o,h2.get? e=some o/\o.cls=.type "StopIteration")->wpAny (model prog w) A (setField (.ref z) 0 .none) (λ _ s'=>E (.ref e) s') E { s with heap:=h2 }:=λ h2 e z2 u2 he=>by
   obtain⟨oe,RC,Tl⟩:=he;have XO:e≠z:=λ q=>by subst q;rw [z2] at RC;cases RC;simp at Tl
   exact û z2 (by simp) λ h3 _ s3=>hE h3 e (λ c o c1 c2 c3 c4 q=>s3.extBut _ _ c1 (u2 c o c1 c2 c3 c4 q)) ⟨oe,s3.extBut _ _ XO RC,Tl⟩
  refine À ?_;simp only [List.zipIdx_cons,List.zipIdx_nil,List.forIn_cons,List.forIn_nil];refine À (À (ο ?_));show wpAny _ _ (Builtin.SmallTypes.nextOf (.ref i1)>>=_) _ _ _;cases hx:xs[k]? with
  | none =>
   refine À (wpAny_nextOf_list_end hh L_ Mj hx λ h2 e s2 he=>?_);have s2:Heap.ExtBut i1 h1 h2:=s2;exact leave h2 e (s2 _ _ D.a3.symm Lf) (λ c o c1 c2 c3 c4 q=>s2 _ _ c3 (s1.extBut _ _ c1 q)) he
  | some x =>
   have hy:ys[k]?=none:=hn.resolve_left (by rw [hx];simp)
   refine À (Ś L_ Mj hx λ h2 O1 s2=>Ã ?_);have s2:Heap.SameBut i1 h1 h2:=s2;have to2:IsPair h2 TO ta tb:=s2.extBut _ _ D.a8 QE;refine À (ĥ to2 rfl (À (Jh to2 λ h3 to3 s3=>À (wpAny_letGo (Ã ?_)))));have s3:Heap.SameBut TO h2 h3:=s3;have Nt:=(Nu.extBut s2.extBut D.b1.symm).extBut s3.extBut D.a9.symm;have NE:=(NF.extBut s2.extBut D.b8).extBut s3.extBut D.b7;refine À (À (ο ?_));show wpAny _ _ (Builtin.SmallTypes.nextOf (.ref i2)>>=_) _ _ _;refine À (rg hh Nt NE hy λ h4 e s4 he=>?_);have s4:Heap.ExtBut i2 h3 h4:=s4;exact leave h4 e (s4 _ _ D.a4.symm (s3.extBut _ _ D.a2.symm (s2.extBut _ _ D.a3.symm Lf))) (λ c o c1 c2 c3 c4 q=>s4 _ _ c4 (s3.extBut _ _ c2 (s2.extBut _ _ c3 (s1.extBut _ _ c1 q)))) he
 ·simp only [Bool.false_eq_true,if_false];have L_:=j1.extBut s1.extBut D.a3;have Nu:=j2.extBut s1.extBut D.a4;have Mj:=g1.extBut s1.extBut D.b2;have NF:=g2.extBut s1.extBut D.b6;refine À ?_;rw [<- ů];simp only [List.forIn_cons,List.forIn_nil];refine À (À (Ú ?_));show wpAny _ _ (Builtin.SmallTypes.nextOf (.ref i1)>>=_) _ _ _;cases hx:xs[k]? with
  | none =>
   refine À (wpAny_nextOf_list_end hh L_ Mj hx λ h2 e s2 he=>?_);have s2:Heap.ExtBut i1 h1 h2:=s2;exact hE h2 e (λ c o c1 c2 c3 c4 q=>s2 _ _ c3 (s1.extBut _ _ c1 q)) he
  | some x =>
   have hy:ys[k]?=none:=hn.resolve_left (by rw [hx];simp)
   refine À (Ś L_ Mj hx λ h2 O1 s2=>Ã (Ã ?_));have s2:Heap.SameBut i1 h1 h2:=s2;have Nt:=Nu.extBut s2.extBut D.b1.symm;have NE:=NF.extBut s2.extBut D.b8;refine À (À (Ú ?_));show wpAny _ _ (Builtin.SmallTypes.nextOf (.ref i2)>>=_) _ _ _;refine À (rg hh Nt NE hy λ h3 e s3 he=>?_);have s3:Heap.ExtBut i2 h2 h3:=s3;exact hE h3 e (λ c o c1 c2 c3 c4 q=>s3 _ _ c4 (s2.extBut _ _ c3 (s1.extBut _ _ c1 q))) he
end
theorem JD.keep {h h':Heap}{z TI TO i1 i2 l1 l2:Addr}{k:Nat}(a:JD h z TI TO i1 i2 l1 l2 k)(u:∀ b ∈ [z,TI,TO,i1,i2],∀ o,h.get? b=some o->h'.get? b=some o):JD h' z TI TO i1 i2 l1 l2 k:=by
 obtain⟨⟨f0,b,zo,ow⟩,ti,⟨ta,tb,to⟩,j1,j2⟩:=a;exact⟨⟨f0,b,u z (by simp) _ zo,ow⟩,u TI (by simp) _ ti,⟨ta,tb,u TO (by simp) _ to⟩,j1.at λ o e=>u i1 (by simp) o e,j2.at λ o e=>u i2 (by simp) o e⟩
section
variable {prog:Program}{w:World}{A:Around}{E:bz}{s:Shared}
theorem JD.ty {z TI TO i1 i2 l1 l2:Addr}{k:Nat}(a:JD s.heap z TI TO i1 i2 l1 l2 k):s.TypeIs (.ref z) "zip" := by
 obtain⟨⟨f0,b,zo,ow⟩,_⟩:=a;exact⟨_,zo,rfl⟩
theorem CY {z TI TO i1 i2 l1 l2:Addr}{k:Nat}{xs ys:Array Value}{x y:Value}{Q:bz}(D:wg z TI TO i1 i2 l1 l2)(hz:JD s.heap z TI TO i1 i2 l1 l2 k)(g1:s.heap.IsList l1 xs)(g2:s.heap.IsTuple l2 ys)(hx:xs[k]?=some x)(hy:ys[k]?=some y)
  (hQ:∀ h',JD h' z TI TO i1 i2 l1 l2 (k+1)->IsPair h' s.heap.objs.size x y->h'.objs.size=s.heap.objs.size+1->hG s.heap h' z TO i1 i2->Q (.ref s.heap.objs.size) { s with heap:=h' }) :
  wpAny (model prog w) A (Builtin.SmallTypes.nextOf (.ref z)) Q E s:=by
 unfold Builtin.SmallTypes.nextOf;exact À (ĝ (name:=Str.ofString "__next__") hz.ty F' (ý F' hz.ty F.entry_zip_next (wH D hz g1 g2 hx hy λ h' a b c d=>Ã (hQ h' a b c d)) (F.args_zip_next_1 _)))
theorem D9 {z TI TO i1 i2 l1 l2:Addr}{k:Nat}{xs ys:Array Value}{Q:bz}(hh:A.handled=none)(D:wg z TI TO i1 i2 l1 l2)(hz:JD s.heap z TI TO i1 i2 l1 l2 k)(g1:s.heap.IsList l1 xs)(g2:s.heap.IsTuple l2 ys)(hn:xs[k]?=none\/ys[k]?=none)
  (hE:∀ h' e,hG s.heap h' z TO i1 i2->(∃ o,h'.get? e=some o/\o.cls=.type "StopIteration")->E (.ref e) { s with heap:=h' }):wpAny (model prog w) A (Builtin.SmallTypes.nextOf (.ref z)) Q E s:=by
 unfold Builtin.SmallTypes.nextOf;exact À (ĝ (name:=Str.ofString "__next__") hz.ty F' (ý F' hz.ty F.entry_zip_next (zt hh D hz g1 g2 hn hE) (F.args_zip_next_1 _)))
theorem DK {e z TI TO i1 i2 l1 l2:Addr}{k:Nat}{xs ys:Array Value}{x y old:Value}{Q:Option Value->Shared->Prop}(D:wg z TI TO i1 i2 l1 l2)(he:IsEnum s.heap e z k old)(hz:JD s.heap z TI TO i1 i2 l1 l2 k)(g1:s.heap.IsList l1 xs)(g2:s.heap.IsTuple l2 ys)(hx:xs[k]?=some x)(hy:ys[k]?=some y)
  (ne:∀ b ∈ [z,TI,TO,i1,i2],b≠e)
  (hQ:∀ h',IsEnumOut h' e z ((k:Int)+1) (.ref s.heap.objs.size) (s.heap.objs.size+1)->JD h' z TI TO i1 i2 l1 l2 (k+1)->IsPair h' s.heap.objs.size x y->h'.get? (s.heap.objs.size+1)=some { cls:=.type "tuple",data:=.seq #[.int k s.toks,.ref s.heap.objs.size] } ->
   (∀ c o,c≠e->c≠z->c≠TO->c≠i1->c≠i2->s.heap.get? c=some o->h'.get? c=some o)->Q (some (.ref (s.heap.objs.size+1))) { s with heap:=h',toks:=s.toks+1 }) :
  wpAny (model prog w) A (pyNext (.ref e)) Q E s:=by
 have hT:s.TypeIs (.ref e) "enumerate" :=⟨_,he,rfl⟩;have el:=È he;have nz:e≠z:=(ne z (by simp)).symm
 have WU:e≠TO:=(ne TO (by simp)).symm
 have n1:e≠i1:=(ne i1 (by simp)).symm
 have n2:e≠i2:=(ne i2 (by simp)).symm
 unfold pyNext;refine À (ň (ĝ (name:=Str.ofString "__next__") hT ť (ý ť hT F.entry_enumerate_next ?_ (F.args_enumerate_next_1 _))));show wpAny _ _ (field (.ref e) 2>>=_) _ _ _;refine À (è he rfl (x:=.ref z) rfl (À (CY D hz g1 g2 hx hy λ h1 za pr Wh kz=>?_)));have RT:IsEnum h1 e z k old:=kz _ _ nz WU n1 n2 he;show wpAny _ _ (field (.ref e) 3>>=_) _ _ _;refine À (è RT rfl (x:=rawInt k) rfl ?_);show wpAny _ _ (field (.ref e) 4>>=_) _ _ _;refine À (è RT rfl (x:=.none) rfl ?_);show wpAny _ _ (mkInt k>>=_) _ _ _;refine À (wpAny_mkInt ?_);show wpAny _ _ (setField (.ref e) 3 (rawInt ((k:Int)+1))>>=_) _ _ _;refine À (û RT (by simp) λ h2 MU s2=>wpAny_bind (wpAny_setField_rec (show IsEnum h2 e z ((k:Int)+1) old from MU) (by simp) λ h3 RS s3=>?_))
 have s2:Heap.SameBut e h1 h2:=s2;have s3:Heap.SameBut e h2 h3:=s3;have RS:IsEnum h3 e z ((k:Int)+1) old:=RS;have Oa:h3.objs.size=s.heap.objs.size+1:=by rw [s3.1,s2.1,Wh]
 show wpAny _ _ (newTuple [.int k s.toks,.ref s.heap.objs.size]>>=_) _ _ _;refine À (wpAny_newTuple ?_);have Qj:IsEnum (h3.push { cls:=.type "tuple",data:=.seq #[.int k s.toks,.ref s.heap.objs.size] }) e z ((k:Int)+1) old:=Â _ RS;have t4:(h3.push { cls:=.type "tuple",data:=.seq #[.int k s.toks,.ref s.heap.objs.size] }).get? (s.heap.objs.size+1)=some { cls:=.type "tuple",data:=.seq #[.int k s.toks,.ref s.heap.objs.size] }:=by rw [<- Oa];exact Ë _ rfl
 have u4:∀ c o,c≠e->h1.get? c=some o->(h3.push { cls:=.type "tuple",data:=.seq #[.int k s.toks,.ref s.heap.objs.size] }).get? c=some o:=λ c o ce q=>Â _ (s3.extBut _ _ ce (s2.extBut _ _ ce q));show wpAny _ _ (Builtin.SmallTypes.ownedTupleIsFree (.ref e)>>=_) _ _ _;rw [Oa];generalize (h3.push { cls:=.type "tuple",data:=.seq #[.int k s.toks,.ref s.heap.objs.size] })=h4 at Qj t4 u4;refine À ?_;unfold Builtin.SmallTypes.ownedTupleIsFree;refine À (è Qj rfl (x:=.none) rfl (Ã ?_));simp only [if_true];refine À (ő (À (è Qj rfl (x:=old) rfl (À (û Qj (by simp) λ h5 RR s5=>?_)))))
 have s5:Heap.SameBut e h4 h5:=s5;have RR:IsEnum h5 e z ((k:Int)+1) (.ref s.heap.objs.size):=RR;show wpAny _ _ (Builtin.SmallTypes.ownedTupleHandOut (.ref e) (.ref (s.heap.objs.size+1))>>=_) _ _ _;refine À ?_;unfold Builtin.SmallTypes.ownedTupleHandOut;refine À (û RR (by simp) λ h6 RQ s6=>?_)
 have RQ:IsEnumOut h6 e z ((k:Int)+1) (.ref s.heap.objs.size) (s.heap.objs.size+1):=RQ;refine û RQ (by simp) λ h7 XQ s7=>wpAny_bind (wpAny_letGo (wpAny_pure ⟨_,rfl,wpAny_pure ?_⟩))
 have s6:Heap.SameBut e h5 h6:=s6;have s7:Heap.SameBut e h6 h7:=s7;have u7:∀ c o,c≠e->h4.get? c=some o->h7.get? c=some o:=λ c o ce q=>s7.extBut _ _ ce (s6.extBut _ _ ce (s5.extBut _ _ ce q));have na:s.heap.objs.size≠e:=Ŋ el;have nb:s.heap.objs.size+1≠e:=Ŋ (ŋ el);exact hQ h7 XQ (za.keep λ b hb o q=>u7 b o (ne b hb) (u4 b o (ne b hb) q)) (u7 _ _ na (u4 _ _ na pr)) (u7 _ _ nb t4) λ c o ce c1 c2 c3 c4 q=>u7 c o ce (u4 c o ce (kz c o c1 c2 c3 c4 q))
theorem sZ {e z TI TO i1 i2 l1 l2:Addr}{k:Nat}{i:Int}{xs ys:Array Value}{old:Value}{Q:Option Value->Shared->Prop}(hh:A.handled=none)(D:wg z TI TO i1 i2 l1 l2)(he:IsEnum s.heap e z i old)(hz:JD s.heap z TI TO i1 i2 l1 l2 k)(g1:s.heap.IsList l1 xs)(g2:s.heap.IsTuple l2 ys)(hn:xs[k]?=none\/ys[k]?=none)
  (hQ:∀ h',hG s.heap h' z TO i1 i2->Q none { s with heap:=h' }):wpAny (model prog w) A (pyNext (.ref e)) Q E s:=by
 have hT:s.TypeIs (.ref e) "enumerate" :=⟨_,he,rfl⟩;unfold pyNext;refine À (ň (ĝ (name:=Str.ofString "__next__") hT ť (ý ť hT F.entry_enumerate_next ?_ (F.args_enumerate_next_1 _))));show wpAny _ _ (field (.ref e) 2>>=_) _ _ _;refine À (è he rfl (x:=.ref z) rfl (À (D9 hh D hz g1 g2 hn λ h' x kz Js=>?_)));obtain⟨o,ho,hc⟩:=Js;exact À (ũ (T:="StopIteration") (b:=true) ⟨o,ho,hc⟩ isSubtype_stop (Ã (hQ _ kz)))
end
end My
namespace My
open PySem PySem.W L2
open PyProof.Rows (Call_ boot_enumerate)
open AutoSeq1 (wpAny_loadPart')
def BH (h:Heap)(l1:Addr):Heap:=h.push { cls:=.type "list_iterator",data:=.fields #[.ref l1,.int 0 0] }
def A6 (h:Heap)(l1 l2:Addr):Heap:=(BH h l1).push { cls:=.type "tuple_iterator",data:=.fields #[.ref l2,.int 0 0] }
def Ao (h:Heap)(l1 l2:Addr):Heap:=(A6 h l1 l2).push { cls:=.type "tuple",data:=.seq #[.ref h.objs.size,.ref (BH h l1).objs.size] }
def zg (h:Heap)(l1 l2:Addr):Heap:=(Ao h l1 l2).push { cls:=.type "tuple",data:=.seq #[.none,.none] }
def wp (h:Heap)(l1 l2:Addr):Heap:=(zg h l1 l2).push { cls:=.type "zip",data:=.fields #[.none,.bool false,.bool false,.ref (A6 h l1 l2).objs.size,.ref (Ao h l1 l2).objs.size] }
theorem vP (l1 l2:Addr)(xs ys:Array Value):Meets (Builtin.«zip.__new__» ⟨[.type "zip",.ref l1,.ref l2],[]⟩) (λ _ R s=>s.heap.IsList l1 xs/\s.heap.IsTuple l2 ys/\R (.ok (.ret (.ref (zg s.heap l1 l2).objs.size))) { s with heap:=wp s.heap l1 l2 }) :=
 .of_wp λ prog w A R s h=>by
  obtain⟨hp,g,d,tk,os⟩:=s;obtain⟨NA,Jg,h⟩:=h;have O6:=sub_zip;have k1:Heap.IsList (Shared.heap ⟨hp,g,d,tk,os⟩) l1 xs:=NA;have k2:Heap.IsTuple (Shared.heap ⟨hp.push { cls:=.type "list_iterator",data:=.fields #[.ref l1,.int 0 0] },g,d,tk,os⟩) l2 ys:=by
   obtain⟨o,ho,r⟩:=Jg;exact⟨o,Â _ ho,r⟩
  wp_walk using K8 k1,wpAny_pyIter_tuple k2
  exact⟨_,rfl,h⟩
theorem qy (z:Addr)(TI TO:Addr):Meets (Builtin.«enumerate.__new__» ⟨[.type "enumerate",.ref z],[]⟩) (λ _ R s=>IsZip s.heap z TI TO .none /\
   R (.ok (.ret (.ref s.heap.objs.size))) { s with heap:=s.heap.push { cls:=.type "enumerate",data:=.fields #[.none,.bool false,.ref z,rawInt 0,.none,.none] } }) :=
 .of_wp λ prog w A R s h=>by
  obtain⟨hp,g,d,tk,os⟩:=s;obtain⟨hl,h⟩:=h;have O6:=sub_enumerate;have hL:IsZip (Shared.heap ⟨hp,g,d,tk,os⟩) z TI TO .none:=hl
  wp_walk using M3 hl
  refine wpAny_stack_any λ st=>Ã ?_;split
  ·rename_i c _ _ _ _ _
   cases (c==Value.type "enumerate") <;>(wp_walk using M3 hl,wpAny_pyIter_zip hL) <;> exact⟨_,rfl,h⟩
  ·wp_walk using M3 hl,wpAny_pyIter_zip hL
   exact⟨_,rfl,h⟩
section
variable {prog:Program}{w:World}{A:Around}{E:bz}{s:Shared}
theorem pT {z TI TO:Addr}{Q:bz}(hz:IsZip s.heap z TI TO .none)
  (h:∀ h',IsEnum h' s.heap.objs.size z 0 .none->h'.objs.size=s.heap.objs.size+1->(∀ b o,s.heap.get? b=some o->h'.get? b=some o)->Q (.ref s.heap.objs.size) { s with heap:=h' }) :
  wpAny (model prog w) A (call (.type "enumerate") [.ref z]) Q E s:=by
 refine callType_new F.called_enumerate ag (F.typeCall_enumerate_1 _) (F.newCall_enumerate_1 _) (λ obj=>F.args_object_init_2 obj _) F.entry_enumerate_new (qy z TI TO) ⟨hz,?_⟩;have g:=Ë s.heap (o:={ cls:=.type "enumerate",data:=.fields #[.none,.bool false,.ref z,rawInt 0,.none,.none] }) rfl;exact⟨⟨_,g,rfl⟩,h _ g (ì ..) λ b o q=>Â _ q⟩
theorem wD {l1 l2:Addr}{xs ys:Array Value}{Q:bz}(NA:s.heap.IsList l1 xs)(Jg:s.heap.IsTuple l2 ys)
  (h:∀ h',IsZip h' (s.heap.objs.size+4) (s.heap.objs.size+2) (s.heap.objs.size+3) .none->JD h' (s.heap.objs.size+4) (s.heap.objs.size+2) (s.heap.objs.size+3) s.heap.objs.size (s.heap.objs.size+1) l1 l2 0->h'.objs.size=s.heap.objs.size+5 ->
   (∀ c o,s.heap.get? c=some o->h'.get? c=some o)->Q (.ref (s.heap.objs.size+4)) { s with heap:=h' }):wpAny (model prog w) A (call (.type "zip") [.ref l1,.ref l2]) Q E s:=by
 refine callType_new F.called_zip ag (F.typeCall_zip_2 _ _) (F.newCall_zip_2 _ _) (λ obj=>F.args_object_init_3 obj _ _) F.entry_zip_new (vP l1 l2 xs ys) ⟨NA,Jg,?_⟩;have z1:(BH s.heap l1).objs.size=s.heap.objs.size+1:=ì ..;have z2:(A6 s.heap l1 l2).objs.size=s.heap.objs.size+2:=by unfold A6;rw [ì,z1]
 have z3:(Ao s.heap l1 l2).objs.size=s.heap.objs.size+3:=by unfold Ao;rw [ì,z2]
 have z4:(zg s.heap l1 l2).objs.size=s.heap.objs.size+4:=by unfold zg;rw [ì,z3]
 have z5:(wp s.heap l1 l2).objs.size=s.heap.objs.size+5:=by unfold wp;rw [ì,z4]
 have u5:∀ c o,(zg s.heap l1 l2).get? c=some o->(wp s.heap l1 l2).get? c=some o:=λ c o q=>Â _ q;have u4:∀ c o,(Ao s.heap l1 l2).get? c=some o->(wp s.heap l1 l2).get? c=some o:=λ c o q=>u5 c o (Â _ q);have u3:∀ c o,(A6 s.heap l1 l2).get? c=some o->(wp s.heap l1 l2).get? c=some o:=λ c o q=>u4 c o (Â _ q);have u2:∀ c o,(BH s.heap l1).get? c=some o->(wp s.heap l1 l2).get? c=some o:=λ c o q=>u3 c o (Â _ q);have u1:∀ c o,s.heap.get? c=some o->(wp s.heap l1 l2).get? c=some o:=λ c o q=>u2 c o (Â _ q);have g5:(wp s.heap l1 l2).get? (zg s.heap l1 l2).objs.size=some _:=Ë _ rfl;have g4:=u5 _ _ (show(zg s.heap l1 l2).get? (Ao s.heap l1 l2).objs.size=some _ from Ë _ rfl);have g3:=u4 _ _ (show(Ao s.heap l1 l2).get? (A6 s.heap l1 l2).objs.size=some _ from Ë _ rfl);have g2:=u3 _ _ (show(A6 s.heap l1 l2).get? (BH s.heap l1).objs.size=some _ from Ë _ rfl);have g1:=u2 _ _ (show(BH s.heap l1).get? s.heap.objs.size=some _ from Ë _ rfl);show _/\_;rw [z2,z3,z4] at g5;rw [z1,z2] at g3;rw [z3] at g4;rw [z1] at g2;rw [z4];exact⟨⟨_,g5,rfl⟩,h _ g5 ⟨⟨_,_,g5,.inl rfl⟩,g3,⟨_,_,g4⟩,⟨_,g1,rfl,rfl⟩,⟨_,g2,rfl,rfl⟩⟩ z5 u1⟩
end
end My
namespace My
open PySem PySem.W L2
open PyProof.Rows (Call_ boot_enumerate)
section
variable {X:Cx}{pins:List (Addr × Obj)}{σ:St}{H:Hp}{s:Shared}{h':Heap}
theorem wx {t':Nat}{ch:List Addr}{xs ys:List V}(I:Inv X pins σ H s)(F:∀ b∈ch,fK X pins H b)(k:∀ b o,b ∉ ch->s.heap.get? b=some o->h'.get? b=some o)
  (o1:ñ X.prog X.w (aj (aj H s.heap.objs.size (.tup xs)) (s.heap.objs.size+1) (.tup ys)) h' s.heap.objs.size (.tup xs)) (o2:ñ X.prog X.w (aj (aj H s.heap.objs.size (.tup xs)) (s.heap.objs.size+1) (.tup ys)) h' (s.heap.objs.size+1) (.tup ys)) :
  Inv X pins σ (aj (aj H s.heap.objs.size (.tup xs)) (s.heap.objs.size+1) (.tup ys)) { s with heap:=h',toks:=t' }:=by
 have f1:H s.heap.objs.size=none:=I.þ.fresh (Ç _);have f2:H (s.heap.objs.size+1)=none:=I.þ.fresh (ń _);have up:∀ b u,H b=some u->aj (aj H s.heap.objs.size (.tup xs)) (s.heap.objs.size+1) (.tup ys) b=some u:=λ b u e=>by
  rw [ah (λ z=>by rw [z,f2] at e;cases e),ah (λ z=>by rw [z,f1] at e;cases e)]
  exact e
 have dn:∀ b,b<s.heap.objs.size->aj (aj H s.heap.objs.size (.tup xs)) (s.heap.objs.size+1) (.tup ys) b=H b:=λ b l=>by
  rw [ah (Ñ (ŋ l)),ah (Ñ l)]
 have Ll:∀ b u,H b=some u->b ∉ ch:=λ b u e z=>by
  have:=(F b z).1;rw [this] at e;cases e
 refine I.step (g':=s.gens) (d':=s.drawn) (ch:=ch) (λ b hb=>?_) (λ b o _ _ hc e _=>k b o hc e) (λ b o _ _ hc e _=>⟨o.slots,k b o hc e⟩) (λ b o _ e n=>by rw [dn b (È e)];exact n)
  (λ b o hc e=>⟨o,k b o hc e⟩) (λ b _ e=>up _ _ e) (λ _ _ _ e=>up _ _ e) (λ b ps e=>⟨#[],by rw [up _ _ e];simp⟩) (λ q=>?_) (λ m hm=>?_) (λ b u e=>?_) I.bare
 ·obtain⟨_,a,_,b',c,d⟩:=F b hb;exact⟨b',a,c,d⟩
 ·rw [dn _ (ļ (by decide:sysModules<mainGlobals) (I.mod.glob.keeps I.bk).lt)]
  exact q
 ·obtain⟨o,es,ep,ho,r⟩:=hm;exact⟨o,es,ep,k _ o (λ z=>(F _ z).2.1 rfl) ho,r⟩
 ·by_cases z2:b=s.heap.objs.size+1
  ·subst z2;rw [aQ] at e;cases e;exact o2
  ·by_cases z1:b=s.heap.objs.size
   ·subst z1;rw [ah z2,aQ] at e;cases e;exact o1
   ·rw [ah z2,ah z1] at e;refine(I.þ b u e).π (λ c v hc q=>k c v ?_ q) (λ c q=>up _ _ q) λ c zs q=>up _ _ q;rcases hc with z | z
    ·rw [z];exact Ll _ _ e
    ·exact Ll _ _ z
theorem vQ {t':Nat}{ch:List Addr}(I:Inv X pins σ H s)(F:∀ b∈ch,fK X pins H b)(k:∀ b o,b ∉ ch->s.heap.get? b=some o->h'.get? b=some o):Inv X pins σ H { s with heap:=h',toks:=t' }:=by
 have Ll:∀ b u,H b=some u->b ∉ ch:=λ b u e z=>by
  have:=(F b z).1;rw [this] at e;cases e
 refine I.step (g':=s.gens) (d':=s.drawn) (ch:=ch) (λ b hb=>?_) (λ b o _ _ hc e _=>k b o hc e) (λ b o _ _ hc e _=>⟨o.slots,k b o hc e⟩) (λ _ _ _ _ n=>n)
  (λ b o hc e=>⟨o,k b o hc e⟩) (λ _ _ e=>e) (λ _ _ _ e=>e) (λ b ps e=>⟨#[],by rw [e];simp⟩) (λ q=>q) (λ m hm=>?_) (λ b u e=>?_) I.bare
 ·obtain⟨_,a,_,b',c,d⟩:=F b hb;exact⟨b',a,c,d⟩
 ·obtain⟨o,es,ep,ho,r⟩:=hm;exact⟨o,es,ep,k _ o (λ z=>(F _ z).2.1 rfl) ho,r⟩
 ·refine(I.þ b u e).π (λ c v hc q=>k c v ?_ q) (λ _ q=>q) λ _ _ q=>q;rcases hc with z | z
  ·rw [z];exact Ll _ _ e
  ·exact Ll _ _ z
end
def Cr (K:Frag)(a b:Addr):It :=
 ⟨λ i H=>∃ xs ys x y,ÿ K H a xs/\č K H b ys/\xs[i]?=some x/\ys[i]?=some y,
   λ i H v H'=>∃ q p x y,v=.ref p/\H q=none/\H p=none/\p≠q/\H'=aj (aj H q (.tup [x,y])) p (.tup [.int i,.ref q])/\∀ xs ys,ÿ K H a xs->č K H b ys->xs[i]?=some x/\ys[i]?=some y,
   λ i H=>∃ xs ys,ÿ K H a xs/\č K H b ys/\(xs.length<=i\/ys.length<=i)⟩
theorem ud {P:Program}{w:World}{K:Frag}{elts:List Expr} {x1}{pos:Pos}(a b e z TI TO i1 i2:Addr)(D:wg z TI TO i1 i2 a b)(ne:∀ c ∈ [z,TI,TO,i1,i2],c≠e) :
  p9 P w K (.Tuple elts x1 pos) (Cr K a b) [e,z,TI,TO,i1,i2] e (λ i h=>(∃ old,IsEnum h e z i old)/\JD h z TI TO i1 i2 a b i) where
 mem:=by simp
 obj:=λ i h st c hc=>by
  obtain⟨⟨old,h1⟩,⟨f0,bb,zo,ow⟩,ti,⟨ta,tb,to⟩,⟨oa,ha,ca,da⟩,⟨ob,hb,cb,db⟩⟩:=st;simp only [List.mem_cons,List.not_mem_nil,or_false] at hc;rcases hc with rfl | rfl | rfl | rfl | rfl | rfl
  ·exact⟨_,h1,λ v q=>by cases q⟩
  ·exact⟨_,zo,λ v q=>by cases q⟩
  ·exact⟨_,ti,λ v q=>by cases q⟩
  ·exact⟨_,to,λ v q=>by cases q⟩
  ·exact⟨oa,ha,λ v q=>by rw [da] at q;cases q⟩
  ·exact⟨ob,hb,λ v q=>by rw [db] at q;cases q⟩
 keep:=λ i h h' st k=>⟨⟨_,k e (by simp) _ st.1.choose_spec⟩,st.2.keep λ c hc o q=>k c (List.mem_cons_of_mem _ hc) o q⟩
 item:=by
  intro X hP hw hK hc i pins s σ H E I hf st hg;subst hP hw hK;obtain⟨xs,ys,x,y,hq,Mb,hx,hy⟩:=hg;obtain⟨its,rv,p,hz⟩:=I.list hq;obtain⟨Jz,P3,p2,N2⟩:=I.tuple Mb;obtain⟨u,hu,ru⟩:=rv.get hx;obtain⟨v,hv,Ws⟩:=P3.get hy;obtain⟨⟨old,he⟩,za⟩:=st;have Oz:s.heap.IsTuple b Jz.toArray:=by
   obtain⟨o,q,c,n,d⟩:=p2;exact⟨o,q,c,n,d⟩
  refine DK D he za p.isList Oz (x:=u) (y:=v) (by simpa using hu) (by simpa using hv) ne λ h1 eo LJ pr tu kk=>?_
  refine⟨_,rfl,wpAny_letOwnedTupleGo_enum (s:={ s with heap:=h1,toks:=s.toks+1 }) eo λ h2 MU sb=>?_⟩
  have ML:Heap.SameBut e h1 h2:=sb;have el:=È he;have na:s.heap.objs.size≠e:=Ŋ el;have nb:s.heap.objs.size+1≠e:=Ŋ (ŋ el);have Wz:IsPair h2 s.heap.objs.size u v:=(ML.2 _ na).trans pr;have Wd:=(ML.2 _ nb).trans tu;have f1:H s.heap.objs.size=none:=I.þ.fresh (Ç _);have f2:H (s.heap.objs.size+1)=none:=I.þ.fresh (ń _);refine⟨.ref (s.heap.objs.size+1),aj (aj H s.heap.objs.size (.tup [x,y])) (s.heap.objs.size+1) (.tup [.int i,.ref s.heap.objs.size]),?_,rfl,⟨_,_,x,y,rfl,f1,f2,Nat.succ_ne_self _,rfl,λ NW IT g1 g2=>⟨by rw [I.i_ g1 hq];exact hx,by rw [I.F_ g2 Mb];exact hy⟩⟩,⟨⟨_,MU⟩,LJ.keep λ c hc o q=>(ML.2 c (ne c hc)).trans q⟩,λ c hc=>?_⟩
  ·refine wx (t':=s.toks+1) (ch:=[e,z,TI,TO,i1,i2]) I hf (λ c o hc q=>?_) ?_ ?_
   ·simp only [List.mem_cons,List.not_mem_nil,or_false,not_or] at hc;exact(ML.2 c hc.1).trans (kk c o hc.1 hc.2.1 hc.2.2.2.1 hc.2.2.2.2.1 hc.2.2.2.2.2 q)
   ·exact⟨dy,[u,v],.cons ru (.cons Ws .nil),⟨_,Wz,rfl,_,rfl⟩⟩
   ·exact⟨dy,[.int i s.toks,.ref s.heap.objs.size],.cons ⟨_,rfl⟩ (.cons rfl .nil),⟨_,Wd,rfl,_,rfl⟩⟩
  ·have q:=hf c hc;have Od:c<s.heap.objs.size:=by
    obtain⟨⟨f0,bb,zo,ow⟩,ti,⟨ta,tb,to⟩,⟨oa,ha,_,_⟩,⟨ob,hb,_,_⟩⟩:=za;simp only [List.mem_cons,List.not_mem_nil,or_false] at hc;rcases hc with rfl | rfl | rfl | rfl | rfl | rfl
    ·exact el
    ·exact È zo
    ·exact È ti
    ·exact È to
    ·exact È ha
    ·exact È hb
   rw [ah (Ñ (ŋ Od)),ah (Ñ Od)];exact q.1
 done:=by
  intro X hP hw hK hc i pins s σ H E I hf st hg;subst hP hw hK;obtain⟨xs,ys,hq,Mb,hn⟩:=hg;obtain⟨its,rv,p,hz⟩:=I.list hq;obtain⟨Jz,P3,p2,N2⟩:=I.tuple Mb;obtain⟨⟨old,he⟩,za⟩:=st;have Oz:s.heap.IsTuple b Jz.toArray:=by
   obtain⟨o,q,c,n,d⟩:=p2;exact⟨o,q,c,n,d⟩
  have l1:=rv.length;have l2:=P3.length;refine sZ (I.ok.hd hc) D he za p.isList Oz ?_ λ h1 kk=>⟨rfl,vQ (t':=s.toks) (ch:=[e,z,TI,TO,i1,i2]) I hf λ c o LO q=>?_⟩
  ·rcases hn with h | h
   ·exact .inl (by simp;omega)
   ·exact .inr (by simp;omega)
  ·simp only [List.mem_cons,List.not_mem_nil,or_false,not_or] at LO;exact kk c o LO.2.1 LO.2.2.2.1 LO.2.2.2.2.1 LO.2.2.2.2.2 q
 self:=λ _ _ _ _ _ st h=>ε st.1.choose_spec h
end My
namespace My
open PySem PySem.W L2
open PyProof.Rows (Call_ boot_enumerate)
theorem vT {n l t:Nat}(h1:l<n)(h2:t<n):wg (n+4) (n+2) (n+3) n (n+1) l t:=by
 constructor <;>(show(_:Nat)≠(_:Nat)) <;> omega
theorem uO {c m n:Nat}(hm:m=n+5)(hc:c ∈ [n+4,n+2,n+3,n,n+1]):c≠m:=by
 simp only [List.mem_cons,List.not_mem_nil,or_false] at hc;omega
theorem vJ {c m n:Nat}(hm:m=n+5)(hc:c ∈ [m,n+4,n+2,n+3,n,n+1]):n<=c:=by
 simp only [List.mem_cons,List.not_mem_nil,or_false] at hc;omega
section
variable {X:Cx}
def II (K:Frag)(ta:TA):TI:=λ σ H R=>ta σ H λ vs H1=>∃ l t,vs=[.ref l,.ref t]/\(∃ xs,ÿ K H1 l xs)/\(∃ ys,č K H1 t ys)/\R (Cr K l t) H1
theorem B8 {elts:List Expr} {x1}{pt:Pos}{a b:Expr}{ta:TA}{p p2 pos KN:Pos}(hg:Gl X "enumerate") (hm:X.mg "enumerate" = none) (XJ:Gl X "zip") (Lw:X.mg "zip" = none) (ha:PA X [a,b] ta)
  (hs:starEach [.Call (.Name "zip" p2) [a,b] [] KN] X.env=[(false,eval (.Call (.Name "zip" p2) [a,b] [] KN) X.env)]:=by rfl) (he:starEach (a :: [b]) X.env=(false,eval a X.env)::starEach [b] X.env:=by rfl) (Ρ:(backTo KN (starEach [b] X.env)).any (·.1)=false:=by rfl) :
  PI X (.Tuple elts x1 pt) (.Call (.Name "enumerate" p) [.Call (.Name "zip" p2) [a,b] [] KN] [] pos) (II X.K ta):=by
 intro pins s σ H R I h;refine Call_ (gu I hg hm boot_enumerate (ę ?_ hs rfl));rw [hs];show wpAny _ _ (spliced ((false,eval (.Call (.Name "zip" p2) [a,b] [] KN) X.env) :: [])) _ _ s;refine Calls.spliced_cons (Č (gu I XJ Lw PyProof.Rows.boot_zip (ę (aW (ha KN pins s σ H _ I h) λ us s1 ⟨vs,H1,I1,r1,q1⟩=>?_) he Ρ)));obtain⟨l,t,rfl,⟨xs,hq⟩,⟨ys,Mb⟩,q⟩:=q1;cases r1 with
 | cons r rr =>
  cases r;cases rr with
  | cons r' Wt =>
   cases r';cases Wt;obtain⟨its,rv,pl,hz⟩:=I1.list hq;obtain⟨Jz,P3,Oz,N2⟩:=I1.tuple Mb;have ht:s1.heap.IsTuple t Jz.toArray:=by
    obtain⟨o,q,c,n,d⟩:=Oz;exact⟨o,q,c,n,d⟩
   have W1:l<s1.heap.objs.size:=by
    obtain⟨o,q,_⟩:=pl.isList;exact È q
   have W0:t<s1.heap.objs.size:=by
    obtain⟨o,q,_⟩:=ht;exact È q
   refine wD pl.isList ht λ h2 iz za SE k2=>Calls.spliced_nil ?_;refine pT (s:={ s1 with heap:=h2 }) iz λ h3 en Oa k3=>?_
   have Oa:h3.objs.size=h2.objs.size+1:=Oa;have en:IsEnum h3 h2.objs.size (s1.heap.objs.size+4) 0 .none:=en;have k3:∀ b o,h2.get? b=some o->h3.get? b=some o:=k3;refine ε en ?_;have D:wg (s1.heap.objs.size+4) (s1.heap.objs.size+2) (s1.heap.objs.size+3) s1.heap.objs.size (s1.heap.objs.size+1) l t:=vT W1 W0;refine⟨h2.objs.size,[h2.objs.size,s1.heap.objs.size+4,s1.heap.objs.size+2,s1.heap.objs.size+3,s1.heap.objs.size,s1.heap.objs.size+1],_,_,H1,rfl,I1.kept (t':=s1.toks) (λ c o e=>k3 _ _ (k2 _ _ e)),ud l t _ _ _ _ _ _ D (λ c hc=>?_),⟨⟨_,en⟩,za.keep λ c _ o e=>k3 c o e⟩,λ c hc=>?_,q⟩
   ·exact uO (show h2.objs.size=s1.heap.objs.size+5 from SE) hc
   ·have le:s1.heap.objs.size<=c:=vJ (show h2.objs.size=s1.heap.objs.size+5 from SE) hc;exact I1.KY le (I1.þ.fresh le)
end
theorem yV {K:Frag}{a b:Addr}{xs ys:List V}{g:TG}{tb:TS}{D:bT}{σ:St}{H:Hp}(Pv:Nat->St->Hp->Prop)(h0:Pv 0 σ H)(hl:∀ i σ H,i<=min xs.length ys.length->Pv i σ H->ÿ K H a xs/\č K H b ys)
  (hs:∀ i x y σ H q p,xs[i]?=some x->ys[i]?=some y->Pv i σ H->H q=none->H p=none->p≠q->g (.ref p) σ (aj (aj H q (.tup [x,y])) p (.tup [.int i,.ref q])) λ Ļ H2=>tb { D with nx:=Pv (i+1),ct:=Pv (i+1),bk:=D.nx } Ļ H2) (hd:∀ σ H,Pv (min xs.length ys.length) σ H->D.nx σ H) :
  ∃ W:Nat->Nat->St->Hp->Prop,(∃ m,W 0 m σ H)/\∀ i m σ H,W i m σ H ->
   ((Cr K a b).stop i H/\D.nx σ H)\/((Cr K a b).go i H/\∃ N:St->Hp->Prop,(∀ ē H',N ē H'->∃ m',m'<m/\W (i+1) m' ē H')/\∀ x H',(Cr K a b).JJ i H x H'->g x σ H' λ Ļ H2=>tb { D with nx:=N,ct:=N,bk:=D.nx } Ļ H2):=by
 refine⟨λ i m σ H=>m=min xs.length ys.length-i/\i<=min xs.length ys.length/\Pv i σ H,⟨min xs.length ys.length,ae,Ź _,h0⟩,?_⟩;rintro i m σ H ⟨rfl,hi,pv⟩;obtain⟨q1,q2⟩:=hl i σ H hi pv;by_cases Β:i<min xs.length ys.length
 ·have l1:i<xs.length:=ae;have l2:i<ys.length:=ae;refine .inr ⟨⟨xs,ys,xs[i],ys[i],q1,q2,Á l1,Á l2⟩,Pv (i+1),λ ē H' n=>⟨min xs.length ys.length-(i+1),ae,rfl,Β,n⟩,λ v H' yl=>?_⟩;obtain⟨q,p,x,y,rfl,hq,hp,ne,rfl,at'⟩:=yl;obtain⟨e1,e2⟩:=at' xs ys q1 q2;exact hs i x y σ H q p e1 e2 pv hq hp ne
 ·have e:i=min xs.length ys.length:=ae;subst e;exact .inl ⟨⟨xs,ys,q1,q2,ae⟩,hd σ H pv⟩
end My
namespace My
open PySem PySem.W L2
def R0.word:R0->Str
 | .split _ _ => "split"
 | .pairs _ _ _ => "pairs"
 | .ö _ _ _ _ => "coins"
theorem R0.Kg (r:R0):r.word ≠ "first" /\ r.word ≠ "blocks" := by
 cases r with
 | split n k=>exact⟨(by decide +kernel:(("split" : String):Str)≠(("first" : String):Str)),(by decide +kernel:(("split" : String):Str)≠(("blocks" : String):Str))⟩
 | pairs n x y=>exact⟨(by decide +kernel:(("pairs" : String):Str)≠(("first" : String):Str)),(by decide +kernel:(("pairs" : String):Str)≠(("blocks" : String):Str))⟩
 | ö n x y f=>exact⟨(by decide +kernel:(("coins" : String):Str)≠(("first" : String):Str)),(by decide +kernel:(("coins" : String):Str)≠(("blocks" : String):Str))⟩
def R0.JV:R0->Bool
 | .pairs _ _ _=>true
 | _=>false
theorem R0.JK (r:R0):decide (V.str r.word=V.str "pairs")=r.JV:=by
 cases r with
 | split n k=>exact Å λ z=>absurd (V.str.inj z) (by decide +kernel:(("split" : String):Str)≠(("pairs" : String):Str))
 | pairs n x y=>exact Ä rfl
 | ö n x y f=>exact Å λ z=>absurd (V.str.inj z) (by decide +kernel:(("coins" : String):Str)≠(("pairs" : String):Str))
def Rl.base:Rl->List R0
 | .one r=>[r]
theorem At {H:Hp}{v:V}{ds:List PyData}(r:õ H v (.tuple ds)):∃ a xs,v=.ref a/\H a=some (.tup xs)/\à H xs ds:=by
 cases r with
 | tup ha rs=>exact⟨_,_,rfl,ha,rs⟩
theorem j8 {H:Hp}{v:V}{z:Str}{ds:List PyData}(r:õ H v (.tuple (.str z::ds))):∃ a xs,v=.ref a/\H a=some (.tup (.str z::xs))/\à H xs ds:=by
 obtain⟨a,xs,rfl,ha,rs⟩:=At r;cases rs with
 | cons r1 rs=>cases r1;exact⟨a,_,rfl,ha,rs⟩
theorem R0.mark {H:Hp}{v:V}{r:R0}(h:õ H v r.told):∃ a xs,v=.ref a/\H a=some (.tup (.str r.word::xs)):=by
 cases r with
 | split n k=>obtain⟨a,xs,e,ha,_⟩:=j8 h;exact⟨a,xs,e,ha⟩
 | pairs n x y=>obtain⟨a,xs,e,ha,_⟩:=j8 h;exact⟨a,xs,e,ha⟩
 | ö n x y f=>obtain⟨a,xs,e,ha,_⟩:=j8 h;exact⟨a,xs,e,ha⟩
section
variable {P:Program}{w:World}{K:Frag}{mg:aX}{base:Heap}{C:Nat->Addr}{CR f a1:Addr}{fd d1:FuncData}
abbrev F0:Stmt:=bw 59
def C5 (C:Nat->Addr):Sp:=λ vs H Q _=>∃ v t,vs=[v]/\Ru C H t v/\∀ p ms H',Ext H H'->H' p=some (.tup ms)->à H' ms (t.base.map R0.told)->Q (.ref p) H'
theorem Ou:ad ["rule","mark"] ["rule"] (aa F0):=aF
theorem ER (F:ė K "block_marks" "block_marks" F0 f fd) (M:Ms P w K mg base C):Ò P w K mg base ay 2 f fd ["rule"] (C5 C):=by
 refine bR F Ou λ cdv A outer s H vs Q E hr h=>?_;obtain⟨v,t,rfl,ru,q⟩:=h;have nd:=Ou.nd;refine⟨_,ba (dq (i:=1) nd rfl (Or.inl rfl) (ck (pv 0) M.told hr ai))
  (ba (mO Ē (ar bu (bC cZ (pv 1) au) cL (av _)) (aK (dq (i:=1) nd rfl (Or.inl rfl) (bC cZ (pv 1) au))))
  (aK (bh (tF (ar bu (bC cZ (pv 1) au) cL (av _)) (bC cZ (pv 1) au) (aE (ac (pv 1) ao)))))),?_⟩
 refine cY (t:=t) aA ru (λ R r=>⟨_,rfl,r⟩) ⟨v,t,H,rfl,Ext.refl _,ru,λ b rb=>?_⟩;obtain⟨r⟩:=t;refine⟨λ _ σ H'=>H'=H/\σ=[some v,some b],⟨0,rfl,rfl⟩,?_⟩;rintro n σ H' ⟨rfl,rfl⟩;obtain⟨a,xs,rfl,ha⟩:=R0.mark rb;refine⟨_,rfl,a,_,_,_,rfl,rfl,č.of ha,fm (j:=0) rfl,rfl,_,rfl,?_⟩;rw [Å (λ z=>r.Kg.1 (V.str.inj z))];refine cJ ⟨_,rfl,a,_,_,_,rfl,rfl,č.of ha,fm (j:=0) rfl,rfl,_,rfl,?_⟩;rw [Å (λ z=>r.Kg.2 (V.str.inj z))];refine cJ ⟨_,rfl,dy,λ p hp=>?_⟩;have x:=Ext.new (o:=.tup [.ref a]) hp;exact q p _ _ x aQ (.cons (rb.mono x) .nil)
def qA (t:Rl):List Bool:=List.zipWith (λ (p:List Int)(r:R0)=>r.JV&&decide (p.length%2=0)) t.parts t.base
abbrev GI:Stmt:=bw 60
def C8 (C:Nat->Addr)(CN:Addr):Sp:=λ vs H Q E=>∃ v t,vs=[v]/\Ru C H t v/\t.parts.length<=20/\(∀ p∈t.parts,p.length<=20)/\((qA t).all id=true->∀ H',Ext H H'->Q .ô H')/\∀ i,dX (qA t) i->∀ H',Ext H H'->cz CN "block" (.int (i:Nat)) H' E
theorem Oj:ad ["rule","number","block","mark"] ["rule"] (aa GI):=aF
theorem Ch {D CN fC:Addr}{Ju:FuncData}(F:ė K "need_pairs" "need_pairs" GI f fd) (M:Ms P w K mg base C) (B:Ī K D) (T:jq K mg D "NoPairs" "block" CN fC Ju) (A1:Df P w K mg base ay 2 "block_marks" ["rule"] (C5 C) a1 d1) (me:mg "enumerate" = none) (mz:mg "zip" = none) (ml:mg "len" = none):Ò P w K mg base (bP P w) 3 f fd ["rule"] (C8 C CN):=by
 refine fH F Oj λ cdv A outer s H vs Q E hr h=>?_;obtain⟨v,t,rfl,ru,L9,SU,qn,qe⟩:=h;have nd:=Oj.nd;have Ĵ:î 1 _:=hr.mono ag;refine⟨_,aK (dJ K_ rfl (B8 rfl me rfl mz (ac (ck (pv 0) M.blocks Ĵ ai) (ac (br A1 hr ai (ac (pv 0) ao)) ao)))
   (bI rfl (dZ (cT (i:=1) nd rfl (Or.inl rfl)) (dZ (bI rfl (dZ (cT (i:=2) nd rfl (Or.inl rfl)) (dZ (cT (i:=3) nd rfl (Or.inl rfl)) aZ))) aZ)))
   (aK (aG (PW.pt (gY (ar hX (bC cZ (pv 3) au) cL (av _)) (fX (ar bu (af fA (am aH rfl ml ò (ac (pv 2) ao)) au) au (av _)))))
    (aK (cH B T.cls (T.ok P w base) hr T.bi rfl T.Kn (pv 1))) dm))),?_⟩
 refine cY (t:=t) aA ru (λ R r=>⟨_,rfl,r⟩) ⟨v,t,rfl,ru,L9,SU,λ l bs H1 x1 nl hl lb fb S5 XV=>?_⟩;refine⟨_,rfl,v,t,rfl,ru.ext x1,λ p ms H2 x2 hp rm=>?_⟩;have Jg:=x2 _ _ hl;have lm:=rm.length;rw [Æ] at lm;have len:(qA t).length=min (bs.map V.ref).length ms.length:=by
  unfold qA;rw [List.length_zipWith,Æ,S5,lm]
 refine⟨l,p,rfl,⟨_,ÿ.of Jg⟩,⟨_,č.of hp⟩,yV (xs:=bs.map V.ref) (ys:=ms) (λ i σ H'=>Ext H2 H'/\(∀(j:Nat) b,j<i->(qA t)[j]?=some b->b=true)/\∃ o1 o2 o3,σ=[some v,o1,o2,o3]) ⟨Ext.refl _,λ j d h=>absurd h (ζ _),_,_,_,rfl⟩ ?_ ?_ ?_⟩
 ·rintro i σ H' _ ⟨x',_⟩;exact⟨ÿ.of (x' _ _ Jg),č.of (x' _ _ hp)⟩
 ·rintro i x y σ H' q1 p1 ex ey ⟨x',good,o1,o2,o3,rfl⟩ hq Ry ne;have xa:=Ext.new (o:=.tup [x,y]) hq;have Rx:aj H' q1 (.tup [x,y]) p1=none:=by rw [ah ne];exact Ry
  have xb:=Ext.new (o:=.tup [.int (i:Nat),.ref q1]) Rx;have x3:=(x'.trans xa).trans xb;have gq:=xb _ _ (show aj H' q1 (.tup [x,y]) q1=some (.tup [x,y]) from aQ);have gp:aj (aj H' q1 (.tup [x,y])) p1 (.tup [.int (i:Nat),.ref q1]) p1=some (.tup [.int (i:Nat),.ref q1]):=aQ;generalize aj (aj H' q1 (.tup [x,y])) p1 (.tup [.int (i:Nat),.ref q1])=H3 at x3 gq gp ⊢;rw [Ù] at ex;obtain⟨b,eb,rfl⟩:=Ě.mp ex;obtain⟨d,ed,rd⟩:=rm.get ey;rw [Ù] at ed;obtain⟨r,er,rfl⟩:=Ě.mp ed;have li:i<t.parts.length:=by rw [<- S5];exact(É.mp eb).1
  have ep:=Á li;have hb:=x3 _ _ (x2 _ _ (XV i b _ eb ep));obtain⟨m,zs,rfl,hm⟩:=R0.mark (rd.mono x3);have em:(qA t)[i]?=some (r.JV&&decide (t.parts[i].length%2=0)):=by
   unfold qA;rw [List.getElem?_zipWith,ep,er]
  refine⟨p1,_,rfl,č.of gp,rfl,_,_,rfl,_,_,rfl,q1,_,rfl,č.of gq,rfl,_,_,rfl,_,_,rfl,rfl,rfl,?_⟩;have bad:(r.JV&&decide (t.parts[i].length%2=0))=false->cz CN "block" (.int (i:Nat)) H3 E:=λ e=>qe i ⟨good,by rw [em,e]⟩ _ ((x1.trans x2).trans x3)
  have next:(r.JV&&decide (t.parts[i].length%2=0))=true->(Ext H2 H3/\(∀(j:Nat) b,j<i+1->(qA t)[j]?=some b->b=true)):=λ e=>⟨x3,λ j d' hj hd=>by
   rcases Ľ j i with lt | ge
   ·exact good j d' lt hd
   ·have e0:j=i:=ae;subst e0;rw [em,e] at hd;cases hd;rfl⟩
  refine⟨_,rfl,m,_,_,_,rfl,rfl,č.of hm,fm (j:=0) rfl,rfl,_,rfl,?_⟩;rw [R0.JK];cases hp:r.JV with
  | false=>exact cK (cK ⟨_,rfl,λ e' dx h1 h2 nd=>fv nd (bad (by rw [hp];rfl) e' dx h1 h2 nd)⟩)
  | true =>
   refine cJ ⟨_,rfl,b,_,rfl,.inl (ÿ.of hb),_,_,rfl,rfl,(by show(0:Int)<2;decide),rfl,_,rfl,?_⟩
   rw [Æ];by_cases e:t.parts[i].length%2=0
   ·rw [Å (λ z=>by have z':=V.int.inj z;omega)]
    obtain⟨xx,gg⟩:=next (by rw [hp,Ä e];rfl)
    exact cJ ⟨xx,gg,_,_,_,rfl⟩
   ·have one:((t.parts[i].length:Nat):Int)%2=1:=ae;rw [Ä (show V.int (((t.parts[i].length:Nat):Int)%2)=V.int 1 from by rw [one])]
    exact cK ⟨_,rfl,λ e' dx h1 h2 nd=>fv nd (bad (by rw [hp,Å e];rfl) e' dx h1 h2 nd)⟩
 ·rintro σ H' ⟨x',good,o1,o2,o3,rfl⟩;refine qn ?_ H' ((x1.trans x2).trans x');rw [é];intro d hd;obtain⟨j,hj,e⟩:=Ĭ hd;exact good j d (by rw [<- len];exact hj) (by rw [Á hj,e])
end
section
variable {P:Program}{w:World}{K:Frag}{mg:aX}{base:Heap}{C:Nat->Addr}{CR f a1:Addr}{fd d1:FuncData}
def oB (H:Hp)(ns:List Int)(Q:VK):Prop:=∀ l H',Ext H H'->H l=none->H' l=some (.lst (ns.map V.int))->Q (.ref l) H'
abbrev yP:Stmt:=aB (bw 62) 2
def vD (sc:List (Int × Bool)->List Int):Sp:=λ vs H Q _=>∃ v a xs os,vs=[v,.ref a]/\H a=some (.lst xs)/\uI H xs os/\os.length<=20/\oB H (sc os) Q
theorem Co:ad ["self","outcomes"] ["self","outcomes"] (aa yP):=aF
abbrev E3:Scope:=ij [("number",.local),("sure",.local)]
theorem sC {X:Cx}:dP X E3 [] ["number","sure"] [] []:=nQ (L:=[(".0",.local),("number",.local),("sure",.local)]) rfl rfl aA aA aA rfl aA aA
theorem vC:((["number","sure"]:List Str)++([]:List Str)).Nodup:=aA
def vw (K:Frag):TG:=wm K 2 (de (be 0) (de (be 1) qH))
theorem oP {i:Nat}{σ:St}{H:Hp}{a:Addr}{xs:List V}{os:List (Int × Bool)}{Q:VK}(si:σ[i]?=some (some (.ref a)))(ha:H a=some (.lst xs))(oc:uI H xs os)(lo:os.length<=20)(q:oB H (os.map (·.1)) Q):jf (eJ K (aq i)) 2 [] (vw K) (aq 0) σ H Q:=by
 obtain⟨lx,oc⟩:=oc;refine⟨_,si,a,rfl,⟨_,ÿ.of ha⟩,λ D hD=>?_⟩;refine eH (a:=a) (xs:=xs) (λ i ys H'=>Ext H H'/\ys=((os.take i).map (·.1)).map V.int) (by rw [Ø];omega) ⟨Ext.new hD,rfl⟩ (λ i ys H' pv=>ÿ.of (pv.1 _ _ ha)) ?_ ?_
 ·rintro i x ys H' ex ly ρ ⟨x',ey⟩ Li Ŵ R k;obtain⟨o0,o1,rfl⟩:∃ o0 o1,Li=[o0,o1]:=by
   match Li,Ŵ with
   | [o0,o1],_=>exact⟨o0,o1,rfl⟩
  have li:i<os.length:=by rw [<- lx];exact(É.mp ex).1
  have eo:=Á li;obtain⟨p,rfl,hp⟩:=oc i x _ ex eo;refine⟨p,_,rfl,č.of (x' _ _ hp),rfl,_,_,rfl,_,_,rfl,rfl,⟨[some (.int os[i].1),some (.bl os[i].2)],rfl,rfl⟩,_,rfl,?_⟩;refine k _ H' ρ ⟨bV _ x' hD,?_⟩;rw [bF eo,á,á,<- ey];rfl
 ·rintro ys H' ly ρ ⟨x',ey⟩;rw [lx,ĉ] at ey;rw [ey] at ρ;exact q D H' x' hD ρ
theorem AM (F:ė K "among" "Sum.among" yP f fd):Ò P w K mg base ay 1 f fd ["self","outcomes"] (vD λ os=>os.map (·.1)):=by
 refine bR F Co λ cdv A outer s H vs Q E hr h=>?_;obtain⟨v,a,xs,os,rfl,ha,oc,lo,q⟩:=h;refine⟨_,aK (bh (eQ (te:=aq 0) (g:=vw K) rfl sC (cF (pv 1)) (λ s H C fp=>by exact bI rfl (dZ (cT (i:=0) vC rfl (.inl rfl)) (dZ (cT (i:=1) vC rfl (.inl rfl)) aZ))) (λ s H C fp=>by exact pv 0))),?_⟩
 exact oP rfl ha oc lo q
end
section
variable {X:Cx}
def nZ (K:Frag):List V->Hp->VK->Prop:=λ xs H Q=>∃(p:Addr)(ns:List Int),xs=[.ref p]/\ÿ K H p (ns.map V.int)/\ns.length<64/\∀(l:Addr)(Ŝ:List Int),H l=none->Ŝ.Perm ns->Ŝ.Pairwise (· <= ·)->Q (.ref l) (aj H l (.lst (Ŝ.map V.int)))
theorem oj:dh X (.builtin "sorted") (nZ X.K):=by
 intro pins s σ H xs us Q I r h;obtain⟨p,ns,rfl,hq,hl,q⟩:=h;obtain⟨u,rfl,rx⟩:=dH r;cases rx;obtain⟨its,r',pl,hz⟩:=I.list hq;have ĩ:=r'.length;rw [Æ] at ĩ;refine PyProof.Rows.sorted_ints (vs:=its) pl.isList (f7 r') ae λ out Ŝ a1 a2 a3=>?_;obtain⟨e,he⟩:=PyProof.Rows.sortedAll_at s.heap its out;refine⟨.ref (s.heap.objs.size+1),_,I.laid (t':=s.toks) (λ _ _=>PyProof.Rows.sortedAll_old) (ń _) (show ñ X.prog X.w _ _ _ (.lst (Ŝ.map V.int)) from⟨?_,out.toList,e,fQ a1,?_⟩),rfl,q _ Ŝ (I.þ.fresh (ń _)) a2 a3⟩
 ·rw [Æ,a2.length_eq,Ø];omega
 ·exact he
def xK (K:Frag):V->List V->Hp->VK->Prop:=λ x vs H Q=>∃(l:Addr)(ns:List Int)(k:Int),x=.ref l/\vs=[.int k]/\ÿ K H l (ns.map V.int)/\k∈ns/\Q (.int (ns.idxOf k:Nat)) H
theorem uK:GJ X "list.index" (xK X.K):=by
 intro pins s σ H x vs v us Q I rx rv h;obtain⟨l,ns,k,rfl,rfl,hl,hk,q⟩:=h;cases rx;obtain⟨u,rfl,ru⟩:=dH rv;obtain⟨t,e⟩:=(show ∃ t,u=Value.int k t from ru);subst e;obtain⟨its,r,pl,hz⟩:=I.list hl;have hi:=f7 r;obtain⟨⟨cls,dd,data,sl⟩,ho,hc,n,hd⟩:=id pl.isList;simp only at hc hd;subst hc hd;have ĩ:=hi.length;have hj:ns.idxOf k<ns.length:=List.idxOf_lt_length_iff.mpr hk;have Qg:ns.length<=16777216:=by rw [Æ,Ø] at hz;exact hz
 refine call_meets Mv ⟨_,ho,rfl⟩ PySem.F.entry_list_index (PySem.F.args_list_index_2 _ _)
  (SeqAt.list_indexAt l its.toArray n dd sl (.int k t) (PyProof.Rows.isInt k) (ns.idxOf k) (by simpa [ĩ] using hj) ae ?_ ?_) ⟨ho,λ y hy=>(PyProof.Rows.eq_isInt k t hi y (by simpa using hy)).at _ _,⟨.int _,H,I.tok _,⟨_,rfl⟩,q⟩⟩
 ·show PyProof.Rows.isInt k its[ns.idxOf k]=true;rw [PyProof.Rows.isInt_at k hi _ ae hj]
  simpa using List.getElem_idxOf hj
 ·intro j Z6 Β;have h1:j<ns.length:=ae;show PyProof.Rows.isInt k (its[j]'ae)=false;rw [PyProof.Rows.isInt_at k hi _ ae h1];have:=List.not_of_lt_findIdx Β
  simpa using this
end
end My
namespace My
open PySem L2
def HG {κ:Type} [DecidableEq κ] (mk:List (κ × V)->HO)(kr:V->Hp->κ->Prop)(wi:TI)(k:Nat)(js:List Nat)(g:TG)(tk tv:TE):TE:=λ σ H Q=>wi σ H λ J H1=>∀ D,H1 D=none->∃ W:Nat->Nat->List (κ × V)->Hp->Prop,(∃ m,W 0 m [] (aj H1 D (mk []))) /\
 ∀ i m ys H2,W i m ys H2->H2 D=some (mk ys)/\((J.stop i H2/\Q (.ref D) H2)\/(J.go i H2/\ys.length<sizeLine /\
  ∀ x H3,J.JJ i H2 x H3->∀ os:St,os.length=k->g x (os++fE js σ) H3 λ Ļ H0=>(∃ Ň:St,Ň.length=k/\Ļ = Ň ++ fE js σ)/\tk Ļ H0 λ y H4=>tv Ļ H4 λ v H5=>∃ key,kr y H5 key/\H5 D=some (mk ys)/\∃ m',m'<m/\W (i+1) m' (eI ys key v) (aj H5 D (mk (eI ys key v)))))
abbrev zZ:=HG HO.dK λ y _ k=>y=kV k
section
variable {X:Cx}{sc:Scope}{cl:List (Str × Addr)}{o:Option Str}{ts zs:List Str}{js:List Nat}{kx vx iter:Expr}{pos:Pos}{tg:Expr}{g:TG}{wi:TI}{tk tv:TE}
theorem D8 {κ:Type} [DecidableEq κ] {mk:List (κ × V)->HO}{kr:V->Hp->κ->Prop}(Rt:∀{X':Cx} {pins σ H s a kvs k y v u r}{Q:Shared->Prop},X'.A=X.A->Inv X' pins σ H s->H a=some (mk kvs)->kr y H k->kvs.length<sizeLine->RelV y u->RelV v r->(∀ s',Inv X' pins σ (aj H a (mk (eI kvs k v))) s'->Q s')->wpAny (model X'.prog X'.w) X'.A (dictSet a u r) (λ _ s'=>Q s') nE s)
  (RP:∀(s:Shared) H,ţ X.prog X.w H s.heap->sysModules<s.heap.objs.size->ñ X.prog X.w (aj H s.heap.objs.size (mk [])) (s.heap.push { cls:=.type "dict",data:=.dict #[] }) s.heap.objs.size (mk [])) (hc:X.calm=true) (S:eZ X sc cl o ts zs js) (hi:PI X tg iter wi) (hg:∀ s H C fp,PG (aC X sc cl o (ts++zs) s H C fp) tg g) (hk:∀ s H C fp,PE (aC X sc cl o (ts++zs) s H C fp) kx tk) (hv:∀ s H C fp,PE (aC X sc cl o (ts++zs) s H C fp) vx tv)
  (hs:∀ v,foldedSetIterable iter X.env v=pure v):BG X (.DictComp kx vx [⟨tg,iter,[],0⟩] sc pos) iter sc newDict (HG mk kr wi ts.length js g tk tv):=by
 intro pins s σ H Q p use Qf I h JX;refine gk hc S hi hs I h FN rfl codeAny_compStart_dict (λ s2 H2 Q I k=>Ĝ (k (I.laid (t':=s2.toks) (λ _ _ q=>Â _ q) (Ç _) (RP s2 H2 I.þ I.big)))) (λ J H1 D s3 Ha C fp hJ hD=>?_) JX;obtain⟨W,⟨m,w0⟩,turn⟩:=hJ D hD;refine⟨λ i m H'=>∃ ys,W i m ys H',⟨m,[],w0⟩,λ i m H2 ⟨ys,w⟩=>?_⟩;obtain⟨hD,alt⟩:=turn i m ys H2 w;refine alt.imp_right λ ⟨go,ĩ,step⟩=>⟨go,λ x H3 y os Ŵ pins s u r I Q0 k=>?_⟩;refine aW (hg _ _ _ _ _ _ _ _ _ _ _ I r (step x H3 y os Ŵ)) λ _ s6 ⟨Pz,H6,I6,⟨Ň,Jq,e6⟩,Oc⟩=>?_;subst e6;refine⟨D,rfl,aW (hk s3 Ha C fp _ _ _ _ _ I6 Oc) λ ku s7 ⟨k7,H7,I7,Wu,Wj⟩=>aW (hv s3 Ha C fp _ _ _ _ _ I7 Wj) λ uv s8 ⟨v8,H8,I8,r8,key,W2,X2,m',Nz,w8⟩=>?_⟩;exact Rt (X':=aC X sc cl o (ts++zs) s3 Ha C fp) rfl I8 X2 W2 ĩ Wu r8 λ s9 I9=>k _ _ _ Jq I9 ⟨m',Nz,_,w8⟩
theorem yT {pins:List (Addr × Obj)}{σ:St}{H:Hp}{s:Shared}{a:Addr}{kvs:List (Key × V)}{k:Key}{v:V}{u r:Value}{A:Around}{E:bz}{Q:Unit->Shared->Prop}(I:Inv X pins σ H s)(e:H a=some (.dK kvs))(l:kvs.length<sizeLine)(ry:RelV (kV k) u)(rv:RelV v r)
  (h:∀ s',Inv X pins σ (aj H a (.dK (eI kvs k v))) s'->Q () s'):wpAny (model X.prog X.w) A (dictSet a u r) Q E s:=by
 obtain⟨z,hd,vs,rel,dd⟩:=xI I.þ e;refine wpAny_dictSet_pairs (jE ry) dd (λ h' Mo hs=>h _ ?_) (by rw [<- rel.length];exact z)
 have he:∃ q,h'.get? a=some q:=let ⟨q,_,_,hq,_⟩:=Mo;⟨q,hq⟩
 exact pF I (by rw [e];exact True.intro) hs he (tR (by have:=dU kvs k v;omega) hd (rel.put k rv) Mo)
theorem Bh (hc:X.calm=true)(S:eZ X sc cl o ts zs js)(hi:PI X tg iter wi)(hg:∀ s H C fp,PG (aC X sc cl o (ts++zs) s H C fp) tg g)(hk:∀ s H C fp,PE (aC X sc cl o (ts++zs) s H C fp) kx tk)(hv:∀ s H C fp,PE (aC X sc cl o (ts++zs) s H C fp) vx tv)
  (hs:∀ v,foldedSetIterable iter X.env v=pure v):BG X (.DictComp kx vx [⟨tg,iter,[],0⟩] sc pos) iter sc newDict (zZ wi ts.length js g tk tv) :=
 D8 (λ eA I e kr l ry rv k=>by subst kr;exact yT I e l ry rv k) (λ s H ok big=>jj s.heap big) hc S hi hg hk hv hs
theorem zE (hc:X.calm=true)(S:eZ X sc cl o ts zs js)(hi:PI X tg iter wi)(hg:∀ s H C fp,PG (aC X sc cl o (ts++zs) s H C fp) tg g)(hk:∀ s H C fp,PE (aC X sc cl o (ts++zs) s H C fp) kx tk)(hv:∀ s H C fp,PE (aC X sc cl o (ts++zs) s H C fp) vx tv)
  (hs:∀ v,foldedSetIterable iter X.env v=pure v:=by intro _;rfl):PE X (.DictComp kx vx [⟨tg,iter,[],0⟩] sc pos) (zZ wi ts.length js g tk tv):=sY (Bh hc S hi hg hk hv hs) (arm_eval_DictComp ..)
end
end My
namespace My
open PySem PySem.W L2
section
variable {P:Program}{w:World}{K:Frag}{mg:aX}{base:Heap}{C:Nat->Addr}{CR f a1:Addr}{fd d1:FuncData}
abbrev jr:Stmt:=aB (bw 63) 2
abbrev Fc:List Str:=["self","outcomes","numbers","firsts"]
theorem MG:ad Fc ["self","outcomes"] (aa jr):=aF
abbrev DQ:Scope:=ij [("number",.local),("numbers",.free)]
abbrev Et:Scope:=ij [("number",.local),("sure",.local),("firsts",.free),("numbers",.free)]
section
variable {cdv:Value}{A:Around}{outer:List Env}{s:Shared}{H:Hp}{E:XK}
theorem vI:dP (cq ay P w K mg base Fc "Ranks.among" (aa jr) f cdv A outer s H E).υ DQ [("numbers",s.heap.objs.size+1)] ["number"] ["numbers"] [2] :=
 n8 (L:=[(".0",.local),("number",.local),("numbers",.cell)]) rfl rfl aA aA aA rfl rfl aA aA rfl (.inr (.inl rfl)) (by show(aa jr).names.lookup ("numbers" : Str)≠some NameKind.local;decide +kernel) (.inl rfl)
theorem va:dP (cq ay P w K mg base Fc "Ranks.among" (aa jr) f cdv A outer s H E).υ Et [("numbers",s.heap.objs.size+1),("firsts",s.heap.objs.size+2)] ["number","sure"] ["firsts","numbers"] [3,2] :=
 gP (M:=["numbers","firsts"]) (L:=[(".0",.local),("number",.local),("sure",.local),("firsts",.cell),("numbers",.cell)]) rfl rfl aA aA aA rfl rfl rfl aA aA rfl rfl rfl
end
theorem DU:((["number"]:List Str)++(["numbers"]:List Str)).Nodup:=aA
theorem xv:((["number","sure"]:List Str)++(["firsts","numbers"]:List Str)).Nodup:=aA
def FI (K:Frag):TS:=cM (nu (nZ K) (aw (jf (eJ K (aq 1)) 2 [] (vw K) (aq 0)) aP)) (be 2)
def CI (K:Frag):TE:=aT (fL λ i j=>.int (i+j)) (BF K "list" (xK K) (aq 1) (aw (aq 0) aP)) (tC (.int 1))
def EA (K:Frag):TS:=cM (zZ (eJ K (aq 2)) 1 [2] (be 0) (aq 0) (CI K)) (be 3)
def yh (K:Frag):TE:=aT (fL λ i j=>.int (i-j)) (aT (fL λ i j=>.int (i+j)) (aT (rI p_ λ i j=>.int (i*j)) (tC (.int 2)) (xj (aq 2) (aq 0))) (BF K "list" (ue K) (aq 3) (aw (aq 0) aP))) (tC (.int 1))
def yM (K:Frag):TS:=aV (jf (eJ K (aq 1)) 2 [3,2] (vw K) (yh K))
section
variable {cdv:Value}{A:Around}{outer:List Env}{s:Shared}{H:Hp}{E:XK}
abbrev t3 (k:Nat)(q:Str)(st:Stmt)(A:Around)(s:Shared)(f:Addr)(c:Value):Prop:=î k (A.deeper (PyProof.Rows.envOfC q (aa st) s.heap.objs.size f c))
theorem AD (ms:mg "sorted" = none) (hr:t3 0 "Ranks.among" jr A s f cdv):Bx (Ũ (cq ay P w K mg base Fc "Ranks.among" (aa jr) f cdv A outer s H E).υ (aI jr) (az (FI K) (az (EA K) (yM K)))):=by
 have nd:=MG.nd;have hu:(A.deeper (PyProof.Rows.envOfC "Ranks.among" (aa jr) s.heap.objs.size f cdv)).units+2<cLine:=by have:=hr.un;omega
 exact eM ⟨dq (i:=2) nd rfl (Or.inr rfl) (am oj rfl ms LV (ac (eQ (te:=aq 0) (g:=vw K) rfl sC (cF (pv 1)) (λ s H C fp=>by exact bI rfl (dZ (cT (i:=0) vC rfl (.inl rfl)) (dZ (cT (i:=1) vC rfl (.inl rfl)) aZ))) (λ s H C fp=>by exact pv 0)) ao))⟩
  (eM ⟨dq (i:=3) nd rfl (Or.inr rfl) (zE (tk:=aq 0) (tv:=CI K) (g:=be 0) rfl vI (cF (pv 2)) (λ s H C fp=>by exact cT (i:=0) DU rfl (.inl rfl)) (λ s H C fp=>by exact pv 0) (λ s H C fp=>by exact af aM (iX ć Mv PySem.F.type_list_index uK (pv 1) (ac (pv 0) ao)) au))⟩
  (cv ⟨bh (eQ (te:=yh K) (g:=vw K) rfl va (cF (pv 1)) (λ s H C fp=>by exact bI rfl (dZ (cT (i:=0) xv rfl (.inl rfl)) (dZ (cT (i:=1) xv rfl (.inl rfl)) aZ))) (λ s H C fp=>by exact af bK (af aM (af bp au (wK hu (pv 2) (pv 0))) (iX ć PySem.F.slot_list_count PySem.F.type_list_count tL (pv 3) (ac (pv 0) ao))) au))⟩))
end
theorem lL:∀{l:List Int},l.Pairwise (· <= ·)->∀{n:Int},n∈l->l.idxOf n=l.countP (λ m=>decide (m<n))
 | [],_,_,h=>nomatch h
 | a::l,p,n,h=>by
  obtain⟨pa,pl⟩:=List.pairwise_cons.mp p;rw [List.idxOf_cons,JG];by_cases e:a=n
  ·subst e;have z:l.countP (λ m=>decide (m<a))=0:=List.countP_eq_zero.mpr λ m hm=>by have:=pa m hm;simp;omega
   rw [z];simp
  ·have hn:n∈l:=by
    rcases ß.mp h with z | z
    ·exact absurd z.symm e
    ·exact z
   have lt:a<n:=by have:=pa n hn;omega
   rw [show(a==n)=false from Þ.mpr e,lL pl hn];simp [lt]
def rk (ns:List Int)(n:Int):Int:=2*((ns.countP λ m=>decide (m<n))+1:Nat)+(ns.countP λ m=>decide (m=n):Nat)-1
theorem qX (ns:List Int)(n:Int):((ns.map V.int).countP λ z=>kN z (.int n))=ns.countP λ m=>decide (m=n):=by
 rw [List.countP_map];refine List.countP_congr λ m _=>?_;show(m==n)=true ↔ _;simp
theorem zy {r:List V->Hp->VK->Prop}{te:TE}{σ:St}{H:Hp}{Q:VK}(h:te σ H λ x H1=>r [x] H1 Q):nu r (aw te aP) σ H Q:=h
theorem zN (F:ė K "among" "Ranks.among" jr f fd) (ms:mg "sorted" = none):Ò P w K mg base ay 1 f fd ["self","outcomes"] (vD λ os=>os.map λ o=>rk (os.map (·.1)) o.1):=by
 refine bR F MG λ cdv A outer s H vs Q E hr h=>?_;obtain⟨v,a,xs,os,rfl,ha,oc,lo,q⟩:=h;obtain⟨NG⟩:=AD ms hr (f:=f) (cdv:=cdv) (A:=A) (outer:=outer) (s:=s) (H:=H) (E:=E) (P:=P) (w:=w) (base:=base);refine⟨_,NG,?_⟩;have lx:=oc.1;have sz:=Ø;refine cI (te:=nu (nZ K) (aw (jf (eJ K (aq 1)) 2 [] (vw K) (aq 0)) aP)) (i:=2) (D:=⟨_,Q,_,_⟩) ?_;refine zy (oP (σ:=[some v,some (.ref a),none,none]) (i:=1) rfl ha oc lo λ l0 H0 x0 n0 g0=>?_);refine⟨l0,os.map (·.1),rfl,ÿ.of g0,by rw [Æ];omega,λ l Ŝ hl pm pw=>?_⟩
 have x1:=Ext.new (o:=.lst (Ŝ.map V.int)) hl;have g1:aj H0 l (.lst (Ŝ.map V.int)) l=some (.lst (Ŝ.map V.int)):=aQ;have N6:=x0.trans x1;show az (EA K) (yM K) _ [some v,some (.ref a),some (.ref l),none] (aj H0 l (.lst (Ŝ.map V.int)));generalize aj H0 l (.lst (Ŝ.map V.int))=H1 at x1 g1 N6 ⊢;have ln:Ŝ.length<=20:=by rw [pm.length_eq,Æ];exact lo
 refine⟨_,rfl,l,rfl,⟨_,ÿ.of g1⟩,λ D hD=>?_⟩;refine⟨λ i m ys H'=>m = Ŝ.length-i/\i <= Ŝ.length/\H' D=some (.dK ys)/\Ext H1 H'/\ys.length<=i/\∀ n ∈ Ŝ.take i,cP ys (.inl n)=some (.int ((Ŝ.idxOf n:Nat)+1)),⟨Ŝ.length,ae,Ź _,aQ,Ext.new hD,Ç _,λ n hn=>by simp at hn⟩,?_⟩
 rintro i m ys H2 ⟨rfl,hi,h2,x2,ly,kv⟩;refine⟨h2,?_⟩;have g2:=x2 _ _ g1;by_cases lt:i < Ŝ.length
 ·refine .inr ⟨⟨_,.int Ŝ[i],ÿ.of g2,by rw [Ù,Á lt];rfl⟩,ae,λ x H3 yl Ň Ŵ=>?_⟩
  obtain⟨e,yl⟩:=yl;subst e;have ex:=yl _ (ÿ.of g2);rw [Ù,Á lt] at ex;cases ex;obtain⟨o0,rfl⟩:∃ o0,Ň=[o0]:=by
   match Ň,Ŵ with
   | [o0],_=>exact⟨o0,rfl⟩
  have mem:Ŝ[i] ∈ Ŝ:=ċ lt;refine⟨⟨[some (.int Ŝ[i])],rfl,rfl⟩,_,rfl,?_⟩;refine⟨_,rfl,.inl ⟨rfl,_,ÿ.of g2⟩,_,rfl,l,Ŝ,Ŝ[i],rfl,rfl,ÿ.of g2,mem,_,_,rfl,rfl,.inl Ŝ[i],rfl,h2,Ŝ.length-(i+1),ae,rfl,lt,aQ,bV _ x2 hD,?_,λ n hn=>?_⟩
  ·refine Ô (dU ys (Key.inl Ŝ[i]) _) ?_;omega
  ·rw [rP];by_cases e:n = Ŝ[i]
   ·subst e;rw [Ï rfl]
   ·rw [Ì (λ z=>e (Key.inl.inj z))];refine kv n ?_;rw [List.take_succ_eq_append_getElem lt] at hn;rcases Ă.mp hn with z | z
    ·exact z
    ·exact absurd (Ð.mp z) e
 ·have e:i = Ŝ.length:=ae;subst e;refine .inl ⟨⟨_,ÿ.of g2,by rw [Æ];exact Ç _⟩,?_⟩
  rw [ĉ] at kv;show yM K _ [some v,some (.ref a),some (.ref l),some (.ref D)] H2;have Pj:=x2 _ _ (N6 _ _ ha);have WM:∀(i:Nat) x o,xs[i]?=some x->os[i]?=some o->HX H2 x o:=λ i x o h1 h2=>by
   obtain⟨p,e,hp⟩:=oc.2 i x o h1 h2;exact⟨p,e,x2 _ _ (N6 _ _ hp)⟩
  refine⟨_,rfl,a,rfl,⟨_,ÿ.of Pj⟩,λ E0 hE=>?_⟩;refine eH (a:=a) (xs:=xs) (λ i ys H'=>Ext H2 H'/\ys=((os.take i).map λ o=>rk (os.map (·.1)) o.1).map V.int) ae ⟨Ext.new hE,rfl⟩ (λ i ys H' pv=>ÿ.of (pv.1 _ _ Pj)) ?_ ?_
  ·rintro i x IT H' ex WZ ρ ⟨x',ey⟩ Li Ŵ R k;obtain⟨o0,o1,rfl⟩:∃ o0 o1,Li=[o0,o1]:=by
    match Li,Ŵ with
    | [o0,o1],_=>exact⟨o0,o1,rfl⟩
   have li:i<os.length:=by rw [<- lx];exact(É.mp ex).1
   have eo:=Á li;obtain⟨p,rfl,hp⟩:=WM i x _ ex eo;have mem:os[i].1 ∈ Ŝ:=pm.mem_iff.mpr (ā.mpr ⟨os[i],ċ li,rfl⟩);have kn:=kv _ mem;refine⟨p,_,rfl,č.of (x' _ _ hp),rfl,_,_,rfl,_,_,rfl,rfl,⟨[some (.int os[i].1),some (.bl os[i].2)],rfl,rfl⟩,?_⟩;show yh K [some (.int os[i].1),some (.bl os[i].2),some (.ref D),some (.ref l)] H' R;have dg:C_ H' D (.int os[i].1) (some (.int ((Ŝ.idxOf os[i].1:Nat)+1))):=by
    have z:=C_.k (k:=Key.inl os[i].1) (x' _ _ h2);rw [kn] at z;exact z
   refine jW (jW (jW ⟨_,rfl,_,rfl,D,_,rfl,dg,_,_,rfl,rfl,?_,_,rfl,.inl ⟨rfl,_,ÿ.of (x' _ _ g2)⟩,_,rfl,l,_,_,rfl,rfl,ÿ.of (x' _ _ g2),?_,rfl,_,_,rfl,rfl,_,_,rfl,rfl,?_⟩))
   ·exact .inl ⟨ag,ag⟩
   ·rw [List.all_map,é];intro n _;rfl
   ·refine k _ H' ρ ⟨bV _ x' hE,?_⟩;rw [bF eo,á,á,<- ey];show _=IT ++ [V.int (rk (os.map (·.1)) os[i].1)];have e1:rk (os.map (·.1)) os[i].1=2*((Ŝ.idxOf os[i].1:Nat)+1)+((Ŝ.map V.int).countP λ z=>kN z (.int os[i].1):Nat)-1:=by
     unfold rk;rw [qX,lL pw mem,pm.countP_eq,pm.countP_eq];omega
    rw [e1]
  ·rintro IT H' WZ ρ ⟨x',ey⟩;rw [lx,ĉ] at ey;rw [ey] at ρ;have x3:=(N6.trans x2).trans x';refine q E0 H' x3 ?_ ρ;cases e:H E0 with
   | none=>rfl
   | some o=>rw [(N6.trans x2) _ _ e] at hE;cases hE
end
def jt (i:Nat):Nat:=if i%2=0 then i+1 else i-1
theorem rV (i:Nat)(h:i<20):Builtin.bitXor (i:Int) 1=(jt i:Nat):=by
 have all:∀ j:Nat,j<20->Builtin.bitXor (j:Int) 1=(jt j:Nat):=aA;exact all i h
theorem wb {i n:Nat}(h:i<n)(e:n%2=0):jt i<n:=by
 unfold jt;split <;> omega
section
variable {P:Program}{w:World}{K:Frag}{mg:aX}{base:Heap}{C:Nat->Addr}{CO CR f a1:Addr}{fd d1:FuncData}
def vA (o p:Int × Bool):Int:=Fy o.1 o.2 p.1 p.2
def om (os:List (Int × Bool)):List Int:=os.mapIdx λ i o=>vA o (os.getD (jt i) (0,false))
abbrev lK:Stmt:=aB (bw 65) 2
theorem DL:ad ["self","outcomes"] ["self","outcomes"] (aa lK):=aF
abbrev C3:Scope:=ij [("at",.local),("one",.local),("stands_to",.globalImplicit),("outcomes",.free)]
theorem DF:((["at","one"]:List Str)++(["outcomes"]:List Str)).Nodup:=aA
def xh (K:Frag):Sp:=λ vs H Q _=>∃ v a xs os,vs=[v,.ref a]/\H a=some (.lst xs)/\uI H xs os/\(∀ o∈os,-99<=o.1/\o.1<=99)/\os.length<=20/\os.length%2=0/\oB H (om os) Q
def Cz (K:Frag)(CO:Addr):TE:=ie (mj K CO) [] E0 (aw (aq 1) (aw (aT (cX K) (aq 2) (aT (fL λ i j=>.int (Builtin.bitXor i j)) (aq 0) (tC (.int 1)))) aP))
section
variable {cdv:Value}{A:Around}{outer:List Env}{s:Shared}{H:Hp}{E:XK}
theorem yN:dP (cq ay P w K mg base ["self","outcomes"] "Signs.among" (aa lK) f cdv A outer s H E).υ C3 [("outcomes",s.heap.objs.size+1)] ["at","one"] ["outcomes"] [1] :=
 n8 (L:=[(".0",.local),("at",.local),("one",.local),("stands_to",.globalImplicit),("outcomes",.cell)]) rfl rfl aA aA aA rfl rfl aA aA rfl (.inr (.inl rfl)) (by show(aa lK).names.lookup ("outcomes" : Str)≠some NameKind.local;decide +kernel) (.inl rfl)
theorem Bv (A1:Df P w K mg base (bP P w) 5 "stands_to" ["one","other"] (mj K CO) a1 d1) (me:mg "enumerate" = none) (hr:t3 5 "Signs.among" lK A s f cdv):Bx (Ũ (cq ay P w K mg base ["self","outcomes"] "Signs.among" (aa lK) f cdv A outer s H E).υ (aI lK) (aV (jf (wY K (aw (aq 1) aP)) 2 [1] (vw K) (Cz K CO)))) :=
 cv ⟨bh (eQ (te:=Cz K CO) (g:=vw K) rfl yN (j5 rfl me (ac (pv 1) ao)) (λ s H C fp=>by exact bI rfl (dZ (cT (i:=0) DF rfl (.inl rfl)) (dZ (cT (i:=1) DF rfl (.inl rfl)) aZ))) (λ s H C fp=>by exact br A1 hr ls (ac (pv 1) (ac (bC iQ (pv 2) (af tJ (pv 0) au)) ao))))⟩
end
theorem Ax (F:ė K "among" "Signs.among" lK f fd) (A1:Df P w K mg base (bP P w) 5 "stands_to" ["one","other"] (mj K CO) a1 d1) (me:mg "enumerate" = none):Ò P w K mg base ay 6 f fd ["self","outcomes"] (xh K):=by
 refine bR F DL λ cdv A outer s H vs Q E hr h=>?_;obtain⟨v,a,xs,os,rfl,ha,oc,bd,lo,ev,q⟩:=h;obtain⟨NG⟩:=Bv A1 me hr (f:=f) (cdv:=cdv) (A:=A) (outer:=outer) (s:=s) (H:=H) (E:=E) (P:=P) (w:=w) (base:=base);refine⟨_,NG,?_⟩;obtain⟨lx,oc⟩:=oc;have sz:=Ø;have ot:∀{H':Hp}{i:Nat}{b:Addr},Ext H H'->(hi:i<os.length)->H' b=some (.tup [.int os[i].1,.bl os[i].2])->Ot K H' (.ref b) true:=λ {H' i b} x' hi hb=>by
  have:=bd os[i] (ċ hi);refine .inl ⟨.tuple [.int os[i].1,.bool os[i].2],.tup hb (.cons (.int _) (.cons (.bl _) .nil)),?_⟩;show true=((decide ((-99:Int)<=os[i].1)&&decide (os[i].1<=99))&&true);rw [Ä this.1,Ä this.2];rfl
 refine⟨_,rfl,a,rfl,⟨_,ÿ.of ha⟩,λ D hD=>?_⟩;refine sV (a:=a) (xs:=xs) (λ i ys H'=>Ext H H'/\ys=((om os).take i).map V.int) ae ⟨Ext.new hD,rfl⟩ (λ i ys H' pv=>ÿ.of (pv.1 _ _ ha)) ?_ ?_
 ·rintro i x ys H' p ex ly ρ ⟨x',ey⟩ hp Li Ŵ R k;obtain⟨o0,o1,rfl⟩:∃ o0 o1,Li=[o0,o1]:=by
   match Li,Ŵ with
   | [o0,o1],_=>exact⟨o0,o1,rfl⟩
  have xp:=Ext.new (o:=.tup [.int (i:Nat),x]) hp;have gp:aj H' p (.tup [.int (i:Nat),x]) p=some (.tup [.int (i:Nat),x]):=aQ;have Jb:=xp _ _ ρ;have x2:=x'.trans xp;generalize aj H' p (.tup [.int (i:Nat),x])=H2 at xp gp Jb x2 ⊢;have li:i<os.length:=by rw [<- lx];exact(É.mp ex).1
  have lm:=wb li ev;have S7:jt i<xs.length:=by rw [lx];exact lm
  obtain⟨b,rfl,hb⟩:=oc i x _ ex (Á li);obtain⟨b2,e2,ND⟩:=oc (jt i) xs[jt i] _ (Á S7) (Á lm);have em:xD xs (Builtin.bitXor (i:Int) 1)=some (.ref b2):=by
   rw [rV i ae,<- e2];exact fm (Á S7)
  refine⟨p,_,rfl,č.of gp,rfl,_,_,rfl,_,_,rfl,rfl,⟨[some (.int (i:Nat)),some (.ref b)],rfl,rfl⟩,?_⟩;refine⟨_,rfl,_,rfl,_,rfl,_,_,rfl,rfl,a,_,_,_,rfl,rfl,ÿ.of (x2 _ _ ha),em,.ref b,.ref b2,true,true,rfl,ot x2 li (x2 _ _ hb),ot x2 lm (x2 _ _ ND),(λ z=>by cases z),(λ _ z=>by cases z),λ a1 a2 n1 n2 s1 s2 q1 q2 t1 t2 _ _=>?_⟩
  cases q1;cases q2;rw [x2 _ _ hb] at t1;rw [x2 _ _ ND] at t2;cases t1;cases t2;refine k _ H2 Jb ⟨bV _ x2 hD,?_⟩;have es:(om os)[i]?=some (vA os[i] os[jt i]):=by
   unfold om;rw [List.getElem?_mapIdx,Á li];show some (vA os[i] (os.getD (jt i) (0,false)))=_;rw [Lb,Á lm];rfl
  rw [bF es,á,<- ey];rfl
 ·rintro ys H' ly ρ ⟨x',ey⟩;have l2:(om os).length=xs.length:=by unfold om;rw [List.length_mapIdx,lx]
  rw [<- l2,ĉ] at ey;rw [ey] at ρ;exact q D H' x' hD ρ
end
def aR:Nat->Str
 | 0 => "sum"
 | 1 => "ranks"
 | 2 => "wins"
 | _ => "signs"
def Me (MC:Nat->Addr)(H:Hp)(k:Nat)(v:V):Prop:=∃ a dx m,v=.ref a/\H a=some (.ins (MC k) dx [("mark",.ref m)])/\H m=some (.tup [.str (aR k)])
theorem Me.ext {MC:Nat->Addr}{H H':Hp}{k:Nat}{v:V}(h:Me MC H k v)(x:Ext H H'):Me MC H' k v:=by
 obtain⟨a,dx,m,e,ha,hm⟩:=h;exact⟨a,dx,m,e,x _ _ ha,x _ _ hm⟩
def qN (MC:Nat->Addr)(c:Addr):Prop:=∃ i,i<4/\c=MC i
structure KM (K:Frag)(MC:Nat->Addr):Prop where
 cls:∀ i,i<4->K4 K (MC i)
 no:∀ i,i<4->ř K (MC i) "mark"
section
variable {P:Program}{w:World}{K:Frag}{mg:aX}{base:Heap}{C MC:Nat->Addr}{CO CR CF CU CN f a1 a2:Addr}{fd d1 d2:FuncData}
theorem gC {m:Str}{sp:Addr->Sp}{E:XK}{ta:TE}{t:TA}{σ:St}{H:Hp}{Q:VK}{k:Nat}{v:V}(hm:m ≠ "mark") (hk:k<4) (h:Me MC H k v) (ht:∀ R:VK,R v H->ta σ H R) (q:t σ H λ vs H2=>sp (MC k) (v::vs) H2 Q E):eY (qN MC) m sp E ta t σ H Q:=by
 obtain⟨a,dx,m',rfl,ha,_⟩:=h;refine ht _ ⟨a,MC k,dx,_,rfl,⟨k,hk,rfl⟩,ha,?_,q⟩;show List.lookup m [(("mark" : Str),V.ref m')]=none;rw [Ċ,Þ.mpr hm];rfl
abbrev Bu:Stmt:=aB (bw 62) 1
abbrev zQ:Stmt:=aB (bw 63) 1
abbrev yo:Stmt:=aB (bw 65) 1
abbrev zS:Stmt:=aB (bw 61) 4
theorem B0:ad ["self","rule","outcomes"] ["self","rule","outcomes"] (aa Bu):=aF
theorem CW:ad ["self","rule","outcomes"] ["self","rule","outcomes"] (aa zQ):=aF
theorem DG:ad ["self","rule","outcomes"] ["self","rule","outcomes"] (aa yo):=aF
theorem DX:ad ["self","rule","outcomes"] ["self","rule","outcomes"] (aa zS):=aF
def vW (CU:Addr):Sp:=λ vs H Q E=>∃ v r a xs os,vs=[v,r,.ref a]/\H a=some (.lst xs)/\uI H xs os/\((os.map (·.2)).all id=true->∀ H',Ext H H'->Q .ô H')/\∀ i,dX (os.map (·.2)) i->∀ H',Ext H H'->cz CU "place" (.int (i:Nat)) H' E
def B3 (C:Nat->Addr)(CN:Addr):Sp:=λ vs H Q E=>∃ v r o t,vs=[v,r,o]/\Ru C H t r/\t.parts.length<=20/\(∀ p∈t.parts,p.length<=20)/\((qA t).all id=true->∀ H',Ext H H'->Q .ô H')/\∀ i,dX (qA t) i->∀ H',Ext H H'->cz CN "block" (.int (i:Nat)) H' E
def BW:Sp:=λ vs H Q _=>∃ v r o,vs=[v,r,o]/\Q .ô H
theorem yH (F:ė K "need_fit" "Sum.need_fit" Bu f fd) (A1:Df P w K mg base (bP P w) 3 "need_sure" ["outcomes"] (rj CU) a1 d1):Ò P w K mg base (bP P w) 4 f fd ["self","rule","outcomes"] (vW CU):=by
 refine fH F B0 λ cdv A outer s H vs Q E hr h=>?_;obtain⟨v,r,a,xs,os,rfl,ha,oc,q1,q2⟩:=h;exact⟨_,aK (ax (br A1 hr bQ (ac (pv 2) ao))),_,rfl,a,xs,os,rfl,ha,oc,q1,q2⟩
theorem Bc (F:ė K "need_fit" "Ranks.need_fit" zQ f fd) (A1:Df P w K mg base (bP P w) 3 "need_sure" ["outcomes"] (rj CU) a1 d1):Ò P w K mg base (bP P w) 4 f fd ["self","rule","outcomes"] (vW CU):=by
 refine fH F CW λ cdv A outer s H vs Q E hr h=>?_;obtain⟨v,r,a,xs,os,rfl,ha,oc,q1,q2⟩:=h;exact⟨_,aK (ax (br A1 hr bQ (ac (pv 2) ao))),_,rfl,a,xs,os,rfl,ha,oc,q1,q2⟩
theorem Bi (F:ė K "need_fit" "Signs.need_fit" yo f fd) (A1:Df P w K mg base (bP P w) 3 "need_pairs" ["rule"] (C8 C CN) a1 d1):Ò P w K mg base (bP P w) 4 f fd ["self","rule","outcomes"] (B3 C CN):=by
 refine fH F DG λ cdv A outer s H vs Q E hr h=>?_;obtain⟨v,r,o,t,rfl,ru,l1,l2,q1,q2⟩:=h;exact⟨_,aK (ax (br A1 hr bQ (ac (pv 1) ao))),_,rfl,r,t,rfl,ru,l1,l2,q1,q2⟩
theorem Bf (F:ė K "need_fit" "Measure.need_fit" zS f fd):Ò P w K mg base ay 1 f fd ["self","rule","outcomes"] BW:=by
 refine bR F DX λ cdv A outer s H vs Q E hr h=>?_;obtain⟨v,r,o,rfl,q⟩:=h;exact⟨_,aK wc,q⟩
end
def nH (os:List (Int × Bool)):List Int:=os.map λ o=>(os.map λ p=>vA o p).sum
def Fs:Nat->List (Int × Bool)->List Int
 | 0,os=>os.map (·.1)
 | 1,os=>os.map λ o=>rk (os.map (·.1)) o.1
 | 2,os=>nH os
 | _,os=>om os
def f8:Nat->Rl->List (Int × Bool)->List Bool
 | 0,_,os=>os.map (·.2)
 | 1,_,os=>os.map (·.2)
 | 2,_,_=>[]
 | _,t,_=>qA t
def ji (CU CN:Addr)(k:Nat):Addr:=if k=3 then CN else CU
def iT (k:Nat):Str:=if k=3 then "block" else "place"
section
variable {P:Program}{w:World}{K:Frag}{mg:aX}{base:Heap}{C MC:Nat->Addr}{CO CR CF CU CN f a1 a2:Addr}{fd d1 d2:FuncData}
structure Go (H:Hp)(k:Nat)(a:Addr)(os:List (Int × Bool)):Prop where
 ex:∃ xs,H a=some (.lst xs)/\uI H xs os
 bd:∀ o∈os,-99<=o.1/\o.1<=99
 ln:os.length<=20
 ev:k=3->os.length%2=0
theorem Go.ext {H H':Hp}{k:Nat}{a:Addr}{os:List (Int × Bool)}(h:Go H k a os)(x:Ext H H'):Go H' k a os:=by
 obtain⟨⟨xs,ha,l,oc⟩,b,c,d⟩:=h;refine⟨⟨xs,x _ _ ha,l,λ i y o h1 h2=>?_⟩,b,c,d⟩;obtain⟨p,e,hp⟩:=oc i y o h1 h2;exact⟨p,e,x _ _ hp⟩
def jA (MC:Nat->Addr)(c:Addr):Sp:=λ vs H Q _=>∃ k v a os,k<4/\c=MC k/\vs=[v,.ref a]/\Go H k a os/\oB H (Fs k os) Q
def mw (MC:Nat->Addr)(c:Addr):Sp:=λ vs H Q _=>∃ k v r a os,k<4/\c=MC k/\vs=[v,r,.ref a]/\Me MC H k v/\Go H k a os/\oB H (Fs k os) Q
def i4 (C MC:Nat->Addr)(CU CN c:Addr):Sp:=λ vs H Q E=>∃ k v r t a xs os,k<4/\c=MC k/\vs=[v,r,.ref a]/\Ru C H t r/\t.parts.length<=20/\(∀ p∈t.parts,p.length<=20)/\H a=some (.lst xs)/\uI H xs os/\((f8 k t os).all id=true->∀ H',Ext H H'->Q .ô H')/\∀ i,dX (f8 k t os) i->∀ H',Ext H H'->cz (ji CU CN k) (iT k) (.int (i:Nat)) H' E
abbrev zW:Stmt:=aB (bw 61) 5
theorem D4:ad ["self","rule","outcomes"] ["self","rule","outcomes"] (aa zW):=aF
def r6 (MC:Nat->Addr):Sp:=λ vs H Q E=>∃ c,mw MC c vs H Q E
theorem AO (F:ė K "scored" "Measure.scored" zW f fd) (M:bL P w K mg base ay 7 "among" ["self","outcomes"] (qN MC) (jA MC)):Ò P w K mg base ay 8 f fd ["self","rule","outcomes"] (r6 MC):=by
 refine bR F D4 λ cdv A outer s H vs Q E hr h=>?_;obtain⟨c,k,v,r,a,os,hk,rfl,rfl,me,go,q⟩:=h;refine⟨_,aK (bh (dC (pv 0) M hr ai (ac (pv 2) ao))),?_⟩;exact gC aA hk me (λ R r=>⟨_,rfl,r⟩) ⟨_,rfl,k,v,a,os,hk,rfl,rfl,go,q⟩
abbrev vX:Stmt:=aB (bw 61) 3
theorem xJ:ad ["self","rule","outcomes"] ["self","rule","outcomes"] (aa vX):=aF
def pL (C MC:Nat->Addr)(CU CN:Addr):Sp:=λ vs H Q E=>∃ k v r t a xs os,k<4/\vs=[v,r,.ref a]/\Me MC H k v/\Ru C H t r/\t.parts.length<=20/\(∀ p∈t.parts,p.length<=20)/\H a=some (.lst xs)/\uI H xs os/\(∀ o∈os,-99<=o.1/\o.1<=99)/\os.length<=20/\t.ë =(os.length:Nat)/\(k=3->(qA t).all id=true->os.length%2=0) /\
 ((f8 k t os).all id=true->oB H (Fs k os) Q)/\∀ i,dX (f8 k t os) i->∀ H',Ext H H'->cz (ji CU CN k) (iT k) (.int (i:Nat)) H' E
theorem An (F:ė K "scores" "Measure.scores" vX f fd) (Mr:Ms P w K mg base C) (A1:Df P w K mg base (bP P w) 6 "need_outcomes_of" ["thing","folk"] (oJ K CF CO) a1 d1) (M1:bL P w K mg base (bP P w) 5 "need_fit" ["self","rule","outcomes"] (qN MC) (i4 C MC CU CN)) (M2:bL P w K mg base ay 8 "scored" ["self","rule","outcomes"] (qN MC) (mw MC)) :
  Ò P w K mg base (bP P w) 9 f fd ["self","rule","outcomes"] (pL C MC CU CN):=by
 refine fH F xJ λ cdv A outer s H vs Q E hr h=>?_;obtain⟨k,v,r,t,a,xs,os,hk,rfl,me,ru,l1,l2,ha,oc,bd,lo,fk,ev,q1,q2⟩:=h;have Ĵ:î 1 _:=hr.mono ag;have O8:î 5 _:=hr.mono ag;have Rv:î 6 _:=hr.mono ag;refine⟨_,ba (ax (br A1 Rv bQ (ac (pv 2) (ac (ck (pv 1) Mr.ë Ĵ ai) ao))))
  (ba (ax (dC (pv 0) M1 O8 bQ (ac (pv 1) (ac (pv 2) ao))))
  (aK (bh (dC (pv 0) M2 hr ai (ac (pv 1) (ac (pv 2) ao)))))),?_⟩
 have lx:=oc.1;have ot:pA K H xs (os.map λ _=>true):=by
  refine⟨by rw [Æ];exact lx,λ i x hx=>?_⟩
  have li:i<os.length:=by rw [<- lx];exact(É.mp hx).1
  obtain⟨b,rfl,hb⟩:=oc.2 i x _ hx (Á li);have z:=bd os[i] (ċ li);refine⟨true,by rw [Ù,Á li];rfl,.inl ⟨.tuple [.int os[i].1,.bool os[i].2],.tup hb (.cons (.int _) (.cons (.bl _) .nil)),?_⟩⟩
  show true=((decide ((-99:Int)<=os[i].1)&&decide (os[i].1<=99))&&true);rw [Ä z.1,Ä z.2];rfl
 refine⟨_,rfl,cY (t:=t) aA ru (λ R r=>⟨_,rfl,r⟩) ⟨r,t,rfl,ru,?_⟩⟩;refine⟨.ref a,t.ë,rfl,.inr ⟨a,xs,_,rfl,ha,ot,λ _ H1 x1=>?_,λ i fi=>?_⟩⟩
 ·rw [Ï (by rw [fk,lx])]
  show eY (qN MC) "need_fit" (i4 C MC CU CN) _ (aq 0) (aw (aq 1) (aw (aq 2) aP)) [some v,some r,some (.ref a)] H1 _;refine gC aA hk (me.ext x1) (λ R r=>⟨_,rfl,r⟩) ⟨_,rfl,_,rfl,k,v,r,t,a,xs,os,hk,rfl,rfl,ru.ext x1,l1,l2,x1 _ _ ha,?_,λ al H2 x2=>?_,λ i fi H2 x2=>q2 i fi H2 (x1.trans x2)⟩
  ·refine⟨lx,λ i y o h1 h2=>?_⟩;obtain⟨p,e,hp⟩:=oc.2 i y o h1 h2;exact⟨p,e,x1 _ _ hp⟩
  ·have ņ:=x1.trans x2;have go:Go H k a os:=⟨⟨xs,ha,oc⟩,bd,lo,λ e=>ev e (by subst e;exact al)⟩
   show eY (qN MC) "scored" (mw MC) _ (aq 0) (aw (aq 1) (aw (aq 2) aP)) [some v,some r,some (.ref a)] H2 _;refine gC aA hk (me.ext ņ) (λ R r=>⟨_,rfl,r⟩) ⟨_,rfl,_,rfl,k,v,r,a,os,hk,rfl,rfl,me.ext ņ,go.ext ņ,λ l H3 x3 nl hl=>?_⟩;refine q1 al l H3 (ņ.trans x3) ?_ hl;cases e:H l with
   | none=>rfl
   | some o=>rw [ņ _ _ e] at nl;cases nl
 ·exfalso;have z:=fi.2;rw [Ù] at z;obtain⟨_,_,z⟩:=Ě.mp z;cases z
end
theorem rY {n z:Str}{a c:Addr}(h:List.lookup z [(n,a)]=some c):z=n/\c=a:=by
 rw [Ċ] at h;cases e:z==n with
 | true=>rw [e] at h;exact⟨Ą.mp e,(Ó h).symm⟩
 | false=>rw [e] at h;cases h
section
variable {P:Program}{w:World}{K:Frag}{mg:aX}{base:Heap}{C:Nat->Addr}{CO CR f a1:Addr}{fd d1:FuncData}
abbrev kY:Stmt:=aB (bw 64) 1
theorem En:ad ["self","outcomes"] ["self","outcomes"] (aa kY):=aF
abbrev ul:Scope:=ij [("one",.cell),("sum",.globalImplicit),("outcomes",.free)]
abbrev EU:Scope:=ij [("other",.local),("stands_to",.globalImplicit),("one",.free)]
theorem B7:((["one"]:List Str)++(["outcomes"]:List Str)).Nodup:=aA
theorem EO:((["other"]:List Str)++(["one"]:List Str)).Nodup:=aA
def xP (K:Frag):Sp:=λ vs H Q _=>∃ v a xs os,vs=[v,.ref a]/\H a=some (.lst xs)/\uI H xs os/\(∀ o∈os,-99<=o.1/\o.1<=99)/\os.length<=20/\oB H (nH os) Q
def GV (K:Frag)(CO:Addr):TE:=jf (eJ K (aq 1)) 1 [0] (be 0) (ie (mj K CO) [] E0 (aw (aq 1) (aw (aq 0) aP)))
def Eh (K:Frag)(CO:Addr):TE:=nu (xf K) (aw (GV K CO) aP)
section
variable {cdv:Value}{A:Around}{outer:List Env}{s:Shared}{H:Hp}{E:XK}
theorem vp:eZ (cq ay P w K mg base ["self","outcomes"] "Wins.among" (aa kY) f cdv A outer s H E).υ ul [("outcomes",s.heap.objs.size+1)] (some "one") ["one"] ["outcomes"] [1]:=by
 refine⟨rfl,rfl,λ C=>rfl,aA,λ x h=>(by cases h;exact Ð.mpr rfl),λ z c h=>?_,λ z h=>?_,aA,λ k z h=>?_,rfl⟩
 ·obtain⟨rfl,rfl⟩:=rY h;rfl
 ·have h:List.lookup z [((".0" : Str),NameKind.local),(("one" : Str),NameKind.cell),(("sum" : Str),NameKind.globalImplicit),(("outcomes" : Str),NameKind.cell)]=some .cell\/List.lookup z [((".0" : Str),NameKind.local),(("one" : Str),NameKind.cell),(("sum" : Str),NameKind.globalImplicit),(("outcomes" : Str),NameKind.cell)]=some .free:=h;have all:∀ y ∈ [((".0" : Str),NameKind.local),(("one" : Str),NameKind.cell),(("sum" : Str),NameKind.globalImplicit),(("outcomes" : Str),NameKind.cell)],(y.2=.cell\/y.2=.free)->y.1 = "one" \/ y.1 = "outcomes" := aA;have e:z = "one" \/ z = "outcomes" := by
   rcases h with h | h
   ·exact all _ (ç h) (.inl rfl)
   ·exact all _ (ç h) (.inr rfl)
  rcases e with rfl | rfl
  ·exact .inl rfl
  ·exact .inr ⟨_,gw⟩
 ·match k,h with
  | 0,h =>
   have h:some ("outcomes" : Str)=some z:=h;cases h;exact⟨1,rfl,rfl,.inr (.inl rfl),by show(aa kY).names.lookup ("outcomes" : Str)≠some NameKind.local;decide +kernel,.inl rfl⟩
  | k+1,h=>simp at h
theorem uY {X:Cx}{C1:Addr}{fp:List Addr}{cl:List (Str × Addr)}(hk:X.env.scope.kind=.function):dP (aC X ul cl (some "one") ((["one"]:List Str)++(["outcomes"]:List Str)) s H C1 fp) EU [("one",C1+1)] ["other"] ["one"] [0] :=
 n8 (L:=[(".0",.local),("other",.local),("stands_to",.globalImplicit),("one",.cell)]) rfl rfl aA aA aA gw rfl aA aA rfl (.inr (.inl rfl))
  (by show(relabel ul X.env).names.lookup ("one" : Str)≠some NameKind.local;exact λ h=>nomatch (show some NameKind.cell=some NameKind.local from h)) (.inl rfl)
theorem zC (A1:Df P w K mg base (bP P w) 5 "stands_to" ["one","other"] (mj K CO) a1 d1) (ms:mg "sum" = none) (hr:t3 5 "Wins.among" kY A s f cdv):Bx (Ũ (cq ay P w K mg base ["self","outcomes"] "Wins.among" (aa kY) f cdv A outer s H E).υ (aI kY) (aV (jf (eJ K (aq 1)) 1 [1] (be 0) (Eh K CO)))) :=
 cv ⟨bh (eQ (te:=Eh K CO) (g:=be 0) rfl vp (cF (pv 1)) (λ s H C fp=>by exact cT (i:=0) B7 rfl (.inr rfl)) (λ s H C fp=>by
  exact am (qB rfl) rfl ms PyProof.Rows.boot_sum (ac (eQ (te:=ie (mj K CO) [] E0 (aw (aq 1) (aw (aq 0) aP))) (g:=be 0) rfl (uY rfl) (cF (pv 1)) (λ s H C fp=>by exact cT (i:=0) EO rfl (.inl rfl)) (λ s H C fp=>by
   exact br A1 hr ls (ac (pv 1) (ac (pv 0) ao)))) ao)))⟩
end
theorem zz (F:ė K "among" "Wins.among" kY f fd) (A1:Df P w K mg base (bP P w) 5 "stands_to" ["one","other"] (mj K CO) a1 d1) (ms:mg "sum" = none):Ò P w K mg base ay 6 f fd ["self","outcomes"] (xP K):=by
 refine bR F En λ cdv A outer s H vs Q E hr h=>?_;obtain⟨v,a,xs,os,rfl,ha,oc,bd,lo,q⟩:=h;obtain⟨NG⟩:=zC A1 ms hr (f:=f) (cdv:=cdv) (A:=A) (outer:=outer) (s:=s) (H:=H) (E:=E) (P:=P) (w:=w) (base:=base);refine⟨_,NG,?_⟩;obtain⟨lx,oc⟩:=oc;have sz:=Ø;have ot:∀{H':Hp}{i:Nat}{b:Addr},Ext H H'->(hi:i<os.length)->H' b=some (.tup [.int os[i].1,.bl os[i].2])->Ot K H' (.ref b) true:=λ {H' i b} x' hi hb=>by
  have:=bd os[i] (ċ hi);refine .inl ⟨.tuple [.int os[i].1,.bool os[i].2],.tup hb (.cons (.int _) (.cons (.bl _) .nil)),?_⟩;show true=((decide ((-99:Int)<=os[i].1)&&decide (os[i].1<=99))&&true);rw [Ä this.1,Ä this.2];rfl
 refine⟨_,rfl,a,rfl,⟨_,ÿ.of ha⟩,λ D hD=>?_⟩;refine eH (a:=a) (xs:=xs) (λ i ys H'=>Ext H H'/\ys=((nH os).take i).map V.int) ae ⟨Ext.new hD,rfl⟩ (λ i ys H' pv=>ÿ.of (pv.1 _ _ ha)) ?_ ?_
 ·rintro i x ys H' ex ly ρ ⟨x',ey⟩ Li Ŵ R k;obtain⟨o0,rfl⟩:∃ o0,Li=[o0]:=by
   match Li,Ŵ with
   | [o0],_=>exact⟨o0,rfl⟩
  have li:i<os.length:=by rw [<- lx];exact(É.mp ex).1
  obtain⟨b,rfl,hb⟩:=oc i x _ ex (Á li);refine⟨⟨[some (.ref b)],rfl,rfl⟩,?_⟩;refine⟨_,rfl,a,rfl,⟨_,ÿ.of (x' _ _ ha)⟩,λ D2 MV=>?_⟩;have nD:D2≠D:=λ e=>by rw [e,ρ] at MV;cases MV
  refine eH (a:=a) (xs:=xs) (λ j zs H2=>Ext H' H2/\zs=((os.map λ p=>vA os[i] p).take j).map V.int) ae ⟨Ext.new MV,rfl⟩ (λ j zs H2 pv=>ÿ.of (pv.1 _ _ (x' _ _ ha))) ?_ ?_
  ·rintro j y zs H2 Tw lz Jb ⟨x2,ez⟩ OA Ra R2 k2;obtain⟨o0,rfl⟩:∃ o0,OA=[o0]:=by
    match OA,Ra with
    | [o0],_=>exact⟨o0,rfl⟩
   have lj:j<os.length:=by rw [<- lx];exact(É.mp Tw).1
   obtain⟨b2,rfl,ND⟩:=oc j y _ Tw (Á lj);have ņ:=x'.trans x2;refine⟨⟨[some (.ref b2)],rfl,rfl⟩,_,rfl,_,rfl,.ref b,.ref b2,true,true,rfl,ot ņ li (ņ _ _ hb),ot ņ lj (ņ _ _ ND),(λ z=>by cases z),(λ _ z=>by cases z),λ a1 a2 n1 n2 s1 s2 q1 q2 t1 t2 _ _=>?_⟩
   cases q1;cases q2;rw [ņ _ _ hb] at t1;rw [ņ _ _ ND] at t2;cases t1;cases t2;refine k2 _ H2 Jb ⟨bV _ x2 MV,?_⟩;have es:(os.map λ p=>vA os[i] p)[j]?=some (vA os[i] os[j]):=by
    rw [Ù,Á lj];rfl
   rw [bF es,á,<- ez];rfl
  ·rintro zs H2 lz Jb ⟨x2,ez⟩;have l2:(os.map λ p=>vA os[i] p).length=xs.length:=by rw [Æ,lx]
   rw [<- l2,ĉ] at ez;rw [ez] at Jb;refine⟨D2,_,rfl,ÿ.of Jb,?_⟩;refine k _ H2 (x2 _ _ ρ) ⟨bV _ (x'.trans x2) hD,?_⟩;have es:(nH os)[i]?=some ((os.map λ p=>vA os[i] p).sum):=by
    unfold nH;rw [Ù,Á li];rfl
   rw [bF es,á,<- ey];rfl
 ·rintro ys H' ly ρ ⟨x',ey⟩;have l2:(nH os).length=xs.length:=by unfold nH;rw [Æ,lx]
  rw [<- l2,ĉ] at ey;rw [ey] at ρ;exact q D H' x' hD ρ
end
section
variable {P:Program}{w:World}{K:Frag}{mg:aX}{base:Heap}{C MC:Nat->Addr}{f S g:Addr}{fd gd:FuncData}
abbrev zF:Stmt:=aB (bw 61) 0
def kP (MC:Nat->Addr):Sp:=λ vs H Q _=>∃ x v k dx,k<4/\vs=[.ref x,v]/\H x=some (.ins (MC k) dx [])/\Q .ô (aj H x (.ins (MC k) dx [("mark",v)]))
theorem E2:ad ["self","mark"] ["self","mark"] (aa zF):=aF
theorem Bn (Z:KM K MC)(F:ė K "__init__" "Measure.__init__" zF f fd):Ò P w K mg base ay 1 f fd ["self","mark"] (kP MC):=by
 refine bR F E2 λ cdv A outer s H vs Q E hr h=>?_;obtain⟨x,v,k,dx,hk,rfl,hx,q⟩:=h;exact⟨_,aK (cR (pv 0) (pv 1) rfl),_,rfl,_,rfl,x,_,dx,[],rfl,hx,Z.cls k hk,Z.no k hk,ag,q⟩
def fT (MC:Nat->Addr)(k:Nat):Sp:=λ vs H Q _=>∃ x dx,vs=[.ref x]/\H x=some (.ins (MC k) dx [])/\∀ m H',Kept H H' x->H' m=some (.tup [.str (aR k)])->H' x=some (.ins (MC k) dx [("mark",.ref m)])->Q .ô H'
abbrev AL:Stmt:=aB (bw 62) 0
theorem BK:ad ["self"] ["self"] (aa AL):=aF
theorem zb (F:ė K "__init__" "Sum.__init__" AL f fd) (Cf:fV K S "__init__" g) (G:Ò P w K mg base ay 1 g gd ["self","mark"] (kP MC)) (bG:Binds K gd ["self","mark"] []) (mS:mg "Measure" = some (.ref S)):Ò P w K mg base ay 2 f fd ["self"] (fT MC 0):=by
 refine bR F BK λ cdv A outer s H vs Q E hr h=>?_;obtain⟨x,dx,rfl,hx,q⟩:=h;refine⟨_,aK (ax (cc Cf G hr rfl mS bG .nil ai (ac (pv 0) (ac (aE (ac cL ao)) ao)))),?_⟩;refine⟨_,rfl,dy,λ t ht=>?_⟩;have x1:=Ext.new (o:=.tup [.str "sum"]) ht;have ne:t≠x:=λ e=>by rw [e,hx] at ht;cases ht
 refine⟨x,_,0,dx,ag,rfl,x1 _ _ hx,q t _ ((x1.kept x).trans (bA _)) ?_ aQ⟩;rw [ah ne];exact aQ
abbrev AQ:Stmt:=aB (bw 63) 0
theorem EQ:ad ["self"] ["self"] (aa AQ):=aF
theorem Ay (F:ė K "__init__" "Ranks.__init__" AQ f fd) (Cf:fV K S "__init__" g) (G:Ò P w K mg base ay 1 g gd ["self","mark"] (kP MC)) (bG:Binds K gd ["self","mark"] []) (mS:mg "Measure" = some (.ref S)):Ò P w K mg base ay 2 f fd ["self"] (fT MC 1):=by
 refine bR F EQ λ cdv A outer s H vs Q E hr h=>?_;obtain⟨x,dx,rfl,hx,q⟩:=h;refine⟨_,aK (ax (cc Cf G hr rfl mS bG .nil ai (ac (pv 0) (ac (aE (ac cL ao)) ao)))),?_⟩;refine⟨_,rfl,dy,λ t ht=>?_⟩;have x1:=Ext.new (o:=.tup [.str "ranks"]) ht;have ne:t≠x:=λ e=>by rw [e,hx] at ht;cases ht
 refine⟨x,_,1,dx,ag,rfl,x1 _ _ hx,q t _ ((x1.kept x).trans (bA _)) ?_ aQ⟩;rw [ah ne];exact aQ
abbrev A8:Stmt:=aB (bw 64) 0
theorem ES:ad ["self"] ["self"] (aa A8):=aF
theorem AK (F:ė K "__init__" "Wins.__init__" A8 f fd) (Cf:fV K S "__init__" g) (G:Ò P w K mg base ay 1 g gd ["self","mark"] (kP MC)) (bG:Binds K gd ["self","mark"] []) (mS:mg "Measure" = some (.ref S)):Ò P w K mg base ay 2 f fd ["self"] (fT MC 2):=by
 refine bR F ES λ cdv A outer s H vs Q E hr h=>?_;obtain⟨x,dx,rfl,hx,q⟩:=h;refine⟨_,aK (ax (cc Cf G hr rfl mS bG .nil ai (ac (pv 0) (ac (aE (ac cL ao)) ao)))),?_⟩;refine⟨_,rfl,dy,λ t ht=>?_⟩;have x1:=Ext.new (o:=.tup [.str "wins"]) ht;have ne:t≠x:=λ e=>by rw [e,hx] at ht;cases ht
 refine⟨x,_,2,dx,ag,rfl,x1 _ _ hx,q t _ ((x1.kept x).trans (bA _)) ?_ aQ⟩;rw [ah ne];exact aQ
abbrev yZ:Stmt:=aB (bw 65) 0
theorem Ej:ad ["self"] ["self"] (aa yZ):=aF
theorem AB (F:ė K "__init__" "Signs.__init__" yZ f fd) (Cf:fV K S "__init__" g) (G:Ò P w K mg base ay 1 g gd ["self","mark"] (kP MC)) (bG:Binds K gd ["self","mark"] []) (mS:mg "Measure" = some (.ref S)):Ò P w K mg base ay 2 f fd ["self"] (fT MC 3):=by
 refine bR F Ej λ cdv A outer s H vs Q E hr h=>?_;obtain⟨x,dx,rfl,hx,q⟩:=h;refine⟨_,aK (ax (cc Cf G hr rfl mS bG .nil ai (ac (pv 0) (ac (aE (ac cL ao)) ao)))),?_⟩;refine⟨_,rfl,dy,λ t ht=>?_⟩;have x1:=Ext.new (o:=.tup [.str "signs"]) ht;have ne:t≠x:=λ e=>by rw [e,hx] at ht;cases ht
 refine⟨x,_,3,dx,ag,rfl,x1 _ _ hx,q t _ ((x1.kept x).trans (bA _)) ?_ aQ⟩;rw [ah ne];exact aQ
structure Ic (P:Program)(w:World)(K:Frag)(mg:aX)(base:Heap)(MC:Nat->Addr)(f0 f1 f2 f3:Addr)(e0 e1 e2 e3:FuncData):Prop where
 k0:Mk K (MC 0) f0
 k1:Mk K (MC 1) f1
 k2:Mk K (MC 2) f2
 k3:Mk K (MC 3) f3
 g0:Ò P w K mg base ay 2 f0 e0 ["self"] (fT MC 0)
 g1:Ò P w K mg base ay 2 f1 e1 ["self"] (fT MC 1)
 g2:Ò P w K mg base ay 2 f2 e2 ["self"] (fT MC 2)
 g3:Ò P w K mg base ay 2 f3 e3 ["self"] (fT MC 3)
 b0:Binds K e0 ["self"] []
 b1:Binds K e1 ["self"] []
 b2:Binds K e2 ["self"] []
 b3:Binds K e3 ["self"] []
 m0:mg "Sum" = some (.ref (MC 0))
 m1:mg "Ranks" = some (.ref (MC 1))
 m2:mg "Wins" = some (.ref (MC 2))
 m3:mg "Signs" = some (.ref (MC 3))
theorem D3 {H:Hp}{x dx:Addr}{R:VK}{E:XK}{k:Nat}(hx:H x=none)(hd:H dx=none)(ne:dx≠x)(q:∀ H',Ext H H'->Me MC H' k (.ref x)->R .ô H'):fT MC k [.ref x] (aj (aj H dx (.own x)) x (.ins (MC k) dx [])) R E:=by
 have xe:=gK (u:=.own x) (v:=.ins (MC k) dx []) hx hd ne;exact⟨x,dx,rfl,aQ,λ m H' kp hm Js=>q H' (xe.kp hx kp) ⟨x,dx,m,rfl,Js,hm⟩⟩
end
def dL (a b c d:Addr):Nat->Addr
 | 0=>a
 | 1=>b
 | 2=>c
 | _=>d
section
variable {P:Program}{w:World}{K:Frag}{mg:aX}{base:Heap}{C MC:Nat->Addr}{CU CN f:Addr}{fd:FuncData}(dj:∀ i j,i<4->j<4->MC i=MC j->i=j)
include dj
theorem G4 (h:Ò P w K mg base ay 1 f fd ["self","outcomes"] (vD λ os=>os.map (·.1))):Ò P w K mg base ay 7 f fd ["self","outcomes"] (jA MC (MC 0)):=by
 refine(h.mono ag).imp λ vs H Q E z=>?_;obtain⟨k,v,a,os,hk,e,rfl,go,q⟩:=z;have ek:=dj 0 k ag hk e;subst ek;obtain⟨xs,ha,oc⟩:=go.ex;exact⟨v,a,xs,os,rfl,ha,oc,go.ln,q⟩
theorem Hm (h:Ò P w K mg base ay 1 f fd ["self","outcomes"] (vD λ os=>os.map λ o=>rk (os.map (·.1)) o.1)):Ò P w K mg base ay 7 f fd ["self","outcomes"] (jA MC (MC 1)):=by
 refine(h.mono ag).imp λ vs H Q E z=>?_;obtain⟨k,v,a,os,hk,e,rfl,go,q⟩:=z;have ek:=dj 1 k ag hk e;subst ek;obtain⟨xs,ha,oc⟩:=go.ex;exact⟨v,a,xs,os,rfl,ha,oc,go.ln,q⟩
theorem FF (h:Ò P w K mg base ay 6 f fd ["self","outcomes"] (xP K)):Ò P w K mg base ay 7 f fd ["self","outcomes"] (jA MC (MC 2)):=by
 refine(h.mono ag).imp λ vs H Q E z=>?_;obtain⟨k,v,a,os,hk,e,rfl,go,q⟩:=z;have ek:=dj 2 k ag hk e;subst ek;obtain⟨xs,ha,oc⟩:=go.ex;exact⟨v,a,xs,os,rfl,ha,oc,go.bd,go.ln,q⟩
theorem FV (h:Ò P w K mg base ay 6 f fd ["self","outcomes"] (xh K)):Ò P w K mg base ay 7 f fd ["self","outcomes"] (jA MC (MC 3)):=by
 refine(h.mono ag).imp λ vs H Q E z=>?_;obtain⟨k,v,a,os,hk,e,rfl,go,q⟩:=z;have ek:=dj 3 k ag hk e;subst ek;obtain⟨xs,ha,oc⟩:=go.ex;exact⟨v,a,xs,os,rfl,ha,oc,go.bd,go.ln,go.ev rfl,q⟩
theorem F9 (h:Ò P w K mg base (bP P w) 4 f fd ["self","rule","outcomes"] (vW CU)):Ò P w K mg base (bP P w) 5 f fd ["self","rule","outcomes"] (i4 C MC CU CN (MC 0)):=by
 refine(h.mono ag).imp λ vs H Q E z=>?_;obtain⟨k,v,r,t,a,xs,os,hk,e,rfl,ru,l1,l2,ha,oc,q1,q2⟩:=z;have ek:=dj 0 k ag hk e;subst ek;exact⟨v,r,a,xs,os,rfl,ha,oc,q1,q2⟩
theorem F4 (h:Ò P w K mg base (bP P w) 4 f fd ["self","rule","outcomes"] (vW CU)):Ò P w K mg base (bP P w) 5 f fd ["self","rule","outcomes"] (i4 C MC CU CN (MC 1)):=by
 refine(h.mono ag).imp λ vs H Q E z=>?_;obtain⟨k,v,r,t,a,xs,os,hk,e,rfl,ru,l1,l2,ha,oc,q1,q2⟩:=z;have ek:=dj 1 k ag hk e;subst ek;exact⟨v,r,a,xs,os,rfl,ha,oc,q1,q2⟩
theorem Gj (h:Ò P w K mg base ay 1 f fd ["self","rule","outcomes"] BW):Ò P w K mg base (bP P w) 5 f fd ["self","rule","outcomes"] (i4 C MC CU CN (MC 2)):=by
 refine(My.Ò.SB (h.mono (show 1<=5 by decide))).imp λ vs H Q E z=>?_
 obtain⟨k,v,r,t,a,xs,os,hk,e,rfl,ru,l1,l2,ha,oc,q1,q2⟩:=z;have ek:=dj 2 k ag hk e;subst ek;exact⟨v,r,_,rfl,q1 rfl H (Ext.refl _)⟩
theorem Hc (h:Ò P w K mg base (bP P w) 4 f fd ["self","rule","outcomes"] (B3 C CN)):Ò P w K mg base (bP P w) 5 f fd ["self","rule","outcomes"] (i4 C MC CU CN (MC 3)):=by
 refine(h.mono ag).imp λ vs H Q E z=>?_;obtain⟨k,v,r,t,a,xs,os,hk,e,rfl,ru,l1,l2,ha,oc,q1,q2⟩:=z;have ek:=dj 3 k ag hk e;subst ek;exact⟨v,r,_,t,rfl,ru,l1,l2,q1,q2⟩
omit dj
theorem vV {c:Addr}(h:Ò P w K mg base ay 8 f fd ["self","rule","outcomes"] (r6 MC)):Ò P w K mg base ay 8 f fd ["self","rule","outcomes"] (mw MC c):=h.imp λ vs H Q E z=>⟨c,z⟩
end
section
variable {P:Program}{w:World}{K:Frag}{mg:aX}{base:Heap}{C MC:Nat->Addr}{CF CO CU CN CD CT D n0 n1 f fC a1 a2:Addr}{fd d1 d2 Ju:FuncData}
theorem Ò.or {CX:iC}{k:Nat}{ps:List Str}{s1 s2:Sp}(h1:Ò P w K mg base CX k f fd ps s1)(h2:Ò P w K mg base CX k f fd ps s2):Ò P w K mg base CX k f fd ps λ vs H Q E=>s1 vs H Q E\/s2 vs H Q E :=
 ⟨λ vs H Q E h=>h.elim (h1.len vs H Q E) (h2.len vs H Q E),λ A outer s H args us vs Q E hr e0 hb r h=>h.elim (h1.run A outer s H args us vs Q E hr e0 hb r) (h2.run A outer s H args us vs Q E hr e0 hb r)⟩
def c7 (t:Rl):PyData->Bool
 | .int i=>ib 0 (2^t.ë.toNat-1) (.int i)&&decide ((t.share i).1≠0)
 | _=>false
abbrev Fr:Stmt:=bw 47
theorem FB:ad ["rule","thing"] ["rule","thing"] (aa Fr):=aF
def Cs (K:Frag)(C:Nat->Addr)(CD:Addr):Sp:=λ vs H Q E=>Ef K C vs H Q E\/xt C CD vs H Q E
def D7 (C:Nat->Addr)(CD:Addr):Sp:=λ vs H Q E=>∃(v x:V)(d:PyData)(r:R0),vs=[v,x]/\Ru C H (.one r) v/\r.ok/\õ H x d/\(c7 (.one r) d=true->∀ H',Ext H H'->Q .ô H')/\(c7 (.one r) d=false->∀ H',Ext H H'->cz CD "found" x H' E)
theorem EW (F:ė K "need_dealt" "need_dealt" Fr f fd) (T:Fk K mg n0 n1) (B:Ī K D) (O:jq K mg D "NoDealing" "found" CD fC Ju) (A1:Df P w K mg base (bP P w) 9 "dealing_share" ["rule","dealing"] (Cs K C CD) a1 d1):Ò P w K mg base (bP P w) 10 f fd ["rule","thing"] (D7 C CD):=by
 refine fH F FB λ cdv A outer s H vs Q E hr h=>?_;obtain⟨v,x,d,r,rfl,ru,ok,rd,q1,q2⟩:=h;have hu:(A.deeper (PyProof.Rows.envOfC "need_dealt" (aa Fr) s.heap.objs.size f cdv)).units<cLine:=hr.b_;refine⟨_,aK (aG (ar (on hu) (nq A1.G (hr.mono ag) rfl A1.m A1.kp A1.b .nil bQ (ac (pv 0) (ac (pv 1) ao))) (bn (v:=.ref n0) rfl T.m0 rfl) (av _)) (aK (cH B O.cls (O.ok P w base) (hr.mono ag) O.bi rfl O.Kn (pv 1))) dm),?_⟩;refine⟨_,rfl,_,rfl,?_⟩;cases e:ib 0 (2^(Rl.one r).ë.toNat-1) d with
 | false =>
  refine .inr ⟨v,x,d,.one r,rfl,ru,ok,rd,e,q2 ?_ H (Ext.refl _)⟩;cases d with
  | int i =>
   show(ib 0 (2^(Rl.one r).ë.toNat-1) (.int i)&&_)=false;rw [e];rfl
  | _=>rfl
 | true =>
  obtain⟨i,rfl,i0,i1⟩:=eP e;cases rd;refine .inl ⟨v,i,.one r,rfl,ru,ok,i0,ae,λ rr H1 x1 sh=>?_⟩;obtain⟨p,rfl,hp⟩:=sh;have sg:=ll ok i;have dl:c7 (.one r) (.int i)=decide (((Rl.one r).share i).1≠0):=by
   show(ib 0 (2^(Rl.one r).ë.toNat-1) (.int i)&&_)=_;rw [e];rfl
  refine⟨p,n0,_,_,rfl,rfl,hp,.inr T.t0,rfl,rfl,_,rfl,?_⟩;show if(fZ [.int (((Rl.one r).share i).1:Nat),.int (((Rl.one r).share i).2:Nat)] [.int (0:Nat),.int (1:Nat)])=true then _ else _
  cases eg:ur r i with
  | true =>
   rw [eg,Ï rfl] at sg;rw [show fZ [.int (((Rl.one r).share i).1:Nat),.int (((Rl.one r).share i).2:Nat)] [.int (0:Nat),.int (1:Nat)]=false from ?_]
   ·exact cJ (q1 (by rw [dl];exact Ä sg) H1 x1)
   ·show(((((Rl.one r).share i).1:Nat):Int)==((0:Nat):Int)&&_)=false;rw [Þ.mpr ae];rfl
  | false =>
   rw [eg,Ì Ê] at sg;rw [sg];exact cK ⟨_,rfl,λ e' dx h1 h2 nd=>fv nd (q2 (by rw [dl,sg];rfl) H1 x1 e' dx h1 h2 nd)⟩
def fb:List Bool->Option Nat:=List.findIdx? λ b=>!b
theorem dR {bs:List Bool}{i:Nat}(h:fb bs=some i):dX bs i:=by
 obtain⟨hi,e,k⟩:=List.findIdx?_eq_some_iff_getElem.mp h;refine⟨λ j b hj hb=>?_,?_⟩
 ·obtain⟨Z7,rfl⟩:=É.mp hb;have:=k j hj
  simpa using this
 ·rw [Á hi]
  simpa using e
theorem iq {bs:List Bool}(h:fb bs=none):bs.all id=true:=by
 rw [é];intro b hb;have:=List.findIdx?_eq_none_iff.mp h b hb
 simpa using this
theorem rW {bs:List Bool}{i:Nat}(h:dX bs i):fb bs=some i:=by
 cases e:fb bs with
 | none =>
  have:=é.mp (iq e) false (ê h.2);cases this
 | some j =>
  have hj:=dR e;rcases Nat.lt_trichotomy i j with l | l | l
  ·have:=hj.1 i _ l h.2;cases this
  ·rw [l]
  ·have:=h.1 j _ l hj.2;cases this
def io:PyData->Int × Bool
 | .tuple [.int n,.bool b]=>(n,b)
 | _=>(0,false)
def jG (CF CO CU CN CD:Addr)(r:R0)(k:Nat)(d e:PyData)(o dl:V):Option (Addr × Str × V):=match d with
 | .list ds=>match fb (ds.map eX) with
  | some i=>some (CO,"place",.int (i:Nat))
  | none=>if(ds.length:Int)=r.ë then(match fb (f8 k (.one r) (ds.map io)) with
    | some i=>some (ji CU CN k,iT k,.int (i:Nat))
    | none=>if c7 (.one r) e=true then none else some (CD,"found",dl)) else some (CF,"found",.int (ds.length:Nat))
 | _=>some (CF,"found",o)
theorem õ.WP {H:Hp}{v:V}{d:PyData}(rd:õ H v d)(h:∀ ds,d ≠ .list ds):NL K H v "list" := by
 refine⟨_,rd.kd,?_⟩;cases rd with
 | lst _ _=>exact absurd rfl (h _)
 | _=>rfl
theorem rO {H:Hp}{xs:List V}{ds:List PyData}(h:à H xs ds):pA K H xs (ds.map eX):=by
 refine⟨by rw [Æ];exact h.length,λ i x hx=>?_⟩
 obtain⟨d,ed,rd⟩:=h.get hx;exact⟨eX d,by rw [Ù,ed];rfl,.inl ⟨d,rd,rfl⟩⟩
theorem t9 {H:Hp}{xs:List V}{ds:List PyData}(h:à H xs ds)(al:(ds.map eX).all id=true):uI H xs (ds.map io)/\∀ o∈ds.map io,-99<=o.1/\o.1<=99:=by
 have g:∀ d∈ds,∃(n:Int)(b:Bool),d=.tuple [.int n,.bool b]/\-99<=n/\n<=99:=λ d hd=>oV (é.mp al _ (ā.mpr ⟨d,hd,rfl⟩));refine⟨⟨by rw [Æ];exact h.length,λ i x o hx ho=>?_⟩,λ o ho=>?_⟩
 ·obtain⟨d,ed,rd⟩:=h.get hx;rw [Ù,ed] at ho;cases ho;obtain⟨n,b,rfl,_⟩:=g d (ê ed);cases rd with
  | tup ha rs=>cases rs with | cons r1 rs=>cases rs with | cons r2 rs=>cases rs;cases r1;cases r2;exact⟨_,rfl,ha⟩
 ·obtain⟨d,hd,rfl⟩:=ā.mp ho;obtain⟨n,b,rfl,h1,h2⟩:=g d hd;exact⟨h1,h2⟩
end
def tV (K:Frag)(C:Nat->Addr)(CF CO:Addr):Sp:=λ vs H _ E=>∃ v r o t,vs=[v,r,o]/\Ru C H t r/\oJ K CF CO [o,.int t.ë] H (λ _ _=>False) E
def sF (K:Frag)(C MC:Nat->Addr)(CF CO CU CN:Addr):Sp:=λ vs H Q E=>pL C MC CU CN vs H Q E\/((∃ v k r o,vs=[v,r,o]/\k<4/\Me MC H k v)/\tV K C CF CO vs H Q E)
section
variable {P:Program}{w:World}{K:Frag}{mg:aX}{base:Heap}{C MC:Nat->Addr}{CF CO CU CN CD CT f a1 a2 g:Addr}{fd d1 d2 gd:FuncData}{S1 S2:Addr->Prop}{Wl Wk:Addr->Sp}{k1:Nat}
theorem v5 (F:ė K "scores" "Measure.scores" vX f fd) (Mr:Ms P w K mg base C) (A1:Df P w K mg base (bP P w) 6 "need_outcomes_of" ["thing","folk"] (oJ K CF CO) a1 d1) (h1:k1<=8) (M1:bL P w K mg base (bP P w) k1 "need_fit" ["self","rule","outcomes"] S1 Wl) (M2:bL P w K mg base ay 8 "scored" ["self","rule","outcomes"] S2 Wk) :
  Ò P w K mg base (bP P w) 9 f fd ["self","rule","outcomes"] (tV K C CF CO):=by
 refine fH F xJ λ cdv A outer s H vs Q E hr h=>?_;obtain⟨v,r,o,t,rfl,ru,h⟩:=h;have Ĵ:î 1 _:=hr.mono ag;have O8:î k1 _:=hr.mono h1;have Rv:î 6 _:=hr.mono ag;refine⟨_,ba (ax (br A1 Rv bQ (ac (pv 2) (ac (ck (pv 1) Mr.ë Ĵ ai) ao))))
  (ba (ax (dC (pv 0) M1 O8 bQ (ac (pv 1) (ac (pv 2) ao))))
  (aK (bh (dC (pv 0) M2 hr ai (ac (pv 1) (ac (pv 2) ao)))))),?_⟩
 refine⟨_,rfl,cY (t:=t) aA ru (λ R r=>⟨_,rfl,r⟩) ⟨r,t,rfl,ru,?_⟩⟩;obtain⟨o',n,e,h⟩:=h;cases e;refine⟨o,t.ë,rfl,?_⟩;rcases h with h | ⟨a,xs,bs,e1,ha,ot,h1,h2⟩
 ·exact .inl h
 ·refine .inr ⟨a,xs,bs,e1,ha,ot,λ al H' x'=>?_,h2⟩;have z:=h1 al H' x';by_cases l:(xs.length:Int)=t.ë
  ·rw [Ï l] at z;exact z.elim
  ·rw [Ì l] at z ⊢;exact z
theorem uS (h1:Ò P w K mg base (bP P w) 9 f fd ["self","rule","outcomes"] (pL C MC CU CN)) (h2:Ò P w K mg base (bP P w) 9 f fd ["self","rule","outcomes"] (tV K C CF CO)):Ò P w K mg base (bP P w) 9 f fd ["self","rule","outcomes"] (sF K C MC CF CO CU CN) :=
 (My.Ò.or h1 h2).imp λ vs H Q E h=>h.imp_right λ h=>h.2
abbrev GR:Stmt:=aB (bw 78) 0
abbrev IC:List Str:=["self","rule","outcomes","measure","dealing","points"]
theorem Of:ad IC ["self","rule","outcomes","measure","dealing"] (aa GR):=aF
def rK:List Str:=["rule","outcomes","measure","dealing","points"]
structure KT (K:Frag)(CT:Addr):Prop where
 cls:K4 K CT
 no:∀ f∈rK,ř K CT f
def Ah (K:Frag)(C MC:Nat->Addr)(CF CO CU CN CD CT:Addr):Sp:=λ vs H Q E=>∃(x dx:Addr)(rv o m dl:V)(r:R0)(k:Nat)(d e:PyData),vs=[.ref x,rv,o,m,dl]/\r.small/\k<4/\H x=some (.ins CT dx [])/\Ru C H (.one r) rv/\Me MC H k m/\õ H o d/\õ H dl e/\(∀ ds,d=.list ds->ds.length<=20) /\
 (∀ c fl v,jG CF CO CU CN CD r k d e o dl=some (c,fl,v)->∀ H',Ext H H'->cz c fl v H' E)/\(jG CF CO CU CN CD r k d e o dl=none->∀ H' fs,Kept H H' x->H' x=some (.ins CT dx fs)->fs.lookup ("dealing" : Str)=some dl->Q .ô H')
theorem pG (lo:Int):∀ n,(xR lo n).length=n:=λ n=>by simp [xR]
theorem R0.small.pt {r:R0}(h:r.small):(Rl.one r).parts.length<=20/\∀ p∈(Rl.one r).parts,p.length<=20:=by
 have f:=h.fk;refine⟨by show 1<=20;decide,λ p hp=>?_⟩
 rw [Ð.mp hp,pG];omega
theorem iA (r:R0):qA (.one r)=[r.JV&&decide (r.ë.toNat%2=0)]:=by
 show List.zipWith _ [xR 0 r.ë.toNat] [r]=_;simp only [List.zipWith_cons_cons,List.zipWith_nil_left,pG]
theorem DD (Z:KT K CT)(F:ė K "__init__" "Trial.__init__" GR f fd) (M:bL P w K mg base (bP P w) 9 "scores" ["self","rule","outcomes"] (qN MC) (λ _=>sF K C MC CF CO CU CN)) (A1:Df P w K mg base (bP P w) 10 "need_dealt" ["rule","thing"] (D7 C CD) a1 d1) (mt:mg "tuple" = none):Ò P w K mg base (bP P w) 11 f fd ["self","rule","outcomes","measure","dealing"] (Ah K C MC CF CO CU CN CD CT):=by
 refine fH F Of λ cdv A outer s H vs Q E hr h=>?_;obtain⟨x,dx,rv,o,m,dl,r,k,d,e,rfl,sm,hk,hx,ru,me,rd,re,L9,q1,q2⟩:=h;have nd:=Of.nd;have Xq:î 9 _:=hr.mono ag;refine⟨_,ba (dq (i:=5) nd rfl (Or.inl rfl) (dC (pv 3) M Xq bQ (ac (pv 1) (ac (pv 2) ao))))
  (ba (ax (br A1 hr bQ (ac (pv 1) (ac (pv 4) ao))))
  (ba (cR (pv 0) (pv 1) rfl)
  (ba (cR (pv 0) (bq dY rfl mt Ĉ (ac (pv 2) ao)) rfl)
  (ba (cR (pv 0) (pv 3) rfl)
  (ba (cR (pv 0) (pv 4) rfl)
  (aK (cR (pv 0) (bq dY rfl mt Ĉ (ac (pv 5) ao)) rfl))))))),?_⟩
 refine gC aA hk me (λ R r=>⟨_,rfl,r⟩) ⟨_,rfl,_,rfl,?_⟩;by_cases Lq:∃ ds,d=.list ds
 rotate_left
 ·have e1:jG CF CO CU CN CD r k d e o dl=some (CF,("found" : Str),o):=by
   cases d with
   | list ds=>exact absurd ⟨ds,rfl⟩ Lq
   | _=>rfl
  exact .inr ⟨⟨m,k,rv,o,rfl,hk,me⟩,m,rv,o,.one r,rfl,ru,o,_,rfl,.inl ⟨rd.WP λ ds h=>Lq ⟨ds,h⟩,q1 _ _ _ e1 H (Ext.refl _)⟩⟩
 obtain⟨ds,rfl⟩:=Lq;have Z1:=L9 ds rfl;cases rd with
 | lst ha ra =>
 rename_i a xs
 have lx:=ra.length;cases e1:fb (ds.map eX) with
 | some i =>
  have e2:jG CF CO CU CN CD r k (.list ds) e (.ref a) dl=some (CO,("place" : Str),.int (i:Nat)):=by
   simp only [jG,e1]
  have fi:=dR e1;refine .inr ⟨⟨m,k,rv,_,rfl,hk,me⟩,m,rv,_,.one r,rfl,ru,_,_,rfl,.inr ⟨a,xs,_,rfl,ha,rO ra,λ al=>?_,λ j fj H' x'=>?_⟩⟩
  ·have:=é.mp al false (ê fi.2);cases this
  ·have ej:=rW fj;rw [e1] at ej;cases ej;exact q1 _ _ _ e2 H' x'
 | none =>
  have al:=iq e1;obtain⟨oc,bd⟩:=t9 ra al;have f6:=sm.fk;by_cases fk:(ds.length:Int)=r.ë
  rotate_left
  ·have e2:jG CF CO CU CN CD r k (.list ds) e (.ref a) dl=some (CF,("found" : Str),.int (ds.length:Nat)):=by
    simp only [jG,e1];rw [Ì fk]
   refine .inr ⟨⟨m,k,rv,_,rfl,hk,me⟩,m,rv,_,.one r,rfl,ru,_,_,rfl,.inr ⟨a,xs,_,rfl,ha,rO ra,λ _ H' x'=>?_,λ j fj=>?_⟩⟩
   ·rw [Ì (by rw [lx];exact fk),lx]
    exact q1 _ _ _ e2 H' x'
   ·have ej:=rW fj;rw [e1] at ej;cases ej
  have lo:(ds.map io).length=ds.length:=Æ ..;refine .inl ⟨k,m,rv,.one r,a,xs,ds.map io,hk,rfl,me,ru,sm.pt.1,sm.pt.2,ha,oc,bd,ae,by rw [lo];exact fk.symm,λ _ pb=>?_,λ fa l H1 x1 nl hl=>?_,λ i fi H1 x1=>?_⟩
  ·rw [iA] at pb;simp only [List.all_cons,List.all_nil,id,Bool.and_true,Bool.and_eq_true,decide_eq_true_iff] at pb;rw [lo];have:=pb.2;omega
  ·have fn:fb (f8 k (.one r) (ds.map io))=none:=by
    cases ef:fb (f8 k (.one r) (ds.map io)) with
    | none=>rfl
    | some i =>
     have:=é.mp fa false (ê (dR ef).2);cases this
   have e2:jG CF CO CU CN CD r k (.list ds) e (.ref a) dl=if c7 (.one r) e=true then none else some (CD,("found" : Str),dl):=by
    simp only [jG,e1];rw [Ï fk,fn]
   refine⟨_,rfl,_,rfl,rv,dl,e,r,rfl,ru.ext x1,sm.ok,re.mono x1,λ hd H2 x2=>?_,λ hd H2 x2=>q1 _ _ _ (by rw [e2,hd,Ì Ê]) H2 (x1.trans x2)⟩
   have ņ:=x1.trans x2;have JW:=ņ _ _ hx;have no:=Z.no;refine⟨_,rfl,_,rfl,x,CT,dx,_,rfl,JW,Z.cls,no _ aA,ag,?_⟩;have a2:ÿ K (aj H2 x (.ins CT dx (aO "rule" rv []))) a xs:=ÿ.of (by
    rw [ah (λ z=>by rw [z,hx] at ha;cases ha)];exact ņ _ _ ha)
   have k1:(aO "rule" rv []).length<=1:=cW _ _ _;refine⟨_,rfl,a,xs,rfl,.inl ⟨a2,λ t1 h1=>⟨_,rfl,x,CT,dx,aO "rule" rv [],rfl,?_,Z.cls,no _ aA,ae,?_⟩⟩⟩
   ·have n1:x≠t1:=λ z=>by rw [<- z,aQ] at h1;cases h1
    rw [ah n1];exact aQ
   have l2:=cW "outcomes" (.ref t1) (aO "rule" rv []);have Z3:=cW "measure" m (aO "outcomes" (.ref t1) (aO "rule" rv []));have l4:=cW "dealing" dl (aO "measure" m (aO "outcomes" (.ref t1) (aO "rule" rv [])));have n1:t1≠x:=λ z=>by rw [z,aQ] at h1;cases h1
   have k2:Kept H2 (aj (aj (aj H2 x (.ins CT dx (aO "rule" rv []))) t1 (.tup xs)) x (.ins CT dx (aO "outcomes" (.ref t1) (aO "rule" rv [])))) x:=λ b u hb n=>by
    rw [ah n];have n2:b≠t1:=λ z=>by rw [<- z,ah n,hb] at h1;cases h1
    rw [ah n2,ah n];exact hb
   have g2:(aj (aj (aj H2 x (.ins CT dx (aO "rule" rv []))) t1 (.tup xs)) x (.ins CT dx (aO "outcomes" (.ref t1) (aO "rule" rv [])))) x=some (.ins CT dx (aO "outcomes" (.ref t1) (aO "rule" rv []))):=aQ
   change BN K (aq 0) (aq 3) "measure" _ _ (aj (aj (aj H2 x (.ins CT dx (aO "rule" rv []))) t1 (.tup xs)) x (.ins CT dx (aO "outcomes" (.ref t1) (aO "rule" rv []))))
   generalize aj (aj (aj H2 x (.ins CT dx (aO "rule" rv []))) t1 (.tup xs)) x (.ins CT dx (aO "outcomes" (.ref t1) (aO "rule" rv [])))=H3 at k2 g2 ⊢;refine⟨_,rfl,_,rfl,x,CT,dx,_,rfl,g2,Z.cls,no _ aA,ae,?_⟩;refine⟨_,rfl,_,rfl,x,CT,dx,_,rfl,aQ,Z.cls,no _ aA,ae,?_⟩;rw [eN];have SX:l≠x:=λ z=>by rw [z,hx] at nl;cases nl
   have l3:H3 l=some (.lst ((Fs k (ds.map io)).map V.int)):=k2 _ _ (x2 _ _ hl) SX;refine⟨_,rfl,l,_,rfl,.inl ⟨ÿ.of (by rw [ah SX];exact l3),λ t2 h2=>⟨_,rfl,x,CT,dx,aO "dealing" dl (aO "measure" m (aO "outcomes" (.ref t1) (aO "rule" rv []))),rfl,?_,Z.cls,no _ aA,ae,?_⟩⟩⟩
   ·have n3:x≠t2:=λ z=>by rw [<- z,aQ] at h2;cases h2
    rw [ah n3];exact aQ
   have n3:t2≠x:=λ z=>by rw [z,aQ] at h2;cases h2
   refine q2 (by rw [e2,hd,Ï rfl]) _ _ (λ b u hb n=>?_) aQ rfl
   rw [ah n];have h3:=k2 _ _ (ņ _ _ hb) n;have n4:b≠t2:=λ z=>by rw [<- z,ah n,h3] at h2;cases h2
   rw [ah n4,ah n];exact h3
  ·have e2:jG CF CO CU CN CD r k (.list ds) e (.ref a) dl=some (ji CU CN k,iT k,.int (i:Nat)):=by
    simp only [jG,e1];rw [Ï fk,rW fi]
   exact q1 _ _ _ e2 H1 x1
end
structure į (H:Hp)(p:Addr):Prop where
 ex:∃ a b c:Int,H p=some (.lst [.int a,.int b,.int c])/\0<=a/\0<=b/\b<2147483629
theorem į.ext {H H':Hp}{p:Addr}(h:į H p)(x:Ext H H'):į H' p:=by
 obtain⟨a,b,c,e,r⟩:=h.ex;exact⟨a,b,c,x _ _ e,r⟩
theorem į.ne {H:Hp}{p q:Addr}(h:į H p)(e:H q=none):q≠p:=λ z=>by
 obtain⟨a,b,c,f,_⟩:=h.ex;rw [z,f] at e;cases e
section
variable {P:Program}{w:World}{K:Frag}{mg:aX}{base:Heap}
abbrev qU:Stmt:=bw 80
def tG (K:Frag):Sp:=λ vs H Q _=>∃(a:Addr)(ns:List Int)(k:Int),vs=[.ref a,.int k]/\ÿ K H a (ns.map V.int)/\0<=k/\k<100/\∀ c:Int,Q (.int c) H
theorem Iw:ad ["_law_script","_law_k"] ["_law_script","_law_k"] (aa qU):=aF
theorem wJ {f:Addr}{fd:FuncData}(F:ė K "_law_cell" "_law_cell" qU f fd) (ml:mg "len" = none):Ò P w K mg base ay 1 f fd ["_law_script","_law_k"] (tG K):=by
 refine F.ok Iw (λ vs H Q E h=>?_) (λ cdv A outer s H vs Q E hr h=>?_)
 ·obtain⟨a,ns,k,rfl,_⟩:=h;rfl
 obtain⟨a,ns,k,rfl,hS,h0,h1,q⟩:=h;refine⟨_,ba (aG (ar ut (pv 1) (am aH rfl ml ò (ac (pv 0) ao)) (av _)) (aK (bh (bC iQ (pv 0) (pv 1)))) dm)
  (aK (bh (af aM (af bp au (pv 1)) au))),?_⟩
 refine⟨_,rfl,_,rfl,a,_,rfl,.inl hS,_,_,rfl,rfl,_,rfl,?_⟩;refine jk (λ c=>?_) (λ c=>?_)
 ·have c':k<(((ns.map V.int).length:Nat):Int):=Û c;rw [Æ] at c';have hk:k.toNat<ns.length:=ae;have ek:k=((k.toNat:Nat):Int):=ae;have z:xD (ns.map V.int) ((k.toNat:Nat):Int)=some (.int ns[k.toNat]):=fm (by rw [Ù,Á hk] <;> rfl)
  rw [<- ek] at z;exact⟨_,rfl,_,rfl,a,_,_,_,rfl,rfl,hS,z,q _⟩
 ·exact⟨_,rfl,_,_,rfl,rfl,.inl ⟨ag,ag⟩,_,_,rfl,rfl,q _⟩
abbrev xW:Stmt:=bw 81
def wW:Sp:=λ vs H Q _=>∃ c:Int,vs=[.int c]/\∀ p H',H p=none->Ext H H'->į H' p->Q (.ref p) H'
theorem Io:ad ["_law_cell_here"] ["_law_cell_here"] (aa xW):=aF
theorem yF {f:Addr}{fd:FuncData}(F:ė K "_law_box" "_law_box" xW f fd) (mi:mg "int" = none):Ò P w K mg base ay 1 f fd ["_law_cell_here"] wW:=by
 refine F.ok Io (λ vs H Q E h=>?_) (λ cdv A outer s H vs Q E hr h=>?_)
 ·obtain⟨c,rfl,_⟩:=h;rfl
 obtain⟨c,rfl,q⟩:=h;refine⟨_,aK (bh (bJ (ac (af bp (pv 0) (bq gT rfl mi ĳ (ac (bX rZ (pv 0) (af rX au au) (av _)) ao))) (ac (af fA (pv 0) au) (ac au ao))))),?_⟩;refine⟨_,rfl,_,rfl,_,_,rfl,rfl,⟨ag,ag,ag⟩,_,_,rfl,rfl,.inr ⟨_,rfl,_,_,rfl,rfl,?_,_,rfl,_,_,rfl,rfl,(by show(0:Int)<2147483629;decide),dy,λ p hp=>?_⟩⟩
 ·refine .inr ⟨?_,?_⟩ <;> split <;> decide
 ·refine q p _ hp (Ext.new hp) ⟨_,_,_,aQ,?_,ş _ ag,İ _ ag⟩;show 0<=c*(if decide ((10:Int)^(18:Int).toNat<=c)=true then 1 else 0)
  split
  ·rename_i z
   have z':(10:Int)^(18:Int).toNat<=c:=Û z;have z2:(0:Int)<=10^(18:Int).toNat:=ag;omega
  ·omega
abbrev sG:Stmt:=bw 82
def c5:Sp:=λ vs H Q _=>∃(p:Addr)(m:Int),vs=[.ref p,.int m]/\į H p/\0<m/\m<1073741824/\∀(r:Int)(H':Hp),0<=r->r<m->į H' p->Kept H H' p->(∀ b,H b=none->H' b=none)->Q (.int r) H'
theorem SJ:ad ["_law_box_here","_law_many","_law_digit","_law_number"] ["_law_box_here","_law_many"] (aa sG):=aF
theorem pK {H:Hp}{p:Addr}{o u:HO}(h:H p=some u):∀ b,H b=none->aj H p o b=none:=λ b hb=>by
 rw [ah (λ e=>by subst e;rw [h] at hb;cases hb)];exact hb
theorem v9 {f:Addr}{fd:FuncData}(F:ė K "_law_take" "_law_take" sG f fd):Ò P w K mg base ay 1 f fd ["_law_box_here","_law_many"] c5:=by
 refine F.ok SJ (λ vs H Q E h=>?_) (λ cdv A outer s H vs Q E hr h=>?_)
 ·obtain⟨p,m,rfl,_⟩:=h;rfl
 obtain⟨p,m,rfl,⟨a,b,c,hp,a0,b0,b1⟩,m0,m1,q⟩:=h;have nd:=SJ.nd;refine⟨_,ba (aG (ar lO (bC iQ (pv 0) au) au (av _))
   (ba (dq (i:=2) nd rfl (Or.inl rfl) (af fA (bC iQ (pv 0) au) (pv 1)))
   (ba (gn (af jZ (bC iQ (pv 0) au) (pv 1)) (sT (pv 0) au lE))
   (aK (bh (pv 2))))) dm)
  (ba (gn (af aM (bC iQ (pv 0) au) au) (sT (pv 0) au lE))
  (ba (dq (i:=3) nd rfl (Or.inl rfl) (af fA (af aM (af aM (af bp (bC iQ (pv 0) au) au) (af bp au (bC iQ (pv 0) au))) au) au))
  (ba (dq (i:=3) nd rfl (Or.inl rfl) (af fA (af aM (af aM (af bp (pv 3) (pv 3)) (af bp au (bC iQ (pv 0) au))) au) au))
  (aK (bh (af fA (af jZ (af fA (af bp (pv 3) (af aM (pv 3) au)) au) au) (pv 1))))))),?_⟩
 have hl:=ÿ.of (K:=K) hp;refine⟨_,rfl,p,_,_,_,rfl,rfl,hl,rfl,_,_,rfl,rfl,_,rfl,?_⟩;refine jk (λ c1=>?_) (λ c1=>?_)
 ·have c2:0<a:=Û c1;refine⟨_,rfl,p,_,_,_,rfl,rfl,hl,rfl,_,rfl,_,_,rfl,rfl,m0,?_⟩;refine⟨_,rfl,p,_,_,_,rfl,rfl,hl,rfl,_,rfl,_,_,rfl,rfl,⟨m0,m1⟩,_,rfl,p,_,0,0,rfl,rfl,hp,rfl,?_⟩;exact⟨_,rfl,q _ _ (ş _ ae) (İ _ m0) ⟨_,_,_,aQ,Int.ediv_nonneg ae ae,b0,b1⟩ (bA _) (pK hp)⟩
 ·refine⟨_,rfl,p,_,_,_,rfl,rfl,hl,rfl,_,_,rfl,rfl,_,rfl,p,_,2,2,rfl,rfl,hp,rfl,?_⟩;have k1:Kept H (aj H p (.lst [.int a,.int b,.int (c+1)])) p:=bA _;have k2:∀ b',H b'=none->aj H p (.lst [.int a,.int b,.int (c+1)]) b'=none:=pK hp;have f1:aj H p (.lst [.int a,.int b,.int (c+1)]) p=some (.lst [.int a,.int b,.int (c+1)]):=aQ;have bx:į (aj H p (.lst [.int a,.int b,.int (c+1)])) p:=⟨_,_,_,f1,a0,b0,b1⟩;have NA:=ÿ.of (K:=K) f1;have q1:=λ r h0 h1=>q r _ h0 h1 bx k1 k2;refine⟨_,rfl,p,_,_,_,rfl,rfl,NA,rfl,_,_,rfl,rfl,.inr ⟨ag,ag⟩,_,rfl,p,_,_,_,rfl,rfl,NA,rfl,_,_,rfl,rfl,.inl ⟨ag,ag⟩,_,_,rfl,rfl,_,_,rfl,rfl,_,_,rfl,rfl,(by show(0:Int)<2147483647;decide),?_⟩
  have n0:0<=(b*48271+12289*(c+1)+77)%2147483647:=ş _ ag;have n1:(b*48271+12289*(c+1)+77)%2147483647<2147483647:=İ _ ag;have cm:p_ ((b*48271+12289*(c+1)+77)%2147483647) ((b*48271+12289*(c+1)+77)%2147483647):=.inl ⟨Int.lt_of_lt_of_le ag n0,Int.lt_trans n1 ag⟩;refine⟨_,rfl,_,rfl,_,_,rfl,rfl,cm,_,rfl,p,_,_,_,rfl,rfl,NA,rfl,_,_,rfl,rfl,.inl ⟨ag,ag⟩,_,_,rfl,rfl,_,_,rfl,rfl,_,_,rfl,rfl,(by show(0:Int)<2147483629;decide),?_⟩
  generalize hn:((b*48271+12289*(c+1)+77)%2147483647*((b*48271+12289*(c+1)+77)%2147483647)+40961*(c+1)+5)%2147483629=n2;have e0:0<=n2:=by rw [<- hn];exact ş _ ag
  have e1:n2<2147483629:=by rw [<- hn];exact İ _ ag
  have Zx:∀ y,p_ n2 y:=λ y=>.inl ⟨Int.lt_of_lt_of_le ag e0,Int.lt_trans e1 ag⟩;subst hn;refine⟨_,rfl,_,rfl,_,_,rfl,rfl,_,_,rfl,rfl,Zx _,_,_,rfl,rfl,(by show(0:Int)<2147483587;decide),_,_,rfl,rfl,⟨(by show(0:Int)<8;decide),(by show(8:Int)<1073741824;decide)⟩,_,rfl,_,_,rfl,rfl,m0,?_⟩
  exact q1 _ (ş _ ae) (İ _ m0)
end
def wB:PyData->Bool
 | .int _=>true
 | _=>false
section
variable {P:Program}{w:World}{K:Frag}{mg:aX}{base:Heap}
abbrev GO:Stmt:=bw 83
def qY:Sp:=λ vs H Q _=>∃ v d,vs=[v]/\õ H v d/\Q (.bl (wB d)) H
theorem FL:ad ["_law_found"] ["_law_found"] (aa GO):=aF
theorem E1 {f:Addr}{fd:FuncData}(N:uH K)(F:ė K "_law_whole" "_law_whole" GO f fd) (mi:mg "isinstance" = none) (m1:mg "int" = none) (m2:mg "bool" = none):Ò P w K mg base ay 1 f fd ["_law_found"] qY:=by
 refine F.ok FL (λ vs H Q E h=>?_) (λ cdv A outer s H vs Q E hr h=>?_)
 ·obtain⟨v,d,rfl,_⟩:=h;rfl
 obtain⟨v,d,rfl,rd,q⟩:=h;refine⟨_,aK (bh (eE (am (bH N) rfl mi Ö (ac (pv 0) (ac (fF rfl m1 ĳ) ao)))
  (eT (sW (am (bH N) rfl mi Ö (ac (pv 0) (ac (fF rfl m2 ŉ) ao))))))),?_⟩
 have W9:kitOne K (.type (jB d)) (.type "int")=some (wB d||ka d):=by cases rd <;> rfl
 refine⟨_,rfl,_,_,_,_,rfl,rd.kd,W9,_,rfl,?_⟩;cases e1:wB d with
 | true =>
  rw [e1] at q;have e2:ka d=false:=by cases d <;> first | rfl | cases e1
  refine cK ⟨_,rfl,_,_,_,_,rfl,rd.kd,rd.Qe,_,rfl,?_⟩;rw [e2];exact q
 | false =>
  rw [e1] at q;cases e2:ka d with
  | true =>
   refine cK ⟨_,rfl,_,_,_,_,rfl,rd.kd,rd.Qe,_,rfl,?_⟩;rw [e2];exact q
  | false=>exact cJ q
end
theorem į.up {H:Hp}{p l:Addr}{o:HO}(b:į H p)(n:l≠p):į (aj H l o) p:=by
 obtain⟨x,y,z,hp,r⟩:=b;exact⟨x,y,z,by rw [ah n.symm];exact hp,r⟩
def fo (i:Nat)(te:TE):TE:=ie c5 [] E0 (aw (aq i) (aw te aP))
section
variable {P:Program}{w:World}{K:Frag}
theorem wu {i:Nat}{te:TE}{m:Int}{Q:VK}{σ:St}{H:Hp}{p:Addr}(h0:σ[i]?=some (some (.ref p)))(bx:į H p)(hm:∀ R:VK,R (.int m) H->te σ H R)(m0:0<m)(m1:m<1073741824)(q:∀ r H',0<=r->r<m->į H' p->Kept H H' p->Q (.int r) H'):fo i te σ H Q :=
 ⟨_,h0,hm _ ⟨p,m,rfl,bx,m0,m1,λ r H' a b c d _=>q r H' a b c d⟩⟩
end
def dW (K:Frag)(i:Nat)(k:Int):TE:=aT (oq K) (aq i) (tC (.int k))
def tW (K:Frag)(i:Nat)(z:Str):TT:=tB (aT qQ (dW K i 0) (tC (.str z)))
section
variable {K:Frag}{H:Hp}{σ:St}{De:bT}{i:Nat}{a:Addr}{xs:List V}{w z:Str}{t u:TS}
theorem xB {v:V}{Q:VK}(k:Nat)(si:σ[i]?=some (some (.ref a)))(ha:H a=some (.tup xs))(hk:xs[k]?=some v)(q:Q v H):dW K i (k:Nat) σ H Q:=⟨_,si,a,_,_,_,rfl,rfl,č.of ha,fm hk,q⟩
theorem Dp {Q:Bool->Hp->Prop}(si:σ[i]?=some (some (.ref a)))(ha:H a=some (.tup (.str w::xs)))(q:Q (decide (V.str w=V.str z)) H):tW K i z σ H Q:=xB 0 si ha rfl ⟨rfl,_,rfl,q⟩
theorem km (si:σ[i]?=some (some (.ref a)))(ha:H a=some (.tup (.str z::xs)))(h:t De σ H):cp (tW K i z) t u De σ H:=Dp si ha (by rw [Ä rfl];exact cK h)
theorem iP (ne:w≠z)(si:σ[i]?=some (some (.ref a)))(ha:H a=some (.tup (.str w::xs)))(h:u De σ H):cp (tW K i z) t u De σ H:=Dp si ha (by rw [Å (λ e=>ne (V.str.inj e))];exact cJ h)
end
section
variable {H:Hp}{v:V}
theorem je {n k:Int}(r:õ H v (R0.split n k).told):∃ a,v=.ref a/\H a=some (.tup [.str "split",.int n,.int k]):=by
 obtain⟨a,xs,rfl,ha,rs⟩:=cG r;cases rs with | cons r1 rs=>cases rs with | cons r2 rs=>cases rs with | cons r3 rs=>cases rs;cases r1;cases r2;cases r3;exact⟨a,rfl,ha⟩
theorem gG {n x y:Int}(r:õ H v (R0.pairs n x y).told):∃ a c,v=.ref a/\H a=some (.tup [.str "pairs",.int n,c])/\õ H c (.tuple [.int x,.int y]):=by
 obtain⟨a,xs,rfl,ha,rs⟩:=cG r;cases rs with | cons r1 rs=>cases rs with | cons r2 rs=>cases rs with | cons r3 rs=>cases rs;cases r1;cases r2;exact⟨a,_,rfl,ha,r3⟩
theorem gI {n x y f:Int}(r:õ H v (R0.ö n x y f).told):∃ a c,v=.ref a/\H a=some (.tup [.str "coins",.int n,c,.int f])/\õ H c (.tuple [.int x,.int y]):=by
 obtain⟨a,xs,rfl,ha,rs⟩:=cG r;cases rs with | cons r1 rs=>cases rs with | cons r2 rs=>cases rs with | cons r3 rs=>cases rs with | cons r4 rs=>cases rs;cases r1;cases r2;cases r4;exact⟨a,_,rfl,ha,r3⟩
end
theorem gZ {X:Cx}{body:List Stmt}{t:TS}{D:bT}{σ:St}{H:Hp}(h:Bx (Ũ X body t))(r:Bx (t D σ H)):∃ t,Ũ X body t/\t D σ H:=⟨t,h.h,r.h⟩
structure PF (p:Addr)(H H':Hp):Prop where
 k:Kept H H' p
 b:į H' p
theorem PF.trans {p:Addr}{H H1 H2:Hp}(x:PF p H H1)(y:PF p H1 H2):PF p H H2:=⟨x.k.trans y.k,y.b⟩
theorem PF.of {p:Addr}{H H':Hp}(b:į H p)(x:Ext H H'):PF p H H':=⟨x.kept p,b.ext x⟩
theorem PF.refl {p:Addr}{H:Hp}(b:į H p):PF p H H:=⟨Kept.refl _ _,b⟩
theorem PF.o {p:Addr}{H H':Hp}(x:PF p H H'):Ext (wo H p) (wo H' p):=iu x.k
theorem qu {a b:Nat}:dG a b*b=bj a b*a:=by
 unfold dG bj;have e1:Nat.gcd a b*(a/Nat.gcd a b)=a:=ī (ú a b);have e2:Nat.gcd a b*(b/Nat.gcd a b)=b:=ī (ï a b);generalize a/Nat.gcd a b=u at e1 ⊢;generalize b/Nat.gcd a b=v at e2 ⊢;generalize Nat.gcd a b=g at e1 e2
 calc u*b=u*(g*v):=by rw [e2]
  _=v*(g*u):=by ac_rfl
  _=v*a:=by rw [e1]
theorem sQ {a b:Nat}(h1:1<=a)(h2:a<b)(h3:b<=100):cy (.tuple [.int (dG a b:Nat),.int (bj a b:Nat)])=true:=by
 obtain⟨c1,c2,c3,c4⟩:=i7 (a:=a) (b:=b) h1 ae h3;have b2:2<=bj a b:=by
  rcases Ľ (bj a b) 2 with z | z
  ·have e1:bj a b=1:=ae;have e2:dG a b=1:=ae;have lc:=qu (a:=a) (b:=b);rw [e1,e2] at lc;omega
  ·exact z
 show(((decide ((1:Int)<=(bj a b:Nat))&&(decide ((0:Int)<=(dG a b:Nat))&&decide (((dG a b:Nat):Int)<=(bj a b:Nat))))&&decide (Nat.gcd ((dG a b:Nat):Int).toNat ((bj a b:Nat):Int).toNat=1))&&(decide ((2:Int)<=(bj a b:Nat))&&decide (((bj a b:Nat):Int)<=100)))=true;rw [Ä ae,Ä ae,Ä ae,Î,Î,Ä c4,Ä ae,Ä ae];rfl
section
variable {P:Program}{w:World}{K:Frag}{mg:aX}{base:Heap}{C:Nat->Addr}{CN CS f0 f1 f2 f a1 a2:Addr}{e0 e1 e2 fd d1 d2:FuncData}
theorem c8 {i:Nat}{te:TE}{m:Int}{Q:VK}{σ:St}{H:Hp}{p:Addr}(h0:σ[i]?=some (some (.ref p)))(bx:į H p)(hm:∀ R:VK,R (.int m) H->te σ H R)(m0:0<m)(m1:m<1073741824)(q:∀ r H',0<=r->r<m->PF p H H'->Q (.int r) H'):fo i te σ H Q :=
 wu h0 bx hm m0 m1 λ r H' r0 r1 b k=>q r H' r0 r1 ⟨k,b⟩
abbrev Fx:Stmt:=bw 84
abbrev IB:List Str:=["_law_box_here","_law_bottom","_law_top"]
theorem Oq:ad IB ["_law_box_here"] (aa Fx):=aF
def u6:Sp:=λ vs H Q _=>∃ p,vs=[.ref p]/\į H p/\∀ t a b H',PF p H H'->H t=none->H' t=some (.tup [.int a,.int b])->cy (.tuple [.int a,.int b])=true->b<=7->Q (.ref t) H'
theorem DP (F:ė K "_law_coin" "_law_coin" Fx f fd) (A1:Df P w K mg base ay 1 "_law_take" ["_law_box_here","_law_many"] c5 a1 d1) (A2:Df P w K mg base ay 4 "share_of" ["top","bottom"] vH a2 d2):Ò P w K mg base ay 5 f fd ["_law_box_here"] u6:=by
 refine bR F Oq λ cdv A outer s H vs Q E hr h=>?_;obtain⟨p,rfl,bx,q⟩:=h;have nd:=Oq.nd;have Ĵ:î 1 _:=hr.mono ag;refine⟨_,ba (dq (te:=aT (fL λ i j=>.int (i+j)) (tC (.int 2)) (fo 0 (tC (.int 6)))) (i:=1) nd rfl (Or.inl rfl) (af aM au (br A1 Ĵ ai (ac (pv 0) (ac au ao)))))
  (ba (dq (te:=aT (fL λ i j=>.int (i+j)) (tC (.int 1)) (fo 0 (aT (fL λ i j=>.int (i-j)) (aq 1) (tC (.int 1))))) (i:=2) nd rfl (Or.inl rfl) (af aM au (br A1 Ĵ ai (ac (pv 0) (ac (af bK (pv 1) au) ao)))))
  (aK (bh (br A2 hr ai (ac (pv 2) (ac (pv 1) ao)))))),?_⟩
 refine c8 rfl bx (λ R r=>r) ag ag λ x H1 x0 x6 p1=>⟨_,_,rfl,rfl,?_⟩;refine c8 (m:=2+x-1) rfl p1.b (λ R r=>⟨_,rfl,_,_,rfl,rfl,r⟩) ae ae λ y H2 y0 y1 p2=>⟨_,_,rfl,rfl,?_⟩;obtain⟨x,rfl⟩:∃ n:Nat,x=(n:Int):=⟨x.toNat,ae⟩;obtain⟨y,rfl⟩:∃ n:Nat,y=(n:Int):=⟨y.toNat,ae⟩;refine⟨_,rfl,_,rfl,1+y,2+x,?_,ae,ae,?_,λ t ht=>?_⟩
 ·show [V.int (1+(y:Int)),V.int (2+(x:Int))]=_;simp
 ·exact Í (show 2+x<2^7 by omega) (ã ag ag)
 have x3:=Ext.new (o:=.tup [.int (dG (1+y) (2+x):Nat),.int (bj (1+y) (2+x):Nat)]) ht;have K5:=p1.trans p2;have n0:H t=none:=by
  cases e:H t with
  | none=>rfl
  | some o =>
   have np:t≠p:=p2.b.ne ht;rw [K5.k _ _ e np] at ht;cases ht
 refine q t _ _ _ (K5.trans (PF.of p2.b x3)) n0 aQ (sQ ae ae ae) ?_;have:bj (1+y) (2+x)<=2+x:=Ď _ _;omega
abbrev By:Stmt:=bw 85
abbrev HH:List Str:=["_law_box_here","_law_pairs","_law_most","_law_kind","_law_folk_here"]
theorem Oh:ad HH ["_law_box_here","_law_pairs","_law_most"] (aa By):=aF
def vg:Sp:=λ vs H Q _=>∃(p:Addr)(b:Bool),vs=[.ref p,.bl b,.int 6]/\į H p/\∀ t r H',PF p H H'->õ (wo H' p) (.ref t) (R0.told r)->r.small->(b=true->r.JV=true)->Q (.ref t) H'
def Hf (K:Frag):TS:=cM (aT (cX K) (bE (aw (fo 0 (tC (.int 3))) (aw (tC (.int 1)) aP))) (nu (λ xs H Q=>(∃ i,xs=[.int i]/\Q (.int i) H)\/∃ k,xs=[.bl k]/\Q (.int (if k then 1 else 0)) H) (aw (aq 1) aP))) (be 3)
def Fb (x:Int)(te:TE):TE:=aT (fL λ i j=>.int (i+j)) (tC (.int x)) te
def DO:TS:=cp (tB (aT qQ (aq 3) (tC (.int 0)))) (az (cM (Fb 1 (fo 0 (aq 2))) (be 4)) (aV (fh (aw (tC (.str "split")) (aw (aq 4) (aw (fo 0 (aT (fL λ i j=>.int (i+j)) (aq 4) (tC (.int 1)))) aP)))))) bB
def GX:TE:=ie u6 [] E0 (aw (aq 0) aP)
def Cb:TS:=cp (tB (aT qQ (aq 3) (tC (.int 1)))) (aV (fh (aw (tC (.str "pairs")) (aw (Fb 1 (fo 0 (aT (rI Em λ i j=>.int (i/j)) (aq 2) (tC (.int 2))))) (aw GX aP))))) bB
def BU:TS:=aV (fh (aw (tC (.str "coins")) (aw (Fb 1 (fo 0 (aq 2))) (aw GX (aw (Fb 1 (fo 0 (tC (.int 4)))) aP)))))
section
variable {cdv:Value}{A:Around}{outer:List Env}{s:Shared}{H:Hp}{E:XK}
theorem Af (A1:Df P w K mg base ay 1 "_law_take" ["_law_box_here","_law_many"] c5 a1 d1) (A2:Df P w K mg base ay 5 "_law_coin" ["_law_box_here"] u6 a2 d2) (mi:mg "int" = none) (hr:t3 5 "_law_told" By A s f cdv):Bx (Ũ (cq ay P w K mg base HH "_law_told" (aa By) f cdv A outer s H E).υ (aI By) (az (Hf K) (az DO (az Cb BU)))):=by
 have nd:=Oh.nd;have Ĵ:î 1 _:=hr.mono ag;exact eM ⟨dq (i:=3) nd rfl (Or.inl rfl) (bC iQ (bJ (ac (br A1 Ĵ ai (ac (pv 0) (ac au ao))) (ac au ao))) (bq gT rfl mi ĳ (ac (pv 1) ao)))⟩
  (eM ⟨aG (ar bu (pv 3) au (av _)) (ba (dq (i:=4) nd rfl (Or.inl rfl) (af aM au (br A1 Ĵ ai (ac (pv 0) (ac (pv 2) ao))))) (aK (bh (aE (ac cL (ac (pv 4) (ac (br A1 Ĵ ai (ac (pv 0) (ac (af aM (pv 4) au) ao))) ao))))))) dm⟩
  (eM ⟨aG (ar bu (pv 3) au (av _)) (aK (bh (aE (ac cL (ac (af aM au (br A1 Ĵ ai (ac (pv 0) (ac (af jZ (pv 2) au) ao)))) (ac (br A2 hr ai (ac (pv 0) ao)) ao)))))) dm⟩
  (cv ⟨bh (aE (ac cL (ac (af aM au (br A1 Ĵ ai (ac (pv 0) (ac (pv 2) ao)))) (ac (br A2 hr ai (ac (pv 0) ao)) (ac (af aM au (br A1 Ĵ ai (ac (pv 0) (ac au ao)))) ao)))))⟩)))
end
theorem PF.tup {H:Hp}{p t:Addr}{vs:List V}{ds:List PyData}(b:į H p)(ht:H t=none)(ra:à (wo H p) vs ds):PF p H (aj H t (.tup vs))/\õ (wo (aj H t (.tup vs)) p) (.ref t) (.tuple ds):=by
 have x:=PF.of b (Ext.new (o:=.tup vs) ht);exact⟨x,.tup (cj (b.ne ht) aQ) (ra.mono x.o)⟩
theorem Cd (F:ė K "_law_told" "_law_told" By f fd) (A1:Df P w K mg base ay 1 "_law_take" ["_law_box_here","_law_many"] c5 a1 d1) (A2:Df P w K mg base ay 5 "_law_coin" ["_law_box_here"] u6 a2 d2) (mi:mg "int" = none):Ò P w K mg base ay 6 f fd ["_law_box_here","_law_pairs","_law_most"] vg:=by
 refine bR F Oh λ cdv A outer s H vs Q E hr h=>?_;obtain⟨p,b,rfl,bx,q⟩:=h;refine gZ (Af A1 A2 mi hr) ⟨?_⟩;refine c8 rfl bx (λ R r=>r) ag ag λ x H1 x0 x3 p1=>⟨dy,λ l hl=>?_⟩;have p2:=PF.of p1.b (Ext.new (o:=.lst [.int x,.int 1]) hl);have g2:aj H1 l (.lst [.int x,.int 1]) l=some (.lst [.int x,.int 1]):=aQ;have K5:=p1.trans p2;refine⟨_,rfl,.inr ⟨b,rfl,?_⟩⟩;generalize aj H1 l (.lst [.int x,.int 1])=H2 at g2 K5 ⊢;have Pp:∀{H3:Hp}{R:VK}{σ:St},σ[0]?=some (some (.ref p))->PF p H H3->(∀ t a b H4,PF p H H4->PF p H3 H4->õ (wo H4 p) (.ref t) (.tuple [.int a,.int b])->cy (.tuple [.int a,.int b])=true->b<=7->R (.ref t) H4)->GX σ H3 R:=λ {H3 R σ} s0 p3 k=>⟨_,s0,p,rfl,p3.b,λ t a b H4 p4 nt ht cd b7=>k t a b H4 (p3.trans p4) p4 (.tup (cj (p3.b.ne nt) ht) (.cons (.int _) (.cons (.int _) .nil))) cd b7⟩;have go:∀ y:Int,0<=y->y<3->(b=true->y=1)->az DO (az Cb BU) ⟨λ _ H'=>Q .ô H',Q,λ _ _=>False,λ _ _=>False⟩ [some (.ref p),some (.bl b),some (.int 6),some (.int y),none] H2:=λ y y0 y3 yb=>by
  refine⟨_,rfl,rfl,_,rfl,?_⟩;by_cases c0:y=0
  ·subst c0;rw [Ä rfl];refine cK (c8 rfl K5.b (λ R r=>⟨_,rfl,r⟩) ag ag λ n H3 n0 n6 p3=>⟨_,_,rfl,rfl,?_⟩);have WC:=K5.trans p3;refine⟨_,rfl,c8 (m:=1+n+1) rfl p3.b (λ R r=>⟨_,rfl,_,_,rfl,rfl,r⟩) ae ae λ k H4 k0 kn p4=>⟨dy,λ t ht=>?_⟩⟩;have WB:=WC.trans p4;obtain⟨p5,rd⟩:=PF.tup p4.b ht (.cons (.str "split") (.cons (.int (1+n)) (.cons (.int k) .nil)));exact q t (.split (1+n) k) _ (WB.trans p5) rd ⟨ae,ae,k0,ae⟩ (λ e=>by have:=yb e;omega)
  rw [Å (λ z=>c0 (V.int.inj z))];refine cJ ⟨_,rfl,rfl,_,rfl,?_⟩;by_cases c1:y=1
  ·subst c1;rw [Ä rfl];refine cK (c8 (m:=3) rfl K5.b (λ R r=>⟨_,rfl,_,_,rfl,rfl,⟨ag,ag⟩,r⟩) ag ag λ n H3 n0 n3 p3=>⟨_,_,rfl,rfl,?_⟩);refine Pp rfl (K5.trans p3) λ c a b' H4 p4 MN rc cd b7=>⟨dy,λ t ht=>?_⟩;obtain⟨p5,rd⟩:=PF.tup p4.b ht (.cons (.str "pairs") (.cons (.int (1+n)) (.cons rc .nil)));exact q t (.pairs (1+n) a b') _ (p4.trans p5) rd ⟨ae,ae,cd,b7⟩ (λ _=>rfl)
  rw [Å (λ z=>c1 (V.int.inj z))];refine cJ (c8 rfl K5.b (λ R r=>⟨_,rfl,r⟩) ag ag λ n H3 n0 n6 p3=>⟨_,_,rfl,rfl,?_⟩);refine Pp rfl (K5.trans p3) λ c a b' H4 p4 MN rc cd b7=>?_;refine c8 rfl p4.b (λ R r=>r) ag ag λ g H5 g0 g4 p5=>⟨_,_,rfl,rfl,dy,λ t ht=>?_⟩;obtain⟨p6,rd⟩:=PF.tup p5.b ht (.cons (.str "coins") (.cons (.int (1+n)) (.cons (rc.mono p5.o) (.cons (.int (1+g)) .nil))));exact q t (.ö (1+n) a b' (1+g)) _ ((p4.trans p5).trans p6) rd ⟨ae,ae,cd,b7,ae,ae⟩ (λ e=>absurd (yb e) c1)
 cases b with
 | true=>exact⟨l,_,_,_,rfl,rfl,ÿ.of g2,fm (j:=1) rfl,go 1 ag ag λ _=>rfl⟩
 | false=>exact⟨l,_,_,_,rfl,rfl,ÿ.of g2,fm (j:=0) rfl,go x x0 x3 λ e=>nomatch e⟩
end
section
variable {P:Program}{w:World}{K:Frag}{mg:aX}{base:Heap}{C MC:Nat->Addr}{CN CS f0 f1 f2 f3 f a1 a2:Addr}{e0 e1 e2 e3 fd d1 d2:FuncData}
abbrev GF:Stmt:=bw 86
theorem Gs:ad ["_law_told_here"] ["_law_told_here"] (aa GF):=aF
def vY (C:Nat->Addr):Sp:=λ vs H Q _=>∃ v r,vs=[v]/\õ H v (R0.told r)/\r.ok/\∀ x H',Ext H H'->Ru C H' (.one r) (.ref x)->Q (.ref x) H'
def Hr (K:Frag)(C:Nat->Addr)(CN:Addr):TS:=cp (tW K 0 "split") (aV (fc (C 0) (oF C CN) [] E0 (aw (dW K 0 1) (aw (dW K 0 2) aP)))) bB
def FE (K:Frag)(C:Nat->Addr)(CN CS:Addr):TS:=cp (tW K 0 "pairs") (aV (fc (C 1) (oG C CN CS) [] E0 (aw (dW K 0 1) (aw (dW K 0 2) aP)))) bB
def El (K:Frag)(C:Nat->Addr)(CN CS:Addr):TS:=aV (fc (C 2) (lh C CN CS) [] E0 (aw (dW K 0 1) (aw (dW K 0 2) (aw (dW K 0 3) aP))))
theorem DE (F:ė K "_law_rule" "_law_rule" GF f fd) (L:Ib P w K mg base C CN CS f0 f1 f2 e0 e1 e2):Ò P w K mg base ay 8 f fd ["_law_told_here"] (vY C):=by
 refine bR F Gs λ cdv A outer s H vs Q E hr h=>?_;obtain⟨v,r,rfl,rd,ok,q⟩:=h;have O8:î 5 _:=hr.mono ag;refine⟨az (Hr K C CN) (az (FE K C CN CS) (El K C CN CS)),ba (aG (ar bu (bC cZ (pv 0) au) cL (av _)) (aK (bh (j6 L.k0 L.g0 O8 rfl L.m0 L.b0 .nil ls (ac (bC cZ (pv 0) au) (ac (bC cZ (pv 0) au) ao))))) dm)
  (ba (aG (ar bu (bC cZ (pv 0) au) cL (av _)) (aK (bh (j6 L.k1 L.g1 hr rfl L.m1 L.b1 .nil ls (ac (bC cZ (pv 0) au) (ac (bC cZ (pv 0) au) ao))))) dm)
  (aK (bh (j6 L.k2 L.g2 hr rfl L.m2 L.b2 .nil ls (ac (bC cZ (pv 0) au) (ac (bC cZ (pv 0) au) (ac (bC cZ (pv 0) au) ao))))))),?_⟩
 cases r with
 | split n k =>
  obtain⟨a,rfl,ha⟩:=je rd;exact km rfl ha (tw (λ R r=>xB 1 rfl ha rfl (xB 2 rfl ha rfl r)) ok q)
 | pairs n x y =>
  obtain⟨a,c,rfl,ha,rc⟩:=gG rd;exact iP aA rfl ha (km rfl ha (um (λ R r=>xB 1 rfl ha rfl (xB 2 rfl ha rfl r)) rc ok q))
 | ö n x y g =>
  obtain⟨a,c,rfl,ha,rc⟩:=gI rd;refine iP aA rfl ha (iP aA rfl ha ?_);show El K C CN CS { nx:=λ _ H'=>Q .ô H',rt:=Q } _ H;show fc (C 2) (lh C CN CS) [] E0 (aw (dW K 0 1) (aw (dW K 0 2) (aw (dW K 0 3) aP))) _ H Q;exact ub (λ R r=>xB 1 rfl ha rfl (xB 2 rfl ha rfl (xB 3 rfl ha rfl r))) rc ok q
abbrev G0:Stmt:=bw 87
theorem FK:ad ["_law_told_here"] ["_law_told_here"] (aa G0):=aF
def ke:Sp:=λ vs H Q _=>∃ v r,vs=[v]/\õ H v (R0.told r)/\r.small/\∀ H',Ext H H'->Q (.int r.ë) H'
theorem R0.row {H:Hp}{v:V}{r:R0}(rd:õ H v r.told):∃ a n xs,v=.ref a/\H a=some (.tup (.str r.word :: .int n::xs))/\r.ë = n*(if r.JV=true then 2 else 1):=by
 cases r with
 | split n k=>obtain⟨a,rfl,ha⟩:=je rd;exact⟨a,n,_,rfl,ha,(J_ n).symm⟩
 | pairs n x y=>obtain⟨a,c,rfl,ha,_⟩:=gG rd;exact⟨a,n,_,rfl,ha,Int.mul_comm 2 n⟩
 | ö n x y g=>obtain⟨a,c,rfl,ha,_⟩:=gI rd;exact⟨a,n,_,rfl,ha,(J_ n).symm⟩
theorem E4 (F:ė K "_law_folk" "_law_folk" G0 f fd) (mi:mg "int" = none):Ò P w K mg base ay 1 f fd ["_law_told_here"] ke:=by
 refine bR F FK λ cdv A outer s H vs Q E hr h=>?_;obtain⟨v,r,rfl,rd,sm,q⟩:=h;refine⟨_,aK (bh (af bp (bC cZ (pv 0) au) (bC iQ (bJ (ac au (ac au ao))) (bq gT rfl mi ĳ (ac (bX bu (bC cZ (pv 0) au) cL (av _)) ao))))),?_⟩;obtain⟨a,n,xs,rfl,ha,ef⟩:=R0.row rd;have f6:=sm.fk;have n6:n<=6:=by split at ef <;> omega
 have n1:1<=n:=by split at ef <;> omega
 refine⟨_,rfl,a,_,_,_,rfl,rfl,č.of ha,fm (j:=1) rfl,dy,λ l hl=>?_⟩;have x1:=Ext.new (o:=.lst [V.int 1,.int 2]) hl;have g1:aj H l (.lst [V.int 1,.int 2]) l=some (.lst [V.int 1,.int 2]):=aQ;refine⟨_,rfl,a,_,_,_,rfl,rfl,č.of (x1 _ _ ha),fm (j:=0) rfl,rfl,.inr ⟨_,rfl,?_⟩⟩;rw [R0.JK];have q':=q _ x1;rw [ef] at q';cases e:r.JV with
 | true =>
  rw [e] at q';exact⟨l,_,_,_,rfl,rfl,ÿ.of g1,fm (j:=1) rfl,_,_,rfl,rfl,.inl ⟨ae,ae⟩,q'⟩
 | false =>
  rw [e] at q';exact⟨l,_,_,_,rfl,rfl,ÿ.of g1,fm (j:=0) rfl,_,_,rfl,rfl,.inl ⟨ae,ae⟩,q'⟩
abbrev Gm:Stmt:=bw 91
theorem Hb:ad ["_law_word"] ["_law_word"] (aa Gm):=aF
def we (MC:Nat->Addr):Sp:=λ vs H Q _=>∃ k,vs=[.str (aR k)]/\k<4/\∀ x H',Ext H H'->Me MC H' k (.ref x)->Q (.ref x) H'
def Fg (z:Str):TT:=tB (aT qQ (aq 0) (tC (.str z)))
def rG (MC:Nat->Addr)(k:Nat):TS:=aV (fc (MC k) (fT MC k) [] E0 aP)
theorem gJ {z:Str}{De:bT}{σ:St}{H:Hp}{x:Str}{t u:TS}(s0:σ[0]?=some (some (.str x)))(h1:x=z->t De σ H)(h2:x≠z->u De σ H):cp (Fg z) t u De σ H:=by
 refine⟨_,s0,rfl,_,rfl,?_⟩;by_cases e:x=z
 ·rw [Ä (by rw [e])];exact cK (h1 e)
 ·rw [Å (λ y=>e (V.str.inj y))];exact cJ (h2 e)
theorem Ee (F:ė K "_law_measure" "_law_measure" Gm f fd) (L:Ic P w K mg base MC f0 f1 f2 f3 e0 e1 e2 e3):Ò P w K mg base ay 4 f fd ["_law_word"] (we MC):=by
 refine bR F Hb λ cdv A outer s H vs Q E hr h=>?_;obtain⟨k,rfl,hk,q⟩:=h;have KS:î 3 _:=hr;refine⟨az (cp (Fg "sum") (rG MC 0) bB) (az (cp (Fg "ranks") (rG MC 1) bB) (az (cp (Fg "wins") (rG MC 2) bB) (rG MC 3))),ba (aG (ar bu (pv 0) cL (av _)) (aK (bh (gz L.k0 L.g0 KS rfl L.m0 L.b0 .nil ai))) dm)
  (ba (aG (ar bu (pv 0) cL (av _)) (aK (bh (gz L.k1 L.g1 KS rfl L.m1 L.b1 .nil ai))) dm)
  (ba (aG (ar bu (pv 0) cL (av _)) (aK (bh (gz L.k2 L.g2 KS rfl L.m2 L.b2 .nil ai))) dm)
  (aK (bh (gz L.k3 L.g3 KS rfl L.m3 L.b3 .nil ai))))),?_⟩
 have mk:∀ De:bT,(∀ x H',Ext H H'->Me MC H' k (.ref x)->De.rt (.ref x) H')->rG MC k De [some (.str (aR k))] H:=λ De q x dx hx hd ne=>D3 hx hd ne λ H' x' me=>⟨rfl,q x H' x' me⟩
 match k,hk with
 | 0,_=>exact gJ rfl (λ _=>mk _ q) (λ n=>absurd rfl n)
 | 1,_=>exact gJ rfl (λ e=>absurd e aA) λ _=>gJ rfl (λ _=>mk _ q) (λ n=>absurd rfl n)
 | 2,_=>exact gJ rfl (λ e=>absurd e aA) λ _=>gJ rfl (λ e=>absurd e aA) λ _=>gJ rfl (λ _=>mk _ q) (λ n=>absurd rfl n)
 | 3,_=>exact gJ rfl (λ e=>absurd e aA) λ _=>gJ rfl (λ e=>absurd e aA) λ _=>gJ rfl (λ e=>absurd e aA) λ _=>mk _ q
end
def nV (o:Int × Bool):PyData:=.tuple [.int o.1,.bool o.2]
def pY (os:List (Int × Bool)):Prop:=∀ o∈os,-99<=o.1/\o.1<=99
theorem PF.put {p fl:Addr}{H H':Hp}{o:HO}(x:PF p H H')(n:H fl=none)(nf:fl≠p):PF p H (aj H' fl o) :=
 ⟨λ b u h nb=>by rw [ah (λ z=>by rw [z,n] at h;cases h)];exact x.k _ _ h nb,x.b.up nf⟩
theorem PF.none {p fl:Addr}{H H':Hp}(x:PF p H H')(b:į H p)(n:H' fl=none):H fl=none:=by
 cases e:H fl with
 | none=>rfl
 | some o =>
  have np:fl≠p:=x.b.ne n;rw [x.k _ _ e np] at n;cases n
theorem qW:∀ k:Nat,k<4->Ci (.str (aR k)) [.str "sum",.str "ranks"]=decide (k<2)
 | 0,_=>by decide +kernel
 | 1,_=>by decide +kernel
 | 2,_=>by decide +kernel
 | 3,_=>by decide +kernel
section
variable {P:Program}{w:World}{K:Frag}{mg:aX}{base:Heap}{f a1 a2:Addr}{fd d1 d2:FuncData}
theorem kI {i n:Nat}{xs:List V}{t:TA}{Q:VK}{σ:St}{H:Hp}{p:Addr}(s0:σ[i]?=some (some (.ref p)))(bx:į H p)(hn:xs.length=n)(n0:0<n)(n1:n<100)(ht:∀ R:List V->Hp->Prop,R xs H->t σ H R)(q:∀ j:Nat,j<n->∀ v H',xs[j]?=some v->PF p H H'->Q v H'):aT (cX K) (bE t) (fo i (tC (.int (n:Nat)))) σ H Q:=by
 refine jW (ht _ ⟨by rw [Ø];omega,λ l hl=>?_⟩)
 have p1:=PF.of bx (Ext.new (o:=.lst xs) hl);have g1:aj H l (.lst xs) l=some (.lst xs):=aQ;have nl:=bx.ne hl;refine c8 s0 p1.b (λ R r=>r) ae ae λ r H2 r0 rn p2=>?_;obtain⟨r,rfl⟩:∃ m:Nat,r=(m:Int):=⟨r.toNat,ae⟩;have lt:r<xs.length:=ae;exact⟨l,_,r,_,rfl,rfl,ÿ.of (p2.k _ _ g1 nl),fm (Á lt),q r ae _ H2 (Á lt) (p1.trans p2)⟩
abbrev BD:Stmt:=bw 92
abbrev HA:List Str:=["_law_box_here","_law_word","_law_folk_here","_law_far","_law_found","_law_k","_law_number"]
theorem Om:ad HA ["_law_box_here","_law_word","_law_folk_here"] (aa BD):=aF
def uW:Sp:=λ vs H Q _=>∃(p:Addr)(k n:Nat),vs=[.ref p,.str (aR k),.int (n:Nat)]/\į H p/\k<4/\n<=6/\∀ l os H',PF p H H'->õ (wo H' p) (.ref l) (.list (os.map nV))->pY os->(k<2->∀ o∈os,o.2=true)->os.length=n->Q (.ref l) H'
def IJ (K:Frag):TS:=cM (aT (cX K) (bE (aw (tC (.int 4)) (aw (tC (.int 10)) (aw (tC (.int 10)) (aw (tC (.int 100)) aP))))) (fo 0 (tC (.int 4)))) (be 3)
def HS:TS:=cM (aT (fL λ i j=>.int (i+j)) (aT (fL λ i j=>.int (i-j)) (fo 0 (aT (fL λ i j=>.int (i-j)) (aT (rI p_ λ i j=>.int (i*j)) (tC (.int 2)) (aq 3)) (tC (.int 1)))) (aq 3)) (tC (.int 1))) (be 6)
def Gc (K:Frag)(i:Nat):TE:=aT (HN K false) (aq i) (fh (aw (tC (.str "sum")) (aw (tC (.str "ranks")) aP)))
def HW (K:Frag):TS:=mn (BF K "list" ix (aq 4) (aw (fh (aw (aq 6) (aw (Ex (Gc K 1) (aT (fL λ i j=>.bl (decide (i>j))) (fo 0 (tC (.int 3))) (tC (.int 0)))) aP))) aP))
def HD (K:Frag):TS:=gU (ff (aw (aq 2) aP)) (be 5) (az HS (HW K))
def Ih (K:Frag):TS:=az (IJ K) (az (cM (bE aP) (be 4)) (az (HD K) (aV (aq 4))))
section
variable {cdv:Value}{A:Around}{outer:List Env}{s:Shared}{H:Hp}{E:XK}
theorem ya (A1:Df P w K mg base ay 1 "_law_take" ["_law_box_here","_law_many"] c5 a1 d1) (mr:mg "range" = none) (hr:t3 1 "_law_outcomes" BD A s f cdv):Bx (Ũ (cq ay P w K mg base HA "_law_outcomes" (aa BD) f cdv A outer s H E).υ (aI BD) (Ih K)):=by
 have nd:=Om.nd;exact eM ⟨dq (i:=3) nd rfl (Or.inl rfl) (bC iQ (bJ (ac au (ac au (ac au (ac au ao))))) (br A1 hr ai (ac (pv 0) (ac au ao))))⟩
  (eM ⟨dq (i:=4) nd rfl (Or.inl rfl) (bJ ao)⟩
  (eM ⟨dJ Ē rfl (cg rfl mr (ac (pv 2) ao)) (cT (i:=5) nd rfl (Or.inl rfl))
   (ba (dq (i:=6) nd rfl (Or.inl rfl) (af aM (af bK (br A1 hr ai (ac (pv 0) (ac (af bK (af bp au (pv 3)) au) ao))) (pv 3)) au))
   (aK (ax (iX ć ħ Ħ dv (pv 4) (ac (aE (ac (pv 6) (ac (C4 (bX jD (pv 1) (aE (ac cL (ac cL ao))) rfl) (eT (bX lO (br A1 hr ai (ac (pv 0) (ac au ao))) au (av _)))) ao))) ao)))))⟩
  (cv ⟨bh (pv 4)⟩)))
end
theorem C7 (F:ė K "_law_outcomes" "_law_outcomes" BD f fd) (A1:Df P w K mg base ay 1 "_law_take" ["_law_box_here","_law_many"] c5 a1 d1) (mr:mg "range" = none):Ò P w K mg base ay 2 f fd ["_law_box_here","_law_word","_law_folk_here"] uW:=by
 refine bR F Om λ cdv A outer s H vs Q E hr h=>?_;obtain⟨p,k,n,rfl,bx,hk,n6,q⟩:=h;refine gZ (ya A1 mr hr) ⟨?_⟩;refine cI (te:=aT (cX K) (bE (aw (tC (.int 4)) (aw (tC (.int 10)) (aw (tC (.int 10)) (aw (tC (.int 100)) aP))))) (fo 0 (tC (.int 4)))) (i:=3) (D:=⟨_,Q,_,_⟩) (kI (n:=4) (xs:=[.int 4,.int 10,.int 10,.int 100]) rfl bx rfl ag ag (λ R r=>r) λ j hj v H1 ev p1=>?_);obtain⟨wd,rfl,w1,w2⟩:∃ wd:Int,v=.int wd/\4<=wd/\wd<=100:=by
  match j,hj,ev with
  | 0,_,ev=>cases ev;exact⟨4,rfl,ag,ag⟩
  | 1,_,ev=>cases ev;exact⟨10,rfl,ag,ag⟩
  | 2,_,ev=>cases ev;exact⟨10,rfl,ag,ag⟩
  | 3,_,ev=>cases ev;exact⟨100,rfl,ag,ag⟩
 refine cI (te:=bE aP) (i:=4) (D:=⟨_,Q,_,_⟩) ⟨dy,λ fl RM=>?_⟩;have nf:fl≠p:=p1.b.ne RM;have f0:H fl=none:=p1.none bx RM;have p2:=p1.trans (PF.of p1.b (Ext.new (o:=.lst []) RM));have g2:aj H1 fl (.lst []) fl=some (.lst []):=aQ;show az (HD K) (aV (aq 4)) _ [some (.ref p),some (.str (aR k)),some (.int (n:Nat)),some (.int wd),some (.ref fl),none,none] (aj H1 fl (.lst []));generalize aj H1 fl (.lst [])=H2 at p2 g2 ⊢;refine⟨_,rfl,(n:Int),rfl,ae,ae,?_⟩;rw [Î];refine dw (lo:=0) (n:=n) (λ i σ H'=>∃ ys os o5 o6,σ=[some (.ref p),some (.str (aR k)),some (.int (n:Nat)),some (.int wd),some (.ref fl),o5,o6]/\PF p H H'/\H' fl=some (.lst ys)/\à (wt H' p fl) ys (os.map nV)/\pY os/\(k<2->∀ o∈os,o.2=true)/\os.length=i/\ys.length=i) ⟨[],[],_,_,rfl,p2,g2,.nil,(λ o h=>nomatch h),(λ _ o h=>nomatch h),rfl,rfl⟩ ?_ ?_
 ·rintro i σ H' hi ⟨ys,os,o5,o6,rfl,pf,gf,ra,ok,su,lo,ly⟩;show az HS (HW K) _ [some (.ref p),some (.str (aR k)),some (.int (n:Nat)),some (.int wd),some (.ref fl),some (.int (0+(i:Int))),o6] H';refine c8 (m:=2*wd-1) rfl pf.b (λ R r=>⟨_,rfl,_,_,rfl,rfl,.inl ⟨ag,ag⟩,_,_,rfl,rfl,r⟩) ae ae λ r H3 r0 Kh p3=>⟨_,rfl,_,_,rfl,rfl,_,_,rfl,rfl,?_⟩;have X5:=p3.k _ _ gf nf;refine⟨_,rfl,.inl ⟨rfl,_,ÿ.of X5⟩,_,rfl,_,rfl,dy,λ t ht=>?_⟩;have p4:=PF.of p3.b (Ext.new (o:=.tup [V.str "sum",.str "ranks"]) ht);have gt:aj H3 t (.tup [V.str "sum",.str "ranks"]) t=some (.tup [V.str "sum",.str "ranks"]):=aQ;generalize aj H3 t (.tup [V.str "sum",.str "ranks"])=H4 at p4 gt ⊢;have MN:=p3.trans p4;have fin:∀ c H5,(k<2->c=true)->PF p H' H5->∀ b,H5 b=none->∃(l:Addr)(xs:List V)(y:V),V.ref fl=.ref l/\([V.ref b]:List V)=[y]/\(aj H5 b (.tup [V.int (r-wd+1),.bl c])) l=some (.lst xs)/\xs.length<sizeLine/\∃ ys os o5 o6,([some (.ref p),some (.str (aR k)),some (.int (n:Nat)),some (.int wd),some (.ref fl),some (.int (0+(i:Int))),some (V.int (r-wd+1))]:St)=[some (.ref p),some (.str (aR k)),some (.int (n:Nat)),some (.int wd),some (.ref fl),o5,o6]/\PF p H (aj (aj H5 b (.tup [V.int (r-wd+1),.bl c])) l (.lst (xs ++ [y])))/\(aj (aj H5 b (.tup [V.int (r-wd+1),.bl c])) l (.lst (xs ++ [y]))) fl=some (.lst ys)/\à (wt (aj (aj H5 b (.tup [V.int (r-wd+1),.bl c])) l (.lst (xs ++ [y]))) p fl) ys (os.map nV)/\pY os/\(k<2->∀ o∈os,o.2=true)/\os.length=i+1/\ys.length=i+1:=λ c H5 ct p5 b hb=>by
   have x6:=Ext.new (o:=.tup [V.int (r-wd+1),.bl c]) hb;have p6:=p5.trans (PF.of p5.b x6);have gb:aj H5 b (.tup [V.int (r-wd+1),.bl c]) b=some (.tup [V.int (r-wd+1),.bl c]):=aQ;have Tt:=p5.k _ _ gf nf;have WT:b≠fl:=λ e=>by rw [e,Tt] at hb;cases hb
   have WS:b≠p:=p5.b.ne hb;have Ts:=x6 _ _ Tt;generalize aj H5 b (.tup [V.int (r-wd+1),.bl c])=H6 at x6 p6 gb Ts ⊢;refine⟨fl,ys,.ref b,rfl,rfl,Ts,by rw [Ø];omega,ys ++ [.ref b],os ++ [(r-wd+1,c)],_,_,rfl,(pf.trans p6).put f0 nf,aQ,?_,?_,?_,by rw [Ý,lo];rfl,by rw [Ý,ly];rfl⟩
   ·rw [á];exact((ra.mono (vE p6.k)).append (.cons (.tup (xu WS WT gb) (.cons (.int _) (.cons (.bl _) .nil))) .nil)).mono DJ
   ·intro o ho;rcases Ă.mp ho with h | h
    ·exact ok o h
    ·rw [Ð.mp h];show -99<=r-wd+1/\r-wd+1<=99;omega
   ·intro k2 o ho;rcases Ă.mp ho with h | h
    ·exact su k2 o h
    ·rw [Ð.mp h];exact ct k2
  refine⟨t,_,rfl,.inr (č.of gt),rfl,rfl,_,rfl,?_⟩;show(if(Ci (V.str (aR k)) [V.str "sum",V.str "ranks"])=true then _ else _)
  rw [qW k hk];by_cases e2:k<2
  ·rw [Ä e2];exact cK ⟨dy,λ b hb=>fin true H4 (λ _=>rfl) MN b hb⟩
  ·rw [Å e2];exact cJ (c8 rfl MN.b (λ R r=>r) ag ag λ x H5 x0 x3 p5=>⟨_,_,rfl,rfl,dy,λ b hb=>fin _ H5 (λ z=>absurd z e2) (MN.trans p5) b hb⟩)
 ·rintro σ H' ⟨ys,os,o5,o6,rfl,pf,gf,ra,ok,su,lo,ly⟩;exact⟨_,rfl,q fl os H' pf (.lst (cj nf gf) (ra.mono (aU (wo H' p) fl))) ok su lo⟩
end
theorem A0 {P:Program}{w:World}{k:Key}{u:Value}(h:(aL P w).is k u=true):RelV (kV k) u:=by
 rw [iF] at h;rcases aJ h with⟨i,t,rfl,rfl⟩ | ⟨x,t,rfl,rfl⟩ | ⟨rfl,rfl⟩
 ·exact⟨t,rfl⟩
 ·exact⟨t,rfl⟩
 ·rfl
theorem eS {α β:Type}{R:α->β->Prop}:∀{xs:List α}{ys:List β},Paired R xs ys->∀{i:Nat}{y:β},ys[i]?=some y->∃ x,xs[i]?=some x/\R x y
 | _,_,.nil,i,y,h=>by simp at h
 | _,_,.cons r _,0,y,h=>by cases h;exact⟨_,rfl,r⟩
 | _,_,.cons _ t,i+1,y,h=>eS t h
theorem lU:∀{xs:List V}{us:List Value},xs.length=us.length->(∀(j:Nat) x u,xs[j]?=some x->us[j]?=some u->RelV x u)->Vals xs us
 | [],[],_,_=>.nil
 | x::xs,u::us,l,h=>.cons (h 0 x u rfl rfl) (lU (by simpa using l) λ j x u h1 h2=>h (j+1) x u (by simpa using h1) (by simpa using h2))
 | [],_::_,l,_=>by simp at l
 | _::_,[],l,_=>by simp at l
section
variable {X:Cx}{pins:List (Addr × Obj)}{σ:St}{H:Hp}{s:Shared}{d:Addr}{kvs:List (Key × V)}
theorem qd {a:Addr}{o:HO}{t':Nat}{h':Heap}(I:Inv X pins σ H s)(k:∀ b u,s.heap.get? b=some u->h'.get? b=some u)(hf:∀ b u,s.heap.get? b=some u->b<a)(hn:H a=none)(new:ñ X.prog X.w (aj H a o) h' a o) :
  Inv X pins σ (aj H a o) { s with heap:=h',toks:=t' }:=by
 have hs:sysModules≠a:=by
  obtain⟨ob,_,_,ho,_⟩:=I.mod.glob.keeps I.bk;exact Ñ (ļ (by decide:sysModules<mainGlobals) (hf _ _ ho))
 refine I.un ⟨λ b u q _ _ _=>k b u q,λ b u q _ _ _=>⟨u.slots,k b u q⟩,λ b u q n _=>?_,λ b u q _=>⟨u,k b u q⟩,λ b xs q=>?_,λ b u xs q=>?_,λ b ps q=>⟨#[],?_⟩,λ q=>?_⟩ λ b u e=>?_
 ·rw [ah (Ñ (hf b u q))];exact n
 ·rw [ah (aS q hn)];exact q
 ·rw [ah (aS q hn)];exact q
 ·rw [ah (aS q hn),q];simp
 ·rw [ah hs];exact q
 ·by_cases hb:b=a
  ·subst hb;rw [aQ] at e;cases e;exact new
  ·rw [ah hb] at e;exact(I.þ b u e).π (λ c v _ q=>k c v q) (λ c q=>by rw [ah (aS q hn)];exact q) λ c xs q=>by rw [ah (aS q hn)];exact q
theorem wa {h':Heap}(I:Inv X pins σ H s)(k:∀ b u,s.heap.get? b=some u->h'.get? b=some u):H h'.objs.size=none:=by
 cases e:H h'.objs.size with
 | none=>rfl
 | some o =>
  exact absurd ((I.þ.kept k).lt e) (ı _)
theorem EV (I:Inv X pins σ H s)(e:Rd H d (.dK kvs)):kvs.length<=sizeLine/\(d==sysModules)=false/\∃ vs ep,KV kvs vs/\Heap.DictAt (aL X.prog X.w) s.heap d vs ep:=by
 obtain⟨z,hd,vs,rel,o⟩:=lF I.þ e;obtain⟨ep,at'⟩:=o.dictAt;exact⟨z,hd,vs,ep,rel,at'⟩
theorem wj {vs:List (Key × Value)}{acc:Array Value}(rel:KV kvs vs)(it:ItemsOf (λ i v=>∃ k x,vs[i]?=some (k,x)/\(aL X.prog X.w).is k v=true) acc vs.length):Vals (kvs.map λ p=>kV p.1) acc.toList:=by
 have l:kvs.length=vs.length:=ď rel;refine lU (by rw [Æ,l,<- it.1,Array.length_toList]) λ j x u h1 h2=>?_
 obtain⟨k,y,hk,is⟩:=it.2 j u (by simpa using h2)
 obtain⟨p,hp,r1,_⟩:=eS rel hk;rw [Ù,hp] at h1;cases h1;show RelV (kV p.1) u;rw [show p.1=k from r1];exact A0 is
def se:List V->Hp->VK->Prop:=λ xs H Q=>∃(d:Addr)(kvs:List (Key × V))(ns:List Int),xs=[.ref d]/\Rd H d (.dK kvs)/\(kvs.map λ p=>kV p.1)=ns.map V.int/\ns.length<64/\∀(l:Addr)(Ŝ:List Int),H l=none->Ŝ.Perm ns->Ŝ.Pairwise (· <= ·)->Q (.ref l) (aj H l (.lst (Ŝ.map V.int)))
theorem nX (hc:X.calm=true):dh X (.builtin "sorted") se:=by
 intro pins s σ H xs us Q I r h;obtain⟨d,kvs,ns,rfl,e,ek,hl,q⟩:=h;obtain⟨u,rfl,rx⟩:=dH r;cases rx;obtain⟨z,hd,vs,ep,rel,at'⟩:=EV I e;have l:kvs.length=vs.length:=ď rel;have lk:kvs.length=ns.length:=by have:=ĭ List.length ek;rwa [Æ,Æ] at this
 refine call_function_tree PyProof.Rows.kind_sorted PyProof.Rows.plain_sorted PyProof.Rows.entry_sorted (PyProof.Rows.args_sorted1 _) ?_;unfold Builtin.sorted;refine À (Mu (show checkCount "sorted" 1 1 _=pure () from rfl) (À (kdu_collect (kdl_dict hd) (show(X.A.in1).handled=none from I.ok.hd hc) at' ae λ h' tk acc kp it=>?_)));have vk:=wj rel it;rw [ek] at vk;have ia:=f7 vk;have la:acc.toList.length<64:=by have:=vk.length;rw [Æ] at this;omega
 refine À (Ĝ (À (Ú ?_)) (by show acc.toList.length<=sizeLine;rw [Ø];omega))
 have hT:h'.objs.size<(h'.push { cls:=.type "list",data:=.seq acc.toList.toArray }).objs.size:=by rw [ì];omega
 have hn:=wa I kp;refine ý (s:={ heap:=h'.push { cls:=.type "list",data:=.seq acc.toList.toArray },gens:=s.gens,drawn:=s.drawn,toks:=tk,os:=s.os }) PyProof.Rows.slot_list_sort ⟨_,Ë _ rfl,rfl⟩ PyProof.Rows.entry_list_sort (PyProof.Rows.list_sort_tree (Ë _ rfl) ia la λ out Ŝ a1 a2 a3=>?_) (PyProof.Rows.args_list_sort _);obtain⟨c,he⟩:=PyProof.Rows.sortedHeap_at (h:=h'.push { cls:=.type "list",data:=.seq acc.toList.toArray }) (a:=h'.objs.size) (vs:=acc.toList) (out:=out) (Ë _ rfl);refine⟨.none,rfl,Ã ⟨.ref h'.objs.size,_,qd (s:=s) (t':=tk) I (λ b o eb=>?_) (λ b o eb=>È (kp b o eb)) hn (show ñ X.prog X.w _ _ _ (.lst (Ŝ.map V.int)) from⟨?_,out.toList,c,fQ a1,by simpa using he⟩),rfl,q _ Ŝ hn a2 a3⟩⟩
 ·have TB:=kp b o eb;have lt:=È TB;rw [PyProof.Rows.sortedHeap_old (Ñ lt) (ļ lt hT)];exact Â _ TB
 ·rw [Æ,a2.length_eq,Ø];omega
end
section
variable {prog:Program}{w:World}{A:Around}{E:bz}{s:Shared}
theorem kF:typeLookup (.type "list") (Str.ofString "keys")=pure none:=by first | rfl | kernel_rfl
theorem ve {a:Addr}{its:Array Value}{n:Nat}{u:Tok}{Q:Fin->Shared->Prop}(hh:A.handled=none)(ho:s.heap.get? a=some { cls:=.type "list",data:=.seq its n })
  (k:∀ h' tk e,s.heap.NewAttrErr h' e (.ref a) (Str.ofString "keys")->E (.ref e) { s with heap:=h',toks:=tk }):wpAny (model prog w) A (Builtin.«object.__getattribute__» { pos:=[.ref a,.str (Str.ofString "keys") u] }) Q E s:=by
 have hT:s.TypeIs (.ref a) "list" :=⟨_,ho,rfl⟩;unfold Builtin.«object.__getattribute__»;refine À (Mu (show slotArgs "__getattribute__" 1 { pos:=[.ref a,.str (Str.ofString "keys") u] }=pure (.ref a,[.str (Str.ofString "keys") u]) from rfl) ?_);refine À (Ã (À (Ž hT ?_)));unfold Builtin.ObjectAttr.find;rw [kF];refine À (À (Ã (À (Ã (À (Ã ?_))))));show wpAny _ _ (Builtin.ObjectAttr.ownThenClass (.ref a) (Str.ofString "keys") none none) _ _ s;unfold Builtin.ObjectAttr.ownThenClass Builtin.ObjectAttr.inOwnDict;refine À (À ?_);unfold Builtin.ObjectAttr.ownDict;refine À (Γ ho ?_);show wpAny _ _ (instanceDict a false) _ _ s;unfold instanceDict;refine À (Γ ho ?_);refine Ã (Ã ?_);refine À ?_;show wpAny _ _ (pure ()) _ _ s;refine Ã (À (ő (Ã ?_)));show wpAny _ _ (Builtin.ObjectAttr.noSuchAttribute (.ref a) (Str.ofString "keys")) _ _ s;unfold Builtin.ObjectAttr.noSuchAttribute typeNameOfCut shownTypeOf;refine À (À (À (Ž hT (Ã ?_))));refine Ã ?_;refine wpAny_raiseAttrError hh (λ h' tk e ne=>k h' tk e ne) ?_
 decide +kernel
theorem og:typeOf (.builtin "list.__getattribute__")=pure (.type "wrapper_descriptor"):=by first | rfl | kernel_rfl
theorem qi {a:Addr}{its:Array Value}{n:Nat}{Q:Option Value->Shared->Prop}(hh:A.handled=none)(ho:s.heap.get? a=some { cls:=.type "list",data:=.seq its n })
  (k:∀ h' tk,(∀ b ob,s.heap.get? b=some ob->h'.get? b=some ob)->Q none { s with heap:=h',toks:=tk }):wpAny (model prog w) A (getAttr? (.ref a) (Str.ofString "keys")) Q E s:=by
 have hT:s.TypeIs (.ref a) "list" :=⟨_,ho,rfl⟩;unfold getAttr?;refine À (wpAny_mkText ?_);generalize hs:({ heap:=s.heap,gens:=s.gens,drawn:=s.drawn,toks:=s.toks+1,os:=s.os }:Shared)=s1;have e1:s1.heap=s.heap:=by rw [<- hs]
 have Te:s1.heap.get? a=some { cls:=.type "list",data:=.seq its n }:=by rw [e1];exact ho
 have Tp:s1.TypeIs (.ref a) "list" :=⟨_,Te,rfl⟩;have fin:∀ h' tk e,s1.heap.NewAttrErr h' e (.ref a) (Str.ofString "keys")->Q none { s1 with heap:=h',toks:=tk }:=λ h' tk e ne=>by
  rw [<- hs];exact k h' tk λ b ob eb=>ne.keeps b ob (by rw [e1];exact eb)
 unfold getAttrBy?;refine À (ň ?_);unfold getAttrBy;refine Ú (À (Ž Tp ?_));rw [F.slot_list_getattribute.lookup];refine À (Ã ?_);show wpAny _ _ (getAttrByItsOwn (.ref a) (.str (Str.ofString "keys") s.toks) (.type "list") (.builtin "list.__getattribute__") false false) _ _ s1;unfold getAttrByItsOwn;refine À (Ã (À (ň (Ú ?_))));show wpAny _ _ (boundAndCalled (.builtin "list.__getattribute__") (.ref a) (.str (Str.ofString "keys") s.toks)) _ _ s1;unfold boundAndCalled bindSpecial;refine À (À (Mu og ?_));refine Ć ag (Ã ?_);refine ý F.slot_list_getattribute Tp F.entry_list_ga (ve (A:=A.in1) hh Te λ h' tk e ne=>?_) (F.args_list_getattribute_2 _ _);have te:({ heap:=h',gens:=s1.gens,drawn:=s1.drawn,toks:=tk,os:=s1.os }:Shared).TypeIs (.ref e) "AttributeError" := by
  obtain⟨t,u,q⟩:=ne.there;exact⟨_,q,rfl⟩
 show wpAny _ _ (getattributeRaised (.ref a) (.str (Str.ofString "keys") s.toks) (.type "list") (.ref e) none false false) _ _ _;unfold getattributeRaised;refine À (ũ te sub_AttributeError (Ć ag (À ?_)));show wpAny _ _ (typeLookup (.type "list") (Str.ofString "__getattr__")) _ _ _;rw [F.plainAttrs_list.noGetattr];refine Ã ?_;show wpAny _ _ (attributeErrorLeaves (.ref a) (.str (Str.ofString "keys") s.toks) (.ref e) false false) _ _ _;unfold attributeErrorLeaves;refine Ć ag (À (wpAny_throw ?_));exact À (ũ te sub_AttributeError (Ć ag (Ã (fin h' tk e ne))))
end
theorem jH:entryFor table "dict.update.loop" = some Builtin.«dict.update.loop» := by first | rfl | kernel_rfl
theorem fN:plainId "dict.update.loop" = true:=by first | rfl | decide +kernel
section
variable {X:Cx}{pins:List (Addr × Obj)}{σ:St}{H:Hp}{s:Shared}
theorem v0 {a:Addr}{kvs:List (Key × V)}{k:Key}{v:V}{u r:Value}{A:Around}{E:bz}{Q:Unit->Shared->Prop}(I:Inv X pins σ H s)(e:H a=some (.dK kvs))(l:kvs.length<sizeLine)(ry:RelV (kV k) u)(rv:RelV v r)
  (h:∀ h',Heap.SameBut a s.heap h'->Inv X pins σ (aj H a (.dK (eI kvs k v))) { s with heap:=h',toks:=s.toks+1 }->Q () { s with heap:=h',toks:=s.toks+1 }):wpAny (model X.prog X.w) A (dictSet a u r) Q E s:=by
 obtain⟨z,hd,vs,rel,dd⟩:=xI I.þ e;refine wpAny_dictSet_pairs (jE ry) dd (λ h' Mo hs=>h _ hs ?_) (by rw [<- rel.length];exact z)
 have he:∃ q,h'.get? a=some q:=let ⟨q,_,_,hq,_⟩:=Mo;⟨q,hq⟩
 exact pF I (by rw [e];exact True.intro) hs he (tR (by have:=dU kvs k v;omega) hd (rel.put k rv) Mo)
def cQ (qs:List (Key × V)):List (Key × V):=qs.foldl (λ a q=>eI a q.1 q.2) []
theorem lQ (qs:List (Key × V))(q:Key × V):cQ (qs ++ [q])=eI (cQ qs) q.1 q.2:=by
 unfold cQ;rw [List.foldl_append];rfl
theorem mV (qs:List (Key × V)):(cQ qs).length<=qs.length:=by
 have:∀(qs:List (Key × V))(a:List (Key × V)),(qs.foldl (λ a q=>eI a q.1 q.2) a).length<=a.length+qs.length:=λ qs=>by
  induction qs with
  | nil=>intro a;exact Ç _
  | cons q qs ih =>
   intro a;have h1:=ih (eI a q.1 q.2);have h2:=dU a q.1 q.2;simp only [List.foldl_cons,List.length_cons];omega
 have:=this qs []
 simpa [cQ] using this
def GT (H:Hp)(ys:List V)(qs:List (Key × V)):Prop:=ys.length=qs.length/\∀(j:Nat) y q,ys[j]?=some y->qs[j]?=some q->∃ b,y=.ref b/\H b=some (.tup [kV q.1,q.2])
theorem wf {A:Around}{R:Result->Shared->Prop}{D J p:Addr}{ys:List V}{qs:List (Key × V)}(hh:A.handled=none)(nD:D≠J)(WV:D≠p)(nJ:p≠J)(pr:GT H ys qs)(hz:qs.length<=sizeLine)(hp:H p=some (.lst ys))(hD:∀ b,H b≠none->b≠D)(fp:fK X pins H J)
  (q:∀ s',Inv X pins σ (aj H D (.dK (cQ qs))) s'->R (.ok (.ret .none)) s') (m:Nat):∀(i:Nat)(s:Shared)(tk:Tok),i+m=qs.length->Inv X pins σ (aj H D (.dK (cQ (qs.take i)))) s->s.heap.IsListIter J p i->codeAny (model X.prog X.w) A (.builtin "dict.update.loop" ⟨[.ref D,.ref J,.int (i:Int) tk,.none],[]⟩) R s:=by
 have key:∀(i:Nat)(s:Shared),Inv X pins σ (aj H D (.dK (cQ (qs.take i)))) s->∃ its:List Value,Vals ys its/\s.heap.IsList p its.toArray:=λ i s I=>by
  have e:aj H D (.dK (cQ (qs.take i))) p=some (.lst ys):=by rw [ah (Ne.symm WV)];exact hp
  obtain⟨_,its,n,r,eo⟩:=(show ñ X.prog X.w _ s.heap p (.lst ys) from I.þ p _ e);exact⟨its,r,⟨_,eo,rfl,n,rfl⟩⟩
 have Tv:∀ i,fK X pins (aj H D (.dK (cQ (qs.take i)))) J:=λ i=>⟨by rw [ah (Ne.symm nD)];exact fp.1,fp.2⟩
 induction m with
 | zero =>
  intro i s tk e I hi;have e:i=qs.length:=e;obtain⟨its,rv,il⟩:=key i s I;have li:its.toArray.size=qs.length:=by rw [Ü,<- rv.length,pr.1]
  refine D_ jH ?_;rw [Ű fN _];refine À ?_;have W:=Walks.list (prog:=X.prog) (w:=X.w) (A:=A.in1) hh J p nJ its.toArray;refine W.done s _ _ (by rw [li,<- e];exact⟨hi,il⟩) λ h' NZ kp=>?_
  refine À ?_;unfold Builtin.Dict.addKeywords;refine À (Ã (Ã (Ã ?_)));obtain⟨f0,f1,f2,f3,f4,f5⟩:=Tv i;have I2:=I.turned (t':=NZ) (λ b ob hb qb=>kp b ob (λ z=>hb (Ð.mp z)) qb) f0 f1 f3 f4 f5;rw [M6 ae] at I2;exact q _ I2
 | succ m ih =>
  intro i s tk e I hi;obtain⟨its,rv,il⟩:=key i s I;have li:its.toArray.size=qs.length:=by rw [Ü,<- rv.length,pr.1]
  refine D_ jH ?_;rw [Ű fN _];refine À ?_;have W:=Walks.list (prog:=X.prog) (w:=X.w) (A:=A.in1) hh J p nJ its.toArray;refine W.item i s _ _ ae ⟨hi,il⟩ λ v h' NZ hv LK kp=>?_;obtain⟨f0,f1,f2,f3,f4,f5⟩:=Tv i;have I2:=I.turned (t':=NZ) (λ b ob hb qb=>kp b ob (λ z=>hb (Ð.mp z)) qb) f0 f1 f3 f4 f5;have lq:i<qs.length:=ae;have ly:i<ys.length:=by rw [pr.1];exact lq
  have ey:=Á ly;have eq:=Á lq;obtain⟨b,eb,hb⟩:=pr.2 i _ _ ey eq;have O5:its[i]?=some v:=by simpa using hv
  have SM:RelV ys[i] v:=by
   obtain⟨x,hx,r⟩:=eS (R:=RelV) rv O5;rw [ey] at hx;cases hx;exact r
  rw [eb] at SM;cases (show v=Value.ref b from SM);generalize qs[i]=kv at eq hb;have nb:b≠D:=hD b (by rw [hb];simp)
  have ND:aj H D (.dK (cQ (qs.take i))) b=some (.tup [kV kv.1,kv.2]):=by rw [ah nb];exact hb
  obtain⟨_,Jz,rt,⟨ot,ho,hc,n,hd⟩⟩:=(show ñ X.prog X.w _ h' b (.tup [kV kv.1,kv.2]) from I2.þ b _ ND);obtain⟨uk,uv,rfl,rk,Wr⟩:=mJ rt;refine À (Ú (À (wpAny_tryCatch ?_)));unfold Builtin.Dict.pairItems;refine À (Ž (T:="tuple") ⟨ot,ho,hc⟩ (Ć ag (À ?_)));unfold seqItems?;refine À (wpAny_load ho ?_);rw [hd];refine Ã (Ã (Ú ?_));refine v0 I2 aQ (by have:=mV (qs.take i);rw [Ι] at this;omega) rk Wr λ h2 sb I3=>?_
  rw [eN,<- lQ,<- bF eq] at I3;refine Ã ⟨plainId_quiet fN _,?_⟩;have XF:h2.IsListIter J p (i+1):=by
   obtain⟨oi,q1,q2⟩:=LK.1;exact⟨oi,(sb.2 _ (Ne.symm nD)).trans q1,q2⟩
  exact ih (i+1) _ _ ae I3 XF
def tz:List V->Hp->VK->Prop:=λ xs H Q=>∃(p:Addr)(ys:List V)(qs:List (Key × V)),xs=[.ref p]/\H p=some (.lst ys)/\GT H ys qs/\∀ d,H d=none->Q (.ref d) (aj H d (.dK (cQ qs)))
theorem iZ (hc:X.calm=true):dh X (.type "dict") tz:=by
 intro pins s σ H xs us Q I r h;obtain⟨p,ys,qs,rfl,hp,pr,q⟩:=h;obtain⟨u,rfl,rx⟩:=dH r;cases rx;have hh:=I.ok.hd hc;have fr:=I.þ.fresh (a:=s.heap.objs.size) (Ç _);have hz:qs.length<=sizeLine:=by
  have:=(show ñ X.prog X.w H s.heap p (.lst ys) from I.þ p _ hp).1;rw [<- pr.1];exact this
 refine callType_codes (Q₁:=λ obj ü=>obj=.ref s.heap.objs.size/\ü ={ s with heap:=s.heap.push { cls:=.type "dict",data:=.dict #[] } }) F.kt_called_dict (F.kt_typeCall_dict_1 _) F.entry_dict_init (kt_code_dict_new _ ⟨rfl,rfl⟩) λ obj ü h1=>?_
 obtain⟨rfl,rfl⟩:=h1;have I1:Inv X pins σ (aj H s.heap.objs.size (.dK [])) { s with heap:=s.heap.push { cls:=.type "dict",data:=.dict #[] } }:=I.laid (a:=s.heap.objs.size) (o:=.dK []) (t':=s.toks) (λ _ _ q=>Â _ q) (Ç _) (jj s.heap I.big)
 have hT:({ s with heap:=s.heap.push { cls:=.type "dict",data:=.dict #[] } }:Shared).TypeIs (.ref s.heap.objs.size) "dict" :=⟨_,Ë _ rfl,rfl⟩
 refine⟨hT,F.args_dict_init_2 _ _,?_⟩;unfold Builtin.«dict.__init__» Builtin.Dict.selfAndRest;refine À (À (wpAny_notOrdered_dict hT (À (Ã (Ã ?_)))));show wpAny _ _ (Builtin.Dict.updateFrom "dict.__init__" s.heap.objs.size (.ref p) [] .none) _ _ _;have SV:p≠s.heap.objs.size:=aS hp fr;have Ry:aj H s.heap.objs.size (.dK []) p=some (.lst ys):=by rw [ah SV];exact hp
 generalize Xo:({ s with heap:=s.heap.push { cls:=.type "dict",data:=.dict #[] } }:Shared)=s1 at I1 hT ⊢
 obtain⟨_,its,n,rv,eo⟩:=(show ñ X.prog X.w _ s1.heap p (.lst ys) from I1.þ p _ Ry);unfold Builtin.Dict.updateFrom;refine À (Ž (T:="list") ⟨_,eo,rfl⟩ (Ć ag (À (qi (A:=X.A.in1.in1) hh eo λ h2 P1 kp=>?_))));refine Ć ag (À (ő (À ?_)));have I2:Inv X pins σ (aj H s.heap.objs.size (.dK [])) { s1 with heap:=h2,toks:=P1 }:=I1.kept (t':=P1) kp
 have YU:=kp _ _ eo;refine K8 (items:=its.toArray) ⟨_,YU,rfl,n,rfl⟩ (Ã ⟨plainId_quiet fN _,?_⟩);have I3:Inv X pins σ (aj H s.heap.objs.size (.dK [])) { s1 with heap:=h2.push { cls:=.type "list_iterator",data:=.fields #[.ref p,.int 0 0] },toks:=P1 }:=I2.kept (t':=P1) λ b ob e=>Â _ e
 have Ql:=I2.þ.fresh (a:=h2.objs.size) (Ç _);have S6:s.heap.objs.size≠h2.objs.size:=λ z=>by rw [<- z,aQ] at Ql;cases Ql
 have Pk:H h2.objs.size=none:=by rw [ah (Ne.symm S6)] at Ql;exact Ql
 have YI:fK X pins H h2.objs.size:=I2.KY (Ç _) Pk;refine wf (A:=X.A.in1) (D:=s.heap.objs.size) (J:=h2.objs.size) (p:=p) (ys:=ys) (qs:=qs) (H:=H) hh S6 (Ne.symm SV) (aS hp Pk) pr hz hp (λ b hb z=>hb (by rw [z];exact fr)) YI (λ s' I'=>?_) qs.length 0 _ 0 (Nat.zero_add _) I3 ?_
 ·exact⟨rfl,.ref s.heap.objs.size,_,I',rfl,q _ fr⟩
 ·exact⟨_,Ë _ rfl,rfl,rfl⟩
end
def uE (a b:TE):TE:=aT (fL λ i j=>.int (i+j)) a b
def BI (a b:TE):TE:=aT (fL λ i j=>.int (i-j)) a b
def uX (a b:TE):TE:=aT (rI p_ λ i j=>.int (i*j)) a b
def BB (a b:TE):TE:=aT (rI vG λ i j=>.int (i*2^j.toNat)) a b
def oA (a b c:TE):TE:=fh (aw a (aw b (aw c aP)))
def xS (K:Frag)(a b c:Nat):TG:=wm K 3 (de (be a) (de (be b) (de (be c) qH)))
def tZ:TS:=cM (bE (aw (oA (tC (.int 0)) (tC (.int 0)) (tC (.int 1))) aP)) (be 1)
def HR:TE:=oA (uE (aq 0) (BB (tC (.int 1)) (aq 3))) (uE (aq 1) (tC (.int 1))) (tC (.int 1))
def E6 (K:Frag):TE:=jf (eJ K (aq 1)) 3 [2] (xS K 0 1 2) HR
def Cq:TE:=fh (aw (aq 0) (aw (aq 2) aP))
def Hy (K:Frag):TT:=tB (aT qQ (aq 1) (aT (oq K) (aq 3) (tC (.int 2))))
def Fl (K:Frag):TE:=iW (eJ K (aq 1)) 3 [0] (xS K 0 1 2) (Hy K) Cq
def Fn (K:Frag):TE:=jf (eJ K (aq 1)) 3 [] (xS K 0 1 2) Cq
def zr (te:TE):TS:=aV (nu tz (aw te aP))
def Ix (K:Frag):TS:=az tZ (az (gU (ff (aw (dW K 0 1) aP)) (be 2) (cM (aT eC (aq 1) (E6 K)) (be 1))) (zr (Fl K)))
def rM (a b:TE):TS:=cM (aT eC (aq 7) (bE (aw a (aw b aP)))) (be 7)
def HL:TE:=uE (aq 3) (BB (tC (.int 1)) (aq 2))
def Gg:TS:=rM (oA (uE (aq 3) (BB (tC (.int 1)) (uX (tC (.int 2)) (aq 2)))) (tC (.int 0)) (uX (aq 4) (aq 5))) (oA (uE (aq 3) (BB (tC (.int 2)) (uX (tC (.int 2)) (aq 2)))) (tC (.int 0)) (uX (aq 4) (BI (aq 6) (aq 5))))
def FU:TS:=rM (oA (aq 3) (BI (aq 8) (tC (.int 1))) (uX (aq 4) (BI (aq 6) (aq 5)))) (oA HL (uE (aq 8) (tC (.int 1))) (uX (aq 4) (aq 5)))
section
variable {P:Program}{w:World}{K:Frag}{mg:aX}{base:Heap}{f a1 a2:Addr}{fd d1 d2:FuncData}
def Ad (K:Frag)(a:TE):TS:=mn (BF K "list" ix (aq 7) (aw a aP))
def F8 (K:Frag):TS:=Ad K (oA (aq 3) (BI (aq 8) (tC (.int 1))) (uX (aq 4) (aq 6)))
def Gk (K:Frag):TS:=Ad K (oA HL (uE (aq 8) (tC (.int 1))) (uX (aq 4) (aq 6)))
def Gu (K:Frag):TS:=cp (tW K 0 "pairs") Gg (cp (tB (aT qQ (aq 8) (dW K 0 3))) (F8 K) (cp (tB (aT qQ (aq 8) (BI (tC (.int 0)) (dW K 0 3)))) (Gk K) FU))
def Fq (K:Frag):TS:=az (cM (bE aP) (be 7)) (az (gU (eJ K (aq 1)) (xS K 3 8 4) (Gu K)) (cM (aq 7) (be 1)))
def GH (K:Frag):TS:=az (cM (dW K 0 2) (wm K 2 (de (be 5) (de (be 6) qH)))) (az tZ (az (gU (ff (aw (dW K 0 1) aP)) (be 2) (Fq K)) (zr (Fn K))))
abbrev EH:Stmt:=bw 88
abbrev HE:List Str:=["_law_told_here","_law_found","_law_k","_law_d","_law_w","_law_top","_law_bottom","_law_more","_law_apart"]
theorem Op:ad HE ["_law_told_here"] (aa EH):=aF
abbrev G3:Scope:=ij [("_law_d",.local),("_law_ones",.local),("_law_w",.local),("_law_k",.free)]
abbrev FW:Scope:=ij [("_law_d",.local),("_law_ones",.local),("_law_w",.local),("_law_told_here",.free)]
abbrev Hs:Scope:=ij [("_law_d",.local),("_law_apart",.local),("_law_w",.local)]
theorem xX:((["_law_d","_law_ones","_law_w"]:List Str)++(["_law_k"]:List Str)).Nodup:=aA
theorem xZ:((["_law_d","_law_ones","_law_w"]:List Str)++(["_law_told_here"]:List Str)).Nodup:=aA
theorem zc:((["_law_d","_law_apart","_law_w"]:List Str)++([]:List Str)).Nodup:=aA
theorem Ag {X:Cx}:dP X Hs [] ["_law_d","_law_apart","_law_w"] [] []:=nQ (L:=[(".0",.local),("_law_d",.local),("_law_apart",.local),("_law_w",.local)]) rfl rfl aA aA aA rfl aA aA
section
variable {cdv:Value}{A:Around}{outer:List Env}{s:Shared}{H:Hp}{E:XK}
abbrev yd (P:Program)(w:World)(K:Frag)(mg:aX)(base:Heap)(f:Addr)(cdv:Value)(A:Around)(outer:List Env)(s:Shared)(H:Hp)(E:XK):Cx:=(cq ay P w K mg base HE "_law_dealt" (aa EH) f cdv A outer s H E).υ
theorem zY:dP (yd P w K mg base f cdv A outer s H E) G3 [("_law_k",s.heap.objs.size+2)] ["_law_d","_law_ones","_law_w"] ["_law_k"] [2] :=
 gP (M:=["_law_k"]) (L:=[(".0",.local),("_law_d",.local),("_law_ones",.local),("_law_w",.local),("_law_k",.cell)]) rfl rfl aA aA aA rfl rfl rfl aA aA rfl rfl rfl
theorem Be:dP (yd P w K mg base f cdv A outer s H E) FW [("_law_told_here",s.heap.objs.size+1)] ["_law_d","_law_ones","_law_w"] ["_law_told_here"] [0] :=
 gP (M:=["_law_told_here"]) (L:=[(".0",.local),("_law_d",.local),("_law_ones",.local),("_law_w",.local),("_law_told_here",.cell)]) rfl rfl aA aA aA rfl rfl rfl aA aA rfl rfl rfl
theorem uG {X:Cx}{a b c:Expr}{ta tb tc:TE} {x1}{pos:Pos}(ha:Bx (PE X a ta))(hb:Bx (PE X b tb))(hc:Bx (PE X c tc))(h1:starEach [a,b,c] X.env=(false,eval a X.env)::starEach [b,c] X.env:=by rfl)(h2:starEach [b,c] X.env=(false,eval b X.env)::starEach [c] X.env:=by rfl)(h3:starEach [c] X.env=(false,eval c X.env)::starEach [] X.env:=by rfl):Bx (PE X (.Tuple [a,b,c] x1 pos) (oA ta tb tc)) :=
 j9 (cU ha (cU hb (cU hc aY h3) h2) h1)
end
end
section
variable {P:Program}{w:World}{K:Frag}{mg:aX}{base:Heap}{f:Addr}{fd:FuncData}{cdv:Value}{A:Around}{outer:List Env}{s:Shared}{H:Hp}{E:XK}
theorem yv (mr:mg "range" = none) (md:mg "dict" = none):Bx (Ũ (yd P w K mg base f cdv A outer s H E) (aI EH) (az (cp (tW K 0 "split") (Ix K) bB) (GH K))):=by
 have nd:=Op.nd;refine⟨ba (aG (ar bu (bC cZ (pv 0) au) cL (av _)) ?_ dm) (ba (gn (bC cZ (pv 0) au) (bI rfl (dZ (cT (i:=5) nd rfl (Or.inl rfl)) (dZ (cT (i:=6) nd rfl (Or.inl rfl)) aZ)))) ?_)⟩
 ·refine ba (dq (i:=1) nd rfl (Or.inl rfl) (Bx.h (cC (cU (uG ⟨au⟩ ⟨au⟩ ⟨au⟩) aY))))
   (ba (dJ Ē rfl (cg rfl mr (ac (bC cZ (pv 0) au) ao)) (cT (i:=2) nd rfl (Or.inr rfl)) (aK (dq (i:=1) nd rfl (Or.inl rfl) (af dI (pv 1) ?_))))
   (aK (bh (bq (iZ rfl) rfl md M5 (ac ?_ ao)))))
  ·exact eQ (te:=HR) (g:=xS K 0 1 2) rfl zY (cF (pv 1)) (λ s H C fp=>by exact bI rfl (dZ (cT (i:=0) xX rfl (.inl rfl)) (dZ (cT (i:=1) xX rfl (.inl rfl)) (dZ (cT (i:=2) xX rfl (.inl rfl)) aZ)))) (λ s H C fp=>by
    exact Bx.h (uG ⟨af aM (pv 0) (af ft au (pv 3))⟩ ⟨af aM (pv 1) au⟩ ⟨au⟩))
  ·exact wQ (te:=Cq) (tt:=Hy K) (g:=xS K 0 1 2) rfl Be (cF (pv 1)) (λ s H C fp=>by exact bI rfl (dZ (cT (i:=0) xZ rfl (.inl rfl)) (dZ (cT (i:=1) xZ rfl (.inl rfl)) (dZ (cT (i:=2) xZ rfl (.inl rfl)) aZ)))) (λ s H C fp=>by exact ar bu (pv 1) (bC cZ (pv 3) au) (av _)) (λ s H C fp=>by
    exact Bx.h (j9 (cU ⟨pv 0⟩ (cU ⟨pv 2⟩ aY))))
 ·refine ba (dq (i:=1) nd rfl (Or.inl rfl) (Bx.h (cC (cU (uG ⟨au⟩ ⟨au⟩ ⟨au⟩) aY))))
   (ba (dJ Ē rfl (cg rfl mr (ac (bC cZ (pv 0) au) ao)) (cT (i:=2) nd rfl (Or.inr rfl)) (ba (dq (i:=7) nd rfl (Or.inl rfl) (bJ ao)) (ba (dJ Ē rfl (cF (pv 1)) (bI rfl (dZ (cT (i:=3) nd rfl (Or.inl rfl)) (dZ (cT (i:=8) nd rfl (Or.inl rfl)) (dZ (cT (i:=4) nd rfl (Or.inl rfl)) aZ)))) ?_) (aK (dq (i:=1) nd rfl (Or.inl rfl) (pv 7))))))
   (aK (bh (bq (iZ rfl) rfl md M5 (ac ?_ ao)))))
  ·refine aK (aG (ar bu (bC cZ (pv 0) au) cL (av _)) (aK (dq (i:=7) nd rfl (Or.inl rfl) (af dI (pv 7) ?_))) (aK (aG (ar bu (pv 8) (bC cZ (pv 0) au) (av _)) (aK (ax (iX ć ħ Ħ dv (pv 7) (ac ?_ ao)))) (aK (aG (ar bu (pv 8) (af bK au (bC cZ (pv 0) au)) (av _)) (aK (ax (iX ć ħ Ħ dv (pv 7) (ac ?_ ao)))) (aK (dq (i:=7) nd rfl (Or.inl rfl) (af dI (pv 7) ?_))))))))
   ·exact Bx.h (cC (cU (uG ⟨af aM (pv 3) (af ft au (af bp au (pv 2)))⟩ ⟨au⟩ ⟨af bp (pv 4) (pv 5)⟩) (cU (uG ⟨af aM (pv 3) (af ft au (af bp au (pv 2)))⟩ ⟨au⟩ ⟨af bp (pv 4) (af bK (pv 6) (pv 5))⟩) aY)))
   ·exact Bx.h (uG ⟨pv 3⟩ ⟨af bK (pv 8) au⟩ ⟨af bp (pv 4) (pv 6)⟩)
   ·exact Bx.h (uG ⟨af aM (pv 3) (af ft au (pv 2))⟩ ⟨af aM (pv 8) au⟩ ⟨af bp (pv 4) (pv 6)⟩)
   ·exact Bx.h (cC (cU (uG ⟨pv 3⟩ ⟨af bK (pv 8) au⟩ ⟨af bp (pv 4) (af bK (pv 6) (pv 5))⟩) (cU (uG ⟨af aM (pv 3) (af ft au (pv 2))⟩ ⟨af aM (pv 8) au⟩ ⟨af bp (pv 4) (pv 5)⟩) aY)))
  ·exact eQ (te:=Cq) (g:=xS K 0 1 2) rfl Ag (cF (pv 1)) (λ s H C fp=>by exact bI rfl (dZ (cT (i:=0) zc rfl (.inl rfl)) (dZ (cT (i:=1) zc rfl (.inl rfl)) (dZ (cT (i:=2) zc rfl (.inl rfl)) aZ)))) (λ s H C fp=>by
    exact Bx.h (j9 (cU ⟨pv 0⟩ (cU ⟨pv 2⟩ aY))))
end
section
variable {K:Frag}{te:TE}{tt:TT}{g:TG}{k:Nat}{ż:St}{D:Addr}{H1:Hp}{Q:Hp->Prop}{a:Addr}{xs:List V}
theorem qt (Pv:Nat->List V->Hp->Prop)(hz:xs.length<sizeLine)(h0:Pv 0 [] (aj H1 D (.lst [])))(hl:∀ i ys H,Pv i ys H->ÿ K H a xs)
  (hs:∀(i:Nat) x ys H,xs[i]?=some x->ys.length<=i->H D=some (.lst ys)->Pv i ys H->∀ os:St,os.length=k->∀ N:List V->Hp->Prop,(∀ IT H',Pv (i+1) IT H'->IT.length<=i+1->H' D=some (.lst IT)->N IT H') ->
   g x (os ++ ż) H λ Ļ H0=>(∃ Ň:St,Ň.length=k/\Ļ = Ň ++ ż)/\tt Ļ H0 λ b H5=>(b=false->N ys H5)/\(b=true->te Ļ H5 λ y H4=>H4 D=some (.lst ys)/\N (ys ++ [y]) (aj H4 D (.lst (ys ++ [y])))))
  (hd:∀ ys H,ys.length<=xs.length->H D=some (.lst ys)->Pv xs.length ys H->Q H) :
  ∃ W:Nat->Nat->List V->Hp->Prop,(∃ m,W 0 m [] (aj H1 D (.lst []))) /\
   ∀ i m ys H2,W i m ys H2->H2 D=some (.lst ys)/\(((qV K a).stop i H2/\Q H2)\/((qV K a).go i H2/\ys.length<sizeLine /\
    ∀ x H3,(qV K a).JJ i H2 x H3->∀ os:St,os.length=k->g x (os ++ ż) H3 λ Ļ H0=>(∃ Ň:St,Ň.length=k/\Ļ = Ň ++ ż)/\tt Ļ H0 λ b H5=>(b=false->∃ m',m'<m/\W (i+1) m' ys H5) /\
     (b=true->te Ļ H5 λ y H4=>H4 D=some (.lst ys)/\∃ m',m'<m/\W (i+1) m' (ys ++ [y]) (aj H4 D (.lst (ys ++ [y])))))):=by
 refine⟨λ i m ys H=>m=xs.length-i/\i<=xs.length/\ys.length<=i/\H D=some (.lst ys)/\Pv i ys H,⟨xs.length,by simp,Nat.zero_le _,Nat.le_refl _,aQ,h0⟩,?_⟩
 rintro i m ys H ⟨rfl,hi,hy,B',p⟩;refine⟨B',?_⟩;have q:=hl i ys H p;by_cases Β:i<xs.length
 ·refine .inr ⟨⟨xs,xs[i],q,by simp [Β]⟩,ae,λ x H' y os Ŵ=>?_⟩
  obtain⟨e,y⟩:=y;subst e;exact hs i x ys _ (y xs q) hy B' p os Ŵ (λ IT N5=>∃ m',m'<xs.length-i/\(m'=xs.length-(i+1)/\i+1<=xs.length/\IT.length<=i+1/\N5 D=some (.lst IT)/\Pv (i+1) IT N5)) λ IT N5 p' l' d'=>⟨xs.length-(i+1),ae,rfl,Β,l',d',p'⟩
 ·have e:i=xs.length:=ae;subst e;exact .inl ⟨⟨xs,q,Ç _⟩,hd ys H hy B' p⟩
end
def R3 (G:Hp)(y:V)(p:Int × Int):Prop:=∃(a:Addr)(w:Int),y=.ref a/\G a=some (.tup [.int p.1,.int p.2,.int w])
abbrev ς (G:Hp):List V->List (Int × Int)->Prop:=Paired (R3 G)
def K2 (G:Hp)(y:V)(q:Key × V):Prop:=∃ b:Addr,y=.ref b/\G b=some (.tup [kV q.1,q.2])
theorem Paired.app {α β:Type}{R:α->β->Prop}:∀{xs us:List α}{ys vs:List β},Paired R xs ys->Paired R us vs->Paired R (xs++us) (ys++vs)
 | [],_,_,_,.nil,q=>q
 | _::_,_,_,_,.cons r t,q=>.cons r (Paired.app t q)
theorem R3.ext {G G':Hp}{y:V}{p:Int × Int}(h:R3 G y p)(x:Ext G G'):R3 G' y p:=let ⟨a,w,e,g⟩:=h;⟨a,w,e,x _ _ g⟩
theorem ς.ext {G G':Hp}{ys:List V}{ps:List (Int × Int)}(h:ς G ys ps)(x:Ext G G'):ς G' ys ps:=Paired.imp' (λ _ _ r=>R3.ext r x) h
theorem gB {G:Hp}{D a:Addr}{ys:List V}{xs:List V}{o:HO}(hD:G D=some (.lst ys))(h:G a=some (.tup xs)):aj G D o a=some (.tup xs):=by
 rw [ah (λ z=>by rw [z,hD] at h;cases h)];exact h
theorem ς.up {G:Hp}{D:Addr}{zs ys:List V}{ps:List (Int × Int)}{o:HO}(hD:G D=some (.lst zs))(h:ς G ys ps):ς (aj G D o) ys ps:=Paired.imp' (λ _ _ ⟨a,w,e,g⟩=>⟨a,w,e,gB hD g⟩) h
theorem K2.ext {G G':Hp}{ys:List V}{qs:List (Key × V)}(h:Paired (K2 G) ys qs)(x:Ext G G'):Paired (K2 G') ys qs:=Paired.imp' (λ _ _ ⟨b,e,g⟩=>⟨b,e,x _ _ g⟩) h
theorem K2.up {G:Hp}{D:Addr}{zs ys:List V}{qs:List (Key × V)}{o:HO}(hD:G D=some (.lst zs))(h:Paired (K2 G) ys qs):Paired (K2 (aj G D o)) ys qs:=Paired.imp' (λ _ _ ⟨b,e,g⟩=>⟨b,e,gB hD g⟩) h
theorem K2.Wy {G:Hp}{ys:List V}{qs:List (Key × V)}(h:Paired (K2 G) ys qs):GT G ys qs:=by
 refine⟨ď h,λ j y q hy hq=>?_⟩;obtain⟨y',e,r⟩:=eS h hq;rw [hy] at e;cases e;exact r
theorem Paired.Ps {α β:Type}{R:α->β->Prop}:∀{xs:List α}{ys:List β},Paired R xs ys->∀{i:Nat}{x:α},xs[i]?=some x->∃ y,ys[i]?=some y/\R x y
 | _,_,.nil,_,_,h=>by simp at h
 | _,_,.cons r _,0,_,h=>by cases h;exact⟨_,rfl,r⟩
 | _,_,.cons _ t,i+1,_,h=>Paired.Ps t (i:=i) h
def pI (σ:St)(te:TE)(x:Int):Prop:=∀(H:Hp)(R:VK),R (.int x) H->te σ H R
section
variable {σ:St}{a b c:TE}{x y z:Int}
theorem bS {i:Nat}(h:σ[i]?=some (some (.int x))):pI σ (aq i) x:=λ _ _ r=>⟨_,h,r⟩
theorem eF:pI σ (tC (.int x)) x:=λ _ _ r=>r
theorem gA (h:pI σ a x)(k:pI σ b y):pI σ (uE a b) (x+y):=λ H R r=>h H _ (k H _ ⟨_,_,rfl,rfl,r⟩)
theorem oK (h:pI σ a x)(k:pI σ b y):pI σ (BI a b) (x-y):=λ H R r=>h H _ (k H _ ⟨_,_,rfl,rfl,r⟩)
theorem gX (h:pI σ a x)(k:pI σ b y)(c:p_ x y):pI σ (uX a b) (x*y):=λ H R r=>h H _ (k H _ ⟨_,_,rfl,rfl,c,r⟩)
theorem mE {n:Nat}(h:pI σ a x)(k:pI σ b (n:Nat))(n6:n<=1000)(x6:x.natAbs<2^64):pI σ (BB a b) (x*2^n):=λ H R r=>h H _ (k H _ ⟨_,_,rfl,rfl,⟨ae,ae,x6⟩,by show R (.int (x*2^((n:Nat):Int).toNat)) H;rw [Î];exact r⟩)
theorem lI {H:Hp}{Q:VK}(h1:pI σ a x)(h2:pI σ b y)(h3:pI σ c z)(q:∀ t H',Ext H H'->H t=none->H' t=some (.tup [.int x,.int y,.int z])->Q (.ref t) H'):oA a b c σ H Q :=
 h1 H _ (h2 H _ (h3 H _ ⟨dy,λ t ht=>q t _ (Ext.new ht) ht aQ⟩))
end
section
variable {K:Frag}
theorem ET {σ:St}{H:Hp}{Q:VK}{l:Addr}{k:Nat}{ys:List V}{rs:List (Int × Int)}(s1:σ[1]?=some (some (.ref l)))(s2:σ[2]?=some (some (.int (k:Nat))))(k6:k<=20)(hl:H l=some (.lst ys))(ra:ς H ys rs)(len:rs.length<=1000)
  (q:∀ m zs H',Ext H H'->H' m=some (.lst zs)->ς H' zs (rs.map λ p=>(p.1+2^k,p.2+1))->Q (.ref m) H'):E6 K σ H Q:=by
 have ly:ys.length=rs.length:=ď ra;have ż:fE [2] σ=[some (.int (k:Nat))]:=by
  show [(σ[2]?).join]=_;rw [s2];rfl
 refine⟨_,s1,l,rfl,⟨_,ÿ.of hl⟩,λ D hD=>?_⟩;rw [ż];refine eH (a:=l) (xs:=ys) (λ i zs H'=>Ext H H'/\ς H' zs ((rs.take i).map λ p=>(p.1+2^k,p.2+1))) (by rw [Ø];omega) ⟨Ext.new hD,.nil⟩ (λ i zs H' pv=>ÿ.of (pv.1 _ _ hl)) ?_ ?_
 ·rintro i x zs H' ex lz B' ⟨x',KL⟩ os Ŵ R kk;obtain⟨p,ep,a,w,rfl,ha⟩:=Paired.Ps ra ex
  match os,Ŵ with
  | [o0,o1,o2],_ =>
   refine⟨a,_,rfl,č.of (x' _ _ ha),rfl,_,_,rfl,_,_,rfl,_,_,rfl,rfl,⟨[_,_,_],rfl,rfl⟩,?_⟩;refine lI (x:=p.1+1*2^k) (y:=p.2+1) (z:=1) (gA (bS rfl) (mE eF (bS rfl) ae ag)) (gA (bS rfl) eF) eF λ t H4 x4 ht gt=>?_;have Jt:=x4 _ _ B';refine kk _ _ Jt ⟨bV _ (x'.trans x4) hD,?_⟩;rw [bF ep,á];exact Paired.app (ς.up Jt (ς.ext KL x4)) (.cons ⟨t,1,rfl,by rw [a_] at gt;exact gB Jt gt⟩ .nil)
 ·rintro zs H' lz B' ⟨x',KL⟩;rw [ly,ĉ] at KL;exact q D zs H' x' B' KL
theorem xF {σ:St}{H:Hp}{Q:VK}{d w:Int}(s0:σ[0]?=some (some (.int d)))(s2:σ[2]?=some (some (.int w)))(q:∀ t H',Ext H H'->H' t=some (.tup [.int d,.int w])->Q (.ref t) H'):Cq σ H Q :=
 ⟨_,s0,_,s2,dy,λ t ht=>q t _ (Ext.new ht) aQ⟩
theorem CG {σ:St}{H:Hp}{Q:VK}{l:Addr}{ys:List V}{rs:List (Int × Int)}(s1:σ[1]?=some (some (.ref l)))(hl:H l=some (.lst ys))(ra:ς H ys rs)(len:rs.length<=1000)
  (q:∀ m zs qs H',Ext H H'->H' m=some (.lst zs)->Paired (K2 H') zs qs->qs.map (·.1)=rs.map (λ p=>Key.inl p.1)->Q (.ref m) H'):Fn K σ H Q:=by
 have ly:ys.length=rs.length:=ď ra;refine⟨_,s1,l,rfl,⟨_,ÿ.of hl⟩,λ D hD=>?_⟩;refine eH (a:=l) (xs:=ys) (λ i zs H'=>Ext H H'/\∃ qs,Paired (K2 H') zs qs/\qs.map (·.1)=(rs.take i).map (λ p=>Key.inl p.1)) (by rw [Ø];omega) ⟨Ext.new hD,[],.nil,rfl⟩ (λ i zs H' pv=>ÿ.of (pv.1 _ _ hl)) ?_ ?_
 ·rintro i x zs H' ex lz B' ⟨x',qs,KL,eq⟩ os Ŵ R kk;obtain⟨p,ep,a,w,rfl,ha⟩:=Paired.Ps ra ex
  match os,Ŵ with
  | [o0,o1,o2],_ =>
   refine⟨a,_,rfl,č.of (x' _ _ ha),rfl,_,_,rfl,_,_,rfl,_,_,rfl,rfl,⟨[_,_,_],rfl,rfl⟩,?_⟩;refine xF rfl rfl λ t H4 x4 gt=>?_;have Jt:=x4 _ _ B';refine kk _ _ Jt ⟨bV _ (x'.trans x4) hD,qs ++ [(.inl p.1,.int w)],?_,?_⟩
   ·exact Paired.app (K2.up Jt (K2.ext KL x4)) (.cons ⟨t,rfl,gB Jt gt⟩ .nil)
   ·rw [bF ep,á,á,eq];rfl
 ·rintro zs H' lz B' ⟨x',qs,KL,eq⟩;rw [ly,ĉ] at eq;exact q D zs qs H' x' B' KL eq
theorem Dk {σ:St}{H:Hp}{Q:VK}{l a0:Addr}{k:Int}{ys Si:List V}{rs:List (Int × Int)}(s0:σ[0]?=some (some (.ref a0)))(s1:σ[1]?=some (some (.ref l)))(h0:H a0=some (.tup Si))(e0:Si[2]?=some (.int k))(hl:H l=some (.lst ys))(ra:ς H ys rs)(len:rs.length<=1000)
  (q:∀ m zs qs H',Ext H H'->H' m=some (.lst zs)->Paired (K2 H') zs qs->qs.map (·.1)=(rs.filter λ p=>decide (p.2=k)).map (λ p=>Key.inl p.1)->Q (.ref m) H'):Fl K σ H Q:=by
 have ly:ys.length=rs.length:=ď ra;have ż:fE [0] σ=[some (.ref a0)]:=by
  show [(σ[0]?).join]=_;rw [s0];rfl
 refine⟨_,s1,l,rfl,⟨_,ÿ.of hl⟩,λ D hD=>?_⟩;rw [ż];refine qt (a:=l) (xs:=ys) (λ i zs H'=>Ext H H'/\∃ qs,Paired (K2 H') zs qs/\qs.map (·.1)=((rs.take i).filter λ p=>decide (p.2=k)).map (λ p=>Key.inl p.1)) (by rw [Ø];omega) ⟨Ext.new hD,[],.nil,rfl⟩ (λ i zs H' pv=>ÿ.of (pv.1 _ _ hl)) ?_ ?_
 ·rintro i x zs H' ex lz B' ⟨x',qs,KL,eq⟩ os Ŵ N kk;obtain⟨p,ep,a,w,rfl,ha⟩:=Paired.Ps ra ex;have et:((rs.take (i+1)).filter λ p=>decide (p.2=k))=((rs.take i).filter λ p=>decide (p.2=k))++(if p.2=k then [p] else []):=by
   rw [bF ep,List.filter_append,List.filter_cons,List.filter_nil];by_cases c:p.2=k
   ·rw [Ï c,Ï (Ä c)]
   ·rw [Ì c,Ì (by simpa using c)]
  match os,Ŵ with
  | [o0,o1,o2],_ =>
   refine⟨a,_,rfl,č.of (x' _ _ ha),rfl,_,_,rfl,_,_,rfl,_,_,rfl,rfl,⟨[_,_,_],rfl,rfl⟩,?_⟩;refine⟨_,rfl,_,rfl,a0,_,_,_,rfl,rfl,č.of (x' _ _ h0),fm (j:=2) e0,rfl,_,rfl,λ e=>?_,λ e=>?_⟩
   ·have c:¬ p.2=k:=λ z=>of_decide_eq_false e (by rw [z])
    refine kk _ _ ⟨x',qs,KL,?_⟩ ae B';rw [et,Ì c,ù];exact eq
   ·have c:p.2=k:=V.int.inj (Û e);refine xF rfl rfl λ t H4 x4 gt=>?_;have Jt:=x4 _ _ B';refine⟨Jt,kk _ _ ⟨bV _ (x'.trans x4) hD,qs ++ [(.inl p.1,.int w)],?_,?_⟩ (by rw [Ý];show zs.length+1<=i+1;omega) aQ⟩
    ·exact Paired.app (K2.up Jt (K2.ext KL x4)) (.cons ⟨t,rfl,gB Jt gt⟩ .nil)
    ·rw [et,Ï c,á,á,eq];rfl
 ·rintro zs H' lz B' ⟨x',qs,KL,eq⟩;rw [ly,ĉ] at eq;exact q D zs qs H' x' B' KL eq
end
theorem lH {k:Key}{v:V}{ys:List (Key × V)}(h:k ∉ ys.map (·.1)):eI ys k v=ys ++ [(k,v)]:=by
 unfold eI;rw [Ì];intro z;obtain⟨q,hq,e⟩:=JH.mp z;exact h (ā.mpr ⟨q,hq,Û e⟩)
theorem mU {qs:List (Key × V)}(h:(qs.map (·.1)).Nodup):cQ qs=qs:=by
 have:∀(rs acc:List (Key × V)),((acc++rs).map (·.1)).Nodup->rs.foldl (λ a q=>eI a q.1 q.2) acc=acc++rs:=λ rs=>by
  induction rs with
  | nil=>intro acc _;simp
  | cons q rs ih =>
   intro acc hn;rw [List.foldl_cons,lH]
   ·rw [ih (acc ++ [(q.1,q.2)]) (by simpa using hn)]
    simp
   ·rw [á,Ė,List.nodup_append] at hn;exact λ hm=>hn.2.2 _ hm _ (ø ..) rfl
 exact this qs [] (by simpa using h)
def Nr (n:Nat):List (Int × Int):=(lS n).map λ p=>((p.1:Nat),((p.2:Nat):Int))
def N0 (n:Nat):List (Int × Int):=(lP n).map λ d=>(((d:Nat):Int),0)
def N1 (f:Int)(n:Nat):List (Int × Int):=(lC f n).map λ p=>(((p.1:Nat):Int),p.2)
theorem Jr (n:Nat):Nr (n+1)=Nr n++(Nr n).map λ p=>(p.1+2^n,p.2+1):=by
 unfold Nr;show(lS n++_).map _=_;rw [á,ĕ,ĕ]
 congr 1
theorem IZ:∀ n,(Nr n).length=2^n
 | 0=>rfl
 | n+1=>by rw [Jr,Ý,Æ,IZ n];omega
def AF (r:R0)(i:Nat)(p:Int × Int):List (Int × Int):=match r with
 | .pairs _ _ _=>[(p.1+2^(2*i),0),(p.1+2*2^(2*i),0)]
 | .ö _ _ _ f=>if p.2=f then [(p.1,p.2-1)] else if p.2=0-f then [(p.1+2^i,p.2+1)] else [(p.1,p.2-1),(p.1+2^i,p.2+1)]
 | _=>[]
def fU:R0->Nat->List (Int × Int)
 | .pairs _ _ _,i=>N0 i
 | .ö _ _ _ f,i=>N1 f i
 | _,_=>[]
theorem jF {r:R0}(h:∀ n k,r ≠ .split n k)(i:Nat):fU r (i+1)=(fU r i).flatMap (AF r i):=by
 cases r with
 | split n k=>exact absurd rfl (h n k)
 | pairs n a b =>
  show N0 (i+1)=(N0 i).flatMap _;unfold N0;show((lP i).flatMap _).map _=_;rw [List.map_flatMap,List.flatMap_map]
  congr 1
 | ö n a b f =>
  show N1 f (i+1)=(N1 f i).flatMap _;unfold N1;show((lC f i).flatMap _).map _=_;rw [List.map_flatMap,List.flatMap_map]
  congr 1
  funext p
  show(if p.2=f then [(p.1,p.2-1)] else if p.2 = -f then [(p.1+2^i,p.2+1)] else [(p.1,p.2-1),(p.1+2^i,p.2+1)]).map _=(if p.2=f then _ else if p.2=0-f then _ else _)
  rw [show(0-f) = -f by omega]
  split
  ·rfl
  ·split <;> simp
theorem wG (r:R0)(i:Nat)(p:Int × Int):(AF r i p).length<=2:=by
 unfold AF;split
 ·show 2<=2;decide
 ·split
  ·show 1<=2;decide
  ·split
   ·show 1<=2;decide
   ·show 2<=2;decide
 ·show 0<=2;decide
theorem iL (r:R0)(i:Nat):∀ rs:List (Int × Int),(rs.flatMap (AF r i)).length<=2*rs.length
 | []=>Ç _
 | p::rs=>by
  rw [List.flatMap_cons,Ý,å];have:=wG r i p;have:=iL r i rs;omega
theorem ja {r:R0}(h:∀ n k,r ≠ .split n k):∀ i,(fU r i).length<=2^i
 | 0=>by
  cases r with
  | split n k=>exact absurd rfl (h n k)
  | pairs _ _ _=>exact Ç 1
  | ö _ _ _ _=>exact Ç 1
 | i+1=>by
  rw [jF h];have:=iL r i (fU r i);have:=ja h i;omega
section
variable {K:Frag}{σ:St}{H:Hp}{De:bT}{a b c d e g:TE}{x y z x2 y2 z2:Int}{m:Addr}{zs:List V}
theorem DA {i:Nat}(h:σ[i]?=some (some (.int x)))(e:x=y):pI σ (aq i) y:=e ▸ bS h
theorem sU (s7:σ[7]?=some (some (.ref m)))(hm:H m=some (.lst zs))(l:zs.length<=1000)(h1:pI σ a x)(h2:pI σ b y)(h3:pI σ c z)(q:∀ t H1,Ext H H1->H t=none->H1 t=some (.tup [.int x,.int y,.int z])->De.nx σ (aj H1 m (.lst (zs ++ [.ref t])))):Ad K (oA a b c) De σ H:=by
 refine⟨_,s7,.inl ⟨rfl,_,ÿ.of hm⟩,lI h1 h2 h3 λ t H1 x1 nt gt=>?_⟩;exact⟨m,zs,.ref t,rfl,rfl,x1 _ _ hm,by rw [Ø];omega,q t H1 x1 nt gt⟩
theorem uc {t:TA}{Q:VK}(h:t σ H λ xs H1=>xs.length<=sizeLine/\∀ p,H1 p=none->Q (.ref p) (aj H1 p (.lst xs))):bE t σ H Q:=h
theorem tP {ta:TE}{tr:TA}{R:List V->Hp->Prop}(h:ta σ H λ x H1=>tr σ H1 λ xs H2=>R (x::xs) H2):aw ta tr σ H R:=h
theorem Eu {u:TS}(q:∀ t l H',Ext H H'->H' t=some (.tup [.int 0,.int 0,.int 1])->H' l=some (.lst [.ref t])->u De (σ.set 1 (some (.ref l))) H'):az tZ u De σ H:=by
 show bE (aw (oA (tC (.int 0)) (tC (.int 0)) (tC (.int 1))) aP) σ H λ x H1=>be 1 x σ H1 (u De);refine uc (tP (lI eF eF eF λ t H1 x1 nt gt=>⟨dy,λ l hl=>?_⟩));have x2:=Ext.new (o:=.lst [.ref t]) hl;exact q t l _ (x1.trans x2) (x2 _ _ gt) aQ
theorem pj (s7:σ[7]?=some (some (.ref m)))(hm:H m=some (.lst zs))(l:zs.length<=1000)(h1:pI σ a x)(h2:pI σ b y)(h3:pI σ c z)(k1:pI σ d x2)(k2:pI σ e y2)(k3:pI σ g z2)
  (q:∀ t1 t2 m2 H',Ext H H'->H m2=none->H' t1=some (.tup [.int x,.int y,.int z])->H' t2=some (.tup [.int x2,.int y2,.int z2])->H' m2=some (.lst (zs ++ [.ref t1,.ref t2]))->De.nx (σ.set 7 (some (.ref m2))) H'):rM (oA a b c) (oA d e g) De σ H:=by
 refine⟨_,s7,uc (tP (lI h1 h2 h3 λ t1 H1 x1 n1 g1=>tP (lI k1 k2 k3 λ t2 H2 x2 n2 g2=>⟨dy,λ l2 Jg=>?_⟩)))⟩;have x3:=Ext.new (o:=.lst [.ref t1,.ref t2]) Jg;have g3:aj H2 l2 (.lst [.ref t1,.ref t2]) l2=some (.lst [.ref t1,.ref t2]):=aQ;generalize aj H2 l2 (.lst [.ref t1,.ref t2])=H3 at x3 g3 ⊢;have Jy:=(x1.trans x2).trans x3;refine⟨m,l2,zs,_,rfl,rfl,Jy _ _ hm,g3,by rw [Ø];show zs.length+2<=_;omega,λ m2 Lw=>?_⟩
 have x4:=Ext.new (o:=.lst (zs ++ [.ref t1,.ref t2])) Lw;have n0:H m2=none:=by
  cases e:H m2 with
  | none=>rfl
  | some o=>rw [Jy _ _ e] at Lw;cases Lw
 exact q t1 t2 m2 _ (Jy.trans x4) n0 (x4 _ _ (x3 _ _ (x2 _ _ g1))) (x4 _ _ (x3 _ _ g2)) aQ
end
section
variable {K:Frag}{H:Hp}{De:bT}{a0 l m:Addr}{r:R0}{i:Nat}{d ap w tp bt:Int}
theorem Dz {zs:List V}{ps:List (Int × Int)}{G:Hp}(xG:Ext G (wo H m))(sm:r.small)(h:∀ n k,r ≠ .split n k)(i6:i<=20)(rd:õ G (.ref a0) (R0.told r))(b1:-100<tp/\tp<100)(b2:-100<bt/\bt<100)(hm:H m=some (.lst zs))(zl:zs.length<=900)(ra:ς (wo H m) zs ps)
  (q:∀ m2 PB H2,Ext G (wo H2 m2)->H2 m2=some (.lst PB)->ς (wo H2 m2) PB (ps++AF r i (d,ap))->De.nx [some (.ref a0),some (.ref l),some (.int (0+(i:Int))),some (.int d),some (.int w),some (.int tp),some (.int bt),some (.ref m2),some (.int ap)] H2) :
  Gu K De [some (.ref a0),some (.ref l),some (.int (0+(i:Int))),some (.int d),some (.int w),some (.int tp),some (.int bt),some (.ref m),some (.int ap)] H:=by
 have cm:∀ x y:Int,-200<y->y<200->p_ x y:=λ x y h1 h2=>.inr ⟨ae,ae⟩;have new:∀{H1:Hp}{m2:Addr},Ext H H1->H m2=none->Ext (wo H m) (wo H1 m2):=λ {H1 m2} x n c o e=>by
  have e1:=aU H m _ _ e;exact cj (λ z=>by rw [z,n] at e1;cases e1) (x _ _ e1)
 have ek:(0+(i:Int))=((i:Nat):Int):=ae;have Tx:2*(0+(i:Int))=((2*i:Nat):Int):=ae;have more:∀{t1 t2 m2:Addr}{H':Hp}{x y z x2 y2 z2:Int},Ext H H'->H m2=none->H' t1=some (.tup [.int x,.int y,.int z])->H' t2=some (.tup [.int x2,.int y2,.int z2])->H' m2=some (.lst (zs ++ [.ref t1,.ref t2]))->Ext G (wo H' m2)/\ς (wo H' m2) (zs ++ [.ref t1,.ref t2]) (ps ++ [(x,y),(x2,y2)]):=λ {t1 t2 m2 H' x y z x2 y2 z2} xx n g1 g2 g3=>by
  have xw:=new xx n;have n1:t1≠m2:=λ e=>by rw [e,g3] at g1;cases g1
  have n2:t2≠m2:=λ e=>by rw [e,g3] at g2;cases g2
  exact⟨xG.trans xw,Paired.app (ς.ext ra xw) (.cons ⟨t1,z,rfl,cj n1 g1⟩ (.cons ⟨t2,z2,rfl,cj n2 g2⟩ .nil))⟩
 have app:∀{t:Addr}{H1:Hp}{x y z:Int},Ext H H1->H t=none->H1 t=some (.tup [.int x,.int y,.int z])->Ext G (wo (aj H1 m (.lst (zs ++ [.ref t]))) m)/\ς (wo (aj H1 m (.lst (zs ++ [.ref t]))) m) (zs ++ [.ref t]) (ps ++ [(x,y)]):=λ {t H1 x y z} xx n g=>by
  have xw:Ext (wo H m) (wo (aj H1 m (.lst (zs ++ [.ref t]))) m):=(jI xx m).trans xC;have n1:t≠m:=λ e=>by rw [e,hm] at n;cases n
  exact⟨xG.trans xw,Paired.app (ς.ext ra xw) (.cons ⟨t,z,rfl,xC _ _ (cj n1 g)⟩ .nil)⟩
 have SR:=rd.mono (xG.trans (aU H m));cases r with
 | split n k=>exact absurd rfl (h n k)
 | pairs n a b =>
  obtain⟨a1,c,e,ha,rc⟩:=gG SR;cases e;refine km rfl ha (pj (x:=d+1*2^(2*i)) (y:=0) (z:=w*tp) (x2:=d+2*2^(2*i)) (y2:=0) (z2:=w*(bt-tp)) rfl hm ae (gA (bS rfl) (mE eF (by rw [<- Tx];exact gX eF (bS rfl) (.inl ⟨ag,ag⟩)) ae ag)) eF (gX (bS rfl) (bS rfl) (cm _ _ ae ae))
   (gA (bS rfl) (mE eF (by rw [<- Tx];exact gX eF (bS rfl) (.inl ⟨ag,ag⟩)) ae ag)) eF (gX (bS rfl) (oK (bS rfl) (bS rfl)) (cm _ _ ae ae)) λ t1 t2 m2 H' x' n2 g1 g2 g3=>?_)
  obtain⟨k1,k2⟩:=more x' n2 g1 g2 g3;rw [a_] at k2;exact q m2 _ H' k1 g3 k2
 | ö n a b f =>
  obtain⟨a1,c,e,ha,rc⟩:=gI SR;cases e;have en:AF (.ö n a b f) i (d,ap)=if ap=f then [(d,ap-1)] else if ap=0-f then [(d+2^i,ap+1)] else [(d,ap-1),(d+2^i,ap+1)]:=rfl
  rw [en] at q;refine iP aA rfl ha ⟨_,rfl,_,rfl,a0,_,_,_,rfl,rfl,č.of ha,fm (j:=3) rfl,rfl,_,rfl,?_⟩;by_cases c1:ap=f
  ·rw [Ï c1] at q;rw [Ä (by rw [c1])]
   refine cK (sU (x:=d) (y:=ap-1) (z:=w*bt) rfl hm ae (bS rfl) (oK (bS rfl) eF) (gX (bS rfl) (bS rfl) (cm _ _ ae ae)) λ t H1 x1 nt gt=>?_);obtain⟨k1,k2⟩:=app x1 nt gt;exact q m _ _ k1 aQ k2
  rw [Ì c1] at q;rw [Å (λ z=>c1 (V.int.inj z))];refine cJ ⟨_,rfl,_,rfl,a0,_,_,_,rfl,rfl,č.of ha,fm (j:=3) rfl,_,_,rfl,rfl,rfl,_,rfl,?_⟩;by_cases c2:ap=0-f
  ·rw [Ï c2] at q;rw [Ä (by rw [c2])]
   refine cK (sU (x:=d+1*2^i) (y:=ap+1) (z:=w*bt) rfl hm ae (gA (bS rfl) (mE eF (DA rfl ek) ae ag)) (gA (bS rfl) eF) (gX (bS rfl) (bS rfl) (cm _ _ ae ae)) λ t H1 x1 nt gt=>?_);obtain⟨k1,k2⟩:=app x1 nt gt;rw [a_] at k2;exact q m _ _ k1 aQ k2
  rw [Ì c2] at q;rw [Å (λ z=>c2 (V.int.inj z))];refine cJ (pj (x:=d) (y:=ap-1) (z:=w*(bt-tp)) (x2:=d+1*2^i) (y2:=ap+1) (z2:=w*tp) rfl hm ae (bS rfl) (oK (bS rfl) eF) (gX (bS rfl) (oK (bS rfl) (bS rfl)) (cm _ _ ae ae))
   (gA (bS rfl) (mE eF (DA rfl ek) ae ag)) (gA (bS rfl) eF) (gX (bS rfl) (bS rfl) (cm _ _ ae ae)) λ t1 t2 m2 H' x' n2 g1 g2 g3=>?_)
  obtain⟨k1,k2⟩:=more x' n2 g1 g2 g3;rw [a_] at k2;exact q m2 _ H' k1 g3 k2
end
section
variable {P:Program}{w:World}{K:Frag}{mg:aX}{base:Heap}{f:Addr}{fd:FuncData}
def ny:Sp:=λ vs H Q _=>∃ v r,vs=[v]/\õ H v (R0.told r)/\r.small/\∀ d kvs H',Ext H H'->H' d=some (.dK kvs)->kvs.map (·.1)=r.keys.map (λ n=>Key.inl ((n:Nat):Int))->Q (.ref d) H'
theorem wS {σ:St}{H H0:Hp}{De:bT}{te:TE}{r:R0}(sm:r.small)(x0:Ext H0 H)(h:∀ Q:VK,(∀ m zs qs H',Ext H H'->H' m=some (.lst zs)->Paired (K2 H') zs qs->qs.map (·.1)=r.keys.map (λ n=>Key.inl ((n:Nat):Int))->Q (.ref m) H')->te σ H Q)(q:∀ d kvs H',Ext H0 H'->H' d=some (.dK kvs)->kvs.map (·.1)=r.keys.map (λ n=>Key.inl ((n:Nat):Int))->De.rt (.ref d) H'):zr te De σ H:=by
 refine h _ λ m zs qs H' x' hm k2 eq=>⟨m,zs,qs,rfl,hm,K2.Wy k2,λ d hd=>?_⟩;have nd:(qs.map (·.1)).Nodup:=by
  rw [eq];exact List.pairwise_map.mpr (sm.Kz.1.imp λ {a b} n e=>n (by injection e with e;omega))
 rw [mU nd];exact q d qs _ ((x0.trans x').trans (Ext.new hd)) aQ eq
theorem BT (F:ė K "_law_dealt" "_law_dealt" EH f fd) (mr:mg "range" = none) (md:mg "dict" = none):Ò P w K mg base ay 1 f fd ["_law_told_here"] ny:=by
 refine bR F Op λ cdv A outer s H vs Q E hr h=>?_;obtain⟨v,r,rfl,rd,sm,q⟩:=h;refine gZ (yv (P:=P) (w:=w) (base:=base) mr md) ⟨?_⟩;by_cases sp:∃ n k,r=.split n k
 ·obtain⟨n,k,rfl⟩:=sp;obtain⟨a,rfl,ha⟩:=je rd;obtain⟨n1,n6,k0,kn⟩:=id sm;refine km rfl ha ?_;refine Eu (u:=az (gU (ff (aw (dW K 0 1) aP)) (be 2) (cM (aT eC (aq 1) (E6 K)) (be 1))) (zr (Fl K))) λ t l H2 x2 R1 g2=>?_;show az (gU (ff (aw (dW K 0 1) aP)) (be 2) (cM (aT eC (aq 1) (E6 K)) (be 1))) (zr (Fl K)) _ [some (.ref a),some (.ref l),none,none,none,none,none,none,none] H2;refine⟨_,rfl,a,_,_,_,rfl,rfl,č.of (x2 _ _ ha),fm (j:=1) rfl,n,rfl,ae,ae,?_⟩;obtain⟨n,rfl⟩:∃ m:Nat,n=(m:Int):=⟨n.toNat,ae⟩;rw [Î];refine dw (lo:=0) (n:=n) (λ i σ H'=>∃ l ys o2,σ=[some (.ref a),some (.ref l),o2,none,none,none,none,none,none]/\Ext H H'/\H' l=some (.lst ys)/\ς H' ys (Nr i)) ⟨l,_,_,rfl,x2,g2,.cons ⟨t,1,rfl,R1⟩ .nil⟩ ?_ ?_
  ·rintro i σ H' hi ⟨l,ys,o2,rfl,x',gl,ra⟩;have ln:=IZ i;have Qd:2^i<=2^6:=ã ag ae;show cM (aT eC (aq 1) (E6 K)) (be 1) _ [some (.ref a),some (.ref l),some (.int (0+(i:Int))),none,none,none,none,none,none] H';rw [Ψ];refine⟨_,rfl,ET (k:=i) rfl rfl ae gl ra ae λ m zs H3 x3 gm rm=>?_⟩;have lz:=ď rm;have ly:=ď ra;rw [Æ] at lz;refine⟨l,m,ys,zs,rfl,rfl,x3 _ _ gl,gm,by rw [Ø];omega,λ p hp=>?_⟩
   have x4:=Ext.new (o:=.lst (ys++zs)) hp;refine⟨p,_,_,rfl,(x'.trans x3).trans x4,aQ,?_⟩;rw [Jr];exact Paired.app (ς.ext ra (x3.trans x4)) (ς.ext rm x4)
  ·rintro σ H' ⟨l,ys,o2,rfl,x',gl,ra⟩;have ln:=IZ n;have Qd:2^n<=2^6:=ã ag ae;refine wS sm x' (λ R kk=>Dk (k:=k) rfl rfl (x' _ _ ha) rfl gl ra ae λ m zs qs H3 x3 gm k2 eq=>kk m zs qs H3 x3 gm k2 ?_) q;rw [eq];show _=(((lS ((n:Nat):Int).toNat).filter λ p=>decide (((p.2:Nat):Int)=k)).map (·.1)).map _;rw [Î];unfold Nr;rw [List.filter_map,ĕ,ĕ];rfl
 have ns:∀ n k,r ≠ .split n k:=λ n k e=>sp ⟨n,k,e⟩;obtain⟨a,n,wd,c,tp,bt,xs,ev,ha,nw,hc,n1,n6,t1,t2,b1,b2,nn⟩:∃(a:Addr)(n:Nat)(wd:Str)(c:Addr)(tp bt:Int)(xs:List V),v=.ref a/\H a=some (.tup (.str wd :: .int (n:Nat) :: .ref c::xs))/\wd ≠ "split" /\ H c=some (.tup [.int tp,.int bt])/\1<=n/\n<=6/\-100<tp/\tp<100/\-100<bt/\bt<100/\r.keys.map (λ n=>Key.inl ((n:Nat):Int))=(fU r n).map λ p=>Key.inl p.1:=by
  have two:∀{c:V}{x y:Int},õ H c (.tuple [.int x,.int y])->∃ b,c=.ref b/\H b=some (.tup [.int x,.int y]):=λ {c x y} h=>by
   obtain⟨b,xs,rfl,hb,rs⟩:=cG h;cases rs with | cons r1 rs=>cases rs with | cons r2 rs=>cases rs;cases r1;cases r2;exact⟨b,rfl,hb⟩
  cases r with
  | split n k=>exact absurd rfl (ns n k)
  | pairs n x y =>
   obtain⟨h1,h2,cd,h4⟩:=sm;obtain⟨a,c,e,ha,rc⟩:=gG rd;obtain⟨b,rfl,hb⟩:=two rc;obtain⟨x',y',rfl,rfl,k1,k2,k3,_⟩:=dB cd;obtain⟨n,rfl⟩:∃ m:Nat,n=(m:Int):=⟨n.toNat,ae⟩;exact⟨a,n,_,b,_,_,_,e,ha,aA,hb,ae,ae,ae,ae,ae,ae,by
    show(lP ((n:Nat):Int).toNat).map _=(N0 n).map _;unfold N0;rw [Î,ĕ];rfl⟩
  | ö n x y g =>
   obtain⟨h1,h2,cd,h4,_⟩:=sm;obtain⟨a,c,e,ha,rc⟩:=gI rd;obtain⟨b,rfl,hb⟩:=two rc;obtain⟨x',y',rfl,rfl,k1,k2,k3,_⟩:=dB cd;obtain⟨n,rfl⟩:∃ m:Nat,n=(m:Int):=⟨n.toNat,ae⟩;exact⟨a,n,_,b,_,_,_,e,ha,aA,hb,ae,ae,ae,ae,ae,ae,by
    show((lC g ((n:Nat):Int).toNat).map (·.1)).map _=(N1 g n).map _;unfold N1;rw [Î,ĕ,ĕ];rfl⟩
 subst ev;refine iP nw rfl ha ⟨_,rfl,a,_,_,_,rfl,rfl,č.of ha,fm (j:=2) rfl,c,_,rfl,č.of hc,rfl,_,_,rfl,_,_,rfl,rfl,?_⟩;refine Eu (u:=az (gU (ff (aw (dW K 0 1) aP)) (be 2) (Fq K)) (zr (Fn K))) λ t l H2 x2 R1 g2=>?_;show az (gU (ff (aw (dW K 0 1) aP)) (be 2) (Fq K)) (zr (Fn K)) _ [some (.ref a),some (.ref l),none,none,none,some (.int tp),some (.int bt),none,none] H2;refine⟨_,rfl,a,_,_,_,rfl,rfl,č.of (x2 _ _ ha),fm (j:=1) rfl,(n:Int),rfl,ae,ae,?_⟩;rw [Î];have r0:fU r 0=[(0,0)]:=by
  cases r with
  | split n k=>exact absurd rfl (ns n k)
  | pairs _ _ _=>rfl
  | ö _ _ _ _=>rfl
 refine dw (lo:=0) (n:=n) (λ i σ H'=>∃ l ys o2 o3 o4 o7 o8,σ=[some (.ref a),some (.ref l),o2,o3,o4,some (.int tp),some (.int bt),o7,o8]/\Ext H H'/\H' l=some (.lst ys)/\ς H' ys (fU r i)) ⟨l,_,_,_,_,_,_,rfl,x2,g2,by rw [r0];exact .cons ⟨t,1,rfl,R1⟩ .nil⟩ ?_ ?_
 ·rintro i σ H' hi ⟨l,ys,o2,o3,o4,o7,o8,rfl,x',gl,ra⟩;have ln:=ja ns i;have Qd:2^i<=2^6:=ã ag ae;have ly:=ď ra;show Fq K _ [some (.ref a),some (.ref l),some (.int (0+(i:Int))),o3,o4,some (.int tp),some (.int bt),o7,o8] H';refine⟨dy,λ m hm=>?_⟩;have x3:=Ext.new (o:=.lst []) hm;have g3:aj H' m (.lst []) m=some (.lst []):=aQ;have xm:Ext H' (wo (aj H' m (.lst [])) m):=λ b o e=>cj (λ z=>by rw [z,hm] at e;cases e) (x3 _ _ e)
  show az (gU (eJ K (aq 1)) (xS K 3 8 4) (Gu K)) (cM (aq 7) (be 1)) _ [some (.ref a),some (.ref l),some (.int (0+(i:Int))),o3,o4,some (.int tp),some (.int bt),some (.ref m),o8] (aj H' m (.lst []));generalize aj H' m (.lst [])=H3 at x3 g3 xm ⊢;refine⟨_,rfl,l,rfl,⟨_,ÿ.of (x3 _ _ gl)⟩,lG (xs:=ys) (λ j σ H4=>∃ m zs o3 o4 o8,σ=[some (.ref a),some (.ref l),some (.int (0+(i:Int))),o3,o4,some (.int tp),some (.int bt),some (.ref m),o8]/\Ext H' (wo H4 m)/\H4 m=some (.lst zs)/\ς (wo H4 m) zs (((fU r i).take j).flatMap (AF r i))) ⟨m,[],_,_,_,rfl,xm,g3,.nil⟩ ?_ ?_ ?_⟩
  ·rintro j σ H4 hj ⟨m,zs,o3,o4,o8,rfl,xw,gm,rm⟩;exact ÿ.of (aU _ _ _ _ (xw _ _ gl))
  ·rintro j y σ H4 ey ⟨m,zs,o3,o4,o8,rfl,xw,gm,rm⟩;obtain⟨p,ep,b,ww,rfl,hb⟩:=Paired.Ps ra ey;have XX:=aU _ _ _ _ (xw _ _ hb);have lz:=ď rm;have lf:=iL r i ((fU r i).take j);have lt:((fU r i).take j).length<=64:=by rw [Ι];omega
   refine⟨b,_,rfl,č.of XX,rfl,_,_,rfl,_,_,rfl,_,_,rfl,rfl,?_⟩;refine Dz (i:=i) (d:=p.1) (ap:=p.2) xw sm ns ae (rd.mono x') ⟨t1,t2⟩ ⟨b1,b2⟩ gm ae rm λ m2 PB H5 x5 g5 r5=>?_;refine⟨m2,PB,_,_,_,rfl,x5,g5,?_⟩;rw [bF ep,List.flatMap_append,List.flatMap_cons,List.flatMap_nil,ù];exact r5
  ·rintro σ H4 ⟨m,zs,o3,o4,o8,rfl,xw,gm,rm⟩;rw [ly,ĉ,<- jF ns] at rm;exact⟨_,rfl,m,zs,_,_,_,_,_,rfl,x'.trans (xw.trans (aU H4 m)),gm,ς.ext rm (aU H4 m)⟩
 ·rintro σ H' ⟨l,ys,o2,o3,o4,o7,o8,rfl,x',gl,ra⟩;have ln:=ja ns n;have Qd:2^n<=2^6:=ã ag ae;exact wS sm x' (λ R kk=>CG rfl gl ra ae λ m zs qs H3 x3 gm k2 eq=>kk m zs qs H3 x3 gm k2 (by rw [eq,nn])) q
end
structure Pw (G:Hp)(tv ov:V)(k:Nat)(dl:Int)(r:R0)(os:List (Int × Bool)):Prop where
 td:õ G tv (R0.told r)
 sm:r.small
 hk:k<4
 sg:k=3->r.JV=true
 ou:õ G ov (.list (os.map nV))
 ok:pY os
 su:k<2->∀ o∈os,o.2=true
 ln:(os.length:Int)=r.ë
 dl:∃ n∈r.keys,dl=((n:Nat):Int)
theorem Pw.ext {G G':Hp}{tv ov:V}{k:Nat}{dl:Int}{r:R0}{os:List (Int × Bool)}(c:Pw G tv ov k dl r os)(x:Ext G G'):Pw G' tv ov k dl r os:=⟨c.td.mono x,c.sm,c.hk,c.sg,c.ou.mono x,c.ok,c.su,c.ln,c.dl⟩
section
variable {P:Program}{w:World}{K:Frag}{mg:aX}{base:Heap}{f a1 a2 a3 a4 a5:Addr}{fd d1 d2 d3 d4 d5:FuncData}
abbrev BJ:Stmt:=bw 93
abbrev HK:List Str:=["_law_box_here","_law_most","_law_word","_law_told_here","_law_outcomes_here","_law_dealings"]
theorem Os:ad HK ["_law_box_here","_law_most"] (aa BJ):=aF
def wk:Sp:=λ vs H Q _=>∃ p,vs=[.ref p,.int 6]/\į H p/\∀ c tv ov k dl r os H',PF p H H'->wo H' p c=some (.lst [tv,ov,.str (aR k),.int dl])->Pw (wo H' p) tv ov k dl r os->Q (.ref c) H'
def mf (i:Nat)(K:Frag):TE:=nu (λ xs H Q=>∃ p ys,xs=[.ref p]/\(ÿ K H p ys\/č K H p ys)/\Q (.int ys.length) H) (aw (aq i) aP)
def IP (K:Frag):TS:=az (cM (aT (cX K) (bE (aw (tC (.str "sum")) (aw (tC (.str "ranks")) (aw (tC (.str "wins")) (aw (tC (.str "signs")) aP))))) (fo 0 (tC (.int 4)))) (be 2))
 (az (cM (ie vg [] E0 (aw (aq 0) (aw (aT qQ (aq 2) (tC (.str "signs"))) (aw (aq 1) aP)))) (be 3))
 (az (cM (ie uW [] E0 (aw (aq 0) (aw (aq 2) (aw (ie ke [] E0 (aw (aq 3) aP)) aP)))) (be 4))
 (az (cM (nu se (aw (ie ny [] E0 (aw (aq 3) aP)) aP)) (be 5))
 (aV (bE (aw (aq 3) (aw (aq 4) (aw (aq 2) (aw (aT (cX K) (aq 5) (fo 0 (mf 5 K))) aP)))))))))
section
variable {cdv:Value}{A:Around}{outer:List Env}{s:Shared}{H:Hp}{E:XK}
theorem yy (A1:Df P w K mg base ay 1 "_law_take" ["_law_box_here","_law_many"] c5 a1 d1) (A2:Df P w K mg base ay 6 "_law_told" ["_law_box_here","_law_pairs","_law_most"] vg a2 d2) (A3:Df P w K mg base ay 2 "_law_outcomes" ["_law_box_here","_law_word","_law_folk_here"] uW a3 d3) (A4:Df P w K mg base ay 1 "_law_folk" ["_law_told_here"] ke a4 d4) (A5:Df P w K mg base ay 1 "_law_dealt" ["_law_told_here"] ny a5 d5) (mo:mg "sorted" = none) (ml:mg "len" = none) (hr:t3 6 "_law_case" BJ A s f cdv):Bx (Ũ (cq ay P w K mg base HK "_law_case" (aa BJ) f cdv A outer s H E).υ (aI BJ) (IP K)):=by
 have nd:=Os.nd;have Ĵ:î 1 _:=hr.mono ag;have JA:î 2 _:=hr.mono ag;exact eM ⟨dq (i:=2) nd rfl (Or.inl rfl) (bC iQ (bJ (ac cL (ac cL (ac cL (ac cL ao))))) (br A1 Ĵ ai (ac (pv 0) (ac au ao))))⟩
  (eM ⟨dq (i:=3) nd rfl (Or.inl rfl) (br A2 hr ai (ac (pv 0) (ac (bX bu (pv 2) cL (av _)) (ac (pv 1) ao))))⟩
  (eM ⟨dq (i:=4) nd rfl (Or.inl rfl) (br A3 JA ai (ac (pv 0) (ac (pv 2) (ac (br A4 Ĵ ai (ac (pv 3) ao)) ao))))⟩
  (eM ⟨dq (i:=5) nd rfl (Or.inl rfl) (am (nX rfl) rfl mo LV (ac (br A5 Ĵ ai (ac (pv 3) ao)) ao))⟩
  (cv ⟨bh (Bx.h (cC (cU ⟨pv 3⟩ (cU ⟨pv 4⟩ (cU ⟨pv 2⟩ (cU ⟨bC iQ (pv 5) (br A1 Ĵ ai (ac (pv 0) (ac (am aH rfl ml ò (ac (pv 5) ao)) ao)))⟩ aY))))))⟩))))
end
theorem Da (F:ė K "_law_case" "_law_case" BJ f fd) (A1:Df P w K mg base ay 1 "_law_take" ["_law_box_here","_law_many"] c5 a1 d1) (A2:Df P w K mg base ay 6 "_law_told" ["_law_box_here","_law_pairs","_law_most"] vg a2 d2) (A3:Df P w K mg base ay 2 "_law_outcomes" ["_law_box_here","_law_word","_law_folk_here"] uW a3 d3) (A4:Df P w K mg base ay 1 "_law_folk" ["_law_told_here"] ke a4 d4) (A5:Df P w K mg base ay 1 "_law_dealt" ["_law_told_here"] ny a5 d5) (mo:mg "sorted" = none) (ml:mg "len" = none):Ò P w K mg base ay 7 f fd ["_law_box_here","_law_most"] wk:=by
 refine bR F Os λ cdv A outer s H vs Q E hr h=>?_;obtain⟨p,rfl,bx,q⟩:=h;refine gZ (yy A1 A2 A3 A4 A5 mo ml hr) ⟨?_⟩;refine cI (te:=aT (cX K) (bE (aw (tC (.str "sum")) (aw (tC (.str "ranks")) (aw (tC (.str "wins")) (aw (tC (.str "signs")) aP))))) (fo 0 (tC (.int 4)))) (i:=2) (D:=⟨_,Q,_,_⟩) (kI (n:=4) (xs:=[.str "sum",.str "ranks",.str "wins",.str "signs"]) rfl bx rfl ag ag (λ R r=>r) λ k hk v H1 ev p1=>?_);obtain rfl:v=.str (aR k):=by
  match k,hk,ev with
  | 0,_,ev=>cases ev;rfl
  | 1,_,ev=>cases ev;rfl
  | 2,_,ev=>cases ev;rfl
  | 3,_,ev=>cases ev;rfl
 have W7:decide (V.str (aR k)=V.str "signs")=decide (k=3):=by
  match k,hk with
  | 0,_=>exact Å λ z=>absurd (V.str.inj z) aA
  | 1,_=>exact Å λ z=>absurd (V.str.inj z) aA
  | 2,_=>exact Å λ z=>absurd (V.str.inj z) aA
  | 3,_=>exact Ä rfl
 refine⟨_,rfl,_,rfl,rfl,_,rfl,p,decide (k=3),?_,p1.b,λ t r H2 p2 rt sm sg=>?_⟩
 ·show [V.ref p,V.bl (decide (V.str (aR k)=V.str "signs")),V.int 6]=_;rw [W7]
 have K5:=p1.trans p2;have f6:=sm.fk;refine⟨_,rfl,_,rfl,_,rfl,.ref t,r,rfl,rt.mono (aU _ _),sm,λ H3 x3=>?_⟩;have p3:=PF.of p2.b x3;refine⟨p,k,r.ë.toNat,?_,p3.b,hk,ae,λ l os H4 p4 ro ok su lo=>?_⟩
 ·show [V.ref p,V.str (aR k),V.int r.ë]=_;rw [show((r.ë.toNat:Nat):Int)=r.ë by omega]
 have MN:=p3.trans p4;have SN:=rt.mono MN.o;refine⟨_,rfl,.ref t,r,rfl,SN.mono (aU _ _),sm,λ d kvs H5 x5 hd ek=>?_⟩;have p5:=PF.of p4.b x5;have dn:=sm.Kz;refine⟨d,kvs,r.keys.map (λ n=>((n:Nat):Int)),rfl,Rd.of hd,?_,by rw [Æ];exact dn.2.2.1,λ l2 ns Jg pm _=>?_⟩
 ·have e2:(kvs.map λ p=>kV p.1)=(kvs.map (·.1)).map kV:=by rw [ĕ];rfl
  rw [e2,ek,ĕ,ĕ];rfl
 have p6:=PF.of p5.b (Ext.new (o:=.lst (ns.map V.int)) Jg);have g6:aj H5 l2 (.lst (ns.map V.int)) l2=some (.lst (ns.map V.int)):=aQ;have n6:=p5.b.ne Jg;show bE (aw (aq 3) (aw (aq 4) (aw (aq 2) (aw (aT (cX K) (aq 5) (fo 0 (mf 5 K))) aP)))) [some (.ref p),some (.int 6),some (.str (aR k)),some (.ref t),some (.ref l),some (.ref l2)] (aj H5 l2 (.lst (ns.map V.int))) Q;generalize aj H5 l2 (.lst (ns.map V.int))=H6 at p6 g6 ⊢;have ln:ns.length=r.keys.length:=by rw [pm.length_eq,Æ]
 have l0:=dn.2.1;have Qd:=dn.2.2.1;refine uc ⟨_,rfl,_,rfl,_,rfl,_,rfl,c8 (m:=(ns.length:Nat)) rfl p6.b (λ R rr=>⟨_,rfl,l2,_,rfl,.inl (ÿ.of g6),by rw [Æ];exact rr⟩) ae ae λ x H7 x0 x1 p7=>?_⟩
 obtain⟨x,rfl⟩:∃ m:Nat,x=(m:Int):=⟨x.toNat,ae⟩;have lx:x<ns.length:=ae;refine⟨l2,_,x,_,rfl,rfl,ÿ.of (p7.k _ _ g6 n6),fm (by rw [Ù,Á lx];rfl),dy,λ c hc=>?_⟩
 have WA:=(p5.trans p6).trans p7;have p8:=PF.of p7.b (Ext.new (o:=.lst [.ref t,.ref l,.str (aR k),.int ns[x]]) hc);have QL:=WA.trans p8;have mem:=(pm.mem_iff (a:=ns[x])).mp (ċ lx);obtain⟨n,hn,en⟩:=ā.mp mem;exact q c _ _ k ns[x] r os _ (K5.trans (MN.trans QL)) (cj (p7.b.ne hc) aQ) ⟨SN.mono QL.o,sm,hk,λ e=>sg (Ä e),ro.mono QL.o,ok,su,ae,n,hn,en.symm⟩
end
section
variable {P:Program}{w:World}{K:Frag}{mg:aX}{base:Heap}
abbrev Gp:Stmt:=bw 96
def vb:Sp:=λ vs H Q _=>∃ v d,vs=[v]/\õ H v d/\Q (.bl (eX d)) H
theorem FA:ad ["_law_thing"] ["_law_thing"] (aa Gp):=aF
theorem D5 {f a1:Addr}{fd d1:FuncData}(N:uH K)(F:ė K "_law_is_outcome" "_law_is_outcome" Gp f fd) (A1:Df P w K mg base ay 1 "_law_whole" ["_law_found"] qY a1 d1)
  (mi:mg "isinstance" = none) (mt:mg "tuple" = none) (ml:mg "len" = none) (mb:mg "bool" = none):Ò P w K mg base ay 2 f fd ["_law_thing"] vb:=by
 refine F.ok FA (λ vs H Q E h=>?_) (λ cdv A outer s H vs Q E hr h=>?_)
 ·obtain⟨v,d,rfl,_⟩:=h;rfl
 obtain⟨v,d,rfl,rd,q⟩:=h;refine⟨_,ba (aG (PW.pt (gY (bD (bf (am (bH N) rfl mi Ö (ac (pv 0) (ac (fF rfl mt Ĉ) ao))))) (gY (ar hX (am aH rfl ml ò (ac (pv 0) ao)) au (av _))
   (fX (bD (bf (am (bH N) rfl mi Ö (ac (bC cZ (pv 0) au) (ac (fF rfl mb ŉ) ao))))))))) (aK (bh l9)) dm)
  (aK (bh (eE (br A1 hr ai (ac (bC cZ (pv 0) au) ao)) (eT (sP lu lu (jx gR au) (bC cZ (pv 0) au) au))))),?_⟩
 refine⟨_,rfl,_,_,_,_,rfl,rd.kd,rd.Rm,_,rfl,?_⟩;cases e:uZ d with
 | false =>
  refine cK (cK ?_);have z:eX d=false:=by cases d <;> first | rfl | cases e
  rw [z] at q;exact q
 | true =>
  obtain⟨ds,rfl⟩:∃ ds,d=.tuple ds:=by cases d <;> first | exact⟨_,rfl⟩ | cases e
  obtain⟨a,xs,rfl,ha,rs⟩:=cG rd;refine cJ ⟨_,rfl,a,_,rfl,.inr (č.of ha),rfl,_,rfl,?_⟩;have len:=rs.length;by_cases l2:xs.length=2
  ·obtain⟨u,v,rfl⟩:∃ u v,xs=[u,v]:=by
    match xs,l2 with
    | [u,v],_=>exact⟨u,v,rfl⟩
   cases rs with
   | cons r1 rs =>
    cases rs with
    | cons r2 rs =>
     cases rs
     rename_i d1 d2
     have qq:Q (.bl (ib (-99) 99 d1&&ka d2)) H:=q;refine cJ ⟨_,rfl,a,_,_,_,rfl,rfl,č.of ha,rfl,_,_,_,_,rfl,r2.kd,r2.Qe,_,rfl,?_⟩;cases e2:ka d2 with
     | false =>
      rw [e2,Bool.and_false] at qq;exact cK qq
     | true =>
      rw [e2,Bool.and_true] at qq;refine cJ ⟨_,rfl,a,_,_,_,rfl,rfl,č.of ha,rfl,u,d1,rfl,r1,_,rfl,?_⟩;cases r1 with
      | int i =>
       refine cK ⟨_,rfl,_,rfl,a,_,_,_,rfl,rfl,č.of ha,rfl,_,_,rfl,rfl,_,rfl,?_⟩;have q2:Q (.bl (decide (-99<=i)&&decide (i<=99))) H:=qq;refine jk (λ c=>?_) (λ c=>?_)
       ·have c':(-99:Int)<=i:=Û c;rw [Ä c',Ĳ] at q2;exact⟨_,_,rfl,rfl,q2⟩
       ·have c':¬ (-99:Int)<=i:=λ z=>c (Ä z);rw [Å c',ĺ] at q2;exact q2
      | _=>exact cJ qq
  ·have e1:(!decide (V.int (xs.length:Nat)=V.int 2))=true:=by
    rw [Å]
    ·rfl
    ·intro h;injection h with h
     omega
   rw [e1];refine cK ?_;have z:eX (.tuple ds)=false:=by
    match ds,len,l2 with
    | [],_,_=>rfl
    | [_],_,_=>rfl
    | [_,_],l,n=>exact absurd l n
    | _::_::_::_,_,_=>rfl
   rw [z] at q;exact q
end
def DI (p:Addr)(G:Hp)(σ:St)(te:TE)(d:PyData):Prop:=∀ H,į H p->Ext G (wo H p)->∀ Q:VK,(∀ v H',Ext H H'->õ (wo H' p) v d->Q v H')->te σ H Q
def Je (p:Addr)(G:Hp)(σ:St)(ts:TA)(ds:List PyData):Prop:=∀ H,į H p->Ext G (wo H p)->∀ Q:List V->Hp->Prop,(∀ vs H',Ext H H'->à (wo H' p) vs ds->Q vs H')->ts σ H Q
section
variable {p:Addr}{G:Hp}{σ:St}{te:TE}{ts:TA}{d:PyData}{ds:List PyData}
theorem DI.int {i:Int}:DI p G σ (tC (.int i)) (.int i):=λ H _ _ _ q=>q _ H (Ext.refl _) (.int i)
theorem DI.neg {i:Int}:DI p G σ (Fh (rU λ i=>.int (-i)) (tC (.int i))) (.int (-i)):=λ H _ _ _ q=>⟨i,rfl,q _ H (Ext.refl _) (.int _)⟩
theorem DI.str {z:Str}:DI p G σ (tC (.str z)) (.str z):=λ H _ _ _ q=>q _ H (Ext.refl _) (.str z)
theorem DI.bl {b:Bool}:DI p G σ (tC (.bl b)) (.bool b):=λ H _ _ _ q=>q _ H (Ext.refl _) (.bl b)
theorem DI.ô:DI p G σ (tC .ô) .none:=λ H _ _ _ q=>q _ H (Ext.refl _) .ô
theorem DI.v {i:Nat}{v:V}(h:σ[i]?=some (some v))(r:õ G v d):DI p G σ (aq i) d:=λ H _ x _ q=>⟨_,h,q _ H (Ext.refl _) (r.mono x)⟩
theorem DI.LB:DI p G σ nF (.dict []):=λ H b _ _ q t ht=>q _ _ (Ext.new ht) (.B_ (cj (b.ne ht) aQ))
theorem Je.nil:Je p G σ aP []:=λ H _ _ _ q=>q _ H (Ext.refl _) .nil
theorem Je.cons (h:DI p G σ te d)(k:Je p G σ ts ds):Je p G σ (aw te ts) (d::ds):=λ H b x Q q=>h H b x _ λ v H1 x1 r=>k H1 (b.ext x1) (x.trans (jI x1 p)) _ λ vs H2 x2 rs=>q _ H2 (x1.trans x2) (.cons (r.mono (jI x2 p)) rs)
theorem Je.tup (k:Je p G σ ts ds)(l:ds.length<=1000):DI p G σ (fh ts) (.tuple ds):=λ H b x Q q=>k H b x _ λ vs H1 x1 rs=>⟨by rw [rs.length,Ø];omega,λ t ht=>q _ _ (x1.trans (Ext.new ht)) (.tup (cj ((b.ext x1).ne ht) aQ) (rs.mono (jI (Ext.new ht) p)))⟩
theorem Je.lst (k:Je p G σ ts ds)(l:ds.length<=1000):DI p G σ (bE ts) (.list ds):=λ H b x Q q=>k H b x _ λ vs H1 x1 rs=>⟨by rw [rs.length,Ø];omega,λ t ht=>q _ _ (x1.trans (Ext.new ht)) (.lst (cj ((b.ext x1).ne ht) aQ) (rs.mono (jI (Ext.new ht) p)))⟩
end
structure J5 (d:PyData):Prop where
 fi:Fi 4 20000 d
 ln:∀ ds,d=.list ds->ds.length<=20
theorem J5.show {d:PyData}(t:J5 d):fz d:=t.fi.show ag ag
abbrev F1 (d:PyData):Prop:=Fi 2 500 d
theorem J5.list {ds:List PyData}(h:∀ d∈ds,F1 d)(l:ds.length<=20):J5 (.list ds):=⟨(j3 h l).mono ag ag,λ _ e=>by cases e;exact l⟩
theorem xQ {o:Int × Bool}(h:-99<=o.1/\o.1<=99):F1 (nV o):=(jc (k:=0) (n:=2) (m:=2) (ds:=[.int o.1,.bool o.2]) (λ d hd=>by
 rcases ß.mp hd with rfl | hd
 ·exact l6 ae ae
 ·rw [Ð.mp hd];exact Ky) (Ç _)).mono ag ag
theorem pi {G:Hp}{D:List PyData}:∀{ys:List V},(∀ v∈ys,∃ d∈D,õ G v d)->∃ ds,à G ys ds/\∀ d∈ds,d∈D
 | [],_=>⟨[],.nil,λ _ h=>nomatch h⟩
 | v::ys,h=>by
  obtain⟨d,hd,r⟩:=h v (ø ..);obtain⟨ds,rs,k⟩:=pi (ys:=ys) λ u hu=>h u (ä _ hu);exact⟨d::ds,.cons r rs,λ x hx=>(ß.mp hx).elim (λ e=>e ▸ hd) (k x)⟩
theorem wM {G:Hp}{xs:List V}{ds:List PyData}(r:à G xs ds)(lo hi:Option Int):∃ es,à G (qK xs lo hi) es/\(∀ d∈es,d∈ds)/\es.length<=ds.length:=by
 obtain⟨es,rs,k⟩:=pi (G:=G) (D:=ds) (ys:=qK xs lo hi) λ v hv=>by
  obtain⟨i,hi,e⟩:=Ĭ (List.mem_of_mem_drop (List.mem_of_mem_take hv));obtain⟨d,ed,rd⟩:=r.get (Á hi);exact⟨d,ê ed,by rw [<- e];exact rd⟩
 refine⟨es,rs,k,?_⟩;rw [<- rs.length,<- r.length];exact hZ ..
abbrev tI (i:Int):TE:=tC (.int i)
abbrev Jf (b:Bool):TE:=tC (.bl b)
def Λ (a b:TE):TE:=fh (aw a (aw b aP))
def Hw (i:Int):TE:=Fh (rU λ i=>.int (-i)) (tC (.int i))
def sH:TE:=bE (aw (tC .ô) (aw (tI 7) (aw (fh (aw (tI 1) aP)) (aw (Λ (tI 1) (tI 1)) (aw (Λ (tI 100) (Jf true)) (aw (Λ (Hw 100) (Jf false)) (aw (Λ (Jf true) (Jf true)) (aw (bE (aw (tI 1) (aw (Jf true) aP))) (aw (Λ (tC (.str "1")) (Jf true)) aP)))))))))
def rR:TE:=bE (aw (oA (tI 1) (Jf true) (tI 0)) (aw (Λ (tI 1) (tC .ô)) aP))
def BE:List PyData:=[.none,.int 7,.tuple [.int 1],.tuple [.int 1,.int 1],.tuple [.int 100,.bool true],.tuple [.int (-100),.bool false],.tuple [.bool true,.bool true],.list [.int 1,.bool true],.tuple [.str "1",.bool true]]
def yX:List PyData:=[.tuple [.int 1,.bool true,.int 0],.tuple [.int 1,.none]]
theorem DI.t2 {p:Addr}{G:Hp}{σ:St}{a b:TE}{d e:PyData}(h:DI p G σ a d)(k:DI p G σ b e):DI p G σ (Λ a b) (.tuple [d,e]):=Je.tup (.cons h (.cons k .nil)) (by show 2<=1000;decide)
theorem Bs {p:Addr}{G:Hp}{σ:St}:DI p G σ sH (.list BE):=Je.lst (.cons .ô (.cons .int (.cons (Je.tup (.cons .int .nil) ag) (.cons (.t2 .int .int) (.cons (.t2 .int .bl) (.cons (.t2 .neg .bl) (.cons (.t2 .bl .bl) (.cons (Je.lst (.cons .int (.cons .bl .nil)) ag) (.cons (.t2 .str .bl) .nil))))))))) ag
theorem ye {p:Addr}{G:Hp}{σ:St}:DI p G σ rR (.list yX):=Je.lst (.cons (Je.tup (.cons .int (.cons .bl (.cons .int .nil))) ag) (.cons (.t2 .int .ô) .nil)) ag
theorem MW:Fi 0 60 (.str "1"):=⟨rfl,by simp [PyData.depth],aA,aA⟩
theorem zw:Fi 0 60 (.str "7 8"):=⟨rfl,by simp [PyData.depth],aA,aA⟩
theorem cE {ds:List PyData}(h:∀ d∈ds,Fi 0 60 d)(l:ds.length<=3):F1 (.tuple ds)/\F1 (.list ds):=⟨(jc h l).mono ag ag,(j3 h l).mono ag ag⟩
theorem bZ {i:Int}(h1:-1000<=i)(h2:i<=1000):Fi 0 60 (.int i):=(l6 ae ae).mono ag ag
theorem ŵ {b:Bool}:Fi 0 60 (.bool b):=Ky.mono ag ag
theorem Jc:Fi 0 60 .none:=Ml.mono ag ag
theorem bc {a:PyData}{ds:List PyData}(h:Fi 0 60 a)(k:∀ d∈ds,Fi 0 60 d):∀ d∈a::ds,Fi 0 60 d:=λ d hd=>(ß.mp hd).elim (λ e=>e ▸ h) (k d)
theorem dF:∀ d∈([]:List PyData),Fi 0 60 d:=λ _ h=>nomatch h
theorem pQ {d:PyData}(h:Fi 0 60 d):F1 d:=h.mono ag ag
theorem xi:∀ d∈BE++yX,F1 d:=by
 intro d hd;simp only [BE,yX,List.cons_append,List.nil_append,List.mem_cons,List.not_mem_nil,or_false] at hd;rcases hd with rfl | rfl | rfl | rfl | rfl | rfl | rfl | rfl | rfl | rfl | rfl
 ·exact pQ Jc
 ·exact pQ (bZ ag ag)
 ·exact(cE (bc (bZ ag ag) dF) ag).1
 ·exact(cE (bc (bZ ag ag) (bc (bZ ag ag) dF)) ag).1
 ·exact(cE (bc (bZ ag ag) (bc ŵ dF)) ag).1
 ·exact(cE (bc (bZ ag ag) (bc ŵ dF)) ag).1
 ·exact(cE (bc ŵ (bc ŵ dF)) ag).1
 ·exact(cE (bc (bZ ag ag) (bc ŵ dF)) ag).2
 ·exact(cE (bc MW (bc ŵ dF)) ag).1
 ·exact(cE (bc (bZ ag ag) (bc ŵ (bc (bZ ag ag) dF))) ag).1
 ·exact(cE (bc (bZ ag ag) (bc Jc dF)) ag).1
section
variable {P:Program}{w:World}{K:Frag}{mg:aX}{base:Heap}{f a1:Addr}{fd d1:FuncData}
abbrev Ak:Stmt:=bw 95
abbrev HZ:List Str:=["_law_box_here","_law_outcomes_here","_law_at","_law_odd","_law_way"]
theorem f_:ad HZ ["_law_box_here","_law_outcomes_here"] (aa Ak):=aF
def yE:Sp:=λ vs H Q _=>∃(p:Addr)(ov:V)(os:List (Int × Bool)),vs=[.ref p,ov]/\į H p/\õ (wo H p) ov (.list (os.map nV))/\pY os/\1<=os.length/\os.length<=6/\∀ v d H',PF p H H'->õ (wo H' p) v d->J5 d->Q v H'
def qO (i:Int)(t:TS):TS:=cp (tB (aT qQ (aq 4) (tC (.int i)))) t bB
def CP (K:Frag):List V->Hp->VK->Prop:=λ xs H Q=>∃ p ys,xs=[.ref p]/\((ÿ K H p ys/\∀ l,H l=none->Q (.ref l) (aj H l (.tup ys)))\/(č K H p ys/\Q (.ref p) H))
def FM (K:Frag):TE:=bE (aw (tC .ô) (aw (nu (CP K) (aw (aq 1) aP)) (aw nF (aw (tC (.str "7 8")) (aw (tI 5) (aw (Jf true) aP))))))
def Ff (K:Frag):TE:=Fj (uQ K) (aq 1) kj (pD (aq 2))
def Fu (K:Frag):TE:=Fj (uQ K) (aq 1) (pD (uE (aq 2) (tI 1))) kj
def sK (K:Frag)(te:TE):TE:=aT eC (aT eC (Ff K) (bE (aw te aP))) (Fu K)
def IM (K:Frag):TS:=az (cM (fo 0 (mf 1 K)) (be 2)) (az (cM sH (be 3)) (az (cM (aT eC (aq 3) rR) (be 3)) (az (cM (fo 0 (tI 6)) (be 4))
 (az (qO 0 (aV (aT (cX K) (FM K) (fo 0 (tI 6))))) (az (qO 1 (aV (aT eC (Ff K) (Fu K)))) (az (qO 2 (aV (aT eC (aq 1) (bE (aw (Λ (tI 1) (Jf true)) aP))))) (az (qO 3 (aV (sK K (Λ (aT (oq K) (aT (cX K) (aq 1) (aq 2)) (tI 0)) (Jf false))))) (az (qO 4 (aV (sK K (aT (cX K) (aq 3) (fo 0 (tI 11)))))) (aV (aq 1))))))))))
section
variable {cdv:Value}{A:Around}{outer:List Env}{s:Shared}{H:Hp}{E:XK}
theorem wX {X:Cx}{a b:Expr}{ta tb:TE} {x1}{pos:Pos}(ha:Bx (PE X a ta))(hb:Bx (PE X b tb))(h1:starEach [a,b] X.env=(false,eval a X.env)::starEach [b] X.env:=by rfl)(h2:starEach [b] X.env=(false,eval b X.env)::starEach [] X.env:=by rfl):Bx (PE X (.Tuple [a,b] x1 pos) (Λ ta tb)):=j9 (cU ha (cU hb aY h2) h1)
abbrev gH (P:Program)(w:World)(K:Frag)(mg:aX)(base:Heap)(f:Addr)(cdv:Value)(A:Around)(outer:List Env)(s:Shared)(H:Hp)(E:XK):Cx:=(cq ay P w K mg base HZ "_law_spoilt" (aa Ak) f cdv A outer s H E).υ
abbrev ii (i:Nat):Stmt:=(aI Ak).getD i (.Pass ⟨0,0,0,0⟩)
section
variable (A1:Df P w K mg base ay 1 "_law_take" ["_law_box_here","_law_many"] c5 a1 d1) (ml:mg "len" = none) (mt:mg "tuple" = none) (hr:t3 1 "_law_spoilt" Ak A s f cdv)
include A1 ml mt hr
theorem GE:Bx (PS (gH P w K mg base f cdv A outer s H E) (ii 0) (cM (fo 0 (mf 1 K)) (be 2))):=by
 have nd:=f_.nd;exact⟨dq (i:=2) nd rfl (Or.inl rfl) (br A1 hr ai (ac (pv 0) (ac (am aH rfl ml ò (ac (pv 1) ao)) ao)))⟩
omit A1 ml mt hr in
theorem BX (st:Stmt)(te:TE)(e:Expr)(p p2:Pos)(hx:st=.Assign [.Name "_law_odd" p] e p2) (hs:∀ x l X,swapsWith e x l X=pure false) (h:Bx (PE (gH P w K mg base f cdv A outer s H E) e te)):Bx (PS (gH P w K mg base f cdv A outer s H E) st (cM te (be 3))):=by
 have nd:=f_.nd;subst hx;exact⟨dq (i:=3) nd rfl (Or.inl rfl) h.h (hs ..)⟩
abbrev IG:Stmt->Expr
 | .Assign _ e _=>e
 | _=>.Constant .none 0 ⟨0,0,0,0⟩
def Ge:Expr:=IG (ii 1)
omit A1 ml mt hr in
theorem Cv:ii 1=.Assign [.Name "_law_odd" ⟨478,4,478,12⟩] Ge ⟨478,4,478,104⟩:=rfl
omit A1 ml mt hr in
theorem Ei:∀ x l X,swapsWith Ge x l X=pure false:=λ _ _ _=>rfl
omit A1 ml mt hr in
theorem E7:Bx (PE (gH P w K mg base f cdv A outer s H E) Ge sH) :=
 cC (cU ⟨gQ⟩ (cU ⟨au⟩ (cU ⟨aE (ac au ao)⟩ (cU (wX ⟨au⟩ ⟨au⟩) (cU (wX ⟨au⟩ ⟨l9⟩) (cU (wX ⟨jx gR au⟩ ⟨l9⟩) (cU (wX ⟨l9⟩ ⟨l9⟩) (cU ⟨bJ (ac au (ac l9 ao))⟩ (cU (wX ⟨cL⟩ ⟨l9⟩) aY)))))))))
omit A1 ml mt hr in
theorem GY:Bx (PS (gH P w K mg base f cdv A outer s H E) (ii 1) (cM sH (be 3))):=BX _ _ _ _ _ Cv Ei E7
theorem FZ:Bx (PS (gH P w K mg base f cdv A outer s H E) (ii 2) (cM (aT eC (aq 3) rR) (be 3))):=by
 have nd:=f_.nd;exact⟨dq (i:=3) nd rfl (Or.inl rfl) (af dI (pv 3) (Bx.h (cC (cU (uG ⟨au⟩ ⟨l9⟩ ⟨au⟩) (cU (wX ⟨au⟩ ⟨gQ⟩) aY)))))⟩
theorem GU:Bx (PS (gH P w K mg base f cdv A outer s H E) (ii 3) (cM (fo 0 (tI 6)) (be 4))):=by
 have nd:=f_.nd;exact⟨dq (i:=4) nd rfl (Or.inl rfl) (br A1 hr ai (ac (pv 0) (ac au ao)))⟩
theorem Hl:Bx (PS (gH P w K mg base f cdv A outer s H E) (ii 4) (qO 0 (aV (aT (cX K) (FM K) (fo 0 (tI 6)))))):=by
 have nd:=f_.nd;exact⟨aG (ar bu (pv 4) au (av _)) (aK (bh (bC iQ (Bx.h (cC (cU ⟨gQ⟩ (cU ⟨bq dY rfl mt Ĉ (ac (pv 1) ao)⟩ (cU ⟨rF⟩ (cU ⟨cL⟩ (cU ⟨au⟩ (cU ⟨l9⟩ aY)))))))) (br A1 hr ai (ac (pv 0) (ac au ao)))))) dm⟩
theorem FT:Bx (PS (gH P w K mg base f cdv A outer s H E) (ii 5) (qO 1 (aV (aT eC (Ff K) (Fu K))))):=by
 have nd:=f_.nd;exact⟨aG (ar bu (pv 4) au (av _)) (aK (bh (af dI (eG fO (pv 1) fM (fP (pv 2))) (eG fO (pv 1) (fP (af aM (pv 2) au)) fM)))) dm⟩
theorem F7:Bx (PS (gH P w K mg base f cdv A outer s H E) (ii 6) (qO 2 (aV (aT eC (aq 1) (bE (aw (Λ (tI 1) (Jf true)) aP)))))):=by
 have nd:=f_.nd;exact⟨aG (ar bu (pv 4) au (av _)) (aK (bh (af dI (pv 1) (Bx.h (cC (cU (wX ⟨au⟩ ⟨l9⟩) aY)))))) dm⟩
theorem G5:Bx (PS (gH P w K mg base f cdv A outer s H E) (ii 7) (qO 3 (aV (sK K (Λ (aT (oq K) (aT (cX K) (aq 1) (aq 2)) (tI 0)) (Jf false)))))):=by
 have nd:=f_.nd;exact⟨aG (ar bu (pv 4) au (av _)) (aK (bh (af dI (af dI (eG fO (pv 1) fM (fP (pv 2))) (Bx.h (cC (cU (wX ⟨bC cZ (bC iQ (pv 1) (pv 2)) au⟩ ⟨l9⟩) aY)))) (eG fO (pv 1) (fP (af aM (pv 2) au)) fM)))) dm⟩
theorem Gz:Bx (PS (gH P w K mg base f cdv A outer s H E) (ii 8) (qO 4 (aV (sK K (aT (cX K) (aq 3) (fo 0 (tI 11))))))):=by
 have nd:=f_.nd;exact⟨aG (ar bu (pv 4) au (av _)) (aK (bh (af dI (af dI (eG fO (pv 1) fM (fP (pv 2))) (Bx.h (cC (cU ⟨bC iQ (pv 3) (br A1 hr ai (ac (pv 0) (ac au ao)))⟩ aY)))) (eG fO (pv 1) (fP (af aM (pv 2) au)) fM)))) dm⟩
theorem Gf:Bx (PS (gH P w K mg base f cdv A outer s H E) (ii 9) (aV (aq 1))):=by
 have nd:=f_.nd;exact⟨bh (pv 1)⟩
theorem zu:Bx (Ũ (gH P w K mg base f cdv A outer s H E) (aI Ak) (IM K)) :=
 eM (GE A1 ml mt hr) (eM GY (eM (FZ A1 ml mt hr) (eM (GU A1 ml mt hr) (eM (Hl A1 ml mt hr) (eM (FT A1 ml mt hr) (eM (F7 A1 ml mt hr) (eM (G5 A1 ml mt hr) (eM (Gz A1 ml mt hr) (cv (Gf A1 ml mt hr))))))))))
end
end
def SG (n:Nat)(ds:List PyData):Prop:=(∀ d∈ds,F1 d)/\ds.length<=n
def LM (p:Addr)(σ:St)(te:TE)(H:Hp)(S:List PyData->Prop):Prop:=∀ Q:VK,(∀ l ds H',PF p H H'->õ (wo H' p) (.ref l) (.list ds)->S ds->Q (.ref l) H')->te σ H Q
def EM (p:Addr)(σ:St)(te:TE)(H:Hp)(S:PyData->Prop):Prop:=∀ Q:VK,(∀ v d H',PF p H H'->õ (wo H' p) v d->S d->Q v H')->te σ H Q
section
variable {K:Frag}{p:Addr}{σ:St}{H:Hp}{a b te:TE}
theorem jg {H:Hp}{l:Addr}{ds:List PyData}(r:õ (wo H p) (.ref l) (.list ds)):∃ xs,l≠p/\H l=some (.lst xs)/\à (wo H p) xs ds:=by
 obtain⟨l',xs,e,h,rs⟩:=eV r;cases e;exact⟨xs,pJ h,aU _ _ _ _ h,rs⟩
theorem PF.lst {H:Hp}{l:Addr}{xs:List V}{ds:List PyData}(bx:į H p)(hl:H l=Option.none)(rs:à (wo H p) xs ds):PF p H (aj H l (.lst xs))/\õ (wo (aj H l (.lst xs)) p) (.ref l) (.list ds) :=
 have x:=PF.of bx (Ext.new (o:=.lst xs) hl)
 ⟨x,.lst (cj (bx.ne hl) aQ) (rs.mono x.o)⟩
theorem EM.di {d:PyData}{S:PyData->Prop}(bx:į H p)(h:DI p (wo H p) σ te d)(s:S d):EM p σ te H S:=λ Q q=>h H bx (Ext.refl _) Q λ v H' x r=>q v d H' (PF.of bx x) r s
theorem LM.v {S:List PyData->Prop}{i:Nat}{l:Addr}{ds:List PyData}(h:σ[i]?=some (some (.ref l)))(bx:į H p)(r:õ (wo H p) (.ref l) (.list ds))(s:S ds):LM p σ (aq i) H S:=λ _ q=>⟨_,h,q l ds H (PF.refl bx) r s⟩
theorem LM.em {n:Nat}(n6:n<=20)(h:LM p σ te H (SG n)):EM p σ te H J5:=λ Q q=>h Q λ l ds H' pf r s=>q _ _ H' pf r (J5.list s.1 (Ô s.2 n6))
theorem LM.NI {S T U:List PyData->Prop}(h:LM p σ a H S)(k:∀ H',PF p H H'->LM p σ b H' T)(hs:∀ ds,S ds->ds.length<=50)(ht:∀ ds,T ds->ds.length<=50)(hu:∀ ds es,S ds->T es->U (ds++es)):LM p σ (aT eC a b) H U:=λ Q q=>by
 refine jW (h _ λ l ds H1 p1 r1 s1=>k H1 p1 _ λ u es H2 p2 r2 s2=>?_);obtain⟨xs,n1,g1,P5⟩:=jg (r1.mono p2.o);obtain⟨zs,n2,g2,SO⟩:=jg r2;refine⟨l,u,xs,zs,rfl,rfl,g1,g2,?_,λ c hc=>?_⟩
 ·rw [P5.length,SO.length,Ø];have:=hs _ s1;have:=ht _ s2;omega
 ·obtain⟨p3,r3⟩:=PF.lst p2.b hc (P5.append SO);exact q c _ _ ((p1.trans p2).trans p3) r3 (hu _ _ s1 s2)
theorem LM.cat {n m:Nat}(h:LM p σ a H (SG n))(k:∀ H',PF p H H'->LM p σ b H' (SG m))(nm:n<=50/\m<=50):LM p σ (aT eC a b) H (SG (n+m)) :=
 LM.NI h k (λ _ s=>Ô s.2 nm.1) (λ _ s=>Ô s.2 nm.2) λ ds es s1 s2=>⟨λ d hd=>(Ă.mp hd).elim (s1.1 d) (s2.1 d),by
  rw [Ý];exact Nat.add_le_add s1.2 s2.2⟩
theorem LM.sl {n i:Nat}{l:Addr}{ds:List PyData}{tl th:TO}{lo hi:Option Int}(h:σ[i]?=some (some (.ref l)))(bx:į H p)(r:õ (wo H p) (.ref l) (.list ds))(s:SG n ds)(h1:∀ R:Option Int->Hp->Prop,R lo H->tl σ H R)(h2:∀ R:Option Int->Hp->Prop,R hi H->th σ H R):LM p σ (Fj (uQ K) (aq i) tl th) H (SG n):=λ Q q=>by
 obtain⟨xs,n1,g1,P5⟩:=jg r;obtain⟨es,rs,mem,len⟩:=wM P5 lo hi;refine⟨_,h,h1 _ (h2 _ ⟨l,xs,rfl,ÿ.of g1,λ c hc=>?_⟩)⟩;obtain⟨p3,r3⟩:=PF.lst bx hc rs;exact q c _ _ p3 r3 ⟨λ d hd=>s.1 d (mem d hd),Ô len s.2⟩
theorem LM.one (h:EM p σ te H F1):LM p σ (bE (aw te aP)) H (SG 1):=λ Q q=>h _ λ v d H1 p1 r s=>⟨dy,λ c hc=>by
 obtain⟨p2,r2⟩:=PF.lst p1.b hc (.cons r .nil);exact q c _ _ (p1.trans p2) r2 ⟨λ d' hd=>by rw [Ð.mp hd];exact s,Ç 1⟩⟩
theorem EM.pick {S:PyData->Prop}{ds:List PyData}{n:Nat}(s0:σ[0]?=some (some (.ref p)))(h:LM p σ te H (· = ds))(ln:ds.length=n)(n0:0<n)(n1:n<100)(all:∀ d∈ds,S d):EM p σ (aT (cX K) te (fo 0 (tI (n:Nat)))) H S:=λ Q q=>by
 refine jW (h _ λ l _ H1 p1 r1 e=>?_);subst e;refine c8 s0 p1.b (λ R r=>r) ae ae λ r H2 r0 rn p2=>?_;obtain⟨xs,n2,g2,rs⟩:=jg (r1.mono p2.o);obtain⟨r,rfl⟩:∃ m:Nat,r=(m:Int):=⟨r.toNat,ae⟩;have lt:r<xs.length:=by rw [rs.length];omega
 obtain⟨d,ed,rd⟩:=rs.get (Á lt);exact⟨l,_,r,_,rfl,rfl,ÿ.of g2,fm (Á lt),q _ d H2 (p1.trans p2) rd (all d (ê ed))⟩
theorem mI {De:bT}{i r:Int}{u:TS}(s4:σ[4]?=some (some (.int r)))(y:te σ H De.rt)(n:u De σ H):az (qO i (aV te)) u De σ H:=by
 refine⟨_,s4,rfl,_,rfl,?_⟩;show if decide (V.int r=V.int i)=true then _ else _
 cases decide (V.int r=V.int i) with
 | true=>exact cK y
 | false=>exact cJ n
end
theorem Cp {f a1:Addr}{fd d1:FuncData}(F:ė K "_law_spoilt" "_law_spoilt" Ak f fd) (A1:Df P w K mg base ay 1 "_law_take" ["_law_box_here","_law_many"] c5 a1 d1) (ml:mg "len" = none) (mt:mg "tuple" = none):Ò P w K mg base ay 2 f fd ["_law_box_here","_law_outcomes_here"] yE:=by
 refine bR F f_ λ cdv A outer s H vs Q E hr h=>?_;obtain⟨p,ov,os,rfl,bx,ro,ok,o1,o6,q⟩:=h;refine gZ (zu A1 ml mt hr) ⟨?_⟩;obtain⟨l,_,rfl,_,_⟩:=eV ro;have sg:SG 6 (os.map nV):=⟨λ d hd=>by obtain⟨o,ho,rfl⟩:=ā.mp hd;exact xQ (ok o ho),by rw [Æ];exact o6⟩
 obtain⟨xs,nl,gl,rl⟩:=jg ro;have lx:xs.length=os.length:=by rw [rl.length,Æ]
 refine cI (te:=fo 0 (mf 1 K)) (i:=2) (D:=⟨_,Q,_,_⟩) (c8 (m:=(xs.length:Nat)) rfl bx (λ R r=>⟨_,rfl,l,xs,rfl,.inl (ÿ.of gl),r⟩) ae ae λ x H1 x0 x1 p1=>?_);refine cI (te:=sH) (i:=3) (D:=⟨_,Q,_,_⟩) (Bs H1 p1.b (Ext.refl _) _ λ v2 H2 x2 r2=>?_);obtain⟨l2,_,rfl,_,_⟩:=eV r2;have p2:=PF.of p1.b x2;have Z0:SG 11 (BE++yX):=⟨xi,ag⟩;have Rb:∀ H',PF p H2 H'->LM p ([some (.ref p),some (.ref l),some (.int x),some (.ref l2),none]:St) rR H' (· = yX):=λ H' pf Q q=>ye H' pf.b (Ext.refl _) _ λ v3 H3 x3 r3=>by
  obtain⟨l3,_,rfl,_,_⟩:=eV r3;exact q l3 _ H3 (PF.of pf.b x3) r3 rfl
 refine cI (te:=aT eC (aq 3) rR) (i:=3) (D:=⟨_,Q,_,_⟩) (LM.NI (S:=(· = BE)) (T:=(· = yX)) (U:=(· = BE++yX)) (LM.v rfl p2.b r2 rfl) Rb (λ _ e=>by rw [e];decide) (λ _ e=>by rw [e];decide) (λ _ _ e e2=>by rw [e,e2]) _ λ l3 YX H3 p3 r3 e3=>?_)
 subst e3;refine cI (te:=fo 0 (tI 6)) (i:=4) (D:=⟨_,Q,_,_⟩) (c8 rfl p3.b (λ R r=>r) ag ag λ y H4 y0 y6 p4=>?_);have pf:=((p1.trans p2).trans p3).trans p4;have b4:=p4.b;have Ww:=r3.mono p4.o;have P6:=ro.mono pf.o;have Tr:=pf.k _ _ gl nl;show az (qO 0 _) _ _ [some (.ref p),some (.ref l),some (.int x),some (.ref l3),some (.int y)] H4;have hx:∀ R:Option Int->Hp->Prop,R (some x) H4->pD (aq 2) [some (.ref p),some (.ref l),some (.int x),some (.ref l3),some (.int y)] H4 R:=λ R r=>⟨_,rfl,x,rfl,r⟩;have fin:∀ te,EM p [some (.ref p),some (.ref l),some (.int x),some (.ref l3),some (.int y)] te H4 J5->te [some (.ref p),some (.ref l),some (.int x),some (.ref l3),some (.int y)] H4 Q:=λ te h=>h Q λ v d H5 p5 r5 t5=>q v d H5 (pf.trans p5) r5 t5;have hd:LM p [some (.ref p),some (.ref l),some (.int x),some (.ref l3),some (.int y)] (Ff K) H4 (SG 6):=LM.sl (lo:=none) (hi:=some x) rfl b4 P6 sg (λ R r=>r) hx;have tl:∀ H5,PF p H4 H5->LM p [some (.ref p),some (.ref l),some (.int x),some (.ref l3),some (.int y)] (Fu K) H5 (SG 6):=λ H5 p5=>LM.sl (lo:=some (x+1)) (hi:=none) rfl p5.b (P6.mono p5.o) sg (λ R r=>⟨_,rfl,_,_,rfl,rfl,_,rfl,r⟩) (λ R r=>r);have mid:∀ te,(∀ H5,PF p H4 H5->EM p [some (.ref p),some (.ref l),some (.int x),some (.ref l3),some (.int y)] te H5 F1)->EM p [some (.ref p),some (.ref l),some (.int x),some (.ref l3),some (.int y)] (sK K te) H4 J5:=λ te h=>LM.em (n:=6+1+6) ag (LM.cat (LM.cat hd (λ H5 p5=>LM.one (h H5 p5)) ag) tl ag);refine mI rfl (fin _ ?_) (mI rfl (fin _ (LM.em (n:=6+6) ag (LM.cat hd tl ag))) (mI rfl (fin _ (LM.em (n:=6+1) ag (LM.cat (LM.v rfl b4 P6 sg) (λ H5 p5=>LM.one (EM.di p5.b (.t2 .int .bl) ?_)) ag))) (mI rfl (fin _ (mid _ λ H5 p5=>?_)) (mI rfl (fin _ (mid _ λ H5 p5=>EM.pick (n:=11) rfl (LM.v rfl p5.b (Ww.mono p5.o) rfl) rfl ag ag xi)) (fin _ (LM.em (n:=6) ag (LM.v rfl b4 P6 sg)))))))
 ·have dk:DI p (wo H4 p) [some (.ref p),some (.ref l),some (.int x),some (.ref l3),some (.int y)] (FM K) (.list [.none,.tuple (os.map nV),.dict [],.str "7 8",.int 5,.bool true]):=Je.lst (.cons .ô (.cons (λ G bg xg R r=>⟨_,rfl,l,xs,rfl,.inl ⟨ÿ.of (aU _ _ _ _ (xg _ _ (cj nl Tr))),λ t ht=>r _ _ (Ext.new ht) (.tup (cj (bg.ne ht) aQ) ((rl.mono pf.o).mono (xg.trans (jI (Ext.new ht) p))))⟩⟩) (.cons .LB (.cons .str (.cons .int (.cons .bl .nil)))))) (by show 6<=1000;decide)
  refine EM.pick (n:=6) (ds:=[.none,.tuple (os.map nV),.dict [],.str "7 8",.int 5,.bool true]) rfl (λ R r=>dk H4 b4 (Ext.refl _) _ λ v H5 x5 r5=>?_) rfl ag ag ?_
  ·obtain⟨l5,_,rfl,_,_⟩:=eV r5;exact r l5 _ H5 (PF.of b4 x5) r5 rfl
  ·intro d hd;simp only [List.mem_cons,List.not_mem_nil,or_false] at hd;have v_:∀{d:PyData},F1 d->(∀ ds,d ≠ .list ds)->J5 d:=λ h n=>⟨h.mono ag ag,λ ds e=>absurd e (n ds)⟩;rcases hd with rfl | rfl | rfl | rfl | rfl | rfl
   ·exact v_ (pQ Jc) (λ _=>nofun)
   ·exact⟨(jc sg.1 sg.2).mono ag ag,nofun⟩
   ·exact v_ (d:=.dict []) ⟨rfl,aA,aA,aA⟩ (λ _=>nofun)
   ·exact v_ (pQ zw) (λ _=>nofun)
   ·exact v_ (pQ (bZ ag ag)) (λ _=>nofun)
   ·exact v_ (pQ ŵ) (λ _=>nofun)
 ·exact(cE (bc (bZ ag ag) (bc ŵ dF)) ag).1
 ·obtain⟨x,rfl⟩:∃ m:Nat,x=(m:Int):=⟨x.toNat,ae⟩;have lt:x<xs.length:=ae;obtain⟨d,ed,rd⟩:=rl.get (Á lt);obtain⟨o,ho,rfl⟩:∃ o,o∈os/\nV o=d:=ā.mp (ê ed);obtain⟨c,ys,ec,hc,rs⟩:=cG rd;cases rs with
  | cons r1 rs =>
   cases r1;refine EM.di p5.b (d:=.tuple [.int o.1,.bool false]) (.t2 (λ G bg xg R r=>?_) .bl) ?_
   ·have xx:=(pf.o.trans p5.o).trans xg;exact⟨_,rfl,_,rfl,l,xs,x,_,rfl,rfl,ÿ.of (aU _ _ _ _ ((p5.o.trans xg) _ _ (cj nl Tr))),fm (Á lt),c,_,0,_,ec,rfl,č.of (aU _ _ _ _ (xx _ _ hc)),fm (j:=0) rfl,r _ _ (Ext.refl _) (.int _)⟩
   ·have k:=ok o ho;exact(cE (bc (bZ ae ae) (bc ŵ dF)) (by show 2<=3;decide)).1
end
theorem i5 {r:R0}(sm:r.small)(i:Int):c7 (.one r) (.int i)=decide (∃ n∈r.keys,i=((n:Nat):Int)):=by
 obtain⟨_,_,_,lt,dec⟩:=sm.Kz;have f6:=sm.fk;have p6:2^r.ë.toNat<=2^6:=ã ag ae;have e:c7 (.one r) (.int i)=((decide ((0:Int)<=i)&&decide (i<=2^r.ë.toNat-1))&&decide (((Rl.one r).share i).1≠0)):=rfl;rw [e];by_cases b:0<=i/\i<=2^r.ë.toNat-1
 ·obtain⟨j,rfl⟩:∃ j:Nat,i=(j:Int):=⟨i.toNat,ae⟩;have b2:=b.2;have jl:j<2^r.ë.toNat:=by
   have:((2^r.ë.toNat:Nat):Int)=2^r.ë.toNat:=by push_cast;rfl
   omega
  have d:=dec ⟨j,ae⟩ jl;have sh:=ll sm.ok (j:Int);rw [Ä b.1,Ä b.2,Ĳ,Ĳ];have k:(∃ n∈r.keys,(j:Int)=((n:Nat):Int)) ↔ j∈r.keys:=⟨λ ⟨n,hn,z⟩=>by rw [show j=n by omega];exact hn,λ h=>⟨j,h,rfl⟩⟩
  have k2:decide (∃ n∈r.keys,(j:Int)=((n:Nat):Int))=decide (j∈r.keys):=Ζ.mpr k;rw [k2];refine Eq.trans ?_ d.symm;cases g:ur r (j:Int) with
  | true =>
   rw [g,Ï rfl] at sh;exact Ä sh
  | false =>
   rw [g,Ì Ê] at sh;rw [sh];rfl
 ·have:(decide ((0:Int)<=i)&&decide (i<=2^r.ë.toNat-1))=false:=by
   rw [Bool.and_eq_false_iff,Ε,Ε];by_cases z:0<=i
   ·exact .inr λ y=>b ⟨z,y⟩
   ·exact .inl z
  rw [this,ĺ]
  symm
  rw [Ε];rintro⟨n,hn,rfl⟩;have:=lt n hn;have:((2^r.ë.toNat:Nat):Int)=2^r.ë.toNat:=by push_cast;rfl
  omega
def dD (r:R0)(k:Nat)(d e:PyData):Str × PyData:=match d with
 | .list ds=>match fb (ds.map eX) with
  | some i=>("outcome",.int (i:Nat))
  | none=>if(ds.length:Int)=r.ë then(match fb (f8 k (.one r) (ds.map io)) with
    | some i=>(if k=3 then "pairs" else "sure",.int (i:Nat))
    | none=>if c7 (.one r) e=true then("let by",e) else("dealing",e)) else("folk",.int (ds.length:Nat))
 | _=>("folk",d)
def xc (bs:List Bool):List Nat:=(List.range bs.length).filter λ i=>!(bs.getD i true)
theorem mK {bs:List Bool}(h:fb bs=none):xc bs=[]:=by
 have al:=iq h;unfold xc;rw [M8];intro i hi;have Tk:i<bs.length:=Ō.mp hi;have e:bs.getD i true=bs[i]:=by simp [Tk]
 have:=é.mp al bs[i] (ċ Tk);rw [e,show bs[i]=true from this]
 decide
theorem k9 {bs:List Bool}{i:Nat}(h:fb bs=some i):∃ rest,xc bs=i::rest:=by
 obtain⟨f1,f2⟩:=dR h;have hi:=(É.mp f2).1;have ei:bs.getD i true=false:=by simp [List.getD,f2]
 cases e:xc bs with
 | nil =>
  unfold xc at e;rw [M8] at e;have:=e i (Ō.mpr hi);rw [ei] at this;exact absurd rfl this
 | cons j rest =>
  have hm:j∈xc bs:=by rw [e];exact ø ..
  unfold xc at hm e;rw [θ,Ō] at hm;have im:i∈(List.range bs.length).filter λ i=>!(bs.getD i true):=by
   rw [θ,Ō];exact⟨hi,by rw [ei];rfl⟩
  have so:((List.range bs.length).filter λ i=>!(bs.getD i true)).Pairwise (· < ·):=List.Pairwise.filter _ List.pairwise_lt_range;rw [e] at so im;refine⟨rest,?_⟩;rcases ß.mp im with e4 | jm
  ·rw [e4]
  ·exfalso;have lt:=(List.pairwise_cons.mp so).1 i jm;have ej:bs.getD j true=bs[j]'hm.1:=by simp [hm.1]
   have:=f1 j _ lt (Á hm.1);rw [ej,this] at hm;exact absurd hm.2 ag
theorem tm {tt:TT}{ż:St}{D:Addr}{H1:Hp}{Q:Hp->Prop}{n:Nat}(p:Nat->Bool)(hz:n<sizeLine)(hD:H1 D=none)
  (hs:∀(i:Nat) H,i<n->Ext H1 H->∀ R:Bool->Hp->Prop,(∀ H',Ext H H'->R (p i) H')->tt (some (.int (0+(i:Int))) :: ż) H R)
  (hd:∀ H,Ext H1 H->H D=some (.lst (((List.range n).filter p).map λ i=>V.int (i:Nat)))->Q H) :
  ∃ W:Nat->Nat->List V->Hp->Prop,(∃ m,W 0 m [] (aj H1 D (.lst []))) /\
   ∀ i m ys H2,W i m ys H2->H2 D=some (.lst ys)/\(((uJ 0 n).stop i H2/\Q H2)\/((uJ 0 n).go i H2/\ys.length<sizeLine /\
    ∀ x H3,(uJ 0 n).JJ i H2 x H3->∀ os:St,os.length=1->be 0 x (os ++ ż) H3 λ Ļ H0=>(∃ Ň:St,Ň.length=1/\Ļ = Ň ++ ż)/\tt Ļ H0 λ b H5=>(b=false->∃ m',m'<m/\W (i+1) m' ys H5) /\
     (b=true->aq 0 Ļ H5 λ y H4=>H4 D=some (.lst ys)/\∃ m',m'<m/\W (i+1) m' (ys ++ [y]) (aj H4 D (.lst (ys ++ [y])))))):=by
 refine⟨λ i m ys H=>m=n-i/\i<=n/\ys.length<=i/\H D=some (.lst ys)/\Ext H1 H/\ys=((List.range i).filter p).map λ i=>V.int (i:Nat),⟨n,by simp,Nat.zero_le _,Nat.le_refl _,aQ,Ext.new hD,rfl⟩,?_⟩
 rintro i m ys H ⟨rfl,hi,hy,B',x',ey⟩;refine⟨B',?_⟩;by_cases Β:i<n
 ·refine .inr ⟨Β,ae,λ x H' y os Ŵ=>?_⟩;obtain⟨o,rfl⟩:∃ o,os=[o]:=by
   match os,Ŵ with
   | [o],_=>exact⟨o,rfl⟩
  obtain⟨e,y⟩:=y;subst e y;have et:((List.range (i+1)).filter p).map (λ i=>V.int (i:Nat))=((List.range i).filter p).map (λ i=>V.int (i:Nat))++(if p i then [V.int (i:Nat)] else []):=by
   rw [List.range_succ,List.filter_append,á,List.filter_cons,List.filter_nil]
   congr 1
   split <;> rfl
  have ez:V.int (0+(i:Int))=V.int (i:Nat):=by rw [Ψ]
  refine⟨⟨[some (V.int (0+(i:Int)))],rfl,rfl⟩,hs i _ Β x' _ λ H2 x2=>⟨λ b=>⟨n-(i+1),ae,rfl,Β,ae,x2 _ _ B',x'.trans x2,?_⟩,λ b=>⟨_,rfl,x2 _ _ B',n-(i+1),ae,rfl,Β,by rw [Ý];show ys.length+1<=i+1;omega,aQ,bV _ (x'.trans x2) hD,?_⟩⟩⟩
  ·rw [et,b,ey];simp
  ·rw [et,b,ey,ez];simp
 ·have e:i=n:=ae;subst e;subst ey;exact .inl ⟨Ç _,hd H x' B'⟩
section
variable {P:Program}{w:World}{K:Frag}{mg:aX}{base:Heap}{f a1 a2 a3 a4:Addr}{fd d1 d2 d3 d4:FuncData}
abbrev wL:Stmt:=bw 97
abbrev Fm:List Str:=["_law_told_here","_law_outcomes_here","_law_word","_law_dealing","_law_bad","_law_loose"]
theorem Oo:ad Fm ["_law_told_here","_law_outcomes_here","_law_word","_law_dealing"] (aa wL):=aF
abbrev Ew:Scope:=ij [("_law_k",.local),("_law_is_outcome",.globalImplicit),("_law_outcomes_here",.free)]
abbrev Ce:Scope:=ij [("_law_k",.local),("_law_outcomes_here",.free)]
section
variable {cdv:Value}{A:Around}{outer:List Env}{s:Shared}{H:Hp}{E:XK}
theorem wy:dP (cq ay P w K mg base Fm "_law_due" (aa wL) f cdv A outer s H E).υ Ew [("_law_outcomes_here",s.heap.objs.size+1)] ["_law_k"] ["_law_outcomes_here"] [1] :=
 gP (M:=["_law_outcomes_here"]) (L:=[(".0",.local),("_law_k",.local),("_law_is_outcome",.globalImplicit),("_law_outcomes_here",.cell)]) rfl rfl aA aA aA rfl rfl rfl aA aA rfl rfl rfl
theorem vf:dP (cq ay P w K mg base Fm "_law_due" (aa wL) f cdv A outer s H E).υ Ce [("_law_outcomes_here",s.heap.objs.size+1)] ["_law_k"] ["_law_outcomes_here"] [1] :=
 gP (M:=["_law_outcomes_here"]) (L:=[(".0",.local),("_law_k",.local),("_law_outcomes_here",.cell)]) rfl rfl aA aA aA rfl rfl rfl aA aA rfl rfl rfl
theorem xT:((["_law_k"]:List Str)++(["_law_outcomes_here"]:List Str)).Nodup:=aA
def HU (K:Frag):TT:=r9 (tB (ie vb [] E0 (aw (aT (cX K) (aq 1) (aq 0)) aP)))
def Hv (K:Frag):TT:=r9 (tB (aT (oq K) (aT (cX K) (aq 1) (aq 0)) (tI 1)))
def gD (z:Str)(te:TE):TE:=fh (aw (tC (.str z)) (aw (nu tq (aw te aP)) aP))
def yq (K:Frag)(i:Nat)(tt:TT):TS:=cM (iW (ff (aw (mf 1 K) aP)) 1 [1] (be 0) tt (aq 0)) (be i)
def IE (K:Frag):TS:=cp (r9 (tB (nu (Ec K) (aw (aq 1) (aw (tC (.ty "list")) aP))))) (aV (gD "folk" (aq 1))) bB
def Ir (K:Frag):TS:=cp (tB (aT (kH K) (aq 4) (bE aP))) (aV (gD "outcome" (aT (cX K) (aq 4) (tI 0)))) bB
def IO (K:Frag):TS:=cp (tB (aT Fv (mf 1 K) (ie ke [] E0 (aw (aq 0) aP)))) (aV (gD "folk" (mf 1 K))) bB
def Im (K:Frag):TS:=cp (Au (tB (Gc K 2)) (tB (aT (kH K) (aq 5) (bE aP)))) (aV (gD "sure" (aT (cX K) (aq 5) (tI 0)))) bB
def Hx (K:Frag):TS:=cp (Au (tB (aT qQ (aq 2) (tC (.str "signs")))) (tB (aT Fv (aT (oq K) (aq 0) (tI 0)) (tC (.str "pairs"))))) (aV (Λ (tC (.str "pairs")) (tC (.str "0")))) bB
def GZ (K:Frag):TS:=cp (Hn (r9 (tB (ie qY [] E0 (aw (aq 3) aP)))) (tB (oZ (aq 3) (ie ny [] E0 (aw (aq 0) aP))))) (aV (gD "dealing" (aq 3))) bB
def Il (K:Frag):TS:=az (IE K) (az (yq K 4 (HU K)) (az (Ir K) (az (IO K) (az (yq K 5 (Hv K)) (az (Im K) (az (Hx K) (az (GZ K) (aV (gD "let by" (aq 3))))))))))
theorem yc (N:uH K)(hz:H sysModules=none)(A1:Df P w K mg base ay 2 "_law_is_outcome" ["_law_thing"] vb a1 d1) (A2:Df P w K mg base ay 1 "_law_folk" ["_law_told_here"] ke a2 d2) (A3:Df P w K mg base ay 1 "_law_whole" ["_law_found"] qY a3 d3) (A4:Df P w K mg base ay 1 "_law_dealt" ["_law_told_here"] ny a4 d4)
  (mi:mg "isinstance" = none) (ml:mg "len" = none) (QY:mg "list" = none) (mr:mg "range" = none) (mp:mg "repr" = none)
  (hr:t3 2 "_law_due" wL A s f cdv):Bx (Ũ (cq ay P w K mg base Fm "_law_due" (aa wL) f cdv A outer s H E).υ (aI wL) (Il K)):=by
 have nd:=Oo.nd;have hu:=hr.b_;have Ĵ:î 1 _:=hr.mono ag;have Xf:(A.deeper (PyProof.Rows.envOfC "_law_due" (aa wL) s.heap.objs.size f cdv)).units+2<cLine:=by
  have:=hr.units;omega
 refine eM ⟨aG (bD (bf (am (bH N) rfl mi Ö (ac (pv 1) (ac (fF rfl QY Υ) ao))))) (aK (bh (aE (ac cL (ac (am (bo hz hr.gd hr.units) rfl mp â (ac (pv 1) ao)) ao))))) dm⟩ ?_;refine eM ⟨oR (iy:=4) (te:=aq 0) (tt:=HU K) (g:=be 0) rfl wy (cg rfl mr (ac (am aH rfl ml ò (ac (pv 1) ao)) ao)) (λ s H C fp=>by exact cT (i:=0) xT rfl (.inl rfl)) (λ s H C fp=>by exact bD (bf (br A1 hr ai (ac (bC iQ (pv 1) (pv 0)) ao)))) (λ s H C fp=>by exact pv 0) nd rfl (Or.inl rfl) rfl⟩ ?_
 refine eM ⟨aG (ar (lT hu) (pv 4) (bJ ao) (av _)) (aK (bh (aE (ac cL (ac (am (bo hz hr.gd hr.units) rfl mp â (ac (bC iQ (pv 4) au) ao)) ao))))) dm⟩ ?_;refine eM ⟨aG (ar hX (am aH rfl ml ò (ac (pv 1) ao)) (br A2 Ĵ ai (ac (pv 0) ao)) (av _)) (aK (bh (aE (ac cL (ac (am (bo hz hr.gd hr.units) rfl mp â (ac (am aH rfl ml ò (ac (pv 1) ao)) ao)) ao))))) dm⟩ ?_;refine eM ⟨oR (iy:=5) (te:=aq 0) (tt:=Hv K) (g:=be 0) rfl vf (cg rfl mr (ac (am aH rfl ml ò (ac (pv 1) ao)) ao)) (λ s H C fp=>by exact cT (i:=0) xT rfl (.inl rfl)) (λ s H C fp=>by exact bD (bf (bC cZ (bC iQ (pv 1) (pv 0)) au))) (λ s H C fp=>by exact pv 0) nd rfl (Or.inl rfl) rfl⟩ ?_
 refine eM ⟨aG (PW.pt (uj (ar jD (pv 2) (aE (ac cL (ac cL ao))) rfl) (pM (ar (lT hu) (pv 5) (bJ ao) (av _))))) (aK (bh (aE (ac cL (ac (am (bo hz hr.gd hr.units) rfl mp â (ac (bC iQ (pv 5) au) ao)) ao))))) dm⟩ ?_;refine eM ⟨aG (PW.pt (uj (ar bu (pv 2) cL (av _)) (pM (ar hX (bC cZ (pv 0) au) cL (av _))))) (aK (bh (aE (ac cL (ac cL ao))))) dm⟩ ?_;refine eM ⟨aG (PW.pt (gY (bD (bf (br A3 Ĵ ai (ac (pv 3) ao)))) (fX (uz (pN Xf (pv 3) (br A4 Ĵ ai (ac (pv 0) ao))) rfl)))) (aK (bh (aE (ac cL (ac (am (bo hz hr.gd hr.units) rfl mp â (ac (pv 3) ao)) ao))))) dm⟩ ?_;exact cv ⟨bh (aE (ac cL (ac (am (bo hz hr.gd hr.units) rfl mp â (ac (pv 3) ao)) ao)))⟩
end
end
def qT (H:Hp)(l:Addr)(z:Str × PyData):Prop:=H l=some (.tup [.str z.1,.str z.2.shown])
def rf:Sp:=λ vs H Q _=>∃(tv o dl:V)(r:R0)(k:Nat)(d e:PyData),vs=[tv,o,.str (aR k),dl]/\H sysModules=none/\õ H tv (R0.told r)/\r.small/\k<4/\õ H o d/\J5 d/\õ H dl e/\fz e/\∀ l H',Ext H H'->qT H' l (dD r k d e)->Q (.ref l) H'
section
variable {K:Frag}{σ:St}{H:Hp}{te:TE}{z:Str}{v:V}{d:PyData}{Q:VK}
theorem fG (h:∀ R:VK,R v H->te σ H R)(r:õ H v d)(s:fz d)(q:∀ l H',Ext H H'->qT H' l (z,d)->Q (.ref l) H'):gD z te σ H Q :=
 h _ ⟨v,d,rfl,r,s,dy,λ l hl=>q l _ (Ext.new hl) aQ⟩
theorem uu {De:bT}{i:Nat}{tt:TT}{u:TS}{a:Addr}{xs:List V}{bs:List Bool}(s1:σ[1]?=some (some (.ref a)))(ha:H a=some (.lst xs))(ln:bs.length=xs.length)(L9:xs.length<=20)
  (hs:∀(j:Nat) H',j<xs.length->Ext H H'->∀ R:Bool->Hp->Prop,(∀ N5,Ext H' N5->R (!(bs.getD j true)) N5)->tt [some (.int (0+(j:Int))),some (.ref a)] H' R)
  (q:∀ D H',Ext H H'->H' D=some (.lst ((xc bs).map λ i=>V.int (i:Nat)))->u De (σ.set i (some (.ref D))) H'):az (yq K i tt) u De σ H:=by
 refine cI (i:=i) ⟨_,s1,a,xs,rfl,.inl (ÿ.of ha),(xs.length:Int),rfl,ae,ae,λ D hD=>?_⟩;rw [Î];have ż:fE [1] σ=[some (.ref a)]:=by
  show [(σ[1]?).join]=_;rw [s1];rfl
 rw [ż];refine tm (λ j=>!(bs.getD j true)) (by rw [Ø];omega) hD hs λ H' x' h'=>q D H' x' ?_
 rw [<- ln] at h';exact h'
theorem kS {i:Nat}{D:Addr}{xs:List V}{R:Bool->Hp->Prop}(s1:σ[i]?=some (some (.ref D)))(hD:H D=some (.lst xs))(q:∀ H',Ext H H'->R (!xs.isEmpty) H'):tB (aT (kH K) (aq i) (bE aP)) σ H R :=
 ⟨_,s1,dy,λ p hp=>⟨D,p,xs,rfl,rfl,ÿ.of (Ext.new hp _ _ hD),ÿ.of aQ,_,rfl,q _ (Ext.new hp)⟩⟩
end
theorem Dg {K:Frag}{σ:St}{H:Hp}{i k:Nat}{R:Bool->Hp->Prop}(s:σ[i]?=some (some (.str (aR k))))(hk:k<4)(q:∀ H',Ext H H'->R (decide (k<2)) H'):tB (Gc K i) σ H R :=
 ⟨_,s,dy,λ t ht=>⟨t,[.str "sum",.str "ranks"],rfl,.inr (č.of aQ),rfl,rfl,_,rfl,by
  show R (Ci (V.str (aR k)) [.str "sum",.str "ranks"]) _;rw [qW k hk];exact q _ (Ext.new ht)⟩⟩
theorem vK {r:R0}(sm:r.small){kvs:List (Key × V)}(ek:kvs.map (·.1)=r.keys.map (λ n=>Key.inl ((n:Nat):Int)))(i:Int):(cP kvs (.inl i)).isSome=c7 (.one r) (.int i):=by
 rw [i5 sm];have mem:∀ k:Key,k∈kvs.map (·.1) ↔ ∃ n∈r.keys,k=.inl ((n:Nat):Int):=λ k=>by
  rw [ek,ā];exact⟨λ ⟨n,h,e⟩=>⟨n,h,e.symm⟩,λ ⟨n,h,e⟩=>⟨n,h,e.symm⟩⟩
 cases e:cP kvs (.inl i) with
 | none =>
  have:=sR e;rw [mem] at this;exact(Å λ ⟨n,h,z⟩=>this ⟨n,h,by rw [z]⟩).symm
 | some v =>
  have:=wz e;rw [mem] at this;obtain⟨n,h,z⟩:=this;exact(Ä ⟨n,h,by injection z⟩).symm
theorem yJ:∀ k:Nat,k<4->decide (V.str (aR k)=V.str "signs")=decide (k=3)
 | 0,_=>Å λ z=>absurd (V.str.inj z) aA
 | 1,_=>Å λ z=>absurd (V.str.inj z) aA
 | 2,_=>Å λ z=>absurd (V.str.inj z) aA
 | 3,_=>Ä rfl
section
variable {P:Program}{w:World}{K:Frag}{mg:aX}{base:Heap}{f a1 a2 a3 a4:Addr}{fd d1 d2 d3 d4:FuncData}
theorem Cc (N:uH K)(F:ė K "_law_due" "_law_due" wL f fd) (A1:Df P w K mg base ay 2 "_law_is_outcome" ["_law_thing"] vb a1 d1) (A2:Df P w K mg base ay 1 "_law_folk" ["_law_told_here"] ke a2 d2) (A3:Df P w K mg base ay 1 "_law_whole" ["_law_found"] qY a3 d3) (A4:Df P w K mg base ay 1 "_law_dealt" ["_law_told_here"] ny a4 d4)
  (mi:mg "isinstance" = none) (ml:mg "len" = none) (QY:mg "list" = none) (mr:mg "range" = none) (mp:mg "repr" = none):Ò P w K mg base ay 3 f fd ["_law_told_here","_law_outcomes_here","_law_word","_law_dealing"] rf:=by
 refine bR F Oo λ cdv A outer s H vs Q E hr h=>?_;obtain⟨tv,o,dl,r,k,d,e,rfl,hz,rt,sm,hk,ro,v_,re,sw,q⟩:=h;refine gZ (yc N hz A1 A2 A3 A4 mi ml QY mr mp hr) ⟨?_⟩;refine⟨_,rfl,_,_,_,_,rfl,ro.kd,ro.W8,_,rfl,?_⟩;by_cases Lq:∃ ds,d=.list ds
 rotate_left
 ·have e1:E8 d=false:=by
   cases d with
   | list ds=>exact absurd ⟨ds,rfl⟩ Lq
   | _=>rfl
  have e2:dD r k d e=(("folk" : Str),d):=by
   cases d with
   | list ds=>exact absurd ⟨ds,rfl⟩ Lq
   | _=>rfl
  rw [e1];rw [e2] at q;exact cK (fG (λ R h=>⟨_,rfl,h⟩) ro v_.show q)
 obtain⟨ds,rfl⟩:=Lq;have L9:=v_.ln ds rfl;refine cJ ?_;obtain⟨a,xs,rfl,ha,ra⟩:=eV ro;have lx:=ra.length;refine uu (i:=4) (bs:=ds.map eX) rfl ha (by rw [Æ,lx]) ae (λ j H' hj x' R hR=>?_) λ D H1 x1 hD=>?_
 ·obtain⟨d,ed,rd⟩:=ra.get (Á hj);have ej:(ds.map eX).getD j true=eX d:=by simp [List.getD,ed]
  refine⟨_,rfl,_,rfl,a,xs,0+(j:Int),_,rfl,rfl,ÿ.of (x' _ _ ha),by rw [Ψ];exact fm (Á hj),_,d,rfl,rd.mono x',_,rfl,?_⟩
  have:=hR H' (Ext.refl _);rw [ej] at this;exact this
 have XZ:=x1 _ _ ha;have Us:∀{bs:List Bool},bs.length=xs.length->∀{i},fb bs=some i->fz (.int (i:Nat)):=λ {bs} hb {i} h=>dA (by
  have:=(É.mp (dR h).2).1;omega)
 refine kS rfl hD λ H2 x2=>?_;have Pj:=x2 _ _ XZ;have ņ:=x1.trans x2;cases e1:fb (ds.map eX) with
 | some i =>
  obtain⟨rest,ep⟩:=k9 e1;have e2:dD r k (.list ds) e=(("outcome" : Str),.int (i:Nat)):=by
   simp only [dD,e1]
  rw [ep] at hD ⊢;rw [e2] at q;exact cK (fG (λ R h=>⟨_,rfl,D,_,0,_,rfl,rfl,ÿ.of (x2 _ _ hD),fm (j:=0) rfl,h⟩) (.int _) (Us (by rw [Æ,lx]) e1) λ l H3 x3=>q l H3 (ņ.trans x3))
 | none =>
 rw [mK e1];obtain⟨oc,bd⟩:=t9 ra (iq e1);refine cJ ⟨_,rfl,a,xs,rfl,.inl (ÿ.of Pj),_,rfl,tv,r,rfl,rt.mono ņ,sm,λ H3 x3=>?_⟩;have Jy:=ņ.trans x3;have RW:=x3 _ _ Pj;refine⟨rfl,_,rfl,?_⟩;by_cases fk:(ds.length:Int)=r.ë
 rotate_left
 ·have e2:dD r k (.list ds) e=(("folk" : Str),.int (ds.length:Nat)):=by
   simp only [dD,e1];rw [Ì fk]
  have c:(!decide (V.int (xs.length:Nat)=V.int r.ë))=true:=by
   rw [Å (λ z=>fk (by rw [<- lx];exact V.int.inj z))];rfl
  rw [c];rw [e2,<- lx] at q;exact cK (fG (λ R h=>⟨_,rfl,a,xs,rfl,.inl (ÿ.of RW),h⟩) (.int _) (dA ae) λ l H4 x4=>q l H4 (Jy.trans x4))
 have c:(!decide (V.int (xs.length:Nat)=V.int r.ë))=false:=by
  rw [Ä (by rw [lx,fk])];rfl
 rw [c];refine cJ ?_;have l3:(ds.map io).length=xs.length:=by rw [Æ,lx]
 refine uu (i:=5) (bs:=(ds.map io).map (·.2)) rfl RW (by rw [Æ,l3]) ae (λ j H' hj x' R hR=>?_) λ D2 H4 x4 MV=>?_
 ·have Ti:j<(ds.map io).length:=ae;have ej:((ds.map io).map (·.2)).getD j true=(ds.map io)[j].2:=by
   rw [Lb,Ù,Á Ti,ŝ,Option.getD_some]
  obtain⟨c,ec,hc⟩:=oc.2 j _ _ (Á hj) (Á Ti);refine⟨_,rfl,_,rfl,a,xs,0+(j:Int),_,rfl,rfl,ÿ.of (x' _ _ RW),by rw [Ψ];exact fm (Á hj),c,_,1,_,ec,rfl,č.of (x' _ _ (Jy _ _ hc)),fm (j:=1) rfl,_,rfl,?_⟩
  have:=hR H' (Ext.refl _);rw [ej] at this;exact this
 have Nd:=Jy.trans x4;have e2:∀ z,fb (f8 k (.one r) (ds.map io))=z->dD r k (.list ds) e=match z with
   | some i=>(if k=3 then "pairs" else "sure",.int (i:Nat))
   | none=>if c7 (.one r) e=true then(("let by" : Str),e) else("dealing",e):=λ z ez=>by
  simp only [dD,e1];rw [Ï fk,ez] <;> cases z <;> rfl
 have go2:∀ H6,Ext H H6->fb (f8 k (.one r) (ds.map io))=none->az (GZ K) (aV (gD "let by" (aq 3))) ⟨λ _ H'=>Q .ô H',Q,λ _ _=>False,λ _ _=>False⟩ [some tv,some (.ref a),some (.str (aR k)),some dl,some (.ref D),some (.ref D2)] H6:=λ H6 x6 fn=>by
  have e3:=e2 _ fn;rw [e3] at q
  change ∀ l H',Ext H H'->qT H' l (if c7 (.one r) e=true then(("let by" : Str),e) else("dealing",e))->_ at q
  refine⟨_,rfl,dl,e,rfl,re.mono x6,_,rfl,?_⟩;have bad:∀ H7,Ext H6 H7->c7 (.one r) e=false->gD "dealing" (aq 3) [some tv,some (.ref a),some (.str (aR k)),some dl,some (.ref D),some (.ref D2)] H7 Q:=λ H7 x7 dn=>fG (λ R h=>⟨_,rfl,h⟩) (re.mono (x6.trans x7)) sw λ l H8 x8 h=>q l H8 ((x6.trans x7).trans x8) (by rw [dn,Ì Ê];exact h)
  cases ei:wB e with
  | false=>exact cK (cK (bad _ (Ext.refl _) (by cases e <;> first | rfl | cases ei)))
  | true =>
   obtain⟨i,rfl⟩:∃ i,e=.int i:=by cases e <;> first | exact⟨_,rfl⟩ | cases ei
   cases re;refine cJ ⟨_,rfl,_,rfl,tv,r,rfl,rt.mono x6,sm,λ g kvs H7 x7 hg ek=>⟨g,_,rfl,C_.k (k:=.inl i) hg,_,rfl,?_⟩⟩;have kk:=vK sm ek i;show if(!(cP kvs (.inl i)).isSome)=true then _ else _
   rw [kk];cases dn:c7 (.one r) (.int i) with
   | false=>exact cK (bad _ x7 dn)
   | true=>exact cJ (show gD "let by" (aq 3) _ H7 Q from fG (λ R h=>⟨_,rfl,h⟩) (.int i) sw λ l H8 x8 h=>q l H8 ((x6.trans x7).trans x8) (by rw [dn,Ï rfl];exact h))
 have go:∀ H5,Ext H H5->(k<2->fb ((ds.map io).map (·.2))=none)->az (Hx K) (az (GZ K) (aV (gD "let by" (aq 3)))) ⟨λ _ H'=>Q .ô H',Q,λ _ _=>False,λ _ _=>False⟩ [some tv,some (.ref a),some (.str (aR k)),some dl,some (.ref D),some (.ref D2)] H5:=λ H5 x5 fl=>by
  refine⟨_,rfl,rfl,_,rfl,?_⟩;rw [yJ k hk];by_cases k3:k=3
  ·subst k3;obtain⟨ta,n,zs,ev,Xj,ef⟩:=R0.row rt;have fe:f8 3 (.one r) (ds.map io)=[r.JV&&decide (r.ë.toNat%2=0)]:=iA r;refine cK ⟨_,rfl,ta,_,0,_,ev,rfl,č.of (x5 _ _ Xj),fm (j:=0) rfl,rfl,_,rfl,?_⟩;rw [R0.JK];cases hp:r.JV with
   | false =>
    rw [hp,ĺ] at fe;have e3:=e2 (some 0) (by rw [fe];rfl)
    rw [e3] at q;have s0:(PyData.int ((0:Nat):Int)).shown=("0" : Str):=aA;exact cK ⟨dy,λ l hl=>q l _ (x5.trans (Ext.new hl)) (by
     show _=some (HO.tup [.str "pairs",.str (PyData.int ((0:Nat):Int)).shown]);rw [s0];exact aQ)⟩
   | true =>
    rw [hp,Ï rfl] at ef;rw [hp,Ĳ,Ä ae] at fe;exact cJ (go2 H5 x5 (by rw [fe];rfl))
  ·rw [Å k3];refine cJ (cJ (go2 H5 x5 ?_))
   match k,hk,k3,fl with
   | 0,_,_,fl=>exact fl ag
   | 1,_,_,fl=>exact fl ag
   | 2,_,_,_=>rfl
   | 3,_,n,_=>exact absurd rfl n
 refine Dg rfl hk λ H5 x5=>?_;have NY:=Nd.trans x5;by_cases k2:k<2
 rotate_left
 ·rw [Å k2];exact cJ (cJ (go H5 NY λ z=>absurd z k2))
 rw [Ä k2];refine cK (kS rfl (x5 _ _ MV) λ H6 x6=>?_);cases e5:fb ((ds.map io).map (·.2)) with
 | none =>
  rw [mK e5];exact cJ (go H6 (NY.trans x6) λ _=>e5)
 | some i =>
  obtain⟨rest,ep⟩:=k9 e5;have e6:f8 k (.one r) (ds.map io)=(ds.map io).map (·.2):=by
   match k,k2 with
   | 0,_=>rfl
   | 1,_=>rfl
  have e3:=e2 (some i) (by rw [e6];exact e5)
  change _=(if k=3 then(("pairs" : Str)) else "sure",PyData.int (i:Nat)) at e3
  rw [Ì ae] at e3;rw [ep] at MV ⊢;rw [e3] at q;exact cK (fG (λ R h=>⟨_,rfl,D2,_,0,_,rfl,rfl,ÿ.of (x6 _ _ (x5 _ _ MV)),fm (j:=0) rfl,h⟩) (.int _) (Us (by rw [Æ,l3]) e5) λ l H7 x7=>q l H7 ((NY.trans x6).trans x7))
end
section
variable {X:Cx}{σ:St}{e:Expr}{es:List Expr}{t:TA}{pos p:Pos}{CX:iC}{k:Nat}{f C:Addr}{fd:FuncData}{ps:List Str}{sp:Sp}{dvs:List V}{ds:List Value}{E:XK}{x:Str}
theorem pS {pins:List (Addr × Obj)}{H:Hp}{s:Shared}{Q:VK}{us:List Value}{vs:List V}(M:Mk X.K C f)(F:Ò X.prog X.w X.K X.mg X.base CX k f fd ps sp)(hr:î (k+1) X.A)(hb:Binds X.K fd ps ds)(hd:Vals dvs ds)(hx:sJ CX X σ E)(I:Inv X pins σ H s)(rv:Vals vs us)
  (h:∀ x dx,H x=none->H dx=none->dx≠x->sp (.ref x::(vs++dvs)) (aj (aj H dx (.own x)) x (.ins C dx [])) (λ v H2=>v=.ô/\Q (.ref x) H2) E):wpAny (model X.prog X.w) X.A (call (.ref C) us) (EP X pins σ Q) X.xe s:=by
 let a:Addr:=s.heap.objs.size+1
 have J:=Inv.made (C:=C) I;have want:=h a s.heap.objs.size (I.þ.fresh (ń _)) (I.þ.fresh (Ç _)) (Ñ (JF _));have all:Vals (V.ref a::(vs++dvs)) (Value.ref a::(us++ds)):=.cons rfl (rv.append hd);have len:(Value.ref a::us++ds).length=ps.length:=by
  have z:=all.length;rw [F.len _ _ _ _ want] at z;exact z.symm
 have Wv:=F.run _ X.stack _ _ ⟨Value.ref a::us,[]⟩ (Value.ref a::(us++ds)) _ _ E (hr.make C us []) (J.Mn.make C us []) (hb _ (Value.ref a::us) J.Ņ len) all want;refine Œ (lp (f:=f) I.Ņ M.makes M.init (Ą.mp M.fn) (ł Wv λ r s' got=>?_))
 match r,got with
 | .error e,got=>exact hx pins _ _ e s' J got
 | .ok (.ret u),got =>
  obtain⟨v,H',I3,ru,ev,q⟩:=J.after got;subst ev;exact⟨ru,V.ref a,H',I3,rfl,q⟩
 | .ok .next,got=>exact got.elim
 | .ok .brk,got=>exact got.elim
 | .ok .cont,got=>exact got.elim
theorem vU (M:Mk X.K C f)(F:Ò X.prog X.w X.K X.mg X.base CX k f fd ps sp)(hr:î (k+1) X.A)(hg:Gl X x)(hm:X.mg x=some (.ref C))(hb:Binds X.K fd ps ds)(hd:Vals dvs ds)(hx:sJ CX X σ E)
  (ha:H9 X σ (e::es) t) (Ν:(x==("__debug__" : Str))=false:=by decide) (he:starEach (e::es) X.env=(false,eval e X.env)::starEach es X.env:=by rfl) (Ρ:(backTo pos (starEach es X.env)).any (·.1)=false:=by rfl):PX X σ (.Call (.Name x p) (e::es) [] pos) (fc C sp dvs E t):=by
 intro pins s H Q I h;refine Č (cu I hg hm ?_ Ν);exact Ġ (h₀:=X.base) I.ok.mod.L' M.kp (aW (ha pos pins s H _ I h) λ us s1 ⟨vs,H1,I1,r,q⟩=>⟨I1.Ņ,pS M F hr hb hd hx I1 r q⟩) he Ρ
end
def AE:Nat->Str
 | 0 => "folk"
 | 1 => "outcome"
 | 2 => "sure"
 | 3 => "pairs"
 | _ => "dealing"
def vd:Nat->Str
 | 1 => "place"
 | 2 => "place"
 | 3 => "block"
 | _ => "found"
def CA (CF CO CU CN CD:Addr):Nat->Addr
 | 0=>CF
 | 1=>CO
 | 2=>CU
 | 3=>CN
 | _=>CD
def IK:Nat->Str
 | 0 => "NoFolk"
 | 1 => "NoOutcome"
 | 2 => "NotSure"
 | 3 => "NoPairs"
 | _ => "NoDealing"
structure vF (K:Frag)(mg:aX)(D:Addr)(C:Nat->Addr):Prop where
 c:∀ i,i<5->jT K (C i)
 cD:jT K D
 m:∀ i,i<5->mg (IK i)=some (.ref (C i))
 mD:mg "DealError" = some (.ref D)
 f:∀ i,i<5->rE K (C i) (vd i)
 ro:∀ i j,i<=j->j<5->mroIn K (C j) (.ref (C i))=some (decide (i=j))
theorem zi {b:Bool}{i:Nat}(h:fb [b]=some i):i=0:=by
 have:=(É.mp (dR h).2).1;simp at this;exact this
theorem zk {CF CO CU CN CD:Addr}{r:R0}{k:Nat}{d e:PyData}{o dl:V}{H:Hp}(hk:k<4)(ro:õ H o d)(re:õ H dl e)(v_:J5 d)(sw:fz e) :
  (∀ c fl v,jG CF CO CU CN CD r k d e o dl=some (c,fl,v)->∃ i,i<5/\c=CA CF CO CU CN CD i/\fl=vd i/\(dD r k d e).1=AE i/\õ H v (dD r k d e).2/\fz (dD r k d e).2)/\(jG CF CO CU CN CD r k d e o dl=none->dD r k d e=(("let by" : Str),e)):=by
 by_cases Lq:∃ ds,d=.list ds
 rotate_left
 ·have e1:jG CF CO CU CN CD r k d e o dl=some (CF,("found" : Str),o):=by
   cases d with
   | list ds=>exact absurd ⟨ds,rfl⟩ Lq
   | _=>rfl
  have e2:dD r k d e=(("folk" : Str),d):=by
   cases d with
   | list ds=>exact absurd ⟨ds,rfl⟩ Lq
   | _=>rfl
  rw [e1,e2];exact⟨λ c fl v h=>by cases h;exact⟨0,ag,rfl,rfl,rfl,ro,v_.show⟩,nofun⟩
 obtain⟨ds,rfl⟩:=Lq;have L9:=v_.ln ds rfl;have sn:∀{bs:List Bool},bs.length<=20->∀{i},fb bs=some i->fz (.int (i:Nat)):=λ {bs} hb {i} h=>dA (by
  have:=(É.mp (dR h).2).1;omega)
 cases e1:fb (ds.map eX) with
 | some i =>
  simp only [jG,dD,e1];exact⟨λ c fl v h=>by cases h;exact⟨1,ag,rfl,rfl,rfl,.int _,sn (by rw [Æ];exact L9) e1⟩,nofun⟩
 | none =>
  by_cases fk:(ds.length:Int)=r.ë
  rotate_left
  ·simp only [jG,dD,e1];rw [Ì fk,Ì fk];exact⟨λ c fl v h=>by cases h;exact⟨0,ag,rfl,rfl,rfl,.int _,dA ae⟩,nofun⟩
  cases e2:fb (f8 k (.one r) (ds.map io)) with
  | none =>
   simp only [jG,dD,e1];rw [Ï fk,Ï fk,e2];cases dn:c7 (.one r) e with
   | true=>exact⟨nofun,λ _=>rfl⟩
   | false=>exact⟨λ c fl v h=>by cases h;exact⟨4,ag,rfl,rfl,rfl,re,sw⟩,nofun⟩
  | some i =>
   have fin:∀ j,j<5->ji CU CN k=CA CF CO CU CN CD j->iT k=vd j->(if k=3 then(("pairs" : Str)) else "sure")=AE j->fz (.int (i:Nat))->(∀ c fl v,jG CF CO CU CN CD r k (.list ds) e o dl=some (c,fl,v)->∃ i,i<5/\c=CA CF CO CU CN CD i/\fl=vd i/\(dD r k (.list ds) e).1=AE i/\õ H v (dD r k (.list ds) e).2/\fz (dD r k (.list ds) e).2)/\(jG CF CO CU CN CD r k (.list ds) e o dl=none->dD r k (.list ds) e=(("let by" : Str),e)):=λ j hj h1 h2 h3 h4=>by
    simp only [jG,dD,e1];rw [Ï fk,Ï fk,e2];exact⟨λ c fl v h=>by cases h;exact⟨j,hj,h1,h2,h3,.int _,h4⟩,nofun⟩
   have lm:((ds.map io).map (·.2)).length<=20:=by rw [Æ,Æ];exact L9
   match k,hk,e2,fin with
   | 0,_,e2,fin=>exact fin 2 ag rfl rfl rfl (sn lm e2)
   | 1,_,e2,fin=>exact fin 2 ag rfl rfl rfl (sn lm e2)
   | 2,_,e2,fin=>cases e2
   | 3,_,e2,fin =>
    have e3:fb [r.JV&&decide (r.ë.toNat%2=0)]=some i:=by rw [<- iA r];exact e2
    exact fin 3 ag rfl rfl rfl (dA (by rw [zi e3];decide))
def wV (K:Frag)(i:Nat):TS:=aV (gD (AE i) (uo K (aq 5) (vd i)))
def hA (K:Frag)(D:Addr)(C:Nat->Addr):TH:=A9 K (C 0) 5 (wV K 0) (A9 K (C 1) 5 (wV K 1) (A9 K (C 2) 5 (wV K 2) (A9 K (C 3) 5 (wV K 3) (A9 K (C 4) 5 (wV K 4) (HQ K D (aV (Λ (tC (.str "another")) (tC (.str "")))) BM)))))
section
variable {P:Program}{w:World}{K:Frag}{mg:aX}{base:Heap}{C MC:Nat->Addr}{CF CO CU CN CD CT D g:Addr}{gd:FuncData}
structure Gh (P:Program)(w:World)(K:Frag)(mg:aX)(base:Heap)(C MC:Nat->Addr)(CF CO CU CN CD CT g:Addr)(gd:FuncData):Prop where
 M:Mk K CT g
 F:Ò P w K mg base (bP P w) 11 g gd ["self","rule","outcomes","measure","dealing"] (Ah K C MC CF CO CU CN CD CT)
 b:Binds K gd ["self","rule","outcomes","measure","dealing"] []
 m:mg "Trial" = some (.ref CT)
abbrev wU:Stmt:=bw 98
abbrev Hh:List Str:=["_law_told_here","_law_outcomes_here","_law_word","_law_dealing","_law_trial_here","e"]
theorem Ov:ad Hh ["_law_told_here","_law_outcomes_here","_law_word","_law_dealing"] (aa wU):=aF
variable {f a1 a2:Addr}{fd d1 d2:FuncData}{cdv:Value}{A:Around}{outer:List Env}{s:Shared}{H:Hp}{E:XK}
def HP (K:Frag)(C MC:Nat->Addr)(CF CO CU CN CD CT:Addr)(E:XK):TS:=cM (fc CT (Ah K C MC CF CO CU CN CD CT) [] E (aw (ie (vY C) [] E0 (aw (aq 0) aP)) (aw (aq 1) (aw (ie (we MC) [] E0 (aw (aq 2) aP)) (aw (aq 3) aP))))) (be 4)
theorem fw {i:Nat}{z1 z2:Str}{p0 p1 p2 p3 p4 p5 p6:Pos}{x:Addr} {x1}(e1:z1=AE i)(e2:z2=vd i)(hz:H sysModules=none)(mp:mg "repr" = none) (hr:t3 12 "_law_asked" wU A s f cdv) :
  Ũ (kc (cq ay P w K mg base Hh "_law_asked" (aa wU) f cdv A outer s H E).υ x) [.Return (some (.Tuple [.Constant (.str z1) 0 p0,.Call (.Name "repr" p1) [.Attribute (.Name "e" p2) z2 p3] [] p4] x1 p5)) p6] (wV K i):=by
 subst e1 e2;exact aK (bh (aE (ac cL (ac (am (bo hz hr.gd hr.units) rfl mp â (ac (rB (pv 5) rfl) ao)) ao))))
theorem Br (hz:H sysModules=none)(Z:vF K mg D (CA CF CO CU CN CD))(T:Gh P w K mg base C MC CF CO CU CN CD CT g gd)(A1:Df P w K mg base ay 8 "_law_rule" ["_law_told_here"] (vY C) a1 d1) (A2:Df P w K mg base ay 4 "_law_measure" ["_law_word"] (we MC) a2 d2) (mp:mg "repr" = none) (hr:t3 12 "_law_asked" wU A s f cdv) :
  Bx (Ũ (cq ay P w K mg base Hh "_law_asked" (aa wU) f cdv A outer s H E).υ (aI wU) (az (xz (HP K C MC CF CO CU CN CD CT) (hA K D (CA CF CO CU CN CD))) (aV (gD "let by" (kM K (aq 4) "dealing"))))):=by
 have nd:=Ov.nd;have Xr:î 8 _:=hr.mono ag;have Xt:î 4 _:=hr.mono ag;refine eM ⟨wq (tb:=HP K C MC CF CO CU CN CD CT) (th:=hA K D (CA CF CO CU CN CD)) rfl rfl (λ σ E' pn xe hp=>?_) ?_⟩ (cv ⟨bh (aE (ac cL (ac (am (bo hz hr.gd hr.units) rfl mp â (ac (uD (pv 4) rfl) ao)) ao)))⟩)
 ·exact uR (i:=4) nd rfl (Or.inl rfl) (vU T.M T.F hr rfl T.m T.b .nil hp (yI (ac (br A1 Xr ai (ac (pv 0) ao)) (ac (pv 1) (ac (br A2 Xt ai (ac (pv 2) ao)) (ac (pv 3) ao))))))
 ·refine jh (i:=5) nd rfl rfl (Z.c 0 ag) rfl (Z.m 0 ag) (λ x=>fw rfl rfl hz mp hr) ?_;refine jh (i:=5) nd rfl rfl (Z.c 1 ag) rfl (Z.m 1 ag) (λ x=>fw rfl rfl hz mp hr) ?_;refine jh (i:=5) nd rfl rfl (Z.c 2 ag) rfl (Z.m 2 ag) (λ x=>fw rfl rfl hz mp hr) ?_;refine jh (i:=5) nd rfl rfl (Z.c 3 ag) rfl (Z.m 3 ag) (λ x=>fw rfl rfl hz mp hr) ?_;refine jh (i:=5) nd rfl rfl (Z.c 4 ag) rfl (Z.m 4 ag) (λ x=>fw rfl rfl hz mp hr) ?_;exact xY Z.cD rfl Z.mD (λ x=>aK (bh (aE (ac cL (ac cL ao))))) vR
theorem Dq {C e dx:Addr}{i:Nat}{v:V}{d:PyData}{D':bT}{o0 o1 o2 o3 o4 o5:Option V}(F:rE K C (vd i))(fe:H e=some (gh e C (some dx)))(fd:H dx=some (.xd [(vd i,v)]))(rv:õ H v d)(sw:fz d)(q:∀ l H',Ext H H'->qT H' l (AE i,d)->D'.rt (.ref l) H') :
  wV K i (kD D' 5) (([o0,o1,o2,o3,o4,o5]:St).set 5 (some (.ref e))) H :=
 fG (Q:=D'.rt) (λ R h=>⟨_,rfl,e,C,dx,_,v,rfl,fe,fd,by rw [Ċ,Ŗ],F.it,F.hd,F.nf,h⟩) rv sw q
theorem CL (Z:vF K mg D C){i:Nat}{e dx:Addr}{v:V}{d:PyData}{D':bT}{o0 o1 o2 o3 o4 o5:Option V}(hi:i<5)(fe:H e=some (gh e (C i) (some dx)))(fd:H dx=some (.xd [(vd i,v)]))(rv:õ H v d)(sw:fz d)(q:∀ l H',Ext H H'->qT H' l (AE i,d)->D'.rt (.ref l) H') :
  hA K D C e (C i) D' [o0,o1,o2,o3,o4,o5] H:=by
 have go:∀ j,j<5->∀ rest:TH,(j=i\/(j<i/\rest e (C i) D' [o0,o1,o2,o3,o4,o5] H))->A9 K (C j) 5 (wV K j) rest e (C i) D' [o0,o1,o2,o3,o4,o5] H:=λ j hj rest h=>by
  rcases h with rfl | ⟨h,r⟩
  ·exact⟨true,by rw [Z.ro j j (Ç _) hj,Ä rfl],cK (Dq (Z.f j hj) fe fd rv sw q)⟩
  ·exact⟨false,by rw [Z.ro j i (Jk h) hi,Å ae],cJ r⟩
 have ln:i=0\/i=1\/i=2\/i=3\/i=4:=ae;rcases ln with rfl | rfl | rfl | rfl | rfl
 ·exact go 0 ag _ (.inl rfl)
 ·exact go 0 ag _ (.inr ⟨ag,go 1 ag _ (.inl rfl)⟩)
 ·exact go 0 ag _ (.inr ⟨ag,go 1 ag _ (.inr ⟨ag,go 2 ag _ (.inl rfl)⟩)⟩)
 ·exact go 0 ag _ (.inr ⟨ag,go 1 ag _ (.inr ⟨ag,go 2 ag _ (.inr ⟨ag,go 3 ag _ (.inl rfl)⟩)⟩)⟩)
 ·exact go 0 ag _ (.inr ⟨ag,go 1 ag _ (.inr ⟨ag,go 2 ag _ (.inr ⟨ag,go 3 ag _ (.inr ⟨ag,go 4 ag _ (.inl rfl)⟩)⟩)⟩)⟩)
end
section
variable {P:Program}{w:World}{K:Frag}{mg:aX}{base:Heap}{C MC:Nat->Addr}{CF CO CU CN CD CT D g f a1 a2:Addr}{gd fd d1 d2:FuncData}
theorem C9 (KT:KT K CT)(Z:vF K mg D (CA CF CO CU CN CD))(T:Gh P w K mg base C MC CF CO CU CN CD CT g gd)(F:ė K "_law_asked" "_law_asked" wU f fd) (A1:Df P w K mg base ay 8 "_law_rule" ["_law_told_here"] (vY C) a1 d1) (A2:Df P w K mg base ay 4 "_law_measure" ["_law_word"] (we MC) a2 d2) (mp:mg "repr" = none):Ò P w K mg base ay 13 f fd ["_law_told_here","_law_outcomes_here","_law_word","_law_dealing"] rf:=by
 refine bR F Ov λ cdv A outer s H vs Q E hr h=>?_;obtain⟨tv,o,dl,r,k,d,e,rfl,hz,rt,sm,hk,ro,v_,re,sw,q⟩:=h;refine gZ (Br hz Z T A1 A2 mp hr) ⟨?_⟩;refine⟨_,rfl,tv,r,rfl,rt,sm.ok,λ rx H1 x1 ru=>⟨_,rfl,_,rfl,k,rfl,hk,λ mx H2 x2 me=>⟨_,rfl,λ x dx hx JY ne=>?_⟩⟩⟩;have ņ:=x1.trans x2;have xd:=Ext.new (o:=.own x) JY;have Js:aj H2 dx (.own x) x=none:=by rw [ah ne.symm];exact hx
 have xn:=xd.trans (Ext.new (o:=.ins CT dx []) Js);have gx:aj (aj H2 dx (.own x)) x (.ins CT dx []) x=some (.ins CT dx []):=aQ;have k3:∀ H4,Kept (aj (aj H2 dx (.own x)) x (.ins CT dx [])) H4 x->Ext H2 H4:=λ H4 k b u hb=>by
  have nb:b≠x:=λ z=>by rw [z,hx] at hb;cases hb
  exact k _ _ (xn _ _ hb) nb
 generalize aj (aj H2 dx (.own x)) x (.ins CT dx [])=H3 at xn gx k3 ⊢;have Jy:=ņ.trans xn;obtain⟨Wf,We⟩:=zk (CF:=CF) (CO:=CO) (CU:=CU) (CN:=CN) (CD:=CD) (r:=r) (k:=k) hk (ro.mono Jy) (re.mono Jy) v_ sw;refine⟨x,dx,.ref rx,o,.ref mx,dl,r,k,d,e,rfl,sm,hk,gx,ru.ext (x2.trans xn),me.ext xn,ro.mono Jy,re.mono Jy,v_.ln,λ c fl v h H4 x4=>?_,λ h H4 fs kp hg lf=>⟨rfl,?_⟩⟩
 ·obtain⟨i,hi,rfl,rfl,ew,rv,sv⟩:=Wf c fl v h;refine z8 λ e' Um H5 x5 fe fd=>⟨e',_,rfl,rfl,CL (D':=⟨_,Q,_,_⟩) Z hi fe fd (rv.mono (x4.trans x5)) sv λ l H6 x6 t=>q l H6 ((Jy.trans (x4.trans x5)).trans x6) ?_⟩;rw [<- ew] at t;exact t
 ·have V_:=k3 H4 kp;have x4:=ņ.trans V_;show gD "let by" (kM K (aq 4) "dealing") [some tv,some o,some (.str (aR k)),some dl,some (.ref x),none] H4 Q;refine fG (λ R hR=>⟨_,rfl,x,CT,dx,fs,dl,rfl,hg,KT.cls,KT.no _ aA,lf,hR⟩) (re.mono x4) sw λ l H5 x5 t=>q l H5 (x4.trans x5) ?_;rw [We h];exact t
end
theorem rT {bs:List Bool}(h:∀ b∈bs,b=true):fb bs=none:=by
 cases e:fb bs with
 | none=>rfl
 | some i=>exact absurd (h _ (ê (dR e).2)) ag
theorem wE (os:List (Int × Bool)):(os.map nV).map io=os:=by
 rw [ĕ];exact List.map_id os
theorem yt {G:Hp}{tv ov:V}{k:Nat}{dl:Int}{r:R0}{os:List (Int × Bool)}(c:Pw G tv ov k dl r os):dD r k (.list (os.map nV)) (.int dl)=(("let by" : Str),.int dl):=by
 have e1:fb ((os.map nV).map eX)=none:=rT λ b hb=>by
  obtain⟨d,hd,rfl⟩:=ā.mp hb;obtain⟨o,ho,rfl⟩:=ā.mp hd;have k:=c.ok o ho;show(decide ((-99:Int)<=o.1)&&decide (o.1<=99))&&true=true;rw [Ä k.1,Ä k.2];rfl
 have e2:fb (f8 k (.one r) os)=none:=by
  have su:k<2->fb (os.map (·.2))=none:=λ h=>rT λ b hb=>by
   obtain⟨o,ho,rfl⟩:=ā.mp hb;exact c.su h o ho
  match k,c.hk,c.sg,su with
  | 0,_,_,su=>exact su ag
  | 1,_,_,su=>exact su ag
  | 2,_,_,_=>rfl
  | 3,_,sg,_ =>
   have ip:=sg rfl;have e:f8 3 (.one r) os=[r.JV&&decide (r.ë.toNat%2=0)]:=iA r;have ev:r.ë.toNat%2=0:=by
    cases r with
    | pairs n a b=>show(2*n).toNat%2=0;omega
    | split n k=>cases ip
    | ö n a b f=>cases ip
   rw [e,ip,Ä ev];rfl
 have e3:c7 (.one r) (.int dl)=true:=by
  rw [i5 c.sm];exact Ä c.dl
 simp only [dD,e1];rw [Ï (by rw [Æ];exact c.ln),wE,e2]
 show(if c7 (.one r) (.int dl)=true then(("let by" : Str),PyData.int dl) else("dealing",.int dl))=_
 rw [Ï e3]
theorem lM (a b:Str):fZ [.str a,.str b] [.str a,.str b]=true:=by simp [fZ,kN]
abbrev AY:Stmt:=bw 99
abbrev Hu:List Str:=["_law_box_here","_law_told_here","_law_outcomes_here","_law_word","_law_dealing","_law_turn","_law_some","_law_bad","_law_thing","_law_other","_law_kept","_law_found"]
theorem g_:ad Hu ["_law_box_here"] (aa AY):=aF
def HF (a b:TE):TE:=aT (fL λ i j=>.int (Builtin.bitXor i j)) a b
def Hd:TE:=ie ke [] E0 (aw (aq 1) aP)
def pk:TE:=bE (aw (aq 4) (aw (aq 4) (aw (uE (aq 4) (tI 1)) (aw (HF (aq 4) (tI 1)) (aw (BB (tI 1) Hd) (aw (Hw 1) (aw (tC .ô) (aw (Jf true) aP))))))))
def vy:TE:=bE (aw (tC (.str "1")) (aw (bE (aw (aq 4) aP)) (aw (aT (rI vG λ i j=>.int (i^j.toNat)) (tI 10) (tI 29)) aP)))
def Gr (i j k:Nat):TA:=aw (aq 1) (aw (aq i) (aw (aq j) (aw (aq k) aP)))
def AG (i j k:Nat):TE:=qS rf E0 (Gr i j k)
def ze (i:Nat):TE:=nu tq (aw (aq i) aP)
def HV:TS:=cp (tB (aT qQ (fo 0 (tI 2)) (tI 0))) (cM (ie yE [] E0 (aw (aq 0) (aw (aq 2) aP))) (be 8)) bB
def FP (K:Frag):TS:=cM (aT (cX K) (bE (aw (aq 3) (aw (aq 3) (aw (tC (.str "signs")) (aw (tC (.str "ranks")) aP))))) (fo 0 (tI 4))) (be 9)
def G1 (K:Frag):TS:=cp (Hn (tB (aT (BA K not) (aq 11) (AG 8 9 7))) (tB (aT Fv (ze 8) (aq 10)))) (aV (tC (.bl false))) bB
def EI (K:Frag):TS:=az (cM pk (be 6)) (az (cM (aT (cX K) (aT eC (aq 6) vy) (fo 0 (tI 11))) (be 7)) (az (cM (aq 2) (be 8)) (az HV (az (FP K) (az (cM (ze 8) (be 10)) (az (cM (AG 8 9 7) (be 11)) (G1 K)))))))
def Iz (K:Frag):TS:=az (cM (ie wk [] E0 (aw (aq 0) (aw (tI 6) aP))) (tT K 4 (de (be 1) (de (be 2) (de (be 3) (de (be 4) qH))))))
 (az (gU (ff (aw (tI 8) aP)) (be 5) (EI K)) (aV (aT (BA K id) (AG 2 3 4) (fh (aw (tC (.str "let by")) (aw (ze 4) aP))))))
section
variable {P:Program}{w:World}{K:Frag}{mg:aX}{base:Heap}{f a1 a2 a3 a4 a5 a6:Addr}{fd d1 d2 d3 d4 d5 d6:FuncData}
structure EX (P:Program)(w:World)(K:Frag)(mg:aX)(base:Heap)(a1 a2 a3 a4 a5 a6:Addr)(d1 d2 d3 d4 d5 d6:FuncData):Prop where
 tk:Df P w K mg base ay 1 "_law_take" ["_law_box_here","_law_many"] c5 a1 d1
 ca:Df P w K mg base ay 7 "_law_case" ["_law_box_here","_law_most"] wk a2 d2
 fk:Df P w K mg base ay 1 "_law_folk" ["_law_told_here"] ke a3 d3
 sq:Df P w K mg base ay 2 "_law_spoilt" ["_law_box_here","_law_outcomes_here"] yE a4 d4
 ak:Df P w K mg base ay 13 "_law_asked" ["_law_told_here","_law_outcomes_here","_law_word","_law_dealing"] rf a5 d5
 du:Df P w K mg base ay 3 "_law_due" ["_law_told_here","_law_outcomes_here","_law_word","_law_dealing"] rf a6 d6
 mr:mg "range" = none
 mp:mg "repr" = none
section
variable {cdv:Value}{A:Around}{outer:List Env}{s:Shared}{H:Hp}{E:XK}
abbrev ig (P:Program)(w:World)(K:Frag)(mg:aX)(base:Heap)(f:Addr)(cdv:Value)(A:Around)(outer:List Env)(s:Shared)(H:Hp)(E:XK):Cx:=(cq ay P w K mg base Hu "_law_right" (aa AY) f cdv A outer s H E).υ
def wO (i:Nat):Stmt:=(aI AY).getD i (.Pass ⟨0,0,0,0⟩)
def kZ (i:Nat):Stmt:=match wO 1 with
 | .For _ _ b _ _=>b.getD i (.Pass ⟨0,0,0,0⟩)
 | _=>.Pass ⟨0,0,0,0⟩
section
variable (L:EX P w K mg base a1 a2 a3 a4 a5 a6 d1 d2 d3 d4 d5 d6)(hz:H sysModules=none)(hr:t3 13 "_law_right" AY A s f cdv)
include L hr
theorem Eg:Bx (PS (ig P w K mg base f cdv A outer s H E) (kZ 0) (cM pk (be 6))):=by
 have nd:=g_.nd;have Ĵ:î 1 _:=hr.mono ag;exact⟨dq (i:=6) nd rfl (Or.inl rfl) (Bx.h (cC (cU ⟨pv 4⟩ (cU ⟨pv 4⟩ (cU ⟨af aM (pv 4) au⟩ (cU ⟨af tJ (pv 4) au⟩ (cU ⟨af ft au (nq L.fk.G Ĵ rfl L.fk.m L.fk.kp L.fk.b .nil ai (ac (pv 1) ao))⟩ (cU ⟨jx gR au⟩ (cU ⟨gQ⟩ (cU ⟨l9⟩ aY))))))))))⟩
theorem Ep:Bx (PS (ig P w K mg base f cdv A outer s H E) (kZ 1) (cM (aT (cX K) (aT eC (aq 6) vy) (fo 0 (tI 11))) (be 7))):=by
 have nd:=g_.nd;have Ĵ:î 1 _:=hr.mono ag;exact⟨dq (i:=7) nd rfl (Or.inl rfl) (bC iQ (af dI (pv 6) (Bx.h (cC (cU ⟨cL⟩ (cU ⟨bJ (ac (pv 4) ao)⟩ (cU ⟨af rX au au⟩ aY)))))) (nq L.tk.G Ĵ rfl L.tk.m L.tk.kp L.tk.b .nil ai (ac (pv 0) (ac au ao))))⟩
theorem DH:Bx (PS (ig P w K mg base f cdv A outer s H E) (kZ 3) HV):=by
 have nd:=g_.nd;have Ĵ:î 1 _:=hr.mono ag;have JA:î 2 _:=hr.mono ag;exact⟨aG (ar bu (nq L.tk.G Ĵ rfl L.tk.m L.tk.kp L.tk.b .nil ai (ac (pv 0) (ac au ao))) au (av _)) (aK (dq (i:=8) nd rfl (Or.inl rfl) (nq L.sq.G JA rfl L.sq.m L.sq.kp L.sq.b .nil ai (ac (pv 0) (ac (pv 2) ao))))) dm⟩
theorem Ed:Bx (PS (ig P w K mg base f cdv A outer s H E) (kZ 4) (FP K)):=by
 have nd:=g_.nd;have Ĵ:î 1 _:=hr.mono ag;exact⟨dq (i:=9) nd rfl (Or.inl rfl) (bC iQ (Bx.h (cC (cU ⟨pv 3⟩ (cU ⟨pv 3⟩ (cU ⟨cL⟩ (cU ⟨cL⟩ aY)))))) (nq L.tk.G Ĵ rfl L.tk.m L.tk.kp L.tk.b .nil ai (ac (pv 0) (ac au ao))))⟩
include hz
theorem Er:Bx (PS (ig P w K mg base f cdv A outer s H E) (kZ 7) (G1 K)):=by
 have nd:=g_.nd;have KS:î 3 _:=hr.mono ag;exact⟨aG (PW.pt (gY (ar (zf hr.b_) (pv 11) (gy hz L.du.G KS rfl L.du.m L.du.kp L.du.b ai (ac (pv 1) (ac (pv 8) (ac (pv 9) (ac (pv 7) ao))))) (av _)) (fX (ar hX (am (bo hz hr.gd hr.units) rfl L.mp â (ac (pv 8) ao)) (pv 10) (av _))))) (aK (bh l9)) dm⟩
omit L hz hr in
theorem C6:Bx (PS (ig P w K mg base f cdv A outer s H E) (kZ 2) (cM (aq 2) (be 8))):=⟨dq (i:=8) g_.nd rfl (Or.inl rfl) (pv 2)⟩
theorem Cm:Bx (PS (ig P w K mg base f cdv A outer s H E) (kZ 5) (cM (ze 8) (be 10))):=⟨dq (i:=10) g_.nd rfl (Or.inl rfl) (am (bo hz hr.gd hr.units) rfl L.mp â (ac (pv 8) ao))⟩
theorem CQ:Bx (PS (ig P w K mg base f cdv A outer s H E) (kZ 6) (cM (AG 8 9 7) (be 11))):=⟨dq (i:=11) g_.nd rfl (Or.inl rfl) (gy hz L.ak.G hr rfl L.ak.m L.ak.kp L.ak.b ai (ac (pv 1) (ac (pv 8) (ac (pv 9) (ac (pv 7) ao)))))⟩
theorem GA:Bx (PS (ig P w K mg base f cdv A outer s H E) (wO 0) (cM (ie wk [] E0 (aw (aq 0) (aw (tI 6) aP))) (tT K 4 (de (be 1) (de (be 2) (de (be 3) (de (be 4) qH))))))):=by
 have nd:=g_.nd;have Xs:î 7 _:=hr.mono ag;exact⟨gn (nq L.ca.G Xs rfl L.ca.m L.ca.kp L.ca.b .nil ai (ac (pv 0) (ac au ao))) (vZ rfl (dZ (cT (i:=1) nd rfl (Or.inl rfl)) (dZ (cT (i:=2) nd rfl (Or.inl rfl)) (dZ (cT (i:=3) nd rfl (Or.inl rfl)) (dZ (cT (i:=4) nd rfl (Or.inl rfl)) aZ)))))⟩
theorem G9:Bx (PS (ig P w K mg base f cdv A outer s H E) (wO 1) (gU (ff (aw (tI 8) aP)) (be 5) (EI K))) :=
 ⟨dJ (tb:=EI K) Ē rfl (cg rfl L.mr (ac au ao)) (cT (i:=5) g_.nd rfl (Or.inl rfl)) (Bx.h (eM (Eg L hr) (eM (Ep L hr) (eM C6 (eM (DH L hr) (eM (Ed L hr) (eM (Cm L hz hr) (eM (CQ L hz hr) (cv (Er L hz hr))))))))))⟩
theorem FJ:Bx (PS (ig P w K mg base f cdv A outer s H E) (wO 2) (aV (aT (BA K id) (AG 2 3 4) (fh (aw (tC (.str "let by")) (aw (ze 4) aP)))))) :=
 ⟨bh (bX (on hr.b_) (gy hz L.ak.G hr rfl L.ak.m L.ak.kp L.ak.b ai (ac (pv 1) (ac (pv 2) (ac (pv 3) (ac (pv 4) ao))))) (aE (ac cL (ac (am (bo hz hr.gd hr.units) rfl L.mp â (ac (pv 4) ao)) ao))) (av _))⟩
theorem Az:Bx (Ũ (ig P w K mg base f cdv A outer s H E) (aI AY) (Iz K)):=eM (GA L hz hr) (eM (G9 L hz hr) (cv (FJ L hz hr)))
end
end
end
section
variable {p:Addr}{G:Hp}{σ:St}{te a b:TE}{H:Hp}{x y:Int}
theorem DI.pI (h:pI σ te x):DI p G σ te (.int x):=λ H _ _ _ q=>h H _ (q _ H (Ext.refl _) (.int x))
theorem BR (h:pI σ a x)(k:pI σ b y):pI σ (HF a b) (Builtin.bitXor x y):=λ H R r=>h H _ (k H _ ⟨_,_,rfl,rfl,r⟩)
theorem LM.di {ds:List PyData}(bx:į H p)(h:DI p (wo H p) σ te (.list ds)):LM p σ te H (· = ds):=λ Q q=>h H bx (Ext.refl _) _ λ v H' x' r=>by
 obtain⟨l,_,rfl,_,_⟩:=eV r;exact q l _ H' (PF.of bx x') r rfl
end
theorem yD (n:Nat)(h:n<64):0<=Builtin.bitXor ((n:Nat):Int) 1/\Builtin.bitXor ((n:Nat):Int) 1<64:=by
 have all:∀ j:Fin 64,0<=Builtin.bitXor ((j.val:Nat):Int) 1/\Builtin.bitXor ((j.val:Nat):Int) 1<64:=aA;exact all ⟨n,h⟩
def rJ (n:Int)(f:Nat):List PyData:=[.int n,.int n,.int (n+1),.int (Builtin.bitXor n 1),.int (1*2^f),.int (-1),.none,.bool true]
def wF (n:Int):List PyData:=[.str "1",.list [.int n],.int (10^(29:Int).toNat)]
theorem tj {n f:Nat}(h:n<64)(h2:f<=6):∀ d∈rJ (n:Nat) f++wF (n:Nat),fz d:=by
 have f2:2^f<=2^6:=ã ag h2;have e2:(1:Int)*2^f=((2^f:Nat):Int):=by push_cast;omega
 have f0:0<=((2^f:Nat):Int):=Int.natCast_nonneg _;have f3:((2^f:Nat):Int)<=64:=ae;generalize ((2^f:Nat):Int)=F at e2 f0 f3;have x:=yD n h;have si:∀{i:Int},-1000<=i->i<=1000->fz (.int i):=λ h1 h2=>(bZ h1 h2).show ag ag;intro d hd;simp only [rJ,wF,List.cons_append,List.nil_append,List.mem_cons,List.not_mem_nil,or_false] at hd;rcases hd with rfl | rfl | rfl | rfl | rfl | rfl | rfl | rfl | rfl | rfl | rfl
 ·exact si ae ae
 ·exact si ae ae
 ·exact si ae ae
 ·exact si ae ae
 ·rw [e2];exact si ae ae
 ·exact si ae ae
 ·exact Jc.show ag ag
 ·exact ŵ.show ag ag
 ·exact MW.show ag ag
 ·exact(j3 (k:=0) (n:=60) (m:=1) (ds:=[.int ((n:Nat):Int)]) (λ d hd=>by rw [Ð.mp hd];exact bZ ae ae) (Ç _)).show ag ag
 ·exact(tM aA).show ag ag
theorem sM {os:List (Int × Bool)}(ok:pY os)(l:os.length<=6):J5 (.list (os.map nV)):=J5.list (λ d hd=>by obtain⟨o,ho,rfl⟩:=ā.mp hd;exact xQ (ok o ho)) (by rw [Æ];omega)
section
variable {P:Program}{w:World}{K:Frag}{mg:aX}{base:Heap}{f a1 a2 a3 a4 a5 a6:Addr}{fd d1 d2 d3 d4 d5 d6:FuncData}
def CB:Sp:=λ vs H Q _=>∃ p,vs=[.ref p]/\į H p/\H sysModules=none/\∀ H',Kept H H' p->Q (.bl true) H'
theorem Ds (F:ė K "_law_right" "_law_right" AY f fd) (L:EX P w K mg base a1 a2 a3 a4 a5 a6 d1 d2 d3 d4 d5 d6):Ò P w K mg base ay 14 f fd ["_law_box_here"] CB:=by
 refine F.ok g_ (λ vs H Q E h=>?_) (λ cdv A outer s H vs Q E hr h=>?_)
 ·obtain⟨p,rfl,_⟩:=h;rfl
 obtain⟨p,rfl,bx,hz,q⟩:=h;refine gZ (Az L hz hr) ⟨?_⟩;refine⟨_,rfl,p,rfl,bx,λ c tv ov k dl r os H1 p1 hc JC=>⟨c,_,rfl,ÿ.of (aU _ _ _ _ hc),rfl,_,_,rfl,_,_,rfl,_,_,rfl,_,_,rfl,rfl,?_⟩⟩;show az (gU (ff (aw (tI 8) aP)) (be 5) (EI K)) (aV (aT (BA K id) (AG 2 3 4) (fh (aw (tC (.str "let by")) (aw (ze 4) aP))))) ⟨λ _ H'=>Q .ô H',Q,λ _ _=>False,λ _ _=>False⟩ [some (.ref p),some tv,some ov,some (.str (aR k)),some (.int dl),none,none,none,none,none,none,none] H1;have f6:=JC.sm.fk;have ln:=JC.ln;obtain⟨n,hn,rfl⟩:=JC.dl;have WW:n<64:=by
  have lt:=JC.sm.Kz.2.2.2.1 n hn;have p6:2^r.ë.toNat<=2^6:=ã ag ae;omega
 refine⟨8,rfl,ag,ag,?_⟩;refine dw (lo:=0) (n:=8) (λ i σ H'=>PF p H1 H'/\∃ o5 o6 o7 o8 o9 L7 L6,σ=[some (.ref p),some tv,some ov,some (.str (aR k)),some (.int (n:Nat)),o5,o6,o7,o8,o9,L7,L6]) ⟨PF.refl p1.b,_,_,_,_,_,_,_,rfl⟩ ?_ ?_
 ·rintro i σ H2 hi ⟨p2,o5,o6,o7,o8,o9,L7,L6,rfl⟩;have KZ:=JC.ext p2.o;show EI K _ [some (.ref p),some tv,some ov,some (.str (aR k)),some (.int (n:Nat)),some (.int (0+(i:Int))),o6,o7,o8,o9,L7,L6] H2;have l1:LM p [some (.ref p),some tv,some ov,some (.str (aR k)),some (.int (n:Nat)),some (.int (0+(i:Int))),o6,o7,o8,o9,L7,L6] pk H2 (· = rJ (n:Nat) r.ë.toNat) :=
   LM.di p2.b (Je.lst (.cons (.v rfl (.int _)) (.cons (.v rfl (.int _)) (.cons (.pI (gA (bS rfl) eF)) (.cons (.pI (BR (bS rfl) eF)) (.cons (λ G bg xg R h=>⟨_,rfl,tv,r,rfl,(KZ.td.mono xg).mono (aU _ _),KZ.sm,λ G' x'=>⟨_,_,rfl,rfl,⟨ae,ae,ag⟩,h _ G' x' (.int _)⟩⟩) (.cons .neg (.cons .ô (.cons .bl .nil)))))))) (by show 8<=1000;decide))
  refine cI (te:=pk) (i:=6) (l1 _ λ l3 YX H3 p3 r3 e3=>?_);subst e3;have l2:LM p [some (.ref p),some tv,some ov,some (.str (aR k)),some (.int (n:Nat)),some (.int (0+(i:Int))),some (.ref l3),o7,o8,o9,L7,L6] (aT eC (aq 6) vy) H3 (· = rJ (n:Nat) r.ë.toNat++wF (n:Nat)) :=
   LM.NI (S:=(· = rJ (n:Nat) r.ë.toNat)) (T:=(· = wF (n:Nat))) (LM.v rfl p3.b r3 rfl) (λ H4 p4=>LM.di p4.b (Je.lst (.cons .str (.cons (Je.lst (.cons (.v rfl (.int _)) .nil) (by show 1<=1000;decide)) (.cons (λ G bg xg R h=>⟨_,_,rfl,rfl,⟨ag,ag,ag⟩,h _ G (Ext.refl _) (.int _)⟩) .nil))) (by show 3<=1000;decide))) (λ _ e=>by rw [e];show 8<=50;decide) (λ _ e=>by rw [e];show 3<=50;decide) (λ _ _ e e2=>by rw [e,e2])
  refine cI (te:=aT (cX K) (aT eC (aq 6) vy) (fo 0 (tI 11))) (i:=7) (EM.pick (n:=11) (S:=fz) rfl l2 rfl ag ag (tj WW ae) _ λ bv e H4 p4 re sw=>?_);refine⟨_,rfl,?_⟩;have SS:=(p2.trans p3).trans p4;have Pr:=JC.ext SS.o;have go:∀ v d H5,PF p H4 H5->õ (wo H5 p) v d->J5 d->az (FP K) (az (cM (ze 8) (be 10)) (az (cM (AG 8 9 7) (be 11)) (G1 K))) ⟨(λ i σ H'=>PF p H1 H'/\∃ o5 o6 o7 o8 o9 L7 L6,σ=[some (.ref p),some tv,some ov,some (.str (aR k)),some (.int (n:Nat)),o5,o6,o7,o8,o9,L7,L6]) (i+1),Q,λ _ _=>False,λ _ _=>False⟩ [some (.ref p),some tv,some ov,some (.str (aR k)),some (.int (n:Nat)),some (.int (0+(i:Int))),some (.ref l3),some bv,some v,o9,L7,L6] H5:=λ v d H5 p5 rv v_=>by
   refine cI (te:=aT (cX K) (bE (aw (aq 3) (aw (aq 3) (aw (tC (.str "signs")) (aw (tC (.str "ranks")) aP))))) (fo 0 (tI 4))) (i:=9) (kI (n:=4) (xs:=[.str (aR k),.str (aR k),.str "signs",.str "ranks"]) rfl p5.b rfl ag ag (λ R h=>⟨_,rfl,_,rfl,h⟩) λ j hj wv H6 ew p6=>?_);obtain⟨k',rfl,Pd⟩:∃ k',wv=.str (aR k')/\k'<4:=by
    match j,hj,ew with
    | 0,_,ew=>cases ew;exact⟨k,rfl,JC.hk⟩
    | 1,_,ew=>cases ew;exact⟨k,rfl,JC.hk⟩
    | 2,_,ew=>cases ew;exact⟨3,rfl,ag⟩
    | 3,_,ew=>cases ew;exact⟨1,rfl,ag⟩
   have QK:=p5.trans p6;have t6:=(Pr.td.mono QK.o).mono (aU _ _);have v6:=(rv.mono p6.o).mono (aU _ _);have e6:=(re.mono QK.o).mono (aU _ _);refine⟨_,rfl,v,d,rfl,v6,v_.show,?_⟩;refine⟨_,rfl,_,rfl,_,rfl,_,rfl,λ Xa=>⟨tv,v,bv,r,k',d,e,rfl,Xa,t6,JC.sm,Pd,v6,v_,e6,sw,λ l7 H7 x7 t7=>?_⟩⟩;refine⟨_,rfl,_,rfl,_,rfl,_,rfl,_,rfl,λ W_=>⟨tv,v,bv,r,k',d,e,rfl,W_,t6.mono x7,JC.sm,Pd,v6.mono x7,v_,e6.mono x7,sw,λ l8 H8 x8 t8=>⟨l7,l8,_,_,rfl,rfl,č.of (x8 _ _ t7),č.of t8,rfl,rfl,_,rfl,?_⟩⟩⟩;show if(!fZ _ _)=true then _ else _
   rw [lM];refine cJ ⟨_,rfl,v,d,rfl,v6.mono (x7.trans x8),v_.show,_,rfl,rfl,_,rfl,?_⟩;show if(!decide (V.str d.shown=V.str d.shown))=true then _ else _
   rw [Ä rfl];exact cJ ⟨SS.trans (QK.trans (PF.of p6.b (x7.trans x8))),_,_,_,_,_,_,_,rfl⟩
  refine c8 (m:=2) rfl p4.b (λ R h=>h) ag ag λ x H5 x0 x2 p5=>⟨rfl,_,rfl,?_⟩;have SQ:=Pr.ou.mono p5.o;show if decide (V.int x=V.int 0)=true then _ else _
  cases decide (V.int x=V.int 0) with
  | false=>exact cJ (go ov _ H5 p5 SQ (sM JC.ok ae))
  | true=>exact cK ⟨_,rfl,_,rfl,p,ov,os,rfl,p5.b,SQ,JC.ok,ae,ae,λ v d H6 p6 rv v_=>go v d H6 (p5.trans p6) rv v_⟩
 ·rintro σ H2 ⟨p2,o5,o6,o7,o8,o9,L7,L6,rfl⟩;have KZ:=JC.ext p2.o;have WN:os.length<=6:=ae;refine⟨_,rfl,_,rfl,_,rfl,_,rfl,λ N2=>⟨tv,ov,.int (n:Nat),r,k,.list (os.map nV),.int (n:Nat),rfl,N2,KZ.td.mono (aU _ _),JC.sm,JC.hk,KZ.ou.mono (aU _ _),sM JC.ok WN,.int _,dA ae,λ l H3 x3 t=>?_⟩⟩;rw [yt KZ] at t;refine⟨_,rfl,.int (n:Nat),.int (n:Nat),rfl,.int _,dA ae,dy,λ l2 Jg=>⟨l,l2,_,_,rfl,rfl,č.of (Ext.new Jg _ _ t),č.of aQ,rfl,rfl,?_⟩⟩;show Q (.bl (fZ _ _)) _;rw [lM];exact q _ ((p1.trans p2).trans (PF.of p2.b (x3.trans (Ext.new Jg)))).k
abbrev yg:Stmt:=bw 100
def oI (K:Frag):Sp:=λ vs H Q _=>∃(a:Addr)(ns:List Int),vs=[.ref a]/\ÿ K H a (ns.map V.int)/\ns.length<=63/\H sysModules=none/\∀ H',Q (.bl true) H'
abbrev IH:List Str:=["_law_script","_law_k"]
theorem Ol:ad IH ["_law_script"] (aa yg):=aF
theorem AH (F:ė K "law" "law" yg f fd) (Ar:Df P w K mg base ay 14 "_law_right" ["_law_box_here"] CB a1 d1) (Ab:Df P w K mg base ay 1 "_law_box" ["_law_cell_here"] wW a2 d2) (Ac:Df P w K mg base ay 1 "_law_cell" ["_law_script","_law_k"] (tG K) a3 d3)
  (ml:mg "len" = none) (mr:mg "range" = none) (mx:mg "max" = none) (mm:mg "min" = none):Ò P w K mg base ay 15 f fd ["_law_script"] (oI K):=by
 refine F.ok Ol (λ vs H Q E h=>?_) (λ cdv A outer s H vs Q E hr h=>?_)
 ·obtain⟨a,ns,rfl,_⟩:=h;rfl
 obtain⟨a,ns,rfl,ha,Z2,hz,q⟩:=h;have nd:=Ol.nd;have Ĵ:î 1 _:=hr.mono ag;refine⟨_,ba (dJ Ē rfl (cg rfl mr (ac (am (qv rfl) rfl mx PyProof.Rows.boot_max (ac au (ac (am (qf rfl) rfl mm PyProof.Rows.boot_min (ac (am aH rfl ml ò (ac (pv 0) ao)) (ac au ao))) ao))) ao)) (cT (i:=1) nd rfl (Or.inl rfl))
   (aK (aG (bD (bf (gy hz Ar.G hr rfl Ar.m Ar.kp Ar.b ai (ac (br Ab Ĵ ai (ac (br Ac Ĵ ai (ac (pv 0) (ac (pv 1) ao))) ao)) ao)))) (aK (bh l9)) dm)))
  (aK (bh l9)),?_⟩
 have hn:∃ n:Nat,n<=5/\(if(if(5:Int)<(((ns.map V.int).length:Nat):Int) then 5 else(((ns.map V.int).length:Nat):Int))>1 then(if(5:Int)<(((ns.map V.int).length:Nat):Int) then 5 else(((ns.map V.int).length:Nat):Int)) else 1)=(n:Int):=by
  refine⟨(if(if(5:Int)<(((ns.map V.int).length:Nat):Int) then 5 else(((ns.map V.int).length:Nat):Int))>1 then(if(5:Int)<(((ns.map V.int).length:Nat):Int) then 5 else(((ns.map V.int).length:Nat):Int)) else 1).toNat,?_,?_⟩ <;>(repeat' split) <;> omega
 obtain⟨n,n5,en⟩:=hn;refine⟨_,rfl,a,_,rfl,.inl ha,_,_,rfl,_,_,rfl,_,rfl,?_⟩;rw [en];refine⟨ae,ae,?_⟩;rw [Î];refine dw (n:=n) (λ i σ H'=>Ext H H'/\∃ o1,σ=[some (.ref a),o1]) ⟨Ext.refl _,_,rfl⟩ ?_ ?_
 ·rintro i σ H' hi ⟨x',o1,rfl⟩;refine⟨_,rfl,_,rfl,a,ns,_,rfl,My.ÿ.ext ha x',ae,ae,λ c=>⟨c,rfl,λ p H2 hp x2 bx=>λ N2=>⟨p,rfl,bx,N2,λ H3 k3=>⟨_,rfl,cJ ⟨?_,_,rfl⟩⟩⟩⟩⟩;exact λ b o h=>k3 b o (x2 _ _ (x' b o h)) (λ e=>by have:=x' b o h;rw [e,hp] at this;cases this)
 ·rintro σ H' ⟨x',o1,rfl⟩;exact q H'
end
theorem Ck {K:Frag}{D C f:Addr}{nm:Str}(T:ĵ K D nm C f)(b:Value):mroIn K C b=some ((Value.ref C :: .ref D::oM).contains b):=by
 obtain⟨cd,h1,_,h3⟩:=T.clsIn;unfold mroIn;rw [h1,Η,h3];rfl
theorem AI {K:Frag}{D C f:Addr}{nm:Str}(T:ĵ K D nm C f)(B:Ī K D):C≠D:=by
 intro e;obtain⟨q,N,bs,sn,sub,ab,col,dd,k0,k1,k2,k3,k5,l⟩:=T.cls;obtain⟨MO,q',N',R7,QF,Nh,R9,NH,Mo,Ri,O0,Rh,Rg,Rf,l',_⟩:=B.cls;rw [e,l'] at l;have z:=Ó l;injection z with _ _ z _
 injection z with z
 injection z with _ _ z
 cases z
theorem tQ {K:Frag}{D C f C' f':Addr}{nm MO:Str}(T:ĵ K D nm C f)(T':ĵ K D MO C' f')(h:nm≠MO):C'≠C:=by
 intro e;obtain⟨q,N,bs,sn,sub,ab,col,dd,k0,k1,k2,k3,k5,l⟩:=T.cls;obtain⟨q',N',R7,QF,Nh,R9,NH,Mo,Ri,O0,Rh,Rg,Rf,l'⟩:=T'.cls;rw [e,l] at l';have z:=Ó l';injection z with _ _ z _
 injection z with z
 injection z with z
 exact h z
theorem sA {K:Frag}{D:Addr}(B:Ī K D):typeIn K (.ref D)=some (.type "type"):=by
 obtain⟨MO,q',N',R7,QF,Nh,R9,NH,Mo,Ri,O0,Rh,Rg,Rf,l',_⟩:=B.cls;show(List.lookup D K).map (·.cls)=_;rw [l'];rfl
theorem vc {K:Frag}{D:Addr}(B:Ī K D):∃ cd,clsIn K D=some cd:=by
 obtain⟨MO,q',N',R7,QF,Nh,R9,NH,Mo,Ri,O0,Rh,Rg,Rf,l',_⟩:=B.cls;unfold clsIn;rw [l'];exact⟨_,rfl⟩
abbrev BP (nm qn:Str)(st:Stmt)(ps:List Str):Prop:=∀(kV doc pm:Value)(an:Option Addr)(cdv ct:Value)(us:List Value),us.length=ps.length->bindArgs (PySem.W.fnOf nm qn (cV st) (aI st) (aa st) .none kV doc pm an cdv ct) ⟨us,[]⟩=pure (ps.zip us)
abbrev BQ (nm qn:Str)(st:Stmt)(ps:List Str)(us:List Value):Prop:=∀(kV doc pm:Value)(an:Option Addr)(cdv ct:Value),bindArgs (PySem.W.fnOf nm qn (cV st) (aI st) (aa st) .none kV doc pm an cdv ct) ⟨us,[]⟩=pure (ps.zip us)
theorem b1 {nm qn a:Str}{st:Stmt}(h:∀ u,BQ nm qn st [a] [u]:=by exact λ _ _ _ _ _ _ _=>rfl):BP nm qn st [a]:=λ _ _ _ _ _ _ us hl=>match us,hl with | [_],_=>h _ _ _ _ _ _ _
theorem b2 {nm qn a b:Str}{st:Stmt}(h:∀ u v,BQ nm qn st [a,b] [u,v]:=by exact λ _ _ _ _ _ _ _ _=>rfl):BP nm qn st [a,b]:=λ _ _ _ _ _ _ us hl=>match us,hl with | [_,_],_=>h _ _ _ _ _ _ _ _
theorem b3 {nm qn a b c:Str}{st:Stmt}(h:∀ u v w,BQ nm qn st [a,b,c] [u,v,w]:=by exact λ _ _ _ _ _ _ _ _ _=>rfl):BP nm qn st [a,b,c]:=λ _ _ _ _ _ _ us hl=>match us,hl with | [_,_,_],_=>h _ _ _ _ _ _ _ _ _
theorem b4 {nm qn a b c d:Str}{st:Stmt}(h:∀ u v w x,BQ nm qn st [a,b,c,d] [u,v,w,x]:=by exact λ _ _ _ _ _ _ _ _ _ _=>rfl):BP nm qn st [a,b,c,d]:=λ _ _ _ _ _ _ us hl=>match us,hl with | [_,_,_,_],_=>h _ _ _ _ _ _ _ _ _ _
theorem b5 {nm qn a b c d e:Str}{st:Stmt}(h:∀ u v w x y,BQ nm qn st [a,b,c,d,e] [u,v,w,x,y]:=by exact λ _ _ _ _ _ _ _ _ _ _ _=>rfl):BP nm qn st [a,b,c,d,e]:=λ _ _ _ _ _ _ us hl=>match us,hl with | [_,_,_,_,_],_=>h _ _ _ _ _ _ _ _ _ _ _
abbrev OQ (K:Frag)(mg:aX)(D:Addr)(nm fl:Str)(C f:Addr)(fd:FuncData):Prop:=Ī K D->mg "DealError" = some (.ref D)->jq K mg D nm fl C f fd
theorem oz {K:Frag}{mg:aX}{D C f:Addr}{fd:FuncData}{nm qn fl txt:Str}{st:Stmt}(T:ĵ K D nm C f)(mC:mg nm=some (.ref C))(F:ė K "__init__" qn st f fd) (tk:takerIn K C fl=some none) (S:ad ["self",fl] ["self",fl] (aa st)) (hb:BP "__init__" qn st ["self",fl])
  (NG:Ī K D->mg "DealError" = some (.ref D)->∀(P:Program)(w:World)(base:Heap)(cdv:Value)(A:Around)(outer:List Env)(s:Shared)(H:Hp)(E:XK),Ũ (cq ay P w K mg base ["self",fl] qn (aa st) f cdv A outer s H E).υ (aI st) (az (mn (Ia (aq 0) (tC (.str txt)) C)) (Cn K C (aq 0) (aq 1) fl))):OQ K mg D nm fl C f fd:=by
 refine λ B mD=>⟨T,mC,λ P w base=>?_,F.binds hb⟩;refine F.ok S (λ vs H Q E h=>?_) (λ cdv A outer s H vs Q E hr h=>?_)
 ·obtain⟨x,v,rfl,_⟩:=h;rfl
 obtain⟨x,v,rfl,hx,q⟩:=h;exact⟨_,NG B mD P w base cdv A outer s H E,_,rfl,x,rfl,hx,_,rfl,_,rfl,x,rfl,hx,tk,q⟩
abbrev EG:Stmt:=aB (bw 3) 0
theorem WJ {K:Frag}{mg:aX}{D C f:Addr}{fd:FuncData}(T:ĵ K D "NoShare" C f) (mC:mg "NoShare" = some (.ref C)) (F:ė K "__init__" "NoShare.__init__" EG f fd) (tk:takerIn K C "found" = some none):OQ K mg D "NoShare" "found" C f fd :=
 oz T mC F tk aF b2 λ B mD _ _ _ _ _ _ _ _ _=>ba (ax (bM B T rfl mD (pv 0) cL)) (aK (fW T (pv 0) (pv 1) rfl))
abbrev CK:Stmt:=aB (bw 4) 0
theorem WI {K:Frag}{mg:aX}{D C f:Addr}{fd:FuncData}(T:ĵ K D "NoNumber" C f) (mC:mg "NoNumber" = some (.ref C)) (F:ė K "__init__" "NoNumber.__init__" CK f fd) (tk:takerIn K C "found" = some none):OQ K mg D "NoNumber" "found" C f fd :=
 oz T mC F tk aF b2 λ B mD _ _ _ _ _ _ _ _ _=>ba (ax (bM B T rfl mD (pv 0) cL)) (aK (fW T (pv 0) (pv 1) rfl))
abbrev EY:Stmt:=aB (bw 5) 0
theorem WH {K:Frag}{mg:aX}{D C f:Addr}{fd:FuncData}(T:ĵ K D "NoFolk" C f) (mC:mg "NoFolk" = some (.ref C)) (F:ė K "__init__" "NoFolk.__init__" EY f fd) (tk:takerIn K C "found" = some none):OQ K mg D "NoFolk" "found" C f fd :=
 oz T mC F tk aF b2 λ B mD _ _ _ _ _ _ _ _ _=>ba (ax (bM B T rfl mD (pv 0) cL)) (aK (fW T (pv 0) (pv 1) rfl))
abbrev Fa:Stmt:=aB (bw 6) 0
theorem WG {K:Frag}{mg:aX}{D C f:Addr}{fd:FuncData}(T:ĵ K D "NoDealing" C f) (mC:mg "NoDealing" = some (.ref C)) (F:ė K "__init__" "NoDealing.__init__" Fa f fd) (tk:takerIn K C "found" = some none):OQ K mg D "NoDealing" "found" C f fd :=
 oz T mC F tk aF b2 λ B mD _ _ _ _ _ _ _ _ _=>ba (ax (bM B T rfl mD (pv 0) cL)) (aK (fW T (pv 0) (pv 1) rfl))
abbrev D1:Stmt:=aB (bw 7) 0
theorem WF {K:Frag}{mg:aX}{D C f:Addr}{fd:FuncData}(T:ĵ K D "NoOutcome" C f) (mC:mg "NoOutcome" = some (.ref C)) (F:ė K "__init__" "NoOutcome.__init__" D1 f fd) (tk:takerIn K C "place" = some none):OQ K mg D "NoOutcome" "place" C f fd :=
 oz T mC F tk aF b2 λ B mD _ _ _ _ _ _ _ _ _=>ba (ax (bM B T rfl mD (pv 0) cL)) (aK (fW T (pv 0) (pv 1) rfl))
abbrev EB:Stmt:=aB (bw 8) 0
theorem WE {K:Frag}{mg:aX}{D C f:Addr}{fd:FuncData}(T:ĵ K D "NotSure" C f) (mC:mg "NotSure" = some (.ref C)) (F:ė K "__init__" "NotSure.__init__" EB f fd) (tk:takerIn K C "place" = some none):OQ K mg D "NotSure" "place" C f fd :=
 oz T mC F tk aF b2 λ B mD _ _ _ _ _ _ _ _ _=>ba (ax (bM B T rfl mD (pv 0) cL)) (aK (fW T (pv 0) (pv 1) rfl))
abbrev DY:Stmt:=aB (bw 9) 0
theorem WD {K:Frag}{mg:aX}{D C f:Addr}{fd:FuncData}(T:ĵ K D "NoPairs" C f) (mC:mg "NoPairs" = some (.ref C)) (F:ė K "__init__" "NoPairs.__init__" DY f fd) (tk:takerIn K C "block" = some none):OQ K mg D "NoPairs" "block" C f fd :=
 oz T mC F tk aF b2 λ B mD _ _ _ _ _ _ _ _ _=>ba (ax (bM B T rfl mD (pv 0) cL)) (aK (fW T (pv 0) (pv 1) rfl))
theorem iI {K:Frag}{D C f:Addr}{nm fld:Str}(T:ĵ K D nm C f)(nf:findIn K (.ref C) fld=some none):rE K C fld:=by
 obtain⟨cd,h1,h2,h3⟩:=T.clsIn;refine⟨T.it,?_,nf⟩;unfold hasDictIn;rw [h1];exact h2
theorem i9 {K:Frag}{D C f:Addr}{nm:Str}(T:ĵ K D nm C f):jT K C:=by
 obtain⟨cd,h1,h2,h3⟩:=T.clsIn;exact⟨⟨cd,h1⟩,T.type,T.it.mb⟩
theorem rp {K:Frag}{D:Addr}(B:Ī K D):jT K D:=⟨vc B,sA B,B.it.mb⟩
theorem fJ {K:Frag}{D C f:Addr}{nm:Str}(T:ĵ K D nm C f):mroIn K C (.ref C)=some true:=by
 rw [Ck T,ą,Ŗ];rfl
theorem eB {K:Frag}{D C f C' f':Addr}{nm MO:Str}(B:Ī K D)(T:ĵ K D nm C f)(T':ĵ K D MO C' f')(h:nm≠MO):mroIn K C (.ref C')=some false:=by
 have ne:=tQ T T' h;have nd:=AI T' B;rw [Ck T,ą,ą];have n1:(Value.ref C'==Value.ref C)=false:=Þ.mpr λ z=>ne (J9 z);have n2:(Value.ref C'==Value.ref D)=false:=Þ.mpr λ z=>nd (J9 z);rw [n1,n2];rfl
theorem bU {K:Frag}{C:Addr}{n:String}{b:Bool}(hm:kitMeta n=true)(h:mroIn K C (.type n)=some b):kitOne K (.ref C) (.type n)=some b:=by
 unfold kitOne;rw [Ì (by intro e;cases Ą.mp e)]
 show(if kitMeta n=true then subIn K (.ref C) (.type n) else none)=_
 rw [Ï hm];exact h
theorem bY {K:Frag}{C C':Addr}{b:Bool}(hc:isClsIn K C'=true)(ht:typeIn K (.ref C')=some (.type "type")) (hs:mroIn K C' (.ref C')=some true) (hm:mroIn K C (.ref C')=some b):kitOne K (.ref C) (.ref C')=some b:=by
 unfold kitOne;by_cases e:C=C'
 ·subst e;rw [hs] at hm;cases hm;rw [Ï (Ŗ _)]
 ·rw [Ì (by intro z;exact e (J9 (Ą.mp z)))]
  show(if((clsIn K C').isSome&&typeIn K (.ref C')==some (.type "type"))=true then subIn K (.ref C) (.ref C') else none)=_
  have LO:(clsIn K C').isSome=true:=hc;rw [LO,ht];simp only [beq_self_eq_true,Bool.and_self,if_true];exact hm
theorem c6 {K:Frag}{C C':Addr}(hs:mroIn K C' (.ref C')=some true)(hm:mroIn K C (.ref C')=some false):C≠C':=λ e=>by
 subst e;rw [hs] at hm;cases hm
structure Dm (K:Frag)(nm qual:Str)(st:Stmt)(ps:List Str)(f:Addr)(fd:FuncData):Prop where
 fn:ė K nm qual st f fd
 bi:Binds K fd ps []
 kp:keepIn K (.ref f)=true
 Ř:isFn K (.ref f)=true
def Bg:Value->Bool
 | .str _ _=>true
 | _=>false
theorem JM {es:Array DictEntry}(h:(es.toList.all λ e=>Bg e.key)=true):StrKeys es:=λ e he=>by
 have z:=é.mp h e (by simpa using he)
 cases k:e.key with
 | str n t=>exact⟨n,t,rfl⟩
 | _=>rw [k] at z;cases z
theorem kA {K:Frag}{C:Addr}{cd:ClassData}{b:Value}(h:clsIn K C=some cd)(hb:cd.mro.isEmpty=false)(hc:cd.mro.contains b=true):mroIn K C b=some true:=by
 unfold mroIn;rw [h,Η,hb,hc];rfl
theorem Mp {K:Frag}{D N:Addr}{nm q:Str}{bs:List Value}{sn:List Str}{sub:List Value}{ab:Bool}{col:Option Bool}{dd:Option Addr}{k0 k1 k2 k3 k5:Option Value}
  {cN:Value} {dN:Option Addr} {es:Array DictEntry} {ep:Nat} {sN:Array (Option Value)}
  (lD:K.lookup D=some (excClassObj nm q D N bs oM true sn sub ab col dd k0 k1 k2 k3 k5 "ValueError.__new__"))
  (lN:K.lookup N=some ⟨cN,dN,.dict es ep,sN⟩) (sk:StrKeys es) (ni:nsFind es "__init__" = none)
  (ga:specialIn K (.ref D) "__getattribute__" = some (some (.builtin "type.__getattribute__"))) (rd:readsIn K D (.type "type")=true)
  (O3:findCls K (.ref D) (.type "type") "__init__" = some (.val (.builtin "ValueError.__init__"))) (fi:findIn K (.ref D) "__init__" = some (some (.builtin "ValueError.__init__"))) (kp:keepIn K (.ref D)=true)
  (gb:findIn K (.ref D) "__getattribute__" = some (some (.builtin nI))) (hk:findIn K (.ref D) "__getattr__" = some none) (ca:findIn K (.ref D) "__class__" = some (some (.builtin "object.__class__"))):Ī K D:=by
 have hc:clsIn K D=some { name:=nm,bases:=bs,mro:=.ref D::oM,ns:=N,qualname:=q,hasDict:=true,slotNames:=sn,subclasses:=sub,abstract:=ab,collection:=col,hasDel:=false }:=by
  unfold clsIn;rw [lD]
 refine⟨⟨nm,q,N,bs,sn,sub,ab,col,dd,k0,k1,k2,k3,k5,lD,_,es,ep,lN,rfl,sk,ni⟩,ga,rd,O3,fi,kp,⟨by rw [hc];rfl,gb,hk,kA hc rfl ?_,kA hc rfl ?_,ca⟩⟩
 ·show(Value.ref D::oM).contains (.type "BaseException")=true;rw [ą];rfl
 ·show(Value.ref D::oM).contains (.type "object")=true;rw [ą];rfl
theorem Α {K:Frag}{D C N f:Addr}(nm:Str)
  {q:Str} {bs:List Value} {sn:List Str} {sub:List Value} {ab:Bool} {col:Option Bool} {dd:Option Addr} {k0 k1 k2 k3 k5:Option Value}
  (lC:K.lookup C=some (excClassObj nm q C N bs (.ref D::oM) true sn sub ab col dd k0 k1 k2 k3 k5 "ValueError.__new__"))
  (O3:findIn K (.ref C) "__init__" = some (some (.ref f))) (fn:typeIn K (.ref f)=some (.type "function")) (kp:keepIn K (.ref C)=true)
  (sa:findIn K (.ref C) "__setattr__" = some (some (.builtin "object.__setattr__"))) (ga:findIn K (.ref C) "__getattribute__" = some (some (.builtin nI))) (hk:findIn K (.ref C) "__getattr__" = some none)
  (ca:findIn K (.ref C) "__class__" = some (some (.builtin "object.__class__"))):ĵ K D nm C f:=by
 have hc:clsIn K C=some { name:=nm,bases:=bs,mro:=.ref C :: .ref D::oM,ns:=N,qualname:=q,hasDict:=true,slotNames:=sn,subclasses:=sub,abstract:=ab,collection:=col,hasDel:=false }:=by
  unfold clsIn;rw [lC]
 refine⟨⟨q,N,bs,sn,sub,ab,col,dd,k0,k1,k2,k3,k5,lC⟩,O3,fn,kp,sa,⟨by rw [hc];rfl,ga,hk,kA hc rfl ?_,kA hc rfl ?_,ca⟩⟩
 ·show(Value.ref C :: .ref D::oM).contains (.type "BaseException")=true;rw [ą,ą];rfl
 ·show(Value.ref C :: .ref D::oM).contains (.type "object")=true;rw [ą,ą];rfl
structure Dn (K:Frag)(mg:aX)(nm:Str)(st:Stmt)(ps:List Str)(f:Addr)(fd:FuncData):Prop where
 fn:ė K nm nm st f fd
 bi:Binds K fd ps []
 kp:keepIn K (.ref f)=true
 mg:mg nm=some (.ref f)
section
variable {P:Program}{w:World}{K:Frag}{mg:aX}{base:Heap}
theorem Dn.df {nm:Str}{st:Stmt}{ps:List Str}{f:Addr}{fd:FuncData}(d:Dn K mg nm st ps f fd){cx:iC}{k:Nat}{sp:Sp}(h:Ò P w K mg base cx k f fd ps sp):Df P w K mg base cx k nm ps sp f fd:=⟨h,d.bi,d.kp,d.mg⟩
end
def jN (a b c:Addr):Nat->Addr
 | 0=>a
 | 1=>b
 | _=>c
theorem pC {K:Frag}{p:Addr}{i j:Nat}{od:Option Addr}{t u:Tok}{n:Nat}{sl:Array (Option Value)}(l:K.lookup p=some ⟨.type "tuple",od,.seq #[.int i t,.int j u] n,sl⟩):kE K p [.int i,.int j] :=
 ⟨_,_,_,l,rfl,rfl,dy,.cons ⟨_,rfl⟩ (.cons ⟨_,rfl⟩ .nil)⟩
structure Cf (K:Frag)(C:Addr):Prop where
 cls:K4 K C
 MQ:makesIn K C=true
 kp:keepIn K (.ref C)=true
 ca:findIn K (.ref C) "__class__" = some (some (.builtin "object.__class__"))
 hm:mroIn K C (.type "object")=some true
 Ma:isClsIn K C=true
 LZ:typeIn K (.ref C)=some (.type "type")
theorem Pq {K:Frag}{C:Addr}(h1:plainGet K C Str.empty=true)(h2:hasDictIn K C=true)(h3:plainOver K C=true)(h4:findIn K (.ref C) "__setattr__" = some (some (.builtin "object.__setattr__"))) (h5:makesIn K C=true) (h6:keepIn K (.ref C)=true) (h7:findIn K (.ref C) "__class__" = some (some (.builtin "object.__class__"))) (h8:mroIn K C (.type "object")=some true) (h9:isClsIn K C=true) (h0:typeIn K (.ref C)=some (.type "type")):Cf K C:=⟨⟨h1,h2,h3,h4⟩,h5,h6,h7,h8,h9,h0⟩
def K3 (K:Frag)(C:Addr):List Str->Prop
 | []=>True
 | f::l=>findIn K (.ref C) f=some none/\K3 K C l
theorem WO {K:Frag}{C:Addr}{f:Str}{l:List Str}(h:findIn K (.ref C) f=some none)(t:K3 K C l):K3 K C (f::l):=⟨h,t⟩
theorem K3.all {K:Frag}{C:Addr}:∀{l:List Str},K3 K C l->∀ f∈l,ř K C f
 | _::_,h,f,hf=>by
  rcases ß.mp hf with rfl | hf
  ·exact h.1
  ·exact h.2.all f hf
def pR (K:Frag)(C:Addr):List (Value × Bool)->Prop
 | []=>True
 | x::l=>mroIn K C x.1=some x.2/\pR K C l
theorem WY {K:Frag}{C:Addr}{v:Value}{b:Bool}{l:List (Value × Bool)}(h:mroIn K C v=some b)(t:pR K C l):pR K C ((v,b)::l):=⟨h,t⟩
theorem ó {nm:Str}{st:Stmt}{ps:List Str}(hb:BP nm nm st ps){K:Frag}{h:Heap}{mg:aX}{g:Addr}{oc kV dc pm cd ct:Value}{od an:Option Addr}{sl:Array (Option Value)}(X:K.In h)(G:h.Ns mainGlobals mg)
  (a:nsIn K mainGlobals nm=some (some (.ref g))) (l:K.lookup g=some ⟨oc,od,.func (fnOf nm nm (cV st) (aI st) (aa st) .none kV dc pm an cd ct),sl⟩) (c:codeIn K cd nm=true) (k:keepIn K (.ref g)=true) :
  Dn K mg nm st ps g (fnOf nm nm (cV st) (aI st) (aa st) .none kV dc pm an cd ct):=by
 have F:=š (st:=st) l c k;exact⟨F,F.binds hb,k,ū X G a⟩
theorem ġ {nm qn:Str}{st:Stmt}{ps:List Str}(hb:BP nm qn st ps){K:Frag}{g:Addr}{oc kV dc pm cd ct:Value}{od an:Option Addr}{sl:Array (Option Value)}
  (l:K.lookup g=some ⟨oc,od,.func (fnOf nm qn (cV st) (aI st) (aa st) .none kV dc pm an cd ct),sl⟩) (c:codeIn K cd qn=true) (k:keepIn K (.ref g)=true) (f:isFn K (.ref g)=true) :
  Dm K nm qn st ps g (fnOf nm qn (cV st) (aI st) (aa st) .none kV dc pm an cd ct):=by
 have F:=š (st:=st) l c k;exact⟨F,F.binds hb,k,f⟩
abbrev GL:List (Value × Bool):=[(.type "tuple",false),(.type "list",false),(.type "int",false),(.type "bool",false)]
theorem all_mk {l:OpenLaw}{w:World}{K:Frag}{h:Heap}{mg:aX}{fa D UF YR UE YQ Py YO Qs YN Px YM Mt YL LR YK g0 g1 g2 g3 g4 g5 g6 g7 g8 g9 YE YD YC YB YA Yz Yy Yx Yw Yv Yu Yt Ys Yr Yq Yp Yo Yn Ym Yl Yk Yj Yi Yh Yg Yf Ye Yd Yc Yb Ya X_ X9 X8 X7 X6 m0 m1 m2 m3 m4 m5 m6 m7 m8 m9 Q9 Q8 KO Q7 L8 Qc Q6 Q5 Qb Q4 Q3 Qa Q2 P_ Q1 QZ P' R MS C0 C1 C2 U0 U1 U2 U3 TR:Addr}{d0 d1 d2 d3 d4 d5 d6 d7 d8 d9 Zw Zv Zu Zt Zs Zr Zq Zp Zo Zn Zl Zk Zj Zi Zh Zg Zf Ze Zd Zc Zb Y_ Y' Y9 Y8 Y7 Y6 Y5 Y4 Y3 Y2 Y1 Y0 YZ YY Up x0 x1 x2 x3 x4 x5 x6 x7 x8 x9 SA Wa ņ Jy Nd NY Sy Sw Sv Su Ss Sr Sq Sn NX Sk Sj V' V9 V8 V7 V6 V5 V4:FuncData}(X:K.In h)(G:h.Ns mainGlobals mg)(XN:mg "law" = some (.ref fa))
  {Jl IU JL y_ c_ x_:Tok}
  {nA nN:Addr} {WL WK:Option Addr} {tA uA tN uN:Tok} {WR WQ:Nat} {Wn Wm:Array (Option Value)}
  (B:Ī K D) (q3:OQ K mg D "NoShare" "found" UF YR V') (q4:OQ K mg D "NoNumber" "found" UE YQ V9) (q5:OQ K mg D "NoFolk" "found" Py YO V8) (q6:OQ K mg D "NoDealing" "found" Qs YN V7) (q7:OQ K mg D "NoOutcome" "place" Px YM V6) (q8:OQ K mg D "NotSure" "place" Mt YL V5) (q9:OQ K mg D "NoPairs" "block" LR YK V4)
  (aD:nsIn K mainGlobals "DealError" = some (some (.ref D)))
  (QU:nsIn K mainGlobals "Rule" = some (some (.ref R)))
  (VC:specialIn K (.ref R) "__getattribute__" = some (some (.builtin "type.__getattribute__")))
  (VB:readsIn K R (.type "type")=true)
  (VA:findCls K (.ref R) (.type "type") "__init__" = some (.val (.ref m0)))
  (Nv:isClsIn K R=true)
  (Nf:typeIn K (.ref R)=some (.type "type"))
  (Nk:mroIn K R (.ref R)=some true)
  (Vz:nsIn K mainGlobals "Measure" = some (some (.ref MS)))
  (Vy:specialIn K (.ref MS) "__getattribute__" = some (some (.builtin "type.__getattribute__")))
  (Vx:readsIn K MS (.type "type")=true)
  (Vw:findCls K (.ref MS) (.type "type") "__init__" = some (.val (.ref Q8)))
  (ZZ:isClsIn K MS=true)
  (ZY:typeIn K (.ref MS)=some (.type "type"))
  (ZX:mroIn K MS (.ref MS)=some true)
  (Vv:nsIn K mainGlobals "Split" = some (some (.ref C0)))
  (Jw:Cf K C0)
  (Vu:K3 K C0 fq)
  (Vt:findIn K (.ref C0) "__init__" = some (some (.ref m5)))
  (Vs:findIn K (.ref C0) "folk" = some (some (.ref m1)))
  (Vr:findIn K (.ref C0) "begin" = some (some (.ref m2)))
  (Vq:findIn K (.ref C0) "told" = some (some (.ref m3)))
  (Vp:findIn K (.ref C0) "blocks" = some (some (.ref m4)))
  (Vo:findIn K (.ref C0) "steps" = some (some (.ref m8)))
  (M_:pR K C0 [(.ref C0,true),(.ref C1,false),(.ref C2,false),(.ref R,true)])
  (PD:pR K C0 GL)
  (Vn:nsIn K mainGlobals "Pairs" = some (some (.ref C1)))
  (Jv:Cf K C1)
  (Vm:K3 K C1 fq)
  (Vl:findIn K (.ref C1) "__init__" = some (some (.ref m6)))
  (Vk:findIn K (.ref C1) "folk" = some (some (.ref m1)))
  (VV:findIn K (.ref C1) "begin" = some (some (.ref m2)))
  (VU:findIn K (.ref C1) "told" = some (some (.ref m3)))
  (VT:findIn K (.ref C1) "blocks" = some (some (.ref m4)))
  (VS:findIn K (.ref C1) "steps" = some (some (.ref m9)))
  (Nb:pR K C1 [(.ref C0,false),(.ref C1,true),(.ref C2,false),(.ref R,true)])
  (PJ:pR K C1 GL)
  (VR:nsIn K mainGlobals "Coins" = some (some (.ref C2)))
  (Jx:Cf K C2)
  (VQ:K3 K C2 fq)
  (VP:findIn K (.ref C2) "__init__" = some (some (.ref m7)))
  (VO:findIn K (.ref C2) "folk" = some (some (.ref m1)))
  (VN:findIn K (.ref C2) "begin" = some (some (.ref m2)))
  (VM:findIn K (.ref C2) "told" = some (some (.ref m3)))
  (VL:findIn K (.ref C2) "blocks" = some (some (.ref m4)))
  (VJ:findIn K (.ref C2) "steps" = some (some (.ref Q9)))
  (Na:pR K C2 [(.ref C0,false),(.ref C1,false),(.ref C2,true),(.ref R,true)])
  (PH:pR K C2 GL)
  (VI:nsIn K mainGlobals "Sum" = some (some (.ref U0)))
  (MD:Cf K U0)
  (VH:K3 K U0 ["mark"])
  (VG:findIn K (.ref U0) "__init__" = some (some (.ref Qc)))
  (Sg:findIn K (.ref U0) "scores" = some (some (.ref KO)))
  (VF:findIn K (.ref U0) "need_fit" = some (some (.ref Q6)))
  (VE:findIn K (.ref U0) "scored" = some (some (.ref L8)))
  (VD:findIn K (.ref U0) "among" = some (some (.ref Q5)))
  (NS:pR K U0 [(.ref U0,true),(.ref U1,false),(.ref U2,false),(.ref U3,false)])
  (V2:nsIn K mainGlobals "Ranks" = some (some (.ref U1)))
  (LJ:Cf K U1)
  (V1:K3 K U1 ["mark"])
  (V0:findIn K (.ref U1) "__init__" = some (some (.ref Qb)))
  (Sh:findIn K (.ref U1) "scores" = some (some (.ref KO)))
  (VZ:findIn K (.ref U1) "need_fit" = some (some (.ref Q4)))
  (VY:findIn K (.ref U1) "scored" = some (some (.ref L8)))
  (VX:findIn K (.ref U1) "among" = some (some (.ref Q3)))
  (NT:pR K U1 [(.ref U0,false),(.ref U1,true),(.ref U2,false),(.ref U3,false)])
  (VW:nsIn K mainGlobals "Wins" = some (some (.ref U2)))
  (MB:Cf K U2)
  (U5:K3 K U2 ["mark"])
  (U4:findIn K (.ref U2) "__init__" = some (some (.ref Qa)))
  (Sf:findIn K (.ref U2) "scores" = some (some (.ref KO)))
  (UZ:findIn K (.ref U2) "need_fit" = some (some (.ref Q7)))
  (UY:findIn K (.ref U2) "scored" = some (some (.ref L8)))
  (UX:findIn K (.ref U2) "among" = some (some (.ref Q2)))
  (NR:pR K U2 [(.ref U0,false),(.ref U1,false),(.ref U2,true),(.ref U3,false)])
  (UW:nsIn K mainGlobals "Signs" = some (some (.ref U3)))
  (MA:Cf K U3)
  (UV:K3 K U3 ["mark"])
  (UU:findIn K (.ref U3) "__init__" = some (some (.ref P_)))
  (Se:findIn K (.ref U3) "scores" = some (some (.ref KO)))
  (UT:findIn K (.ref U3) "need_fit" = some (some (.ref Q1)))
  (US:findIn K (.ref U3) "scored" = some (some (.ref L8)))
  (UR:findIn K (.ref U3) "among" = some (some (.ref QZ)))
  (NQ:pR K U3 [(.ref U0,false),(.ref U1,false),(.ref U2,false),(.ref U3,true)])
  (UQ:nsIn K mainGlobals "Trial" = some (some (.ref TR)))
  (Qv:Cf K TR)
  (UP:K3 K TR rK)
  (UO:findIn K (.ref TR) "__init__" = some (some (.ref P')))
  (UN:nsIn K mainGlobals "MOST_FOLK" = some (some (.int (20) Jl)))
  (UM:nsIn K mainGlobals "MOST_PAIRS" = some (some (.int (10) IU)))
  (UL:nsIn K mainGlobals "MOST_FAR" = some (some (.int (20) JL)))
  (UK:nsIn K mainGlobals "MOST_BOTTOM" = some (some (.int (100) y_)))
  (UJ:nsIn K mainGlobals "LEAST_NUMBER" = some (some (.int (-99) c_)))
  (Vj:nsIn K mainGlobals "MOST_NUMBER" = some (some (.int (99) x_)))
  (gt:specialIn K (.builtin "object.__class__") "__get__" = some (some (.builtin "getset_descriptor.__get__")))
  (SD:takesIn K (.builtin "object.__class__")=some true)
  (UH:nsIn K mainGlobals "ALL" = some (some (.ref nA)))
  (lA:K.lookup nA=some ⟨.type "tuple",WL,.seq #[.int 1 tA,.int 1 uA] WR,Wn⟩)
  (UG:nsIn K mainGlobals "NONE" = some (some (.ref nN)))
  (lZ:K.lookup nN=some ⟨.type "tuple",WK,.seq #[.int 0 tN,.int 1 uN] WQ,Wm⟩)
  (QS:findIn K (.ref Py) "found" = some none)
  (QR:findIn K (.ref Px) "place" = some none)
  (QQ:findIn K (.ref Mt) "place" = some none)
  (QP:findIn K (.ref LR) "block" = some none)
  (QO:findIn K (.ref Qs) "found" = some none)
  (Vi:nsIn K mainGlobals "isinstance" = some none)
  (Vh:nsIn K mainGlobals "int" = some none)
  (Vg:nsIn K mainGlobals "bool" = some none)
  (Vf:nsIn K mainGlobals "len" = some none)
  (Ve:nsIn K mainGlobals "range" = some none)
  (Vd:nsIn K mainGlobals "tuple" = some none)
  (Vc:nsIn K mainGlobals "list" = some none)
  (Vb:nsIn K mainGlobals "sum" = some none)
  (Va:nsIn K mainGlobals "max" = some none)
  (U_:nsIn K mainGlobals "min" = some none)
  (U':nsIn K mainGlobals "enumerate" = some none)
  (U9:nsIn K mainGlobals "zip" = some none)
  (U8:nsIn K mainGlobals "sorted" = some none)
  (U7:nsIn K mainGlobals "dict" = some none)
  (U6:nsIn K mainGlobals "repr" = some none)
  (e0:Dn K mg "is_number" nj ["thing"] g0 d0)
  (e1:Dn K mg "is_whole" tE ["thing","low","high"] g1 d1)
  (e2:Dn K mg "greatest_common" zK ["one","other"] g2 d2)
  (e3:Dn K mg "is_part" ux ["top","bottom"] g3 d3)
  (e4:Dn K mg "share_of" Ga ["top","bottom"] g4 d4)
  (e5:Dn K mg "is_share" Av ["thing"] g5 d5)
  (e6:Dn K mg "added" Am ["one","top","bottom"] g6 d6)
  (e7:Dn K mg "minus_share" Ht ["one","other"] g7 d7)
  (e8:Dn K mg "times_share" yL ["one","other"] g8 d8)
  (e9:Dn K mg "less_share" Aq ["one","other"] g9 d9)
  (Ul:Dn K mg "need_number" F6 ["thing","low","high"] YE Zw)
  (Uk:Dn K mg "need_coin" Gi ["thing"] YD Zv)
  (Uj:Dn K mg "one_part" Gx ["folk"] YC Zu)
  (Ui:Dn K mg "coin_steps" He ["coin","zero","one"] YB Zt)
  (Qo:Dn K mg "need_hands" Fo ["thing","folk"] YA Zs)
  (Uh:Dn K mg "hand_of" Gv ["dealing","at"] Yz Zr)
  (Ug:Dn K mg "step_to" Hg ["rule","state","at","hand"] Yy Zq)
  (Po:Dn K mg "dealing_share" Cj ["rule","dealing"] Yx Zp)
  (Uf:Dn K mg "need_dealt" Fr ["rule","thing"] Yw Zo)
  (Ue:Dn K mg "is_outcome" Gb ["thing"] Yv Zn)
  (Ud:Dn K mg "need_outcome" F3 ["thing","place"] Yu Zl)
  (Uc:Dn K mg "need_outcomes" AC ["thing"] Yt Zk)
  (Ub:Dn K mg "need_outcomes_of" AJ ["thing","folk"] Ys Zj)
  (Ua:Dn K mg "surely_greater" Gw ["one","other"] Yr Zi)
  (T_:Dn K mg "stands_to" FG ["one","other"] Yq Zh)
  (T9:Dn K mg "need_sure" zJ ["outcomes"] Yp Zg)
  (T8:Dn K mg "block_marks" F0 ["rule"] Yo Zf)
  (T7:Dn K mg "need_pairs" GI ["rule"] Yn Ze)
  (T6:Dn K mg "_law_cell" qU ["_law_script","_law_k"] Ym Zd)
  (T5:Dn K mg "_law_box" xW ["_law_cell_here"] Yl Zc)
  (T4:Dn K mg "_law_take" sG ["_law_box_here","_law_many"] Yk Zb)
  (T3:Dn K mg "_law_whole" GO ["_law_found"] Yj Y_)
  (T1:Dn K mg "_law_coin" Fx ["_law_box_here"] Yi Y')
  (TZ:Dn K mg "_law_told" By ["_law_box_here","_law_pairs","_law_most"] Yh Y9)
  (TY:Dn K mg "_law_rule" GF ["_law_told_here"] Yg Y8)
  (TX:Dn K mg "_law_folk" G0 ["_law_told_here"] Yf Y7)
  (TW:Dn K mg "_law_dealt" EH ["_law_told_here"] Ye Y6)
  (TV:Dn K mg "_law_measure" Gm ["_law_word"] Yd Y5)
  (TU:Dn K mg "_law_outcomes" BD ["_law_box_here","_law_word","_law_folk_here"] Yc Y4)
  (TQ:Dn K mg "_law_case" BJ ["_law_box_here","_law_most"] Yb Y3)
  (TM:Dn K mg "_law_spoilt" Ak ["_law_box_here","_law_outcomes_here"] Ya Y2)
  (TL:Dn K mg "_law_is_outcome" Gp ["_law_thing"] X_ Y1)
  (TK:Dn K mg "_law_due" wL ["_law_told_here","_law_outcomes_here","_law_word","_law_dealing"] X9 Y0)
  (TF:Dn K mg "_law_asked" wU ["_law_told_here","_law_outcomes_here","_law_word","_law_dealing"] X8 YZ)
  (TD:Dn K mg "_law_right" AY ["_law_box_here"] X7 YY)
  (TC:Dn K mg "law" yg ["_law_script"] X6 Up)
  (y0:Dm K "__init__" "Rule.__init__" yz ["self","size","first_state","mark","parts"] m0 x0)
  (y1:Dm K "folk" "Rule.folk" zT ["self"] m1 x1)
  (y2:Dm K "begin" "Rule.begin" z9 ["self"] m2 x2)
  (y3:Dm K "told" "Rule.told" AU ["self"] m3 x3)
  (y4:Dm K "blocks" "Rule.blocks" yr ["self"] m4 x4)
  (y5:Dm K "__init__" "Split.__init__" zd ["self","folk","ones"] m5 x5)
  (y6:Dm K "__init__" "Pairs.__init__" zn ["self","pairs","coin"] m6 x6)
  (y7:Dm K "__init__" "Coins.__init__" yS ["self","folk","coin","far"] m7 x7)
  (y8:Dm K "steps" "Split.steps" As ["self","state","at"] m8 x8)
  (y9:Dm K "steps" "Pairs.steps" yj ["self","state","at"] m9 x9)
  (PV:Dm K "steps" "Coins.steps" Bj ["self","state","at"] Q9 SA)
  (NU:Dm K "__init__" "Measure.__init__" zF ["self","mark"] Q8 Wa)
  (ν:Dm K "scores" "Measure.scores" vX ["self","rule","outcomes"] KO ņ)
  (PU:Dm K "need_fit" "Measure.need_fit" zS ["self","rule","outcomes"] Q7 Jy)
  (KG:Dm K "scored" "Measure.scored" zW ["self","rule","outcomes"] L8 Nd)
  (QB:Dm K "__init__" "Sum.__init__" AL ["self"] Qc NY)
  (PR:Dm K "need_fit" "Sum.need_fit" Bu ["self","rule","outcomes"] Q6 Sy)
  (PQ:Dm K "among" "Sum.among" yP ["self","outcomes"] Q5 Sw)
  (QA:Dm K "__init__" "Ranks.__init__" AQ ["self"] Qb Sv)
  (PP:Dm K "need_fit" "Ranks.need_fit" zQ ["self","rule","outcomes"] Q4 Su)
  (PN:Dm K "among" "Ranks.among" jr ["self","outcomes"] Q3 Ss)
  (Qz:Dm K "__init__" "Wins.__init__" A8 ["self"] Qa Sr)
  (PM:Dm K "among" "Wins.among" kY ["self","outcomes"] Q2 Sq)
  (Qy:Dm K "__init__" "Signs.__init__" yZ ["self"] P_ Sn)
  (PL:Dm K "need_fit" "Signs.need_fit" yo ["self","rule","outcomes"] Q1 NX)
  (PK:Dm K "among" "Signs.among" lK ["self","outcomes"] QZ Sk)
  (Qx:Dm K "__init__" "Trial.__init__" GR ["self","rule","outcomes","measure","dealing"] P' Sj)
  (hb:∀(s:Shared)(v:Value),BindsTo s Up ⟨[v],[]⟩ [("_law_script",v)])
  : ∃ fd:FuncData,(∀(s:Shared)(v:Value),BindsTo s fd ⟨[v],[]⟩ [("_law_script",v)])/\∀ base:Heap,K.In base->base.Ns mainGlobals mg->Ò l.prog w K mg base ay 15 fa fd ["_law_script"] (oI K):=by
 have e:=XN.symm.trans TC.mg;cases e;refine⟨_,hb,λ base _ _=>?_⟩;have Ĥ:=Ę X G Vi;have Jp:=Ę X G Vh;have IY:=Ę X G Vg;have Ż:=Ę X G Vf;have Š:=Ę X G Ve;have ŷ:=Ę X G Vd;have JU:=Ę X G Vc;have ON:=Ę X G Vb;have OP:=Ę X G Va;have OO:=Ę X G U_;have ŕ:=Ę X G U';have OM:=Ę X G U9;have Jo:=Ę X G U8;have Nn:=Ę X G U7;have JS:=Ę X G U6;have T:uH K:=⟨gt,SD⟩;have mD:=ū X G aD;have o3:=q3 B mD;have o4:=q4 B mD;have o5:=q5 B mD;have o6:=q6 B mD;have o7:=q7 B mD;have o8:=q8 B mD;have o9:=q9 B mD;have ξ:=ū X G UN;have IX:=ū X G UM;have JR:=ū X G UL;have A_:=ū X G UK;have h_:=ū X G UJ;have z_:=ū X G Vj;have No:=ū X G QU;have δ:fV K R "__init__" m0:=⟨VC,VB,VA,y0.kp⟩;have Kp:=ū X G Vz;have Ť:fV K MS "__init__" Q8:=⟨Vy,Vx,Vw,NU.kp⟩;have OY:=ū X G Vv;have OL:Mk K C0 m5:=⟨Jw.MQ,Vt,y5.Ř,Jw.kp⟩;have OX:=ū X G Vn;have OK:Mk K C1 m6:=⟨Jv.MQ,Vl,y6.Ř,Jv.kp⟩;have OW:=ū X G VR;have OJ:Mk K C2 m7:=⟨Jx.MQ,VP,y7.Ř,Jx.kp⟩;have OU:=ū X G VI;have OH:Mk K U0 Qc:=⟨MD.MQ,VG,QB.Ř,MD.kp⟩;have OT:=ū X G V2;have OG:Mk K U1 Qb:=⟨LJ.MQ,V0,QA.Ř,LJ.kp⟩;have OS:=ū X G VW;have OF:Mk K U2 Qa:=⟨MB.MQ,U4,Qz.Ř,MB.kp⟩;have OR:=ū X G UW;have OE:Mk K U3 P_:=⟨MA.MQ,UU,Qy.Ř,MA.kp⟩;have OV:=ū X G UQ;have OI:Mk K TR P':=⟨Qv.MQ,UO,Qx.Ř,Qv.kp⟩;have R_:=uw (P:=l.prog) (w:=w) (mg:=mg) (base:=base) T e0.fn Ĥ Jp IY;have GN:=(e0.df R_);have Uw:=vq e1.fn R_ e0.bi e0.kp e0.mg;have GW:=(e1.df Uw);have Sb:=AA (P:=l.prog) (w:=w) (mg:=mg) (base:=base) e2.fn;have GG:=(e2.df Sb);have Uz:=e3.df (wI e3.fn R_ e0.bi e0.kp e0.mg Uw e1.bi e1.kp e1.mg);have ZR:=e5.df (AX T e5.fn Uz GG Ĥ ŷ Ż);have GM:=Ul.df (B2 Ul.fn B o4 GW);have GC:=Uk.df (EJ Uk.fn B o3 GW ZR A_);have GP:=Uj.df (D6 (P:=l.prog) (w:=w) (mg:=mg) (base:=base) Uj.fn ŷ Š);have Z:KR K (jN C0 C1 C2) R:={
  cls:=λ i hi=>match i,hi with
   | 0,_=>Jw.cls
   | 1,_=>Jv.cls
   | 2,_=>Jx.cls
  no:=λ i hi=>match i,hi with
   | 0,_=>Vu.all
   | 1,_=>Vm.all
   | 2,_=>VQ.all
  ha:=λ i hi=>match i,hi with
   | 0,_=>Jw.ca
   | 1,_=>Jv.ca
   | 2,_=>Jx.ca
  hn:=gt
  LL:=SD
  hm:=λ i hi=>match i,hi with
   | 0,_=>Jw.hm
   | 1,_=>Jv.hm
   | 2,_=>Jx.hm
  kk:=λ i j hi hj=>match i,j,hi,hj with
   | 0,0,_,_=>bY Jw.Ma Jw.LZ M_.1 M_.1
   | 0,1,_,_=>bY Jv.Ma Jv.LZ Nb.2.1 M_.2.1
   | 0,2,_,_=>bY Jx.Ma Jx.LZ Na.2.2.1 M_.2.2.1
   | 1,0,_,_=>bY Jw.Ma Jw.LZ M_.1 Nb.1
   | 1,1,_,_=>bY Jv.Ma Jv.LZ Nb.2.1 Nb.2.1
   | 1,2,_,_=>bY Jx.Ma Jx.LZ Na.2.2.1 Nb.2.2.1
   | 2,0,_,_=>bY Jw.Ma Jw.LZ M_.1 Na.1
   | 2,1,_,_=>bY Jv.Ma Jv.LZ Nb.2.1 Na.2.1
   | 2,2,_,_=>bY Jx.Ma Jx.LZ Na.2.2.1 Na.2.2.1
  kR:=λ i hi=>match i,hi with
   | 0,_=>bY Nv Nf Nk M_.2.2.2.1
   | 1,_=>bY Nv Nf Nk Nb.2.2.2.1
   | 2,_=>bY Nv Nf Nk Na.2.2.2.1
  kl:=λ i hi=>match i,hi with
   | 0,_=>bU aA PD.2.1
   | 1,_=>bU aA PJ.2.1
   | 2,_=>bU aA PH.2.1
  kt:=λ i hi=>match i,hi with
   | 0,_=>bU aA PD.1
   | 1,_=>bU aA PJ.1
   | 2,_=>bU aA PH.1
  ki:=λ i hi=>match i,hi with
   | 0,_=>bU aA PD.2.2.1
   | 1,_=>bU aA PJ.2.2.1
   | 2,_=>bU aA PH.2.2.1
  kb:=λ i hi=>match i,hi with
   | 0,_=>bU aA PD.2.2.2.1
   | 1,_=>bU aA PJ.2.2.2.1
   | 2,_=>bU aA PH.2.2.2.1
 }
 have I0:=yB (P:=l.prog) (w:=w) (mg:=mg) (base:=base) Z y0.fn;have I1:=zH (P:=l.prog) (w:=w) (mg:=mg) (base:=base) Z y1.fn;have I2:=zU (P:=l.prog) (w:=w) (mg:=mg) (base:=base) Z y2.fn;have I3:=yn (P:=l.prog) (w:=w) (mg:=mg) (base:=base) Z y3.fn;have I4:=yQ (P:=l.prog) (w:=w) (mg:=mg) (base:=base) Z y4.fn JU;have NO:bL l.prog w K mg base ay 1 "folk" ["self"] (pO (jN C0 C1 C2)) (λ _=>kh (jN C0 C1 C2)):=by
  rintro c ⟨i,hi,rfl⟩
  match i,hi with
  | 0,_=>exact⟨Jw.cls,m1,x1,⟨Vs,y1.Ř,y1.kp⟩,I1,y1.bi⟩
  | 1,_=>exact⟨Jv.cls,m1,x1,⟨Vk,y1.Ř,y1.kp⟩,I1,y1.bi⟩
  | 2,_=>exact⟨Jx.cls,m1,x1,⟨VO,y1.Ř,y1.kp⟩,I1,y1.bi⟩
 have Mq:bL l.prog w K mg base ay 1 "begin" ["self"] (pO (jN C0 C1 C2)) (λ _=>iw (jN C0 C1 C2)):=by
  rintro c ⟨i,hi,rfl⟩
  match i,hi with
  | 0,_=>exact⟨Jw.cls,m2,x2,⟨Vr,y2.Ř,y2.kp⟩,I2,y2.bi⟩
  | 1,_=>exact⟨Jv.cls,m2,x2,⟨VV,y2.Ř,y2.kp⟩,I2,y2.bi⟩
  | 2,_=>exact⟨Jx.cls,m2,x2,⟨VN,y2.Ř,y2.kp⟩,I2,y2.bi⟩
 have NN:bL l.prog w K mg base ay 1 "told" ["self"] (pO (jN C0 C1 C2)) (λ _=>mT (jN C0 C1 C2)):=by
  rintro c ⟨i,hi,rfl⟩
  match i,hi with
  | 0,_=>exact⟨Jw.cls,m3,x3,⟨Vq,y3.Ř,y3.kp⟩,I3,y3.bi⟩
  | 1,_=>exact⟨Jv.cls,m3,x3,⟨VU,y3.Ř,y3.kp⟩,I3,y3.bi⟩
  | 2,_=>exact⟨Jx.cls,m3,x3,⟨VM,y3.Ř,y3.kp⟩,I3,y3.bi⟩
 have LG:bL l.prog w K mg base ay 1 "blocks" ["self"] (pO (jN C0 C1 C2)) (λ _=>uy (jN C0 C1 C2)):=by
  rintro c ⟨i,hi,rfl⟩
  match i,hi with
  | 0,_=>exact⟨Jw.cls,m4,x4,⟨Vp,y4.Ř,y4.kp⟩,I4,y4.bi⟩
  | 1,_=>exact⟨Jv.cls,m4,x4,⟨VT,y4.Ř,y4.kp⟩,I4,y4.bi⟩
  | 2,_=>exact⟨Jx.cls,m4,x4,⟨VL,y4.Ř,y4.kp⟩,I4,y4.bi⟩
 have Mm:Ms l.prog w K mg base (jN C0 C1 C2):=⟨NO,Mq,NN,LG⟩;have I5:=zh y5.fn δ I0 y0.bi No GM GP ξ;have I6:=Ae Z y6.fn δ I0 y0.bi No GM GP GC IX;have I7:=yi Z y7.fn δ I0 y0.bi No GM GP GC ξ JR;have Lk:Ib l.prog w K mg base (jN C0 C1 C2) UE UF m5 m6 m7 x5 x6 x7:=⟨OL,OK,OJ,I5,I6,I7,y5.bi,y6.bi,y7.bi,OY,OX,OW⟩;have TA:kE K nA [.int (1:Nat),.int (1:Nat)]:=pC lA;have TN:kE K nN [.int (0:Nat),.int (1:Nat)]:=pC lZ;have mA:mg "ALL" = some (.ref nA):=ū X G UH;have mN:mg "NONE" = some (.ref nN):=ū X G UG;have T2:Fk K mg nN nA:=⟨mN,mA,TN,TA⟩;have Sa:=e6.df (zp e6.fn Sb e2.bi e2.kp e2.mg);have Sl:=e9.df (yG (P:=l.prog) (w:=w) (mg:=mg) (base:=base) (K:=K) e9.fn);have So:=e4.df (EN e4.fn Uz GG);have Sm:=e7.df (DT e7.fn Sl Sa);have Sx:=e8.df (Aa e8.fn Sb e2.bi e2.kp e2.mg);have Sc:=Ui.df (D0 Ui.fn Sm mA TA);have I8:=oy Z ag (AW Z y8.fn So);have I9:=oy Z ag (ym Z y9.fn Sc mA TA);have ZP:=oy Z ag (AZ Z PV.fn Sc mA TA);have M2:bL l.prog w K mg base ay 7 "steps" ["self","state","at"] (pO (jN C0 C1 C2)) (uh K (jN C0 C1 C2)):=by
  rintro c ⟨i,hi,rfl⟩
  match i,hi with
  | 0,_=>exact⟨Jw.cls,m8,x8,⟨Vo,y8.Ř,y8.kp⟩,I8.mono ag,y8.bi⟩
  | 1,_=>exact⟨Jv.cls,m9,x9,⟨VS,y9.Ř,y9.kp⟩,I9.mono ag,y9.bi⟩
  | 2,_=>exact⟨Jx.cls,Q9,SA,⟨VJ,PV.Ř,PV.kp⟩,ZP.mono ag,PV.bi⟩
 have Dh:=Qo.df (Dj Qo.fn GW);have Do:=Uh.df (Cw (P:=l.prog) (w:=w) (mg:=mg) (base:=base) (K:=K) Uh.fn);have Dt:=Ug.df (E5 Ug.fn M2 T2);have UD:=Ez Po.fn Mm T2 Dh Dt Do Sx Š;have Dd:=(Po.df UD);have Dx:=Qo.df (Aj Qo.fn B o6 GW);have UC:=zm Po.fn Mm Dx;have Dy:=(Po.df UC);have Du:=Po.df (My.Ò.or (My.Ò.SB UD) (UC.mono ag));have Dn:=Uf.df (EW Uf.fn T2 B o6 Du);have ZV:=Ue.df (Dw T Ue.fn GW h_ z_ Ĥ ŷ Ż IY);have UB:=Ud.df (CJ Ud.fn B o7 ZV);have ZT:=Uc.df (zq T Uc.fn B o5 UB Ĥ JU ŕ);have UA:=Ub.df (yu Ub.fn B o5 ZT Ż);have ZS:=Ua.df (EF (P:=l.prog) (w:=w) (mg:=mg) (base:=base) Ua.fn);have Uy:=T_.df (DR T_.fn UB ZS);have Ux:=T9.df (Aw (P:=l.prog) (w:=w) (mg:=mg) (base:=base) T9.fn B o8 ŕ);have ZW:=T8.df (ER T8.fn Mm);have ZU:=T7.df (Ch T7.fn Mm B o9 ZW ŕ OM Ż);have Zm:KM K (dL U0 U1 U2 U3):=⟨λ i hi=>match i,hi with
   | 0,_=>MD.cls
   | 1,_=>LJ.cls
   | 2,_=>MB.cls
   | 3,_=>MA.cls,λ i hi=>match i,hi with
   | 0,_=>VH.1
   | 1,_=>V1.1
   | 2,_=>U5.1
   | 3,_=>UV.1⟩
 have dj:∀ i j,i<4->j<4->(dL U0 U1 U2 U3) i=(dL U0 U1 U2 U3) j->i=j:=λ i j hi hj=>match i,j,hi,hj with
   | 0,0,_,_=>λ _=>rfl
   | 0,1,_,_=>λ e=>absurd e (c6 NT.2.1 NS.2.1)
   | 0,2,_,_=>λ e=>absurd e (c6 NR.2.2.1 NS.2.2.1)
   | 0,3,_,_=>λ e=>absurd e (c6 NQ.2.2.2.1 NS.2.2.2.1)
   | 1,0,_,_=>λ e=>absurd e (c6 NS.1 NT.1)
   | 1,1,_,_=>λ _=>rfl
   | 1,2,_,_=>λ e=>absurd e (c6 NR.2.2.1 NT.2.2.1)
   | 1,3,_,_=>λ e=>absurd e (c6 NQ.2.2.2.1 NT.2.2.2.1)
   | 2,0,_,_=>λ e=>absurd e (c6 NS.1 NR.1)
   | 2,1,_,_=>λ e=>absurd e (c6 NT.2.1 NR.2.1)
   | 2,2,_,_=>λ _=>rfl
   | 2,3,_,_=>λ e=>absurd e (c6 NQ.2.2.2.1 NR.2.2.2.1)
   | 3,0,_,_=>λ e=>absurd e (c6 NS.1 NQ.1)
   | 3,1,_,_=>λ e=>absurd e (c6 NT.2.1 NQ.2.1)
   | 3,2,_,_=>λ e=>absurd e (c6 NR.2.2.1 NQ.2.2.1)
   | 3,3,_,_=>λ _=>rfl
 have Qr:=Bn (P:=l.prog) (w:=w) (mg:=mg) (base:=base) Zm NU.fn;have ZN:=zb QB.fn Ť Qr NU.bi Kp;have ZK:=Ay QA.fn Ť Qr NU.bi Kp;have ZH:=AK Qz.fn Ť Qr NU.bi Kp;have ZF:=AB Qy.fn Ť Qr NU.bi Kp;have ZL:=G4 (MC:=(dL U0 U1 U2 U3)) dj (AM (P:=l.prog) (w:=w) (mg:=mg) (base:=base) PQ.fn);have ZI:=Hm (MC:=(dL U0 U1 U2 U3)) dj (zN (P:=l.prog) (w:=w) (mg:=mg) (base:=base) PN.fn Jo);have ZG:=FF (MC:=(dL U0 U1 U2 U3)) dj (zz PM.fn Uy ON);have ZD:=FV (MC:=(dL U0 U1 U2 U3)) dj (Ax PK.fn Uy ŕ);have ZM:=F9 (C:=(jN C0 C1 C2)) (CN:=LR) (MC:=(dL U0 U1 U2 U3)) dj (yH PR.fn Ux);have ZJ:=F4 (C:=(jN C0 C1 C2)) (CN:=LR) (MC:=(dL U0 U1 U2 U3)) dj (Bc PP.fn Ux);have ZO:=Gj (C:=(jN C0 C1 C2)) (CU:=Mt) (CN:=LR) (MC:=(dL U0 U1 U2 U3)) dj (Bf (P:=l.prog) (w:=w) (mg:=mg) (base:=base) PU.fn);have ZE:=Hc (CU:=Mt) (MC:=(dL U0 U1 U2 U3)) dj (Bi PL.fn ZU);have ZC:bL l.prog w K mg base ay 7 "among" ["self","outcomes"] (qN (dL U0 U1 U2 U3)) (jA (dL U0 U1 U2 U3)):=by
  rintro c ⟨i,hi,rfl⟩
  match i,hi with
  | 0,_=>exact⟨MD.cls,Q5,Sw,⟨VD,PQ.Ř,PQ.kp⟩,ZL,PQ.bi⟩
  | 1,_=>exact⟨LJ.cls,Q3,Ss,⟨VX,PN.Ř,PN.kp⟩,ZI,PN.bi⟩
  | 2,_=>exact⟨MB.cls,Q2,Sq,⟨UX,PM.Ř,PM.kp⟩,ZG,PM.bi⟩
  | 3,_=>exact⟨MA.cls,QZ,Sk,⟨UR,PK.Ř,PK.kp⟩,ZD,PK.bi⟩
 have Uu:bL l.prog w K mg base (bP l.prog w) 5 "need_fit" ["self","rule","outcomes"] (qN (dL U0 U1 U2 U3)) (i4 (jN C0 C1 C2) (dL U0 U1 U2 U3) Mt LR):=by
  rintro c ⟨i,hi,rfl⟩
  match i,hi with
  | 0,_=>exact⟨MD.cls,Q6,Sy,⟨VF,PR.Ř,PR.kp⟩,ZM,PR.bi⟩
  | 1,_=>exact⟨LJ.cls,Q4,Su,⟨VZ,PP.Ř,PP.kp⟩,ZJ,PP.bi⟩
  | 2,_=>exact⟨MB.cls,Q7,Jy,⟨UZ,PU.Ř,PU.kp⟩,ZO,PU.bi⟩
  | 3,_=>exact⟨MA.cls,Q1,NX,⟨UT,PL.Ř,PL.kp⟩,ZE,PL.bi⟩
 have Qq:=AO KG.fn ZC;have Ut:bL l.prog w K mg base ay 8 "scored" ["self","rule","outcomes"] (qN (dL U0 U1 U2 U3)) (mw (dL U0 U1 U2 U3)):=by
  rintro c ⟨i,hi,rfl⟩
  match i,hi with
  | 0,_=>exact⟨MD.cls,L8,Nd,⟨VE,KG.Ř,KG.kp⟩,vV Qq,KG.bi⟩
  | 1,_=>exact⟨LJ.cls,L8,Nd,⟨VY,KG.Ř,KG.kp⟩,vV Qq,KG.bi⟩
  | 2,_=>exact⟨MB.cls,L8,Nd,⟨UY,KG.Ř,KG.kp⟩,vV Qq,KG.bi⟩
  | 3,_=>exact⟨MA.cls,L8,Nd,⟨US,KG.Ř,KG.kp⟩,vV Qq,KG.bi⟩
 have Pt:=An ν.fn Mm UA Uu Ut;have Z':bL l.prog w K mg base (bP l.prog w) 9 "scores" ["self","rule","outcomes"] (qN (dL U0 U1 U2 U3)) (λ _=>pL (jN C0 C1 C2) (dL U0 U1 U2 U3) Mt LR):=by
  rintro c ⟨i,hi,rfl⟩
  match i,hi with
  | 0,_=>exact⟨MD.cls,KO,ņ,⟨Sg,ν.Ř,ν.kp⟩,Pt,ν.bi⟩
  | 1,_=>exact⟨LJ.cls,KO,ņ,⟨Sh,ν.Ř,ν.kp⟩,Pt,ν.bi⟩
  | 2,_=>exact⟨MB.cls,KO,ņ,⟨Sf,ν.Ř,ν.kp⟩,Pt,ν.bi⟩
  | 3,_=>exact⟨MA.cls,KO,ņ,⟨Se,ν.Ř,ν.kp⟩,Pt,ν.bi⟩
 have Lm:Ic l.prog w K mg base (dL U0 U1 U2 U3) Qc Qb Qa P_ NY Sv Sr Sn:=⟨OH,OG,OF,OE,ZN,ZK,ZH,ZF,QB.bi,QA.bi,Qz.bi,Qy.bi,OU,OT,OS,OR⟩;have Qp:=uS Pt (v5 ν.fn Mm UA ag Uu Ut);have ZB:bL l.prog w K mg base (bP l.prog w) 9 "scores" ["self","rule","outcomes"] (qN (dL U0 U1 U2 U3)) (λ _=>sF K (jN C0 C1 C2) (dL U0 U1 U2 U3) Py Px Mt LR):=by
  rintro c ⟨i,hi,rfl⟩
  match i,hi with
  | 0,_=>exact⟨MD.cls,KO,ņ,⟨Sg,ν.Ř,ν.kp⟩,Qp,ν.bi⟩
  | 1,_=>exact⟨LJ.cls,KO,ņ,⟨Sh,ν.Ř,ν.kp⟩,Qp,ν.bi⟩
  | 2,_=>exact⟨MB.cls,KO,ņ,⟨Sf,ν.Ř,ν.kp⟩,Qp,ν.bi⟩
  | 3,_=>exact⟨MA.cls,KO,ņ,⟨Se,ν.Ř,ν.kp⟩,Qp,ν.bi⟩
 have Uv:KT K TR:=⟨Qv.cls,UP.all⟩;have JT:=DD Uv Qx.fn ZB Dn ŷ;have LT:Gh l.prog w K mg base (jN C0 C1 C2) (dL U0 U1 U2 U3) Py Px Mt LR Qs TR P' Sj:=⟨OI,JT,Qx.bi,OV⟩;have Za:vF K mg D (CA Py Px Mt LR Qs):=⟨λ i hi=>match i,hi with
   | 0,_=>i9 o5.cls
   | 1,_=>i9 o7.cls
   | 2,_=>i9 o8.cls
   | 3,_=>i9 o9.cls
   | 4,_=>i9 o6.cls,rp B,λ i hi=>match i,hi with
   | 0,_=>o5.Kn
   | 1,_=>o7.Kn
   | 2,_=>o8.Kn
   | 3,_=>o9.Kn
   | 4,_=>o6.Kn,mD,λ i hi=>match i,hi with
   | 0,_=>iI o5.cls QS
   | 1,_=>iI o7.cls QR
   | 2,_=>iI o8.cls QQ
   | 3,_=>iI o9.cls QP
   | 4,_=>iI o6.cls QO,λ i j KW hj=>match j,hj,KW with
   | 0,_,KW=>match i,KW with
    | 0,_=>fJ o5.cls
   | 1,_,KW=>match i,KW with
    | 0,_=>eB B o7.cls o5.cls aA
    | 1,_=>fJ o7.cls
   | 2,_,KW=>match i,KW with
    | 0,_=>eB B o8.cls o5.cls aA
    | 1,_=>eB B o8.cls o7.cls aA
    | 2,_=>fJ o8.cls
   | 3,_,KW=>match i,KW with
    | 0,_=>eB B o9.cls o5.cls aA
    | 1,_=>eB B o9.cls o7.cls aA
    | 2,_=>eB B o9.cls o8.cls aA
    | 3,_=>fJ o9.cls
   | 4,_,KW=>match i,KW with
    | 0,_=>eB B o6.cls o5.cls aA
    | 1,_=>eB B o6.cls o7.cls aA
    | 2,_=>eB B o6.cls o8.cls aA
    | 3,_=>eB B o6.cls o9.cls aA
    | 4,_=>fJ o6.cls
   ⟩
 have Ka:=T6.df (wJ (P:=l.prog) (w:=w) (mg:=mg) (base:=base) T6.fn Ż);have Kb:=T5.df (yF (P:=l.prog) (w:=w) (mg:=mg) (base:=base) (K:=K) T5.fn Jp);have Kt:=T4.df (v9 (P:=l.prog) (w:=w) (mg:=mg) (base:=base) (K:=K) T4.fn);have Kw:=T3.df (E1 (P:=l.prog) (w:=w) (mg:=mg) (base:=base) T T3.fn Ĥ Jp IY);have Kc:=T1.df (DP T1.fn Kt So);have Kd:=TZ.df (Cd TZ.fn Kt Kc Jp);have Km:=TY.df (DE TY.fn Lk);have Kf:=TX.df (E4 (P:=l.prog) (w:=w) (mg:=mg) (base:=base) (K:=K) TX.fn Jp);have Ke:=TW.df (BT (P:=l.prog) (w:=w) (mg:=mg) (base:=base) (K:=K) TW.fn Š Nn);have Kl:=TV.df (Ee TV.fn Lm);have Ko:=TU.df (C7 TU.fn Kt Š);have Kx:=TQ.df (Da TQ.fn Kt Kd Ko Kf Ke Jo Ż);have Ks:=TM.df (Cp TM.fn Kt Ż ŷ);have Ki:=TL.df (D5 T TL.fn Kw Ĥ ŷ Ż IY);have Ku:=TK.df (Cc T TK.fn Ki Kf Kw Ke Ĥ Ż JU Š JS);have Kk:=TF.df (C9 Uv Za LT TF.fn Km Kl JS);have Kr:=TD.df (Ds TD.fn ⟨Kt,Kx,Kf,Ks,Kk,Ku,Š,JS⟩);exact AH TC.fn Kr Kb Ka Ż Š OP OO
theorem walk {l:OpenLaw}{q:Program}{loose:List Str}{XP:(Str->Option Value)->Heap->Prop}{YP:World->Heap->Prop}{d:DefRec}{K:Params->Frag}(hn:l.most=some 63)(Pe:d.params.defaults=[])
  (hY:∀(w:World)(h:Heap),YP w h->(K w.params).In h)
  (F:∀(w:World)(mg:aX)(fa:Addr)(h:Heap),(K w.params).In h->h.Ns mainGlobals mg->mg d.name=some (.ref fa) ->
   ∃ fd:FuncData,(∀(s:Shared)(u:Value),BindsTo s fd ⟨[u],[]⟩ [("_law_script",u)])/\∀ base:Heap,(K w.params).In base->base.Ns mainGlobals mg->Ò l.prog w (K w.params) mg base ay 15 fa fd ["_law_script"] (oI (K w.params))) :
  WalkO q loose XP YP l.row.toRowW d [] (λ f vs=>PySem.call f vs) :=
 L2.Lg (n:=63) (k:=15) (x:="_law_script") (CX:=λ _=>ay) (sp:=λ w=>oI (K w.params)) hn ag Pe ⟨rfl,ag,ag,rfl⟩ hY F (λ _ _ a ns hl _ hS hz=>⟨a,ns,rfl,hS,hl,hz,λ _=>rfl⟩) λ _ _ _ _ _ z=>z
end My
open PySem PySem.W PyProof.Rows
namespace PySem.W.Fast
def tw13069647212435040103:=()
def tw3934944387784630612:=()
def tw4556060390994799987:=()
def tw520945634062495107:=()
def tw8428979085379709067:=()
def tw1564709244279512174:=()
def tw14420232904548106178:=()
def tw10033170069021846374:=()
def tw16763190090400739396:=()
def tw16803134925046918318:=()
def tw9811951995861051510:=()
def tw13573618809070497257:=()
def tw7140193277358740630:=()
def tw16090592226905336929:=()
def tw6303265755991084207:=()
def tw2440980005427982848:=()
def tw8139808059219045652:=()
def tw12594753564156209729:=()
def tw7501338899212410560:=()
def tw14558471113311561680:=()
def tw2522610365556811461:=()
def tw4968801303064910997:=()
def tw9818668389477515615:=()
def tw10849389940031406282:=()
def tw17496853434667920466:=()
def tw7451324416156545275:=()
def tw3628514939679989334:=()
def tw10272854773380695663:=()
def tw4255655611468242361:=()
def tw7530726869541519390:=()
def tw7632125820479976697:=()
def tw4573907683450147788:=()
def tw3901629542882105895:=()
def tw13805547660975368584:=()
def tw9170980143559635328:=()
def tw15393269244075365472:=()
def tw8728990724871826743:=()
def tw10304484788033020705:=()
def tw17321160430711818740:=()
def tw16132384867650468137:=()
def tw9523504454608502493:=()
def tw3429314603753900010:=()
def tw7599541374699013657:=()
def tw10002793817590659372:=()
def tw8740477179251162861:=()
def tw17041356871378855158:=()
def tw9893894116562164528:=()
def tw18015955361224614886:=()
def tw11692032088064688477:=()
def tw4351418128396841703:=()
def tw3166880973518864651:=()
def tw17432409603985770245:=()
def tw13581203318103486129:=()
def tw4607211053226201399:=()
def tw10028872816301313926:=()
def tw10308217516610393243:=()
def tw2853586315100899820:=()
def tw6809015827231861191:=()
def tw4814618841772554538:=()
def tw3776459885211098760:=()
def tw9203864379060455207:=()
def tw13036994940469810043:=()
def tw8770721510797450844:=()
def tw10397404493039991980:=()
def tw15784519975195410217:=()
def tw797456762017004073:=()
def tw2437321670095081727:=()
def tw17965923781664376759:=()
def tw17546389373721427156:=()
def tw3599377335817865058:=()
def tw4918160293886643700:=()
def tw12135476724594643262:=()
def tw16192055247560958472:=()
def tw5371979794821848038:=()
def tw12454598904333852401:=()
def tw4731459976576565221:=()
def tw9701845249529861566:=()
def tw10140196694779935066:=()
def tw6181544380806075781:=()
def tw10868025123234237276:=()
def tw5495453038321343264:=()
def tw12740011763873748361:=()
def tw6676742217776797532:=()
def tw6846702552207208502:=()
def tw7924377689283587894:=()
def tw11452050683789256601:=()
def tw16984808538521432329:=()
def tw17285809351687236048:=()
def tw11862419895120034112:=()
def tw4654849654058538075:=()
def tw16385064122745396121:=()
def tw14201379952219344904:=()
def tw2703839044789107628:=()
def tw11905984609639492252:=()
def tw758481748267646715:=()
def tw5999232134928466341:=()
def tw4833662252174393740:=()
def tw2836382177537459919:=()
def tw8244504951441076805:=()
def tw17699366327534150:=()
def tw18062124626863669909:=()
def tw8969076118051067713:=()
def tw7653227028727994807:=()
def tw15397990386204168488:=()
def tw11579082947873370480:=()
def tw15491267449915240565:=()
def tw8127260659277018350:=()
def tw5465748537077234417:=()
def tw8877166089955784739:=()
def tw16025662889949060248:=()
def tw11325584108917480564:=()
def tw3932866110334175842:=()
def tw17955806489156932571:=()
def tw1168576937528260447:=()
def tw4890774086173897974:=()
def tw12735925020625922839:=()
def tw9698224044821607460:=()
def tw16473864150646081085:=()
def tw1049313959160312927:=()
def tw3951701791737557853:=()
def tw11803429677331202023:=()
def tw13975747684112684859:=()
def tw2016462237538049249:=()
def tw2728253622918124395:=()
def tw17762452660603948021:=()
def tw9428620601026704184:=()
def tw15346646470832740495:=()
def tw4433619417169016570:=()
def tw3976725345467096734:=()
def tw16434785483621588805:=()
def tw17006079564210168921:=()
def tw16451520615279493075:=()
def tw11594163812661560210:=()
def tw6708745540494512839:=()
def tw809505220075264519:=()
def tw14520963907985258275:=()
def tw1196043765985457094:=()
def tw5589901092920628496:=()
def tw10868884593873193017:=()
def tw4769866512691272929:=()
def tw10217204989181763199:=()
def tw13416790612313260452:=()
def tw2376962022720934004:=()
def tw11388154701763981624:=()
def tw17860233674537085596:=()
def tw6745728289331847283:=()
def tw5723360525540533117:=()
def tw9341860137391769702:=()
def tw2926868917983443177:=()
def tw2801446630223319898:=()
def tw8980104622445841359:=()
def tw7760809544896959491:=()
def tw1449288478940420381:=()
def tw10579255837904679149:=()
def tw4829275808426135822:=()
def tw3654409237935928076:=()
def tw13664847785927734843:=()
def tw4270709436590646419:=()
def tw11436960286002298743:=()
def tw12885312659607863258:=()
def tw18025957194830603760:=()
def tw7356663734311192336:=()
def tw153964707260669872:=()
def tw14924142579670881204:=()
def tw10197878772152604570:=()
def tw15298433355745547412:=()
def tw7524839535478748828:=()
def tw16899720286830962995:=()
def tw6258989544300114457:=()
def tw14213948081861688740:=()
def tw9657037797717485127:=()
def tw8321383285140998497:=()
def tw8441385236983110980:=()
def tw15726147103238624363:=()
def tw4281529873686392442:=()
def tw11796536540738013774:=()
def tw16586676116984138790:=()
def tw15687461747337864329:=()
def tw7474883623077033199:=()
def tw17087617981835755246:=()
def tw1714872903915457479:=()
def tw16951298124688251962:=()
def tw6907326828981467980:=()
def tw6284774699452977000:=()
def tw17606728387361728484:=()
def tw16854572860515241793:=()
def tw8676859968950308131:=()
def tw3886966513736631481:=()
def tw4984360495373624028:=()
def tw3776283139453653645:=()
def tw1936135212934745060:=()
def tw463568958853887512:=()
def tw2305083602806211313:=()
def tw11471561609339826467:=()
def tw1626022318939323380:=()
def tw6429694992432803480:=()
def tw3288644726678610615:=()
def tw13547084049419690945:=()
def tw5858944181037233652:=()
def tw8621834988429868368:=()
def tw2506572332139229950:=()
def tw9848777084658010158:=()
def tw2064609582548683887:=()
def tw16056076760034651197:=()
def tw4523608104245457752:=()
def tw10624431771099104764:=()
def tw3583751196815840795:=()
def tw11707421500193565773:=()
def tw14744827902025721341:=()
def tw5815099314417391612:=()
def tw8259864053681054397:=()
def tw16667766905981868423:=()
def tw455101326993534379:=()
def tw15720346066481935020:=()
def tw13950053820622967654:=()
def tw9278918287686643121:=()
def tw5559282201193211771:=()
def tw3703791486035272145:=()
def tw4333845305845558297:=()
def tw15725117187295290479:=()
def tw3557493934022110226:=()
def tw14699229446309200094:=()
def tw2111870757326817612:=()
def tw6070305484559523213:=()
def tw16338524903357792314:=()
def tw16453620504339985216:=()
def tw15972596722456800698:=()
def tw5673485567244937816:=()
def tw7755441296190851988:=()
def tw8883090878563756325:=()
def tw9941336599080022844:=()
def tw15512807724250464172:=()
def tw15688761325329792471:=()
def tw3807352647430495879:=()
def tw16667732403230445167:=()
def tw12977333524097965712:=()
def tw5402957105899497095:=()
def tw16289434841795101885:=()
def tw16892149469485912819:=()
def tw15799228606538482262:=()
def tw14572129889562457291:=()
def tw17106664632860338274:=()
def tw10045749686514350824:=()
def tw2945627372537292262:=()
def tw4912670162208283846:=()
def tw1588404916793005302:=()
def tw5639180524077258296:=()
def tw9988447140647915919:=()
def tw1394402829002312839:=()
def tw18406768449315216422:=()
def tw2238425090952137062:=()
def tw7221708296226931235:=()
def tw12166902410489529062:=()
def tw5128531327496236085:=()
def tw2846148912783842512:=()
def tw4780680464127824954:=()
def tw2898347821870681997:=()
def tw11123515719770800125:=()
def tw11920633904061284496:=()
def tw12220257733228169355:=()
def tw1362216846929673318:=()
def tw1196984874239797359:=()
def tw2821942315826807833:=()
def tw9493037611405681087:=()
def tw9992313240872108480:=()
def tw6155072937175915356:=()
def tw2939668364892235892:=()
def tw10100691515797790213:=()
def tw1225173588754169076:=()
def tw11028078861311238354:=()
def tw6931299698646395777:=()
def tw4166978383453440652:=()
def tw18026621846845824545:=()
def tw3606512219092525376:=()
def tw3689665723282674789:=()
def tw5443590659779952036:=()
def tw10602090624525180951:=()
def tw7020885717176037700:=()
def tw3739836370030528106:=()
def tw16691414661283520308:=()
def tw13181349698185864019:=()
def tw7808059226836063586:=()
def tw5850315869720448875:=()
def tw2349713399183886250:=()
def tw11091567379300396863:=()
def tw1045342402778449367:=()
def tw16776281486228207633:=()
def tw2068389800691641583:=()
def tw2057532076138148077:=()
def tw10093482190436455175:=()
def tw11268341895846664224:=()
def tw9162579800222211008:=()
def tw13012838910896358822:=()
def tw11118822907271252402:=()
def tw6535100461395813692:=()
def tw7414716314891852858:=()
def tw12098765068000533818:=()
def tw11537454562707746240:=()
def tw8836951251280388557:=()
def tw6874450141666933266:=()
def tw16807605945693889159:=()
def tw16159012344967591712:=()
def tw12874595584660928328:=()
def tw7203696473035124918:=()
def tw8341854194814791236:=()
def tw14995712923022840744:=()
def tw16995509380369850574:=()
def tw10126672108233054682:=()
def tw7834270954042416961:=()
def tw11053022897583887539:=()
def tw5503988695986027989:=()
def tw11286973611567106411:=()
def tw1779334142794950301:=()
def tw15521954123695074744:=()
def tw15223366798951343892:=()
def tw14809769005979311869:=()
def tw15261284201489752321:=()
def tw18298062197256968337:=()
def tw4495458259923623233:=()
def tw9816037282428749758:=()
def tw1012838880093443164:=()
def tw6641770720242637473:=()
def tw12906956321932055027:=()
def tw7410367389361535436:=()
def tw18313719976347221595:=()
def tw16879003987300753373:=()
def tw2694908669242117406:=()
def tw18394957901328005890:=()
def tw16673772990639406339:=()
def tw8158627757601512511:=()
def tw11786305025725587081:=()
def tw7976624133901496245:=()
def tw11089511558102007470:=()
def tw11372443922755385144:=()
def tw2714891660046034352:=()
def tw1552307568938966922:=()
def tw16044118214444801408:=()
def tw9563730742838804095:=()
def tw15347671900859250921:=()
def tw7826935855654131186:=()
def tw11350836319748247966:=()
def tw8454973096652685255:=()
def tw388113898265665190:=()
def tw16773964585522177927:=()
def tw8155175628706343486:=()
def tw5085676065076688037:=()
def tw18272496825721865576:=()
def tw680526806601878130:=()
def tw9442063717206717409:=()
def tw2916723017540743979:=()
def tw13023667191860509571:=()
def tw1916008145062374967:=()
def tw7688554260634726742:=()
def tw8695352011165962953:=()
def tw9137594539149243348:=()
def tw4742546794303210436:=()
def tw7637935761611612494:=()
def tw2390425866201375937:=()
def tw16978601477874343399:=()
def tw15573441859678441094:=()
def tw7391813220684271075:=()
def tw15143892415905767048:=()
def tw14720909390513848726:=()
def tw3334393054597352396:=()
def tw6914523495831004850:=()
def tw18192570167711998165:=()
def tw16656252394241769931:=()
def tw8575921870782956358:=()
def tw4597785152705008618:=()
def tw13135536153987907182:=()
def tw12265101090046906794:=()
def tw13566679359514169426:=()
def tw1902223121557068313:=()
def tw14259289091622045131:=()
def tw3567617245159288049:=()
def tw17447722450844914555:=()
def tw17551104588596735190:=()
def tw5583451753101860112:=()
def tw12582038134243132942:=()
def tw8018508990885643249:=()
def tw15352954268545086697:=()
def tw7523304959928004873:=()
def tw1822562024669766096:=()
def tw13583309105754617807:=()
def tw4103039718571177146:=()
def tw2326657761090579629:=()
def tw7642217881107754440:=()
def tw17536458367390542957:=()
def tw12975800425819076353:=()
def tw5696365856894357058:=()
def tw16484268351644560069:=()
def tw16494104570323867807:=()
def tw13216615831009469531:=()
def tw5280339686610432556:=()
def tw10980645395791597210:=()
def tw12641288537279740507:=()
def tw9937766834723970406:=()
def tw13280529164397208803:=()
def tw6607909621220861018:=()
def tw13202381352438580808:=()
def tw8535077661385573573:=()
def tw15012855276945950139:=()
def tw9236608434464727267:=()
def tw16130495330184641738:=()
def tw15466569281433293867:=()
def tw7418131349652597665:=()
def tw17161267065916583698:=()
end PySem.W.Fast
set_option maxRecDepth 100000 in
set_option maxHeartbeats 0 in
theorem PySem.Challenge.cw_trialdeal_k30_trials_refused_holds : PySem.Challenge.rw_trialdeal_k30_trials_refused.Holds := by
 w_on;o_law;k_head;(case hw=>w_witness2)
 k_fill
 refine My.walk (l:=PySem.Challenge.rw_trialdeal_k30_trials_refused) rfl rfl (λ w h Y=>PySem.W.kIn_of Y) ?F
 case F =>
  intro w mg fa h KX G Pa;refine' My.all_mk KX G Pa (My.Mp ?jaa ?jab ?jac ?jad ?jae ?jaf ?jag ?jah ?jai ?jaj ?jak ?jal) (My.WJ (My.Α "NoShare" ?jam ?jan ?jao ?jap ?jaq ?jar ?jas ?jat) (mg_of KX G ?jau) (L2.š ?jav ?jaw ?jax) ?jay) (My.WI (My.Α "NoNumber" ?jaz ?jaA ?jaB ?jaC ?jaD ?jaE ?jaF ?jaG) (mg_of KX G ?jaH) (L2.š ?jaI ?jaJ ?jaK) ?jaL) (My.WH (My.Α "NoFolk" ?jaM ?jaN ?jaO ?jaP ?jaQ ?jaR ?jaS ?jaT) (mg_of KX G ?jaU) (L2.š ?jaV ?jaW ?jaX) ?jaY) (My.WG (My.Α "NoDealing" ?jaZ ?ja0 ?ja1 ?ja2 ?ja3 ?ja4 ?ja5 ?ja6) (mg_of KX G ?ja7) (L2.š ?ja8 ?ja9 ?jba) ?jbb) (My.WF (My.Α "NoOutcome" ?jbc ?jbd ?jbe ?jbf ?jbg ?jbh ?jbi ?jbj) (mg_of KX G ?jbk) (L2.š ?jbl ?jbm ?jbn) ?jbo) (My.WE (My.Α "NotSure" ?jbp ?jbq ?jbr ?jbs ?jbt ?jbu ?jbv ?jbw) (mg_of KX G ?jbx) (L2.š ?jby ?jbz ?jbA) ?jbB) (My.WD (My.Α "NoPairs" ?jbC ?jbD ?jbE ?jbF ?jbG ?jbH ?jbI ?jbJ) (mg_of KX G ?jbK) (L2.š ?jbL ?jbM ?jbN) ?jbO)
   ?jbP ?jbQ ?jbR ?jbS ?jbT ?jbU ?jbV ?jbW ?jbX ?jbY ?jbZ ?jb0 ?jb1 ?jb2 ?jb3 ?jb4 ?jb5 ?jb6 ?jb7 ?jb8 ?jb9 ?jca ?jcb ?jcc ?jcd ?jce ?jcf ?jcg ?jch ?jci ?jcj ?jck ?jcl ?jcm ?jcn ?jco ?jcp ?jcq ?jcr ?jcs ?jct ?jcu ?jcv ?jcw ?jcx ?jcy ?jcz ?jcA ?jcB ?jcC ?jcD ?jcE ?jcF ?jcG ?jcH ?jcI ?jcJ ?jcK ?jcL ?jcM ?jcN ?jcO ?jcP ?jcQ ?jcR ?jcS ?jcT ?jcU ?jcV ?jcW ?jcX ?jcY ?jcZ ?jc0 ?jc1 ?jc2 ?jc3 ?jc4 ?jc5 ?jc6 ?jc7 ?jc8 ?jc9 ?jda ?jdb ?jdc ?jdd ?jde ?jdf ?jdg ?jdh ?jdi ?jdj ?jdk ?jdl ?jdm ?jdn ?jdo ?jdp ?jdq ?jdr ?jds ?jdt ?jdu ?jdv ?jdw ?jdx ?jdy ?jdz ?jdA ?jdB ?jdC ?jdD ?jdE ?jdF ?jdG ?jdH ?jdI ?jdJ ?jdK (My.ó My.b1 KX G ?jdL ?jdM ?jdN ?jdO) (My.ó My.b3 KX G ?jdP ?jdQ ?jdR ?jdS) (My.ó My.b2 KX G ?jdT ?jdU ?jdV ?jdW) (My.ó My.b2 KX G ?jdX ?jdY ?jdZ ?jd0) (My.ó My.b2 KX G ?jd1 ?jd2 ?jd3 ?jd4) (My.ó My.b1 KX G ?jd5 ?jd6 ?jd7 ?jd8) (My.ó My.b3 KX G ?jd9 ?jea ?jeb ?jec) (My.ó My.b2 KX G ?jed ?jee ?jef ?jeg) (My.ó My.b2 KX G ?jeh ?jei ?jej ?jek) (My.ó My.b2 KX G ?jel ?jem ?jen ?jeo) (My.ó My.b3 KX G ?jep ?jeq ?jer ?jes) (My.ó My.b1 KX G ?jet ?jeu ?jev ?jew) (My.ó My.b1 KX G ?jex ?jey ?jez ?jeA) (My.ó My.b3 KX G ?jeB ?jeC ?jeD ?jeE) (My.ó My.b2 KX G ?jeF ?jeG ?jeH ?jeI) (My.ó My.b2 KX G ?jeJ ?jeK ?jeL ?jeM) (My.ó My.b4 KX G ?jeN ?jeO ?jeP ?jeQ) (My.ó My.b2 KX G ?jeR ?jeS ?jeT ?jeU) (My.ó My.b2 KX G ?jeV ?jeW ?jeX ?jeY) (My.ó My.b1 KX G ?jeZ ?je0 ?je1 ?je2) (My.ó My.b2 KX G ?je3 ?je4 ?je5 ?je6) (My.ó My.b1 KX G ?je7 ?je8 ?je9 ?jfa) (My.ó My.b2 KX G ?jfb ?jfc ?jfd ?jfe) (My.ó My.b2 KX G ?jff ?jfg ?jfh ?jfi) (My.ó My.b2 KX G ?jfj ?jfk ?jfl ?jfm) (My.ó My.b1 KX G ?jfn ?jfo ?jfp ?jfq) (My.ó My.b1 KX G ?jfr ?jfs ?jft ?jfu) (My.ó My.b1 KX G ?jfv ?jfw ?jfx ?jfy) (My.ó My.b2 KX G ?jfz ?jfA ?jfB ?jfC) (My.ó My.b1 KX G ?jfD ?jfE ?jfF ?jfG) (My.ó My.b2 KX G ?jfH ?jfI ?jfJ ?jfK) (My.ó My.b1 KX G ?jfL ?jfM ?jfN ?jfO) (My.ó My.b1 KX G ?jfP ?jfQ ?jfR ?jfS) (My.ó My.b3 KX G ?jfT ?jfU ?jfV ?jfW) (My.ó My.b1 KX G ?jfX ?jfY ?jfZ ?jf0) (My.ó My.b1 KX G ?jf1 ?jf2 ?jf3 ?jf4) (My.ó My.b1 KX G ?jf5 ?jf6 ?jf7 ?jf8) (My.ó My.b1 KX G ?jf9 ?jga ?jgb ?jgc) (My.ó My.b3 KX G ?jgd ?jge ?jgf ?jgg) (My.ó My.b2 KX G ?jgh ?jgi ?jgj ?jgk) (My.ó My.b2 KX G ?jgl ?jgm ?jgn ?jgo) (My.ó My.b1 KX G ?jgp ?jgq ?jgr ?jgs) (My.ó My.b4 KX G ?jgt ?jgu ?jgv ?jgw) (My.ó My.b4 KX G ?jgx ?jgy ?jgz ?jgA) (My.ó My.b1 KX G ?jgB ?jgC ?jgD ?jgE) (My.ó My.b1 KX G ?jgF ?jgG ?jgH ?jgI) (My.ġ My.b5 ?jgJ ?jgK ?jgL ?jgM) (My.ġ My.b1 ?jgN ?jgO ?jgP ?jgQ) (My.ġ My.b1 ?jgR ?jgS ?jgT ?jgU) (My.ġ My.b1 ?jgV ?jgW ?jgX ?jgY) (My.ġ My.b1 ?jgZ ?jg0 ?jg1 ?jg2) (My.ġ My.b3 ?jg3 ?jg4 ?jg5 ?jg6) (My.ġ My.b3 ?jg7 ?jg8 ?jg9 ?jha) (My.ġ My.b4 ?jhb ?jhc ?jhd ?jhe) (My.ġ My.b3 ?jhf ?jhg ?jhh ?jhi) (My.ġ My.b3 ?jhj ?jhk ?jhl ?jhm) (My.ġ My.b3 ?jhn ?jho ?jhp ?jhq) (My.ġ My.b2 ?jhr ?jhs ?jht ?jhu) (My.ġ My.b3 ?jhv ?jhw ?jhx ?jhy) (My.ġ My.b3 ?jhz ?jhA ?jhB ?jhC) (My.ġ My.b3 ?jhD ?jhE ?jhF ?jhG) (My.ġ My.b1 ?jhH ?jhI ?jhJ ?jhK) (My.ġ My.b3 ?jhL ?jhM ?jhN ?jhO) (My.ġ My.b2 ?jhP ?jhQ ?jhR ?jhS) (My.ġ My.b1 ?jhT ?jhU ?jhV ?jhW) (My.ġ My.b3 ?jhX ?jhY ?jhZ ?jh0) (My.ġ My.b2 ?jh1 ?jh2 ?jh3 ?jh4) (My.ġ My.b1 ?jh5 ?jh6 ?jh7 ?jh8) (My.ġ My.b2 ?jh9 ?jia ?jib ?jic) (My.ġ My.b1 ?jid ?jie ?jif ?jig) (My.ġ My.b3 ?jih ?jii ?jij ?jik) (My.ġ My.b2 ?jil ?jim ?jin ?jio) (My.ġ My.b5 ?jip ?jiq ?jir ?jis)
   (λ s v=>.of_eq rfl)
  case jbP | jau | jaH | jaU | ja7 | jbk | jbx | jbK | jaa | jab=>k_is
  (case jac=>exact My.JM rfl)
  (case jad=>first | rfl | decide +kernel)
  case jae | jaf | jag | jah | jai | jaj | jak | jal | jam | jan | jao | jap | jaq | jar | jas | jat | jav | jaw | jax | jay | jaz | jaA | jaB | jaC | jaD | jaE | jaF | jaG | jaI | jaJ | jaK | jaL | jaM | jaN | jaO | jaP | jaQ | jaR | jaS | jaT | jaV | jaW | jaX | jaY | jaZ | ja0 | ja1 | ja2 | ja3 | ja4 | ja5 | ja6 | ja8 | ja9 | jba | jbb | jbc | jbd | jbe | jbf | jbg | jbh | jbi | jbj | jbl | jbm | jbn | jbo | jbp | jbq | jbr | jbs | jbt | jbu | jbv | jbw | jby | jbz | jbA | jbB | jbC | jbD | jbE | jbF | jbG | jbH | jbI | jbJ | jbL | jbM | jbN | jbO | jbQ | jbX | jb4 | jcf | jcq | jcB | jcK | jcT | jc2 | jdb | jbT | jb0 | jb7 | jb8 | jb9 | jca | jcb | jcc | jci | jcj | jck | jcl | jcm | jcn | jct | jcu | jcv | jcw | jcx | jcy | jcE | jcF | jcG | jcH | jcI | jcN | jcO | jcP | jcQ | jcR | jcW | jcX | jcY | jcZ | jc0 | jc5 | jc6 | jc7 | jc8 | jc9 | jde=>k_is
  case jb5 | jcg | jcr | jcC | jcL | jcU | jc3 | jdc =>
   exact My.Pq (by k_is) (by k_is) (by k_is) (by k_is) (by k_is) (by k_is) (by k_is) (by k_is) (by k_is) (by k_is)
  case jb6 | jch | jcs | jcD | jcM | jcV | jc4 | jdd =>
   repeat (refine My.WO (by k_is) ?_)
   exact trivial
  case jcd | jce | jco | jcp | jcz | jcA | jcJ | jcS | jc1 | jda =>
   repeat (refine My.WY (by k_is) ?_)
   exact trivial
  case jbR | jbS | jbU | jbV | jbW | jbY | jbZ | jb1 | jb2 | jb3 | jdf | jdg | jdh | jdi | jdj | jdk | jdl | jdm | jdn | jdo | jdp | jdq | jdr | jds | jdt | jdu | jdv | jdw | jdx | jdy | jdz | jdA | jdB | jdC | jdD | jdE | jdF | jdG | jdH | jdI | jdJ | jdK | jdL | jdM | jdN | jdO | jdP | jdQ | jdR | jdS | jdT | jdU | jdV | jdW | jdX | jdY | jdZ | jd0 | jd1 | jd2 | jd3 | jd4 | jd5 | jd6 | jd7 | jd8 | jd9 | jea | jeb | jec | jed | jee | jef | jeg | jeh | jei | jej | jek | jel | jem | jen | jeo | jep | jeq | jer | jes | jet | jeu | jev | jew | jex | jey | jez | jeA | jeB | jeC | jeD | jeE | jeF | jeG | jeH | jeI | jeJ | jeK | jeL | jeM | jeN | jeO | jeP | jeQ | jeR | jeS | jeT | jeU | jeV | jeW | jeX | jeY | jeZ | je0 | je1 | je2 | je3 | je4 | je5 | je6 | je7 | je8 | je9 | jfa | jfb | jfc | jfd | jfe | jff | jfg | jfh | jfi | jfj | jfk | jfl | jfm | jfn | jfo | jfp | jfq | jfr | jfs | jft | jfu | jfv | jfw | jfx | jfy | jfz | jfA | jfB | jfC | jfD | jfE | jfF | jfG | jfH | jfI | jfJ | jfK | jfL | jfM | jfN | jfO | jfP | jfQ | jfR | jfS | jfT | jfU | jfV | jfW | jfX | jfY | jfZ | jf0 | jf1 | jf2 | jf3 | jf4 | jf5 | jf6 | jf7 | jf8 | jf9 | jga | jgb | jgc | jgd | jge | jgf | jgg | jgh | jgi | jgj | jgk | jgl | jgm | jgn | jgo | jgp | jgq | jgr | jgs | jgt | jgu | jgv | jgw | jgx | jgy | jgz | jgA | jgB | jgC | jgD | jgE | jgF | jgG | jgH | jgI | jgJ | jgK | jgL | jgM | jgN | jgO | jgP | jgQ | jgR | jgS | jgT | jgU | jgV | jgW | jgX | jgY | jgZ | jg0 | jg1 | jg2 | jg3 | jg4 | jg5 | jg6 | jg7 | jg8 | jg9 | jha | jhb | jhc | jhd | jhe | jhf | jhg | jhh | jhi | jhj | jhk | jhl | jhm | jhn | jho | jhp | jhq | jhr | jhs | jht | jhu | jhv | jhw | jhx | jhy | jhz | jhA | jhB | jhC | jhD | jhE | jhF | jhG | jhH | jhI | jhJ | jhK | jhL | jhM | jhN | jhO | jhP | jhQ | jhR | jhS | jhT | jhU | jhV | jhW | jhX | jhY | jhZ | jh0 | jh1 | jh2 | jh3 | jh4 | jh5 | jh6 | jh7 | jh8 | jh9 | jia | jib | jic | jid | jie | jif | jig | jih | jii | jij | jik | jil | jim | jin | jio | jip | jiq | jir | jis=>k_is
