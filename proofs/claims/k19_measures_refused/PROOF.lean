import PyProof.Rows.All
import Wide.All
import OpenK.AllK
import Wide.FinOn
import Lean
import PyProof.EqAt
import PyProof.EqKinds
import PyProof.TupleCall
import PyProof.ExcClass2
import PyProof.InstStoreFacts
import PyProof.ExcArgs
import PyProof.ExcInit
import PyProof.ExcBaseAll.ValueError
import KE.KIsAll
import PyProof.RulesRaise
import PyProof.RulesAs
import PyProof.RaisesMany
import PyProof.NeKinds
import PyProof.EnumFor
import PyProof.EnumStmt
import PyProof.EnumMake
import PyProof.Rows.EnumRows
import PyProof.CompFree
import KE.KIntText
import PyProof.StrBlockG
import PyProof.StrBlockH
import PyProof.StrWalks
import PyProof.Rows.StrNews2
import PyProof.Rows.StrOr
import PyProof.Rows.Digits
import PyProof.StrBlockL
import PyProof.MeetsStr2
import PyProof.CompMap
import KE.IntTextLaws
import PyProof.Rows.StrPartPair
import PyProof.StrLawsTight
import PyProof.StrLawsChain
import PyProof.Rows.StrIntSpec
import PyProof.Rows.StrItems
import PyProof.ReprRoads
import PyProof.ReprBulk
import PyProof.FitsInt
import PyProof.CallFns
import PyProof.Rows.FactsT3
import PyProof.ListRange
import PyProof.TupleOfSeq
import PyProof.TupleOfGen
import PyProof.ConsumeWalk
import PyProof.Rows.SeqGen
import PyProof.CompUse
import KE.KUnpack
import PyProof.Draws
import PyProof.Rows.RuleB_bool
import PyProof.WalkInts
import PyProof.SeqI3
import KE.KRevSl
import KE.BitLaws
import PyProof.Rows.SumAny
import PyProof.ZipIter
import PyProof.TupleIter
import PyProof.WalksMore
import PyProof.Rows.FactsT2
import PyProof.Rows.SortWalk
import PyProof.Rows.SeqMore2
import PyProof.DictCompW
import PyProof.Cells
import KE.KTryMore
import PyProof.Rows.Range3
import PySem.Challenge.RW_trialdeal_k19_measures_refused
set_option autoImplicit true
set_option relaxedAutoImplicit true
set_option linter.all false
def À:=@PySem.wpAny_bind
def Á:=@PySem.Heap.get?_push_of_some
def Â:=@List.getElem?_eq_getElem
def Ä:=@List.length_map
def Å:=@decide_eq_true
def Æ:=@PySem.wpAny_pure
def Ç:=@Nat.le_refl
def È:=@PySem.Heap.lt_size
def É:=@decide_eq_false
def Ê:=@PyProof.Rows.boot_isinstance
def Ë:=@List.getElem?_eq_some_iff
def Ì:=@List.mem_append_right
def Í:=@PySem.Heap.get?_push_size
def Î:=@Nat.ne_of_lt
def Ï:=@List.map_append
def Ð:=@List.length_append
def Ò:=@List.getElem?_map
def Ó:=@Bool.false_ne_true
def Ô:=@List.mem_singleton
def Ö:=@PySem.sizeLine_eq
def Ø:=@if_neg
def Ù:=@beq_eq_false_iff_ne
def Ú:=@PySem.mem_of_lookup
def Û:=@Option.some.inj
def Ü:=@PySem.Heap.get?_update_ne
def Ý:=@List.length_replicate
def Þ:=@Nat.lt_of_lt_of_le
def à:=@if_pos
def á:=@Option.map_eq_some_iff
def â:=@List.size_toArray
def ã:=@List.mem_cons_of_mem
def ä:=@List.take_length
def å:=@List.getElem?_append_right
def æ:=@PySem.wpAny_mono
def ç:=@List.mem_cons
def è:=@List.lookup_cons
def é:=@Nat.le_trans
def ê:=@List.mem_of_getElem?
def ë:=@PySem.Heap.size_push
def ì:=@PySem.wpAny_field
def í:=@PyProof.Rows.boot_tuple
def î:=@List.mem_cons_self
def ï:=@List.contains_cons
def ð:=@List.getElem?_append_left
def ñ:=@PySem.boot_len
def ò:=@PySem.Heap.get?_update_self
def ô:=@List.map_cons
def õ:=@Int.toNat_natCast
def ø:=@Array.getElem?_eq_some_iff
def ú:=@List.length_cons
def û:=@Nat.lt_succ_of_lt
def ü:=@PySem.wpAny_ite_false
def ý:=@PySem.wpAny_newObj_type
def þ:=@PySem.wpAny_holding
def ÿ:=@List.replicate_succ
def ā:=@beq_iff_eq
def ă:=@List.append_nil
def ć:=@List.mem_map
def ĉ:=@PySem.wpAny_setField_rec
def Ċ:=@PySem.wpAny_seqItems
def ċ:=@PySem.wpAny_Call_Name_kw
def č:=@PySem.W.kia_tup
def Ď:=@PySem.W.kia_one
def ď:=@PySem.F.plainAttrs_list
def Đ:=@List.length_take
def đ:=@List.getElem_mem
def ē:=@PySem.wpAny_callSpecial?_slot
def Ĕ:=@List.flatten_cons
def Ė:=@PyProof.Rows.boot_sum
def ė:=@PySem.W.mg_none_of
def Ę:=@PySem.W.callWith_K
def ę:=@PySem.W.Looks.here
def Ě:=@List.filter_cons
def ě:=@List.all_eq_true
def ĝ:=@Nat.lt_irrefl
def Ğ:=@congrArg
def Ġ:=@List.mem_append
def ģ:=@PyProof.Rows.callWith_type1
def Ĥ:=@PyProof.Rows.boot_list
def Ĩ:=@beq_self_eq_true
def Ī:=@List.getD_eq_getElem?_getD
def ī:=@List.filter_append
def Ĭ:=@List.length_filter_le
def ĭ:=@PySem.wpAny_standAt
def į:=@PySem.wpAny_call_entry
def ı:=@of_decide_eq_true
def Ĳ:=@Nat.lt_or_ge
def Ĵ:=@Option.isSome_iff_exists
def ĵ:=@Bool.true_and
def ĸ:=@PySem.PassesOwn.never
def Ĺ:=@List.getElem_of_mem
def ĺ:=@PySem.wpAny_truthy_bool
def Ļ:=@List.filter_cons_of_pos
def ļ:=@List.filter_cons_of_neg
def Ľ:=@PySem.wpAny_comprehension_free
def Ŀ:=@Int.emod_lt_of_pos
def Ł:=@PySem.wpAny_ite_true
def ł:=@List.sum_append
def ŉ:=@PySem.codeAny_mono
def Ŋ:=@PySem.Calls.spliced_cons
def Ō:=@PySem.wpAny_passesOwn
def ō:=@PySem.F.slot_NoneType_hash
def Ŏ:=@PySem.F.excAttr_ValueError
def ŏ:=@Nat.zero_le
def Œ:=@PySem.Value.ref.inj
def ŕ:=@PySem.wpAny_call
def Ŗ:=@PySem.F.slot_tuple_iterator_next
def ŗ:=@PySem.Around.under_plainId
def Ś:=@Nat.not_lt_zero
def ś:=@List.of_mem_zip
def ŝ:=@PySem.wpAny_isInstance
def Ş:=@decide_eq_true_iff
def ş:=@Nat.not_lt
def š:=@PySem.F.slot_list_index
def Ţ:=@List.getElem?_replicate
def Ť:=@PyProof.Rows.boot_repr
def ť:=@Nat.ne_of_gt
def Ŧ:=@List.getElem?_set_self
def ū:=@PySem.wpAny_execs_nil
def Ŭ:=@PySem.W.mg_of
def Ű:=@PySem.W.methodCall_KW
def Ŷ:=@PySem.wpAny_nextOf_list_item
def ŷ:=@PySem.codeAny_compStart_list
def Ÿ:=@Nat.le_succ
def Ź:=@List.mem_of_mem_take
def ź:=@PySem.Heap.get?_push_at
def Α:=@Int.emod_nonneg
def Γ:=@PySem.F.slot_enumerate_next
def Ι:=@PySem.wpAny_attempt
def Λ:=@PySem.wpAny_newFunctionEnv
def Μ:=@PySem.codeAny_call_builtin
def Ν:=@Bool.false_and
def Ω:=@PySem.codeAny_builtin
def ζ:=@PySem.W.kitx_list
def η:=@PySem.W.kitx_dict
def θ:=@Nat.le_succ_of_le
def ι:=@List.append_assoc
def ξ:=@PySem.F.type_list_append
def ο:=@PySem.F.slot_list_append
def ς:=@PySem.wpAny_setField
def τ:=@PySem.W.looks_findIn
def υ:=@PyProof.Rows.boot_range
def χ:=@Option.bind_some
def ψ:=@Nat.lt_succ_self
def ω:=@List.length_drop
def a_:=@Bool.and_eq_true
def f_:=@PySem.W.cellsFrom_some
def g_:=@Nat.sub_self
def h_:=@Nat.le_of_lt
def i_:=@Nat.le_of_eq
def j':=@Int.zero_add
def m_:=@PySem.wpAny_pyIter_list
def n_:=@PySem.wpAny_pyIter_enum
def o_:=@Option.map_some
def p_:=@List.nodup_cons
def q_:=@List.filter_nil
def r_:=@Bool.eq_iff_iff
def s_:=@PySem.wpAny_onRaise
def t_:=@List.getElem?_eq_none
def C_:=@PySem.W.looks_mroIn
def H_:=@List.mem_append_left
def I_:=@List.getElem?_set_ne
def J':=@PySem.F.plain_sum_loop
def LK:=@PySem.wpAny_rule
def LL:=@PySem.typeIs_int
def LM:=@PySem.call_meets
def LN:=@PySem.W.plainGet_of
def LO:=@Nat.mul_le_mul_left
def LP:=@List.map_congr_left
def LQ:=@List.filterMap_cons
def L6:=@PySem.SeqAt.EqAt.same
def L7:=@List.sum_cons
def L8:=@PySem.F.slot_zip_next
def MQ:=@PySem.wpAny_updateSeq_pair
def MR:=@PySem.wpAny_setFlight_none
def MT:=@Nat.lt_trans
def MU:=@List.map_nil
def MV:=@List.all_map
def Na:=@decide_eq_decide
def Nb:=@PyProof.Rows.callWith_builtin1
def Nc:=@List.countP_cons
def NI:=@PySem.Obj.data_mapFields
def NJ:=@List.range_succ
def NK:=@List.mem_filter
def NL:=@List.length_nil
def NM:=@Int.natCast_pow
def Oj:=@PySem.wpAny_loadPart_at
def Ol:=@PySem.F.excBase_ValueError
def Om:=@PySem.PassesOwn.leaving
def On:=@List.forIn_nil
def Oo:=@Int.fdiv_eq_ediv_of_nonneg
def Op:=@PySem.Calls.spliced_nil
def Pe:=@PySem.plainObj_wpAny_Assign_Attribute
def Pf:=@PySem.F.args_list_index_2
def Pq:=@PySem.wpAny_execs_cons
def Pr:=@PySem.F.entry_list_index
def Ps:=@List.getElem?_take_of_lt
def Pu:=@List.any_cons
def Pw:=@List.all_cons
def Px:=@PySem.Heap.size_update
def P3:=@PySem.F.type_list_index
def P4:=@PySem.F.type_list_count
def P5:=@PySem.F.slot_list_count
def P6:=@List.length_eq_zero_iff
def Qw:=@PySem.wpAny_specialOf
def Qx:=@PySem.wpAny_loadPart'
def Qy:=@PyProof.Rows.boot_bool
def Qz:=@List.take_of_length_le
def QA:=@List.range_succ_eq_map
def QB:=@List.map_map
def QC:=@PySem.F.args_tuple_iterator_next_1
theorem ao {p:Prop}(h:p:=by decide +kernel):p:=h
theorem ad {p:Prop}(h:p:=by decide):p:=h
theorem am {p:Prop}(h:p:=by omega):p:=h
theorem dA {n:Nat}(h:Nat.ble n 1000=true:=by exact rfl):n<=PySem.sizeLine:=é (Nat.le_of_ble_eq_true h) (by decide)
abbrev cy:=PySem.Value->PySem.Shared->Prop
abbrev bv:=PySem.Str->Option PySem.Value
abbrev eZ (l:List (PySem.Str × PySem.NameKind)):PySem.Scope:={ kind:=.function,names:=(".0",.local)::l,isGenerator:=false,isCoroutine:=false }
set_option Elab.async false
set_option maxRecDepth 100000
namespace L2
open PySem PySem.Spec PyProof.Rows
inductive Key where
 | inl (i:Int) | inr (x:Str) | ù
 deriving DecidableEq
def ju:Key->Value->Bool
 | .inl k,v=>Value.isInt k v
 | .inr x,v=>Value.isStrOf x v
 | .ù,v=>v == .none
def JT (w:World):Key->Int
 | .inl k=>hashInt k
 | .inr x=>hashStr w x
 | .ù=>0xFCA86420
theorem nB {prog:Program}{w:World}{A:Around}{E:cy}{s:Shared}{Q:Int->Shared->Prop}(h:Q 0xFCA86420 { s with toks:=s.toks+1 }):wpAny (model prog w) A (pyHash .none) Q E s:=by
 unfold pyHash;have hT:s.TypeIs .none "NoneType" := rfl;have hv:[Value.none].any Value.onHeap=false:=rfl;refine À ?_;rw [cRoomFor,Ø (by rw [hv];exact Ó)];refine Æ ?_
 refine À (Qw hT ō.lookup ?_);show wpAny _ _ (if(some (Value.builtin "NoneType.__hash__")==some Value.none)=true then _ else _) Q E s
 rw [Ø (by rw [beq_builtin_none];exact Ó)]
 refine À (Qw hT ō.lookup ?_);show wpAny _ _ (callSpecialIfBoundUnlessNone? .none "__hash__" _>>=_) Q E s;refine À (wpAny_callSpecialIfBoundUnlessNone?_slot hT ō
  (į ō hT PySem.F.entry_NoneType_hash
   (show wpAny _ _ (do ret (<- mkInt 0xFCA86420)) _ _ s from wpAny_ret_mkInt ?_) (PySem.F.args_NoneType_hash_1 _)))
 show wpAny _ _ (if(decide (-(2:Int)^63<=0xFCA86420)&&decide ((0xFCA86420:Int)<2^63))=true then _ else _) Q E _
 rw [à ad];exact Æ h
theorem bn:∀{k:Key}{v:Value},ju k v=true->(∃ i t,k=Key.inl i/\v=Value.int i t)\/(∃ x t,k=Key.inr x/\v=Value.str x t)\/(k=Key.ù/\v=Value.none)
 | .inl i,v,h=>by
  obtain⟨t,e⟩:=Value.isInt_shape (k:=i) (v:=v) h;exact .inl ⟨i,t,rfl,e⟩
 | .inr x,v,h=>by
  obtain⟨t,e⟩:=Value.isStrOf_shape (x:=x) (v:=v) h;exact .inr (.inl ⟨x,t,rfl,e⟩)
 | .ù,v,h=>.inr (.inr ⟨rfl,eq_of_beq h⟩)
theorem rj (i:Int)(t:Tok):ju (.inl i) (.int i t)=true:=by simp [ju,Value.isInt]
theorem rG (x:Str)(t:Tok):ju (.inr x) (.str x t)=true:=by simp [ju,Value.isStrOf]
theorem Br (a b:Int):decide (Key.inl a=Key.inl b)=(a==b):=by
 by_cases e:a=b
 ·subst e;simp
 ·rw [É (λ q=>e (Key.inl.inj q))];exact(Ù.mpr e).symm
theorem BM (a b:Str):decide (Key.inr a=Key.inr b)=decide (a=b):=by
 by_cases e:a=b
 ·subst e;simp
 ·rw [É (λ q=>e (Key.inr.inj q)),É e]
theorem BB (a:Int)(b:Str):decide (Key.inl a=Key.inr b)=false:=É (λ q=>nomatch q)
theorem yT (a:Str)(b:Int):decide (Key.inr a=Key.inl b)=false:=É (λ q=>nomatch q)
theorem Af (a:Int):decide (Key.inl a=Key.ù)=false:=É (λ q=>nomatch q)
theorem AZ (a:Int):decide (Key.ù = Key.inl a)=false:=É (λ q=>nomatch q)
theorem zp (a:Str):decide (Key.inr a=Key.ù)=false:=É (λ q=>nomatch q)
theorem AD (a:Str):decide (Key.ù = Key.inr a)=false:=É (λ q=>nomatch q)
def bP (prog:Program)(w:World):PySem.KeyKind prog w Key where
 is:=ju
 hash:=JT w
 inj:=λ v a b ha hb=>by
  rcases bn ha with⟨i,t,rfl,rfl⟩ | ⟨x,t,rfl,rfl⟩ | ⟨rfl,rfl⟩
  ·rcases bn hb with⟨j,u,rfl,e⟩ | ⟨y,u,rfl,e⟩ | ⟨rfl,e⟩
   ·injection e with e1 _;rw [e1]
   ·exact nomatch e
   ·exact nomatch e
  ·rcases bn hb with⟨j,u,rfl,e⟩ | ⟨y,u,rfl,e⟩ | ⟨rfl,e⟩
   ·exact nomatch e
   ·injection e with e1 _;rw [e1]
   ·exact nomatch e
  ·rcases bn hb with⟨j,u,rfl,e⟩ | ⟨y,u,rfl,e⟩ | ⟨rfl,e⟩
   ·exact nomatch e
   ·exact nomatch e
   ·rfl
 byValue:=λ k v h=>by
  rcases bn h with⟨i,t,rfl,rfl⟩ | ⟨x,t,rfl,rfl⟩ | ⟨rfl,rfl⟩ <;> rfl
 pyHash:=λ hv h=>by
  rcases bn hv with⟨i,t,rfl,rfl⟩ | ⟨x,t,rfl,rfl⟩ | ⟨rfl,rfl⟩
  ·exact wpAny_pyHash_int h
  ·exact wpAny_pyHash_str h
  ·exact nB h
 eqBool:=λ hu hv h=>by
  rcases bn hu with⟨i,t,rfl,rfl⟩ | ⟨x,t,rfl,rfl⟩ | ⟨rfl,rfl⟩
  ·rcases bn hv with⟨j,u,rfl,rfl⟩ | ⟨y,u,rfl,rfl⟩ | ⟨rfl,rfl⟩
   ·rw [Br] at h;exact wpAny_eqBool_int h
   ·rw [BB] at h;exact SeqAt.EqAt.int_str i t y u _ _ _ _ h
   ·rw [Af] at h;exact SeqAt.EqAt.int_none i t _ _ _ _ h
  ·rcases bn hv with⟨j,u,rfl,rfl⟩ | ⟨y,u,rfl,rfl⟩ | ⟨rfl,rfl⟩
   ·rw [yT] at h;exact SeqAt.EqAt.str_int x t j u _ _ _ _ h
   ·rw [BM] at h;exact wpAny_eqBool_str h
   ·rw [zp] at h;exact SeqAt.EqAt.str_none x t _ _ _ _ h
  ·rcases bn hv with⟨j,u,rfl,rfl⟩ | ⟨y,u,rfl,rfl⟩ | ⟨rfl,rfl⟩
   ·rw [AZ] at h;exact SeqAt.EqAt.none_int j u _ _ _ _ h
   ·rw [AD] at h;exact SeqAt.EqAt.none_str y u _ _ _ _ h
   ·exact L6 _ _ _ _ _ (by simpa using h)
 «strs» := λ k x t v h=>by
  rcases bn h with⟨i,u,rfl,e⟩ | ⟨y,u,rfl,e⟩ | ⟨rfl,e⟩
  ·exact nomatch e
  ·injection e with e1 _
   subst e1;cases v <;> rfl
  ·exact nomatch e
theorem oJ (prog:Program)(w:World)(k:Key)(v:Value):(bP prog w).is k v=ju k v:=rfl
theorem mv (prog:Program)(w:World)(i:Int)(t:Tok):(bP prog w).is (.inl i) (.int i t)=true:=rj i t
theorem nQ (prog:Program)(w:World)(x:Str)(t:Tok):(bP prog w).is (.inr x) (.str x t)=true:=rG x t
inductive V where
 | ù | bl (b:Bool) | int (i:Int) | str (x:Str) | Od (b:Array UInt8) | Pn (b:UInt64) | ref (a:Addr) | ty (n:String)
 deriving DecidableEq
def RelV:V->Value->Prop
 | .ù,u=>u=Value.none
 | .bl b,u=>u=Value.bool b
 | .int i,u=>∃ t,u=Value.int i t
 | .str x,u=>∃ t,u=Value.str x t
 | .Od b,u=>∃ t,u=Value.bytes b t
 | .Pn b,u=>∃ t,u=Value.float b t
 | .ref a,u=>u=Value.ref a
 | .ty n,u=>u=Value.type n
abbrev Vals:List V->List Value->Prop:=Paired RelV
theorem Vals.length {xs:List V}{us:List Value}(r:Vals xs us):xs.length=us.length:=Paired.length r
theorem Vals.get:∀{xs:List V}{us:List Value}{i:Nat}{x:V},Vals xs us->xs[i]?=some x->∃ u,us[i]?=some u/\RelV x u
 | _,_,_,_,.nil,e=>by simp at e
 | _,_,0,_,.cons r _,e=>by simp at e;subst e;exact⟨_,rfl,r⟩
 | _,_,i+1,x,.cons _ t,e=>by
  obtain⟨u,h1,h2⟩:=Vals.get (i:=i) (x:=x) t (by simpa using e)
  exact⟨u,by simpa using h1,h2⟩
theorem Vals.set {x:V}{u:Value}(r:RelV x u):∀{xs:List V}{us:List Value}(i:Nat),Vals xs us->Vals (xs.set i x) (us.set i u)
 | _,_,_,.nil=>.nil
 | _,_,0,.cons _ t=>.cons r t
 | _,_,i+1,.cons q t=>.cons q (Vals.set r i t)
theorem Vals.append:∀{xs ys:List V}{us ws:List Value},Vals xs us->Vals ys ws->Vals (xs++ys) (us++ws)
 | _,_,_,_,.nil,s=>s
 | _,_,_,_,.cons r t,s=>.cons r (Vals.append t s)
theorem Vals.take:∀{xs:List V}{us:List Value}(n:Nat),Vals xs us->Vals (xs.take n) (us.take n)
 | _,_,0,_=>.nil
 | _,_,_+1,.nil=>.nil
 | _,_,n+1,.cons r t=>.cons r (Vals.take n t)
theorem Vals.drop:∀{xs:List V}{us:List Value}(n:Nat),Vals xs us->Vals (xs.drop n) (us.drop n)
 | _,_,0,r=>r
 | _,_,_+1,.nil=>.nil
 | _,_,n+1,.cons _ t=>Vals.drop n t
def Υ:Option V->Option Value->Prop
 | some v,some u=>RelV v u
 | none,none=>True
 | _,_=>False
def KV {κ:Type}:List (κ × V)->List (κ × Value)->Prop:=Paired λ (p:κ × V)(q:κ × Value)=>p.1=q.1/\RelV p.2 q.2
def kV:Key->V
 | .inl i=>.int i
 | .inr x=>.str x
 | .ù=>.ù
inductive HO where
 | lst (xs:List V)
 | tup (xs:List V)
 | dK (kvs:List (Key × V)) | dT (kvs:List (List Key × V))
 | set (S:Int->Bool)(n:Nat)
 | ins (C dx:Addr)(fs:List (Str × V))
 | own (x:Addr)
 | xd (fs:List (Str × V))
 | met (f x:Addr)
 | Mb (lo hi:Int)
 | MP (o:Obj)(u:HO)
 | QH (ps:Array Value)
 | ext (φ:Heap->Prop)
abbrev Hp:=Addr->Option HO
def af (H:Hp)(a:Addr)(o:HO):Hp:=λ b=>if b=a then some o else H b
theorem aR {H:Hp}{a:Addr}{o:HO}:af H a o a=some o:=by unfold af;rw [à rfl]
theorem au {H:Hp}{a b:Addr}{o:HO}(h:b≠a):af H a o b=H b:=by unfold af;rw [Ø h]
theorem fv {H:Hp}{a:Addr}{o u:HO}:af (af H a o) a u=af H a u:=by
 funext b;unfold af;split <;> rfl
theorem dm {H:Hp}{a b:Addr}{o:HO}(h:H a=some o)(h':H b=none):a≠b:=by
 intro e;subst e;rw [h] at h';cases h'
section
variable (P:Program)(w:World)
def Ā (H:Hp)(h:Heap)(a:Addr):HO->Prop
 | .lst xs=>xs.length<=sizeLine/\∃(its:List Value)(n:Nat),Vals xs its/\h.get? a=some { cls:=.type "list",data:=.seq its.toArray n }
 | .tup xs=>xs.length<=sizeLine/\∃ its:List Value,Vals xs its/\IsTup h a its.toArray
 | .dK kvs=>kvs.length<=sizeLine/\(a==sysModules)=false/\∃ vs,KV kvs vs/\h.DictOf (bP P w) a vs
 | .dT kvs=>kvs.length<=sizeLine/\(a==sysModules)=false/\∃ xs:List (List Key × Addr × Value),
   Paired (λ (p:List Key × V)(q:List Key × Addr × Value)=>p.1=q.1/\H q.2.1=some (.tup (p.1.map kV))/\RelV p.2 q.2.2) kvs xs /\
   ∃ o es ep,h.get? a=some o/\o.ExactDict/\o.data=.dict es ep/\es.toList=xs.map (entryOfKey (tupleKind (bP P w)))/\(xs.map (·.1)).Nodup
 | .set S n=>h.SetOf (intKind P w) a S n
 | .ins C dx fs=>H dx=some (.own a)/\fs.length<=1000/\dx≠a/\h.get? a=some (PySem.W.instObj C dx) /\
   ∃ mA,h.Ns1 dx mA/\(∀ f,Υ (fs.lookup f) (mA f))/\PySem.Within mA (fs.map (·.1))
 | .own _=>∃ o,h.get? a=some o
 | .xd fs=>∃ mA,h.Ns1 a mA/\∀ f,Υ (fs.lookup f) (mA f)
 | .Mb lo hi=>∃ t u v,h.get? a=some { cls:=.type "range",data:=.fields #[.int lo t,.int hi u,.int 1 v] }
 | .MP o u=>h.get? a=some o/\Ā H h a u
 | .QH ps=>h.get? a=some { cls:=.none,data:=.fields ps }
 | .met f x=>h.get? a=some (PySem.W.methodObj (.ref f) (.ref x))
 | .ext φ=>φ h/\(∃ o,h.get? a=some o)/\∀ h1 h2:Heap,φ h1->(∀ o,h1.get? a=some o->h2.get? a=some o)->φ h2
def Θ (H:Hp)(h:Heap):Prop:=∀ a o,H a=some o->Ā P w H h a o
end
section
variable {P:Program}{w:World}{H H':Hp}{h h':Heap}{a:Addr}{o:HO}
theorem Ā.lt (x:Ā P w H h a o):a<h.objs.size:=by
 cases o with
 | lst xs=>obtain⟨_,_,_,_,e⟩:=x;exact È e
 | tup xs=>obtain⟨_,_,_,p⟩:=x;exact p.lt
 | dK kvs=>obtain⟨_,_,_,_,o,_,_,e,_⟩:=x;exact È e
 | dT kvs=>obtain⟨_,_,_,_,o,_,_,e,_⟩:=x;exact È e
 | set S n=>obtain⟨o,_,_,_,e,_⟩:=x;exact È e
 | ins C dx fs=>obtain⟨_,_,_,e,_⟩:=x;exact È e
 | own y=>obtain⟨_,e⟩:=x;exact È e
 | xd fs=>obtain⟨_,⟨_,_,_,e,_⟩,_⟩:=x;exact È e
 | Mb lo hi=>obtain⟨_,_,_,e⟩:=x;exact È e
 | MP ob u=>obtain⟨e,_⟩:=x;exact È e
 | QH ps=>exact È (show h.get? a=some _ from x)
 | met f y=>exact È (show h.get? a=some _ from x)
 | ext φ=>obtain⟨_,⟨_,e⟩,_⟩:=x;exact È e
theorem Paired.Sb {α β:Type}{F G:α->β->Prop}:∀{Sq:List α}{So:List β},Paired F Sq So->(∀ a b,F a b->G a b)->Paired G Sq So
 | _,_,.nil,_=>.nil
 | _,_,.cons r t,f=>.cons (f _ _ r) (Paired.Sb t f)
theorem Ā.y_ (x:Ā P w H h a o)(k:∀ b u,(b=a\/H b=some (.own a))->h.get? b=some u->h'.get? b=some u)
  (ho:∀ b,H b=some (.own a)->H' b=some (.own a))(ht:∀ b xs,H b=some (.tup xs)->H' b=some (.tup xs)):Ā P w H' h' a o:=by
 induction o with
 | lst xs=>obtain⟨z,its,n,r,e⟩:=x;exact⟨z,its,n,r,k _ _ (.inl rfl) e⟩
 | tup xs=>obtain⟨z,its,r,ob,e,c⟩:=x;exact⟨z,its,r,ob,k _ _ (.inl rfl) e,c⟩
 | dK kvs=>obtain⟨z,y,vs,r,ob,es,ep,e,c⟩:=x;exact⟨z,y,vs,r,ob,es,ep,k _ _ (.inl rfl) e,c⟩
 | dT kvs =>
  obtain⟨z,y,xs,r,ob,es,ep,e,c⟩:=x;exact⟨z,y,xs,Paired.Sb r λ p q z=>⟨z.1,ht _ _ z.2.1,z.2.2⟩,ob,es,ep,k _ _ (.inl rfl) e,c⟩
 | set S n=>obtain⟨ob,es,ep,t,e,c⟩:=x;exact⟨ob,es,ep,t,k _ _ (.inl rfl) e,c⟩
 | ins C dx fs =>
  obtain⟨d,z,ne,e,mA,⟨od,es,ep,e2,c⟩,r⟩:=x;exact⟨ho _ d,z,ne,k _ _ (.inl rfl) e,mA,⟨od,es,ep,k _ _ (.inr d) e2,c⟩,r⟩
 | own y=>obtain⟨ob,e⟩:=x;exact⟨ob,k _ _ (.inl rfl) e⟩
 | xd fs=>obtain⟨mA,⟨od,es,ep,e,c⟩,r⟩:=x;exact⟨mA,⟨od,es,ep,k _ _ (.inl rfl) e,c⟩,r⟩
 | Mb lo hi=>obtain⟨t,u,v,e⟩:=x;exact⟨t,u,v,k _ _ (.inl rfl) e⟩
 | MP ob u ih=>obtain⟨e,q⟩:=x;exact⟨k _ _ (.inl rfl) e,ih q⟩
 | QH ps =>
  have e:h.get? a=some { cls:=.none,data:=.fields ps }:=x;show h'.get? a=some { cls:=.none,data:=.fields ps };exact k a _ (.inl rfl) e
 | met f y =>
  have e:h.get? a=some (PySem.W.methodObj (.ref f) (.ref y)):=x;show h'.get? a=some (PySem.W.methodObj (.ref f) (.ref y));exact k a _ (.inl rfl) e
 | ext φ=>obtain⟨p,⟨o,e⟩,st⟩:=x;exact⟨st _ _ p λ o q=>k _ _ (.inl rfl) q,⟨o,k _ _ (.inl rfl) e⟩,st⟩
theorem Θ.lt (x:Θ P w H h)(e:H a=some o):a<h.objs.size:=(x a o e).lt
theorem Θ.fresh (x:Θ P w H h)(e:h.objs.size<=a):H a=none:=by
 cases q:H a with
 | none=>rfl
 | some u=>exact absurd (Þ (x.lt q) e) (ĝ _)
theorem Θ.kept (x:Θ P w H h)(k:∀ b u,h.get? b=some u->h'.get? b=some u):Θ P w H h':=λ a o e =>
 (x a o e).y_ (λ b u _ q=>k b u q) (λ _ q=>q) λ _ _ q=>q
theorem Θ.laid (x:Θ P w H h)(k:∀ b u,h.get? b=some u->h'.get? b=some u)(hp:h.objs.size<=a)(new:Ā P w (af H a o) h' a o):Θ P w (af H a o) h':=λ b u e=>by
 have hn:=x.fresh hp;by_cases hb:b=a
 ·subst hb;rw [aR] at e;cases e;exact new
 ·rw [au hb] at e;exact(x b u e).y_ (λ c v _ q=>k c v q) (λ c q=>by rw [au (dm q hn)];exact q) λ c xs q=>by rw [au (dm q hn)];exact q
end
def Rd (H:Hp)(a:Addr)(u:HO):Prop:=H a=some u\/∃ o,H a=some (.MP o u)
theorem Rd.ok {P:Program}{w:World}{H:Hp}{h:Heap}{a:Addr}{u:HO}(r:Rd H a u)(x:Θ P w H h):Ā P w H h a u:=by
 rcases r with r | ⟨o,r⟩
 ·exact x a u r
 ·obtain⟨_,q⟩:=x a _ r;exact q
def Gz:Option HO->Prop
 | some (.lst _)=>True
 | some (.dK _)=>True
 | some (.dT _)=>True
 | some (.set _ _)=>True
 | some (.ins _ _ _)=>True
 | some (.ext _)=>True
 | _=>False
section
variable {P:Program}{w:World}{H:Hp}{h h':Heap}{x e:Addr}{o':HO}
theorem Θ.write (ok:Θ P w H h)(mu:Gz (H x))(he:e=x\/H e=some (.own x))(k:∀ b u,b≠e->h.get? b=some u->h'.get? b=some u)(Rq:∃ u,h'.get? e=some u)
  (new:Ā P w (af H x o') h' x o'):Θ P w (af H x o') h':=λ b u q=>by
 have R1:∀ c y,H c=some (.own y)->c≠x:=λ c y r z=>by subst z;rw [r] at mu;exact mu
 have UN:∀ c xs,H c=some (.tup xs)->c≠x:=λ c xs r z=>by subst z;rw [r] at mu;exact mu
 by_cases hb:b=x
 ·subst hb;rw [aR] at q;cases q;exact new
 ·rw [au hb] at q;by_cases Q2:b=e
  ·have q':H b=some (.own x):=by
    rcases he with z | z
    ·exact absurd (Q2.trans z) hb
    ·rw [Q2];exact z
   rw [q] at q';cases q';obtain⟨v,hv⟩:=Rq;exact⟨v,by rw [Q2];exact hv⟩
  ·refine(ok b u q).y_ (λ c v hc r=>k c v ?_ r) (λ c r=>by rw [au (R1 c b r)];exact r) λ c xs r=>by rw [au (UN c xs r)];exact r
   rcases hc with rfl | hc
   ·exact Q2
   ·rintro rfl;rcases he with z | z
    ·exact R1 c b hc z
    ·rw [hc] at z;cases z;exact hb rfl
end
structure Un (fs ex:List Addr)(H H':Hp)(h h':Heap):Prop where
 keep:∀ b o,h.get? b=some o->H b=none->b ∉ fs->b ∉ ex->h'.get? b=some o
 slot:∀ b o,h.get? b=some o->H b=none->b∈fs->b ∉ ex->∃ sl,h'.get? b=some { o with slots:=sl }
 free:∀ b o,h.get? b=some o->H b=none->b ∉ ex->H' b=none
 there:∀ b o,h.get? b=some o->b ∉ ex->∃ o',h'.get? b=some o'
 K_:∀ b xs,H b=some (.tup xs)->H' b=some (.tup xs)
 B_:∀ b o u,H b=some (.MP o u)->H' b=some (.MP o u)
 Ln:∀ b ps,H b=some (.QH ps)->∃ more,H' b=some (.QH (ps++more))
 sys:H sysModules=none->H' sysModules=none
section
variable {fs fs' ex ex':List Addr}{H H1 H2:Hp}{h h1 h2 h':Heap}{a x e:Addr}{o:HO}
theorem Un.any (u:Un fs ex H H1 h h1){b:Addr}{ob:Obj}(q:h.get? b=some ob)(n:H b=none)(hx:b ∉ ex):∃ sl,h1.get? b=some { ob with slots:=sl }:=by
 by_cases hb:b∈fs
 ·exact u.slot b ob q n hb hx
 ·exact⟨ob.slots,u.keep b ob q n hb hx⟩
theorem Un.kept (k:∀ b u,h.get? b=some u->h'.get? b=some u):Un fs ex H H h h' :=
 ⟨λ b ob q _ _ _=>k b ob q,λ b ob q _ _ _=>⟨ob.slots,k b ob q⟩,λ _ _ _ n _=>n,λ b ob q _=>⟨ob,k b ob q⟩,λ _ _ q=>q,λ _ _ _ q=>q,λ _ ps q=>⟨#[],by rw [q];simp⟩,λ q=>q⟩
theorem Un.refl:Un fs ex H H h h:=Un.kept λ _ _ q=>q
theorem Un.laid (k:∀ b u,h.get? b=some u->h'.get? b=some u)(hp:h.objs.size<=a)(hn:H a=none)(hz:sysModules<h.objs.size):Un fs ex H (af H a o) h h' where
 sys:=λ q=>by rw [au (Î (Þ hz hp))];exact q
 keep:=λ b u q _ _ _=>k b u q
 slot:=λ b u q _ _ _=>⟨u.slots,k b u q⟩
 free:=λ b u q n _=>by rw [au (Î (Þ (È q) hp))];exact n
 there:=λ b u q _=>⟨u,k b u q⟩
 K_:=λ b xs q=>by rw [au (dm q hn)];exact q
 B_:=λ b u xs q=>by rw [au (dm q hn)];exact q
 Ln:=λ b ps q=>⟨#[],by rw [au (dm q hn),q];simp⟩
theorem Un.write (mu:Gz (H x))(he:e=x\/H e=some (.own x))(k:∀ b u,b≠e->h.get? b=some u->h'.get? b=some u)(Rq:∃ u,h'.get? e=some u):Un fs ex H (af H x o) h h':=by
 have hx:∀ b,H b=none->b≠x:=λ b n z=>by subst z;rw [n] at mu;exact mu
 have hb:∀ b,H b=none->b≠e:=λ b n z=>by
  subst z;rcases he with r | r
  ·exact hx b n r
  ·rw [n] at r;cases r
 have hm:∀ b u,H b=some u->¬ Gz (some u)->b≠x:=λ b u q nm z=>by subst z;rw [q] at mu;exact nm mu
 refine⟨λ b u q n _ _=>k b u (hb b n) q,λ b u q n _ _=>⟨u.slots,k b u (hb b n) q⟩,λ b u q n _=>by rw [au (hx b n)];exact n,λ b u q _=>?_,
  λ b xs q=>by rw [au (hm b _ q λ z=>z)];exact q,λ b u xs q=>by rw [au (hm b _ q λ z=>z)];exact q,λ b ps q=>⟨#[],by rw [au (hm b _ q λ z=>z),q];simp⟩,λ q=>by rw [au (hx _ q)];exact q⟩
 by_cases Q2:b=e
 ·subst Q2;exact Rq
 ·exact⟨u,k b u Q2 q⟩
end
def Hw (h:Heap)(H:Hp):List Addr:=(List.range h.objs.size).filter λ a=>(H a).isSome
def l7 (h:Heap)(H:Hp):Heap:=PySem.W.hideAll h (Hw h H)
theorem rL (h:Heap)(H:Hp):(l7 h H).objs.size=h.objs.size:=PySem.W.hideAll_size _ _
theorem uO {h:Heap}{H:Hp}{b:Addr}{o:Obj}(e:h.get? b=some o)(n:H b=none):(l7 h H).get? b=some o :=
 PySem.W.hideAll_get _ e λ hm=>by
  have q:(H b).isSome=true:=(NK.mp hm).2;rw [n] at q;simp at q
theorem wf {h:Heap}{H:Hp}{b:Addr}{o:Obj}(e:(l7 h H).get? b=some o):h.get? b=some o/\H b=none:=by
 have e':h.get? b=some o:=PySem.W.of_hideAll (Hw h H) e;refine⟨e',?_⟩;cases q:H b with
 | none=>rfl
 | some x =>
  have hm:b∈Hw h H:=NK.mpr ⟨List.mem_range.mpr (È e'),by simp [q]⟩
  have z:(l7 h H).get? b=none:=PySem.W.hideAll_none (Hw h H) hm;rw [z] at e;cases e
def wA (g h:Heap)(L:Addr):List (Addr × Obj):=(List.range h.objs.size).filterMap λ a=>if a=L\/(g.get? a).isSome=true then none else(h.get? a).map λ o=>(a,o)
def rest (g h:Heap)(L d:Addr):List (Addr × Obj):=(wA g h L).filter λ p=>decide (p.1≠d)
structure Mod (K:PySem.W.Frag)(mg:bv)(base:Heap):Prop where
 OP:K.In base
 glob:base.Ns mainGlobals mg
 blt:∃ mb,base.Ns builtinsNs mb/\∀ x:Str,x ≠ "__name__" -> mb x=bootBuiltins x
 nolimit:base.NoLimit
structure Cx where
 prog:Program
 w:World
 K:PySem.W.Frag
 mg:Str->Option Value
 base:Heap
 A:Around
 N:List Str
 œ:Shared
 M8:Hp
 env:Env
 outer:List Env
 stack:List Env
 ex:List Addr
 fn:Str->Bool
 calm:Bool
 pn:List (Addr × Obj)
 xe:Value->Shared->Prop
def kD (l:List Env):List Addr:=l.filterMap (·.frame)
abbrev Cx.fs (X:Cx):List Addr:=kD X.outer
def yu (sc:Scope)(x:Str):Prop:=sc.names.lookup x=some .local\/sc.names.lookup x=some .cell\/sc.names.lookup x=some .free
def DO (sc:Scope)(x:Str):Prop:=sc.names.lookup x=some .local\/sc.names.lookup x=some .cell
def Jr (env:Env)(h:Heap)(m:bv)(x:Str)(u:Value):Prop :=
 (env.kindOf x=some .local/\m x=some u)\/((env.kindOf x=some .cell\/env.kindOf x=some .free)/\∃ c,env.cells.lookup x=some c/\h.IsCell c (some u))
structure Cx.Ok (X:Cx):Prop where
 mod:Mod X.K X.mg X.base
 kind:X.env.scope.kind=.function
 glob:X.env.globals=mainGlobals
 blt:X.env.builtins=builtinsNs
 above:X.œ.heap.objs.size<=X.env.locals
 inj:∀ x y c,X.env.cells.lookup x=some c->X.env.cells.lookup y=some c->x=y
 has:∀ x,(X.env.kindOf x=some .cell\/X.env.kindOf x=some .free)->∃ c,X.env.cells.lookup x=some c
 Qu:∀ x c,X.fn x=true->X.env.cells.lookup x=some c->X.œ.heap.objs.size<=c
 hd:X.calm=true->X.A.handled=none
 frames:X.A.frames=some X.stack
 QJ:X.stack=X.outer\/(X.stack=X.env::X.outer/\X.env.frame=some X.env.locals)
 SQ:∀ b∈X.ex,b≠X.env.locals/\∀ x c,X.env.cells.lookup x=some c->c≠b
 bs:∀ b o,X.base.get? b=some o->X.œ.heap.get? b=some o/\X.M8 b=none
 No:X.base.objs.size<=X.œ.heap.objs.size
 Mo:∀ b o,X.base.get? b=some o->b ∉ X.ex
 Nm:∀ b∈X.ex,b ∉ X.fs
 γ:X.œ.heap.FunFrames X.base X.outer
 O4:∀ b∈X.fs,X.M8 b=none
structure Inv (X:Cx)(Ã:List (Addr × Obj))(σ:List (Option V))(H:Hp)(s:Shared):Prop where
 ok:X.Ok
 os:s.os=X.œ.os
 bare:AllBare s.gens
 base:Un X.fs X.ex X.M8 H X.œ.heap s.heap
 loc:∃ m,s.heap.Ns X.env.locals m/\∀(i:Nat)(x:Str)(v:V),X.N[i]?=some x->σ[i]?=some (some v)->yu X.env.scope x->∃ u,RelV v u/\Jr X.env s.heap m x u
 cell:∀ x c,X.env.cells.lookup x=some c->∃ v,s.heap.IsCell c v
 free:H X.env.locals=none
 ţ:∀ x c,X.env.cells.lookup x=some c->H c=none
 pin:∀ p∈X.pn ++ Ã,s.heap.get? p.1=some p.2/\H p.1=none/\p.1≠X.env.locals/\p.1 ∉ X.fs/\∀ v,p.2.data ≠ .cell v
 Ć:Θ X.prog X.w H s.heap
 len:σ.length=X.N.length
section
variable {X:Cx}{Ã:List (Addr × Obj)}{σ:List (Option V)}{H H':Hp}{s:Shared}{h':Heap}
theorem Cx.Ok.US (ok:X.Ok){b:Addr}{o:Obj}(e:X.base.get? b=some o):b ∉ X.fs:=λ hb=>by
 have:=(ok.γ.mem hb).1;rw [e] at this;cases this
theorem Inv.bs (I:Inv X Ã σ H s):∀ b o,X.base.get? b=some o->s.heap.get? b=some o/\H b=none:=λ b o e =>
 ⟨I.base.keep b o (I.ok.bs b o e).1 (I.ok.bs b o e).2 (I.ok.US e) (I.ok.Mo b o e),I.base.free b o (I.ok.bs b o e).1 (I.ok.bs b o e).2 (I.ok.Mo b o e)⟩
theorem Inv.bk (I:Inv X Ã σ H s):∀ b o,X.base.get? b=some o->s.heap.get? b=some o:=λ b o e=>(I.bs b o e).1
theorem Inv.mod (I:Inv X Ã σ H s):Mod X.K X.mg X.base:=I.ok.mod
theorem Inv.Ń (I:Inv X Ã σ H s):X.K.In s.heap:=I.ok.mod.OP.keeps I.bk
theorem Inv.lt (I:Inv X Ã σ H s):X.env.locals<s.heap.objs.size:=let ⟨_,hn,_⟩:=I.loc;hn.lt
theorem Inv.sz (I:Inv X Ã σ H s):X.œ.heap.objs.size<=s.heap.objs.size:=é I.ok.above (h_ I.lt)
theorem Inv.UR (I:Inv X Ã σ H s){a:Addr}(h:s.heap.objs.size<=a):a ∉ X.fs:=λ hb=>by
 obtain⟨_,o,ho,_⟩:=I.ok.γ.mem hb;exact absurd (Þ (È ho) (é I.sz h)) (ĝ _)
theorem Inv.O_ (I:Inv X Ã σ H s):∀ x c,X.env.cells.lookup x=some c->c≠X.env.locals:=λ x c e z=>by
 obtain⟨v,o,ho,hd⟩:=I.cell x c e;obtain⟨m,⟨o',es,ep,QU,VY,_⟩,_⟩:=I.loc;rw [z,QU] at ho;cases ho;rw [VY] at hd;cases hd
theorem Inv.γ (I:Inv X Ã σ H s):s.heap.FunFrames X.base X.outer:=by
 have all:∀(l:List Env),(∀ b∈kD l,b∈X.fs)->X.œ.heap.FunFrames X.base l->s.heap.FunFrames X.base l:=by
  intro l
  induction l with
  | nil=>intro _ _;trivial
  | cons env r ih =>
   intro hs hl;obtain⟨hk,⟨L,o,hf,hn,ho,hd⟩,hr⟩:=hl;have hL:L∈X.fs:=hs L (by unfold kD;rw [LQ,hf];exact î)
   obtain⟨sl,e⟩:=I.base.slot L o ho (I.ok.O4 L hL) hL λ z=>I.ok.Nm L z hL;exact⟨hk,⟨L,_,hf,hn,e,hd⟩,ih (λ b hb=>hs b (by unfold kD;rw [LQ,hf];exact ã _ hb)) hr⟩
 exact all X.outer (λ _ hb=>hb) I.ok.γ
theorem Inv.stack (I:Inv X Ã σ H s):s.heap.FunFrames X.base X.stack:=by
 rcases I.ok.QJ with e | ⟨e,hf⟩
 ·rw [e];exact I.γ
 ·rw [e];obtain⟨m,hn,_⟩:=I.loc;refine .cons (by rw [I.ok.kind];decide) hf hn ?_ I.γ
  exact Heap.get?_none_of_le (é I.ok.No I.ok.above)
theorem Inv.ų (I:Inv X Ã σ H s):∀ b∈kD X.stack,b∈X.env.locals::X.fs:=λ b hb=>by
 rcases I.ok.QJ with e | ⟨e,hf⟩
 ·rw [e] at hb;exact ã _ hb
 ·rw [e] at hb;unfold kD at hb;rw [LQ,hf] at hb;exact hb
theorem Inv.D_ (I:Inv X Ã σ H s):∀ b∈kD X.stack,H b=none:=λ b hb=>by
 rcases ç.mp (I.ų b hb) with e | hb
 ·rw [e];exact I.free
 ·obtain⟨_,o,ho,_⟩:=I.ok.γ.mem hb;exact I.base.free b o ho (I.ok.O4 b hb) λ z=>I.ok.Nm b z hb
theorem Inv.step {g':Array GenState}{t':Nat}{d':Drawn}{ch:List Addr}(I:Inv X Ã σ H s)
  (Pl:∀ b∈ch,(b∈X.ex\/X.œ.heap.objs.size<=b)/\b≠X.env.locals/\(∀ x c,X.env.cells.lookup x=some c->c≠b)/\∀ p∈X.pn ++ Ã,p.1≠b)
  (keep:∀ b o,b≠X.env.locals->b ∉ X.fs->b ∉ ch->s.heap.get? b=some o->H b=none->h'.get? b=some o)
  (slot:∀ b o,b≠X.env.locals->b∈X.fs->b ∉ ch->s.heap.get? b=some o->H b=none->∃ sl,h'.get? b=some { o with slots:=sl })(free:∀ b o,b ∉ ch->s.heap.get? b=some o->H b=none->H' b=none)
  (there:∀ b o,b ∉ ch->s.heap.get? b=some o->∃ o',h'.get? b=some o')
  (K_:∀ b xs,H b=some (.tup xs)->H' b=some (.tup xs))(B_:∀ b o u,H b=some (.MP o u)->H' b=some (.MP o u))(Ln:∀ b ps,H b=some (.QH ps)->∃ more,H' b=some (.QH (ps++more)))(sys:H sysModules=none->H' sysModules=none)
  (ns:∀ m,s.heap.Ns X.env.locals m->h'.Ns X.env.locals m)(Ć:Θ X.prog X.w H' h')(hg:AllBare g') :
  Inv X Ã σ H' { s with heap:=h',gens:=g',drawn:=d',toks:=t' }:=by
 have WW:∀ b o,X.œ.heap.get? b=some o->b≠X.env.locals:=λ b o e=>Î (Þ (È e) I.ok.above);have Tu:∀ b o,X.œ.heap.get? b=some o->b ∉ X.ex->b ∉ ch:=λ b o e hx hb=>by
  rcases(Pl b hb).1 with z | z
  ·exact hx z
  ·exact absurd (Þ (È e) z) (ĝ _)
 have cellK:∀ x c,X.env.cells.lookup x=some c->∀ v,s.heap.IsCell c v->h'.IsCell c v:=λ x c e v ⟨o,ho,hd⟩=>by
  have OI:c ∉ ch:=λ z=>(Pl c z).2.2.1 x c e rfl;by_cases hc:c∈X.fs
  ·obtain⟨sl,q⟩:=slot c o (I.O_ x c e) hc OI ho (I.ţ x c e);exact⟨_,q,hd⟩
  ·exact⟨o,keep c o (I.O_ x c e) hc OI ho (I.ţ x c e),hd⟩
 refine⟨I.ok,I.os,hg,⟨λ b o e n hb hx=>?_,λ b o e n hb hx=>?_,λ b o e n hx=>?_,λ b o e hx=>?_,λ b xs e=>K_ b xs (I.base.K_ b xs e),λ b o xs e=>B_ b o xs (I.base.B_ b o xs e),λ b ps e=>?_,λ q=>sys (I.base.sys q)⟩,?_,λ x c e=>?_,?_,λ x c e=>?_,λ p hp=>?_,Ć,I.len⟩
 ·exact keep b o (WW b o e) hb (Tu b o e hx) (I.base.keep b o e n hb hx) (I.base.free b o e n hx)
 ·obtain⟨sl,e1⟩:=I.base.slot b o e n hb hx;obtain⟨Ul,e2⟩:=slot b _ (WW b o e) hb (Tu b o e hx) e1 (I.base.free b o e n hx);exact⟨Ul,e2⟩
 ·obtain⟨o',e1⟩:=I.base.there b o e hx;exact free b o' (Tu b o e hx) e1 (I.base.free b o e n hx)
 ·obtain⟨o',e1⟩:=I.base.there b o e hx;exact there b o' (Tu b o e hx) e1
 ·obtain⟨m1,e1⟩:=I.base.Ln b ps e;obtain⟨m2,e2⟩:=Ln b _ e1;exact⟨m1++m2,by rw [e2,Array.append_assoc]⟩
 ·obtain⟨m,hn,hl⟩:=I.loc;refine⟨m,ns m hn,λ i x v e1 e2 e3=>?_⟩;obtain⟨u,r,l⟩:=hl i x v e1 e2 e3;refine⟨u,r,?_⟩;rcases l with l | ⟨k,c,e,z⟩
  ·exact .inl l
  ·exact .inr ⟨k,c,e,cellK x c e _ z⟩
 ·obtain⟨v,z⟩:=I.cell x c e;exact⟨v,cellK x c e v z⟩
 ·obtain⟨m,⟨o,_,_,ho,_⟩,_⟩:=I.loc;exact free _ o (λ z=>(Pl _ z).2.1 rfl) ho I.free
 ·obtain⟨v,o,ho,hd⟩:=I.cell x c e;exact free c o (λ z=>(Pl c z).2.2.1 x c e rfl) ho (I.ţ x c e)
 ·obtain⟨e,n,ne,nf,d⟩:=I.pin p hp;have OI:p.1 ∉ ch:=λ z=>(Pl p.1 z).2.2.2 p hp rfl;exact⟨keep p.1 p.2 ne nf OI e n,free p.1 p.2 OI e n,ne,nf,d⟩
theorem Inv.un {t':Nat}(I:Inv X Ã σ H s)(u:Un X.fs [] H H' s.heap h')(Ć:Θ X.prog X.w H' h'):Inv X Ã σ H' { s with heap:=h',toks:=t' }:=by
 obtain⟨m,⟨o,es,ep,ho,r⟩,_⟩:=id I.loc;obtain⟨sl,hL⟩:=u.any ho I.free (by simp)
 exact I.step (g':=s.gens) (d':=s.drawn) (ch:=[]) (λ _ z=>nomatch z) (λ b o _ hb _ e n=>u.keep b o e n hb (by simp)) (λ b o _ hb _ e n=>u.slot b o e n hb (by simp)) (λ b o _ e n=>u.free b o e n (by simp)) (λ b o _ e=>u.there b o e (by simp)) u.K_ u.B_ u.Ln u.sys (λ m' hm=>by
  obtain⟨o',V9,V',QU,r'⟩:=hm;rw [ho] at QU;cases QU;exact⟨_,V9,V',hL,r'⟩) Ć I.bare
theorem Inv.call {g':Array GenState}{t':Nat}{d':Drawn}{ch:List Addr}(I:Inv X Ã σ H s)(u:Un (kD X.stack) ch H H' s.heap h')(Ć:Θ X.prog X.w H' h')(hg:AllBare g')
  (Pl:∀ b∈ch,(b∈X.ex\/X.œ.heap.objs.size<=b)/\b≠X.env.locals/\(∀ x c,X.env.cells.lookup x=some c->c≠b)/\∀ p∈X.pn ++ Ã,p.1≠b) :
  Inv X Ã σ H' { s with heap:=h',gens:=g',drawn:=d',toks:=t' }:=by
 obtain⟨m,⟨o,es,ep,ho,r⟩,_⟩:=id I.loc;obtain⟨sl,hL⟩:=u.any ho I.free λ z=>(Pl _ z).2.1 rfl;exact I.step (ch:=ch) Pl (λ b o hL hb hc e n=>u.keep b o e n (λ z=>(ç.mp (I.ų b z)).elim hL hb) hc) (λ b o _ _ hc e n=>u.any e n hc) (λ b o hc e n=>u.free b o e n hc) (λ b o hc e=>u.there b o e hc) u.K_ u.B_ u.Ln u.sys (λ m' hm=>by
  obtain⟨o',V9,V',QU,r'⟩:=hm;rw [ho] at QU;cases QU;exact⟨_,V9,V',hL,r'⟩) Ć hg
theorem Inv.turned {t':Nat}{it:Addr}(I:Inv X Ã σ H s)(k:∀ b o,b≠it->s.heap.get? b=some o->h'.get? b=some o)(hn:H it=none)(hL:it≠X.env.locals)
  (h1:it∈X.ex\/X.œ.heap.objs.size<=it)(h2:∀ x c,X.env.cells.lookup x=some c->c≠it)(h3:∀ p∈X.pn ++ Ã,p.1≠it):Inv X Ã σ H { s with heap:=h',toks:=t' }:=by
 have WT:∀ b u,H b=some u->b≠it:=λ b u e z=>by rw [z,hn] at e;cases e
 refine I.step (g':=s.gens) (d':=s.drawn) (ch:=[it]) (λ b hb=>?_) (λ b o _ _ hc e _=>k b o (λ z=>hc (by simp [z])) e) (λ b o _ _ hc e _=>⟨o.slots,k b o (λ z=>hc (by simp [z])) e⟩) (λ _ _ _ _ n=>n)
  (λ b o hc e=>⟨o,k b o (λ z=>hc (by simp [z])) e⟩) (λ _ _ e=>e) (λ _ _ _ e=>e) (λ b ps e=>⟨#[],by rw [e];simp⟩) (λ q=>q) (λ m hm=>?_) (λ b u e=>?_) I.bare
 ·have e:b=it:=by simpa using hb
  subst e;exact⟨h1,hL,h2,h3⟩
 ·obtain⟨o,es,ep,ho,r⟩:=hm;exact⟨o,es,ep,k _ o (Ne.symm hL) ho,r⟩
 ·refine(I.Ć b u e).y_ (λ c v hc q=>k c v ?_ q) (λ _ q=>q) λ _ _ q=>q;rcases hc with z | z
  ·rw [z];exact WT b u e
  ·exact WT c _ z
theorem Inv.tok (I:Inv X Ã σ H s)(t:Nat):Inv X Ã σ H { s with toks:=t }:=I.un (h':=s.heap) (t':=t) Un.refl I.Ć
theorem Inv.kept {t':Nat}(I:Inv X Ã σ H s)(k:∀ b u,s.heap.get? b=some u->h'.get? b=some u):Inv X Ã σ H { s with heap:=h',toks:=t' }:=I.un (Un.kept k) (I.Ć.kept k)
theorem Inv.laid {a:Addr}{o:HO}{t':Nat}(I:Inv X Ã σ H s)(k:∀ b u,s.heap.get? b=some u->h'.get? b=some u)(hp:s.heap.objs.size<=a)(new:Ā X.prog X.w (af H a o) h' a o) :
  Inv X Ã σ (af H a o) { s with heap:=h',toks:=t' }:=I.un (Un.laid k hp (I.Ć.fresh hp) (MT (by decide:sysModules<mainGlobals) (I.mod.glob.keeps I.bk).lt)) (I.Ć.laid k hp new)
theorem Inv.write {x e:Addr}{o:HO}{t':Nat}(I:Inv X Ã σ H s)(mu:Gz (H x))(he:e=x\/H e=some (.own x))(k:∀ b u,b≠e->s.heap.get? b=some u->h'.get? b=some u)(Rq:∃ u,h'.get? e=some u)
  (new:Ā X.prog X.w (af H x o) h' x o):Inv X Ã σ (af H x o) { s with heap:=h',toks:=t' }:=I.un (Un.write mu he k Rq) (I.Ć.write mu he k Rq new)
theorem Inv.NA {Mc:List (Addr × Obj)}(I:Inv X Ã σ H s)(h:∀ p∈Mc,s.heap.get? p.1=some p.2/\H p.1=none/\p.1≠X.env.locals/\p.1 ∉ X.fs/\∀ v,p.2.data ≠ .cell v):Inv X Mc σ H s :=
 ⟨I.ok,I.os,I.bare,I.base,I.loc,I.cell,I.free,I.ţ,λ p hp=>(Ġ.mp hp).elim (λ z=>I.pin p (H_ _ z)) (h p),I.Ć,I.len⟩
theorem jN {N:List Str}(hN:N.Nodup){i j:Nat}{x:Str}(a:N[i]?=some x)(b:N[j]?=some x):i=j:=by
 obtain⟨h1,e1⟩:=Ë.mp a;obtain⟨h2,e2⟩:=Ë.mp b;exact(List.getElem_inj hN).mp (e1.trans e2.symm)
theorem kg {M:Model}{A:Around}{E:cy}{i:Nat}{x:Str}{v:V}{u:Value}{Q:Unit->Shared->Prop}(I:Inv X Ã σ H s)(hN:X.N.Nodup)(hi:X.N[i]?=some x)(hx:DO X.env.scope x)(r:RelV v u)
  (h:∀ s',Inv X Ã (σ.set i (some v)) H s'->(∃ a,Heap.SameBut a s.heap s'.heap/\(a=X.env.locals\/X.env.cells.lookup x=some a))->Q () s')(hf:X.fn x=true\/X.env.scope.names.lookup x=some .local:=by first | exact .inl rfl | exact .inr rfl | assumption):wpAny M A (storeName X.env x u) Q E s:=by
 obtain⟨m,hn,hl⟩:=id I.loc;have QZ:(X.env.scope.kind == .class||(X.env.scope.kind == .module&&X.env.locals != X.env.globals))=false:=by rw [I.ok.kind];rfl
 have NW:i < σ.length:=by rw [I.len];exact(Ë.mp hi).1
 have O_:=I.O_;have tracked:∀{a:Addr}{h':Heap},(∃ o,s.heap.get? a=some o/\H a=none)->Heap.SameBut a s.heap h'->Θ X.prog X.w H h':=λ {a h'} ha hs b ob e=>by
  obtain⟨_,_,Qr⟩:=ha;refine(I.Ć b ob e).y_ (λ c w' hc q=>(hs.2 c ?_).trans q) (λ _ q=>q) λ _ _ q=>q;rintro rfl;rcases hc with rfl | hc
  ·rw [Qr] at e;cases e
  ·rw [Qr] at hc;cases hc
 rcases hx with hk | hk
 ·refine wpAny_storeName_local hk hn (λ h' Qp hs=>?_) QZ;obtain⟨oL,_,_,Xc,_⟩:=id hn;refine h _ ⟨I.ok,I.os,I.bare,⟨λ b o e n hb hx=>?_,λ b o e n hb hx=>?_,I.base.free,λ b o e hx=>?_,I.base.K_,I.base.B_,I.base.Ln,I.base.sys⟩,⟨_,Qp,λ j y v' e1 e2 e3=>?_⟩,λ y c e=>?_,I.free,I.ţ,λ p hp=>?_,tracked ⟨oL,Xc,I.free⟩ hs,by simpa using I.len⟩ ⟨_,hs,.inl rfl⟩
  ·exact(hs.2 b (Î (Þ (È e) I.ok.above))).trans (I.base.keep b o e n hb hx)
  ·obtain⟨sl,e1⟩:=I.base.slot b o e n hb hx;exact⟨sl,(hs.2 b (Î (Þ (È e) I.ok.above))).trans e1⟩
  ·obtain⟨o',e1⟩:=I.base.there b o e hx;exact⟨o',(hs.2 b (Î (Þ (È e) I.ok.above))).trans e1⟩
  ·by_cases hj:j=i
   ·subst hj;rw [hi] at e1;cases e1;rw [Ŧ NW] at e2;cases e2;exact⟨u,r,.inl ⟨hk,by simp⟩⟩
   ·rw [I_ (Ne.symm hj)] at e2;obtain⟨u',r',q⟩:=hl j y v' e1 e2 e3;refine⟨u',r',?_⟩;rcases q with⟨k,e⟩ | ⟨k,c,e,z⟩
    ·refine .inl ⟨k,?_⟩;have:y≠x:=λ e=>hj (jN hN e1 (e ▸ hi));simp [this,e]
    ·exact .inr ⟨k,c,e,z.sameBut hs (O_ y c e)⟩
  ·obtain⟨w',z⟩:=I.cell y c e;exact⟨w',z.sameBut hs (O_ y c e)⟩
  ·obtain⟨e,n,ne,nf,d⟩:=I.pin p hp;exact⟨(hs.2 p.1 ne).trans e,n,ne,nf,d⟩
 ·have VM:X.fn x=true:=by
   rcases hf with z | z
   ·exact z
   ·rw [z] at hk;cases hk
  obtain⟨c,hc⟩:=I.ok.has x (.inl hk);obtain⟨w',z⟩:=I.cell x c hc;refine wpAny_storeName_cell I.ok.kind hk hc z (λ h' M6 hs=>?_);obtain⟨oc,Xa,VF⟩:=id z;refine h { s with heap:=h' } ⟨I.ok,I.os,I.bare,⟨λ b o e n hb hx=>?_,λ b o e n hb hx=>?_,I.base.free,λ b o e hx=>?_,I.base.K_,I.base.B_,I.base.Ln,I.base.sys⟩,⟨m,hn.sameBut hs (Ne.symm (O_ x c hc)),λ j y v' e1 e2 e3=>?_⟩,λ y c' e=>?_,I.free,I.ţ,λ p hp=>?_,tracked ⟨oc,Xa,I.ţ x c hc⟩ hs,by simpa using I.len⟩ ⟨c,hs,.inr hc⟩
  ·exact(hs.2 b (Î (Þ (È e) (I.ok.Qu x c VM hc)))).trans (I.base.keep b o e n hb hx)
  ·obtain⟨sl,e1⟩:=I.base.slot b o e n hb hx;exact⟨sl,(hs.2 b (Î (Þ (È e) (I.ok.Qu x c VM hc)))).trans e1⟩
  ·obtain⟨o',e1⟩:=I.base.there b o e hx;exact⟨o',(hs.2 b (Î (Þ (È e) (I.ok.Qu x c VM hc)))).trans e1⟩
  ·by_cases hj:j=i
   ·subst hj;rw [hi] at e1;cases e1;rw [Ŧ NW] at e2;cases e2;exact⟨u,r,.inr ⟨.inl hk,c,hc,M6⟩⟩
   ·rw [I_ (Ne.symm hj)] at e2;obtain⟨u',r',q⟩:=hl j y v' e1 e2 e3;refine⟨u',r',?_⟩;rcases q with q | ⟨k,c',e,z'⟩
    ·exact .inl q
    ·refine .inr ⟨k,c',e,z'.sameBut hs ?_⟩;rintro rfl;exact hj (jN hN e1 (I.ok.inj _ _ _ e hc ▸ hi))
  ·by_cases Xj:c'=c
   ·subst Xj;exact⟨_,M6⟩
   ·obtain⟨w2,z2⟩:=I.cell y c' e;exact⟨w2,z2.sameBut hs Xj⟩
  ·obtain⟨e,n,ne,nf,d⟩:=I.pin p hp;refine⟨(hs.2 p.1 ?_).trans e,n,ne,nf,d⟩;intro q;rw [q,Xa] at e;have q':oc=p.2:=Û e;exact d w' (by rw [<- q'];exact VF)
theorem dZ {M:Model}{A:Around}{E:cy}{i:Nat}{x:Str}{v:V}{u:Value}{Q:Unit->Shared->Prop}(I:Inv X Ã σ H s)(hN:X.N.Nodup)(hi:X.N[i]?=some x)(hx:DO X.env.scope x)(r:RelV v u)
  (h:∀ s',Inv X Ã (σ.set i (some v)) H s'->Q () s')(hf:X.fn x=true\/X.env.scope.names.lookup x=some .local:=by first | exact .inl rfl | exact .inr rfl | assumption):wpAny M A (storeName X.env x u) Q E s :=
 kg I hN hi hx r (λ s' I' _=>h s' I') hf
theorem Inv.NE {s':Shared}{ch:List Addr}(I:Inv X Ã σ H s)(ho:s'.os=s.os)(u:Un (kD X.stack) ch H H' s.heap s'.heap)(Ć:Θ X.prog X.w H' s'.heap)(hg:AllBare s'.gens)
  (Pl:∀ b∈ch,(b∈X.ex\/X.œ.heap.objs.size<=b)/\b≠X.env.locals/\(∀ x c,X.env.cells.lookup x=some c->c≠b)/\∀ p∈X.pn ++ Ã,p.1≠b):Inv X Ã σ H' s':=by
 obtain⟨h',g',d',t',o'⟩:=s';have e:o'=s.os:=ho;subst e;exact I.call (g':=g') (t':=t') (d':=d') u Ć hg Pl
end
abbrev XK:=Value->Option Addr->Hp->Prop
abbrev St:=List (Option V)
abbrev VK:=V->Hp->Prop
abbrev TE:=St->Hp->VK->Prop
abbrev TT:=St->Hp->(Bool->Hp->Prop)->Prop
abbrev TA:=St->Hp->(List V->Hp->Prop)->Prop
structure bY where
 nx:St->Hp->Prop
 rt:VK
 bk:St->Hp->Prop:=λ _ _=>False
 ct:St->Hp->Prop:=λ _ _=>False
abbrev TS:=bY->St->Hp->Prop
def EP (X:Cx)(Ã:List (Addr × Obj))(σ:St)(Q:VK)(u:Value)(s':Shared):Prop:=∃ v H',Inv X Ã σ H' s'/\RelV v u/\Q v H'
def TP (X:Cx)(Ã:List (Addr × Obj))(σ:St)(Q:Bool->Hp->Prop)(b:Bool)(s':Shared):Prop:=∃ H',Inv X Ã σ H' s'/\Q b H'
def AP (X:Cx)(Ã:List (Addr × Obj))(σ:St)(Q:List V->Hp->Prop)(us:List Value)(s':Shared):Prop:=∃ vs H',Inv X Ã σ H' s'/\Vals vs us/\Q vs H'
def SP (X:Cx)(Ã:List (Addr × Obj))(D:bY)(f:Flow)(s':Shared):Prop :=
 match f with
 | .next=>∃ Ē H',Inv X Ã Ē H' s'/\D.nx Ē H'
 | .brk=>∃ Ē H',Inv X Ã Ē H' s'/\D.bk Ē H'
 | .cont=>∃ Ē H',Inv X Ã Ē H' s'/\D.ct Ē H'
 | .ret u=>∃ v Ē H',Inv X Ã Ē H' s'/\RelV v u/\D.rt v H'
def PE (X:Cx)(e:Expr)(t:TE):Prop :=
 ∀(Ã:List (Addr × Obj))(s:Shared)(σ:St)(H:Hp)(Q:VK),Inv X Ã σ H s->t σ H Q->wpAny (model X.prog X.w) X.A (eval e X.env) (EP X Ã σ Q) X.xe s
def PT (X:Cx)(e:Expr)(t:TT):Prop :=
 ∀(Ã:List (Addr × Obj))(s:Shared)(σ:St)(H:Hp)(Q:Bool->Hp->Prop),Inv X Ã σ H s->t σ H Q->wpAny (model X.prog X.w) X.A (isTrue e X.env (eval e X.env)) (TP X Ã σ Q) X.xe s
def PW (X:Cx)(e:Expr)(t:TT):Prop :=
 ∀(whole:Sem Value)(Ã:List (Addr × Obj))(s:Shared)(σ:St)(H:Hp)(Q:Bool->Hp->Prop),Inv X Ã σ H s->t σ H Q->wpAny (model X.prog X.w) X.A (isTrue e X.env whole) (TP X Ã σ Q) X.xe s
theorem PW.pt {X:Cx}{e:Expr}{t:TT}(h:PW X e t):PT X e t:=h _
def PA (X:Cx)(es:List Expr)(t:TA):Prop :=
 ∀(pos:Pos)(Ã:List (Addr × Obj))(s:Shared)(σ:St)(H:Hp)(Q:List V->Hp->Prop),Inv X Ã σ H s->t σ H Q->wpAny (model X.prog X.w) X.A (spliced (backTo pos (starEach es X.env))) (AP X Ã σ Q) X.xe s
def PS (X:Cx)(st:Stmt)(t:TS):Prop :=
 ∀(Ã:List (Addr × Obj))(s:Shared)(σ:St)(H:Hp)(D:bY),Inv X Ã σ H s->t D σ H->wpAny (model X.prog X.w) X.A (exec st X.env) (SP X Ã D) X.xe s
def Ų (X:Cx)(st:List Stmt)(t:TS):Prop :=
 ∀(Ã:List (Addr × Obj))(s:Shared)(σ:St)(H:Hp)(D:bY),Inv X Ã σ H s->t D σ H->wpAny (model X.prog X.w) X.A (execs st X.env) (SP X Ã D) X.xe s
theorem aW {α:Type}{t:Sem α}{Q Q':α->Shared->Prop}{M:Model}{A:Around}{E:cy}{s:Shared}(h:wpAny M A t Q E s)(hQ:∀ a s,Q a s->Q' a s):wpAny M A t Q' E s:=æ h hQ λ _ _ x=>x
section
variable {X:Cx}
theorem Ll {a b:Expr}{ta tb:TE}(ha:PE X a ta)(hb:PE X b tb){Ã:List (Addr × Obj)}{s:Shared}{σ:St}{H:Hp}{R:V->V->Hp->Prop}(I:Inv X Ã σ H s)(h:ta σ H λ x H1=>tb σ H1 λ y H2=>R x y H2)
  {α:Type}{Q:α->Shared->Prop}{f:Value->Value->Sem α}
  (hf:∀ v u s2 x y H2,Inv X Ã σ H2 s2->RelV x v->RelV y u->R x y H2->wpAny (model X.prog X.w) X.A (f v u) Q X.xe s2) :
  wpAny (model X.prog X.w) X.A (eval a X.env) (λ v Ą=>wpAny (model X.prog X.w) X.A (eval b X.env) (λ u ő=>wpAny (model X.prog X.w) X.A (f v u) Q X.xe ő) X.xe Ą) X.xe s:=by
 refine aW (ha Ã s σ H _ I h) λ v s1 ⟨x,H1,I1,r1,q1⟩=>?_;refine aW (hb Ã s1 σ H1 _ I1 q1) λ u s2 ⟨y,H2,I2,r2,q2⟩=>?_;exact hf v u s2 x y H2 I2 r1 r2 q2
def ar (i:Nat):TE:=λ σ H Q=>∃ v,σ[i]?=some (some v)/\Q v H
def tC (v:V):TE:=λ _ H Q=>Q v H
theorem zU {i:Nat}{x:Str}{pos:Pos}(hN:X.N[i]?=some x)(hv:yu X.env.scope x)(hd:(x==("__debug__" : Str))=false:=by decide)(M5:(x==("__classdict__" : Str))=false:=by decide):PE X (.Name x pos) (ar i):=by
 intro Ã s σ H Q I h;obtain⟨v,e,h⟩:=h;obtain⟨m,hn,hl⟩:=I.loc;obtain⟨u,r,l⟩:=hl i x v hN e hv;have fin:EP X Ã σ Q u s:=⟨v,H,I,r,h⟩;rcases l with⟨hk,hm⟩ | ⟨hk,c,hc,LD⟩
 ·exact wpAny_Name (wpAny_loadName_local I.ok.kind hk hn hm fin) hd
 ·rcases hk with hk | hk
  ·exact wpAny_Name (wpAny_loadName_cell I.ok.kind hk hc LD fin) hd
  ·exact wpAny_Name (wpAny_loadName_free I.ok.kind hk hc LD fin M5) hd
theorem aB {i j pos}:PE X (.Constant (.int i) j pos) (tC (.int i)):=λ _ _ _ H _ I h=>wpAny_Constant_int ⟨.int i,H,I.tok _,⟨_,rfl⟩,h⟩
theorem gR {b j pos}:PE X (.Constant (.bool b) j pos) (tC (.bl b)):=λ _ _ _ H _ I h=>Constant_bool ⟨.bl b,H,I,rfl,h⟩
theorem bQ {j pos}:PE X (.Constant .none j pos) (tC .ù):=λ _ _ _ H _ I h=>Constant_none ⟨.ù,H,I,rfl,h⟩
theorem av {x j pos}:PE X (.Constant (.str x) j pos) (tC (.str x)):=λ _ _ _ H _ I h=>Calls.Constant_str ⟨.str x,H,I.tok _,⟨_,rfl⟩,h⟩
def Gl (X:Cx)(x:Str):Prop:=X.env.kindOf x=some .globalImplicit
theorem ck {E:cy}{Ã:List (Addr × Obj)}{s:Shared}{σ:St}{H:Hp}{x:Str}{u:Value}{pos:Pos}{Q:cy}(I:Inv X Ã σ H s)(hg:Gl X x)(hm:X.mg x=some u)(h:Q u s)
  (hd:(x==("__debug__" : Str))=false:=by decide):wpAny (model X.prog X.w) X.A (eval (.Name x pos) X.env) Q E s :=
 Calls.Name_function_global I.ok.kind hg (Calls.loadGlobal_global (by rw [I.ok.glob];exact I.mod.glob.keeps I.bk) hm h) hd
theorem gM {E:cy}{Ã:List (Addr × Obj)}{s:Shared}{σ:St}{H:Hp}{x:Str}{u:Value}{pos:Pos}{Q:cy}(I:Inv X Ã σ H s)(hg:Gl X x)(hm:X.mg x=none)(hv:bootBuiltins x=some u)(h:Q u s)
  (hn:x ≠ "__name__" := by decide)(hd:(x==("__debug__" : Str))=false:=by decide):wpAny (model X.prog X.w) X.A (eval (.Name x pos) X.env) Q E s:=by
 obtain⟨mb,h1,h2⟩:=I.mod.blt;exact Calls.Name_function_global I.ok.kind hg (Calls.loadGlobal_builtin (by rw [I.ok.glob];exact I.mod.glob.keeps I.bk) hm (by rw [I.ok.blt];exact h1.keeps I.bk) ((h2 x hn).trans hv) h) hd
theorem aI {x:Str}{v:V}{u:Value}{pos:Pos}(hg:Gl X x)(hm:X.mg x=some u)(r:RelV v u)(hd:(x==("__debug__" : Str))=false:=by decide):PE X (.Name x pos) (tC v) :=
 λ _ _ _ H _ I h=>ck I hg hm ⟨v,H,I,r,h⟩ hd
theorem wQ {x:Str}{v:V}{u:Value}{pos:Pos}(hg:Gl X x)(hm:X.mg x=none)(hv:bootBuiltins x=some u)(r:RelV v u)(hn:x ≠ "__name__" := by decide)(hd:(x==("__debug__" : Str))=false:=by decide):PE X (.Name x pos) (tC v) :=
 λ _ _ _ H _ I h=>gM I hg hm hv ⟨v,H,I,r,h⟩ hn hd
def KJ (ta tb:TE)(k:Int->Int->Hp->Prop):St->Hp->Prop:=λ σ H=>ta σ H λ x H1=>tb σ H1 λ y H2=>∃ i j,x=.int i/\y=.int j/\k i j H2
variable {a b:Expr}{ta tb:TE}{pos:Pos}
def PC (X:Cx)(op:CmpOp)(a b:Expr)(t:TE):Prop :=
 ∀(Ã:List (Addr × Obj))(s:Shared)(σ:St)(H:Hp)(Q:VK),Inv X Ã σ H s->t σ H Q ->
  wpAny (model X.prog X.w) X.A (eval a X.env) (λ v Ą=>wpAny (model X.prog X.w) X.A (eval b X.env) (λ u ő=>wpAny (model X.prog X.w) X.A (compareOp op v u) (EP X Ã σ Q) X.xe ő) X.xe Ą) X.xe s
theorem sW (b:Expr){op:CmpOp}(h:op ≠ .In)(h2:op ≠ .NotIn):behindInMarks op b=false:=by
 have e1:(op==CmpOp.In)=false:=by cases op <;> first | rfl | exact absurd rfl h
 have e2:(op==CmpOp.NotIn)=false:=by cases op <;> first | rfl | exact absurd rfl h2
 cases b <;> simp [behindInMarks,e1,e2]
def IH (p:Int->Int->Bool)(ta tb:TE):TE:=λ σ H Q=>KJ ta tb (λ i j H2=>Q (.bl (p i j)) H2) σ H
abbrev IP:TE->TE->TE:=IH λ i j=>decide (i<=j)
def tB (t:TE):TT:=λ σ H Q=>t σ H λ x H1=>∃ c,x=.bl c/\Q c H1
theorem HN {op:CmpOp}{t:TE}(h:PC X op a b t)(h1:behindInMarks op b=false:=by first | exact sW _ ad ad | rfl):PT X (.Compare a [op] [b] pos) (tB t):=by
 intro Ã s σ H Q I hw;refine wpAny_isTrue_Compare1 (aW (h Ã s σ H _ I hw) λ v s1 h1=>aW h1 λ u s2 h2=>aW h2 λ c s3 ⟨x,H1,I1,r1,q1⟩=>?_) h1;obtain⟨d,rfl,q⟩:=q1;cases r1;exact ĺ ⟨H1,I1,q⟩
theorem aX {e:Expr}{t:TE}(h:PE X e t)(he:∀ whole,isTrue e X.env whole=(do let v <- whole;standAt e.pos;holding [v] (truthy v)):=by intro _;rfl):PT X e (tB t):=by
 intro Ã s σ H Q I hw;refine isTrue_plain (aW (h Ã s σ H _ I hw) λ v s1 ⟨x,H1,I1,r1,q1⟩=>?_) (he _);obtain⟨d,rfl,q⟩:=q1;cases r1;exact ĺ ⟨H1,I1,q⟩
variable {tA Tl:TT}{rest:List Expr}
def tO (t u:TT):TT:=λ σ H Q=>t σ H λ c H1=>if c=true then u σ H1 Q else Q false H1
def yY (t u:TT):TT:=λ σ H Q=>t σ H λ c H1=>if c=true then Q true H1 else u σ H1 Q
def mj (t:TT):TT:=λ σ H Q=>t σ H λ c H1=>Q (!c) H1
theorem i7 (ha:PT X a tA):PW X (.BoolOp .And [a] pos) tA:=by
 intro wh Ã s σ H Q I h;refine isTrue_and (aW (ha Ã s σ H Q I h) λ c s1 e=>?_);cases c with
 | true=>exact isTrue_and_nil e
 | false=>exact e
theorem dH (ha:PT X a tA):PW X (.BoolOp .Or [a] pos) tA:=by
 intro wh Ã s σ H Q I h;refine isTrue_or (aW (ha Ã s σ H Q I h) λ c s1 e=>?_);cases c with
 | false=>exact isTrue_or_nil e
 | true=>exact e
theorem kZ (ha:PT X a tA)(hb:PW X (.BoolOp .And (b::rest) pos) Tl):PW X (.BoolOp .And (a::b::rest) pos) (tO tA Tl):=by
 intro wh Ã s σ H Q I h;refine isTrue_and (aW (ha Ã s σ H _ I h) λ c s1 ⟨H1,I1,q1⟩=>?_);cases c with
 | true=>exact hb wh Ã s1 σ H1 Q I1 q1
 | false=>exact⟨H1,I1,q1⟩
theorem fV (ha:PT X a tA)(hb:PW X (.BoolOp .Or (b::rest) pos) Tl):PW X (.BoolOp .Or (a::b::rest) pos) (yY tA Tl):=by
 intro wh Ã s σ H Q I h;refine isTrue_or (aW (ha Ã s σ H _ I h) λ c s1 ⟨H1,I1,q1⟩=>?_);cases c with
 | true=>exact⟨H1,I1,q1⟩
 | false=>exact hb wh Ã s1 σ H1 Q I1 q1
theorem bu (ha:PT X a tA):PT X (.UnaryOp .Not a pos) (mj tA):=by
 intro Ã s σ H Q I h;exact isTrue_not (ha Ã s σ H (λ c H1=>Q (!c) H1) I h)
def yp (ta tb:TE):TE:=λ σ H Q=>ta σ H λ x H1=>∃ c,x=.bl c/\if c=true then tb σ H1 Q else Q (.bl false) H1
def C9 (ta tb:TE):TE:=λ σ H Q=>ta σ H λ x H1=>∃ c,x=.bl c/\if c=true then Q (.bl true) H1 else tb σ H1 Q
def EW (ta:TE):TE:=λ σ H Q=>ta σ H λ x H1=>∃ c,x=.bl c/\Q (.bl (!c)) H1
theorem fJ {op}{t:TE}(h:PE X a t):PE X (.BoolOp op [a] pos) t:=λ Ã s σ H Q I hw=>BoolOp_one (h Ã s σ H Q I hw)
theorem eI (ha:PE X a ta)(hb:PE X (.BoolOp .And (b::rest) pos) tb):PE X (.BoolOp .And (a::b::rest) pos) (yp ta tb):=by
 intro Ã s σ H Q I h;refine BoolOp_and (aW (ha Ã s σ H _ I h) λ v s1 ⟨x,H1,I1,r1,q1⟩=>?_);obtain⟨c,rfl,q1⟩:=q1;cases r1;refine ĺ ?_;cases c with
 | true=>exact hb Ã s1 σ H1 Q I1 q1
 | false=>exact⟨.bl false,H1,I1,rfl,q1⟩
theorem Eu (ha:PE X a ta)(hb:PE X (.BoolOp .Or (b::rest) pos) tb):PE X (.BoolOp .Or (a::b::rest) pos) (C9 ta tb):=by
 intro Ã s σ H Q I h;refine BoolOp_or (aW (ha Ã s σ H _ I h) λ v s1 ⟨x,H1,I1,r1,q1⟩=>?_);obtain⟨c,rfl,q1⟩:=q1;cases r1;refine ĺ ?_;cases c with
 | false=>exact hb Ã s1 σ H1 Q I1 q1
 | true=>exact⟨.bl true,H1,I1,rfl,q1⟩
theorem BD (ha:PE X a ta):PE X (.UnaryOp .Not a pos) (EW ta):=by
 intro Ã s σ H Q I h;refine UnaryOp_ (aW (ha Ã s σ H _ I h) λ v s1 ⟨x,H1,I1,r1,q1⟩=>?_);obtain⟨c,rfl,q1⟩:=q1;cases r1;exact not_of (ĺ ⟨.bl (!c),H1,I1,rfl,q1⟩)
def K4 (t:TT)(ta tb:TE):TE:=λ σ H Q=>t σ H λ c H1=>if c=true then ta σ H1 Q else tb σ H1 Q
theorem ou {c:Expr}(hc:PT X c tA)(ha:PE X a ta)(hb:PE X b tb):PE X (.IfExp c a b pos) (K4 tA ta tb):=by
 intro Ã s σ H Q I h;refine wpAny_IfExp (aW (hc Ã s σ H _ I h) λ d s1 ⟨H1,I1,q1⟩=>?_);cases d with
 | true=>exact ha Ã s1 σ H1 Q I1 q1
 | false=>exact hb Ã s1 σ H1 Q I1 q1
end
def ó (K:PySem.W.Frag)(H:Hp)(a:Addr)(xs:List V):Prop :=
 Rd H a (.lst xs) \/
  ∃(o:Obj)(its:Array Value)(n:Nat),K.lookup a=some o/\o.cls=.type "list" /\ o.dict=none/\o.data=.seq its n/\its.size<=sizeLine/\Vals xs its.toList
def ĥ (K:PySem.W.Frag)(H:Hp)(a:Addr)(xs:List V):Prop :=
 Rd H a (.tup xs) \/
  ∃(o:Obj)(its:Array Value)(n:Nat),K.lookup a=some o/\o.cls=.type "tuple" /\ o.data=.seq its n/\its.size<=sizeLine/\Vals xs its.toList
def vM:Value->Option V
 | .none=>some .ù
 | .bool b=>some (.bl b)
 | .int i _=>some (.int i)
 | .str x _=>some (.str x)
 | .bytes b _=>some (.Od b)
 | .float b _=>some (.Pn b)
 | .ref a=>some (.ref a)
 | .type n=>some (.ty n)
 | _=>none
theorem RelV.abs {x:V}{u:Value}(r:RelV x u):vM u=some x:=by
 cases x with
 | ù=>cases r;rfl
 | bl _=>cases r;rfl
 | int _=>obtain⟨t,rfl⟩:=r;rfl
 | str _=>obtain⟨t,rfl⟩:=r;rfl
 | Od _=>obtain⟨t,rfl⟩:=r;rfl
 | Pn _=>obtain⟨t,rfl⟩:=r;rfl
 | ref _=>cases r;rfl
 | ty _=>cases r;rfl
theorem RelV.inj {x y:V}{u:Value}(r:RelV x u)(q:RelV y u):x=y:=Û (r.abs.symm.trans q.abs)
theorem Vals.inj:∀{xs ys:List V}{us:List Value},Vals xs us->Vals ys us->xs=ys
 | _,_,_,.nil,.nil=>rfl
 | _,_,_,.cons r t,.cons r' t'=>by rw [r.inj r',Vals.inj t t']
section
variable {X:Cx}{Ã:List (Addr × Obj)}{σ:St}{H:Hp}{s:Shared}{a:Addr}{xs ys:List V}
theorem ó.of {K:PySem.W.Frag}(h:H a=some (.lst xs)):ó K H a xs:=.inl (.inl h)
theorem ĥ.of {K:PySem.W.Frag}(h:H a=some (.tup xs)):ĥ K H a xs:=.inl (.inl h)
theorem Inv.list (I:Inv X Ã σ H s)(h:ó X.K H a xs):∃ its:List Value,Vals xs its/\PlainL s.heap a its.toArray/\xs.length<=sizeLine:=by
 rcases h with h | ⟨o,its,n,hk,hc,hd,hs,hz,r⟩
 ·obtain⟨z,its,n,r,e⟩:=h.ok I.Ć;exact⟨its,r,⟨_,n,e,rfl,rfl,rfl⟩,z⟩
 ·refine⟨its.toList,r,⟨o,n,I.Ń a o hk,hc,hd,by simpa using hs⟩,?_⟩
  have e:=r.length;simp only [Array.length_toList] at e;omega
theorem Inv.tuple (I:Inv X Ã σ H s)(h:ĥ X.K H a xs):∃ its:List Value,Vals xs its/\IsTup s.heap a its.toArray/\xs.length<=sizeLine:=by
 rcases h with h | ⟨o,its,n,hk,hc,hs,hz,r⟩
 ·obtain⟨z,its,r,p⟩:=h.ok I.Ć;exact⟨its,r,p,z⟩
 ·refine⟨its.toList,r,⟨o,I.Ń a o hk,hc,n,by simpa using hs⟩,?_⟩
  have e:=r.length;simp only [Array.length_toList] at e;omega
theorem Inv.Lz (I:Inv X Ã σ H s)(h:ó X.K H a xs)(h':ó X.K H a ys):xs=ys:=by
 obtain⟨its,r,⟨o,n,e,_,_,d⟩,_⟩:=I.list h;obtain⟨its',r',⟨o',n',e',_,_,d'⟩,_⟩:=I.list h';rw [e] at e';cases e';rw [d] at d';injection d' with d1 _
 have:its=its':=by simpa using congrArg Array.toList d1
 subst this;exact r.inj r'
theorem Inv.Ma (I:Inv X Ã σ H s)(h:ĥ X.K H a xs)(h':ĥ X.K H a ys):xs=ys:=by
 obtain⟨its,r,⟨o,e,_,n,d⟩,_⟩:=I.tuple h;obtain⟨its',r',⟨o',e',_,n',d'⟩,_⟩:=I.tuple h';rw [e] at e';cases e';rw [d] at d';injection d' with d1 _
 have:its=its':=by simpa using congrArg Array.toList d1
 subst this;exact r.inj r'
end
abbrev Cx.LS (X:Cx)(E:cy):Cx:={ X with xe:=E }
abbrev Cx.Ŝ (X:Cx):Cx:=X.LS λ _ _=>False
theorem Cx.Ok.LS {X:Cx}(ok:X.Ok)(E:cy):(X.LS E).Ok :=
 ⟨ok.mod,ok.kind,ok.glob,ok.blt,ok.above,ok.inj,ok.has,ok.Qu,ok.hd,ok.frames,ok.QJ,ok.SQ,ok.bs,ok.No,ok.Mo,ok.Nm,ok.γ,ok.O4⟩
theorem Cx.Ok.Ξ {X:Cx}{E:cy}(ok:(X.LS E).Ok):X.Ok :=
 ⟨ok.mod,ok.kind,ok.glob,ok.blt,ok.above,ok.inj,ok.has,ok.Qu,ok.hd,ok.frames,ok.QJ,ok.SQ,ok.bs,ok.No,ok.Mo,ok.Nm,ok.γ,ok.O4⟩
section
variable {X:Cx}{Ã:List (Addr × Obj)}{σ:St}{H:Hp}{s:Shared}{E:cy}
theorem Inv.LS (I:Inv X Ã σ H s)(E:cy):Inv (X.LS E) Ã σ H s:=⟨I.ok.LS E,I.os,I.bare,I.base,I.loc,I.cell,I.free,I.ţ,I.pin,I.Ć,I.len⟩
theorem Inv.Ξ (I:Inv (X.LS E) Ã σ H s):Inv X Ã σ H s:=⟨I.ok.Ξ,I.os,I.bare,I.base,I.loc,I.cell,I.free,I.ţ,I.pin,I.Ć,I.len⟩
theorem SP.Ξ {D:bY}{f:Flow}{s':Shared}(h:SP (X.LS E) Ã D f s'):SP X Ã D f s':=by
 cases f with
 | next=>obtain⟨Ē,H',I,q⟩:=h;exact⟨Ē,H',I.Ξ,q⟩
 | brk=>obtain⟨Ē,H',I,q⟩:=h;exact⟨Ē,H',I.Ξ,q⟩
 | cont=>obtain⟨Ē,H',I,q⟩:=h;exact⟨Ē,H',I.Ξ,q⟩
 | ret u=>obtain⟨v,Ē,H',I,r,q⟩:=h;exact⟨v,Ē,H',I.Ξ,r,q⟩
theorem Ų.Ŝ {st:List Stmt}{t:TS}(h:Ų X.Ŝ st t):Ų X st t:=λ Ã s σ H D I hw =>
 æ (h Ã s σ H D (I.LS _) hw) (λ _ _ q=>q.Ξ) λ _ _ z=>False.elim z
end
section
variable {X:Cx}{st:Stmt}{rest:List Stmt}{t u:TS}{e:Expr}{te:TE}{pos:Pos}
def bZ:TS:=λ D σ H=>D.nx σ H
def aZ (t u:TS):TS:=λ D σ H=>t { D with nx:=u D } σ H
theorem fF:Ų X [] bZ:=λ _ _ σ H _ I h=>ū ⟨σ,H,I,h⟩
theorem cL (h1:PS X st t)(h2:Ų X rest u):Ų X (st::rest) (aZ t u):=by
 intro Ã s σ H D I h;refine Pq (aW (h1 Ã s σ H { D with nx:=u D } I h) λ f s1 q=>?_)
 cases f with
 | next =>
  obtain⟨Ē,H',I',q⟩:=q;exact h2 Ã s1 Ē H' D I' q
 | ret v=>exact q
 | brk=>exact q
 | cont=>exact q
theorem bj (h1:PS X st t):Ų X [st] t:=by
 intro Ã s σ H D I h;refine Pq (aW (h1 Ã s σ H D I h) λ f s1 q=>?_);cases f with
 | next=>exact ū q
 | ret v=>exact q
 | brk=>exact q
 | cont=>exact q
theorem xH:PS X (.Pass pos) bZ:=λ _ _ σ H _ I h=>wpAny_Pass ⟨σ,H,I,h⟩
theorem Inv.quiet {Ã:List (Addr × Obj)}{σ:St}{H:Hp}{s:Shared}(I:Inv X Ã σ H s):interactive X.env=false:=by simp [interactive,I.ok.kind]
def iM (te:TE):TS:=λ D σ H=>te σ H λ _ H1=>D.nx σ H1
theorem ax (he:PE X e te)(hs:swapsWith e none pos.line X.env=pure false:=by rfl):PS X (.Expr e pos) (iM te):=by
 intro Ã s σ H D I h;exact wpAny_Expr_any (aW (he Ã s σ H _ I h) λ v s1 ⟨x,H1,I1,r1,q1⟩=>⟨σ,H1,I1,q1⟩) I.quiet hs
def cW (te:TE):TS:=λ D σ H=>te σ H D.rt
theorem cM (he:PE X e te):PS X (.Return (some e) pos) (cW te):=by
 intro Ã s σ H D I h;exact wpAny_Return_some (aW (he Ã s σ H _ I h) λ v s1 ⟨x,H1,I1,r1,q1⟩=>⟨x,σ,H1,I1,r1,q1⟩)
def dQ (c:TT)(t u:TS):TS:=λ D σ H=>c σ H λ b H1=>if b=true then t D σ H1 else u D σ H1
theorem bf {c:Expr}{a b:List Stmt}{tc:TT}(hc:PT X c tc)(ha:Ų X a t)(hb:Ų X b u):PS X (.If c a b pos) (dQ tc t u):=by
 intro Ã s σ H D I h;refine wpAny_If (aW (hc Ã s σ H _ I h) λ d s1 ⟨H1,I1,q1⟩=>?_);cases d with
 | true=>exact ha Ã s1 σ H1 D I1 q1
 | false=>exact hb Ã s1 σ H1 D I1 q1
def Bz:TS:=λ _ _ _=>False
theorem ji:PS X st Bz:=λ _ _ _ _ _ _ h=>h.elim
end
abbrev TG:=V->St->Hp->(St->Hp->Prop)->Prop
abbrev vV:=List V->St->Hp->(St->Hp->Prop)->Prop
def PG (X:Cx)(target:Expr)(t:TG):Prop :=
 ∀(Ã:List (Addr × Obj))(s:Shared)(σ:St)(H:Hp)(v:V)(u:Value)(Q:St->Hp->Prop),Inv X Ã σ H s->RelV v u->t v σ H Q ->
  wpAny (model X.prog X.w) X.A (assign target X.env u) (λ _ s'=>∃ Ē H',Inv X Ã Ē H' s'/\Q Ē H') X.xe s
def EU (X:Cx)(ts:List Expr)(t:vV):Prop :=
 ∀(Ã:List (Addr × Obj))(s:Shared)(σ:St)(H:Hp)(vs:List V)(us:List Value)(Q:St->Hp->Prop),Inv X Ã σ H s->Vals vs us->t vs σ H Q ->
  wpAny (model X.prog X.w) X.A (assignInOrder ((assignEach ts X.env).map (·.2)) us) (λ _ s'=>∃ Ē H',Inv X Ã Ē H' s'/\Q Ē H') X.xe s
abbrev uT:=V->V->V->Hp->(Hp->Prop)->Prop
def ze (X:Cx)(t:uT):Prop :=
 ∀(Ã:List (Addr × Obj))(s:Shared)(σ:St)(H:Hp)(o i v:V)(ov iv u:Value)(Q:Hp->Prop),Inv X Ã σ H s->RelV o ov->RelV i iv->RelV v u->t o i v H Q ->
  wpAny (model X.prog X.w) X.A (setItem ov iv u) (λ _ s'=>∃ H',Inv X Ã σ H' s'/\Q H') X.xe s
abbrev Hy:=V->V->Hp->VK->Prop
def Kv (X:Cx)(op:Operator)(t:Hy):Prop :=
 ∀(Ã:List (Addr × Obj))(s:Shared)(σ:St)(H:Hp)(x y:V)(v u:Value)(Q:VK),Inv X Ã σ H s->RelV x v->RelV y u->t x y H Q ->
  wpAny (model X.prog X.w) X.A (inplaceOp op v u) (EP X Ã σ Q) X.xe s
section
variable {X:Cx}{pos:Pos}
def bF (i:Nat):TG:=λ v σ H Q=>Q (σ.set i (some v)) H
theorem dG {i:Nat}{x:Str}(hN:X.N.Nodup)(hi:X.N[i]?=some x)(hx:DO X.env.scope x)(hf:X.fn x=true\/X.env.scope.names.lookup x=some .local:=by first | exact .inl rfl | exact .inr rfl | assumption):PG X (.Name x pos) (bF i):=by
 intro Ã s σ H v u Q I r h;exact wpAny_assign_Name (dZ I hN hi hx r (λ s' I'=>⟨_,H,I',h⟩) hf)
def sd:vV:=λ vs σ H Q=>vs=[]/\Q σ H
def gB (t:TG)(u:vV):vV:=λ vs σ H Q=>∃ v r,vs=v::r/\t v σ H λ Ē H'=>u r Ē H' Q
theorem bT:EU X [] sd:=by
 intro Ã s σ H vs us Q I r h;obtain⟨e,h⟩:=h;subst e;cases r;exact assignInOrder_nil ⟨σ,H,I,h⟩
theorem gy {e:Expr}{es:List Expr}{t:TG}{u:vV}(h1:PG X e t)(h2:EU X es u)
  (hs:(assignEach (e::es) X.env).map (·.2)=assign e X.env::(assignEach es X.env).map (·.2):=by rfl):EU X (e::es) (gB t u):=by
 intro Ã s σ H vs us Q I r h;obtain⟨v,vr,e1,h⟩:=h;subst e1;cases r with
 | cons r rr =>
  rw [hs];refine assignInOrder_cons (aW (h1 Ã s σ H _ _ _ I r h) λ _ s1 ⟨Rh,H1,I1,q1⟩=>?_);exact h2 Ã s1 Rh H1 _ _ Q I1 rr q1
def v5 (K:PySem.W.Frag)(n:Nat)(t:vV):TG:=λ v σ H Q=>∃ a xs,v=.ref a/\ĥ K H a xs/\xs.length=n/\t xs σ H Q
theorem cT {es:List Expr}{k:Nat}{t:vV}{n:Nat}(hc:X.calm=true)(h:EU X es t)
  (hn:(assignEach es X.env).length=n:=by rfl)(Pk:(assignEach es X.env).findIdx? (·.1)=none:=by rfl):PG X (.Tuple es k pos) (v5 X.K n t):=by
 intro Ã s σ H v u Q I r hw;obtain⟨a,xs,e1,hq,hl,hw⟩:=hw;subst e1;cases r;obtain⟨its,rv,ht,hz⟩:=I.tuple hq;refine assign_Tuple_tuple (I.ok.hd hc) ht (by simp [hn,<- hl,rv.length]) Pk λ h' hx=>?_
 have I1:Inv X Ã σ H { s with heap:=h' }:=I.kept (t':=s.toks) λ b o e=>hx b o (Î (È e)) e
 exact h Ã _ σ H xs _ Q I1 (by simpa using rv) hw
def E3 (to ti:TE)(t:uT):TG:=λ v σ H Q=>to σ H λ o H1=>ti σ H1 λ i H2=>t o i v H2 λ H3=>Q σ H3
theorem lH {o i:Expr}{to ti:TE}{t:uT}(ho:PE X o to)(hi:PE X i ti)(hs:ze X t)
  (ha:∀ v,assign (.Subscript o i pos) X.env v=(do
   let ov <- holding [v] (eval o X.env)
   let iv <- holding [v,ov] (eval i X.env)
   standAt pos
   holding [v,ov,iv] (setItem ov iv v)
   release [v,ov,iv] []):=by intro _;rfl):PG X (.Subscript o i pos) (E3 to ti t):=by
 intro Ã s σ H v u Q I r h;rw [ha];refine À (þ (aW (ho Ã s σ H _ I h) λ ov s1 ⟨x,H1,I1,r1,q1⟩=>?_));refine À (þ (aW (hi Ã s1 σ H1 _ I1 q1) λ iv s2 ⟨y,H2,I2,r2,q2⟩=>?_));refine À (ĭ (À (þ (aW (hs Ã s2 σ H2 x y v ov iv u _ I2 r1 r2 r q2) λ _ s3 ⟨H3,I3,q3⟩=>?_))));exact wpAny_release ⟨σ,H3,I3,q3⟩
def cV (te:TE)(g:TG):TS:=λ D σ H=>te σ H λ x H1=>g x σ H1 D.nx
theorem gN {tg e:Expr}{te:TE}{g:TG}(he:PE X e te)(hg:PG X tg g)(hs:swapsWithSole [tg] e pos.line X.env=pure false:=by rfl)(hw:swappedStores [tg] e X.env=pure none:=by rfl)
  (h1:(assignEach [tg] X.env).map (·.2)=[assign tg X.env]:=by rfl):PS X (.Assign [tg] e pos) (cV te g):=by
 intro Ã s σ H D I h;refine wpAny_Assign_stores (aW (he Ã s σ H _ I h) λ v s1 ⟨x,H1,I1,r1,q1⟩=>?_) hs hw;rw [h1];exact aW (hg Ã s1 σ H1 x v _ I1 r1 q1) λ _ s2 q=>q
theorem mq {i:Nat}{x:Str}{e:Expr}{te:TE}{pos':Pos}(hN:X.N.Nodup)(hi:X.N[i]?=some x)(hx:DO X.env.scope x)(he:PE X e te)(hs:swapsWith e (some (.Name x pos')) pos.line X.env=pure false:=by rfl)(hf:X.fn x=true\/X.env.scope.names.lookup x=some .local:=by first | exact .inl rfl | exact .inr rfl | assumption) :
  PS X (.Assign [.Name x pos'] e pos) (cV te (bF i)):=by
 intro Ã s σ H D I h;refine wpAny_Assign_Name (aW (he Ã s σ H _ I h) λ v s1 ⟨y,H1,I1,r1,q1⟩=>?_) hs;exact dZ I1 hN hi hx r1 (λ s2 I2=>⟨_,H1,I2,q1⟩) hf
def JL (i j:Nat)(ta:TA):TS:=λ D σ H=>ta σ H λ vs H1=>∃ v w,vs=[v,w]/\D.nx ((σ.set i (some v)).set j (some w)) H1
theorem BH {i j:Nat}{x y:Str}{a b:Expr}{ta:TA}{px py pt:Pos} {kt k2 Uy}(hc:X.calm=true)(hN:X.N.Nodup)(hi:X.N[i]?=some x)(hj:X.N[j]?=some y)(hij:i≠j)
  (hx:X.env.scope.names.lookup x=some .local)(hy:X.env.scope.names.lookup y=some .local)(ha:PA X [a,b] ta)
  (hw:swappedStores [.Tuple [.Name x px,.Name y py] kt pt] (.Tuple [a,b] k2 Uy) X.env=pure (some [x,y]))
  (hs:swapsWithSole [.Tuple [.Name x px,.Name y py] kt pt] (.Tuple [a,b] k2 Uy) pos.line X.env=pure false:=by rfl) :
  PS X (.Assign [.Tuple [.Name x px,.Name y py] kt pt] (.Tuple [a,b] k2 Uy) pos) (JL i j ta):=by
 intro Ã s σ H D I h;rw [exec_Assign_arm];refine À (ĭ ?_);rw [hs];refine À (Æ ?_);rw [Ø ad];refine À (Tuple_ (aW (ha _ Ã s σ H _ I h) λ us s1 ⟨vs,H1,I1,r1,q1⟩=>?_));obtain⟨v,w,e1,q1⟩:=q1;subst e1;obtain⟨u1,u2,rfl,rv,N8⟩:∃ u1 u2,us=[u1,u2]/\RelV v u1/\RelV w u2:=by
  cases r1 with
  | cons p q =>
   cases q with
   | cons p' q' =>
    cases q';exact⟨_,_,rfl,p,p'⟩
 refine ý ?_ dA;have I2:Inv X Ã σ H1 { s1 with heap:=s1.heap.push { cls:=.type "tuple",data:=.seq [u1,u2].toArray } }:=I1.kept (t':=s1.toks) λ b o e=>Á _ e
 rw [hw];refine À (Æ ?_);show wpAny (model X.prog X.w) X.A (do rule "assign.swapped-stores";let items <- unpackItems (.ref s1.heap.objs.size) 2 none;assignInOrder [λ v=>bindName X.env y v,λ v=>bindName X.env x v] items.reverse;pure Flow.next) _ _ _
 refine À (LK (À (unpackItems_tuple (items:=#[u1,u2]) (I.ok.hd hc) (IsTup.new s1.heap _) λ h' OU=>?_)));have I3:=I2.kept (h':=h') (t':=s1.toks) λ b o e=>OU b o (Î (È e)) e;show wpAny _ _ (assignInOrder [λ v=>bindName X.env y v,λ v=>bindName X.env x v] [u2,u1] >>= λ _=>pure Flow.next) _ _ _;refine À (assignInOrder_cons (wpAny_bindName (dZ I3 hN hj (.inl hy) N8 (λ s2 I4=>?_) (.inr hy))));refine assignInOrder_cons (wpAny_bindName (dZ I4 hN hi (.inl hx) rv (λ s3 I5=>assignInOrder_nil (Æ ?_)) (.inr hx)));rw [List.set_comm _ _ (Ne.symm hij)] at I5;exact⟨_,H1,I5,q1⟩
def yL (to ti te:TE)(PB:V->V->Hp->VK->Prop)(Tk:Hy)(Py:uT):TS:=λ D σ H=>to σ H λ o H1=>ti σ H1 λ i H2=>PB o i H2 λ x H3=>te σ H3 λ y H4=>Tk x y H4 λ z H5=>Py o i z H5 λ H6=>D.nx σ H6
def Gu (X:Cx)(t:V->V->Hp->VK->Prop):Prop :=
 ∀(Ã:List (Addr × Obj))(s:Shared)(σ:St)(H:Hp)(o i:V)(ov iv:Value)(Q:VK),Inv X Ã σ H s->RelV o ov->RelV i iv->t o i H Q ->
  wpAny (model X.prog X.w) X.A (getItem ov iv) (EP X Ã σ Q) X.xe s
theorem wY {o i e:Expr}{to ti te:TE}{PB:V->V->Hp->VK->Prop}{Tk:Hy}{Py:uT}{op:Operator}{QG:Pos}(ho:PE X o to)(hi:PE X i ti)(hg:Gu X PB)(he:PE X e te)(hp:Kv X op Tk)(hs:ze X Py)
  (ha:∀ ov iv new,augStore i ov iv new=(do holding [new,ov,iv] (setItem ov iv new);release [new,ov,iv] [];pure .next):=by intros;rfl):PS X (.AugAssign (.Subscript o i QG) op e pos) (yL to ti te PB Tk Py):=by
 intro Ã s σ H D I h;refine wpAny_AugAssign_SubscriptAny (aW (ho Ã s σ H _ I h) λ ov s1 ⟨x1,H1,I1,r1,q1⟩=>?_) ha;refine aW (hi Ã s1 σ H1 _ I1 q1) λ iv s2 ⟨x2,H2,I2,r2,q2⟩=>?_;refine aW (hg Ã s2 σ H2 x1 x2 ov iv _ I2 r1 r2 q2) λ old s3 ⟨x3,H3,I3,r3,q3⟩=>?_;refine aW (he Ã s3 σ H3 _ I3 q3) λ v s4 ⟨x4,H4,I4,r4,q4⟩=>?_;refine aW (hp Ã s4 σ H4 x3 x4 old v _ I4 r3 r4 q4) λ new s5 ⟨x5,H5,I5,r5,q5⟩=>?_;exact aW (hs Ã s5 σ H5 x1 x2 x5 ov iv new _ I5 r1 r2 r5 q5) λ _ s6 ⟨H6,I6,q6⟩=>⟨σ,H6,I6,q6⟩
def Kw (f:Int->Int->Int):Hy:=λ x y H Q=>∃ i j,x=.int i/\y=.int j/\Q (.int (f i j)) H
theorem CQ:Kv X .Add (Kw λ i j=>i+j):=by
 intro Ã s σ H x y v u Q I r1 r2 h;obtain⟨i,j,e1,e2,q⟩:=h;subst e1;subst e2;obtain⟨t,rfl⟩:=r1;obtain⟨t',rfl⟩:=r2;exact iadd_int ⟨.int _,H,I.tok _,⟨_,rfl⟩,q⟩
end
section
variable {X:Cx}{pos:Pos}
def sr (c:TT)(tb:TS):TS:=λ D σ H=>∃ W:Nat->St->Hp->Prop,(∃ m,W m σ H)/\∀ m σ H,W m σ H ->
 c σ H λ b H1=>if b=true then ∃ N:St->Hp->Prop,(∀ Ē H',N Ē H'->∃ m',m'<m/\W m' Ē H')/\tb { D with nx:=N,ct:=N,bk:=D.nx } σ H1 else D.nx σ H1
theorem oq {c:Expr}{body:List Stmt}{tc:TT}{tb:TS}(hp:PassesOwn (model X.prog X.w) X.A X.env X.xe)(hc:PT X c tc)(hb:Ų X body tb):PS X (.While c body [] pos) (sr tc tb):=by
 intro Ã s σ H D I h;obtain⟨W,⟨m0,w0⟩,turn⟩:=h;refine wpAny_While (codeAny_whileLoop (λ n s'=>∃ Ē H',Inv X Ã Ē H' s'/\W n Ē H') ?_ m0 ⟨σ,H,I,w0⟩);rintro n s1 ⟨Rh,H1,I1,w1⟩;refine Ō hp (aW (hc Ã s1 Rh H1 _ I1 (turn n Rh H1 w1)) λ b s2 ⟨H2,I2,q2⟩=>?_);cases b with
 | true =>
  obtain⟨N,hN,q2⟩:=q2;rw [à rfl];refine Ō hp (aW (hb Ã s2 Rh H2 _ I2 q2) λ f s3 q3=>?_);cases f with
  | next =>
   obtain⟨Os,H3,I3,n3⟩:=q3;obtain⟨m',hm,w3⟩:=hN Os H3 n3;exact⟨m',hm,Os,H3,I3,w3⟩
  | cont =>
   obtain⟨Os,H3,I3,n3⟩:=q3;obtain⟨m',hm,w3⟩:=hN Os H3 n3;exact⟨m',hm,Os,H3,I3,w3⟩
  | brk=>exact q3
  | ret v=>exact q3
 | false =>
  rw [Ø Ó];exact ū ⟨Rh,H2,I2,q2⟩
end
structure It where
 go:Nat->Hp->Prop
 L_:Nat->Hp->V->Hp->Prop
 stop:Nat->Hp->Prop
def dF (X:Cx)(Ã:List (Addr × Obj))(H:Hp)(b:Addr):Prop :=
 H b=none/\b≠X.env.locals/\b ∉ X.fs/\(b∈X.ex\/X.œ.heap.objs.size<=b)/\(∀ x c,X.env.cells.lookup x=some c->c≠b)/\∀ p∈X.pn ++ Ã,p.1≠b
theorem Inv.O6 {X:Cx}{Ã:List (Addr × Obj)}{σ:St}{H H':Hp}{s:Shared}{b:Addr}(I:Inv X Ã σ H s)(hb:s.heap.objs.size<=b)(hn:H' b=none):dF X Ã H' b:=by
 refine⟨hn,ť (Þ I.lt hb),I.UR hb,.inr (é I.sz hb),λ x c e z=>?_,λ p hp z=>?_⟩
 ·obtain⟨v,q⟩:=I.cell x c e;exact absurd (Þ q.lt (by rw [z];exact hb)) (ĝ _)
 ·exact absurd (Þ (È (I.pin p hp).1) (by rw [z];exact hb)) (ĝ _)
structure qW (P:Program)(w:World)(K:PySem.W.Frag)(tg:Expr)(J:It)(fp:List Addr)(it:Addr)(tn:Nat->Heap->Prop):Prop where
 mem:it∈fp
 obj:∀ i h,tn i h->∀ b∈fp,∃ o,h.get? b=some o/\∀ v,o.data ≠ .cell v
 keep:∀ i h h',tn i h->(∀ b∈fp,∀ o,h.get? b=some o->h'.get? b=some o)->tn i h'
 item:∀(X:Cx),X.prog=P->X.w=w->X.K=K->X.calm=true->∀(i:Nat)(Ã:List (Addr × Obj))(s:Shared)(σ:St)(H:Hp)(E:cy),Inv X Ã σ H s->(∀ b∈fp,dF X Ã H b)->tn i s.heap->J.go i H ->
  wpAny (model P w) X.A (pyNext (.ref it)) (λ r s1=>∃ u,r=some u /\
   wpAny (model P w) X.A (letOwnedTupleGo tg (.ref it) u) (λ _ s2=>∃ x H',Inv X Ã σ H' s2/\RelV x u/\J.L_ i H x H'/\tn (i+1) s2.heap/\∀ b∈fp,H' b=none) E s1) E s
 done:∀(X:Cx),X.prog=P->X.w=w->X.K=K->X.calm=true->∀(i:Nat)(Ã:List (Addr × Obj))(s:Shared)(σ:St)(H:Hp)(E:cy),Inv X Ã σ H s->(∀ b∈fp,dF X Ã H b)->tn i s.heap->J.stop i H ->
  wpAny (model P w) X.A (pyNext (.ref it)) (λ r s1=>r=none/\Inv X Ã σ H s1) E s
 self:∀(A:Around)(i:Nat)(s:Shared)(Q:cy)(E:cy),tn i s.heap->Q (.ref it) s->wpAny (model P w) A (pyIter (.ref it)) Q E s
abbrev TI:=St->Hp->(It->Hp->Prop)->Prop
def KD (X:Cx)(Ã:List (Addr × Obj))(σ:St)(tg:Expr)(R:It->Hp->Prop)(QP:Value)(s2:Shared):Prop :=
 ∃(it:Addr)(fp:List Addr)(tn:Nat->Heap->Prop)(J:It)(H':Hp),QP=.ref it/\Inv X Ã σ H' s2/\qW X.prog X.w X.K tg J fp it tn/\tn 0 s2.heap/\(∀ b∈fp,dF X Ã H' b)/\R J H'
def PI (X:Cx)(tg iter:Expr)(wi:TI):Prop :=
 ∀(Ã:List (Addr × Obj))(s:Shared)(σ:St)(H:Hp)(R:It->Hp->Prop),Inv X Ã σ H s->wi σ H R ->
  wpAny (model X.prog X.w) X.A (eval iter X.env) (λ v s1=>wpAny (model X.prog X.w) X.A (pyIter v) (KD X Ã σ tg R) X.xe s1) X.xe s
theorem sF {M:Model}{A:Around}{E:cy}{s:Shared}{tg:Expr}{it:Addr}{u:Value}{o:Obj}{n:String}{vs:Array Value}{Q:Unit->Shared->Prop}(ho:s.heap.get? it=some o)(hc:o.cls=.type n)(hd:o.data=.fields vs)
  (hn:["enumerate","zip","dict_itemiterator","dict_reverseitemiterator","odict_iterator","itertools.zip_longest","itertools.pairwise"].contains n=false)(hQ:Q () s):wpAny M A (letOwnedTupleGo tg (.ref it) u) Q E s:=by
 unfold letOwnedTupleGo;cases tg <;> first
  | exact Æ hQ
  | (cases u <;> first
    | exact Æ hQ
    | (refine À (wpAny_load ho ?_)
       rw [hc,hd];show wpAny M A (if(["enumerate","zip","dict_itemiterator","dict_reverseitemiterator","odict_iterator","itertools.zip_longest","itertools.pairwise"].contains n&&vs[0]?==some (rawInt _))=true then _ else _) Q E s
       rw [Ø (by intro h;rw [hn,Ν] at h;cases h)]
       exact Æ hQ))
def jZ (K:PySem.W.Frag)(a:Addr):It :=
 ⟨λ i H=>∃ xs x,ó K H a xs/\xs[i]?=some x,λ i H x H'=>H'=H/\∀ xs,ó K H a xs->xs[i]?=some x,λ i H=>∃ xs,ó K H a xs/\xs.length<=i⟩
def DN (K:PySem.W.Frag)(a:Addr):It :=
 ⟨λ i H=>∃ xs x,ĥ K H a xs/\xs[i]?=some x,λ i H x H'=>H'=H/\∀ xs,ĥ K H a xs->xs[i]?=some x,λ i H=>∃ xs,ĥ K H a xs/\xs.length<=i⟩
def wI (lo:Int)(n:Nat):It:=⟨λ i _=>i<n,λ i H x H'=>H'=H/\x=.int (lo+i),λ i _=>n<=i⟩
theorem qS {P:Program}{w:World}{K:PySem.W.Frag}{tg:Expr}(a it:Addr):qW P w K tg (jZ K a) [it] it (λ i h=>h.IsListIter it a i) where
 mem:=by simp
 obj:=λ i h st b hb=>by
  have e:b=it:=by simpa using hb
  subst e;obtain⟨o,e,c,d⟩:=st;exact⟨o,e,λ v z=>by rw [d] at z;cases z⟩
 keep:=λ i h h' st k=>st.at λ o e=>k it (by simp) o e
 item:=by
  intro X hP hw hK hc i Ã s σ H E I hf st hg;subst hP hw hK;obtain⟨xs,x,hq,hx⟩:=hg;obtain⟨its,rv,p,hz⟩:=I.list hq;obtain⟨u,hu,ru⟩:=rv.get hx;obtain⟨f0,f1,f2,f3,f4,f5⟩:=hf it (by simp)
  refine wpAny_pyNext_list_item st p.isList (x:=u) (by simpa using hu) λ h' Pi sb=>?_
  have I1:Inv X Ã σ H { s with heap:=h' }:=I.turned (t':=s.toks) (λ b o hb e=>(sb.2 b hb).trans e) f0 f1 f3 f4 f5
  obtain⟨o,e,c,d⟩:=id Pi;exact⟨u,rfl,sF (s:={ s with heap:=h' }) e c d ad ⟨x,H,I1,ru,⟨rfl,λ ys hy=>by rw [I.Lz hy hq];exact hx⟩,Pi,λ b hb=>(hf b hb).1⟩⟩
 done:=by
  intro X hP hw hK hc i Ã s σ H E I hf st hg;subst hP hw hK;obtain⟨xs,hq,hx⟩:=hg;obtain⟨its,rv,p,hz⟩:=I.list hq;obtain⟨f0,f1,f2,f3,f4,f5⟩:=hf it (by simp)
  have hl:=rv.length;exact wpAny_pyNext_list_end (I.ok.hd hc) st p.isList (by simp;omega) λ h' eb=>⟨rfl,I.turned (t':=s.toks) (λ b o hb e=>eb b o hb e) f0 f1 f3 f4 f5⟩
 self:=λ _ _ _ _ _ st h=>wpAny_pyIter_listiter st h
theorem oG {P:Program}{w:World}{K:PySem.W.Frag}{tg:Expr}(a it:Addr):qW P w K tg (DN K a) [it] it (λ i h=>h.IsTupleIter it a i) where
 mem:=by simp
 obj:=λ i h st b hb=>by
  have e:b=it:=by simpa using hb
  subst e;obtain⟨o,e,c,d⟩:=st;exact⟨o,e,λ v z=>by rw [d] at z;cases z⟩
 keep:=λ i h h' st k=>st.at λ o e=>k it (by simp) o e
 item:=by
  intro X hP hw hK hc i Ã s σ H E I hf st hg;subst hP hw hK;obtain⟨xs,x,hq,hx⟩:=hg;obtain⟨its,rv,p,hz⟩:=I.tuple hq;obtain⟨u,hu,ru⟩:=rv.get hx;obtain⟨f0,f1,f2,f3,f4,f5⟩:=hf it (by simp)
  refine wpAny_pyNext_tuple_item st (show s.heap.IsTuple a its.toArray from p) (x:=u) (by simpa using hu) λ h' Pi sb=>?_
  have I1:Inv X Ã σ H { s with heap:=h' }:=I.turned (t':=s.toks) (λ b o hb e=>(sb.2 b hb).trans e) f0 f1 f3 f4 f5
  obtain⟨o,e,c,d⟩:=id Pi;exact⟨u,rfl,sF (s:={ s with heap:=h' }) e c d ad ⟨x,H,I1,ru,⟨rfl,λ ys hy=>by rw [I.Ma hy hq];exact hx⟩,Pi,λ b hb=>(hf b hb).1⟩⟩
 done:=by
  intro X hP hw hK hc i Ã s σ H E I hf st hg;subst hP hw hK;obtain⟨xs,hq,hx⟩:=hg;obtain⟨its,rv,p,hz⟩:=I.tuple hq;obtain⟨f0,f1,f2,f3,f4,f5⟩:=hf it (by simp)
  have hl:=rv.length;exact wpAny_pyNext_tuple_end (I.ok.hd hc) st (show s.heap.IsTuple a its.toArray from p) (by simp;omega) λ h' eb=>⟨rfl,I.turned (t':=s.toks) (λ b o hb e=>eb b o hb e) f0 f1 f3 f4 f5⟩
 self:=λ _ _ _ _ _ st h=>wpAny_pyIter_tupleiter st h
theorem pF {P:Program}{w:World}{K:PySem.W.Frag}{tg:Expr}(it:Addr)(lo:Int)(n:Nat):qW P w K tg (wI lo n) [it] it (λ i h=>IsRangeIter h it (lo+(i:Nat)*1) ((n:Int)-(i:Nat)) 1) where
 mem:=by simp
 obj:=λ i h st b hb=>by
  have e:b=it:=by simpa using hb
  subst e;exact⟨_,st,λ v z=>by
   have z':Data.fields _=Data.cell v:=z;cases z'⟩
 keep:=λ i h h' st k=>k it (by simp) _ st
 item:=by
  intro X hP hw hK hc i Ã s σ H E I hf st hg;subst hP hw hK;obtain⟨f0,f1,f2,f3,f4,f5⟩:=hf it (by simp)
  have W:=Walks.range (prog:=X.prog) (w:=X.w) (I.ok.hd hc) it lo 1 n;refine W.item i s _ _ hg st λ v h' tk hv Pi kk=>?_;obtain⟨t,rfl⟩:=hv;have I1:Inv X Ã σ H { s with heap:=h',toks:=tk }:=I.turned (λ b o hb e=>kk b o (by simpa using hb) e) f0 f1 f3 f4 f5
  refine⟨_,rfl,sF (s:={ s with heap:=h',toks:=tk }) (n:="range_iterator") Pi rfl rfl ad ⟨.int (lo+i),H,I1,⟨t,?_⟩,⟨rfl,rfl⟩,Pi,λ b hb=>(hf b hb).1⟩⟩
  rw [Int.mul_one]
 done:=by
  intro X hP hw hK hc i Ã s σ H E I hf st hg;subst hP hw hK;obtain⟨f0,f1,f2,f3,f4,f5⟩:=hf it (by simp)
  exact wpAny_pyNext_range_end (I.ok.hd hc) st (by have:n<=i:=hg;omega) λ h' eb=>⟨rfl,I.turned (t':=s.toks) (λ b o hb e=>eb b o hb e) f0 f1 f3 f4 f5⟩
 self:=λ _ _ _ _ _ st h=>wpAny_pyIter_rangeiter st h
section
variable {X:Cx}{tg:Expr}
def cO (K:PySem.W.Frag)(tl:TE):TI:=λ σ H R=>tl σ H λ x H1=>∃ a,x=.ref a/\(∃ xs,ó K H1 a xs)/\R (jZ K a) H1
def Gb (K:PySem.W.Frag)(tl:TE):TI:=λ σ H R=>tl σ H λ x H1=>∃ a,x=.ref a/\(∃ xs,ĥ K H1 a xs)/\R (DN K a) H1
theorem bC {l:Expr}{tl:TE}(hl:PE X l tl):PI X tg l (cO X.K tl):=by
 intro Ã s σ H R I h;refine aW (hl Ã s σ H _ I h) λ v s1 ⟨x,H1,I1,r1,q1⟩=>?_;obtain⟨a,e,⟨xs,hq⟩,q⟩:=q1;subst e;cases r1;obtain⟨its,rv,p,hz⟩:=I1.list hq;refine m_ p.isList ?_;refine⟨s1.heap.objs.size,[s1.heap.objs.size],_,_,H1,rfl,I1.kept (t':=s1.toks) λ b o e=>Á _ e,qS a _,⟨_,Í _ rfl,rfl,rfl⟩,λ b hb=>?_,q⟩;have e:b=s1.heap.objs.size:=by simpa using hb
 subst e;exact I1.O6 (Ç _) (I1.Ć.fresh (Ç _))
theorem oQ {l:Expr}{tl:TE}(hl:PE X l tl):PI X tg l (Gb X.K tl):=by
 intro Ã s σ H R I h;refine aW (hl Ã s σ H _ I h) λ v s1 ⟨x,H1,I1,r1,q1⟩=>?_;obtain⟨a,e,⟨xs,hq⟩,q⟩:=q1;subst e;cases r1;obtain⟨its,rv,p,hz⟩:=I1.tuple hq;refine wpAny_pyIter_tuple (show s1.heap.IsTuple a its.toArray from p) ?_;refine⟨s1.heap.objs.size,[s1.heap.objs.size],_,_,H1,rfl,I1.kept (t':=s1.toks) λ b o e=>Á _ e,oG a _,⟨_,Í _ rfl,rfl,rfl⟩,λ b hb=>?_,q⟩;have e:b=s1.heap.objs.size:=by simpa using hb
 subst e;exact I1.O6 (Ç _) (I1.Ć.fresh (Ç _))
theorem sU {Ã:List (Addr × Obj)}{σ:St}{H:Hp}{s:Shared}{R:It->Hp->Prop}{E:cy}{lo hi:Int}{t u v:Tok}{tk:Nat}(I:Inv X Ã σ H s)(h1:-(2^62)<=lo)(h2:lo<2^62)(h3:-(2^62)<=hi)(h4:hi<2^62)
  (q:R (wI lo (hi-lo).toNat) H):wpAny (model X.prog X.w) X.A (pyIter (.ref s.heap.objs.size)) (KD X Ã σ tg R) E { s with heap:=s.heap.push { cls:=.type "range",data:=.fields #[.int lo t,.int hi u,.int 1 v] },toks:=tk }:=by
 refine wpAny_pyIter_range (IsRange.new ..) (small_one h1 h2 h3 h4) ?_;have I1:Inv X Ã σ H { s with heap:=s.heap.push { cls:=.type "range",data:=.fields #[.int lo t,.int hi u,.int 1 v] },toks:=tk }:=I.kept λ b o e=>Á _ e
 refine⟨(s.heap.push { cls:=.type "range",data:=.fields #[.int lo t,.int hi u,.int 1 v] }).objs.size,[(s.heap.push { cls:=.type "range",data:=.fields #[.int lo t,.int hi u,.int 1 v] }).objs.size],_,_,H,rfl,
  I1.kept (t':=tk) λ b o e=>Á _ e,pF _ lo (hi-lo).toNat,?_,λ b hb=>?_,q⟩
 ·have e1:lo+((0:Nat):Int)*1=lo:=by simp
  have e2:(((hi-lo).toNat:Nat):Int)-((0:Nat):Int)=Builtin.Range.rangeSize lo hi 1:=by rw [rangeSize_one];split <;> omega
  show IsRangeIter _ _ (lo+((0:Nat):Int)*1) ((((hi-lo).toNat:Nat):Int)-((0:Nat):Int)) 1;rw [e1,e2];exact Í _ rfl
 ·have e:b=(s.heap.push { cls:=.type "range",data:=.fields #[.int lo t,.int hi u,.int 1 v] }).objs.size:=by simpa using hb
  subst e;exact I1.O6 (Ç _) (I1.Ć.fresh (Ç _))
def nY (ta:TA):TI:=λ σ H R=>ta σ H λ vs H1=>∃ j:Int,vs=[.int j]/\-(2^62)<=j/\j<2^62/\R (wI 0 j.toNat) H1
theorem gu {a:Expr}{ta:TA}{p pos:Pos}(hg:Gl X "range")(hm:X.mg "range" = none)(ha:PA X [a] ta)(hs:starEach [a] X.env=[(false,eval a X.env)]:=by rfl):PI X tg (.Call (.Name "range" p) [a] [] pos) (nY ta):=by
 intro Ã s σ H R I h;refine Call_ (gM I hg hm boot_range (ģ (aW (ha pos Ã s σ H _ I h) λ us s1 ⟨vs,H1,I1,r1,q1⟩=>?_) hs rfl));obtain⟨j,e,q1,q2,q⟩:=q1;subst e;cases r1 with
 | cons r rr =>
  cases rr;obtain⟨t,rfl⟩:=r;exact call_range_1 (sU I1 am am q1 q2 (by simpa using q))
def mH (wi:TI)(g:TG)(tb:TS):TS:=λ D σ H=>wi σ H λ J H1=>∃ W:Nat->Nat->St->Hp->Prop,(∃ m,W 0 m σ H1)/\∀ i m σ H,W i m σ H ->
 (J.stop i H/\D.nx σ H)\/(J.go i H/\∃ N:St->Hp->Prop,(∀ Ē H',N Ē H'->∃ m',m'<m/\W (i+1) m' Ē H')/\∀ x H',J.L_ i H x H'->g x σ H' λ İ H2=>tb { D with nx:=N,ct:=N,bk:=D.nx } İ H2)
def lI (fp:List Addr)(h:Heap):List (Addr × Obj):=fp.filterMap λ b=>(h.get? b).map λ o=>(b,o)
theorem ba {fp:List Addr}{h:Heap}{b:Addr}{o:Obj}(hb:b∈fp)(e:h.get? b=some o):(b,o)∈lI fp h:=List.mem_filterMap.mpr ⟨b,hb,by rw [e];rfl⟩
theorem rF {fp:List Addr}{h:Heap}{p:Addr × Obj}(hp:p∈lI fp h):p.1∈fp/\h.get? p.1=some p.2:=by
 obtain⟨b,hb,e⟩:=List.mem_filterMap.mp hp;cases q:h.get? b with
 | none=>rw [q] at e;cases e
 | some o =>
  rw [q] at e;have e':(b,o)=p:=Û e;subst e';exact⟨hb,q⟩
theorem Inv.pinned {Ã:List (Addr × Obj)}{σ:St}{H:Hp}{s:Shared}{fp:List Addr}(I:Inv X Ã σ H s)(hf:∀ b∈fp,dF X Ã H b)(ho:∀ b∈fp,∃ o,s.heap.get? b=some o/\∀ v,o.data ≠ .cell v):Inv X (Ã ++ lI fp s.heap) σ H s :=
 I.NA λ p hp=>(Ġ.mp hp).elim (λ z=>I.pin p (Ì _ z)) λ z=>by
  obtain⟨hb,e⟩:=rF z;obtain⟨f0,f1,f2,_⟩:=hf p.1 hb;obtain⟨o,e',d⟩:=ho p.1 hb;rw [e] at e';cases e';exact⟨e,f0,f1,f2,d⟩
theorem Inv.Ő {Ã pl:List (Addr × Obj)}{σ:St}{H:Hp}{s:Shared}(I:Inv X (Ã ++ pl) σ H s):Inv X Ã σ H s:=I.NA λ p hp=>I.pin p (Ì _ (H_ _ hp))
theorem gk {iter:Expr}{body:List Stmt}{wi:TI}{g:TG}{tb:TS}{pos:Pos}(hp:PassesOwn (model X.prog X.w) X.A X.env X.xe)(hc:X.calm=true)(hi:PI X tg iter wi)(hg:PG X tg g)(hb:Ų X body tb)
  (hs:∀ x,foldedSetIterable iter X.env x=pure x:=by intro _;rfl):PS X (.For tg iter body [] pos) (mH wi g tb):=by
 intro Ã s σ H D I h;refine wpAny_For (aW (hi Ã s σ H _ I h) λ v s1 h1=>aW h1 λ QP s2 h2=>?_) hs;obtain⟨it,fp,tn,J,H2,e,I2,T,LX,f2,W,⟨m0,w0⟩,turn⟩:=h2;subst e;have ŧ:∀{H':Hp},(∀ b∈fp,H' b=none)->∀ b∈fp,dF X Ã H' b:=λ hn b hb=>⟨hn b hb,(f2 b hb).2⟩;refine codeAny_forLoop_any (λ n s'=>∃ i Ē H',Inv X Ã Ē H' s'/\tn i s'.heap/\(∀ b∈fp,H' b=none)/\W i n Ē H') ?_ m0 ⟨0,σ,H2,I2,LX,λ b hb=>(f2 b hb).1,w0⟩;rintro n s3 ⟨i,Os,H3,I3,N6,Xs,w3⟩;rcases turn i n Os H3 w3 with⟨stop,qn⟩ | ⟨go,N,hN,step⟩
 ·refine Ō hp (aW (T.done X rfl rfl rfl hc i Ã s3 Os H3 X.xe I3 (ŧ Xs) N6 stop) λ r s4 ⟨hr,I4⟩=>?_);subst hr;exact ū ⟨Os,H3,I4,qn⟩
 ·refine Ō hp (aW (T.item X rfl rfl rfl hc i Ã s3 Os H3 X.xe I3 (ŧ Xs) N6 go) λ r s4 ⟨u,hr,h4⟩=>?_);subst hr;refine Ō hp (aW h4 λ _ s5 ⟨x,H5,I5,r5,y5,z_,O5⟩=>?_);have Pd:=I5.pinned (ŧ O5) (T.obj _ _ z_);refine Ō hp (aW (hg _ s5 Os H5 x u _ Pd r5 (step x H5 y5)) λ _ s6 ⟨Rg,H6,I6,q6⟩=>?_);refine Ō hp (aW (hb _ s6 Rg H6 _ I6 q6) λ f s7 q7=>?_);have again:∀{Oq:St}{H7:Hp},Inv X (Ã ++ lI fp s5.heap) Oq H7 s7->N Oq H7->∃ m,m<n/\∃ i Ē H',Inv X Ã Ē H' s7/\tn i s7.heap/\(∀ b∈fp,H' b=none)/\W i m Ē H':=λ {Oq H7} I7 n7=>by
   obtain⟨m',hm,w7⟩:=hN Oq H7 n7;refine⟨m',hm,i+1,Oq,H7,I7.Ő,T.keep _ _ _ z_ λ b hb o e=>(I7.pin (b,o) (Ì _ (Ì _ (ba hb e)))).1,λ b hb=>?_,w7⟩;obtain⟨o,e,d⟩:=T.obj _ _ z_ b hb;exact(I7.pin (b,o) (Ì _ (Ì _ (ba hb e)))).2.1
  cases f with
  | next=>obtain⟨Oq,H7,I7,n7⟩:=q7;exact again I7 n7
  | cont=>obtain⟨Oq,H7,I7,n7⟩:=q7;exact again I7 n7
  | brk=>obtain⟨Oq,H7,I7,q7⟩:=q7;exact⟨Oq,H7,I7.Ő,q7⟩
  | ret v=>obtain⟨x7,Oq,H7,I7,r7,q7⟩:=q7;exact⟨x7,Oq,H7,I7.Ő,r7,q7⟩
end
theorem ig {K:PySem.W.Frag}{a:Addr}{xs:List V}{g:TG}{tb:TS}{D:bY}{σ:St}{H:Hp}(Pv:Nat->St->Hp->Prop)(h0:Pv 0 σ H)(hl:∀ i σ H,i<=xs.length->Pv i σ H->ó K H a xs)
  (hs:∀ i x σ H,xs[i]?=some x->Pv i σ H->g x σ H λ İ H2=>tb { D with nx:=Pv (i+1),ct:=Pv (i+1),bk:=D.nx } İ H2)(hd:∀ σ H,Pv xs.length σ H->D.nx σ H) :
  ∃ W:Nat->Nat->St->Hp->Prop,(∃ m,W 0 m σ H)/\∀ i m σ H,W i m σ H ->
   ((jZ K a).stop i H/\D.nx σ H)\/((jZ K a).go i H/\∃ N:St->Hp->Prop,(∀ Ē H',N Ē H'->∃ m',m'<m/\W (i+1) m' Ē H')/\∀ x H',(jZ K a).L_ i H x H'->g x σ H' λ İ H2=>tb { D with nx:=N,ct:=N,bk:=D.nx } İ H2):=by
 refine⟨λ i m σ H=>m=xs.length-i/\i<=xs.length/\Pv i σ H,⟨xs.length,by simp,Nat.zero_le _,h0⟩,?_⟩
 rintro i m σ H ⟨rfl,hi,p⟩;have q:=hl i σ H hi p;by_cases ſ:i<xs.length
 ·refine .inr ⟨⟨xs,xs[i],q,by simp [ſ]⟩,Pv (i+1),λ Ē H' p'=>⟨xs.length-(i+1),am,rfl,ſ,p'⟩,λ x H' y=>?_⟩
  obtain⟨e,y⟩:=y;subst e;exact hs i x σ _ (y xs q) p
 ·have e:i=xs.length:=am;subst e;exact .inl ⟨⟨xs,q,Ç _⟩,hd σ H p⟩
theorem kA {lo:Int}{n:Nat}{g:TG}{tb:TS}{D:bY}{σ:St}{H:Hp}(Pv:Nat->St->Hp->Prop)(h0:Pv 0 σ H)
  (hs:∀ i σ H,i<n->Pv i σ H->g (.int (lo+i)) σ H λ İ H2=>tb { D with nx:=Pv (i+1),ct:=Pv (i+1),bk:=D.nx } İ H2)(hd:∀ σ H,Pv n σ H->D.nx σ H) :
  ∃ W:Nat->Nat->St->Hp->Prop,(∃ m,W 0 m σ H)/\∀ i m σ H,W i m σ H ->
   ((wI lo n).stop i H/\D.nx σ H)\/((wI lo n).go i H/\∃ N:St->Hp->Prop,(∀ Ē H',N Ē H'->∃ m',m'<m/\W (i+1) m' Ē H')/\∀ x H',(wI lo n).L_ i H x H'->g x σ H' λ İ H2=>tb { D with nx:=N,ct:=N,bk:=D.nx } İ H2):=by
 refine⟨λ i m σ H=>m=n-i/\i<=n/\Pv i σ H,⟨n,by simp,Nat.zero_le _,h0⟩,?_⟩
 rintro i m σ H ⟨rfl,hi,p⟩;by_cases ſ:i<n
 ·refine .inr ⟨ſ,Pv (i+1),λ Ē H' p'=>⟨n-(i+1),am,rfl,ſ,p'⟩,λ x H' y=>?_⟩;obtain⟨e,y⟩:=y;subst e y;exact hs i σ _ ſ p
 ·have e:i=n:=am;subst e;exact .inl ⟨Ç _,hd σ H p⟩
theorem ug {c:TT}{tb:TS}{D:bY}{σ:St}{H:Hp}(Pv:St->Hp->Prop)(μ:St->Hp->Nat)(h0:Pv σ H)
  (hs:∀ σ H,Pv σ H->c σ H λ b H1=>if b=true then tb { D with nx:=λ Ē H'=>Pv Ē H'/\μ Ē H' < μ σ H,ct:=λ Ē H'=>Pv Ē H'/\μ Ē H' < μ σ H,bk:=D.nx } σ H1 else D.nx σ H1)
  (mono:∀ σ H Q Q',(∀ b H1,Q b H1->Q' b H1)->c σ H Q->c σ H Q'):sr c tb D σ H:=by
 refine⟨λ m σ H=>m = μ σ H/\Pv σ H,⟨_,rfl,h0⟩,?_⟩;rintro m σ H ⟨rfl,p⟩;refine mono σ H _ _ (λ b H1 q=>?_) (hs σ H p);cases b with
 | true=>exact⟨_,λ Ē H' ⟨p',l⟩=>⟨_,l,rfl,p'⟩,q⟩
 | false=>exact q
abbrev R2:=V->V->Hp->VK->Prop
def ij (X:Cx)(f:Value->Value->Sem Value)(r:R2):Prop :=
 ∀(Ã:List (Addr × Obj))(s:Shared)(σ:St)(H:Hp)(x y:V)(v u:Value)(Q:VK),Inv X Ã σ H s->RelV x v->RelV y u->r x y H Q ->
  wpAny (model X.prog X.w) X.A (f v u) (EP X Ã σ Q) X.xe s
def Jt (X:Cx)(f:Value->Sem Value)(r:V->Hp->VK->Prop):Prop :=
 ∀(Ã:List (Addr × Obj))(s:Shared)(σ:St)(H:Hp)(x:V)(v:Value)(Q:VK),Inv X Ã σ H s->RelV x v->r x H Q ->
  wpAny (model X.prog X.w) X.A (f v) (EP X Ã σ Q) X.xe s
def cP (X:Cx)(f:Value)(r:List V->Hp->VK->Prop):Prop :=
 ∀(Ã:List (Addr × Obj))(s:Shared)(σ:St)(H:Hp)(xs:List V)(us:List Value)(Q:VK),Inv X Ã σ H s->Vals xs us->r xs H Q ->
  wpAny (model X.prog X.w) X.A (call f us) (EP X Ã σ Q) X.xe s
def aS (r:R2)(ta tb:TE):TE:=λ σ H Q=>ta σ H λ x H1=>tb σ H1 λ y H2=>r x y H2 Q
def Hz (r:V->Hp->VK->Prop)(ta:TE):TE:=λ σ H Q=>ta σ H λ x H1=>r x H1 Q
def rI (C:Int->Int->Prop)(g:Int->Int->V):R2:=λ x y H Q=>∃ i j,x=.int i/\y=.int j/\C i j/\Q (g i j) H
def eO (g:Int->Int->V):R2:=λ x y H Q=>∃ i j,x=.int i/\y=.int j/\Q (g i j) H
def rU (g:Int->V):V->Hp->VK->Prop:=λ x H Q=>∃ i,x=.int i/\Q (g i) H
section
variable {X:Cx}{a b c:Expr}{ta tb tc:TE}{pos:Pos}
theorem Bm (ha:PE X a ta)(hb:PE X b tb){Ã:List (Addr × Obj)}{s:Shared}{σ:St}{H:Hp}{R:V->V->Hp->Prop}(I:Inv X Ã σ H s)
  (h:ta σ H λ x H1=>tb σ H1 λ y H2=>R x y H2){Q:cy}{f:Value->Value->Sem Value}
  (hf:∀ v u s2 x y H2,Inv X Ã σ H2 s2->RelV x v->RelV y u->R x y H2->wpAny (model X.prog X.w) X.A (f v u) Q X.xe s2) :
  wpAny (model X.prog X.w) X.A (eval a X.env) (λ v Ą=>wpAny (model X.prog X.w) X.A (eval b X.env) (λ u ő=>wpAny (model X.prog X.w) X.A (f v u) Q X.xe ő) X.xe Ą) X.xe s:=by
 refine aW (ha Ã s σ H _ I h) λ v s1 ⟨x,H1,I1,r1,q1⟩=>?_;refine aW (hb Ã s1 σ H1 _ I1 q1) λ u s2 ⟨y,H2,I2,r2,q2⟩=>?_;exact hf v u s2 x y H2 I2 r1 r2 q2
theorem aC {op:Operator}{r:R2}(ho:ij X (binaryOp op) r)(ha:PE X a ta)(hb:PE X b tb):PE X (.BinOp a op b pos) (aS r ta tb):=by
 intro Ã s σ H Q I h;exact wpAny_BinOp (Bm ha hb I h λ v u s2 x y H2 I2 rx ry q=>ho Ã s2 σ H2 x y v u Q I2 rx ry q)
theorem sK {op:UnaryOp}{r:V->Hp->VK->Prop}(ho:Jt X (unaryOp op) r)(ha:PE X a ta):PE X (.UnaryOp op a pos) (Hz r ta):=by
 intro Ã s σ H Q I h;exact UnaryOp_ (aW (ha Ã s σ H _ I h) λ v s1 ⟨x,H1,I1,r1,q1⟩=>ho Ã s1 σ H1 x v Q I1 r1 q1)
theorem DQ {f:Value->Value->Sem Value}{C:Int->Int->Prop}{g:Int->Int->Int}
  (rule:∀(i j:Int)(t u:Tok)(s:Shared)(Q:cy)(E:cy),C i j->Q (.int (g i j) s.toks) { s with toks:=s.toks+1 }->wpAny (model X.prog X.w) X.A (f (.int i t) (.int j u)) Q E s) :
  ij X f (rI C λ i j=>.int (g i j)):=by
 intro Ã s σ H x y v u Q I rx ry h;obtain⟨i,j,rfl,rfl,hc,q⟩:=h;obtain⟨t,rfl⟩:=rx;obtain⟨t',rfl⟩:=ry;exact rule i j t t' s _ _ hc ⟨.int (g i j),H,I.tok _,⟨_,rfl⟩,q⟩
theorem vJ {f:Value->Value->Sem Value}{g:Int->Int->Int}
  (rule:∀(i j:Int)(t u:Tok)(s:Shared)(Q:cy)(E:cy),Q (.int (g i j) s.toks) { s with toks:=s.toks+1 }->wpAny (model X.prog X.w) X.A (f (.int i t) (.int j u)) Q E s) :
  ij X f (eO λ i j=>.int (g i j)):=by
 intro Ã s σ H x y v u Q I rx ry h;obtain⟨i,j,rfl,rfl,q⟩:=h;obtain⟨t,rfl⟩:=rx;obtain⟨t',rfl⟩:=ry;exact rule i j t t' s _ _ ⟨.int (g i j),H,I.tok _,⟨_,rfl⟩,q⟩
theorem vE {f:Value->Value->Sem Value}{g:Int->Int->Bool}
  (rule:∀(i j:Int)(t u:Tok)(s:Shared)(Q:cy)(E:cy),Q (.bool (g i j)) s->wpAny (model X.prog X.w) X.A (f (.int i t) (.int j u)) Q E s) :
  ij X f (eO λ i j=>.bl (g i j)):=by
 intro Ã s σ H x y v u Q I rx ry h;obtain⟨i,j,rfl,rfl,q⟩:=h;obtain⟨t,rfl⟩:=rx;obtain⟨t',rfl⟩:=ry;exact rule i j t t' s _ _ ⟨.bl (g i j),H,I,rfl,q⟩
def jC (i j:Int):Prop:=0<j/\j<1073741824
def qE (i j:Int):Prop:=0<=j/\j<=1000000/\i.natAbs<2^64
def δ (i j:Int):Prop:=(-(2^64)<i/\i<2^64)\/(-(2^64)<j/\j<2^64)
theorem δ.ok {i j:Int}(h:δ i j):IntMulOk i j:=by
 rcases h with⟨h1,h2⟩ | ⟨h1,h2⟩
 ·exact .of_left (intBits_le_64 h1 h2)
 ·exact .of_right (intBits_le_64 h1 h2)
theorem oS (k:Nat):(0:Int)<=2^k:=by
 rw [two_pow_cast];exact Int.natCast_nonneg _
theorem cj:ij X (binaryOp .Add) (eO λ i j=>.int (i+j)):=vJ λ _ _ _ _ _ _ _ q=>add_int q
theorem gL:ij X (binaryOp .Sub) (eO λ i j=>.int (i-j)):=vJ λ _ _ _ _ _ _ _ q=>sub_int q
theorem f7:ij X (binaryOp .Mult) (rI δ λ i j=>.int (i*j)):=DQ λ _ _ _ _ _ _ _ hc q=>mul_int q hc.ok
theorem gr:ij X (binaryOp .FloorDiv) (rI jC λ i j=>.int (i/j)):=DQ λ i j _ _ _ _ _ hc q=>by
 have h1:(0:Int)<j:=hc.1;have h2:j<1073741824:=hc.2;exact floordiv_int am (by rw [Oo i am];exact q) (.inl (PyProof.noPylong_small am))
theorem fG:ij X (binaryOp .Mod) (rI (λ _ j=>0<j) λ i j=>.int (i%j)):=DQ λ i j _ _ _ _ _ hc q=>by
 have h1:(0:Int)<j:=hc;exact mod_int' am (by rw [Int.fmod_eq_emod_of_nonneg i am];exact q)
theorem ua:ij X (binaryOp .Pow) (rI qE λ i j=>.int (i^j.toNat)):=DQ λ _ _ _ _ _ _ _ hc q=>pow_int_small hc.1 hc.2.1 hc.2.2 q
theorem lg:ij X (binaryOp .LShift) (rI qE λ i j=>.int (i*2^j.toNat)):=DQ λ _ _ _ _ _ _ _ hc q=>lshift_int_small hc.1 hc.2.1 hc.2.2 q
theorem Bg:ij X (binaryOp .RShift) (rI (λ _ j=>0<=j) λ i j=>.int (i/2^j.toNat)):=DQ λ i j _ _ _ _ _ hc q =>
 rshift_int hc (by rw [Oo i (oS _)];exact q)
theorem Bu:ij X (binaryOp .BitAnd) (eO λ i j=>.int (Builtin.bitAnd i j)):=vJ λ _ _ _ _ _ _ _ q=>and_int q
theorem yX:ij X (binaryOp .BitXor) (eO λ i j=>.int (Builtin.bitXor i j)):=vJ λ _ _ _ _ _ _ _ q=>xor_int q
theorem KS {f:Value->Sem Value}{g:Int->Int}
  (rule:∀(i:Int)(t:Tok)(s:Shared)(Q:cy)(E:cy),Q (.int (g i) s.toks) { s with toks:=s.toks+1 }->wpAny (model X.prog X.w) X.A (f (.int i t)) Q E s) :
  Jt X f (rU λ i=>.int (g i)):=by
 intro Ã s σ H x v Q I rx h;obtain⟨i,rfl,q⟩:=h;obtain⟨t,rfl⟩:=rx;exact rule i t s _ _ ⟨.int (g i),H,I.tok _,⟨_,rfl⟩,q⟩
theorem pG:Jt X (unaryOp .USub) (rU λ i=>.int (-i)):=KS λ _ _ _ _ _ q=>neg_int q
end
def E7:V->V->Bool
 | .ù,.ù=>true | .ù,.int _=>true | .int _,.ù=>true | .ù,.bl _=>true | .bl _,.ù=>true | .ù,.str _=>true | .str _,.ù=>true
 | .int _,.int _=>true | .bl _,.bl _=>true | .str _,.str _=>true | .Od _,.Od _=>true
 | .int _,.str _=>true | .str _,.int _=>true | .bl _,.str _=>true | .str _,.bl _=>true
 | _,_=>false
def rW:R2:=λ x y H Q=>E7 x y=true/\Q (.bl (decide (x=y))) H
def Dc:R2:=λ x y H Q=>E7 x y=true/\Q (.bl (!decide (x=y))) H
theorem qv {i j:Int}:decide (V.int i=V.int j)=(i==j):=by
 rw [r_];simp
theorem uE {i j:Bool}:decide (V.bl i=V.bl j)=(i==j):=by
 rw [r_];simp
theorem p8 {i j:Str}:decide (V.str i=V.str j)=(i==j):=by
 rw [r_];simp
theorem pZ {i j:Array UInt8}:decide (V.Od i=V.Od j)=(i.toList==j.toList):=by
 rw [r_];cases i;cases j;simp
section
variable {X:Cx}{a b c:Expr}{ta tb tc:TE}{pos:Pos}
theorem aV {Ã:List (Addr × Obj)}{σ:St}{H:Hp}{s:Shared}{Q:VK}{k k':Bool}(I:Inv X Ã σ H s)(q:Q (.bl k) H)(e:k=k'):EP X Ã σ Q (.bool k') s:=by
 subst e;exact⟨.bl k,H,I,rfl,q⟩
theorem cZ:ij X (compareOp .Eq) rW:=by
 intro Ã s σ H x y v u Q I rx ry h;obtain⟨hs,q⟩:=h;cases x with
 | ù =>
  cases rx;cases y with
  | ù=>cases ry;exact PySem.EqNone.eq_none_none (aV I q (by simp))
  | bl j=>cases ry;exact PySem.EqNone.eq_none_bool (aV I q (by simp))
  | int j=>obtain⟨t',rfl⟩:=ry;exact PySem.EqNone.eq_none_int (aV I q (by simp))
  | str j=>obtain⟨t',rfl⟩:=ry;exact PySem.EqNone.eq_none_str (aV I q (by simp))
  | _=>exact absurd (show false=true from hs) Ó
 | bl i =>
  cases rx;cases y with
  | ù=>cases ry;exact PySem.EqNone.eq_bool_none (aV I q (by simp))
  | bl j=>cases ry;exact eq_bool (aV I q uE)
  | str j=>obtain⟨t',rfl⟩:=ry;exact PySem.EqMixed.eq_bool_str (aV I q (by simp))
  | _=>exact absurd (show false=true from hs) Ó
 | int i =>
  obtain⟨t,rfl⟩:=rx;cases y with
  | ù=>cases ry;exact PySem.EqNone.eq_int_none (aV I q (by simp))
  | int j=>obtain⟨t',rfl⟩:=ry;exact eq_int (aV I q qv)
  | str j=>obtain⟨t',rfl⟩:=ry;exact PySem.EqMixed.eq_int_str (aV I q (by simp))
  | _=>exact absurd (show false=true from hs) Ó
 | str i =>
  obtain⟨t,rfl⟩:=rx;cases y with
  | ù=>cases ry;exact PySem.EqNone.eq_str_none (aV I q (by simp))
  | bl j=>cases ry;exact PySem.EqMixed.eq_str_bool (aV I q (by simp))
  | int j=>obtain⟨t',rfl⟩:=ry;exact PySem.EqMixed.eq_str_int (aV I q (by simp))
  | str j=>obtain⟨t',rfl⟩:=ry;exact eq_str (aV I q p8)
  | _=>exact absurd (show false=true from hs) Ó
 | Od i =>
  obtain⟨t,rfl⟩:=rx;cases y with
  | Od j=>obtain⟨t',rfl⟩:=ry;exact PySem.W.eq_bytes (aV I q pZ)
  | _=>exact absurd (show false=true from hs) Ó
 | _=>cases y <;> exact absurd (show false=true from hs) Ó
theorem gC:ij X (compareOp .NotEq) Dc:=by
 intro Ã s σ H x y v u Q I rx ry h;obtain⟨hs,q⟩:=h;cases x with
 | ù =>
  cases rx;cases y with
  | ù=>cases ry;exact PySem.EqNone.ne_none_none (aV I q (by simp))
  | bl j=>cases ry;exact PySem.EqNone.ne_none_bool (aV I q (by simp))
  | int j=>obtain⟨t',rfl⟩:=ry;exact PySem.EqNone.ne_none_int (aV I q (by simp))
  | str j=>obtain⟨t',rfl⟩:=ry;exact PySem.EqNone.ne_none_str (aV I q (by simp))
  | _=>exact absurd (show false=true from hs) Ó
 | bl i =>
  cases rx;cases y with
  | ù=>cases ry;exact PySem.EqNone.ne_bool_none (aV I q (by simp))
  | bl j=>cases ry;exact ne_bool (aV I q (Ğ not uE))
  | str j=>obtain⟨t',rfl⟩:=ry;exact PySem.EqMixed.ne_bool_str (aV I q (by simp))
  | _=>exact absurd (show false=true from hs) Ó
 | int i =>
  obtain⟨t,rfl⟩:=rx;cases y with
  | ù=>cases ry;exact PySem.EqNone.ne_int_none (aV I q (by simp))
  | int j=>obtain⟨t',rfl⟩:=ry;exact ne_int (aV I q (Ğ not qv))
  | str j=>obtain⟨t',rfl⟩:=ry;exact PySem.EqMixed.ne_int_str (aV I q (by simp))
  | _=>exact absurd (show false=true from hs) Ó
 | str i =>
  obtain⟨t,rfl⟩:=rx;cases y with
  | ù=>cases ry;exact PySem.EqNone.ne_str_none (aV I q (by simp))
  | bl j=>cases ry;exact PySem.EqMixed.ne_str_bool (aV I q (by simp))
  | int j=>obtain⟨t',rfl⟩:=ry;exact PySem.EqMixed.ne_str_int (aV I q (by simp))
  | str j=>obtain⟨t',rfl⟩:=ry;exact ne_str (aV I q (Ğ not p8))
  | _=>exact absurd (show false=true from hs) Ó
 | Od i =>
  obtain⟨t,rfl⟩:=rx;cases y with
  | Od j=>obtain⟨t',rfl⟩:=ry;exact PySem.W.ne_bytes (aV I q (Ğ not pZ))
  | _=>exact absurd (show false=true from hs) Ó
 | _=>cases y <;> exact absurd (show false=true from hs) Ó
theorem uQ:ij X (compareOp .Lt) (eO λ i j=>.bl (decide (i<j))):=vE λ _ _ _ _ _ _ _ q=>lt_int q
theorem yA:ij X (compareOp .LtE) (eO λ i j=>.bl (decide (i<=j))):=vE λ _ _ _ _ _ _ _ q=>le_int q
theorem iS:ij X (compareOp .Gt) (eO λ i j=>.bl (decide (j<i))):=vE λ _ _ _ _ _ _ _ q=>gt_int q
theorem xX:ij X (compareOp .GtE) (eO λ i j=>.bl (decide (j<=i))):=vE λ _ _ _ _ _ _ _ q=>ge_int q
theorem pO:ij X (compareOp .Is) (λ x y H Q=>y=.ù/\Q (.bl (decide (x=.ù))) H):=by
 intro Ã s σ H x y v u Q I rx ry h;obtain⟨rfl,q⟩:=h;cases ry;refine is_none_gen (aV I q ?_);cases x <;> first
  | (cases rx;rfl)
  | (obtain⟨t,rfl⟩:=rx;rfl)
theorem lp:ij X (compareOp .IsNot) (λ x y H Q=>y=.ù/\Q (.bl (!decide (x=.ù))) H):=by
 intro Ã s σ H x y v u Q I rx ry h;obtain⟨rfl,q⟩:=h;cases ry;refine isnot_none_gen (aV I q ?_);cases x <;> first
  | (cases rx;rfl)
  | (obtain⟨t,rfl⟩:=rx;rfl)
theorem az (b:Expr){op:CmpOp}(h:op ≠ .In:=by decide)(h2:op ≠ .NotIn:=by decide):behindInMarks op b=false:=by
 have e1:(op==CmpOp.In)=false:=by cases op <;> first | rfl | exact absurd rfl h
 have e2:(op==CmpOp.NotIn)=false:=by cases op <;> first | rfl | exact absurd rfl h2
 cases b <;> simp [behindInMarks,e1,e2]
theorem c8 {op:CmpOp}{r:R2}(ho:ij X (compareOp op) r)(ha:PE X a ta)(hb:PE X b tb)(hm:behindInMarks op b=false):PE X (.Compare a [op] [b] pos) (aS r ta tb):=by
 intro Ã s σ H Q I h;exact wpAny_Compare1 (Bm ha hb I h λ v u s2 x y H2 I2 rx ry q=>ho Ã s2 σ H2 x y v u Q I2 rx ry q) hm
def Gy (t:TE):TT:=λ σ H Q=>t σ H λ x H'=>∃ k,x=.bl k/\Q k H'
theorem aA {op:CmpOp}{r:R2}(ho:ij X (compareOp op) r)(ha:PE X a ta)(hb:PE X b tb)(hm:behindInMarks op b=false):PT X (.Compare a [op] [b] pos) (Gy (aS r ta tb)):=by
 intro Ã s σ H Q I h;refine wpAny_isTrue_Compare1 (aW (ha Ã s σ H _ I h) λ v s1 ⟨x,H1,I1,r1,q1⟩=>aW (hb Ã s1 σ H1 _ I1 q1) λ u s2 ⟨y,H2,I2,r2,q2⟩ =>
  aW (ho Ã s2 σ H2 x y v u _ I2 r1 r2 q2) λ c s3 ⟨z,H3,I3,r3,k,e,q3⟩=>?_) hm
 subst e;cases r3;exact ĺ ⟨H3,I3,q3⟩
theorem jt:(sizeLine:Nat)<2^63:=by rw [Ö];decide
theorem eG {x:V}{us:List Value}(r:Vals [x] us):∃ u,us=[u]/\RelV x u:=by
 cases r with
 | cons r1 r2=>cases r2;exact⟨_,rfl,r1⟩
theorem hZ {x y:V}{us:List Value}(r:Vals [x,y] us):∃ u w',us=[u,w']/\RelV x u/\RelV y w':=by
 cases r with
 | cons r1 r2 =>
  cases r2 with
  | cons r3 r4=>cases r4;exact⟨_,_,rfl,r1,r3⟩
theorem qy (hc:X.calm=true):cP X (.builtin "max") (λ xs H Q=>∃ i j,xs=[.int i,.int j]/\Q (.int (if j>i then j else i)) H):=by
 intro Ã s σ H xs us Q I r h;obtain⟨i,j,rfl,q⟩:=h;obtain⟨u,w',rfl,⟨t,rfl⟩,⟨t',rfl⟩⟩:=hZ r;refine max_two_ints (I.ok.hd hc) λ h' tk k=>⟨_,H,I.kept k,?_,q⟩;by_cases hj:j>i
 ·rw [à hj,à hj];exact⟨_,rfl⟩
 ·rw [Ø hj,Ø hj];exact⟨_,rfl⟩
theorem qO (hc:X.calm=true):cP X (.builtin "min") (λ xs H Q=>∃ i j,xs=[.int i,.int j]/\Q (.int (if j<i then j else i)) H):=by
 intro Ã s σ H xs us Q I r h;obtain⟨i,j,rfl,q⟩:=h;obtain⟨u,w',rfl,⟨t,rfl⟩,⟨t',rfl⟩⟩:=hZ r;refine min_two_ints (I.ok.hd hc) λ h' tk k=>⟨_,H,I.kept k,?_,q⟩;by_cases hj:j<i
 ·rw [à hj,à hj];exact⟨_,rfl⟩
 ·rw [Ø hj,Ø hj];exact⟨_,rfl⟩
end
structure Nr (h:Heap)(x dx C:Addr)(mA:bv):Prop where
 obj:h.get? x=some (PySem.W.instObj C dx)
 ns:h.Ns1 dx mA
 ne:dx≠x
theorem iG {h:Heap}{dx:Addr}{mA:bv}(n:h.Ns1 dx mA):∃ od,h.get? dx=some od/\∀ name,PySem.W.lookIn name od=some (mA name):=by
 obtain⟨o,es,ep,ho,hd,hk,_,hm⟩:=n;refine⟨o,ho,λ name=>?_⟩;have e:=hm name;unfold nsFind findBy at e;rw [<- Array.find?_toList] at e;unfold PySem.W.lookIn;rw [hd]
 dsimp only
 split
 ·rename_i y q
  rw [q] at e;exact Ğ some e
 ·rename_i q
  rw [q] at e;have a:es.toList.any (·.refKey)=false:=by
   rw [List.any_eq_false];intro y hy;obtain⟨z,t,VL⟩:=hk y (Array.mem_toList_iff.mp hy);simp [DictEntry.refKey,VL]
  have a':¬ es.toList.any (·.refKey)=true:=by rw [a];exact Ó
  rw [Ø a'];exact Ğ some e
theorem Nr.look {h:Heap}{x dx C:Addr}{mA:bv}(I:Nr h x dx C mA):∃ od,PySem.W.InstAt h x (PySem.W.instObj C dx) C (some od)/\∀ name,PySem.W.lookIn name od=some (mA name) :=
 let ⟨od,ho,hl⟩:=iG I.ns
 ⟨od,⟨I.obj,rfl,rfl,ho⟩,hl⟩
section
variable {prog:Program}{w:World}{A:Around}{E:cy}{s:Shared}{K:PySem.W.Frag}{x dx C f:Addr}{mA:bv}{name:Str}{v:Value}
theorem wk {expr:Bool}{Q:cy}(X:K.In s.heap)(I:Nr s.heap x dx C mA)(hg:PySem.W.plainGet K C name=true)(hh:PySem.W.hasDictIn K C=true)
  (ha:PySem.W.findIn K (.ref C) name=some none)(hv:mA name=some v)(Qm:PySem.W.handedIn v=true)(h:Q v { s with toks:=s.toks+1 }) :
  wpAny (model prog w) A (getAttr (.ref x) name expr) Q E s:=by
 obtain⟨od,J,hl⟩:=I.look;exact PySem.W.get_value X J (LN hg).1 (PySem.W.findObj_own hh ha rfl (by rw [hl,hv])) Qm h
theorem uR {pl:Sem Bool}{Q:Value × List Value->Shared->Prop}(X:K.In s.heap)(I:Nr s.heap x dx C mA)(hg:PySem.W.plainGet K C name=true)
  (hf:PySem.W.findIn K (.ref C) name=some (some (.ref f)))(ht:PySem.W.isFn K (.ref f)=true)(hv:mA name=none)(h:Q (.ref f,[.ref x]) s) :
  wpAny (model prog w) A (getMethod (.ref x) name pl) Q E s:=by
 obtain⟨od,J,hl⟩:=I.look;exact PySem.W.method_fn X J (LN hg).1 (LN hg).2 hf (ā.mp ht) (by show(PySem.W.lookIn name od).map (·.isSome)=some false;rw [hl,hv];rfl) h
theorem xI {ns:List Str}{Q:Unit->Shared->Prop}(X:K.In s.heap)(I:Nr s.heap x dx C mA)
  (hs:PySem.W.findIn K (.ref C) "__setattr__" = some (some (.builtin "object.__setattr__")))(hp:PySem.W.plainOver K C=true)(ht:PySem.W.takerIn K C name=some none)(hh:PySem.W.hasDictIn K C=true)
  (hw:PySem.Within mA ns)(hsz:ns.length<=sizeLine)
  (h:∀ h',Nr h' x dx C (λ y=>if y=name then some v else mA y)->Heap.SameBut dx s.heap h'->Q () { s with heap:=h',toks:=s.toks+2 }) :
  wpAny (model prog w) A (setAttr (.ref x) name v) Q E s:=by
 obtain⟨od,J,hl⟩:=I.look;refine PySem.W.set_plain X J hs (PySem.W.osa_open (s:={ s with toks:=s.toks+1 }) (r:=none) X J hp ht λ b=>?_)
 obtain⟨cd,hc,VY⟩:=PySem.W.any_some hh;have hx:s.heap.get? x=some ⟨.ref C,some dx,.plain,#[]⟩:=I.obj;refine À (Æ (À (À (wpAny_loadPart hx (À (PySem.W.Looks.here (s:={ s with toks:=s.toks+1 }) (PySem.W.looks_clsIn X hc) ?_))))))
 rw [VY];refine Æ (a:=some dx) (À (Æ (À ?_)));refine wpAny_nsSet1 (s:={ s with toks:=s.toks+1 }) I.ns λ h' TC W8=>?_
 obtain⟨oD,esD,epD,QT,SJ,O2⟩:=TC.count (PySem.Within.cons name v hw);refine À (wpAny_lookBehind QT (by rw [SJ];exact pastItsLine_dict (é O2 (by rw [ú];omega))) ?_)
 exact Æ (h _ ⟨(W8.2 _ (Ne.symm I.ne)).trans I.obj,TC,I.ne⟩ W8)
theorem uy {R:Result->Shared->Prop}{vs:List Value}{kw:List (Str × Value)}(X:K.In s.heap)(hm:PySem.W.makesIn K C=true)
  (hi:PySem.W.findIn K (.ref C) "__init__" = some (some (.ref f)))(hf:PySem.W.typeIn K (.ref f)=some (.type "function"))
  (h:codeAny (model prog w) (A.under (.builtin "type.__call__" ⟨.ref C::vs,kw⟩)) (.call (.ref f) ⟨.ref (s.heap.objs.size+1)::vs,kw⟩) (PySem.W.InitBack (s.heap.objs.size+1) R)
   { s with heap:=(s.heap.push PySem.W.emptyDict).push (PySem.W.instObj C s.heap.objs.size) }) :
  codeAny (model prog w) A (.call (.ref C) ⟨vs,kw⟩) R s:=by
 obtain⟨hh,g,d,t,os⟩:=s;exact PySem.W.make_core (PySem.W.makes_of X hm) (PySem.W.looks_findIn X hi) (λ self=>PySem.W.bind_fn X self hf) (.inl rfl) h
end
def bK (f:Str)(v:V):List (Str × V)->List (Str × V)
 | []=>[(f,v)]
 | (g,x)::r=>if g=f then(g,v)::r else(g,x)::bK f v r
theorem gj (f g:Str)(v:V):∀ fs:List (Str × V),(bK f v fs).lookup g=if g=f then some v else fs.lookup g
 | []=>by
  show List.lookup g [(f,v)]=_;by_cases h:g=f
  ·have hb:(g==f)=true:=ā.mpr h;simp only [List.lookup,hb,if_pos h]
  ·have hb:(g==f)=false:=Ù.mpr h;simp only [List.lookup,hb,if_neg h]
 | (k,x)::r=>by
  have ih:=gj f g v r;rw [show bK f v ((k,x)::r)=(if k=f then(k,v)::r else(k,x)::bK f v r) from rfl]
  by_cases hk:k=f
  ·rw [à hk];by_cases h:g=k
   ·have hb:(g==k)=true:=ā.mpr h;simp only [List.lookup,hb,if_pos (h.trans hk)]
   ·have hb:(g==k)=false:=Ù.mpr h;simp only [List.lookup,hb,if_neg (λ e:g=f=>h (e.trans hk.symm))]
  ·rw [Ø hk];by_cases h:g=k
   ·have hb:(g==k)=true:=ā.mpr h;simp only [List.lookup,hb,if_neg (λ e:g=f=>hk (h.symm.trans e))]
   ·have hb:(g==k)=false:=Ù.mpr h;simp only [List.lookup,hb];exact ih
theorem ir (f:Str)(v:V):∀ fs:List (Str × V),f∈(bK f v fs).map (·.1)/\∀ g,g∈fs.map (·.1)->g∈(bK f v fs).map (·.1)
 | []=>⟨by simp [bK],λ g h=>by simp at h⟩
 | (k,x)::r=>by
  obtain⟨i1,i2⟩:=ir f v r;rw [show bK f v ((k,x)::r)=(if k=f then(k,v)::r else(k,x)::bK f v r) from rfl]
  by_cases hk:k=f
  ·rw [à hk];subst hk;exact⟨by simp,λ g h=>by simpa using h⟩
  ·rw [Ø hk];refine⟨?_,λ g h=>?_⟩
   ·rw [ô];exact ã _ i1
   ·rw [ô] at h ⊢;rcases ç.mp h with e | e
    ·exact ç.mpr (.inl e)
    ·exact ã _ (i2 g e)
theorem iR (f:Str)(v:V):∀ fs:List (Str × V),(bK f v fs).length<=fs.length+1
 | []=>by simp [bK]
 | (k,x)::r=>by
  have ih:=iR f v r;rw [show bK f v ((k,x)::r)=(if k=f then(k,v)::r else(k,x)::bK f v r) from rfl]
  by_cases hk:k=f
  ·rw [à hk,ú,ú];omega
  ·rw [Ø hk,ú,ú];omega
theorem Υ.some_of {v:V}{o:Option Value}(r:Υ (some v) o):∃ u,o=some u/\RelV v u:=by
 cases o with
 | none=>exact(show False from r).elim
 | some u=>exact⟨u,rfl,r⟩
theorem Υ.none_of {o:Option Value}(r:Υ none o):o=none:=by
 cases o with
 | none=>rfl
 | some u=>exact(show False from r).elim
theorem kq {v:V}{u:Value}(r:RelV v u):PySem.W.handedIn u=true:=by
 cases v with
 | ù=>cases (show u=Value.none from r);rfl
 | bl b=>cases (show u=Value.bool b from r);rfl
 | int i=>obtain⟨t,e⟩:=(show ∃ t,u=Value.int i t from r);cases e;rfl
 | str x=>obtain⟨t,e⟩:=(show ∃ t,u=Value.str x t from r);cases e;rfl
 | Od b=>obtain⟨t,e⟩:=(show ∃ t,u=Value.bytes b t from r);cases e;rfl
 | Pn b=>obtain⟨t,e⟩:=(show ∃ t,u=Value.float b t from r);cases e;rfl
 | ref a=>cases (show u=Value.ref a from r);rfl
 | ty n=>cases (show u=Value.type n from r);rfl
section
variable {P:Program}{w:World}{H H':Hp}{h h':Heap}{a C dx:Addr}{fs fs':List (Str × V)}
theorem gZ (Ć:Θ P w H h)(e:H a=some (.ins C dx fs)):∃ mA,Nr h a dx C mA/\(∀ f,Υ (fs.lookup f) (mA f))/\PySem.Within mA (fs.map (·.1))/\fs.length<=1000/\H dx=some (.own a):=by
 obtain⟨d,z,ne,ob,mA,n,r,q⟩:=(show Ā P w H h a (.ins C dx fs) from Ć a _ e);exact⟨mA,⟨ob,n,ne⟩,r,q,z,d⟩
end
structure N1 (K:PySem.W.Frag)(C:Addr):Prop where
 pg:PySem.W.plainGet K C Str.empty=true
 hd:PySem.W.hasDictIn K C=true
 po:PySem.W.plainOver K C=true
 sa:PySem.W.findIn K (.ref C) "__setattr__" = some (some (.builtin "object.__setattr__"))
theorem N1.get {K:PySem.W.Frag}{C:Addr}(c:N1 K C)(f:Str):PySem.W.plainGet K C f=true:=c.pg
def ŵ (K:PySem.W.Frag)(C:Addr)(f:Str):Prop:=PySem.W.findIn K (.ref C) f=some none
theorem ŵ.RD {K:PySem.W.Frag}{C:Addr}{f:Str}(n:ŵ K C f):PySem.W.takerIn K C f=some none:=by
 unfold PySem.W.takerIn;rw [show PySem.W.findIn K (.ref C) f=some none from n];rfl
structure Fp (K:PySem.W.Frag)(C:Addr)(m:Str)(f:Addr):Prop where
 at_:PySem.W.findIn K (.ref C) m=some (some (.ref f))
 fn:PySem.W.isFn K (.ref f)=true
 kp:PySem.W.keepIn K (.ref f)=true
section
variable {X:Cx}{Ã:List (Addr × Obj)}{σ:St}{H:Hp}{s:Shared}{a C dx:Addr}{fs:List (Str × V)}{f:Str}{v:V}{A:Around}{E:cy}
theorem oI {b:Bool}{Q:cy}(I:Inv X Ã σ H s)(e:H a=some (.ins C dx fs))(c:N1 X.K C)(n:ŵ X.K C f)(l:fs.lookup f=some v)
  (h:∀ u s',Inv X Ã σ H s'->RelV v u->Q u s'):wpAny (model X.prog X.w) A (getAttr (.ref a) f b) Q E s:=by
 obtain⟨mA,O,r,_,_,_⟩:=gZ I.Ć e;obtain⟨u,hu,ru⟩:=Υ.some_of (v:=v) (o:=mA f) (by rw [<- l];exact r f)
 exact wk I.Ń O (c.get f) c.hd n hu (kq ru) (h u _ (I.tok _) ru)
theorem jD {m:Str}{g:Addr}{pl:Sem Bool}{Q:Value × List Value->Shared->Prop}(I:Inv X Ã σ H s)(e:H a=some (.ins C dx fs))(c:N1 X.K C)(k:Fp X.K C m g)(l:fs.lookup m=none)
  (h:Q (.ref g,[.ref a]) s):wpAny (model X.prog X.w) A (getMethod (.ref a) m pl) Q E s:=by
 obtain⟨mA,O,r,_,_,_⟩:=gZ I.Ć e;have hn:mA m=none:=Υ.none_of (by rw [<- l];exact r m)
 exact uR I.Ń O (c.get m) k.at_ k.fn hn h
theorem pH {y:V}{u:Value}{Q:Unit->Shared->Prop}(I:Inv X Ã σ H s)(e:H a=some (.ins C dx fs))(c:N1 X.K C)(n:ŵ X.K C f)(hl:fs.length<1000)(ry:RelV y u)
  (h:∀ s',Inv X Ã σ (af H a (.ins C dx (bK f y fs))) s'->Q () s'):wpAny (model X.prog X.w) A (setAttr (.ref a) f u) Q E s:=by
 obtain⟨mA,O,r,wi,_,ho⟩:=gZ I.Ć e;have hz:(fs.map (·.1)).length<=sizeLine:=by rw [Ä,Ö];omega
 refine xI I.Ń O c.sa c.po n.RD c.hd wi hz λ h' O' sb=>h _ ?_;have hd:∃ o,h'.get? dx=some o:=let ⟨o,_,_,e',_⟩:=O'.ns;⟨o,e'⟩
 refine I.write (x:=a) (e:=dx) (by rw [e];exact True.intro) (.inr ho) (λ b q hb z=>(sb.2 b hb).trans z) hd ?_
 refine⟨by rw [au O.ne];exact ho,?_,O.ne,O'.obj,_,O'.ns,λ g=>?_,λ g hg=>?_⟩
 ·have:=iR f y fs;omega
 ·show Υ ((bK f y fs).lookup g) (if g=f then some u else mA g)
  rw [gj];by_cases q:g=f
  ·rw [à q,à q];exact ry
  ·rw [Ø q,Ø q];exact r g
 ·by_cases q:g=f
  ·rw [q];exact(ir f y fs).1
  ·refine(ir f y fs).2 g (wi g λ z=>hg ?_);show(if g=f then some u else mA g)=none
   rw [Ø q];exact z
theorem Inv.made (I:Inv X Ã σ H s):Inv X Ã σ (af (af H s.heap.objs.size (.own (s.heap.objs.size+1))) (s.heap.objs.size+1) (.ins C s.heap.objs.size []))
  { s with heap:=(s.heap.push PySem.W.emptyDict).push (PySem.W.instObj C s.heap.objs.size) }:=by
 have e1:(s.heap.push PySem.W.emptyDict).get? s.heap.objs.size=some PySem.W.emptyDict:=Í s.heap rfl;have e2:((s.heap.push PySem.W.emptyDict).push (PySem.W.instObj C s.heap.objs.size)).get? (s.heap.objs.size+1)=some (PySem.W.instObj C s.heap.objs.size):=by
  have:=Í (s.heap.push PySem.W.emptyDict) (o:=PySem.W.instObj C s.heap.objs.size) rfl
  rwa [ë] at this
 have e3:(s.heap.push PySem.W.emptyDict).Ns s.heap.objs.size (λ _=>none):=⟨PySem.W.emptyDict,#[],_,e1,rfl,(λ e he=>absurd he (by simp)),λ _=>rfl⟩
 have I1:=I.laid (a:=s.heap.objs.size) (o:=.own (s.heap.objs.size+1)) (h':=s.heap.push PySem.W.emptyDict) (t':=s.toks) (λ b u q=>Á _ q) (Ç _) ⟨_,e1⟩;refine I1.laid (a:=s.heap.objs.size+1) (o:=.ins C s.heap.objs.size []) (t':=s.toks) (λ b u q=>Á _ q) (i_ (ë _ _)) ?_;have ne:s.heap.objs.size≠s.heap.objs.size+1:=Î (ψ _);refine⟨by rw [au ne,aR],ŏ _,ne,e2,λ _=>none,(Heap.Ns1.of_empty e3).at λ o q=>Á _ q,λ _=>True.intro,λ y hy=>absurd rfl hy⟩
theorem p6 {prog:Program}{w:World}{env:Env}{e:Expr}{f:Str}{pos:Pos}{s:Shared}{Q:cy}(hb:attributeBase e f env (eval e env)=eval e env)
  (h:wpAny (model prog w) A (eval e env) (λ o Ą=>wpAny (model prog w) A (getAttr o f true) Q E Ą) E s):wpAny (model prog w) A (eval (.Attribute e f pos) env) Q E s :=
 Attribute_any_ h (by rw [arm_eval_Attribute,hb])
end
def EI (K:PySem.W.Frag)(ta:TE)(f:Str):TE:=λ σ H Q=>ta σ H λ x H1=>∃ a C dx fs v,x=.ref a/\H1 a=some (.ins C dx fs)/\N1 K C/\ŵ K C f/\fs.lookup f=some v/\Q v H1
def EL (K:PySem.W.Frag)(ta tv:TE)(f:Str):TS:=λ D σ H=>tv σ H λ y H1=>ta σ H1 λ x H2=>∃ a C dx fs,x=.ref a/\H2 a=some (.ins C dx fs)/\N1 K C/\ŵ K C f/\fs.length<1000 /\
 D.nx σ (af H2 a (.ins C dx (bK f y fs)))
section
variable {X:Cx}{o e value:Expr}{f:Str}{pos pos' QG:Pos}{ta tv:TE}
theorem vj (he:PE X e ta)(hb:attributeBase e f X.env (eval e X.env)=eval e X.env):PE X (.Attribute e f pos) (EI X.K ta f):=by
 intro Ã s σ H Q I h;refine p6 hb (aW (he Ã s σ H _ I h) λ u s1 ⟨x,H1,I1,rx,a,C,dx,fs,v,ex,ea,c,n,l,q⟩=>?_);subst ex;obtain rfl:u=Value.ref a:=rx;exact oI I1 ea c n l λ u' s2 I2 ru=>⟨v,H1,I2,ru,q⟩
theorem dq (ha:PE X o ta)(hv:PE X value tv)(hs:swapsWith value (some (.Attribute o f pos')) pos.line X.env=pure false):PS X (.Assign [.Attribute o f pos'] value pos) (EL X.K ta tv f):=by
 intro Ã s σ H D I h;refine Pe (aW (hv Ã s σ H _ I h) λ u s1 ⟨y,H1,I1,ry,q⟩=>aW (ha Ã s1 σ H1 _ I1 q) λ ov s2 ⟨x,H2,I2,rx,a,C,dx,fs,ex,ea,c,n,l,q2⟩=>?_) hs;subst ex;obtain rfl:ov=Value.ref a:=rx;exact pH I2 ea c n l ry λ s3 I3=>⟨σ,_,I3,q2⟩
end
section
variable {X:Cx}{Ã:List (Addr × Obj)}{σ:St}{H:Hp}{s:Shared}{A:Around}{E:cy}{Q:cy}{c:Value}{b:Bool}
inductive ņ (K:PySem.W.Frag)(H:Hp):V->Value->Prop where
 | ù:ņ K H .ù (.type "NoneType")
 | bl (x:Bool):ņ K H (.bl x) (.type "bool")
 | int (i:Int):ņ K H (.int i) (.type "int")
 | str (x:Str):ņ K H (.str x) (.type "str")
 | Pn (x:UInt64):ņ K H (.Pn x) (.type "float")
 | lst {a:Addr}{xs:List V}(e:H a=some (.lst xs)):ņ K H (.ref a) (.type "list")
 | MP {a:Addr}{o:Obj}{xs:List V}(e:H a=some (.MP o (.lst xs))):ņ K H (.ref a) (.type "list")
 | tup {a:Addr}{xs:List V}(e:H a=some (.tup xs)):ņ K H (.ref a) (.type "tuple")
 | dK {a:Addr}{kvs:List (Key × V)}(e:H a=some (.dK kvs)):ņ K H (.ref a) (.type "dict")
 | dT {a:Addr}{kvs:List (List Key × V)}(e:H a=some (.dT kvs)):ņ K H (.ref a) (.type "dict")
 | ins {a C dx:Addr}{fs:List (Str × V)}(e:H a=some (.ins C dx fs))(cl:N1 K C)(ha:PySem.W.findIn K (.ref C) "__class__" = some (some (.builtin "object.__class__")))
   (hn:PySem.W.specialIn K (.builtin "object.__class__") "__get__" = some (some (.builtin "getset_descriptor.__get__")))(MM:PySem.W.takesIn K (.builtin "object.__class__")=some true)
   (hm:PySem.W.mroIn K C (.type "object")=some true):ņ K H (.ref a) (.ref C)
theorem kE {x:V}{u t:Value}(I:Inv X Ã σ H s)(rx:RelV x u)(ty:ņ X.K H x t)(e:PySem.W.kitOne X.K t c=some b)(h:∀ tk,Q (.bool b) { s with toks:=tk }) :
  wpAny (model X.prog X.w) A (call (.builtin "isinstance") [u,c]) Q E s:=by
 cases ty with
 | ù=>cases (show u=Value.none from rx);exact Ď PySem.W.kitx_none I.Ń True.intro e (λ z=>nomatch z) h
 | bl y=>cases (show u=Value.bool y from rx);exact Ď PySem.W.kitx_bool I.Ń True.intro e (λ z=>nomatch z) h
 | int i=>obtain⟨t,q⟩:=(show ∃ t,u=Value.int i t from rx);cases q;exact Ď PySem.W.kitx_int I.Ń True.intro e (λ z=>nomatch z) h
 | str y=>obtain⟨t,q⟩:=(show ∃ t,u=Value.str y t from rx);cases q;exact Ď PySem.W.kitx_str I.Ń True.intro e (λ z=>nomatch z) h
 | Pn y=>obtain⟨t,q⟩:=(show ∃ t,u=Value.float y t from rx);cases q;exact Ď PySem.W.kitx_float I.Ń True.intro e (λ z=>nomatch z) h
 | @lst a xs ea =>
  cases (show u=Value.ref a from rx);obtain⟨_,_,n,_,h1⟩:=(show Ā X.prog X.w H s.heap a (.lst xs) from I.Ć a _ ea);exact Ď ζ I.Ń ⟨_,h1,rfl⟩ e (λ z=>nomatch z) h
 | @MP a ob xs ea =>
  cases (show u=Value.ref a from rx);obtain⟨_,_,_,n,_,h1⟩:=(show Ā X.prog X.w H s.heap a (.MP ob (.lst xs)) from I.Ć a _ ea);exact Ď ζ I.Ń ⟨_,h1,rfl⟩ e (λ z=>nomatch z) h
 | @tup a xs ea =>
  cases (show u=Value.ref a from rx);obtain⟨_,_,_,p⟩:=(show Ā X.prog X.w H s.heap a (.tup xs) from I.Ć a _ ea);obtain⟨o,h1,h2,_⟩:=p;exact Ď PySem.W.kitx_tuple I.Ń ⟨o,h1,h2⟩ e (λ z=>nomatch z) h
 | @dK a kvs ea =>
  cases (show u=Value.ref a from rx);obtain⟨_,_,vs,_,p⟩:=(show Ā X.prog X.w H s.heap a (.dK kvs) from I.Ć a _ ea);obtain⟨o,es,ep,h1,h2,_⟩:=p;exact Ď η I.Ń ⟨o,h1,h2.1⟩ e (λ z=>nomatch z) h
 | @dT a kvs ea =>
  cases (show u=Value.ref a from rx);obtain⟨_,_,xs,_,o,es,ep,h1,h2,_⟩:=(show Ā X.prog X.w H s.heap a (.dT kvs) from I.Ć a _ ea);exact Ď η I.Ń ⟨o,h1,h2.1⟩ e (λ z=>nomatch z) h
 | @ins a C dx fs ea cl ha hn MM hm =>
  cases (show u=Value.ref a from rx);obtain⟨mA,O,_⟩:=gZ I.Ć ea;obtain⟨od,J,_⟩:=O.look;exact Ď (PySem.W.kitx_own (cl.get _) cl.hd ha hn MM hm) I.Ń J e (λ z=>nomatch z) h
end
structure ö (k:Nat)(A:Around):Prop where
 hd:A.handled=none
 dp:A.depth+3*k+5<recursionLimit
 un:A.units+16*k+200<cLine
 gd:A.guards=some []
theorem ö.mono {j k:Nat}{A:Around}(r:ö k A)(h:j<=k):ö j A:=⟨r.hd,by have:=r.dp;omega,by have:=r.un;omega,r.gd⟩
theorem ö.deeper {k:Nat}{A:Around}(r:ö (k+1) A)(env:Env):ö k (A.deeper env) :=
 ⟨r.hd,by have:=r.dp;show A.depth+1+3*k+5<_;omega,by have:=r.un;show A.units+3+16*k+200<_;omega,r.gd⟩
theorem oH {A:Around}{C:Addr}{us:List Value}{kw:List (Str × Value)}:(A.under (.builtin "type.__call__" ⟨.ref C::us,kw⟩)).depth=A.depth+1:=by
 first | rfl | simp [Around.under,Code.weight,Code.isCreation,Code.isGuard,Code.isCaller,Code.frames,Code.isFrame,guardIds]
theorem oE {A:Around}{C:Addr}{us:List Value}{kw:List (Str × Value)}:(A.under (.builtin "type.__call__" ⟨.ref C::us,kw⟩)).units=A.units+1:=by
 first | rfl | simp [Around.under,Code.cUnits,Code.frames,Code.isFrame]
theorem ö.make {k:Nat}{A:Around}(r:ö (k+1) A)(C:Addr)(us:List Value)(kw:List (Str × Value)):ö k (A.under (.builtin "type.__call__" ⟨.ref C::us,kw⟩)) :=
 ⟨r.hd,by have:=r.dp;rw [oH];omega,by have:=r.un;rw [oE];omega,by have h:=r.gd;first | (simp only [Around.under];rw [h];rfl) | simp [Around.under,h,pushGuards,Code.guards,Code.isGuard,guardIds]⟩
theorem ö.depth {k:Nat}{A:Around}(r:ö k A):A.depth<recursionLimit:=by have:=r.dp;omega
theorem ö.units {k:Nat}{A:Around}(r:ö k A):A.units+64<cLine:=by have:=r.un;omega
theorem ö.QF {k:Nat}{A:Around}(r:ö k A):A.units<cLine:=by have:=r.un;omega
def aG:TA:=λ _ H Q=>Q [] H
def ag (ta:TE)(tr:TA):TA:=λ σ H Q=>ta σ H λ x H1=>tr σ H1 λ xs H2=>Q (x::xs) H2
section
variable {X:Cx}{e:Expr}{es:List Expr}{te:TE}{t:TA}{pos:Pos}
theorem aq:PA X [] aG:=λ _ _ _ _ H Q I h=>Op ⟨[],H,I,.nil,h⟩
theorem ac (ha:PE X e te)(hr:PA X es t)(hs:starEach (e::es) X.env=(false,eval e X.env)::starEach es X.env:=by rfl):PA X (e::es) (ag te t):=by
 intro pos Ã s σ H Q I h;rw [hs];show wpAny _ _ (spliced ((false,eval e X.env)::backTo pos (starEach es X.env))) _ _ s;refine Ŋ (aW (ha Ã s σ H _ I h) λ u s1 ⟨x,H1,I1,r1,q1⟩=>?_);exact aW (hr pos Ã s1 σ H1 _ I1 q1) λ us s2 ⟨xs,H2,I2,r2,q2⟩=>⟨x::xs,H2,I2,.cons r1 r2,q2⟩
def eF (t:TA):TE:=λ σ H Q=>t σ H λ xs H1=>xs.length<=sizeLine/\∀ p,H1 p=none->Q (.ref p) (af H1 p (.tup xs))
def aT (t:TA):TE:=λ σ H Q=>t σ H λ xs H1=>xs.length<=sizeLine/\∀ p,H1 p=none->Q (.ref p) (af H1 p (.lst xs))
theorem aU {x1}(h:PA X es t):PE X (.Tuple es x1 pos) (eF t):=by
 intro Ã s σ H Q I hq;refine wpAny_Tuple_spliced (aW (h pos Ã s σ H _ I hq) λ us s1 ⟨xs,H1,I1,r,z,q⟩=>⟨by rw [<- r.length];exact z,?_⟩)
 have hf:H1 s1.heap.objs.size=none:=I1.Ć.fresh (Ç _);refine⟨.ref s1.heap.objs.size,af H1 s1.heap.objs.size (.tup xs),I1.laid (t':=s1.toks) (λ b u e=>Á _ e) (Ç _) ?_,rfl,q _ hf⟩;exact⟨z,us,r,⟨_,Í _ rfl,rfl,_,rfl⟩⟩
theorem aY (h:PA X es t):PE X (.List es pos) (aT t):=by
 intro Ã s σ H Q I hq;refine wpAny_List_spliced (aW (h pos Ã s σ H _ I hq) λ us s1 ⟨xs,H1,I1,r,z,q⟩=>⟨by rw [<- r.length];exact z,?_⟩)
 have hf:H1 s1.heap.objs.size=none:=I1.Ć.fresh (Ç _);refine⟨.ref s1.heap.objs.size,af H1 s1.heap.objs.size (.lst xs),I1.laid (t':=s1.toks) (λ b u e=>Á _ e) (Ç _) ?_,rfl,q _ hf⟩;exact⟨z,us,0,r,Í _ rfl⟩
end
abbrev Sp:=List V->Hp->VK->XK->Prop
abbrev jv:=List Env->Hp->Shared->XK->Value->Shared->Prop
structure MG (P:Program)(w:World)(K:PySem.W.Frag)(mg:bv)(base:Heap)(A:Around)(outer:List Env)(s:Shared)(H:Hp):Prop where
 frames:A.frames=some outer
 mod:Mod K mg base
 bs:∀ b o,base.get? b=some o->s.heap.get? b=some o/\H b=none
 No:base.objs.size<=s.heap.objs.size
 γ:s.heap.FunFrames base outer
 O4:∀ b∈kD outer,H b=none
 Ć:Θ P w H s.heap
 bare:AllBare s.gens
def CE (outer:List Env)(P:Program)(w:World)(H:Hp)(s:Shared)(Q:VK)(u:Value)(s':Shared):Prop :=
 ∃ v H',s'.os=s.os/\AllBare s'.gens/\Un (kD outer) [] H H' s.heap s'.heap/\Θ P w H' s'.heap/\RelV v u/\Q v H'
def CR (CX:jv)(outer:List Env)(P:Program)(w:World)(H:Hp)(s:Shared)(Q:VK)(E:XK)(r:Result)(s':Shared):Prop :=
 match r with
 | .ok (.ret u)=>CE outer P w H s Q u s'
 | .ok _=>False
 | .error e=>CX outer H s E e s'
structure ß (P:Program)(w:World)(K:PySem.W.Frag)(mg:bv)(base:Heap)(CX:jv)(k:Nat)(f:Addr)(fd:FuncData)(ps:List Str)(sp:Sp):Prop where
 len:∀ vs H Q E,sp vs H Q E->vs.length=ps.length
 run:∀(A:Around)(outer:List Env)(s:Shared)(H:Hp)(args:Args)(us:List Value)(vs:List V)(Q:VK)(E:XK),ö k A->MG P w K mg base A outer s H->BindsTo s fd args (ps.zip us)->Vals vs us->sp vs H Q E ->
  codeAny (model P w) A (.call (.ref f) args) (CR CX outer P w H s Q E) s
theorem ß.mono {P:Program}{w:World}{K:PySem.W.Frag}{mg:bv}{base:Heap}{CX:jv}{j k:Nat}{f:Addr}{fd:FuncData}{ps:List Str}{sp:Sp}(F:ß P w K mg base CX j f fd ps sp)(h:j<=k) :
  ß P w K mg base CX k f fd ps sp:=⟨F.len,λ A outer s H args us vs Q E hr=>F.run A outer s H args us vs Q E (hr.mono h)⟩
theorem ß.imp {P:Program}{w:World}{K:PySem.W.Frag}{mg:bv}{base:Heap}{CX:jv}{k:Nat}{f:Addr}{fd:FuncData}{ps:List Str}{sp WK:Sp}(F:ß P w K mg base CX k f fd ps sp)
  (h:∀ vs H Q E,WK vs H Q E->sp vs H Q E):ß P w K mg base CX k f fd ps WK :=
 ⟨λ vs H Q E q=>F.len vs H Q E (h _ _ _ _ q),λ A outer s H args us vs Q E hr he hb hv hs=>F.run A outer s H args us vs Q E hr he hb hv (h _ _ _ _ hs)⟩
theorem MG.make {P:Program}{w:World}{K:PySem.W.Frag}{mg:bv}{base:Heap}{A:Around}{outer:List Env}{s:Shared}{H:Hp}(e:MG P w K mg base A outer s H)(C:Addr)(us:List Value)(kw:List (Str × Value)) :
  MG P w K mg base (A.under (.builtin "type.__call__" ⟨.ref C::us,kw⟩)) outer s H:=⟨by first | exact e.frames | (simpa [Around.under,Code.envs,Code.isFrame,pushEnvs] using e.frames),e.mod,e.bs,e.No,e.γ,e.O4,e.Ć,e.bare⟩
section
variable {X:Cx}{Ã:List (Addr × Obj)}{σ:St}{H:Hp}{s s':Shared}
theorem Inv.O8 (I:Inv X Ã σ H s):MG X.prog X.w X.K X.mg X.base X.A X.stack s H :=
 ⟨I.ok.frames,I.ok.mod,I.bs,é I.ok.No I.sz,I.stack,I.D_,I.Ć,I.bare⟩
theorem Inv.after {Q:VK}{u:Value}(I:Inv X Ã σ H s)(h:CE X.stack X.prog X.w H s Q u s'):EP X Ã σ Q u s':=by
 obtain⟨v,H',os,bare,un,Ć,r,q⟩:=h;obtain⟨hh,g,d,t,ŀ⟩:=s';obtain rfl:ŀ = s.os:=os;exact⟨v,H',I.call (h':=hh) (g':=g) (d':=d) (t':=t) (ch:=[]) un Ć bare (λ b z=>absurd z (by simp)),r,q⟩
end
def gE (sp:Sp)(dvs:List V)(E:XK)(t:TA):TE:=λ σ H Q=>t σ H λ vs H1=>sp (vs++dvs) H1 Q E
def c6 (C:Addr)(sp:Sp)(dvs:List V)(E:XK)(t:TA):TE:=λ σ H Q=>t σ H λ vs H1=>∀ x dx,H1 x=none->H1 dx=none->dx≠x ->
 sp (.ref x::(vs++dvs)) (af (af H1 dx (.own x)) x (.ins C dx [])) (λ v H2=>v=.ù/\Q (.ref x) H2) E
def Binds (K:PySem.W.Frag)(fd:FuncData)(ps:List Str)(ds:List Value):Prop :=
 ∀(s:Shared)(us:List Value),K.In s.heap->(us++ds).length=ps.length->BindsTo s fd ⟨us,[]⟩ (ps.zip (us++ds))
theorem Binds.all {K:PySem.W.Frag}{fd:FuncData}{ps:List Str}(h:∀ us:List Value,us.length=ps.length->bindArgs fd ⟨us,[]⟩=pure (ps.zip us)):Binds K fd ps []:=λ s us _ hl=>by
 rw [ă] at hl ⊢;exact .of_eq (h us hl)
def cR (CX:jv)(X:Cx)(E:XK):Prop:=∀(Ã:List (Addr × Obj))(σ:St)(H:Hp)(s:Shared)(e:Value)(s':Shared),Inv X Ã σ H s->CX X.stack H s E e s'->X.xe e s'
section
variable {X:Cx}{CX:jv}{k:Nat}{f C:Addr}{fd:FuncData}{ps:List Str}{sp:Sp}{dvs:List V}{ds:List Value}{E:XK}{x m:Str}{p pos ů:Pos}{e o:Expr}{es:List Expr}{ta:TE}{t:TA}
theorem jl {Ã:List (Addr × Obj)}{σ:St}{H:Hp}{s:Shared}{Q:VK}{us:List Value}{vs:List V}(F:ß X.prog X.w X.K X.mg X.base CX k f fd ps sp)(hr:ö k X.A)(hb:Binds X.K fd ps ds)(hd:Vals dvs ds)(hx:cR CX X E)
  (I:Inv X Ã σ H s)(r:Vals vs us)(h:sp (vs++dvs) H Q E):wpAny (model X.prog X.w) X.A (call (.ref f) us) (EP X Ã σ Q) X.xe s:=by
 have r2:Vals (vs++dvs) (us++ds):=r.append hd;have hl:(us++ds).length=ps.length:=by rw [<- r2.length];exact F.len _ _ _ _ h
 refine ŕ (ŉ (F.run X.A X.stack s H ⟨us,[]⟩ (us++ds) (vs++dvs) Q E hr I.O8 (hb s us I.Ń hl) r2 h) λ r s' hq=>?_);cases r with
 | error e=>exact hx Ã σ H s e s' I hq
 | ok fl =>
  cases fl with
  | ret u=>exact I.after hq
  | next=>exact False.elim hq
  | brk=>exact False.elim hq
  | cont=>exact False.elim hq
theorem p9 (F:ß X.prog X.w X.K X.mg X.base CX k f fd ps sp)(hr:ö k X.A)(hg:Gl X x)(hm:X.mg x=some (.ref f))(hk:PySem.W.keepIn X.K (.ref f)=true)(hb:Binds X.K fd ps ds)(hd:Vals dvs ds)(hx:cR CX X E)
  (ha:PA X (e::es) t)(l_:(x==("__debug__" : Str))=false:=by decide)(he:starEach (e::es) X.env=(false,eval e X.env)::starEach es X.env:=by rfl) (Κ:(backTo pos (starEach es X.env)).any (·.1)=false:=by rfl) :
  PE X (.Call (.Name x p) (e::es) [] pos) (gE sp dvs E t):=by
 intro Ã s σ H Q I h;refine ċ (ck I hg hm ?_ l_);refine Ę (h₀:=X.base) I.ok.mod.OP hk (aW (ha pos Ã s σ H _ I h) λ us s1 ⟨vs,H1,I1,r,q⟩=>⟨I1.Ń,?_⟩) he Κ;exact jl F hr hb hd hx I1 r q
structure Mk (K:PySem.W.Frag)(C f:Addr):Prop where
 makes:PySem.W.makesIn K C=true
 init:PySem.W.findIn K (.ref C) "__init__" = some (some (.ref f))
 fn:PySem.W.isFn K (.ref f)=true
 kp:PySem.W.keepIn K (.ref C)=true
theorem nt {Ã:List (Addr × Obj)}{σ:St}{H:Hp}{s:Shared}{Q:VK}{us:List Value}{vs:List V}(M:Mk X.K C f)(F:ß X.prog X.w X.K X.mg X.base CX k f fd ps sp)(hr:ö (k+1) X.A)(hb:Binds X.K fd ps ds)(hd:Vals dvs ds)
  (hx:cR CX X E)(I:Inv X Ã σ H s)(r:Vals vs us)
  (h:∀ x dx,H x=none->H dx=none->dx≠x->sp (.ref x::(vs++dvs)) (af (af H dx (.own x)) x (.ins C dx [])) (λ v H2=>v=.ù/\Q (.ref x) H2) E) :
  wpAny (model X.prog X.w) X.A (call (.ref C) us) (EP X Ã σ Q) X.xe s:=by
 have hq:=h (s.heap.objs.size+1) s.heap.objs.size (I.Ć.fresh (Ÿ _)) (I.Ć.fresh (Ç _)) (Î (ψ _));have I2:=Inv.made (C:=C) I;have r2:Vals (V.ref (s.heap.objs.size+1)::(vs++dvs)) (Value.ref (s.heap.objs.size+1)::(us++ds)):=.cons rfl (r.append hd);have hl:(Value.ref (s.heap.objs.size+1)::us++ds).length=ps.length:=by
  have e:=r2.length;rw [F.len _ _ _ _ hq] at e;exact e.symm
 refine ŕ (uy (f:=f) I.Ń M.makes M.init (ā.mp M.fn) (ŉ (F.run _ X.stack _ _ ⟨Value.ref (s.heap.objs.size+1)::us,[]⟩ (Value.ref (s.heap.objs.size+1)::(us++ds)) _ _ E (hr.make C us [])
  (I2.O8.make C us []) (hb _ (Value.ref (s.heap.objs.size+1)::us) I2.Ń hl) r2 hq) λ r s' OY=>?_))
 cases r with
 | error e=>exact hx Ã σ _ _ e s' I2 OY
 | ok fl =>
  cases fl with
  | ret u =>
   obtain⟨v,H',I3,rv,ev,q3⟩:=I2.after OY;subst ev;exact⟨rv,⟨V.ref (s.heap.objs.size+1),H',I3,rfl,q3⟩⟩
  | next=>exact False.elim OY
  | brk=>exact False.elim OY
  | cont=>exact False.elim OY
theorem dC (M:Mk X.K C f)(F:ß X.prog X.w X.K X.mg X.base CX k f fd ps sp)(hr:ö (k+1) X.A)(hg:Gl X x)(hm:X.mg x=some (.ref C))(hb:Binds X.K fd ps ds)(hd:Vals dvs ds)(hx:cR CX X E)
  (ha:PA X (e::es) t)(l_:(x==("__debug__" : Str))=false:=by decide)(he:starEach (e::es) X.env=(false,eval e X.env)::starEach es X.env:=by rfl) (Κ:(backTo pos (starEach es X.env)).any (·.1)=false:=by rfl) :
  PE X (.Call (.Name x p) (e::es) [] pos) (c6 C sp dvs E t):=by
 intro Ã s σ H Q I h;refine ċ (ck I hg hm ?_ l_);refine Ę (h₀:=X.base) I.ok.mod.OP M.kp (aW (ha pos Ã s σ H _ I h) λ us s1 ⟨vs,H1,I1,r,q⟩=>⟨I1.Ń,?_⟩) he Κ;exact nt M F hr hb hd hx I1 r q
theorem bU (M:Mk X.K C f)(F:ß X.prog X.w X.K X.mg X.base CX k f fd ps sp)(hr:ö (k+1) X.A)(hg:Gl X x)(hm:X.mg x=some (.ref C))(hb:Binds X.K fd ps ds)(hd:Vals dvs ds)(hx:cR CX X E)
  (l_:(x==("__debug__" : Str))=false:=by decide):PE X (.Call (.Name x p) [] [] pos) (c6 C sp dvs E aG):=by
 intro Ã s σ H Q I h;refine ċ (ck I hg hm ?_ l_);exact PySem.W.callWith_K0 I.Ń M.kp (nt (us:=[]) M F hr hb hd hx I .nil h)
end
structure ae (N P:List Str)(sc:Scope):Prop where
 kind:sc.kind=.function
 co:sc.isCoroutine=false
 gen:sc.isGenerator=false
 nd:N.Nodup
 pre:N.take P.length=P
 par:∀ x∈P,sc.names.lookup x=some .local\/sc.names.lookup x=some .cell
 Mn:∀ y∈sc.names,y.2 ≠ .free
theorem aO {N P:List Str}{sc:Scope}(a:sc.kind=.function:=by rfl)(b:sc.isCoroutine=false:=by rfl)(c:sc.isGenerator=false:=by rfl)(d:N.Nodup:=by decide +kernel)(e:N.take P.length=P:=by rfl)(f:∀ x∈P,sc.names.lookup x=some .local\/sc.names.lookup x=some .cell:=by decide +kernel)(g:∀ y∈sc.names,y.2 ≠ .free:=by decide +kernel):ae N P sc:=⟨a,b,c,d,e,f,g⟩
theorem kU {kindOf:Str->Option NameKind}{x:Str}:∀{binds:List (Str × Value)}{m:bv},(∀ v,(x,v) ∉ binds)->bindL kindOf binds m x=m x
 | [],_,_=>rfl
 | (n,v)::r,m,h=>by
  unfold bindL;rw [kU λ w hw=>h w (ã _ hw)];split
  ·have:x≠n:=by rintro rfl;exact h v î
   simp [this]
  ·rfl
theorem kr {kindOf:Str->Option NameKind}{x:Str}:∀{binds:List (Str × Value)}{m:bv},(∀ v,(x,v) ∉ binds)->bindC kindOf binds m x=m x
 | [],_,_=>rfl
 | (n,v)::r,m,h=>by
  unfold bindC;rw [kr λ w hw=>h w (ã _ hw)];split
  ·rfl
  ·have:x≠n:=by rintro rfl;exact h v î
   simp [this]
theorem iw {kindOf:Str->Option NameKind}{x:Str}{v:Value}:∀{P:List Str}{vs:List Value}{i:Nat}{m:bv},P.Nodup->P[i]?=some x->vs[i]?=some v->kindOf x=some .local ->
  bindL kindOf (P.zip vs) m x=some v
 | [],_,_,_,_,h,_,_=>by simp at h
 | _::_,[],_,_,_,_,h,_=>by simp at h
 | p::P,w::vs,0,m,nd,h1,h2,hk=>by
  simp at h1 h2;subst h1;subst h2;show bindL kindOf ((p,w)::P.zip vs) m p=_;unfold bindL;rw [kU λ v hv=>(p_.mp nd).1 (ś hv).1,à hk];simp
 | p::P,w::vs,i+1,m,nd,h1,h2,hk=>by
  show bindL kindOf ((p,w)::P.zip vs) m x=_;unfold bindL;exact iw (i:=i) (p_.mp nd).2 (by simpa using h1) (by simpa using h2) hk
theorem iu {kindOf:Str->Option NameKind}{x:Str}{v:Value}:∀{P:List Str}{vs:List Value}{i:Nat}{m:bv},P.Nodup->P[i]?=some x->vs[i]?=some v->kindOf x≠some .local ->
  bindC kindOf (P.zip vs) m x=some v
 | [],_,_,_,_,h,_,_=>by simp at h
 | _::_,[],_,_,_,_,h,_=>by simp at h
 | p::P,w::vs,0,m,nd,h1,h2,hk=>by
  simp at h1 h2;subst h1;subst h2;show bindC kindOf ((p,w)::P.zip vs) m p=_;unfold bindC;rw [kr λ v hv=>(p_.mp nd).1 (ś hv).1,Ø hk];simp
 | p::P,w::vs,i+1,m,nd,h1,h2,hk=>by
  show bindC kindOf ((p,w)::P.zip vs) m x=_;unfold bindC;exact iu (i:=i) (p_.mp nd).2 (by simpa using h1) (by simpa using h2) hk
def c7 (N:List Str)(vs:List V):St:=vs.map some++List.replicate (N.length-vs.length) none
def br (CX:jv)(P:Program)(w:World)(K:PySem.W.Frag)(mg:bv)(base:Heap)(N:List Str)(qual:Str)(scope:Scope)(f:Addr)(cd:Value)(A:Around)(outer:List Env)(s:Shared)(H:Hp)(E:XK):Cx where
 prog:=P
 w:=w
 K:=K
 mg:=mg
 base:=base
 A:=A.deeper (envOfC qual scope s.heap.objs.size f cd)
 N:=N
 œ:=s
 M8:=H
 env:=envOfC qual scope s.heap.objs.size f cd
 outer:=outer
 stack:=envOfC qual scope s.heap.objs.size f cd::outer
 ex:=[]
 calm:=true
 fn:=λ _=>true
 pn:=[]
 xe:=λ e s'=>wpAny (model P w) (A.deeper (envOfC qual scope s.heap.objs.size f cd)) (leaving (envOfC qual scope s.heap.objs.size f cd) e) (λ _ Qb=>CX outer H s E e Qb) (λ e' Qb=>CX outer H s E e' Qb) s'
theorem gX {sc:Scope}{n:Nat}{x:Str}(h:sc.names.lookup x=some .cell):∃ c,(cellsFrom n sc.names []).lookup x=some c:=by
 have q:=f_ sc.names n [] (.inl h);exact Ĵ.mp q
theorem qD {CX:jv}{P:Program}{w:World}{K:PySem.W.Frag}{mg:bv}{base:Heap}{N ps:List Str}{qual:Str}{scope:Scope}{f:Addr}{cd:Value}{A:Around}{outer:List Env}{s s1:Shared}{H:Hp}{E:XK}{us:List Value}{vs:List V}
  (S:ae N ps scope)(hd:A.handled=none)(e0:MG P w K mg base A outer s H)(hl:vs.length=ps.length)(r:Vals vs us)
  (x:InCallC s s.heap.objs.size (bindL (envOfC qual scope s.heap.objs.size f cd).kindOf (ps.zip us) λ _=>none) (cellsFrom (s.heap.objs.size+1) scope.names []) (bindC (envOfC qual scope s.heap.objs.size f cd).kindOf (ps.zip us) λ _=>none) s1) :
  Inv (br CX P w K mg base N qual scope f cd A outer s H E) [] (c7 N vs) H s1:=by
 have Κ:ps.length<=N.length:=by have:=Ğ List.length S.pre;rw [Đ] at this;omega
 obtain⟨h1,tk,rfl,hk⟩:=x.done;have PF:∀ b:Addr,b ∉ (br CX P w K mg base N qual scope f cd A outer s H E).ex:=λ b z=>absurd (show b∈([]:List Addr) from z) (by simp)
 refine⟨⟨e0.mod,S.kind,rfl,rfl,Ç _,λ y z c h1 h2=>?_,λ y hy=>?_,λ y c _ h=>?_,λ _=>hd,Around.frames_deeper e0.frames,.inr ⟨rfl,rfl⟩,λ b z=>absurd z (PF b),e0.bs,e0.No,λ b _ _=>PF b,λ b z=>absurd z (PF b),e0.γ,e0.O4⟩,
  rfl,e0.bare,Un.kept hk,⟨_,x.toInCall.ns,λ i y v h1 h2 h3=>?_⟩,λ y c h=>⟨_,x.cell y c h⟩,e0.Ć.fresh (Ç _),λ y c h=>?_,λ p hp=>absurd (show p∈([]:List (Addr × Obj)) from hp) (by simp),e0.Ć.kept hk,?_⟩
 ·exact name_of_addr x.apart (Ú h1) (Ú h2)
 ·have hy:scope.names.lookup y=some .cell\/scope.names.lookup y=some .free:=hy;rcases hy with hy | hy
  ·exact gX hy
  ·exact absurd rfl (S.Mn _ (Ú hy))
 ·exact h_ (x.above y c (Ú h))
 ·have hi:i<vs.length:=by
   unfold c7 at h2;by_cases hi:i<vs.length
   ·exact hi
   ·rw [å (by simpa using hi)] at h2
    rw [Ţ] at h2;split at h2 <;> cases h2
  have ha:vs[i]?=some v:=by
   unfold c7 at h2;rw [ð (by simpa using hi),List.getElem?_map] at h2
   cases e:vs[i]? with
   | none=>rw [e] at h2;cases h2
   | some a=>rw [e] at h2;cases h2;rfl
  obtain⟨u,hu,rv⟩:=r.get ha;have hp:ps[i]?=some y:=by
   rw [<- S.pre,Ps am];exact h1
  have R3:ps.Nodup:=by rw [<- S.pre];exact S.nd.sublist (List.take_sublist _ _)
  refine⟨u,rv,?_⟩;rcases S.par y (ê hp) with k | k
  ·exact .inl ⟨k,iw R3 hp hu k⟩
  ·obtain⟨c,e⟩:=gX (n:=s.heap.objs.size+1) k;refine .inr ⟨.inl k,c,e,?_⟩;have q:=x.cell y c e;rw [iu R3 hp hu (by show scope.names.lookup y≠_;rw [k];decide)] at q
   exact q
 ·exact e0.Ć.fresh (h_ (x.above y c (Ú h)))
 ·unfold c7;show _=N.length;rw [Ð,Ä,Ý];omega
theorem yC {CX:jv}{P:Program}{w:World}{K:PySem.W.Frag}{mg:bv}{base:Heap}{k:Nat}{f:Addr}{name qual:Str}{params:Arguments}{body:List Stmt}{scope:Scope}{dV kV doc pm cdv ct oc:Value}{an od:Option Addr}
  {N9:Array (Option Value)}{N ps:List Str}{sp:Sp}(lk:K.lookup f=some ⟨oc,od,.func (PySem.W.fnOf name qual params body scope dV kV doc pm an cdv ct),N9⟩)(M5:PySem.W.codeIn K cdv qual=true)(S:ae N ps scope)
  (len:∀ vs H Q E,sp vs H Q E->vs.length=ps.length)
  (Ż:∀(A:Around)(outer:List Env)(s:Shared)(H:Hp)(vs:List V)(Q:VK)(E:XK),ö k (A.deeper (envOfC qual scope s.heap.objs.size f cdv))->sp vs H Q E ->
   ∃ t,Ų (br CX P w K mg base N qual scope f cdv A outer s H E) body t/\t { nx:=λ _ H'=>Q .ù H',rt:=Q } (c7 N vs) H) :
  ß P w K mg base CX (k+1) f (PySem.W.fnOf name qual params body scope dV kV doc pm an cdv ct) ps sp:=by
 refine⟨len,λ A outer s H args us vs Q E hr e0 hb r MN=>?_⟩;have hl:=len _ _ _ _ MN;have KX:K.In s.heap:=e0.mod.OP.keeps λ b o e=>(e0.bs b o e).1;have lim:s.heap.NoLimit:=e0.mod.nolimit.keeps λ b o e=>(e0.bs b o e).1;have O1:∀ y∈ps.zip us,scope.names.lookup y.1=some .local\/(scope.names.lookup y.1=some .cell/\((cellsFrom (s.heap.objs.size+1) scope.names []).lookup y.1).isSome=true):=λ ⟨n,v⟩ hy=>by
  rcases S.par n (ś hy).1 with q | q
  ·exact .inl q
  ·exact .inr ⟨q,f_ _ _ _ (.inl q)⟩
 refine codeAny_call_function hr.depth (KX _ _ lk) rfl S.co S.gen rfl (PySem.W.codeRec_of KX M5) (hb _ _ _ _ ?_);refine wpAny_newFunctionEnv_cells S.kind O1 λ env he s1 x=>?_;subst he;refine⟨lim.keeps x.toInCall.keep,codeAny_func ?_⟩;obtain⟨t,ht,hq⟩:=Ż A outer s H vs Q E (hr.deeper _) MN;have I:Inv (br CX P w K mg base N qual scope f cdv A outer s H E) [] (c7 N vs) H s1:=qD S hr.hd e0 hl r x;refine æ (ht [] s1 (c7 N vs) H _ I hq) (λ fl s' hs=>?_) λ e s' hs=>hs;have fin:∀{Ē:St}{H':Hp}{v:V}{u:Value},Inv (br CX P w K mg base N qual scope f cdv A outer s H E) [] Ē H' s'->RelV v u->Q v H'->CE outer P w H s Q u s' :=
  λ {Ē H' v u} J rv q=>⟨v,H',J.os,J.bare,J.base,J.Ć,rv,q⟩
 cases fl with
 | ret u =>
  obtain⟨v,Ē,H',J,rv,q⟩:=hs;exact fin J rv q
 | next =>
  obtain⟨Ē,H',J,q⟩:=hs;exact fin (v:=V.ù) (u:=Value.none) J rfl q
 | brk =>
  obtain⟨_,_,_,q⟩:=hs;exact False.elim q
 | cont =>
  obtain⟨_,_,_,q⟩:=hs;exact False.elim q
section
variable {X:Cx}{x:Str}{p pos:Pos}{e:Expr}{es:List Expr}{t:TA}{id T:String}{r:List V->Hp->VK->Prop}
def iQ (r:List V->Hp->VK->Prop)(t:TA):TE:=λ σ H Q=>t σ H λ vs H1=>r vs H1 Q
theorem ah (hc:cP X (.builtin id) r)(hg:Gl X x)(hm:X.mg x=none)(hv:bootBuiltins x=some (.builtin id))(ha:PA X (e::es) t)(hn:x ≠ "__name__" := by decide)(l_:(x==("__debug__" : Str))=false:=by decide)
  (he:starEach (e::es) X.env=(false,eval e X.env)::starEach es X.env:=by rfl) (Κ:(backTo pos (starEach es X.env)).any (·.1)=false:=by rfl):PE X (.Call (.Name x p) (e::es) [] pos) (iQ r t):=by
 intro Ã s σ H Q I h;refine ċ (gM I hg hm hv ?_ hn l_);exact Nb (aW (ha pos Ã s σ H _ I h) λ us s1 ⟨vs,H1,I1,r1,q1⟩=>hc Ã s1 σ H1 vs us Q I1 r1 q1) he Κ
theorem bA (hc:cP X (.type T) r)(hg:Gl X x)(hm:X.mg x=none)(hv:bootBuiltins x=some (.type T))(ha:PA X (e::es) t)(hn:x ≠ "__name__" := by decide)(l_:(x==("__debug__" : Str))=false:=by decide)
  (he:starEach (e::es) X.env=(false,eval e X.env)::starEach es X.env:=by rfl) (Κ:(backTo pos (starEach es X.env)).any (·.1)=false:=by rfl):PE X (.Call (.Name x p) (e::es) [] pos) (iQ r t):=by
 intro Ã s σ H Q I h;refine ċ (gM I hg hm hv ?_ hn l_);exact ģ (aW (ha pos Ã s σ H _ I h) λ us s1 ⟨vs,H1,I1,r1,q1⟩=>hc Ã s1 σ H1 vs us Q I1 r1 q1) he Κ
end
end L2
namespace HT
open PySem PyProof.Rows
section
variable {prog:Program}{w:World}{A:Around}{E:cy}{s:Shared}
def M3 (n d:Nat):Option Int->Nat
 | none=>d
 | some v=>if v<0 then(v+(n:Int)).toNat else min v.toNat n
theorem M0 (n d:Nat):M3 n d none=d:=rfl
theorem Nz (n d k:Nat):M3 n d (some (k:Int))=min k n:=by
 show(if(k:Int)<0 then((k:Int)+(n:Int)).toNat else min (k:Int).toNat n)=min k n
 rw [Ø am,õ]
end
end HT
namespace L2
open PySem PySem.Spec PyProof.Rows
abbrev TO:=St->Hp->(Option Int->Hp->Prop)->Prop
def PO (X:Cx)(e:Option Expr)(t:TO):Prop :=
 ∀(Ã:List (Addr × Obj))(s:Shared)(σ:St)(H:Hp)(Q:Option Int->Hp->Prop),Inv X Ã σ H s->t σ H Q ->
  wpAny (model X.prog X.w) X.A (evalPart e X.env) (λ u s'=>∃ o H',Inv X Ã σ H' s'/\IsPart u o/\Q o H') X.xe s
def fL:TO:=λ _ H Q=>Q none H
def jk (t:TE):TO:=λ σ H Q=>t σ H λ x H1=>∃ i,x=.int i/\Q (some i) H1
theorem jH {ns:List Int}:∀{us:List Value},Vals (ns.map V.int) us->IntsAre us ns:=by
 induction ns with
 | nil=>intro us r;rw [MU] at r;cases r;exact .nil
 | cons n ns ih =>
  intro us r;rw [ô] at r;cases r with
  | cons r1 r2 =>
   obtain⟨t,e⟩:=r1;subst e;exact .cons n t (ih r2)
section
variable {X:Cx}{e:Expr}{te:TE}{lo hi:Option Expr}{tl th:TO}{pos p2:Pos}
theorem je:PO X none fL:=by
 intro Ã s σ H Q I h;rw [evalPart_none];exact Æ ⟨none,H,I,.none,h⟩
theorem i6 (h:PE X e te):PO X (some e) (jk te):=by
 intro Ã s σ H Q I hw;rw [evalPart_some];refine aW (h Ã s σ H _ I hw) λ u s1 ⟨x,H1,I1,r1,q1⟩=>?_;obtain⟨i,rfl,q⟩:=q1;obtain⟨t,rfl⟩:=r1;exact⟨some i,H1,I1,.int i t,q⟩
def KH (X:Cx)(r:V->Option Int->Option Int->Hp->VK->Prop):Prop :=
 ∀(Ã:List (Addr × Obj))(s:Shared)(σ:St)(H:Hp)(x:V)(v vl vu:Value)(lo hi:Option Int)(sl:Addr)(Q:VK),Inv X Ã σ H s->RelV x v->s.heap.IsSliceOf sl vl vu .none->IsPart vl lo->IsPart vu hi->r x lo hi H Q ->
  ∃ T id,typeLookup (.type T) "__getitem__" = pure (some (.builtin id))/\s.TypeIs v T/\wpAny (model X.prog X.w) X.A (getItem v (.ref sl)) (EP X Ã σ Q) X.xe s
def zL (r:V->Option Int->Option Int->Hp->VK->Prop)(te:TE)(tl th:TO):TE:=λ σ H Q=>te σ H λ x H1=>tl σ H1 λ l H2=>th σ H2 λ u H3=>r x l u H3 Q
theorem ib {r:V->Option Int->Option Int->Hp->VK->Prop}(hr:KH X r)(he:PE X e te)(hl:PO X lo tl)(hu:PO X hi th):PE X (.Subscript e (.Slice lo hi none p2) pos) (zL r te tl th):=by
 intro Ã s σ H Q I h;refine Subscript_ (aW (he Ã s σ H _ I h) λ v s1 ⟨x,H1,I1,r1,q1⟩=>?_);refine wpAny_Slice (aW (hl Ã s1 σ H1 _ I1 q1) λ vl s2 ⟨l,H2,I2,pl,q2⟩=>aW (hu Ã s2 σ H2 _ I2 q2) λ vu s3 ⟨u,H3,I3,pu,q3⟩=>?_);rw [evalPart_none];refine Æ ?_;have I4:Inv X Ã σ H3 { s3 with heap:=s3.heap.push { cls:=.type "slice",data:=.fields #[vl,vu,.none] } }:=I3.kept (t':=s3.toks) λ b ob q=>Á _ q
 obtain⟨T,id,hT,ht,hg⟩:=hr Ã { s3 with heap:=s3.heap.push { cls:=.type "slice",data:=.fields #[vl,vu,.none] } } σ H3 x v vl vu l u s3.heap.objs.size Q I4 r1 (Heap.IsSliceOf.new ..) pl pu q3;show wpAny (model X.prog X.w) X.A (subscriptTail e (.Slice lo hi none p2) v (.ref s3.heap.objs.size)) (EP X Ã σ Q) X.xe { s3 with heap:=s3.heap.push { cls:=.type "slice",data:=.fields #[vl,vu,.none] } }
 exact tail_any (ops:=[.ref s3.heap.objs.size,v]) ht hT hg (by with_unfolding_all rfl)
def mf (xs:List V)(lo hi:Option Int):List V:=(xs.drop (HT.M3 xs.length 0 lo)).take (HT.M3 xs.length xs.length hi-HT.M3 xs.length 0 lo)
theorem mT (xs:List V)(lo hi:Option Int):(mf xs lo hi).length<=xs.length:=by
 unfold mf;rw [Đ,ω];omega
end
def yN (n:Nat)(i:Int):Option Nat:=if 0<=i then(if i<n then some i.toNat else none) else if -(n:Int)<=i then some (i+n).toNat else none
def v6 {α:Type}(xs:List α)(i:Int):Option α:=(yN xs.length i).bind λ j=>xs[j]?
theorem qj {n:Nat}{i:Int}{j:Nat}(h:yN n i=some j):seqIndex? i n=some j/\j<n/\-(n:Int)<=i/\i<n:=by
 unfold yN at h;by_cases h0:0<=i
 ·rw [à h0] at h;by_cases h1:i<n
  ·rw [à h1] at h;have e:i.toNat=j:=Û h;exact⟨by rw [seqIndex_of h0 h1,e],am,am,h1⟩
  ·rw [Ø h1] at h;cases h
 ·rw [Ø h0] at h;by_cases h1:-(n:Int)<=i
  ·rw [à h1] at h;have e:(i+n).toNat=j:=Û h;exact⟨by rw [seqIndex_neg am h1,e],am,h1,am⟩
  ·rw [Ø h1] at h;cases h
theorem qc {α:Type}{xs:List α}{i:Int}{v:α}(h:v6 xs i=some v):∃ j,seqIndex? i xs.length=some j/\xs[j]?=some v/\j<xs.length/\-(xs.length:Int)<=i/\i<xs.length:=by
 unfold v6 at h;cases e:yN xs.length i with
 | none=>rw [e] at h;cases h
 | some j =>
  rw [e] at h;obtain⟨h1,h2,h3,h4⟩:=qj e;exact⟨j,h1,h,h2,h3,h4⟩
theorem gS {α:Type}{xs:List α}{j:Nat}{v:α}(h:xs[j]?=some v):v6 xs (j:Int)=some v:=by
 have hj:j<xs.length:=(Ë.mp h).1;have e:yN xs.length (j:Int)=some j:=by
  unfold yN;rw [à am,à am];simp
 unfold v6;rw [e];exact h
def kY (b:Expr):Prop:=∀ o i,subscripted b false o i=operate [o,i] (getItem o i)
def Ht (X:Cx)(r:R2):Prop :=
 ∀(value slice:Expr)(Ã:List (Addr × Obj))(s:Shared)(σ:St)(H:Hp)(x y:V)(v u:Value)(Q:VK),Inv X Ã σ H s->RelV x v->RelV y u->r x y H Q ->
  subscripted slice false v u=operate [v,u] (getItem v u)->wpAny (model X.prog X.w) X.A (subscriptTail value slice v u) (EP X Ã σ Q) X.xe s
def HA (X:Cx)(id:String)(r:V->List V->Hp->VK->Prop):Prop :=
 ∀(Ã:List (Addr × Obj))(s:Shared)(σ:St)(H:Hp)(x:V)(xs:List V)(v:Value)(us:List Value)(Q:VK),Inv X Ã σ H s->RelV x v->Vals xs us->r x xs H Q ->
  wpAny (model X.prog X.w) X.A (call (.builtin id) (v::us)) (EP X Ã σ Q) X.xe s
section
variable {X:Cx}{a b:Expr}{ta tb:TE}{pos:Pos}
theorem FM {r:R2}(hr:Ht X r)(ha:PE X a ta)(hb:PE X b tb)(hs:kY b):PE X (.Subscript a b pos) (aS r ta tb):=by
 intro Ã s σ H Q I h;exact Subscript_ (Bm ha hb I h λ v u s2 x y H2 I2 rx ry q=>hr a b Ã s2 σ H2 x y v u Q I2 rx ry q (hs _ _))
theorem ft {r:R2}(hr:Ht X r)(ha:PE X a ta)(hb:PE X b tb)(hs:kY b:=by exact λ _ _=>rfl):PE X (.Subscript a b pos) (aS r ta tb):=FM hr ha hb hs
def cX (K:PySem.W.Frag):R2:=λ x y H Q=>∃ p xs i v,x=.ref p/\y=.int i/\ó K H p xs/\v6 xs i=some v/\Q v H
def EX (K:PySem.W.Frag):R2:=λ x y H Q=>∃ p xs i v,x=.ref p/\y=.int i/\ĥ K H p xs/\v6 xs i=some v/\Q v H
theorem iB:Ht X (cX X.K):=by
 intro value slice Ã s σ H x y v u Q I rx ry h hs;obtain⟨p,xs,i,z,rfl,rfl,hq,he,q⟩:=h;cases rx;obtain⟨t,rfl⟩:=ry;obtain⟨its,r,pl,hz⟩:=I.list hq;obtain⟨j,h1,h2,h3,h4,h5⟩:=qc he;obtain⟨w,ew,N8⟩:=r.get h2;have hl:=r.length;have hn:=jt;have fin:EP X Ã σ Q w s:=⟨z,H,I,N8,q⟩;by_cases h0:0<=i
 ·have hj:i.toNat=j:=by
   rw [seqIndex_of h0 h5] at h1;exact Û h1
  exact item_listR pl.isList h0 am (by rw [hj];simpa using ew) fin hs
 ·have hj:(i+(its.toArray.size:Int)).toNat=j:=by
   rw [seqIndex_neg am h4] at h1;rw [â,<- hl];exact Û h1
  exact subscriptTail_builtinR (x:=w) pl.isList.typeIs slot_list_getitem.lookup
   (wpAny_getItem_list_neg (Q:=λ r s'=>r=w/\EP X Ã σ Q r s') pl.isList am (by rw [â] <;> omega) am (by rw [hj];simpa using ew) ⟨rfl,fin⟩) hs
theorem oA:Ht X (EX X.K):=by
 intro value slice Ã s σ H x y v u Q I rx ry h hs;obtain⟨p,xs,i,z,rfl,rfl,hq,he,q⟩:=h;cases rx;obtain⟨t,rfl⟩:=ry;obtain⟨its,r,pl,hz⟩:=I.tuple hq;obtain⟨j,h1,h2,h3,h4,h5⟩:=qc he;obtain⟨w,ew,N8⟩:=r.get h2;have hl:=r.length;have hn:=jt;have fin:EP X Ã σ Q w s:=⟨z,H,I,N8,q⟩;exact subscriptTail_builtinR (x:=w) pl.typeIs slot_tuple_getitem.lookup
  (getItem_tuple (j:=j) (Q:=λ r s'=>r=w/\EP X Ã σ Q r s') pl am am (by rw [â,<- hl];exact h1) (by simpa using ew) ⟨rfl,fin⟩) hs
theorem pj (its:List Value)(n j:Nat)(u:Value):Obj.mapSeq (·.setIfInBounds j u) { cls:=.type "list",data:=.seq its.toArray n }={ cls:=.type "list",data:=.seq (its.set j u).toArray n }:=by
 simp [Obj.mapSeq]
theorem Inv.lst {Ã:List (Addr × Obj)}{σ:St}{H:Hp}{s:Shared}{p:Addr}{xs:List V}(I:Inv X Ã σ H s)(h:H p=some (.lst xs)) :
  ∃(its:List Value)(n:Nat),Vals xs its/\s.heap.get? p=some { cls:=.type "list",data:=.seq its.toArray n }/\xs.length<=sizeLine:=by
 obtain⟨z,its,n,r,e⟩:=I.Ć p _ h;exact⟨its,n,r,e,z⟩
theorem Inv.QM {Ã:List (Addr × Obj)}{σ:St}{H:Hp}{s:Shared}{p:Addr}{xs ys:List V}{its its':List Value}{n n':Nat}{f:Obj->Obj}(I:Inv X Ã σ H s)(h:H p=some (.lst xs))
  (ho:s.heap.get? p=some { cls:=.type "list",data:=.seq its.toArray n })(hf:f { cls:=.type "list",data:=.seq its.toArray n }={ cls:=.type "list",data:=.seq its'.toArray n' })(r:Vals ys its')(hz:ys.length<=sizeLine)(t:Nat) :
  Inv X Ã σ (af H p (.lst ys)) { s with heap:=s.heap.update p f,toks:=t }:=by
 have e:(s.heap.update p f).get? p=some { cls:=.type "list",data:=.seq its'.toArray n' }:=by
  rw [ò f ho (by rw [hf] <;> rfl),hf]
 refine I.write (x:=p) (e:=p) (by rw [h];trivial) (.inl rfl) (λ b u hb q=>(Heap.get?_update_other _ _ (Ne.symm hb)).trans q) ⟨_,e⟩ ?_
 exact⟨hz,its',n',r,e⟩
def uY:V->V->V->Hp->(Hp->Prop)->Prop:=λ o i v H Q=>∃ p xs k j,o=.ref p/\i=.int k/\H p=some (.lst xs)/\yN xs.length k=some j/\Q (af H p (.lst (xs.set j v)))
theorem f8:ze X uY:=by
 intro Ã s σ H o i v ov iv u Q I ro ri rv h;obtain⟨p,xs,k,j,rfl,rfl,hp,hj,q⟩:=h;cases ro;obtain⟨t,rfl⟩:=ri;obtain⟨its,n,r,ho,hz⟩:=I.lst hp;obtain⟨h1,h2,h3,h4⟩:=qj hj;have hl:=r.length;have hn:=jt;have I':Inv X Ã σ (af H p (.lst (xs.set j v))) { s with heap:=s.heap.update p (Obj.mapSeq (·.setIfInBounds j u)) } :=
  I.QM hp ho (pj its n j u) (r.set rv j) (by rw [List.length_set];exact hz) s.toks
 by_cases h0:0<=k
 ·have hk:k.toNat=j:=by
   rw [seqIndex_of h0 h4] at h1;exact Û h1
  exact PySem.W.ki_setAt ho h0 am (by rw [â,<- hl];exact h4) (by rw [hk];exact⟨_,I',q⟩)
 ·have hk:(k+(its.toArray.size:Int)).toNat=j:=by
   rw [seqIndex_neg am h3] at h1;rw [â,<- hl];exact Û h1
  exact PySem.W.ki_setBack ho am (by rw [â,<- hl];exact h3) am (by rw [hk];exact⟨_,I',q⟩)
theorem lF (lo hi:Option Int)(n:Nat):(sliceBounds lo hi none n).1=((HT.M3 n 0 lo:Nat):Int)/\(sliceBounds lo hi none n).2.1=((HT.M3 n n hi:Nat):Int)/\(sliceBounds lo hi none n).2.2=1:=by
 refine⟨?_,?_,rfl⟩
 ·cases lo with
  | none=>simp [sliceBounds,HT.M3]
  | some i =>
   simp only [sliceBounds,HT.M3,Option.getD_none,show(1:Int)>0 by decide,if_true]
   by_cases h:i<0
   ·simp only [h,if_true] <;> omega
   ·simp only [h,if_false] <;> omega
 ·cases hi with
  | none=>simp [sliceBounds,HT.M3]
  | some i =>
   simp only [sliceBounds,HT.M3,Option.getD_none,show(1:Int)>0 by decide,if_true]
   by_cases h:i<0
   ·simp only [h,if_true] <;> omega
   ·simp only [h,if_false] <;> omega
theorem j8 (its:List Value)(lo hi:Option Int):slicePick its.toArray lo hi none=((its.drop (HT.M3 its.length 0 lo)).take (HT.M3 its.length its.length hi-HT.M3 its.length 0 lo)).toArray:=by
 obtain⟨h1,h2,h3⟩:=lF lo hi its.toArray.size;unfold slicePick;rw [h1,h2,h3];simp only [sliceRange_one,pick_run,List.size_toArray] <;> rfl
def pi (K:PySem.W.Frag):V->Option Int->Option Int->Hp->VK->Prop:=λ x lo hi H Q=>∃ a xs,x=.ref a/\ó K H a xs/\∀ p,H p=none->Q (.ref p) (af H p (.lst (mf xs lo hi)))
theorem jc:KH X (pi X.K):=by
 intro Ã s σ H x v vl vu lo hi sl Q I rx hs pl pu h;obtain⟨a,xs,rfl,hx,q⟩:=h;cases rx;obtain⟨its,r,ht,hz⟩:=I.list hx;have ķ:=r.length;refine⟨"list",_,slot_list_getitem.lookup,ht.isList.typeIs,?_⟩;refine wpAny_getItem_list_slice ht.isList hs pl pu .none (by simp) ?_ (by rw [List.size_toArray] <;> omega)
 rw [j8,<- ķ];refine⟨.ref s.heap.objs.size,_,I.laid (t':=s.toks) (o:=.lst (mf xs lo hi)) (λ b ob q=>Á _ q) (Ç _) ?_,rfl,q _ (I.Ć.fresh (Ç _))⟩;exact⟨é (mT xs lo hi) hz,_,0,(r.drop (HT.M3 xs.length 0 lo)).take (HT.M3 xs.length xs.length hi-HT.M3 xs.length 0 lo),Í _ rfl⟩
def jA:V->Bool
 | .ù=>true
 | .bl _=>true
 | .int _=>true
 | .str _=>true
 | _=>false
def p5:V->V->Bool
 | .ù,.ù=>true
 | .bl a,.bl b=>a==b
 | .bl a,.int b=>(if a then 1 else 0)==b
 | .int a,.bl b=>a==(if b then 1 else 0)
 | .int a,.int b=>a==b
 | .str a,.str b=>a==b
 | _,_=>false
theorem uX {A:Around}{s:Shared}{y x:V}{u v:Value}(ry:RelV y u)(rx:RelV x v)(fy:jA y=true)(fx:jA x=true):SeqAt.EqAt A s u v (p5 y x):=by
 cases y with
 | ù =>
  cases ry;cases x with
  | ù=>cases rx;exact L6 _
  | bl b=>cases rx;exact SeqAt.EqAt.none_bool b
  | int b=>obtain⟨t,rfl⟩:=rx;exact SeqAt.EqAt.none_int b t
  | str b=>obtain⟨t,rfl⟩:=rx;exact SeqAt.EqAt.none_str b t
  | _=>exact absurd (show false=true from fx) Ó
 | bl a =>
  cases ry;cases x with
  | ù=>cases rx;exact SeqAt.EqAt.bool_none a
  | bl b=>cases rx;exact SeqAt.EqAt.bool_bool a b
  | int b=>obtain⟨t,rfl⟩:=rx;exact SeqAt.EqAt.bool_int a b t
  | str b=>obtain⟨t,rfl⟩:=rx;exact SeqAt.EqAt.bool_str a b t
  | _=>exact absurd (show false=true from fx) Ó
 | int a =>
  obtain⟨t',rfl⟩:=ry;cases x with
  | ù=>cases rx;exact SeqAt.EqAt.int_none a t'
  | bl b=>cases rx;exact SeqAt.EqAt.int_bool a t' b
  | int b=>obtain⟨t,rfl⟩:=rx;exact SeqAt.EqAt.int_int a t' b t
  | str b=>obtain⟨t,rfl⟩:=rx;exact SeqAt.EqAt.int_str a t' b t
  | _=>exact absurd (show false=true from fx) Ó
 | str a =>
  obtain⟨t',rfl⟩:=ry;cases x with
  | ù=>cases rx;exact SeqAt.EqAt.str_none a t'
  | bl b=>cases rx;exact SeqAt.EqAt.str_bool a t' b
  | int b=>obtain⟨t,rfl⟩:=rx;exact SeqAt.EqAt.str_int a t' b t
  | str b=>obtain⟨t,rfl⟩:=rx;exact SeqAt.EqAt.str_str a t' b t
  | _=>exact absurd (show false=true from fx) Ó
 | _=>exact absurd (show false=true from fy) Ó
theorem aF:cP X (.builtin "len") (λ xs H Q=>∃ p ys,xs=[.ref p]/\(ó X.K H p ys\/ĥ X.K H p ys)/\Q (.int ys.length) H):=by
 intro Ã s σ H xs us Q I r h;obtain⟨p,ys,rfl,hq,q⟩:=h;obtain⟨u,rfl,rx⟩:=eG r;cases rx;have hn:=jt;rcases hq with hq | hq
 ·obtain⟨its,r',pl,hz⟩:=I.list hq;have ķ:=r'.length;exact Calls.call_len_list pl.isList (by simp only [List.size_toArray] <;> omega) ⟨.int ys.length,H,I.tok _,⟨s.toks+1,by rw [â,ķ]⟩,q⟩
 ·obtain⟨its,r',pl,hz⟩:=I.tuple hq;have ķ:=r'.length;exact len_tuple pl (by simp only [List.size_toArray] <;> omega) ⟨.int ys.length,H,I.tok _,⟨s.toks+1,by rw [â,ķ]⟩,q⟩
theorem lU:cP X (.type "list") (λ xs H Q=>∃ p ys,xs=[.ref p]/\(ó X.K H p ys\/ĥ X.K H p ys)/\∀ l,H l=none->Q (.ref l) (af H l (.lst ys))):=by
 intro Ã s σ H xs us Q I r h;obtain⟨p,ys,rfl,hq,q⟩:=h;obtain⟨u,rfl,rx⟩:=eG r;cases rx;have fin:∀(its:List Value),Vals ys its->ys.length<=sizeLine->∀(h':Heap)(c':Nat),(∀ b o',s.heap.get? b=some o'->h'.get? b=some o') ->
   h'.get? s.heap.objs.size=some { cls:=.type "list",dict:=none,data:=.seq its.toArray c',slots:=#[] }->EP X Ã σ Q (.ref s.heap.objs.size) { s with heap:=h' }:=λ its r' hz h' c' kp e =>
  ⟨.ref s.heap.objs.size,_,I.laid (t':=s.toks) kp (Ç _) (show Ā X.prog X.w _ h' _ (.lst ys) from⟨hz,its,c',r',e⟩),rfl,q _ (I.Ć.fresh (Ç _))⟩
 rcases hq with hq | hq
 ·obtain⟨its,r',pl,hz⟩:=I.list hq;have ķ:=r'.length;obtain⟨o,ho,hc,n,hd⟩:=pl.isList;exact call_list_seq p (.inl rfl) ho hc hd (λ h' c' kp e=>fin its r' hz h' c' kp e) (by simp only [List.size_toArray] <;> omega)
 ·obtain⟨its,r',pl,hz⟩:=I.tuple hq;have ķ:=r'.length;obtain⟨o,ho,hc,n,hd⟩:=pl;exact call_list_seq p (.inr rfl) ho hc hd (λ h' c' kp e=>fin its r' hz h' c' kp e) (by simp only [List.size_toArray] <;> omega)
theorem bR:cP X (.type "tuple") (λ xs H Q=>∃ p ys,xs=[.ref p]/\((ó X.K H p ys/\∀ l,H l=none->Q (.ref l) (af H l (.tup ys)))\/(ĥ X.K H p ys/\Q (.ref p) H))):=by
 intro Ã s σ H xs us Q I r h;obtain⟨p,ys,rfl,h⟩:=h;obtain⟨u,rfl,rx⟩:=eG r;cases rx;rcases h with⟨hq,q⟩ | ⟨hq,q⟩
 ·obtain⟨its,r',pl,hz⟩:=I.list hq;have ķ:=r'.length;refine call_tuple_list pl.isList (λ h' kp=>?_) (by simp only [List.size_toArray] <;> omega)
  have I1:Inv X Ã σ H { s with heap:=h' }:=I.kept (t':=s.toks) kp
  have I2:Inv X Ã σ (af H h'.objs.size (.tup ys)) { s with heap:=h'.push { cls:=.type "tuple",data:=.seq its.toArray } } :=
   I1.laid (t':=s.toks) (λ b o e=>Á _ e) (Ç _) (show Ā X.prog X.w _ _ _ (.tup ys) from⟨hz,its,r',IsTup.new _ _⟩)
  exact⟨.ref h'.objs.size,_,I2,rfl,q _ (I1.Ć.fresh (Ç _))⟩
 ·obtain⟨its,r',pl,hz⟩:=I.tuple hq;exact call_tuple_same pl ⟨.ref p,H,I,rfl,q⟩
def Kl (K:PySem.W.Frag)(T:String)(x:V)(H:Hp):Prop:=match x with
 | .str _=>T = "str"
 | .int _=>T = "int"
 | .ref p=>(T = "list" /\ ∃ xs,ó K H p xs)\/(T = "tuple" /\ ∃ o,K.lookup p=some o/\o.cls=.type "tuple" /\ o.dict=none) \/
   (T = "dict" /\ ((∃ kvs,H p=some (.dK kvs))\/∃ kvs,H p=some (.dT kvs)))\/(T = "set" /\ ∃ S n,H p=some (.set S n))
 | _=>False
theorem Dq {Ã:List (Addr × Obj)}{σ:St}{H:Hp}{s:Shared}{T:String}{x:V}{v:Value}(I:Inv X Ã σ H s)(r:RelV x v)(ty:Kl X.K T x H) :
  s.TypeIs v T/\∀ a,v=.ref a->∃ ob,s.heap.get? a=some ob/\ob.dict=none:=by
 cases x with
 | str z =>
  obtain⟨t,rfl⟩:=r;cases (show T = "str" from ty);exact⟨typeIs_str s z t,λ _ e=>nomatch e⟩
 | int i =>
  obtain⟨t,rfl⟩:=r;cases (show T = "int" from ty);exact⟨LL s i t,λ _ e=>nomatch e⟩
 | ref p =>
  cases r;rcases ty with⟨rfl,xs,hq⟩ | ⟨rfl,o,hk,hc,hd⟩ | ⟨rfl,hk⟩ | ⟨rfl,S,n,hk⟩
  ·obtain⟨its,_,pl,_⟩:=I.list hq;refine⟨pl.isList.typeIs,λ a e=>?_⟩;cases e;obtain⟨o,n,e,c,hd,_⟩:=pl;exact⟨o,e,hd⟩
  ·refine⟨⟨o,I.Ń p o hk,hc⟩,λ a e=>?_⟩;cases e;exact⟨o,I.Ń _ o hk,hd⟩
  ·have z:∃ o,s.heap.get? p=some o/\o.ExactDict:=by
    rcases hk with⟨kvs,hk⟩ | ⟨kvs,hk⟩
    ·obtain⟨_,_,_,_,o,_,_,e,ex,_⟩:=I.Ć p _ hk;exact⟨o,e,ex⟩
    ·obtain⟨_,_,_,_,o,_,_,e,ex,_⟩:=I.Ć p _ hk;exact⟨o,e,ex⟩
   obtain⟨o,e,ex⟩:=z;refine⟨⟨o,e,ex.1⟩,λ a e2=>?_⟩;cases e2;exact⟨o,e,ex.2.1⟩
  ·obtain⟨o,_,_,_,e,ex,_⟩:=I.Ć p _ hk;refine⟨⟨o,e,ex.1⟩,λ a e2=>?_⟩;cases e2;exact⟨o,e,ex.2.1⟩
 | _=>exact False.elim ty
def yG (K:PySem.W.Frag)(T:String)(r:V->List V->Hp->VK->Prop)(to:TE)(t:TA):TE:=λ σ H Q=>to σ H λ x H1=>Kl K T x H1/\t σ H1 λ xs H2=>r x xs H2 Q
variable {o e:Expr}{es:List Expr}{to:TE}{t:TA}{name:Str} {ů Τ:Pos}{T id:String}{r:V->List V->Hp->VK->Prop}
theorem jV (pa:PlainAttrs T)(slot:Slot T name id)(hty:typeOf (.builtin id)=pure (.type "method_descriptor"))(hm:HA X id r)(ho:PE X o to)(ha:PA X (e::es) t)
  (SL:attributeBase o name X.env (eval o X.env)=eval o X.env:=by rfl)
  (VP:((backTo Τ (starEach (e::es) X.env)).all (λ x=>!x.1)&&(backToKw Τ (keywordEach [] X.env)).all (λ x=>x.1.isSome)
   && decide ((e::es).length+([]:List Keyword).length+(if([]:List Keyword).isEmpty then 0 else 1)<30))=true:=by rfl)
  (SH:(ů.endLine == Τ.line)=true:=by rfl)(hs:starEach (e::es) X.env=(false,eval e X.env)::starEach es X.env:=by rfl)(QR:(backTo Τ (starEach es X.env)).any (·.1)=false:=by rfl) :
  PE X (.Call (.Attribute o name ů) (e::es) [] Τ) (yG X.K T r to t):=by
 intro Ã s σ H Q I h;refine wpAny_Call_method_late SL VP SH rfl (aW (ho Ã s σ H _ I h) λ v s1 ⟨x,H1,I1,r1,ty,q1⟩=>?_);obtain⟨h1,h2⟩:=Dq I1 r1 ty;refine⟨T,id,pa,slot,hty,h1,h2,?_⟩;have hA:=ha Τ Ã s1 σ H1 _ I1 q1;rw [hs] at hA ⊢;refine Calls.callWith_builtin (by show(false||(backTo Τ (starEach es X.env)).any (·.1))=false;rw [QR] <;> rfl) (Calls.evalArgs_plain ?_)
 exact aW hA λ us s2 ⟨vs,H2,I2,r2,q2⟩=>hm Ã s2 σ H2 x vs v us Q I2 r1 r2 q2
end
def K9 (X:Cx)(id:String)(r:V->List V->Hp->VK->Prop):Prop :=
 ∀(Ã:List (Addr × Obj))(s:Shared)(σ:St)(H:Hp)(x:V)(xs:List V)(v:Value)(us:List Value)(Q:VK),Inv X Ã σ H s->RelV x v->Vals xs us->r x xs H Q ->
  wpAny (model X.prog X.w) X.A (call (.builtin id) (v::us)) (EP X Ã σ Q) X.xe s
theorem Vals.one:∀{x:V}{us:List Value},Vals [x] us->∃ u,us=[u]/\RelV x u
 | _,_,.cons r .nil=>⟨_,rfl,r⟩
theorem Vals.rep {xs:List V}{us:List Value}(h:Vals xs us):∀ k:Nat,Vals (List.replicate k xs).flatten (List.replicate k us).flatten
 | 0=>.nil
 | k+1=>by
  rw [ÿ,ÿ,Ĕ,Ĕ];exact Vals.append h (Vals.rep h k)
theorem kH (its:List Value):∀(k:Nat)(acc:List Value),
  List.foldl (λ x1 x2=>x1++x2) acc.toArray (List.replicate k its.toArray)=(acc++(List.replicate k its).flatten).toArray
 | 0,acc=>by simp
 | k+1,acc=>by
  have e:acc.toArray++its.toArray=(acc++its).toArray:=by simp
  have e2:(acc++its)++(List.replicate k its).flatten=acc++(List.replicate (k+1) its).flatten:=by
   rw [ÿ,Ĕ,ι]
  rw [<- e2,<- kH its k (acc++its),<- e,ÿ,List.foldl_cons]
section
variable {X:Cx}{Ã:List (Addr × Obj)}{σ:St}{H:Hp}{s:Shared}{l b:Addr}{xs ys zs:List V}
theorem Inv.U' {its its':List Value}{n:Nat}{f:Array Value->Array Value}{t':Nat}(I:Inv X Ã σ H s)(hH:H l=some (.lst xs))
  (e:s.heap.get? l=some { cls:=.type "list",data:=.seq its.toArray n })(hf:f its.toArray=its'.toArray)(hv:Vals ys its')(hz:ys.length<=sizeLine) :
  Inv X Ã σ (af H l (.lst ys)) { s with heap:=s.heap.update l (Obj.mapSeq f),toks:=t' }:=by
 have q:=PySem.IsL.update e f;rw [hf] at q;refine I.write (x:=l) (e:=l) (by rw [hH];exact trivial) (.inl rfl) (λ b' u hb hu=>(Heap.get?_update_other s.heap (Obj.mapSeq f) (Ne.symm hb)).trans hu) ⟨_,q⟩ ?_
 exact⟨hz,its',_,hv,q⟩
theorem Inv.NS {its:List Value}{t':Nat}(I:Inv X Ã σ H s)(hv:Vals ys its)(hz:ys.length<=sizeLine) :
  Inv X Ã σ (af H s.heap.objs.size (.lst ys)) { s with heap:=s.heap.push { cls:=.type "list",data:=.seq its.toArray },toks:=t' } :=
 I.laid (λ _ _ q=>Á _ q) (Ç _) ⟨hz,its,0,hv,Í _ rfl⟩
theorem Inv.fresh (I:Inv X Ã σ H s):H s.heap.objs.size=none:=I.Ć.fresh (Ç _)
theorem Inv.PK (I:Inv X Ã σ H s)(hH:H l=some (.lst xs)):xs.length<=sizeLine/\∃(its:List Value)(n:Nat),Vals xs its/\xs.length=its.length/\s.heap.get? l=some { cls:=.type "list",data:=.seq its.toArray n }:=by
 obtain⟨z,its,n,r,e⟩:=I.Ć l _ hH;exact⟨z,its,n,r,r.length,e⟩
theorem sy {n:Nat}(h:n<=sizeLine):Builtin.List.listTooLong n=false:=by
 unfold Builtin.List.listTooLong;exact É am
end
section
variable {X:Cx}
def lS:V->List V->Hp->VK->Prop:=λ x vs H Q=>∃ l xs y,x=.ref l/\vs=[y]/\H l=some (.lst xs)/\xs.length<sizeLine/\Q .ù (af H l (.lst (xs ++ [y])))
theorem du:K9 X "list.append" lS:=by
 intro Ã s σ H x vs v us Q I rx rv h;obtain⟨l,xs,y,rfl,rfl,hH,hz,q⟩:=h;cases rx;obtain⟨u,rfl,ru⟩:=rv.one;obtain⟨z,its,n,r,hl,e⟩:=I.PK hH;refine LM F.slot_list_append ⟨_,e,rfl⟩ F.entry_list_append (F.args_list_append_2 _ _) (PySem.list_append l its.toArray n u (by rw [â];omega)) ⟨e,?_⟩
 refine⟨.ù,_,I.U' (its':=its ++ [u]) hH e (by simp) (r.append (.cons ru .nil)) ?_,rfl,q⟩
 rw [Ð,List.length_singleton];omega
def i5:R2:=λ x y H Q=>∃ l b xs zs,x=.ref l/\y=.ref b/\H l=some (.lst xs)/\H b=some (.lst zs)/\xs.length+zs.length<=sizeLine/\∀ p,H p=none->Q (.ref p) (af H p (.lst (xs++zs)))
theorem iE:ij X (binaryOp .Add) i5:=by
 intro Ã s σ H x y v u Q I rx ry h;obtain⟨l,b,xs,zs,rfl,rfl,hH,hB,hz,q⟩:=h;cases rx;cases ry;obtain⟨z,its,n,r,hl,e⟩:=I.PK hH;obtain⟨z2,Sw,n2,r2,Oc,e2⟩:=I.PK hB;refine PySem.P.add_list e e2 ?_ (by rw [â,â];omega)
 have ea:its.toArray++Sw.toArray=(its++Sw).toArray:=by simp
 rw [ea];exact⟨.ref _,_,I.NS (t':=s.toks) (r.append r2) (by rw [Ð];omega),rfl,q _ I.fresh⟩
def qY:R2:=λ x y H Q=>∃ l k xs,x=.ref l/\y=.int k/\H l=some (.lst xs)/\-(2^63)<=k/\k<2^63/\xs.length*k.toNat<=sizeLine /\
 ∀ p,H p=none->Q (.ref p) (af H p (.lst (List.replicate k.toNat xs).flatten))
theorem xP {α:Type}(xs:List α)(k:Nat):(List.replicate k xs).flatten.length=k*xs.length:=by
 induction k with
 | zero=>simp
 | succ k ih=>rw [ÿ,Ĕ,Ð,ih,Nat.succ_mul,Nat.add_comm]
theorem uD:ij X (binaryOp .Mult) qY:=by
 intro Ã s σ H x y v u Q I rx ry h;obtain⟨l,k,xs,rfl,rfl,hH,h1,h2,hz,q⟩:=h;cases rx;obtain⟨t,rfl⟩:=ry;obtain⟨z,its,n,r,hl,e⟩:=I.PK hH;have ķ:its.toArray.size*k.toNat<=sizeLine:=by rw [â,<- hl];exact hz
 have VZ:¬ its.toArray.size*k.toNat>(2^63-1)/8:=by
  have:(sizeLine:Nat)<=(2^63-1)/8:=ad;omega
 have VO:¬ (!Builtin.List.listFitsIndex k)=true:=by
  rw [fitsIndex_both h1 h2];exact Ó
 have SG:¬ Builtin.List.listTooLong (its.toArray.size*k.toNat)=true:=by
  rw [sy ķ];exact Ó
 have VG:List.foldl (λ x1 x2=>x1++x2) #[] (List.replicate (if its.toArray.isEmpty=true then 0 else k.toNat) its.toArray)=(List.replicate k.toNat its).flatten.toArray:=by
  have f0:∀ m:Nat,List.foldl (λ x1 x2=>x1++x2) #[] (List.replicate m its.toArray)=(List.replicate m its).flatten.toArray:=λ m=>by
   have:=kH its m [];rw [List.nil_append] at this;exact this
  rw [f0];cases its with
  | nil=>simp
  | cons a r'=>rw [Ø (by simp)]
 refine wpAny_binaryOp_repeat_ref (T:="list") (U:="int") ad ⟨_,e,rfl⟩ (λ s'=>LL s' k t) noFill_list_mul F.fills_int_mul F.slot_int_rmul repeat_list F.slot_int_index.lookup
  (LM F.slot_int_rmul (LL s k t) F.entry_int_rmul (F.args_int_rmul_2 _ _) (int___rmul___int_list k t l its.toArray n)
   ⟨e,rfl,⟨_,e,rfl⟩,LM F.slot_list_mul ⟨_,e,rfl⟩ F.entry_list_mul (F.args_list_mul_2 _ _) (AutoListH.list___mul___list_int_3 l its.toArray n k t VO VZ SG) ⟨e,?_⟩⟩)
 rw [VG];exact⟨.ref _,_,I.NS (t':=s.toks) (r.rep k.toNat) (by rw [xP,Nat.mul_comm];exact hz),rfl,q _ I.fresh⟩
end
section
variable {κ:Type} [DecidableEq κ]
def eY (kvs:List (κ × V))(k:κ):Option V:=(kvs.find? λ kv=>decide (kv.1=k)).map (·.2)
def jK (kvs:List (κ × V))(k:κ)(v:V):List (κ × V) :=
 if(kvs.any λ kv=>decide (kv.1=k))=true then kvs.map (λ kv=>if kv.1=k then(kv.1,v) else kv) else kvs ++ [(k,v)]
theorem cJ {p:κ × V}{r:List (κ × V)}{k:κ}(e:p.1=k):eY (p::r) k=some p.2:=by simp [eY,List.find?_cons,e]
theorem cG {p:κ × V}{r:List (κ × V)}{k:κ}(e:¬ p.1=k):eY (p::r) k=eY r k:=by simp [eY,List.find?_cons,e]
theorem jO (k:κ):∀ kvs:List (κ × V),(kvs.any λ kv=>decide (kv.1=k))=(eY kvs k).isSome
 | []=>rfl
 | p::r=>by
  rw [Pu];by_cases e:p.1=k
  ·simp only [cJ e,decide_eq_true e,Bool.true_or,Option.isSome_some]
  ·rw [cG e,É e,Bool.false_or];exact jO k r
theorem on (k j:κ)(y:V):∀ kvs:List (κ × V),eY (kvs.map λ kv=>if kv.1=k then(kv.1,y) else kv) j=(eY kvs j).map λ x=>if j=k then y else x
 | []=>rfl
 | p::r=>by
  have ih:=on k j y r;rw [ô];by_cases h:p.1=k
  ·rw [à h];by_cases e:p.1=j
   ·rw [cJ (p:=(p.1,y)) e,cJ e,o_,à (e.symm.trans h)]
   ·rw [cG (p:=(p.1,y)) e,cG e,ih]
  ·rw [Ø h];by_cases e:p.1=j
   ·rw [cJ (p:=p) e,cJ e,o_,Ø (λ z=>h (e.trans z))]
   ·rw [cG (p:=p) e,cG e,ih]
theorem kQ (k j:κ)(y:V):∀ kvs:List (κ × V),eY kvs k=none->eY (kvs ++ [(k,y)]) j=if j=k then some y else eY kvs j
 | [],_=>by
  by_cases e:k=j
  ·rw [à e.symm];exact cJ (p:=(k,y)) e
  ·rw [Ø (λ z=>e z.symm)];exact cG (p:=(k,y)) e
 | p::r,hn=>by
  rw [List.cons_append];have hk:¬ p.1=k:=λ z=>by rw [cJ z] at hn;cases hn
  rw [cG hk] at hn;have ih:=kQ k j y r hn;by_cases e:p.1=j
  ·rw [cJ e,cJ e,Ø (λ z=>hk (e.trans z))]
  ·rw [cG e,cG e,ih]
theorem sO (kvs:List (κ × V))(k j:κ)(y:V):eY (jK kvs k y) j=if j=k then some y else eY kvs j:=by
 unfold jK;by_cases a:(kvs.any λ kv=>decide (kv.1=k))=true
 ·rw [à a,on];rw [jO] at a;by_cases e:j=k
  ·obtain⟨x,hx⟩:=Ĵ.mp a;rw [à e,e,hx,o_,à rfl]
  ·rw [Ø e];cases eY kvs j with
   | none=>rfl
   | some x=>rw [o_,Ø e]
 ·rw [Ø a];refine kQ k j y kvs ?_;rw [jO] at a;cases q:eY kvs k with
  | none=>rfl
  | some x=>rw [q] at a;exact(a rfl).elim
theorem iO (kvs:List (κ × V))(k:κ)(v:V):(jK kvs k v).length<=kvs.length+1:=by
 unfold jK;split
 ·rw [Ä];omega
 ·rw [Ð,ú,NL];omega
theorem KV.val {kvs:List (κ × V)}{vs:List (κ × Value)}(r:KV kvs vs)(k:κ):Υ (eY kvs k) (valueAt vs k):=by
 unfold KV at r
 induction r with
 | nil=>exact True.intro
 | @cons p q ps qs h t ih =>
  obtain⟨h1,h2⟩:=h;by_cases e:p.1=k
  ·have e':q.1=k:=h1.symm.trans e;have b:valueAt (q::qs) k=some q.2:=by simp [valueAt,List.find?_cons,e']
   rw [cJ e,b];exact h2
  ·have e':¬ q.1=k:=λ z=>e (h1.trans z);have b:valueAt (q::qs) k=valueAt qs k:=by simp [valueAt,List.find?_cons,e']
   rw [cG e,b];exact ih
theorem KV.any {kvs:List (κ × V)}{vs:List (κ × Value)}(r:KV kvs vs)(k:κ):(kvs.any λ kv=>decide (kv.1=k))=vs.any λ kv=>decide (kv.1=k):=by
 unfold KV at r
 induction r with
 | nil=>rfl
 | cons h t ih=>rw [Pu,Pu,ih,h.1]
theorem KV.Uu {kvs:List (κ × V)}{vs:List (κ × Value)}(r:KV kvs vs)(k:κ){y:V}{u:Value}(ry:RelV y u) :
  KV (kvs.map λ kv=>if kv.1=k then(kv.1,y) else kv) (vs.map λ kv=>if kv.1=k then(kv.1,u) else kv):=by
 unfold KV at r ⊢
 induction r with
 | nil=>exact .nil
 | @cons p q ps qs h t ih =>
  rw [ô,ô];refine .cons ?_ ih;obtain⟨h1,h2⟩:=h;by_cases e:p.1=k
  ·rw [à e,à (h1.symm.trans e)];exact⟨h1,ry⟩
  ·rw [Ø e,Ø (λ z=>e (h1.trans z))];exact⟨h1,h2⟩
theorem KV.put {kvs:List (κ × V)}{vs:List (κ × Value)}(r:KV kvs vs)(k:κ){y:V}{u:Value}(ry:RelV y u):KV (jK kvs k y) (stored vs k u):=by
 unfold jK stored;rw [r.any k];by_cases e:(vs.any λ kv=>decide (kv.1=k))=true
 ·rw [à e,à e];exact r.Uu k ry
 ·rw [Ø e,Ø e];exact Paired.snoc r ⟨rfl,ry⟩
theorem KV.length {kvs:List (κ × V)}{vs:List (κ × Value)}(r:KV kvs vs):kvs.length=vs.length:=Paired.length r
end
theorem sg {P:Program}{w:World}{k:Key}{u:Value}(r:RelV (kV k) u):(bP P w).is k u=true:=by
 cases k with
 | inl i=>obtain⟨t,e⟩:=(show ∃ t,u=Value.int i t from r);subst e;exact mv P w i t
 | inr x=>obtain⟨t,e⟩:=(show ∃ t,u=Value.str x t from r);subst e;exact nQ P w x t
 | ù=>cases (show u=Value.none from r);rfl
theorem kj {P:Program}{w:World}:∀{ks:List Key}{us:List Value},Vals (ks.map kV) us->ItemsAre (bP P w) ks us
 | [],_,r=>by rw [MU] at r;cases r;exact .nil
 | k::ks,_,r=>by
  rw [ô] at r;cases r with
  | cons h t=>exact .cons (sg h) (kj t)
abbrev KT (H:Hp):List (List Key × V)->List (List Key × Addr × Value)->Prop:=Paired λ p q=>p.1=q.1/\H q.2.1=some (.tup (p.1.map kV))/\RelV p.2 q.2.2
theorem KT.val {H:Hp}{kvs:List (List Key × V)}{xs:List (List Key × Addr × Value)}(r:KT H kvs xs)(k:List Key):Υ (eY kvs k) ((atKey xs k).map (·.2)):=by
 induction r with
 | nil=>exact True.intro
 | @cons p q ps qs h t ih =>
  obtain⟨h1,_,h2⟩:=h;by_cases e:p.1=k
  ·have e':q.1=k:=h1.symm.trans e;have b:atKey (q::qs) k=some q.2:=by simp [atKey,List.find?_cons,e']
   rw [cJ e,b];exact h2
  ·have e':¬ q.1=k:=λ z=>e (h1.trans z);have b:atKey (q::qs) k=atKey qs k:=by simp [atKey,List.find?_cons,e']
   rw [cG e,b];exact ih
section
variable {P:Program}{w:World}{H:Hp}{h:Heap}{a:Addr}
theorem yD {u:HO}(ok:Θ P w H h)(e:Rd H a u):Ā P w H h a u:=e.ok ok
theorem tH {kvs:List (Key × V)}(ok:Θ P w H h)(e:Rd H a (.dK kvs)):kvs.length<=sizeLine/\(a==sysModules)=false/\∃ vs,KV kvs vs/\h.DictOf (bP P w) a vs :=
 show Ā P w H h a (.dK kvs) from yD ok e
theorem Ez {kvs:List (Key × V)}(ok:Θ P w H h)(e:H a=some (.dK kvs)):kvs.length<=sizeLine/\(a==sysModules)=false/\∃ vs,KV kvs vs/\h.DictOf (bP P w) a vs:=tH ok (.inl e)
theorem sC {ks:List Key}(ok:Θ P w H h)(e:H a=some (.tup (ks.map kV))):(tupleKind (bP P w)).is h ks a:=by
 obtain⟨_,its,r,o,h1,h2,n,h3⟩:=(show Ā P w H h a (.tup (ks.map kV)) from ok a _ e);exact⟨o,its.toArray,n,h1,h2,h3,by simpa using kj r⟩
theorem yt {kvs:List (List Key × V)}(ok:Θ P w H h)(e:Rd H a (.dT kvs)):kvs.length<=sizeLine/\(a==sysModules)=false /\
  ∃ xs,KT H kvs xs/\h.DictOfH (tupleKind (bP P w)) a xs:=by
 obtain⟨z,y,xs,r,o,es,ep,h1,h2,h3,h4,h5⟩:=(show Ā P w H h a (.dT kvs) from yD ok e);refine⟨z,y,xs,r,o,es,ep,h1,h2,h3,h4,λ x hx=>?_,h5⟩;have all:∀{l:List (List Key × V)}{m:List (List Key × Addr × Value)},KT H l m->∀ x∈m,(tupleKind (bP P w)).is h x.1 x.2.1:=by
  intro l m q
  induction q with
  | nil=>intro x hx;exact nomatch hx
  | @cons p q ps qs hq t ih =>
   intro x hx;rcases ç.mp hx with e | hx
   ·subst e;exact sC ok (by rw [<- hq.1];exact hq.2.1)
   ·exact ih x hx
 exact all r x hx
end
def Nu (H:Hp)(a:Addr)(y:V)(r:Option V):Prop :=
 (∃ kvs k,Rd H a (.dK kvs)/\y=kV k/\r=eY kvs k)\/∃ kvs k b,Rd H a (.dT kvs)/\y=.ref b/\H b=some (.tup (k.map kV))/\r=eY kvs k
theorem Nu.k {H:Hp}{a:Addr}{kvs:List (Key × V)}{k:Key}(e:H a=some (.dK kvs)):Nu H a (kV k) (eY kvs k):=.inl ⟨kvs,k,.inl e,rfl,rfl⟩
section
variable {X:Cx}{Ã:List (Addr × Obj)}{σ:St}{H:Hp}{s:Shared}{a:Addr}{y v:V}{u r:Value}{o:Option V}{A:Around}{E:cy}
theorem Inv.big (I:Inv X Ã σ H s):sysModules<s.heap.objs.size:=by
 have h:mainGlobals<s.heap.objs.size:=(I.mod.glob.keeps I.bk).lt;exact MT ad h
theorem rP {Q:cy}(hu:A.units+1<cLine)(I:Inv X Ã σ H s)(g:Nu H a y (some v))(ry:RelV y u)(h:∀ w' s',Inv X Ã σ H s'->RelV v w'->Q w' s') :
  wpAny (model X.prog X.w) A (getItem (.ref a) u) Q E s:=by
 rcases g with⟨kvs,k,e,ey,l⟩ | ⟨kvs,k,b,e,ey,eb,l⟩
 ·subst ey;obtain⟨z,hd,vs,rel,dd⟩:=tH I.Ć e;obtain⟨w',hw,N8⟩:=Υ.some_of (v:=v) (o:=valueAt vs k) (by rw [l];exact rel.val k)
  exact wpAny_getItem_of (sg ry) dd.mapOf hw (h w' _ (I.tok _) N8)
 ·subst ey;cases (show u=Value.ref b from ry);obtain⟨z,hd,xs,rel,dd⟩:=yt I.Ć e;obtain⟨w',hw,N8⟩:=Υ.some_of (v:=v) (o:=(atKey xs k).map (·.2)) (by rw [l];exact rel.val k)
  obtain⟨p,hp,SB⟩:=á.mp hw;refine wpAny_getItem_heap (tupleKind_room_in1 hu) (sC I.Ć eb) dd hp ?_;rw [SB];exact h w' _ (I.tok _) N8
theorem ww {h':Heap}{t':Nat}{ob:HO}(I:Inv X Ã σ H s)(mu:Gz (H a))(hs:Heap.SameBut a s.heap h')(he:∃ q,h'.get? a=some q)(new:Ā X.prog X.w (af H a ob) h' a ob) :
  Inv X Ã σ (af H a ob) { s with heap:=h',toks:=t' } :=
 I.write (x:=a) (e:=a) mu (.inl rfl) (λ b q hb z=>(hs.2 b hb).trans z) he new
theorem Dy {P:Program}{w:World}{H':Hp}{h':Heap}{kvs:List (Key × V)}{vs:List (Key × Value)}(z:kvs.length<=sizeLine)(hd:(a==sysModules)=false)(rel:KV kvs vs)(dd:h'.DictOf (bP P w) a vs) :
  Ā P w H' h' a (.dK kvs):=⟨z,hd,vs,rel,dd⟩
end
def GK (i:Expr):Prop:=∀ ov iv,subscripted i false ov iv=operate [ov,iv] (getItem ov iv)
theorem xu {prog:Program}{w:World}{A:Around}{E:cy}{s:Shared}{env:Env}{value slice:Expr}{pos:Pos}{T id:String}{Q:cy}
  (hl:typeLookup (.type T) "__getitem__" = pure (some (.builtin id)))(hs:GK slice)
  (h:wpAny (model prog w) A (eval value env) (λ o Ą=>wpAny (model prog w) A (eval slice env) (λ i ő=>ő.TypeIs o T/\wpAny (model prog w) A (getItem o i) Q E ő) E Ą) E s) :
  wpAny (model prog w) A (eval (.Subscript value slice pos) env) Q E s:=by
 refine Subscript_ (æ h (λ o Ą Ņ=>æ Ņ (λ i ő LB=>?_) λ _ _ x=>x) λ _ _ x=>x);obtain⟨hT,LB⟩:=LB;unfold subscriptTail;refine À ?_;rw [getitemInPython_of_ne hT.not_modules];refine À (Qw hT hl ?_);have fin:wpAny (model prog w) A (subscripted slice false o i) (λ r j_=>wpAny (model prog w) A (letTemporaryGo value o r >>= λ _=>pure r) Q E j_) E ő:=by
  rw [hs o i];exact wpAny_operating (æ LB (λ r j_ Nk=>À (wpAny_letTemporaryGo (Æ Nk))) λ _ _ x=>x)
 first
  | exact Æ (À fin)
  | exact À (Æ (À fin))
  | exact À fin
theorem nE {X:Cx}{Ã:List (Addr × Obj)}{σ:St}{H:Hp}{s:Shared}{a:Addr}{y:V}{o:Option V}(I:Inv X Ã σ H s)(g:Nu H a y o):s.TypeIs (.ref a) "dict" := by
 rcases g with⟨kvs,k,e,_,_⟩ | ⟨kvs,k,b,e,_,_,_⟩
 ·obtain⟨_,_,vs,_,dd⟩:=tH I.Ć e;exact dd.typeIs
 ·obtain⟨_,_,xs,_,dd⟩:=yt I.Ć e;exact dd.typeIs
def yJ (td ty:TE):TE:=λ σ H Q=>td σ H λ x H1=>ty σ H1 λ y H2=>∃ a v,x=.ref a/\Nu H2 a y (some v)/\Q v H2
section
variable {X:Cx}{o i e value:Expr}{pos pos' QG:Pos}{td ty tv:TE}
theorem vq (hu:X.A.units+1<cLine)(ho:PE X o td)(hi:PE X i ty)(hs:GK i:=by exact λ _ _=>rfl):PE X (.Subscript o i pos) (yJ td ty):=by
 intro Ã s σ H Q I h;refine xu PySem.F.slot_dict_getitem.lookup hs (aW (ho Ã s σ H _ I h) λ u s1 ⟨x,H1,I1,rx,q1⟩=>aW (hi Ã s1 σ H1 _ I1 q1) λ iv s2 ⟨y,H2,I2,ry,a,v,ex,g,q2⟩=>?_);subst ex;obtain rfl:u=Value.ref a:=rx;exact⟨nE I2 g,rP hu I2 g ry λ w' s3 I3 N8=>⟨v,H2,I3,N8,q2⟩⟩
end
theorem nZ {P:Program}{w:World}{H:Hp}(h:Heap)(hb:sysModules<h.objs.size):Ā P w H (h.push { cls:=.type "dict",data:=.dict #[] }) h.objs.size (.dK []) :=
 ⟨ŏ _,Ù.mpr (Ne.symm (Î hb)),[],.nil,Heap.DictOf.new h⟩
def mh:TE:=λ _ H Q=>∀ p,H p=none->Q (.ref p) (af H p (.dK []))
section
variable {X:Cx}{pos:Pos}
theorem mI:PE X (.Dict [] [] pos) mh:=λ Ã s σ H Q I h =>
 wpAny_Dict_empty ⟨.ref s.heap.objs.size,_,I.laid (a:=s.heap.objs.size) (o:=.dK []) (t':=s.toks) (λ _ _ q=>Á _ q) (Ç _) (nZ s.heap I.big),rfl,h _ (I.Ć.fresh (Ç _))⟩
end
structure M1 (X:Cx)(o:Expr)(m:Str)(ů:Pos)(e:Expr) (Τ:Pos):Prop where
 base:attributeBase o m X.env (eval o X.env)=eval o X.env
 few:((backTo Τ (starEach [e] X.env)).all (λ x=>!x.1)&&(backToKw Τ (keywordEach [] X.env)).all (λ x=>x.1.isSome)
  && decide (([e]:List Expr).length+([]:List Keyword).length+(if([]:List Keyword).isEmpty then 0 else 1)<30))=true
 line:(ů.endLine == Τ.line)=true
 trees:backTo Τ (starEach [e] X.env)=[(false,eval e X.env)]
structure M2 (X:Cx)(o:Expr)(m:Str)(ů:Pos)(e f:Expr) (Τ:Pos):Prop where
 base:attributeBase o m X.env (eval o X.env)=eval o X.env
 few:((backTo Τ (starEach [e,f] X.env)).all (λ x=>!x.1)&&(backToKw Τ (keywordEach [] X.env)).all (λ x=>x.1.isSome)
  && decide (([e,f]:List Expr).length+([]:List Keyword).length+(if([]:List Keyword).isEmpty then 0 else 1)<30))=true
 line:(ů.endLine == Τ.line)=true
 trees:backTo Τ (starEach [e,f] X.env)=[(false,eval e X.env),(false,eval f X.env)]
end L2
namespace Att
open PySem PySem.W PySem.Calls PyProof.Rows
theorem i3 {P:Params}{h:Heap}:∀(ns:List Int)(vs:List Value),WellAll P h vs (ns.map WData.int)->IntsAre vs ns:=by
 intro ns
 induction ns with
 | nil =>
  intro vs w;rw [MU] at w;cases w;exact .nil
 | cons n ns ih =>
  intro vs w;rw [ô] at w;cases w with
  | cons a b =>
   cases a;exact .cons _ _ (ih _ b)
theorem rC {l:OpenLaw}{n:Nat}(hn:l.most=some n){P:Params}{h:Heap}{args:List WData}{vals:List Value}
  (PM:l.row.toRowW.claim.pre args=true)(Vs:WellAll P h vals args) :
  ∃ a vs ns,vals=[Value.ref a]/\args=[WData.list (ns.map WData.int)]/\h.get? a=some { cls:=.type "list",data:=.seq vs.toArray }/\IntsAre vs ns/\ns.length<=n:=by
 have hsh:WShape.hasAll [] args [.list .int]=true:=(pre_splitW PM).1;have hc:l.pre.holds [] { args:=args }=true:=(pre_splitW PM).2;obtain⟨d,r,rfl,h1,h2⟩:=hasAllW_cons hsh;obtain rfl:=hasAllW_nil h2;obtain⟨xs,rfl,h3⟩:=hasW_list h1;obtain⟨ns,rfl⟩:=items_int h3;have ķ:ns.length<=n:=by
  unfold OpenLaw.pre at hc;have h4:(WTm.not (.lt (.lit (.int (n:Int))) (.len (.arg 0)))).holds [] { args:=[.list (ns.map .int)] }=true:=by
   have h4:=(holds_andW hc).1;rw [hn] at h4;exact h4
  have h5:=condW_of h4 (w_not (w_lt w_lit (w_len_list (w_arg rfl))));rw [Ä] at h5;refine Nat.le_of_not_lt λ q=>?_;have q':(n:Int)<((ns.length:Nat):Int):=am
  first
   | (rw [Å q'] at h5;exact absurd h5 ad)
   | (simp at h5;omega)
 cases Vs with
 | cons w1 w2 =>
  cases w2;cases w1 with
  | list ho V3=>exact⟨_,_,ns,rfl,rfl,ho,i3 ns _ V3,ķ⟩
theorem qz (l:OpenLaw)(args:List WData):l.row.toRowW.claim.post args (.bool true) args=true :=
 postW_of (r:=l.row.toRowW) (X:=(true==true))
  (show WShape.has [] (.bool true) .bool=true by first | rfl | decide | simp [WShape.has,WShape.arms,WShape.armsAll])
  (show(WTm.eq .res (.lit (.bool true))).value [] { args:=args,res:=some (.bool true),after:=args }=some (.bool (true==true)) from w_eq_bool (w_res rfl) w_lit) rfl
end Att
namespace L2
open PySem PySem.Spec PyProof.Rows
theorem iJ:∀{vs:List Value}{ns:List Int},IntsAre vs ns->Vals (ns.map V.int) vs
 | _,_,.nil=>.nil
 | _,_,.cons n t h=>.cons ⟨t,rfl⟩ (iJ h)
def Dz (H:Hp):Prop:=∀ b,H b=none\/∃ o xs,H b=some (.MP o (.lst xs))
def aE (s:Stmt)(j:Nat):Stmt:=match s with
 | .ClassDef _ _ _ body _ _ _ _ _ _ _=>body.getD j (.Pass ⟨0,0,0,0⟩)
 | _=>.Pass ⟨0,0,0,0⟩
def dB (s:Stmt):Arguments:=match s with
 | .FunctionDef _ a _ _ _ _ _ _ _ _=>a
 | _=>{ posonlyargs:=[],args:=[],vararg:=none,kwonlyargs:=[],kw_defaults:=[],kwarg:=none,defaults:=[] }
def aH (s:Stmt):List Stmt:=match s with
 | .FunctionDef _ _ b _ _ _ _ _ _ _=>b
 | _=>[]
def aa (s:Stmt):Scope:=match s with
 | .FunctionDef _ _ _ _ _ _ sc _ _ _=>sc
 | _=>{ kind:=.function,names:=[],isGenerator:=false,isCoroutine:=false }
abbrev ay:jv:=λ _ _ _ _ _ _=>False
abbrev E0:XK:=λ _ _ _=>False
theorem ai {X:Cx}:cR ay X E0:=λ _ _ _ _ _ _ _ h=>h.elim
structure ğ (K:PySem.W.Frag)(x qual:Str)(st:Stmt)(f:Addr)(fd:FuncData):Prop where
 ex:∃(oc:Value)(od:Option Addr)(kV doc pm:Value)(an:Option Addr)(cdv ct:Value)(N9:Array (Option Value)),
  fd=PySem.W.fnOf x qual (dB st) (aH st) (aa st) .none kV doc pm an cdv ct/\K.lookup f=some ⟨oc,od,.func fd,N9⟩/\PySem.W.codeIn K cdv qual=true
 kp:PySem.W.keepIn K (.ref f)=true
section
variable {P:Program}{w:World}{K:PySem.W.Frag}{mg:bv}{base:Heap}
theorem ğ.ok {x qual:Str}{st:Stmt}{f:Addr}{fd:FuncData}{N ps:List Str}{k:Nat}{sp:Sp}(F:ğ K x qual st f fd)(S:ae N ps (aa st))(len:∀ vs H Q E,sp vs H Q E->vs.length=ps.length)
  (Ż:∀(cdv:Value)(A:Around)(outer:List Env)(s:Shared)(H:Hp)(vs:List V)(Q:VK)(E:XK),ö k (A.deeper (envOfC qual (aa st) s.heap.objs.size f cdv))->sp vs H Q E ->
   ∃ t,Ų (br ay P w K mg base N qual (aa st) f cdv A outer s H E).Ŝ (aH st) t/\t { nx:=λ _ H'=>Q .ù H',rt:=Q } (c7 N vs) H):ß P w K mg base ay (k+1) f fd ps sp:=by
 obtain⟨oc,od,kV,doc,pm,an,cdv,ct,N9,rfl,lk,M5⟩:=F.ex;refine yC lk M5 S len λ A outer s H vs Q E hr MN=>?_;obtain⟨t,h,q⟩:=Ż cdv A outer s H vs Q E hr MN;exact⟨t,h.Ŝ,q⟩
theorem cw {x qual:Str}{st:Stmt}{f:Addr}{fd:FuncData}{N ps:List Str}{k:Nat}{sp:Sp}(F:ğ K x qual st f fd)(S:ae N ps (aa st))
  (Ż:∀(cdv:Value)(A:Around)(outer:List Env)(s:Shared)(H:Hp)(vs:List V)(Q:VK)(E:XK),ö k (A.deeper (envOfC qual (aa st) s.heap.objs.size f cdv))->sp vs H Q E ->
   ∃ t,Ų (br ay P w K mg base N qual (aa st) f cdv A outer s H E).Ŝ (aH st) t/\t { nx:=λ _ H'=>Q .ù H',rt:=Q } (c7 N vs) H)(len:∀ vs H Q E,sp vs H Q E->vs.length=ps.length:=by intro vs H Q E h;repeat (first | (obtain⟨rfl,_⟩:=h;rfl) | (obtain⟨_,h⟩:=h))):ß P w K mg base ay (k+1) f fd ps sp:=F.ok S len Ż
theorem ğ.binds {x qual:Str}{st:Stmt}{f:Addr}{fd:FuncData}{ps:List Str}(F:ğ K x qual st f fd)
  (h:∀(kV doc pm:Value)(an:Option Addr)(cdv ct:Value)(us:List Value),us.length=ps.length->bindArgs (PySem.W.fnOf x qual (dB st) (aH st) (aa st) .none kV doc pm an cdv ct) ⟨us,[]⟩=pure (ps.zip us)):Binds K fd ps []:=by
 obtain⟨oc,od,kV,doc,pm,an,cdv,ct,N9,rfl,lk,M5⟩:=F.ex;exact .all (h kV doc pm an cdv ct)
theorem Š {x qual:Str}{st:Stmt}{f:Addr}{oc:Value}{od an:Option Addr}{N9:Array (Option Value)}{kV doc pm cdv ct:Value}(l:K.lookup f=some ⟨oc,od,.func (PySem.W.fnOf x qual (dB st) (aH st) (aa st) .none kV doc pm an cdv ct),N9⟩)
  (c:PySem.W.codeIn K cdv qual=true)(k:PySem.W.keepIn K (.ref f)=true):ğ K x qual st f (PySem.W.fnOf x qual (dB st) (aH st) (aa st) .none kV doc pm an cdv ct):=⟨⟨oc,od,kV,doc,pm,an,cdv,ct,N9,rfl,l,c⟩,k⟩
end
section
variable {X:Cx}
theorem pv (i:Nat){x:Str}{pos:Pos}(hN:X.N[i]?=some x:=by rfl)(hv:yu X.env.scope x:=by first | exact Or.inl rfl | exact Or.inr (Or.inl rfl) | exact Or.inr (Or.inr rfl))(hd:(x==("__debug__" : Str))=false:=by decide)
  (M5:(x==("__classdict__" : Str))=false:=by decide):PE X (.Name x pos) (ar i):=zU hN hv hd M5
end
theorem pB {c A B:Prop} [Decidable c] (h1:c->A)(h2:¬ c->B):if c then A else B:=by
 by_cases h:c
 ·rw [à h];exact h1 h
 ·rw [Ø h];exact h2 h
end L2
set_option maxHeartbeats 4000000
namespace Att
open PySem PySem.W PySem.Calls PyProof.Rows
theorem pA {R:WRecords}{cl:Str->Option Addr}{h:Heap}{a:Addr}{ds:List WData}{as:List Addr}(r:ReadsAllW R cl h [.ref a] [.list ds] as):a∈as:=by
 cases r with
 | cons r1 r2 =>
  cases r1 with
  | list=>simp
theorem MF {l:OpenLaw}{n:Nat}{q:Program}{loose:List Str}{XP:(Str->Option Value)->Heap->Prop}{YP:World->Heap->Prop}{d:DefRec}
  (hn:l.most=some n)(SI:d.params.defaults=[])
  (call:∀(w:World)(œ Ą:Shared)(mg mb:bv)(fa:Addr)(o:Obj)(pm cd doc:Value)(a:Addr)(vs:List Value)(ns:List Int),
   Ground q loose [] XP w œ mg mb Ą.heap->YP w Ą.heap ->
   Ą.heap.get? fa=some o->o.data=.func (docDef d.name d.params d.body d.scope pm cd doc)->Ą.heap.CodeRec cd d.name->mg d.name=some (.ref fa) ->
   Ą.heap.get? a=some { cls:=.type "list",data:=.seq vs.toArray }->IntsAre vs ns->ns.length<=n->Ą.gens = #[]->a≠sysModules ->
   codeAny (model l.prog w) callerA (.call (.ref fa) ⟨[.ref a],[]⟩) (λ r s'=>r=.ok (.ret (.bool true))/\OldK Ą.heap s'.heap/\s'.os = Ą.os/\AllBare s'.gens) Ą) :
  WalkO q loose XP YP l.row.toRowW d [] (λ f vs=>PySem.call f vs):=by
 intro w œ Ą mg mb G Y fa o pm cd doc dV kV ho hd M5 hD SE hg args vals as PM aa1 hrd Vs hlo;obtain rfl:dV=.none:=Dflts.none hD SI;obtain rfl:kV=.none:=Dflts.noKw hD;obtain⟨a,vs,ns,rfl,rfl,QS,hints,ķ⟩:=rC hn PM Vs;have low:a≠sysModules:=Ù.mp (hlo a (pA hrd));refine enter_call (ŉ (call w œ Ą mg mb fa o pm cd doc a vs ns G Y ho (fd_plain hd) M5 SE QS hints ķ hg low) λ r s' hq=>?_);obtain⟨rfl,h2,h3,h4⟩:=hq;exact⟨.inl ⟨.bool true,.bool true,[],rfl,λ _=>rfl,.bool true,qz l _,λ _=>⟨List.Pairwise.nil,λ _ hm=>(nomatch hm)⟩⟩,h2,h3,h4⟩
end Att
namespace L2
open PySem PySem.Spec PyProof.Rows
theorem qK {P:Program}{w:World}{K:PySem.W.Frag}{mg mb:bv}{CX:jv}{k:Nat}{fa a:Addr}{fd:FuncData}{x:Str}{sp:Sp}{Ą:Shared}{vs:List Value}{ns:List Int}
  (KX:K.In Ą.heap)(Xd:Ą.heap.Ns mainGlobals mg)(hb:Ą.heap.Ns builtinsNs mb)(hbb:∀ x:Str,x ≠ "__name__" -> mb x=bootBuiltins x)(VI:Ą.heap.NoLimit)(hg:Ą.gens = #[])
  (ha:Ą.heap.get? a=some { cls:=.type "list",data:=.seq vs.toArray })(hi:IntsAre vs ns)(hl:ns.length<=sizeLine)(hr:ö k callerA)(low:a≠sysModules)
  (F:∀ base:Heap,K.In base->base.Ns mainGlobals mg->ß P w K mg base CX k fa fd [x] sp)(SK:∀(s:Shared)(u:Value),BindsTo s fd ⟨[u],[]⟩ [(x,u)])
  (MN:∀ H:Hp,Dz H->ó K H a (ns.map V.int)->H sysModules=none->sp [.ref a] H (λ v _=>v=.bl true) λ _ _ _=>False)
  (V5:∀ H e s',CX [] H Ą (λ _ _ _=>False) e s'->False) :
  codeAny (model P w) callerA (.call (.ref fa) ⟨[.ref a],[]⟩) (λ r s'=>r=.ok (.ret (.bool true))/\OldK Ą.heap s'.heap/\s'.os = Ą.os/\AllBare s'.gens) Ą:=by
 have rv:=iJ hi;have Va:=hi.length;have core:∀ H:Hp,Dz H->ó K H a (ns.map V.int)->Θ P w H Ą.heap->(∀ b,H b≠none->b=a)->(H a≠none->K.lookup a=none) ->
   codeAny (model P w) callerA (.call (.ref fa) ⟨[.ref a],[]⟩) (λ r s'=>r=.ok (.ret (.bool true))/\OldK Ą.heap s'.heap/\s'.os = Ą.os/\AllBare s'.gens) Ą:=by
  intro H hO hS Ć hA hK;have hz:H sysModules=none:=by
   cases q:H sysModules with
   | none=>rfl
   | some u=>exact absurd (hA _ (by rw [q];simp)).symm low
  have NF:∀{b:Addr}{o:Obj},Ą.heap.get? b=some o->H b=none->(l7 Ą.heap H).get? b=some o:=λ e n=>uO e n;have PF:∀{b:Addr}{o:Obj}{es:Array DictEntry}{ep:Nat},Ą.heap.get? b=some o->o.data=.dict es ep->H b=none:=λ {b o es ep} e d=>by
   cases q:H b with
   | none=>rfl
   | some u =>
    have e':b=a:=hA b (by rw [q];simp)
    subst e';rw [ha] at e;cases e;have d':Data.seq vs.toArray _=Data.dict es ep:=d;cases d'
  have Ts:∀{b:Addr}{m:bv},Ą.heap.Ns b m->(l7 Ą.heap H).Ns b m:=λ {b m} ⟨o,es,ep,e,d,r⟩=>⟨o,es,ep,NF e (PF e d),d,r⟩;have Xo:K.In (l7 Ą.heap H):=λ b o e=>NF (KX b o e) (by
   cases q:H b with
   | none=>rfl
   | some u =>
    have e':b=a:=hA b (by rw [q];simp)
    subst e';rw [hK (by rw [q];simp)] at e;cases e)
  have hM:Mod K mg (l7 Ą.heap H):=⟨Xo,Ts Xd,⟨mb,Ts hb,hbb⟩,let ⟨mc,h1,h2⟩:=VI;⟨mc,Ts h1,h2⟩⟩
  have e0:MG P w K mg (l7 Ą.heap H) callerA [] Ą H:=⟨rfl,hM,λ b o e=>wf e,i_ (rL _ _),trivial,λ b hb=>absurd (show b∈([]:List Addr) from hb) (by simp),Ć,.of_eq hg⟩
  refine ŉ ((F _ Xo (Ts Xd)).run callerA [] Ą H ⟨[.ref a],[]⟩ [.ref a] [.ref a] _ _ hr e0 (SK Ą (.ref a)) (.cons rfl .nil) (MN H hO hS hz)) λ r s' h=>?_;cases r with
  | error e=>exact(V5 H e s' h).elim
  | ok fl =>
   cases fl with
   | next=>exact False.elim h
   | brk=>exact False.elim h
   | cont=>exact False.elim h
   | ret u =>
    obtain⟨v,H',os,bare,un,VB,r',q⟩:=h;have q':v=.bl true:=q;subst q';obtain rfl:u=Value.bool true:=r';refine⟨rfl,OldK.of_keep λ b o e=>?_,os,bare⟩;cases q:H b with
    | none=>exact un.keep b o e q (by intro z;exact absurd (show b∈([]:List Addr) from z) (by simp)) (by simp)
    | some u =>
     rcases hO b with z | ⟨ob,xs,z⟩
     ·rw [q] at z;cases z
     ·have z2:=un.B_ b ob _ z;obtain⟨e1,_⟩:=Ć b _ z;obtain⟨e2,_⟩:=VB b _ z2;rw [e] at e1;cases e1;exact e2
 cases hk:K.lookup a with
 | some o =>
  have e:=KX a o hk;rw [ha] at e;cases e;refine core (λ _=>none) (λ _=>.inl rfl) (.inr ⟨_,vs.toArray,_,hk,rfl,rfl,rfl,by rw [â,Va];exact hl,by simpa using rv⟩) (λ b u z=>by have z':(none:Option HO)=some u:=z;cases z') (λ b z=>absurd rfl z) λ z=>absurd rfl z
 | none =>
  refine core (λ b=>if b=a then some (.MP { cls:=.type "list",data:=.seq vs.toArray } (.lst (ns.map V.int))) else none) (λ b=>?_) (.inl (.inr ⟨{ cls:=.type "list",data:=.seq vs.toArray },à rfl⟩)) (λ b u z=>?_) (λ b z=>?_) λ _=>hk
  ·by_cases hb:b=a
   ·exact .inr ⟨_,_,à hb⟩
   ·exact .inl (Ø hb)
  ·by_cases hb:b=a
   ·have z':=(à hb).symm.trans z;cases z';subst hb;exact⟨ha,by rw [Ä];exact hl,vs,_,rv,ha⟩
   ·have z':=(Ø hb).symm.trans z;cases z'
  ·by_cases hb:b=a
   ·exact hb
   ·exact absurd (Ø hb) z
theorem OA {l:PySem.W.OpenLaw}{n k:Nat}{q:Program}{loose:List Str}{XP:(Str->Option Value)->Heap->Prop}{YP:World->Heap->Prop}{d:DefRec}{K:Params->PySem.W.Frag}{CX:World->jv}{sp:World->Sp}{x:Str}
  (hn:l.most=some n)(TC:n<=sizeLine)(SI:d.params.defaults=[])(hr:ö k callerA)
  (hY:∀(w:World)(h:Heap),YP w h->(K w.params).In h)
  (F:∀(w:World)(mg:bv)(fa:Addr)(h:Heap),(K w.params).In h->h.Ns mainGlobals mg->mg d.name=some (.ref fa) ->
   ∃ fd:FuncData,(∀(s:Shared)(u:Value),BindsTo s fd ⟨[u],[]⟩ [(x,u)]) /\
    ∀ base:Heap,(K w.params).In base->base.Ns mainGlobals mg->ß l.prog w (K w.params) mg base (CX w) k fa fd [x] (sp w))
  (MN:∀(w:World)(H:Hp)(a:Addr)(ns:List Int),ns.length<=n->Dz H->ó (K w.params) H a (ns.map V.int)->H sysModules=none->sp w [.ref a] H (λ v _=>v=.bl true) λ _ _ _=>False)
  (V5:∀(w:World)(H:Hp)(s:Shared)(e:Value)(s':Shared),CX w [] H s (λ _ _ _=>False) e s'->False) :
  PySem.W.WalkO q loose XP YP l.row.toRowW d [] (λ f vs=>PySem.call f vs):=by
 refine Att.MF hn SI λ w œ Ą mg mb fa o pm cd doc a vs ns G Y ho hd M5 SE QS hints ķ hg low=>?_;have KX:=hY w _ Y;obtain⟨fd,hb,hF⟩:=F w mg fa _ KX G.T.g SE;exact qK KX G.T.g G.T.b G.T.builtins G.T.nolimit hg QS hints (é ķ TC) hr low hF hb (λ H hO hS hz=>MN w H a ns ķ hO hS hz) λ H e s'=>V5 w H Ą e s'
end L2
namespace My
open PySem L2
def cr (i:Nat):Stmt:=PySem.Challenge.pw_trialdeal_k19_measures_refused.main.body.getD i (.Pass ⟨0,0,0,0⟩)
end My
namespace My
open PySem
section
variable {prog:Program}{w:World}{A:Around}{h:Heap}{g:Array GenState}{d:Drawn}{tk:Nat}{os:OsState}{C N e t0:Addr}
variable {nm q:Str}{bs bm Q9:List Value}{PR ab:Bool}{sn:List Str}{sub:List Value}{col:Option Bool}{dd:Option Addr}
variable {k0 k1 k2 k3 k5:Option Value}{B newId LA:String}
abbrev ff (C t:Addr):Obj:={ cls:=.ref C,data:=.fields #[.ref t,.none,.none,.none,.bool false,.none] }
theorem AO {R:Result->Shared->Prop}{v:Value}(F:ExcBaseFacts B newId LA Q9)(T:OwnTail h Q9 bm)
  (hC:h.get? C=some (excClassObj nm q C N bs bm PR sn sub ab col dd k0 k1 k2 k3 k5 newId))(he:h.get? e=some (ff C t0))
  (hR:∀ h',h'.get? e=some (ff C h.objs.size)->(∀ b o,b≠e->h.get? b=some o->h'.get? b=some o)->R (.ok (.ret .none)) ⟨h',g,d,tk,os⟩) :
  codeAny (model prog w) A (.call (.builtin LA) ⟨[.ref e,v],[]⟩) R ⟨h,g,d,tk,os⟩:=by
 refine Μ F.init.plain F.initEntry (wpAny_check_init_subT F T hC he rfl ?_)
 wp_walk
 refine hR _ ?_ λ b o hb eb=>?_
 ·exact ò _ (Á _ he) rfl
 ·exact(Ü _ _ _ _ hb).trans (Á _ eb)
end
end My
namespace My
open PySem PySem.W Builtin Builtin.ObjectAttr
section
variable {prog:Program}{w:World}{A:Around}{s:Shared}{K:Frag}{C x:Addr}
theorem xC {R:Result->Shared->Prop}{ox:Obj}{od:Option Obj}{name:Str}{tk:Tok}{v:Value}{cd:ClassData}(X:K.In s.heap)(I:InstAt s.heap x ox C od)
  (hc:clsIn K C=some cd)(hp:refuseLoop (.ref x) "__setattr__" cd.mro=pure ())(OZ:mroIn K C (.type "object")=some true)(ht:takerIn K C name=some none)
  (h:∀ b,wpAny (model prog w) A.in1 (storeInOwnDict (.ref x) (.ref C) (.str name tk) name v b)
   (λ fin s'=>match fin with | .done f=>R (.ok f) s' | .again c'=>c'.quiet=true/\codeAny (model prog w) A c' R s') (λ e s'=>R (.error e) s') s) :
  codeAny (model prog w) A (.call (.builtin "object.__setattr__") ⟨[.ref x,.str name tk,v],[]⟩) R s:=by
 have SF:=PySem.F.store_object;have sub:Looks (model prog w) s.heap (isInstance (.ref x) (.type "object")) true:=I.type.andThen (C_ X OZ);refine Μ SF.slot.plain SF.entry (@check_slot (model prog w) _ _ s "object.__setattr__" "object" "__setattr__" (.ref x) [.str name tk,v] [] _ SF.kind SF.split sub (SF.args _ _ _) ?_);obtain⟨attr,ha,hr⟩:=Option.bind_eq_some_iff.mp ht;have hm:Looks (model prog w) s.heap (mroOf (.ref C)) cd.mro:=(looks_clsIn X hc).andThen .now;have L3:Looks (model prog w) s.heap (storeTaker? attr) none:=by
  cases attr with
  | none=>exact .now
  | some a =>
   obtain⟨b,hb,e⟩:=á.mp hr;refine(looks_takesIn X hb).andThen ?_;cases b
   ·exact .now
   ·cases e
 rw [osa_eq,refuse_eq];refine À (À (I.type.here (À (hm.here ?_))));rw [hp];refine Æ (À (I.type.here (À ((τ X ha).here (À (L3.here ?_))))));exact h _
end
section
variable {prog:Program}{w:World}{A:Around}{E:cy}{s:Shared}{K:Frag}{C x:Addr}
theorem Cu {fs:Array Value}{sl:Array (Option Value)}{name:Str}{v:Value}{cd:ClassData}{Q:Unit->Shared->Prop}(X:K.In s.heap)(hx:s.heap.get? x=some ⟨.ref C,none,.fields fs,sl⟩)
  (hs:findIn K (.ref C) "__setattr__" = some (some (.builtin "object.__setattr__")))(hc:clsIn K C=some cd)(hd:cd.hasDict=true)
  (hp:refuseLoop (.ref x) "__setattr__" cd.mro=pure ())(OZ:mroIn K C (.type "object")=some true)(ht:takerIn K C name=some none)
  (h:∀ h' tk,h'.get? x=some ⟨.ref C,some s.heap.objs.size,.fields fs,sl⟩->h'.Ns1 s.heap.objs.size (λ y=>if y=name then some v else none) ->
   (∀ b o,b≠x->s.heap.get? b=some o->h'.get? b=some o)->Q () { s with heap:=h',toks:=tk }):wpAny (model prog w) A (setAttr (.ref x) name v) Q E s:=by
 have J:InstAt s.heap x ⟨.ref C,none,.fields fs,sl⟩ C none:=⟨hx,rfl,rfl,True.intro⟩;refine set_plain X J hs (xC (s:={ s with toks:=s.toks+1 }) X J hc hp OZ ht λ b=>?_)
 refine À (Æ (À (À (wpAny_loadPart hx (À (ę (s:={ s with toks:=s.toks+1 }) (looks_clsIn X hc) ?_))))))
 rw [hd];have E_:(s.heap.push { cls:=.type "dict",data:=.dict #[] }).get? x=some ⟨.ref C,none,.fields fs,sl⟩:=Á _ hx;have W7:x≠s.heap.objs.size:=Î (È hx);refine À (wpAny_alloc' ?_);refine À (wpAny_update' E_ ?_);refine Æ ?_;generalize eU:((s.heap.push { cls:=.type "dict",data:=.dict #[] }).update x λ o=>{ cls:=o.cls,dict:=some s.heap.objs.size,data:=o.data,slots:=o.slots }:Heap)=hU;have gd:hU.get? s.heap.objs.size=some { cls:=.type "dict",data:=.dict #[] }:=by
  rw [<- eU];exact(Ü _ _ _ _ W7.symm).trans (ź rfl rfl)
 have gx:hU.get? x=some ⟨.ref C,some s.heap.objs.size,.fields fs,sl⟩:=by
  rw [<- eU];exact ò _ E_ rfl
 have nd:hU.Ns s.heap.objs.size (λ _=>none):=⟨_,#[],_,gd,rfl,λ e he=>absurd he (by simp),λ _=>rfl⟩
 show wpAny _ _ (storeInDict s.heap.objs.size (.str name _) name v) _ _ _;unfold storeInDict newKeyGuard;refine À (Æ (À (wpAny_nsSet1 (Heap.Ns1.of_empty nd) λ h' Qp NB=>?_)));obtain⟨oD,esD,epD,QT,SJ,O2⟩:=Qp.count (Within.cons name v Within.nil);refine À (wpAny_lookBehind QT (by
  rw [SJ];exact pastItsLine_dict (é O2 (by rw [ú,NL,Ö];omega))) ?_)
 refine Æ ?_;refine h h' _ ((NB.2 x W7).trans gx) Qp λ b o hb e=>?_;refine(NB.2 b (Î (È e))).trans ?_;rw [<- eU];exact(Ü _ _ _ _ hb).trans (Á _ e)
end
section
variable {prog:Program}{w:World}{A:Around}{E:cy}{s:Shared}{K:Frag}{C x dx:Addr}
abbrev pQ:String:="BaseException.__getattribute__"
theorem vn {R:Result->Shared->Prop}{ox:Obj}{od:Option Obj}{name:Str}{tk:Tok}{v:Value}(X:K.In s.heap)(I:InstAt s.heap x ox C od)
  (OZ:mroIn K C (.type "BaseException")=some true)(hf:findObj K C od name=some (.value v))(h:R (.ok (.ret v)) s) :
  codeAny (model prog w) A (.call (.builtin pQ) ⟨[.ref x,.str name tk],[]⟩) R s:=by
 have sub:Looks (model prog w) s.heap (isInstance (.ref x) (.type "BaseException")) true:=I.type.andThen (C_ X OZ);have L1:=looks_find (M:=model prog w) X I hf;refine Μ Ŏ.ga.plain PySem.F.entry_bexc_ga (@check_slot (model prog w) _ _ s pQ "BaseException" "__getattribute__" (.ref x) [.str name tk] [] _ ao ao sub (PySem.F.args_bexc_ga _ _) ?_);refine À (Æ (À (Æ (À (I.type.here (À (L1.here ?_)))))));exact Æ h
theorem zj {expr:Bool}{ox:Obj}{od:Option Obj}{name:Str}{v:Value}{Q:cy}(X:K.In s.heap)(I:InstAt s.heap x ox C od)
  (hga:findIn K (.ref C) "__getattribute__" = some (some (.builtin pQ)))(hk:findIn K (.ref C) "__getattr__" = some none)
  (OZ:mroIn K C (.type "BaseException")=some true)(hf:findObj K C od name=some (.value v))(Qm:handedIn v=true)(h:Q v { s with toks:=s.toks+1 }) :
  wpAny (model prog w) A (getAttr (.ref x) name expr) Q E s:=by
 have L0:=I.type (M:=model prog w);have L1:=τ (M:=model prog w) X hga;have L2:=τ (M:=model prog w) X hk;have f3:=Ŏ.ga.bind (.ref x);unfold getAttr getAttrBy;refine À (wpAny_mkText (þ (À (ę (s:={ s with toks:=s.toks+1 }) L0 (À (ę (s:={ s with toks:=s.toks+1 }) L1 ?_))))))
 have E_:(onTheHeap (Value.ref C)&&Value.builtin pQ==Value.builtin "object.__getattribute__")=false:=by
  rw [show(Value.builtin pQ==Value.builtin "object.__getattribute__")=false from by decide +kernel]
  rfl
 show wpAny _ _ (if(onTheHeap (Value.ref C)&&Value.builtin pQ==Value.builtin "object.__getattribute__")=true then _ else _) _ _ _
 rw [Ø (by rw [E_];decide)]
 unfold getAttrByItsOwn;refine À ?_;show wpAny _ _ (typeLookup (.ref C) "__getattr__") _ _ _;refine ę (s:={ s with toks:=s.toks+1 }) L2 ?_
 have hx0:(expr&&onTheHeap (Value.builtin pQ))=false:=by cases expr <;> rfl
 refine À (Ι (þ ?_));unfold callGetattribute;rw [Ø (by rw [hx0];decide)]
 unfold boundAndCalled;rw [f3];refine À (Æ ?_);refine ŕ (vn (s:={ s with toks:=s.toks+1 }) X I OZ hf ?_)
 show wpAny _ _ (handedOut v) _ _ _;rw [handedOut_of Qm];exact Æ h
end
end My
namespace My
open PySem PySem.W
section
variable {prog:Program}{w:World}{A:Around}{E:cy}{h:Heap}{g:Array GenState}
variable {d:Drawn}{t:Nat}{os:OsState}{nm q:Str}{C N:Addr}{bs bm Q9:List Value}{PR ab:Bool}
variable {sn:List Str}{sub:List Value}{col:Option Bool}{dd:Option Addr}
variable {k0 k1 k2 k3 k5:Option Value}{B newId LA:String}{K:Frag}
abbrev iK (vs:List Value):Obj:={ cls:=.type "tuple",data:=.seq vs.toArray }
theorem zI (X:K.In h)(F:ExcBaseFacts B newId LA Q9)(T:OwnTail h Q9 bm){rest:List Value}
  {fI:Addr}{Q:Fin->Shared->Prop}
  (hC:h.get? C=some (excClassObj nm q C N bs bm PR sn sub ab col dd k0 k1 k2 k3 k5 newId))
  (hi:findIn K (.ref C) "__init__" = some (some (.ref fI)))(VQ:typeIn K (.ref fI)=some (.type "function"))
  (hq:wpAny (model prog w) A (call (.ref fI) (.ref (h.objs.size+1)::rest))
   (λ r s'=>r=.none/\Q (.done (.ret (.ref (h.objs.size+1)))) s') E ⟨(h.push (iK rest)).push (ff C h.objs.size),g,d,t,os⟩)
  (OX:rest.length<=sizeLine) :
  wpAny (model prog w) A (Builtin.«type.__call__» ⟨.ref C::rest,[]⟩) Q E ⟨h,g,d,t,os⟩:=by
 repeat (first
  | with_reducible refine Oj hC ?_
  | with_reducible refine wpAny_madeBy_exc hC ?_
  | wp_step)
 refine codeAny_call_builtin_code (Code.quiet_builtin _ F.quiet) (wpAny_check_new_subT F T hC ?_);refine codeAny_exc_new_subT F T hC ?_ OX;show wpAny _ _ _ _ _ _;have up:∀ b o,h.get? b=some o->((h.push (iK rest)).push (ff C h.objs.size)).get? b=some o :=
  λ b o e=>Á _ (Á _ e)
 have hC1:=up _ _ hC;have X1:K.In ((h.push (iK rest)).push (ff C h.objs.size)):=X.keeps up;have hg1:((h.push (iK rest)).push (ff C h.objs.size)).get? (h.objs.size+1)=some (ff C h.objs.size):=by heap_get
 have hcC:(Value.ref C::bm).contains (.ref C)=true:=by simp
 unfold isInstance
 repeat (first
  | with_reducible refine Oj hg1 ?_
  | (with_reducible refine wpAny_isSubtype_exc hC1 ?_;rw [hcC])
  | wp_step)
 show wpAny _ _ (typeLookup (.ref C) _) _ _ _;refine ę (s:=⟨(h.push (iK rest)).push (ff C h.objs.size),g,d,t,os⟩) (τ X1 hi) ?_;refine þ (À ?_);unfold bindSpecial;refine À (ę (s:=⟨(h.push (iK rest)).push (ff C h.objs.size),g,d,t,os⟩) (looks_typeIn X1 VQ) ?_);rw [à ad];refine Æ (À (æ hq (λ r s' hr=>?_) λ _ _ x=>x));obtain⟨rfl,hQ⟩:=hr
 wp_walk
 exact hQ
theorem F9 (X:K.In h)(F:ExcBaseFacts B newId LA Q9)(T:OwnTail h Q9 bm){rest:List Value}
  {fI:Addr}{Q:cy}
  (hC:h.get? C=some (excClassObj nm q C N bs bm PR sn sub ab col dd k0 k1 k2 k3 k5 newId))
  (hi:findIn K (.ref C) "__init__" = some (some (.ref fI)))(VQ:typeIn K (.ref fI)=some (.type "function"))
  (hq:wpAny (model prog w) (A.under (.builtin "type.__call__" ⟨.ref C::rest,[]⟩))
   (call (.ref fI) (.ref (h.objs.size+1)::rest)) (λ r s'=>r=.none/\Q (.ref (h.objs.size+1)) s') E ⟨(h.push (iK rest)).push (ff C h.objs.size),g,d,t,os⟩)
  (OX:rest.length<=sizeLine):wpAny (model prog w) A (call (.ref C) rest) Q E ⟨h,g,d,t,os⟩:=by
 have f1:=tc_lookup;have f2:=tc_bind (.ref C);have hT:Shared.TypeIs ⟨h,g,d,t,os⟩ (.ref C) "type" :=⟨_,hC,rfl⟩;refine ŕ (codeAny_of_tree ?_);show wpAny _ _ (callAny (.ref C) _) _ _ _
 repeat (any_goals (first
  | assumption
  | with_reducible refine Oj hC ?_
  | wp_step))
 refine⟨rfl,?_⟩;refine codeAny_call_builtin_at (Code.quiet_builtin _ ao) entry_typeCall (wpAny_check_type_call_sub hC ?_);exact zI X F T hC hi VQ hq OX
end
section
variable {prog:Program}{w:World}{A:Around}{E:cy}{s:Shared}{K:Frag}{x C:Addr}{ox:Obj}{od:Option Obj}
theorem va {a g:Value}{name:Str}(hc:(clsIn K C).isSome=true)(ha:findIn K (.ref C) name=some (some a))(hg:specialIn K a "__get__" = some (some g))(ht:takesIn K a=some true):findObj K C od name=some (.bind g a):=by
 obtain⟨cd,hc⟩:=Ĵ.mp hc;unfold findObj;rw [hc,χ,ha,χ];simp [hg,ht]
theorem xM {R:Result->Shared->Prop}{name:Str}{tk:Tok}{a g:Value}(X:K.In s.heap)(I:InstAt s.heap x ox C od)
  (OZ:mroIn K C (.type "BaseException")=some true)(hf:findObj K C od name=some (.bind g a))
  (h:wpAny (model prog w) A.in1 (call g [a,.ref x,.ref C]) (λ v s'=>R (.ok (.ret v)) s') (λ e s'=>R (.error e) s') s) :
  codeAny (model prog w) A (.call (.builtin pQ) ⟨[.ref x,.str name tk],[]⟩) R s:=by
 have sub:Looks (model prog w) s.heap (isInstance (.ref x) (.type "BaseException")) true:=I.type.andThen (C_ X OZ);have L1:=looks_find (M:=model prog w) X I hf;refine Μ Ŏ.ga.plain PySem.F.entry_bexc_ga (@check_slot (model prog w) _ _ s pQ "BaseException" "__getattribute__" (.ref x) [.str name tk] [] _ ao ao sub (PySem.F.args_bexc_ga _ _) ?_);refine À (Æ (À (Æ (À (I.type.here (À (L1.here ?_)))))));show wpAny _ _ (holding [a] (call g [a,.ref x,.ref C])>>=ret) _ _ _;exact À (þ (æ h (λ v s' z=>Æ z) λ _ _ z=>z))
structure j3 (K:Frag)(C:Addr):Prop where
 cls:(clsIn K C).isSome=true
 ga:findIn K (.ref C) "__getattribute__" = some (some (.builtin pQ))
 hk:findIn K (.ref C) "__getattr__" = some none
 mb:mroIn K C (.type "BaseException")=some true
 mo:mroIn K C (.type "object")=some true
 ca:findIn K (.ref C) "__class__" = some (some (.builtin "object.__class__"))
theorem ul {Q:Option Value->Shared->Prop}(T:j3 K C)(hn:specialIn K (.builtin "object.__class__") "__get__" = some (some (.builtin "getset_descriptor.__get__")))(MM:takesIn K (.builtin "object.__class__")=some true)
  (X:K.In s.heap)(I:InstAt s.heap x ox C od)(h:Q (some (.ref C)) { s with toks:=s.toks+1 }):wpAny (model prog w) A (getAttr? (.ref x) "__class__") Q E s:=by
 have hf:findObj K C od "__class__" = some (.bind (.builtin "getset_descriptor.__get__") (.builtin "object.__class__")):=va T.cls T.ca hn MM;have L0:=I.type (M:=model prog w);have L1:=τ (M:=model prog w) X T.ga;have L2:=τ (M:=model prog w) X T.hk;have f3:=Ŏ.ga.bind (.ref x);unfold getAttr? getAttrBy? getAttrBy;refine À (wpAny_mkText (À (Ι (þ (À (ę (s:={ s with toks:=s.toks+1 }) L0 (À (ę (s:={ s with toks:=s.toks+1 }) L1 ?_))))))))
 have E_:(onTheHeap (Value.ref C)&&Value.builtin pQ==Value.builtin "object.__getattribute__")=false:=by
  rw [show(Value.builtin pQ==Value.builtin "object.__getattribute__")=false from by decide +kernel]
  rfl
 show wpAny _ _ (if(onTheHeap (Value.ref C)&&Value.builtin pQ==Value.builtin "object.__getattribute__")=true then _ else _) _ _ _
 rw [Ø (by rw [E_];decide)]
 unfold getAttrByItsOwn;refine À ?_;show wpAny _ _ (typeLookup (.ref C) "__getattr__") _ _ _;refine ę (s:={ s with toks:=s.toks+1 }) L2 ?_
 refine À (Ι (þ ?_));unfold callGetattribute;rw [Ø ad];unfold boundAndCalled;rw [f3];refine À (Æ ?_);refine ŕ (xM (s:={ s with toks:=s.toks+1 }) X I T.mb hf ?_)
 refine ŕ (class_get (s:={ s with toks:=s.toks+1 }) (ox:=ox) (od:=od) X I T.mo ?_)
 show wpAny _ _ (handedOut (.ref C)) _ _ _;rw [handedOut_of rfl];exact Æ (Æ h)
theorem pz (T:j3 K C)(hn:specialIn K (.builtin "object.__class__") "__get__" = some (some (.builtin "getset_descriptor.__get__")))(MM:takesIn K (.builtin "object.__class__")=some true) :
  KitX K (.ref x) (.ref C) (λ h=>∃ ox od,InstAt h x ox C od) where
 ty:=λ _ _ _ ⟨_,_,I⟩=>I.type
 it:=λ _ _ X _=>by
  obtain⟨cdD,O2⟩:=Ĵ.mp T.cls;unfold clsIn at O2;split at O2
  ·rename_i c' d' cd' Ul ho
   intro A' Q' E' s' k q;unfold isType loadHead;exact À (wpAny_loadPart (k _ _ (X _ _ ho)) (Æ q))
  ·cases O2
 ne:=λ h tp dd its n sl X NU=>by
  obtain⟨cdD,O2⟩:=Ĵ.mp T.cls;refine Bool.eq_false_iff.mpr λ q=>?_;have e:C=tp:=Œ (ā.mp q);subst e;unfold clsIn at O2;split at O2
  ·rename_i c' d' cd' Ul ho
   have z:=(X _ _ ho).symm.trans NU;cases z
  ·cases O2
 ca:=λ X ⟨_,_,I⟩ k=>ul T hn MM X I k
end
end My
namespace My
open PySem PySem.W L2
abbrev Np:List Value:=[.type "ValueError",.type "Exception",.type "BaseException",.type "object"]
abbrev ky (C:Addr)(d:Option Addr)(t:Addr):Obj:={ cls:=.ref C,dict:=d,data:=.fields #[.ref t,.none,.none,.none,.bool false,.none] }
def eV (x C:Addr)(d:Option Addr):HO:=.ext λ h=>∃ t,h.get? x=some (ky C d t)
theorem lh {P:Program}{w:World}{H:Hp}{h:Heap}{x C:Addr}{d:Option Addr}{t:Addr}(e:h.get? x=some (ky C d t)):Ā P w H h x (eV x C d) :=
 ⟨⟨t,e⟩,⟨_,e⟩,λ _ _ ⟨t',e'⟩ k=>⟨t',k _ e'⟩⟩
theorem ic {P:Program}{w:World}{H:Hp}{h:Heap}{x C:Addr}{d:Option Addr}(ok:Θ P w H h)(e:H x=some (eV x C d)):∃ t,h.get? x=some (ky C d t):=(ok x _ e).1
theorem oZ {H:Hp}{a:Addr}{o:HO}(h:H a=some o):af H a o=H:=by
 funext b
 unfold af;split
 ·rename_i e;rw [e,h]
 ·rfl
structure Į (K:Frag)(D:Addr):Prop where
 cls:∃ nm q N bs sn sub ab col dd k0 k1 k2 k3 k5,K.lookup D=some (excClassObj nm q D N bs Np true sn sub ab col dd k0 k1 k2 k3 k5 "ValueError.__new__") /\
    ∃ o es ep,K.lookup N=some o/\o.data=.dict es ep/\StrKeys es/\nsFind es "__init__" = none
 ga:specialIn K (.ref D) "__getattribute__" = some (some (.builtin "type.__getattribute__"))
 reads:readsIn K D (.type "type")=true
 Sx:findCls K (.ref D) (.type "type") "__init__" = some (.val (.builtin "ValueError.__init__"))
 fi:findIn K (.ref D) "__init__" = some (some (.builtin "ValueError.__init__"))
 kp:keepIn K (.ref D)=true
 it:j3 K D
theorem Į.tail {K:Frag}{D:Addr}(B:Į K D){h:Heap}(X:K.In h):OwnTail h Np (.ref D::Np):=by
 obtain⟨nm,q,N,bs,sn,sub,ab,col,dd,k0,k1,k2,k3,k5,l,o,es,ep,lN,hd,hs,hn⟩:=B.cls;exact .own (X _ _ l) ⟨o,es,ep,X _ _ lN,hd,hs,λ _=>rfl⟩ hn .base
structure ĳ (K:Frag)(D:Addr)(nm:Str)(C f:Addr):Prop where
 cls:∃ q N bs sn sub ab col dd k0 k1 k2 k3 k5,K.lookup C=some (excClassObj nm q C N bs (.ref D::Np) true sn sub ab col dd k0 k1 k2 k3 k5 "ValueError.__new__")
 init:findIn K (.ref C) "__init__" = some (some (.ref f))
 fn:typeIn K (.ref f)=some (.type "function")
 kp:keepIn K (.ref C)=true
 sa:findIn K (.ref C) "__setattr__" = some (some (.builtin "object.__setattr__"))
 it:j3 K C
theorem ĳ.clsIn {K:Frag}{D C f:Addr}{nm:Str}(T:ĳ K D nm C f):∃ cd,PySem.W.clsIn K C=some cd/\cd.hasDict=true/\cd.mro=.ref C :: .ref D::Np:=by
 obtain⟨q,N,bs,sn,sub,ab,col,dd,k0,k1,k2,k3,k5,l⟩:=T.cls;unfold PySem.W.clsIn;rw [l];exact⟨_,rfl,rfl,rfl⟩
theorem ĳ.refuse {K:Frag}{D C f:Addr}{nm:Str}(T:ĳ K D nm C f)(x:Addr):∃ cd,PySem.W.clsIn K C=some cd/\cd.hasDict=true/\refuseLoop (.ref x) "__setattr__" cd.mro=pure ():=by
 obtain⟨cd,h1,h2,h3⟩:=T.clsIn;refine⟨cd,h1,h2,?_⟩;rw [h3,refuseLoop_ref,refuseLoop_ref];exact PySem.F.store_ValueError.passes _
section
variable {X:Cx}{Ã:List (Addr × Obj)}{σ:St}{H:Hp}{s:Shared}
def nO (C:Addr)(fld:Str):Sp:=λ vs H Q _=>∃ x v,vs=[.ref x,v]/\H x=some (eV x C none)/\∀ dx,H dx=none->dx≠x->Q .ù (af (af H dx (.xd [(fld,v)])) x (eV x C (some dx)))
def Gi (C:Addr)(fld:Str)(te:TE):TE:=λ σ H Q=>te σ H λ v H1=>∀ x dx,H1 x=none->H1 dx=none->dx≠x->Q (.ref x) (af (af H1 dx (.xd [(fld,v)])) x (eV x C (some dx)))
theorem IR {H:Hp}{x dx:Addr}{a b c:HO}(n:dx≠x):af (af (af H x a) dx b) x c=af (af H dx b) x c:=by
 funext z
 unfold af;by_cases h1:z=x
 ·rw [à h1,à h1]
 ·rw [Ø h1,Ø h1];by_cases h2:z=dx
  ·rw [à h2,Ø h1]
  ·rw [Ø h2,Ø h1]
theorem tU {D C f:Addr}{nm fld:Str}{k:Nat}{fd:FuncData}{ps:List Str}{u:Value}{v:V}{Q:VK}(B:Į X.K D)(T:ĳ X.K D nm C f)(F:ß X.prog X.w X.K X.mg X.base ay k f fd ps (nO C fld))(hr:ö (k+1) X.A)(hb:Binds X.K fd ps [])
  (I:Inv X Ã σ H s)(r:RelV v u)(h:∀ x dx,H x=none->H dx=none->dx≠x->Q (.ref x) (af (af H dx (.xd [(fld,v)])) x (eV x C (some dx)))) :
  wpAny (model X.prog X.w) X.A (call (.ref C) [u]) (EP X Ã σ Q) X.xe s:=by
 obtain⟨hp,g,dr,tk,os⟩:=s;obtain⟨q,N,bs,sn,sub,ab,col,dd,k0,k1,k2,k3,k5,l⟩:=T.cls;refine F9 (C:=C) I.Ń Ol (B.tail I.Ń) (I.Ń _ _ l) T.init T.fn ?_ (by rw [ú,NL,Ö];omega)
 have f0:H hp.objs.size=none:=I.fresh;have I1:Inv X Ã σ H ⟨hp.push (iK [u]),g,dr,tk,os⟩:=I.kept (h':=hp.push (iK [u])) (t':=tk) λ b o e=>Á _ e;have sz:(hp.push (iK [u])).objs.size=hp.objs.size+1:=ë _ _;have fx:H (hp.objs.size+1)=none:=by rw [<- sz];exact I1.fresh
 have I2:Inv X Ã σ (af H (hp.objs.size+1) (eV (hp.objs.size+1) C none)) ⟨(hp.push (iK [u])).push (ff C hp.objs.size),g,dr,tk,os⟩ :=
  I1.laid (h':=(hp.push (iK [u])).push (ff C hp.objs.size)) (t':=tk) (a:=hp.objs.size+1) (λ b o e=>Á _ e) (i_ sz)
   (lh (t:=hp.objs.size) (ź sz.symm rfl))
 generalize (⟨(hp.push (iK [u])).push (ff C hp.objs.size),g,dr,tk,os⟩:Shared)=s2 at I2 ⊢;generalize hp.objs.size+1=x at fx I2 ⊢;have r2:Vals [V.ref x,v] [Value.ref x,u]:=.cons rfl (.cons r .nil);have MN:nO C fld [V.ref x,v] (af H x (eV x C none)) (λ y H2=>y=.ù/\Q (.ref x) H2) E0 :=
  ⟨x,v,rfl,aR,λ dx hd nd=>⟨rfl,by
   rw [IR nd];rw [au nd] at hd;exact h x dx fx hd nd⟩⟩
 have hl:([Value.ref x,u] ++ []:List Value).length=ps.length:=by
  rw [ă,<- r2.length];exact F.len _ _ _ _ MN
 have Xk:=hb s2 [Value.ref x,u] I2.Ń hl;rw [ă] at Xk;refine ŕ (ŉ (F.run _ X.stack s2 _ ⟨[Value.ref x,u],[]⟩ [Value.ref x,u] _ _ E0 (hr.make C [u] []) (I2.O8.make C [u] []) Xk r2 MN) λ r s' OY=>?_);cases r with
 | error e=>exact False.elim OY
 | ok fl =>
  cases fl with
  | ret u' =>
   obtain⟨y,H',I3,ry,ey,q3⟩:=I2.after OY;subst ey;exact⟨ry,V.ref x,H',I3,rfl,q3⟩
  | next=>exact False.elim OY
  | brk=>exact False.elim OY
  | cont=>exact False.elim OY
end
def zg (h:Heap)(e:Addr)(vs:Array Value):Prop:=vs[1]?=some .none\/∃ T oT ts,vs[1]?=some (.ref T)/\T≠e/\h.get? T=some oT/\oT.data=.fields ts/\ts[3]?=some .none
structure LH (fr:List Addr)(e T:Addr)(oe:Obj)(h h':Heap)(r:Value):Prop where
 keep:∀ b o,b≠e->b ∉ fr->h.get? b=some o->h'.get? b=some o
 slot:∀ b o,b≠e->h.get? b=some o->∃ sl,h'.get? b=some { o with slots:=sl }
 new:h.objs.size<=T
 exc:h'.get? e=some (oe.mapFields (λ x=>x.setIfInBounds 1 (.ref T)))
 Ti:∃ oT ts,h'.get? T=some oT/\oT.data=.fields ts/\ts[3]?=some r/\T≠e
theorem jm {vs:Array Value}{i:Nat}{v:Value}(h:vs[i]?=some v):vs.setIfInBounds i v=vs:=by
 obtain⟨hi,e⟩:=ø.mp h;apply Array.ext
 ·simp
 ·intro j h1 h2;simp only [Array.size_setIfInBounds] at h1;rw [Array.getElem_setIfInBounds h1];split
  ·rename_i z;subst z;exact e.symm
  ·rfl
theorem mN {o:Obj}{vs:Array Value}(hd:o.data=.fields vs)(f:Array Value->Array Value):o.mapFields f={ o with data:=.fields (f vs) }:=by
 obtain⟨c,d,dt,sl⟩:=o;have e:dt=.fields vs:=hd;subst e;rfl
theorem lW {M:Model}{A:Around}{E:cy}{s:Shared}{c:String}{vs:List Value}{Q:cy}(hl:vs.length<=sizeLine+2)
  (q:Q (.ref s.heap.objs.size) { s with heap:=s.heap.push { cls:=.type c,data:=.fields vs.toArray } }):wpAny M A (newFields c vs) Q E s:=by
 unfold newFields newObj;refine ü (É (by rw [â];omega)) ?_
 unfold newObjAsIs;exact À (wpAny_alloc (Æ q))
theorem rB {pl:List Value}(h:IsPlace pl):pl.length<=6:=by
 rcases h with rfl | ⟨a,b,c,d,c9,b10,_,rfl⟩
 ·decide
 ·exact Ç _
section
variable {M:Model}{A:Around}{E:cy}{s:Shared}{base:Heap}{env:Env}{outer:List Env}{L e:Addr}{oe:Obj}{vs:Array Value}{Q:Unit->Shared->Prop}
theorem qr {head:Value}{hn:Bool}(hA:A.frames=some (env::outer))(hF:s.heap.FunFrames base (env::outer))(hL:env.frame=some L)(he:s.heap.get? e=some oe)(hd:oe.data=.fields vs)(h1:1<vs.size)
  (q:∀ h' T,LH (kD (env::outer)) e T oe s.heap h' (rawInt ↑L)->Q () { s with heap:=h' }) :
  wpAny M A (do
   let a <- frameOf env
   let pl <- entryPlaceOf L hn
   let b <- EntryCells.newEntry head a .none (rawInt ↑L) .none pl
   setField (.ref e) 1 b) Q E s:=by
 have Tt:e ∉ kD (env::outer):=λ z=>by
  obtain⟨_,o,ho,hn⟩:=hF.mem z;rw [he] at ho;cases ho;exact hn vs hd
 refine À (wpAny_frameOf_fun hA hF hL λ h1' so=>?_);refine À (wpAny_entryPlaceOf λ pl Κ=>?_);refine À ?_;unfold EntryCells.newEntry;refine lW ?_ ?_
 ·have:=rB Κ;have b:100<=sizeLine:=ad;rw [Ð];split
  ·rw [Ý];show 5+6<=_;omega
  ·show 5+pl.length<=_;omega
 have e1:h1'.get? e=some oe:=by rw [so.2.1 e Tt];exact he
 have lt:=È e1;generalize Xb:({ cls:=.type "traceback",data:=.fields ([head,Value.ref L,.none,rawInt ↑L,.none]++if pl.isEmpty=true then List.replicate 6 Value.none else pl).toArray }:Obj)=ob
 have e2:(h1'.push ob).get? e=some oe:=Á _ e1;refine ς e2 hd h1 ?_;refine q _ h1'.objs.size ⟨λ b o nb nf hb=>?_,λ b o nb hb=>?_,i_ so.1.symm,?_,?_⟩
 ·rw [Ü _ _ _ _ nb];exact Á _ (by rw [so.2.1 b nf];exact hb)
 ·obtain⟨sl,z⟩:=so.2.2 b o hb;exact⟨sl,by rw [Ü _ _ _ _ nb];exact Á _ z⟩
 ·exact ò _ e2 (by rw [mN hd];rfl)
 ·have nT:h1'.objs.size≠e:=Ne.symm (Î lt);refine⟨ob,_,?_,by rw [<- Xb],?_,nT⟩
  ·rw [Ü _ _ _ _ nT];exact ź rfl (by rw [<- Xb];rfl)
  ·rfl
theorem jG (hA:A.frames=some (env::outer))(hF:s.heap.FunFrames base (env::outer))(hL:env.frame=some L)(he:s.heap.get? e=some oe)(hd:oe.data=.fields vs)(hv:zg s.heap e vs)
  (q:∀ h' T,LH (kD (env::outer)) e T oe s.heap h' (rawInt ↑L)->Q () { s with heap:=h' }):wpAny M A (noteFrame (.ref e) env) Q E s:=by
 unfold noteFrame;rw [hL];rcases hv with hv | ⟨T,oT,ts,hv,nT,hT,PV,h3⟩
 ·have h1:1<vs.size:=(ø.mp hv).1;refine À (ì he hd hv ?_);refine ü rfl ?_;exact qr hA hF hL he hd h1 q
 ·have h1:1<vs.size:=(ø.mp hv).1;have TK:3<ts.size:=(ø.mp h3).1;refine À (ì he hd hv ?_);refine Ł rfl ?_;refine À (ì hT PV h3 ?_);refine ü rfl ?_;refine À (ς hT PV TK ?_);have g:∀ b,(s.heap.update T (Obj.mapFields λ x=>x.setIfInBounds 3 Value.none)).get? b=s.heap.get? b:=λ b=>by
   by_cases z:b=T
   ·subst z;rw [ò _ hT (by rw [mN PV];rfl),hT,mN PV,jm h3,<- PV]
   ·exact Ü _ _ _ _ z
  have sz:(s.heap.update T (Obj.mapFields λ x=>x.setIfInBounds 3 Value.none)).objs.size=s.heap.objs.size:=Px _ _ _;generalize s.heap.update T (Obj.mapFields λ x=>x.setIfInBounds 3 Value.none)=h0 at g sz;have hF0:h0.FunFrames base (env::outer):=Heap.FunFrames.of_keeps (λ b o hb _=>⟨o,by rw [g];exact hb,rfl⟩) hF
  refine qr (s:={ s with heap:=h0 }) hA hF0 hL (by show h0.get? e=_;rw [g];exact he) hd h1 λ h' T' x=>?_
  exact q h' T' ⟨λ b o nb nf hb=>x.keep b o nb nf (by show h0.get? b=_;rw [g];exact hb),λ b o nb hb=>x.slot b o nb (by show h0.get? b=_;rw [g];exact hb),by rw [<- sz];exact x.new,x.exc,x.Ti⟩
theorem LH.O7 {fr:List Addr}{T:Addr}{h h':Heap}{r:Value}(x:LH fr e T oe h h' r)(hd:oe.data=.fields vs)(h1:1<vs.size)(s':Shared)(es:s'.heap=h')
  (q:∀ h2,LH fr e T oe h h2 .none->Q () { s' with heap:=h2 }):wpAny M A (setFlight (.ref e) none) Q E s':=by
 subst es;obtain⟨oT,ts,hT,PV,h3,nT⟩:=x.Ti;have TK:3<ts.size:=(ø.mp h3).1;have e1:(oe.mapFields (λ x=>x.setIfInBounds 1 (.ref T))).data=.fields (vs.setIfInBounds 1 (.ref T)):=NI hd _;have e2:(vs.setIfInBounds 1 (Value.ref T))[1]?=some (.ref T):=by simp [h1]
 refine MR x.exc e1 e2 hT PV TK (q _ ⟨λ b o nb nf hb=>?_,λ b o nb hb=>?_,x.new,?_,?_⟩)
 ·have z:=x.keep b o nb nf hb;rw [Ü _ _ _ _ (λ w=>?_)]
  ·exact z
  ·rw [w] at hb;exact absurd (Þ (È hb) x.new) (ĝ _)
 ·obtain⟨sl,z⟩:=x.slot b o nb hb;refine⟨sl,?_⟩;rw [Ü _ _ _ _ (λ w=>?_)]
  ·exact z
  ·rw [w] at hb;exact absurd (Þ (È hb) x.new) (ĝ _)
 ·rw [Ü _ _ _ _ nT.symm];exact x.exc
 ·refine⟨_,_,ò _ hT (by rw [mN PV];rfl),NI PV _,?_,nT⟩
  simp [TK]
theorem om (hA:A.frames=some (env::outer))(hF:s.heap.FunFrames base (env::outer))(hL:env.frame=some L)(he:s.heap.get? e=some oe)(hd:oe.data=.fields vs)(hv:zg s.heap e vs)
  (q:∀ h' T,LH (kD (env::outer)) e T oe s.heap h' .none->Q () { s with heap:=h' }):wpAny M A (leaving env (.ref e)) Q E s:=by
 have h1:1<vs.size:=by
  rcases hv with hv | ⟨T,oT,ts,hv,_⟩
  ·exact(ø.mp hv).1
  ·exact(ø.mp hv).1
 unfold leaving;exact À (jG hA hF hL he hd hv λ h' T x=>x.O7 hd h1 _ rfl λ h2 x2=>q h2 T x2)
end
def one (P:V->Hp->Prop)(vs:List V)(H:Hp):Prop:=match vs with
 | [v]=>P v H
 | _=>False
theorem B0 {P:V->Hp->Prop}{vs:List V}{H:Hp}(h:one P vs H):∃ v,vs=[v]/\P v H:=by
 cases vs with
 | nil=>exact h.elim
 | cons v r =>
  cases r with
  | nil=>exact⟨v,rfl,h⟩
  | cons _ _=>exact h.elim
def two (P:V->V->Hp->Prop)(vs:List V)(H:Hp):Prop:=match vs with
 | [v,u]=>P v u H
 | _=>False
theorem BY {P:V->V->Hp->Prop}{vs:List V}{H:Hp}(h:two P vs H):∃ v u,vs=[v,u]/\P v u H:=by
 match vs,h with
 | [v,u],h=>exact⟨v,u,rfl,h⟩
section
variable {X:Cx}{Ã:List (Addr × Obj)}{σ:St}{H:Hp}{s:Shared}
theorem Ax {D C f:Addr}{nm fld x:Str}{k:Nat}{fd:FuncData}{ps:List Str}{e:Expr}{te:TE}{p pos:Pos}(B:Į X.K D)(T:ĳ X.K D nm C f)(F:ß X.prog X.w X.K X.mg X.base ay k f fd ps (nO C fld))(hr:ö (k+1) X.A)(hb:Binds X.K fd ps [])
  (hg:Gl X x)(hm:X.mg x=some (.ref C))(ha:PE X e te)(l_:(x==("__debug__" : Str))=false:=by decide)(he:starEach [e] X.env=(false,eval e X.env)::starEach [] X.env:=by rfl) (Κ:(backTo pos (starEach [] X.env)).any (·.1)=false:=by rfl) :
  PE X (.Call (.Name x p) [e] [] pos) (Gi C fld te):=by
 intro Ã s σ H Q I h;refine ċ (ck I hg hm ?_ l_);have pa:PA X [e] (ag te aG):=ac ha aq he;have h':ag te aG σ H (one λ v H1=>∀ x dx,H1 x=none->H1 dx=none->dx≠x->Q (.ref x) (af (af H1 dx (.xd [(fld,v)])) x (eV x C (some dx)))):=h;refine Ę (h₀:=X.base) I.ok.mod.OP T.kp (aW (pa pos Ã s σ H _ I h') λ us s1 ⟨vs,H1,I1,r,q⟩=>⟨I1.Ń,?_⟩) he Κ;obtain⟨v,rfl,q⟩:=B0 q;obtain⟨u,rfl,ru⟩:=eG r;exact tU B T F hr hb I1 ru q
def Ku (ts tt:TE)(C:Addr):TE:=λ σ H Q=>ts σ H λ x H1=>tt σ H1 λ v H2=>∃ a,x=.ref a/\H2 a=some (eV a C none)/\Q .ù H2
theorem bI {D C f:Addr}{nm x:Str}{o e:Expr}{ts tt:TE}{p ů pos:Pos}{pl:Sem Bool}(B:Į X.K D)(T:ĳ X.K D nm C f)(hg:Gl X x)(hm:X.mg x=some (.ref D))(hs:PE X o ts)(ht:PE X e tt)(l_:(x==("__debug__" : Str))=false:=by decide)
  (Pk:starEach [o,e] X.env=(false,eval o X.env)::starEach [e] X.env:=by rfl)(Vw:starEach [e] X.env=(false,eval e X.env)::starEach [] X.env:=by rfl) (Κ:(backTo pos (starEach [e] X.env)).any (·.1)=false:=by rfl)
  (Vu:eval (.Call (.Attribute (.Name x p) "__init__" ů) [o,e] [] pos) X.env=(do
   let ov <- eval (.Name x p) X.env
   standAt ů.atName
   let (f,first) <- holding [ov] (getMethod ov "__init__" pl)
   callWith pos f first (backTo pos (starEach [o,e] X.env)) (backToKw pos (keywordEach [] X.env))):=by rfl) :
  PE X (.Call (.Attribute (.Name x p) "__init__" ů) [o,e] [] pos) (Ku ts tt C):=by
 intro Ã s σ H Q I h;refine Ű (pl:=pl) (ck I hg hm ?_ l_) Vu;refine method_cls I.Ń B.ga (cls_value I.Ń B.reads B.Sx rfl ?_);have I0:Inv X Ã σ H { s with toks:=s.toks+1 }:=I.tok _
 have pa:PA X [o,e] (ag ts (ag tt aG)):=ac hs (ac ht aq Vw) Pk;have h':ag ts (ag tt aG) σ H (two λ x v H2=>∃ a,x=.ref a/\H2 a=some (eV a C none)/\Q .ù H2):=h;refine Nb (aW (pa pos Ã _ σ H _ I0 h') λ us s1 ⟨vs,H1,I1,r,q⟩=>?_) Pk Κ;obtain⟨_,v,rfl,a,rfl,ha,q⟩:=BY q;obtain⟨u,u',rfl,ru,NP⟩:=hZ r;cases (show u=Value.ref a from ru);obtain⟨t0,hx⟩:=ic I1.Ć ha;obtain⟨q',N,bs,sn,sub,ab,col,dd,k0,k1,k2,k3,k5,l⟩:=T.cls;obtain⟨hp,g,dr,tk,os⟩:=s1;refine ŕ (AO (C:=C) Ol (B.tail I1.Ń) (I1.Ń _ _ l) hx λ h' OU hk=>?_);have I2:Inv X Ã σ (af H1 a (eV a C none)) ⟨h',g,dr,tk,os⟩:=I1.write (h':=h') (t':=tk) (x:=a) (e:=a) (by rw [ha];exact True.intro) (.inl rfl) (λ b o hb e=>hk b o hb e) ⟨_,OU⟩ (lh OU)
 rw [oZ ha] at I2;exact⟨.ù,H1,I2,rfl,q⟩
def Ea (K:Frag)(C:Addr)(ta tv:TE)(f:Str):TS:=λ D σ H=>tv σ H λ y H1=>ta σ H1 λ x H2=>∃ a,x=.ref a/\H2 a=some (eV a C none)/\takerIn K C f=some none/\∀ dx,H2 dx=none->dx≠a->D.nx σ (af (af H2 dx (.xd [(f,y)])) a (eV a C (some dx)))
theorem eR {D C fI:Addr}{nm f:Str}{o value:Expr}{ta tv:TE}{pos pos':Pos}(T:ĳ X.K D nm C fI)(ha:PE X o ta)(hv:PE X value tv)(hs:swapsWith value (some (.Attribute o f pos')) pos.line X.env=pure false) :
  PS X (.Assign [.Attribute o f pos'] value pos) (Ea X.K C ta tv f):=by
 intro Ã s σ H D' I h;refine Pe (aW (hv Ã s σ H _ I h) λ u s1 ⟨y,H1,I1,ry,q⟩=>aW (ha Ã s1 σ H1 _ I1 q) λ ov s2 ⟨x,H2,I2,rx,a,ex,ea,tk,q2⟩=>?_) hs;subst ex;obtain rfl:ov=Value.ref a:=rx;obtain⟨t0,hx⟩:=ic I2.Ć ea;obtain⟨cd,hc,hd,hp⟩:=T.refuse a;refine Cu I2.Ń hx T.sa hc hd hp T.it.mo tk λ h' WH OU Qp hk=>?_;have fr:H2 s2.heap.objs.size=none:=I2.fresh;have nz:s2.heap.objs.size≠a:=λ z=>by rw [<- z,fr] at ea;cases ea
 obtain⟨oD,es,ep,QT,rD⟩:=id Qp;have nf:oD.isFreed=false:=Obj.isFreed_of_dict rD.1;have I3:Inv X Ã σ (af H2 s2.heap.objs.size (.xd [(f,y)])) { s2 with heap:=s2.heap.push oD,toks:=s2.toks }:=by
  refine I2.laid (h':=s2.heap.push oD) (t':=s2.toks) (a:=s2.heap.objs.size) (λ b o e=>Á _ e) (Ç _) ⟨_,⟨oD,es,ep,ź rfl nf,rD⟩,λ g=>?_⟩;by_cases e:g=f
  ·subst e;rw [à rfl,List.lookup_cons_self];exact ry
  ·rw [Ø e,è,Ù.mpr e];exact True.intro
 have ea3:af H2 s2.heap.objs.size (.xd [(f,y)]) a=some (eV a C none):=by rw [au nz.symm];exact ea
 have I4:Inv X Ã σ (af (af H2 s2.heap.objs.size (.xd [(f,y)])) a (eV a C (some s2.heap.objs.size))) { s2 with heap:=h',toks:=WH }:=by
  refine I3.write (h':=h') (t':=WH) (x:=a) (e:=a) (by rw [ea3];exact True.intro) (.inl rfl) (λ b o hb e=>?_) ⟨_,OU⟩ (lh (t:=t0) OU)
  by_cases z:b=s2.heap.objs.size
  ·subst z;have e':(s2.heap.push oD).get? s2.heap.objs.size=some o:=e;rw [ź rfl nf] at e';cases e';exact QT
  ·have e':(s2.heap.push oD).get? b=some o:=e;exact hk b o hb (by rw [<- Heap.get?_push_ne _ _ oD z];exact e')
 exact⟨σ,_,I4,q2 _ fr nz⟩
end
section
variable {X:Cx}{Ã:List (Addr × Obj)}{σ:St}{H:Hp}{s:Shared}
theorem nJ {P:Program}{w:World}{H:Hp}{h:Heap}{a C dx:Addr}{fs:List (Str × V)}(ok:Θ P w H h)(ea:H a=some (eV a C (some dx)))(ed:H dx=some (.xd fs)) :
  ∃(ox od:Obj),InstAt h a ox C (some od)/\∃ mA:Str->Option Value,(∀ f,Υ (fs.lookup f) (mA f))/\∀ name,lookIn name od=some (mA name):=by
 obtain⟨t,hx⟩:=ic ok ea;obtain⟨mA,hn,hr⟩:=(show Ā P w H h dx (.xd fs) from ok dx _ ed);obtain⟨od,VE,hl⟩:=iG hn;exact⟨_,od,⟨hx,rfl,rfl,VE⟩,mA,hr,hl⟩
structure pY (K:Frag):Prop where
 gt:specialIn K (.builtin "object.__class__") "__get__" = some (some (.builtin "getset_descriptor.__get__"))
 tk:takesIn K (.builtin "object.__class__")=some true
def Mg (H:Hp)(a C:Addr):Prop:=H a=some (eV a C none)\/∃ dx fs,H a=some (eV a C (some dx))/\H dx=some (.xd fs)
theorem Mg.inst {P:Program}{w:World}{H:Hp}{h:Heap}{a C:Addr}(E:Mg H a C)(ok:Θ P w H h):∃ ox od,InstAt h a ox C od:=by
 rcases E with e | ⟨dx,fs,ea,ed⟩
 ·obtain⟨t,hx⟩:=ic ok e;exact⟨_,none,⟨hx,rfl,rfl,True.intro⟩⟩
 ·obtain⟨ox,od,J,_⟩:=nJ ok ea ed;exact⟨ox,some od,J⟩
def Kc:V->Value
 | .ref a=>.ref a
 | .ty n=>.type n
 | _=>.none
end
end My
namespace My
open PySem PySem.W L2
open PyProof.Rows (AllBare)
abbrev iL (C:Addr)(d:Option Addr)(t:Addr)(v:Value):Obj:={ cls:=.ref C,dict:=d,data:=.fields #[.ref t,v,.none,.none,.bool false,.none] }
def fP (x C:Addr)(d:Option Addr):HO:=.ext λ h=>∃ t v,h.get? x=some (iL C d t v)
theorem wP {P:Program}{w:World}{H:Hp}{h:Heap}{x C:Addr}{d:Option Addr}{t:Addr}{v:Value}(e:h.get? x=some (iL C d t v)):Ā P w H h x (fP x C d) :=
 ⟨⟨t,v,e⟩,⟨_,e⟩,λ _ _ ⟨t',v',e'⟩ k=>⟨t',v',k _ e'⟩⟩
theorem qa {P:Program}{w:World}{H:Hp}{h:Heap}{x C:Addr}{d:Option Addr}(ok:Θ P w H h)(e:H x=some (fP x C d)):∃ t v,h.get? x=some (iL C d t v):=(ok x _ e).1
def Li (n:Nat)(H:Hp)(h:Heap)(x C:Addr)(d:Option Addr):Prop:=∃ t T oT ts,h.get? x=some (iL C d t (.ref T))/\T≠x/\n<=T/\H T=none/\h.get? T=some oT/\oT.data=.fields ts/\ts[3]?=some Value.none
def cp (P:Program)(w:World):jv:=λ outer H s E e s'=>∃ x C dx fs H',e=.ref x/\s'.os=s.os/\AllBare s'.gens/\Un (kD outer) [] H H' s.heap s'.heap/\Θ P w H' s'.heap/\H' x=some (fP x C (some dx))/\H' dx=some (.xd fs)/\Li s.heap.objs.size H' s'.heap x C (some dx)/\E (.ref C) (some x) H'
section
variable {X:Cx}{Ã:List (Addr × Obj)}{σ:St}{H:Hp}{s:Shared}
theorem Inv.left {x C:Addr}{d:Option Addr}{t T:Addr}{v r:Value}{h':Heap}{o:HO}(I:Inv X Ã σ H s)(hS:X.stack=X.env::X.outer)(hx:H x=some o)(ho:(∃ φ,o=.ext φ))(he:s.heap.get? x=some (iL C d t v))
  (l:LH (kD (X.env::X.outer)) x T (iL C d t v) s.heap h' r):Inv X Ã σ (af H x (fP x C d)) { s with heap:=h' }:=by
 obtain⟨φ,rfl⟩:=ho;have nx:∀ b u,H b=some u->(∀ φ,u ≠ .ext φ)->b≠x:=λ b u e n z=>by
  subst z;rw [hx] at e;exact n φ (Û e).symm
 have fr0:∀ b∈kD (X.env::X.outer),H b=none:=λ b hb=>I.D_ b (by rw [hS];exact hb)
 have Tt:∀ b u,H b=some u->b ∉ kD (X.env::X.outer):=λ b u e z=>by rw [fr0 b z] at e;cases e
 have exc:h'.get? x=some (iL C d t (.ref T)):=l.exc;have sub:∀ b,b∈kD (X.env::X.outer)->b=X.env.locals\/b∈X.fs:=λ b hb=>ç.mp (I.ų b (by rw [hS];exact hb))
 refine I.step (g':=s.gens) (d':=s.drawn) (t':=s.toks) (ch:=[]) (λ _ z=>nomatch z) (λ b o hL hf _ e n=>?_) (λ b o hL hf _ e n=>?_) (λ b o _ e n=>?_) (λ b o _ e=>?_) (λ b xs e=>?_) (λ b o u e=>?_) (λ b ps e=>⟨#[],?_⟩) (λ e=>?_) (λ m hm=>?_) (λ b u e=>?_) I.bare
 ·refine l.keep b o (λ z=>by rw [z,hx] at n;cases n) (λ z=>?_) e
  rcases sub b z with q | q
  ·exact hL q
  ·exact hf q
 ·exact l.slot b o (λ z=>by rw [z,hx] at n;cases n) e
 ·rw [au (λ z=>by rw [z,hx] at n;cases n)];exact n
 ·by_cases z:b=x
  ·subst z;exact⟨_,exc⟩
  ·obtain⟨sl,q⟩:=l.slot b o z e;exact⟨_,q⟩
 ·rw [au (nx b _ e λ _=>by intro z;cases z)];exact e
 ·rw [au (nx b _ e λ _=>by intro z;cases z)];exact e
 ·rw [au (nx b _ e λ _=>by intro z;cases z),e];simp
 ·rw [au (λ z=>by rw [z,hx] at e;cases e)];exact e
 ·obtain⟨o,es,ep,ho,r⟩:=hm;obtain⟨sl,q⟩:=l.slot _ o (λ z=>by have:=I.free;rw [z,hx] at this;cases this) ho
  exact⟨_,es,ep,q,r⟩
 ·by_cases z:b=x
  ·subst z;rw [aR] at e;cases e;exact wP exc
  ·rw [au z] at e;refine(I.Ć b u e).y_ (λ c o' hc q=>?_) (λ c q=>?_) λ c xs q=>?_
   ·rcases hc with rfl | hc
    ·exact l.keep c o' z (Tt c u e) q
    ·exact l.keep c o' (nx c _ hc λ _=>by intro w;cases w) (Tt c _ hc) q
   ·rw [au (nx c _ q λ _=>by intro w;cases w)];exact q
   ·rw [au (nx c _ q λ _=>by intro w;cases w)];exact q
end
section
variable {P:Program}{w:World}{K:Frag}{mg:bv}{base:Heap}{N:List Str}{qual:Str}{scope:Scope}{f:Addr}{cd:Value}{A:Around}{outer:List Env}{s0:Shared}{H0:Hp}{E:XK}{Ã:List (Addr × Obj)}{σ:St}{H:Hp}{s:Shared}
theorem yg {x C dx:Addr}{t:Addr}{v:Value}{o:HO}{fs:List (Str × V)}(I:Inv (br (cp P w) P w K mg base N qual scope f cd A outer s0 H0 E) Ã σ H s)(hx:H x=some o)(ho:(∃ φ,o=.ext φ))(NC:H dx=some (.xd fs))(he:s.heap.get? x=some (iL C (some dx) t v))
  (hv:zg s.heap x #[.ref t,v,.none,.none,.bool false,.none])(q:E (.ref C) (some x) (af H x (fP x C (some dx)))):(br (cp P w) P w K mg base N qual scope f cd A outer s0 H0 E).xe (.ref x) s:=by
 have hA:=I.ok.frames;refine om hA I.stack rfl he rfl hv λ h' T l=>?_;have J:=Inv.left I rfl hx ho he l;have nT:H T=none:=I.Ć.fresh l.new;obtain⟨oT,ts,h1,h2,h3,h4⟩:=l.Ti;have nd:dx≠x:=λ z=>by
  obtain⟨φ,rfl⟩:=ho;rw [z,hx] at NC;cases NC
 refine⟨x,C,dx,fs,_,rfl,J.os,J.bare,J.base,J.Ć,aR,by rw [au nd];exact NC,⟨t,T,oT,ts,l.exc,h4,é I.sz l.new,?_,h1,h2,h3⟩,q⟩
 rw [au h4];exact nT
theorem cH:cR (cp P w) (br (cp P w) P w K mg base N qual scope f cd A outer s0 H0 E) E:=by
 intro Ã σ H s e s' I h;obtain⟨x,C,dx,fs,H',rfl,os,bare,un,Ć,hx,NC,⟨t,T,oT,ts,h1,h2,_,h4,h5,h6,h7⟩,q⟩:=h;have J:=I.NE os un Ć bare (λ b z=>absurd z (by simp))
 refine yg J hx ⟨_,rfl⟩ NC h1 (.inr ⟨T,oT,ts,rfl,h2,h5,h6,h7⟩) ?_;rw [oZ hx];exact q
end
end My
namespace My
open PySem PySem.W L2
open PyProof.Rows (AllBare)
section
variable {prog:Program}{w:World}{A:Around}{E:cy}{s:Shared}{env:Env}{x:Sem Value}{Q:Flow->Shared->Prop}{K:Frag}{C:Addr}
theorem tE (T:j3 K C)(ht:typeIn K (.ref C)=some (.type "type"))(hA:A.handled=none)
  (hx:wpAny (model prog w) A x (λ v s1=>∃ e t d od,v=.ref e/\InstAt s1.heap e (ky C d t) C od/\K.In s1.heap/\E (.ref e) s1) E s):wpAny (model prog w) A (raiseStmt env (some x) none) Q E s:=by
 unfold raiseStmt;refine À (æ hx (λ v s1 h=>?_) (λ _ _ z=>z));obtain⟨e,t,d,od,rfl,I,KX,q⟩:=h;obtain⟨hp,g,dr,tk,os⟩:=s1;have WS:∀ c:ClassData,(ky C d t).data≠Data.cls c:=λ c z=>by cases z
 refine À (Æ ?_);refine À ?_;show wpAny _ _ (excFromValue (.ref e) _) _ _ _;unfold excFromValue;refine À ?_;unfold isExcClass;refine À (ks_wpAny_isType_inst I.at_ WS ?_);refine ü rfl (Æ ?_);refine ü rfl ?_;refine À ?_;have sub:Looks (model prog w) hp (isInstance (.ref e) (.type "BaseException")) true:=I.type.andThen (C_ KX T.mb);refine ę (s:=⟨hp,g,dr,tk,os⟩) sub ?_;refine Ł rfl (Æ ?_);refine À (ks_wpAny_isType_inst I.at_ WS ?_);refine ü rfl ?_;refine À ?_;unfold raisedInstance;refine À (ę (s:=⟨hp,g,dr,tk,os⟩) I.type ?_);refine À (ę (s:=⟨hp,g,dr,tk,os⟩) (looks_typeIn KX ht) ?_);refine Ł rfl (Æ ?_);refine À ?_;unfold setFlight;refine À (ì I.at_ rfl rfl ?_);refine ü rfl (Æ ?_);exact wpAny_raiseNew_none hA q
end
theorem ĳ.type {K:Frag}{D:Addr}{nm:Str}{C f:Addr}(T:ĳ K D nm C f):typeIn K (.ref C)=some (.type "type"):=by
 obtain⟨q,N,bs,sn,sub,ab,col,dd,k0,k1,k2,k3,k5,l⟩:=T.cls;show(K.lookup C).map (λ o=>o.cls)=_;rw [l];rfl
def qR (E:XK)(C:Addr):VK:=λ y H'=>∃ x dx fs,y=.ref x/\H' x=some (eV x C (some dx))/\H' dx=some (.xd fs)/\E (.ref C) (some x) (af H' x (fP x C (some dx)))
def DH (E:XK)(C:Addr)(fld:Str)(te:TE):TS:=λ _ σ H=>Gi C fld te σ H (qR E C)
theorem fv {H:Hp}{x:Addr}{a b:HO}:af (af H x a) x b=af H x b:=by
 funext z
 unfold af;by_cases h:z=x
 ·rw [à h,à h]
 ·rw [Ø h,Ø h,Ø h]
section
variable {P:Program}{w:World}{K:Frag}{mg:bv}{base:Heap}{N:List Str}{qual:Str}{scope:Scope}{f:Addr}{cd:Value}{A:Around}{outer:List Env}{s0:Shared}{H0:Hp}{E:XK}
abbrev rX (P:Program)(w:World)(K:Frag)(mg:bv)(base:Heap)(N:List Str)(qual:Str)(scope:Scope)(f:Addr)(cd:Value)(A:Around)(outer:List Env)(s0:Shared)(H0:Hp)(E:XK):Cx:=br (cp P w) P w K mg base N qual scope f cd A outer s0 H0 E
theorem cu {D C fI:Addr}{nm fld x:Str}{k:Nat}{fd:FuncData}{ps:List Str}{e:Expr}{te:TE}{p pos pos':Pos}(B:Į K D)(T:ĳ K D nm C fI)(F:ß P w K mg base ay k fI fd ps (nO C fld))(hr:ö (k+1) (rX P w K mg base N qual scope f cd A outer s0 H0 E).A)(hb:Binds K fd ps [])
  (hg:Gl (rX P w K mg base N qual scope f cd A outer s0 H0 E) x)(hm:mg x=some (.ref C))(ha:PE (rX P w K mg base N qual scope f cd A outer s0 H0 E) e te)
  (l_:(x==("__debug__" : Str))=false:=by decide)(he:starEach [e] (rX P w K mg base N qual scope f cd A outer s0 H0 E).env=(false,eval e (rX P w K mg base N qual scope f cd A outer s0 H0 E).env)::starEach [] (rX P w K mg base N qual scope f cd A outer s0 H0 E).env:=by rfl) (Κ:(backTo pos (starEach [] (rX P w K mg base N qual scope f cd A outer s0 H0 E).env)).any (·.1)=false:=by rfl) :
  PS (rX P w K mg base N qual scope f cd A outer s0 H0 E) (.Raise (some (.Call (.Name x p) [e] [] pos)) none pos') (DH E C fld te):=by
 intro Ã s σ H D' I h;have pe:=Ax (X:=rX P w K mg base N qual scope f cd A outer s0 H0 E) (p:=p) (pos:=pos) B T F hr hb hg hm ha l_ he Κ;have hd:(rX P w K mg base N qual scope f cd A outer s0 H0 E).A.handled=none:=I.ok.hd rfl;rw [arm_exec_Raise];refine À (ĭ ?_);refine tE T.it T.type hd ?_;refine À (aW (pe Ã s σ H (qR E C) I h) λ u s1 h1=>?_);obtain⟨y,H1,I1,ry,x,dx,fs,rfl,e1,e2,q⟩:=h1;refine À (ĭ (Æ ?_));obtain⟨t,ht⟩:=ic I1.Ć e1;obtain⟨ox,od,J,_⟩:=nJ I1.Ć e1 e2;have eo:ox=ky C (some dx) t:=Û (J.at_.symm.trans ht);subst eo;exact⟨x,t,some dx,some od,ry,J,I1.Ń,yg I1 e1 ⟨_,rfl⟩ e2 ht (.inl rfl) q⟩
theorem dM {C x dx:Addr}{fld:Str}{v:V}{H1:Hp}(nd:dx≠x)(q:E (.ref C) (some x) (af (af H1 dx (.xd [(fld,v)])) x (fP x C (some dx)))):qR E C (.ref x) (af (af H1 dx (.xd [(fld,v)])) x (eV x C (some dx))) :=
 ⟨x,dx,_,rfl,aR,by rw [au nd,aR],by rw [fv];exact q⟩
theorem HE {x qual:Str}{st:Stmt}{f:Addr}{fd:FuncData}{N ps:List Str}{k:Nat}{sp:Sp}(F:ğ K x qual st f fd)(S:ae N ps (aa st))(len:∀ vs H Q E,sp vs H Q E->vs.length=ps.length)
  (Ż:∀(cdv:Value)(A:Around)(outer:List Env)(s:Shared)(H:Hp)(vs:List V)(Q:VK)(E:XK),ö k (A.deeper (PyProof.Rows.envOfC qual (aa st) s.heap.objs.size f cdv))->sp vs H Q E ->
   ∃ t,Ų (rX P w K mg base N qual (aa st) f cdv A outer s H E) (aH st) t/\t { nx:=λ _ H'=>Q .ù H',rt:=Q } (c7 N vs) H):ß P w K mg base (cp P w) (k+1) f fd ps sp:=by
 obtain⟨oc,od,kV,doc,pm,an,cdv,ct,N9,rfl,lk,M5⟩:=F.ex;refine yC lk M5 S len λ A outer s H vs Q E hr MN=>?_;obtain⟨t,h,q⟩:=Ż cdv A outer s H vs Q E hr MN;exact⟨t,h,q⟩
theorem fK {x qual:Str}{st:Stmt}{f:Addr}{fd:FuncData}{N ps:List Str}{k:Nat}{sp:Sp}(F:ğ K x qual st f fd)(S:ae N ps (aa st))
  (Ż:∀(cdv:Value)(A:Around)(outer:List Env)(s:Shared)(H:Hp)(vs:List V)(Q:VK)(E:XK),ö k (A.deeper (PyProof.Rows.envOfC qual (aa st) s.heap.objs.size f cdv))->sp vs H Q E ->
   ∃ t,Ų (rX P w K mg base N qual (aa st) f cdv A outer s H E) (aH st) t/\t { nx:=λ _ H'=>Q .ù H',rt:=Q } (c7 N vs) H)(len:∀ vs H Q E,sp vs H Q E->vs.length=ps.length:=by intro vs H Q E h;repeat (first | (obtain⟨rfl,_⟩:=h;rfl) | (obtain⟨_,h⟩:=h))):ß P w K mg base (cp P w) (k+1) f fd ps sp:=HE F S len Ż
theorem ji {X:Cx}{st:Stmt}:PS X st (λ _ _ _=>False):=λ _ _ _ _ _ _ h=>h.elim
theorem ß.Z5 {k:Nat}{f:Addr}{fd:FuncData}{ps:List Str}{sp:Sp}(F:ß P w K mg base ay k f fd ps sp):ß P w K mg base (cp P w) k f fd ps sp :=
 ⟨F.len,λ A outer s H args us vs Q E hr he hb hv hs=>ŉ (F.run A outer s H args us vs Q E hr he hb hv hs) λ r s' h=>by
  cases r with
  | error e=>exact False.elim h
  | ok fl=>cases fl <;> exact h⟩
end
end My
namespace My
open PySem PySem.W L2
open PyProof.Rows (AllBare)
def PX (X:Cx)(σ:St)(e:Expr)(t:TE):Prop:=∀(Ã:List (Addr × Obj))(s:Shared)(H:Hp)(Q:VK),Inv X Ã σ H s->t σ H Q->wpAny (model X.prog X.w) X.A (eval e X.env) (EP X Ã σ Q) X.xe s
def Kj (X:Cx)(σ:St)(es:List Expr)(t:TA):Prop:=∀(pos:Pos)(Ã:List (Addr × Obj))(s:Shared)(H:Hp)(Q:List V->Hp->Prop),Inv X Ã σ H s->t σ H Q->wpAny (model X.prog X.w) X.A (spliced (backTo pos (starEach es X.env))) (AP X Ã σ Q) X.xe s
section
variable {X:Cx}{σ:St}{e:Expr}{es:List Expr}{te:TE}{t:TA}{pos:Pos}
theorem C7 (h:PA X es t):Kj X σ es t:=λ pos Ã s H Q I q=>h pos Ã s σ H Q I q
def vb (CX:jv)(X:Cx)(σ:St)(E:XK):Prop:=∀(Ã:List (Addr × Obj))(H:Hp)(s:Shared)(e:Value)(s':Shared),Inv X Ã σ H s->CX X.stack H s E e s'->X.xe e s'
variable {CX:jv}{k:Nat}{f C:Addr}{fd:FuncData}{ps:List Str}{sp:Sp}{dvs:List V}{ds:List Value}{E:XK}{x:Str}{p:Pos}
theorem wT {Ã:List (Addr × Obj)}{H:Hp}{s:Shared}{Q:VK}{us:List Value}{vs:List V}(F:ß X.prog X.w X.K X.mg X.base CX k f fd ps sp)(hr:ö k X.A)(hb:Binds X.K fd ps ds)(hd:Vals dvs ds)(hx:vb CX X σ E)
  (I:Inv X Ã σ H s)(r:Vals vs us)(h:sp (vs++dvs) H Q E):wpAny (model X.prog X.w) X.A (call (.ref f) us) (EP X Ã σ Q) X.xe s:=by
 have r2:Vals (vs++dvs) (us++ds):=r.append hd;have hl:(us++ds).length=ps.length:=by rw [<- r2.length];exact F.len _ _ _ _ h
 refine ŕ (ŉ (F.run X.A X.stack s H ⟨us,[]⟩ (us++ds) (vs++dvs) Q E hr I.O8 (hb s us I.Ń hl) r2 h) λ r s' hq=>?_);cases r with
 | error e=>exact hx Ã H s e s' I hq
 | ok fl =>
  cases fl with
  | ret u=>exact I.after hq
  | next=>exact False.elim hq
  | brk=>exact False.elim hq
  | cont=>exact False.elim hq
theorem xQ (F:ß X.prog X.w X.K X.mg X.base CX k f fd ps sp)(hr:ö k X.A)(hg:Gl X x)(hm:X.mg x=some (.ref f))(hk:PySem.W.keepIn X.K (.ref f)=true)(hb:Binds X.K fd ps ds)(hd:Vals dvs ds)(hx:vb CX X σ E)
  (ha:Kj X σ (e::es) t)(l_:(x==("__debug__" : Str))=false:=by decide)(he:starEach (e::es) X.env=(false,eval e X.env)::starEach es X.env:=by rfl) (Κ:(backTo pos (starEach es X.env)).any (·.1)=false:=by rfl) :
  PX X σ (.Call (.Name x p) (e::es) [] pos) (gE sp dvs E t):=by
 intro Ã s H Q I h;refine ċ (ck I hg hm ?_ l_);refine Ę (h₀:=X.base) I.ok.mod.OP hk (aW (ha pos Ã s H _ I h) λ us s1 ⟨vs,H1,I1,r,q⟩=>⟨I1.Ń,?_⟩) he Κ;exact wT F hr hb hd hx I1 r q
end
section
variable {prog:Program}{w:World}{A:Around}{E:cy}{s:Shared}{K:Frag}{C D e:Addr}{Q:Bool->Shared->Prop}{ox:Obj}{od:Option Obj}{b:Bool}
theorem oM (KX:K.In s.heap)(hD:∃ cd,clsIn K D=some cd)(hT:typeIn K (.ref D)=some (.type "type"))(hB:mroIn K D (.type "BaseException")=some true)(I:InstAt s.heap e ox C od)(hC:mroIn K C (.ref D)=some b)(q:Q b s):wpAny (model prog w) A (excMatches (.ref e) (.ref D)) Q E s:=by
 unfold excMatches;have L1:Looks (model prog w) s.heap (isInstance (.ref D) (.type "tuple")) false:=(looks_typeIn KX hT).andThen (Looks.of_pure rfl);refine À (ę L1 ?_);refine ü rfl ?_;refine À (Æ ?_);refine À ?_;obtain⟨cd,hc⟩:=hD;obtain⟨hp,g,dr,tk,os⟩:=s;obtain⟨oD,QT,SJ⟩:∃ oD,K.lookup D=some oD/\oD.data=.cls cd:=by
  unfold clsIn at hc;split at hc
  ·rename_i h
   exact⟨_,h,by cases hc;rfl⟩
  ·cases hc
 rw [List.forIn_cons];refine À (À ?_);unfold isExcClass;refine À (ks_wpAny_isType_cls (KX _ _ QT) SJ ?_);refine Ł rfl ?_;refine ę (s:=⟨hp,g,dr,tk,os⟩) (C_ KX hB) ?_;refine ü rfl (Æ ?_);show wpAny _ _ (forIn ([]:List Value) PUnit.unit _) _ _ _;rw [On];refine Æ ?_;refine À (ę (s:=⟨hp,g,dr,tk,os⟩) I.type ?_);refine À ?_;rw [List.forIn_cons];refine À (À (ę (s:=⟨hp,g,dr,tk,os⟩) (C_ KX hC) ?_));cases b with
 | true =>
  refine Ł rfl (Æ ?_);exact Æ (Æ q)
 | false =>
  refine ü rfl (Æ ?_);show wpAny _ _ (forIn ([]:List Value) _ _) _ _ _;rw [On];exact Æ (Æ q)
end
end My
namespace My
open PySem PySem.W L2
open PyProof.Rows (AllBare)
def Kz (X:Cx)(σ:St)(st:Stmt)(t:TS):Prop:=∀(Ã:List (Addr × Obj))(s:Shared)(H:Hp)(D:bY),Inv X Ã σ H s->t D σ H->wpAny (model X.prog X.w) X.A (exec st X.env) (SP X Ã D) X.xe s
abbrev jr (X:Cx)(pn:List (Addr × Obj))(xe:cy):Cx:={ X with pn:=pn,xe:=xe }
abbrev ix (X:Cx)(x:Addr):Cx:={ X with A:=X.A.mark (some (.ref x)),calm:=false,xe:=λ _ _=>False }
section
variable {X:Cx}{Ã Mc pn:List (Addr × Obj)}{σ:St}{H:Hp}{s:Shared}{xe:cy}{x:Addr}
theorem Ok.OC (ok:X.Ok):(jr X pn xe).Ok:=⟨ok.mod,ok.kind,ok.glob,ok.blt,ok.above,ok.inj,ok.has,ok.Qu,ok.hd,ok.frames,ok.QJ,ok.SQ,ok.bs,ok.No,ok.Mo,ok.Nm,ok.γ,ok.O4⟩
theorem Ok.Ε (ok:(jr X pn xe).Ok):X.Ok:=⟨ok.mod,ok.kind,ok.glob,ok.blt,ok.above,ok.inj,ok.has,ok.Qu,ok.hd,ok.frames,ok.QJ,ok.SQ,ok.bs,ok.No,ok.Mo,ok.Nm,ok.γ,ok.O4⟩
theorem Inv.OC (I:Inv X Ã σ H s):Inv (jr X (X.pn ++ Ã) xe) [] σ H s :=
 ⟨Ok.OC I.ok,I.os,I.bare,I.base,I.loc,I.cell,I.free,I.ţ,λ p hp=>I.pin p (by rw [ă] at hp;exact hp),I.Ć,I.len⟩
theorem Inv.Ε (I:Inv (jr X (X.pn ++ Ã) xe) Mc σ H s):Inv X Ã σ H s :=
 ⟨Ok.Ε I.ok,I.os,I.bare,I.base,I.loc,I.cell,I.free,I.ţ,λ p hp=>I.pin p (H_ _ hp),I.Ć,I.len⟩
theorem Inv.Pz (I:Inv X Ã σ H s):Inv (ix X x) Ã σ H s :=
 ⟨⟨I.ok.mod,I.ok.kind,I.ok.glob,I.ok.blt,I.ok.above,I.ok.inj,I.ok.has,I.ok.Qu,λ z=>Bool.noConfusion z,I.ok.frames,I.ok.QJ,I.ok.SQ,I.ok.bs,I.ok.No,I.ok.Mo,I.ok.Nm,I.ok.γ,I.ok.O4⟩,I.os,I.bare,I.base,I.loc,I.cell,I.free,I.ţ,I.pin,I.Ć,I.len⟩
theorem Inv.Nh (ok:X.Ok)(I:Inv (ix X x) Ã σ H s):Inv X Ã σ H s:=⟨ok,I.os,I.bare,I.base,I.loc,I.cell,I.free,I.ţ,I.pin,I.Ć,I.len⟩
theorem SP.Nh {D:bY}{f:Flow}(ok:X.Ok)(h:SP (ix X x) Ã D f s):SP X Ã D f s:=by
 cases f with
 | next=>obtain⟨Ē,H',I,q⟩:=h;exact⟨Ē,H',Inv.Nh ok I,q⟩
 | brk=>obtain⟨Ē,H',I,q⟩:=h;exact⟨Ē,H',Inv.Nh ok I,q⟩
 | cont=>obtain⟨Ē,H',I,q⟩:=h;exact⟨Ē,H',Inv.Nh ok I,q⟩
 | ret u=>obtain⟨v,Ē,H',I,r,q⟩:=h;exact⟨v,Ē,H',Inv.Nh ok I,r,q⟩
theorem SP.Ε {D:bY}{f:Flow}(h:SP (jr X (X.pn ++ Ã) xe) Mc D f s):SP X Ã D f s:=by
 cases f with
 | next=>obtain⟨Ē,H',I,q⟩:=h;exact⟨Ē,H',Inv.Ε I,q⟩
 | brk=>obtain⟨Ē,H',I,q⟩:=h;exact⟨Ē,H',Inv.Ε I,q⟩
 | cont=>obtain⟨Ē,H',I,q⟩:=h;exact⟨Ē,H',Inv.Ε I,q⟩
 | ret u=>obtain⟨v,Ē,H',I,r,q⟩:=h;exact⟨v,Ē,H',Inv.Ε I,r,q⟩
theorem qT {M:Model}{A:Around}{E:cy}{i:Nat}{n:Str}{v:V}{Q:Unit->Shared->Prop}(I:Inv X Ã σ H s)(hN:X.N.Nodup)(hi:X.N[i]?=some n)(hk:X.env.scope.names.lookup n=some .local)(hv:σ[i]?=some (some v))
  (h:∀ s',Inv X Ã (σ.set i none) H s'->Q () s'):wpAny M A (unbindName X.env n) Q E s:=by
 obtain⟨m,hn,hl⟩:=id I.loc;have QZ:(X.env.scope.kind == .class||(X.env.scope.kind == .module&&X.env.locals != X.env.globals))=false:=by rw [I.ok.kind];rfl
 have NW:i < σ.length:=by rw [I.len];exact(Ë.mp hi).1
 obtain⟨u,_,lk⟩:=hl i n v hi hv (.inl hk);have mu:m n=some u:=by
  rcases lk with⟨_,z⟩ | ⟨z,_⟩
  ·exact z
  ·have k':X.env.kindOf n=some .local:=hk;rcases z with z | z <;>(rw [k'] at z;cases z)
 have O_:=I.O_;refine wpAny_unbindName_local hk hn mu QZ λ h' u' Qp hs=>?_;obtain⟨oL,_,_,Xc,_⟩:=id hn;have tracked:Θ X.prog X.w H h':=λ b ob e=>by
  refine(I.Ć b ob e).y_ (λ c w' hc q=>(hs.2 c ?_).trans q) (λ _ q=>q) λ _ _ q=>q;rintro rfl;rcases hc with rfl | hc
  ·rw [I.free] at e;cases e
  ·rw [I.free] at hc;cases hc
 refine h _ ⟨I.ok,I.os,I.bare,⟨λ b o e n hb hx=>?_,λ b o e n hb hx=>?_,I.base.free,λ b o e hx=>?_,I.base.K_,I.base.B_,I.base.Ln,I.base.sys⟩,⟨_,Qp,λ j y v' e1 e2 e3=>?_⟩,λ y c e=>?_,I.free,I.ţ,λ p hp=>?_,tracked,by simpa using I.len⟩
 ·exact(hs.2 b (Î (Þ (È e) I.ok.above))).trans (I.base.keep b o e n hb hx)
 ·obtain⟨sl,e1⟩:=I.base.slot b o e n hb hx;exact⟨sl,(hs.2 b (Î (Þ (È e) I.ok.above))).trans e1⟩
 ·obtain⟨o',e1⟩:=I.base.there b o e hx;exact⟨o',(hs.2 b (Î (Þ (È e) I.ok.above))).trans e1⟩
 ·by_cases hj:j=i
  ·subst hj;rw [Ŧ NW] at e2;cases e2
  ·rw [I_ (Ne.symm hj)] at e2;obtain⟨u2,r',q⟩:=hl j y v' e1 e2 e3;refine⟨u2,r',?_⟩;rcases q with⟨k,e⟩ | ⟨k,c,e,z⟩
   ·refine .inl ⟨k,?_⟩;have:y≠n:=λ e=>hj (jN hN e1 (e ▸ hi));simp [this,e]
   ·exact .inr ⟨k,c,e,z.sameBut hs (O_ y c e)⟩
 ·obtain⟨w',z⟩:=I.cell y c e;exact⟨w',z.sameBut hs (O_ y c e)⟩
 ·obtain⟨e,n,ne,nf,d⟩:=I.pin p hp;exact⟨(hs.2 p.1 ne).trans e,n,ne,nf,d⟩
end
structure fg (K:Frag)(D:Addr):Prop where
 cls:∃ cd,clsIn K D=some cd
 ty:typeIn K (.ref D)=some (.type "type")
 mb:mroIn K D (.type "BaseException")=some true
def im (D:bY)(i:Nat):bY:=⟨λ σ H=>D.nx (σ.set i none) H,D.rt,λ σ H=>D.bk (σ.set i none) H,λ σ H=>D.ct (σ.set i none) H⟩
end My
namespace My
open PySem PySem.W L2
open PyProof.Rows (AllBare)
section
variable {X:Cx}{Ã:List (Addr × Obj)}{σ:St}{H:Hp}{s:Shared}
theorem km {i:Nat}{n:Str}{pos:Pos}{E:cy}{D:bY}{f:Flow}(ok:X.Ok)(hN:X.N.Nodup)(hi:X.N[i]?=some n)(hk:X.env.scope.names.lookup n=some .local)(h:SP X Ã (im D i) f s) :
  wpAny (model X.prog X.w) X.A (do
   bindName X.env n .none
   unbindBehindTheSuite X.env n pos) (λ _ s'=>SP X Ã D f s') E s:=by
 have go:∀{Ē:St}{H':Hp},Inv X Ã Ē H' s->(∀ s',Inv X Ã (Ē.set i none) H' s'->SP X Ã D f s')->wpAny (model X.prog X.w) X.A (do
   bindName X.env n .none
   unbindBehindTheSuite X.env n pos) (λ _ s'=>SP X Ã D f s') E s:=λ {Ē H'} I q=>by
  have NW:i < Ē.length:=by rw [I.len];exact(Ë.mp hi).1
  refine À (wpAny_bindName (dZ I hN hi (.inl hk) (v:=V.ù) (u:=Value.none) rfl (λ s1 I1=>?_) (.inr hk)));unfold unbindBehindTheSuite;refine s_ (qT (v:=V.ù) I1 hN hi hk (Ŧ NW) λ s2 I2=>?_);rw [List.set_set] at I2;exact q s2 I2
 cases f with
 | next=>obtain⟨Ē,H',I,q⟩:=h;exact go I λ s' I'=>⟨_,H',I',q⟩
 | brk=>obtain⟨Ē,H',I,q⟩:=h;exact go I λ s' I'=>⟨_,H',I',q⟩
 | cont=>obtain⟨Ē,H',I,q⟩:=h;exact go I λ s' I'=>⟨_,H',I',q⟩
 | ret u=>obtain⟨v,Ē,H',I,r,q⟩:=h;exact go I λ s' I'=>⟨v,_,H',I',r,q⟩
end
section
variable {X:Cx}{Ã:List (Addr × Obj)}{σ:St}{H:Hp}{s:Shared}
theorem gs {P:Program}{w:World}{H:Hp}{h:Heap}{a C dx:Addr}{fs:List (Str × V)}(ok:Θ P w H h)(ea:H a=some (fP a C (some dx)))(ed:H dx=some (.xd fs)) :
  ∃(ox od:Obj),InstAt h a ox C (some od)/\∃ mA:Str->Option Value,(∀ f,Υ (fs.lookup f) (mA f))/\∀ name,lookIn name od=some (mA name):=by
 obtain⟨t,v,hx⟩:=qa ok ea;obtain⟨mA,hn,hr⟩:=(show Ā P w H h dx (.xd fs) from ok dx _ ed);obtain⟨od,VE,hl⟩:=iG hn;exact⟨_,od,⟨hx,rfl,rfl,VE⟩,mA,hr,hl⟩
def ut (K:Frag)(ta:TE)(f:Str):TE:=λ σ H Q=>ta σ H λ x H1=>∃ a C dx fs v,x=.ref a/\H1 a=some (fP a C (some dx))/\H1 dx=some (.xd fs)/\fs.lookup f=some v/\j3 K C/\hasDictIn K C=true/\findIn K (.ref C) f=some none/\Q v H1
theorem my {e:Expr}{ta:TE}{f:Str}{pos:Pos}(he:PE X e ta)(hb:attributeBase e f X.env (eval e X.env)=eval e X.env):PE X (.Attribute e f pos) (ut X.K ta f):=by
 intro Ã s σ H Q I h;refine p6 hb (aW (he Ã s σ H _ I h) λ u s1 ⟨x,H1,I1,rx,a,C,dx,fs,v,ex,ea,ed,l,T,hd,nf,q⟩=>?_);subst ex;obtain rfl:u=Value.ref a:=rx;obtain⟨ox,od,J,mA,hr,hl⟩:=gs I1.Ć ea ed;obtain⟨u,eu,ru⟩:=Υ.some_of (l ▸ hr f);exact zj I1.Ń J T.ga T.hk T.mb (findObj_own hd nf rfl (by rw [hl,eu])) (kq ru) ⟨v,H1,I1.tok _,ru,q⟩
def yS (K:Frag):List V->Hp->VK->Prop:=λ vs H Q=>∃ a C dx fs c b,vs=[.ref a,c]/\H a=some (fP a C (some dx))/\H dx=some (.xd fs)/\j3 K C/\((∃ z,c=.ref z)\/∃ n,c=.ty n)/\kitOne K (.ref C) (Kc c)=some b/\Q (.bl b) H
theorem cU (N:pY X.K):cP X (.builtin "isinstance") (yS X.K):=by
 intro Ã s σ H xs us Q I r h;obtain⟨a,C,dx,fs,c,b,rfl,ea,ed,T,hc,e,q⟩:=h;obtain⟨u,u',rfl,ru,NP⟩:=hZ r;cases (show u=Value.ref a from ru);have ec:u'=Kc c:=by
  rcases hc with⟨z,rfl⟩ | ⟨n,rfl⟩
  ·exact NP
  ·exact NP
 subst ec;obtain⟨ox,od,J,_⟩:=gs I.Ć ea ed;exact kia_one (pz T N.gt N.tk) I.Ń ⟨ox,some od,J⟩ e (λ z=>nomatch z) λ tk=>⟨.bl b,H,I.tok _,rfl,q⟩
theorem kL:∀{cs:List Addr}{us:List Value},Vals (cs.map V.ref) us->us=cs.map Value.ref
 | [],_,.nil=>rfl
 | c::cs,_,.cons r t=>by
  rw [kL t];cases (show _=Value.ref c from r);rfl
end
end My
namespace My
open PySem PySem.W L2
open PyProof.Rows (AllBare)
structure tW (X:Cx)(Ã:List (Addr × Obj))(σ:St)(H:Hp)(s:Shared)(x C:Addr):Prop where
 inv:Inv X Ã σ H s
 err:∃ dx fs,H x=some (fP x C (some dx))/\H dx=some (.xd fs)
 fl:∃ dx t T oT ts,s.heap.get? x=some (iL C dx t (.ref T))/\s.heap.get? T=some oT/\oT.data=.fields ts/\ts[3]?=some Value.none
abbrev TH:=Addr->Addr->TS
def DL (X:Cx)(hs:List ExceptHandler)(th:TH):Prop:=∀(Ã:List (Addr × Obj))(s:Shared)(σ:St)(H:Hp)(D:bY)(x C:Addr),tW X Ã σ H s x C->th x C D σ H->wpAny (model X.prog X.w) X.A (handleBy (.ref x) X.env hs) (SP X Ã D) X.xe s
def D8:TH:=λ _ _ _ _ _=>False
section
variable {X:Cx}{hs:List ExceptHandler}{rest:TH}
theorem vP:DL X [] D8:=λ _ _ _ _ _ _ _ _ h=>False.elim h
end
def uf (th:TH)(D:bY)(σ:St):XK:=λ c o H'=>∃ x C,c=.ref C/\o=some x/\th x C D σ H'
def t5 (tb:XK->TS)(th:TH):TS:=λ D σ H=>tb (uf th D σ) D σ H
theorem vK {X:Cx}{st:Stmt}{tb:XK->TS}{th:TH}{h₀:ExceptHandler}{hs:List ExceptHandler}{pos:Pos}(hS:X.stack=X.env::X.outer)(hL:X.env.frame=some X.env.locals)
  (hb:∀(σ:St)(E:XK)(pn:List (Addr × Obj))(xe:cy),vb (cp X.prog X.w) (jr X pn xe) σ E->Kz (jr X pn xe) σ st (tb E))(hh:DL X (h₀ :: hs) th):PS X (.Try [st] (h₀ :: hs) [] [] pos) (t5 tb th):=by
 intro Ã s σ H D I h;refine wpAny_Try_except ?_;have px:=hb σ (uf th D σ) (X.pn ++ Ã) (λ e Ą=>wpAny (model X.prog X.w) X.A (noteFrame e X.env) (λ _ ő=>wpAny (model X.prog X.w) X.A (setFlight e none) (λ _ j_=>wpAny (model X.prog X.w) X.A (handleBy e X.env (h₀ :: hs)) (SP X Ã D) X.xe j_) X.xe ő) X.xe Ą) ?_
 ·refine Pq (aW (px [] s H D (Inv.OC I) h) λ f s1 q=>?_);cases f with
  | next=>exact ū (ū (SP.Ε (f:=.next) q))
  | ret v=>exact SP.Ε (f:=.ret v) q
  | brk=>exact SP.Ε (f:=.brk) q
  | cont=>exact SP.Ε (f:=.cont) q
 intro Mc H1 s1 ev s' I1 h1;obtain⟨x,C,dx,fs,H',rfl,os,bare,un,Ć,hx,NC,⟨t,T,oT,ts,e1,e2,_,e4,e5,e6,e7⟩,x',C',ec,eo,q⟩:=h1;cases ec;cases eo;have J:Inv X Ã σ H' s':=Inv.Ε (I1.NE os un Ć bare (λ b z=>absurd z (by simp)))
 have hA:X.A.frames=some (X.env::X.outer):=by rw [<- hS];exact J.ok.frames
 have hF:s'.heap.FunFrames X.base (X.env::X.outer):=by rw [<- hS];exact J.stack
 refine jG hA hF hL e1 rfl (.inr ⟨T,oT,ts,rfl,e2,e5,e6,e7⟩) λ h' T' l=>?_;refine l.O7 rfl (by show 1<6;decide) _ rfl λ h2 l2=>?_
 have J2:=Inv.left J hS hx ⟨_,rfl⟩ e1 l2;rw [oZ hx] at J2;have SR:h2.get? x=some (iL C (some dx) t (.ref T')):=l2.exc;obtain⟨Rk,Rj,f1,f2,f3,f4⟩:=l2.Ti;exact hh Ã _ σ H' D x C ⟨J2,⟨dx,fs,hx,NC⟩,some dx,t,T',Rk,Rj,SR,f1,f2,f3⟩ q
section
variable {X:Cx}{σ:St}{e:Expr}{te:TE}{pos:Pos}
theorem uo (he:PX X σ e te)(hs:swapsWith e none pos.line X.env=pure false:=by rfl):Kz X σ (.Expr e pos) (iM te):=by
 intro Ã s H D I h;exact wpAny_Expr_any (aW (he Ã s H _ I h) λ v s1 ⟨x,H1,I1,r1,q1⟩=>⟨σ,H1,I1,q1⟩) I.quiet hs
end
end My
namespace My
open PySem L2
section
variable {X:Cx}
theorem kC {A:Around}:A.in1.units=A.units+1:=rfl
def pL (K:PySem.W.Frag):V->List V->Hp->VK->Prop:=λ x vs H Q=>∃ l xs y,x=.ref l/\vs=[y]/\ó K H l xs/\xs.all jA=true/\jA y=true/\Q (.int (xs.countP λ z=>p5 z y:Nat)) H
theorem mQ:HA X "list.count" (pL X.K):=by
 intro Ã s σ H x vs v us Q I rx rv h;obtain⟨l,xs,y,rfl,rfl,hl,f1,f2,q⟩:=h;cases rx;obtain⟨u,rfl,ru⟩:=eG rv;obtain⟨its,r,t,hz0⟩:=I.list hl;obtain⟨⟨c,dd,dt,sl⟩,h1,hc,n,hd⟩:=t.isList;replace hc:c=.type "list" := hc;replace hd:dt=.seq its.toArray n:=hd;subst hc hd;refine LM F.slot_list_count ⟨_,h1,rfl⟩ F.entry_list_count (F.args_list_count_2 _ _) (SeqAt.list_countAt l its.toArray n dd sl u (λ z=>match vM z with | some a=>p5 a y | none=>false)) ⟨h1,λ z hz=>?_,?_⟩
 ·obtain⟨i,hi,e⟩:=Ĺ (show z∈its by simpa using hz)
  have k1:i<xs.length:=by rw [r.length];exact hi
  obtain⟨u1,e1,q1⟩:=r.get (Â k1);rw [Â hi,e] at e1;cases e1;rw [q1.abs];exact uX q1 ru (ě.mp f1 _ (đ k1)) f2
 ·refine⟨.int _,H,I.tok _,⟨_,rfl⟩,?_⟩;have z:its.toArray.toList.countP (λ z=>match vM z with | some a=>p5 a y | none=>false)=xs.countP λ z=>p5 z y:=by
   clear h1 t hl f1 q hz0
   rw [List.toList_toArray]
   induction r with
   | nil=>rfl
   | cons q1 _ ih=>rw [Nc,Nc,ih,q1.abs]
  rw [z];exact q
end
end My
namespace My
open PySem PySem.W L2
open PyProof.Rows (Call_ boot_enumerate)
section
variable {X:Cx}{Ã:List (Addr × Obj)}{σ:St}{H:Hp}{s:Shared}{h':Heap}
theorem wB {t':Nat}{i1 i2:Addr}(I:Inv X Ã σ H s)(k:∀ b o,b≠i1->b≠i2->s.heap.get? b=some o->h'.get? b=some o)(F1:dF X Ã H i1)(F2:dF X Ã H i2):Inv X Ã σ H { s with heap:=h',toks:=t' }:=by
 obtain⟨n1,L1,_,a1,b1,c1⟩:=F1;obtain⟨n2,L2,_,a2,b2,c2⟩:=F2;have WV:∀ b u,H b=some u->b≠i1:=λ b u e z=>by rw [z,n1] at e;cases e
 have WU:∀ b u,H b=some u->b≠i2:=λ b u e z=>by rw [z,n2] at e;cases e
 refine I.step (g':=s.gens) (d':=s.drawn) (ch:=[i1,i2]) (λ b hb=>?_) (λ b o _ _ hc e _=>k b o (λ z=>hc (by simp [z])) (λ z=>hc (by simp [z])) e) (λ b o _ _ hc e _=>⟨o.slots,k b o (λ z=>hc (by simp [z])) (λ z=>hc (by simp [z])) e⟩) (λ _ _ _ _ n=>n)
  (λ b o hc e=>⟨o,k b o (λ z=>hc (by simp [z])) (λ z=>hc (by simp [z])) e⟩) (λ _ _ e=>e) (λ _ _ _ e=>e) (λ b ps e=>⟨#[],by rw [e];simp⟩) (λ q=>q) (λ m hm=>?_) (λ b u e=>?_) I.bare
 ·have e:b=i1\/b=i2:=by simpa using hb
  rcases e with rfl | rfl
  ·exact⟨a1,L1,b1,c1⟩
  ·exact⟨a2,L2,b2,c2⟩
 ·obtain⟨o,es,ep,ho,r⟩:=hm;exact⟨o,es,ep,k _ o (Ne.symm L1) (Ne.symm L2) ho,r⟩
 ·refine(I.Ć b u e).y_ (λ c v hc q=>k c v ?_ ?_ q) (λ _ q=>q) λ _ _ q=>q
  ·rcases hc with z | z
   ·rw [z];exact WV b u e
   ·exact WV c _ z
  ·rcases hc with z | z
   ·rw [z];exact WU b u e
   ·exact WU c _ z
end
theorem Mn {o:Obj}{vs:Array Value}(d:o.data=.fields vs):o.isFreed=false:=by
 obtain⟨c,dd,dt,sl⟩:=o;cases d;rfl
def tG (K:Frag)(a:Addr):It :=
 ⟨λ i H=>∃ xs x,ó K H a xs/\xs[i]?=some x,λ i H x H'=>∃ p y,x=.ref p/\H p=none/\H'=af H p (.tup [.int i,y])/\∀ xs,ó K H a xs->xs[i]?=some y,λ i H=>∃ xs,ó K H a xs/\xs.length<=i⟩
theorem rQ {P:Program}{w:World}{K:Frag}{elts:List Expr} {x1}{pos:Pos}(a e it:Addr)(ne:e≠it):qW P w K (.Tuple elts x1 pos) (tG K a) [e,it] e (λ i h=>(∃ old,IsEnum h e it i old)/\h.IsListIter it a i) where
 mem:=by simp
 obj:=λ i h st b hb=>by
  obtain⟨⟨old,h1⟩,o,h2,c,d⟩:=st;have e:b=e\/b=it:=by simpa using hb
  rcases e with rfl | rfl
  ·exact⟨_,h1,λ v z=>by cases z⟩
  ·exact⟨o,h2,λ v z=>by rw [d] at z;cases z⟩
 keep:=λ i h h' st k=>⟨⟨_,k e (by simp) _ st.1.choose_spec⟩,st.2.at λ o z=>k it (by simp) o z⟩
 item:=by
  intro X hP hw hK hc i Ã s σ H E I hf st hg;subst hP hw hK;obtain⟨xs,x,hq,hx⟩:=hg;obtain⟨its,rv,p,hz⟩:=I.list hq;obtain⟨u,hu,ru⟩:=rv.get hx;obtain⟨⟨old,he⟩,hi⟩:=st;have Fe:=hf e (by simp)
  have Fi:=hf it (by simp)
  refine wpAny_pyNext_enum_item he hi p.isList (x:=u) (by simpa using hu) ne λ h1 eo hi1 ht hs1 kk=>?_
  refine⟨_,rfl,wpAny_letOwnedTupleGo_enum (s:={ s with heap:=h1,toks:=s.toks+1 }) eo λ h2 Qs sb=>?_⟩
  have Qa:Heap.SameBut e h1 h2:=sb;have ne2:s.heap.objs.size≠e:=ť (È he);have ht2:h2.get? s.heap.objs.size=some { cls:=.type "tuple",data:=.seq #[.int i s.toks,u] }:=(Qa.2 _ ne2).trans ht;obtain⟨oi,W_,ci,di⟩:=hi;obtain⟨UC,VC,ci1,XZ⟩:=id hi1;have SD:h2.get? it=some UC:=(Qa.2 _ (Ne.symm ne)).trans VC
  let hA:Heap:=(s.heap.update e λ _=>{ cls:=.type "enumerate",dict:=none,data:=.fields #[.none,.bool false,.ref it,rawInt ((i:Int)+1),.none,u],slots:=#[] }).update it λ _=>UC
  have IA:Inv X Ã σ H { s with heap:=hA,toks:=s.toks }:=wB I (λ b o z1 z2 q=>by
   show hA.get? b=some o;rw [Ü _ _ _ _ z2,Ü _ _ _ _ z1];exact q) Fe Fi
  have Z7:hA.objs.size=s.heap.objs.size:=by
   show((s.heap.update e _).update it _).objs.size=_;rw [Px,Px]
  refine⟨.ref s.heap.objs.size,af H s.heap.objs.size (.tup [.int i,x]),?_,rfl,⟨_,x,rfl,I.Ć.fresh (Ç _),rfl,λ ys hy=>by rw [I.Lz hy hq];exact hx⟩,⟨⟨u,Qs⟩,UC,SD,ci1,XZ⟩,λ b hb=>?_⟩
  ·refine IA.laid (t':=s.toks+1) (λ b v q=>?_) (i_ Z7) ?_
   ·have q':hA.get? b=some v:=q;by_cases z2:b=it
    ·subst z2;have hg:(s.heap.update e λ _=>{ cls:=.type "enumerate",dict:=none,data:=.fields #[.none,.bool false,.ref b,rawInt ((i:Int)+1),.none,u],slots:=#[] }).get? b=some oi:=by
      rw [Ü _ _ _ _ (Ne.symm ne)];exact W_
     rw [ò _ hg (Mn XZ)] at q';cases q';exact SD
    ·rw [Ü _ _ _ _ z2] at q';by_cases z1:b=e
     ·subst z1;rw [ò _ he rfl] at q';cases q';exact Qs
     ·rw [Ü _ _ _ _ z1] at q';exact(Qa.2 b z1).trans (kk b v z1 z2 q')
   ·exact⟨dA,[.int i s.toks,u],.cons ⟨_,rfl⟩ (.cons ru .nil),⟨_,ht2,rfl,_,rfl⟩⟩
  ·have nb:b≠s.heap.objs.size:=by
    have e':b=e\/b=it:=by simpa using hb
    rcases e' with rfl | rfl
    ·exact Î (È he)
    ·exact Î (È W_)
   rw [au nb];exact(hf b hb).1
 done:=by
  intro X hP hw hK hc i Ã s σ H E I hf st hg;subst hP hw hK;obtain⟨xs,hq,hx⟩:=hg;obtain⟨its,rv,p,hz⟩:=I.list hq;obtain⟨⟨old,he⟩,hi⟩:=st;obtain⟨f0,f1,f2,f3,f4,f5⟩:=hf it (by simp)
  have hl:=rv.length;exact wpAny_pyNext_enum_end (I.ok.hd hc) he hi p.isList (by simp;omega) λ h' eb=>⟨rfl,I.turned (t':=s.toks) (λ b o hb e=>eb b o hb e) f0 f1 f3 f4 f5⟩
 self:=λ _ _ _ _ _ st h=>n_ st.1.choose_spec h
section
variable {X:Cx}
def ve (K:Frag)(ta:TA):TI:=λ σ H R=>ta σ H λ vs H1=>∃ a,vs=[.ref a]/\(∃ xs,ó K H1 a xs)/\R (tG K a) H1
theorem i9 {elts:List Expr} {x1}{pt:Pos}{a:Expr}{ta:TA}{p pos:Pos}(hg:Gl X "enumerate")(hm:X.mg "enumerate" = none)(ha:PA X [a] ta)(hs:starEach [a] X.env=[(false,eval a X.env)]:=by rfl):PI X (.Tuple elts x1 pt) (.Call (.Name "enumerate" p) [a] [] pos) (ve X.K ta):=by
 intro Ã s σ H R I h;refine Call_ (gM I hg hm boot_enumerate (ģ (aW (ha pos Ã s σ H _ I h) λ us s1 ⟨vs,H1,I1,r1,q1⟩=>?_) hs rfl));obtain⟨l,rfl,⟨xs,hq⟩,q⟩:=q1;cases r1 with
 | cons r rr =>
  cases rr;cases r;obtain⟨its,rv,p',hz⟩:=I1.list hq;refine call_enumerate_list p'.isList λ h' he hi hsz kk=>?_;refine n_ he ?_;refine⟨s1.heap.objs.size+1,[s1.heap.objs.size+1,s1.heap.objs.size],_,_,H1,rfl,I1.kept (t':=s1.toks) kk,rQ l _ _ (Nat.succ_ne_self _),⟨⟨_,he⟩,hi⟩,λ b hb=>?_,q⟩;have e:b=s1.heap.objs.size+1\/b=s1.heap.objs.size:=by simpa using hb
  have le:s1.heap.objs.size<=b:=by
   rcases e with rfl | rfl
   ·exact Ÿ _
   ·exact Ç _
  exact I1.O6 le (I1.Ć.fresh le)
end
theorem nV {K:Frag}{a:Addr}{xs:List V}{g:TG}{tb:TS}{D:bY}{σ:St}{H:Hp}(Pv:Nat->St->Hp->Prop)(h0:Pv 0 σ H)(hl:∀ i σ H,i<=xs.length->Pv i σ H->ó K H a xs)
  (hs:∀ i x σ H p,xs[i]?=some x->Pv i σ H->H p=none->g (.ref p) σ (af H p (.tup [.int i,x])) λ İ H2=>tb { D with nx:=Pv (i+1),ct:=Pv (i+1),bk:=D.nx } İ H2)(hd:∀ σ H,Pv xs.length σ H->D.nx σ H) :
  ∃ W:Nat->Nat->St->Hp->Prop,(∃ m,W 0 m σ H)/\∀ i m σ H,W i m σ H ->
   ((tG K a).stop i H/\D.nx σ H)\/((tG K a).go i H/\∃ N:St->Hp->Prop,(∀ Ē H',N Ē H'->∃ m',m'<m/\W (i+1) m' Ē H')/\∀ x H',(tG K a).L_ i H x H'->g x σ H' λ İ H2=>tb { D with nx:=N,ct:=N,bk:=D.nx } İ H2):=by
 refine⟨λ i m σ H=>m=xs.length-i/\i<=xs.length/\Pv i σ H,⟨xs.length,by simp,Nat.zero_le _,h0⟩,?_⟩
 rintro i m σ H ⟨rfl,hi,p⟩;have q:=hl i σ H hi p;by_cases ſ:i<xs.length
 ·refine .inr ⟨⟨xs,xs[i],q,Â ſ⟩,Pv (i+1),λ Ē H' n=>⟨xs.length-(i+1),am,rfl,ſ,n⟩,?_⟩;rintro x H' ⟨p',y,rfl,hp,rfl,hy⟩;exact hs i y σ H p' (hy xs q) p hp
 ·have e:i=xs.length:=am;subst e;exact .inl ⟨⟨xs,q,Ç _⟩,hd σ H p⟩
end My
namespace My
open PySem L2
section
variable {prog:Program}{w:World}{A:Around}{R:Result->Shared->Prop}{s:Shared}
theorem iH {elt target iter:Expr}{scope:Scope}{pos:Pos}{it acc:Value}{env:Env}(J:Nat->Shared->Prop)
  (turn:∀ n s,J n s->wpAny (model prog w) A (pyNext it) (λ r Ą=>match r with
   | none=>R (.ok .next) Ą
   | some v=>wpAny (model prog w) A (letOwnedTupleGo target it v) (λ _ ő=>wpAny (model prog w) A (assign target env v) (λ _ j_=>wpAny (model prog w) A (eval elt env)
     (λ x MY=>wpAny (model prog w) A (call (.builtin "list.append") [acc,x]) (λ _ MX=>∃ m,m<n/\J m MX) (λ _ _=>False) MY) (λ _ _=>False) j_) (λ _ _=>False) ő) (λ _ _=>False) Ą) (λ _ _=>False) s)
  (n:Nat)(h:J n s):codeAny (model prog w) A (.compLoop (.ListComp elt [⟨target,iter,[],0⟩] scope pos) 0 it acc env) R s:=by
 refine codeAny_loop rfl J (λ n s hJ=>?_) n h;show wpAny _ _ (Sem.onRaise (compTurn (.ListComp elt [⟨target,iter,[],0⟩] scope pos) 0 it acc env) (λ x=>do noteFrame x env;theTreesLotGoes x)) _ _ s
 refine wpAny_noted ?_;rw [compTurn_list1];refine À (ĭ (À (æ (turn n s hJ) (λ r Ą Ņ=>?_) λ _ _ z=>z.elim)));cases r with
 | none=>exact Æ Ņ
 | some v =>
  refine À (æ Ņ (λ _ ő LB=>?_) λ _ _ z=>z.elim);refine À (æ LB (λ _ j_ Nk=>?_) λ _ _ z=>z.elim);refine À (À (æ Nk (λ x MY OT=>?_) λ _ _ z=>z.elim));refine À (æ OT (λ _ MX OS=>Æ (Æ ⟨rfl,OS⟩)) λ _ _ z=>z.elim)
end
def bJ (X:Cx)(sc:Scope)(cl:List (Str × Addr))(N:List Str)(s:Shared)(H:Hp)(C:Addr)(fp:List Addr):Cx where
 prog:=X.prog
 w:=X.w
 K:=X.K
 mg:=X.mg
 base:=X.base
 A:=X.A
 N:=N
 œ:=s
 M8:=H
 env:=compEnvC sc cl C X.env
 outer:=X.stack
 stack:=X.stack
 ex:=fp
 fn:=λ _=>false
 calm:=X.calm
 pn:=[]
 xe:=λ _ _=>False
def dh (js:List Nat)(σ:St):St:=js.map λ j=>(σ[j]?).join
section
variable {prog:Program}{w:World}{A:Around}{R:Result->Shared->Prop}{s:Shared}
theorem pD {elt target iter c:Expr}{scope:Scope}{pos:Pos}{it acc:Value}{env:Env}(J:Nat->Shared->Prop)
  (turn:∀ n s,J n s->wpAny (model prog w) A (pyNext it) (λ r Ą=>match r with
   | none=>R (.ok .next) Ą
   | some v=>wpAny (model prog w) A (letOwnedTupleGo target it v) (λ _ ő=>wpAny (model prog w) A (assign target env v) (λ _ j_=>wpAny (model prog w) A (isTrue c env (eval c env)) (λ k œ =>
     (k=false->∃ m,m<n/\J m œ)/\(k=true->wpAny (model prog w) A (eval elt env)
     (λ x MY=>wpAny (model prog w) A (call (.builtin "list.append") [acc,x]) (λ _ MX=>∃ m,m<n/\J m MX) (λ _ _=>False) MY) (λ _ _=>False) œ)) (λ _ _=>False) j_) (λ _ _=>False) ő) (λ _ _=>False) Ą) (λ _ _=>False) s)
  (n:Nat)(h:J n s):codeAny (model prog w) A (.compLoop (.ListComp elt [⟨target,iter,[c],0⟩] scope pos) 0 it acc env) R s:=by
 refine codeAny_loop rfl J (λ n s hJ=>?_) n h;show wpAny _ _ (Sem.onRaise (compTurn (.ListComp elt [⟨target,iter,[c],0⟩] scope pos) 0 it acc env) (λ x=>do noteFrame x env;theTreesLotGoes x)) _ _ s
 refine wpAny_noted ?_;rw [compTurn_list];refine À (ĭ (À (æ (turn n s hJ) (λ r Ą Ņ=>?_) λ _ _ z=>z.elim)));cases r with
 | none=>exact Æ Ņ
 | some v =>
  refine À (æ Ņ (λ _ ő LB=>?_) λ _ _ z=>z.elim);refine À (æ LB (λ _ j_ Nk=>?_) λ _ _ z=>z.elim);refine À (wpAny_tests_one (æ Nk (λ k œ h₀=>?_) λ _ _ z=>z.elim));cases k with
  | false=>exact Æ ⟨rfl,h₀.1 rfl⟩
  | true =>
   refine À (À (æ (h₀.2 rfl) (λ x MY OT=>?_) λ _ _ z=>z.elim));refine À (æ OT (λ _ MX OS=>Æ (Æ ⟨rfl,OS⟩)) λ _ _ z=>z.elim)
end
structure bL (X:Cx)(sc:Scope)(cl:List (Str × Addr))(ts zs:List Str)(js:List Nat):Prop where
 e_:closureFor sc X.env=pure cl
 kind:sc.kind=.function
 Mp:∀ y∈sc.names,y.2 ≠ .cell
 names:∀ y∈sc.names,y.2=.local->sc.names.lookup y.1=some .local
 var:∀ x∈ts,sc.names.lookup x=some .local
 sub:∀ z c,cl.lookup z=some c->X.env.cells.lookup z=some c
 has:∀ z,((relabel sc X.env).names.lookup z=some .cell\/(relabel sc X.env).names.lookup z=some .free)->∃ c,cl.lookup z=some c
 nd:(ts++zs).Nodup
 cap:∀(k:Nat)(z:Str),zs[k]?=some z->∃ j:Nat,js[k]?=some j/\X.N[j]?=some z/\yu X.env.scope z/\X.env.kindOf z≠some .local /\
  ((relabel sc X.env).names.lookup z=some .cell\/(relabel sc X.env).names.lookup z=some .free)
 len:js.length=zs.length
def fZ (wi:TI)(k:Nat)(js:List Nat)(g:TG)(te:TE):TE:=λ σ H Q=>wi σ H λ J H1=>∀ D,H1 D=none->∃ W:Nat->Nat->List V->Hp->Prop,(∃ m,W 0 m [] (af H1 D (.lst []))) /\
 ∀ i m ys H2,W i m ys H2->H2 D=some (.lst ys)/\((J.stop i H2/\Q (.ref D) H2)\/(J.go i H2/\ys.length<sizeLine /\
  ∀ x H3,J.L_ i H2 x H3->∀ os:St,os.length=k->g x (os++dh js σ) H3 λ İ H0=>(∃ ŀ:St,ŀ.length=k/\İ = ŀ ++ dh js σ)/\te İ H0 λ y H4=>H4 D=some (.lst ys)/\∃ m',m'<m/\W (i+1) m' (ys ++ [y]) (af H4 D (.lst (ys ++ [y])))))
def jI (wi:TI)(k:Nat)(js:List Nat)(g:TG)(tt:TT)(te:TE):TE:=λ σ H Q=>wi σ H λ J H1=>∀ D,H1 D=none->∃ W:Nat->Nat->List V->Hp->Prop,(∃ m,W 0 m [] (af H1 D (.lst []))) /\
 ∀ i m ys H2,W i m ys H2->H2 D=some (.lst ys)/\((J.stop i H2/\Q (.ref D) H2)\/(J.go i H2/\ys.length<sizeLine /\
  ∀ x H3,J.L_ i H2 x H3->∀ os:St,os.length=k->g x (os++dh js σ) H3 λ İ H0=>(∃ ŀ:St,ŀ.length=k/\İ = ŀ ++ dh js σ)/\tt İ H0 λ b H5=>(b=false->∃ m',m'<m/\W (i+1) m' ys H5) /\
   (b=true->te İ H5 λ y H4=>H4 D=some (.lst ys)/\∃ m',m'<m/\W (i+1) m' (ys ++ [y]) (af H4 D (.lst (ys ++ [y]))))))
section
variable {X:Cx}{Ã:List (Addr × Obj)}{σ:St}{H:Hp}{s:Shared}{sc:Scope}{cl:List (Str × Addr)}{ts zs:List Str}{js:List Nat}{C:Addr}{fp:List Addr}
theorem uS (I:Inv X Ã σ H s)(S:bL X sc cl ts zs js)(hf:∀ b∈fp,dF X Ã H b/\b<s.heap.objs.size)(hC:s.heap.objs.size<=C):(bJ X sc cl (ts++zs) s H C fp).Ok:=by
 refine⟨I.ok.mod,S.kind,I.ok.glob,I.ok.blt,hC,λ y z c h1 h2=>I.ok.inj y z c (S.sub _ _ h1) (S.sub _ _ h2),λ z h=>S.has z h,(λ _ _ h=>nomatch h),I.ok.hd,I.ok.frames,.inl rfl,λ b hb=>?_,I.bs,?_,λ b o e hb=>?_,λ b hb hs=>?_,I.stack,I.D_⟩
 ·obtain⟨⟨_,h1,_,_,h4,_⟩,h6⟩:=hf b hb;exact⟨λ e=>absurd h6 (ş.mpr (by rw [show b=C from e];exact hC)),λ z c e=>h4 z c (S.sub _ _ e)⟩
 ·exact é I.ok.No I.sz
 ·obtain⟨⟨_,_,_,h3,_⟩,_⟩:=hf b hb;rcases h3 with h | h
  ·exact I.ok.Mo b o e h
  ·exact absurd (È e) (ş.mpr (é I.ok.No h))
 ·obtain⟨⟨_,h1,h2,_⟩,_⟩:=hf b hb;rcases ç.mp (I.ų b hs) with e | e
  ·exact h1 e
  ·exact h2 e
theorem eQ {s1:Shared}(I:Inv X Ã σ H s)(S:bL X sc cl ts zs js)(hf:∀ b∈fp,dF X Ã H b/\b<s.heap.objs.size)(hC:s.heap.objs.size<=C)(ho:s1.os=s.os)(hg:s1.gens=s.gens)
  (hk:∀ b o,s.heap.get? b=some o->s1.heap.get? b=some o){m:bv}(hn:s1.heap.Ns C m):Inv (bJ X sc cl (ts++zs) s H C fp) [] (List.replicate ts.length none++dh js σ) H s1:=by
 refine⟨uS I S hf hC,ho,by rw [hg];exact I.bare,Un.kept hk,⟨m,hn,λ i y v h1 h2 h3=>?_⟩,λ z c e=>?_,I.Ć.fresh hC,λ z c e=>I.ţ z c (S.sub _ _ e),λ p hp=>absurd (show p∈([]:List (Addr × Obj)) from hp) (by simp),I.Ć.kept hk,?_⟩
 ·rcases Ĳ i ts.length with lt | ge
  ·rw [ð (by rw [Ý];exact lt),Ţ,à lt] at h2
   cases h2
  ·have h1':zs[i-ts.length]?=some y:=by
    have O3:(ts++zs)[i]?=some y:=h1;rw [å ge] at O3;exact O3
   obtain⟨j,hj,hN,hv,nl,k'⟩:=S.cap _ y h1';have Q5:(dh js σ)[i-ts.length]?=some (some v):=by
    rw [å (by rw [Ý];exact ge),Ý] at h2
    exact h2
   have h5:σ[j]?=some (some v):=by
    unfold dh at Q5;rw [Ò,hj] at Q5;have h6:(σ[j]?).join=some v:=Û Q5;cases e:σ[j]? with
    | none=>rw [e] at h6;cases h6
    | some o=>rw [e] at h6;exact Ğ some h6
   obtain⟨m0,hn0,hl⟩:=I.loc;obtain⟨u,ru,lk⟩:=hl j y v hN h5 hv;refine⟨u,ru,?_⟩;rcases lk with⟨k1,_⟩ | ⟨_,c,ec,hc⟩
   ·exact absurd k1 nl
   ·obtain⟨c',SS⟩:=S.has y k';have e2:=S.sub _ _ SS;rw [ec] at e2;cases e2;exact .inr ⟨k',c,SS,hc.keeps hk⟩
 ·obtain⟨v,hv⟩:=I.cell z c (S.sub _ _ e);exact⟨v,hv.keeps hk⟩
 ·show(List.replicate ts.length none++dh js σ:St).length=(ts++zs).length;unfold dh;rw [Ð,Ð,Ä,Ý,S.len]
theorem gn {s1:Shared}{Ē:St}{H':Hp}{h':Heap}(I:Inv X Ã σ H s)(hf:∀ b∈fp,dF X Ã H b/\b<s.heap.objs.size)(hC:s.heap.objs.size<=C)(J:Inv (bJ X sc cl (ts++zs) s H C fp) [] Ē H' s1)
  (hs:Heap.SameBut C s1.heap h'):Inv X Ã σ H' { s1 with heap:=h' }:=by
 have old:∀ b o,s1.heap.get? b=some o->b≠C->h'.get? b=some o:=λ b o e n=>(hs.2 b n).trans e;have lt:∀{b o},s.heap.get? b=some o->b≠C:=λ {b o} e z=>by
  have q:=È e;rw [z] at q;exact absurd q (ş.mpr hC)
 have B:=J.base;refine I.NE (s':={ s1 with heap:=h' }) (ch:=fp) J.os ⟨λ b o e n hb hx=>old b o (B.keep b o e n hb hx) (lt e),λ b o e n hb hx=>?_,B.free,λ b o e hx=>?_,B.K_,B.B_,B.Ln,B.sys⟩ (λ b o e=>?_) J.bare λ b hb=>?_
 ·obtain⟨sl,q⟩:=B.slot b o e n hb hx;exact⟨sl,old _ _ q (lt e)⟩
 ·obtain⟨o',q⟩:=B.there b o e hx;exact⟨o',old _ _ q (lt e)⟩
 ·have nC:∀ c u,H' c=some u->c≠C:=λ c u q z=>by
   have f:H' C=none:=J.free;rw [z,f] at q;cases q
  refine(J.Ć b o e).y_ (λ c v hc q=>old c v q ?_) (λ _ q=>q) λ _ _ q=>q;rcases hc with rfl | hc
  ·exact nC _ _ e
  ·exact nC _ _ hc
 ·obtain⟨⟨_,h1,_,h3,h4,h5⟩,_⟩:=hf b hb;exact⟨h3,h1,h4,h5⟩
end
section
variable {X:Cx}{sc:Scope}{cl:List (Str × Addr)}{ts zs:List Str}{js:List Nat}{elt iter:Expr}{pos:Pos}{tg:Expr}{g:TG}{wi:TI}{te:TE}
theorem dL (hc:X.calm=true)(S:bL X sc cl ts zs js)(hi:PI X tg iter wi)(hg:∀ s H C fp,PG (bJ X sc cl (ts++zs) s H C fp) tg g)(he:∀ s H C fp,PE (bJ X sc cl (ts++zs) s H C fp) elt te)
  (hs:∀ v,foldedSetIterable iter X.env v=pure v:=by intro _;rfl):PE X (.ListComp elt [⟨tg,iter,[],0⟩] sc pos) (fZ wi ts.length js g te):=by
 intro Ã s σ H Q I h;rw [eval_ListComp];refine Ľ (use:=none) rfl hs S.e_ S.kind S.names (aW (hi Ã s σ H _ I h) λ v s1 h1=>aW h1 λ QP s2 h2=>?_);obtain⟨it,fp,tn,J,H2,e,I2,T,LX,f2,body⟩:=h2;subst e;have PZ:H2 s2.heap.objs.size=none:=I2.fresh;obtain⟨W,⟨m0,w0⟩,turn⟩:=body _ PZ;refine ý ?_;have I3:Inv X Ã σ (af H2 s2.heap.objs.size (.lst [])) { s2 with heap:=s2.heap.push { cls:=.type "list",data:=.seq ([]:List Value).toArray } }:=I2.NS (t':=s2.toks) (ys:=[]) (its:=[]) .nil (ŏ _)
 refine Λ S.Mp (by intro y hy;simp at hy) (λ Ņ hn NB=>?_) S.kind
 generalize Mx:({ s2 with heap:=s2.heap.push { cls:=.type "list",data:=.seq ([]:List Value).toArray } }:Shared)=s3 at I3 hn NB ⊢
 have F':∀ b∈fp,dF X Ã (af H2 s2.heap.objs.size (.lst [])) b/\b<s3.heap.objs.size:=λ b hb=>by
  obtain⟨o,ho,_⟩:=T.obj _ _ LX b hb;have hl:=È ho;have PN:b≠s2.heap.objs.size:=Î hl;obtain⟨z1,z2⟩:=f2 b hb;refine⟨⟨by rw [au PN];exact z1,z2⟩,?_⟩
  rw [<- Mx];show b<(s2.heap.push _).objs.size;rw [ë];exact û hl
 have old:∀ b o,s3.heap.get? b=some o->Ņ.get? b=some o:=λ b o e=>NB.extBut b o (Î (È e)) (Á _ e);have loop:∀ sS:Shared,sS.heap = Ņ->sS.os=s3.os->sS.gens=s3.gens->codeAny (model X.prog X.w) X.A (.compLoop (.ListComp elt [⟨tg,iter,[],0⟩] sc pos) 0 (.ref it) (.ref s2.heap.objs.size) (compEnvC sc cl s3.heap.objs.size X.env))
   (compPost (model X.prog X.w) X.A X.xe none (EP X Ã σ Q) (.ref s2.heap.objs.size) s3.heap.objs.size) sS:=by
  intro sS eh eo eg;subst eh;have J0:Inv (bJ X sc cl (ts++zs) s3 (af H2 s2.heap.objs.size (.lst [])) s3.heap.objs.size fp) [] (List.replicate ts.length none++dh js σ) (af H2 s2.heap.objs.size (.lst [])) sS:=eQ I3 S F' (Ç _) eo eg old hn;generalize hX:bJ X sc cl (ts++zs) s3 (af H2 s2.heap.objs.size (.lst [])) s3.heap.objs.size fp=X' at J0;have ŧ:∀{H':Hp},(∀ b∈fp,H' b=none)->∀ b∈fp,dF X' [] H' b:=λ {H'} hn b hb=>by
   subst hX;obtain⟨⟨_,z1,z2,z3,z4,z5⟩,z6⟩:=F' b hb;refine⟨hn b hb,Î z6,λ q=>?_,.inl hb,λ y c e=>z4 y c (S.sub _ _ e),λ p hp=>absurd (show p∈([]:List (Addr × Obj)) from hp) (by simp)⟩
   rcases ç.mp (I3.ų b q) with e | e
   ·exact z1 e
   ·exact z2 e
  have N6:tn 0 sS.heap:=T.keep _ _ _ LX λ b hb o e=>old b o (by rw [<- Mx];exact Á _ e)
  refine iH (λ n s'=>∃ i ys os H',os.length=ts.length/\Inv X' [] (os++dh js σ) H' s'/\tn i s'.heap/\(∀ b∈fp,H' b=none)/\W i n ys H') ?_ m0 ⟨0,[],_,_,Ý,J0,N6,λ b hb=>(F' b hb).1.1,w0⟩;rintro n s' ⟨i,ys,os,H',ŋ,Iv,st,fr,w⟩;obtain⟨hD,alt⟩:=turn i n ys H' w;have eP:X'.prog=X.prog:=by subst hX;rfl
  have eW:X'.w=X.w:=by subst hX;rfl
  have eK:X'.K=X.K:=by subst hX;rfl
  have eC:X'.calm=true:=by subst hX;exact hc
  have eA:X'.A=X.A:=by subst hX;rfl
  have eE:X'.env=compEnvC sc cl s3.heap.objs.size X.env:=by subst hX;rfl
  have eX:X'.xe = λ _ _=>False:=by subst hX;rfl
  rcases alt with⟨stop,q⟩ | ⟨go,ķ,step⟩
  ·have d:=T.done X' eP eW eK eC i [] s' _ H' (λ _ _=>False) Iv (ŧ fr) st stop;rw [eA] at d;refine aW d λ r s4 ⟨hr,I4⟩=>?_;subst hr;obtain⟨m,hm,_⟩:=id I4.loc;rw [eE] at hm;subst hX;exact⟨m,hm,λ h' OW=>⟨.ref s2.heap.objs.size,H',gn I3 F' (Ç _) I4 OW,rfl,q⟩⟩
  ·have d:=T.item X' eP eW eK eC i [] s' _ H' (λ _ _=>False) Iv (ŧ fr) st go;rw [eA] at d;refine aW d λ r s4 ⟨u,hr,h4⟩=>?_;subst hr;refine aW h4 λ _ s5 ⟨y,H5,I5,r5,y5,z_,O5⟩=>?_;have Pd:=I5.pinned (ŧ O5) (T.obj _ _ z_);have PQ:PG X' tg g:=by subst hX;exact hg _ _ _ _
   have g6:=PQ _ s5 _ H5 y u _ Pd r5 (step y H5 y5 os ŋ);rw [eP,eW,eA,eE,eX] at g6;refine aW g6 λ _ s6 ⟨Rg,H6,I6,⟨ŀ,L5,e6⟩,PD⟩=>?_;subst e6;have QX:PE X' elt te:=by subst hX;exact he _ _ _ _
   have g7:=QX _ s6 _ H6 _ I6 PD;rw [eP,eW,eA,eE,eX] at g7;refine aW g7 λ uv s7 ⟨v7,H7,I7,r7,Q3,m',NV,w7⟩=>?_;have g8:=(du (X:=X')) _ s7 _ H7 (.ref s2.heap.objs.size) [v7] (.ref s2.heap.objs.size) [uv] (λ _ H8=>H8=af H7 s2.heap.objs.size (.lst (ys ++ [v7]))) I7 rfl (.cons r7 .nil) ⟨_,ys,v7,rfl,rfl,Q3,ķ,rfl⟩;rw [eP,eW,eA,eX] at g8;refine aW g8 λ _ s8 ⟨_,H8,I8,_,e8⟩=>?_;subst e8;refine⟨m',NV,i+1,ys ++ [v7],ŀ,_,L5,I8.Ő,T.keep _ _ _ z_ λ b hb o e=>(I8.pin (b,o) (Ì _ (Ì _ (ba hb e)))).1,λ b hb=>?_,w7⟩;obtain⟨o',e',_⟩:=T.obj _ _ z_ b hb;exact(I8.pin (b,o') (Ì _ (Ì _ (ba hb e')))).2.1
 have N7:tn 0 Ņ:=T.keep _ _ _ LX λ b hb o e=>old b o (by rw [<- Mx];exact Á _ e)
 exact ŷ (loop _ rfl rfl rfl) (T.self _ 0 _ _ _ N7 (loop _ rfl rfl rfl))
end
section
variable {X:Cx}{sc:Scope}{cl:List (Str × Addr)}{ts zs:List Str}{js:List Nat}{elt iter c:Expr}{pos:Pos}{tg:Expr}{g:TG}{wi:TI}{te:TE}{tt:TT}
theorem gY (hc:X.calm=true)(S:bL X sc cl ts zs js)(hi:PI X tg iter wi)(hg:∀ s H C fp,PG (bJ X sc cl (ts++zs) s H C fp) tg g)(ht:∀ s H C fp,PT (bJ X sc cl (ts++zs) s H C fp) c tt)(he:∀ s H C fp,PE (bJ X sc cl (ts++zs) s H C fp) elt te)
  (hs:∀ v,foldedSetIterable iter X.env v=pure v:=by intro _;rfl):PE X (.ListComp elt [⟨tg,iter,[c],0⟩] sc pos) (jI wi ts.length js g tt te):=by
 intro Ã s σ H Q I h;rw [eval_ListComp];refine Ľ (use:=none) rfl hs S.e_ S.kind S.names (aW (hi Ã s σ H _ I h) λ v s1 h1=>aW h1 λ QP s2 h2=>?_);obtain⟨it,fp,tn,J,H2,e,I2,T,LX,f2,body⟩:=h2;subst e;have PZ:H2 s2.heap.objs.size=none:=I2.fresh;obtain⟨W,⟨m0,w0⟩,turn⟩:=body _ PZ;refine ý ?_;have I3:Inv X Ã σ (af H2 s2.heap.objs.size (.lst [])) { s2 with heap:=s2.heap.push { cls:=.type "list",data:=.seq ([]:List Value).toArray } }:=I2.NS (t':=s2.toks) (ys:=[]) (its:=[]) .nil (ŏ _)
 refine Λ S.Mp (by intro y hy;simp at hy) (λ Ņ hn NB=>?_) S.kind
 generalize Mx:({ s2 with heap:=s2.heap.push { cls:=.type "list",data:=.seq ([]:List Value).toArray } }:Shared)=s3 at I3 hn NB ⊢
 have F':∀ b∈fp,dF X Ã (af H2 s2.heap.objs.size (.lst [])) b/\b<s3.heap.objs.size:=λ b hb=>by
  obtain⟨o,ho,_⟩:=T.obj _ _ LX b hb;have hl:=È ho;have PN:b≠s2.heap.objs.size:=Î hl;obtain⟨z1,z2⟩:=f2 b hb;refine⟨⟨by rw [au PN];exact z1,z2⟩,?_⟩
  rw [<- Mx];show b<(s2.heap.push _).objs.size;rw [ë];exact û hl
 have old:∀ b o,s3.heap.get? b=some o->Ņ.get? b=some o:=λ b o e=>NB.extBut b o (Î (È e)) (Á _ e);have loop:∀ sS:Shared,sS.heap = Ņ->sS.os=s3.os->sS.gens=s3.gens->codeAny (model X.prog X.w) X.A (.compLoop (.ListComp elt [⟨tg,iter,[c],0⟩] sc pos) 0 (.ref it) (.ref s2.heap.objs.size) (compEnvC sc cl s3.heap.objs.size X.env))
   (compPost (model X.prog X.w) X.A X.xe none (EP X Ã σ Q) (.ref s2.heap.objs.size) s3.heap.objs.size) sS:=by
  intro sS eh eo eg;subst eh;have J0:Inv (bJ X sc cl (ts++zs) s3 (af H2 s2.heap.objs.size (.lst [])) s3.heap.objs.size fp) [] (List.replicate ts.length none++dh js σ) (af H2 s2.heap.objs.size (.lst [])) sS:=eQ I3 S F' (Ç _) eo eg old hn;generalize hX:bJ X sc cl (ts++zs) s3 (af H2 s2.heap.objs.size (.lst [])) s3.heap.objs.size fp=X' at J0;have ŧ:∀{H':Hp},(∀ b∈fp,H' b=none)->∀ b∈fp,dF X' [] H' b:=λ {H'} hn b hb=>by
   subst hX;obtain⟨⟨_,z1,z2,z3,z4,z5⟩,z6⟩:=F' b hb;refine⟨hn b hb,Î z6,λ q=>?_,.inl hb,λ y c e=>z4 y c (S.sub _ _ e),λ p hp=>absurd (show p∈([]:List (Addr × Obj)) from hp) (by simp)⟩
   rcases ç.mp (I3.ų b q) with e | e
   ·exact z1 e
   ·exact z2 e
  have N6:tn 0 sS.heap:=T.keep _ _ _ LX λ b hb o e=>old b o (by rw [<- Mx];exact Á _ e)
  refine pD (λ n s'=>∃ i ys os H',os.length=ts.length/\Inv X' [] (os++dh js σ) H' s'/\tn i s'.heap/\(∀ b∈fp,H' b=none)/\W i n ys H') ?_ m0 ⟨0,[],_,_,Ý,J0,N6,λ b hb=>(F' b hb).1.1,w0⟩;rintro n s' ⟨i,ys,os,H',ŋ,Iv,st,fr,w⟩;obtain⟨hD,alt⟩:=turn i n ys H' w;have eP:X'.prog=X.prog:=by subst hX;rfl
  have eW:X'.w=X.w:=by subst hX;rfl
  have eK:X'.K=X.K:=by subst hX;rfl
  have eC:X'.calm=true:=by subst hX;exact hc
  have eA:X'.A=X.A:=by subst hX;rfl
  have eE:X'.env=compEnvC sc cl s3.heap.objs.size X.env:=by subst hX;rfl
  have eX:X'.xe = λ _ _=>False:=by subst hX;rfl
  rcases alt with⟨stop,q⟩ | ⟨go,ķ,step⟩
  ·have d:=T.done X' eP eW eK eC i [] s' _ H' (λ _ _=>False) Iv (ŧ fr) st stop;rw [eA] at d;refine aW d λ r s4 ⟨hr,I4⟩=>?_;subst hr;obtain⟨m,hm,_⟩:=id I4.loc;rw [eE] at hm;subst hX;exact⟨m,hm,λ h' OW=>⟨.ref s2.heap.objs.size,H',gn I3 F' (Ç _) I4 OW,rfl,q⟩⟩
  ·have d:=T.item X' eP eW eK eC i [] s' _ H' (λ _ _=>False) Iv (ŧ fr) st go;rw [eA] at d;refine aW d λ r s4 ⟨u,hr,h4⟩=>?_;subst hr;refine aW h4 λ _ s5 ⟨y,H5,I5,r5,y5,z_,O5⟩=>?_;have Pd:=I5.pinned (ŧ O5) (T.obj _ _ z_);have PQ:PG X' tg g:=by subst hX;exact hg _ _ _ _
   have g6:=PQ _ s5 _ H5 y u _ Pd r5 (step y H5 y5 os ŋ);rw [eP,eW,eA,eE,eX] at g6;refine aW g6 λ _ s6 ⟨Rg,H6,I6,⟨ŀ,L5,e6⟩,PD⟩=>?_;subst e6;have ht':PT X' c tt:=by subst hX;exact ht _ _ _ _
   have g0:=ht' _ s6 _ H6 _ I6 PD;rw [eP,eW,eA,eE,eX] at g0;refine aW g0 λ k sk ⟨Hk,Ik,qk⟩=>?_;cases k with
   | false =>
    obtain⟨m',NV,w7⟩:=qk.1 rfl;refine⟨λ _=>?_,λ z=>nomatch z⟩;refine⟨m',NV,i+1,ys,ŀ,_,L5,Ik.Ő,T.keep _ _ _ z_ λ b hb o e=>(Ik.pin (b,o) (Ì _ (Ì _ (ba hb e)))).1,λ b hb=>?_,w7⟩;obtain⟨o',e',_⟩:=T.obj _ _ z_ b hb;exact(Ik.pin (b,o') (Ì _ (Ì _ (ba hb e')))).2.1
   | true =>
   refine⟨λ z=>(nomatch z),λ _=>?_⟩;have QX:PE X' elt te:=by subst hX;exact he _ _ _ _
   have g7:=QX _ sk _ Hk _ Ik (qk.2 rfl);rw [eP,eW,eA,eE,eX] at g7;refine aW g7 λ uv s7 ⟨v7,H7,I7,r7,Q3,m',NV,w7⟩=>?_;have g8:=(du (X:=X')) _ s7 _ H7 (.ref s2.heap.objs.size) [v7] (.ref s2.heap.objs.size) [uv] (λ _ H8=>H8=af H7 s2.heap.objs.size (.lst (ys ++ [v7]))) I7 rfl (.cons r7 .nil) ⟨_,ys,v7,rfl,rfl,Q3,ķ,rfl⟩;rw [eP,eW,eA,eX] at g8;refine aW g8 λ _ s8 ⟨_,H8,I8,_,e8⟩=>?_;subst e8;refine⟨m',NV,i+1,ys ++ [v7],ŀ,_,L5,I8.Ő,T.keep _ _ _ z_ λ b hb o e=>(I8.pin (b,o) (Ì _ (Ì _ (ba hb e)))).1,λ b hb=>?_,w7⟩;obtain⟨o',e',_⟩:=T.obj _ _ z_ b hb;exact(I8.pin (b,o') (Ì _ (Ì _ (ba hb e')))).2.1
 have N7:tn 0 Ņ:=T.keep _ _ _ LX λ b hb o e=>old b o (by rw [<- Mx];exact Á _ e)
 exact ŷ (loop _ rfl rfl rfl) (T.self _ 0 _ _ _ N7 (loop _ rfl rfl rfl))
end
end My
namespace My
open PySem PySem.W L2
structure eL (K:Frag)(D:Addr)(m:Str)(f:Addr):Prop where
 ga:specialIn K (.ref D) "__getattribute__" = some (some (.builtin "type.__getattribute__"))
 reads:readsIn K D (.type "type")=true
 at_:findCls K (.ref D) (.type "type") m=some (.val (.ref f))
 kp:keepIn K (.ref f)=true
section
variable {X:Cx}{CX:jv}{k:Nat}{f D:Addr}{fd:FuncData}{ps:List Str}{sp:Sp}{E:XK}{x m:Str}{p pos ů:Pos}{e:Expr}{es:List Expr}{t:TA}{dvs:List V}{ds:List Value}
theorem bS {pl:Sem Bool}(C:eL X.K D m f)(F:ß X.prog X.w X.K X.mg X.base CX k f fd ps sp)(hr:ö k X.A)(hg:Gl X x)(hm:X.mg x=some (.ref D))(hb:Binds X.K fd ps ds)(hd:Vals dvs ds)(hx:cR CX X E)(ha:PA X (e::es) t)
  (l_:(x==("__debug__" : Str))=false:=by decide)(Pk:starEach (e::es) X.env=(false,eval e X.env)::starEach es X.env:=by rfl) (Κ:(backTo pos (starEach es X.env)).any (·.1)=false:=by rfl)
  (Vu:eval (.Call (.Attribute (.Name x p) m ů) (e::es) [] pos) X.env=(do
   let ov <- eval (.Name x p) X.env
   standAt ů.atName
   let (f,first) <- holding [ov] (getMethod ov m pl)
   callWith pos f first (backTo pos (starEach (e::es) X.env)) (backToKw pos (keywordEach [] X.env))):=by rfl) :
  PE X (.Call (.Attribute (.Name x p) m ů) (e::es) [] pos) (gE sp dvs E t):=by
 intro Ã s σ H Q I h;refine Ű (pl:=pl) (ck I hg hm ?_ l_) Vu;refine method_cls I.Ń C.ga (cls_value I.Ń C.reads C.at_ rfl ?_);have I0:Inv X Ã σ H { s with toks:=s.toks+1 }:=I.tok _
 refine Ę (h₀:=X.base) I.ok.mod.OP C.kp (aW (ha pos Ã _ σ H _ I0 h) λ us s1 ⟨vs,H1,I1,r,q⟩=>⟨I1.Ń,?_⟩) Pk Κ;exact jl F hr hb hd hx I1 r q
end
end My
namespace My
open PySem L2
open PySem.Builtin.Str (occurrences partsBetween strSub)
def K8 (c:Nat):Bool:=decide (48<=c)&&decide (c<=57)
def E8 (L:List Nat):Bool:=!L.isEmpty && !(L.head?==some 48&&L != [48])&&L.all K8
abbrev cs (z:Str):List Nat:=z.cps.toList
abbrev val (L:List Nat):Nat:=NumText.digitsVal L
def K0 (a b:List Nat):Bool:=E8 a&&E8 b&&decide (2<=val b)&&decide (1<=val a)&&decide (val a<val b)&&decide (Nat.gcd (val a) (val b)=1)
def rd (z:Str):Option (Nat × Nat) :=
 if z = "0" then some (0,1) else if z = "1" then some (1,1) else
  match Txt.split z ⟨#[47]⟩ with
  | [a,b]=>if K0 (cs a) (cs b)=true then some (val (cs a),val (cs b)) else none
  | _=>none
abbrev tx (n:Nat):Str:=Str.ofString (toString ((n:Nat):Int))
end My
namespace My
open PySem PySem.W L2
theorem cQ {A B:Prop}(h:A):if true=true then A else B:=by rw [à rfl];exact h
theorem cE {A B:Prop}(h:B):if false=true then A else B:=by rw [Ø ad];exact h
def Ext (H H':Hp):Prop:=∀ b o,H b=some o->H' b=some o
theorem Ext.refl (H:Hp):Ext H H:=λ _ _ h=>h
theorem Ext.trans {H H1 H2:Hp}(a:Ext H H1)(b:Ext H1 H2):Ext H H2:=λ x o h=>b x o (a x o h)
theorem Ext.new {H:Hp}{p:Addr}{o:HO}(h:H p=none):Ext H (af H p o):=λ b u e=>by rw [au (dm e h)];exact e
theorem ĥ.ext {K:Frag}{H H':Hp}{p:Addr}{xs:List V}(h:ĥ K H p xs)(e:Ext H H'):ĥ K H' p xs:=by
 rcases h with h | h
 ·left;rcases h with h | ⟨o,h⟩
  ·exact .inl (e _ _ h)
  ·exact .inr ⟨o,e _ _ h⟩
 ·exact .inr h
theorem ó.ext {K:Frag}{H H':Hp}{s:Addr}{xs:List V}(h:ó K H s xs)(x:Ext H H'):ó K H' s xs:=by
 rcases h with h | h
 ·rcases h with h | ⟨o,h⟩
  ·exact .inl (.inl (x _ _ h))
  ·exact .inl (.inr ⟨o,x _ _ h⟩)
 ·exact .inr h
theorem gG {X:Cx}{x:Str}{n:String}{pos:Pos}(hg:Gl X x)(hm:X.mg x=none)(hv:bootBuiltins x=some (.type n))(hn:x ≠ "__name__" := by decide +kernel)(hd:(x==("__debug__" : Str))=false:=by decide):PE X (.Name x pos) (tC (.ty n)) :=
 wQ hg hm hv (show RelV (.ty n) (.type n) from rfl) hn hd
def Kd (K:Frag)(H:Hp)(x:V)(t:Value):Prop:=ņ K H x t\/(∃ p xs,x=.ref p/\ĥ K H p xs/\t=.type "tuple")\/(∃ a C,x=.ref a/\Mg H a C/\j3 K C/\t=.ref C)
def JN (K:Frag):List V->Hp->VK->Prop:=λ vs H Q=>∃ x n t b,vs=[x,.ty n]/\Kd K H x t/\kitOne K t (.type n)=some b/\Q (.bl b) H
theorem dD {X:Cx}(N:pY X.K):cP X (.builtin "isinstance") (JN X.K):=by
 intro Ã s σ H xs us Q I r h;obtain⟨x,n,t,b,rfl,kd,e,q⟩:=h;obtain⟨u,u',rfl,ru,NP⟩:=hZ r;cases (show u'=Value.type n from NP);rcases kd with ty | ⟨p,ys,rfl,hq,rfl⟩ | ⟨a,C,rfl,ea,T,rfl⟩
 ·exact kE I ru ty e λ tk=>⟨.bl b,H,I.tok _,rfl,q⟩
 ·cases (show u=Value.ref p from ru);obtain⟨its,_,⟨o,h1,h2,_⟩,_⟩:=I.tuple hq;exact kia_one kitx_tuple I.Ń ⟨o,h1,h2⟩ e (λ z=>nomatch z) λ tk=>⟨.bl b,H,I.tok _,rfl,q⟩
 ·cases (show u=Value.ref a from ru);exact kia_one (pz T N.gt N.tk) I.Ń (ea.inst I.Ć) e (λ z=>nomatch z) λ tk=>⟨.bl b,H,I.tok _,rfl,q⟩
theorem Mg.ext {H H':Hp}{a C:Addr}(e:Mg H a C)(x:Ext H H'):Mg H' a C:=by
 rcases e with e | ⟨dx,fs,e1,e2⟩
 ·exact .inl (x _ _ e)
 ·exact .inr ⟨dx,fs,x _ _ e1,x _ _ e2⟩
theorem ņ.ext {K:Frag}{H H':Hp}{x:V}{t:Value}(h:ņ K H x t)(e:Ext H H'):ņ K H' x t:=by
 cases h with
 | ù=>exact .ù
 | bl b=>exact .bl b
 | int i=>exact .int i
 | str z=>exact .str z
 | Pn z=>exact .Pn z
 | lst q=>exact .lst (e _ _ q)
 | MP q=>exact .MP (e _ _ q)
 | tup q=>exact .tup (e _ _ q)
 | dK q=>exact .dK (e _ _ q)
 | dT q=>exact .dT (e _ _ q)
 | ins q cl ha hn MM hm=>exact .ins (e _ _ q) cl ha hn MM hm
theorem Kd.ext {K:Frag}{H H':Hp}{x:V}{t:Value}(h:Kd K H x t)(e:Ext H H'):Kd K H' x t:=by
 rcases h with ty | ⟨p,ys,rfl,hq,rfl⟩ | ⟨a,C,rfl,ea,T,rfl⟩
 ·exact .inl (My.ņ.ext ty e)
 ·exact .inr (.inl ⟨p,ys,rfl,My.ĥ.ext hq e,rfl⟩)
 ·exact .inr (.inr ⟨a,C,rfl,ea.ext e,T,rfl⟩)
def Gg (K:Frag)(H:Hp)(x:V):Prop:=(∀ i,x ≠ .int i)/\∃ t b1 b2,Kd K H x t/\kitOne K t (.type "int")=some b1/\kitOne K t (.type "bool")=some b2/\(b1 && !b2)=false
def Th (K:Frag)(H:Hp)(x:V):Prop:=(∃ i,x=.int i)\/Gg K H x
theorem Th.ext {K:Frag}{H H':Hp}{x:V}(h:Th K H x)(e:Ext H H'):Th K H' x:=by
 rcases h with h | ⟨n,t,b1,b2,kd,k1,k2,z⟩
 ·exact .inl h
 ·exact .inr ⟨n,t,b1,b2,kd.ext e,k1,k2,z⟩
def GA:V->Bool
 | .int _=>true
 | _=>false
def LJ (lo hi:Int):V->Bool
 | .int i=>decide (lo<=i)&&decide (i<=hi)
 | _=>false
theorem la {x:V}(h:∀ i,x ≠ .int i):GA x=false:=by
 cases x with
 | int i=>exact absurd rfl (h i)
 | _=>rfl
theorem AC {lo hi:Int}{x:V}(h:∀ i,x ≠ .int i):LJ lo hi x=false:=by
 cases x with
 | int i=>exact absurd rfl (h i)
 | _=>rfl
section
variable {P:Program}{w:World}{K:Frag}{mg:bv}{base:Heap}
theorem IN:kitOne K (.type "int") (.type "int")=some true:=rfl
theorem IQ:kitOne K (.type "int") (.type "bool")=some false:=rfl
end
set_option exponentiation.threshold 10000
def xq:Key->PyData
 | .inl i=>.int i
 | .inr x=>.str x
 | .ù=>.none
mutual
inductive Ĉ (G:Hp):V->PyData->Prop
 | ù:Ĉ G .ù .none
 | bl (b:Bool):Ĉ G (.bl b) (.bool b)
 | int (i:Int):Ĉ G (.int i) (.int i)
 | str (x:Str):Ĉ G (.str x) (.str x)
 | lst {a:Addr}{xs:List V}{ds:List PyData}:G a=some (.lst xs)->Ñ G xs ds->Ĉ G (.ref a) (.list ds)
 | tup {a:Addr}{xs:List V}{ds:List PyData}:G a=some (.tup xs)->Ñ G xs ds->Ĉ G (.ref a) (.tuple ds)
 | Ů {a:Addr}:G a=some (.dK [])->Ĉ G (.ref a) (.dict [])
 | F_ {a:Addr}{k:Key}{v:V}{d:PyData}:G a=some (.dK [(k,v)])->Ĉ G v d->Ĉ G (.ref a) (.dict [(xq k,d)])
inductive Ñ (G:Hp):List V->List PyData->Prop
 | nil:Ñ G [] []
 | cons {v:V}{vs:List V}{d:PyData}{ds:List PyData}:Ĉ G v d->Ñ G vs ds->Ñ G (v::vs) (d::ds)
end
mutual
theorem Ĉ.mono {G G':Hp}(s:Ext G G'):∀{v:V}{d:PyData},Ĉ G v d->Ĉ G' v d
 | _,_,.ù=>.ù
 | _,_,.bl b=>.bl b
 | _,_,.int i=>.int i
 | _,_,.str x=>.str x
 | _,_,.lst e r=>.lst (s _ _ e) (Ñ.mono s r)
 | _,_,.tup e r=>.tup (s _ _ e) (Ñ.mono s r)
 | _,_,.Ů e=>.Ů (s _ _ e)
 | _,_,.F_ e r=>.F_ (s _ _ e) (Ĉ.mono s r)
theorem Ñ.mono {G G':Hp}(s:Ext G G'):∀{vs:List V}{ds:List PyData},Ñ G vs ds->Ñ G' vs ds
 | _,_,.nil=>.nil
 | _,_,.cons r t=>.cons (Ĉ.mono s r) (Ñ.mono s t)
end
theorem Ñ.length {G:Hp}:∀{vs:List V}{ds:List PyData},Ñ G vs ds->vs.length=ds.length
 | _,_,.nil=>rfl
 | _,_,.cons _ t=>by rw [ú,ú,t.length]
theorem Ñ.append {G:Hp}:∀{vs ws:List V}{ds es:List PyData},Ñ G vs ds->Ñ G ws es->Ñ G (vs++ws) (ds++es)
 | _,_,_,_,.nil,s=>s
 | _,_,_,_,.cons r t,s=>.cons r (t.append s)
section
variable {P:Program}{w:World}{H:Hp}{h:Heap}
theorem qQ {k:Key}{u:Value}(r:(bP P w).is k u=true):Reads h u (xq k) []:=by
 rw [oJ] at r;rcases bn r with⟨i,t,rfl,rfl⟩ | ⟨x,t,rfl,rfl⟩ | ⟨rfl,rfl⟩
 ·exact .int i t
 ·exact .str x t
 ·exact .none
theorem B9 {es:List DictEntry}(ps:Pairs (bP P w) es ([]:List (Key × Value))):es=[]:=by
 cases ps;rfl
theorem Ae {es:List DictEntry}{k:Key}{u:Value}(ps:Pairs (bP P w) es [(k,u)]):∃ e,es=[e]/\(bP P w).is k e.key=true/\e.val=u:=by
 cases ps with
 | cons h1 h2 h3 =>
  cases h3;exact⟨_,rfl,h1,h2⟩
mutual
theorem jU (ok:Θ P w H h)(z:H sysModules=none):∀{v:V}{d:PyData}{u:Value},Ĉ H v d->RelV v u->∃ as,Reads h u d as/\sysModules ∉ as
 | _,_,_,.ù,r=>by cases r;exact⟨[],.none,by simp⟩
 | _,_,_,.bl b,r=>by cases r;exact⟨[],.bool b,by simp⟩
 | _,_,_,.int i,r=>by obtain⟨t,rfl⟩:=r;exact⟨[],.int i t,by simp⟩
 | _,_,_,.str x,r=>by obtain⟨t,rfl⟩:=r;exact⟨[],.str x t,by simp⟩
 | _,_,_,.lst (a:=a) e t,r=>by
  cases r;obtain⟨_,its,n,rv,ho⟩:=(show Ā P w H h _ (.lst _) from ok _ _ e);obtain⟨as,ra,na⟩:=Ο ok z t rv;refine⟨a::as,.list ho rfl rfl (by simpa using ra),?_⟩
  intro m;rcases ç.mp m with m | m
  ·rw [<- m,z] at e;cases e
  ·exact na m
 | _,_,_,.tup (a:=a) e t,r=>by
  cases r;obtain⟨_,its,rv,o,ho,hc,n,hd⟩:=(show Ā P w H h _ (.tup _) from ok _ _ e);obtain⟨as,ra,na⟩:=Ο ok z t rv;exact⟨as,.tuple ho hc hd (by simpa using ra),na⟩
 | _,_,_,.Ů (a:=a) e,r=>by
  cases r;obtain⟨_,hs,vs,kv,o,es,ep,ho,hx,hd,hks,Vx,hnd⟩:=(show Ā P w H h _ (.dK _) from ok _ _ e);cases kv;have ee:es.toList=[]:=B9 Vx;refine⟨a :: [] ++ [],.dict (kvs:=[]) ho hx.1 hd (by rw [ee];exact .nil) (by rw [ee];exact .nil),?_⟩
  intro m;have m':sysModules=a:=by simpa using m
  rw [<- m',z] at e;cases e
 | _,_,_,.F_ (a:=a) (k:=k) e t,r=>by
  cases r;obtain⟨_,hs,vs,kv,o,es,ep,ho,hx,hd,hks,Vx,hnd⟩:=(show Ā P w H h _ (.dK _) from ok _ _ e);cases kv with
  | cons q q' =>
   cases q';obtain⟨hq1,Oa⟩:=q;obtain⟨e0,ee,ek,ev⟩:=Ae Vx;rw [<- ev] at Oa;rw [<- hq1] at ek;obtain⟨as,ra,na⟩:=jU ok z t Oa;have rk:ReadsAll h [e0.key] [xq k] ([] ++ []):=.cons (qQ ek) .nil;have rv:ReadsAll h [e0.val] [_] (as ++ []):=.cons ra .nil;refine⟨a::([] ++ [])++(as ++ []),.dict (kvs:=[(xq k,_)]) ho hx.1 hd (by rw [ee];exact rk) (by rw [ee];exact rv),?_⟩
   intro m;rw [ă,ă] at m;rcases ç.mp m with m | m
   ·rw [<- m,z] at e;cases e
   ·exact na (by simpa using m)
theorem Ο (ok:Θ P w H h)(z:H sysModules=none):∀{vs:List V}{ds:List PyData}{us:List Value},Ñ H vs ds->Vals vs us->∃ as,ReadsAll h us ds as/\sysModules ∉ as
 | _,_,_,.nil,r=>by cases r;exact⟨[],.nil,by simp⟩
 | _,_,_,.cons r t,rv=>by
  cases rv with
  | cons q qs =>
   obtain⟨as,ra,na⟩:=jU ok z r q;obtain⟨bs,rb,nb⟩:=Ο ok z t qs;refine⟨as++bs,.cons ra rb,λ m=>?_⟩;rcases Ġ.mp m with m | m
   ·exact na m
   ·exact nb m
end
end
structure gJ (d:PyData):Prop where
 sh:d.showable=true
 dp:d.depth<=10
 sz:d.shown.length<=sizeLine
section
variable {X:Cx}
def sM:List V->Hp->VK->Prop:=λ vs H Q=>∃ v d,vs=[v]/\Ĉ H v d/\gJ d/\Q (.str d.shown) H
theorem gw (hz:X.M8 sysModules=none)(hg:X.A.guards=some [])(hu:X.A.units+64<cLine):cP X (.builtin "repr") sM:=by
 intro Ã s σ H xs us Q I r h;obtain⟨v,d,rfl,rd,sw,q⟩:=h;have z:H sysModules=none:=I.base.sys hz;obtain⟨u,rfl,ru⟩:=eG r;have big:∀ a,u=Value.ref a->wpAny (model X.prog X.w) X.A (call (.builtin "repr") [u]) (EP X Ã σ Q) X.xe s:=λ a e=>by
  obtain⟨as,rr,na⟩:=jU I.Ć z rd ru;subst e;have hd:=sw.dp;exact repr_of_reads' (h₀:=s.heap) rr sw.sh (λ _=>na) hg am (λ _ _ e=>e) (λ h' u tk hk=>⟨.str d.shown,H,I.kept (h':=h') (t':=tk) hk,⟨u,rfl⟩,q⟩) sw.sz
 cases rd with
 | ù=>cases ru;exact PySem.P.repr_of_none ⟨.str _,H,I.tok _,⟨_,rfl⟩,q⟩
 | bl b=>cases ru;cases b <;> exact PySem.P.repr_of_bool ⟨.str _,H,I.tok _,⟨_,rfl⟩,q⟩
 | int i =>
  obtain⟨t,rfl⟩:=ru;exact PySem.P.repr_of_int (by have h:=sw.sh;simpa only [PyData.showable,decide_eq_true_eq] using h) ⟨.str _,H,I.tok _,⟨_,rfl⟩,q⟩
 | str x =>
  obtain⟨t,rfl⟩:=ru;exact PySem.P.repr_of_str ⟨.str _,H,I.tok _,⟨_,rfl⟩,q⟩ sw.sz
 | lst e t=>exact big _ ru
 | tup e t=>exact big _ ru
 | Ů e=>exact big _ ru
 | F_ e t=>exact big _ ru
end
def fS:PyData->String
 | .none => "NoneType"
 | .bool _ => "bool"
 | .int _ => "int"
 | .str _ => "str"
 | .list _ => "list"
 | .tuple _ => "tuple"
 | _ => "dict"
def BA:PyData->Bool
 | .tuple _=>true
 | _=>false
def rV:PyData->Bool
 | .list _=>true
 | _=>false
def xN:PyData->Bool
 | .bool _=>true
 | _=>false
def jf (lo hi:Int):PyData->Bool
 | .int i=>decide (lo<=i)&&decide (i<=hi)
 | _=>false
section
variable {K:Frag}{H:Hp}{v:V}{d:PyData}
theorem Ĉ.ty (r:Ĉ H v d):ņ K H v (.type (fS d)):=by
 cases r with
 | ù=>exact .ù
 | bl b=>exact .bl b
 | int i=>exact .int i
 | str x=>exact .str x
 | lst e _=>exact .lst e
 | tup e _=>exact .tup e
 | Ů e=>exact .dK e
 | F_ e _=>exact .dK e
theorem Ĉ.kd (r:Ĉ H v d):Kd K H v (.type (fS d)):=.inl r.ty
theorem Ĉ.W5 (r:Ĉ H v d):kitOne K (.type (fS d)) (.type "tuple")=some (BA d):=by cases r <;> rfl
theorem Ĉ.Vl (r:Ĉ H v d):kitOne K (.type (fS d)) (.type "list")=some (rV d):=by cases r <;> rfl
theorem Ĉ.isB (r:Ĉ H v d):kitOne K (.type (fS d)) (.type "bool")=some (xN d):=by cases r <;> rfl
theorem Ĉ.th (r:Ĉ H v d):Th K H v:=by
 cases r with
 | int i=>exact .inl ⟨i,rfl⟩
 | ù=>exact .inr ⟨λ i z=>(by cases z),_,_,_,.inl .ù,rfl,rfl,rfl⟩
 | bl b=>exact .inr ⟨λ i z=>(by cases z),_,_,_,.inl (.bl b),rfl,rfl,rfl⟩
 | str x=>exact .inr ⟨λ i z=>(by cases z),_,_,_,.inl (.str x),rfl,rfl,rfl⟩
 | lst e _=>exact .inr ⟨λ i z=>(by cases z),_,_,_,.inl (.lst e),rfl,rfl,rfl⟩
 | tup e _=>exact .inr ⟨λ i z=>(by cases z),_,_,_,.inl (.tup e),rfl,rfl,rfl⟩
 | Ů e=>exact .inr ⟨λ i z=>(by cases z),_,_,_,.inl (.dK e),rfl,rfl,rfl⟩
 | F_ e _=>exact .inr ⟨λ i z=>(by cases z),_,_,_,.inl (.dK e),rfl,rfl,rfl⟩
theorem Ĉ.LJ (r:Ĉ H v d)(lo hi:Int):My.LJ lo hi v=jf lo hi d:=by cases r <;> rfl
theorem gv (r:Ĉ H v (.tuple ds)):∃ a xs,v=.ref a/\H a=some (.tup xs)/\Ñ H xs ds:=by
 cases r with
 | tup e t=>exact⟨_,_,rfl,e,t⟩
theorem wu (r:Ĉ H v (.list ds)):∃ a xs,v=.ref a/\H a=some (.lst xs)/\Ñ H xs ds:=by
 cases r with
 | lst e t=>exact⟨_,_,rfl,e,t⟩
theorem Ñ.get {xs:List V}{ds:List PyData}(r:Ñ H xs ds):∀{i:Nat}{x:V},xs[i]?=some x->∃ d,ds[i]?=some d/\Ĉ H x d:=by
 induction xs generalizing ds with
 | nil=>intro i x h;simp at h
 | cons y ys ih =>
  cases r with
  | cons q t =>
   intro i x h;cases i with
   | zero=>cases h;exact⟨_,rfl,q⟩
   | succ i=>exact ih t h
end
end My
namespace My
open PySem L2
structure Bx (p:Prop):Prop where
 h:p
section
variable {X:Cx}{e a b:Expr}{es:List Expr}{te ta tb:TE}{t:TA}{pos:Pos}{st:Stmt}{rest:List Stmt}{ts u v:TS}
theorem bp:Bx (PA X [] aG):=⟨aq⟩
theorem bX (ha:Bx (PE X e te))(hr:Bx (PA X es t))(hs:starEach (e::es) X.env=(false,eval e X.env)::starEach es X.env:=by rfl):Bx (PA X (e::es) (ag te t)):=⟨ac ha.h hr.h hs⟩
theorem dw (h:Bx (PA X es t)):Bx (PE X (.List es pos) (aT t)):=⟨aY h.h⟩
theorem fN {x1}(h:Bx (PA X es t)):Bx (PE X (.Tuple es x1 pos) (eF t)):=⟨aU h.h⟩
theorem pU {r:R2}(hr:Ht X r)(ha:Bx (PE X a ta))(hb:Bx (PE X b tb))(hs:kY b:=by exact λ _ _=>rfl):Bx (PE X (.Subscript a b pos) (aS r ta tb)):=⟨ft hr ha.h hb.h hs⟩
theorem gP (h:Bx (PE X e te)):Bx (PS X (.Return (some e) pos) (cW te)):=⟨cM h.h⟩
theorem fE:Bx (Ų X [] bZ):=⟨fF⟩
theorem be (h:Bx (PS X st ts)):Bx (Ų X [st] ts):=⟨bj h.h⟩
theorem cA (h:Bx (PS X st ts))(k:Bx (Ų X rest u)):Bx (Ų X (st::rest) (aZ ts u)):=⟨cL h.h k.h⟩
theorem jB {c:Expr}{x y:List Stmt}{tc:TT}(hc:Bx (PT X c tc))(hx:Bx (Ų X x u))(hy:Bx (Ų X y v)):Bx (PS X (.If c x y pos) (dQ tc u v)):=⟨bf hc.h hx.h hy.h⟩
theorem aP {i:Nat}{x:Str}{pos':Pos}(hN:X.N.Nodup)(hi:X.N[i]?=some x)(hx:DO X.env.scope x)(he:Bx (PE X e te))(hs:swapsWith e (some (.Name x pos')) pos.line X.env=pure false:=by rfl)(hf:X.fn x=true\/X.env.scope.names.lookup x=some .local:=by first | exact .inl rfl | exact .inr rfl | assumption) :
  Bx (PS X (.Assign [.Name x pos'] e pos) (cV te (bF i))):=⟨mq hN hi hx he.h hs hf⟩
end
end My
namespace My
open PySem PySem.W L2
open AutoSeq1 (wpAny_loadPart')
section
variable {prog:Program}{w:World}{A:Around}{E:cy}{s:Shared}{r:Addr}{a b c:Int}{t u v:Tok}{n:Nat}
theorem j6 {Q:List Value->Shared->Prop}(hh:A.handled=none)(hr:IsRange s.heap r a b c t u v)(LC:Builtin.Range.small a b c=true)(hn:Builtin.Range.rangeSize a b c=n)(ķ:n<=2^24)
  (hQ:∀ h' tk acc,(∀ b o,s.heap.get? b=some o->h'.get? b=some o)->ItemsOf (λ i v=>∃ t,v=.int (a+i*c) t) acc n->Q acc.toList { s with heap:=h',toks:=tk }) :
  wpAny (model prog w) A (collect (.ref r)) Q E s:=by
 unfold collect;refine À (wpAny_runValue (Ω F.entry_proto_collect ?_));rw [ŗ F.plain_proto_collect _];show wpAny _ A.in1 (newList [] >>= λ l=>again (.builtin "list.__iadd__" ⟨[l,.ref r],[]⟩)) _ _ s;refine À (ý ?_);refine Æ ⟨plainId_quiet F.plain_list_iadd _,Ω F.entry_list_iadd ?_⟩;rw [ŗ F.plain_list_iadd _];show wpAny _ A.in1 (Builtin.List.listExtendWith (.ref s.heap.objs.size) (.ref r) (.ref s.heap.objs.size)) _ _ _;have hS:(s.heap.push { cls:=.type "list",data:=.seq ([]:List Value).toArray }).get? s.heap.objs.size=some { cls:=.type "list",data:=.seq #[] 0 }:=Í _ rfl;refine æ (wpAny_extend_range (A:=A) (R:=λ x s'=>∃ h' tk acc c',x=.ok (.ret (.ref s.heap.objs.size))/\s'={ s with heap:=h',toks:=tk }/\(∀ b o,s.heap.get? b=some o->h'.get? b=some o)/\h'.get? s.heap.objs.size=some { cls:=.type "list",dict:=none,data:=.seq acc c',slots:=#[] }/\ItemsOf (λ i v=>∃ t,v=.int (a+i*c) t) acc n)
  (s:={ s with heap:=s.heap.push { cls:=.type "list",data:=.seq ([]:List Value).toArray } }) hh (Á _ hr) LC hn ķ s.heap.objs.size (.ref s.heap.objs.size) 0 hS (λ h' tk acc c' hk Qt B'=>⟨h',tk,acc,c',rfl,rfl,λ b o e=>hk b o (Î (È e)) (Á _ e),Qt,B'⟩)) (λ fin s' h=>?_) (λ e s' h=>?_)
 ·have SN:∀ Qb,(∃ h' tk acc c',Qb={ s with heap:=h',toks:=tk }/\(∀ b o,s.heap.get? b=some o->h'.get? b=some o)/\h'.get? s.heap.objs.size=some { cls:=.type "list",dict:=none,data:=.seq acc c',slots:=#[] }/\ItemsOf (λ i v=>∃ t,v=.int (a+i*c) t) acc n)->wpAny (model prog w) A (match Value.ref s.heap.objs.size with
   | Value.ref a=>do
    match (<- load a).data with
     | Data.seq xs _=>pure xs.toList
     | _=>unsupported "internal:collect"
   | _=>unsupported "internal:collect") Q E Qb:=λ Qb hx=>by
   obtain⟨h',tk,acc,c',rfl,hk,Qt,B'⟩:=hx;show wpAny _ A (load s.heap.objs.size>>=_) _ _ _;refine À (wpAny_load Qt ?_);exact Æ (hQ h' tk acc hk B')
  cases fin with
  | done f =>
   obtain⟨h',tk,acc,c',e,h⟩:=h;cases e;exact SN _ ⟨h',tk,acc,c',h⟩
  | again c'=>exact⟨h.1,ŉ h.2 λ x Qb hr=>by obtain⟨h',tk,acc,c',rfl,hr⟩:=hr;exact SN _ ⟨h',tk,acc,c',hr⟩⟩
 ·obtain⟨_,_,_,_,e,_⟩:=h;cases e
end
theorem f6 (r:Addr)(a b c:Int)(t u v:Tok)(n:Nat)(LC:Builtin.Range.small a b c=true)(hn:Builtin.Range.rangeSize a b c=n)(ķ:n<=2^24) :
  Meets (Builtin.«tuple.__new__» ⟨[.type "tuple",.ref r],[]⟩)
   (λ A R s=>A.handled=none/\IsRange s.heap r a b c t u v/\∀(h':Heap)(tk:Nat)(acc:Array Value),(∀ b o',s.heap.get? b=some o'->h'.get? b=some o')->ItemsOf (λ i v=>∃ t,v=.int (a+i*c) t) acc n->R (.ok (.ret (.ref h'.objs.size))) { s with heap:=h'.push { cls:=.type "tuple",data:=.seq acc },toks:=tk }) :=
 .of_wp λ prog w A R s h=>by
  obtain⟨hh,hr,h⟩:=h;have SA:=sub_tuple_self;have Xh:=init_tuple_lookup;have hmh:=madeHere_tuple;have hT:s.TypeIs (.ref r) "range" :=⟨_,hr,rfl⟩;have hh1:A.in1.handled=none:=hh
  wp_walk using wpAny_typeOf hT,j6 hh1 hr LC hn ķ
  intro h' tk acc hk B';show wpAny _ _ (Builtin.Tuple.tupleExact acc.toList.toArray >>= λ v=>ret v) _ _ _;unfold Builtin.Tuple.tupleExact;refine À (ý ?_ (show acc.toList.toArray.size<=sizeLine by simp only [Array.toArray_toList];rw [B'.1,Ö];omega))
  refine Æ ⟨_,rfl,?_⟩;have e:acc.toList.toArray=acc:=by simp
  rw [e];exact h h' tk acc hk B'
theorem iq {prog:Program}{w:World}{A:Around}{E:cy}{s:Shared}{r:Addr}{a b c:Int}{t u v:Tok}{n:Nat}{Q:cy}(hh:A.handled=none)(hr:IsRange s.heap r a b c t u v)(LC:Builtin.Range.small a b c=true)(hn:Builtin.Range.rangeSize a b c=n)(ķ:n<=2^24)
  (h:∀(h':Heap)(tk:Nat)(acc:Array Value),(∀ b o',s.heap.get? b=some o'->h'.get? b=some o')->ItemsOf (λ i v=>∃ t,v=.int (a+i*c) t) acc n->Q (.ref h'.objs.size) { s with heap:=h'.push { cls:=.type "tuple",data:=.seq acc },toks:=tk }) :
  wpAny (model prog w) A (call (.type "tuple") [.ref r]) Q E s :=
 callType_new F.called_tuple ad (F.typeCall_tuple_1 _) (F.newCall_tuple_1 _) (λ obj=>F.args_object_init_2 obj _) F.entry_tuple_new
  (f6 r a b c t u v n LC hn ķ) ⟨hh,hr,λ h' tk acc hk B'=>⟨⟨_,Í _ rfl,rfl⟩,h h' tk acc hk B'⟩⟩
def vg (lo:Int)(n:Nat):List V:=(List.range n).map λ i=>V.int (lo+(i:Nat))
theorem gK (lo:Int)(n:Nat):(vg lo n).length=n:=by unfold vg;simp
theorem nN {lo:Int}{n:Nat}{acc:Array Value}(h:ItemsOf (λ i v=>∃ t,v=Value.int (lo+i*1) t) acc n):Vals (vg lo n) acc.toList:=by
 have gen:∀(xs:List V)(us:List Value),xs.length=us.length->(∀(i:Nat) x u,xs[i]?=some x->us[i]?=some u->RelV x u)->Vals xs us:=by
  intro xs
  induction xs with
  | nil=>intro us l _;cases us with | nil=>exact .nil | cons _ _=>cases l
  | cons x xs ih =>
   intro us l g;cases us with
   | nil=>cases l
   | cons u us=>exact .cons (g 0 x u rfl rfl) (ih us (by simpa using l) λ i x' u' h1 h2=>g (i+1) x' u' h1 h2)
 refine gen _ _ (by rw [gK];simp [h.1]) λ i x u hx hu=>?_
 unfold vg at hx;rw [Ò] at hx;obtain⟨j,hj,rfl⟩:=á.mp hx;have ej:i=j:=by
  have:=Ë.mp hj
  simpa using this.2
 subst ej;obtain⟨t,e⟩:=h.2 i u (by simpa using hu)
 refine⟨t,?_⟩;rw [e,Int.mul_one]
section
variable {X:Cx}
def EA:List V->Hp->VK->Prop:=λ vs H Q=>∃ j:Int,vs=[.int j]/\∀ r,H r=none->Q (.ref r) (af H r (.Mb 0 j))
theorem qM:cP X (.type "range") EA:=by
 intro Ã s σ H xs us Q I r h;obtain⟨j,rfl,q⟩:=h;obtain⟨u,rfl,t,rfl⟩:=eG r;refine call_range_1 ⟨.ref s.heap.objs.size,_,I.laid (t':=s.toks+1+1) (o:=.Mb 0 j) (λ b o e=>Á _ e) (Ç _) ?_,rfl,q _ (I.Ć.fresh (Ç _))⟩;exact⟨_,_,_,Í _ rfl⟩
def FB:List V->Hp->VK->Prop:=λ vs H Q=>∃(p:Addr)(lo hi:Int),vs=[.ref p]/\H p=some (.Mb lo hi)/\(-(2^62)<=lo/\lo<2^62/\-(2^62)<=hi/\hi<2^62)/\(hi-lo).toNat<=2^24/\∀ l,H l=none->Q (.ref l) (af H l (.tup (vg lo (hi-lo).toNat)))
theorem kB (hc:X.calm=true):cP X (.type "tuple") FB:=by
 intro Ã s σ H xs us Q I r h;obtain⟨p,lo,hi,rfl,hp,⟨b1,b2,b3,b4⟩,hl,q⟩:=h;obtain⟨u,rfl,rx⟩:=eG r;cases (show u=Value.ref p from rx);obtain⟨t,u,v,e⟩:=(show Ā X.prog X.w H s.heap p (.Mb lo hi) from I.Ć p _ hp);have en:Builtin.Range.rangeSize lo hi 1=(((hi-lo).toNat:Nat):Int):=by rw [rangeSize_one];split <;> omega
 refine iq (I.ok.hd hc) e (small_one b1 b2 b3 b4) en hl λ h' tk acc kp B'=>?_;have I1:Inv X Ã σ H { s with heap:=h' }:=I.kept (t':=s.toks) kp
 have ha:acc.toList.toArray=acc:=by simp
 have I2:Inv X Ã σ (af H h'.objs.size (.tup (vg lo (hi-lo).toNat))) { s with heap:=h'.push { cls:=.type "tuple",data:=.seq acc },toks:=tk } :=
  I1.laid (t':=tk) (λ b o e=>Á _ e) (Ç _) (show Ā X.prog X.w _ _ _ (.tup _) from⟨by rw [gK,Ö];omega,acc.toList,nN B',by rw [ha];exact PyProof.Rows.IsTup.new _ _⟩)
 exact⟨.ref h'.objs.size,_,I2,rfl,q _ (I1.Ć.fresh (Ç _))⟩
def xW:List V->Hp->VK->Prop:=λ vs H Q=>∃(p:Addr)(lo hi:Int),vs=[.ref p]/\H p=some (.Mb lo hi)/\(-(2^62)<=lo/\lo<2^62/\-(2^62)<=hi/\hi<2^62)/\(hi-lo).toNat<=2^24/\∀ l,H l=none->Q (.ref l) (af H l (.lst (vg lo (hi-lo).toNat)))
theorem qx (hc:X.calm=true):cP X (.type "list") xW:=by
 intro Ã s σ H xs us Q I r h;obtain⟨p,lo,hi,rfl,hp,⟨b1,b2,b3,b4⟩,hl,q⟩:=h;obtain⟨u,rfl,rx⟩:=eG r;cases (show u=Value.ref p from rx);obtain⟨t,u,v,e⟩:=(show Ā X.prog X.w H s.heap p (.Mb lo hi) from I.Ć p _ hp);have en:Builtin.Range.rangeSize lo hi 1=(((hi-lo).toNat:Nat):Int):=by rw [rangeSize_one];split <;> omega
 refine call_list_range (I.ok.hd hc) e (small_one b1 b2 b3 b4) en hl λ h' tk acc c' kp hS B'=>?_;have ha:acc.toList.toArray=acc:=by simp
 have I2:Inv X Ã σ (af H s.heap.objs.size (.lst (vg lo (hi-lo).toNat))) { s with heap:=h',toks:=tk } :=
  I.laid (t':=tk) kp (Ç _) (show Ā X.prog X.w _ _ _ (.lst _) from⟨by rw [gK,Ö];omega,acc.toList,c',nN B',by rw [ha];exact hS⟩)
 exact⟨.ref s.heap.objs.size,_,I2,rfl,q _ (I.Ć.fresh (Ç _))⟩
end
end My
namespace My
open PySem L2
section
variable {X:Cx}
theorem ke:∀(xs:List Bool),(List.range xs.length).all (λ i=>xs.getD i false)=xs.all id
 | []=>rfl
 | x::xs=>by
  have ih:=ke xs;rw [ú,QA,Pw,MV,Pw,<- ih];rfl
def JJ (K:PySem.W.Frag):List V->Hp->VK->Prop:=λ vs H Q=>∃(l:Addr)(xs:List Bool),vs=[.ref l]/\ó K H l (xs.map V.bl)/\Q (.bl (xs.all id)) H
theorem nq (hc:X.calm=true):cP X (.builtin "all") (JJ X.K):=by
 intro Ã s σ H vs us Q I r h;obtain⟨l,xs,rfl,hl,q⟩:=h;obtain⟨u,rfl,ru⟩:=eG r;cases (show u=Value.ref l from ru);obtain⟨its,rv,t,hz⟩:=I.list hl;have ll:l<s.heap.objs.size:=by obtain⟨_,e,_⟩:=t.isList;exact È e
 have len:=rv.length;rw [Ä] at len;refine call_all_walk (m_ t.isList ?_);refine⟨s.heap.objs.size,[s.heap.objs.size,l],[s.heap.objs.size],its.toArray.size,(λ i v=>its.toArray[i]?=some v),_,λ i=>xs.getD i false,rfl,Walks.list (A:=X.A.in1) (I.ok.hd hc) s.heap.objs.size l (Î ll) its.toArray,
  ⟨⟨_,Í _ rfl,rfl,rfl⟩,t.isList.push _⟩,λ i v s' Q' E' hv hq=>?_,λ h' tk hk=>⟨.bl _,H,I.kept (h':=h') (t':=tk) (λ b o e=>hk b o (λ m=>?_) (Á _ e)),?_,q⟩⟩
 ·have Qm:its[i]?=some v:=by simpa using hv
  have lt:i<its.length:=(Ë.mp Qm).1;have Tv:i<xs.length:=am;obtain⟨u1,e1,q1⟩:=rv.get (i:=i) (x:=V.bl xs[i]) (by rw [Ò,Â Tv];rfl)
  rw [Qm] at e1;cases e1;cases (show v=Value.bool xs[i] from q1);refine ĺ ?_;have e:xs.getD i false=xs[i]:=by simp [Tv]
  rw [<- e];exact hq
 ·rcases ç.mp m with e2 | m
  ·exact absurd (È e) (by rw [e2];exact ĝ _)
  ·cases m
 ·show Value.bool _=Value.bool _;have e:=ke xs;rw [<- e,â,<- len]
end
end My
namespace My
open PySem PySem.W L2
section
variable {K:Frag}{te:TE}{tt:TT}{g:TG}{k:Nat}{cap:St}{D:Addr}{H1:Hp}{Q:Hp->Prop}{a:Addr}{xs:List V}
theorem cI (Pv:Nat->List V->Hp->Prop)(hz:xs.length<sizeLine)(h0:Pv 0 [] (af H1 D (.lst [])))
  (hl:∀ i ys H,Pv i ys H->ó K H a xs)
  (hs:∀ i x ys H,xs[i]?=some x->ys.length=i->H D=some (.lst ys)->Pv i ys H->∀ os:St,os.length=k->∀ R:VK,(∀ y H4,H4 D=some (.lst ys)->Pv (i+1) (ys ++ [y]) (af H4 D (.lst (ys ++ [y])))->R y H4)->g x (os++cap) H λ İ H0=>(∃ ŀ:St,ŀ.length=k/\İ = ŀ ++ cap)/\te İ H0 R)
  (hd:∀ ys H,ys.length=xs.length->H D=some (.lst ys)->Pv xs.length ys H->Q H) :
  ∃ W:Nat->Nat->List V->Hp->Prop,(∃ m,W 0 m [] (af H1 D (.lst []))) /\
   ∀ i m ys H2,W i m ys H2->H2 D=some (.lst ys)/\(((jZ K a).stop i H2/\Q H2)\/((jZ K a).go i H2/\ys.length<sizeLine /\
    ∀ x H3,(jZ K a).L_ i H2 x H3->∀ os:St,os.length=k->g x (os++cap) H3 λ İ H0=>(∃ ŀ:St,ŀ.length=k/\İ = ŀ ++ cap)/\te İ H0 λ y H4=>H4 D=some (.lst ys)/\∃ m',m'<m/\W (i+1) m' (ys ++ [y]) (af H4 D (.lst (ys ++ [y]))))):=by
 refine⟨λ i m ys H=>m=xs.length-i/\i<=xs.length/\ys.length=i/\H D=some (.lst ys)/\Pv i ys H,⟨xs.length,by simp,Nat.zero_le _,rfl,aR,h0⟩,?_⟩
 rintro i m ys H ⟨rfl,hi,hy,hD,p⟩;refine⟨hD,?_⟩;have q:=hl i ys H p;by_cases ſ:i<xs.length
 ·refine .inr ⟨⟨xs,xs[i],q,by simp [ſ]⟩,am,λ x H' y=>?_⟩
  obtain⟨e,y⟩:=y;subst e;exact λ os ŋ=>hs i x ys _ (y xs q) hy hD p os ŋ _ λ z H4 Q4 p4=>⟨Q4,xs.length-(i+1),am,rfl,ſ,by rw [Ð,hy];rfl,aR,p4⟩
 ·have e:i=xs.length:=am;subst e;exact .inl ⟨⟨xs,q,Ç _⟩,hd ys H hy hD p⟩
theorem tm (Pv:Nat->List V->Hp->Prop)(hz:xs.length<sizeLine)(h0:Pv 0 [] (af H1 D (.lst [])))
  (hl:∀ i ys H,Pv i ys H->ó K H a xs)
  (hs:∀ i x ys H p,xs[i]?=some x->ys.length=i->H D=some (.lst ys)->Pv i ys H->H p=none->∀ os:St,os.length=k->∀ R:VK,(∀ y H4,H4 D=some (.lst ys)->Pv (i+1) (ys ++ [y]) (af H4 D (.lst (ys ++ [y])))->R y H4)->g (.ref p) (os++cap) (af H p (.tup [.int (i:Nat),x])) λ İ H0=>(∃ ŀ:St,ŀ.length=k/\İ = ŀ ++ cap)/\te İ H0 R)
  (hd:∀ ys H,ys.length=xs.length->H D=some (.lst ys)->Pv xs.length ys H->Q H) :
  ∃ W:Nat->Nat->List V->Hp->Prop,(∃ m,W 0 m [] (af H1 D (.lst []))) /\
   ∀ i m ys H2,W i m ys H2->H2 D=some (.lst ys)/\(((tG K a).stop i H2/\Q H2)\/((tG K a).go i H2/\ys.length<sizeLine /\
    ∀ x H3,(tG K a).L_ i H2 x H3->∀ os:St,os.length=k->g x (os++cap) H3 λ İ H0=>(∃ ŀ:St,ŀ.length=k/\İ = ŀ ++ cap)/\te İ H0 λ y H4=>H4 D=some (.lst ys)/\∃ m',m'<m/\W (i+1) m' (ys ++ [y]) (af H4 D (.lst (ys ++ [y]))))):=by
 refine⟨λ i m ys H=>m=xs.length-i/\i<=xs.length/\ys.length=i/\H D=some (.lst ys)/\Pv i ys H,⟨xs.length,by simp,Nat.zero_le _,rfl,aR,h0⟩,?_⟩
 rintro i m ys H ⟨rfl,hi,hy,hD,p⟩;refine⟨hD,?_⟩;have q:=hl i ys H p;by_cases ſ:i<xs.length
 ·refine .inr ⟨⟨xs,xs[i],q,by simp [ſ]⟩,am,λ x H' y=>?_⟩
  obtain⟨p',z,rfl,SC,rfl,Rn⟩:=y;exact λ os ŋ=>hs i z ys H p' (Rn xs q) hy hD p SC os ŋ _ λ z H4 Q4 p4=>⟨Q4,xs.length-(i+1),am,rfl,ſ,by rw [Ð,hy];rfl,aR,p4⟩
 ·have e:i=xs.length:=am;subst e;exact .inl ⟨⟨xs,q,Ç _⟩,hd ys H hy hD p⟩
end
end My
namespace My
open PySem L2
section
variable {X:Cx}{sc:Scope}{cl:List (Str × Addr)}{ts zs:List Str}{js:List Nat}{elt iter c:Expr}{pos:Pos}{tg:Expr}{g:TG}{wi:TI}{te:TE}{tt:TT}
theorem md {y:Str}{py RG:Pos}{iy:Nat}(hc:X.calm=true)(S:bL X sc cl ts zs js)(hi:PI X tg iter wi)(hg:∀ s H C fp,PG (bJ X sc cl (ts++zs) s H C fp) tg g)(he:∀ s H C fp,PE (bJ X sc cl (ts++zs) s H C fp) elt te)
  (hN:X.N.Nodup)(hiy:X.N[iy]?=some y)(hy:DO X.env.scope y)(hsw:swapsWith (.ListComp elt [⟨tg,iter,[],0⟩] sc pos) (some (.Name y py)) RG.line X.env=pure true)
  (hf:X.fn y=true\/X.env.scope.names.lookup y=some .local:=by first | exact .inl rfl | exact .inr rfl | assumption)
  (hs:∀ v,foldedSetIterable iter X.env v=pure v:=by intro _;rfl):PS X (.Assign [.Name y py] (.ListComp elt [⟨tg,iter,[],0⟩] sc pos) RG) (cV (fZ wi ts.length js g te) (bF iy)):=by
 intro Ã s σ H De I h;rw [exec_Assign_Name_used _ _ _ _ hsw];refine À (ĭ (À ?_));show wpAny _ _ (do let _ <- comprehension (.ListComp elt [⟨tg,iter,[],0⟩] sc pos) sc X.env _ (newList []) false (eval iter X.env) (some (assign (.Name y py) X.env))) _ _ s
 refine À (æ (Ľ (use:=some (assign (.Name y py) X.env)) (Q:=λ _ s'=>SP X Ã De .next s') rfl hs S.e_ S.kind S.names ?_) (λ _ s' hq=>Æ (Æ hq)) λ _ _ e=>e);refine(aW (hi Ã s σ H _ I h) λ v s1 h1=>aW h1 λ QP s2 h2=>?_);obtain⟨it,fp,tn,J,H2,e,I2,T,LX,f2,body⟩:=h2;subst e;have PZ:H2 s2.heap.objs.size=none:=I2.fresh;obtain⟨W,⟨m0,w0⟩,turn⟩:=body _ PZ;refine ý ?_;have I3:Inv X Ã σ (af H2 s2.heap.objs.size (.lst [])) { s2 with heap:=s2.heap.push { cls:=.type "list",data:=.seq ([]:List Value).toArray } }:=I2.NS (t':=s2.toks) (ys:=[]) (its:=[]) .nil (ŏ _)
 refine Λ S.Mp (by intro y hy;simp at hy) (λ Ņ hn NB=>?_) S.kind
 generalize Mx:({ s2 with heap:=s2.heap.push { cls:=.type "list",data:=.seq ([]:List Value).toArray } }:Shared)=s3 at I3 hn NB ⊢
 have F':∀ b∈fp,dF X Ã (af H2 s2.heap.objs.size (.lst [])) b/\b<s3.heap.objs.size:=λ b hb=>by
  obtain⟨o,ho,_⟩:=T.obj _ _ LX b hb;have hl:=È ho;have PN:b≠s2.heap.objs.size:=Î hl;obtain⟨z1,z2⟩:=f2 b hb;refine⟨⟨by rw [au PN];exact z1,z2⟩,?_⟩
  rw [<- Mx];show b<(s2.heap.push _).objs.size;rw [ë];exact û hl
 have old:∀ b o,s3.heap.get? b=some o->Ņ.get? b=some o:=λ b o e=>NB.extBut b o (Î (È e)) (Á _ e);have loop:∀ sS:Shared,sS.heap = Ņ->sS.os=s3.os->sS.gens=s3.gens->codeAny (model X.prog X.w) X.A (.compLoop (.ListComp elt [⟨tg,iter,[],0⟩] sc pos) 0 (.ref it) (.ref s2.heap.objs.size) (compEnvC sc cl s3.heap.objs.size X.env))
   (compPost (model X.prog X.w) X.A X.xe (some (assign (.Name y py) X.env)) (λ _ s'=>SP X Ã De .next s') (.ref s2.heap.objs.size) s3.heap.objs.size) sS:=by
  intro sS eh eo eg;subst eh;have J0:Inv (bJ X sc cl (ts++zs) s3 (af H2 s2.heap.objs.size (.lst [])) s3.heap.objs.size fp) [] (List.replicate ts.length none++dh js σ) (af H2 s2.heap.objs.size (.lst [])) sS:=eQ I3 S F' (Ç _) eo eg old hn;generalize hX:bJ X sc cl (ts++zs) s3 (af H2 s2.heap.objs.size (.lst [])) s3.heap.objs.size fp=X' at J0;have ŧ:∀{H':Hp},(∀ b∈fp,H' b=none)->∀ b∈fp,dF X' [] H' b:=λ {H'} hn b hb=>by
   subst hX;obtain⟨⟨_,z1,z2,z3,z4,z5⟩,z6⟩:=F' b hb;refine⟨hn b hb,Î z6,λ q=>?_,.inl hb,λ y c e=>z4 y c (S.sub _ _ e),λ p hp=>absurd (show p∈([]:List (Addr × Obj)) from hp) (by simp)⟩
   rcases ç.mp (I3.ų b q) with e | e
   ·exact z1 e
   ·exact z2 e
  have N6:tn 0 sS.heap:=T.keep _ _ _ LX λ b hb o e=>old b o (by rw [<- Mx];exact Á _ e)
  refine iH (λ n s'=>∃ i ys os H',os.length=ts.length/\Inv X' [] (os++dh js σ) H' s'/\tn i s'.heap/\(∀ b∈fp,H' b=none)/\W i n ys H') ?_ m0 ⟨0,[],_,_,Ý,J0,N6,λ b hb=>(F' b hb).1.1,w0⟩;rintro n s' ⟨i,ys,os,H',ŋ,Iv,st,fr,w⟩;obtain⟨hD,alt⟩:=turn i n ys H' w;have eP:X'.prog=X.prog:=by subst hX;rfl
  have eW:X'.w=X.w:=by subst hX;rfl
  have eK:X'.K=X.K:=by subst hX;rfl
  have eC:X'.calm=true:=by subst hX;exact hc
  have eA:X'.A=X.A:=by subst hX;rfl
  have eE:X'.env=compEnvC sc cl s3.heap.objs.size X.env:=by subst hX;rfl
  have eX:X'.xe = λ _ _=>False:=by subst hX;rfl
  rcases alt with⟨stop,q⟩ | ⟨go,ķ,step⟩
  ·have d:=T.done X' eP eW eK eC i [] s' _ H' (λ _ _=>False) Iv (ŧ fr) st stop;rw [eA] at d;refine aW d λ r s4 ⟨hr,I4⟩=>?_;subst hr;obtain⟨m,hm,_⟩:=id I4.loc;have fC:H' s3.heap.objs.size=none:=by
    have z:=I4.free;rw [eE] at z;exact z
   rw [eE] at hm;subst hX;have I5:Inv X Ã σ H' s4:=gn (h':=s4.heap) I3 F' (Ç _) I4 ⟨rfl,λ _ _=>rfl⟩;show wpAny _ _ (assign (.Name y py) X.env (.ref s2.heap.objs.size)) _ _ s4;have nC:∀ b,b<s3.heap.objs.size->b≠s3.heap.objs.size:=λ b hb=>Î hb;have nL:X.env.locals≠s3.heap.objs.size:=nC _ I3.lt;have X2:∀ z c,X.env.cells.lookup z=some c->c≠s3.heap.objs.size:=λ z c e=>by
    obtain⟨v,o,ho,_⟩:=I3.cell z c e;exact nC _ (È ho)
   refine wpAny_assign_Name (kg I5 hN hiy hy (v:=.ref s2.heap.objs.size) rfl (λ s5 I6 hb=>?_) hf);obtain⟨a5,sb5,ha5⟩:=hb;have na5:s3.heap.objs.size≠a5:=by
    rcases ha5 with e | e
    ·rw [e];exact nL.symm
    ·exact(X2 _ _ e).symm
   refine⟨m,hm.sameBut sb5 na5,λ h' OW=>?_⟩;have I7:Inv X Ã (σ.set iy (some (.ref s2.heap.objs.size))) H' { s5 with heap:=h',toks:=s5.toks } :=
    I6.turned (h':=h') (t':=s5.toks) (it:=s3.heap.objs.size) (λ b o hb e=>(OW.2 b hb).trans e) fC nL.symm (.inr I3.sz) X2 λ p hp=>by
     obtain⟨e1,_⟩:=I3.pin p hp;exact nC _ (È e1)
   exact⟨_,H',I7,q⟩
  ·have d:=T.item X' eP eW eK eC i [] s' _ H' (λ _ _=>False) Iv (ŧ fr) st go;rw [eA] at d;refine aW d λ r s4 ⟨u,hr,h4⟩=>?_;subst hr;refine aW h4 λ _ s5 ⟨y,H5,I5,r5,y5,z_,O5⟩=>?_;have Pd:=I5.pinned (ŧ O5) (T.obj _ _ z_);have PQ:PG X' tg g:=by subst hX;exact hg _ _ _ _
   have g6:=PQ _ s5 _ H5 y u _ Pd r5 (step y H5 y5 os ŋ);rw [eP,eW,eA,eE,eX] at g6;refine aW g6 λ _ s6 ⟨Rg,H6,I6,⟨ŀ,L5,e6⟩,PD⟩=>?_;subst e6;have QX:PE X' elt te:=by subst hX;exact he _ _ _ _
   have g7:=QX _ s6 _ H6 _ I6 PD;rw [eP,eW,eA,eE,eX] at g7;refine aW g7 λ uv s7 ⟨v7,H7,I7,r7,Q3,m',NV,w7⟩=>?_;have g8:=(du (X:=X')) _ s7 _ H7 (.ref s2.heap.objs.size) [v7] (.ref s2.heap.objs.size) [uv] (λ _ H8=>H8=af H7 s2.heap.objs.size (.lst (ys ++ [v7]))) I7 rfl (.cons r7 .nil) ⟨_,ys,v7,rfl,rfl,Q3,ķ,rfl⟩;rw [eP,eW,eA,eX] at g8;refine aW g8 λ _ s8 ⟨_,H8,I8,_,e8⟩=>?_;subst e8;refine⟨m',NV,i+1,ys ++ [v7],ŀ,_,L5,I8.Ő,T.keep _ _ _ z_ λ b hb o e=>(I8.pin (b,o) (Ì _ (Ì _ (ba hb e)))).1,λ b hb=>?_,w7⟩;obtain⟨o',e',_⟩:=T.obj _ _ z_ b hb;exact(I8.pin (b,o') (Ì _ (Ì _ (ba hb e')))).2.1
 have N7:tn 0 Ņ:=T.keep _ _ _ LX λ b hb o e=>old b o (by rw [<- Mx];exact Á _ e)
 exact ŷ (loop _ rfl rfl rfl) (T.self _ 0 _ _ _ N7 (loop _ rfl rfl rfl))
end
end My
namespace My
open PySem PySem.W L2
def yF (K:PySem.W.Frag)(n:Nat)(t:vV):TG:=λ v σ H Q=>∃ a xs,v=.ref a/\ó K H a xs/\xs.length=n/\t xs σ H Q
section
variable {X:Cx}{pos:Pos}
theorem wq {es:List Expr}{k:Nat}{t:vV}{n:Nat}(hc:X.calm=true)(h:EU X es t)
  (hn:(assignEach es X.env).length=n:=by rfl)(Pk:(assignEach es X.env).findIdx? (·.1)=none:=by rfl):PG X (.Tuple es k pos) (yF X.K n t):=by
 intro Ã s σ H v u Q I r hw;obtain⟨a,xs,e1,hq,hl,hw⟩:=hw;subst e1;cases r;obtain⟨its,rv,ht,hz⟩:=I.list hq;rw [PyProof.Rows.assign_Tuple];refine À (ĭ ?_);unfold unpack;rw [Pk,show(assignEach es X.env).length=its.toArray.size by rw [hn,â,<- rv.length];exact hl.symm]
 refine À (þ (kun_itemsOf (I.ok.hd hc) ht.isList λ h' hx=>?_));have I1:Inv X Ã σ H { s with heap:=h' }:=I.kept (t':=s.toks) λ b o e=>hx b o (Î (È e)) e
 exact h Ã _ σ H xs _ Q I1 (by simpa using rv) hw
end
section
variable {K:Frag}{te:TE}{g:TG}{k:Nat}{cap:St}{D:Addr}{H1:Hp}{Q:Hp->Prop}
theorem kX {lo:Int}{n:Nat}(Pv:Nat->List V->Hp->Prop)(hz:n<sizeLine)(h0:Pv 0 [] (af H1 D (.lst [])))
  (hs:∀ i ys H,i<n->ys.length=i->H D=some (.lst ys)->Pv i ys H->∀ os:St,os.length=k->∀ R:VK,(∀ y H4,H4 D=some (.lst ys)->Pv (i+1) (ys ++ [y]) (af H4 D (.lst (ys ++ [y])))->R y H4)->g (.int (lo+i)) (os++cap) H λ İ H0=>(∃ ŀ:St,ŀ.length=k/\İ = ŀ ++ cap)/\te İ H0 R)
  (hd:∀ ys H,ys.length=n->H D=some (.lst ys)->Pv n ys H->Q H) :
  ∃ W:Nat->Nat->List V->Hp->Prop,(∃ m,W 0 m [] (af H1 D (.lst []))) /\
   ∀ i m ys H2,W i m ys H2->H2 D=some (.lst ys)/\(((wI lo n).stop i H2/\Q H2)\/((wI lo n).go i H2/\ys.length<sizeLine /\
    ∀ x H3,(wI lo n).L_ i H2 x H3->∀ os:St,os.length=k->g x (os++cap) H3 λ İ H0=>(∃ ŀ:St,ŀ.length=k/\İ = ŀ ++ cap)/\te İ H0 λ y H4=>H4 D=some (.lst ys)/\∃ m',m'<m/\W (i+1) m' (ys ++ [y]) (af H4 D (.lst (ys ++ [y]))))):=by
 refine⟨λ i m ys H=>m=n-i/\i<=n/\ys.length=i/\H D=some (.lst ys)/\Pv i ys H,⟨n,by simp,Nat.zero_le _,rfl,aR,h0⟩,?_⟩
 rintro i m ys H ⟨rfl,hi,hy,hD,p⟩;refine⟨hD,?_⟩;by_cases ſ:i<n
 ·refine .inr ⟨ſ,am,λ x H' y=>?_⟩;obtain⟨e,y⟩:=y;subst e y;exact λ os ŋ=>hs i ys _ ſ hy hD p os ŋ _ λ z H4 Q4 p4=>⟨Q4,n-(i+1),am,rfl,ſ,by rw [Ð,hy];rfl,aR,p4⟩
 ·have e:i=n:=am;subst e;exact .inl ⟨Ç _,hd ys H hy hD p⟩
end
section
variable {X:Cx}
theorem jL:∀{ns:List Int}{its:List Value},Vals (ns.map V.int) its->∃ xs:List (Int × Tok),its=xs.map (λ p=>Value.int p.1 p.2)/\ns=xs.map (·.1)
 | [],_,r=>by cases r;exact⟨[],rfl,rfl⟩
 | n::ns,_,r=>by
  rw [ô] at r;cases r with
  | cons r1 r2 =>
   obtain⟨t,rfl⟩:=r1;obtain⟨xs,e1,e2⟩:=jL r2;exact⟨(n,t)::xs,by rw [e1];rfl,by rw [e2];rfl⟩
theorem qB {xs:List (Int × Tok)}{i:Nat}(h:i<xs.length):numAt xs.toArray i=(xs.map (·.1))[i]'(by rw [Ä];exact h):=by
 simp [numAt,h]
end
structure iI (K:Frag)(mg:bv)(D:Addr)(nm fld:Str)(C f:Addr)(fd:FuncData):Prop where
 cls:ĳ K D nm C f
 Mv:mg nm=some (.ref C)
 ok:∀(P:Program)(w:World)(base:Heap),ß P w K mg base ay 1 f fd ["self",fld] (nO C fld)
 bi:Binds K fd ["self",fld] []
structure Df (P:Program)(w:World)(K:Frag)(mg:bv)(base:Heap)(cx:jv)(k:Nat)(nm:Str)(ps:List Str)(sp:Sp)(g:Addr)(gd:FuncData):Prop where
 G:ß P w K mg base cx k g gd ps sp
 b:Binds K gd ps []
 kp:keepIn K (.ref g)=true
 m:mg nm=some (.ref g)
theorem cq {X:Cx}{CX:jv}{k:Nat}{x:Str}{ps:List Str}{sp:Sp}{f:Addr}{fd:FuncData}{E:XK}{e:Expr}{es:List Expr}{t:TA}{p pos:Pos}(A:Df X.prog X.w X.K X.mg X.base CX k x ps sp f fd)(hr:ö k X.A)(hx:cR CX X E)(ha:PA X (e::es) t)(hg:Gl X x:=by exact rfl)(l_:(x==("__debug__" : Str))=false:=by decide)(he:starEach (e::es) X.env=(false,eval e X.env)::starEach es X.env:=by rfl) (Κ:(backTo pos (starEach es X.env)).any (·.1)=false:=by rfl):PE X (.Call (.Name x p) (e::es) [] pos) (gE sp [] E t):=p9 A.G hr hg A.m A.kp A.b .nil hx ha l_ he Κ
theorem fQ {P:Program}{w:World}{X:Cx}:cR (cp P w) X E0:=λ _ _ _ _ _ _ _ h=>by
 obtain⟨_,_,_,_,_,_,_,_,_,_,_,_,_,h⟩:=h;exact h.elim
def bM (C:Addr)(fld:Str)(x:V)(H:Hp)(E:XK):Prop:=∀ e dx,H e=none->H dx=none->dx≠e->E (.ref C) (some e) (af (af H dx (.xd [(fld,x)])) e (fP e C (some dx)))
def Pp (K:Frag)(H:Hp)(v:V)(n:String):Prop:=∃ t,Kd K H v t/\kitOne K t (.type n)=some false
theorem Pp.ext {K:Frag}{H H':Hp}{v:V}{n:String}(h:Pp K H v n)(x:Ext H H'):Pp K H' v n:=by
 obtain⟨t,k,e⟩:=h;exact⟨t,k.ext x,e⟩
theorem fB {lo hi:Int}{d:PyData}(h:jf lo hi d=true):∃ i,d=.int i/\lo<=i/\i<=hi:=by
 cases d with
 | int i =>
  have h':(decide (lo<=i)&&decide (i<=hi))=true:=h;rw [a_,Ş,Ş] at h';exact⟨i,rfl,h'.1,h'.2⟩
 | _=>cases h
def eH (bs:List Bool)(i:Nat):Prop:=(∀ j b,j<i->bs[j]?=some b->b=true)/\bs[i]?=some false
theorem bz {H0 H:Hp}{l:Addr}(o:HO)(x:Ext H0 H)(h:H0 l=none):Ext H0 (af H l o):=λ b u e=>by
 rw [au (λ z=>by rw [z,h] at e;cases e)]
 exact x b u e
theorem aQ {α:Type}{xs:List α}{i:Nat}{x:α}(h:xs[i]?=some x):xs.take (i+1)=xs.take i ++ [x]:=by
 rw [List.take_succ,h];rfl
def Kept (H H':Hp)(p:Addr):Prop:=∀ b o,H b=some o->b≠p->H' b=some o
theorem Kept.refl (H:Hp)(p:Addr):Kept H H p:=λ _ _ h _=>h
theorem Kept.trans {H H1 H2:Hp}{p:Addr}(x:Kept H H1 p)(y:Kept H1 H2 p):Kept H H2 p:=λ b o h n=>y b o (x b o h n) n
theorem Ext.kept {H H':Hp}(x:Ext H H')(p:Addr):Kept H H' p:=λ b o h _=>x b o h
def wo (H:Hp)(p:Addr):Hp:=λ b=>if b=p then none else H b
theorem ak (H:Hp)(p:Addr):Ext (wo H p) H:=λ b o e=>by
 unfold wo at e;split at e
 ·cases e
 ·exact e
theorem bc {H:Hp}{p b:Addr}{o:HO}(n:b≠p)(e:H b=some o):wo H p b=some o:=by unfold wo;rw [Ø n];exact e
theorem aM {H H':Hp}{p:Addr}(k:Kept H H' p):Ext (wo H p) (wo H' p):=λ b o e=>by
 unfold wo at e;split at e
 ·cases e
 ·rename_i n
  exact bc n (k b o e n)
structure ħ (H:Hp)(p:Addr):Prop where
 ex:∃ a b c:Int,H p=some (.lst [.int a,.int b,.int c])/\0<=a/\0<=b/\0<=c/\c<2147483647
theorem ħ.ext {H H':Hp}{p:Addr}(h:ħ H p)(x:Ext H H'):ħ H' p:=by
 obtain⟨a,b,c,e,r⟩:=h.ex;exact⟨a,b,c,x _ _ e,r⟩
theorem ħ.ne {H:Hp}{p q:Addr}(h:ħ H p)(e:H q=none):q≠p:=λ z=>by
 obtain⟨a,b,c,f,_⟩:=h.ex;rw [z,f] at e;cases e
def iD (sp:Sp)(E:XK)(t:TA):TE:=λ σ H Q=>t σ H λ vs H1=>H1 sysModules=none->sp vs H1 Q E
section
variable {X:Cx}{CX:jv}{k:Nat}{f:Addr}{fd:FuncData}{ps:List Str}{sp:Sp}{E:XK}{x:Str}{p pos:Pos}{e:Expr}{es:List Expr}{t:TA}{σ:St}
theorem cY (hz:X.M8 sysModules=none)(F:ß X.prog X.w X.K X.mg X.base CX k f fd ps sp)(hr:ö k X.A)(hg:Gl X x)(hm:X.mg x=some (.ref f))(hk:PySem.W.keepIn X.K (.ref f)=true)(hb:Binds X.K fd ps [])(hx:cR CX X E)
  (ha:PA X (e::es) t)(l_:(x==("__debug__" : Str))=false:=by decide)(he:starEach (e::es) X.env=(false,eval e X.env)::starEach es X.env:=by rfl) (Κ:(backTo pos (starEach es X.env)).any (·.1)=false:=by rfl) :
  PE X (.Call (.Name x p) (e::es) [] pos) (iD sp E t):=by
 intro Ã s σ H Q I h;refine ċ (ck I hg hm ?_ l_);refine Ę (h₀:=X.base) I.ok.mod.OP hk (aW (ha pos Ã s σ H _ I h) λ us s1 ⟨vs,H1,I1,r,q⟩=>⟨I1.Ń,?_⟩) he Κ;exact jl (dvs:=[]) F hr hb .nil hx I1 r (by rw [ă];exact q (I1.base.sys hz))
end
structure Fi (k n:Nat)(d:PyData):Prop where
 sh:d.showable=true
 dp:d.depth<=k
 lv:d.leavesShort 64=true
 bk:d.bulk<=n
structure SV (k n:Nat)(ds:List PyData):Prop where
 sh:PyData.showableAll ds=true
 dp:PyData.depthAll ds<=k
 lv:PyData.leavesShortAll 64 ds=true
 bk:PyData.bulkAll ds<=(n+1)*ds.length
theorem Fi.mono {k k' n n':Nat}{d:PyData}(f:Fi k n d)(h1:k<=k')(h2:n<=n'):Fi k' n' d:=⟨f.sh,é f.dp h1,f.lv,é f.bk h2⟩
theorem SV.of {k n:Nat}:∀{ds:List PyData},(∀ d∈ds,Fi k n d)->SV k n ds
 | [],_=>⟨by simp [PyData.showableAll],by simp [PyData.depthAll],by simp [PyData.leavesShortAll],by simp [PyData.bulkAll]⟩
 | d::ds,h=>by
  have f:=h d (î ..);have g:=SV.of (ds:=ds) λ x hx=>h x (ã _ hx);refine⟨?_,?_,?_,?_⟩
  ·simp only [PyData.showableAll,f.sh,g.sh,Bool.and_self]
  ·have h1:=f.dp;have h2:=g.dp;simp only [PyData.depthAll];omega
  ·simp only [PyData.leavesShortAll,f.lv,g.lv,Bool.and_self]
  ·have h1:=f.bk;have h2:=g.bk;simp only [PyData.bulkAll,List.length_cons,Nat.mul_add];omega
theorem l8 {k n m:Nat}{ds:List PyData}(h:∀ d∈ds,Fi k n d)(hl:ds.length<=m):Fi (k+1) ((n+1)*m+1) (.list ds):=by
 have f:=SV.of h;refine⟨by simp only [PyData.showable,f.sh],?_,by simp only [PyData.leavesShort,f.lv],?_⟩
 ·have:=f.dp;simp only [PyData.depth];omega
 ·have:=f.bk;have h2:=LO (n+1) hl;simp only [PyData.bulk];omega
theorem gT {k n m:Nat}{ds:List PyData}(h:∀ d∈ds,Fi k n d)(hl:ds.length<=m):Fi (k+1) ((n+1)*m+1) (.tuple ds):=by
 have f:=SV.of h;refine⟨by simp only [PyData.showable,f.sh],?_,by simp only [PyData.leavesShort,f.lv],?_⟩
 ·have:=f.dp;simp only [PyData.depth];omega
 ·have:=f.bk;have h2:=LO (n+1) hl;simp only [PyData.bulk];omega
theorem Fi.show {k n:Nat}{d:PyData}(f:Fi k n d)(hk:k<=10)(hn:n<=200000):gJ d:=by
 refine⟨f.sh,é f.dp hk,?_⟩;have e:=PyData.shown_le_bulk 64 ad d f.lv;have e2:(64+2)*d.bulk<=66*200000:=LO _ (é f.bk hn);rw [Ö];omega
theorem tq {i:Int}(h:i.natAbs<10^30):Fi 0 2 (.int i):=by
 refine⟨?_,by simp [PyData.depth],?_,by simp [PyData.bulk]⟩
 ·simp only [PyData.showable,decide_eq_true_eq];by_cases z:i.natAbs=0
  ·rw [z];decide
  ·exact(Nat.log2_lt z).mpr (MT h ao)
 ·have e:=int_text_length_le10 (k:=30) ad h;simp only [PyData.leavesShort,PyData.shown];refine Å (show(Str.ofString (toString i)).length<=64 from ?_);rw [ofString_length];omega
theorem d_:Fi 0 2 .none:=⟨rfl,by simp [PyData.depth],rfl,by simp [PyData.bulk]⟩
theorem MD {b:Bool}:Fi 0 2 (.bool b):=by cases b <;> exact⟨rfl,by simp [PyData.depth],rfl,by simp [PyData.bulk]⟩
theorem bV {i:Int}(h1:-1000000000<=i)(h2:i<=1000000000):Fi 0 2 (.int i):=tq (Nat.lt_of_le_of_lt (show i.natAbs<=1000000000 by omega) ad)
theorem kh {b:Bool}:gJ (.bool b):=MD.show ad ad
structure yh (K:Frag)(C:Addr)(fld:Str):Prop where
 it:j3 K C
 hd:hasDictIn K C=true
 nf:findIn K (.ref C) fld=some none
section
variable {K:Frag}{H:Hp}{D:bY}{σ:St}{p:Addr}
theorem gD {r:R2}{ta tb:TE}{Q:VK}(h:ta σ H λ x H1=>tb σ H1 λ y H2=>r x y H2 Q):aS r ta tb σ H Q:=h
theorem ħ.up {l:Addr}{o:HO}(b:ħ H p)(n:l≠p):ħ (af H l o) p:=by
 obtain⟨x,y,z,hp,r⟩:=b;exact⟨x,y,z,by rw [au n.symm];exact hp,r⟩
theorem aN {te:TE}{i:Nat}{u:TS}(h:te σ H λ v H1=>u D (σ.set i (some v)) H1):aZ (cV te (bF i)) u D σ H:=h
end
section
variable {G G':Hp}{xs ys:List V}{n m:Nat}
theorem Ñ.drop:∀{xs:List V}{ds:List PyData}(i:Nat),Ñ G xs ds->Ñ G (xs.drop i) (ds.drop i)
 | _,_,0,h=>h
 | _,_,i+1,.nil=>.nil
 | _,_,i+1,.cons _ t=>Ñ.drop i t
theorem Ñ.take:∀{xs:List V}{ds:List PyData}(i:Nat),Ñ G xs ds->Ñ G (xs.take i) (ds.take i)
 | _,_,0,h=>.nil
 | _,_,i+1,.nil=>.nil
 | _,_,i+1,.cons r t=>.cons r (Ñ.take i t)
end
def wt (H:Hp)(p t:Addr):Hp:=wo (wo H p) t
theorem CG (H:Hp)(p t:Addr):Ext (wt H p t) H:=(ak _ t).trans (ak H p)
theorem iT {H:Hp}{p t b:Addr}{o:HO}(n:b≠p)(m:b≠t)(e:H b=some o):wt H p t b=some o:=bc m (bc n e)
theorem lG {H H':Hp}{p t:Addr}(k:Kept H H' p):Ext (wt H p t) (wt H' p t):=aM ((aM k).kept t)
theorem nK {H H':Hp}(x:Ext H H')(p t:Addr):Ext (wt H p t) (wt H' p t):=lG (x.kept p)
theorem Gf {H:Hp}{a t:Addr}{u:HO}(h:H t=some u)(e:H a=none):a≠t:=λ z=>by rw [z,h] at e;cases e
theorem ND:Fi 1 3 (.dict []):=⟨by simp [PyData.showable,PyData.showableKv],by simp [PyData.depth,PyData.depthKv],by simp [PyData.leavesShort,PyData.leavesShortKv],by simp [PyData.bulk,PyData.bulkKv]⟩
theorem hW {H:Hp}{p a:Addr}{o:HO}(h:wo H p a=some o):a≠p:=λ e=>by
 unfold wo at h;rw [à e] at h;cases h
theorem aL {H H':Hp}(x:Ext H H')(p:Addr):Ext (wo H p) (wo H' p):=aM (x.kept p)
theorem yj {α:Type}{xs:List α}{i:Int}(h0:0<=i)(h:i.toNat<xs.length):v6 xs i=some xs[i.toNat]:=by
 have e:=gS (Â h)
 rwa [show((i.toNat:Nat):Int)=i by omega] at e
structure GE (p:Addr)(k m:Nat)(te:TE):Prop where
 h:∀(σ:St)(H:Hp)(Q:VK),ħ H p->(∀ v H',Ext H H'->(∃ d,Ĉ (wo H' p) v d/\Fi k m d)->Q v H')->te σ H Q
section
variable {p:Addr}{k m k' m' n:Nat}{te ta tb:TE}{t:TA}
theorem vH {v:V}{d:PyData}(r:∀ G,Ĉ G v d)(f:Fi k m d):GE p k m (tC v):=⟨λ σ H Q bx q=>q v H (Ext.refl _) ⟨d,r _,f⟩⟩
theorem ge_int {i:Int}(h1:-1000000000<=i)(h2:i<=1000000000):GE p 0 2 (tC (.int i)):=vH (λ _=>.int _) (bV h1 h2)
end
theorem Av {C:Addr}{fld:Str}{v:V}{H1:Hp}{E':XK}(h:∀ e dx H',Ext H1 H'->H' e=some (fP e C (some dx))->H' dx=some (.xd [(fld,v)])->E' (.ref C) (some e) H'):bM C fld v H1 E':=λ e dx he NC ne=>by
 have x2:=Ext.new (o:=.xd [(fld,v)]) NC;have Qs:af H1 dx (.xd [(fld,v)]) e=none:=by rw [au ne.symm];exact he
 have x3:=Ext.new (o:=fP e C (some dx)) Qs;exact h e dx _ (x2.trans x3) aR (x3 _ _ aR)
section
variable {X:Cx}
def sx (K:Frag):R2:=λ x y H Q=>∃ p q xs,x=.ref p/\y=.ref q/\ó K H p xs/\ó K H q []/\Q (.bl (!xs.isEmpty)) H
theorem tV (hu:X.A.units<cLine):ij X (compareOp .NotEq) (sx X.K):=by
 intro Ã s σ H x y v u Q I rx ry h;obtain⟨p,q,xs,rfl,rfl,hp,hq,k⟩:=h;cases rx;cases ry;obtain⟨its,r1,t1,_⟩:=I.list hp;obtain⟨Β,r2,t2,_⟩:=I.list hq;have l1:=r1.length;have l2:=r2.length;have e2:Β=[]:=P6.mp l2.symm;subst e2;cases xs with
 | nil =>
  have e1:its=[]:=P6.mp l1.symm;subst e1;exact SeqAt.RcNeAt.lists (e:=λ _=>true) t1.isList t2.isList rfl hu (λ j h _=>absurd h (Ś _)) X.prog X.w X.xe _ ⟨.bl false,H,I,rfl,k⟩
 | cons x xs =>
  exact SeqAt.RcNeAt.lists_lengths t1.isList t2.isList (by simp [<- l1]) hu X.prog X.w X.xe _ ⟨.bl true,H,I,rfl,k⟩
end
theorem sJ {t:TA}{σ:St}{H:Hp}{Q:VK}(h:t σ H λ xs H1=>xs.length<=sizeLine/\∀ p,H1 p=none->Q (.ref p) (af H1 p (.lst xs))):aT t σ H Q:=h
structure Pt (G:Hp->Hp)(H:Hp):Prop where
 mono:∀{H1 H2:Hp},Ext H1 H2->Ext (G H1) (G H2)
 new:∀{H1:Hp}{a:Addr}{o:HO},Ext H H1->H1 a=none->G (af H1 a o) a=some o
theorem Pt.ext {G:Hp->Hp}{H H':Hp}(h:Pt G H)(x:Ext H H'):Pt G H':=⟨h.mono,λ y=>h.new (x.trans y)⟩
theorem yH {H:Hp}{p:Addr}{u:HO}(h:H p=some u):Pt (λ H=>wo H p) H:=⟨λ x=>aL x p,λ x e=>bc (Gf (x _ _ h) e) aR⟩
theorem ħ.some {H:Hp}{p:Addr}(b:ħ H p):∃ u,H p=some u:=by
 obtain⟨_,_,_,h,_⟩:=b.ex;exact⟨_,h⟩
section
variable {K:Frag}{H:Hp}
def uV (K:Frag)(t:TA):TE:=λ σ H Q=>t σ H λ xs H1=>xs.length<=sizeLine/\∀ p,H1 p=none->K.lookup p=none->Q (.ref p) (af H1 p (.lst xs))
theorem wK {X:Cx}{es:List Expr}{t:TA}{pos:Pos}(h:PA X es t):PE X (.List es pos) (uV X.K t):=by
 intro Ã s σ H Q I hq;refine wpAny_List_spliced (aW (h pos Ã s σ H _ I hq) λ us s1 ⟨xs,H1,I1,r,z,q⟩=>⟨by rw [<- r.length];exact z,?_⟩)
 have hf:H1 s1.heap.objs.size=none:=I1.Ć.fresh (Ç _);have hk:X.K.lookup s1.heap.objs.size=none:=by
  cases e:X.K.lookup s1.heap.objs.size with
  | none=>rfl
  | some o=>exact absurd (È (I1.Ń _ _ e)) (ĝ _)
 refine⟨.ref s1.heap.objs.size,af H1 s1.heap.objs.size (.lst xs),I1.laid (t':=s1.toks) (λ b u e=>Á _ e) (Ç _) ?_,rfl,q _ hf hk⟩;exact⟨z,us,0,r,Í _ rfl⟩
theorem ó.neN {a p:Addr}{xs:List V}(h:ó K H a xs)(hp:H p=none)(hk:K.lookup p=none):a≠p:=λ e=>by
 subst e;rcases h with(h | ⟨o,h⟩) | ⟨o,its,n,h,_⟩
 ·rw [hp] at h;cases h
 ·rw [hp] at h;cases h
 ·rw [hk] at h;cases h
end
theorem nu {H:Hp}{p t:Addr}{o:HO}:Ext (wt H p t) (wt (af H t o) p t):=λ c u h=>by
 have h1:=CG H p t _ _ h;have n2:=hW h;have n1:=hW (ak _ t _ _ h);exact iT n1 n2 (by rw [au n2];exact h1)
section
variable {H:Hp}{De:bY}
theorem um {σ:St}{t u:TS}(h:t { De with nx:=u De } σ H):aZ t u De σ H:=h
end
def ya (K:Frag):V->V->Hp->VK->Prop:=λ o i H Q=>∃(p:Addr)(xs:List V)(k:Nat)(v:V),o=.ref p/\i=.int (k:Nat)/\ó K H p xs/\xs[k]?=some v/\Q v H
theorem t7 {X:Cx}:Gu X (ya X.K):=by
 intro Ã s σ H o i ov iv Q I ro ri h;obtain⟨p,xs,k,v,rfl,rfl,hq,hv,q⟩:=h;cases (show ov=Value.ref p from ro);obtain⟨t,rfl⟩:=ri;obtain⟨its,r,pl,hz⟩:=I.list hq;obtain⟨u,hu,ru⟩:=r.get hv;exact wpAny_getItem_list pl.isList (x:=u) am (by have:=(Ë.mp hu).1;have:=r.length;have:=jt;simp;omega) (by simpa using hu) ⟨v,H,I,ru,q⟩
theorem ó.kp {K:Frag}{H H':Hp}{a p:Addr}{xs:List V}(h:ó K H a xs)(k:Kept H H' p)(n:a≠p):ó K H' a xs:=by
 rcases h with(h | ⟨o,h⟩) | h
 ·exact .inl (.inl (k _ _ h n))
 ·exact .inl (.inr ⟨o,k _ _ h n⟩)
 ·exact .inr h
theorem iP (val:Nat->Int)(ns:List Int)(h:∀(i:Nat)(hi:i<ns.length),val i=ns[i]):∀ k,k<=ns.length->preSum val k=(ns.take k).sum
 | 0,_=>by simp [preSum]
 | k+1,hk=>by
  have ih:=iP val ns h k am;have e:ns.take (k+1)=ns.take k ++ [ns[k]]:=aQ (Â am);show preSum val k+val k=_;rw [ih,h k am,e,ł];simp
section
variable {X:Cx}
def oz (K:Frag):List V->Hp->VK->Prop:=λ vs H Q=>∃(l:Addr)(ns:List Int),vs=[.ref l]/\ó K H l (ns.map V.int)/\Q (.int ns.sum) H
theorem dS (hc:X.calm=true):cP X (.builtin "sum") (oz X.K):=by
 intro Ã s σ H xs us Q I r h;obtain⟨l,ns,rfl,hl,q⟩:=h;obtain⟨u,rfl,ru⟩:=eG r;cases (show u=Value.ref l from ru);obtain⟨its,rv,p,hz⟩:=I.list hl;obtain⟨xs,rfl,rfl⟩:=jL rv;have e:(xs.map λ p=>Value.int p.1 p.2).toArray=intItems xs.toArray:=by simp [intItems]
 have hL:s.heap.IsList l (intItems xs.toArray):=by rw [<- e];exact p.isList
 refine sum_intListG (I.ok.hd hc) hL λ h' tk t' hk=>?_;have es:preSum (numAt xs.toArray) xs.toArray.size=(xs.map (·.1)).sum:=by
  have:=iP (numAt xs.toArray) (xs.map (·.1)) (λ i hi=>qB (by simpa using hi)) xs.toArray.size (by simp)
  rw [this,Qz (by simp)]
 rw [es];exact⟨.int _,H,I.kept hk,⟨t',rfl⟩,q⟩
end
section
variable {X:Cx}
def GJ (K:Frag):List V->Hp->VK->Prop:=λ vs H Q=>∃ x S t b,vs=[x,.ref S]/\Kd K H x t/\kitOne K t (.ref S)=some b/\Q (.bl b) H
theorem eB (N:pY X.K):cP X (.builtin "isinstance") (GJ X.K):=by
 intro Ã s σ H xs us Q I r h;obtain⟨x,S,t,b,rfl,kd,e,q⟩:=h;obtain⟨u,u',rfl,ru,NP⟩:=hZ r;cases (show u'=Value.ref S from NP);rcases kd with ty | ⟨p,ys,rfl,hq,rfl⟩ | ⟨a,C,rfl,ea,T,rfl⟩
 ·exact kE I ru ty e λ tk=>⟨.bl b,H,I.tok _,rfl,q⟩
 ·cases (show u=Value.ref p from ru);obtain⟨its,_,⟨o,h1,h2,_⟩,_⟩:=I.tuple hq;exact kia_one kitx_tuple I.Ń ⟨o,h1,h2⟩ e (λ z=>nomatch z) λ tk=>⟨.bl b,H,I.tok _,rfl,q⟩
 ·cases (show u=Value.ref a from ru);exact kia_one (pz T N.gt N.tk) I.Ń (ea.inst I.Ć) e (λ z=>nomatch z) λ tk=>⟨.bl b,H,I.tok _,rfl,q⟩
end
mutual
def dP:PyData->PyData->Bool
 | .list xs,.list ys=>LG xs ys
 | .tuple xs,.tuple ys=>LG xs ys
 | .none,.none=>true
 | .bool a,.bool b=>a==b
 | .bool a,.int j=>(if a then(1:Int) else 0)==j
 | .int i,.bool b=>i==(if b then(1:Int) else 0)
 | .int i,.int j=>i==j
 | .str x,.str y=>x==y
 | _,_=>false
def LG:List PyData->List PyData->Bool
 | [],[]=>true
 | x::xs,y::ys=>dP x y&&LG xs ys
 | _,_=>false
end
mutual
def bD:PyData->Bool
 | .list xs=>ń xs
 | .tuple xs=>ń xs
 | .dict _=>false
 | _=>true
def ń:List PyData->Bool
 | []=>true
 | x::xs=>bD x && ń xs
end
mutual
theorem uk:∀{d:PyData},bD d=true->dP d d=true
 | .none,_=>by simp [dP]
 | .bool b,_=>by simp [dP]
 | .int i,_=>by simp [dP]
 | .str x,_=>by simp [dP]
 | .list xs,h=>by simp only [dP];exact ż (by simpa only [bD] using h)
 | .tuple xs,h=>by simp only [dP];exact ż (by simpa only [bD] using h)
 | .dict _,h=>by simp [bD] at h
theorem ż:∀{ds:List PyData},ń ds=true->LG ds ds=true
 | [],_=>by simp [LG]
 | d::ds,h=>by
  simp only [ń,Bool.and_eq_true] at h;simp only [LG,uk h.1,ż h.2,Bool.and_self]
end
mutual
theorem Ĉ.det {G:Hp}:∀{v:V}{d e:PyData},Ĉ G v d->Ĉ G v e->d=e
 | _,_,_,.ù,r=>by cases r;rfl
 | _,_,_,.bl b,r=>by cases r;rfl
 | _,_,_,.int i,r=>by cases r;rfl
 | _,_,_,.str x,r=>by cases r;rfl
 | _,_,_,.lst h t,r=>by
  cases r with
  | lst h' t'=>rw [h] at h';cases h';rw [Ñ.det t t']
  | tup h' _=>rw [h] at h';cases h'
  | Ů h'=>rw [h] at h';cases h'
  | F_ h' _=>rw [h] at h';cases h'
 | _,_,_,.tup h t,r=>by
  cases r with
  | lst h' _=>rw [h] at h';cases h'
  | tup h' t'=>rw [h] at h';cases h';rw [Ñ.det t t']
  | Ů h'=>rw [h] at h';cases h'
  | F_ h' _=>rw [h] at h';cases h'
 | _,_,_,.Ů h,r=>by
  cases r with
  | lst h' _=>rw [h] at h';cases h'
  | tup h' _=>rw [h] at h';cases h'
  | Ů h'=>rfl
  | F_ h' _=>rw [h] at h';cases h'
 | _,_,_,.F_ h t,r=>by
  cases r with
  | lst h' _=>rw [h] at h';cases h'
  | tup h' _=>rw [h] at h';cases h'
  | Ů h'=>rw [h] at h';cases h'
  | F_ h' t'=>rw [h] at h';cases h';rw [Ĉ.det t t']
theorem Ñ.det {G:Hp}:∀{vs:List V}{ds es:List PyData},Ñ G vs ds->Ñ G vs es->ds=es
 | _,_,_,.nil,r=>by cases r;rfl
 | _,_,_,.cons h t,r=>by
  cases r with
  | cons h' t'=>rw [Ĉ.det h h',Ñ.det t t']
end
theorem jz:∀(xs ys:List PyData),((List.range (min xs.length ys.length)).all (λ j=>dP (xs.getD j .none) (ys.getD j .none))&&xs.length==ys.length)=LG xs ys
 | [],[]=>by simp [LG]
 | [],y::ys=>by simp [LG]
 | x::xs,[]=>by simp [LG]
 | x::xs,y::ys=>by
  have ih:=jz xs ys;simp only [LG];rw [<- ih,ú,ú,Nat.succ_min_succ,QA,Pw,MV,Bool.and_assoc]
  congr 1
  rw [show(xs.length+1==ys.length+1)=(xs.length==ys.length) from by simp]
  rfl
section
variable {X:Cx}
structure Kn (A:Around)(s:Shared)(u v:Value)(b:Bool):Prop where
 eq:SeqAt.RcAt A s u v b
 ne:SeqAt.RcNeAt A s u v (!b)
structure KZ (A:Around)(s:Shared)(u v:Value)(b:Bool):Prop where
 eq:SeqAt.RcAt A s u v b
 ne:SeqAt.RcNeAt A s u v (!b)
 at_:SeqAt.EqAt A s u v b
theorem vT {A:Around}{s:Shared}{p q:Addr} {its Β:List Value}(hu:A.units<cLine)(t1:s.heap.IsTuple p its.toArray)(t2:s.heap.IsTuple q Β.toArray)(e:Nat->Bool)(he:∀ j (h1:j<its.length)(h2:j < Β.length),SeqAt.EqAt A.in1 s its[j] Β[j] (e j)) :
  Kn A s (.ref p) (.ref q) ((List.range (min its.length Β.length)).all e&&its.length == Β.length):=by
 have h':∀ j (h1:j<its.toArray.size)(h2:j < Β.toArray.size),SeqAt.EqAt A.in1 s its.toArray[j] Β.toArray[j] (e j):=λ j h1 h2=>by
  simpa using he j (by simpa using h1) (by simpa using h2)
 have a:=SeqAt.RcAt.tuples (e:=e) t1 t2 hu h';have b:=SeqAt.RcNeAt.tuples (e:=e) t1 t2 hu h';rw [â,â] at a b;exact⟨a,b⟩
theorem wX {A:Around}{s:Shared}{p q:Addr} {its Β:List Value}(hu:A.units<cLine)(t1:s.heap.IsList p its.toArray)(t2:s.heap.IsList q Β.toArray)(e:Nat->Bool)(he:∀ j (h1:j<its.length)(h2:j < Β.length),SeqAt.EqAt A.in1 s its[j] Β[j] (e j)) :
  Kn A s (.ref p) (.ref q) ((List.range (min its.length Β.length)).all e&&its.length == Β.length):=by
 have h':∀ j (h1:j<its.toArray.size)(h2:j < Β.toArray.size),SeqAt.EqAt A.in1 s its.toArray[j] Β.toArray[j] (e j):=λ j h1 h2=>by
  simpa using he j (by simpa using h1) (by simpa using h2)
 by_cases sz:its.length = Β.length
 ·have a:=SeqAt.RcAt.lists (e:=e) t1 t2 (by simpa using sz) hu h'
  have b:=SeqAt.RcNeAt.lists (e:=e) t1 t2 (by simpa using sz) hu h'
  rw [â] at a b;have z:((List.range (min its.length Β.length)).all e&&its.length == Β.length)=(List.range its.length).all e:=by
   rw [sz,Nat.min_self];simp
  rw [z];exact⟨a,b⟩
 ·have z:((List.range (min its.length Β.length)).all e&&its.length == Β.length)=false:=by
   rw [show(its.length == Β.length)=false from by simpa using sz]
   simp
  rw [z];exact⟨SeqAt.RcAt.lists_lengths t1 t2 (by simpa using sz) hu,SeqAt.RcNeAt.lists_lengths t1 t2 (by simpa using sz) hu⟩
mutual
theorem zt {Ã:List (Addr × Obj)}{σ:St}{H:Hp}{s:Shared}(I:Inv X Ã σ H s):∀{x:V}{d:PyData},Ĉ H x d->∀{A:Around}{y:V}{e:PyData}{u v:Value},Ĉ H y e->bD d=true->bD e=true->A.units+d.depth<cLine->RelV x u->RelV y v->KZ A s u v (dP d e)
 | _,_,.ù,A,y,e,u,v,ry,pd,pe,hu,ru,rv=>by
  have h0:A.units<cLine:=am;cases ru;cases ry with
  | ù=>cases rv;simp only [dP];exact⟨.none_none,.none_none,.same _⟩
  | bl b=>cases rv;simp only [dP];exact⟨.none_bool _,.none_bool _,.none_bool _⟩
  | int j=>obtain⟨t,rfl⟩:=rv;simp only [dP];exact⟨.none_int _ _,.none_int _ _,.none_int _ _⟩
  | str z=>obtain⟨t,rfl⟩:=rv;simp only [dP];exact⟨.none_str _ _,.none_str _ _,.none_str _ _⟩
  | lst h _=>cases rv;obtain⟨its,_,t,_⟩:=I.list (ó.of (K:=X.K) h);simp only [dP];exact⟨.none_list t.isList h0,.none_list t.isList h0,.none_list t.isList h0⟩
  | tup h _=>cases rv;obtain⟨its,_,t,_⟩:=I.tuple (ĥ.of (K:=X.K) h);simp only [dP];exact⟨.none_tuple t h0,.none_tuple t h0,.none_tuple t h0⟩
  | Ů _=>simp [bD] at pe
  | F_ _ _=>simp [bD] at pe
 | _,_,.bl a,A,y,e,u,v,ry,pd,pe,hu,ru,rv=>by
  have h0:A.units<cLine:=am;cases ru;cases ry with
  | ù=>cases rv;simp only [dP];exact⟨.bool_none _,.bool_none _,.bool_none _⟩
  | bl b=>cases rv;simp only [dP];exact⟨.bool_bool _ _,.bool_bool _ _,.bool_bool _ _⟩
  | int j=>obtain⟨t,rfl⟩:=rv;simp only [dP];exact⟨.bool_int _ _ _,.bool_int _ _ _,.bool_int _ _ _⟩
  | str z=>obtain⟨t,rfl⟩:=rv;simp only [dP];exact⟨.bool_str _ _ _,.bool_str _ _ _,.bool_str _ _ _⟩
  | lst h _=>cases rv;obtain⟨its,_,t,_⟩:=I.list (ó.of (K:=X.K) h);simp only [dP];exact⟨.bool_list _ t.isList h0,.bool_list _ t.isList h0,.bool_list _ t.isList h0⟩
  | tup h _=>cases rv;obtain⟨its,_,t,_⟩:=I.tuple (ĥ.of (K:=X.K) h);simp only [dP];exact⟨.bool_tuple _ t h0,.bool_tuple _ t h0,.bool_tuple _ t h0⟩
  | Ů _=>simp [bD] at pe
  | F_ _ _=>simp [bD] at pe
 | _,_,.int i,A,y,e,u,v,ry,pd,pe,hu,ru,rv=>by
  have h0:A.units<cLine:=am;obtain⟨tu,rfl⟩:=ru;cases ry with
  | ù=>cases rv;simp only [dP];exact⟨.int_none _ _,.int_none _ _,.int_none _ _⟩
  | bl b=>cases rv;simp only [dP];exact⟨.int_bool _ _ _,.int_bool _ _ _,.int_bool _ _ _⟩
  | int j=>obtain⟨t,rfl⟩:=rv;simp only [dP];exact⟨.int_int _ _ _ _,.int_int _ _ _ _,.int_int _ _ _ _⟩
  | str z=>obtain⟨t,rfl⟩:=rv;simp only [dP];exact⟨.int_str _ _ _ _,.int_str _ _ _ _,.int_str _ _ _ _⟩
  | lst h _=>cases rv;obtain⟨its,_,t,_⟩:=I.list (ó.of (K:=X.K) h);simp only [dP];exact⟨.int_list _ _ t.isList h0,.int_list _ _ t.isList h0,.int_list _ _ t.isList h0⟩
  | tup h _=>cases rv;obtain⟨its,_,t,_⟩:=I.tuple (ĥ.of (K:=X.K) h);simp only [dP];exact⟨.int_tuple _ _ t h0,.int_tuple _ _ t h0,.int_tuple _ _ t h0⟩
  | Ů _=>simp [bD] at pe
  | F_ _ _=>simp [bD] at pe
 | _,_,.str x,A,y,e,u,v,ry,pd,pe,hu,ru,rv=>by
  have h0:A.units<cLine:=am;obtain⟨tu,rfl⟩:=ru;cases ry with
  | ù=>cases rv;simp only [dP];exact⟨.str_none _ _,.str_none _ _,.str_none _ _⟩
  | bl b=>cases rv;simp only [dP];exact⟨.str_bool _ _ _,.str_bool _ _ _,.str_bool _ _ _⟩
  | int j=>obtain⟨t,rfl⟩:=rv;simp only [dP];exact⟨.str_int _ _ _ _,.str_int _ _ _ _,.str_int _ _ _ _⟩
  | str z=>obtain⟨t,rfl⟩:=rv;simp only [dP];exact⟨.str_str _ _ _ _,.str_str _ _ _ _,.str_str _ _ _ _⟩
  | lst h _=>cases rv;obtain⟨its,_,t,_⟩:=I.list (ó.of (K:=X.K) h);simp only [dP];exact⟨.str_list _ _ t.isList h0,.str_list _ _ t.isList h0,.str_list _ _ t.isList h0⟩
  | tup h _=>cases rv;obtain⟨its,_,t,_⟩:=I.tuple (ĥ.of (K:=X.K) h);simp only [dP];exact⟨.str_tuple _ _ t h0,.str_tuple _ _ t h0,.str_tuple _ _ t h0⟩
  | Ů _=>simp [bD] at pe
  | F_ _ _=>simp [bD] at pe
 | _,_,.lst (a:=a') (xs:=xs) (ds:=ds) h rs,A,y,e,u,v,ry,pd,pe,hu,ru,rv=>by
  have h0:A.units<cLine:=am;cases ru;obtain⟨its,r1,t1,_⟩:=I.list (ó.of (K:=X.K) h);cases ry with
  | ù=>cases rv;simp only [dP];exact⟨.list_none t1.isList h0,.list_none t1.isList h0,.list_none t1.isList h0⟩
  | bl b=>cases rv;simp only [dP];exact⟨.list_bool _ t1.isList h0,.list_bool _ t1.isList h0,.list_bool _ t1.isList h0⟩
  | int j=>obtain⟨t,rfl⟩:=rv;simp only [dP];exact⟨.list_int _ _ t1.isList h0,.list_int _ _ t1.isList h0,.list_int _ _ t1.isList h0⟩
  | str z=>obtain⟨t,rfl⟩:=rv;simp only [dP];exact⟨.list_str _ _ t1.isList h0,.list_str _ _ t1.isList h0,.list_str _ _ t1.isList h0⟩
  | @lst b' ys es h' ts =>
   cases rv;obtain⟨Β,r2,t2,_⟩:=I.list (ó.of (K:=X.K) h');have RX:ń ds=true:=by simpa only [bD] using pd
   have UA:ń es=true:=by simpa only [bD] using pe
   have dd:A.in1.units+PyData.depthAll ds<cLine:=by rw [kC];simp only [PyData.depth] at hu;omega
   have k:=wX h0 t1.isList t2.isList (λ j=>dP (ds.getD j .none) (es.getD j .none)) (λ j h1 h2=>ME I rs ts RX UA dd r1 r2 h1 h2);rw [<- r1.length,<- r2.length,rs.length,ts.length,jz] at k;simp only [dP];refine⟨k.eq,k.ne,?_⟩;by_cases e:a'=b'
   ·subst e;rw [h] at h';cases h';have:=Ñ.det rs ts;subst this;rw [ż RX];exact L6 _
   ·exact .of_refs e k.eq
  | tup h' _=>cases rv;obtain⟨Β,_,t,_⟩:=I.tuple (ĥ.of (K:=X.K) h');simp only [dP];exact⟨.list_tuple t1.isList t h0,.list_tuple t1.isList t h0,.list_tuple t1.isList t h0⟩
  | Ů _=>simp [bD] at pe
  | F_ _ _=>simp [bD] at pe
 | _,_,.tup (a:=a') (xs:=xs) (ds:=ds) h rs,A,y,e,u,v,ry,pd,pe,hu,ru,rv=>by
  have h0:A.units<cLine:=am;cases ru;obtain⟨its,r1,t1,_⟩:=I.tuple (ĥ.of (K:=X.K) h);cases ry with
  | ù=>cases rv;simp only [dP];exact⟨.tuple_none t1 h0,.tuple_none t1 h0,.tuple_none t1 h0⟩
  | bl b=>cases rv;simp only [dP];exact⟨.tuple_bool _ t1 h0,.tuple_bool _ t1 h0,.tuple_bool _ t1 h0⟩
  | int j=>obtain⟨t,rfl⟩:=rv;simp only [dP];exact⟨.tuple_int _ _ t1 h0,.tuple_int _ _ t1 h0,.tuple_int _ _ t1 h0⟩
  | str z=>obtain⟨t,rfl⟩:=rv;simp only [dP];exact⟨.tuple_str _ _ t1 h0,.tuple_str _ _ t1 h0,.tuple_str _ _ t1 h0⟩
  | @tup b' ys es h' ts =>
   cases rv;obtain⟨Β,r2,t2,_⟩:=I.tuple (ĥ.of (K:=X.K) h');have RX:ń ds=true:=by simpa only [bD] using pd
   have UA:ń es=true:=by simpa only [bD] using pe
   have dd:A.in1.units+PyData.depthAll ds<cLine:=by rw [kC];simp only [PyData.depth] at hu;omega
   have k:=vT h0 t1 t2 (λ j=>dP (ds.getD j .none) (es.getD j .none)) (λ j h1 h2=>ME I rs ts RX UA dd r1 r2 h1 h2);rw [<- r1.length,<- r2.length,rs.length,ts.length,jz] at k;simp only [dP];refine⟨k.eq,k.ne,?_⟩;by_cases e:a'=b'
   ·subst e;rw [h] at h';cases h';have:=Ñ.det rs ts;subst this;rw [ż RX];exact L6 _
   ·exact .of_refs e k.eq
  | lst h' _=>cases rv;obtain⟨Β,_,t,_⟩:=I.list (ó.of (K:=X.K) h');simp only [dP];exact⟨.tuple_list t1 t.isList h0,.tuple_list t1 t.isList h0,.tuple_list t1 t.isList h0⟩
  | Ů _=>simp [bD] at pe
  | F_ _ _=>simp [bD] at pe
 | _,_,.Ů _,_,_,_,_,_,_,pd,_,_,_,_=>by simp [bD] at pd
 | _,_,.F_ _ _,_,_,_,_,_,_,pd,_,_,_,_=>by simp [bD] at pd
theorem ME {Ã:List (Addr × Obj)}{σ:St}{H:Hp}{s:Shared}(I:Inv X Ã σ H s):∀{xs:List V}{ds:List PyData},Ñ H xs ds->∀{A:Around}{ys:List V}{es:List PyData} {its Β:List Value},Ñ H ys es->ń ds=true->ń es=true->A.units+PyData.depthAll ds<cLine->Vals xs its->Vals ys Β ->
  ∀{j:Nat}(h1:j<its.length)(h2:j < Β.length),SeqAt.EqAt A s its[j] Β[j] (dP (ds.getD j .none) (es.getD j .none))
 | _,_,.nil,A,ys,es,its,Β,ts,pd,pe,hu,r1,r2,j,h1,h2=>by cases r1;exact absurd h1 (Ś _)
 | _,_,.cons (v:=x) (d:=d) r rs,A,ys,es,its,Β,ts,pd,pe,hu,r1,r2,j,h1,h2=>by
  cases ts with
  | nil=>cases r2;exact absurd h2 (Ś _)
  | cons r' ts =>
   cases r1 with
   | cons q1 r1 =>
    cases r2 with
    | cons q2 r2 =>
     simp only [ń,Bool.and_eq_true] at pd pe;simp only [PyData.depthAll] at hu;cases j with
     | zero =>
      exact(zt I r (A:=A) r' pd.1 pe.1 am q1 q2).at_
     | succ j=>exact ME I rs (A:=A) ts pd.2 pe.2 am r1 r2 (by simpa using h1) (by simpa using h2)
end
end
end My
namespace My
open PySem PySem.W L2
def cg (P:Program)(w:World)(K:Frag)(mg:bv)(base:Heap)(CX:jv)(k:Nat)(m:Str)(ps:List Str)(S:Addr->Prop)(sp:Addr->Sp):Prop :=
 ∀ C,S C->N1 K C/\∃ f fd,Fp K C m f/\ß P w K mg base CX k f fd ps (sp C)/\Binds K fd ps []
def dy (S:Addr->Prop)(m:Str)(sp:Addr->Sp)(E:XK)(ta:TE)(t:TA):TE:=λ σ H Q=>ta σ H λ x H1=>∃ a C dx fs,x=.ref a/\S C/\H1 a=some (.ins C dx fs)/\fs.lookup m=none /\
 t σ H1 λ vs H2=>sp C (x::vs) H2 Q E
section
variable {X:Cx}{CX:jv}{k:Nat}{S:Addr->Prop}{ps:List Str}{sp:Addr->Sp}{E:XK}{x m:Str}{p pos ů:Pos}{e o:Expr}{es:List Expr}{ta:TE}{t:TA}{σ:St}
theorem dE {pl:Sem Bool}(he:PE X o ta)(M:cg X.prog X.w X.K X.mg X.base CX k m ps S sp)(hr:ö k X.A)(hx:cR CX X E)(ha:PA X (e::es) t)
  (Pk:starEach (e::es) X.env=(false,eval e X.env)::starEach es X.env:=by rfl) (Κ:(backTo pos (starEach es X.env)).any (·.1)=false:=by rfl)
  (ht:eval (.Call (.Attribute o m ů) (e::es) [] pos) X.env=(do
   let ov <- eval o X.env
   standAt ů.atName
   let (f,first) <- holding [ov] (getMethod ov m pl)
   callWith pos f first (backTo pos (starEach (e::es) X.env)) (backToKw pos (keywordEach [] X.env))):=by rfl) :
  PE X (.Call (.Attribute o m ů) (e::es) [] pos) (dy S m sp E ta t):=by
 intro Ã s σ H Q I h;refine Ű (pl:=pl) (aW (he Ã s σ H _ I h) λ u s1 ⟨x,H1,I1,rx,a,C,dx,fs,ex,hS,ea,l,q⟩=>?_) ht;subst ex;obtain⟨c,f,fd,hm,F,hb⟩:=M C hS;obtain rfl:u=Value.ref a:=rx;refine jD I1 ea c hm l ?_;refine Ę (first:=[.ref a]) (h₀:=X.base) I.ok.mod.OP hm.kp (aW (ha pos Ã s1 σ H1 _ I1 q) λ us s2 ⟨vs,H2,I2,r,q2⟩=>⟨I2.Ń,?_⟩) Pk Κ
 exact jl (us:=.ref a::us) (vs:=.ref a::vs) (dvs:=[]) F hr hb .nil hx I2 (.cons rfl r) (by rw [ă];exact q2)
theorem bN {pl:Sem Bool}(he:PE X o ta)(M:cg X.prog X.w X.K X.mg X.base CX k m ps S sp)(hr:ö k X.A)(hx:cR CX X E)
  (ht:eval (.Call (.Attribute o m ů) [] [] pos) X.env=(do
   let ov <- eval o X.env
   standAt ů.atName
   let (f,first) <- holding [ov] (getMethod ov m pl)
   callWith pos f first (backTo pos (starEach [] X.env)) (backToKw pos (keywordEach [] X.env))):=by rfl) :
  PE X (.Call (.Attribute o m ů) [] [] pos) (dy S m sp E ta aG):=by
 intro Ã s σ H Q I h;refine Ű (pl:=pl) (aW (he Ã s σ H _ I h) λ u s1 ⟨x,H1,I1,rx,a,C,dx,fs,ex,hS,ea,l,q⟩=>?_) ht;subst ex;obtain⟨c,f,fd,hm,F,hb⟩:=M C hS;obtain rfl:u=Value.ref a:=rx;refine jD I1 ea c hm l ?_;exact PySem.W.callWith_K0 (first:=[.ref a]) I1.Ń hm.kp (jl (us:=[.ref a]) (vs:=[.ref a]) (dvs:=[]) F hr hb .nil hx I1 (.cons rfl .nil) q)
end
section
variable {K:Frag}{te:TE}{tt:TT}{g:TG}{k:Nat}{cap:St}{D:Addr}{H1:Hp}{Q:Hp->Prop}{a:Addr}{xs:List V}
theorem pW (Pv:Nat->List V->Hp->Prop)(hz:xs.length<sizeLine)(h0:Pv 0 [] (af H1 D (.lst [])))
  (hl:∀ i ys H,Pv i ys H->ĥ K H a xs)
  (hs:∀ i x ys H,xs[i]?=some x->ys.length=i->H D=some (.lst ys)->Pv i ys H->∀ os:St,os.length=k->∀ R:VK,(∀ y H4,H4 D=some (.lst ys)->Pv (i+1) (ys ++ [y]) (af H4 D (.lst (ys ++ [y])))->R y H4)->g x (os++cap) H λ İ H0=>(∃ ŀ:St,ŀ.length=k/\İ = ŀ ++ cap)/\te İ H0 R)
  (hd:∀ ys H,ys.length=xs.length->H D=some (.lst ys)->Pv xs.length ys H->Q H) :
  ∃ W:Nat->Nat->List V->Hp->Prop,(∃ m,W 0 m [] (af H1 D (.lst []))) /\
   ∀ i m ys H2,W i m ys H2->H2 D=some (.lst ys)/\(((DN K a).stop i H2/\Q H2)\/((DN K a).go i H2/\ys.length<sizeLine /\
    ∀ x H3,(DN K a).L_ i H2 x H3->∀ os:St,os.length=k->g x (os++cap) H3 λ İ H0=>(∃ ŀ:St,ŀ.length=k/\İ = ŀ ++ cap)/\te İ H0 λ y H4=>H4 D=some (.lst ys)/\∃ m',m'<m/\W (i+1) m' (ys ++ [y]) (af H4 D (.lst (ys ++ [y]))))):=by
 refine⟨λ i m ys H=>m=xs.length-i/\i<=xs.length/\ys.length=i/\H D=some (.lst ys)/\Pv i ys H,⟨xs.length,by simp,Nat.zero_le _,rfl,aR,h0⟩,?_⟩
 rintro i m ys H ⟨rfl,hi,hy,hD,p⟩;refine⟨hD,?_⟩;have q:=hl i ys H p;by_cases ſ:i<xs.length
 ·refine .inr ⟨⟨xs,xs[i],q,by simp [ſ]⟩,am,λ x H' y=>?_⟩
  obtain⟨e,y⟩:=y;subst e;exact λ os ŋ=>hs i x ys _ (y xs q) hy hD p os ŋ _ λ z H4 Q4 p4=>⟨Q4,xs.length-(i+1),am,rfl,ſ,by rw [Ð,hy];rfl,aR,p4⟩
 ·have e:i=xs.length:=am;subst e;exact .inl ⟨⟨xs,q,Ç _⟩,hd ys H hy hD p⟩
end
theorem bh {H:Hp}{p:Addr}(o:HO):Kept H (af H p o) p:=λ b u h n=>by rw [au n];exact h
def dY:PyData->Bool
 | .tuple [.int a,.int b]=>(decide (1<=b)&&(decide (0<=a)&&decide (a<=b)))&&decide (Nat.gcd a.toNat b.toNat=1)
 | _=>false
def dO:PyData->Bool
 | .tuple [.int a,.int b]=>dY (.tuple [.int a,.int b])&&(decide (2<=b)&&decide (b<=100))
 | _=>false
def dR (lo:Int)(n:Nat):List Int:=(List.range n).map λ k=>lo+(k:Nat)
def lO (p:List Int):PyData:=.tuple (p.map .int)
def IT (p:List Int):PyData:=.list (p.map .int)
theorem oU (lo:Int)(n:Nat):vg lo n=(dR lo n).map V.int:=by unfold vg dR;rw [QB];rfl
theorem fc (G:Hp):∀(ns:List Int),Ñ G (ns.map V.int) (ns.map PyData.int)
 | []=>.nil
 | n::ns=>.cons (.int _) (fc G ns)
theorem lJ {G:Hp}:∀{p:List Int}{ys:List V},Ñ G ys (p.map PyData.int)->ys=p.map V.int
 | [],_,h=>by cases h;rfl
 | n::p,_,h=>by
  cases h with
  | cons r t =>
   cases r;rw [lJ t];rfl
theorem jw {G:Hp}{ps:List (List Int)}{xs:List V}(rs:Ñ G xs (ps.map lO)){i:Nat}{x:V}{p:List Int}(hx:xs[i]?=some x)(hp:ps[i]?=some p):∃ a,x=.ref a/\G a=some (.tup (p.map V.int)):=by
 obtain⟨d,ed,rd⟩:=rs.get hx;rw [Ò,hp] at ed;cases ed;obtain⟨a,ys,rfl,ha,ry⟩:=gv rd;refine⟨a,rfl,?_⟩;rw [<- lJ ry];exact ha
def yb:HO->Bool
 | .lst _=>true
 | .tup _=>true
 | .dK _=>true
 | _=>false
mutual
theorem Ĉ.keep {G G':Hp}(s:∀ b o,G b=some o->yb o=true->G' b=some o):∀{v:V}{d:PyData},Ĉ G v d->Ĉ G' v d
 | _,_,.ù=>.ù
 | _,_,.bl b=>.bl b
 | _,_,.int i=>.int i
 | _,_,.str x=>.str x
 | _,_,.lst e r=>.lst (s _ _ e rfl) (Ñ.keep s r)
 | _,_,.tup e r=>.tup (s _ _ e rfl) (Ñ.keep s r)
 | _,_,.Ů e=>.Ů (s _ _ e rfl)
 | _,_,.F_ e r=>.F_ (s _ _ e rfl) (Ĉ.keep s r)
theorem Ñ.keep {G G':Hp}(s:∀ b o,G b=some o->yb o=true->G' b=some o):∀{vs:List V}{ds:List PyData},Ñ G vs ds->Ñ G' vs ds
 | _,_,.nil=>.nil
 | _,_,.cons r t=>.cons (Ĉ.keep s r) (Ñ.keep s t)
end
theorem Ĉ.kept {H H':Hp}{x:Addr}{v:V}{d:PyData}{C dx:Addr}{fs:List (Str × V)}(r:Ĉ H v d)(hx:H x=some (.ins C dx fs))(k:Kept H H' x):Ĉ H' v d :=
 r.keep λ b o e h=>k b o e λ z=>by rw [z,hx] at e;cases e;cases h
inductive R0 where
 | split (n k:Int)
 | pairs (n a b:Int)
 | ř (n a b f:Int)
def R0.Õ:R0->Int
 | .split n _=>n
 | .pairs n _ _=>2*n
 | .ř n _ _ _=>n
def R0.begin:R0->PyData
 | .split _ k=>.int k
 | .pairs _ _ _=>.none
 | .ř _ _ _ _=>.int 0
def R0.told:R0->PyData
 | .split n k=>.tuple [.str "split",.int n,.int k]
 | .pairs n a b=>.tuple [.str "pairs",.int n,.tuple [.int a,.int b]]
 | .ř n a b f=>.tuple [.str "coins",.int n,.tuple [.int a,.int b],.int f]
def R0.kind:R0->Nat
 | .split _ _=>0
 | .pairs _ _ _=>1
 | .ř _ _ _ _=>2
def R0.ok:R0->Prop
 | .split n k=>1<=n/\n<=20/\0<=k/\k<=n
 | .pairs n a b=>1<=n/\n<=10/\dO (.tuple [.int a,.int b])=true
 | .ř n a b f=>1<=n/\n<=20/\dO (.tuple [.int a,.int b])=true/\1<=f/\f<=20
theorem R0.Ĝ {r:R0}(h:r.ok):1<=r.Õ/\r.Õ <= 20:=by
 cases r <;> simp only [R0.ok,R0.Õ] at * <;> omega
def cK:Int->List Int->List (List Int)
 | _,[]=>[]
 | s,n::ns=>dR s n.toNat::cK (s+n) ns
def gi (m:Int)(ps:List (List Int)):List (List Int):=(ps.map (·.filter λ x=>decide (x<m))).filter λ p=>decide (0<p.length)
inductive Rl where
 | one (r:R0)
 | blocks (rs:List R0)
 | first (t:Rl)(m:Int)
def Rl.Õ:Rl->Int
 | .one r=>r.Õ
 | .blocks rs=>(rs.map R0.Õ).sum
 | .first _ m=>m
def Rl.begin:Rl->PyData
 | .one r=>r.begin
 | .blocks []=>.tuple [.int 0,.none]
 | .blocks (r::_)=>.tuple [.int 0,r.begin]
 | .first t _=>t.begin
def Rl.told:Rl->PyData
 | .one r=>r.told
 | .blocks rs=>.tuple [.str "blocks",.tuple (rs.map R0.told)]
 | .first t m=>.tuple [.str "first",t.told,.int m]
def Rl.parts:Rl->List (List Int)
 | .one r=>[dR 0 r.Õ.toNat]
 | .blocks rs=>cK 0 (rs.map R0.Õ)
 | .first t m=>gi m t.parts
def Rl.kind:Rl->Nat
 | .one r=>r.kind
 | .blocks _=>3
 | .first _ _=>4
def Rl.inner:Rl->Rl
 | .first t _=>t.inner
 | t=>t
def fA (ps:List (List Int)):PyData:=.tuple (ps.map lO)
def Rl.ok:Rl->Prop
 | .one r=>r.ok
 | .blocks rs=>1<=rs.length/\rs.length<=6/\(∀ r∈rs,r.ok)/\(rs.map R0.Õ).sum<=20
 | .first t m=>t.ok/\0<=m/\m<=t.Õ
theorem fu:∀{ns:List Int},(∀ n∈ns,0<=n)->0<=ns.sum
 | [],_=>by simp
 | n::ns,h=>by
  have:=h n (î ..);have:=fu λ x hx=>h x (ã _ hx);simp only [List.sum_cons];omega
theorem Rl.Ĝ:∀{t:Rl},t.ok->0<=t.Õ/\t.Õ <= 20
 | .one r,h=>by have:=R0.Ĝ h;simp only [Rl.Õ];omega
 | .blocks rs,h=>by
  obtain⟨_,_,h3,h4⟩:=h;refine⟨fu λ n hn=>?_,h4⟩;obtain⟨r,hr,rfl⟩:=ć.mp hn;have:=R0.Ĝ (h3 r hr);omega
 | .first t m,h=>by
  obtain⟨h1,h2,h3⟩:=h;have:=Rl.Ĝ h1;simp only [Rl.Õ];omega
def iA:List Str:=["folk","begin","steps","told","blocks","state_ahead","state_behind"]
structure Ob (C:Addr)(H:Hp)(v:V)(fk:Int)(bg tl pt:PyData)(X:List (Str × V)->Prop):Prop where
 ex:∃ a dx fs,v=.ref a/\H a=some (.ins C dx fs)/\fs.lookup ("size" : Str)=some (.int fk)/\(∃ b,fs.lookup ("first_state" : Str)=some b/\Ĉ H b bg)/\(∃ m,fs.lookup ("mark" : Str)=some m/\Ĉ H m tl)/\(∃ p,fs.lookup ("parts" : Str)=some p/\Ĉ H p pt)/\(∀ m∈iA,fs.lookup m=none)/\X fs
def R0.extra (H:Hp):R0->List (Str × V)->Prop
 | .split _ _,_=>True
 | .pairs _ a b,fs=>∃ c,fs.lookup ("coin" : Str)=some c/\Ĉ H c (.tuple [.int a,.int b])
 | .ř _ a b f,fs=>(∃ c,fs.lookup ("coin" : Str)=some c/\Ĉ H c (.tuple [.int a,.int b]))/\fs.lookup ("far" : Str)=some (.int f)
def G_ (C:Nat->Addr)(H:Hp)(r:R0)(v:V):Prop:=Ob (C r.kind) H v r.Õ r.begin r.told (fA [dR 0 r.Õ.toNat]) (r.extra H)
def ρ (C:Nat->Addr)(H:Hp)(rs:List R0)(ws:List V):Prop:=rs.length=ws.length/\∀(i:Nat) r w,rs[i]?=some r->ws[i]?=some w->G_ C H r w
def NZ (C:Nat->Addr)(H:Hp)(rs:List R0)(v:V):Prop:=Ob (C 3) H v (Rl.blocks rs).Õ (Rl.blocks rs).begin (Rl.blocks rs).told (fA (Rl.blocks rs).parts) (λ fs=>∃ l ws,fs.lookup ("rules" : Str)=some (.ref l)/\H l=some (.tup ws)/\ρ C H rs ws)
def Po (C:Nat->Addr)(H:Hp):Rl->V->Prop
 | .one r,v=>G_ C H r v
 | .blocks rs,v=>NZ C H rs v
 | .first _ _,_=>False
def Ru (C:Nat->Addr)(H:Hp):Rl->V->Prop
 | .one r,v=>G_ C H r v
 | .blocks rs,v=>NZ C H rs v
 | .first t m,v=>Ob (C 4) H v m t.begin (Rl.first t m).told (fA (Rl.first t m).parts) (λ fs=>∃ d,fs.lookup ("dealer" : Str)=some d/\Po C H t.inner d)
theorem Ob.mono {C:Addr}{H H':Hp}{v:V}{fk:Int}{bg tl pt:PyData}{X Y:List (Str × V)->Prop}(h:Ob C H v fk bg tl pt X)(x:Ext H H')(k:∀ fs,X fs->Y fs):Ob C H' v fk bg tl pt Y:=by
 obtain⟨a,dx,fs,rfl,ha,h1,⟨b,h2,r2⟩,⟨m,h3,r3⟩,⟨p,h4,r4⟩,h5,h6⟩:=h.ex;exact⟨a,dx,fs,rfl,x _ _ ha,h1,⟨b,h2,r2.mono x⟩,⟨m,h3,r3.mono x⟩,⟨p,h4,r4.mono x⟩,h5,k fs h6⟩
section
variable {C:Nat->Addr}{H H':Hp}
theorem G_.ext {r:R0}{v:V}(h:G_ C H r v)(x:Ext H H'):G_ C H' r v:=Ob.mono h x λ fs e=>by
 cases r with
 | split _ _=>trivial
 | pairs _ a b =>
  obtain⟨c,e1,e2⟩:=e;exact⟨c,e1,e2.mono x⟩
 | ř _ a b f =>
  obtain⟨⟨c,e1,e2⟩,e3⟩:=e;exact⟨⟨c,e1,e2.mono x⟩,e3⟩
theorem ρ.ext {rs:List R0}{ws:List V}(h:ρ C H rs ws)(x:Ext H H'):ρ C H' rs ws:=⟨h.1,λ i r w a b=>G_.ext (h.2 i r w a b) x⟩
theorem NZ.ext {rs:List R0}{v:V}(h:NZ C H rs v)(x:Ext H H'):NZ C H' rs v:=Ob.mono h x λ fs e=>by
 obtain⟨l,ws,e1,e2,e3⟩:=e;exact⟨l,ws,e1,x _ _ e2,e3.ext x⟩
theorem Po.ext {t:Rl}{v:V}(h:Po C H t v)(x:Ext H H'):Po C H' t v:=by
 cases t with
 | one r=>exact G_.ext h x
 | blocks rs=>exact NZ.ext h x
 | first _ _=>exact h.elim
theorem Ru.ext {t:Rl}{v:V}(h:Ru C H t v)(x:Ext H H'):Ru C H' t v:=by
 cases t with
 | one r=>exact G_.ext h x
 | blocks rs=>exact NZ.ext h x
 | first t m=>exact Ob.mono h x λ fs ⟨d,e1,e2⟩=>⟨d,e1,e2.ext x⟩
theorem Ru.ob {t:Rl}{v:V}(h:Ru C H t v):Ob (C t.kind) H v t.Õ t.begin t.told (fA t.parts) (λ _=>True):=by
 cases t with
 | one r=>exact Ob.mono h (Ext.refl _) λ _ _=>trivial
 | blocks rs=>exact Ob.mono h (Ext.refl _) λ _ _=>trivial
 | first t m=>exact Ob.mono h (Ext.refl _) λ _ _=>trivial
end
theorem R0.ĕ (r:R0):r.kind<3:=by cases r <;> simp [R0.kind]
theorem Rl.ĕ (t:Rl):t.kind<5:=by
 cases t with
 | one r=>have:=r.ĕ;show r.kind<5;omega
 | blocks _=>show 3<5;decide
 | first _ _=>show 4<5;decide
def fO:List Str:=["size","first_state","mark","parts","coin","far","rules","dealer"]
structure KR (K:Frag)(C:Nat->Addr)(CR:Addr):Prop where
 cls:∀ i,i<5->N1 K (C i)
 no:∀ i,i<5->∀ f∈fO,ŵ K (C i) f
 ha:∀ i,i<5->PySem.W.findIn K (.ref (C i)) "__class__" = some (some (.builtin "object.__class__"))
 hn:PySem.W.specialIn K (.builtin "object.__class__") "__get__" = some (some (.builtin "getset_descriptor.__get__"))
 MM:PySem.W.takesIn K (.builtin "object.__class__")=some true
 hm:∀ i,i<5->PySem.W.mroIn K (C i) (.type "object")=some true
 kk:∀ i j,i<5->j<5->kitOne K (.ref (C i)) (.ref (C j))=some (i==j)
 kR:∀ i,i<5->kitOne K (.ref (C i)) (.ref CR)=some true
 kl:∀ i,i<5->kitOne K (.ref (C i)) (.type "list")=some false
 kt:∀ i,i<5->kitOne K (.ref (C i)) (.type "tuple")=some false
 ki:∀ i,i<5->kitOne K (.ref (C i)) (.type "int")=some false
 kb:∀ i,i<5->kitOne K (.ref (C i)) (.type "bool")=some false
def rO (C:Nat->Addr)(c:Addr):Prop:=∃ i,i<5/\c=C i
section
variable {K:Frag}{C:Nat->Addr}{CR:Addr}{H:Hp}
theorem Ob.kd {i:Nat}{v:V}{fk:Int}{bg tl pt:PyData}{X:List (Str × V)->Prop}(Z:KR K C CR)(hi:i<5)(h:Ob (C i) H v fk bg tl pt X):Kd K H v (.ref (C i)):=by
 obtain⟨a,dx,fs,rfl,ha,_⟩:=h.ex;exact .inl (.ins ha (Z.cls i hi) (Z.ha i hi) Z.hn Z.MM (Z.hm i hi))
theorem Ru.kd {t:Rl}{v:V}(Z:KR K C CR)(h:Ru C H t v):Kd K H v (.ref (C t.kind)):=h.ob.kd Z t.ĕ
theorem cF {m:Str}{sp:Addr->Sp}{E:XK}{ta:TE}{σ:St}{Q:VK}{t:Rl}{v:V}(hm:m∈iA)(h:Ru C H t v)(ht:∀ R:VK,R v H->ta σ H R)(q:sp (C t.kind) [v] H Q E):dy (rO C) m sp E ta aG σ H Q:=by
 obtain⟨a,dx,fs,rfl,ha,_,_,_,_,h5,_⟩:=h.ob.ex;exact ht _ ⟨a,C t.kind,dx,fs,rfl,⟨_,t.ĕ,rfl⟩,ha,h5 m hm,q⟩
end
end My
namespace My
open PySem PySem.W L2
def nM:V->V->Bool
 | x,.int j=>decide (1<=j)&&LJ 0 j x
 | _,_=>false
theorem tX {x y:V}(h:∀ i,y ≠ .int i):nM x y=false:=by
 cases y with
 | int i=>exact absurd rfl (h i)
 | _=>rfl
section
variable {P:Program}{w:World}{K:Frag}{mg:bv}{base:Heap}
abbrev pP:Stmt:=cr 14
def lT (K:Frag):Sp:=λ vs H Q _=>∃ x,vs=[x]/\Th K H x/\Q (.bl (GA x)) H
theorem IO:ae ["thing"] ["thing"] (aa pP):=aO
theorem sj {f:Addr}{fd:FuncData}(N:pY K)(F:ğ K "is_number" "is_number" pP f fd)(mi:mg "isinstance" = none)(m1:mg "int" = none)(m2:mg "bool" = none):ß P w K mg base ay 1 f fd ["thing"] (lT K):=by
 refine F.ok IO (λ vs H Q E h=>?_) (λ cdv A outer s H vs Q E hr h=>?_)
 ·obtain⟨c,rfl,_⟩:=h;rfl
 obtain⟨x,rfl,th,q⟩:=h;refine⟨_,bj (cM (eI (ah (dD N) rfl mi Ê (ac (pv 0) (ac (gG rfl m1 PyProof.Rows.boot_int) aq)))
  (fJ (BD (ah (dD N) rfl mi Ê (ac (pv 0) (ac (gG rfl m2 Qy) aq))))))),?_⟩
 rcases th with⟨i,rfl⟩ | ⟨n,t,b1,b2,kd,k1,k2,z⟩
 ·exact⟨_,rfl,_,_,_,_,rfl,.inl (.int i),IN,_,rfl,⟨_,rfl,_,_,_,_,rfl,.inl (.int i),IQ,_,rfl,q⟩⟩
 ·rw [la n] at q;refine⟨_,rfl,_,_,_,_,rfl,kd,k1,_,rfl,?_⟩;cases b1 with
  | false=>exact cE q
  | true =>
   refine cQ ⟨_,rfl,_,_,_,_,rfl,kd,k2,_,rfl,?_⟩;have e:(!b2)=false:=z;rw [e];exact q
abbrev sV:Stmt:=cr 15
def eS (K:Frag):Sp:=λ vs H Q _=>∃ x lo hi,vs=[x,.int lo,.int hi]/\Th K H x/\Q (.bl (LJ lo hi x)) H
theorem Ji:ae ["thing","low","high"] ["thing","low","high"] (aa sV):=aO
theorem vX {f g:Addr}{fd gd:FuncData}(F:ğ K "is_whole" "is_whole" sV f fd)(G:ß P w K mg base ay 1 g gd ["thing"] (lT K))(bG:Binds K gd ["thing"] [])(kG:keepIn K (.ref g)=true)(mG:mg "is_number" = some (.ref g)) :
  ß P w K mg base ay 2 f fd ["thing","low","high"] (eS K):=by
 refine F.ok Ji (λ vs H Q E h=>?_) (λ cdv A outer s H vs Q E hr h=>?_)
 ·obtain⟨c,lo,hi,rfl,_⟩:=h;rfl
 obtain⟨x,lo,hi,rfl,th,q⟩:=h;refine⟨_,bj (cM (eI (p9 G hr rfl mG kG bG .nil ai (ac (pv 0) aq)) (eI (c8 yA (pv 1) (pv 0) (az _)) (fJ (c8 yA (pv 0) (pv 2) (az _)))))),?_⟩;refine⟨_,rfl,x,rfl,th,_,rfl,?_⟩;rcases th with⟨i,rfl⟩ | ⟨n,_⟩
 ·refine cQ ⟨_,rfl,_,rfl,_,_,rfl,rfl,_,rfl,?_⟩;refine pB (λ c=>?_) (λ c=>?_)
  ·refine⟨_,rfl,_,rfl,_,_,rfl,rfl,?_⟩;have q':Q (.bl (decide (lo<=i)&&decide (i<=hi))) H:=q;rw [Å (ı c),ĵ] at q';exact q'
  ·have q':Q (.bl (decide (lo<=i)&&decide (i<=hi))) H:=q;rw [É (λ z=>c (Å z)),Ν] at q';exact q'
 ·rw [la n];rw [AC n] at q;exact cE q
abbrev Cm:Stmt:=cr 18
def yz:Sp:=λ vs H Q _=>∃ a b:Nat,vs=[.int a,.int b]/\Q (.int (Nat.gcd a b)) H
theorem WL:ae ["one","other"] ["one","other"] (aa Cm):=aO
def Jg:St->Nat
 | [_,some (.int b)]=>b.toNat
 | _=>0
theorem CV {f:Addr}{fd:FuncData}(F:ğ K "greatest_common" "greatest_common" Cm f fd):ß P w K mg base ay 1 f fd ["one","other"] yz:=by
 refine F.ok WL (λ vs H Q E h=>?_) (λ cdv A outer s H vs Q E hr h=>?_)
 ·obtain⟨c,lo,rfl,_⟩:=h;rfl
 obtain⟨a,b,rfl,q⟩:=h;have nd:=WL.nd;refine⟨_,cL (oq ĸ (aA iS (pv 1) aB (az _)) (bj (BH (i:=0) (j:=1) rfl nd rfl rfl ad rfl rfl (ac (pv 1) (ac (aC fG (pv 0) (pv 1)) aq)) rfl))) (bj (cM (pv 0))),?_⟩;refine ug (λ σ H'=>H'=H/\∃ x y:Nat,σ=[some (.int x),some (.int y)]/\Nat.gcd x y=Nat.gcd a b) (λ σ _=>Jg σ) ⟨rfl,a,b,rfl,rfl⟩ ?_ ?_
 ·rintro σ H' ⟨rfl,x,y,rfl,e⟩;refine⟨_,rfl,_,_,rfl,rfl,_,rfl,?_⟩;refine pB (λ c=>?_) (λ c=>?_)
  ·have c':(0:Int)<(y:Int):=ı c;refine⟨_,rfl,_,rfl,_,rfl,_,_,rfl,rfl,c',_,_,rfl,⟨rfl,y,x%y,?_,?_⟩,?_⟩
   ·show [some (V.int y),some (V.int ((x:Int)%(y:Int)))]=_;rw [show((x:Int)%(y:Int))=((x%y:Nat):Int) from by simp]
   ·rw [<- e,Nat.gcd_comm x y,Nat.gcd_rec y x,Nat.gcd_comm]
   ·show((x:Int)%(y:Int)).toNat<(y:Int).toNat;have:=Ŀ (x:Int) c';omega
  ·have c':¬ (0:Int)<(y:Int):=λ z=>c (Å z);have y0:y=0:=am;subst y0;rw [Nat.gcd_zero_right] at e;refine⟨_,rfl,?_⟩;rw [e];exact q
 ·rintro σ H Q Q' m ⟨x,e,i,j,h1,h2,b,hb,q⟩;exact⟨x,e,i,j,h1,h2,b,hb,m _ _ q⟩
abbrev uH:Stmt:=cr 19
def tS (K:Frag):Sp:=λ vs H Q _=>∃ x y,vs=[x,y]/\Th K H x/\Th K H y/\Q (.bl (nM x y)) H
theorem Iy:ae ["top","bottom"] ["top","bottom"] (aa uH):=aO
theorem vB {f g k:Addr}{fd gd kd:FuncData}(F:ğ K "is_part" "is_part" uH f fd)(G:ß P w K mg base ay 1 g gd ["thing"] (lT K))(bG:Binds K gd ["thing"] [])(kG:keepIn K (.ref g)=true)(mG:mg "is_number" = some (.ref g))
  (W:ß P w K mg base ay 2 k kd ["thing","low","high"] (eS K))(bW:Binds K kd ["thing","low","high"] [])(kW:keepIn K (.ref k)=true)(mW:mg "is_whole" = some (.ref k)):ß P w K mg base ay 3 f fd ["top","bottom"] (tS K):=by
 refine F.ok Iy (λ vs H Q E h=>?_) (λ cdv A outer s H vs Q E hr h=>?_)
 ·obtain⟨x,y,rfl,_⟩:=h;rfl
 obtain⟨x,y,rfl,tx,ty,q⟩:=h;have Ħ:=hr.mono (show 1<=2 by decide)
 refine⟨_,bj (cM (eI (p9 G Ħ rfl mG kG bG .nil ai (ac (pv 1) aq)) (eI (c8 xX (pv 1) aB (az _)) (fJ (p9 W hr rfl mW kW bW .nil ai (ac (pv 0) (ac aB (ac (pv 1) aq)))))))),?_⟩;refine⟨_,rfl,y,rfl,ty,_,rfl,?_⟩;rcases ty with⟨j,rfl⟩ | ⟨n,_⟩
 ·refine cQ ⟨_,rfl,_,_,rfl,rfl,_,rfl,?_⟩;have q':Q (.bl (decide (1<=j)&&LJ 0 j x)) H:=q;refine pB (λ c=>?_) (λ c=>?_)
  ·rw [Å (ı c),ĵ] at q';exact⟨_,rfl,_,rfl,x,0,j,rfl,tx,q'⟩
  ·rw [É (λ z=>c (Å z)),Ν] at q';exact q'
 ·rw [la n];rw [tX n] at q;exact cE q
abbrev zV:Stmt:=cr 21
def yI:Sp:=λ vs H Q _=>∃ x d,vs=[x]/\Ĉ H x d/\Q (.bl (dY d)) H
theorem P_:ae ["thing","top","bottom"] ["thing"] (aa zV):=aO
theorem pR {d1 d2:PyData}{H:Hp}{u v:V}(r1:Ĉ H u d1)(r2:Ĉ H v d2):nM u v=false->dY (.tuple [d1,d2])=false:=by
 intro h;cases r1 with
 | int i =>
  cases r2 with
  | int j =>
   have h':(decide (1<=j)&&(decide (0<=i)&&decide (i<=j)))=false:=h;show((decide (1<=j)&&(decide (0<=i)&&decide (i<=j)))&&_)=false;rw [h'];rfl
  | _=>rfl
 | _=>cases r2 <;> rfl
theorem uG {x y:V}(h:nM x y=true):∃ a b:Nat,x=.int a/\y=.int b/\1<=b/\a<=b:=by
 cases y with
 | int j =>
  have h':(decide (1<=j)&&LJ 0 j x)=true:=h;rw [a_,Ş] at h';obtain⟨h1,h2⟩:=h';cases x with
  | int i =>
   have h3:(decide (0<=i)&&decide (i<=j))=true:=h2;rw [a_,Ş,Ş] at h3;refine⟨i.toNat,j.toNat,?_,?_,am,am⟩
   ·congr 1;omega
   ·congr 1;omega
  | _=>cases h2
 | _=>cases h
theorem zS {f a1 a2:Addr}{fd d1 d2:FuncData}(N:pY K)(F:ğ K "is_share" "is_share" zV f fd)(A1:Df P w K mg base ay 3 "is_part" ["top","bottom"] (tS K) a1 d1)(A2:Df P w K mg base ay 1 "greatest_common" ["one","other"] yz a2 d2)
  (mi:mg "isinstance" = none)(mt:mg "tuple" = none)(ml:mg "len" = none):ß P w K mg base ay 4 f fd ["thing"] yI:=by
 refine F.ok P_ (λ vs H Q E h=>?_) (λ cdv A outer s H vs Q E hr h=>?_)
 ·obtain⟨v,d,rfl,_⟩:=h;rfl
 obtain⟨v,d,rfl,rd,q⟩:=h;have nd:=P_.nd;have Ħ:ö 1 _:=hr.mono ad;refine⟨_,cL (bf (PW.pt (fV (bu (aX (ah (dD N) rfl mi Ê (ac (pv 0) (ac (gG rfl mt í) aq))))) (dH (aA gC (ah aF rfl ml ñ (ac (pv 0) aq)) aB (az _))))) (bj (cM gR)) fF)
  (cL (gN (pv 0) (cT rfl (gy (dG (i:=1) nd rfl (Or.inl rfl)) (gy (dG (i:=2) nd rfl (Or.inl rfl)) bT))))
  (bj (cM (eI (cq A1 hr ai (ac (pv 1) (ac (pv 2) aq))) (fJ (c8 cZ (cq A2 Ħ ai (ac (pv 1) (ac (pv 2) aq))) aB (az _))))))),?_⟩
 refine⟨_,rfl,_,_,_,_,rfl,rd.kd,rd.W5,_,rfl,?_⟩;cases e:BA d with
 | false =>
  refine cQ (cQ ?_);have z:dY d=false:=by cases d <;> first | rfl | cases e
  rw [z] at q;exact q
 | true =>
  obtain⟨ds,rfl⟩:∃ ds,d=.tuple ds:=by cases d <;> first | exact⟨_,rfl⟩ | cases e
  obtain⟨a,xs,rfl,ha,rs⟩:=gv rd;refine cE ⟨_,rfl,a,_,rfl,.inr (ĥ.of ha),rfl,_,rfl,?_⟩;have len:=rs.length;by_cases l2:xs.length=2
  ·obtain⟨u,v,rfl⟩:∃ u v,xs=[u,v]:=by
    match xs,l2 with
    | [u,v],_=>exact⟨u,v,rfl⟩
   cases rs with
   | cons r1 rs =>
    cases rs with
    | cons r2 rs =>
     cases rs;refine cE ⟨_,rfl,a,_,rfl,ĥ.of ha,rfl,_,_,rfl,_,_,rfl,rfl,?_⟩;refine⟨_,rfl,_,rfl,u,v,rfl,r1.th,r2.th,_,rfl,?_⟩;cases pv:nM u v with
     | false =>
      rw [pR r1 r2 pv] at q;exact cE q
     | true =>
      obtain⟨x,y,rfl,rfl,y1,xy⟩:=uG pv;cases r1;cases r2;refine cQ ⟨_,rfl,_,rfl,x,y,rfl,rfl,?_⟩;have q':Q (.bl ((decide ((1:Int)<=(y:Int))&&(decide ((0:Int)<=(x:Int))&&decide ((x:Int)<=(y:Int))))&&decide (Nat.gcd (x:Int).toNat (y:Int).toNat=1))) H:=q;rw [Å (show(1:Int)<=(y:Int) by omega),Å (show(0:Int)<=(x:Int) by omega),Å (show(x:Int)<=(y:Int) by omega),õ,õ,Bool.and_self,Bool.and_self,ĵ] at q'
      have ee:decide (V.int ((Nat.gcd x y:Nat):Int)=V.int 1)=decide (Nat.gcd x y=1):=by
       by_cases g:Nat.gcd x y=1
       ·rw [Å g,g];rfl
       ·rw [É g,É];intro z;injection z with z
        omega
      rw [ee];exact q'
  ·have e1:(!decide (V.int (xs.length:Nat)=V.int 2))=true:=by
    rw [É]
    ·rfl
    ·intro h;injection h with h
     omega
   rw [e1];refine cQ ?_;have z:dY (.tuple ds)=false:=by
    match ds,len,l2 with
    | [],_,_=>rfl
    | [_],_,_=>simp [dY]
    | [_,_],l,n=>exact absurd l n
    | _::_::_::_,_,_=>simp [dY]
   rw [z] at q;exact q
abbrev HP:Stmt:=cr 31
def vd (CN:Addr):Sp:=λ vs H Q E=>∃ x d lo hi,vs=[x,.int lo,.int hi]/\Ĉ H x d/\(jf lo hi d=true->Q .ù H)/\(jf lo hi d=false->bM CN "found" x H E)
theorem HM:ae ["thing","low","high"] ["thing","low","high"] (aa HP):=aO
theorem G2 {f a1 D CN fC:Addr}{fd d1 NX:FuncData}(F:ğ K "need_number" "need_number" HP f fd)(B:Į K D)(T:iI K mg D "NoNumber" "found" CN fC NX)(A1:Df P w K mg base ay 2 "is_whole" ["thing","low","high"] (eS K) a1 d1):ß P w K mg base (cp P w) 3 f fd ["thing","low","high"] (vd CN):=by
 refine fK F HM λ cdv A outer s H vs Q E hr h=>?_;obtain⟨x,d,lo,hi,rfl,rd,q1,q2⟩:=h;refine⟨_,bj (bf (bu (aX (cq A1 hr ai (ac (pv 0) (ac (pv 1) (ac (pv 2) aq)))))) (bj (cu B T.cls (T.ok P w base) hr T.bi rfl T.Mv (pv 0))) fF),?_⟩;refine⟨_,rfl,_,rfl,_,rfl,x,lo,hi,rfl,rd.th,_,rfl,?_⟩;rw [rd.LJ];cases e:jf lo hi d with
 | true=>exact cE (q1 e)
 | false=>exact cQ ⟨_,rfl,λ e' dx h1 h2 nd=>dM nd (q2 e e' dx h1 h2 nd)⟩
abbrev Jl:Stmt:=cr 32
def BG (CS:Addr):Sp:=λ vs H Q E=>∃ x d,vs=[x]/\Ĉ H x d/\(dO d=true->Q .ù H)/\(dO d=false->bM CS "found" x H E)
theorem IG:ae ["thing"] ["thing"] (aa Jl):=aO
theorem mX {d:PyData}(h:dY d=true):∃ a b,d=.tuple [.int a,.int b]:=by
 match d,h with
 | .tuple [.int a,.int b],_=>exact⟨a,b,rfl⟩
theorem Ge {f a1 a2 D CS fC:Addr}{fd d1 d2 NX:FuncData}{t:Tok}(F:ğ K "need_coin" "need_coin" Jl f fd)(B:Į K D)(T:iI K mg D "NoShare" "found" CS fC NX)(A1:Df P w K mg base ay 2 "is_whole" ["thing","low","high"] (eS K) a1 d1)(A2:Df P w K mg base ay 4 "is_share" ["thing"] yI a2 d2)(mB:mg "MOST_BOTTOM" = some (.int 100 t)) :
  ß P w K mg base (cp P w) 5 f fd ["thing"] (BG CS):=by
 refine fK F IG λ cdv A outer s H vs Q E hr h=>?_;obtain⟨x,d,rfl,rd,q1,q2⟩:=h;have Mf:ö 2 _:=hr.mono ad;refine⟨_,bj (bf (PW.pt (fV (bu (aX (cq A2 hr ai (ac (pv 0) aq)))) (dH (bu (aX (cq A1 Mf ai (ac (ft oA (pv 0) aB) (ac aB (ac (aI (v:=.int 100) rfl mB ⟨_,rfl⟩) aq)))))))))
  (bj (cu B T.cls (T.ok P w base) Mf T.bi rfl T.Mv (pv 0))) fF),?_⟩
 refine⟨_,rfl,x,d,rfl,rd,_,rfl,?_⟩;cases e:dY d with
 | false =>
  have z:dO d=false:=by
   match d,e with
   | .tuple [.int a,.int b],e=>show(dY (.tuple [.int a,.int b])&&_)=false;rw [e];rfl
   | .none,_ | .bool _,_ | .int _,_ | .str _,_ | .list _,_ | .dict _,_=>rfl
   | .tuple [],_=>rfl
   | .tuple [_],_=>simp [dO]
   | .tuple (_::_::_::_),_=>simp [dO]
   | .tuple [.int _,.none],_ | .tuple [.int _,.bool _],_ | .tuple [.int _,.str _],_ | .tuple [.int _,.list _],_ | .tuple [.int _,.tuple _],_ | .tuple [.int _,.dict _],_=>rfl
   | .tuple [.none,_],_ | .tuple [.bool _,_],_ | .tuple [.str _,_],_ | .tuple [.list _,_],_ | .tuple [.tuple _,_],_ | .tuple [.dict _,_],_=>rfl
  exact cQ (cQ ⟨_,rfl,λ e' dx h1 h2 nd=>dM nd (q2 z e' dx h1 h2 nd)⟩)
 | true =>
  obtain⟨a,b,rfl⟩:=mX e;obtain⟨p,xs,rfl,hp,rs⟩:=gv rd;cases rs with
  | cons r1 rs =>
   cases rs with
   | cons r2 rs =>
    cases rs;cases r1;cases r2;refine cE ⟨_,rfl,p,_,_,_,rfl,rfl,ĥ.of hp,gS (j:=1) rfl,_,2,100,rfl,.inl ⟨b,rfl⟩,_,rfl,?_⟩;have ec:dO (.tuple [.int a,.int b])=LJ 2 100 (.int b):=by
     show(dY (.tuple [.int a,.int b])&&(decide (2<=b)&&decide (b<=100)))=_;rw [e,ĵ];rfl
    cases z:LJ 2 100 (.int b) with
    | true=>exact cE (q1 (by rw [ec,z]))
    | false=>exact cQ ⟨_,rfl,λ e' dx h1 h2 nd=>dM nd (q2 (by rw [ec,z]) e' dx h1 h2 nd)⟩
abbrev Ix:Stmt:=cr 33
def vU:Sp:=λ vs H Q _=>∃ i:Int,vs=[.int i]/\0<=i/\i<=20/\∀ l H',Ext H H'->Ĉ H' (.ref l) (fA [dR 0 i.toNat])->Q (.ref l) H'
theorem Jy:ae ["folk"] ["folk"] (aa Ix):=aO
theorem Fu {f:Addr}{fd:FuncData}(F:ğ K "one_part" "one_part" Ix f fd)(mt:mg "tuple" = none)(mr:mg "range" = none):ß P w K mg base ay 1 f fd ["folk"] vU:=by
 refine cw F Jy λ cdv A outer s H vs Q E hr h=>?_;obtain⟨i,rfl,h1,h2,q⟩:=h;refine⟨_,bj (cM (aU (ac (bA (kB rfl) rfl mt í (ac (bA qM rfl mr υ (ac (pv 0) aq)) aq)) aq))),?_⟩;refine⟨_,rfl,i,rfl,λ r hr=>⟨r,0,i,rfl,aR,⟨am,am,am,am⟩,am,λ l hl=>⟨dA,λ m hm=>?_⟩⟩⟩;have x2:=Ext.new (o:=.tup [.ref l]) hm;refine q m _ (((Ext.new hr).trans (Ext.new hl)).trans x2) (.tup aR (.cons (.tup (x2 _ _ aR) ?_) .nil));rw [Int.sub_zero,oU];exact fc _ _
end
def fH:PyData->Bool
 | .tuple [a,b]=>jf (-99) 99 a&&xN b
 | _=>false
def Ot (K:Frag)(H:Hp)(v:V)(b:Bool):Prop:=(∃ d,Ĉ H v d/\b=fH d)\/(Pp K H v "tuple" /\ b=false)
theorem Ot.ext {K:Frag}{H H':Hp}{v:V}{b:Bool}(h:Ot K H v b)(x:Ext H H'):Ot K H' v b:=by
 rcases h with⟨d,r,e⟩ | ⟨n,e⟩
 ·exact .inl ⟨d,r.mono x,e⟩
 ·exact .inr ⟨n.ext x,e⟩
theorem xK {d:PyData}(h:fH d=true):∃(x:Int)(b:Bool),d=.tuple [.int x,.bool b]/\-99<=x/\x<=99:=by
 match d,h with
 | .tuple [a,b],h =>
  have h':(jf (-99) 99 a&&xN b)=true:=h;rw [a_] at h';obtain⟨i,rfl,h1,h2⟩:=fB h'.1;cases b with
  | bool b=>exact⟨i,b,rfl,h1,h2⟩
  | _=>cases h'.2
theorem Ot.two {K:Frag}{H:Hp}{v:V}(h:Ot K H v true):∃ a n s,v=.ref a/\H a=some (.tup [.int n,.bl s]):=by
 rcases h with⟨d,r,e⟩ | ⟨_,e⟩
 ·obtain⟨n,s,rfl,_⟩:=xK e.symm;cases r with
  | tup ha rs =>
   cases rs with
   | cons r1 rs =>
    cases rs with
    | cons r2 rs =>
     cases rs;cases r1;cases r2;exact⟨_,_,_,rfl,ha⟩
 ·cases e
def M7 (K:Frag)(H:Hp)(xs:List V)(bs:List Bool):Prop:=xs.length=bs.length/\∀(i:Nat) x,xs[i]?=some x->∃ b,bs[i]?=some b/\Ot K H x b
section
variable {P:Program}{w:World}{K:Frag}{mg:bv}{base:Heap}
abbrev Ih:Stmt:=cr 51
def Eg (K:Frag):Sp:=λ vs H Q _=>∃ v b,vs=[v]/\Ot K H v b/\Q (.bl b) H
theorem RQ:ae ["thing","number","sure"] ["thing"] (aa Ih):=aO
theorem Gn {f a1:Addr}{fd d1:FuncData}{t1 t2:Tok}(N:pY K)(F:ğ K "is_outcome" "is_outcome" Ih f fd)(A1:Df P w K mg base ay 2 "is_whole" ["thing","low","high"] (eS K) a1 d1)(mL:mg "LEAST_NUMBER" = some (.int (-99) t1))(mM:mg "MOST_NUMBER" = some (.int 99 t2))
  (mi:mg "isinstance" = none)(mt:mg "tuple" = none)(ml:mg "len" = none)(mb:mg "bool" = none):ß P w K mg base ay 3 f fd ["thing"] (Eg K):=by
 refine F.ok RQ (λ vs H Q E h=>?_) (λ cdv A outer s H vs Q E hr h=>?_)
 ·obtain⟨v,b,rfl,_⟩:=h;rfl
 obtain⟨v,b,rfl,ot,q⟩:=h;have nd:=RQ.nd;refine⟨_,cL (bf (PW.pt (fV (bu (aX (ah (dD N) rfl mi Ê (ac (pv 0) (ac (gG rfl mt í) aq))))) (dH (aA gC (ah aF rfl ml ñ (ac (pv 0) aq)) aB (az _))))) (bj (cM gR)) fF)
  (cL (gN (pv 0) (cT rfl (gy (dG (i:=1) nd rfl (Or.inl rfl)) (gy (dG (i:=2) nd rfl (Or.inl rfl)) bT))))
  (bj (cM (eI (cq A1 hr ai (ac (pv 1) (ac (aI (v:=.int (-99)) rfl mL ⟨_,rfl⟩) (ac (aI (v:=.int 99) rfl mM ⟨_,rfl⟩) aq)))) (fJ (ah (dD N) rfl mi Ê (ac (pv 2) (ac (gG rfl mb Qy) aq)))))))),?_⟩
 rcases ot with⟨d,rd,rfl⟩ | ⟨⟨t,kd,kt⟩,rfl⟩
 rotate_left
 ·exact⟨_,rfl,_,_,_,_,rfl,kd,kt,_,rfl,cQ (cQ q)⟩
 refine⟨_,rfl,_,_,_,_,rfl,rd.kd,rd.W5,_,rfl,?_⟩;cases e:BA d with
 | false =>
  refine cQ (cQ ?_);have z:fH d=false:=by cases d <;> first | rfl | cases e
  rw [z] at q;exact q
 | true =>
  obtain⟨ds,rfl⟩:∃ ds,d=.tuple ds:=by cases d <;> first | exact⟨_,rfl⟩ | cases e
  obtain⟨a,xs,rfl,ha,rs⟩:=gv rd;refine cE ⟨_,rfl,a,_,rfl,.inr (ĥ.of ha),rfl,_,rfl,?_⟩;have len:=rs.length;by_cases l2:xs.length=2
  ·obtain⟨u,v,rfl⟩:∃ u v,xs=[u,v]:=by
    match xs,l2 with
    | [u,v],_=>exact⟨u,v,rfl⟩
   cases rs with
   | cons r1 rs =>
    cases rs with
    | cons r2 rs =>
     cases rs;refine cE ⟨_,rfl,a,_,rfl,ĥ.of ha,rfl,_,_,rfl,_,_,rfl,rfl,?_⟩;refine⟨_,rfl,u,-99,99,rfl,r1.th,_,rfl,?_⟩;rw [r1.LJ]
     rename_i d1 d2
     have qq:Q (.bl (jf (-99) 99 d1&&xN d2)) H:=q;cases e1:jf (-99) 99 d1 with
     | false =>
      rw [e1] at qq;exact cE qq
     | true =>
      rw [e1] at qq;exact cQ ⟨_,rfl,_,_,_,_,rfl,r2.kd,r2.isB,qq⟩
  ·have e1:(!decide (V.int (xs.length:Nat)=V.int 2))=true:=by
    rw [É]
    ·rfl
    ·intro h;injection h with h
     omega
   rw [e1];refine cQ ?_;have z:fH (.tuple ds)=false:=by
    match ds,len,l2 with
    | [],_,_=>rfl
    | [_],_,_=>rfl
    | [_,_],l,n=>exact absurd l n
    | _::_::_::_,_,_=>rfl
   rw [z] at q;exact q
abbrev Jc:Stmt:=cr 52
def zn (K:Frag)(C:Addr):Sp:=λ vs H Q E=>∃(v:V)(b:Bool)(i:Nat),vs=[v,.int (i:Nat)]/\Ot K H v b/\(b=true->Q .ù H)/\(b=false->bM C "place" (.int (i:Nat)) H E)
theorem JG:ae ["thing","place"] ["thing","place"] (aa Jc):=aO
theorem ER {f D C fC a1:Addr}{fd NX d1:FuncData}(F:ğ K "need_outcome" "need_outcome" Jc f fd)(B:Į K D)(T:iI K mg D "NoOutcome" "place" C fC NX)(A1:Df P w K mg base ay 3 "is_outcome" ["thing"] (Eg K) a1 d1):ß P w K mg base (cp P w) 4 f fd ["thing","place"] (zn K C):=by
 refine HE F JG (λ vs H Q E h=>?_) (λ cdv A outer s H vs Q E hr h=>?_)
 ·obtain⟨v,d,n,rfl,_⟩:=h;rfl
 obtain⟨v,d,i,rfl,rd,q1,q2⟩:=h;have Mf:=hr.mono (show 2<=3 by decide)
 refine⟨_,bj (bf (bu (aX (cq A1 hr ai (ac (pv 0) aq)))) (bj (cu B T.cls (T.ok P w base) Mf T.bi rfl T.Mv (pv 1))) fF),?_⟩;refine⟨_,rfl,v,d,rfl,rd,_,rfl,?_⟩;cases e:d with
 | false=>exact cQ ⟨_,rfl,λ e' dx h1 h2 nd=>dM nd (q2 e e' dx h1 h2 nd)⟩
 | true=>exact cE (q1 e)
abbrev DA:Stmt:=cr 53
def yQ (K:Frag)(CF CO:Addr):Sp:=λ vs H Q E=>∃(v:V),vs=[v]/\((Pp K H v "list" /\ bM CF "found" v H E)\/∃ a xs bs,v=.ref a/\H a=some (.lst xs)/\M7 K H xs bs/\(bs.all id=true->∀ H',Ext H H'->Q .ù H')/\∀ i,eH bs i->∀ H',Ext H H'->bM CO "place" (.int (i:Nat)) H' E)
theorem P':ae ["thing","place","outcome"] ["thing"] (aa DA):=aO
theorem Dj {f D CF fC CO a1:Addr}{fd NX d1:FuncData}(N:pY K)(F:ğ K "need_outcomes" "need_outcomes" DA f fd)(B:Į K D)(T:iI K mg D "NoFolk" "found" CF fC NX)(A1:Df P w K mg base (cp P w) 4 "need_outcome" ["thing","place"] (zn K CO) a1 d1)
  (mi:mg "isinstance" = none)(ml:mg "list" = none)(me:mg "enumerate" = none):ß P w K mg base (cp P w) 5 f fd ["thing"] (yQ K CF CO):=by
 refine HE F P' (λ vs H Q E h=>?_) (λ cdv A outer s H vs Q E hr h=>?_)
 ·obtain⟨v,rfl,_⟩:=h;rfl
 obtain⟨v,rfl,h⟩:=h;have nd:=P'.nd;have Mf:=hr.mono (show 2<=4 by decide)
 refine⟨_,cL (bf (bu (aX (ah (dD N) rfl mi Ê (ac (pv 0) (ac (gG rfl ml Ĥ) aq))))) (bj (cu B T.cls (T.ok P w base) Mf T.bi rfl T.Mv (pv 0))) fF)
  (bj (gk Om rfl (i9 rfl me (ac (pv 0) aq)) (cT rfl (gy (dG (i:=1) nd rfl (Or.inl rfl)) (gy (dG (i:=2) nd rfl (Or.inl rfl)) bT)))
   (bj (ax (cq A1 hr cH (ac (pv 2) (ac (pv 1) aq))))))),?_⟩
 rcases h with⟨⟨t,kd,kt⟩,q1⟩ | ⟨a,xs,bs,rfl,ha,⟨ln,ot⟩,qn,qe⟩
 ·exact⟨_,rfl,_,_,_,_,rfl,kd,kt,_,rfl,cQ ⟨_,rfl,λ e' dx h1 h2 nd=>dM nd (q1 e' dx h1 h2 nd)⟩⟩
 refine⟨_,rfl,_,_,_,_,rfl,.inl (.lst ha),rfl,_,rfl,cE ?_⟩;refine⟨_,rfl,a,rfl,⟨_,ó.of ha⟩,nV (xs:=xs) (λ i σ H'=>Ext H H'/\(∀(j:Nat) b,j<i->bs[j]?=some b->b=true)/\∃ o1 o2,σ=[some (.ref a),o1,o2]) ⟨Ext.refl _,λ j d h=>absurd h (Ś _),_,_,rfl⟩ ?_ ?_ ?_⟩
 ·rintro i σ H' _ ⟨x',_⟩;exact ó.of (x' _ _ ha)
 ·rintro i v σ H' k ev ⟨x',good,o1,o2,rfl⟩ hk;have xk:=Ext.new (o:=.tup [.int (i:Nat),v]) hk;obtain⟨d,ed,rv⟩:=ot i v ev;refine⟨k,_,rfl,ĥ.of aR,rfl,_,_,rfl,_,_,rfl,rfl,?_⟩;refine⟨_,rfl,_,rfl,v,d,i,rfl,rv.ext (x'.trans xk),λ o=>?_,λ o=>?_⟩
  ·refine⟨x'.trans xk,λ j d' hj hd=>?_,_,_,rfl⟩;rcases Ĳ j i with lt | ge
   ·exact good j d' lt hd
   ·have e0:j=i:=am;subst e0;rw [ed] at hd;cases hd;exact o
  ·exact qe i ⟨good,by rw [ed,o]⟩ _ (x'.trans xk)
 ·rintro σ H' ⟨x',good,o1,o2,rfl⟩;refine qn ?_ H' x';rw [ě];intro d hd;obtain⟨j,hj,e⟩:=Ĺ hd;exact good j d (by rw [ln];exact hj) (by rw [Â hj,e])
end
def DR (n1:Int)(s1:Bool)(n2:Int)(s2:Bool):Int:=if(s2&&decide (n1>n2))=true then 1 else if(s1&&decide (n2>n1))=true then -1 else 0
section
variable {P:Program}{w:World}{K:Frag}{mg:bv}{base:Heap}
abbrev JF:Stmt:=cr 55
def Hh:Sp:=λ vs H Q _=>∃(a1 a2:Addr)(n1 n2:Int)(s1 s2:Bool),vs=[.ref a1,.ref a2]/\H a1=some (.tup [.int n1,.bl s1])/\H a2=some (.tup [.int n2,.bl s2])/\Q (.bl (s2&&decide (n1>n2))) H
theorem J5:ae ["one","other"] ["one","other"] (aa JF):=aO
theorem Fn {f:Addr}{fd:FuncData}(F:ğ K "surely_greater" "surely_greater" JF f fd):ß P w K mg base ay 1 f fd ["one","other"] Hh:=by
 refine cw F J5 λ cdv A outer s H vs Q E hr h=>?_;obtain⟨a1,a2,n1,n2,s1,s2,rfl,h1,h2,q⟩:=h;refine⟨_,bj (cM (eI (ft oA (pv 1) aB) (fJ (c8 iS (ft oA (pv 0) aB) (ft oA (pv 1) aB) (az _))))),?_⟩;refine⟨_,rfl,a2,_,_,_,rfl,rfl,ĥ.of h2,gS (j:=1) rfl,_,rfl,?_⟩;cases s2 with
 | false=>exact cE q
 | true=>exact cQ ⟨_,rfl,a1,_,_,_,rfl,rfl,ĥ.of h1,gS (j:=0) rfl,_,rfl,a2,_,_,_,rfl,rfl,ĥ.of h2,gS (j:=0) rfl,_,_,rfl,rfl,q⟩
abbrev Jw:Stmt:=cr 56
def nR (K:Frag)(CO:Addr):Sp:=λ vs H Q E=>∃(v1 v2:V)(b1 b2:Bool),vs=[v1,v2]/\Ot K H v1 b1/\Ot K H v2 b2/\(b1=false->bM CO "place" (.int (0:Nat)) H E)/\(b1=true->b2=false->bM CO "place" (.int (1:Nat)) H E) /\
 ∀ a1 a2 n1 n2 s1 s2,v1=.ref a1->v2=.ref a2->H a1=some (.tup [.int n1,.bl s1])->H a2=some (.tup [.int n2,.bl s2])->b1=true->b2=true->Q (.int (DR n1 s1 n2 s2)) H
theorem IL:ae ["one","other"] ["one","other"] (aa Jw):=aO
theorem G7 {f CO a1 a2:Addr}{fd d1 d2:FuncData}(F:ğ K "stands_to" "stands_to" Jw f fd)(A1:Df P w K mg base (cp P w) 4 "need_outcome" ["thing","place"] (zn K CO) a1 d1)(A2:Df P w K mg base ay 1 "surely_greater" ["one","other"] Hh a2 d2):ß P w K mg base (cp P w) 5 f fd ["one","other"] (nR K CO):=by
 refine fK F IL λ cdv A outer s H vs Q E hr h=>?_;obtain⟨v1,v2,b1,b2,rfl,o1,o2,e1,e2,q⟩:=h;have Ħ:ö 1 _:=hr.mono ad;refine⟨_,cL (ax (cq A1 hr cH (ac (pv 0) (ac aB aq)))) (cL (ax (cq A1 hr cH (ac (pv 1) (ac aB aq))))
  (cL (bf (aX (cq A2 Ħ ai (ac (pv 0) (ac (pv 1) aq)))) (bj (cM aB)) fF)
  (cL (bf (aX (cq A2 Ħ ai (ac (pv 1) (ac (pv 0) aq)))) (bj (cM (sK pG aB))) fF)
  (bj (cM aB))))),?_⟩
 refine⟨_,rfl,v1,b1,0,rfl,o1,λ h1=>⟨_,rfl,v2,b2,1,rfl,o2,λ h2=>?_,λ h2=>e2 h1 h2⟩,λ h1=>e1 h1⟩;subst h1 h2;obtain⟨p1,n1,s1,rfl,t1⟩:=o1.two;obtain⟨p2,n2,s2,rfl,t2⟩:=o2.two;have qq:=q p1 p2 n1 n2 s1 s2 rfl rfl t1 t2 rfl rfl;unfold DR at qq;refine⟨_,rfl,_,rfl,p1,p2,n1,n2,s1,s2,rfl,t1,t2,_,rfl,?_⟩;cases g1:s2&&decide (n1>n2) with
 | true=>rw [g1,à rfl] at qq;exact cQ qq
 | false =>
  rw [g1,Ø ad] at qq;refine cE ⟨_,rfl,_,rfl,p2,p1,n2,n1,s2,s1,rfl,t2,t1,_,rfl,?_⟩;cases g2:s1&&decide (n2>n1) with
  | true=>rw [g2,à rfl] at qq;exact cQ ⟨1,rfl,qq⟩
  | false=>rw [g2,Ø ad] at qq;exact cE qq
abbrev Cv:Stmt:=cr 54
def qb (K:Frag)(CF CO:Addr):Sp:=λ vs H Q E=>∃(v:V)(n:Int),vs=[v,.int n]/\((Pp K H v "list" /\ bM CF "found" v H E)\/∃ a xs bs,v=.ref a/\H a=some (.lst xs)/\M7 K H xs bs/\(bs.all id=true->∀ H',Ext H H'->if(xs.length:Int)=n then Q .ù H' else bM CF "found" (.int (xs.length:Nat)) H' E)/\∀ i,eH bs i->∀ H',Ext H H'->bM CO "place" (.int (i:Nat)) H' E)
theorem D9:ae ["thing","folk"] ["thing","folk"] (aa Cv):=aO
theorem Bb {f D CF fC CO a1:Addr}{fd NX d1:FuncData}(F:ğ K "need_outcomes_of" "need_outcomes_of" Cv f fd)(B:Į K D)(T:iI K mg D "NoFolk" "found" CF fC NX)(A1:Df P w K mg base (cp P w) 5 "need_outcomes" ["thing"] (yQ K CF CO) a1 d1)(ml:mg "len" = none):ß P w K mg base (cp P w) 6 f fd ["thing","folk"] (qb K CF CO):=by
 refine HE F D9 (λ vs H Q E h=>?_) (λ cdv A outer s H vs Q E hr h=>?_)
 ·obtain⟨v,n,rfl,_⟩:=h;rfl
 obtain⟨v,n,rfl,h⟩:=h;have Mf:=hr.mono (show 2<=5 by decide)
 refine⟨_,cL (ax (cq A1 hr cH (ac (pv 0) aq)))
  (bj (bf (aA gC (ah aF rfl ml ñ (ac (pv 0) aq)) (pv 1) (az _)) (bj (cu B T.cls (T.ok P w base) Mf T.bi rfl T.Mv (ah aF rfl ml ñ (ac (pv 0) aq)))) fF)),?_⟩
 rcases h with⟨nk,q1⟩ | ⟨a,xs,bs,rfl,ha,ot,qn,qe⟩
 ·exact⟨_,rfl,v,rfl,.inl ⟨nk,q1⟩⟩
 ·refine⟨_,rfl,_,rfl,.inr ⟨a,xs,bs,rfl,ha,ot,λ al H' x'=>?_,qe⟩⟩;have q:=qn al H' x';refine⟨_,rfl,a,xs,rfl,.inl (ó.of (x' _ _ ha)),_,rfl,rfl,_,rfl,?_⟩;by_cases e:(xs.length:Int)=n
  ·rw [à e] at q;rw [Å (by rw [e])]
   exact cE q
  ·rw [Ø e] at q;rw [É (λ z=>e (V.int.inj z))];exact cQ ⟨_,rfl,a,xs,rfl,.inl (ó.of (x' _ _ ha)),λ e' dx h1 h2 nd=>dM nd (q e' dx h1 h2 nd)⟩
abbrev BN:Stmt:=cr 60
def Ks (H:Hp)(v:V)(o:Int × Bool):Prop:=∃ a,v=.ref a/\H a=some (.tup [.int o.1,.bl o.2])
def vi (H:Hp)(xs:List V)(os:List (Int × Bool)):Prop:=xs.length=os.length/\∀(i:Nat) x o,xs[i]?=some x->os[i]?=some o->Ks H x o
def se (CU:Addr):Sp:=λ vs H Q E=>∃ a xs os,vs=[.ref a]/\H a=some (.lst xs)/\vi H xs os/\((os.map (·.2)).all id=true->∀ H',Ext H H'->Q .ù H')/\∀ i,eH (os.map (·.2)) i->∀ H',Ext H H'->bM CU "place" (.int (i:Nat)) H' E
theorem P9:ae ["outcomes","place","outcome"] ["outcomes"] (aa BN):=aO
theorem Aa {f D CU fC:Addr}{fd NX:FuncData}(F:ğ K "need_sure" "need_sure" BN f fd)(B:Į K D)(T:iI K mg D "NotSure" "place" CU fC NX)(me:mg "enumerate" = none):ß P w K mg base (cp P w) 3 f fd ["outcomes"] (se CU):=by
 refine fK F P9 λ cdv A outer s H vs Q E hr h=>?_;obtain⟨a,xs,os,rfl,ha,⟨ln,oc⟩,qn,qe⟩:=h;have nd:=P9.nd;have Mf:=hr;refine⟨_,bj (gk Om rfl (i9 rfl me (ac (pv 0) aq)) (cT rfl (gy (dG (i:=1) nd rfl (Or.inl rfl)) (gy (dG (i:=2) nd rfl (Or.inl rfl)) bT)))
   (bj (bf (bu (aX (ft oA (pv 2) aB))) (bj (cu B T.cls (T.ok P w base) Mf T.bi rfl T.Mv (pv 1))) fF))),?_⟩
 refine⟨_,rfl,a,rfl,⟨_,ó.of ha⟩,nV (xs:=xs) (λ i σ H'=>Ext H H'/\(∀(j:Nat) b,j<i->(os.map (·.2))[j]?=some b->b=true)/\∃ o1 o2,σ=[some (.ref a),o1,o2]) ⟨Ext.refl _,λ j d h=>absurd h (Ś _),_,_,rfl⟩ ?_ ?_ ?_⟩
 ·rintro i σ H' _ ⟨x',_⟩;exact ó.of (x' _ _ ha)
 ·rintro i v σ H' k ev ⟨x',good,o1,o2,rfl⟩ hk;have xk:=Ext.new (o:=.tup [.int (i:Nat),v]) hk;have li:i<os.length:=by rw [<- ln];exact(Ë.mp ev).1
  obtain⟨b,rfl,hb⟩:=oc i v _ ev (Â li);have em:(os.map (·.2))[i]?=some os[i].2:=by rw [Ò,Â li];rfl
  refine⟨k,_,rfl,ĥ.of aR,rfl,_,_,rfl,_,_,rfl,rfl,?_⟩;refine⟨_,rfl,b,_,_,_,rfl,rfl,ĥ.of (xk _ _ (x' _ _ hb)),gS (j:=1) rfl,_,rfl,?_⟩;cases hs:os[i].2 with
  | true =>
   refine cE ⟨x'.trans xk,λ j d' hj hd=>?_,_,_,rfl⟩;rcases Ĳ j i with lt | ge
   ·exact good j d' lt hd
   ·have e0:j=i:=am;subst e0;rw [em,hs] at hd;cases hd;rfl
  | false =>
   refine cQ ⟨_,rfl,λ e' dx h1 h2 nd=>dM nd (qe i ⟨good,by rw [em,hs]⟩ _ (x'.trans xk) e' dx h1 h2 nd)⟩
 ·rintro σ H' ⟨x',good,o1,o2,rfl⟩;refine qn ?_ H' x';rw [ě];intro d hd;obtain⟨j,hj,e⟩:=Ĺ hd;exact good j d (by rw [ln];simpa using hj) (by rw [List.getElem?_eq_getElem hj,e])
end
section
variable {P:Program}{w:World}{K:Frag}{mg:bv}{base:Heap}{C:Nat->Addr}{CR:Addr}
abbrev Ds:Stmt:=aE (cr 37) 0
abbrev BV:Stmt:=aE (cr 37) 1
abbrev zy:Stmt:=aE (cr 37) 2
abbrev zh:Stmt:=aE (cr 37) 4
abbrev DF:Stmt:=aE (cr 37) 5
def fY (v1 v2 v3 v4:V)(fs:List (Str × V)):List (Str × V):=bK "parts" v4 (bK "mark" v3 (bK "first_state" v2 (bK "size" v1 fs)))
def jE (C:Nat->Addr):Sp:=λ vs H Q _=>∃ x v1 v2 v3 v4 i dx fs,vs=[.ref x,v1,v2,v3,v4]/\i<5/\H x=some (.ins (C i) dx fs)/\fs.length<=5/\Q .ù (af H x (.ins (C i) dx (fY v1 v2 v3 v4 fs)))
theorem FL:ae ["self","size","first_state","mark","parts"] ["self","size","first_state","mark","parts"] (aa Ds):=aO
theorem ia (f:Str)(v:V):∀ fs:List (Str × V),(bK f v fs).length<=fs.length+1
 | []=>Ç _
 | (g,x)::r=>by
  have:=ia f v r;show(if g=f then(g,v)::r else(g,x)::bK f v r).length<=_
  split <;> simp only [List.length_cons] <;> omega
theorem CK {f:Addr}{fd:FuncData}(Z:KR K C CR)(F:ğ K "__init__" "Rule.__init__" Ds f fd):ß P w K mg base ay 1 f fd ["self","size","first_state","mark","parts"] (jE C):=by
 refine cw F FL λ cdv A outer s H vs Q E hr h=>?_;obtain⟨x,v1,v2,v3,v4,i,dx,fs,rfl,hi,hx,l5,q⟩:=h;refine⟨_,cL (dq (pv 0) (pv 1) rfl) (cL (dq (pv 0) (pv 2) rfl) (cL (dq (pv 0) (pv 3) rfl) (bj (dq (pv 0) (pv 4) rfl)))),?_⟩;have c:=Z.cls i hi;have n:=Z.no i hi;have k1:=ia "size" v1 fs;have k2:=ia "first_state" v2 (bK "size" v1 fs);have k3:=ia "mark" v3 (bK "first_state" v2 (bK "size" v1 fs));refine⟨_,rfl,_,rfl,x,C i,dx,fs,rfl,hx,c,n _ ao,am,?_⟩;refine⟨_,rfl,_,rfl,x,C i,dx,_,rfl,aR,c,n _ ao,am,?_⟩;rw [fv];refine⟨_,rfl,_,rfl,x,C i,dx,_,rfl,aR,c,n _ ao,am,?_⟩;rw [fv];refine⟨_,rfl,_,rfl,x,C i,dx,_,rfl,aR,c,n _ ao,am,?_⟩;rw [fv];exact q
def lP (C:Nat->Addr):Sp:=λ vs H Q _=>∃ v t,vs=[v]/\Ru C H t v/\Q (.int t.Õ) H
theorem Fl:ae ["self"] ["self"] (aa BV):=aO
theorem Bc {f:Addr}{fd:FuncData}(Z:KR K C CR)(F:ğ K "folk" "Rule.folk" BV f fd):ß P w K mg base ay 1 f fd ["self"] (lP C):=by
 refine cw F Fl λ cdv A outer s H vs Q E hr h=>?_;obtain⟨v,t,rfl,ru,q⟩:=h;obtain⟨a,dx,fs,rfl,ha,h1,_⟩:=ru.ob.ex;exact⟨_,bj (cM (vj (pv 0) rfl)),_,rfl,a,_,dx,fs,_,rfl,ha,Z.cls _ t.ĕ,Z.no _ t.ĕ _ ao,h1,q⟩
def jh (C:Nat->Addr):Sp:=λ vs H Q _=>∃ v t G,vs=[v]/\Ext G H/\Ru C G t v/\∀ b,Ĉ G b t.begin->Q b H
theorem FJ:ae ["self"] ["self"] (aa zy):=aO
theorem AX {f:Addr}{fd:FuncData}(Z:KR K C CR)(F:ğ K "begin" "Rule.begin" zy f fd):ß P w K mg base ay 1 f fd ["self"] (jh C):=by
 refine cw F FJ λ cdv A outer s H vs Q E hr h=>?_;obtain⟨v,t,G,rfl,xG,ru,q⟩:=h;obtain⟨a,dx,fs,rfl,ha,_,⟨b,h2,r2⟩,_⟩:=ru.ob.ex;exact⟨_,bj (cM (vj (pv 0) rfl)),_,rfl,a,_,dx,fs,_,rfl,xG _ _ ha,Z.cls _ t.ĕ,Z.no _ t.ĕ _ ao,h2,q b r2⟩
def jR (C:Nat->Addr):Sp:=λ vs H Q _=>∃ v t G,vs=[v]/\Ext G H/\Ru C G t v/\∀ b,Ĉ G b t.told->Q b H
theorem Ek:ae ["self"] ["self"] (aa zh):=aO
theorem Cy {f:Addr}{fd:FuncData}(Z:KR K C CR)(F:ğ K "told" "Rule.told" zh f fd):ß P w K mg base ay 1 f fd ["self"] (jR C):=by
 refine cw F Ek λ cdv A outer s H vs Q E hr h=>?_;obtain⟨v,t,G,rfl,xG,ru,q⟩:=h;obtain⟨a,dx,fs,rfl,ha,_,_,⟨b,h2,r2⟩,_⟩:=ru.ob.ex;exact⟨_,bj (cM (vj (pv 0) rfl)),_,rfl,a,_,dx,fs,_,rfl,xG _ _ ha,Z.cls _ t.ĕ,Z.no _ t.ĕ _ ao,h2,q b r2⟩
def uF (C:Nat->Addr):Sp:=λ vs H Q _=>∃ v t,vs=[v]/\Ru C H t v/\t.parts.length<=20/\(∀ p∈t.parts,p.length<=20)/\∀(l:Addr)(bs:List Addr)(H':Hp),Ext H H'->H l=none->H' l=some (.lst (bs.map V.ref))->l ∉ bs->(∀ b∈bs,H b=none)->bs.length=t.parts.length->(∀(i:Nat) b p,bs[i]?=some b->t.parts[i]?=some p->H' b=some (.lst (p.map V.int)))->Q (.ref l) H'
theorem Fr:ae ["self"] ["self"] (aa DF):=aO
abbrev Bq:Scope:=eZ [("part",.local),("list",.globalImplicit)]
theorem Fd {X:Cx}:bL X Bq [] ["part"] [] []:=by
 refine⟨rfl,rfl,ao,ao,ao,(λ z c h=>nomatch h),(λ z h=>?_),ao,(λ k z h=>by simp at h),rfl⟩
 exfalso;have h':List.lookup z [((".0" : Str),NameKind.local),(("part" : Str),NameKind.local),(("list" : Str),NameKind.globalImplicit)]=some .cell\/List.lookup z [((".0" : Str),NameKind.local),(("part" : Str),NameKind.local),(("list" : Str),NameKind.globalImplicit)]=some .free:=h;simp only [List.lookup_cons,List.lookup_nil] at h'
 repeat' (split at h')
 all_goals simp at h'
theorem Kf:((["part"]:List Str)++([]:List Str)).Nodup:=ao
def vC (K:Frag):List V->Hp->VK->Prop:=λ xs H Q=>∃ p ys,xs=[.ref p]/\(ó K H p ys\/ĥ K H p ys)/\∀ l,H l=none->Q (.ref l) (af H l (.lst ys))
theorem zk {f:Addr}{fd:FuncData}(Z:KR K C CR)(F:ğ K "blocks" "Rule.blocks" DF f fd)(ml:mg "list" = none):ß P w K mg base ay 1 f fd ["self"] (uF C):=by
 refine cw F Fr λ cdv A outer s H vs Q E hr h=>?_;obtain⟨v,t,rfl,ru,LI,UB,q⟩:=h;obtain⟨a,dx,fs,rfl,ha,_,_,_,⟨b,h2,r2⟩,_⟩:=ru.ob.ex;refine⟨_,bj (cM (dL (te:=iQ (vC K) (ag (ar 0) aG)) (g:=bF 0) rfl Fd (oQ (vj (pv 0) rfl)) (λ s H C fp=>by exact dG (i:=0) Kf rfl (.inl rfl)) (λ s H C fp=>by exact bA lU rfl ml Ĥ (ac (pv 0) aq)))),?_⟩
 obtain⟨p,xs,rfl,hp,rs⟩:=gv r2;have lx:=rs.length;rw [Ä] at lx;refine⟨_,rfl,a,_,dx,fs,_,rfl,ha,Z.cls _ t.ĕ,Z.no _ t.ĕ _ ao,h2,p,rfl,⟨_,ĥ.of hp⟩,λ D hD=>?_⟩;refine pW (a:=p) (xs:=xs) (λ i ys H'=>Ext H H'/\∃ bs:List Addr,ys=bs.map V.ref/\D ∉ bs/\(∀ b∈bs,H b=none)/\∀(j:Nat) b q,bs[j]?=some b->t.parts[j]?=some q->H' b=some (.lst (q.map V.int))) (by rw [Ö];omega) ⟨Ext.new hD,[],rfl,by simp,by simp,by simp⟩ (λ i ys H' pv=>ĥ.of (pv.1 _ _ hp)) ?_ ?_
 ·rintro i x ys H' ex ly ĩ ⟨x',bs,rfl,nD,fr,ct⟩ os ŋ R k;obtain⟨o0,rfl⟩:∃ o0,os=[o0]:=by
   match os,ŋ with
   | [o0],_=>exact⟨o0,rfl⟩
  have hi:i<t.parts.length:=by have:=(Ë.mp ex).1;omega
  obtain⟨c,rfl,hc⟩:=jw rs ex (Â hi);refine⟨⟨[some (.ref c)],rfl,rfl⟩,_,rfl,c,_,rfl,.inr (ĥ.of (x' _ _ hc)),λ m hm=>?_⟩;have x2:=Ext.new (o:=.lst ((t.parts[i]).map V.int)) hm;have nm:m≠D:=λ e=>by rw [e,ĩ] at hm;cases hm
  have OZ:H m=none:=by
   cases e:H m with
   | none=>rfl
   | some o=>rw [x' _ _ e] at hm;cases hm
  have LF:=x2 _ _ ĩ;have lb:bs.length=i:=by rw [Ä] at ly;exact ly
  refine k _ _ LF ⟨bz _ (x'.trans x2) hD,bs ++ [m],by rw [Ï];rfl,?_,λ b hb=>?_,λ j b q hb hq=>?_⟩
  ·intro VH;rcases Ġ.mp VH with h | h
   ·exact nD h
   ·exact nm (Ô.mp h).symm
  ·rcases Ġ.mp hb with h | h
   ·exact fr b h
   ·rw [Ô.mp h];exact OZ
  ·rcases Ĳ j bs.length with lt | ge
   ·rw [ð lt] at hb;have nb:b≠D:=λ e=>nD (e ▸ ê hb);rw [au nb];exact x2 _ _ (ct j b q hb hq)
   ·rw [å ge] at hb;have j0:j=bs.length:=by
     rcases Ĳ (j-bs.length) 1 with z | z
     ·omega
     ·rw [t_ (by simpa using z)] at hb;cases hb
    subst j0;rw [g_] at hb;cases hb;rw [lb,Â hi] at hq;cases hq;rw [au nm];exact aR
 ·rintro ys H' ly ĩ ⟨x',bs,rfl,nD,fr,ct⟩;rw [Ä] at ly;exact q D bs H' x' hD ĩ nD fr am ct
end
theorem c5 {f g:Str}{v:V}{fs:List (Str × V)}:(bK f v fs).lookup g=if g=f then some v else fs.lookup g:=gj f g v fs
section
variable {v1 v2 v3 v4:V}{fs:List (Str × V)}
theorem rK:(fY v1 v2 v3 v4 fs).lookup ("size" : Str)=some v1:=by
 unfold fY;rw [c5,Ø ao,c5,Ø ao,c5,Ø ao,c5,à rfl]
theorem tR:(fY v1 v2 v3 v4 fs).lookup ("first_state" : Str)=some v2:=by
 unfold fY;rw [c5,Ø ao,c5,Ø ao,c5,à rfl]
theorem rJ:(fY v1 v2 v3 v4 fs).lookup ("mark" : Str)=some v3:=by
 unfold fY;rw [c5,Ø ao,c5,à rfl]
theorem pJ:(fY v1 v2 v3 v4 fs).lookup ("parts" : Str)=some v4:=by
 unfold fY;rw [c5,à rfl]
theorem dk {g:Str}(h:g ≠ "size" /\ g ≠ "first_state" /\ g ≠ "mark" /\ g ≠ "parts"):(fY v1 v2 v3 v4 fs).lookup g=fs.lookup g:=by
 unfold fY;rw [c5,Ø h.2.2.2,c5,Ø h.2.2.1,c5,Ø h.2.1,c5,Ø h.1]
theorem uN {g:Str}(h:g∈iA):g ≠ "size" /\ g ≠ "first_state" /\ g ≠ "mark" /\ g ≠ "parts" := by
 have:∀ g∈iA,g ≠ "size" /\ g ≠ "first_state" /\ g ≠ "mark" /\ g ≠ "parts" := ao;exact this g h
theorem Dk {g:Str}{ns:List Str}(h:g∈iA)(hn:∀ n∈fs.map (·.1),n∈fO):fs.lookup g=none:=by
 have nf:∀ g∈iA,∀ n∈fO,g≠n:=ao;cases e:fs.lookup g with
 | none=>rfl
 | some v =>
  exfalso;have:∀(l:List (Str × V)),l.lookup g=some v->g∈l.map (·.1):=by
   intro l
   induction l with
   | nil=>intro h;cases h
   | cons y l ih =>
    intro h;obtain⟨k,x⟩:=y;rw [è] at h;cases e:g==k with
    | true=>rw [ā.mp e];exact î ..
    | false=>rw [e] at h;exact ã _ (ih h)
  exact nf g h g (hn g (this fs e)) rfl
theorem hV {Cl a dx:Addr}{H:Hp}{fk:Int}{bg tl pt:PyData}{X:List (Str × V)->Prop}(ha:H a=some (.ins Cl dx (fY (.int fk) v2 v3 v4 fs)))(r2:Ĉ H v2 bg)(r3:Ĉ H v3 tl)(r4:Ĉ H v4 pt)(hn:∀ n∈fs.map (·.1),n∈fO)(hx:X (fY (.int fk) v2 v3 v4 fs)):Ob Cl H (.ref a) fk bg tl pt X :=
 ⟨a,dx,_,rfl,ha,rK,⟨_,tR,r2⟩,⟨_,rJ,r3⟩,⟨_,pJ,r4⟩,λ m hm=>by rw [dk (uN hm)];exact Dk (ns:=[]) hm hn,hx⟩
end
section
variable {P:Program}{w:World}{K:Frag}{mg:bv}{base:Heap}{C:Nat->Addr}{CR CN CS:Addr}
abbrev zH:Stmt:=aE (cr 38) 0
abbrev zZ:Stmt:=aE (cr 39) 0
abbrev zq:Stmt:=aE (cr 40) 0
def kS (C:Nat->Addr)(CN:Addr):Sp:=λ vs H Q E=>∃ x u1 u2 d1 d2 dx,vs=[.ref x,u1,u2]/\H x=some (.ins (C 0) dx [])/\Ĉ H u1 d1/\Ĉ H u2 d2/\(jf 1 20 d1=false->bM CN "found" u1 H E)/\(∀ n,d1=.int n->1<=n->n<=20->jf 0 n d2=false->bM CN "found" u2 H E) /\
 ∀ n k,d1=.int n->d2=.int k->(R0.split n k).ok->∀ H',Kept H H' x->G_ C H' (.split n k) (.ref x)->Q .ù H'
theorem GH:ae ["self","folk","ones"] ["self","folk","ones"] (aa zH):=aO
variable {S g a1 a2 a3:Addr}{gd d1 d2 d3:FuncData}{t:Tok}
theorem z7 {f:Addr}{fd:FuncData}(F:ğ K "__init__" "Split.__init__" zH f fd)(Cf:eL K S "__init__" g)(G:ß P w K mg base ay 1 g gd ["self","size","first_state","mark","parts"] (jE C))(bG:Binds K gd ["self","size","first_state","mark","parts"] [])(mS:mg "Rule" = some (.ref S))
  (A1:Df P w K mg base (cp P w) 3 "need_number" ["thing","low","high"] (vd CN) a1 d1)(A2:Df P w K mg base ay 1 "one_part" ["folk"] vU a2 d2)(mF:mg "MOST_FOLK" = some (.int 20 t)):ß P w K mg base (cp P w) 4 f fd ["self","folk","ones"] (kS C CN):=by
 refine fK F GH λ cdv A outer s H vs Q E hr h=>?_;obtain⟨x,u1,u2,e1,e2,dx,rfl,hx,r1,r2,q1,q2,q⟩:=h;have Ħ:ö 1 _:=hr.mono ad;refine⟨_,cL (ax (cq A1 hr cH (ac (pv 1) (ac aB (ac (aI (v:=.int 20) rfl mF ⟨_,rfl⟩) aq))))) (cL (ax (cq A1 hr cH (ac (pv 2) (ac aB (ac (pv 1) aq)))))
  (bj (ax (bS Cf G Ħ rfl mS bG .nil ai (ac (pv 0) (ac (pv 1) (ac (pv 2) (ac (aU (ac av (ac (pv 1) (ac (pv 2) aq)))) (ac (cq A2 Ħ ai (ac (pv 1) aq)) aq))))))))),?_⟩
 refine⟨_,rfl,u1,e1,1,20,rfl,r1,λ h1=>?_,λ h1=>q1 h1⟩;obtain⟨n,rfl,n1,M9⟩:=fB h1;cases r1;refine⟨_,rfl,_,rfl,u2,e2,0,n,rfl,r2,λ h2=>?_,λ h2=>q2 n rfl n1 M9 h2⟩;obtain⟨k,rfl,k0,kn⟩:=fB h2;cases r2;refine⟨_,rfl,_,rfl,_,rfl,_,rfl,_,rfl,dA,λ m hm=>⟨_,rfl,n,rfl,am,M9,λ l H2 x2 rl=>?_⟩⟩;have xm:=Ext.new (o:=.tup [.str "split",.int n,.int k]) hm;have ν:=xm.trans x2;have QW:=x2 _ _ (show af H m (.tup [.str "split",.int n,.int k]) m=_ from aR);have Nl:=ν _ _ hx;refine⟨x,_,_,_,_,0,dx,[],rfl,ad,Nl,ad,q n k rfl rfl ⟨n1,M9,k0,kn⟩ _ ((ν.kept x).trans (bh _)) ?_⟩;have kk:Kept H2 (af H2 x (.ins (C 0) dx (fY (.int n) (.int k) (.ref m) (.ref l) []))) x:=bh _;exact hV aR (.int _) ((Ĉ.tup QW (.cons (.str _) (.cons (.int _) (.cons (.int _) .nil)))).kept Nl kk) (rl.kept Nl kk) (by simp) trivial
def mP (C:Nat->Addr)(CN CS:Addr):Sp:=λ vs H Q E=>∃ x u1 u2 d1 d2 dx,vs=[.ref x,u1,u2]/\H x=some (.ins (C 1) dx [])/\Ĉ H u1 d1/\Ĉ H u2 d2/\(jf 1 10 d1=false->bM CN "found" u1 H E)/\(jf 1 10 d1=true->dO d2=false->bM CS "found" u2 H E) /\
 ∀ n a b,d1=.int n->d2=.tuple [.int a,.int b]->(R0.pairs n a b).ok->∀ H',Kept H H' x->G_ C H' (.pairs n a b) (.ref x)->Q .ù H'
theorem E9:ae ["self","pairs","coin"] ["self","pairs","coin"] (aa zZ):=aO
theorem jF {d:PyData}(h:dO d=true):∃ a b,d=.tuple [.int a,.int b]:=by
 match d,h with
 | .tuple [.int a,.int b],_=>exact⟨a,b,rfl⟩
theorem A6 {f:Addr}{fd:FuncData}(Z:KR K C CR)(F:ğ K "__init__" "Pairs.__init__" zZ f fd)(Cf:eL K S "__init__" g)(G:ß P w K mg base ay 1 g gd ["self","size","first_state","mark","parts"] (jE C))(bG:Binds K gd ["self","size","first_state","mark","parts"] [])(mS:mg "Rule" = some (.ref S))
  (A1:Df P w K mg base (cp P w) 3 "need_number" ["thing","low","high"] (vd CN) a1 d1)(A2:Df P w K mg base ay 1 "one_part" ["folk"] vU a2 d2)(A3:Df P w K mg base (cp P w) 5 "need_coin" ["thing"] (BG CS) a3 d3)(mF:mg "MOST_PAIRS" = some (.int 10 t)):ß P w K mg base (cp P w) 6 f fd ["self","pairs","coin"] (mP C CN CS):=by
 refine fK F E9 λ cdv A outer s H vs Q E hr h=>?_;obtain⟨x,u1,u2,e1,e2,dx,rfl,hx,r1,r2,q1,q2,q⟩:=h;have Ħ:ö 1 _:=hr.mono ad;have Mz:ö 3 _:=hr.mono ad;refine⟨_,cL (ax (cq A1 Mz cH (ac (pv 1) (ac aB (ac (aI (v:=.int 10) rfl mF ⟨_,rfl⟩) aq))))) (cL (ax (cq A3 hr cH (ac (pv 2) aq))) (cL (dq (pv 0) (pv 2) rfl)
  (bj (ax (bS Cf G Ħ rfl mS bG .nil ai (ac (pv 0) (ac (aC f7 aB (pv 1)) (ac bQ (ac (aU (ac av (ac (pv 1) (ac (pv 2) aq)))) (ac (cq A2 Ħ ai (ac (aC f7 aB (pv 1)) aq)) aq)))))))))),?_⟩
 refine⟨_,rfl,u1,e1,1,10,rfl,r1,λ h1=>?_,λ h1=>q1 h1⟩;refine⟨_,rfl,u2,e2,rfl,r2,λ h2=>?_,λ h2=>q2 h1 h2⟩;obtain⟨n,rfl,n1,n10⟩:=fB h1;obtain⟨a,b,rfl⟩:=jF h2;cases r1;refine⟨_,rfl,_,rfl,x,C 1,dx,[],rfl,hx,Z.cls 1 ad,Z.no 1 ad _ ao,ad,?_⟩;have k1:Kept H (af H x (.ins (C 1) dx (bK "coin" u2 []))) x:=bh _;have RW:=r2.kept hx k1;have E_:af H x (.ins (C 1) dx (bK "coin" u2 [])) x=some (.ins (C 1) dx [("coin",u2)]):=aR;generalize af H x (.ins (C 1) dx (bK "coin" u2 []))=H1 at k1 RW E_ ⊢;have cm:δ 2 n:=.inl ⟨ad,ad⟩;refine⟨_,rfl,_,rfl,_,_,rfl,rfl,cm,_,rfl,_,rfl,dA,λ m hm=>⟨_,rfl,_,_,rfl,rfl,cm,2*n,rfl,am,am,λ l H2 x2 rl=>?_⟩⟩;have xm:=Ext.new (o:=.tup [.str "pairs",.int n,u2]) hm;have ν:=xm.trans x2;have QW:=x2 _ _ (show af H1 m (.tup [.str "pairs",.int n,u2]) m=_ from aR);have Nl:=ν _ _ E_;have RU:=RW.mono ν;refine⟨x,_,_,_,_,1,dx,[("coin",u2)],rfl,ad,Nl,(by show 1<=5;decide),q n a b rfl rfl ⟨n1,n10,h2⟩ _ ((k1.trans (ν.kept x)).trans (bh _)) ?_⟩
 have kk:Kept H2 (af H2 x (.ins (C 1) dx (fY (.int (2*n)) .ù (.ref m) (.ref l) [("coin",u2)]))) x:=bh _;refine hV aR .ù ((Ĉ.tup QW (.cons (.str _) (.cons (.int _) (.cons RU .nil)))).kept Nl kk) (rl.kept Nl kk) (λ n hn=>?_) ⟨u2,?_,RU.kept Nl kk⟩
 ·have e:n = "coin" := by simpa using hn
  rw [e]
  decide +kernel
 ·rw [dk ao];rfl
def mZ (C:Nat->Addr)(CN CS:Addr):Sp:=λ vs H Q E=>∃ x u1 u2 u3 d1 d2 d3 dx,vs=[.ref x,u1,u2,u3]/\H x=some (.ins (C 2) dx [])/\Ĉ H u1 d1/\Ĉ H u2 d2/\Ĉ H u3 d3/\(jf 1 20 d1=false->bM CN "found" u1 H E)/\(jf 1 20 d1=true->dO d2=false->bM CS "found" u2 H E)/\(jf 1 20 d1=true->dO d2=true->jf 1 20 d3=false->bM CN "found" u3 H E) /\
 ∀ n a b f,d1=.int n->d2=.tuple [.int a,.int b]->d3=.int f->(R0.ř n a b f).ok->∀ H',Kept H H' x->G_ C H' (.ř n a b f) (.ref x)->Q .ù H'
theorem EN:ae ["self","folk","coin","far"] ["self","folk","coin","far"] (aa zq):=aO
theorem Do {f:Addr}{fd:FuncData}{t2:Tok}(Z:KR K C CR)(F:ğ K "__init__" "Coins.__init__" zq f fd)(Cf:eL K S "__init__" g)(G:ß P w K mg base ay 1 g gd ["self","size","first_state","mark","parts"] (jE C))(bG:Binds K gd ["self","size","first_state","mark","parts"] [])(mS:mg "Rule" = some (.ref S))
  (A1:Df P w K mg base (cp P w) 3 "need_number" ["thing","low","high"] (vd CN) a1 d1)(A2:Df P w K mg base ay 1 "one_part" ["folk"] vU a2 d2)(A3:Df P w K mg base (cp P w) 5 "need_coin" ["thing"] (BG CS) a3 d3)(mF:mg "MOST_FOLK" = some (.int 20 t))(mR:mg "MOST_FAR" = some (.int 20 t2)):ß P w K mg base (cp P w) 6 f fd ["self","folk","coin","far"] (mZ C CN CS):=by
 refine fK F EN λ cdv A outer s H vs Q E hr h=>?_;obtain⟨x,u1,u2,u3,e1,e2,e3,dx,rfl,hx,r1,r2,r3,q1,q2,q3,q⟩:=h;have Ħ:ö 1 _:=hr.mono ad;have Mz:ö 3 _:=hr.mono ad;refine⟨_,cL (ax (cq A1 Mz cH (ac (pv 1) (ac aB (ac (aI (v:=.int 20) rfl mF ⟨_,rfl⟩) aq))))) (cL (ax (cq A3 hr cH (ac (pv 2) aq))) (cL (ax (cq A1 Mz cH (ac (pv 3) (ac aB (ac (aI (v:=.int 20) rfl mR ⟨_,rfl⟩) aq)))))
  (cL (dq (pv 0) (pv 2) rfl) (cL (dq (pv 0) (pv 3) rfl)
  (bj (ax (bS Cf G Ħ rfl mS bG .nil ai (ac (pv 0) (ac (pv 1) (ac aB (ac (aU (ac av (ac (pv 1) (ac (pv 2) (ac (pv 3) aq))))) (ac (cq A2 Ħ ai (ac (pv 1) aq)) aq)))))))))))),?_⟩
 refine⟨_,rfl,u1,e1,1,20,rfl,r1,λ h1=>?_,λ h1=>q1 h1⟩;refine⟨_,rfl,u2,e2,rfl,r2,λ h2=>?_,λ h2=>q2 h1 h2⟩;refine⟨_,rfl,u3,e3,1,20,rfl,r3,λ h3=>?_,λ h3=>q3 h1 h2 h3⟩;obtain⟨n,rfl,n1,M9⟩:=fB h1;obtain⟨a,b,rfl⟩:=jF h2;obtain⟨k,rfl,Ss,k20⟩:=fB h3;cases r1;cases r3;refine⟨_,rfl,_,rfl,x,C 2,dx,[],rfl,hx,Z.cls 2 ad,Z.no 2 ad _ ao,ad,?_⟩;have k1:Kept H (af H x (.ins (C 2) dx (bK "coin" u2 []))) x:=bh _;have RW:=r2.kept hx k1;have E_:af H x (.ins (C 2) dx (bK "coin" u2 [])) x=some (.ins (C 2) dx [("coin",u2)]):=aR;generalize af H x (.ins (C 2) dx (bK "coin" u2 []))=H1 at k1 RW E_ ⊢;refine⟨_,rfl,_,rfl,x,C 2,dx,[("coin",u2)],rfl,E_,Z.cls 2 ad,Z.no 2 ad _ ao,(by show 1<1000;decide),?_⟩
 have ef:bK "far" (.int k) [(("coin" : Str),u2)]=[(("coin" : Str),u2),(("far" : Str),.int k)]:=by
  show(if("coin" : Str) = "far" then _ else _)=_
  rw [Ø ao];rfl
 rw [ef];have kf:Kept H1 (af H1 x (.ins (C 2) dx [("coin",u2),("far",.int k)])) x:=bh _;have RV:=RW.kept E_ kf;have Sy:af H1 x (.ins (C 2) dx [("coin",u2),("far",.int k)]) x=some (.ins (C 2) dx [("coin",u2),("far",.int k)]):=aR;generalize af H1 x (.ins (C 2) dx [("coin",u2),("far",.int k)])=Wf at kf RV Sy ⊢;refine⟨_,rfl,_,rfl,_,rfl,_,rfl,_,rfl,dA,λ m hm=>⟨_,rfl,n,rfl,am,M9,λ l H2 x2 rl=>?_⟩⟩;have xm:=Ext.new (o:=.tup [.str "coins",.int n,u2,.int k]) hm;have ν:=xm.trans x2;have QW:=x2 _ _ (show af Wf m (.tup [.str "coins",.int n,u2,.int k]) m=_ from aR);have Nl:=ν _ _ Sy;have RU:=RV.mono ν;refine⟨x,_,_,_,_,2,dx,[("coin",u2),("far",.int k)],rfl,ad,Nl,(by show 2<=5;decide),q n a b k rfl rfl rfl ⟨n1,M9,h2,Ss,k20⟩ _ (((k1.trans kf).trans (ν.kept x)).trans (bh _)) ?_⟩
 have kk:Kept H2 (af H2 x (.ins (C 2) dx (fY (.int n) (.int 0) (.ref m) (.ref l) [("coin",u2),("far",.int k)]))) x:=bh _;refine hV aR (.int _) ((Ĉ.tup QW (.cons (.str _) (.cons (.int _) (.cons RU (.cons (.int _) .nil))))).kept Nl kk) (rl.kept Nl kk) (λ n hn=>?_) ⟨⟨u2,?_,RU.kept Nl kk⟩,?_⟩
 ·have e:n = "coin" \/ n = "far" := by simpa using hn
  rcases e with e | e <;> rw [e] <;> decide +kernel
 ·rw [dk ao];rfl
 ·rw [dk ao];rfl
end
theorem yr {H:Hp}{p:Addr}{o:HO}:Ext (wo H p) (wo (af H p o) p):=λ b u e=>by
 have n:=hW e;exact bc n (by rw [au n];exact ak H p _ _ e)
theorem Ext.kp {G H H':Hp}{x:Addr}(e:Ext G H)(n:G x=none)(k:Kept H H' x):Ext G H':=λ b o h=>k b o (e b o h) λ z=>by rw [z,n] at h;cases h
section
variable {X:Cx}
def yd:List V->Hp->VK->Prop:=λ vs H Q=>∃ i j:Int,vs=[.int i,.int j]/\∀ r,H r=none->Q (.ref r) (af H r (.Mb i j))
theorem kK:cP X (.type "range") yd:=by
 intro Ã s σ H xs us Q I r h;obtain⟨i,j,rfl,q⟩:=h;obtain⟨u,v,rfl,⟨t,rfl⟩,t',rfl⟩:=hZ r;refine call_range_2 ⟨.ref s.heap.objs.size,_,I.laid (t':=s.toks+1) (o:=.Mb i j) (λ b o e=>Á _ e) (Ç _) ?_,rfl,q _ (I.Ć.fresh (Ç _))⟩;exact⟨_,_,_,Í _ rfl⟩
end
section
variable {X:Cx}{Ã:List (Addr × Obj)}{σ:St}{H:Hp}{s:Shared}{A:Around}{Q:cy}{E:cy}{b:Bool}{tp:Addr}{dd:Option Addr}{its:List Value}{n:Nat}{sl:Array (Option Value)}
theorem jy {x:V}{u t:Value}(I:Inv X Ã σ H s)(rx:RelV x u)(ty:ņ X.K H x t)(NU:s.heap.get? tp=some ⟨.type "tuple",dd,.seq its.toArray n,sl⟩)(e:PySem.W.kitAny X.K t its=some b)(h:∀ tk,Q (.bool b) { s with toks:=tk }) :
  wpAny (model X.prog X.w) A (call (.builtin "isinstance") [u,.ref tp]) Q E s:=by
 cases ty with
 | ù=>cases (show u=Value.none from rx);exact č PySem.W.kitx_none I.Ń True.intro NU e (λ z=>nomatch z) h
 | bl y=>cases (show u=Value.bool y from rx);exact č PySem.W.kitx_bool I.Ń True.intro NU e (λ z=>nomatch z) h
 | int i=>obtain⟨t,q⟩:=(show ∃ t,u=Value.int i t from rx);cases q;exact č PySem.W.kitx_int I.Ń True.intro NU e (λ z=>nomatch z) h
 | str y=>obtain⟨t,q⟩:=(show ∃ t,u=Value.str y t from rx);cases q;exact č PySem.W.kitx_str I.Ń True.intro NU e (λ z=>nomatch z) h
 | Pn y=>obtain⟨t,q⟩:=(show ∃ t,u=Value.float y t from rx);cases q;exact č PySem.W.kitx_float I.Ń True.intro NU e (λ z=>nomatch z) h
 | @lst a xs ea =>
  cases (show u=Value.ref a from rx);obtain⟨_,_,n,_,h1⟩:=(show Ā X.prog X.w H s.heap a (.lst xs) from I.Ć a _ ea);exact č ζ I.Ń ⟨_,h1,rfl⟩ NU e (λ z=>nomatch z) h
 | @MP a ob xs ea =>
  cases (show u=Value.ref a from rx);obtain⟨_,_,_,n,_,h1⟩:=(show Ā X.prog X.w H s.heap a (.MP ob (.lst xs)) from I.Ć a _ ea);exact č ζ I.Ń ⟨_,h1,rfl⟩ NU e (λ z=>nomatch z) h
 | @tup a xs ea =>
  cases (show u=Value.ref a from rx);obtain⟨_,_,_,p⟩:=(show Ā X.prog X.w H s.heap a (.tup xs) from I.Ć a _ ea);obtain⟨o,h1,h2,_⟩:=p;exact č PySem.W.kitx_tuple I.Ń ⟨o,h1,h2⟩ NU e (λ z=>nomatch z) h
 | @dK a kvs ea =>
  cases (show u=Value.ref a from rx);obtain⟨_,_,vs,_,p⟩:=(show Ā X.prog X.w H s.heap a (.dK kvs) from I.Ć a _ ea);obtain⟨o,es,ep,h1,h2,_⟩:=p;exact č η I.Ń ⟨o,h1,h2.1⟩ NU e (λ z=>nomatch z) h
 | @dT a kvs ea =>
  cases (show u=Value.ref a from rx);obtain⟨_,_,xs,_,o,es,ep,h1,h2,_⟩:=(show Ā X.prog X.w H s.heap a (.dT kvs) from I.Ć a _ ea);exact č η I.Ń ⟨o,h1,h2.1⟩ NU e (λ z=>nomatch z) h
 | @ins a C dx fs ea cl ha hn MM hm =>
  cases (show u=Value.ref a from rx);obtain⟨mA,O,_⟩:=gZ I.Ć ea;obtain⟨od,J,_⟩:=O.look;exact č (PySem.W.kitx_own (cl.get _) cl.hd ha hn MM hm) I.Ń J NU e (λ z=>nomatch z) h
end
section
variable {X:Cx}
def GZ (K:Frag):List V->Hp->VK->Prop:=λ vs H Q=>∃(x:V)(p:Addr)(cs:List Addr)(t:Value)(b:Bool),vs=[x,.ref p]/\ņ K H x t/\H p=some (.tup (cs.map V.ref))/\kitAny K t (cs.map Value.ref)=some b/\Q (.bl b) H
theorem ko:cP X (.builtin "isinstance") (GZ X.K):=by
 intro Ã s σ H xs us Q I r h;obtain⟨x,p,cs,t,b,rfl,ty,hp,e,q⟩:=h;obtain⟨u,u',rfl,ru,NP⟩:=hZ r;cases (show u'=Value.ref p from NP);obtain⟨_,its,rv,⟨o,h1,h2,n,h3⟩⟩:=(show Ā X.prog X.w H s.heap p (.tup (cs.map V.ref)) from I.Ć p _ hp);have ei:=kL rv;subst ei;obtain⟨c0,d0,V_,sl0⟩:=o;have V0:c0=.type "tuple" := h2;have VX:V_=.seq (cs.map Value.ref).toArray n:=h3;subst V0;subst VX;exact jy I ru ty h1 e λ tk=>⟨.bl b,H,I.tok _,rfl,q⟩
end
def N3 (K:Frag)(C:Nat->Addr)(H:Hp)(v:V)(b:Bool):Prop:=∃ t,ņ K H v t/\kitAny K t [.ref (C 0),.ref (C 1),.ref (C 2)]=some b
theorem N3.ext {K:Frag}{C:Nat->Addr}{H H':Hp}{v:V}{b:Bool}(h:N3 K C H v b)(x:Ext H H'):N3 K C H' v b:=by
 obtain⟨t,k,e⟩:=h;exact⟨t,My.ņ.ext k x,e⟩
theorem xL {K:Frag}{t a b c:Value}{x y z:Bool}(h1:kitOne K t a=some x)(h2:kitOne K t b=some y)(h3:kitOne K t c=some z):kitAny K t [a,b,c]=some (x||(y||z)):=by
 cases x <;> cases y <;> cases z <;> simp [kitAny,h1,h2,h3]
theorem Ob.ty {K:Frag}{C:Nat->Addr}{CR:Addr}{H:Hp}{i:Nat}{v:V}{fk:Int}{bg tl pt:PyData}{X:List (Str × V)->Prop}(Z:KR K C CR)(hi:i<5)(h:Ob (C i) H v fk bg tl pt X):ņ K H v (.ref (C i)):=by
 obtain⟨a,dx,fs,rfl,ha,_⟩:=h.ex;exact .ins ha (Z.cls i hi) (Z.ha i hi) Z.hn Z.MM (Z.hm i hi)
theorem tw {K:Frag}{C:Nat->Addr}{CR:Addr}{H:Hp}{t:Rl}{v:V}(Z:KR K C CR)(h:Ru C H t v):N3 K C H v (t.kind==0||(t.kind==1||t.kind==2)) :=
 ⟨_,h.ob.ty Z t.ĕ,xL (Z.kk _ 0 t.ĕ ad) (Z.kk _ 1 t.ĕ ad) (Z.kk _ 2 t.ĕ ad)⟩
theorem Ke {J:It}{tt:TT}{cap:St}{D:Addr}{H1:Hp}{Q:Hp->Prop}{xs:List V}(p:V->Bool)(hz:xs.length<sizeLine)(hD:H1 D=none)(go:∀ i H,Ext H1 H->i<xs.length->J.go i H)(st:∀ H,Ext H1 H->J.stop xs.length H)(yl:∀ i H x H',Ext H1 H->J.L_ i H x H'->H'=H/\xs[i]?=some x)
  (hs:∀(i:Nat) x H,xs[i]?=some x->Ext H1 H->∀ R:Bool->Hp->Prop,(∀ H',Ext H H'->R (p x) H')->tt (some x::cap) H R)(hd:∀ H,Ext H1 H->H D=some (.lst (xs.filter p))->Q H) :
  ∃ W:Nat->Nat->List V->Hp->Prop,(∃ m,W 0 m [] (af H1 D (.lst []))) /\
   ∀ i m ys H2,W i m ys H2->H2 D=some (.lst ys)/\((J.stop i H2/\Q H2)\/(J.go i H2/\ys.length<sizeLine /\
    ∀ x H3,J.L_ i H2 x H3->∀ os:St,os.length=1->bF 0 x (os++cap) H3 λ İ H0=>(∃ ŀ:St,ŀ.length=1/\İ = ŀ ++ cap)/\tt İ H0 λ b H5=>(b=false->∃ m',m'<m/\W (i+1) m' ys H5) /\
     (b=true->ar 0 İ H5 λ y H4=>H4 D=some (.lst ys)/\∃ m',m'<m/\W (i+1) m' (ys ++ [y]) (af H4 D (.lst (ys ++ [y])))))):=by
 refine⟨λ i m ys H=>m=xs.length-i/\i<=xs.length/\H D=some (.lst ys)/\ys=(xs.take i).filter p/\Ext H1 H,⟨xs.length,by simp,Nat.zero_le _,aR,rfl,Ext.new hD⟩,?_⟩
 rintro i m ys H ⟨rfl,hi,MO,rfl,x1⟩;refine⟨MO,?_⟩;by_cases ſ:i<xs.length
 ·refine .inr ⟨go i H x1 ſ,?_,λ x H' hyl os ŋ=>?_⟩
  ·have:=Ĭ p (xs.take i);rw [Đ] at this;omega
  obtain⟨rfl,hx⟩:=yl i H x H' x1 hyl;obtain⟨o0,rfl⟩:∃ o0,os=[o0]:=by
   match os,ŋ with
   | [o0],_=>exact⟨o0,rfl⟩
  refine⟨⟨[some x],rfl,rfl⟩,hs i x H' hx x1 _ λ H5 x5=>⟨λ e=>?_,λ e=>?_⟩⟩
  ·refine⟨xs.length-(i+1),am,rfl,ſ,x5 _ _ MO,?_,x1.trans x5⟩;rw [aQ hx,ī,ļ (by rw [e];decide),q_,ă]
  ·refine⟨x,rfl,x5 _ _ MO,xs.length-(i+1),am,rfl,ſ,aR,?_,bz _ (x1.trans x5) hD⟩;rw [aQ hx,ī,Ļ e,q_]
 ·have e:i=xs.length:=am;subst e;refine .inl ⟨st H x1,hd H x1 ?_⟩;rw [ä] at MO;exact MO
theorem eJ (p:Int->Bool)(pv:V->Bool)(h:∀ i,pv (.int i)=p i):∀ ns:List Int,(ns.map V.int).filter pv=(ns.filter p).map V.int
 | []=>rfl
 | n::ns=>by
  rw [ô];cases e:p n with
  | true=>rw [Ļ (by rw [h];exact e),Ļ e,eJ p pv h ns];rfl
  | false=>rw [ļ (by rw [h,e];decide),ļ (by rw [e];decide),eJ p pv h ns]
theorem Ñ.filter {G:Hp}{α:Type}{f:α->PyData}{p:α->Bool}{pv:V->Bool}:∀{ys:List V}{qs:List α},Ñ G ys (qs.map f)->(∀(i:Nat) y q,ys[i]?=some y->qs[i]?=some q->pv y=p q)->Ñ G (ys.filter pv) ((qs.filter p).map f)
 | [],[],_,_=>.nil
 | [],_::_,h,_=>by cases h
 | _::_,[],h,_=>by cases h
 | y::ys,q::qs,h,k=>by
  cases h with
  | cons r t =>
   have e0:=k 0 y q rfl rfl;have ih:=Ñ.filter t λ i y' q' a b=>k (i+1) y' q' a b;cases e:p q with
   | true=>rw [Ļ (by rw [e0];exact e),Ļ e];exact .cons r ih
   | false=>rw [ļ (by rw [e0,e];decide),ļ (by rw [e];decide)];exact ih
def Sm (ps:List (List Int)):Prop:=ps.length<=20/\∀ p∈ps,p.length<=20
theorem fh:∀(ns:List Int)(s:Int),(cK s ns).length=ns.length
 | [],_=>rfl
 | n::ns,s=>by show(cK (s+n) ns).length+1=_;rw [fh ns];rfl
theorem jJ:∀(ns:List Int)(s:Int),(∀ n∈ns,n<=20)->∀ p∈cK s ns,p.length<=20
 | [],_,_,_,h=>by cases h
 | n::ns,s,hn,p,h=>by
  rcases ç.mp h with rfl | h
  ·have:=hn n (î ..);unfold dR;simp only [List.length_map,List.length_range];omega
  ·exact jJ ns _ (λ m hm=>hn m (ã _ hm)) p h
theorem Sm.cut {ps:List (List Int)}(m:Int)(h:Sm ps):Sm (gi m ps):=by
 unfold gi;refine⟨é (Ĭ _ _) (by rw [Ä];exact h.1),λ p hp=>?_⟩
 obtain⟨q,hq,rfl⟩:=ć.mp (NK.mp hp).1;exact é (Ĭ _ _) (h.2 q hq)
theorem Rl.sm:∀{t:Rl},t.ok->Sm t.parts
 | .one r,h=>by
  have:=R0.Ĝ h;refine⟨by show 1<=20;decide,λ p hp=>?_⟩
  rw [Ô.mp hp];unfold dR;simp only [List.length_map,List.length_range];omega
 | .blocks rs,h=>by
  obtain⟨h1,h6,ok,WM⟩:=h;refine⟨by show(cK 0 (rs.map R0.Õ)).length<=20;rw [fh,Ä];omega,jJ _ _ λ n hn=>?_⟩
  obtain⟨r,hr,rfl⟩:=ć.mp hn;exact(R0.Ĝ (ok r hr)).2
 | .first t m,h=>(Rl.sm h.1).cut m
theorem jo (n:Int):∀(ns:List Int)(s:Int),cK s (ns ++ [n])=cK s ns ++ [dR (s+ns.sum) n.toNat]
 | [],s=>by simp [cK]
 | m::ns,s=>by
  show dR s m.toNat::cK (s+m) (ns ++ [n])=_;rw [jo n ns (s+m),L7,Int.add_assoc];rfl
structure Ms (P:Program)(w:World)(K:Frag)(mg:bv)(base:Heap)(C:Nat->Addr):Prop where
 Õ:cg P w K mg base ay 1 "folk" ["self"] (rO C) (λ _=>lP C)
 begin:cg P w K mg base ay 1 "begin" ["self"] (rO C) (λ _=>jh C)
 told:cg P w K mg base ay 1 "told" ["self"] (rO C) (λ _=>jR C)
 blocks:cg P w K mg base ay 1 "blocks" ["self"] (rO C) (λ _=>uF C)
section
variable {P:Program}{w:World}{K:Frag}{mg:bv}{base:Heap}{C:Nat->Addr}{CR:Addr}
abbrev Ab:Stmt:=cr 41
def tF (K:Frag)(C:Nat->Addr):Sp:=λ vs H Q _=>∃ v b,vs=[v]/\N3 K C H v b/\∀ H',Ext H H'->Q (.bl b) H'
theorem Ep:ae ["thing"] ["thing"] (aa Ab):=aO
theorem CC {f:Addr}{fd:FuncData}(F:ğ K "may_be_block" "may_be_block" Ab f fd)(m0:mg "Split" = some (.ref (C 0)))(m1:mg "Pairs" = some (.ref (C 1)))(m2:mg "Coins" = some (.ref (C 2)))(mi:mg "isinstance" = none):ß P w K mg base ay 1 f fd ["thing"] (tF K C):=by
 refine cw F Ep λ cdv A outer s H vs Q E hr h=>?_;obtain⟨v,b,rfl,bk,q⟩:=h;refine⟨_,bj (cM (ah ko rfl mi Ê (ac (pv 0) (ac (aU (ac (aI (v:=.ref (C 0)) rfl m0 rfl) (ac (aI (v:=.ref (C 1)) rfl m1 rfl) (ac (aI (v:=.ref (C 2)) rfl m2 rfl) aq)))) aq)))),?_⟩;refine⟨_,rfl,dA,λ p hp=>?_⟩;have x1:=Ext.new (o:=.tup [.ref (C 0),.ref (C 1),.ref (C 2)]) hp;obtain⟨t,ty,ka⟩:=bk.ext x1;exact⟨v,p,[C 0,C 1,C 2],t,b,rfl,ty,aR,ka,q _ x1⟩
abbrev J8:Stmt:=cr 42
def oB (K:Frag)(C:Nat->Addr)(H:Hp)(xs:List V)(bs:List Bool):Prop:=xs.length=bs.length/\∀(i:Nat) x b,xs[i]?=some x->bs[i]?=some b->N3 K C H x b
def DY (n:Nat)(bs:List Bool):Bool:=(decide (1<=n)&&decide (n<=6))&&bs.all id
def Gp (K:Frag)(C:Nat->Addr):Sp:=λ vs H Q _=>∃ v,vs=[v]/\((Pp K H v "list" /\ ∀ H',Ext H H'->Q (.bl false) H')\/∃ a xs bs,v=.ref a/\H a=some (.lst xs)/\xs.length<1000/\oB K C H xs bs/\∀ H',Ext H H'->Q (.bl (DY xs.length bs)) H')
theorem Ir:ae ["thing"] ["thing"] (aa J8):=aO
abbrev Et:Scope:=eZ [("rule",.local),("may_be_block",.globalImplicit)]
theorem AU {X:Cx}:bL X Et [] ["rule"] [] []:=by
 refine⟨rfl,rfl,ao,ao,ao,(λ z c h=>nomatch h),(λ z h=>?_),ao,(λ k z h=>by simp at h),rfl⟩
 exfalso;have h':List.lookup z [((".0" : Str),NameKind.local),(("rule" : Str),NameKind.local),(("may_be_block" : Str),NameKind.globalImplicit)]=some .cell\/List.lookup z [((".0" : Str),NameKind.local),(("rule" : Str),NameKind.local),(("may_be_block" : Str),NameKind.globalImplicit)]=some .free:=h;simp only [List.lookup_cons,List.lookup_nil] at h'
 repeat' (split at h')
 all_goals simp at h'
theorem Ca:((["rule"]:List Str)++([]:List Str)).Nodup:=ao
theorem FN {f a1 a2:Addr}{fd d1 d2:FuncData}{t:Tok}(N:pY K)(F:ğ K "are_block_rules" "are_block_rules" J8 f fd)(A1:Df P w K mg base ay 1 "may_be_block" ["thing"] (tF K C) a1 d1)(A2:Df P w K mg base ay 2 "is_whole" ["thing","low","high"] (eS K) a2 d2)(mR:mg "MOST_RULES" = some (.int 6 t))
  (mi:mg "isinstance" = none)(ml:mg "list" = none)(mn:mg "len" = none)(ma:mg "all" = none):ß P w K mg base ay 3 f fd ["thing"] (Gp K C):=by
 refine cw F Ir λ cdv A outer s H vs Q E hr h=>?_;obtain⟨v,rfl,h⟩:=h;have Ħ:ö 1 _:=hr.mono ad;refine⟨_,cL (bf (PW.pt (fV (bu (aX (ah (dD N) rfl mi Ê (ac (pv 0) (ac (gG rfl ml Ĥ) aq))))) (dH (bu (aX (cq A2 hr ai (ac (ah aF rfl mn ñ (ac (pv 0) aq)) (ac aB (ac (aI (v:=.int 6) rfl mR ⟨_,rfl⟩) aq))))))))) (bj (cM gR)) fF)
  (bj (cM (ah (nq rfl) rfl ma PyProof.Rows.boot_all (ac (dL (te:=gE (tF K C) [] E0 (ag (ar 0) aG)) (g:=bF 0) rfl AU (bC (pv 0)) (λ s H C fp=>by exact dG (i:=0) Ca rfl (.inl rfl)) (λ s H C fp=>by exact cq A1 Ħ ai (ac (pv 0) aq))) aq)))),?_⟩
 rcases h with⟨⟨t,kd,kt⟩,q⟩ | ⟨a,xs,bs,rfl,ha,Sr,⟨lb,bk⟩,q⟩
 ·exact⟨_,rfl,_,_,_,_,rfl,kd,kt,_,rfl,cQ (cQ (q H (Ext.refl _)))⟩
 refine⟨_,rfl,_,_,_,_,rfl,.inl (.lst ha),rfl,_,rfl,cE ?_⟩;refine⟨_,rfl,a,xs,rfl,.inl (ó.of ha),_,1,6,rfl,.inl ⟨_,rfl⟩,_,rfl,?_⟩;have ei:LJ 1 6 (.int (xs.length:Nat))=(decide (1<=xs.length)&&decide (xs.length<=6)):=by
  show(decide ((1:Int)<=(xs.length:Nat))&&decide (((xs.length:Nat):Int)<=6))=_
  congr 1 <;> exact Na.mpr am
 rw [ei];unfold DY at q;cases e:decide (1<=xs.length)&&decide (xs.length<=6) with
 | false =>
  rw [e,Ν] at q;exact cQ (q H (Ext.refl _))
 | true =>
  rw [e,ĵ] at q;refine cE ⟨_,rfl,a,rfl,⟨_,ó.of ha⟩,λ D hD=>?_⟩;refine cI (a:=a) (xs:=xs) (λ i ys H'=>Ext H H'/\ys=(bs.take i).map V.bl) (by rw [Ö];omega) ⟨Ext.new hD,rfl⟩ (λ i ys H' pv=>ó.of (pv.1 _ _ ha)) ?_ ?_
  ·rintro i x ys H' ex ly ĩ ⟨x',rfl⟩ os ŋ R k;obtain⟨o0,rfl⟩:∃ o0,os=[o0]:=by
    match os,ŋ with
    | [o0],_=>exact⟨o0,rfl⟩
   have hi:i<bs.length:=by have:=(Ë.mp ex).1;omega
   refine⟨⟨[some x],rfl,rfl⟩,_,rfl,x,_,rfl,(bk i x _ ex (Â hi)).ext x',λ H4 x4=>k _ H4 (x4 _ _ ĩ) ⟨bz _ (x'.trans x4) hD,?_⟩⟩;rw [aQ (Â hi),Ï];rfl
  ·rintro ys H' ly ĩ ⟨x',rfl⟩;rw [lb,ä] at ĩ;exact⟨D,bs,rfl,ó.of ĩ,q H' x'⟩
abbrev IE:Stmt:=cr 34
def En (C:Nat->Addr):Sp:=λ vs H Q _=>∃(a:Addr)(xs:List V)(rs:List R0),vs=[.ref a]/\H a=some (.lst xs)/\ρ C H rs xs/\rs.length<=6/\(∀ r∈rs,r.ok)/\∀ l H',Ext H H'->Ĉ H' (.ref l) (fA (cK 0 (rs.map R0.Õ)))->Q (.ref l) H'
abbrev Ld:List Str:=["rules","parts","start","rule","behind"]
theorem RK:ae Ld ["rules"] (aa IE):=aO
theorem sZ {ns:List Int}{i:Nat}{n:Int}(h:ns[i]?=some n):(ns.take (i+1)).sum=(ns.take i).sum+n:=by
 rw [aQ h,ł];simp
theorem pE {rs:List R0}(h6:rs.length<=6)(ok:∀ r∈rs,r.ok):∀ i,0<=(((rs.take i).map R0.Õ).sum)/\((rs.take i).map R0.Õ).sum<=120:=by
 have gen:∀(l:List R0),(∀ r∈l,r.ok)->0<=(l.map R0.Õ).sum/\(l.map R0.Õ).sum<=20*(l.length:Int):=by
  intro l
  induction l with
  | nil=>intro _;simp
  | cons r l ih =>
   intro h;have h1:=R0.Ĝ (h r (î ..));have h2:=ih λ x hx=>h x (ã _ hx);simp only [List.map_cons,List.sum_cons,List.length_cons];omega
 intro i;have:=gen (rs.take i) λ r hr=>ok r (Ź hr);have l:(rs.take i).length<=6:=by rw [Đ];omega
 omega
theorem FG {f:Addr}{fd:FuncData}(F:ğ K "parts_of" "parts_of" IE f fd)(M:Ms P w K mg base C)(mt:mg "tuple" = none)(mr:mg "range" = none):ß P w K mg base ay 2 f fd ["rules"] (En C):=by
 refine cw F RK λ cdv A outer s H vs Q E hr h=>?_;obtain⟨a,xs,rs,rfl,ha,al,l6,ok,q⟩:=h;have nd:=RK.nd;refine⟨_,cL (mq (i:=1) nd rfl (Or.inl rfl) (aY aq)) (cL (mq (i:=2) nd rfl (Or.inl rfl) aB)
  (cL (gk ĸ rfl (bC (pv 0)) (dG (i:=3) nd rfl (Or.inl rfl)) (cL (mq (i:=4) nd rfl (Or.inl rfl) (aC cj (pv 2) (bN (pv 3) M.Õ hr ai)))
   (cL (ax (jV ď ο ξ du (pv 1) (ac (bA (kB rfl) rfl mt í (ac (bA kK rfl mr υ (ac (pv 2) (ac (pv 4) aq))) aq)) aq)))
   (bj (mq (i:=2) nd rfl (Or.inl rfl) (pv 4))))))
  (bj (cM (bA bR rfl mt í (ac (pv 1) aq)))))),?_⟩
 refine⟨dA,λ p hp=>?_⟩;have x1:=Ext.new (o:=.lst []) hp;have f1:af H p (.lst []) p=some (.lst []):=aR;generalize af H p (.lst [])=H1 at x1 f1 ⊢;have ap:a≠p:=λ e=>by rw [<- e,ha] at hp;cases hp
 refine⟨_,rfl,a,rfl,⟨_,ó.of (x1 _ _ ha)⟩,ig (xs:=xs) (λ i σ H'=>Ext H H'/\(∃ qs,H' p=some (.lst qs)/\Ñ (wo H' p) qs ((cK 0 ((rs.take i).map R0.Õ)).map lO))/\∃ o3 o4,σ=[some (.ref a),some (.ref p),some (.int ((rs.take i).map R0.Õ).sum),o3,o4]) ⟨x1,⟨[],f1,.nil⟩,_,_,rfl⟩ ?_ ?_ ?_⟩
 ·rintro i σ H' _ ⟨x',_⟩;exact ó.of (x' _ _ ha)
 ·rintro i v σ H' ev ⟨x',⟨qs,hq,rq⟩,o3,o4,rfl⟩;have hi:i<rs.length:=by have:=(Ë.mp ev).1;rw [al.1];exact this
  have er:=Â hi;have ru:=(al.2 i _ v er ev).ext x';have em:(rs.map R0.Õ)[i]?=some rs[i].Õ:=by rw [Ò,er];rfl
  have st:((rs.take (i+1)).map R0.Õ).sum=((rs.take i).map R0.Õ).sum+rs[i].Õ:=by
   rw [List.map_take,List.map_take];exact sZ em
  have b1:=pE l6 ok i;have b2:=R0.Ĝ (ok _ (đ hi));have lq:qs.length<=6:=by
   have:=rq.length;rw [Ä] at this;have sl:∀(ns:List Int)(s:Int),(cK s ns).length=ns.length:=by
    intro ns
    induction ns with
    | nil=>intro s;rfl
    | cons n ns ih=>intro s;show(cK (s+n) ns).length+1=_;rw [ih];rfl
   rw [sl,Ä,Đ] at this;omega
  refine⟨_,rfl,cF (t:=.one rs[i]) ao ru (λ R r=>⟨_,rfl,r⟩) ⟨v,.one rs[i],rfl,ru,_,_,rfl,rfl,?_⟩⟩;refine⟨_,rfl,.inl ⟨rfl,_,ó.of hq⟩,_,rfl,_,rfl,_,_,rfl,λ r hr=>⟨r,_,_,rfl,aR,⟨by show -(2^62)<=_;omega,am,by show -(2^62)<=_+R0.Õ _;omega,by show _+R0.Õ _<_;omega⟩,by show(_+R0.Õ _-_).toNat<=_;omega,λ l hl=>?_⟩⟩
  have xr:=Ext.new (o:=.Mb ((rs.take i).map R0.Õ).sum (((rs.take i).map R0.Õ).sum+rs[i].Õ)) hr;have ed:(((rs.take i).map R0.Õ).sum+rs[i].Õ - ((rs.take i).map R0.Õ).sum).toNat=rs[i].Õ.toNat:=by congr 1;omega
  have ed':(((rs.take i).map R0.Õ).sum+(Rl.one rs[i]).Õ - ((rs.take i).map R0.Õ).sum).toNat=rs[i].Õ.toNat:=ed;rw [ed',oU];have VJ:af H' r (.Mb ((rs.take i).map R0.Õ).sum (((rs.take i).map R0.Õ).sum+rs[i].Õ)) l=none:=hl;have xl:=Ext.new (o:=.tup ((dR ((rs.take i).map R0.Õ).sum rs[i].Õ.toNat).map V.int)) VJ;have x2:=xr.trans xl;have Oa:=x2 _ _ hq;have np:l≠p:=λ e=>by rw [e,xr _ _ hq] at VJ;cases VJ
  have Oc:af (af H' r (.Mb ((rs.take i).map R0.Õ).sum (((rs.take i).map R0.Õ).sum+rs[i].Õ))) l (.tup ((dR ((rs.take i).map R0.Õ).sum rs[i].Õ.toNat).map V.int)) l=some (.tup ((dR ((rs.take i).map R0.Õ).sum rs[i].Õ.toNat).map V.int)):=aR;refine⟨p,qs,.ref l,rfl,rfl,Oa,by rw [Ö];omega,?_⟩
  show cV (ar 4) (bF 2) _ [some (.ref a),some (.ref p),some (.int ((rs.take i).map R0.Õ).sum),some v,some (.int (((rs.take i).map R0.Õ).sum+rs[i].Õ))] (af (af (af H' r (.Mb ((rs.take i).map R0.Õ).sum (((rs.take i).map R0.Õ).sum+rs[i].Õ))) l (.tup ((dR ((rs.take i).map R0.Õ).sum rs[i].Õ.toNat).map V.int))) p (.lst (qs ++ [.ref l])));generalize af (af H' r (.Mb ((rs.take i).map R0.Õ).sum (((rs.take i).map R0.Õ).sum+rs[i].Õ))) l (.tup ((dR ((rs.take i).map R0.Õ).sum rs[i].Õ.toNat).map V.int))=H2 at x2 Oa Oc ⊢;refine⟨_,rfl,bz _ (x'.trans x2) hp,⟨_,aR,?_⟩,_,_,by rw [st];rfl⟩
  have e1:(cK 0 ((rs.take (i+1)).map R0.Õ)).map lO=(cK 0 ((rs.take i).map R0.Õ)).map lO ++ [lO (dR ((rs.take i).map R0.Õ).sum rs[i].Õ.toNat)]:=by
   rw [aQ er,Ï,ô,MU,jo,Ï,j'];rfl
  rw [e1];refine((Ñ.mono (aL x2 p) rq).append (.cons (.tup (bc np Oc) (fc _ _)) .nil) |> Ñ.mono yr)
 ·rintro σ H' ⟨x',⟨qs,hq,rq⟩,o3,o4,rfl⟩;have lr:xs.length=rs.length:=al.1.symm;rw [lr,ä] at rq;refine⟨_,rfl,p,qs,rfl,.inl ⟨ó.of hq,λ l hl=>?_⟩⟩;have xl:=Ext.new (o:=.tup qs) hl;exact q l _ (x'.trans xl) (.tup aR (Ñ.mono ((ak H' p).trans xl) rq))
end
section
variable {prog:Program}{w:World}{A:Around}{E:cy}{s:Shared}
theorem pV {it t:Addr}{i:Nat} {items}{x:Value}{Q:cy}(hit:s.heap.IsTupleIter it t i)(ht:s.heap.IsTuple t items)(hx:items[i]?=some x)
  (hQ:∀ h',h'.IsTupleIter it t (i+1)->Heap.SameBut it s.heap h'->Q x { s with heap:=h' }):wpAny (model prog w) A (Builtin.SmallTypes.nextOf (.ref it)) Q E s:=by
 obtain⟨⟨o,ho,hc,hd⟩,⟨ol,VA,_,nl,VV⟩⟩:=And.intro (id hit) ht;unfold Builtin.SmallTypes.nextOf;refine À (ē (name:=Str.ofString "__next__") hit.typeIs Ŗ (į Ŗ hit.typeIs F.entry_tuple_iterator_next ?_ (QC _)));show wpAny _ _ (field (.ref it) 0>>=_) _ _ s;refine À (ì ho hd (x:=.ref t) rfl ?_);show wpAny _ _ (if(Value.ref t==Value.none)=true then _ else _) _ _ s;rw [Ø (show ¬ ((Value.ref t==Value.none)=true) from Ó)]
 show wpAny _ _ (field (.ref it) 1>>=_) _ _ s;refine À (ì ho hd (x:=.int i 0) rfl ?_);show wpAny _ _ (seqItems? (.ref t)>>=_) _ _ s;refine À (Ċ VA VV ?_);simp only [Int.toNat_natCast,hx];refine À (ς ho hd (by simp) (wpAny_pure ⟨x,rfl,wpAny_pure (hQ _ ⟨_,Heap.get?_update_self _ ho (Obj.isFreed_of_fields (Obj.data_mapFields hd _)),(Obj.cls_mapFields ..).trans hc,?_⟩ (Heap.SameBut.update ..))⟩))
 rw [NI hd];simp [rawInt]
theorem vc {it t:Addr}{i:Nat} {items}{Q:cy}(hh:A.handled=none)(hit:s.heap.IsTupleIter it t i)(ht:s.heap.IsTuple t items)(hx:items[i]?=none)
  (hE:∀ h' e,Heap.ExtBut it s.heap h'->(∃ o,h'.get? e=some o/\o.cls=.type "StopIteration")->E (.ref e) { s with heap:=h' }):wpAny (model prog w) A (Builtin.SmallTypes.nextOf (.ref it)) Q E s:=by
 obtain⟨⟨o,ho,hc,hd⟩,⟨ol,VA,_,nl,VV⟩⟩:=And.intro (id hit) ht;unfold Builtin.SmallTypes.nextOf;refine À (ē (name:=Str.ofString "__next__") hit.typeIs Ŗ (į Ŗ hit.typeIs F.entry_tuple_iterator_next ?_ (QC _)));show wpAny _ _ (field (.ref it) 0>>=_) _ _ s;refine À (ì ho hd (x:=.ref t) rfl ?_);show wpAny _ _ (if(Value.ref t==Value.none)=true then _ else _) _ _ s;rw [Ø (show ¬ ((Value.ref t==Value.none)=true) from Ó)]
 show wpAny _ _ (field (.ref it) 1>>=_) _ _ s;refine À (ì ho hd (x:=.int i 0) rfl ?_);show wpAny _ _ (seqItems? (.ref t)>>=_) _ _ s;refine À (Ċ VA VV ?_);simp only [Int.toNat_natCast,hx];refine À (LK (À (ς ho hd (by simp) ?_)));show wpAny _ _ (newExc (.type "StopIteration") []>>=_) _ _ _
 refine À ?_;simp only [newExc,newTuple];refine À (ý ?_ (by size_fits))
 refine À (m:=firstArgMember _ _) (wpAny_of_eq (a:=Value.none) (by first | rfl | (simp only [firstArgMember];rfl)) (ý ?_ (by size_fits)))
 simp only [raiseNew];refine À (wpAny_handled ?_)
 first | rw [show A.in1.handled=none from hh] | rw [hh]
 exact À (Æ (wpAny_throw (hE _ _ (((Heap.SameBut.update ..).extBut.push _).push _) ⟨_,Í _ rfl,rfl⟩)))
abbrev jX (h:Heap)(z TI TO:Addr)(f0 f1:Value):Prop:=h.get? z=some { cls:=.type "zip",dict:=none,data:=.fields #[f0,f1,.bool false,.ref TI,.ref TO],slots:=#[] }
def KC (f0:Value):Prop:=f0=.none\/∃ a:Int,f0=rawInt a
theorem xo {a:Addr}{Q:Option Obj->Shared->Prop}(h:Q (s.heap.get? a) s):wpAny (model prog w) A (loadIfAlive a) Q E s:=λ _ _ _=>by
 unfold loadIfAlive;rw [Sem.wp_loadIfAlive];exact h
theorem ql {z TI TO:Addr}{f0:Value}{b:Bool}{Q:Bool->Shared->Prop}(hz:jX s.heap z TI TO f0 (.bool b))(ow:KC f0)(h1:Q true s)
  (h2:∀ h',jX h' z TI TO f0 (.bool true)->Heap.SameBut z s.heap h'->Q false { s with heap:=h' }):wpAny (model prog w) A (Builtin.SmallTypes.ownedTupleIsFree (.ref z)) Q E s:=by
 unfold Builtin.SmallTypes.ownedTupleIsFree;refine À (ì hz rfl (x:=f0) rfl ?_);rcases ow with rfl | ⟨a,rfl⟩
 ·exact Æ h1
 ·show wpAny _ _ (loadIfAlive a.toNat>>=_) _ _ s;refine À (xo ?_);cases s.heap.get? a.toNat with
  | none=>exact Æ h1
  | some o =>
   show wpAny _ _ (field (.ref z) 1>>=_) _ _ s;refine À (ì hz rfl (x:=.bool b) rfl ?_);cases b with
   | true =>
    refine Æ ?_;have e:=h2 s.heap hz ⟨rfl,λ _ _=>rfl⟩;exact e
   | false =>
    show wpAny _ _ (setField (.ref z) 1 (.bool true)>>=_) _ _ s;exact À (ĉ hz (by simp) λ h' Rn OW=>wpAny_pure (h2 h' Rn OW))
structure wz (z TI TO i1 i2 l1 l2:Addr):Prop where
 a1:TI≠z
 a2:TO≠z
 a3:i1≠z
 a4:i2≠z
 a5:TI≠TO
 a6:TI≠i1
 a7:TI≠i2
 a8:TO≠i1
 a9:TO≠i2
 b1:i1≠i2
 b2:l1≠z
 b3:l1≠TO
 b4:l1≠i1
 b5:l1≠i2
 b6:l2≠z
 b7:l2≠TO
 b8:l2≠i1
 b9:l2≠i2
structure M' (h:Heap)(z TI TO i1 i2 l1 l2:Addr)(k:Nat):Prop where
 zo:∃ f0 b,jX h z TI TO f0 (.bool b)/\KC f0
 ti:IsPair h TI (.ref i1) (.ref i2)
 to:∃ a b,IsPair h TO a b
 j1:h.IsListIter i1 l1 k
 j2:h.IsTupleIter i2 l2 k
def iW (h h':Heap)(z TO i1 i2:Addr):Prop:=∀ c o,c≠z->c≠TO->c≠i1->c≠i2->h.get? c=some o->h'.get? c=some o
theorem vz {z TI TO i1 i2 l1 l2:Addr}{k:Nat}{xs ys:Array Value}{x y:Value}{Q:cy}(D:wz z TI TO i1 i2 l1 l2)(hz:M' s.heap z TI TO i1 i2 l1 l2 k)(g1:s.heap.IsList l1 xs)(g2:s.heap.IsTuple l2 ys)(hx:xs[k]?=some x)(hy:ys[k]?=some y)
  (hQ:∀ h',M' h' z TI TO i1 i2 l1 l2 (k+1)->IsPair h' s.heap.objs.size x y->h'.objs.size=s.heap.objs.size+1->iW s.heap h' z TO i1 i2->Q (.ref s.heap.objs.size) { s with heap:=h' }) :
  wpAny (model prog w) A (Builtin.«zip.__next__» ⟨[.ref z],[]⟩) (λ fin s'=>∃ v,fin=.done (.ret v)/\Q v s') E s:=by
 obtain⟨⟨f0,b,zo,ow⟩,ti,⟨ta,tb,to⟩,j1,j2⟩:=hz;show wpAny _ _ (field (.ref z) 2>>=_) _ _ _;refine À (ì zo rfl (x:=.bool false) rfl ?_);show wpAny _ _ (field (.ref z) 3>>=_) _ _ _;refine À (ì zo rfl (x:=.ref TI) rfl (À (Ċ ti rfl ?_)));show wpAny _ _ (Builtin.SmallTypes.ownedTupleIsFree (.ref z)>>=_) _ _ _;refine À (ql zo ow ?_ λ h1 Ou s1=>?_)
 ·simp only [if_true];refine À (LK (À (ì zo rfl (x:=.ref TO) rfl (À (ĉ zo (by simp) λ h1 Ou s1=>?_)))))
  have Ou:jX h1 z TI TO .ellipsis (.bool b):=Ou;have PL:=j1.extBut s1.extBut D.a3;have QO:=j2.extBut s1.extBut D.a4;have PY:=g1.extBut s1.extBut D.b2;have Q7:=g2.extBut s1.extBut D.b6;have Ui:IsPair h1 TO ta tb:=s1.extBut _ _ D.a2 to;refine À ?_;simp only [List.zipIdx_cons,List.zipIdx_nil,List.forIn_cons,List.forIn_nil];refine À (À (s_ ?_));show wpAny _ _ (Builtin.SmallTypes.nextOf (.ref i1)>>=_) _ _ _;refine À (Ŷ PL PY hx λ h2 Su s2=>Æ ?_);have s2:Heap.SameBut i1 h1 h2:=s2;have to2:IsPair h2 TO ta tb:=s2.extBut _ _ D.a8 Ui;refine À (Ċ to2 rfl (À (MQ to2 λ h3 to3 s3=>À (wpAny_letGo (Æ ?_)))));have s3:Heap.SameBut TO h2 h3:=s3;have to3:IsPair h3 TO x tb:=to3;have QN:=(QO.extBut s2.extBut D.b1.symm).extBut s3.extBut D.a9.symm;have Q6:=(Q7.extBut s2.extBut D.b8).extBut s3.extBut D.b7;refine À (À (s_ ?_));show wpAny _ _ (Builtin.SmallTypes.nextOf (.ref i2)>>=_) _ _ _;refine À (pV QN Q6 hy λ h4 Vj s4=>Æ ?_);have s4:Heap.SameBut i2 h3 h4:=s4;have WG:IsPair h4 TO x tb:=s4.extBut _ _ D.a9 to3;refine À (Ċ WG rfl (À (MQ WG λ h5 Tj s5=>À (wpAny_letGo (Æ (Æ ?_))))));have s5:Heap.SameBut TO h4 h5:=s5;have Tj:IsPair h5 TO x y:=Tj;have sz:h5.objs.size=s.heap.objs.size:=by rw [s5.1,s4.1,s3.1,s2.1,s1.1]
  have up:iW s.heap h5 z TO i1 i2:=λ c o c1 c2 c3 c4 e=>s5.extBut _ _ c2 (s4.extBut _ _ c4 (s3.extBut _ _ c2 (s2.extBut _ _ c3 (s1.extBut _ _ c1 e))));have Wj:jX h5 z TI TO .ellipsis (.bool b):=s5.extBut _ _ D.a2.symm (s4.extBut _ _ D.a4.symm (s3.extBut _ _ D.a2.symm (s2.extBut _ _ D.a3.symm Ou)));have j1c:=((Su.extBut s3.extBut D.a8.symm).extBut s4.extBut D.b1).extBut s5.extBut D.a8.symm;have j2d:=Vj.extBut s5.extBut D.a9.symm;refine À (Ċ Tj rfl (À (wpAny_newTuple ?_)));show wpAny _ _ (Builtin.SmallTypes.ownedTupleHandOut (.ref z) (.ref h5.objs.size)>>=_) _ _ _;have Yc:jX (h5.push { cls:=.type "tuple",data:=.seq #[x,y] }) z TI TO .ellipsis (.bool b):=Á _ Wj;refine À ?_;unfold Builtin.SmallTypes.ownedTupleHandOut;refine À (ĉ Yc (by simp) λ h7 T3 s7=>?_)
  have T3:jX h7 z TI TO (rawInt h5.objs.size) (.bool b):=T3;refine ĉ T3 (by simp) λ h8 TZ s8=>wpAny_pure ⟨_,rfl,?_⟩
  have TZ:jX h8 z TI TO (rawInt h5.objs.size) (.bool false):=TZ;have RC:∀ c o,c≠z->h5.get? c=some o->h8.get? c=some o:=λ c o c1 e=>s8.extBut _ _ c1 (s7.extBut _ _ c1 (Á _ e));show Q (.ref h5.objs.size) _;have nz:s.heap.objs.size≠z:=by rw [<- sz];exact ť (È Wj)
  rw [sz];refine hQ _ ⟨⟨_,false,TZ,.inr ⟨_,rfl⟩⟩,RC _ _ D.a1 (up _ _ D.a1 D.a5 D.a6 D.a7 ti),⟨x,y,RC _ _ D.a2 Tj⟩,j1c.at λ o e=>RC _ o D.a3 e,j2d.at λ o e=>RC _ o D.a4 e⟩ ?_ (by rw [s8.1,s7.1,ë,sz]) λ c o c1 c2 c3 c4 e=>RC c o c1 (up c o c1 c2 c3 c4 e)
  exact s8.extBut _ _ nz (s7.extBut _ _ nz (by rw [<- sz];exact Í _ rfl))
 ·simp only [Bool.false_eq_true,if_false];have PL:=j1.extBut s1.extBut D.a3;have QO:=j2.extBut s1.extBut D.a4;have PY:=g1.extBut s1.extBut D.b2;have Q7:=g2.extBut s1.extBut D.b6;refine À ?_;rw [<- Array.forIn_toList];simp only [List.forIn_cons,List.forIn_nil];refine À (À (þ ?_));show wpAny _ _ (Builtin.SmallTypes.nextOf (.ref i1)>>=_) _ _ _;refine À (Ŷ PL PY hx λ h2 Su s2=>Æ (Æ ?_));have QN:=QO.extBut s2.extBut D.b1.symm;have Q6:=Q7.extBut s2.extBut D.b8;refine À (À (þ ?_));show wpAny _ _ (Builtin.SmallTypes.nextOf (.ref i2)>>=_) _ _ _;refine À (pV QN Q6 hy λ h3 Vj s3=>Æ (Æ (Æ ?_)));show wpAny _ _ (newTuple [x,y]>>=_) _ _ _;have s2:Heap.SameBut i1 h1 h2:=s2;have s3:Heap.SameBut i2 h2 h3:=s3;have sz:h3.objs.size=s.heap.objs.size:=by rw [s3.1,s2.1,s1.1]
  have up:iW s.heap h3 z TO i1 i2:=λ c o c1 c2 c3 c4 e=>s3.extBut _ _ c4 (s2.extBut _ _ c3 (s1.extBut _ _ c1 e));refine À (wpAny_newTuple (Æ ⟨_,rfl,?_⟩));show Q (.ref h3.objs.size) _;rw [sz];refine hQ _ ⟨⟨f0,true,Á _ (s3.extBut _ _ D.a4.symm (s2.extBut _ _ D.a3.symm Ou)),ow⟩,Á _ (up _ _ D.a1 D.a5 D.a6 D.a7 ti),⟨ta,tb,Á _ (s3.extBut _ _ D.a9 (s2.extBut _ _ D.a8 (s1.extBut _ _ D.a2 to)))⟩,(Su.extBut s3.extBut D.b1).at λ o e=>Á _ e,Vj.at λ o e=>Á _ e⟩ ?_ (by rw [ë,sz]) λ c o c1 c2 c3 c4 e=>Á _ (up c o c1 c2 c3 c4 e)
  rw [<- sz];exact Í _ rfl
theorem BT {z TI TO i1 i2 l1 l2:Addr}{k:Nat}{xs ys:Array Value}{Q:Fin->Shared->Prop}(hh:A.handled=none)(D:wz z TI TO i1 i2 l1 l2)(hz:M' s.heap z TI TO i1 i2 l1 l2 k)(g1:s.heap.IsList l1 xs)(g2:s.heap.IsTuple l2 ys)(hn:xs[k]?=none\/ys[k]?=none)
  (hE:∀ h' e,iW s.heap h' z TO i1 i2->(∃ o,h'.get? e=some o/\o.cls=.type "StopIteration")->E (.ref e) { s with heap:=h' }) :
  wpAny (model prog w) A (Builtin.«zip.__next__» ⟨[.ref z],[]⟩) Q E s:=by
 obtain⟨⟨f0,b,zo,ow⟩,ti,⟨ta,tb,to⟩,j1,j2⟩:=hz;show wpAny _ _ (field (.ref z) 2>>=_) _ _ _;refine À (ì zo rfl (x:=.bool false) rfl ?_);show wpAny _ _ (field (.ref z) 3>>=_) _ _ _;refine À (ì zo rfl (x:=.ref TI) rfl (À (Ċ ti rfl ?_)));show wpAny _ _ (Builtin.SmallTypes.ownedTupleIsFree (.ref z)>>=_) _ _ _;refine À (ql zo ow ?_ λ h1 Ou s1=>?_)
 ·simp only [if_true];refine À (LK (À (ì zo rfl (x:=.ref TO) rfl (À (ĉ zo (by simp) λ h1 Ou s1=>?_)))))
  have Ou:jX h1 z TI TO .ellipsis (.bool b):=Ou;have PL:=j1.extBut s1.extBut D.a3;have QO:=j2.extBut s1.extBut D.a4;have PY:=g1.extBut s1.extBut D.b2;have Q7:=g2.extBut s1.extBut D.b6;have Ui:IsPair h1 TO ta tb:=s1.extBut _ _ D.a2 to;have leave:∀(h2:Heap)(e:Addr),jX h2 z TI TO .ellipsis (.bool b)->iW s.heap h2 z TO i1 i2->(∃ o,h2.get? e=some o/\o.cls=.type "StopIteration")->wpAny (model prog w) A (setField (.ref z) 0 .none) (λ _ s'=>E (.ref e) s') E { s with heap:=h2 }:=λ h2 e z2 u2 he=>by
   obtain⟨oe,VD,Xi⟩:=he;have hez:e≠z:=λ q=>by subst q;rw [z2] at VD;cases VD;simp at Xi
   exact ĉ z2 (by simp) λ h3 _ s3=>hE h3 e (λ c o c1 c2 c3 c4 q=>s3.extBut _ _ c1 (u2 c o c1 c2 c3 c4 q)) ⟨oe,s3.extBut _ _ hez VD,Xi⟩
  refine À ?_;simp only [List.zipIdx_cons,List.zipIdx_nil,List.forIn_cons,List.forIn_nil];refine À (À (s_ ?_));show wpAny _ _ (Builtin.SmallTypes.nextOf (.ref i1)>>=_) _ _ _;cases hx:xs[k]? with
  | none =>
   refine À (wpAny_nextOf_list_end hh PL PY hx λ h2 e s2 he=>?_);have s2:Heap.ExtBut i1 h1 h2:=s2;exact leave h2 e (s2 _ _ D.a3.symm Ou) (λ c o c1 c2 c3 c4 q=>s2 _ _ c3 (s1.extBut _ _ c1 q)) he
  | some x =>
   have hy:ys[k]?=none:=hn.resolve_left (by rw [hx];simp)
   refine À (Ŷ PL PY hx λ h2 Su s2=>Æ ?_);have s2:Heap.SameBut i1 h1 h2:=s2;have to2:IsPair h2 TO ta tb:=s2.extBut _ _ D.a8 Ui;refine À (Ċ to2 rfl (À (MQ to2 λ h3 to3 s3=>À (wpAny_letGo (Æ ?_)))));have s3:Heap.SameBut TO h2 h3:=s3;have QN:=(QO.extBut s2.extBut D.b1.symm).extBut s3.extBut D.a9.symm;have Q6:=(Q7.extBut s2.extBut D.b8).extBut s3.extBut D.b7;refine À (À (s_ ?_));show wpAny _ _ (Builtin.SmallTypes.nextOf (.ref i2)>>=_) _ _ _;refine À (vc hh QN Q6 hy λ h4 e s4 he=>?_);have s4:Heap.ExtBut i2 h3 h4:=s4;exact leave h4 e (s4 _ _ D.a4.symm (s3.extBut _ _ D.a2.symm (s2.extBut _ _ D.a3.symm Ou))) (λ c o c1 c2 c3 c4 q=>s4 _ _ c4 (s3.extBut _ _ c2 (s2.extBut _ _ c3 (s1.extBut _ _ c1 q)))) he
 ·simp only [Bool.false_eq_true,if_false];have PL:=j1.extBut s1.extBut D.a3;have QO:=j2.extBut s1.extBut D.a4;have PY:=g1.extBut s1.extBut D.b2;have Q7:=g2.extBut s1.extBut D.b6;refine À ?_;rw [<- Array.forIn_toList];simp only [List.forIn_cons,List.forIn_nil];refine À (À (þ ?_));show wpAny _ _ (Builtin.SmallTypes.nextOf (.ref i1)>>=_) _ _ _;cases hx:xs[k]? with
  | none =>
   refine À (wpAny_nextOf_list_end hh PL PY hx λ h2 e s2 he=>?_);have s2:Heap.ExtBut i1 h1 h2:=s2;exact hE h2 e (λ c o c1 c2 c3 c4 q=>s2 _ _ c3 (s1.extBut _ _ c1 q)) he
  | some x =>
   have hy:ys[k]?=none:=hn.resolve_left (by rw [hx];simp)
   refine À (Ŷ PL PY hx λ h2 Su s2=>Æ (Æ ?_));have s2:Heap.SameBut i1 h1 h2:=s2;have QN:=QO.extBut s2.extBut D.b1.symm;have Q6:=Q7.extBut s2.extBut D.b8;refine À (À (þ ?_));show wpAny _ _ (Builtin.SmallTypes.nextOf (.ref i2)>>=_) _ _ _;refine À (vc hh QN Q6 hy λ h3 e s3 he=>?_);have s3:Heap.ExtBut i2 h2 h3:=s3;exact hE h3 e (λ c o c1 c2 c3 c4 q=>s3 _ _ c4 (s2.extBut _ _ c3 (s1.extBut _ _ c1 q))) he
end
theorem M'.keep {h h':Heap}{z TI TO i1 i2 l1 l2:Addr}{k:Nat}(a:M' h z TI TO i1 i2 l1 l2 k)(u:∀ b ∈ [z,TI,TO,i1,i2],∀ o,h.get? b=some o->h'.get? b=some o):M' h' z TI TO i1 i2 l1 l2 k:=by
 obtain⟨⟨f0,b,zo,ow⟩,ti,⟨ta,tb,to⟩,j1,j2⟩:=a;exact⟨⟨f0,b,u z (by simp) _ zo,ow⟩,u TI (by simp) _ ti,⟨ta,tb,u TO (by simp) _ to⟩,j1.at λ o e=>u i1 (by simp) o e,j2.at λ o e=>u i2 (by simp) o e⟩
section
variable {prog:Program}{w:World}{A:Around}{E:cy}{s:Shared}
theorem M'.ty {z TI TO i1 i2 l1 l2:Addr}{k:Nat}(a:M' s.heap z TI TO i1 i2 l1 l2 k):s.TypeIs (.ref z) "zip" := by
 obtain⟨⟨f0,b,zo,ow⟩,_⟩:=a;exact⟨_,zo,rfl⟩
theorem Fq {z TI TO i1 i2 l1 l2:Addr}{k:Nat}{xs ys:Array Value}{x y:Value}{Q:cy}(D:wz z TI TO i1 i2 l1 l2)(hz:M' s.heap z TI TO i1 i2 l1 l2 k)(g1:s.heap.IsList l1 xs)(g2:s.heap.IsTuple l2 ys)(hx:xs[k]?=some x)(hy:ys[k]?=some y)
  (hQ:∀ h',M' h' z TI TO i1 i2 l1 l2 (k+1)->IsPair h' s.heap.objs.size x y->h'.objs.size=s.heap.objs.size+1->iW s.heap h' z TO i1 i2->Q (.ref s.heap.objs.size) { s with heap:=h' }) :
  wpAny (model prog w) A (Builtin.SmallTypes.nextOf (.ref z)) Q E s:=by
 unfold Builtin.SmallTypes.nextOf;exact À (ē (name:=Str.ofString "__next__") hz.ty L8 (į L8 hz.ty F.entry_zip_next (vz D hz g1 g2 hx hy λ h' a b c d=>Æ (hQ h' a b c d)) (F.args_zip_next_1 _)))
theorem Hj {z TI TO i1 i2 l1 l2:Addr}{k:Nat}{xs ys:Array Value}{Q:cy}(hh:A.handled=none)(D:wz z TI TO i1 i2 l1 l2)(hz:M' s.heap z TI TO i1 i2 l1 l2 k)(g1:s.heap.IsList l1 xs)(g2:s.heap.IsTuple l2 ys)(hn:xs[k]?=none\/ys[k]?=none)
  (hE:∀ h' e,iW s.heap h' z TO i1 i2->(∃ o,h'.get? e=some o/\o.cls=.type "StopIteration")->E (.ref e) { s with heap:=h' }):wpAny (model prog w) A (Builtin.SmallTypes.nextOf (.ref z)) Q E s:=by
 unfold Builtin.SmallTypes.nextOf;exact À (ē (name:=Str.ofString "__next__") hz.ty L8 (į L8 hz.ty F.entry_zip_next (BT hh D hz g1 g2 hn hE) (F.args_zip_next_1 _)))
theorem Ei {e z TI TO i1 i2 l1 l2:Addr}{k:Nat}{xs ys:Array Value}{x y old:Value}{Q:Option Value->Shared->Prop}(D:wz z TI TO i1 i2 l1 l2)(he:IsEnum s.heap e z k old)(hz:M' s.heap z TI TO i1 i2 l1 l2 k)(g1:s.heap.IsList l1 xs)(g2:s.heap.IsTuple l2 ys)(hx:xs[k]?=some x)(hy:ys[k]?=some y)
  (ne:∀ b ∈ [z,TI,TO,i1,i2],b≠e)
  (hQ:∀ h',IsEnumOut h' e z ((k:Int)+1) (.ref s.heap.objs.size) (s.heap.objs.size+1)->M' h' z TI TO i1 i2 l1 l2 (k+1)->IsPair h' s.heap.objs.size x y->h'.get? (s.heap.objs.size+1)=some { cls:=.type "tuple",data:=.seq #[.int k s.toks,.ref s.heap.objs.size] } ->
   (∀ c o,c≠e->c≠z->c≠TO->c≠i1->c≠i2->s.heap.get? c=some o->h'.get? c=some o)->Q (some (.ref (s.heap.objs.size+1))) { s with heap:=h',toks:=s.toks+1 }) :
  wpAny (model prog w) A (pyNext (.ref e)) Q E s:=by
 have hT:s.TypeIs (.ref e) "enumerate" :=⟨_,he,rfl⟩;have el:=È he;have nz:e≠z:=(ne z (by simp)).symm
 have nTO:e≠TO:=(ne TO (by simp)).symm
 have n1:e≠i1:=(ne i1 (by simp)).symm
 have n2:e≠i2:=(ne i2 (by simp)).symm
 unfold pyNext;refine À (Ι (ē (name:=Str.ofString "__next__") hT Γ (į Γ hT F.entry_enumerate_next ?_ (F.args_enumerate_next_1 _))));show wpAny _ _ (field (.ref e) 2>>=_) _ _ _;refine À (ì he rfl (x:=.ref z) rfl (À (Fq D hz g1 g2 hx hy λ h1 za pr Z8 kz=>?_)));have VU:IsEnum h1 e z k old:=kz _ _ nz nTO n1 n2 he;show wpAny _ _ (field (.ref e) 3>>=_) _ _ _;refine À (ì VU rfl (x:=rawInt k) rfl ?_);show wpAny _ _ (field (.ref e) 4>>=_) _ _ _;refine À (ì VU rfl (x:=.none) rfl ?_);show wpAny _ _ (mkInt k>>=_) _ _ _;refine À (wpAny_mkInt ?_);show wpAny _ _ (setField (.ref e) 3 (rawInt ((k:Int)+1))>>=_) _ _ _;refine À (ĉ VU (by simp) λ h2 Qs s2=>wpAny_bind (wpAny_setField_rec (show IsEnum h2 e z ((k:Int)+1) old from Qs) (by simp) λ h3 VT s3=>?_))
 have s2:Heap.SameBut e h1 h2:=s2;have s3:Heap.SameBut e h2 h3:=s3;have VT:IsEnum h3 e z ((k:Int)+1) old:=VT;have RF:h3.objs.size=s.heap.objs.size+1:=by rw [s3.1,s2.1,Z8]
 show wpAny _ _ (newTuple [.int k s.toks,.ref s.heap.objs.size]>>=_) _ _ _;refine À (wpAny_newTuple ?_);have TF:IsEnum (h3.push { cls:=.type "tuple",data:=.seq #[.int k s.toks,.ref s.heap.objs.size] }) e z ((k:Int)+1) old:=Á _ VT;have t4:(h3.push { cls:=.type "tuple",data:=.seq #[.int k s.toks,.ref s.heap.objs.size] }).get? (s.heap.objs.size+1)=some { cls:=.type "tuple",data:=.seq #[.int k s.toks,.ref s.heap.objs.size] }:=by rw [<- RF];exact Í _ rfl
 have u4:∀ c o,c≠e->h1.get? c=some o->(h3.push { cls:=.type "tuple",data:=.seq #[.int k s.toks,.ref s.heap.objs.size] }).get? c=some o:=λ c o ce q=>Á _ (s3.extBut _ _ ce (s2.extBut _ _ ce q));show wpAny _ _ (Builtin.SmallTypes.ownedTupleIsFree (.ref e)>>=_) _ _ _;rw [RF];generalize (h3.push { cls:=.type "tuple",data:=.seq #[.int k s.toks,.ref s.heap.objs.size] })=h4 at TF t4 u4;refine À ?_;unfold Builtin.SmallTypes.ownedTupleIsFree;refine À (ì TF rfl (x:=.none) rfl (Æ ?_));simp only [if_true];refine À (LK (À (ì TF rfl (x:=old) rfl (À (ĉ TF (by simp) λ h5 VS s5=>?_)))))
 have s5:Heap.SameBut e h4 h5:=s5;have VS:IsEnum h5 e z ((k:Int)+1) (.ref s.heap.objs.size):=VS;show wpAny _ _ (Builtin.SmallTypes.ownedTupleHandOut (.ref e) (.ref (s.heap.objs.size+1))>>=_) _ _ _;refine À ?_;unfold Builtin.SmallTypes.ownedTupleHandOut;refine À (ĉ VS (by simp) λ h6 VR s6=>?_)
 have VR:IsEnumOut h6 e z ((k:Int)+1) (.ref s.heap.objs.size) (s.heap.objs.size+1):=VR;refine ĉ VR (by simp) λ h7 he7 s7=>wpAny_bind (wpAny_letGo (wpAny_pure ⟨_,rfl,wpAny_pure ?_⟩))
 have s6:Heap.SameBut e h5 h6:=s6;have s7:Heap.SameBut e h6 h7:=s7;have u7:∀ c o,c≠e->h4.get? c=some o->h7.get? c=some o:=λ c o ce q=>s7.extBut _ _ ce (s6.extBut _ _ ce (s5.extBut _ _ ce q));have na:s.heap.objs.size≠e:=ť el;have nb:s.heap.objs.size+1≠e:=ť (û el);exact hQ h7 he7 (za.keep λ b hb o q=>u7 b o (ne b hb) (u4 b o (ne b hb) q)) (u7 _ _ na (u4 _ _ na pr)) (u7 _ _ nb t4) λ c o ce c1 c2 c3 c4 q=>u7 c o ce (u4 c o ce (kz c o c1 c2 c3 c4 q))
theorem uB {e z TI TO i1 i2 l1 l2:Addr}{k:Nat}{i:Int}{xs ys:Array Value}{old:Value}{Q:Option Value->Shared->Prop}(hh:A.handled=none)(D:wz z TI TO i1 i2 l1 l2)(he:IsEnum s.heap e z i old)(hz:M' s.heap z TI TO i1 i2 l1 l2 k)(g1:s.heap.IsList l1 xs)(g2:s.heap.IsTuple l2 ys)(hn:xs[k]?=none\/ys[k]?=none)
  (hQ:∀ h',iW s.heap h' z TO i1 i2->Q none { s with heap:=h' }):wpAny (model prog w) A (pyNext (.ref e)) Q E s:=by
 have hT:s.TypeIs (.ref e) "enumerate" :=⟨_,he,rfl⟩;unfold pyNext;refine À (Ι (ē (name:=Str.ofString "__next__") hT Γ (į Γ hT F.entry_enumerate_next ?_ (F.args_enumerate_next_1 _))));show wpAny _ _ (field (.ref e) 2>>=_) _ _ _;refine À (ì he rfl (x:=.ref z) rfl (À (Hj hh D hz g1 g2 hn λ h' x kz OU=>?_)));obtain⟨o,ho,hc⟩:=OU;exact À (ŝ (T:="StopIteration") (b:=true) ⟨o,ho,hc⟩ isSubtype_stop (Æ (hQ _ kz)))
end
end My
namespace My
open PySem PySem.W L2
open PyProof.Rows (Call_ boot_enumerate)
open AutoSeq1 (wpAny_loadPart')
def DS (h:Heap)(l1:Addr):Heap:=h.push { cls:=.type "list_iterator",data:=.fields #[.ref l1,.int 0 0] }
def AI (h:Heap)(l1 l2:Addr):Heap:=(DS h l1).push { cls:=.type "tuple_iterator",data:=.fields #[.ref l2,.int 0 0] }
def BE (h:Heap)(l1 l2:Addr):Heap:=(AI h l1 l2).push { cls:=.type "tuple",data:=.seq #[.ref h.objs.size,.ref (DS h l1).objs.size] }
def AS (h:Heap)(l1 l2:Addr):Heap:=(BE h l1 l2).push { cls:=.type "tuple",data:=.seq #[.none,.none] }
def xh (h:Heap)(l1 l2:Addr):Heap:=(AS h l1 l2).push { cls:=.type "zip",data:=.fields #[.none,.bool false,.bool false,.ref (AI h l1 l2).objs.size,.ref (BE h l1 l2).objs.size] }
theorem vZ (l1 l2:Addr)(xs ys:Array Value):Meets (Builtin.«zip.__new__» ⟨[.type "zip",.ref l1,.ref l2],[]⟩) (λ _ R s=>s.heap.IsList l1 xs/\s.heap.IsTuple l2 ys/\R (.ok (.ret (.ref (AS s.heap l1 l2).objs.size))) { s with heap:=xh s.heap l1 l2 }) :=
 .of_wp λ prog w A R s h=>by
  obtain⟨hp,g,d,tk,os⟩:=s;obtain⟨Rp,Oc,h⟩:=h;have SA:=sub_zip;have k1:Heap.IsList (Shared.heap ⟨hp,g,d,tk,os⟩) l1 xs:=Rp;have k2:Heap.IsTuple (Shared.heap ⟨hp.push { cls:=.type "list_iterator",data:=.fields #[.ref l1,.int 0 0] },g,d,tk,os⟩) l2 ys:=by
   obtain⟨o,ho,r⟩:=Oc;exact⟨o,Á _ ho,r⟩
  wp_walk using m_ k1,wpAny_pyIter_tuple k2
  exact⟨_,rfl,h⟩
theorem qG (z:Addr)(TI TO:Addr):Meets (Builtin.«enumerate.__new__» ⟨[.type "enumerate",.ref z],[]⟩) (λ _ R s=>IsZip s.heap z TI TO .none /\
   R (.ok (.ret (.ref s.heap.objs.size))) { s with heap:=s.heap.push { cls:=.type "enumerate",data:=.fields #[.none,.bool false,.ref z,rawInt 0,.none,.none] } }) :=
 .of_wp λ prog w A R s h=>by
  obtain⟨hp,g,d,tk,os⟩:=s;obtain⟨hl,h⟩:=h;have SA:=sub_enumerate;have hL:IsZip (Shared.heap ⟨hp,g,d,tk,os⟩) z TI TO .none:=hl
  wp_walk using Qx hl
  refine wpAny_stack_any λ st=>Æ ?_;split
  ·rename_i c _ _ _ _ _
   cases (c==Value.type "enumerate") <;>(wp_walk using Qx hl,wpAny_pyIter_zip hL) <;> exact⟨_,rfl,h⟩
  ·wp_walk using Qx hl,wpAny_pyIter_zip hL
   exact⟨_,rfl,h⟩
section
variable {prog:Program}{w:World}{A:Around}{E:cy}{s:Shared}
theorem rM {z TI TO:Addr}{Q:cy}(hz:IsZip s.heap z TI TO .none)
  (h:∀ h',IsEnum h' s.heap.objs.size z 0 .none->h'.objs.size=s.heap.objs.size+1->(∀ b o,s.heap.get? b=some o->h'.get? b=some o)->Q (.ref s.heap.objs.size) { s with heap:=h' }) :
  wpAny (model prog w) A (call (.type "enumerate") [.ref z]) Q E s:=by
 refine callType_new F.called_enumerate ad (F.typeCall_enumerate_1 _) (F.newCall_enumerate_1 _) (λ obj=>F.args_object_init_2 obj _) F.entry_enumerate_new (qG z TI TO) ⟨hz,?_⟩;have g:=Í s.heap (o:={ cls:=.type "enumerate",data:=.fields #[.none,.bool false,.ref z,rawInt 0,.none,.none] }) rfl;exact⟨⟨_,g,rfl⟩,h _ g (ë ..) λ b o q=>Á _ q⟩
theorem wJ {l1 l2:Addr}{xs ys:Array Value}{Q:cy}(Rp:s.heap.IsList l1 xs)(Oc:s.heap.IsTuple l2 ys)
  (h:∀ h',IsZip h' (s.heap.objs.size+4) (s.heap.objs.size+2) (s.heap.objs.size+3) .none->M' h' (s.heap.objs.size+4) (s.heap.objs.size+2) (s.heap.objs.size+3) s.heap.objs.size (s.heap.objs.size+1) l1 l2 0->h'.objs.size=s.heap.objs.size+5 ->
   (∀ c o,s.heap.get? c=some o->h'.get? c=some o)->Q (.ref (s.heap.objs.size+4)) { s with heap:=h' }):wpAny (model prog w) A (call (.type "zip") [.ref l1,.ref l2]) Q E s:=by
 refine callType_new F.called_zip ad (F.typeCall_zip_2 _ _) (F.newCall_zip_2 _ _) (λ obj=>F.args_object_init_3 obj _ _) F.entry_zip_new (vZ l1 l2 xs ys) ⟨Rp,Oc,?_⟩;have z1:(DS s.heap l1).objs.size=s.heap.objs.size+1:=ë ..;have z2:(AI s.heap l1 l2).objs.size=s.heap.objs.size+2:=by unfold AI;rw [ë,z1]
 have z3:(BE s.heap l1 l2).objs.size=s.heap.objs.size+3:=by unfold BE;rw [ë,z2]
 have z4:(AS s.heap l1 l2).objs.size=s.heap.objs.size+4:=by unfold AS;rw [ë,z3]
 have z5:(xh s.heap l1 l2).objs.size=s.heap.objs.size+5:=by unfold xh;rw [ë,z4]
 have u5:∀ c o,(AS s.heap l1 l2).get? c=some o->(xh s.heap l1 l2).get? c=some o:=λ c o q=>Á _ q;have u4:∀ c o,(BE s.heap l1 l2).get? c=some o->(xh s.heap l1 l2).get? c=some o:=λ c o q=>u5 c o (Á _ q);have u3:∀ c o,(AI s.heap l1 l2).get? c=some o->(xh s.heap l1 l2).get? c=some o:=λ c o q=>u4 c o (Á _ q);have u2:∀ c o,(DS s.heap l1).get? c=some o->(xh s.heap l1 l2).get? c=some o:=λ c o q=>u3 c o (Á _ q);have u1:∀ c o,s.heap.get? c=some o->(xh s.heap l1 l2).get? c=some o:=λ c o q=>u2 c o (Á _ q);have g5:(xh s.heap l1 l2).get? (AS s.heap l1 l2).objs.size=some _:=Í _ rfl;have g4:=u5 _ _ (show(AS s.heap l1 l2).get? (BE s.heap l1 l2).objs.size=some _ from Í _ rfl);have g3:=u4 _ _ (show(BE s.heap l1 l2).get? (AI s.heap l1 l2).objs.size=some _ from Í _ rfl);have g2:=u3 _ _ (show(AI s.heap l1 l2).get? (DS s.heap l1).objs.size=some _ from Í _ rfl);have g1:=u2 _ _ (show(DS s.heap l1).get? s.heap.objs.size=some _ from Í _ rfl);show _/\_;rw [z2,z3,z4] at g5;rw [z1,z2] at g3;rw [z3] at g4;rw [z1] at g2;rw [z4];exact⟨⟨_,g5,rfl⟩,h _ g5 ⟨⟨_,_,g5,.inl rfl⟩,g3,⟨_,_,g4⟩,⟨_,g1,rfl,rfl⟩,⟨_,g2,rfl,rfl⟩⟩ z5 u1⟩
end
end My
namespace My
open PySem PySem.W L2
open PyProof.Rows (Call_ boot_enumerate)
section
variable {X:Cx}{Ã:List (Addr × Obj)}{σ:St}{H:Hp}{s:Shared}{h':Heap}
theorem wy {t':Nat}{ch:List Addr}{xs ys:List V}(I:Inv X Ã σ H s)(F:∀ b∈ch,dF X Ã H b)(k:∀ b o,b ∉ ch->s.heap.get? b=some o->h'.get? b=some o)
  (o1:Ā X.prog X.w (af (af H s.heap.objs.size (.tup xs)) (s.heap.objs.size+1) (.tup ys)) h' s.heap.objs.size (.tup xs))(o2:Ā X.prog X.w (af (af H s.heap.objs.size (.tup xs)) (s.heap.objs.size+1) (.tup ys)) h' (s.heap.objs.size+1) (.tup ys)) :
  Inv X Ã σ (af (af H s.heap.objs.size (.tup xs)) (s.heap.objs.size+1) (.tup ys)) { s with heap:=h',toks:=t' }:=by
 have f1:H s.heap.objs.size=none:=I.Ć.fresh (Ç _);have f2:H (s.heap.objs.size+1)=none:=I.Ć.fresh (Ÿ _);have up:∀ b u,H b=some u->af (af H s.heap.objs.size (.tup xs)) (s.heap.objs.size+1) (.tup ys) b=some u:=λ b u e=>by
  rw [au (λ z=>by rw [z,f2] at e;cases e),au (λ z=>by rw [z,f1] at e;cases e)]
  exact e
 have dn:∀ b,b<s.heap.objs.size->af (af H s.heap.objs.size (.tup xs)) (s.heap.objs.size+1) (.tup ys) b=H b:=λ b l=>by
  rw [au (Î (û l)),au (Î l)]
 have OI:∀ b u,H b=some u->b ∉ ch:=λ b u e z=>by
  have:=(F b z).1;rw [this] at e;cases e
 refine I.step (g':=s.gens) (d':=s.drawn) (ch:=ch) (λ b hb=>?_) (λ b o _ _ hc e _=>k b o hc e) (λ b o _ _ hc e _=>⟨o.slots,k b o hc e⟩) (λ b o _ e n=>by rw [dn b (È e)];exact n)
  (λ b o hc e=>⟨o,k b o hc e⟩) (λ b _ e=>up _ _ e) (λ _ _ _ e=>up _ _ e) (λ b ps e=>⟨#[],by rw [up _ _ e];simp⟩) (λ q=>?_) (λ m hm=>?_) (λ b u e=>?_) I.bare
 ·obtain⟨_,a,_,b',c,d⟩:=F b hb;exact⟨b',a,c,d⟩
 ·rw [dn _ (MT (by decide:sysModules<mainGlobals) (I.mod.glob.keeps I.bk).lt)]
  exact q
 ·obtain⟨o,es,ep,ho,r⟩:=hm;exact⟨o,es,ep,k _ o (λ z=>(F _ z).2.1 rfl) ho,r⟩
 ·by_cases z2:b=s.heap.objs.size+1
  ·subst z2;rw [aR] at e;cases e;exact o2
  ·by_cases z1:b=s.heap.objs.size
   ·subst z1;rw [au z2,aR] at e;cases e;exact o1
   ·rw [au z2,au z1] at e;refine(I.Ć b u e).y_ (λ c v hc q=>k c v ?_ q) (λ c q=>up _ _ q) λ c zs q=>up _ _ q;rcases hc with z | z
    ·rw [z];exact OI _ _ e
    ·exact OI _ _ z
theorem wM {t':Nat}{ch:List Addr}(I:Inv X Ã σ H s)(F:∀ b∈ch,dF X Ã H b)(k:∀ b o,b ∉ ch->s.heap.get? b=some o->h'.get? b=some o):Inv X Ã σ H { s with heap:=h',toks:=t' }:=by
 have OI:∀ b u,H b=some u->b ∉ ch:=λ b u e z=>by
  have:=(F b z).1;rw [this] at e;cases e
 refine I.step (g':=s.gens) (d':=s.drawn) (ch:=ch) (λ b hb=>?_) (λ b o _ _ hc e _=>k b o hc e) (λ b o _ _ hc e _=>⟨o.slots,k b o hc e⟩) (λ _ _ _ _ n=>n)
  (λ b o hc e=>⟨o,k b o hc e⟩) (λ _ _ e=>e) (λ _ _ _ e=>e) (λ b ps e=>⟨#[],by rw [e];simp⟩) (λ q=>q) (λ m hm=>?_) (λ b u e=>?_) I.bare
 ·obtain⟨_,a,_,b',c,d⟩:=F b hb;exact⟨b',a,c,d⟩
 ·obtain⟨o,es,ep,ho,r⟩:=hm;exact⟨o,es,ep,k _ o (λ z=>(F _ z).2.1 rfl) ho,r⟩
 ·refine(I.Ć b u e).y_ (λ c v hc q=>k c v ?_ q) (λ _ q=>q) λ _ _ q=>q;rcases hc with z | z
  ·rw [z];exact OI _ _ e
  ·exact OI _ _ z
end
def Gh (K:Frag)(a b:Addr):It :=
 ⟨λ i H=>∃ xs ys x y,ó K H a xs/\ĥ K H b ys/\xs[i]?=some x/\ys[i]?=some y,
   λ i H v H'=>∃ q p x y,v=.ref p/\H q=none/\H p=none/\p≠q/\H'=af (af H q (.tup [x,y])) p (.tup [.int i,.ref q])/\∀ xs ys,ó K H a xs->ĥ K H b ys->xs[i]?=some x/\ys[i]?=some y,
   λ i H=>∃ xs ys,ó K H a xs/\ĥ K H b ys/\(xs.length<=i\/ys.length<=i)⟩
theorem sY {P:Program}{w:World}{K:Frag}{elts:List Expr} {x1}{pos:Pos}(a b e z TI TO i1 i2:Addr)(D:wz z TI TO i1 i2 a b)(ne:∀ c ∈ [z,TI,TO,i1,i2],c≠e) :
  qW P w K (.Tuple elts x1 pos) (Gh K a b) [e,z,TI,TO,i1,i2] e (λ i h=>(∃ old,IsEnum h e z i old)/\M' h z TI TO i1 i2 a b i) where
 mem:=by simp
 obj:=λ i h st c hc=>by
  obtain⟨⟨old,h1⟩,⟨f0,bb,zo,ow⟩,ti,⟨ta,tb,to⟩,⟨oa,ha,ca,da⟩,⟨ob,hb,cb,db⟩⟩:=st;simp only [List.mem_cons,List.not_mem_nil,or_false] at hc;rcases hc with rfl | rfl | rfl | rfl | rfl | rfl
  ·exact⟨_,h1,λ v q=>by cases q⟩
  ·exact⟨_,zo,λ v q=>by cases q⟩
  ·exact⟨_,ti,λ v q=>by cases q⟩
  ·exact⟨_,to,λ v q=>by cases q⟩
  ·exact⟨oa,ha,λ v q=>by rw [da] at q;cases q⟩
  ·exact⟨ob,hb,λ v q=>by rw [db] at q;cases q⟩
 keep:=λ i h h' st k=>⟨⟨_,k e (by simp) _ st.1.choose_spec⟩,st.2.keep λ c hc o q=>k c (List.mem_cons_of_mem _ hc) o q⟩
 item:=by
  intro X hP hw hK hc i Ã s σ H E I hf st hg;subst hP hw hK;obtain⟨xs,ys,x,y,hq,Oa,hx,hy⟩:=hg;obtain⟨its,rv,p,hz⟩:=I.list hq;obtain⟨Β,Tp,p2,W6⟩:=I.tuple Oa;obtain⟨u,hu,ru⟩:=rv.get hx;obtain⟨v,hv,rv'⟩:=Tp.get hy;obtain⟨⟨old,he⟩,za⟩:=st;have RY:s.heap.IsTuple b Β.toArray:=by
   obtain⟨o,q,c,n,d⟩:=p2;exact⟨o,q,c,n,d⟩
  refine Ei D he za p.isList RY (x:=u) (y:=v) (by simpa using hu) (by simpa using hv) ne λ h1 eo LR pr tu kk=>?_
  refine⟨_,rfl,wpAny_letOwnedTupleGo_enum (s:={ s with heap:=h1,toks:=s.toks+1 }) eo λ h2 Qs sb=>?_⟩
  have Qa:Heap.SameBut e h1 h2:=sb;have el:=È he;have na:s.heap.objs.size≠e:=ť el;have nb:s.heap.objs.size+1≠e:=ť (û el);have pr2:IsPair h2 s.heap.objs.size u v:=(Qa.2 _ na).trans pr;have Z4:=(Qa.2 _ nb).trans tu;have f1:H s.heap.objs.size=none:=I.Ć.fresh (Ç _);have f2:H (s.heap.objs.size+1)=none:=I.Ć.fresh (Ÿ _);refine⟨.ref (s.heap.objs.size+1),af (af H s.heap.objs.size (.tup [x,y])) (s.heap.objs.size+1) (.tup [.int i,.ref s.heap.objs.size]),?_,rfl,⟨_,_,x,y,rfl,f1,f2,Nat.succ_ne_self _,rfl,λ xs' K' g1 g2=>⟨by rw [I.Lz g1 hq];exact hx,by rw [I.Ma g2 Oa];exact hy⟩⟩,⟨⟨_,Qs⟩,LR.keep λ c hc o q=>(Qa.2 c (ne c hc)).trans q⟩,λ c hc=>?_⟩
  ·refine wy (t':=s.toks+1) (ch:=[e,z,TI,TO,i1,i2]) I hf (λ c o hc q=>?_) ?_ ?_
   ·simp only [List.mem_cons,List.not_mem_nil,or_false,not_or] at hc;exact(Qa.2 c hc.1).trans (kk c o hc.1 hc.2.1 hc.2.2.2.1 hc.2.2.2.2.1 hc.2.2.2.2.2 q)
   ·exact⟨dA,[u,v],.cons ru (.cons rv' .nil),⟨_,pr2,rfl,_,rfl⟩⟩
   ·exact⟨dA,[.int i s.toks,.ref s.heap.objs.size],.cons ⟨_,rfl⟩ (.cons rfl .nil),⟨_,Z4,rfl,_,rfl⟩⟩
  ·have q:=hf c hc;have N7:c<s.heap.objs.size:=by
    obtain⟨⟨f0,bb,zo,ow⟩,ti,⟨ta,tb,to⟩,⟨oa,ha,_,_⟩,⟨ob,hb,_,_⟩⟩:=za;simp only [List.mem_cons,List.not_mem_nil,or_false] at hc;rcases hc with rfl | rfl | rfl | rfl | rfl | rfl
    ·exact el
    ·exact È zo
    ·exact È ti
    ·exact È to
    ·exact È ha
    ·exact È hb
   rw [au (Î (û N7)),au (Î N7)];exact q.1
 done:=by
  intro X hP hw hK hc i Ã s σ H E I hf st hg;subst hP hw hK;obtain⟨xs,ys,hq,Oa,hn⟩:=hg;obtain⟨its,rv,p,hz⟩:=I.list hq;obtain⟨Β,Tp,p2,W6⟩:=I.tuple Oa;obtain⟨⟨old,he⟩,za⟩:=st;have RY:s.heap.IsTuple b Β.toArray:=by
   obtain⟨o,q,c,n,d⟩:=p2;exact⟨o,q,c,n,d⟩
  have l1:=rv.length;have l2:=Tp.length;refine uB (I.ok.hd hc) D he za p.isList RY ?_ λ h1 kk=>⟨rfl,wM (t':=s.toks) (ch:=[e,z,TI,TO,i1,i2]) I hf λ c o M6 q=>?_⟩
  ·rcases hn with h | h
   ·exact .inl (by simp;omega)
   ·exact .inr (by simp;omega)
  ·simp only [List.mem_cons,List.not_mem_nil,or_false,not_or] at M6;exact kk c o M6.2.1 M6.2.2.2.1 M6.2.2.2.2.1 M6.2.2.2.2.2 q
 self:=λ _ _ _ _ _ st h=>n_ st.1.choose_spec h
end My
namespace My
open PySem PySem.W L2
open PyProof.Rows (Call_ boot_enumerate)
theorem vS {n l t:Nat}(h1:l<n)(h2:t<n):wz (n+4) (n+2) (n+3) n (n+1) l t:=by
 constructor <;>(show(_:Nat)≠(_:Nat)) <;> omega
theorem vY {c m n:Nat}(hm:m=n+5)(hc:c ∈ [n+4,n+2,n+3,n,n+1]):c≠m:=by
 simp only [List.mem_cons,List.not_mem_nil,or_false] at hc;omega
theorem vN {c m n:Nat}(hm:m=n+5)(hc:c ∈ [m,n+4,n+2,n+3,n,n+1]):n<=c:=by
 simp only [List.mem_cons,List.not_mem_nil,or_false] at hc;omega
section
variable {X:Cx}
def KP (K:Frag)(ta:TA):TI:=λ σ H R=>ta σ H λ vs H1=>∃ l t,vs=[.ref l,.ref t]/\(∃ xs,ó K H1 l xs)/\(∃ ys,ĥ K H1 t ys)/\R (Gh K l t) H1
theorem Gd {elts:List Expr} {x1}{pt:Pos}{a b:Expr}{ta:TA}{p p2 pos NQ:Pos}(hg:Gl X "enumerate")(hm:X.mg "enumerate" = none)(hg2:Gl X "zip")(QW:X.mg "zip" = none)(ha:PA X [a,b] ta)
  (hs:starEach [.Call (.Name "zip" p2) [a,b] [] NQ] X.env=[(false,eval (.Call (.Name "zip" p2) [a,b] [] NQ) X.env)]:=by rfl)(he:starEach (a :: [b]) X.env=(false,eval a X.env)::starEach [b] X.env:=by rfl) (Κ:(backTo NQ (starEach [b] X.env)).any (·.1)=false:=by rfl) :
  PI X (.Tuple elts x1 pt) (.Call (.Name "enumerate" p) [.Call (.Name "zip" p2) [a,b] [] NQ] [] pos) (KP X.K ta):=by
 intro Ã s σ H R I h;refine Call_ (gM I hg hm boot_enumerate (ģ ?_ hs rfl));rw [hs];show wpAny _ _ (spliced ((false,eval (.Call (.Name "zip" p2) [a,b] [] NQ) X.env) :: [])) _ _ s;refine Ŋ (ċ (gM I hg2 QW PyProof.Rows.boot_zip (ģ (aW (ha NQ Ã s σ H _ I h) λ us s1 ⟨vs,H1,I1,r1,q1⟩=>?_) he Κ)));obtain⟨l,t,rfl,⟨xs,hq⟩,⟨ys,Oa⟩,q⟩:=q1;cases r1 with
 | cons r rr =>
  cases r;cases rr with
  | cons r' rr' =>
   cases r';cases rr';obtain⟨its,rv,pl,hz⟩:=I1.list hq;obtain⟨Β,Tp,RY,W6⟩:=I1.tuple Oa;have ht:s1.heap.IsTuple t Β.toArray:=by
    obtain⟨o,q,c,n,d⟩:=RY;exact⟨o,q,c,n,d⟩
   have lt1:l<s1.heap.objs.size:=by
    obtain⟨o,q,_⟩:=pl.isList;exact È q
   have Tv:t<s1.heap.objs.size:=by
    obtain⟨o,q,_⟩:=ht;exact È q
   refine wJ pl.isList ht λ h2 iz za WJ k2=>Op ?_;refine rM (s:={ s1 with heap:=h2 }) iz λ h3 en RF k3=>?_
   have RF:h3.objs.size=h2.objs.size+1:=RF;have en:IsEnum h3 h2.objs.size (s1.heap.objs.size+4) 0 .none:=en;have k3:∀ b o,h2.get? b=some o->h3.get? b=some o:=k3;refine n_ en ?_;have D:wz (s1.heap.objs.size+4) (s1.heap.objs.size+2) (s1.heap.objs.size+3) s1.heap.objs.size (s1.heap.objs.size+1) l t:=vS lt1 Tv;refine⟨h2.objs.size,[h2.objs.size,s1.heap.objs.size+4,s1.heap.objs.size+2,s1.heap.objs.size+3,s1.heap.objs.size,s1.heap.objs.size+1],_,_,H1,rfl,I1.kept (t':=s1.toks) (λ c o e=>k3 _ _ (k2 _ _ e)),sY l t _ _ _ _ _ _ D (λ c hc=>?_),⟨⟨_,en⟩,za.keep λ c _ o e=>k3 c o e⟩,λ c hc=>?_,q⟩
   ·exact vY (show h2.objs.size=s1.heap.objs.size+5 from WJ) hc
   ·have le:s1.heap.objs.size<=c:=vN (show h2.objs.size=s1.heap.objs.size+5 from WJ) hc;exact I1.O6 le (I1.Ć.fresh le)
end
theorem Cr {K:Frag}{a b:Addr}{xs ys:List V}{g:TG}{tb:TS}{D:bY}{σ:St}{H:Hp}(Pv:Nat->St->Hp->Prop)(h0:Pv 0 σ H)(hl:∀ i σ H,i<=min xs.length ys.length->Pv i σ H->ó K H a xs/\ĥ K H b ys)
  (hs:∀ i x y σ H q p,xs[i]?=some x->ys[i]?=some y->Pv i σ H->H q=none->H p=none->p≠q->g (.ref p) σ (af (af H q (.tup [x,y])) p (.tup [.int i,.ref q])) λ İ H2=>tb { D with nx:=Pv (i+1),ct:=Pv (i+1),bk:=D.nx } İ H2)(hd:∀ σ H,Pv (min xs.length ys.length) σ H->D.nx σ H) :
  ∃ W:Nat->Nat->St->Hp->Prop,(∃ m,W 0 m σ H)/\∀ i m σ H,W i m σ H ->
   ((Gh K a b).stop i H/\D.nx σ H)\/((Gh K a b).go i H/\∃ N:St->Hp->Prop,(∀ Ē H',N Ē H'->∃ m',m'<m/\W (i+1) m' Ē H')/\∀ x H',(Gh K a b).L_ i H x H'->g x σ H' λ İ H2=>tb { D with nx:=N,ct:=N,bk:=D.nx } İ H2):=by
 refine⟨λ i m σ H=>m=min xs.length ys.length-i/\i<=min xs.length ys.length/\Pv i σ H,⟨min xs.length ys.length,am,ŏ _,h0⟩,?_⟩;rintro i m σ H ⟨rfl,hi,pv⟩;obtain⟨q1,q2⟩:=hl i σ H hi pv;by_cases ſ:i<min xs.length ys.length
 ·have l1:i<xs.length:=am;have l2:i<ys.length:=am;refine .inr ⟨⟨xs,ys,xs[i],ys[i],q1,q2,Â l1,Â l2⟩,Pv (i+1),λ Ē H' n=>⟨min xs.length ys.length-(i+1),am,rfl,ſ,n⟩,λ v H' yl=>?_⟩;obtain⟨q,p,x,y,rfl,hq,hp,ne,rfl,at'⟩:=yl;obtain⟨e1,e2⟩:=at' xs ys q1 q2;exact hs i x y σ H q p e1 e2 pv hq hp ne
 ·have e:i=min xs.length ys.length:=am;subst e;exact .inl ⟨⟨xs,ys,q1,q2,am⟩,hd σ H pv⟩
end My
namespace My
open PySem PySem.W L2
def R0.word:R0->Str
 | .split _ _ => "split"
 | .pairs _ _ _ => "pairs"
 | .ř _ _ _ _ => "coins"
theorem R0.Nx (r:R0):r.word ≠ "first" /\ r.word ≠ "blocks" := by
 cases r with
 | split n k=>exact⟨(by decide +kernel:(("split" : String):Str)≠(("first" : String):Str)),(by decide +kernel:(("split" : String):Str)≠(("blocks" : String):Str))⟩
 | pairs n x y=>exact⟨(by decide +kernel:(("pairs" : String):Str)≠(("first" : String):Str)),(by decide +kernel:(("pairs" : String):Str)≠(("blocks" : String):Str))⟩
 | ř n x y f=>exact⟨(by decide +kernel:(("coins" : String):Str)≠(("first" : String):Str)),(by decide +kernel:(("coins" : String):Str)≠(("blocks" : String):Str))⟩
def R0.Rm:R0->Bool
 | .pairs _ _ _=>true
 | _=>false
theorem R0.QE (r:R0):decide (V.str r.word=V.str "pairs")=r.Rm:=by
 cases r with
 | split n k=>exact É λ z=>absurd (V.str.inj z) (by decide +kernel:(("split" : String):Str)≠(("pairs" : String):Str))
 | pairs n x y=>exact Å rfl
 | ř n x y f=>exact É λ z=>absurd (V.str.inj z) (by decide +kernel:(("coins" : String):Str)≠(("pairs" : String):Str))
def Rl.base:Rl->List R0
 | .one r=>[r]
 | .blocks rs=>rs
 | .first t _=>t.base
def Rl.high:Rl->Nat
 | .first t _=>t.high+1
 | _=>0
theorem lA {H:Hp}{v:V}{ds:List PyData}(r:Ĉ H v (.tuple ds)):∃ a xs,v=.ref a/\H a=some (.tup xs)/\Ñ H xs ds:=by
 cases r with
 | tup ha rs=>exact⟨_,_,rfl,ha,rs⟩
theorem gV {H:Hp}{v:V}{z:Str}{ds:List PyData}(r:Ĉ H v (.tuple (.str z::ds))):∃ a xs,v=.ref a/\H a=some (.tup (.str z::xs))/\Ñ H xs ds:=by
 obtain⟨a,xs,rfl,ha,rs⟩:=lA r;cases rs with
 | cons r1 rs=>cases r1;exact⟨a,_,rfl,ha,rs⟩
theorem R0.mark {H:Hp}{v:V}{r:R0}(h:Ĉ H v r.told):∃ a xs,v=.ref a/\H a=some (.tup (.str r.word::xs)):=by
 cases r with
 | split n k=>obtain⟨a,xs,e,ha,_⟩:=gV h;exact⟨a,xs,e,ha⟩
 | pairs n x y=>obtain⟨a,xs,e,ha,_⟩:=gV h;exact⟨a,xs,e,ha⟩
 | ř n x y f=>obtain⟨a,xs,e,ha,_⟩:=gV h;exact⟨a,xs,e,ha⟩
theorem pb {H:Hp}{v:V}{t:Rl}{m:Int}(h:Ĉ H v (Rl.first t m).told):∃ a u w,v=.ref a/\H a=some (.tup [.str "first",u,w])/\Ĉ H u t.told:=by
 obtain⟨a,xs,rfl,ha,rs⟩:=gV h;cases rs with | cons r2 rs=>cases rs with | cons r3 rs=>cases rs;exact⟨a,_,_,rfl,ha,r2⟩
theorem mx {H:Hp}{v:V}{WP:List R0}(h:Ĉ H v (Rl.blocks WP).told):∃ a b ys,v=.ref a/\H a=some (.tup [.str "blocks",.ref b])/\H b=some (.tup ys)/\Ñ H ys (WP.map R0.told):=by
 obtain⟨a,xs,rfl,ha,rs⟩:=gV h;cases rs with | cons r2 rs=>cases rs;obtain⟨b,ys,rfl,hb,ry⟩:=lA r2;exact⟨a,b,ys,rfl,ha,hb,ry⟩
section
variable {P:Program}{w:World}{K:Frag}{mg:bv}{base:Heap}{C:Nat->Addr}{CR f a1:Addr}{fd d1:FuncData}
abbrev HR:Stmt:=cr 61
def Ft (C:Nat->Addr):Sp:=λ vs H Q _=>∃ v t,vs=[v]/\Ru C H t v/\∀ p ms H',Ext H H'->H' p=some (.tup ms)->Ñ H' ms (t.base.map R0.told)->Q (.ref p) H'
theorem RT:ae ["rule","mark"] ["rule"] (aa HR):=aO
theorem Hc (F:ğ K "block_marks" "block_marks" HR f fd)(M:Ms P w K mg base C):ß P w K mg base ay 2 f fd ["rule"] (Ft C):=by
 refine cw F RT λ cdv A outer s H vs Q E hr h=>?_;obtain⟨v,t,rfl,ru,q⟩:=h;have nd:=RT.nd;refine⟨_,cL (mq (i:=1) nd rfl (Or.inl rfl) (bN (pv 0) M.told hr ai))
  (cL (oq ĸ (aA cZ (ft oA (pv 1) aB) av (az _)) (bj (mq (i:=1) nd rfl (Or.inl rfl) (ft oA (pv 1) aB))))
  (bj (cM (ou (aA cZ (ft oA (pv 1) aB) av (az _)) (ft oA (pv 1) aB) (aU (ac (pv 1) aq)))))),?_⟩
 refine cF (t:=t) ao ru (λ R r=>⟨_,rfl,r⟩) ⟨v,t,H,rfl,Ext.refl _,ru,λ b rb=>?_⟩;refine⟨λ n σ H'=>H'=H/\∃(t':Rl)(b':V),t'.high=n/\t'.base=t.base/\Ĉ H b' t'.told/\σ=[some v,some b'],⟨t.high,rfl,t,b,rfl,rfl,rb,rfl⟩,?_⟩;rintro n σ H' ⟨rfl,t',b',hh,hb,Tr,rfl⟩;cases t' with
 | one r =>
  obtain⟨a,xs,rfl,ha⟩:=R0.mark Tr;refine⟨_,rfl,a,_,_,_,rfl,rfl,ĥ.of ha,gS (j:=0) rfl,rfl,_,rfl,?_⟩;rw [É (λ z=>r.Nx.1 (V.str.inj z))];refine cE ⟨_,rfl,a,_,_,_,rfl,rfl,ĥ.of ha,gS (j:=0) rfl,rfl,_,rfl,?_⟩;rw [É (λ z=>r.Nx.2 (V.str.inj z))];refine cE ⟨_,rfl,dA,λ p hp=>?_⟩;have x:=Ext.new (o:=.tup [.ref a]) hp;refine q p _ _ x aR ?_;rw [<- hb];exact .cons (Tr.mono x) .nil
 | blocks rs =>
  obtain⟨a,c,ys,rfl,ha,hc,ry⟩:=mx Tr;refine⟨_,rfl,a,_,_,_,rfl,rfl,ĥ.of ha,gS (j:=0) rfl,rfl,_,rfl,?_⟩;rw [É (by intro z;exact absurd (V.str.inj z) ao)]
  refine cE ⟨_,rfl,a,_,_,_,rfl,rfl,ĥ.of ha,gS (j:=0) rfl,rfl,_,rfl,?_⟩;rw [Å rfl];refine cQ ⟨_,rfl,a,_,_,_,rfl,rfl,ĥ.of ha,gS (j:=1) rfl,?_⟩;refine q c ys _ (Ext.refl _) hc ?_;rw [<- hb];exact ry
 | first t2 m =>
  obtain⟨a,u,w',rfl,ha,NP⟩:=pb Tr;refine⟨_,rfl,a,_,_,_,rfl,rfl,ĥ.of ha,gS (j:=0) rfl,rfl,_,rfl,?_⟩;rw [Å rfl];refine cQ ⟨λ Ē H2=>∃ m',m'<n/\H2=H'/\∃(t':Rl)(b':V),t'.high=m'/\t'.base=t.base/\Ĉ H' b' t'.told/\Ē=[some v,some b'],λ Ē H2 h=>?_,?_⟩
  ·obtain⟨m',lt,e,r⟩:=h;exact⟨m',lt,e,r⟩
  ·refine⟨_,rfl,a,_,_,_,rfl,rfl,ĥ.of ha,gS (j:=1) rfl,?_⟩;exact⟨t2.high,by rw [<- hh];exact ψ _,rfl,t2,u,rfl,hb,NP,rfl⟩
def rZ (t:Rl):List Bool:=List.zipWith (λ (p:List Int)(r:R0)=>r.Rm&&decide (p.length%2=0)) t.parts t.base
abbrev JS:Stmt:=cr 62
def FP (C:Nat->Addr)(CN:Addr):Sp:=λ vs H Q E=>∃ v t,vs=[v]/\Ru C H t v/\t.parts.length<=20/\(∀ p∈t.parts,p.length<=20)/\((rZ t).all id=true->∀ H',Ext H H'->Q .ù H')/\∀ i,eH (rZ t) i->∀ H',Ext H H'->bM CN "block" (.int (i:Nat)) H' E
theorem RM:ae ["rule","number","block","mark"] ["rule"] (aa JS):=aO
theorem G8 {D CN fC:Addr}{NX:FuncData}(F:ğ K "need_pairs" "need_pairs" JS f fd)(M:Ms P w K mg base C)(B:Į K D)(T:iI K mg D "NoPairs" "block" CN fC NX)(A1:Df P w K mg base ay 2 "block_marks" ["rule"] (Ft C) a1 d1)(me:mg "enumerate" = none)(mz:mg "zip" = none)(ml:mg "len" = none):ß P w K mg base (cp P w) 3 f fd ["rule"] (FP C CN):=by
 refine fK F RM λ cdv A outer s H vs Q E hr h=>?_;obtain⟨v,t,rfl,ru,LI,UB,qn,qe⟩:=h;have nd:=RM.nd;have Ħ:ö 1 _:=hr.mono ad;refine⟨_,bj (gk Om rfl (Gd rfl me rfl mz (ac (bN (pv 0) M.blocks Ħ ai) (ac (cq A1 hr ai (ac (pv 0) aq)) aq)))
   (cT rfl (gy (dG (i:=1) nd rfl (Or.inl rfl)) (gy (cT rfl (gy (dG (i:=2) nd rfl (Or.inl rfl)) (gy (dG (i:=3) nd rfl (Or.inl rfl)) bT))) bT)))
   (bj (bf (PW.pt (fV (aA gC (ft oA (pv 3) aB) av (az _)) (dH (aA cZ (aC fG (ah aF rfl ml ñ (ac (pv 2) aq)) aB) aB (az _)))))
    (bj (cu B T.cls (T.ok P w base) hr T.bi rfl T.Mv (pv 1))) fF))),?_⟩
 refine cF (t:=t) ao ru (λ R r=>⟨_,rfl,r⟩) ⟨v,t,rfl,ru,LI,UB,λ l bs H1 x1 nl hl lb fb WX hbs=>?_⟩;refine⟨_,rfl,v,t,rfl,ru.ext x1,λ p ms H2 x2 hp rm=>?_⟩;have Oc:=x2 _ _ hl;have lm:=rm.length;rw [Ä] at lm;have len:(rZ t).length=min (bs.map V.ref).length ms.length:=by
  unfold rZ;rw [List.length_zipWith,Ä,WX,lm]
 refine⟨l,p,rfl,⟨_,ó.of Oc⟩,⟨_,ĥ.of hp⟩,Cr (xs:=bs.map V.ref) (ys:=ms) (λ i σ H'=>Ext H2 H'/\(∀(j:Nat) b,j<i->(rZ t)[j]?=some b->b=true)/\∃ o1 o2 o3,σ=[some v,o1,o2,o3]) ⟨Ext.refl _,λ j d h=>absurd h (Ś _),_,_,_,rfl⟩ ?_ ?_ ?_⟩
 ·rintro i σ H' _ ⟨x',_⟩;exact⟨ó.of (x' _ _ Oc),ĥ.of (x' _ _ hp)⟩
 ·rintro i x y σ H' q1 p1 ex ey ⟨x',good,o1,o2,o3,rfl⟩ hq Vz ne;have xa:=Ext.new (o:=.tup [x,y]) hq;have Vy:af H' q1 (.tup [x,y]) p1=none:=by rw [au ne];exact Vz
  have xb:=Ext.new (o:=.tup [.int (i:Nat),.ref q1]) Vy;have x3:=(x'.trans xa).trans xb;have gq:=xb _ _ (show af H' q1 (.tup [x,y]) q1=some (.tup [x,y]) from aR);have gp:af (af H' q1 (.tup [x,y])) p1 (.tup [.int (i:Nat),.ref q1]) p1=some (.tup [.int (i:Nat),.ref q1]):=aR;generalize af (af H' q1 (.tup [x,y])) p1 (.tup [.int (i:Nat),.ref q1])=H3 at x3 gq gp ⊢;rw [Ò] at ex;obtain⟨b,eb,rfl⟩:=á.mp ex;obtain⟨d,ed,rd⟩:=rm.get ey;rw [Ò] at ed;obtain⟨r,er,rfl⟩:=á.mp ed;have li:i<t.parts.length:=by rw [<- WX];exact(Ë.mp eb).1
  have ep:=Â li;have hb:=x3 _ _ (x2 _ _ (hbs i b _ eb ep));obtain⟨m,zs,rfl,hm⟩:=R0.mark (rd.mono x3);have em:(rZ t)[i]?=some (r.Rm&&decide (t.parts[i].length%2=0)):=by
   unfold rZ;rw [List.getElem?_zipWith,ep,er]
  refine⟨p1,_,rfl,ĥ.of gp,rfl,_,_,rfl,_,_,rfl,q1,_,rfl,ĥ.of gq,rfl,_,_,rfl,_,_,rfl,rfl,rfl,?_⟩;have bad:(r.Rm&&decide (t.parts[i].length%2=0))=false->bM CN "block" (.int (i:Nat)) H3 E:=λ e=>qe i ⟨good,by rw [em,e]⟩ _ ((x1.trans x2).trans x3)
  have next:(r.Rm&&decide (t.parts[i].length%2=0))=true->(Ext H2 H3/\(∀(j:Nat) b,j<i+1->(rZ t)[j]?=some b->b=true)):=λ e=>⟨x3,λ j d' hj hd=>by
   rcases Ĳ j i with lt | ge
   ·exact good j d' lt hd
   ·have e0:j=i:=am;subst e0;rw [em,e] at hd;cases hd;rfl⟩
  refine⟨_,rfl,m,_,_,_,rfl,rfl,ĥ.of hm,gS (j:=0) rfl,rfl,_,rfl,?_⟩;rw [R0.QE];cases hp:r.Rm with
  | false=>exact cQ (cQ ⟨_,rfl,λ e' dx h1 h2 nd=>dM nd (bad (by rw [hp];rfl) e' dx h1 h2 nd)⟩)
  | true =>
   refine cE ⟨_,rfl,b,_,rfl,.inl (ó.of hb),_,_,rfl,rfl,(by show(0:Int)<2;decide),rfl,_,rfl,?_⟩
   rw [Ä];by_cases e:t.parts[i].length%2=0
   ·rw [É (λ z=>by have z':=V.int.inj z;omega)]
    obtain⟨xx,gg⟩:=next (by rw [hp,Å e];rfl)
    exact cE ⟨xx,gg,_,_,_,rfl⟩
   ·have one:((t.parts[i].length:Nat):Int)%2=1:=am;rw [Å (show V.int (((t.parts[i].length:Nat):Int)%2)=V.int 1 from by rw [one])]
    exact cQ ⟨_,rfl,λ e' dx h1 h2 nd=>dM nd (bad (by rw [hp,É e];rfl) e' dx h1 h2 nd)⟩
 ·rintro σ H' ⟨x',good,o1,o2,o3,rfl⟩;refine qn ?_ H' ((x1.trans x2).trans x');rw [ě];intro d hd;obtain⟨j,hj,e⟩:=Ĺ hd;exact good j d (by rw [<- len];exact hj) (by rw [Â hj,e])
end
section
variable {P:Program}{w:World}{K:Frag}{mg:bv}{base:Heap}{C:Nat->Addr}{CR f a1:Addr}{fd d1:FuncData}
def oV (H:Hp)(ns:List Int)(Q:VK):Prop:=∀ l H',Ext H H'->H l=none->H' l=some (.lst (ns.map V.int))->Q (.ref l) H'
abbrev AL:Stmt:=aE (cr 64) 2
def v9 (sc:List (Int × Bool)->List Int):Sp:=λ vs H Q _=>∃ v a xs os,vs=[v,.ref a]/\H a=some (.lst xs)/\vi H xs os/\os.length<=20/\oV H (sc os) Q
theorem EJ:ae ["self","outcomes"] ["self","outcomes"] (aa AL):=aO
abbrev GR:Scope:=eZ [("number",.local),("sure",.local)]
theorem uK {X:Cx}:bL X GR [] ["number","sure"] [] []:=by
 refine⟨rfl,rfl,ao,ao,ao,(λ z c h=>nomatch h),(λ z h=>?_),ao,(λ k z h=>by simp at h),rfl⟩
 exfalso;have h':List.lookup z [((".0" : Str),NameKind.local),(("number" : Str),NameKind.local),(("sure" : Str),NameKind.local)]=some .cell\/List.lookup z [((".0" : Str),NameKind.local),(("number" : Str),NameKind.local),(("sure" : Str),NameKind.local)]=some .free:=h;simp only [List.lookup_cons,List.lookup_nil] at h'
 repeat' (split at h')
 all_goals simp at h'
theorem wZ:((["number","sure"]:List Str)++([]:List Str)).Nodup:=ao
def xz (K:Frag):TG:=v5 K 2 (gB (bF 0) (gB (bF 1) sd))
theorem qd {i:Nat}{σ:St}{H:Hp}{a:Addr}{xs:List V}{os:List (Int × Bool)}{Q:VK}(si:σ[i]?=some (some (.ref a)))(ha:H a=some (.lst xs))(oc:vi H xs os)(lo:os.length<=20)(q:oV H (os.map (·.1)) Q):fZ (cO K (ar i)) 2 [] (xz K) (ar 0) σ H Q:=by
 obtain⟨lx,oc⟩:=oc;refine⟨_,si,a,rfl,⟨_,ó.of ha⟩,λ D hD=>?_⟩;refine cI (a:=a) (xs:=xs) (λ i ys H'=>Ext H H'/\ys=((os.take i).map (·.1)).map V.int) (by rw [Ö];omega) ⟨Ext.new hD,rfl⟩ (λ i ys H' pv=>ó.of (pv.1 _ _ ha)) ?_ ?_
 ·rintro i x ys H' ex ly ĩ ⟨x',ey⟩ OH ŋ R k;obtain⟨o0,o1,rfl⟩:∃ o0 o1,OH=[o0,o1]:=by
   match OH,ŋ with
   | [o0,o1],_=>exact⟨o0,o1,rfl⟩
  have li:i<os.length:=by rw [<- lx];exact(Ë.mp ex).1
  have eo:=Â li;obtain⟨p,rfl,hp⟩:=oc i x _ ex eo;refine⟨p,_,rfl,ĥ.of (x' _ _ hp),rfl,_,_,rfl,_,_,rfl,rfl,⟨[some (.int os[i].1),some (.bl os[i].2)],rfl,rfl⟩,_,rfl,?_⟩;refine k _ H' ĩ ⟨bz _ x' hD,?_⟩;rw [aQ eo,Ï,Ï,<- ey];rfl
 ·rintro ys H' ly ĩ ⟨x',ey⟩;rw [lx,ä] at ey;rw [ey] at ĩ;exact q D H' x' hD ĩ
theorem yV (F:ğ K "among" "Sum.among" AL f fd):ß P w K mg base ay 1 f fd ["self","outcomes"] (v9 λ os=>os.map (·.1)):=by
 refine cw F EJ λ cdv A outer s H vs Q E hr h=>?_;obtain⟨v,a,xs,os,rfl,ha,oc,lo,q⟩:=h;refine⟨_,bj (cM (dL (te:=ar 0) (g:=xz K) rfl uK (bC (pv 1)) (λ s H C fp=>by exact cT rfl (gy (dG (i:=0) wZ rfl (.inl rfl)) (gy (dG (i:=1) wZ rfl (.inl rfl)) bT))) (λ s H C fp=>by exact pv 0))),?_⟩
 exact qd rfl ha oc lo q
end
section
variable {X:Cx}
def pf (K:Frag):List V->Hp->VK->Prop:=λ xs H Q=>∃(p:Addr)(ns:List Int),xs=[.ref p]/\ó K H p (ns.map V.int)/\ns.length<64/\∀(l:Addr)(Ũ:List Int),H l=none->Ũ.Perm ns->Ũ.Pairwise (· <= ·)->Q (.ref l) (af H l (.lst (Ũ.map V.int)))
theorem pC:cP X (.builtin "sorted") (pf X.K):=by
 intro Ã s σ H xs us Q I r h;obtain⟨p,ns,rfl,hq,hl,q⟩:=h;obtain⟨u,rfl,rx⟩:=eG r;cases rx;obtain⟨its,r',pl,hz⟩:=I.list hq;have ķ:=r'.length;rw [Ä] at ķ;refine PyProof.Rows.sorted_ints (vs:=its) pl.isList (jH r') am λ out Ũ a1 a2 a3=>?_;obtain⟨e,he⟩:=PyProof.Rows.sortedAll_at s.heap its out;refine⟨.ref (s.heap.objs.size+1),_,I.laid (t':=s.toks) (λ _ _=>PyProof.Rows.sortedAll_old) (Ÿ _) (show Ā X.prog X.w _ _ _ (.lst (Ũ.map V.int)) from⟨?_,out.toList,e,iJ a1,?_⟩),rfl,q _ Ũ (I.Ć.fresh (Ÿ _)) a2 a3⟩
 ·rw [Ä,a2.length_eq,Ö];omega
 ·exact he
def yO (K:Frag):V->List V->Hp->VK->Prop:=λ x vs H Q=>∃(l:Addr)(ns:List Int)(k:Int),x=.ref l/\vs=[.int k]/\ó K H l (ns.map V.int)/\k∈ns/\Q (.int (ns.idxOf k:Nat)) H
theorem vw:HA X "list.index" (yO X.K):=by
 intro Ã s σ H x vs v us Q I rx rv h;obtain⟨l,ns,k,rfl,rfl,hl,hk,q⟩:=h;cases rx;obtain⟨u,rfl,ru⟩:=eG rv;obtain⟨t,e⟩:=(show ∃ t,u=Value.int k t from ru);subst e;obtain⟨its,r,pl,hz⟩:=I.list hl;have hi:=jH r;obtain⟨⟨cls,dd,data,sl⟩,ho,hc,n,hd⟩:=id pl.isList;simp only at hc hd;subst hc hd;have ķ:=hi.length;have hj:ns.idxOf k<ns.length:=List.idxOf_lt_length_iff.mpr hk;have Rn:ns.length<=16777216:=by rw [Ä,Ö] at hz;exact hz
 refine LM š ⟨_,ho,rfl⟩ Pr (Pf _ _)
  (SeqAt.list_indexAt l its.toArray n dd sl (.int k t) (PyProof.Rows.isInt k) (ns.idxOf k) (by simpa [ķ] using hj) am ?_ ?_) ⟨ho,λ y hy=>(PyProof.Rows.eq_isInt k t hi y (by simpa using hy)).at _ _,⟨.int _,H,I.tok _,⟨_,rfl⟩,q⟩⟩
 ·show PyProof.Rows.isInt k its[ns.idxOf k]=true;rw [PyProof.Rows.isInt_at k hi _ am hj]
  simpa using List.getElem_idxOf hj
 ·intro j hjs ſ;have h1:j<ns.length:=am;show PyProof.Rows.isInt k (its[j]'am)=false;rw [PyProof.Rows.isInt_at k hi _ am h1];have:=List.not_of_lt_findIdx ſ
  simpa using this
end
end My
namespace My
open PySem L2
section
variable {prog:Program}{w:World}{A:Around}{R:Result->Shared->Prop}{s:Shared}
theorem oR {kx vx target iter:Expr}{scope:Scope}{pos:Pos}{it:Value}{D:Addr}{env:Env}(J:Nat->Shared->Prop)
  (turn:∀ n s,J n s->wpAny (model prog w) A (pyNext it) (λ r Ą=>match r with
   | none=>R (.ok .next) Ą
   | some v=>wpAny (model prog w) A (letOwnedTupleGo target it v) (λ _ ő=>wpAny (model prog w) A (assign target env v) (λ _ j_=>wpAny (model prog w) A (eval kx env)
     (λ kv MY=>wpAny (model prog w) A (eval vx env) (λ vv MX=>wpAny (model prog w) A (dictSet D kv vv) (λ _ RE=>∃ m,m<n/\J m RE) (λ _ _=>False) MX) (λ _ _=>False) MY) (λ _ _=>False) j_) (λ _ _=>False) ő) (λ _ _=>False) Ą) (λ _ _=>False) s)
  (n:Nat)(h:J n s):codeAny (model prog w) A (.compLoop (.DictComp kx vx [⟨target,iter,[],0⟩] scope pos) 0 it (.ref D) env) R s:=by
 refine codeAny_loop rfl J (λ n s hJ=>?_) n h;show wpAny _ _ (Sem.onRaise (compTurn (.DictComp kx vx [⟨target,iter,[],0⟩] scope pos) 0 it (.ref D) env) (λ x=>do noteFrame x env;theTreesLotGoes x)) _ _ s
 refine wpAny_noted ?_;rw [compTurn_dict];refine À (ĭ (À (æ (turn n s hJ) (λ r Ą Ņ=>?_) λ _ _ z=>z.elim)));cases r with
 | none=>exact Æ Ņ
 | some v =>
  refine À (æ Ņ (λ _ ő LB=>?_) λ _ _ z=>z.elim);refine À (æ LB (λ _ j_ Nk=>?_) λ _ _ z=>z.elim);refine À (Æ ?_);exact À (À (æ Nk (λ kv MY OT=>À (þ (æ OT (λ vv MX OS=>À (ĭ (þ (æ OS (λ _ RE Vm=>Æ ⟨rfl,Vm⟩) λ _ _ z=>z.elim)))) λ _ _ z=>z.elim))) λ _ _ z=>z.elim))
end
section
variable {X:Cx}
theorem CA {Ã:List (Addr × Obj)}{σ:St}{H:Hp}{s:Shared}{a:Addr}{kvs:List (Key × V)}{k:Key}{v:V}{u r:Value}{A:Around}{E:cy}{Q:Unit->Shared->Prop}(I:Inv X Ã σ H s)(e:H a=some (.dK kvs))(l:kvs.length<sizeLine)(ry:RelV (kV k) u)(rv:RelV v r)
  (h:∀ s',Inv X Ã σ (af H a (.dK (jK kvs k v))) s'->Q () s'):wpAny (model X.prog X.w) A (dictSet a u r) Q E s:=by
 obtain⟨z,hd,vs,rel,dd⟩:=Ez I.Ć e;refine wpAny_dictSet_pairs (sg ry) dd (λ h' Rr hs=>h _ ?_) (by rw [<- rel.length];exact z)
 have he:∃ q,h'.get? a=some q:=let ⟨q,_,_,hq,_⟩:=Rr;⟨q,hq⟩
 exact ww I (by rw [e];exact True.intro) hs he (Dy (by have:=iO kvs k v;omega) hd (rel.put k rv) Rr)
end
def Fc (wi:TI)(k:Nat)(js:List Nat)(g:TG)(tk tv:TE):TE:=λ σ H Q=>wi σ H λ J H1=>∀ D,H1 D=none->∃ W:Nat->Nat->List (Key × V)->Hp->Prop,(∃ m,W 0 m [] (af H1 D (.dK []))) /\
 ∀ i m ys H2,W i m ys H2->H2 D=some (.dK ys)/\((J.stop i H2/\Q (.ref D) H2)\/(J.go i H2/\ys.length<sizeLine /\
  ∀ x H3,J.L_ i H2 x H3->∀ os:St,os.length=k->g x (os++dh js σ) H3 λ İ H0=>(∃ ŀ:St,ŀ.length=k/\İ = ŀ ++ dh js σ)/\tk İ H0 λ y H4=>tv İ H4 λ v H5=>∃ key,y=kV key/\H5 D=some (.dK ys)/\∃ m',m'<m/\W (i+1) m' (jK ys key v) (af H5 D (.dK (jK ys key v)))))
section
variable {X:Cx}{sc:Scope}{cl:List (Str × Addr)}{ts zs:List Str}{js:List Nat}{kx vx iter:Expr}{pos:Pos}{tg:Expr}{g:TG}{wi:TI}{tk tv:TE}
theorem Dg (hc:X.calm=true)(S:bL X sc cl ts zs js)(hi:PI X tg iter wi)(hg:∀ s H C fp,PG (bJ X sc cl (ts++zs) s H C fp) tg g)(hk:∀ s H C fp,PE (bJ X sc cl (ts++zs) s H C fp) kx tk)(hv:∀ s H C fp,PE (bJ X sc cl (ts++zs) s H C fp) vx tv)
  (hs:∀ v,foldedSetIterable iter X.env v=pure v:=by intro _;rfl):PE X (.DictComp kx vx [⟨tg,iter,[],0⟩] sc pos) (Fc wi ts.length js g tk tv):=by
 intro Ã s σ H Q I h;rw [arm_eval_DictComp];refine Ľ (use:=none) rfl hs S.e_ S.kind S.names (aW (hi Ã s σ H _ I h) λ v s1 h1=>aW h1 λ QP s2 h2=>?_);obtain⟨it,fp,tn,J,H2,e,I2,T,LX,f2,body⟩:=h2;subst e;have PZ:H2 s2.heap.objs.size=none:=I2.fresh;obtain⟨W,⟨m0,w0⟩,turn⟩:=body _ PZ;refine ý ?_;have I3:Inv X Ã σ (af H2 s2.heap.objs.size (.dK [])) { s2 with heap:=s2.heap.push { cls:=.type "dict",data:=.dict #[] } }:=I2.laid (a:=s2.heap.objs.size) (o:=.dK []) (t':=s2.toks) (λ _ _ q=>Á _ q) (Ç _) (nZ s2.heap I2.big)
 refine Λ S.Mp (by intro y hy;simp at hy) (λ Ņ hn NB=>?_) S.kind
 generalize Mx:({ s2 with heap:=s2.heap.push { cls:=.type "dict",data:=.dict #[] } }:Shared)=s3 at I3 hn NB ⊢
 have F':∀ b∈fp,dF X Ã (af H2 s2.heap.objs.size (.dK [])) b/\b<s3.heap.objs.size:=λ b hb=>by
  obtain⟨o,ho,_⟩:=T.obj _ _ LX b hb;have hl:=È ho;have PN:b≠s2.heap.objs.size:=Î hl;obtain⟨z1,z2⟩:=f2 b hb;refine⟨⟨by rw [au PN];exact z1,z2⟩,?_⟩
  rw [<- Mx];show b<(s2.heap.push _).objs.size;rw [ë];exact û hl
 have old:∀ b o,s3.heap.get? b=some o->Ņ.get? b=some o:=λ b o e=>NB.extBut b o (Î (È e)) (Á _ e);have loop:∀ sS:Shared,sS.heap = Ņ->sS.os=s3.os->sS.gens=s3.gens->codeAny (model X.prog X.w) X.A (.compLoop (.DictComp kx vx [⟨tg,iter,[],0⟩] sc pos) 0 (.ref it) (.ref s2.heap.objs.size) (compEnvC sc cl s3.heap.objs.size X.env))
   (compPost (model X.prog X.w) X.A X.xe none (EP X Ã σ Q) (.ref s2.heap.objs.size) s3.heap.objs.size) sS:=by
  intro sS eh eo eg;subst eh;have J0:Inv (bJ X sc cl (ts++zs) s3 (af H2 s2.heap.objs.size (.dK [])) s3.heap.objs.size fp) [] (List.replicate ts.length none++dh js σ) (af H2 s2.heap.objs.size (.dK [])) sS:=eQ I3 S F' (Ç _) eo eg old hn;generalize hX:bJ X sc cl (ts++zs) s3 (af H2 s2.heap.objs.size (.dK [])) s3.heap.objs.size fp=X' at J0;have ŧ:∀{H':Hp},(∀ b∈fp,H' b=none)->∀ b∈fp,dF X' [] H' b:=λ {H'} hn b hb=>by
   subst hX;obtain⟨⟨_,z1,z2,z3,z4,z5⟩,z6⟩:=F' b hb;refine⟨hn b hb,Î z6,λ q=>?_,.inl hb,λ y c e=>z4 y c (S.sub _ _ e),λ p hp=>absurd (show p∈([]:List (Addr × Obj)) from hp) (by simp)⟩
   rcases ç.mp (I3.ų b q) with e | e
   ·exact z1 e
   ·exact z2 e
  have N6:tn 0 sS.heap:=T.keep _ _ _ LX λ b hb o e=>old b o (by rw [<- Mx];exact Á _ e)
  refine oR (λ n s'=>∃ i ys os H',os.length=ts.length/\Inv X' [] (os++dh js σ) H' s'/\tn i s'.heap/\(∀ b∈fp,H' b=none)/\W i n ys H') ?_ m0 ⟨0,[],_,_,Ý,J0,N6,λ b hb=>(F' b hb).1.1,w0⟩;rintro n s' ⟨i,ys,os,H',ŋ,Iv,st,fr,w⟩;obtain⟨hD,alt⟩:=turn i n ys H' w;have eP:X'.prog=X.prog:=by subst hX;rfl
  have eW:X'.w=X.w:=by subst hX;rfl
  have eK:X'.K=X.K:=by subst hX;rfl
  have eC:X'.calm=true:=by subst hX;exact hc
  have eA:X'.A=X.A:=by subst hX;rfl
  have eE:X'.env=compEnvC sc cl s3.heap.objs.size X.env:=by subst hX;rfl
  have eX:X'.xe = λ _ _=>False:=by subst hX;rfl
  rcases alt with⟨stop,q⟩ | ⟨go,ķ,step⟩
  ·have d:=T.done X' eP eW eK eC i [] s' _ H' (λ _ _=>False) Iv (ŧ fr) st stop;rw [eA] at d;refine aW d λ r s4 ⟨hr,I4⟩=>?_;subst hr;obtain⟨m,hm,_⟩:=id I4.loc;rw [eE] at hm;subst hX;exact⟨m,hm,λ h' OW=>⟨.ref s2.heap.objs.size,H',gn I3 F' (Ç _) I4 OW,rfl,q⟩⟩
  ·have d:=T.item X' eP eW eK eC i [] s' _ H' (λ _ _=>False) Iv (ŧ fr) st go;rw [eA] at d;refine aW d λ r s4 ⟨u,hr,h4⟩=>?_;subst hr;refine aW h4 λ _ s5 ⟨y,H5,I5,r5,y5,z_,O5⟩=>?_;have Pd:=I5.pinned (ŧ O5) (T.obj _ _ z_);have PQ:PG X' tg g:=by subst hX;exact hg _ _ _ _
   have g6:=PQ _ s5 _ H5 y u _ Pd r5 (step y H5 y5 os ŋ);rw [eP,eW,eA,eE,eX] at g6;refine aW g6 λ _ s6 ⟨Rg,H6,I6,⟨ŀ,L5,e6⟩,PD⟩=>?_;subst e6;have TD:PE X' kx tk:=by subst hX;exact hk _ _ _ _
   have g7:=TD _ s6 _ H6 _ I6 PD;rw [eP,eW,eA,eE,eX] at g7;refine aW g7 λ ku s7 ⟨k7,H7,I7,Ut,Z'⟩=>?_;have Qm:PE X' vx tv:=by subst hX;exact hv _ _ _ _
   have g8:=Qm _ s7 _ H7 _ I7 Z';rw [eP,eW,eA,eE,eX] at g8;refine aW g8 λ uv s8 ⟨v8,H8',I8',r8,key,ek,hD8,m',NV,w8⟩=>?_;subst ek;have g9:=CA (X:=X') (A:=X'.A) (E:=X'.xe) (Q:=λ _ s9=>Inv X' _ _ (af H8' s2.heap.objs.size (.dK (jK ys key v8))) s9) I8' hD8 ķ Ut r8 λ s9 I9=>I9;rw [eP,eW,eA,eX] at g9;refine aW g9 λ _ s9 I8=>?_;refine⟨m',NV,i+1,jK ys key v8,ŀ,_,L5,I8.Ő,T.keep _ _ _ z_ λ b hb o e=>(I8.pin (b,o) (Ì _ (Ì _ (ba hb e)))).1,λ b hb=>?_,w8⟩;obtain⟨o',e',_⟩:=T.obj _ _ z_ b hb;exact(I8.pin (b,o') (Ì _ (Ì _ (ba hb e')))).2.1
 have N7:tn 0 Ņ:=T.keep _ _ _ LX λ b hb o e=>old b o (by rw [<- Mx];exact Á _ e)
 exact codeAny_compStart_dict (loop _ rfl rfl rfl) (T.self _ 0 _ _ _ N7 (loop _ rfl rfl rfl))
end
end My
namespace My
open PySem PySem.W L2
theorem nH {n z:Str}{a c:Addr}(h:List.lookup z [(n,a)]=some c):z=n/\c=a:=by
 rw [è] at h;cases e:z==n with
 | true=>rw [e] at h;exact⟨ā.mp e,(Û h).symm⟩
 | false=>rw [e] at h;cases h
theorem pI {X:Cx}{sc:Scope}{ts:List Str}{z0:Str}{c0:Addr}{j:Nat}{L:List (Str × NameKind)}(e_:closureFor sc X.env=pure [(z0,c0)])(kind:sc.kind=.function)(nc:∀ y∈sc.names,y.2 ≠ .cell)(nm:∀ y∈sc.names,y.2=.local->sc.names.lookup y.1=some .local)(var:∀ x∈ts,sc.names.lookup x=some .local)
  (hc:X.env.cells.lookup z0=some c0)(rl:(relabel sc X.env).names=L)(has:∀ y∈L,(y.2=.cell\/y.2=.free)->y.1=z0)(nd:(ts ++ [z0]).Nodup)(hj:X.N[j]?=some z0)(Z3:yu X.env.scope z0)(nl:X.env.kindOf z0≠some .local)(cf:L.lookup z0=some .cell\/L.lookup z0=some .free):bL X sc [(z0,c0)] ts [z0] [j]:=by
 refine⟨e_,kind,nc,nm,var,λ z c h=>?_,λ z h=>?_,nd,λ k z h=>?_,rfl⟩
 ·obtain⟨rfl,rfl⟩:=nH h;exact hc
 ·rw [rl] at h;have:z=z0:=by
   rcases h with h | h
   ·exact has _ (Ú h) (.inl rfl)
   ·exact has _ (Ú h) (.inr rfl)
  subst this;exact⟨c0,by rw [è,Ĩ]⟩
 ·match k,h with
  | 0,h =>
   have h:some z0=some z:=h;cases h;exact⟨j,rfl,hj,Z3,nl,by rw [rl];exact cf⟩
  | k+1,h=>simp at h
theorem oC {X:Cx}{sc:Scope}{ts:List Str}{L:List (Str × NameKind)}(e_:closureFor sc X.env=pure [])(kind:sc.kind=.function)(nc:∀ y∈sc.names,y.2 ≠ .cell)(nm:∀ y∈sc.names,y.2=.local->sc.names.lookup y.1=some .local)(var:∀ x∈ts,sc.names.lookup x=some .local)
  (rl:(relabel sc X.env).names=L)(has:∀ y∈L,¬(y.2=.cell\/y.2=.free))(nd:(ts ++ []).Nodup):bL X sc [] ts [] []:=by
 refine⟨e_,kind,nc,nm,var,(λ z c h=>by cases h),λ z h=>?_,nd,(λ k z h=>by simp at h),rfl⟩
 rw [rl] at h;rcases h with h | h
 ·exact absurd (.inl rfl) (has _ (Ú h))
 ·exact absurd (.inr rfl) (has _ (Ú h))
theorem G4 {n m z:Str}{a b c:Addr}(h:List.lookup z [(n,a),(m,b)]=some c):(z=n/\c=a)\/(z=m/\c=b):=by
 rw [è] at h;cases e:z==n with
 | true=>rw [e] at h;exact .inl ⟨ā.mp e,(Û h).symm⟩
 | false =>
  rw [e] at h;have h:List.lookup z [(m,b)]=some c:=h;rw [è] at h;cases e2:z==m with
  | true=>rw [e2] at h;exact .inr ⟨ā.mp e2,(Û h).symm⟩
  | false=>rw [e2] at h;cases h
theorem CY {X:Cx}{sc:Scope}{ts:List Str}{z1 z2 y1 y2:Str}{c1 c2:Addr}{j1 j2:Nat}{L:List (Str × NameKind)}(e_:closureFor sc X.env=pure [(y1,c1),(y2,c2)])(kind:sc.kind=.function)(nc:∀ y∈sc.names,y.2 ≠ .cell)(nm:∀ y∈sc.names,y.2=.local->sc.names.lookup y.1=some .local)(var:∀ x∈ts,sc.names.lookup x=some .local)
  (h1:X.env.cells.lookup y1=some c1)(h2:X.env.cells.lookup y2=some c2)(rl:(relabel sc X.env).names=L)(has:∀ y∈L,(y.2=.cell\/y.2=.free)->y.1=y1\/y.1=y2)(ny:y1≠y2)(nd:(ts ++ [z1,z2]).Nodup)
  (g1:X.N[j1]?=some z1)(g2:X.N[j2]?=some z2)(v1:yu X.env.scope z1)(v2:yu X.env.scope z2)(n1:X.env.kindOf z1≠some .local)(n2:X.env.kindOf z2≠some .local)(f1:L.lookup z1=some .cell\/L.lookup z1=some .free)(f2:L.lookup z2=some .cell\/L.lookup z2=some .free):bL X sc [(y1,c1),(y2,c2)] ts [z1,z2] [j1,j2]:=by
 refine⟨e_,kind,nc,nm,var,λ z c h=>?_,λ z h=>?_,nd,λ k z h=>?_,rfl⟩
 ·rcases G4 h with⟨rfl,rfl⟩ | ⟨rfl,rfl⟩
  ·exact h1
  ·exact h2
 ·rw [rl] at h;have e:z=y1\/z=y2:=by
   rcases h with h | h
   ·exact has _ (Ú h) (.inl rfl)
   ·exact has _ (Ú h) (.inr rfl)
  rcases e with rfl | rfl
  ·exact⟨c1,by rw [è,Ĩ]⟩
  ·refine⟨c2,?_⟩;rw [è,Ù.mpr ny.symm];show List.lookup z [(z,c2)]=_;rw [è,Ĩ]
 ·match k,h with
  | 0,h =>
   have h:some z1=some z:=h;cases h;exact⟨j1,rfl,g1,v1,n1,by rw [rl];exact f1⟩
  | 1,h =>
   have h:some z2=some z:=h;cases h;exact⟨j2,rfl,g2,v2,n2,by rw [rl];exact f2⟩
  | k+2,h=>simp at h
section
variable {P:Program}{w:World}{K:Frag}{mg:bv}{base:Heap}{C:Nat->Addr}{CR f a1:Addr}{fd d1:FuncData}
abbrev i4:Stmt:=aE (cr 65) 2
abbrev HD:List Str:=["self","outcomes","numbers","firsts"]
theorem P8:ae HD ["self","outcomes"] (aa i4):=aO
abbrev F8:Scope:=eZ [("number",.local),("numbers",.free)]
abbrev FR:Scope:=eZ [("number",.local),("sure",.local),("firsts",.free),("numbers",.free)]
section
variable {cdv:Value}{A:Around}{outer:List Env}{s:Shared}{H:Hp}{E:XK}
theorem vp:bL (br ay P w K mg base HD "Ranks.among" (aa i4) f cdv A outer s H E).Ŝ F8 [("numbers",s.heap.objs.size+1)] ["number"] ["numbers"] [2] :=
 pI (L:=[(".0",.local),("number",.local),("numbers",.cell)]) rfl rfl ao ao ao rfl rfl ao ao rfl (.inr (.inl rfl)) (by show(aa i4).names.lookup ("numbers" : Str)≠some NameKind.local;decide +kernel) (.inl rfl)
theorem xE:bL (br ay P w K mg base HD "Ranks.among" (aa i4) f cdv A outer s H E).Ŝ FR [("numbers",s.heap.objs.size+1),("firsts",s.heap.objs.size+2)] ["number","sure"] ["firsts","numbers"] [3,2] :=
 CY (L:=[(".0",.local),("number",.local),("sure",.local),("firsts",.cell),("numbers",.cell)]) rfl rfl ao ao ao rfl rfl rfl ao ao ao rfl rfl (.inr (.inl rfl)) (.inr (.inl rfl)) (by show(aa i4).names.lookup ("firsts" : Str)≠some NameKind.local;decide +kernel) (by show(aa i4).names.lookup ("numbers" : Str)≠some NameKind.local;decide +kernel) (.inl rfl) (.inl rfl)
end
theorem FA:((["number"]:List Str)++(["numbers"]:List Str)).Nodup:=ao
theorem yk:((["number","sure"]:List Str)++(["firsts","numbers"]:List Str)).Nodup:=ao
def IJ (K:Frag):TS:=cV (iQ (pf K) (ag (fZ (cO K (ar 1)) 2 [] (xz K) (ar 0)) aG)) (bF 2)
def Ec (K:Frag):TE:=aS (eO λ i j=>.int (i+j)) (yG K "list" (yO K) (ar 1) (ag (ar 0) aG)) (tC (.int 1))
def D4 (K:Frag):TS:=cV (Fc (cO K (ar 2)) 1 [2] (bF 0) (ar 0) (Ec K)) (bF 3)
def Aj (K:Frag):TE:=aS (eO λ i j=>.int (i-j)) (aS (eO λ i j=>.int (i+j)) (aS (rI δ λ i j=>.int (i*j)) (tC (.int 2)) (yJ (ar 2) (ar 0))) (yG K "list" (pL K) (ar 3) (ag (ar 0) aG))) (tC (.int 1))
def yU (K:Frag):TS:=cW (fZ (cO K (ar 1)) 2 [3,2] (xz K) (Aj K))
section
variable {cdv:Value}{A:Around}{outer:List Env}{s:Shared}{H:Hp}{E:XK}
abbrev qX (k:Nat)(q:Str)(st:Stmt)(A:Around)(s:Shared)(f:Addr)(c:Value):Prop:=ö k (A.deeper (PyProof.Rows.envOfC q (aa st) s.heap.objs.size f c))
theorem Bn (ms:mg "sorted" = none)(hr:qX 0 "Ranks.among" i4 A s f cdv):Bx (Ų (br ay P w K mg base HD "Ranks.among" (aa i4) f cdv A outer s H E).Ŝ (aH i4) (aZ (IJ K) (aZ (D4 K) (yU K)))):=by
 have nd:=P8.nd;have hu:(A.deeper (PyProof.Rows.envOfC "Ranks.among" (aa i4) s.heap.objs.size f cdv)).units+1<cLine:=by have:=hr.un;omega
 exact cA ⟨mq (i:=2) nd rfl (Or.inr rfl) (ah pC rfl ms PyProof.Rows.boot_sorted (ac (dL (te:=ar 0) (g:=xz K) rfl uK (bC (pv 1)) (λ s H C fp=>by exact cT rfl (gy (dG (i:=0) wZ rfl (.inl rfl)) (gy (dG (i:=1) wZ rfl (.inl rfl)) bT))) (λ s H C fp=>by exact pv 0)) aq))⟩
  (cA ⟨mq (i:=3) nd rfl (Or.inr rfl) (Dg (tk:=ar 0) (tv:=Ec K) (g:=bF 0) rfl vp (bC (pv 2)) (λ s H C fp=>by exact dG (i:=0) FA rfl (.inl rfl)) (λ s H C fp=>by exact pv 0) (λ s H C fp=>by exact aC cj (jV ď š P3 vw (pv 1) (ac (pv 0) aq)) aB))⟩
  (be ⟨cM (dL (te:=Aj K) (g:=xz K) rfl xE (bC (pv 1)) (λ s H C fp=>by exact cT rfl (gy (dG (i:=0) yk rfl (.inl rfl)) (gy (dG (i:=1) yk rfl (.inl rfl)) bT))) (λ s H C fp=>by exact aC gL (aC cj (aC f7 aB (vq hu (pv 2) (pv 0))) (jV ď P5 P4 mQ (pv 3) (ac (pv 0) aq))) aB))⟩))
end
theorem nh:∀{l:List Int},l.Pairwise (· <= ·)->∀{n:Int},n∈l->l.idxOf n=l.countP (λ m=>decide (m<n))
 | [],_,_,h=>nomatch h
 | a::l,p,n,h=>by
  obtain⟨pa,pl⟩:=List.pairwise_cons.mp p;rw [List.idxOf_cons,Nc];by_cases e:a=n
  ·subst e;have z:l.countP (λ m=>decide (m<a))=0:=List.countP_eq_zero.mpr λ m hm=>by have:=pa m hm;simp;omega
   rw [z];simp
  ·have hn:n∈l:=by
    rcases ç.mp h with z | z
    ·exact absurd z.symm e
    ·exact z
   have lt:a<n:=by have:=pa n hn;omega
   rw [show(a==n)=false from Ù.mpr e,nh pl hn];simp [lt]
def rk (ns:List Int)(n:Int):Int:=2*((ns.countP λ m=>decide (m<n))+1:Nat)+(ns.countP λ m=>decide (m=n):Nat)-1
theorem uc (ns:List Int)(n:Int):((ns.map V.int).countP λ z=>p5 z (.int n))=ns.countP λ m=>decide (m=n):=by
 rw [List.countP_map];refine List.countP_congr λ m _=>?_;show(m==n)=true ↔ _;simp
theorem AT {r:List V->Hp->VK->Prop}{te:TE}{σ:St}{H:Hp}{Q:VK}(h:te σ H λ x H1=>r [x] H1 Q):iQ r (ag te aG) σ H Q:=h
theorem AJ (F:ğ K "among" "Ranks.among" i4 f fd)(ms:mg "sorted" = none):ß P w K mg base ay 1 f fd ["self","outcomes"] (v9 λ os=>os.map λ o=>rk (os.map (·.1)) o.1):=by
 refine cw F P8 λ cdv A outer s H vs Q E hr h=>?_;obtain⟨v,a,xs,os,rfl,ha,oc,lo,q⟩:=h;obtain⟨NY⟩:=Bn ms hr (f:=f) (cdv:=cdv) (A:=A) (outer:=outer) (s:=s) (H:=H) (E:=E) (P:=P) (w:=w) (base:=base);refine⟨_,NY,?_⟩;have lx:=oc.1;have sz:=Ö;refine aN (te:=iQ (pf K) (ag (fZ (cO K (ar 1)) 2 [] (xz K) (ar 0)) aG)) (i:=2) (D:=⟨_,Q,_,_⟩) ?_;refine AT (qd (σ:=[some v,some (.ref a),none,none]) (i:=1) rfl ha oc lo λ l0 H0 x0 n0 g0=>?_);refine⟨l0,os.map (·.1),rfl,ó.of g0,by rw [Ä];omega,λ l Ũ hl pm pw=>?_⟩
 have x1:=Ext.new (o:=.lst (Ũ.map V.int)) hl;have g1:af H0 l (.lst (Ũ.map V.int)) l=some (.lst (Ũ.map V.int)):=aR;have RA:=x0.trans x1;show aZ (D4 K) (yU K) _ [some v,some (.ref a),some (.ref l),none] (af H0 l (.lst (Ũ.map V.int)));generalize af H0 l (.lst (Ũ.map V.int))=H1 at x1 g1 RA ⊢;have ln:Ũ.length<=20:=by rw [pm.length_eq,Ä];exact lo
 refine⟨_,rfl,l,rfl,⟨_,ó.of g1⟩,λ D hD=>?_⟩;refine⟨λ i m ys H'=>m = Ũ.length-i/\i <= Ũ.length/\H' D=some (.dK ys)/\Ext H1 H'/\ys.length<=i/\∀ n ∈ Ũ.take i,eY ys (.inl n)=some (.int ((Ũ.idxOf n:Nat)+1)),⟨Ũ.length,am,ŏ _,aR,Ext.new hD,Ç _,λ n hn=>by simp at hn⟩,?_⟩
 rintro i m ys H2 ⟨rfl,hi,h2,x2,ly,kv⟩;refine⟨h2,?_⟩;have g2:=x2 _ _ g1;by_cases lt:i < Ũ.length
 ·refine .inr ⟨⟨_,.int Ũ[i],ó.of g2,by rw [Ò,Â lt];rfl⟩,am,λ x H3 yl ŀ ŋ=>?_⟩
  obtain⟨e,yl⟩:=yl;subst e;have ex:=yl _ (ó.of g2);rw [Ò,Â lt] at ex;cases ex;obtain⟨o0,rfl⟩:∃ o0,ŀ=[o0]:=by
   match ŀ,ŋ with
   | [o0],_=>exact⟨o0,rfl⟩
  have mem:Ũ[i] ∈ Ũ:=đ lt;refine⟨⟨[some (.int Ũ[i])],rfl,rfl⟩,_,rfl,?_⟩;refine⟨_,rfl,.inl ⟨rfl,_,ó.of g2⟩,_,rfl,l,Ũ,Ũ[i],rfl,rfl,ó.of g2,mem,_,_,rfl,rfl,.inl Ũ[i],rfl,h2,Ũ.length-(i+1),am,rfl,lt,aR,bz _ x2 hD,?_,λ n hn=>?_⟩
  ·refine é (iO ys (Key.inl Ũ[i]) _) ?_;omega
  ·rw [sO];by_cases e:n = Ũ[i]
   ·subst e;rw [à rfl]
   ·rw [Ø (λ z=>e (Key.inl.inj z))];refine kv n ?_;rw [List.take_succ_eq_append_getElem lt] at hn;rcases Ġ.mp hn with z | z
    ·exact z
    ·exact absurd (Ô.mp z) e
 ·have e:i = Ũ.length:=am;subst e;refine .inl ⟨⟨_,ó.of g2,by rw [Ä];exact Ç _⟩,?_⟩
  rw [ä] at kv;show yU K _ [some v,some (.ref a),some (.ref l),some (.ref D)] H2;have Xm:=x2 _ _ (RA _ _ ha);have oc2:∀(i:Nat) x o,xs[i]?=some x->os[i]?=some o->Ks H2 x o:=λ i x o h1 h2=>by
   obtain⟨p,e,hp⟩:=oc.2 i x o h1 h2;exact⟨p,e,x2 _ _ (RA _ _ hp)⟩
  refine⟨_,rfl,a,rfl,⟨_,ó.of Xm⟩,λ E0 hE=>?_⟩;refine cI (a:=a) (xs:=xs) (λ i ys H'=>Ext H2 H'/\ys=((os.take i).map λ o=>rk (os.map (·.1)) o.1).map V.int) am ⟨Ext.new hE,rfl⟩ (λ i ys H' pv=>ó.of (pv.1 _ _ Xm)) ?_ ?_
  ·rintro i x K' H' ex ly' ĩ ⟨x',ey⟩ OH ŋ R k;obtain⟨o0,o1,rfl⟩:∃ o0 o1,OH=[o0,o1]:=by
    match OH,ŋ with
    | [o0,o1],_=>exact⟨o0,o1,rfl⟩
   have li:i<os.length:=by rw [<- lx];exact(Ë.mp ex).1
   have eo:=Â li;obtain⟨p,rfl,hp⟩:=oc2 i x _ ex eo;have mem:os[i].1 ∈ Ũ:=pm.mem_iff.mpr (ć.mpr ⟨os[i],đ li,rfl⟩);have kn:=kv _ mem;refine⟨p,_,rfl,ĥ.of (x' _ _ hp),rfl,_,_,rfl,_,_,rfl,rfl,⟨[some (.int os[i].1),some (.bl os[i].2)],rfl,rfl⟩,?_⟩;show Aj K [some (.int os[i].1),some (.bl os[i].2),some (.ref D),some (.ref l)] H' R;have dg:Nu H' D (.int os[i].1) (some (.int ((Ũ.idxOf os[i].1:Nat)+1))):=by
    have z:=Nu.k (k:=Key.inl os[i].1) (x' _ _ h2);rw [kn] at z;exact z
   refine gD (gD (gD ⟨_,rfl,_,rfl,D,_,rfl,dg,_,_,rfl,rfl,?_,_,rfl,.inl ⟨rfl,_,ó.of (x' _ _ g2)⟩,_,rfl,l,_,_,rfl,rfl,ó.of (x' _ _ g2),?_,rfl,_,_,rfl,rfl,_,_,rfl,rfl,?_⟩))
   ·exact .inl ⟨ad,ad⟩
   ·rw [MV,ě];intro n _;rfl
   ·refine k _ H' ĩ ⟨bz _ x' hE,?_⟩;rw [aQ eo,Ï,Ï,<- ey];show _=K' ++ [V.int (rk (os.map (·.1)) os[i].1)];have e1:rk (os.map (·.1)) os[i].1=2*((Ũ.idxOf os[i].1:Nat)+1)+((Ũ.map V.int).countP λ z=>p5 z (.int os[i].1):Nat)-1:=by
     unfold rk;rw [uc,nh pw mem,pm.countP_eq,pm.countP_eq];omega
    rw [e1]
  ·rintro K' H' ly' ĩ ⟨x',ey⟩;rw [lx,ä] at ey;rw [ey] at ĩ;have x3:=(RA.trans x2).trans x';refine q E0 H' x3 ?_ ĩ;cases e:H E0 with
   | none=>rfl
   | some o=>rw [(RA.trans x2) _ _ e] at hE;cases hE
end
def j4 (i:Nat):Nat:=if i%2=0 then i+1 else i-1
theorem uL (i:Nat)(h:i<20):Builtin.bitXor (i:Int) 1=(j4 i:Nat):=by
 have all:∀ j:Nat,j<20->Builtin.bitXor (j:Int) 1=(j4 j:Nat):=ao;exact all i h
theorem wL {i n:Nat}(h:i<n)(e:n%2=0):j4 i<n:=by
 unfold j4;split <;> omega
section
variable {P:Program}{w:World}{K:Frag}{mg:bv}{base:Heap}{C:Nat->Addr}{CO CR f a1:Addr}{fd d1:FuncData}
def pN (o p:Int × Bool):Int:=DR o.1 o.2 p.1 p.2
def oP (os:List (Int × Bool)):List Int:=os.mapIdx λ i o=>pN o (os.getD (j4 i) (0,false))
abbrev mU:Stmt:=aE (cr 67) 2
theorem FS:ae ["self","outcomes"] ["self","outcomes"] (aa mU):=aO
abbrev EQ:Scope:=eZ [("at",.local),("one",.local),("stands_to",.globalImplicit),("outcomes",.free)]
theorem Er:((["at","one"]:List Str)++(["outcomes"]:List Str)).Nodup:=ao
def yP (K:Frag):Sp:=λ vs H Q _=>∃ v a xs os,vs=[v,.ref a]/\H a=some (.lst xs)/\vi H xs os/\(∀ o∈os,-99<=o.1/\o.1<=99)/\os.length<=20/\os.length%2=0/\oV H (oP os) Q
def GI (K:Frag)(CO:Addr):TE:=gE (nR K CO) [] E0 (ag (ar 1) (ag (aS (cX K) (ar 2) (aS (eO λ i j=>.int (Builtin.bitXor i j)) (ar 0) (tC (.int 1)))) aG))
section
variable {cdv:Value}{A:Around}{outer:List Env}{s:Shared}{H:Hp}{E:XK}
theorem Dd:bL (br ay P w K mg base ["self","outcomes"] "Signs.among" (aa mU) f cdv A outer s H E).Ŝ EQ [("outcomes",s.heap.objs.size+1)] ["at","one"] ["outcomes"] [1] :=
 pI (L:=[(".0",.local),("at",.local),("one",.local),("stands_to",.globalImplicit),("outcomes",.cell)]) rfl rfl ao ao ao rfl rfl ao ao rfl (.inr (.inl rfl)) (by show(aa mU).names.lookup ("outcomes" : Str)≠some NameKind.local;decide +kernel) (.inl rfl)
theorem zz (A1:Df P w K mg base (cp P w) 5 "stands_to" ["one","other"] (nR K CO) a1 d1)(me:mg "enumerate" = none)(hr:qX 5 "Signs.among" mU A s f cdv):Bx (Ų (br ay P w K mg base ["self","outcomes"] "Signs.among" (aa mU) f cdv A outer s H E).Ŝ (aH mU) (cW (fZ (ve K (ag (ar 1) aG)) 2 [1] (xz K) (GI K CO)))) :=
 be ⟨cM (dL (te:=GI K CO) (g:=xz K) rfl Dd (i9 rfl me (ac (pv 1) aq)) (λ s H C fp=>by exact cT rfl (gy (dG (i:=0) Er rfl (.inl rfl)) (gy (dG (i:=1) Er rfl (.inl rfl)) bT))) (λ s H C fp=>by exact cq A1 hr fQ (ac (pv 1) (ac (ft iB (pv 2) (aC yX (pv 0) aB)) aq))))⟩
end
theorem zA (F:ğ K "among" "Signs.among" mU f fd)(A1:Df P w K mg base (cp P w) 5 "stands_to" ["one","other"] (nR K CO) a1 d1)(me:mg "enumerate" = none):ß P w K mg base ay 6 f fd ["self","outcomes"] (yP K):=by
 refine cw F FS λ cdv A outer s H vs Q E hr h=>?_;obtain⟨v,a,xs,os,rfl,ha,oc,bd,lo,ev,q⟩:=h;obtain⟨NY⟩:=zz A1 me hr (f:=f) (cdv:=cdv) (A:=A) (outer:=outer) (s:=s) (H:=H) (E:=E) (P:=P) (w:=w) (base:=base);refine⟨_,NY,?_⟩;obtain⟨lx,oc⟩:=oc;have sz:=Ö;have ot:∀{H':Hp}{i:Nat}{b:Addr},Ext H H'->(hi:i<os.length)->H' b=some (.tup [.int os[i].1,.bl os[i].2])->Ot K H' (.ref b) true:=λ {H' i b} x' hi hb=>by
  have:=bd os[i] (đ hi);refine .inl ⟨.tuple [.int os[i].1,.bool os[i].2],.tup hb (.cons (.int _) (.cons (.bl _) .nil)),?_⟩;show true=((decide ((-99:Int)<=os[i].1)&&decide (os[i].1<=99))&&true);rw [Å this.1,Å this.2];rfl
 refine⟨_,rfl,a,rfl,⟨_,ó.of ha⟩,λ D hD=>?_⟩;refine tm (a:=a) (xs:=xs) (λ i ys H'=>Ext H H'/\ys=((oP os).take i).map V.int) am ⟨Ext.new hD,rfl⟩ (λ i ys H' pv=>ó.of (pv.1 _ _ ha)) ?_ ?_
 ·rintro i x ys H' p ex ly ĩ ⟨x',ey⟩ hp OH ŋ R k;obtain⟨o0,o1,rfl⟩:∃ o0 o1,OH=[o0,o1]:=by
   match OH,ŋ with
   | [o0,o1],_=>exact⟨o0,o1,rfl⟩
  have xp:=Ext.new (o:=.tup [.int (i:Nat),x]) hp;have gp:af H' p (.tup [.int (i:Nat),x]) p=some (.tup [.int (i:Nat),x]):=aR;have LF:=xp _ _ ĩ;have x2:=x'.trans xp;generalize af H' p (.tup [.int (i:Nat),x])=H2 at xp gp LF x2 ⊢;have li:i<os.length:=by rw [<- lx];exact(Ë.mp ex).1
  have lm:=wL li ev;have W0:j4 i<xs.length:=by rw [lx];exact lm
  obtain⟨b,rfl,hb⟩:=oc i x _ ex (Â li);obtain⟨b2,e2,PU⟩:=oc (j4 i) xs[j4 i] _ (Â W0) (Â lm);have em:v6 xs (Builtin.bitXor (i:Int) 1)=some (.ref b2):=by
   rw [uL i am,<- e2];exact gS (Â W0)
  refine⟨p,_,rfl,ĥ.of gp,rfl,_,_,rfl,_,_,rfl,rfl,⟨[some (.int (i:Nat)),some (.ref b)],rfl,rfl⟩,?_⟩;refine⟨_,rfl,_,rfl,_,rfl,_,_,rfl,rfl,a,_,_,_,rfl,rfl,ó.of (x2 _ _ ha),em,.ref b,.ref b2,true,true,rfl,ot x2 li (x2 _ _ hb),ot x2 lm (x2 _ _ PU),(λ z=>by cases z),(λ _ z=>by cases z),λ a1 a2 n1 n2 s1 s2 q1 q2 t1 t2 _ _=>?_⟩
  cases q1;cases q2;rw [x2 _ _ hb] at t1;rw [x2 _ _ PU] at t2;cases t1;cases t2;refine k _ H2 LF ⟨bz _ x2 hD,?_⟩;have es:(oP os)[i]?=some (pN os[i] os[j4 i]):=by
   unfold oP;rw [List.getElem?_mapIdx,Â li];show some (pN os[i] (os.getD (j4 i) (0,false)))=_;rw [Ī,Â lm];rfl
  rw [aQ es,Ï,<- ey];rfl
 ·rintro ys H' ly ĩ ⟨x',ey⟩;have l2:(oP os).length=xs.length:=by unfold oP;rw [List.length_mapIdx,lx]
  rw [<- l2,ä] at ey;rw [ey] at ĩ;exact q D H' x' hD ĩ
end
def qh:Nat->Str
 | 0 => "sum"
 | 1 => "ranks"
 | 2 => "wins"
 | _ => "signs"
def Me (MC:Nat->Addr)(H:Hp)(k:Nat)(v:V):Prop:=∃ a dx m,v=.ref a/\H a=some (.ins (MC k) dx [("mark",.ref m)])/\H m=some (.tup [.str (qh k)])
theorem Me.ext {MC:Nat->Addr}{H H':Hp}{k:Nat}{v:V}(h:Me MC H k v)(x:Ext H H'):Me MC H' k v:=by
 obtain⟨a,dx,m,e,ha,hm⟩:=h;exact⟨a,dx,m,e,x _ _ ha,x _ _ hm⟩
def pk (MC:Nat->Addr)(c:Addr):Prop:=∃ i,i<4/\c=MC i
structure KM (K:Frag)(MC:Nat->Addr):Prop where
 cls:∀ i,i<4->N1 K (MC i)
 no:∀ i,i<4->ŵ K (MC i) "mark"
section
variable {P:Program}{w:World}{K:Frag}{mg:bv}{base:Heap}{C MC:Nat->Addr}{CO CR CF CU CN f a1 a2:Addr}{fd d1 d2:FuncData}
theorem gc {m:Str}{sp:Addr->Sp}{E:XK}{ta:TE}{t:TA}{σ:St}{H:Hp}{Q:VK}{k:Nat}{v:V}(hm:m ≠ "mark")(hk:k<4)(h:Me MC H k v)(ht:∀ R:VK,R v H->ta σ H R)(q:t σ H λ vs H2=>sp (MC k) (v::vs) H2 Q E):dy (pk MC) m sp E ta t σ H Q:=by
 obtain⟨a,dx,m',rfl,ha,_⟩:=h;refine ht _ ⟨a,MC k,dx,_,rfl,⟨k,hk,rfl⟩,ha,?_,q⟩;show List.lookup m [(("mark" : Str),V.ref m')]=none;rw [è,Ù.mpr hm];rfl
abbrev xv:Stmt:=aE (cr 63) 2
def tY (MC:Nat->Addr):Sp:=λ vs H Q _=>∃ v k,vs=[v]/\k<4/\Me MC H k v/\∀ m,H m=some (.tup [.str (qh k)])->Q (.ref m) H
theorem Fv:ae ["self"] ["self"] (aa xv):=aO
theorem zN (Z:KM K MC)(F:ğ K "told" "Measure.told" xv f fd):ß P w K mg base ay 1 f fd ["self"] (tY MC):=by
 refine cw F Fv λ cdv A outer s H vs Q E hr h=>?_;obtain⟨v,k,rfl,hk,⟨a,dx,m,rfl,ha,hm⟩,q⟩:=h;exact⟨_,bj (cM (vj (pv 0) rfl)),_,rfl,a,_,dx,_,_,rfl,ha,Z.cls k hk,Z.no k hk,rfl,q m hm⟩
abbrev CH:Stmt:=aE (cr 64) 1
abbrev AW:Stmt:=aE (cr 65) 1
abbrev Ap:Stmt:=aE (cr 67) 1
abbrev zd:Stmt:=aE (cr 63) 4
theorem Fg:ae ["self","rule","outcomes"] ["self","rule","outcomes"] (aa CH):=aO
theorem Ef:ae ["self","rule","outcomes"] ["self","rule","outcomes"] (aa AW):=aO
theorem GL:ae ["self","rule","outcomes"] ["self","rule","outcomes"] (aa Ap):=aO
theorem EO:ae ["self","rule","outcomes"] ["self","rule","outcomes"] (aa zd):=aO
def xA (CU:Addr):Sp:=λ vs H Q E=>∃ v r a xs os,vs=[v,r,.ref a]/\H a=some (.lst xs)/\vi H xs os/\((os.map (·.2)).all id=true->∀ H',Ext H H'->Q .ù H')/\∀ i,eH (os.map (·.2)) i->∀ H',Ext H H'->bM CU "place" (.int (i:Nat)) H' E
def FT (C:Nat->Addr)(CN:Addr):Sp:=λ vs H Q E=>∃ v r o t,vs=[v,r,o]/\Ru C H t r/\t.parts.length<=20/\(∀ p∈t.parts,p.length<=20)/\((rZ t).all id=true->∀ H',Ext H H'->Q .ù H')/\∀ i,eH (rZ t) i->∀ H',Ext H H'->bM CN "block" (.int (i:Nat)) H' E
def G5:Sp:=λ vs H Q _=>∃ v r o,vs=[v,r,o]/\Q .ù H
theorem Cn (F:ğ K "need_fit" "Sum.need_fit" CH f fd)(A1:Df P w K mg base (cp P w) 3 "need_sure" ["outcomes"] (se CU) a1 d1):ß P w K mg base (cp P w) 4 f fd ["self","rule","outcomes"] (xA CU):=by
 refine fK F Fg λ cdv A outer s H vs Q E hr h=>?_;obtain⟨v,r,a,xs,os,rfl,ha,oc,q1,q2⟩:=h;exact⟨_,bj (ax (cq A1 hr cH (ac (pv 2) aq))),_,rfl,a,xs,os,rfl,ha,oc,q1,q2⟩
theorem yZ (F:ğ K "need_fit" "Ranks.need_fit" AW f fd)(A1:Df P w K mg base (cp P w) 3 "need_sure" ["outcomes"] (se CU) a1 d1):ß P w K mg base (cp P w) 4 f fd ["self","rule","outcomes"] (xA CU):=by
 refine fK F Ef λ cdv A outer s H vs Q E hr h=>?_;obtain⟨v,r,a,xs,os,rfl,ha,oc,q1,q2⟩:=h;exact⟨_,bj (ax (cq A1 hr cH (ac (pv 2) aq))),_,rfl,a,xs,os,rfl,ha,oc,q1,q2⟩
theorem Cj (F:ğ K "need_fit" "Signs.need_fit" Ap f fd)(A1:Df P w K mg base (cp P w) 3 "need_pairs" ["rule"] (FP C CN) a1 d1):ß P w K mg base (cp P w) 4 f fd ["self","rule","outcomes"] (FT C CN):=by
 refine fK F GL λ cdv A outer s H vs Q E hr h=>?_;obtain⟨v,r,o,t,rfl,ru,l1,l2,q1,q2⟩:=h;exact⟨_,bj (ax (cq A1 hr cH (ac (pv 1) aq))),_,rfl,r,t,rfl,ru,l1,l2,q1,q2⟩
theorem Be (F:ğ K "need_fit" "Measure.need_fit" zd f fd):ß P w K mg base ay 1 f fd ["self","rule","outcomes"] G5:=by
 refine cw F EO λ cdv A outer s H vs Q E hr h=>?_;obtain⟨v,r,o,rfl,q⟩:=h;exact⟨_,bj xH,q⟩
end
def jS (os:List (Int × Bool)):List Int:=os.map λ o=>(os.map λ p=>pN o p).sum
def DW:Nat->List (Int × Bool)->List Int
 | 0,os=>os.map (·.1)
 | 1,os=>os.map λ o=>rk (os.map (·.1)) o.1
 | 2,os=>jS os
 | _,os=>oP os
def xj:Nat->Rl->List (Int × Bool)->List Bool
 | 0,_,os=>os.map (·.2)
 | 1,_,os=>os.map (·.2)
 | 2,_,_=>[]
 | _,t,_=>rZ t
def u9 (CU CN:Addr)(k:Nat):Addr:=if k=3 then CN else CU
def uC (k:Nat):Str:=if k=3 then "block" else "place"
section
variable {P:Program}{w:World}{K:Frag}{mg:bv}{base:Heap}{C MC:Nat->Addr}{CO CR CF CU CN f a1 a2:Addr}{fd d1 d2:FuncData}
structure Go (H:Hp)(k:Nat)(a:Addr)(os:List (Int × Bool)):Prop where
 ex:∃ xs,H a=some (.lst xs)/\vi H xs os
 bd:∀ o∈os,-99<=o.1/\o.1<=99
 ln:os.length<=20
 ev:k=3->os.length%2=0
theorem Go.ext {H H':Hp}{k:Nat}{a:Addr}{os:List (Int × Bool)}(h:Go H k a os)(x:Ext H H'):Go H' k a os:=by
 obtain⟨⟨xs,ha,l,oc⟩,b,c,d⟩:=h;refine⟨⟨xs,x _ _ ha,l,λ i y o h1 h2=>?_⟩,b,c,d⟩;obtain⟨p,e,hp⟩:=oc i y o h1 h2;exact⟨p,e,x _ _ hp⟩
def kO (MC:Nat->Addr)(c:Addr):Sp:=λ vs H Q _=>∃ k v a os,k<4/\c=MC k/\vs=[v,.ref a]/\Go H k a os/\oV H (DW k os) Q
def nF (MC:Nat->Addr)(c:Addr):Sp:=λ vs H Q _=>∃ k v r a os,k<4/\c=MC k/\vs=[v,r,.ref a]/\Me MC H k v/\Go H k a os/\oV H (DW k os) Q
def jx (C MC:Nat->Addr)(CU CN c:Addr):Sp:=λ vs H Q E=>∃ k v r t a xs os,k<4/\c=MC k/\vs=[v,r,.ref a]/\Ru C H t r/\t.parts.length<=20/\(∀ p∈t.parts,p.length<=20)/\H a=some (.lst xs)/\vi H xs os/\((xj k t os).all id=true->∀ H',Ext H H'->Q .ù H')/\∀ i,eH (xj k t os) i->∀ H',Ext H H'->bM (u9 CU CN k) (uC k) (.int (i:Nat)) H' E
abbrev Cp:Stmt:=aE (cr 63) 5
theorem Gr:ae ["self","rule","outcomes"] ["self","rule","outcomes"] (aa Cp):=aO
def tQ (MC:Nat->Addr):Sp:=λ vs H Q E=>∃ c,nF MC c vs H Q E
theorem zM (F:ğ K "scored" "Measure.scored" Cp f fd)(M:cg P w K mg base ay 7 "among" ["self","outcomes"] (pk MC) (kO MC)):ß P w K mg base ay 8 f fd ["self","rule","outcomes"] (tQ MC):=by
 refine cw F Gr λ cdv A outer s H vs Q E hr h=>?_;obtain⟨c,k,v,r,a,os,hk,rfl,rfl,me,go,q⟩:=h;refine⟨_,bj (cM (dE (pv 0) M hr ai (ac (pv 2) aq))),?_⟩;exact gc ao hk me (λ R r=>⟨_,rfl,r⟩) ⟨_,rfl,k,v,a,os,hk,rfl,rfl,go,q⟩
abbrev wx:Stmt:=aE (cr 63) 3
theorem xV:ae ["self","rule","outcomes"] ["self","rule","outcomes"] (aa wx):=aO
def nX (C MC:Nat->Addr)(CU CN:Addr):Sp:=λ vs H Q E=>∃ k v r t a xs os,k<4/\vs=[v,r,.ref a]/\Me MC H k v/\Ru C H t r/\t.parts.length<=20/\(∀ p∈t.parts,p.length<=20)/\H a=some (.lst xs)/\vi H xs os/\(∀ o∈os,-99<=o.1/\o.1<=99)/\os.length<=20/\t.Õ =(os.length:Nat)/\(k=3->(rZ t).all id=true->os.length%2=0) /\
 ((xj k t os).all id=true->oV H (DW k os) Q)/\∀ i,eH (xj k t os) i->∀ H',Ext H H'->bM (u9 CU CN k) (uC k) (.int (i:Nat)) H' E
theorem Dh (F:ğ K "scores" "Measure.scores" wx f fd)(Mr:Ms P w K mg base C)(A1:Df P w K mg base (cp P w) 6 "need_outcomes_of" ["thing","folk"] (qb K CF CO) a1 d1)(M1:cg P w K mg base (cp P w) 5 "need_fit" ["self","rule","outcomes"] (pk MC) (jx C MC CU CN))(M2:cg P w K mg base ay 8 "scored" ["self","rule","outcomes"] (pk MC) (nF MC)) :
  ß P w K mg base (cp P w) 9 f fd ["self","rule","outcomes"] (nX C MC CU CN):=by
 refine fK F xV λ cdv A outer s H vs Q E hr h=>?_;obtain⟨k,v,r,t,a,xs,os,hk,rfl,me,ru,l1,l2,ha,oc,bd,lo,fk,ev,q1,q2⟩:=h;have Ħ:ö 1 _:=hr.mono ad;have M4:ö 5 _:=hr.mono ad;have QQ:ö 6 _:=hr.mono ad;refine⟨_,cL (ax (cq A1 QQ cH (ac (pv 2) (ac (bN (pv 1) Mr.Õ Ħ ai) aq))))
  (cL (ax (dE (pv 0) M1 M4 cH (ac (pv 1) (ac (pv 2) aq))))
  (bj (cM (dE (pv 0) M2 hr ai (ac (pv 1) (ac (pv 2) aq)))))),?_⟩
 have lx:=oc.1;have ot:M7 K H xs (os.map λ _=>true):=by
  refine⟨by rw [Ä];exact lx,λ i x hx=>?_⟩
  have li:i<os.length:=by rw [<- lx];exact(Ë.mp hx).1
  obtain⟨b,rfl,hb⟩:=oc.2 i x _ hx (Â li);have z:=bd os[i] (đ li);refine⟨true,by rw [Ò,Â li];rfl,.inl ⟨.tuple [.int os[i].1,.bool os[i].2],.tup hb (.cons (.int _) (.cons (.bl _) .nil)),?_⟩⟩
  show true=((decide ((-99:Int)<=os[i].1)&&decide (os[i].1<=99))&&true);rw [Å z.1,Å z.2];rfl
 refine⟨_,rfl,cF (t:=t) ao ru (λ R r=>⟨_,rfl,r⟩) ⟨r,t,rfl,ru,?_⟩⟩;refine⟨.ref a,t.Õ,rfl,.inr ⟨a,xs,_,rfl,ha,ot,λ _ H1 x1=>?_,λ i fi=>?_⟩⟩
 ·rw [à (by rw [fk,lx])]
  show dy (pk MC) "need_fit" (jx C MC CU CN) _ (ar 0) (ag (ar 1) (ag (ar 2) aG)) [some v,some r,some (.ref a)] H1 _;refine gc ao hk (me.ext x1) (λ R r=>⟨_,rfl,r⟩) ⟨_,rfl,_,rfl,k,v,r,t,a,xs,os,hk,rfl,rfl,ru.ext x1,l1,l2,x1 _ _ ha,?_,λ al H2 x2=>?_,λ i fi H2 x2=>q2 i fi H2 (x1.trans x2)⟩
  ·refine⟨lx,λ i y o h1 h2=>?_⟩;obtain⟨p,e,hp⟩:=oc.2 i y o h1 h2;exact⟨p,e,x1 _ _ hp⟩
  ·have ν:=x1.trans x2;have go:Go H k a os:=⟨⟨xs,ha,oc⟩,bd,lo,λ e=>ev e (by subst e;exact al)⟩
   show dy (pk MC) "scored" (nF MC) _ (ar 0) (ag (ar 1) (ag (ar 2) aG)) [some v,some r,some (.ref a)] H2 _;refine gc ao hk (me.ext ν) (λ R r=>⟨_,rfl,r⟩) ⟨_,rfl,_,rfl,k,v,r,a,os,hk,rfl,rfl,me.ext ν,go.ext ν,λ l H3 x3 nl hl=>?_⟩;refine q1 al l H3 (ν.trans x3) ?_ hl;cases e:H l with
   | none=>rfl
   | some o=>rw [ν _ _ e] at nl;cases nl
 ·exfalso;have z:=fi.2;rw [Ò] at z;obtain⟨_,_,z⟩:=á.mp z;cases z
end
end My
namespace My
open PySem L2
structure qp (X:Cx)(sc:Scope)(cl:List (Str × Addr))(x:Str)(ts zs:List Str)(js:List Nat):Prop where
 e_:closureFor sc X.env=pure cl
 kind:sc.kind=.function
 cells:∀ C:Nat,cellsFrom C sc.names cl=(x,C)::cl
 names:∀ y∈sc.names,y.2=.local->sc.names.lookup y.1=some .local
 inx:x∈ts
 sub:∀ z c,cl.lookup z=some c->X.env.cells.lookup z=some c
 has:∀ z,((relabel sc X.env).names.lookup z=some .cell\/(relabel sc X.env).names.lookup z=some .free)->z=x\/∃ c,cl.lookup z=some c
 nd:(ts++zs).Nodup
 cap:∀(k:Nat)(z:Str),zs[k]?=some z->∃ j:Nat,js[k]?=some j/\X.N[j]?=some z/\yu X.env.scope z/\X.env.kindOf z≠some .local /\
  ((relabel sc X.env).names.lookup z=some .cell\/(relabel sc X.env).names.lookup z=some .free)
 len:js.length=zs.length
def eN (X:Cx)(sc:Scope)(cl:List (Str × Addr))(x:Str)(N:List Str)(s:Shared)(H:Hp)(C:Addr)(fp:List Addr):Cx where
 prog:=X.prog
 w:=X.w
 K:=X.K
 mg:=X.mg
 base:=X.base
 A:=X.A
 N:=N
 œ:=s
 M8:=H
 env:=compEnvC sc ((x,C+1)::cl) C X.env
 outer:=X.stack
 stack:=X.stack
 ex:=fp
 fn:=λ y=>y==x
 calm:=X.calm
 pn:=[]
 xe:=λ _ _=>False
theorem fz {z x:Str}{c d:Addr}{cl:List (Str × Addr)}(h:List.lookup z ((x,d)::cl)=some c):(z=x/\c=d)\/(z≠x/\cl.lookup z=some c):=by
 rw [è] at h;cases e:z==x with
 | true=>rw [e] at h;exact .inl ⟨ā.mp e,(Û h).symm⟩
 | false=>rw [e] at h;exact .inr ⟨Ù.mp e,h⟩
theorem lL {z x:Str}{c d:Addr}{cl:List (Str × Addr)}(n:z≠x)(h:cl.lookup z=some c):List.lookup z ((x,d)::cl)=some c:=by
 rw [è,Ù.mpr n];exact h
theorem i8 {x:Str}{d:Addr}{cl:List (Str × Addr)}:List.lookup x ((x,d)::cl)=some d:=by
 rw [è,Ĩ]
theorem qC {M:Model}{A:Around}{E:cy}{s:Shared}{scope:Scope}{globals:Addr}{cl:List (Str × Addr)}{qual:Str}{outer:Env}{Q:Env->Shared->Prop}
  (hQ:∀ h',h'.Ns s.heap.objs.size (λ _=>none)->(∀ b o,s.heap.get? b=some o->h'.get? b=some o)->(∀ n c,(n,c)∈cellsFrom (s.heap.objs.size+1) scope.names []->h'.IsCell c none) ->
   Q { scope:=scope,locals:=s.heap.objs.size,globals:=globals,cells:=cellsFrom (s.heap.objs.size+1) scope.names cl,qual:=qual,func:=none,code:=outer.code,frame:=outer.frame,builtins:=outer.builtins } { s with heap:=h' }) :
  wpAny M A (newFunctionEnv scope globals cl [] qual none .none (some outer)) Q E s:=by
 simp only [newFunctionEnv,Option.isSome_some,if_true];refine À (wpAny_alloc ?_);refine À (wpAny_layCells _ (λ name kind cells=>by cases hkc:kind==NameKind.cell <;> simp [hkc]) _ _ _ _ ?_)
 have ok:=cellsFrom_ok scope.names (s.heap.push { cls:=.type "dict",data:=.dict #[] }) (s.heap.objs.size+1) [] ⟨λ _ _ hm=>(nomatch hm),List.Pairwise.nil⟩ (by rw [ë];exact Ç _)
 rw [ë] at ok;rw [show({ s with heap:=s.heap.push { cls:=.type "dict",data:=.dict #[] } }:Shared).heap.objs.size=s.heap.objs.size+1 from ë ..]
 refine À ?_;rw [On];exact Æ (Æ (hQ _ ((Heap.Ns.new s.heap (.type "dict")).keeps (pushCells_keeps _ _)) (λ b o e=>pushCells_keeps _ _ b o (Á _ e)) λ n c hm=>(ok.empty n c hm).1))
theorem dz:∀(names:List (Str × NameKind))(n:Nat)(acc:List (Str × Addr)),cellsFrom n names acc=cellsFrom n names []++acc
 | [],_,_=>rfl
 | (name,kind)::r,n,acc=>by
  unfold cellsFrom;split
  ·rw [dz r (n+1) ((name,n)::acc),dz r (n+1) [(name,n)],ι];rfl
  ·exact dz r n acc
section
variable {X:Cx}{Ã:List (Addr × Obj)}{σ:St}{H:Hp}{s:Shared}{sc:Scope}{cl:List (Str × Addr)}{x:Str}{ts zs:List Str}{js:List Nat}{C:Addr}{fp:List Addr}
theorem tM (I:Inv X Ã σ H s)(S:qp X sc cl x ts zs js)(hf:∀ b∈fp,dF X Ã H b/\b<s.heap.objs.size)(hC:s.heap.objs.size<=C):(eN X sc cl x (ts++zs) s H C fp).Ok:=by
 have nc:∀ z,X.env.cells.lookup z≠some (C+1):=λ z e=>by
  obtain⟨v,hv⟩:=I.cell z _ e;exact absurd hv.lt (ş.mpr (θ hC))
 refine⟨I.ok.mod,S.kind,I.ok.glob,I.ok.blt,hC,λ y z c h1 h2=>?_,λ z h=>?_,λ z c hx h=>?_,I.ok.hd,I.ok.frames,.inl rfl,λ b hb=>?_,I.bs,?_,λ b o e hb=>?_,λ b hb hs=>?_,I.stack,I.D_⟩
 ·rcases fz h1 with⟨e1,e2⟩ | ⟨e1,e2⟩ <;> rcases fz h2 with⟨e3,e4⟩ | ⟨e3,e4⟩
  ·exact e1.trans e3.symm
  ·exact absurd (S.sub _ _ e4) (by rw [e2];exact nc z)
  ·exact absurd (S.sub _ _ e2) (by rw [e4];exact nc y)
  ·exact I.ok.inj y z c (S.sub _ _ e2) (S.sub _ _ e4)
 ·by_cases e:z=x
  ·subst e;exact⟨C+1,i8⟩
  ·rcases S.has z h with q | ⟨c,q⟩
   ·exact absurd q e
   ·exact⟨c,lL e q⟩
 ·have ez:z=x:=ā.mp hx;subst ez;rcases fz h with⟨_,e2⟩ | ⟨e1,_⟩
  ·rw [e2];exact θ hC
  ·exact absurd rfl e1
 ·obtain⟨⟨_,h1,_,_,h4,_⟩,h6⟩:=hf b hb;refine⟨λ e=>absurd h6 (ş.mpr (by rw [show b=C from e];exact hC)),λ z c e=>?_⟩
  rcases fz e with⟨_,e2⟩ | ⟨_,e2⟩
  ·intro q;rw [<- q,e2] at h6;exact absurd h6 (ş.mpr (θ hC))
  ·exact h4 z c (S.sub _ _ e2)
 ·exact é I.ok.No I.sz
 ·obtain⟨⟨_,_,_,h3,_⟩,_⟩:=hf b hb;rcases h3 with h | h
  ·exact I.ok.Mo b o e h
  ·exact absurd (È e) (ş.mpr (é I.ok.No h))
 ·obtain⟨⟨_,h1,h2,_⟩,_⟩:=hf b hb;rcases ç.mp (I.ų b hs) with e | e
  ·exact h1 e
  ·exact h2 e
theorem mK {s1:Shared}(I:Inv X Ã σ H s)(S:qp X sc cl x ts zs js)(hf:∀ b∈fp,dF X Ã H b/\b<s.heap.objs.size)(hC:s.heap.objs.size<=C)(ho:s1.os=s.os)(hg:s1.gens=s.gens)
  (hk:∀ b o,s.heap.get? b=some o->s1.heap.get? b=some o){m:bv}(hn:s1.heap.Ns C m)(LD:s1.heap.IsCell (C+1) none):Inv (eN X sc cl x (ts++zs) s H C fp) [] (List.replicate ts.length none++dh js σ) H s1:=by
 refine⟨tM I S hf hC,ho,by rw [hg];exact I.bare,Un.kept hk,⟨m,hn,λ i y v h1 h2 h3=>?_⟩,λ z c e=>?_,I.Ć.fresh hC,λ z c e=>?_,λ p hp=>absurd (show p∈([]:List (Addr × Obj)) from hp) (by simp),I.Ć.kept hk,?_⟩
 ·rcases Ĳ i ts.length with lt | ge
  ·rw [ð (by rw [Ý];exact lt),Ţ,à lt] at h2
   cases h2
  ·have h1':zs[i-ts.length]?=some y:=by
    have O3:(ts++zs)[i]?=some y:=h1;rw [å ge] at O3;exact O3
   obtain⟨j,hj,hN,hv,nl,k'⟩:=S.cap _ y h1';have Q5:(dh js σ)[i-ts.length]?=some (some v):=by
    rw [å (by rw [Ý];exact ge),Ý] at h2
    exact h2
   have h5:σ[j]?=some (some v):=by
    unfold dh at Q5;rw [Ò,hj] at Q5;have h6:(σ[j]?).join=some v:=Û Q5;cases e:σ[j]? with
    | none=>rw [e] at h6;cases h6
    | some o=>rw [e] at h6;exact Ğ some h6
   obtain⟨m0,hn0,hl⟩:=I.loc;obtain⟨u,ru,lk⟩:=hl j y v hN h5 hv;refine⟨u,ru,?_⟩;rcases lk with⟨k1,_⟩ | ⟨_,c,ec,hc⟩
   ·exact absurd k1 nl
   ·have yx:y≠x:=λ e=>by
     subst e;have hz:=ê h1';exact(List.nodup_append.mp S.nd).2.2 y S.inx y hz rfl
    rcases S.has y k' with q | ⟨c',SS⟩
    ·exact absurd q yx
    have e2:=S.sub _ _ SS;rw [ec] at e2;cases e2;exact .inr ⟨k',c,lL yx SS,hc.keeps hk⟩
 ·rcases fz e with⟨_,e2⟩ | ⟨_,e2⟩
  ·rw [e2];exact⟨none,LD⟩
  ·obtain⟨v,hv⟩:=I.cell z c (S.sub _ _ e2);exact⟨v,hv.keeps hk⟩
 ·rcases fz e with⟨_,e2⟩ | ⟨_,e2⟩
  ·rw [e2];exact I.Ć.fresh (θ hC)
  ·exact I.ţ z c (S.sub _ _ e2)
 ·show(List.replicate ts.length none++dh js σ:St).length=(ts++zs).length;unfold dh;rw [Ð,Ð,Ä,Ý,S.len]
theorem rH {s1:Shared}{Ē:St}{H':Hp}{h':Heap}(I:Inv X Ã σ H s)(hf:∀ b∈fp,dF X Ã H b/\b<s.heap.objs.size)(hC:s.heap.objs.size<=C)(J:Inv (eN X sc cl x (ts++zs) s H C fp) [] Ē H' s1)
  (hs:Heap.SameBut C s1.heap h'):Inv X Ã σ H' { s1 with heap:=h' }:=by
 have old:∀ b o,s1.heap.get? b=some o->b≠C->h'.get? b=some o:=λ b o e n=>(hs.2 b n).trans e;have lt:∀{b o},s.heap.get? b=some o->b≠C:=λ {b o} e z=>by
  have q:=È e;rw [z] at q;exact absurd q (ş.mpr hC)
 have B:=J.base;refine I.NE (s':={ s1 with heap:=h' }) (ch:=fp) J.os ⟨λ b o e n hb hx=>old b o (B.keep b o e n hb hx) (lt e),λ b o e n hb hx=>?_,B.free,λ b o e hx=>?_,B.K_,B.B_,B.Ln,B.sys⟩ (λ b o e=>?_) J.bare λ b hb=>?_
 ·obtain⟨sl,q⟩:=B.slot b o e n hb hx;exact⟨sl,old _ _ q (lt e)⟩
 ·obtain⟨o',q⟩:=B.there b o e hx;exact⟨o',old _ _ q (lt e)⟩
 ·have nC:∀ c u,H' c=some u->c≠C:=λ c u q z=>by
   have f:H' C=none:=J.free;rw [z,f] at q;cases q
  refine(J.Ć b o e).y_ (λ c v hc q=>old c v q ?_) (λ _ q=>q) λ _ _ q=>q;rcases hc with rfl | hc
  ·exact nC _ _ e
  ·exact nC _ _ hc
 ·obtain⟨⟨_,h1,_,h3,h4,h5⟩,_⟩:=hf b hb;exact⟨h3,h1,h4,h5⟩
end
section
variable {X:Cx}{sc:Scope}{cl:List (Str × Addr)}{x:Str}{ts zs:List Str}{js:List Nat}{elt iter:Expr}{pos:Pos}{tg:Expr}{g:TG}{wi:TI}{te:TE}
theorem B7 (hc:X.calm=true)(S:qp X sc cl x ts zs js)(hi:PI X tg iter wi)(hg:∀ s H C fp,PG (eN X sc cl x (ts++zs) s H C fp) tg g)(he:∀ s H C fp,PE (eN X sc cl x (ts++zs) s H C fp) elt te)
  (hs:∀ v,foldedSetIterable iter X.env v=pure v:=by intro _;rfl):PE X (.ListComp elt [⟨tg,iter,[],0⟩] sc pos) (fZ wi ts.length js g te):=by
 intro Ã s σ H Q I h;rw [eval_ListComp];refine Ľ (use:=none) rfl hs S.e_ S.kind S.names (aW (hi Ã s σ H _ I h) λ v s1 h1=>aW h1 λ QP s2 h2=>?_);obtain⟨it,fp,tn,J,H2,e,I2,T,LX,f2,body⟩:=h2;subst e;have PZ:H2 s2.heap.objs.size=none:=I2.fresh;obtain⟨W,⟨m0,w0⟩,turn⟩:=body _ PZ;refine ý ?_;have I3:Inv X Ã σ (af H2 s2.heap.objs.size (.lst [])) { s2 with heap:=s2.heap.push { cls:=.type "list",data:=.seq ([]:List Value).toArray } }:=I2.NS (t':=s2.toks) (ys:=[]) (its:=[]) .nil (ŏ _)
 refine qC (λ Ņ hn Qq LD=>?_);rw [S.cells];generalize Mx:({ s2 with heap:=s2.heap.push { cls:=.type "list",data:=.seq ([]:List Value).toArray } }:Shared)=s3 at I3 hn Qq LD ⊢
 have F':∀ b∈fp,dF X Ã (af H2 s2.heap.objs.size (.lst [])) b/\b<s3.heap.objs.size:=λ b hb=>by
  obtain⟨o,ho,_⟩:=T.obj _ _ LX b hb;have hl:=È ho;have PN:b≠s2.heap.objs.size:=Î hl;obtain⟨z1,z2⟩:=f2 b hb;refine⟨⟨by rw [au PN];exact z1,z2⟩,?_⟩
  rw [<- Mx];show b<(s2.heap.push _).objs.size;rw [ë];exact û hl
 have old:∀ b o,s3.heap.get? b=some o->Ņ.get? b=some o:=Qq;have Q0:Ņ.IsCell (s3.heap.objs.size+1) none:=by
  refine LD x _ ?_;have q:=S.cells (s3.heap.objs.size+1);rw [dz] at q;have q2:cellsFrom (s3.heap.objs.size+1) sc.names []=[(x,s3.heap.objs.size+1)]:=List.append_cancel_right (bs:=cl) q;rw [q2];exact Ô.mpr rfl
 have loop:∀ sS:Shared,sS.heap = Ņ->sS.os=s3.os->sS.gens=s3.gens->codeAny (model X.prog X.w) X.A (.compLoop (.ListComp elt [⟨tg,iter,[],0⟩] sc pos) 0 (.ref it) (.ref s2.heap.objs.size) (compEnvC sc ((x,s3.heap.objs.size+1)::cl) s3.heap.objs.size X.env))
   (compPost (model X.prog X.w) X.A X.xe none (EP X Ã σ Q) (.ref s2.heap.objs.size) s3.heap.objs.size) sS:=by
  intro sS eh eo eg;subst eh;have J0:Inv (eN X sc cl x (ts++zs) s3 (af H2 s2.heap.objs.size (.lst [])) s3.heap.objs.size fp) [] (List.replicate ts.length none++dh js σ) (af H2 s2.heap.objs.size (.lst [])) sS:=mK I3 S F' (Ç _) eo eg old hn Q0;generalize hX:eN X sc cl x (ts++zs) s3 (af H2 s2.heap.objs.size (.lst [])) s3.heap.objs.size fp=X' at J0;have ŧ:∀{H':Hp},(∀ b∈fp,H' b=none)->∀ b∈fp,dF X' [] H' b:=λ {H'} hn b hb=>by
   subst hX;obtain⟨⟨_,z1,z2,z3,z4,z5⟩,z6⟩:=F' b hb;refine⟨hn b hb,Î z6,λ q=>?_,.inl hb,λ y c e=>?_,λ p hp=>absurd (show p∈([]:List (Addr × Obj)) from hp) (by simp)⟩
   ·rcases ç.mp (I3.ų b q) with e | e
    ·exact z1 e
    ·exact z2 e
   ·rcases fz e with⟨_,e2⟩ | ⟨_,e2⟩
    ·intro q;rw [<- q,e2] at z6;exact absurd z6 (ş.mpr (Ÿ _))
    ·exact z4 y c (S.sub _ _ e2)
  have N6:tn 0 sS.heap:=T.keep _ _ _ LX λ b hb o e=>old b o (by rw [<- Mx];exact Á _ e)
  refine iH (λ n s'=>∃ i ys os H',os.length=ts.length/\Inv X' [] (os++dh js σ) H' s'/\tn i s'.heap/\(∀ b∈fp,H' b=none)/\W i n ys H') ?_ m0 ⟨0,[],_,_,Ý,J0,N6,λ b hb=>(F' b hb).1.1,w0⟩;rintro n s' ⟨i,ys,os,H',ŋ,Iv,st,fr,w⟩;obtain⟨hD,alt⟩:=turn i n ys H' w;have eP:X'.prog=X.prog:=by subst hX;rfl
  have eW:X'.w=X.w:=by subst hX;rfl
  have eK:X'.K=X.K:=by subst hX;rfl
  have eC:X'.calm=true:=by subst hX;exact hc
  have eA:X'.A=X.A:=by subst hX;rfl
  have eE:X'.env=compEnvC sc ((x,s3.heap.objs.size+1)::cl) s3.heap.objs.size X.env:=by subst hX;rfl
  have eX:X'.xe = λ _ _=>False:=by subst hX;rfl
  rcases alt with⟨stop,q⟩ | ⟨go,ķ,step⟩
  ·have d:=T.done X' eP eW eK eC i [] s' _ H' (λ _ _=>False) Iv (ŧ fr) st stop;rw [eA] at d;refine aW d λ r s4 ⟨hr,I4⟩=>?_;subst hr;obtain⟨m,hm,_⟩:=id I4.loc;rw [eE] at hm;subst hX;exact⟨m,hm,λ h' OW=>⟨.ref s2.heap.objs.size,H',rH I3 F' (Ç _) I4 OW,rfl,q⟩⟩
  ·have d:=T.item X' eP eW eK eC i [] s' _ H' (λ _ _=>False) Iv (ŧ fr) st go;rw [eA] at d;refine aW d λ r s4 ⟨u,hr,h4⟩=>?_;subst hr;refine aW h4 λ _ s5 ⟨y,H5,I5,r5,y5,z_,O5⟩=>?_;have Pd:=I5.pinned (ŧ O5) (T.obj _ _ z_);have PQ:PG X' tg g:=by subst hX;exact hg _ _ _ _
   have g6:=PQ _ s5 _ H5 y u _ Pd r5 (step y H5 y5 os ŋ);rw [eP,eW,eA,eE,eX] at g6;refine aW g6 λ _ s6 ⟨Rg,H6,I6,⟨ŀ,L5,e6⟩,PD⟩=>?_;subst e6;have QX:PE X' elt te:=by subst hX;exact he _ _ _ _
   have g7:=QX _ s6 _ H6 _ I6 PD;rw [eP,eW,eA,eE,eX] at g7;refine aW g7 λ uv s7 ⟨v7,H7,I7,r7,Q3,m',NV,w7⟩=>?_;have g8:=(du (X:=X')) _ s7 _ H7 (.ref s2.heap.objs.size) [v7] (.ref s2.heap.objs.size) [uv] (λ _ H8=>H8=af H7 s2.heap.objs.size (.lst (ys ++ [v7]))) I7 rfl (.cons r7 .nil) ⟨_,ys,v7,rfl,rfl,Q3,ķ,rfl⟩;rw [eP,eW,eA,eX] at g8;refine aW g8 λ _ s8 ⟨_,H8,I8,_,e8⟩=>?_;subst e8;refine⟨m',NV,i+1,ys ++ [v7],ŀ,_,L5,I8.Ő,T.keep _ _ _ z_ λ b hb o e=>(I8.pin (b,o) (Ì _ (Ì _ (ba hb e)))).1,λ b hb=>?_,w7⟩;obtain⟨o',e',_⟩:=T.obj _ _ z_ b hb;exact(I8.pin (b,o') (Ì _ (Ì _ (ba hb e')))).2.1
 have N7:tn 0 Ņ:=T.keep _ _ _ LX λ b hb o e=>old b o (by rw [<- Mx];exact Á _ e)
 exact ŷ (loop _ rfl rfl rfl) (T.self _ 0 _ _ _ N7 (loop _ rfl rfl rfl))
end
end My
namespace My
open PySem PySem.W L2
section
variable {P:Program}{w:World}{K:Frag}{mg:bv}{base:Heap}{C:Nat->Addr}{CO CR f a1:Addr}{fd d1:FuncData}
abbrev n9:Stmt:=aE (cr 66) 1
theorem EB:ae ["self","outcomes"] ["self","outcomes"] (aa n9):=aO
abbrev sG:Scope:=eZ [("one",.cell),("sum",.globalImplicit),("outcomes",.free)]
abbrev GU:Scope:=eZ [("other",.local),("stands_to",.globalImplicit),("one",.free)]
theorem G6:((["one"]:List Str)++(["outcomes"]:List Str)).Nodup:=ao
theorem Fa:((["other"]:List Str)++(["one"]:List Str)).Nodup:=ao
def xU (K:Frag):Sp:=λ vs H Q _=>∃ v a xs os,vs=[v,.ref a]/\H a=some (.lst xs)/\vi H xs os/\(∀ o∈os,-99<=o.1/\o.1<=99)/\os.length<=20/\oV H (jS os) Q
def HW (K:Frag)(CO:Addr):TE:=fZ (cO K (ar 1)) 1 [0] (bF 0) (gE (nR K CO) [] E0 (ag (ar 1) (ag (ar 0) aG)))
def Ev (K:Frag)(CO:Addr):TE:=iQ (oz K) (ag (HW K CO) aG)
section
variable {cdv:Value}{A:Around}{outer:List Env}{s:Shared}{H:Hp}{E:XK}
theorem vO:qp (br ay P w K mg base ["self","outcomes"] "Wins.among" (aa n9) f cdv A outer s H E).Ŝ sG [("outcomes",s.heap.objs.size+1)] "one" ["one"] ["outcomes"] [1]:=by
 refine⟨rfl,rfl,λ C=>rfl,ao,Ô.mpr rfl,λ z c h=>?_,λ z h=>?_,ao,λ k z h=>?_,rfl⟩
 ·obtain⟨rfl,rfl⟩:=nH h;rfl
 ·have h:List.lookup z [((".0" : Str),NameKind.local),(("one" : Str),NameKind.cell),(("sum" : Str),NameKind.globalImplicit),(("outcomes" : Str),NameKind.cell)]=some .cell\/List.lookup z [((".0" : Str),NameKind.local),(("one" : Str),NameKind.cell),(("sum" : Str),NameKind.globalImplicit),(("outcomes" : Str),NameKind.cell)]=some .free:=h;have all:∀ y ∈ [((".0" : Str),NameKind.local),(("one" : Str),NameKind.cell),(("sum" : Str),NameKind.globalImplicit),(("outcomes" : Str),NameKind.cell)],(y.2=.cell\/y.2=.free)->y.1 = "one" \/ y.1 = "outcomes" := ao;have e:z = "one" \/ z = "outcomes" := by
   rcases h with h | h
   ·exact all _ (Ú h) (.inl rfl)
   ·exact all _ (Ú h) (.inr rfl)
  rcases e with rfl | rfl
  ·exact .inl rfl
  ·exact .inr ⟨_,i8⟩
 ·match k,h with
  | 0,h =>
   have h:some ("outcomes" : Str)=some z:=h;cases h;exact⟨1,rfl,rfl,.inr (.inl rfl),by show(aa n9).names.lookup ("outcomes" : Str)≠some NameKind.local;decide +kernel,.inl rfl⟩
  | k+1,h=>simp at h
theorem xR {X:Cx}{C1:Addr}{fp:List Addr}{cl:List (Str × Addr)}(hk:X.env.scope.kind=.function):bL (eN X sG cl "one" ((["one"]:List Str)++(["outcomes"]:List Str)) s H C1 fp) GU [("one",C1+1)] ["other"] ["one"] [0] :=
 pI (L:=[(".0",.local),("other",.local),("stands_to",.globalImplicit),("one",.cell)]) rfl rfl ao ao ao i8 rfl ao ao rfl (.inr (.inl rfl))
  (by show(relabel sG X.env).names.lookup ("one" : Str)≠some NameKind.local;exact λ h=>nomatch (show some NameKind.cell=some NameKind.local from h)) (.inl rfl)
theorem Cg (A1:Df P w K mg base (cp P w) 5 "stands_to" ["one","other"] (nR K CO) a1 d1)(ms:mg "sum" = none)(hr:qX 5 "Wins.among" n9 A s f cdv):Bx (Ų (br ay P w K mg base ["self","outcomes"] "Wins.among" (aa n9) f cdv A outer s H E).Ŝ (aH n9) (cW (fZ (cO K (ar 1)) 1 [1] (bF 0) (Ev K CO)))) :=
 be ⟨cM (B7 (te:=Ev K CO) (g:=bF 0) rfl vO (bC (pv 1)) (λ s H C fp=>by exact dG (i:=0) G6 rfl (.inr rfl)) (λ s H C fp=>by
  exact ah (dS rfl) rfl ms Ė (ac (dL (te:=gE (nR K CO) [] E0 (ag (ar 1) (ag (ar 0) aG))) (g:=bF 0) rfl (xR rfl) (bC (pv 1)) (λ s H C fp=>by exact dG (i:=0) Fa rfl (.inl rfl)) (λ s H C fp=>by
   exact cq A1 hr fQ (ac (pv 1) (ac (pv 0) aq)))) aq)))⟩
end
theorem Az (F:ğ K "among" "Wins.among" n9 f fd)(A1:Df P w K mg base (cp P w) 5 "stands_to" ["one","other"] (nR K CO) a1 d1)(ms:mg "sum" = none):ß P w K mg base ay 6 f fd ["self","outcomes"] (xU K):=by
 refine cw F EB λ cdv A outer s H vs Q E hr h=>?_;obtain⟨v,a,xs,os,rfl,ha,oc,bd,lo,q⟩:=h;obtain⟨NY⟩:=Cg A1 ms hr (f:=f) (cdv:=cdv) (A:=A) (outer:=outer) (s:=s) (H:=H) (E:=E) (P:=P) (w:=w) (base:=base);refine⟨_,NY,?_⟩;obtain⟨lx,oc⟩:=oc;have sz:=Ö;have ot:∀{H':Hp}{i:Nat}{b:Addr},Ext H H'->(hi:i<os.length)->H' b=some (.tup [.int os[i].1,.bl os[i].2])->Ot K H' (.ref b) true:=λ {H' i b} x' hi hb=>by
  have:=bd os[i] (đ hi);refine .inl ⟨.tuple [.int os[i].1,.bool os[i].2],.tup hb (.cons (.int _) (.cons (.bl _) .nil)),?_⟩;show true=((decide ((-99:Int)<=os[i].1)&&decide (os[i].1<=99))&&true);rw [Å this.1,Å this.2];rfl
 refine⟨_,rfl,a,rfl,⟨_,ó.of ha⟩,λ D hD=>?_⟩;refine cI (a:=a) (xs:=xs) (λ i ys H'=>Ext H H'/\ys=((jS os).take i).map V.int) am ⟨Ext.new hD,rfl⟩ (λ i ys H' pv=>ó.of (pv.1 _ _ ha)) ?_ ?_
 ·rintro i x ys H' ex ly ĩ ⟨x',ey⟩ OH ŋ R k;obtain⟨o0,rfl⟩:∃ o0,OH=[o0]:=by
   match OH,ŋ with
   | [o0],_=>exact⟨o0,rfl⟩
  have li:i<os.length:=by rw [<- lx];exact(Ë.mp ex).1
  obtain⟨b,rfl,hb⟩:=oc i x _ ex (Â li);refine⟨⟨[some (.ref b)],rfl,rfl⟩,?_⟩;refine⟨_,rfl,a,rfl,⟨_,ó.of (x' _ _ ha)⟩,λ D2 MB=>?_⟩;have nD:D2≠D:=λ e=>by rw [e,ĩ] at MB;cases MB
  refine cI (a:=a) (xs:=xs) (λ j zs H2=>Ext H' H2/\zs=((os.map λ p=>pN os[i] p).take j).map V.int) am ⟨Ext.new MB,rfl⟩ (λ j zs H2 pv=>ó.of (pv.1 _ _ (x' _ _ ha))) ?_ ?_
  ·rintro j y zs H2 Xt lz LF ⟨x2,ez⟩ RZ U_ R2 k2;obtain⟨o0,rfl⟩:∃ o0,RZ=[o0]:=by
    match RZ,U_ with
    | [o0],_=>exact⟨o0,rfl⟩
   have lj:j<os.length:=by rw [<- lx];exact(Ë.mp Xt).1
   obtain⟨b2,rfl,PU⟩:=oc j y _ Xt (Â lj);have ν:=x'.trans x2;refine⟨⟨[some (.ref b2)],rfl,rfl⟩,_,rfl,_,rfl,.ref b,.ref b2,true,true,rfl,ot ν li (ν _ _ hb),ot ν lj (ν _ _ PU),(λ z=>by cases z),(λ _ z=>by cases z),λ a1 a2 n1 n2 s1 s2 q1 q2 t1 t2 _ _=>?_⟩
   cases q1;cases q2;rw [ν _ _ hb] at t1;rw [ν _ _ PU] at t2;cases t1;cases t2;refine k2 _ H2 LF ⟨bz _ x2 MB,?_⟩;have es:(os.map λ p=>pN os[i] p)[j]?=some (pN os[i] os[j]):=by
    rw [Ò,Â lj];rfl
   rw [aQ es,Ï,<- ez];rfl
  ·rintro zs H2 lz LF ⟨x2,ez⟩;have l2:(os.map λ p=>pN os[i] p).length=xs.length:=by rw [Ä,lx]
   rw [<- l2,ä] at ez;rw [ez] at LF;refine⟨D2,_,rfl,ó.of LF,?_⟩;refine k _ H2 (x2 _ _ ĩ) ⟨bz _ (x'.trans x2) hD,?_⟩;have es:(jS os)[i]?=some ((os.map λ p=>pN os[i] p).sum):=by
    unfold jS;rw [Ò,Â li];rfl
   rw [aQ es,Ï,<- ey];rfl
 ·rintro ys H' ly ĩ ⟨x',ey⟩;have l2:(jS os).length=xs.length:=by unfold jS;rw [Ä,lx]
  rw [<- l2,ä] at ey;rw [ey] at ĩ;exact q D H' x' hD ĩ
end
section
variable {P:Program}{w:World}{K:Frag}{mg:bv}{base:Heap}
abbrev gh:Stmt:=cr 73
abbrev sB (i:Nat):Stmt:=(aH gh).getD i (.Pass ⟨0,0,0,0⟩)
def cS (K:Frag):Sp:=λ vs H Q _=>∃(s:Addr)(ns:List Int)(p:Addr)(m:Int),vs=[.ref s,.ref p,.int m]/\ó K H s (ns.map V.int)/\ns.length<=63/\s≠p/\ħ H p/\0<m/\m<1073741824/\∀(r:Int)(H':Hp),0<=r->r<m->ħ H' p->Kept H H' p->(∀ b,H b=none->H' b=none)->Q (.int r) H'
abbrev DD:List Str:=["_law_script","_law_pen","_law_many","_law_cell","_law_found","_law_number"]
theorem To:ae DD ["_law_script","_law_pen","_law_many"] (aa gh):=aO
theorem jb {H:Hp}{p:Addr}(o:HO):Kept H (af H p o) p:=λ b u h n=>by rw [au n];exact h
theorem jg {H:Hp}{p:Addr}{o u:HO}(h:H p=some u):∀ b,H b=none->af H p o b=none:=λ b hb=>by
 rw [au (λ e=>by subst e;rw [h] at hb;cases hb)];exact hb
def k9 (K:Frag)(i:Int):TE:=aS (cX K) (ar 1) (tC (.int i))
def nv (i:Int)(te:TE):TS:=cV te (E3 (ar 1) (tC (.int i)) uY)
def Hb (K:Frag):TE:=iQ (λ xs H Q=>∃ i j,xs=[.int i,.int j]/\Q (.int (if j<i then j else i)) H) (ag (iQ (λ xs H Q=>∃ p ys,xs=[.ref p]/\(ó K H p ys\/ĥ K H p ys)/\Q (.int ys.length) H) (ag (ar 0) aG)) (ag (tC (.int 63)) aG))
def Lj (K:Frag):TS:=aZ (cV (aS (cX K) (ar 0) (k9 K 0)) (bF 3)) (aZ (yL (ar 1) (tC (.int 0)) (tC (.int 1)) (ya K) (Kw λ i j=>i+j) uY)
 (aZ (nv 2 (aS (rI (λ _ j=>0<j) λ i j=>.int (i%j)) (aS (eO λ i j=>.int (i+j)) (aS (eO λ i j=>.int (i+j)) (aS (rI δ λ i j=>.int (i*j)) (k9 K 2) (tC (.int 48271))) (aS (rI (λ _ j=>0<j) λ i j=>.int (i%j)) (ar 3) (tC (.int 2147483629)))) (k9 K 0)) (tC (.int 2147483647))))
 (dQ (tB (aS (eO λ i j=>.bl (decide (j<=i))) (ar 3) (aS (rI qE λ i j=>.int (i^j.toNat)) (tC (.int 10)) (tC (.int 18))))) (nv 1 (ar 3)) bZ)))
def AM (K:Frag):TS:=dQ (tO (tB (aS rW (k9 K 1) (tC (.int 0)))) (tB (aS (eO λ i j=>.bl (decide (i<j))) (k9 K 0) (Hb K)))) (Lj K) bZ
def Hq (K:Frag):TS:=dQ (tB (aS (eO λ i j=>.bl (decide (i>j))) (k9 K 1) (tC (.int 0)))) (aZ (cV (aS (rI (λ _ j=>0<j) λ i j=>.int (i%j)) (k9 K 1) (ar 2)) (bF 4)) (aZ (nv 1 (aS (rI jC λ i j=>.int (i/j)) (k9 K 1) (ar 2))) (cW (ar 4)))) bZ
def FE (K:Frag):TS:=nv 2 (aS (rI (λ _ j=>0<j) λ i j=>.int (i%j)) (aS (eO λ i j=>.int (i+j)) (aS (rI δ λ i j=>.int (i*j)) (k9 K 2) (tC (.int 69621))) (tC (.int 1013904223))) (tC (.int 2147483647)))
def Hl (K:Frag):TS:=cV (aS (rI (λ _ j=>0<j) λ i j=>.int (i%j)) (aS (rI δ λ i j=>.int (i*j)) (k9 K 2) (k9 K 2)) (tC (.int 2147483629))) (bF 5)
def Dv (K:Frag):TS:=cW (aS (rI (λ _ j=>0<j) λ i j=>.int (i%j)) (aS (rI jC λ i j=>.int (i/j)) (aS (rI (λ _ j=>0<j) λ i j=>.int (i%j)) (aS (rI δ λ i j=>.int (i*j)) (aS (eO λ i j=>.int (i+j)) (ar 5) (aS (rI jC λ i j=>.int (i/j)) (k9 K 2) (tC (.int 16)))) (aS (eO λ i j=>.int (i+j)) (ar 5) (tC (.int 3)))) (tC (.int 2147483587))) (tC (.int 7))) (ar 2))
def Fy (K:Frag):TS:=aZ (AM K) (aZ (Hq K) (aZ (FE K) (aZ (Hl K) (Dv K))))
variable {f:Addr}{cdv:Value}{A:Around}{outer:List Env}{s:Shared}{H:Hp}{E:XK}
theorem Jo (ml:mg "len" = none)(mm:mg "min" = none):Bx (PS (br ay P w K mg base DD "_law_take" (aa gh) f cdv A outer s H E).Ŝ (sB 0) (AM K)):=by
 have nd:=To.nd;exact jB ⟨PW.pt (kZ (aA cZ (ft iB (pv 1) aB) aB (az _)) (i7 (aA uQ (ft iB (pv 1) aB) (ah (qO rfl) rfl mm PyProof.Rows.boot_min (ac (ah aF rfl ml ñ (ac (pv 0) aq)) (ac aB aq))) (az _))))⟩
  (cA (aP (i:=3) nd rfl (Or.inl rfl) ⟨ft iB (pv 0) (ft iB (pv 1) aB)⟩) (cA ⟨wY (pv 1) aB t7 aB CQ f8⟩
  (cA ⟨gN (aC fG (aC cj (aC cj (aC f7 (ft iB (pv 1) aB) aB) (aC fG (pv 3) aB)) (ft iB (pv 1) aB)) aB) (lH (pv 1) aB f8)⟩
  (be ⟨bf (aA xX (pv 3) (aC ua aB aB) (az _)) (bj (gN (pv 3) (lH (pv 1) aB f8))) fF⟩)))) fE
theorem Ic:Bx (PS (br ay P w K mg base DD "_law_take" (aa gh) f cdv A outer s H E).Ŝ (sB 1) (Hq K)):=by
 have nd:=To.nd;exact jB ⟨aA iS (ft iB (pv 1) aB) aB (az _)⟩ (cA (aP (i:=4) nd rfl (Or.inl rfl) ⟨aC fG (ft iB (pv 1) aB) (pv 2)⟩)
  (cA ⟨gN (aC gr (ft iB (pv 1) aB) (pv 2)) (lH (pv 1) aB f8)⟩ (be ⟨cM (pv 4)⟩))) fE
theorem HI:Bx (PS (br ay P w K mg base DD "_law_take" (aa gh) f cdv A outer s H E).Ŝ (sB 2) (FE K)) :=
 ⟨gN (aC fG (aC cj (aC f7 (ft iB (pv 1) aB) aB) aB) aB) (lH (pv 1) aB f8)⟩
theorem Iu:Bx (PS (br ay P w K mg base DD "_law_take" (aa gh) f cdv A outer s H E).Ŝ (sB 3) (Hl K)) :=
 aP (i:=5) To.nd rfl (Or.inl rfl) ⟨aC fG (aC f7 (ft iB (pv 1) aB) (ft iB (pv 1) aB)) aB⟩
theorem JR:Bx (PS (br ay P w K mg base DD "_law_take" (aa gh) f cdv A outer s H E).Ŝ (sB 4) (Dv K)) :=
 ⟨cM (aC fG (aC gr (aC fG (aC f7 (aC cj (pv 5) (aC gr (ft iB (pv 1) aB) aB)) (aC cj (pv 5) aB)) aB) aB) (pv 2))⟩
theorem Db (ml:mg "len" = none)(mm:mg "min" = none):Bx (Ų (br ay P w K mg base DD "_law_take" (aa gh) f cdv A outer s H E).Ŝ (aH gh) (Fy K)) :=
 cA (Jo ml mm) (cA Ic (cA HI (cA Iu (be JR))))
end
section
variable {P:Program}{w:World}{K:Frag}{mg:bv}{base:Heap}{H:Hp}{D:bY}
theorem fU {Q:VK}{σ:St}{p:Addr}{xs:List V}{v:V}(k:Nat)(h1:σ[1]?=some (some (.ref p)))(hp:H p=some (.lst xs))(hv:xs[k]?=some v)(q:Q v H):k9 K (k:Nat) σ H Q:=⟨_,h1,p,_,_,_,rfl,rfl,ó.of hp,gS hv,q⟩
theorem Ay {c:Int}(h0:0<=c)(h1:c<2147483647)(y:Int):δ c y:=.inl ⟨Int.lt_of_lt_of_le ad h0,Int.lt_trans h1 ad⟩
theorem jd {σ:St}{p:Addr}{xs:List V}{te:TE}{v:V}(k:Nat)(h1:σ[1]?=some (some (.ref p)))(hp:H p=some (.lst xs))(hk:k<xs.length)(ht:∀ R:VK,R v H->te σ H R)(nx:D.nx σ (af H p (.lst (xs.set k v)))):nv (k:Nat) te D σ H:=by
 refine ht _ ⟨_,h1,p,xs,_,k,rfl,rfl,hp,?_,nx⟩;unfold yN;rw [à am,à am,õ]
theorem DG {sA p:Addr}{ns:List Int}{o2 o3 o4 o5:Option V}(hs:ó K H sA (ns.map V.int))(N_:ns.length<=63)(bx:ħ H p)(nx:∀ o3 H',ħ H' p->Kept H H' p->(∀ b,H b=none->H' b=none)->D.nx [some (.ref sA),some (.ref p),o2,o3,o4,o5] H') :
  AM K D [some (.ref sA),some (.ref p),o2,o3,o4,o5] H:=by
 obtain⟨a,b,c,hp,a0,b0,c0,c1⟩:=id bx.ex;refine fU 1 rfl hp rfl ⟨rfl,_,rfl,?_⟩;by_cases eb:b=0
 rotate_left
 ·rw [É (λ z=>eb (V.int.inj z))];exact cE (cE (nx _ H bx (Kept.refl _ _) λ _ h=>h))
 rw [Å (by rw [eb])]
 refine cQ (fU 0 rfl hp rfl ⟨_,rfl,sA,_,rfl,.inl hs,_,_,rfl,_,_,rfl,rfl,_,rfl,?_⟩);refine pB (λ cc=>?_) (λ cc=>nx _ H bx (Kept.refl _ _) λ _ h=>h);have cl:a<ns.length:=by
  have:=ı cc;rw [Ä] at this;split at this <;> omega
 have ha:a.toNat<ns.length:=am;have ea:a=((a.toNat:Nat):Int):=am;have at1:v6 (ns.map V.int) a=some (.int ns[a.toNat]):=by
  have e:=gS (xs:=ns.map V.int) (j:=a.toNat) (v:=.int ns[a.toNat]) (by rw [Ò,Â ha];rfl)
  rwa [<- ea] at e
 refine⟨_,rfl,fU 0 rfl hp rfl ⟨sA,_,_,_,rfl,rfl,hs,at1,?_⟩⟩;generalize ns[a.toNat]=cell;refine⟨_,rfl,p,_,0,_,rfl,rfl,ó.of hp,rfl,a,1,rfl,rfl,p,_,_,0,rfl,rfl,hp,rfl,?_⟩;have f1:af H p (.lst [.int (a+1),.int b,.int c]) p=some (.lst [.int (a+1),.int b,.int c]):=aR;show aZ _ _ D _ (af H p (.lst [.int (a+1),.int b,.int c]));refine jd (σ:=[some (.ref sA),some (.ref p),o2,some (.int cell),o4,o5]) (te:=aS (rI (λ _ j=>0<j) λ i j=>.int (i%j)) (aS (eO λ i j=>.int (i+j)) (aS (eO λ i j=>.int (i+j)) (aS (rI δ λ i j=>.int (i*j)) (k9 K 2) (tC (.int 48271))) (aS (rI (λ _ j=>0<j) λ i j=>.int (i%j)) (ar 3) (tC (.int 2147483629)))) (k9 K 0)) (tC (.int 2147483647))) (v:=.int ((c*48271+cell%2147483629+(a+1))%2147483647)) 2 rfl f1 (by show 2<3;decide) (λ R r=>fU 2 rfl f1 rfl ⟨_,_,rfl,rfl,Ay c0 c1 _,_,rfl,_,_,rfl,rfl,(by show(0:Int)<2147483629;decide),_,_,rfl,rfl,fU 0 rfl f1 rfl ⟨_,_,rfl,rfl,_,_,rfl,rfl,(by show(0:Int)<2147483647;decide),r⟩⟩) ?_
 rw [fv];have m0:0<=(c*48271+cell%2147483629+(a+1))%2147483647:=Α _ ad;have m1:(c*48271+cell%2147483629+(a+1))%2147483647<2147483647:=Ŀ _ ad;generalize (c*48271+cell%2147483629+(a+1))%2147483647=c' at m0 m1 ⊢;rw [show([V.int (a+1),V.int b,V.int c].set 2 (V.int c'))=[V.int (a+1),V.int b,V.int c'] from rfl];have f2:af H p (.lst [.int (a+1),.int b,.int c']) p=some (.lst [.int (a+1),.int b,.int c']):=aR;refine⟨_,rfl,10,18,rfl,rfl,⟨ad,ad,ad⟩,_,_,rfl,rfl,_,rfl,?_⟩;refine pB (λ c2=>?_) (λ c2=>?_)
 ·have big:(10:Int)^(18:Int).toNat<=cell:=ı c2;have aa2:(0:Int)<=(10:Int)^(18:Int).toNat:=ad;refine jd (v:=.int cell) 1 rfl f2 (by show 1<3;decide) (λ R r=>⟨_,rfl,r⟩) ?_
  rw [fv];exact nx _ _ ⟨_,_,_,aR,am,am,m0,m1⟩ (jb _) (jg hp)
 ·exact nx _ _ ⟨_,_,_,f2,am,b0,m0,m1⟩ (jb _) (jg hp)
theorem vL {f:Addr}{fd:FuncData}(F:ğ K "_law_take" "_law_take" gh f fd)(ml:mg "len" = none)(mm:mg "min" = none):ß P w K mg base ay 1 f fd ["_law_script","_law_pen","_law_many"] (cS K):=by
 refine cw F To λ cdv A outer s H vs Q E hr h=>?_;obtain⟨sA,ns,p,m,rfl,hs,N_,ne,bx0,m0,m1,q0⟩:=h;obtain⟨NY⟩:=Db ml mm (f:=f) (cdv:=cdv) (A:=A) (outer:=outer) (s:=s) (H:=H) (E:=E) (P:=P) (w:=w) (base:=base);refine⟨_,NY,?_⟩;refine DG (D:=⟨_,Q,_,_⟩) hs N_ bx0 λ o3 H1 bx k1 n1=>?_;have q:∀(r:Int)(H':Hp),0<=r->r<m->ħ H' p->Kept H1 H' p->(∀ b,H1 b=none->H' b=none)->Q (.int r) H':=λ r H' a b c d e=>q0 r H' a b c (k1.trans d) λ b h=>e b (n1 b h);obtain⟨a,b,c,hp,a0,b0,c0,c1⟩:=id bx.ex;refine fU 1 rfl hp rfl ⟨_,_,rfl,rfl,_,rfl,?_⟩;refine pB (λ cc=>?_) (λ cc=>?_)
 ·have b1:0<b:=ı cc;refine aN (te:=aS (rI (λ _ j=>0<j) λ i j=>.int (i%j)) (k9 K 1) (ar 2)) (i:=4) (D:=⟨_,Q,_,_⟩) (fU 1 rfl hp rfl ⟨_,rfl,_,_,rfl,rfl,m0,?_⟩);refine jd (D:=⟨_,Q,_,_⟩) (v:=.int (b/m)) 1 rfl hp (by show 1<3;decide) (λ R r=>fU 1 rfl hp rfl ⟨_,rfl,_,_,rfl,rfl,⟨m0,m1⟩,r⟩) ?_
  exact⟨_,rfl,q _ _ (Α _ am) (Ŀ _ m0) ⟨_,_,_,aR,a0,Int.ediv_nonneg b0 am,c0,c1⟩ (jb _) (jg hp)⟩
 ·refine jd (σ:=[some (.ref sA),some (.ref p),some (.int m),o3,none,none]) (te:=aS (rI (λ _ j=>0<j) λ i j=>.int (i%j)) (aS (eO λ i j=>.int (i+j)) (aS (rI δ λ i j=>.int (i*j)) (k9 K 2) (tC (.int 69621))) (tC (.int 1013904223))) (tC (.int 2147483647))) (D:=⟨_,Q,_,_⟩) (v:=.int ((c*69621+1013904223)%2147483647)) 2 rfl hp (by show 2<3;decide) (λ R r=>fU 2 rfl hp rfl ⟨_,_,rfl,rfl,Ay c0 c1 _,_,_,rfl,rfl,_,_,rfl,rfl,(by show(0:Int)<2147483647;decide),r⟩) ?_
  have e0:0<=(c*69621+1013904223)%2147483647:=Α _ ad;have e1:(c*69621+1013904223)%2147483647<2147483647:=Ŀ _ ad;generalize (c*69621+1013904223)%2147483647=c' at e0 e1 ⊢;have f2:af H1 p (.lst [.int a,.int b,.int c']) p=some (.lst [.int a,.int b,.int c']):=aR;have X3:ħ (af H1 p (.lst [.int a,.int b,.int c'])) p:=⟨_,_,_,f2,a0,b0,e0,e1⟩;have q2:=λ r h0 h1=>q r (af H1 p (.lst [.int a,.int b,.int c'])) h0 h1 X3 (jb _) (jg hp);show aZ _ _ _ _ (af H1 p (.lst [.int a,.int b,.int c']));generalize af H1 p (.lst [.int a,.int b,.int c'])=H2 at f2 X3 q2 ⊢;refine aN (te:=aS (rI (λ _ j=>0<j) λ i j=>.int (i%j)) (aS (rI δ λ i j=>.int (i*j)) (k9 K 2) (k9 K 2)) (tC (.int 2147483629))) (i:=5) (D:=⟨_,Q,_,_⟩) (fU 2 rfl f2 rfl (fU 2 rfl f2 rfl ⟨_,_,rfl,rfl,Ay e0 e1 _,_,_,rfl,rfl,(by show(0:Int)<2147483629;decide),?_⟩))
  have n0:0<=c'*c'%2147483629:=Α _ ad;have n1:c'*c'%2147483629<2147483629:=Ŀ _ ad;show Dv K _ [some (.ref sA),some (.ref p),some (.int m),o3,none,some (.int (c'*c'%2147483629))] H2;generalize c'*c'%2147483629=n at n0 n1 ⊢;have g0:0<=c'/16:=Int.ediv_nonneg e0 ad;have g1:c'/16<2147483647:=Int.lt_of_le_of_lt (Int.ediv_le_self _ e0) e1;have cm:δ (n+c'/16) (n+3):=.inl ⟨am,am⟩;refine⟨_,rfl,fU 2 rfl f2 rfl ⟨_,_,rfl,rfl,⟨(by show(0:Int)<16;decide),(by show(16:Int)<1073741824;decide)⟩,_,_,rfl,rfl,_,rfl,_,_,rfl,rfl,_,_,rfl,rfl,cm,_,_,rfl,rfl,(by show(0:Int)<2147483587;decide),_,_,rfl,rfl,⟨(by show(0:Int)<7;decide),(by show(7:Int)<1073741824;decide)⟩,_,rfl,_,_,rfl,rfl,m0,?_⟩⟩
  exact q2 _ (Α _ am) (Ŀ _ m0)
end
structure Sc (K:Frag)(H:Hp)(s p:Addr)(ns:List Int):Prop where
 sq:ó K H s (ns.map V.int)
 N_:ns.length<=63
 ne:s≠p
 bx:ħ H p
theorem Sc.kept {K:Frag}{H H':Hp}{s p:Addr}{ns:List Int}(c:Sc K H s p ns)(k:Kept H H' p)(b:ħ H' p):Sc K H' s p ns:=⟨My.ó.kp c.sq k c.ne,c.N_,c.ne,b⟩
theorem Sc.ext {K:Frag}{H H':Hp}{s p:Addr}{ns:List Int}(c:Sc K H s p ns)(x:Ext H H'):Sc K H' s p ns:=c.kept (x.kept p) (c.bx.ext x)
def dI (K:Frag)(te:TE):TE:=gE (cS K) [] E0 (ag (ar 0) (ag (ar 1) (ag te aG)))
theorem bH {K:Frag}{H:Hp}{σ:St}{s p:Addr}{ns:List Int}{te:TE}{m:Int}{Q:VK}(c:Sc K H s p ns)(h0:σ[0]?=some (some (.ref s)))(h1:σ[1]?=some (some (.ref p)))(hm:∀ R:VK,R (.int m) H->te σ H R)(m0:0<m)(m1:m<1073741824)(q:∀ r H',0<=r->r<m->Sc K H' s p ns->Kept H H' p->Q (.int r) H'):dI K te σ H Q :=
 ⟨_,h0,_,h1,hm _ ⟨s,ns,p,m,rfl,c.sq,c.N_,c.ne,c.bx,m0,m1,λ r H' a b d e _=>q r H' a b (c.kept e d) e⟩⟩
def ip (rs:List R0)(n:Nat):PyData:=match rs[n]? with
 | none=>.tuple [.int (n:Nat),.none]
 | some r=>.tuple [.int (n:Nat),r.begin]
theorem BW (rs:List R0):ip rs 0=(Rl.blocks rs).begin:=by cases rs <;> rfl
section
variable {P:Program}{w:World}{K:Frag}{mg:bv}{base:Heap}{C:Nat->Addr}{CR:Addr}
abbrev Jm:Stmt:=aE (cr 43) 1
def CI (C:Nat->Addr):Sp:=λ vs H Q _=>∃(x:Addr)(n:Nat)(dx:Addr)(fs:List (Str × V))(l:Addr)(ws:List V)(rs:List R0),vs=[.ref x,.int (n:Nat)]/\H x=some (.ins (C 3) dx fs)/\fs.lookup ("rules" : Str)=some (.ref l)/\H l=some (.tup ws)/\ρ C H rs ws/\n<=rs.length/\∀ m H',Ext H H'->Ĉ H' (.ref m) (ip rs n)->Q (.ref m) H'
theorem II:ae ["self","number"] ["self","number"] (aa Jm):=aO
theorem D0 {f:Addr}{fd:FuncData}(Z:KR K C CR)(F:ğ K "state_ahead" "Blocks.state_ahead" Jm f fd)(M:Ms P w K mg base C)(ml:mg "len" = none):ß P w K mg base ay 2 f fd ["self","number"] (CI C):=by
 refine cw F II λ cdv A outer s H vs Q E hr h=>?_;obtain⟨x,n,dx,fs,l,ws,rs,rfl,hx,Qo,hl,al,nl,q⟩:=h;refine⟨_,cL (bf (aA cZ (pv 1) (ah aF rfl ml ñ (ac (vj (pv 0) rfl) aq)) (az _)) (bj (cM (aU (ac (pv 1) (ac bQ aq))))) fF)
  (bj (cM (aU (ac (pv 1) (ac (bN (ft oA (vj (pv 0) rfl) (pv 1)) M.begin hr ai) aq))))),?_⟩
 have c:=Z.cls 3 ad;have no:=Z.no 3 ad "rules" ao;refine⟨_,rfl,_,rfl,x,C 3,dx,fs,_,rfl,hx,c,no,Qo,l,ws,rfl,.inr (ĥ.of hl),rfl,_,rfl,?_⟩;have lw:=al.1;by_cases e:n=rs.length
 ·rw [Å (by rw [<- lw,e])]
  refine cQ ⟨_,rfl,dA,λ m hm=>q m _ (Ext.new hm) ?_⟩;have ea:ip rs n=.tuple [.int (n:Nat),.none]:=by unfold ip;rw [t_ am]
  rw [ea];exact .tup aR (.cons (.int _) (.cons .ù .nil))
 ·rw [É (by intro z;injection z with z;omega)]
  have hn:n<rs.length:=am;have hw:n<ws.length:=am;have ru:=al.2 n _ _ (Â hn) (Â hw);refine cE ⟨_,rfl,cF (t:=.one rs[n]) (v:=ws[n]) ao ru (λ R r=>⟨_,rfl,x,C 3,dx,fs,_,rfl,hx,c,no,Qo,_,rfl,l,ws,_,_,rfl,rfl,ĥ.of hl,gS (Â hw),r⟩) ⟨_,.one rs[n],H,rfl,Ext.refl _,ru,λ b rb=>⟨dA,λ m hm=>q m _ (Ext.new hm) ?_⟩⟩⟩;have ea:ip rs n=.tuple [.int (n:Nat),rs[n].begin]:=by unfold ip;rw [Â hn]
  rw [ea];exact .tup aR (.cons (.int _) (.cons (rb.mono (Ext.new hm)) .nil))
abbrev Dw:Stmt:=aE (cr 43) 0
abbrev KY:List Str:=["self","rules","size","mark"]
theorem RS:ae KY ["self","rules"] (aa Dw):=aO
abbrev ED:Scope:=eZ [("rule",.local)]
theorem sH {X:Cx}:bL X ED [] ["rule"] [] []:=by
 refine⟨rfl,rfl,ao,ao,ao,(λ z c h=>nomatch h),(λ z h=>?_),ao,(λ k z h=>by simp at h),rfl⟩
 exfalso;have h':List.lookup z [((".0" : Str),NameKind.local),(("rule" : Str),NameKind.local)]=some .cell\/List.lookup z [((".0" : Str),NameKind.local),(("rule" : Str),NameKind.local)]=some .free:=h;simp only [List.lookup_cons,List.lookup_nil] at h'
 repeat' (split at h')
 all_goals simp at h'
def kT (K:Frag)(C:Nat->Addr)(CT CM:Addr):Sp:=λ vs H Q E=>∃(x:Addr)(v:V)(dx:Addr)(G:Hp),vs=[.ref x,v]/\H x=some (.ins (C 3) dx [])/\Ext G H/\G x=none/\((Pp K G v "list" /\ ∀ H',Ext H H'->bM CT "found" v H' E) \/
 (∃ a xs bs,v=.ref a/\G a=some (.lst xs)/\xs.length<1000/\oB K C G xs bs/\DY xs.length bs=false/\∀ H',Ext H H'->bM CT "found" v H' E) \/
 ∃ a xs rs,v=.ref a/\G a=some (.lst xs)/\ρ C G rs xs/\1<=rs.length/\rs.length<=6/\(∀ r∈rs,r.ok)/\(20<(rs.map R0.Õ).sum->∀ H',Ext H H'->bM CM "many" (.int (rs.map R0.Õ).sum) H' E)/\((rs.map R0.Õ).sum<=20->∀ H',Kept H H' x->NZ C H' rs (.ref x)->Q .ù H'))
theorem wp {G:Hp}{rs:List R0}{xs:List V}(Z:KR K C CR)(al:ρ C G rs xs):oB K C G xs (rs.map λ _=>true):=by
 refine⟨by rw [Ä,al.1],λ i x b hx hb=>?_⟩
 have hi:i<rs.length:=by have:=(Ë.mp hx).1;rw [al.1];exact this
 rw [Ò,Â hi] at hb;cases hb;have k:=tw (t:=.one rs[i]) Z (al.2 i _ x (Â hi) hx);have e:((Rl.one rs[i]).kind==0||((Rl.one rs[i]).kind==1||(Rl.one rs[i]).kind==2))=true:=by
  show(rs[i].kind==0||(rs[i].kind==1||rs[i].kind==2))=true;cases rs[i] <;> rfl
 rw [e] at k;exact k
theorem xT {n:Nat}(h1:1<=n)(h6:n<=6){rs:List R0}:DY n (rs.map λ _=>true)=true:=by
 unfold DY;rw [Å h1,Å h6,MV];simp
variable {S g a1 a2 D CT CM fT fM:Addr}{gd d1 d2 eT eM:FuncData}{t:Tok}
def Lc (C:Nat->Addr):TE:=dy (rO C) "folk" (λ _=>lP C) E0 (ar 0) aG
def Lh (C:Nat->Addr):TE:=dy (rO C) "told" (λ _=>jR C) E0 (ar 0) aG
theorem Ch {f:Addr}{fd:FuncData}(Z:KR K C CR)(F:ğ K "__init__" "Blocks.__init__" Dw f fd)(M:Ms P w K mg base C)(MA:cg P w K mg base ay 2 "state_ahead" ["self","number"] (λ c=>c=C 3) (λ _=>CI C))(B:Į K D)(T1:iI K mg D "NoTrials" "found" CT fT eT)(T2:iI K mg D "TooMany" "many" CM fM eM)
  (Cf:eL K S "__init__" g)(G':ß P w K mg base ay 1 g gd ["self","size","first_state","mark","parts"] (jE C))(bG:Binds K gd ["self","size","first_state","mark","parts"] [])(mS:mg "Rule" = some (.ref S))
  (A1:Df P w K mg base ay 3 "are_block_rules" ["thing"] (Gp K C) a1 d1)(A2:Df P w K mg base ay 2 "parts_of" ["rules"] (En C) a2 d2)(mF:mg "MOST_FOLK" = some (.int 20 t))(ms:mg "sum" = none)(mt:mg "tuple" = none):ß P w K mg base (cp P w) 4 f fd ["self","rules"] (kT K C CT CM):=by
 refine fK F RS λ cdv A outer s H vs Q E hr h=>?_;obtain⟨x,v,dx,G,rfl,hx,xG,nG,h⟩:=h;have nd:=RS.nd;have Ħ:ö 1 _:=hr.mono ad;have Mf:ö 2 _:=hr.mono ad;refine⟨_,cL (bf (bu (aX (cq A1 hr ai (ac (pv 1) aq)))) (bj (cu B T1.cls (T1.ok P w base) Mf T1.bi rfl T1.Mv (pv 1))) fF)
  (cL (mq (i:=2) nd rfl (Or.inl rfl) (ah (dS rfl) rfl ms Ė (ac (dL (te:=Lc C) (g:=bF 0) rfl sH (bC (pv 1)) (λ s H C fp=>by exact dG (i:=0) Ca rfl (.inl rfl)) (λ s H C fp=>by exact bN (pv 0) M.Õ Ħ ai)) aq)))
  (cL (bf (aA iS (pv 2) (aI (v:=.int 20) rfl mF ⟨_,rfl⟩) (az _)) (bj (cu B T2.cls (T2.ok P w base) Mf T2.bi rfl T2.Mv (pv 2))) fF)
  (cL (dq (pv 0) (bA bR rfl mt í (ac (pv 1) aq)) rfl)
  (cL (mq (i:=3) nd rfl (Or.inl rfl) (aU (ac av (ac (bA bR rfl mt í (ac (dL (te:=Lh C) (g:=bF 0) rfl sH (bC (pv 1)) (λ s H C fp=>by exact dG (i:=0) Ca rfl (.inl rfl)) (λ s H C fp=>by exact bN (pv 0) M.told Ħ ai)) aq)) aq))))
  (bj (ax (bS Cf G' Ħ rfl mS bG .nil ai (ac (pv 0) (ac (pv 2) (ac (dE (pv 0) MA Mf ai (ac aB aq)) (ac (pv 3) (ac (cq A2 Mf ai (ac (pv 1) aq)) aq)))))))))))),?_⟩
 rcases h with⟨nk,q⟩ | ⟨a,xs,bs,rfl,ha,l1,bk,bad,q⟩ | ⟨a,xs,rs,rfl,ha,al,l1,l6,ok,qm,q⟩
 ·refine⟨_,rfl,v,rfl,.inl ⟨nk.ext xG,λ H1 x1=>⟨_,rfl,cQ ⟨_,rfl,λ e' de h1 h2 nd=>dM nd (q H1 x1 e' de h1 h2 nd)⟩⟩⟩⟩
 ·refine⟨_,rfl,_,rfl,.inr ⟨a,xs,bs,rfl,xG _ _ ha,l1,⟨bk.1,λ i x b h1 h2=>(bk.2 i x b h1 h2).ext xG⟩,λ H1 x1=>⟨_,rfl,?_⟩⟩⟩;rw [bad];exact cQ ⟨_,rfl,λ e' de h1 h2 nd=>dM nd (q H1 x1 e' de h1 h2 nd)⟩
 have bk:=wp Z al;have lx:=al.1;refine⟨_,rfl,_,rfl,.inr ⟨a,xs,_,rfl,xG _ _ ha,am,⟨bk.1,λ i x b h1 h2=>(bk.2 i x b h1 h2).ext xG⟩,λ H1 x1=>⟨_,rfl,?_⟩⟩⟩;rw [<- lx,xT l1 l6];refine cE ?_;have Nv:=xG.trans x1;refine⟨_,rfl,a,rfl,⟨_,ó.of (Nv _ _ ha)⟩,λ D hD=>?_⟩;refine cI (a:=a) (xs:=xs) (λ i ys H'=>Ext H1 H'/\ys=((rs.take i).map R0.Õ).map V.int) (by rw [Ö];omega) ⟨Ext.new hD,rfl⟩ (λ i ys H' pv=>ó.of ((Nv.trans pv.1) _ _ ha)) ?_ ?_
 ·rintro i v ys H' ev ly ĩ ⟨x',rfl⟩ os ŋ R k;obtain⟨o0,rfl⟩:∃ o0,os=[o0]:=by
   match os,ŋ with
   | [o0],_=>exact⟨o0,rfl⟩
  have hi:i<rs.length:=by have:=(Ë.mp ev).1;omega
  have er:=Â hi;have ru:=(al.2 i _ v er ev).ext (Nv.trans x');refine⟨⟨[some v],rfl,rfl⟩,cF (t:=.one rs[i]) ao ru (λ R r=>⟨_,rfl,r⟩) ⟨v,.one rs[i],rfl,ru,k _ H' ĩ ⟨bz _ x' hD,?_⟩⟩⟩;rw [aQ er,Ï,Ï];rfl
 rintro ys H2 ly ĩ ⟨x2,rfl⟩;rw [<- lx,ä] at ĩ;refine⟨D,_,rfl,ó.of ĩ,?_⟩;refine⟨_,rfl,_,_,rfl,rfl,_,rfl,?_⟩;refine pB (λ c=>?_) (λ c=>?_)
 ·exact⟨_,rfl,λ e' de h1 h2 nd=>dM nd (qm (ı c) H2 (x1.trans x2) e' de h1 h2 nd)⟩
 have WM:(rs.map R0.Õ).sum<=20:=by
  have:¬ ((rs.map R0.Õ).sum>20):=λ z=>c (Å z);omega
 have ν:=x1.trans x2;have Rx:=xG.trans ν;refine⟨_,rfl,a,xs,rfl,.inl ⟨ó.of (Rx _ _ ha),λ l hl=>?_⟩⟩;have x3:=Ext.new (o:=.tup xs) hl;have PP:af H2 l (.tup xs) l=some (.tup xs):=aR;have NT:=x3 _ _ (ν _ _ hx);have hl0:G l=none:=by
  cases e:G l with
  | none=>rfl
  | some o=>rw [Rx _ _ e] at hl;cases hl
 generalize af H2 l (.tup xs)=H3 at x3 PP NT ⊢;have Ph:=ν.trans x3;refine⟨_,rfl,x,C 3,dx,[],rfl,NT,Z.cls 3 ad,Z.no 3 ad _ ao,ad,?_⟩;have k4:Kept H3 (af H3 x (.ins (C 3) dx (bK "rules" (.ref l) []))) x:=bh _;have Ro:af H3 x (.ins (C 3) dx (bK "rules" (.ref l) [])) x=some (.ins (C 3) dx [("rules",.ref l)]):=aR;have xl:l≠x:=λ e=>by rw [e,NT] at PP;cases PP
 have O0:=k4 _ _ PP xl;generalize af H3 x (.ins (C 3) dx (bK "rules" (.ref l) []))=H4 at k4 Ro O0 ⊢;have W2:Kept H H4 x:=(Ph.kept x).trans k4;have Td:=xG.kp nG W2;refine⟨_,rfl,a,rfl,⟨_,ó.of (Td _ _ ha)⟩,λ D2 MB=>?_⟩;refine cI (a:=a) (xs:=xs) (λ i ys H'=>Ext H4 H'/\Ñ G ys ((rs.take i).map R0.told)) (by rw [Ö];omega) ⟨Ext.new MB,.nil⟩ (λ i ys H' pv=>ó.of ((Td.trans pv.1) _ _ ha)) ?_ ?_
 ·rintro i v ys H' ev ly ĩ ⟨x',ry⟩ os ŋ R k;obtain⟨o0,rfl⟩:∃ o0,os=[o0]:=by
   match os,ŋ with
   | [o0],_=>exact⟨o0,rfl⟩
  have hi:i<rs.length:=by have:=(Ë.mp ev).1;omega
  have er:=Â hi;have WO:=al.2 i _ v er ev;have xg:=Td.trans x';have ru:=WO.ext xg;refine⟨⟨[some v],rfl,rfl⟩,cF (t:=.one rs[i]) ao ru (λ R r=>⟨_,rfl,r⟩) ⟨v,.one rs[i],G,rfl,xg,WO,λ b rb=>k b H' ĩ ⟨bz _ x' MB,?_⟩⟩⟩;rw [aQ er,Ï];exact ry.append (.cons rb .nil)
 rintro ys H5 ly LF ⟨x5,ry⟩;rw [<- lx,ä] at ry;refine⟨D2,ys,rfl,.inl ⟨ó.of LF,λ m hm=>⟨dA,λ k hk=>?_⟩⟩⟩;have x6:=Ext.new (o:=.tup ys) hm;have QV:af H5 m (.tup ys) m=some (.tup ys):=aR;generalize af H5 m (.tup ys)=H6 at x6 QV hk ⊢;have x7:=Ext.new (o:=.tup [.str "blocks",.ref m]) hk;have Xf:af H6 k (.tup [.str "blocks",.ref m]) k=some (.tup [.str "blocks",.ref m]):=aR;generalize af H6 k (.tup [.str "blocks",.ref m])=H7 at x7 Xf ⊢;have Tf:=(x5.trans x6).trans x7;have Ri:=Td.trans Tf;have Vp:=Tf _ _ Ro;have Xe:=Tf _ _ O0;have Ut:Ĉ H7 (.ref k) (Rl.blocks rs).told:=.tup Xf (.cons (.str _) (.cons (.tup (x7 _ _ QV) (Ñ.mono Ri ry)) .nil));have X4:=al.ext Ri;refine⟨_,rfl,_,rfl,_,rfl,x,C 3,dx,_,rfl,rfl,Vp,rfl,⟨x,0,dx,_,l,xs,rs,rfl,Vp,rfl,Xe,X4,ŏ _,λ b H8 x8 rb=>?_⟩⟩;rw [BW] at rb;refine⟨_,rfl,_,rfl,a,xs,rs,rfl,(Ri.trans x8) _ _ ha,X4.ext x8,l6,ok,λ pr H9 x9 rp=>?_⟩;have Ry:=x8.trans x9;have Tx:=Ry _ _ Vp;have hl9:=Ry _ _ Xe;refine⟨x,_,_,_,_,3,dx,[("rules",.ref l)],rfl,ad,Tx,(by show 1<=5;decide),q WM _ ((W2.trans ((Tf.trans Ry).kept x)).trans (bh _)) ?_⟩
 have kk:Kept H9 (af H9 x (.ins (C 3) dx (fY (.int (rs.map R0.Õ).sum) (.ref b) (.ref k) (.ref pr) [("rules",.ref l)]))) x:=bh _;have Tc:=(Ri.trans Ry).kp nG kk;refine hV aR ((rb.mono x9).kept Tx kk) ((Ut.mono Ry).kept Tx kk) (rp.kept Tx kk) (λ n hn=>?_) ⟨l,xs,?_,?_,al.ext Tc⟩
 ·have e:n = "rules" := by simpa using hn
  rw [e]
  decide +kernel
 ·rw [dk ao];rfl
 ·exact kk _ _ hl9 xl
end
section
variable {P:Program}{w:World}{K:Frag}{mg:bv}{base:Heap}{C:Nat->Addr}{CR:Addr}
abbrev DJ:Stmt:=cr 35
abbrev HQ:List Str:=["parts","many","cut"]
theorem RL:ae HQ ["parts","many"] (aa DJ):=aO
def An:Sp:=λ vs H Q _=>∃(v:V)(m:Int)(ps:List (List Int)),vs=[v,.int m]/\Ĉ H v (fA ps)/\Sm ps/\∀ l H',Ext H H'->Ĉ H' (.ref l) (fA (gi m ps))->Q (.ref l) H'
abbrev yf:Scope:=eZ [("part",.local),("tuple",.globalImplicit),("many",.free)]
abbrev EH:Scope:=eZ [("at",.local),("many",.free)]
abbrev Gx:Scope:=eZ [("part",.local),("len",.globalImplicit)]
theorem jM {n z:Str}{a c:Addr}(h:List.lookup z [(n,a)]=some c):z=n/\c=a:=by
 rw [è] at h;cases e:z==n with
 | true =>
  rw [e] at h;exact⟨ā.mp e,(Û h).symm⟩
 | false =>
  rw [e] at h;cases h
variable {f:Addr}{cdv:Value}{A:Around}{outer:List Env}{s:Shared}{H:Hp}{E:XK}
theorem xJ:bL (br ay P w K mg base HQ "parts_below" (aa DJ) f cdv A outer s H E).Ŝ yf [("many",s.heap.objs.size+1)] ["part"] ["many"] [1]:=by
 refine⟨rfl,rfl,ao,ao,ao,(λ z c h=>?_),(λ z h=>?_),ao,(λ k z h=>?_),rfl⟩
 ·obtain⟨rfl,rfl⟩:=jM h;rfl
 ·have h':List.lookup z [((".0" : Str),NameKind.local),(("part" : Str),NameKind.local),(("tuple" : Str),NameKind.globalImplicit),(("many" : Str),NameKind.cell)]=some .cell\/List.lookup z [((".0" : Str),NameKind.local),(("part" : Str),NameKind.local),(("tuple" : Str),NameKind.globalImplicit),(("many" : Str),NameKind.cell)]=some .free:=h;have e:z = "many" := by
   simp only [List.lookup_cons,List.lookup_nil] at h'
   repeat' (split at h')
   all_goals first | (simp at h';done) | (rename_i e;exact ā.mp e)
  subst e;exact⟨_,rfl⟩
 ·cases k with
  | zero =>
   cases h;exact⟨1,rfl,rfl,.inr (.inl rfl),(by show(aa DJ).names.lookup ("many" : Str)≠some NameKind.local;decide +kernel),.inl rfl⟩
  | succ k=>cases h
theorem Fz:((["part"]:List Str)++(["many"]:List Str)).Nodup:=ao
theorem FW:((["at"]:List Str)++(["many"]:List Str)).Nodup:=ao
theorem vW {s1:Shared}{H1:Hp}{C1:Addr}{fp:List Addr}:bL (bJ (br ay P w K mg base HQ "parts_below" (aa DJ) f cdv A outer s H E).Ŝ yf [("many",s.heap.objs.size+1)] ((["part"]:List Str)++(["many"]:List Str)) s1 H1 C1 fp) EH [("many",s.heap.objs.size+1)] ["at"] ["many"] [1]:=by
 refine⟨rfl,rfl,ao,ao,ao,(λ z c h=>?_),(λ z h=>?_),ao,(λ k z h=>?_),rfl⟩
 ·obtain⟨rfl,rfl⟩:=jM h;rfl
 ·have h':List.lookup z [((".0" : Str),NameKind.local),(("at" : Str),NameKind.local),(("many" : Str),NameKind.cell)]=some .cell\/List.lookup z [((".0" : Str),NameKind.local),(("at" : Str),NameKind.local),(("many" : Str),NameKind.cell)]=some .free:=h;have e:z = "many" := by
   simp only [List.lookup_cons,List.lookup_nil] at h'
   repeat' (split at h')
   all_goals first | (simp at h';done) | (rename_i e;exact ā.mp e)
  subst e;exact⟨_,rfl⟩
 ·cases k with
  | zero =>
   cases h;exact⟨1,rfl,rfl,.inr (.inl rfl),(by intro z;cases z),.inl rfl⟩
  | succ k=>cases h
theorem wV {X:Cx}:bL X Gx [] ["part"] [] []:=by
 refine⟨rfl,rfl,ao,ao,ao,(λ z c h=>nomatch h),(λ z h=>?_),ao,(λ k z h=>by simp at h),rfl⟩
 exfalso;have h':List.lookup z [((".0" : Str),NameKind.local),(("part" : Str),NameKind.local),(("len" : Str),NameKind.globalImplicit)]=some .cell\/List.lookup z [((".0" : Str),NameKind.local),(("part" : Str),NameKind.local),(("len" : Str),NameKind.globalImplicit)]=some .free:=h;simp only [List.lookup_cons,List.lookup_nil] at h'
 repeat' (split at h')
 all_goals simp at h'
def Aw (K:Frag):List V->Hp->VK->Prop:=λ xs H Q=>∃ p ys,xs=[.ref p]/\((ó K H p ys/\∀ l,H l=none->Q (.ref l) (af H l (.tup ys)))\/(ĥ K H p ys/\Q (.ref p) H))
def yi:TT:=tB (aS (eO λ i j=>.bl (decide (i<j))) (ar 0) (ar 1))
def IF (K:Frag):TE:=iQ (Aw K) (ag (jI (Gb K (ar 0)) 1 [1] (bF 0) yi (ar 0)) aG)
def Fo (K:Frag):List V->Hp->VK->Prop:=λ xs H Q=>∃ p ys,xs=[.ref p]/\(ó K H p ys\/ĥ K H p ys)/\Q (.int ys.length) H
def Jx (K:Frag):TT:=tB (aS (eO λ i j=>.bl (decide (i>j))) (iQ (Fo K) (ag (ar 0) aG)) (tC (.int 0)))
def Kk (m:Int):V->Bool
 | .int i=>decide (i<m)
 | _=>false
def zc (H:Hp):V->Bool
 | .ref a=>match H a with
  | some (.tup ys)=>decide (0<ys.length)
  | _=>false
 | _=>false
theorem EG {fd:FuncData}(F:ğ K "parts_below" "parts_below" DJ f fd)(mt:mg "tuple" = none)(ml:mg "len" = none):ß P w K mg base ay 1 f fd ["parts","many"] An:=by
 refine cw F RL λ cdv A outer s H vs Q E hr h=>?_;obtain⟨v,m,ps,rfl,rv,sm,q⟩:=h;have nd:=RL.nd;refine⟨_,cL (md (iy:=2) (te:=IF K) (g:=bF 0) rfl xJ (oQ (pv 0)) (λ s H C fp=>by exact dG (i:=0) Fz rfl (.inl rfl))
   (λ s H C fp=>by exact bA bR rfl mt í (ac (gY (te:=ar 0) (tt:=yi) (g:=bF 0) rfl vW (oQ (pv 0)) (λ s H C fp=>by exact dG (i:=0) FW rfl (.inl rfl)) (λ s H C fp=>by exact aA uQ (pv 0) (pv 1) (az _)) (λ s H C fp=>by exact pv 0)) aq)) nd rfl (Or.inl rfl) rfl)
  (bj (cM (bA bR rfl mt í (ac (gY (te:=ar 0) (tt:=Jx K) (g:=bF 0) rfl wV (bC (pv 2)) (λ s H C fp=>by exact dG (i:=0) Kf rfl (.inl rfl)) (λ s H C fp=>by exact aA iS (ah aF rfl ml ñ (ac (pv 0) aq)) aB (az _)) (λ s H C fp=>by exact pv 0)) aq)))),?_⟩
 obtain⟨p,xs,rfl,hp,rs⟩:=gv rv;have lx:=rs.length;rw [Ä] at lx;have LI:=sm.1;refine⟨_,rfl,p,rfl,⟨_,ĥ.of hp⟩,λ D hD=>?_⟩;refine pW (a:=p) (xs:=xs) (λ i ys H'=>Ext H H'/\Ñ (wo H' D) ys (((ps.take i).map (·.filter λ x=>decide (x<m))).map lO)) (by rw [Ö];omega) ⟨Ext.new hD,.nil⟩ (λ i ys H' pv=>ĥ.of (pv.1 _ _ hp)) ?_ ?_
 ·rintro i x ys H' ex ly ĩ ⟨x',ry⟩ os ŋ R k;obtain⟨o0,rfl⟩:∃ o0,os=[o0]:=by
   match os,ŋ with
   | [o0],_=>exact⟨o0,rfl⟩
  have hi:i<ps.length:=by have:=(Ë.mp ex).1;omega
  have ep:=Â hi;obtain⟨c,rfl,hc⟩:=jw rs ex ep;have M6:=x' _ _ hc;have pl:=sm.2 _ (đ hi);refine⟨⟨[some (.ref c)],rfl,rfl⟩,_,rfl,c,rfl,⟨_,ĥ.of M6⟩,λ D2 MB=>?_⟩;refine Ke (xs:=ps[i].map V.int) (J:=DN K c) (Kk m) (by rw [Ä,Ö];omega) MB (λ j H1 x1 lt=>⟨_,_,ĥ.of (x1 _ _ M6),Â lt⟩) (λ H1 x1=>⟨_,ĥ.of (x1 _ _ M6),Ç _⟩)
   (λ j H1 y Wf x1 ⟨e,hy⟩=>⟨e,hy _ (ĥ.of (x1 _ _ M6))⟩) (λ j y H1 hy x1 R r=>?_) (λ H4 x4 h4=>?_)
  ·rw [Ò] at hy;obtain⟨n,_,rfl⟩:=á.mp hy;exact⟨_,rfl,_,rfl,_,_,rfl,rfl,_,rfl,r H1 (Ext.refl _)⟩
  rw [eJ (λ n=>decide (n<m)) (Kk m) (λ _=>rfl)] at h4;refine⟨D2,_,rfl,.inl ⟨ó.of h4,λ t ht=>?_⟩⟩;have x5:=Ext.new (o:=.tup ((ps[i].filter λ n=>decide (n<m)).map V.int)) ht;have Ua:=x4.trans x5;have tD:t≠D:=λ e=>by rw [e,x4 _ _ ĩ] at ht;cases ht
  refine k _ _ (Ua _ _ ĩ) ⟨bz _ (x'.trans Ua) hD,?_⟩;rw [aQ ep,Ï,Ï];exact Ñ.mono yr ((Ñ.mono (aL Ua D) ry).append (.cons (.tup (bc tD aR) (fc _ _)) .nil))
 rintro ys H2 ly ĩ ⟨x2,ry⟩;rw [lx,ä] at ry;have Uo:=Ñ.mono (ak H2 D) ry;refine⟨_,rfl,D,rfl,⟨_,ó.of ĩ⟩,λ D3 hD3=>?_⟩;have pp:∀(i:Nat) y qq,ys[i]?=some y->(ps.map λ p:List Int=>p.filter λ x=>decide (x<m))[i]?=some qq->∃ a,y=.ref a/\H2 a=some (.tup (qq.map V.int)):=λ i y qq hy hq=>jw Uo hy hq;have ly2:=Uo.length;rw [Ä,Ä] at ly2;refine Ke (xs:=ys) (J:=jZ K D) (zc H2) (by rw [Ö];omega) hD3 (λ j H1 x1 lt=>⟨_,_,ó.of (x1 _ _ ĩ),Â lt⟩) (λ H1 x1=>⟨_,ó.of (x1 _ _ ĩ),Ç _⟩)
  (λ j H1 y Wf x1 ⟨e,hy⟩=>⟨e,hy _ (ó.of (x1 _ _ ĩ))⟩) (λ j y H1 hy x1 R r=>?_) (λ H4 x4 h4=>?_)
 ·have hj:j<(ps.map λ p:List Int=>p.filter λ x=>decide (x<m)).length:=by have:=(Ë.mp hy).1;rw [Ä];omega
  obtain⟨a,rfl,ha⟩:=pp j y _ hy (Â hj);have hv:zc H2 (.ref a)=decide (0<((ps.map λ p:List Int=>p.filter λ x=>decide (x<m))[j].map V.int).length):=by
   show(match H2 a with | some (.tup ys)=>decide (0<ys.length) | _=>false)=_
   rw [ha]
  refine⟨_,rfl,a,_,rfl,.inr (ĥ.of (x1 _ _ ha)),_,_,rfl,rfl,_,rfl,?_⟩;have:=r H1 (Ext.refl _);rw [hv] at this;have e2:decide ((((ps.map λ p:List Int=>p.filter λ x=>decide (x<m))[j].map V.int).length:Int)>0)=decide (0<((ps.map λ p:List Int=>p.filter λ x=>decide (x<m))[j].map V.int).length):=Na.mpr am;rw [e2];exact this
 refine⟨D3,_,rfl,.inl ⟨ó.of h4,λ l hl=>?_⟩⟩;have x5:=Ext.new (o:=.tup (ys.filter (zc H2))) hl;refine q l _ (x2.trans (x4.trans x5)) (.tup aR ?_);unfold gi;refine Ñ.filter (f:=lO) (Ñ.mono (x4.trans x5) Uo) λ i y qq hy hq=>?_;obtain⟨a,rfl,ha⟩:=pp i y qq hy hq;show(match H2 a with | some (.tup ys)=>decide (0<ys.length) | _=>false)=_
 rw [ha];show decide (0<(qq.map V.int).length)=_;rw [Ä]
abbrev AF:Stmt:=aE (cr 44) 0
abbrev KO:List Str:=["self","rule","many"]
theorem RR:ae KO ["self","rule","many"] (aa AF):=aO
def nU (C:Nat->Addr)(CN:Addr):Sp:=λ vs H Q E=>∃(x:Addr)(v u:V)(t:Rl)(d:PyData)(dx:Addr)(G:Hp),vs=[.ref x,v,u]/\H x=some (.ins (C 4) dx [])/\Ext G H/\G x=none/\Ru C G t v/\Sm t.parts/\Ĉ G u d/\(jf 0 t.Õ d=false->bM CN "found" u H E)/\∀ m,d=.int m->0<=m->m<=t.Õ->∀ H',Kept H H' x->Ru C H' (.first t m) (.ref x)->Q .ù H'
variable {S g a1 a2 CN:Addr}{gd d1 d2:FuncData}
theorem qI {G:Hp}{t:Rl}{v:V}(ru:Ru C G t v):(t.kind=4->∃ a dx fs d,v=.ref a/\G a=some (.ins (C 4) dx fs)/\fs.lookup ("dealer" : Str)=some d/\Po C G t.inner d)/\(t.kind≠4->Po C G t.inner v):=by
 cases t with
 | one r=>exact⟨λ e=>by have:=r.ĕ;have e':r.kind=4:=e;omega,λ _=>ru⟩
 | blocks rs=>exact⟨λ e=>(by cases e),λ _=>ru⟩
 | first t m =>
  refine⟨λ _=>?_,λ e=>absurd rfl e⟩;obtain⟨a,dx,fs,rfl,ha,_,_,_,_,_,d,hd,rn⟩:=ru.ex;exact⟨a,dx,fs,d,rfl,ha,hd,rn⟩
theorem BU {fd:FuncData}(N:pY K)(Z:KR K C CR)(F:ğ K "__init__" "First.__init__" AF f fd)(M:Ms P w K mg base C)(Cf:eL K S "__init__" g)(G':ß P w K mg base ay 1 g gd ["self","size","first_state","mark","parts"] (jE C))(bG:Binds K gd ["self","size","first_state","mark","parts"] [])(mS:mg "Rule" = some (.ref S))
  (A1:Df P w K mg base (cp P w) 3 "need_number" ["thing","low","high"] (vd CN) a1 d1)(A2:Df P w K mg base ay 1 "parts_below" ["parts","many"] An a2 d2)(m4:mg "First" = some (.ref (C 4)))(mi:mg "isinstance" = none):ß P w K mg base (cp P w) 4 f fd ["self","rule","many"] (nU C CN):=by
 refine fK F RR λ cdv A outer s H vs Q E hr h=>?_;obtain⟨x,v,u,t,d,dx,G,rfl,hx,xG,nG,ru,sm,rd,qe,q⟩:=h;have nd:=RR.nd;have Ħ:ö 1 _:=hr.mono ad;refine⟨_,cL (ax (cq A1 hr cH (ac (pv 2) (ac aB (ac (bN (pv 1) M.Õ Ħ ai) aq)))))
  (cL (dq (pv 0) (ou (aX (ah (eB N) rfl mi Ê (ac (pv 1) (ac (aI (v:=.ref (C 4)) rfl m4 rfl) aq)))) (vj (pv 1) rfl) (pv 1)) rfl)
  (bj (ax (bS Cf G' Ħ rfl mS bG .nil ai (ac (pv 0) (ac (pv 2) (ac (bN (pv 1) M.begin Ħ ai) (ac (aU (ac av (ac (bN (pv 1) M.told Ħ ai) (ac (pv 2) aq)))) (ac (cq A2 Ħ ai (ac (vj (pv 1) rfl) (ac (pv 2) aq))) aq))))))))),?_⟩
 have Up:=ru.ext xG;refine⟨_,rfl,cF ao Up (λ R r=>⟨_,rfl,r⟩) ⟨v,t,rfl,Up,u,d,0,t.Õ,rfl,rd.mono xG,λ h1=>?_,λ h1=>qe h1⟩⟩;obtain⟨m,rfl,m0,m1⟩:=fB h1;cases rd;have fin:∀ dv,Po C G t.inner dv->EL K (ar 0) (tC dv) "dealer" ⟨λ Ē H'=>iM (gE (jE C) [] E0 (ag (ar 0) (ag (ar 2) (ag (dy (rO C) "begin" (λ _=>jh C) E0 (ar 1) aG) (ag (eF (ag (tC (.str "first")) (ag (dy (rO C) "told" (λ _=>jR C) E0 (ar 1) aG) (ag (ar 2) aG)))) (ag (gE An [] E0 (ag (EI K (ar 1) "parts") (ag (ar 2) aG))) aG)))))) ⟨λ _ H'=>Q .ù H',Q,λ _ _=>False,λ _ _=>False⟩ Ē H',Q,λ _ _=>False,λ _ _=>False⟩ [some (.ref x),some v,some (.int m)] H:=λ dv rn=>by
  refine⟨_,rfl,x,C 4,dx,[],rfl,hx,Z.cls 4 ad,Z.no 4 ad _ ao,ad,?_⟩;have k1:Kept H (af H x (.ins (C 4) dx (bK "dealer" dv []))) x:=bh _;have E_:af H x (.ins (C 4) dx (bK "dealer" dv [])) x=some (.ins (C 4) dx [("dealer",dv)]):=aR;generalize af H x (.ins (C 4) dx (bK "dealer" dv []))=H1 at k1 E_ ⊢;have Nv:=xG.kp nG k1;have WN:=ru.ext Nv;obtain⟨a,da,fa,rfl,ha,_,_,_,⟨pp,hpp,rpp⟩,_⟩:=ru.ob.ex;refine⟨_,rfl,_,rfl,cF ao WN (λ R r=>⟨_,rfl,r⟩) ⟨_,t,G,rfl,Nv,ru,λ b rb=>?_⟩⟩;refine cF ao WN (λ R r=>⟨_,rfl,r⟩) ⟨_,t,G,rfl,Nv,ru,λ c rc=>⟨_,rfl,dA,λ k hk=>?_⟩⟩;have x2:=Ext.new (o:=.tup [.str "first",c,.int m]) hk;have Xg:af H1 k (.tup [.str "first",c,.int m]) k=some (.tup [.str "first",c,.int m]):=aR;generalize af H1 k (.tup [.str "first",c,.int m])=H2 at x2 Xg ⊢;have Rx:=Nv.trans x2;refine⟨_,rfl,a,C t.kind,da,fa,_,rfl,Rx _ _ ha,Z.cls _ t.ĕ,Z.no _ t.ĕ _ ao,hpp,_,rfl,pp,m,t.parts,rfl,rpp.mono Rx,sm,λ l H3 x3 rl=>?_⟩;have Nw:=x2.trans x3;have Te:=Nv.trans Nw;have NT:=Nw _ _ E_;have hk3:=x3 _ _ Xg;refine⟨x,_,_,_,_,4,dx,[("dealer",dv)],rfl,ad,NT,(by show 1<=5;decide),q m rfl m0 m1 _ ((k1.trans (Nw.kept x)).trans (bh _)) ?_⟩
  have kk:Kept H3 (af H3 x (.ins (C 4) dx (fY (.int m) b (.ref k) (.ref l) [("dealer",dv)]))) x:=bh _;have Tc:=Te.kp nG kk;refine hV aR (rb.mono Tc) ((Ĉ.tup hk3 (.cons (.str _) (.cons (rc.mono Te) (.cons (.int _) .nil)))).kept NT kk) (rl.kept NT kk) (λ n hn=>?_) ⟨dv,?_,rn.ext Tc⟩
  ·have e:n = "dealer" := by simpa using hn
   rw [e]
   decide +kernel
  ·rw [dk ao];rfl
 have dl:=qI ru;refine⟨_,rfl,_,_,_,_,rfl,Up.kd Z,Z.kk t.kind 4 t.ĕ ad,_,rfl,?_⟩;by_cases e4:t.kind=4
 ·rw [show(t.kind==4)=true from by simpa using e4]
  obtain⟨a,da,fa,dv,rfl,ha,hd,rn⟩:=dl.1 e4;exact cQ ⟨_,rfl,a,C 4,da,fa,_,rfl,xG _ _ ha,Z.cls 4 ad,Z.no 4 ad _ ao,hd,fin dv rn⟩
 ·rw [show(t.kind==4)=false from by simpa using e4]
  exact cE ⟨_,rfl,fin v (dl.2 e4)⟩
end
def xY (H H':Hp):Prop:=∀ b o,H b=some o->(∀ xs,o ≠ .lst xs)->H' b=some o
mutual
def cz:PyData->Bool
 | .list _=>false
 | .dict _=>false
 | .tuple xs=>Ķ xs
 | _=>true
def Ķ:List PyData->Bool
 | []=>true
 | x::xs=>cz x && Ķ xs
end
theorem il:∀{ds:List PyData},(∀ d∈ds,cz d=true)->Ķ ds=true
 | [],_=>by simp [Ķ]
 | x::xs,h=>by
  simp only [Ķ,h x (List.mem_cons_self ..),il λ d hd=>h d (List.mem_cons_of_mem _ hd),Bool.and_self]
mutual
theorem Ĉ.ġ {G G':Hp}(s:xY G G'):∀{v:V}{d:PyData},cz d=true->Ĉ G v d->Ĉ G' v d
 | _,_,_,.ù=>.ù
 | _,_,_,.bl b=>.bl b
 | _,_,_,.int i=>.int i
 | _,_,_,.str x=>.str x
 | _,_,h,.lst e r=>by simp [cz] at h
 | _,_,h,.tup e r=>.tup (s _ _ e (λ _ z=>by cases z)) (Ñ.ġ s (by simpa only [cz] using h) r)
 | _,_,h,.Ů e=>by simp [cz] at h
 | _,_,h,.F_ e r=>by simp [cz] at h
theorem Ñ.ġ {G G':Hp}(s:xY G G'):∀{vs:List V}{ds:List PyData},Ķ ds=true->Ñ G vs ds->Ñ G' vs ds
 | _,_,_,.nil=>.nil
 | _,_,h,.cons r t=>by
  simp only [Ķ,Bool.and_eq_true] at h;exact .cons (Ĉ.ġ s h.1 r) (Ñ.ġ s h.2 t)
end
theorem R0.nl (r:R0):cz r.told=true:=by cases r <;> simp [R0.told,cz,Ķ]
theorem R0.QL (r:R0):cz r.begin=true:=by cases r <;> simp [R0.begin,cz]
theorem Rl.nl:∀ t:Rl,cz t.told=true
 | .one r=>r.nl
 | .blocks rs=>by
  have:Ķ (rs.map R0.told)=true:=il λ d hd=>by
   obtain⟨r,_,rfl⟩:=ć.mp hd;exact r.nl
  simp only [Rl.told,cz,Ķ,this,Bool.and_self]
 | .first t m=>by simp only [Rl.told,cz,Ķ,t.nl,Bool.and_self]
theorem Rl.QL:∀ t:Rl,cz t.begin=true
 | .one r=>r.QL
 | .blocks []=>by simp [Rl.begin,cz,Ķ]
 | .blocks (r::_)=>by simp only [Rl.begin,cz,Ķ,r.QL,Bool.and_self]
 | .first t _=>t.QL
theorem qo:∀(ns:List Int),Ķ (ns.map PyData.int)=true
 | []=>by simp [Ķ]
 | n::ns=>by simp only [List.map_cons,Ķ,cz,qo ns,Bool.and_self]
theorem jq (ps:List (List Int)):cz (fA ps)=true:=by
 show Ķ (ps.map lO)=true;refine il λ d hd=>?_;obtain⟨p,_,rfl⟩:=ć.mp hd;exact qo p
theorem Ob.ġ {C:Addr}{H H':Hp}{v:V}{fk:Int}{bg tl pt:PyData}{X Y:List (Str × V)->Prop}(h:Ob C H v fk bg tl pt X)(s:xY H H')(n1:cz bg=true)(n2:cz tl=true)(n3:cz pt=true)(k:∀ fs,X fs->Y fs):Ob C H' v fk bg tl pt Y:=by
 obtain⟨a,dx,fs,rfl,ha,h1,⟨b,h2,r2⟩,⟨m,h3,r3⟩,⟨p,h4,r4⟩,h5,h6⟩:=h.ex;exact⟨a,dx,fs,rfl,s _ _ ha (λ _ z=>by cases z),h1,⟨b,h2,r2.ġ s n1⟩,⟨m,h3,r3.ġ s n2⟩,⟨p,h4,r4.ġ s n3⟩,h5,k fs h6⟩
section
variable {C:Nat->Addr}{H H':Hp}
theorem lM {a b:Int}:cz (.tuple [.int a,.int b])=true:=by simp [cz,Ķ]
theorem G_.ġ {r:R0}{v:V}(h:G_ C H r v)(s:xY H H'):G_ C H' r v:=Ob.ġ h s r.QL r.nl (jq _) λ fs e=>by
 cases r with
 | split _ _=>trivial
 | pairs _ a b =>
  obtain⟨c,e1,e2⟩:=e;exact⟨c,e1,e2.ġ s lM⟩
 | ř _ a b f =>
  obtain⟨⟨c,e1,e2⟩,e3⟩:=e;exact⟨⟨c,e1,e2.ġ s lM⟩,e3⟩
theorem ρ.ġ {rs:List R0}{ws:List V}(h:ρ C H rs ws)(s:xY H H'):ρ C H' rs ws:=⟨h.1,λ i r w a b=>G_.ġ (h.2 i r w a b) s⟩
theorem NZ.ġ {rs:List R0}{v:V}(h:NZ C H rs v)(s:xY H H'):NZ C H' rs v:=Ob.ġ h s (Rl.QL _) (Rl.nl _) (jq _) λ fs e=>by
 obtain⟨l,ws,e1,e2,e3⟩:=e;exact⟨l,ws,e1,s _ _ e2 (λ _ z=>by cases z),e3.ġ s⟩
theorem Po.ġ {t:Rl}{v:V}(h:Po C H t v)(s:xY H H'):Po C H' t v:=by
 cases t with
 | one r=>exact G_.ġ h s
 | blocks rs=>exact NZ.ġ h s
 | first _ _=>exact h.elim
theorem Ru.ġ {t:Rl}{v:V}(h:Ru C H t v)(s:xY H H'):Ru C H' t v:=by
 cases t with
 | one r=>exact G_.ġ h s
 | blocks rs=>exact NZ.ġ h s
 | first t m=>exact Ob.ġ h s t.QL (Rl.nl _) (jq _) λ fs ⟨d,e1,e2⟩=>⟨d,e1,e2.ġ s⟩
theorem sE {rs:List R0}{ws:List V}{r:R0}{v:V}(h:ρ C H rs ws)(k:G_ C H r v):ρ C H (rs ++ [r]) (ws ++ [v]):=by
 refine⟨by rw [Ð,Ð,h.1];rfl,λ i r' w' hr hw=>?_⟩
 rcases Ĳ i rs.length with lt | ge
 ·rw [ð lt] at hr;rw [ð (by rw [<- h.1];exact lt)] at hw
  exact h.2 i r' w' hr hw
 ·rw [å ge] at hr;rw [å (by rw [<- h.1];exact ge)] at hw
  have i0:i=rs.length:=by
   rcases Ĳ (i-rs.length) 1 with z | z
   ·omega
   ·rw [t_ (by simpa using z)] at hr;cases hr
  subst i0;rw [g_] at hr;rw [h.1,g_] at hw;cases hr;cases hw;exact k
end
theorem bO {H:Hp}{x dx:Addr}{u v:HO}(hx:H x=none)(hd:H dx=none)(ne:dx≠x):Ext H (af (af H dx u) x v):=by
 have h2:af H dx u x=none:=by rw [au ne.symm];exact hx
 exact(Ext.new hd).trans (Ext.new h2)
end My
namespace My
open PySem PySem.W L2
structure DI (P:Program)(w:World)(K:Frag)(mg:bv)(base:Heap)(C:Nat->Addr)(CN CS CT CM:Addr)(f0 f1 f2 f3 f4:Addr)(e0 e1 e2 e3 e4:FuncData):Prop where
 k0:Mk K (C 0) f0
 k1:Mk K (C 1) f1
 k2:Mk K (C 2) f2
 k3:Mk K (C 3) f3
 k4:Mk K (C 4) f4
 g0:ß P w K mg base (cp P w) 4 f0 e0 ["self","folk","ones"] (kS C CN)
 g1:ß P w K mg base (cp P w) 6 f1 e1 ["self","pairs","coin"] (mP C CN CS)
 g2:ß P w K mg base (cp P w) 6 f2 e2 ["self","folk","coin","far"] (mZ C CN CS)
 g3:ß P w K mg base (cp P w) 4 f3 e3 ["self","rules"] (kT K C CT CM)
 g4:ß P w K mg base (cp P w) 4 f4 e4 ["self","rule","many"] (nU C CN)
 b0:Binds K e0 ["self","folk","ones"] []
 b1:Binds K e1 ["self","pairs","coin"] []
 b2:Binds K e2 ["self","folk","coin","far"] []
 b3:Binds K e3 ["self","rules"] []
 b4:Binds K e4 ["self","rule","many"] []
 m0:mg "Split" = some (.ref (C 0))
 m1:mg "Pairs" = some (.ref (C 1))
 m2:mg "Coins" = some (.ref (C 2))
 m3:mg "Blocks" = some (.ref (C 3))
 m4:mg "First" = some (.ref (C 4))
section
variable {K:Frag}{C:Nat->Addr}{CN CS CT CM:Addr}{H:Hp}{σ:St}{Q:VK}{E:XK}
theorem f9 {lo hi n:Int}(h1:lo<=n)(h2:n<=hi):jf lo hi (.int n)=true:=by
 show(decide (lo<=n)&&decide (n<=hi))=true;rw [Å h1,Å h2];rfl
theorem uJ {n k:Int}{t:TA}(ht:∀ R:List V->Hp->Prop,R [.int n,.int k] H->t σ H R)(ok:(R0.split n k).ok)(q:∀ x H',Ext H H'->Ru C H' (.one (.split n k)) (.ref x)->Q (.ref x) H'):c6 (C 0) (kS C CN) [] E0 t σ H Q :=
 ht _ λ x dx hx hd ne=>by
  have xe:=bO (u:=.own x) (v:=.ins (C 0) dx []) hx hd ne;obtain⟨o1,o2,o3,o4⟩:=id ok;refine⟨x,_,_,_,_,dx,rfl,aR,.int _,.int _,λ h=>(by rw [f9 o1 o2] at h;cases h),λ m e _ _ h=>(by cases e;rw [f9 o3 o4] at h;cases h),λ n' k' e1 e2 _ H' kp ru=>⟨rfl,?_⟩⟩
  cases e1;cases e2;exact q x H' (xe.kp hx kp) ru
end
def GD (H0:Hp)(σ:St)(te:TE)(d:PyData):Prop:=∀(H:Hp)(Q:VK),Ext H0 H->(∀ v H',Ext H H'->Ĉ H' v d->Q v H')->te σ H Q
def P2 (H0:Hp)(σ:St)(ta:TA)(ds:List PyData):Prop:=∀(H:Hp)(Q:List V->Hp->Prop),Ext H0 H->(∀ vs H',Ext H H'->Ñ H' vs ds->Q vs H')->ta σ H Q
section
variable {H0:Hp}{σ:St}{te:TE}{ta:TA}{d:PyData}{ds:List PyData}
theorem GD.int (i:Int):GD H0 σ (tC (.int i)) (.int i):=λ H Q _ q=>q _ H (Ext.refl _) (.int i)
theorem P2.nil:P2 H0 σ aG []:=λ H Q _ q=>q [] H (Ext.refl _) .nil
theorem P2.cons (h:GD H0 σ te d)(k:P2 H0 σ ta ds):P2 H0 σ (ag te ta) (d::ds):=λ H Q x q =>
 h H _ x λ v H1 x1 r=>k H1 _ (x.trans x1) λ vs H2 x2 rs=>q (v::vs) H2 (x1.trans x2) (.cons (r.mono x2) rs)
theorem GD.tup (k:P2 H0 σ ta ds)(hz:ds.length<=sizeLine):GD H0 σ (eF ta) (.tuple ds):=λ H Q x q =>
 k H _ x λ vs H1 x1 rs=>⟨by rw [rs.length];exact hz,λ p hp=>q _ _ (x1.trans (Ext.new hp)) (.tup aR (rs.mono (Ext.new hp)))⟩
theorem P2.use {Q:VK}(k:P2 H0 σ ta ds)(hz:ds.length<=sizeLine)(q:∀ l vs H',Ext H0 H'->H0 l=none->H' l=some (.lst vs)->Ñ H' vs ds->Q (.ref l) H'):aT ta σ H0 Q :=
 k H0 _ (Ext.refl _) λ vs H1 x1 rs=>⟨by rw [rs.length];exact hz,λ p hp=>q p vs _ (x1.trans (Ext.new hp)) (by
  cases e:H0 p with
  | none=>rfl
  | some o=>rw [x1 _ _ e] at hp;cases hp) aR (rs.mono (Ext.new hp))⟩
end
theorem Sc.Tg {K:Frag}{H H':Hp}{s p:Addr}{ns:List Int}(c:Sc K H s p ns)(x:Ext (wo H p) (wo H' p))(b:ħ H' p):Sc K H' s p ns:=by
 refine⟨?_,c.N_,c.ne,b⟩;rcases c.sq with(h | ⟨o,h⟩) | h
 ·exact .inl (.inl (ak _ _ _ _ (x _ _ (bc c.ne h))))
 ·exact .inl (.inr ⟨o,ak _ _ _ _ (x _ _ (bc c.ne h))⟩)
 ·exact .inr h
def Nn:List (Int × Int):=[(1,2),(1,2),(1,3),(2,3),(1,4),(5,7),(1,100),(99,100)]
def vh (c:Int × Int):PyData:=.tuple [.int c.1,.int c.2]
theorem qP:∀ c∈Nn,dO (vh c)=true:=ao
theorem G_.wo {C:Nat->Addr}{H:Hp}{p:Addr}{r:R0}{v:V}(h:G_ C H r v)(b:ħ H p):G_ C (wo H p) r v:=h.ġ λ a o e n=>by
 obtain⟨_,_,_,hp,_⟩:=b.ex;exact bc (λ z=>by subst z;rw [hp] at e;cases e;exact n _ rfl) e
section
variable {K:Frag}{C:Nat->Addr}{CN CS CT CM:Addr}{H:Hp}{R:VK}{E:XK}{x dx:Addr}
theorem qF {n k:Int}(hx:H x=none)(hd:H dx=none)(ne:dx≠x)(ok:(R0.split n k).ok)(q:∀ H',Ext H H'->Ru C H' (.one (.split n k)) (.ref x)->R .ù H'):kS C CN [.ref x,.int n,.int k] (af (af H dx (.own x)) x (.ins (C 0) dx [])) R E:=by
 have xe:=bO (u:=.own x) (v:=.ins (C 0) dx []) hx hd ne;obtain⟨o1,o2,o3,o4⟩:=id ok;refine⟨x,_,_,_,_,dx,rfl,aR,.int _,.int _,λ h=>(by rw [f9 o1 o2] at h;cases h),λ m e _ _ h=>(by cases e;rw [f9 o3 o4] at h;cases h),λ n' k' e1 e2 _ H' kp ru=>?_⟩
 cases e1;cases e2;exact q H' (xe.kp hx kp) ru
theorem qA {n a b:Int}{c:V}(hx:H x=none)(hd:H dx=none)(ne:dx≠x)(rc:Ĉ H c (.tuple [.int a,.int b]))(ok:(R0.pairs n a b).ok)(q:∀ H',Ext H H'->Ru C H' (.one (.pairs n a b)) (.ref x)->R .ù H'):mP C CN CS [.ref x,.int n,c] (af (af H dx (.own x)) x (.ins (C 1) dx [])) R E:=by
 have xe:=bO (u:=.own x) (v:=.ins (C 1) dx []) hx hd ne;obtain⟨o1,o2,o3⟩:=id ok;refine⟨x,_,_,_,_,dx,rfl,aR,.int _,rc.mono xe,λ h=>(by rw [f9 o1 o2] at h;cases h),λ _ h=>(by rw [o3] at h;cases h),λ n' a' b' e1 e2 _ H' kp ru=>?_⟩
 cases e1;cases e2;exact q H' (xe.kp hx kp) ru
theorem rT {n a b f:Int}{c:V}(hx:H x=none)(hd:H dx=none)(ne:dx≠x)(rc:Ĉ H c (.tuple [.int a,.int b]))(ok:(R0.ř n a b f).ok)(q:∀ H',Ext H H'->Ru C H' (.one (.ř n a b f)) (.ref x)->R .ù H'):mZ C CN CS [.ref x,.int n,c,.int f] (af (af H dx (.own x)) x (.ins (C 2) dx [])) R E:=by
 have xe:=bO (u:=.own x) (v:=.ins (C 2) dx []) hx hd ne;obtain⟨o1,o2,o3,o4,o5⟩:=id ok;refine⟨x,_,_,_,_,_,_,dx,rfl,aR,.int _,rc.mono xe,.int _,λ h=>(by rw [f9 o1 o2] at h;cases h),λ _ h=>(by rw [o3] at h;cases h),λ _ _ h=>(by rw [f9 o4 o5] at h;cases h),λ n' a' b' f' e1 e2 e3 _ H' kp ru=>?_⟩
 cases e1;cases e2;cases e3;exact q H' (xe.kp hx kp) ru
theorem pK {l:Addr}{ws:List V}{rs:List R0}(hx:H x=none)(hd:H dx=none)(ne:dx≠x)(hl:H l=some (.lst ws))(al:ρ C H rs ws)(ok:(Rl.blocks rs).ok)(q:∀ H',Ext H H'->Ru C H' (.blocks rs) (.ref x)->R .ù H'):kT K C CT CM [.ref x,.ref l] (af (af H dx (.own x)) x (.ins (C 3) dx [])) R E:=by
 have xe:=bO (u:=.own x) (v:=.ins (C 3) dx []) hx hd ne;obtain⟨o1,o2,o3,o4⟩:=id ok;exact⟨x,_,dx,H,rfl,aR,xe,hx,.inr (.inr ⟨l,ws,rs,rfl,hl,al,o1,o2,o3,λ h=>absurd o4 am,λ _ H' kp ru=>q H' (xe.kp hx kp) ru⟩)⟩
theorem qZ {v:V}{r:Rl}{m:Int}(hx:H x=none)(hd:H dx=none)(ne:dx≠x)(ru:Ru C H r v)(ok:(Rl.first r m).ok)(q:∀ H',Ext H H'->Ru C H' (.first r m) (.ref x)->R .ù H'):nU C CN [.ref x,v,.int m] (af (af H dx (.own x)) x (.ins (C 4) dx [])) R E:=by
 have xe:=bO (u:=.own x) (v:=.ins (C 4) dx []) hx hd ne;obtain⟨o1,o2,o3⟩:=id ok;refine⟨x,_,_,r,_,dx,H,rfl,aR,xe,hx,ru,Rl.sm o1,.int m,λ h=>(by rw [f9 o2 o3] at h;cases h),λ m' e _ _ H' kp ru=>?_⟩
 cases e;exact q H' (xe.kp hx kp) ru
end
section
variable {P:Program}{w:World}{K:Frag}{mg:bv}{base:Heap}{C:Nat->Addr}{CR CN CS CT CM f f0 f1 f2 f3 f4 a1:Addr}{fd e0 e1 e2 e3 e4 d1:FuncData}
abbrev re:Stmt:=cr 74
abbrev rA (i:Nat):Stmt:=(aH re).getD i (.Pass ⟨0,0,0,0⟩)
abbrev yM:List Str:=["_law_script","_law_pen","_law_most","_law_coin","_law_way","_law_pairs","_law_folk_here"]
theorem OE:ae yM ["_law_script","_law_pen","_law_most"] (aa re):=aO
def π (C:Nat->Addr)(H:Hp)(v:V)(r:R0):Prop:=∃ l u,v=.ref l/\H l=some (.lst [.str r.word,u,.int r.Õ])/\G_ C H r u
theorem π.ext {C:Nat->Addr}{H H':Hp}{v:V}{r:R0}(h:π C H v r)(x:Ext H H'):π C H' v r:=by
 obtain⟨l,u,e,hl,ru⟩:=h;exact⟨l,u,e,x _ _ hl,ru.ext x⟩
def qH (K:Frag)(C:Nat->Addr):Sp:=λ vs H Q _=>∃(s p:Addr)(ns:List Int)(m:Int),vs=[.ref s,.ref p,.int m]/\Sc K H s p ns/\1<=m/\m<=20/\∀ l r H',Sc K H' s p ns->Ext (wo H p) (wo H' p)->wo H p l=none->π C (wo H' p) (.ref l) r->r.ok->r.Õ <= m->Q (.ref l) H'
def og (a b:Int):TE:=eF (ag (tC (.int a)) (ag (tC (.int b)) aG))
def Cd:TA:=ag (og 1 2) (ag (og 1 2) (ag (og 1 3) (ag (og 2 3) (ag (og 1 4) (ag (og 5 7) (ag (og 1 100) (ag (og 99 100) aG)))))))
def yW (K:Frag):TS:=cV (aS (cX K) (aT Cd) (dI K (tC (.int 8)))) (bF 3)
def EM (K:Frag):TS:=cV (dI K (tC (.int 3))) (bF 4)
def lE (t:TE):TE:=aS (eO λ i j=>.int (i+j)) (tC (.int 1)) t
def FH (K:Frag)(C:Nat->Addr)(CN CS:Addr):TS:=dQ (tO (tB (aS rW (ar 4) (tC (.int 1)))) (tB (aS (eO λ i j=>.bl (decide (i>j))) (ar 2) (tC (.int 1)))))
 (aZ (cV (lE (dI K (aS (rI jC λ i j=>.int (i/j)) (ar 2) (tC (.int 2))))) (bF 5)) (cW (aT (ag (tC (.str "pairs")) (ag (c6 (C 1) (mP C CN CS) [] E0 (ag (ar 5) (ag (ar 3) aG))) (ag (aS (rI δ λ i j=>.int (i*j)) (tC (.int 2)) (ar 5)) aG)))))) bZ
def Bs (K:Frag):TS:=cV (lE (dI K (ar 2))) (bF 6)
def zE (K:Frag)(C:Nat->Addr)(CN CS:Addr):TS:=dQ (tB (aS rW (ar 4) (tC (.int 2)))) (cW (aT (ag (tC (.str "coins")) (ag (c6 (C 2) (mZ C CN CS) [] E0 (ag (ar 6) (ag (ar 3) (ag (lE (dI K (aS (cX K) (aT (ag (tC (.int 2)) (ag (tC (.int 20)) aG))) (dI K (tC (.int 2)))))) aG)))) (ag (ar 6) aG))))) bZ
def xD (K:Frag)(C:Nat->Addr)(CN:Addr):TS:=cW (aT (ag (tC (.str "split")) (ag (c6 (C 0) (kS C CN) [] E0 (ag (ar 6) (ag (dI K (aS (eO λ i j=>.int (i+j)) (ar 6) (tC (.int 1)))) aG))) (ag (ar 6) aG))))
def KA (K:Frag)(C:Nat->Addr)(CN CS:Addr):TS:=aZ (yW K) (aZ (EM K) (aZ (FH K C CN CS) (aZ (Bs K) (aZ (zE K C CN CS) (xD K C CN)))))
section
variable {cdv:Value}{A:Around}{outer:List Env}{s:Shared}{H:Hp}{E:XK}(L:DI P w K mg base C CN CS CT CM f0 f1 f2 f3 f4 e0 e1 e2 e3 e4)(A1:Df P w K mg base ay 1 "_law_take" ["_law_script","_law_pen","_law_many"] (cS K) a1 d1)(hr:qX 7 "_law_plain_rule" re A s f cdv)
include A1 hr
theorem IV:Bx (PS (br ay P w K mg base yM "_law_plain_rule" (aa re) f cdv A outer s H E).Ŝ (rA 0) (yW K)):=by
 have Ħ:ö 1 _:=hr.mono ad;exact aP (i:=3) OE.nd rfl (Or.inl rfl) (pU iB (dw (bX (fN (bX ⟨aB⟩ (bX ⟨aB⟩ bp))) (bX (fN (bX ⟨aB⟩ (bX ⟨aB⟩ bp))) (bX (fN (bX ⟨aB⟩ (bX ⟨aB⟩ bp))) (bX (fN (bX ⟨aB⟩ (bX ⟨aB⟩ bp)))
  (bX (fN (bX ⟨aB⟩ (bX ⟨aB⟩ bp))) (bX (fN (bX ⟨aB⟩ (bX ⟨aB⟩ bp))) (bX (fN (bX ⟨aB⟩ (bX ⟨aB⟩ bp))) (bX (fN (bX ⟨aB⟩ (bX ⟨aB⟩ bp))) bp)))))))))
  ⟨cq A1 Ħ ai (ac (pv 0) (ac (pv 1) (ac aB aq)))⟩)
theorem IC:Bx (PS (br ay P w K mg base yM "_law_plain_rule" (aa re) f cdv A outer s H E).Ŝ (rA 1) (EM K)):=by
 have Ħ:ö 1 _:=hr.mono ad;exact aP (i:=4) OE.nd rfl (Or.inl rfl) ⟨cq A1 Ħ ai (ac (pv 0) (ac (pv 1) (ac aB aq)))⟩
theorem Ib:Bx (PS (br ay P w K mg base yM "_law_plain_rule" (aa re) f cdv A outer s H E).Ŝ (rA 3) (Bs K)):=by
 have Ħ:ö 1 _:=hr.mono ad;exact aP (i:=6) OE.nd rfl (Or.inl rfl) ⟨aC cj aB (cq A1 Ħ ai (ac (pv 0) (ac (pv 1) (ac (pv 2) aq))))⟩
include L
theorem Io:Bx (PS (br ay P w K mg base yM "_law_plain_rule" (aa re) f cdv A outer s H E).Ŝ (rA 2) (FH K C CN CS)):=by
 have Ħ:ö 1 _:=hr.mono ad;exact jB ⟨PW.pt (kZ (aA cZ (pv 4) aB (az _)) (i7 (aA iS (pv 2) aB (az _))))⟩
  (cA (aP (i:=5) OE.nd rfl (Or.inl rfl) ⟨aC cj aB (cq A1 Ħ ai (ac (pv 0) (ac (pv 1) (ac (aC gr (pv 2) aB) aq))))⟩)
  (be (gP (dw (bX ⟨av⟩ (bX ⟨dC L.k1 L.g1 hr rfl L.m1 L.b1 .nil fQ (ac (pv 5) (ac (pv 3) aq))⟩ (bX ⟨aC f7 aB (pv 5)⟩ bp))))))) fE
theorem HL:Bx (PS (br ay P w K mg base yM "_law_plain_rule" (aa re) f cdv A outer s H E).Ŝ (rA 4) (zE K C CN CS)):=by
 have Ħ:ö 1 _:=hr.mono ad;exact jB ⟨aA cZ (pv 4) aB (az _)⟩ (be (gP (dw (bX ⟨av⟩ (bX ⟨dC L.k2 L.g2 hr rfl L.m2 L.b2 .nil fQ (ac (pv 6) (ac (pv 3) (ac (aC cj aB (cq A1 Ħ ai (ac (pv 0) (ac (pv 1) (ac (ft iB (aY (ac aB (ac aB aq))) (cq A1 Ħ ai (ac (pv 0) (ac (pv 1) (ac aB aq))))) aq))))) aq)))⟩ (bX ⟨pv 6⟩ bp)))))) fE
theorem HS:Bx (PS (br ay P w K mg base yM "_law_plain_rule" (aa re) f cdv A outer s H E).Ŝ (rA 5) (xD K C CN)):=by
 have Ħ:ö 1 _:=hr.mono ad;have M4:ö 5 _:=hr.mono ad;exact gP (dw (bX ⟨av⟩ (bX ⟨dC L.k0 L.g0 M4 rfl L.m0 L.b0 .nil fQ (ac (pv 6) (ac (cq A1 Ħ ai (ac (pv 0) (ac (pv 1) (ac (aC cj (pv 6) aB) aq)))) aq))⟩ (bX ⟨pv 6⟩ bp))))
theorem zC:Bx (Ų (br ay P w K mg base yM "_law_plain_rule" (aa re) f cdv A outer s H E).Ŝ (aH re) (KA K C CN CS)) :=
 cA (IV A1 hr) (cA (IC A1 hr) (cA (Io L A1 hr) (cA (Ib A1 hr) (cA (HL L A1 hr) (be (HS L A1 hr))))))
end
theorem oW {H H1:Hp}{s p:Addr}{ns:List Int}{m:Int}{Q:VK}{r:R0}{x:Addr}(ž:Sc K H1 s p ns)(xw:Ext (wo H p) (wo H1 p))(ru:G_ C H1 r (.ref x))(ok:r.ok)(le:r.Õ <= m)
  (q:∀ l r H',Sc K H' s p ns->Ext (wo H p) (wo H' p)->wo H p l=none->π C (wo H' p) (.ref l) r->r.ok->r.Õ <= m->Q (.ref l) H')(l:Addr)(hl:H1 l=none):Q (.ref l) (af H1 l (.lst [.str r.word,.ref x,.int r.Õ])):=by
 have x2:=Ext.new (o:=.lst [.str r.word,.ref x,.int r.Õ]) hl;have g2:af H1 l (.lst [.str r.word,.ref x,.int r.Õ]) l=some (.lst [.str r.word,.ref x,.int r.Õ]):=aR;have Χ:=ž.ext x2;refine q l r _ Χ (xw.trans (aL x2 p)) ?_ ⟨l,_,rfl,bc (ž.bx.ne hl) g2,(ru.wo ž.bx).ext (aL x2 p)⟩ ok le;cases e:wo H p l with
 | none=>rfl
 | some o=>have:=ak _ _ _ _ (xw _ _ e);rw [hl] at this;cases this
theorem Ct (H:Hp)(σ:St):P2 H σ Cd (Nn.map vh) :=
 .cons (.tup (.cons (.int 1) (.cons (.int 2) .nil)) ad) (.cons (.tup (.cons (.int 1) (.cons (.int 2) .nil)) ad) (.cons (.tup (.cons (.int 1) (.cons (.int 3) .nil)) ad) (.cons (.tup (.cons (.int 2) (.cons (.int 3) .nil)) ad)
  (.cons (.tup (.cons (.int 1) (.cons (.int 4) .nil)) ad) (.cons (.tup (.cons (.int 5) (.cons (.int 7) .nil)) ad) (.cons (.tup (.cons (.int 1) (.cons (.int 100) .nil)) ad) (.cons (.tup (.cons (.int 99) (.cons (.int 100) .nil)) ad) .nil)))))))
theorem CL {De:bY}{u:TS}{H:Hp}{sA p:Addr}{ns:List Int}{o2 o3 o4 o5 o6:Option V}(sc:Sc K H sA p ns)(k:∀ cv co H1,co∈Nn->Sc K H1 sA p ns->Ext (wo H p) (wo H1 p)->Ĉ (wo H1 p) cv (vh co)->u De [some (.ref sA),some (.ref p),o2,some cv,o4,o5,o6] H1) :
  aZ (yW K) u De [some (.ref sA),some (.ref p),o2,o3,o4,o5,o6] H:=by
 refine aN (te:=aS (cX K) (aT Cd) (dI K (tC (.int 8)))) (i:=3) (D:=De) (gD ((Ct H _).use ad λ l0 vs H0 x0 n0 g0 rs=>?_));refine bH (sc.ext x0) rfl rfl (λ R r=>r) ad ad λ r H1 r0 r8 ž k1=>?_;have Uz:l0≠p:=sc.bx.ne n0;have g1:=k1 _ _ g0 Uz;have lv:=rs.length;rw [Ä] at lv;have W':r.toNat<vs.length:=by rw [lv];show _<8;omega
 obtain⟨d,ed,rd⟩:=rs.get (Â W');rw [Ò] at ed;obtain⟨co,eco,rfl⟩:=á.mp ed;have rdw:Ĉ (wo H0 p) vs[r.toNat] (vh co):=rd.ġ (λ a o e n=>by
  obtain⟨_,_,_,hp,_⟩:=(sc.ext x0).bx.ex;exact bc (λ z=>by subst z;rw [hp] at e;cases e;exact n _ rfl) e) lM
 have er:r=(r.toNat:Int):=am;refine⟨l0,_,r,vs[r.toNat],rfl,rfl,ó.of g1,by have z:=gS (Â W');rwa [<- er] at z,?_⟩
 exact k _ co H1 (ê eco) ž ((aL x0 p).trans (aM k1)) (rdw.mono (aM k1))
theorem BJ {De:bY}{u:TS}{H H2:Hp}{sA p:Addr}{ns:List Int}{m:Int}{cv:V}{co:Int × Int}{o4 o5 o6:Option V}{Q:VK} (Χ:Sc K H2 sA p ns)(xb:Ext (wo H p) (wo H2 p))(Ng:Ĉ (wo H2 p) cv (vh co))(O9:dO (vh co)=true)(em:m>1)(m2:m<=20)(Pm:De.rt=Q)
  (q:∀ l r H',Sc K H' sA p ns->Ext (wo H p) (wo H' p)->wo H p l=none->π C (wo H' p) (.ref l) r->r.ok->r.Õ <= m->Q (.ref l) H') :
  aZ (cV (lE (dI K (aS (rI jC λ i j=>.int (i/j)) (ar 2) (tC (.int 2))))) (bF 5)) (cW (aT (ag (tC (.str "pairs")) (ag (c6 (C 1) (mP C CN CS) [] E0 (ag (ar 5) (ag (ar 3) aG))) (ag (aS (rI δ λ i j=>.int (i*j)) (tC (.int 2)) (ar 5)) aG))))) De [some (.ref sA),some (.ref p),some (.int m),some cv,o4,o5,o6] H2:=by
 refine aN (te:=lE (dI K (aS (rI jC λ i j=>.int (i/j)) (ar 2) (tC (.int 2))))) (i:=5) (D:=De) ?_;show dI K (aS (rI jC λ i j=>.int (i/j)) (ar 2) (tC (.int 2))) _ H2 _;refine bH (m:=m/2) Χ rfl rfl (λ R r=>⟨_,rfl,_,_,rfl,rfl,⟨ad,ad⟩,r⟩) am am λ z H3 z0 zm Δ k3=>⟨_,_,rfl,rfl,?_⟩;refine⟨_,rfl,_,rfl,?_⟩;have OG:=Ng.mono (aM k3);refine λ x dx hx hd ne=>qA hx hd ne (OG.mono (ak _ _)) ⟨am,am,O9⟩ λ H6 x6 ru=>⟨rfl,?_⟩;refine⟨_,rfl,_,_,rfl,rfl,.inl ⟨ad,ad⟩,dA,λ l hl=>?_⟩;show De.rt _ _;rw [Pm];exact oW (r:=.pairs (1+z) co.1 co.2) (Δ.ext x6) ((xb.trans (aM k3)).trans (aL x6 p)) ru ⟨am,am,O9⟩ (by show 2*(1+z)<=m;omega) q l hl
theorem DB {De:bY}{H H3:Hp}{sA p:Addr}{ns:List Int}{m n:Int}{o2 o3 o4 o5:Option V}{Q:VK} (Δ:Sc K H3 sA p ns)(xc:Ext (wo H p) (wo H3 p))(n1:1<=n)(nm:n<=m)(m2:m<=20)(Pm:De.rt=Q)
  (q:∀ l r H',Sc K H' sA p ns->Ext (wo H p) (wo H' p)->wo H p l=none->π C (wo H' p) (.ref l) r->r.ok->r.Õ <= m->Q (.ref l) H'):xD K C CN De [some (.ref sA),some (.ref p),o2,o3,o4,o5,some (.int n)] H3:=by
 refine⟨_,rfl,?_⟩;refine bH (m:=n+1) Δ rfl rfl (λ R r=>⟨_,rfl,_,_,rfl,rfl,r⟩) am am λ u H7 u0 ub Um k7=>?_;refine λ x dx hx hd ne=>qF hx hd ne ⟨am,am,am,am⟩ λ H6 x6 ru=>⟨rfl,?_⟩;refine⟨_,rfl,dA,λ l hl=>?_⟩;show De.rt _ _;rw [Pm];exact oW (r:=.split n u) (Um.ext x6) ((xc.trans (aM k7)).trans (aL x6 p)) ru ⟨am,am,am,am⟩ (by show n<=m;omega) q l hl
def E1 (K:Frag):TE:=dI K (aS (cX K) (aT (ag (tC (.int 2)) (ag (tC (.int 20)) aG))) (dI K (tC (.int 2))))
theorem Ba {H3:Hp}{sA p:Addr}{ns:List Int}{σ:St}{R:VK} (Δ:Sc K H3 sA p ns)(h0:σ[0]?=some (some (.ref sA)))(h1:σ[1]?=some (some (.ref p)))(k:∀ u H5,0<=u->u<20->Sc K H5 sA p ns->Ext (wo H3 p) (wo H5 p)->R (.int u) H5):E1 K σ H3 R:=by
 refine⟨_,h0,_,h1,dA,λ l5 h5=>?_⟩;have x5:=Ext.new (o:=.lst [V.int 2,.int 20]) h5;have g5:af H3 l5 (.lst [V.int 2,.int 20]) l5=some (.lst [V.int 2,.int 20]):=aR;have n5:=Δ.bx.ne h5;show dI K (tC (.int 2)) _ (af H3 l5 (.lst [V.int 2,.int 20])) _;have Ny:=Δ.ext x5;generalize af H3 l5 (.lst [V.int 2,.int 20])=H4 at x5 g5 Ny ⊢;refine bH Ny h0 h1 (λ R r=>r) ad ad λ j H6 j0 j2 OF k6=>?_;have g6:=k6 _ _ g5 n5;obtain⟨b,eb,b1,b2⟩:∃ b:Int,([V.int 2,.int 20]:List V)[j.toNat]?=some (.int b)/\2<=b/\b<=20:=by
  rcases(by omega:j=0\/j=1) with rfl | rfl
  ·exact⟨2,rfl,ad,ad⟩
  ·exact⟨20,rfl,ad,ad⟩
 have ej:j=(j.toNat:Int):=am;refine⟨l5,_,j,.int b,rfl,rfl,ó.of g6,by rw [ej];exact gS eb,?_⟩
 exact⟨sA,ns,p,b,rfl,OF.sq,OF.N_,OF.ne,OF.bx,am,am,λ u H7 u0 ub bx7 k7 _=>k u H7 am am (OF.kept k7 bx7) (((aL x5 p).trans (aM k6)).trans (aM k7))⟩
theorem A7 {De:bY}{H H3:Hp}{sA p:Addr}{ns:List Int}{m n:Int}{cv:V}{co:Int × Int}{o2 o4 o5:Option V}{Q:VK} (Δ:Sc K H3 sA p ns)(xc:Ext (wo H p) (wo H3 p))(OG:Ĉ (wo H3 p) cv (vh co))(O9:dO (vh co)=true)(n1:1<=n)(nm:n<=m)(m2:m<=20)(Pm:De.rt=Q)
  (q:∀ l r H',Sc K H' sA p ns->Ext (wo H p) (wo H' p)->wo H p l=none->π C (wo H' p) (.ref l) r->r.ok->r.Õ <= m->Q (.ref l) H') :
  cW (aT (ag (tC (.str "coins")) (ag (c6 (C 2) (mZ C CN CS) [] E0 (ag (ar 6) (ag (ar 3) (ag (lE (E1 K)) aG)))) (ag (ar 6) aG)))) De [some (.ref sA),some (.ref p),o2,some cv,o4,o5,some (.int n)] H3:=by
 refine⟨_,rfl,_,rfl,?_⟩;refine Ba Δ rfl rfl λ u H5 u1 u2 Ny x5=>⟨_,_,rfl,rfl,?_⟩;refine λ x dx hx hd ne=>rT hx hd ne ((OG.mono x5).mono (ak _ _)) ⟨am,am,O9,am,am⟩ λ H6 x6 ru=>⟨rfl,?_⟩;refine⟨_,rfl,dA,λ l hl=>?_⟩;show De.rt _ _;rw [Pm];exact oW (r:=.ř n co.1 co.2 (1+u)) (Ny.ext x6) ((xc.trans x5).trans (aL x6 p)) ru ⟨am,am,O9,am,am⟩ (by show n<=m;omega) q l hl
theorem sR {De:bY}{H H2:Hp}{sA p:Addr}{ns:List Int}{m y:Int}{cv:V}{co:Int × Int}{o5 o6:Option V}{Q:VK} (Χ:Sc K H2 sA p ns)(xb:Ext (wo H p) (wo H2 p))(Ng:Ĉ (wo H2 p) cv (vh co))(O9:dO (vh co)=true)(m1:1<=m)(m2:m<=20)(Pm:De.rt=Q)
  (q:∀ l r H',Sc K H' sA p ns->Ext (wo H p) (wo H' p)->wo H p l=none->π C (wo H' p) (.ref l) r->r.ok->r.Õ <= m->Q (.ref l) H'):aZ (Bs K) (aZ (zE K C CN CS) (xD K C CN)) De [some (.ref sA),some (.ref p),some (.int m),some cv,some (.int y),o5,o6] H2:=by
 refine aN (te:=lE (dI K (ar 2))) (i:=6) ?_;show dI K (ar 2) _ H2 _;refine bH Χ rfl rfl (λ R r=>⟨_,rfl,r⟩) am am λ z H3 z0 zm Δ k3=>⟨_,_,rfl,rfl,?_⟩;have xc:=xb.trans (aM k3);have OG:=Ng.mono (aM k3);refine⟨_,rfl,rfl,_,rfl,?_⟩;by_cases e2:y=2
 ·rw [Å (by rw [e2])]
  exact cQ (A7 Δ xc OG O9 am am m2 Pm q)
 ·rw [É (λ z=>e2 (V.int.inj z))];exact cE (DB Δ xc am am m2 Pm q)
theorem zG {H:Hp}{sA p:Addr}{ns:List Int}{m:Int}{o3 o4 o5 o6:Option V}{De:bY}(sc:Sc K H sA p ns)(m1:1<=m)(m2:m<=20)
  (q:∀ l r H',Sc K H' sA p ns->Ext (wo H p) (wo H' p)->wo H p l=none->π C (wo H' p) (.ref l) r->r.ok->r.Õ <= m->De.rt (.ref l) H'):Bx (KA K C CN CS De [some (.ref sA),some (.ref p),some (.int m),o3,o4,o5,o6] H):=by
 refine⟨CL sc λ cv co H1 hco ž xa Uv=>?_⟩;refine aN (te:=dI K (tC (.int 3))) (i:=4) ?_;refine bH ž rfl rfl (λ R r=>r) ad ad λ y H2 y0 y3 Χ k2=>?_;have xb:=xa.trans (aM k2);have Ng:=Uv.mono (aM k2);have O9:=qP co hco;refine⟨_,rfl,rfl,_,rfl,?_⟩;by_cases e1:y=1
 ·subst e1;refine cQ ⟨_,rfl,_,_,rfl,rfl,_,rfl,?_⟩;by_cases em:m>1
  ·rw [Å em];exact cQ (BJ (u:=bZ) Χ xb Ng O9 em m2 rfl q)
  ·rw [É em];exact cE (sR Χ xb Ng O9 m1 m2 rfl q)
 ·rw [É (λ z=>e1 (V.int.inj z))];exact cE (cE (sR Χ xb Ng O9 m1 m2 rfl q))
theorem iU {X:Cx}{body:List Stmt}{t:TS}{D:bY}{σ:St}{H:Hp}(h:Bx (Ų X body t))(r:Bx (t D σ H)):∃ t,Ų X body t/\t D σ H:=⟨t,h.h,r.h⟩
theorem GO (F:ğ K "_law_plain_rule" "_law_plain_rule" re f fd)(L:DI P w K mg base C CN CS CT CM f0 f1 f2 f3 f4 e0 e1 e2 e3 e4)(A1:Df P w K mg base ay 1 "_law_take" ["_law_script","_law_pen","_law_many"] (cS K) a1 d1):ß P w K mg base ay 8 f fd ["_law_script","_law_pen","_law_most"] (qH K C):=by
 refine cw F OE λ cdv A outer s H vs Q E hr h=>?_;obtain⟨sA,p,ns,m,rfl,sc,m1,m2,q⟩:=h;exact iU (zC L A1 hr) (zG sc m1 m2 q)
end
theorem kJ:∀{cl:List (Str × Addr)}{z:Str},z∈cl.map (·.1)->∃ c,cl.lookup z=some c
 | (x,d)::cl,z,h=>by
  by_cases e:z=x
  ·subst e;exact⟨d,i8⟩
  ·rw [ô,ç] at h;rcases h with h | h
   ·exact absurd h e
   ·obtain⟨c,hc⟩:=kJ h;exact⟨c,lL e hc⟩
theorem jW {X:Cx}{sc:Scope}{cl:List (Str × Addr)}{ts zs:List Str}{js:List Nat}{M:List Str}{L:List (Str × NameKind)}(e_:closureFor sc X.env=pure cl)(kind:sc.kind=.function)(nc:∀ y∈sc.names,y.2 ≠ .cell)(nm:∀ y∈sc.names,y.2=.local->sc.names.lookup y.1=some .local)(var:∀ x∈ts,sc.names.lookup x=some .local)
  (hM:cl.map (·.1)=M)(hc:cl.map (λ y=>X.env.cells.lookup y.1)=cl.map (λ y=>some y.2))(rl:(relabel sc X.env).names=L)(has:∀ y∈L,(y.2=.cell\/y.2=.free)->y.1∈M)(nd:(ts++zs).Nodup)
  (hj:zs.map some=js.map (λ j=>X.N[j]?))(hv:zs.map (λ z=>X.env.scope.names.lookup z)=zs.map (λ _=>some .cell))(hl:zs.map (λ z=>L.lookup z)=zs.map (λ _=>some .cell)):bL X sc cl ts zs js:=by
 have ln:js.length=zs.length:=by have:=Ğ List.length hj;simpa using this.symm
 refine⟨e_,kind,nc,nm,var,λ z c h=>?_,λ z h=>?_,nd,λ k z h=>?_,ln⟩
 ·have m:=Ú h;obtain⟨i,hi,e⟩:=Ĺ m;have q:=Ğ (λ l=>l[i]?) hc;simp only [List.getElem?_map,List.getElem?_eq_getElem hi,e,Option.map_some] at q;exact Û q
 ·rw [rl] at h;refine kJ ?_;rw [hM];rcases h with h | h
  ·exact has _ (Ú h) (.inl rfl)
  ·exact has _ (Ú h) (.inr rfl)
 ·have hk:k<zs.length:=(Ë.mp h).1;have TD:k<js.length:=by rw [ln];exact hk
  have q:=Ğ (λ l=>l[k]?) hj;simp only [List.getElem?_map,h,List.getElem?_eq_getElem TD,Option.map_some] at q;have v:=Ğ (λ l=>l[k]?) hv;simp only [List.getElem?_map,h,Option.map_some] at v;have u:=Ğ (λ l=>l[k]?) hl;simp only [List.getElem?_map,h,Option.map_some] at u;have v':X.env.scope.names.lookup z=some .cell:=Û v;refine⟨js[k],Â TD,(Û q).symm,.inr (.inl v'),λ e=>?_,.inl (by rw [rl];exact Û u)⟩
  have e':X.env.scope.names.lookup z=some .local:=e;rw [v'] at e';cases e'
section
variable {K:Frag}{te:TE}{tt:TT}{g:TG}{k:Nat}{cap:St}{D:Addr}{H1:Hp}{Q:Hp->Prop}{a:Addr}{xs:List V}
theorem qU (Pv:Nat->List V->Hp->Prop)(hz:xs.length<sizeLine)(h0:Pv 0 [] (af H1 D (.lst [])))(hl:∀ i ys H,Pv i ys H->ó K H a xs)
  (hs:∀(i:Nat) x ys H,xs[i]?=some x->ys.length<=i->H D=some (.lst ys)->Pv i ys H->∀ os:St,os.length=k->∀ N:List V->Hp->Prop,(∀ K' H',Pv (i+1) K' H'->K'.length<=i+1->H' D=some (.lst K')->N K' H') ->
   g x (os++cap) H λ İ H0=>(∃ ŀ:St,ŀ.length=k/\İ = ŀ ++ cap)/\tt İ H0 λ b H5=>(b=false->N ys H5)/\(b=true->te İ H5 λ y H4=>H4 D=some (.lst ys)/\N (ys ++ [y]) (af H4 D (.lst (ys ++ [y])))))
  (hd:∀ ys H,ys.length<=xs.length->H D=some (.lst ys)->Pv xs.length ys H->Q H) :
  ∃ W:Nat->Nat->List V->Hp->Prop,(∃ m,W 0 m [] (af H1 D (.lst []))) /\
   ∀ i m ys H2,W i m ys H2->H2 D=some (.lst ys)/\(((jZ K a).stop i H2/\Q H2)\/((jZ K a).go i H2/\ys.length<sizeLine /\
    ∀ x H3,(jZ K a).L_ i H2 x H3->∀ os:St,os.length=k->g x (os++cap) H3 λ İ H0=>(∃ ŀ:St,ŀ.length=k/\İ = ŀ ++ cap)/\tt İ H0 λ b H5=>(b=false->∃ m',m'<m/\W (i+1) m' ys H5) /\
     (b=true->te İ H5 λ y H4=>H4 D=some (.lst ys)/\∃ m',m'<m/\W (i+1) m' (ys ++ [y]) (af H4 D (.lst (ys ++ [y])))))):=by
 refine⟨λ i m ys H=>m=xs.length-i/\i<=xs.length/\ys.length<=i/\H D=some (.lst ys)/\Pv i ys H,⟨xs.length,by simp,Nat.zero_le _,Nat.le_refl _,aR,h0⟩,?_⟩
 rintro i m ys H ⟨rfl,hi,hy,MO,p⟩;refine⟨MO,?_⟩;have q:=hl i ys H p;by_cases ſ:i<xs.length
 ·refine .inr ⟨⟨xs,xs[i],q,by simp [ſ]⟩,am,λ x H' y os ŋ=>?_⟩
  obtain⟨e,y⟩:=y;subst e;exact hs i x ys _ (y xs q) hy MO p os ŋ (λ K' Rc=>∃ m',m'<xs.length-i/\(m'=xs.length-(i+1)/\i+1<=xs.length/\K'.length<=i+1/\Rc D=some (.lst K')/\Pv (i+1) K' Rc)) λ K' Rc p' l' d'=>⟨xs.length-(i+1),am,rfl,ſ,l',d',p'⟩
 ·have e:i=xs.length:=am;subst e;exact .inl ⟨⟨xs,q,Ç _⟩,hd ys H hy MO p⟩
end
section
variable {P:Program}{w:World}{K:Frag}{mg:bv}{base:Heap}{C:Nat->Addr}{CR CN CS CT CM f f0 f1 f2 f3 f4 a1 a2:Addr}{fd e0 e1 e2 e3 e4 d1 d2:FuncData}
abbrev mO:Stmt:=cr 75
abbrev oN (i:Nat):Stmt:=(aH mO).getD i (.Pass ⟨0,0,0,0⟩)
abbrev rY:List Str:=["_law_script","_law_pen","_law_most","_law_several","_law_many","_law_blocks","_law_ahead","_law_word","_law_rule_here","_law_folk_here"]
theorem A_:ae rY ["_law_script","_law_pen","_law_most"] (aa mO):=aO
abbrev IW:Scope:=eZ [("_law_k",.local),("_law_plain_rule",.globalImplicit),("max",.globalImplicit),("_law_most",.free),("_law_pen",.free),("_law_script",.free)]
abbrev ID:Scope:=eZ [("_law_one",.local)]
abbrev Hr:Scope:=eZ [("_law_word",.local),("_law_folk_here",.local),("_law_many",.free)]
abbrev IX:Scope:=eZ [("_law_place",.local),("_law_many",.free)]
abbrev JQ:Scope:=eZ [("_law_word",.local),("_law_folk_here",.local)]
theorem Jd:((["_law_k"]:List Str)++(["_law_most","_law_pen","_law_script"]:List Str)).Nodup:=ao
theorem HX:((["_law_one"]:List Str)++([]:List Str)).Nodup:=ao
theorem DX:((["_law_word","_law_folk_here"]:List Str)++(["_law_many"]:List Str)).Nodup:=ao
theorem JY:((["_law_place"]:List Str)++(["_law_many"]:List Str)).Nodup:=ao
theorem w9:((["_law_word","_law_folk_here"]:List Str)++([]:List Str)).Nodup:=ao
def Kp (K:Frag)(i:Nat):TE:=iQ (λ xs H Q=>∃ i j,xs=[.int i,.int j]/\Q (.int (if j>i then j else i)) H) (ag (tC (.int 1)) (ag (aS (rI jC λ i j=>.int (i/j)) (ar i) (tC (.int 3))) aG))
def F6 (K:Frag)(C:Nat->Addr):TE:=gE (qH K C) [] E0 (ag (ar 3) (ag (ar 2) (ag (Kp K 1) aG)))
def zB (K:Frag)(C:Nat->Addr):TS:=cV (aT (ag (gE (qH K C) [] E0 (ag (ar 0) (ag (ar 1) (ag (ar 2) aG)))) aG)) (bF 3)
def B5 (K:Frag)(C:Nat->Addr):TS:=dQ (tB (aS rW (dI K (tC (.int 3))) (tC (.int 0)))) (aZ (cV (lE (dI K (tC (.int 4)))) (bF 4)) (cV (fZ (nY (ag (ar 4) aG)) 1 [2,1,0] (bF 0) (F6 K C)) (bF 3))) bZ
def yo (K:Frag):TS:=aZ (iM (yG K "list" lS (ar 5) (ag (eF (ag (ar 7) (ag (iQ xW (ag (iQ yd (ag (ar 6) (ag (aS (eO λ i j=>.int (i+j)) (ar 6) (ar 9)) aG))) aG)) aG))) aG))) (cV (aS (eO λ i j=>.int (i+j)) (ar 6) (ar 9)) (bF 6))
def we (K:Frag):TS:=mH (cO K (ar 3)) (yF K 3 (gB (bF 7) (gB (bF 8) (gB (bF 9) sd)))) (yo K)
def Ak (K:Frag):TS:=cV (aS (cX K) (aS (cX K) (ar 3) (tC (.int 0))) (tC (.int 1))) (bF 8)
def xB (K:Frag):TE:=aS (cX K) (ar 0) (tC (.int 1))
def xF (K:Frag)(C:Nat->Addr)(CT CM:Addr):TS:=dQ (yY (tB (aS (eO λ i j=>.bl (decide (i>j))) (iQ (λ xs H Q=>∃ p ys,xs=[.ref p]/\(ó K H p ys\/ĥ K H p ys)/\Q (.int ys.length) H) (ag (ar 3) aG)) (tC (.int 1)))) (tB (aS rW (dI K (tC (.int 4))) (tC (.int 0)))))
 (cV (c6 (C 3) (kT K C CT CM) [] E0 (ag (fZ (cO K (ar 3)) 1 [] (bF 0) (xB K)) aG)) (bF 8)) bZ
def FD:TT:=tB (aS (eO λ i j=>.bl (decide (i<j))) (ar 0) (ar 1))
def K3 (K:Frag):TE:=jI (cO K (ar 1)) 1 [2] (bF 0) FD (ar 0)
def vo (K:Frag):TE:=eF (ag (ar 0) (ag (K3 K) aG))
def xn (K:Frag):TG:=v5 K 2 (gB (bF 0) (gB (bF 1) sd))
def FQ (K:Frag):TS:=cV (dI K (aS (eO λ i j=>.int (i+j)) (ar 6) (tC (.int 1)))) (bF 4)
def Gq (K:Frag)(C:Nat->Addr)(CN:Addr):TS:=cV (c6 (C 4) (nU C CN) [] E0 (ag (ar 8) (ag (ar 4) aG))) (bF 8)
def EF (K:Frag):TS:=cV (fZ (cO K (ar 5)) 2 [4] (xn K) (vo K)) (bF 5)
def CP (K:Frag)(C:Nat->Addr)(CN:Addr):TS:=dQ (tB (aS rW (dI K (tC (.int 4))) (tC (.int 0)))) (aZ (FQ K) (aZ (Gq K C CN) (EF K))) bZ
def Hs (K:Frag):TT:=tB (aS (sx K) (ar 1) (aT aG))
def zw (K:Frag):TS:=cW (eF (ag (ar 8) (ag (jI (cO K (ar 5)) 2 [] (xn K) (Hs K) (eF (ag (ar 0) (ag (ar 1) aG)))) aG)))
def KB (K:Frag)(C:Nat->Addr)(CN CT CM:Addr):TS:=aZ (zB K C) (aZ (B5 K C) (aZ (cV (aT aG) (bF 5)) (aZ (cV (tC (.int 0)) (bF 6)) (aZ (we K) (aZ (Ak K) (aZ (xF K C CT CM) (aZ (CP K C CN) (zw K))))))))
section
variable {cdv:Value}{A:Around}{outer:List Env}{s:Shared}{H:Hp}{E:XK}(L:DI P w K mg base C CN CS CT CM f0 f1 f2 f3 f4 e0 e1 e2 e3 e4)(A1:Df P w K mg base ay 1 "_law_take" ["_law_script","_law_pen","_law_many"] (cS K) a1 d1)(A2:Df P w K mg base ay 8 "_law_plain_rule" ["_law_script","_law_pen","_law_most"] (qH K C) a2 d2)(hr:qX 8 "_law_rule" mO A s f cdv)
theorem Aq:bL (br ay P w K mg base rY "_law_rule" (aa mO) f cdv A outer s H E).Ŝ IW [("_law_script",s.heap.objs.size+1),("_law_pen",s.heap.objs.size+2),("_law_most",s.heap.objs.size+3)] ["_law_k"] ["_law_most","_law_pen","_law_script"] [2,1,0] :=
 jW (M:=["_law_script","_law_pen","_law_most"]) (L:=[(".0",.local),("_law_k",.local),("_law_plain_rule",.globalImplicit),("max",.globalImplicit),("_law_most",.cell),("_law_pen",.cell),("_law_script",.cell)]) rfl rfl ao ao ao rfl rfl rfl ao ao rfl rfl rfl
theorem zD {X:Cx}:bL X ID [] ["_law_one"] [] []:=oC (L:=[(".0",.local),("_law_one",.local)]) rfl rfl ao ao ao rfl ao ao
theorem zb:bL (br ay P w K mg base rY "_law_rule" (aa mO) f cdv A outer s H E).Ŝ Hr [("_law_many",s.heap.objs.size+4)] ["_law_word","_law_folk_here"] ["_law_many"] [4] :=
 jW (M:=["_law_many"]) (L:=[(".0",.local),("_law_word",.local),("_law_folk_here",.local),("_law_many",.cell)]) rfl rfl ao ao ao rfl rfl rfl ao ao rfl rfl rfl
theorem AA {s':Shared}{H':Hp}{C1:Addr}{fp:List Addr}:bL (bJ (br ay P w K mg base rY "_law_rule" (aa mO) f cdv A outer s H E).Ŝ Hr [("_law_many",s.heap.objs.size+4)] ((["_law_word","_law_folk_here"]:List Str)++(["_law_many"]:List Str)) s' H' C1 fp) IX [("_law_many",s.heap.objs.size+4)] ["_law_place"] ["_law_many"] [2] :=
 jW (M:=["_law_many"]) (L:=[(".0",.local),("_law_place",.local),("_law_many",.cell)]) rfl rfl ao ao ao rfl rfl rfl ao ao rfl rfl rfl
theorem C8 {X:Cx}:bL X JQ [] ["_law_word","_law_folk_here"] [] []:=oC (L:=[(".0",.local),("_law_word",.local),("_law_folk_here",.local)]) rfl rfl ao ao ao rfl ao ao
include A2 hr
theorem Jf:Bx (PS (br ay P w K mg base rY "_law_rule" (aa mO) f cdv A outer s H E).Ŝ (oN 0) (zB K C)) :=
 aP (i:=3) A_.nd rfl (Or.inl rfl) (dw (bX ⟨cq A2 hr ai (ac (pv 0) (ac (pv 1) (ac (pv 2) aq)))⟩ bp))
include A1
theorem Jj (mr:mg "range" = none)(mm:mg "max" = none)(mi:mg "int" = none):Bx (PS (br ay P w K mg base rY "_law_rule" (aa mO) f cdv A outer s H E).Ŝ (oN 1) (B5 K C)):=by
 have Ħ:ö 1 _:=hr.mono ad;exact jB ⟨aA cZ (cq A1 Ħ ai (ac (pv 0) (ac (pv 1) (ac aB aq)))) aB (az _)⟩
  (cA (aP (i:=4) A_.nd rfl (Or.inr rfl) ⟨aC cj aB (cq A1 Ħ ai (ac (pv 0) (ac (pv 1) (ac aB aq))))⟩)
  (be ⟨md (iy:=3) (te:=F6 K C) (g:=bF 0) rfl Aq (gu rfl mr (ac (pv 4) aq)) (λ s H C fp=>by exact dG (i:=0) Jd rfl (.inl rfl)) (λ s H C fp=>by
   exact cq A2 hr ai (ac (pv 3) (ac (pv 2) (ac (ah (qy rfl) rfl mm PyProof.Rows.boot_max (ac aB (ac (aC gr (pv 1) aB) aq))) aq)))) A_.nd rfl (Or.inl rfl) rfl⟩)) fE
omit A1 A2 hr
theorem Jh (ml:mg "list" = none)(mr:mg "range" = none):Bx (PS (br ay P w K mg base rY "_law_rule" (aa mO) f cdv A outer s H E).Ŝ (oN 4) (we K)):=by
 have nd:=A_.nd;exact⟨gk ĸ rfl (bC (pv 3)) (wq rfl (gy (dG (i:=7) nd rfl (Or.inl rfl)) (gy (dG (i:=8) nd rfl (Or.inl rfl)) (gy (dG (i:=9) nd rfl (Or.inl rfl)) bT))))
  (cL (ax (jV ď ο ξ du (pv 5) (ac (aU (ac (pv 7) (ac (bA (qx rfl) rfl ml Ĥ (ac (bA kK rfl mr υ (ac (pv 6) (ac (aC cj (pv 6) (pv 9)) aq))) aq)) aq))) aq)))
  (bj (mq (i:=6) nd rfl (Or.inl rfl) (aC cj (pv 6) (pv 9)))))⟩
theorem Jn:Bx (PS (br ay P w K mg base rY "_law_rule" (aa mO) f cdv A outer s H E).Ŝ (oN 5) (Ak K)) :=
 aP (i:=8) A_.nd rfl (Or.inl rfl) ⟨ft iB (ft iB (pv 3) aB) aB⟩
include L A1 hr
theorem J1 (ml:mg "len" = none):Bx (PS (br ay P w K mg base rY "_law_rule" (aa mO) f cdv A outer s H E).Ŝ (oN 6) (xF K C CT CM)):=by
 have Ħ:ö 1 _:=hr.mono ad;have M4:ö 5 _:=hr.mono ad;exact jB ⟨PW.pt (fV (aA iS (ah aF rfl ml ñ (ac (pv 3) aq)) aB (az _)) (dH (aA cZ (cq A1 Ħ ai (ac (pv 0) (ac (pv 1) (ac aB aq)))) aB (az _))))⟩
  (be (aP (i:=8) A_.nd rfl (Or.inl rfl) ⟨dC L.k3 L.g3 M4 rfl L.m3 L.b3 .nil fQ (ac (dL (te:=xB K) (g:=bF 0) rfl zD (bC (pv 3)) (λ s H C fp=>by exact dG (i:=0) HX rfl (.inl rfl)) (λ s H C fp=>by exact ft iB (pv 0) aB)) aq)⟩)) fE
theorem Id:Bx (PS (br ay P w K mg base rY "_law_rule" (aa mO) f cdv A outer s H E).Ŝ (oN 7) (CP K C CN)):=by
 have Ħ:ö 1 _:=hr.mono ad;have M4:ö 5 _:=hr.mono ad;exact jB ⟨aA cZ (cq A1 Ħ ai (ac (pv 0) (ac (pv 1) (ac aB aq)))) aB (az _)⟩
  (cA (aP (i:=4) A_.nd rfl (Or.inr rfl) ⟨cq A1 Ħ ai (ac (pv 0) (ac (pv 1) (ac (aC cj (pv 6) aB) aq)))⟩)
  (cA (aP (i:=8) A_.nd rfl (Or.inl rfl) ⟨dC L.k4 L.g4 M4 rfl L.m4 L.b4 .nil fQ (ac (pv 8) (ac (pv 4) aq))⟩)
  (be ⟨md (iy:=5) (te:=vo K) (g:=xn K) rfl zb (bC (pv 5)) (λ s H C fp=>by exact cT rfl (gy (dG (i:=0) DX rfl (.inl rfl)) (gy (dG (i:=1) DX rfl (.inl rfl)) bT))) (λ s H C fp=>by
   exact aU (ac (pv 0) (ac (gY (te:=ar 0) (tt:=FD) (g:=bF 0) rfl AA (bC (pv 1)) (λ s H C fp=>by exact dG (i:=0) JY rfl (.inl rfl)) (λ s H C fp=>by exact aA uQ (pv 0) (pv 1) (az _)) (λ s H C fp=>by exact pv 0)) aq))) A_.nd rfl (Or.inl rfl) rfl⟩))) fE
omit L A1
theorem Il:Bx (PS (br ay P w K mg base rY "_law_rule" (aa mO) f cdv A outer s H E).Ŝ (oN 8) (zw K)):=by
 have hu:=hr.QF;exact gP (fN (bX ⟨pv 8⟩ (bX ⟨gY (te:=eF (ag (ar 0) (ag (ar 1) aG))) (tt:=Hs K) (g:=xn K) rfl C8 (bC (pv 5)) (λ s H C fp=>by exact cT rfl (gy (dG (i:=0) w9 rfl (.inl rfl)) (gy (dG (i:=1) w9 rfl (.inl rfl)) bT))) (λ s H C fp=>by exact aA (tV hu) (pv 1) (aY aq) (az _)) (λ s H C fp=>by exact aU (ac (pv 0) (ac (pv 1) aq)))⟩ bp)))
include L A1 A2
theorem Am (mr:mg "range" = none)(mm:mg "max" = none)(mi:mg "int" = none)(ml:mg "list" = none)(mn:mg "len" = none):Bx (Ų (br ay P w K mg base rY "_law_rule" (aa mO) f cdv A outer s H E).Ŝ (aH mO) (KB K C CN CT CM)) :=
 cA (Jf A2 hr) (cA (Jj A1 A2 hr mr mm mi) (cA (aP (i:=5) A_.nd rfl (Or.inl rfl) ⟨aY aq⟩) (cA (aP (i:=6) A_.nd rfl (Or.inl rfl) ⟨aB⟩) (cA (Jh ml mr) (cA Jn (cA (J1 L A1 hr mn) (cA (Id L A1 hr) (be (Il hr)))))))))
end
end
def NH {α β:Type}(R:α->β->Prop)(xs:List α)(ys:List β):Prop:=xs.length=ys.length/\∀(i:Nat) x y,xs[i]?=some x->ys[i]?=some y->R x y
theorem NH.nil {α β:Type}{R:α->β->Prop}:NH R [] []:=⟨rfl,λ i x y h=>by simp at h⟩
theorem NH.mono {α β:Type}{R S:α->β->Prop}{xs:List α}{ys:List β}(h:NH R xs ys)(k:∀ x y,R x y->S x y):NH S xs ys:=⟨h.1,λ i x y a b=>k x y (h.2 i x y a b)⟩
theorem NH.app {α β:Type}{R:α->β->Prop}{xs:List α}{ys:List β}{x:α}{y:β}(h:NH R xs ys)(k:R x y):NH R (xs ++ [x]) (ys ++ [y]):=by
 refine⟨by rw [Ð,Ð,h.1];rfl,λ i a b ha hb=>?_⟩
 rcases Ĳ i xs.length with lt | ge
 ·rw [ð lt] at ha;rw [ð (by rw [<- h.1];exact lt)] at hb
  exact h.2 i a b ha hb
 ·rw [å ge] at ha;rw [å (by rw [<- h.1];exact ge),<- h.1] at hb
  match i-xs.length,ha,hb with
  | 0,ha,hb=>cases ha;cases hb;exact k
  | n+1,ha,hb=>simp at ha
theorem NH.at {α β:Type}{R:α->β->Prop}{xs:List α}{ys:List β}(h:NH R xs ys){i:Nat}{x:α}(e:xs[i]?=some x):∃ y,ys[i]?=some y/\R x y:=by
 have l:i<ys.length:=by rw [<- h.1];exact(Ë.mp e).1
 exact⟨ys[i],Â l,h.2 i _ _ e (Â l)⟩
theorem lc {m:Int}:∀{rs:List R0},(∀ r∈rs,r.Õ <= m)->(rs.map R0.Õ).sum<=rs.length*m
 | [],_=>by simp
 | r::rs,h=>by
  have h1:=h r (î ..);have h2:=lc λ x hx=>h x (ã _ hx);simp only [List.map_cons,List.sum_cons,List.length_cons];have:((rs.length+1:Nat):Int)*m=rs.length*m+m:=by rw [Int.natCast_add,Int.add_mul];omega
  omega
structure Sv (C:Nat->Addr)(G:Hp)(sv:Addr)(rs:List R0):Prop where
 ex:∃ xs,G sv=some (.lst xs)/\NH (π C G) xs rs
 l1:1<=rs.length
 l4:rs.length<=4
 ok:∀ r∈rs,r.ok
 sm:(rs.map R0.Õ).sum<=20
theorem Sv.ext {C:Nat->Addr}{G G':Hp}{sv:Addr}{rs:List R0}(h:Sv C G sv rs)(x:Ext G G'):Sv C G' sv rs:=by
 obtain⟨xs,e,al⟩:=h.ex;exact⟨⟨xs,x _ _ e,al.mono λ _ _ r=>r.ext x⟩,h.l1,h.l4,h.ok,h.sm⟩
section
variable {P:Program}{w:World}{K:Frag}{mg:bv}{base:Heap}{C:Nat->Addr}{CR CN CS CT CM:Addr}{De:bY}{u:TS}{H:Hp}{sA p:Addr}{ns:List Int}{m:Int}{o3 o4 o5 o6 o7 o8 o9:Option V}
theorem Ar (sc:Sc K H sA p ns)(m1:1<=m)(m2:m<=20)(k:∀ sv rs H',Sc K H' sA p ns->Ext (wo H p) (wo H' p)->Sv C (wo H' p) sv rs->u De [some (.ref sA),some (.ref p),some (.int m),some (.ref sv),o4,o5,o6,o7,o8,o9] H') :
  aZ (zB K C) u De [some (.ref sA),some (.ref p),some (.int m),o3,o4,o5,o6,o7,o8,o9] H:=by
 refine aN (te:=aT (ag (gE (qH K C) [] E0 (ag (ar 0) (ag (ar 1) (ag (ar 2) aG)))) aG)) (i:=3) ?_;refine⟨_,rfl,_,rfl,_,rfl,sA,p,ns,m,rfl,sc,m1,m2,λ l r H1 ž x1 n1 row ok le=>⟨dA,λ sv OV=>?_⟩⟩;have x2:=Ext.new (o:=.lst [V.ref l]) OV;have g2:af H1 sv (.lst [V.ref l]) sv=some (.lst [V.ref l]):=aR;have nn:=ž.bx.ne OV;refine k sv [r] _ (ž.ext x2) (x1.trans (aL x2 p)) ⟨⟨_,bc nn g2,NH.nil.app (row.ext (aL x2 p))⟩,Ç _,(show 1<=4 by decide),λ r' h=>by rw [Ô.mp h];exact ok,?_⟩
 have:=(R0.Ĝ ok).2
 simpa using this
theorem F5 {i:Nat}{σ:St}{R:VK}(si:σ[i]?=some (some (.int m)))(m1:1<=m)(m2:m<=15)(k:∀ b H',Ext H H'->1<=b->4*b<=20->R (.int b) H'):Kp K i σ H R:=by
 refine⟨_,si,_,_,rfl,rfl,⟨ad,ad⟩,_,_,rfl,?_⟩;refine k _ _ (Ext.refl _) (by split <;> omega) (by split <;> omega)
theorem π.wt {H:Hp}{D:Addr}{ys:List V}{l:Addr}{r:R0}(h:π C (wo H p) (.ref l) r)(n:l≠D)(hD:H D=some (.lst ys)):π C (wt H p D) (.ref l) r:=by
 obtain⟨l',u,e,hl,ru⟩:=h;cases e;refine⟨l,u,rfl,bc n hl,ru.ġ λ a o e' nl=>?_⟩;exact bc (λ z=>by subst z;rw [ak _ _ _ _ e'] at hD;cases hD;exact nl _ rfl) e'
theorem B8 (sc:Sc K H sA p ns)(m1:1<=m)(m2:m<=15){sv:Addr}{rs:List R0}(hv:Sv C (wo H p) sv rs)(k:∀ sv rs o4 H',Sc K H' sA p ns->Ext (wo H p) (wo H' p)->Sv C (wo H' p) sv rs->u De [some (.ref sA),some (.ref p),some (.int m),some (.ref sv),o4,o5,o6,o7,o8,o9] H') :
  aZ (B5 K C) u De [some (.ref sA),some (.ref p),some (.int m),some (.ref sv),o4,o5,o6,o7,o8,o9] H:=by
 refine bH sc rfl rfl (λ R r=>r) ad ad λ z H1 z0 z3 ž k1=>⟨rfl,_,rfl,?_⟩;have xa:=aM k1;by_cases ez:z=0
 ·rw [Å (by rw [ez])]
  refine cQ ?_;refine aN (te:=lE (dI K (tC (.int 4)))) (i:=4) ?_;refine bH ž rfl rfl (λ R r=>r) ad ad λ y H2 y0 y4 Χ k2=>⟨_,_,rfl,rfl,?_⟩;have xb:=xa.trans (aM k2);refine⟨_,rfl,1+y,rfl,am,am,λ D hD=>?_⟩;have nD:=Χ.bx.ne hD;obtain⟨n,rfl⟩:∃ n:Nat,y=(n:Int):=⟨y.toNat,am⟩;have en:(1+(n:Int)).toNat=n+1:=am;rw [en];have Ug:wo H p D=none:=by
   cases e:wo H p D with
   | none=>rfl
   | some o=>have:=ak _ _ _ _ (xb _ _ e);rw [hD] at this;cases this
  refine kX (lo:=0) (n:=n+1) (λ i ys H'=>Sc K H' sA p ns/\Ext (wo H p) (wo H' p)/\∃ rs,rs.length=i/\NH (π C (wt H' p D)) ys rs/\∀ r∈rs,r.ok/\r.Õ <= 5) (by rw [Ö];omega) ?_ ?_ ?_
  ·have x3:=Ext.new (o:=.lst []) hD;exact⟨Χ.ext x3,xb.trans (aL x3 p),[],rfl,NH.nil,λ r h=>nomatch h⟩
  ·rintro i ys H' hi ly ĩ ⟨Lv,x',Uq,lr,al,good⟩ os ŋ R k';obtain⟨o0,rfl⟩:∃ o0,os=[o0]:=by
    match os,ŋ with
    | [o0],_=>exact⟨o0,rfl⟩
   refine⟨⟨[_],rfl,rfl⟩,_,rfl,_,rfl,?_⟩;refine F5 (i:=1) rfl m1 m2 λ b H5 x5 b1 b4=>⟨sA,p,ns,b,rfl,Lv.ext x5,b1,am,λ l r H6 OF x6 n6 row ok le=>?_⟩;have TJ:=bc nD (x5 _ _ ĩ);have Xp:H6 D=some (.lst ys):=ak _ _ _ _ (x6 _ _ TJ);have lD:l≠D:=λ e=>by rw [e,TJ] at n6;cases n6
   have x7:Ext (wt H' p D) (wt H6 p D):=aM (((aL x5 p).trans x6).kept D);have Ur:=row.wt lD Xp;have xf:Ext (wo H p) (wo (af H6 D (.lst (ys ++ [.ref l]))) p):=λ b o e=>by
    have n1:b≠D:=λ z=>by rw [z,Ug] at e;cases e
    have e2:=((x'.trans (aL x5 p)).trans x6) _ _ e;exact bc (hW e) (by rw [au n1];exact ak _ _ _ _ e2)
   refine k' _ H6 Xp ⟨sc.Tg xf (OF.bx.up nD),xf,Uq ++ [r],by rw [Ð,lr];rfl,?_,λ r' h=>?_⟩
   ·exact((al.mono λ _ _ q=>q.ext x7).app Ur).mono λ _ _ q=>q.ext nu
   ·rcases Ġ.mp h with h | h
    ·exact good r' h
    ·rw [Ô.mp h];exact⟨ok,am⟩
  ·rintro ys H' ly ĩ ⟨Lv,x',Uq,lr,al,good⟩;refine k D Uq _ H' Lv x' ⟨⟨ys,bc nD ĩ,al.mono λ _ _ q=>q.ext (ak _ _)⟩,am,am,λ r h=>(good r h).1,?_⟩;have:=lc (m:=5) λ r h=>(good r h).2;omega
 ·rw [É (λ h=>ez (V.int.inj h))];exact cE (k sv rs _ H1 ž xa (hv.ext xa))
end
abbrev Bk:=Str × List Int
def oK (b:Bk):PyData:=.tuple [.str b.1,IT b.2]
def fX (rs:List R0):List Bk:=(rs.map R0.word).zip (cK 0 (rs.map R0.Õ))
def io (m:Int)(B:List Bk):List Bk:=B.map λ b=>(b.1,b.2.filter λ x=>decide (x<m))
def gO (B:List Bk):List Bk:=B.filter λ b=>!b.2.isEmpty
def Rl.bl:Rl->List Bk
 | .one r=>[(r.word,dR 0 r.Õ.toNat)]
 | .blocks rs=>fX rs
 | .first t m=>gO (io m t.bl)
theorem sT (rs:List R0):(fX rs).length=rs.length:=by
 unfold fX;rw [List.length_zip,Ä,fh,Ä,Nat.min_self]
theorem ue (rs:List R0)(r:R0):fX (rs ++ [r])=fX rs ++ [(r.word,dR ((rs.map R0.Õ).sum) r.Õ.toNat)]:=by
 unfold fX;rw [Ï,Ï];show((rs.map R0.word) ++ [r.word]).zip (cK 0 (rs.map R0.Õ ++ [r.Õ]))=_;rw [jo,List.zip_append (by rw [Ä,fh,Ä])]
 rw [j'];rfl
theorem zl {lo:Int}{n:Nat}(h:1<=n):dR lo n ≠ []:=λ e=>by
 have:=Ğ List.length e;unfold dR at this;rw [Ä,List.length_range] at this;simp at this;omega
theorem qi:∀(ns:List Int)(s:Int),(∀ n∈ns,1<=n)->∀ p∈cK s ns,p ≠ []
 | [],_,_,p,h=>nomatch h
 | n::ns,s,h,p,hp=>by
  rcases ç.mp hp with rfl | hp
  ·exact zl (by have:=h n (î ..);omega)
  ·exact qi ns (s+n) (λ x hx=>h x (ã _ hx)) p hp
theorem tj {rs:List R0}(ok:∀ r∈rs,r.ok):gO (fX rs)=fX rs:=by
 unfold gO;rw [List.filter_eq_self];intro b hb;have h2:b.2∈cK 0 (rs.map R0.Õ):=(ś hb).2;have:=qi _ 0 (λ n hn=>by
  obtain⟨r,hr,rfl⟩:=ć.mp hn;exact(R0.Ĝ (ok r hr)).1) _ h2
 cases e:b.2 with
 | nil=>exact absurd e this
 | cons _ _=>rfl
section
variable {P:Program}{w:World}{K:Frag}{mg:bv}{base:Heap}{C:Nat->Addr}{CR CN CS CT CM:Addr}{De:bY}{u:TS}{H:Hp}{sA p:Addr}{ns:List Int}{m:Int}{o0 o1 o2 o3 o4 o5 o6 o7 o8 o9:Option V}
theorem sQ {G:Hp}{x:V}{b:Bk}(r:Ĉ G x (oK b)):∃ a l,x=.ref a/\G a=some (.tup [.str b.1,.ref l])/\G l=some (.lst (b.2.map V.int)):=by
 obtain⟨a,xs,rfl,ha,rs⟩:=lA r;cases rs with
 | cons r1 rs =>
  cases rs with
  | cons r2 rs =>
   cases rs;cases r1;cases r2 with
   | lst hl ra=>exact⟨a,_,rfl,ha,by rw [<- lJ ra];exact hl⟩
theorem uj {G:Hp}{a l:Addr}{b:Bk}(ha:G a=some (.tup [.str b.1,.ref l]))(hl:G l=some (.lst (b.2.map V.int))):Ĉ G (.ref a) (oK b):=.tup ha (.cons (.str _) (.cons (.lst hl (fc G _)) .nil))
theorem Bw (sc:Sc K H sA p ns){sv:Addr}{rs:List R0}(hv:Sv C (wo H p) sv rs)(k:∀ bl ys o7 o8 o9 H',Sc K H' sA p ns->Ext (wo H p) (wo H' p)->wo H' p bl=some (.lst ys)->Ñ (wo H' p) ys ((fX rs).map oK)->u De [some (.ref sA),some (.ref p),o2,some (.ref sv),o4,some (.ref bl),some (.int (rs.map R0.Õ).sum),o7,o8,o9] H') :
  aZ (cV (aT aG) (bF 5)) (aZ (cV (tC (.int 0)) (bF 6)) (aZ (we K) u)) De [some (.ref sA),some (.ref p),o2,some (.ref sv),o4,o5,o6,o7,o8,o9] H:=by
 refine aN (te:=aT aG) (i:=5) ⟨dA,λ bl V1=>?_⟩;have x1:=Ext.new (o:=.lst []) V1;have g1:af H bl (.lst []) bl=some (.lst []):=aR;have nb:=sc.bx.ne V1;refine aN (te:=tC (.int 0)) (i:=6) ?_;show aZ (we K) u De [some (.ref sA),some (.ref p),o2,some (.ref sv),o4,some (.ref bl),some (.int 0),o7,o8,o9] (af H bl (.lst []));have ž:=sc.ext x1;generalize af H bl (.lst [])=H1 at x1 g1 ž ⊢;obtain⟨xs,OV,al⟩:=hv.ex;have l4:=hv.l4;have Z2:wo H p bl=none:=by
  cases e:wo H p bl with
  | none=>rfl
  | some o=>have:=ak _ _ _ _ e;rw [V1] at this;cases this
 refine⟨_,rfl,sv,rfl,⟨xs,ó.of (x1 _ _ (ak _ _ _ _ OV))⟩,ig (xs:=xs) (λ i σ H'=>∃ ys o7 o8 o9,σ=[some (.ref sA),some (.ref p),o2,some (.ref sv),o4,some (.ref bl),some (.int ((rs.take i).map R0.Õ).sum),o7,o8,o9]/\Sc K H' sA p ns/\Ext (wo H p) (wo H' p)/\H' bl=some (.lst ys)/\ys.length=i/\Ñ (wt H' p bl) ys ((fX (rs.take i)).map oK)) ⟨[],_,_,_,rfl,ž,aL x1 p,g1,rfl,.nil⟩ ?_ ?_ ?_⟩
 ·rintro i σ H' _ ⟨ys,o7,o8,o9,rfl,Lv,x',_⟩;exact ó.of (ak _ _ _ _ (x' _ _ OV))
 ·rintro i x σ H' ex ⟨ys,o7,o8,o9,rfl,Lv,x',hb,ly,ra⟩;obtain⟨r,er,l,uu,rfl,hl,ru⟩:=al.at ex;have li:i<xs.length:=(Ë.mp ex).1;have lxr:=al.1;have Us:=R0.Ĝ (hv.ok r (ê er));have smb:0<=((rs.take i).map R0.Õ).sum/\((rs.take i).map R0.Õ).sum<=80:=by
   refine⟨fu λ n hn=>?_,?_⟩
   ·obtain⟨r',Qo,rfl⟩:=ć.mp hn;have:=R0.Ĝ (hv.ok r' (Ź Qo));omega
   ·have h1:=lc (m:=20) (rs:=rs.take i) λ r' Qo=>(R0.Ĝ (hv.ok r' (Ź Qo))).2;have:(rs.take i).length<=4:=by rw [Đ];omega
    omega
  refine⟨l,_,rfl,ó.of (ak _ _ _ _ (x' _ _ hl)),rfl,_,_,rfl,_,_,rfl,_,_,rfl,rfl,?_⟩;show yo K _ [some (.ref sA),some (.ref p),o2,some (.ref sv),o4,some (.ref bl),some (.int ((rs.take i).map R0.Õ).sum),some (.str r.word),some uu,some (.int r.Õ)] H';refine⟨_,rfl,.inl ⟨rfl,_,ó.of hb⟩,_,rfl,_,rfl,_,rfl,_,rfl,_,_,rfl,rfl,_,_,rfl,λ rg hrg=>?_⟩;have x2:=Ext.new (o:=.Mb ((rs.take i).map R0.Õ).sum (((rs.take i).map R0.Õ).sum+r.Õ)) hrg;have g2:af H' rg (.Mb ((rs.take i).map R0.Õ).sum (((rs.take i).map R0.Õ).sum+r.Õ)) rg=some (.Mb ((rs.take i).map R0.Õ).sum (((rs.take i).map R0.Õ).sum+r.Õ)):=aR;have Χ:=Lv.ext x2;have PU:=x2 _ _ hb;generalize af H' rg (.Mb ((rs.take i).map R0.Õ).sum (((rs.take i).map R0.Õ).sum+r.Õ))=H2 at x2 g2 Χ PU ⊢;refine⟨rg,_,_,rfl,g2,am,am,λ pl Κ=>?_⟩;have ef:(((rs.take i).map R0.Õ).sum+r.Õ - ((rs.take i).map R0.Õ).sum).toNat=r.Õ.toNat:=by congr 1;omega
  rw [ef,oU];have x3:=Ext.new (o:=.lst ((dR ((rs.take i).map R0.Õ).sum r.Õ.toNat).map V.int)) Κ;have g3:af H2 pl (.lst ((dR ((rs.take i).map R0.Õ).sum r.Õ.toNat).map V.int)) pl=some (.lst ((dR ((rs.take i).map R0.Õ).sum r.Õ.toNat).map V.int)):=aR;have Δ:=Χ.ext x3;have np3:=Χ.bx.ne Κ;have nb3:pl≠bl:=λ e=>by rw [e,PU] at Κ;cases Κ
  have V2:=x3 _ _ PU;generalize af H2 pl (.lst ((dR ((rs.take i).map R0.Õ).sum r.Õ.toNat).map V.int))=H3 at x3 g3 Δ V2 ⊢;refine⟨dA,λ t ht=>?_⟩;have x4:=Ext.new (o:=.tup [.str r.word,.ref pl]) ht;have g4:af H3 t (.tup [.str r.word,.ref pl]) t=some (.tup [.str r.word,.ref pl]):=aR;have Lu:=Δ.ext x4;have np4:=Δ.bx.ne ht;have nb4:t≠bl:=λ e=>by rw [e,V2] at ht;cases ht
  have Xl:=x4 _ _ V2;have TL:=x4 _ _ g3;generalize af H3 t (.tup [.str r.word,.ref pl])=H4 at x4 g4 Lu Xl TL ⊢;have xx:=(x2.trans x3).trans x4;have xf:Ext (wo H p) (wo (af H4 bl (.lst (ys ++ [.ref t]))) p):=λ b o e=>by
   have n1:b≠bl:=λ z=>by rw [z,Z2] at e;cases e
   have e2:=(x'.trans (aL xx p)) _ _ e;exact bc (hW e) (by rw [au n1];exact ak _ _ _ _ e2)
  refine⟨bl,ys,.ref t,rfl,rfl,Xl,by rw [Ö];omega,?_⟩
  refine⟨_,rfl,_,rfl,_,_,rfl,rfl,ys ++ [.ref t],some (.str r.word),some uu,some (.int r.Õ),?_,sc.Tg xf (Lu.bx.up nb),xf,aR,by rw [Ð,ly];rfl,?_⟩
  ·have et:((rs.take (i+1)).map R0.Õ).sum=((rs.take i).map R0.Õ).sum+r.Õ:=by
    rw [aQ er,Ï,ł];simp
   rw [et];rfl
  ·rw [aQ er,ue,Ï];refine((ra.mono (nK xx p bl)).append (.cons ?_ .nil)).mono nu;exact uj (b:=(r.word,dR ((rs.take i).map R0.Õ).sum r.Õ.toNat)) (iT np4 nb4 g4) (iT np3 nb3 TL)
 ·rintro σ H' ⟨ys,o7,o8,o9,rfl,Lv,x',hb,ly,ra⟩;rw [al.1,ä] at ra ⊢;exact k bl ys _ _ _ H' Lv x' (bc nb hb) (ra.mono (ak _ _))
end
section
variable {K:Frag}{te:TE}{tt:TT}{cap:St}{D:Addr}{H1:Hp}{Q:Hp->Prop}{a:Addr}{xs:List V}
theorem wg (p:V->Bool)(hz:xs.length<sizeLine)(h1:H1 a=some (.lst xs))(hD:H1 D=none)
  (hs:∀(i:Nat) x H,xs[i]?=some x->Ext H1 H->∀ R:Bool->Hp->Prop,R (p x) H->tt (some x::cap) H R)
  (hd:∀ H,Ext H1 H->H D=some (.lst (xs.filter p))->Q H) :
  ∃ W:Nat->Nat->List V->Hp->Prop,(∃ m,W 0 m [] (af H1 D (.lst []))) /\
   ∀ i m ys H2,W i m ys H2->H2 D=some (.lst ys)/\(((jZ K a).stop i H2/\Q H2)\/((jZ K a).go i H2/\ys.length<sizeLine /\
    ∀ x H3,(jZ K a).L_ i H2 x H3->tt (some x::cap) H3 λ b H0=>(b=false->∃ m',m'<m/\W (i+1) m' ys H0) /\
     (b=true->ar 0 (some x::cap) H0 λ y H4=>H4 D=some (.lst ys)/\∃ m',m'<m/\W (i+1) m' (ys ++ [y]) (af H4 D (.lst (ys ++ [y])))))):=by
 refine⟨λ i m ys H=>m=xs.length-i/\i<=xs.length/\ys.length<=i/\H D=some (.lst ys)/\Ext H1 H/\ys=(xs.take i).filter p,⟨xs.length,by simp,Nat.zero_le _,Nat.le_refl _,aR,Ext.new hD,rfl⟩,?_⟩
 rintro i m ys H ⟨rfl,hi,hy,MO,x',ey⟩;refine⟨MO,?_⟩;have q:ó K H a xs:=ó.of (x' _ _ h1);by_cases ſ:i<xs.length
 ·refine .inr ⟨⟨xs,xs[i],q,by simp [ſ]⟩,am,λ x H' y=>?_⟩
  obtain⟨e,y⟩:=y;subst e;have ex:=y xs q;have et:(xs.take (i+1)).filter p=(xs.take i).filter p++(if p x then [x] else []):=by
   rw [aQ ex,ī,Ě,q_]
  refine hs i x _ ex x' _ ⟨λ b=>⟨xs.length-(i+1),am,rfl,ſ,am,MO,x',?_⟩,λ b=>⟨x,rfl,MO,xs.length-(i+1),am,rfl,ſ,by rw [Ð];show ys.length+1<=i+1;omega,aR,bz _ x' hD,?_⟩⟩
  ·rw [et,b,ey];simp
  ·rw [et,b,ey];simp
 ·have e:i=xs.length:=am;subst e;rw [ä] at ey;subst ey;exact .inl ⟨⟨xs,q,Ç _⟩,hd H x' MO⟩
theorem tL (p:V->Bool)(hz:xs.length<sizeLine)(h1:H1 a=some (.lst xs))(hD:H1 D=none)
  (hs:∀(i:Nat) x H,xs[i]?=some x->Ext H1 H->∀ R:Bool->Hp->Prop,R (p x) H->tt (some x::cap) H R)
  (hd:∀ H,Ext H1 H->H D=some (.lst (xs.filter p))->Q H) :
  ∃ W:Nat->Nat->List V->Hp->Prop,(∃ m,W 0 m [] (af H1 D (.lst []))) /\
   ∀ i m ys H2,W i m ys H2->H2 D=some (.lst ys)/\(((jZ K a).stop i H2/\Q H2)\/((jZ K a).go i H2/\ys.length<sizeLine /\
    ∀ x H3,(jZ K a).L_ i H2 x H3->∀ os:St,os.length=1->bF 0 x (os++cap) H3 λ İ H0=>(∃ ŀ:St,ŀ.length=1/\İ = ŀ ++ cap)/\tt İ H0 λ b H5=>(b=false->∃ m',m'<m/\W (i+1) m' ys H5) /\
     (b=true->ar 0 İ H5 λ y H4=>H4 D=some (.lst ys)/\∃ m',m'<m/\W (i+1) m' (ys ++ [y]) (af H4 D (.lst (ys ++ [y])))))):=by
 obtain⟨W,w0,turn⟩:=wg (K:=K) (tt:=tt) (cap:=cap) (D:=D) (H1:=H1) (Q:=Q) p hz h1 hD hs hd;refine⟨W,w0,λ i m ys H2 w=>?_⟩;obtain⟨MB,alt⟩:=turn i m ys H2 w;refine⟨MB,?_⟩;rcases alt with a | ⟨go,hl,st⟩
 ·exact .inl a
 ·refine .inr ⟨go,hl,λ x H3 y os ŋ=>?_⟩;obtain⟨o,rfl⟩:∃ o,os=[o]:=by
   match os,ŋ with
   | [o],_=>exact⟨o,rfl⟩
  exact⟨⟨[some x],rfl,rfl⟩,st x H3 y⟩
end
def Rl.plain1:Rl->Prop
 | .first _ _=>False
 | _=>True
def Rl.flat:Rl->Prop
 | .first t _=>t.plain1
 | _=>True
theorem Ru.wo {C:Nat->Addr}{H:Hp}{p:Addr}{t:Rl}{v:V}(h:Ru C H t v)(b:ħ H p):Ru C (wo H p) t v:=h.ġ λ a o e n=>by
 obtain⟨_,_,_,hp,_⟩:=b.ex;exact bc (λ z=>by subst z;rw [hp] at e;cases e;exact n _ rfl) e
section
variable {P:Program}{w:World}{K:Frag}{mg:bv}{base:Heap}{C:Nat->Addr}{CR CN CS CT CM:Addr}{De:bY}{u:TS}{H:Hp}{sA p:Addr}{ns:List Int}{m:Int}{o0 o1 o2 o3 o4 o5 o6 o7 o8 o9:Option V}
theorem By {σ:St}{sv:Addr}{rs:List R0}{Q:VK}(s3:σ[3]?=some (some (.ref sv)))(hv:Sv C (wo H p) sv rs)(k:∀ x H',Ext H H'->Ru C H' (.blocks rs) (.ref x)->Q (.ref x) H'):c6 (C 3) (kT K C CT CM) [] E0 (ag (fZ (cO K (ar 3)) 1 [] (bF 0) (xB K)) aG) σ H Q:=by
 obtain⟨xs,OV,al⟩:=hv.ex;have l4:=hv.l4;have lx:=al.1;refine⟨_,s3,sv,rfl,⟨xs,ó.of (ak _ _ _ _ OV)⟩,λ D hD=>?_⟩;refine cI (a:=sv) (xs:=xs) (λ i ys H'=>Ext H H'/\ρ C (wo H p) (rs.take i) ys) (by rw [Ö];omega) ⟨Ext.new hD,rfl,λ i r w h=>by simp at h⟩ (λ i ys H' pv=>ó.of (pv.1 _ _ (ak _ _ _ _ OV))) ?_ ?_
 ·rintro i x ys H' ex ly ĩ ⟨x',all⟩ os ŋ R k';obtain⟨o0,rfl⟩:∃ o0,os=[o0]:=by
   match os,ŋ with
   | [o0],_=>exact⟨o0,rfl⟩
  obtain⟨r,er,l,uu,rfl,hl,ru⟩:=al.at ex;refine⟨⟨[some (.ref l)],rfl,rfl⟩,_,rfl,l,_,_,_,rfl,rfl,ó.of (x' _ _ (ak _ _ _ _ hl)),gS (j:=1) rfl,?_⟩;refine k' _ H' ĩ ⟨bz _ x' hD,?_⟩;rw [aQ er];exact sE all ru
 ·rintro ys H' ly ĩ ⟨x',all⟩;rw [lx,ä] at all;refine λ x dx hx hd ne=>pK hx hd ne ĩ (all.ext ((ak _ _).trans x')) ⟨hv.l1,am,hv.ok,hv.sm⟩ λ H2 x2 ru=>⟨rfl,k x H2 (x'.trans x2) ru⟩
theorem Ce (sc:Sc K H sA p ns){sv:Addr}{rs:List R0}(hv:Sv C (wo H p) sv rs)(k:∀ v t H',Sc K H' sA p ns->Ext (wo H p) (wo H' p)->Ru C (wo H' p) t v->t.plain1->t.ok->t.bl=fX rs->t.Õ =(rs.map R0.Õ).sum->u De [some (.ref sA),some (.ref p),o2,some (.ref sv),o4,o5,o6,o7,some v,o9] H') :
  aZ (Ak K) (aZ (xF K C CT CM) u) De [some (.ref sA),some (.ref p),o2,some (.ref sv),o4,o5,o6,o7,o8,o9] H:=by
 obtain⟨xs,OV,al⟩:=hv.ex;have lx:=al.1;have l1:=hv.l1;have l0:0<xs.length:=am;obtain⟨r0,er0,l,uu,e0,hl,ru⟩:=al.at (Â l0);refine aN (te:=aS (cX K) (aS (cX K) (ar 3) (tC (.int 0))) (tC (.int 1))) (i:=8) ?_;refine⟨_,rfl,sv,_,_,_,rfl,rfl,ó.of (ak _ _ _ _ OV),gS (j:=0) (Â l0),l,_,_,_,e0,rfl,ó.of (ak _ _ _ _ hl),gS (j:=1) rfl,?_⟩;show aZ (xF K C CT CM) u De [some (.ref sA),some (.ref p),o2,some (.ref sv),o4,o5,o6,o7,some uu,o9] H;have many:∀(H1:Hp)(o8:Option V)(TY:bY),TY.nx=u De->Sc K H1 sA p ns->Ext (wo H p) (wo H1 p)->cV (c6 (C 3) (kT K C CT CM) [] E0 (ag (fZ (cO K (ar 3)) 1 [] (bF 0) (xB K)) aG)) (bF 8) TY [some (.ref sA),some (.ref p),o2,some (.ref sv),o4,o5,o6,o7,o8,o9] H1:=by
  intro H1 o8 TY Pm ž x1;refine By (p:=p) rfl (hv.ext x1) λ x H2 x2 ru2=>?_;show TY.nx [some (.ref sA),some (.ref p),o2,some (.ref sv),o4,o5,o6,o7,some (.ref x),o9] H2;rw [Pm];have l4:=hv.l4;exact k (.ref x) (.blocks rs) H2 (ž.ext x2) (x1.trans (aL x2 p)) (ru2.wo (ž.ext x2).bx) trivial ⟨hv.l1,am,hv.ok,hv.sm⟩ rfl rfl
 refine⟨_,rfl,sv,xs,rfl,.inl (ó.of (ak _ _ _ _ OV)),_,_,rfl,rfl,_,rfl,?_⟩;by_cases hx:((xs.length:Nat):Int)>1
 ·rw [Å hx];exact cQ (cQ (many H _ _ rfl sc (Ext.refl _)))
 ·rw [É hx];refine cE (bH sc rfl rfl (λ R r=>r) ad ad λ z H1 z0 z3 ž k1=>⟨rfl,_,rfl,?_⟩);by_cases ez:z=0
  ·rw [Å (by rw [ez])]
   exact cQ (many H1 _ _ rfl ž (aM k1))
  ·rw [É (λ h=>ez (V.int.inj h))];have er:rs=[r0]:=by
    match rs,er0,(by omega:rs.length=1) with
    | [r],e,_=>cases e;rfl
   subst er;refine cE (k uu (.one r0) H1 ž (aM k1) (ru.ext (aM k1)) trivial (hv.ok r0 (Ô.mpr rfl)) ?_ ?_)
   ·show [(r0.word,dR 0 r0.Õ.toNat)]=fX [r0];rfl
   ·show r0.Õ =([r0].map R0.Õ).sum;simp
def Kg (m:Int):V->Bool
 | .int i=>decide (i<m)
 | _=>false
theorem zO {bl:Addr}{ys:List V}{B:List Bk}{Q:VK}{σ:St}(s5:σ[5]?=some (some (.ref bl)))(s4:σ[4]?=some (some (.int m)))(b:ħ H p)(hb:wo H p bl=some (.lst ys))(ra:Ñ (wo H p) ys (B.map oK))(l6:B.length<=6)(LI:∀ b∈B,b.2.length<=20)(k:∀ D zs H',Ext H H'->wo H' p D=some (.lst zs)->Ñ (wo H' p) zs ((io m B).map oK)->Q (.ref D) H') :
  fZ (cO K (ar 5)) 2 [4] (xn K) (vo K) σ H Q:=by
 have ly:=ra.length;rw [Ä] at ly;refine⟨_,s5,bl,rfl,⟨ys,ó.of (ak _ _ _ _ hb)⟩,λ D hD=>?_⟩;have nD:=b.ne hD;have ec:dh [4] σ=[some (.int m)]:=by unfold dh;rw [ô,s4];rfl
 rw [ec];refine cI (a:=bl) (xs:=ys) (λ i zs H'=>Ext H H'/\Ñ (wt H' p D) zs ((io m (B.take i)).map oK)) (by rw [Ö];omega) ⟨Ext.new hD,.nil⟩ (λ i zs H' pv=>ó.of (pv.1 _ _ (ak _ _ _ _ hb))) ?_ ?_
 ·rintro i x zs H' ex lz ĩ ⟨x',rz⟩ os ŋ R k';obtain⟨o0,o1,rfl⟩:∃ o0 o1,os=[o0,o1]:=by
   match os,ŋ with
   | [o0,o1],_=>exact⟨o0,o1,rfl⟩
  obtain⟨d,ed,rd⟩:=ra.get ex;rw [Ò] at ed;obtain⟨bk,ebk,rfl⟩:=á.mp ed;obtain⟨a,l,rfl,ha,hl⟩:=sQ rd;have lb:=LI bk (ê ebk);refine⟨a,_,rfl,ĥ.of (x' _ _ (ak _ _ _ _ ha)),rfl,_,_,rfl,_,_,rfl,rfl,⟨[some (.str bk.1),some (.ref l)],rfl,rfl⟩,_,rfl,?_⟩;refine⟨_,rfl,l,rfl,⟨_,ó.of (x' _ _ (ak _ _ _ _ hl))⟩,λ D2 MB=>?_⟩;refine tL (a:=l) (Kg m) (by rw [Ö,Ä];omega) (x' _ _ (ak _ _ _ _ hl)) MB ?_ ?_
  ·rintro j v H2 ev x2 R2 r2;rw [Ò] at ev;obtain⟨n,en,rfl⟩:=á.mp ev;exact⟨_,rfl,_,rfl,_,_,rfl,rfl,_,rfl,r2⟩
  ·intro H2 x2 SM;rw [eJ (λ x=>decide (x<m)) (Kg m) (λ _=>rfl)] at SM;have nD2:D2≠D:=λ e=>by rw [e,ĩ] at MB;cases MB
   have b2:=b.ext x';have UT:=b2.ne MB;refine⟨dA,λ t ht=>?_⟩;have x3:=Ext.new (o:=.tup [.str bk.1,.ref D2]) ht;have g3:af H2 t (.tup [.str bk.1,.ref D2]) t=some (.tup [.str bk.1,.ref D2]):=aR;have UP:t≠D:=λ e=>by rw [e,x2 _ _ ĩ] at ht;cases ht
   have UO:=(b2.ext x2).ne ht;generalize af H2 t (.tup [.str bk.1,.ref D2])=H3 at x3 g3 ⊢;have N5:=x2.trans x3;refine k' _ H3 (N5 _ _ ĩ) ⟨bz _ (x'.trans N5) hD,?_⟩;have et:io m (B.take (i+1))=io m (B.take i) ++ [(bk.1,bk.2.filter λ x=>decide (x<m))]:=by
    unfold io;rw [aQ ebk,Ï];rfl
   rw [et,Ï];refine((rz.mono (nK N5 p D)).append (.cons ?_ .nil)).mono nu;exact uj (b:=(bk.1,bk.2.filter λ x=>decide (x<m))) (iT UO UP g3) (iT UT nD2 (x3 _ _ SM))
 ·rintro zs H' lz ĩ ⟨x',rz⟩;rw [ly,ä] at rz;exact k D zs H' x' (bc nD ĩ) (rz.mono (ak _ _))
theorem xO {σ:St}{te:TE}{g:TG}(h:te σ H λ x H1=>g x σ H1 De.nx):cV te g De σ H:=h
theorem B6 (sc:Sc K H sA p ns){bl:Addr}{ys:List V}{rs:List R0}{t:Rl}{v:V}(ru:Ru C (wo H p) t v)(pl:t.plain1)(ok:t.ok)(eb:t.bl=fX rs)(Us:∀ r∈rs,r.ok)(l4:rs.length<=4)(hb:wo H p bl=some (.lst ys))(ra:Ñ (wo H p) ys ((fX rs).map oK))
  (k:∀ v t o4 bl ys B H',Sc K H' sA p ns->Ext (wo H p) (wo H' p)->Ru C (wo H' p) t v->t.flat->t.ok->B.length<=4->(∀ b∈B,b.2.length<=20)->wo H' p bl=some (.lst ys)->Ñ (wo H' p) ys (B.map oK)->gO B=t.bl->u De [some (.ref sA),some (.ref p),o2,o3,o4,some (.ref bl),o6,o7,some v,o9] H')(s6:o6=some (.int t.Õ)) :
  aZ (CP K C CN) u De [some (.ref sA),some (.ref p),o2,o3,o4,some (.ref bl),o6,o7,some v,o9] H:=by
 subst s6;have fk:=Rl.Ĝ ok;have lB:(fX rs).length<=4:=by rw [sT];exact l4
 have LI:∀ b∈fX rs,b.2.length<=20:=λ b hb=>jJ _ 0 (λ n hn=>by
  obtain⟨r,hr,rfl⟩:=ć.mp hn;exact(R0.Ĝ (Us r hr)).2) _ (ś hb).2
 refine bH sc rfl rfl (λ R r=>r) ad ad λ z H1 z0 z3 ž k1=>⟨rfl,_,rfl,?_⟩;have xa:=aM k1;by_cases ez:z=0
 ·rw [Å (by rw [ez])]
  refine cQ ?_;refine aN (te:=dI K (aS (eO λ i j=>.int (i+j)) (ar 6) (tC (.int 1)))) (i:=4) ?_;refine bH (m:=t.Õ + 1) ž rfl rfl (λ R r=>⟨_,rfl,_,_,rfl,rfl,r⟩) am am λ y H2 y0 ym Χ k2=>?_;have xb:=xa.trans (aM k2);refine aN (te:=c6 (C 4) (nU C CN) [] E0 (ag (ar 8) (ag (ar 4) aG))) (i:=8) ?_;have WR:(Rl.first t y).ok:=⟨ok,y0,am⟩;refine⟨_,rfl,_,rfl,λ x dx hx hd ne=>qZ hx hd ne ((ru.ext xb).ext (ak _ _)) WR λ H3 x3 Tq=>⟨rfl,?_⟩⟩;have Δ:=Χ.ext x3;have xc:=xb.trans (aL x3 p);refine xO (te:=fZ (cO K (ar 5)) 2 [4] (xn K) (vo K)) (g:=bF 5) ?_;refine zO (p:=p) (m:=y) rfl rfl Δ.bx (xc _ _ hb) (ra.mono xc) am LI λ D zs H4 x4 hD rz=>?_;have Lu:=Δ.ext x4;refine k (.ref x) (.first t y) (some (.int y)) D zs (io y (fX rs)) H4 Lu (xc.trans (aL x4 p)) ((Tq.wo Δ.bx).ext (aL x4 p)) pl WR (by unfold io;rw [Ä];exact lB) (λ b hb=>?_) hD rz (by show _=gO (io y t.bl);rw [eb])
  obtain⟨b',hb',rfl⟩:=ć.mp hb;exact é (Ĭ _ _) (LI b' hb')
 ·rw [É (λ h=>ez (V.int.inj h))];refine cE (k v t _ bl ys (fX rs) H1 ž xa (ru.ext xa) ?_ ok lB LI (xa _ _ hb) (ra.mono xa) (by rw [tj Us,eb]))
  cases t with
  | one r=>trivial
  | blocks rs=>trivial
  | first t m=>exact pl.elim
theorem Bd (sc:Sc K H sA p ns){bl:Addr}{ys:List V}{B:List Bk}{v:V}(l4:B.length<=4)(LI:∀ b∈B,b.2.length<=20)(hb:wo H p bl=some (.lst ys))(ra:Ñ (wo H p) ys (B.map oK))
  (k:∀ a D zs H',Ext H H'->H D=none->wo H' p a=some (.tup [v,.ref D])->wo H' p D=some (.lst zs)->Ñ (wo H' p) zs ((gO B).map oK)->De.rt (.ref a) H'):zw K De [o0,o1,o2,o3,o4,some (.ref bl),o6,o7,some v,o9] H:=by
 have ly:=ra.length;rw [Ä] at ly;refine⟨_,rfl,_,rfl,bl,rfl,⟨ys,ó.of (ak _ _ _ _ hb)⟩,λ D hD=>?_⟩;have nD:=sc.bx.ne hD;refine qU (a:=bl) (xs:=ys) (λ i zs H'=>Ext H H'/\Ñ (wt H' p D) zs ((gO (B.take i)).map oK)) (by rw [Ö];omega) ⟨Ext.new hD,.nil⟩ (λ i zs H' pv=>ó.of (pv.1 _ _ (ak _ _ _ _ hb))) ?_ ?_
 ·rintro i x zs H' ex lz ĩ ⟨x',rz⟩ os ŋ N kN;obtain⟨o0,o1,rfl⟩:∃ o0 o1,os=[o0,o1]:=by
   match os,ŋ with
   | [o0,o1],_=>exact⟨o0,o1,rfl⟩
  obtain⟨d,ed,rd⟩:=ra.get ex;rw [Ò] at ed;obtain⟨bk,ebk,rfl⟩:=á.mp ed;obtain⟨a,l,rfl,ha,hl⟩:=sQ rd;refine⟨a,_,rfl,ĥ.of (x' _ _ (ak _ _ _ _ ha)),rfl,_,_,rfl,_,_,rfl,rfl,⟨[some (.str bk.1),some (.ref l)],rfl,rfl⟩,_,rfl,dA,λ q hq=>?_⟩;have x2:=Ext.new (o:=.lst []) hq;have g2:af H' q (.lst []) q=some (.lst []):=aR;generalize af H' q (.lst [])=H2 at x2 g2 ⊢;have et:gO (B.take (i+1))=gO (B.take i)++(if(!bk.2.isEmpty)=true then [bk] else []):=by
   unfold gO;rw [aQ ebk,ī,Ě,q_]
  refine⟨l,q,_,rfl,rfl,ó.of (x2 _ _ (x' _ _ (ak _ _ _ _ hl))),ó.of g2,_,rfl,?_⟩;have ee:(bk.2.map V.int).isEmpty=bk.2.isEmpty:=by cases bk.2 <;> rfl
  rw [ee];refine⟨λ hf=>kN zs H2 ⟨x'.trans x2,?_⟩ am (x2 _ _ ĩ),λ ht=>?_⟩
  ·rw [et,Ø (by rw [hf];decide),ă]
   exact rz.mono (nK x2 p D)
  ·refine⟨_,rfl,_,rfl,dA,λ tt Tz=>?_⟩;have x3:=Ext.new (o:=.tup [.str bk.1,.ref l]) Tz;have g3:af H2 tt (.tup [.str bk.1,.ref l]) tt=some (.tup [.str bk.1,.ref l]):=aR;have UP:tt≠D:=λ e=>by rw [e,x2 _ _ ĩ] at Tz;cases Tz
   have UO:=(sc.bx.ext (x'.trans x2)).ne Tz;generalize af H2 tt (.tup [.str bk.1,.ref l])=H3 at x3 g3 ⊢;have N5:=x2.trans x3;have V4:=N5 _ _ ĩ;refine⟨V4,kN _ _ ⟨bz _ (x'.trans N5) hD,?_⟩ (by rw [Ð];show zs.length+1<=i+1;omega) aR⟩
   have lD:l≠D:=λ e=>by rw [e] at hl;have:=ak _ _ _ _ hl;rw [hD] at this;cases this
   rw [et,à ht,Ï];refine((rz.mono (nK N5 p D)).append (.cons ?_ .nil)).mono nu;exact uj (b:=bk) (iT UO UP g3) (iT (hW hl) lD (N5 _ _ (x' _ _ (ak _ _ _ _ hl))))
 ·rintro zs H' lz ĩ ⟨x',rz⟩;rw [ly,ä] at rz;refine⟨dA,λ a ha=>?_⟩;have x3:=Ext.new (o:=.tup [v,.ref D]) ha;have g3:af H' a (.tup [v,.ref D]) a=some (.tup [v,.ref D]):=aR;have nap:=(sc.bx.ext x').ne ha;exact k a D zs _ (x'.trans x3) hD (bc nap g3) (bc nD (x3 _ _ ĩ)) ((rz.mono (ak _ _)).mono (aL x3 p))
def At (K:Frag)(C:Nat->Addr):Sp:=λ vs H Q _=>∃(s p:Addr)(ns:List Int)(m:Int),vs=[.ref s,.ref p,.int m]/\Sc K H s p ns/\1<=m/\m<=15/\∀ a v D zs t H',Sc K H' s p ns->Ext (wo H p) (wo H' p)->wo H p D=none->wo H' p a=some (.tup [v,.ref D])->Ru C (wo H' p) t v->t.flat->t.ok->wo H' p D=some (.lst zs)->Ñ (wo H' p) zs (t.bl.map oK)->Q (.ref a) H'
theorem Bl (sc:Sc K H sA p ns)(m1:1<=m)(m2:m<=15)(q:∀ a v D zs t H',Sc K H' sA p ns->Ext (wo H p) (wo H' p)->wo H p D=none->wo H' p a=some (.tup [v,.ref D])->Ru C (wo H' p) t v->t.flat->t.ok->wo H' p D=some (.lst zs)->Ñ (wo H' p) zs (t.bl.map oK)->De.rt (.ref a) H') :
  Bx (KB K C CN CT CM De [some (.ref sA),some (.ref p),some (.int m),o3,o4,o5,o6,o7,o8,o9] H):=by
 refine⟨Ar sc m1 am λ sv rs H1 ž x1 Z9=>?_⟩;refine B8 ž m1 m2 Z9 λ sv rs o4 H2 Χ x2 Tn=>?_;refine Bw Χ Tn λ bl ys o7 o8 o9 H3 Δ x3 hb ra=>?_;refine Ce Δ (Tn.ext x3) λ v t H4 Lu x4 ru pl ok eb ef=>?_;refine B6 Lu ru pl ok eb Tn.ok Tn.l4 (x4 _ _ hb) (ra.mono x4) (λ v t o4 bl ys B H5 Ny x5 ru5 fl ok5 l4 LI hb5 ra5 ec=>?_) (by rw [ef])
 refine Bd Ny l4 LI hb5 ra5 λ a D zs H6 x6 nD ha hD rz=>?_;have wn:wo H p D=none:=by
  cases e:wo H p D with
  | none=>rfl
  | some o=>rw [ak _ _ _ _ ((((x1.trans x2).trans x3).trans (x4.trans x5)) _ _ e)] at nD;cases nD
 have Ww:=aL x6 p;rw [ec] at rz;exact q a v D zs t H6 (Ny.ext x6) ((((x1.trans x2).trans x3).trans (x4.trans x5)).trans Ww) wn ha (ru5.ext Ww) fl ok5 hD rz
theorem Ff {f f0 f1 f2 f3 f4 a1 a2:Addr}{fd e0 e1 e2 e3 e4 d1 d2:FuncData}(F:ğ K "_law_rule" "_law_rule" mO f fd)(L:DI P w K mg base C CN CS CT CM f0 f1 f2 f3 f4 e0 e1 e2 e3 e4)(A1:Df P w K mg base ay 1 "_law_take" ["_law_script","_law_pen","_law_many"] (cS K) a1 d1)(A2:Df P w K mg base ay 8 "_law_plain_rule" ["_law_script","_law_pen","_law_most"] (qH K C) a2 d2)(mr:mg "range" = none)(mm:mg "max" = none)(mi:mg "int" = none)(ml:mg "list" = none)(mn:mg "len" = none):ß P w K mg base ay 9 f fd ["_law_script","_law_pen","_law_most"] (At K C):=by
 refine cw F A_ λ cdv A outer s H vs Q E hr h=>?_;obtain⟨sA,p,ns,m,rfl,sc,m1,m2,q⟩:=h;exact iU (Am L A1 A2 hr mr mm mi ml mn) (Bl sc m1 m2 q)
end
theorem lR (s:Int)(n:Nat):(dR s n).length=n:=by unfold dR;rw [Ä,List.length_range]
theorem lQ (s:Int)(a b:Nat):dR s (a+b)=dR s a++dR (s+(a:Nat)) b:=by
 unfold dR;rw [List.range_add,Ï,QB]
 congr 1
 apply LP;intro k _;show s+((a+k:Nat):Int)=s+(a:Nat)+(k:Nat);omega
theorem jj (s:Int)(n:Nat):dR s (n+1)=s::dR (s+1) n:=by
 rw [Nat.add_comm n 1,lQ];show [s+((0:Nat):Int)]++_=_;simp
theorem iF:∀(n:Nat)(s m:Int),m<=s->(dR s n).filter (λ x=>decide (x<m))=[]
 | 0,s,m,h=>rfl
 | n+1,s,m,h=>by
  rw [jj,Ě,Ø (by simp;omega)]
  exact iF n (s+1) m am
theorem jQ:∀(n:Nat)(s m:Int),s+(n:Nat)<=m->(dR s n).filter (λ x=>decide (x<m))=dR s n
 | 0,s,m,h=>rfl
 | n+1,s,m,h=>by
  rw [jj,Ě,à (by simp;omega),jQ n (s+1) m am]
theorem uz (n:Nat)(s m:Int)(h1:s<=m)(h2:m<=s+(n:Nat)):(dR s n).filter (λ x=>decide (x<m))=dR s (m-s).toNat:=by
 obtain⟨a,ha⟩:∃ a:Nat,m-s=(a:Int):=⟨(m-s).toNat,am⟩;obtain⟨b,rfl⟩:∃ b:Nat,n=a+b:=⟨n-a,am⟩;rw [lQ,ī,jQ a s m am,iF b _ m am,ă,ha,õ]
theorem kF (m:Int)(p:List Int)(ps:List (List Int)):gi m (p::ps)=if 0<(p.filter λ x=>decide (x<m)).length then(p.filter λ x=>decide (x<m))::gi m ps else gi m ps:=by
 unfold gi;rw [ô,Ě];by_cases h:0<(p.filter λ x=>decide (x<m)).length
 ·rw [à h,à (Å h)]
 ·rw [Ø h,Ø (by rw [É h];decide)]
theorem hG:∀(ns:List Int)(s m:Int),(∀ n∈ns,1<=n)->∃ Ũ,(∀ n ∈ Ũ,1<=n)/\gi m (cK s ns)=cK s Ũ/\(s<=m->m<=s+ns.sum->s + Ũ.sum=m)/\(m<=s->Ũ=[])
 | [],s,m,_=>⟨[],(λ n h=>nomatch h),rfl,(λ h1 h2=>by simp at h2 ⊢;omega),λ _=>rfl⟩
 | n::ns,s,m,h=>by
  have hn:=h n (î ..);obtain⟨Ũ,g1,g2,g3,g4⟩:=hG ns (s+n) m λ x hx=>h x (ã _ hx);show ∃ Ũ,_/\gi m (dR s n.toNat::cK (s+n) ns)=_/\_/\_;rw [kF,g2];by_cases hs:s<m
  ·by_cases hm:s+n<=m
   ·refine⟨n :: Ũ,λ x hx=>?_,?_,λ _ h2=>?_,λ h3=>absurd h3 am⟩
    ·rcases ç.mp hx with rfl | hx
     ·exact hn
     ·exact g1 x hx
    ·rw [jQ _ _ _ am,lR,à am];rfl
    ·rw [L7] at h2 ⊢;have:=g3 am am;omega
   ·have e:=g4 am;subst e;refine⟨[m-s],λ x hx=>?_,?_,λ _ _=>?_,λ h3=>absurd h3 am⟩
    ·rw [Ô.mp hx];omega
    ·rw [uz _ _ _ am am,lR,à am];rfl
    ·simp;omega
  ·have e:=g4 am;subst e;refine⟨[],(λ n h=>nomatch h),?_,λ h1 h2=>?_,λ _=>rfl⟩
   ·rw [iF _ _ _ am,Ø (by simp)]
    rfl
   ·simp;omega
theorem lY:∀(ws:List Str)(ns:List Int)(s m:Int),(∀ n∈ns,1<=n)->gO (io m (ws.zip (cK s ns)))=ws.zip (gi m (cK s ns))
 | [],ns,s,m,_=>by simp [gO,io]
 | w::ws,[],s,m,_=>rfl
 | w::ws,n::ns,s,m,h=>by
  have hn:=h n (î ..);have h':∀ x∈ns,1<=x:=λ x hx=>h x (ã _ hx);have ih:=lY ws ns (s+n) m h';show gO (io m ((w,dR s n.toNat)::ws.zip (cK (s+n) ns)))=(w::ws).zip (gi m (dR s n.toNat::cK (s+n) ns));rw [kF];show gO ((w,(dR s n.toNat).filter λ x=>decide (x<m))::io m (ws.zip (cK (s+n) ns)))=_;unfold gO at ih ⊢;rw [Ě];by_cases hl:0<((dR s n.toNat).filter λ x=>decide (x<m)).length
  ·rw [à hl,à (by
    cases e:(dR s n.toNat).filter (λ x=>decide (x<m)) with
    | nil=>rw [e] at hl;exact absurd hl (by simp)
    | cons _ _=>rfl),List.zip_cons_cons]
   show _::_=_;rw [ih]
  ·rw [Ø hl];have e:(dR s n.toNat).filter (λ x=>decide (x<m))=[]:=List.eq_nil_of_length_eq_zero am;have ms:m<=s:=by
    rcases Int.lt_or_le s m with lt | ge
    ·exfalso;obtain⟨k,hk⟩:∃ k:Nat,n.toNat=k+1:=⟨n.toNat-1,am⟩;rw [hk,jj,Ě,à (by simpa using lt)] at e
     cases e
    ·exact ge
   rw [Ø (by rw [e];exact Ó),ih]
   obtain⟨Ũ,_,g2,_,g4⟩:=hG ns (s+n) m h';rw [g2,g4 am];show ws.zip []=(w::ws).zip [];rw [List.zip_nil_right,List.zip_nil_right]
theorem fm {rs:List R0}(ok:∀ r∈rs,r.ok):∀ n∈rs.map R0.Õ,1<=n:=λ n hn=>by
 obtain⟨r,hr,rfl⟩:=ć.mp hn;exact(R0.Ĝ (ok r hr)).1
theorem pq:∀{t:Rl},t.ok->t.flat->∃ ns,(∀ n∈ns,1<=n)/\t.parts=cK 0 ns/\ns.sum=t.Õ
 | .one r,h,_=>⟨[r.Õ],λ n hn=>by rw [Ô.mp hn];exact(R0.Ĝ h).1,rfl,by simp [Rl.Õ]⟩
 | .blocks rs,h,_=>⟨rs.map R0.Õ,fm h.2.2.1,rfl,rfl⟩
 | .first (.one r) m,h,_=>by
  obtain⟨Ũ,g1,g2,g3,_⟩:=hG ([r].map R0.Õ) 0 m (fm λ r' h'=>by rw [Ô.mp h'];exact h.1)
  refine⟨Ũ,g1,g2,?_⟩;have:=g3 h.2.1 (by have:=h.2.2;simp [Rl.Õ] at this ⊢;exact this)
  rw [j'] at this;exact this
 | .first (.blocks rs) m,h,_=>by
  obtain⟨Ũ,g1,g2,g3,_⟩:=hG (rs.map R0.Õ) 0 m (fm h.1.2.2.1);refine⟨Ũ,g1,g2,?_⟩;have:=g3 h.2.1 (by rw [j'];exact h.2.2)
  rw [j'] at this;exact this
 | .first (.first _ _) _,_,h=>h.elim
theorem BX:∀{t:Rl},t.ok->t.flat->t.bl=(t.base.map R0.word).zip t.parts
 | .one r,_,_=>rfl
 | .blocks rs,_,_=>rfl
 | .first (.one r) m,h,_=>lY ([r].map R0.word) ([r].map R0.Õ) 0 m (fm λ r' h'=>by rw [Ô.mp h'];exact h.1)
 | .first (.blocks rs) m,h,_=>lY (rs.map R0.word) (rs.map R0.Õ) 0 m (fm h.1.2.2.1)
 | .first (.first _ _) _,_,h=>h.elim
theorem oY:∀{t:Rl},t.flat->t.parts.length<=t.base.length
 | .one r,_=>Ç _
 | .blocks rs,_=>by show(cK 0 (rs.map R0.Õ)).length<=rs.length;rw [fh,Ä];exact Ç _
 | .first (.one r) m,_=>by
  show(gi m [dR 0 r.Õ.toNat]).length<=1;unfold gi;exact é (Ĭ _ _) (by simp)
 | .first (.blocks rs) m,_=>by
  show(gi m (cK 0 (rs.map R0.Õ))).length<=rs.length;unfold gi;refine é (Ĭ _ _) ?_;rw [Ä,fh,Ä];exact Ç _
 | .first (.first _ _) _,h=>h.elim
theorem mw {t:Rl}(ok:t.ok)(fl:t.flat):t.bl.map (·.2)=t.parts:=by
 rw [BX ok fl];exact List.map_snd_zip (by rw [Ä];exact oY fl)
theorem kI:∀(ns:List Int)(s:Int),(∀ n∈ns,1<=n)->(cK s ns).flatten=dR s ns.sum.toNat
 | [],s,_=>rfl
 | n::ns,s,h=>by
  have hn:=h n (î ..);have h':∀ x∈ns,1<=x:=λ x hx=>h x (ã _ hx);have s0:0<=ns.sum:=fu λ x hx=>by have:=h' x hx;omega
  show(dR s n.toNat::cK (s+n) ns).flatten=_;rw [Ĕ,kI ns (s+n) h',L7];have e:(n+ns.sum).toNat=n.toNat+ns.sum.toNat:=am;rw [e,lQ]
  congr 2
  omega
def iZ (o:Int × Bool):PyData:=.tuple [.int o.1,.bool o.2]
def Nq (os:List (Int × Bool)):Prop:=∀ o∈os,-99<=o.1/\o.1<=99
theorem Gc {H:Hp}{xs:List V}{os:List (Int × Bool)}(h:Ñ H xs (os.map iZ)):vi H xs os:=by
 have l:=h.length;rw [Ä] at l;refine⟨l,λ i x o h1 h2=>?_⟩;obtain⟨d,ed,rd⟩:=h.get h1;rw [Ò,h2] at ed;cases ed;obtain⟨a,ys,rfl,ha,rs⟩:=lA rd;cases rs with
 | cons r1 rs=>cases rs with
  | cons r2 rs=>cases rs;cases r1;cases r2;exact⟨a,rfl,ha⟩
section
variable {P:Program}{w:World}{K:Frag}{mg:bv}{base:Heap}{f a1:Addr}{fd d1:FuncData}
abbrev Ij:Stmt:=cr 76
theorem IS:ae ["_law_blocks"] ["_law_blocks"] (aa Ij):=aO
def wC:Sp:=λ vs H Q _=>∃(D:Addr)(zs:List V)(B:List Bk),vs=[.ref D]/\H D=some (.lst zs)/\Ñ H zs (B.map oK)/\B.length<=20/\∀ H',Ext H H'->Q (.int ((B.map (·.2)).flatten.length:Nat)) H'
abbrev G0:Scope:=eZ [("_law_word",.local),("_law_folk_here",.local),("len",.globalImplicit)]
theorem zv {X:Cx}:bL X G0 [] ["_law_word","_law_folk_here"] [] []:=oC (L:=[(".0",.local),("_law_word",.local),("_law_folk_here",.local),("len",.globalImplicit)]) rfl rfl ao ao ao rfl ao ao
def iN (K:Frag)(i:Nat):TE:=iQ (λ xs H Q=>∃ p ys,xs=[.ref p]/\(ó K H p ys\/ĥ K H p ys)/\Q (.int ys.length) H) (ag (ar i) aG)
theorem Hi (F:ğ K "_law_folk" "_law_folk" Ij f fd)(ms:mg "sum" = none)(mn:mg "len" = none):ß P w K mg base ay 1 f fd ["_law_blocks"] wC:=by
 refine cw F IS λ cdv A outer s H vs Q E hr h=>?_;obtain⟨D,zs,B,rfl,hD,ra,LI,q⟩:=h;refine⟨_,bj (cM (ah (dS rfl) rfl ms Ė (ac (dL (te:=iN K 1) (g:=xn K) rfl zv (bC (pv 0)) (λ s H C fp=>by exact cT rfl (gy (dG (i:=0) w9 rfl (.inl rfl)) (gy (dG (i:=1) w9 rfl (.inl rfl)) bT))) (λ s H C fp=>by exact ah aF rfl mn ñ (ac (pv 1) aq))) aq))),?_⟩
 have lz:=ra.length;rw [Ä] at lz;refine⟨_,rfl,D,rfl,⟨zs,ó.of hD⟩,λ D2 MB=>?_⟩;refine cI (a:=D) (xs:=zs) (λ i ys H'=>Ext H H'/\ys=((B.take i).map λ b=>((b.2.length:Nat):Int)).map V.int) (by rw [Ö];omega) ⟨Ext.new MB,rfl⟩ (λ i ys H' pv=>ó.of (pv.1 _ _ hD)) ?_ ?_
 ·rintro i x ys H' ex ly ĩ ⟨x',ey⟩ os ŋ R k;obtain⟨o0,o1,rfl⟩:∃ o0 o1,os=[o0,o1]:=by
   match os,ŋ with
   | [o0,o1],_=>exact⟨o0,o1,rfl⟩
  obtain⟨d,ed,rd⟩:=ra.get ex;rw [Ò] at ed;obtain⟨bk,ebk,rfl⟩:=á.mp ed;obtain⟨a,l,rfl,ha,hl⟩:=sQ rd;refine⟨a,_,rfl,ĥ.of (x' _ _ ha),rfl,_,_,rfl,_,_,rfl,rfl,⟨[some (.str bk.1),some (.ref l)],rfl,rfl⟩,_,rfl,l,_,rfl,.inl (ó.of (x' _ _ hl)),?_⟩;refine k _ H' ĩ ⟨bz _ x' MB,?_⟩;rw [aQ ebk,Ï,Ï,<- ey,Ä];rfl
 ·rintro ys H' ly ĩ ⟨x',ey⟩;rw [lz,ä] at ey;rw [ey] at ĩ;refine⟨D2,_,rfl,ó.of ĩ,?_⟩;have e:∀ B:List Bk,(B.map λ b=>((b.2.length:Nat):Int)).sum=(((B.map (·.2)).flatten.length:Nat):Int):=λ B=>by
   induction B with
   | nil=>rfl
   | cons b B ih =>
    rw [ô,L7,ih,ô,Ĕ,Ð];omega
  rw [e];exact q H' x'
abbrev DP:Stmt:=cr 77
abbrev KG:List Str:=["_law_script","_law_pen","_law_folk_here","_law_sure","_law_wide","_law_found","_law_k","_law_number"]
theorem RO:ae KG ["_law_script","_law_pen","_law_folk_here","_law_sure"] (aa DP):=aO
def wa (K:Frag):Sp:=λ vs H Q _=>∃(s p:Addr)(ns:List Int)(n:Nat)(b:Bool),vs=[.ref s,.ref p,.int (n:Nat),.bl b]/\Sc K H s p ns/\n<=1200/\∀ l xs os H',Sc K H' s p ns->Ext (wo H p) (wo H' p)->wo H p l=none->wo H' p l=some (.lst xs)->Ñ (wo H' p) xs (os.map iZ)->Nq os->os.length=n->Q (.ref l) H'
def Lg (K:Frag):TS:=cV (aS (cX K) (aT (ag (tC (.int 2)) (ag (tC (.int 5)) (ag (tC (.int 19)) (ag (tC (.int 199)) aG))))) (dI K (tC (.int 4)))) (bF 4)
def K2:TS:=cV (aT aG) (bF 5)
def Ko (K:Frag):TS:=cV (aS (eO λ i j=>.int (i-j)) (dI K (ar 4)) (aS (rI jC λ i j=>.int (i/j)) (ar 4) (tC (.int 2)))) (bF 7)
def Kq (K:Frag):TS:=iM (yG K "list" lS (ar 5) (ag (eF (ag (ar 7) (ag (C9 (ar 3) (aS (eO λ i j=>.bl (decide (i>j))) (dI K (tC (.int 3))) (tC (.int 0)))) aG))) aG))
def Kx (K:Frag):TS:=mH (nY (ag (ar 2) aG)) (bF 6) (aZ (Ko K) (Kq K))
def Le (K:Frag):TS:=aZ (Lg K) (aZ K2 (aZ (Kx K) (cW (ar 5))))
section
variable {cdv:Value}{A:Around}{outer:List Env}{s:Shared}{H:Hp}{E:XK}
theorem Bj (A1:Df P w K mg base ay 1 "_law_take" ["_law_script","_law_pen","_law_many"] (cS K) a1 d1)(mr:mg "range" = none)(hr:qX 1 "_law_outcomes" DP A s f cdv):Bx (Ų (br ay P w K mg base KG "_law_outcomes" (aa DP) f cdv A outer s H E).Ŝ (aH DP) (Le K)):=by
 have nd:=RO.nd;exact cA ⟨mq (i:=4) nd rfl (Or.inl rfl) (ft iB (aY (ac aB (ac aB (ac aB (ac aB aq))))) (cq A1 hr ai (ac (pv 0) (ac (pv 1) (ac aB aq)))))⟩
  (cA ⟨mq (i:=5) nd rfl (Or.inl rfl) (aY aq)⟩
  (cA ⟨gk ĸ rfl (gu rfl mr (ac (pv 2) aq)) (dG (i:=6) nd rfl (Or.inl rfl))
   (cL (mq (i:=7) nd rfl (Or.inl rfl) (aC gL (cq A1 hr ai (ac (pv 0) (ac (pv 1) (ac (pv 4) aq)))) (aC gr (pv 4) aB)))
   (bj (ax (jV ď ο ξ du (pv 5) (ac (aU (ac (pv 7) (ac (Eu (pv 3) (fJ (c8 iS (cq A1 hr ai (ac (pv 0) (ac (pv 1) (ac aB aq)))) aB (az _)))) aq))) aq)))))⟩
  (be ⟨cM (pv 5)⟩)))
end
theorem BL {σ:St}{H:Hp}{sA p:Addr}{ns:List Int}{b:Bool}{R:VK}(sc:Sc K H sA p ns)(h0:σ[0]?=some (some (.ref sA)))(h1:σ[1]?=some (some (.ref p)))(h3:σ[3]?=some (some (.bl b)))(k:∀ c H',Sc K H' sA p ns->Kept H H' p->R (.bl c) H'):C9 (ar 3) (aS (eO λ i j=>.bl (decide (i>j))) (dI K (tC (.int 3))) (tC (.int 0))) σ H R:=by
 refine⟨_,h3,_,rfl,?_⟩;cases b with
 | true=>exact cQ (k true H sc (Kept.refl _ _))
 | false=>exact cE (bH sc h0 h1 (λ R r=>r) ad ad λ t H4 t0 t3 Lu k4=>⟨_,_,rfl,rfl,k _ H4 Lu k4⟩)
theorem Gk (F:ğ K "_law_outcomes" "_law_outcomes" DP f fd)(A1:Df P w K mg base ay 1 "_law_take" ["_law_script","_law_pen","_law_many"] (cS K) a1 d1)(mr:mg "range" = none):ß P w K mg base ay 2 f fd ["_law_script","_law_pen","_law_folk_here","_law_sure"] (wa K):=by
 refine cw F RO λ cdv A outer s H vs Q E hr h=>?_;obtain⟨sA,p,ns,n,sb,rfl,sc,hn,q⟩:=h;obtain⟨NY⟩:=Bj A1 mr hr (f:=f) (cdv:=cdv) (A:=A) (outer:=outer) (s:=s) (H:=H) (E:=E);refine⟨_,NY,?_⟩;refine aN (te:=aS (cX K) (aT (ag (tC (.int 2)) (ag (tC (.int 5)) (ag (tC (.int 19)) (ag (tC (.int 199)) aG))))) (dI K (tC (.int 4)))) (i:=4) (D:=⟨_,Q,_,_⟩) (gD ⟨dA,λ l0 h0=>?_⟩);have x0:=Ext.new (o:=.lst [V.int 2,.int 5,.int 19,.int 199]) h0;have g0:af H l0 (.lst [V.int 2,.int 5,.int 19,.int 199]) l0=some (.lst [V.int 2,.int 5,.int 19,.int 199]):=aR;show dI K (tC (.int 4)) _ (af H l0 (.lst [V.int 2,.int 5,.int 19,.int 199])) _;generalize af H l0 (.lst [V.int 2,.int 5,.int 19,.int 199])=H0 at x0 g0 ⊢;have Uz:l0≠p:=sc.bx.ne h0;refine bH (sc.ext x0) rfl rfl (λ R r=>r) ad ad λ r H1 r0 r4 ž k1=>?_;have g1:=k1 _ _ g0 Uz;obtain⟨wd,ew,w1,w2⟩:∃ wd:Int,([V.int 2,.int 5,.int 19,.int 199]:List V)[r.toNat]?=some (.int wd)/\2<=wd/\wd<=199:=by
  obtain⟨m,rfl⟩:∃ m:Nat,r=(m:Int):=⟨r.toNat,am⟩;have hm:m<4:=am;rw [õ]
  match m,hm with
  | 0,_=>exact⟨2,rfl,ad,ad⟩
  | 1,_=>exact⟨5,rfl,ad,ad⟩
  | 2,_=>exact⟨19,rfl,ad,ad⟩
  | 3,_=>exact⟨199,rfl,ad,ad⟩
 have er:r=(r.toNat:Int):=am;refine⟨l0,_,r,.int wd,rfl,rfl,ó.of g1,by rw [er];exact gS ew,?_⟩
 have xa:Ext (wo H p) (wo H1 p):=(aL x0 p).trans (aM k1);refine aN (te:=aT aG) (i:=5) (D:=⟨_,Q,_,_⟩) ⟨dA,λ fl VN=>?_⟩;have x2:=Ext.new (o:=.lst []) VN;have g2:af H1 fl (.lst []) fl=some (.lst []):=aR;have nf:fl≠p:=ž.bx.ne VN;have RB:wo H p fl=none:=by
  cases e:wo H p fl with
  | none=>rfl
  | some o=>have:=ak _ _ _ _ (xa _ _ e);rw [VN] at this;cases this
 show aZ (Kx K) (cW (ar 5)) _ [some (.ref sA),some (.ref p),some (.int (n:Nat)),some (.bl sb),some (.int wd),some (.ref fl),none,none] (af H1 fl (.lst []));have Χ:=ž.ext x2;generalize af H1 fl (.lst [])=H2 at x2 g2 Χ ⊢;have xb:=xa.trans (aL x2 p);refine⟨_,rfl,(n:Int),rfl,am,am,?_⟩;rw [õ];refine kA (lo:=0) (n:=n) (λ i σ H'=>∃ ys os o6 o7,σ=[some (.ref sA),some (.ref p),some (.int (n:Nat)),some (.bl sb),some (.int wd),some (.ref fl),o6,o7]/\Sc K H' sA p ns/\Ext (wo H p) (wo H' p)/\H' fl=some (.lst ys)/\Ñ (wt H' p fl) ys (os.map iZ)/\Nq os/\os.length=i/\ys.length=i) ⟨[],[],_,_,rfl,Χ,xb,g2,.nil,(λ o ho=>nomatch ho),rfl,rfl⟩ ?_ ?_
 ·rintro i σ H' hi ⟨ys,os,o6,o7,rfl,Lv,xt,gf,ra,ok,lo,ly⟩;show aZ (Ko K) (Kq K) _ [some (.ref sA),some (.ref p),some (.int (n:Nat)),some (.bl sb),some (.int wd),some (.ref fl),some (.int (0+(i:Int))),o7] H';refine aN (te:=aS (eO λ i j=>.int (i-j)) (dI K (ar 4)) (aS (rI jC λ i j=>.int (i/j)) (ar 4) (tC (.int 2)))) (i:=7) (D:=⟨_,Q,_,_⟩) (gD (bH Lv rfl rfl (λ R r=>⟨_,rfl,r⟩) am am λ r H3 r0 N8 Δ k3=>⟨_,rfl,_,_,rfl,rfl,⟨ad,ad⟩,_,_,rfl,rfl,?_⟩));have Xr:=k3 _ _ gf nf;refine⟨_,rfl,.inl ⟨rfl,_,ó.of Xr⟩,_,rfl,?_⟩;refine BL Δ rfl rfl rfl λ c H4 Lu k4=>⟨dA,λ k hk=>?_⟩;have Xq:=k4 _ _ Xr nf;have x5:=Ext.new (o:=.tup [.int (r-wd/2),.bl c]) hk;have g5:af H4 k (.tup [.int (r-wd/2),.bl c]) k=some (.tup [.int (r-wd/2),.bl c]):=aR;have nk1:k≠fl:=λ e=>by rw [e,Xq] at hk;cases hk
  have nk2:k≠p:=Lu.bx.ne hk;have Ny:=Lu.ext x5;generalize af H4 k (.tup [.int (r-wd/2),.bl c])=H5 at x5 g5 Ny ⊢;have gf5:=x5 _ _ Xq;have b:-99<=r-wd/2/\r-wd/2<=99:=am;have xw:Ext (wt H' p fl) (wt H5 p fl):=((lG k3).trans (lG k4)).trans (nK x5 p fl);have ZU:Ext (wo H' p) (wo H5 p):=((aM k3).trans (aM k4)).trans (aL x5 p);have xf:Ext (wo H p) (wo (af H5 fl (.lst (ys ++ [.ref k]))) p):=λ b o e=>by
   have n1:b≠fl:=λ z=>by rw [z,RB] at e;cases e
   have e2:=(xt.trans ZU) _ _ e;exact bc (hW e) (by rw [au n1];exact ak _ _ _ _ e2)
  refine⟨fl,ys,.ref k,rfl,rfl,gf5,by rw [Ö];omega,ys ++ [.ref k],os ++ [(r-wd/2,c)],_,_,rfl,?_,?_,aR,?_,?_,by rw [Ð,lo];rfl,by rw [Ð,ly];rfl⟩
  ·exact sc.Tg xf (Ny.bx.up nf)
  ·exact xf
  ·rw [Ï];exact((ra.mono xw).append (.cons (.tup (iT nk2 nk1 g5) (.cons (.int _) (.cons (.bl _) .nil))) .nil)).mono nu
  ·intro o ho;rcases Ġ.mp ho with h | h
   ·exact ok o h
   ·rw [Ô.mp h];exact b
 ·rintro σ H' ⟨ys,os,o6,o7,rfl,Lv,xt,gf,ra,ok,lo,ly⟩;exact⟨_,rfl,q fl ys os H' Lv xt RB (bc nf gf) (ra.mono (ak (wo H' p) fl)) ok lo⟩
end
end My
namespace My
open PySem PySem.W L2
open PyProof.Rows (AllBare)
def oh (B1 B2 B3 B4:Addr):HO:=.tup [.ref B1,.ref B2,.ref B3,.ref B4]
def Hd (K:Frag)(B1 B2 B3 B4:Addr)(i:Nat)(th:Addr->TS)(rest:TH):TH:=λ x C D σ H=>∃ b1 b2 b3 b4,mroIn K C (.ref B1)=some b1/\mroIn K C (.ref B2)=some b2/\mroIn K C (.ref B3)=some b3/\mroIn K C (.ref B4)=some b4 /\
 ∀ p,H p=none->if(b1||b2||b3||b4)=true then th x (im D i) (σ.set i (some (.ref x))) (af H p (oh B1 B2 B3 B4)) else rest x C D σ (af H p (oh B1 B2 B3 B4))
section
variable {X:Cx}{hs:List ExceptHandler}{rest:TH}{K:Frag}
def Cc (K:Frag)(B:Addr)(i:Nat)(th:Addr->TS)(rest:TH):TH:=λ x C D σ H=>∃ b,mroIn K C (.ref B)=some b/\if b=true then th x (im D i) (σ.set i (some (.ref x))) H else rest x C D σ H
theorem qt {th:Addr->TS}{B:Addr}{n cn:Str}{i:Nat}{Pa:Stmt}{MZ:List Stmt}{pc ph:Pos}(hN:X.N.Nodup)(hi:X.N[i]?=some n)(hk:X.env.scope.names.lookup n=some .local)(cB:fg X.K B)(hg:Gl X cn)(hm:X.mg cn=some (.ref B))
  (hh:∀ x,Ų (ix X x) (Pa::MZ) (th x))(hr:DL X hs rest)(l_:(cn==("__debug__" : Str))=false:=by decide):DL X (.ExceptHandler (some (.Name cn pc)) (some n) (Pa::MZ) ph::hs) (Cc X.K B i th rest):=by
 intro Ã s σ H D x C G h;obtain⟨b,NV,q⟩:=h;obtain⟨J2,⟨dx,fs,hx,NC⟩,XY,t,T',Rk,Rj,SR,f1,f2,f3⟩:=id G;refine wpAny_handleBy_cons ?_ (by intro z;cases z)
 refine codeAny_handlers_test ?_;refine ck (X:=ix X x) (Inv.Pz J2) hg hm ?_ l_;obtain⟨ox,odd,JI⟩:∃ ox od,InstAt s.heap x ox C od:=by
  obtain⟨ox,od,J,_⟩:=gs J2.Ć hx NC;exact⟨ox,some od,J⟩
 refine oM J2.Ń cB.cls cB.ty cB.mb JI NV ?_;cases b with
 | false =>
  rw [Ø ad] at q;exact hr Ã s σ H D x C G q
 | true =>
  rw [à rfl] at q;show codeAny _ _ _ _ _;refine codeAny_handlers_suite_as ?_;have h3:3<Rj.size:=(ø.mp f3).1;refine MR SR rfl rfl f1 f2 h3 ?_;have J3:Inv X Ã σ H { s with heap:=s.heap.update T' (Obj.mapFields λ x=>x.setIfInBounds 3 Value.none) }:=by
   refine J2.kept (t':=s.toks) λ b u hb=>?_;by_cases z:b=T'
   ·subst z;have e:Rk=u:=Û (f1.symm.trans hb);subst e;rw [ò _ f1 (by rw [mN f2];rfl),mN f2,jm f3,<- f2]
   ·rw [Ü _ _ _ _ z];exact hb
  generalize ({ s with heap:=s.heap.update T' (Obj.mapFields λ x=>x.setIfInBounds 3 Value.none) }:Shared)=s3 at J3
  refine dZ (X:=ix X x) (Inv.Pz J3) hN hi (.inl hk) (v:=V.ref x) (u:=Value.ref x) rfl (λ s4 I4=>?_) (.inr hk);refine æ (hh x Ã s4 _ H (im D i) I4 q) (λ f s5 q5=>?_) (λ _ _ z=>False.elim z);exact km J3.ok hN hi hk (SP.Nh J3.ok q5)
theorem k8 {C B:Addr}{b:Bool}(cB:fg K B)(hm:mroIn K C (.ref B)=some b):exmOne K (.ref C) (.ref B)=some b:=by
 obtain⟨cd,hc⟩:=cB.cls;unfold exmOne;have e1:subIn K (.ref B) (.type "BaseException")=some true:=cB.mb;rw [e1,à ad];show(if((clsIn K B).isSome&&typeIn K (.ref B)==some (.type "type"))=true then subIn K (.ref C) (.ref B) else none)=_
 rw [hc,cB.ty,à (by simp)]
 exact hm
theorem HU {M:Model}{c1 c2 c3 c4 cls:Value}{tp e:Addr}{b1 b2 b3 b4:Bool}{h:Heap}(X:K.In h)(LT:Looks M h (typeOf (.ref e)) cls)(ht:PyProof.Rows.IsTup h tp #[c1,c2,c3,c4])(x1:exmOne K cls c1=some b1)(x2:exmOne K cls c2=some b2)(x3:exmOne K cls c3=some b3)(x4:exmOne K cls c4=some b4) :
  Looks M h (excMatches (.ref e) (.ref tp)) (b1||b2||b3||b4):=by
 intro A Q E s Vc q;obtain⟨hh,g,d,tk,os⟩:=s;have k:∀ b o,h.get? b=some o->hh.get? b=some o:=Vc;obtain⟨e1,S1⟩:=exm_cls (M:=M) X x1;obtain⟨e2,S2⟩:=exm_cls (M:=M) X x2;obtain⟨e3,S3⟩:=exm_cls (M:=M) X x3;obtain⟨e4,S4⟩:=exm_cls (M:=M) X x4;have e1:=e1.keeps k;have S1:=S1.keeps k;have e2:=e2.keeps k;have S2:=S2.keeps k;have e3:=e3.keeps k;have S3:=S3.keeps k;have e4:=e4.keeps k;have S4:=S4.keeps k;have LT:=LT.keeps k;obtain⟨o,ho,hc,n,hd⟩:=ht.keeps k;unfold excMatches;refine À (ŝ ⟨o,ho,hc⟩ isSubtype_tuple_tuple ?_)
 dsimp only
 rw [à rfl]
 first
  | refine À (Ċ ho hd ?_)
  | refine À (À (Ċ ho hd (Æ ?_)))
 dsimp only [Option.getD_some,Option.getD]
 cases b1 <;> cases b2 <;> cases b3 <;> cases b4 <;>((repeat (first | simp only [List.forIn_cons,List.forIn_nil,Bool.not_true,Bool.false_eq_true,if_false,if_true] | lk));exact q)
theorem wR {th:Addr->TS}{B1 B2 B3 B4:Addr}{n n1 n2 n3 n4:Str}{p1 p2 p3 p4 pt:Pos}{kt:Nat}{i:Nat}{Pa:Stmt}{MZ:List Stmt}{ph:Pos}(hN:X.N.Nodup)(hi:X.N[i]?=some n)(hk:X.env.scope.names.lookup n=some .local)(c1:fg X.K B1)(c2:fg X.K B2)(c3:fg X.K B3)(c4:fg X.K B4)
  (g1:Gl X n1)(g2:Gl X n2)(g3:Gl X n3)(g4:Gl X n4)(h1:X.mg n1=some (.ref B1))(h2:X.mg n2=some (.ref B2))(h3:X.mg n3=some (.ref B3))(h4:X.mg n4=some (.ref B4))
  (hh:∀ x,Ų (ix X x) (Pa::MZ) (th x))(hr:DL X hs rest)(d1:(n1==("__debug__" : Str))=false:=by decide)(d2:(n2==("__debug__" : Str))=false:=by decide)(d3:(n3==("__debug__" : Str))=false:=by decide)(d4:(n4==("__debug__" : Str))=false:=by decide) :
  DL X (.ExceptHandler (some (.Tuple [.Name n1 p1,.Name n2 p2,.Name n3 p3,.Name n4 p4] kt pt)) (some n) (Pa::MZ) ph::hs) (Hd X.K B1 B2 B3 B4 i th rest):=by
 intro Ã s σ H D x C G h;obtain⟨b1,b2,b3,b4,m1,m2,m3,m4,q⟩:=h;obtain⟨J2,⟨dx,fs,hx,NC⟩,XY,t,T',Rk,Rj,SR,f1,f2,f3⟩:=id G;refine wpAny_handleBy_cons ?_ (by intro z;cases z)
 refine codeAny_handlers_test ?_;refine wpAny_Tuple_spliced ?_;have JX:Inv (ix X x) Ã σ H s:=Inv.Pz J2;show wpAny _ _ (spliced ((false,eval (.Name n1 p1) X.env)::backTo pt (starEach [.Name n2 p2,.Name n3 p3,.Name n4 p4] X.env))) _ _ s;refine Ŋ (ck (X:=ix X x) JX g1 h1 ?_ d1);show wpAny _ _ (spliced ((false,eval (.Name n2 p2) X.env)::backTo pt (starEach [.Name n3 p3,.Name n4 p4] X.env))) _ _ s;refine Ŋ (ck (X:=ix X x) JX g2 h2 ?_ d2);show wpAny _ _ (spliced ((false,eval (.Name n3 p3) X.env)::backTo pt (starEach [.Name n4 p4] X.env))) _ _ s;refine Ŋ (ck (X:=ix X x) JX g3 h3 ?_ d3);show wpAny _ _ (spliced ((false,eval (.Name n4 p4) X.env)::backTo pt (starEach [] X.env))) _ _ s;refine Ŋ (ck (X:=ix X x) JX g4 h4 ?_ d4);refine Op ⟨dA,?_⟩;have hf:H s.heap.objs.size=none:=J2.Ć.fresh (Ç _);have q:=q _ hf;have kx:∀ b o,s.heap.get? b=some o->(s.heap.push { cls:=.type "tuple",data:=.seq #[Value.ref B1,.ref B2,.ref B3,.ref B4] }).get? b=some o:=λ b u e=>Á _ e;have JP:Inv X Ã σ (af H s.heap.objs.size (oh B1 B2 B3 B4)) { s with heap:=s.heap.push { cls:=.type "tuple",data:=.seq #[Value.ref B1,.ref B2,.ref B3,.ref B4] },toks:=s.toks } :=
  J2.laid (t':=s.toks) kx (Ç _) ⟨dA,[Value.ref B1,.ref B2,.ref B3,.ref B4],.cons rfl (.cons rfl (.cons rfl (.cons rfl .nil))),⟨_,Í _ rfl,rfl,_,rfl⟩⟩
 have tp:PyProof.Rows.IsTup ({ s with heap:=s.heap.push { cls:=.type "tuple",data:=.seq #[Value.ref B1,.ref B2,.ref B3,.ref B4] },toks:=s.toks }:Shared).heap s.heap.objs.size #[Value.ref B1,.ref B2,.ref B3,.ref B4]:=⟨_,Í _ rfl,rfl,_,rfl⟩
 have Vd:∀ b o,s.heap.get? b=some o->({ s with heap:=s.heap.push { cls:=.type "tuple",data:=.seq #[Value.ref B1,.ref B2,.ref B3,.ref B4] },toks:=s.toks }:Shared).heap.get? b=some o:=kx
 clear kx
 generalize hS:({ s with heap:=s.heap.push { cls:=.type "tuple",data:=.seq #[Value.ref B1,.ref B2,.ref B3,.ref B4] },toks:=s.toks }:Shared)=s1 at JP tp Vd
 generalize s.heap.objs.size=p at hf q JP tp ⊢;have npx:x≠p:=λ e=>by rw [<- e,hx] at hf;cases hf
 have npd:dx≠p:=λ e=>by rw [<- e,NC] at hf;cases hf
 have E_:af H p (oh B1 B2 B3 B4) x=some (fP x C (some dx)):=by rw [au npx];exact hx
 have QY:af H p (oh B1 B2 B3 B4) dx=some (.xd fs):=by rw [au npd];exact NC
 have Xu:=Vd _ _ SR;have TM:=Vd _ _ f1;have G1:tW X Ã σ (af H p (oh B1 B2 B3 B4)) s1 x C:=⟨JP,⟨dx,fs,E_,QY⟩,XY,t,T',Rk,Rj,Xu,TM,f2,f3⟩;obtain⟨ox,odd,JI⟩:∃ ox od,InstAt s1.heap x ox C od:=by
  obtain⟨ox,od,J,_⟩:=gs JP.Ć E_ QY;exact⟨ox,some od,J⟩
 refine(HU (K:=X.K) JP.Ń JI.type tp (k8 c1 m1) (k8 c2 m2) (k8 c3 m3) (k8 c4 m4)).here ?_;generalize af H p (oh B1 B2 B3 B4)=H1 at q JP E_ QY G1;cases hb:(b1||b2||b3||b4) with
 | false =>
  rw [hb,Ø ad] at q;exact hr Ã s1 σ H1 D x C G1 q
 | true =>
  rw [hb,à rfl] at q;show codeAny _ _ _ _ _;refine codeAny_handlers_suite_as ?_;have h3:3<Rj.size:=(ø.mp f3).1;refine MR Xu rfl rfl TM f2 h3 ?_;have J3:Inv X Ã σ H1 { s1 with heap:=s1.heap.update T' (Obj.mapFields λ x=>x.setIfInBounds 3 Value.none) }:=by
   refine JP.kept (t':=s1.toks) λ b u hb=>?_;by_cases z:b=T'
   ·subst z;have e:Rk=u:=Û (TM.symm.trans hb);subst e;rw [ò _ TM (by rw [mN f2];rfl),mN f2,jm f3,<- f2]
   ·rw [Ü _ _ _ _ z];exact hb
  generalize ({ s1 with heap:=s1.heap.update T' (Obj.mapFields λ x=>x.setIfInBounds 3 Value.none) }:Shared)=s3 at J3
  refine dZ (X:=ix X x) (Inv.Pz J3) hN hi (.inl hk) (v:=V.ref x) (u:=Value.ref x) rfl (λ s4 I4=>?_) (.inr hk);refine æ (hh x Ã s4 _ H1 (im D i) I4 q) (λ f s5 q5=>?_) (λ _ _ z=>False.elim z);exact km J3.ok hN hi hk (SP.Nh J3.ok q5)
end
end My
namespace L2
open PySem PySem.Spec PyProof.Rows
structure Η (k:Nat)(A:Around)(Ă:Addr):Prop where
 hd:A.handled=some (.ref Ă)
 dp:A.depth+3*k+5<recursionLimit
 un:A.units+16*k+200<cLine
 gd:A.guards=some []
theorem Η.deeper {k:Nat}{A:Around}{Ă:Addr}(r:Η (k+1) A Ă)(env:Env):Η k (A.deeper env) Ă :=
 ⟨r.hd,by have:=r.dp;show A.depth+1+3*k+5<_;omega,by have:=r.un;show A.units+3+16*k+200<_;omega,r.gd⟩
theorem ö.Uh {k:Nat}{A:Around}(r:ö k A)(Ă:Addr):Η k (A.mark (some (.ref Ă))) Ă:=⟨rfl,r.dp,r.un,r.gd⟩
theorem Η.depth {k:Nat}{A:Around}{Ă:Addr}(r:Η k A Ă):A.depth<recursionLimit:=by have:=r.dp;omega
structure DV (P:Program)(w:World)(K:PySem.W.Frag)(mg:bv)(base:Heap)(k:Nat)(f:Addr)(fd:FuncData)(ps:List Str)(sp:Addr->Sp):Prop where
 len:∀ Ă vs H Q E,sp Ă vs H Q E->vs.length=ps.length
 run:∀(Ă:Addr)(A:Around)(outer:List Env)(s:Shared)(H:Hp)(args:Args)(us:List Value)(vs:List V)(Q:VK)(E:XK),Η k A Ă->MG P w K mg base A outer s H->BindsTo s fd args (ps.zip us)->Vals vs us->sp Ă vs H Q E ->
  codeAny (model P w) A (.call (.ref f) args) (CR ay outer P w H s Q E) s
abbrev AG (P:Program)(w:World)(K:PySem.W.Frag)(mg:bv)(base:Heap)(N:List Str)(qual:Str)(scope:Scope)(f:Addr)(cd:Value)(A:Around)(outer:List Env)(s:Shared)(H:Hp)(E:XK):Cx:={ br ay P w K mg base N qual scope f cd A outer s H E with calm:=false }
theorem oF {P:Program}{w:World}{K:PySem.W.Frag}{mg:bv}{base:Heap}{N ps:List Str}{qual:Str}{scope:Scope}{f:Addr}{cd:Value}{A:Around}{outer:List Env}{s s1:Shared}{H:Hp}{E:XK}{us:List Value}{vs:List V}
  (S:ae N ps scope)(e0:MG P w K mg base A outer s H)(hl:vs.length=ps.length)(r:Vals vs us)
  (x:InCallC s s.heap.objs.size (bindL (envOfC qual scope s.heap.objs.size f cd).kindOf (ps.zip us) λ _=>none) (cellsFrom (s.heap.objs.size+1) scope.names []) (bindC (envOfC qual scope s.heap.objs.size f cd).kindOf (ps.zip us) λ _=>none) s1) :
  Inv (AG P w K mg base N qual scope f cd A outer s H E) [] (c7 N vs) H s1:=by
 have Κ:ps.length<=N.length:=by have:=Ğ List.length S.pre;rw [Đ] at this;omega
 obtain⟨h1,tk,rfl,hk⟩:=x.done;have PF:∀ b:Addr,b ∉ (AG P w K mg base N qual scope f cd A outer s H E).ex:=λ b z=>absurd (show b∈([]:List Addr) from z) (by simp)
 refine⟨⟨e0.mod,S.kind,rfl,rfl,Ç _,λ y z c h1 h2=>?_,λ y hy=>?_,λ y c _ h=>?_,(λ z=>by cases z),Around.frames_deeper e0.frames,.inr ⟨rfl,rfl⟩,λ b z=>absurd z (PF b),e0.bs,e0.No,λ b _ _=>PF b,λ b z=>absurd z (PF b),e0.γ,e0.O4⟩,
  rfl,e0.bare,Un.kept hk,⟨_,x.toInCall.ns,λ i y v h1 h2 h3=>?_⟩,λ y c h=>⟨_,x.cell y c h⟩,e0.Ć.fresh (Ç _),λ y c h=>?_,λ p hp=>absurd (show p∈([]:List (Addr × Obj)) from hp) (by simp),e0.Ć.kept hk,?_⟩
 ·exact name_of_addr x.apart (Ú h1) (Ú h2)
 ·have hy:scope.names.lookup y=some .cell\/scope.names.lookup y=some .free:=hy;rcases hy with hy | hy
  ·exact gX hy
  ·exact absurd rfl (S.Mn _ (Ú hy))
 ·exact h_ (x.above y c (Ú h))
 ·have hi:i<vs.length:=by
   unfold c7 at h2;by_cases hi:i<vs.length
   ·exact hi
   ·rw [å (by simpa using hi)] at h2
    rw [Ţ] at h2;split at h2 <;> cases h2
  have ha:vs[i]?=some v:=by
   unfold c7 at h2;rw [ð (by simpa using hi),List.getElem?_map] at h2
   cases e:vs[i]? with
   | none=>rw [e] at h2;cases h2
   | some a=>rw [e] at h2;cases h2;rfl
  obtain⟨u,hu,rv⟩:=r.get ha;have hp:ps[i]?=some y:=by
   rw [<- S.pre,Ps am];exact h1
  have R3:ps.Nodup:=by rw [<- S.pre];exact S.nd.sublist (List.take_sublist _ _)
  refine⟨u,rv,?_⟩;rcases S.par y (ê hp) with k | k
  ·exact .inl ⟨k,iw R3 hp hu k⟩
  ·obtain⟨c,e⟩:=gX (n:=s.heap.objs.size+1) k;refine .inr ⟨.inl k,c,e,?_⟩;have q:=x.cell y c e;rw [iu R3 hp hu (by show scope.names.lookup y≠_;rw [k];decide)] at q
   exact q
 ·exact e0.Ć.fresh (h_ (x.above y c (Ú h)))
 ·unfold c7;show _=N.length;rw [Ð,Ä,Ý];omega
theorem Dr {P:Program}{w:World}{K:PySem.W.Frag}{mg:bv}{base:Heap}{k:Nat}{f:Addr}{name qual:Str}{params:Arguments}{body:List Stmt}{scope:Scope}{dV kV doc pm cdv ct oc:Value}{an od:Option Addr}
  {N9:Array (Option Value)}{N ps:List Str}{sp:Addr->Sp}(lk:K.lookup f=some ⟨oc,od,.func (PySem.W.fnOf name qual params body scope dV kV doc pm an cdv ct),N9⟩)(M5:PySem.W.codeIn K cdv qual=true)(S:ae N ps scope)
  (len:∀ Ă vs H Q E,sp Ă vs H Q E->vs.length=ps.length)
  (Ż:∀(Ă:Addr)(A:Around)(outer:List Env)(s:Shared)(H:Hp)(vs:List V)(Q:VK)(E:XK),Η k (A.deeper (envOfC qual scope s.heap.objs.size f cdv)) Ă->sp Ă vs H Q E ->
   ∃ t,Ų (AG P w K mg base N qual scope f cdv A outer s H E) body t/\t { nx:=λ _ H'=>Q .ù H',rt:=Q } (c7 N vs) H) :
  DV P w K mg base (k+1) f (PySem.W.fnOf name qual params body scope dV kV doc pm an cdv ct) ps sp:=by
 refine⟨len,λ Ă A outer s H args us vs Q E hr e0 hb r MN=>?_⟩;have hl:=len _ _ _ _ _ MN;have KX:K.In s.heap:=e0.mod.OP.keeps λ b o e=>(e0.bs b o e).1;have lim:s.heap.NoLimit:=e0.mod.nolimit.keeps λ b o e=>(e0.bs b o e).1;have O1:∀ y∈ps.zip us,scope.names.lookup y.1=some .local\/(scope.names.lookup y.1=some .cell/\((cellsFrom (s.heap.objs.size+1) scope.names []).lookup y.1).isSome=true):=λ ⟨n,v⟩ hy=>by
  rcases S.par n (ś hy).1 with q | q
  ·exact .inl q
  ·exact .inr ⟨q,f_ _ _ _ (.inl q)⟩
 refine codeAny_call_function hr.depth (KX _ _ lk) rfl S.co S.gen rfl (PySem.W.codeRec_of KX M5) (hb _ _ _ _ ?_);refine wpAny_newFunctionEnv_cells S.kind O1 λ env he s1 x=>?_;subst he;refine⟨lim.keeps x.toInCall.keep,codeAny_func ?_⟩;obtain⟨t,ht,hq⟩:=Ż Ă A outer s H vs Q E (hr.deeper _) MN;have I:Inv (AG P w K mg base N qual scope f cdv A outer s H E) [] (c7 N vs) H s1:=oF S e0 hl r x;refine æ (ht [] s1 (c7 N vs) H _ I hq) (λ fl s' hs=>?_) λ e s' hs=>hs;have fin:∀{Ē:St}{H':Hp}{v:V}{u:Value},Inv (AG P w K mg base N qual scope f cdv A outer s H E) [] Ē H' s'->RelV v u->Q v H'->CE outer P w H s Q u s' :=
  λ {Ē H' v u} J rv q=>⟨v,H',J.os,J.bare,J.base,J.Ć,rv,q⟩
 cases fl with
 | ret u =>
  obtain⟨v,Ē,H',J,rv,q⟩:=hs;exact fin J rv q
 | next =>
  obtain⟨Ē,H',J,q⟩:=hs;exact fin (v:=V.ù) (u:=Value.none) J rfl q
 | brk =>
  obtain⟨_,_,_,q⟩:=hs;exact False.elim q
 | cont =>
  obtain⟨_,_,_,q⟩:=hs;exact False.elim q
theorem ğ.okH {P:Program}{w:World}{K:PySem.W.Frag}{mg:bv}{base:Heap}{x qual:Str}{st:Stmt}{f:Addr}{fd:FuncData}{N ps:List Str}{k:Nat}{sp:Addr->Sp}(F:ğ K x qual st f fd)(S:ae N ps (aa st))(len:∀ Ă vs H Q E,sp Ă vs H Q E->vs.length=ps.length)
  (Ż:∀(Ă:Addr)(cdv:Value)(A:Around)(outer:List Env)(s:Shared)(H:Hp)(vs:List V)(Q:VK)(E:XK),Η k (A.deeper (envOfC qual (aa st) s.heap.objs.size f cdv)) Ă->sp Ă vs H Q E ->
   ∃ t,Ų (AG P w K mg base N qual (aa st) f cdv A outer s H E).Ŝ (aH st) t/\t { nx:=λ _ H'=>Q .ù H',rt:=Q } (c7 N vs) H):DV P w K mg base (k+1) f fd ps sp:=by
 obtain⟨oc,od,kV,doc,pm,an,cdv,ct,N9,rfl,lk,M5⟩:=F.ex;refine Dr lk M5 S len λ Ă A outer s H vs Q E hr MN=>?_;obtain⟨t,h,q⟩:=Ż Ă cdv A outer s H vs Q E hr MN;exact⟨t,h.Ŝ,q⟩
theorem wD {X:Cx}{k:Nat}{f Ă:Addr}{fd:FuncData}{ps:List Str}{sp:Addr->Sp}{ds:List Value}{dvs:List V}{E:XK}{Ã:List (Addr × Obj)}{σ:St}{H:Hp}{s:Shared}{Q:VK}{us:List Value}{vs:List V}(F:DV X.prog X.w X.K X.mg X.base k f fd ps sp)(hr:Η k X.A Ă)(hb:Binds X.K fd ps ds)(hd:Vals dvs ds)(hx:cR ay X E)
  (I:Inv X Ã σ H s)(r:Vals vs us)(h:sp Ă (vs++dvs) H Q E):wpAny (model X.prog X.w) X.A (call (.ref f) us) (EP X Ã σ Q) X.xe s:=by
 have r2:Vals (vs++dvs) (us++ds):=r.append hd;have hl:(us++ds).length=ps.length:=by rw [<- r2.length];exact F.len _ _ _ _ _ h
 refine ŕ (ŉ (F.run Ă X.A X.stack s H ⟨us,[]⟩ (us++ds) (vs++dvs) Q E hr I.O8 (hb s us I.Ń hl) r2 h) λ r s' hq=>?_);cases r with
 | error e=>exact hx Ã σ H s e s' I hq
 | ok fl =>
  cases fl with
  | ret u=>exact I.after hq
  | next=>exact False.elim hq
  | brk=>exact False.elim hq
  | cont=>exact False.elim hq
theorem jp {X:Cx}{k:Nat}{f Ă:Addr}{fd:FuncData}{ps:List Str}{sp:Addr->Sp}{ds:List Value}{dvs:List V}{E:XK}{x:Str}{e:Expr}{es:List Expr}{t:TA}{p pos:Pos}(F:DV X.prog X.w X.K X.mg X.base k f fd ps sp)(hr:Η k X.A Ă)(hg:Gl X x)(hm:X.mg x=some (.ref f))(hk:PySem.W.keepIn X.K (.ref f)=true)(hb:Binds X.K fd ps ds)(hd:Vals dvs ds)(hx:cR ay X E)
  (ha:PA X (e::es) t)(l_:(x==("__debug__" : Str))=false:=by decide)(he:starEach (e::es) X.env=(false,eval e X.env)::starEach es X.env:=by rfl) (Κ:(backTo pos (starEach es X.env)).any (·.1)=false:=by rfl) :
  PE X (.Call (.Name x p) (e::es) [] pos) (gE (sp Ă) dvs E t):=by
 intro Ã s σ H Q I h;refine ċ (ck I hg hm ?_ l_);refine Ę (h₀:=X.base) I.ok.mod.OP hk (aW (ha pos Ã s σ H _ I h) λ us s1 ⟨vs,H1,I1,r,q⟩=>⟨I1.Ń,?_⟩) he Κ;exact wD F hr hb hd hx I1 r q
end L2
namespace My
open PySem PySem.W L2
def tI (b:Bool):Int:=if b then 1 else 0
theorem yn (b:Bool):0<=tI b/\tI b<=1:=by unfold tI;split <;> omega
theorem ud (bs:Nat->Bool):∀ i,0<=preSum (λ i=>tI (bs i)) i/\preSum (λ i=>tI (bs i)) i<=i
 | 0=>⟨Int.le_refl _,Int.le_refl _⟩
 | i+1=>by
  have a:=ud bs i;have b:=yn (bs i);show 0<=preSum (λ i=>tI (bs i)) i+tI (bs i)/\preSum (λ i=>tI (bs i)) i+tI (bs i)<=_;omega
theorem GS {x y:Int}(h1:0<=x)(h2:x<=1000000)(h3:0<=y)(h4:y<=1000000):((decide (-(2^63)<=x)&&decide (x<2^63))&&(decide (-(2^63)<=y)&&decide (y<2^63)))=true:=by
 rw [Å am,Å am,Å am,Å am];rfl
section
variable {prog:Program}{w:World}{A:Around}{R:Result->Shared->Prop}{E:cy}{s:Shared}{I S:Addr}{fp wr:List Addr}{n:Nat}{P:Nat->Value->Prop}{St:Nat->Heap->Prop}
abbrev qf (a:Int)(t:Tok)(c:Nat):Obj:={ cls:=.type "list",dict:=none,data:=.seq #[.int a t] c,slots:=#[] }
abbrev Hu (I S:Addr):Code:=.builtin "sum.loop" ⟨[.ref I,.ref S,rawInt 0,rawInt 0],[]⟩
theorem uA {a:Int}{t:Tok}{c:Nat}(hS:s.heap.get? S=some (qf a t c))(hN:wpAny (model prog w) A.in1 (pyNext (.ref I)) (λ r s'=>r=none/\R (.ok (.ret (.int a t))) s') (λ _ _=>False) s):codeAny (model prog w) A (Hu I S) R s:=by
 refine Ω F.entry_sum_loop (by
  rw [ŗ J' _];exact À (Ċ hS rfl (À (wpAny_tryCatch (æ hN (λ r s' h=>by rw [h.1];exact Æ h.2) λ _ _ z=>z.elim)))))
theorem rh {a:Int}{b:Bool}{t:Tok}{c:Nat}(ha:0<=a/\a<=1000)(hS:s.heap.get? S=some (qf a t c))
  (hN:wpAny (model prog w) A.in1 (pyNext (.ref I)) (λ r s'=>r=some (.bool b)/\∃ c',s'.heap.get? S=some (qf a t c')/\codeAny (model prog w) A (Hu I S) R { s' with heap:=s'.heap.update S (Obj.mapSeq λ _=>#[.int (a+tI b) s'.toks]),toks:=s'.toks+1 }) (λ _ _=>False) s):codeAny (model prog w) A (Hu I S) R s:=by
 refine Ω F.entry_sum_loop ?_;rw [ŗ J' _];refine À (Ċ hS rfl (À (wpAny_tryCatch (æ hN (λ r s' h=>?_) λ _ _ z=>z.elim))));obtain⟨rfl,c',Qt,k⟩:=h;have tl:=yn b;refine ü ad ?_;refine Ł (Å (GS (x:=tI b) (y:=a+tI b) tl.1 am am am)) (À (wpAny_mkInt ?_));exact À (wpAny_updateSeq Qt rfl (Æ ⟨plainId_quiet J' _,k⟩))
theorem qJ (W:Walks prog w A.in1 I fp wr n P St)(bs:Nat->Bool)(hv:∀ i v,P i v->v=.bool (bs i))(hn:n<=1000)(nS:S ∉ fp)(m:Nat) :
  ∀(i:Nat)(s:Shared)(t:Tok)(c:Nat),i+m=n->St i s.heap->s.heap.get? S=some (qf (preSum (λ i=>tI (bs i)) i) t c) ->
   (∀ h' tk t',(∀ b o,b ∉ wr->b≠S->s.heap.get? b=some o->h'.get? b=some o)->R (.ok (.ret (.int (preSum (λ i=>tI (bs i)) n) t'))) { s with heap:=h',toks:=tk })->codeAny (model prog w) A (Hu I S) R s:=by
 have nw:S ∉ wr:=λ h=>nS (W.sub _ h)
 induction m with
 | zero =>
  intro i s t c e st hS q;have e:i=n:=e;subst e;exact uA hS (W.done s _ _ st λ h' tk k=>⟨rfl,q h' tk t λ b o hb _ e=>k b o hb e⟩)
 | succ m ih =>
  intro i s t c e st hS q;have pl:=ud bs i;refine rh (b:=bs i) am hS (W.item i s _ _ am st λ v h' tk hP Pi k=>?_);have Qt:=k S _ nw hS;refine⟨by rw [hv i v hP],c,Qt,ih (i+1) _ _ _ am (W.frame _ _ _ Pi λ b hb o e=>?_) (ò _ Qt rfl) λ h2 Z6 t2 k2=>?_⟩
  ·have nb:b≠S:=λ z=>nS (by rw [<- z];exact hb)
   rw [Ü _ _ _ _ nb];exact e
  ·exact q h2 Z6 t2 λ b o hb nb e=>k2 b o hb nb (by rw [Ü _ _ _ _ nb];exact k b o hb e)
theorem qV {x:Value}{Q:cy}
  (h:wpAny (model prog w) A.in1 (pyIter x) (λ it ő=>∃(I:Addr)(fp wr:List Addr)(n:Nat)(P:Nat->Value->Prop)(St:Nat->Heap->Prop)(bs:Nat->Bool),it=.ref I/\Walks prog w A.in1 I fp wr n P St/\St 0 ő.heap/\(∀ b∈fp,b < ő.heap.objs.size)/\n<=1000/\(∀ i v,P i v->v=.bool (bs i)) /\
   ∀ h' tk t',(∀ b o,b ∉ wr->ő.heap.get? b=some o->h'.get? b=some o)->Q (.int (preSum (λ i=>tI (bs i)) n) t') { ő with heap:=h',toks:=tk }) E s):wpAny (model prog w) A (call (.builtin "sum") [x]) Q E s:=by
 refine call_function_tree F.kind_sum F.plain_sum F.entry_sum (F.args_sum1 _) ?_;unfold Builtin.«sum»;simp only [List.length_cons,List.length_nil];rw [Ø ad];refine À (wpAny_of_eq (show Builtin.Builtins.bindParams "sum" ["start"] 0 { }=pure [none] from rfl) (À (æ h (λ it ő LB=>?_) λ _ _ e=>e)));obtain⟨I,fp,wr,n,P,St,bs,rfl,W,st,lt,hn,hv,q⟩:=LB;refine À (wpAny_mkInt (À (Æ ?_)));simp only [List.forIn_cons,List.forIn_nil];refine À (À (À (ŝ (T:="int") (b:=false) (LL _ _ _) sub_int_str (ü ad (Æ (À (À (ŝ (T:="int") (b:=false) (LL _ _ _) sub_int_bytes (ü ad (Æ (À (À (ŝ (T:="int") (b:=false) (LL _ _ _) sub_int_bytearray (ü ad (Æ (Æ (À (ý ?_))))))))))))))))));have nS:ő.heap.objs.size ∉ fp:=λ m=>ĝ _ (lt _ m);refine Æ ⟨plainId_quiet J' _,qJ W bs hv hn nS n 0 _ ő.toks 0 (Nat.zero_add _) (W.frame _ _ _ st λ b _ o e=>Á _ e) (Í _ rfl) λ h' tk t' k=>q h' tk t' λ b o hb e=>k b o hb (Î (È e)) (Á _ e)⟩
end
section
variable {prog:Program}{w:World}{A:Around}{E:cy}{s:Shared}
theorem j9:plainId "proto.unchain" = true:=ao
theorem j5:entryFor table "proto.unchain" = some Builtin.«proto.unchain» := entryFor_of_fast (by kernel_rfl)
theorem C6 {α:Type}{a x C t:Addr}{d:Option Addr}{v:Value}{oa:Obj}{vs:Array Value}{Q:α->Shared->Prop}(hh:A.handled=some (.ref x))(ne:x≠a)(hx:s.heap.get? x=some (iL C d t v))(ha:s.heap.get? a=some oa)(hd:oa.data=.fields vs)(h2:2<vs.size)(k:E (.ref a) { s with heap:=s.heap.update a (Obj.mapFields λ y=>y.setIfInBounds 2 (.ref x)) }):wpAny (model prog w) A (raiseNew (.ref a):Sem α) Q E s:=by
 unfold raiseNew;refine À (wpAny_handled ?_);rw [hh];have nb:(Value.ref x != Value.ref a)=true:=by
  rw [bne_iff_ne];intro z;exact ne (Œ z)
 show wpAny _ _ (if(Value.ref x != Value.ref a)=true then(holding [Value.ref a] (runValue (Code.builtin "proto.unchain" { pos:=[Value.ref a,.ref x,.ref x,Value.bool false] })) >>= λ _=>updateField a 2 (.ref x) >>= λ _=>throw (Value.ref a)) else throw (Value.ref a)) _ _ _
 rw [à nb];refine À (þ (wpAny_runValue (Ω j5 ?_)));rw [ŗ j9 _];refine À (ì hx rfl (x:=.none) rfl (Ł ad (Æ ?_)));show wpAny _ _ (updateField a 2 (.ref x)>>=_) _ _ _;unfold updateField;refine À (À (wpAny_load ha ?_));rw [hd];exact Ł (Å h2) (wpAny_update ha (wpAny_throw k))
abbrev SB (h:Heap)(it:Addr):Heap:=(h.update it (Obj.mapFields λ x=>x.setIfInBounds 0 Value.none)).push { cls:=Value.type "tuple",data:=Data.seq #[] }
theorem uh (h:Heap)(it:Addr):(SB h it).objs.size=h.objs.size+1:=by simp [Heap.size_push,Heap.size_update]
theorem ss {h:Heap}{it b:Addr}{o:Obj}(nb:b≠it)(e:h.get? b=some o):(SB h it).get? b=some o:=Á _ (by rw [Ü _ _ _ _ nb];exact e)
theorem tZ {h:Heap}{it b:Addr}{o:Obj}(e:h.get? b=some o):b≠(SB h it).objs.size:=by
 rw [uh];exact Î (û (È e))
theorem rS {it l x C t:Addr}{d:Option Addr}{v:Value}{i:Nat}{items:Array Value}{Q:Option Value->Shared->Prop}(hh:A.handled=some (.ref x))(hx:s.heap.get? x=some (iL C d t v))(nx:x≠it)(hit:s.heap.IsListIter it l i)(hl:s.heap.IsList l items)(hi:items[i]?=none)(q:∀ h',Heap.ExtBut it s.heap h'->Q none { s with heap:=h' }):wpAny (model prog w) A (pyNext (.ref it)) Q E s:=by
 obtain⟨o,ho,_,od⟩:=id hit;obtain⟨ol,lo,_,_,ld⟩:=hl;refine À (Ι (ē hit.typeIs slot_listiter_next (į slot_listiter_next hit.typeIs entry_listiter_next ?_ (args_listiter_next _))));refine(À (ì ho od (x:=.ref l) rfl ?_):wpAny _ _ (field (.ref it) 0>>=_) _ _ s);refine ü rfl ?_;refine(À (ì ho od (x:=.int i 0) rfl ?_):wpAny _ _ (field (.ref it) 1>>=_) _ _ s);refine(À (Ċ lo ld ?_):wpAny _ _ (seqItems? (.ref l)>>=_) _ _ s);simp only [Int.toNat_natCast,hi];refine À (LK (À (ς ho od (by simp) ?_)))
 refine(À ?_:wpAny _ _ (newExc (.type "StopIteration") []>>=_) _ _ _);simp only [newExc,newTuple];refine À (ý (À (wpAny_of_eq (a:=Value.none) (by first | rfl | (simp only [firstArgMember];rfl)) (ý ?_ (by size_fits)))) (by size_fits))
 refine C6 (A:=A.in1) hh (tZ hx) (Á _ (ss nx hx)) (Í _ rfl) rfl (Þ (by decide:2<6) (Ç 6)) ?_
 refine À (ŝ (T:="StopIteration") (b:=true) ⟨_,ò _ (Í _ rfl) rfl,rfl⟩ isSubtype_stop (Æ (q _ λ b o nb e=>?_)));rw [Ü _ _ _ _ (tZ e)];exact Á _ (ss nb e)
theorem AK {x:Addr}(hh:A.handled=some (.ref x))(I l:Addr)(nl:l≠I)(nx:x≠I)(items:Array Value):Walks prog w A I [I,l,x] [I] items.size (λ i v=>items[i]?=some v) (λ i h=>h.IsListIter I l i/\h.IsList l items/\∃ C d t v,h.get? x=some (iL C d t v)):=by
 refine⟨λ b hb=>?_,λ i h h' st k=>?_,λ i s Q E lt st q=>?_,λ s Q E st q=>?_,λ i s Q E st q=>wpAny_pyIter_listiter st.1 q⟩
 ·rw [Ô.mp hb];exact î ..
 ·obtain⟨C,d,t,v,e⟩:=st.2.2;exact⟨st.1.at λ o e=>k I (by simp) o e,st.2.1.at λ o e=>k l (by simp) o e,C,d,t,v,k x (by simp) _ e⟩
 ·obtain⟨C,d,t,v,e⟩:=st.2.2;refine wpAny_pyNext_list_item st.1 st.2.1 (x:=items[i]) (by simp [lt]) λ h' i' sb=>q _ h' s.toks (by simp [lt]) ⟨i',st.2.1.extBut sb.extBut nl,C,d,t,v,sb.extBut _ _ nx e⟩ λ b o hb e=>sb.extBut b o (λ z=>hb (by simp [z])) e
 ·obtain⟨C,d,t,v,e⟩:=st.2.2;exact rS hh e nx st.1 st.2.1 (by simp) λ h' k=>q h' s.toks λ b o hb e=>k b o (λ z=>hb (by simp [z])) e
end
section
variable {X:Cx}
def sL (K:Frag):V->List V->Hp->VK->Prop:=λ x vs H Q=>∃(l:Addr)(xs:List V)(y:V)(j:Nat),x=.ref l/\vs=[y]/\ó K H l xs/\xs.length<=1000/\xs.all jA=true/\jA y=true/\(∃ z,xs[j]?=some z/\p5 z y=true)/\(∀(i:Nat) z,i<j->xs[i]?=some z->p5 z y=false)/\Q (.int (j:Nat)) H
def kc (y:V)(z:Value):Bool:=match vM z with
 | some a=>p5 a y
 | none=>false
theorem vI:HA X "list.index" (sL X.K):=by
 intro Ã s σ H x vs v us Q I rx rv h;obtain⟨l,xs,y,j,rfl,rfl,hl,l1,f1,f2,⟨z,ez,hz⟩,hb,q⟩:=h;cases rx;obtain⟨u,rfl,ru⟩:=eG rv;obtain⟨its,r,pl,_⟩:=I.list hl;obtain⟨⟨cls,dd,data,sl⟩,ho,hc,n,hd⟩:=id pl.isList;simp only at hc hd;subst hc hd;have ll:=r.length;have lj:j<xs.length:=(Ë.mp ez).1;have at_:∀(i:Nat)(hi:i<its.length),kc y its[i]=p5 (xs[i]'am) y:=λ i hi=>by
  have k1:i<xs.length:=am;obtain⟨u1,e1,q1⟩:=r.get (Â k1);rw [Â hi] at e1;cases e1;unfold kc;rw [q1.abs]
 refine LM š ⟨_,ho,rfl⟩ Pr (Pf _ _) (SeqAt.list_indexAt l its.toArray n dd sl u (kc y) j (by simpa using (by omega:j<its.length)) am ?_ ?_) ⟨ho,λ w hw=>?_,⟨.int _,H,I.tok _,⟨_,rfl⟩,q⟩⟩
 ·show kc y its[j]=true;rw [at_ j am];rw [Â lj] at ez;rw [Û ez];exact hz
 ·intro i hi lt;show kc y (its[i]'am)=false;rw [at_ i am];exact hb i _ lt (Â am)
 ·obtain⟨i,hi,e⟩:=Ĺ (show w∈its by simpa using hw)
  have k1:i<xs.length:=am;obtain⟨u1,e1,q1⟩:=r.get (Â k1);rw [Â hi,e] at e1;cases e1;unfold kc;rw [q1.abs];exact uX q1 ru (ě.mp f1 _ (đ k1)) f2
theorem iX:∀{bs:List Bool}{us:List Value},Vals (bs.map V.bl) us->us=bs.map Value.bool
 | [],_,.nil=>rfl
 | b::bs,_,.cons r h=>by
  rw [iX h];rw [show _=Value.bool b from r];rfl
theorem qu (bs:List Bool):∀ n,n<=bs.length->preSum (λ i=>tI (bs.getD i false)) n=((bs.take n).map tI).sum
 | 0,_=>rfl
 | n+1,h=>by
  show preSum (λ i=>tI (bs.getD i false)) n+tI (bs.getD n false)=_;rw [qu bs n am,aQ (Â (by omega:n<bs.length)),Ï,ł,Ī,Â (by omega:n<bs.length)]
  simp
def yq (K:Frag)(Ă:Addr):List V->Hp->VK->Prop:=λ vs H Q=>∃(l:Addr)(bs:List Bool),vs=[.ref l]/\ó K H l (bs.map V.bl)/\bs.length<=1000/\(∃ C d,H Ă = some (fP Ă C d))/\Q (.int (bs.map tI).sum) H
theorem qN {Ă:Addr}(hh:X.A.handled=some (.ref Ă)):cP X (.builtin "sum") (yq X.K Ă):=by
 intro Ã s σ H xs us Q I r h;obtain⟨l,bs,rfl,hl,lb,⟨C,d,hx⟩,q⟩:=h;obtain⟨u,rfl,ru⟩:=eG r;cases (show u=Value.ref l from ru);obtain⟨its,rv,p,hz⟩:=I.list hl;have e:=iX rv;subst e;obtain⟨t,v,ex⟩:=qa I.Ć hx;have hL:=p.isList;have ll:l<s.heap.objs.size:=by obtain⟨_,e,_⟩:=id hL;exact È e
 have lx:Ă < s.heap.objs.size:=È ex;refine qV (m_ hL ?_);refine⟨_,_,_,_,_,_,λ i=>bs.getD i false,rfl,AK (A:=X.A.in1) hh _ l (Î ll) (Î lx) (bs.map Value.bool).toArray,⟨⟨_,Í _ rfl,rfl,rfl⟩,hL.push _,C,d,t,v,Á _ ex⟩,λ b hb=>?_,by simpa using lb,λ i v hv=>?_,λ h' tk t' hk=>?_⟩
 ·show b<(s.heap.push _).objs.size;rw [ë];simp only [List.mem_cons,List.not_mem_nil,or_false] at hb;rcases hb with rfl | rfl | rfl
  ·exact ψ _
  ·exact û ll
  ·exact û lx
 ·simp only [List.getElem?_toArray,List.getElem?_map] at hv;obtain⟨b,eb,rfl⟩:=á.mp hv;show Value.bool b=Value.bool (bs.getD i false);rw [Ī,eb];rfl
 ·have es:preSum (λ i=>tI (bs.getD i false)) (bs.map Value.bool).toArray.size=(bs.map tI).sum:=by
   rw [show(bs.map Value.bool).toArray.size=bs.length by simp,qu bs _ (Nat.le_refl _),List.take_length]
  rw [es];refine⟨.int _,H,I.kept λ b o e=>hk b o (λ z=>?_) (Á _ e),⟨t',rfl⟩,q⟩;have:=È e;rw [Ô.mp z] at this;exact ĝ _ this
end
def fR:Nat->Str
 | 0 => "folk"
 | 1 => "outcome"
 | 2 => "sure"
 | 3 => "pairs"
 | 4 => "weights"
 | 5 => "trials"
 | _ => "dealing"
structure K7 (K:Frag)(mg:bv)(Cs:Nat->Addr):Prop where
 N:pY K
 it:∀ i,i<7->j3 K (Cs i)
 kk:∀ i j,i<7->j<7->kitOne K (.ref (Cs i)) (.ref (Cs j))=some (i==j)
 kv:∀ i,i<7->kitOne K (.ref (Cs i)) (.type "ValueError")=some true
 m0:mg "NoFolk" = some (.ref (Cs 0))
 m1:mg "NoOutcome" = some (.ref (Cs 1))
 m2:mg "NotSure" = some (.ref (Cs 2))
 m3:mg "NoPairs" = some (.ref (Cs 3))
 m4:mg "NoWeights" = some (.ref (Cs 4))
 m5:mg "NoTrials" = some (.ref (Cs 5))
 m6:mg "NoDealing" = some (.ref (Cs 6))
 mi:mg "isinstance" = none
 ms:mg "sum" = none
 mV:mg "ValueError" = none
section
variable {P:Program}{w:World}{K:Frag}{mg:bv}{base:Heap}{Cs:Nat->Addr}{f:Addr}{fd:FuncData}
abbrev DT:Stmt:=cr 78
abbrev Kt:List Str:=["_law_e","_law_kinds"]
theorem RP:ae Kt ["_law_e"] (aa DT):=aO
def vD (K:Frag)(c:V):TE:=iQ (yS K) (ag (ar 0) (ag (tC c) aG))
def Ju (K:Frag)(Cs:Nat->Addr):TS:=cV (aT (ag (vD K (.ref (Cs 0))) (ag (vD K (.ref (Cs 1))) (ag (vD K (.ref (Cs 2))) (ag (vD K (.ref (Cs 3))) aG))))) (bF 1)
def EK (K:Frag)(Cs:Nat->Addr):TS:=cV (aS i5 (ar 1) (aT (ag (vD K (.ref (Cs 4))) (ag (vD K (.ref (Cs 5))) (ag (vD K (.ref (Cs 6))) aG))))) (bF 1)
def Hm (K:Frag)(Ă:Addr):TS:=dQ (yY (tB (aS Dc (iQ (yq K Ă) (ag (ar 1) aG)) (tC (.int 1)))) (mj (tB (vD K (.ty "ValueError"))))) (cW (tC (.str "odd"))) bZ
def FZ (K:Frag):TS:=cW (aS (cX K) (aT (ag (tC (.str "folk")) (ag (tC (.str "outcome")) (ag (tC (.str "sure")) (ag (tC (.str "pairs")) (ag (tC (.str "weights")) (ag (tC (.str "trials")) (ag (tC (.str "dealing")) aG)))))))) (yG K "list" (sL K) (ar 1) (ag (tC (.bl true)) aG)))
def K6 (K:Frag)(Cs:Nat->Addr)(Ă:Addr):TS:=aZ (Ju K Cs) (aZ (EK K Cs) (aZ (Hm K Ă) (FZ K)))
section
variable {cdv:Value}{A:Around}{outer:List Env}{s:Shared}{H:Hp}{E:XK}{Ă:Addr}
theorem A8 (Z:K7 K mg Cs)(hr:Η 0 (A.deeper (PyProof.Rows.envOfC "_law_kind" (aa DT) s.heap.objs.size f cdv)) Ă):Bx (Ų (AG P w K mg base Kt "_law_kind" (aa DT) f cdv A outer s H E).Ŝ (aH DT) (K6 K Cs Ă)):=by
 have nd:=RP.nd;have is (X:Cx)(eK:X.K=K):pY X.K:=eK ▸ Z.N;exact cA (aP (i:=1) nd rfl (Or.inl rfl) ⟨aY (ac (ah (cU Z.N) rfl Z.mi Ê (ac (pv 0) (ac (aI (v:=.ref (Cs 0)) rfl Z.m0 rfl) aq))) (ac (ah (cU Z.N) rfl Z.mi Ê (ac (pv 0) (ac (aI (v:=.ref (Cs 1)) rfl Z.m1 rfl) aq))) (ac (ah (cU Z.N) rfl Z.mi Ê (ac (pv 0) (ac (aI (v:=.ref (Cs 2)) rfl Z.m2 rfl) aq))) (ac (ah (cU Z.N) rfl Z.mi Ê (ac (pv 0) (ac (aI (v:=.ref (Cs 3)) rfl Z.m3 rfl) aq))) aq))))⟩)
  (cA (aP (i:=1) nd rfl (Or.inl rfl) ⟨aC iE (pv 1) (aY (ac (ah (cU Z.N) rfl Z.mi Ê (ac (pv 0) (ac (aI (v:=.ref (Cs 4)) rfl Z.m4 rfl) aq))) (ac (ah (cU Z.N) rfl Z.mi Ê (ac (pv 0) (ac (aI (v:=.ref (Cs 5)) rfl Z.m5 rfl) aq))) (ac (ah (cU Z.N) rfl Z.mi Ê (ac (pv 0) (ac (aI (v:=.ref (Cs 6)) rfl Z.m6 rfl) aq))) aq))))⟩)
  (cA ⟨bf (PW.pt (fV (aA gC (ah (qN hr.hd) rfl Z.ms Ė (ac (pv 1) aq)) aB (az _)) (dH (bu (aX (ah (cU Z.N) rfl Z.mi Ê (ac (pv 0) (ac (gG rfl Z.mV rfl) aq)))))))) (bj (cM av)) fF⟩
  (be (gP ⟨ft iB (aY (ac av (ac av (ac av (ac av (ac av (ac av (ac av aq)))))))) (jV ď š P3 vI (pv 1) (ac gR aq))⟩))))
end
end
def b7 (j:Nat):List Bool:=[j==0,j==1,j==2,j==3,j==4,j==5,j==6]
theorem Bo:∀ j,j<7->((b7 j).map tI).sum=1
 | 0,_=>rfl
 | 1,_=>rfl
 | 2,_=>rfl
 | 3,_=>rfl
 | 4,_=>rfl
 | 5,_=>rfl
 | 6,_=>rfl
theorem wv (j:Nat):((b7 j).map V.bl).all jA=true:=rfl
theorem F3:∀ j,j<7->∃ z,((b7 j).map V.bl)[j]?=some z/\p5 z (.bl true)=true
 | 0,_=>⟨_,rfl,rfl⟩
 | 1,_=>⟨_,rfl,rfl⟩
 | 2,_=>⟨_,rfl,rfl⟩
 | 3,_=>⟨_,rfl,rfl⟩
 | 4,_=>⟨_,rfl,rfl⟩
 | 5,_=>⟨_,rfl,rfl⟩
 | 6,_=>⟨_,rfl,rfl⟩
theorem Fw {j:Nat}(hj:j<7)(i:Nat)(z:V)(lt:i<j)(e:((b7 j).map V.bl)[i]?=some z):p5 z (.bl true)=false:=by
 have f:(j==i)=false:=by simp;omega
 match i,(by omega:i<7) with
 | 0,_=>cases e;rw [f];rfl
 | 1,_=>cases e;rw [f];rfl
 | 2,_=>cases e;rw [f];rfl
 | 3,_=>cases e;rw [f];rfl
 | 4,_=>cases e;rw [f];rfl
 | 5,_=>cases e;rw [f];rfl
 | 6,_=>cases e;rw [f];rfl
def w7:List V:=[.str "folk",.str "outcome",.str "sure",.str "pairs",.str "weights",.str "trials",.str "dealing"]
theorem Fh:∀ j,j<7->w7[j]?=some (.str (fR j))
 | 0,_=>rfl
 | 1,_=>rfl
 | 2,_=>rfl
 | 3,_=>rfl
 | 4,_=>rfl
 | 5,_=>rfl
 | 6,_=>rfl
section
variable {P:Program}{w:World}{K:Frag}{mg:bv}{base:Heap}{Cs:Nat->Addr}{f Ă dx:Addr}{fd:FuncData}{H:Hp}{σ:St}{Q:VK}{j:Nat}{fs:List (Str × V)}
theorem jP {i:Nat}(Z:K7 K mg Cs)(hj:j<7)(hi:i<7)(s0:σ[0]?=some (some (.ref Ă)))(hx:H Ă = some (fP Ă (Cs j) (some dx)))(hd:H dx=some (.xd fs))(q:Q (.bl (j==i)) H):vD K (.ref (Cs i)) σ H Q :=
 ⟨_,s0,Ă,Cs j,dx,fs,_,_,rfl,hx,hd,Z.it j hj,.inl ⟨_,rfl⟩,Z.kk j i hj hi,q⟩
def u8 (Cs:Nat->Addr)(Ă:Addr):Sp:=λ vs H Q _=>∃ j dx fs,j<7/\vs=[.ref Ă]/\H Ă = some (fP Ă (Cs j) (some dx))/\H dx=some (.xd fs)/\∀ H',Ext H H'->Q (.str (fR j)) H'
theorem xi {σ:St}{Q:VK}{a b c d e f g:V}(h:∀ p,H p=none->Q (.ref p) (af H p (.lst [a,b,c,d,e,f,g]))):aT (ag (tC a) (ag (tC b) (ag (tC c) (ag (tC d) (ag (tC e) (ag (tC f) (ag (tC g) aG))))))) σ H Q:=⟨dA,h⟩
theorem GV (F:ğ K "_law_kind" "_law_kind" DT f fd)(Z:K7 K mg Cs):DV P w K mg base 1 f fd ["_law_e"] (u8 Cs):=by
 refine F.okH RP (λ Ă vs H Q E h=>?_) (λ Ă cdv A outer s H vs Q E hr h=>?_)
 ·obtain⟨_,_,_,_,rfl,_⟩:=h;rfl
 obtain⟨j,dx,fs,hj,rfl,hx,hd,q⟩:=h;obtain⟨NY⟩:=A8 (P:=P) (w:=w) (base:=base) (outer:=outer) (H:=H) (E:=E) Z hr;refine⟨_,NY,?_⟩;refine aN (te:=aT _) (i:=1) (jP Z hj ad rfl hx hd (jP Z hj ad rfl hx hd (jP Z hj ad rfl hx hd (jP Z hj ad rfl hx hd ⟨dA,λ l hl=>?_⟩))));have x1:=Ext.new (o:=.lst [.bl (j==0),.bl (j==1),.bl (j==2),.bl (j==3)]) hl;have g1:af H l (.lst [.bl (j==0),.bl (j==1),.bl (j==2),.bl (j==3)]) l=some (.lst [.bl (j==0),.bl (j==1),.bl (j==2),.bl (j==3)]):=aR;show aZ (EK K Cs) _ _ [some (.ref Ă),some (.ref l)] (af H l (.lst [.bl (j==0),.bl (j==1),.bl (j==2),.bl (j==3)]));generalize af H l (.lst [.bl (j==0),.bl (j==1),.bl (j==2),.bl (j==3)])=H1 at x1 g1 ⊢;have E_:=x1 _ _ hx;have VW:=x1 _ _ hd;refine aN (te:=aS i5 (ar 1) (aT _)) (i:=1) (gD ⟨_,rfl,jP Z hj ad rfl E_ VW (jP Z hj ad rfl E_ VW (jP Z hj ad rfl E_ VW ⟨dA,λ l2 Oc=>?_⟩))⟩);have x2:=Ext.new (o:=.lst [.bl (j==4),.bl (j==5),.bl (j==6)]) Oc;refine⟨l,l2,_,_,rfl,rfl,x2 _ _ g1,aR,by show 4+3<=sizeLine;decide,λ l3 PP=>?_⟩
 have x3:=Ext.new (o:=.lst ((b7 j).map V.bl)) PP;have g3:af (af H1 l2 (.lst [.bl (j==4),.bl (j==5),.bl (j==6)])) l3 (.lst ((b7 j).map V.bl)) l3=some (.lst ((b7 j).map V.bl)):=aR;have Nw:=(x1.trans x2).trans x3;show aZ (Hm K Ă) _ _ [some (.ref Ă),some (.ref l3)] (af (af H1 l2 (.lst [.bl (j==4),.bl (j==5),.bl (j==6)])) l3 (.lst ((b7 j).map V.bl)));generalize af (af H1 l2 (.lst [.bl (j==4),.bl (j==5),.bl (j==6)])) l3 (.lst ((b7 j).map V.bl))=H3 at x3 g3 Nw ⊢;have NT:=Nw _ _ hx;have hd3:=Nw _ _ hd;refine⟨_,rfl,l3,b7 j,rfl,ó.of g3,by show 7<=1000;decide,⟨_,_,NT⟩,rfl,_,rfl,?_⟩
 rw [Bo j hj,Å rfl];refine cE ⟨_,rfl,Ă,Cs j,dx,fs,_,_,rfl,NT,hd3,Z.it j hj,.inr ⟨_,rfl⟩,Z.kv j hj,_,rfl,cE ?_⟩;show FZ K _ [some (.ref Ă),some (.ref l3)] H3;refine gD (xi λ l4 O0=>?_);have x4:=Ext.new (o:=.lst w7) O0;have g4:af H3 l4 (.lst w7) l4=some (.lst w7):=aR;show yG K "list" (sL K) (ar 1) (ag (tC (.bl true)) aG) [some (.ref Ă),some (.ref l3)] (af H3 l4 (.lst w7)) _;generalize af H3 l4 (.lst w7)=H4 at x4 g4 ⊢;refine⟨_,rfl,.inl ⟨rfl,_,ó.of (x4 _ _ g3)⟩,l3,_,_,j,rfl,rfl,ó.of (x4 _ _ g3),by show 7<=1000;decide,wv j,rfl,F3 j hj,Fw hj,?_⟩
 exact⟨l4,_,(j:Int),_,rfl,rfl,ó.of g4,gS (Fh j hj),q H4 (Nw.trans x4)⟩
end
structure Jq (P:Program)(w:World)(K:Frag)(mg:bv)(base:Heap)(k:Nat)(nm:Str)(ps:List Str)(sp:Addr->Sp)(g:Addr)(gd:FuncData):Prop where
 G:DV P w K mg base k g gd ps sp
 b:Binds K gd ps []
 kp:keepIn K (.ref g)=true
 m:mg nm=some (.ref g)
section
variable {P:Program}{w:World}{K:Frag}{mg:bv}{base:Heap}{Cs:Nat->Addr}{D f a1 a2:Addr}{fd d1 d2:FuncData}{spC:Sp}
abbrev r6:List Str:=["_law_way","_law_one","_law_other","_law_third"]
abbrev DM:Stmt:=cr 80
abbrev Kr:List Str:=["_law_way","_law_one","_law_other","_law_third","_law_told","_law_e"]
theorem RJ:ae Kr r6 (aa DM):=aO
def Ky (Cs:Nat->Addr)(x:Addr):TE:=gE (u8 Cs x) [] E0 (ag (ar 5) aG)
def Ia (K:Frag)(Cs:Nat->Addr)(fld:Str)(x:Addr):TS:=cV (eF (ag (Ky Cs x) (ag (ut K (ar 5) fld) aG))) (bF 4)
def KK (Cs:Nat->Addr)(x:Addr):TS:=cV (eF (ag (Ky Cs x) (ag (tC .ù) aG))) (bF 4)
def zx (spC:Sp)(E:XK):TS:=iM (gE spC [] E (ag (ar 0) (ag (ar 1) (ag (ar 2) (ag (ar 3) aG)))))
def HB (K:Frag)(Cs:Nat->Addr)(D:Addr):TH:=Cc K (Cs 1) 5 (Ia K Cs "place") (Hd K (Cs 0) (Cs 4) (Cs 5) (Cs 6) 5 (Ia K Cs "found") (Cc K D 5 (KK Cs) D8))
def Lb (K:Frag)(Cs:Nat->Addr)(D:Addr)(spC:Sp):TS:=aZ (cV (tC .ù) (bF 4)) (aZ (t5 (zx spC) (HB K Cs D)) (cW (ar 4)))
section
variable {cdv:Value}{A:Around}{outer:List Env}{s:Shared}{H:Hp}{E:XK}
theorem BR (Z:K7 K mg Cs)(cC:∀ i,i<7->fg K (Cs i))(cD:fg K D)(mD:mg "DealError" = some (.ref D))(A1:Df P w K mg base (cp P w) 10 "_law_call" r6 spC a1 d1)(A2:Jq P w K mg base 1 "_law_kind" ["_law_e"] (u8 Cs) a2 d2)(hr:qX 10 "_law_refused" DM A s f cdv) :
  Bx (Ų (br ay P w K mg base Kr "_law_refused" (aa DM) f cdv A outer s H E).Ŝ (aH DM) (Lb K Cs D spC)):=by
 have nd:=RJ.nd;have Ħ:ö 1 _:=hr.mono ad;exact cA (aP (i:=4) nd rfl (Or.inl rfl) ⟨bQ⟩) (cA ⟨vK (tb:=zx spC) (th:=HB K Cs D) rfl rfl
   (λ σ E' pn xe hp=>uo (xQ A1.G hr rfl A1.m A1.kp A1.b .nil hp (C7 (ac (pv 0) (ac (pv 1) (ac (pv 2) (ac (pv 3) aq)))))))
   (qt (i:=5) nd rfl rfl (cC 1 ad) rfl Z.m1 (λ x=>bj (mq (i:=4) nd rfl (Or.inl rfl) (aU (ac (jp A2.G (Ħ.Uh x) rfl A2.m A2.kp A2.b .nil ai (ac (pv 5) aq)) (ac (my (pv 5) rfl) aq)))))
   (wR (i:=5) nd rfl rfl (cC 0 ad) (cC 4 ad) (cC 5 ad) (cC 6 ad) rfl rfl rfl rfl Z.m0 Z.m4 Z.m5 Z.m6 (λ x=>bj (mq (i:=4) nd rfl (Or.inl rfl) (aU (ac (jp A2.G (Ħ.Uh x) rfl A2.m A2.kp A2.b .nil ai (ac (pv 5) aq)) (ac (my (pv 5) rfl) aq)))))
   (qt (i:=5) nd rfl rfl cD rfl mD (λ x=>bj (mq (i:=4) nd rfl (Or.inl rfl) (aU (ac (jp A2.G (Ħ.Uh x) rfl A2.m A2.kp A2.b .nil ai (ac (pv 5) aq)) (ac bQ aq))))) vP)))⟩ (be ⟨cM (pv 4)⟩))
end
end
def ie (j:Nat):Str:=if j=1 then "place" else "found"
structure Hx (K:Frag)(Cs:Nat->Addr):Prop where
 mm:∀ i j,i<7->j<7->mroIn K (Cs i) (.ref (Cs j))=some (i==j)
 fo:∀ i,i<7->yh K (Cs i) (ie i)
def lu (Cs:Nat->Addr)(spC:Sp):Sp:=λ vs H Q _=>∃ a b c d,vs=[a,b,c,d] /\
 (((∀(Qn:VK)(E:XK),(∀ v H',Ext H H'->Qn v H')->spC vs H Qn E)/\∀ H',Ext H H'->Q .ù H') \/
   ∃ j y,(j=0\/j=1\/j=4\/j=5\/j=6)/\(∀(Qn:VK)(E:XK),(∀ H',Ext H H'->bM (Cs j) (ie j) y H' E)->spC vs H Qn E)/\∀ p H',Ext H H'->H' p=some (.tup [.str (fR j),y])->Q (.ref p) H')
section
variable {P:Program}{w:World}{K:Frag}{mg:bv}{base:Heap}{Cs:Nat->Addr}{D f a1 a2:Addr}{fd d1 d2:FuncData}{spC:Sp}{H:Hp}{De:bY}{o0 o1 o2 o3 o5:Option V}{y:V}{j:Nat}
theorem tJ {σ:St}{e dx:Addr}(M:Hx K Cs)(hj:j<7)(s5:σ[5]?=some (some (.ref e)))(he:H e=some (fP e (Cs j) (some dx)))(hd:H dx=some (.xd [(ie j,y)]))(q:∀ p H',Ext H H'->H' p=some (.tup [.str (fR j),y])->De.nx (σ.set 4 (some (.ref p))) H'):Ia K Cs (ie j) e De σ H:=by
 have F:=M.fo j hj;refine⟨_,s5,j,dx,_,hj,rfl,he,hd,λ H1 x1=>⟨_,s5,e,Cs j,dx,_,y,rfl,x1 _ _ he,x1 _ _ hd,?_,F.it,F.hd,F.nf,dA,λ p hp=>?_⟩⟩
 ·rw [è,Ĩ]
 ·exact q p _ (x1.trans (Ext.new hp)) aR
theorem zT (M:Hx K Cs)(hj:j=0\/j=1\/j=4\/j=5\/j=6)(q:∀ p H',Ext H H'->H' p=some (.tup [.str (fR j),y])->De.nx [o0,o1,o2,o3,some (.ref p),none] H'):bM (Cs j) (ie j) y H (uf (HB K Cs D) De [o0,o1,o2,o3,some .ù,o5]):=by
 have j7:j<7:=am;refine Av λ e dx H2 x2 fe fd=>⟨e,Cs j,rfl,rfl,j==1,M.mm j 1 j7 ad,?_⟩;by_cases j1:j=1
 ·subst j1;refine cQ ?_;exact tJ (j:=1) M ad rfl fe fd λ p H' x' hp=>q p H' (x2.trans x') hp
 ·rw [show(j==1)=false by simpa using j1]
  refine cE ⟨j==0,j==4,j==5,j==6,M.mm j 0 j7 ad,M.mm j 4 j7 ad,M.mm j 5 j7 ad,M.mm j 6 j7 ad,λ p hp=>?_⟩;have hb:(j==0||j==4||j==5||j==6)=true:=by
   rcases hj with rfl | rfl | rfl | rfl | rfl
   ·rfl
   ·exact absurd rfl j1
   ·rfl
   ·rfl
   ·rfl
  rw [hb];refine cQ ?_;have x3:=Ext.new (o:=oh (Cs 0) (Cs 4) (Cs 5) (Cs 6)) hp;have ef:ie j = "found" := Ø j1;have z:=tJ (De:=im De 5) (σ:=List.set [o0,o1,o2,o3,some .ù,o5] 5 (some (.ref e))) M j7 rfl (x3 _ _ fe) (x3 _ _ fd) λ p' H' x' SC=>q p' H' ((x2.trans x3).trans x') SC;rw [ef] at z;exact z
theorem Gs (F:ğ K "_law_refused" "_law_refused" DM f fd)(Z:K7 K mg Cs)(M:Hx K Cs)(cC:∀ i,i<7->fg K (Cs i))(cD:fg K D)(mD:mg "DealError" = some (.ref D))(A1:Df P w K mg base (cp P w) 10 "_law_call" r6 spC a1 d1)(A2:Jq P w K mg base 1 "_law_kind" ["_law_e"] (u8 Cs) a2 d2):ß P w K mg base ay 11 f fd r6 (lu Cs spC):=by
 refine cw F RJ λ cdv A outer s H vs Q E hr h=>?_;obtain⟨a,b,c,d,rfl,h⟩:=h;refine iU (BR Z cC cD mD A1 A2 hr) ⟨?_⟩;refine aN (te:=tC .ù) (i:=4) (um ?_);show t5 (zx spC) (HB K Cs D) _ [some a,some b,some c,some d,some .ù,none] H;rcases h with⟨h1,h2⟩ | ⟨j,y,hj,h1,h2⟩
 ·exact⟨_,rfl,_,rfl,_,rfl,_,rfl,h1 _ _ λ v H' x'=>⟨_,rfl,h2 H' x'⟩⟩
 ·exact⟨_,rfl,_,rfl,_,rfl,_,rfl,h1 _ _ λ H1 x1=>zT M hj λ p H' x' hp=>⟨_,rfl,h2 p H' (x1.trans x') hp⟩⟩
end
section
variable {P:Program}{w:World}{K:Frag}{mg:bv}{base:Heap}{C MC:Nat->Addr}{f S g:Addr}{fd gd:FuncData}
abbrev wG:Stmt:=aE (cr 63) 0
def mE (MC:Nat->Addr):Sp:=λ vs H Q _=>∃ x v k dx,k<4/\vs=[.ref x,v]/\H x=some (.ins (MC k) dx [])/\Q .ù (af H x (.ins (MC k) dx [("mark",v)]))
theorem yB:ae ["self","mark"] ["self","mark"] (aa wG):=aO
theorem BZ (Z:KM K MC)(F:ğ K "__init__" "Measure.__init__" wG f fd):ß P w K mg base ay 1 f fd ["self","mark"] (mE MC):=by
 refine cw F yB λ cdv A outer s H vs Q E hr h=>?_;obtain⟨x,v,k,dx,hk,rfl,hx,q⟩:=h;exact⟨_,bj (dq (pv 0) (pv 1) rfl),_,rfl,_,rfl,x,_,dx,[],rfl,hx,Z.cls k hk,Z.no k hk,ad,q⟩
def gF (MC:Nat->Addr)(k:Nat):Sp:=λ vs H Q _=>∃ x dx,vs=[.ref x]/\H x=some (.ins (MC k) dx [])/\∀ m H',Kept H H' x->H' m=some (.tup [.str (qh k)])->H' x=some (.ins (MC k) dx [("mark",.ref m)])->Q .ù H'
abbrev C5:Stmt:=aE (cr 64) 0
theorem ES:ae ["self"] ["self"] (aa C5):=aO
theorem Cq (F:ğ K "__init__" "Sum.__init__" C5 f fd)(Cf:eL K S "__init__" g)(G:ß P w K mg base ay 1 g gd ["self","mark"] (mE MC))(bG:Binds K gd ["self","mark"] [])(mS:mg "Measure" = some (.ref S)):ß P w K mg base ay 2 f fd ["self"] (gF MC 0):=by
 refine cw F ES λ cdv A outer s H vs Q E hr h=>?_;obtain⟨x,dx,rfl,hx,q⟩:=h;refine⟨_,bj (ax (bS Cf G hr rfl mS bG .nil ai (ac (pv 0) (ac (aU (ac av aq)) aq)))),?_⟩;refine⟨_,rfl,dA,λ t ht=>?_⟩;have x1:=Ext.new (o:=.tup [.str "sum"]) ht;have ne:t≠x:=λ e=>by rw [e,hx] at ht;cases ht
 refine⟨x,_,0,dx,ad,rfl,x1 _ _ hx,q t _ ((x1.kept x).trans (bh _)) ?_ aR⟩;rw [au ne];exact aR
abbrev Al:Stmt:=aE (cr 65) 0
theorem EY:ae ["self"] ["self"] (aa Al):=aO
theorem Bp (F:ğ K "__init__" "Ranks.__init__" Al f fd)(Cf:eL K S "__init__" g)(G:ß P w K mg base ay 1 g gd ["self","mark"] (mE MC))(bG:Binds K gd ["self","mark"] [])(mS:mg "Measure" = some (.ref S)):ß P w K mg base ay 2 f fd ["self"] (gF MC 1):=by
 refine cw F EY λ cdv A outer s H vs Q E hr h=>?_;obtain⟨x,dx,rfl,hx,q⟩:=h;refine⟨_,bj (ax (bS Cf G hr rfl mS bG .nil ai (ac (pv 0) (ac (aU (ac av aq)) aq)))),?_⟩;refine⟨_,rfl,dA,λ t ht=>?_⟩;have x1:=Ext.new (o:=.tup [.str "ranks"]) ht;have ne:t≠x:=λ e=>by rw [e,hx] at ht;cases ht
 refine⟨x,_,1,dx,ad,rfl,x1 _ _ hx,q t _ ((x1.kept x).trans (bh _)) ?_ aR⟩;rw [au ne];exact aR
abbrev Dx:Stmt:=aE (cr 66) 0
theorem F0:ae ["self"] ["self"] (aa Dx):=aO
theorem AN (F:ğ K "__init__" "Wins.__init__" Dx f fd)(Cf:eL K S "__init__" g)(G:ß P w K mg base ay 1 g gd ["self","mark"] (mE MC))(bG:Binds K gd ["self","mark"] [])(mS:mg "Measure" = some (.ref S)):ß P w K mg base ay 2 f fd ["self"] (gF MC 2):=by
 refine cw F F0 λ cdv A outer s H vs Q E hr h=>?_;obtain⟨x,dx,rfl,hx,q⟩:=h;refine⟨_,bj (ax (bS Cf G hr rfl mS bG .nil ai (ac (pv 0) (ac (aU (ac av aq)) aq)))),?_⟩;refine⟨_,rfl,dA,λ t ht=>?_⟩;have x1:=Ext.new (o:=.tup [.str "wins"]) ht;have ne:t≠x:=λ e=>by rw [e,hx] at ht;cases ht
 refine⟨x,_,2,dx,ad,rfl,x1 _ _ hx,q t _ ((x1.kept x).trans (bh _)) ?_ aR⟩;rw [au ne];exact aR
abbrev AE:Stmt:=aE (cr 67) 0
theorem Ga:ae ["self"] ["self"] (aa AE):=aO
theorem Au (F:ğ K "__init__" "Signs.__init__" AE f fd)(Cf:eL K S "__init__" g)(G:ß P w K mg base ay 1 g gd ["self","mark"] (mE MC))(bG:Binds K gd ["self","mark"] [])(mS:mg "Measure" = some (.ref S)):ß P w K mg base ay 2 f fd ["self"] (gF MC 3):=by
 refine cw F Ga λ cdv A outer s H vs Q E hr h=>?_;obtain⟨x,dx,rfl,hx,q⟩:=h;refine⟨_,bj (ax (bS Cf G hr rfl mS bG .nil ai (ac (pv 0) (ac (aU (ac av aq)) aq)))),?_⟩;refine⟨_,rfl,dA,λ t ht=>?_⟩;have x1:=Ext.new (o:=.tup [.str "signs"]) ht;have ne:t≠x:=λ e=>by rw [e,hx] at ht;cases ht
 refine⟨x,_,3,dx,ad,rfl,x1 _ _ hx,q t _ ((x1.kept x).trans (bh _)) ?_ aR⟩;rw [au ne];exact aR
structure JZ (P:Program)(w:World)(K:Frag)(mg:bv)(base:Heap)(MC:Nat->Addr)(f0 f1 f2 f3:Addr)(e0 e1 e2 e3:FuncData):Prop where
 k0:Mk K (MC 0) f0
 k1:Mk K (MC 1) f1
 k2:Mk K (MC 2) f2
 k3:Mk K (MC 3) f3
 g0:ß P w K mg base ay 2 f0 e0 ["self"] (gF MC 0)
 g1:ß P w K mg base ay 2 f1 e1 ["self"] (gF MC 1)
 g2:ß P w K mg base ay 2 f2 e2 ["self"] (gF MC 2)
 g3:ß P w K mg base ay 2 f3 e3 ["self"] (gF MC 3)
 b0:Binds K e0 ["self"] []
 b1:Binds K e1 ["self"] []
 b2:Binds K e2 ["self"] []
 b3:Binds K e3 ["self"] []
 m0:mg "Sum" = some (.ref (MC 0))
 m1:mg "Ranks" = some (.ref (MC 1))
 m2:mg "Wins" = some (.ref (MC 2))
 m3:mg "Signs" = some (.ref (MC 3))
theorem Hg {H:Hp}{x dx:Addr}{R:VK}{E:XK}{k:Nat}(hx:H x=none)(hd:H dx=none)(ne:dx≠x)(q:∀ H',Ext H H'->Me MC H' k (.ref x)->R .ù H'):gF MC k [.ref x] (af (af H dx (.own x)) x (.ins (MC k) dx [])) R E:=by
 have xe:=bO (u:=.own x) (v:=.ins (MC k) dx []) hx hd ne;exact⟨x,dx,rfl,aR,λ m H' kp hm OU=>q H' (xe.kp hx kp) ⟨x,dx,m,rfl,OU,hm⟩⟩
end
structure KW (K:Frag)(MC:Nat->Addr)(MS:Addr):Prop where
 cls:N1 K (MC 4)
 no:∀ n,n∈(["inner","weights","mark"]:List Str)->ŵ K (MC 4) n
 ha:∀ i,i<5->PySem.W.findIn K (.ref (MC i)) "__class__" = some (some (.builtin "object.__class__"))
 hn:PySem.W.specialIn K (.builtin "object.__class__") "__get__" = some (some (.builtin "getset_descriptor.__get__"))
 MM:PySem.W.takesIn K (.builtin "object.__class__")=some true
 hm:∀ i,i<5->PySem.W.mroIn K (MC i) (.type "object")=some true
 kk:∀ i j,i<5->j<4->kitOne K (.ref (MC i)) (.ref (MC j))=some (i==j)
 kM:∀ i,i<5->kitOne K (.ref (MC i)) (.ref MS)=some true
def InK (K:Frag)(MC:Nat->Addr)(H:Hp)(v:V)(b:Bool):Prop:=∃ t,ņ K H v t/\kitAny K t [.ref (MC 0),.ref (MC 1),.ref (MC 2),.ref (MC 3)]=some b
theorem InK.ext {K:Frag}{MC:Nat->Addr}{H H':Hp}{v:V}{b:Bool}(h:InK K MC H v b)(x:Ext H H'):InK K MC H' v b:=by
 obtain⟨t,k,e⟩:=h;exact⟨t,My.ņ.ext k x,e⟩
theorem vA {K:Frag}{t a b c d:Value}{x y z u:Bool}(h1:kitOne K t a=some x)(h2:kitOne K t b=some y)(h3:kitOne K t c=some z)(h4:kitOne K t d=some u):kitAny K t [a,b,c,d]=some (x||(y||(z||u))):=by
 cases x <;> cases y <;> cases z <;> cases u <;> simp [kitAny,h1,h2,h3,h4]
theorem Me.inK {K:Frag}{MC:Nat->Addr}{MS:Addr}{H:Hp}{k:Nat}{v:V}(Z:KM K MC)(Y:KW K MC MS)(hk:k<4)(h:Me MC H k v):InK K MC H v true:=by
 obtain⟨a,dx,m,rfl,ha,_⟩:=h;have k5:k<5:=û hk;refine⟨_,.ins ha (Z.cls k hk) (Y.ha k k5) Y.hn Y.MM (Y.hm k k5),?_⟩;rw [vA (Y.kk k 0 k5 ad) (Y.kk k 1 k5 ad) (Y.kk k 2 k5 ad) (Y.kk k 3 k5 ad)]
 match k,hk with
 | 0,_=>rfl
 | 1,_=>rfl
 | 2,_=>rfl
 | 3,_=>rfl
def Wm (MC:Nat->Addr)(H:Hp)(k:Nat)(ws:List Int)(v:V):Prop:=∃ a dx i t m r,v=.ref a/\H a=some (.ins (MC 4) dx [("inner",i),("weights",.ref t),("mark",.ref m)])/\Me MC H k i/\H t=some (.tup (ws.map V.int))/\H m=some (.tup [.str "weighted",.ref r,.ref t])/\H r=some (.tup [.str (qh k)])
def JH (ws:List Int):Prop:=1<=ws.length/\ws.length<=6/\∀ n∈ws,0<=n/\n<=20
def Qv (xs:List V):Bool:=(decide (1<=xs.length)&&decide (xs.length<=6))&&(xs.map (LJ 0 20)).all id
theorem A9 {ws:List Int}(h:JH ws):Qv (ws.map V.int)=true:=by
 unfold Qv;rw [Ä,Å h.1,Å h.2.1,ĵ,ĵ,ě];intro b hb;rw [QB] at hb;obtain⟨n,hn,rfl⟩:=ć.mp hb;obtain⟨h1,h2⟩:=h.2.2 n hn;show(decide ((0:Int)<=n)&&decide (n<=20))=true;rw [Å h1,Å h2];rfl
section
variable {P:Program}{w:World}{K:Frag}{mg:bv}{base:Heap}{C MC:Nat->Addr}{MS f g a1 a2 D CT CW fT fW:Addr}{fd gd d1 d2 eT eW:FuncData}
abbrev CB:Stmt:=cr 68
def yc (K:Frag)(MC:Nat->Addr):Sp:=λ vs H Q _=>∃ v b,vs=[v]/\InK K MC H v b/\∀ H',Ext H H'->Q (.bl b) H'
theorem G9:ae ["thing"] ["thing"] (aa CB):=aO
theorem Ai (F:ğ K "may_be_inner" "may_be_inner" CB f fd)(m0:mg "Sum" = some (.ref (MC 0)))(m1:mg "Ranks" = some (.ref (MC 1)))(m2:mg "Wins" = some (.ref (MC 2)))(m3:mg "Signs" = some (.ref (MC 3)))(mi:mg "isinstance" = none):ß P w K mg base ay 1 f fd ["thing"] (yc K MC):=by
 refine cw F G9 λ cdv A outer s H vs Q E hr h=>?_;obtain⟨v,b,rfl,bk,q⟩:=h;refine⟨_,bj (cM (ah ko rfl mi Ê (ac (pv 0) (ac (aU (ac (aI (v:=.ref (MC 0)) rfl m0 rfl) (ac (aI (v:=.ref (MC 1)) rfl m1 rfl) (ac (aI (v:=.ref (MC 2)) rfl m2 rfl) (ac (aI (v:=.ref (MC 3)) rfl m3 rfl) aq))))) aq)))),?_⟩;refine⟨_,rfl,dA,λ p hp=>?_⟩;have x1:=Ext.new (o:=.tup [.ref (MC 0),.ref (MC 1),.ref (MC 2),.ref (MC 3)]) hp;obtain⟨t,ty,ka⟩:=bk.ext x1;exact⟨v,p,[MC 0,MC 1,MC 2,MC 3],t,b,rfl,ty,aR,ka,q _ x1⟩
abbrev IK:Stmt:=cr 69
def DZ (K:Frag):Sp:=λ vs H Q _=>∃ v,vs=[v]/\((Pp K H v "list" /\ ∀ H',Ext H H'->Q (.bl false) H')\/∃ a xs,v=.ref a/\H a=some (.lst xs)/\xs.length<1000/\(∀ x∈xs,Th K H x)/\∀ H',Ext H H'->Q (.bl (Qv xs)) H')
theorem HG:ae ["thing"] ["thing"] (aa IK):=aO
abbrev El:Scope:=eZ [("weight",.local),("is_whole",.globalImplicit),("MOST_WEIGHT",.globalImplicit)]
theorem Dt {X:Cx}:bL X El [] ["weight"] [] []:=by
 refine⟨rfl,rfl,ao,ao,ao,(λ z c h=>nomatch h),(λ z h=>?_),ao,(λ k z h=>by simp at h),rfl⟩
 exfalso;have h':List.lookup z [((".0" : Str),NameKind.local),(("weight" : Str),NameKind.local),(("is_whole" : Str),NameKind.globalImplicit),(("MOST_WEIGHT" : Str),NameKind.globalImplicit)]=some .cell\/List.lookup z [((".0" : Str),NameKind.local),(("weight" : Str),NameKind.local),(("is_whole" : Str),NameKind.globalImplicit),(("MOST_WEIGHT" : Str),NameKind.globalImplicit)]=some .free:=h;simp only [List.lookup_cons,List.lookup_nil] at h'
 repeat' (split at h')
 all_goals simp at h'
theorem JD:((["weight"]:List Str)++([]:List Str)).Nodup:=ao
theorem GQ {t t':Tok}(N:pY K)(F:ğ K "are_weights" "are_weights" IK f fd)(A2:Df P w K mg base ay 2 "is_whole" ["thing","low","high"] (eS K) a2 d2)(mR:mg "MOST_WEIGHTS" = some (.int 6 t))(mR':mg "MOST_WEIGHT" = some (.int 20 t'))
  (mi:mg "isinstance" = none)(ml:mg "list" = none)(mn:mg "len" = none)(ma:mg "all" = none):ß P w K mg base ay 3 f fd ["thing"] (DZ K):=by
 refine cw F HG λ cdv A outer s H vs Q E hr h=>?_;obtain⟨v,rfl,h⟩:=h;refine⟨_,cL (bf (PW.pt (fV (bu (aX (ah (dD N) rfl mi Ê (ac (pv 0) (ac (gG rfl ml Ĥ) aq))))) (dH (bu (aX (cq A2 hr ai (ac (ah aF rfl mn ñ (ac (pv 0) aq)) (ac aB (ac (aI (v:=.int 6) rfl mR ⟨_,rfl⟩) aq))))))))) (bj (cM gR)) fF)
  (bj (cM (ah (nq rfl) rfl ma PyProof.Rows.boot_all (ac (dL (te:=gE (eS K) [] E0 (ag (ar 0) (ag (tC (.int 0)) (ag (tC (.int 20)) aG)))) (g:=bF 0) rfl Dt (bC (pv 0)) (λ s H C fp=>by exact dG (i:=0) JD rfl (.inl rfl)) (λ s H C fp=>by exact cq A2 hr ai (ac (pv 0) (ac aB (ac (aI (v:=.int 20) rfl mR' ⟨_,rfl⟩) aq))))) aq)))),?_⟩
 rcases h with⟨⟨t,kd,kt⟩,q⟩ | ⟨a,xs,rfl,ha,Sr,bk,q⟩
 ·exact⟨_,rfl,_,_,_,_,rfl,kd,kt,_,rfl,cQ (cQ (q H (Ext.refl _)))⟩
 refine⟨_,rfl,_,_,_,_,rfl,.inl (.lst ha),rfl,_,rfl,cE ?_⟩;refine⟨_,rfl,a,xs,rfl,.inl (ó.of ha),_,1,6,rfl,.inl ⟨_,rfl⟩,_,rfl,?_⟩;have ei:LJ 1 6 (.int (xs.length:Nat))=(decide (1<=xs.length)&&decide (xs.length<=6)):=by
  show(decide ((1:Int)<=(xs.length:Nat))&&decide (((xs.length:Nat):Int)<=6))=_
  congr 1 <;> exact Na.mpr am
 rw [ei];unfold Qv at q;cases e:decide (1<=xs.length)&&decide (xs.length<=6) with
 | false =>
  rw [e,Ν] at q;exact cQ (q H (Ext.refl _))
 | true =>
  rw [e,ĵ] at q;refine cE ⟨_,rfl,a,rfl,⟨_,ó.of ha⟩,λ D hD=>?_⟩;refine cI (a:=a) (xs:=xs) (λ i ys H'=>Ext H H'/\ys=((xs.take i).map (LJ 0 20)).map V.bl) (by rw [Ö];omega) ⟨Ext.new hD,rfl⟩ (λ i ys H' pv=>ó.of (pv.1 _ _ ha)) ?_ ?_
  ·rintro i x ys H' ex ly ĩ ⟨x',rfl⟩ os ŋ R k;obtain⟨o0,rfl⟩:∃ o0,os=[o0]:=by
    match os,ŋ with
    | [o0],_=>exact⟨o0,rfl⟩
   refine⟨⟨[some x],rfl,rfl⟩,_,rfl,x,0,20,rfl,(bk x (ê ex)).ext x',k _ H' ĩ ⟨bz _ x' hD,?_⟩⟩;rw [aQ ex,Ï,Ï];rfl
  ·rintro ys H' ly ĩ ⟨x',rfl⟩;rw [ä] at ĩ;exact⟨D,_,rfl,ó.of ĩ,q H' x'⟩
def yw (MC:Nat->Addr):Sp:=λ vs H Q _=>∃ x v dx fs,vs=[.ref x,v]/\H x=some (.ins (MC 4) dx fs)/\fs.length<20/\Q .ù (af H x (.ins (MC 4) dx (bK "mark" v fs)))
theorem AR (Y:KW K MC MS)(F:ğ K "__init__" "Measure.__init__" wG f fd):ß P w K mg base ay 1 f fd ["self","mark"] (yw MC):=by
 refine cw F yB λ cdv A outer s H vs Q E hr h=>?_;obtain⟨x,v,dx,fs,rfl,hx,l,q⟩:=h;exact⟨_,bj (dq (pv 0) (pv 1) rfl),_,rfl,_,rfl,x,_,dx,fs,rfl,hx,Y.cls,Y.no _ ao,am,q⟩
abbrev HJ:Stmt:=aE (cr 70) 0
abbrev vk:List Str:=["self","inner","weights"]
theorem Jk:ae vk vk (aa HJ):=aO
def nI (K:Frag)(MC:Nat->Addr)(CT CW:Addr):Sp:=λ vs H Q E=>∃(x:Addr)(v u:V)(dx:Addr)(G:Hp),vs=[.ref x,v,u]/\H x=some (.ins (MC 4) dx [])/\Ext G H/\G x=none/\((InK K MC G v false/\∀ H',Ext H H'->bM CT "found" v H' E) \/
 ∃ k,k<4/\Me MC G k v/\((Pp K G u "list" /\ ∀ H',Ext H H'->bM CW "found" u H' E)\/(∃ a xs,u=.ref a/\G a=some (.lst xs)/\xs.length<1000/\(∀ x∈xs,Th K G x)/\Qv xs=false/\∀ H',Ext H H'->bM CW "found" u H' E) \/
 ∃ a ws,u=.ref a/\G a=some (.lst (ws.map V.int))/\JH ws/\∀ H',Kept H H' x->Wm MC H' k ws (.ref x)->Q .ù H'))
theorem FF (Z:KM K MC)(Y:KW K MC MS)(F:ğ K "__init__" "Weighted.__init__" HJ f fd)(B:Į K D)(T1:iI K mg D "NoTrials" "found" CT fT eT)(T2:iI K mg D "NoWeights" "found" CW fW eW)
  (Cf:eL K MS "__init__" g)(G':ß P w K mg base ay 1 g gd ["self","mark"] (yw MC))(bG:Binds K gd ["self","mark"] [])(mS:mg "Measure" = some (.ref MS))
  (A1:Df P w K mg base ay 1 "may_be_inner" ["thing"] (yc K MC) a1 d1)(A2:Df P w K mg base ay 3 "are_weights" ["thing"] (DZ K) a2 d2)(Mt:cg P w K mg base ay 1 "told" ["self"] (pk MC) (λ _=>tY MC))(mt:mg "tuple" = none):ß P w K mg base (cp P w) 4 f fd vk (nI K MC CT CW):=by
 refine fK F Jk λ cdv A outer s H vs Q E hr h=>?_;obtain⟨x,v,u,dx,G,rfl,hx,xG,nG,h⟩:=h;have Ħ:ö 1 _:=hr.mono ad;have Mf:ö 2 _:=hr.mono ad;refine⟨_,cL (bf (bu (aX (cq A1 Ħ ai (ac (pv 1) aq)))) (bj (cu B T1.cls (T1.ok P w base) Mf T1.bi rfl T1.Mv (pv 1))) fF)
  (cL (bf (bu (aX (cq A2 hr ai (ac (pv 2) aq)))) (bj (cu B T2.cls (T2.ok P w base) Mf T2.bi rfl T2.Mv (pv 2))) fF)
  (cL (dq (pv 0) (pv 1) rfl)
  (cL (dq (pv 0) (bA bR rfl mt í (ac (pv 2) aq)) rfl)
  (bj (ax (bS Cf G' Ħ rfl mS bG .nil ai (ac (pv 0) (ac (aU (ac av (ac (bN (pv 1) Mt Ħ ai) (ac (vj (pv 0) rfl) aq)))) aq)))))))),?_⟩
 rcases h with⟨ik,q⟩ | ⟨k,hk,me,h⟩
 ·exact⟨_,rfl,v,false,rfl,ik.ext xG,λ H1 x1=>⟨_,rfl,cQ ⟨_,rfl,λ e' de h1 h2 nd=>dM nd (q H1 x1 e' de h1 h2 nd)⟩⟩⟩
 refine⟨_,rfl,v,true,rfl,(me.inK Z Y hk).ext xG,λ H1 x1=>⟨_,rfl,cE ?_⟩⟩;have Nv:=xG.trans x1;rcases h with⟨nk,q⟩ | ⟨a,xs,rfl,ha,l1,bk,bad,q⟩ | ⟨a,ws,rfl,ha,ok,q⟩
 ·exact⟨_,rfl,u,rfl,.inl ⟨nk.ext Nv,λ H2 x2=>⟨_,rfl,cQ ⟨_,rfl,λ e' de h1 h2 nd=>dM nd (q H2 (x1.trans x2) e' de h1 h2 nd)⟩⟩⟩⟩
 ·refine⟨_,rfl,_,rfl,.inr ⟨a,xs,rfl,Nv _ _ ha,l1,λ x hx=>(bk x hx).ext Nv,λ H2 x2=>⟨_,rfl,?_⟩⟩⟩;rw [bad];exact cQ ⟨_,rfl,λ e' de h1 h2 nd=>dM nd (q H2 (x1.trans x2) e' de h1 h2 nd)⟩
 have l6:=ok.2.1;refine⟨_,rfl,_,rfl,.inr ⟨a,_,rfl,Nv _ _ ha,by rw [Ä];omega,λ x hx=>?_,λ H2 x2=>⟨_,rfl,?_⟩⟩⟩
 ·obtain⟨n,_,rfl⟩:=ć.mp hx;exact .inl ⟨n,rfl⟩
 rw [A9 ok];refine cE ?_;have ν:=x1.trans x2;have Nl:=ν _ _ hx;refine⟨_,rfl,_,rfl,x,_,dx,[],rfl,Nl,Y.cls,Y.no _ ao,ad,?_⟩;have k3:Kept H2 (af H2 x (.ins (MC 4) dx (bK "inner" v []))) x:=bh _;have NT:af H2 x (.ins (MC 4) dx (bK "inner" v [])) x=some (.ins (MC 4) dx [("inner",v)]):=aR;generalize af H2 x (.ins (MC 4) dx (bK "inner" v []))=H3 at k3 NT ⊢;have W3:Kept H H3 x:=(ν.kept x).trans k3;have Te:=xG.kp nG W3;refine⟨_,rfl,a,_,rfl,.inl ⟨ó.of (Te _ _ ha),λ l hl=>?_⟩⟩;have x4:=Ext.new (o:=.tup (ws.map V.int)) hl;have O0:af H3 l (.tup (ws.map V.int)) l=some (.tup (ws.map V.int)):=aR;have Ro:=x4 _ _ NT;generalize af H3 l (.tup (ws.map V.int))=H4 at x4 O0 Ro ⊢;have xl:l≠x:=λ e=>by rw [e,Ro] at O0;cases O0
 refine⟨_,rfl,x,_,dx,_,rfl,Ro,Y.cls,Y.no _ ao,(by show 1<_;decide),?_⟩
 have k5:Kept H4 (af H4 x (.ins (MC 4) dx (bK "weights" (.ref l) [("inner",v)]))) x:=bh _;have Vr:af H4 x (.ins (MC 4) dx (bK "weights" (.ref l) [("inner",v)])) x=some (.ins (MC 4) dx [("inner",v),("weights",.ref l)]):=aR;generalize af H4 x (.ins (MC 4) dx (bK "weights" (.ref l) [("inner",v)]))=H5 at k5 Vr ⊢;have hl5:=k5 _ _ O0 xl;have W1:Kept H H5 x:=(W3.trans (x4.kept x)).trans k5;have Wt:=xG.kp nG W1;have WZ:=me.ext Wt;refine⟨_,rfl,gc ao hk WZ (λ R r=>⟨_,rfl,r⟩) ⟨v,k,rfl,hk,WZ,λ r Qo=>?_⟩⟩;refine⟨_,rfl,x,_,dx,_,_,rfl,Vr,Y.cls,Y.no _ ao,rfl,dA,λ m hm=>?_⟩;have x6:=Ext.new (o:=.tup [.str "weighted",.ref r,.ref l]) hm;have QV:af H5 m (.tup [.str "weighted",.ref r,.ref l]) m=some (.tup [.str "weighted",.ref r,.ref l]):=aR;generalize af H5 m (.tup [.str "weighted",.ref r,.ref l])=H6 at x6 QV ⊢;have Vq:=x6 _ _ Vr;have hl6:=x6 _ _ hl5;have QQ:=x6 _ _ Qo;refine⟨x,_,dx,_,rfl,Vq,(by show 2<20;decide),q _ ((W1.trans (x6.kept x)).trans (bh _)) ?_⟩
 have Tw:Kept H6 (af H6 x (.ins (MC 4) dx (bK "mark" (.ref m) [("inner",v),("weights",.ref l)]))) x:=bh _;have Ri:=(Wt.trans x6).kp nG Tw;have nm:m≠x:=λ e=>by rw [e,Vq] at QV;cases QV
 have nr:r≠x:=λ e=>by rw [e,Vq] at QQ;cases QQ
 exact⟨x,dx,v,l,m,r,rfl,aR,me.ext Ri,Tw _ _ hl6 xl,Tw _ _ QV nm,Tw _ _ QQ nr⟩
end
def oy (K:Frag)(C:Nat->Addr)(CF CO:Addr):Sp:=λ vs H _ E=>∃ v r o t,vs=[v,r,o]/\Ru C H t r/\qb K CF CO [o,.int t.Õ] H (λ _ _=>False) E
section
variable {P:Program}{w:World}{K:Frag}{mg:bv}{base:Heap}{C MC:Nat->Addr}{CF CO CT CW f a1 a2 g:Addr}{fd d1 d2 gd:FuncData}{S1 S2:Addr->Prop}{sp1 Z_:Addr->Sp}{k1:Nat}
theorem vy (F:ğ K "scores" "Measure.scores" wx f fd)(Mr:Ms P w K mg base C)(A1:Df P w K mg base (cp P w) 6 "need_outcomes_of" ["thing","folk"] (qb K CF CO) a1 d1)(h1:k1<=8)(M1:cg P w K mg base (cp P w) k1 "need_fit" ["self","rule","outcomes"] S1 sp1)(M2:cg P w K mg base ay 8 "scored" ["self","rule","outcomes"] S2 Z_) :
  ß P w K mg base (cp P w) 9 f fd ["self","rule","outcomes"] (oy K C CF CO):=by
 refine fK F xV λ cdv A outer s H vs Q E hr h=>?_;obtain⟨v,r,o,t,rfl,ru,h⟩:=h;have Ħ:ö 1 _:=hr.mono ad;have M4:ö k1 _:=hr.mono h1;have QQ:ö 6 _:=hr.mono ad;refine⟨_,cL (ax (cq A1 QQ cH (ac (pv 2) (ac (bN (pv 1) Mr.Õ Ħ ai) aq))))
  (cL (ax (dE (pv 0) M1 M4 cH (ac (pv 1) (ac (pv 2) aq))))
  (bj (cM (dE (pv 0) M2 hr ai (ac (pv 1) (ac (pv 2) aq)))))),?_⟩
 refine⟨_,rfl,cF (t:=t) ao ru (λ R r=>⟨_,rfl,r⟩) ⟨r,t,rfl,ru,?_⟩⟩;obtain⟨o',n,e,h⟩:=h;cases e;refine⟨o,t.Õ,rfl,?_⟩;rcases h with h | ⟨a,xs,bs,e1,ha,ot,h1,h2⟩
 ·exact .inl h
 ·refine .inr ⟨a,xs,bs,e1,ha,ot,λ al H' x'=>?_,h2⟩;have z:=h1 al H' x';by_cases l:(xs.length:Int)=t.Õ
  ·rw [à l] at z;exact z.elim
  ·rw [Ø l] at z ⊢;exact z
abbrev J6:Stmt:=cr 79
theorem JK:ae r6 r6 (aa J6):=aO
def zu (MC:Nat->Addr)(c:Addr):Prop:=∃ i,i<5/\c=MC i
def Eh (z:Str)(t:TS):TS:=dQ (tB (aS rW (ar 0) (tC (.str z)))) t bZ
def KN (K:Frag)(C MC:Nat->Addr)(CF CO CT CW:Addr)(c_:Sp)(E:XK):TS:=aZ (Eh "scores" (cW (dy (zu MC) "scores" (λ _=>oy K C CF CO) E (ar 1) (ag (ar 2) (ag (ar 3) aG))))) (aZ (Eh "weighted" (cW (c6 (MC 4) (nI K MC CT CW) [] E (ag (ar 1) (ag (ar 2) aG))))) (cW (gE c_ [] E (ag (ar 1) (ag (ar 2) aG)))))
def hI (K:Frag)(C MC:Nat->Addr)(CF CO CT CW:Addr)(c_:Sp):Sp:=λ vs H Q E=>∃ z a b c,vs=[.str z,a,b,c]/\((z = "scores" /\ (∃ x i dx fs,i<5/\a=.ref x/\H x=some (.ins (MC i) dx fs)/\fs.lookup ("scores" : Str)=none)/\oy K C CF CO [a,b,c] H Q E) \/
 (z = "weighted" /\ c6 (MC 4) (nI K MC CT CW) [] E (ag (tC a) (ag (tC b) aG)) [] H Q)\/(z = "value" /\ c_ [a,b] H Q E))
theorem EV {c_:Sp}(F:ğ K "_law_call" "_law_call" J6 f fd)(M:cg P w K mg base (cp P w) 9 "scores" ["self","rule","outcomes"] (zu MC) (λ _=>oy K C CF CO))(kW:Mk K (MC 4) g)(gW:ß P w K mg base (cp P w) 4 g gd vk (nI K MC CT CW))(bW:Binds K gd vk [])(mW:mg "Weighted" = some (.ref (MC 4)))(A1:Df P w K mg base (cp P w) 4 "value_of" ["scores","dealing"] c_ a1 d1) :
  ß P w K mg base (cp P w) 10 f fd r6 (hI K C MC CF CO CT CW c_):=by
 refine fK F JK λ cdv A outer s H vs Q E hr h=>?_;obtain⟨z,a,b,c,rfl,h⟩:=h;have TB:ö 4 _:=hr.mono ad;have M4:ö 5 _:=hr.mono ad;refine⟨KN K C MC CF CO CT CW c_ E,cL (bf (aA cZ (pv 0) av (az _)) (bj (cM (dE (pv 1) M hr cH (ac (pv 2) (ac (pv 3) aq))))) fF)
  (cL (bf (aA cZ (pv 0) av (az _)) (bj (cM (dC kW gW M4 rfl mW bW .nil cH (ac (pv 1) (ac (pv 2) aq))))) fF)
  (bj (cM (cq A1 TB cH (ac (pv 1) (ac (pv 2) aq)))))),?_⟩
 have n1:(("weighted" : String):Str)≠(("scores" : String):Str):=ao;have n2:(("value" : String):Str)≠(("scores" : String):Str):=ao;have n3:(("value" : String):Str)≠(("weighted" : String):Str):=ao;rcases h with⟨rfl,⟨x,i,dx,fs,hi,rfl,hx,lk⟩,h⟩ | ⟨rfl,h⟩ | ⟨rfl,h⟩
 ·refine⟨_,rfl,rfl,_,rfl,?_⟩;rw [Å rfl];exact cQ ⟨_,rfl,x,MC i,dx,fs,rfl,⟨i,hi,rfl⟩,hx,lk,_,rfl,_,rfl,h⟩
 ·refine⟨_,rfl,rfl,_,rfl,?_⟩;rw [É (λ z=>n1 (V.str.inj z))];refine cE ⟨_,rfl,rfl,_,rfl,?_⟩;rw [Å rfl];exact cQ ⟨_,rfl,_,rfl,h⟩
 ·refine⟨_,rfl,rfl,_,rfl,?_⟩;rw [É (λ z=>n2 (V.str.inj z))];refine cE ⟨_,rfl,rfl,_,rfl,?_⟩;rw [É (λ z=>n3 (V.str.inj z))];exact cE ⟨_,rfl,_,rfl,h⟩
end
end My
namespace My
open PySem PySem.W L2 PySem.Spec PyProof.Rows
section
variable {K:Frag}{te:TE}{tt:TT}{g:TG}{k:Nat}{cap:L2.St}{D:Addr}{H1:Hp}{Q:Hp->Prop}{a:Addr}{xs:List V}
theorem qL (Pv:Nat->List V->Hp->Prop)(hz:xs.length<sizeLine)(h0:Pv 0 [] (af H1 D (.lst [])))(hl:∀ i ys H,Pv i ys H->ó K H a xs)
  (hs:∀(i:Nat) x ys H p,xs[i]?=some x->ys.length<=i->H D=some (.lst ys)->Pv i ys H->H p=none->∀ os:L2.St,os.length=k->∀ N:List V->Hp->Prop,(∀ K' H',Pv (i+1) K' H'->K'.length<=i+1->H' D=some (.lst K')->N K' H') ->
   g (.ref p) (os++cap) (af H p (.tup [.int (i:Nat),x])) λ İ H0=>(∃ ŀ:L2.St,ŀ.length=k/\İ = ŀ ++ cap)/\tt İ H0 λ b H5=>(b=false->N ys H5)/\(b=true->te İ H5 λ y H4=>H4 D=some (.lst ys)/\N (ys ++ [y]) (af H4 D (.lst (ys ++ [y])))))
  (hd:∀ ys H,ys.length<=xs.length->H D=some (.lst ys)->Pv xs.length ys H->Q H) :
  ∃ W:Nat->Nat->List V->Hp->Prop,(∃ m,W 0 m [] (af H1 D (.lst []))) /\
   ∀ i m ys H2,W i m ys H2->H2 D=some (.lst ys)/\(((tG K a).stop i H2/\Q H2)\/((tG K a).go i H2/\ys.length<sizeLine /\
    ∀ x H3,(tG K a).L_ i H2 x H3->∀ os:L2.St,os.length=k->g x (os++cap) H3 λ İ H0=>(∃ ŀ:L2.St,ŀ.length=k/\İ = ŀ ++ cap)/\tt İ H0 λ b H5=>(b=false->∃ m',m'<m/\W (i+1) m' ys H5) /\
     (b=true->te İ H5 λ y H4=>H4 D=some (.lst ys)/\∃ m',m'<m/\W (i+1) m' (ys ++ [y]) (af H4 D (.lst (ys ++ [y])))))):=by
 refine⟨λ i m ys H=>m=xs.length-i/\i<=xs.length/\ys.length<=i/\H D=some (.lst ys)/\Pv i ys H,⟨xs.length,by simp,Nat.zero_le _,Nat.le_refl _,aR,h0⟩,?_⟩
 rintro i m ys H ⟨rfl,hi,hy,MO,p⟩;refine⟨MO,?_⟩;have q:=hl i ys H p;by_cases ſ:i<xs.length
 ·refine .inr ⟨⟨xs,xs[i],q,by simp [ſ]⟩,am,λ x H' y os ŋ=>?_⟩
  obtain⟨p',z,rfl,SC,rfl,Rn⟩:=y;exact hs i z ys H p' (Rn xs q) hy MO p SC os ŋ (λ K' Rc=>∃ m',m'<xs.length-i/\(m'=xs.length-(i+1)/\i+1<=xs.length/\K'.length<=i+1/\Rc D=some (.lst K')/\Pv (i+1) K' Rc)) λ K' Rc p' l' d'=>⟨xs.length-(i+1),am,rfl,ſ,l',d',p'⟩
 ·have e:i=xs.length:=am;subst e;exact .inl ⟨⟨xs,q,Ç _⟩,hd ys H hy MO p⟩
end
end My
namespace My
def Sg (n:Nat)(f:Nat->Int):Int:=((List.range n).map f).sum
theorem gU (n:Nat)(f:Nat->Int):Sg (n+1) f=Sg n f+f n:=by
 unfold Sg;rw [NJ,Ï,ł];simp
theorem oj {n:Nat}{f g:Nat->Int}(h:∀ i,i<n->f i=g i):Sg n f=Sg n g:=by
 induction n with
 | zero=>rfl
 | succ n ih =>
  rw [gU,gU,ih (λ i hi=>h i am),h n am]
theorem zW (n:Nat):Sg n (λ _=>0)=0:=by
 induction n with
 | zero=>rfl
 | succ n ih=>rw [gU,ih];rfl
theorem su (n:Nat)(p:Nat->Bool)(f:Nat->Int):(((List.range n).filter p).map f).sum=Sg n (λ i=>if p i=true then f i else 0):=by
 induction n with
 | zero=>rfl
 | succ n ih =>
  rw [NJ,ī,Ï,ł,ih,gU]
  congr 1
  rw [Ě];split <;> simp
def bt (x:Int)(i:Nat):Bool:=decide (x/2^i%2=1)
theorem t9 (x i:Nat):bt (x:Int) i=x.testBit i:=by
 unfold bt;rw [Nat.testBit_eq_decide_div_mod_eq];have e:((x:Int)/2^i%2)=((x/2^i%2:Nat):Int):=by
  rw [Int.natCast_emod,Int.natCast_ediv,NM];rfl
 rw [e];by_cases h:x/2^i%2=1
 ·rw [Å h,Å (by rw [h];rfl)]
 ·rw [É h,É (λ z=>h am)]
theorem wN {n i:Nat}{x:Int}(h0:0<=x)(h1:x<2^n)(hi:i<n):bt (2^n-1-x) i = !bt x i:=by
 obtain⟨m,rfl⟩:∃ m:Nat,x=(m:Int):=⟨x.toNat,am⟩;have hm:m<2^n:=by
  have e:((2:Int)^n)=((2^n:Nat):Int):=by rw [NM];rfl
  rw [e] at h1;exact Int.ofNat_lt.mp h1
 have e:((2:Int)^n-1-(m:Int))=((2^n-(m+1):Nat):Int):=by
  have e:((2:Int)^n)=((2^n:Nat):Int):=by rw [NM];rfl
  rw [e];omega
 rw [e,t9,t9,Nat.testBit_two_pow_sub_succ hm,Å hi,ĵ]
theorem Ac {n i:Nat}(hi:i<n):bt (2^n-1) i=true:=by
 have h:=wN (n:=n) (i:=i) (x:=0) ad (by have:(0:Int)<2^n:=Int.pow_pos ad;exact this) hi
 rw [show(2:Int)^n-1-0=2^n-1 by omega] at h
 rw [h];unfold bt;simp
def t8 (x:Int)(ns:List Int):Int:=Sg ns.length (λ i=>if bt x i=true then ns.getD i 0 else 0)
end My
namespace My
open PySem PySem.W L2
section
variable {P:Program}{w:World}{K:Frag}{mg:bv}{base:Heap}{f a1 a2:Addr}{fd d1 d2:FuncData}
abbrev IY:Stmt:=cr 47
def vF:Sp:=λ vs H Q _=>∃(x:Int)(i:Nat),vs=[.int x,.int (i:Nat)]/\Q (.int (x/2^i%2)) H
theorem JU:ae ["dealing","at"] ["dealing","at"] (aa IY):=aO
theorem Gv (F:ğ K "hand_of" "hand_of" IY f fd):ß P w K mg base ay 1 f fd ["dealing","at"] vF:=by
 refine F.ok JU (λ vs H Q E h=>?_) (λ cdv A outer s H vs Q E hr h=>?_)
 ·obtain⟨x,i,rfl,_⟩:=h;rfl
 obtain⟨x,i,rfl,q⟩:=h;refine⟨_,bj (cM (aC Bu (aC Bg (pv 0) (pv 1)) aB)),?_⟩;refine⟨_,rfl,_,rfl,_,_,rfl,rfl,(by show(0:Int)<=(i:Int);omega),_,_,rfl,rfl,?_⟩
 show Q (.int (Builtin.bitAnd (x/2^((i:Int)).toNat) 1)) H;rw [PyProof.Rows.bitAnd_m1];exact q
abbrev Hv:Stmt:=cr 46
def wE:Sp:=λ vs H Q _=>∃(x:Int)(n:Nat),vs=[.int x,.int (n:Nat)]/\n<=20/\0<=x/\x<2^n/\Q .ù H
theorem F7:ae ["thing","folk"] ["thing","folk"] (aa Hv):=aO
theorem Gm (F:ğ K "need_hands" "need_hands" Hv f fd)(A1:Df P w K mg base ay 2 "is_whole" ["thing","low","high"] (eS K) a1 d1):ß P w K mg base ay 3 f fd ["thing","folk"] wE:=by
 refine F.ok F7 (λ vs H Q E h=>?_) (λ cdv A outer s H vs Q E hr h=>?_)
 ·obtain⟨x,n,rfl,_⟩:=h;rfl
 obtain⟨x,n,rfl,M9,x0,x1,q⟩:=h;refine⟨_,bj (bf (bu (aX (cq A1 hr ai (ac (pv 0) (ac aB (ac (aC gL (aC lg aB (pv 1)) aB) aq)))))) (bj ji) fF),?_⟩;have th:Th K H (.int x):=(Ĉ.int (G:=H) x).th;refine⟨_,rfl,_,rfl,_,_,rfl,rfl,⟨am,am,ad⟩,_,_,rfl,rfl,.int x,0,_,rfl,th,_,rfl,?_⟩;have e:LJ 0 (1*2^(n:Int).toNat-1) (.int x)=true:=by
  show(decide ((0:Int)<=x)&&decide (x<=1*2^(n:Int).toNat-1))=true;rw [õ,Å x0,Å am];rfl
 rw [e];exact cE q
abbrev yK:Stmt:=cr 71
theorem Ej:ae ["scores","dealing"] ["scores","dealing"] (aa yK):=aO
abbrev HK:Scope:=eZ [("at",.local),("score",.local),("hand_of",.globalImplicit),("dealing",.free)]
theorem GY:((["at","score"]:List Str)++(["dealing"]:List Str)).Nodup:=ao
def u6:Sp:=λ vs H Q _=>∃(l:Addr)(ns:List Int)(x:Int),vs=[.ref l,.int x]/\H l=some (.lst (ns.map V.int))/\ns.length<=20/\0<=x/\x<2^ns.length/\∀ H',Ext H H'->Q (.int (t8 x ns)) H'
def D6:TT:=tB (aS rW (gE vF [] E0 (ag (ar 2) (ag (ar 0) aG))) (tC (.int 1)))
def K5 (K:Frag):TS:=aZ (iM (gE wE [] E0 (ag (ar 1) (ag (iN K 0) aG)))) (cW (iQ (oz K) (ag (jI (ve K (ag (ar 0) aG)) 2 [1] (xn K) D6 (ar 1)) aG)))
section
variable {cdv:Value}{A:Around}{outer:List Env}{s:Shared}{H:Hp}{E:XK}
theorem zX:bL (br ay P w K mg base ["scores","dealing"] "value_of" (aa yK) f cdv A outer s H E).Ŝ HK [("dealing",s.heap.objs.size+1)] ["at","score"] ["dealing"] [1] :=
 jW (M:=["dealing"]) (L:=[(".0",.local),("at",.local),("score",.local),("hand_of",.globalImplicit),("dealing",.cell)]) rfl rfl ao ao ao rfl rfl rfl ao ao rfl rfl rfl
theorem zR (A1:Df P w K mg base ay 3 "need_hands" ["thing","folk"] wE a1 d1)(A2:Df P w K mg base ay 1 "hand_of" ["dealing","at"] vF a2 d2)(mn:mg "len" = none)(ms:mg "sum" = none)(me:mg "enumerate" = none)(hr:qX 3 "value_of" yK A s f cdv) :
  Bx (Ų (br ay P w K mg base ["scores","dealing"] "value_of" (aa yK) f cdv A outer s H E).Ŝ (aH yK) (K5 K)):=by
 have Ħ:ö 1 _:=hr.mono ad;exact cA ⟨ax (cq A1 hr ai (ac (pv 1) (ac (ah aF rfl mn ñ (ac (pv 0) aq)) aq)))⟩
  (be (gP ⟨ah (dS rfl) rfl ms Ė (ac (gY (te:=ar 1) (tt:=D6) (g:=xn K) rfl zX (i9 rfl me (ac (pv 0) aq)) (λ s H C fp=>by exact cT rfl (gy (dG (i:=0) GY rfl (.inl rfl)) (gy (dG (i:=1) GY rfl (.inl rfl)) bT))) (λ s H C fp=>by exact aA cZ (cq A2 Ħ ai (ac (pv 2) (ac (pv 0) aq))) aB (az _)) (λ s H C fp=>by exact pv 1)) aq)⟩))
end
theorem FC (F:ğ K "value_of" "value_of" yK f fd)(A1:Df P w K mg base ay 3 "need_hands" ["thing","folk"] wE a1 d1)(A2:Df P w K mg base ay 1 "hand_of" ["dealing","at"] vF a2 d2)(mn:mg "len" = none)(ms:mg "sum" = none)(me:mg "enumerate" = none):ß P w K mg base ay 4 f fd ["scores","dealing"] u6:=by
 refine cw F Ej λ cdv A outer s H vs Q E hr h=>?_;obtain⟨l,ns,x,rfl,hl,LI,x0,x1,q⟩:=h;refine iU (zR A1 A2 mn ms me hr) ⟨?_⟩;have sz:=Ö;refine um ⟨_,rfl,_,rfl,l,_,rfl,.inl (ó.of hl),x,ns.length,by rw [Ä];rfl,LI,x0,x1,?_⟩
 refine⟨_,rfl,l,rfl,⟨_,ó.of hl⟩,λ D hD=>?_⟩;refine qL (a:=l) (xs:=ns.map V.int) (cap:=[some (.int x)]) (λ i ys H'=>Ext H H'/\ys=(((List.range i).filter (bt x)).map λ j=>ns.getD j 0).map V.int) (by rw [Ä];omega) ⟨Ext.new hD,rfl⟩ (λ i ys H' pv=>ó.of (pv.1 _ _ hl)) ?_ ?_
 ·rintro i y ys H' p ey ly ĩ ⟨x',SO⟩ hp os ŋ N kN;obtain⟨o0,o1,rfl⟩:∃ o0 o1,os=[o0,o1]:=by
   match os,ŋ with
   | [o0,o1],_=>exact⟨o0,o1,rfl⟩
  rw [Ò] at ey;obtain⟨n,en,rfl⟩:=á.mp ey;have xp:=Ext.new (o:=.tup [.int (i:Nat),.int n]) hp;have gp:af H' p (.tup [.int (i:Nat),.int n]) p=some (.tup [.int (i:Nat),.int n]):=aR;generalize af H' p (.tup [.int (i:Nat),.int n])=H2 at xp gp ⊢;have x2:=x'.trans xp;refine⟨p,_,rfl,ĥ.of gp,rfl,_,_,rfl,_,_,rfl,rfl,⟨[some (.int (i:Nat)),some (.int n)],rfl,rfl⟩,?_⟩;refine⟨_,rfl,_,rfl,x,i,rfl,rfl,_,rfl,?_⟩;have ei:((List.range (i+1)).filter (bt x)).map (λ j=>ns.getD j 0)=((List.range i).filter (bt x)).map (λ j=>ns.getD j 0)++(if bt x i=true then [n] else []):=by
   rw [NJ,ī,Ï]
   congr 1
   rw [Ě];split
   ·show [ns.getD i 0]=[n];rw [Ī,en];rfl
   ·rfl
  by_cases e:x/2^i%2=1
  ·have eb:bt x i=true:=Å e;rw [Å (Ğ V.int e)];refine⟨λ z=>(by cases z),λ _=>⟨_,rfl,xp _ _ ĩ,kN _ _ ⟨bz _ x2 hD,?_⟩ (by rw [Ð];show ys.length+1<=i+1;omega) aR⟩⟩
   rw [ei,à eb,Ï,<- SO];rfl
  ·have eb:bt x i=false:=É e;rw [É (λ z=>e (V.int.inj z))];refine⟨λ _=>kN ys H2 ⟨x2,?_⟩ am (xp _ _ ĩ),λ z=>(by cases z)⟩
   rw [ei,eb,Ø ad,ă];exact SO
 ·rintro ys H' ly ĩ ⟨x',SO⟩;rw [Ä] at SO;rw [SO] at ĩ;refine⟨D,_,rfl,ó.of ĩ,?_⟩;rw [su];exact q H' x'
variable {D CD fD:Addr}{eD:FuncData}
def ye (K:Frag)(CD:Addr):Sp:=λ vs H _ E=>∃(v:V)(n:Nat),vs=[v,.int (n:Nat)]/\n<=20/\Th K H v/\LJ 0 (2^n-1) v=false/\bM CD "found" v H E
theorem BK (F:ğ K "need_hands" "need_hands" Hv f fd)(B:Į K D)(T:iI K mg D "NoDealing" "found" CD fD eD)(A1:Df P w K mg base ay 2 "is_whole" ["thing","low","high"] (eS K) a1 d1):ß P w K mg base (cp P w) 3 f fd ["thing","folk"] (ye K CD):=by
 refine fK F F7 λ cdv A outer s H vs Q E hr h=>?_;obtain⟨v,n,rfl,M9,th,nb,q⟩:=h;refine⟨_,bj (bf (bu (aX (cq A1 hr ai (ac (pv 0) (ac aB (ac (aC gL (aC lg aB (pv 1)) aB) aq)))))) (bj (cu B T.cls (T.ok P w base) hr T.bi rfl T.Mv (pv 0))) fF),?_⟩;refine⟨_,rfl,_,rfl,_,_,rfl,rfl,⟨am,am,ad⟩,_,_,rfl,rfl,v,0,_,rfl,th,_,rfl,?_⟩;have e:LJ 0 (1*2^(n:Int).toNat-1) v=false:=by rw [õ,Int.one_mul];exact nb
 rw [e];exact cQ ⟨_,rfl,λ e' de h1 h2 nd=>dM nd (q e' de h1 h2 nd)⟩
def vQ (K:Frag)(CD:Addr):Sp:=λ vs H _ E=>∃(l:Addr)(ns:List Int)(v:V),vs=[.ref l,v]/\H l=some (.lst (ns.map V.int))/\ns.length<=20/\Th K H v/\LJ 0 (2^ns.length-1) v=false/\bM CD "found" v H E
theorem Cw (F:ğ K "value_of" "value_of" yK f fd)(A1:Df P w K mg base (cp P w) 3 "need_hands" ["thing","folk"] (ye K CD) a1 d1)(mn:mg "len" = none):ß P w K mg base (cp P w) 4 f fd ["scores","dealing"] (vQ K CD):=by
 refine fK F Ej λ cdv A outer s H vs Q E hr h=>?_;obtain⟨l,ns,v,rfl,hl,LI,th,nb,q⟩:=h;refine⟨_,cL (ax (cq A1 hr cH (ac (pv 1) (ac (ah aF rfl mn ñ (ac (pv 0) aq)) aq)))) (bj ji),?_⟩;exact⟨_,rfl,_,rfl,l,_,rfl,.inl (ó.of hl),v,ns.length,by rw [Ä];rfl,LI,th,nb,q⟩
end
section
variable {P:Program}{w:World}{K:Frag}{mg:bv}{base:Heap}{f:Addr}{fd:FuncData}
abbrev J9:Stmt:=cr 81
abbrev yy:List Str:=["_law_told","_law_word","_law_thing"]
theorem Jz:ae yy yy (aa J9):=aO
def nA:Sp:=λ vs H Q _=>∃(p:Addr)(z:Str)(y y':V)(d:PyData),vs=[.ref p,.str z,y]/\H p=some (.tup [.str z,y'])/\Ĉ H y' d/\Ĉ H y d/\gJ d/\H sysModules=none/\Q (.bl true) H
theorem FU (F:ğ K "_law_same" "_law_same" J9 f fd)(mp:mg "repr" = none):ß P w K mg base ay 1 f fd yy nA:=by
 refine cw F Jz λ cdv A outer s H vs Q E hr h=>?_;obtain⟨p,z,y,y',d,rfl,hp,r1,r2,sh,hz,q⟩:=h;refine⟨_,bj (cM (eI (c8 lp (pv 0) bQ (az _)) (eI (c8 cZ (ft oA (pv 0) aB) (pv 1) (az _)) (fJ (c8 cZ (ah (gw hz hr.gd hr.units) rfl mp Ť (ac (ft oA (pv 0) aB) aq)) (ah (gw hz hr.gd hr.units) rfl mp Ť (ac (pv 2) aq)) (az _)))))),?_⟩;refine⟨_,rfl,rfl,_,rfl,?_⟩;rw [É (λ z=>by cases z)]
 refine cQ ⟨_,rfl,p,_,_,_,rfl,rfl,ĥ.of hp,gS (j:=0) rfl,_,rfl,rfl,_,rfl,?_⟩;rw [Å rfl];refine cQ ⟨_,rfl,p,_,_,_,rfl,rfl,ĥ.of hp,gS (j:=1) rfl,y',d,rfl,r1,sh,_,rfl,y,d,rfl,r2,sh,rfl,?_⟩;rw [Å rfl];exact q
end
section
variable {P:Program}{w:World}{K:Frag}{mg:bv}{base:Heap}{Cs:Nat->Addr}{spC:Sp}{f a1 a2 a3 a4:Addr}{fd d1 d2 d3 d4:FuncData}
abbrev vm:Stmt:=cr 84
abbrev HF:List Str:=["_law_script","_law_pen","_law_many","_law_scores","_law_bad"]
theorem QK:ae HF ["_law_script","_law_pen"] (aa vm):=aO
abbrev Ee:Scope:=eZ [("_law_k",.local),("_law_take",.globalImplicit),("_law_pen",.free),("_law_script",.free)]
theorem FX:((["_law_k"]:List Str)++(["_law_pen","_law_script"]:List Str)).Nodup:=ao
def yE (K:Frag):TE:=aS (eO λ i j=>.int (i-j)) (gE (cS K) [] E0 (ag (ar 2) (ag (ar 1) (ag (tC (.int 9)) aG)))) (tC (.int 4))
def AQ (K:Frag):TE:=aS (cX K) (aT (ag (Hz (λ x H Q=>∃ i,x=.int i/\Q (.int (-i)) H) (tC (.int 1))) (ag (aS (rI qE λ i j=>.int (i*2^j.toNat)) (tC (.int 1)) (ar 2)) (ag (aS (rI qE λ i j=>.int (i^j.toNat)) (tC (.int 10)) (tC (.int 29))) (ag (tC (.bl true)) (ag (tC .ù) (ag (tC (.str "0")) (ag (aT (ag (tC (.int 0)) aG)) (ag (eF (ag (tC (.int 1)) aG)) aG))))))))) (dI K (tC (.int 8)))
def JA (K:Frag):TS:=cV (AQ K) (bF 4)
def EZ (Cs:Nat->Addr)(spC:Sp):TS:=dQ (mj (tB (iD nA E0 (ag (gE (lu Cs spC) [] E0 (ag (tC (.str "value")) (ag (ar 3) (ag (ar 4) (ag (tC .ù) aG))))) (ag (tC (.str "dealing")) (ag (ar 4) aG)))))) (cW (tC (.bl false))) bZ
def FV (K:Frag):TS:=cW (yp (aS rW (gE u6 [] E0 (ag (ar 3) (ag (aS (eO λ i j=>.int (i-j)) (aS (rI qE λ i j=>.int (i*2^j.toNat)) (tC (.int 1)) (ar 2)) (tC (.int 1))) aG))) (iQ (oz K) (ag (ar 3) aG))) (aS rW (gE u6 [] E0 (ag (ar 3) (ag (tC (.int 0)) aG))) (tC (.int 0))))
def zi (K:Frag):TS:=cV (fZ (nY (ag (ar 2) aG)) 1 [1,0] (bF 0) (yE K)) (bF 3)
section
variable {cdv:Value}{A:Around}{outer:List Env}{s:Shared}{H:Hp}{E:XK}
theorem wS:bL (br ay P w K mg base HF "_law_value_refused" (aa vm) f cdv A outer s H E).Ŝ Ee [("_law_script",s.heap.objs.size+1),("_law_pen",s.heap.objs.size+2)] ["_law_k"] ["_law_pen","_law_script"] [1,0] :=
 jW (M:=["_law_script","_law_pen"]) (L:=[(".0",.local),("_law_k",.local),("_law_take",.globalImplicit),("_law_pen",.cell),("_law_script",.cell)]) rfl rfl ao ao ao rfl rfl rfl ao ao rfl rfl rfl
theorem JW (A1:Df P w K mg base ay 1 "_law_take" ["_law_script","_law_pen","_law_many"] (cS K) a1 d1)(mr:mg "range" = none)(hr:qX 11 "_law_value_refused" vm A s f cdv):Bx (PS (br ay P w K mg base HF "_law_value_refused" (aa vm) f cdv A outer s H E).Ŝ ((aH vm).getD 1 (.Pass ⟨0,0,0,0⟩)) (zi K)):=by
 have Ħ:ö 1 _:=hr.mono ad;exact⟨md (iy:=3) (te:=yE K) (g:=bF 0) rfl wS (gu rfl mr (ac (pv 2) aq)) (λ s H C fp=>by exact dG (i:=0) FX rfl (.inl rfl)) (λ s H C fp=>by
   exact aC gL (cq A1 Ħ ai (ac (pv 2) (ac (pv 1) (ac aB aq)))) aB) QK.nd rfl (Or.inl rfl) rfl⟩
theorem AY (hz:H sysModules=none)(A1:Df P w K mg base ay 1 "_law_take" ["_law_script","_law_pen","_law_many"] (cS K) a1 d1)(A2:Df P w K mg base ay 11 "_law_refused" r6 (lu Cs spC) a2 d2)(A3:Df P w K mg base ay 1 "_law_same" yy nA a3 d3)(A4:Df P w K mg base ay 4 "value_of" ["scores","dealing"] u6 a4 d4)(mr:mg "range" = none)(ms:mg "sum" = none)(hr:qX 11 "_law_value_refused" vm A s f cdv) :
  Bx (Ų (br ay P w K mg base HF "_law_value_refused" (aa vm) f cdv A outer s H E).Ŝ (aH vm) (aZ (cV (dI K (tC (.int 9))) (bF 2)) (aZ (zi K) (aZ (JA K) (aZ (EZ Cs spC) (FV K)))))):=by
 have nd:=QK.nd;have Ħ:ö 1 _:=hr.mono ad;have TB:ö 4 _:=hr.mono ad;exact cA (aP (i:=2) nd rfl (Or.inl rfl) ⟨cq A1 Ħ ai (ac (pv 0) (ac (pv 1) (ac aB aq)))⟩)
  (cA (JW A1 mr hr)
  (cA (aP (i:=4) nd rfl (Or.inl rfl) ⟨ft iB (aY (ac (sK pG aB) (ac (aC lg aB (pv 2)) (ac (aC ua aB aB) (ac gR (ac bQ (ac av (ac (aY (ac aB aq)) (ac (aU (ac aB aq)) aq))))))))) (cq A1 Ħ ai (ac (pv 0) (ac (pv 1) (ac aB aq))))⟩)
  (cA ⟨bf (bu (aX (cY hz A3.G Ħ rfl A3.m A3.kp A3.b ai (ac (cq A2 hr ai (ac av (ac (pv 3) (ac (pv 4) (ac bQ aq))))) (ac av (ac (pv 4) aq)))))) (bj (cM gR)) fF⟩
  (be (gP ⟨eI (c8 cZ (cq A4 TB ai (ac (pv 3) (ac (aC gL (aC lg aB (pv 2)) aB) aq))) (ah (dS rfl) rfl ms Ė (ac (pv 3) aq)) (az _)) (fJ (c8 cZ (cq A4 TB ai (ac (pv 3) (ac aB aq))) aB (az _)))⟩)))))
end
end
def GX (G:Hp->Hp)(H0:Hp)(σ:St)(te:TE)(d:PyData):Prop:=∀(H:Hp)(Q:VK),Pt G H->Ext H0 H->(∀ v H',Ext H H'->Ĉ (G H') v d->Q v H')->te σ H Q
def M_ (G:Hp->Hp)(H0:Hp)(σ:St)(ta:TA)(ds:List PyData):Prop:=∀(H:Hp)(Q:List V->Hp->Prop),Pt G H->Ext H0 H->(∀ vs H',Ext H H'->Ñ (G H') vs ds->Q vs H')->ta σ H Q
section
variable {G:Hp->Hp}{H0:Hp}{σ:St}{te:TE}{ta:TA}{d:PyData}{ds:List PyData}
theorem GX.int (i:Int):GX G H0 σ (tC (.int i)) (.int i):=λ H Q _ _ q=>q _ H (Ext.refl _) (.int i)
theorem GX.bl (b:Bool):GX G H0 σ (tC (.bl b)) (.bool b):=λ H Q _ _ q=>q _ H (Ext.refl _) (.bl b)
theorem GX.ù:GX G H0 σ (tC .ù) .none:=λ H Q _ _ q=>q _ H (Ext.refl _) .ù
theorem GX.str (z:Str):GX G H0 σ (tC (.str z)) (.str z):=λ H Q _ _ q=>q _ H (Ext.refl _) (.str z)
theorem GX.neg (i:Int):GX G H0 σ (Hz (λ x H Q=>∃ i,x=.int i/\Q (.int (-i)) H) (tC (.int i))) (.int (-i)):=λ H Q _ _ q=>⟨i,rfl,q _ H (Ext.refl _) (.int _)⟩
theorem GX.F_:GX G H0 σ mh (.dict []):=λ H Q pt x q=>λ p hp=>q _ _ (Ext.new hp) (.Ů (pt.new (Ext.refl _) hp))
theorem M_.nil:M_ G H0 σ aG []:=λ H Q _ _ q=>q [] H (Ext.refl _) .nil
theorem M_.cons (h:GX G H0 σ te d)(k:M_ G H0 σ ta ds):M_ G H0 σ (ag te ta) (d::ds):=λ H Q pt x q =>
 h H _ pt x λ v H1 x1 r=>k H1 _ (pt.ext x1) (x.trans x1) λ vs H2 x2 rs=>q (v::vs) H2 (x1.trans x2) (.cons (r.mono (pt.mono x2)) rs)
theorem GX.tup (k:M_ G H0 σ ta ds)(hz:ds.length<=1000):GX G H0 σ (eF ta) (.tuple ds):=λ H Q pt x q =>
 k H _ pt x λ vs H1 x1 rs=>⟨by rw [rs.length,Ö];omega,λ p hp=>q _ _ (x1.trans (Ext.new hp)) (.tup (pt.new x1 hp) (rs.mono (pt.mono (Ext.new hp))))⟩
theorem GX.lst (k:M_ G H0 σ ta ds)(hz:ds.length<=1000):GX G H0 σ (aT ta) (.list ds):=λ H Q pt x q =>
 k H _ pt x λ vs H1 x1 rs=>⟨by rw [rs.length,Ö];omega,λ p hp=>q _ _ (x1.trans (Ext.new hp)) (.lst (pt.new x1 hp) (rs.mono (pt.mono (Ext.new hp))))⟩
theorem Ñ.rep {G:Hp}{vs:List V}{ds:List PyData}(r:Ñ G vs ds):∀ k:Nat,Ñ G (List.replicate k vs).flatten (List.replicate k ds).flatten
 | 0=>.nil
 | k+1=>by
  rw [ÿ,ÿ,Ĕ,Ĕ];exact r.append (r.rep k)
theorem GX.rep {k:Nat}(h:M_ G H0 σ ta ds)(hz:ds.length<=1000)(hk:k<=1000)(hm:ds.length*k<=10000):GX G H0 σ (aS qY (aT ta) (tC (.int (k:Nat)))) (.list (List.replicate k ds).flatten):=λ H Q pt x q =>
 h H _ pt x λ vs H1 x1 rs=>⟨by rw [rs.length,Ö];omega,λ p hp=>by
  have x2:=Ext.new (o:=.lst vs) hp;refine⟨p,_,vs,rfl,rfl,aR,am,am,?_,λ l hl=>?_⟩
  ·rw [õ,rs.length,Ö];omega
  ·have x3:=Ext.new (o:=.lst (List.replicate k vs).flatten) hl;exact q _ _ ((x1.trans x2).trans x3) (.lst (pt.new (x1.trans x2) hl) (((rs.rep k).mono (pt.mono x2)).mono (pt.mono x3)))⟩
theorem M_.use {Q:VK}(k:M_ G H0 σ ta ds)(pt:Pt G H0)(hz:ds.length<=1000)(q:∀ l vs H',Ext H0 H'->H0 l=none->G H' l=some (.lst vs)->H' l=some (.lst vs)->Ñ (G H') vs ds->Q (.ref l) H'):aT ta σ H0 Q :=
 k H0 _ pt (Ext.refl _) λ vs H1 x1 rs=>⟨by rw [rs.length,Ö];omega,λ p hp=>q p vs _ (x1.trans (Ext.new hp)) (by
  cases e:H0 p with
  | none=>rfl
  | some o=>rw [x1 _ _ e] at hp;cases hp) (pt.new x1 hp) aR (rs.mono (pt.mono (Ext.new hp)))⟩
end
theorem pT (xs:List Int):∀ n,n<=xs.length->Sg n (λ i=>xs.getD i 0)=(xs.take n).sum
 | 0,_=>rfl
 | n+1,h=>by
  rw [gU,pT xs n am,aQ (Â (by omega:n<xs.length)),ł,Ī,Â (by omega:n<xs.length)]
  simp
theorem wF (xs:List Int):t8 (2^xs.length-1) xs=xs.sum:=by
 unfold t8;rw [oj (g:=λ i=>xs.getD i 0) λ i hi=>by rw [à (Ac hi)],pT xs _ (Ç _),ä]
theorem t6 (xs:List Int):t8 0 xs=0:=by
 unfold t8;rw [oj (g:=λ _=>0) λ i _=>by rw [Ø (by unfold bt;rw [Int.zero_ediv];decide)],zW]
section
variable {P:Program}{w:World}{K:Frag}{mg:bv}{base:Heap}{sA p:Addr}{De:bY}{u:TS}{H:Hp}{ns:List Int}{n:Nat}{o3 o4:Option V}
theorem lV {σ:St}{ta:TA}{ds:List PyData}{Q:VK}{m:Int}(k:M_ (λ H=>wo H p) H σ ta ds)(l:ds.length<=100)(sc:Sc K H sA p ns)(h0:σ[0]?=some (some (.ref sA)))(h1:σ[1]?=some (some (.ref p)))(hm:m=(ds.length:Nat))(m0:0<ds.length)
  (q:∀ v d H',d∈ds->Ĉ (wo H' p) v d->Sc K H' sA p ns->Ext (wo H p) (wo H' p)->Q v H'):aS (cX K) (aT ta) (dI K (tC (.int m))) σ H Q:=by
 obtain⟨u,hu⟩:=sc.bx.some;refine M_.use k (yH hu) am λ a vs H1 x1 a0 hg ha rs=>?_;refine bH (sc.ext x1) h0 h1 (λ R r=>r) am am λ r H2 r0 r1 Χ k2=>?_;have x2:=aM k2;have hr:r.toNat<vs.length:=by rw [rs.length];omega
 have e:=yj r0 hr;obtain⟨d,ed,rd⟩:=rs.get (Â hr);exact⟨a,vs,r,_,rfl,rfl,ó.of (k2 _ _ ha (hW hg)),e,q _ d H2 (ê ed) (rd.mono x2) Χ ((aL x1 p).trans x2)⟩
theorem Bf (sc:Sc K H sA p ns)(M9:n<=20)(q:∀(l:Addr)(xs:List Int) H',Sc K H' sA p ns->Ext (wo H p) (wo H' p)->wo H' p l=some (.lst (xs.map V.int))->xs.length=n->u De [some (.ref sA),some (.ref p),some (.int (n:Nat)),some (.ref l),o4] H'):aZ (zi K) u De [some (.ref sA),some (.ref p),some (.int (n:Nat)),o3,o4] H:=by
 refine⟨_,rfl,(n:Int),rfl,am,am,λ D hD=>?_⟩;have nD:=sc.bx.ne hD;rw [õ];have Ug:wo H p D=none:=by
  cases e:wo H p D with
  | none=>rfl
  | some o=>have:=ak _ _ _ _ e;rw [hD] at this;cases this
 refine kX (lo:=0) (n:=n) (λ i ys H'=>Sc K H' sA p ns/\Ext (wo H p) (wo H' p)/\∃ xs:List Int,ys=xs.map V.int/\xs.length=i) (by rw [Ö];omega) ?_ ?_ ?_
 ·have x3:=Ext.new (o:=.lst []) hD;exact⟨sc.ext x3,aL x3 p,[],rfl,rfl⟩
 ·rintro i ys H' hi ly ĩ ⟨Lv,x',xs,rfl,lx⟩ os ŋ R k';obtain⟨o0,rfl⟩:∃ o0,os=[o0]:=by
   match os,ŋ with
   | [o0],_=>exact⟨o0,rfl⟩
  refine⟨⟨[_],rfl,rfl⟩,_,rfl,_,rfl,sA,ns,p,9,rfl,Lv.sq,Lv.N_,Lv.ne,Lv.bx,ad,ad,λ y H5 y0 y1 b5 k5 _=>⟨_,_,rfl,rfl,?_⟩⟩;have TJ:=k5 _ _ ĩ nD;have xf:Ext (wo H p) (wo (af H5 D (.lst (xs.map V.int ++ [.int (y-4)]))) p):=λ b o e=>by
   have n1:b≠D:=λ z=>by rw [z,Ug] at e;cases e
   have e2:=(x'.trans (aM k5)) _ _ e;exact bc (hW e) (by rw [au n1];exact ak _ _ _ _ e2)
  exact k' _ H5 TJ ⟨sc.Tg xf (b5.up nD),xf,xs ++ [y-4],by rw [Ï];rfl,by rw [Ð,lx];rfl⟩
 ·rintro ys H' ly ĩ ⟨Lv,x',xs,rfl,lx⟩;exact q D xs H' Lv x' (bc nD ĩ) lx
def p7 (n:Nat):List PyData:=[.int (-1),.int (1*2^n),.int (10^29),.bool true,.none,.str "0",.list [.int 0],.tuple [.int 1]]
theorem tN {lo hi i:Int}(h:¬ i<=hi):jf lo hi (.int i)=false:=by
 show(decide (lo<=i)&&decide (i<=hi))=false;rw [É h,Bool.and_false]
theorem ur {n:Nat}(h:n<=20):∀ d∈p7 n,jf 0 (2^n-1) d=false/\gJ d:=by
 have p2:(2:Int)^n<=2^20:=by
  have:=Nat.pow_le_pow_right (n:=2) ad h
  exact_mod_cast this
 have p0:(0:Int)<2^n:=by
  have:=Nat.two_pow_pos n
  exact_mod_cast this
 have UB:(2:Int)^20=1048576:=ad;intro d hd;unfold p7 at hd;simp only [List.mem_cons,List.not_mem_nil,or_false] at hd;rcases hd with rfl | rfl | rfl | rfl | rfl | rfl | rfl | rfl
 ·exact⟨rfl,(bV ad ad).show ad ad⟩
 ·refine⟨?_,(bV am am).show ad ad⟩;exact tN am
 ·refine⟨?_,(tq ad).show ad ad⟩;exact tN (λ z=>absurd (Int.le_trans z (by omega:(2:Int)^n-1<=2^20)) ad)
 ·exact⟨rfl,kh⟩
 ·exact⟨rfl,d_.show ad ad⟩
 ·exact⟨rfl,⟨rfl,ad,ao⟩⟩
 ·exact⟨rfl,(l8 (k:=0) (n:=2) (m:=1) (λ d hd=>by cases Ô.mp hd;exact bV ad ad) (Ç _)).show ad ad⟩
 ·exact⟨rfl,(gT (k:=0) (n:=2) (m:=1) (λ d hd=>by cases Ô.mp hd;exact bV ad ad) (Ç _)).show ad ad⟩
theorem z9 {σ:St}{Q:VK}(h2:σ[2]?=some (some (.int (n:Nat))))(M9:n<=20)(sc:Sc K H sA p ns)(h0:σ[0]?=some (some (.ref sA)))(h1:σ[1]?=some (some (.ref p)))(q:∀ v d H',d∈p7 n->Ĉ (wo H' p) v d->Sc K H' sA p ns->Ext (wo H p) (wo H' p)->Q v H'):AQ K σ H Q:=by
 refine lV (ds:=p7 n) ?_ (by show 8<=100;decide) sc h0 h1 rfl (by show 0<8;decide) q
 refine .cons (.neg 1) (.cons (λ H1 Q1 _ _ q1=>⟨_,h2,_,_,rfl,rfl,⟨am,am,ad⟩,?_⟩) (.cons (λ H1 Q1 _ _ q1=>⟨10,29,rfl,rfl,⟨ad,ad,ad⟩,q1 _ _ (Ext.refl _) (.int _)⟩) (.cons (.bl _) (.cons .ù (.cons (.str _) (.cons (.lst (.cons (.int _) .nil) ad) (.cons (.tup (.cons (.int _) .nil) ad) .nil)))))));show Q1 (.int (1*2^((n:Nat):Int).toNat)) H1;rw [õ];exact q1 _ _ (Ext.refl _) (.int _)
end
section
variable {P:Program}{w:World}{K:Frag}{mg:bv}{base:Heap}{Cs:Nat->Addr}{spC:Sp}{sA p f a1 a2 a3 a4:Addr}{fd d1 d2 d3 d4:FuncData}{C MC:Nat->Addr}{CF CO CT CW:Addr}{H:Hp}{ns:List Int}
def zf (Cs:Nat->Addr)(spC:Sp)(ta:TA)(z:Str)(tx:TE):TE:=iD nA E0 (ag (gE (lu Cs spC) [] E0 ta) (ag (tC (.str z)) (ag tx aG)))
theorem ls {σ:St}{Q:VK}{ta:TA}{tx:TE}{a b c e y y':V}{d:PyData}{z:Str}(j:Nat)(hj:j=0\/j=1\/j=4\/j=5\/j=6)(ez:z=fR j)(Vv:∀ R:List V->Hp->Prop,R [a,b,c,e] H->ta σ H R)(hC:∀(Qn:VK)(E:XK),(∀ H',Ext H H'->bM (Cs j) (ie j) y H' E)->spC [a,b,c,e] H Qn E)
  (Vt:∀(H':Hp)(R:VK),Ext H H'->R y' H'->tx σ H' R)(r1:Ĉ H y d)(r2:Ĉ H y' d)(sh:gJ d)(q:∀ H',Ext H H'->Q (.bl true) H'):zf Cs spC ta z tx σ H Q:=by
 subst ez;exact Vv _ ⟨a,b,c,e,rfl,.inr ⟨j,y,hj,hC,λ p1 H1 x1 Vz=>Vt H1 _ x1 λ hz=>⟨p1,_,y',y,d,rfl,Vz,r1.mono x1,r2.mono x1,sh,hz,q H1 x1⟩⟩⟩
def Cz (K:Frag):Sp:=λ vs H Q _=>∃ sA p ns,vs=[.ref sA,.ref p]/\H sysModules=none/\Sc K H sA p ns/\∀ H',Sc K H' sA p ns->Ext (wo H p) (wo H' p)->Q (.bl true) H'
theorem DC {De:bY}{σ:St}{u:TS}{l:Addr}{xs:List Int}{v:V}{d:PyData}(s3:σ[3]?=some (some (.ref l)))(s4:σ[4]?=some (some v))(hl:H l=some (.lst (xs.map V.int)))(LI:xs.length<=20)(r:Ĉ H v d)(i:jf 0 (2^xs.length-1) d=false)(sh:gJ d)(q:∀ H',Ext H H'->u De σ H') :
  aZ (EZ Cs (hI K C MC CF CO CT CW (vQ K (Cs 6)))) u De σ H:=by
 refine ls (y:=v) (y':=v) (a:=.str "value") (b:=.ref l) (c:=v) (e:=.ù) 6 ad ao (λ R r=>⟨_,s3,_,s4,r⟩) (λ Qn E h=>?_) (λ H' R x r=>⟨_,s4,r⟩) r r sh λ H' x=>⟨_,rfl,cE (q H' x)⟩;exact⟨_,_,_,_,rfl,.inr (.inr ⟨rfl,l,xs,v,rfl,hl,LI,r.th,by rw [r.LJ];exact i,h H (Ext.refl _)⟩)⟩
theorem Da {De:bY}{σ:St}{l:Addr}{xs:List Int}(s2:σ[2]?=some (some (.int (xs.length:Nat))))(s3:σ[3]?=some (some (.ref l)))(hl:H l=some (.lst (xs.map V.int)))(LI:xs.length<=20)(q:∀ H',Ext H H'->De.rt (.bl true) H'):FV K De σ H:=by
 have p0:(0:Int)<2^xs.length:=by
  have:=Nat.two_pow_pos xs.length
  exact_mod_cast this
 have ex:(1:Int)*2^((xs.length:Nat):Int).toNat-1=2^xs.length-1:=by rw [õ,Int.one_mul]
 refine⟨_,s3,_,s2,_,_,rfl,rfl,⟨am,am,ad⟩,_,_,rfl,rfl,l,xs,_,rfl,hl,LI,?_,?_,λ H1 x1=>?_⟩
 ·show(0:Int)<=1*2^((xs.length:Nat):Int).toNat-1;rw [ex];omega
 ·show(1:Int)*2^((xs.length:Nat):Int).toNat-1<_;rw [ex];omega
 refine⟨_,s3,l,xs,rfl,ó.of (x1 _ _ hl),?_⟩;rw [ex,wF];refine⟨rfl,?_⟩;rw [Å rfl];refine⟨_,rfl,cQ ⟨_,s3,l,xs,0,rfl,x1 _ _ hl,LI,Int.le_refl _,p0,λ H2 x2=>?_⟩⟩;rw [t6];refine⟨rfl,?_⟩;rw [Å rfl];exact q H2 (x1.trans x2)
theorem Hf (F:ğ K "_law_value_refused" "_law_value_refused" vm f fd)(A1:Df P w K mg base ay 1 "_law_take" ["_law_script","_law_pen","_law_many"] (cS K) a1 d1)(A2:Df P w K mg base ay 11 "_law_refused" r6 (lu Cs (hI K C MC CF CO CT CW (vQ K (Cs 6)))) a2 d2)(A3:Df P w K mg base ay 1 "_law_same" yy nA a3 d3)(A4:Df P w K mg base ay 4 "value_of" ["scores","dealing"] u6 a4 d4)(mr:mg "range" = none)(ms:mg "sum" = none):ß P w K mg base ay 12 f fd ["_law_script","_law_pen"] (Cz K):=by
 refine cw F QK λ cdv A outer s H vs Q E hr h=>?_;obtain⟨sA,p,ns,rfl,hz,sc,q⟩:=h;refine iU (AY hz A1 A2 A3 A4 mr ms hr) ⟨?_⟩;refine aN (te:=dI K (tC (.int 9))) (i:=2) (bH (m:=9) sc rfl rfl (λ R r=>r) ad ad λ r H1 r0 r1 ž k1=>?_);obtain⟨n,rfl⟩:∃ n:Nat,r=n:=⟨r.toNat,am⟩;have M9:n<=20:=am;refine Bf (n:=n) ž M9 λ l xs H2 Χ x2 hl lx=>?_;subst lx;refine aN (te:=AQ K) (i:=4) (z9 rfl M9 Χ rfl rfl λ v d H3 hd rd Δ x3=>?_);obtain⟨i,sh⟩:=ur M9 d hd;have PP:=ak _ _ _ _ (x3 _ _ hl);refine DC (l:=l) (xs:=xs) rfl rfl PP M9 (rd.mono (ak _ _)) i sh λ H4 x4=>?_;refine Da (l:=l) (xs:=xs) rfl rfl (x4 _ _ PP) M9 λ H5 x5=>?_;have Wx:=x4.trans x5;exact q H5 (Δ.ext Wx) (((aM k1).trans x2).trans (x3.trans (aL Wx p)))
end
section
variable {P:Program}{w:World}{K:Frag}{mg:bv}{base:Heap}{Cs:Nat->Addr}{spC:Sp}{f a1 a2 a3:Addr}{fd d1 d2 d3:FuncData}
abbrev DK:Stmt:=cr 82
abbrev JO:List Str:=["_law_script","_law_pen","_law_measure","_law_rule_here","_law_outcomes_here"]
abbrev Ki:List Str:=["_law_script","_law_pen","_law_measure","_law_rule_here","_law_outcomes_here","_law_many","_law_odd","_law_bad","_law_at","_law_spoilt","_law_wrong","_law_longer"]
theorem RI:ae Ki JO (aa DK):=aO
def F4 (K:Frag):List V->Hp->VK->Prop:=λ xs H Q=>∃ p ys,xs=[.ref p]/\((ó K H p ys/\∀ l,H l=none->Q (.ref l) (af H l (.tup ys)))\/(ĥ K H p ys/\Q (.ref p) H))
def uM (K:Frag):TA:=ag (tC .ù) (ag (iQ (F4 K) (ag (ar 4) aG)) (ag mh (ag (tC (.int 7)) (ag (tC (.str "7")) (ag (tC (.bl true)) aG)))))
def tT:TA:=ag (tC .ù) (ag (eF (ag (tC (.int 100)) (ag (tC (.bl true)) aG))) (ag (eF (ag (tC (.int 7)) aG)) (ag (aT (ag (tC (.int 7)) (ag (tC (.bl true)) aG))) (ag (eF (ag (tC (.int 7)) (ag (tC (.int 1)) aG))) (ag (eF (ag (tC (.bl true)) (ag (tC (.bl true)) aG))) (ag (tC (.str "7")) aG))))))
def yR (Cs:Nat->Addr)(spC:Sp)(te:TE)(z:Str)(tx:TE):TE:=zf Cs spC (ag (tC (.str "scores")) (ag (ar 2) (ag (ar 3) (ag te aG)))) z tx
def sD (te:TE):TS:=dQ (mj (tB te)) (cW (tC (.bl false))) bZ
def GF (a b:TE):TE:=aS (eO λ i j=>.int (i+j)) a b
def IM (K:Frag):TS:=cV (iN K 4) (bF 5)
def JB (K:Frag):TS:=cV (aS (cX K) (aT (uM K)) (dI K (tC (.int 6)))) (bF 6)
def Je (Cs:Nat->Addr)(spC:Sp):TS:=sD (yR Cs spC (ar 6) "folk" (ar 6))
def Jb (K:Frag):TS:=cV (aS (cX K) (aT tT) (dI K (tC (.int 7)))) (bF 7)
def Ja (K:Frag):TS:=cV (dI K (GF (ar 5) (tC (.int 1)))) (bF 8)
def EE (K:Frag):TS:=cV (aS i5 (zL (pi K) (ar 4) fL (jk (ar 8))) (aT (ag (ar 7) aG))) (bF 9)
def IB (K:Frag):TE:=aT (ag (aS i5 (ar 9) (zL (pi K) (ar 4) (jk (ar 8)) fL)) (ag (aS i5 (ar 9) (zL (pi K) (ar 4) (jk (GF (ar 8) (tC (.int 1)))) fL)) aG))
def Fm (K:Frag)(Cs:Nat->Addr)(spC:Sp):TS:=mH (cO K (IB K)) (bF 10) (sD (yR Cs spC (ar 10) "outcome" (ar 8)))
def He (K:Frag):TS:=cV (aS i5 (ar 4) (aS qY (aT (ag (eF (ag (tC (.int 1)) (ag (tC (.bl false)) aG))) aG)) (GF (tC (.int 1)) (dI K (tC (.int 3)))))) (bF 11)
def Jv (K:Frag)(Cs:Nat->Addr)(spC:Sp):TS:=sD (yR Cs spC (ar 11) "folk" (iN K 11))
def Ig:TS:=dQ (tB (aS rW (ar 5) (tC (.int 0)))) (cW (tC (.bl true))) bZ
def Iq (K:Frag)(Cs:Nat->Addr)(spC:Sp):TS:=cW (yR Cs spC (zL (pi K) (ar 4) (jk (tC (.int 1))) fL) "folk" (aS (eO λ i j=>.int (i-j)) (ar 5) (tC (.int 1))))
section
variable {cdv:Value}{A:Around}{outer:List Env}{s:Shared}{H:Hp}{E:XK}
theorem Di (hz:H sysModules=none)(A1:Df P w K mg base ay 1 "_law_take" ["_law_script","_law_pen","_law_many"] (cS K) a1 d1)(A2:Df P w K mg base ay 11 "_law_refused" r6 (lu Cs spC) a2 d2)(A3:Df P w K mg base ay 1 "_law_same" yy nA a3 d3)(mn:mg "len" = none)(mt:mg "tuple" = none)(hr:qX 11 "_law_scores_refused" DK A s f cdv) :
  Bx (Ų (br ay P w K mg base Ki "_law_scores_refused" (aa DK) f cdv A outer s H E).Ŝ (aH DK) (aZ (IM K) (aZ (JB K) (aZ (Je Cs spC) (aZ (Jb K) (aZ (Ja K) (aZ (EE K) (aZ (Fm K Cs spC) (aZ (He K) (aZ (Jv K Cs spC) (aZ Ig (Iq K Cs spC)))))))))))):=by
 have nd:=RI.nd;have Ħ:ö 1 _:=hr.mono ad;exact cA (aP (i:=5) nd rfl (Or.inl rfl) ⟨ah aF rfl mn ñ (ac (pv 4) aq)⟩)
  (cA (aP (i:=6) nd rfl (Or.inl rfl) (pU iB (dw (bX ⟨bQ⟩ (bX ⟨bA bR rfl mt í (ac (pv 4) aq)⟩ (bX ⟨mI⟩ (bX ⟨aB⟩ (bX ⟨av⟩ (bX ⟨gR⟩ bp))))))) ⟨cq A1 Ħ ai (ac (pv 0) (ac (pv 1) (ac aB aq)))⟩))
  (cA ⟨bf (bu (aX (cY hz A3.G Ħ rfl A3.m A3.kp A3.b ai (ac (cq A2 hr ai (ac av (ac (pv 2) (ac (pv 3) (ac (pv 6) aq))))) (ac av (ac (pv 6) aq)))))) (bj (cM gR)) fF⟩
  (cA (aP (i:=7) nd rfl (Or.inl rfl) (pU iB (dw (bX ⟨bQ⟩ (bX ⟨aU (ac aB (ac gR aq))⟩ (bX ⟨aU (ac aB aq)⟩ (bX ⟨aY (ac aB (ac gR aq))⟩ (bX ⟨aU (ac aB (ac aB aq))⟩ (bX ⟨aU (ac gR (ac gR aq))⟩ (bX ⟨av⟩ bp)))))))) ⟨cq A1 Ħ ai (ac (pv 0) (ac (pv 1) (ac aB aq)))⟩))
  (cA (aP (i:=8) nd rfl (Or.inl rfl) ⟨cq A1 Ħ ai (ac (pv 0) (ac (pv 1) (ac (aC cj (pv 5) aB) aq)))⟩)
  (cA (aP (i:=9) nd rfl (Or.inl rfl) ⟨aC iE (ib jc (pv 4) je (i6 (pv 8))) (aY (ac (pv 7) aq))⟩)
  (cA ⟨gk ĸ rfl (bC (aY (ac (aC iE (pv 9) (ib jc (pv 4) (i6 (pv 8)) je)) (ac (aC iE (pv 9) (ib jc (pv 4) (i6 (aC cj (pv 8) aB)) je)) aq)))) (dG (i:=10) nd rfl (Or.inl rfl))
   (bj (bf (bu (aX (cY hz A3.G Ħ rfl A3.m A3.kp A3.b ai (ac (cq A2 hr ai (ac av (ac (pv 2) (ac (pv 3) (ac (pv 10) aq))))) (ac av (ac (pv 8) aq)))))) (bj (cM gR)) fF))⟩
  (cA (aP (i:=11) nd rfl (Or.inl rfl) ⟨aC iE (pv 4) (aC uD (aY (ac (aU (ac aB (ac gR aq))) aq)) (aC cj aB (cq A1 Ħ ai (ac (pv 0) (ac (pv 1) (ac aB aq))))))⟩)
  (cA ⟨bf (bu (aX (cY hz A3.G Ħ rfl A3.m A3.kp A3.b ai (ac (cq A2 hr ai (ac av (ac (pv 2) (ac (pv 3) (ac (pv 11) aq))))) (ac av (ac (ah aF rfl mn ñ (ac (pv 11) aq)) aq)))))) (bj (cM gR)) fF⟩
  (cA ⟨bf (aA cZ (pv 5) aB (az _)) (bj (cM gR)) fF⟩
  (be ⟨cM (cY hz A3.G Ħ rfl A3.m A3.kp A3.b ai (ac (cq A2 hr ai (ac av (ac (pv 2) (ac (pv 3) (ac (ib jc (pv 4) (i6 aB) je) aq))))) (ac av (ac (aC gL (pv 5) aB) aq))))⟩))))))))))
end
end
theorem wb (xs:List V)(k:Nat)(h:k<=xs.length):mf xs none (some (k:Int))=xs.take k:=by
 unfold mf;rw [HT.Nz,HT.M0,Nat.min_eq_left h,List.drop_zero,Nat.sub_zero]
theorem kP (xs:List V)(k:Nat):mf xs (some (k:Int)) none=xs.drop k:=by
 unfold mf;rw [HT.Nz,HT.M0];by_cases h:k<=xs.length
 ·rw [Nat.min_eq_left h,Qz (by rw [ω];omega)]
 ·rw [Nat.min_eq_right am,g_,List.take_zero,List.drop_eq_nil_of_le am]
theorem AB {o:Int × Bool}(h:-99<=o.1/\o.1<=99):fH (iZ o)=true:=by
 show(decide (-99<=o.1)&&decide (o.1<=99)&&true)=true;rw [Å h.1,Å h.2];rfl
theorem Nq.out {os:List (Int × Bool)}(h:Nq os):∀ d∈os.map iZ,fH d=true:=λ d hd=>by
 obtain⟨o,ho,rfl⟩:=ć.mp hd;exact AB (h o ho)
theorem tz {A R:List PyData}{d:PyData}(hA:∀ x∈A,fH x=true)(hd:fH d=false):eH ((A ++ [d]++R).map fH) A.length:=by
 refine⟨λ j b hj hb=>?_,?_⟩
 ·rw [ι,Ï,ð (by rw [Ä];exact hj),Ò] at hb
  obtain⟨x,ex,rfl⟩:=á.mp hb;exact hA x (ê ex)
 ·rw [ι,Ï,å (by rw [Ä];exact Ç _),Ä,g_]
  show some (fH d)=some false;rw [hd]
theorem J7 (o:Int × Bool)(h:-99<=o.1/\o.1<=99):Fi 1 7 (iZ o):=gT (k:=0) (n:=2) (m:=2) (λ d hd=>by
 rcases ç.mp hd with rfl | hd
 ·exact bV am am
 ·cases Ô.mp hd;exact MD) (Ç _)
section
variable {P:Program}{w:World}{K:Frag}{mg:bv}{base:Heap}{Cs C MC:Nat->Addr}{CT CW sA p l:Addr}{c_:Sp}{H H':Hp}{ns:List Int}{m r v:V}{xs ys:List V}{os:List (Int × Bool)}{t:Rl}{d:PyData}{ds:List PyData}
theorem M7.of (rs:Ñ H ys ds):M7 K H ys (ds.map fH):=by
 refine⟨by rw [Ä];exact rs.length,λ i x hx=>?_⟩
 obtain⟨d,ed,rd⟩:=rs.get hx;exact⟨fH d,by rw [Ò,ed];rfl,.inl ⟨d,rd,rfl⟩⟩
def Oe (MC:Nat->Addr)(H:Hp)(m:V):Prop:=∃ x i dx fs,i<5/\m=.ref x/\H x=some (.ins (MC i) dx fs)/\fs.lookup ("scores" : Str)=none
theorem Oe.ext (h:Oe MC H m)(x:Ext H H'):Oe MC H' m:=by
 obtain⟨a,i,dx,fs,hi,e,ha,lk⟩:=h;exact⟨a,i,dx,fs,hi,e,x _ _ ha,lk⟩
structure NG (K:Frag)(C MC:Nat->Addr)(sA p:Addr)(ns:List Int)(m r:V)(l:Addr)(xs:List V)(os:List (Int × Bool))(t:Rl)(H:Hp):Prop where
 sc:Sc K H sA p ns
 me:Oe MC (wo H p) m
 ru:Ru C (wo H p) t r
 hl:wo H p l=some (.lst xs)
 rs:Ñ (wo H p) xs (os.map iZ)
 ok:Nq os
 ln:(os.length:Int)=t.Õ
 le:os.length<=100
theorem NG.go (h:NG K C MC sA p ns m r l xs os t H)(sc:Sc K H' sA p ns)(x:Ext (wo H p) (wo H' p)):NG K C MC sA p ns m r l xs os t H':=⟨sc,h.me.ext x,h.ru.ext x,x _ _ h.hl,h.rs.mono x,h.ok,h.ln,h.le⟩
theorem NG.ext (h:NG K C MC sA p ns m r l xs os t H)(x:Ext H H'):NG K C MC sA p ns m r l xs os t H':=h.go (h.sc.ext x) (aL x p)
theorem zQ (h:NG K C MC sA p ns m r l xs os t H)(rd:Ĉ H v d)(nl:rV d=false)(Qn:VK)(E:XK)(q:∀ H',Ext H H'->bM (Cs 0) (ie 0) v H' E):hI K C MC (Cs 0) (Cs 1) CT CW c_ [.str "scores",m,r,v] H Qn E :=
 ⟨_,_,_,_,rfl,.inl ⟨rfl,h.me.ext (ak _ _),m,r,v,t,rfl,h.ru.ext (ak _ _),v,t.Õ,rfl,.inl ⟨⟨_,rd.kd,by rw [rd.Vl,nl]⟩,q H (Ext.refl _)⟩⟩⟩
theorem tK {a:Addr}(h:NG K C MC sA p ns m r l xs os t H)(ha:H a=some (.lst ys))(rs:Ñ H ys ds)(al:∀ d∈ds,fH d=true)(ne:ds.length≠os.length)(Qn:VK)(E:XK)(q:∀ H',Ext H H'->bM (Cs 0) (ie 0) (.int (ds.length:Nat)) H' E):hI K C MC (Cs 0) (Cs 1) CT CW c_ [.str "scores",m,r,.ref a] H Qn E:=by
 refine⟨_,_,_,_,rfl,.inl ⟨rfl,h.me.ext (ak _ _),m,r,_,t,rfl,h.ru.ext (ak _ _),_,t.Õ,rfl,.inr ⟨a,ys,ds.map fH,rfl,ha,.of rs,λ _ H' x'=>?_,λ i fb=>?_⟩⟩⟩
 ·have l:=rs.length;have:=h.ln;rw [Ø am,l];exact q H' x'
 ·have e:=fb.2;rw [Ò] at e;obtain⟨d,ed,e2⟩:=á.mp e;rw [al d (ê ed)] at e2;cases e2
theorem Ao {a:Addr}{i:Nat}(h:NG K C MC sA p ns m r l xs os t H)(ha:H a=some (.lst ys))(rs:Ñ H ys ds)(fb:eH (ds.map fH) i)(Qn:VK)(E:XK)(q:∀ H',Ext H H'->bM (Cs 1) (ie 1) (.int (i:Nat)) H' E):hI K C MC (Cs 0) (Cs 1) CT CW c_ [.str "scores",m,r,.ref a] H Qn E:=by
 refine⟨_,_,_,_,rfl,.inl ⟨rfl,h.me.ext (ak _ _),m,r,_,t,rfl,h.ru.ext (ak _ _),_,t.Õ,rfl,.inr ⟨a,ys,ds.map fH,rfl,ha,.of rs,λ al=>?_,λ j fj H' x'=>?_⟩⟩⟩
 ·have:=ě.mp al false (ê fb.2);cases this
 ·have e:j=i:=by
   rcases Nat.lt_trichotomy j i with lt | e | gt
   ·have:=fb.1 j false lt fj.2;cases this
   ·exact e
   ·have:=fj.1 i false gt fb.2;cases this
  rw [e];exact q H' x'
def Dp (os:List (Int × Bool)):List PyData:=[.none,.tuple (os.map iZ),.dict [],.int 7,.str "7",.bool true]
theorem wc (ok:Nq os)(le:os.length<=100):∀ d∈Dp os,rV d=false/\gJ d:=by
 intro d hd;unfold Dp at hd;simp only [List.mem_cons,List.not_mem_nil,or_false] at hd;rcases hd with rfl | rfl | rfl | rfl | rfl | rfl
 ·exact⟨rfl,d_.show ad ad⟩
 ·exact⟨rfl,(gT (m:=100) (λ d hd=>by obtain⟨o,ho,rfl⟩:=ć.mp hd;exact J7 o (ok o ho)) (by rw [Ä];exact le)).show ad ad⟩
 ·exact⟨rfl,ND.show ad ad⟩
 ·exact⟨rfl,(bV ad ad).show ad ad⟩
 ·exact⟨rfl,⟨rfl,ad,ao⟩⟩
 ·exact⟨rfl,kh⟩
def sX:List PyData:=[.none,.tuple [.int 100,.bool true],.tuple [.int 7],.list [.int 7,.bool true],.tuple [.int 7,.int 1],.tuple [.bool true,.bool true],.str "7"]
theorem ux:∀ d∈sX,fH d=false:=by
 intro d hd;unfold sX at hd;simp only [List.mem_cons,List.not_mem_nil,or_false] at hd;rcases hd with rfl | rfl | rfl | rfl | rfl | rfl | rfl <;> rfl
theorem Bi {σ:St}(h:NG K C MC sA p ns m r l xs os t H)(s4:σ[4]?=some (some (.ref l))):M_ (λ H=>wo H p) H σ (uM K) (Dp os) :=
 .cons .ù (.cons (λ H1 Q1 pt x q=>⟨_,s4,l,xs,rfl,.inl ⟨ó.of (x _ _ (ak _ _ _ _ h.hl)),λ a ha=>q _ _ (Ext.new ha) (.tup (pt.new (Ext.refl _) ha) (h.rs.mono ((pt.mono x).trans (pt.mono (Ext.new ha)))))⟩⟩) (.cons .F_ (.cons (.int _) (.cons (.str _) (.cons (.bl _) .nil)))))
theorem zF {G:Hp->Hp}{σ:St}:M_ G H σ tT sX :=
 .cons .ù (.cons (.tup (.cons (.int _) (.cons (.bl _) .nil)) ad) (.cons (.tup (.cons (.int _) .nil) ad) (.cons (.lst (.cons (.int _) (.cons (.bl _) .nil)) ad) (.cons (.tup (.cons (.int _) (.cons (.int _) .nil)) ad) (.cons (.tup (.cons (.bl _) (.cons (.bl _) .nil)) ad) (.cons (.str _) .nil))))))
end
section
variable {P:Program}{w:World}{K:Frag}{mg:bv}{base:Heap}{Cs C MC:Nat->Addr}{CT CW sA p l f a1 a2 a3:Addr}{c_:Sp}{H H':Hp}{ns:List Int}{m r v:V}{xs ys:List V}{os:List (Int × Bool)}{t:Rl}{d:PyData}{ds:List PyData}{De:bY}{u:TS}{fd d1 d2 d3:FuncData} {o0 o1 o2 o3 o4 o5 o6 o7 o8 o9 ŭ Ζ:Option V}
abbrev rN (K:Frag)(Cs C MC:Nat->Addr)(CT CW:Addr)(c_:Sp):Sp:=hI K C MC (Cs 0) (Cs 1) CT CW c_
theorem uw {te:TE}{σ:St}(h:∀ R:VK,(∀ H',Ext H H'->R (.bl true) H')->te σ H R)(q:∀ H',Ext H H'->u De σ H'):aZ (sD te) u De σ H:=h _ λ H' x=>⟨_,rfl,cE (q H' x)⟩
theorem v0 {te:TE}{σ:St}(h:∀ R:VK,(∀ H',Ext H H'->R (.bl true) H')->te σ H R)(q:∀ H',Ext H H'->De.nx σ H'):sD te De σ H:=h _ λ H' x=>⟨_,rfl,cE (q H' x)⟩
theorem pM {spC:Sp}{σ:St}{Q:VK}{te tx:TE}{y y':V}{z:Str}(s2:σ[2]?=some (some m))(s3:σ[3]?=some (some r))(j:Nat)(hj:j=0\/j=1\/j=4\/j=5\/j=6)(ez:z=fR j)(Sz:∀ R:VK,R v H->te σ H R)(hC:∀(Qn:VK)(E:XK),(∀ H',Ext H H'->bM (Cs j) (ie j) y H' E)->spC [.str "scores",m,r,v] H Qn E)
  (Vt:∀(H':Hp)(R:VK),Ext H H'->R y' H'->tx σ H' R)(r1:Ĉ H y d)(r2:Ĉ H y' d)(sh:gJ d)(q:∀ H',Ext H H'->Q (.bl true) H'):yR Cs spC te z tx σ H Q :=
 ls j hj ez (λ R k=>⟨_,s2,_,s3,Sz _ k⟩) hC Vt r1 r2 sh q
theorem ng {n:Nat}(h:n<=2000):gJ (.int (n:Nat)):=(bV am am).show ad ad
theorem BF {i:Nat}(h:NG K C MC sA p ns m r l xs os t H)(hi:i<=os.length)(rv:Ĉ (wo H p) v d)
  (q:∀ a H',Ext H H'->wo H' p a=some (.lst (xs.take i ++ [v]))->u De [o0,o1,o2,o3,some (.ref l),o5,o6,some v,some (.int (i:Nat)),some (.ref a),ŭ,Ζ] H'):aZ (EE K) u De [o0,o1,o2,o3,some (.ref l),o5,o6,some v,some (.int (i:Nat)),o9,ŭ,Ζ] H:=by
 have lx:=h.rs.length;rw [Ä] at lx;have le:=h.le;refine aN (te:=aS i5 (zL (pi K) (ar 4) fL (jk (ar 8))) (aT (ag (ar 7) aG))) (i:=9) ⟨_,rfl,_,rfl,_,rfl,l,xs,rfl,ó.of (ak _ _ _ _ h.hl),λ b hb=>?_⟩;rw [wb xs i am];have x1:=Ext.new (o:=.lst (xs.take i)) hb;have g1:af H b (.lst (xs.take i)) b=some (.lst (xs.take i)):=aR;generalize af H b (.lst (xs.take i))=H1 at x1 g1 ⊢;refine⟨_,rfl,dA,λ c hc=>?_⟩;have x2:=Ext.new (o:=.lst [v]) hc;have g2:af H1 c (.lst [v]) c=some (.lst [v]):=aR;generalize af H1 c (.lst [v])=H2 at x2 g2 ⊢;refine⟨b,c,_,_,rfl,rfl,x2 _ _ g1,g2,by rw [Đ,Ö];show _+1<=_;omega,λ a ha=>?_⟩
 have x3:=Ext.new (o:=.lst (xs.take i ++ [v])) ha;have Ph:=(x1.trans x2).trans x3;exact q a _ Ph (bc (h.sc.bx.ext (x1.trans x2) |>.ne ha) aR)
theorem qw {σ:St}{Q:VK}{a:Addr}{zs:List V}{k:Nat}{te:TE}(s9:σ[9]?=some (some (.ref a)))(s4:σ[4]?=some (some (.ref l)))(ha:H a=some (.lst zs))(hl:H l=some (.lst xs))(lz:zs.length<=200)(lx:xs.length<=200)(Sz:∀ R:VK,R (.int (k:Nat)) H->te σ H R)
  (aa0:∀ H' (R:VK),Ext H H'->R (.int (k:Nat)) H'->te σ H' R)(q:∀ b H',Ext H H'->H' b=some (.lst (zs++xs.drop k))->Q (.ref b) H'):aS i5 (ar 9) (zL (pi K) (ar 4) (jk te) fL) σ H Q:=by
 refine⟨_,s9,_,s4,Sz _ ⟨_,rfl,l,xs,rfl,ó.of hl,λ b hb=>?_⟩⟩;rw [kP];have x1:=Ext.new (o:=.lst (xs.drop k)) hb;refine⟨a,b,_,_,rfl,rfl,x1 _ _ ha,aR,by rw [ω,Ö];omega,λ c hc=>?_⟩
 exact q c _ (x1.trans (Ext.new hc)) aR
theorem AV {i:Nat}{a:Addr}(h:NG K C MC sA p ns m r l xs os t H)(hi:i<=os.length)(rv:Ĉ (wo H p) v d)(bd:fH d=false)(ha:wo H p a=some (.lst (xs.take i ++ [v])))
  (q:∀ ŭ H',Ext H H'->u De [o0,o1,some m,some r,some (.ref l),o5,o6,o7,some (.int (i:Nat)),some (.ref a),ŭ,Ζ] H'):aZ (Fm K Cs (rN K Cs C MC CT CW c_)) u De [o0,o1,some m,some r,some (.ref l),o5,o6,o7,some (.int (i:Nat)),some (.ref a),ŭ,Ζ] H:=by
 have lx:=h.rs.length;rw [Ä] at lx;have le:=h.le;have Xn:=ak _ _ _ _ ha;have Rp:=ak _ _ _ _ h.hl;have lz:(xs.take i ++ [v]).length<=200:=by rw [Ð,Đ];show _+1<=_;omega
 have fbs:∀ k,Ñ H (xs.take i ++ [v]++xs.drop k) ((os.map iZ).take i ++ [d]++(os.map iZ).drop k):=λ k=>by
  have r0:=h.rs.mono (ak _ _);exact((r0.take i).append (.cons (rv.mono (ak _ _)) .nil)).append (r0.drop k)
 have fb:∀ k,eH (((os.map iZ).take i ++ [d]++(os.map iZ).drop k).map fH) i:=λ k=>by
  have e:((os.map iZ).take i).length=i:=by rw [Đ,Ä];omega
  have z:=tz (R:=(os.map iZ).drop k) (A:=(os.map iZ).take i) (λ x hx=>h.ok.out x (Ź hx)) bd;rw [e] at z;exact z
 refine qw (k:=i) rfl rfl Xn Rp lz am (λ R k=>⟨_,rfl,k⟩) (λ H' R _ k=>⟨_,rfl,k⟩) λ b1 H1 x1 g1=>?_;refine qw (k:=i+1) rfl rfl (x1 _ _ Xn) (x1 _ _ Rp) lz am (λ R k=>⟨_,rfl,_,_,rfl,rfl,by exact k⟩) (λ H' R _ k=>⟨_,rfl,_,_,rfl,rfl,by exact k⟩) λ b2 H2 x2 g2=>?_
 refine⟨dA,λ c hc=>?_⟩;have x3:=Ext.new (o:=.lst [.ref b1,.ref b2]) hc;have g3:af H2 c (.lst [.ref b1,.ref b2]) c=some (.lst [.ref b1,.ref b2]):=aR;generalize af H2 c (.lst [.ref b1,.ref b2])=H3 at x3 g3 ⊢;have Ph:=(x1.trans x2).trans x3;refine⟨c,rfl,⟨_,ó.of g3⟩,ig (λ _ σ H'=>∃ ŭ,σ=[o0,o1,some m,some r,some (.ref l),o5,o6,o7,some (.int (i:Nat)),some (.ref a),ŭ,Ζ]/\Ext H3 H') ⟨_,rfl,Ext.refl _⟩ (λ _ _ H' _ pv=>ó.of (by obtain⟨_,_,x'⟩:=pv;exact x' _ _ g3)) ?_ ?_⟩
 ·rintro n x σ H' hx ⟨ŭ,rfl,x'⟩;have h':=h.ext (Ph.trans x');obtain⟨b,k,rfl,hb⟩:∃ b k,x=.ref b/\H' b=some (.lst (xs.take i ++ [v]++xs.drop k)):=by
   match n,hx with
   | 0,hx=>cases hx;exact⟨b1,i,rfl,x' _ _ (x3 _ _ (x2 _ _ g1))⟩
   | 1,hx=>cases hx;exact⟨b2,i+1,rfl,x' _ _ (x3 _ _ g2)⟩
  refine v0 (te:=yR Cs (rN K Cs C MC CT CW c_) (ar 10) "outcome" (ar 8)) (λ R kR=>?_) (q:=λ H2 x2=>⟨_,rfl,x'.trans x2⟩);refine pM (v:=.ref b) (y:=.int (i:Nat)) (y':=.int (i:Nat)) rfl rfl 1 ad ao (λ R k=>⟨_,rfl,k⟩) (λ Qn E q'=>?_) (λ H2 R _ k=>⟨_,rfl,k⟩) (.int _) (.int _) (ng am) kR;exact Ao h' hb ((fbs k).mono (Ph.trans x')) (fb k) Qn E q'
 ·rintro σ H' ⟨ŭ,rfl,x'⟩;exact q ŭ H' (Ph.trans x')
theorem BO (h:NG K C MC sA p ns m r l xs os t H)
  (q:∀(a:Addr)(k:Nat)(ys:List V) H',Sc K H' sA p ns->Ext (wo H p) (wo H' p)->wo H' p a=some (.lst ys)->Ñ (wo H' p) ys (os.map iZ++List.replicate (k+1) (iZ (1,false)))->k<=2->u De [some (.ref sA),some (.ref p),o2,o3,some (.ref l),o5,o6,o7,o8,o9,ŭ,some (.ref a)] H'):aZ (He K) u De [some (.ref sA),some (.ref p),o2,o3,some (.ref l),o5,o6,o7,o8,o9,ŭ,Ζ] H:=by
 have lx:=h.rs.length;rw [Ä] at lx;have le:=h.le;refine aN (te:=aS i5 (ar 4) (aS qY (aT (ag (eF (ag (tC (.int 1)) (ag (tC (.bl false)) aG))) aG)) (GF (tC (.int 1)) (dI K (tC (.int 3)))))) (i:=11) ⟨_,rfl,dA,λ b hb=>?_⟩;have x1:=Ext.new (o:=.tup [.int 1,.bl false]) hb;have g1:af H b (.tup [.int 1,.bl false]) b=some (.tup [.int 1,.bl false]):=aR;have n1:=h.sc.bx.ne hb;generalize af H b (.tup [.int 1,.bl false])=H1 at x1 g1 ⊢;refine⟨dA,λ c hc=>?_⟩;have x2:=Ext.new (o:=.lst [.ref b]) hc;have g2:af H1 c (.lst [.ref b]) c=some (.lst [.ref b]):=aR;have n2:=(h.sc.bx.ext x1).ne hc;generalize af H1 c (.lst [.ref b])=H2 at x2 g2 ⊢;refine bH (h.sc.ext (x1.trans x2)) rfl rfl (λ R r=>r) ad ad λ y H3 y0 y1 Δ k3=>?_;obtain⟨k,rfl⟩:∃ k:Nat,y=k:=⟨y.toNat,am⟩;refine⟨_,_,rfl,rfl,?_⟩;have e1:(1+(k:Int))=((k+1:Nat):Int):=am;show qY (.ref c) (.int (1+(k:Int))) H3 _;rw [e1];have w3:Ext (wo H p) (wo H3 p):=(aL (x1.trans x2) p).trans (aM k3);have gb3:wo H3 p b=some (.tup [.int 1,.bl false]):=bc n1 (k3 _ _ (x2 _ _ g1) n1);refine⟨c,_,_,rfl,rfl,k3 _ _ g2 n2,am,am,by rw [Ö];show 1*_<=_;omega,λ e he=>?_⟩
 rw [õ];have x4:=Ext.new (o:=.lst (List.replicate (k+1) [V.ref b]).flatten) he;have g4:af H3 e (.lst (List.replicate (k+1) [V.ref b]).flatten) e=some (.lst (List.replicate (k+1) [V.ref b]).flatten):=aR;have Lu:=Δ.ext x4;generalize af H3 e (.lst (List.replicate (k+1) [V.ref b]).flatten)=H4 at x4 g4 Lu ⊢;have w4:=w3.trans (aL x4 p);have fr:(List.replicate (k+1) [V.ref b]).flatten=List.replicate (k+1) (V.ref b):=by
  generalize k+1=j
  induction j with
  | zero=>rfl
  | succ j ih=>rw [ÿ,Ĕ,ih,ÿ];rfl
 rw [fr] at g4;have rr:∀ j,Ñ (wo H4 p) (List.replicate j (V.ref b)) (List.replicate j (iZ (1,false))):=λ j=>by
  induction j with
  | zero=>exact .nil
  | succ j ih=>rw [ÿ,ÿ];exact .cons (.tup (aL x4 p _ _ gb3) (.cons (.int _) (.cons (.bl _) .nil))) ih
 have O0:=ak _ _ _ _ (w4 _ _ h.hl);refine⟨l,e,_,_,rfl,rfl,O0,g4,by rw [Ý,Ö];omega,λ z hz=>?_⟩
 have x5:=Ext.new (o:=.lst (xs++List.replicate (k+1) (V.ref b))) hz;exact q z k _ _ (Lu.ext x5) (w4.trans (aL x5 p)) (bc (Lu.bx.ne hz) aR) (((h.rs.mono w4).append (rr _)).mono (aL x5 p)) am
def Ah (K:Frag)(C MC:Nat->Addr):Sp:=λ vs H Q _=>∃ sA p ns m r l xs os t,vs=[.ref sA,.ref p,m,r,.ref l]/\H sysModules=none/\NG K C MC sA p ns m r l xs os t H/\∀ H',Sc K H' sA p ns->Ext (wo H p) (wo H' p)->Q (.bl true) H'
theorem Fj (F:ğ K "_law_scores_refused" "_law_scores_refused" DK f fd)(A1:Df P w K mg base ay 1 "_law_take" ["_law_script","_law_pen","_law_many"] (cS K) a1 d1)(A2:Df P w K mg base ay 11 "_law_refused" r6 (lu Cs (rN K Cs C MC CT CW c_)) a2 d2)(A3:Df P w K mg base ay 1 "_law_same" yy nA a3 d3)(mn:mg "len" = none)(mt:mg "tuple" = none):ß P w K mg base ay 12 f fd JO (Ah K C MC):=by
 refine cw F RI λ cdv A outer s H vs Q E hr h=>?_;obtain⟨sA,p,ns,m,r,l,xs,os,t,rfl,hz,h,q⟩:=h;refine iU (Di hz A1 A2 A3 mn mt hr) ⟨?_⟩;have lx:=h.rs.length;rw [Ä] at lx;have le:=h.le;refine aN (te:=iN K 4) (i:=5) ⟨_,rfl,l,xs,rfl,.inl (ó.of (ak _ _ _ _ h.hl)),?_⟩;rw [lx];refine aN (te:=aS (cX K) (aT (uM K)) (dI K (tC (.int 6)))) (i:=6) (lV (Bi h rfl) (by show 6<=100;decide) h.sc rfl rfl rfl (by show 0<6;decide) λ v d H1 hd rd ž x1=>?_)
 have h1:=h.go ž x1;obtain⟨nl,sh⟩:=wc h.ok h.le d hd;have Ux:=rd.mono (ak H1 p);refine uw (te:=yR Cs (rN K Cs C MC CT CW c_) (ar 6) "folk" (ar 6)) (λ R kR=>pM (v:=v) (y:=v) (y':=v) rfl rfl 0 ad ao (λ R k=>⟨_,rfl,k⟩) (zQ h1 Ux nl) (λ H2 R _ k=>⟨_,rfl,k⟩) Ux Ux sh kR) λ H2 x2=>?_;have h2:=h1.ext x2;have y2:=x1.trans (aL x2 p);refine aN (te:=aS (cX K) (aT tT) (dI K (tC (.int 7)))) (i:=7) (lV zF (by show 7<=100;decide) h2.sc rfl rfl rfl (by show 0<7;decide) λ b db H3 hb rb Δ x3=>?_)
 have h3:=h2.go Δ x3;have y3:=y2.trans x3;have bd:=ux db hb;refine aN (te:=dI K (GF (ar 5) (tC (.int 1)))) (i:=8) (bH (m:=(os.length:Int)+1) Δ rfl rfl (λ R k=>⟨_,rfl,_,_,rfl,rfl,k⟩) am am λ y H4 y0 y1 Lu k4=>?_);obtain⟨i,rfl⟩:∃ i:Nat,y=i:=⟨y.toNat,am⟩;have hi:i<=os.length:=am;have h4:=h3.go Lu (aM k4);have y4:=y3.trans (aM k4);have WQ:=rb.mono (aM k4);refine BF (v:=b) h4 hi WQ λ a H5 x5 ga=>?_;have h5:=h4.ext x5;refine AV (v:=b) h5 hi (WQ.mono (aL x5 p)) bd ga λ ŭ H6 x6=>?_;have h6:=h5.ext x6;have y6:=y4.trans (aL (x5.trans x6) p);refine BO h6 λ z k ys H7 Um x7 gz rz k2=>?_;have h7:=h6.go Um x7;have y7:=y6.trans x7;have lz:=rz.length;have ld:(os.map iZ++List.replicate (k+1) (iZ (1,false))).length=os.length+(k+1):=by rw [Ð,Ä,Ý]
 refine uw (te:=yR Cs (rN K Cs C MC CT CW c_) (ar 11) "folk" (iN K 11)) (λ R kR=>pM (v:=.ref z) (y:=.int ((os.map iZ++List.replicate (k+1) (iZ (1,false))).length:Nat)) (y':=.int (ys.length:Nat)) rfl rfl 0 ad ao (λ R k=>⟨_,rfl,k⟩) (tK h7 (ak _ _ _ _ gz) (rz.mono (ak _ _)) ?_ am) (λ H2 R x2 k=>⟨_,rfl,z,ys,rfl,.inl (ó.of (x2 _ _ (ak _ _ _ _ gz))),k⟩) (by rw [lz];exact .int _) (.int _) (ng am) kR) λ H8 x8=>?_
 ·intro d hd;rcases Ġ.mp hd with hd | hd
  ·exact h.ok.out d hd
  ·rw [(List.mem_replicate.mp hd).2];rfl
 have h8:=h7.ext x8;have y8:=y7.trans (aL x8 p);refine⟨_,rfl,rfl,_,rfl,?_⟩;by_cases e0:os.length=0
 ·rw [Å (by rw [e0];rfl)]
  exact cQ (q H8 h8.sc y8)
 rw [É (λ e=>e0 (by have:=V.int.inj e;omega))]
 refine cE ⟨_,rfl,_,rfl,_,rfl,_,rfl,l,xs,rfl,ó.of (ak _ _ _ _ h8.hl),λ e he=>?_⟩;have ec:mf xs (some 1) none=xs.drop 1:=kP xs 1;rw [ec];have x9:=Ext.new (o:=.lst (xs.drop 1)) he;have g9:af H8 e (.lst (xs.drop 1)) e=some (.lst (xs.drop 1)):=aR;generalize af H8 e (.lst (xs.drop 1))=H9 at x9 g9 ⊢;have h9:=h8.ext x9;have r9:=(h9.rs.mono (ak _ _)).drop 1;have l9:((os.map iZ).drop 1).length=os.length-1:=by rw [ω,Ä]
 refine ls (Cs:=Cs) (spC:=rN K Cs C MC CT CW c_) (ta:=λ σ H R=>R [.str "scores",m,r,.ref e] H) (a:=.str "scores") (b:=m) (c:=r) (e:=.ref e) (y:=.int (((os.map iZ).drop 1).length:Nat)) (y':=.int ((os.length:Int)-1)) (d:=.int ((os.length:Int)-1)) 0 ad ao (λ R k=>k) (tK h9 g9 r9 (λ d hd=>h.ok.out d (List.mem_of_mem_drop hd)) am) (λ H2 R _ k=>⟨_,rfl,_,_,rfl,rfl,k⟩) ?_ (.int _) ?_ λ X7 QD=>?_
 ·rw [l9,show((os.length-1:Nat):Int)=(os.length:Int)-1 by omega]
  exact .int _
 ·exact(bV am am).show ad ad
 ·exact q X7 (h9.sc.ext QD) (y8.trans (aL (x9.trans QD) p))
end
def z8:Addr ⊕ String->V
 | .inl a=>.ref a
 | .inr n=>.ty n
def DE:Addr ⊕ String->Value
 | .inl a=>.ref a
 | .inr n=>.type n
theorem jn:∀{cs:List (Addr ⊕ String)}{us:List Value},Vals (cs.map z8) us->us=cs.map DE
 | [],_,.nil=>rfl
 | .inl c::cs,_,.cons r t=>by
  rw [jn t];cases (show _=Value.ref c from r);rfl
 | .inr c::cs,_,.cons r t=>by
  rw [jn t];cases (show _=Value.type c from r);rfl
section
variable {X:Cx}
def sI (K:Frag):List V->Hp->VK->Prop:=λ vs H Q=>∃(x:V)(p:Addr)(cs:List (Addr ⊕ String))(t:Value)(b:Bool),vs=[x,.ref p]/\ņ K H x t/\H p=some (.tup (cs.map z8))/\kitAny K t (cs.map DE)=some b/\Q (.bl b) H
theorem oO:cP X (.builtin "isinstance") (sI X.K):=by
 intro Ã s σ H xs us Q I r h;obtain⟨x,p,cs,t,b,rfl,ty,hp,e,q⟩:=h;obtain⟨u,u',rfl,ru,NP⟩:=hZ r;cases (show u'=Value.ref p from NP);obtain⟨_,its,rv,⟨o,h1,h2,n,h3⟩⟩:=(show Ā X.prog X.w H s.heap p (.tup (cs.map z8)) from I.Ć p _ hp);have ei:=jn rv;subst ei;obtain⟨c0,d0,V_,sl0⟩:=o;have V0:c0=.type "tuple" := h2;have VX:V_=.seq (cs.map DE).toArray n:=h3;subst V0;subst VX;exact jy I ru ty h1 e λ tk=>⟨.bl b,H,I.tok _,rfl,q⟩
end
structure Jp (P:Program)(w:World)(K:Frag)(mg:bv)(base:Heap)(C MC Cs:Nat->Addr)(CN CS CM g r0 r1 r2 r3 r4 f0 f1 f2 f3 a1 a2 a3:Addr)(gd h0 h1 h2 h3 h4 e0 e1 e2 e3 d1 d2 d3:FuncData)(spC:Sp):Prop where
 tk:Df P w K mg base ay 1 "_law_take" ["_law_script","_law_pen","_law_many"] (cS K) a1 d1
 rf:Df P w K mg base ay 11 "_law_refused" r6 (lu Cs spC) a2 d2
 sm:Df P w K mg base ay 1 "_law_same" yy nA a3 d3
 R:DI P w K mg base C CN CS (Cs 5) CM r0 r1 r2 r3 r4 h0 h1 h2 h3 h4
 L:JZ P w K mg base MC f0 f1 f2 f3 e0 e1 e2 e3
 kW:Mk K (MC 4) g
 gW:ß P w K mg base (cp P w) 4 g gd vk (nI K MC (Cs 5) (Cs 4))
 bW:Binds K gd vk []
 mW:mg "Weighted" = some (.ref (MC 4))
 mi:mg "isinstance" = none
 ml:mg "list" = none
 mp:mg "repr" = none
section
variable {P:Program}{w:World}{K:Frag}{mg:bv}{base:Heap}{C MC Cs:Nat->Addr}{CN CS CM f g r0 r1 r2 r3 r4 f0 f1 f2 f3 a1 a2 a3:Addr}{fd gd h0 h1 h2 h3 h4 e0 e1 e2 e3 d1 d2 d3:FuncData}{spC:Sp}
abbrev DU:Stmt:=cr 83
abbrev Km:List Str:=["_law_script","_law_pen","_law_inners","_law_inner","_law_some","_law_wrong","_law_good","_law_told"]
theorem RH:ae Km ["_law_script","_law_pen"] (aa DU):=aO
def oX (MC:Nat->Addr)(k:Nat):TE:=c6 (MC k) (gF MC k) [] E0 aG
def Ew (K:Frag)(MC Cs:Nat->Addr)(k:Nat)(n:Int):TE:=c6 (MC 4) (nI K MC (Cs 5) (Cs 4)) [] E0 (ag (oX MC k) (ag (aT (ag (tC (.int n)) aG)) aG))
def CZ (K:Frag)(C MC Cs:Nat->Addr)(CN:Addr):TA:=ag (tC .ù) (ag (tC (.str "sum")) (ag (tC (.int 7)) (ag (Ew K MC Cs 0 1) (ag (aT (ag (oX MC 0) aG)) (ag (c6 (C 0) (kS C CN) [] E0 (ag (tC (.int 2)) (ag (tC (.int 1)) aG))) aG)))))
def As:TA:=ag (tC .ù) (ag (aT aG) (ag (eF (ag (tC (.int 1)) (ag (tC (.int 2)) aG))) (ag (aS qY (aT (ag (tC (.int 1)) aG)) (tC (.int 7))) (ag (aT (ag (tC (.int 21)) aG)) (ag (aT (ag (Hz (λ x H Q=>∃ i,x=.int i/\Q (.int (-i)) H) (tC (.int 1))) aG)) (ag (aT (ag (tC (.int 1)) (ag (tC (.bl true)) aG))) (ag (aT (ag (tC (.int 1)) (ag (tC .ù) aG))) (ag (tC (.str "11")) (ag mh (ag (tC (.int 3)) (ag (aT (ag (aT (ag (tC (.int 1)) aG)) aG)) aG)))))))))))
def BS (MC:Nat->Addr):TA:=ag (oX MC 0) (ag (oX MC 1) (ag (oX MC 2) (ag (oX MC 3) aG)))
def uU (Cs:Nat->Addr)(spC:Sp)(ta tb:TE):TE:=gE (lu Cs spC) [] E0 (ag (tC (.str "weighted")) (ag ta (ag tb (ag (tC .ù) aG))))
def Bh:R2:=λ x y H Q=>y=.ù/\Q (.bl (decide (x=.ù))) H
def xZ:R2:=λ x y H Q=>y=.ù/\Q (.bl (!decide (x=.ù))) H
def HH (K:Frag)(i:Int):TE:=aS (EX K) (ar 7) (tC (.int i))
def lX:TS:=cW (tC (.bl false))
def HZ (K:Frag)(C MC Cs:Nat->Addr)(CN:Addr):TS:=cV (aT (CZ K C MC Cs CN)) (bF 2)
def Im (K:Frag):TS:=cV (aS (cX K) (ar 2) (dI K (tC (.int 6)))) (bF 3)
def Ie:TS:=cV (aT As) (bF 4)
def Ip (K:Frag):TS:=cV (aS (cX K) (ar 4) (dI K (tC (.int 12)))) (bF 5)
def Js (K:Frag)(MC:Nat->Addr):TS:=cV (aS (cX K) (aT (BS MC)) (dI K (tC (.int 4)))) (bF 6)
def JM (Cs:Nat->Addr)(spC:Sp):TS:=cV (uU Cs spC (ar 3) (ar 5)) (bF 7)
def FK (K:Frag):TS:=dQ (yY (tB (aS Bh (ar 7) (tC .ù))) (tB (aS Dc (HH K 0) (tC (.str "trials"))))) lX bZ
def ET (K:Frag):TS:=dQ (tO (tB (aS Bh (HH K 1) (tC .ù))) (tB (aS xZ (ar 3) (tC .ù)))) lX bZ
def Ha (K:Frag)(C MC:Nat->Addr):TS:=dQ (tO (mj (tB (iQ (sI K) (ag (ar 3) (ag (eF (ag (tC (.ref (MC 4))) (ag (tC (.ref (C 0))) (ag (tC (.ty "list")) aG)))) aG))))) (tB (aS Dc (iQ sM (ag (HH K 1) aG)) (iQ sM (ag (ar 3) aG))))) lX bZ
def Eb (Cs:Nat->Addr)(spC:Sp):TS:=dQ (tB (aS Bh (uU Cs spC (ar 3) (aT (ag (tC (.int 1)) aG))) (tC .ù))) lX bZ
def Hn (Cs:Nat->Addr)(spC:Sp):TS:=dQ (tB (aS xZ (uU Cs spC (ar 6) (aT (ag (tC (.int 20)) (ag (tC (.int 0)) aG)))) (tC .ù))) lX bZ
def Iz (Cs:Nat->Addr)(spC:Sp):TS:=cW (zf Cs spC (ag (tC (.str "weighted")) (ag (ar 6) (ag (ar 5) (ag (tC .ù) aG)))) "weights" (ar 5))
section
variable {cdv:Value}{A:Around}{outer:List Env}{s:Shared}{H:Hp}{E:XK}
theorem Cb (hz:H sysModules=none)(Z:Jp P w K mg base C MC Cs CN CS CM g r0 r1 r2 r3 r4 f0 f1 f2 f3 a1 a2 a3 gd h0 h1 h2 h3 h4 e0 e1 e2 e3 d1 d2 d3 spC)(hr:qX 11 "_law_weighted_refused" DU A s f cdv) :
  Bx (Ų (br ay P w K mg base Km "_law_weighted_refused" (aa DU) f cdv A outer s H E).Ŝ (aH DU) (aZ (HZ K C MC Cs CN) (aZ (Im K) (aZ Ie (aZ (Ip K) (aZ (Js K MC) (aZ (JM Cs spC) (aZ (FK K) (aZ (ET K) (aZ (Ha K C MC) (aZ (Eb Cs spC) (aZ (Hn Cs spC) (Iz Cs spC))))))))))))):=by
 have nd:=RH.nd;have Ħ:ö 1 _:=hr.mono ad;have Mz:ö 3 _:=hr.mono ad;have M4:ö 5 _:=hr.mono ad;exact cA (aP (i:=2) nd rfl (Or.inl rfl) (dw (bX ⟨bQ⟩ (bX ⟨av⟩ (bX ⟨aB⟩ (bX ⟨dC Z.kW Z.gW M4 rfl Z.mW Z.bW .nil fQ (ac (bU Z.L.k0 Z.L.g0 Mz rfl Z.L.m0 Z.L.b0 .nil ai) (ac (aY (ac aB aq)) aq))⟩ (bX ⟨aY (ac (bU Z.L.k0 Z.L.g0 Mz rfl Z.L.m0 Z.L.b0 .nil ai) aq)⟩ (bX ⟨dC Z.R.k0 Z.R.g0 M4 rfl Z.R.m0 Z.R.b0 .nil fQ (ac aB (ac aB aq))⟩ bp))))))))
  (cA (aP (i:=3) nd rfl (Or.inl rfl) ⟨ft iB (pv 2) (p9 Z.tk.G Ħ rfl Z.tk.m Z.tk.kp Z.tk.b .nil ai (ac (pv 0) (ac (pv 1) (ac aB aq))))⟩)
  (cA (aP (i:=4) nd rfl (Or.inl rfl) (dw (bX ⟨bQ⟩ (bX ⟨aY aq⟩ (bX ⟨aU (ac aB (ac aB aq))⟩ (bX ⟨aC uD (aY (ac aB aq)) aB⟩ (bX ⟨aY (ac aB aq)⟩ (bX ⟨aY (ac (sK pG aB) aq)⟩ (bX ⟨aY (ac aB (ac gR aq))⟩ (bX ⟨aY (ac aB (ac bQ aq))⟩ (bX ⟨av⟩ (bX ⟨mI⟩ (bX ⟨aB⟩ (bX ⟨aY (ac (aY (ac aB aq)) aq)⟩ bp))))))))))))))
  (cA (aP (i:=5) nd rfl (Or.inl rfl) ⟨ft iB (pv 4) (p9 Z.tk.G Ħ rfl Z.tk.m Z.tk.kp Z.tk.b .nil ai (ac (pv 0) (ac (pv 1) (ac aB aq))))⟩)
  (cA (aP (i:=6) nd rfl (Or.inl rfl) (pU iB (dw (bX ⟨bU Z.L.k0 Z.L.g0 Mz rfl Z.L.m0 Z.L.b0 .nil ai⟩ (bX ⟨bU Z.L.k1 Z.L.g1 Mz rfl Z.L.m1 Z.L.b1 .nil ai⟩ (bX ⟨bU Z.L.k2 Z.L.g2 Mz rfl Z.L.m2 Z.L.b2 .nil ai⟩ (bX ⟨bU Z.L.k3 Z.L.g3 Mz rfl Z.L.m3 Z.L.b3 .nil ai⟩ bp))))) ⟨p9 Z.tk.G Ħ rfl Z.tk.m Z.tk.kp Z.tk.b .nil ai (ac (pv 0) (ac (pv 1) (ac aB aq)))⟩))
  (cA (aP (i:=7) nd rfl (Or.inl rfl) ⟨p9 Z.rf.G hr rfl Z.rf.m Z.rf.kp Z.rf.b .nil ai (ac av (ac (pv 3) (ac (pv 5) (ac bQ aq))))⟩)
  (cA ⟨bf (PW.pt (fV (aA pO (pv 7) bQ (az _)) (dH (aA gC (ft oA (pv 7) aB) av (az _))))) (bj (cM gR)) fF⟩
  (cA ⟨bf (PW.pt (kZ (aA pO (ft oA (pv 7) aB) bQ (az _)) (i7 (aA lp (pv 3) bQ (az _))))) (bj (cM gR)) fF⟩
  (cA ⟨bf (PW.pt (kZ (bu (aX (ah oO rfl Z.mi Ê (ac (pv 3) (ac (aU (ac (aI (v:=.ref (MC 4)) rfl Z.mW rfl) (ac (aI (v:=.ref (C 0)) rfl Z.R.m0 rfl) (ac (gG rfl Z.ml Ĥ) aq)))) aq))))) (i7 (aA gC (ah (gw hz hr.gd hr.units) rfl Z.mp Ť (ac (ft oA (pv 7) aB) aq)) (ah (gw hz hr.gd hr.units) rfl Z.mp Ť (ac (pv 3) aq)) (az _))))) (bj (cM gR)) fF⟩
  (cA ⟨bf (aA pO (p9 Z.rf.G hr rfl Z.rf.m Z.rf.kp Z.rf.b .nil ai (ac av (ac (pv 3) (ac (aY (ac aB aq)) (ac bQ aq))))) bQ (az _)) (bj (cM gR)) fF⟩
  (cA ⟨bf (aA lp (p9 Z.rf.G hr rfl Z.rf.m Z.rf.kp Z.rf.b .nil ai (ac av (ac (pv 6) (ac (aY (ac aB (ac aB aq))) (ac bQ aq))))) bQ (az _)) (bj (cM gR)) fF⟩
  (be ⟨cM (cY hz Z.sm.G Ħ rfl Z.sm.m Z.sm.kp Z.sm.b ai (ac (p9 Z.rf.G hr rfl Z.rf.m Z.rf.kp Z.rf.b .nil ai (ac av (ac (pv 6) (ac (pv 5) (ac bQ aq))))) (ac av (ac (pv 5) aq))))⟩)))))))))))
end
end
structure jT (I:Hp->V->Prop):Prop where
 ext:∀{H H':Hp}{v:V},Ext H H'->I H v->I H' v
def GP (I:Hp->V->Prop)(H0:Hp)(σ:St)(te:TE):Prop:=∀(H:Hp)(Q:VK),Ext H0 H->(∀ v H',Ext H H'->I H' v->Q v H')->te σ H Q
def N0 (I:Hp->V->Prop)(H0:Hp)(σ:St)(ta:TA)(n:Nat):Prop:=∀(H:Hp)(Q:List V->Hp->Prop),Ext H0 H->(∀ vs H',Ext H H'->vs.length=n->(∀ v∈vs,I H' v)->Q vs H')->ta σ H Q
section
variable {I J:Hp->V->Prop}{H0:Hp}{σ:St}{te:TE}{ta:TA}{n:Nat}{d:PyData}
theorem N0.nil:N0 I H0 σ aG 0:=λ H Q _ q=>q [] H (Ext.refl _) rfl λ _ h=>nomatch h
theorem N0.cons (g:jT I)(h:GP I H0 σ te)(k:N0 I H0 σ ta n):N0 I H0 σ (ag te ta) (n+1):=λ H Q x q =>
 h H _ x λ v H1 x1 i=>k H1 _ (x.trans x1) λ vs H2 x2 l is=>q (v::vs) H2 (x1.trans x2) (by rw [ú,l]) λ u hu=>by
  rcases ç.mp hu with rfl | hu
  ·exact g.ext x2 i
  ·exact is u hu
theorem N0.use {Q:VK}(g:jT I)(k:N0 I H0 σ ta n)(hz:n<=sizeLine)(q:∀ l vs H',Ext H0 H'->H0 l=none->H' l=some (.lst vs)->vs.length=n->(∀ v∈vs,I H' v)->Q (.ref l) H'):aT ta σ H0 Q :=
 k H0 _ (Ext.refl _) λ vs H1 x1 l is=>⟨by rw [l];exact hz,λ p hp=>q p vs _ (x1.trans (Ext.new hp)) (by
  cases e:H0 p with
  | none=>rfl
  | some o=>rw [x1 _ _ e] at hp;cases hp) aR l λ v hv=>g.ext (Ext.new hp) (is v hv)⟩
end
structure KQ (K:Frag)(C MC:Nat->Addr):Prop where
 nb:∀ i,i<5->∀ d:PyData,kitOne K (.type (fS d)) (.ref (MC i))=some false
 nc:∀ d:PyData,kitOne K (.type (fS d)) (.ref (C 0))=some false
 cm:∀ i,i<5->kitOne K (.ref (C 0)) (.ref (MC i))=some false
 cc:kitOne K (.ref (C 0)) (.ref (C 0))=some true
 w5:∀ i,i<5->kitOne K (.ref (MC i)) (.ref (MC 4))=some (i==4)
theorem ja {K:Frag}{t a:Value}{l:List Value}(h:kitOne K t a=some true):kitAny K t (a::l)=some true:=by simp [kitAny,h]
theorem bq {K:Frag}{t a:Value}{l:List Value}(h:kitOne K t a=some false):kitAny K t (a::l)=kitAny K t l:=by simp [kitAny,h]
theorem Ñ.Qv {H:Hp}{xs:List V}{ds:List PyData}(r:Ñ H xs ds):xs.map (My.LJ 0 20)=ds.map (jf 0 20):=by
 induction xs generalizing ds with
 | nil=>cases r;rfl
 | cons x xs ih =>
  cases r with
  | cons q t=>rw [ô,ô,ih t,q.LJ]
theorem Ñ.th {K:Frag}{H:Hp}{xs:List V}{ds:List PyData}(r:Ñ H xs ds):∀ x∈xs,Th K H x:=λ x hx=>by
 obtain⟨i,hi⟩:=List.getElem?_of_mem hx;obtain⟨d,_,rd⟩:=r.get hi;exact rd.th
def KI (ds:List PyData):Bool:=(decide (1<=ds.length)&&decide (ds.length<=6))&&(ds.map (jf 0 20)).all id
def E2 (d:PyData):Prop:=rV d=false\/∃ ds,d=.list ds/\KI ds=false/\ds.length<1000
def HC:List PyData:=[.none,.list [],.tuple [.int 1,.int 2],.list (List.replicate 7 [PyData.int 1]).flatten,.list [.int 21],.list [.int (-1)],.list [.int 1,.bool true],.list [.int 1,.none],.str "11",.dict [],.int 3,.list [.list [.int 1]]]
theorem fw {ds:List PyData}{k n:Nat}(h:∀ d∈ds,Fi k n d)(l:ds.length<=7)(hk:k<=3)(hn:n<=100):gJ (.list ds):=(l8 (m:=7) (λ d hd=>(h d hd).mono hk hn) l).show ad ad
theorem rE {i:Int}(h1:-1000<=i)(h2:i<=1000):Fi 3 100 (.int i):=(bV am am).mono ad ad
theorem Ag:∀ d∈HC,E2 d/\gJ d:=by
 intro d hd;unfold HC at hd;simp only [List.mem_cons,List.not_mem_nil,or_false] at hd;rcases hd with rfl | rfl | rfl | rfl | rfl | rfl | rfl | rfl | rfl | rfl | rfl | rfl
 ·exact⟨.inl rfl,d_.show ad ad⟩
 ·exact⟨.inr ⟨_,rfl,rfl,ad⟩,fw (k:=0) (n:=0) (λ d hd=>nomatch hd) ad ad ad⟩
 ·exact⟨.inl rfl,(gT (k:=3) (n:=100) (m:=2) (λ d hd=>by
   simp only [List.mem_cons,List.not_mem_nil,or_false] at hd;rcases hd with rfl | rfl <;> exact rE ad ad) ad).show ad ad⟩
 ·refine⟨.inr ⟨_,rfl,rfl,ad⟩,fw (k:=3) (n:=100) (λ d hd=>?_) ad ad ad⟩;have:d=.int 1:=by
   obtain⟨l,hl,hd⟩:=List.mem_flatten.mp hd;rw [(List.mem_replicate.mp hl).2] at hd;exact Ô.mp hd
  subst this;exact rE ad ad
 ·exact⟨.inr ⟨_,rfl,rfl,ad⟩,fw (k:=3) (n:=100) (λ d hd=>by cases Ô.mp hd;exact rE ad ad) ad ad ad⟩
 ·exact⟨.inr ⟨_,rfl,rfl,ad⟩,fw (k:=3) (n:=100) (λ d hd=>by cases Ô.mp hd;exact rE ad ad) ad ad ad⟩
 ·refine⟨.inr ⟨_,rfl,rfl,ad⟩,fw (k:=3) (n:=100) (λ d hd=>?_) ad ad ad⟩;simp only [List.mem_cons,List.not_mem_nil,or_false] at hd;rcases hd with rfl | rfl
  ·exact rE ad ad
  ·exact MD.mono ad ad
 ·refine⟨.inr ⟨_,rfl,rfl,ad⟩,fw (k:=3) (n:=100) (λ d hd=>?_) ad ad ad⟩;simp only [List.mem_cons,List.not_mem_nil,or_false] at hd;rcases hd with rfl | rfl
  ·exact rE ad ad
  ·exact d_.mono ad ad
 ·exact⟨.inl rfl,⟨rfl,ad,ao⟩⟩
 ·exact⟨.inl rfl,ND.show ad ad⟩
 ·exact⟨.inl rfl,(bV ad ad).show ad ad⟩
 ·refine⟨.inr ⟨_,rfl,rfl,ad⟩,fw (k:=3) (n:=100) (λ d hd=>?_) ad ad ad⟩;cases Ô.mp hd;exact(l8 (k:=0) (n:=2) (m:=1) (λ d hd=>by cases Ô.mp hd;exact bV ad ad) ad).mono ad ad
theorem Es {G:Hp->Hp}{H:Hp}{σ:St}:M_ G H σ As HC :=
 .cons .ù (.cons (.lst .nil ad) (.cons (.tup (.cons (.int _) (.cons (.int _) .nil)) ad) (.cons (.rep (k:=7) (.cons (.int _) .nil) ad ad ad) (.cons (.lst (.cons (.int _) .nil) ad) (.cons (.lst (.cons (.neg 1) .nil) ad) (.cons (.lst (.cons (.int _) (.cons (.bl _) .nil)) ad) (.cons (.lst (.cons (.int _) (.cons .ù .nil)) ad) (.cons (.str _) (.cons .F_ (.cons (.int _) (.cons (.lst (.cons (.lst (.cons (.int _) .nil) ad) .nil) ad) .nil)))))))))))
section
variable {P:Program}{w:World}{K:Frag}{mg:bv}{base:Heap}{C MC Cs:Nat->Addr}{CF CO CN MS CR p sA:Addr}{c_:Sp}{H:Hp}{v u y:V}{d:PyData}{k:Nat}{ns:List Int}
theorem Me.wo {k:Nat}{v:V}(h:Me MC H k v)(b:ħ H p):Me MC (wo H p) k v:=by
 obtain⟨_,_,_,hp,_⟩:=b.ex;obtain⟨a,dx,m,e,ha,hm⟩:=h;exact⟨a,dx,m,e,bc (λ z=>by rw [z,hp] at ha;cases ha) ha,bc (λ z=>by rw [z,hp] at hm;cases hm) hm⟩
theorem nj (ik:InK K MC H v false)(Qn:VK)(E:XK)(q:∀ H',Ext H H'->bM (Cs 5) (ie 5) v H' E):hI K C MC CF CO (Cs 5) (Cs 4) c_ [.str "weighted",v,u,.ù] H Qn E :=
 ⟨_,_,_,_,rfl,.inr (.inl ⟨rfl,λ x dx hx hd ne=>⟨x,v,u,dx,H,rfl,aR,bO hx hd ne,hx,.inl ⟨ik,λ H' x'=>q H' ((bO hx hd ne).trans x')⟩⟩⟩)⟩
theorem Du (hk:k<4)(me:Me MC H k v)(r:Ĉ H u d)(bw:E2 d)(Qn:VK)(E:XK)(q:∀ H',Ext H H'->bM (Cs 4) (ie 4) u H' E):hI K C MC CF CO (Cs 5) (Cs 4) c_ [.str "weighted",v,u,.ù] H Qn E:=by
 refine⟨_,_,_,_,rfl,.inr (.inl ⟨rfl,λ x dx hx hd ne=>⟨x,v,u,dx,H,rfl,aR,bO hx hd ne,hx,.inr ⟨k,hk,me,?_⟩⟩⟩)⟩;have q':∀ H',Ext (af (af H dx (.own x)) x (.ins (MC 4) dx [])) H'->bM (Cs 4) "found" u H' E:=λ H' x'=>q H' ((bO hx hd ne).trans x');rcases bw with nl | ⟨ds,rfl,aw,l⟩
 ·exact .inl ⟨⟨_,r.kd,by rw [r.Vl,nl]⟩,q'⟩
 ·obtain⟨a,xs,rfl,ha,rs⟩:=wu r;have lx:=rs.length;refine .inr (.inl ⟨a,xs,rfl,ha,am,rs.th,?_,q'⟩);unfold Qv;rw [rs.Qv,lx];exact aw
theorem wH {a:Addr}{ws:List Int}(hk:k<4)(me:Me MC H k v)(ha:H a=some (.lst (ws.map V.int)))(ok:JH ws)(Qn:VK)(E:XK)(q:∀ v H',Ext H H'->Qn v H'):hI K C MC CF CO (Cs 5) (Cs 4) c_ [.str "weighted",v,.ref a,.ù] H Qn E :=
 ⟨_,_,_,_,rfl,.inr (.inl ⟨rfl,λ x dx hx hd ne=>⟨x,v,_,dx,H,rfl,aR,bO hx hd ne,hx,.inr ⟨k,hk,me,.inr (.inr ⟨a,ws,rfl,ha,ok,λ H' kp _=>⟨rfl,q _ H' ((bO hx hd ne).kp hx kp)⟩⟩)⟩⟩⟩)⟩
def ui (K:Frag)(C MC:Nat->Addr)(H:Hp)(v:V):Prop:=InK K MC H v false/\∃ t b,ņ K H v t/\kitAny K t [.ref (MC 4),.ref (C 0),.type "list"]=some b/\(b=false->∃ d,Ĉ H v d/\gJ d)
theorem ľ:jT (ui K C MC):=⟨λ x ⟨ik,t,b,ty,e,s⟩=>⟨ik.ext x,t,b,My.ņ.ext ty x,e,λ h=>by
 obtain⟨d,r,sh⟩:=s h;exact⟨d,r.mono x,sh⟩⟩⟩
theorem uW (Q:KQ K C MC)(r:Ĉ H v d)(sh:gJ d):ui K C MC H v:=by
 refine⟨⟨_,r.ty,?_⟩,_,rV d,r.ty,?_,λ _=>⟨d,r,sh⟩⟩
 ·rw [bq (Q.nb 0 ad d),bq (Q.nb 1 ad d),bq (Q.nb 2 ad d),bq (Q.nb 3 ad d)];rfl
 ·rw [bq (Q.nb 4 ad d),bq (Q.nc d)];have e:=r.Vl (K:=K);cases b:rV d with
  | true=>rw [b] at e;exact ja e
  | false=>rw [b] at e;rw [bq e];rfl
theorem wl {a:Addr}{xs:List V}(Q:KQ K C MC)(ha:H a=some (.lst xs)):ui K C MC H (.ref a):=by
 refine⟨⟨_,.lst ha,?_⟩,_,true,.lst ha,?_,λ z=>by cases z⟩
 ·rw [show(Value.type "list")=.type (fS (.list [])) from rfl,bq (Q.nb 0 ad _),bq (Q.nb 1 ad _),bq (Q.nb 2 ad _),bq (Q.nb 3 ad _)];rfl
 ·show kitAny K (.type (fS (.list []))) _=_;rw [bq (Q.nb 4 ad (.list [])),bq (Q.nc (.list []))];exact ja rfl
theorem FY {a dx:Addr}{fs:List (Str × V)}(Q:KQ K C MC)(Y:KW K MC MS)(ha:H a=some (.ins (MC 4) dx fs)):ui K C MC H (.ref a):=by
 have ty:ņ K H (.ref a) (.ref (MC 4)):=.ins ha Y.cls (Y.ha 4 ad) Y.hn Y.MM (Y.hm 4 ad);refine⟨⟨_,ty,?_⟩,_,true,ty,ja (Q.w5 4 ad),λ z=>by cases z⟩
 rw [bq (Y.kk 4 0 ad ad),bq (Y.kk 4 1 ad ad),bq (Y.kk 4 2 ad ad),bq (Y.kk 4 3 ad ad)];rfl
theorem E6 {r:R0}{n m:Int}(Q:KQ K C MC)(Z:KR K C CR)(h:Ru C H (.one (.split n m)) v):ui K C MC H v:=by
 have ty:ņ K H v (.ref (C 0)):=Ob.ty Z ad h;refine⟨⟨_,ty,?_⟩,_,true,ty,?_,λ z=>by cases z⟩
 ·rw [bq (Q.cm 0 ad),bq (Q.cm 1 ad),bq (Q.cm 2 ad),bq (Q.cm 3 ad)];rfl
 ·rw [bq (Q.cm 4 ad)];exact ja Q.cc
theorem nW {σ:St}{Q:VK}(q:∀ x H',Ext H H'->Me MC H' k (.ref x)->Q (.ref x) H'):oX MC k σ H Q:=λ x dx hx hd ne=>Hg hx hd ne λ H' x' me=>⟨rfl,q x H' x' me⟩
theorem tP {c:Addr}{sp:Sp}{E:XK}{ta tb:TE}{σ:St}{Q:VK}(h:ta σ H λ v1 H1=>tb σ H1 λ v2 H2=>∀ x dx,H2 x=none->H2 dx=none->dx≠x->sp [.ref x,v1,v2] (af (af H2 dx (.own x)) x (.ins c dx [])) (λ v H'=>v=.ù/\Q (.ref x) H') E):c6 c sp [] E (ag ta (ag tb aG)) σ H Q:=h
theorem yv {σ:St}{Q:VK}{n:Int}(hk:k<4)(n0:0<=n)(n1:n<=20)(q:∀ x H',Ext H H'->Wm MC H' k [n] (.ref x)->Q (.ref x) H'):Ew K MC Cs k n σ H Q:=by
 refine tP (nW λ m H1 x1 me=>sJ ⟨dA,λ l hl=>?_⟩);have x2:=Ext.new (o:=.lst [.int n]) hl;have g2:af H1 l (.lst [.int n]) l=some (.lst [.int n]):=aR;generalize af H1 l (.lst [.int n])=H2 at x2 g2 ⊢;intro x dx hx hd ne;have xe:=bO (u:=.own x) (v:=.ins (MC 4) dx []) hx hd ne;refine⟨x,.ref m,.ref l,dx,H2,rfl,aR,xe,hx,.inr ⟨k,hk,me.ext x2,.inr (.inr ⟨l,[n],rfl,g2,⟨by show 1<=1;decide,by show 1<=6;decide,λ z hz=>?_⟩,λ H' kp wm=>⟨rfl,?_⟩⟩)⟩⟩
 ·cases Ô.mp hz;exact⟨n0,n1⟩
 ·exact q x H' ((x1.trans x2).trans (xe.kp hx kp)) wm
end
section
variable {P:Program}{w:World}{K:Frag}{mg:bv}{base:Heap}{C MC Cs:Nat->Addr}{CF CO CN CS CM MS CR f g r0 r1 r2 r3 r4 f0 f1 f2 f3 a1 a2 a3 p sA:Addr}{fd gd h0 h1 h2 h3 h4 e0 e1 e2 e3 d1 d2 d3:FuncData}{c_:Sp}{H:Hp}{v u y:V}{d:PyData}{k:Nat}{ns:List Int}{De:bY}{U:TS}
theorem Ey {σ:St}(Q:KQ K C MC)(Y:KW K MC MS)(Z:KR K C CR)(b:ħ H p):N0 (λ H v=>ui K C MC (wo H p) v) H σ (CZ K C MC Cs CN) 6:=by
 have g:jT (λ H v=>ui K C MC (wo H p) v):=⟨λ x h=>ľ.ext (aL x p) h⟩;have dat:∀{te:TE}{d:PyData}{v:V},(te=tC v)->(∀ G,Ĉ G v d)->gJ d->GP (λ H v=>ui K C MC (wo H p) v) H σ te:=λ e r sh=>by
  subst e;exact λ H1 R _ q=>q _ H1 (Ext.refl _) (uW Q (r _) sh)
 refine .cons g (dat rfl (λ _=>.ù) (d_.show ad ad)) (.cons g (dat rfl (λ _=>.str _) ⟨rfl,ad,ao⟩) (.cons g (dat rfl (λ _=>.int _) ((bV ad ad).show ad ad)) (.cons g ?_ (.cons g ?_ (.cons g ?_ .nil)))))
 ·intro H1 R x1 q;refine yv ad ad ad λ x H2 x2 wm=>?_;obtain⟨a,dx,i,t,m,r,e,ha,_⟩:=wm;cases e;obtain⟨_,_,_,hp,_⟩:=((b.ext x1).ext x2).ex;exact q _ H2 x2 (FY Q Y (bc (λ z=>by rw [z,hp] at ha;cases ha) ha))
 ·intro H1 R x1 q;refine sJ (nW λ x H2 x2 me=>⟨dA,λ l hl=>?_⟩);exact q _ _ (x2.trans (Ext.new hl)) (wl Q (bc (((b.ext x1).ext x2).ne hl) aR))
 ·intro H1 R x1 q;refine uJ (n:=2) (k:=1) (λ R k=>k) ⟨ad,ad,ad,ad⟩ λ x H2 x2 ru=>?_;exact q _ H2 x2 (E6 (r:=.split 2 1) Q Z (ru.wo ((b.ext x1).ext x2)))
theorem GB {σ:St}(b:ħ H p):N0 (λ H v=>∃ k,k<4/\Me MC (wo H p) k v) H σ (BS MC) 4:=by
 have g:jT (λ H v=>∃ k,k<4/\Me MC (wo H p) k v):=⟨λ x ⟨k,hk,me⟩=>⟨k,hk,me.ext (aL x p)⟩⟩;have z:∀ k,k<4->GP (λ H v=>∃ k,k<4/\Me MC (wo H p) k v) H σ (oX MC k):=λ k hk H1 R x1 q=>nW λ x H2 x2 me=>q _ H2 x2 ⟨k,hk,me.wo ((b.ext x1).ext x2)⟩;exact .cons g (z 0 ad) (.cons g (z 1 ad) (.cons g (z 2 ad) (.cons g (z 3 ad) .nil)))
theorem lZ {J:Hp->V->Prop}{σ:St}{te:TE}{l:Addr}{vs:List V}{m:Int}{Q:VK}(g:jT J)(Sz:∀ R:VK,R (.ref l) H->te σ H R)(hl:wo H p l=some (.lst vs))(al:∀ v∈vs,J (wo H p) v)(hm:m=(vs.length:Nat))(m0:0<vs.length)(m1:vs.length<=1000)(sc:Sc K H sA p ns)(s0:σ[0]?=some (some (.ref sA)))(s1:σ[1]?=some (some (.ref p)))
  (q:∀ v H',J (wo H' p) v->Sc K H' sA p ns->Ext (wo H p) (wo H' p)->Q v H'):aS (cX K) te (dI K (tC (.int m))) σ H Q:=by
 refine gD (Sz _ (bH sc s0 s1 (λ R r=>r) am am λ r H2 r0 r1 Χ k2=>?_));have x2:=aM k2;have hr:r.toNat<vs.length:=am;exact⟨l,vs,r,_,rfl,rfl,ó.of (ak _ _ _ _ (x2 _ _ hl)),yj r0 hr,q _ H2 (g.ext x2 (al _ (đ hr))) Χ x2⟩
def AH (K:Frag):Sp:=λ vs H Q _=>∃ sA p ns,vs=[.ref sA,.ref p]/\H sysModules=none/\Sc K H sA p ns/\∀ H',Sc K H' sA p ns->Ext (wo H p) (wo H' p)->Q (.bl true) H'
theorem CJ {σ:St}{Q:VK}{ta tb:TE}{a b:V}{spC:Sp}(j:Nat)(hj:j=0\/j=1\/j=4\/j=5\/j=6)(Vv:∀ R:VK,R a H->ta σ H R)(htb:∀ R:VK,R b H->tb σ H R)(hC:∀(Qn:VK)(E:XK),(∀ H',Ext H H'->bM (Cs j) (ie j) y H' E)->spC [.str "weighted",a,b,.ù] H Qn E)
  (q:∀ c H',Ext H H'->H' c=some (.tup [.str (fR j),y])->Q (.ref c) H'):uU Cs spC ta tb σ H Q:=Vv _ (htb _ ⟨_,_,_,_,rfl,.inr ⟨j,y,hj,hC,q⟩⟩)
theorem Bv {σ:St}{c:Addr}(s7:σ[7]?=some (some (.ref c)))(hc:H c=some (.tup [.str (fR 5),y]))(q:U De σ H):aZ (FK K) U De σ H:=by
 refine⟨_,s7,rfl,_,rfl,?_⟩;rw [É (λ z=>by cases z)]
 refine cE ⟨_,s7,c,_,_,_,rfl,rfl,ĥ.of hc,gS (j:=0) rfl,rfl,_,rfl,?_⟩;rw [Å (show V.str (fR 5)=.str "trials" from rfl)];exact cE q
theorem Ck {σ:St}{c:Addr}(s7:σ[7]?=some (some (.ref c)))(s3:σ[3]?=some (some y))(hc:H c=some (.tup [.str (fR 5),y]))(q:U De σ H):aZ (ET K) U De σ H:=by
 refine⟨_,s7,c,_,_,_,rfl,rfl,ĥ.of hc,gS (j:=1) rfl,rfl,_,rfl,?_⟩;by_cases e:y=.ù
 ·rw [Å e];refine cQ ⟨_,s3,rfl,_,rfl,?_⟩;rw [Å e];exact cE q
 ·rw [É e];exact cE (cE q)
theorem zP {σ:St}{c:Addr}(s7:σ[7]?=some (some (.ref c)))(s3:σ[3]?=some (some y))(hc:H c=some (.tup [.str (fR 5),y]))(ii:ui K C MC H y)(q:∀ H',Ext H H'->U De σ H'):aZ (Ha K C MC) U De σ H:=by
 obtain⟨_,t,b,ty,e,sh⟩:=ii;refine⟨_,s3,dA,λ o ho=>?_⟩;have x1:=Ext.new (o:=.tup [.ref (MC 4),.ref (C 0),.ty "list"]) ho;have g1:af H o (.tup [.ref (MC 4),.ref (C 0),.ty "list"]) o=some (.tup [.ref (MC 4),.ref (C 0),.ty "list"]):=aR;generalize af H o (.tup [.ref (MC 4),.ref (C 0),.ty "list"])=H1 at x1 g1 ⊢;refine⟨y,o,[.inl (MC 4),.inl (C 0),.inr "list"],t,b,rfl,My.ņ.ext ty x1,g1,e,_,rfl,?_⟩;cases b with
 | true=>exact cE (cE (q H1 x1))
 | false =>
  obtain⟨d,r,s⟩:=sh rfl;refine cQ ⟨_,s7,c,_,_,_,rfl,rfl,ĥ.of (x1 _ _ hc),gS (j:=1) rfl,y,d,rfl,r.mono x1,s,_,s3,y,d,rfl,r.mono x1,s,rfl,_,rfl,?_⟩;rw [Å rfl];exact cE (q H1 x1)
theorem zY {σ:St}(s3:σ[3]?=some (some y))(ik:InK K MC H y false)(q:∀ H',Ext H H'->U De σ H'):aZ (Eb Cs (hI K C MC CF CO (Cs 5) (Cs 4) c_)) U De σ H:=by
 refine⟨_,s3,dA,λ l hl=>?_⟩;have x1:=Ext.new (o:=.lst [.int 1]) hl;refine⟨_,_,_,_,rfl,.inr ⟨5,y,ad,nj (ik.ext x1),λ c H' x' hc=>⟨rfl,_,rfl,?_⟩⟩⟩;rw [É (λ z=>by cases z)]
 exact cE (q H' (x1.trans x'))
theorem A0 {σ:St}(s6:σ[6]?=some (some y))(hk:k<4)(me:Me MC H k y)(q:∀ H',Ext H H'->U De σ H'):aZ (Hn Cs (hI K C MC CF CO (Cs 5) (Cs 4) c_)) U De σ H:=by
 refine⟨_,s6,dA,λ l hl=>?_⟩;have x1:=Ext.new (o:=.lst [.int 20,.int 0]) hl;refine⟨_,_,_,_,rfl,.inl ⟨wH (ws:=[20,0]) hk (me.ext x1) aR ⟨ad,ad,λ n hn=>?_⟩,λ H' x'=>⟨rfl,_,rfl,?_⟩⟩⟩
 ·simp only [List.mem_cons,List.not_mem_nil,or_false] at hn;rcases hn with rfl | rfl <;> decide
 ·rw [Å rfl];exact cE (q H' (x1.trans x'))
theorem Gw (Q:KQ K C MC)(Y:KW K MC MS)(Z:KR K C CR)(F:ğ K "_law_weighted_refused" "_law_weighted_refused" DU f fd)(W:Jp P w K mg base C MC Cs CN CS CM g r0 r1 r2 r3 r4 f0 f1 f2 f3 a1 a2 a3 gd h0 h1 h2 h3 h4 e0 e1 e2 e3 d1 d2 d3 (hI K C MC CF CO (Cs 5) (Cs 4) c_)):ß P w K mg base ay 12 f fd ["_law_script","_law_pen"] (AH K):=by
 refine F.ok RH (λ vs H Q E h=>?_) (λ cdv A outer s H vs R E hr h=>?_)
 ·obtain⟨_,_,_,rfl,_⟩:=h;rfl
 obtain⟨sA,p,ns,rfl,hz,sc,q⟩:=h;refine iU (Cb hz W hr) ⟨?_⟩;refine aN (te:=aT (CZ K C MC Cs CN)) (i:=2) (N0.use (I:=λ H v=>ui K C MC (wo H p) v) ⟨λ x h=>ľ.ext (aL x p) h⟩ (Ey Q Y Z sc.bx) ad λ l vs H1 x1 n1 hl lv al=>?_);have ž:=sc.ext x1;have w1:=aL x1 p;have gl:wo H1 p l=some (.lst vs):=bc (sc.bx.ne n1) hl;refine aN (te:=aS (cX K) (ar 2) (dI K (tC (.int 6)))) (i:=3) (lZ (J:=ui K C MC) ľ (λ R k=>⟨_,rfl,k⟩) gl al (by rw [lv];rfl) am am ž rfl rfl λ v H2 iv Χ x2=>?_)
 have w2:=w1.trans x2;obtain⟨bo,hb⟩:=Χ.bx.some;refine aN (te:=aT As) (i:=4) (M_.use (G:=λ H=>wo H p) Es (yH hb) ad λ l4 vs4 H3 x3 n3 g3 h3 rs=>?_);have Δ:=Χ.ext x3;have w3:=w2.trans (aL x3 p);have iv3:=ľ.ext (aL x3 p) iv;have Vb:=rs.length;refine aN (te:=aS (cX K) (ar 4) (dI K (tC (.int 12)))) (i:=5) (lZ (J:=λ G v=>∃ d,d∈HC/\Ĉ G v d) ⟨λ x ⟨d,hd,r⟩=>⟨d,hd,r.mono x⟩⟩ (λ R k=>⟨_,rfl,k⟩) g3 (λ v hv=>by
  obtain⟨i,hi⟩:=List.getElem?_of_mem hv;obtain⟨d,ed,rd⟩:=rs.get hi;exact⟨d,ê ed,rd⟩) (by rw [Vb];rfl) (by rw [Vb];decide) (by rw [Vb];decide) Δ rfl rfl λ u H4 ⟨d,hd,rd⟩ Lu x4=>?_)
 obtain⟨bw,sh⟩:=Ag d hd;have w4:=w3.trans x4;have iv4:=ľ.ext x4 iv3;refine aN (te:=aS (cX K) (aT (BS MC)) (dI K (tC (.int 4)))) (i:=6) (gD (N0.use (I:=λ H v=>∃ k,k<4/\Me MC (wo H p) k v) ⟨λ x ⟨k,hk,me⟩=>⟨k,hk,me.ext (aL x p)⟩⟩ (GB Lu.bx) ad λ l5 vs5 H5 x5 n5 h5 lv5 al5=>?_));have Ny:=Lu.ext x5;have w5:=w4.trans (aL x5 p);have iv5:=ľ.ext (aL x5 p) iv4;have rd5:=rd.mono (aL x5 p);refine lZ (J:=λ G v=>∃ k,k<4/\Me MC G k v) (te:=tC (.ref l5)) ⟨λ x ⟨k,hk,me⟩=>⟨k,hk,me.ext x⟩⟩ (λ R k=>k) (bc (Lu.bx.ne n5) h5) al5 (by rw [lv5];rfl) am am Ny rfl rfl λ gm H6 ⟨k,hk,me⟩ OF x6=>?_
 have w6:=w5.trans x6;have Vk:=ľ.ext (x6.trans (ak H6 p)) iv5;have Uw:=rd5.mono (x6.trans (ak H6 p));have WY:=me.ext (ak H6 p);refine aN (te:=uU Cs (hI K C MC CF CO (Cs 5) (Cs 4) c_) (ar 3) (ar 5)) (i:=7) (CJ (y:=v) 5 ad (λ R k=>⟨_,rfl,k⟩) (λ R k=>⟨_,rfl,k⟩) (nj Vk.1) λ c H7 x7 hc=>?_);refine Bv rfl hc (Ck rfl rfl hc (zP rfl rfl hc (ľ.ext x7 Vk) λ H8 x8=>?_));have Wv:=x7.trans x8;refine zY rfl (ľ.ext Wv Vk).1 λ H9 x9=>?_;have Wu:=Wv.trans x9;refine A0 rfl hk (WY.ext Wu) λ X7 QD=>?_;have Oz:=Wu.trans QD;refine ls (Cs:=Cs) (y:=u) (y':=u) 4 ad ao (λ R k=>⟨_,rfl,_,rfl,k⟩) (Du hk (WY.ext Oz) (Uw.mono Oz) bw) (λ H' R _ k=>⟨_,rfl,k⟩) (Uw.mono Oz) (Uw.mono Oz) sh λ H11 Uf=>?_;have xf:=Oz.trans Uf;exact q H11 (OF.ext xf) (w6.trans (aL xf p))
end
section
variable {X:Cx}{op:Operator}{r:R2}{a b:Expr}{ta tb:TE}{pos p:Pos}{CX:jv}{k:Nat}{f:Addr}{fd:FuncData}{ps:List Str}{sp:Sp}{E:XK}{x:Str}{e:Expr}{es:List Expr}{t:TA}{tg iter l:Expr}{body:List Stmt}{wi:TI}{g:TG}{WI:TS}{tl:TE}
theorem FO (ho:ij X (binaryOp op) r)(ha:Bx (PE X a ta))(hb:Bx (PE X b tb)):Bx (PE X (.BinOp a op b pos) (aS r ta tb)):=⟨aC ho ha.h hb.h⟩
theorem Bt (h:Bx (PE X l tl)):Bx (PI X tg l (cO X.K tl)):=⟨bC h.h⟩
theorem pS (hp:PassesOwn (model X.prog X.w) X.A X.env X.xe)(hc:X.calm=true)(hi:Bx (PI X tg iter wi))(hg:PG X tg g)(hb:Bx (Ų X body WI))(hs:∀ x,foldedSetIterable iter X.env x=pure x:=by intro _;rfl):Bx (PS X (.For tg iter body [] pos) (mH wi g WI)):=⟨gk hp hc hi.h hg hb.h hs⟩
end
theorem vt {K:Frag}{σ:St}{H:Hp}{De:bY}{te:TE}{g:TG}{tb:TS}(h:te σ H λ x H1=>∃ a,x=.ref a/\(∃ xs,ó K H1 a xs)/\∃ W:Nat->Nat->St->Hp->Prop,(∃ m,W 0 m σ H1)/\∀ i m σ H,W i m σ H ->
   ((jZ K a).stop i H/\De.nx σ H)\/((jZ K a).go i H/\∃ N:St->Hp->Prop,(∀ Ē H',N Ē H'->∃ m',m'<m/\W (i+1) m' Ē H')/\∀ x H',(jZ K a).L_ i H x H'->g x σ H' λ İ H2=>tb { De with nx:=N,ct:=N,bk:=De.nx } İ H2)):mH (cO K te) g tb De σ H:=h
theorem Eo {t:Rl}(ok:t.ok)(fl:t.flat):t.bl.length<=20:=by
 have e:=Ğ List.length (mw ok fl);rw [Ä] at e;have:=(Rl.sm ok).1;omega
theorem wj {t:Rl}(ok:t.ok)(fl:t.flat):t.Õ =(((t.bl.map (·.2)).flatten.length:Nat):Int):=by
 obtain⟨ns,h1,e,es⟩:=pq ok fl;rw [mw ok fl,e,kI ns 0 h1,lR,es];have:=Rl.Ĝ ok;omega
theorem uI (o p:Int × Bool):pN o p = - pN p o:=by
 obtain⟨n1,s1⟩:=o;obtain⟨n2,s2⟩:=p;show DR n1 s1 n2 s2 = - DR n2 s2 n1 s1;unfold DR;by_cases h1:n1>n2
 ·have h2:¬ n2>n1:=am;rw [Å h1,É h2];cases s1 <;> cases s2 <;> decide
 ·by_cases h2:n2>n1
  ·rw [É h1,Å h2];cases s1 <;> cases s2 <;> decide
  ·rw [É h1,É h2];cases s1 <;> cases s2 <;> decide
theorem nP (os:List (Int × Bool))(f g:Int × Bool->Int):(os.map λ o=>f o+g o).sum=(os.map f).sum+(os.map g).sum:=by
 induction os with
 | nil=>rfl
 | cons o os ih =>
  simp only [List.map_cons,List.sum_cons];rw [ih];omega
theorem iV (os:List (Int × Bool))(f:Int × Bool->Int):(os.map λ o=>- f o).sum = - (os.map f).sum:=by
 induction os with
 | nil=>rfl
 | cons o os ih =>
  simp only [List.map_cons,List.sum_cons];rw [ih];omega
theorem mY (xs:List (Int × Bool))(f:Int × Bool->Int × Bool->Int):∀ ys:List (Int × Bool),(xs.map λ o=>(ys.map λ p=>f o p).sum).sum=(ys.map λ p=>(xs.map λ o=>f o p).sum).sum
 | []=>by
  induction xs with
  | nil=>rfl
  | cons x xs ih =>
   simp only [List.map_cons,List.sum_cons,List.map_nil,List.sum_nil] at ih ⊢;omega
 | y::ys=>by
  simp only [List.map_cons,List.sum_cons];rw [nP xs (λ o=>f o y) (λ o=>(ys.map λ p=>f o p).sum),mY xs f ys]
theorem uZ (os:List (Int × Bool)):(jS os).sum=0:=by
 unfold jS;have e:=mY os pN os;have e2:(os.map λ p=>(os.map λ o=>pN o p).sum)=os.map λ p=>- (os.map λ o=>pN p o).sum:=by
  refine LP λ p _=>?_;rw [<- iV]
  congr 1
  exact LP λ o _=>uI o p
 rw [e2,iV os λ p=>(os.map λ o=>pN p o).sum] at e;omega
structure Dl (P:Program)(w:World)(K:Frag)(mg:bv)(base:Heap)(C MC Cs:Nat->Addr)(MS CU CN f0 f1 f2 f3 g a1 a2 a3 a4 a5 a6:Addr)(e0 e1 e2 e3 gd d1 d2 d3 d4 d5 d6:FuncData):Prop where
 rl:Df P w K mg base ay 9 "_law_rule" ["_law_script","_law_pen","_law_most"] (At K C) a1 d1
 fo:Df P w K mg base ay 1 "_law_folk" ["_law_blocks"] wC a2 d2
 lo:Df P w K mg base ay 2 "_law_outcomes" ["_law_script","_law_pen","_law_folk_here","_law_sure"] (wa K) a3 d3
 sf:Df P w K mg base ay 12 "_law_scores_refused" JO (Ah K C MC) a4 d4
 wr:Df P w K mg base ay 12 "_law_weighted_refused" ["_law_script","_law_pen"] (AH K) a5 d5
 vf:Df P w K mg base ay 12 "_law_value_refused" ["_law_script","_law_pen"] (Cz K) a6 d6
 L:JZ P w K mg base MC f0 f1 f2 f3 e0 e1 e2 e3
 kW:Mk K (MC 4) g
 gW:ß P w K mg base (cp P w) 4 g gd vk (nI K MC (Cs 5) (Cs 4))
 bW:Binds K gd vk []
 mW:mg "Weighted" = some (.ref (MC 4))
 sc:cg P w K mg base (cp P w) 9 "scores" ["self","rule","outcomes"] (pk MC) (λ _=>nX C MC CU CN)
 N:pY K
 mS:mg "Measure" = some (.ref MS)
 mi:mg "isinstance" = none
 mr:mg "range" = none
 mn:mg "len" = none
 ms:mg "sum" = none
section
variable {P:Program}{w:World}{K:Frag}{mg:bv}{base:Heap}{C MC Cs:Nat->Addr}{MS CU CN f f0 f1 f2 f3 g a1 a2 a3 a4 a5 a6:Addr}{fd e0 e1 e2 e3 gd d1 d2 d3 d4 d5 d6:FuncData}
abbrev rR:Stmt:=cr 85
abbrev Kb:List Str:=["_law_script","_law_pen","_law_k","_law_rule_here","_law_blocks","_law_outcomes_here","_law_some","_law_measure","_law_kinds","_law_wins"]
theorem RN:ae Kb ["_law_script"] (aa rR):=aO
def KU (K:Frag)(C:Nat->Addr):TS:=cV (gE (At K C) [] E0 (ag (ar 0) (ag (ar 1) (ag (tC (.int 8)) aG)))) (v5 K 2 (gB (bF 3) (gB (bF 4) sd)))
def KF (K:Frag):TS:=cV (gE (wa K) [] E0 (ag (ar 0) (ag (ar 1) (ag (gE wC [] E0 (ag (ar 4) aG)) (ag (tC (.bl false)) aG))))) (bF 5)
def BC (K:Frag)(MC Cs:Nat->Addr):TA:=ag (oX MC 0) (ag (oX MC 1) (ag (oX MC 2) (ag (oX MC 3) (ag (Ew K MC Cs 0 1) (ag (Ew K MC Cs 3 0) aG)))))
def K1 (K:Frag)(MC Cs:Nat->Addr):TS:=cV (aT (BC K MC Cs)) (bF 6)
def iY (K:Frag)(c:Addr):TE:=iQ (GJ K) (ag (ar 7) (ag (tC (.ref c)) aG))
def D5 (K:Frag)(MC:Nat->Addr):TS:=cV (aT (ag (iY K (MC 0)) (ag (iY K (MC 1)) (ag (iY K (MC 2)) aG)))) (bF 8)
def Ex (K:Frag)(MC:Nat->Addr):TS:=cV (aS i5 (ar 8) (aT (ag (iY K (MC 3)) (ag (iY K (MC 4)) aG)))) (bF 8)
def Fs (K:Frag)(MS:Addr):TS:=dQ (yY (mj (tB (iY K MS))) (tB (aS Dc (yG K "list" (pL K) (ar 8) (ag (tC (.bl true)) aG)) (tC (.int 1))))) lX bZ
def JE (K:Frag)(C MC:Nat->Addr):TS:=dQ (mj (tB (iD (Ah K C MC) E0 (ag (ar 0) (ag (ar 1) (ag (ar 7) (ag (ar 3) (ag (ar 5) aG)))))))) lX bZ
def Kh (K:Frag)(C MC:Nat->Addr)(MS:Addr):TS:=mH (cO K (ar 6)) (bF 7) (aZ (D5 K MC) (aZ (Ex K MC) (aZ (Fs K MS) (JE K C MC))))
def IP (K:Frag):TS:=dQ (yY (mj (tB (iD (AH K) E0 (ag (ar 0) (ag (ar 1) aG))))) (mj (tB (iD (Cz K) E0 (ag (ar 0) (ag (ar 1) aG)))))) lX bZ
def KL (C MC:Nat->Addr)(CU CN:Addr):TS:=cV (dy (pk MC) "scores" (λ _=>nX C MC CU CN) E0 (oX MC 2) (ag (ar 3) (ag (ar 5) aG))) (bF 9)
def La (K:Frag):TS:=dQ (yY (tB (aS Dc (iN K 9) (iN K 5))) (tB (aS Dc (iQ (oz K) (ag (ar 9) aG)) (tC (.int 0))))) lX bZ
def Ed (K:Frag)(C MC Cs:Nat->Addr)(MS CU CN:Addr):TS:=aZ (KU K C) (aZ (KF K) (aZ (K1 K MC Cs) (aZ (Kh K C MC MS) (aZ (IP K) (aZ (KL C MC CU CN) (La K))))))
def Ka (K:Frag)(C MC Cs:Nat->Addr)(MS CU CN:Addr):TS:=mH (nY (ag (tC (.int 2)) aG)) (bF 2) (Ed K C MC Cs MS CU CN)
def GT (K:Frag)(C MC Cs:Nat->Addr)(MS CU CN:Addr):TS:=aZ (cV (uV K (ag (tC (.int 0)) (ag (tC (.int 0)) (ag (tC (.int 7)) aG)))) (bF 1)) (aZ (Ka K C MC Cs MS CU CN) (cW (tC (.bl true))))
section
variable {cdv:Value}{A:Around}{outer:List Env}{s:Shared}{H:Hp}{E:XK}
theorem vR (hz:H sysModules=none)(D:Dl P w K mg base C MC Cs MS CU CN f0 f1 f2 f3 g a1 a2 a3 a4 a5 a6 e0 e1 e2 e3 gd d1 d2 d3 d4 d5 d6)(hr:qX 12 "law" rR A s f cdv):Bx (Ų (br ay P w K mg base Kb "law" (aa rR) f cdv A outer s H E).Ŝ (aH rR) (GT K C MC Cs MS CU CN)):=by
 have nd:=RN.nd;have Ħ:ö 1 _:=hr.mono ad;have Mf:ö 2 _:=hr.mono ad;have Mz:ö 3 _:=hr.mono ad;have M4:ö 5 _:=hr.mono ad;have W9:ö 9 _:=hr.mono ad;exact cA (aP (i:=1) nd rfl (Or.inl rfl) ⟨wK (ac aB (ac aB (ac aB aq)))⟩) (cA (pS ĸ rfl ⟨gu rfl D.mr (ac aB aq)⟩ (dG (i:=2) nd rfl (Or.inl rfl))
  (cA ⟨gN (p9 D.rl.G W9 rfl D.rl.m D.rl.kp D.rl.b .nil ai (ac (pv 0) (ac (pv 1) (ac aB aq)))) (cT rfl (gy (dG (i:=3) nd rfl (Or.inl rfl)) (gy (dG (i:=4) nd rfl (Or.inl rfl)) bT)))⟩
  (cA (aP (i:=5) nd rfl (Or.inl rfl) ⟨p9 D.lo.G Mf rfl D.lo.m D.lo.kp D.lo.b .nil ai (ac (pv 0) (ac (pv 1) (ac (p9 D.fo.G Ħ rfl D.fo.m D.fo.kp D.fo.b .nil ai (ac (pv 4) aq)) (ac gR aq))))⟩)
  (cA (aP (i:=6) nd rfl (Or.inl rfl) (dw (bX ⟨bU D.L.k0 D.L.g0 Mz rfl D.L.m0 D.L.b0 .nil ai⟩ (bX ⟨bU D.L.k1 D.L.g1 Mz rfl D.L.m1 D.L.b1 .nil ai⟩ (bX ⟨bU D.L.k2 D.L.g2 Mz rfl D.L.m2 D.L.b2 .nil ai⟩ (bX ⟨bU D.L.k3 D.L.g3 Mz rfl D.L.m3 D.L.b3 .nil ai⟩ (bX ⟨dC D.kW D.gW M4 rfl D.mW D.bW .nil fQ (ac (bU D.L.k0 D.L.g0 Mz rfl D.L.m0 D.L.b0 .nil ai) (ac (aY (ac aB aq)) aq))⟩ (bX ⟨dC D.kW D.gW M4 rfl D.mW D.bW .nil fQ (ac (bU D.L.k3 D.L.g3 Mz rfl D.L.m3 D.L.b3 .nil ai) (ac (aY (ac aB aq)) aq))⟩ bp))))))))
  (cA (pS ĸ rfl (Bt ⟨pv 6⟩) (dG (i:=7) nd rfl (Or.inl rfl))
   (cA (aP (i:=8) nd rfl (Or.inl rfl) (dw (bX ⟨ah (eB D.N) rfl D.mi Ê (ac (pv 7) (ac (aI (v:=.ref (MC 0)) rfl D.L.m0 rfl) aq))⟩ (bX ⟨ah (eB D.N) rfl D.mi Ê (ac (pv 7) (ac (aI (v:=.ref (MC 1)) rfl D.L.m1 rfl) aq))⟩ (bX ⟨ah (eB D.N) rfl D.mi Ê (ac (pv 7) (ac (aI (v:=.ref (MC 2)) rfl D.L.m2 rfl) aq))⟩ bp)))))
   (cA (aP (i:=8) nd rfl (Or.inl rfl) (FO iE ⟨pv 8⟩ (dw (bX ⟨ah (eB D.N) rfl D.mi Ê (ac (pv 7) (ac (aI (v:=.ref (MC 3)) rfl D.L.m3 rfl) aq))⟩ (bX ⟨ah (eB D.N) rfl D.mi Ê (ac (pv 7) (ac (aI (v:=.ref (MC 4)) rfl D.mW rfl) aq))⟩ bp)))))
   (cA ⟨bf (PW.pt (fV (bu (aX (ah (eB D.N) rfl D.mi Ê (ac (pv 7) (ac (aI (v:=.ref MS) rfl D.mS rfl) aq))))) (dH (aA gC (jV ď P5 P4 mQ (pv 8) (ac gR aq)) aB (az _))))) (bj (cM gR)) fF⟩
   (be ⟨bf (bu (aX (cY hz D.sf.G hr rfl D.sf.m D.sf.kp D.sf.b ai (ac (pv 0) (ac (pv 1) (ac (pv 7) (ac (pv 3) (ac (pv 5) aq)))))))) (bj (cM gR)) fF⟩)))))
  (cA ⟨bf (PW.pt (fV (bu (aX (cY hz D.wr.G hr rfl D.wr.m D.wr.kp D.wr.b ai (ac (pv 0) (ac (pv 1) aq))))) (dH (bu (aX (cY hz D.vf.G hr rfl D.vf.m D.vf.kp D.vf.b ai (ac (pv 0) (ac (pv 1) aq)))))))) (bj (cM gR)) fF⟩
  (cA (aP (i:=9) nd rfl (Or.inl rfl) ⟨dE (bU D.L.k2 D.L.g2 Mz rfl D.L.m2 D.L.b2 .nil ai) D.sc W9 fQ (ac (pv 3) (ac (pv 5) aq))⟩)
  (be ⟨bf (PW.pt (fV (aA gC (ah aF rfl D.mn ñ (ac (pv 9) aq)) (ah aF rfl D.mn ñ (ac (pv 5) aq)) (az _)) (dH (aA gC (ah (dS rfl) rfl D.ms Ė (ac (pv 9) aq)) aB (az _))))) (bj (cM gR)) fF⟩)))))))) (be ⟨cM gR⟩))
end
end
section
variable {P:Program}{w:World}{K:Frag}{mg:bv}{base:Heap}{C MC Cs:Nat->Addr}{MS CU CN f f0 f1 f2 f3 g a1 a2 a3 a4 a5 a6 p sA:Addr}{fd e0 e1 e2 e3 gd d1 d2 d3 d4 d5 d6:FuncData}{H:Hp}{De:bY}{ns:List Int}{m r v:V}{U:TS}{t:Rl}{os:List (Int × Bool)}{k:Nat}{o0 o1 o2 o3 o4 o5 o6 o7 o8 o9:Option V}
theorem E5 (hk:k<4)(h:Me MC H k v):Oe MC H v:=by
 obtain⟨a,dx,m,rfl,ha,_⟩:=h;refine⟨a,k,dx,_,am,rfl,ha,?_⟩;show List.lookup ("scores" : Str) [(("mark" : Str),V.ref m)]=none;rw [è,Ù.mpr ad];rfl
theorem D7 {ws:List Int}(b:ħ H p)(h:Wm MC H k ws v):Oe MC (wo H p) v:=by
 obtain⟨_,_,_,hp,_⟩:=b.ex;obtain⟨a,dx,i,t,m,r,rfl,ha,_⟩:=h;refine⟨a,4,dx,_,am,rfl,bc (λ z=>by rw [z,hp] at ha;cases ha) ha,?_⟩
 show List.lookup ("scores" : Str) [(("inner" : Str),i),("weights",V.ref t),("mark",V.ref m)]=none;rw [è,Ù.mpr ad,è,Ù.mpr ad,è,Ù.mpr ad];rfl
theorem dX:jT (λ H v=>Oe MC (wo H p) v):=⟨λ x h=>h.ext (aL x p)⟩
theorem EC {σ:St}(b:ħ H p):N0 (λ H v=>Oe MC (wo H p) v) H σ (BC K MC Cs) 6:=by
 have z:∀ k,k<4->GP (λ H v=>Oe MC (wo H p) v) H σ (oX MC k):=λ k hk H1 R x1 q=>nW λ x H2 x2 me=>q _ H2 x2 (E5 hk (me.wo ((b.ext x1).ext x2)));have u:∀ k n,k<4->0<=n->n<=20->GP (λ H v=>Oe MC (wo H p) v) H σ (Ew K MC Cs k n):=λ k n hk n0 n1 H1 R x1 q=>yv hk n0 n1 λ x H2 x2 wm=>q _ H2 x2 (D7 ((b.ext x1).ext x2) wm);exact .cons dX (z 0 ad) (.cons dX (z 1 ad) (.cons dX (z 2 ad) (.cons dX (z 3 ad) (.cons dX (u 0 1 ad ad ad) (.cons dX (u 3 0 ad ad ad) .nil)))))
theorem uq {x dx:Addr}{i:Nat}{fs:List (Str × V)}(Z:KM K MC)(Y:KW K MC MS)(hi:i<5)(hx:H x=some (.ins (MC i) dx fs)):Kd K H (.ref x) (.ref (MC i)):=by
 refine .inl (.ins hx ?_ (Y.ha i hi) Y.hn Y.MM (Y.hm i hi));by_cases h4:i<4
 ·exact Z.cls i h4
 ·have:i=4:=am;subst this;exact Y.cls
theorem iC {σ:St}{Q:VK}{c:Addr}{t:Value}{b:Bool}(s7:σ[7]?=some (some m))(kd:Kd K H m t)(e:kitOne K t (.ref c)=some b)(q:Q (.bl b) H):iY K c σ H Q:=⟨_,s7,m,c,t,b,rfl,kd,e,q⟩
theorem JV:∀ i,i<5->([V.bl (i==0),.bl (i==1),.bl (i==2),.bl (i==3),.bl (i==4)]:List V).countP (λ z=>p5 z (.bl true))=1:=ad
theorem zr (Z:KM K MC)(Y:KW K MC MS)(Q:KQ K C MC)(h:Oe MC H m)(q:∀ o8 H',Ext H H'->U De [o0,o1,o2,o3,o4,o5,o6,some m,o8,o9] H') :
  aZ (D5 K MC) (aZ (Ex K MC) (aZ (Fs K MS) U)) De [o0,o1,o2,o3,o4,o5,o6,some m,o8,o9] H:=by
 obtain⟨x,i,dx,fs,hi,rfl,hx,_⟩:=h;have kd:=uq Z Y hi hx;refine aN (te:=aT (ag (iY K (MC 0)) (ag (iY K (MC 1)) (ag (iY K (MC 2)) aG)))) (i:=8) (iC rfl kd (Y.kk i 0 hi ad) (iC rfl kd (Y.kk i 1 hi ad) (iC rfl kd (Y.kk i 2 hi ad) ⟨dA,λ b hb=>?_⟩)));have x1:=Ext.new (o:=.lst [.bl (i==0),.bl (i==1),.bl (i==2)]) hb;have g1:af H b (.lst [.bl (i==0),.bl (i==1),.bl (i==2)]) b=some (.lst [.bl (i==0),.bl (i==1),.bl (i==2)]):=aR;generalize af H b (.lst [.bl (i==0),.bl (i==1),.bl (i==2)])=H1 at x1 g1 ⊢;have W4:=uq Z Y hi (x1 _ _ hx);refine aN (te:=aS i5 (ar 8) (aT (ag (iY K (MC 3)) (ag (iY K (MC 4)) aG)))) (i:=8) ⟨_,rfl,iC rfl W4 (Y.kk i 3 hi ad) (iC rfl W4 (Q.w5 i hi) ⟨dA,λ c hc=>?_⟩)⟩;have x2:=Ext.new (o:=.lst [.bl (i==3),.bl (i==4)]) hc;have g2:af H1 c (.lst [.bl (i==3),.bl (i==4)]) c=some (.lst [.bl (i==3),.bl (i==4)]):=aR;generalize af H1 c (.lst [.bl (i==3),.bl (i==4)])=H2 at x2 g2 ⊢;refine⟨b,c,_,_,rfl,rfl,x2 _ _ g1,g2,dA,λ l hl=>?_⟩;have x3:=Ext.new (o:=.lst ([.bl (i==0),.bl (i==1),.bl (i==2)] ++ [.bl (i==3),.bl (i==4)])) hl;have g3:af H2 l (.lst ([.bl (i==0),.bl (i==1),.bl (i==2)] ++ [.bl (i==3),.bl (i==4)])) l=some (.lst [.bl (i==0),.bl (i==1),.bl (i==2),.bl (i==3),.bl (i==4)]):=aR;generalize af H2 l (.lst ([.bl (i==0),.bl (i==1),.bl (i==2)] ++ [.bl (i==3),.bl (i==4)]))=H3 at x3 g3 ⊢;have Ph:=(x1.trans x2).trans x3;refine iC rfl (uq Z Y hi (Ph _ _ hx)) (Y.kM i hi) ⟨_,rfl,cE ?_⟩;refine⟨_,rfl,.inl ⟨rfl,_,ó.of g3⟩,l,_,_,rfl,rfl,ó.of g3,rfl,rfl,rfl,_,rfl,?_⟩;rw [JV i hi];exact cE (q _ H3 Ph)
theorem Fk (Z:KM K MC)(Y:KW K MC MS)(Q:KQ K C MC){l a:Addr}{vs xs:List V}(sc:Sc K H sA p ns)(hl:wo H p l=some (.lst vs))(al:∀ v∈vs,Oe MC (wo H p) v)(ru:Ru C (wo H p) t r)(ha:wo H p a=some (.lst xs))(rs:Ñ (wo H p) xs (os.map iZ))(ok:Nq os)(ln:(os.length:Int)=t.Õ)(le:os.length<=100)
  (q:∀ o7 o8 H',Sc K H' sA p ns->Ext (wo H p) (wo H' p)->U De [some (.ref sA),some (.ref p),o2,some r,o4,some (.ref a),some (.ref l),o7,o8,o9] H') :
  aZ (Kh K C MC MS) U De [some (.ref sA),some (.ref p),o2,some r,o4,some (.ref a),some (.ref l),o7,o8,o9] H:=by
 refine vt (te:=ar 6) ⟨_,rfl,l,rfl,⟨_,ó.of (ak _ _ _ _ hl)⟩,ig (λ _ σ H'=>∃ o7 o8,σ=[some (.ref sA),some (.ref p),o2,some r,o4,some (.ref a),some (.ref l),o7,o8,o9]/\Sc K H' sA p ns/\Ext (wo H p) (wo H' p)) ⟨_,_,rfl,sc,Ext.refl _⟩ (λ _ _ H' _ pv=>ó.of (by obtain⟨_,_,_,_,x'⟩:=pv;exact ak _ _ _ _ (x' _ _ hl))) ?_ ?_⟩
 ·rintro n x σ H' hx ⟨o7,o8,rfl,Lv,x'⟩;have me:=(al x (ê hx)).ext x';refine zr Z Y Q (me.ext (ak _ _)) λ o8 H2 x2=>?_;have y2:=x'.trans (aL x2 p);refine⟨_,rfl,_,rfl,_,rfl,_,rfl,_,rfl,λ hz=>⟨sA,p,ns,x,r,a,xs,os,t,rfl,hz,⟨Lv.ext x2,me.ext (aL x2 p),ru.ext y2,y2 _ _ ha,rs.mono y2,ok,ln,le⟩,λ H3 Δ x3=>⟨_,rfl,cE ⟨_,_,rfl,Δ,y2.trans x3⟩⟩⟩⟩
 ·rintro σ H' ⟨o7,o8,rfl,Lv,x'⟩;exact q o7 o8 H' Lv x'
theorem Gj {σ:St}(sc:Sc K H sA p ns)(s0:σ[0]?=some (some (.ref sA)))(s1:σ[1]?=some (some (.ref p)))(q:∀ H',Sc K H' sA p ns->Ext (wo H p) (wo H' p)->U De σ H'):aZ (IP K) U De σ H:=by
 refine⟨_,s0,_,s1,λ hz=>⟨sA,p,ns,rfl,hz,sc,λ H1 ž x1=>⟨_,rfl,cE ?_⟩⟩⟩;refine⟨_,s0,_,s1,λ hz=>⟨sA,p,ns,rfl,hz,ž,λ H2 Χ x2=>⟨_,rfl,cE ?_⟩⟩⟩;exact q H2 Χ (x1.trans x2)
theorem wW (Z:KM K MC)(Y:KW K MC MS)(Q:KQ K C MC)(sc:Sc K H sA p ns)(q:∀ o3 o4 o5 o6 o7 o8 o9 H',Sc K H' sA p ns->De.nx [some (.ref sA),some (.ref p),o2,o3,o4,o5,o6,o7,o8,o9] H'):Ed K C MC Cs MS CU CN De [some (.ref sA),some (.ref p),o2,o3,o4,o5,o6,o7,o8,o9] H:=by
 refine⟨_,rfl,_,rfl,sA,p,ns,8,rfl,sc,ad,ad,λ c v D zs t H1 ž x1 nD hc ru fl ok hD ra=>⟨c,_,rfl,ĥ.of (ak _ _ _ _ hc),rfl,_,_,rfl,_,_,rfl,rfl,?_⟩⟩;show aZ (KF K) _ _ [some (.ref sA),some (.ref p),o2,some v,some (.ref D),o5,o6,o7,o8,o9] H1;have fk:=wj ok fl;have f20:=Rl.Ĝ ok;refine aN (te:=gE (wa K) [] E0 (ag (ar 0) (ag (ar 1) (ag (gE wC [] E0 (ag (ar 4) aG)) (ag (tC (.bl false)) aG))))) (i:=5) ⟨_,rfl,_,rfl,_,rfl,D,zs,t.bl,rfl,ak _ _ _ _ hD,ra.mono (ak _ _),Eo ok fl,λ H2 x2=>⟨sA,p,ns,_,false,rfl,ž.ext x2,am,λ a xs os H3 Δ x3 n3 ha rs oo lo=>?_⟩⟩;have y3:=(aL x2 p).trans x3;have lf:(os.length:Int)=t.Õ:=by rw [lo];exact fk.symm
 have le:os.length<=20:=am;have Tq:=ru.ext y3;refine aN (te:=aT (BC K MC Cs)) (i:=6) (N0.use dX (EC Δ.bx) ad λ l vs H4 x4 n4 hl lv al=>?_);have w4:=aL x4 p;have Lu:=Δ.ext x4;refine Fk Z Y Q Lu (bc (Δ.bx.ne n4) hl) al (Tq.ext w4) (w4 _ _ ha) (rs.mono w4) oo lf am λ o7 o8 H5 Ny x5=>?_;refine Gj Ny rfl rfl λ H6 OF x6=>?_;have w6:=(w4.trans x5).trans (x6.trans (ak H6 p));refine aN (te:=dy (pk MC) "scores" (λ _=>nX C MC CU CN) E0 (oX MC 2) (ag (ar 3) (ag (ar 5) aG))) (i:=9) (nW λ m H7 x7 me=>?_);have w7:=w6.trans x7;refine gc (ta:=tC (.ref m)) ad ad me (λ R k=>k) ⟨_,rfl,_,rfl,2,_,v,t,a,xs,os,ad,rfl,me,Tq.ext w7,(Rl.sm ok).1,(Rl.sm ok).2,w7 _ _ ha,Gc (rs.mono w7),oo,le,lf.symm,(λ z=>nomatch z),λ _ b H8 x8 n8 h8=>?_,λ i fb=>?_⟩
 ·have w8:=w7.trans x8;refine⟨_,rfl,b,_,rfl,.inl (ó.of h8),_,rfl,a,xs,rfl,.inl (ó.of (w8 _ _ ha)),rfl,_,rfl,?_⟩;have lx:=rs.length;rw [Ä] at lx;have e1:((DW 2 os).map V.int).length=xs.length:=by
   rw [Ä,lx];show(jS os).length=_;unfold jS;rw [Ä]
  rw [e1,Å rfl];refine cE ⟨_,rfl,b,DW 2 os,rfl,ó.of h8,rfl,_,rfl,?_⟩;rw [show(DW 2 os).sum=0 from uZ os,Å rfl];exact cE (q _ _ _ _ _ _ _ H8 (OF.ext (x7.trans x8)))
 ·have:=fb.2;cases this
def pX (K:Frag):Sp:=λ vs H Q _=>∃(a:Addr)(ns:List Int),vs=[.ref a]/\ó K H a (ns.map V.int)/\ns.length<=63/\H sysModules=none/\∀ H',Q (.bl true) H'
theorem A5 (Z:KM K MC)(Y:KW K MC MS)(Q:KQ K C MC){a:Addr}(ha:ó K H a (ns.map V.int))(N_:ns.length<=63)(q:∀ H',De.rt (.bl true) H'):Bx (GT K C MC Cs MS CU CN De [some (.ref a),o1,o2,o3,o4,o5,o6,o7,o8,o9] H):=by
 constructor;refine aN (te:=uV K (ag (tC (.int 0)) (ag (tC (.int 0)) (ag (tC (.int 7)) aG)))) (i:=1) ⟨dA,λ p hp hk=>?_⟩;have np:=ó.neN ha hp hk;have c:Sc K (af H p (.lst [.int 0,.int 0,.int 7])) a p ns:=⟨My.ó.ext ha (Ext.new hp),N_,np,⟨0,0,7,aR,ad,ad,ad,ad⟩⟩;show aZ (Ka K C MC Cs MS CU CN) _ De [some (.ref a),some (.ref p),o2,o3,o4,o5,o6,o7,o8,o9] (af H p (.lst [.int 0,.int 0,.int 7]));generalize af H p (.lst [.int 0,.int 0,.int 7])=H1 at c ⊢;refine⟨2,rfl,ad,ad,kA (lo:=0) (n:=2) (λ i σ H'=>∃ o2 o3 o4 o5 o6 o7 o8 o9,σ=[some (.ref a),some (.ref p),o2,o3,o4,o5,o6,o7,o8,o9]/\Sc K H' a p ns) ⟨_,_,_,_,_,_,_,_,rfl,c⟩ ?_ ?_⟩
 ·rintro i σ H' hi ⟨o2,o3,o4,o5,o6,o7,o8,o9,rfl,h⟩;exact wW Z Y Q h λ o3 o4 o5 o6 o7 o8 o9 H2 h2=>⟨_,_,_,_,_,_,_,_,rfl,h2⟩
 ·rintro σ H3 _;exact q H3
theorem BI (Z:KM K MC)(Y:KW K MC MS)(X:KQ K C MC)(F:ğ K "law" "law" rR f fd)(D:Dl P w K mg base C MC Cs MS CU CN f0 f1 f2 f3 g a1 a2 a3 a4 a5 a6 e0 e1 e2 e3 gd d1 d2 d3 d4 d5 d6):ß P w K mg base ay 13 f fd ["_law_script"] (pX K):=by
 refine F.ok RN (λ vs H Q E h=>?_) (λ cdv A outer s H vs Q E hr h=>?_)
 ·obtain⟨a,ns,rfl,_⟩:=h;rfl
 obtain⟨a,ns,rfl,ha,N_,hz,q⟩:=h;exact iU (vR hz D hr) (A5 Z Y X ha N_ q)
end
section
variable {P:Program}{w:World}{K:Frag}{mg:bv}{base:Heap}{C MC:Nat->Addr}{CU CN f:Addr}{fd:FuncData}(dj:∀ i j,i<4->j<4->MC i=MC j->i=j)
include dj
theorem JC (h:ß P w K mg base ay 1 f fd ["self","outcomes"] (v9 λ os=>os.map (·.1))):ß P w K mg base ay 7 f fd ["self","outcomes"] (kO MC (MC 0)):=by
 refine(h.mono ad).imp λ vs H Q E z=>?_;obtain⟨k,v,a,os,hk,e,rfl,go,q⟩:=z;have ek:=dj 0 k ad hk e;subst ek;obtain⟨xs,ha,oc⟩:=go.ex;exact⟨v,a,xs,os,rfl,ha,oc,go.ln,q⟩
theorem J4 (h:ß P w K mg base ay 1 f fd ["self","outcomes"] (v9 λ os=>os.map λ o=>rk (os.map (·.1)) o.1)):ß P w K mg base ay 7 f fd ["self","outcomes"] (kO MC (MC 1)):=by
 refine(h.mono ad).imp λ vs H Q E z=>?_;obtain⟨k,v,a,os,hk,e,rfl,go,q⟩:=z;have ek:=dj 1 k ad hk e;subst ek;obtain⟨xs,ha,oc⟩:=go.ex;exact⟨v,a,xs,os,rfl,ha,oc,go.ln,q⟩
theorem HY (h:ß P w K mg base ay 6 f fd ["self","outcomes"] (xU K)):ß P w K mg base ay 7 f fd ["self","outcomes"] (kO MC (MC 2)):=by
 refine(h.mono ad).imp λ vs H Q E z=>?_;obtain⟨k,v,a,os,hk,e,rfl,go,q⟩:=z;have ek:=dj 2 k ad hk e;subst ek;obtain⟨xs,ha,oc⟩:=go.ex;exact⟨v,a,xs,os,rfl,ha,oc,go.bd,go.ln,q⟩
theorem IU (h:ß P w K mg base ay 6 f fd ["self","outcomes"] (yP K)):ß P w K mg base ay 7 f fd ["self","outcomes"] (kO MC (MC 3)):=by
 refine(h.mono ad).imp λ vs H Q E z=>?_;obtain⟨k,v,a,os,hk,e,rfl,go,q⟩:=z;have ek:=dj 3 k ad hk e;subst ek;obtain⟨xs,ha,oc⟩:=go.ex;exact⟨v,a,xs,os,rfl,ha,oc,go.bd,go.ln,go.ev rfl,q⟩
theorem IZ (h:ß P w K mg base (cp P w) 4 f fd ["self","rule","outcomes"] (xA CU)):ß P w K mg base (cp P w) 5 f fd ["self","rule","outcomes"] (jx C MC CU CN (MC 0)):=by
 refine(h.mono ad).imp λ vs H Q E z=>?_;obtain⟨k,v,r,t,a,xs,os,hk,e,rfl,ru,l1,l2,ha,oc,q1,q2⟩:=z;have ek:=dj 0 k ad hk e;subst ek;exact⟨v,r,a,xs,os,rfl,ha,oc,q1,q2⟩
theorem Ii (h:ß P w K mg base (cp P w) 4 f fd ["self","rule","outcomes"] (xA CU)):ß P w K mg base (cp P w) 5 f fd ["self","rule","outcomes"] (jx C MC CU CN (MC 1)):=by
 refine(h.mono ad).imp λ vs H Q E z=>?_;obtain⟨k,v,r,t,a,xs,os,hk,e,rfl,ru,l1,l2,ha,oc,q1,q2⟩:=z;have ek:=dj 1 k ad hk e;subst ek;exact⟨v,r,a,xs,os,rfl,ha,oc,q1,q2⟩
theorem HV (h:ß P w K mg base ay 1 f fd ["self","rule","outcomes"] G5):ß P w K mg base (cp P w) 5 f fd ["self","rule","outcomes"] (jx C MC CU CN (MC 2)):=by
 refine(My.ß.Z5 (h.mono (show 1<=5 by decide))).imp λ vs H Q E z=>?_
 obtain⟨k,v,r,t,a,xs,os,hk,e,rfl,ru,l1,l2,ha,oc,q1,q2⟩:=z;have ek:=dj 2 k ad hk e;subst ek;exact⟨v,r,_,rfl,q1 rfl H (Ext.refl _)⟩
theorem Iw (h:ß P w K mg base (cp P w) 4 f fd ["self","rule","outcomes"] (FT C CN)):ß P w K mg base (cp P w) 5 f fd ["self","rule","outcomes"] (jx C MC CU CN (MC 3)):=by
 refine(h.mono ad).imp λ vs H Q E z=>?_;obtain⟨k,v,r,t,a,xs,os,hk,e,rfl,ru,l1,l2,ha,oc,q1,q2⟩:=z;have ek:=dj 3 k ad hk e;subst ek;exact⟨v,r,_,t,rfl,ru,l1,l2,q1,q2⟩
omit dj
theorem wU {c:Addr}(h:ß P w K mg base ay 8 f fd ["self","rule","outcomes"] (tQ MC)):ß P w K mg base ay 8 f fd ["self","rule","outcomes"] (nF MC c):=h.imp λ vs H Q E z=>⟨c,z⟩
end
theorem qg {C:Addr}:∀ l:List String,(l.map Value.type).contains (.ref C)=false
 | []=>rfl
 | n::l=>by
  rw [ô,ï,qg l,Bool.or_false];exact Ù.mpr (λ e=>by cases e)
theorem xS {C:Addr}{n:String}(h:(fastFind? n).isSome=true):(fastBuiltinMro n).map (·.contains (.ref C))=some false:=by
 unfold fastBuiltinMro;cases e:fastFind? n with
 | none=>rw [e] at h;cases h
 | some r=>exact Ğ some (qg r.mro)
theorem fq {K:Frag}{C:Addr}(hc:isClsIn K C=true)(ht:typeIn K (.ref C)=some (.type "type"))(d:PyData):kitOne K (.type (fS d)) (.ref C)=some false:=by
 unfold kitOne;rw [Ø (by intro e;cases ā.mp e)]
 show(if((clsIn K C).isSome&&typeIn K (.ref C)==some (.type "type"))=true then subIn K (.type (fS d)) (.ref C) else none)=_
 have M6:(clsIn K C).isSome=true:=hc;rw [M6,ht];simp only [beq_self_eq_true,Bool.and_self,if_true];show(fastBuiltinMro (fS d)).map (·.contains (.ref C))=some false;refine xS ?_;have a0:(fastFind? "NoneType").isSome=true:=ao;have a1:(fastFind? "bool").isSome=true:=ao;have a2:(fastFind? "int").isSome=true:=ao;have a3:(fastFind? "str").isSome=true:=ao;have a4:(fastFind? "list").isSome=true:=ao;have a5:(fastFind? "tuple").isSome=true:=ao;have a6:(fastFind? "dict").isSome=true:=ao;cases d <;> assumption
theorem vG {K:Frag}{D C f:Addr}{nm:Str}(T:ĳ K D nm C f)(b:Value):mroIn K C b=some ((Value.ref C :: .ref D::Np).contains b):=by
 obtain⟨cd,h1,_,h3⟩:=T.clsIn;unfold mroIn;rw [h1,χ,h3];rfl
theorem gQ {K:Frag}{D C f:Addr}{nm:Str}(T:ĳ K D nm C f){n:String}{b:Bool}(hm:kitMeta n=true)(hb:Np.contains (.type n)=b):kitOne K (.ref C) (.type n)=some b:=by
 unfold kitOne;rw [Ø (by intro e;cases ā.mp e)]
 show(if kitMeta n=true then subIn K (.ref C) (.type n) else none)=_
 rw [à hm];show mroIn K C _=_;rw [vG T,ï,ï,hb];rfl
theorem Co {K:Frag}{D C f C' f':Addr}{nm NR:Str}(T:ĳ K D nm C f)(T':ĳ K D NR C' f')(ne:C'≠C)(nd:C'≠D):kitOne K (.ref C) (.ref C')=some false:=by
 unfold kitOne;rw [Ø (by intro e;exact ne (Œ (ā.mp e)).symm)]
 show(if((clsIn K C').isSome&&typeIn K (.ref C')==some (.type "type"))=true then subIn K (.ref C) (.ref C') else none)=_
 obtain⟨cd,h1,_⟩:=T'.clsIn;rw [h1,T'.type];simp only [Option.isSome_some,beq_self_eq_true,Bool.and_self,if_true];show mroIn K C _=_;rw [vG T,ï,ï];have n1:(Value.ref C'==Value.ref C)=false:=Ù.mpr λ z=>ne (Œ z);have n2:(Value.ref C'==Value.ref D)=false:=Ù.mpr λ z=>nd (Œ z);rw [n1,n2];rfl
theorem sP {K:Frag}{D C f:Addr}{nm:Str}(T:ĳ K D nm C f)(B:Į K D):C≠D:=by
 intro e;obtain⟨q,N,bs,sn,sub,ab,col,dd,k0,k1,k2,k3,k5,l⟩:=T.cls;obtain⟨NR,q',N',Wa,Uk,QI,Wb,Q8,Rr,Vi,Ss,Vg,Vf,Ve,l',_⟩:=B.cls;rw [e,l'] at l;have z:=Û l;injection z with _ _ z _
 injection z with z
 injection z with _ _ z
 cases z
theorem mJ {K:Frag}{D C f C' f':Addr}{nm NR:Str}(T:ĳ K D nm C f)(T':ĳ K D NR C' f')(h:nm≠NR):C'≠C:=by
 intro e;obtain⟨q,N,bs,sn,sub,ab,col,dd,k0,k1,k2,k3,k5,l⟩:=T.cls;obtain⟨q',N',Wa,Uk,QI,Wb,Q8,Rr,Vi,Ss,Vg,Vf,Ve,l'⟩:=T'.cls;rw [e,l] at l';have z:=Û l';injection z with _ _ z _
 injection z with z
 injection z with z
 exact h z
theorem tf {K:Frag}{D:Addr}(B:Į K D):typeIn K (.ref D)=some (.type "type"):=by
 obtain⟨NR,q',N',Wa,Uk,QI,Wb,Q8,Rr,Vi,Ss,Vg,Vf,Ve,l',_⟩:=B.cls;show(List.lookup D K).map (·.cls)=_;rw [l'];rfl
theorem wO {K:Frag}{D:Addr}(B:Į K D):∃ cd,clsIn K D=some cd:=by
 obtain⟨NR,q',N',Wa,Uk,QI,Wb,Q8,Rr,Vi,Ss,Vg,Vf,Ve,l',_⟩:=B.cls;unfold clsIn;rw [l'];exact⟨_,rfl⟩
abbrev BP (nm qn:Str)(st:Stmt)(ps:List Str):Prop:=∀(kV doc pm:Value)(an:Option Addr)(cdv ct:Value)(us:List Value),us.length=ps.length->bindArgs (PySem.W.fnOf nm qn (dB st) (aH st) (aa st) .none kV doc pm an cdv ct) ⟨us,[]⟩=pure (ps.zip us)
abbrev BQ (nm qn:Str)(st:Stmt)(ps:List Str)(us:List Value):Prop:=∀(kV doc pm:Value)(an:Option Addr)(cdv ct:Value),bindArgs (PySem.W.fnOf nm qn (dB st) (aH st) (aa st) .none kV doc pm an cdv ct) ⟨us,[]⟩=pure (ps.zip us)
theorem b1 {nm qn a:Str}{st:Stmt}(h:∀ u,BQ nm qn st [a] [u]:=by exact λ _ _ _ _ _ _ _=>rfl):BP nm qn st [a]:=λ _ _ _ _ _ _ us hl=>match us,hl with | [_],_=>h _ _ _ _ _ _ _
theorem b2 {nm qn a b:Str}{st:Stmt}(h:∀ u v,BQ nm qn st [a,b] [u,v]:=by exact λ _ _ _ _ _ _ _ _=>rfl):BP nm qn st [a,b]:=λ _ _ _ _ _ _ us hl=>match us,hl with | [_,_],_=>h _ _ _ _ _ _ _ _
theorem b3 {nm qn a b c:Str}{st:Stmt}(h:∀ u v w,BQ nm qn st [a,b,c] [u,v,w]:=by exact λ _ _ _ _ _ _ _ _ _=>rfl):BP nm qn st [a,b,c]:=λ _ _ _ _ _ _ us hl=>match us,hl with | [_,_,_],_=>h _ _ _ _ _ _ _ _ _
theorem b4 {nm qn a b c d:Str}{st:Stmt}(h:∀ u v w x,BQ nm qn st [a,b,c,d] [u,v,w,x]:=by exact λ _ _ _ _ _ _ _ _ _ _=>rfl):BP nm qn st [a,b,c,d]:=λ _ _ _ _ _ _ us hl=>match us,hl with | [_,_,_,_],_=>h _ _ _ _ _ _ _ _ _ _
theorem b5 {nm qn a b c d e:Str}{st:Stmt}(h:∀ u v w x y,BQ nm qn st [a,b,c,d,e] [u,v,w,x,y]:=by exact λ _ _ _ _ _ _ _ _ _ _ _=>rfl):BP nm qn st [a,b,c,d,e]:=λ _ _ _ _ _ _ us hl=>match us,hl with | [_,_,_,_,_],_=>h _ _ _ _ _ _ _ _ _ _ _
abbrev OQ (K:Frag)(mg:bv)(D:Addr)(nm fl:Str)(C f:Addr)(fd:FuncData):Prop:=Į K D->mg "DealError" = some (.ref D)->iI K mg D nm fl C f fd
theorem jY {K:Frag}{mg:bv}{D C f:Addr}{fd:FuncData}{nm qn fl txt:Str}{st:Stmt}(T:ĳ K D nm C f)(mC:mg nm=some (.ref C))(F:ğ K "__init__" qn st f fd)(tk:takerIn K C fl=some none)(S:ae ["self",fl] ["self",fl] (aa st))(hb:BP "__init__" qn st ["self",fl])
  (NY:Į K D->mg "DealError" = some (.ref D)->∀(P:Program)(w:World)(base:Heap)(cdv:Value)(A:Around)(outer:List Env)(s:Shared)(H:Hp)(E:XK),Ų (br ay P w K mg base ["self",fl] qn (aa st) f cdv A outer s H E).Ŝ (aH st) (aZ (iM (Ku (ar 0) (tC (.str txt)) C)) (Ea K C (ar 0) (ar 1) fl))):OQ K mg D nm fl C f fd:=by
 refine λ B mD=>⟨T,mC,λ P w base=>?_,F.binds hb⟩;refine F.ok S (λ vs H Q E h=>?_) (λ cdv A outer s H vs Q E hr h=>?_)
 ·obtain⟨x,v,rfl,_⟩:=h;rfl
 obtain⟨x,v,rfl,hx,q⟩:=h;exact⟨_,NY B mD P w base cdv A outer s H E,_,rfl,x,rfl,hx,_,rfl,_,rfl,x,rfl,hx,tk,q⟩
abbrev Em:Stmt:=aE (cr 3) 0
theorem of3 {K:Frag}{mg:bv}{D C f:Addr}{fd:FuncData}(T:ĳ K D "NoShare" C f)(mC:mg "NoShare" = some (.ref C))(F:ğ K "__init__" "NoShare.__init__" Em f fd)(tk:takerIn K C "found" = some none):OQ K mg D "NoShare" "found" C f fd :=
 jY T mC F tk aO b2 λ B mD _ _ _ _ _ _ _ _ _=>cL (ax (bI B T rfl mD (pv 0) av)) (bj (eR T (pv 0) (pv 1) rfl))
abbrev FI:Stmt:=aE (cr 4) 0
theorem of4 {K:Frag}{mg:bv}{D C f:Addr}{fd:FuncData}(T:ĳ K D "NoNumber" C f)(mC:mg "NoNumber" = some (.ref C))(F:ğ K "__init__" "NoNumber.__init__" FI f fd)(tk:takerIn K C "found" = some none):OQ K mg D "NoNumber" "found" C f fd :=
 jY T mC F tk aO b2 λ B mD _ _ _ _ _ _ _ _ _=>cL (ax (bI B T rfl mD (pv 0) av)) (bj (eR T (pv 0) (pv 1) rfl))
abbrev E4:Stmt:=aE (cr 5) 0
theorem of5 {K:Frag}{mg:bv}{D C f:Addr}{fd:FuncData}(T:ĳ K D "NoFolk" C f)(mC:mg "NoFolk" = some (.ref C))(F:ğ K "__init__" "NoFolk.__init__" E4 f fd)(tk:takerIn K C "found" = some none):OQ K mg D "NoFolk" "found" C f fd :=
 jY T mC F tk aO b2 λ B mD _ _ _ _ _ _ _ _ _=>cL (ax (bI B T rfl mD (pv 0) av)) (bj (eR T (pv 0) (pv 1) rfl))
abbrev Fb:Stmt:=aE (cr 6) 0
theorem of6 {K:Frag}{mg:bv}{D C f:Addr}{fd:FuncData}(T:ĳ K D "NoWeights" C f)(mC:mg "NoWeights" = some (.ref C))(F:ğ K "__init__" "NoWeights.__init__" Fb f fd)(tk:takerIn K C "found" = some none):OQ K mg D "NoWeights" "found" C f fd :=
 jY T mC F tk aO b2 λ B mD _ _ _ _ _ _ _ _ _=>cL (ax (bI B T rfl mD (pv 0) av)) (bj (eR T (pv 0) (pv 1) rfl))
abbrev Ho:Stmt:=aE (cr 7) 0
theorem of7 {K:Frag}{mg:bv}{D C f:Addr}{fd:FuncData}(T:ĳ K D "NoDealing" C f)(mC:mg "NoDealing" = some (.ref C))(F:ğ K "__init__" "NoDealing.__init__" Ho f fd)(tk:takerIn K C "found" = some none):OQ K mg D "NoDealing" "found" C f fd :=
 jY T mC F tk aO b2 λ B mD _ _ _ _ _ _ _ _ _=>cL (ax (bI B T rfl mD (pv 0) av)) (bj (eR T (pv 0) (pv 1) rfl))
abbrev D1:Stmt:=aE (cr 8) 0
theorem of8 {K:Frag}{mg:bv}{D C f:Addr}{fd:FuncData}(T:ĳ K D "NoTrials" C f)(mC:mg "NoTrials" = some (.ref C))(F:ğ K "__init__" "NoTrials.__init__" D1 f fd)(tk:takerIn K C "found" = some none):OQ K mg D "NoTrials" "found" C f fd :=
 jY T mC F tk aO b2 λ B mD _ _ _ _ _ _ _ _ _=>cL (ax (bI B T rfl mD (pv 0) av)) (bj (eR T (pv 0) (pv 1) rfl))
abbrev Fx:Stmt:=aE (cr 9) 0
theorem of9 {K:Frag}{mg:bv}{D C f:Addr}{fd:FuncData}(T:ĳ K D "NoOutcome" C f)(mC:mg "NoOutcome" = some (.ref C))(F:ğ K "__init__" "NoOutcome.__init__" Fx f fd)(tk:takerIn K C "place" = some none):OQ K mg D "NoOutcome" "place" C f fd :=
 jY T mC F tk aO b2 λ B mD _ _ _ _ _ _ _ _ _=>cL (ax (bI B T rfl mD (pv 0) av)) (bj (eR T (pv 0) (pv 1) rfl))
abbrev zJ:Stmt:=aE (cr 10) 0
theorem UF {K:Frag}{mg:bv}{D C f:Addr}{fd:FuncData}(T:ĳ K D "NotSure" C f)(mC:mg "NotSure" = some (.ref C))(F:ğ K "__init__" "NotSure.__init__" zJ f fd)(tk:takerIn K C "place" = some none):OQ K mg D "NotSure" "place" C f fd :=
 jY T mC F tk aO b2 λ B mD _ _ _ _ _ _ _ _ _=>cL (ax (bI B T rfl mD (pv 0) av)) (bj (eR T (pv 0) (pv 1) rfl))
abbrev Ci:Stmt:=aE (cr 11) 0
theorem UE {K:Frag}{mg:bv}{D C f:Addr}{fd:FuncData}(T:ĳ K D "NoPairs" C f)(mC:mg "NoPairs" = some (.ref C))(F:ğ K "__init__" "NoPairs.__init__" Ci f fd)(tk:takerIn K C "block" = some none):OQ K mg D "NoPairs" "block" C f fd :=
 jY T mC F tk aO b2 λ B mD _ _ _ _ _ _ _ _ _=>cL (ax (bI B T rfl mD (pv 0) av)) (bj (eR T (pv 0) (pv 1) rfl))
abbrev Ad:Stmt:=aE (cr 12) 0
theorem UD {K:Frag}{mg:bv}{D C f:Addr}{fd:FuncData}(T:ĳ K D "TooMany" C f)(mC:mg "TooMany" = some (.ref C))(F:ğ K "__init__" "TooMany.__init__" Ad f fd)(tk:takerIn K C "many" = some none):OQ K mg D "TooMany" "many" C f fd :=
 jY T mC F tk aO b2 λ B mD _ _ _ _ _ _ _ _ _=>cL (ax (bI B T rfl mD (pv 0) av)) (bj (eR T (pv 0) (pv 1) rfl))
theorem gH {K:Frag}{D C f:Addr}{nm fld:Str}(T:ĳ K D nm C f)(nf:findIn K (.ref C) fld=some none):yh K C fld:=by
 obtain⟨cd,h1,h2,h3⟩:=T.clsIn;refine⟨T.it,?_,nf⟩;unfold hasDictIn;rw [h1];exact h2
theorem gI {K:Frag}{D C f:Addr}{nm:Str}(T:ĳ K D nm C f):fg K C:=by
 obtain⟨cd,h1,h2,h3⟩:=T.clsIn;exact⟨⟨cd,h1⟩,T.type,T.it.mb⟩
theorem uP {K:Frag}{D:Addr}(B:Į K D):fg K D:=⟨wO B,tf B,B.it.mb⟩
theorem dU {K:Frag}{D C f:Addr}{nm:Str}(T:ĳ K D nm C f):mroIn K C (.ref C)=some true:=by
 rw [vG T,ï,Ĩ];rfl
theorem aK {K:Frag}{D C f C' f':Addr}{nm NR:Str}(B:Į K D)(T:ĳ K D nm C f)(T':ĳ K D NR C' f')(h:nm≠NR):mroIn K C (.ref C')=some false:=by
 have ne:=mJ T T' h;have nd:=sP T' B;rw [vG T,ï,ï];have n1:(Value.ref C'==Value.ref C)=false:=Ù.mpr λ z=>ne (Œ z);have n2:(Value.ref C'==Value.ref D)=false:=Ù.mpr λ z=>nd (Œ z);rw [n1,n2];rfl
theorem aJ {K:Frag}{D C f C' f':Addr}{nm NR:Str}(B:Į K D)(T:ĳ K D nm C f)(T':ĳ K D NR C' f')(h:nm≠NR):kitOne K (.ref C) (.ref C')=some false:=Co T T' (mJ T T' h) (sP T' B)
theorem bB {K:Frag}{C:Addr}{n:String}{b:Bool}(hm:kitMeta n=true)(h:mroIn K C (.type n)=some b):kitOne K (.ref C) (.type n)=some b:=by
 unfold kitOne;rw [Ø (by intro e;cases ā.mp e)]
 show(if kitMeta n=true then subIn K (.ref C) (.type n) else none)=_
 rw [à hm];exact h
theorem aj {K:Frag}{C C':Addr}{b:Bool}(hc:isClsIn K C'=true)(ht:typeIn K (.ref C')=some (.type "type"))(hs:mroIn K C' (.ref C')=some true)(hm:mroIn K C (.ref C')=some b):kitOne K (.ref C) (.ref C')=some b:=by
 unfold kitOne;by_cases e:C=C'
 ·subst e;rw [hs] at hm;cases hm;rw [à (Ĩ _)]
 ·rw [Ø (by intro z;exact e (Œ (ā.mp z)))]
  show(if((clsIn K C').isSome&&typeIn K (.ref C')==some (.type "type"))=true then subIn K (.ref C) (.ref C') else none)=_
  have M6:(clsIn K C').isSome=true:=hc;rw [M6,ht];simp only [beq_self_eq_true,Bool.and_self,if_true];exact hm
theorem dJ {K:Frag}{C C':Addr}(hs:mroIn K C' (.ref C')=some true)(hm:mroIn K C (.ref C')=some false):C≠C':=λ e=>by
 subst e;rw [hs] at hm;cases hm
structure Dm (K:Frag)(nm qual:Str)(st:Stmt)(ps:List Str)(f:Addr)(fd:FuncData):Prop where
 fn:ğ K nm qual st f fd
 bi:Binds K fd ps []
 kp:keepIn K (.ref f)=true
 Ŕ:isFn K (.ref f)=true
def zK:Value->Bool
 | .str _ _=>true
 | _=>false
theorem Nf {es:Array DictEntry}(h:(es.toList.all λ e=>zK e.key)=true):StrKeys es:=λ e he=>by
 have z:=ě.mp h e (by simpa using he)
 cases k:e.key with
 | str n t=>exact⟨n,t,rfl⟩
 | _=>rw [k] at z;cases z
theorem lK {K:Frag}{C:Addr}{cd:ClassData}{b:Value}(h:clsIn K C=some cd)(hb:cd.mro.isEmpty=false)(hc:cd.mro.contains b=true):mroIn K C b=some true:=by
 unfold mroIn;rw [h,χ,hb,hc];rfl
theorem P0 {K:Frag}{D N:Addr}{nm q:Str}{bs:List Value}{sn:List Str}{sub:List Value}{ab:Bool}{col:Option Bool}{dd:Option Addr}{k0 k1 k2 k3 k5:Option Value}
  {cN:Value}{dN:Option Addr}{es:Array DictEntry}{ep:Nat}{sN:Array (Option Value)}
  (lD:K.lookup D=some (excClassObj nm q D N bs Np true sn sub ab col dd k0 k1 k2 k3 k5 "ValueError.__new__"))
  (lN:K.lookup N=some ⟨cN,dN,.dict es ep,sN⟩)(sk:StrKeys es)(ni:nsFind es "__init__" = none)
  (ga:specialIn K (.ref D) "__getattribute__" = some (some (.builtin "type.__getattribute__")))(rd:readsIn K D (.type "type")=true)
  (Sx:findCls K (.ref D) (.type "type") "__init__" = some (.val (.builtin "ValueError.__init__")))(fi:findIn K (.ref D) "__init__" = some (some (.builtin "ValueError.__init__")))(kp:keepIn K (.ref D)=true)
  (gb:findIn K (.ref D) "__getattribute__" = some (some (.builtin pQ)))(hk:findIn K (.ref D) "__getattr__" = some none)(ca:findIn K (.ref D) "__class__" = some (some (.builtin "object.__class__"))):Į K D:=by
 have hc:clsIn K D=some { name:=nm,bases:=bs,mro:=.ref D::Np,ns:=N,qualname:=q,hasDict:=true,slotNames:=sn,subclasses:=sub,abstract:=ab,collection:=col,hasDel:=false }:=by
  unfold clsIn;rw [lD]
 refine⟨⟨nm,q,N,bs,sn,sub,ab,col,dd,k0,k1,k2,k3,k5,lD,_,es,ep,lN,rfl,sk,ni⟩,ga,rd,Sx,fi,kp,⟨by rw [hc];rfl,gb,hk,lK hc rfl ?_,lK hc rfl ?_,ca⟩⟩
 ·show(Value.ref D::Np).contains (.type "BaseException")=true;rw [ï];rfl
 ·show(Value.ref D::Np).contains (.type "object")=true;rw [ï];rfl
theorem Ŵ {K:Frag}{D C N f:Addr}(nm:Str)
  {q:Str}{bs:List Value}{sn:List Str}{sub:List Value}{ab:Bool}{col:Option Bool}{dd:Option Addr}{k0 k1 k2 k3 k5:Option Value}
  (lC:K.lookup C=some (excClassObj nm q C N bs (.ref D::Np) true sn sub ab col dd k0 k1 k2 k3 k5 "ValueError.__new__"))
  (Sx:findIn K (.ref C) "__init__" = some (some (.ref f)))(fn:typeIn K (.ref f)=some (.type "function"))(kp:keepIn K (.ref C)=true)
  (sa:findIn K (.ref C) "__setattr__" = some (some (.builtin "object.__setattr__")))(ga:findIn K (.ref C) "__getattribute__" = some (some (.builtin pQ)))(hk:findIn K (.ref C) "__getattr__" = some none)
  (ca:findIn K (.ref C) "__class__" = some (some (.builtin "object.__class__"))):ĳ K D nm C f:=by
 have hc:clsIn K C=some { name:=nm,bases:=bs,mro:=.ref C :: .ref D::Np,ns:=N,qualname:=q,hasDict:=true,slotNames:=sn,subclasses:=sub,abstract:=ab,collection:=col,hasDel:=false }:=by
  unfold clsIn;rw [lC]
 refine⟨⟨q,N,bs,sn,sub,ab,col,dd,k0,k1,k2,k3,k5,lC⟩,Sx,fn,kp,sa,⟨by rw [hc];rfl,ga,hk,lK hc rfl ?_,lK hc rfl ?_,ca⟩⟩
 ·show(Value.ref C :: .ref D::Np).contains (.type "BaseException")=true;rw [ï,ï];rfl
 ·show(Value.ref C :: .ref D::Np).contains (.type "object")=true;rw [ï,ï];rfl
structure Dn (K:Frag)(mg:bv)(nm:Str)(st:Stmt)(ps:List Str)(f:Addr)(fd:FuncData):Prop where
 fn:ğ K nm nm st f fd
 bi:Binds K fd ps []
 kp:keepIn K (.ref f)=true
 mg:mg nm=some (.ref f)
section
variable {P:Program}{w:World}{K:Frag}{mg:bv}{base:Heap}
theorem Dn.df {nm:Str}{st:Stmt}{ps:List Str}{f:Addr}{fd:FuncData}(d:Dn K mg nm st ps f fd){cx:jv}{k:Nat}{sp:Sp}(h:ß P w K mg base cx k f fd ps sp):Df P w K mg base cx k nm ps sp f fd:=⟨h,d.bi,d.kp,d.mg⟩
end
def bE (a b c d e:Addr):Nat->Addr
 | 0=>a
 | 1=>b
 | 2=>c
 | 3=>d
 | _=>e
def gA (a b c d e f g:Addr):Nat->Addr
 | 0=>a
 | 1=>b
 | 2=>c
 | 3=>d
 | 4=>e
 | 5=>f
 | _=>g
theorem dW {K:Frag}{v:Value}:kitOne K v v=some true:=by
 unfold kitOne;rw [à (Ĩ _)]
structure Cf (K:Frag)(C:Addr):Prop where
 cls:N1 K C
 Pj:makesIn K C=true
 kp:keepIn K (.ref C)=true
 ca:findIn K (.ref C) "__class__" = some (some (.builtin "object.__class__"))
 hm:mroIn K C (.type "object")=some true
 ň:isClsIn K C=true
 Ň:typeIn K (.ref C)=some (.type "type")
theorem SU {K:Frag}{C:Addr}(h1:plainGet K C Str.empty=true)(h2:hasDictIn K C=true)(h3:plainOver K C=true)(h4:findIn K (.ref C) "__setattr__" = some (some (.builtin "object.__setattr__")))(h5:makesIn K C=true)(h6:keepIn K (.ref C)=true)(h7:findIn K (.ref C) "__class__" = some (some (.builtin "object.__class__")))(h8:mroIn K C (.type "object")=some true)(h9:isClsIn K C=true)(h0:typeIn K (.ref C)=some (.type "type")):Cf K C:=⟨⟨h1,h2,h3,h4⟩,h5,h6,h7,h8,h9,h0⟩
def Nt (K:Frag)(C:Addr):List Str->Prop
 | []=>True
 | f::l=>findIn K (.ref C) f=some none/\Nt K C l
theorem noS {K:Frag}{C:Addr}{f:Str}{l:List Str}(h:findIn K (.ref C) f=some none)(t:Nt K C l):Nt K C (f::l):=⟨h,t⟩
theorem Nt.all {K:Frag}{C:Addr}:∀{l:List Str},Nt K C l->∀ f∈l,ŵ K C f
 | _::_,h,f,hf=>by
  rcases ç.mp hf with rfl | hf
  ·exact h.1
  ·exact h.2.all f hf
def mk (K:Frag)(C:Addr):List (Value × Bool)->Prop
 | []=>True
 | x::l=>mroIn K C x.1=some x.2/\mk K C l
theorem mrS {K:Frag}{C:Addr}{v:Value}{b:Bool}{l:List (Value × Bool)}(h:mroIn K C v=some b)(t:mk K C l):mk K C ((v,b)::l):=⟨h,t⟩
theorem Č {nm:Str}{st:Stmt}{ps:List Str}(hb:BP nm nm st ps){K:Frag}{h:Heap}{mg:bv}{g:Addr}{oc kV dc pm cd ct:Value}{od an:Option Addr}{sl:Array (Option Value)}(X:K.In h)(G:h.Ns mainGlobals mg)
  (a:nsIn K mainGlobals nm=some (some (.ref g)))(l:K.lookup g=some ⟨oc,od,.func (fnOf nm nm (dB st) (aH st) (aa st) .none kV dc pm an cd ct),sl⟩)(c:codeIn K cd nm=true)(k:keepIn K (.ref g)=true) :
  Dn K mg nm st ps g (fnOf nm nm (dB st) (aH st) (aa st) .none kV dc pm an cd ct):=by
 have F:=Š (st:=st) l c k;exact⟨F,F.binds hb,k,Ŭ X G a⟩
theorem Ģ {nm qn:Str}{st:Stmt}{ps:List Str}(hb:BP nm qn st ps){K:Frag}{g:Addr}{oc kV dc pm cd ct:Value}{od an:Option Addr}{sl:Array (Option Value)}
  (l:K.lookup g=some ⟨oc,od,.func (fnOf nm qn (dB st) (aH st) (aa st) .none kV dc pm an cd ct),sl⟩)(c:codeIn K cd qn=true)(k:keepIn K (.ref g)=true)(f:isFn K (.ref g)=true) :
  Dm K nm qn st ps g (fnOf nm qn (dB st) (aH st) (aa st) .none kV dc pm an cd ct):=by
 have F:=Š (st:=st) l c k;exact⟨F,F.binds hb,k,f⟩
abbrev G3:List (Value × Bool):=[(.type "tuple",false),(.type "list",false),(.type "int",false),(.type "bool",false)]
theorem all_mk {l:OpenLaw}{w:World}{K:Frag}{h:Heap}{mg:bv} {fa D Wi fE3 Wh fE4 Oi fE5 Oh fE6 Og fE7 N2 fE8 Of fE9 ε V8 Φ V7 Rf V6 g0 g1 g2 g3 g4 g5 g6 g7 g8 g9 g10 g11 g12 g13 g14 g15 g16 g17 g18 g19 g20 g21 g22 g23 g24 g25 g26 g27 g28 g29 g30 g31 g32 g33 TL g35 g36 g37 g38 m0 m1 m2 m3 m4 m5 m6 m7 m8 m9 U9 U8 U7 PJ Nj U6 PH Sn U5 UZ Sl UY UX Sk UW Sj UV UU Si R MS C0 C1 C2 C3 C4 U0 U1 U2 U3 U4:Addr} {d0 d1 d2 d3 d4 d5 d6 d7 d8 d9 d10 d11 d12 d13 d14 d15 d16 d17 d18 d19 d20 d21 d22 d23 d24 d25 d26 d27 d28 d29 d30 d31 d32 d33 d34 d35 d36 d37 X0 x0 x1 x2 x3 x4 x5 x6 x7 x8 x9 QD Uf ν Nw Pg WF Rz Ue WE WD Ud WC WB N5 WA Uc Wz Wy Ub Z1 Z0 ZZ ZY ZX ZW ZV T_ T9 T8:FuncData}(X:K.In h)(G:h.Ns mainGlobals mg)(hfa:mg "law" = some (.ref fa))
  {MW Ml Nd Mj LW Ls LV Lq LU:Tok}
  (B:Į K D)(q3:OQ K mg D "NoShare" "found" Wi fE3 Z1)(q4:OQ K mg D "NoNumber" "found" Wh fE4 Z0)(q5:OQ K mg D "NoFolk" "found" Oi fE5 ZZ)(q6:OQ K mg D "NoWeights" "found" Oh fE6 ZY)(q7:OQ K mg D "NoDealing" "found" Og fE7 ZX)(q8:OQ K mg D "NoTrials" "found" N2 fE8 ZW)(q9:OQ K mg D "NoOutcome" "place" Of fE9 ZV)(q10:OQ K mg D "NotSure" "place" ε V8 T_)(q11:OQ K mg D "NoPairs" "block" Φ V7 T9)(q12:OQ K mg D "TooMany" "many" Rf V6 T8)
  (aD:nsIn K mainGlobals "DealError" = some (some (.ref D)))
  (UQ:nsIn K mainGlobals "Rule" = some (some (.ref R)))
  (Zs:specialIn K (.ref R) "__getattribute__" = some (some (.builtin "type.__getattribute__")))
  (Zr:readsIn K R (.type "type")=true)
  (Zp:findCls K (.ref R) (.type "type") "__init__" = some (.val (.ref m0)))
  (OR:isClsIn K R=true)
  (OB:typeIn K (.ref R)=some (.type "type"))
  (OD:mroIn K R (.ref R)=some true)
  (Zo:nsIn K mainGlobals "Measure" = some (some (.ref MS)))
  (Ws:specialIn K (.ref MS) "__getattribute__" = some (some (.builtin "type.__getattribute__")))
  (Wr:readsIn K MS (.type "type")=true)
  (Zn:findCls K (.ref MS) (.type "type") "__init__" = some (.val (.ref U8)))
  (Zl:findCls K (.ref MS) (.type "type") "told" = some (.val (.ref U7)))
  (Rv:isClsIn K MS=true)
  (Rt:typeIn K (.ref MS)=some (.type "type"))
  (Rs:mroIn K MS (.ref MS)=some true)
  (Zj:nsIn K mainGlobals "Split" = some (some (.ref C0)))
  (J_:Cf K C0)
  (Zi:Nt K C0 fO)
  (Zh:findIn K (.ref C0) "__init__" = some (some (.ref m5)))
  (Zg:findIn K (.ref C0) "folk" = some (some (.ref m1)))
  (Zf:findIn K (.ref C0) "begin" = some (some (.ref m2)))
  (Ze:findIn K (.ref C0) "told" = some (some (.ref m3)))
  (Zd:findIn K (.ref C0) "blocks" = some (some (.ref m4)))
  (ML:mk K C0 [(.ref C0,true),(.ref C1,false),(.ref C2,false),(.ref C3,false),(.ref C4,false),(.ref R,true),(.ref U0,false),(.ref U1,false),(.ref U2,false),(.ref U3,false),(.ref U4,false)])
  (SW:mk K C0 G3)
  (Zb:nsIn K mainGlobals "Pairs" = some (some (.ref C1)))
  (Mh:Cf K C1)
  (Za:Nt K C1 fO)
  (Y_:findIn K (.ref C1) "__init__" = some (some (.ref m6)))
  (Y':findIn K (.ref C1) "folk" = some (some (.ref m1)))
  (ZL:findIn K (.ref C1) "begin" = some (some (.ref m2)))
  (ZK:findIn K (.ref C1) "told" = some (some (.ref m3)))
  (ZJ:findIn K (.ref C1) "blocks" = some (some (.ref m4)))
  (Ox:mk K C1 [(.ref C0,false),(.ref C1,true),(.ref C2,false),(.ref C3,false),(.ref C4,false),(.ref R,true)])
  (SZ:mk K C1 G3)
  (ZI:nsIn K mainGlobals "Coins" = some (some (.ref C2)))
  (Mi:Cf K C2)
  (ZH:Nt K C2 fO)
  (ZG:findIn K (.ref C2) "__init__" = some (some (.ref m7)))
  (ZF:findIn K (.ref C2) "folk" = some (some (.ref m1)))
  (ZE:findIn K (.ref C2) "begin" = some (some (.ref m2)))
  (ZD:findIn K (.ref C2) "told" = some (some (.ref m3)))
  (ZC:findIn K (.ref C2) "blocks" = some (some (.ref m4)))
  (Ow:mk K C2 [(.ref C0,false),(.ref C1,false),(.ref C2,true),(.ref C3,false),(.ref C4,false),(.ref R,true)])
  (SY:mk K C2 G3)
  (ZB:nsIn K mainGlobals "Blocks" = some (some (.ref C3)))
  (L':Cf K C3)
  (ZA:Nt K C3 fO)
  (Zz:findIn K (.ref C3) "__init__" = some (some (.ref m8)))
  (Zy:findIn K (.ref C3) "folk" = some (some (.ref m1)))
  (Zx:findIn K (.ref C3) "begin" = some (some (.ref m2)))
  (Zv:findIn K (.ref C3) "told" = some (some (.ref m3)))
  (Zu:findIn K (.ref C3) "blocks" = some (some (.ref m4)))
  (Zt:findIn K (.ref C3) "state_ahead" = some (some (.ref U9)))
  (Ov:mk K C3 [(.ref C0,false),(.ref C1,false),(.ref C2,false),(.ref C3,true),(.ref C4,false),(.ref R,true)])
  (SX:mk K C3 G3)
  (ZS:nsIn K mainGlobals "First" = some (some (.ref C4)))
  (LR:Cf K C4)
  (ZR:Nt K C4 fO)
  (ZQ:findIn K (.ref C4) "__init__" = some (some (.ref m9)))
  (ZP:findIn K (.ref C4) "folk" = some (some (.ref m1)))
  (ZO:findIn K (.ref C4) "begin" = some (some (.ref m2)))
  (ZN:findIn K (.ref C4) "told" = some (some (.ref m3)))
  (ZM:findIn K (.ref C4) "blocks" = some (some (.ref m4)))
  (Oy:mk K C4 [(.ref C0,false),(.ref C1,false),(.ref C2,false),(.ref C3,false),(.ref C4,true),(.ref R,true)])
  (S0:mk K C4 G3)
  (YE:nsIn K mainGlobals "Sum" = some (some (.ref U0)))
  (w_:Cf K U0)
  (YD:Nt K U0 ["mark"])
  (YC:findIn K (.ref U0) "__init__" = some (some (.ref Sn)))
  (YB:findIn K (.ref U0) "told" = some (some (.ref PJ)))
  (Wp:findIn K (.ref U0) "scores" = some (some (.ref Nj)))
  (YA:findIn K (.ref U0) "need_fit" = some (some (.ref U5)))
  (Yz:findIn K (.ref U0) "scored" = some (some (.ref PH)))
  (Yy:findIn K (.ref U0) "among" = some (some (.ref UZ)))
  (MI:mk K U0 [(.ref U0,true),(.ref U1,false),(.ref U2,false),(.ref U3,false),(.ref MS,true),(.ref U4,false)])
  (Yx:nsIn K mainGlobals "Ranks" = some (some (.ref U1)))
  (v_:Cf K U1)
  (Yw:Nt K U1 ["mark"])
  (Yv:findIn K (.ref U1) "__init__" = some (some (.ref Sl)))
  (Yu:findIn K (.ref U1) "told" = some (some (.ref PJ)))
  (Wl:findIn K (.ref U1) "scores" = some (some (.ref Nj)))
  (Yt:findIn K (.ref U1) "need_fit" = some (some (.ref UY)))
  (Ys:findIn K (.ref U1) "scored" = some (some (.ref PH)))
  (Yr:findIn K (.ref U1) "among" = some (some (.ref UX)))
  (MH:mk K U1 [(.ref U0,false),(.ref U1,true),(.ref U2,false),(.ref U3,false),(.ref MS,true),(.ref U4,false)])
  (Yq:nsIn K mainGlobals "Wins" = some (some (.ref U2)))
  (u_:Cf K U2)
  (Yp:Nt K U2 ["mark"])
  (Yo:findIn K (.ref U2) "__init__" = some (some (.ref Sk)))
  (Yn:findIn K (.ref U2) "told" = some (some (.ref PJ)))
  (Wk:findIn K (.ref U2) "scores" = some (some (.ref Nj)))
  (YZ:findIn K (.ref U2) "need_fit" = some (some (.ref U6)))
  (YY:findIn K (.ref U2) "scored" = some (some (.ref PH)))
  (YX:findIn K (.ref U2) "among" = some (some (.ref UW)))
  (MK:mk K U2 [(.ref U0,false),(.ref U1,false),(.ref U2,true),(.ref U3,false),(.ref MS,true),(.ref U4,false)])
  (YW:nsIn K mainGlobals "Signs" = some (some (.ref U3)))
  (x_:Cf K U3)
  (YV:Nt K U3 ["mark"])
  (YU:findIn K (.ref U3) "__init__" = some (some (.ref Sj)))
  (YT:findIn K (.ref U3) "told" = some (some (.ref PJ)))
  (Wq:findIn K (.ref U3) "scores" = some (some (.ref Nj)))
  (YS:findIn K (.ref U3) "need_fit" = some (some (.ref UV)))
  (YR:findIn K (.ref U3) "scored" = some (some (.ref PH)))
  (YQ:findIn K (.ref U3) "among" = some (some (.ref UU)))
  (MJ:mk K U3 [(.ref U0,false),(.ref U1,false),(.ref U2,false),(.ref U3,true),(.ref MS,true),(.ref U4,false)])
  (YO:nsIn K mainGlobals "Weighted" = some (some (.ref U4)))
  (L9:Cf K U4)
  (YN:Nt K U4 ["inner","weights","mark"])
  (YM:findIn K (.ref U4) "__init__" = some (some (.ref Si)))
  (YL:findIn K (.ref U4) "scores" = some (some (.ref Nj)))
  (N4:mk K U4 [(.ref U0,false),(.ref U1,false),(.ref U2,false),(.ref U3,false),(.ref U4,true),(.ref MS,true)])
  (YK:nsIn K mainGlobals "MOST_FOLK" = some (some (.int (20) MW)))
  (YJ:nsIn K mainGlobals "MOST_PAIRS" = some (some (.int (10) Ml)))
  (YI:nsIn K mainGlobals "MOST_FAR" = some (some (.int (20) Nd)))
  (YH:nsIn K mainGlobals "MOST_RULES" = some (some (.int (6) Mj)))
  (YG:nsIn K mainGlobals "MOST_BOTTOM" = some (some (.int (100) LW)))
  (YF:nsIn K mainGlobals "LEAST_NUMBER" = some (some (.int (-99) Ls)))
  (Y9:nsIn K mainGlobals "MOST_NUMBER" = some (some (.int (99) LV)))
  (Y8:nsIn K mainGlobals "MOST_WEIGHTS" = some (some (.int (6) Lq)))
  (Y7:nsIn K mainGlobals "MOST_WEIGHT" = some (some (.int (20) LU)))
  (gt:specialIn K (.builtin "object.__class__") "__get__" = some (some (.builtin "getset_descriptor.__get__")))
  (Uj:takesIn K (.builtin "object.__class__")=some true)
  (UM:findIn K (.ref Oi) "found" = some none)
  (UL:findIn K (.ref Of) "place" = some none)
  (UK:findIn K (.ref ε) "found" = some none)
  (UJ:findIn K (.ref Φ) "found" = some none)
  (UI:findIn K (.ref Oh) "found" = some none)
  (UH:findIn K (.ref N2) "found" = some none)
  (UG:findIn K (.ref Og) "found" = some none)
  (Y6:nsIn K mainGlobals "isinstance" = some none)
  (Y5:nsIn K mainGlobals "int" = some none)
  (Y4:nsIn K mainGlobals "bool" = some none)
  (Y3:nsIn K mainGlobals "len" = some none)
  (Y2:nsIn K mainGlobals "range" = some none)
  (Y1:nsIn K mainGlobals "tuple" = some none)
  (Y0:nsIn K mainGlobals "list" = some none)
  (Ym:nsIn K mainGlobals "sum" = some none)
  (Yl:nsIn K mainGlobals "all" = some none)
  (Yj:nsIn K mainGlobals "max" = some none)
  (Yi:nsIn K mainGlobals "min" = some none)
  (Yh:nsIn K mainGlobals "enumerate" = some none)
  (Yg:nsIn K mainGlobals "zip" = some none)
  (Yf:nsIn K mainGlobals "sorted" = some none)
  (Ye:nsIn K mainGlobals "repr" = some none)
  (Yd:nsIn K mainGlobals "ValueError" = some none)
  (e0:Dn K mg "is_number" pP ["thing"] g0 d0)
  (e1:Dn K mg "is_whole" sV ["thing","low","high"] g1 d1)
  (e2:Dn K mg "greatest_common" Cm ["one","other"] g2 d2)
  (e3:Dn K mg "is_part" uH ["top","bottom"] g3 d3)
  (e4:Dn K mg "is_share" zV ["thing"] g4 d4)
  (e5:Dn K mg "need_number" HP ["thing","low","high"] g5 d5)
  (e6:Dn K mg "need_coin" Jl ["thing"] g6 d6)
  (e7:Dn K mg "one_part" Ix ["folk"] g7 d7)
  (e8:Dn K mg "may_be_block" Ab ["thing"] g8 d8)
  (e9:Dn K mg "are_block_rules" J8 ["thing"] g9 d9)
  (XX:Dn K mg "parts_of" IE ["rules"] g10 d10)
  (XW:Dn K mg "parts_below" DJ ["parts","many"] g11 d11)
  (XV:Dn K mg "is_outcome" Ih ["thing"] g12 d12)
  (XU:Dn K mg "need_outcome" Jc ["thing","place"] g13 d13)
  (XT:Dn K mg "need_outcomes" DA ["thing"] g14 d14)
  (XS:Dn K mg "need_outcomes_of" Cv ["thing","folk"] g15 d15)
  (XR:Dn K mg "surely_greater" JF ["one","other"] g16 d16)
  (XQ:Dn K mg "stands_to" Jw ["one","other"] g17 d17)
  (XO:Dn K mg "need_sure" BN ["outcomes"] g18 d18)
  (XN:Dn K mg "block_marks" HR ["rule"] g19 d19)
  (XM:Dn K mg "need_pairs" JS ["rule"] g20 d20)
  (XJ:Dn K mg "may_be_inner" CB ["thing"] g21 d21)
  (XI:Dn K mg "are_weights" IK ["thing"] g22 d22)
  (TR:Dn K mg "need_hands" Hv ["thing","folk"] g23 d23)
  (XH:Dn K mg "hand_of" IY ["dealing","at"] g24 d24)
  (TQ:Dn K mg "value_of" yK ["scores","dealing"] g25 d25)
  (XG:Dn K mg "_law_take" gh ["_law_script","_law_pen","_law_many"] g26 d26)
  (XF:Dn K mg "_law_plain_rule" re ["_law_script","_law_pen","_law_most"] g27 d27)
  (XE:Dn K mg "_law_rule" mO ["_law_script","_law_pen","_law_most"] g28 d28)
  (XD:Dn K mg "_law_folk" Ij ["_law_blocks"] g29 d29)
  (XC:Dn K mg "_law_outcomes" DP ["_law_script","_law_pen","_law_folk_here","_law_sure"] g30 d30)
  (TN:Dn K mg "_law_kind" DT ["_law_e"] g31 d31)
  (XB:Dn K mg "_law_call" J6 ["_law_way","_law_one","_law_other","_law_third"] g32 d32)
  (XA:Dn K mg "_law_refused" DM ["_law_way","_law_one","_law_other","_law_third"] g33 d33)
  (Xz:Dn K mg "_law_same" J9 ["_law_told","_law_word","_law_thing"] TL d34)
  (Xy:Dn K mg "_law_scores_refused" DK ["_law_script","_law_pen","_law_measure","_law_rule_here","_law_outcomes_here"] g35 d35)
  (Xx:Dn K mg "_law_weighted_refused" DU ["_law_script","_law_pen"] g36 d36)
  (Xw:Dn K mg "_law_value_refused" vm ["_law_script","_law_pen"] g37 d37)
  (Xv:Dn K mg "law" rR ["_law_script"] g38 X0)
  (y0:Dm K "__init__" "Rule.__init__" Ds ["self","size","first_state","mark","parts"] m0 x0)
  (y1:Dm K "folk" "Rule.folk" BV ["self"] m1 x1)
  (y2:Dm K "begin" "Rule.begin" zy ["self"] m2 x2)
  (y3:Dm K "told" "Rule.told" zh ["self"] m3 x3)
  (y4:Dm K "blocks" "Rule.blocks" DF ["self"] m4 x4)
  (y5:Dm K "__init__" "Split.__init__" zH ["self","folk","ones"] m5 x5)
  (y6:Dm K "__init__" "Pairs.__init__" zZ ["self","pairs","coin"] m6 x6)
  (y7:Dm K "__init__" "Coins.__init__" zq ["self","folk","coin","far"] m7 x7)
  (y8:Dm K "__init__" "Blocks.__init__" Dw ["self","rules"] m8 x8)
  (y9:Dm K "__init__" "First.__init__" AF ["self","rule","many"] m9 x9)
  (Tb:Dm K "state_ahead" "Blocks.state_ahead" Jm ["self","number"] U9 QD)
  (P7:Dm K "__init__" "Measure.__init__" wG ["self","mark"] U8 Uf)
  (ZT:Dm K "told" "Measure.told" xv ["self"] U7 ν)
  (NO:Dm K "told" "Measure.told" xv ["self"] PJ Nw)
  (b_:Dm K "scores" "Measure.scores" wx ["self","rule","outcomes"] Nj Pg)
  (Ta:Dm K "need_fit" "Measure.need_fit" zd ["self","rule","outcomes"] U6 WF)
  (NN:Dm K "scored" "Measure.scored" Cp ["self","rule","outcomes"] PH Rz)
  (T7:Dm K "__init__" "Sum.__init__" C5 ["self"] Sn Ue)
  (S_:Dm K "need_fit" "Sum.need_fit" CH ["self","rule","outcomes"] U5 WE)
  (S':Dm K "among" "Sum.among" AL ["self","outcomes"] UZ WD)
  (T6:Dm K "__init__" "Ranks.__init__" Al ["self"] Sl Ud)
  (S9:Dm K "need_fit" "Ranks.need_fit" AW ["self","rule","outcomes"] UY WC)
  (S8:Dm K "among" "Ranks.among" i4 ["self","outcomes"] UX WB)
  (T5:Dm K "__init__" "Wins.__init__" Dx ["self"] Sk N5)
  (S7:Dm K "among" "Wins.among" n9 ["self","outcomes"] UW WA)
  (T4:Dm K "__init__" "Signs.__init__" AE ["self"] Sj Uc)
  (S6:Dm K "need_fit" "Signs.need_fit" Ap ["self","rule","outcomes"] UV Wz)
  (S5:Dm K "among" "Signs.among" mU ["self","outcomes"] UU Wy)
  (Rw:Dm K "__init__" "Weighted.__init__" HJ ["self","inner","weights"] Si Ub)
  (hb:∀(s:Shared)(v:Value),BindsTo s X0 ⟨[v],[]⟩ [("_law_script",v)])
  : ∃ fd:FuncData,(∀(s:Shared)(v:Value),BindsTo s fd ⟨[v],[]⟩ [("_law_script",v)])/\∀ base:Heap,K.In base->base.Ns mainGlobals mg->ß l.prog w K mg base ay 13 fa fd ["_law_script"] (pX K):=by
 have e:=hfa.symm.trans Xv.mg;cases e;refine⟨_,hb,λ base _ _=>?_⟩;have ą:=ė X G Y6;have Qc:=ė X G Y5;have OM:=ė X G Y4;have ũ:=ė X G Y3;have Ψ:=ė X G Y2;have ű:=ė X G Y1;have k_:=ė X G Y0;have Ly:=ė X G Ym;have Qd:=ė X G Yl;have Sf:=ė X G Yj;have Se:=ė X G Yi;have Ř:=ė X G Yh;have Sd:=ė X G Yg;have OK:=ė X G Yf;have OL:=ė X G Ye;have Mw:=ė X G Yd;have T:pY K:=⟨gt,Uj⟩;have mD:=Ŭ X G aD;have o3:=q3 B mD;have o4:=q4 B mD;have o5:=q5 B mD;have o6:=q6 B mD;have o7:=q7 B mD;have o8:=q8 B mD;have o9:=q9 B mD;have ŭ:=q10 B mD;have Ζ:=q11 B mD;have o12:=q12 B mD;have Ρ:=Ŭ X G YK;have Mu:=Ŭ X G YJ;have Ni:=Ŭ X G YI;have Mq:=Ŭ X G YH;have L4:=Ŭ X G YG;have Lx:=Ŭ X G YF;have LZ:=Ŭ X G Y9;have Lw:=Ŭ X G Y8;have LY:=Ŭ X G Y7;have OO:=Ŭ X G UQ;have Ž:eL K R "__init__" m0:=⟨Zs,Zr,Zp,y0.kp⟩;have Md:=Ŭ X G Zo;have Ū:eL K MS "__init__" U8:=⟨Ws,Wr,Zn,P7.kp⟩;have Re:eL K MS "told" U7:=⟨Ws,Wr,Zl,ZT.kp⟩;have Ql:=Ŭ X G Zj;have Sa:Mk K C0 m5:=⟨J_.Pj,Zh,y5.Ŕ,J_.kp⟩;have Qk:=Ŭ X G Zb;have R_:Mk K C1 m6:=⟨Mh.Pj,Y_,y6.Ŕ,Mh.kp⟩;have Qj:=Ŭ X G ZI;have R':Mk K C2 m7:=⟨Mi.Pj,ZG,y7.Ŕ,Mi.kp⟩;have Sh:=Ŭ X G ZB;have R9:Mk K C3 m8:=⟨L'.Pj,Zz,y8.Ŕ,L'.kp⟩;have Qi:=Ŭ X G ZS;have R8:Mk K C4 m9:=⟨LR.Pj,ZQ,y9.Ŕ,LR.kp⟩;have Qh:=Ŭ X G YE;have R7:Mk K U0 Sn:=⟨w_.Pj,YC,T7.Ŕ,w_.kp⟩;have Qg:=Ŭ X G Yx;have R6:Mk K U1 Sl:=⟨v_.Pj,Yv,T6.Ŕ,v_.kp⟩;have Qf:=Ŭ X G Yq;have R5:Mk K U2 Sk:=⟨u_.Pj,Yo,T5.Ŕ,u_.kp⟩;have Qe:=Ŭ X G YW;have R4:Mk K U3 Sj:=⟨x_.Pj,YU,T4.Ŕ,x_.kp⟩;have ON:=Ŭ X G YO;have OJ:Mk K U4 Si:=⟨L9.Pj,YM,Rw.Ŕ,L9.kp⟩;have Wg:=sj (P:=l.prog) (w:=w) (mg:=mg) (base:=base) T e0.fn ą Qc OM;have GN:=(e0.df Wg);have X8:=vX e1.fn Wg e0.bi e0.kp e0.mg;have GW:=(e1.df X8);have GG:=e2.df (CV (P:=l.prog) (w:=w) (mg:=mg) (base:=base) e2.fn);have GPa:=e3.df (vB e3.fn Wg e0.bi e0.kp e0.mg X8 e1.bi e1.kp e1.mg);have GSh:=e4.df (zS T e4.fn GPa GG ą ű ũ);have GM:=e5.df (G2 e5.fn B o4 GW);have GC:=e6.df (Ge e6.fn B o3 GW GSh L4);have GP:=e7.df (Fu (P:=l.prog) (w:=w) (mg:=mg) (base:=base) e7.fn ű Ψ);have Z:KR K (bE C0 C1 C2 C3 C4) R:={
  cls:=λ i hi=>match i,hi with
   | 0,_=>J_.cls
   | 1,_=>Mh.cls
   | 2,_=>Mi.cls
   | 3,_=>L'.cls
   | 4,_=>LR.cls
  no:=λ i hi=>match i,hi with
   | 0,_=>Zi.all
   | 1,_=>Za.all
   | 2,_=>ZH.all
   | 3,_=>ZA.all
   | 4,_=>ZR.all
  ha:=λ i hi=>match i,hi with
   | 0,_=>J_.ca
   | 1,_=>Mh.ca
   | 2,_=>Mi.ca
   | 3,_=>L'.ca
   | 4,_=>LR.ca
  hn:=gt
  MM:=Uj
  hm:=λ i hi=>match i,hi with
   | 0,_=>J_.hm
   | 1,_=>Mh.hm
   | 2,_=>Mi.hm
   | 3,_=>L'.hm
   | 4,_=>LR.hm
  kk:=λ i j hi hj=>match i,j,hi,hj with
   | 0,0,_,_=>aj J_.ň J_.Ň ML.1 ML.1
   | 0,1,_,_=>aj Mh.ň Mh.Ň Ox.2.1 ML.2.1
   | 0,2,_,_=>aj Mi.ň Mi.Ň Ow.2.2.1 ML.2.2.1
   | 0,3,_,_=>aj L'.ň L'.Ň Ov.2.2.2.1 ML.2.2.2.1
   | 0,4,_,_=>aj LR.ň LR.Ň Oy.2.2.2.2.1 ML.2.2.2.2.1
   | 1,0,_,_=>aj J_.ň J_.Ň ML.1 Ox.1
   | 1,1,_,_=>aj Mh.ň Mh.Ň Ox.2.1 Ox.2.1
   | 1,2,_,_=>aj Mi.ň Mi.Ň Ow.2.2.1 Ox.2.2.1
   | 1,3,_,_=>aj L'.ň L'.Ň Ov.2.2.2.1 Ox.2.2.2.1
   | 1,4,_,_=>aj LR.ň LR.Ň Oy.2.2.2.2.1 Ox.2.2.2.2.1
   | 2,0,_,_=>aj J_.ň J_.Ň ML.1 Ow.1
   | 2,1,_,_=>aj Mh.ň Mh.Ň Ox.2.1 Ow.2.1
   | 2,2,_,_=>aj Mi.ň Mi.Ň Ow.2.2.1 Ow.2.2.1
   | 2,3,_,_=>aj L'.ň L'.Ň Ov.2.2.2.1 Ow.2.2.2.1
   | 2,4,_,_=>aj LR.ň LR.Ň Oy.2.2.2.2.1 Ow.2.2.2.2.1
   | 3,0,_,_=>aj J_.ň J_.Ň ML.1 Ov.1
   | 3,1,_,_=>aj Mh.ň Mh.Ň Ox.2.1 Ov.2.1
   | 3,2,_,_=>aj Mi.ň Mi.Ň Ow.2.2.1 Ov.2.2.1
   | 3,3,_,_=>aj L'.ň L'.Ň Ov.2.2.2.1 Ov.2.2.2.1
   | 3,4,_,_=>aj LR.ň LR.Ň Oy.2.2.2.2.1 Ov.2.2.2.2.1
   | 4,0,_,_=>aj J_.ň J_.Ň ML.1 Oy.1
   | 4,1,_,_=>aj Mh.ň Mh.Ň Ox.2.1 Oy.2.1
   | 4,2,_,_=>aj Mi.ň Mi.Ň Ow.2.2.1 Oy.2.2.1
   | 4,3,_,_=>aj L'.ň L'.Ň Ov.2.2.2.1 Oy.2.2.2.1
   | 4,4,_,_=>aj LR.ň LR.Ň Oy.2.2.2.2.1 Oy.2.2.2.2.1
  kR:=λ i hi=>match i,hi with
   | 0,_=>aj OR OB OD ML.2.2.2.2.2.1
   | 1,_=>aj OR OB OD Ox.2.2.2.2.2.1
   | 2,_=>aj OR OB OD Ow.2.2.2.2.2.1
   | 3,_=>aj OR OB OD Ov.2.2.2.2.2.1
   | 4,_=>aj OR OB OD Oy.2.2.2.2.2.1
  kl:=λ i hi=>match i,hi with
   | 0,_=>bB ao SW.2.1
   | 1,_=>bB ao SZ.2.1
   | 2,_=>bB ao SY.2.1
   | 3,_=>bB ao SX.2.1
   | 4,_=>bB ao S0.2.1
  kt:=λ i hi=>match i,hi with
   | 0,_=>bB ao SW.1
   | 1,_=>bB ao SZ.1
   | 2,_=>bB ao SY.1
   | 3,_=>bB ao SX.1
   | 4,_=>bB ao S0.1
  ki:=λ i hi=>match i,hi with
   | 0,_=>bB ao SW.2.2.1
   | 1,_=>bB ao SZ.2.2.1
   | 2,_=>bB ao SY.2.2.1
   | 3,_=>bB ao SX.2.2.1
   | 4,_=>bB ao S0.2.2.1
  kb:=λ i hi=>match i,hi with
   | 0,_=>bB ao SW.2.2.2.1
   | 1,_=>bB ao SZ.2.2.2.1
   | 2,_=>bB ao SY.2.2.2.1
   | 3,_=>bB ao SX.2.2.2.1
   | 4,_=>bB ao S0.2.2.2.1
 }
 have I0:=CK (P:=l.prog) (w:=w) (mg:=mg) (base:=base) Z y0.fn;have I1:=Bc (P:=l.prog) (w:=w) (mg:=mg) (base:=base) Z y1.fn;have I2:=AX (P:=l.prog) (w:=w) (mg:=mg) (base:=base) Z y2.fn;have I3:=Cy (P:=l.prog) (w:=w) (mg:=mg) (base:=base) Z y3.fn;have I4:=zk (P:=l.prog) (w:=w) (mg:=mg) (base:=base) Z y4.fn k_;have Ra:cg l.prog w K mg base ay 1 "folk" ["self"] (rO (bE C0 C1 C2 C3 C4)) (λ _=>lP (bE C0 C1 C2 C3 C4)):=by
  rintro c ⟨i,hi,rfl⟩
  match i,hi with
  | 0,_=>exact⟨J_.cls,m1,x1,⟨Zg,y1.Ŕ,y1.kp⟩,I1,y1.bi⟩
  | 1,_=>exact⟨Mh.cls,m1,x1,⟨Y',y1.Ŕ,y1.kp⟩,I1,y1.bi⟩
  | 2,_=>exact⟨Mi.cls,m1,x1,⟨ZF,y1.Ŕ,y1.kp⟩,I1,y1.bi⟩
  | 3,_=>exact⟨L'.cls,m1,x1,⟨Zy,y1.Ŕ,y1.kp⟩,I1,y1.bi⟩
  | 4,_=>exact⟨LR.cls,m1,x1,⟨ZP,y1.Ŕ,y1.kp⟩,I1,y1.bi⟩
 have P1:cg l.prog w K mg base ay 1 "begin" ["self"] (rO (bE C0 C1 C2 C3 C4)) (λ _=>jh (bE C0 C1 C2 C3 C4)):=by
  rintro c ⟨i,hi,rfl⟩
  match i,hi with
  | 0,_=>exact⟨J_.cls,m2,x2,⟨Zf,y2.Ŕ,y2.kp⟩,I2,y2.bi⟩
  | 1,_=>exact⟨Mh.cls,m2,x2,⟨ZL,y2.Ŕ,y2.kp⟩,I2,y2.bi⟩
  | 2,_=>exact⟨Mi.cls,m2,x2,⟨ZE,y2.Ŕ,y2.kp⟩,I2,y2.bi⟩
  | 3,_=>exact⟨L'.cls,m2,x2,⟨Zx,y2.Ŕ,y2.kp⟩,I2,y2.bi⟩
  | 4,_=>exact⟨LR.cls,m2,x2,⟨ZO,y2.Ŕ,y2.kp⟩,I2,y2.bi⟩
 have Q_:cg l.prog w K mg base ay 1 "told" ["self"] (rO (bE C0 C1 C2 C3 C4)) (λ _=>jR (bE C0 C1 C2 C3 C4)):=by
  rintro c ⟨i,hi,rfl⟩
  match i,hi with
  | 0,_=>exact⟨J_.cls,m3,x3,⟨Ze,y3.Ŕ,y3.kp⟩,I3,y3.bi⟩
  | 1,_=>exact⟨Mh.cls,m3,x3,⟨ZK,y3.Ŕ,y3.kp⟩,I3,y3.bi⟩
  | 2,_=>exact⟨Mi.cls,m3,x3,⟨ZD,y3.Ŕ,y3.kp⟩,I3,y3.bi⟩
  | 3,_=>exact⟨L'.cls,m3,x3,⟨Zv,y3.Ŕ,y3.kp⟩,I3,y3.bi⟩
  | 4,_=>exact⟨LR.cls,m3,x3,⟨ZN,y3.Ŕ,y3.kp⟩,I3,y3.bi⟩
 have Pb:cg l.prog w K mg base ay 1 "blocks" ["self"] (rO (bE C0 C1 C2 C3 C4)) (λ _=>uF (bE C0 C1 C2 C3 C4)):=by
  rintro c ⟨i,hi,rfl⟩
  match i,hi with
  | 0,_=>exact⟨J_.cls,m4,x4,⟨Zd,y4.Ŕ,y4.kp⟩,I4,y4.bi⟩
  | 1,_=>exact⟨Mh.cls,m4,x4,⟨ZJ,y4.Ŕ,y4.kp⟩,I4,y4.bi⟩
  | 2,_=>exact⟨Mi.cls,m4,x4,⟨ZC,y4.Ŕ,y4.kp⟩,I4,y4.bi⟩
  | 3,_=>exact⟨L'.cls,m4,x4,⟨Zu,y4.Ŕ,y4.kp⟩,I4,y4.bi⟩
  | 4,_=>exact⟨LR.cls,m4,x4,⟨ZM,y4.Ŕ,y4.kp⟩,I4,y4.bi⟩
 have Mm:Ms l.prog w K mg base (bE C0 C1 C2 C3 C4):=⟨Ra,P1,Q_,Pb⟩;have I10:=D0 Z Tb.fn Mm ũ;have MA:cg l.prog w K mg base ay 2 "state_ahead" ["self","number"] (λ c=>c=(bE C0 C1 C2 C3 C4) 3) (λ _=>CI (bE C0 C1 C2 C3 C4)):=by
  rintro c rfl;exact⟨L'.cls,U9,QD,⟨Zt,Tb.Ŕ,Tb.kp⟩,I10,Tb.bi⟩
 have GMB:=e8.df (CC (P:=l.prog) (w:=w) (mg:=mg) (base:=base) (K:=K) (C:=bE C0 C1 C2 C3 C4) e8.fn Ql Qk Qj ą);have GAB:=e9.df (FN T e9.fn GMB GW Mq ą k_ ũ Qd);have GPO:=XX.df (FG XX.fn Mm ű Ψ);have GPB:=XW.df (EG (P:=l.prog) (w:=w) (mg:=mg) (base:=base) XW.fn ű ũ);have I5:=z7 y5.fn Ž I0 y0.bi OO GM GP Ρ;have I6:=A6 Z y6.fn Ž I0 y0.bi OO GM GP GC Mu;have I7:=Do Z y7.fn Ž I0 y0.bi OO GM GP GC Ρ Ni;have I8:=Ch Z y8.fn Mm MA B o8 o12 Ž I0 y0.bi OO GAB GPO Ρ Ly ű;have I9:=BU T Z y9.fn Mm Ž I0 y0.bi OO GM GPB Qi ą;have Lk:DI l.prog w K mg base (bE C0 C1 C2 C3 C4) Wh Wi N2 Rf m5 m6 m7 m8 m9 x5 x6 x7 x8 x9:=⟨Sa,R_,R',R9,R8,I5,I6,I7,I8,I9,y5.bi,y6.bi,y7.bi,y8.bi,y9.bi,Ql,Qk,Qj,Sh,Qi⟩;have GIo:=XV.df (Gn T XV.fn GW Lx LZ ą ű ũ OM);have Yb:=XU.df (ER XU.fn B o9 GIo);have GNs:=XT.df (Dj T XT.fn B o5 Yb ą k_ Ř);have Ya:=XS.df (Bb XS.fn B o5 GNs ũ);have GSg:=XR.df (Fn (P:=l.prog) (w:=w) (mg:=mg) (base:=base) XR.fn);have X_:=XQ.df (G7 XQ.fn Yb GSg);have X9:=XO.df (Aa (P:=l.prog) (w:=w) (mg:=mg) (base:=base) XO.fn B ŭ Ř);have GBm:=XN.df (Hc XN.fn Mm);have GNp:=XM.df (G8 XM.fn Mm B Ζ GBm Ř Sd ũ);have Zm:KM K (bE U0 U1 U2 U3 U4):=⟨λ i hi=>match i,hi with
   | 0,_=>w_.cls
   | 1,_=>v_.cls
   | 2,_=>u_.cls
   | 3,_=>x_.cls,λ i hi=>match i,hi with
   | 0,_=>YD.1
   | 1,_=>Yw.1
   | 2,_=>Yp.1
   | 3,_=>YV.1⟩
 have dj:∀ i j,i<4->j<4->(bE U0 U1 U2 U3 U4) i=(bE U0 U1 U2 U3 U4) j->i=j:=λ i j hi hj=>match i,j,hi,hj with
   | 0,0,_,_=>λ _=>rfl
   | 0,1,_,_=>λ e=>absurd e (dJ MH.2.1 MI.2.1)
   | 0,2,_,_=>λ e=>absurd e (dJ MK.2.2.1 MI.2.2.1)
   | 0,3,_,_=>λ e=>absurd e (dJ MJ.2.2.2.1 MI.2.2.2.1)
   | 1,0,_,_=>λ e=>absurd e (dJ MI.1 MH.1)
   | 1,1,_,_=>λ _=>rfl
   | 1,2,_,_=>λ e=>absurd e (dJ MK.2.2.1 MH.2.2.1)
   | 1,3,_,_=>λ e=>absurd e (dJ MJ.2.2.2.1 MH.2.2.2.1)
   | 2,0,_,_=>λ e=>absurd e (dJ MI.1 MK.1)
   | 2,1,_,_=>λ e=>absurd e (dJ MH.2.1 MK.2.1)
   | 2,2,_,_=>λ _=>rfl
   | 2,3,_,_=>λ e=>absurd e (dJ MJ.2.2.2.1 MK.2.2.2.1)
   | 3,0,_,_=>λ e=>absurd e (dJ MI.1 MJ.1)
   | 3,1,_,_=>λ e=>absurd e (dJ MH.2.1 MJ.2.1)
   | 3,2,_,_=>λ e=>absurd e (dJ MK.2.2.1 MJ.2.2.1)
   | 3,3,_,_=>λ _=>rfl
 have TX:=BZ (P:=l.prog) (w:=w) (mg:=mg) (base:=base) Zm P7.fn;have TW:=zN (P:=l.prog) (w:=w) (mg:=mg) (base:=base) Zm NO.fn;have J17:=Cq T7.fn Ū TX P7.bi Md;have J20:=Bp T6.fn Ū TX P7.bi Md;have J23:=AN T5.fn Ū TX P7.bi Md;have J25:=Au T4.fn Ū TX P7.bi Md;have J19:=JC (MC:=(bE U0 U1 U2 U3 U4)) dj (yV (P:=l.prog) (w:=w) (mg:=mg) (base:=base) S'.fn);have J22:=J4 (MC:=(bE U0 U1 U2 U3 U4)) dj (AJ (P:=l.prog) (w:=w) (mg:=mg) (base:=base) S8.fn OK);have J24:=HY (MC:=(bE U0 U1 U2 U3 U4)) dj (Az S7.fn X_ Ly);have J27:=IU (MC:=(bE U0 U1 U2 U3 U4)) dj (zA S5.fn X_ Ř);have J18:=IZ (C:=(bE C0 C1 C2 C3 C4)) (CN:=Φ) (MC:=(bE U0 U1 U2 U3 U4)) dj (Cn S_.fn X9);have J21:=Ii (C:=(bE C0 C1 C2 C3 C4)) (CN:=Φ) (MC:=(bE U0 U1 U2 U3 U4)) dj (yZ S9.fn X9);have J15:=HV (C:=(bE C0 C1 C2 C3 C4)) (CU:=ε) (CN:=Φ) (MC:=(bE U0 U1 U2 U3 U4)) dj (Be (P:=l.prog) (w:=w) (mg:=mg) (base:=base) Ta.fn);have J26:=Iw (CU:=ε) (MC:=(bE U0 U1 U2 U3 U4)) dj (Cj S6.fn GNp);have Mam:cg l.prog w K mg base ay 7 "among" ["self","outcomes"] (pk (bE U0 U1 U2 U3 U4)) (kO (bE U0 U1 U2 U3 U4)):=by
  rintro c ⟨i,hi,rfl⟩
  match i,hi with
  | 0,_=>exact⟨w_.cls,UZ,WD,⟨Yy,S'.Ŕ,S'.kp⟩,J19,S'.bi⟩
  | 1,_=>exact⟨v_.cls,UX,WB,⟨Yr,S8.Ŕ,S8.kp⟩,J22,S8.bi⟩
  | 2,_=>exact⟨u_.cls,UW,WA,⟨YX,S7.Ŕ,S7.kp⟩,J24,S7.bi⟩
  | 3,_=>exact⟨x_.cls,UU,Wy,⟨YQ,S5.Ŕ,S5.kp⟩,J27,S5.bi⟩
 have X6:cg l.prog w K mg base (cp l.prog w) 5 "need_fit" ["self","rule","outcomes"] (pk (bE U0 U1 U2 U3 U4)) (jx (bE C0 C1 C2 C3 C4) (bE U0 U1 U2 U3 U4) ε Φ):=by
  rintro c ⟨i,hi,rfl⟩
  match i,hi with
  | 0,_=>exact⟨w_.cls,U5,WE,⟨YA,S_.Ŕ,S_.kp⟩,J18,S_.bi⟩
  | 1,_=>exact⟨v_.cls,UY,WC,⟨Yt,S9.Ŕ,S9.kp⟩,J21,S9.bi⟩
  | 2,_=>exact⟨u_.cls,U6,WF,⟨YZ,Ta.Ŕ,Ta.kp⟩,J15,Ta.bi⟩
  | 3,_=>exact⟨x_.cls,UV,Wz,⟨YS,S6.Ŕ,S6.kp⟩,J26,S6.bi⟩
 have TU:=zM NN.fn Mam;have X5:cg l.prog w K mg base ay 8 "scored" ["self","rule","outcomes"] (pk (bE U0 U1 U2 U3 U4)) (nF (bE U0 U1 U2 U3 U4)):=by
  rintro c ⟨i,hi,rfl⟩
  match i,hi with
  | 0,_=>exact⟨w_.cls,PH,Rz,⟨Yz,NN.Ŕ,NN.kp⟩,wU TU,NN.bi⟩
  | 1,_=>exact⟨v_.cls,PH,Rz,⟨Ys,NN.Ŕ,NN.kp⟩,wU TU,NN.bi⟩
  | 2,_=>exact⟨u_.cls,PH,Rz,⟨YY,NN.Ŕ,NN.kp⟩,wU TU,NN.bi⟩
  | 3,_=>exact⟨x_.cls,PH,Rz,⟨YR,NN.Ŕ,NN.kp⟩,wU TU,NN.bi⟩
 have TV:=Dh b_.fn Mm Ya X6 X5;have Mss:cg l.prog w K mg base (cp l.prog w) 9 "scores" ["self","rule","outcomes"] (pk (bE U0 U1 U2 U3 U4)) (λ _=>nX (bE C0 C1 C2 C3 C4) (bE U0 U1 U2 U3 U4) ε Φ):=by
  rintro c ⟨i,hi,rfl⟩
  match i,hi with
  | 0,_=>exact⟨w_.cls,Nj,Pg,⟨Wp,b_.Ŕ,b_.kp⟩,TV,b_.bi⟩
  | 1,_=>exact⟨v_.cls,Nj,Pg,⟨Wl,b_.Ŕ,b_.kp⟩,TV,b_.bi⟩
  | 2,_=>exact⟨u_.cls,Nj,Pg,⟨Wk,b_.Ŕ,b_.kp⟩,TV,b_.bi⟩
  | 3,_=>exact⟨x_.cls,Nj,Pg,⟨Wq,b_.Ŕ,b_.kp⟩,TV,b_.bi⟩
 have Mtl:cg l.prog w K mg base ay 1 "told" ["self"] (pk (bE U0 U1 U2 U3 U4)) (λ _=>tY (bE U0 U1 U2 U3 U4)):=by
  rintro c ⟨i,hi,rfl⟩
  match i,hi with
  | 0,_=>exact⟨w_.cls,PJ,Nw,⟨YB,NO.Ŕ,NO.kp⟩,TW,NO.bi⟩
  | 1,_=>exact⟨v_.cls,PJ,Nw,⟨Yu,NO.Ŕ,NO.kp⟩,TW,NO.bi⟩
  | 2,_=>exact⟨u_.cls,PJ,Nw,⟨Yn,NO.Ŕ,NO.kp⟩,TW,NO.bi⟩
  | 3,_=>exact⟨x_.cls,PJ,Nw,⟨YT,NO.Ŕ,NO.kp⟩,TW,NO.bi⟩
 have Lm:JZ l.prog w K mg base (bE U0 U1 U2 U3 U4) Sn Sl Sk Sj Ue Ud N5 Uc:=⟨R7,R6,R5,R4,J17,J20,J23,J25,T7.bi,T6.bi,T5.bi,T4.bi,Qh,Qg,Qf,Qe⟩;have Yk:KW K (bE U0 U1 U2 U3 U4) MS:=⟨L9.cls,YN.all,λ i hi=>match i,hi with
   | 0,_=>w_.ca
   | 1,_=>v_.ca
   | 2,_=>u_.ca
   | 3,_=>x_.ca
   | 4,_=>L9.ca,gt,Uj,λ i hi=>match i,hi with
   | 0,_=>w_.hm
   | 1,_=>v_.hm
   | 2,_=>u_.hm
   | 3,_=>x_.hm
   | 4,_=>L9.hm,λ i j hi hj=>match i,j,hi,hj with
   | 0,0,_,_=>aj w_.ň w_.Ň MI.1 MI.1
   | 0,1,_,_=>aj v_.ň v_.Ň MH.2.1 MI.2.1
   | 0,2,_,_=>aj u_.ň u_.Ň MK.2.2.1 MI.2.2.1
   | 0,3,_,_=>aj x_.ň x_.Ň MJ.2.2.2.1 MI.2.2.2.1
   | 1,0,_,_=>aj w_.ň w_.Ň MI.1 MH.1
   | 1,1,_,_=>aj v_.ň v_.Ň MH.2.1 MH.2.1
   | 1,2,_,_=>aj u_.ň u_.Ň MK.2.2.1 MH.2.2.1
   | 1,3,_,_=>aj x_.ň x_.Ň MJ.2.2.2.1 MH.2.2.2.1
   | 2,0,_,_=>aj w_.ň w_.Ň MI.1 MK.1
   | 2,1,_,_=>aj v_.ň v_.Ň MH.2.1 MK.2.1
   | 2,2,_,_=>aj u_.ň u_.Ň MK.2.2.1 MK.2.2.1
   | 2,3,_,_=>aj x_.ň x_.Ň MJ.2.2.2.1 MK.2.2.2.1
   | 3,0,_,_=>aj w_.ň w_.Ň MI.1 MJ.1
   | 3,1,_,_=>aj v_.ň v_.Ň MH.2.1 MJ.2.1
   | 3,2,_,_=>aj u_.ň u_.Ň MK.2.2.1 MJ.2.2.1
   | 3,3,_,_=>aj x_.ň x_.Ň MJ.2.2.2.1 MJ.2.2.2.1
   | 4,0,_,_=>aj w_.ň w_.Ň MI.1 N4.1
   | 4,1,_,_=>aj v_.ň v_.Ň MH.2.1 N4.2.1
   | 4,2,_,_=>aj u_.ň u_.Ň MK.2.2.1 N4.2.2.1
   | 4,3,_,_=>aj x_.ň x_.Ň MJ.2.2.2.1 N4.2.2.2.1
   ,λ i hi=>match i,hi with
   | 0,_=>aj Rv Rt Rs MI.2.2.2.2.1
   | 1,_=>aj Rv Rt Rs MH.2.2.2.2.1
   | 2,_=>aj Rv Rt Rs MK.2.2.2.2.1
   | 3,_=>aj Rv Rt Rs MJ.2.2.2.2.1
   | 4,_=>aj Rv Rt Rs N4.2.2.2.2.2.1⟩
 have GMi:=XJ.df (Ai (P:=l.prog) (w:=w) (mg:=mg) (base:=base) (K:=K) (MC:=(bE U0 U1 U2 U3 U4)) XJ.fn Qh Qg Qf Qe ą);have GAw:=XI.df (GQ T XI.fn GW Lw LY ą k_ ũ Qd);have We:=AR (P:=l.prog) (w:=w) (mg:=mg) (base:=base) Yk P7.fn;have J28:=FF Zm Yk Rw.fn B o8 o6 Ū We P7.bi Md GMi GAw Mtl ű;have Vh:=XH.df (Gv (P:=l.prog) (w:=w) (mg:=mg) (base:=base) XH.fn);have Vn:=TR.df (Gm TR.fn GW);have Vo:=TQ.df (FC TQ.fn Vn Vh ũ Ly Ř);have Wn:=TR.df (BK TR.fn B o7 GW);have Wo:=TQ.df (Cw TQ.fn Wn ũ);have Lt:=XG.df (vL (P:=l.prog) (w:=w) (mg:=mg) (base:=base) XG.fn ũ Se);have Lp:=XF.df (GO XF.fn Lk Lt);have Lr:=XE.df (Ff XE.fn Lk Lt Lp Ψ Sf Qc k_ ũ);have Lf:=XD.df (Hi (P:=l.prog) (w:=w) (mg:=mg) (base:=base) XD.fn Ly ũ);have Lo:=XC.df (Gk XC.fn Lt Ψ);have Zk:K7 K mg (gA Oi Of ε Φ Oh N2 Og):=⟨T,λ i hi=>match i,hi with
   | 0,_=>o5.cls.it
   | 1,_=>o9.cls.it
   | 2,_=>ŭ.cls.it
   | 3,_=>Ζ.cls.it
   | 4,_=>o6.cls.it
   | 5,_=>o8.cls.it
   | 6,_=>o7.cls.it,λ i j hi hj=>match i,j,hi,hj with
   | 0,0,_,_=>dW
   | 0,1,_,_=>aJ B o5.cls o9.cls ao
   | 0,2,_,_=>aJ B o5.cls ŭ.cls ao
   | 0,3,_,_=>aJ B o5.cls Ζ.cls ao
   | 0,4,_,_=>aJ B o5.cls o6.cls ao
   | 0,5,_,_=>aJ B o5.cls o8.cls ao
   | 0,6,_,_=>aJ B o5.cls o7.cls ao
   | 1,0,_,_=>aJ B o9.cls o5.cls ao
   | 1,1,_,_=>dW
   | 1,2,_,_=>aJ B o9.cls ŭ.cls ao
   | 1,3,_,_=>aJ B o9.cls Ζ.cls ao
   | 1,4,_,_=>aJ B o9.cls o6.cls ao
   | 1,5,_,_=>aJ B o9.cls o8.cls ao
   | 1,6,_,_=>aJ B o9.cls o7.cls ao
   | 2,0,_,_=>aJ B ŭ.cls o5.cls ao
   | 2,1,_,_=>aJ B ŭ.cls o9.cls ao
   | 2,2,_,_=>dW
   | 2,3,_,_=>aJ B ŭ.cls Ζ.cls ao
   | 2,4,_,_=>aJ B ŭ.cls o6.cls ao
   | 2,5,_,_=>aJ B ŭ.cls o8.cls ao
   | 2,6,_,_=>aJ B ŭ.cls o7.cls ao
   | 3,0,_,_=>aJ B Ζ.cls o5.cls ao
   | 3,1,_,_=>aJ B Ζ.cls o9.cls ao
   | 3,2,_,_=>aJ B Ζ.cls ŭ.cls ao
   | 3,3,_,_=>dW
   | 3,4,_,_=>aJ B Ζ.cls o6.cls ao
   | 3,5,_,_=>aJ B Ζ.cls o8.cls ao
   | 3,6,_,_=>aJ B Ζ.cls o7.cls ao
   | 4,0,_,_=>aJ B o6.cls o5.cls ao
   | 4,1,_,_=>aJ B o6.cls o9.cls ao
   | 4,2,_,_=>aJ B o6.cls ŭ.cls ao
   | 4,3,_,_=>aJ B o6.cls Ζ.cls ao
   | 4,4,_,_=>dW
   | 4,5,_,_=>aJ B o6.cls o8.cls ao
   | 4,6,_,_=>aJ B o6.cls o7.cls ao
   | 5,0,_,_=>aJ B o8.cls o5.cls ao
   | 5,1,_,_=>aJ B o8.cls o9.cls ao
   | 5,2,_,_=>aJ B o8.cls ŭ.cls ao
   | 5,3,_,_=>aJ B o8.cls Ζ.cls ao
   | 5,4,_,_=>aJ B o8.cls o6.cls ao
   | 5,5,_,_=>dW
   | 5,6,_,_=>aJ B o8.cls o7.cls ao
   | 6,0,_,_=>aJ B o7.cls o5.cls ao
   | 6,1,_,_=>aJ B o7.cls o9.cls ao
   | 6,2,_,_=>aJ B o7.cls ŭ.cls ao
   | 6,3,_,_=>aJ B o7.cls Ζ.cls ao
   | 6,4,_,_=>aJ B o7.cls o6.cls ao
   | 6,5,_,_=>aJ B o7.cls o8.cls ao
   | 6,6,_,_=>dW,λ i hi=>match i,hi with
   | 0,_=>gQ o5.cls ao ao
   | 1,_=>gQ o9.cls ao ao
   | 2,_=>gQ ŭ.cls ao ao
   | 3,_=>gQ Ζ.cls ao ao
   | 4,_=>gQ o6.cls ao ao
   | 5,_=>gQ o8.cls ao ao
   | 6,_=>gQ o7.cls ao ao,o5.Mv,o9.Mv,ŭ.Mv,Ζ.Mv,o6.Mv,o8.Mv,o7.Mv,ą,Ly,Mw⟩
 have Zm7:Hx K (gA Oi Of ε Φ Oh N2 Og):=⟨λ i j hi hj=>match i,j,hi,hj with
   | 0,0,_,_=>dU o5.cls
   | 0,1,_,_=>aK B o5.cls o9.cls ao
   | 0,2,_,_=>aK B o5.cls ŭ.cls ao
   | 0,3,_,_=>aK B o5.cls Ζ.cls ao
   | 0,4,_,_=>aK B o5.cls o6.cls ao
   | 0,5,_,_=>aK B o5.cls o8.cls ao
   | 0,6,_,_=>aK B o5.cls o7.cls ao
   | 1,0,_,_=>aK B o9.cls o5.cls ao
   | 1,1,_,_=>dU o9.cls
   | 1,2,_,_=>aK B o9.cls ŭ.cls ao
   | 1,3,_,_=>aK B o9.cls Ζ.cls ao
   | 1,4,_,_=>aK B o9.cls o6.cls ao
   | 1,5,_,_=>aK B o9.cls o8.cls ao
   | 1,6,_,_=>aK B o9.cls o7.cls ao
   | 2,0,_,_=>aK B ŭ.cls o5.cls ao
   | 2,1,_,_=>aK B ŭ.cls o9.cls ao
   | 2,2,_,_=>dU ŭ.cls
   | 2,3,_,_=>aK B ŭ.cls Ζ.cls ao
   | 2,4,_,_=>aK B ŭ.cls o6.cls ao
   | 2,5,_,_=>aK B ŭ.cls o8.cls ao
   | 2,6,_,_=>aK B ŭ.cls o7.cls ao
   | 3,0,_,_=>aK B Ζ.cls o5.cls ao
   | 3,1,_,_=>aK B Ζ.cls o9.cls ao
   | 3,2,_,_=>aK B Ζ.cls ŭ.cls ao
   | 3,3,_,_=>dU Ζ.cls
   | 3,4,_,_=>aK B Ζ.cls o6.cls ao
   | 3,5,_,_=>aK B Ζ.cls o8.cls ao
   | 3,6,_,_=>aK B Ζ.cls o7.cls ao
   | 4,0,_,_=>aK B o6.cls o5.cls ao
   | 4,1,_,_=>aK B o6.cls o9.cls ao
   | 4,2,_,_=>aK B o6.cls ŭ.cls ao
   | 4,3,_,_=>aK B o6.cls Ζ.cls ao
   | 4,4,_,_=>dU o6.cls
   | 4,5,_,_=>aK B o6.cls o8.cls ao
   | 4,6,_,_=>aK B o6.cls o7.cls ao
   | 5,0,_,_=>aK B o8.cls o5.cls ao
   | 5,1,_,_=>aK B o8.cls o9.cls ao
   | 5,2,_,_=>aK B o8.cls ŭ.cls ao
   | 5,3,_,_=>aK B o8.cls Ζ.cls ao
   | 5,4,_,_=>aK B o8.cls o6.cls ao
   | 5,5,_,_=>dU o8.cls
   | 5,6,_,_=>aK B o8.cls o7.cls ao
   | 6,0,_,_=>aK B o7.cls o5.cls ao
   | 6,1,_,_=>aK B o7.cls o9.cls ao
   | 6,2,_,_=>aK B o7.cls ŭ.cls ao
   | 6,3,_,_=>aK B o7.cls Ζ.cls ao
   | 6,4,_,_=>aK B o7.cls o6.cls ao
   | 6,5,_,_=>aK B o7.cls o8.cls ao
   | 6,6,_,_=>dU o7.cls,λ i hi=>match i,hi with
   | 0,_=>gH o5.cls UM
   | 1,_=>gH o9.cls UL
   | 2,_=>gH ŭ.cls UK
   | 3,_=>gH Ζ.cls UJ
   | 4,_=>gH o6.cls UI
   | 5,_=>gH o8.cls UH
   | 6,_=>gH o7.cls UG⟩
 have Zc:∀ i,i<7->fg K ((gA Oi Of ε Φ Oh N2 Og) i):=λ i hi=>match i,hi with
   | 0,_=>gI o5.cls
   | 1,_=>gI o9.cls
   | 2,_=>gI ŭ.cls
   | 3,_=>gI Ζ.cls
   | 4,_=>gI o6.cls
   | 5,_=>gI o8.cls
   | 6,_=>gI o7.cls
 have Zq:KQ K (bE C0 C1 C2 C3 C4) (bE U0 U1 U2 U3 U4):=⟨λ i hi=>match i,hi with
   | 0,_=>fq w_.ň w_.Ň
   | 1,_=>fq v_.ň v_.Ň
   | 2,_=>fq u_.ň u_.Ň
   | 3,_=>fq x_.ň x_.Ň
   | 4,_=>fq L9.ň L9.Ň,fq J_.ň J_.Ň,λ i hi=>match i,hi with
   | 0,_=>aj w_.ň w_.Ň MI.1 ML.2.2.2.2.2.2.1
   | 1,_=>aj v_.ň v_.Ň MH.2.1 ML.2.2.2.2.2.2.2.1
   | 2,_=>aj u_.ň u_.Ň MK.2.2.1 ML.2.2.2.2.2.2.2.2.1
   | 3,_=>aj x_.ň x_.Ň MJ.2.2.2.1 ML.2.2.2.2.2.2.2.2.2.1
   | 4,_=>aj L9.ň L9.Ň N4.2.2.2.2.1 ML.2.2.2.2.2.2.2.2.2.2.1,aj J_.ň J_.Ň ML.1 ML.1,λ i hi=>match i,hi with
   | 0,_=>aj L9.ň L9.Ň N4.2.2.2.2.1 MI.2.2.2.2.2.1
   | 1,_=>aj L9.ň L9.Ň N4.2.2.2.2.1 MH.2.2.2.2.2.1
   | 2,_=>aj L9.ň L9.Ň N4.2.2.2.2.1 MK.2.2.2.2.2.1
   | 3,_=>aj L9.ň L9.Ň N4.2.2.2.2.1 MJ.2.2.2.2.2.1
   | 4,_=>aj L9.ň L9.Ň N4.2.2.2.2.1 N4.2.2.2.2.1⟩
 have Lki:Jq l.prog w K mg base 1 "_law_kind" ["_law_e"] (u8 (gA Oi Of ε Φ Oh N2 Og)) _ _:=⟨GV TN.fn Zk,TN.bi,TN.kp,TN.mg⟩;have Pc:=vy b_.fn Mm Ya ad X6 X5;have MsR:cg l.prog w K mg base (cp l.prog w) 9 "scores" ["self","rule","outcomes"] (zu (bE U0 U1 U2 U3 U4)) (λ _=>oy K (bE C0 C1 C2 C3 C4) ((gA Oi Of ε Φ Oh N2 Og) 0) ((gA Oi Of ε Φ Oh N2 Og) 1)):=by
  rintro c ⟨i,hi,rfl⟩
  match i,hi with
  | 0,_=>exact⟨w_.cls,Nj,Pg,⟨Wp,b_.Ŕ,b_.kp⟩,Pc,b_.bi⟩
  | 1,_=>exact⟨v_.cls,Nj,Pg,⟨Wl,b_.Ŕ,b_.kp⟩,Pc,b_.bi⟩
  | 2,_=>exact⟨u_.cls,Nj,Pg,⟨Wk,b_.Ŕ,b_.kp⟩,Pc,b_.bi⟩
  | 3,_=>exact⟨x_.cls,Nj,Pg,⟨Wq,b_.Ŕ,b_.kp⟩,Pc,b_.bi⟩
  | 4,_=>exact⟨L9.cls,Nj,Pg,⟨YL,b_.Ŕ,b_.kp⟩,Pc,b_.bi⟩
 have Rb:ß l.prog w K mg base (cp l.prog w) 4 Si Ub vk (nI K (bE U0 U1 U2 U3 U4) ((gA Oi Of ε Φ Oh N2 Og) 5) ((gA Oi Of ε Φ Oh N2 Og) 4)):=J28;have Wos:Df l.prog w K mg base (cp l.prog w) 4 "value_of" ["scores","dealing"] (vQ K ((gA Oi Of ε Φ Oh N2 Og) 6)) _ _:=Wo;have Lca:=XB.df (EV XB.fn MsR OJ Rb Rw.bi ON Wos);have Wd:=XA.df (Gs XA.fn Zk Zm7 Zc (uP B) mD Lca Lki);have Wc:=Xz.df (FU (P:=l.prog) (w:=w) (mg:=mg) (base:=base) Xz.fn OL);have Lvf:=Xw.df (Hf Xw.fn Lt Wd Wc Vo Ψ Ly);have Lsf:=Xy.df (Fj Xy.fn Lt Wd Wc ũ ű);have Zw:Jp l.prog w K mg base (bE C0 C1 C2 C3 C4) (bE U0 U1 U2 U3 U4) (gA Oi Of ε Φ Oh N2 Og) Wh Wi Rf Si m5 m6 m7 m8 m9 Sn Sl Sk Sj _ _ _ Ub x5 x6 x7 x8 x9 Ue Ud N5 Uc _ _ _ _:=⟨Lt,Wd,Wc,Lk,Lm,OJ,Rb,Rw.bi,ON,ą,k_,OL⟩;have Lwr:=Xx.df (Gw Zq Yk Z Xx.fn Zw);exact BI Zm Yk Zq Xv.fn ⟨Lr,Lf,Lo,Lsf,Lwr,Lvf,Lm,OJ,Rb,Rw.bi,ON,Mss,T,Md,ą,Ψ,ũ,Ly⟩
theorem walk {l:OpenLaw}{q:Program}{loose:List Str}{XP:(Str->Option Value)->Heap->Prop}{YP:World->Heap->Prop}{d:DefRec}{K:Params->Frag}(hn:l.most=some 63)(SI:d.params.defaults=[])
  (hY:∀(w:World)(h:Heap),YP w h->(K w.params).In h)
  (F:∀(w:World)(mg:bv)(fa:Addr)(h:Heap),(K w.params).In h->h.Ns mainGlobals mg->mg d.name=some (.ref fa) ->
   ∃ fd:FuncData,(∀(s:Shared)(u:Value),BindsTo s fd ⟨[u],[]⟩ [("_law_script",u)])/\∀ base:Heap,(K w.params).In base->base.Ns mainGlobals mg->ß l.prog w (K w.params) mg base ay 13 fa fd ["_law_script"] (pX (K w.params))) :
  WalkO q loose XP YP l.row.toRowW d [] (λ f vs=>PySem.call f vs) :=
 L2.OA (n:=63) (k:=13) (x:="_law_script") (CX:=λ _=>ay) (sp:=λ w=>pX (K w.params)) hn ad SI ⟨rfl,ad,ad,rfl⟩ hY F (λ _ _ a ns hl _ hS hz=>⟨a,ns,rfl,hS,hl,hz,λ _=>rfl⟩) λ _ _ _ _ _ z=>z
end My
open PySem PySem.W PyProof.Rows
namespace PySem.W.Fast
def tw17975564251359775559:=()
def tw4322047164639455101:=()
def tw4897246764302513761:=()
def tw7991457383150503530:=()
def tw15163436811831315855:=()
def tw3064507802729041927:=()
def tw11258966482225846777:=()
def tw18064274316381380272:=()
def tw276362317848624638:=()
def tw4405239897283808043:=()
def tw6024463065884530016:=()
def tw11257175357036204451:=()
def tw12211398786593012083:=()
def tw1304565881610529488:=()
def tw13359513776954565208:=()
def tw1903324275997980839:=()
def tw358759695440620247:=()
def tw5865027316241752755:=()
def tw2121169469299418654:=()
def tw17965968483534618125:=()
def tw16717428930725145048:=()
def tw6127614567758684072:=()
def tw10096429409384039538:=()
def tw15333170265813358343:=()
def tw11058569286317107519:=()
def tw3007153839287261886:=()
def tw14538422690139446083:=()
def tw6389418023167185163:=()
def tw1688621727708603917:=()
def tw12095517330486145373:=()
def tw2918586596563896101:=()
def tw13040158210053782963:=()
def tw9806374266928287591:=()
def tw13809889533735671672:=()
def tw5999126264253185023:=()
def tw13266476067372982825:=()
def tw14311028486898097447:=()
def tw12053032367619529500:=()
def tw15403722151235950494:=()
def tw3104604539186891169:=()
def tw7567478443268931550:=()
def tw6406541450712617404:=()
def tw9926088874559337926:=()
def tw6481966118113575504:=()
def tw17001790559608226490:=()
def tw8906364285532337450:=()
def tw13695596105601129188:=()
def tw3705592367648097311:=()
def tw533665456563837858:=()
def tw5138809530823356420:=()
def tw9809510119907269925:=()
def tw14004606924183583882:=()
def tw16877922283818710495:=()
def tw4303879033658857402:=()
def tw12362545215605642620:=()
def tw2429477258652226271:=()
def tw10502382682276612693:=()
def tw6479696303156430952:=()
def tw12324578804406993479:=()
def tw13542430371774024486:=()
def tw6285293110597907423:=()
def tw12809065460855372569:=()
def tw11058236328664101319:=()
def tw17555110154557308996:=()
def tw5532681475097806700:=()
def tw1831773007665668190:=()
def tw868919145609021200:=()
def tw10744674855028203449:=()
def tw15745002624238681404:=()
def tw15760993292194307007:=()
def tw9894882036474655374:=()
def tw12257164583157869119:=()
def tw9234220905860960737:=()
def tw6618425961980761250:=()
def tw7852309766223961598:=()
def tw14658433624208118537:=()
def tw13970658793386582855:=()
def tw11760333581233145426:=()
def tw12598367918441452208:=()
def tw10499896736649585332:=()
def tw10638974189943037446:=()
def tw2602767943725828608:=()
def tw14573672732475037852:=()
def tw14314672908473009335:=()
def tw11462988789413414190:=()
def tw12165819070757117929:=()
def tw9944773193075231914:=()
def tw17177686695482529296:=()
def tw4141073023767306583:=()
def tw17243091552166391148:=()
def tw15187943039612702045:=()
def tw2112766257181012748:=()
def tw15612110388710115508:=()
def tw3575507591806325498:=()
def tw3128141698571324734:=()
def tw18148884415502503139:=()
def tw10419256995807723041:=()
def tw10966108206627449463:=()
def tw14949520318813300617:=()
def tw16290321791388108506:=()
def tw3934377952823859856:=()
def tw14577495703530272138:=()
def tw6020163847314042913:=()
def tw12646395556878256681:=()
def tw2235464917258569128:=()
def tw16406797234439988416:=()
def tw532494027625498448:=()
def tw12667345779500665972:=()
def tw15960229669366117239:=()
def tw8686051896958850843:=()
def tw4896020741612920364:=()
def tw13232503478602959659:=()
def tw17437348186585667252:=()
def tw11037142848543578035:=()
def tw16741557970354827265:=()
def tw2797704286033653783:=()
def tw15652546497278149142:=()
def tw4601726330322002830:=()
def tw1470481193606233667:=()
def tw822632357440880063:=()
def tw13130228664662730808:=()
def tw15353068550152794112:=()
def tw13335780727631232086:=()
def tw16938900198147137941:=()
def tw11718894378212221912:=()
def tw3054648355505995789:=()
def tw4530473504216127024:=()
def tw16950707167088606510:=()
def tw4348017625622468771:=()
def tw8061718265145325453:=()
def tw7356814482182764189:=()
def tw4549883311077484037:=()
def tw13113104285171036462:=()
def tw925792163336075082:=()
def tw1997833701473510732:=()
def tw12058174476555830218:=()
def tw3438140347957068523:=()
def tw7740009212250958014:=()
def tw10045600492271068779:=()
def tw16775508646157103366:=()
def tw9689823575549135381:=()
def tw6834454931386713427:=()
def tw9697196312810293244:=()
def tw17173904848575502003:=()
def tw5991215303691239888:=()
def tw1846799523575349059:=()
def tw15911334882122722842:=()
def tw4881735749988183676:=()
def tw2227631776098084188:=()
def tw9312984888209336634:=()
def tw8626924859468004846:=()
def tw16131959158438080281:=()
def tw9745980457298230010:=()
def tw4290019599698022330:=()
def tw13793903507990464986:=()
def tw12978888412323529629:=()
def tw6072613135774039358:=()
def tw4256745034367097325:=()
def tw10832672980171182655:=()
def tw7704592022971946615:=()
def tw15874881708791320586:=()
def tw17547010878577834447:=()
def tw18412639790877029020:=()
def tw16890739542612392760:=()
def tw11801710691763580553:=()
def tw11271440647594999174:=()
def tw9167779714831186899:=()
def tw16216508591975028293:=()
def tw15379807244147195212:=()
def tw16067464522319978826:=()
def tw12427728544828868556:=()
def tw838799950113665599:=()
def tw3894385805149827508:=()
def tw616000377775174756:=()
def tw3457179136896012162:=()
def tw6826936263005716476:=()
def tw669374831283057724:=()
def tw17010491927085289526:=()
def tw16602226554069346404:=()
def tw1617476861502262357:=()
def tw4407820202807599649:=()
def tw18349296269101648187:=()
def tw1452731813713105669:=()
def tw11882013890008154945:=()
def tw6693923174897907202:=()
def tw13358884901627793969:=()
def tw2755709237801322016:=()
def tw4336360988137393226:=()
def tw1809755483047850757:=()
def tw4793196129516101227:=()
def tw16562117429522075400:=()
def tw2619097658821061509:=()
def tw7522004535172906472:=()
def tw17245740408497932759:=()
def tw13422956615826360589:=()
def tw1661630936581457880:=()
def tw4031244495412307618:=()
def tw10159415436362843002:=()
def tw6689350314040359329:=()
def tw6408668710734117716:=()
def tw11345345893546157932:=()
def tw4038580820056913579:=()
def tw14534718257391785838:=()
def tw8168063509071226747:=()
def tw5171468621697129100:=()
def tw13668880664610898762:=()
def tw15365227587541428037:=()
def tw6576871052685555151:=()
def tw4114914340216683580:=()
def tw10005730171562979116:=()
def tw12542977797356360908:=()
def tw1941222069872716031:=()
def tw12894927598731655539:=()
def tw6471716835489170423:=()
def tw5638517520207958099:=()
def tw1908277134222745832:=()
def tw8754528184254591889:=()
def tw8002882091148895861:=()
def tw11238358663017372083:=()
def tw9937227109680430233:=()
def tw10676534191571702262:=()
def tw5403714965981850197:=()
def tw10378242583247835522:=()
def tw11352944729052285309:=()
def tw15971175588942921539:=()
def tw3408907978136495523:=()
def tw6976657372559715968:=()
def tw3410680781154936687:=()
def tw10237670615198315725:=()
def tw13109757118252934075:=()
def tw9669419652534199631:=()
def tw2957316853753808548:=()
def tw16536688131741875387:=()
def tw9009945169860716951:=()
def tw3599276167670483788:=()
def tw8228865321337344805:=()
def tw6441802268530393086:=()
def tw17185853825895727864:=()
def tw9144339286196307341:=()
def tw12828679236058307822:=()
def tw5786445668904807513:=()
def tw2735251955683922450:=()
def tw11450597033011851784:=()
def tw15023753589871757738:=()
def tw7880876315648465741:=()
def tw11103152412503751625:=()
def tw17333495621922521699:=()
def tw2263441972818676073:=()
def tw6442978079167159747:=()
def tw17329650257073168251:=()
def tw2667996562390464835:=()
def tw9812182067364419753:=()
def tw2880984764592663553:=()
def tw18364581268509514674:=()
def tw14322456349814436057:=()
def tw15660873215770953917:=()
def tw2890721955628265443:=()
def tw14616370463224075088:=()
def tw8764112334661912661:=()
def tw4391818909777354401:=()
def tw12365963841502311452:=()
def tw15331472174811704407:=()
def tw6975417902978365436:=()
def tw12452562336839161048:=()
def tw7506646178468347906:=()
def tw6384833603844269048:=()
def tw4959264561345029734:=()
def tw5003703020348152693:=()
def tw17377436371764059623:=()
def tw6364677814283251553:=()
def tw7072741154911989341:=()
def tw14838145102122127951:=()
def tw17018674406440317522:=()
def tw15723074226422949067:=()
def tw3853998917179726107:=()
def tw10797607354639851988:=()
def tw10084494487902358773:=()
def tw15362296778072683307:=()
def tw5154231190456138030:=()
def tw3394107906001285485:=()
def tw2604661078496640202:=()
def tw9581067995248168760:=()
def tw5656397487280255509:=()
def tw15409544855092440400:=()
def tw15103784064540903098:=()
def tw17563658754905769057:=()
def tw11413047049508130103:=()
def tw12557567942749966721:=()
def tw11782903666413107157:=()
def tw2835671592351790847:=()
def tw14005326713408659736:=()
def tw7111740228298896873:=()
def tw9288185724346281379:=()
def tw386246055688868435:=()
def tw15040712386036650133:=()
def tw7937600120145515271:=()
def tw7033002311504815410:=()
def tw11214144736491229280:=()
def tw15933508494705474897:=()
def tw8273198534678972676:=()
def tw2933935147378799406:=()
def tw13052137553449959167:=()
def tw854026412278192070:=()
def tw9561136018016993512:=()
def tw2164944378429019859:=()
def tw6824008033929439909:=()
def tw13985303848971438272:=()
def tw18159253350456978228:=()
def tw17877449148242261220:=()
def tw5227881783950988288:=()
def tw5422742468275648209:=()
def tw6722897461864162196:=()
def tw17336733142430076894:=()
def tw11364661188256352452:=()
def tw4018183569265354662:=()
def tw1594865120011564729:=()
def tw7656693119672224160:=()
def tw17711176097291007983:=()
def tw14317952845740683854:=()
def tw9355912393267371858:=()
def tw12945586010051027356:=()
def tw4301070299959849672:=()
def tw8754952812672846829:=()
def tw10633733377101960427:=()
def tw11249266794382244845:=()
def tw5131553288169613275:=()
def tw16517107615855866917:=()
def tw15450255465841693407:=()
def tw3044308321661869795:=()
def tw17807000946251969469:=()
def tw17024247954537333138:=()
def tw15058703403344701834:=()
def tw5011550471235582972:=()
def tw3461223335159018920:=()
def tw11695183868448796778:=()
def tw295769376569954634:=()
def tw11495559466676060283:=()
def tw5363993806882548644:=()
def tw18407699135503719371:=()
def tw9254280992991570830:=()
def tw17182491488462685287:=()
def tw16700416290252934270:=()
def tw16181040404632722379:=()
def tw4586881202664830859:=()
def tw1831910123207848833:=()
def tw16725207351996535030:=()
def tw17737621094017819224:=()
def tw1927943358970398634:=()
def tw8836957231801141433:=()
def tw6985847745051347827:=()
def tw1997073907878419317:=()
def tw13678884648926183043:=()
def tw7439853771250067352:=()
def tw8162804760987491628:=()
def tw13117023192691820578:=()
def tw10777995028376385291:=()
def tw16589212144524370834:=()
def tw4995527676391286438:=()
def tw502410233886668300:=()
def tw16129281376690126899:=()
def tw14400539034768316489:=()
def tw10099721621158526585:=()
def tw11295532303468691251:=()
def tw8086238297950410263:=()
def tw17205611827281203578:=()
def tw4646526053880428082:=()
def tw5005276925991207485:=()
def tw812067330347621796:=()
def tw1371289321010723882:=()
def tw690292948909916420:=()
def tw10701934393354212995:=()
def tw12592322434668313202:=()
def tw5462652675686426498:=()
def tw12044235508130893760:=()
def tw9259060936117760399:=()
def tw6410755950007170202:=()
def tw11420800484234174559:=()
def tw124028508893690672:=()
def tw5158940362477511634:=()
def tw9569893708997542828:=()
def tw18442050265220120606:=()
def tw12225475011664562705:=()
def tw3785047451254765949:=()
def tw15757685419276591963:=()
def tw18074212508202523137:=()
def tw9117653457272575699:=()
def tw9265772906174854488:=()
def tw14081522968520362089:=()
def tw4291398930517105328:=()
def tw2745219308197224549:=()
def tw198304568961306698:=()
def tw5831199260285420262:=()
def tw5731621049310914014:=()
def tw14540971786161991682:=()
def tw8575368458655388934:=()
def tw14780257922012254492:=()
def tw629399765809612447:=()
def tw858059536590481398:=()
def tw10247318327438896636:=()
def tw17738382544762681401:=()
end PySem.W.Fast
set_option maxRecDepth 100000 in
set_option maxHeartbeats 0 in
theorem PySem.Challenge.cw_trialdeal_k19_measures_refused_holds : PySem.Challenge.rw_trialdeal_k19_measures_refused.Holds := by
 w_on;o_law;k_head;(case hw=>w_witness2)
 k_fill
 refine My.walk (l:=PySem.Challenge.rw_trialdeal_k19_measures_refused) rfl rfl (λ w h Y=>PySem.W.kIn_of Y) ?F
 case F =>
  intro w mg fa h KX G SE;refine' My.all_mk KX G SE (My.P0 ?jaa ?jab ?jac ?jad ?jae ?jaf ?jag ?jah ?jai ?jaj ?jak ?jal) (My.of3 (My.Ŵ "NoShare" ?jam ?jan ?jao ?jap ?jaq ?jar ?jas ?jat) (mg_of KX G ?jau) (L2.Š ?jav ?jaw ?jax) ?jay) (My.of4 (My.Ŵ "NoNumber" ?jaz ?jaA ?jaB ?jaC ?jaD ?jaE ?jaF ?jaG) (mg_of KX G ?jaH) (L2.Š ?jaI ?jaJ ?jaK) ?jaL) (My.of5 (My.Ŵ "NoFolk" ?jaM ?jaN ?jaO ?jaP ?jaQ ?jaR ?jaS ?jaT) (mg_of KX G ?jaU) (L2.Š ?jaV ?jaW ?jaX) ?jaY) (My.of6 (My.Ŵ "NoWeights" ?jaZ ?ja0 ?ja1 ?ja2 ?ja3 ?ja4 ?ja5 ?ja6) (mg_of KX G ?ja7) (L2.Š ?ja8 ?ja9 ?jba) ?jbb) (My.of7 (My.Ŵ "NoDealing" ?jbc ?jbd ?jbe ?jbf ?jbg ?jbh ?jbi ?jbj) (mg_of KX G ?jbk) (L2.Š ?jbl ?jbm ?jbn) ?jbo) (My.of8 (My.Ŵ "NoTrials" ?jbp ?jbq ?jbr ?jbs ?jbt ?jbu ?jbv ?jbw) (mg_of KX G ?jbx) (L2.Š ?jby ?jbz ?jbA) ?jbB) (My.of9 (My.Ŵ "NoOutcome" ?jbC ?jbD ?jbE ?jbF ?jbG ?jbH ?jbI ?jbJ) (mg_of KX G ?jbK) (L2.Š ?jbL ?jbM ?jbN) ?jbO) (My.UF (My.Ŵ "NotSure" ?jbP ?jbQ ?jbR ?jbS ?jbT ?jbU ?jbV ?jbW) (mg_of KX G ?jbX) (L2.Š ?jbY ?jbZ ?jb0) ?jb1) (My.UE (My.Ŵ "NoPairs" ?jb2 ?jb3 ?jb4 ?jb5 ?jb6 ?jb7 ?jb8 ?jb9) (mg_of KX G ?jca) (L2.Š ?jcb ?jcc ?jcd) ?jce) (My.UD (My.Ŵ "TooMany" ?jcf ?jcg ?jch ?jci ?jcj ?jck ?jcl ?jcm) (mg_of KX G ?jcn) (L2.Š ?jco ?jcp ?jcq) ?jcr)
   ?jcs ?jct ?jcu ?jcv ?jcw ?jcx ?jcy ?jcz ?jcA ?jcB ?jcC ?jcD ?jcE ?jcF ?jcG ?jcH ?jcI ?jcJ ?jcK ?jcL ?jcM ?jcN ?jcO ?jcP ?jcQ ?jcR ?jcS ?jcT ?jcU ?jcV ?jcW ?jcX ?jcY ?jcZ ?jc0 ?jc1 ?jc2 ?jc3 ?jc4 ?jc5 ?jc6 ?jc7 ?jc8 ?jc9 ?jda ?jdb ?jdc ?jdd ?jde ?jdf ?jdg ?jdh ?jdi ?jdj ?jdk ?jdl ?jdm ?jdn ?jdo ?jdp ?jdq ?jdr ?jds ?jdt ?jdu ?jdv ?jdw ?jdx ?jdy ?jdz ?jdA ?jdB ?jdC ?jdD ?jdE ?jdF ?jdG ?jdH ?jdI ?jdJ ?jdK ?jdL ?jdM ?jdN ?jdO ?jdP ?jdQ ?jdR ?jdS ?jdT ?jdU ?jdV ?jdW ?jdX ?jdY ?jdZ ?jd0 ?jd1 ?jd2 ?jd3 ?jd4 ?jd5 ?jd6 ?jd7 ?jd8 ?jd9 ?jea ?jeb ?jec ?jed ?jee ?jef ?jeg ?jeh ?jei ?jej ?jek ?jel ?jem ?jen ?jeo ?jep ?jeq ?jer ?jes ?jet ?jeu ?jev ?jew ?jex ?jey ?jez ?jeA ?jeB ?jeC ?jeD ?jeE ?jeF ?jeG ?jeH ?jeI ?jeJ ?jeK ?jeL ?jeM ?jeN ?jeO (My.Č My.b1 KX G ?jeP ?jeQ ?jeR ?jeS) (My.Č My.b3 KX G ?jeT ?jeU ?jeV ?jeW) (My.Č My.b2 KX G ?jeX ?jeY ?jeZ ?je0) (My.Č My.b2 KX G ?je1 ?je2 ?je3 ?je4) (My.Č My.b1 KX G ?je5 ?je6 ?je7 ?je8) (My.Č My.b3 KX G ?je9 ?jfa ?jfb ?jfc) (My.Č My.b1 KX G ?jfd ?jfe ?jff ?jfg) (My.Č My.b1 KX G ?jfh ?jfi ?jfj ?jfk) (My.Č My.b1 KX G ?jfl ?jfm ?jfn ?jfo) (My.Č My.b1 KX G ?jfp ?jfq ?jfr ?jfs) (My.Č My.b1 KX G ?jft ?jfu ?jfv ?jfw) (My.Č My.b2 KX G ?jfx ?jfy ?jfz ?jfA) (My.Č My.b1 KX G ?jfB ?jfC ?jfD ?jfE) (My.Č My.b2 KX G ?jfF ?jfG ?jfH ?jfI) (My.Č My.b1 KX G ?jfJ ?jfK ?jfL ?jfM) (My.Č My.b2 KX G ?jfN ?jfO ?jfP ?jfQ) (My.Č My.b2 KX G ?jfR ?jfS ?jfT ?jfU) (My.Č My.b2 KX G ?jfV ?jfW ?jfX ?jfY) (My.Č My.b1 KX G ?jfZ ?jf0 ?jf1 ?jf2) (My.Č My.b1 KX G ?jf3 ?jf4 ?jf5 ?jf6) (My.Č My.b1 KX G ?jf7 ?jf8 ?jf9 ?jga) (My.Č My.b1 KX G ?jgb ?jgc ?jgd ?jge) (My.Č My.b1 KX G ?jgf ?jgg ?jgh ?jgi) (My.Č My.b2 KX G ?jgj ?jgk ?jgl ?jgm) (My.Č My.b2 KX G ?jgn ?jgo ?jgp ?jgq) (My.Č My.b2 KX G ?jgr ?jgs ?jgt ?jgu) (My.Č My.b3 KX G ?jgv ?jgw ?jgx ?jgy) (My.Č My.b3 KX G ?jgz ?jgA ?jgB ?jgC) (My.Č My.b3 KX G ?jgD ?jgE ?jgF ?jgG) (My.Č My.b1 KX G ?jgH ?jgI ?jgJ ?jgK) (My.Č My.b4 KX G ?jgL ?jgM ?jgN ?jgO) (My.Č My.b1 KX G ?jgP ?jgQ ?jgR ?jgS) (My.Č My.b4 KX G ?jgT ?jgU ?jgV ?jgW) (My.Č My.b4 KX G ?jgX ?jgY ?jgZ ?jg0) (My.Č My.b3 KX G ?jg1 ?jg2 ?jg3 ?jg4) (My.Č My.b5 KX G ?jg5 ?jg6 ?jg7 ?jg8) (My.Č My.b2 KX G ?jg9 ?jha ?jhb ?jhc) (My.Č My.b2 KX G ?jhd ?jhe ?jhf ?jhg) (My.Č My.b1 KX G ?jhh ?jhi ?jhj ?jhk) (My.Ģ My.b5 ?jhl ?jhm ?jhn ?jho) (My.Ģ My.b1 ?jhp ?jhq ?jhr ?jhs) (My.Ģ My.b1 ?jht ?jhu ?jhv ?jhw) (My.Ģ My.b1 ?jhx ?jhy ?jhz ?jhA) (My.Ģ My.b1 ?jhB ?jhC ?jhD ?jhE) (My.Ģ My.b3 ?jhF ?jhG ?jhH ?jhI) (My.Ģ My.b3 ?jhJ ?jhK ?jhL ?jhM) (My.Ģ My.b4 ?jhN ?jhO ?jhP ?jhQ) (My.Ģ My.b2 ?jhR ?jhS ?jhT ?jhU) (My.Ģ My.b3 ?jhV ?jhW ?jhX ?jhY) (My.Ģ My.b2 ?jhZ ?jh0 ?jh1 ?jh2) (My.Ģ My.b2 ?jh3 ?jh4 ?jh5 ?jh6) (My.Ģ My.b1 ?jh7 ?jh8 ?jh9 ?jia) (My.Ģ My.b1 ?jib ?jic ?jid ?jie) (My.Ģ My.b3 ?jif ?jig ?jih ?jii) (My.Ģ My.b3 ?jij ?jik ?jil ?jim) (My.Ģ My.b3 ?jin ?jio ?jip ?jiq) (My.Ģ My.b1 ?jir ?jis ?jit ?jiu) (My.Ģ My.b3 ?jiv ?jiw ?jix ?jiy) (My.Ģ My.b2 ?jiz ?jiA ?jiB ?jiC) (My.Ģ My.b1 ?jiD ?jiE ?jiF ?jiG) (My.Ģ My.b3 ?jiH ?jiI ?jiJ ?jiK) (My.Ģ My.b2 ?jiL ?jiM ?jiN ?jiO) (My.Ģ My.b1 ?jiP ?jiQ ?jiR ?jiS) (My.Ģ My.b2 ?jiT ?jiU ?jiV ?jiW) (My.Ģ My.b1 ?jiX ?jiY ?jiZ ?ji0) (My.Ģ My.b3 ?ji1 ?ji2 ?ji3 ?ji4) (My.Ģ My.b2 ?ji5 ?ji6 ?ji7 ?ji8) (My.Ģ My.b3 ?ji9 ?jja ?jjb ?jjc)
   (λ s v=>.of_eq rfl)
  case jcs | jau | jaH | jaU | ja7 | jbk | jbx | jbK | jbX | jca | jcn | jaa | jab=>k_is
  (case jac=>exact My.Nf rfl)
  (case jad=>first | rfl | decide +kernel)
  case jae | jaf | jag | jah | jai | jaj | jak | jal | jam | jan | jao | jap | jaq | jar | jas | jat | jav | jaw | jax | jay | jaz | jaA | jaB | jaC | jaD | jaE | jaF | jaG | jaI | jaJ | jaK | jaL | jaM | jaN | jaO | jaP | jaQ | jaR | jaS | jaT | jaV | jaW | jaX | jaY | jaZ | ja0 | ja1 | ja2 | ja3 | ja4 | ja5 | ja6 | ja8 | ja9 | jba | jbb | jbc | jbd | jbe | jbf | jbg | jbh | jbi | jbj | jbl | jbm | jbn | jbo | jbp | jbq | jbr | jbs | jbt | jbu | jbv | jbw | jby | jbz | jbA | jbB | jbC | jbD | jbE | jbF | jbG | jbH | jbI | jbJ | jbL | jbM | jbN | jbO | jbP | jbQ | jbR | jbS | jbT | jbU | jbV | jbW | jbY | jbZ | jb0 | jb1 | jb2 | jb3 | jb4 | jb5 | jb6 | jb7 | jb8 | jb9 | jcb | jcc | jcd | jce | jcf | jcg | jch | jci | jcj | jck | jcl | jcm | jco | jcp | jcq | jcr | jct | jcA | jcI | jcS | jc2 | jdc | jdn | jdx | jdH | jdR | jd1 | jeb | jcw | jcD | jcE | jcL | jcM | jcN | jcO | jcP | jcV | jcW | jcX | jcY | jcZ | jc5 | jc6 | jc7 | jc8 | jc9 | jdf | jdg | jdh | jdi | jdj | jdk | jdq | jdr | jds | jdt | jdu | jdA | jdB | jdC | jdD | jdE | jdF | jdK | jdL | jdM | jdN | jdO | jdP | jdU | jdV | jdW | jdX | jdY | jdZ | jd4 | jd5 | jd6 | jd7 | jd8 | jd9 | jee | jef=>k_is
  case jcJ | jcT | jc3 | jdd | jdo | jdy | jdI | jdS | jd2 | jec =>
   exact My.SU (by k_is) (by k_is) (by k_is) (by k_is) (by k_is) (by k_is) (by k_is) (by k_is) (by k_is) (by k_is)
  case jcK | jcU | jc4 | jde | jdp | jdz | jdJ | jdT | jd3 | jed =>
   repeat (refine My.noS (by k_is) ?_)
   exact trivial
  case jcQ | jcR | jc0 | jc1 | jda | jdb | jdl | jdm | jdv | jdw | jdG | jdQ | jd0 | jea | jeg =>
   repeat (refine My.mrS (by k_is) ?_)
   exact trivial
  case jcu | jcv | jcx | jcy | jcz | jcB | jcC | jcF | jcG | jcH | jeh | jei | jej | jek | jel | jem | jen | jeo | jep | jeq | jer | jes | jet | jeu | jev | jew | jex | jey | jez | jeA | jeB | jeC | jeD | jeE | jeF | jeG | jeH | jeI | jeJ | jeK | jeL | jeM | jeN | jeO | jeP | jeQ | jeR | jeS | jeT | jeU | jeV | jeW | jeX | jeY | jeZ | je0 | je1 | je2 | je3 | je4 | je5 | je6 | je7 | je8 | je9 | jfa | jfb | jfc | jfd | jfe | jff | jfg | jfh | jfi | jfj | jfk | jfl | jfm | jfn | jfo | jfp | jfq | jfr | jfs | jft | jfu | jfv | jfw | jfx | jfy | jfz | jfA | jfB | jfC | jfD | jfE | jfF | jfG | jfH | jfI | jfJ | jfK | jfL | jfM | jfN | jfO | jfP | jfQ | jfR | jfS | jfT | jfU | jfV | jfW | jfX | jfY | jfZ | jf0 | jf1 | jf2 | jf3 | jf4 | jf5 | jf6 | jf7 | jf8 | jf9 | jga | jgb | jgc | jgd | jge | jgf | jgg | jgh | jgi | jgj | jgk | jgl | jgm | jgn | jgo | jgp | jgq | jgr | jgs | jgt | jgu | jgv | jgw | jgx | jgy | jgz | jgA | jgB | jgC | jgD | jgE | jgF | jgG | jgH | jgI | jgJ | jgK | jgL | jgM | jgN | jgO | jgP | jgQ | jgR | jgS | jgT | jgU | jgV | jgW | jgX | jgY | jgZ | jg0 | jg1 | jg2 | jg3 | jg4 | jg5 | jg6 | jg7 | jg8 | jg9 | jha | jhb | jhc | jhd | jhe | jhf | jhg | jhh | jhi | jhj | jhk | jhl | jhm | jhn | jho | jhp | jhq | jhr | jhs | jht | jhu | jhv | jhw | jhx | jhy | jhz | jhA | jhB | jhC | jhD | jhE | jhF | jhG | jhH | jhI | jhJ | jhK | jhL | jhM | jhN | jhO | jhP | jhQ | jhR | jhS | jhT | jhU | jhV | jhW | jhX | jhY | jhZ | jh0 | jh1 | jh2 | jh3 | jh4 | jh5 | jh6 | jh7 | jh8 | jh9 | jia | jib | jic | jid | jie | jif | jig | jih | jii | jij | jik | jil | jim | jin | jio | jip | jiq | jir | jis | jit | jiu | jiv | jiw | jix | jiy | jiz | jiA | jiB | jiC | jiD | jiE | jiF | jiG | jiH | jiI | jiJ | jiK | jiL | jiM | jiN | jiO | jiP | jiQ | jiR | jiS | jiT | jiU | jiV | jiW | jiX | jiY | jiZ | ji0 | ji1 | ji2 | ji3 | ji4 | ji5 | ji6 | ji7 | ji8 | ji9 | jja | jjb | jjc=>k_is
