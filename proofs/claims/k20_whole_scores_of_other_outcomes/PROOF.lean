import PyProof.Rows.All
import Wide.All
import OpenK.AllK
import Wide.FinOn
import Lean
import PyProof.EqAt
import PyProof.EqKinds
import PyProof.TupleCall
import PyProof.ExcClass2
import PyProof.InstStoreFacts
import PyProof.ExcArgs
import PyProof.ExcInit
import PyProof.ExcBaseAll.ValueError
import KE.KIsAll
import PyProof.RulesRaise
import PyProof.RulesAs
import PyProof.RaisesMany
import PyProof.NeKinds
import PyProof.EnumFor
import PyProof.EnumStmt
import PyProof.EnumMake
import PyProof.Rows.EnumRows
import PyProof.CompFree
import KE.KIntText
import PyProof.StrBlockG
import PyProof.StrBlockH
import PyProof.StrWalks
import PyProof.Rows.StrNews2
import PyProof.Rows.StrOr
import PyProof.Rows.Digits
import PyProof.StrBlockL
import PyProof.MeetsStr2
import PyProof.CompMap
import KE.IntTextLaws
import PyProof.Rows.StrPartPair
import PyProof.StrLawsTight
import PyProof.StrLawsChain
import PyProof.Rows.StrIntSpec
import PyProof.Rows.StrItems
import PyProof.ReprRoads
import PyProof.ReprBulk
import PyProof.FitsInt
import PyProof.CallFns
import PyProof.Rows.FactsT3
import PyProof.ListRange
import PyProof.TupleOfSeq
import PyProof.TupleOfGen
import PyProof.ConsumeWalk
import PyProof.Rows.SeqGen
import PyProof.CompUse
import KE.KUnpack
import PyProof.Draws
import PyProof.Rows.RuleB_bool
import PyProof.WalkInts
import PyProof.SeqI3
import KE.KRevSl
import KE.BitLaws
import PyProof.Rows.SumAny
import PyProof.ZipIter
import PyProof.TupleIter
import PyProof.WalksMore
import PyProof.Rows.FactsT2
import PyProof.Rows.SortWalk
import PyProof.Rows.SeqMore2
import PyProof.DictCompW
import PyProof.Cells
import PySem.Challenge.RW_trialdeal_k20_whole_scores_of_other_outc
set_option autoImplicit true
set_option relaxedAutoImplicit true
set_option linter.all false
def À:=@PySem.wpAny_bind
def Á:=@List.getElem?_eq_getElem
def Â:=@PySem.Heap.get?_push_of_some
def Ã:=@List.length_map
def Å:=@PySem.Heap.lt_size
def Æ:=@List.getElem?_eq_some_iff
def Ç:=@Nat.le_refl
def È:=@PySem.wpAny_pure
def É:=@List.length_append
def Ê:=@decide_eq_true
def Ë:=@List.mem_append_right
def Ì:=@List.getElem?_map
def Í:=@decide_eq_false
def Î:=@List.map_append
def Ð:=@Nat.ne_of_lt
def Ñ:=@Bool.false_ne_true
def Ò:=@PySem.Heap.get?_push_size
def Ó:=@Option.map_eq_some_iff
def Ô:=@PySem.sizeLine_eq
def Õ:=@List.take_length
def Ø:=@List.mem_cons_of_mem
def Ù:=@List.length_replicate
def Ú:=@List.mem_of_getElem?
def Û:=@List.size_toArray
def Ü:=@if_neg
def Ý:=@Option.some.inj
def ß:=@List.getD_eq_getElem?_getD
def à:=@PyProof.Rows.boot_isinstance
def á:=@List.mem_cons
def â:=@if_pos
def ã:=@beq_eq_false_iff_ne
def ä:=@List.mem_singleton
def å:=@List.getElem?_append_right
def æ:=@Nat.lt_of_lt_of_le
def ç:=@PySem.mem_of_lookup
def è:=@PySem.boot_len
def é:=@List.lookup_cons
def ê:=@List.mem_map
def ë:=@List.map_cons
def ì:=@List.mem_cons_self
def í:=@PySem.Heap.get?_update_ne
def ï:=@PySem.wpAny_mono
def ð:=@Nat.le_trans
def ñ:=@PySem.Heap.size_push
def ò:=@List.getElem?_append_left
def ô:=@Int.toNat_natCast
def õ:=@PyProof.Rows.boot_tuple
def ö:=@List.map_congr_left
def ù:=@PySem.wpAny_field
def ú:=@List.all_eq_true
def û:=@List.length_cons
def ü:=@List.getElem_mem
def ý:=@List.map_map
def ÿ:=@PySem.wpAny_setField_rec
def Ā:=@beq_iff_eq
def ā:=@Array.getElem?_eq_some_iff
def Ă:=@PySem.wpAny_callSpecial?_slot
def ă:=@PySem.wpAny_holding
def Ć:=@Nat.lt_succ_of_lt
def ć:=@List.flatten_cons
def Ċ:=@PySem.W.kia_tup
def ċ:=@PySem.W.kia_one
def Č:=@PySem.wpAny_newObj_type
def č:=@PySem.Heap.get?_update_self
def Ď:=@List.length_take
def ď:=@PyProof.Rows.callWith_type1
def Ē:=@PySem.wpAny_call_entry
def ē:=@of_decide_eq_true
def Ĕ:=@congrArg
def ĕ:=@PyProof.Rows.boot_list
def Ę:=@List.append_nil
def ě:=@decide_eq_decide
def ğ:=@List.mem_append
def Ġ:=@List.getElem_of_mem
def ģ:=@Nat.zero_le
def Ĥ:=@PySem.F.slot_zip_next
def Ħ:=@PySem.W.mg_none_of
def ħ:=@List.length_filter_le
def Ĩ:=@PySem.wpAny_standAt
def Ī:=@PySem.wpAny_Call_Name_kw
def ī:=@Nat.lt_or_ge
def ĭ:=@Option.isSome_iff_exists
def Į:=@Nat.lt_irrefl
def ı:=@List.replicate_succ
def Ĳ:=@PySem.F.plainAttrs_list
def ĳ:=@List.length_eq_zero_iff
def Ĵ:=@List.filter_cons_of_pos
def ĵ:=@List.filter_cons_of_neg
def Ķ:=@List.filter_cons
def Ĺ:=@PySem.wpAny_comprehension_free
def ĺ:=@List.contains_cons
def Ļ:=@Int.emod_lt_of_pos
def ļ:=@PySem.wpAny_seqItems
def Ľ:=@Nat.not_lt_zero
def ľ:=@List.sum_cons
def Ŀ:=@Bool.true_and
def Ń:=@PySem.wpAny_passesOwn
def ń:=@PySem.wpAny_ite_false
def Ņ:=@PySem.F.slot_NoneType_hash
def ň:=@Nat.ne_of_gt
def Ŋ:=@PySem.wpAny_truthy_bool
def ō:=@PySem.F.slot_tuple_iterator_next
def Ő:=@List.length_set
def ő:=@decide_eq_true_iff
def Œ:=@PySem.W.callWith_K
def œ:=@Nat.not_lt
def Ŕ:=@List.filter_append
def ś:=@PySem.PassesOwn.never
def ŝ:=@PySem.W.mg_of
def Š:=@PySem.W.methodCall_KW
def š:=@PyProof.Rows.boot_sum
def Ť:=@beq_self_eq_true
def ť:=@PySem.W.Looks.here
def Ū:=@PySem.wpAny_nextOf_list_item
def ū:=@PySem.codeAny_mono
def Ŭ:=@PySem.codeAny_compStart_list
def ŭ:=@Nat.le_succ
def Ů:=@List.mem_of_mem_take
def ů:=@PySem.Heap.get?_push_at
def ŵ:=@List.of_mem_zip
def Ŷ:=@List.countP_map
def ŷ:=@Int.emod_nonneg
def Ž:=@PySem.F.slot_enumerate_next
def ſ:=@PySem.wpAny_attempt
def Α:=@PySem.wpAny_newFunctionEnv
def Β:=@Bool.false_and
def Μ:=@PySem.W.kitx_list
def Ν:=@PySem.W.kitx_dict
def Ξ:=@Nat.le_succ_of_le
def Υ:=@PySem.wpAny_call
def Φ:=@PyProof.Rows.boot_range
def Χ:=@List.getElem?_replicate
def Ψ:=@Bool.and_eq_true
def η:=@Nat.sub_self
def θ:=@Nat.lt_trans
def ι:=@Nat.le_of_eq
def ν:=@Int.zero_add
def π:=@PySem.wpAny_pyIter_enum
def ρ:=@Option.map_some
def ς:=@List.nodup_cons
def τ:=@List.filter_nil
def υ:=@Int.natCast_add
def χ:=@PySem.F.args_zip_next_1
def ψ:=@Bool.eq_iff_iff
def b_:=@PyProof.Rows.boot_int
def c_:=@List.getElem?_eq_none
def m_:=@PySem.F.entry_zip_next
def A_:=@PySem.wpAny_rule
def B':=@PySem.call_meets
def B_:=@PySem.W.plainGet_of
def C_:=@List.filterMap_cons
def Jz:=@PySem.wpAny_execs_nil
def JA:=@PySem.SeqAt.EqAt.same
def JB:=@List.all_cons
def J6:=@PySem.wpAny_updateSeq_pair
def J7:=@PySem.wpAny_setField
def J8:=@PySem.codeAny_call_builtin
def J9:=@List.map_nil
def J':=@List.append_assoc
def J_:=@List.all_map
def Kn:=@PyProof.Rows.callWith_builtin1
def Ko:=@Option.bind_some
def Kp:=@Nat.lt_succ_self
def Kq:=@List.length_drop
def Kr:=@List.countP_cons
def KJ:=@PySem.wpAny_onRaise
def K4:=@PySem.Obj.data_mapFields
def K5:=@List.sum_append
def K6:=@List.mem_filter
def K7:=@List.length_nil
def LI:=@PySem.wpAny_pyIter_list
def LJ:=@PySem.wpAny_loadPart_at
def LK:=@PySem.F.excBase_ValueError
def LL:=@PySem.F.excAttr_ValueError
def LM:=@PySem.PassesOwn.leaving
def MF:=@PySem.plainObj_wpAny_Assign_Attribute
def MR:=@PySem.wpAny_pyIter_zip
def MT:=@PySem.W.looks_findIn
def MU:=@PySem.F.type_list_append
def MV:=@PySem.F.slot_list_append
def MW:=@List.map_take
def MX:=@List.any_cons
def MY:=@PySem.Heap.size_update
def Nn:=@PySem.F.slot_list_index
def NO:=@PySem.wpAny_specialOf
def NP:=@PySem.wpAny_loadPart'
def NQ:=@PySem.W.cellsFrom_some
def NR:=@PyProof.Rows.boot_bool
def NS:=@Nat.le_of_lt
def NT:=@Nat.add_comm
def NU:=@List.range_succ_eq_map
def NV:=@List.map_set
def NW:=@List.getElem?_set_self
def NX:=@PySem.F.args_tuple_iterator_next_1
theorem ao {p:Prop}(h:p:=by decide +kernel):p:=h
theorem ar {p:Prop}(h:p:=by decide):p:=h
theorem ak {p:Prop}(h:p:=by omega):p:=h
theorem dZ {n:Nat}(h:Nat.ble n 1000=true:=by exact rfl):n<=PySem.sizeLine:=ð (Nat.le_of_ble_eq_true h) (by decide)
abbrev eH:=PySem.Value->PySem.Shared->Prop
abbrev bL:=PySem.Str->Option PySem.Value
abbrev cC (l:List (PySem.Str × PySem.NameKind)):PySem.Scope:={ kind:=.function,names:=(".0",.local)::l,isGenerator:=false,isCoroutine:=false }
set_option Elab.async false
set_option maxRecDepth 100000
namespace L2
open PySem PySem.Spec PyProof.Rows
inductive Key where
 | inl (i:Int) | inr (x:Str) | ą
 deriving DecidableEq
def ja:Key->Value->Bool
 | .inl k,v=>Value.isInt k v
 | .inr x,v=>Value.isStrOf x v
 | .ą,v=>v == .none
def G5 (w:World):Key->Int
 | .inl k=>hashInt k
 | .inr x=>hashStr w x
 | .ą=>0xFCA86420
theorem lK (h:Q 0xFCA86420 { s with toks:=s.toks+1 }):wpAny (model prog w) A (pyHash .none) Q E s:=by
 have hT:s.TypeIs .none "NoneType" := rfl;have hv:[Value.none].any Value.onHeap=false:=rfl;refine À ?_;rw [cRoomFor,Ü (by rw [hv];exact Ñ)];refine È ?_
 refine À (NO hT Ņ.lookup ?_);rw [Ü (by rw [beq_builtin_none];exact Ñ)]
 refine À (NO hT Ņ.lookup ?_);refine À (wpAny_callSpecialIfBoundUnlessNone?_slot hT Ņ
  (Ē Ņ hT PySem.F.entry_NoneType_hash
   (show wpAny _ _ (do ret (<- mkInt 0xFCA86420)) _ _ s from wpAny_ret_mkInt ?_) (PySem.F.args_NoneType_hash_1 _)))
 show wpAny _ _ (if(decide (-(2:Int)^63<=0xFCA86420)&&decide ((0xFCA86420:Int)<2^63))=true then _ else _) Q E _
 rw [â ar];exact È h
theorem bf:∀{k:Key}{v:Value},ja k v=true->(∃ i t,k=Key.inl i/\v=Value.int i t)\/(∃ x t,k=Key.inr x/\v=Value.str x t)\/(k=Key.ą/\v=Value.none)
 | .inl i,v,h=>by
  obtain⟨t,e⟩:=Value.isInt_shape h;exact .inl ⟨i,t,rfl,e⟩
 | .inr x,v,h=>by
  obtain⟨t,e⟩:=Value.isStrOf_shape h;exact .inr (.inl ⟨x,t,rfl,e⟩)
 | .ą,v,h=>.inr (.inr ⟨rfl,eq_of_beq h⟩)
theorem qI (i:Int)(t:Tok):ja (.inl i) (.int i t)=true:=by simp [ja,Value.isInt]
theorem p7 (x:Str)(t:Tok):ja (.inr x) (.str x t)=true:=by simp [ja,Value.isStrOf]
theorem zh (a b:Int):decide (Key.inl a=Key.inl b)=(a==b):=by
 by_cases e:a=b
 ·subst e;simp
 ·rw [Í (λ q=>e (Key.inl.inj q))];exact(ã.mpr e).symm
theorem AG (a b:Str):decide (Key.inr a=Key.inr b)=decide (a=b):=by
 by_cases e:a=b
 ·subst e;simp
 ·rw [Í (λ q=>e (Key.inr.inj q)),Í e]
theorem yi (a:Int)(b:Str):decide (Key.inl a=Key.inr b)=false:=Í (λ q=>nomatch q)
theorem xq (a:Str)(b:Int):decide (Key.inr a=Key.inl b)=false:=Í (λ q=>nomatch q)
theorem Bn (a:Int):decide (Key.inl a=Key.ą)=false:=Í (λ q=>nomatch q)
theorem Bf (a:Int):decide (Key.ą = Key.inl a)=false:=Í (λ q=>nomatch q)
theorem zb (a:Str):decide (Key.inr a=Key.ą)=false:=Í (λ q=>nomatch q)
theorem yL (a:Str):decide (Key.ą = Key.inr a)=false:=Í (λ q=>nomatch q)
def bM (prog:Program)(w:World):PySem.KeyKind prog w Key where
 is:=ja
 hash:=G5 w
 inj:=λ v a b ha hb=>by
  rcases bf ha with⟨i,t,rfl,rfl⟩ | ⟨x,t,rfl,rfl⟩ | ⟨rfl,rfl⟩
  ·rcases bf hb with⟨j,u,rfl,e⟩ | ⟨y,u,rfl,e⟩ | ⟨rfl,e⟩
   ·injection e with e1 _;rw [e1]
   ·exact nomatch e
   ·exact nomatch e
  ·rcases bf hb with⟨j,u,rfl,e⟩ | ⟨y,u,rfl,e⟩ | ⟨rfl,e⟩
   ·exact nomatch e
   ·injection e with e1 _;rw [e1]
   ·exact nomatch e
  ·rcases bf hb with⟨j,u,rfl,e⟩ | ⟨y,u,rfl,e⟩ | ⟨rfl,e⟩
   ·exact nomatch e
   ·exact nomatch e
   ·rfl
 byValue:=λ k v h=>by
  rcases bf h with⟨i,t,rfl,rfl⟩ | ⟨x,t,rfl,rfl⟩ | ⟨rfl,rfl⟩ <;> rfl
 pyHash:=λ hv h=>by
  rcases bf hv with⟨i,t,rfl,rfl⟩ | ⟨x,t,rfl,rfl⟩ | ⟨rfl,rfl⟩
  ·exact wpAny_pyHash_int h
  ·exact wpAny_pyHash_str h
  ·exact lK h
 eqBool:=λ hu hv h=>by
  rcases bf hu with⟨i,t,rfl,rfl⟩ | ⟨x,t,rfl,rfl⟩ | ⟨rfl,rfl⟩
  ·rcases bf hv with⟨j,u,rfl,rfl⟩ | ⟨y,u,rfl,rfl⟩ | ⟨rfl,rfl⟩
   ·rw [zh] at h;exact wpAny_eqBool_int h
   ·rw [yi] at h;exact SeqAt.EqAt.int_str i t y u _ _ _ _ h
   ·rw [Bn] at h;exact SeqAt.EqAt.int_none i t _ _ _ _ h
  ·rcases bf hv with⟨j,u,rfl,rfl⟩ | ⟨y,u,rfl,rfl⟩ | ⟨rfl,rfl⟩
   ·rw [xq] at h;exact SeqAt.EqAt.str_int x t j u _ _ _ _ h
   ·rw [AG] at h;exact wpAny_eqBool_str h
   ·rw [zb] at h;exact SeqAt.EqAt.str_none x t _ _ _ _ h
  ·rcases bf hv with⟨j,u,rfl,rfl⟩ | ⟨y,u,rfl,rfl⟩ | ⟨rfl,rfl⟩
   ·rw [Bf] at h;exact SeqAt.EqAt.none_int j u _ _ _ _ h
   ·rw [yL] at h;exact SeqAt.EqAt.none_str y u _ _ _ _ h
   ·exact JA _ _ _ _ _ (by simpa using h)
 «strs» := λ k x t v h=>by
  rcases bf h with⟨i,u,rfl,e⟩ | ⟨y,u,rfl,e⟩ | ⟨rfl,e⟩
  ·exact nomatch e
  ·injection e with e1 _
   subst e1;cases v <;> rfl
  ·exact nomatch e
theorem nE (prog:Program)(w:World)(k:Key)(v:Value):(bM prog w).is k v=ja k v:=rfl
theorem kJ (prog:Program)(w:World)(i:Int)(t:Tok):(bM prog w).is (.inl i) (.int i t)=true:=qI i t
theorem k8 (prog:Program)(w:World)(x:Str)(t:Tok):(bM prog w).is (.inr x) (.str x t)=true:=p7 x t
inductive V where
 | ą | bl (b:Bool) | int (i:Int) | str (x:Str) | LH (b:Array UInt8) | MN (b:UInt64) | ref (a:Addr) | ty (n:String)
 deriving DecidableEq
def RelV:V->Value->Prop
 | .ą,u=>u=Value.none
 | .bl b,u=>u=Value.bool b
 | .int i,u=>∃ t,u=Value.int i t
 | .str x,u=>∃ t,u=Value.str x t
 | .LH b,u=>∃ t,u=Value.bytes b t
 | .MN b,u=>∃ t,u=Value.float b t
 | .ref a,u=>u=Value.ref a
 | .ty n,u=>u=Value.type n
abbrev Vals:List V->List Value->Prop:=Paired RelV
theorem Vals.length {xs:List V}{us:List Value}(r:Vals xs us):xs.length=us.length:=Paired.length r
theorem Vals.get:∀{xs:List V}{us:List Value}{i:Nat}{x:V},Vals xs us->xs[i]?=some x->∃ u,us[i]?=some u/\RelV x u
 | _,_,_,_,.nil,e=>by simp at e
 | _,_,0,_,.cons r _,e=>by simp at e;subst e;exact⟨_,rfl,r⟩
 | _,_,i+1,x,.cons _ t,e=>by
  obtain⟨u,h1,h2⟩:=Vals.get t (by simpa using e)
  exact⟨u,by simpa using h1,h2⟩
theorem Vals.set (r:RelV x u):∀{xs:List V}{us:List Value}(i:Nat),Vals xs us->Vals (xs.set i x) (us.set i u)
 | _,_,_,.nil=>.nil
 | _,_,0,.cons _ t=>.cons r t
 | _,_,i+1,.cons q t=>.cons q (Vals.set r i t)
theorem Vals.append:∀{xs ys:List V}{us ws:List Value},Vals xs us->Vals ys ws->Vals (xs++ys) (us++ws)
 | _,_,_,_,.nil,s=>s
 | _,_,_,_,.cons r t,s=>.cons r (Vals.append t s)
theorem Vals.take:∀{xs:List V}{us:List Value}(n:Nat),Vals xs us->Vals (xs.take n) (us.take n)
 | _,_,0,_=>.nil
 | _,_,_+1,.nil=>.nil
 | _,_,n+1,.cons r t=>.cons r (Vals.take n t)
theorem Vals.drop:∀{xs:List V}{us:List Value}(n:Nat),Vals xs us->Vals (xs.drop n) (us.drop n)
 | _,_,0,r=>r
 | _,_,_+1,.nil=>.nil
 | _,_,n+1,.cons _ t=>Vals.drop n t
def ε:Option V->Option Value->Prop
 | some v,some u=>RelV v u
 | none,none=>True
 | _,_=>False
def KV {κ:Type}:List (κ × V)->List (κ × Value)->Prop:=Paired λ (p:κ × V)(q:κ × Value)=>p.1=q.1/\RelV p.2 q.2
def kV:Key->V
 | .inl i=>.int i
 | .inr x=>.str x
 | .ą=>.ą
inductive HO where
 | lst (xs:List V)
 | tup (xs:List V)
 | dK (Ě:List (Key × V)) | dT (Ě:List (List Key × V))
 | set (S:Int->Bool)(n:Nat)
 | ins (C dx:Addr)(fs:List (Str × V))
 | own (x:Addr)
 | xd (fs:List (Str × V))
 | met (f x:Addr)
 | J3 (lo hi:Int)
 | J5 (o:Obj)(u:HO)
 | N3 (ps:Array Value)
 | ext (φ:Heap->Prop)
abbrev Hp:=Addr->Option HO
def af (H:Hp)(a:Addr)(o:HO):Hp:=λ b=>if b=a then some o else H b
theorem aO {H:Hp}:af H a o a=some o:=by unfold af;rw [â rfl]
theorem ah (h:b≠a):af H a o b=H b:=by unfold af;rw [Ü h]
theorem fg:af (af H a o) a u=af H a u:=by
 funext b;unfold af;split <;> rfl
theorem cR {H:Hp}(h:H a=some o)(h':H b=none):a≠b:=by
 intro e;subst e;rw [h] at h';cases h'
section
variable (P:Program)(w:World)
def þ (H:Hp)(h:Heap)(a:Addr):HO->Prop
 | .lst xs=>xs.length<=sizeLine/\∃(its:List Value)(n:Nat),Vals xs its/\h.get? a=some { cls:=.type "list",data:=.seq its.toArray n }
 | .tup xs=>xs.length<=sizeLine/\∃ its:List Value,Vals xs its/\IsTup h a its.toArray
 | .dK Ě=>Ě.length<=sizeLine/\(a==sysModules)=false/\∃ vs,KV Ě vs/\h.DictOf (bM P w) a vs
 | .dT Ě=>Ě.length<=sizeLine/\(a==sysModules)=false/\∃ xs:List (List Key × Addr × Value),
   Paired (λ (p:List Key × V)(q:List Key × Addr × Value)=>p.1=q.1/\H q.2.1=some (.tup (p.1.map kV))/\RelV p.2 q.2.2) Ě xs /\
   ∃ o es ep,h.get? a=some o/\o.ExactDict/\o.data=.dict es ep/\es.toList=xs.map (entryOfKey (tupleKind (bM P w)))/\(xs.map (·.1)).Nodup
 | .set S n=>h.SetOf (intKind P w) a S n
 | .ins C dx fs=>H dx=some (.own a)/\fs.length<=1000/\dx≠a/\h.get? a=some (PySem.W.instObj C dx) /\
   ∃ mA,h.Ns1 dx mA/\(∀ f,ε (fs.lookup f) (mA f))/\PySem.Within mA (fs.map (·.1))
 | .own _=>∃ o,h.get? a=some o
 | .xd fs=>∃ mA,h.Ns1 a mA/\∀ f,ε (fs.lookup f) (mA f)
 | .J3 lo hi=>∃ t u v,h.get? a=some { cls:=.type "range",data:=.fields #[.int lo t,.int hi u,.int 1 v] }
 | .J5 o u=>h.get? a=some o/\þ H h a u
 | .N3 ps=>h.get? a=some { cls:=.none,data:=.fields ps }
 | .met f x=>h.get? a=some (PySem.W.methodObj (.ref f) (.ref x))
 | .ext φ=>φ h/\(∃ o,h.get? a=some o)/\∀ h1 h2:Heap,φ h1->(∀ o,h1.get? a=some o->h2.get? a=some o)->φ h2
def Ι (H:Hp)(h:Heap):Prop:=∀ a o,H a=some o->þ P w H h a o
end
section
variable {P:Program}{w:World}{H H':Hp}{h h':Heap}{a:Addr}{o:HO}
theorem þ.lt (x:þ P w H h a o):a<h.objs.size:=by
 cases o with
 | lst xs=>obtain⟨_,_,_,_,e⟩:=x;exact Å e
 | tup xs=>obtain⟨_,_,_,p⟩:=x;exact p.lt
 | dK Ě=>obtain⟨_,_,_,_,o,_,_,e,_⟩:=x;exact Å e
 | dT Ě=>obtain⟨_,_,_,_,o,_,_,e,_⟩:=x;exact Å e
 | set S n=>obtain⟨o,_,_,_,e,_⟩:=x;exact Å e
 | ins C dx fs=>obtain⟨_,_,_,e,_⟩:=x;exact Å e
 | own y=>obtain⟨_,e⟩:=x;exact Å e
 | xd fs=>obtain⟨_,⟨_,_,_,e,_⟩,_⟩:=x;exact Å e
 | J3 lo hi=>obtain⟨_,_,_,e⟩:=x;exact Å e
 | J5 ob u=>obtain⟨e,_⟩:=x;exact Å e
 | N3 ps=>exact Å (show h.get? a=some _ from x)
 | met f y=>exact Å (show h.get? a=some _ from x)
 | ext φ=>obtain⟨_,⟨_,e⟩,_⟩:=x;exact Å e
theorem Paired.P2 {α β:Type}{F G:α->β->Prop}:∀{P8:List α}{P7:List β},Paired F P8 P7->(∀ a b,F a b->G a b)->Paired G P8 P7
 | _,_,.nil,_=>.nil
 | _,_,.cons r t,f=>.cons (f _ _ r) (Paired.P2 t f)
theorem þ.d_ (x:þ P w H h a o)(k:∀ b u,(b=a\/H b=some (.own a))->h.get? b=some u->h'.get? b=some u)
  (ho:∀ b,H b=some (.own a)->H' b=some (.own a))(ht:∀ b xs,H b=some (.tup xs)->H' b=some (.tup xs)):þ P w H' h' a o:=by
 induction o with
 | lst xs=>obtain⟨z,its,n,r,e⟩:=x;exact⟨z,its,n,r,k _ _ (.inl rfl) e⟩
 | tup xs=>obtain⟨z,its,r,ob,e,c⟩:=x;exact⟨z,its,r,ob,k _ _ (.inl rfl) e,c⟩
 | dK Ě=>obtain⟨z,y,vs,r,ob,es,ep,e,c⟩:=x;exact⟨z,y,vs,r,ob,es,ep,k _ _ (.inl rfl) e,c⟩
 | dT Ě =>
  obtain⟨z,y,xs,r,ob,es,ep,e,c⟩:=x;exact⟨z,y,xs,Paired.P2 r λ p q z=>⟨z.1,ht _ _ z.2.1,z.2.2⟩,ob,es,ep,k _ _ (.inl rfl) e,c⟩
 | set S n=>obtain⟨ob,es,ep,t,e,c⟩:=x;exact⟨ob,es,ep,t,k _ _ (.inl rfl) e,c⟩
 | ins C dx fs =>
  obtain⟨d,z,ne,e,mA,⟨od,es,ep,e2,c⟩,r⟩:=x;exact⟨ho _ d,z,ne,k _ _ (.inl rfl) e,mA,⟨od,es,ep,k _ _ (.inr d) e2,c⟩,r⟩
 | own y=>obtain⟨ob,e⟩:=x;exact⟨ob,k _ _ (.inl rfl) e⟩
 | xd fs=>obtain⟨mA,⟨od,es,ep,e,c⟩,r⟩:=x;exact⟨mA,⟨od,es,ep,k _ _ (.inl rfl) e,c⟩,r⟩
 | J3 lo hi=>obtain⟨t,u,v,e⟩:=x;exact⟨t,u,v,k _ _ (.inl rfl) e⟩
 | J5 ob u ih=>obtain⟨e,q⟩:=x;exact⟨k _ _ (.inl rfl) e,ih q⟩
 | N3 ps =>
  have e:=x;exact k a _ (.inl rfl) e
 | met f y =>
  have e:=x;exact k a _ (.inl rfl) e
 | ext φ=>obtain⟨p,⟨o,e⟩,st⟩:=x;exact⟨st _ _ p λ o q=>k _ _ (.inl rfl) q,⟨o,k _ _ (.inl rfl) e⟩,st⟩
theorem Ι.lt (x:Ι P w H h)(e:H a=some o):a<h.objs.size:=(x a o e).lt
theorem Ι.fresh (x:Ι P w H h)(e:h.objs.size<=a):H a=none:=by
 cases q:H a with
 | none=>rfl
 | some u=>exact absurd (æ (x.lt q) e) (Į _)
theorem Ι.kept (x:Ι P w H h)(k:∀ b u,h.get? b=some u->h'.get? b=some u):Ι P w H h':=λ a o e =>
 (x a o e).d_ (λ b u _ q=>k b u q) (λ _ q=>q) λ _ _ q=>q
theorem Ι.laid (x:Ι P w H h)(k:∀ b u,h.get? b=some u->h'.get? b=some u)(hp:h.objs.size<=a)(new:þ P w (af H a o) h' a o):Ι P w (af H a o) h':=λ b u e=>by
 have hn:=x.fresh hp;by_cases hb:b=a
 ·subst hb;rw [aO] at e;cases e;exact new
 ·rw [ah hb] at e;exact(x b u e).d_ (λ c v _ q=>k c v q) (λ c q=>by rw [ah (cR q hn)];exact q) λ c xs q=>by rw [ah (cR q hn)];exact q
end
def Rd (H:Hp)(a:Addr)(u:HO):Prop:=H a=some u\/∃ o,H a=some (.J5 o u)
theorem Rd.ok {P:Program}{w:World}{H:Hp}{h:Heap}{a:Addr}{u:HO}(r:Rd H a u)(x:Ι P w H h):þ P w H h a u:=by
 rcases r with r | ⟨o,r⟩
 ·exact x a u r
 ·obtain⟨_,q⟩:=x a _ r;exact q
def E9:Option HO->Prop
 | some (.lst _)=>True
 | some (.dK _)=>True
 | some (.dT _)=>True
 | some (.set _ _)=>True
 | some (.ins _ _ _)=>True
 | some (.ext _)=>True
 | _=>False
section
variable {P:Program}{w:World}{H:Hp}{h h':Heap}{x e:Addr}{o':HO}
theorem Ι.write (ok:Ι P w H h)(mu:E9 (H x))(he:e=x\/H e=some (.own x))(k:∀ b u,b≠e->h.get? b=some u->h'.get? b=some u)(O0:∃ u,h'.get? e=some u)
  (new:þ P w (af H x o') h' x o'):Ι P w (af H x o') h':=λ b u q=>by
 have PL:∀ c y,H c=some (.own y)->c≠x:=λ c y r z=>by subst z;rw [r] at mu;exact mu
 have RY:∀ c xs,H c=some (.tup xs)->c≠x:=λ c xs r z=>by subst z;rw [r] at mu;exact mu
 by_cases hb:b=x
 ·subst hb;rw [aO] at q;cases q;exact new
 ·rw [ah hb] at q;by_cases Oo:b=e
  ·have q':H b=some (.own x):=by
    rcases he with z | z
    ·exact absurd (Oo.trans z) hb
    ·rw [Oo];exact z
   rw [q] at q';cases q';obtain⟨v,hv⟩:=O0;exact⟨v,by rw [Oo];exact hv⟩
  ·refine(ok b u q).d_ (λ c v hc r=>k c v ?_ r) (λ c r=>by rw [ah (PL c b r)];exact r) λ c xs r=>by rw [ah (RY c xs r)];exact r
   rcases hc with rfl | hc
   ·exact Oo
   ·rintro rfl;rcases he with z | z
    ·exact PL c b hc z
    ·rw [hc] at z;cases z;exact hb rfl
end
structure Un (fs ex:List Addr)(H H':Hp)(h h':Heap):Prop where
 keep:∀ b o,h.get? b=some o->H b=none->b ∉ fs->b ∉ ex->h'.get? b=some o
 slot:∀ b o,h.get? b=some o->H b=none->b∈fs->b ∉ ex->∃ sl,h'.get? b=some { o with slots:=sl }
 free:∀ b o,h.get? b=some o->H b=none->b ∉ ex->H' b=none
 there:∀ b o,h.get? b=some o->b ∉ ex->∃ o',h'.get? b=some o'
 H_:∀ b xs,H b=some (.tup xs)->H' b=some (.tup xs)
 w_:∀ b o u,H b=some (.J5 o u)->H' b=some (.J5 o u)
 I_:∀ b ps,H b=some (.N3 ps)->∃ more,H' b=some (.N3 (ps++more))
 sys:H sysModules=none->H' sysModules=none
section
variable {fs Zj ex ex':List Addr}{H H1 H2:Hp}{h h1 h2 h':Heap}{a x e:Addr}{o:HO}
theorem Un.any (u:Un fs ex H H1 h h1)(q:h.get? b=some ob)(n:H b=none)(hx:b ∉ ex):∃ sl,h1.get? b=some { ob with slots:=sl }:=by
 by_cases hb:b∈fs
 ·exact u.slot b ob q n hb hx
 ·exact⟨ob.slots,u.keep b ob q n hb hx⟩
theorem Un.kept (k:∀ b u,h.get? b=some u->h'.get? b=some u):Un fs ex H H h h' :=
 ⟨λ b ob q _ _ _=>k b ob q,λ b ob q _ _ _=>⟨ob.slots,k b ob q⟩,λ _ _ _ n _=>n,λ b ob q _=>⟨ob,k b ob q⟩,λ _ _ q=>q,λ _ _ _ q=>q,λ _ ps q=>⟨#[],by rw [q];simp⟩,λ q=>q⟩
theorem Un.refl:Un fs ex H H h h:=Un.kept λ _ _ q=>q
theorem Un.laid (k:∀ b u,h.get? b=some u->h'.get? b=some u)(hp:h.objs.size<=a)(hn:H a=none)(hz:sysModules<h.objs.size):Un fs ex H (af H a o) h h' where
 sys:=λ q=>by rw [ah (Ð (æ hz hp))];exact q
 keep:=λ b u q _ _ _=>k b u q
 slot:=λ b u q _ _ _=>⟨u.slots,k b u q⟩
 free:=λ b u q n _=>by rw [ah (Ð (æ (Å q) hp))];exact n
 there:=λ b u q _=>⟨u,k b u q⟩
 H_:=λ b xs q=>by rw [ah (cR q hn)];exact q
 w_:=λ b u xs q=>by rw [ah (cR q hn)];exact q
 I_:=λ b ps q=>⟨#[],by rw [ah (cR q hn),q];simp⟩
theorem Un.write (mu:E9 (H x))(he:e=x\/H e=some (.own x))(k:∀ b u,b≠e->h.get? b=some u->h'.get? b=some u)(O0:∃ u,h'.get? e=some u):Un fs ex H (af H x o) h h':=by
 have hx:∀ b,H b=none->b≠x:=λ b n z=>by subst z;rw [n] at mu;exact mu
 have hb:∀ b,H b=none->b≠e:=λ b n z=>by
  subst z;rcases he with r | r
  ·exact hx b n r
  ·rw [n] at r;cases r
 have hm:∀ b u,H b=some u->¬ E9 (some u)->b≠x:=λ b u q nm z=>by subst z;rw [q] at mu;exact nm mu
 refine⟨λ b u q n _ _=>k b u (hb b n) q,λ b u q n _ _=>⟨u.slots,k b u (hb b n) q⟩,λ b u q n _=>by rw [ah (hx b n)];exact n,λ b u q _=>?_,
  λ b xs q=>by rw [ah (hm b _ q λ z=>z)];exact q,λ b u xs q=>by rw [ah (hm b _ q λ z=>z)];exact q,λ b ps q=>⟨#[],by rw [ah (hm b _ q λ z=>z),q];simp⟩,λ q=>by rw [ah (hx _ q)];exact q⟩
 by_cases Oo:b=e
 ·subst Oo;exact O0
 ·exact⟨u,k b u Oo q⟩
end
def FG (h:Heap)(H:Hp):List Addr:=(List.range h.objs.size).filter λ a=>(H a).isSome
def lT (h:Heap)(H:Hp):Heap:=PySem.W.hideAll h (FG h H)
theorem qu (h:Heap)(H:Hp):(lT h H).objs.size=h.objs.size:=PySem.W.hideAll_size _ _
theorem tL (e:h.get? b=some o)(n:H b=none):(lT h H).get? b=some o :=
 PySem.W.hideAll_get _ e λ hm=>by
  have q:=(K6.mp hm).2;rw [n] at q;simp at q
theorem vO (e:(lT h H).get? b=some o):h.get? b=some o/\H b=none:=by
 have e':=PySem.W.of_hideAll (FG h H) e;refine⟨e',?_⟩;cases q:H b with
 | none=>rfl
 | some x =>
  have hm:b∈FG h H:=K6.mpr ⟨List.mem_range.mpr (Å e'),by simp [q]⟩
  have z:(lT h H).get? b=none:=PySem.W.hideAll_none (FG h H) hm;rw [z] at e;cases e
def vP (g h:Heap)(L:Addr):List (Addr × Obj):=(List.range h.objs.size).filterMap λ a=>if a=L\/(g.get? a).isSome=true then none else(h.get? a).map λ o=>(a,o)
def rest (g h:Heap)(L d:Addr):List (Addr × Obj):=(vP g h L).filter λ p=>decide (p.1≠d)
structure Mod (K:PySem.W.Frag)(mg:bL)(base:Heap):Prop where
 N':K.In base
 glob:base.Ns mainGlobals mg
 blt:∃ mb,base.Ns builtinsNs mb/\∀ x:Str,x ≠ "__name__" -> mb x=bootBuiltins x
 nolimit:base.NoLimit
structure Cx where
 prog:Program
 w:World
 K:PySem.W.Frag
 mg:Str->Option Value
 base:Heap
 A:Around
 N:List Str
 ŉ:Shared
 Lw:Hp
 env:Env
 outer:List Env
 stack:List Env
 ex:List Addr
 fn:Str->Bool
 calm:Bool
 pn:List (Addr × Obj)
 xe:Value->Shared->Prop
def kC (l:List Env):List Addr:=l.filterMap (·.frame)
abbrev Cx.fs (X:Cx):List Addr:=kC X.outer
def wv (sc:Scope)(x:Str):Prop:=sc.names.lookup x=some .local\/sc.names.lookup x=some .cell\/sc.names.lookup x=some .free
def Bp (sc:Scope)(x:Str):Prop:=sc.names.lookup x=some .local\/sc.names.lookup x=some .cell
def G7 (env:Env)(h:Heap)(m:bL)(x:Str)(u:Value):Prop :=
 (env.kindOf x=some .local/\m x=some u)\/((env.kindOf x=some .cell\/env.kindOf x=some .free)/\∃ c,env.cells.lookup x=some c/\h.IsCell c (some u))
structure Cx.Ok (X:Cx):Prop where
 mod:Mod X.K X.mg X.base
 kind:X.env.scope.kind=.function
 glob:X.env.globals=mainGlobals
 blt:X.env.builtins=builtinsNs
 above:X.ŉ.heap.objs.size<=X.env.locals
 inj:∀ x y c,X.env.cells.lookup x=some c->X.env.cells.lookup y=some c->x=y
 has:∀ x,(X.env.kindOf x=some .cell\/X.env.kindOf x=some .free)->∃ c,X.env.cells.lookup x=some c
 Qs:∀ x c,X.fn x=true->X.env.cells.lookup x=some c->X.ŉ.heap.objs.size<=c
 hd:X.calm=true->X.A.handled=none
 frames:X.A.frames=some X.stack
 QV:X.stack=X.outer\/(X.stack=X.env::X.outer/\X.env.frame=some X.env.locals)
 UD:∀ b∈X.ex,b≠X.env.locals/\∀ x c,X.env.cells.lookup x=some c->c≠b
 bs:∀ b o,X.base.get? b=some o->X.ŉ.heap.get? b=some o/\X.Lw b=none
 Mz:X.base.objs.size<=X.ŉ.heap.objs.size
 Ld:∀ b o,X.base.get? b=some o->b ∉ X.ex
 Ni:∀ b∈X.ex,b ∉ X.fs
 i_:X.ŉ.heap.FunFrames X.base X.outer
 Ox:∀ b∈X.fs,X.Lw b=none
structure Inv (X:Cx)(Ä:List (Addr × Obj))(σ:List (Option V))(H:Hp)(s:Shared):Prop where
 ok:X.Ok
 os:s.os=X.ŉ.os
 bare:AllBare s.gens
 base:Un X.fs X.ex X.Lw H X.ŉ.heap s.heap
 loc:∃ m,s.heap.Ns X.env.locals m/\∀(i:Nat)(x:Str)(v:V),X.N[i]?=some x->σ[i]?=some (some v)->wv X.env.scope x->∃ u,RelV v u/\G7 X.env s.heap m x u
 cell:∀ x c,X.env.cells.lookup x=some c->∃ v,s.heap.IsCell c v
 free:H X.env.locals=none
 Ζ:∀ x c,X.env.cells.lookup x=some c->H c=none
 pin:∀ p∈X.pn ++ Ä,s.heap.get? p.1=some p.2/\H p.1=none/\p.1≠X.env.locals/\p.1 ∉ X.fs/\∀ v,p.2.data ≠ .cell v
 Đ:Ι X.prog X.w H s.heap
 len:σ.length=X.N.length
section
variable {X:Cx}{Ä:List (Addr × Obj)}{σ:List (Option V)}{H H':Hp}{s:Shared}{h':Heap}
theorem Cx.Ok.R5 (ok:X.Ok)(e:X.base.get? b=some o):b ∉ X.fs:=λ hb=>by
 have:=(ok.i_.mem hb).1;rw [e] at this;cases this
theorem Inv.bs (I:Inv X Ä σ H s):∀ b o,X.base.get? b=some o->s.heap.get? b=some o/\H b=none:=λ b o e =>
 ⟨I.base.keep b o (I.ok.bs b o e).1 (I.ok.bs b o e).2 (I.ok.R5 e) (I.ok.Ld b o e),I.base.free b o (I.ok.bs b o e).1 (I.ok.bs b o e).2 (I.ok.Ld b o e)⟩
theorem Inv.bk (I:Inv X Ä σ H s):∀ b o,X.base.get? b=some o->s.heap.get? b=some o:=λ b o e=>(I.bs b o e).1
theorem Inv.mod (I:Inv X Ä σ H s):Mod X.K X.mg X.base:=I.ok.mod
theorem Inv.Ō (I:Inv X Ä σ H s):X.K.In s.heap:=I.ok.mod.N'.keeps I.bk
theorem Inv.lt (I:Inv X Ä σ H s):X.env.locals<s.heap.objs.size:=let ⟨_,hn,_⟩:=I.loc;hn.lt
theorem Inv.sz (I:Inv X Ä σ H s):X.ŉ.heap.objs.size<=s.heap.objs.size:=ð I.ok.above (NS I.lt)
theorem Inv.R4 (I:Inv X Ä σ H s)(h:s.heap.objs.size<=a):a ∉ X.fs:=λ hb=>by
 obtain⟨_,o,ho,_⟩:=I.ok.i_.mem hb;exact absurd (æ (Å ho) (ð I.sz h)) (Į _)
theorem Inv.OB (I:Inv X Ä σ H s):∀ x c,X.env.cells.lookup x=some c->c≠X.env.locals:=λ x c e z=>by
 obtain⟨v,o,ho,hd⟩:=I.cell x c e;obtain⟨m,⟨o',es,ep,Og,NM,_⟩,_⟩:=I.loc;rw [z,Og] at ho;cases ho;rw [NM] at hd;cases hd
theorem Inv.i_ (I:Inv X Ä σ H s):s.heap.FunFrames X.base X.outer:=by
 have all:∀(l:List Env),(∀ b∈kC l,b∈X.fs)->X.ŉ.heap.FunFrames X.base l->s.heap.FunFrames X.base l:=by
  intro l
  induction l with
  | nil=>intro _ _;trivial
  | cons env r ih =>
   intro hs hl;obtain⟨hk,⟨L,o,hf,hn,ho,hd⟩,hr⟩:=hl;have hL:=hs L (by unfold kC;rw [C_,hf];exact ì)
   obtain⟨sl,e⟩:=I.base.slot L o ho (I.ok.Ox L hL) hL λ z=>I.ok.Ni L z hL;exact⟨hk,⟨L,_,hf,hn,e,hd⟩,ih (λ b hb=>hs b (by unfold kC;rw [C_,hf];exact Ø _ hb)) hr⟩
 exact all X.outer (λ _ hb=>hb) I.ok.i_
theorem Inv.stack (I:Inv X Ä σ H s):s.heap.FunFrames X.base X.stack:=by
 rcases I.ok.QV with e | ⟨e,hf⟩
 ·rw [e];exact I.i_
 ·rw [e];obtain⟨m,hn,_⟩:=I.loc;refine .cons (by rw [I.ok.kind];decide) hf hn ?_ I.i_
  exact Heap.get?_none_of_le (ð I.ok.Mz I.ok.above)
theorem Inv.Ŧ (I:Inv X Ä σ H s):∀ b∈kC X.stack,b∈X.env.locals::X.fs:=λ b hb=>by
 rcases I.ok.QV with e | ⟨e,hf⟩
 ·rw [e] at hb;exact Ø _ hb
 ·rw [e] at hb;unfold kC at hb;rw [C_,hf] at hb;exact hb
theorem Inv.j' (I:Inv X Ä σ H s):∀ b∈kC X.stack,H b=none:=λ b hb=>by
 rcases á.mp (I.Ŧ b hb) with e | hb
 ·rw [e];exact I.free
 ·obtain⟨_,o,ho,_⟩:=I.ok.i_.mem hb;exact I.base.free b o ho (I.ok.Ox b hb) λ z=>I.ok.Ni b z hb
theorem Inv.step {ch:List Addr}(I:Inv X Ä σ H s)
  (ML:∀ b∈ch,(b∈X.ex\/X.ŉ.heap.objs.size<=b)/\b≠X.env.locals/\(∀ x c,X.env.cells.lookup x=some c->c≠b)/\∀ p∈X.pn ++ Ä,p.1≠b)
  (keep:∀ b o,b≠X.env.locals->b ∉ X.fs->b ∉ ch->s.heap.get? b=some o->H b=none->h'.get? b=some o)
  (slot:∀ b o,b≠X.env.locals->b∈X.fs->b ∉ ch->s.heap.get? b=some o->H b=none->∃ sl,h'.get? b=some { o with slots:=sl })(free:∀ b o,b ∉ ch->s.heap.get? b=some o->H b=none->H' b=none)
  (there:∀ b o,b ∉ ch->s.heap.get? b=some o->∃ o',h'.get? b=some o')
  (H_:∀ b xs,H b=some (.tup xs)->H' b=some (.tup xs))(w_:∀ b o u,H b=some (.J5 o u)->H' b=some (.J5 o u))(I_:∀ b ps,H b=some (.N3 ps)->∃ more,H' b=some (.N3 (ps++more)))(sys:H sysModules=none->H' sysModules=none)
  (ns:∀ m,s.heap.Ns X.env.locals m->h'.Ns X.env.locals m)(Đ:Ι X.prog X.w H' h')(hg:AllBare g') :
  Inv X Ä σ H' { s with heap:=h',gens:=g',drawn:=d',toks:=t' }:=by
 have T6:∀ b o,X.ŉ.heap.get? b=some o->b≠X.env.locals:=λ b o e=>Ð (æ (Å e) I.ok.above);have Q1:∀ b o,X.ŉ.heap.get? b=some o->b ∉ X.ex->b ∉ ch:=λ b o e hx hb=>by
  rcases(ML b hb).1 with z | z
  ·exact hx z
  ·exact absurd (æ (Å e) z) (Į _)
 have cellK:∀ x c,X.env.cells.lookup x=some c->∀ v,s.heap.IsCell c v->h'.IsCell c v:=λ x c e v ⟨o,ho,hd⟩=>by
  have KZ:=λ z=>(ML c z).2.2.1 x c e rfl;by_cases hc:c∈X.fs
  ·obtain⟨sl,q⟩:=slot c o (I.OB x c e) hc KZ ho (I.Ζ x c e);exact⟨_,q,hd⟩
  ·exact⟨o,keep c o (I.OB x c e) hc KZ ho (I.Ζ x c e),hd⟩
 refine⟨I.ok,I.os,hg,⟨λ b o e n hb hx=>?_,λ b o e n hb hx=>?_,λ b o e n hx=>?_,λ b o e hx=>?_,λ b xs e=>H_ b xs (I.base.H_ b xs e),λ b o xs e=>w_ b o xs (I.base.w_ b o xs e),λ b ps e=>?_,λ q=>sys (I.base.sys q)⟩,?_,λ x c e=>?_,?_,λ x c e=>?_,λ p hp=>?_,Đ,I.len⟩
 ·exact keep b o (T6 b o e) hb (Q1 b o e hx) (I.base.keep b o e n hb hx) (I.base.free b o e n hx)
 ·obtain⟨sl,e1⟩:=I.base.slot b o e n hb hx;obtain⟨RF,e2⟩:=slot b _ (T6 b o e) hb (Q1 b o e hx) e1 (I.base.free b o e n hx);exact⟨RF,e2⟩
 ·obtain⟨o',e1⟩:=I.base.there b o e hx;exact free b o' (Q1 b o e hx) e1 (I.base.free b o e n hx)
 ·obtain⟨o',e1⟩:=I.base.there b o e hx;exact there b o' (Q1 b o e hx) e1
 ·obtain⟨m1,e1⟩:=I.base.I_ b ps e;obtain⟨m2,e2⟩:=I_ b _ e1;exact⟨m1++m2,by rw [e2,Array.append_assoc]⟩
 ·obtain⟨m,hn,hl⟩:=I.loc;refine⟨m,ns m hn,λ i x v e1 e2 e3=>?_⟩;obtain⟨u,r,l⟩:=hl i x v e1 e2 e3;refine⟨u,r,?_⟩;rcases l with l | ⟨k,c,e,z⟩
  ·exact .inl l
  ·exact .inr ⟨k,c,e,cellK x c e _ z⟩
 ·obtain⟨v,z⟩:=I.cell x c e;exact⟨v,cellK x c e v z⟩
 ·obtain⟨m,⟨o,_,_,ho,_⟩,_⟩:=I.loc;exact free _ o (λ z=>(ML _ z).2.1 rfl) ho I.free
 ·obtain⟨v,o,ho,hd⟩:=I.cell x c e;exact free c o (λ z=>(ML c z).2.2.1 x c e rfl) ho (I.Ζ x c e)
 ·obtain⟨e,n,ne,nf,d⟩:=I.pin p hp;have KZ:=λ z=>(ML p.1 z).2.2.2 p hp rfl;exact⟨keep p.1 p.2 ne nf KZ e n,free p.1 p.2 KZ e n,ne,nf,d⟩
theorem Inv.un (I:Inv X Ä σ H s)(u:Un X.fs [] H H' s.heap h')(Đ:Ι X.prog X.w H' h'):Inv X Ä σ H' { s with heap:=h',toks:=t' }:=by
 obtain⟨m,⟨o,es,ep,ho,r⟩,_⟩:=id I.loc;obtain⟨sl,hL⟩:=u.any ho I.free (by simp)
 exact I.step (ch:=[]) (λ _ z=>nomatch z) (λ b o _ hb _ e n=>u.keep b o e n hb (by simp)) (λ b o _ hb _ e n=>u.slot b o e n hb (by simp)) (λ b o _ e n=>u.free b o e n (by simp)) (λ b o _ e=>u.there b o e (by simp)) u.H_ u.w_ u.I_ u.sys (λ m' hm=>by
  obtain⟨o',Ta,Tb,Og,r'⟩:=hm;rw [ho] at Og;cases Og;exact⟨_,Ta,Tb,hL,r'⟩) Đ I.bare
theorem Inv.call (I:Inv X Ä σ H s)(u:Un (kC X.stack) ch H H' s.heap h')(Đ:Ι X.prog X.w H' h')(hg:AllBare g')
  (ML:∀ b∈ch,(b∈X.ex\/X.ŉ.heap.objs.size<=b)/\b≠X.env.locals/\(∀ x c,X.env.cells.lookup x=some c->c≠b)/\∀ p∈X.pn ++ Ä,p.1≠b) :
  Inv X Ä σ H' { s with heap:=h',gens:=g',drawn:=d',toks:=t' }:=by
 obtain⟨m,⟨o,es,ep,ho,r⟩,_⟩:=id I.loc;obtain⟨sl,hL⟩:=u.any ho I.free λ z=>(ML _ z).2.1 rfl;exact I.step ML (λ b o hL hb hc e n=>u.keep b o e n (λ z=>(á.mp (I.Ŧ b z)).elim hL hb) hc) (λ b o _ _ hc e n=>u.any e n hc) (λ b o hc e n=>u.free b o e n hc) (λ b o hc e=>u.there b o e hc) u.H_ u.w_ u.I_ u.sys (λ m' hm=>by
  obtain⟨o',Ta,Tb,Og,r'⟩:=hm;rw [ho] at Og;cases Og;exact⟨_,Ta,Tb,hL,r'⟩) Đ hg
theorem Inv.turned (I:Inv X Ä σ H s)(k:∀ b o,b≠it->s.heap.get? b=some o->h'.get? b=some o)(hn:H it=none)(hL:it≠X.env.locals)
  (h1:it∈X.ex\/X.ŉ.heap.objs.size<=it)(h2:∀ x c,X.env.cells.lookup x=some c->c≠it)(h3:∀ p∈X.pn ++ Ä,p.1≠it):Inv X Ä σ H { s with heap:=h',toks:=t' }:=by
 have T3:∀ b u,H b=some u->b≠it:=λ b u e z=>by rw [z,hn] at e;cases e
 refine I.step (ch:=[it]) (λ b hb=>?_) (λ b o _ _ hc e _=>k b o (λ z=>hc (by simp [z])) e) (λ b o _ _ hc e _=>⟨o.slots,k b o (λ z=>hc (by simp [z])) e⟩) (λ _ _ _ _ n=>n)
  (λ b o hc e=>⟨o,k b o (λ z=>hc (by simp [z])) e⟩) (λ _ _ e=>e) (λ _ _ _ e=>e) (λ b ps e=>⟨#[],by rw [e];simp⟩) (λ q=>q) (λ m hm=>?_) (λ b u e=>?_) I.bare
 ·have e:b=it:=by simpa using hb
  subst e;exact⟨h1,hL,h2,h3⟩
 ·obtain⟨o,es,ep,ho,r⟩:=hm;exact⟨o,es,ep,k _ o (Ne.symm hL) ho,r⟩
 ·refine(I.Đ b u e).d_ (λ c v hc q=>k c v ?_ q) (λ _ q=>q) λ _ _ q=>q;rcases hc with z | z
  ·rw [z];exact T3 b u e
  ·exact T3 c _ z
theorem Inv.tok (I:Inv X Ä σ H s)(t:Nat):Inv X Ä σ H { s with toks:=t }:=I.un Un.refl I.Đ
theorem Inv.kept (I:Inv X Ä σ H s)(k:∀ b u,s.heap.get? b=some u->h'.get? b=some u):Inv X Ä σ H { s with heap:=h',toks:=t' }:=I.un (Un.kept k) (I.Đ.kept k)
theorem Inv.laid (I:Inv X Ä σ H s)(k:∀ b u,s.heap.get? b=some u->h'.get? b=some u)(hp:s.heap.objs.size<=a)(new:þ X.prog X.w (af H a o) h' a o) :
  Inv X Ä σ (af H a o) { s with heap:=h',toks:=t' }:=I.un (Un.laid k hp (I.Đ.fresh hp) (θ (by decide:sysModules<mainGlobals) (I.mod.glob.keeps I.bk).lt)) (I.Đ.laid k hp new)
theorem Inv.write (I:Inv X Ä σ H s)(mu:E9 (H x))(he:e=x\/H e=some (.own x))(k:∀ b u,b≠e->s.heap.get? b=some u->h'.get? b=some u)(O0:∃ u,h'.get? e=some u)
  (new:þ X.prog X.w (af H x o) h' x o):Inv X Ä σ (af H x o) { s with heap:=h',toks:=t' }:=I.un (Un.write mu he k O0) (I.Đ.write mu he k O0 new)
theorem Inv.KU (I:Inv X Ä σ H s)(h:∀ p∈PF,s.heap.get? p.1=some p.2/\H p.1=none/\p.1≠X.env.locals/\p.1 ∉ X.fs/\∀ v,p.2.data ≠ .cell v):Inv X PF σ H s :=
 ⟨I.ok,I.os,I.bare,I.base,I.loc,I.cell,I.free,I.Ζ,λ p hp=>(ğ.mp hp).elim (λ z=>I.pin p (List.mem_append_left _ z)) (h p),I.Đ,I.len⟩
theorem kP {N:List Str}(hN:N.Nodup){i j:Nat}(a:N[i]?=some x)(b:N[j]?=some x):i=j:=by
 obtain⟨h1,e1⟩:=Æ.mp a;obtain⟨h2,e2⟩:=Æ.mp b;exact(List.getElem_inj hN).mp (e1.trans e2.symm)
theorem jB (I:Inv X Ä σ H s)(hN:X.N.Nodup)(hi:X.N[i]?=some x)(hx:Bp X.env.scope x)(r:RelV v u)
  (h:∀ s',Inv X Ä (σ.set i (some v)) H s'->(∃ a,Heap.SameBut a s.heap s'.heap/\(a=X.env.locals\/X.env.cells.lookup x=some a))->Q () s')(hf:X.fn x=true\/X.env.scope.names.lookup x=some .local:=by first | exact .inl rfl | exact .inr rfl | assumption):wpAny M A (storeName X.env x u) Q E s:=by
 obtain⟨m,hn,hl⟩:=id I.loc;have S2:(X.env.scope.kind == .class||(X.env.scope.kind == .module&&X.env.locals != X.env.globals))=false:=by rw [I.ok.kind];rfl
 have Qj:i < σ.length:=by rw [I.len];exact(Æ.mp hi).1
 have OB:=I.OB;have tracked:∀{a:Addr}{h':Heap},(∃ o,s.heap.get? a=some o/\H a=none)->Heap.SameBut a s.heap h'->Ι X.prog X.w H h':=λ {a h'} ha hs b ob e=>by
  obtain⟨_,_,NL⟩:=ha;refine(I.Đ b ob e).d_ (λ c w' hc q=>(hs.2 c ?_).trans q) (λ _ q=>q) λ _ _ q=>q;rintro rfl;rcases hc with rfl | hc
  ·rw [NL] at e;cases e
  ·rw [NL] at hc;cases hc
 rcases hx with hk | hk
 ·refine wpAny_storeName_local hk hn (λ h' OZ hs=>?_) S2;obtain⟨oL,_,_,Ym,_⟩:=id hn;refine h _ ⟨I.ok,I.os,I.bare,⟨λ b o e n hb hx=>?_,λ b o e n hb hx=>?_,I.base.free,λ b o e hx=>?_,I.base.H_,I.base.w_,I.base.I_,I.base.sys⟩,⟨_,OZ,λ j y v' e1 e2 e3=>?_⟩,λ y c e=>?_,I.free,I.Ζ,λ p hp=>?_,tracked ⟨oL,Ym,I.free⟩ hs,by simpa using I.len⟩ ⟨_,hs,.inl rfl⟩
  ·exact(hs.2 b (Ð (æ (Å e) I.ok.above))).trans (I.base.keep b o e n hb hx)
  ·obtain⟨sl,e1⟩:=I.base.slot b o e n hb hx;exact⟨sl,(hs.2 b (Ð (æ (Å e) I.ok.above))).trans e1⟩
  ·obtain⟨o',e1⟩:=I.base.there b o e hx;exact⟨o',(hs.2 b (Ð (æ (Å e) I.ok.above))).trans e1⟩
  ·by_cases hj:j=i
   ·subst hj;rw [hi] at e1;cases e1;rw [NW Qj] at e2;cases e2;exact⟨u,r,.inl ⟨hk,by simp⟩⟩
   ·rw [List.getElem?_set_ne (Ne.symm hj)] at e2;obtain⟨u',r',q⟩:=hl j y v' e1 e2 e3;refine⟨u',r',?_⟩;rcases q with⟨k,e⟩ | ⟨k,c,e,z⟩
    ·refine .inl ⟨k,?_⟩;have:y≠x:=λ e=>hj (kP hN e1 (e ▸ hi));simp [this,e]
    ·exact .inr ⟨k,c,e,z.sameBut hs (OB y c e)⟩
  ·obtain⟨w',z⟩:=I.cell y c e;exact⟨w',z.sameBut hs (OB y c e)⟩
  ·obtain⟨e,n,ne,nf,d⟩:=I.pin p hp;exact⟨(hs.2 p.1 ne).trans e,n,ne,nf,d⟩
 ·have SQ:X.fn x=true:=by
   rcases hf with z | z
   ·exact z
   ·rw [z] at hk;cases hk
  obtain⟨c,hc⟩:=I.ok.has x (.inl hk);obtain⟨w',z⟩:=I.cell x c hc;refine wpAny_storeName_cell I.ok.kind hk hc z (λ h' Jy hs=>?_);obtain⟨oc,Uj,SI⟩:=id z;refine h { s with heap:=h' } ⟨I.ok,I.os,I.bare,⟨λ b o e n hb hx=>?_,λ b o e n hb hx=>?_,I.base.free,λ b o e hx=>?_,I.base.H_,I.base.w_,I.base.I_,I.base.sys⟩,⟨m,hn.sameBut hs (Ne.symm (OB x c hc)),λ j y v' e1 e2 e3=>?_⟩,λ y c' e=>?_,I.free,I.Ζ,λ p hp=>?_,tracked ⟨oc,Uj,I.Ζ x c hc⟩ hs,by simpa using I.len⟩ ⟨c,hs,.inr hc⟩
  ·exact(hs.2 b (Ð (æ (Å e) (I.ok.Qs x c SQ hc)))).trans (I.base.keep b o e n hb hx)
  ·obtain⟨sl,e1⟩:=I.base.slot b o e n hb hx;exact⟨sl,(hs.2 b (Ð (æ (Å e) (I.ok.Qs x c SQ hc)))).trans e1⟩
  ·obtain⟨o',e1⟩:=I.base.there b o e hx;exact⟨o',(hs.2 b (Ð (æ (Å e) (I.ok.Qs x c SQ hc)))).trans e1⟩
  ·by_cases hj:j=i
   ·subst hj;rw [hi] at e1;cases e1;rw [NW Qj] at e2;cases e2;exact⟨u,r,.inr ⟨.inl hk,c,hc,Jy⟩⟩
   ·rw [List.getElem?_set_ne (Ne.symm hj)] at e2;obtain⟨u',r',q⟩:=hl j y v' e1 e2 e3;refine⟨u',r',?_⟩;rcases q with q | ⟨k,c',e,z'⟩
    ·exact .inl q
    ·refine .inr ⟨k,c',e,z'.sameBut hs ?_⟩;rintro rfl;exact hj (kP hN e1 (I.ok.inj _ _ _ e hc ▸ hi))
  ·by_cases Us:c'=c
   ·subst Us;exact⟨_,Jy⟩
   ·obtain⟨w2,z2⟩:=I.cell y c' e;exact⟨w2,z2.sameBut hs Us⟩
  ·obtain⟨e,n,ne,nf,d⟩:=I.pin p hp;refine⟨(hs.2 p.1 ?_).trans e,n,ne,nf,d⟩;intro q;rw [q,Uj] at e;have q':=Ý e;exact d w' (by rw [<- q'];exact SI)
theorem gD (I:Inv X Ä σ H s)(hN:X.N.Nodup)(hi:X.N[i]?=some x)(hx:Bp X.env.scope x)(r:RelV v u)
  (h:∀ s',Inv X Ä (σ.set i (some v)) H s'->Q () s')(hf:X.fn x=true\/X.env.scope.names.lookup x=some .local:=by first | exact .inl rfl | exact .inr rfl | assumption):wpAny M A (storeName X.env x u) Q E s :=
 jB I hN hi hx r (λ s' I' _=>h s' I') hf
theorem Inv.Mx (I:Inv X Ä σ H s)(ho:s'.os=s.os)(u:Un (kC X.stack) ch H H' s.heap s'.heap)(Đ:Ι X.prog X.w H' s'.heap)(hg:AllBare s'.gens)
  (ML:∀ b∈ch,(b∈X.ex\/X.ŉ.heap.objs.size<=b)/\b≠X.env.locals/\(∀ x c,X.env.cells.lookup x=some c->c≠b)/\∀ p∈X.pn ++ Ä,p.1≠b):Inv X Ä σ H' s':=by
 obtain⟨h',g',d',t',o'⟩:=s';have e:=ho;subst e;exact I.call u Đ hg ML
end
abbrev XK:=Value->Option Addr->Hp->Prop
abbrev St:=List (Option V)
abbrev VK:=V->Hp->Prop
abbrev TE:=St->Hp->VK->Prop
abbrev TT:=St->Hp->(Bool->Hp->Prop)->Prop
abbrev TA:=St->Hp->(List V->Hp->Prop)->Prop
structure cP where
 nx:St->Hp->Prop
 rt:VK
 bk:St->Hp->Prop:=λ _ _=>False
 ct:St->Hp->Prop:=λ _ _=>False
abbrev TS:=cP->St->Hp->Prop
def EP (X:Cx)(Ä:List (Addr × Obj))(σ:St)(Q:VK)(u:Value)(s':Shared):Prop:=∃ v H',Inv X Ä σ H' s'/\RelV v u/\Q v H'
def TP (X:Cx)(Ä:List (Addr × Obj))(σ:St)(Q:Bool->Hp->Prop)(b:Bool)(s':Shared):Prop:=∃ H',Inv X Ä σ H' s'/\Q b H'
def AP (X:Cx)(Ä:List (Addr × Obj))(σ:St)(Q:List V->Hp->Prop)(us:List Value)(s':Shared):Prop:=∃ vs H',Inv X Ä σ H' s'/\Vals vs us/\Q vs H'
def SP (X:Cx)(Ä:List (Addr × Obj))(D:cP)(f:Flow)(s':Shared):Prop :=
 match f with
 | .next=>∃ ĥ H',Inv X Ä ĥ H' s'/\D.nx ĥ H'
 | .brk=>∃ ĥ H',Inv X Ä ĥ H' s'/\D.bk ĥ H'
 | .cont=>∃ ĥ H',Inv X Ä ĥ H' s'/\D.ct ĥ H'
 | .ret u=>∃ v ĥ H',Inv X Ä ĥ H' s'/\RelV v u/\D.rt v H'
def PE (X:Cx)(e:Expr)(t:TE):Prop :=
 ∀(Ä:List (Addr × Obj))(s:Shared)(σ:St)(H:Hp)(Q:VK),Inv X Ä σ H s->t σ H Q->wpAny (model X.prog X.w) X.A (eval e X.env) (EP X Ä σ Q) X.xe s
def PT (X:Cx)(e:Expr)(t:TT):Prop :=
 ∀(Ä:List (Addr × Obj))(s:Shared)(σ:St)(H:Hp)(Q:Bool->Hp->Prop),Inv X Ä σ H s->t σ H Q->wpAny (model X.prog X.w) X.A (isTrue e X.env (eval e X.env)) (TP X Ä σ Q) X.xe s
def PW (X:Cx)(e:Expr)(t:TT):Prop :=
 ∀(whole:Sem Value)(Ä:List (Addr × Obj))(s:Shared)(σ:St)(H:Hp)(Q:Bool->Hp->Prop),Inv X Ä σ H s->t σ H Q->wpAny (model X.prog X.w) X.A (isTrue e X.env whole) (TP X Ä σ Q) X.xe s
theorem PW.pt (h:PW X e t):PT X e t:=h _
def PA (X:Cx)(es:List Expr)(t:TA):Prop :=
 ∀(ø:Pos)(Ä:List (Addr × Obj))(s:Shared)(σ:St)(H:Hp)(Q:List V->Hp->Prop),Inv X Ä σ H s->t σ H Q->wpAny (model X.prog X.w) X.A (spliced (backTo ø (starEach es X.env))) (AP X Ä σ Q) X.xe s
def PS (X:Cx)(st:Stmt)(t:TS):Prop :=
 ∀(Ä:List (Addr × Obj))(s:Shared)(σ:St)(H:Hp)(D:cP),Inv X Ä σ H s->t D σ H->wpAny (model X.prog X.w) X.A (exec st X.env) (SP X Ä D) X.xe s
def ż (X:Cx)(st:List Stmt)(t:TS):Prop :=
 ∀(Ä:List (Addr × Obj))(s:Shared)(σ:St)(H:Hp)(D:cP),Inv X Ä σ H s->t D σ H->wpAny (model X.prog X.w) X.A (execs st X.env) (SP X Ä D) X.xe s
theorem aV {α:Type}{t:Sem α}{Q Q':α->Shared->Prop}{M:Model}{A:Around}{E:eH}{s:Shared}(h:wpAny M A t Q E s)(hQ:∀ a s,Q a s->Q' a s):wpAny M A t Q' E s:=ï h hQ λ _ _ x=>x
section
variable {X:Cx}
theorem Jo (ha:PE X a ta)(hb:PE X b tb){R:V->V->Hp->Prop}(I:Inv X Ä σ H s)(h:ta σ H λ x H1=>tb σ H1 λ y H2=>R x y H2)
  {α:Type}{Q:α->Shared->Prop}{f:Value->Value->Sem α}
  (hf:∀ v u s2 x y H2,Inv X Ä σ H2 s2->RelV x v->RelV y u->R x y H2->wpAny (model X.prog X.w) X.A (f v u) Q X.xe s2) :
  wpAny (model X.prog X.w) X.A (eval a X.env) (λ v Ĉ=>wpAny (model X.prog X.w) X.A (eval b X.env) (λ u Ÿ=>wpAny (model X.prog X.w) X.A (f v u) Q X.xe Ÿ) X.xe Ĉ) X.xe s:=by
 refine aV (ha Ä s σ H _ I h) λ v s1 ⟨x,H1,I1,r1,q1⟩=>?_;refine aV (hb Ä s1 σ H1 _ I1 q1) λ u s2 ⟨y,H2,I2,r2,q2⟩=>?_;exact hf v u s2 x y H2 I2 r1 r2 q2
def aj (i:Nat):TE:=λ σ H Q=>∃ v,σ[i]?=some (some v)/\Q v H
def tC (v:V):TE:=λ _ H Q=>Q v H
theorem AR (hN:X.N[i]?=some x)(hv:wv X.env.scope x)(hd:(x==("__debug__" : Str))=false:=by decide)(Lq:(x==("__classdict__" : Str))=false:=by decide):PE X (.Name x ø) (aj i):=by
 intro Ä s σ H Q I h;obtain⟨v,e,h⟩:=h;obtain⟨m,hn,hl⟩:=I.loc;obtain⟨u,r,l⟩:=hl i x v hN e hv;have fin:EP X Ä σ Q u s:=⟨v,H,I,r,h⟩;rcases l with⟨hk,hm⟩ | ⟨hk,c,hc,u_⟩
 ·exact wpAny_Name (wpAny_loadName_local I.ok.kind hk hn hm fin) hd
 ·rcases hk with hk | hk
  ·exact wpAny_Name (wpAny_loadName_cell I.ok.kind hk hc u_ fin) hd
  ·exact wpAny_Name (wpAny_loadName_free I.ok.kind hk hc u_ fin Lq) hd
theorem aI {i j ø}:PE X (.Constant (.int i) j ø) (tC (.int i)):=λ _ _ _ H _ I h=>wpAny_Constant_int ⟨.int i,H,I.tok _,⟨_,rfl⟩,h⟩
theorem mQ {b j ø}:PE X (.Constant (.bool b) j ø) (tC (.bl b)):=λ _ _ _ H _ I h=>Constant_bool ⟨.bl b,H,I,rfl,h⟩
theorem sG {j ø}:PE X (.Constant .none j ø) (tC .ą):=λ _ _ _ H _ I h=>Constant_none ⟨.ą,H,I,rfl,h⟩
theorem bh {x j ø}:PE X (.Constant (.str x) j ø) (tC (.str x)):=λ _ _ _ H _ I h=>Calls.Constant_str ⟨.str x,H,I.tok _,⟨_,rfl⟩,h⟩
def Gl (X:Cx)(x:Str):Prop:=X.env.kindOf x=some .globalImplicit
theorem ff (I:Inv X Ä σ H s)(hg:Gl X x)(hm:X.mg x=some u)(h:Q u s)
  (hd:(x==("__debug__" : Str))=false:=by decide):wpAny (model X.prog X.w) X.A (eval (.Name x ø) X.env) Q E s :=
 Calls.Name_function_global I.ok.kind hg (Calls.loadGlobal_global (by rw [I.ok.glob];exact I.mod.glob.keeps I.bk) hm h) hd
theorem fO (I:Inv X Ä σ H s)(hg:Gl X x)(hm:X.mg x=none)(hv:bootBuiltins x=some u)(h:Q u s)
  (hn:x ≠ "__name__" := by decide)(hd:(x==("__debug__" : Str))=false:=by decide):wpAny (model X.prog X.w) X.A (eval (.Name x ø) X.env) Q E s:=by
 obtain⟨mb,h1,h2⟩:=I.mod.blt;exact Calls.Name_function_global I.ok.kind hg (Calls.loadGlobal_builtin (by rw [I.ok.glob];exact I.mod.glob.keeps I.bk) hm (by rw [I.ok.blt];exact h1.keeps I.bk) ((h2 x hn).trans hv) h) hd
theorem bu (hg:Gl X x)(hm:X.mg x=some u)(r:RelV v u)(hd:(x==("__debug__" : Str))=false:=by decide):PE X (.Name x ø) (tC v) :=
 λ _ _ _ H _ I h=>ff I hg hm ⟨v,H,I,r,h⟩ hd
theorem vQ (hg:Gl X x)(hm:X.mg x=none)(hv:bootBuiltins x=some u)(r:RelV v u)(hn:x ≠ "__name__" := by decide)(hd:(x==("__debug__" : Str))=false:=by decide):PE X (.Name x ø) (tC v) :=
 λ _ _ _ H _ I h=>fO I hg hm hv ⟨v,H,I,r,h⟩ hn hd
def Ja (ta tb:TE)(k:Int->Int->Hp->Prop):St->Hp->Prop:=λ σ H=>ta σ H λ x H1=>tb σ H1 λ y H2=>∃ i j,x=.int i/\y=.int j/\k i j H2
variable {a b:Expr}{ta tb:TE}{ø:Pos}
def PC (X:Cx)(op:CmpOp)(a b:Expr)(t:TE):Prop :=
 ∀(Ä:List (Addr × Obj))(s:Shared)(σ:St)(H:Hp)(Q:VK),Inv X Ä σ H s->t σ H Q ->
  wpAny (model X.prog X.w) X.A (eval a X.env) (λ v Ĉ=>wpAny (model X.prog X.w) X.A (eval b X.env) (λ u Ÿ=>wpAny (model X.prog X.w) X.A (compareOp op v u) (EP X Ä σ Q) X.xe Ÿ) X.xe Ĉ) X.xe s
theorem tK (b:Expr)(h:op ≠ .In)(h2:op ≠ .NotIn):behindInMarks op b=false:=by
 have e1:(op==CmpOp.In)=false:=by cases op <;> first | rfl | exact absurd rfl h
 have e2:(op==CmpOp.NotIn)=false:=by cases op <;> first | rfl | exact absurd rfl h2
 cases b <;> simp [behindInMarks,e1,e2]
def HI (p:Int->Int->Bool)(ta tb:TE):TE:=λ σ H Q=>Ja ta tb (λ i j H2=>Q (.bl (p i j)) H2) σ H
abbrev FA:TE->TE->TE:=HI λ i j=>decide (i<=j)
def tB (t:TE):TT:=λ σ H Q=>t σ H λ x H1=>∃ c,x=.bl c/\Q c H1
theorem GO (h:PC X op a b t)(h1:behindInMarks op b=false:=by first | exact tK _ ar ar | rfl):PT X (.Compare a [op] [b] ø) (tB t):=by
 intro Ä s σ H Q I hw;refine wpAny_isTrue_Compare1 (aV (h Ä s σ H _ I hw) λ v s1 h1=>aV h1 λ u s2 h2=>aV h2 λ c s3 ⟨x,H1,I1,r1,q1⟩=>?_) h1;obtain⟨d,rfl,q⟩:=q1;cases r1;exact Ŋ ⟨H1,I1,q⟩
theorem bF (h:PE X e t)(he:∀ whole,isTrue e X.env whole=(do let v <- whole;standAt e.pos;holding [v] (truthy v)):=by intro _;rfl):PT X e (tB t):=by
 intro Ä s σ H Q I hw;refine isTrue_plain (aV (h Ä s σ H _ I hw) λ v s1 ⟨x,H1,I1,r1,q1⟩=>?_) (he _);obtain⟨d,rfl,q⟩:=q1;cases r1;exact Ŋ ⟨H1,I1,q⟩
variable {tA QT:TT}{rest:List Expr}
def ud (t u:TT):TT:=λ σ H Q=>t σ H λ c H1=>if c=true then u σ H1 Q else Q false H1
def DM (t u:TT):TT:=λ σ H Q=>t σ H λ c H1=>if c=true then Q true H1 else u σ H1 Q
def qM (t:TT):TT:=λ σ H Q=>t σ H λ c H1=>Q (!c) H1
theorem jM (ha:PT X a tA):PW X (.BoolOp .And [a] ø) tA:=by
 intro wh Ä s σ H Q I h;refine isTrue_and (aV (ha Ä s σ H Q I h) λ c s1 e=>?_);cases c with
 | true=>exact isTrue_and_nil e
 | false=>exact e
theorem dW (ha:PT X a tA):PW X (.BoolOp .Or [a] ø) tA:=by
 intro wh Ä s σ H Q I h;refine isTrue_or (aV (ha Ä s σ H Q I h) λ c s1 e=>?_);cases c with
 | false=>exact isTrue_or_nil e
 | true=>exact e
theorem mX (ha:PT X a tA)(hb:PW X (.BoolOp .And (b::rest) ø) QT):PW X (.BoolOp .And (a::b::rest) ø) (ud tA QT):=by
 intro wh Ä s σ H Q I h;refine isTrue_and (aV (ha Ä s σ H _ I h) λ c s1 ⟨H1,I1,q1⟩=>?_);cases c with
 | true=>exact hb wh Ä s1 σ H1 Q I1 q1
 | false=>exact⟨H1,I1,q1⟩
theorem f8 (ha:PT X a tA)(hb:PW X (.BoolOp .Or (b::rest) ø) QT):PW X (.BoolOp .Or (a::b::rest) ø) (DM tA QT):=by
 intro wh Ä s σ H Q I h;refine isTrue_or (aV (ha Ä s σ H _ I h) λ c s1 ⟨H1,I1,q1⟩=>?_);cases c with
 | true=>exact⟨H1,I1,q1⟩
 | false=>exact hb wh Ä s1 σ H1 Q I1 q1
theorem bQ (ha:PT X a tA):PT X (.UnaryOp .Not a ø) (qM tA):=by
 intro Ä s σ H Q I h;exact isTrue_not (ha Ä s σ H (λ c H1=>Q (!c) H1) I h)
def B5 (ta tb:TE):TE:=λ σ H Q=>ta σ H λ x H1=>∃ c,x=.bl c/\if c=true then tb σ H1 Q else Q (.bl false) H1
def DF (ta:TE):TE:=λ σ H Q=>ta σ H λ x H1=>∃ c,x=.bl c/\Q (.bl (!c)) H1
theorem gX {op}(h:PE X a t):PE X (.BoolOp op [a] ø) t:=λ Ä s σ H Q I hw=>BoolOp_one (h Ä s σ H Q I hw)
theorem fD (ha:PE X a ta)(hb:PE X (.BoolOp .And (b::rest) ø) tb):PE X (.BoolOp .And (a::b::rest) ø) (B5 ta tb):=by
 intro Ä s σ H Q I h;refine BoolOp_and (aV (ha Ä s σ H _ I h) λ v s1 ⟨x,H1,I1,r1,q1⟩=>?_);obtain⟨c,rfl,q1⟩:=q1;cases r1;refine Ŋ ?_;cases c with
 | true=>exact hb Ä s1 σ H1 Q I1 q1
 | false=>exact⟨.bl false,H1,I1,rfl,q1⟩
theorem w6 (ha:PE X a ta):PE X (.UnaryOp .Not a ø) (DF ta):=by
 intro Ä s σ H Q I h;refine UnaryOp_ (aV (ha Ä s σ H _ I h) λ v s1 ⟨x,H1,I1,r1,q1⟩=>?_);obtain⟨c,rfl,q1⟩:=q1;cases r1;exact not_of (Ŋ ⟨.bl (!c),H1,I1,rfl,q1⟩)
def Jm (t:TT)(ta tb:TE):TE:=λ σ H Q=>t σ H λ c H1=>if c=true then ta σ H1 Q else tb σ H1 Q
theorem lE {c:Expr}(hc:PT X c tA)(ha:PE X a ta)(hb:PE X b tb):PE X (.IfExp c a b ø) (Jm tA ta tb):=by
 intro Ä s σ H Q I h;refine wpAny_IfExp (aV (hc Ä s σ H _ I h) λ d s1 ⟨H1,I1,q1⟩=>?_);cases d with
 | true=>exact ha Ä s1 σ H1 Q I1 q1
 | false=>exact hb Ä s1 σ H1 Q I1 q1
end
def î (K:PySem.W.Frag)(H:Hp)(a:Addr)(xs:List V):Prop :=
 Rd H a (.lst xs) \/
  ∃(o:Obj)(its:Array Value)(n:Nat),K.lookup a=some o/\o.cls=.type "list" /\ o.dict=none/\o.data=.seq its n/\its.size<=sizeLine/\Vals xs its.toList
def ĝ (K:PySem.W.Frag)(H:Hp)(a:Addr)(xs:List V):Prop :=
 Rd H a (.tup xs) \/
  ∃(o:Obj)(its:Array Value)(n:Nat),K.lookup a=some o/\o.cls=.type "tuple" /\ o.data=.seq its n/\its.size<=sizeLine/\Vals xs its.toList
def zz:Value->Option V
 | .none=>some .ą
 | .bool b=>some (.bl b)
 | .int i _=>some (.int i)
 | .str x _=>some (.str x)
 | .bytes b _=>some (.LH b)
 | .float b _=>some (.MN b)
 | .ref a=>some (.ref a)
 | .type n=>some (.ty n)
 | _=>none
theorem RelV.abs (r:RelV x u):zz u=some x:=by
 cases x with
 | ą=>cases r;rfl
 | bl _=>cases r;rfl
 | int _=>obtain⟨t,rfl⟩:=r;rfl
 | str _=>obtain⟨t,rfl⟩:=r;rfl
 | LH _=>obtain⟨t,rfl⟩:=r;rfl
 | MN _=>obtain⟨t,rfl⟩:=r;rfl
 | ref _=>cases r;rfl
 | ty _=>cases r;rfl
theorem RelV.inj {x y:V}{u:Value}(r:RelV x u)(q:RelV y u):x=y:=Ý (r.abs.symm.trans q.abs)
theorem Vals.inj:∀{xs ys:List V}{us:List Value},Vals xs us->Vals ys us->xs=ys
 | _,_,_,.nil,.nil=>rfl
 | _,_,_,.cons r t,.cons r' t'=>by rw [r.inj r',Vals.inj t t']
section
variable {X:Cx}{Ä:List (Addr × Obj)}{σ:St}{H:Hp}{s:Shared}{a:Addr}{xs ys:List V}
theorem î.of {K:PySem.W.Frag}(h:H a=some (.lst xs)):î K H a xs:=.inl (.inl h)
theorem ĝ.of {K:PySem.W.Frag}(h:H a=some (.tup xs)):ĝ K H a xs:=.inl (.inl h)
theorem Inv.list (I:Inv X Ä σ H s)(h:î X.K H a xs):∃ its:List Value,Vals xs its/\PlainL s.heap a its.toArray/\xs.length<=sizeLine:=by
 rcases h with h | ⟨o,its,n,hk,hc,hd,hs,hz,r⟩
 ·obtain⟨z,its,n,r,e⟩:=h.ok I.Đ;exact⟨its,r,⟨_,n,e,rfl,rfl,rfl⟩,z⟩
 ·refine⟨its.toList,r,⟨o,n,I.Ō a o hk,hc,hd,by simpa using hs⟩,?_⟩
  have e:=r.length;simp only [Array.length_toList] at e;omega
theorem Inv.tuple (I:Inv X Ä σ H s)(h:ĝ X.K H a xs):∃ its:List Value,Vals xs its/\IsTup s.heap a its.toArray/\xs.length<=sizeLine:=by
 rcases h with h | ⟨o,its,n,hk,hc,hs,hz,r⟩
 ·obtain⟨z,its,r,p⟩:=h.ok I.Đ;exact⟨its,r,p,z⟩
 ·refine⟨its.toList,r,⟨o,I.Ō a o hk,hc,n,by simpa using hs⟩,?_⟩
  have e:=r.length;simp only [Array.length_toList] at e;omega
theorem Inv.Ω (I:Inv X Ä σ H s)(h:î X.K H a xs)(h':î X.K H a ys):xs=ys:=by
 obtain⟨its,r,⟨o,n,e,_,_,d⟩,_⟩:=I.list h;obtain⟨g_,r',⟨o',n',e',_,_,d'⟩,_⟩:=I.list h';rw [e] at e';cases e';rw [d] at d';injection d' with d1 _
 have:its=g_:=by simpa using congrArg Array.toList d1
 subst this;exact r.inj r'
theorem Inv.ξ (I:Inv X Ä σ H s)(h:ĝ X.K H a xs)(h':ĝ X.K H a ys):xs=ys:=by
 obtain⟨its,r,⟨o,e,_,n,d⟩,_⟩:=I.tuple h;obtain⟨g_,r',⟨o',e',_,n',d'⟩,_⟩:=I.tuple h';rw [e] at e';cases e';rw [d] at d';injection d' with d1 _
 have:its=g_:=by simpa using congrArg Array.toList d1
 subst this;exact r.inj r'
end
abbrev Cx.G_ (X:Cx)(E:eH):Cx:={ X with xe:=E }
abbrev Cx.ŀ (X:Cx):Cx:=X.G_ λ _ _=>False
theorem Cx.Ok.G_ {X:Cx}(ok:X.Ok)(E:eH):(X.G_ E).Ok :=
 ⟨ok.mod,ok.kind,ok.glob,ok.blt,ok.above,ok.inj,ok.has,ok.Qs,ok.hd,ok.frames,ok.QV,ok.UD,ok.bs,ok.Mz,ok.Ld,ok.Ni,ok.i_,ok.Ox⟩
theorem Cx.Ok.Γ {X:Cx}(ok:(X.G_ E).Ok):X.Ok :=
 ⟨ok.mod,ok.kind,ok.glob,ok.blt,ok.above,ok.inj,ok.has,ok.Qs,ok.hd,ok.frames,ok.QV,ok.UD,ok.bs,ok.Mz,ok.Ld,ok.Ni,ok.i_,ok.Ox⟩
section
variable {X:Cx}{Ä:List (Addr × Obj)}{σ:St}{H:Hp}{s:Shared}{E:eH}
theorem Inv.G_ (I:Inv X Ä σ H s)(E:eH):Inv (X.G_ E) Ä σ H s:=⟨I.ok.G_ E,I.os,I.bare,I.base,I.loc,I.cell,I.free,I.Ζ,I.pin,I.Đ,I.len⟩
theorem Inv.Γ (I:Inv (X.G_ E) Ä σ H s):Inv X Ä σ H s:=⟨I.ok.Γ,I.os,I.bare,I.base,I.loc,I.cell,I.free,I.Ζ,I.pin,I.Đ,I.len⟩
theorem SP.Γ {f:Flow}(h:SP (X.G_ E) Ä D f s'):SP X Ä D f s':=by
 cases f with
 | next=>obtain⟨ĥ,H',I,q⟩:=h;exact⟨ĥ,H',I.Γ,q⟩
 | brk=>obtain⟨ĥ,H',I,q⟩:=h;exact⟨ĥ,H',I.Γ,q⟩
 | cont=>obtain⟨ĥ,H',I,q⟩:=h;exact⟨ĥ,H',I.Γ,q⟩
 | ret u=>obtain⟨v,ĥ,H',I,r,q⟩:=h;exact⟨v,ĥ,H',I.Γ,r,q⟩
theorem ż.ŀ {st:List Stmt}(h:ż X.ŀ st t):ż X st t:=λ Ä s σ H D I hw =>
 ï (h Ä s σ H D (I.G_ _) hw) (λ _ _ q=>q.Γ) λ _ _ z=>False.elim z
end
section
variable {X:Cx}{st:Stmt}{rest:List Stmt}{t u:TS}{e:Expr}{te:TE}{ø:Pos}
def cB:TS:=λ D σ H=>D.nx σ H
def aY (t u:TS):TS:=λ D σ H=>t { D with nx:=u D } σ H
theorem gj:ż X [] cB:=λ _ _ σ H _ I h=>Jz ⟨σ,H,I,h⟩
theorem cn (h1:PS X st t)(h2:ż X rest u):ż X (st::rest) (aY t u):=by
 intro Ä s σ H D I h;refine wpAny_execs_cons (aV (h1 Ä s σ H { D with nx:=u D } I h) λ f s1 q=>?_)
 cases f with
 | next =>
  obtain⟨ĥ,H',I',q⟩:=q;exact h2 Ä s1 ĥ H' D I' q
 | ret v=>exact q
 | brk=>exact q
 | cont=>exact q
theorem bp (h1:PS X st t):ż X [st] t:=by
 intro Ä s σ H D I h;refine wpAny_execs_cons (aV (h1 Ä s σ H D I h) λ f s1 q=>?_);cases f with
 | next=>exact Jz q
 | ret v=>exact q
 | brk=>exact q
 | cont=>exact q
theorem uE:PS X (.Pass ø) cB:=λ _ _ σ H _ I h=>wpAny_Pass ⟨σ,H,I,h⟩
theorem Inv.quiet (I:Inv X Ä σ H s):interactive X.env=false:=by simp [interactive,I.ok.kind]
def lu (te:TE):TS:=λ D σ H=>te σ H λ _ H1=>D.nx σ H1
theorem ax (he:PE X e te)(hs:swapsWith e none ø.line X.env=pure false:=by rfl):PS X (.Expr e ø) (lu te):=by
 intro Ä s σ H D I h;exact wpAny_Expr_any (aV (he Ä s σ H _ I h) λ v s1 ⟨x,H1,I1,r1,q1⟩=>⟨σ,H1,I1,q1⟩) I.quiet hs
def cH (te:TE):TS:=λ D σ H=>te σ H D.rt
theorem cZ (he:PE X e te):PS X (.Return (some e) ø) (cH te):=by
 intro Ä s σ H D I h;exact wpAny_Return_some (aV (he Ä s σ H _ I h) λ v s1 ⟨x,H1,I1,r1,q1⟩=>⟨x,σ,H1,I1,r1,q1⟩)
def eI (c:TT)(t u:TS):TS:=λ D σ H=>c σ H λ b H1=>if b=true then t D σ H1 else u D σ H1
theorem bC (hc:PT X c tc)(ha:ż X a t)(hb:ż X b u):PS X (.If c a b ø) (eI tc t u):=by
 intro Ä s σ H D I h;refine wpAny_If (aV (hc Ä s σ H _ I h) λ d s1 ⟨H1,I1,q1⟩=>?_);cases d with
 | true=>exact ha Ä s1 σ H1 D I1 q1
 | false=>exact hb Ä s1 σ H1 D I1 q1
end
abbrev TG:=V->St->Hp->(St->Hp->Prop)->Prop
abbrev Bo:=List V->St->Hp->(St->Hp->Prop)->Prop
def PG (X:Cx)(target:Expr)(t:TG):Prop :=
 ∀(Ä:List (Addr × Obj))(s:Shared)(σ:St)(H:Hp)(v:V)(u:Value)(Q:St->Hp->Prop),Inv X Ä σ H s->RelV v u->t v σ H Q ->
  wpAny (model X.prog X.w) X.A (assign target X.env u) (λ _ s'=>∃ ĥ H',Inv X Ä ĥ H' s'/\Q ĥ H') X.xe s
def B0 (X:Cx)(ts:List Expr)(t:Bo):Prop :=
 ∀(Ä:List (Addr × Obj))(s:Shared)(σ:St)(H:Hp)(vs:List V)(us:List Value)(Q:St->Hp->Prop),Inv X Ä σ H s->Vals vs us->t vs σ H Q ->
  wpAny (model X.prog X.w) X.A (assignInOrder ((assignEach ts X.env).map (·.2)) us) (λ _ s'=>∃ ĥ H',Inv X Ä ĥ H' s'/\Q ĥ H') X.xe s
abbrev yP:=V->V->V->Hp->(Hp->Prop)->Prop
def xA (X:Cx)(t:yP):Prop :=
 ∀(Ä:List (Addr × Obj))(s:Shared)(σ:St)(H:Hp)(o i v:V)(ov iv u:Value)(Q:Hp->Prop),Inv X Ä σ H s->RelV o ov->RelV i iv->RelV v u->t o i v H Q ->
  wpAny (model X.prog X.w) X.A (setItem ov iv u) (λ _ s'=>∃ H',Inv X Ä σ H' s'/\Q H') X.xe s
abbrev Hj:=V->V->Hp->VK->Prop
def II (X:Cx)(op:Operator)(t:Hj):Prop :=
 ∀(Ä:List (Addr × Obj))(s:Shared)(σ:St)(H:Hp)(x y:V)(v u:Value)(Q:VK),Inv X Ä σ H s->RelV x v->RelV y u->t x y H Q ->
  wpAny (model X.prog X.w) X.A (inplaceOp op v u) (EP X Ä σ Q) X.xe s
section
variable {X:Cx}{ø:Pos}
def aX (i:Nat):TG:=λ v σ H Q=>Q (σ.set i (some v)) H
theorem cA (hN:X.N.Nodup)(hi:X.N[i]?=some x)(hx:Bp X.env.scope x)(hf:X.fn x=true\/X.env.scope.names.lookup x=some .local:=by first | exact .inl rfl | exact .inr rfl | assumption):PG X (.Name x ø) (aX i):=by
 intro Ä s σ H v u Q I r h;exact wpAny_assign_Name (gD I hN hi hx r (λ s' I'=>⟨_,H,I',h⟩) hf)
def mI:Bo:=λ vs σ H Q=>vs=[]/\Q σ H
def c5 (t:TG)(u:Bo):Bo:=λ vs σ H Q=>∃ v r,vs=v::r/\t v σ H λ ĥ H'=>u r ĥ H' Q
theorem bA:B0 X [] mI:=by
 intro Ä s σ H vs us Q I r h;obtain⟨e,h⟩:=h;subst e;cases r;exact assignInOrder_nil ⟨σ,H,I,h⟩
theorem eN (h1:PG X e t)(h2:B0 X es u)
  (hs:(assignEach (e::es) X.env).map (·.2)=assign e X.env::(assignEach es X.env).map (·.2):=by rfl):B0 X (e::es) (c5 t u):=by
 intro Ä s σ H vs us Q I r h;obtain⟨v,vr,e1,h⟩:=h;subst e1;cases r with
 | cons r rr =>
  rw [hs];refine assignInOrder_cons (aV (h1 Ä s σ H _ _ _ I r h) λ _ s1 ⟨OI,H1,I1,q1⟩=>?_);exact h2 Ä s1 OI H1 _ _ Q I1 rr q1
def p0 (K:PySem.W.Frag)(n:Nat)(t:Bo):TG:=λ v σ H Q=>∃ a xs,v=.ref a/\ĝ K H a xs/\xs.length=n/\t xs σ H Q
theorem cr (hc:X.calm=true)(h:B0 X es t)
  (hn:(assignEach es X.env).length=n:=by rfl)(MK:(assignEach es X.env).findIdx? (·.1)=none:=by rfl):PG X (.Tuple es k ø) (p0 X.K n t):=by
 intro Ä s σ H v u Q I r hw;obtain⟨a,xs,e1,hq,hl,hw⟩:=hw;subst e1;cases r;obtain⟨its,rv,ht,hz⟩:=I.tuple hq;refine assign_Tuple_tuple (I.ok.hd hc) ht (by simp [hn,<- hl,rv.length]) MK λ h' hx=>?_
 have I1:Inv X Ä σ H { s with heap:=h' }:=I.kept λ b o e=>hx b o (Ð (Å e)) e
 exact h Ä _ σ H xs _ Q I1 (by simpa using rv) hw
def qV (to ti:TE)(t:yP):TG:=λ v σ H Q=>to σ H λ o H1=>ti σ H1 λ i H2=>t o i v H2 λ H3=>Q σ H3
theorem fN (ho:PE X o to)(hi:PE X i ti)(hs:xA X t)
  (ha:∀ v,assign (.Subscript o i ø) X.env v=(do
   let ov <- holding [v] (eval o X.env)
   let iv <- holding [v,ov] (eval i X.env)
   standAt ø
   holding [v,ov,iv] (setItem ov iv v)
   release [v,ov,iv] []):=by intro _;rfl):PG X (.Subscript o i ø) (qV to ti t):=by
 intro Ä s σ H v u Q I r h;rw [ha];refine À (ă (aV (ho Ä s σ H _ I h) λ ov s1 ⟨x,H1,I1,r1,q1⟩=>?_));refine À (ă (aV (hi Ä s1 σ H1 _ I1 q1) λ iv s2 ⟨y,H2,I2,r2,q2⟩=>?_));refine À (Ĩ (À (ă (aV (hs Ä s2 σ H2 x y v ov iv u _ I2 r1 r2 r q2) λ _ s3 ⟨H3,I3,q3⟩=>?_))));exact wpAny_release ⟨σ,H3,I3,q3⟩
def cG (te:TE)(g:TG):TS:=λ D σ H=>te σ H λ x H1=>g x σ H1 D.nx
theorem dX (he:PE X e te)(hg:PG X tg g)(hs:swapsWithSole [tg] e ø.line X.env=pure false:=by rfl)(hw:swappedStores [tg] e X.env=pure none:=by rfl)
  (h1:(assignEach [tg] X.env).map (·.2)=[assign tg X.env]:=by rfl):PS X (.Assign [tg] e ø) (cG te g):=by
 intro Ä s σ H D I h;refine wpAny_Assign_stores (aV (he Ä s σ H _ I h) λ v s1 ⟨x,H1,I1,r1,q1⟩=>?_) hs hw;rw [h1];exact aV (hg Ä s1 σ H1 x v _ I1 r1 q1) λ _ s2 q=>q
theorem jI (hN:X.N.Nodup)(hi:X.N[i]?=some x)(hx:Bp X.env.scope x)(he:PE X e te)(hs:swapsWith e (some (.Name x pos')) ø.line X.env=pure false:=by rfl)(hf:X.fn x=true\/X.env.scope.names.lookup x=some .local:=by first | exact .inl rfl | exact .inr rfl | assumption) :
  PS X (.Assign [.Name x pos'] e ø) (cG te (aX i)):=by
 intro Ä s σ H D I h;refine wpAny_Assign_Name (aV (he Ä s σ H _ I h) λ v s1 ⟨y,H1,I1,r1,q1⟩=>?_) hs;exact gD I1 hN hi hx r1 (λ s2 I2=>⟨_,H1,I2,q1⟩) hf
def FZ (i j:Nat)(ta:TA):TS:=λ D σ H=>ta σ H λ vs H1=>∃ v w,vs=[v,w]/\D.nx ((σ.set i (some v)).set j (some w)) H1
theorem yJ {kt k2 RS}(hc:X.calm=true)(hN:X.N.Nodup)(hi:X.N[i]?=some x)(hj:X.N[j]?=some y)(YC:i≠j)
  (hx:X.env.scope.names.lookup x=some .local)(hy:X.env.scope.names.lookup y=some .local)(ha:PA X [a,b] ta)
  (hw:swappedStores [.Tuple [.Name x px,.Name y py] kt pt] (.Tuple [a,b] k2 RS) X.env=pure (some [x,y]))
  (hs:swapsWithSole [.Tuple [.Name x px,.Name y py] kt pt] (.Tuple [a,b] k2 RS) ø.line X.env=pure false:=by rfl) :
  PS X (.Assign [.Tuple [.Name x px,.Name y py] kt pt] (.Tuple [a,b] k2 RS) ø) (FZ i j ta):=by
 intro Ä s σ H D I h;rw [exec_Assign_arm];refine À (Ĩ ?_);rw [hs];refine À (È ?_);rw [Ü ar];refine À (Tuple_ (aV (ha _ Ä s σ H _ I h) λ us s1 ⟨vs,H1,I1,r1,q1⟩=>?_));obtain⟨v,w,e1,q1⟩:=q1;subst e1;obtain⟨u1,u2,rfl,rv,L6⟩:∃ u1 u2,us=[u1,u2]/\RelV v u1/\RelV w u2:=by
  cases r1 with
  | cons p q =>
   cases q with
   | cons p' q' =>
    cases q';exact⟨_,_,rfl,p,p'⟩
 refine Č ?_ dZ;have I2:Inv X Ä σ H1 { s1 with heap:=s1.heap.push { cls:=.type "tuple",data:=.seq [u1,u2].toArray } }:=I1.kept λ b o e=>Â _ e
 rw [hw];refine À (È ?_);refine À (A_ (À (unpackItems_tuple (items:=#[u1,u2]) (I.ok.hd hc) (IsTup.new s1.heap _) λ h' Li=>?_)));have I3:=I2.kept (t':=s1.toks) λ b o e=>Li b o (Ð (Å e)) e;refine À (assignInOrder_cons (wpAny_bindName (gD I3 hN hj (.inl hy) L6 (λ s2 I4=>?_) (.inr hy))));refine assignInOrder_cons (wpAny_bindName (gD I4 hN hi (.inl hx) rv (λ s3 I5=>assignInOrder_nil (È ?_)) (.inr hx)));rw [List.set_comm _ _ (Ne.symm YC)] at I5;exact⟨_,H1,I5,q1⟩
def wg (to ti te:TE)(N2:V->V->Hp->VK->Prop)(RC:Hj)(N1:yP):TS:=λ D σ H=>to σ H λ o H1=>ti σ H1 λ i H2=>N2 o i H2 λ x H3=>te σ H3 λ y H4=>RC x y H4 λ z H5=>N1 o i z H5 λ H6=>D.nx σ H6
def Dc (X:Cx)(t:V->V->Hp->VK->Prop):Prop :=
 ∀(Ä:List (Addr × Obj))(s:Shared)(σ:St)(H:Hp)(o i:V)(ov iv:Value)(Q:VK),Inv X Ä σ H s->RelV o ov->RelV i iv->t o i H Q ->
  wpAny (model X.prog X.w) X.A (getItem ov iv) (EP X Ä σ Q) X.xe s
theorem vg (ho:PE X o to)(hi:PE X i ti)(hg:Dc X N2)(he:PE X e te)(hp:II X op RC)(hs:xA X N1)
  (ha:∀ ov iv new,augStore i ov iv new=(do holding [new,ov,iv] (setItem ov iv new);release [new,ov,iv] [];pure .next):=by intros;rfl):PS X (.AugAssign (.Subscript o i Ph) op e ø) (wg to ti te N2 RC N1):=by
 intro Ä s σ H D I h;refine wpAny_AugAssign_SubscriptAny (aV (ho Ä s σ H _ I h) λ ov s1 ⟨x1,H1,I1,r1,q1⟩=>?_) ha;refine aV (hi Ä s1 σ H1 _ I1 q1) λ iv s2 ⟨x2,H2,I2,r2,q2⟩=>?_;refine aV (hg Ä s2 σ H2 x1 x2 ov iv _ I2 r1 r2 q2) λ old s3 ⟨x3,H3,I3,r3,q3⟩=>?_;refine aV (he Ä s3 σ H3 _ I3 q3) λ v s4 ⟨x4,H4,I4,r4,q4⟩=>?_;refine aV (hp Ä s4 σ H4 x3 x4 old v _ I4 r3 r4 q4) λ new s5 ⟨x5,H5,I5,r5,q5⟩=>?_;exact aV (hs Ä s5 σ H5 x1 x2 x5 ov iv new _ I5 r1 r2 r5 q5) λ _ s6 ⟨H6,I6,q6⟩=>⟨σ,H6,I6,q6⟩
def Iu (f:Int->Int->Int):Hj:=λ x y H Q=>∃ i j,x=.int i/\y=.int j/\Q (.int (f i j)) H
theorem zB:II X .Add (Iu λ i j=>i+j):=by
 intro Ä s σ H x y v u Q I r1 r2 h;obtain⟨i,j,e1,e2,q⟩:=h;subst e1;subst e2;obtain⟨t,rfl⟩:=r1;obtain⟨t',rfl⟩:=r2;exact iadd_int ⟨.int _,H,I.tok _,⟨_,rfl⟩,q⟩
end
section
variable {X:Cx}{ø:Pos}
def tN (c:TT)(tb:TS):TS:=λ D σ H=>∃ W:Nat->St->Hp->Prop,(∃ m,W m σ H)/\∀ m σ H,W m σ H ->
 c σ H λ b H1=>if b=true then ∃ N:St->Hp->Prop,(∀ ĥ H',N ĥ H'->∃ m',m'<m/\W m' ĥ H')/\tb { D with nx:=N,ct:=N,bk:=D.nx } σ H1 else D.nx σ H1
theorem kH (hp:PassesOwn (model X.prog X.w) X.A X.env X.xe)(hc:PT X c tc)(hb:ż X body tb):PS X (.While c body [] ø) (tN tc tb):=by
 intro Ä s σ H D I h;obtain⟨W,⟨m0,w0⟩,turn⟩:=h;refine wpAny_While (codeAny_whileLoop (λ n s'=>∃ ĥ H',Inv X Ä ĥ H' s'/\W n ĥ H') ?_ m0 ⟨σ,H,I,w0⟩);rintro n s1 ⟨OI,H1,I1,w1⟩;refine Ń hp (aV (hc Ä s1 OI H1 _ I1 (turn n OI H1 w1)) λ b s2 ⟨H2,I2,q2⟩=>?_);cases b with
 | true =>
  obtain⟨N,hN,q2⟩:=q2;rw [â rfl];refine Ń hp (aV (hb Ä s2 OI H2 _ I2 q2) λ f s3 q3=>?_);cases f with
  | next =>
   obtain⟨LO,H3,I3,n3⟩:=q3;obtain⟨m',hm,w3⟩:=hN LO H3 n3;exact⟨m',hm,LO,H3,I3,w3⟩
  | cont =>
   obtain⟨LO,H3,I3,n3⟩:=q3;obtain⟨m',hm,w3⟩:=hN LO H3 n3;exact⟨m',hm,LO,H3,I3,w3⟩
  | brk=>exact q3
  | ret v=>exact q3
 | false =>
  rw [Ü Ñ];exact Jz ⟨OI,H2,I2,q2⟩
end
structure It where
 go:Nat->Hp->Prop
 JD:Nat->Hp->V->Hp->Prop
 stop:Nat->Hp->Prop
def cT (X:Cx)(Ä:List (Addr × Obj))(H:Hp)(b:Addr):Prop :=
 H b=none/\b≠X.env.locals/\b ∉ X.fs/\(b∈X.ex\/X.ŉ.heap.objs.size<=b)/\(∀ x c,X.env.cells.lookup x=some c->c≠b)/\∀ p∈X.pn ++ Ä,p.1≠b
theorem Inv.Ls (I:Inv X Ä σ H s)(hb:s.heap.objs.size<=b)(hn:H' b=none):cT X Ä H' b:=by
 refine⟨hn,ň (æ I.lt hb),I.R4 hb,.inr (ð I.sz hb),λ x c e z=>?_,λ p hp z=>?_⟩
 ·obtain⟨v,q⟩:=I.cell x c e;exact absurd (æ q.lt (by rw [z];exact hb)) (Į _)
 ·exact absurd (æ (Å (I.pin p hp).1) (by rw [z];exact hb)) (Į _)
structure nU (P:Program)(w:World)(K:PySem.W.Frag)(tg:Expr)(J:It)(fp:List Addr)(it:Addr)(tn:Nat->Heap->Prop):Prop where
 mem:it∈fp
 obj:∀ i h,tn i h->∀ b∈fp,∃ o,h.get? b=some o/\∀ v,o.data ≠ .cell v
 keep:∀ i h h',tn i h->(∀ b∈fp,∀ o,h.get? b=some o->h'.get? b=some o)->tn i h'
 item:∀(X:Cx),X.prog=P->X.w=w->X.K=K->X.calm=true->∀(i:Nat)(Ä:List (Addr × Obj))(s:Shared)(σ:St)(H:Hp)(E:eH),Inv X Ä σ H s->(∀ b∈fp,cT X Ä H b)->tn i s.heap->J.go i H ->
  wpAny (model P w) X.A (pyNext (.ref it)) (λ r s1=>∃ u,r=some u /\
   wpAny (model P w) X.A (letOwnedTupleGo tg (.ref it) u) (λ _ s2=>∃ x H',Inv X Ä σ H' s2/\RelV x u/\J.JD i H x H'/\tn (i+1) s2.heap/\∀ b∈fp,H' b=none) E s1) E s
 done:∀(X:Cx),X.prog=P->X.w=w->X.K=K->X.calm=true->∀(i:Nat)(Ä:List (Addr × Obj))(s:Shared)(σ:St)(H:Hp)(E:eH),Inv X Ä σ H s->(∀ b∈fp,cT X Ä H b)->tn i s.heap->J.stop i H ->
  wpAny (model P w) X.A (pyNext (.ref it)) (λ r s1=>r=none/\Inv X Ä σ H s1) E s
 self:∀(A:Around)(i:Nat)(s:Shared)(Q:eH)(E:eH),tn i s.heap->Q (.ref it) s->wpAny (model P w) A (pyIter (.ref it)) Q E s
abbrev TI:=St->Hp->(It->Hp->Prop)->Prop
def Iw (X:Cx)(Ä:List (Addr × Obj))(σ:St)(tg:Expr)(R:It->Hp->Prop)(Oc:Value)(s2:Shared):Prop :=
 ∃(it:Addr)(fp:List Addr)(tn:Nat->Heap->Prop)(J:It)(H':Hp),Oc=.ref it/\Inv X Ä σ H' s2/\nU X.prog X.w X.K tg J fp it tn/\tn 0 s2.heap/\(∀ b∈fp,cT X Ä H' b)/\R J H'
def PI (X:Cx)(tg iter:Expr)(wi:TI):Prop :=
 ∀(Ä:List (Addr × Obj))(s:Shared)(σ:St)(H:Hp)(R:It->Hp->Prop),Inv X Ä σ H s->wi σ H R ->
  wpAny (model X.prog X.w) X.A (eval iter X.env) (λ v s1=>wpAny (model X.prog X.w) X.A (pyIter v) (Iw X Ä σ tg R) X.xe s1) X.xe s
theorem sw (ho:s.heap.get? it=some o)(hc:o.cls=.type n)(hd:o.data=.fields vs)
  (hn:["enumerate","zip","dict_itemiterator","dict_reverseitemiterator","odict_iterator","itertools.zip_longest","itertools.pairwise"].contains n=false)(hQ:Q () s):wpAny M A (letOwnedTupleGo tg (.ref it) u) Q E s:=by
 cases tg <;> first
  | exact È hQ
  | (cases u <;> first
    | exact È hQ
    | (refine À (wpAny_load ho ?_)
       rw [hc,hd];show wpAny M A (if(["enumerate","zip","dict_itemiterator","dict_reverseitemiterator","odict_iterator","itertools.zip_longest","itertools.pairwise"].contains n&&vs[0]?==some (rawInt _))=true then _ else _) Q E s
       rw [Ü (by intro h;rw [hn,Β] at h;cases h)]
       exact È hQ))
def ji (K:PySem.W.Frag)(a:Addr):It :=
 ⟨λ i H=>∃ xs x,î K H a xs/\xs[i]?=some x,λ i H x H'=>H'=H/\∀ xs,î K H a xs->xs[i]?=some x,λ i H=>∃ xs,î K H a xs/\xs.length<=i⟩
def Br (K:PySem.W.Frag)(a:Addr):It :=
 ⟨λ i H=>∃ xs x,ĝ K H a xs/\xs[i]?=some x,λ i H x H'=>H'=H/\∀ xs,ĝ K H a xs->xs[i]?=some x,λ i H=>∃ xs,ĝ K H a xs/\xs.length<=i⟩
def vj (lo:Int)(n:Nat):It:=⟨λ i _=>i<n,λ i H x H'=>H'=H/\x=.int (lo+i),λ i _=>n<=i⟩
theorem qz {K:PySem.W.Frag}(a it:Addr):nU P w K tg (ji K a) [it] it (λ i h=>h.IsListIter it a i) where
 mem:=by simp
 obj:=λ i h st b hb=>by
  have e:b=it:=by simpa using hb
  subst e;obtain⟨o,e,c,d⟩:=st;exact⟨o,e,λ v z=>by rw [d] at z;cases z⟩
 keep:=λ i h h' st k=>st.at λ o e=>k it (by simp) o e
 item:=by
  intro X hP hw hK hc i Ä s σ H E I hf st hg;subst hP hw hK;obtain⟨xs,x,hq,hx⟩:=hg;obtain⟨its,rv,p,hz⟩:=I.list hq;obtain⟨u,hu,ru⟩:=rv.get hx;obtain⟨f0,f1,f2,f3,f4,f5⟩:=hf it (by simp)
  refine wpAny_pyNext_list_item st p.isList (by simpa using hu) λ h' Nr sb=>?_
  have I1:Inv X Ä σ H { s with heap:=h' }:=I.turned (λ b o hb e=>(sb.2 b hb).trans e) f0 f1 f3 f4 f5
  obtain⟨o,e,c,d⟩:=id Nr;exact⟨u,rfl,sw e c d ar ⟨x,H,I1,ru,⟨rfl,λ ys hy=>by rw [I.Ω hy hq];exact hx⟩,Nr,λ b hb=>(hf b hb).1⟩⟩
 done:=by
  intro X hP hw hK hc i Ä s σ H E I hf st hg;subst hP hw hK;obtain⟨xs,hq,hx⟩:=hg;obtain⟨its,rv,p,hz⟩:=I.list hq;obtain⟨f0,f1,f2,f3,f4,f5⟩:=hf it (by simp)
  have hl:=rv.length;exact wpAny_pyNext_list_end (I.ok.hd hc) st p.isList (by simp;omega) λ h' eb=>⟨rfl,I.turned (λ b o hb e=>eb b o hb e) f0 f1 f3 f4 f5⟩
 self:=λ _ _ _ _ _ st h=>wpAny_pyIter_listiter st h
theorem nV {K:PySem.W.Frag}(a it:Addr):nU P w K tg (Br K a) [it] it (λ i h=>h.IsTupleIter it a i) where
 mem:=by simp
 obj:=λ i h st b hb=>by
  have e:b=it:=by simpa using hb
  subst e;obtain⟨o,e,c,d⟩:=st;exact⟨o,e,λ v z=>by rw [d] at z;cases z⟩
 keep:=λ i h h' st k=>st.at λ o e=>k it (by simp) o e
 item:=by
  intro X hP hw hK hc i Ä s σ H E I hf st hg;subst hP hw hK;obtain⟨xs,x,hq,hx⟩:=hg;obtain⟨its,rv,p,hz⟩:=I.tuple hq;obtain⟨u,hu,ru⟩:=rv.get hx;obtain⟨f0,f1,f2,f3,f4,f5⟩:=hf it (by simp)
  refine wpAny_pyNext_tuple_item st (show s.heap.IsTuple a its.toArray from p) (by simpa using hu) λ h' Nr sb=>?_
  have I1:Inv X Ä σ H { s with heap:=h' }:=I.turned (λ b o hb e=>(sb.2 b hb).trans e) f0 f1 f3 f4 f5
  obtain⟨o,e,c,d⟩:=id Nr;exact⟨u,rfl,sw e c d ar ⟨x,H,I1,ru,⟨rfl,λ ys hy=>by rw [I.ξ hy hq];exact hx⟩,Nr,λ b hb=>(hf b hb).1⟩⟩
 done:=by
  intro X hP hw hK hc i Ä s σ H E I hf st hg;subst hP hw hK;obtain⟨xs,hq,hx⟩:=hg;obtain⟨its,rv,p,hz⟩:=I.tuple hq;obtain⟨f0,f1,f2,f3,f4,f5⟩:=hf it (by simp)
  have hl:=rv.length;exact wpAny_pyNext_tuple_end (I.ok.hd hc) st (show s.heap.IsTuple a its.toArray from p) (by simp;omega) λ h' eb=>⟨rfl,I.turned (λ b o hb e=>eb b o hb e) f0 f1 f3 f4 f5⟩
 self:=λ _ _ _ _ _ st h=>wpAny_pyIter_tupleiter st h
theorem oj {P:Program}{w:World}{K:PySem.W.Frag}{tg:Expr}(it:Addr)(lo:Int)(n:Nat):nU P w K tg (vj lo n) [it] it (λ i h=>IsRangeIter h it (lo+(i:Nat)*1) ((n:Int)-(i:Nat)) 1) where
 mem:=by simp
 obj:=λ i h st b hb=>by
  have e:b=it:=by simpa using hb
  subst e;exact⟨_,st,λ v z=>by
   have z':Data.fields _=Data.cell v:=z;cases z'⟩
 keep:=λ i h h' st k=>k it (by simp) _ st
 item:=by
  intro X hP hw hK hc i Ä s σ H E I hf st hg;subst hP hw hK;obtain⟨f0,f1,f2,f3,f4,f5⟩:=hf it (by simp)
  have W:=Walks.range (prog:=X.prog) (w:=X.w) (I.ok.hd hc) it lo 1 n;refine W.item i s _ _ hg st λ v h' tk hv Nr kk=>?_;obtain⟨t,rfl⟩:=hv;have I1:Inv X Ä σ H { s with heap:=h',toks:=tk }:=I.turned (λ b o hb e=>kk b o (by simpa using hb) e) f0 f1 f3 f4 f5
  refine⟨_,rfl,sw Nr rfl rfl ar ⟨.int (lo+i),H,I1,⟨t,?_⟩,⟨rfl,rfl⟩,Nr,λ b hb=>(hf b hb).1⟩⟩;rw [Int.mul_one]
 done:=by
  intro X hP hw hK hc i Ä s σ H E I hf st hg;subst hP hw hK;obtain⟨f0,f1,f2,f3,f4,f5⟩:=hf it (by simp)
  exact wpAny_pyNext_range_end (I.ok.hd hc) st (by have:n<=i:=hg;omega) λ h' eb=>⟨rfl,I.turned (λ b o hb e=>eb b o hb e) f0 f1 f3 f4 f5⟩
 self:=λ _ _ _ _ _ st h=>wpAny_pyIter_rangeiter st h
section
variable {X:Cx}{tg:Expr}
def bn (K:PySem.W.Frag)(tl:TE):TI:=λ σ H R=>tl σ H λ x H1=>∃ a,x=.ref a/\(∃ xs,î K H1 a xs)/\R (ji K a) H1
def DJ (K:PySem.W.Frag)(tl:TE):TI:=λ σ H R=>tl σ H λ x H1=>∃ a,x=.ref a/\(∃ xs,ĝ K H1 a xs)/\R (Br K a) H1
theorem aG {tl:TE}(hl:PE X l tl):PI X tg l (bn X.K tl):=by
 intro Ä s σ H R I h;refine aV (hl Ä s σ H _ I h) λ v s1 ⟨x,H1,I1,r1,q1⟩=>?_;obtain⟨a,e,⟨xs,hq⟩,q⟩:=q1;subst e;cases r1;obtain⟨its,rv,p,hz⟩:=I1.list hq;refine LI p.isList ?_;refine⟨s1.heap.objs.size,[s1.heap.objs.size],_,_,H1,rfl,I1.kept λ b o e=>Â _ e,qz a _,⟨_,Ò _ rfl,rfl,rfl⟩,λ b hb=>?_,q⟩;have e:b=s1.heap.objs.size:=by simpa using hb
 subst e;exact I1.Ls (Ç _) (I1.Đ.fresh (Ç _))
theorem ou (hl:PE X l tl):PI X tg l (DJ X.K tl):=by
 intro Ä s σ H R I h;refine aV (hl Ä s σ H _ I h) λ v s1 ⟨x,H1,I1,r1,q1⟩=>?_;obtain⟨a,e,⟨xs,hq⟩,q⟩:=q1;subst e;cases r1;obtain⟨its,rv,p,hz⟩:=I1.tuple hq;refine wpAny_pyIter_tuple (show s1.heap.IsTuple a its.toArray from p) ?_;refine⟨s1.heap.objs.size,[s1.heap.objs.size],_,_,H1,rfl,I1.kept λ b o e=>Â _ e,nV a _,⟨_,Ò _ rfl,rfl,rfl⟩,λ b hb=>?_,q⟩;have e:b=s1.heap.objs.size:=by simpa using hb
 subst e;exact I1.Ls (Ç _) (I1.Đ.fresh (Ç _))
theorem tI {Ä:List (Addr × Obj)}{σ:St}{H:Hp}{s:Shared}{R:It->Hp->Prop}{E:eH}{lo hi:Int}{t u v:Tok}{tk:Nat}(I:Inv X Ä σ H s)(h1:-(2^62)<=lo)(h2:lo<2^62)(h3:-(2^62)<=hi)(h4:hi<2^62)
  (q:R (vj lo (hi-lo).toNat) H):wpAny (model X.prog X.w) X.A (pyIter (.ref s.heap.objs.size)) (Iw X Ä σ tg R) E { s with heap:=s.heap.push { cls:=.type "range",data:=.fields #[.int lo t,.int hi u,.int 1 v] },toks:=tk }:=by
 refine wpAny_pyIter_range (IsRange.new ..) (small_one h1 h2 h3 h4) ?_;have I1:Inv X Ä σ H { s with heap:=s.heap.push { cls:=.type "range",data:=.fields #[.int lo t,.int hi u,.int 1 v] },toks:=tk }:=I.kept λ b o e=>Â _ e
 refine⟨(s.heap.push { cls:=.type "range",data:=.fields #[.int lo t,.int hi u,.int 1 v] }).objs.size,[(s.heap.push { cls:=.type "range",data:=.fields #[.int lo t,.int hi u,.int 1 v] }).objs.size],_,_,H,rfl,
  I1.kept λ b o e=>Â _ e,oj _ lo (hi-lo).toNat,?_,λ b hb=>?_,q⟩
 ·have e1:lo+((0:Nat):Int)*1=lo:=by simp
  have e2:(((hi-lo).toNat:Nat):Int)-((0:Nat):Int)=Builtin.Range.rangeSize lo hi 1:=by rw [rangeSize_one];split <;> omega
  rw [e1,e2];exact Ò _ rfl
 ·have e:b=(s.heap.push { cls:=.type "range",data:=.fields #[.int lo t,.int hi u,.int 1 v] }).objs.size:=by simpa using hb
  subst e;exact I1.Ls (Ç _) (I1.Đ.fresh (Ç _))
def lJ (ta:TA):TI:=λ σ H R=>ta σ H λ vs H1=>∃ j:Int,vs=[.int j]/\-(2^62)<=j/\j<2^62/\R (vj 0 j.toNat) H1
theorem fS {a:Expr}{ta:TA}{p ø:Pos}(hg:Gl X "range")(hm:X.mg "range" = none)(ha:PA X [a] ta)(hs:starEach [a] X.env=[(false,eval a X.env)]:=by rfl):PI X tg (.Call (.Name "range" p) [a] [] ø) (lJ ta):=by
 intro Ä s σ H R I h;refine Call_ (fO I hg hm boot_range (ď (aV (ha ø Ä s σ H _ I h) λ us s1 ⟨vs,H1,I1,r1,q1⟩=>?_) hs rfl));obtain⟨j,e,q1,q2,q⟩:=q1;subst e;cases r1 with
 | cons r rr =>
  cases rr;obtain⟨t,rfl⟩:=r;exact call_range_1 (tI I1 ak ak q1 q2 (by simpa using q))
def lA (wi:TI)(g:TG)(tb:TS):TS:=λ D σ H=>wi σ H λ J H1=>∃ W:Nat->Nat->St->Hp->Prop,(∃ m,W 0 m σ H1)/\∀ i m σ H,W i m σ H ->
 (J.stop i H/\D.nx σ H)\/(J.go i H/\∃ N:St->Hp->Prop,(∀ ĥ H',N ĥ H'->∃ m',m'<m/\W (i+1) m' ĥ H')/\∀ x H',J.JD i H x H'->g x σ H' λ Ĭ H2=>tb { D with nx:=N,ct:=N,bk:=D.nx } Ĭ H2)
def kq (fp:List Addr)(h:Heap):List (Addr × Obj):=fp.filterMap λ b=>(h.get? b).map λ o=>(b,o)
theorem ba (hb:b∈fp)(e:h.get? b=some o):(b,o)∈kq fp h:=List.mem_filterMap.mpr ⟨b,hb,by rw [e];rfl⟩
theorem pY (hp:p∈kq fp h):p.1∈fp/\h.get? p.1=some p.2:=by
 obtain⟨b,hb,e⟩:=List.mem_filterMap.mp hp;cases q:h.get? b with
 | none=>rw [q] at e;cases e
 | some o =>
  rw [q] at e;have e':=Ý e;subst e';exact⟨hb,q⟩
theorem Inv.pinned (I:Inv X Ä σ H s)(hf:∀ b∈fp,cT X Ä H b)(ho:∀ b∈fp,∃ o,s.heap.get? b=some o/\∀ v,o.data ≠ .cell v):Inv X (Ä ++ kq fp s.heap) σ H s :=
 I.KU λ p hp=>(ğ.mp hp).elim (λ z=>I.pin p (Ë _ z)) λ z=>by
  obtain⟨hb,e⟩:=pY z;obtain⟨f0,f1,f2,_⟩:=hf p.1 hb;obtain⟨o,e',d⟩:=ho p.1 hb;rw [e] at e';cases e';exact⟨e,f0,f1,f2,d⟩
theorem Inv.ņ (I:Inv X (Ä ++ pl) σ H s):Inv X Ä σ H s:=I.KU λ p hp=>I.pin p (Ë _ (List.mem_append_left _ hp))
theorem dR (hp:PassesOwn (model X.prog X.w) X.A X.env X.xe)(hc:X.calm=true)(hi:PI X tg iter wi)(hg:PG X tg g)(hb:ż X body tb)
  (hs:∀ x,foldedSetIterable iter X.env x=pure x:=by intro _;rfl):PS X (.For tg iter body [] ø) (lA wi g tb):=by
 intro Ä s σ H D I h;refine wpAny_For (aV (hi Ä s σ H _ I h) λ v s1 h1=>aV h1 λ Oc s2 h2=>?_) hs;obtain⟨it,fp,tn,J,H2,e,I2,T,Js,f2,W,⟨m0,w0⟩,turn⟩:=h2;subst e;have Ŗ:∀{H':Hp},(∀ b∈fp,H' b=none)->∀ b∈fp,cT X Ä H' b:=λ hn b hb=>⟨hn b hb,(f2 b hb).2⟩;refine codeAny_forLoop_any (λ n s'=>∃ i ĥ H',Inv X Ä ĥ H' s'/\tn i s'.heap/\(∀ b∈fp,H' b=none)/\W i n ĥ H') ?_ m0 ⟨0,σ,H2,I2,Js,λ b hb=>(f2 b hb).1,w0⟩;rintro n s3 ⟨i,LO,H3,I3,Lz,UB,w3⟩;rcases turn i n LO H3 w3 with⟨stop,qn⟩ | ⟨go,N,hN,step⟩
 ·refine Ń hp (aV (T.done X rfl rfl rfl hc i Ä s3 LO H3 X.xe I3 (Ŗ UB) Lz stop) λ r s4 ⟨hr,I4⟩=>?_);subst hr;exact Jz ⟨LO,H3,I4,qn⟩
 ·refine Ń hp (aV (T.item X rfl rfl rfl hc i Ä s3 LO H3 X.xe I3 (Ŗ UB) Lz go) λ r s4 ⟨u,hr,h4⟩=>?_);subst hr;refine Ń hp (aV h4 λ _ s5 ⟨x,H5,I5,r5,y5,e_,Mu⟩=>?_);have ME:=I5.pinned (Ŗ Mu) (T.obj _ _ e_);refine Ń hp (aV (hg _ s5 LO H5 x u _ ME r5 (step x H5 y5)) λ _ s6 ⟨OH,H6,I6,q6⟩=>?_);refine Ń hp (aV (hb _ s6 OH H6 _ I6 q6) λ f s7 q7=>?_);have again:∀{LN:St}{H7:Hp},Inv X (Ä ++ kq fp s5.heap) LN H7 s7->N LN H7->∃ m,m<n/\∃ i ĥ H',Inv X Ä ĥ H' s7/\tn i s7.heap/\(∀ b∈fp,H' b=none)/\W i m ĥ H':=λ {LN H7} I7 n7=>by
   obtain⟨m',hm,w7⟩:=hN LN H7 n7;refine⟨m',hm,i+1,LN,H7,I7.ņ,T.keep _ _ _ e_ λ b hb o e=>(I7.pin (b,o) (Ë _ (Ë _ (ba hb e)))).1,λ b hb=>?_,w7⟩;obtain⟨o,e,d⟩:=T.obj _ _ e_ b hb;exact(I7.pin (b,o) (Ë _ (Ë _ (ba hb e)))).2.1
  cases f with
  | next=>obtain⟨LN,H7,I7,n7⟩:=q7;exact again I7 n7
  | cont=>obtain⟨LN,H7,I7,n7⟩:=q7;exact again I7 n7
  | brk=>obtain⟨LN,H7,I7,q7⟩:=q7;exact⟨LN,H7,I7.ņ,q7⟩
  | ret v=>obtain⟨x7,LN,H7,I7,r7,q7⟩:=q7;exact⟨x7,LN,H7,I7.ņ,r7,q7⟩
end
theorem gv {K:PySem.W.Frag}{a:Addr}{xs:List V}{g:TG}{tb:TS}{D:cP}{σ:St}{H:Hp}(Pv:Nat->St->Hp->Prop)(h0:Pv 0 σ H)(hl:∀ i σ H,i<=xs.length->Pv i σ H->î K H a xs)
  (hs:∀ i x σ H,xs[i]?=some x->Pv i σ H->g x σ H λ Ĭ H2=>tb { D with nx:=Pv (i+1),ct:=Pv (i+1),bk:=D.nx } Ĭ H2)(hd:∀ σ H,Pv xs.length σ H->D.nx σ H) :
  ∃ W:Nat->Nat->St->Hp->Prop,(∃ m,W 0 m σ H)/\∀ i m σ H,W i m σ H ->
   ((ji K a).stop i H/\D.nx σ H)\/((ji K a).go i H/\∃ N:St->Hp->Prop,(∀ ĥ H',N ĥ H'->∃ m',m'<m/\W (i+1) m' ĥ H')/\∀ x H',(ji K a).JD i H x H'->g x σ H' λ Ĭ H2=>tb { D with nx:=N,ct:=N,bk:=D.nx } Ĭ H2):=by
 refine⟨λ i m σ H=>m=xs.length-i/\i<=xs.length/\Pv i σ H,⟨xs.length,by simp,Nat.zero_le _,h0⟩,?_⟩
 rintro i m σ H ⟨rfl,hi,p⟩;have q:=hl i σ H hi p;by_cases ź:i<xs.length
 ·refine .inr ⟨⟨xs,xs[i],q,by simp [ź]⟩,Pv (i+1),λ ĥ H' p'=>⟨xs.length-(i+1),ak,rfl,ź,p'⟩,λ x H' y=>?_⟩
  obtain⟨e,y⟩:=y;subst e;exact hs i x σ _ (y xs q) p
 ·have e:i=xs.length:=ak;subst e;exact .inl ⟨⟨xs,q,Ç _⟩,hd σ H p⟩
theorem qB {lo:Int}{n:Nat}{g:TG}{tb:TS}{D:cP}{σ:St}{H:Hp}(Pv:Nat->St->Hp->Prop)(h0:Pv 0 σ H)
  (hs:∀ i σ H,i<n->Pv i σ H->g (.int (lo+i)) σ H λ Ĭ H2=>tb { D with nx:=Pv (i+1),ct:=Pv (i+1),bk:=D.nx } Ĭ H2)(hd:∀ σ H,Pv n σ H->D.nx σ H) :
  ∃ W:Nat->Nat->St->Hp->Prop,(∃ m,W 0 m σ H)/\∀ i m σ H,W i m σ H ->
   ((vj lo n).stop i H/\D.nx σ H)\/((vj lo n).go i H/\∃ N:St->Hp->Prop,(∀ ĥ H',N ĥ H'->∃ m',m'<m/\W (i+1) m' ĥ H')/\∀ x H',(vj lo n).JD i H x H'->g x σ H' λ Ĭ H2=>tb { D with nx:=N,ct:=N,bk:=D.nx } Ĭ H2):=by
 refine⟨λ i m σ H=>m=n-i/\i<=n/\Pv i σ H,⟨n,by simp,Nat.zero_le _,h0⟩,?_⟩
 rintro i m σ H ⟨rfl,hi,p⟩;by_cases ź:i<n
 ·refine .inr ⟨ź,Pv (i+1),λ ĥ H' p'=>⟨n-(i+1),ak,rfl,ź,p'⟩,λ x H' y=>?_⟩;obtain⟨e,y⟩:=y;subst e y;exact hs i σ _ ź p
 ·have e:i=n:=ak;subst e;exact .inl ⟨Ç _,hd σ H p⟩
theorem rV (Pv:St->Hp->Prop)(μ:St->Hp->Nat)(h0:Pv σ H)
  (hs:∀ σ H,Pv σ H->c σ H λ b H1=>if b=true then tb { D with nx:=λ ĥ H'=>Pv ĥ H'/\μ ĥ H' < μ σ H,ct:=λ ĥ H'=>Pv ĥ H'/\μ ĥ H' < μ σ H,bk:=D.nx } σ H1 else D.nx σ H1)
  (mono:∀ σ H Q Q',(∀ b H1,Q b H1->Q' b H1)->c σ H Q->c σ H Q'):tN c tb D σ H:=by
 refine⟨λ m σ H=>m = μ σ H/\Pv σ H,⟨_,rfl,h0⟩,?_⟩;rintro m σ H ⟨rfl,p⟩;refine mono σ H _ _ (λ b H1 q=>?_) (hs σ H p);cases b with
 | true=>exact⟨_,λ ĥ H' ⟨p',l⟩=>⟨_,l,rfl,p'⟩,q⟩
 | false=>exact q
abbrev R2:=V->V->Hp->VK->Prop
def ia (X:Cx)(f:Value->Value->Sem Value)(r:R2):Prop :=
 ∀(Ä:List (Addr × Obj))(s:Shared)(σ:St)(H:Hp)(x y:V)(v u:Value)(Q:VK),Inv X Ä σ H s->RelV x v->RelV y u->r x y H Q ->
  wpAny (model X.prog X.w) X.A (f v u) (EP X Ä σ Q) X.xe s
def Gm (X:Cx)(f:Value->Sem Value)(r:V->Hp->VK->Prop):Prop :=
 ∀(Ä:List (Addr × Obj))(s:Shared)(σ:St)(H:Hp)(x:V)(v:Value)(Q:VK),Inv X Ä σ H s->RelV x v->r x H Q ->
  wpAny (model X.prog X.w) X.A (f v) (EP X Ä σ Q) X.xe s
def cQ (X:Cx)(f:Value)(r:List V->Hp->VK->Prop):Prop :=
 ∀(Ä:List (Addr × Obj))(s:Shared)(σ:St)(H:Hp)(xs:List V)(us:List Value)(Q:VK),Inv X Ä σ H s->Vals xs us->r xs H Q ->
  wpAny (model X.prog X.w) X.A (call f us) (EP X Ä σ Q) X.xe s
def aS (r:R2)(ta tb:TE):TE:=λ σ H Q=>ta σ H λ x H1=>tb σ H1 λ y H2=>r x y H2 Q
def IT (r:V->Hp->VK->Prop)(ta:TE):TE:=λ σ H Q=>ta σ H λ x H1=>r x H1 Q
def rI (C:Int->Int->Prop)(g:Int->Int->V):R2:=λ x y H Q=>∃ i j,x=.int i/\y=.int j/\C i j/\Q (g i j) H
def dH (g:Int->Int->V):R2:=λ x y H Q=>∃ i j,x=.int i/\y=.int j/\Q (g i j) H
def rU (g:Int->V):V->Hp->VK->Prop:=λ x H Q=>∃ i,x=.int i/\Q (g i) H
section
variable {X:Cx}{a b c:Expr}{ta tb tc:TE}{ø:Pos}
theorem As (ha:PE X a ta)(hb:PE X b tb){Ä:List (Addr × Obj)}{s:Shared}{σ:St}{H:Hp}{R:V->V->Hp->Prop}(I:Inv X Ä σ H s)
  (h:ta σ H λ x H1=>tb σ H1 λ y H2=>R x y H2){Q:eH}{f:Value->Value->Sem Value}
  (hf:∀ v u s2 x y H2,Inv X Ä σ H2 s2->RelV x v->RelV y u->R x y H2->wpAny (model X.prog X.w) X.A (f v u) Q X.xe s2) :
  wpAny (model X.prog X.w) X.A (eval a X.env) (λ v Ĉ=>wpAny (model X.prog X.w) X.A (eval b X.env) (λ u Ÿ=>wpAny (model X.prog X.w) X.A (f v u) Q X.xe Ÿ) X.xe Ĉ) X.xe s:=by
 refine aV (ha Ä s σ H _ I h) λ v s1 ⟨x,H1,I1,r1,q1⟩=>?_;refine aV (hb Ä s1 σ H1 _ I1 q1) λ u s2 ⟨y,H2,I2,r2,q2⟩=>?_;exact hf v u s2 x y H2 I2 r1 r2 q2
theorem aA {op:Operator}{r:R2}(ho:ia X (binaryOp op) r)(ha:PE X a ta)(hb:PE X b tb):PE X (.BinOp a op b ø) (aS r ta tb):=by
 intro Ä s σ H Q I h;exact wpAny_BinOp (As ha hb I h λ v u s2 x y H2 I2 rx ry q=>ho Ä s2 σ H2 x y v u Q I2 rx ry q)
theorem BT (ho:Gm X (unaryOp op) r)(ha:PE X a ta):PE X (.UnaryOp op a ø) (IT r ta):=by
 intro Ä s σ H Q I h;exact UnaryOp_ (aV (ha Ä s σ H _ I h) λ v s1 ⟨x,H1,I1,r1,q1⟩=>ho Ä s1 σ H1 x v Q I1 r1 q1)
theorem FF {f:Value->Value->Sem Value}{C:Int->Int->Prop}{g:Int->Int->Int}
  (rule:∀(i j:Int)(t u:Tok)(s:Shared)(Q:eH)(E:eH),C i j->Q (.int (g i j) s.toks) { s with toks:=s.toks+1 }->wpAny (model X.prog X.w) X.A (f (.int i t) (.int j u)) Q E s) :
  ia X f (rI C λ i j=>.int (g i j)):=by
 intro Ä s σ H x y v u Q I rx ry h;obtain⟨i,j,rfl,rfl,hc,q⟩:=h;obtain⟨t,rfl⟩:=rx;obtain⟨t',rfl⟩:=ry;exact rule i j t t' s _ _ hc ⟨.int (g i j),H,I.tok _,⟨_,rfl⟩,q⟩
theorem xN {f:Value->Value->Sem Value}{g:Int->Int->Int}
  (rule:∀(i j:Int)(t u:Tok)(s:Shared)(Q:eH)(E:eH),Q (.int (g i j) s.toks) { s with toks:=s.toks+1 }->wpAny (model X.prog X.w) X.A (f (.int i t) (.int j u)) Q E s) :
  ia X f (dH λ i j=>.int (g i j)):=by
 intro Ä s σ H x y v u Q I rx ry h;obtain⟨i,j,rfl,rfl,q⟩:=h;obtain⟨t,rfl⟩:=rx;obtain⟨t',rfl⟩:=ry;exact rule i j t t' s _ _ ⟨.int (g i j),H,I.tok _,⟨_,rfl⟩,q⟩
theorem uw {f:Value->Value->Sem Value}{g:Int->Int->Bool}
  (rule:∀(i j:Int)(t u:Tok)(s:Shared)(Q:eH)(E:eH),Q (.bool (g i j)) s->wpAny (model X.prog X.w) X.A (f (.int i t) (.int j u)) Q E s) :
  ia X f (dH λ i j=>.bl (g i j)):=by
 intro Ä s σ H x y v u Q I rx ry h;obtain⟨i,j,rfl,rfl,q⟩:=h;obtain⟨t,rfl⟩:=rx;obtain⟨t',rfl⟩:=ry;exact rule i j t t' s _ _ ⟨.bl (g i j),H,I,rfl,q⟩
def kY (i j:Int):Prop:=0<j/\j<1073741824
def EK (i j:Int):Prop:=0<=j/\j<=1000000/\i.natAbs<2^64
def ų (i j:Int):Prop:=(-(2^64)<i/\i<2^64)\/(-(2^64)<j/\j<2^64)
theorem ų.ok {i j:Int}(h:ų i j):IntMulOk i j:=by
 rcases h with⟨h1,h2⟩ | ⟨h1,h2⟩
 ·exact .of_left (intBits_le_64 h1 h2)
 ·exact .of_right (intBits_le_64 h1 h2)
theorem bB:ia X (binaryOp .Add) (dH λ i j=>.int (i+j)):=xN λ _ _ _ _ _ _ _ q=>add_int q
theorem gL:ia X (binaryOp .Sub) (dH λ i j=>.int (i-j)):=xN λ _ _ _ _ _ _ _ q=>sub_int q
theorem c7:ia X (binaryOp .Mult) (rI ų λ i j=>.int (i*j)):=FF λ _ _ _ _ _ _ _ hc q=>mul_int q hc.ok
theorem fU:ia X (binaryOp .FloorDiv) (rI kY λ i j=>.int (i/j)):=FF λ i j _ _ _ _ _ hc q=>by
 have h1:=hc.1;have h2:=hc.2;exact floordiv_int ak (by rw [Int.fdiv_eq_ediv_of_nonneg i ak];exact q) (.inl (PyProof.noPylong_small ak))
theorem dU:ia X (binaryOp .Mod) (rI (λ _ j=>0<j) λ i j=>.int (i%j)):=FF λ i j _ _ _ _ _ hc q=>by
 have h1:=hc;exact mod_int' ak (by rw [Int.fmod_eq_emod_of_nonneg i ak];exact q)
theorem yE:ia X (binaryOp .Pow) (rI EK λ i j=>.int (i^j.toNat)):=FF λ _ _ _ _ _ _ _ hc q=>pow_int_small hc.1 hc.2.1 hc.2.2 q
theorem xC:ia X (binaryOp .BitXor) (dH λ i j=>.int (Builtin.bitXor i j)):=xN λ _ _ _ _ _ _ _ q=>xor_int q
theorem Jn {f:Value->Sem Value}{g:Int->Int}
  (rule:∀(i:Int)(t:Tok)(s:Shared)(Q:eH)(E:eH),Q (.int (g i) s.toks) { s with toks:=s.toks+1 }->wpAny (model X.prog X.w) X.A (f (.int i t)) Q E s) :
  Gm X f (rU λ i=>.int (g i)):=by
 intro Ä s σ H x v Q I rx h;obtain⟨i,rfl,q⟩:=h;obtain⟨t,rfl⟩:=rx;exact rule i t s _ _ ⟨.int (g i),H,I.tok _,⟨_,rfl⟩,q⟩
theorem Bj:Gm X (unaryOp .USub) (rU λ i=>.int (-i)):=Jn λ _ _ _ _ _ q=>neg_int q
end
def Cp:V->V->Bool
 | .ą,.ą=>true | .ą,.int _=>true | .int _,.ą=>true | .ą,.bl _=>true | .bl _,.ą=>true | .ą,.str _=>true | .str _,.ą=>true
 | .int _,.int _=>true | .bl _,.bl _=>true | .str _,.str _=>true | .LH _,.LH _=>true
 | .int _,.str _=>true | .str _,.int _=>true | .bl _,.str _=>true | .str _,.bl _=>true
 | _,_=>false
def uR:R2:=λ x y H Q=>Cp x y=true/\Q (.bl (decide (x=y))) H
def Fy:R2:=λ x y H Q=>Cp x y=true/\Q (.bl (!decide (x=y))) H
theorem pM:decide (V.int i=V.int j)=(i==j):=by
 rw [ψ];simp
theorem rL:decide (V.bl i=V.bl j)=(i==j):=by
 rw [ψ];simp
theorem oI:decide (V.str i=V.str j)=(i==j):=by
 rw [ψ];simp
theorem pB:decide (V.LH i=V.LH j)=(i.toList==j.toList):=by
 rw [ψ];cases i;cases j;simp
section
variable {X:Cx}{a b c:Expr}{ta tb tc:TE}{ø:Pos}
theorem aW (I:Inv X Ä σ H s)(q:Q (.bl k) H)(e:k=k'):EP X Ä σ Q (.bool k') s:=by
 subst e;exact⟨.bl k,H,I,rfl,q⟩
theorem eD:ia X (compareOp .Eq) uR:=by
 intro Ä s σ H x y v u Q I rx ry h;obtain⟨hs,q⟩:=h;cases x with
 | ą =>
  cases rx;cases y with
  | ą=>cases ry;exact PySem.EqNone.eq_none_none (aW I q (by simp))
  | bl j=>cases ry;exact PySem.EqNone.eq_none_bool (aW I q (by simp))
  | int j=>obtain⟨t',rfl⟩:=ry;exact PySem.EqNone.eq_none_int (aW I q (by simp))
  | str j=>obtain⟨t',rfl⟩:=ry;exact PySem.EqNone.eq_none_str (aW I q (by simp))
  | _=>exact absurd (show false=true from hs) Ñ
 | bl i =>
  cases rx;cases y with
  | ą=>cases ry;exact PySem.EqNone.eq_bool_none (aW I q (by simp))
  | bl j=>cases ry;exact eq_bool (aW I q rL)
  | str j=>obtain⟨t',rfl⟩:=ry;exact PySem.EqMixed.eq_bool_str (aW I q (by simp))
  | _=>exact absurd (show false=true from hs) Ñ
 | int i =>
  obtain⟨t,rfl⟩:=rx;cases y with
  | ą=>cases ry;exact PySem.EqNone.eq_int_none (aW I q (by simp))
  | int j=>obtain⟨t',rfl⟩:=ry;exact eq_int (aW I q pM)
  | str j=>obtain⟨t',rfl⟩:=ry;exact PySem.EqMixed.eq_int_str (aW I q (by simp))
  | _=>exact absurd (show false=true from hs) Ñ
 | str i =>
  obtain⟨t,rfl⟩:=rx;cases y with
  | ą=>cases ry;exact PySem.EqNone.eq_str_none (aW I q (by simp))
  | bl j=>cases ry;exact PySem.EqMixed.eq_str_bool (aW I q (by simp))
  | int j=>obtain⟨t',rfl⟩:=ry;exact PySem.EqMixed.eq_str_int (aW I q (by simp))
  | str j=>obtain⟨t',rfl⟩:=ry;exact eq_str (aW I q oI)
  | _=>exact absurd (show false=true from hs) Ñ
 | LH i =>
  obtain⟨t,rfl⟩:=rx;cases y with
  | LH j=>obtain⟨t',rfl⟩:=ry;exact PySem.W.eq_bytes (aW I q pB)
  | _=>exact absurd (show false=true from hs) Ñ
 | _=>cases y <;> exact absurd (show false=true from hs) Ñ
theorem iZ:ia X (compareOp .NotEq) Fy:=by
 intro Ä s σ H x y v u Q I rx ry h;obtain⟨hs,q⟩:=h;cases x with
 | ą =>
  cases rx;cases y with
  | ą=>cases ry;exact PySem.EqNone.ne_none_none (aW I q (by simp))
  | bl j=>cases ry;exact PySem.EqNone.ne_none_bool (aW I q (by simp))
  | int j=>obtain⟨t',rfl⟩:=ry;exact PySem.EqNone.ne_none_int (aW I q (by simp))
  | str j=>obtain⟨t',rfl⟩:=ry;exact PySem.EqNone.ne_none_str (aW I q (by simp))
  | _=>exact absurd (show false=true from hs) Ñ
 | bl i =>
  cases rx;cases y with
  | ą=>cases ry;exact PySem.EqNone.ne_bool_none (aW I q (by simp))
  | bl j=>cases ry;exact ne_bool (aW I q (Ĕ not rL))
  | str j=>obtain⟨t',rfl⟩:=ry;exact PySem.EqMixed.ne_bool_str (aW I q (by simp))
  | _=>exact absurd (show false=true from hs) Ñ
 | int i =>
  obtain⟨t,rfl⟩:=rx;cases y with
  | ą=>cases ry;exact PySem.EqNone.ne_int_none (aW I q (by simp))
  | int j=>obtain⟨t',rfl⟩:=ry;exact ne_int (aW I q (Ĕ not pM))
  | str j=>obtain⟨t',rfl⟩:=ry;exact PySem.EqMixed.ne_int_str (aW I q (by simp))
  | _=>exact absurd (show false=true from hs) Ñ
 | str i =>
  obtain⟨t,rfl⟩:=rx;cases y with
  | ą=>cases ry;exact PySem.EqNone.ne_str_none (aW I q (by simp))
  | bl j=>cases ry;exact PySem.EqMixed.ne_str_bool (aW I q (by simp))
  | int j=>obtain⟨t',rfl⟩:=ry;exact PySem.EqMixed.ne_str_int (aW I q (by simp))
  | str j=>obtain⟨t',rfl⟩:=ry;exact ne_str (aW I q (Ĕ not oI))
  | _=>exact absurd (show false=true from hs) Ñ
 | LH i =>
  obtain⟨t,rfl⟩:=rx;cases y with
  | LH j=>obtain⟨t',rfl⟩:=ry;exact PySem.W.ne_bytes (aW I q (Ĕ not pB))
  | _=>exact absurd (show false=true from hs) Ñ
 | _=>cases y <;> exact absurd (show false=true from hs) Ñ
theorem pD:ia X (compareOp .Lt) (dH λ i j=>.bl (decide (i<j))):=uw λ _ _ _ _ _ _ _ q=>lt_int q
theorem wB:ia X (compareOp .LtE) (dH λ i j=>.bl (decide (i<=j))):=uw λ _ _ _ _ _ _ _ q=>le_int q
theorem hI:ia X (compareOp .Gt) (dH λ i j=>.bl (decide (j<i))):=uw λ _ _ _ _ _ _ _ q=>gt_int q
theorem v6:ia X (compareOp .GtE) (dH λ i j=>.bl (decide (j<=i))):=uw λ _ _ _ _ _ _ _ q=>ge_int q
theorem aC (b:Expr)(h:op ≠ .In:=by decide)(h2:op ≠ .NotIn:=by decide):behindInMarks op b=false:=by
 have e1:(op==CmpOp.In)=false:=by cases op <;> first | rfl | exact absurd rfl h
 have e2:(op==CmpOp.NotIn)=false:=by cases op <;> first | rfl | exact absurd rfl h2
 cases b <;> simp [behindInMarks,e1,e2]
theorem dw {op:CmpOp}{r:R2}(ho:ia X (compareOp op) r)(ha:PE X a ta)(hb:PE X b tb)(hm:behindInMarks op b=false):PE X (.Compare a [op] [b] ø) (aS r ta tb):=by
 intro Ä s σ H Q I h;exact wpAny_Compare1 (As ha hb I h λ v u s2 x y H2 I2 rx ry q=>ho Ä s2 σ H2 x y v u Q I2 rx ry q) hm
def BG (t:TE):TT:=λ σ H Q=>t σ H λ x H'=>∃ k,x=.bl k/\Q k H'
theorem aB (ho:ia X (compareOp op) r)(ha:PE X a ta)(hb:PE X b tb)(hm:behindInMarks op b=false):PT X (.Compare a [op] [b] ø) (BG (aS r ta tb)):=by
 intro Ä s σ H Q I h;refine wpAny_isTrue_Compare1 (aV (ha Ä s σ H _ I h) λ v s1 ⟨x,H1,I1,r1,q1⟩=>aV (hb Ä s1 σ H1 _ I1 q1) λ u s2 ⟨y,H2,I2,r2,q2⟩ =>
  aV (ho Ä s2 σ H2 x y v u _ I2 r1 r2 q2) λ c s3 ⟨z,H3,I3,r3,k,e,q3⟩=>?_) hm
 subst e;cases r3;exact Ŋ ⟨H3,I3,q3⟩
theorem ix:(sizeLine:Nat)<2^63:=by rw [Ô];decide
theorem dO (r:Vals [x] us):∃ u,us=[u]/\RelV x u:=by
 cases r with
 | cons r1 r2=>cases r2;exact⟨_,rfl,r1⟩
theorem iL (r:Vals [x,y] us):∃ u w',us=[u,w']/\RelV x u/\RelV y w':=by
 cases r with
 | cons r1 r2 =>
  cases r2 with
  | cons r3 r4=>cases r4;exact⟨_,_,rfl,r1,r3⟩
theorem qG (hc:X.calm=true):cQ X (.builtin "max") (λ xs H Q=>∃ i j,xs=[.int i,.int j]/\Q (.int (if j>i then j else i)) H):=by
 intro Ä s σ H xs us Q I r h;obtain⟨i,j,rfl,q⟩:=h;obtain⟨u,w',rfl,⟨t,rfl⟩,⟨t',rfl⟩⟩:=iL r;refine max_two_ints (I.ok.hd hc) λ h' tk k=>⟨_,H,I.kept k,?_,q⟩;by_cases hj:j>i
 ·rw [â hj,â hj];exact⟨_,rfl⟩
 ·rw [Ü hj,Ü hj];exact⟨_,rfl⟩
theorem qA (hc:X.calm=true):cQ X (.builtin "min") (λ xs H Q=>∃ i j,xs=[.int i,.int j]/\Q (.int (if j<i then j else i)) H):=by
 intro Ä s σ H xs us Q I r h;obtain⟨i,j,rfl,q⟩:=h;obtain⟨u,w',rfl,⟨t,rfl⟩,⟨t',rfl⟩⟩:=iL r;refine min_two_ints (I.ok.hd hc) λ h' tk k=>⟨_,H,I.kept k,?_,q⟩;by_cases hj:j<i
 ·rw [â hj,â hj];exact⟨_,rfl⟩
 ·rw [Ü hj,Ü hj];exact⟨_,rfl⟩
theorem jD:cQ X (.type "int") (λ xs H Q=>(∃ i,xs=[.int i]/\Q (.int i) H)\/∃ k,xs=[.bl k]/\Q (.int (if k then 1 else 0)) H):=by
 intro Ä s σ H xs us Q I r h;rcases h with⟨i,rfl,q⟩ | ⟨k,rfl,q⟩
 ·obtain⟨u,rfl,t,rfl⟩:=dO r;exact call_int_int ⟨.int i,H,I,⟨_,rfl⟩,q⟩
 ·obtain⟨u,rfl,r1⟩:=dO r;cases r1;exact call_int_bool ⟨.int (if k then 1 else 0),H,I.tok _,⟨_,rfl⟩,q⟩
end
structure KF (h:Heap)(x dx C:Addr)(mA:bL):Prop where
 obj:h.get? x=some (PySem.W.instObj C dx)
 ns:h.Ns1 dx mA
 ne:dx≠x
theorem jr {h:Heap}{dx:Addr}{mA:bL}(n:h.Ns1 dx mA):∃ od,h.get? dx=some od/\∀ name,PySem.W.lookIn name od=some (mA name):=by
 obtain⟨o,es,ep,ho,hd,hk,_,hm⟩:=n;refine⟨o,ho,λ name=>?_⟩;have e:=hm name;unfold nsFind findBy at e;rw [<- Array.find?_toList] at e;unfold PySem.W.lookIn;rw [hd]
 dsimp only
 split
 ·rename_i y q
  rw [q] at e;exact Ĕ some e
 ·rename_i q
  rw [q] at e;have a:es.toList.any (·.refKey)=false:=by
   rw [List.any_eq_false];intro y hy;obtain⟨z,t,SN⟩:=hk y (Array.mem_toList_iff.mp hy);simp [DictEntry.refKey,SN]
  have a':¬ es.toList.any (·.refKey)=true:=by rw [a];exact Ñ
  rw [Ü a'];exact Ĕ some e
theorem KF.look (I:KF h x dx C mA):∃ od,PySem.W.InstAt h x (PySem.W.instObj C dx) C (some od)/\∀ name,PySem.W.lookIn name od=some (mA name) :=
 let ⟨od,ho,hl⟩:=jr I.ns
 ⟨od,⟨I.obj,rfl,rfl,ho⟩,hl⟩
section
variable {prog:Program}{w:World}{A:Around}{E:eH}{s:Shared}{K:PySem.W.Frag}{x dx C f:Addr}{mA:bL}{name:Str}{v:Value}
theorem uk (X:K.In s.heap)(I:KF s.heap x dx C mA)(hg:PySem.W.plainGet K C name=true)(hh:PySem.W.hasDictIn K C=true)
  (ha:PySem.W.findIn K (.ref C) name=some none)(hv:mA name=some v)(OX:PySem.W.handedIn v=true)(h:Q v { s with toks:=s.toks+1 }) :
  wpAny (model prog w) A (getAttr (.ref x) name expr) Q E s:=by
 obtain⟨od,J,hl⟩:=I.look;exact PySem.W.get_value X J (B_ hg).1 (PySem.W.findObj_own hh ha rfl (by rw [hl,hv])) OX h
theorem ss (X:K.In s.heap)(I:KF s.heap x dx C mA)(hg:PySem.W.plainGet K C name=true)
  (hf:PySem.W.findIn K (.ref C) name=some (some (.ref f)))(ht:PySem.W.isFn K (.ref f)=true)(hv:mA name=none)(h:Q (.ref f,[.ref x]) s) :
  wpAny (model prog w) A (getMethod (.ref x) name pl) Q E s:=by
 obtain⟨od,J,hl⟩:=I.look;exact PySem.W.method_fn X J (B_ hg).1 (B_ hg).2 hf (Ā.mp ht) (by show(PySem.W.lookIn name od).map (·.isSome)=some false;rw [hl,hv];rfl) h
theorem ul (X:K.In s.heap)(I:KF s.heap x dx C mA)
  (hs:PySem.W.findIn K (.ref C) "__setattr__" = some (some (.builtin "object.__setattr__")))(hp:PySem.W.plainOver K C=true)(ht:PySem.W.takerIn K C name=some none)(hh:PySem.W.hasDictIn K C=true)
  (hw:PySem.Within mA ns)(Sz:ns.length<=sizeLine)
  (h:∀ h',KF h' x dx C (λ y=>if y=name then some v else mA y)->Heap.SameBut dx s.heap h'->Q () { s with heap:=h',toks:=s.toks+2 }) :
  wpAny (model prog w) A (setAttr (.ref x) name v) Q E s:=by
 obtain⟨od,J,hl⟩:=I.look;refine PySem.W.set_plain X J hs (PySem.W.osa_open X J hp ht λ b=>?_);obtain⟨cd,hc,NM⟩:=PySem.W.any_some hh;have hx:=I.obj;refine À (È (À (À (wpAny_loadPart hx (À (PySem.W.Looks.here (PySem.W.looks_clsIn X hc) ?_))))));rw [NM];refine È (À (È (À ?_)));refine wpAny_nsSet1 I.ns λ h' Q9 Uh=>?_;obtain⟨oD,Zw,Zy,Qf,S0,Mo⟩:=Q9.count (PySem.Within.cons name v hw);refine À (wpAny_lookBehind Qf (by rw [S0];exact pastItsLine_dict (ð Mo (by rw [û];omega))) ?_)
 exact È (h _ ⟨(Uh.2 _ (Ne.symm I.ne)).trans I.obj,Q9,I.ne⟩ Uh)
theorem sF (X:K.In s.heap)(hm:PySem.W.makesIn K C=true)
  (hi:PySem.W.findIn K (.ref C) "__init__" = some (some (.ref f)))(hf:PySem.W.typeIn K (.ref f)=some (.type "function"))
  (h:codeAny (model prog w) (A.under (.builtin "type.__call__" ⟨.ref C::vs,kw⟩)) (.call (.ref f) ⟨.ref (s.heap.objs.size+1)::vs,kw⟩) (PySem.W.InitBack (s.heap.objs.size+1) R)
   { s with heap:=(s.heap.push PySem.W.emptyDict).push (PySem.W.instObj C s.heap.objs.size) }) :
  codeAny (model prog w) A (.call (.ref C) ⟨vs,kw⟩) R s:=by
 obtain⟨hh,g,d,t,os⟩:=s;exact PySem.W.make_core (PySem.W.makes_of X hm) (PySem.W.looks_findIn X hi) (λ self=>PySem.W.bind_fn X self hf) (.inl rfl) h
end
def bJ (f:Str)(v:V):List (Str × V)->List (Str × V)
 | []=>[(f,v)]
 | (g,x)::r=>if g=f then(g,v)::r else(g,x)::bJ f v r
theorem fK (f g:Str)(v:V):∀ fs:List (Str × V),(bJ f v fs).lookup g=if g=f then some v else fs.lookup g
 | []=>by
  show List.lookup g [(f,v)]=_;by_cases h:g=f
  ·have hb:=Ā.mpr h;simp only [List.lookup,hb,if_pos h]
  ·have hb:=ã.mpr h;simp only [List.lookup,hb,if_neg h]
 | (k,x)::r=>by
  have ih:=fK f g v r;rw [show bJ f v ((k,x)::r)=(if k=f then(k,v)::r else(k,x)::bJ f v r) from rfl]
  by_cases hk:k=f
  ·rw [â hk];by_cases h:g=k
   ·have hb:=Ā.mpr h;simp only [List.lookup,hb,if_pos (h.trans hk)]
   ·have hb:=ã.mpr h;simp only [List.lookup,hb,if_neg (λ e:g=f=>h (e.trans hk.symm))]
  ·rw [Ü hk];by_cases h:g=k
   ·have hb:=Ā.mpr h;simp only [List.lookup,hb,if_neg (λ e:g=f=>hk (h.symm.trans e))]
   ·have hb:=ã.mpr h;simp only [List.lookup,hb];exact ih
theorem gT (f:Str)(v:V):∀ fs:List (Str × V),f∈(bJ f v fs).map (·.1)/\∀ g,g∈fs.map (·.1)->g∈(bJ f v fs).map (·.1)
 | []=>⟨by simp [bJ],λ g h=>by simp at h⟩
 | (k,x)::r=>by
  obtain⟨i1,i2⟩:=gT f v r;rw [show bJ f v ((k,x)::r)=(if k=f then(k,v)::r else(k,x)::bJ f v r) from rfl]
  by_cases hk:k=f
  ·rw [â hk];subst hk;exact⟨by simp,λ g h=>by simpa using h⟩
  ·rw [Ü hk];refine⟨?_,λ g h=>?_⟩
   ·rw [ë];exact Ø _ i1
   ·rw [ë] at h ⊢;rcases á.mp h with e | e
    ·exact á.mpr (.inl e)
    ·exact Ø _ (i2 g e)
theorem hV (f:Str)(v:V):∀ fs:List (Str × V),(bJ f v fs).length<=fs.length+1
 | []=>by simp [bJ]
 | (k,x)::r=>by
  have ih:=hV f v r;rw [show bJ f v ((k,x)::r)=(if k=f then(k,v)::r else(k,x)::bJ f v r) from rfl]
  by_cases hk:k=f
  ·rw [â hk,û,û];omega
  ·rw [Ü hk,û,û];omega
theorem ε.some_of (r:ε (some v) o):∃ u,o=some u/\RelV v u:=by
 cases o with
 | none=>exact(show False from r).elim
 | some u=>exact⟨u,rfl,r⟩
theorem ε.none_of (r:ε none o):o=none:=by
 cases o with
 | none=>rfl
 | some u=>exact(show False from r).elim
theorem qg (r:RelV v u):PySem.W.handedIn u=true:=by
 cases v with
 | ą=>cases (show u=.none from r);rfl
 | bl b=>cases (show u=Value.bool b from r);rfl
 | int i=>obtain⟨t,e⟩:=(show ∃ t,u=.int i t from r);cases e;rfl
 | str x=>obtain⟨t,e⟩:=(show ∃ t,u=.str x t from r);cases e;rfl
 | LH b=>obtain⟨t,e⟩:=(show ∃ t,u=Value.bytes b t from r);cases e;rfl
 | MN b=>obtain⟨t,e⟩:=(show ∃ t,u=Value.float b t from r);cases e;rfl
 | ref a=>cases (show u=.ref a from r);rfl
 | ty n=>cases (show u=Value.type n from r);rfl
section
variable {P:Program}{w:World}{H H':Hp}{h h':Heap}{a C dx:Addr}{fs Zj:List (Str × V)}
theorem gn (Đ:Ι P w H h)(e:H a=some (.ins C dx fs)):∃ mA,KF h a dx C mA/\(∀ f,ε (fs.lookup f) (mA f))/\PySem.Within mA (fs.map (·.1))/\fs.length<=1000/\H dx=some (.own a):=by
 obtain⟨d,z,ne,ob,mA,n,r,q⟩:=(show þ P w H h a (.ins C dx fs) from Đ a _ e);exact⟨mA,⟨ob,n,ne⟩,r,q,z,d⟩
end
structure Lx (K:PySem.W.Frag)(C:Addr):Prop where
 pg:PySem.W.plainGet K C Str.empty=true
 hd:PySem.W.hasDictIn K C=true
 po:PySem.W.plainOver K C=true
 sa:PySem.W.findIn K (.ref C) "__setattr__" = some (some (.builtin "object.__setattr__"))
theorem Lx.get {K:PySem.W.Frag}{C:Addr}(c:Lx K C)(f:Str):PySem.W.plainGet K C f=true:=c.pg
def Ũ (K:PySem.W.Frag)(C:Addr)(f:Str):Prop:=PySem.W.findIn K (.ref C) f=some none
theorem Ũ.Pi {K:PySem.W.Frag}{C:Addr}{f:Str}(n:Ũ K C f):PySem.W.takerIn K C f=some none:=by
 unfold PySem.W.takerIn;rw [show PySem.W.findIn K (.ref C) f=some none from n];rfl
structure CV (K:PySem.W.Frag)(C:Addr)(m:Str)(f:Addr):Prop where
 at_:PySem.W.findIn K (.ref C) m=some (some (.ref f))
 fn:PySem.W.isFn K (.ref f)=true
 kp:PySem.W.keepIn K (.ref f)=true
section
variable {X:Cx}{Ä:List (Addr × Obj)}{σ:St}{H:Hp}{s:Shared}{a C dx:Addr}{fs:List (Str × V)}{f:Str}{v:V}{A:Around}{E:eH}
theorem oG (I:Inv X Ä σ H s)(e:H a=some (.ins C dx fs))(c:Lx X.K C)(n:Ũ X.K C f)(l:fs.lookup f=some v)
  (h:∀ u s',Inv X Ä σ H s'->RelV v u->Q u s'):wpAny (model X.prog X.w) A (getAttr (.ref a) f b) Q E s:=by
 obtain⟨mA,O,r,_,_,_⟩:=gn I.Đ e;obtain⟨u,hu,ru⟩:=ε.some_of (by rw [<- l];exact r f)
 exact uk I.Ō O (c.get f) c.hd n hu (qg ru) (h u _ (I.tok _) ru)
theorem iB (I:Inv X Ä σ H s)(e:H a=some (.ins C dx fs))(c:Lx X.K C)(k:CV X.K C m g)(l:fs.lookup m=none)
  (h:Q (.ref g,[.ref a]) s):wpAny (model X.prog X.w) A (getMethod (.ref a) m pl) Q E s:=by
 obtain⟨mA,O,r,_,_,_⟩:=gn I.Đ e;have hn:=ε.none_of (by rw [<- l];exact r m)
 exact ss I.Ō O (c.get m) k.at_ k.fn hn h
theorem nO (I:Inv X Ä σ H s)(e:H a=some (.ins C dx fs))(c:Lx X.K C)(n:Ũ X.K C f)(hl:fs.length<1000)(ry:RelV y u)
  (h:∀ s',Inv X Ä σ (af H a (.ins C dx (bJ f y fs))) s'->Q () s'):wpAny (model X.prog X.w) A (setAttr (.ref a) f u) Q E s:=by
 obtain⟨mA,O,r,wi,_,ho⟩:=gn I.Đ e;have hz:(fs.map (·.1)).length<=sizeLine:=by rw [Ã,Ô];omega
 refine ul I.Ō O c.sa c.po n.Pi c.hd wi hz λ h' O' sb=>h _ ?_;have hd:∃ o,h'.get? dx=some o:=let ⟨o,_,_,e',_⟩:=O'.ns;⟨o,e'⟩
 refine I.write (by rw [e];exact True.intro) (.inr ho) (λ b q hb z=>(sb.2 b hb).trans z) hd ?_
 refine⟨by rw [ah O.ne];exact ho,?_,O.ne,O'.obj,_,O'.ns,λ g=>?_,λ g hg=>?_⟩
 ·have:=hV f y fs;omega
 ·rw [fK];by_cases q:g=f
  ·rw [â q,â q];exact ry
  ·rw [Ü q,Ü q];exact r g
 ·by_cases q:g=f
  ·rw [q];exact(gT f y fs).1
  ·refine(gT f y fs).2 g (wi g λ z=>hg ?_);show(if g=f then some u else mA g)=none
   rw [Ü q];exact z
theorem Inv.made (I:Inv X Ä σ H s):Inv X Ä σ (af (af H s.heap.objs.size (.own (s.heap.objs.size+1))) (s.heap.objs.size+1) (.ins C s.heap.objs.size []))
  { s with heap:=(s.heap.push PySem.W.emptyDict).push (PySem.W.instObj C s.heap.objs.size) }:=by
 have e1:(s.heap.push PySem.W.emptyDict).get? s.heap.objs.size=some PySem.W.emptyDict:=Ò s.heap rfl;have e2:((s.heap.push PySem.W.emptyDict).push (PySem.W.instObj C s.heap.objs.size)).get? (s.heap.objs.size+1)=some (PySem.W.instObj C s.heap.objs.size):=by
  have:=Ò (s.heap.push PySem.W.emptyDict) (o:=PySem.W.instObj C s.heap.objs.size) rfl
  rwa [ñ] at this
 have e3:(s.heap.push PySem.W.emptyDict).Ns s.heap.objs.size (λ _=>none):=⟨PySem.W.emptyDict,#[],_,e1,rfl,(λ e he=>absurd he (by simp)),λ _=>rfl⟩
 have I1:=I.laid (a:=s.heap.objs.size) (o:=.own (s.heap.objs.size+1)) (t':=s.toks) (λ b u q=>Â _ q) (Ç _) ⟨_,e1⟩;refine I1.laid (λ b u q=>Â _ q) (ι (ñ _ _)) ?_;have ne:s.heap.objs.size≠s.heap.objs.size+1:=Ð (Kp _);refine⟨by rw [ah ne,aO],ģ _,ne,e2,λ _=>none,(Heap.Ns1.of_empty e3).at λ o q=>Â _ q,λ _=>True.intro,λ y hy=>absurd rfl hy⟩
theorem uK (hb:attributeBase e f env (eval e env)=eval e env)
  (h:wpAny (model prog w) A (eval e env) (λ o Ĉ=>wpAny (model prog w) A (getAttr o f true) Q E Ĉ) E s):wpAny (model prog w) A (eval (.Attribute e f ø) env) Q E s :=
 Attribute_any_ h (by rw [arm_eval_Attribute,hb])
end
def sg (K:PySem.W.Frag)(ta:TE)(f:Str):TE:=λ σ H Q=>ta σ H λ x H1=>∃ a C dx fs v,x=.ref a/\H1 a=some (.ins C dx fs)/\Lx K C/\Ũ K C f/\fs.lookup f=some v/\Q v H1
def DV (K:PySem.W.Frag)(ta tv:TE)(f:Str):TS:=λ D σ H=>tv σ H λ y H1=>ta σ H1 λ x H2=>∃ a C dx fs,x=.ref a/\H2 a=some (.ins C dx fs)/\Lx K C/\Ũ K C f/\fs.length<1000 /\
 D.nx σ (af H2 a (.ins C dx (bJ f y fs)))
section
variable {X:Cx}{o e value:Expr}{f:Str}{ø pos' Ph:Pos}{ta tv:TE}
theorem mP (he:PE X e ta)(hb:attributeBase e f X.env (eval e X.env)=eval e X.env):PE X (.Attribute e f ø) (sg X.K ta f):=by
 intro Ä s σ H Q I h;refine uK hb (aV (he Ä s σ H _ I h) λ u s1 ⟨x,H1,I1,rx,a,C,dx,fs,v,ex,ea,c,n,l,q⟩=>?_);subst ex;obtain rfl:u=.ref a:=rx;exact oG I1 ea c n l λ u' s2 I2 ru=>⟨v,H1,I2,ru,q⟩
theorem cS (ha:PE X o ta)(hv:PE X value tv)(hs:swapsWith value (some (.Attribute o f pos')) ø.line X.env=pure false):PS X (.Assign [.Attribute o f pos'] value ø) (DV X.K ta tv f):=by
 intro Ä s σ H D I h;refine MF (aV (hv Ä s σ H _ I h) λ u s1 ⟨y,H1,I1,ry,q⟩=>aV (ha Ä s1 σ H1 _ I1 q) λ ov s2 ⟨x,H2,I2,rx,a,C,dx,fs,ex,ea,c,n,l,q2⟩=>?_) hs;subst ex;obtain rfl:ov=.ref a:=rx;exact nO I2 ea c n l ry λ s3 I3=>⟨σ,_,I3,q2⟩
end
section
variable {X:Cx}{Ä:List (Addr × Obj)}{σ:St}{H:Hp}{s:Shared}{A:Around}{E:eH}{Q:eH}{c:Value}{b:Bool}
inductive ŕ (K:PySem.W.Frag)(H:Hp):V->Value->Prop where
 | ą:ŕ K H .ą (.type "NoneType")
 | bl (x:Bool):ŕ K H (.bl x) (.type "bool")
 | int (i:Int):ŕ K H (.int i) (.type "int")
 | str (x:Str):ŕ K H (.str x) (.type "str")
 | MN (x:UInt64):ŕ K H (.MN x) (.type "float")
 | lst {a:Addr}{xs:List V}(e:H a=some (.lst xs)):ŕ K H (.ref a) (.type "list")
 | J5 {a:Addr}{o:Obj}{xs:List V}(e:H a=some (.J5 o (.lst xs))):ŕ K H (.ref a) (.type "list")
 | tup {a:Addr}{xs:List V}(e:H a=some (.tup xs)):ŕ K H (.ref a) (.type "tuple")
 | dK {a:Addr}{Ě:List (Key × V)}(e:H a=some (.dK Ě)):ŕ K H (.ref a) (.type "dict")
 | dT {a:Addr}{Ě:List (List Key × V)}(e:H a=some (.dT Ě)):ŕ K H (.ref a) (.type "dict")
 | ins {a C dx:Addr}{fs:List (Str × V)}(e:H a=some (.ins C dx fs))(cl:Lx K C)(ha:PySem.W.findIn K (.ref C) "__class__" = some (some (.builtin "object.__class__")))
   (hn:PySem.W.specialIn K (.builtin "object.__class__") "__get__" = some (some (.builtin "getset_descriptor.__get__")))(Kg:PySem.W.takesIn K (.builtin "object.__class__")=some true)
   (hm:PySem.W.mroIn K C (.type "object")=some true):ŕ K H (.ref a) (.ref C)
theorem jq (I:Inv X Ä σ H s)(rx:RelV x u)(ty:ŕ X.K H x t)(e:PySem.W.kitOne X.K t c=some b)(h:∀ tk,Q (.bool b) { s with toks:=tk }) :
  wpAny (model X.prog X.w) A (call (.builtin "isinstance") [u,c]) Q E s:=by
 cases ty with
 | ą=>cases (show u=.none from rx);exact ċ PySem.W.kitx_none I.Ō True.intro e (λ z=>nomatch z) h
 | bl y=>cases (show u=Value.bool y from rx);exact ċ PySem.W.kitx_bool I.Ō True.intro e (λ z=>nomatch z) h
 | int i=>obtain⟨t,q⟩:=(show ∃ t,u=.int i t from rx);cases q;exact ċ PySem.W.kitx_int I.Ō True.intro e (λ z=>nomatch z) h
 | str y=>obtain⟨t,q⟩:=(show ∃ t,u=.str y t from rx);cases q;exact ċ PySem.W.kitx_str I.Ō True.intro e (λ z=>nomatch z) h
 | MN y=>obtain⟨t,q⟩:=(show ∃ t,u=Value.float y t from rx);cases q;exact ċ PySem.W.kitx_float I.Ō True.intro e (λ z=>nomatch z) h
 | @lst a xs ea =>
  cases (show u=.ref a from rx);obtain⟨_,_,n,_,h1⟩:=(show þ X.prog X.w H s.heap a (.lst xs) from I.Đ a _ ea);exact ċ Μ I.Ō ⟨_,h1,rfl⟩ e (λ z=>nomatch z) h
 | @J5 a ob xs ea =>
  cases (show u=.ref a from rx);obtain⟨_,_,_,n,_,h1⟩:=(show þ X.prog X.w H s.heap a (.J5 ob (.lst xs)) from I.Đ a _ ea);exact ċ Μ I.Ō ⟨_,h1,rfl⟩ e (λ z=>nomatch z) h
 | @tup a xs ea =>
  cases (show u=.ref a from rx);obtain⟨_,_,_,p⟩:=(show þ X.prog X.w H s.heap a (.tup xs) from I.Đ a _ ea);obtain⟨o,h1,h2,_⟩:=p;exact ċ PySem.W.kitx_tuple I.Ō ⟨o,h1,h2⟩ e (λ z=>nomatch z) h
 | @dK a Ě ea =>
  cases (show u=.ref a from rx);obtain⟨_,_,vs,_,p⟩:=(show þ X.prog X.w H s.heap a (.dK Ě) from I.Đ a _ ea);obtain⟨o,es,ep,h1,h2,_⟩:=p;exact ċ Ν I.Ō ⟨o,h1,h2.1⟩ e (λ z=>nomatch z) h
 | @dT a Ě ea =>
  cases (show u=.ref a from rx);obtain⟨_,_,xs,_,o,es,ep,h1,h2,_⟩:=(show þ X.prog X.w H s.heap a (.dT Ě) from I.Đ a _ ea);exact ċ Ν I.Ō ⟨o,h1,h2.1⟩ e (λ z=>nomatch z) h
 | @ins a C dx fs ea cl ha hn Kg hm =>
  cases (show u=.ref a from rx);obtain⟨mA,O,_⟩:=gn I.Đ ea;obtain⟨od,J,_⟩:=O.look;exact ċ (PySem.W.kitx_own (cl.get _) cl.hd ha hn Kg hm) I.Ō J e (λ z=>nomatch z) h
end
structure ó (k:Nat)(A:Around):Prop where
 hd:A.handled=none
 dp:A.depth+3*k+5<recursionLimit
 un:A.units+16*k+200<cLine
 gd:A.guards=some []
theorem ó.mono (r:ó k A)(h:j<=k):ó j A:=⟨r.hd,by have:=r.dp;omega,by have:=r.un;omega,r.gd⟩
theorem ó.deeper (r:ó (k+1) A)(env:Env):ó k (A.deeper env) :=
 ⟨r.hd,by have:=r.dp;show A.depth+1+3*k+5<_;omega,by have:=r.un;show A.units+3+16*k+200<_;omega,r.gd⟩
theorem oB {A:Around}{C:Addr}{us:List Value}{kw:List (Str × Value)}:(A.under (.builtin "type.__call__" ⟨.ref C::us,kw⟩)).depth=A.depth+1:=by
 first | rfl | simp [Around.under,Code.weight,Code.isCreation,Code.isGuard,Code.isCaller,Code.frames,Code.isFrame,guardIds]
theorem og {A:Around}{C:Addr}{us:List Value}{kw:List (Str × Value)}:(A.under (.builtin "type.__call__" ⟨.ref C::us,kw⟩)).units=A.units+1:=by
 first | rfl | simp [Around.under,Code.cUnits,Code.frames,Code.isFrame]
theorem ó.make (r:ó (k+1) A)(C:Addr)(us:List Value)(kw:List (Str × Value)):ó k (A.under (.builtin "type.__call__" ⟨.ref C::us,kw⟩)) :=
 ⟨r.hd,by have:=r.dp;rw [oB];omega,by have:=r.un;rw [og];omega,by have h:=r.gd;first | (simp only [Around.under];rw [h];rfl) | simp [Around.under,h,pushGuards,Code.guards,Code.isGuard,guardIds]⟩
theorem ó.depth (r:ó k A):A.depth<recursionLimit:=by have:=r.dp;omega
theorem ó.units (r:ó k A):A.units+64<cLine:=by have:=r.un;omega
theorem ó.JM (r:ó k A):A.units<cLine:=by have:=r.un;omega
def aJ:TA:=λ _ H Q=>Q [] H
def av (ta:TE)(tr:TA):TA:=λ σ H Q=>ta σ H λ x H1=>tr σ H1 λ xs H2=>Q (x::xs) H2
section
variable {X:Cx}{e:Expr}{es:List Expr}{te:TE}{t:TA}{ø:Pos}
theorem au:PA X [] aJ:=λ _ _ _ _ H Q I h=>Calls.spliced_nil ⟨[],H,I,.nil,h⟩
theorem ac (ha:PE X e te)(hr:PA X es t)(hs:starEach (e::es) X.env=(false,eval e X.env)::starEach es X.env:=by rfl):PA X (e::es) (av te t):=by
 intro ø Ä s σ H Q I h;rw [hs];refine Calls.spliced_cons (aV (ha Ä s σ H _ I h) λ u s1 ⟨x,H1,I1,r1,q1⟩=>?_);exact aV (hr ø Ä s1 σ H1 _ I1 q1) λ us s2 ⟨xs,H2,I2,r2,q2⟩=>⟨x::xs,H2,I2,.cons r1 r2,q2⟩
def iE (t:TA):TE:=λ σ H Q=>t σ H λ xs H1=>xs.length<=sizeLine/\∀ p,H1 p=none->Q (.ref p) (af H1 p (.tup xs))
def bV (t:TA):TE:=λ σ H Q=>t σ H λ xs H1=>xs.length<=sizeLine/\∀ p,H1 p=none->Q (.ref p) (af H1 p (.lst xs))
theorem bK {x1}(h:PA X es t):PE X (.Tuple es x1 ø) (iE t):=by
 intro Ä s σ H Q I hq;refine wpAny_Tuple_spliced (aV (h ø Ä s σ H _ I hq) λ us s1 ⟨xs,H1,I1,r,z,q⟩=>⟨by rw [<- r.length];exact z,?_⟩)
 have hf:=I1.Đ.fresh (Ç _);refine⟨.ref s1.heap.objs.size,af H1 s1.heap.objs.size (.tup xs),I1.laid (λ b u e=>Â _ e) (Ç _) ?_,rfl,q _ hf⟩;exact⟨z,us,r,⟨_,Ò _ rfl,rfl,_,rfl⟩⟩
theorem bT (h:PA X es t):PE X (.List es ø) (bV t):=by
 intro Ä s σ H Q I hq;refine wpAny_List_spliced (aV (h ø Ä s σ H _ I hq) λ us s1 ⟨xs,H1,I1,r,z,q⟩=>⟨by rw [<- r.length];exact z,?_⟩)
 have hf:=I1.Đ.fresh (Ç _);refine⟨.ref s1.heap.objs.size,af H1 s1.heap.objs.size (.lst xs),I1.laid (λ b u e=>Â _ e) (Ç _) ?_,rfl,q _ hf⟩;exact⟨z,us,0,r,Ò _ rfl⟩
end
abbrev Sp:=List V->Hp->VK->XK->Prop
abbrev kD:=List Env->Hp->Shared->XK->Value->Shared->Prop
structure KH (P:Program)(w:World)(K:PySem.W.Frag)(mg:bL)(base:Heap)(A:Around)(outer:List Env)(s:Shared)(H:Hp):Prop where
 frames:A.frames=some outer
 mod:Mod K mg base
 bs:∀ b o,base.get? b=some o->s.heap.get? b=some o/\H b=none
 Mz:base.objs.size<=s.heap.objs.size
 i_:s.heap.FunFrames base outer
 Ox:∀ b∈kC outer,H b=none
 Đ:Ι P w H s.heap
 bare:AllBare s.gens
def CE (outer:List Env)(P:Program)(w:World)(H:Hp)(s:Shared)(Q:VK)(u:Value)(s':Shared):Prop :=
 ∃ v H',s'.os=s.os/\AllBare s'.gens/\Un (kC outer) [] H H' s.heap s'.heap/\Ι P w H' s'.heap/\RelV v u/\Q v H'
def CR (CX:kD)(outer:List Env)(P:Program)(w:World)(H:Hp)(s:Shared)(Q:VK)(E:XK)(r:Result)(s':Shared):Prop :=
 match r with
 | .ok (.ret u)=>CE outer P w H s Q u s'
 | .ok _=>False
 | .error e=>CX outer H s E e s'
structure Þ (P:Program)(w:World)(K:PySem.W.Frag)(mg:bL)(base:Heap)(CX:kD)(k:Nat)(f:Addr)(fd:FuncData)(ps:List Str)(sp:Sp):Prop where
 len:∀ vs H Q E,sp vs H Q E->vs.length=ps.length
 run:∀(A:Around)(outer:List Env)(s:Shared)(H:Hp)(args:Args)(us:List Value)(vs:List V)(Q:VK)(E:XK),ó k A->KH P w K mg base A outer s H->BindsTo s fd args (ps.zip us)->Vals vs us->sp vs H Q E ->
  codeAny (model P w) A (.call (.ref f) args) (CR CX outer P w H s Q E) s
theorem Þ.mono {P:Program}{w:World}{K:PySem.W.Frag}{mg:bL}{base:Heap}{CX:kD}{j k:Nat}{f:Addr}{fd:FuncData}{ps:List Str}{sp:Sp}(F:Þ P w K mg base CX j f fd ps sp)(h:j<=k) :
  Þ P w K mg base CX k f fd ps sp:=⟨F.len,λ A outer s H args us vs Q E hr=>F.run A outer s H args us vs Q E (hr.mono h)⟩
theorem Þ.imp {P:Program}{w:World}{K:PySem.W.Frag}{mg:bL}{base:Heap}{CX:kD}{k:Nat}{f:Addr}{fd:FuncData}{ps:List Str}{sp TM:Sp}(F:Þ P w K mg base CX k f fd ps sp)
  (h:∀ vs H Q E,TM vs H Q E->sp vs H Q E):Þ P w K mg base CX k f fd ps TM :=
 ⟨λ vs H Q E q=>F.len vs H Q E (h _ _ _ _ q),λ A outer s H args us vs Q E hr he hb hv hs=>F.run A outer s H args us vs Q E hr he hb hv (h _ _ _ _ hs)⟩
theorem KH.make {P:Program}{w:World}{K:PySem.W.Frag}{mg:bL}{base:Heap}{A:Around}{outer:List Env}{s:Shared}{H:Hp}(e:KH P w K mg base A outer s H)(C:Addr)(us:List Value)(kw:List (Str × Value)) :
  KH P w K mg base (A.under (.builtin "type.__call__" ⟨.ref C::us,kw⟩)) outer s H:=⟨by first | exact e.frames | (simpa [Around.under,Code.envs,Code.isFrame,pushEnvs] using e.frames),e.mod,e.bs,e.Mz,e.i_,e.Ox,e.Đ,e.bare⟩
section
variable {X:Cx}{Ä:List (Addr × Obj)}{σ:St}{H:Hp}{s s':Shared}
theorem Inv.OA (I:Inv X Ä σ H s):KH X.prog X.w X.K X.mg X.base X.A X.stack s H :=
 ⟨I.ok.frames,I.ok.mod,I.bs,ð I.ok.Mz I.sz,I.stack,I.j',I.Đ,I.bare⟩
theorem Inv.after (I:Inv X Ä σ H s)(h:CE X.stack X.prog X.w H s Q u s'):EP X Ä σ Q u s':=by
 obtain⟨v,H',os,bare,un,Đ,r,q⟩:=h;obtain⟨hh,g,d,t,ł⟩:=s';obtain rfl:ł = s.os:=os;exact⟨v,H',I.call un Đ bare (λ b z=>absurd z (by simp)),r,q⟩
end
def eu (sp:Sp)(JZ:List V)(E:XK)(t:TA):TE:=λ σ H Q=>t σ H λ vs H1=>sp (vs++JZ) H1 Q E
def dC (C:Addr)(sp:Sp)(JZ:List V)(E:XK)(t:TA):TE:=λ σ H Q=>t σ H λ vs H1=>∀ x dx,H1 x=none->H1 dx=none->dx≠x ->
 sp (.ref x::(vs++JZ)) (af (af H1 dx (.own x)) x (.ins C dx [])) (λ v H2=>v=.ą/\Q (.ref x) H2) E
def Binds (K:PySem.W.Frag)(fd:FuncData)(ps:List Str)(ds:List Value):Prop :=
 ∀(s:Shared)(us:List Value),K.In s.heap->(us++ds).length=ps.length->BindsTo s fd ⟨us,[]⟩ (ps.zip (us++ds))
theorem Binds.all {K:PySem.W.Frag}{fd:FuncData}{ps:List Str}(h:∀ us:List Value,us.length=ps.length->bindArgs fd ⟨us,[]⟩=pure (ps.zip us)):Binds K fd ps []:=λ s us _ hl=>by
 rw [Ę] at hl ⊢;exact .of_eq (h us hl)
def dk (CX:kD)(X:Cx)(E:XK):Prop:=∀(Ä:List (Addr × Obj))(σ:St)(H:Hp)(s:Shared)(e:Value)(s':Shared),Inv X Ä σ H s->CX X.stack H s E e s'->X.xe e s'
section
variable {X:Cx}{CX:kD}{k:Nat}{f C:Addr}{fd:FuncData}{ps:List Str}{sp:Sp}{JZ:List V}{ds:List Value}{E:XK}{x m:Str}{p ø ũ:Pos}{e o:Expr}{es:List Expr}{ta:TE}{t:TA}
theorem jR (F:Þ X.prog X.w X.K X.mg X.base CX k f fd ps sp)(hr:ó k X.A)(hb:Binds X.K fd ps ds)(hd:Vals JZ ds)(hx:dk CX X E)
  (I:Inv X Ä σ H s)(r:Vals vs us)(h:sp (vs++JZ) H Q E):wpAny (model X.prog X.w) X.A (call (.ref f) us) (EP X Ä σ Q) X.xe s:=by
 have r2:=r.append hd;have hl:(us++ds).length=ps.length:=by rw [<- r2.length];exact F.len _ _ _ _ h
 refine Υ (ū (F.run X.A X.stack s H ⟨us,[]⟩ (us++ds) (vs++JZ) Q E hr I.OA (hb s us I.Ō hl) r2 h) λ r s' hq=>?_);cases r with
 | error e=>exact hx Ä σ H s e s' I hq
 | ok fl =>
  cases fl with
  | ret u=>exact I.after hq
  | next=>exact False.elim hq
  | brk=>exact False.elim hq
  | cont=>exact False.elim hq
theorem gG (F:Þ X.prog X.w X.K X.mg X.base CX k f fd ps sp)(hr:ó k X.A)(hg:Gl X x)(hm:X.mg x=some (.ref f))(hk:PySem.W.keepIn X.K (.ref f)=true)(hb:Binds X.K fd ps ds)(hd:Vals JZ ds)(hx:dk CX X E)
  (ha:PA X (e::es) t)(JX:(x==("__debug__" : Str))=false:=by decide)(he:starEach (e::es) X.env=(false,eval e X.env)::starEach es X.env:=by rfl) (Ρ:(backTo ø (starEach es X.env)).any (·.1)=false:=by rfl) :
  PE X (.Call (.Name x p) (e::es) [] ø) (eu sp JZ E t):=by
 intro Ä s σ H Q I h;refine Ī (ff I hg hm ?_ JX);refine Œ I.ok.mod.N' hk (aV (ha ø Ä s σ H _ I h) λ us s1 ⟨vs,H1,I1,r,q⟩=>⟨I1.Ō,?_⟩) he Ρ;exact jR F hr hb hd hx I1 r q
structure Mk (K:PySem.W.Frag)(C f:Addr):Prop where
 makes:PySem.W.makesIn K C=true
 init:PySem.W.findIn K (.ref C) "__init__" = some (some (.ref f))
 fn:PySem.W.isFn K (.ref f)=true
 kp:PySem.W.keepIn K (.ref C)=true
theorem mK (M:Mk X.K C f)(F:Þ X.prog X.w X.K X.mg X.base CX k f fd ps sp)(hr:ó (k+1) X.A)(hb:Binds X.K fd ps ds)(hd:Vals JZ ds)
  (hx:dk CX X E)(I:Inv X Ä σ H s)(r:Vals vs us)
  (h:∀ x dx,H x=none->H dx=none->dx≠x->sp (.ref x::(vs++JZ)) (af (af H dx (.own x)) x (.ins C dx [])) (λ v H2=>v=.ą/\Q (.ref x) H2) E) :
  wpAny (model X.prog X.w) X.A (call (.ref C) us) (EP X Ä σ Q) X.xe s:=by
 have hq:=h (s.heap.objs.size+1) s.heap.objs.size (I.Đ.fresh (ŭ _)) (I.Đ.fresh (Ç _)) (Ð (Kp _));have I2:=Inv.made (C:=C) I;have r2:Vals (V.ref (s.heap.objs.size+1)::(vs++JZ)) (Value.ref (s.heap.objs.size+1)::(us++ds)):=.cons rfl (r.append hd);have hl:(.ref (s.heap.objs.size+1)::us++ds).length=ps.length:=by
  have e:=r2.length;rw [F.len _ _ _ _ hq] at e;exact e.symm
 refine Υ (sF I.Ō M.makes M.init (Ā.mp M.fn) (ū (F.run _ X.stack _ _ ⟨.ref (s.heap.objs.size+1)::us,[]⟩ (.ref (s.heap.objs.size+1)::(us++ds)) _ _ E (hr.make C us [])
  (I2.OA.make C us []) (hb _ (.ref (s.heap.objs.size+1)::us) I2.Ō hl) r2 hq) λ r s' Mi=>?_))
 cases r with
 | error e=>exact hx Ä σ _ _ e s' I2 Mi
 | ok fl =>
  cases fl with
  | ret u =>
   obtain⟨v,H',I3,rv,ev,q3⟩:=I2.after Mi;subst ev;exact⟨rv,⟨.ref (s.heap.objs.size+1),H',I3,rfl,q3⟩⟩
  | next=>exact False.elim Mi
  | brk=>exact False.elim Mi
  | cont=>exact False.elim Mi
theorem dL (M:Mk X.K C f)(F:Þ X.prog X.w X.K X.mg X.base CX k f fd ps sp)(hr:ó (k+1) X.A)(hg:Gl X x)(hm:X.mg x=some (.ref C))(hb:Binds X.K fd ps ds)(hd:Vals JZ ds)(hx:dk CX X E)
  (ha:PA X (e::es) t)(JX:(x==("__debug__" : Str))=false:=by decide)(he:starEach (e::es) X.env=(false,eval e X.env)::starEach es X.env:=by rfl) (Ρ:(backTo ø (starEach es X.env)).any (·.1)=false:=by rfl) :
  PE X (.Call (.Name x p) (e::es) [] ø) (dC C sp JZ E t):=by
 intro Ä s σ H Q I h;refine Ī (ff I hg hm ?_ JX);refine Œ I.ok.mod.N' M.kp (aV (ha ø Ä s σ H _ I h) λ us s1 ⟨vs,H1,I1,r,q⟩=>⟨I1.Ō,?_⟩) he Ρ;exact mK M F hr hb hd hx I1 r q
theorem bj (M:Mk X.K C f)(F:Þ X.prog X.w X.K X.mg X.base CX k f fd ps sp)(hr:ó (k+1) X.A)(hg:Gl X x)(hm:X.mg x=some (.ref C))(hb:Binds X.K fd ps ds)(hd:Vals JZ ds)(hx:dk CX X E)
  (JX:(x==("__debug__" : Str))=false:=by decide):PE X (.Call (.Name x p) [] [] ø) (dC C sp JZ E aJ):=by
 intro Ä s σ H Q I h;refine Ī (ff I hg hm ?_ JX);exact PySem.W.callWith_K0 I.Ō M.kp (mK M F hr hb hd hx I .nil h)
end
structure ad (N P:List Str)(sc:Scope):Prop where
 kind:sc.kind=.function
 co:sc.isCoroutine=false
 gen:sc.isGenerator=false
 nd:N.Nodup
 pre:N.take P.length=P
 par:∀ x∈P,sc.names.lookup x=some .local\/sc.names.lookup x=some .cell
 Ky:∀ y∈sc.names,y.2 ≠ .free
theorem aK {N P:List Str}{sc:Scope}(a:sc.kind=.function:=by rfl)(b:sc.isCoroutine=false:=by rfl)(c:sc.isGenerator=false:=by rfl)(d:N.Nodup:=by decide +kernel)(e:N.take P.length=P:=by rfl)(f:∀ x∈P,sc.names.lookup x=some .local\/sc.names.lookup x=some .cell:=by decide +kernel)(g:∀ y∈sc.names,y.2 ≠ .free:=by decide +kernel):ad N P sc:=⟨a,b,c,d,e,f,g⟩
theorem jy {kindOf:Str->Option NameKind}{x:Str}:∀{binds:List (Str × Value)}{m:bL},(∀ v,(x,v) ∉ binds)->bindL kindOf binds m x=m x
 | [],_,_=>rfl
 | (n,v)::r,m,h=>by
  unfold bindL;rw [jy λ w hw=>h w (Ø _ hw)];split
  ·have:x≠n:=by rintro rfl;exact h v ì
   simp [this]
  ·rfl
theorem jJ {kindOf:Str->Option NameKind}{x:Str}:∀{binds:List (Str × Value)}{m:bL},(∀ v,(x,v) ∉ binds)->bindC kindOf binds m x=m x
 | [],_,_=>rfl
 | (n,v)::r,m,h=>by
  unfold bindC;rw [jJ λ w hw=>h w (Ø _ hw)];split
  ·rfl
  ·have:x≠n:=by rintro rfl;exact h v ì
   simp [this]
theorem jt {kindOf:Str->Option NameKind}{x:Str}{v:Value}:∀{P:List Str}{vs:List Value}{i:Nat}{m:bL},P.Nodup->P[i]?=some x->vs[i]?=some v->kindOf x=some .local ->
  bindL kindOf (P.zip vs) m x=some v
 | [],_,_,_,_,h,_,_=>by simp at h
 | _::_,[],_,_,_,_,h,_=>by simp at h
 | p::P,w::vs,0,m,nd,h1,h2,hk=>by
  simp at h1 h2;subst h1;subst h2;show bindL kindOf ((p,w)::P.zip vs) m p=_;unfold bindL;rw [jy λ v hv=>(ς.mp nd).1 (ŵ hv).1,â hk];simp
 | p::P,w::vs,i+1,m,nd,h1,h2,hk=>by
  show bindL kindOf ((p,w)::P.zip vs) m x=_;exact jt (ς.mp nd).2 (by simpa using h1) (by simpa using h2) hk
theorem jo {kindOf:Str->Option NameKind}{x:Str}{v:Value}:∀{P:List Str}{vs:List Value}{i:Nat}{m:bL},P.Nodup->P[i]?=some x->vs[i]?=some v->kindOf x≠some .local ->
  bindC kindOf (P.zip vs) m x=some v
 | [],_,_,_,_,h,_,_=>by simp at h
 | _::_,[],_,_,_,_,h,_=>by simp at h
 | p::P,w::vs,0,m,nd,h1,h2,hk=>by
  simp at h1 h2;subst h1;subst h2;show bindC kindOf ((p,w)::P.zip vs) m p=_;unfold bindC;rw [jJ λ v hv=>(ς.mp nd).1 (ŵ hv).1,Ü hk];simp
 | p::P,w::vs,i+1,m,nd,h1,h2,hk=>by
  show bindC kindOf ((p,w)::P.zip vs) m x=_;exact jo (ς.mp nd).2 (by simpa using h1) (by simpa using h2) hk
def fH (N:List Str)(vs:List V):St:=vs.map some++List.replicate (N.length-vs.length) none
def aP (CX:kD)(P:Program)(w:World)(K:PySem.W.Frag)(mg:bL)(base:Heap)(N:List Str)(qual:Str)(scope:Scope)(f:Addr)(cd:Value)(A:Around)(outer:List Env)(s:Shared)(H:Hp)(E:XK):Cx where
 prog:=P
 w:=w
 K:=K
 mg:=mg
 base:=base
 A:=A.deeper (envOfC qual scope s.heap.objs.size f cd)
 N:=N
 ŉ:=s
 Lw:=H
 env:=envOfC qual scope s.heap.objs.size f cd
 outer:=outer
 stack:=envOfC qual scope s.heap.objs.size f cd::outer
 ex:=[]
 calm:=true
 fn:=λ _=>true
 pn:=[]
 xe:=λ e s'=>wpAny (model P w) (A.deeper (envOfC qual scope s.heap.objs.size f cd)) (leaving (envOfC qual scope s.heap.objs.size f cd) e) (λ _ Nx=>CX outer H s E e Nx) (λ e' Nx=>CX outer H s E e' Nx) s'
theorem mO {sc:Scope}{n:Nat}{x:Str}(h:sc.names.lookup x=some .cell):∃ c,(cellsFrom n sc.names []).lookup x=some c:=by
 have q:=NQ sc.names n [] (.inl h);exact ĭ.mp q
theorem qD {CX:kD}{P:Program}{w:World}{K:PySem.W.Frag}{mg:bL}{base:Heap}{N ps:List Str}{qual:Str}{scope:Scope}{f:Addr}{cd:Value}{A:Around}{outer:List Env}{s s1:Shared}{H:Hp}{E:XK}{us:List Value}{vs:List V}
  (S:ad N ps scope)(hd:A.handled=none)(e0:KH P w K mg base A outer s H)(hl:vs.length=ps.length)(r:Vals vs us)
  (x:InCallC s s.heap.objs.size (bindL (envOfC qual scope s.heap.objs.size f cd).kindOf (ps.zip us) λ _=>none) (cellsFrom (s.heap.objs.size+1) scope.names []) (bindC (envOfC qual scope s.heap.objs.size f cd).kindOf (ps.zip us) λ _=>none) s1) :
  Inv (aP CX P w K mg base N qual scope f cd A outer s H E) [] (fH N vs) H s1:=by
 have Ρ:ps.length<=N.length:=by have:=Ĕ List.length S.pre;rw [Ď] at this;omega
 obtain⟨h1,tk,rfl,hk⟩:=x.done;have PM:∀ b:Addr,b ∉ (aP CX P w K mg base N qual scope f cd A outer s H E).ex:=λ b z=>absurd (show b∈([]:List Addr) from z) (by simp)
 refine⟨⟨e0.mod,S.kind,rfl,rfl,Ç _,λ y z c h1 h2=>?_,λ y hy=>?_,λ y c _ h=>?_,λ _=>hd,Around.frames_deeper e0.frames,.inr ⟨rfl,rfl⟩,λ b z=>absurd z (PM b),e0.bs,e0.Mz,λ b _ _=>PM b,λ b z=>absurd z (PM b),e0.i_,e0.Ox⟩,
  rfl,e0.bare,Un.kept hk,⟨_,x.toInCall.ns,λ i y v h1 h2 h3=>?_⟩,λ y c h=>⟨_,x.cell y c h⟩,e0.Đ.fresh (Ç _),λ y c h=>?_,λ p hp=>absurd (show p∈([]:List (Addr × Obj)) from hp) (by simp),e0.Đ.kept hk,?_⟩
 ·exact name_of_addr x.apart (ç h1) (ç h2)
 ·have hy:scope.names.lookup y=some .cell\/scope.names.lookup y=some .free:=hy;rcases hy with hy | hy
  ·exact mO hy
  ·exact absurd rfl (S.Ky _ (ç hy))
 ·exact NS (x.above y c (ç h))
 ·have hi:i<vs.length:=by
   unfold fH at h2;by_cases hi:i<vs.length
   ·exact hi
   ·rw [å (by simpa using hi)] at h2
    rw [Χ] at h2;split at h2 <;> cases h2
  have ha:vs[i]?=some v:=by
   unfold fH at h2;rw [ò (by simpa using hi),List.getElem?_map] at h2
   cases e:vs[i]? with
   | none=>rw [e] at h2;cases h2
   | some a=>rw [e] at h2;cases h2;rfl
  obtain⟨u,hu,rv⟩:=r.get ha;have hp:ps[i]?=some y:=by
   rw [<- S.pre,List.getElem?_take_of_lt ak];exact h1
  have T7:ps.Nodup:=by rw [<- S.pre];exact S.nd.sublist (List.take_sublist _ _)
  refine⟨u,rv,?_⟩;rcases S.par y (Ú hp) with k | k
  ·exact .inl ⟨k,jt T7 hp hu k⟩
  ·obtain⟨c,e⟩:=mO k;refine .inr ⟨.inl k,c,e,?_⟩;have q:=x.cell y c e;rw [jo T7 hp hu (by show scope.names.lookup y≠_;rw [k];decide)] at q
   exact q
 ·exact e0.Đ.fresh (NS (x.above y c (ç h)))
 ·unfold fH;show _=N.length;rw [É,Ã,Ù];omega
theorem v9 {CX:kD}{P:Program}{w:World}{K:PySem.W.Frag}{mg:bL}{base:Heap}{k:Nat}{f:Addr}{name qual:Str}{params:Arguments}{body:List Stmt}{scope:Scope}{dV kV doc pm cdv ct oc:Value}{an od:Option Addr}
  {M6:Array (Option Value)}{N ps:List Str}{sp:Sp}(lk:K.lookup f=some ⟨oc,od,.func (PySem.W.fnOf name qual params body scope dV kV doc pm an cdv ct),M6⟩)(Lq:PySem.W.codeIn K cdv qual=true)(S:ad N ps scope)
  (len:∀ vs H Q E,sp vs H Q E->vs.length=ps.length)
  (γ:∀(A:Around)(outer:List Env)(s:Shared)(H:Hp)(vs:List V)(Q:VK)(E:XK),ó k (A.deeper (envOfC qual scope s.heap.objs.size f cdv))->sp vs H Q E ->
   ∃ t,ż (aP CX P w K mg base N qual scope f cdv A outer s H E) body t/\t { nx:=λ _ H'=>Q .ą H',rt:=Q } (fH N vs) H) :
  Þ P w K mg base CX (k+1) f (PySem.W.fnOf name qual params body scope dV kV doc pm an cdv ct) ps sp:=by
 refine⟨len,λ A outer s H args us vs Q E hr e0 hb r Ll=>?_⟩;have hl:=len _ _ _ _ Ll;have KX:K.In s.heap:=e0.mod.N'.keeps λ b o e=>(e0.bs b o e).1;have lim:s.heap.NoLimit:=e0.mod.nolimit.keeps λ b o e=>(e0.bs b o e).1;have Qi:∀ y∈ps.zip us,scope.names.lookup y.1=some .local\/(scope.names.lookup y.1=some .cell/\((cellsFrom (s.heap.objs.size+1) scope.names []).lookup y.1).isSome=true):=λ ⟨n,v⟩ hy=>by
  rcases S.par n (ŵ hy).1 with q | q
  ·exact .inl q
  ·exact .inr ⟨q,NQ _ _ _ (.inl q)⟩
 refine codeAny_call_function hr.depth (KX _ _ lk) rfl S.co S.gen rfl (PySem.W.codeRec_of KX Lq) (hb _ _ _ _ ?_);refine wpAny_newFunctionEnv_cells S.kind Qi λ env he s1 x=>?_;subst he;refine⟨lim.keeps x.toInCall.keep,codeAny_func ?_⟩;obtain⟨t,ht,hq⟩:=γ A outer s H vs Q E (hr.deeper _) Ll;have I:Inv (aP CX P w K mg base N qual scope f cdv A outer s H E) [] (fH N vs) H s1:=qD S hr.hd e0 hl r x;refine ï (ht [] s1 (fH N vs) H _ I hq) (λ fl s' hs=>?_) λ e s' hs=>hs;have fin:∀{ĥ:St}{H':Hp}{v:V}{u:Value},Inv (aP CX P w K mg base N qual scope f cdv A outer s H E) [] ĥ H' s'->RelV v u->Q v H'->CE outer P w H s Q u s' :=
  λ {ĥ H' v u} J rv q=>⟨v,H',J.os,J.bare,J.base,J.Đ,rv,q⟩
 cases fl with
 | ret u =>
  obtain⟨v,ĥ,H',J,rv,q⟩:=hs;exact fin J rv q
 | next =>
  obtain⟨ĥ,H',J,q⟩:=hs;exact fin (v:=V.ą) J rfl q
 | brk =>
  obtain⟨_,_,_,q⟩:=hs;exact False.elim q
 | cont =>
  obtain⟨_,_,_,q⟩:=hs;exact False.elim q
section
variable {X:Cx}{x:Str}{p ø:Pos}{e:Expr}{es:List Expr}{t:TA}{id T:String}{r:List V->Hp->VK->Prop}
def jg (r:List V->Hp->VK->Prop)(t:TA):TE:=λ σ H Q=>t σ H λ vs H1=>r vs H1 Q
theorem aq (hc:cQ X (.builtin id) r)(hg:Gl X x)(hm:X.mg x=none)(hv:bootBuiltins x=some (.builtin id))(ha:PA X (e::es) t)(hn:x ≠ "__name__" := by decide)(JX:(x==("__debug__" : Str))=false:=by decide)
  (he:starEach (e::es) X.env=(false,eval e X.env)::starEach es X.env:=by rfl) (Ρ:(backTo ø (starEach es X.env)).any (·.1)=false:=by rfl):PE X (.Call (.Name x p) (e::es) [] ø) (jg r t):=by
 intro Ä s σ H Q I h;refine Ī (fO I hg hm hv ?_ hn JX);exact Kn (aV (ha ø Ä s σ H _ I h) λ us s1 ⟨vs,H1,I1,r1,q1⟩=>hc Ä s1 σ H1 vs us Q I1 r1 q1) he Ρ
theorem aU (hc:cQ X (.type T) r)(hg:Gl X x)(hm:X.mg x=none)(hv:bootBuiltins x=some (.type T))(ha:PA X (e::es) t)(hn:x ≠ "__name__" := by decide)(JX:(x==("__debug__" : Str))=false:=by decide)
  (he:starEach (e::es) X.env=(false,eval e X.env)::starEach es X.env:=by rfl) (Ρ:(backTo ø (starEach es X.env)).any (·.1)=false:=by rfl):PE X (.Call (.Name x p) (e::es) [] ø) (jg r t):=by
 intro Ä s σ H Q I h;refine Ī (fO I hg hm hv ?_ hn JX);exact ď (aV (ha ø Ä s σ H _ I h) λ us s1 ⟨vs,H1,I1,r1,q1⟩=>hc Ä s1 σ H1 vs us Q I1 r1 q1) he Ρ
end
end L2
namespace HT
open PySem PyProof.Rows
section
variable {prog:Program}{w:World}{A:Around}{E:eH}{s:Shared}
def Km (n d:Nat):Option Int->Nat
 | none=>d
 | some v=>if v<0 then(v+(n:Int)).toNat else min v.toNat n
theorem KS (n d k:Nat):Km n d (some (k:Int))=min k n:=by
 show(if(k:Int)<0 then((k:Int)+(n:Int)).toNat else min (k:Int).toNat n)=min k n
 rw [Ü ak,ô]
end
end HT
namespace L2
open PySem PySem.Spec PyProof.Rows
abbrev TO:=St->Hp->(Option Int->Hp->Prop)->Prop
def PO (X:Cx)(e:Option Expr)(t:TO):Prop :=
 ∀(Ä:List (Addr × Obj))(s:Shared)(σ:St)(H:Hp)(Q:Option Int->Hp->Prop),Inv X Ä σ H s->t σ H Q ->
  wpAny (model X.prog X.w) X.A (evalPart e X.env) (λ u s'=>∃ o H',Inv X Ä σ H' s'/\IsPart u o/\Q o H') X.xe s
def se (t:TE):TO:=λ σ H Q=>t σ H λ x H1=>∃ i,x=.int i/\Q (some i) H1
theorem iW:∀{us:List Value},Vals (ns.map V.int) us->IntsAre us ns:=by
 induction ns with
 | nil=>intro us r;rw [J9] at r;cases r;exact .nil
 | cons n ns ih =>
  intro us r;rw [ë] at r;cases r with
  | cons r1 r2 =>
   obtain⟨t,e⟩:=r1;subst e;exact .cons n t (ih r2)
section
variable {X:Cx}{e:Expr}{te:TE}{lo hi:Option Expr}{tl th:TO}{ø p2:Pos}
theorem pO (h:PE X e te):PO X (some e) (se te):=by
 intro Ä s σ H Q I hw;rw [evalPart_some];refine aV (h Ä s σ H _ I hw) λ u s1 ⟨x,H1,I1,r1,q1⟩=>?_;obtain⟨i,rfl,q⟩:=q1;obtain⟨t,rfl⟩:=r1;exact⟨some i,H1,I1,.int i t,q⟩
def Ii (X:Cx)(r:V->Option Int->Option Int->Hp->VK->Prop):Prop :=
 ∀(Ä:List (Addr × Obj))(s:Shared)(σ:St)(H:Hp)(x:V)(v vl vu:Value)(lo hi:Option Int)(sl:Addr)(Q:VK),Inv X Ä σ H s->RelV x v->s.heap.IsSliceOf sl vl vu .none->IsPart vl lo->IsPart vu hi->r x lo hi H Q ->
  ∃ T id,typeLookup (.type T) "__getitem__" = pure (some (.builtin id))/\s.TypeIs v T/\wpAny (model X.prog X.w) X.A (getItem v (.ref sl)) (EP X Ä σ Q) X.xe s
def Iy (r:V->Option Int->Option Int->Hp->VK->Prop)(te:TE)(tl th:TO):TE:=λ σ H Q=>te σ H λ x H1=>tl σ H1 λ l H2=>th σ H2 λ u H3=>r x l u H3 Q
theorem sC {r:V->Option Int->Option Int->Hp->VK->Prop}(hr:Ii X r)(he:PE X e te)(hl:PO X lo tl)(hu:PO X hi th):PE X (.Subscript e (.Slice lo hi none p2) ø) (Iy r te tl th):=by
 intro Ä s σ H Q I h;refine Subscript_ (aV (he Ä s σ H _ I h) λ v s1 ⟨x,H1,I1,r1,q1⟩=>?_);refine wpAny_Slice (aV (hl Ä s1 σ H1 _ I1 q1) λ vl s2 ⟨l,H2,I2,pl,q2⟩=>aV (hu Ä s2 σ H2 _ I2 q2) λ vu s3 ⟨u,H3,I3,pu,q3⟩=>?_);rw [evalPart_none];refine È ?_;have I4:Inv X Ä σ H3 { s3 with heap:=s3.heap.push { cls:=.type "slice",data:=.fields #[vl,vu,.none] } }:=I3.kept (t':=s3.toks) λ b ob q=>Â _ q
 obtain⟨T,id,hT,ht,hg⟩:=hr Ä { s3 with heap:=s3.heap.push { cls:=.type "slice",data:=.fields #[vl,vu,.none] } } σ H3 x v vl vu l u s3.heap.objs.size Q I4 r1 (Heap.IsSliceOf.new ..) pl pu q3;show wpAny (model X.prog X.w) X.A (subscriptTail e (.Slice lo hi none p2) v (.ref s3.heap.objs.size)) (EP X Ä σ Q) X.xe { s3 with heap:=s3.heap.push { cls:=.type "slice",data:=.fields #[vl,vu,.none] } }
 exact tail_any (ops:=[.ref s3.heap.objs.size,v]) ht hT hg (by with_unfolding_all rfl)
def qv (xs:List V)(lo hi:Option Int):List V:=(xs.drop (HT.Km xs.length 0 lo)).take (HT.Km xs.length xs.length hi-HT.Km xs.length 0 lo)
theorem kS (xs:List V)(lo hi:Option Int):(qv xs lo hi).length<=xs.length:=by
 unfold qv;rw [Ď,Kq];omega
end
def tW (n:Nat)(i:Int):Option Nat:=if 0<=i then(if i<n then some i.toNat else none) else if -(n:Int)<=i then some (i+n).toNat else none
def vW {α:Type}(xs:List α)(i:Int):Option α:=(tW xs.length i).bind λ j=>xs[j]?
theorem pP (h:tW n i=some j):seqIndex? i n=some j/\j<n/\-(n:Int)<=i/\i<n:=by
 unfold tW at h;by_cases h0:0<=i
 ·rw [â h0] at h;by_cases h1:i<n
  ·rw [â h1] at h;have e:=Ý h;exact⟨by rw [seqIndex_of h0 h1,e],ak,ak,h1⟩
  ·rw [Ü h1] at h;cases h
 ·rw [Ü h0] at h;by_cases h1:-(n:Int)<=i
  ·rw [â h1] at h;have e:=Ý h;exact⟨by rw [seqIndex_neg ak h1,e],ak,h1,ak⟩
  ·rw [Ü h1] at h;cases h
theorem ph {α:Type}{xs:List α}{i:Int}{v:α}(h:vW xs i=some v):∃ j,seqIndex? i xs.length=some j/\xs[j]?=some v/\j<xs.length/\-(xs.length:Int)<=i/\i<xs.length:=by
 unfold vW at h;cases e:tW xs.length i with
 | none=>rw [e] at h;cases h
 | some j =>
  rw [e] at h;obtain⟨h1,h2,h3,h4⟩:=pP e;exact⟨j,h1,h,h2,h3,h4⟩
theorem f7 {α:Type}{xs:List α}{j:Nat}{v:α}(h:xs[j]?=some v):vW xs (j:Int)=some v:=by
 have hj:=(Æ.mp h).1;have e:tW xs.length (j:Int)=some j:=by
  unfold tW;rw [â ak,â ak];simp
 unfold vW;rw [e];exact h
def kr (b:Expr):Prop:=∀ o i,subscripted b false o i=operate [o,i] (getItem o i)
def DK (X:Cx)(r:R2):Prop :=
 ∀(value slice:Expr)(Ä:List (Addr × Obj))(s:Shared)(σ:St)(H:Hp)(x y:V)(v u:Value)(Q:VK),Inv X Ä σ H s->RelV x v->RelV y u->r x y H Q ->
  subscripted slice false v u=operate [v,u] (getItem v u)->wpAny (model X.prog X.w) X.A (subscriptTail value slice v u) (EP X Ä σ Q) X.xe s
def HZ (X:Cx)(id:String)(r:V->List V->Hp->VK->Prop):Prop :=
 ∀(Ä:List (Addr × Obj))(s:Shared)(σ:St)(H:Hp)(x:V)(xs:List V)(v:Value)(us:List Value)(Q:VK),Inv X Ä σ H s->RelV x v->Vals xs us->r x xs H Q ->
  wpAny (model X.prog X.w) X.A (call (.builtin id) (v::us)) (EP X Ä σ Q) X.xe s
section
variable {X:Cx}{a b:Expr}{ta tb:TE}{ø:Pos}
theorem ES (hr:DK X r)(ha:PE X a ta)(hb:PE X b tb)(hs:kr b):PE X (.Subscript a b ø) (aS r ta tb):=by
 intro Ä s σ H Q I h;exact Subscript_ (As ha hb I h λ v u s2 x y H2 I2 rx ry q=>hr a b Ä s2 σ H2 x y v u Q I2 rx ry q (hs _ _))
theorem eL {r:R2}(hr:DK X r)(ha:PE X a ta)(hb:PE X b tb)(hs:kr b:=by exact λ _ _=>rfl):PE X (.Subscript a b ø) (aS r ta tb):=ES hr ha hb hs
def dP (K:PySem.W.Frag):R2:=λ x y H Q=>∃ p xs i v,x=.ref p/\y=.int i/\î K H p xs/\vW xs i=some v/\Q v H
def Gb (K:PySem.W.Frag):R2:=λ x y H Q=>∃ p xs i v,x=.ref p/\y=.int i/\ĝ K H p xs/\vW xs i=some v/\Q v H
theorem gF:DK X (dP X.K):=by
 intro value slice Ä s σ H x y v u Q I rx ry h hs;obtain⟨p,xs,i,z,rfl,rfl,hq,he,q⟩:=h;cases rx;obtain⟨t,rfl⟩:=ry;obtain⟨its,r,pl,hz⟩:=I.list hq;obtain⟨j,h1,h2,h3,h4,h5⟩:=ph he;obtain⟨w,ew,L6⟩:=r.get h2;have hl:=r.length;have hn:=ix;have fin:EP X Ä σ Q w s:=⟨z,H,I,L6,q⟩;by_cases h0:0<=i
 ·have hj:i.toNat=j:=by
   rw [seqIndex_of h0 h5] at h1;exact Ý h1
  exact item_listR pl.isList h0 ak (by rw [hj];simpa using ew) fin hs
 ·have hj:(i+(its.toArray.size:Int)).toNat=j:=by
   rw [seqIndex_neg ak h4] at h1;rw [Û,<- hl];exact Ý h1
  exact subscriptTail_builtinR pl.isList.typeIs slot_list_getitem.lookup
   (wpAny_getItem_list_neg pl.isList ak (by rw [Û] <;> omega) ak (by rw [hj];simpa using ew) ⟨rfl,fin⟩) hs
theorem qS:DK X (Gb X.K):=by
 intro value slice Ä s σ H x y v u Q I rx ry h hs;obtain⟨p,xs,i,z,rfl,rfl,hq,he,q⟩:=h;cases rx;obtain⟨t,rfl⟩:=ry;obtain⟨its,r,pl,hz⟩:=I.tuple hq;obtain⟨j,h1,h2,h3,h4,h5⟩:=ph he;obtain⟨w,ew,L6⟩:=r.get h2;have hl:=r.length;have hn:=ix;have fin:EP X Ä σ Q w s:=⟨z,H,I,L6,q⟩;exact subscriptTail_builtinR pl.typeIs slot_tuple_getitem.lookup
  (getItem_tuple pl ak ak (by rw [Û,<- hl];exact h1) (by simpa using ew) ⟨rfl,fin⟩) hs
theorem nX (its:List Value)(n j:Nat)(u:Value):Obj.mapSeq (·.setIfInBounds j u) { cls:=.type "list",data:=.seq its.toArray n }={ cls:=.type "list",data:=.seq (its.set j u).toArray n }:=by
 simp [Obj.mapSeq]
theorem Inv.lst {Ä:List (Addr × Obj)}{σ:St}{H:Hp}{s:Shared}{p:Addr}{xs:List V}(I:Inv X Ä σ H s)(h:H p=some (.lst xs)) :
  ∃(its:List Value)(n:Nat),Vals xs its/\s.heap.get? p=some { cls:=.type "list",data:=.seq its.toArray n }/\xs.length<=sizeLine:=by
 obtain⟨z,its,n,r,e⟩:=I.Đ p _ h;exact⟨its,n,r,e,z⟩
theorem Inv.N9 {Ä:List (Addr × Obj)}{σ:St}{H:Hp}{s:Shared}{p:Addr}{xs ys:List V}{its g_:List Value}{n n':Nat}{f:Obj->Obj}(I:Inv X Ä σ H s)(h:H p=some (.lst xs))
  (ho:s.heap.get? p=some { cls:=.type "list",data:=.seq its.toArray n })(hf:f { cls:=.type "list",data:=.seq its.toArray n }={ cls:=.type "list",data:=.seq g_.toArray n' })(r:Vals ys g_)(hz:ys.length<=sizeLine)(t:Nat) :
  Inv X Ä σ (af H p (.lst ys)) { s with heap:=s.heap.update p f,toks:=t }:=by
 have e:(s.heap.update p f).get? p=some { cls:=.type "list",data:=.seq g_.toArray n' }:=by
  rw [č f ho (by rw [hf] <;> rfl),hf]
 refine I.write (by rw [h];trivial) (.inl rfl) (λ b u hb q=>(Heap.get?_update_other _ _ (Ne.symm hb)).trans q) ⟨_,e⟩ ?_
 exact⟨hz,g_,n',r,e⟩
def jE:V->V->V->Hp->(Hp->Prop)->Prop:=λ o i v H Q=>∃ p xs k j,o=.ref p/\i=.int k/\H p=some (.lst xs)/\tW xs.length k=some j/\Q (af H p (.lst (xs.set j v)))
theorem cI:xA X jE:=by
 intro Ä s σ H o i v ov iv u Q I ro ri rv h;obtain⟨p,xs,k,j,rfl,rfl,hp,hj,q⟩:=h;cases ro;obtain⟨t,rfl⟩:=ri;obtain⟨its,n,r,ho,hz⟩:=I.lst hp;obtain⟨h1,h2,h3,h4⟩:=pP hj;have hl:=r.length;have hn:=ix;have I' :=
  I.N9 hp ho (nX its n j u) (r.set rv j) (by rw [Ő];exact hz) s.toks
 by_cases h0:0<=k
 ·have hk:k.toNat=j:=by
   rw [seqIndex_of h0 h4] at h1;exact Ý h1
  exact PySem.W.ki_setAt ho h0 ak (by rw [Û,<- hl];exact h4) (by rw [hk];exact⟨_,I',q⟩)
 ·have hk:(k+(its.toArray.size:Int)).toNat=j:=by
   rw [seqIndex_neg ak h3] at h1;rw [Û,<- hl];exact Ý h1
  exact PySem.W.ki_setBack ho ak (by rw [Û,<- hl];exact h3) ak (by rw [hk];exact⟨_,I',q⟩)
theorem j4 (lo hi:Option Int)(n:Nat):(sliceBounds lo hi none n).1=((HT.Km n 0 lo:Nat):Int)/\(sliceBounds lo hi none n).2.1=((HT.Km n n hi:Nat):Int)/\(sliceBounds lo hi none n).2.2=1:=by
 refine⟨?_,?_,rfl⟩
 ·cases lo with
  | none=>simp [sliceBounds,HT.Km]
  | some i =>
   simp only [sliceBounds,HT.Km,Option.getD_none,show(1:Int)>0 by decide,if_true]
   by_cases h:i<0
   ·simp only [h,if_true] <;> omega
   ·simp only [h,if_false] <;> omega
 ·cases hi with
  | none=>simp [sliceBounds,HT.Km]
  | some i =>
   simp only [sliceBounds,HT.Km,Option.getD_none,show(1:Int)>0 by decide,if_true]
   by_cases h:i<0
   ·simp only [h,if_true] <;> omega
   ·simp only [h,if_false] <;> omega
theorem je (its:List Value)(lo hi:Option Int):slicePick its.toArray lo hi none=((its.drop (HT.Km its.length 0 lo)).take (HT.Km its.length its.length hi-HT.Km its.length 0 lo)).toArray:=by
 obtain⟨h1,h2,h3⟩:=j4 lo hi its.toArray.size;unfold slicePick;rw [h1,h2,h3];simp only [sliceRange_one,pick_run,List.size_toArray] <;> rfl
def EH (K:PySem.W.Frag):V->Option Int->Option Int->Hp->VK->Prop:=λ x lo hi H Q=>∃ a xs,x=.ref a/\î K H a xs/\∀ p,H p=none->Q (.ref p) (af H p (.lst (qv xs lo hi)))
theorem t7:Ii X (EH X.K):=by
 intro Ä s σ H x v vl vu lo hi sl Q I rx hs pl pu h;obtain⟨a,xs,rfl,hx,q⟩:=h;cases rx;obtain⟨its,r,ht,hz⟩:=I.list hx;have İ:=r.length;refine⟨"list",_,slot_list_getitem.lookup,ht.isList.typeIs,?_⟩;refine wpAny_getItem_list_slice ht.isList hs pl pu .none (by simp) ?_ (by rw [List.size_toArray] <;> omega)
 rw [je,<- İ];refine⟨.ref s.heap.objs.size,_,I.laid (t':=s.toks) (o:=.lst (qv xs lo hi)) (λ b ob q=>Â _ q) (Ç _) ?_,rfl,q _ (I.Đ.fresh (Ç _))⟩;exact⟨ð (kS xs lo hi) hz,_,0,(r.drop (HT.Km xs.length 0 lo)).take (HT.Km xs.length xs.length hi-HT.Km xs.length 0 lo),Ò _ rfl⟩
def pj:V->Bool
 | .ą=>true
 | .bl _=>true
 | .int _=>true
 | .str _=>true
 | _=>false
def yH:V->V->Bool
 | .ą,.ą=>true
 | .bl a,.bl b=>a==b
 | .bl a,.int b=>(if a then 1 else 0)==b
 | .int a,.bl b=>a==(if b then 1 else 0)
 | .int a,.int b=>a==b
 | .str a,.str b=>a==b
 | _,_=>false
theorem xW (ry:RelV y u)(rx:RelV x v)(fy:pj y=true)(fx:pj x=true):SeqAt.EqAt A s u v (yH y x):=by
 cases y with
 | ą =>
  cases ry;cases x with
  | ą=>cases rx;exact JA _
  | bl b=>cases rx;exact SeqAt.EqAt.none_bool b
  | int b=>obtain⟨t,rfl⟩:=rx;exact SeqAt.EqAt.none_int b t
  | str b=>obtain⟨t,rfl⟩:=rx;exact SeqAt.EqAt.none_str b t
  | _=>exact absurd (show false=true from fx) Ñ
 | bl a =>
  cases ry;cases x with
  | ą=>cases rx;exact SeqAt.EqAt.bool_none a
  | bl b=>cases rx;exact SeqAt.EqAt.bool_bool a b
  | int b=>obtain⟨t,rfl⟩:=rx;exact SeqAt.EqAt.bool_int a b t
  | str b=>obtain⟨t,rfl⟩:=rx;exact SeqAt.EqAt.bool_str a b t
  | _=>exact absurd (show false=true from fx) Ñ
 | int a =>
  obtain⟨t',rfl⟩:=ry;cases x with
  | ą=>cases rx;exact SeqAt.EqAt.int_none a t'
  | bl b=>cases rx;exact SeqAt.EqAt.int_bool a t' b
  | int b=>obtain⟨t,rfl⟩:=rx;exact SeqAt.EqAt.int_int a t' b t
  | str b=>obtain⟨t,rfl⟩:=rx;exact SeqAt.EqAt.int_str a t' b t
  | _=>exact absurd (show false=true from fx) Ñ
 | str a =>
  obtain⟨t',rfl⟩:=ry;cases x with
  | ą=>cases rx;exact SeqAt.EqAt.str_none a t'
  | bl b=>cases rx;exact SeqAt.EqAt.str_bool a t' b
  | int b=>obtain⟨t,rfl⟩:=rx;exact SeqAt.EqAt.str_int a t' b t
  | str b=>obtain⟨t,rfl⟩:=rx;exact SeqAt.EqAt.str_str a t' b t
  | _=>exact absurd (show false=true from fx) Ñ
 | _=>exact absurd (show false=true from fy) Ñ
theorem aw:cQ X (.builtin "len") (λ xs H Q=>∃ p ys,xs=[.ref p]/\(î X.K H p ys\/ĝ X.K H p ys)/\Q (.int ys.length) H):=by
 intro Ä s σ H xs us Q I r h;obtain⟨p,ys,rfl,hq,q⟩:=h;obtain⟨u,rfl,rx⟩:=dO r;cases rx;have hn:=ix;rcases hq with hq | hq
 ·obtain⟨its,r',pl,hz⟩:=I.list hq;have İ:=r'.length;exact Calls.call_len_list pl.isList (by simp only [List.size_toArray] <;> omega) ⟨.int ys.length,H,I.tok _,⟨s.toks+1,by rw [Û,İ]⟩,q⟩
 ·obtain⟨its,r',pl,hz⟩:=I.tuple hq;have İ:=r'.length;exact len_tuple pl (by simp only [List.size_toArray] <;> omega) ⟨.int ys.length,H,I.tok _,⟨s.toks+1,by rw [Û,İ]⟩,q⟩
theorem eY:cQ X (.type "list") (λ xs H Q=>∃ p ys,xs=[.ref p]/\(î X.K H p ys\/ĝ X.K H p ys)/\∀ l,H l=none->Q (.ref l) (af H l (.lst ys))):=by
 intro Ä s σ H xs us Q I r h;obtain⟨p,ys,rfl,hq,q⟩:=h;obtain⟨u,rfl,rx⟩:=dO r;cases rx;have fin:∀(its:List Value),Vals ys its->ys.length<=sizeLine->∀(h':Heap)(c':Nat),(∀ b o',s.heap.get? b=some o'->h'.get? b=some o') ->
   h'.get? s.heap.objs.size=some { cls:=.type "list",dict:=none,data:=.seq its.toArray c',slots:=#[] }->EP X Ä σ Q (.ref s.heap.objs.size) { s with heap:=h' }:=λ its r' hz h' c' kp e =>
  ⟨.ref s.heap.objs.size,_,I.laid kp (Ç _) (show þ X.prog X.w _ h' _ (.lst ys) from⟨hz,its,c',r',e⟩),rfl,q _ (I.Đ.fresh (Ç _))⟩
 rcases hq with hq | hq
 ·obtain⟨its,r',pl,hz⟩:=I.list hq;have İ:=r'.length;obtain⟨o,ho,hc,n,hd⟩:=pl.isList;exact call_list_seq p (.inl rfl) ho hc hd (λ h' c' kp e=>fin its r' hz h' c' kp e) (by simp only [List.size_toArray] <;> omega)
 ·obtain⟨its,r',pl,hz⟩:=I.tuple hq;have İ:=r'.length;obtain⟨o,ho,hc,n,hd⟩:=pl;exact call_list_seq p (.inr rfl) ho hc hd (λ h' c' kp e=>fin its r' hz h' c' kp e) (by simp only [List.size_toArray] <;> omega)
theorem bY:cQ X (.type "tuple") (λ xs H Q=>∃ p ys,xs=[.ref p]/\((î X.K H p ys/\∀ l,H l=none->Q (.ref l) (af H l (.tup ys)))\/(ĝ X.K H p ys/\Q (.ref p) H))):=by
 intro Ä s σ H xs us Q I r h;obtain⟨p,ys,rfl,h⟩:=h;obtain⟨u,rfl,rx⟩:=dO r;cases rx;rcases h with⟨hq,q⟩ | ⟨hq,q⟩
 ·obtain⟨its,r',pl,hz⟩:=I.list hq;have İ:=r'.length;refine call_tuple_list pl.isList (λ h' kp=>?_) (by simp only [List.size_toArray] <;> omega)
  have I1:Inv X Ä σ H { s with heap:=h' }:=I.kept kp
  have I2:Inv X Ä σ (af H h'.objs.size (.tup ys)) { s with heap:=h'.push { cls:=.type "tuple",data:=.seq its.toArray } } :=
   I1.laid (λ b o e=>Â _ e) (Ç _) (show þ X.prog X.w _ _ _ (.tup ys) from⟨hz,its,r',IsTup.new _ _⟩)
  exact⟨.ref h'.objs.size,_,I2,rfl,q _ (I1.Đ.fresh (Ç _))⟩
 ·obtain⟨its,r',pl,hz⟩:=I.tuple hq;exact call_tuple_same pl ⟨.ref p,H,I,rfl,q⟩
def IC (K:PySem.W.Frag)(T:String)(x:V)(H:Hp):Prop:=match x with
 | .str _=>T = "str"
 | .int _=>T = "int"
 | .ref p=>(T = "list" /\ ∃ xs,î K H p xs)\/(T = "tuple" /\ ∃ o,K.lookup p=some o/\o.cls=.type "tuple" /\ o.dict=none) \/
   (T = "dict" /\ ((∃ Ě,H p=some (.dK Ě))\/∃ Ě,H p=some (.dT Ě)))\/(T = "set" /\ ∃ S n,H p=some (.set S n))
 | _=>False
theorem zC (I:Inv X Ä σ H s)(r:RelV x v)(ty:IC X.K T x H) :
  s.TypeIs v T/\∀ a,v=.ref a->∃ ob,s.heap.get? a=some ob/\ob.dict=none:=by
 cases x with
 | str z =>
  obtain⟨t,rfl⟩:=r;cases (show T = "str" from ty);exact⟨typeIs_str s z t,λ _ e=>nomatch e⟩
 | int i =>
  obtain⟨t,rfl⟩:=r;cases (show T = "int" from ty);exact⟨typeIs_int s i t,λ _ e=>nomatch e⟩
 | ref p =>
  cases r;rcases ty with⟨rfl,xs,hq⟩ | ⟨rfl,o,hk,hc,hd⟩ | ⟨rfl,hk⟩ | ⟨rfl,S,n,hk⟩
  ·obtain⟨its,_,pl,_⟩:=I.list hq;refine⟨pl.isList.typeIs,λ a e=>?_⟩;cases e;obtain⟨o,n,e,c,hd,_⟩:=pl;exact⟨o,e,hd⟩
  ·refine⟨⟨o,I.Ō p o hk,hc⟩,λ a e=>?_⟩;cases e;exact⟨o,I.Ō _ o hk,hd⟩
  ·have z:∃ o,s.heap.get? p=some o/\o.ExactDict:=by
    rcases hk with⟨Ě,hk⟩ | ⟨Ě,hk⟩
    ·obtain⟨_,_,_,_,o,_,_,e,ex,_⟩:=I.Đ p _ hk;exact⟨o,e,ex⟩
    ·obtain⟨_,_,_,_,o,_,_,e,ex,_⟩:=I.Đ p _ hk;exact⟨o,e,ex⟩
   obtain⟨o,e,ex⟩:=z;refine⟨⟨o,e,ex.1⟩,λ a e2=>?_⟩;cases e2;exact⟨o,e,ex.2.1⟩
  ·obtain⟨o,_,_,_,e,ex,_⟩:=I.Đ p _ hk;refine⟨⟨o,e,ex.1⟩,λ a e2=>?_⟩;cases e2;exact⟨o,e,ex.2.1⟩
 | _=>exact False.elim ty
def DE (K:PySem.W.Frag)(T:String)(r:V->List V->Hp->VK->Prop)(to:TE)(t:TA):TE:=λ σ H Q=>to σ H λ x H1=>IC K T x H1/\t σ H1 λ xs H2=>r x xs H2 Q
variable {o e:Expr}{es:List Expr}{to:TE}{t:TA}{name:Str} {ũ Η:Pos}{T id:String}{r:V->List V->Hp->VK->Prop}
theorem kI (pa:PlainAttrs T)(slot:Slot T name id)(X6:typeOf (.builtin id)=pure (.type "method_descriptor"))(hm:HZ X id r)(ho:PE X o to)(ha:PA X (e::es) t)
  (Qm:attributeBase o name X.env (eval o X.env)=eval o X.env:=by rfl)
  (SS:((backTo Η (starEach (e::es) X.env)).all (λ x=>!x.1)&&(backToKw Η (keywordEach [] X.env)).all (λ x=>x.1.isSome)
   && decide ((e::es).length+([]:List Keyword).length+(if([]:List Keyword).isEmpty then 0 else 1)<30))=true:=by rfl)
  (Qh:(ũ.endLine == Η.line)=true:=by rfl)(hs:starEach (e::es) X.env=(false,eval e X.env)::starEach es X.env:=by rfl)(Od:(backTo Η (starEach es X.env)).any (·.1)=false:=by rfl) :
  PE X (.Call (.Attribute o name ũ) (e::es) [] Η) (DE X.K T r to t):=by
 intro Ä s σ H Q I h;refine wpAny_Call_method_late Qm SS Qh rfl (aV (ho Ä s σ H _ I h) λ v s1 ⟨x,H1,I1,r1,ty,q1⟩=>?_);obtain⟨h1,h2⟩:=zC I1 r1 ty;refine⟨T,id,pa,slot,X6,h1,h2,?_⟩;have hA:=ha Η Ä s1 σ H1 _ I1 q1;rw [hs] at hA ⊢;refine Calls.callWith_builtin (by show(false||(backTo Η (starEach es X.env)).any (·.1))=false;rw [Od] <;> rfl) (Calls.evalArgs_plain ?_)
 exact aV hA λ us s2 ⟨vs,H2,I2,r2,q2⟩=>hm Ä s2 σ H2 x vs v us Q I2 r1 r2 q2
end
def Ig (X:Cx)(id:String)(r:V->List V->Hp->VK->Prop):Prop :=
 ∀(Ä:List (Addr × Obj))(s:Shared)(σ:St)(H:Hp)(x:V)(xs:List V)(v:Value)(us:List Value)(Q:VK),Inv X Ä σ H s->RelV x v->Vals xs us->r x xs H Q ->
  wpAny (model X.prog X.w) X.A (call (.builtin id) (v::us)) (EP X Ä σ Q) X.xe s
theorem Vals.one:∀{x:V}{us:List Value},Vals [x] us->∃ u,us=[u]/\RelV x u
 | _,_,.cons r .nil=>⟨_,rfl,r⟩
theorem Vals.rep {xs:List V}{us:List Value}(h:Vals xs us):∀ k:Nat,Vals (List.replicate k xs).flatten (List.replicate k us).flatten
 | 0=>.nil
 | k+1=>by
  rw [ı,ı,ć,ć];exact Vals.append h (Vals.rep h k)
theorem jG (its:List Value):∀(k:Nat)(acc:List Value),
  List.foldl (λ x1 x2=>x1++x2) acc.toArray (List.replicate k its.toArray)=(acc++(List.replicate k its).flatten).toArray
 | 0,acc=>by simp
 | k+1,acc=>by
  have e:acc.toArray++its.toArray=(acc++its).toArray:=by simp
  have e2:(acc++its)++(List.replicate k its).flatten=acc++(List.replicate (k+1) its).flatten:=by
   rw [ı,ć,J']
  rw [<- e2,<- jG its k (acc++its),<- e,ı,List.foldl_cons]
section
variable {X:Cx}{Ä:List (Addr × Obj)}{σ:St}{H:Hp}{s:Shared}{l b:Addr}{xs ys zs:List V}
theorem Inv.P9 {its g_:List Value}{n:Nat}{f:Array Value->Array Value}{t':Nat}(I:Inv X Ä σ H s)(hH:H l=some (.lst xs))
  (e:s.heap.get? l=some { cls:=.type "list",data:=.seq its.toArray n })(hf:f its.toArray=g_.toArray)(hv:Vals ys g_)(hz:ys.length<=sizeLine) :
  Inv X Ä σ (af H l (.lst ys)) { s with heap:=s.heap.update l (Obj.mapSeq f),toks:=t' }:=by
 have q:=PySem.IsL.update e f;rw [hf] at q;refine I.write (by rw [hH];exact trivial) (.inl rfl) (λ b' u hb hu=>(Heap.get?_update_other s.heap (Obj.mapSeq f) (Ne.symm hb)).trans hu) ⟨_,q⟩ ?_
 exact⟨hz,g_,_,hv,q⟩
theorem Inv.Lg (I:Inv X Ä σ H s)(hv:Vals ys its)(hz:ys.length<=sizeLine) :
  Inv X Ä σ (af H s.heap.objs.size (.lst ys)) { s with heap:=s.heap.push { cls:=.type "list",data:=.seq its.toArray },toks:=t' } :=
 I.laid (λ _ _ q=>Â _ q) (Ç _) ⟨hz,its,0,hv,Ò _ rfl⟩
theorem Inv.fresh (I:Inv X Ä σ H s):H s.heap.objs.size=none:=I.Đ.fresh (Ç _)
theorem Inv.Le (I:Inv X Ä σ H s)(hH:H l=some (.lst xs)):xs.length<=sizeLine/\∃(its:List Value)(n:Nat),Vals xs its/\xs.length=its.length/\s.heap.get? l=some { cls:=.type "list",data:=.seq its.toArray n }:=by
 obtain⟨z,its,n,r,e⟩:=I.Đ l _ hH;exact⟨z,its,n,r,r.length,e⟩
theorem mk (h:n<=sizeLine):Builtin.List.listTooLong n=false:=by
 exact Í ak
end
section
variable {X:Cx}
def pG:V->List V->Hp->VK->Prop:=λ x vs H Q=>∃ l xs y,x=.ref l/\vs=[y]/\H l=some (.lst xs)/\xs.length<sizeLine/\Q .ą (af H l (.lst (xs ++ [y])))
theorem dz:Ig X "list.append" pG:=by
 intro Ä s σ H x vs v us Q I rx rv h;obtain⟨l,xs,y,rfl,rfl,hH,hz,q⟩:=h;cases rx;obtain⟨u,rfl,ru⟩:=rv.one;obtain⟨z,its,n,r,hl,e⟩:=I.Le hH;refine B' F.slot_list_append ⟨_,e,rfl⟩ F.entry_list_append (F.args_list_append_2 _ _) (PySem.list_append l its.toArray n u (by rw [Û];omega)) ⟨e,?_⟩
 refine⟨.ą,_,I.P9 hH e (by simp) (r.append (.cons ru .nil)) ?_,rfl,q⟩
 rw [É,List.length_singleton];omega
def pI:V->List V->Hp->VK->Prop:=λ x vs H Q=>∃ l b xs zs,x=.ref l/\vs=[.ref b]/\H l=some (.lst xs)/\H b=some (.lst zs)/\xs.length+zs.length<=sizeLine/\Q .ą (af H l (.lst (xs++zs)))
theorem qK:Ig X "list.extend" pI:=by
 intro Ä s σ H x vs v us Q I rx rv h;obtain⟨l,b,xs,zs,rfl,rfl,hH,hB,hz,q⟩:=h;cases rx;obtain⟨u,rfl,ru⟩:=rv.one;cases ru;obtain⟨z,its,n,r,hl,e⟩:=I.Le hH;obtain⟨z2,Lh,n2,r2,Ml,e2⟩:=I.Le hB;have Sz:its.toArray.size+Lh.toArray.size<=sizeLine:=by rw [Û,Û];omega
 have Mj:¬ (!its.toArray.isEmpty&&Builtin.List.listTooLong (its.toArray.size+Lh.toArray.size))=true:=by
  rw [mk Sz,Bool.and_false];exact Ñ
 refine B' F.slot_list_extend ⟨_,e,rfl⟩ F.entry_list_extend (F.args_list_extend_2 _ _)
  (AutoSeq1.list_extend_list_list_0 l its.toArray n b Lh.toArray n2 Mj (by rw [Û];omega) ak) ⟨e,e2,?_⟩
 refine⟨.ą,_,I.P9 hH e (by simp) (r.append r2) ?_,rfl,q⟩
 rw [É];omega
def ve:R2:=λ x y H Q=>∃ l b xs zs,x=.ref l/\y=.ref b/\H l=some (.lst xs)/\H b=some (.lst zs)/\xs.length+zs.length<=sizeLine/\∀ p,H p=none->Q (.ref p) (af H p (.lst (xs++zs)))
theorem nK:ia X (binaryOp .Add) ve:=by
 intro Ä s σ H x y v u Q I rx ry h;obtain⟨l,b,xs,zs,rfl,rfl,hH,hB,hz,q⟩:=h;cases rx;cases ry;obtain⟨z,its,n,r,hl,e⟩:=I.Le hH;obtain⟨z2,Lh,n2,r2,Ml,e2⟩:=I.Le hB;refine PySem.P.add_list e e2 ?_ (by rw [Û,Û];omega)
 have ea:its.toArray++Lh.toArray=(its++Lh).toArray:=by simp
 rw [ea];exact⟨.ref _,_,I.Lg (t':=s.toks) (r.append r2) (by rw [É];omega),rfl,q _ I.fresh⟩
def mY:R2:=λ x y H Q=>∃ l k xs,x=.ref l/\y=.int k/\H l=some (.lst xs)/\-(2^63)<=k/\k<2^63/\xs.length*k.toNat<=sizeLine /\
 ∀ p,H p=none->Q (.ref p) (af H p (.lst (List.replicate k.toNat xs).flatten))
theorem u8 {α:Type}(xs:List α)(k:Nat):(List.replicate k xs).flatten.length=k*xs.length:=by
 induction k with
 | zero=>simp
 | succ k ih=>rw [ı,ć,É,ih,Nat.succ_mul,NT]
theorem ky:ia X (binaryOp .Mult) mY:=by
 intro Ä s σ H x y v u Q I rx ry h;obtain⟨l,k,xs,rfl,rfl,hH,h1,h2,hz,q⟩:=h;cases rx;obtain⟨t,rfl⟩:=ry;obtain⟨z,its,n,r,hl,e⟩:=I.Le hH;have İ:its.toArray.size*k.toNat<=sizeLine:=by rw [Û,<- hl];exact hz
 have S3:¬ its.toArray.size*k.toNat>(2^63-1)/8:=by
  have:(sizeLine:Nat)<=(2^63-1)/8:=ar;omega
 have SR:¬ (!Builtin.List.listFitsIndex k)=true:=by
  rw [fitsIndex_both h1 h2];exact Ñ
 have Mj:¬ Builtin.List.listTooLong (its.toArray.size*k.toNat)=true:=by
  rw [mk İ];exact Ñ
 have SJ:List.foldl (λ x1 x2=>x1++x2) #[] (List.replicate (if its.toArray.isEmpty=true then 0 else k.toNat) its.toArray)=(List.replicate k.toNat its).flatten.toArray:=by
  have f0:∀ m:Nat,List.foldl (λ x1 x2=>x1++x2) #[] (List.replicate m its.toArray)=(List.replicate m its).flatten.toArray:=λ m=>by
   have:=jG its m [];rw [List.nil_append] at this;exact this
  rw [f0];cases its with
  | nil=>simp
  | cons a r'=>rw [Ü (by simp)]
 refine wpAny_binaryOp_repeat_ref (T:="list") (U:="int") ar ⟨_,e,rfl⟩ (λ s'=>typeIs_int s' k t) noFill_list_mul F.fills_int_mul F.slot_int_rmul repeat_list F.slot_int_index.lookup
  (B' F.slot_int_rmul (typeIs_int s k t) F.entry_int_rmul (F.args_int_rmul_2 _ _) (int___rmul___int_list k t l its.toArray n)
   ⟨e,rfl,⟨_,e,rfl⟩,B' F.slot_list_mul ⟨_,e,rfl⟩ F.entry_list_mul (F.args_list_mul_2 _ _) (AutoListH.list___mul___list_int_3 l its.toArray n k t SR S3 Mj) ⟨e,?_⟩⟩)
 rw [SJ];exact⟨.ref _,_,I.Lg (t':=s.toks) (r.rep k.toNat) (by rw [u8,Nat.mul_comm];exact hz),rfl,q _ I.fresh⟩
end
section
variable {κ:Type} [DecidableEq κ]
def dY (Ě:List (κ × V))(k:κ):Option V:=(Ě.find? λ kv=>decide (kv.1=k)).map (·.2)
def iH (Ě:List (κ × V))(k:κ)(v:V):List (κ × V) :=
 if(Ě.any λ kv=>decide (kv.1=k))=true then Ě.map (λ kv=>if kv.1=k then(kv.1,v) else kv) else Ě ++ [(k,v)]
theorem cq {p:κ × V}{r:List (κ × V)}{k:κ}(e:p.1=k):dY (p::r) k=some p.2:=by simp [dY,List.find?_cons,e]
theorem cp {p:κ × V}{r:List (κ × V)}{k:κ}(e:¬ p.1=k):dY (p::r) k=dY r k:=by simp [dY,List.find?_cons,e]
theorem jc (k:κ):∀ Ě:List (κ × V),(Ě.any λ kv=>decide (kv.1=k))=(dY Ě k).isSome
 | []=>rfl
 | p::r=>by
  rw [MX];by_cases e:p.1=k
  ·simp only [cq e,decide_eq_true e,Bool.true_or,Option.isSome_some]
  ·rw [cp e,Í e,Bool.false_or];exact jc k r
theorem my (k j:κ)(y:V):∀ Ě:List (κ × V),dY (Ě.map λ kv=>if kv.1=k then(kv.1,y) else kv) j=(dY Ě j).map λ x=>if j=k then y else x
 | []=>rfl
 | p::r=>by
  have ih:=my k j y r;rw [ë];by_cases h:p.1=k
  ·rw [â h];by_cases e:p.1=j
   ·rw [cq (p:=(p.1,y)) e,cq e,ρ,â (e.symm.trans h)]
   ·rw [cp (p:=(p.1,y)) e,cp e,ih]
  ·rw [Ü h];by_cases e:p.1=j
   ·rw [cq (p:=p) e,cq e,ρ,Ü (λ z=>h (e.trans z))]
   ·rw [cp (p:=p) e,cp e,ih]
theorem jn (k j:κ)(y:V):∀ Ě:List (κ × V),dY Ě k=none->dY (Ě ++ [(k,y)]) j=if j=k then some y else dY Ě j
 | [],_=>by
  by_cases e:k=j
  ·rw [â e.symm];exact cq (p:=(k,y)) e
  ·rw [Ü (λ z=>e z.symm)];exact cp (p:=(k,y)) e
 | p::r,hn=>by
  rw [List.cons_append];have hk:¬ p.1=k:=λ z=>by rw [cq z] at hn;cases hn
  rw [cp hk] at hn;have ih:=jn k j y r hn;by_cases e:p.1=j
  ·rw [cq e,cq e,Ü (λ z=>hk (e.trans z))]
  ·rw [cp e,cp e,ih]
theorem tE (Ě:List (κ × V))(k j:κ)(y:V):dY (iH Ě k y) j=if j=k then some y else dY Ě j:=by
 unfold iH;by_cases a:(Ě.any λ kv=>decide (kv.1=k))=true
 ·rw [â a,my];rw [jc] at a;by_cases e:j=k
  ·obtain⟨x,hx⟩:=ĭ.mp a;rw [â e,e,hx,ρ,â rfl]
  ·rw [Ü e];cases dY Ě j with
   | none=>rfl
   | some x=>rw [ρ,Ü e]
 ·rw [Ü a];refine jn k j y Ě ?_;rw [jc] at a;cases q:dY Ě k with
  | none=>rfl
  | some x=>rw [q] at a;exact(a rfl).elim
theorem gZ (Ě:List (κ × V))(k:κ)(v:V):(iH Ě k v).length <= Ě.length+1:=by
 unfold iH;split
 ·rw [Ã];omega
 ·rw [É,û,K7];omega
theorem KV.val {Ě:List (κ × V)}{vs:List (κ × Value)}(r:KV Ě vs)(k:κ):ε (dY Ě k) (valueAt vs k):=by
 unfold KV at r
 induction r with
 | nil=>exact True.intro
 | @cons p q ps qs h t ih =>
  obtain⟨h1,h2⟩:=h;by_cases e:p.1=k
  ·have e':q.1=k:=h1.symm.trans e;have b:valueAt (q::qs) k=some q.2:=by simp [valueAt,List.find?_cons,e']
   rw [cq e,b];exact h2
  ·have e':¬ q.1=k:=λ z=>e (h1.trans z);have b:valueAt (q::qs) k=valueAt qs k:=by simp [valueAt,List.find?_cons,e']
   rw [cp e,b];exact ih
theorem KV.any (r:KV Ě vs)(k:κ):(Ě.any λ kv=>decide (kv.1=k))=vs.any λ kv=>decide (kv.1=k):=by
 induction r with
 | nil=>rfl
 | cons h t ih=>rw [MX,MX,ih,h.1]
theorem KV.RQ (r:KV Ě vs)(k:κ)(ry:RelV y u) :
  KV (Ě.map λ kv=>if kv.1=k then(kv.1,y) else kv) (vs.map λ kv=>if kv.1=k then(kv.1,u) else kv):=by
 induction r with
 | nil=>exact .nil
 | @cons p q ps qs h t ih =>
  rw [ë,ë];refine .cons ?_ ih;obtain⟨h1,h2⟩:=h;by_cases e:p.1=k
  ·rw [â e,â (h1.symm.trans e)];exact⟨h1,ry⟩
  ·rw [Ü e,Ü (λ z=>e (h1.trans z))];exact⟨h1,h2⟩
theorem KV.put (r:KV Ě vs)(k:κ)(ry:RelV y u):KV (iH Ě k y) (stored vs k u):=by
 unfold iH stored;rw [r.any k];by_cases e:(vs.any λ kv=>decide (kv.1=k))=true
 ·rw [â e,â e];exact r.RQ k ry
 ·rw [Ü e,Ü e];exact Paired.snoc r ⟨rfl,ry⟩
theorem KV.length {Ě:List (κ × V)}{vs:List (κ × Value)}(r:KV Ě vs):Ě.length=vs.length:=Paired.length r
end
theorem sQ (r:RelV (kV k) u):(bM P w).is k u=true:=by
 cases k with
 | inl i=>obtain⟨t,e⟩:=(show ∃ t,u=.int i t from r);subst e;exact kJ P w i t
 | inr x=>obtain⟨t,e⟩:=(show ∃ t,u=.str x t from r);subst e;exact k8 P w x t
 | ą=>cases (show u=.none from r);rfl
theorem jv:∀{ks:List Key}{us:List Value},Vals (ks.map kV) us->ItemsAre (bM P w) ks us
 | [],_,r=>by rw [J9] at r;cases r;exact .nil
 | k::ks,_,r=>by
  rw [ë] at r;cases r with
  | cons h t=>exact .cons (sQ h) (jv t)
abbrev KT (H:Hp):List (List Key × V)->List (List Key × Addr × Value)->Prop:=Paired λ p q=>p.1=q.1/\H q.2.1=some (.tup (p.1.map kV))/\RelV p.2 q.2.2
theorem KT.val {H:Hp}{Ě:List (List Key × V)}{xs:List (List Key × Addr × Value)}(r:KT H Ě xs)(k:List Key):ε (dY Ě k) ((atKey xs k).map (·.2)):=by
 induction r with
 | nil=>exact True.intro
 | @cons p q ps qs h t ih =>
  obtain⟨h1,_,h2⟩:=h;by_cases e:p.1=k
  ·have e':q.1=k:=h1.symm.trans e;have b:atKey (q::qs) k=some q.2:=by simp [atKey,List.find?_cons,e']
   rw [cq e,b];exact h2
  ·have e':¬ q.1=k:=λ z=>e (h1.trans z);have b:atKey (q::qs) k=atKey qs k:=by simp [atKey,List.find?_cons,e']
   rw [cp e,b];exact ih
section
variable {P:Program}{w:World}{H:Hp}{h:Heap}{a:Addr}
theorem wO (ok:Ι P w H h)(e:Rd H a u):þ P w H h a u:=e.ok ok
theorem rS (ok:Ι P w H h)(e:Rd H a (.dK Ě)):Ě.length<=sizeLine/\(a==sysModules)=false/\∃ vs,KV Ě vs/\h.DictOf (bM P w) a vs :=
 show þ P w H h a (.dK Ě) from wO ok e
theorem Ft (ok:Ι P w H h)(e:H a=some (.dK Ě)):Ě.length<=sizeLine/\(a==sysModules)=false/\∃ vs,KV Ě vs/\h.DictOf (bM P w) a vs:=rS ok (.inl e)
theorem r9 (ok:Ι P w H h)(e:H a=some (.tup (ks.map kV))):(tupleKind (bM P w)).is h ks a:=by
 obtain⟨_,its,r,o,h1,h2,n,h3⟩:=(show þ P w H h a (.tup (ks.map kV)) from ok a _ e);exact⟨o,its.toArray,n,h1,h2,h3,by simpa using jv r⟩
theorem ww (ok:Ι P w H h)(e:Rd H a (.dT Ě)):Ě.length<=sizeLine/\(a==sysModules)=false /\
  ∃ xs,KT H Ě xs/\h.DictOfH (tupleKind (bM P w)) a xs:=by
 obtain⟨z,y,xs,r,o,es,ep,h1,h2,h3,h4,h5⟩:=(show þ P w H h a (.dT Ě) from wO ok e);refine⟨z,y,xs,r,o,es,ep,h1,h2,h3,h4,λ x hx=>?_,h5⟩;have all:∀{l:List (List Key × V)}{m:List (List Key × Addr × Value)},KT H l m->∀ x∈m,(tupleKind (bM P w)).is h x.1 x.2.1:=by
  intro l m q
  induction q with
  | nil=>intro x hx;exact nomatch hx
  | @cons p q ps qs hq t ih =>
   intro x hx;rcases á.mp hx with e | hx
   ·subst e;exact r9 ok (by rw [<- hq.1];exact hq.2.1)
   ·exact ih x hx
 exact all r x hx
end
def KI (H:Hp)(a:Addr)(y:V)(r:Option V):Prop :=
 (∃ Ě k,Rd H a (.dK Ě)/\y=kV k/\r=dY Ě k)\/∃ Ě k b,Rd H a (.dT Ě)/\y=.ref b/\H b=some (.tup (k.map kV))/\r=dY Ě k
theorem KI.k {H:Hp}{a:Addr}{Ě:List (Key × V)}{k:Key}(e:H a=some (.dK Ě)):KI H a (kV k) (dY Ě k):=.inl ⟨Ě,k,.inl e,rfl,rfl⟩
section
variable {X:Cx}{Ä:List (Addr × Obj)}{σ:St}{H:Hp}{s:Shared}{a:Addr}{y v:V}{u r:Value}{o:Option V}{A:Around}{E:eH}
theorem Inv.big (I:Inv X Ä σ H s):sysModules<s.heap.objs.size:=by
 have h:=(I.mod.glob.keeps I.bk).lt;exact θ ar h
theorem qd (hu:A.units+1<cLine)(I:Inv X Ä σ H s)(g:KI H a y (some v))(ry:RelV y u)(h:∀ w' s',Inv X Ä σ H s'->RelV v w'->Q w' s') :
  wpAny (model X.prog X.w) A (getItem (.ref a) u) Q E s:=by
 rcases g with⟨Ě,k,e,ey,l⟩ | ⟨Ě,k,b,e,ey,eb,l⟩
 ·subst ey;obtain⟨z,hd,vs,rel,dd⟩:=rS I.Đ e;obtain⟨w',hw,L6⟩:=ε.some_of (by rw [l];exact rel.val k)
  exact wpAny_getItem_of (sQ ry) dd.mapOf hw (h w' _ (I.tok _) L6)
 ·subst ey;cases (show u=.ref b from ry);obtain⟨z,hd,xs,rel,dd⟩:=ww I.Đ e;obtain⟨w',hw,L6⟩:=ε.some_of (by rw [l];exact rel.val k)
  obtain⟨p,hp,Yi⟩:=Ó.mp hw;refine wpAny_getItem_heap (tupleKind_room_in1 hu) (r9 I.Đ eb) dd hp ?_;rw [Yi];exact h w' _ (I.tok _) L6
theorem uJ (I:Inv X Ä σ H s)(mu:E9 (H a))(hs:Heap.SameBut a s.heap h')(he:∃ q,h'.get? a=some q)(new:þ X.prog X.w (af H a ob) h' a ob) :
  Inv X Ä σ (af H a ob) { s with heap:=h',toks:=t' } :=
 I.write mu (.inl rfl) (λ b q hb z=>(hs.2 b hb).trans z) he new
theorem zr (z:Ě.length<=sizeLine)(hd:(a==sysModules)=false)(rel:KV Ě vs)(dd:h'.DictOf (bM P w) a vs) :
  þ P w H' h' a (.dK Ě):=⟨z,hd,vs,rel,dd⟩
end
def DX (i:Expr):Prop:=∀ ov iv,subscripted i false ov iv=operate [ov,iv] (getItem ov iv)
theorem vE {prog:Program}{w:World}{A:Around}{E:eH}{s:Shared}{env:Env}{value slice:Expr}{ø:Pos}{T id:String}{Q:eH}
  (hl:typeLookup (.type T) "__getitem__" = pure (some (.builtin id)))(hs:DX slice)
  (h:wpAny (model prog w) A (eval value env) (λ o Ĉ=>wpAny (model prog w) A (eval slice env) (λ i Ÿ=>Ÿ.TypeIs o T/\wpAny (model prog w) A (getItem o i) Q E Ÿ) E Ĉ) E s) :
  wpAny (model prog w) A (eval (.Subscript value slice ø) env) Q E s:=by
 refine Subscript_ (ï h (λ o Ĉ Ŏ=>ï Ŏ (λ i Ÿ JU=>?_) λ _ _ x=>x) λ _ _ x=>x);obtain⟨hT,JU⟩:=JU;refine À ?_;rw [getitemInPython_of_ne hT.not_modules];refine À (NO hT hl ?_);have fin:wpAny (model prog w) A (subscripted slice false o i) (λ r p_=>wpAny (model prog w) A (letTemporaryGo value o r >>= λ _=>pure r) Q E p_) E Ÿ:=by
  rw [hs o i];exact wpAny_operating (ï JU (λ r p_ KB=>À (wpAny_letTemporaryGo (È KB))) λ _ _ x=>x)
 first
  | exact È (À fin)
  | exact À (È (À fin))
  | exact À fin
theorem mj (I:Inv X Ä σ H s)(g:KI H a y o):s.TypeIs (.ref a) "dict" := by
 rcases g with⟨Ě,k,e,_,_⟩ | ⟨Ě,k,b,e,_,_,_⟩
 ·obtain⟨_,_,vs,_,dd⟩:=rS I.Đ e;exact dd.typeIs
 ·obtain⟨_,_,xs,_,dd⟩:=ww I.Đ e;exact dd.typeIs
def we (td ty:TE):TE:=λ σ H Q=>td σ H λ x H1=>ty σ H1 λ y H2=>∃ a v,x=.ref a/\KI H2 a y (some v)/\Q v H2
section
variable {X:Cx}{o i e value:Expr}{ø pos' Ph:Pos}{td ty tv:TE}
theorem vU (hu:X.A.units+1<cLine)(ho:PE X o td)(hi:PE X i ty)(hs:DX i:=by exact λ _ _=>rfl):PE X (.Subscript o i ø) (we td ty):=by
 intro Ä s σ H Q I h;refine vE PySem.F.slot_dict_getitem.lookup hs (aV (ho Ä s σ H _ I h) λ u s1 ⟨x,H1,I1,rx,q1⟩=>aV (hi Ä s1 σ H1 _ I1 q1) λ iv s2 ⟨y,H2,I2,ry,a,v,ex,g,q2⟩=>?_);subst ex;obtain rfl:u=.ref a:=rx;exact⟨mj I2 g,qd hu I2 g ry λ w' s3 I3 L6=>⟨v,H2,I3,L6,q2⟩⟩
end
theorem sE (h:Heap)(hb:sysModules<h.objs.size):þ P w H (h.push { cls:=.type "dict",data:=.dict #[] }) h.objs.size (.dK []) :=
 ⟨ģ _,ã.mpr (Ne.symm (Ð hb)),[],.nil,Heap.DictOf.new h⟩
structure M1 (X:Cx)(o:Expr)(m:Str)(ũ:Pos)(e:Expr) (Η:Pos):Prop where
 base:attributeBase o m X.env (eval o X.env)=eval o X.env
 Zl:((backTo Η (starEach [e] X.env)).all (λ x=>!x.1)&&(backToKw Η (keywordEach [] X.env)).all (λ x=>x.1.isSome)
  && decide (([e]:List Expr).length+([]:List Keyword).length+(if([]:List Keyword).isEmpty then 0 else 1)<30))=true
 line:(ũ.endLine == Η.line)=true
 trees:backTo Η (starEach [e] X.env)=[(false,eval e X.env)]
structure M2 (X:Cx)(o:Expr)(m:Str)(ũ:Pos)(e f:Expr) (Η:Pos):Prop where
 base:attributeBase o m X.env (eval o X.env)=eval o X.env
 Zl:((backTo Η (starEach [e,f] X.env)).all (λ x=>!x.1)&&(backToKw Η (keywordEach [] X.env)).all (λ x=>x.1.isSome)
  && decide (([e,f]:List Expr).length+([]:List Keyword).length+(if([]:List Keyword).isEmpty then 0 else 1)<30))=true
 line:(ũ.endLine == Η.line)=true
 trees:backTo Η (starEach [e,f] X.env)=[(false,eval e X.env),(false,eval f X.env)]
end L2
namespace Att
open PySem PySem.W PySem.Calls PyProof.Rows
theorem ib:∀(ns:List Int)(vs:List Value),WellAll P h vs (ns.map WData.int)->IntsAre vs ns:=by
 intro ns
 induction ns with
 | nil =>
  intro vs w;rw [J9] at w;cases w;exact .nil
 | cons n ns ih =>
  intro vs w;rw [ë] at w;cases w with
  | cons a b =>
   cases a;exact .cons _ _ (ih _ b)
theorem qf {l:OpenLaw}{n:Nat}(hn:l.most=some n){P:Params}{h:Heap}{args:List WData}{vals:List Value}
  (M_:l.row.toRowW.claim.pre args=true)(Ss:WellAll P h vals args) :
  ∃ a vs ns,vals=[Value.ref a]/\args=[WData.list (ns.map WData.int)]/\h.get? a=some { cls:=.type "list",data:=.seq vs.toArray }/\IntsAre vs ns/\ns.length<=n:=by
 have Ya:=(pre_splitW M_).1;have hc:=(pre_splitW M_).2;obtain⟨d,r,rfl,h1,h2⟩:=hasAllW_cons Ya;obtain rfl:=hasAllW_nil h2;obtain⟨xs,rfl,h3⟩:=hasW_list h1;obtain⟨ns,rfl⟩:=items_int h3;have İ:ns.length<=n:=by
  have h4:(WTm.not (.lt (.lit (.int (n:Int))) (.len (.arg 0)))).holds [] { args:=[.list (ns.map .int)] }=true:=by
   have h4:=(holds_andW hc).1;rw [hn] at h4;exact h4
  have h5:=condW_of h4 (w_not (w_lt w_lit (w_len_list (w_arg rfl))));rw [Ã] at h5;refine Nat.le_of_not_lt λ q=>?_;have q':(n:Int)<((ns.length:Nat):Int):=ak
  first
   | (rw [Ê q'] at h5;exact absurd h5 ar)
   | (simp at h5;omega)
 cases Ss with
 | cons w1 w2 =>
  cases w2;cases w1 with
  | list ho S7=>exact⟨_,_,ns,rfl,rfl,ho,ib ns _ S7,İ⟩
theorem qh (l:OpenLaw)(args:List WData):l.row.toRowW.claim.post args (.bool true) args=true :=
 postW_of
  (show WShape.has [] (.bool true) .bool=true by first | rfl | decide | simp [WShape.has,WShape.arms,WShape.armsAll])
  (show(WTm.eq .res (.lit (.bool true))).value [] { args:=args,res:=some (.bool true),after:=args }=some (.bool (true==true)) from w_eq_bool (w_res rfl) w_lit) rfl
end Att
namespace L2
open PySem PySem.Spec PyProof.Rows
theorem gN:∀{vs:List Value}{ns:List Int},IntsAre vs ns->Vals (ns.map V.int) vs
 | _,_,.nil=>.nil
 | _,_,.cons n t h=>.cons ⟨t,rfl⟩ (gN h)
def A7 (H:Hp):Prop:=∀ b,H b=none\/∃ o xs,H b=some (.J5 o (.lst xs))
def az (s:Stmt)(j:Nat):Stmt:=match s with
 | .ClassDef _ _ _ body _ _ _ _ _ _ _=>body.getD j (.Pass ⟨0,0,0,0⟩)
 | _=>.Pass ⟨0,0,0,0⟩
def cX (s:Stmt):Arguments:=match s with
 | .FunctionDef _ a _ _ _ _ _ _ _ _=>a
 | _=>{ posonlyargs:=[],args:=[],vararg:=none,kwonlyargs:=[],kw_defaults:=[],kwarg:=none,defaults:=[] }
def aF (s:Stmt):List Stmt:=match s with
 | .FunctionDef _ _ b _ _ _ _ _ _ _=>b
 | _=>[]
def aa (s:Stmt):Scope:=match s with
 | .FunctionDef _ _ _ _ _ _ sc _ _ _=>sc
 | _=>{ kind:=.function,names:=[],isGenerator:=false,isCoroutine:=false }
abbrev ay:kD:=λ _ _ _ _ _ _=>False
abbrev E0:XK:=λ _ _ _=>False
theorem ag:dk ay X E0:=λ _ _ _ _ _ _ _ h=>h.elim
structure Ģ (K:PySem.W.Frag)(x qual:Str)(st:Stmt)(f:Addr)(fd:FuncData):Prop where
 ex:∃(oc:Value)(od:Option Addr)(kV doc pm:Value)(an:Option Addr)(cdv ct:Value)(M6:Array (Option Value)),
  fd=PySem.W.fnOf x qual (cX st) (aF st) (aa st) .none kV doc pm an cdv ct/\K.lookup f=some ⟨oc,od,.func fd,M6⟩/\PySem.W.codeIn K cdv qual=true
 kp:PySem.W.keepIn K (.ref f)=true
section
variable {P:Program}{w:World}{K:PySem.W.Frag}{mg:bL}{base:Heap}
theorem Ģ.ok {x qual:Str}{st:Stmt}{f:Addr}{fd:FuncData}{N ps:List Str}{k:Nat}{sp:Sp}(F:Ģ K x qual st f fd)(S:ad N ps (aa st))(len:∀ vs H Q E,sp vs H Q E->vs.length=ps.length)
  (γ:∀(cdv:Value)(A:Around)(outer:List Env)(s:Shared)(H:Hp)(vs:List V)(Q:VK)(E:XK),ó k (A.deeper (envOfC qual (aa st) s.heap.objs.size f cdv))->sp vs H Q E ->
   ∃ t,ż (aP ay P w K mg base N qual (aa st) f cdv A outer s H E).ŀ (aF st) t/\t { nx:=λ _ H'=>Q .ą H',rt:=Q } (fH N vs) H):Þ P w K mg base ay (k+1) f fd ps sp:=by
 obtain⟨oc,od,kV,doc,pm,an,cdv,ct,M6,rfl,lk,Lq⟩:=F.ex;refine v9 lk Lq S len λ A outer s H vs Q E hr Ll=>?_;obtain⟨t,h,q⟩:=γ cdv A outer s H vs Q E hr Ll;exact⟨t,h.ŀ,q⟩
theorem bR {x qual:Str}{st:Stmt}{f:Addr}{fd:FuncData}{N ps:List Str}{k:Nat}{sp:Sp}(F:Ģ K x qual st f fd)(S:ad N ps (aa st))
  (γ:∀(cdv:Value)(A:Around)(outer:List Env)(s:Shared)(H:Hp)(vs:List V)(Q:VK)(E:XK),ó k (A.deeper (envOfC qual (aa st) s.heap.objs.size f cdv))->sp vs H Q E ->
   ∃ t,ż (aP ay P w K mg base N qual (aa st) f cdv A outer s H E).ŀ (aF st) t/\t { nx:=λ _ H'=>Q .ą H',rt:=Q } (fH N vs) H)(len:∀ vs H Q E,sp vs H Q E->vs.length=ps.length:=by intro vs H Q E h;repeat (first | (obtain⟨rfl,_⟩:=h;rfl) | (obtain⟨_,h⟩:=h))):Þ P w K mg base ay (k+1) f fd ps sp:=F.ok S len γ
theorem Ģ.binds {x qual:Str}{st:Stmt}{f:Addr}{fd:FuncData}{ps:List Str}(F:Ģ K x qual st f fd)
  (h:∀(kV doc pm:Value)(an:Option Addr)(cdv ct:Value)(us:List Value),us.length=ps.length->bindArgs (PySem.W.fnOf x qual (cX st) (aF st) (aa st) .none kV doc pm an cdv ct) ⟨us,[]⟩=pure (ps.zip us)):Binds K fd ps []:=by
 obtain⟨oc,od,kV,doc,pm,an,cdv,ct,M6,rfl,lk,Lq⟩:=F.ex;exact .all (h kV doc pm an cdv ct)
theorem Ř {x qual:Str}{st:Stmt}{f:Addr}{oc:Value}{od an:Option Addr}{M6:Array (Option Value)}{kV doc pm cdv ct:Value}(l:K.lookup f=some ⟨oc,od,.func (PySem.W.fnOf x qual (cX st) (aF st) (aa st) .none kV doc pm an cdv ct),M6⟩)
  (c:PySem.W.codeIn K cdv qual=true)(k:PySem.W.keepIn K (.ref f)=true):Ģ K x qual st f (PySem.W.fnOf x qual (cX st) (aF st) (aa st) .none kV doc pm an cdv ct):=⟨⟨oc,od,kV,doc,pm,an,cdv,ct,M6,rfl,l,c⟩,k⟩
end
section
variable {X:Cx}
theorem pv (i:Nat)(hN:X.N[i]?=some x:=by rfl)(hv:wv X.env.scope x:=by first | exact Or.inl rfl | exact Or.inr (Or.inl rfl) | exact Or.inr (Or.inr rfl))(hd:(x==("__debug__" : Str))=false:=by decide)
  (Lq:(x==("__classdict__" : Str))=false:=by decide):PE X (.Name x ø) (aj i):=AR hN hv hd Lq
end
theorem mh {c A B:Prop} [Decidable c] (h1:c->A)(h2:¬ c->B):if c then A else B:=by
 by_cases h:c
 ·rw [â h];exact h1 h
 ·rw [Ü h];exact h2 h
end L2
set_option maxHeartbeats 4000000
namespace Att
open PySem PySem.W PySem.Calls PyProof.Rows
theorem oq (r:ReadsAllW R cl h [.ref a] [.list ds] as):a∈as:=by
 cases r with
 | cons r1 r2 =>
  cases r1 with
  | list=>simp
theorem J1 {l:OpenLaw}
  (hn:l.most=some n)(Qk:d.params.defaults=[])
  (call:∀(w:World)(ŉ Ĉ:Shared)(mg mb:bL)(fa:Addr)(o:Obj)(pm cd doc:Value)(a:Addr)(vs:List Value)(ns:List Int),
   Ground q loose [] XP w ŉ mg mb Ĉ.heap->YP w Ĉ.heap ->
   Ĉ.heap.get? fa=some o->o.data=.func (docDef d.name d.params d.body d.scope pm cd doc)->Ĉ.heap.CodeRec cd d.name->mg d.name=some (.ref fa) ->
   Ĉ.heap.get? a=some { cls:=.type "list",data:=.seq vs.toArray }->IntsAre vs ns->ns.length<=n->Ĉ.gens = #[]->a≠sysModules ->
   codeAny (model l.prog w) callerA (.call (.ref fa) ⟨[.ref a],[]⟩) (λ r s'=>r=.ok (.ret (.bool true))/\OldK Ĉ.heap s'.heap/\s'.os = Ĉ.os/\AllBare s'.gens) Ĉ) :
  WalkO q loose XP YP l.row.toRowW d [] (λ f vs=>PySem.call f vs):=by
 intro w ŉ Ĉ mg mb G Y fa o pm cd doc dV kV ho hd Lq hD Qg hg args vals as M_ Yt Yd Ss Yq;obtain rfl:dV=.none:=Dflts.none hD Qk;obtain rfl:kV=.none:=Dflts.noKw hD;obtain⟨a,vs,ns,rfl,rfl,Of,hints,İ⟩:=qf hn M_ Ss;have low:=ã.mp (Yq a (oq Yd));refine enter_call (ū (call w ŉ Ĉ mg mb fa o pm cd doc a vs ns G Y ho (fd_plain hd) Lq Qg Of hints İ hg low) λ r s' hq=>?_);obtain⟨rfl,h2,h3,h4⟩:=hq;exact⟨.inl ⟨.bool true,.bool true,[],rfl,λ _=>rfl,.bool true,qh l _,λ _=>⟨List.Pairwise.nil,λ _ hm=>(nomatch hm)⟩⟩,h2,h3,h4⟩
end Att
namespace L2
open PySem PySem.Spec PyProof.Rows
theorem qy {K:PySem.W.Frag}
  (KX:K.In Ĉ.heap)(Ul:Ĉ.heap.Ns mainGlobals mg)(hb:Ĉ.heap.Ns builtinsNs mb)(YN:∀ x:Str,x ≠ "__name__" -> mb x=bootBuiltins x)(SL:Ĉ.heap.NoLimit)(hg:Ĉ.gens = #[])
  (ha:Ĉ.heap.get? a=some { cls:=.type "list",data:=.seq vs.toArray })(hi:IntsAre vs ns)(hl:ns.length<=sizeLine)(hr:ó k callerA)(low:a≠sysModules)
  (F:∀ base:Heap,K.In base->base.Ns mainGlobals mg->Þ P w K mg base CX k fa fd [x] sp)(Ql:∀(s:Shared)(u:Value),BindsTo s fd ⟨[u],[]⟩ [(x,u)])
  (Ll:∀ H:Hp,A7 H->î K H a (ns.map V.int)->H sysModules=none->sp [.ref a] H (λ v _=>v=.bl true) λ _ _ _=>False)
  (S':∀ H e s',CX [] H Ĉ (λ _ _ _=>False) e s'->False) :
  codeAny (model P w) callerA (.call (.ref fa) ⟨[.ref a],[]⟩) (λ r s'=>r=.ok (.ret (.bool true))/\OldK Ĉ.heap s'.heap/\s'.os = Ĉ.os/\AllBare s'.gens) Ĉ:=by
 have rv:=gN hi;have Sk:=hi.length;have core:∀ H:Hp,A7 H->î K H a (ns.map V.int)->Ι P w H Ĉ.heap->(∀ b,H b≠none->b=a)->(H a≠none->K.lookup a=none) ->
   codeAny (model P w) callerA (.call (.ref fa) ⟨[.ref a],[]⟩) (λ r s'=>r=.ok (.ret (.bool true))/\OldK Ĉ.heap s'.heap/\s'.os = Ĉ.os/\AllBare s'.gens) Ĉ:=by
  intro H hO hS Đ hA hK;have hz:H sysModules=none:=by
   cases q:H sysModules with
   | none=>rfl
   | some u=>exact absurd (hA _ (by rw [q];simp)).symm low
  have K3:∀{b:Addr}{o:Obj},Ĉ.heap.get? b=some o->H b=none->(lT Ĉ.heap H).get? b=some o:=λ e n=>tL e n;have PM:∀{b:Addr}{o:Obj}{es:Array DictEntry}{ep:Nat},Ĉ.heap.get? b=some o->o.data=.dict es ep->H b=none:=λ {b o es ep} e d=>by
   cases q:H b with
   | none=>rfl
   | some u =>
    have e':b=a:=hA b (by rw [q];simp)
    subst e';rw [ha] at e;cases e;have d':Data.seq vs.toArray _=Data.dict es ep:=d;cases d'
  have QZ:∀{b:Addr}{m:bL},Ĉ.heap.Ns b m->(lT Ĉ.heap H).Ns b m:=λ {b m} ⟨o,es,ep,e,d,r⟩=>⟨o,es,ep,K3 e (PM e d),d,r⟩;have Uy:=λ b o e=>K3 (KX b o e) (by
   cases q:H b with
   | none=>rfl
   | some u =>
    have e':=hA b (by rw [q];simp)
    subst e';rw [hK (by rw [q];simp)] at e;cases e)
  have hM:Mod K mg (lT Ĉ.heap H):=⟨Uy,QZ Ul,⟨mb,QZ hb,YN⟩,let ⟨mc,h1,h2⟩:=SL;⟨mc,QZ h1,h2⟩⟩
  have e0:KH P w K mg (lT Ĉ.heap H) callerA [] Ĉ H:=⟨rfl,hM,λ b o e=>vO e,ι (qu _ _),trivial,λ b hb=>absurd (show b∈([]:List Addr) from hb) (by simp),Đ,.of_eq hg⟩
  refine ū ((F _ Uy (QZ Ul)).run callerA [] Ĉ H ⟨[.ref a],[]⟩ [.ref a] [.ref a] _ _ hr e0 (Ql Ĉ (.ref a)) (.cons rfl .nil) (Ll H hO hS hz)) λ r s' h=>?_;cases r with
  | error e=>exact(S' H e s' h).elim
  | ok fl =>
   cases fl with
   | next=>exact False.elim h
   | brk=>exact False.elim h
   | cont=>exact False.elim h
   | ret u =>
    obtain⟨v,H',os,bare,un,SE,r',q⟩:=h;have q':=q;subst q';obtain rfl:u=Value.bool true:=r';refine⟨rfl,OldK.of_keep λ b o e=>?_,os,bare⟩;cases q:H b with
    | none=>exact un.keep b o e q (by intro z;exact absurd (show b∈([]:List Addr) from z) (by simp)) (by simp)
    | some u =>
     rcases hO b with z | ⟨ob,xs,z⟩
     ·rw [q] at z;cases z
     ·have z2:=un.w_ b ob _ z;obtain⟨e1,_⟩:=Đ b _ z;obtain⟨e2,_⟩:=SE b _ z2;rw [e] at e1;cases e1;exact e2
 cases hk:K.lookup a with
 | some o =>
  have e:=KX a o hk;rw [ha] at e;cases e;refine core (λ _=>none) (λ _=>.inl rfl) (.inr ⟨_,vs.toArray,_,hk,rfl,rfl,rfl,by rw [Û,Sk];exact hl,by simpa using rv⟩) (λ b u z=>by have z':=z;cases z') (λ b z=>absurd rfl z) λ z=>absurd rfl z
 | none =>
  refine core (λ b=>if b=a then some (.J5 { cls:=.type "list",data:=.seq vs.toArray } (.lst (ns.map .int))) else none) (λ b=>?_) (.inl (.inr ⟨{ cls:=.type "list",data:=.seq vs.toArray },â rfl⟩)) (λ b u z=>?_) (λ b z=>?_) λ _=>hk
  ·by_cases hb:b=a
   ·exact .inr ⟨_,_,â hb⟩
   ·exact .inl (Ü hb)
  ·by_cases hb:b=a
   ·have z':=(â hb).symm.trans z;cases z';subst hb;exact⟨ha,by rw [Ã];exact hl,vs,_,rv,ha⟩
   ·have z':=(Ü hb).symm.trans z;cases z'
  ·by_cases hb:b=a
   ·exact hb
   ·exact absurd (Ü hb) z
theorem LX {l:PySem.W.OpenLaw}{n k:Nat}{q:Program}{loose:List Str}{XP:(Str->Option Value)->Heap->Prop}{YP:World->Heap->Prop}{K:Params->PySem.W.Frag}{CX:World->kD}{sp:World->Sp}
  (hn:l.most=some n)(Q9:n<=sizeLine)(Qk:d.params.defaults=[])(hr:ó k callerA)
  (hY:∀(w:World)(h:Heap),YP w h->(K w.params).In h)
  (F:∀(w:World)(mg:bL)(fa:Addr)(h:Heap),(K w.params).In h->h.Ns mainGlobals mg->mg d.name=some (.ref fa) ->
   ∃ fd:FuncData,(∀(s:Shared)(u:Value),BindsTo s fd ⟨[u],[]⟩ [(x,u)]) /\
    ∀ base:Heap,(K w.params).In base->base.Ns mainGlobals mg->Þ l.prog w (K w.params) mg base (CX w) k fa fd [x] (sp w))
  (Ll:∀(w:World)(H:Hp)(a:Addr)(ns:List Int),ns.length<=n->A7 H->î (K w.params) H a (ns.map V.int)->H sysModules=none->sp w [.ref a] H (λ v _=>v=.bl true) λ _ _ _=>False)
  (S':∀(w:World)(H:Hp)(s:Shared)(e:Value)(s':Shared),CX w [] H s (λ _ _ _=>False) e s'->False) :
  PySem.W.WalkO q loose XP YP l.row.toRowW d [] (λ f vs=>PySem.call f vs):=by
 refine Att.J1 hn Qk λ w ŉ Ĉ mg mb fa o pm cd doc a vs ns G Y ho hd Lq Qg Of hints İ hg low=>?_;have KX:=hY w _ Y;obtain⟨fd,hb,hF⟩:=F w mg fa _ KX G.T.g Qg;exact qy KX G.T.g G.T.b G.T.builtins G.T.nolimit hg Of hints (ð İ Q9) hr low hF hb (λ H hO hS hz=>Ll w H a ns İ hO hS hz) λ H e s'=>S' w H Ĉ e s'
end L2
namespace My
open PySem L2
def bZ (i:Nat):Stmt:=PySem.Challenge.pw_trialdeal_k20_whole_scores_of_other_outc.main.body.getD i (.Pass ⟨0,0,0,0⟩)
end My
namespace My
open PySem
section
variable {prog:Program}{w:World}{A:Around}{h:Heap}{g:Array GenState}{d:Drawn}{tk:Nat}{os:OsState}{C N e t0:Addr}
variable {nm q:Str}{bs bm OC:List Value}{Nd ab:Bool}{sn:List Str}{sub:List Value}{col:Option Bool}{dd:Option Addr}
variable {k0 k1 k2 k3 k5:Option Value}{B newId s_:String}
abbrev gy (C t:Addr):Obj:={ cls:=.ref C,data:=.fields #[.ref t,.none,.none,.none,.bool false,.none] }
theorem xT (F:ExcBaseFacts B newId s_ OC)(T:OwnTail h OC bm)
  (hC:h.get? C=some (excClassObj nm q C N bs bm Nd sn sub ab col dd k0 k1 k2 k3 k5 newId))(he:h.get? e=some (gy C t0))
  (hR:∀ h',h'.get? e=some (gy C h.objs.size)->(∀ b o,b≠e->h.get? b=some o->h'.get? b=some o)->R (.ok (.ret .none)) ⟨h',g,d,tk,os⟩) :
  codeAny (model prog w) A (.call (.builtin s_) ⟨[.ref e,v],[]⟩) R ⟨h,g,d,tk,os⟩:=by
 refine J8 F.init.plain F.initEntry (wpAny_check_init_subT F T hC he rfl ?_)
 wp_walk
 refine hR _ ?_ λ b o hb eb=>?_
 ·exact č _ (Â _ he) rfl
 ·exact(í _ _ _ _ hb).trans (Â _ eb)
end
end My
namespace My
open PySem PySem.W Builtin Builtin.ObjectAttr
section
variable {prog:Program}{w:World}{A:Around}{s:Shared}{K:Frag}{C x:Addr}
theorem vF (X:K.In s.heap)(I:InstAt s.heap x ox C od)
  (hc:clsIn K C=some cd)(hp:refuseLoop (.ref x) "__setattr__" cd.mro=pure ())(Oi:mroIn K C (.type "object")=some true)(ht:takerIn K C name=some none)
  (h:∀ b,wpAny (model prog w) A.in1 (storeInOwnDict (.ref x) (.ref C) (.str name tk) name v b)
   (λ fin s'=>match fin with | .done f=>R (.ok f) s' | .again c'=>c'.quiet=true/\codeAny (model prog w) A c' R s') (λ e s'=>R (.error e) s') s) :
  codeAny (model prog w) A (.call (.builtin "object.__setattr__") ⟨[.ref x,.str name tk,v],[]⟩) R s:=by
 have SF:=PySem.F.store_object;have sub:Looks (model prog w) s.heap (isInstance (.ref x) (.type "object")) true:=I.type.andThen (looks_mroIn X Oi);refine J8 SF.slot.plain SF.entry (@check_slot (model prog w) _ _ s "object.__setattr__" "object" "__setattr__" (.ref x) [.str name tk,v] [] _ SF.kind SF.split sub (SF.args _ _ _) ?_);obtain⟨attr,ha,hr⟩:=Option.bind_eq_some_iff.mp ht;have hm:Looks (model prog w) s.heap (mroOf (.ref C)) cd.mro:=(looks_clsIn X hc).andThen .now;have L3:Looks (model prog w) s.heap (storeTaker? attr) none:=by
  cases attr with
  | none=>exact .now
  | some a =>
   obtain⟨b,hb,e⟩:=Ó.mp hr;refine(looks_takesIn X hb).andThen ?_;cases b
   ·exact .now
   ·cases e
 rw [osa_eq,refuse_eq];refine À (À (I.type.here (À (hm.here ?_))));rw [hp];refine È (À (I.type.here (À ((MT X ha).here (À (L3.here ?_))))));exact h _
end
section
variable {prog:Program}{w:World}{A:Around}{E:eH}{s:Shared}{K:Frag}{C x:Addr}
theorem z8 (X:K.In s.heap)(hx:s.heap.get? x=some ⟨.ref C,none,.fields fs,sl⟩)
  (hs:findIn K (.ref C) "__setattr__" = some (some (.builtin "object.__setattr__")))(hc:clsIn K C=some cd)(hd:cd.hasDict=true)
  (hp:refuseLoop (.ref x) "__setattr__" cd.mro=pure ())(Oi:mroIn K C (.type "object")=some true)(ht:takerIn K C name=some none)
  (h:∀ h' tk,h'.get? x=some ⟨.ref C,some s.heap.objs.size,.fields fs,sl⟩->h'.Ns1 s.heap.objs.size (λ y=>if y=name then some v else none) ->
   (∀ b o,b≠x->s.heap.get? b=some o->h'.get? b=some o)->Q () { s with heap:=h',toks:=tk }):wpAny (model prog w) A (setAttr (.ref x) name v) Q E s:=by
 have J:InstAt s.heap x ⟨.ref C,none,.fields fs,sl⟩ C none:=⟨hx,rfl,rfl,True.intro⟩;refine set_plain X J hs (vF X J hc hp Oi ht λ b=>?_);refine À (È (À (À (wpAny_loadPart hx (À (ť (looks_clsIn X hc) ?_))))));rw [hd];have J4:(s.heap.push { cls:=.type "dict",data:=.dict #[] }).get? x=some ⟨.ref C,none,.fields fs,sl⟩:=Â _ hx;have Uf:=Ð (Å hx);refine À (wpAny_alloc' ?_);refine À (wpAny_update' J4 ?_);refine È ?_;generalize eU:((s.heap.push { cls:=.type "dict",data:=.dict #[] }).update x λ o=>{ cls:=o.cls,dict:=some s.heap.objs.size,data:=o.data,slots:=o.slots }:Heap)=hU;have gd:hU.get? s.heap.objs.size=some { cls:=.type "dict",data:=.dict #[] }:=by
  rw [<- eU];exact(í _ _ _ _ Uf.symm).trans (ů rfl rfl)
 have gx:hU.get? x=some ⟨.ref C,some s.heap.objs.size,.fields fs,sl⟩:=by
  rw [<- eU];exact č _ J4 rfl
 have nd:hU.Ns s.heap.objs.size (λ _=>none):=⟨_,#[],_,gd,rfl,λ e he=>absurd he (by simp),λ _=>rfl⟩
 refine À (È (À (wpAny_nsSet1 (Heap.Ns1.of_empty nd) λ h' OZ K1=>?_)));obtain⟨oD,Zw,Zy,Qf,S0,Mo⟩:=OZ.count (Within.cons name v Within.nil);refine À (wpAny_lookBehind Qf (by
  rw [S0];exact pastItsLine_dict (ð Mo (by rw [û,K7,Ô];omega))) ?_)
 refine È ?_;refine h h' _ ((K1.2 x Uf).trans gx) OZ λ b o hb e=>?_;refine(K1.2 b (Ð (Å e))).trans ?_;rw [<- eU];exact(í _ _ _ _ hb).trans (Â _ e)
end
section
variable {prog:Program}{w:World}{A:Around}{E:eH}{s:Shared}{K:Frag}{C x dx:Addr}
abbrev wp:String:="BaseException.__getattribute__"
end
end My
namespace My
open PySem PySem.W
section
variable {prog:Program}{w:World}{A:Around}{E:eH}{h:Heap}{g:Array GenState}
variable {d:Drawn}{t:Nat}{os:OsState}{nm q:Str}{C N:Addr}{bs bm OC:List Value}{Nd ab:Bool}
variable {sn:List Str}{sub:List Value}{col:Option Bool}{dd:Option Addr}
variable {k0 k1 k2 k3 k5:Option Value}{B newId s_:String}{K:Frag}
abbrev j8 (vs:List Value):Obj:={ cls:=.type "tuple",data:=.seq vs.toArray }
theorem xj (X:K.In h)(F:ExcBaseFacts B newId s_ OC)(T:OwnTail h OC bm)
  (hC:h.get? C=some (excClassObj nm q C N bs bm Nd sn sub ab col dd k0 k1 k2 k3 k5 newId))
  (hi:findIn K (.ref C) "__init__" = some (some (.ref fI)))(SU:typeIn K (.ref fI)=some (.type "function"))
  (hq:wpAny (model prog w) A (call (.ref fI) (.ref (h.objs.size+1)::rest))
   (λ r s'=>r=.none/\Q (.done (.ret (.ref (h.objs.size+1)))) s') E ⟨(h.push (j8 rest)).push (gy C h.objs.size),g,d,t,os⟩)
  (Mh:rest.length<=sizeLine) :
  wpAny (model prog w) A (Builtin.«type.__call__» ⟨.ref C::rest,[]⟩) Q E ⟨h,g,d,t,os⟩:=by
 repeat (first
  | with_reducible refine LJ hC ?_
  | with_reducible refine wpAny_madeBy_exc hC ?_
  | wp_step)
 refine codeAny_call_builtin_code (Code.quiet_builtin _ F.quiet) (wpAny_check_new_subT F T hC ?_);refine codeAny_exc_new_subT F T hC ?_ Mh;show wpAny _ _ _ _ _ _;have up:∀ b o,h.get? b=some o->((h.push (j8 rest)).push (gy C h.objs.size)).get? b=some o :=
  λ b o e=>Â _ (Â _ e)
 have YU:=up _ _ hC;have X1:=X.keeps up;have YF:((h.push (j8 rest)).push (gy C h.objs.size)).get? (h.objs.size+1)=some (gy C h.objs.size):=by heap_get
 have YK:(.ref C::bm).contains (.ref C)=true:=by simp
 repeat (first
  | with_reducible refine LJ YF ?_
  | (with_reducible refine wpAny_isSubtype_exc YU ?_;rw [YK])
  | wp_step)
 refine ť (MT X1 hi) ?_;refine ă (À ?_);refine À (ť (looks_typeIn X1 SU) ?_);rw [â ar];refine È (À (ï hq (λ r s' hr=>?_) λ _ _ x=>x));obtain⟨rfl,hQ⟩:=hr
 wp_walk
 exact hQ
theorem BK (X:K.In h)(F:ExcBaseFacts B newId s_ OC)(T:OwnTail h OC bm)
  (hC:h.get? C=some (excClassObj nm q C N bs bm Nd sn sub ab col dd k0 k1 k2 k3 k5 newId))
  (hi:findIn K (.ref C) "__init__" = some (some (.ref fI)))(SU:typeIn K (.ref fI)=some (.type "function"))
  (hq:wpAny (model prog w) (A.under (.builtin "type.__call__" ⟨.ref C::rest,[]⟩))
   (call (.ref fI) (.ref (h.objs.size+1)::rest)) (λ r s'=>r=.none/\Q (.ref (h.objs.size+1)) s') E ⟨(h.push (j8 rest)).push (gy C h.objs.size),g,d,t,os⟩)
  (Mh:rest.length<=sizeLine):wpAny (model prog w) A (call (.ref C) rest) Q E ⟨h,g,d,t,os⟩:=by
 have f1:=tc_lookup;have f2:=tc_bind (.ref C);have hT:Shared.TypeIs ⟨h,g,d,t,os⟩ (.ref C) "type" :=⟨_,hC,rfl⟩;refine Υ (codeAny_of_tree ?_)
 repeat (any_goals (first
  | assumption
  | with_reducible refine LJ hC ?_
  | wp_step))
 refine⟨rfl,?_⟩;refine codeAny_call_builtin_at (Code.quiet_builtin _ ao) entry_typeCall (wpAny_check_type_call_sub hC ?_);exact xj X F T hC hi SU hq Mh
end
section
variable {prog:Program}{w:World}{A:Around}{E:eH}{s:Shared}{K:Frag}{x C:Addr}{ox:Obj}{od:Option Obj}
theorem tH (hc:(clsIn K C).isSome=true)(ha:findIn K (.ref C) name=some (some a))(hg:specialIn K a "__get__" = some (some g))(ht:takesIn K a=some true):findObj K C od name=some (.bind g a):=by
 obtain⟨cd,hc⟩:=ĭ.mp hc;unfold findObj;rw [hc,Ko,ha,Ko];simp [hg,ht]
theorem ur (X:K.In s.heap)(I:InstAt s.heap x ox C od)
  (Oi:mroIn K C (.type "BaseException")=some true)(hf:findObj K C od name=some (.bind g a))
  (h:wpAny (model prog w) A.in1 (call g [a,.ref x,.ref C]) (λ v s'=>R (.ok (.ret v)) s') (λ e s'=>R (.error e) s') s) :
  codeAny (model prog w) A (.call (.builtin wp) ⟨[.ref x,.str name tk],[]⟩) R s:=by
 have sub:Looks (model prog w) s.heap (isInstance (.ref x) (.type "BaseException")) true:=I.type.andThen (looks_mroIn X Oi);have L1:=looks_find (M:=model prog w) X I hf;refine J8 LL.ga.plain PySem.F.entry_bexc_ga (@check_slot (model prog w) _ _ s wp "BaseException" "__getattribute__" (.ref x) [.str name tk] [] _ ao ao sub (PySem.F.args_bexc_ga _ _) ?_);refine À (È (À (È (À (I.type.here (À (L1.here ?_)))))));exact À (ă (ï h (λ v s' z=>È z) λ _ _ z=>z))
structure pX (K:Frag)(C:Addr):Prop where
 cls:(clsIn K C).isSome=true
 ga:findIn K (.ref C) "__getattribute__" = some (some (.builtin wp))
 hk:findIn K (.ref C) "__getattr__" = some none
 mb:mroIn K C (.type "BaseException")=some true
 mo:mroIn K C (.type "object")=some true
 ca:findIn K (.ref C) "__class__" = some (some (.builtin "object.__class__"))
theorem sL (T:pX K C)(hn:specialIn K (.builtin "object.__class__") "__get__" = some (some (.builtin "getset_descriptor.__get__")))(Kg:takesIn K (.builtin "object.__class__")=some true)
  (X:K.In s.heap)(I:InstAt s.heap x ox C od)(h:Q (some (.ref C)) { s with toks:=s.toks+1 }):wpAny (model prog w) A (getAttr? (.ref x) "__class__") Q E s:=by
 have hf:findObj K C od "__class__" = some (.bind (.builtin "getset_descriptor.__get__") (.builtin "object.__class__")):=tH T.cls T.ca hn Kg;have L0:=I.type (M:=model prog w);have L1:=MT (M:=model prog w) X T.ga;have L2:=MT (M:=model prog w) X T.hk;have f3:=LL.ga.bind (.ref x);unfold getAttr? getAttrBy? getAttrBy;refine À (wpAny_mkText (À (ſ (ă (À (ť (s:={ s with toks:=s.toks+1 }) L0 (À (ť (s:={ s with toks:=s.toks+1 }) L1 ?_))))))))
 have J4:(onTheHeap (Value.ref C)&&Value.builtin wp==Value.builtin "object.__getattribute__")=false:=by
  rw [show(Value.builtin wp==Value.builtin "object.__getattribute__")=false from by decide +kernel]
  rfl
 show wpAny _ _ (if(onTheHeap (Value.ref C)&&Value.builtin wp==Value.builtin "object.__getattribute__")=true then _ else _) _ _ _
 rw [Ü (by rw [J4];decide)]
 unfold getAttrByItsOwn;refine À ?_;show wpAny _ _ (typeLookup (.ref C) "__getattr__") _ _ _;refine ť (s:={ s with toks:=s.toks+1 }) L2 ?_
 refine À (ſ (ă ?_));unfold callGetattribute;rw [Ü ar];unfold boundAndCalled;rw [f3];refine À (È ?_);refine Υ (ur X I T.mb hf ?_);refine Υ (class_get X I T.mo ?_);show wpAny _ _ (handedOut (.ref C)) _ _ _;rw [handedOut_of rfl];exact È (È h)
theorem qX (T:pX K C)(hn:specialIn K (.builtin "object.__class__") "__get__" = some (some (.builtin "getset_descriptor.__get__")))(Kg:takesIn K (.builtin "object.__class__")=some true) :
  KitX K (.ref x) (.ref C) (λ h=>∃ ox od,InstAt h x ox C od) where
 ty:=λ _ _ _ ⟨_,_,I⟩=>I.type
 it:=λ _ _ X _=>by
  obtain⟨Z0,Mo⟩:=ĭ.mp T.cls;unfold clsIn at Mo;split at Mo
  ·rename_i c' d' Z1 RF ho
   intro A' Q' E' s' k q;unfold isType loadHead;exact À (wpAny_loadPart (k _ _ (X _ _ ho)) (È q))
  ·cases Mo
 ne:=λ h tp dd its n sl X Lj=>by
  obtain⟨Z0,Mo⟩:=ĭ.mp T.cls;refine Bool.eq_false_iff.mpr λ q=>?_;have e:=Value.ref.inj (Ā.mp q);subst e;unfold clsIn at Mo;split at Mo
  ·rename_i c' d' Z1 RF ho
   have z:=(X _ _ ho).symm.trans Lj;cases z
  ·cases Mo
 ca:=λ X ⟨_,_,I⟩ k=>sL T hn Kg X I k
end
end My
namespace My
open PySem PySem.W L2
abbrev qE:List Value:=[.type "ValueError",.type "Exception",.type "BaseException",.type "object"]
abbrev lV (C:Addr)(d:Option Addr)(t:Addr):Obj:={ cls:=.ref C,dict:=d,data:=.fields #[.ref t,.none,.none,.none,.bool false,.none] }
def dQ (x C:Addr)(d:Option Addr):HO:=.ext λ h=>∃ t,h.get? x=some (lV C d t)
theorem j6 (e:h.get? x=some (lV C d t)):þ P w H h x (dQ x C d) :=
 ⟨⟨t,e⟩,⟨_,e⟩,λ _ _ ⟨t',e'⟩ k=>⟨t',k _ e'⟩⟩
theorem gB (ok:Ι P w H h)(e:H x=some (dQ x C d)):∃ t,h.get? x=some (lV C d t):=(ok x _ e).1
theorem tf (h:H a=some o):af H a o=H:=by
 funext b
 unfold af;split
 ·rename_i e;rw [e,h]
 ·rfl
structure Ł (K:Frag)(D:Addr):Prop where
 cls:∃ nm q N bs sn sub ab col dd k0 k1 k2 k3 k5,K.lookup D=some (excClassObj nm q D N bs qE true sn sub ab col dd k0 k1 k2 k3 k5 "ValueError.__new__") /\
    ∃ o es ep,K.lookup N=some o/\o.data=.dict es ep/\StrKeys es/\nsFind es "__init__" = none
 ga:specialIn K (.ref D) "__getattribute__" = some (some (.builtin "type.__getattribute__"))
 reads:readsIn K D (.type "type")=true
 Qa:findCls K (.ref D) (.type "type") "__init__" = some (.val (.builtin "ValueError.__init__"))
 fi:findIn K (.ref D) "__init__" = some (some (.builtin "ValueError.__init__"))
 kp:keepIn K (.ref D)=true
 it:pX K D
theorem Ł.tail (B:Ł K D)(X:K.In h):OwnTail h qE (.ref D::qE):=by
 obtain⟨nm,q,N,bs,sn,sub,ab,col,dd,k0,k1,k2,k3,k5,l,o,es,ep,lN,hd,hs,hn⟩:=B.cls;exact .own (X _ _ l) ⟨o,es,ep,X _ _ lN,hd,hs,λ _=>rfl⟩ hn .base
structure ř (K:Frag)(D:Addr)(nm:Str)(C f:Addr):Prop where
 cls:∃ q N bs sn sub ab col dd k0 k1 k2 k3 k5,K.lookup C=some (excClassObj nm q C N bs (.ref D::qE) true sn sub ab col dd k0 k1 k2 k3 k5 "ValueError.__new__")
 init:findIn K (.ref C) "__init__" = some (some (.ref f))
 fn:typeIn K (.ref f)=some (.type "function")
 kp:keepIn K (.ref C)=true
 sa:findIn K (.ref C) "__setattr__" = some (some (.builtin "object.__setattr__"))
 it:pX K C
theorem ř.clsIn (T:ř K D nm C f):∃ cd,PySem.W.clsIn K C=some cd/\cd.hasDict=true/\cd.mro=.ref C :: .ref D::qE:=by
 obtain⟨q,N,bs,sn,sub,ab,col,dd,k0,k1,k2,k3,k5,l⟩:=T.cls;unfold PySem.W.clsIn;rw [l];exact⟨_,rfl,rfl,rfl⟩
theorem ř.refuse (T:ř K D nm C f)(x:Addr):∃ cd,PySem.W.clsIn K C=some cd/\cd.hasDict=true/\refuseLoop (.ref x) "__setattr__" cd.mro=pure ():=by
 obtain⟨cd,h1,h2,h3⟩:=T.clsIn;refine⟨cd,h1,h2,?_⟩;rw [h3,refuseLoop_ref,refuseLoop_ref];exact PySem.F.store_ValueError.passes _
section
variable {X:Cx}{Ä:List (Addr × Obj)}{σ:St}{H:Hp}{s:Shared}
def lQ (C:Addr)(fld:Str):Sp:=λ vs H Q _=>∃ x v,vs=[.ref x,v]/\H x=some (dQ x C none)/\∀ dx,H dx=none->dx≠x->Q .ą (af (af H dx (.xd [(fld,v)])) x (dQ x C (some dx)))
def D9 (C:Addr)(fld:Str)(te:TE):TE:=λ σ H Q=>te σ H λ v H1=>∀ x dx,H1 x=none->H1 dx=none->dx≠x->Q (.ref x) (af (af H1 dx (.xd [(fld,v)])) x (dQ x C (some dx)))
theorem GY (n:dx≠x):af (af (af H x a) dx b) x c=af (af H dx b) x c:=by
 funext z
 unfold af;by_cases h1:z=x
 ·rw [â h1,â h1]
 ·rw [Ü h1,Ü h1];by_cases h2:z=dx
  ·rw [â h2,Ü h1]
  ·rw [Ü h2,Ü h1]
theorem tR {nm fld:Str}(B:Ł X.K D)(T:ř X.K D nm C f)(F:Þ X.prog X.w X.K X.mg X.base ay k f fd ps (lQ C fld))(hr:ó (k+1) X.A)(hb:Binds X.K fd ps [])
  (I:Inv X Ä σ H s)(r:RelV v u)(h:∀ x dx,H x=none->H dx=none->dx≠x->Q (.ref x) (af (af H dx (.xd [(fld,v)])) x (dQ x C (some dx)))) :
  wpAny (model X.prog X.w) X.A (call (.ref C) [u]) (EP X Ä σ Q) X.xe s:=by
 obtain⟨hp,g,dr,tk,os⟩:=s;obtain⟨q,N,bs,sn,sub,ab,col,dd,k0,k1,k2,k3,k5,l⟩:=T.cls;refine BK (C:=C) I.Ō LK (B.tail I.Ō) (I.Ō _ _ l) T.init T.fn ?_ (by rw [û,K7,Ô];omega)
 have f0:H hp.objs.size=none:=I.fresh;have I1:Inv X Ä σ H ⟨hp.push (j8 [u]),g,dr,tk,os⟩:=I.kept (h':=hp.push (j8 [u])) (t':=tk) λ b o e=>Â _ e;have sz:(hp.push (j8 [u])).objs.size=hp.objs.size+1:=ñ _ _;have fx:H (hp.objs.size+1)=none:=by rw [<- sz];exact I1.fresh
 have I2:Inv X Ä σ (af H (hp.objs.size+1) (dQ (hp.objs.size+1) C none)) ⟨(hp.push (j8 [u])).push (gy C hp.objs.size),g,dr,tk,os⟩ :=
  I1.laid (λ b o e=>Â _ e) (ι sz)
   (j6 (ů sz.symm rfl))
 generalize (⟨(hp.push (j8 [u])).push (gy C hp.objs.size),g,dr,tk,os⟩:Shared)=s2 at I2 ⊢;generalize hp.objs.size+1=x at fx I2 ⊢;have r2:Vals [V.ref x,v] [Value.ref x,u]:=.cons rfl (.cons r .nil);have Ll:lQ C fld [V.ref x,v] (af H x (dQ x C none)) (λ y H2=>y=.ą/\Q (.ref x) H2) E0 :=
  ⟨x,v,rfl,aO,λ dx hd nd=>⟨rfl,by
   rw [GY nd];rw [ah nd] at hd;exact h x dx fx hd nd⟩⟩
 have hl:([.ref x,u] ++ []:List Value).length=ps.length:=by
  rw [Ę,<- r2.length];exact F.len _ _ _ _ Ll
 have Ut:=hb s2 [.ref x,u] I2.Ō hl;rw [Ę] at Ut;refine Υ (ū (F.run _ X.stack s2 _ ⟨[.ref x,u],[]⟩ [.ref x,u] _ _ E0 (hr.make C [u] []) (I2.OA.make C [u] []) Ut r2 Ll) λ r s' Mi=>?_);cases r with
 | error e=>exact False.elim Mi
 | ok fl =>
  cases fl with
  | ret u' =>
   obtain⟨y,H',I3,ry,ey,q3⟩:=I2.after Mi;subst ey;exact⟨ry,.ref x,H',I3,rfl,q3⟩
  | next=>exact False.elim Mi
  | brk=>exact False.elim Mi
  | cont=>exact False.elim Mi
end
def Aq (h:Heap)(e:Addr)(vs:Array Value):Prop:=vs[1]?=some .none\/∃ T oT ts,vs[1]?=some (.ref T)/\T≠e/\h.get? T=some oT/\oT.data=.fields ts/\ts[3]?=some .none
structure y_ (fr:List Addr)(e T:Addr)(oe:Obj)(h h':Heap)(r:Value):Prop where
 keep:∀ b o,b≠e->b ∉ fr->h.get? b=some o->h'.get? b=some o
 slot:∀ b o,b≠e->h.get? b=some o->∃ sl,h'.get? b=some { o with slots:=sl }
 new:h.objs.size<=T
 exc:h'.get? e=some (oe.mapFields (λ x=>x.setIfInBounds 1 (.ref T)))
 Rz:∃ oT ts,h'.get? T=some oT/\oT.data=.fields ts/\ts[3]?=some r/\T≠e
theorem sD {vs:Array Value}(h:vs[i]?=some v):vs.setIfInBounds i v=vs:=by
 obtain⟨hi,e⟩:=ā.mp h;apply Array.ext
 ·simp
 ·intro j h1 h2;simp only [Array.size_setIfInBounds] at h1;rw [Array.getElem_setIfInBounds h1];split
  ·rename_i z;subst z;exact e.symm
  ·rfl
theorem uV {o:Obj}(hd:o.data=.fields vs)(f:Array Value->Array Value):o.mapFields f={ o with data:=.fields (f vs) }:=by
 obtain⟨c,d,dt,sl⟩:=o;have e:=hd;subst e;rfl
theorem km (hl:vs.length<=sizeLine+2)
  (q:Q (.ref s.heap.objs.size) { s with heap:=s.heap.push { cls:=.type c,data:=.fields vs.toArray } }):wpAny M A (newFields c vs) Q E s:=by
 refine ń (Í (by rw [Û];omega)) ?_
 exact À (wpAny_alloc (È q))
theorem pV (h:IsPlace pl):pl.length<=6:=by
 rcases h with rfl | ⟨a,b,c,d,c9,b10,_,rfl⟩
 ·decide
 ·exact Ç _
section
variable {M:Model}{A:Around}{E:eH}{s:Shared}{base:Heap}{env:Env}{outer:List Env}{L e:Addr}{oe:Obj}{vs:Array Value}{Q:Unit->Shared->Prop}
theorem oM (hA:A.frames=some (env::outer))(hF:s.heap.FunFrames base (env::outer))(hL:env.frame=some L)(he:s.heap.get? e=some oe)(hd:oe.data=.fields vs)(h1:1<vs.size)
  (q:∀ h' T,y_ (kC (env::outer)) e T oe s.heap h' (rawInt ↑L)->Q () { s with heap:=h' }) :
  wpAny M A (do
   let a <- frameOf env
   let pl <- entryPlaceOf L hn
   let b <- EntryCells.newEntry head a .none (rawInt ↑L) .none pl
   setField (.ref e) 1 b) Q E s:=by
 have Q0:e ∉ kC (env::outer):=λ z=>by
  obtain⟨_,o,ho,hn⟩:=hF.mem z;rw [he] at ho;cases ho;exact hn vs hd
 refine À (wpAny_frameOf_fun hA hF hL λ h1' so=>?_);refine À (wpAny_entryPlaceOf λ pl Ρ=>?_);refine À ?_;refine km ?_ ?_
 ·have:=pV Ρ;have b:100<=sizeLine:=ar;rw [É];split
  ·rw [Ù];show 5+6<=_;omega
  ·show 5+pl.length<=_;omega
 have e1:h1'.get? e=some oe:=by rw [so.2.1 e Q0];exact he
 have lt:=Å e1;generalize Uk:({ cls:=.type "traceback",data:=.fields ([head,.ref L,.none,rawInt ↑L,.none]++if pl.isEmpty=true then List.replicate 6 .none else pl).toArray }:Obj)=ob
 have e2:(h1'.push ob).get? e=some oe:=Â _ e1;refine J7 e2 hd h1 ?_;refine q _ h1'.objs.size ⟨λ b o nb nf hb=>?_,λ b o nb hb=>?_,ι so.1.symm,?_,?_⟩
 ·rw [í _ _ _ _ nb];exact Â _ (by rw [so.2.1 b nf];exact hb)
 ·obtain⟨sl,z⟩:=so.2.2 b o hb;exact⟨sl,by rw [í _ _ _ _ nb];exact Â _ z⟩
 ·exact č _ e2 (by rw [uV hd];rfl)
 ·have nT:=Ne.symm (Ð lt);refine⟨ob,_,?_,by rw [<- Uk],?_,nT⟩
  ·rw [í _ _ _ _ nT];exact ů rfl (by rw [<- Uk];rfl)
  ·rfl
theorem on (hA:A.frames=some (env::outer))(hF:s.heap.FunFrames base (env::outer))(hL:env.frame=some L)(he:s.heap.get? e=some oe)(hd:oe.data=.fields vs)(hv:Aq s.heap e vs)
  (q:∀ h' T,y_ (kC (env::outer)) e T oe s.heap h' (rawInt ↑L)->Q () { s with heap:=h' }):wpAny M A (noteFrame (.ref e) env) Q E s:=by
 unfold noteFrame;rw [hL];rcases hv with hv | ⟨T,oT,ts,hv,nT,hT,Nf,h3⟩
 ·have h1:=(ā.mp hv).1;refine À (ù he hd hv ?_);refine ń rfl ?_;exact oM hA hF hL he hd h1 q
 ·have h1:=(ā.mp hv).1;have Re:=(ā.mp h3).1;refine À (ù he hd hv ?_);refine wpAny_ite_true rfl ?_;refine À (ù hT Nf h3 ?_);refine ń rfl ?_;refine À (J7 hT Nf Re ?_);have g:∀ b,(s.heap.update T (Obj.mapFields λ x=>x.setIfInBounds 3 Value.none)).get? b=s.heap.get? b:=λ b=>by
   by_cases z:b=T
   ·subst z;rw [č _ hT (by rw [uV Nf];rfl),hT,uV Nf,sD h3,<- Nf]
   ·exact í _ _ _ _ z
  have sz:(s.heap.update T (Obj.mapFields λ x=>x.setIfInBounds 3 Value.none)).objs.size=s.heap.objs.size:=MY _ _ _;generalize s.heap.update T (Obj.mapFields λ x=>x.setIfInBounds 3 .none)=h0 at g sz;have YS:=Heap.FunFrames.of_keeps (λ b o hb _=>⟨o,by rw [g];exact hb,rfl⟩) hF
  refine oM hA YS hL (by show h0.get? e=_;rw [g];exact he) hd h1 λ h' T' x=>?_
  exact q h' T' ⟨λ b o nb nf hb=>x.keep b o nb nf (by show h0.get? b=_;rw [g];exact hb),λ b o nb hb=>x.slot b o nb (by show h0.get? b=_;rw [g];exact hb),by rw [<- sz];exact x.new,x.exc,x.Rz⟩
theorem y_.Oy (x:y_ fr e T oe h h' r)(hd:oe.data=.fields vs)(h1:1<vs.size)(s':Shared)(es:s'.heap=h')
  (q:∀ h2,y_ fr e T oe h h2 .none->Q () { s' with heap:=h2 }):wpAny M A (setFlight (.ref e) none) Q E s':=by
 subst es;obtain⟨oT,ts,hT,Nf,h3,nT⟩:=x.Rz;have Re:=(ā.mp h3).1;have e1:(oe.mapFields (λ x=>x.setIfInBounds 1 (.ref T))).data=.fields (vs.setIfInBounds 1 (.ref T)):=K4 hd _;have e2:(vs.setIfInBounds 1 (.ref T))[1]?=some (.ref T):=by simp [h1]
 refine wpAny_setFlight_none x.exc e1 e2 hT Nf Re (q _ ⟨λ b o nb nf hb=>?_,λ b o nb hb=>?_,x.new,?_,?_⟩)
 ·have z:=x.keep b o nb nf hb;rw [í _ _ _ _ (λ w=>?_)]
  ·exact z
  ·rw [w] at hb;exact absurd (æ (Å hb) x.new) (Į _)
 ·obtain⟨sl,z⟩:=x.slot b o nb hb;refine⟨sl,?_⟩;rw [í _ _ _ _ (λ w=>?_)]
  ·exact z
  ·rw [w] at hb;exact absurd (æ (Å hb) x.new) (Į _)
 ·rw [í _ _ _ _ nT.symm];exact x.exc
 ·refine⟨_,_,č _ hT (by rw [uV Nf];rfl),K4 Nf _,?_,nT⟩
  simp [Re]
theorem kF (hA:A.frames=some (env::outer))(hF:s.heap.FunFrames base (env::outer))(hL:env.frame=some L)(he:s.heap.get? e=some oe)(hd:oe.data=.fields vs)(hv:Aq s.heap e vs)
  (q:∀ h' T,y_ (kC (env::outer)) e T oe s.heap h' .none->Q () { s with heap:=h' }):wpAny M A (leaving env (.ref e)) Q E s:=by
 have h1:1<vs.size:=by
  rcases hv with hv | ⟨T,oT,ts,hv,_⟩
  ·exact(ā.mp hv).1
  ·exact(ā.mp hv).1
 exact À (on hA hF hL he hd hv λ h' T x=>x.Oy hd h1 _ rfl λ h2 x2=>q h2 T x2)
end
def one (P:V->Hp->Prop)(vs:List V)(H:Hp):Prop:=match vs with
 | [v]=>P v H
 | _=>False
theorem zg (h:one P vs H):∃ v,vs=[v]/\P v H:=by
 cases vs with
 | nil=>exact h.elim
 | cons v r =>
  cases r with
  | nil=>exact⟨v,rfl,h⟩
  | cons _ _=>exact h.elim
def two (P:V->V->Hp->Prop)(vs:List V)(H:Hp):Prop:=match vs with
 | [v,u]=>P v u H
 | _=>False
theorem wS (h:two P vs H):∃ v u,vs=[v,u]/\P v u H:=by
 match vs,h with
 | [v,u],h=>exact⟨v,u,rfl,h⟩
section
variable {X:Cx}{Ä:List (Addr × Obj)}{σ:St}{H:Hp}{s:Shared}
theorem yR {nm fld x:Str}(B:Ł X.K D)(T:ř X.K D nm C f)(F:Þ X.prog X.w X.K X.mg X.base ay k f fd ps (lQ C fld))(hr:ó (k+1) X.A)(hb:Binds X.K fd ps [])
  (hg:Gl X x)(hm:X.mg x=some (.ref C))(ha:PE X e te)(JX:(x==("__debug__" : Str))=false:=by decide)(he:starEach [e] X.env=(false,eval e X.env)::starEach [] X.env:=by rfl) (Ρ:(backTo ø (starEach [] X.env)).any (·.1)=false:=by rfl) :
  PE X (.Call (.Name x p) [e] [] ø) (D9 C fld te):=by
 intro Ä s σ H Q I h;refine Ī (ff I hg hm ?_ JX);have pa:=ac ha au he;have h':av te aJ σ H (one λ v H1=>∀ x dx,H1 x=none->H1 dx=none->dx≠x->Q (.ref x) (af (af H1 dx (.xd [(fld,v)])) x (dQ x C (some dx)))):=h;refine Œ I.ok.mod.N' T.kp (aV (pa ø Ä s σ H _ I h') λ us s1 ⟨vs,H1,I1,r,q⟩=>⟨I1.Ō,?_⟩) he Ρ;obtain⟨v,rfl,q⟩:=zg q;obtain⟨u,rfl,ru⟩:=dO r;exact tR B T F hr hb I1 ru q
def Ip (ts tt:TE)(C:Addr):TE:=λ σ H Q=>ts σ H λ x H1=>tt σ H1 λ v H2=>∃ a,x=.ref a/\H2 a=some (dQ a C none)/\Q .ą H2
theorem bN (B:Ł X.K D)(T:ř X.K D nm C f)(hg:Gl X x)(hm:X.mg x=some (.ref D))(hs:PE X o ts)(ht:PE X e tt)(JX:(x==("__debug__" : Str))=false:=by decide)
  (MK:starEach [o,e] X.env=(false,eval o X.env)::starEach [e] X.env:=by rfl)(SA:starEach [e] X.env=(false,eval e X.env)::starEach [] X.env:=by rfl) (Ρ:(backTo ø (starEach [e] X.env)).any (·.1)=false:=by rfl)
  (Sw:eval (.Call (.Attribute (.Name x p) "__init__" ũ) [o,e] [] ø) X.env=(do
   let ov <- eval (.Name x p) X.env
   standAt ũ.atName
   let (f,first) <- holding [ov] (getMethod ov "__init__" pl)
   callWith ø f first (backTo ø (starEach [o,e] X.env)) (backToKw ø (keywordEach [] X.env))):=by rfl) :
  PE X (.Call (.Attribute (.Name x p) "__init__" ũ) [o,e] [] ø) (Ip ts tt C):=by
 intro Ä s σ H Q I h;refine Š (pl:=pl) (ff I hg hm ?_ JX) Sw;refine method_cls I.Ō B.ga (cls_value I.Ō B.reads B.Qa rfl ?_);have I0:Inv X Ä σ H { s with toks:=s.toks+1 }:=I.tok _
 have pa:=ac hs (ac ht au SA) MK;have h':av ts (av tt aJ) σ H (two λ x v H2=>∃ a,x=.ref a/\H2 a=some (dQ a C none)/\Q .ą H2):=h;refine Kn (aV (pa ø Ä _ σ H _ I0 h') λ us s1 ⟨vs,H1,I1,r,q⟩=>?_) MK Ρ;obtain⟨_,v,rfl,a,rfl,ha,q⟩:=wS q;obtain⟨u,u',rfl,ru,Ny⟩:=iL r;cases (show u=.ref a from ru);obtain⟨t0,hx⟩:=gB I1.Đ ha;obtain⟨q',N,bs,sn,sub,ab,col,dd,k0,k1,k2,k3,k5,l⟩:=T.cls;obtain⟨hp,g,dr,tk,os⟩:=s1;refine Υ (xT LK (B.tail I1.Ō) (I1.Ō _ _ l) hx λ h' Li hk=>?_);have I2:Inv X Ä σ (af H1 a (dQ a C none)) ⟨h',g,dr,tk,os⟩:=I1.write (by rw [ha];exact True.intro) (.inl rfl) (λ b o hb e=>hk b o hb e) ⟨_,Li⟩ (j6 Li)
 rw [tf ha] at I2;exact⟨.ą,H1,I2,rfl,q⟩
def Dp (K:Frag)(C:Addr)(ta tv:TE)(f:Str):TS:=λ D σ H=>tv σ H λ y H1=>ta σ H1 λ x H2=>∃ a,x=.ref a/\H2 a=some (dQ a C none)/\takerIn K C f=some none/\∀ dx,H2 dx=none->dx≠a->D.nx σ (af (af H2 dx (.xd [(f,y)])) a (dQ a C (some dx)))
theorem eV (T:ř X.K D nm C fI)(ha:PE X o ta)(hv:PE X value tv)(hs:swapsWith value (some (.Attribute o f pos')) ø.line X.env=pure false) :
  PS X (.Assign [.Attribute o f pos'] value ø) (Dp X.K C ta tv f):=by
 intro Ä s σ H D' I h;refine MF (aV (hv Ä s σ H _ I h) λ u s1 ⟨y,H1,I1,ry,q⟩=>aV (ha Ä s1 σ H1 _ I1 q) λ ov s2 ⟨x,H2,I2,rx,a,ex,ea,tk,q2⟩=>?_) hs;subst ex;obtain rfl:ov=.ref a:=rx;obtain⟨t0,hx⟩:=gB I2.Đ ea;obtain⟨cd,hc,hd,hp⟩:=T.refuse a;refine z8 I2.Ō hx T.sa hc hd hp T.it.mo tk λ h' Xi Li OZ hk=>?_;have fr:=I2.fresh;have nz:s2.heap.objs.size≠a:=λ z=>by rw [<- z,fr] at ea;cases ea
 obtain⟨oD,es,ep,Qf,rD⟩:=id OZ;have nf:=Obj.isFreed_of_dict rD.1;have I3:Inv X Ä σ (af H2 s2.heap.objs.size (.xd [(f,y)])) { s2 with heap:=s2.heap.push oD,toks:=s2.toks }:=by
  refine I2.laid (λ b o e=>Â _ e) (Ç _) ⟨_,⟨oD,es,ep,ů rfl nf,rD⟩,λ g=>?_⟩;by_cases e:g=f
  ·subst e;rw [â rfl,List.lookup_cons_self];exact ry
  ·rw [Ü e,é,ã.mpr e];exact True.intro
 have ZA:af H2 s2.heap.objs.size (.xd [(f,y)]) a=some (dQ a C none):=by rw [ah nz.symm];exact ea
 have I4:Inv X Ä σ (af (af H2 s2.heap.objs.size (.xd [(f,y)])) a (dQ a C (some s2.heap.objs.size))) { s2 with heap:=h',toks:=Xi }:=by
  refine I3.write (by rw [ZA];exact True.intro) (.inl rfl) (λ b o hb e=>?_) ⟨_,Li⟩ (j6 Li)
  by_cases z:b=s2.heap.objs.size
  ·subst z;have e':=e;rw [ů rfl nf] at e';cases e';exact Qf
  ·have e':=e;exact hk b o hb (by rw [<- Heap.get?_push_ne _ _ oD z];exact e')
 exact⟨σ,_,I4,q2 _ fr nz⟩
end
section
variable {X:Cx}{Ä:List (Addr × Obj)}{σ:St}{H:Hp}{s:Shared}
theorem kU (ok:Ι P w H h)(ea:H a=some (dQ a C (some dx)))(ed:H dx=some (.xd fs)) :
  ∃(ox od:Obj),InstAt h a ox C (some od)/\∃ mA:Str->Option Value,(∀ f,ε (fs.lookup f) (mA f))/\∀ name,lookIn name od=some (mA name):=by
 obtain⟨t,hx⟩:=gB ok ea;obtain⟨mA,hn,hr⟩:=(show þ P w H h dx (.xd fs) from ok dx _ ed);obtain⟨od,Yl,hl⟩:=jr hn;exact⟨_,od,⟨hx,rfl,rfl,Yl⟩,mA,hr,hl⟩
structure rX (K:Frag):Prop where
 gt:specialIn K (.builtin "object.__class__") "__get__" = some (some (.builtin "getset_descriptor.__get__"))
 tk:takesIn K (.builtin "object.__class__")=some true
def JH (H:Hp)(a C:Addr):Prop:=H a=some (dQ a C none)\/∃ dx fs,H a=some (dQ a C (some dx))/\H dx=some (.xd fs)
theorem JH.inst (E:JH H a C)(ok:Ι P w H h):∃ ox od,InstAt h a ox C od:=by
 rcases E with e | ⟨dx,fs,ea,ed⟩
 ·obtain⟨t,hx⟩:=gB ok e;exact⟨_,none,⟨hx,rfl,rfl,True.intro⟩⟩
 ·obtain⟨ox,od,J,_⟩:=kU ok ea ed;exact⟨ox,some od,J⟩
end
end My
namespace My
open PySem PySem.W L2
open PyProof.Rows (AllBare)
abbrev qr (C:Addr)(d:Option Addr)(t:Addr)(v:Value):Obj:={ cls:=.ref C,dict:=d,data:=.fields #[.ref t,v,.none,.none,.bool false,.none] }
def nF (x C:Addr)(d:Option Addr):HO:=.ext λ h=>∃ t v,h.get? x=some (qr C d t v)
theorem ui (e:h.get? x=some (qr C d t v)):þ P w H h x (nF x C d) :=
 ⟨⟨t,v,e⟩,⟨_,e⟩,λ _ _ ⟨t',v',e'⟩ k=>⟨t',v',k _ e'⟩⟩
def Jc (n:Nat)(H:Hp)(h:Heap)(x C:Addr)(d:Option Addr):Prop:=∃ t T oT ts,h.get? x=some (qr C d t (.ref T))/\T≠x/\n<=T/\H T=none/\h.get? T=some oT/\oT.data=.fields ts/\ts[3]?=some Value.none
def cy (P:Program)(w:World):kD:=λ outer H s E e s'=>∃ x C dx fs H',e=.ref x/\s'.os=s.os/\AllBare s'.gens/\Un (kC outer) [] H H' s.heap s'.heap/\Ι P w H' s'.heap/\H' x=some (nF x C (some dx))/\H' dx=some (.xd fs)/\Jc s.heap.objs.size H' s'.heap x C (some dx)/\E (.ref C) (some x) H'
section
variable {X:Cx}{Ä:List (Addr × Obj)}{σ:St}{H:Hp}{s:Shared}
theorem Inv.left (I:Inv X Ä σ H s)(hS:X.stack=X.env::X.outer)(hx:H x=some o)(ho:(∃ φ,o=.ext φ))(he:s.heap.get? x=some (qr C d t v))
  (l:y_ (kC (X.env::X.outer)) x T (qr C d t v) s.heap h' r):Inv X Ä σ (af H x (nF x C d)) { s with heap:=h' }:=by
 obtain⟨φ,rfl⟩:=ho;have nx:∀ b u,H b=some u->(∀ φ,u ≠ .ext φ)->b≠x:=λ b u e n z=>by
  subst z;rw [hx] at e;exact n φ (Ý e).symm
 have Zk:=λ b hb=>I.j' b (by rw [hS];exact hb)
 have Q0:∀ b u,H b=some u->b ∉ kC (X.env::X.outer):=λ b u e z=>by rw [Zk b z] at e;cases e
 have exc:=l.exc;have sub:=λ b hb=>á.mp (I.Ŧ b (by rw [hS];exact hb))
 refine I.step (ch:=[]) (λ _ z=>nomatch z) (λ b o hL hf _ e n=>?_) (λ b o hL hf _ e n=>?_) (λ b o _ e n=>?_) (λ b o _ e=>?_) (λ b xs e=>?_) (λ b o u e=>?_) (λ b ps e=>⟨#[],?_⟩) (λ e=>?_) (λ m hm=>?_) (λ b u e=>?_) I.bare
 ·refine l.keep b o (λ z=>by rw [z,hx] at n;cases n) (λ z=>?_) e
  rcases sub b z with q | q
  ·exact hL q
  ·exact hf q
 ·exact l.slot b o (λ z=>by rw [z,hx] at n;cases n) e
 ·rw [ah (λ z=>by rw [z,hx] at n;cases n)];exact n
 ·by_cases z:b=x
  ·subst z;exact⟨_,exc⟩
  ·obtain⟨sl,q⟩:=l.slot b o z e;exact⟨_,q⟩
 ·rw [ah (nx b _ e λ _=>by intro z;cases z)];exact e
 ·rw [ah (nx b _ e λ _=>by intro z;cases z)];exact e
 ·rw [ah (nx b _ e λ _=>by intro z;cases z),e];simp
 ·rw [ah (λ z=>by rw [z,hx] at e;cases e)];exact e
 ·obtain⟨o,es,ep,ho,r⟩:=hm;obtain⟨sl,q⟩:=l.slot _ o (λ z=>by have:=I.free;rw [z,hx] at this;cases this) ho
  exact⟨_,es,ep,q,r⟩
 ·by_cases z:b=x
  ·subst z;rw [aO] at e;cases e;exact ui exc
  ·rw [ah z] at e;refine(I.Đ b u e).d_ (λ c o' hc q=>?_) (λ c q=>?_) λ c xs q=>?_
   ·rcases hc with rfl | hc
    ·exact l.keep c o' z (Q0 c u e) q
    ·exact l.keep c o' (nx c _ hc λ _=>by intro w;cases w) (Q0 c _ hc) q
   ·rw [ah (nx c _ q λ _=>by intro w;cases w)];exact q
   ·rw [ah (nx c _ q λ _=>by intro w;cases w)];exact q
end
section
variable {P:Program}{w:World}{K:Frag}{mg:bL}{base:Heap}{N:List Str}{qual:Str}{scope:Scope}{f:Addr}{cd:Value}{A:Around}{outer:List Env}{s0:Shared}{H0:Hp}{E:XK}{Ä:List (Addr × Obj)}{σ:St}{H:Hp}{s:Shared}
theorem wb (I:Inv (aP (cy P w) P w K mg base N qual scope f cd A outer s0 H0 E) Ä σ H s)(hx:H x=some o)(ho:(∃ φ,o=.ext φ))(Om:H dx=some (.xd fs))(he:s.heap.get? x=some (qr C (some dx) t v))
  (hv:Aq s.heap x #[.ref t,v,.none,.none,.bool false,.none])(q:E (.ref C) (some x) (af H x (nF x C (some dx)))):(aP (cy P w) P w K mg base N qual scope f cd A outer s0 H0 E).xe (.ref x) s:=by
 have hA:=I.ok.frames;refine kF hA I.stack rfl he rfl hv λ h' T l=>?_;have J:=Inv.left I rfl hx ho he l;have nT:=I.Đ.fresh l.new;obtain⟨oT,ts,h1,h2,h3,h4⟩:=l.Rz;have nd:dx≠x:=λ z=>by
  obtain⟨φ,rfl⟩:=ho;rw [z,hx] at Om;cases Om
 refine⟨x,C,dx,fs,_,rfl,J.os,J.bare,J.base,J.Đ,aO,by rw [ah nd];exact Om,⟨t,T,oT,ts,l.exc,h4,ð I.sz l.new,?_,h1,h2,h3⟩,q⟩
 rw [ah h4];exact nT
theorem cF:dk (cy P w) (aP (cy P w) P w K mg base N qual scope f cd A outer s0 H0 E) E:=by
 intro Ä σ H s e s' I h;obtain⟨x,C,dx,fs,H',rfl,os,bare,un,Đ,hx,Om,⟨t,T,oT,ts,h1,h2,_,h4,h5,h6,h7⟩,q⟩:=h;have J:=I.Mx os un Đ bare (λ b z=>absurd z (by simp))
 refine wb J hx ⟨_,rfl⟩ Om h1 (.inr ⟨T,oT,ts,rfl,h2,h5,h6,h7⟩) ?_;rw [tf hx];exact q
end
end My
namespace My
open PySem PySem.W L2
open PyProof.Rows (AllBare)
section
variable {prog:Program}{w:World}{A:Around}{E:eH}{s:Shared}{env:Env}{x:Sem Value}{Q:Flow->Shared->Prop}{K:Frag}{C:Addr}
theorem tM (T:pX K C)(ht:typeIn K (.ref C)=some (.type "type"))(hA:A.handled=none)
  (hx:wpAny (model prog w) A x (λ v s1=>∃ e t d od,v=.ref e/\InstAt s1.heap e (lV C d t) C od/\K.In s1.heap/\E (.ref e) s1) E s):wpAny (model prog w) A (raiseStmt env (some x) none) Q E s:=by
 unfold raiseStmt;refine À (ï hx (λ v s1 h=>?_) (λ _ _ z=>z));obtain⟨e,t,d,od,rfl,I,KX,q⟩:=h;obtain⟨hp,g,dr,tk,os⟩:=s1;have TZ:∀ c:ClassData,(lV C d t).data≠Data.cls c:=λ c z=>by cases z
 refine À (È ?_);refine À ?_;show wpAny _ _ (excFromValue (.ref e) _) _ _ _;unfold excFromValue;refine À ?_;unfold isExcClass;refine À (ks_wpAny_isType_inst I.at_ TZ ?_);refine ń rfl (È ?_);refine ń rfl ?_;refine À ?_;have sub:Looks (model prog w) hp (isInstance (.ref e) (.type "BaseException")) true:=I.type.andThen (looks_mroIn KX T.mb);refine ť sub ?_;refine wpAny_ite_true rfl (È ?_);refine À (ks_wpAny_isType_inst I.at_ TZ ?_);refine ń rfl ?_;refine À ?_;refine À (ť I.type ?_);refine À (ť (looks_typeIn KX ht) ?_);refine wpAny_ite_true rfl (È ?_);refine À ?_;refine À (ù I.at_ rfl rfl ?_);refine ń rfl (È ?_);exact wpAny_raiseNew_none hA q
end
theorem ř.type (T:ř K D nm C f):typeIn K (.ref C)=some (.type "type"):=by
 obtain⟨q,N,bs,sn,sub,ab,col,dd,k0,k1,k2,k3,k5,l⟩:=T.cls;show(K.lookup C).map (λ o=>o.cls)=_;rw [l];rfl
def qR (E:XK)(C:Addr):VK:=λ y H'=>∃ x dx fs,y=.ref x/\H' x=some (dQ x C (some dx))/\H' dx=some (.xd fs)/\E (.ref C) (some x) (af H' x (nF x C (some dx)))
def zN (E:XK)(C:Addr)(fld:Str)(te:TE):TS:=λ _ σ H=>D9 C fld te σ H (qR E C)
theorem fg:af (af H x a) x b=af H x b:=by
 funext z
 unfold af;by_cases h:z=x
 ·rw [â h,â h]
 ·rw [Ü h,Ü h,Ü h]
section
variable {P:Program}{w:World}{K:Frag}{mg:bL}{base:Heap}{N:List Str}{qual:Str}{scope:Scope}{f:Addr}{cd:Value}{A:Around}{outer:List Env}{s0:Shared}{H0:Hp}{E:XK}
abbrev tV (P:Program)(w:World)(K:Frag)(mg:bL)(base:Heap)(N:List Str)(qual:Str)(scope:Scope)(f:Addr)(cd:Value)(A:Around)(outer:List Env)(s0:Shared)(H0:Hp)(E:XK):Cx:=aP (cy P w) P w K mg base N qual scope f cd A outer s0 H0 E
theorem bX {nm fld x:Str}(B:Ł K D)(T:ř K D nm C fI)(F:Þ P w K mg base ay k fI fd ps (lQ C fld))(hr:ó (k+1) (tV P w K mg base N qual scope f cd A outer s0 H0 E).A)(hb:Binds K fd ps [])
  (hg:Gl (tV P w K mg base N qual scope f cd A outer s0 H0 E) x)(hm:mg x=some (.ref C))(ha:PE (tV P w K mg base N qual scope f cd A outer s0 H0 E) e te)
  (JX:(x==("__debug__" : Str))=false:=by decide)(he:starEach [e] (tV P w K mg base N qual scope f cd A outer s0 H0 E).env=(false,eval e (tV P w K mg base N qual scope f cd A outer s0 H0 E).env)::starEach [] (tV P w K mg base N qual scope f cd A outer s0 H0 E).env:=by rfl) (Ρ:(backTo ø (starEach [] (tV P w K mg base N qual scope f cd A outer s0 H0 E).env)).any (·.1)=false:=by rfl) :
  PS (tV P w K mg base N qual scope f cd A outer s0 H0 E) (.Raise (some (.Call (.Name x p) [e] [] ø)) none pos') (zN E C fld te):=by
 intro Ä s σ H D' I h;have pe:=yR (p:=p) B T F hr hb hg hm ha JX he Ρ;have hd:=I.ok.hd rfl;rw [arm_exec_Raise];refine À (Ĩ ?_);refine tM T.it T.type hd ?_;refine À (aV (pe Ä s σ H (qR E C) I h) λ u s1 h1=>?_);obtain⟨y,H1,I1,ry,x,dx,fs,rfl,e1,e2,q⟩:=h1;refine À (Ĩ (È ?_));obtain⟨t,ht⟩:=gB I1.Đ e1;obtain⟨ox,od,J,_⟩:=kU I1.Đ e1 e2;have eo:=Ý (J.at_.symm.trans ht);subst eo;exact⟨x,t,some dx,some od,ry,J,I1.Ō,wb I1 e1 ⟨_,rfl⟩ e2 ht (.inl rfl) q⟩
theorem dq {fld:Str}(nd:dx≠x)(q:E (.ref C) (some x) (af (af H1 dx (.xd [(fld,v)])) x (nF x C (some dx)))):qR E C (.ref x) (af (af H1 dx (.xd [(fld,v)])) x (dQ x C (some dx))) :=
 ⟨x,dx,_,rfl,aO,by rw [ah nd,aO],by rw [fg];exact q⟩
theorem FD (F:Ģ K x qual st f fd)(S:ad N ps (aa st))(len:∀ vs H Q E,sp vs H Q E->vs.length=ps.length)
  (γ:∀(cdv:Value)(A:Around)(outer:List Env)(s:Shared)(H:Hp)(vs:List V)(Q:VK)(E:XK),ó k (A.deeper (PyProof.Rows.envOfC qual (aa st) s.heap.objs.size f cdv))->sp vs H Q E ->
   ∃ t,ż (tV P w K mg base N qual (aa st) f cdv A outer s H E) (aF st) t/\t { nx:=λ _ H'=>Q .ą H',rt:=Q } (fH N vs) H):Þ P w K mg base (cy P w) (k+1) f fd ps sp:=by
 obtain⟨oc,od,kV,doc,pm,an,cdv,ct,M6,rfl,lk,Lq⟩:=F.ex;refine v9 lk Lq S len λ A outer s H vs Q E hr Ll=>?_;obtain⟨t,h,q⟩:=γ cdv A outer s H vs Q E hr Ll;exact⟨t,h,q⟩
theorem fL (F:Ģ K x qual st f fd)(S:ad N ps (aa st))
  (γ:∀(cdv:Value)(A:Around)(outer:List Env)(s:Shared)(H:Hp)(vs:List V)(Q:VK)(E:XK),ó k (A.deeper (PyProof.Rows.envOfC qual (aa st) s.heap.objs.size f cdv))->sp vs H Q E ->
   ∃ t,ż (tV P w K mg base N qual (aa st) f cdv A outer s H E) (aF st) t/\t { nx:=λ _ H'=>Q .ą H',rt:=Q } (fH N vs) H)(len:∀ vs H Q E,sp vs H Q E->vs.length=ps.length:=by intro vs H Q E h;repeat (first | (obtain⟨rfl,_⟩:=h;rfl) | (obtain⟨_,h⟩:=h))):Þ P w K mg base (cy P w) (k+1) f fd ps sp:=FD F S len γ
theorem Þ.Xh (F:Þ P w K mg base ay k f fd ps sp):Þ P w K mg base (cy P w) k f fd ps sp :=
 ⟨F.len,λ A outer s H args us vs Q E hr he hb hv hs=>ū (F.run A outer s H args us vs Q E hr he hb hv hs) λ r s' h=>by
  cases r with
  | error e=>exact False.elim h
  | ok fl=>cases fl <;> exact h⟩
end
end My
namespace My
open PySem PySem.W L2
open PyProof.Rows (AllBare)
section
variable {X:Cx}{Ä:List (Addr × Obj)}{σ:St}{H:Hp}{s:Shared}
theorem jx:∀{cs:List Addr}{us:List Value},Vals (cs.map V.ref) us->us=cs.map Value.ref
 | [],_,.nil=>rfl
 | c::cs,_,.cons r t=>by
  rw [jx t];cases (show _=Value.ref c from r);rfl
end
end My
namespace My
open PySem PySem.W L2
open PyProof.Rows (AllBare)
abbrev TH:=Addr->Addr->TS
end My
namespace My
open PySem L2
section
variable {X:Cx}
def xP (K:PySem.W.Frag):R2:=λ x y H Q=>∃ p q xs,x=.ref p/\y=.ref q/\î K H p xs/\î K H q []/\Q (.bl xs.isEmpty) H
theorem kX (hu:X.A.units<cLine):ia X (compareOp .Eq) (xP X.K):=by
 intro Ä s σ H x y v u Q I rx ry h;obtain⟨p,q,xs,rfl,rfl,hp,hq,k⟩:=h;cases rx;cases ry;obtain⟨its,r1,t1,_⟩:=I.list hp;obtain⟨ŧ,r2,t2,_⟩:=I.list hq;have l1:=r1.length;have l2:=r2.length;cases xs with
 | nil =>
  have e1:its=[]:=ĳ.mp l1.symm;have e2:ŧ=[]:=ĳ.mp l2.symm;subst e1 e2;exact SeqAt.eq_listAt (e:=λ _=>true) t1.isList t2.isList rfl hu (λ j h _=>absurd h (Ľ _)) ⟨.bl true,H,I,rfl,k⟩
 | cons x xs =>
  have e2:ŧ=[]:=ĳ.mp l2.symm;subst e2;refine SeqAt.eq_list_lengthsAt t1.isList t2.isList ?_ hu ⟨.bl false,H,I,rfl,k⟩;simp [<- l1]
end
section
variable {X:Cx}
theorem jz {A:Around}:A.in1.units=A.units+1:=rfl
def tO (K:PySem.W.Frag):V->List V->Hp->VK->Prop:=λ x vs H Q=>∃ l xs y,x=.ref l/\vs=[y]/\î K H l xs/\xs.all pj=true/\pj y=true/\Q (.int (xs.countP λ z=>yH z y:Nat)) H
theorem rG:HZ X "list.count" (tO X.K):=by
 intro Ä s σ H x vs v us Q I rx rv h;obtain⟨l,xs,y,rfl,rfl,hl,f1,f2,q⟩:=h;cases rx;obtain⟨u,rfl,ru⟩:=dO rv;obtain⟨its,r,t,X4⟩:=I.list hl;obtain⟨⟨c,dd,dt,sl⟩,h1,hc,n,hd⟩:=t.isList;replace hc:c=.type "list" := hc;replace hd:dt=.seq its.toArray n:=hd;subst hc hd;refine B' F.slot_list_count ⟨_,h1,rfl⟩ F.entry_list_count (F.args_list_count_2 _ _) (SeqAt.list_countAt l its.toArray n dd sl u (λ z=>match zz z with | some a=>yH a y | none=>false)) ⟨h1,λ z hz=>?_,?_⟩
 ·obtain⟨i,hi,e⟩:=Ġ (show z∈its by simpa using hz)
  have k1:i<xs.length:=by rw [r.length];exact hi
  obtain⟨u1,e1,q1⟩:=r.get (Á k1);rw [Á hi,e] at e1;cases e1;rw [q1.abs];exact xW q1 ru (ú.mp f1 _ (ü k1)) f2
 ·refine⟨.int _,H,I.tok _,⟨_,rfl⟩,?_⟩;have z:its.toArray.toList.countP (λ z=>match zz z with | some a=>yH a y | none=>false)=xs.countP λ z=>yH z y:=by
   clear h1 t hl f1 q X4
   rw [List.toList_toArray]
   induction r with
   | nil=>rfl
   | cons q1 _ ih=>rw [Kr,Kr,ih,q1.abs]
  rw [z];exact q
end
end My
namespace My
open PySem PySem.W L2
open PyProof.Rows (Call_ boot_enumerate)
section
variable {X:Cx}{Ä:List (Addr × Obj)}{σ:St}{H:Hp}{s:Shared}{h':Heap}
theorem ua (I:Inv X Ä σ H s)(k:∀ b o,b≠i1->b≠i2->s.heap.get? b=some o->h'.get? b=some o)(F1:cT X Ä H i1)(F2:cT X Ä H i2):Inv X Ä σ H { s with heap:=h',toks:=t' }:=by
 obtain⟨n1,L1,_,a1,b1,c1⟩:=F1;obtain⟨n2,L2,_,a2,b2,c2⟩:=F2;have T5:∀ b u,H b=some u->b≠i1:=λ b u e z=>by rw [z,n1] at e;cases e
 have T4:∀ b u,H b=some u->b≠i2:=λ b u e z=>by rw [z,n2] at e;cases e
 refine I.step (ch:=[i1,i2]) (λ b hb=>?_) (λ b o _ _ hc e _=>k b o (λ z=>hc (by simp [z])) (λ z=>hc (by simp [z])) e) (λ b o _ _ hc e _=>⟨o.slots,k b o (λ z=>hc (by simp [z])) (λ z=>hc (by simp [z])) e⟩) (λ _ _ _ _ n=>n)
  (λ b o hc e=>⟨o,k b o (λ z=>hc (by simp [z])) (λ z=>hc (by simp [z])) e⟩) (λ _ _ e=>e) (λ _ _ _ e=>e) (λ b ps e=>⟨#[],by rw [e];simp⟩) (λ q=>q) (λ m hm=>?_) (λ b u e=>?_) I.bare
 ·have e:b=i1\/b=i2:=by simpa using hb
  rcases e with rfl | rfl
  ·exact⟨a1,L1,b1,c1⟩
  ·exact⟨a2,L2,b2,c2⟩
 ·obtain⟨o,es,ep,ho,r⟩:=hm;exact⟨o,es,ep,k _ o (Ne.symm L1) (Ne.symm L2) ho,r⟩
 ·refine(I.Đ b u e).d_ (λ c v hc q=>k c v ?_ ?_ q) (λ _ q=>q) λ _ _ q=>q
  ·rcases hc with z | z
   ·rw [z];exact T5 b u e
   ·exact T5 c _ z
  ·rcases hc with z | z
   ·rw [z];exact T4 b u e
   ·exact T4 c _ z
end
theorem Ky {o:Obj}(d:o.data=.fields vs):o.isFreed=false:=by
 obtain⟨c,dd,dt,sl⟩:=o;cases d;rfl
def wF (K:Frag)(a:Addr):It :=
 ⟨λ i H=>∃ xs x,î K H a xs/\xs[i]?=some x,λ i H x H'=>∃ p y,x=.ref p/\H p=none/\H'=af H p (.tup [.int i,y])/\∀ xs,î K H a xs->xs[i]?=some y,λ i H=>∃ xs,î K H a xs/\xs.length<=i⟩
theorem qF {x1}(a e it:Addr)(ne:e≠it):nU P w K (.Tuple elts x1 ø) (wF K a) [e,it] e (λ i h=>(∃ old,IsEnum h e it i old)/\h.IsListIter it a i) where
 mem:=by simp
 obj:=λ i h st b hb=>by
  obtain⟨⟨old,h1⟩,o,h2,c,d⟩:=st;have e:b=e\/b=it:=by simpa using hb
  rcases e with rfl | rfl
  ·exact⟨_,h1,λ v z=>by cases z⟩
  ·exact⟨o,h2,λ v z=>by rw [d] at z;cases z⟩
 keep:=λ i h h' st k=>⟨⟨_,k e (by simp) _ st.1.choose_spec⟩,st.2.at λ o z=>k it (by simp) o z⟩
 item:=by
  intro X hP hw hK hc i Ä s σ H E I hf st hg;subst hP hw hK;obtain⟨xs,x,hq,hx⟩:=hg;obtain⟨its,rv,p,hz⟩:=I.list hq;obtain⟨u,hu,ru⟩:=rv.get hx;obtain⟨⟨old,he⟩,hi⟩:=st;have Fe:=hf e (by simp)
  have Fi:=hf it (by simp)
  refine wpAny_pyNext_enum_item he hi p.isList (by simpa using hu) ne λ h1 eo YD ht hs1 kk=>?_
  refine⟨_,rfl,wpAny_letOwnedTupleGo_enum eo λ h2 O1 sb=>?_⟩;have L5:=sb;have ne2:=ň (Å he);have Q7:=(L5.2 _ ne2).trans ht;obtain⟨oi,Ui,ci,di⟩:=hi;obtain⟨TY,SG,ZZ,U9⟩:=id YD;have Qe:=(L5.2 _ (Ne.symm ne)).trans SG
  let hA:Heap:=(s.heap.update e λ _=>{ cls:=.type "enumerate",dict:=none,data:=.fields #[.none,.bool false,.ref it,rawInt ((i:Int)+1),.none,u],slots:=#[] }).update it λ _=>TY
  have IA:Inv X Ä σ H { s with heap:=hA,toks:=s.toks }:=ua I (λ b o z1 z2 q=>by
   rw [í _ _ _ _ z2,í _ _ _ _ z1];exact q) Fe Fi
  have Xj:hA.objs.size=s.heap.objs.size:=by
   rw [MY,MY]
  refine⟨.ref s.heap.objs.size,af H s.heap.objs.size (.tup [.int i,x]),?_,rfl,⟨_,x,rfl,I.Đ.fresh (Ç _),rfl,λ ys hy=>by rw [I.Ω hy hq];exact hx⟩,⟨⟨u,O1⟩,TY,Qe,ZZ,U9⟩,λ b hb=>?_⟩
  ·refine IA.laid (λ b v q=>?_) (ι Xj) ?_
   ·have q':=q;by_cases z2:b=it
    ·subst z2;have hg:(s.heap.update e λ _=>{ cls:=.type "enumerate",dict:=none,data:=.fields #[.none,.bool false,.ref b,rawInt ((i:Int)+1),.none,u],slots:=#[] }).get? b=some oi:=by
      rw [í _ _ _ _ (Ne.symm ne)];exact Ui
     rw [č _ hg (Ky U9)] at q';cases q';exact Qe
    ·rw [í _ _ _ _ z2] at q';by_cases z1:b=e
     ·subst z1;rw [č _ he rfl] at q';cases q';exact O1
     ·rw [í _ _ _ _ z1] at q';exact(L5.2 b z1).trans (kk b v z1 z2 q')
   ·exact⟨dZ,[.int i s.toks,u],.cons ⟨_,rfl⟩ (.cons ru .nil),⟨_,Q7,rfl,_,rfl⟩⟩
  ·have nb:b≠s.heap.objs.size:=by
    have e':b=e\/b=it:=by simpa using hb
    rcases e' with rfl | rfl
    ·exact Ð (Å he)
    ·exact Ð (Å Ui)
   rw [ah nb];exact(hf b hb).1
 done:=by
  intro X hP hw hK hc i Ä s σ H E I hf st hg;subst hP hw hK;obtain⟨xs,hq,hx⟩:=hg;obtain⟨its,rv,p,hz⟩:=I.list hq;obtain⟨⟨old,he⟩,hi⟩:=st;obtain⟨f0,f1,f2,f3,f4,f5⟩:=hf it (by simp)
  have hl:=rv.length;exact wpAny_pyNext_enum_end (I.ok.hd hc) he hi p.isList (by simp;omega) λ h' eb=>⟨rfl,I.turned (λ b o hb e=>eb b o hb e) f0 f1 f3 f4 f5⟩
 self:=λ _ _ _ _ _ st h=>π st.1.choose_spec h
section
variable {X:Cx}
def wj (K:Frag)(ta:TA):TI:=λ σ H R=>ta σ H λ vs H1=>∃ a,vs=[.ref a]/\(∃ xs,î K H1 a xs)/\R (wF K a) H1
theorem jV {x1}(hg:Gl X "enumerate")(hm:X.mg "enumerate" = none)(ha:PA X [a] ta)(hs:starEach [a] X.env=[(false,eval a X.env)]:=by rfl):PI X (.Tuple elts x1 pt) (.Call (.Name "enumerate" p) [a] [] ø) (wj X.K ta):=by
 intro Ä s σ H R I h;refine Call_ (fO I hg hm boot_enumerate (ď (aV (ha ø Ä s σ H _ I h) λ us s1 ⟨vs,H1,I1,r1,q1⟩=>?_) hs rfl));obtain⟨l,rfl,⟨xs,hq⟩,q⟩:=q1;cases r1 with
 | cons r rr =>
  cases rr;cases r;obtain⟨its,rv,p',hz⟩:=I1.list hq;refine call_enumerate_list p'.isList λ h' he hi Sz kk=>?_;refine π he ?_;refine⟨s1.heap.objs.size+1,[s1.heap.objs.size+1,s1.heap.objs.size],_,_,H1,rfl,I1.kept kk,qF l _ _ (Nat.succ_ne_self _),⟨⟨_,he⟩,hi⟩,λ b hb=>?_,q⟩;have e:b=s1.heap.objs.size+1\/b=s1.heap.objs.size:=by simpa using hb
  have le:s1.heap.objs.size<=b:=by
   rcases e with rfl | rfl
   ·exact ŭ _
   ·exact Ç _
  exact I1.Ls le (I1.Đ.fresh le)
end
theorem lh {g:TG}{tb:TS}{D:cP}(Pv:Nat->St->Hp->Prop)(h0:Pv 0 σ H)(hl:∀ i σ H,i<=xs.length->Pv i σ H->î K H a xs)
  (hs:∀ i x σ H p,xs[i]?=some x->Pv i σ H->H p=none->g (.ref p) σ (af H p (.tup [.int i,x])) λ Ĭ H2=>tb { D with nx:=Pv (i+1),ct:=Pv (i+1),bk:=D.nx } Ĭ H2)(hd:∀ σ H,Pv xs.length σ H->D.nx σ H) :
  ∃ W:Nat->Nat->St->Hp->Prop,(∃ m,W 0 m σ H)/\∀ i m σ H,W i m σ H ->
   ((wF K a).stop i H/\D.nx σ H)\/((wF K a).go i H/\∃ N:St->Hp->Prop,(∀ ĥ H',N ĥ H'->∃ m',m'<m/\W (i+1) m' ĥ H')/\∀ x H',(wF K a).JD i H x H'->g x σ H' λ Ĭ H2=>tb { D with nx:=N,ct:=N,bk:=D.nx } Ĭ H2):=by
 refine⟨λ i m σ H=>m=xs.length-i/\i<=xs.length/\Pv i σ H,⟨xs.length,by simp,Nat.zero_le _,h0⟩,?_⟩
 rintro i m σ H ⟨rfl,hi,p⟩;have q:=hl i σ H hi p;by_cases ź:i<xs.length
 ·refine .inr ⟨⟨xs,xs[i],q,Á ź⟩,Pv (i+1),λ ĥ H' n=>⟨xs.length-(i+1),ak,rfl,ź,n⟩,?_⟩;rintro x H' ⟨p',y,rfl,hp,rfl,hy⟩;exact hs i y σ H p' (hy xs q) p hp
 ·have e:i=xs.length:=ak;subst e;exact .inl ⟨⟨xs,q,Ç _⟩,hd σ H p⟩
end My
namespace My
open PySem L2
section
variable {prog:Program}{w:World}{A:Around}{R:Result->Shared->Prop}{s:Shared}
theorem gU (J:Nat->Shared->Prop)
  (turn:∀ n s,J n s->wpAny (model prog w) A (pyNext it) (λ r Ĉ=>match r with
   | none=>R (.ok .next) Ĉ
   | some v=>wpAny (model prog w) A (letOwnedTupleGo target it v) (λ _ Ÿ=>wpAny (model prog w) A (assign target env v) (λ _ p_=>wpAny (model prog w) A (eval elt env)
     (λ x Ke=>wpAny (model prog w) A (call (.builtin "list.append") [acc,x]) (λ _ Kc=>∃ m,m<n/\J m Kc) (λ _ _=>False) Ke) (λ _ _=>False) p_) (λ _ _=>False) Ÿ) (λ _ _=>False) Ĉ) (λ _ _=>False) s)
  (n:Nat)(h:J n s):codeAny (model prog w) A (.compLoop (.ListComp elt [⟨target,iter,[],0⟩] scope ø) 0 it acc env) R s:=by
 refine codeAny_loop rfl J (λ n s hJ=>?_) n h;refine wpAny_noted ?_;rw [compTurn_list1];refine À (Ĩ (À (ï (turn n s hJ) (λ r Ĉ Ŏ=>?_) λ _ _ z=>z.elim)));cases r with
 | none=>exact È Ŏ
 | some v =>
  refine À (ï Ŏ (λ _ Ÿ JU=>?_) λ _ _ z=>z.elim);refine À (ï JU (λ _ p_ KB=>?_) λ _ _ z=>z.elim);refine À (À (ï KB (λ x Ke Mf=>?_) λ _ _ z=>z.elim));refine À (ï Mf (λ _ Kc Md=>È (È ⟨rfl,Md⟩)) λ _ _ z=>z.elim)
end
def bE (X:Cx)(sc:Scope)(cl:List (Str × Addr))(N:List Str)(s:Shared)(H:Hp)(C:Addr)(fp:List Addr):Cx where
 prog:=X.prog
 w:=X.w
 K:=X.K
 mg:=X.mg
 base:=X.base
 A:=X.A
 N:=N
 ŉ:=s
 Lw:=H
 env:=compEnvC sc cl C X.env
 outer:=X.stack
 stack:=X.stack
 ex:=fp
 fn:=λ _=>false
 calm:=X.calm
 pn:=[]
 xe:=λ _ _=>False
def cz (js:List Nat)(σ:St):St:=js.map λ j=>(σ[j]?).join
section
variable {prog:Program}{w:World}{A:Around}{R:Result->Shared->Prop}{s:Shared}
theorem oz (J:Nat->Shared->Prop)
  (turn:∀ n s,J n s->wpAny (model prog w) A (pyNext it) (λ r Ĉ=>match r with
   | none=>R (.ok .next) Ĉ
   | some v=>wpAny (model prog w) A (letOwnedTupleGo target it v) (λ _ Ÿ=>wpAny (model prog w) A (assign target env v) (λ _ p_=>wpAny (model prog w) A (isTrue c env (eval c env)) (λ k ŉ =>
     (k=false->∃ m,m<n/\J m ŉ)/\(k=true->wpAny (model prog w) A (eval elt env)
     (λ x Ke=>wpAny (model prog w) A (call (.builtin "list.append") [acc,x]) (λ _ Kc=>∃ m,m<n/\J m Kc) (λ _ _=>False) Ke) (λ _ _=>False) ŉ)) (λ _ _=>False) p_) (λ _ _=>False) Ÿ) (λ _ _=>False) Ĉ) (λ _ _=>False) s)
  (n:Nat)(h:J n s):codeAny (model prog w) A (.compLoop (.ListComp elt [⟨target,iter,[c],0⟩] scope ø) 0 it acc env) R s:=by
 refine codeAny_loop rfl J (λ n s hJ=>?_) n h;refine wpAny_noted ?_;rw [compTurn_list];refine À (Ĩ (À (ï (turn n s hJ) (λ r Ĉ Ŏ=>?_) λ _ _ z=>z.elim)));cases r with
 | none=>exact È Ŏ
 | some v =>
  refine À (ï Ŏ (λ _ Ÿ JU=>?_) λ _ _ z=>z.elim);refine À (ï JU (λ _ p_ KB=>?_) λ _ _ z=>z.elim);refine À (wpAny_tests_one (ï KB (λ k ŉ h₀=>?_) λ _ _ z=>z.elim));cases k with
  | false=>exact È ⟨rfl,h₀.1 rfl⟩
  | true =>
   refine À (À (ï (h₀.2 rfl) (λ x Ke Mf=>?_) λ _ _ z=>z.elim));refine À (ï Mf (λ _ Kc Md=>È (È ⟨rfl,Md⟩)) λ _ _ z=>z.elim)
end
structure aT (X:Cx)(sc:Scope)(cl:List (Str × Addr))(ts zs:List Str)(js:List Nat):Prop where
 δ:closureFor sc X.env=pure cl
 kind:sc.kind=.function
 JR:∀ y∈sc.names,y.2 ≠ .cell
 names:∀ y∈sc.names,y.2=.local->sc.names.lookup y.1=some .local
 var:∀ x∈ts,sc.names.lookup x=some .local
 sub:∀ z c,cl.lookup z=some c->X.env.cells.lookup z=some c
 has:∀ z,((relabel sc X.env).names.lookup z=some .cell\/(relabel sc X.env).names.lookup z=some .free)->∃ c,cl.lookup z=some c
 nd:(ts++zs).Nodup
 cap:∀(k:Nat)(z:Str),zs[k]?=some z->∃ j:Nat,js[k]?=some j/\X.N[j]?=some z/\wv X.env.scope z/\X.env.kindOf z≠some .local /\
  ((relabel sc X.env).names.lookup z=some .cell\/(relabel sc X.env).names.lookup z=some .free)
 len:js.length=zs.length
def cD (wi:TI)(k:Nat)(js:List Nat)(g:TG)(te:TE):TE:=λ σ H Q=>wi σ H λ J H1=>∀ D,H1 D=none->∃ W:Nat->Nat->List V->Hp->Prop,(∃ m,W 0 m [] (af H1 D (.lst []))) /\
 ∀ i m ys H2,W i m ys H2->H2 D=some (.lst ys)/\((J.stop i H2/\Q (.ref D) H2)\/(J.go i H2/\ys.length<sizeLine /\
  ∀ x H3,J.JD i H2 x H3->∀ os:St,os.length=k->g x (os++cz js σ) H3 λ Ĭ H0=>(∃ ł:St,ł.length=k/\Ĭ = ł ++ cz js σ)/\te Ĭ H0 λ y H4=>H4 D=some (.lst ys)/\∃ m',m'<m/\W (i+1) m' (ys ++ [y]) (af H4 D (.lst (ys ++ [y])))))
def gh (wi:TI)(k:Nat)(js:List Nat)(g:TG)(tt:TT)(te:TE):TE:=λ σ H Q=>wi σ H λ J H1=>∀ D,H1 D=none->∃ W:Nat->Nat->List V->Hp->Prop,(∃ m,W 0 m [] (af H1 D (.lst []))) /\
 ∀ i m ys H2,W i m ys H2->H2 D=some (.lst ys)/\((J.stop i H2/\Q (.ref D) H2)\/(J.go i H2/\ys.length<sizeLine /\
  ∀ x H3,J.JD i H2 x H3->∀ os:St,os.length=k->g x (os++cz js σ) H3 λ Ĭ H0=>(∃ ł:St,ł.length=k/\Ĭ = ł ++ cz js σ)/\tt Ĭ H0 λ b H5=>(b=false->∃ m',m'<m/\W (i+1) m' ys H5) /\
   (b=true->te Ĭ H5 λ y H4=>H4 D=some (.lst ys)/\∃ m',m'<m/\W (i+1) m' (ys ++ [y]) (af H4 D (.lst (ys ++ [y]))))))
section
variable {X:Cx}{Ä:List (Addr × Obj)}{σ:St}{H:Hp}{s:Shared}{sc:Scope}{cl:List (Str × Addr)}{ts zs:List Str}{js:List Nat}{C:Addr}{fp:List Addr}
theorem rJ (I:Inv X Ä σ H s)(S:aT X sc cl ts zs js)(hf:∀ b∈fp,cT X Ä H b/\b<s.heap.objs.size)(hC:s.heap.objs.size<=C):(bE X sc cl (ts++zs) s H C fp).Ok:=by
 refine⟨I.ok.mod,S.kind,I.ok.glob,I.ok.blt,hC,λ y z c h1 h2=>I.ok.inj y z c (S.sub _ _ h1) (S.sub _ _ h2),λ z h=>S.has z h,(λ _ _ h=>nomatch h),I.ok.hd,I.ok.frames,.inl rfl,λ b hb=>?_,I.bs,?_,λ b o e hb=>?_,λ b hb hs=>?_,I.stack,I.j'⟩
 ·obtain⟨⟨_,h1,_,_,h4,_⟩,h6⟩:=hf b hb;exact⟨λ e=>absurd h6 (œ.mpr (by rw [show b=C from e];exact hC)),λ z c e=>h4 z c (S.sub _ _ e)⟩
 ·exact ð I.ok.Mz I.sz
 ·obtain⟨⟨_,_,_,h3,_⟩,_⟩:=hf b hb;rcases h3 with h | h
  ·exact I.ok.Ld b o e h
  ·exact absurd (Å e) (œ.mpr (ð I.ok.Mz h))
 ·obtain⟨⟨_,h1,h2,_⟩,_⟩:=hf b hb;rcases á.mp (I.Ŧ b hs) with e | e
  ·exact h1 e
  ·exact h2 e
theorem dM (I:Inv X Ä σ H s)(S:aT X sc cl ts zs js)(hf:∀ b∈fp,cT X Ä H b/\b<s.heap.objs.size)(hC:s.heap.objs.size<=C)(ho:s1.os=s.os)(hg:s1.gens=s.gens)
  (hk:∀ b o,s.heap.get? b=some o->s1.heap.get? b=some o)(hn:s1.heap.Ns C m):Inv (bE X sc cl (ts++zs) s H C fp) [] (List.replicate ts.length none++cz js σ) H s1:=by
 refine⟨rJ I S hf hC,ho,by rw [hg];exact I.bare,Un.kept hk,⟨m,hn,λ i y v h1 h2 h3=>?_⟩,λ z c e=>?_,I.Đ.fresh hC,λ z c e=>I.Ζ z c (S.sub _ _ e),λ p hp=>absurd (show p∈([]:List (Addr × Obj)) from hp) (by simp),I.Đ.kept hk,?_⟩
 ·rcases ī i ts.length with lt | ge
  ·rw [ò (by rw [Ù];exact lt),Χ,â lt] at h2
   cases h2
  ·have h1':zs[i-ts.length]?=some y:=by
    have Mq:(ts++zs)[i]?=some y:=h1;rw [å ge] at Mq;exact Mq
   obtain⟨j,hj,hN,hv,nl,k'⟩:=S.cap _ y h1';have Ou:(cz js σ)[i-ts.length]?=some (some v):=by
    rw [å (by rw [Ù];exact ge),Ù] at h2
    exact h2
   have h5:σ[j]?=some (some v):=by
    unfold cz at Ou;rw [Ì,hj] at Ou;have h6:(σ[j]?).join=some v:=Ý Ou;cases e:σ[j]? with
    | none=>rw [e] at h6;cases h6
    | some o=>rw [e] at h6;exact Ĕ some h6
   obtain⟨m0,Yo,hl⟩:=I.loc;obtain⟨u,ru,lk⟩:=hl j y v hN h5 hv;refine⟨u,ru,?_⟩;rcases lk with⟨k1,_⟩ | ⟨_,c,ec,hc⟩
   ·exact absurd k1 nl
   ·obtain⟨c',Qq⟩:=S.has y k';have e2:=S.sub _ _ Qq;rw [ec] at e2;cases e2;exact .inr ⟨k',c,Qq,hc.keeps hk⟩
 ·obtain⟨v,hv⟩:=I.cell z c (S.sub _ _ e);exact⟨v,hv.keeps hk⟩
 ·show(List.replicate ts.length none++cz js σ:St).length=(ts++zs).length;unfold cz;rw [É,É,Ã,Ù,S.len]
theorem fP (I:Inv X Ä σ H s)(hf:∀ b∈fp,cT X Ä H b/\b<s.heap.objs.size)(hC:s.heap.objs.size<=C)(J:Inv (bE X sc cl (ts++zs) s H C fp) [] ĥ H' s1)
  (hs:Heap.SameBut C s1.heap h'):Inv X Ä σ H' { s1 with heap:=h' }:=by
 have old:∀ b o,s1.heap.get? b=some o->b≠C->h'.get? b=some o:=λ b o e n=>(hs.2 b n).trans e;have lt:∀{b o},s.heap.get? b=some o->b≠C:=λ {b o} e z=>by
  have q:=Å e;rw [z] at q;exact absurd q (œ.mpr hC)
 have B:=J.base;refine I.Mx J.os ⟨λ b o e n hb hx=>old b o (B.keep b o e n hb hx) (lt e),λ b o e n hb hx=>?_,B.free,λ b o e hx=>?_,B.H_,B.w_,B.I_,B.sys⟩ (λ b o e=>?_) J.bare λ b hb=>?_
 ·obtain⟨sl,q⟩:=B.slot b o e n hb hx;exact⟨sl,old _ _ q (lt e)⟩
 ·obtain⟨o',q⟩:=B.there b o e hx;exact⟨o',old _ _ q (lt e)⟩
 ·have nC:∀ c u,H' c=some u->c≠C:=λ c u q z=>by
   have f:H' C=none:=J.free;rw [z,f] at q;cases q
  refine(J.Đ b o e).d_ (λ c v hc q=>old c v q ?_) (λ _ q=>q) λ _ _ q=>q;rcases hc with rfl | hc
  ·exact nC _ _ e
  ·exact nC _ _ hc
 ·obtain⟨⟨_,h1,_,h3,h4,h5⟩,_⟩:=hf b hb;exact⟨h3,h1,h4,h5⟩
end
section
variable {X:Cx}{sc:Scope}{cl:List (Str × Addr)}{ts zs:List Str}{js:List Nat}{elt iter:Expr}{ø:Pos}{tg:Expr}{g:TG}{wi:TI}{te:TE}
theorem bH (hc:X.calm=true)(S:aT X sc cl ts zs js)(hi:PI X tg iter wi)(hg:∀ s H C fp,PG (bE X sc cl (ts++zs) s H C fp) tg g)(he:∀ s H C fp,PE (bE X sc cl (ts++zs) s H C fp) elt te)
  (hs:∀ v,foldedSetIterable iter X.env v=pure v:=by intro _;rfl):PE X (.ListComp elt [⟨tg,iter,[],0⟩] sc ø) (cD wi ts.length js g te):=by
 intro Ä s σ H Q I h;rw [eval_ListComp];refine Ĺ (use:=none) rfl hs S.δ S.kind S.names (aV (hi Ä s σ H _ I h) λ v s1 h1=>aV h1 λ Oc s2 h2=>?_);obtain⟨it,fp,tn,J,H2,e,I2,T,Js,f2,body⟩:=h2;subst e;have Nh:H2 s2.heap.objs.size=none:=I2.fresh;obtain⟨W,⟨m0,w0⟩,turn⟩:=body _ Nh;refine Č ?_;have I3:Inv X Ä σ (af H2 s2.heap.objs.size (.lst [])) { s2 with heap:=s2.heap.push { cls:=.type "list",data:=.seq ([]:List Value).toArray } }:=I2.Lg (t':=s2.toks) (ys:=[]) (its:=[]) .nil (ģ _)
 refine Α S.JR (by intro y hy;simp at hy) (λ Ŏ hn K1=>?_) S.kind
 generalize JV:({ s2 with heap:=s2.heap.push { cls:=.type "list",data:=.seq ([]:List Value).toArray } }:Shared)=s3 at I3 hn K1 ⊢
 have k_:∀ b∈fp,cT X Ä (af H2 s2.heap.objs.size (.lst [])) b/\b<s3.heap.objs.size:=λ b hb=>by
  obtain⟨o,ho,_⟩:=T.obj _ _ Js b hb;have hl:=Å ho;have Na:b≠s2.heap.objs.size:=Ð hl;obtain⟨z1,z2⟩:=f2 b hb;refine⟨⟨by rw [ah Na];exact z1,z2⟩,?_⟩
  rw [<- JV];show b<(s2.heap.push _).objs.size;rw [ñ];exact Ć hl
 have old:∀ b o,s3.heap.get? b=some o->Ŏ.get? b=some o:=λ b o e=>K1.extBut b o (Ð (Å e)) (Â _ e);have loop:∀ sS:Shared,sS.heap = Ŏ->sS.os=s3.os->sS.gens=s3.gens->codeAny (model X.prog X.w) X.A (.compLoop (.ListComp elt [⟨tg,iter,[],0⟩] sc ø) 0 (.ref it) (.ref s2.heap.objs.size) (compEnvC sc cl s3.heap.objs.size X.env))
   (compPost (model X.prog X.w) X.A X.xe none (EP X Ä σ Q) (.ref s2.heap.objs.size) s3.heap.objs.size) sS:=by
  intro sS eh eo eg;subst eh;have J0:Inv (bE X sc cl (ts++zs) s3 (af H2 s2.heap.objs.size (.lst [])) s3.heap.objs.size fp) [] (List.replicate ts.length none++cz js σ) (af H2 s2.heap.objs.size (.lst [])) sS:=dM I3 S k_ (Ç _) eo eg old hn;generalize hX:bE X sc cl (ts++zs) s3 (af H2 s2.heap.objs.size (.lst [])) s3.heap.objs.size fp=X' at J0;have Ŗ:∀{H':Hp},(∀ b∈fp,H' b=none)->∀ b∈fp,cT X' [] H' b:=λ {H'} hn b hb=>by
   subst hX;obtain⟨⟨_,z1,z2,z3,z4,z5⟩,z6⟩:=k_ b hb;refine⟨hn b hb,Ð z6,λ q=>?_,.inl hb,λ y c e=>z4 y c (S.sub _ _ e),λ p hp=>absurd (show p∈([]:List (Addr × Obj)) from hp) (by simp)⟩
   rcases á.mp (I3.Ŧ b q) with e | e
   ·exact z1 e
   ·exact z2 e
  have Lz:=T.keep _ _ _ Js λ b hb o e=>old b o (by rw [<- JV];exact Â _ e)
  refine gU (λ n s'=>∃ i ys os H',os.length=ts.length/\Inv X' [] (os++cz js σ) H' s'/\tn i s'.heap/\(∀ b∈fp,H' b=none)/\W i n ys H') ?_ m0 ⟨0,[],_,_,Ù,J0,Lz,λ b hb=>(k_ b hb).1.1,w0⟩;rintro n s' ⟨i,ys,os,H',į,Iv,st,fr,w⟩;obtain⟨hD,alt⟩:=turn i n ys H' w;have eP:X'.prog=X.prog:=by subst hX;rfl
  have eW:X'.w=X.w:=by subst hX;rfl
  have eK:X'.K=X.K:=by subst hX;rfl
  have eC:X'.calm=true:=by subst hX;exact hc
  have eA:X'.A=X.A:=by subst hX;rfl
  have eE:X'.env=compEnvC sc cl s3.heap.objs.size X.env:=by subst hX;rfl
  have eX:X'.xe = λ _ _=>False:=by subst hX;rfl
  rcases alt with⟨stop,q⟩ | ⟨go,İ,step⟩
  ·have d:=T.done X' eP eW eK eC i [] s' _ H' (λ _ _=>False) Iv (Ŗ fr) st stop;rw [eA] at d;refine aV d λ r s4 ⟨hr,I4⟩=>?_;subst hr;obtain⟨m,hm,_⟩:=id I4.loc;rw [eE] at hm;subst hX;exact⟨m,hm,λ h' Mg=>⟨.ref s2.heap.objs.size,H',fP I3 k_ (Ç _) I4 Mg,rfl,q⟩⟩
  ·have d:=T.item X' eP eW eK eC i [] s' _ H' (λ _ _=>False) Iv (Ŗ fr) st go;rw [eA] at d;refine aV d λ r s4 ⟨u,hr,h4⟩=>?_;subst hr;refine aV h4 λ _ s5 ⟨y,H5,I5,r5,y5,e_,Mu⟩=>?_;have ME:=I5.pinned (Ŗ Mu) (T.obj _ _ e_);have Nc:PG X' tg g:=by subst hX;exact hg _ _ _ _
   have g6:=Nc _ s5 _ H5 y u _ ME r5 (step y H5 y5 os į);rw [eP,eW,eA,eE,eX] at g6;refine aV g6 λ _ s6 ⟨OH,H6,I6,⟨ł,Jx,e6⟩,M3⟩=>?_;subst e6;have Ol:PE X' elt te:=by subst hX;exact he _ _ _ _
   have g7:=Ol _ s6 _ H6 _ I6 M3;rw [eP,eW,eA,eE,eX] at g7;refine aV g7 λ uv s7 ⟨v7,H7,I7,r7,Op,m',Lo,w7⟩=>?_;have g8:=(dz) _ s7 _ H7 (.ref s2.heap.objs.size) [v7] (.ref s2.heap.objs.size) [uv] (λ _ H8=>H8=af H7 s2.heap.objs.size (.lst (ys ++ [v7]))) I7 rfl (.cons r7 .nil) ⟨_,ys,v7,rfl,rfl,Op,İ,rfl⟩;rw [eP,eW,eA,eX] at g8;refine aV g8 λ _ s8 ⟨_,H8,I8,_,e8⟩=>?_;subst e8;refine⟨m',Lo,i+1,ys ++ [v7],ł,_,Jx,I8.ņ,T.keep _ _ _ e_ λ b hb o e=>(I8.pin (b,o) (Ë _ (Ë _ (ba hb e)))).1,λ b hb=>?_,w7⟩;obtain⟨o',e',_⟩:=T.obj _ _ e_ b hb;exact(I8.pin (b,o') (Ë _ (Ë _ (ba hb e')))).2.1
 have KP:=T.keep _ _ _ Js λ b hb o e=>old b o (by rw [<- JV];exact Â _ e)
 exact Ŭ (loop _ rfl rfl rfl) (T.self _ 0 _ _ _ KP (loop _ rfl rfl rfl))
end
section
variable {X:Cx}{sc:Scope}{cl:List (Str × Addr)}{ts zs:List Str}{js:List Nat}{elt iter c:Expr}{ø:Pos}{tg:Expr}{g:TG}{wi:TI}{te:TE}{tt:TT}
theorem eR (hc:X.calm=true)(S:aT X sc cl ts zs js)(hi:PI X tg iter wi)(hg:∀ s H C fp,PG (bE X sc cl (ts++zs) s H C fp) tg g)(ht:∀ s H C fp,PT (bE X sc cl (ts++zs) s H C fp) c tt)(he:∀ s H C fp,PE (bE X sc cl (ts++zs) s H C fp) elt te)
  (hs:∀ v,foldedSetIterable iter X.env v=pure v:=by intro _;rfl):PE X (.ListComp elt [⟨tg,iter,[c],0⟩] sc ø) (gh wi ts.length js g tt te):=by
 intro Ä s σ H Q I h;rw [eval_ListComp];refine Ĺ (use:=none) rfl hs S.δ S.kind S.names (aV (hi Ä s σ H _ I h) λ v s1 h1=>aV h1 λ Oc s2 h2=>?_);obtain⟨it,fp,tn,J,H2,e,I2,T,Js,f2,body⟩:=h2;subst e;have Nh:H2 s2.heap.objs.size=none:=I2.fresh;obtain⟨W,⟨m0,w0⟩,turn⟩:=body _ Nh;refine Č ?_;have I3:Inv X Ä σ (af H2 s2.heap.objs.size (.lst [])) { s2 with heap:=s2.heap.push { cls:=.type "list",data:=.seq ([]:List Value).toArray } }:=I2.Lg (t':=s2.toks) (ys:=[]) (its:=[]) .nil (ģ _)
 refine Α S.JR (by intro y hy;simp at hy) (λ Ŏ hn K1=>?_) S.kind
 generalize JV:({ s2 with heap:=s2.heap.push { cls:=.type "list",data:=.seq ([]:List Value).toArray } }:Shared)=s3 at I3 hn K1 ⊢
 have k_:∀ b∈fp,cT X Ä (af H2 s2.heap.objs.size (.lst [])) b/\b<s3.heap.objs.size:=λ b hb=>by
  obtain⟨o,ho,_⟩:=T.obj _ _ Js b hb;have hl:=Å ho;have Na:b≠s2.heap.objs.size:=Ð hl;obtain⟨z1,z2⟩:=f2 b hb;refine⟨⟨by rw [ah Na];exact z1,z2⟩,?_⟩
  rw [<- JV];show b<(s2.heap.push _).objs.size;rw [ñ];exact Ć hl
 have old:∀ b o,s3.heap.get? b=some o->Ŏ.get? b=some o:=λ b o e=>K1.extBut b o (Ð (Å e)) (Â _ e);have loop:∀ sS:Shared,sS.heap = Ŏ->sS.os=s3.os->sS.gens=s3.gens->codeAny (model X.prog X.w) X.A (.compLoop (.ListComp elt [⟨tg,iter,[c],0⟩] sc ø) 0 (.ref it) (.ref s2.heap.objs.size) (compEnvC sc cl s3.heap.objs.size X.env))
   (compPost (model X.prog X.w) X.A X.xe none (EP X Ä σ Q) (.ref s2.heap.objs.size) s3.heap.objs.size) sS:=by
  intro sS eh eo eg;subst eh;have J0:Inv (bE X sc cl (ts++zs) s3 (af H2 s2.heap.objs.size (.lst [])) s3.heap.objs.size fp) [] (List.replicate ts.length none++cz js σ) (af H2 s2.heap.objs.size (.lst [])) sS:=dM I3 S k_ (Ç _) eo eg old hn;generalize hX:bE X sc cl (ts++zs) s3 (af H2 s2.heap.objs.size (.lst [])) s3.heap.objs.size fp=X' at J0;have Ŗ:∀{H':Hp},(∀ b∈fp,H' b=none)->∀ b∈fp,cT X' [] H' b:=λ {H'} hn b hb=>by
   subst hX;obtain⟨⟨_,z1,z2,z3,z4,z5⟩,z6⟩:=k_ b hb;refine⟨hn b hb,Ð z6,λ q=>?_,.inl hb,λ y c e=>z4 y c (S.sub _ _ e),λ p hp=>absurd (show p∈([]:List (Addr × Obj)) from hp) (by simp)⟩
   rcases á.mp (I3.Ŧ b q) with e | e
   ·exact z1 e
   ·exact z2 e
  have Lz:=T.keep _ _ _ Js λ b hb o e=>old b o (by rw [<- JV];exact Â _ e)
  refine oz (λ n s'=>∃ i ys os H',os.length=ts.length/\Inv X' [] (os++cz js σ) H' s'/\tn i s'.heap/\(∀ b∈fp,H' b=none)/\W i n ys H') ?_ m0 ⟨0,[],_,_,Ù,J0,Lz,λ b hb=>(k_ b hb).1.1,w0⟩;rintro n s' ⟨i,ys,os,H',į,Iv,st,fr,w⟩;obtain⟨hD,alt⟩:=turn i n ys H' w;have eP:X'.prog=X.prog:=by subst hX;rfl
  have eW:X'.w=X.w:=by subst hX;rfl
  have eK:X'.K=X.K:=by subst hX;rfl
  have eC:X'.calm=true:=by subst hX;exact hc
  have eA:X'.A=X.A:=by subst hX;rfl
  have eE:X'.env=compEnvC sc cl s3.heap.objs.size X.env:=by subst hX;rfl
  have eX:X'.xe = λ _ _=>False:=by subst hX;rfl
  rcases alt with⟨stop,q⟩ | ⟨go,İ,step⟩
  ·have d:=T.done X' eP eW eK eC i [] s' _ H' (λ _ _=>False) Iv (Ŗ fr) st stop;rw [eA] at d;refine aV d λ r s4 ⟨hr,I4⟩=>?_;subst hr;obtain⟨m,hm,_⟩:=id I4.loc;rw [eE] at hm;subst hX;exact⟨m,hm,λ h' Mg=>⟨.ref s2.heap.objs.size,H',fP I3 k_ (Ç _) I4 Mg,rfl,q⟩⟩
  ·have d:=T.item X' eP eW eK eC i [] s' _ H' (λ _ _=>False) Iv (Ŗ fr) st go;rw [eA] at d;refine aV d λ r s4 ⟨u,hr,h4⟩=>?_;subst hr;refine aV h4 λ _ s5 ⟨y,H5,I5,r5,y5,e_,Mu⟩=>?_;have ME:=I5.pinned (Ŗ Mu) (T.obj _ _ e_);have Nc:PG X' tg g:=by subst hX;exact hg _ _ _ _
   have g6:=Nc _ s5 _ H5 y u _ ME r5 (step y H5 y5 os į);rw [eP,eW,eA,eE,eX] at g6;refine aV g6 λ _ s6 ⟨OH,H6,I6,⟨ł,Jx,e6⟩,M3⟩=>?_;subst e6;have X9:PT X' c tt:=by subst hX;exact ht _ _ _ _
   have g0:=X9 _ s6 _ H6 _ I6 M3;rw [eP,eW,eA,eE,eX] at g0;refine aV g0 λ k sk ⟨Hk,Ik,qk⟩=>?_;cases k with
   | false =>
    obtain⟨m',Lo,w7⟩:=qk.1 rfl;refine⟨λ _=>?_,λ z=>nomatch z⟩;refine⟨m',Lo,i+1,ys,ł,_,Jx,Ik.ņ,T.keep _ _ _ e_ λ b hb o e=>(Ik.pin (b,o) (Ë _ (Ë _ (ba hb e)))).1,λ b hb=>?_,w7⟩;obtain⟨o',e',_⟩:=T.obj _ _ e_ b hb;exact(Ik.pin (b,o') (Ë _ (Ë _ (ba hb e')))).2.1
   | true =>
   refine⟨λ z=>(nomatch z),λ _=>?_⟩;have Ol:PE X' elt te:=by subst hX;exact he _ _ _ _
   have g7:=Ol _ sk _ Hk _ Ik (qk.2 rfl);rw [eP,eW,eA,eE,eX] at g7;refine aV g7 λ uv s7 ⟨v7,H7,I7,r7,Op,m',Lo,w7⟩=>?_;have g8:=(dz) _ s7 _ H7 (.ref s2.heap.objs.size) [v7] (.ref s2.heap.objs.size) [uv] (λ _ H8=>H8=af H7 s2.heap.objs.size (.lst (ys ++ [v7]))) I7 rfl (.cons r7 .nil) ⟨_,ys,v7,rfl,rfl,Op,İ,rfl⟩;rw [eP,eW,eA,eX] at g8;refine aV g8 λ _ s8 ⟨_,H8,I8,_,e8⟩=>?_;subst e8;refine⟨m',Lo,i+1,ys ++ [v7],ł,_,Jx,I8.ņ,T.keep _ _ _ e_ λ b hb o e=>(I8.pin (b,o) (Ë _ (Ë _ (ba hb e)))).1,λ b hb=>?_,w7⟩;obtain⟨o',e',_⟩:=T.obj _ _ e_ b hb;exact(I8.pin (b,o') (Ë _ (Ë _ (ba hb e')))).2.1
 have KP:=T.keep _ _ _ Js λ b hb o e=>old b o (by rw [<- JV];exact Â _ e)
 exact Ŭ (loop _ rfl rfl rfl) (T.self _ 0 _ _ _ KP (loop _ rfl rfl rfl))
end
end My
namespace My
open PySem PySem.W L2
structure eF (K:Frag)(D:Addr)(m:Str)(f:Addr):Prop where
 ga:specialIn K (.ref D) "__getattribute__" = some (some (.builtin "type.__getattribute__"))
 reads:readsIn K D (.type "type")=true
 at_:findCls K (.ref D) (.type "type") m=some (.val (.ref f))
 kp:keepIn K (.ref f)=true
section
variable {X:Cx}{CX:kD}{k:Nat}{f D:Addr}{fd:FuncData}{ps:List Str}{sp:Sp}{E:XK}{x m:Str}{p ø ũ:Pos}{e:Expr}{es:List Expr}{t:TA}{JZ:List V}{ds:List Value}
theorem bP (C:eF X.K D m f)(F:Þ X.prog X.w X.K X.mg X.base CX k f fd ps sp)(hr:ó k X.A)(hg:Gl X x)(hm:X.mg x=some (.ref D))(hb:Binds X.K fd ps ds)(hd:Vals JZ ds)(hx:dk CX X E)(ha:PA X (e::es) t)
  (JX:(x==("__debug__" : Str))=false:=by decide)(MK:starEach (e::es) X.env=(false,eval e X.env)::starEach es X.env:=by rfl) (Ρ:(backTo ø (starEach es X.env)).any (·.1)=false:=by rfl)
  (Sw:eval (.Call (.Attribute (.Name x p) m ũ) (e::es) [] ø) X.env=(do
   let ov <- eval (.Name x p) X.env
   standAt ũ.atName
   let (f,first) <- holding [ov] (getMethod ov m pl)
   callWith ø f first (backTo ø (starEach (e::es) X.env)) (backToKw ø (keywordEach [] X.env))):=by rfl) :
  PE X (.Call (.Attribute (.Name x p) m ũ) (e::es) [] ø) (eu sp JZ E t):=by
 intro Ä s σ H Q I h;refine Š (ff I hg hm ?_ JX) Sw;refine method_cls I.Ō C.ga (cls_value I.Ō C.reads C.at_ rfl ?_);have I0:Inv X Ä σ H { s with toks:=s.toks+1 }:=I.tok _
 refine Œ I.ok.mod.N' C.kp (aV (ha ø Ä _ σ H _ I0 h) λ us s1 ⟨vs,H1,I1,r,q⟩=>⟨I1.Ō,?_⟩) MK Ρ;exact jR F hr hb hd hx I1 r q
end
end My
namespace My
open PySem L2
open PySem.Builtin.Str (occurrences partsBetween strSub)
def Ji (c:Nat):Bool:=decide (48<=c)&&decide (c<=57)
def BN (L:List Nat):Bool:=!L.isEmpty && !(L.head?==some 48&&L != [48])&&L.all Ji
abbrev cs (z:Str):List Nat:=z.cps.toList
abbrev val (L:List Nat):Nat:=NumText.digitsVal L
def IU (a b:List Nat):Bool:=BN a&&BN b&&decide (2<=val b)&&decide (1<=val a)&&decide (val a<val b)&&decide (Nat.gcd (val a) (val b)=1)
def rd (z:Str):Option (Nat × Nat) :=
 if z = "0" then some (0,1) else if z = "1" then some (1,1) else
  match Txt.split z ⟨#[47]⟩ with
  | [a,b]=>if IU (cs a) (cs b)=true then some (val (cs a),val (cs b)) else none
  | _=>none
abbrev tx (n:Nat):Str:=Str.ofString (toString ((n:Nat):Int))
end My
namespace My
open PySem PySem.W L2
theorem cU {A B:Prop}(h:A):if true=true then A else B:=by rw [â rfl];exact h
theorem cM {A B:Prop}(h:B):if false=true then A else B:=by rw [Ü ar];exact h
def Ext (H H':Hp):Prop:=∀ b o,H b=some o->H' b=some o
theorem Ext.refl (H:Hp):Ext H H:=λ _ _ h=>h
theorem Ext.trans (a:Ext H H1)(b:Ext H1 H2):Ext H H2:=λ x o h=>b x o (a x o h)
theorem Ext.new (h:H p=none):Ext H (af H p o):=λ b u e=>by rw [ah (cR e h)];exact e
theorem ĝ.ext (h:ĝ K H p xs)(e:Ext H H'):ĝ K H' p xs:=by
 rcases h with h | h
 ·left;rcases h with h | ⟨o,h⟩
  ·exact .inl (e _ _ h)
  ·exact .inr ⟨o,e _ _ h⟩
 ·exact .inr h
theorem î.ext (h:î K H s xs)(x:Ext H H'):î K H' s xs:=by
 rcases h with h | h
 ·rcases h with h | ⟨o,h⟩
  ·exact .inl (.inl (x _ _ h))
  ·exact .inl (.inr ⟨o,x _ _ h⟩)
 ·exact .inr h
theorem hZ (hg:Gl X x)(hm:X.mg x=none)(hv:bootBuiltins x=some (.type n))(hn:x ≠ "__name__" := by decide +kernel)(hd:(x==("__debug__" : Str))=false:=by decide):PE X (.Name x ø) (tC (.ty n)) :=
 vQ hg hm hv (show RelV (.ty n) (.type n) from rfl) hn hd
def Kd (K:Frag)(H:Hp)(x:V)(t:Value):Prop:=ŕ K H x t\/(∃ p xs,x=.ref p/\ĝ K H p xs/\t=.type "tuple")\/(∃ a C,x=.ref a/\JH H a C/\pX K C/\t=.ref C)
def HA (K:Frag):List V->Hp->VK->Prop:=λ vs H Q=>∃ x n t b,vs=[x,.ty n]/\Kd K H x t/\kitOne K t (.type n)=some b/\Q (.bl b) H
theorem c6 (N:rX X.K):cQ X (.builtin "isinstance") (HA X.K):=by
 intro Ä s σ H xs us Q I r h;obtain⟨x,n,t,b,rfl,kd,e,q⟩:=h;obtain⟨u,u',rfl,ru,Ny⟩:=iL r;cases (show u'=Value.type n from Ny);rcases kd with ty | ⟨p,ys,rfl,hq,rfl⟩ | ⟨a,C,rfl,ea,T,rfl⟩
 ·exact jq I ru ty e λ tk=>⟨.bl b,H,I.tok _,rfl,q⟩
 ·cases (show u=.ref p from ru);obtain⟨its,_,⟨o,h1,h2,_⟩,_⟩:=I.tuple hq;exact kia_one kitx_tuple I.Ō ⟨o,h1,h2⟩ e (λ z=>nomatch z) λ tk=>⟨.bl b,H,I.tok _,rfl,q⟩
 ·cases (show u=.ref a from ru);exact kia_one (qX T N.gt N.tk) I.Ō (ea.inst I.Đ) e (λ z=>nomatch z) λ tk=>⟨.bl b,H,I.tok _,rfl,q⟩
theorem JH.ext (e:JH H a C)(x:Ext H H'):JH H' a C:=by
 rcases e with e | ⟨dx,fs,e1,e2⟩
 ·exact .inl (x _ _ e)
 ·exact .inr ⟨dx,fs,x _ _ e1,x _ _ e2⟩
theorem ŕ.ext (h:ŕ K H x t)(e:Ext H H'):ŕ K H' x t:=by
 cases h with
 | ą=>exact .ą
 | bl b=>exact .bl b
 | int i=>exact .int i
 | str z=>exact .str z
 | MN z=>exact .MN z
 | lst q=>exact .lst (e _ _ q)
 | J5 q=>exact .J5 (e _ _ q)
 | tup q=>exact .tup (e _ _ q)
 | dK q=>exact .dK (e _ _ q)
 | dT q=>exact .dT (e _ _ q)
 | ins q cl ha hn Kg hm=>exact .ins (e _ _ q) cl ha hn Kg hm
theorem Kd.ext (h:Kd K H x t)(e:Ext H H'):Kd K H' x t:=by
 rcases h with ty | ⟨p,ys,rfl,hq,rfl⟩ | ⟨a,C,rfl,ea,T,rfl⟩
 ·exact .inl (My.ŕ.ext ty e)
 ·exact .inr (.inl ⟨p,ys,rfl,My.ĝ.ext hq e,rfl⟩)
 ·exact .inr (.inr ⟨a,C,rfl,ea.ext e,T,rfl⟩)
def ED (K:Frag)(H:Hp)(x:V):Prop:=(∀ i,x ≠ .int i)/\∃ t b1 b2,Kd K H x t/\kitOne K t (.type "int")=some b1/\kitOne K t (.type "bool")=some b2/\(b1 && !b2)=false
def Th (K:Frag)(H:Hp)(x:V):Prop:=(∃ i,x=.int i)\/ED K H x
theorem Th.ext (h:Th K H x)(e:Ext H H'):Th K H' x:=by
 rcases h with h | ⟨n,t,b1,b2,kd,k1,k2,z⟩
 ·exact .inl h
 ·exact .inr ⟨n,t,b1,b2,kd.ext e,k1,k2,z⟩
def Cd:V->Bool
 | .int _=>true
 | _=>false
def KA (lo hi:Int):V->Bool
 | .int i=>decide (lo<=i)&&decide (i<=hi)
 | _=>false
theorem kh (h:∀ i,x ≠ .int i):Cd x=false:=by
 cases x with
 | int i=>exact absurd rfl (h i)
 | _=>rfl
theorem A5 (h:∀ i,x ≠ .int i):KA lo hi x=false:=by
 cases x with
 | int i=>exact absurd rfl (h i)
 | _=>rfl
section
variable {P:Program}{w:World}{K:Frag}{mg:bL}{base:Heap}
theorem GX:kitOne K (.type "int") (.type "int")=some true:=rfl
theorem Ht:kitOne K (.type "int") (.type "bool")=some false:=rfl
end
set_option exponentiation.threshold 10000
def zj:Key->PyData
 | .inl i=>.int i
 | .inr x=>.str x
 | .ą=>.none
mutual
inductive ė (G:Hp):V->PyData->Prop
 | ą:ė G .ą .none
 | bl (b:Bool):ė G (.bl b) (.bool b)
 | int (i:Int):ė G (.int i) (.int i)
 | str (x:Str):ė G (.str x) (.str x)
 | lst {a:Addr}{xs:List V}{ds:List PyData}:G a=some (.lst xs)->Ö G xs ds->ė G (.ref a) (.list ds)
 | tup {a:Addr}{xs:List V}{ds:List PyData}:G a=some (.tup xs)->Ö G xs ds->ė G (.ref a) (.tuple ds)
 | Ų {a:Addr}:G a=some (.dK [])->ė G (.ref a) (.dict [])
 | JG {a:Addr}{k:Key}{v:V}{d:PyData}:G a=some (.dK [(k,v)])->ė G v d->ė G (.ref a) (.dict [(zj k,d)])
inductive Ö (G:Hp):List V->List PyData->Prop
 | nil:Ö G [] []
 | cons {v:V}{vs:List V}{d:PyData}{ds:List PyData}:ė G v d->Ö G vs ds->Ö G (v::vs) (d::ds)
end
mutual
theorem ė.mono (s:Ext G G'):∀{v:V}{d:PyData},ė G v d->ė G' v d
 | _,_,.ą=>.ą
 | _,_,.bl b=>.bl b
 | _,_,.int i=>.int i
 | _,_,.str x=>.str x
 | _,_,.lst e r=>.lst (s _ _ e) (Ö.mono s r)
 | _,_,.tup e r=>.tup (s _ _ e) (Ö.mono s r)
 | _,_,.Ų e=>.Ų (s _ _ e)
 | _,_,.JG e r=>.JG (s _ _ e) (ė.mono s r)
theorem Ö.mono (s:Ext G G'):∀{vs:List V}{ds:List PyData},Ö G vs ds->Ö G' vs ds
 | _,_,.nil=>.nil
 | _,_,.cons r t=>.cons (ė.mono s r) (Ö.mono s t)
end
theorem Ö.length:∀{vs:List V}{ds:List PyData},Ö G vs ds->vs.length=ds.length
 | _,_,.nil=>rfl
 | _,_,.cons _ t=>by rw [û,û,t.length]
theorem Ö.append:∀{vs ws:List V}{ds es:List PyData},Ö G vs ds->Ö G ws es->Ö G (vs++ws) (ds++es)
 | _,_,_,_,.nil,s=>s
 | _,_,_,_,.cons r t,s=>.cons r (t.append s)
section
variable {P:Program}{w:World}{H:Hp}{h:Heap}
theorem qL (r:(bM P w).is k u=true):Reads h u (zj k) []:=by
 rw [nE] at r;rcases bf r with⟨i,t,rfl,rfl⟩ | ⟨x,t,rfl,rfl⟩ | ⟨rfl,rfl⟩
 ·exact .int i t
 ·exact .str x t
 ·exact .none
theorem zO (ps:Pairs (bM P w) es ([]:List (Key × Value))):es=[]:=by
 cases ps;rfl
theorem xR (ps:Pairs (bM P w) es [(k,u)]):∃ e,es=[e]/\(bM P w).is k e.key=true/\e.val=u:=by
 cases ps with
 | cons h1 h2 h3 =>
  cases h3;exact⟨_,rfl,h1,h2⟩
mutual
theorem mJ (ok:Ι P w H h)(z:H sysModules=none):∀{v:V}{d:PyData}{u:Value},ė H v d->RelV v u->∃ as,Reads h u d as/\sysModules ∉ as
 | _,_,_,.ą,r=>by cases r;exact⟨[],.none,by simp⟩
 | _,_,_,.bl b,r=>by cases r;exact⟨[],.bool b,by simp⟩
 | _,_,_,.int i,r=>by obtain⟨t,rfl⟩:=r;exact⟨[],.int i t,by simp⟩
 | _,_,_,.str x,r=>by obtain⟨t,rfl⟩:=r;exact⟨[],.str x t,by simp⟩
 | _,_,_,.lst (a:=a) e t,r=>by
  cases r;obtain⟨_,its,n,rv,ho⟩:=(show þ P w H h _ (.lst _) from ok _ _ e);obtain⟨as,ra,na⟩:=Δ ok z t rv;refine⟨a::as,.list ho rfl rfl (by simpa using ra),?_⟩
  intro m;rcases á.mp m with m | m
  ·rw [<- m,z] at e;cases e
  ·exact na m
 | _,_,_,.tup e t,r=>by
  cases r;obtain⟨_,its,rv,o,ho,hc,n,hd⟩:=(show þ P w H h _ (.tup _) from ok _ _ e);obtain⟨as,ra,na⟩:=Δ ok z t rv;exact⟨as,.tuple ho hc hd (by simpa using ra),na⟩
 | _,_,_,.Ų (a:=a) e,r=>by
  cases r;obtain⟨_,hs,vs,kv,o,es,ep,ho,hx,hd,Yy,SB,Yn⟩:=(show þ P w H h _ (.dK _) from ok _ _ e);cases kv;have ee:=zO SB;refine⟨a :: [] ++ [],.dict ho hx.1 hd (by rw [ee];exact .nil) (by rw [ee];exact .nil),?_⟩
  intro m;have m':sysModules=a:=by simpa using m
  rw [<- m',z] at e;cases e
 | _,_,_,.JG (a:=a) (k:=k) e t,r=>by
  cases r;obtain⟨_,hs,vs,kv,o,es,ep,ho,hx,hd,Yy,SB,Yn⟩:=(show þ P w H h _ (.dK _) from ok _ _ e);cases kv with
  | cons q q' =>
   cases q';obtain⟨Yf,JW⟩:=q;obtain⟨e0,ee,ek,ev⟩:=xR SB;rw [<- ev] at JW;rw [<- Yf] at ek;obtain⟨as,ra,na⟩:=mJ ok z t JW;have rk:ReadsAll h [e0.key] [zj k] ([] ++ []):=.cons (qL ek) .nil;have rv:ReadsAll h [e0.val] [_] (as ++ []):=.cons ra .nil;refine⟨a::([] ++ [])++(as ++ []),.dict ho hx.1 hd (by rw [ee];exact rk) (by rw [ee];exact rv),?_⟩
   intro m;rw [Ę,Ę] at m;rcases á.mp m with m | m
   ·rw [<- m,z] at e;cases e
   ·exact na (by simpa using m)
theorem Δ (ok:Ι P w H h)(z:H sysModules=none):∀{vs:List V}{ds:List PyData}{us:List Value},Ö H vs ds->Vals vs us->∃ as,ReadsAll h us ds as/\sysModules ∉ as
 | _,_,_,.nil,r=>by cases r;exact⟨[],.nil,by simp⟩
 | _,_,_,.cons r t,rv=>by
  cases rv with
  | cons q qs =>
   obtain⟨as,ra,na⟩:=mJ ok z r q;obtain⟨bs,rb,nb⟩:=Δ ok z t qs;refine⟨as++bs,.cons ra rb,λ m=>?_⟩;rcases ğ.mp m with m | m
   ·exact na m
   ·exact nb m
end
end
def pf:PyData->String
 | .none => "NoneType"
 | .bool _ => "bool"
 | .int _ => "int"
 | .str _ => "str"
 | .list _ => "list"
 | .tuple _ => "tuple"
 | _ => "dict"
def Ay:PyData->Bool
 | .tuple _=>true
 | _=>false
def vq:PyData->Bool
 | .bool _=>true
 | _=>false
def ko (lo hi:Int):PyData->Bool
 | .int i=>decide (lo<=i)&&decide (i<=hi)
 | _=>false
section
variable {K:Frag}{H:Hp}{v:V}{d:PyData}
theorem ė.ty (r:ė H v d):ŕ K H v (.type (pf d)):=by
 cases r with
 | ą=>exact .ą
 | bl b=>exact .bl b
 | int i=>exact .int i
 | str x=>exact .str x
 | lst e _=>exact .lst e
 | tup e _=>exact .tup e
 | Ų e=>exact .dK e
 | JG e _=>exact .dK e
theorem ė.kd (r:ė H v d):Kd K H v (.type (pf d)):=.inl r.ty
theorem ė.Ue (r:ė H v d):kitOne K (.type (pf d)) (.type "tuple")=some (Ay d):=by cases r <;> rfl
theorem ė.X0 (r:ė H v d):kitOne K (.type (pf d)) (.type "bool")=some (vq d):=by cases r <;> rfl
theorem ė.th (r:ė H v d):Th K H v:=by
 cases r with
 | int i=>exact .inl ⟨i,rfl⟩
 | ą=>exact .inr ⟨λ i z=>(by cases z),_,_,_,.inl .ą,rfl,rfl,rfl⟩
 | bl b=>exact .inr ⟨λ i z=>(by cases z),_,_,_,.inl (.bl b),rfl,rfl,rfl⟩
 | str x=>exact .inr ⟨λ i z=>(by cases z),_,_,_,.inl (.str x),rfl,rfl,rfl⟩
 | lst e _=>exact .inr ⟨λ i z=>(by cases z),_,_,_,.inl (.lst e),rfl,rfl,rfl⟩
 | tup e _=>exact .inr ⟨λ i z=>(by cases z),_,_,_,.inl (.tup e),rfl,rfl,rfl⟩
 | Ų e=>exact .inr ⟨λ i z=>(by cases z),_,_,_,.inl (.dK e),rfl,rfl,rfl⟩
 | JG e _=>exact .inr ⟨λ i z=>(by cases z),_,_,_,.inl (.dK e),rfl,rfl,rfl⟩
theorem ė.KA (r:ė H v d)(lo hi:Int):My.KA lo hi v=ko lo hi d:=by cases r <;> rfl
theorem fV (r:ė H v (.tuple ds)):∃ a xs,v=.ref a/\H a=some (.tup xs)/\Ö H xs ds:=by
 cases r with
 | tup e t=>exact⟨_,_,rfl,e,t⟩
theorem Ö.get (r:Ö H xs ds):∀{i:Nat}{x:V},xs[i]?=some x->∃ d,ds[i]?=some d/\ė H x d:=by
 induction xs generalizing ds with
 | nil=>intro i x h;simp at h
 | cons y ys ih =>
  cases r with
  | cons q t =>
   intro i x h;cases i with
   | zero=>cases h;exact⟨_,rfl,q⟩
   | succ i=>exact ih t h
end
end My
namespace My
open PySem L2
structure Bx (p:Prop):Prop where
 h:p
section
variable {X:Cx}{e a b:Expr}{es:List Expr}{te ta tb:TE}{t:TA}{ø:Pos}{st:Stmt}{rest:List Stmt}{ts u v:TS}
theorem cj:Bx (PA X [] aJ):=⟨au⟩
theorem fw (ha:Bx (PE X e te))(hr:Bx (PA X es t))(hs:starEach (e::es) X.env=(false,eval e X.env)::starEach es X.env:=by rfl):Bx (PA X (e::es) (av te t)):=⟨ac ha.h hr.h hs⟩
theorem iX (h:Bx (PA X es t)):Bx (PE X (.List es ø) (bV t)):=⟨bT h.h⟩
theorem fe {x1}(h:Bx (PA X es t)):Bx (PE X (.Tuple es x1 ø) (iE t)):=⟨bK h.h⟩
theorem Cz (hr:DK X r)(ha:Bx (PE X a ta))(hb:Bx (PE X b tb))(hs:kr b:=by exact λ _ _=>rfl):Bx (PE X (.Subscript a b ø) (aS r ta tb)):=⟨eL hr ha.h hb.h hs⟩
theorem eZ (h:Bx (PE X e te)):Bx (PS X (.Return (some e) ø) (cH te)):=⟨cZ h.h⟩
theorem eO:Bx (ż X [] cB):=⟨gj⟩
theorem bt (h:Bx (PS X st ts)):Bx (ż X [st] ts):=⟨bp h.h⟩
theorem ae (h:Bx (PS X st ts))(k:Bx (ż X rest u)):Bx (ż X (st::rest) (aY ts u)):=⟨cn h.h k.h⟩
theorem iP (hc:Bx (PT X c tc))(hx:Bx (ż X x u))(hy:Bx (ż X y v)):Bx (PS X (.If c x y ø) (eI tc u v)):=⟨bC hc.h hx.h hy.h⟩
theorem aM (hN:X.N.Nodup)(hi:X.N[i]?=some x)(hx:Bp X.env.scope x)(he:Bx (PE X e te))(hs:swapsWith e (some (.Name x pos')) ø.line X.env=pure false:=by rfl)(hf:X.fn x=true\/X.env.scope.names.lookup x=some .local:=by first | exact .inl rfl | exact .inr rfl | assumption) :
  Bx (PS X (.Assign [.Name x pos'] e ø) (cG te (aX i))):=⟨jI hN hi hx he.h hs hf⟩
end
end My
namespace My
open PySem PySem.W L2
open AutoSeq1 (wpAny_loadPart')
section
variable {prog:Program}{w:World}{A:Around}{E:eH}{s:Shared}{r:Addr}{a b c:Int}{t u v:Tok}{n:Nat}
theorem jl (hh:A.handled=none)(hr:IsRange s.heap r a b c t u v)(t_:Builtin.Range.small a b c=true)(hn:Builtin.Range.rangeSize a b c=n)(İ:n<=2^24)
  (hQ:∀ h' tk acc,(∀ b o,s.heap.get? b=some o->h'.get? b=some o)->ItemsOf (λ i v=>∃ t,v=.int (a+i*c) t) acc n->Q acc.toList { s with heap:=h',toks:=tk }) :
  wpAny (model prog w) A (collect (.ref r)) Q E s:=by
 refine À (wpAny_runValue (codeAny_builtin F.entry_proto_collect ?_));rw [Around.under_plainId F.plain_proto_collect _];refine À (Č ?_);refine È ⟨plainId_quiet F.plain_list_iadd _,codeAny_builtin F.entry_list_iadd ?_⟩;rw [Around.under_plainId F.plain_list_iadd _];have hS:(s.heap.push { cls:=.type "list",data:=.seq ([]:List Value).toArray }).get? s.heap.objs.size=some { cls:=.type "list",data:=.seq #[] 0 }:=Ò _ rfl;refine ï (wpAny_extend_range (R:=λ x s'=>∃ h' tk acc c',x=.ok (.ret (.ref s.heap.objs.size))/\s'={ s with heap:=h',toks:=tk }/\(∀ b o,s.heap.get? b=some o->h'.get? b=some o)/\h'.get? s.heap.objs.size=some { cls:=.type "list",dict:=none,data:=.seq acc c',slots:=#[] }/\ItemsOf (λ i v=>∃ t,v=.int (a+i*c) t) acc n)
  hh (Â _ hr) t_ hn İ s.heap.objs.size (.ref s.heap.objs.size) 0 hS (λ h' tk acc c' hk Mp i'=>⟨h',tk,acc,c',rfl,rfl,λ b o e=>hk b o (Ð (Å e)) (Â _ e),Mp,i'⟩)) (λ fin s' h=>?_) (λ e s' h=>?_)
 ·have Qp:∀ Nx,(∃ h' tk acc c',Nx={ s with heap:=h',toks:=tk }/\(∀ b o,s.heap.get? b=some o->h'.get? b=some o)/\h'.get? s.heap.objs.size=some { cls:=.type "list",dict:=none,data:=.seq acc c',slots:=#[] }/\ItemsOf (λ i v=>∃ t,v=.int (a+i*c) t) acc n)->wpAny (model prog w) A (match Value.ref s.heap.objs.size with
   | Value.ref a=>do
    match (<- load a).data with
     | Data.seq xs _=>pure xs.toList
     | _=>unsupported "internal:collect"
   | _=>unsupported "internal:collect") Q E Nx:=λ Nx hx=>by
   obtain⟨h',tk,acc,c',rfl,hk,Mp,i'⟩:=hx;refine À (wpAny_load Mp ?_);exact È (hQ h' tk acc hk i')
  cases fin with
  | done f =>
   obtain⟨h',tk,acc,c',e,h⟩:=h;cases e;exact Qp _ ⟨h',tk,acc,c',h⟩
  | again c'=>exact⟨h.1,ū h.2 λ x Nx hr=>by obtain⟨h',tk,acc,c',rfl,hr⟩:=hr;exact Qp _ ⟨h',tk,acc,c',hr⟩⟩
 ·obtain⟨_,_,_,_,e,_⟩:=h;cases e
end
theorem fu (r:Addr)(a b c:Int)(t u v:Tok)(n:Nat)(t_:Builtin.Range.small a b c=true)(hn:Builtin.Range.rangeSize a b c=n)(İ:n<=2^24) :
  Meets (Builtin.«tuple.__new__» ⟨[.type "tuple",.ref r],[]⟩)
   (λ A R s=>A.handled=none/\IsRange s.heap r a b c t u v/\∀(h':Heap)(tk:Nat)(acc:Array Value),(∀ b o',s.heap.get? b=some o'->h'.get? b=some o')->ItemsOf (λ i v=>∃ t,v=.int (a+i*c) t) acc n->R (.ok (.ret (.ref h'.objs.size))) { s with heap:=h'.push { cls:=.type "tuple",data:=.seq acc },toks:=tk }) :=
 .of_wp λ prog w A R s h=>by
  obtain⟨hh,hr,h⟩:=h;have Qd:=sub_tuple_self;have Uq:=init_tuple_lookup;have hmh:=madeHere_tuple;have hT:s.TypeIs (.ref r) "range" :=⟨_,hr,rfl⟩;have YE:A.in1.handled=none:=hh
  wp_walk using wpAny_typeOf hT,jl YE hr t_ hn İ
  intro h' tk acc hk i';show wpAny _ _ (Builtin.Tuple.tupleExact acc.toList.toArray >>= λ v=>ret v) _ _ _;refine À (Č ?_ (show acc.toList.toArray.size<=sizeLine by simp only [Array.toArray_toList];rw [i'.1,Ô];omega))
  refine È ⟨_,rfl,?_⟩;have e:acc.toList.toArray=acc:=by simp
  rw [e];exact h h' tk acc hk i'
theorem gM {n:Nat}(hh:A.handled=none)(hr:IsRange s.heap r a b c t u v)(t_:Builtin.Range.small a b c=true)(hn:Builtin.Range.rangeSize a b c=n)(İ:n<=2^24)
  (h:∀(h':Heap)(tk:Nat)(acc:Array Value),(∀ b o',s.heap.get? b=some o'->h'.get? b=some o')->ItemsOf (λ i v=>∃ t,v=.int (a+i*c) t) acc n->Q (.ref h'.objs.size) { s with heap:=h'.push { cls:=.type "tuple",data:=.seq acc },toks:=tk }) :
  wpAny (model prog w) A (call (.type "tuple") [.ref r]) Q E s :=
 callType_new F.called_tuple ar (F.typeCall_tuple_1 _) (F.newCall_tuple_1 _) (λ obj=>F.args_object_init_2 obj _) F.entry_tuple_new
  (fu r a b c t u v n t_ hn İ) ⟨hh,hr,λ h' tk acc hk i'=>⟨⟨_,Ò _ rfl,rfl⟩,h h' tk acc hk i'⟩⟩
def tY (lo:Int)(n:Nat):List V:=(List.range n).map λ i=>V.int (lo+(i:Nat))
theorem gf (lo:Int)(n:Nat):(tY lo n).length=n:=by unfold tY;simp
theorem kL {n:Nat}{acc:Array Value}(h:ItemsOf (λ i v=>∃ t,v=Value.int (lo+i*1) t) acc n):Vals (tY lo n) acc.toList:=by
 have gen:∀(xs:List V)(us:List Value),xs.length=us.length->(∀(i:Nat) x u,xs[i]?=some x->us[i]?=some u->RelV x u)->Vals xs us:=by
  intro xs
  induction xs with
  | nil=>intro us l _;cases us with | nil=>exact .nil | cons _ _=>cases l
  | cons x xs ih =>
   intro us l g;cases us with
   | nil=>cases l
   | cons u us=>exact .cons (g 0 x u rfl rfl) (ih us (by simpa using l) λ i x' u' h1 h2=>g (i+1) x' u' h1 h2)
 refine gen _ _ (by rw [gf];simp [h.1]) λ i x u hx hu=>?_
 unfold tY at hx;rw [Ì] at hx;obtain⟨j,hj,rfl⟩:=Ó.mp hx;have ej:i=j:=by
  have:=Æ.mp hj
  simpa using this.2
 subst ej;obtain⟨t,e⟩:=h.2 i u (by simpa using hu)
 refine⟨t,?_⟩;rw [e,Int.mul_one]
section
variable {X:Cx}
def DD:List V->Hp->VK->Prop:=λ vs H Q=>∃ j:Int,vs=[.int j]/\∀ r,H r=none->Q (.ref r) (af H r (.J3 0 j))
theorem qC:cQ X (.type "range") DD:=by
 intro Ä s σ H xs us Q I r h;obtain⟨j,rfl,q⟩:=h;obtain⟨u,rfl,t,rfl⟩:=dO r;refine call_range_1 ⟨.ref s.heap.objs.size,_,I.laid (λ b o e=>Â _ e) (Ç _) ?_,rfl,q _ (I.Đ.fresh (Ç _))⟩;exact⟨_,_,_,Ò _ rfl⟩
def ER:List V->Hp->VK->Prop:=λ vs H Q=>∃(p:Addr)(lo hi:Int),vs=[.ref p]/\H p=some (.J3 lo hi)/\(-(2^62)<=lo/\lo<2^62/\-(2^62)<=hi/\hi<2^62)/\(hi-lo).toNat<=2^24/\∀ l,H l=none->Q (.ref l) (af H l (.tup (tY lo (hi-lo).toNat)))
theorem jL (hc:X.calm=true):cQ X (.type "tuple") ER:=by
 intro Ä s σ H xs us Q I r h;obtain⟨p,lo,hi,rfl,hp,⟨b1,b2,b3,b4⟩,hl,q⟩:=h;obtain⟨u,rfl,rx⟩:=dO r;cases (show u=.ref p from rx);obtain⟨t,u,v,e⟩:=(show þ X.prog X.w H s.heap p (.J3 lo hi) from I.Đ p _ hp);have en:Builtin.Range.rangeSize lo hi 1=(((hi-lo).toNat:Nat):Int):=by rw [rangeSize_one];split <;> omega
 refine gM (I.ok.hd hc) e (small_one b1 b2 b3 b4) en hl λ h' tk acc kp i'=>?_;have I1:Inv X Ä σ H { s with heap:=h' }:=I.kept kp
 have ha:acc.toList.toArray=acc:=by simp
 have I2:Inv X Ä σ (af H h'.objs.size (.tup (tY lo (hi-lo).toNat))) { s with heap:=h'.push { cls:=.type "tuple",data:=.seq acc },toks:=tk } :=
  I1.laid (λ b o e=>Â _ e) (Ç _) (show þ X.prog X.w _ _ _ (.tup _) from⟨by rw [gf,Ô];omega,acc.toList,kL i',by rw [ha];exact PyProof.Rows.IsTup.new _ _⟩)
 exact⟨.ref h'.objs.size,_,I2,rfl,q _ (I1.Đ.fresh (Ç _))⟩
def vZ:List V->Hp->VK->Prop:=λ vs H Q=>∃(p:Addr)(lo hi:Int),vs=[.ref p]/\H p=some (.J3 lo hi)/\(-(2^62)<=lo/\lo<2^62/\-(2^62)<=hi/\hi<2^62)/\(hi-lo).toNat<=2^24/\∀ l,H l=none->Q (.ref l) (af H l (.lst (tY lo (hi-lo).toNat)))
theorem qx (hc:X.calm=true):cQ X (.type "list") vZ:=by
 intro Ä s σ H xs us Q I r h;obtain⟨p,lo,hi,rfl,hp,⟨b1,b2,b3,b4⟩,hl,q⟩:=h;obtain⟨u,rfl,rx⟩:=dO r;cases (show u=.ref p from rx);obtain⟨t,u,v,e⟩:=(show þ X.prog X.w H s.heap p (.J3 lo hi) from I.Đ p _ hp);have en:Builtin.Range.rangeSize lo hi 1=(((hi-lo).toNat:Nat):Int):=by rw [rangeSize_one];split <;> omega
 refine call_list_range (I.ok.hd hc) e (small_one b1 b2 b3 b4) en hl λ h' tk acc c' kp hS i'=>?_;have ha:acc.toList.toArray=acc:=by simp
 have I2:Inv X Ä σ (af H s.heap.objs.size (.lst (tY lo (hi-lo).toNat))) { s with heap:=h',toks:=tk } :=
  I.laid kp (Ç _) (show þ X.prog X.w _ _ _ (.lst _) from⟨by rw [gf,Ô];omega,acc.toList,c',kL i',by rw [ha];exact hS⟩)
 exact⟨.ref s.heap.objs.size,_,I2,rfl,q _ (I.Đ.fresh (Ç _))⟩
end
end My
namespace My
open PySem L2
section
variable {X:Cx}
theorem jF:∀(xs:List Bool),(List.range xs.length).all (λ i=>xs.getD i false)=xs.all id
 | []=>rfl
 | x::xs=>by
  have ih:=jF xs;rw [û,NU,JB,J_,JB,<- ih];rfl
def Id (K:PySem.W.Frag):List V->Hp->VK->Prop:=λ vs H Q=>∃(l:Addr)(xs:List Bool),vs=[.ref l]/\î K H l (xs.map V.bl)/\Q (.bl (xs.all id)) H
theorem kO (hc:X.calm=true):cQ X (.builtin "all") (Id X.K):=by
 intro Ä s σ H vs us Q I r h;obtain⟨l,xs,rfl,hl,q⟩:=h;obtain⟨u,rfl,ru⟩:=dO r;cases (show u=.ref l from ru);obtain⟨its,rv,t,hz⟩:=I.list hl;have ll:l<s.heap.objs.size:=by obtain⟨_,e,_⟩:=t.isList;exact Å e
 have len:=rv.length;rw [Ã] at len;refine call_all_walk (LI t.isList ?_);refine⟨s.heap.objs.size,[s.heap.objs.size,l],[s.heap.objs.size],its.toArray.size,(λ i v=>its.toArray[i]?=some v),_,λ i=>xs.getD i false,rfl,Walks.list (A:=X.A.in1) (I.ok.hd hc) s.heap.objs.size l (Ð ll) its.toArray,
  ⟨⟨_,Ò _ rfl,rfl,rfl⟩,t.isList.push _⟩,λ i v s' Q' E' hv hq=>?_,λ h' tk hk=>⟨.bl _,H,I.kept (λ b o e=>hk b o (λ m=>?_) (Â _ e)),?_,q⟩⟩
 ·have OX:its[i]?=some v:=by simpa using hv
  have lt:=(Æ.mp OX).1;have OV:i<xs.length:=ak;obtain⟨u1,e1,q1⟩:=rv.get (by rw [Ì,Á OV];rfl)
  rw [OX] at e1;cases e1;cases (show v=Value.bool xs[i] from q1);refine Ŋ ?_;have e:xs.getD i false=xs[i]:=by simp [OV]
  rw [<- e];exact hq
 ·rcases á.mp m with e2 | m
  ·exact absurd (Å e) (by rw [e2];exact Į _)
  ·cases m
 ·show Value.bool _=Value.bool _;have e:=jF xs;rw [<- e,Û,<- len]
end
end My
namespace My
open PySem PySem.W L2
section
variable {K:Frag}{te:TE}{tt:TT}{g:TG}{k:Nat}{cap:St}{D:Addr}{H1:Hp}{Q:Hp->Prop}{a:Addr}{xs:List V}
theorem bz (Pv:Nat->List V->Hp->Prop)(hz:xs.length<sizeLine)(h0:Pv 0 [] (af H1 D (.lst [])))
  (hl:∀ i ys H,Pv i ys H->î K H a xs)
  (hs:∀ i x ys H,xs[i]?=some x->ys.length=i->H D=some (.lst ys)->Pv i ys H->∀ os:St,os.length=k->∀ R:VK,(∀ y H4,H4 D=some (.lst ys)->Pv (i+1) (ys ++ [y]) (af H4 D (.lst (ys ++ [y])))->R y H4)->g x (os++cap) H λ Ĭ H0=>(∃ ł:St,ł.length=k/\Ĭ = ł ++ cap)/\te Ĭ H0 R)
  (hd:∀ ys H,ys.length=xs.length->H D=some (.lst ys)->Pv xs.length ys H->Q H) :
  ∃ W:Nat->Nat->List V->Hp->Prop,(∃ m,W 0 m [] (af H1 D (.lst []))) /\
   ∀ i m ys H2,W i m ys H2->H2 D=some (.lst ys)/\(((ji K a).stop i H2/\Q H2)\/((ji K a).go i H2/\ys.length<sizeLine /\
    ∀ x H3,(ji K a).JD i H2 x H3->∀ os:St,os.length=k->g x (os++cap) H3 λ Ĭ H0=>(∃ ł:St,ł.length=k/\Ĭ = ł ++ cap)/\te Ĭ H0 λ y H4=>H4 D=some (.lst ys)/\∃ m',m'<m/\W (i+1) m' (ys ++ [y]) (af H4 D (.lst (ys ++ [y]))))):=by
 refine⟨λ i m ys H=>m=xs.length-i/\i<=xs.length/\ys.length=i/\H D=some (.lst ys)/\Pv i ys H,⟨xs.length,by simp,Nat.zero_le _,rfl,aO,h0⟩,?_⟩
 rintro i m ys H ⟨rfl,hi,hy,hD,p⟩;refine⟨hD,?_⟩;have q:=hl i ys H p;by_cases ź:i<xs.length
 ·refine .inr ⟨⟨xs,xs[i],q,by simp [ź]⟩,ak,λ x H' y=>?_⟩
  obtain⟨e,y⟩:=y;subst e;exact λ os į=>hs i x ys _ (y xs q) hy hD p os į _ λ z H4 Os p4=>⟨Os,xs.length-(i+1),ak,rfl,ź,by rw [É,hy];rfl,aO,p4⟩
 ·have e:i=xs.length:=ak;subst e;exact .inl ⟨⟨xs,q,Ç _⟩,hd ys H hy hD p⟩
theorem rY (Pv:Nat->List V->Hp->Prop)(hz:xs.length<sizeLine)(h0:Pv 0 [] (af H1 D (.lst [])))
  (hl:∀ i ys H,Pv i ys H->î K H a xs)
  (hs:∀ i x ys H p,xs[i]?=some x->ys.length=i->H D=some (.lst ys)->Pv i ys H->H p=none->∀ os:St,os.length=k->∀ R:VK,(∀ y H4,H4 D=some (.lst ys)->Pv (i+1) (ys ++ [y]) (af H4 D (.lst (ys ++ [y])))->R y H4)->g (.ref p) (os++cap) (af H p (.tup [.int (i:Nat),x])) λ Ĭ H0=>(∃ ł:St,ł.length=k/\Ĭ = ł ++ cap)/\te Ĭ H0 R)
  (hd:∀ ys H,ys.length=xs.length->H D=some (.lst ys)->Pv xs.length ys H->Q H) :
  ∃ W:Nat->Nat->List V->Hp->Prop,(∃ m,W 0 m [] (af H1 D (.lst []))) /\
   ∀ i m ys H2,W i m ys H2->H2 D=some (.lst ys)/\(((wF K a).stop i H2/\Q H2)\/((wF K a).go i H2/\ys.length<sizeLine /\
    ∀ x H3,(wF K a).JD i H2 x H3->∀ os:St,os.length=k->g x (os++cap) H3 λ Ĭ H0=>(∃ ł:St,ł.length=k/\Ĭ = ł ++ cap)/\te Ĭ H0 λ y H4=>H4 D=some (.lst ys)/\∃ m',m'<m/\W (i+1) m' (ys ++ [y]) (af H4 D (.lst (ys ++ [y]))))):=by
 refine⟨λ i m ys H=>m=xs.length-i/\i<=xs.length/\ys.length=i/\H D=some (.lst ys)/\Pv i ys H,⟨xs.length,by simp,Nat.zero_le _,rfl,aO,h0⟩,?_⟩
 rintro i m ys H ⟨rfl,hi,hy,hD,p⟩;refine⟨hD,?_⟩;have q:=hl i ys H p;by_cases ź:i<xs.length
 ·refine .inr ⟨⟨xs,xs[i],q,by simp [ź]⟩,ak,λ x H' y=>?_⟩
  obtain⟨p',z,rfl,Oe,rfl,Q4⟩:=y;exact λ os į=>hs i z ys H p' (Q4 xs q) hy hD p Oe os į _ λ z H4 Os p4=>⟨Os,xs.length-(i+1),ak,rfl,ź,by rw [É,hy];rfl,aO,p4⟩
 ·have e:i=xs.length:=ak;subst e;exact .inl ⟨⟨xs,q,Ç _⟩,hd ys H hy hD p⟩
end
end My
namespace My
open PySem L2
section
variable {X:Cx}{sc:Scope}{cl:List (Str × Addr)}{ts zs:List Str}{js:List Nat}{elt iter c:Expr}{ø:Pos}{tg:Expr}{g:TG}{wi:TI}{te:TE}{tt:TT}
theorem jU (hc:X.calm=true)(S:aT X sc cl ts zs js)(hi:PI X tg iter wi)(hg:∀ s H C fp,PG (bE X sc cl (ts++zs) s H C fp) tg g)(he:∀ s H C fp,PE (bE X sc cl (ts++zs) s H C fp) elt te)
  (hN:X.N.Nodup)(YB:X.N[iy]?=some y)(hy:Bp X.env.scope y)(X_:swapsWith (.ListComp elt [⟨tg,iter,[],0⟩] sc ø) (some (.Name y py)) RE.line X.env=pure true)
  (hf:X.fn y=true\/X.env.scope.names.lookup y=some .local:=by first | exact .inl rfl | exact .inr rfl | assumption)
  (hs:∀ v,foldedSetIterable iter X.env v=pure v:=by intro _;rfl):PS X (.Assign [.Name y py] (.ListComp elt [⟨tg,iter,[],0⟩] sc ø) RE) (cG (cD wi ts.length js g te) (aX iy)):=by
 intro Ä s σ H De I h;rw [exec_Assign_Name_used _ _ _ _ X_];refine À (Ĩ (À ?_));show wpAny _ _ (do let _ <- comprehension (.ListComp elt [⟨tg,iter,[],0⟩] sc ø) sc X.env _ (newList []) false (eval iter X.env) (some (assign (.Name y py) X.env))) _ _ s
 refine À (ï (Ĺ (use:=some (assign (.Name y py) X.env)) (Q:=λ _ s'=>SP X Ä De .next s') rfl hs S.δ S.kind S.names ?_) (λ _ s' hq=>È (È hq)) λ _ _ e=>e);refine(aV (hi Ä s σ H _ I h) λ v s1 h1=>aV h1 λ Oc s2 h2=>?_);obtain⟨it,fp,tn,J,H2,e,I2,T,Js,f2,body⟩:=h2;subst e;have Nh:H2 s2.heap.objs.size=none:=I2.fresh;obtain⟨W,⟨m0,w0⟩,turn⟩:=body _ Nh;refine Č ?_;have I3:Inv X Ä σ (af H2 s2.heap.objs.size (.lst [])) { s2 with heap:=s2.heap.push { cls:=.type "list",data:=.seq ([]:List Value).toArray } }:=I2.Lg (t':=s2.toks) (ys:=[]) (its:=[]) .nil (ģ _)
 refine Α S.JR (by intro y hy;simp at hy) (λ Ŏ hn K1=>?_) S.kind
 generalize JV:({ s2 with heap:=s2.heap.push { cls:=.type "list",data:=.seq ([]:List Value).toArray } }:Shared)=s3 at I3 hn K1 ⊢
 have k_:∀ b∈fp,cT X Ä (af H2 s2.heap.objs.size (.lst [])) b/\b<s3.heap.objs.size:=λ b hb=>by
  obtain⟨o,ho,_⟩:=T.obj _ _ Js b hb;have hl:=Å ho;have Na:b≠s2.heap.objs.size:=Ð hl;obtain⟨z1,z2⟩:=f2 b hb;refine⟨⟨by rw [ah Na];exact z1,z2⟩,?_⟩
  rw [<- JV];show b<(s2.heap.push _).objs.size;rw [ñ];exact Ć hl
 have old:∀ b o,s3.heap.get? b=some o->Ŏ.get? b=some o:=λ b o e=>K1.extBut b o (Ð (Å e)) (Â _ e);have loop:∀ sS:Shared,sS.heap = Ŏ->sS.os=s3.os->sS.gens=s3.gens->codeAny (model X.prog X.w) X.A (.compLoop (.ListComp elt [⟨tg,iter,[],0⟩] sc ø) 0 (.ref it) (.ref s2.heap.objs.size) (compEnvC sc cl s3.heap.objs.size X.env))
   (compPost (model X.prog X.w) X.A X.xe (some (assign (.Name y py) X.env)) (λ _ s'=>SP X Ä De .next s') (.ref s2.heap.objs.size) s3.heap.objs.size) sS:=by
  intro sS eh eo eg;subst eh;have J0:Inv (bE X sc cl (ts++zs) s3 (af H2 s2.heap.objs.size (.lst [])) s3.heap.objs.size fp) [] (List.replicate ts.length none++cz js σ) (af H2 s2.heap.objs.size (.lst [])) sS:=dM I3 S k_ (Ç _) eo eg old hn;generalize hX:bE X sc cl (ts++zs) s3 (af H2 s2.heap.objs.size (.lst [])) s3.heap.objs.size fp=X' at J0;have Ŗ:∀{H':Hp},(∀ b∈fp,H' b=none)->∀ b∈fp,cT X' [] H' b:=λ {H'} hn b hb=>by
   subst hX;obtain⟨⟨_,z1,z2,z3,z4,z5⟩,z6⟩:=k_ b hb;refine⟨hn b hb,Ð z6,λ q=>?_,.inl hb,λ y c e=>z4 y c (S.sub _ _ e),λ p hp=>absurd (show p∈([]:List (Addr × Obj)) from hp) (by simp)⟩
   rcases á.mp (I3.Ŧ b q) with e | e
   ·exact z1 e
   ·exact z2 e
  have Lz:tn 0 sS.heap:=T.keep _ _ _ Js λ b hb o e=>old b o (by rw [<- JV];exact Â _ e)
  refine gU (λ n s'=>∃ i ys os H',os.length=ts.length/\Inv X' [] (os++cz js σ) H' s'/\tn i s'.heap/\(∀ b∈fp,H' b=none)/\W i n ys H') ?_ m0 ⟨0,[],_,_,Ù,J0,Lz,λ b hb=>(k_ b hb).1.1,w0⟩;rintro n s' ⟨i,ys,os,H',į,Iv,st,fr,w⟩;obtain⟨hD,alt⟩:=turn i n ys H' w;have eP:X'.prog=X.prog:=by subst hX;rfl
  have eW:X'.w=X.w:=by subst hX;rfl
  have eK:X'.K=X.K:=by subst hX;rfl
  have eC:X'.calm=true:=by subst hX;exact hc
  have eA:X'.A=X.A:=by subst hX;rfl
  have eE:X'.env=compEnvC sc cl s3.heap.objs.size X.env:=by subst hX;rfl
  have eX:X'.xe = λ _ _=>False:=by subst hX;rfl
  rcases alt with⟨stop,q⟩ | ⟨go,İ,step⟩
  ·have d:=T.done X' eP eW eK eC i [] s' _ H' (λ _ _=>False) Iv (Ŗ fr) st stop;rw [eA] at d;refine aV d λ r s4 ⟨hr,I4⟩=>?_;subst hr;obtain⟨m,hm,_⟩:=id I4.loc;have fC:H' s3.heap.objs.size=none:=by
    have z:=I4.free;rw [eE] at z;exact z
   rw [eE] at hm;subst hX;have I5:Inv X Ä σ H' s4:=fP (h':=s4.heap) I3 k_ (Ç _) I4 ⟨rfl,λ _ _=>rfl⟩;show wpAny _ _ (assign (.Name y py) X.env (.ref s2.heap.objs.size)) _ _ s4;have nC:∀ b,b<s3.heap.objs.size->b≠s3.heap.objs.size:=λ b hb=>Ð hb;have nL:=nC _ I3.lt;have Va:∀ z c,X.env.cells.lookup z=some c->c≠s3.heap.objs.size:=λ z c e=>by
    obtain⟨v,o,ho,_⟩:=I3.cell z c e;exact nC _ (Å ho)
   refine wpAny_assign_Name (jB I5 hN YB hy (v:=.ref s2.heap.objs.size) rfl (λ s5 I6 hb=>?_) hf);obtain⟨a5,Xm,Rc⟩:=hb;have XM:s3.heap.objs.size≠a5:=by
    rcases Rc with e | e
    ·rw [e];exact nL.symm
    ·exact(Va _ _ e).symm
   refine⟨m,hm.sameBut Xm XM,λ h' Mg=>?_⟩;have I7:Inv X Ä (σ.set iy (some (.ref s2.heap.objs.size))) H' { s5 with heap:=h',toks:=s5.toks } :=
    I6.turned (λ b o hb e=>(Mg.2 b hb).trans e) fC nL.symm (.inr I3.sz) Va λ p hp=>by
     obtain⟨e1,_⟩:=I3.pin p hp;exact nC _ (Å e1)
   exact⟨_,H',I7,q⟩
  ·have d:=T.item X' eP eW eK eC i [] s' _ H' (λ _ _=>False) Iv (Ŗ fr) st go;rw [eA] at d;refine aV d λ r s4 ⟨u,hr,h4⟩=>?_;subst hr;refine aV h4 λ _ s5 ⟨y,H5,I5,r5,y5,e_,Mu⟩=>?_;have ME:=I5.pinned (Ŗ Mu) (T.obj _ _ e_);have Nc:PG X' tg g:=by subst hX;exact hg _ _ _ _
   have g6:=Nc _ s5 _ H5 y u _ ME r5 (step y H5 y5 os į);rw [eP,eW,eA,eE,eX] at g6;refine aV g6 λ _ s6 ⟨OH,H6,I6,⟨ł,Jx,e6⟩,M3⟩=>?_;subst e6;have Ol:PE X' elt te:=by subst hX;exact he _ _ _ _
   have g7:=Ol _ s6 _ H6 _ I6 M3;rw [eP,eW,eA,eE,eX] at g7;refine aV g7 λ uv s7 ⟨v7,H7,I7,r7,Op,m',Lo,w7⟩=>?_;have g8:=(dz) _ s7 _ H7 (.ref s2.heap.objs.size) [v7] (.ref s2.heap.objs.size) [uv] (λ _ H8=>H8=af H7 s2.heap.objs.size (.lst (ys ++ [v7]))) I7 rfl (.cons r7 .nil) ⟨_,ys,v7,rfl,rfl,Op,İ,rfl⟩;rw [eP,eW,eA,eX] at g8;refine aV g8 λ _ s8 ⟨_,H8,I8,_,e8⟩=>?_;subst e8;refine⟨m',Lo,i+1,ys ++ [v7],ł,_,Jx,I8.ņ,T.keep _ _ _ e_ λ b hb o e=>(I8.pin (b,o) (Ë _ (Ë _ (ba hb e)))).1,λ b hb=>?_,w7⟩;obtain⟨o',e',_⟩:=T.obj _ _ e_ b hb;exact(I8.pin (b,o') (Ë _ (Ë _ (ba hb e')))).2.1
 have KP:=T.keep _ _ _ Js λ b hb o e=>old b o (by rw [<- JV];exact Â _ e)
 exact Ŭ (loop _ rfl rfl rfl) (T.self _ 0 _ _ _ KP (loop _ rfl rfl rfl))
end
end My
namespace My
open PySem PySem.W L2
def sP (K:PySem.W.Frag)(n:Nat)(t:Bo):TG:=λ v σ H Q=>∃ a xs,v=.ref a/\î K H a xs/\xs.length=n/\t xs σ H Q
section
variable {X:Cx}{ø:Pos}
theorem pR (hc:X.calm=true)(h:B0 X es t)
  (hn:(assignEach es X.env).length=n:=by rfl)(MK:(assignEach es X.env).findIdx? (·.1)=none:=by rfl):PG X (.Tuple es k ø) (sP X.K n t):=by
 intro Ä s σ H v u Q I r hw;obtain⟨a,xs,e1,hq,hl,hw⟩:=hw;subst e1;cases r;obtain⟨its,rv,ht,hz⟩:=I.list hq;rw [PyProof.Rows.assign_Tuple];refine À (Ĩ ?_);unfold unpack;rw [MK,show(assignEach es X.env).length=its.toArray.size by rw [hn,Û,<- rv.length];exact hl.symm]
 refine À (ă (kun_itemsOf (I.ok.hd hc) ht.isList λ h' hx=>?_));have I1:Inv X Ä σ H { s with heap:=h' }:=I.kept λ b o e=>hx b o (Ð (Å e)) e
 exact h Ä _ σ H xs _ Q I1 (by simpa using rv) hw
end
section
variable {K:Frag}{te:TE}{g:TG}{k:Nat}{cap:St}{D:Addr}{H1:Hp}{Q:Hp->Prop}
theorem gH (Pv:Nat->List V->Hp->Prop)(hz:n<sizeLine)(h0:Pv 0 [] (af H1 D (.lst [])))
  (hs:∀ i ys H,i<n->ys.length=i->H D=some (.lst ys)->Pv i ys H->∀ os:St,os.length=k->∀ R:VK,(∀ y H4,H4 D=some (.lst ys)->Pv (i+1) (ys ++ [y]) (af H4 D (.lst (ys ++ [y])))->R y H4)->g (.int (lo+i)) (os++cap) H λ Ĭ H0=>(∃ ł:St,ł.length=k/\Ĭ = ł ++ cap)/\te Ĭ H0 R)
  (hd:∀ ys H,ys.length=n->H D=some (.lst ys)->Pv n ys H->Q H) :
  ∃ W:Nat->Nat->List V->Hp->Prop,(∃ m,W 0 m [] (af H1 D (.lst []))) /\
   ∀ i m ys H2,W i m ys H2->H2 D=some (.lst ys)/\(((vj lo n).stop i H2/\Q H2)\/((vj lo n).go i H2/\ys.length<sizeLine /\
    ∀ x H3,(vj lo n).JD i H2 x H3->∀ os:St,os.length=k->g x (os++cap) H3 λ Ĭ H0=>(∃ ł:St,ł.length=k/\Ĭ = ł ++ cap)/\te Ĭ H0 λ y H4=>H4 D=some (.lst ys)/\∃ m',m'<m/\W (i+1) m' (ys ++ [y]) (af H4 D (.lst (ys ++ [y]))))):=by
 refine⟨λ i m ys H=>m=n-i/\i<=n/\ys.length=i/\H D=some (.lst ys)/\Pv i ys H,⟨n,by simp,Nat.zero_le _,rfl,aO,h0⟩,?_⟩
 rintro i m ys H ⟨rfl,hi,hy,hD,p⟩;refine⟨hD,?_⟩;by_cases ź:i<n
 ·refine .inr ⟨ź,ak,λ x H' y=>?_⟩;obtain⟨e,y⟩:=y;subst e y;exact λ os į=>hs i ys _ ź hy hD p os į _ λ z H4 Os p4=>⟨Os,n-(i+1),ak,rfl,ź,by rw [É,hy];rfl,aO,p4⟩
 ·have e:i=n:=ak;subst e;exact .inl ⟨Ç _,hd ys H hy hD p⟩
end
section
variable {X:Cx}
theorem i9:∀{ns:List Int}{its:List Value},Vals (ns.map V.int) its->∃ xs:List (Int × Tok),its=xs.map (λ p=>Value.int p.1 p.2)/\ns=xs.map (·.1)
 | [],_,r=>by cases r;exact⟨[],rfl,rfl⟩
 | n::ns,_,r=>by
  rw [ë] at r;cases r with
  | cons r1 r2 =>
   obtain⟨t,rfl⟩:=r1;obtain⟨xs,e1,e2⟩:=i9 r2;exact⟨(n,t)::xs,by rw [e1];rfl,by rw [e2];rfl⟩
theorem p9 {xs:List (Int × Tok)}(h:i<xs.length):numAt xs.toArray i=(xs.map (·.1))[i]'(by rw [Ã];exact h):=by
 simp [numAt,h]
end
structure gP (K:Frag)(mg:bL)(D:Addr)(nm fld:Str)(C f:Addr)(fd:FuncData):Prop where
 cls:ř K D nm C f
 LB:mg nm=some (.ref C)
 ok:∀(P:Program)(w:World)(base:Heap),Þ P w K mg base ay 1 f fd ["self",fld] (lQ C fld)
 bi:Binds K fd ["self",fld] []
structure Df (P:Program)(w:World)(K:Frag)(mg:bL)(base:Heap)(cx:kD)(k:Nat)(nm:Str)(ps:List Str)(sp:Sp)(g:Addr)(gd:FuncData):Prop where
 G:Þ P w K mg base cx k g gd ps sp
 b:Binds K gd ps []
 kp:keepIn K (.ref g)=true
 m:mg nm=some (.ref g)
theorem cL {X:Cx}{CX:kD}{k:Nat}{x:Str}{ps:List Str}{sp:Sp}{f:Addr}{fd:FuncData}{E:XK}{e:Expr}{es:List Expr}{t:TA}{p ø:Pos}(A:Df X.prog X.w X.K X.mg X.base CX k x ps sp f fd)(hr:ó k X.A)(hx:dk CX X E)(ha:PA X (e::es) t)(hg:Gl X x:=by exact rfl)(JX:(x==("__debug__" : Str))=false:=by decide)(he:starEach (e::es) X.env=(false,eval e X.env)::starEach es X.env:=by rfl) (Ρ:(backTo ø (starEach es X.env)).any (·.1)=false:=by rfl):PE X (.Call (.Name x p) (e::es) [] ø) (eu sp [] E t):=gG A.G hr hg A.m A.kp A.b .nil hx ha JX he Ρ
theorem cw:dk (cy P w) X E0:=λ _ _ _ _ _ _ _ h=>by
 obtain⟨_,_,_,_,_,_,_,_,_,_,_,_,_,h⟩:=h;exact h.elim
def cu (C:Addr)(fld:Str)(x:V)(H:Hp)(E:XK):Prop:=∀ e dx,H e=none->H dx=none->dx≠e->E (.ref C) (some e) (af (af H dx (.xd [(fld,x)])) e (nF e C (some dx)))
def MP (K:Frag)(H:Hp)(v:V)(n:String):Prop:=∃ t,Kd K H v t/\kitOne K t (.type n)=some false
theorem MP.ext (h:MP K H v n)(x:Ext H H'):MP K H' v n:=by
 obtain⟨t,k,e⟩:=h;exact⟨t,k.ext x,e⟩
theorem eQ (h:ko lo hi d=true):∃ i,d=.int i/\lo<=i/\i<=hi:=by
 cases d with
 | int i =>
  have h':(decide (lo<=i)&&decide (i<=hi))=true:=h;rw [Ψ,ő,ő] at h';exact⟨i,rfl,h'.1,h'.2⟩
 | _=>cases h
def dS (bs:List Bool)(i:Nat):Prop:=(∀ j b,j<i->bs[j]?=some b->b=true)/\bs[i]?=some false
theorem aN (o:HO)(x:Ext H0 H)(h:H0 l=none):Ext H0 (af H l o):=λ b u e=>by
 rw [ah (λ z=>by rw [z,h] at e;cases e)]
 exact x b u e
theorem aE {α:Type}{xs:List α}{x:α}(h:xs[i]?=some x):xs.take (i+1)=xs.take i ++ [x]:=by
 rw [List.take_succ,h];rfl
def Kept (H H':Hp)(p:Addr):Prop:=∀ b o,H b=some o->b≠p->H' b=some o
theorem Kept.refl (H:Hp)(p:Addr):Kept H H p:=λ _ _ h _=>h
theorem Kept.trans (x:Kept H H1 p)(y:Kept H1 H2 p):Kept H H2 p:=λ b o h n=>y b o (x b o h n) n
theorem Ext.kept (x:Ext H H')(p:Addr):Kept H H' p:=λ b o h _=>x b o h
def wo (H:Hp)(p:Addr):Hp:=λ b=>if b=p then none else H b
theorem ai (H:Hp)(p:Addr):Ext (wo H p) H:=λ b o e=>by
 unfold wo at e;split at e
 ·cases e
 ·exact e
theorem bw (n:b≠p)(e:H b=some o):wo H p b=some o:=by unfold wo;rw [Ü n];exact e
theorem aH (k:Kept H H' p):Ext (wo H p) (wo H' p):=λ b o e=>by
 unfold wo at e;split at e
 ·cases e
 ·rename_i n
  exact bw n (k b o e n)
structure ĸ (H:Hp)(p:Addr):Prop where
 ex:∃ a b c:Int,H p=some (.lst [.int a,.int b,.int c])/\0<=a/\0<=b/\0<=c/\c<2147483647
theorem ĸ.ext (h:ĸ H p)(x:Ext H H'):ĸ H' p:=by
 obtain⟨a,b,c,e,r⟩:=h.ex;exact⟨a,b,c,x _ _ e,r⟩
theorem ĸ.ne (h:ĸ H p)(e:H q=none):q≠p:=λ z=>by
 obtain⟨a,b,c,f,_⟩:=h.ex;rw [z,f] at e;cases e
structure Fi (k n:Nat)(d:PyData):Prop where
 sh:d.showable=true
 dp:d.depth<=k
 lv:d.leavesShort 64=true
 bk:d.bulk<=n
theorem z7 (h:i.natAbs<10^30):Fi 0 2 (.int i):=by
 refine⟨?_,by simp [PyData.depth],?_,by simp [PyData.bulk]⟩
 ·simp only [PyData.showable,decide_eq_true_eq];by_cases z:i.natAbs=0
  ·rw [z];decide
  ·exact(Nat.log2_lt z).mpr (θ h ao)
 ·have e:=int_text_length_le10 ar h;simp only [PyData.leavesShort,PyData.shown];refine Ê (show(Str.ofString (toString i)).length<=64 from ?_);rw [ofString_length];omega
theorem tQ (h1:-1000000000<=i)(h2:i<=1000000000):Fi 0 2 (.int i):=z7 (Nat.lt_of_le_of_lt (show i.natAbs<=1000000000 by omega) ar)
section
variable {K:Frag}{H:Hp}{D:cP}{σ:St}{p:Addr}
theorem fF (h:ta σ H λ x H1=>tb σ H1 λ y H2=>r x y H2 Q):aS r ta tb σ H Q:=h
theorem ĸ.up (b:ĸ H p)(n:l≠p):ĸ (af H l o) p:=by
 obtain⟨x,y,z,hp,r⟩:=b;exact⟨x,y,z,by rw [ah n.symm];exact hp,r⟩
theorem aL (h:te σ H λ v H1=>u D (σ.set i (some v)) H1):aY (cG te (aX i)) u D σ H:=h
end
def wt (H:Hp)(p t:Addr):Hp:=wo (wo H p) t
theorem wZ (H:Hp)(p t:Addr):Ext (wt H p t) H:=(ai _ t).trans (ai H p)
theorem iQ (n:b≠p)(m:b≠t)(e:H b=some o):wt H p t b=some o:=bw m (bw n e)
theorem vh (k:Kept H H' p):Ext (wt H p t) (wt H' p t):=aH ((aH k).kept t)
theorem pK (x:Ext H H')(p t:Addr):Ext (wt H p t) (wt H' p t):=vh (x.kept p)
theorem hW (h:wo H p a=some o):a≠p:=λ e=>by
 unfold wo at h;rw [â e] at h;cases h
theorem bo (x:Ext H H')(p:Addr):Ext (wo H p) (wo H' p):=aH (x.kept p)
structure GE (p:Addr)(k m:Nat)(te:TE):Prop where
 h:∀(σ:St)(H:Hp)(Q:VK),ĸ H p->(∀ v H',Ext H H'->(∃ d,ė (wo H' p) v d/\Fi k m d)->Q v H')->te σ H Q
section
variable {p:Addr}{k m k' m' n:Nat}{te ta tb:TE}{t:TA}
theorem t6 (r:∀ G,ė G v d)(f:Fi k m d):GE p k m (tC v):=⟨λ σ H Q bx q=>q v H (.refl _) ⟨d,r _,f⟩⟩
theorem ge_int (h1:-1000000000<=i)(h2:i<=1000000000):GE p 0 2 (tC (.int i)):=t6 (λ _=>.int _) (tQ h1 h2)
end
section
variable {X:Cx}
def oh (K:Frag):R2:=λ x y H Q=>∃ p q xs,x=.ref p/\y=.ref q/\î K H p xs/\î K H q []/\Q (.bl (!xs.isEmpty)) H
theorem kK (hu:X.A.units<cLine):ia X (compareOp .NotEq) (oh X.K):=by
 intro Ä s σ H x y v u Q I rx ry h;obtain⟨p,q,xs,rfl,rfl,hp,hq,k⟩:=h;cases rx;cases ry;obtain⟨its,r1,t1,_⟩:=I.list hp;obtain⟨ŧ,r2,t2,_⟩:=I.list hq;have l1:=r1.length;have l2:=r2.length;have e2:=ĳ.mp l2.symm;subst e2;cases xs with
 | nil =>
  have e1:=ĳ.mp l1.symm;subst e1;exact SeqAt.RcNeAt.lists (e:=λ _=>true) t1.isList t2.isList rfl hu (λ j h _=>absurd h (Ľ _)) X.prog X.w X.xe _ ⟨.bl false,H,I,rfl,k⟩
 | cons x xs =>
  exact SeqAt.RcNeAt.lists_lengths t1.isList t2.isList (by simp [<- l1]) hu X.prog X.w X.xe _ ⟨.bl true,H,I,rfl,k⟩
end
section
variable {K:Frag}{H:Hp}
def rH (K:Frag)(t:TA):TE:=λ σ H Q=>t σ H λ xs H1=>xs.length<=sizeLine/\∀ p,H1 p=none->K.lookup p=none->Q (.ref p) (af H1 p (.lst xs))
theorem vG (h:PA X es t):PE X (.List es ø) (rH X.K t):=by
 intro Ä s σ H Q I hq;refine wpAny_List_spliced (aV (h ø Ä s σ H _ I hq) λ us s1 ⟨xs,H1,I1,r,z,q⟩=>⟨by rw [<- r.length];exact z,?_⟩)
 have hf:=I1.Đ.fresh (Ç _);have hk:X.K.lookup s1.heap.objs.size=none:=by
  cases e:X.K.lookup s1.heap.objs.size with
  | none=>rfl
  | some o=>exact absurd (Å (I1.Ō _ _ e)) (Į _)
 refine⟨.ref s1.heap.objs.size,af H1 s1.heap.objs.size (.lst xs),I1.laid (λ b u e=>Â _ e) (Ç _) ?_,rfl,q _ hf hk⟩;exact⟨z,us,0,r,Ò _ rfl⟩
theorem î.neN (h:î K H a xs)(hp:H p=none)(hk:K.lookup p=none):a≠p:=λ e=>by
 subst e;rcases h with(h | ⟨o,h⟩) | ⟨o,its,n,h,_⟩
 ·rw [hp] at h;cases h
 ·rw [hp] at h;cases h
 ·rw [hk] at h;cases h
end
theorem lU:Ext (wt H p t) (wt (af H t o) p t):=λ c u h=>by
 have h1:=wZ H p t _ _ h;have n2:=hW h;have n1:=hW (ai _ t _ _ h);exact iQ n1 n2 (by rw [ah n2];exact h1)
def wC (K:Frag):V->V->Hp->VK->Prop:=λ o i H Q=>∃(p:Addr)(xs:List V)(k:Nat)(v:V),o=.ref p/\i=.int (k:Nat)/\î K H p xs/\xs[k]?=some v/\Q v H
theorem rT:Dc X (wC X.K):=by
 intro Ä s σ H o i ov iv Q I ro ri h;obtain⟨p,xs,k,v,rfl,rfl,hq,hv,q⟩:=h;cases (show ov=.ref p from ro);obtain⟨t,rfl⟩:=ri;obtain⟨its,r,pl,hz⟩:=I.list hq;obtain⟨u,hu,ru⟩:=r.get hv;exact wpAny_getItem_list pl.isList ak (by have:=(Æ.mp hu).1;have:=r.length;have:=ix;simp;omega) (by simpa using hu) ⟨v,H,I,ru,q⟩
theorem î.kp (h:î K H a xs)(k:Kept H H' p)(n:a≠p):î K H' a xs:=by
 rcases h with(h | ⟨o,h⟩) | h
 ·exact .inl (.inl (k _ _ h n))
 ·exact .inl (.inr ⟨o,k _ _ h n⟩)
 ·exact .inr h
theorem hG (val:Nat->Int)(ns:List Int)(h:∀(i:Nat)(hi:i<ns.length),val i=ns[i]):∀ k,k<=ns.length->preSum val k=(ns.take k).sum
 | 0,_=>by simp [preSum]
 | k+1,hk=>by
  have ih:=hG val ns h k ak;have e:ns.take (k+1)=ns.take k ++ [ns[k]]:=aE (Á ak);show preSum val k+val k=_;rw [ih,h k ak,e,K5];simp
section
variable {X:Cx}
def rW (K:Frag):List V->Hp->VK->Prop:=λ vs H Q=>∃(l:Addr)(ns:List Int),vs=[.ref l]/\î K H l (ns.map V.int)/\Q (.int ns.sum) H
theorem fQ (hc:X.calm=true):cQ X (.builtin "sum") (rW X.K):=by
 intro Ä s σ H xs us Q I r h;obtain⟨l,ns,rfl,hl,q⟩:=h;obtain⟨u,rfl,ru⟩:=dO r;cases (show u=.ref l from ru);obtain⟨its,rv,p,hz⟩:=I.list hl;obtain⟨xs,rfl,rfl⟩:=i9 rv;have e:(xs.map λ p=>.int p.1 p.2).toArray=intItems xs.toArray:=by simp [intItems]
 have hL:s.heap.IsList l (intItems xs.toArray):=by rw [<- e];exact p.isList
 refine sum_intListG (I.ok.hd hc) hL λ h' tk t' hk=>?_;have es:preSum (numAt xs.toArray) xs.toArray.size=(xs.map (·.1)).sum:=by
  have:=hG (numAt xs.toArray) (xs.map (·.1)) (λ i hi=>p9 (by simpa using hi)) xs.toArray.size (by simp)
  rw [this,List.take_of_length_le (by simp)]
 rw [es];exact⟨.int _,H,I.kept hk,⟨t',rfl⟩,q⟩
end
section
variable {X:Cx}
def B9 (K:Frag):List V->Hp->VK->Prop:=λ vs H Q=>∃ x S t b,vs=[x,.ref S]/\Kd K H x t/\kitOne K t (.ref S)=some b/\Q (.bl b) H
theorem lY (N:rX X.K):cQ X (.builtin "isinstance") (B9 X.K):=by
 intro Ä s σ H xs us Q I r h;obtain⟨x,S,t,b,rfl,kd,e,q⟩:=h;obtain⟨u,u',rfl,ru,Ny⟩:=iL r;cases (show u'=.ref S from Ny);rcases kd with ty | ⟨p,ys,rfl,hq,rfl⟩ | ⟨a,C,rfl,ea,T,rfl⟩
 ·exact jq I ru ty e λ tk=>⟨.bl b,H,I.tok _,rfl,q⟩
 ·cases (show u=.ref p from ru);obtain⟨its,_,⟨o,h1,h2,_⟩,_⟩:=I.tuple hq;exact kia_one kitx_tuple I.Ō ⟨o,h1,h2⟩ e (λ z=>nomatch z) λ tk=>⟨.bl b,H,I.tok _,rfl,q⟩
 ·cases (show u=.ref a from ru);exact kia_one (qX T N.gt N.tk) I.Ō (ea.inst I.Đ) e (λ z=>nomatch z) λ tk=>⟨.bl b,H,I.tok _,rfl,q⟩
end
mutual
def du:PyData->PyData->Bool
 | .list xs,.list ys=>x_ xs ys
 | .tuple xs,.tuple ys=>x_ xs ys
 | .none,.none=>true
 | .bool a,.bool b=>a==b
 | .bool a,.int j=>(if a then(1:Int) else 0)==j
 | .int i,.bool b=>i==(if b then(1:Int) else 0)
 | .int i,.int j=>i==j
 | .str x,.str y=>x==y
 | _,_=>false
def x_:List PyData->List PyData->Bool
 | [],[]=>true
 | x::xs,y::ys=>du x y&&x_ xs ys
 | _,_=>false
end
mutual
def aZ:PyData->Bool
 | .list xs=>ĩ xs
 | .tuple xs=>ĩ xs
 | .dict _=>false
 | _=>true
def ĩ:List PyData->Bool
 | []=>true
 | x::xs=>aZ x && ĩ xs
end
mutual
theorem lW:∀{d:PyData},aZ d=true->du d d=true
 | .none,_=>by simp [du]
 | .bool b,_=>by simp [du]
 | .int i,_=>by simp [du]
 | .str x,_=>by simp [du]
 | .list xs,h=>by simp only [du];exact ű (by simpa only [aZ] using h)
 | .tuple xs,h=>by simp only [du];exact ű (by simpa only [aZ] using h)
 | .dict _,h=>by simp [aZ] at h
theorem ű:∀{ds:List PyData},ĩ ds=true->x_ ds ds=true
 | [],_=>by simp [x_]
 | d::ds,h=>by
  simp only [ĩ,Bool.and_eq_true] at h;simp only [x_,lW h.1,ű h.2,Bool.and_self]
end
mutual
theorem ė.det:∀{v:V}{d e:PyData},ė G v d->ė G v e->d=e
 | _,_,_,.ą,r=>by cases r;rfl
 | _,_,_,.bl b,r=>by cases r;rfl
 | _,_,_,.int i,r=>by cases r;rfl
 | _,_,_,.str x,r=>by cases r;rfl
 | _,_,_,.lst h t,r=>by
  cases r with
  | lst h' t'=>rw [h] at h';cases h';rw [Ö.det t t']
  | tup h' _=>rw [h] at h';cases h'
  | Ų h'=>rw [h] at h';cases h'
  | JG h' _=>rw [h] at h';cases h'
 | _,_,_,.tup h t,r=>by
  cases r with
  | lst h' _=>rw [h] at h';cases h'
  | tup h' t'=>rw [h] at h';cases h';rw [Ö.det t t']
  | Ų h'=>rw [h] at h';cases h'
  | JG h' _=>rw [h] at h';cases h'
 | _,_,_,.Ų h,r=>by
  cases r with
  | lst h' _=>rw [h] at h';cases h'
  | tup h' _=>rw [h] at h';cases h'
  | Ų h'=>rfl
  | JG h' _=>rw [h] at h';cases h'
 | _,_,_,.JG h t,r=>by
  cases r with
  | lst h' _=>rw [h] at h';cases h'
  | tup h' _=>rw [h] at h';cases h'
  | Ų h'=>rw [h] at h';cases h'
  | JG h' t'=>rw [h] at h';cases h';rw [ė.det t t']
theorem Ö.det:∀{vs:List V}{ds es:List PyData},Ö G vs ds->Ö G vs es->ds=es
 | _,_,_,.nil,r=>by cases r;rfl
 | _,_,_,.cons h t,r=>by
  cases r with
  | cons h' t'=>rw [ė.det h h',Ö.det t t']
end
theorem i5:∀(xs ys:List PyData),((List.range (min xs.length ys.length)).all (λ j=>du (xs.getD j .none) (ys.getD j .none))&&xs.length==ys.length)=x_ xs ys
 | [],[]=>by simp [x_]
 | [],y::ys=>by simp [x_]
 | x::xs,[]=>by simp [x_]
 | x::xs,y::ys=>by
  have ih:=i5 xs ys;simp only [x_];rw [<- ih,û,û,Nat.succ_min_succ,NU,JB,J_,Bool.and_assoc]
  congr 1
  rw [show(xs.length+1==ys.length+1)=(xs.length==ys.length) from by simp]
  rfl
section
variable {X:Cx}
structure Ih (A:Around)(s:Shared)(u v:Value)(b:Bool):Prop where
 eq:SeqAt.RcAt A s u v b
 ne:SeqAt.RcNeAt A s u v (!b)
structure IS (A:Around)(s:Shared)(u v:Value)(b:Bool):Prop where
 eq:SeqAt.RcAt A s u v b
 ne:SeqAt.RcNeAt A s u v (!b)
 at_:SeqAt.EqAt A s u v b
theorem vn {its ŧ:List Value}(hu:A.units<cLine)(t1:s.heap.IsTuple p its.toArray)(t2:s.heap.IsTuple q ŧ.toArray)(e:Nat->Bool)(he:∀ j (h1:j<its.length)(h2:j < ŧ.length),SeqAt.EqAt A.in1 s its[j] ŧ[j] (e j)) :
  Ih A s (.ref p) (.ref q) ((List.range (min its.length ŧ.length)).all e&&its.length == ŧ.length):=by
 have h':=λ j h1 h2=>by
  simpa using he j (by simpa using h1) (by simpa using h2)
 have a:=SeqAt.RcAt.tuples t1 t2 hu h';have b:=SeqAt.RcNeAt.tuples t1 t2 hu h';rw [Û,Û] at a b;exact⟨a,b⟩
theorem uc {its ŧ:List Value}(hu:A.units<cLine)(t1:s.heap.IsList p its.toArray)(t2:s.heap.IsList q ŧ.toArray)(e:Nat->Bool)(he:∀ j (h1:j<its.length)(h2:j < ŧ.length),SeqAt.EqAt A.in1 s its[j] ŧ[j] (e j)) :
  Ih A s (.ref p) (.ref q) ((List.range (min its.length ŧ.length)).all e&&its.length == ŧ.length):=by
 have h':=λ j h1 h2=>by
  simpa using he j (by simpa using h1) (by simpa using h2)
 by_cases sz:its.length = ŧ.length
 ·have a:=SeqAt.RcAt.lists t1 t2 (by simpa using sz) hu h'
  have b:=SeqAt.RcNeAt.lists t1 t2 (by simpa using sz) hu h'
  rw [Û] at a b;have z:((List.range (min its.length ŧ.length)).all e&&its.length == ŧ.length)=(List.range its.length).all e:=by
   rw [sz,Nat.min_self];simp
  rw [z];exact⟨a,b⟩
 ·have z:((List.range (min its.length ŧ.length)).all e&&its.length == ŧ.length)=false:=by
   rw [show(its.length == ŧ.length)=false from by simpa using sz]
   simp
  rw [z];exact⟨SeqAt.RcAt.lists_lengths t1 t2 (by simpa using sz) hu,SeqAt.RcNeAt.lists_lengths t1 t2 (by simpa using sz) hu⟩
mutual
theorem mV (I:Inv X Ä σ H s):∀{x:V}{d:PyData},ė H x d->∀{A:Around}{y:V}{e:PyData}{u v:Value},ė H y e->aZ d=true->aZ e=true->A.units+d.depth<cLine->RelV x u->RelV y v->IS A s u v (du d e)
 | _,_,.ą,A,y,e,u,v,ry,pd,pe,hu,ru,rv=>by
  have h0:A.units<cLine:=ak;cases ru;cases ry with
  | ą=>cases rv;simp only [du];exact⟨.none_none,.none_none,.same _⟩
  | bl b=>cases rv;simp only [du];exact⟨.none_bool _,.none_bool _,.none_bool _⟩
  | int j=>obtain⟨t,rfl⟩:=rv;simp only [du];exact⟨.none_int _ _,.none_int _ _,.none_int _ _⟩
  | str z=>obtain⟨t,rfl⟩:=rv;simp only [du];exact⟨.none_str _ _,.none_str _ _,.none_str _ _⟩
  | lst h _=>cases rv;obtain⟨its,_,t,_⟩:=I.list (î.of (K:=X.K) h);simp only [du];exact⟨.none_list t.isList h0,.none_list t.isList h0,.none_list t.isList h0⟩
  | tup h _=>cases rv;obtain⟨its,_,t,_⟩:=I.tuple (ĝ.of (K:=X.K) h);simp only [du];exact⟨.none_tuple t h0,.none_tuple t h0,.none_tuple t h0⟩
  | Ų _=>simp [aZ] at pe
  | JG _ _=>simp [aZ] at pe
 | _,_,.bl a,A,y,e,u,v,ry,pd,pe,hu,ru,rv=>by
  have h0:A.units<cLine:=ak;cases ru;cases ry with
  | ą=>cases rv;simp only [du];exact⟨.bool_none _,.bool_none _,.bool_none _⟩
  | bl b=>cases rv;simp only [du];exact⟨.bool_bool _ _,.bool_bool _ _,.bool_bool _ _⟩
  | int j=>obtain⟨t,rfl⟩:=rv;simp only [du];exact⟨.bool_int _ _ _,.bool_int _ _ _,.bool_int _ _ _⟩
  | str z=>obtain⟨t,rfl⟩:=rv;simp only [du];exact⟨.bool_str _ _ _,.bool_str _ _ _,.bool_str _ _ _⟩
  | lst h _=>cases rv;obtain⟨its,_,t,_⟩:=I.list (î.of (K:=X.K) h);simp only [du];exact⟨.bool_list _ t.isList h0,.bool_list _ t.isList h0,.bool_list _ t.isList h0⟩
  | tup h _=>cases rv;obtain⟨its,_,t,_⟩:=I.tuple (ĝ.of (K:=X.K) h);simp only [du];exact⟨.bool_tuple _ t h0,.bool_tuple _ t h0,.bool_tuple _ t h0⟩
  | Ų _=>simp [aZ] at pe
  | JG _ _=>simp [aZ] at pe
 | _,_,.int i,A,y,e,u,v,ry,pd,pe,hu,ru,rv=>by
  have h0:A.units<cLine:=ak;obtain⟨tu,rfl⟩:=ru;cases ry with
  | ą=>cases rv;simp only [du];exact⟨.int_none _ _,.int_none _ _,.int_none _ _⟩
  | bl b=>cases rv;simp only [du];exact⟨.int_bool _ _ _,.int_bool _ _ _,.int_bool _ _ _⟩
  | int j=>obtain⟨t,rfl⟩:=rv;simp only [du];exact⟨.int_int _ _ _ _,.int_int _ _ _ _,.int_int _ _ _ _⟩
  | str z=>obtain⟨t,rfl⟩:=rv;simp only [du];exact⟨.int_str _ _ _ _,.int_str _ _ _ _,.int_str _ _ _ _⟩
  | lst h _=>cases rv;obtain⟨its,_,t,_⟩:=I.list (î.of (K:=X.K) h);simp only [du];exact⟨.int_list _ _ t.isList h0,.int_list _ _ t.isList h0,.int_list _ _ t.isList h0⟩
  | tup h _=>cases rv;obtain⟨its,_,t,_⟩:=I.tuple (ĝ.of (K:=X.K) h);simp only [du];exact⟨.int_tuple _ _ t h0,.int_tuple _ _ t h0,.int_tuple _ _ t h0⟩
  | Ų _=>simp [aZ] at pe
  | JG _ _=>simp [aZ] at pe
 | _,_,.str x,A,y,e,u,v,ry,pd,pe,hu,ru,rv=>by
  have h0:A.units<cLine:=ak;obtain⟨tu,rfl⟩:=ru;cases ry with
  | ą=>cases rv;simp only [du];exact⟨.str_none _ _,.str_none _ _,.str_none _ _⟩
  | bl b=>cases rv;simp only [du];exact⟨.str_bool _ _ _,.str_bool _ _ _,.str_bool _ _ _⟩
  | int j=>obtain⟨t,rfl⟩:=rv;simp only [du];exact⟨.str_int _ _ _ _,.str_int _ _ _ _,.str_int _ _ _ _⟩
  | str z=>obtain⟨t,rfl⟩:=rv;simp only [du];exact⟨.str_str _ _ _ _,.str_str _ _ _ _,.str_str _ _ _ _⟩
  | lst h _=>cases rv;obtain⟨its,_,t,_⟩:=I.list (î.of (K:=X.K) h);simp only [du];exact⟨.str_list _ _ t.isList h0,.str_list _ _ t.isList h0,.str_list _ _ t.isList h0⟩
  | tup h _=>cases rv;obtain⟨its,_,t,_⟩:=I.tuple (ĝ.of (K:=X.K) h);simp only [du];exact⟨.str_tuple _ _ t h0,.str_tuple _ _ t h0,.str_tuple _ _ t h0⟩
  | Ų _=>simp [aZ] at pe
  | JG _ _=>simp [aZ] at pe
 | _,_,.lst (a:=a') (xs:=xs) (ds:=ds) h rs,A,y,e,u,v,ry,pd,pe,hu,ru,rv=>by
  have h0:A.units<cLine:=ak;cases ru;obtain⟨its,r1,t1,_⟩:=I.list (î.of h);cases ry with
  | ą=>cases rv;simp only [du];exact⟨.list_none t1.isList h0,.list_none t1.isList h0,.list_none t1.isList h0⟩
  | bl b=>cases rv;simp only [du];exact⟨.list_bool _ t1.isList h0,.list_bool _ t1.isList h0,.list_bool _ t1.isList h0⟩
  | int j=>obtain⟨t,rfl⟩:=rv;simp only [du];exact⟨.list_int _ _ t1.isList h0,.list_int _ _ t1.isList h0,.list_int _ _ t1.isList h0⟩
  | str z=>obtain⟨t,rfl⟩:=rv;simp only [du];exact⟨.list_str _ _ t1.isList h0,.list_str _ _ t1.isList h0,.list_str _ _ t1.isList h0⟩
  | @lst b' ys es h' ts =>
   cases rv;obtain⟨ŧ,r2,t2,_⟩:=I.list (î.of h');have PH:ĩ ds=true:=by simpa only [aZ] using pd
   have RV:ĩ es=true:=by simpa only [aZ] using pe
   have dd:A.in1.units+PyData.depthAll ds<cLine:=by rw [jz];simp only [PyData.depth] at hu;omega
   have k:=uc h0 t1.isList t2.isList (λ j=>du (ds.getD j .none) (es.getD j .none)) (λ j h1 h2=>JY I rs ts PH RV dd r1 r2 h1 h2);rw [<- r1.length,<- r2.length,rs.length,ts.length,i5] at k;simp only [du];refine⟨k.eq,k.ne,?_⟩;by_cases e:a'=b'
   ·subst e;rw [h] at h';cases h';have:=Ö.det rs ts;subst this;rw [ű PH];exact JA _
   ·exact .of_refs e k.eq
  | tup h' _=>cases rv;obtain⟨ŧ,_,t,_⟩:=I.tuple (ĝ.of h');simp only [du];exact⟨.list_tuple t1.isList t h0,.list_tuple t1.isList t h0,.list_tuple t1.isList t h0⟩
  | Ų _=>simp [aZ] at pe
  | JG _ _=>simp [aZ] at pe
 | _,_,.tup (a:=a') (ds:=ds) h rs,A,y,e,u,v,ry,pd,pe,hu,ru,rv=>by
  have h0:A.units<cLine:=ak;cases ru;obtain⟨its,r1,t1,_⟩:=I.tuple (ĝ.of h);cases ry with
  | ą=>cases rv;simp only [du];exact⟨.tuple_none t1 h0,.tuple_none t1 h0,.tuple_none t1 h0⟩
  | bl b=>cases rv;simp only [du];exact⟨.tuple_bool _ t1 h0,.tuple_bool _ t1 h0,.tuple_bool _ t1 h0⟩
  | int j=>obtain⟨t,rfl⟩:=rv;simp only [du];exact⟨.tuple_int _ _ t1 h0,.tuple_int _ _ t1 h0,.tuple_int _ _ t1 h0⟩
  | str z=>obtain⟨t,rfl⟩:=rv;simp only [du];exact⟨.tuple_str _ _ t1 h0,.tuple_str _ _ t1 h0,.tuple_str _ _ t1 h0⟩
  | @tup b' ys es h' ts =>
   cases rv;obtain⟨ŧ,r2,t2,_⟩:=I.tuple (ĝ.of h');have PH:ĩ ds=true:=by simpa only [aZ] using pd
   have RV:ĩ es=true:=by simpa only [aZ] using pe
   have dd:A.in1.units+PyData.depthAll ds<cLine:=by rw [jz];simp only [PyData.depth] at hu;omega
   have k:=vn h0 t1 t2 (λ j=>du (ds.getD j .none) (es.getD j .none)) (λ j h1 h2=>JY I rs ts PH RV dd r1 r2 h1 h2);rw [<- r1.length,<- r2.length,rs.length,ts.length,i5] at k;simp only [du];refine⟨k.eq,k.ne,?_⟩;by_cases e:a'=b'
   ·subst e;rw [h] at h';cases h';have:=Ö.det rs ts;subst this;rw [ű PH];exact JA _
   ·exact .of_refs e k.eq
  | lst h' _=>cases rv;obtain⟨ŧ,_,t,_⟩:=I.list (î.of h');simp only [du];exact⟨.tuple_list t1 t.isList h0,.tuple_list t1 t.isList h0,.tuple_list t1 t.isList h0⟩
  | Ų _=>simp [aZ] at pe
  | JG _ _=>simp [aZ] at pe
 | _,_,.Ų _,_,_,_,_,_,_,pd,_,_,_,_=>by simp [aZ] at pd
 | _,_,.JG _ _,_,_,_,_,_,_,pd,_,_,_,_=>by simp [aZ] at pd
theorem JY (I:Inv X Ä σ H s):∀{xs:List V}{ds:List PyData},Ö H xs ds->∀{A:Around}{ys:List V}{es:List PyData}{its ŧ:List Value},Ö H ys es->ĩ ds=true->ĩ es=true->A.units+PyData.depthAll ds<cLine->Vals xs its->Vals ys ŧ ->
  ∀{j:Nat}(h1:j<its.length)(h2:j < ŧ.length),SeqAt.EqAt A s its[j] ŧ[j] (du (ds.getD j .none) (es.getD j .none))
 | _,_,.nil,A,ys,es,its,ŧ,ts,pd,pe,hu,r1,r2,j,h1,h2=>by cases r1;exact absurd h1 (Ľ _)
 | _,_,.cons r rs,A,ys,es,its,ŧ,ts,pd,pe,hu,r1,r2,j,h1,h2=>by
  cases ts with
  | nil=>cases r2;exact absurd h2 (Ľ _)
  | cons r' ts =>
   cases r1 with
   | cons q1 r1 =>
    cases r2 with
    | cons q2 r2 =>
     simp only [ĩ,Bool.and_eq_true] at pd pe;simp only [PyData.depthAll] at hu;cases j with
     | zero =>
      exact(mV I r r' pd.1 pe.1 ak q1 q2).at_
     | succ j=>exact JY I rs ts pd.2 pe.2 ak r1 r2 (by simpa using h1) (by simpa using h2)
end
def jf (g:Bool->Bool):R2:=λ x y H Q=>∃ d e,ė H x d/\ė H y e/\aZ d=true/\aZ e=true/\d.depth<=20/\Q (.bl (g (du d e))) H
theorem rM (hu:X.A.units+64<cLine):ia X (compareOp .Eq) (jf id):=by
 intro Ä s σ H x y v u Q I rx ry h;obtain⟨d,e,r1,r2,p1,p2,dd,k⟩:=h;exact(mV I r1 r2 p1 p2 ak rx ry).eq X.prog X.w X.xe _ ⟨.bl _,H,I,rfl,k⟩
theorem iF (hu:X.A.units+64<cLine):ia X (compareOp .NotEq) (jf not):=by
 intro Ä s σ H x y v u Q I rx ry h;obtain⟨d,e,r1,r2,p1,p2,dd,k⟩:=h;exact(mV I r1 r2 p1 p2 ak rx ry).ne X.prog X.w X.xe _ ⟨.bl _,H,I,rfl,k⟩
end
end My
namespace My
open PySem PySem.W L2
def bv (P:Program)(w:World)(K:Frag)(mg:bL)(base:Heap)(CX:kD)(k:Nat)(m:Str)(ps:List Str)(S:Addr->Prop)(sp:Addr->Sp):Prop :=
 ∀ C,S C->Lx K C/\∃ f fd,CV K C m f/\Þ P w K mg base CX k f fd ps (sp C)/\Binds K fd ps []
def bD (S:Addr->Prop)(m:Str)(sp:Addr->Sp)(E:XK)(ta:TE)(t:TA):TE:=λ σ H Q=>ta σ H λ x H1=>∃ a C dx fs,x=.ref a/\S C/\H1 a=some (.ins C dx fs)/\fs.lookup m=none /\
 t σ H1 λ vs H2=>sp C (x::vs) H2 Q E
section
variable {X:Cx}{CX:kD}{k:Nat}{S:Addr->Prop}{ps:List Str}{sp:Addr->Sp}{E:XK}{x m:Str}{p ø ũ:Pos}{e o:Expr}{es:List Expr}{ta:TE}{t:TA}{σ:St}
theorem aQ (he:PE X o ta)(M:bv X.prog X.w X.K X.mg X.base CX k m ps S sp)(hr:ó k X.A)(hx:dk CX X E)(ha:PA X (e::es) t)
  (MK:starEach (e::es) X.env=(false,eval e X.env)::starEach es X.env:=by rfl) (Ρ:(backTo ø (starEach es X.env)).any (·.1)=false:=by rfl)
  (ht:eval (.Call (.Attribute o m ũ) (e::es) [] ø) X.env=(do
   let ov <- eval o X.env
   standAt ũ.atName
   let (f,first) <- holding [ov] (getMethod ov m pl)
   callWith ø f first (backTo ø (starEach (e::es) X.env)) (backToKw ø (keywordEach [] X.env))):=by rfl) :
  PE X (.Call (.Attribute o m ũ) (e::es) [] ø) (bD S m sp E ta t):=by
 intro Ä s σ H Q I h;refine Š (aV (he Ä s σ H _ I h) λ u s1 ⟨x,H1,I1,rx,a,C,dx,fs,ex,hS,ea,l,q⟩=>?_) ht;subst ex;obtain⟨c,f,fd,hm,F,hb⟩:=M C hS;obtain rfl:u=.ref a:=rx;refine iB I1 ea c hm l ?_;refine Œ I.ok.mod.N' hm.kp (aV (ha ø Ä s1 σ H1 _ I1 q) λ us s2 ⟨vs,H2,I2,r,q2⟩=>⟨I2.Ō,?_⟩) MK Ρ;exact jR (vs:=.ref a::vs) F hr hb .nil hx I2 (.cons rfl r) (by rw [Ę];exact q2)
theorem bc (he:PE X o ta)(M:bv X.prog X.w X.K X.mg X.base CX k m ps S sp)(hr:ó k X.A)(hx:dk CX X E)
  (ht:eval (.Call (.Attribute o m ũ) [] [] ø) X.env=(do
   let ov <- eval o X.env
   standAt ũ.atName
   let (f,first) <- holding [ov] (getMethod ov m pl)
   callWith ø f first (backTo ø (starEach [] X.env)) (backToKw ø (keywordEach [] X.env))):=by rfl) :
  PE X (.Call (.Attribute o m ũ) [] [] ø) (bD S m sp E ta aJ):=by
 intro Ä s σ H Q I h;refine Š (aV (he Ä s σ H _ I h) λ u s1 ⟨x,H1,I1,rx,a,C,dx,fs,ex,hS,ea,l,q⟩=>?_) ht;subst ex;obtain⟨c,f,fd,hm,F,hb⟩:=M C hS;obtain rfl:u=.ref a:=rx;refine iB I1 ea c hm l ?_;exact PySem.W.callWith_K0 I1.Ō hm.kp (jR (vs:=[.ref a]) F hr hb .nil hx I1 (.cons rfl .nil) q)
end
section
variable {K:Frag}{te:TE}{tt:TT}{g:TG}{k:Nat}{cap:St}{D:Addr}{H1:Hp}{Q:Hp->Prop}{a:Addr}{xs:List V}
theorem pN (Pv:Nat->List V->Hp->Prop)(hz:xs.length<sizeLine)(h0:Pv 0 [] (af H1 D (.lst [])))
  (hl:∀ i ys H,Pv i ys H->ĝ K H a xs)
  (hs:∀ i x ys H,xs[i]?=some x->ys.length=i->H D=some (.lst ys)->Pv i ys H->∀ os:St,os.length=k->∀ R:VK,(∀ y H4,H4 D=some (.lst ys)->Pv (i+1) (ys ++ [y]) (af H4 D (.lst (ys ++ [y])))->R y H4)->g x (os++cap) H λ Ĭ H0=>(∃ ł:St,ł.length=k/\Ĭ = ł ++ cap)/\te Ĭ H0 R)
  (hd:∀ ys H,ys.length=xs.length->H D=some (.lst ys)->Pv xs.length ys H->Q H) :
  ∃ W:Nat->Nat->List V->Hp->Prop,(∃ m,W 0 m [] (af H1 D (.lst []))) /\
   ∀ i m ys H2,W i m ys H2->H2 D=some (.lst ys)/\(((Br K a).stop i H2/\Q H2)\/((Br K a).go i H2/\ys.length<sizeLine /\
    ∀ x H3,(Br K a).JD i H2 x H3->∀ os:St,os.length=k->g x (os++cap) H3 λ Ĭ H0=>(∃ ł:St,ł.length=k/\Ĭ = ł ++ cap)/\te Ĭ H0 λ y H4=>H4 D=some (.lst ys)/\∃ m',m'<m/\W (i+1) m' (ys ++ [y]) (af H4 D (.lst (ys ++ [y]))))):=by
 refine⟨λ i m ys H=>m=xs.length-i/\i<=xs.length/\ys.length=i/\H D=some (.lst ys)/\Pv i ys H,⟨xs.length,by simp,Nat.zero_le _,rfl,aO,h0⟩,?_⟩
 rintro i m ys H ⟨rfl,hi,hy,hD,p⟩;refine⟨hD,?_⟩;have q:=hl i ys H p;by_cases ź:i<xs.length
 ·refine .inr ⟨⟨xs,xs[i],q,by simp [ź]⟩,ak,λ x H' y=>?_⟩
  obtain⟨e,y⟩:=y;subst e;exact λ os į=>hs i x ys _ (y xs q) hy hD p os į _ λ z H4 Os p4=>⟨Os,xs.length-(i+1),ak,rfl,ź,by rw [É,hy];rfl,aO,p4⟩
 ·have e:i=xs.length:=ak;subst e;exact .inl ⟨⟨xs,q,Ç _⟩,hd ys H hy hD p⟩
end
theorem aR (o:HO):Kept H (af H p o) p:=λ b u h n=>by rw [ah n];exact h
def dF:PyData->Bool
 | .tuple [.int a,.int b]=>(decide (1<=b)&&(decide (0<=a)&&decide (a<=b)))&&decide (Nat.gcd a.toNat b.toNat=1)
 | _=>false
def dm:PyData->Bool
 | .tuple [.int a,.int b]=>dF (.tuple [.int a,.int b])&&(decide (2<=b)&&decide (b<=100))
 | _=>false
def cO (lo:Int)(n:Nat):List Int:=(List.range n).map λ k=>lo+(k:Nat)
def oo (p:List Int):PyData:=.tuple (p.map .int)
def nI (p:List Int):PyData:=.list (p.map .int)
theorem nh (lo:Int)(n:Nat):tY lo n=(cO lo n).map V.int:=by unfold tY cO;rw [ý];rfl
theorem dA (G:Hp):∀(ns:List Int),Ö G (ns.map V.int) (ns.map PyData.int)
 | []=>.nil
 | n::ns=>.cons (.int _) (dA G ns)
theorem jY:∀{p:List Int}{ys:List V},Ö G ys (p.map PyData.int)->ys=p.map V.int
 | [],_,h=>by cases h;rfl
 | n::p,_,h=>by
  cases h with
  | cons r t =>
   cases r;rw [jY t];rfl
theorem iV {ps:List (List Int)}(rs:Ö G xs (ps.map oo)){i:Nat}(hx:xs[i]?=some x)(hp:ps[i]?=some p):∃ a,x=.ref a/\G a=some (.tup (p.map V.int)):=by
 obtain⟨d,ed,rd⟩:=rs.get hx;rw [Ì,hp] at ed;cases ed;obtain⟨a,ys,rfl,ha,ry⟩:=fV rd;refine⟨a,rfl,?_⟩;rw [<- jY ry];exact ha
def wz:HO->Bool
 | .lst _=>true
 | .tup _=>true
 | .dK _=>true
 | _=>false
mutual
theorem ė.keep (s:∀ b o,G b=some o->wz o=true->G' b=some o):∀{v:V}{d:PyData},ė G v d->ė G' v d
 | _,_,.ą=>.ą
 | _,_,.bl b=>.bl b
 | _,_,.int i=>.int i
 | _,_,.str x=>.str x
 | _,_,.lst e r=>.lst (s _ _ e rfl) (Ö.keep s r)
 | _,_,.tup e r=>.tup (s _ _ e rfl) (Ö.keep s r)
 | _,_,.Ų e=>.Ų (s _ _ e rfl)
 | _,_,.JG e r=>.JG (s _ _ e rfl) (ė.keep s r)
theorem Ö.keep (s:∀ b o,G b=some o->wz o=true->G' b=some o):∀{vs:List V}{ds:List PyData},Ö G vs ds->Ö G' vs ds
 | _,_,.nil=>.nil
 | _,_,.cons r t=>.cons (ė.keep s r) (Ö.keep s t)
end
theorem ė.kept (r:ė H v d)(hx:H x=some (.ins C dx fs))(k:Kept H H' x):ė H' v d :=
 r.keep λ b o e h=>k b o e λ z=>by rw [z,hx] at e;cases e;cases h
inductive R0 where
 | split (n k:Int)
 | pairs (n a b:Int)
 | ŏ (n a b f:Int)
def R0.Ï:R0->Int
 | .split n _=>n
 | .pairs n _ _=>2*n
 | .ŏ n _ _ _=>n
def R0.begin:R0->PyData
 | .split _ k=>.int k
 | .pairs _ _ _=>.none
 | .ŏ _ _ _ _=>.int 0
def R0.told:R0->PyData
 | .split n k=>.tuple [.str "split",.int n,.int k]
 | .pairs n a b=>.tuple [.str "pairs",.int n,.tuple [.int a,.int b]]
 | .ŏ n a b f=>.tuple [.str "coins",.int n,.tuple [.int a,.int b],.int f]
def R0.kind:R0->Nat
 | .split _ _=>0
 | .pairs _ _ _=>1
 | .ŏ _ _ _ _=>2
def R0.ok:R0->Prop
 | .split n k=>1<=n/\n<=20/\0<=k/\k<=n
 | .pairs n a b=>1<=n/\n<=10/\dm (.tuple [.int a,.int b])=true
 | .ŏ n a b f=>1<=n/\n<=20/\dm (.tuple [.int a,.int b])=true/\1<=f/\f<=20
theorem R0.Ą {r:R0}(h:r.ok):1<=r.Ï/\r.Ï <= 20:=by
 cases r <;> simp only [R0.ok,R0.Ï] at * <;> omega
def bU:Int->List Int->List (List Int)
 | _,[]=>[]
 | s,n::ns=>cO s n.toNat::bU (s+n) ns
def gO (m:Int)(ps:List (List Int)):List (List Int):=(ps.map (·.filter λ x=>decide (x<m))).filter λ p=>decide (0<p.length)
inductive Rl where
 | one (r:R0)
 | blocks (rs:List R0)
 | first (t:Rl)(m:Int)
def Rl.Ï:Rl->Int
 | .one r=>r.Ï
 | .blocks rs=>(rs.map R0.Ï).sum
 | .first _ m=>m
def Rl.begin:Rl->PyData
 | .one r=>r.begin
 | .blocks []=>.tuple [.int 0,.none]
 | .blocks (r::_)=>.tuple [.int 0,r.begin]
 | .first t _=>t.begin
def Rl.told:Rl->PyData
 | .one r=>r.told
 | .blocks rs=>.tuple [.str "blocks",.tuple (rs.map R0.told)]
 | .first t m=>.tuple [.str "first",t.told,.int m]
def Rl.parts:Rl->List (List Int)
 | .one r=>[cO 0 r.Ï.toNat]
 | .blocks rs=>bU 0 (rs.map R0.Ï)
 | .first t m=>gO m t.parts
def Rl.kind:Rl->Nat
 | .one r=>r.kind
 | .blocks _=>3
 | .first _ _=>4
def Rl.inner:Rl->Rl
 | .first t _=>t.inner
 | t=>t
def fq (ps:List (List Int)):PyData:=.tuple (ps.map oo)
def Rl.ok:Rl->Prop
 | .one r=>r.ok
 | .blocks rs=>1<=rs.length/\rs.length<=6/\(∀ r∈rs,r.ok)/\(rs.map R0.Ï).sum<=20
 | .first t m=>t.ok/\0<=m/\m<=t.Ï
theorem cE:∀{ns:List Int},(∀ n∈ns,0<=n)->0<=ns.sum
 | [],_=>by simp
 | n::ns,h=>by
  have:=h n (ì ..);have:=cE λ x hx=>h x (Ø _ hx);simp only [List.sum_cons];omega
theorem Rl.Ą:∀{t:Rl},t.ok->0<=t.Ï/\t.Ï <= 20
 | .one r,h=>by have:=R0.Ą h;simp only [Rl.Ï];omega
 | .blocks rs,h=>by
  obtain⟨_,_,h3,h4⟩:=h;refine⟨cE λ n hn=>?_,h4⟩;obtain⟨r,hr,rfl⟩:=ê.mp hn;have:=R0.Ą (h3 r hr);omega
 | .first t m,h=>by
  obtain⟨h1,h2,h3⟩:=h;have:=Rl.Ą h1;simp only [Rl.Ï];omega
def gK:List Str:=["folk","begin","steps","told","blocks","state_ahead","state_behind"]
structure Ob (C:Addr)(H:Hp)(v:V)(fk:Int)(bg tl pt:PyData)(X:List (Str × V)->Prop):Prop where
 ex:∃ a dx fs,v=.ref a/\H a=some (.ins C dx fs)/\fs.lookup ("size" : Str)=some (.int fk)/\(∃ b,fs.lookup ("first_state" : Str)=some b/\ė H b bg)/\(∃ m,fs.lookup ("mark" : Str)=some m/\ė H m tl)/\(∃ p,fs.lookup ("parts" : Str)=some p/\ė H p pt)/\(∀ m∈gK,fs.lookup m=none)/\X fs
def R0.extra (H:Hp):R0->List (Str × V)->Prop
 | .split _ _,_=>True
 | .pairs _ a b,fs=>∃ c,fs.lookup ("coin" : Str)=some c/\ė H c (.tuple [.int a,.int b])
 | .ŏ _ a b f,fs=>(∃ c,fs.lookup ("coin" : Str)=some c/\ė H c (.tuple [.int a,.int b]))/\fs.lookup ("far" : Str)=some (.int f)
def l_ (C:Nat->Addr)(H:Hp)(r:R0)(v:V):Prop:=Ob (C r.kind) H v r.Ï r.begin r.told (fq [cO 0 r.Ï.toNat]) (r.extra H)
def Λ (C:Nat->Addr)(H:Hp)(rs:List R0)(ws:List V):Prop:=rs.length=ws.length/\∀(i:Nat) r w,rs[i]?=some r->ws[i]?=some w->l_ C H r w
def Lu (C:Nat->Addr)(H:Hp)(rs:List R0)(v:V):Prop:=Ob (C 3) H v (Rl.blocks rs).Ï (Rl.blocks rs).begin (Rl.blocks rs).told (fq (Rl.blocks rs).parts) (λ fs=>∃ l ws,fs.lookup ("rules" : Str)=some (.ref l)/\H l=some (.tup ws)/\Λ C H rs ws)
def MO (C:Nat->Addr)(H:Hp):Rl->V->Prop
 | .one r,v=>l_ C H r v
 | .blocks rs,v=>Lu C H rs v
 | .first _ _,_=>False
def Ru (C:Nat->Addr)(H:Hp):Rl->V->Prop
 | .one r,v=>l_ C H r v
 | .blocks rs,v=>Lu C H rs v
 | .first t m,v=>Ob (C 4) H v m t.begin (Rl.first t m).told (fq (Rl.first t m).parts) (λ fs=>∃ d,fs.lookup ("dealer" : Str)=some d/\MO C H t.inner d)
theorem Ob.mono (h:Ob C H v fk bg tl pt X)(x:Ext H H')(k:∀ fs,X fs->Y fs):Ob C H' v fk bg tl pt Y:=by
 obtain⟨a,dx,fs,rfl,ha,h1,⟨b,h2,r2⟩,⟨m,h3,r3⟩,⟨p,h4,r4⟩,h5,h6⟩:=h.ex;exact⟨a,dx,fs,rfl,x _ _ ha,h1,⟨b,h2,r2.mono x⟩,⟨m,h3,r3.mono x⟩,⟨p,h4,r4.mono x⟩,h5,k fs h6⟩
section
variable {C:Nat->Addr}{H H':Hp}
theorem l_.ext (h:l_ C H r v)(x:Ext H H'):l_ C H' r v:=Ob.mono h x λ fs e=>by
 cases r with
 | split _ _=>trivial
 | pairs _ a b =>
  obtain⟨c,e1,e2⟩:=e;exact⟨c,e1,e2.mono x⟩
 | ŏ _ a b f =>
  obtain⟨⟨c,e1,e2⟩,e3⟩:=e;exact⟨⟨c,e1,e2.mono x⟩,e3⟩
theorem Λ.ext (h:Λ C H rs ws)(x:Ext H H'):Λ C H' rs ws:=⟨h.1,λ i r w a b=>l_.ext (h.2 i r w a b) x⟩
theorem Lu.ext (h:Lu C H rs v)(x:Ext H H'):Lu C H' rs v:=Ob.mono h x λ fs e=>by
 obtain⟨l,ws,e1,e2,e3⟩:=e;exact⟨l,ws,e1,x _ _ e2,e3.ext x⟩
theorem MO.ext (h:MO C H t v)(x:Ext H H'):MO C H' t v:=by
 cases t with
 | one r=>exact l_.ext h x
 | blocks rs=>exact Lu.ext h x
 | first _ _=>exact h.elim
theorem Ru.ext (h:Ru C H t v)(x:Ext H H'):Ru C H' t v:=by
 cases t with
 | one r=>exact l_.ext h x
 | blocks rs=>exact Lu.ext h x
 | first t m=>exact Ob.mono h x λ fs ⟨d,e1,e2⟩=>⟨d,e1,e2.ext x⟩
theorem Ru.ob (h:Ru C H t v):Ob (C t.kind) H v t.Ï t.begin t.told (fq t.parts) (λ _=>True):=by
 cases t with
 | one r=>exact Ob.mono h (.refl _) λ _ _=>trivial
 | blocks rs=>exact Ob.mono h (.refl _) λ _ _=>trivial
 | first t m=>exact Ob.mono h (.refl _) λ _ _=>trivial
end
theorem R0.ę (r:R0):r.kind<3:=by cases r <;> simp [R0.kind]
theorem Rl.ę (t:Rl):t.kind<5:=by
 cases t with
 | one r=>have:=r.ę;show r.kind<5;omega
 | blocks _=>show 3<5;decide
 | first _ _=>show 4<5;decide
def fh:List Str:=["size","first_state","mark","parts","coin","far","rules","dealer"]
structure KR (K:Frag)(C:Nat->Addr)(CR:Addr):Prop where
 cls:∀ i,i<5->Lx K (C i)
 no:∀ i,i<5->∀ f∈fh,Ũ K (C i) f
 ha:∀ i,i<5->PySem.W.findIn K (.ref (C i)) "__class__" = some (some (.builtin "object.__class__"))
 hn:PySem.W.specialIn K (.builtin "object.__class__") "__get__" = some (some (.builtin "getset_descriptor.__get__"))
 Kg:PySem.W.takesIn K (.builtin "object.__class__")=some true
 hm:∀ i,i<5->PySem.W.mroIn K (C i) (.type "object")=some true
 kk:∀ i j,i<5->j<5->kitOne K (.ref (C i)) (.ref (C j))=some (i==j)
 kR:∀ i,i<5->kitOne K (.ref (C i)) (.ref CR)=some true
 kl:∀ i,i<5->kitOne K (.ref (C i)) (.type "list")=some false
 kt:∀ i,i<5->kitOne K (.ref (C i)) (.type "tuple")=some false
 ki:∀ i,i<5->kitOne K (.ref (C i)) (.type "int")=some false
 kb:∀ i,i<5->kitOne K (.ref (C i)) (.type "bool")=some false
def mT (C:Nat->Addr)(c:Addr):Prop:=∃ i,i<5/\c=C i
section
variable {K:Frag}{C:Nat->Addr}{CR:Addr}{H:Hp}
theorem Ob.kd (Z:KR K C CR)(hi:i<5)(h:Ob (C i) H v fk bg tl pt X):Kd K H v (.ref (C i)):=by
 obtain⟨a,dx,fs,rfl,ha,_⟩:=h.ex;exact .inl (.ins ha (Z.cls i hi) (Z.ha i hi) Z.hn Z.Kg (Z.hm i hi))
theorem Ru.kd (Z:KR K C CR)(h:Ru C H t v):Kd K H v (.ref (C t.kind)):=h.ob.kd Z t.ę
theorem bO (hm:m∈gK)(h:Ru C H t v)(ht:∀ R:VK,R v H->ta σ H R)(q:sp (C t.kind) [v] H Q E):bD (mT C) m sp E ta aJ σ H Q:=by
 obtain⟨a,dx,fs,rfl,ha,_,_,_,_,h5,_⟩:=h.ob.ex;exact ht _ ⟨a,C t.kind,dx,fs,rfl,⟨_,t.ę,rfl⟩,ha,h5 m hm,q⟩
end
theorem i7:∀(ns:List Int),ĩ (ns.map PyData.int)=true
 | []=>by simp [ĩ]
 | n::ns=>by simp only [List.map_cons,ĩ,aZ,i7 ns,Bool.and_self]
end My
namespace My
open PySem PySem.W L2
def mf:V->V->Bool
 | x,.int j=>decide (1<=j)&&KA 0 j x
 | _,_=>false
theorem sK (h:∀ i,y ≠ .int i):mf x y=false:=by
 cases y with
 | int i=>exact absurd rfl (h i)
 | _=>rfl
section
variable {P:Program}{w:World}{K:Frag}{mg:bL}{base:Heap}
abbrev nJ:Stmt:=bZ 12
def j7 (K:Frag):Sp:=λ vs H Q _=>∃ x,vs=[x]/\Th K H x/\Q (.bl (Cd x)) H
theorem F8:ad ["thing"] ["thing"] (aa nJ):=aK
theorem sU (N:rX K)(F:Ģ K "is_number" "is_number" nJ f fd)(mi:mg "isinstance" = none)(m1:mg "int" = none)(m2:mg "bool" = none):Þ P w K mg base ay 1 f fd ["thing"] (j7 K):=by
 refine F.ok F8 (λ vs H Q E h=>?_) (λ cdv A outer s H vs Q E hr h=>?_)
 ·obtain⟨c,rfl,_⟩:=h;rfl
 obtain⟨x,rfl,th,q⟩:=h;refine⟨_,bp (cZ (fD (aq (c6 N) rfl mi à (ac (pv 0) (ac (hZ rfl m1 b_) au)))
  (gX (w6 (aq (c6 N) rfl mi à (ac (pv 0) (ac (hZ rfl m2 NR) au))))))),?_⟩
 rcases th with⟨i,rfl⟩ | ⟨n,t,b1,b2,kd,k1,k2,z⟩
 ·exact⟨_,rfl,_,_,_,_,rfl,.inl (.int i),GX,_,rfl,⟨_,rfl,_,_,_,_,rfl,.inl (.int i),Ht,_,rfl,q⟩⟩
 ·rw [kh n] at q;refine⟨_,rfl,_,_,_,_,rfl,kd,k1,_,rfl,?_⟩;cases b1 with
  | false=>exact cM q
  | true =>
   refine cU ⟨_,rfl,_,_,_,_,rfl,kd,k2,_,rfl,?_⟩;have e:(!b2)=false:=z;rw [e];exact q
abbrev tU:Stmt:=bZ 13
def fE (K:Frag):Sp:=λ vs H Q _=>∃ x lo hi,vs=[x,.int lo,.int hi]/\Th K H x/\Q (.bl (KA lo hi x)) H
theorem FR:ad ["thing","low","high"] ["thing","low","high"] (aa tU):=aK
theorem vf (F:Ģ K "is_whole" "is_whole" tU f fd)(G:Þ P w K mg base ay 1 g gd ["thing"] (j7 K))(bG:Binds K gd ["thing"] [])(kG:keepIn K (.ref g)=true)(mG:mg "is_number" = some (.ref g)) :
  Þ P w K mg base ay 2 f fd ["thing","low","high"] (fE K):=by
 refine F.ok FR (λ vs H Q E h=>?_) (λ cdv A outer s H vs Q E hr h=>?_)
 ·obtain⟨c,lo,hi,rfl,_⟩:=h;rfl
 obtain⟨x,lo,hi,rfl,th,q⟩:=h;refine⟨_,bp (cZ (fD (gG G hr rfl mG kG bG .nil ag (ac (pv 0) au)) (fD (dw wB (pv 1) (pv 0) (aC _)) (gX (dw wB (pv 0) (pv 2) (aC _)))))),?_⟩;refine⟨_,rfl,x,rfl,th,_,rfl,?_⟩;rcases th with⟨i,rfl⟩ | ⟨n,_⟩
 ·refine cU ⟨_,rfl,_,rfl,_,_,rfl,rfl,_,rfl,?_⟩;refine mh (λ c=>?_) (λ c=>?_)
  ·refine⟨_,rfl,_,rfl,_,_,rfl,rfl,?_⟩;have q':Q (.bl (decide (lo<=i)&&decide (i<=hi))) H:=q;rw [Ê (ē c),Ŀ] at q';exact q'
  ·have q':Q (.bl (decide (lo<=i)&&decide (i<=hi))) H:=q;rw [Í (λ z=>c (Ê z)),Β] at q';exact q'
 ·rw [kh n];rw [A5 n] at q;exact cM q
abbrev wW:Stmt:=bZ 16
def wl:Sp:=λ vs H Q _=>∃ a b:Nat,vs=[.int a,.int b]/\Q (.int (Nat.gcd a b)) H
theorem TN:ad ["one","other"] ["one","other"] (aa wW):=aK
def GJ:St->Nat
 | [_,some (.int b)]=>b.toNat
 | _=>0
theorem Ao (F:Ģ K "greatest_common" "greatest_common" wW f fd):Þ P w K mg base ay 1 f fd ["one","other"] wl:=by
 refine F.ok TN (λ vs H Q E h=>?_) (λ cdv A outer s H vs Q E hr h=>?_)
 ·obtain⟨c,lo,rfl,_⟩:=h;rfl
 obtain⟨a,b,rfl,q⟩:=h;have nd:=TN.nd;refine⟨_,cn (kH .never (aB hI (pv 1) aI (aC _)) (bp (yJ (i:=0) (j:=1) rfl nd rfl rfl ar rfl rfl (ac (pv 1) (ac (aA dU (pv 0) (pv 1)) au)) rfl))) (bp (cZ (pv 0))),?_⟩;refine rV (λ σ H'=>H'=H/\∃ x y:Nat,σ=[some (.int x),some (.int y)]/\Nat.gcd x y=Nat.gcd a b) (λ σ _=>GJ σ) ⟨rfl,a,b,rfl,rfl⟩ ?_ ?_
 ·rintro σ H' ⟨rfl,x,y,rfl,e⟩;refine⟨_,rfl,_,_,rfl,rfl,_,rfl,?_⟩;refine mh (λ c=>?_) (λ c=>?_)
  ·have c':=ē c;refine⟨_,rfl,_,rfl,_,rfl,_,_,rfl,rfl,c',_,_,rfl,⟨rfl,y,x%y,?_,?_⟩,?_⟩
   ·show [some (V.int y),some (V.int ((x:Int)%(y:Int)))]=_;rw [show((x:Int)%(y:Int))=((x%y:Nat):Int) from by simp]
   ·rw [<- e,Nat.gcd_comm x y,Nat.gcd_rec y x,Nat.gcd_comm]
   ·show((x:Int)%(y:Int)).toNat<(y:Int).toNat;have:=Ļ (x:Int) c';omega
  ·have c':¬ (0:Int)<(y:Int):=λ z=>c (Ê z);have y0:y=0:=ak;subst y0;rw [Nat.gcd_zero_right] at e;refine⟨_,rfl,?_⟩;rw [e];exact q
 ·rintro σ H Q Q' m ⟨x,e,i,j,h1,h2,b,hb,q⟩;exact⟨x,e,i,j,h1,h2,b,hb,m _ _ q⟩
abbrev rK:Stmt:=bZ 17
def tq (K:Frag):Sp:=λ vs H Q _=>∃ x y,vs=[x,y]/\Th K H x/\Th K H y/\Q (.bl (mf x y)) H
theorem FQ:ad ["top","bottom"] ["top","bottom"] (aa rK):=aK
theorem uf (F:Ģ K "is_part" "is_part" rK f fd)(G:Þ P w K mg base ay 1 g gd ["thing"] (j7 K))(bG:Binds K gd ["thing"] [])(kG:keepIn K (.ref g)=true)(mG:mg "is_number" = some (.ref g))
  (W:Þ P w K mg base ay 2 k kd ["thing","low","high"] (fE K))(bW:Binds K kd ["thing","low","high"] [])(kW:keepIn K (.ref k)=true)(mW:mg "is_whole" = some (.ref k)):Þ P w K mg base ay 3 f fd ["top","bottom"] (tq K):=by
 refine F.ok FQ (λ vs H Q E h=>?_) (λ cdv A outer s H vs Q E hr h=>?_)
 ·obtain⟨x,y,rfl,_⟩:=h;rfl
 obtain⟨x,y,rfl,tx,ty,q⟩:=h;have Ğ:=hr.mono (show 1<=2 by decide)
 refine⟨_,bp (cZ (fD (gG G Ğ rfl mG kG bG .nil ag (ac (pv 1) au)) (fD (dw v6 (pv 1) aI (aC _)) (gX (gG W hr rfl mW kW bW .nil ag (ac (pv 0) (ac aI (ac (pv 1) au)))))))),?_⟩;refine⟨_,rfl,y,rfl,ty,_,rfl,?_⟩;rcases ty with⟨j,rfl⟩ | ⟨n,_⟩
 ·refine cU ⟨_,rfl,_,_,rfl,rfl,_,rfl,?_⟩;have q':Q (.bl (decide (1<=j)&&KA 0 j x)) H:=q;refine mh (λ c=>?_) (λ c=>?_)
  ·rw [Ê (ē c),Ŀ] at q';exact⟨_,rfl,_,rfl,x,0,j,rfl,tx,q'⟩
  ·rw [Í (λ z=>c (Ê z)),Β] at q';exact q'
 ·rw [kh n];rw [sK n] at q;exact cM q
abbrev wY:Stmt:=bZ 19
def wM:Sp:=λ vs H Q _=>∃ x d,vs=[x]/\ė H x d/\Q (.bl (dF d)) H
theorem Nw:ad ["thing","top","bottom"] ["thing"] (aa wY):=aK
theorem mU (r1:ė H u d1)(r2:ė H v d2):mf u v=false->dF (.tuple [d1,d2])=false:=by
 intro h;cases r1 with
 | int i =>
  cases r2 with
  | int j =>
   have h':(decide (1<=j)&&(decide (0<=i)&&decide (i<=j)))=false:=h;show((decide (1<=j)&&(decide (0<=i)&&decide (i<=j)))&&_)=false;rw [h'];rfl
  | _=>rfl
 | _=>cases r2 <;> rfl
theorem sI (h:mf x y=true):∃ a b:Nat,x=.int a/\y=.int b/\1<=b/\a<=b:=by
 cases y with
 | int j =>
  have h':(decide (1<=j)&&KA 0 j x)=true:=h;rw [Ψ,ő] at h';obtain⟨h1,h2⟩:=h';cases x with
  | int i =>
   have h3:(decide (0<=i)&&decide (i<=j))=true:=h2;rw [Ψ,ő,ő] at h3;refine⟨i.toNat,j.toNat,?_,?_,ak,ak⟩
   ·congr 1;omega
   ·congr 1;omega
  | _=>cases h2
 | _=>cases h
theorem zG (N:rX K)(F:Ģ K "is_share" "is_share" wY f fd)(A1:Df P w K mg base ay 3 "is_part" ["top","bottom"] (tq K) a1 d1)(A2:Df P w K mg base ay 1 "greatest_common" ["one","other"] wl a2 d2)
  (mi:mg "isinstance" = none)(mt:mg "tuple" = none)(ml:mg "len" = none):Þ P w K mg base ay 4 f fd ["thing"] wM:=by
 refine F.ok Nw (λ vs H Q E h=>?_) (λ cdv A outer s H vs Q E hr h=>?_)
 ·obtain⟨v,d,rfl,_⟩:=h;rfl
 obtain⟨v,d,rfl,rd,q⟩:=h;have nd:=Nw.nd;have Ğ:ó 1 _:=hr.mono ar;refine⟨_,cn (bC (PW.pt (f8 (bQ (bF (aq (c6 N) rfl mi à (ac (pv 0) (ac (hZ rfl mt õ) au))))) (dW (aB iZ (aq aw rfl ml è (ac (pv 0) au)) aI (aC _))))) (bp (cZ mQ)) gj)
  (cn (dX (pv 0) (cr rfl (eN (cA (i:=1) nd rfl (Or.inl rfl)) (eN (cA (i:=2) nd rfl (Or.inl rfl)) bA))))
  (bp (cZ (fD (cL A1 hr ag (ac (pv 1) (ac (pv 2) au))) (gX (dw eD (cL A2 Ğ ag (ac (pv 1) (ac (pv 2) au))) aI (aC _))))))),?_⟩
 refine⟨_,rfl,_,_,_,_,rfl,rd.kd,rd.Ue,_,rfl,?_⟩;cases e:Ay d with
 | false =>
  refine cU (cU ?_);have z:dF d=false:=by cases d <;> first | rfl | cases e
  rw [z] at q;exact q
 | true =>
  obtain⟨ds,rfl⟩:∃ ds,d=.tuple ds:=by cases d <;> first | exact⟨_,rfl⟩ | cases e
  obtain⟨a,xs,rfl,ha,rs⟩:=fV rd;refine cM ⟨_,rfl,a,_,rfl,.inr (ĝ.of ha),rfl,_,rfl,?_⟩;have len:=rs.length;by_cases l2:xs.length=2
  ·obtain⟨u,v,rfl⟩:∃ u v,xs=[u,v]:=by
    match xs,l2 with
    | [u,v],_=>exact⟨u,v,rfl⟩
   cases rs with
   | cons r1 rs =>
    cases rs with
    | cons r2 rs =>
     cases rs;refine cM ⟨_,rfl,a,_,rfl,ĝ.of ha,rfl,_,_,rfl,_,_,rfl,rfl,?_⟩;refine⟨_,rfl,_,rfl,u,v,rfl,r1.th,r2.th,_,rfl,?_⟩;cases pv:mf u v with
     | false =>
      rw [mU r1 r2 pv] at q;exact cM q
     | true =>
      obtain⟨x,y,rfl,rfl,y1,xy⟩:=sI pv;cases r1;cases r2;refine cU ⟨_,rfl,_,rfl,x,y,rfl,rfl,?_⟩;have q':Q (.bl ((decide ((1:Int)<=(y:Int))&&(decide ((0:Int)<=(x:Int))&&decide ((x:Int)<=(y:Int))))&&decide (Nat.gcd (x:Int).toNat (y:Int).toNat=1))) H:=q;rw [Ê (show(1:Int)<=(y:Int) by omega),Ê (show(0:Int)<=(x:Int) by omega),Ê (show(x:Int)<=(y:Int) by omega),ô,ô,Bool.and_self,Bool.and_self,Ŀ] at q'
      have ee:decide (V.int ((Nat.gcd x y:Nat):Int)=.int 1)=decide (Nat.gcd x y=1):=by
       by_cases g:Nat.gcd x y=1
       ·rw [Ê g,g];rfl
       ·rw [Í g,Í];intro z;injection z with z
        omega
      rw [ee];exact q'
  ·have e1:(!decide (V.int (xs.length:Nat)=.int 2))=true:=by
    rw [Í]
    ·rfl
    ·intro h;injection h with h
     omega
   rw [e1];refine cU ?_;have z:dF (.tuple ds)=false:=by
    match ds,len,l2 with
    | [],_,_=>rfl
    | [_],_,_=>simp [dF]
    | [_,_],l,n=>exact absurd l n
    | _::_::_::_,_,_=>simp [dF]
   rw [z] at q;exact q
abbrev Hq:Stmt:=bZ 29
def sR (CN:Addr):Sp:=λ vs H Q E=>∃ x d lo hi,vs=[x,.int lo,.int hi]/\ė H x d/\(ko lo hi d=true->Q .ą H)/\(ko lo hi d=false->cu CN "found" x H E)
theorem GK:ad ["thing","low","high"] ["thing","low","high"] (aa Hq):=aK
theorem Eu (F:Ģ K "need_number" "need_number" Hq f fd)(B:Ł K D)(T:gP K mg D "NoNumber" "found" CN fC O2)(A1:Df P w K mg base ay 2 "is_whole" ["thing","low","high"] (fE K) a1 d1):Þ P w K mg base (cy P w) 3 f fd ["thing","low","high"] (sR CN):=by
 refine fL F GK λ cdv A outer s H vs Q E hr h=>?_;obtain⟨x,d,lo,hi,rfl,rd,q1,q2⟩:=h;refine⟨_,bp (bC (bQ (bF (cL A1 hr ag (ac (pv 0) (ac (pv 1) (ac (pv 2) au)))))) (bp (bX B T.cls (T.ok P w base) hr T.bi rfl T.LB (pv 0))) gj),?_⟩;refine⟨_,rfl,_,rfl,_,rfl,x,lo,hi,rfl,rd.th,_,rfl,?_⟩;rw [rd.KA];cases e:ko lo hi d with
 | true=>exact cM (q1 e)
 | false=>exact cU ⟨_,rfl,λ e' dx h1 h2 nd=>dq nd (q2 e e' dx h1 h2 nd)⟩
abbrev Hf:Stmt:=bZ 30
def xK (CS:Addr):Sp:=λ vs H Q E=>∃ x d,vs=[x]/\ė H x d/\(dm d=true->Q .ą H)/\(dm d=false->cu CS "found" x H E)
theorem Gx:ad ["thing"] ["thing"] (aa Hf):=aK
theorem lL (h:dF d=true):∃ a b,d=.tuple [.int a,.int b]:=by
 match d,h with
 | .tuple [.int a,.int b],_=>exact⟨a,b,rfl⟩
theorem Dz (F:Ģ K "need_coin" "need_coin" Hf f fd)(B:Ł K D)(T:gP K mg D "NoShare" "found" CS fC O2)(A1:Df P w K mg base ay 2 "is_whole" ["thing","low","high"] (fE K) a1 d1)(A2:Df P w K mg base ay 4 "is_share" ["thing"] wM a2 d2)(mB:mg "MOST_BOTTOM" = some (.int 100 t)) :
  Þ P w K mg base (cy P w) 5 f fd ["thing"] (xK CS):=by
 refine fL F Gx λ cdv A outer s H vs Q E hr h=>?_;obtain⟨x,d,rfl,rd,q1,q2⟩:=h;have j_:ó 2 _:=hr.mono ar;refine⟨_,bp (bC (PW.pt (f8 (bQ (bF (cL A2 hr ag (ac (pv 0) au)))) (dW (bQ (bF (cL A1 j_ ag (ac (eL qS (pv 0) aI) (ac aI (ac (bu (v:=.int 100) rfl mB ⟨_,rfl⟩) au)))))))))
  (bp (bX B T.cls (T.ok P w base) j_ T.bi rfl T.LB (pv 0))) gj),?_⟩
 refine⟨_,rfl,x,d,rfl,rd,_,rfl,?_⟩;cases e:dF d with
 | false =>
  have z:dm d=false:=by
   match d,e with
   | .tuple [.int a,.int b],e=>show(dF (.tuple [.int a,.int b])&&_)=false;rw [e];rfl
   | .none,_ | .bool _,_ | .int _,_ | .str _,_ | .list _,_ | .dict _,_=>rfl
   | .tuple [],_=>rfl
   | .tuple [_],_=>simp [dm]
   | .tuple (_::_::_::_),_=>simp [dm]
   | .tuple [.int _,.none],_ | .tuple [.int _,.bool _],_ | .tuple [.int _,.str _],_ | .tuple [.int _,.list _],_ | .tuple [.int _,.tuple _],_ | .tuple [.int _,.dict _],_=>rfl
   | .tuple [.none,_],_ | .tuple [.bool _,_],_ | .tuple [.str _,_],_ | .tuple [.list _,_],_ | .tuple [.tuple _,_],_ | .tuple [.dict _,_],_=>rfl
  exact cU (cU ⟨_,rfl,λ e' dx h1 h2 nd=>dq nd (q2 z e' dx h1 h2 nd)⟩)
 | true =>
  obtain⟨a,b,rfl⟩:=lL e;obtain⟨p,xs,rfl,hp,rs⟩:=fV rd;cases rs with
  | cons r1 rs =>
   cases rs with
   | cons r2 rs =>
    cases rs;cases r1;cases r2;refine cM ⟨_,rfl,p,_,_,_,rfl,rfl,ĝ.of hp,f7 rfl,_,2,100,rfl,.inl ⟨b,rfl⟩,_,rfl,?_⟩;have ec:dm (.tuple [.int a,.int b])=KA 2 100 (.int b):=by
     show(dF (.tuple [.int a,.int b])&&(decide (2<=b)&&decide (b<=100)))=_;rw [e,Ŀ];rfl
    cases z:KA 2 100 (.int b) with
    | true=>exact cM (q1 (by rw [ec,z]))
    | false=>exact cU ⟨_,rfl,λ e' dx h1 h2 nd=>dq nd (q2 (by rw [ec,z]) e' dx h1 h2 nd)⟩
abbrev Hx:Stmt:=bZ 31
def uG:Sp:=λ vs H Q _=>∃ i:Int,vs=[.int i]/\0<=i/\i<=20/\∀ l H',Ext H H'->ė H' (.ref l) (fq [cO 0 i.toNat])->Q (.ref l) H'
theorem Hm:ad ["folk"] ["folk"] (aa Hx):=aK
theorem EC (F:Ģ K "one_part" "one_part" Hx f fd)(mt:mg "tuple" = none)(mr:mg "range" = none):Þ P w K mg base ay 1 f fd ["folk"] uG:=by
 refine bR F Hm λ cdv A outer s H vs Q E hr h=>?_;obtain⟨i,rfl,h1,h2,q⟩:=h;refine⟨_,bp (cZ (bK (ac (aU (jL rfl) rfl mt õ (ac (aU qC rfl mr Φ (ac (pv 0) au)) au)) au))),?_⟩;refine⟨_,rfl,i,rfl,λ r hr=>⟨r,0,i,rfl,aO,⟨ak,ak,ak,ak⟩,ak,λ l hl=>⟨dZ,λ m hm=>?_⟩⟩⟩;have x2:=Ext.new (o:=.tup [.ref l]) hm;refine q m _ (((Ext.new hr).trans (.new hl)).trans x2) (.tup aO (.cons (.tup (x2 _ _ aO) ?_) .nil));rw [Int.sub_zero,nh];exact dA _ _
end
def uB:PyData->Bool
 | .tuple [a,b]=>ko (-99) 99 a&&vq b
 | _=>false
def Ot (K:Frag)(H:Hp)(v:V)(b:Bool):Prop:=(∃ d,ė H v d/\b=uB d)\/(MP K H v "tuple" /\ b=false)
theorem Ot.ext (h:Ot K H v b)(x:Ext H H'):Ot K H' v b:=by
 rcases h with⟨d,r,e⟩ | ⟨n,e⟩
 ·exact .inl ⟨d,r.mono x,e⟩
 ·exact .inr ⟨n.ext x,e⟩
theorem u9 (h:uB d=true):∃(x:Int)(b:Bool),d=.tuple [.int x,.bool b]/\-99<=x/\x<=99:=by
 match d,h with
 | .tuple [a,b],h =>
  have h':(ko (-99) 99 a&&vq b)=true:=h;rw [Ψ] at h';obtain⟨i,rfl,h1,h2⟩:=eQ h'.1;cases b with
  | bool b=>exact⟨i,b,rfl,h1,h2⟩
  | _=>cases h'.2
theorem Ot.two (h:Ot K H v true):∃ a n s,v=.ref a/\H a=some (.tup [.int n,.bl s]):=by
 rcases h with⟨d,r,e⟩ | ⟨_,e⟩
 ·obtain⟨n,s,rfl,_⟩:=u9 e.symm;cases r with
  | tup ha rs =>
   cases rs with
   | cons r1 rs =>
    cases rs with
    | cons r2 rs =>
     cases rs;cases r1;cases r2;exact⟨_,_,_,rfl,ha⟩
 ·cases e
def oR (K:Frag)(H:Hp)(xs:List V)(bs:List Bool):Prop:=xs.length=bs.length/\∀(i:Nat) x,xs[i]?=some x->∃ b,bs[i]?=some b/\Ot K H x b
section
variable {P:Program}{w:World}{K:Frag}{mg:bL}{base:Heap}
abbrev Ho:Stmt:=bZ 46
def CH (K:Frag):Sp:=λ vs H Q _=>∃ v b,vs=[v]/\Ot K H v b/\Q (.bl b) H
theorem Pt:ad ["thing","number","sure"] ["thing"] (aa Ho):=aK
theorem Do (N:rX K)(F:Ģ K "is_outcome" "is_outcome" Ho f fd)(A1:Df P w K mg base ay 2 "is_whole" ["thing","low","high"] (fE K) a1 d1)(mL:mg "LEAST_NUMBER" = some (.int (-99) t1))(mM:mg "MOST_NUMBER" = some (.int 99 t2))
  (mi:mg "isinstance" = none)(mt:mg "tuple" = none)(ml:mg "len" = none)(mb:mg "bool" = none):Þ P w K mg base ay 3 f fd ["thing"] (CH K):=by
 refine F.ok Pt (λ vs H Q E h=>?_) (λ cdv A outer s H vs Q E hr h=>?_)
 ·obtain⟨v,b,rfl,_⟩:=h;rfl
 obtain⟨v,b,rfl,ot,q⟩:=h;have nd:=Pt.nd;refine⟨_,cn (bC (PW.pt (f8 (bQ (bF (aq (c6 N) rfl mi à (ac (pv 0) (ac (hZ rfl mt õ) au))))) (dW (aB iZ (aq aw rfl ml è (ac (pv 0) au)) aI (aC _))))) (bp (cZ mQ)) gj)
  (cn (dX (pv 0) (cr rfl (eN (cA (i:=1) nd rfl (.inl rfl)) (eN (cA (i:=2) nd rfl (.inl rfl)) bA))))
  (bp (cZ (fD (cL A1 hr ag (ac (pv 1) (ac (bu (v:=.int (-99)) rfl mL ⟨_,rfl⟩) (ac (bu (v:=.int 99) rfl mM ⟨_,rfl⟩) au)))) (gX (aq (c6 N) rfl mi à (ac (pv 2) (ac (hZ rfl mb NR) au)))))))),?_⟩
 rcases ot with⟨d,rd,rfl⟩ | ⟨⟨t,kd,kt⟩,rfl⟩
 rotate_left
 ·exact⟨_,rfl,_,_,_,_,rfl,kd,kt,_,rfl,cU (cU q)⟩
 refine⟨_,rfl,_,_,_,_,rfl,rd.kd,rd.Ue,_,rfl,?_⟩;cases e:Ay d with
 | false =>
  refine cU (cU ?_);have z:uB d=false:=by cases d <;> first | rfl | cases e
  rw [z] at q;exact q
 | true =>
  obtain⟨ds,rfl⟩:∃ ds,d=.tuple ds:=by cases d <;> first | exact⟨_,rfl⟩ | cases e
  obtain⟨a,xs,rfl,ha,rs⟩:=fV rd;refine cM ⟨_,rfl,a,_,rfl,.inr (ĝ.of ha),rfl,_,rfl,?_⟩;have len:=rs.length;by_cases l2:xs.length=2
  ·obtain⟨u,v,rfl⟩:∃ u v,xs=[u,v]:=by
    match xs,l2 with
    | [u,v],_=>exact⟨u,v,rfl⟩
   cases rs with
   | cons r1 rs =>
    cases rs with
    | cons r2 rs =>
     cases rs;refine cM ⟨_,rfl,a,_,rfl,ĝ.of ha,rfl,_,_,rfl,_,_,rfl,rfl,?_⟩;refine⟨_,rfl,u,-99,99,rfl,r1.th,_,rfl,?_⟩;rw [r1.KA]
     rename_i d1 d2
     have qq:Q (.bl (ko (-99) 99 d1&&vq d2)) H:=q;cases e1:ko (-99) 99 d1 with
     | false =>
      rw [e1] at qq;exact cM qq
     | true =>
      rw [e1] at qq;exact cU ⟨_,rfl,_,_,_,_,rfl,r2.kd,r2.X0,qq⟩
  ·have e1:(!decide (V.int (xs.length:Nat)=.int 2))=true:=by
    rw [Í]
    ·rfl
    ·intro h;injection h with h
     omega
   rw [e1];refine cU ?_;have z:uB (.tuple ds)=false:=by
    match ds,len,l2 with
    | [],_,_=>rfl
    | [_],_,_=>rfl
    | [_,_],l,n=>exact absurd l n
    | _::_::_::_,_,_=>rfl
   rw [z] at q;exact q
abbrev HQ:Stmt:=bZ 47
def zx (K:Frag)(C:Addr):Sp:=λ vs H Q E=>∃(v:V)(b:Bool)(i:Nat),vs=[v,.int (i:Nat)]/\Ot K H v b/\(b=true->Q .ą H)/\(b=false->cu C "place" (.int (i:Nat)) H E)
theorem FH:ad ["thing","place"] ["thing","place"] (aa HQ):=aK
theorem Cs (F:Ģ K "need_outcome" "need_outcome" HQ f fd)(B:Ł K D)(T:gP K mg D "NoOutcome" "place" C fC O2)(A1:Df P w K mg base ay 3 "is_outcome" ["thing"] (CH K) a1 d1):Þ P w K mg base (cy P w) 4 f fd ["thing","place"] (zx K C):=by
 refine FD F FH (λ vs H Q E h=>?_) (λ cdv A outer s H vs Q E hr h=>?_)
 ·obtain⟨v,d,n,rfl,_⟩:=h;rfl
 obtain⟨v,d,i,rfl,rd,q1,q2⟩:=h;have j_:=hr.mono (show 2<=3 by decide)
 refine⟨_,bp (bC (bQ (bF (cL A1 hr ag (ac (pv 0) au)))) (bp (bX B T.cls (T.ok P w base) j_ T.bi rfl T.LB (pv 1))) gj),?_⟩;refine⟨_,rfl,v,d,rfl,rd,_,rfl,?_⟩;cases e:d with
 | false=>exact cU ⟨_,rfl,λ e' dx h1 h2 nd=>dq nd (q2 e e' dx h1 h2 nd)⟩
 | true=>exact cM (q1 e)
abbrev wU:Stmt:=bZ 48
def v5 (K:Frag)(CF CO:Addr):Sp:=λ vs H Q E=>∃(v:V),vs=[v]/\((MP K H v "list" /\ cu CF "found" v H E)\/∃ a xs bs,v=.ref a/\H a=some (.lst xs)/\oR K H xs bs/\(bs.all id=true->∀ H',Ext H H'->Q .ą H')/\∀ i,dS bs i->∀ H',Ext H H'->cu CO "place" (.int (i:Nat)) H' E)
theorem Nv:ad ["thing","place","outcome"] ["thing"] (aa wU):=aK
theorem zP (N:rX K)(F:Ģ K "need_outcomes" "need_outcomes" wU f fd)(B:Ł K D)(T:gP K mg D "NoFolk" "found" CF fC O2)(A1:Df P w K mg base (cy P w) 4 "need_outcome" ["thing","place"] (zx K CO) a1 d1)
  (mi:mg "isinstance" = none)(ml:mg "list" = none)(me:mg "enumerate" = none):Þ P w K mg base (cy P w) 5 f fd ["thing"] (v5 K CF CO):=by
 refine FD F Nv (λ vs H Q E h=>?_) (λ cdv A outer s H vs Q E hr h=>?_)
 ·obtain⟨v,rfl,_⟩:=h;rfl
 obtain⟨v,rfl,h⟩:=h;have nd:=Nv.nd;have j_:=hr.mono (show 2<=4 by decide)
 refine⟨_,cn (bC (bQ (bF (aq (c6 N) rfl mi à (ac (pv 0) (ac (hZ rfl ml ĕ) au))))) (bp (bX B T.cls (T.ok P w base) j_ T.bi rfl T.LB (pv 0))) gj)
  (bp (dR LM rfl (jV rfl me (ac (pv 0) au)) (cr rfl (eN (cA (i:=1) nd rfl (.inl rfl)) (eN (cA (i:=2) nd rfl (.inl rfl)) bA)))
   (bp (ax (cL A1 hr cF (ac (pv 2) (ac (pv 1) au))))))),?_⟩
 rcases h with⟨⟨t,kd,kt⟩,q1⟩ | ⟨a,xs,bs,rfl,ha,⟨ln,ot⟩,qn,qe⟩
 ·exact⟨_,rfl,_,_,_,_,rfl,kd,kt,_,rfl,cU ⟨_,rfl,λ e' dx h1 h2 nd=>dq nd (q1 e' dx h1 h2 nd)⟩⟩
 refine⟨_,rfl,_,_,_,_,rfl,.inl (.lst ha),rfl,_,rfl,cM ?_⟩;refine⟨_,rfl,a,rfl,⟨_,î.of ha⟩,lh (xs:=xs) (λ i σ H'=>Ext H H'/\(∀(j:Nat) b,j<i->bs[j]?=some b->b=true)/\∃ o1 o2,σ=[some (.ref a),o1,o2]) ⟨.refl _,λ j d h=>absurd h (Ľ _),_,_,rfl⟩ ?_ ?_ ?_⟩
 ·rintro i σ H' _ ⟨x',_⟩;exact î.of (x' _ _ ha)
 ·rintro i v σ H' k ev ⟨x',good,o1,o2,rfl⟩ hk;have xk:=Ext.new (o:=.tup [.int (i:Nat),v]) hk;obtain⟨d,ed,rv⟩:=ot i v ev;refine⟨k,_,rfl,ĝ.of aO,rfl,_,_,rfl,_,_,rfl,rfl,?_⟩;refine⟨_,rfl,_,rfl,v,d,i,rfl,rv.ext (x'.trans xk),λ o=>?_,λ o=>?_⟩
  ·refine⟨x'.trans xk,λ j d' hj hd=>?_,_,_,rfl⟩;rcases ī j i with lt | ge
   ·exact good j d' lt hd
   ·have e0:j=i:=ak;subst e0;rw [ed] at hd;cases hd;exact o
  ·exact qe i ⟨good,by rw [ed,o]⟩ _ (x'.trans xk)
 ·rintro σ H' ⟨x',good,o1,o2,rfl⟩;refine qn ?_ H' x';rw [ú];intro d hd;obtain⟨j,hj,e⟩:=Ġ hd;exact good j d (by rw [ln];exact hj) (by rw [Á hj,e])
end
def qQ (n1:Int)(s1:Bool)(n2:Int)(s2:Bool):Int:=if(s2&&decide (n1>n2))=true then 1 else if(s1&&decide (n2>n1))=true then -1 else 0
section
variable {P:Program}{w:World}{K:Frag}{mg:bL}{base:Heap}
abbrev Ga:Stmt:=bZ 50
def DG:Sp:=λ vs H Q _=>∃(a1 a2:Addr)(n1 n2:Int)(s1 s2:Bool),vs=[.ref a1,.ref a2]/\H a1=some (.tup [.int n1,.bl s1])/\H a2=some (.tup [.int n2,.bl s2])/\Q (.bl (s2&&decide (n1>n2))) H
theorem Ib:ad ["one","other"] ["one","other"] (aa Ga):=aK
theorem Ep (F:Ģ K "surely_greater" "surely_greater" Ga f fd):Þ P w K mg base ay 1 f fd ["one","other"] DG:=by
 refine bR F Ib λ cdv A outer s H vs Q E hr h=>?_;obtain⟨a1,a2,n1,n2,s1,s2,rfl,h1,h2,q⟩:=h;refine⟨_,bp (cZ (fD (eL qS (pv 1) aI) (gX (dw hI (eL qS (pv 0) aI) (eL qS (pv 1) aI) (aC _))))),?_⟩;refine⟨_,rfl,a2,_,_,_,rfl,rfl,ĝ.of h2,f7 rfl,_,rfl,?_⟩;cases s2 with
 | false=>exact cM q
 | true=>exact cU ⟨_,rfl,a1,_,_,_,rfl,rfl,ĝ.of h1,f7 rfl,_,rfl,a2,_,_,_,rfl,rfl,ĝ.of h2,f7 rfl,_,_,rfl,rfl,q⟩
abbrev HD:Stmt:=bZ 51
def nW (K:Frag)(CO:Addr):Sp:=λ vs H Q E=>∃(v1 v2:V)(b1 b2:Bool),vs=[v1,v2]/\Ot K H v1 b1/\Ot K H v2 b2/\(b1=false->cu CO "place" (.int (0:Nat)) H E)/\(b1=true->b2=false->cu CO "place" (.int (1:Nat)) H E) /\
 ∀ a1 a2 n1 n2 s1 s2,v1=.ref a1->v2=.ref a2->H a1=some (.tup [.int n1,.bl s1])->H a2=some (.tup [.int n2,.bl s2])->b1=true->b2=true->Q (.int (qQ n1 s1 n2 s2)) H
theorem FX:ad ["one","other"] ["one","other"] (aa HD):=aK
theorem Fr (F:Ģ K "stands_to" "stands_to" HD f fd)(A1:Df P w K mg base (cy P w) 4 "need_outcome" ["thing","place"] (zx K CO) a1 d1)(A2:Df P w K mg base ay 1 "surely_greater" ["one","other"] DG a2 d2):Þ P w K mg base (cy P w) 5 f fd ["one","other"] (nW K CO):=by
 refine fL F FX λ cdv A outer s H vs Q E hr h=>?_;obtain⟨v1,v2,b1,b2,rfl,o1,o2,e1,e2,q⟩:=h;have Ğ:ó 1 _:=hr.mono ar;refine⟨_,cn (ax (cL A1 hr cF (ac (pv 0) (ac aI au)))) (cn (ax (cL A1 hr cF (ac (pv 1) (ac aI au))))
  (cn (bC (bF (cL A2 Ğ ag (ac (pv 0) (ac (pv 1) au)))) (bp (cZ aI)) gj)
  (cn (bC (bF (cL A2 Ğ ag (ac (pv 1) (ac (pv 0) au)))) (bp (cZ (BT Bj aI))) gj)
  (bp (cZ aI))))),?_⟩
 refine⟨_,rfl,v1,b1,0,rfl,o1,λ h1=>⟨_,rfl,v2,b2,1,rfl,o2,λ h2=>?_,λ h2=>e2 h1 h2⟩,λ h1=>e1 h1⟩;subst h1 h2;obtain⟨p1,n1,s1,rfl,t1⟩:=o1.two;obtain⟨p2,n2,s2,rfl,t2⟩:=o2.two;have qq:=q p1 p2 n1 n2 s1 s2 rfl rfl t1 t2 rfl rfl;unfold qQ at qq;refine⟨_,rfl,_,rfl,p1,p2,n1,n2,s1,s2,rfl,t1,t2,_,rfl,?_⟩;cases g1:s2&&decide (n1>n2) with
 | true=>rw [g1,â rfl] at qq;exact cU qq
 | false =>
  rw [g1,Ü ar] at qq;refine cM ⟨_,rfl,_,rfl,p2,p1,n2,n1,s2,s1,rfl,t2,t1,_,rfl,?_⟩;cases g2:s1&&decide (n2>n1) with
  | true=>rw [g2,â rfl] at qq;exact cU ⟨1,rfl,qq⟩
  | false=>rw [g2,Ü ar] at qq;exact cM qq
abbrev Bb:Stmt:=bZ 49
def sX (K:Frag)(CF CO:Addr):Sp:=λ vs H Q E=>∃(v:V)(n:Int),vs=[v,.int n]/\((MP K H v "list" /\ cu CF "found" v H E)\/∃ a xs bs,v=.ref a/\H a=some (.lst xs)/\oR K H xs bs/\(bs.all id=true->∀ H',Ext H H'->if(xs.length:Int)=n then Q .ą H' else cu CF "found" (.int (xs.length:Nat)) H' E)/\∀ i,dS bs i->∀ H',Ext H H'->cu CO "place" (.int (i:Nat)) H' E)
theorem C6:ad ["thing","folk"] ["thing","folk"] (aa Bb):=aK
theorem Ad (F:Ģ K "need_outcomes_of" "need_outcomes_of" Bb f fd)(B:Ł K D)(T:gP K mg D "NoFolk" "found" CF fC O2)(A1:Df P w K mg base (cy P w) 5 "need_outcomes" ["thing"] (v5 K CF CO) a1 d1)(ml:mg "len" = none):Þ P w K mg base (cy P w) 6 f fd ["thing","folk"] (sX K CF CO):=by
 refine FD F C6 (λ vs H Q E h=>?_) (λ cdv A outer s H vs Q E hr h=>?_)
 ·obtain⟨v,n,rfl,_⟩:=h;rfl
 obtain⟨v,n,rfl,h⟩:=h;have j_:=hr.mono (show 2<=5 by decide)
 refine⟨_,cn (ax (cL A1 hr cF (ac (pv 0) au)))
  (bp (bC (aB iZ (aq aw rfl ml è (ac (pv 0) au)) (pv 1) (aC _)) (bp (bX B T.cls (T.ok P w base) j_ T.bi rfl T.LB (aq aw rfl ml è (ac (pv 0) au)))) gj)),?_⟩
 rcases h with⟨nk,q1⟩ | ⟨a,xs,bs,rfl,ha,ot,qn,qe⟩
 ·exact⟨_,rfl,v,rfl,.inl ⟨nk,q1⟩⟩
 ·refine⟨_,rfl,_,rfl,.inr ⟨a,xs,bs,rfl,ha,ot,λ al H' x'=>?_,qe⟩⟩;have q:=qn al H' x';refine⟨_,rfl,a,xs,rfl,.inl (î.of (x' _ _ ha)),_,rfl,rfl,_,rfl,?_⟩;by_cases e:(xs.length:Int)=n
  ·rw [â e] at q;rw [Ê (by rw [e])]
   exact cM q
  ·rw [Ü e] at q;rw [Í (λ z=>e (V.int.inj z))];exact cU ⟨_,rfl,a,xs,rfl,.inl (î.of (x' _ _ ha)),λ e' dx h1 h2 nd=>dq nd (q e' dx h1 h2 nd)⟩
abbrev yV:Stmt:=bZ 55
def Ej (H:Hp)(v:V)(o:Int × Bool):Prop:=∃ a,v=.ref a/\H a=some (.tup [.int o.1,.bl o.2])
def ζ (H:Hp)(xs:List V)(os:List (Int × Bool)):Prop:=xs.length=os.length/\∀(i:Nat) x o,xs[i]?=some x->os[i]?=some o->Ej H x o
def tz (CU:Addr):Sp:=λ vs H Q E=>∃ a xs os,vs=[.ref a]/\H a=some (.lst xs)/\ζ H xs os/\((os.map (·.2)).all id=true->∀ H',Ext H H'->Q .ą H')/\∀ i,dS (os.map (·.2)) i->∀ H',Ext H H'->cu CU "place" (.int (i:Nat)) H' E
theorem Nu:ad ["outcomes","place","outcome"] ["outcomes"] (aa yV):=aK
theorem zf (F:Ģ K "need_sure" "need_sure" yV f fd)(B:Ł K D)(T:gP K mg D "NotSure" "place" CU fC O2)(me:mg "enumerate" = none):Þ P w K mg base (cy P w) 3 f fd ["outcomes"] (tz CU):=by
 refine fL F Nu λ cdv A outer s H vs Q E hr h=>?_;obtain⟨a,xs,os,rfl,ha,⟨ln,oc⟩,qn,qe⟩:=h;have nd:=Nu.nd;have j_:=hr;refine⟨_,bp (dR LM rfl (jV rfl me (ac (pv 0) au)) (cr rfl (eN (cA (i:=1) nd rfl (.inl rfl)) (eN (cA (i:=2) nd rfl (.inl rfl)) bA)))
   (bp (bC (bQ (bF (eL qS (pv 2) aI))) (bp (bX B T.cls (T.ok P w base) j_ T.bi rfl T.LB (pv 1))) gj))),?_⟩
 refine⟨_,rfl,a,rfl,⟨_,î.of ha⟩,lh (xs:=xs) (λ i σ H'=>Ext H H'/\(∀(j:Nat) b,j<i->(os.map (·.2))[j]?=some b->b=true)/\∃ o1 o2,σ=[some (.ref a),o1,o2]) ⟨.refl _,λ j d h=>absurd h (Ľ _),_,_,rfl⟩ ?_ ?_ ?_⟩
 ·rintro i σ H' _ ⟨x',_⟩;exact î.of (x' _ _ ha)
 ·rintro i v σ H' k ev ⟨x',good,o1,o2,rfl⟩ hk;have xk:=Ext.new (o:=.tup [.int (i:Nat),v]) hk;have li:i<os.length:=by rw [<- ln];exact(Æ.mp ev).1
  obtain⟨b,rfl,hb⟩:=oc i v _ ev (Á li);have em:(os.map (·.2))[i]?=some os[i].2:=by rw [Ì,Á li];rfl
  refine⟨k,_,rfl,ĝ.of aO,rfl,_,_,rfl,_,_,rfl,rfl,?_⟩;refine⟨_,rfl,b,_,_,_,rfl,rfl,ĝ.of (xk _ _ (x' _ _ hb)),f7 rfl,_,rfl,?_⟩;cases hs:os[i].2 with
  | true =>
   refine cM ⟨x'.trans xk,λ j d' hj hd=>?_,_,_,rfl⟩;rcases ī j i with lt | ge
   ·exact good j d' lt hd
   ·have e0:j=i:=ak;subst e0;rw [em,hs] at hd;cases hd;rfl
  | false =>
   refine cU ⟨_,rfl,λ e' dx h1 h2 nd=>dq nd (qe i ⟨good,by rw [em,hs]⟩ _ (x'.trans xk) e' dx h1 h2 nd)⟩
 ·rintro σ H' ⟨x',good,o1,o2,rfl⟩;refine qn ?_ H' x';rw [ú];intro d hd;obtain⟨j,hj,e⟩:=Ġ hd;exact good j d (by rw [ln];simpa using hj) (by rw [List.getElem?_eq_getElem hj,e])
end
section
variable {P:Program}{w:World}{K:Frag}{mg:bL}{base:Heap}{C:Nat->Addr}{CR:Addr}
abbrev Bm:Stmt:=az (bZ 35) 0
abbrev xv:Stmt:=az (bZ 35) 1
abbrev yD:Stmt:=az (bZ 35) 2
abbrev ye:Stmt:=az (bZ 35) 4
abbrev yj:Stmt:=az (bZ 35) 5
def fv (v1 v2 v3 v4:V)(fs:List (Str × V)):List (Str × V):=bJ "parts" v4 (bJ "mark" v3 (bJ "first_state" v2 (bJ "size" v1 fs)))
def iR (C:Nat->Addr):Sp:=λ vs H Q _=>∃ x v1 v2 v3 v4 i dx fs,vs=[.ref x,v1,v2,v3,v4]/\i<5/\H x=some (.ins (C i) dx fs)/\fs.length<=5/\Q .ą (af H x (.ins (C i) dx (fv v1 v2 v3 v4 fs)))
theorem Ff:ad ["self","size","first_state","mark","parts"] ["self","size","first_state","mark","parts"] (aa Bm):=aK
theorem gw (f:Str)(v:V):∀ fs:List (Str × V),(bJ f v fs).length<=fs.length+1
 | []=>Ç _
 | (g,x)::r=>by
  have:=gw f v r;show(if g=f then(g,v)::r else(g,x)::bJ f v r).length<=_
  split <;> simp only [List.length_cons] <;> omega
theorem yb (Z:KR K C CR)(F:Ģ K "__init__" "Rule.__init__" Bm f fd):Þ P w K mg base ay 1 f fd ["self","size","first_state","mark","parts"] (iR C):=by
 refine bR F Ff λ cdv A outer s H vs Q E hr h=>?_;obtain⟨x,v1,v2,v3,v4,i,dx,fs,rfl,hi,hx,l5,q⟩:=h;refine⟨_,cn (cS (pv 0) (pv 1) rfl) (cn (cS (pv 0) (pv 2) rfl) (cn (cS (pv 0) (pv 3) rfl) (bp (cS (pv 0) (pv 4) rfl)))),?_⟩;have c:=Z.cls i hi;have n:=Z.no i hi;have k1:=gw "size" v1 fs;have k2:=gw "first_state" v2 (bJ "size" v1 fs);have k3:=gw "mark" v3 (bJ "first_state" v2 (bJ "size" v1 fs));refine⟨_,rfl,_,rfl,x,C i,dx,fs,rfl,hx,c,n _ ao,ak,?_⟩;refine⟨_,rfl,_,rfl,x,C i,dx,_,rfl,aO,c,n _ ao,ak,?_⟩;rw [fg];refine⟨_,rfl,_,rfl,x,C i,dx,_,rfl,aO,c,n _ ao,ak,?_⟩;rw [fg];refine⟨_,rfl,_,rfl,x,C i,dx,_,rfl,aO,c,n _ ao,ak,?_⟩;rw [fg];exact q
def gQ (C:Nat->Addr):Sp:=λ vs H Q _=>∃ v t,vs=[v]/\Ru C H t v/\Q (.int t.Ï) H
theorem B4:ad ["self"] ["self"] (aa xv):=aK
theorem Af (Z:KR K C CR)(F:Ģ K "folk" "Rule.folk" xv f fd):Þ P w K mg base ay 1 f fd ["self"] (gQ C):=by
 refine bR F B4 λ cdv A outer s H vs Q E hr h=>?_;obtain⟨v,t,rfl,ru,q⟩:=h;obtain⟨a,dx,fs,rfl,ha,h1,_⟩:=ru.ob.ex;exact⟨_,bp (cZ (mP (pv 0) rfl)),_,rfl,a,_,dx,fs,_,rfl,ha,Z.cls _ t.ę,Z.no _ t.ę _ ao,h1,q⟩
def im (C:Nat->Addr):Sp:=λ vs H Q _=>∃ v t G,vs=[v]/\Ext G H/\Ru C G t v/\∀ b,ė G b t.begin->Q b H
theorem EJ:ad ["self"] ["self"] (aa yD):=aK
theorem Be (Z:KR K C CR)(F:Ģ K "begin" "Rule.begin" yD f fd):Þ P w K mg base ay 1 f fd ["self"] (im C):=by
 refine bR F EJ λ cdv A outer s H vs Q E hr h=>?_;obtain⟨v,t,G,rfl,xG,ru,q⟩:=h;obtain⟨a,dx,fs,rfl,ha,_,⟨b,h2,r2⟩,_⟩:=ru.ob.ex;exact⟨_,bp (cZ (mP (pv 0) rfl)),_,rfl,a,_,dx,fs,_,rfl,xG _ _ ha,Z.cls _ t.ę,Z.no _ t.ę _ ao,h2,q b r2⟩
def iU (C:Nat->Addr):Sp:=λ vs H Q _=>∃ v t G,vs=[v]/\Ext G H/\Ru C G t v/\∀ b,ė G b t.told->Q b H
theorem CL:ad ["self"] ["self"] (aa ye):=aK
theorem AA (Z:KR K C CR)(F:Ģ K "told" "Rule.told" ye f fd):Þ P w K mg base ay 1 f fd ["self"] (iU C):=by
 refine bR F CL λ cdv A outer s H vs Q E hr h=>?_;obtain⟨v,t,G,rfl,xG,ru,q⟩:=h;obtain⟨a,dx,fs,rfl,ha,_,_,⟨b,h2,r2⟩,_⟩:=ru.ob.ex;exact⟨_,bp (cZ (mP (pv 0) rfl)),_,rfl,a,_,dx,fs,_,rfl,xG _ _ ha,Z.cls _ t.ę,Z.no _ t.ę _ ao,h2,q b r2⟩
def pH (C:Nat->Addr):Sp:=λ vs H Q _=>∃ v t,vs=[v]/\Ru C H t v/\t.parts.length<=20/\(∀ p∈t.parts,p.length<=20)/\∀(l:Addr)(bs:List Addr)(H':Hp),Ext H H'->H l=none->H' l=some (.lst (bs.map V.ref))->l ∉ bs->(∀ b∈bs,H b=none)->bs.length=t.parts.length->(∀(i:Nat) b p,bs[i]?=some b->t.parts[i]?=some p->H' b=some (.lst (p.map V.int)))->Q (.ref l) H'
theorem BW:ad ["self"] ["self"] (aa yj):=aK
abbrev Ab:Scope:=cC [("part",.local),("list",.globalImplicit)]
theorem Ci:aT X Ab [] ["part"] [] []:=by
 refine⟨rfl,rfl,ao,ao,ao,(λ z c h=>nomatch h),(λ z h=>?_),ao,(λ k z h=>by simp at h),rfl⟩
 exfalso;have h':List.lookup z [((".0" : Str),NameKind.local),(("part" : Str),NameKind.local),(("list" : Str),NameKind.globalImplicit)]=some .cell\/List.lookup z [((".0" : Str),NameKind.local),(("part" : Str),NameKind.local),(("list" : Str),NameKind.globalImplicit)]=some .free:=h;simp only [List.lookup_cons,List.lookup_nil] at h'
 repeat' (split at h')
 all_goals simp at h'
theorem IB:((["part"]:List Str)++([]:List Str)).Nodup:=ao
def va (K:Frag):List V->Hp->VK->Prop:=λ xs H Q=>∃ p ys,xs=[.ref p]/\(î K H p ys\/ĝ K H p ys)/\∀ l,H l=none->Q (.ref l) (af H l (.lst ys))
theorem yr (Z:KR K C CR)(F:Ģ K "blocks" "Rule.blocks" yj f fd)(ml:mg "list" = none):Þ P w K mg base ay 1 f fd ["self"] (pH C):=by
 refine bR F BW λ cdv A outer s H vs Q E hr h=>?_;obtain⟨v,t,rfl,ru,ţ,TW,q⟩:=h;obtain⟨a,dx,fs,rfl,ha,_,_,_,⟨b,h2,r2⟩,_⟩:=ru.ob.ex;refine⟨_,bp (cZ (bH (te:=jg (va K) (av (aj 0) aJ)) (g:=aX 0) rfl Ci (ou (mP (pv 0) rfl)) (λ s H C fp=>cA IB rfl (.inl rfl)) (λ s H C fp=>aU eY rfl ml ĕ (ac (pv 0) au)))),?_⟩;obtain⟨p,xs,rfl,hp,rs⟩:=fV r2;have lx:=rs.length;rw [Ã] at lx;refine⟨_,rfl,a,_,dx,fs,_,rfl,ha,Z.cls _ t.ę,Z.no _ t.ę _ ao,h2,p,rfl,⟨_,ĝ.of hp⟩,λ D hD=>?_⟩;refine pN (λ i ys H'=>Ext H H'/\∃ bs:List Addr,ys=bs.map .ref/\D ∉ bs/\(∀ b∈bs,H b=none)/\∀(j:Nat) b q,bs[j]?=some b->t.parts[j]?=some q->H' b=some (.lst (q.map .int))) (by rw [Ô];omega) ⟨.new hD,[],rfl,by simp,by simp,by simp⟩ (λ i ys H' pv=>ĝ.of (pv.1 _ _ hp)) ?_ ?_
 ·rintro i x ys H' ex ly ĉ ⟨x',bs,rfl,nD,fr,ct⟩ os į R k;obtain⟨o0,rfl⟩:∃ o0,os=[o0]:=by
   match os,į with
   | [o0],_=>exact⟨o0,rfl⟩
  have hi:i<t.parts.length:=by have:=(Æ.mp ex).1;omega
  obtain⟨c,rfl,hc⟩:=iV rs ex (Á hi);refine⟨⟨[some (.ref c)],rfl,rfl⟩,_,rfl,c,_,rfl,.inr (ĝ.of (x' _ _ hc)),λ m hm=>?_⟩;have x2:=Ext.new (o:=.lst ((t.parts[i]).map V.int)) hm;have nm:m≠D:=λ e=>by rw [e,ĉ] at hm;cases hm
  have Oi:H m=none:=by
   cases e:H m with
   | none=>rfl
   | some o=>rw [x' _ _ e] at hm;cases hm
  have v_:=x2 _ _ ĉ;have lb:bs.length=i:=by rw [Ã] at ly;exact ly
  refine k _ _ v_ ⟨aN _ (x'.trans x2) hD,bs ++ [m],by rw [Î];rfl,?_,λ b hb=>?_,λ j b q hb hq=>?_⟩
  ·intro SK;rcases ğ.mp SK with h | h
   ·exact nD h
   ·exact nm (ä.mp h).symm
  ·rcases ğ.mp hb with h | h
   ·exact fr b h
   ·rw [ä.mp h];exact Oi
  ·rcases ī j bs.length with lt | ge
   ·rw [ò lt] at hb;have nb:b≠D:=λ e=>nD (e ▸ Ú hb);rw [ah nb];exact x2 _ _ (ct j b q hb hq)
   ·rw [å ge] at hb;have j0:j=bs.length:=by
     rcases ī (j-bs.length) 1 with z | z
     ·omega
     ·rw [c_ (by simpa using z)] at hb;cases hb
    subst j0;rw [η] at hb;cases hb;rw [lb,Á hi] at hq;cases hq;rw [ah nm];exact aO
 ·rintro ys H' ly ĉ ⟨x',bs,rfl,nD,fr,ct⟩;rw [Ã] at ly;exact q D bs H' x' hD ĉ nD fr ak ct
end
theorem cK:(bJ f v fs).lookup g=if g=f then some v else fs.lookup g:=fK f g v fs
section
variable {v1 v2 v3 v4:V}{fs:List (Str × V)}
theorem qi:(fv v1 v2 v3 v4 fs).lookup ("size" : Str)=some v1:=by
 unfold fv;rw [cK,Ü ao,cK,Ü ao,cK,Ü ao,cK,â rfl]
theorem sV:(fv v1 v2 v3 v4 fs).lookup ("first_state" : Str)=some v2:=by
 unfold fv;rw [cK,Ü ao,cK,Ü ao,cK,â rfl]
theorem pZ:(fv v1 v2 v3 v4 fs).lookup ("mark" : Str)=some v3:=by
 unfold fv;rw [cK,Ü ao,cK,â rfl]
theorem nN:(fv v1 v2 v3 v4 fs).lookup ("parts" : Str)=some v4:=by
 unfold fv;rw [cK,â rfl]
theorem cW {g:Str}(h:g ≠ "size" /\ g ≠ "first_state" /\ g ≠ "mark" /\ g ≠ "parts"):(fv v1 v2 v3 v4 fs).lookup g=fs.lookup g:=by
 unfold fv;rw [cK,Ü h.2.2.2,cK,Ü h.2.2.1,cK,Ü h.2.1,cK,Ü h.1]
theorem sY {g:Str}(h:g∈gK):g ≠ "size" /\ g ≠ "first_state" /\ g ≠ "mark" /\ g ≠ "parts" := by
 have:∀ g∈gK,g ≠ "size" /\ g ≠ "first_state" /\ g ≠ "mark" /\ g ≠ "parts" := ao;exact this g h
theorem zJ {g:Str}{ns:List Str}(h:g∈gK)(hn:∀ n∈fs.map (·.1),n∈fh):fs.lookup g=none:=by
 have nf:∀ g∈gK,∀ n∈fh,g≠n:=ao;cases e:fs.lookup g with
 | none=>rfl
 | some v =>
  exfalso;have:∀(l:List (Str × V)),l.lookup g=some v->g∈l.map (·.1):=by
   intro l
   induction l with
   | nil=>intro h;cases h
   | cons y l ih =>
    intro h;obtain⟨k,x⟩:=y;rw [é] at h;cases e:g==k with
    | true=>rw [Ā.mp e];exact ì ..
    | false=>rw [e] at h;exact Ø _ (ih h)
  exact nf g h g (hn g (this fs e)) rfl
theorem gA {Cl a dx:Addr}{H:Hp}{fk:Int}{bg tl pt:PyData}{X:List (Str × V)->Prop}(ha:H a=some (.ins Cl dx (fv (.int fk) v2 v3 v4 fs)))(r2:ė H v2 bg)(r3:ė H v3 tl)(r4:ė H v4 pt)(hn:∀ n∈fs.map (·.1),n∈fh)(hx:X (fv (.int fk) v2 v3 v4 fs)):Ob Cl H (.ref a) fk bg tl pt X :=
 ⟨a,dx,_,rfl,ha,qi,⟨_,sV,r2⟩,⟨_,pZ,r3⟩,⟨_,nN,r4⟩,λ m hm=>by rw [cW (sY hm)];exact zJ (ns:=[]) hm hn,hx⟩
end
section
variable {P:Program}{w:World}{K:Frag}{mg:bL}{base:Heap}{C:Nat->Addr}{CR CN CS:Addr}
abbrev AZ:Stmt:=az (bZ 36) 0
abbrev xB:Stmt:=az (bZ 37) 0
abbrev AC:Stmt:=az (bZ 38) 0
def oP (C:Nat->Addr)(CN:Addr):Sp:=λ vs H Q E=>∃ x u1 u2 d1 d2 dx,vs=[.ref x,u1,u2]/\H x=some (.ins (C 0) dx [])/\ė H u1 d1/\ė H u2 d2/\(ko 1 20 d1=false->cu CN "found" u1 H E)/\(∀ n,d1=.int n->1<=n->n<=20->ko 0 n d2=false->cu CN "found" u2 H E) /\
 ∀ n k,d1=.int n->d2=.int k->(R0.split n k).ok->∀ H',Kept H H' x->l_ C H' (.split n k) (.ref x)->Q .ą H'
theorem Ew:ad ["self","folk","ones"] ["self","folk","ones"] (aa AZ):=aK
variable {S g a1 a2 a3:Addr}{gd d1 d2 d3:FuncData}{t:Tok}
theorem w9 (F:Ģ K "__init__" "Split.__init__" AZ f fd)(Cf:eF K S "__init__" g)(G:Þ P w K mg base ay 1 g gd ["self","size","first_state","mark","parts"] (iR C))(bG:Binds K gd ["self","size","first_state","mark","parts"] [])(mS:mg "Rule" = some (.ref S))
  (A1:Df P w K mg base (cy P w) 3 "need_number" ["thing","low","high"] (sR CN) a1 d1)(A2:Df P w K mg base ay 1 "one_part" ["folk"] uG a2 d2)(mF:mg "MOST_FOLK" = some (.int 20 t)):Þ P w K mg base (cy P w) 4 f fd ["self","folk","ones"] (oP C CN):=by
 refine fL F Ew λ cdv A outer s H vs Q E hr h=>?_;obtain⟨x,u1,u2,e1,e2,dx,rfl,hx,r1,r2,q1,q2,q⟩:=h;have Ğ:ó 1 _:=hr.mono ar;refine⟨_,cn (ax (cL A1 hr cF (ac (pv 1) (ac aI (ac (bu (v:=.int 20) rfl mF ⟨_,rfl⟩) au))))) (cn (ax (cL A1 hr cF (ac (pv 2) (ac aI (ac (pv 1) au)))))
  (bp (ax (bP Cf G Ğ rfl mS bG .nil ag (ac (pv 0) (ac (pv 1) (ac (pv 2) (ac (bK (ac bh (ac (pv 1) (ac (pv 2) au)))) (ac (cL A2 Ğ ag (ac (pv 1) au)) au))))))))),?_⟩
 refine⟨_,rfl,u1,e1,1,20,rfl,r1,λ h1=>?_,λ h1=>q1 h1⟩;obtain⟨n,rfl,n1,OP⟩:=eQ h1;cases r1;refine⟨_,rfl,_,rfl,u2,e2,0,n,rfl,r2,λ h2=>?_,λ h2=>q2 n rfl n1 OP h2⟩;obtain⟨k,rfl,k0,kn⟩:=eQ h2;cases r2;refine⟨_,rfl,_,rfl,_,rfl,_,rfl,_,rfl,dZ,λ m hm=>⟨_,rfl,n,rfl,ak,OP,λ l H2 x2 rl=>?_⟩⟩;have xm:=Ext.new (o:=.tup [.str "split",.int n,.int k]) hm;have ŋ:=xm.trans x2;have Nb:=x2 _ _ (show af H m (.tup [.str "split",.int n,.int k]) m=_ from aO);have KC:=ŋ _ _ hx;refine⟨x,_,_,_,_,0,dx,[],rfl,ar,KC,ar,q n k rfl rfl ⟨n1,OP,k0,kn⟩ _ ((ŋ.kept x).trans (aR _)) ?_⟩;have kk:Kept H2 (af H2 x (.ins (C 0) dx (fv (.int n) (.int k) (.ref m) (.ref l) []))) x:=aR _;exact gA aO (.int _) ((ė.tup Nb (.cons (.str _) (.cons (.int _) (.cons (.int _) .nil)))).kept KC kk) (rl.kept KC kk) (by simp) trivial
def lP (C:Nat->Addr)(CN CS:Addr):Sp:=λ vs H Q E=>∃ x u1 u2 d1 d2 dx,vs=[.ref x,u1,u2]/\H x=some (.ins (C 1) dx [])/\ė H u1 d1/\ė H u2 d2/\(ko 1 10 d1=false->cu CN "found" u1 H E)/\(ko 1 10 d1=true->dm d2=false->cu CS "found" u2 H E) /\
 ∀ n a b,d1=.int n->d2=.tuple [.int a,.int b]->(R0.pairs n a b).ok->∀ H',Kept H H' x->l_ C H' (.pairs n a b) (.ref x)->Q .ą H'
theorem Dh:ad ["self","pairs","coin"] ["self","pairs","coin"] (aa xB):=aK
theorem i4 (h:dm d=true):∃ a b,d=.tuple [.int a,.int b]:=by
 match d,h with
 | .tuple [.int a,.int b],_=>exact⟨a,b,rfl⟩
theorem AV (Z:KR K C CR)(F:Ģ K "__init__" "Pairs.__init__" xB f fd)(Cf:eF K S "__init__" g)(G:Þ P w K mg base ay 1 g gd ["self","size","first_state","mark","parts"] (iR C))(bG:Binds K gd ["self","size","first_state","mark","parts"] [])(mS:mg "Rule" = some (.ref S))
  (A1:Df P w K mg base (cy P w) 3 "need_number" ["thing","low","high"] (sR CN) a1 d1)(A2:Df P w K mg base ay 1 "one_part" ["folk"] uG a2 d2)(A3:Df P w K mg base (cy P w) 5 "need_coin" ["thing"] (xK CS) a3 d3)(mF:mg "MOST_PAIRS" = some (.int 10 t)):Þ P w K mg base (cy P w) 6 f fd ["self","pairs","coin"] (lP C CN CS):=by
 refine fL F Dh λ cdv A outer s H vs Q E hr h=>?_;obtain⟨x,u1,u2,e1,e2,dx,rfl,hx,r1,r2,q1,q2,q⟩:=h;have Ğ:ó 1 _:=hr.mono ar;have ο:ó 3 _:=hr.mono ar;refine⟨_,cn (ax (cL A1 ο cF (ac (pv 1) (ac aI (ac (bu (v:=.int 10) rfl mF ⟨_,rfl⟩) au))))) (cn (ax (cL A3 hr cF (ac (pv 2) au))) (cn (cS (pv 0) (pv 2) rfl)
  (bp (ax (bP Cf G Ğ rfl mS bG .nil ag (ac (pv 0) (ac (aA c7 aI (pv 1)) (ac sG (ac (bK (ac bh (ac (pv 1) (ac (pv 2) au)))) (ac (cL A2 Ğ ag (ac (aA c7 aI (pv 1)) au)) au)))))))))),?_⟩
 refine⟨_,rfl,u1,e1,1,10,rfl,r1,λ h1=>?_,λ h1=>q1 h1⟩;refine⟨_,rfl,u2,e2,rfl,r2,λ h2=>?_,λ h2=>q2 h1 h2⟩;obtain⟨n,rfl,n1,XQ⟩:=eQ h1;obtain⟨a,b,rfl⟩:=i4 h2;cases r1;refine⟨_,rfl,_,rfl,x,C 1,dx,[],rfl,hx,Z.cls 1 ar,Z.no 1 ar _ ao,ar,?_⟩;have k1:Kept H (af H x (.ins (C 1) dx (bJ "coin" u2 []))) x:=aR _;have PD:=r2.kept hx k1;have J4:af H x (.ins (C 1) dx (bJ "coin" u2 [])) x=some (.ins (C 1) dx [("coin",u2)]):=aO;generalize af H x (.ins (C 1) dx (bJ "coin" u2 []))=H1 at k1 PD J4 ⊢;have cm:ų 2 n:=.inl ⟨ar,ar⟩;refine⟨_,rfl,_,rfl,_,_,rfl,rfl,cm,_,rfl,_,rfl,dZ,λ m hm=>⟨_,rfl,_,_,rfl,rfl,cm,2*n,rfl,ak,ak,λ l H2 x2 rl=>?_⟩⟩;have xm:=Ext.new (o:=.tup [.str "pairs",.int n,u2]) hm;have ŋ:=xm.trans x2;have Nb:=x2 _ _ (show af H1 m (.tup [.str "pairs",.int n,u2]) m=_ from aO);have KC:=ŋ _ _ J4;have Pz:=PD.mono ŋ;refine⟨x,_,_,_,_,1,dx,[("coin",u2)],rfl,ar,KC,(by show 1<=5;decide),q n a b rfl rfl ⟨n1,XQ,h2⟩ _ ((k1.trans (ŋ.kept x)).trans (aR _)) ?_⟩
 have kk:Kept H2 (af H2 x (.ins (C 1) dx (fv (.int (2*n)) .ą (.ref m) (.ref l) [("coin",u2)]))) x:=aR _;refine gA aO .ą ((ė.tup Nb (.cons (.str _) (.cons (.int _) (.cons Pz .nil)))).kept KC kk) (rl.kept KC kk) (λ n hn=>?_) ⟨u2,?_,Pz.kept KC kk⟩
 ·have e:n = "coin" := by simpa using hn
  rw [e]
  decide +kernel
 ·rw [cW ao];rfl
def lc (C:Nat->Addr)(CN CS:Addr):Sp:=λ vs H Q E=>∃ x u1 u2 u3 d1 d2 d3 dx,vs=[.ref x,u1,u2,u3]/\H x=some (.ins (C 2) dx [])/\ė H u1 d1/\ė H u2 d2/\ė H u3 d3/\(ko 1 20 d1=false->cu CN "found" u1 H E)/\(ko 1 20 d1=true->dm d2=false->cu CS "found" u2 H E)/\(ko 1 20 d1=true->dm d2=true->ko 1 20 d3=false->cu CN "found" u3 H E) /\
 ∀ n a b f,d1=.int n->d2=.tuple [.int a,.int b]->d3=.int f->(R0.ŏ n a b f).ok->∀ H',Kept H H' x->l_ C H' (.ŏ n a b f) (.ref x)->Q .ą H'
theorem Co:ad ["self","folk","coin","far"] ["self","folk","coin","far"] (aa AC):=aK
theorem wT (Z:KR K C CR)(F:Ģ K "__init__" "Coins.__init__" AC f fd)(Cf:eF K S "__init__" g)(G:Þ P w K mg base ay 1 g gd ["self","size","first_state","mark","parts"] (iR C))(bG:Binds K gd ["self","size","first_state","mark","parts"] [])(mS:mg "Rule" = some (.ref S))
  (A1:Df P w K mg base (cy P w) 3 "need_number" ["thing","low","high"] (sR CN) a1 d1)(A2:Df P w K mg base ay 1 "one_part" ["folk"] uG a2 d2)(A3:Df P w K mg base (cy P w) 5 "need_coin" ["thing"] (xK CS) a3 d3)(mF:mg "MOST_FOLK" = some (.int 20 t))(mR:mg "MOST_FAR" = some (.int 20 t2)):Þ P w K mg base (cy P w) 6 f fd ["self","folk","coin","far"] (lc C CN CS):=by
 refine fL F Co λ cdv A outer s H vs Q E hr h=>?_;obtain⟨x,u1,u2,u3,e1,e2,e3,dx,rfl,hx,r1,r2,r3,q1,q2,q3,q⟩:=h;have Ğ:ó 1 _:=hr.mono ar;have ο:ó 3 _:=hr.mono ar;refine⟨_,cn (ax (cL A1 ο cF (ac (pv 1) (ac aI (ac (bu (v:=.int 20) rfl mF ⟨_,rfl⟩) au))))) (cn (ax (cL A3 hr cF (ac (pv 2) au))) (cn (ax (cL A1 ο cF (ac (pv 3) (ac aI (ac (bu (v:=.int 20) rfl mR ⟨_,rfl⟩) au)))))
  (cn (cS (pv 0) (pv 2) rfl) (cn (cS (pv 0) (pv 3) rfl)
  (bp (ax (bP Cf G Ğ rfl mS bG .nil ag (ac (pv 0) (ac (pv 1) (ac aI (ac (bK (ac bh (ac (pv 1) (ac (pv 2) (ac (pv 3) au))))) (ac (cL A2 Ğ ag (ac (pv 1) au)) au)))))))))))),?_⟩
 refine⟨_,rfl,u1,e1,1,20,rfl,r1,λ h1=>?_,λ h1=>q1 h1⟩;refine⟨_,rfl,u2,e2,rfl,r2,λ h2=>?_,λ h2=>q2 h1 h2⟩;refine⟨_,rfl,u3,e3,1,20,rfl,r3,λ h3=>?_,λ h3=>q3 h1 h2 h3⟩;obtain⟨n,rfl,n1,OP⟩:=eQ h1;obtain⟨a,b,rfl⟩:=i4 h2;obtain⟨k,rfl,XX,XW⟩:=eQ h3;cases r1;cases r3;refine⟨_,rfl,_,rfl,x,C 2,dx,[],rfl,hx,Z.cls 2 ar,Z.no 2 ar _ ao,ar,?_⟩;have k1:Kept H (af H x (.ins (C 2) dx (bJ "coin" u2 []))) x:=aR _;have PD:=r2.kept hx k1;have J4:af H x (.ins (C 2) dx (bJ "coin" u2 [])) x=some (.ins (C 2) dx [("coin",u2)]):=aO;generalize af H x (.ins (C 2) dx (bJ "coin" u2 []))=H1 at k1 PD J4 ⊢;refine⟨_,rfl,_,rfl,x,C 2,dx,[("coin",u2)],rfl,J4,Z.cls 2 ar,Z.no 2 ar _ ao,(by show 1<1000;decide),?_⟩
 have ef:bJ "far" (.int k) [(("coin" : Str),u2)]=[(("coin" : Str),u2),(("far" : Str),.int k)]:=by
  show(if("coin" : Str) = "far" then _ else _)=_
  rw [Ü ao];rfl
 rw [ef];have kf:Kept H1 (af H1 x (.ins (C 2) dx [("coin",u2),("far",.int k)])) x:=aR _;have PB:=PD.kept J4 kf;have Qc:af H1 x (.ins (C 2) dx [("coin",u2),("far",.int k)]) x=some (.ins (C 2) dx [("coin",u2),("far",.int k)]):=aO;generalize af H1 x (.ins (C 2) dx [("coin",u2),("far",.int k)])=Ti at kf PB Qc ⊢;refine⟨_,rfl,_,rfl,_,rfl,_,rfl,_,rfl,dZ,λ m hm=>⟨_,rfl,n,rfl,ak,OP,λ l H2 x2 rl=>?_⟩⟩;have xm:=Ext.new (o:=.tup [.str "coins",.int n,u2,.int k]) hm;have ŋ:=xm.trans x2;have Nb:=x2 _ _ (show af Ti m (.tup [.str "coins",.int n,u2,.int k]) m=_ from aO);have KC:=ŋ _ _ Qc;have Pz:=PB.mono ŋ;refine⟨x,_,_,_,_,2,dx,[("coin",u2),("far",.int k)],rfl,ar,KC,(by show 2<=5;decide),q n a b k rfl rfl rfl ⟨n1,OP,h2,XX,XW⟩ _ (((k1.trans kf).trans (ŋ.kept x)).trans (aR _)) ?_⟩
 have kk:Kept H2 (af H2 x (.ins (C 2) dx (fv (.int n) (.int 0) (.ref m) (.ref l) [("coin",u2),("far",.int k)]))) x:=aR _;refine gA aO (.int _) ((ė.tup Nb (.cons (.str _) (.cons (.int _) (.cons Pz (.cons (.int _) .nil))))).kept KC kk) (rl.kept KC kk) (λ n hn=>?_) ⟨⟨u2,?_,Pz.kept KC kk⟩,?_⟩
 ·have e:n = "coin" \/ n = "far" := by simpa using hn
  rcases e with e | e <;> rw [e] <;> decide +kernel
 ·rw [cW ao];rfl
 ·rw [cW ao];rfl
end
theorem vX:Ext (wo H p) (wo (af H p o) p):=λ b u e=>by
 have n:=hW e;exact bw n (by rw [ah n];exact ai H p _ _ e)
theorem Ext.kp (e:Ext G H)(n:G x=none)(k:Kept H H' x):Ext G H':=λ b o h=>k b o (e b o h) λ z=>by rw [z,n] at h;cases h
section
variable {X:Cx}
def wr:List V->Hp->VK->Prop:=λ vs H Q=>∃ i j:Int,vs=[.int i,.int j]/\∀ r,H r=none->Q (.ref r) (af H r (.J3 i j))
theorem jC:cQ X (.type "range") wr:=by
 intro Ä s σ H xs us Q I r h;obtain⟨i,j,rfl,q⟩:=h;obtain⟨u,v,rfl,⟨t,rfl⟩,t',rfl⟩:=iL r;refine call_range_2 ⟨.ref s.heap.objs.size,_,I.laid (λ b o e=>Â _ e) (Ç _) ?_,rfl,q _ (I.Đ.fresh (Ç _))⟩;exact⟨_,_,_,Ò _ rfl⟩
end
section
variable {X:Cx}{Ä:List (Addr × Obj)}{σ:St}{H:Hp}{s:Shared}{A:Around}{Q:eH}{E:eH}{b:Bool}{tp:Addr}{dd:Option Addr}{its:List Value}{n:Nat}{sl:Array (Option Value)}
theorem oC (I:Inv X Ä σ H s)(rx:RelV x u)(ty:ŕ X.K H x t)(Lj:s.heap.get? tp=some ⟨.type "tuple",dd,.seq its.toArray n,sl⟩)(e:PySem.W.kitAny X.K t its=some b)(h:∀ tk,Q (.bool b) { s with toks:=tk }) :
  wpAny (model X.prog X.w) A (call (.builtin "isinstance") [u,.ref tp]) Q E s:=by
 cases ty with
 | ą=>cases (show u=.none from rx);exact Ċ PySem.W.kitx_none I.Ō True.intro Lj e (λ z=>nomatch z) h
 | bl y=>cases (show u=Value.bool y from rx);exact Ċ PySem.W.kitx_bool I.Ō True.intro Lj e (λ z=>nomatch z) h
 | int i=>obtain⟨t,q⟩:=(show ∃ t,u=.int i t from rx);cases q;exact Ċ PySem.W.kitx_int I.Ō True.intro Lj e (λ z=>nomatch z) h
 | str y=>obtain⟨t,q⟩:=(show ∃ t,u=.str y t from rx);cases q;exact Ċ PySem.W.kitx_str I.Ō True.intro Lj e (λ z=>nomatch z) h
 | MN y=>obtain⟨t,q⟩:=(show ∃ t,u=Value.float y t from rx);cases q;exact Ċ PySem.W.kitx_float I.Ō True.intro Lj e (λ z=>nomatch z) h
 | @lst a xs ea =>
  cases (show u=.ref a from rx);obtain⟨_,_,n,_,h1⟩:=(show þ X.prog X.w H s.heap a (.lst xs) from I.Đ a _ ea);exact Ċ Μ I.Ō ⟨_,h1,rfl⟩ Lj e (λ z=>nomatch z) h
 | @J5 a ob xs ea =>
  cases (show u=.ref a from rx);obtain⟨_,_,_,n,_,h1⟩:=(show þ X.prog X.w H s.heap a (.J5 ob (.lst xs)) from I.Đ a _ ea);exact Ċ Μ I.Ō ⟨_,h1,rfl⟩ Lj e (λ z=>nomatch z) h
 | @tup a xs ea =>
  cases (show u=.ref a from rx);obtain⟨_,_,_,p⟩:=(show þ X.prog X.w H s.heap a (.tup xs) from I.Đ a _ ea);obtain⟨o,h1,h2,_⟩:=p;exact Ċ PySem.W.kitx_tuple I.Ō ⟨o,h1,h2⟩ Lj e (λ z=>nomatch z) h
 | @dK a Ě ea =>
  cases (show u=.ref a from rx);obtain⟨_,_,vs,_,p⟩:=(show þ X.prog X.w H s.heap a (.dK Ě) from I.Đ a _ ea);obtain⟨o,es,ep,h1,h2,_⟩:=p;exact Ċ Ν I.Ō ⟨o,h1,h2.1⟩ Lj e (λ z=>nomatch z) h
 | @dT a Ě ea =>
  cases (show u=.ref a from rx);obtain⟨_,_,xs,_,o,es,ep,h1,h2,_⟩:=(show þ X.prog X.w H s.heap a (.dT Ě) from I.Đ a _ ea);exact Ċ Ν I.Ō ⟨o,h1,h2.1⟩ Lj e (λ z=>nomatch z) h
 | @ins a C dx fs ea cl ha hn Kg hm =>
  cases (show u=.ref a from rx);obtain⟨mA,O,_⟩:=gn I.Đ ea;obtain⟨od,J,_⟩:=O.look;exact Ċ (PySem.W.kitx_own (cl.get _) cl.hd ha hn Kg hm) I.Ō J Lj e (λ z=>nomatch z) h
end
section
variable {X:Cx}
def Fl (K:Frag):List V->Hp->VK->Prop:=λ vs H Q=>∃(x:V)(p:Addr)(cs:List Addr)(t:Value)(b:Bool),vs=[x,.ref p]/\ŕ K H x t/\H p=some (.tup (cs.map V.ref))/\kitAny K t (cs.map Value.ref)=some b/\Q (.bl b) H
theorem jH:cQ X (.builtin "isinstance") (Fl X.K):=by
 intro Ä s σ H xs us Q I r h;obtain⟨x,p,cs,t,b,rfl,ty,hp,e,q⟩:=h;obtain⟨u,u',rfl,ru,Ny⟩:=iL r;cases (show u'=.ref p from Ny);obtain⟨_,its,rv,⟨o,h1,h2,n,h3⟩⟩:=(show þ X.prog X.w H s.heap p (.tup (cs.map .ref)) from I.Đ p _ hp);have ei:=jx rv;subst ei;obtain⟨c0,d0,dt0,sl0⟩:=o;have YL:=h2;have S1:=h3;subst YL;subst S1;exact oC I ru ty h1 e λ tk=>⟨.bl b,H,I.tok _,rfl,q⟩
end
def Ly (K:Frag)(C:Nat->Addr)(H:Hp)(v:V)(b:Bool):Prop:=∃ t,ŕ K H v t/\kitAny K t [.ref (C 0),.ref (C 1),.ref (C 2)]=some b
theorem Ly.ext (h:Ly K C H v b)(x:Ext H H'):Ly K C H' v b:=by
 obtain⟨t,k,e⟩:=h;exact⟨t,My.ŕ.ext k x,e⟩
theorem uO (h1:kitOne K t a=some x)(h2:kitOne K t b=some y)(h3:kitOne K t c=some z):kitAny K t [a,b,c]=some (x||(y||z)):=by
 cases x <;> cases y <;> cases z <;> simp [kitAny,h1,h2,h3]
theorem Ob.ty {CR:Addr}(Z:KR K C CR)(hi:i<5)(h:Ob (C i) H v fk bg tl pt X):ŕ K H v (.ref (C i)):=by
 obtain⟨a,dx,fs,rfl,ha,_⟩:=h.ex;exact .ins ha (Z.cls i hi) (Z.ha i hi) Z.hn Z.Kg (Z.hm i hi)
theorem rf {CR:Addr}(Z:KR K C CR)(h:Ru C H t v):Ly K C H v (t.kind==0||(t.kind==1||t.kind==2)) :=
 ⟨_,h.ob.ty Z t.ę,uO (Z.kk _ 0 t.ę ar) (Z.kk _ 1 t.ę ar) (Z.kk _ 2 t.ę ar)⟩
theorem Is {J:It}{tt:TT}{Q:Hp->Prop}{xs:List V}(p:V->Bool)(hz:xs.length<sizeLine)(hD:H1 D=none)(go:∀ i H,Ext H1 H->i<xs.length->J.go i H)(st:∀ H,Ext H1 H->J.stop xs.length H)(yl:∀ i H x H',Ext H1 H->J.JD i H x H'->H'=H/\xs[i]?=some x)
  (hs:∀(i:Nat) x H,xs[i]?=some x->Ext H1 H->∀ R:Bool->Hp->Prop,(∀ H',Ext H H'->R (p x) H')->tt (some x::cap) H R)(hd:∀ H,Ext H1 H->H D=some (.lst (xs.filter p))->Q H) :
  ∃ W:Nat->Nat->List V->Hp->Prop,(∃ m,W 0 m [] (af H1 D (.lst []))) /\
   ∀ i m ys H2,W i m ys H2->H2 D=some (.lst ys)/\((J.stop i H2/\Q H2)\/(J.go i H2/\ys.length<sizeLine /\
    ∀ x H3,J.JD i H2 x H3->∀ os:St,os.length=1->aX 0 x (os++cap) H3 λ Ĭ H0=>(∃ ł:St,ł.length=1/\Ĭ = ł ++ cap)/\tt Ĭ H0 λ b H5=>(b=false->∃ m',m'<m/\W (i+1) m' ys H5) /\
     (b=true->aj 0 Ĭ H5 λ y H4=>H4 D=some (.lst ys)/\∃ m',m'<m/\W (i+1) m' (ys ++ [y]) (af H4 D (.lst (ys ++ [y])))))):=by
 refine⟨λ i m ys H=>m=xs.length-i/\i<=xs.length/\H D=some (.lst ys)/\ys=(xs.take i).filter p/\Ext H1 H,⟨xs.length,by simp,Nat.zero_le _,aO,rfl,.new hD⟩,?_⟩
 rintro i m ys H ⟨rfl,hi,K2,rfl,x1⟩;refine⟨K2,?_⟩;by_cases ź:i<xs.length
 ·refine .inr ⟨go i H x1 ź,?_,λ x H' X5 os į=>?_⟩
  ·have:=ħ p (xs.take i);rw [Ď] at this;omega
  obtain⟨rfl,hx⟩:=yl i H x H' x1 X5;obtain⟨o0,rfl⟩:∃ o0,os=[o0]:=by
   match os,į with
   | [o0],_=>exact⟨o0,rfl⟩
  refine⟨⟨[some x],rfl,rfl⟩,hs i x H' hx x1 _ λ H5 x5=>⟨λ e=>?_,λ e=>?_⟩⟩
  ·refine⟨xs.length-(i+1),ak,rfl,ź,x5 _ _ K2,?_,x1.trans x5⟩;rw [aE hx,Ŕ,ĵ (by rw [e];decide),τ,Ę]
  ·refine⟨x,rfl,x5 _ _ K2,xs.length-(i+1),ak,rfl,ź,aO,?_,aN _ (x1.trans x5) hD⟩;rw [aE hx,Ŕ,Ĵ e,τ]
 ·have e:i=xs.length:=ak;subst e;refine .inl ⟨st H x1,hd H x1 ?_⟩;rw [Õ] at K2;exact K2
theorem dI (p:Int->Bool)(pv:V->Bool)(h:∀ i,pv (.int i)=p i):∀ ns:List Int,(ns.map V.int).filter pv=(ns.filter p).map V.int
 | []=>rfl
 | n::ns=>by
  rw [ë];cases e:p n with
  | true=>rw [Ĵ (by rw [h];exact e),Ĵ e,dI p pv h ns];rfl
  | false=>rw [ĵ (by rw [h,e];decide),ĵ (by rw [e];decide),dI p pv h ns]
theorem Ö.filter {α:Type}{f:α->PyData}{p:α->Bool}{pv:V->Bool}:∀{ys:List V}{qs:List α},Ö G ys (qs.map f)->(∀(i:Nat) y q,ys[i]?=some y->qs[i]?=some q->pv y=p q)->Ö G (ys.filter pv) ((qs.filter p).map f)
 | [],[],_,_=>.nil
 | [],_::_,h,_=>by cases h
 | _::_,[],h,_=>by cases h
 | y::ys,q::qs,h,k=>by
  cases h with
  | cons r t =>
   have e0:=k 0 y q rfl rfl;have ih:=Ö.filter t λ i y' q' a b=>k (i+1) y' q' a b;cases e:p q with
   | true=>rw [Ĵ (by rw [e0];exact e),Ĵ e];exact .cons r ih
   | false=>rw [ĵ (by rw [e0,e];decide),ĵ (by rw [e];decide)];exact ih
def Sm (ps:List (List Int)):Prop:=ps.length<=20/\∀ p∈ps,p.length<=20
theorem eB:∀(ns:List Int)(s:Int),(bU s ns).length=ns.length
 | [],_=>rfl
 | n::ns,s=>by show(bU (s+n) ns).length+1=_;rw [eB ns];rfl
theorem iK:∀(ns:List Int)(s:Int),(∀ n∈ns,n<=20)->∀ p∈bU s ns,p.length<=20
 | [],_,_,_,h=>by cases h
 | n::ns,s,hn,p,h=>by
  rcases á.mp h with rfl | h
  ·have:=hn n (ì ..);unfold cO;simp only [List.length_map,List.length_range];omega
  ·exact iK ns _ (λ m hm=>hn m (Ø _ hm)) p h
theorem Sm.cut (m:Int)(h:Sm ps):Sm (gO m ps):=by
 refine⟨ð (ħ _ _) (by rw [Ã];exact h.1),λ p hp=>?_⟩
 obtain⟨q,hq,rfl⟩:=ê.mp (K6.mp hp).1;exact ð (ħ _ _) (h.2 q hq)
theorem Rl.sm:∀{t:Rl},t.ok->Sm t.parts
 | .one r,h=>by
  have:=R0.Ą h;refine⟨by show 1<=20;decide,λ p hp=>?_⟩
  rw [ä.mp hp];unfold cO;simp only [List.length_map,List.length_range];omega
 | .blocks rs,h=>by
  obtain⟨h1,h6,ok,RH⟩:=h;refine⟨by show(bU 0 (rs.map R0.Ï)).length<=20;rw [eB,Ã];omega,iK _ _ λ n hn=>?_⟩
  obtain⟨r,hr,rfl⟩:=ê.mp hn;exact(R0.Ą (ok r hr)).2
 | .first t m,h=>(Rl.sm h.1).cut m
theorem i6 (n:Int):∀(ns:List Int)(s:Int),bU s (ns ++ [n])=bU s ns ++ [cO (s+ns.sum) n.toNat]
 | [],s=>by simp [bU]
 | m::ns,s=>by
  show cO s m.toNat::bU (s+m) (ns ++ [n])=_;rw [i6 n ns (s+m),ľ,Int.add_assoc];rfl
structure Ms (P:Program)(w:World)(K:Frag)(mg:bL)(base:Heap)(C:Nat->Addr):Prop where
 Ï:bv P w K mg base ay 1 "folk" ["self"] (mT C) (λ _=>gQ C)
 begin:bv P w K mg base ay 1 "begin" ["self"] (mT C) (λ _=>im C)
 told:bv P w K mg base ay 1 "told" ["self"] (mT C) (λ _=>iU C)
 blocks:bv P w K mg base ay 1 "blocks" ["self"] (mT C) (λ _=>pH C)
section
variable {P:Program}{w:World}{K:Frag}{mg:bL}{base:Heap}{C:Nat->Addr}{CR:Addr}
abbrev yd:Stmt:=bZ 39
def tJ (K:Frag)(C:Nat->Addr):Sp:=λ vs H Q _=>∃ v b,vs=[v]/\Ly K C H v b/\∀ H',Ext H H'->Q (.bl b) H'
theorem Es:ad ["thing"] ["thing"] (aa yd):=aK
theorem AS (F:Ģ K "may_be_block" "may_be_block" yd f fd)(m0:mg "Split" = some (.ref (C 0)))(m1:mg "Pairs" = some (.ref (C 1)))(m2:mg "Coins" = some (.ref (C 2)))(mi:mg "isinstance" = none):Þ P w K mg base ay 1 f fd ["thing"] (tJ K C):=by
 refine bR F Es λ cdv A outer s H vs Q E hr h=>?_;obtain⟨v,b,rfl,bk,q⟩:=h;refine⟨_,bp (cZ (aq jH rfl mi à (ac (pv 0) (ac (bK (ac (bu (v:=.ref (C 0)) rfl m0 rfl) (ac (bu (v:=.ref (C 1)) rfl m1 rfl) (ac (bu (v:=.ref (C 2)) rfl m2 rfl) au)))) au)))),?_⟩;refine⟨_,rfl,dZ,λ p hp=>?_⟩;have x1:=Ext.new (o:=.tup [.ref (C 0),.ref (C 1),.ref (C 2)]) hp;obtain⟨t,ty,ka⟩:=bk.ext x1;exact⟨v,p,[C 0,C 1,C 2],t,b,rfl,ty,aO,ka,q _ x1⟩
abbrev Hg:Stmt:=bZ 40
def nP (K:Frag)(C:Nat->Addr)(H:Hp)(xs:List V)(bs:List Bool):Prop:=xs.length=bs.length/\∀(i:Nat) x b,xs[i]?=some x->bs[i]?=some b->Ly K C H x b
def Fa (n:Nat)(bs:List Bool):Bool:=(decide (1<=n)&&decide (n<=6))&&bs.all id
def El (K:Frag)(C:Nat->Addr):Sp:=λ vs H Q _=>∃ v,vs=[v]/\((MP K H v "list" /\ ∀ H',Ext H H'->Q (.bl false) H')\/∃ a xs bs,v=.ref a/\H a=some (.lst xs)/\xs.length<1000/\nP K C H xs bs/\∀ H',Ext H H'->Q (.bl (Fa xs.length bs)) H')
theorem GI:ad ["thing"] ["thing"] (aa Hg):=aK
abbrev Cg:Scope:=cC [("rule",.local),("may_be_block",.globalImplicit)]
theorem yy:aT X Cg [] ["rule"] [] []:=by
 refine⟨rfl,rfl,ao,ao,ao,(λ z c h=>nomatch h),(λ z h=>?_),ao,(λ k z h=>by simp at h),rfl⟩
 exfalso;have h':List.lookup z [((".0" : Str),NameKind.local),(("rule" : Str),NameKind.local),(("may_be_block" : Str),NameKind.globalImplicit)]=some .cell\/List.lookup z [((".0" : Str),NameKind.local),(("rule" : Str),NameKind.local),(("may_be_block" : Str),NameKind.globalImplicit)]=some .free:=h;simp only [List.lookup_cons,List.lookup_nil] at h'
 repeat' (split at h')
 all_goals simp at h'
theorem Ar:((["rule"]:List Str)++([]:List Str)).Nodup:=ao
theorem Ee (N:rX K)(F:Ģ K "are_block_rules" "are_block_rules" Hg f fd)(A1:Df P w K mg base ay 1 "may_be_block" ["thing"] (tJ K C) a1 d1)(A2:Df P w K mg base ay 2 "is_whole" ["thing","low","high"] (fE K) a2 d2)(mR:mg "MOST_RULES" = some (.int 6 t))
  (mi:mg "isinstance" = none)(ml:mg "list" = none)(mn:mg "len" = none)(ma:mg "all" = none):Þ P w K mg base ay 3 f fd ["thing"] (El K C):=by
 refine bR F GI λ cdv A outer s H vs Q E hr h=>?_;obtain⟨v,rfl,h⟩:=h;have Ğ:ó 1 _:=hr.mono ar;refine⟨_,cn (bC (PW.pt (f8 (bQ (bF (aq (c6 N) rfl mi à (ac (pv 0) (ac (hZ rfl ml ĕ) au))))) (dW (bQ (bF (cL A2 hr ag (ac (aq aw rfl mn è (ac (pv 0) au)) (ac aI (ac (bu (v:=.int 6) rfl mR ⟨_,rfl⟩) au))))))))) (bp (cZ mQ)) gj)
  (bp (cZ (aq (kO rfl) rfl ma PyProof.Rows.boot_all (ac (bH (te:=eu (tJ K C) [] E0 (av (aj 0) aJ)) (g:=aX 0) rfl yy (aG (pv 0)) (λ s H C fp=>cA Ar rfl (.inl rfl)) (λ s H C fp=>cL A1 Ğ ag (ac (pv 0) au))) au)))),?_⟩
 rcases h with⟨⟨t,kd,kt⟩,q⟩ | ⟨a,xs,bs,rfl,ha,P',⟨lb,bk⟩,q⟩
 ·exact⟨_,rfl,_,_,_,_,rfl,kd,kt,_,rfl,cU (cU (q H (.refl _)))⟩
 refine⟨_,rfl,_,_,_,_,rfl,.inl (.lst ha),rfl,_,rfl,cM ?_⟩;refine⟨_,rfl,a,xs,rfl,.inl (î.of ha),_,1,6,rfl,.inl ⟨_,rfl⟩,_,rfl,?_⟩;have ei:KA 1 6 (.int (xs.length:Nat))=(decide (1<=xs.length)&&decide (xs.length<=6)):=by
  show(decide ((1:Int)<=(xs.length:Nat))&&decide (((xs.length:Nat):Int)<=6))=_
  congr 1 <;> exact ě.mpr ak
 rw [ei];unfold Fa at q;cases e:decide (1<=xs.length)&&decide (xs.length<=6) with
 | false =>
  rw [e,Β] at q;exact cU (q H (.refl _))
 | true =>
  rw [e,Ŀ] at q;refine cM ⟨_,rfl,a,rfl,⟨_,î.of ha⟩,λ D hD=>?_⟩;refine bz (λ i ys H'=>Ext H H'/\ys=(bs.take i).map .bl) (by rw [Ô];omega) ⟨.new hD,rfl⟩ (λ i ys H' pv=>î.of (pv.1 _ _ ha)) ?_ ?_
  ·rintro i x ys H' ex ly ĉ ⟨x',rfl⟩ os į R k;obtain⟨o0,rfl⟩:∃ o0,os=[o0]:=by
    match os,į with
    | [o0],_=>exact⟨o0,rfl⟩
   have hi:i<bs.length:=by have:=(Æ.mp ex).1;omega
   refine⟨⟨[some x],rfl,rfl⟩,_,rfl,x,_,rfl,(bk i x _ ex (Á hi)).ext x',λ H4 x4=>k _ H4 (x4 _ _ ĉ) ⟨aN _ (x'.trans x4) hD,?_⟩⟩;rw [aE (Á hi),Î];rfl
  ·rintro ys H' ly ĉ ⟨x',rfl⟩;rw [lb,Õ] at ĉ;exact⟨D,bs,rfl,î.of ĉ,q H' x'⟩
abbrev GB:Stmt:=bZ 32
def E6 (C:Nat->Addr):Sp:=λ vs H Q _=>∃(a:Addr)(xs:List V)(rs:List R0),vs=[.ref a]/\H a=some (.lst xs)/\Λ C H rs xs/\rs.length<=6/\(∀ r∈rs,r.ok)/\∀ l H',Ext H H'->ė H' (.ref l) (fq (bU 0 (rs.map R0.Ï)))->Q (.ref l) H'
abbrev IY:List Str:=["rules","parts","start","rule","behind"]
theorem Pn:ad IY ["rules"] (aa GB):=aK
theorem rh {ns:List Int}(h:ns[i]?=some n):(ns.take (i+1)).sum=(ns.take i).sum+n:=by
 rw [aE h,K5];simp
theorem nw {rs:List R0}(h6:rs.length<=6)(ok:∀ r∈rs,r.ok):∀ i,0<=(((rs.take i).map R0.Ï).sum)/\((rs.take i).map R0.Ï).sum<=120:=by
 have gen:∀(l:List R0),(∀ r∈l,r.ok)->0<=(l.map R0.Ï).sum/\(l.map R0.Ï).sum<=20*(l.length:Int):=by
  intro l
  induction l with
  | nil=>intro _;simp
  | cons r l ih =>
   intro h;have h1:=R0.Ą (h r (ì ..));have h2:=ih λ x hx=>h x (Ø _ hx);simp only [List.map_cons,List.sum_cons,List.length_cons];omega
 intro i;have:=gen (rs.take i) λ r hr=>ok r (Ů hr);have l:(rs.take i).length<=6:=by rw [Ď];omega
 omega
theorem Dw (F:Ģ K "parts_of" "parts_of" GB f fd)(M:Ms P w K mg base C)(mt:mg "tuple" = none)(mr:mg "range" = none):Þ P w K mg base ay 2 f fd ["rules"] (E6 C):=by
 refine bR F Pn λ cdv A outer s H vs Q E hr h=>?_;obtain⟨a,xs,rs,rfl,ha,al,l6,ok,q⟩:=h;have nd:=Pn.nd;refine⟨_,cn (jI (i:=1) nd rfl (Or.inl rfl) (bT au)) (cn (jI (i:=2) nd rfl (Or.inl rfl) aI)
  (cn (dR ś rfl (aG (pv 0)) (cA (i:=3) nd rfl (Or.inl rfl)) (cn (jI (i:=4) nd rfl (Or.inl rfl) (aA bB (pv 2) (bc (pv 3) M.Ï hr ag)))
   (cn (ax (kI Ĳ MV MU dz (pv 1) (ac (aU (jL rfl) rfl mt õ (ac (aU jC rfl mr Φ (ac (pv 2) (ac (pv 4) au))) au)) au)))
   (bp (jI (i:=2) nd rfl (Or.inl rfl) (pv 4))))))
  (bp (cZ (aU bY rfl mt õ (ac (pv 1) au)))))),?_⟩
 refine⟨dZ,λ p hp=>?_⟩;have x1:=Ext.new (o:=.lst []) hp;have f1:af H p (.lst []) p=some (.lst []):=aO;generalize af H p (.lst [])=H1 at x1 f1 ⊢;have ap:a≠p:=λ e=>by rw [<- e,ha] at hp;cases hp
 refine⟨_,rfl,a,rfl,⟨_,î.of (x1 _ _ ha)⟩,gv (xs:=xs) (λ i σ H'=>Ext H H'/\(∃ qs,H' p=some (.lst qs)/\Ö (wo H' p) qs ((bU 0 ((rs.take i).map R0.Ï)).map oo))/\∃ o3 o4,σ=[some (.ref a),some (.ref p),some (.int ((rs.take i).map R0.Ï).sum),o3,o4]) ⟨x1,⟨[],f1,.nil⟩,_,_,rfl⟩ ?_ ?_ ?_⟩
 ·rintro i σ H' _ ⟨x',_⟩;exact î.of (x' _ _ ha)
 ·rintro i v σ H' ev ⟨x',⟨qs,hq,rq⟩,o3,o4,rfl⟩;have hi:i<rs.length:=by have:=(Æ.mp ev).1;rw [al.1];exact this
  have er:=Á hi;have ru:=(al.2 i _ v er ev).ext x';have em:(rs.map R0.Ï)[i]?=some rs[i].Ï:=by rw [Ì,er];rfl
  have st:((rs.take (i+1)).map R0.Ï).sum=((rs.take i).map R0.Ï).sum+rs[i].Ï:=by
   rw [MW,MW];exact rh em
  have b1:=nw l6 ok i;have b2:=R0.Ą (ok _ (ü hi));have lq:qs.length<=6:=by
   have:=rq.length;rw [Ã] at this;have sl:∀(ns:List Int)(s:Int),(bU s ns).length=ns.length:=by
    intro ns
    induction ns with
    | nil=>intro s;rfl
    | cons n ns ih=>intro s;show(bU (s+n) ns).length+1=_;rw [ih];rfl
   rw [sl,Ã,Ď] at this;omega
  refine⟨_,rfl,bO (t:=.one rs[i]) ao ru (λ R r=>⟨_,rfl,r⟩) ⟨v,.one rs[i],rfl,ru,_,_,rfl,rfl,?_⟩⟩;refine⟨_,rfl,.inl ⟨rfl,_,î.of hq⟩,_,rfl,_,rfl,_,_,rfl,λ r hr=>⟨r,_,_,rfl,aO,⟨by show -(2^62)<=_;omega,ak,by show -(2^62)<=_+R0.Ï _;omega,by show _+R0.Ï _<_;omega⟩,by show(_+R0.Ï _-_).toNat<=_;omega,λ l hl=>?_⟩⟩
  have xr:=Ext.new (o:=.J3 ((rs.take i).map R0.Ï).sum (((rs.take i).map R0.Ï).sum+rs[i].Ï)) hr;have ed:(((rs.take i).map R0.Ï).sum+rs[i].Ï - ((rs.take i).map R0.Ï).sum).toNat=rs[i].Ï.toNat:=by congr 1;omega
  have Zz:(((rs.take i).map R0.Ï).sum+(Rl.one rs[i]).Ï - ((rs.take i).map R0.Ï).sum).toNat=rs[i].Ï.toNat:=ed;rw [Zz,nh];have Mn:af H' r (.J3 ((rs.take i).map R0.Ï).sum (((rs.take i).map R0.Ï).sum+rs[i].Ï)) l=none:=hl;have xl:=Ext.new (o:=.tup ((cO ((rs.take i).map R0.Ï).sum rs[i].Ï.toNat).map V.int)) Mn;have x2:=xr.trans xl;have JW:=x2 _ _ hq;have np:l≠p:=λ e=>by rw [e,xr _ _ hq] at Mn;cases Mn
  have Ml:af (af H' r (.J3 ((rs.take i).map R0.Ï).sum (((rs.take i).map R0.Ï).sum+rs[i].Ï))) l (.tup ((cO ((rs.take i).map R0.Ï).sum rs[i].Ï.toNat).map V.int)) l=some (.tup ((cO ((rs.take i).map R0.Ï).sum rs[i].Ï.toNat).map V.int)):=aO;refine⟨p,qs,.ref l,rfl,rfl,JW,by rw [Ô];omega,?_⟩
  show cG (aj 4) (aX 2) _ [some (.ref a),some (.ref p),some (.int ((rs.take i).map R0.Ï).sum),some v,some (.int (((rs.take i).map R0.Ï).sum+rs[i].Ï))] (af (af (af H' r (.J3 ((rs.take i).map R0.Ï).sum (((rs.take i).map R0.Ï).sum+rs[i].Ï))) l (.tup ((cO ((rs.take i).map R0.Ï).sum rs[i].Ï.toNat).map V.int))) p (.lst (qs ++ [.ref l])));generalize af (af H' r (.J3 ((rs.take i).map R0.Ï).sum (((rs.take i).map R0.Ï).sum+rs[i].Ï))) l (.tup ((cO ((rs.take i).map R0.Ï).sum rs[i].Ï.toNat).map .int))=H2 at x2 JW Ml ⊢;refine⟨_,rfl,aN _ (x'.trans x2) hp,⟨_,aO,?_⟩,_,_,by rw [st];rfl⟩
  have e1:(bU 0 ((rs.take (i+1)).map R0.Ï)).map oo=(bU 0 ((rs.take i).map R0.Ï)).map oo ++ [oo (cO ((rs.take i).map R0.Ï).sum rs[i].Ï.toNat)]:=by
   rw [aE er,Î,ë,J9,i6,Î,ν];rfl
  rw [e1];refine((Ö.mono (bo x2 p) rq).append (.cons (.tup (bw np Ml) (dA _ _)) .nil) |> Ö.mono vX)
 ·rintro σ H' ⟨x',⟨qs,hq,rq⟩,o3,o4,rfl⟩;have lr:=al.1.symm;rw [lr,Õ] at rq;refine⟨_,rfl,p,qs,rfl,.inl ⟨î.of hq,λ l hl=>?_⟩⟩;have xl:=Ext.new (o:=.tup qs) hl;exact q l _ (x'.trans xl) (.tup aO (Ö.mono ((ai H' p).trans xl) rq))
end
section
variable {prog:Program}{w:World}{A:Around}{E:eH}{s:Shared}
theorem oW {items}(hit:s.heap.IsTupleIter it t i)(ht:s.heap.IsTuple t items)(hx:items[i]?=some x)
  (hQ:∀ h',h'.IsTupleIter it t (i+1)->Heap.SameBut it s.heap h'->Q x { s with heap:=h' }):wpAny (model prog w) A (Builtin.SmallTypes.nextOf (.ref it)) Q E s:=by
 obtain⟨⟨o,ho,hc,hd⟩,⟨ol,SD,_,nl,SZ⟩⟩:=And.intro (id hit) ht;unfold Builtin.SmallTypes.nextOf;refine À (Ă hit.typeIs ō (Ē ō hit.typeIs F.entry_tuple_iterator_next ?_ (NX _)));show wpAny _ _ (field (.ref it) 0>>=_) _ _ s;refine À (ù ho hd (x:=.ref t) rfl ?_);show wpAny _ _ (if(Value.ref t == .none)=true then _ else _) _ _ s;rw [Ü (show ¬ ((Value.ref t == .none)=true) from Ñ)]
 show wpAny _ _ (field (.ref it) 1>>=_) _ _ s;refine À (ù ho hd (x:=.int i 0) rfl ?_);show wpAny _ _ (seqItems? (.ref t)>>=_) _ _ s;refine À (ļ SD SZ ?_);simp only [Int.toNat_natCast,hx];refine À (J7 ho hd (by simp) (wpAny_pure ⟨x,rfl,wpAny_pure (hQ _ ⟨_,Heap.get?_update_self _ ho (Obj.isFreed_of_fields (Obj.data_mapFields hd _)),(Obj.cls_mapFields ..).trans hc,?_⟩ (Heap.SameBut.update ..))⟩))
 rw [K4 hd];simp [rawInt]
theorem sT {items}(hh:A.handled=none)(hit:s.heap.IsTupleIter it t i)(ht:s.heap.IsTuple t items)(hx:items[i]?=none)
  (hE:∀ h' e,Heap.ExtBut it s.heap h'->(∃ o,h'.get? e=some o/\o.cls=.type "StopIteration")->E (.ref e) { s with heap:=h' }):wpAny (model prog w) A (Builtin.SmallTypes.nextOf (.ref it)) Q E s:=by
 obtain⟨⟨o,ho,hc,hd⟩,⟨ol,SD,_,nl,SZ⟩⟩:=And.intro (id hit) ht;unfold Builtin.SmallTypes.nextOf;refine À (Ă (name:=Str.ofString "__next__") hit.typeIs ō (Ē ō hit.typeIs F.entry_tuple_iterator_next ?_ (NX _)));show wpAny _ _ (field (.ref it) 0>>=_) _ _ s;refine À (ù ho hd (x:=.ref t) rfl ?_);show wpAny _ _ (if(Value.ref t == .none)=true then _ else _) _ _ s;rw [Ü (show ¬ ((Value.ref t == .none)=true) from Ñ)]
 show wpAny _ _ (field (.ref it) 1>>=_) _ _ s;refine À (ù ho hd (x:=.int i 0) rfl ?_);show wpAny _ _ (seqItems? (.ref t)>>=_) _ _ s;refine À (ļ SD SZ ?_);simp only [Int.toNat_natCast,hx];refine À (A_ (À (J7 ho hd (by simp) ?_)));show wpAny _ _ (newExc (.type "StopIteration") []>>=_) _ _ _
 refine À ?_;simp only [newExc,newTuple];refine À (Č ?_ (by size_fits))
 refine À (wpAny_of_eq (by first | rfl | (simp only [firstArgMember];rfl)) (Č ?_ (by size_fits)))
 simp only [raiseNew];refine À (wpAny_handled ?_)
 first | rw [show A.in1.handled=none from hh] | rw [hh]
 exact À (È (wpAny_throw (hE _ _ (((Heap.SameBut.update ..).extBut.push _).push _) ⟨_,Ò _ rfl,rfl⟩)))
abbrev jh (h:Heap)(z TI TO:Addr)(f0 f1:Value):Prop:=h.get? z=some { cls:=.type "zip",dict:=none,data:=.fields #[f0,f1,.bool false,.ref TI,.ref TO],slots:=#[] }
def IE (f0:Value):Prop:=f0=.none\/∃ a:Int,f0=rawInt a
theorem vc (h:Q (s.heap.get? a) s):wpAny (model prog w) A (loadIfAlive a) Q E s:=λ _ _ _=>by
 unfold loadIfAlive;rw [Sem.wp_loadIfAlive];exact h
theorem pL {z TI TO:Addr}(hz:jh s.heap z TI TO f0 (.bool b))(ow:IE f0)(h1:Q true s)
  (h2:∀ h',jh h' z TI TO f0 (.bool true)->Heap.SameBut z s.heap h'->Q false { s with heap:=h' }):wpAny (model prog w) A (Builtin.SmallTypes.ownedTupleIsFree (.ref z)) Q E s:=by
 refine À (ù hz rfl rfl ?_);rcases ow with rfl | ⟨a,rfl⟩
 ·exact È h1
 ·refine À (vc ?_);cases s.heap.get? a.toNat with
  | none=>exact È h1
  | some o =>
   refine À (ù hz rfl rfl ?_);cases b with
   | true =>
    refine È ?_;have e:=h2 s.heap hz ⟨rfl,λ _ _=>rfl⟩;exact e
   | false =>
    exact À (ÿ hz (by simp) λ h' Q4 Mg=>wpAny_pure (h2 h' Q4 Mg))
structure qU (z TI TO i1 i2 l1 l2:Addr):Prop where
 a1:TI≠z
 a2:TO≠z
 a3:i1≠z
 a4:i2≠z
 a5:TI≠TO
 a6:TI≠i1
 a7:TI≠i2
 a8:TO≠i1
 a9:TO≠i2
 b1:i1≠i2
 b2:l1≠z
 b3:l1≠TO
 b4:l1≠i1
 b5:l1≠i2
 b6:l2≠z
 b7:l2≠TO
 b8:l2≠i1
 b9:l2≠i2
structure z_ (h:Heap)(z TI TO i1 i2 l1 l2:Addr)(k:Nat):Prop where
 zo:∃ f0 b,jh h z TI TO f0 (.bool b)/\IE f0
 ti:IsPair h TI (.ref i1) (.ref i2)
 to:∃ a b,IsPair h TO a b
 j1:h.IsListIter i1 l1 k
 j2:h.IsTupleIter i2 l2 k
def f6 (h h':Heap)(z TO i1 i2:Addr):Prop:=∀ c o,c≠z->c≠TO->c≠i1->c≠i2->h.get? c=some o->h'.get? c=some o
theorem pc {z TI TO i1 i2 l1 l2:Addr}{Q:eH}(D:qU z TI TO i1 i2 l1 l2)(hz:z_ s.heap z TI TO i1 i2 l1 l2 k)(g1:s.heap.IsList l1 xs)(g2:s.heap.IsTuple l2 ys)(hx:xs[k]?=some x)(hy:ys[k]?=some y)
  (hQ:∀ h',z_ h' z TI TO i1 i2 l1 l2 (k+1)->IsPair h' s.heap.objs.size x y->h'.objs.size=s.heap.objs.size+1->f6 s.heap h' z TO i1 i2->Q (.ref s.heap.objs.size) { s with heap:=h' }) :
  wpAny (model prog w) A (Builtin.«zip.__next__» ⟨[.ref z],[]⟩) (λ fin s'=>∃ v,fin=.done (.ret v)/\Q v s') E s:=by
 obtain⟨⟨f0,b,zo,ow⟩,ti,⟨ta,tb,to⟩,j1,j2⟩:=hz;show wpAny _ _ (field (.ref z) 2>>=_) _ _ _;refine À (ù zo rfl (x:=.bool false) rfl ?_);show wpAny _ _ (field (.ref z) 3>>=_) _ _ _;refine À (ù zo rfl (x:=.ref TI) rfl (À (ļ ti rfl ?_)));show wpAny _ _ (Builtin.SmallTypes.ownedTupleIsFree (.ref z)>>=_) _ _ _;refine À (pL zo ow ?_ λ h1 LP s1=>?_)
 ·simp only [if_true];refine À (A_ (À (ù zo rfl (x:=.ref TO) rfl (À (ÿ zo (by simp) λ h1 LP s1=>?_)))))
  have LP:jh h1 z TI TO .ellipsis (.bool b):=LP;have M':=j1.extBut s1.extBut D.a3;have Oa:=j2.extBut s1.extBut D.a4;have Ng:=g1.extBut s1.extBut D.b2;have Ow:=g2.extBut s1.extBut D.b6;have RA:IsPair h1 TO ta tb:=s1.extBut _ _ D.a2 to;refine À ?_;simp only [List.zipIdx_cons,List.zipIdx_nil,List.forIn_cons,List.forIn_nil];refine À (À (KJ ?_));show wpAny _ _ (Builtin.SmallTypes.nextOf (.ref i1)>>=_) _ _ _;refine À (Ū M' Ng hx λ h2 P_ s2=>È ?_);have s2:Heap.SameBut i1 h1 h2:=s2;have to2:IsPair h2 TO ta tb:=s2.extBut _ _ D.a8 RA;refine À (ļ to2 rfl (À (J6 to2 λ h3 to3 s3=>À (wpAny_letGo (È ?_)))));have s3:Heap.SameBut TO h2 h3:=s3;have to3:IsPair h3 TO x tb:=to3;have N_:=(Oa.extBut s2.extBut D.b1.symm).extBut s3.extBut D.a9.symm;have Ov:=(Ow.extBut s2.extBut D.b8).extBut s3.extBut D.b7;refine À (À (KJ ?_));show wpAny _ _ (Builtin.SmallTypes.nextOf (.ref i2)>>=_) _ _ _;refine À (oW N_ Ov hy λ h4 Sl s4=>È ?_);have s4:Heap.SameBut i2 h3 h4:=s4;have TF:IsPair h4 TO x tb:=s4.extBut _ _ D.a9 to3;refine À (ļ TF rfl (À (J6 TF λ h5 QS s5=>À (wpAny_letGo (È (È ?_))))));have s5:Heap.SameBut TO h4 h5:=s5;have QS:IsPair h5 TO x y:=QS;have sz:h5.objs.size=s.heap.objs.size:=by rw [s5.1,s4.1,s3.1,s2.1,s1.1]
  have up:f6 s.heap h5 z TO i1 i2:=λ c o c1 c2 c3 c4 e=>s5.extBut _ _ c2 (s4.extBut _ _ c4 (s3.extBut _ _ c2 (s2.extBut _ _ c3 (s1.extBut _ _ c1 e))));have Tq:jh h5 z TI TO .ellipsis (.bool b):=s5.extBut _ _ D.a2.symm (s4.extBut _ _ D.a4.symm (s3.extBut _ _ D.a2.symm (s2.extBut _ _ D.a3.symm LP)));have XZ:=((P_.extBut s3.extBut D.a8.symm).extBut s4.extBut D.b1).extBut s5.extBut D.a8.symm;have XY:=Sl.extBut s5.extBut D.a9.symm;refine À (ļ QS rfl (À (wpAny_newTuple ?_)));show wpAny _ _ (Builtin.SmallTypes.ownedTupleHandOut (.ref z) (.ref h5.objs.size)>>=_) _ _ _;have Vl:jh (h5.push { cls:=.type "tuple",data:=.seq #[x,y] }) z TI TO .ellipsis (.bool b):=Â _ Tq;refine À ?_;unfold Builtin.SmallTypes.ownedTupleHandOut;refine À (ÿ Vl (by simp) λ h7 Ro s7=>?_)
  have Ro:jh h7 z TI TO (rawInt h5.objs.size) (.bool b):=Ro;refine ÿ Ro (by simp) λ h8 Rn s8=>wpAny_pure ⟨_,rfl,?_⟩
  have Rn:jh h8 z TI TO (rawInt h5.objs.size) (.bool false):=Rn;have Pg:∀ c o,c≠z->h5.get? c=some o->h8.get? c=some o:=λ c o c1 e=>s8.extBut _ _ c1 (s7.extBut _ _ c1 (Â _ e));show Q (.ref h5.objs.size) _;have nz:s.heap.objs.size≠z:=by rw [<- sz];exact ň (Å Tq)
  rw [sz];refine hQ _ ⟨⟨_,false,Rn,.inr ⟨_,rfl⟩⟩,Pg _ _ D.a1 (up _ _ D.a1 D.a5 D.a6 D.a7 ti),⟨x,y,Pg _ _ D.a2 QS⟩,XZ.at λ o e=>Pg _ o D.a3 e,XY.at λ o e=>Pg _ o D.a4 e⟩ ?_ (by rw [s8.1,s7.1,ñ,sz]) λ c o c1 c2 c3 c4 e=>Pg c o c1 (up c o c1 c2 c3 c4 e)
  exact s8.extBut _ _ nz (s7.extBut _ _ nz (by rw [<- sz];exact Ò _ rfl))
 ·simp only [Bool.false_eq_true,if_false];have M':=j1.extBut s1.extBut D.a3;have Oa:=j2.extBut s1.extBut D.a4;have Ng:=g1.extBut s1.extBut D.b2;have Ow:=g2.extBut s1.extBut D.b6;refine À ?_;rw [<- Array.forIn_toList];simp only [List.forIn_cons,List.forIn_nil];refine À (À (ă ?_));show wpAny _ _ (Builtin.SmallTypes.nextOf (.ref i1)>>=_) _ _ _;refine À (Ū M' Ng hx λ h2 P_ s2=>È (È ?_));have N_:=Oa.extBut s2.extBut D.b1.symm;have Ov:=Ow.extBut s2.extBut D.b8;refine À (À (ă ?_));show wpAny _ _ (Builtin.SmallTypes.nextOf (.ref i2)>>=_) _ _ _;refine À (oW N_ Ov hy λ h3 Sl s3=>È (È (È ?_)));show wpAny _ _ (newTuple [x,y]>>=_) _ _ _;have s2:Heap.SameBut i1 h1 h2:=s2;have s3:Heap.SameBut i2 h2 h3:=s3;have sz:h3.objs.size=s.heap.objs.size:=by rw [s3.1,s2.1,s1.1]
  have up:f6 s.heap h3 z TO i1 i2:=λ c o c1 c2 c3 c4 e=>s3.extBut _ _ c4 (s2.extBut _ _ c3 (s1.extBut _ _ c1 e));refine À (wpAny_newTuple (È ⟨_,rfl,?_⟩));show Q (.ref h3.objs.size) _;rw [sz];refine hQ _ ⟨⟨f0,true,Â _ (s3.extBut _ _ D.a4.symm (s2.extBut _ _ D.a3.symm LP)),ow⟩,Â _ (up _ _ D.a1 D.a5 D.a6 D.a7 ti),⟨ta,tb,Â _ (s3.extBut _ _ D.a9 (s2.extBut _ _ D.a8 (s1.extBut _ _ D.a2 to)))⟩,(P_.extBut s3.extBut D.b1).at λ o e=>Â _ e,Sl.at λ o e=>Â _ e⟩ ?_ (by rw [ñ,sz]) λ c o c1 c2 c3 c4 e=>Â _ (up c o c1 c2 c3 c4 e)
  rw [<- sz];exact Ò _ rfl
theorem rF {z TI TO i1 i2 l1 l2:Addr}(hh:A.handled=none)(D:qU z TI TO i1 i2 l1 l2)(hz:z_ s.heap z TI TO i1 i2 l1 l2 k)(g1:s.heap.IsList l1 xs)(g2:s.heap.IsTuple l2 ys)(hn:xs[k]?=none\/ys[k]?=none)
  (hE:∀ h' e,f6 s.heap h' z TO i1 i2->(∃ o,h'.get? e=some o/\o.cls=.type "StopIteration")->E (.ref e) { s with heap:=h' }) :
  wpAny (model prog w) A (Builtin.«zip.__next__» ⟨[.ref z],[]⟩) Q E s:=by
 obtain⟨⟨f0,b,zo,ow⟩,ti,⟨ta,tb,to⟩,j1,j2⟩:=hz;show wpAny _ _ (field (.ref z) 2>>=_) _ _ _;refine À (ù zo rfl (x:=.bool false) rfl ?_);show wpAny _ _ (field (.ref z) 3>>=_) _ _ _;refine À (ù zo rfl (x:=.ref TI) rfl (À (ļ ti rfl ?_)));show wpAny _ _ (Builtin.SmallTypes.ownedTupleIsFree (.ref z)>>=_) _ _ _;refine À (pL zo ow ?_ λ h1 LP s1=>?_)
 ·simp only [if_true];refine À (A_ (À (ù zo rfl (x:=.ref TO) rfl (À (ÿ zo (by simp) λ h1 LP s1=>?_)))))
  have LP:jh h1 z TI TO .ellipsis (.bool b):=LP;have M':=j1.extBut s1.extBut D.a3;have Oa:=j2.extBut s1.extBut D.a4;have Ng:=g1.extBut s1.extBut D.b2;have Ow:=g2.extBut s1.extBut D.b6;have RA:IsPair h1 TO ta tb:=s1.extBut _ _ D.a2 to;have leave:∀(h2:Heap)(e:Addr),jh h2 z TI TO .ellipsis (.bool b)->f6 s.heap h2 z TO i1 i2->(∃ o,h2.get? e=some o/\o.cls=.type "StopIteration")->wpAny (model prog w) A (setField (.ref z) 0 .none) (λ _ s'=>E (.ref e) s') E { s with heap:=h2 }:=λ h2 e z2 u2 he=>by
   obtain⟨oe,SH,Ur⟩:=he;have YH:e≠z:=λ q=>by subst q;rw [z2] at SH;cases SH;simp at Ur
   exact ÿ z2 (by simp) λ h3 _ s3=>hE h3 e (λ c o c1 c2 c3 c4 q=>s3.extBut _ _ c1 (u2 c o c1 c2 c3 c4 q)) ⟨oe,s3.extBut _ _ YH SH,Ur⟩
  refine À ?_;simp only [List.zipIdx_cons,List.zipIdx_nil,List.forIn_cons,List.forIn_nil];refine À (À (KJ ?_));cases hx:xs[k]? with
  | none =>
   refine À (wpAny_nextOf_list_end hh M' Ng hx λ h2 e s2 he=>?_);have s2:=s2;exact leave h2 e (s2 _ _ D.a3.symm LP) (λ c o c1 c2 c3 c4 q=>s2 _ _ c3 (s1.extBut _ _ c1 q)) he
  | some x =>
   have hy:=hn.resolve_left (by rw [hx];simp)
   refine À (Ū M' Ng hx λ h2 P_ s2=>È ?_);have s2:=s2;have to2:=s2.extBut _ _ D.a8 RA;refine À (ļ to2 rfl (À (J6 to2 λ h3 to3 s3=>À (wpAny_letGo (È ?_)))));have s3:=s3;have N_:=(Oa.extBut s2.extBut D.b1.symm).extBut s3.extBut D.a9.symm;have Ov:=(Ow.extBut s2.extBut D.b8).extBut s3.extBut D.b7;refine À (À (KJ ?_));refine À (sT hh N_ Ov hy λ h4 e s4 he=>?_);have s4:=s4;exact leave h4 e (s4 _ _ D.a4.symm (s3.extBut _ _ D.a2.symm (s2.extBut _ _ D.a3.symm LP))) (λ c o c1 c2 c3 c4 q=>s4 _ _ c4 (s3.extBut _ _ c2 (s2.extBut _ _ c3 (s1.extBut _ _ c1 q)))) he
 ·simp only [Bool.false_eq_true,if_false];have M':=j1.extBut s1.extBut D.a3;have Oa:=j2.extBut s1.extBut D.a4;have Ng:=g1.extBut s1.extBut D.b2;have Ow:=g2.extBut s1.extBut D.b6;refine À ?_;rw [<- Array.forIn_toList];simp only [List.forIn_cons,List.forIn_nil];refine À (À (ă ?_));cases hx:xs[k]? with
  | none =>
   refine À (wpAny_nextOf_list_end hh M' Ng hx λ h2 e s2 he=>?_);have s2:=s2;exact hE h2 e (λ c o c1 c2 c3 c4 q=>s2 _ _ c3 (s1.extBut _ _ c1 q)) he
  | some x =>
   have hy:=hn.resolve_left (by rw [hx];simp)
   refine À (Ū M' Ng hx λ h2 P_ s2=>È (È ?_));have s2:=s2;have N_:=Oa.extBut s2.extBut D.b1.symm;have Ov:=Ow.extBut s2.extBut D.b8;refine À (À (ă ?_));refine À (sT hh N_ Ov hy λ h3 e s3 he=>?_);have s3:=s3;exact hE h3 e (λ c o c1 c2 c3 c4 q=>s3 _ _ c4 (s2.extBut _ _ c3 (s1.extBut _ _ c1 q))) he
end
theorem z_.keep {z TI TO i1 i2 l1 l2:Addr}(a:z_ h z TI TO i1 i2 l1 l2 k)(u:∀ b ∈ [z,TI,TO,i1,i2],∀ o,h.get? b=some o->h'.get? b=some o):z_ h' z TI TO i1 i2 l1 l2 k:=by
 obtain⟨⟨f0,b,zo,ow⟩,ti,⟨ta,tb,to⟩,j1,j2⟩:=a;exact⟨⟨f0,b,u z (by simp) _ zo,ow⟩,u TI (by simp) _ ti,⟨ta,tb,u TO (by simp) _ to⟩,j1.at λ o e=>u i1 (by simp) o e,j2.at λ o e=>u i2 (by simp) o e⟩
section
variable {prog:Program}{w:World}{A:Around}{E:eH}{s:Shared}
theorem z_.ty {z TI TO i1 i2 l1 l2:Addr}(a:z_ s.heap z TI TO i1 i2 l1 l2 k):s.TypeIs (.ref z) "zip" := by
 obtain⟨⟨f0,b,zo,ow⟩,_⟩:=a;exact⟨_,zo,rfl⟩
theorem Ed {z TI TO i1 i2 l1 l2:Addr}(D:qU z TI TO i1 i2 l1 l2)(hz:z_ s.heap z TI TO i1 i2 l1 l2 k)(g1:s.heap.IsList l1 xs)(g2:s.heap.IsTuple l2 ys)(hx:xs[k]?=some x)(hy:ys[k]?=some y)
  (hQ:∀ h',z_ h' z TI TO i1 i2 l1 l2 (k+1)->IsPair h' s.heap.objs.size x y->h'.objs.size=s.heap.objs.size+1->f6 s.heap h' z TO i1 i2->Q (.ref s.heap.objs.size) { s with heap:=h' }) :
  wpAny (model prog w) A (Builtin.SmallTypes.nextOf (.ref z)) Q E s:=by
 exact À (Ă hz.ty Ĥ (Ē Ĥ hz.ty m_ (pc D hz g1 g2 hx hy λ h' a b c d=>È (hQ h' a b c d)) (χ _)))
theorem EI {z TI TO i1 i2 l1 l2:Addr}(hh:A.handled=none)(D:qU z TI TO i1 i2 l1 l2)(hz:z_ s.heap z TI TO i1 i2 l1 l2 k)(g1:s.heap.IsList l1 xs)(g2:s.heap.IsTuple l2 ys)(hn:xs[k]?=none\/ys[k]?=none)
  (hE:∀ h' e,f6 s.heap h' z TO i1 i2->(∃ o,h'.get? e=some o/\o.cls=.type "StopIteration")->E (.ref e) { s with heap:=h' }):wpAny (model prog w) A (Builtin.SmallTypes.nextOf (.ref z)) Q E s:=by
 exact À (Ă hz.ty Ĥ (Ē Ĥ hz.ty m_ (rF hh D hz g1 g2 hn hE) (χ _)))
theorem ET {e z TI TO i1 i2 l1 l2:Addr}{k:Nat}(D:qU z TI TO i1 i2 l1 l2)(he:IsEnum s.heap e z k old)(hz:z_ s.heap z TI TO i1 i2 l1 l2 k)(g1:s.heap.IsList l1 xs)(g2:s.heap.IsTuple l2 ys)(hx:xs[k]?=some x)(hy:ys[k]?=some y)
  (ne:∀ b ∈ [z,TI,TO,i1,i2],b≠e)
  (hQ:∀ h',IsEnumOut h' e z ((k:Int)+1) (.ref s.heap.objs.size) (s.heap.objs.size+1)->z_ h' z TI TO i1 i2 l1 l2 (k+1)->IsPair h' s.heap.objs.size x y->h'.get? (s.heap.objs.size+1)=some { cls:=.type "tuple",data:=.seq #[.int k s.toks,.ref s.heap.objs.size] } ->
   (∀ c o,c≠e->c≠z->c≠TO->c≠i1->c≠i2->s.heap.get? c=some o->h'.get? c=some o)->Q (some (.ref (s.heap.objs.size+1))) { s with heap:=h',toks:=s.toks+1 }) :
  wpAny (model prog w) A (pyNext (.ref e)) Q E s:=by
 have hT:s.TypeIs (.ref e) "enumerate" :=⟨_,he,rfl⟩;have el:=Å he;have nz:e≠z:=(ne z (by simp)).symm
 have XN:e≠TO:=(ne TO (by simp)).symm
 have n1:e≠i1:=(ne i1 (by simp)).symm
 have n2:e≠i2:=(ne i2 (by simp)).symm
 unfold pyNext;refine À (ſ (Ă (name:=Str.ofString "__next__") hT Ž (Ē Ž hT F.entry_enumerate_next ?_ (F.args_enumerate_next_1 _))));show wpAny _ _ (field (.ref e) 2>>=_) _ _ _;refine À (ù he rfl (x:=.ref z) rfl (À (Ed D hz g1 g2 hx hy λ h1 za pr TJ kz=>?_)));have SY:IsEnum h1 e z k old:=kz _ _ nz XN n1 n2 he;show wpAny _ _ (field (.ref e) 3>>=_) _ _ _;refine À (ù SY rfl (x:=rawInt k) rfl ?_);show wpAny _ _ (field (.ref e) 4>>=_) _ _ _;refine À (ù SY rfl (x:=.none) rfl ?_);show wpAny _ _ (mkInt k>>=_) _ _ _;refine À (wpAny_mkInt ?_);show wpAny _ _ (setField (.ref e) 3 (rawInt ((k:Int)+1))>>=_) _ _ _;refine À (ÿ SY (by simp) λ h2 O1 s2=>wpAny_bind (wpAny_setField_rec (show IsEnum h2 e z ((k:Int)+1) old from O1) (by simp) λ h3 SX s3=>?_))
 have s2:Heap.SameBut e h1 h2:=s2;have s3:Heap.SameBut e h2 h3:=s3;have SX:IsEnum h3 e z ((k:Int)+1) old:=SX;have Pk:h3.objs.size=s.heap.objs.size+1:=by rw [s3.1,s2.1,TJ]
 show wpAny _ _ (newTuple [.int k s.toks,.ref s.heap.objs.size]>>=_) _ _ _;refine À (wpAny_newTuple ?_);have Rb:IsEnum (h3.push { cls:=.type "tuple",data:=.seq #[.int k s.toks,.ref s.heap.objs.size] }) e z ((k:Int)+1) old:=Â _ SX;have t4:(h3.push { cls:=.type "tuple",data:=.seq #[.int k s.toks,.ref s.heap.objs.size] }).get? (s.heap.objs.size+1)=some { cls:=.type "tuple",data:=.seq #[.int k s.toks,.ref s.heap.objs.size] }:=by rw [<- Pk];exact Ò _ rfl
 have u4:∀ c o,c≠e->h1.get? c=some o->(h3.push { cls:=.type "tuple",data:=.seq #[.int k s.toks,.ref s.heap.objs.size] }).get? c=some o:=λ c o ce q=>Â _ (s3.extBut _ _ ce (s2.extBut _ _ ce q));rw [Pk];generalize (h3.push { cls:=.type "tuple",data:=.seq #[.int k s.toks,.ref s.heap.objs.size] })=h4 at Rb t4 u4;refine À ?_;refine À (ù Rb rfl rfl (È ?_));simp only [if_true];refine À (A_ (À (ù Rb rfl rfl (À (ÿ Rb (by simp) λ h5 SW s5=>?_)))))
 have s5:=s5;have SW:=SW;refine À ?_;refine À (ÿ SW (by simp) λ h6 SV s6=>?_)
 have SV:=SV;refine ÿ SV (by simp) λ h7 YI s7=>wpAny_bind (wpAny_letGo (wpAny_pure ⟨_,rfl,wpAny_pure ?_⟩))
 have s6:=s6;have s7:=s7;have u7:∀ c o,c≠e->h4.get? c=some o->h7.get? c=some o:=λ c o ce q=>s7.extBut _ _ ce (s6.extBut _ _ ce (s5.extBut _ _ ce q));have na:=ň el;have nb:=ň (Ć el);exact hQ h7 YI (za.keep λ b hb o q=>u7 b o (ne b hb) (u4 b o (ne b hb) q)) (u7 _ _ na (u4 _ _ na pr)) (u7 _ _ nb t4) λ c o ce c1 c2 c3 c4 q=>u7 c o ce (u4 c o ce (kz c o c1 c2 c3 c4 q))
theorem tj {e z TI TO i1 i2 l1 l2:Addr}(hh:A.handled=none)(D:qU z TI TO i1 i2 l1 l2)(he:IsEnum s.heap e z i old)(hz:z_ s.heap z TI TO i1 i2 l1 l2 k)(g1:s.heap.IsList l1 xs)(g2:s.heap.IsTuple l2 ys)(hn:xs[k]?=none\/ys[k]?=none)
  (hQ:∀ h',f6 s.heap h' z TO i1 i2->Q none { s with heap:=h' }):wpAny (model prog w) A (pyNext (.ref e)) Q E s:=by
 have hT:s.TypeIs (.ref e) "enumerate" :=⟨_,he,rfl⟩;refine À (ſ (Ă hT Ž (Ē Ž hT F.entry_enumerate_next ?_ (F.args_enumerate_next_1 _))));show wpAny _ _ (field (.ref e) 2>>=_) _ _ _;refine À (ù he rfl (x:=.ref z) rfl (À (EI hh D hz g1 g2 hn λ h' x kz Li=>?_)));obtain⟨o,ho,hc⟩:=Li;exact À (wpAny_isInstance ⟨o,ho,hc⟩ isSubtype_stop (È (hQ _ kz)))
end
end My
namespace My
open PySem PySem.W L2
open PyProof.Rows (Call_ boot_enumerate)
open AutoSeq1 (wpAny_loadPart')
def BR (h:Heap)(l1:Addr):Heap:=h.push { cls:=.type "list_iterator",data:=.fields #[.ref l1,.int 0 0] }
def Bt (h:Heap)(l1 l2:Addr):Heap:=(BR h l1).push { cls:=.type "tuple_iterator",data:=.fields #[.ref l2,.int 0 0] }
def Bw (h:Heap)(l1 l2:Addr):Heap:=(Bt h l1 l2).push { cls:=.type "tuple",data:=.seq #[.ref h.objs.size,.ref (BR h l1).objs.size] }
def yv (h:Heap)(l1 l2:Addr):Heap:=(Bw h l1 l2).push { cls:=.type "tuple",data:=.seq #[.none,.none] }
def Cy (h:Heap)(l1 l2:Addr):Heap:=(yv h l1 l2).push { cls:=.type "zip",data:=.fields #[.none,.bool false,.bool false,.ref (Bt h l1 l2).objs.size,.ref (Bw h l1 l2).objs.size] }
theorem ug (l1 l2:Addr)(xs ys:Array Value):Meets (Builtin.«zip.__new__» ⟨[.type "zip",.ref l1,.ref l2],[]⟩) (λ _ R s=>s.heap.IsList l1 xs/\s.heap.IsTuple l2 ys/\R (.ok (.ret (.ref (yv s.heap l1 l2).objs.size))) { s with heap:=Cy s.heap l1 l2 }) :=
 .of_wp λ prog w A R s h=>by
  obtain⟨hp,g,d,tk,os⟩:=s;obtain⟨SM,Ml,h⟩:=h;have Qd:=sub_zip;have k1:=SM;have k2:Heap.IsTuple (Shared.heap ⟨hp.push { cls:=.type "list_iterator",data:=.fields #[.ref l1,.int 0 0] },g,d,tk,os⟩) l2 ys:=by
   obtain⟨o,ho,r⟩:=Ml;exact⟨o,Â _ ho,r⟩
  wp_walk using LI k1,wpAny_pyIter_tuple k2
  exact⟨_,rfl,h⟩
theorem p5 (z:Addr)(TI TO:Addr):Meets (Builtin.«enumerate.__new__» ⟨[.type "enumerate",.ref z],[]⟩) (λ _ R s=>IsZip s.heap z TI TO .none /\
   R (.ok (.ret (.ref s.heap.objs.size))) { s with heap:=s.heap.push { cls:=.type "enumerate",data:=.fields #[.none,.bool false,.ref z,rawInt 0,.none,.none] } }) :=
 .of_wp λ prog w A R s h=>by
  obtain⟨hp,g,d,tk,os⟩:=s;obtain⟨hl,h⟩:=h;have Qd:=sub_enumerate;have hL:=hl
  wp_walk using NP hl
  refine wpAny_stack_any λ st=>È ?_;split
  ·rename_i c _ _ _ _ _
   cases (c==Value.type "enumerate") <;>(wp_walk using NP hl,MR hL) <;> exact⟨_,rfl,h⟩
  ·wp_walk using NP hl,MR hL
   exact⟨_,rfl,h⟩
section
variable {prog:Program}{w:World}{A:Around}{E:eH}{s:Shared}
theorem qj {z TI TO:Addr}(hz:IsZip s.heap z TI TO .none)
  (h:∀ h',IsEnum h' s.heap.objs.size z 0 .none->h'.objs.size=s.heap.objs.size+1->(∀ b o,s.heap.get? b=some o->h'.get? b=some o)->Q (.ref s.heap.objs.size) { s with heap:=h' }) :
  wpAny (model prog w) A (call (.type "enumerate") [.ref z]) Q E s:=by
 refine callType_new F.called_enumerate ar (F.typeCall_enumerate_1 _) (F.newCall_enumerate_1 _) (λ obj=>F.args_object_init_2 obj _) F.entry_enumerate_new (p5 z TI TO) ⟨hz,?_⟩;have g:=Ò s.heap (o:={ cls:=.type "enumerate",data:=.fields #[.none,.bool false,.ref z,rawInt 0,.none,.none] }) rfl;exact⟨⟨_,g,rfl⟩,h _ g (ñ ..) λ b o q=>Â _ q⟩
theorem pQ (SM:s.heap.IsList l1 xs)(Ml:s.heap.IsTuple l2 ys)
  (h:∀ h',IsZip h' (s.heap.objs.size+4) (s.heap.objs.size+2) (s.heap.objs.size+3) .none->z_ h' (s.heap.objs.size+4) (s.heap.objs.size+2) (s.heap.objs.size+3) s.heap.objs.size (s.heap.objs.size+1) l1 l2 0->h'.objs.size=s.heap.objs.size+5 ->
   (∀ c o,s.heap.get? c=some o->h'.get? c=some o)->Q (.ref (s.heap.objs.size+4)) { s with heap:=h' }):wpAny (model prog w) A (call (.type "zip") [.ref l1,.ref l2]) Q E s:=by
 refine callType_new F.called_zip ar (F.typeCall_zip_2 _ _) (F.newCall_zip_2 _ _) (λ obj=>F.args_object_init_3 obj _ _) F.entry_zip_new (ug l1 l2 xs ys) ⟨SM,Ml,?_⟩;have z1:(BR s.heap l1).objs.size=s.heap.objs.size+1:=ñ ..;have z2:(Bt s.heap l1 l2).objs.size=s.heap.objs.size+2:=by unfold Bt;rw [ñ,z1]
 have z3:(Bw s.heap l1 l2).objs.size=s.heap.objs.size+3:=by unfold Bw;rw [ñ,z2]
 have z4:(yv s.heap l1 l2).objs.size=s.heap.objs.size+4:=by unfold yv;rw [ñ,z3]
 have z5:(Cy s.heap l1 l2).objs.size=s.heap.objs.size+5:=by unfold Cy;rw [ñ,z4]
 have u5:∀ c o,(yv s.heap l1 l2).get? c=some o->(Cy s.heap l1 l2).get? c=some o:=λ c o q=>Â _ q;have u4:=λ c o q=>u5 c o (Â _ q);have u3:=λ c o q=>u4 c o (Â _ q);have u2:=λ c o q=>u3 c o (Â _ q);have u1:=λ c o q=>u2 c o (Â _ q);have g5:(Cy s.heap l1 l2).get? (yv s.heap l1 l2).objs.size=some _:=Ò _ rfl;have g4:=u5 _ _ (show(yv s.heap l1 l2).get? (Bw s.heap l1 l2).objs.size=some _ from Ò _ rfl);have g3:=u4 _ _ (show(Bw s.heap l1 l2).get? (Bt s.heap l1 l2).objs.size=some _ from Ò _ rfl);have g2:=u3 _ _ (show(Bt s.heap l1 l2).get? (BR s.heap l1).objs.size=some _ from Ò _ rfl);have g1:=u2 _ _ (show(BR s.heap l1).get? s.heap.objs.size=some _ from Ò _ rfl);rw [z2,z3,z4] at g5;rw [z1,z2] at g3;rw [z3] at g4;rw [z1] at g2;rw [z4];exact⟨⟨_,g5,rfl⟩,h _ g5 ⟨⟨_,_,g5,.inl rfl⟩,g3,⟨_,_,g4⟩,⟨_,g1,rfl,rfl⟩,⟨_,g2,rfl,rfl⟩⟩ z5 u1⟩
end
end My
namespace My
open PySem PySem.W L2
open PyProof.Rows (Call_ boot_enumerate)
section
variable {X:Cx}{Ä:List (Addr × Obj)}{σ:St}{H:Hp}{s:Shared}{h':Heap}
theorem vD {ch:List Addr}(I:Inv X Ä σ H s)(F:∀ b∈ch,cT X Ä H b)(k:∀ b o,b ∉ ch->s.heap.get? b=some o->h'.get? b=some o)
  (o1:þ X.prog X.w (af (af H s.heap.objs.size (.tup xs)) (s.heap.objs.size+1) (.tup ys)) h' s.heap.objs.size (.tup xs))(o2:þ X.prog X.w (af (af H s.heap.objs.size (.tup xs)) (s.heap.objs.size+1) (.tup ys)) h' (s.heap.objs.size+1) (.tup ys)) :
  Inv X Ä σ (af (af H s.heap.objs.size (.tup xs)) (s.heap.objs.size+1) (.tup ys)) { s with heap:=h',toks:=t' }:=by
 have f1:=I.Đ.fresh (Ç _);have f2:=I.Đ.fresh (ŭ _);have up:∀ b u,H b=some u->af (af H s.heap.objs.size (.tup xs)) (s.heap.objs.size+1) (.tup ys) b=some u:=λ b u e=>by
  rw [ah (λ z=>by rw [z,f2] at e;cases e),ah (λ z=>by rw [z,f1] at e;cases e)]
  exact e
 have dn:∀ b,b<s.heap.objs.size->af (af H s.heap.objs.size (.tup xs)) (s.heap.objs.size+1) (.tup ys) b=H b:=λ b l=>by
  rw [ah (Ð (Ć l)),ah (Ð l)]
 have KZ:∀ b u,H b=some u->b ∉ ch:=λ b u e z=>by
  have:=(F b z).1;rw [this] at e;cases e
 refine I.step (λ b hb=>?_) (λ b o _ _ hc e _=>k b o hc e) (λ b o _ _ hc e _=>⟨o.slots,k b o hc e⟩) (λ b o _ e n=>by rw [dn b (Å e)];exact n)
  (λ b o hc e=>⟨o,k b o hc e⟩) (λ b _ e=>up _ _ e) (λ _ _ _ e=>up _ _ e) (λ b ps e=>⟨#[],by rw [up _ _ e];simp⟩) (λ q=>?_) (λ m hm=>?_) (λ b u e=>?_) I.bare
 ·obtain⟨_,a,_,b',c,d⟩:=F b hb;exact⟨b',a,c,d⟩
 ·rw [dn _ (θ (by decide:sysModules<mainGlobals) (I.mod.glob.keeps I.bk).lt)]
  exact q
 ·obtain⟨o,es,ep,ho,r⟩:=hm;exact⟨o,es,ep,k _ o (λ z=>(F _ z).2.1 rfl) ho,r⟩
 ·by_cases z2:b=s.heap.objs.size+1
  ·subst z2;rw [aO] at e;cases e;exact o2
  ·by_cases z1:b=s.heap.objs.size
   ·subst z1;rw [ah z2,aO] at e;cases e;exact o1
   ·rw [ah z2,ah z1] at e;refine(I.Đ b u e).d_ (λ c v hc q=>k c v ?_ q) (λ c q=>up _ _ q) λ c zs q=>up _ _ q;rcases hc with z | z
    ·rw [z];exact KZ _ _ e
    ·exact KZ _ _ z
theorem pU {ch:List Addr}(I:Inv X Ä σ H s)(F:∀ b∈ch,cT X Ä H b)(k:∀ b o,b ∉ ch->s.heap.get? b=some o->h'.get? b=some o):Inv X Ä σ H { s with heap:=h',toks:=t' }:=by
 have KZ:∀ b u,H b=some u->b ∉ ch:=λ b u e z=>by
  have:=(F b z).1;rw [this] at e;cases e
 refine I.step (λ b hb=>?_) (λ b o _ _ hc e _=>k b o hc e) (λ b o _ _ hc e _=>⟨o.slots,k b o hc e⟩) (λ _ _ _ _ n=>n)
  (λ b o hc e=>⟨o,k b o hc e⟩) (λ _ _ e=>e) (λ _ _ _ e=>e) (λ b ps e=>⟨#[],by rw [e];simp⟩) (λ q=>q) (λ m hm=>?_) (λ b u e=>?_) I.bare
 ·obtain⟨_,a,_,b',c,d⟩:=F b hb;exact⟨b',a,c,d⟩
 ·obtain⟨o,es,ep,ho,r⟩:=hm;exact⟨o,es,ep,k _ o (λ z=>(F _ z).2.1 rfl) ho,r⟩
 ·refine(I.Đ b u e).d_ (λ c v hc q=>k c v ?_ q) (λ _ q=>q) λ _ _ q=>q;rcases hc with z | z
  ·rw [z];exact KZ _ _ e
  ·exact KZ _ _ z
end
def CI (K:Frag)(a b:Addr):It :=
 ⟨λ i H=>∃ xs ys x y,î K H a xs/\ĝ K H b ys/\xs[i]?=some x/\ys[i]?=some y,
   λ i H v H'=>∃ q p x y,v=.ref p/\H q=none/\H p=none/\p≠q/\H'=af (af H q (.tup [x,y])) p (.tup [.int i,.ref q])/\∀ xs ys,î K H a xs->ĝ K H b ys->xs[i]?=some x/\ys[i]?=some y,
   λ i H=>∃ xs ys,î K H a xs/\ĝ K H b ys/\(xs.length<=i\/ys.length<=i)⟩
theorem rB {x1}(a b e z TI TO i1 i2:Addr)(D:qU z TI TO i1 i2 a b)(ne:∀ c ∈ [z,TI,TO,i1,i2],c≠e) :
  nU P w K (.Tuple elts x1 ø) (CI K a b) [e,z,TI,TO,i1,i2] e (λ i h=>(∃ old,IsEnum h e z i old)/\z_ h z TI TO i1 i2 a b i) where
 mem:=by simp
 obj:=λ i h st c hc=>by
  obtain⟨⟨old,h1⟩,⟨f0,bb,zo,ow⟩,ti,⟨ta,tb,to⟩,⟨oa,ha,ca,da⟩,⟨ob,hb,cb,db⟩⟩:=st;simp only [List.mem_cons,List.not_mem_nil,or_false] at hc;rcases hc with rfl | rfl | rfl | rfl | rfl | rfl
  ·exact⟨_,h1,λ v q=>by cases q⟩
  ·exact⟨_,zo,λ v q=>by cases q⟩
  ·exact⟨_,ti,λ v q=>by cases q⟩
  ·exact⟨_,to,λ v q=>by cases q⟩
  ·exact⟨oa,ha,λ v q=>by rw [da] at q;cases q⟩
  ·exact⟨ob,hb,λ v q=>by rw [db] at q;cases q⟩
 keep:=λ i h h' st k=>⟨⟨_,k e (by simp) _ st.1.choose_spec⟩,st.2.keep λ c hc o q=>k c (List.mem_cons_of_mem _ hc) o q⟩
 item:=by
  intro X hP hw hK hc i Ä s σ H E I hf st hg;subst hP hw hK;obtain⟨xs,ys,x,y,hq,JW,hx,hy⟩:=hg;obtain⟨its,rv,p,hz⟩:=I.list hq;obtain⟨ŧ,M4,p2,Qb⟩:=I.tuple JW;obtain⟨u,hu,ru⟩:=rv.get hx;obtain⟨v,hv,RJ⟩:=M4.get hy;obtain⟨⟨old,he⟩,za⟩:=st;have L8:s.heap.IsTuple b ŧ.toArray:=by
   obtain⟨o,q,c,n,d⟩:=p2;exact⟨o,q,c,n,d⟩
  refine ET D he za p.isList L8 (by simpa using hu) (by simpa using hv) ne λ h1 eo O8 pr tu kk=>?_
  refine⟨_,rfl,wpAny_letOwnedTupleGo_enum eo λ h2 O1 sb=>?_⟩;have L5:=sb;have el:=Å he;have na:=ň el;have nb:=ň (Ć el);have M5:=(L5.2 _ na).trans pr;have Xg:=(L5.2 _ nb).trans tu;have f1:=I.Đ.fresh (Ç _);have f2:=I.Đ.fresh (ŭ _);refine⟨.ref (s.heap.objs.size+1),af (af H s.heap.objs.size (.tup [x,y])) (s.heap.objs.size+1) (.tup [.int i,.ref s.heap.objs.size]),?_,rfl,⟨_,_,x,y,rfl,f1,f2,Nat.succ_ne_self _,rfl,λ W6 KL g1 g2=>⟨by rw [I.Ω g1 hq];exact hx,by rw [I.ξ g2 JW];exact hy⟩⟩,⟨⟨_,O1⟩,O8.keep λ c hc o q=>(L5.2 c (ne c hc)).trans q⟩,λ c hc=>?_⟩
  ·refine vD I hf (λ c o hc q=>?_) ?_ ?_
   ·simp only [List.mem_cons,List.not_mem_nil,or_false,not_or] at hc;exact(L5.2 c hc.1).trans (kk c o hc.1 hc.2.1 hc.2.2.2.1 hc.2.2.2.2.1 hc.2.2.2.2.2 q)
   ·exact⟨dZ,[u,v],.cons ru (.cons RJ .nil),⟨_,M5,rfl,_,rfl⟩⟩
   ·exact⟨dZ,[.int i s.toks,.ref s.heap.objs.size],.cons ⟨_,rfl⟩ (.cons rfl .nil),⟨_,Xg,rfl,_,rfl⟩⟩
  ·have q:=hf c hc;have KP:c<s.heap.objs.size:=by
    obtain⟨⟨f0,bb,zo,ow⟩,ti,⟨ta,tb,to⟩,⟨oa,ha,_,_⟩,⟨ob,hb,_,_⟩⟩:=za;simp only [List.mem_cons,List.not_mem_nil,or_false] at hc;rcases hc with rfl | rfl | rfl | rfl | rfl | rfl
    ·exact el
    ·exact Å zo
    ·exact Å ti
    ·exact Å to
    ·exact Å ha
    ·exact Å hb
   rw [ah (Ð (Ć KP)),ah (Ð KP)];exact q.1
 done:=by
  intro X hP hw hK hc i Ä s σ H E I hf st hg;subst hP hw hK;obtain⟨xs,ys,hq,JW,hn⟩:=hg;obtain⟨its,rv,p,hz⟩:=I.list hq;obtain⟨ŧ,M4,p2,Qb⟩:=I.tuple JW;obtain⟨⟨old,he⟩,za⟩:=st;have L8:s.heap.IsTuple b ŧ.toArray:=by
   obtain⟨o,q,c,n,d⟩:=p2;exact⟨o,q,c,n,d⟩
  have l1:=rv.length;have l2:=M4.length;refine tj (I.ok.hd hc) D he za p.isList L8 ?_ λ h1 kk=>⟨rfl,pU I hf λ c o Jy q=>?_⟩
  ·rcases hn with h | h
   ·exact .inl (by simp;omega)
   ·exact .inr (by simp;omega)
  ·simp only [List.mem_cons,List.not_mem_nil,or_false,not_or] at Jy;exact kk c o Jy.2.1 Jy.2.2.2.1 Jy.2.2.2.2.1 Jy.2.2.2.2.2 q
 self:=λ _ _ _ _ _ st h=>π st.1.choose_spec h
end My
namespace My
open PySem PySem.W L2
open PyProof.Rows (Call_ boot_enumerate)
theorem oJ {n l t:Nat}(h1:l<n)(h2:t<n):qU (n+4) (n+2) (n+3) n (n+1) l t:=by
 constructor <;>(show(_:Nat)≠(_:Nat)) <;> omega
theorem uh (hm:m=n+5)(hc:c ∈ [n+4,n+2,n+3,n,n+1]):c≠m:=by
 simp only [List.mem_cons,List.not_mem_nil,or_false] at hc;omega
theorem vJ (hm:m=n+5)(hc:c ∈ [m,n+4,n+2,n+3,n,n+1]):n<=c:=by
 simp only [List.mem_cons,List.not_mem_nil,or_false] at hc;omega
section
variable {X:Cx}
def Jd (K:Frag)(ta:TA):TI:=λ σ H R=>ta σ H λ vs H1=>∃ l t,vs=[.ref l,.ref t]/\(∃ xs,î K H1 l xs)/\(∃ ys,ĝ K H1 t ys)/\R (CI K l t) H1
theorem B2 {x1}(hg:Gl X "enumerate")(hm:X.mg "enumerate" = none)(SO:Gl X "zip")(Nb:X.mg "zip" = none)(ha:PA X [a,b] ta)
  (hs:starEach [.Call (.Name "zip" p2) [a,b] [] Kx] X.env=[(false,eval (.Call (.Name "zip" p2) [a,b] [] Kx) X.env)]:=by rfl)(he:starEach (a :: [b]) X.env=(false,eval a X.env)::starEach [b] X.env:=by rfl) (Ρ:(backTo Kx (starEach [b] X.env)).any (·.1)=false:=by rfl) :
  PI X (.Tuple elts x1 pt) (.Call (.Name "enumerate" p) [.Call (.Name "zip" p2) [a,b] [] Kx] [] ø) (Jd X.K ta):=by
 intro Ä s σ H R I h;refine Call_ (fO I hg hm boot_enumerate (ď ?_ hs rfl));rw [hs];refine Calls.spliced_cons (Ī (fO I SO Nb PyProof.Rows.boot_zip (ď (aV (ha Kx Ä s σ H _ I h) λ us s1 ⟨vs,H1,I1,r1,q1⟩=>?_) he Ρ)));obtain⟨l,t,rfl,⟨xs,hq⟩,⟨ys,JW⟩,q⟩:=q1;cases r1 with
 | cons r rr =>
  cases r;cases rr with
  | cons r' RO =>
   cases r';cases RO;obtain⟨its,rv,pl,hz⟩:=I1.list hq;obtain⟨ŧ,M4,L8,Qb⟩:=I1.tuple JW;have ht:s1.heap.IsTuple t ŧ.toArray:=by
    obtain⟨o,q,c,n,d⟩:=L8;exact⟨o,q,c,n,d⟩
   have Si:l<s1.heap.objs.size:=by
    obtain⟨o,q,_⟩:=pl.isList;exact Å q
   have OV:t<s1.heap.objs.size:=by
    obtain⟨o,q,_⟩:=ht;exact Å q
   refine pQ pl.isList ht λ h2 iz za RD k2=>Calls.spliced_nil ?_;refine qj iz λ h3 en Pk k3=>?_;have Pk:=Pk;have en:=en;have k3:=k3;refine π en ?_;have D:=oJ Si OV;refine⟨h2.objs.size,[h2.objs.size,s1.heap.objs.size+4,s1.heap.objs.size+2,s1.heap.objs.size+3,s1.heap.objs.size,s1.heap.objs.size+1],_,_,H1,rfl,I1.kept (λ c o e=>k3 _ _ (k2 _ _ e)),rB l t _ _ _ _ _ _ D (λ c hc=>?_),⟨⟨_,en⟩,za.keep λ c _ o e=>k3 c o e⟩,λ c hc=>?_,q⟩
   ·exact uh (show h2.objs.size=s1.heap.objs.size+5 from RD) hc
   ·have le:=vJ (show h2.objs.size=s1.heap.objs.size+5 from RD) hc;exact I1.Ls le (I1.Đ.fresh le)
end
theorem xu {g:TG}{tb:TS}{D:cP}(Pv:Nat->St->Hp->Prop)(h0:Pv 0 σ H)(hl:∀ i σ H,i<=min xs.length ys.length->Pv i σ H->î K H a xs/\ĝ K H b ys)
  (hs:∀ i x y σ H q p,xs[i]?=some x->ys[i]?=some y->Pv i σ H->H q=none->H p=none->p≠q->g (.ref p) σ (af (af H q (.tup [x,y])) p (.tup [.int i,.ref q])) λ Ĭ H2=>tb { D with nx:=Pv (i+1),ct:=Pv (i+1),bk:=D.nx } Ĭ H2)(hd:∀ σ H,Pv (min xs.length ys.length) σ H->D.nx σ H) :
  ∃ W:Nat->Nat->St->Hp->Prop,(∃ m,W 0 m σ H)/\∀ i m σ H,W i m σ H ->
   ((CI K a b).stop i H/\D.nx σ H)\/((CI K a b).go i H/\∃ N:St->Hp->Prop,(∀ ĥ H',N ĥ H'->∃ m',m'<m/\W (i+1) m' ĥ H')/\∀ x H',(CI K a b).JD i H x H'->g x σ H' λ Ĭ H2=>tb { D with nx:=N,ct:=N,bk:=D.nx } Ĭ H2):=by
 refine⟨λ i m σ H=>m=min xs.length ys.length-i/\i<=min xs.length ys.length/\Pv i σ H,⟨min xs.length ys.length,ak,ģ _,h0⟩,?_⟩;rintro i m σ H ⟨rfl,hi,pv⟩;obtain⟨q1,q2⟩:=hl i σ H hi pv;by_cases ź:i<min xs.length ys.length
 ·have l1:i<xs.length:=ak;have l2:i<ys.length:=ak;refine .inr ⟨⟨xs,ys,xs[i],ys[i],q1,q2,Á l1,Á l2⟩,Pv (i+1),λ ĥ H' n=>⟨min xs.length ys.length-(i+1),ak,rfl,ź,n⟩,λ v H' yl=>?_⟩;obtain⟨q,p,x,y,rfl,hq,hp,ne,rfl,at'⟩:=yl;obtain⟨e1,e2⟩:=at' xs ys q1 q2;exact hs i x y σ H q p e1 e2 pv hq hp ne
 ·have e:i=min xs.length ys.length:=ak;subst e;exact .inl ⟨⟨xs,ys,q1,q2,ak⟩,hd σ H pv⟩
end My
namespace My
open PySem PySem.W L2
def R0.word:R0->Str
 | .split _ _ => "split"
 | .pairs _ _ _ => "pairs"
 | .ŏ _ _ _ _ => "coins"
theorem R0.KO (r:R0):r.word ≠ "first" /\ r.word ≠ "blocks" := by
 cases r with
 | split n k=>exact⟨(by decide +kernel:(("split" : String):Str)≠(("first" : String):Str)),(by decide +kernel:(("split" : String):Str)≠(("blocks" : String):Str))⟩
 | pairs n x y=>exact⟨(by decide +kernel:(("pairs" : String):Str)≠(("first" : String):Str)),(by decide +kernel:(("pairs" : String):Str)≠(("blocks" : String):Str))⟩
 | ŏ n x y f=>exact⟨(by decide +kernel:(("coins" : String):Str)≠(("first" : String):Str)),(by decide +kernel:(("coins" : String):Str)≠(("blocks" : String):Str))⟩
def R0.a_:R0->Bool
 | .pairs _ _ _=>true
 | _=>false
theorem R0.Kt (r:R0):decide (V.str r.word=V.str "pairs")=r.a_:=by
 cases r with
 | split n k=>exact Í λ z=>absurd (V.str.inj z) (by decide +kernel:(("split" : String):Str)≠(("pairs" : String):Str))
 | pairs n x y=>exact Ê rfl
 | ŏ n x y f=>exact Í λ z=>absurd (V.str.inj z) (by decide +kernel:(("coins" : String):Str)≠(("pairs" : String):Str))
def Rl.base:Rl->List R0
 | .one r=>[r]
 | .blocks rs=>rs
 | .first t _=>t.base
def Rl.high:Rl->Nat
 | .first t _=>t.high+1
 | _=>0
theorem oE (r:ė H v (.tuple ds)):∃ a xs,v=.ref a/\H a=some (.tup xs)/\Ö H xs ds:=by
 cases r with
 | tup ha rs=>exact⟨_,_,rfl,ha,rs⟩
theorem gC (r:ė H v (.tuple (.str z::ds))):∃ a xs,v=.ref a/\H a=some (.tup (.str z::xs))/\Ö H xs ds:=by
 obtain⟨a,xs,rfl,ha,rs⟩:=oE r;cases rs with
 | cons r1 rs=>cases r1;exact⟨a,_,rfl,ha,rs⟩
theorem R0.mark {r:R0}(h:ė H v r.told):∃ a xs,v=.ref a/\H a=some (.tup (.str r.word::xs)):=by
 cases r with
 | split n k=>obtain⟨a,xs,e,ha,_⟩:=gC h;exact⟨a,xs,e,ha⟩
 | pairs n x y=>obtain⟨a,xs,e,ha,_⟩:=gC h;exact⟨a,xs,e,ha⟩
 | ŏ n x y f=>obtain⟨a,xs,e,ha,_⟩:=gC h;exact⟨a,xs,e,ha⟩
theorem nA (h:ė H v (Rl.first t m).told):∃ a u w,v=.ref a/\H a=some (.tup [.str "first",u,w])/\ė H u t.told:=by
 obtain⟨a,xs,rfl,ha,rs⟩:=gC h;cases rs with | cons r2 rs=>cases rs with | cons r3 rs=>cases rs;exact⟨a,_,_,rfl,ha,r2⟩
theorem lF (h:ė H v (Rl.blocks Xn).told):∃ a b ys,v=.ref a/\H a=some (.tup [.str "blocks",.ref b])/\H b=some (.tup ys)/\Ö H ys (Xn.map R0.told):=by
 obtain⟨a,xs,rfl,ha,rs⟩:=gC h;cases rs with | cons r2 rs=>cases rs;obtain⟨b,ys,rfl,hb,ry⟩:=oE r2;exact⟨a,b,ys,rfl,ha,hb,ry⟩
section
variable {P:Program}{w:World}{K:Frag}{mg:bL}{base:Heap}{C:Nat->Addr}{CR f a1:Addr}{fd d1:FuncData}
abbrev Gq:Stmt:=bZ 56
def EM (C:Nat->Addr):Sp:=λ vs H Q _=>∃ v t,vs=[v]/\Ru C H t v/\∀ p ms H',Ext H H'->H' p=some (.tup ms)->Ö H' ms (t.base.map R0.told)->Q (.ref p) H'
theorem Px:ad ["rule","mark"] ["rule"] (aa Gq):=aK
theorem EE (F:Ģ K "block_marks" "block_marks" Gq f fd)(M:Ms P w K mg base C):Þ P w K mg base ay 2 f fd ["rule"] (EM C):=by
 refine bR F Px λ cdv A outer s H vs Q E hr h=>?_;obtain⟨v,t,rfl,ru,q⟩:=h;have nd:=Px.nd;refine⟨_,cn (jI (i:=1) nd rfl (Or.inl rfl) (bc (pv 0) M.told hr ag))
  (cn (kH ś (aB eD (eL qS (pv 1) aI) bh (aC _)) (bp (jI (i:=1) nd rfl (Or.inl rfl) (eL qS (pv 1) aI))))
  (bp (cZ (lE (aB eD (eL qS (pv 1) aI) bh (aC _)) (eL qS (pv 1) aI) (bK (ac (pv 1) au)))))),?_⟩
 refine bO (t:=t) ao ru (λ R r=>⟨_,rfl,r⟩) ⟨v,t,H,rfl,Ext.refl _,ru,λ b rb=>?_⟩;refine⟨λ n σ H'=>H'=H/\∃(t':Rl)(b':V),t'.high=n/\t'.base=t.base/\ė H b' t'.told/\σ=[some v,some b'],⟨t.high,rfl,t,b,rfl,rfl,rb,rfl⟩,?_⟩;rintro n σ H' ⟨rfl,t',b',hh,hb,QX,rfl⟩;cases t' with
 | one r =>
  obtain⟨a,xs,rfl,ha⟩:=R0.mark QX;refine⟨_,rfl,a,_,_,_,rfl,rfl,ĝ.of ha,f7 (j:=0) rfl,rfl,_,rfl,?_⟩;rw [Í (λ z=>r.KO.1 (V.str.inj z))];refine cM ⟨_,rfl,a,_,_,_,rfl,rfl,ĝ.of ha,f7 (j:=0) rfl,rfl,_,rfl,?_⟩;rw [Í (λ z=>r.KO.2 (V.str.inj z))];refine cM ⟨_,rfl,dZ,λ p hp=>?_⟩;have x:=Ext.new (o:=.tup [.ref a]) hp;refine q p _ _ x aO ?_;rw [<- hb];exact .cons (QX.mono x) .nil
 | blocks rs =>
  obtain⟨a,c,ys,rfl,ha,hc,ry⟩:=lF QX;refine⟨_,rfl,a,_,_,_,rfl,rfl,ĝ.of ha,f7 rfl,rfl,_,rfl,?_⟩;rw [Í (by intro z;exact absurd (V.str.inj z) ao)]
  refine cM ⟨_,rfl,a,_,_,_,rfl,rfl,ĝ.of ha,f7 rfl,rfl,_,rfl,?_⟩;rw [Ê rfl];refine cU ⟨_,rfl,a,_,_,_,rfl,rfl,ĝ.of ha,f7 rfl,?_⟩;refine q c ys _ (.refl _) hc ?_;rw [<- hb];exact ry
 | first t2 m =>
  obtain⟨a,u,w',rfl,ha,Ny⟩:=nA QX;refine⟨_,rfl,a,_,_,_,rfl,rfl,ĝ.of ha,f7 rfl,rfl,_,rfl,?_⟩;rw [Ê rfl];refine cU ⟨λ ĥ H2=>∃ m',m'<n/\H2=H'/\∃(t':Rl)(b':V),t'.high=m'/\t'.base=t.base/\ė H' b' t'.told/\ĥ=[some v,some b'],λ ĥ H2 h=>?_,?_⟩
  ·obtain⟨m',lt,e,r⟩:=h;exact⟨m',lt,e,r⟩
  ·refine⟨_,rfl,a,_,_,_,rfl,rfl,ĝ.of ha,f7 rfl,?_⟩;exact⟨t2.high,by rw [<- hh];exact Kp _,rfl,t2,u,rfl,hb,Ny,rfl⟩
def fZ (t:Rl):List Bool:=List.zipWith (λ (p:List Int)(r:R0)=>r.a_&&decide (p.length%2=0)) t.parts t.base
abbrev HL:Stmt:=bZ 57
def Ds (C:Nat->Addr)(CN:Addr):Sp:=λ vs H Q E=>∃ v t,vs=[v]/\Ru C H t v/\t.parts.length<=20/\(∀ p∈t.parts,p.length<=20)/\((fZ t).all id=true->∀ H',Ext H H'->Q .ą H')/\∀ i,dS (fZ t) i->∀ H',Ext H H'->cu CN "block" (.int (i:Nat)) H' E
theorem Pp:ad ["rule","number","block","mark"] ["rule"] (aa HL):=aK
theorem EA (F:Ģ K "need_pairs" "need_pairs" HL f fd)(M:Ms P w K mg base C)(B:Ł K D)(T:gP K mg D "NoPairs" "block" CN fC O2)(A1:Df P w K mg base ay 2 "block_marks" ["rule"] (EM C) a1 d1)(me:mg "enumerate" = none)(mz:mg "zip" = none)(ml:mg "len" = none):Þ P w K mg base (cy P w) 3 f fd ["rule"] (Ds C CN):=by
 refine fL F Pp λ cdv A outer s H vs Q E hr h=>?_;obtain⟨v,t,rfl,ru,ţ,TW,qn,qe⟩:=h;have nd:=Pp.nd;have Ğ:ó 1 _:=hr.mono ar;refine⟨_,bp (dR LM rfl (B2 rfl me rfl mz (ac (bc (pv 0) M.blocks Ğ ag) (ac (cL A1 hr ag (ac (pv 0) au)) au)))
   (cr rfl (eN (cA (i:=1) nd rfl (Or.inl rfl)) (eN (cr rfl (eN (cA (i:=2) nd rfl (Or.inl rfl)) (eN (cA (i:=3) nd rfl (Or.inl rfl)) bA))) bA)))
   (bp (bC (PW.pt (f8 (aB iZ (eL qS (pv 3) aI) bh (aC _)) (dW (aB eD (aA dU (aq aw rfl ml è (ac (pv 2) au)) aI) aI (aC _)))))
    (bp (bX B T.cls (T.ok P w base) hr T.bi rfl T.LB (pv 1))) gj))),?_⟩
 refine bO (t:=t) ao ru (λ R r=>⟨_,rfl,r⟩) ⟨v,t,rfl,ru,ţ,TW,λ l bs H1 x1 nl hl lb fb T8 YM=>?_⟩;refine⟨_,rfl,v,t,rfl,ru.ext x1,λ p ms H2 x2 hp rm=>?_⟩;have Ml:=x2 _ _ hl;have lm:=rm.length;rw [Ã] at lm;have len:(fZ t).length=min (bs.map V.ref).length ms.length:=by
  unfold fZ;rw [List.length_zipWith,Ã,T8,lm]
 refine⟨l,p,rfl,⟨_,î.of Ml⟩,⟨_,ĝ.of hp⟩,xu (xs:=bs.map V.ref) (ys:=ms) (λ i σ H'=>Ext H2 H'/\(∀(j:Nat) b,j<i->(fZ t)[j]?=some b->b=true)/\∃ o1 o2 o3,σ=[some v,o1,o2,o3]) ⟨Ext.refl _,λ j d h=>absurd h (Ľ _),_,_,_,rfl⟩ ?_ ?_ ?_⟩
 ·rintro i σ H' _ ⟨x',_⟩;exact⟨î.of (x' _ _ Ml),ĝ.of (x' _ _ hp)⟩
 ·rintro i x y σ H' q1 p1 ex ey ⟨x',good,o1,o2,o3,rfl⟩ hq Yj ne;have xa:=Ext.new (o:=.tup [x,y]) hq;have SC:af H' q1 (.tup [x,y]) p1=none:=by rw [ah ne];exact Yj
  have xb:=Ext.new (o:=.tup [.int (i:Nat),.ref q1]) SC;have x3:=(x'.trans xa).trans xb;have gq:=xb _ _ (show af H' q1 (.tup [x,y]) q1=some (.tup [x,y]) from aO);have gp:af (af H' q1 (.tup [x,y])) p1 (.tup [.int (i:Nat),.ref q1]) p1=some (.tup [.int (i:Nat),.ref q1]):=aO;generalize af (af H' q1 (.tup [x,y])) p1 (.tup [.int (i:Nat),.ref q1])=H3 at x3 gq gp ⊢;rw [Ì] at ex;obtain⟨b,eb,rfl⟩:=Ó.mp ex;obtain⟨d,ed,rd⟩:=rm.get ey;rw [Ì] at ed;obtain⟨r,er,rfl⟩:=Ó.mp ed;have li:i<t.parts.length:=by rw [<- T8];exact(Æ.mp eb).1
  have ep:=Á li;have hb:=x3 _ _ (x2 _ _ (YM i b _ eb ep));obtain⟨m,zs,rfl,hm⟩:=R0.mark (rd.mono x3);have em:(fZ t)[i]?=some (r.a_&&decide (t.parts[i].length%2=0)):=by
   unfold fZ;rw [List.getElem?_zipWith,ep,er]
  refine⟨p1,_,rfl,ĝ.of gp,rfl,_,_,rfl,_,_,rfl,q1,_,rfl,ĝ.of gq,rfl,_,_,rfl,_,_,rfl,rfl,rfl,?_⟩;have bad:(r.a_&&decide (t.parts[i].length%2=0))=false->cu CN "block" (.int (i:Nat)) H3 E:=λ e=>qe i ⟨good,by rw [em,e]⟩ _ ((x1.trans x2).trans x3)
  have next:(r.a_&&decide (t.parts[i].length%2=0))=true->(Ext H2 H3/\(∀(j:Nat) b,j<i+1->(fZ t)[j]?=some b->b=true)):=λ e=>⟨x3,λ j d' hj hd=>by
   rcases ī j i with lt | ge
   ·exact good j d' lt hd
   ·have e0:j=i:=ak;subst e0;rw [em,e] at hd;cases hd;rfl⟩
  refine⟨_,rfl,m,_,_,_,rfl,rfl,ĝ.of hm,f7 rfl,rfl,_,rfl,?_⟩;rw [R0.Kt];cases hp:r.a_ with
  | false=>exact cU (cU ⟨_,rfl,λ e' dx h1 h2 nd=>dq nd (bad (by rw [hp];rfl) e' dx h1 h2 nd)⟩)
  | true =>
   refine cM ⟨_,rfl,b,_,rfl,.inl (î.of hb),_,_,rfl,rfl,(by show(0:Int)<2;decide),rfl,_,rfl,?_⟩
   rw [Ã];by_cases e:t.parts[i].length%2=0
   ·rw [Í (λ z=>by have z':=V.int.inj z;omega)]
    obtain⟨xx,gg⟩:=next (by rw [hp,Ê e];rfl)
    exact cM ⟨xx,gg,_,_,_,rfl⟩
   ·have one:((t.parts[i].length:Nat):Int)%2=1:=ak;rw [Ê (show V.int (((t.parts[i].length:Nat):Int)%2)=.int 1 from by rw [one])]
    exact cU ⟨_,rfl,λ e' dx h1 h2 nd=>dq nd (bad (by rw [hp,Í e];rfl) e' dx h1 h2 nd)⟩
 ·rintro σ H' ⟨x',good,o1,o2,o3,rfl⟩;refine qn ?_ H' ((x1.trans x2).trans x');rw [ú];intro d hd;obtain⟨j,hj,e⟩:=Ġ hd;exact good j d (by rw [<- len];exact hj) (by rw [Á hj,e])
end
section
variable {P:Program}{w:World}{K:Frag}{mg:bL}{base:Heap}{C:Nat->Addr}{CR f a1:Addr}{fd d1:FuncData}
def gu (H:Hp)(ns:List Int)(Q:VK):Prop:=∀ l H',Ext H H'->H l=none->H' l=some (.lst (ns.map V.int))->Q (.ref l) H'
abbrev yO:Stmt:=az (bZ 59) 2
def uP (sc:List (Int × Bool)->List Int):Sp:=λ vs H Q _=>∃ v a xs os,vs=[v,.ref a]/\H a=some (.lst xs)/\ζ H xs os/\os.length<=20/\gu H (sc os) Q
theorem Di:ad ["self","outcomes"] ["self","outcomes"] (aa yO):=aK
abbrev BI:Scope:=cC [("number",.local),("sure",.local)]
theorem sH:aT X BI [] ["number","sure"] [] []:=by
 refine⟨rfl,rfl,ao,ao,ao,(λ z c h=>nomatch h),(λ z h=>?_),ao,(λ k z h=>by simp at h),rfl⟩
 exfalso;have h':List.lookup z [((".0" : Str),NameKind.local),(("number" : Str),NameKind.local),(("sure" : Str),NameKind.local)]=some .cell\/List.lookup z [((".0" : Str),NameKind.local),(("number" : Str),NameKind.local),(("sure" : Str),NameKind.local)]=some .free:=h;simp only [List.lookup_cons,List.lookup_nil] at h'
 repeat' (split at h')
 all_goals simp at h'
theorem t8:((["number","sure"]:List Str)++([]:List Str)).Nodup:=ao
def By (K:Frag):TG:=p0 K 2 (c5 (aX 0) (c5 (aX 1) mI))
theorem pz {os:List (Int × Bool)}(si:σ[i]?=some (some (.ref a)))(ha:H a=some (.lst xs))(oc:ζ H xs os)(lo:os.length<=20)(q:gu H (os.map (·.1)) Q):cD (bn K (aj i)) 2 [] (By K) (aj 0) σ H Q:=by
 obtain⟨lx,oc⟩:=oc;refine⟨_,si,a,rfl,⟨_,î.of ha⟩,λ D hD=>?_⟩;refine bz (λ i ys H'=>Ext H H'/\ys=((os.take i).map (·.1)).map .int) (by rw [Ô];omega) ⟨.new hD,rfl⟩ (λ i ys H' pv=>î.of (pv.1 _ _ ha)) ?_ ?_
 ·rintro i x ys H' ex ly ĉ ⟨x',ey⟩ JE į R k;obtain⟨o0,o1,rfl⟩:∃ o0 o1,JE=[o0,o1]:=by
   match JE,į with
   | [o0,o1],_=>exact⟨o0,o1,rfl⟩
  have li:i<os.length:=by rw [<- lx];exact(Æ.mp ex).1
  have eo:=Á li;obtain⟨p,rfl,hp⟩:=oc i x _ ex eo;refine⟨p,_,rfl,ĝ.of (x' _ _ hp),rfl,_,_,rfl,_,_,rfl,rfl,⟨[some (.int os[i].1),some (.bl os[i].2)],rfl,rfl⟩,_,rfl,?_⟩;refine k _ H' ĉ ⟨aN _ x' hD,?_⟩;rw [aE eo,Î,Î,<- ey];rfl
 ·rintro ys H' ly ĉ ⟨x',ey⟩;rw [lx,Õ] at ey;rw [ey] at ĉ;exact q D H' x' hD ĉ
theorem xY (F:Ģ K "among" "Sum.among" yO f fd):Þ P w K mg base ay 1 f fd ["self","outcomes"] (uP λ os=>os.map (·.1)):=by
 refine bR F Di λ cdv A outer s H vs Q E hr h=>?_;obtain⟨v,a,xs,os,rfl,ha,oc,lo,q⟩:=h;refine⟨_,bp (cZ (bH (g:=By K) rfl sH (aG (pv 1)) (λ s H C fp=>cr rfl (eN (cA t8 rfl (.inl rfl)) (eN (cA t8 rfl (.inl rfl)) bA))) (λ s H C fp=>pv 0))),?_⟩;exact pz rfl ha oc lo q
end
section
variable {X:Cx}
def nR (K:Frag):List V->Hp->VK->Prop:=λ xs H Q=>∃(p:Addr)(ns:List Int),xs=[.ref p]/\î K H p (ns.map V.int)/\ns.length<64/\∀(l:Addr)(Ŝ:List Int),H l=none->Ŝ.Perm ns->Ŝ.Pairwise (· <= ·)->Q (.ref l) (af H l (.lst (Ŝ.map V.int)))
theorem nY:cQ X (.builtin "sorted") (nR X.K):=by
 intro Ä s σ H xs us Q I r h;obtain⟨p,ns,rfl,hq,hl,q⟩:=h;obtain⟨u,rfl,rx⟩:=dO r;cases rx;obtain⟨its,r',pl,hz⟩:=I.list hq;have İ:=r'.length;rw [Ã] at İ;refine PyProof.Rows.sorted_ints pl.isList (iW r') ak λ out Ŝ a1 a2 a3=>?_;obtain⟨e,he⟩:=PyProof.Rows.sortedAll_at s.heap its out;refine⟨.ref (s.heap.objs.size+1),_,I.laid (λ _ _=>PyProof.Rows.sortedAll_old) (ŭ _) (show þ X.prog X.w _ _ _ (.lst (Ŝ.map .int)) from⟨?_,out.toList,e,gN a1,?_⟩),rfl,q _ Ŝ (I.Đ.fresh (ŭ _)) a2 a3⟩
 ·rw [Ã,a2.length_eq,Ô];omega
 ·exact he
def wD (K:Frag):V->List V->Hp->VK->Prop:=λ x vs H Q=>∃(l:Addr)(ns:List Int)(k:Int),x=.ref l/\vs=[.int k]/\î K H l (ns.map V.int)/\k∈ns/\Q (.int (ns.idxOf k:Nat)) H
theorem uy:HZ X "list.index" (wD X.K):=by
 intro Ä s σ H x vs v us Q I rx rv h;obtain⟨l,ns,k,rfl,rfl,hl,hk,q⟩:=h;cases rx;obtain⟨u,rfl,ru⟩:=dO rv;obtain⟨t,e⟩:=(show ∃ t,u=.int k t from ru);subst e;obtain⟨its,r,pl,hz⟩:=I.list hl;have hi:=iW r;obtain⟨⟨cls,dd,data,sl⟩,ho,hc,n,hd⟩:=id pl.isList;simp only at hc hd;subst hc hd;have İ:=hi.length;have hj:=List.idxOf_lt_length_iff.mpr hk;have Q4:ns.length<=16777216:=by rw [Ã,Ô] at hz;exact hz
 refine B' Nn ⟨_,ho,rfl⟩ PySem.F.entry_list_index (PySem.F.args_list_index_2 _ _)
  (SeqAt.list_indexAt l its.toArray n dd sl (.int k t) (PyProof.Rows.isInt k) (ns.idxOf k) (by simpa [İ] using hj) ak ?_ ?_) ⟨ho,λ y hy=>(PyProof.Rows.eq_isInt k t hi y (by simpa using hy)).at _ _,⟨.int _,H,I.tok _,⟨_,rfl⟩,q⟩⟩
 ·show PyProof.Rows.isInt k its[ns.idxOf k]=true;rw [PyProof.Rows.isInt_at k hi _ ak hj]
  simpa using List.getElem_idxOf hj
 ·intro j hjs ź;have h1:j<ns.length:=ak;show PyProof.Rows.isInt k (its[j]'ak)=false;rw [PyProof.Rows.isInt_at k hi _ ak h1];have:=List.not_of_lt_findIdx ź
  simpa using this
end
end My
namespace My
open PySem L2
section
variable {prog:Program}{w:World}{A:Around}{R:Result->Shared->Prop}{s:Shared}
theorem nQ (J:Nat->Shared->Prop)
  (turn:∀ n s,J n s->wpAny (model prog w) A (pyNext it) (λ r Ĉ=>match r with
   | none=>R (.ok .next) Ĉ
   | some v=>wpAny (model prog w) A (letOwnedTupleGo target it v) (λ _ Ÿ=>wpAny (model prog w) A (assign target env v) (λ _ p_=>wpAny (model prog w) A (eval kx env)
     (λ kv Ke=>wpAny (model prog w) A (eval vx env) (λ vv Kc=>wpAny (model prog w) A (dictSet D kv vv) (λ _ Pj=>∃ m,m<n/\J m Pj) (λ _ _=>False) Kc) (λ _ _=>False) Ke) (λ _ _=>False) p_) (λ _ _=>False) Ÿ) (λ _ _=>False) Ĉ) (λ _ _=>False) s)
  (n:Nat)(h:J n s):codeAny (model prog w) A (.compLoop (.DictComp kx vx [⟨target,iter,[],0⟩] scope ø) 0 it (.ref D) env) R s:=by
 refine codeAny_loop rfl J (λ n s hJ=>?_) n h;refine wpAny_noted ?_;rw [compTurn_dict];refine À (Ĩ (À (ï (turn n s hJ) (λ r Ĉ Ŏ=>?_) λ _ _ z=>z.elim)));cases r with
 | none=>exact È Ŏ
 | some v =>
  refine À (ï Ŏ (λ _ Ÿ JU=>?_) λ _ _ z=>z.elim);refine À (ï JU (λ _ p_ KB=>?_) λ _ _ z=>z.elim);refine À (È ?_);exact À (À (ï KB (λ kv Ke Mf=>À (ă (ï Mf (λ vv Kc Md=>À (Ĩ (ă (ï Md (λ _ Pj Sn=>È ⟨rfl,Sn⟩) λ _ _ z=>z.elim)))) λ _ _ z=>z.elim))) λ _ _ z=>z.elim))
end
section
variable {X:Cx}
theorem yw (I:Inv X Ä σ H s)(e:H a=some (.dK Ě))(l:Ě.length<sizeLine)(ry:RelV (kV k) u)(rv:RelV v r)
  (h:∀ s',Inv X Ä σ (af H a (.dK (iH Ě k v))) s'->Q () s'):wpAny (model X.prog X.w) A (dictSet a u r) Q E s:=by
 obtain⟨z,hd,vs,rel,dd⟩:=Ft I.Đ e;refine wpAny_dictSet_pairs (sQ ry) dd (λ h' U' hs=>h _ ?_) (by rw [<- rel.length];exact z)
 have he:∃ q,h'.get? a=some q:=let ⟨q,_,_,hq,_⟩:=U';⟨q,hq⟩
 exact uJ I (by rw [e];exact True.intro) hs he (zr (by have:=gZ Ě k v;omega) hd (rel.put k rv) U')
end
def Fb (wi:TI)(k:Nat)(js:List Nat)(g:TG)(tk tv:TE):TE:=λ σ H Q=>wi σ H λ J H1=>∀ D,H1 D=none->∃ W:Nat->Nat->List (Key × V)->Hp->Prop,(∃ m,W 0 m [] (af H1 D (.dK []))) /\
 ∀ i m ys H2,W i m ys H2->H2 D=some (.dK ys)/\((J.stop i H2/\Q (.ref D) H2)\/(J.go i H2/\ys.length<sizeLine /\
  ∀ x H3,J.JD i H2 x H3->∀ os:St,os.length=k->g x (os++cz js σ) H3 λ Ĭ H0=>(∃ ł:St,ł.length=k/\Ĭ = ł ++ cz js σ)/\tk Ĭ H0 λ y H4=>tv Ĭ H4 λ v H5=>∃ key,y=kV key/\H5 D=some (.dK ys)/\∃ m',m'<m/\W (i+1) m' (iH ys key v) (af H5 D (.dK (iH ys key v)))))
section
variable {X:Cx}{sc:Scope}{cl:List (Str × Addr)}{ts zs:List Str}{js:List Nat}{kx vx iter:Expr}{ø:Pos}{tg:Expr}{g:TG}{wi:TI}{tk tv:TE}
theorem xL (hc:X.calm=true)(S:aT X sc cl ts zs js)(hi:PI X tg iter wi)(hg:∀ s H C fp,PG (bE X sc cl (ts++zs) s H C fp) tg g)(hk:∀ s H C fp,PE (bE X sc cl (ts++zs) s H C fp) kx tk)(hv:∀ s H C fp,PE (bE X sc cl (ts++zs) s H C fp) vx tv)
  (hs:∀ v,foldedSetIterable iter X.env v=pure v:=by intro _;rfl):PE X (.DictComp kx vx [⟨tg,iter,[],0⟩] sc ø) (Fb wi ts.length js g tk tv):=by
 intro Ä s σ H Q I h;rw [arm_eval_DictComp];refine Ĺ (use:=none) rfl hs S.δ S.kind S.names (aV (hi Ä s σ H _ I h) λ v s1 h1=>aV h1 λ Oc s2 h2=>?_);obtain⟨it,fp,tn,J,H2,e,I2,T,Js,f2,body⟩:=h2;subst e;have Nh:H2 s2.heap.objs.size=none:=I2.fresh;obtain⟨W,⟨m0,w0⟩,turn⟩:=body _ Nh;refine Č ?_;have I3:Inv X Ä σ (af H2 s2.heap.objs.size (.dK [])) { s2 with heap:=s2.heap.push { cls:=.type "dict",data:=.dict #[] } }:=I2.laid (a:=s2.heap.objs.size) (o:=.dK []) (t':=s2.toks) (λ _ _ q=>Â _ q) (Ç _) (sE s2.heap I2.big)
 refine Α S.JR (by intro y hy;simp at hy) (λ Ŏ hn K1=>?_) S.kind
 generalize JV:({ s2 with heap:=s2.heap.push { cls:=.type "dict",data:=.dict #[] } }:Shared)=s3 at I3 hn K1 ⊢
 have k_:∀ b∈fp,cT X Ä (af H2 s2.heap.objs.size (.dK [])) b/\b<s3.heap.objs.size:=λ b hb=>by
  obtain⟨o,ho,_⟩:=T.obj _ _ Js b hb;have hl:=Å ho;have Na:b≠s2.heap.objs.size:=Ð hl;obtain⟨z1,z2⟩:=f2 b hb;refine⟨⟨by rw [ah Na];exact z1,z2⟩,?_⟩
  rw [<- JV];show b<(s2.heap.push _).objs.size;rw [ñ];exact Ć hl
 have old:∀ b o,s3.heap.get? b=some o->Ŏ.get? b=some o:=λ b o e=>K1.extBut b o (Ð (Å e)) (Â _ e);have loop:∀ sS:Shared,sS.heap = Ŏ->sS.os=s3.os->sS.gens=s3.gens->codeAny (model X.prog X.w) X.A (.compLoop (.DictComp kx vx [⟨tg,iter,[],0⟩] sc ø) 0 (.ref it) (.ref s2.heap.objs.size) (compEnvC sc cl s3.heap.objs.size X.env))
   (compPost (model X.prog X.w) X.A X.xe none (EP X Ä σ Q) (.ref s2.heap.objs.size) s3.heap.objs.size) sS:=by
  intro sS eh eo eg;subst eh;have J0:Inv (bE X sc cl (ts++zs) s3 (af H2 s2.heap.objs.size (.dK [])) s3.heap.objs.size fp) [] (List.replicate ts.length none++cz js σ) (af H2 s2.heap.objs.size (.dK [])) sS:=dM I3 S k_ (Ç _) eo eg old hn;generalize hX:bE X sc cl (ts++zs) s3 (af H2 s2.heap.objs.size (.dK [])) s3.heap.objs.size fp=X' at J0;have Ŗ:∀{H':Hp},(∀ b∈fp,H' b=none)->∀ b∈fp,cT X' [] H' b:=λ {H'} hn b hb=>by
   subst hX;obtain⟨⟨_,z1,z2,z3,z4,z5⟩,z6⟩:=k_ b hb;refine⟨hn b hb,Ð z6,λ q=>?_,.inl hb,λ y c e=>z4 y c (S.sub _ _ e),λ p hp=>absurd (show p∈([]:List (Addr × Obj)) from hp) (by simp)⟩
   rcases á.mp (I3.Ŧ b q) with e | e
   ·exact z1 e
   ·exact z2 e
  have Lz:=T.keep _ _ _ Js λ b hb o e=>old b o (by rw [<- JV];exact Â _ e)
  refine nQ (λ n s'=>∃ i ys os H',os.length=ts.length/\Inv X' [] (os++cz js σ) H' s'/\tn i s'.heap/\(∀ b∈fp,H' b=none)/\W i n ys H') ?_ m0 ⟨0,[],_,_,Ù,J0,Lz,λ b hb=>(k_ b hb).1.1,w0⟩;rintro n s' ⟨i,ys,os,H',į,Iv,st,fr,w⟩;obtain⟨hD,alt⟩:=turn i n ys H' w;have eP:X'.prog=X.prog:=by subst hX;rfl
  have eW:X'.w=X.w:=by subst hX;rfl
  have eK:X'.K=X.K:=by subst hX;rfl
  have eC:X'.calm=true:=by subst hX;exact hc
  have eA:X'.A=X.A:=by subst hX;rfl
  have eE:X'.env=compEnvC sc cl s3.heap.objs.size X.env:=by subst hX;rfl
  have eX:X'.xe = λ _ _=>False:=by subst hX;rfl
  rcases alt with⟨stop,q⟩ | ⟨go,İ,step⟩
  ·have d:=T.done X' eP eW eK eC i [] s' _ H' (λ _ _=>False) Iv (Ŗ fr) st stop;rw [eA] at d;refine aV d λ r s4 ⟨hr,I4⟩=>?_;subst hr;obtain⟨m,hm,_⟩:=id I4.loc;rw [eE] at hm;subst hX;exact⟨m,hm,λ h' Mg=>⟨.ref s2.heap.objs.size,H',fP I3 k_ (Ç _) I4 Mg,rfl,q⟩⟩
  ·have d:=T.item X' eP eW eK eC i [] s' _ H' (λ _ _=>False) Iv (Ŗ fr) st go;rw [eA] at d;refine aV d λ r s4 ⟨u,hr,h4⟩=>?_;subst hr;refine aV h4 λ _ s5 ⟨y,H5,I5,r5,y5,e_,Mu⟩=>?_;have ME:=I5.pinned (Ŗ Mu) (T.obj _ _ e_);have Nc:PG X' tg g:=by subst hX;exact hg _ _ _ _
   have g6:=Nc _ s5 _ H5 y u _ ME r5 (step y H5 y5 os į);rw [eP,eW,eA,eE,eX] at g6;refine aV g6 λ _ s6 ⟨OH,H6,I6,⟨ł,Jx,e6⟩,M3⟩=>?_;subst e6;have Ra:PE X' kx tk:=by subst hX;exact hk _ _ _ _
   have g7:=Ra _ s6 _ H6 _ I6 M3;rw [eP,eW,eA,eE,eX] at g7;refine aV g7 λ ku s7 ⟨k7,H7,I7,RP,Xk⟩=>?_;have OX:PE X' vx tv:=by subst hX;exact hv _ _ _ _
   have g8:=OX _ s7 _ H7 _ I7 Xk;rw [eP,eW,eA,eE,eX] at g8;refine aV g8 λ uv s8 ⟨v8,H8',I8',r8,key,ek,YT,m',Lo,w8⟩=>?_;subst ek;have g9:=yw (A:=X'.A) (E:=X'.xe) (Q:=λ _ s9=>Inv X' _ _ (af H8' s2.heap.objs.size (.dK (iH ys key v8))) s9) I8' YT İ RP r8 λ s9 I9=>I9;rw [eP,eW,eA,eX] at g9;refine aV g9 λ _ s9 I8=>?_;refine⟨m',Lo,i+1,iH ys key v8,ł,_,Jx,I8.ņ,T.keep _ _ _ e_ λ b hb o e=>(I8.pin (b,o) (Ë _ (Ë _ (ba hb e)))).1,λ b hb=>?_,w8⟩;obtain⟨o',e',_⟩:=T.obj _ _ e_ b hb;exact(I8.pin (b,o') (Ë _ (Ë _ (ba hb e')))).2.1
 have KP:=T.keep _ _ _ Js λ b hb o e=>old b o (by rw [<- JV];exact Â _ e)
 exact codeAny_compStart_dict (loop _ rfl rfl rfl) (T.self _ 0 _ _ _ KP (loop _ rfl rfl rfl))
end
end My
namespace My
open PySem PySem.W L2
theorem mN {n z:Str}(h:List.lookup z [(n,a)]=some c):z=n/\c=a:=by
 rw [é] at h;cases e:z==n with
 | true=>rw [e] at h;exact⟨Ā.mp e,(Ý h).symm⟩
 | false=>rw [e] at h;cases h
theorem nM (δ:closureFor sc X.env=pure [(z0,c0)])(kind:sc.kind=.function)(nc:∀ y∈sc.names,y.2 ≠ .cell)(nm:∀ y∈sc.names,y.2=.local->sc.names.lookup y.1=some .local)(var:∀ x∈ts,sc.names.lookup x=some .local)
  (hc:X.env.cells.lookup z0=some c0)(rl:(relabel sc X.env).names=L)(has:∀ y∈L,(y.2=.cell\/y.2=.free)->y.1=z0)(nd:(ts ++ [z0]).Nodup)(hj:X.N[j]?=some z0)(Xf:wv X.env.scope z0)(nl:X.env.kindOf z0≠some .local)(cf:L.lookup z0=some .cell\/L.lookup z0=some .free):aT X sc [(z0,c0)] ts [z0] [j]:=by
 refine⟨δ,kind,nc,nm,var,λ z c h=>?_,λ z h=>?_,nd,λ k z h=>?_,rfl⟩
 ·obtain⟨rfl,rfl⟩:=mN h;exact hc
 ·rw [rl] at h;have:z=z0:=by
   rcases h with h | h
   ·exact has _ (ç h) (.inl rfl)
   ·exact has _ (ç h) (.inr rfl)
  subst this;exact⟨c0,by rw [é,Ť]⟩
 ·match k,h with
  | 0,h =>
   have h:=h;cases h;exact⟨j,rfl,hj,Xf,nl,by rw [rl];exact cf⟩
  | k+1,h=>simp at h
theorem fG (δ:closureFor sc X.env=pure [])(kind:sc.kind=.function)(nc:∀ y∈sc.names,y.2 ≠ .cell)(nm:∀ y∈sc.names,y.2=.local->sc.names.lookup y.1=some .local)(var:∀ x∈ts,sc.names.lookup x=some .local)
  (rl:(relabel sc X.env).names=L)(has:∀ y∈L,¬(y.2=.cell\/y.2=.free))(nd:(ts ++ []).Nodup):aT X sc [] ts [] []:=by
 refine⟨δ,kind,nc,nm,var,(λ z c h=>by cases h),λ z h=>?_,nd,(λ k z h=>by simp at h),rfl⟩
 rw [rl] at h;rcases h with h | h
 ·exact absurd (.inl rfl) (has _ (ç h))
 ·exact absurd (.inr rfl) (has _ (ç h))
theorem CP {n m z:Str}(h:List.lookup z [(n,a),(m,b)]=some c):(z=n/\c=a)\/(z=m/\c=b):=by
 rw [é] at h;cases e:z==n with
 | true=>rw [e] at h;exact .inl ⟨Ā.mp e,(Ý h).symm⟩
 | false =>
  rw [e] at h;have h:=h;rw [é] at h;cases e2:z==m with
  | true=>rw [e2] at h;exact .inr ⟨Ā.mp e2,(Ý h).symm⟩
  | false=>rw [e2] at h;cases h
theorem zI (δ:closureFor sc X.env=pure [(y1,c1),(y2,c2)])(kind:sc.kind=.function)(nc:∀ y∈sc.names,y.2 ≠ .cell)(nm:∀ y∈sc.names,y.2=.local->sc.names.lookup y.1=some .local)(var:∀ x∈ts,sc.names.lookup x=some .local)
  (h1:X.env.cells.lookup y1=some c1)(h2:X.env.cells.lookup y2=some c2)(rl:(relabel sc X.env).names=L)(has:∀ y∈L,(y.2=.cell\/y.2=.free)->y.1=y1\/y.1=y2)(ny:y1≠y2)(nd:(ts ++ [z1,z2]).Nodup)
  (g1:X.N[j1]?=some z1)(g2:X.N[j2]?=some z2)(v1:wv X.env.scope z1)(v2:wv X.env.scope z2)(n1:X.env.kindOf z1≠some .local)(n2:X.env.kindOf z2≠some .local)(f1:L.lookup z1=some .cell\/L.lookup z1=some .free)(f2:L.lookup z2=some .cell\/L.lookup z2=some .free):aT X sc [(y1,c1),(y2,c2)] ts [z1,z2] [j1,j2]:=by
 refine⟨δ,kind,nc,nm,var,λ z c h=>?_,λ z h=>?_,nd,λ k z h=>?_,rfl⟩
 ·rcases CP h with⟨rfl,rfl⟩ | ⟨rfl,rfl⟩
  ·exact h1
  ·exact h2
 ·rw [rl] at h;have e:z=y1\/z=y2:=by
   rcases h with h | h
   ·exact has _ (ç h) (.inl rfl)
   ·exact has _ (ç h) (.inr rfl)
  rcases e with rfl | rfl
  ·exact⟨c1,by rw [é,Ť]⟩
  ·refine⟨c2,?_⟩;rw [é,ã.mpr ny.symm];rw [é,Ť]
 ·match k,h with
  | 0,h =>
   have h:=h;cases h;exact⟨j1,rfl,g1,v1,n1,by rw [rl];exact f1⟩
  | 1,h =>
   have h:=h;cases h;exact⟨j2,rfl,g2,v2,n2,by rw [rl];exact f2⟩
  | k+2,h=>simp at h
section
variable {P:Program}{w:World}{K:Frag}{mg:bL}{base:Heap}{C:Nat->Addr}{CR f a1:Addr}{fd d1:FuncData}
abbrev ic:Stmt:=az (bZ 60) 2
abbrev FE:List Str:=["self","outcomes","numbers","firsts"]
theorem Nt:ad FE ["self","outcomes"] (aa ic):=aK
abbrev CQ:Scope:=cC [("number",.local),("numbers",.free)]
abbrev Fx:Scope:=cC [("number",.local),("sure",.local),("firsts",.free),("numbers",.free)]
section
variable {cdv:Value}{A:Around}{outer:List Env}{s:Shared}{H:Hp}{E:XK}
theorem uM:aT (aP ay P w K mg base FE "Ranks.among" (aa ic) f cdv A outer s H E).ŀ CQ [("numbers",s.heap.objs.size+1)] ["number"] ["numbers"] [2] :=
 nM (L:=[(".0",.local),("number",.local),("numbers",.cell)]) rfl rfl ao ao ao rfl rfl ao ao rfl (.inr (.inl rfl)) (by show(aa ic).names.lookup ("numbers" : Str)≠some .local;decide +kernel) (.inl rfl)
theorem t5:aT (aP ay P w K mg base FE "Ranks.among" (aa ic) f cdv A outer s H E).ŀ Fx [("numbers",s.heap.objs.size+1),("firsts",s.heap.objs.size+2)] ["number","sure"] ["firsts","numbers"] [3,2] :=
 zI (L:=[(".0",.local),("number",.local),("sure",.local),("firsts",.cell),("numbers",.cell)]) rfl rfl ao ao ao rfl rfl rfl ao ao ao rfl rfl (.inr (.inl rfl)) (.inr (.inl rfl)) (by show(aa ic).names.lookup ("firsts" : Str)≠some .local;decide +kernel) (by show(aa ic).names.lookup ("numbers" : Str)≠some .local;decide +kernel) (.inl rfl) (.inl rfl)
end
theorem DY:((["number"]:List Str)++(["numbers"]:List Str)).Nodup:=ao
theorem wy:((["number","sure"]:List Str)++(["firsts","numbers"]:List Str)).Nodup:=ao
def FV (K:Frag):TS:=cG (jg (nR K) (av (cD (bn K (aj 1)) 2 [] (By K) (aj 0)) aJ)) (aX 2)
def G6 (K:Frag):TE:=aS (dH λ i j=>.int (i+j)) (DE K "list" (wD K) (aj 1) (av (aj 0) aJ)) (tC (.int 1))
def EU (K:Frag):TS:=cG (Fb (bn K (aj 2)) 1 [2] (aX 0) (aj 0) (G6 K)) (aX 3)
def GZ (K:Frag):TE:=aS (dH λ i j=>.int (i-j)) (aS (dH λ i j=>.int (i+j)) (aS (rI ų λ i j=>.int (i*j)) (tC (.int 2)) (we (aj 2) (aj 0))) (DE K "list" (tO K) (aj 3) (av (aj 0) aJ))) (tC (.int 1))
def AQ (K:Frag):TS:=cH (cD (bn K (aj 1)) 2 [3,2] (By K) (GZ K))
section
variable {cdv:Value}{A:Around}{outer:List Env}{s:Shared}{H:Hp}{E:XK}
abbrev oQ (k:Nat)(q:Str)(st:Stmt)(A:Around)(s:Shared)(f:Addr)(c:Value):Prop:=ó k (A.deeper (PyProof.Rows.envOfC q (aa st) s.heap.objs.size f c))
theorem yN (ms:mg "sorted" = none)(hr:oQ 0 "Ranks.among" ic A s f cdv):Bx (ż (aP ay P w K mg base FE "Ranks.among" (aa ic) f cdv A outer s H E).ŀ (aF ic) (aY (FV K) (aY (EU K) (AQ K)))):=by
 have nd:=Nt.nd;have hu:(A.deeper (PyProof.Rows.envOfC "Ranks.among" (aa ic) s.heap.objs.size f cdv)).units+1<cLine:=by have:=hr.un;omega
 exact ae ⟨jI nd rfl (.inr rfl) (aq nY rfl ms PyProof.Rows.boot_sorted (ac (bH rfl sH (aG (pv 1)) (λ s H C fp=>cr rfl (eN (cA t8 rfl (.inl rfl)) (eN (cA t8 rfl (.inl rfl)) bA))) (λ s H C fp=>pv 0)) au))⟩
  (ae ⟨jI nd rfl (.inr rfl) (xL rfl uM (aG (pv 2)) (λ s H C fp=>cA DY rfl (.inl rfl)) (λ s H C fp=>pv 0) (λ s H C fp=>aA bB (kI Ĳ Nn PySem.F.type_list_index uy (pv 1) (ac (pv 0) au)) aI))⟩
  (bt ⟨cZ (bH rfl t5 (aG (pv 1)) (λ s H C fp=>cr rfl (eN (cA wy rfl (.inl rfl)) (eN (cA wy rfl (.inl rfl)) bA))) (λ s H C fp=>aA gL (aA bB (aA c7 aI (vU hu (pv 2) (pv 0))) (kI Ĳ PySem.F.slot_list_count PySem.F.type_list_count rG (pv 3) (ac (pv 0) au))) aI))⟩))
end
theorem kQ:∀{l:List Int},l.Pairwise (· <= ·)->∀{n:Int},n∈l->l.idxOf n=l.countP (λ m=>decide (m<n))
 | [],_,_,h=>nomatch h
 | a::l,p,n,h=>by
  obtain⟨pa,pl⟩:=List.pairwise_cons.mp p;rw [List.idxOf_cons,Kr];by_cases e:a=n
  ·subst e;have z:l.countP (λ m=>decide (m<a))=0:=List.countP_eq_zero.mpr λ m hm=>by have:=pa m hm;simp;omega
   rw [z];simp
  ·have hn:n∈l:=by
    rcases á.mp h with z | z
    ·exact absurd z.symm e
    ·exact z
   have lt:a<n:=by have:=pa n hn;omega
   rw [show(a==n)=false from ã.mpr e,kQ pl hn];simp [lt]
def rk (ns:List Int)(n:Int):Int:=2*((ns.countP λ m=>decide (m<n))+1:Nat)+(ns.countP λ m=>decide (m=n):Nat)-1
theorem tG (ns:List Int)(n:Int):((ns.map V.int).countP λ z=>yH z (.int n))=ns.countP λ m=>decide (m=n):=by
 rw [Ŷ];refine List.countP_congr λ m _=>?_;show(m==n)=true ↔ _;simp
theorem yF (h:te σ H λ x H1=>r [x] H1 Q):jg r (av te aJ) σ H Q:=h
theorem A6 (F:Ģ K "among" "Ranks.among" ic f fd)(ms:mg "sorted" = none):Þ P w K mg base ay 1 f fd ["self","outcomes"] (uP λ os=>os.map λ o=>rk (os.map (·.1)) o.1):=by
 refine bR F Nt λ cdv A outer s H vs Q E hr h=>?_;obtain⟨v,a,xs,os,rfl,ha,oc,lo,q⟩:=h;obtain⟨Mv⟩:=yN ms hr (f:=f) (cdv:=cdv) (A:=A) (outer:=outer) (s:=s) (H:=H) (E:=E) (P:=P) (w:=w) (base:=base);refine⟨_,Mv,?_⟩;have lx:=oc.1;have sz:=Ô;refine aL (te:=jg (nR K) (av (cD (bn K (aj 1)) 2 [] (By K) (aj 0)) aJ)) (i:=2) (D:=⟨_,Q,_,_⟩) ?_;refine yF (pz (σ:=[some v,some (.ref a),none,none]) (i:=1) rfl ha oc lo λ l0 H0 x0 n0 g0=>?_);refine⟨l0,os.map (·.1),rfl,î.of g0,by rw [Ã];omega,λ l Ŝ hl pm pw=>?_⟩
 have x1:=Ext.new (o:=.lst (Ŝ.map V.int)) hl;have g1:af H0 l (.lst (Ŝ.map V.int)) l=some (.lst (Ŝ.map V.int)):=aO;have Pf:=x0.trans x1;show aY (EU K) (AQ K) _ [some v,some (.ref a),some (.ref l),none] (af H0 l (.lst (Ŝ.map V.int)));generalize af H0 l (.lst (Ŝ.map V.int))=H1 at x1 g1 Pf ⊢;have ln:Ŝ.length<=20:=by rw [pm.length_eq,Ã];exact lo
 refine⟨_,rfl,l,rfl,⟨_,î.of g1⟩,λ D hD=>?_⟩;refine⟨λ i m ys H'=>m = Ŝ.length-i/\i <= Ŝ.length/\H' D=some (.dK ys)/\Ext H1 H'/\ys.length<=i/\∀ n ∈ Ŝ.take i,dY ys (.inl n)=some (.int ((Ŝ.idxOf n:Nat)+1)),⟨Ŝ.length,ak,ģ _,aO,Ext.new hD,Ç _,λ n hn=>by simp at hn⟩,?_⟩
 rintro i m ys H2 ⟨rfl,hi,h2,x2,ly,kv⟩;refine⟨h2,?_⟩;have g2:=x2 _ _ g1;by_cases lt:i < Ŝ.length
 ·refine .inr ⟨⟨_,.int Ŝ[i],î.of g2,by rw [Ì,Á lt];rfl⟩,ak,λ x H3 yl ł į=>?_⟩
  obtain⟨e,yl⟩:=yl;subst e;have ex:=yl _ (î.of g2);rw [Ì,Á lt] at ex;cases ex;obtain⟨o0,rfl⟩:∃ o0,ł=[o0]:=by
   match ł,į with
   | [o0],_=>exact⟨o0,rfl⟩
  have mem:Ŝ[i] ∈ Ŝ:=ü lt;refine⟨⟨[some (.int Ŝ[i])],rfl,rfl⟩,_,rfl,?_⟩;refine⟨_,rfl,.inl ⟨rfl,_,î.of g2⟩,_,rfl,l,Ŝ,Ŝ[i],rfl,rfl,î.of g2,mem,_,_,rfl,rfl,.inl Ŝ[i],rfl,h2,Ŝ.length-(i+1),ak,rfl,lt,aO,aN _ x2 hD,?_,λ n hn=>?_⟩
  ·refine ð (gZ ys (Key.inl Ŝ[i]) _) ?_;omega
  ·rw [tE];by_cases e:n = Ŝ[i]
   ·subst e;rw [â rfl]
   ·rw [Ü (λ z=>e (Key.inl.inj z))];refine kv n ?_;rw [List.take_succ_eq_append_getElem lt] at hn;rcases ğ.mp hn with z | z
    ·exact z
    ·exact absurd (ä.mp z) e
 ·have e:i = Ŝ.length:=ak;subst e;refine .inl ⟨⟨_,î.of g2,by rw [Ã];exact Ç _⟩,?_⟩
  rw [Õ] at kv;show AQ K _ [some v,some (.ref a),some (.ref l),some (.ref D)] H2;have NN:=x2 _ _ (Pf _ _ ha);have PK:∀(i:Nat) x o,xs[i]?=some x->os[i]?=some o->Ej H2 x o:=λ i x o h1 h2=>by
   obtain⟨p,e,hp⟩:=oc.2 i x o h1 h2;exact⟨p,e,x2 _ _ (Pf _ _ hp)⟩
  refine⟨_,rfl,a,rfl,⟨_,î.of NN⟩,λ E0 hE=>?_⟩;refine bz (a:=a) (λ i ys H'=>Ext H2 H'/\ys=((os.take i).map λ o=>rk (os.map (·.1)) o.1).map .int) ak ⟨.new hE,rfl⟩ (λ i ys H' pv=>î.of (pv.1 _ _ NN)) ?_ ?_
  ·rintro i x KL H' ex XU ĉ ⟨x',ey⟩ JE į R k;obtain⟨o0,o1,rfl⟩:∃ o0 o1,JE=[o0,o1]:=by
    match JE,į with
    | [o0,o1],_=>exact⟨o0,o1,rfl⟩
   have li:i<os.length:=by rw [<- lx];exact(Æ.mp ex).1
   have eo:=Á li;obtain⟨p,rfl,hp⟩:=PK i x _ ex eo;have mem:=pm.mem_iff.mpr (ê.mpr ⟨os[i],ü li,rfl⟩);have kn:=kv _ mem;refine⟨p,_,rfl,ĝ.of (x' _ _ hp),rfl,_,_,rfl,_,_,rfl,rfl,⟨[some (.int os[i].1),some (.bl os[i].2)],rfl,rfl⟩,?_⟩;have dg:KI H' D (.int os[i].1) (some (.int ((Ŝ.idxOf os[i].1:Nat)+1))):=by
    have z:=KI.k (k:=Key.inl os[i].1) (x' _ _ h2);rw [kn] at z;exact z
   refine fF (fF (fF ⟨_,rfl,_,rfl,D,_,rfl,dg,_,_,rfl,rfl,?_,_,rfl,.inl ⟨rfl,_,î.of (x' _ _ g2)⟩,_,rfl,l,_,_,rfl,rfl,î.of (x' _ _ g2),?_,rfl,_,_,rfl,rfl,_,_,rfl,rfl,?_⟩))
   ·exact .inl ⟨ar,ar⟩
   ·rw [J_,ú];intro n _;rfl
   ·refine k _ H' ĉ ⟨aN _ x' hE,?_⟩;rw [aE eo,Î,Î,<- ey];show _=KL ++ [V.int (rk (os.map (·.1)) os[i].1)];have e1:rk (os.map (·.1)) os[i].1=2*((Ŝ.idxOf os[i].1:Nat)+1)+((Ŝ.map .int).countP λ z=>yH z (.int os[i].1):Nat)-1:=by
     unfold rk;rw [tG,kQ pw mem,pm.countP_eq,pm.countP_eq];omega
    rw [e1]
  ·rintro KL H' XU ĉ ⟨x',ey⟩;rw [lx,Õ] at ey;rw [ey] at ĉ;have x3:=(Pf.trans x2).trans x';refine q E0 H' x3 ?_ ĉ;cases e:H E0 with
   | none=>rfl
   | some o=>rw [(Pf.trans x2) _ _ e] at hE;cases hE
end
def kg (i:Nat):Nat:=if i%2=0 then i+1 else i-1
theorem sM (i:Nat)(h:i<20):Builtin.bitXor (i:Int) 1=(kg i:Nat):=by
 have all:∀ j:Nat,j<20->Builtin.bitXor (j:Int) 1=(kg j:Nat):=ao;exact all i h
theorem oN (h:i<n)(e:n%2=0):kg i<n:=by
 unfold kg;split <;> omega
section
variable {P:Program}{w:World}{K:Frag}{mg:bL}{base:Heap}{C:Nat->Addr}{CO CR f a1:Addr}{fd d1:FuncData}
def tX (o p:Int × Bool):Int:=qQ o.1 o.2 p.1 p.2
def jj (os:List (Int × Bool)):List Int:=os.mapIdx λ i o=>tX o (os.getD (kg i) (0,false))
abbrev lX:Stmt:=az (bZ 62) 2
theorem Fg:ad ["self","outcomes"] ["self","outcomes"] (aa lX):=aK
abbrev DH:Scope:=cC [("at",.local),("one",.local),("stands_to",.globalImplicit),("outcomes",.free)]
theorem Et:((["at","one"]:List Str)++(["outcomes"]:List Str)).Nodup:=ao
def wx (K:Frag):Sp:=λ vs H Q _=>∃ v a xs os,vs=[v,.ref a]/\H a=some (.lst xs)/\ζ H xs os/\(∀ o∈os,-99<=o.1/\o.1<=99)/\os.length<=20/\os.length%2=0/\gu H (jj os) Q
def FU (K:Frag)(CO:Addr):TE:=eu (nW K CO) [] E0 (av (aj 1) (av (aS (dP K) (aj 2) (aS (dH λ i j=>.int (Builtin.bitXor i j)) (aj 0) (tC (.int 1)))) aJ))
section
variable {cdv:Value}{A:Around}{outer:List Env}{s:Shared}{H:Hp}{E:XK}
theorem yY:aT (aP ay P w K mg base ["self","outcomes"] "Signs.among" (aa lX) f cdv A outer s H E).ŀ DH [("outcomes",s.heap.objs.size+1)] ["at","one"] ["outcomes"] [1] :=
 nM (L:=[(".0",.local),("at",.local),("one",.local),("stands_to",.globalImplicit),("outcomes",.cell)]) rfl rfl ao ao ao rfl rfl ao ao rfl (.inr (.inl rfl)) (by show(aa lX).names.lookup ("outcomes" : Str)≠some .local;decide +kernel) (.inl rfl)
theorem Aa (A1:Df P w K mg base (cy P w) 5 "stands_to" ["one","other"] (nW K CO) a1 d1)(me:mg "enumerate" = none)(hr:oQ 5 "Signs.among" lX A s f cdv):Bx (ż (aP ay P w K mg base ["self","outcomes"] "Signs.among" (aa lX) f cdv A outer s H E).ŀ (aF lX) (cH (cD (wj K (av (aj 1) aJ)) 2 [1] (By K) (FU K CO)))) :=
 bt ⟨cZ (bH rfl yY (jV rfl me (ac (pv 1) au)) (λ s H C fp=>cr rfl (eN (cA Et rfl (.inl rfl)) (eN (cA Et rfl (.inl rfl)) bA))) (λ s H C fp=>cL A1 hr cw (ac (pv 1) (ac (eL gF (pv 2) (aA xC (pv 0) aI)) au))))⟩
end
theorem xO (F:Ģ K "among" "Signs.among" lX f fd)(A1:Df P w K mg base (cy P w) 5 "stands_to" ["one","other"] (nW K CO) a1 d1)(me:mg "enumerate" = none):Þ P w K mg base ay 6 f fd ["self","outcomes"] (wx K):=by
 refine bR F Fg λ cdv A outer s H vs Q E hr h=>?_;obtain⟨v,a,xs,os,rfl,ha,oc,bd,lo,ev,q⟩:=h;obtain⟨Mv⟩:=Aa A1 me hr (f:=f) (cdv:=cdv) (A:=A) (outer:=outer) (s:=s) (H:=H) (E:=E) (P:=P) (w:=w) (base:=base);refine⟨_,Mv,?_⟩;obtain⟨lx,oc⟩:=oc;have sz:=Ô;have ot:∀{H':Hp}{i:Nat}{b:Addr},Ext H H'->(hi:i<os.length)->H' b=some (.tup [.int os[i].1,.bl os[i].2])->Ot K H' (.ref b) true:=λ {H' i b} x' hi hb=>by
  have:=bd os[i] (ü hi);refine .inl ⟨.tuple [.int os[i].1,.bool os[i].2],.tup hb (.cons (.int _) (.cons (.bl _) .nil)),?_⟩;show true=((decide ((-99:Int)<=os[i].1)&&decide (os[i].1<=99))&&true);rw [Ê this.1,Ê this.2];rfl
 refine⟨_,rfl,a,rfl,⟨_,î.of ha⟩,λ D hD=>?_⟩;refine rY (λ i ys H'=>Ext H H'/\ys=((jj os).take i).map .int) ak ⟨.new hD,rfl⟩ (λ i ys H' pv=>î.of (pv.1 _ _ ha)) ?_ ?_
 ·rintro i x ys H' p ex ly ĉ ⟨x',ey⟩ hp JE į R k;obtain⟨o0,o1,rfl⟩:∃ o0 o1,JE=[o0,o1]:=by
   match JE,į with
   | [o0,o1],_=>exact⟨o0,o1,rfl⟩
  have xp:=Ext.new (o:=.tup [.int (i:Nat),x]) hp;have gp:af H' p (.tup [.int (i:Nat),x]) p=some (.tup [.int (i:Nat),x]):=aO;have v_:=xp _ _ ĉ;have x2:=x'.trans xp;generalize af H' p (.tup [.int (i:Nat),x])=H2 at xp gp v_ x2 ⊢;have li:i<os.length:=by rw [<- lx];exact(Æ.mp ex).1
  have lm:=oN li ev;have T_:kg i<xs.length:=by rw [lx];exact lm
  obtain⟨b,rfl,hb⟩:=oc i x _ ex (Á li);obtain⟨b2,e2,LG⟩:=oc (kg i) xs[kg i] _ (Á T_) (Á lm);have em:vW xs (Builtin.bitXor (i:Int) 1)=some (.ref b2):=by
   rw [sM i ak,<- e2];exact f7 (Á T_)
  refine⟨p,_,rfl,ĝ.of gp,rfl,_,_,rfl,_,_,rfl,rfl,⟨[some (.int (i:Nat)),some (.ref b)],rfl,rfl⟩,?_⟩;refine⟨_,rfl,_,rfl,_,rfl,_,_,rfl,rfl,a,_,_,_,rfl,rfl,î.of (x2 _ _ ha),em,.ref b,.ref b2,true,true,rfl,ot x2 li (x2 _ _ hb),ot x2 lm (x2 _ _ LG),(λ z=>by cases z),(λ _ z=>by cases z),λ a1 a2 n1 n2 s1 s2 q1 q2 t1 t2 _ _=>?_⟩
  cases q1;cases q2;rw [x2 _ _ hb] at t1;rw [x2 _ _ LG] at t2;cases t1;cases t2;refine k _ H2 v_ ⟨aN _ x2 hD,?_⟩;have es:(jj os)[i]?=some (tX os[i] os[kg i]):=by
   unfold jj;rw [List.getElem?_mapIdx,Á li];rw [ß,Á lm];rfl
  rw [aE es,Î,<- ey];rfl
 ·rintro ys H' ly ĉ ⟨x',ey⟩;have l2:(jj os).length=xs.length:=by unfold jj;rw [List.length_mapIdx,lx]
  rw [<- l2,Õ] at ey;rw [ey] at ĉ;exact q D H' x' hD ĉ
end
def jm:Nat->Str
 | 0 => "sum"
 | 1 => "ranks"
 | 2 => "wins"
 | _ => "signs"
def Me (MC:Nat->Addr)(H:Hp)(k:Nat)(v:V):Prop:=∃ a dx m,v=.ref a/\H a=some (.ins (MC k) dx [("mark",.ref m)])/\H m=some (.tup [.str (jm k)])
theorem Me.ext (h:Me MC H k v)(x:Ext H H'):Me MC H' k v:=by
 obtain⟨a,dx,m,e,ha,hm⟩:=h;exact⟨a,dx,m,e,x _ _ ha,x _ _ hm⟩
def iq (MC:Nat->Addr)(c:Addr):Prop:=∃ i,i<4/\c=MC i
structure KM (K:Frag)(MC:Nat->Addr):Prop where
 cls:∀ i,i<4->Lx K (MC i)
 no:∀ i,i<4->Ũ K (MC i) "mark"
section
variable {P:Program}{w:World}{K:Frag}{mg:bL}{base:Heap}{C MC:Nat->Addr}{CO CR CF CU CN f a1 a2:Addr}{fd d1 d2:FuncData}
theorem dB {m:Str}(hm:m ≠ "mark")(hk:k<4)(h:Me MC H k v)(ht:∀ R:VK,R v H->ta σ H R)(q:t σ H λ vs H2=>sp (MC k) (v::vs) H2 Q E):bD (iq MC) m sp E ta t σ H Q:=by
 obtain⟨a,dx,m',rfl,ha,_⟩:=h;refine ht _ ⟨a,MC k,dx,_,rfl,⟨k,hk,rfl⟩,ha,?_,q⟩;rw [é,ã.mpr hm];rfl
abbrev yI:Stmt:=az (bZ 58) 2
def rZ (MC:Nat->Addr):Sp:=λ vs H Q _=>∃ v k,vs=[v]/\k<4/\Me MC H k v/\∀ m,H m=some (.tup [.str (jm k)])->Q (.ref m) H
theorem E8:ad ["self"] ["self"] (aa yI):=aK
theorem yS (Z:KM K MC)(F:Ģ K "told" "Measure.told" yI f fd):Þ P w K mg base ay 1 f fd ["self"] (rZ MC):=by
 refine bR F E8 λ cdv A outer s H vs Q E hr h=>?_;obtain⟨v,k,rfl,hk,⟨a,dx,m,rfl,ha,hm⟩,q⟩:=h;exact⟨_,bp (cZ (mP (pv 0) rfl)),_,rfl,a,_,dx,_,_,rfl,ha,Z.cls k hk,Z.no k hk,rfl,q m hm⟩
abbrev Ap:Stmt:=az (bZ 59) 1
abbrev w4:Stmt:=az (bZ 60) 1
abbrev An:Stmt:=az (bZ 62) 1
abbrev zH:Stmt:=az (bZ 58) 4
theorem D7:ad ["self","rule","outcomes"] ["self","rule","outcomes"] (aa Ap):=aK
theorem Eo:ad ["self","rule","outcomes"] ["self","rule","outcomes"] (aa w4):=aK
theorem BM:ad ["self","rule","outcomes"] ["self","rule","outcomes"] (aa An):=aK
theorem C5:ad ["self","rule","outcomes"] ["self","rule","outcomes"] (aa zH):=aK
def vM (CU:Addr):Sp:=λ vs H Q E=>∃ v r a xs os,vs=[v,r,.ref a]/\H a=some (.lst xs)/\ζ H xs os/\((os.map (·.2)).all id=true->∀ H',Ext H H'->Q .ą H')/\∀ i,dS (os.map (·.2)) i->∀ H',Ext H H'->cu CU "place" (.int (i:Nat)) H' E
def Ce (C:Nat->Addr)(CN:Addr):Sp:=λ vs H Q E=>∃ v r o t,vs=[v,r,o]/\Ru C H t r/\t.parts.length<=20/\(∀ p∈t.parts,p.length<=20)/\((fZ t).all id=true->∀ H',Ext H H'->Q .ą H')/\∀ i,dS (fZ t) i->∀ H',Ext H H'->cu CN "block" (.int (i:Nat)) H' E
def DA:Sp:=λ vs H Q _=>∃ v r o,vs=[v,r,o]/\Q .ą H
theorem yQ (F:Ģ K "need_fit" "Sum.need_fit" Ap f fd)(A1:Df P w K mg base (cy P w) 3 "need_sure" ["outcomes"] (tz CU) a1 d1):Þ P w K mg base (cy P w) 4 f fd ["self","rule","outcomes"] (vM CU):=by
 refine fL F D7 λ cdv A outer s H vs Q E hr h=>?_;obtain⟨v,r,a,xs,os,rfl,ha,oc,q1,q2⟩:=h;exact⟨_,bp (ax (cL A1 hr cF (ac (pv 2) au))),_,rfl,a,xs,os,rfl,ha,oc,q1,q2⟩
theorem Aw (F:Ģ K "need_fit" "Ranks.need_fit" w4 f fd)(A1:Df P w K mg base (cy P w) 3 "need_sure" ["outcomes"] (tz CU) a1 d1):Þ P w K mg base (cy P w) 4 f fd ["self","rule","outcomes"] (vM CU):=by
 refine fL F Eo λ cdv A outer s H vs Q E hr h=>?_;obtain⟨v,r,a,xs,os,rfl,ha,oc,q1,q2⟩:=h;exact⟨_,bp (ax (cL A1 hr cF (ac (pv 2) au))),_,rfl,a,xs,os,rfl,ha,oc,q1,q2⟩
theorem At (F:Ģ K "need_fit" "Signs.need_fit" An f fd)(A1:Df P w K mg base (cy P w) 3 "need_pairs" ["rule"] (Ds C CN) a1 d1):Þ P w K mg base (cy P w) 4 f fd ["self","rule","outcomes"] (Ce C CN):=by
 refine fL F BM λ cdv A outer s H vs Q E hr h=>?_;obtain⟨v,r,o,t,rfl,ru,l1,l2,q1,q2⟩:=h;exact⟨_,bp (ax (cL A1 hr cF (ac (pv 1) au))),_,rfl,r,t,rfl,ru,l1,l2,q1,q2⟩
theorem Ak (F:Ģ K "need_fit" "Measure.need_fit" zH f fd):Þ P w K mg base ay 1 f fd ["self","rule","outcomes"] DA:=by
 refine bR F C5 λ cdv A outer s H vs Q E hr h=>?_;obtain⟨v,r,o,rfl,q⟩:=h;exact⟨_,bp uE,q⟩
end
def kj (os:List (Int × Bool)):List Int:=os.map λ o=>(os.map λ p=>tX o p).sum
def dG:Nat->List (Int × Bool)->List Int
 | 0,os=>os.map (·.1)
 | 1,os=>os.map λ o=>rk (os.map (·.1)) o.1
 | 2,os=>kj os
 | _,os=>jj os
def jP:Nat->Rl->List (Int × Bool)->List Bool
 | 0,_,os=>os.map (·.2)
 | 1,_,os=>os.map (·.2)
 | 2,_,_=>[]
 | _,t,_=>fZ t
def jO (CU CN:Addr)(k:Nat):Addr:=if k=3 then CN else CU
def jW (k:Nat):Str:=if k=3 then "block" else "place"
section
variable {P:Program}{w:World}{K:Frag}{mg:bL}{base:Heap}{C MC:Nat->Addr}{CO CR CF CU CN f a1 a2:Addr}{fd d1 d2:FuncData}
structure Go (H:Hp)(k:Nat)(a:Addr)(os:List (Int × Bool)):Prop where
 ex:∃ xs,H a=some (.lst xs)/\ζ H xs os
 bd:∀ o∈os,-99<=o.1/\o.1<=99
 ln:os.length<=20
 ev:k=3->os.length%2=0
theorem Go.ext {H H':Hp}{k:Nat}{a:Addr}{os:List (Int × Bool)}(h:Go H k a os)(x:Ext H H'):Go H' k a os:=by
 obtain⟨⟨xs,ha,l,oc⟩,b,c,d⟩:=h;refine⟨⟨xs,x _ _ ha,l,λ i y o h1 h2=>?_⟩,b,c,d⟩;obtain⟨p,e,hp⟩:=oc i y o h1 h2;exact⟨p,e,x _ _ hp⟩
def gm (MC:Nat->Addr)(c:Addr):Sp:=λ vs H Q _=>∃ k v a os,k<4/\c=MC k/\vs=[v,.ref a]/\Go H k a os/\gu H (dG k os) Q
def k9 (MC:Nat->Addr)(c:Addr):Sp:=λ vs H Q _=>∃ k v r a os,k<4/\c=MC k/\vs=[v,r,.ref a]/\Me MC H k v/\Go H k a os/\gu H (dG k os) Q
def gs (C MC:Nat->Addr)(CU CN c:Addr):Sp:=λ vs H Q E=>∃ k v r t a xs os,k<4/\c=MC k/\vs=[v,r,.ref a]/\Ru C H t r/\t.parts.length<=20/\(∀ p∈t.parts,p.length<=20)/\H a=some (.lst xs)/\ζ H xs os/\((jP k t os).all id=true->∀ H',Ext H H'->Q .ą H')/\∀ i,dS (jP k t os) i->∀ H',Ext H H'->cu (jO CU CN k) (jW k) (.int (i:Nat)) H' E
abbrev Az:Stmt:=az (bZ 58) 5
theorem Du:ad ["self","rule","outcomes"] ["self","rule","outcomes"] (aa Az):=aK
def sf (MC:Nat->Addr):Sp:=λ vs H Q E=>∃ c,k9 MC c vs H Q E
theorem xZ (F:Ģ K "scored" "Measure.scored" Az f fd)(M:bv P w K mg base ay 7 "among" ["self","outcomes"] (iq MC) (gm MC)):Þ P w K mg base ay 8 f fd ["self","rule","outcomes"] (sf MC):=by
 refine bR F Du λ cdv A outer s H vs Q E hr h=>?_;obtain⟨c,k,v,r,a,os,hk,rfl,rfl,me,go,q⟩:=h;refine⟨_,bp (cZ (aQ (pv 0) M hr ag (ac (pv 2) au))),?_⟩;exact dB ao hk me (λ R r=>⟨_,rfl,r⟩) ⟨_,rfl,k,v,a,os,hk,rfl,rfl,go,q⟩
abbrev uq:Stmt:=az (bZ 58) 3
theorem wu:ad ["self","rule","outcomes"] ["self","rule","outcomes"] (aa uq):=aK
def jw (C MC:Nat->Addr)(CU CN:Addr):Sp:=λ vs H Q E=>∃ k v r t a xs os,k<4/\vs=[v,r,.ref a]/\Me MC H k v/\Ru C H t r/\t.parts.length<=20/\(∀ p∈t.parts,p.length<=20)/\H a=some (.lst xs)/\ζ H xs os/\(∀ o∈os,-99<=o.1/\o.1<=99)/\os.length<=20/\t.Ï =(os.length:Nat)/\(k=3->(fZ t).all id=true->os.length%2=0) /\
 ((jP k t os).all id=true->gu H (dG k os) Q)/\∀ i,dS (jP k t os) i->∀ H',Ext H H'->cu (jO CU CN k) (jW k) (.int (i:Nat)) H' E
theorem Ax (F:Ģ K "scores" "Measure.scores" uq f fd)(Mr:Ms P w K mg base C)(A1:Df P w K mg base (cy P w) 6 "need_outcomes_of" ["thing","folk"] (sX K CF CO) a1 d1)(M1:bv P w K mg base (cy P w) 5 "need_fit" ["self","rule","outcomes"] (iq MC) (gs C MC CU CN))(M2:bv P w K mg base ay 8 "scored" ["self","rule","outcomes"] (iq MC) (k9 MC)) :
  Þ P w K mg base (cy P w) 9 f fd ["self","rule","outcomes"] (jw C MC CU CN):=by
 refine fL F wu λ cdv A outer s H vs Q E hr h=>?_;obtain⟨k,v,r,t,a,xs,os,hk,rfl,me,ru,l1,l2,ha,oc,bd,lo,fk,ev,q1,q2⟩:=h;have Ğ:ó 1 _:=hr.mono ar;have LD:ó 5 _:=hr.mono ar;have NJ:ó 6 _:=hr.mono ar;refine⟨_,cn (ax (cL A1 NJ cF (ac (pv 2) (ac (bc (pv 1) Mr.Ï Ğ ag) au))))
  (cn (ax (aQ (pv 0) M1 LD cF (ac (pv 1) (ac (pv 2) au))))
  (bp (cZ (aQ (pv 0) M2 hr ag (ac (pv 1) (ac (pv 2) au)))))),?_⟩
 have lx:=oc.1;have ot:oR K H xs (os.map λ _=>true):=by
  refine⟨by rw [Ã];exact lx,λ i x hx=>?_⟩
  have li:i<os.length:=by rw [<- lx];exact(Æ.mp hx).1
  obtain⟨b,rfl,hb⟩:=oc.2 i x _ hx (Á li);have z:=bd os[i] (ü li);refine⟨true,by rw [Ì,Á li];rfl,.inl ⟨.tuple [.int os[i].1,.bool os[i].2],.tup hb (.cons (.int _) (.cons (.bl _) .nil)),?_⟩⟩
  show true=((decide ((-99:Int)<=os[i].1)&&decide (os[i].1<=99))&&true);rw [Ê z.1,Ê z.2];rfl
 refine⟨_,rfl,bO (t:=t) ao ru (λ R r=>⟨_,rfl,r⟩) ⟨r,t,rfl,ru,?_⟩⟩;refine⟨.ref a,t.Ï,rfl,.inr ⟨a,xs,_,rfl,ha,ot,λ _ H1 x1=>?_,λ i fi=>?_⟩⟩
 ·rw [â (by rw [fk,lx])]
  show bD (iq MC) "need_fit" (gs C MC CU CN) _ (aj 0) (av (aj 1) (av (aj 2) aJ)) [some v,some r,some (.ref a)] H1 _;refine dB ao hk (me.ext x1) (λ R r=>⟨_,rfl,r⟩) ⟨_,rfl,_,rfl,k,v,r,t,a,xs,os,hk,rfl,rfl,ru.ext x1,l1,l2,x1 _ _ ha,?_,λ al H2 x2=>?_,λ i fi H2 x2=>q2 i fi H2 (x1.trans x2)⟩
  ·refine⟨lx,λ i y o h1 h2=>?_⟩;obtain⟨p,e,hp⟩:=oc.2 i y o h1 h2;exact⟨p,e,x1 _ _ hp⟩
  ·have ŋ:=x1.trans x2;have go:Go H k a os:=⟨⟨xs,ha,oc⟩,bd,lo,λ e=>ev e (by subst e;exact al)⟩
   show bD (iq MC) "scored" (k9 MC) _ (aj 0) (av (aj 1) (av (aj 2) aJ)) [some v,some r,some (.ref a)] H2 _;refine dB ao hk (me.ext ŋ) (λ R r=>⟨_,rfl,r⟩) ⟨_,rfl,_,rfl,k,v,r,a,os,hk,rfl,rfl,me.ext ŋ,go.ext ŋ,λ l H3 x3 nl hl=>?_⟩;refine q1 al l H3 (ŋ.trans x3) ?_ hl;cases e:H l with
   | none=>rfl
   | some o=>rw [ŋ _ _ e] at nl;cases nl
 ·exfalso;have z:=fi.2;rw [Ì] at z;obtain⟨_,_,z⟩:=Ó.mp z;cases z
end
end My
namespace My
open PySem L2
structure pi (X:Cx)(sc:Scope)(cl:List (Str × Addr))(x:Str)(ts zs:List Str)(js:List Nat):Prop where
 δ:closureFor sc X.env=pure cl
 kind:sc.kind=.function
 cells:∀ C:Nat,cellsFrom C sc.names cl=(x,C)::cl
 names:∀ y∈sc.names,y.2=.local->sc.names.lookup y.1=some .local
 X2:x∈ts
 sub:∀ z c,cl.lookup z=some c->X.env.cells.lookup z=some c
 has:∀ z,((relabel sc X.env).names.lookup z=some .cell\/(relabel sc X.env).names.lookup z=some .free)->z=x\/∃ c,cl.lookup z=some c
 nd:(ts++zs).Nodup
 cap:∀(k:Nat)(z:Str),zs[k]?=some z->∃ j:Nat,js[k]?=some j/\X.N[j]?=some z/\wv X.env.scope z/\X.env.kindOf z≠some .local /\
  ((relabel sc X.env).names.lookup z=some .cell\/(relabel sc X.env).names.lookup z=some .free)
 len:js.length=zs.length
def fm (X:Cx)(sc:Scope)(cl:List (Str × Addr))(x:Str)(N:List Str)(s:Shared)(H:Hp)(C:Addr)(fp:List Addr):Cx where
 prog:=X.prog
 w:=X.w
 K:=X.K
 mg:=X.mg
 base:=X.base
 A:=X.A
 N:=N
 ŉ:=s
 Lw:=H
 env:=compEnvC sc ((x,C+1)::cl) C X.env
 outer:=X.stack
 stack:=X.stack
 ex:=fp
 fn:=λ y=>y==x
 calm:=X.calm
 pn:=[]
 xe:=λ _ _=>False
theorem fj {z x:Str}(h:List.lookup z ((x,d)::cl)=some c):(z=x/\c=d)\/(z≠x/\cl.lookup z=some c):=by
 rw [é] at h;cases e:z==x with
 | true=>rw [e] at h;exact .inl ⟨Ā.mp e,(Ý h).symm⟩
 | false=>rw [e] at h;exact .inr ⟨ã.mp e,h⟩
theorem jX {z x:Str}(n:z≠x)(h:cl.lookup z=some c):List.lookup z ((x,d)::cl)=some c:=by
 rw [é,ã.mpr n];exact h
theorem ig {x:Str}:List.lookup x ((x,d)::cl)=some d:=by
 rw [é,Ť]
theorem qt
  (hQ:∀ h',h'.Ns s.heap.objs.size (λ _=>none)->(∀ b o,s.heap.get? b=some o->h'.get? b=some o)->(∀ n c,(n,c)∈cellsFrom (s.heap.objs.size+1) scope.names []->h'.IsCell c none) ->
   Q { scope:=scope,locals:=s.heap.objs.size,globals:=globals,cells:=cellsFrom (s.heap.objs.size+1) scope.names cl,qual:=qual,func:=none,code:=outer.code,frame:=outer.frame,builtins:=outer.builtins } { s with heap:=h' }) :
  wpAny M A (newFunctionEnv scope globals cl [] qual none .none (some outer)) Q E s:=by
 simp only [newFunctionEnv,Option.isSome_some,if_true];refine À (wpAny_alloc ?_);refine À (wpAny_layCells _ (λ name kind cells=>by cases Yz:kind == .cell <;> simp [Yz]) _ _ _ _ ?_)
 have ok:=cellsFrom_ok scope.names (s.heap.push { cls:=.type "dict",data:=.dict #[] }) (s.heap.objs.size+1) [] ⟨λ _ _ hm=>(nomatch hm),List.Pairwise.nil⟩ (by rw [ñ];exact Ç _)
 rw [ñ] at ok;rw [show({ s with heap:=s.heap.push { cls:=.type "dict",data:=.dict #[] } }:Shared).heap.objs.size=s.heap.objs.size+1 from ñ ..]
 refine À ?_;rw [List.forIn_nil];exact È (È (hQ _ ((Heap.Ns.new s.heap (.type "dict")).keeps (pushCells_keeps _ _)) (λ b o e=>pushCells_keeps _ _ b o (Â _ e)) λ n c hm=>(ok.empty n c hm).1))
theorem cY:∀(names:List (Str × NameKind))(n:Nat)(acc:List (Str × Addr)),cellsFrom n names acc=cellsFrom n names []++acc
 | [],_,_=>rfl
 | (name,kind)::r,n,acc=>by
  unfold cellsFrom;split
  ·rw [cY r (n+1) ((name,n)::acc),cY r (n+1) [(name,n)],J'];rfl
  ·exact cY r n acc
section
variable {X:Cx}{Ä:List (Addr × Obj)}{σ:St}{H:Hp}{s:Shared}{sc:Scope}{cl:List (Str × Addr)}{x:Str}{ts zs:List Str}{js:List Nat}{C:Addr}{fp:List Addr}
theorem qY (I:Inv X Ä σ H s)(S:pi X sc cl x ts zs js)(hf:∀ b∈fp,cT X Ä H b/\b<s.heap.objs.size)(hC:s.heap.objs.size<=C):(fm X sc cl x (ts++zs) s H C fp).Ok:=by
 have nc:∀ z,X.env.cells.lookup z≠some (C+1):=λ z e=>by
  obtain⟨v,hv⟩:=I.cell z _ e;exact absurd hv.lt (œ.mpr (Ξ hC))
 refine⟨I.ok.mod,S.kind,I.ok.glob,I.ok.blt,hC,λ y z c h1 h2=>?_,λ z h=>?_,λ z c hx h=>?_,I.ok.hd,I.ok.frames,.inl rfl,λ b hb=>?_,I.bs,?_,λ b o e hb=>?_,λ b hb hs=>?_,I.stack,I.j'⟩
 ·rcases fj h1 with⟨e1,e2⟩ | ⟨e1,e2⟩ <;> rcases fj h2 with⟨e3,e4⟩ | ⟨e3,e4⟩
  ·exact e1.trans e3.symm
  ·exact absurd (S.sub _ _ e4) (by rw [e2];exact nc z)
  ·exact absurd (S.sub _ _ e2) (by rw [e4];exact nc y)
  ·exact I.ok.inj y z c (S.sub _ _ e2) (S.sub _ _ e4)
 ·by_cases e:z=x
  ·subst e;exact⟨C+1,ig⟩
  ·rcases S.has z h with q | ⟨c,q⟩
   ·exact absurd q e
   ·exact⟨c,jX e q⟩
 ·have ez:=Ā.mp hx;subst ez;rcases fj h with⟨_,e2⟩ | ⟨e1,_⟩
  ·rw [e2];exact Ξ hC
  ·exact absurd rfl e1
 ·obtain⟨⟨_,h1,_,_,h4,_⟩,h6⟩:=hf b hb;refine⟨λ e=>absurd h6 (œ.mpr (by rw [show b=C from e];exact hC)),λ z c e=>?_⟩
  rcases fj e with⟨_,e2⟩ | ⟨_,e2⟩
  ·intro q;rw [<- q,e2] at h6;exact absurd h6 (œ.mpr (Ξ hC))
  ·exact h4 z c (S.sub _ _ e2)
 ·exact ð I.ok.Mz I.sz
 ·obtain⟨⟨_,_,_,h3,_⟩,_⟩:=hf b hb;rcases h3 with h | h
  ·exact I.ok.Ld b o e h
  ·exact absurd (Å e) (œ.mpr (ð I.ok.Mz h))
 ·obtain⟨⟨_,h1,h2,_⟩,_⟩:=hf b hb;rcases á.mp (I.Ŧ b hs) with e | e
  ·exact h1 e
  ·exact h2 e
theorem lI (I:Inv X Ä σ H s)(S:pi X sc cl x ts zs js)(hf:∀ b∈fp,cT X Ä H b/\b<s.heap.objs.size)(hC:s.heap.objs.size<=C)(ho:s1.os=s.os)(hg:s1.gens=s.gens)
  (hk:∀ b o,s.heap.get? b=some o->s1.heap.get? b=some o)(hn:s1.heap.Ns C m)(u_:s1.heap.IsCell (C+1) none):Inv (fm X sc cl x (ts++zs) s H C fp) [] (List.replicate ts.length none++cz js σ) H s1:=by
 refine⟨qY I S hf hC,ho,by rw [hg];exact I.bare,Un.kept hk,⟨m,hn,λ i y v h1 h2 h3=>?_⟩,λ z c e=>?_,I.Đ.fresh hC,λ z c e=>?_,λ p hp=>absurd (show p∈([]:List (Addr × Obj)) from hp) (by simp),I.Đ.kept hk,?_⟩
 ·rcases ī i ts.length with lt | ge
  ·rw [ò (by rw [Ù];exact lt),Χ,â lt] at h2
   cases h2
  ·have h1':zs[i-ts.length]?=some y:=by
    have Mq:(ts++zs)[i]?=some y:=h1;rw [å ge] at Mq;exact Mq
   obtain⟨j,hj,hN,hv,nl,k'⟩:=S.cap _ y h1';have Ou:(cz js σ)[i-ts.length]?=some (some v):=by
    rw [å (by rw [Ù];exact ge),Ù] at h2
    exact h2
   have h5:σ[j]?=some (some v):=by
    unfold cz at Ou;rw [Ì,hj] at Ou;have h6:(σ[j]?).join=some v:=Ý Ou;cases e:σ[j]? with
    | none=>rw [e] at h6;cases h6
    | some o=>rw [e] at h6;exact Ĕ some h6
   obtain⟨m0,Yo,hl⟩:=I.loc;obtain⟨u,ru,lk⟩:=hl j y v hN h5 hv;refine⟨u,ru,?_⟩;rcases lk with⟨k1,_⟩ | ⟨_,c,ec,hc⟩
   ·exact absurd k1 nl
   ·have yx:y≠x:=λ e=>by
     subst e;have hz:=Ú h1';exact(List.nodup_append.mp S.nd).2.2 y S.X2 y hz rfl
    rcases S.has y k' with q | ⟨c',Qq⟩
    ·exact absurd q yx
    have e2:=S.sub _ _ Qq;rw [ec] at e2;cases e2;exact .inr ⟨k',c,jX yx Qq,hc.keeps hk⟩
 ·rcases fj e with⟨_,e2⟩ | ⟨_,e2⟩
  ·rw [e2];exact⟨none,u_⟩
  ·obtain⟨v,hv⟩:=I.cell z c (S.sub _ _ e2);exact⟨v,hv.keeps hk⟩
 ·rcases fj e with⟨_,e2⟩ | ⟨_,e2⟩
  ·rw [e2];exact I.Đ.fresh (Ξ hC)
  ·exact I.Ζ z c (S.sub _ _ e2)
 ·show(List.replicate ts.length none++cz js σ:St).length=(ts++zs).length;unfold cz;rw [É,É,Ã,Ù,S.len]
theorem p8 (I:Inv X Ä σ H s)(hf:∀ b∈fp,cT X Ä H b/\b<s.heap.objs.size)(hC:s.heap.objs.size<=C)(J:Inv (fm X sc cl x (ts++zs) s H C fp) [] ĥ H' s1)
  (hs:Heap.SameBut C s1.heap h'):Inv X Ä σ H' { s1 with heap:=h' }:=by
 have old:∀ b o,s1.heap.get? b=some o->b≠C->h'.get? b=some o:=λ b o e n=>(hs.2 b n).trans e;have lt:∀{b o},s.heap.get? b=some o->b≠C:=λ {b o} e z=>by
  have q:=Å e;rw [z] at q;exact absurd q (œ.mpr hC)
 have B:=J.base;refine I.Mx J.os ⟨λ b o e n hb hx=>old b o (B.keep b o e n hb hx) (lt e),λ b o e n hb hx=>?_,B.free,λ b o e hx=>?_,B.H_,B.w_,B.I_,B.sys⟩ (λ b o e=>?_) J.bare λ b hb=>?_
 ·obtain⟨sl,q⟩:=B.slot b o e n hb hx;exact⟨sl,old _ _ q (lt e)⟩
 ·obtain⟨o',q⟩:=B.there b o e hx;exact⟨o',old _ _ q (lt e)⟩
 ·have nC:∀ c u,H' c=some u->c≠C:=λ c u q z=>by
   have f:H' C=none:=J.free;rw [z,f] at q;cases q
  refine(J.Đ b o e).d_ (λ c v hc q=>old c v q ?_) (λ _ q=>q) λ _ _ q=>q;rcases hc with rfl | hc
  ·exact nC _ _ e
  ·exact nC _ _ hc
 ·obtain⟨⟨_,h1,_,h3,h4,h5⟩,_⟩:=hf b hb;exact⟨h3,h1,h4,h5⟩
end
section
variable {X:Cx}{sc:Scope}{cl:List (Str × Addr)}{x:Str}{ts zs:List Str}{js:List Nat}{elt iter:Expr}{ø:Pos}{tg:Expr}{g:TG}{wi:TI}{te:TE}
theorem xJ (hc:X.calm=true)(S:pi X sc cl x ts zs js)(hi:PI X tg iter wi)(hg:∀ s H C fp,PG (fm X sc cl x (ts++zs) s H C fp) tg g)(he:∀ s H C fp,PE (fm X sc cl x (ts++zs) s H C fp) elt te)
  (hs:∀ v,foldedSetIterable iter X.env v=pure v:=by intro _;rfl):PE X (.ListComp elt [⟨tg,iter,[],0⟩] sc ø) (cD wi ts.length js g te):=by
 intro Ä s σ H Q I h;rw [eval_ListComp];refine Ĺ (use:=none) rfl hs S.δ S.kind S.names (aV (hi Ä s σ H _ I h) λ v s1 h1=>aV h1 λ Oc s2 h2=>?_);obtain⟨it,fp,tn,J,H2,e,I2,T,Js,f2,body⟩:=h2;subst e;have Nh:H2 s2.heap.objs.size=none:=I2.fresh;obtain⟨W,⟨m0,w0⟩,turn⟩:=body _ Nh;refine Č ?_;have I3:Inv X Ä σ (af H2 s2.heap.objs.size (.lst [])) { s2 with heap:=s2.heap.push { cls:=.type "list",data:=.seq ([]:List Value).toArray } }:=I2.Lg (t':=s2.toks) (ys:=[]) (its:=[]) .nil (ģ _)
 refine qt (λ Ŏ hn NK u_=>?_);rw [S.cells];generalize JV:({ s2 with heap:=s2.heap.push { cls:=.type "list",data:=.seq ([]:List Value).toArray } }:Shared)=s3 at I3 hn NK u_ ⊢
 have k_:∀ b∈fp,cT X Ä (af H2 s2.heap.objs.size (.lst [])) b/\b<s3.heap.objs.size:=λ b hb=>by
  obtain⟨o,ho,_⟩:=T.obj _ _ Js b hb;have hl:=Å ho;have Na:b≠s2.heap.objs.size:=Ð hl;obtain⟨z1,z2⟩:=f2 b hb;refine⟨⟨by rw [ah Na];exact z1,z2⟩,?_⟩
  rw [<- JV];show b<(s2.heap.push _).objs.size;rw [ñ];exact Ć hl
 have old:∀ b o,s3.heap.get? b=some o->Ŏ.get? b=some o:=NK;have On:Ŏ.IsCell (s3.heap.objs.size+1) none:=by
  refine u_ x _ ?_;have q:=S.cells (s3.heap.objs.size+1);rw [cY] at q;have q2:cellsFrom (s3.heap.objs.size+1) sc.names []=[(x,s3.heap.objs.size+1)]:=List.append_cancel_right (bs:=cl) q;rw [q2];exact ä.mpr rfl
 have loop:∀ sS:Shared,sS.heap = Ŏ->sS.os=s3.os->sS.gens=s3.gens->codeAny (model X.prog X.w) X.A (.compLoop (.ListComp elt [⟨tg,iter,[],0⟩] sc ø) 0 (.ref it) (.ref s2.heap.objs.size) (compEnvC sc ((x,s3.heap.objs.size+1)::cl) s3.heap.objs.size X.env))
   (compPost (model X.prog X.w) X.A X.xe none (EP X Ä σ Q) (.ref s2.heap.objs.size) s3.heap.objs.size) sS:=by
  intro sS eh eo eg;subst eh;have J0:=lI I3 S k_ (Ç _) eo eg old hn On;generalize hX:fm X sc cl x (ts++zs) s3 (af H2 s2.heap.objs.size (.lst [])) s3.heap.objs.size fp=X' at J0;have Ŗ:∀{H':Hp},(∀ b∈fp,H' b=none)->∀ b∈fp,cT X' [] H' b:=λ {H'} hn b hb=>by
   subst hX;obtain⟨⟨_,z1,z2,z3,z4,z5⟩,z6⟩:=k_ b hb;refine⟨hn b hb,Ð z6,λ q=>?_,.inl hb,λ y c e=>?_,λ p hp=>absurd (show p∈([]:List (Addr × Obj)) from hp) (by simp)⟩
   ·rcases á.mp (I3.Ŧ b q) with e | e
    ·exact z1 e
    ·exact z2 e
   ·rcases fj e with⟨_,e2⟩ | ⟨_,e2⟩
    ·intro q;rw [<- q,e2] at z6;exact absurd z6 (œ.mpr (ŭ _))
    ·exact z4 y c (S.sub _ _ e2)
  have Lz:=T.keep _ _ _ Js λ b hb o e=>old b o (by rw [<- JV];exact Â _ e)
  refine gU (λ n s'=>∃ i ys os H',os.length=ts.length/\Inv X' [] (os++cz js σ) H' s'/\tn i s'.heap/\(∀ b∈fp,H' b=none)/\W i n ys H') ?_ m0 ⟨0,[],_,_,Ù,J0,Lz,λ b hb=>(k_ b hb).1.1,w0⟩;rintro n s' ⟨i,ys,os,H',į,Iv,st,fr,w⟩;obtain⟨hD,alt⟩:=turn i n ys H' w;have eP:X'.prog=X.prog:=by subst hX;rfl
  have eW:X'.w=X.w:=by subst hX;rfl
  have eK:X'.K=X.K:=by subst hX;rfl
  have eC:X'.calm=true:=by subst hX;exact hc
  have eA:X'.A=X.A:=by subst hX;rfl
  have eE:X'.env=compEnvC sc ((x,s3.heap.objs.size+1)::cl) s3.heap.objs.size X.env:=by subst hX;rfl
  have eX:X'.xe = λ _ _=>False:=by subst hX;rfl
  rcases alt with⟨stop,q⟩ | ⟨go,İ,step⟩
  ·have d:=T.done X' eP eW eK eC i [] s' _ H' (λ _ _=>False) Iv (Ŗ fr) st stop;rw [eA] at d;refine aV d λ r s4 ⟨hr,I4⟩=>?_;subst hr;obtain⟨m,hm,_⟩:=id I4.loc;rw [eE] at hm;subst hX;exact⟨m,hm,λ h' Mg=>⟨.ref s2.heap.objs.size,H',p8 I3 k_ (Ç _) I4 Mg,rfl,q⟩⟩
  ·have d:=T.item X' eP eW eK eC i [] s' _ H' (λ _ _=>False) Iv (Ŗ fr) st go;rw [eA] at d;refine aV d λ r s4 ⟨u,hr,h4⟩=>?_;subst hr;refine aV h4 λ _ s5 ⟨y,H5,I5,r5,y5,e_,Mu⟩=>?_;have ME:=I5.pinned (Ŗ Mu) (T.obj _ _ e_);have Nc:PG X' tg g:=by subst hX;exact hg _ _ _ _
   have g6:=Nc _ s5 _ H5 y u _ ME r5 (step y H5 y5 os į);rw [eP,eW,eA,eE,eX] at g6;refine aV g6 λ _ s6 ⟨OH,H6,I6,⟨ł,Jx,e6⟩,M3⟩=>?_;subst e6;have Ol:PE X' elt te:=by subst hX;exact he _ _ _ _
   have g7:=Ol _ s6 _ H6 _ I6 M3;rw [eP,eW,eA,eE,eX] at g7;refine aV g7 λ uv s7 ⟨v7,H7,I7,r7,Op,m',Lo,w7⟩=>?_;have g8:=(dz) _ s7 _ H7 (.ref s2.heap.objs.size) [v7] (.ref s2.heap.objs.size) [uv] (λ _ H8=>H8=af H7 s2.heap.objs.size (.lst (ys ++ [v7]))) I7 rfl (.cons r7 .nil) ⟨_,ys,v7,rfl,rfl,Op,İ,rfl⟩;rw [eP,eW,eA,eX] at g8;refine aV g8 λ _ s8 ⟨_,H8,I8,_,e8⟩=>?_;subst e8;refine⟨m',Lo,i+1,ys ++ [v7],ł,_,Jx,I8.ņ,T.keep _ _ _ e_ λ b hb o e=>(I8.pin (b,o) (Ë _ (Ë _ (ba hb e)))).1,λ b hb=>?_,w7⟩;obtain⟨o',e',_⟩:=T.obj _ _ e_ b hb;exact(I8.pin (b,o') (Ë _ (Ë _ (ba hb e')))).2.1
 have KP:=T.keep _ _ _ Js λ b hb o e=>old b o (by rw [<- JV];exact Â _ e)
 exact Ŭ (loop _ rfl rfl rfl) (T.self _ 0 _ _ _ KP (loop _ rfl rfl rfl))
end
end My
namespace My
open PySem PySem.W L2
section
variable {P:Program}{w:World}{K:Frag}{mg:bL}{base:Heap}{C:Nat->Addr}{CO CR f a1:Addr}{fd d1:FuncData}
abbrev lM:Stmt:=az (bZ 61) 1
theorem E3:ad ["self","outcomes"] ["self","outcomes"] (aa lM):=aK
abbrev rR:Scope:=cC [("one",.cell),("sum",.globalImplicit),("outcomes",.free)]
abbrev D8:Scope:=cC [("other",.local),("stands_to",.globalImplicit),("one",.free)]
theorem Dy:((["one"]:List Str)++(["outcomes"]:List Str)).Nodup:=ao
theorem Cv:((["other"]:List Str)++(["one"]:List Str)).Nodup:=ao
def wH (K:Frag):Sp:=λ vs H Q _=>∃ v a xs os,vs=[v,.ref a]/\H a=some (.lst xs)/\ζ H xs os/\(∀ o∈os,-99<=o.1/\o.1<=99)/\os.length<=20/\gu H (kj os) Q
def Gv (K:Frag)(CO:Addr):TE:=cD (bn K (aj 1)) 1 [0] (aX 0) (eu (nW K CO) [] E0 (av (aj 1) (av (aj 0) aJ)))
def HG (K:Frag)(CO:Addr):TE:=jg (rW K) (av (Gv K CO) aJ)
section
variable {cdv:Value}{A:Around}{outer:List Env}{s:Shared}{H:Hp}{E:XK}
theorem vm:pi (aP ay P w K mg base ["self","outcomes"] "Wins.among" (aa lM) f cdv A outer s H E).ŀ rR [("outcomes",s.heap.objs.size+1)] "one" ["one"] ["outcomes"] [1]:=by
 refine⟨rfl,rfl,λ C=>rfl,ao,ä.mpr rfl,λ z c h=>?_,λ z h=>?_,ao,λ k z h=>?_,rfl⟩
 ·obtain⟨rfl,rfl⟩:=mN h;rfl
 ·have h:=h;have all:∀ y ∈ [((".0" : Str),NameKind.local),(("one" : Str),.cell),(("sum" : Str),.globalImplicit),(("outcomes" : Str),.cell)],(y.2=.cell\/y.2=.free)->y.1 = "one" \/ y.1 = "outcomes" := ao;have e:z = "one" \/ z = "outcomes" := by
   rcases h with h | h
   ·exact all _ (ç h) (.inl rfl)
   ·exact all _ (ç h) (.inr rfl)
  rcases e with rfl | rfl
  ·exact .inl rfl
  ·exact .inr ⟨_,ig⟩
 ·match k,h with
  | 0,h =>
   have h:=h;cases h;exact⟨1,rfl,rfl,.inr (.inl rfl),by show(aa lM).names.lookup ("outcomes" : Str)≠some .local;decide +kernel,.inl rfl⟩
  | k+1,h=>simp at h
theorem uW (hk:X.env.scope.kind=.function):aT (fm X rR cl "one" ((["one"]:List Str)++(["outcomes"]:List Str)) s H C1 fp) D8 [("one",C1+1)] ["other"] ["one"] [0] :=
 nM (L:=[(".0",.local),("other",.local),("stands_to",.globalImplicit),("one",.cell)]) rfl rfl ao ao ao ig rfl ao ao rfl (.inr (.inl rfl))
  (by show(relabel rR X.env).names.lookup ("one" : Str)≠some .local;exact λ h=>nomatch (show some NameKind.cell=some .local from h)) (.inl rfl)
theorem z9 (A1:Df P w K mg base (cy P w) 5 "stands_to" ["one","other"] (nW K CO) a1 d1)(ms:mg "sum" = none)(hr:oQ 5 "Wins.among" lM A s f cdv):Bx (ż (aP ay P w K mg base ["self","outcomes"] "Wins.among" (aa lM) f cdv A outer s H E).ŀ (aF lM) (cH (cD (bn K (aj 1)) 1 [1] (aX 0) (HG K CO)))) :=
 bt ⟨cZ (xJ rfl vm (aG (pv 1)) (λ s H C fp=>cA Dy rfl (.inr rfl)) (λ s H C fp=>by
  exact aq (fQ rfl) rfl ms š (ac (bH rfl (uW rfl) (aG (pv 1)) (λ s H C fp=>cA Cv rfl (.inl rfl)) (λ s H C fp=>by
   exact cL A1 hr cw (ac (pv 1) (ac (pv 0) au)))) au)))⟩
end
theorem zD (F:Ģ K "among" "Wins.among" lM f fd)(A1:Df P w K mg base (cy P w) 5 "stands_to" ["one","other"] (nW K CO) a1 d1)(ms:mg "sum" = none):Þ P w K mg base ay 6 f fd ["self","outcomes"] (wH K):=by
 refine bR F E3 λ cdv A outer s H vs Q E hr h=>?_;obtain⟨v,a,xs,os,rfl,ha,oc,bd,lo,q⟩:=h;obtain⟨Mv⟩:=z9 A1 ms hr (f:=f) (cdv:=cdv) (A:=A) (outer:=outer) (s:=s) (H:=H) (E:=E) (P:=P) (w:=w) (base:=base);refine⟨_,Mv,?_⟩;obtain⟨lx,oc⟩:=oc;have sz:=Ô;have ot:∀{H':Hp}{i:Nat}{b:Addr},Ext H H'->(hi:i<os.length)->H' b=some (.tup [.int os[i].1,.bl os[i].2])->Ot K H' (.ref b) true:=λ {H' i b} x' hi hb=>by
  have:=bd os[i] (ü hi);refine .inl ⟨.tuple [.int os[i].1,.bool os[i].2],.tup hb (.cons (.int _) (.cons (.bl _) .nil)),?_⟩;show true=((decide ((-99:Int)<=os[i].1)&&decide (os[i].1<=99))&&true);rw [Ê this.1,Ê this.2];rfl
 refine⟨_,rfl,a,rfl,⟨_,î.of ha⟩,λ D hD=>?_⟩;refine bz (λ i ys H'=>Ext H H'/\ys=((kj os).take i).map .int) ak ⟨.new hD,rfl⟩ (λ i ys H' pv=>î.of (pv.1 _ _ ha)) ?_ ?_
 ·rintro i x ys H' ex ly ĉ ⟨x',ey⟩ JE į R k;obtain⟨o0,rfl⟩:∃ o0,JE=[o0]:=by
   match JE,į with
   | [o0],_=>exact⟨o0,rfl⟩
  have li:i<os.length:=by rw [<- lx];exact(Æ.mp ex).1
  obtain⟨b,rfl,hb⟩:=oc i x _ ex (Á li);refine⟨⟨[some (.ref b)],rfl,rfl⟩,?_⟩;refine⟨_,rfl,a,rfl,⟨_,î.of (x' _ _ ha)⟩,λ D2 Ű=>?_⟩;have nD:D2≠D:=λ e=>by rw [e,ĉ] at Ű;cases Ű
  refine bz (λ j zs H2=>Ext H' H2/\zs=((os.map λ p=>tX os[i] p).take j).map .int) ak ⟨.new Ű,rfl⟩ (λ j zs H2 pv=>î.of (pv.1 _ _ (x' _ _ ha))) ?_ ?_
  ·rintro j y zs H2 UC lz v_ ⟨x2,ez⟩ PJ Sj R2 k2;obtain⟨o0,rfl⟩:∃ o0,PJ=[o0]:=by
    match PJ,Sj with
    | [o0],_=>exact⟨o0,rfl⟩
   have lj:j<os.length:=by rw [<- lx];exact(Æ.mp UC).1
   obtain⟨b2,rfl,LG⟩:=oc j y _ UC (Á lj);have ŋ:=x'.trans x2;refine⟨⟨[some (.ref b2)],rfl,rfl⟩,_,rfl,_,rfl,.ref b,.ref b2,true,true,rfl,ot ŋ li (ŋ _ _ hb),ot ŋ lj (ŋ _ _ LG),(λ z=>by cases z),(λ _ z=>by cases z),λ a1 a2 n1 n2 s1 s2 q1 q2 t1 t2 _ _=>?_⟩
   cases q1;cases q2;rw [ŋ _ _ hb] at t1;rw [ŋ _ _ LG] at t2;cases t1;cases t2;refine k2 _ H2 v_ ⟨aN _ x2 Ű,?_⟩;have es:(os.map λ p=>tX os[i] p)[j]?=some (tX os[i] os[j]):=by
    rw [Ì,Á lj];rfl
   rw [aE es,Î,<- ez];rfl
  ·rintro zs H2 lz v_ ⟨x2,ez⟩;have l2:(os.map λ p=>tX os[i] p).length=xs.length:=by rw [Ã,lx]
   rw [<- l2,Õ] at ez;rw [ez] at v_;refine⟨D2,_,rfl,î.of v_,?_⟩;refine k _ H2 (x2 _ _ ĉ) ⟨aN _ (x'.trans x2) hD,?_⟩;have es:(kj os)[i]?=some ((os.map λ p=>tX os[i] p).sum):=by
    unfold kj;rw [Ì,Á li];rfl
   rw [aE es,Î,<- ey];rfl
 ·rintro ys H' ly ĉ ⟨x',ey⟩;have l2:(kj os).length=xs.length:=by unfold kj;rw [Ã,lx]
  rw [<- l2,Õ] at ey;rw [ey] at ĉ;exact q D H' x' hD ĉ
end
section
variable {P:Program}{w:World}{K:Frag}{mg:bL}{base:Heap}
abbrev fA:Stmt:=bZ 67
abbrev tP (i:Nat):Stmt:=(aF fA).getD i (.Pass ⟨0,0,0,0⟩)
def cV (K:Frag):Sp:=λ vs H Q _=>∃(s:Addr)(ns:List Int)(p:Addr)(m:Int),vs=[.ref s,.ref p,.int m]/\î K H s (ns.map V.int)/\ns.length<=63/\s≠p/\ĸ H p/\0<m/\m<1073741824/\∀(r:Int)(H':Hp),0<=r->r<m->ĸ H' p->Kept H H' p->(∀ b,H b=none->H' b=none)->Q (.int r) H'
abbrev yn:List Str:=["_law_script","_law_pen","_law_many","_law_cell","_law_found","_law_number"]
theorem QW:ad yn ["_law_script","_law_pen","_law_many"] (aa fA):=aK
theorem io (o:HO):Kept H (af H p o) p:=λ b u h n=>by rw [ah n];exact h
theorem il (h:H p=some u):∀ b,H b=none->af H p o b=none:=λ b hb=>by
 rw [ah (λ e=>by subst e;rw [h] at hb;cases hb)];exact hb
def j5 (K:Frag)(i:Int):TE:=aS (dP K) (aj 1) (tC (.int i))
def md (i:Int)(te:TE):TS:=cG te (qV (aj 1) (tC (.int i)) jE)
def B8 (K:Frag):TE:=jg (λ xs H Q=>∃ i j,xs=[.int i,.int j]/\Q (.int (if j<i then j else i)) H) (av (jg (λ xs H Q=>∃ p ys,xs=[.ref p]/\(î K H p ys\/ĝ K H p ys)/\Q (.int ys.length) H) (av (aj 0) aJ)) (av (tC (.int 63)) aJ))
def Jk (K:Frag):TS:=aY (cG (aS (dP K) (aj 0) (j5 K 0)) (aX 3)) (aY (wg (aj 1) (tC (.int 0)) (tC (.int 1)) (wC K) (Iu λ i j=>i+j) jE)
 (aY (md 2 (aS (rI (λ _ j=>0<j) λ i j=>.int (i%j)) (aS (dH λ i j=>.int (i+j)) (aS (dH λ i j=>.int (i+j)) (aS (rI ų λ i j=>.int (i*j)) (j5 K 2) (tC (.int 48271))) (aS (rI (λ _ j=>0<j) λ i j=>.int (i%j)) (aj 3) (tC (.int 2147483629)))) (j5 K 0)) (tC (.int 2147483647))))
 (eI (tB (aS (dH λ i j=>.bl (decide (j<=i))) (aj 3) (aS (rI EK λ i j=>.int (i^j.toNat)) (tC (.int 10)) (tC (.int 18))))) (md 1 (aj 3)) cB)))
def yu (K:Frag):TS:=eI (ud (tB (aS uR (j5 K 1) (tC (.int 0)))) (tB (aS (dH λ i j=>.bl (decide (i<j))) (j5 K 0) (B8 K)))) (Jk K) cB
def C8 (K:Frag):TS:=eI (tB (aS (dH λ i j=>.bl (decide (i>j))) (j5 K 1) (tC (.int 0)))) (aY (cG (aS (rI (λ _ j=>0<j) λ i j=>.int (i%j)) (j5 K 1) (aj 2)) (aX 4)) (aY (md 1 (aS (rI kY λ i j=>.int (i/j)) (j5 K 1) (aj 2))) (cH (aj 4)))) cB
def B3 (K:Frag):TS:=md 2 (aS (rI (λ _ j=>0<j) λ i j=>.int (i%j)) (aS (dH λ i j=>.int (i+j)) (aS (rI ų λ i j=>.int (i*j)) (j5 K 2) (tC (.int 69621))) (tC (.int 1013904223))) (tC (.int 2147483647)))
def E2 (K:Frag):TS:=cG (aS (rI (λ _ j=>0<j) λ i j=>.int (i%j)) (aS (rI ų λ i j=>.int (i*j)) (j5 K 2) (j5 K 2)) (tC (.int 2147483629))) (aX 5)
def zR (K:Frag):TS:=cH (aS (rI (λ _ j=>0<j) λ i j=>.int (i%j)) (aS (rI kY λ i j=>.int (i/j)) (aS (rI (λ _ j=>0<j) λ i j=>.int (i%j)) (aS (rI ų λ i j=>.int (i*j)) (aS (dH λ i j=>.int (i+j)) (aj 5) (aS (rI kY λ i j=>.int (i/j)) (j5 K 2) (tC (.int 16)))) (aS (dH λ i j=>.int (i+j)) (aj 5) (tC (.int 3)))) (tC (.int 2147483587))) (tC (.int 7))) (aj 2))
def DP (K:Frag):TS:=aY (yu K) (aY (C8 K) (aY (B3 K) (aY (E2 K) (zR K))))
variable {f:Addr}{cdv:Value}{A:Around}{outer:List Env}{s:Shared}{H:Hp}{E:XK}
theorem HB (ml:mg "len" = none)(mm:mg "min" = none):Bx (PS (aP ay P w K mg base yn "_law_take" (aa fA) f cdv A outer s H E).ŀ (tP 0) (yu K)):=by
 have nd:=QW.nd;exact iP ⟨PW.pt (mX (aB eD (eL gF (pv 1) aI) aI (aC _)) (jM (aB pD (eL gF (pv 1) aI) (aq (qA rfl) rfl mm PyProof.Rows.boot_min (ac (aq aw rfl ml è (ac (pv 0) au)) (ac aI au))) (aC _))))⟩
  (ae (aM nd rfl (.inl rfl) ⟨eL gF (pv 0) (eL gF (pv 1) aI)⟩) (ae ⟨vg (pv 1) aI rT aI zB cI⟩
  (ae ⟨dX (aA dU (aA bB (aA bB (aA c7 (eL gF (pv 1) aI) aI) (aA dU (pv 3) aI)) (eL gF (pv 1) aI)) aI) (fN (pv 1) aI cI)⟩
  (bt ⟨bC (aB v6 (pv 3) (aA yE aI aI) (aC _)) (bp (dX (pv 3) (fN (pv 1) aI cI))) gj⟩)))) eO
theorem HS:Bx (PS (aP ay P w K mg base yn "_law_take" (aa fA) f cdv A outer s H E).ŀ (tP 1) (C8 K)):=by
 have nd:=QW.nd;exact iP ⟨aB hI (eL gF (pv 1) aI) aI (aC _)⟩ (ae (aM nd rfl (.inl rfl) ⟨aA dU (eL gF (pv 1) aI) (pv 2)⟩)
  (ae ⟨dX (aA fU (eL gF (pv 1) aI) (pv 2)) (fN (pv 1) aI cI)⟩ (bt ⟨cZ (pv 4)⟩))) eO
theorem G2:Bx (PS (aP ay P w K mg base yn "_law_take" (aa fA) f cdv A outer s H E).ŀ (tP 2) (B3 K)) :=
 ⟨dX (aA dU (aA bB (aA c7 (eL gF (pv 1) aI) aI) aI) aI) (fN (pv 1) aI cI)⟩
theorem F9:Bx (PS (aP ay P w K mg base yn "_law_take" (aa fA) f cdv A outer s H E).ŀ (tP 3) (E2 K)) :=
 aM QW.nd rfl (.inl rfl) ⟨aA dU (aA c7 (eL gF (pv 1) aI) (eL gF (pv 1) aI)) aI⟩
theorem HC:Bx (PS (aP ay P w K mg base yn "_law_take" (aa fA) f cdv A outer s H E).ŀ (tP 4) (zR K)) :=
 ⟨cZ (aA dU (aA fU (aA dU (aA c7 (aA bB (pv 5) (aA fU (eL gF (pv 1) aI) aI)) (aA bB (pv 5) aI)) aI) aI) (pv 2))⟩
theorem ya (ml:mg "len" = none)(mm:mg "min" = none):Bx (ż (aP ay P w K mg base yn "_law_take" (aa fA) f cdv A outer s H E).ŀ (aF fA) (DP K)) :=
 ae (HB ml mm) (ae HS (ae G2 (ae F9 (bt HC))))
end
section
variable {P:Program}{w:World}{K:Frag}{mg:bL}{base:Heap}{H:Hp}{D:cP}
theorem ft (k:Nat)(h1:σ[1]?=some (some (.ref p)))(hp:H p=some (.lst xs))(hv:xs[k]?=some v)(q:Q v H):j5 K (k:Nat) σ H Q:=⟨_,h1,p,_,_,_,rfl,rfl,î.of hp,f7 hv,q⟩
theorem AI (h0:0<=c)(h1:c<2147483647)(y:Int):ų c y:=.inl ⟨Int.lt_of_lt_of_le ar h0,Int.lt_trans h1 ar⟩
theorem ie (k:Nat)(h1:σ[1]?=some (some (.ref p)))(hp:H p=some (.lst xs))(hk:k<xs.length)(ht:∀ R:VK,R v H->te σ H R)(nx:D.nx σ (af H p (.lst (xs.set k v)))):md (k:Nat) te D σ H:=by
 refine ht _ ⟨_,h1,p,xs,_,k,rfl,rfl,hp,?_,nx⟩;unfold tW;rw [â ak,â ak,ô]
theorem zk {ns:List Int}(hs:î K H sA (ns.map V.int))(LC:ns.length<=63)(bx:ĸ H p)(nx:∀ o3 H',ĸ H' p->Kept H H' p->(∀ b,H b=none->H' b=none)->D.nx [some (.ref sA),some (.ref p),o2,o3,o4,o5] H') :
  yu K D [some (.ref sA),some (.ref p),o2,o3,o4,o5] H:=by
 obtain⟨a,b,c,hp,a0,b0,c0,c1⟩:=id bx.ex;refine ft 1 rfl hp rfl ⟨rfl,_,rfl,?_⟩;by_cases eb:b=0
 rotate_left
 ·rw [Í (λ z=>eb (V.int.inj z))];exact cM (cM (nx _ H bx (Kept.refl _ _) λ _ h=>h))
 rw [Ê (by rw [eb])]
 refine cU (ft 0 rfl hp rfl ⟨_,rfl,sA,_,rfl,.inl hs,_,_,rfl,_,_,rfl,rfl,_,rfl,?_⟩);refine mh (λ cc=>?_) (λ cc=>nx _ H bx (Kept.refl _ _) λ _ h=>h);have cl:a<ns.length:=by
  have:=ē cc;rw [Ã] at this;split at this <;> omega
 have ha:a.toNat<ns.length:=ak;have ea:a=((a.toNat:Nat):Int):=ak;have Z5:vW (ns.map V.int) a=some (.int ns[a.toNat]):=by
  have e:=f7 (xs:=ns.map V.int) (j:=a.toNat) (v:=.int ns[a.toNat]) (by rw [Ì,Á ha];rfl)
  rwa [<- ea] at e
 refine⟨_,rfl,ft 0 rfl hp rfl ⟨sA,_,_,_,rfl,rfl,hs,Z5,?_⟩⟩;generalize ns[a.toNat]=cell;refine⟨_,rfl,p,_,0,_,rfl,rfl,î.of hp,rfl,a,1,rfl,rfl,p,_,_,0,rfl,rfl,hp,rfl,?_⟩;have f1:af H p (.lst [.int (a+1),.int b,.int c]) p=some (.lst [.int (a+1),.int b,.int c]):=aO;show aY _ _ D _ (af H p (.lst [.int (a+1),.int b,.int c]));refine ie (σ:=[some (.ref sA),some (.ref p),o2,some (.int cell),o4,o5]) (te:=aS (rI (λ _ j=>0<j) λ i j=>.int (i%j)) (aS (dH λ i j=>.int (i+j)) (aS (dH λ i j=>.int (i+j)) (aS (rI ų λ i j=>.int (i*j)) (j5 K 2) (tC (.int 48271))) (aS (rI (λ _ j=>0<j) λ i j=>.int (i%j)) (aj 3) (tC (.int 2147483629)))) (j5 K 0)) (tC (.int 2147483647))) (v:=.int ((c*48271+cell%2147483629+(a+1))%2147483647)) 2 rfl f1 (by show 2<3;decide) (λ R r=>ft 2 rfl f1 rfl ⟨_,_,rfl,rfl,AI c0 c1 _,_,rfl,_,_,rfl,rfl,(by show(0:Int)<2147483629;decide),_,_,rfl,rfl,ft 0 rfl f1 rfl ⟨_,_,rfl,rfl,_,_,rfl,rfl,(by show(0:Int)<2147483647;decide),r⟩⟩) ?_
 rw [fg];have m0:0<=(c*48271+cell%2147483629+(a+1))%2147483647:=ŷ _ ar;have m1:(c*48271+cell%2147483629+(a+1))%2147483647<2147483647:=Ļ _ ar;generalize (c*48271+cell%2147483629+(a+1))%2147483647=c' at m0 m1 ⊢;rw [show([V.int (a+1),.int b,.int c].set 2 (.int c'))=[.int (a+1),.int b,.int c'] from rfl];have f2:af H p (.lst [.int (a+1),.int b,.int c']) p=some (.lst [.int (a+1),.int b,.int c']):=aO;refine⟨_,rfl,10,18,rfl,rfl,⟨ar,ar,ar⟩,_,_,rfl,rfl,_,rfl,?_⟩;refine mh (λ c2=>?_) (λ c2=>?_)
 ·have big:=ē c2;have Z4:(0:Int)<=(10:Int)^(18:Int).toNat:=ar;refine ie 1 rfl f2 (by show 1<3;decide) (λ R r=>⟨_,rfl,r⟩) ?_
  rw [fg];exact nx _ _ ⟨_,_,_,aO,ak,ak,m0,m1⟩ (io _) (il hp)
 ·exact nx _ _ ⟨_,_,_,f2,ak,b0,m0,m1⟩ (io _) (il hp)
theorem vL (F:Ģ K "_law_take" "_law_take" fA f fd)(ml:mg "len" = none)(mm:mg "min" = none):Þ P w K mg base ay 1 f fd ["_law_script","_law_pen","_law_many"] (cV K):=by
 refine bR F QW λ cdv A outer s H vs Q E hr h=>?_;obtain⟨sA,ns,p,m,rfl,hs,LC,ne,Z3,m0,m1,q0⟩:=h;obtain⟨Mv⟩:=ya ml mm (f:=f) (cdv:=cdv) (A:=A) (outer:=outer) (s:=s) (H:=H) (E:=E) (P:=P) (w:=w) (base:=base);refine⟨_,Mv,?_⟩;refine zk (D:=⟨_,Q,_,_⟩) hs LC Z3 λ o3 H1 bx k1 n1=>?_;have q:∀(r:Int)(H':Hp),0<=r->r<m->ĸ H' p->Kept H1 H' p->(∀ b,H1 b=none->H' b=none)->Q (.int r) H':=λ r H' a b c d e=>q0 r H' a b c (k1.trans d) λ b h=>e b (n1 b h);obtain⟨a,b,c,hp,a0,b0,c0,c1⟩:=id bx.ex;refine ft 1 rfl hp rfl ⟨_,_,rfl,rfl,_,rfl,?_⟩;refine mh (λ cc=>?_) (λ cc=>?_)
 ·have b1:0<b:=ē cc;refine aL (te:=aS (rI (λ _ j=>0<j) λ i j=>.int (i%j)) (j5 K 1) (aj 2)) (i:=4) (D:=⟨_,Q,_,_⟩) (ft 1 rfl hp rfl ⟨_,rfl,_,_,rfl,rfl,m0,?_⟩);refine ie (D:=⟨_,Q,_,_⟩) (v:=.int (b/m)) 1 rfl hp (by show 1<3;decide) (λ R r=>ft 1 rfl hp rfl ⟨_,rfl,_,_,rfl,rfl,⟨m0,m1⟩,r⟩) ?_
  exact⟨_,rfl,q _ _ (ŷ _ ak) (Ļ _ m0) ⟨_,_,_,aO,a0,Int.ediv_nonneg b0 ak,c0,c1⟩ (io _) (il hp)⟩
 ·refine ie (σ:=[some (.ref sA),some (.ref p),some (.int m),o3,none,none]) (te:=aS (rI (λ _ j=>0<j) λ i j=>.int (i%j)) (aS (dH λ i j=>.int (i+j)) (aS (rI ų λ i j=>.int (i*j)) (j5 K 2) (tC (.int 69621))) (tC (.int 1013904223))) (tC (.int 2147483647))) (D:=⟨_,Q,_,_⟩) (v:=.int ((c*69621+1013904223)%2147483647)) 2 rfl hp (by show 2<3;decide) (λ R r=>ft 2 rfl hp rfl ⟨_,_,rfl,rfl,AI c0 c1 _,_,_,rfl,rfl,_,_,rfl,rfl,(by show(0:Int)<2147483647;decide),r⟩) ?_
  have e0:0<=(c*69621+1013904223)%2147483647:=ŷ _ ar;have e1:(c*69621+1013904223)%2147483647<2147483647:=Ļ _ ar;generalize (c*69621+1013904223)%2147483647=c' at e0 e1 ⊢;have f2:af H1 p (.lst [.int a,.int b,.int c']) p=some (.lst [.int a,.int b,.int c']):=aO;have Vb:ĸ (af H1 p (.lst [.int a,.int b,.int c'])) p:=⟨_,_,_,f2,a0,b0,e0,e1⟩;have q2:=λ r h0 h1=>q r (af H1 p (.lst [.int a,.int b,.int c'])) h0 h1 Vb (io _) (il hp);show aY _ _ _ _ (af H1 p (.lst [.int a,.int b,.int c']));generalize af H1 p (.lst [.int a,.int b,.int c'])=H2 at f2 Vb q2 ⊢;refine aL (te:=aS (rI (λ _ j=>0<j) λ i j=>.int (i%j)) (aS (rI ų λ i j=>.int (i*j)) (j5 K 2) (j5 K 2)) (tC (.int 2147483629))) (i:=5) (D:=⟨_,Q,_,_⟩) (ft 2 rfl f2 rfl (ft 2 rfl f2 rfl ⟨_,_,rfl,rfl,AI e0 e1 _,_,_,rfl,rfl,(by show(0:Int)<2147483629;decide),?_⟩))
  have n0:0<=c'*c'%2147483629:=ŷ _ ar;have n1:c'*c'%2147483629<2147483629:=Ļ _ ar;show zR K _ [some (.ref sA),some (.ref p),some (.int m),o3,none,some (.int (c'*c'%2147483629))] H2;generalize c'*c'%2147483629=n at n0 n1 ⊢;have g0:0<=c'/16:=Int.ediv_nonneg e0 ar;have g1:c'/16<2147483647:=Int.lt_of_le_of_lt (Int.ediv_le_self _ e0) e1;have cm:ų (n+c'/16) (n+3):=.inl ⟨ak,ak⟩;refine⟨_,rfl,ft 2 rfl f2 rfl ⟨_,_,rfl,rfl,⟨(by show(0:Int)<16;decide),(by show(16:Int)<1073741824;decide)⟩,_,_,rfl,rfl,_,rfl,_,_,rfl,rfl,_,_,rfl,rfl,cm,_,_,rfl,rfl,(by show(0:Int)<2147483587;decide),_,_,rfl,rfl,⟨(by show(0:Int)<7;decide),(by show(7:Int)<1073741824;decide)⟩,_,rfl,_,_,rfl,rfl,m0,?_⟩⟩
  exact q2 _ (ŷ _ ak) (Ļ _ m0)
end
structure Sc (K:Frag)(H:Hp)(s p:Addr)(ns:List Int):Prop where
 sq:î K H s (ns.map V.int)
 LC:ns.length<=63
 ne:s≠p
 bx:ĸ H p
theorem Sc.kept (c:Sc K H s p ns)(k:Kept H H' p)(b:ĸ H' p):Sc K H' s p ns:=⟨My.î.kp c.sq k c.ne,c.LC,c.ne,b⟩
theorem Sc.ext (c:Sc K H s p ns)(x:Ext H H'):Sc K H' s p ns:=c.kept (x.kept p) (c.bx.ext x)
def gk (K:Frag)(te:TE):TE:=eu (cV K) [] E0 (av (aj 0) (av (aj 1) (av te aJ)))
theorem bI (c:Sc K H s p ns)(h0:σ[0]?=some (some (.ref s)))(h1:σ[1]?=some (some (.ref p)))(hm:∀ R:VK,R (.int m) H->te σ H R)(m0:0<m)(m1:m<1073741824)(q:∀ r H',0<=r->r<m->Sc K H' s p ns->Kept H H' p->Q (.int r) H'):gk K te σ H Q :=
 ⟨_,h0,_,h1,hm _ ⟨s,ns,p,m,rfl,c.sq,c.LC,c.ne,c.bx,m0,m1,λ r H' a b d e _=>q r H' a b (c.kept e d) e⟩⟩
def gY (rs:List R0)(n:Nat):PyData:=match rs[n]? with
 | none=>.tuple [.int (n:Nat),.none]
 | some r=>.tuple [.int (n:Nat),r.begin]
theorem yq (rs:List R0):gY rs 0=(Rl.blocks rs).begin:=by cases rs <;> rfl
section
variable {P:Program}{w:World}{K:Frag}{mg:bL}{base:Heap}{C:Nat->Addr}{CR:Addr}
abbrev GQ:Stmt:=az (bZ 41) 1
def xE (C:Nat->Addr):Sp:=λ vs H Q _=>∃(x:Addr)(n:Nat)(dx:Addr)(fs:List (Str × V))(l:Addr)(ws:List V)(rs:List R0),vs=[.ref x,.int (n:Nat)]/\H x=some (.ins (C 3) dx fs)/\fs.lookup ("rules" : Str)=some (.ref l)/\H l=some (.tup ws)/\Λ C H rs ws/\n<=rs.length/\∀ m H',Ext H H'->ė H' (.ref m) (gY rs n)->Q (.ref m) H'
theorem Hn:ad ["self","number"] ["self","number"] (aa GQ):=aK
theorem Cr (Z:KR K C CR)(F:Ģ K "state_ahead" "Blocks.state_ahead" GQ f fd)(M:Ms P w K mg base C)(ml:mg "len" = none):Þ P w K mg base ay 2 f fd ["self","number"] (xE C):=by
 refine bR F Hn λ cdv A outer s H vs Q E hr h=>?_;obtain⟨x,n,dx,fs,l,ws,rs,rfl,hx,LF,hl,al,nl,q⟩:=h;refine⟨_,cn (bC (aB eD (pv 1) (aq aw rfl ml è (ac (mP (pv 0) rfl) au)) (aC _)) (bp (cZ (bK (ac (pv 1) (ac sG au))))) gj)
  (bp (cZ (bK (ac (pv 1) (ac (bc (eL qS (mP (pv 0) rfl) (pv 1)) M.begin hr ag) au))))),?_⟩
 have c:=Z.cls 3 ar;have no:=Z.no 3 ar "rules" ao;refine⟨_,rfl,_,rfl,x,C 3,dx,fs,_,rfl,hx,c,no,LF,l,ws,rfl,.inr (ĝ.of hl),rfl,_,rfl,?_⟩;have lw:=al.1;by_cases e:n=rs.length
 ·rw [Ê (by rw [<- lw,e])]
  refine cU ⟨_,rfl,dZ,λ m hm=>q m _ (.new hm) ?_⟩;have ea:gY rs n=.tuple [.int (n:Nat),.none]:=by unfold gY;rw [c_ ak]
  rw [ea];exact .tup aO (.cons (.int _) (.cons .ą .nil))
 ·rw [Í (by intro z;injection z with z;omega)]
  have hn:n<rs.length:=ak;have hw:n<ws.length:=ak;have ru:=al.2 n _ _ (Á hn) (Á hw);refine cM ⟨_,rfl,bO (t:=.one rs[n]) ao ru (λ R r=>⟨_,rfl,x,C 3,dx,fs,_,rfl,hx,c,no,LF,_,rfl,l,ws,_,_,rfl,rfl,ĝ.of hl,f7 (Á hw),r⟩) ⟨_,.one rs[n],H,rfl,.refl _,ru,λ b rb=>⟨dZ,λ m hm=>q m _ (.new hm) ?_⟩⟩⟩;have ea:gY rs n=.tuple [.int (n:Nat),rs[n].begin]:=by unfold gY;rw [Á hn]
  rw [ea];exact .tup aO (.cons (.int _) (.cons (rb.mono (.new hm)) .nil))
abbrev zY:Stmt:=az (bZ 41) 0
abbrev IO:List Str:=["self","rules","size","mark"]
theorem Pw:ad IO ["self","rules"] (aa zY):=aK
abbrev Cj:Scope:=cC [("rule",.local)]
theorem rA:aT X Cj [] ["rule"] [] []:=by
 refine⟨rfl,rfl,ao,ao,ao,(λ z c h=>nomatch h),(λ z h=>?_),ao,(λ k z h=>by simp at h),rfl⟩
 exfalso;have h':List.lookup z [((".0" : Str),NameKind.local),(("rule" : Str),NameKind.local)]=some .cell\/List.lookup z [((".0" : Str),NameKind.local),(("rule" : Str),NameKind.local)]=some .free:=h;simp only [List.lookup_cons,List.lookup_nil] at h'
 repeat' (split at h')
 all_goals simp at h'
def iu (K:Frag)(C:Nat->Addr)(CT CM:Addr):Sp:=λ vs H Q E=>∃(x:Addr)(v:V)(dx:Addr)(G:Hp),vs=[.ref x,v]/\H x=some (.ins (C 3) dx [])/\Ext G H/\G x=none/\((MP K G v "list" /\ ∀ H',Ext H H'->cu CT "found" v H' E) \/
 (∃ a xs bs,v=.ref a/\G a=some (.lst xs)/\xs.length<1000/\nP K C G xs bs/\Fa xs.length bs=false/\∀ H',Ext H H'->cu CT "found" v H' E) \/
 ∃ a xs rs,v=.ref a/\G a=some (.lst xs)/\Λ C G rs xs/\1<=rs.length/\rs.length<=6/\(∀ r∈rs,r.ok)/\(20<(rs.map R0.Ï).sum->∀ H',Ext H H'->cu CM "many" (.int (rs.map R0.Ï).sum) H' E)/\((rs.map R0.Ï).sum<=20->∀ H',Kept H H' x->Lu C H' rs (.ref x)->Q .ą H'))
theorem uF (Z:KR K C CR)(al:Λ C G rs xs):nP K C G xs (rs.map λ _=>true):=by
 refine⟨by rw [Ã,al.1],λ i x b hx hb=>?_⟩
 have hi:i<rs.length:=by have:=(Æ.mp hx).1;rw [al.1];exact this
 rw [Ì,Á hi] at hb;cases hb;have k:=rf (t:=.one rs[i]) Z (al.2 i _ x (Á hi) hx);have e:((Rl.one rs[i]).kind==0||((Rl.one rs[i]).kind==1||(Rl.one rs[i]).kind==2))=true:=by
  cases rs[i] <;> rfl
 rw [e] at k;exact k
theorem vz (h1:1<=n)(h6:n<=6){rs:List R0}:Fa n (rs.map λ _=>true)=true:=by
 unfold Fa;rw [Ê h1,Ê h6,J_];simp
variable {S g a1 a2 D CT CM fT fM:Addr}{gd d1 d2 eT eM:FuncData}{t:Tok}
def IQ (C:Nat->Addr):TE:=bD (mT C) "folk" (λ _=>gQ C) E0 (aj 0) aJ
def IV (C:Nat->Addr):TE:=bD (mT C) "told" (λ _=>iU C) E0 (aj 0) aJ
theorem yp (Z:KR K C CR)(F:Ģ K "__init__" "Blocks.__init__" zY f fd)(M:Ms P w K mg base C)(MA:bv P w K mg base ay 2 "state_ahead" ["self","number"] (λ c=>c=C 3) (λ _=>xE C))(B:Ł K D)(T1:gP K mg D "NoTrials" "found" CT fT eT)(T2:gP K mg D "TooMany" "many" CM fM eM)
  (Cf:eF K S "__init__" g)(G':Þ P w K mg base ay 1 g gd ["self","size","first_state","mark","parts"] (iR C))(bG:Binds K gd ["self","size","first_state","mark","parts"] [])(mS:mg "Rule" = some (.ref S))
  (A1:Df P w K mg base ay 3 "are_block_rules" ["thing"] (El K C) a1 d1)(A2:Df P w K mg base ay 2 "parts_of" ["rules"] (E6 C) a2 d2)(mF:mg "MOST_FOLK" = some (.int 20 t))(ms:mg "sum" = none)(mt:mg "tuple" = none):Þ P w K mg base (cy P w) 4 f fd ["self","rules"] (iu K C CT CM):=by
 refine fL F Pw λ cdv A outer s H vs Q E hr h=>?_;obtain⟨x,v,dx,G,rfl,hx,xG,nG,h⟩:=h;have nd:=Pw.nd;have Ğ:ó 1 _:=hr.mono ar;have j_:ó 2 _:=hr.mono ar;refine⟨_,cn (bC (bQ (bF (cL A1 hr ag (ac (pv 1) au)))) (bp (bX B T1.cls (T1.ok P w base) j_ T1.bi rfl T1.LB (pv 1))) gj)
  (cn (jI (i:=2) nd rfl (Or.inl rfl) (aq (fQ rfl) rfl ms š (ac (bH (te:=IQ C) (g:=aX 0) rfl rA (aG (pv 1)) (λ s H C fp=>by exact cA (i:=0) Ar rfl (.inl rfl)) (λ s H C fp=>by exact bc (pv 0) M.Ï Ğ ag)) au)))
  (cn (bC (aB hI (pv 2) (bu (v:=.int 20) rfl mF ⟨_,rfl⟩) (aC _)) (bp (bX B T2.cls (T2.ok P w base) j_ T2.bi rfl T2.LB (pv 2))) gj)
  (cn (cS (pv 0) (aU bY rfl mt õ (ac (pv 1) au)) rfl)
  (cn (jI (i:=3) nd rfl (Or.inl rfl) (bK (ac bh (ac (aU bY rfl mt õ (ac (bH (te:=IV C) (g:=aX 0) rfl rA (aG (pv 1)) (λ s H C fp=>by exact cA (i:=0) Ar rfl (.inl rfl)) (λ s H C fp=>by exact bc (pv 0) M.told Ğ ag)) au)) au))))
  (bp (ax (bP Cf G' Ğ rfl mS bG .nil ag (ac (pv 0) (ac (pv 2) (ac (aQ (pv 0) MA j_ ag (ac aI au)) (ac (pv 3) (ac (cL A2 j_ ag (ac (pv 1) au)) au)))))))))))),?_⟩
 rcases h with⟨nk,q⟩ | ⟨a,xs,bs,rfl,ha,l1,bk,bad,q⟩ | ⟨a,xs,rs,rfl,ha,al,l1,l6,ok,qm,q⟩
 ·refine⟨_,rfl,v,rfl,.inl ⟨nk.ext xG,λ H1 x1=>⟨_,rfl,cU ⟨_,rfl,λ e' de h1 h2 nd=>dq nd (q H1 x1 e' de h1 h2 nd)⟩⟩⟩⟩
 ·refine⟨_,rfl,_,rfl,.inr ⟨a,xs,bs,rfl,xG _ _ ha,l1,⟨bk.1,λ i x b h1 h2=>(bk.2 i x b h1 h2).ext xG⟩,λ H1 x1=>⟨_,rfl,?_⟩⟩⟩;rw [bad];exact cU ⟨_,rfl,λ e' de h1 h2 nd=>dq nd (q H1 x1 e' de h1 h2 nd)⟩
 have bk:=uF Z al;have lx:=al.1;refine⟨_,rfl,_,rfl,.inr ⟨a,xs,_,rfl,xG _ _ ha,ak,⟨bk.1,λ i x b h1 h2=>(bk.2 i x b h1 h2).ext xG⟩,λ H1 x1=>⟨_,rfl,?_⟩⟩⟩;rw [<- lx,vz l1 l6];refine cM ?_;have KN:=xG.trans x1;refine⟨_,rfl,a,rfl,⟨_,î.of (KN _ _ ha)⟩,λ D hD=>?_⟩;refine bz (a:=a) (xs:=xs) (λ i ys H'=>Ext H1 H'/\ys=((rs.take i).map R0.Ï).map V.int) (by rw [Ô];omega) ⟨Ext.new hD,rfl⟩ (λ i ys H' pv=>î.of ((KN.trans pv.1) _ _ ha)) ?_ ?_
 ·rintro i v ys H' ev ly ĉ ⟨x',rfl⟩ os į R k;obtain⟨o0,rfl⟩:∃ o0,os=[o0]:=by
   match os,į with
   | [o0],_=>exact⟨o0,rfl⟩
  have hi:i<rs.length:=by have:=(Æ.mp ev).1;omega
  have er:=Á hi;have ru:=(al.2 i _ v er ev).ext (KN.trans x');refine⟨⟨[some v],rfl,rfl⟩,bO (t:=.one rs[i]) ao ru (λ R r=>⟨_,rfl,r⟩) ⟨v,.one rs[i],rfl,ru,k _ H' ĉ ⟨aN _ x' hD,?_⟩⟩⟩;rw [aE er,Î,Î];rfl
 rintro ys H2 ly ĉ ⟨x2,rfl⟩;rw [<- lx,Õ] at ĉ;refine⟨D,_,rfl,î.of ĉ,?_⟩;refine⟨_,rfl,_,_,rfl,rfl,_,rfl,?_⟩;refine mh (λ c=>?_) (λ c=>?_)
 ·exact⟨_,rfl,λ e' de h1 h2 nd=>dq nd (qm (ē c) H2 (x1.trans x2) e' de h1 h2 nd)⟩
 have RH:(rs.map R0.Ï).sum<=20:=by
  have:¬ ((rs.map R0.Ï).sum>20):=λ z=>c (Ê z);omega
 have ŋ:=x1.trans x2;have O9:=xG.trans ŋ;refine⟨_,rfl,a,xs,rfl,.inl ⟨î.of (O9 _ _ ha),λ l hl=>?_⟩⟩;have x3:=Ext.new (o:=.tup xs) hl;have Q_:af H2 l (.tup xs) l=some (.tup xs):=aO;have MJ:=x3 _ _ (ŋ _ _ hx);have hl0:G l=none:=by
  cases e:G l with
  | none=>rfl
  | some o=>rw [O9 _ _ e] at hl;cases hl
 generalize af H2 l (.tup xs)=H3 at x3 Q_ MJ ⊢;have QQ:=ŋ.trans x3;refine⟨_,rfl,x,C 3,dx,[],rfl,MJ,Z.cls 3 ar,Z.no 3 ar _ ao,ar,?_⟩;have k4:Kept H3 (af H3 x (.ins (C 3) dx (bJ "rules" (.ref l) []))) x:=aR _;have OW:af H3 x (.ins (C 3) dx (bJ "rules" (.ref l) [])) x=some (.ins (C 3) dx [("rules",.ref l)]):=aO;have xl:l≠x:=λ e=>by rw [e,MJ] at Q_;cases Q_
 have Oj:=k4 _ _ Q_ xl;generalize af H3 x (.ins (C 3) dx (bJ "rules" (.ref l) []))=H4 at k4 OW Oj ⊢;have Ub:Kept H H4 x:=(QQ.kept x).trans k4;have QL:=xG.kp nG Ub;refine⟨_,rfl,a,rfl,⟨_,î.of (QL _ _ ha)⟩,λ D2 Ű=>?_⟩;refine bz (a:=a) (xs:=xs) (λ i ys H'=>Ext H4 H'/\Ö G ys ((rs.take i).map R0.told)) (by rw [Ô];omega) ⟨Ext.new Ű,.nil⟩ (λ i ys H' pv=>î.of ((QL.trans pv.1) _ _ ha)) ?_ ?_
 ·rintro i v ys H' ev ly ĉ ⟨x',ry⟩ os į R k;obtain⟨o0,rfl⟩:∃ o0,os=[o0]:=by
   match os,į with
   | [o0],_=>exact⟨o0,rfl⟩
  have hi:i<rs.length:=by have:=(Æ.mp ev).1;omega
  have er:=Á hi;have Py:=al.2 i _ v er ev;have xg:=QL.trans x';have ru:=Py.ext xg;refine⟨⟨[some v],rfl,rfl⟩,bO (t:=.one rs[i]) ao ru (λ R r=>⟨_,rfl,r⟩) ⟨v,.one rs[i],G,rfl,xg,Py,λ b rb=>k b H' ĉ ⟨aN _ x' Ű,?_⟩⟩⟩;rw [aE er,Î];exact ry.append (.cons rb .nil)
 rintro ys H5 ly v_ ⟨x5,ry⟩;rw [<- lx,Õ] at ry;refine⟨D2,ys,rfl,.inl ⟨î.of v_,λ m hm=>⟨dZ,λ k hk=>?_⟩⟩⟩;have x6:=Ext.new (o:=.tup ys) hm;have Oh:af H5 m (.tup ys) m=some (.tup ys):=aO;generalize af H5 m (.tup ys)=H6 at x6 Oh hk ⊢;have x7:=Ext.new (o:=.tup [.str "blocks",.ref m]) hk;have Uo:af H6 k (.tup [.str "blocks",.ref m]) k=some (.tup [.str "blocks",.ref m]):=aO;generalize af H6 k (.tup [.str "blocks",.ref m])=H7 at x7 Uo ⊢;have QN:=(x5.trans x6).trans x7;have OJ:=QL.trans QN;have So:=QN _ _ OW;have Um:=QN _ _ Oj;have RP:ė H7 (.ref k) (Rl.blocks rs).told:=.tup Uo (.cons (.str _) (.cons (.tup (x7 _ _ Oh) (Ö.mono OJ ry)) .nil));have Vc:=al.ext OJ;refine⟨_,rfl,_,rfl,_,rfl,x,C 3,dx,_,rfl,rfl,So,rfl,⟨x,0,dx,_,l,xs,rs,rfl,So,rfl,Um,Vc,ģ _,λ b H8 x8 rb=>?_⟩⟩;rw [yq] at rb;refine⟨_,rfl,_,rfl,a,xs,rs,rfl,(OJ.trans x8) _ _ ha,Vc.ext x8,l6,ok,λ pr H9 x9 rp=>?_⟩;have O_:=x8.trans x9;have Q5:=O_ _ _ So;have Yv:=O_ _ _ Um;refine⟨x,_,_,_,_,3,dx,[("rules",.ref l)],rfl,ar,Q5,(by show 1<=5;decide),q RH _ ((Ub.trans ((QN.trans O_).kept x)).trans (aR _)) ?_⟩
 have kk:Kept H9 (af H9 x (.ins (C 3) dx (fv (.int (rs.map R0.Ï).sum) (.ref b) (.ref k) (.ref pr) [("rules",.ref l)]))) x:=aR _;have QK:=(OJ.trans O_).kp nG kk;refine gA aO ((rb.mono x9).kept Q5 kk) ((RP.mono O_).kept Q5 kk) (rp.kept Q5 kk) (λ n hn=>?_) ⟨l,xs,?_,?_,al.ext QK⟩
 ·have e:n = "rules" := by simpa using hn
  rw [e]
  decide +kernel
 ·rw [cW ao];rfl
 ·exact kk _ _ Yv xl
end
section
variable {P:Program}{w:World}{K:Frag}{mg:bL}{base:Heap}{C:Nat->Addr}{CR:Addr}
abbrev Bv:Stmt:=bZ 33
abbrev F6:List Str:=["parts","many","cut"]
theorem Po:ad F6 ["parts","many"] (aa Bv):=aK
def AK:Sp:=λ vs H Q _=>∃(v:V)(m:Int)(ps:List (List Int)),vs=[v,.int m]/\ė H v (fq ps)/\Sm ps/\∀ l H',Ext H H'->ė H' (.ref l) (fq (gO m ps))->Q (.ref l) H'
abbrev wJ:Scope:=cC [("part",.local),("tuple",.globalImplicit),("many",.free)]
abbrev D1:Scope:=cC [("at",.local),("many",.free)]
abbrev Dg:Scope:=cC [("part",.local),("len",.globalImplicit)]
theorem iY {n z:Str}(h:List.lookup z [(n,a)]=some c):z=n/\c=a:=by
 rw [é] at h;cases e:z==n with
 | true =>
  rw [e] at h;exact⟨Ā.mp e,(Ý h).symm⟩
 | false =>
  rw [e] at h;cases h
variable {f:Addr}{cdv:Value}{A:Around}{outer:List Env}{s:Shared}{H:Hp}{E:XK}
theorem uL:aT (aP ay P w K mg base F6 "parts_below" (aa Bv) f cdv A outer s H E).ŀ wJ [("many",s.heap.objs.size+1)] ["part"] ["many"] [1]:=by
 refine⟨rfl,rfl,ao,ao,ao,(λ z c h=>?_),(λ z h=>?_),ao,(λ k z h=>?_),rfl⟩
 ·obtain⟨rfl,rfl⟩:=iY h;rfl
 ·have h':List.lookup z [((".0" : Str),NameKind.local),(("part" : Str),NameKind.local),(("tuple" : Str),NameKind.globalImplicit),(("many" : Str),NameKind.cell)]=some .cell\/List.lookup z [((".0" : Str),NameKind.local),(("part" : Str),NameKind.local),(("tuple" : Str),NameKind.globalImplicit),(("many" : Str),NameKind.cell)]=some .free:=h;have e:z = "many" := by
   simp only [List.lookup_cons,List.lookup_nil] at h'
   repeat' (split at h')
   all_goals first | (simp at h';done) | (rename_i e;exact Ā.mp e)
  subst e;exact⟨_,rfl⟩
 ·cases k with
  | zero =>
   cases h;exact⟨1,rfl,rfl,.inr (.inl rfl),(by show(aa Bv).names.lookup ("many" : Str)≠some .local;decide +kernel),.inl rfl⟩
  | succ k=>cases h
theorem Dd:((["part"]:List Str)++(["many"]:List Str)).Nodup:=ao
theorem Fm:((["at"]:List Str)++(["many"]:List Str)).Nodup:=ao
theorem vi:aT (bE (aP ay P w K mg base F6 "parts_below" (aa Bv) f cdv A outer s H E).ŀ wJ [("many",s.heap.objs.size+1)] ((["part"]:List Str)++(["many"]:List Str)) s1 H1 C1 fp) D1 [("many",s.heap.objs.size+1)] ["at"] ["many"] [1]:=by
 refine⟨rfl,rfl,ao,ao,ao,(λ z c h=>?_),(λ z h=>?_),ao,(λ k z h=>?_),rfl⟩
 ·obtain⟨rfl,rfl⟩:=iY h;rfl
 ·have h':List.lookup z [((".0" : Str),NameKind.local),(("at" : Str),NameKind.local),(("many" : Str),NameKind.cell)]=some .cell\/List.lookup z [((".0" : Str),NameKind.local),(("at" : Str),NameKind.local),(("many" : Str),NameKind.cell)]=some .free:=h;have e:z = "many" := by
   simp only [List.lookup_cons,List.lookup_nil] at h'
   repeat' (split at h')
   all_goals first | (simp at h';done) | (rename_i e;exact Ā.mp e)
  subst e;exact⟨_,rfl⟩
 ·cases k with
  | zero =>
   cases h;exact⟨1,rfl,rfl,.inr (.inl rfl),(by intro z;cases z),.inl rfl⟩
  | succ k=>cases h
theorem uC:aT X Dg [] ["part"] [] []:=by
 refine⟨rfl,rfl,ao,ao,ao,(λ z c h=>nomatch h),(λ z h=>?_),ao,(λ k z h=>by simp at h),rfl⟩
 exfalso;have h':List.lookup z [((".0" : Str),NameKind.local),(("part" : Str),NameKind.local),(("len" : Str),NameKind.globalImplicit)]=some .cell\/List.lookup z [((".0" : Str),NameKind.local),(("part" : Str),NameKind.local),(("len" : Str),NameKind.globalImplicit)]=some .free:=h;simp only [List.lookup_cons,List.lookup_nil] at h'
 repeat' (split at h')
 all_goals simp at h'
def yh (K:Frag):List V->Hp->VK->Prop:=λ xs H Q=>∃ p ys,xs=[.ref p]/\((î K H p ys/\∀ l,H l=none->Q (.ref l) (af H l (.tup ys)))\/(ĝ K H p ys/\Q (.ref p) H))
def wK:TT:=tB (aS (dH λ i j=>.bl (decide (i<j))) (aj 0) (aj 1))
def Hh (K:Frag):TE:=jg (yh K) (av (gh (DJ K (aj 0)) 1 [1] (aX 0) wK (aj 0)) aJ)
def Fw (K:Frag):List V->Hp->VK->Prop:=λ xs H Q=>∃ p ys,xs=[.ref p]/\(î K H p ys\/ĝ K H p ys)/\Q (.int ys.length) H
def Gf (K:Frag):TT:=tB (aS (dH λ i j=>.bl (decide (i>j))) (jg (Fw K) (av (aj 0) aJ)) (tC (.int 0)))
def Ij (m:Int):V->Bool
 | .int i=>decide (i<m)
 | _=>false
def yt (H:Hp):V->Bool
 | .ref a=>match H a with
  | some (.tup ys)=>decide (0<ys.length)
  | _=>false
 | _=>false
theorem EO (F:Ģ K "parts_below" "parts_below" Bv f fd)(mt:mg "tuple" = none)(ml:mg "len" = none):Þ P w K mg base ay 1 f fd ["parts","many"] AK:=by
 refine bR F Po λ cdv A outer s H vs Q E hr h=>?_;obtain⟨v,m,ps,rfl,rv,sm,q⟩:=h;have nd:=Po.nd;refine⟨_,cn (jU (iy:=2) (te:=Hh K) (g:=aX 0) rfl uL (ou (pv 0)) (λ s H C fp=>by exact cA (i:=0) Dd rfl (.inl rfl))
   (λ s H C fp=>by exact aU bY rfl mt õ (ac (eR (te:=aj 0) (tt:=wK) (g:=aX 0) rfl vi (ou (pv 0)) (λ s H C fp=>by exact cA (i:=0) Fm rfl (.inl rfl)) (λ s H C fp=>by exact aB pD (pv 0) (pv 1) (aC _)) (λ s H C fp=>by exact pv 0)) au)) nd rfl (Or.inl rfl) rfl)
  (bp (cZ (aU bY rfl mt õ (ac (eR (te:=aj 0) (tt:=Gf K) (g:=aX 0) rfl uC (aG (pv 2)) (λ s H C fp=>by exact cA (i:=0) IB rfl (.inl rfl)) (λ s H C fp=>by exact aB hI (aq aw rfl ml è (ac (pv 0) au)) aI (aC _)) (λ s H C fp=>by exact pv 0)) au)))),?_⟩
 obtain⟨p,xs,rfl,hp,rs⟩:=fV rv;have lx:=rs.length;rw [Ã] at lx;have ţ:=sm.1;refine⟨_,rfl,p,rfl,⟨_,ĝ.of hp⟩,λ D hD=>?_⟩;refine pN (a:=p) (xs:=xs) (λ i ys H'=>Ext H H'/\Ö (wo H' D) ys (((ps.take i).map (·.filter λ x=>decide (x<m))).map oo)) (by rw [Ô];omega) ⟨Ext.new hD,.nil⟩ (λ i ys H' pv=>ĝ.of (pv.1 _ _ hp)) ?_ ?_
 ·rintro i x ys H' ex ly ĉ ⟨x',ry⟩ os į R k;obtain⟨o0,rfl⟩:∃ o0,os=[o0]:=by
   match os,į with
   | [o0],_=>exact⟨o0,rfl⟩
  have hi:i<ps.length:=by have:=(Æ.mp ex).1;omega
  have ep:=Á hi;obtain⟨c,rfl,hc⟩:=iV rs ex ep;have Jy:=x' _ _ hc;have pl:=sm.2 _ (ü hi);refine⟨⟨[some (.ref c)],rfl,rfl⟩,_,rfl,c,rfl,⟨_,ĝ.of Jy⟩,λ D2 Ű=>?_⟩;refine Is (xs:=ps[i].map V.int) (J:=Br K c) (Ij m) (by rw [Ã,Ô];omega) Ű (λ j H1 x1 lt=>⟨_,_,ĝ.of (x1 _ _ Jy),Á lt⟩) (λ H1 x1=>⟨_,ĝ.of (x1 _ _ Jy),Ç _⟩)
   (λ j H1 y Ti x1 ⟨e,hy⟩=>⟨e,hy _ (ĝ.of (x1 _ _ Jy))⟩) (λ j y H1 hy x1 R r=>?_) (λ H4 x4 h4=>?_)
  ·rw [Ì] at hy;obtain⟨n,_,rfl⟩:=Ó.mp hy;exact⟨_,rfl,_,rfl,_,_,rfl,rfl,_,rfl,r H1 (Ext.refl _)⟩
  rw [dI (λ n=>decide (n<m)) (Ij m) (λ _=>rfl)] at h4;refine⟨D2,_,rfl,.inl ⟨î.of h4,λ t ht=>?_⟩⟩;have x5:=Ext.new (o:=.tup ((ps[i].filter λ n=>decide (n<m)).map V.int)) ht;have Rx:=x4.trans x5;have tD:t≠D:=λ e=>by rw [e,x4 _ _ ĉ] at ht;cases ht
  refine k _ _ (Rx _ _ ĉ) ⟨aN _ (x'.trans Rx) hD,?_⟩;rw [aE ep,Î,Î];exact Ö.mono vX ((Ö.mono (bo Rx D) ry).append (.cons (.tup (bw tD aO) (dA _ _)) .nil))
 rintro ys H2 ly ĉ ⟨x2,ry⟩;rw [lx,Õ] at ry;have RI:=Ö.mono (ai H2 D) ry;refine⟨_,rfl,D,rfl,⟨_,î.of ĉ⟩,λ D3 S9=>?_⟩;have pp:∀(i:Nat) y qq,ys[i]?=some y->(ps.map λ p:List Int=>p.filter λ x=>decide (x<m))[i]?=some qq->∃ a,y=.ref a/\H2 a=some (.tup (qq.map V.int)):=λ i y qq hy hq=>iV RI hy hq;have XT:=RI.length;rw [Ã,Ã] at XT;refine Is (xs:=ys) (J:=ji K D) (yt H2) (by rw [Ô];omega) S9 (λ j H1 x1 lt=>⟨_,_,î.of (x1 _ _ ĉ),Á lt⟩) (λ H1 x1=>⟨_,î.of (x1 _ _ ĉ),Ç _⟩)
  (λ j H1 y Ti x1 ⟨e,hy⟩=>⟨e,hy _ (î.of (x1 _ _ ĉ))⟩) (λ j y H1 hy x1 R r=>?_) (λ H4 x4 h4=>?_)
 ·have hj:j<(ps.map λ p:List Int=>p.filter λ x=>decide (x<m)).length:=by have:=(Æ.mp hy).1;rw [Ã];omega
  obtain⟨a,rfl,ha⟩:=pp j y _ hy (Á hj);have hv:yt H2 (.ref a)=decide (0<((ps.map λ p:List Int=>p.filter λ x=>decide (x<m))[j].map V.int).length):=by
   show(match H2 a with | some (.tup ys)=>decide (0<ys.length) | _=>false)=_
   rw [ha]
  refine⟨_,rfl,a,_,rfl,.inr (ĝ.of (x1 _ _ ha)),_,_,rfl,rfl,_,rfl,?_⟩;have:=r H1 (Ext.refl _);rw [hv] at this;have e2:decide ((((ps.map λ p:List Int=>p.filter λ x=>decide (x<m))[j].map V.int).length:Int)>0)=decide (0<((ps.map λ p:List Int=>p.filter λ x=>decide (x<m))[j].map V.int).length):=ě.mpr ak;rw [e2];exact this
 refine⟨D3,_,rfl,.inl ⟨î.of h4,λ l hl=>?_⟩⟩;have x5:=Ext.new (o:=.tup (ys.filter (yt H2))) hl;refine q l _ (x2.trans (x4.trans x5)) (.tup aO ?_);refine Ö.filter (Ö.mono (x4.trans x5) RI) λ i y qq hy hq=>?_;obtain⟨a,rfl,ha⟩:=pp i y qq hy hq;show(match H2 a with | some (.tup ys)=>decide (0<ys.length) | _=>false)=_
 rw [ha];show decide (0<(qq.map V.int).length)=_;rw [Ã]
abbrev zK:Stmt:=az (bZ 42) 0
abbrev IX:List Str:=["self","rule","many"]
theorem Pu:ad IX ["self","rule","many"] (aa zK):=aK
def kE (C:Nat->Addr)(CN:Addr):Sp:=λ vs H Q E=>∃(x:Addr)(v u:V)(t:Rl)(d:PyData)(dx:Addr)(G:Hp),vs=[.ref x,v,u]/\H x=some (.ins (C 4) dx [])/\Ext G H/\G x=none/\Ru C G t v/\Sm t.parts/\ė G u d/\(ko 0 t.Ï d=false->cu CN "found" u H E)/\∀ m,d=.int m->0<=m->m<=t.Ï->∀ H',Kept H H' x->Ru C H' (.first t m) (.ref x)->Q .ą H'
variable {S g a1 a2 CN:Addr}{gd d1 d2:FuncData}
theorem qP (ru:Ru C G t v):(t.kind=4->∃ a dx fs d,v=.ref a/\G a=some (.ins (C 4) dx fs)/\fs.lookup ("dealer" : Str)=some d/\MO C G t.inner d)/\(t.kind≠4->MO C G t.inner v):=by
 cases t with
 | one r=>exact⟨λ e=>by have:=r.ę;have e':r.kind=4:=e;omega,λ _=>ru⟩
 | blocks rs=>exact⟨λ e=>(by cases e),λ _=>ru⟩
 | first t m =>
  refine⟨λ _=>?_,λ e=>absurd rfl e⟩;obtain⟨a,dx,fs,rfl,ha,_,_,_,_,_,d,hd,rn⟩:=ru.ex;exact⟨a,dx,fs,d,rfl,ha,hd,rn⟩
theorem zp (N:rX K)(Z:KR K C CR)(F:Ģ K "__init__" "First.__init__" zK f fd)(M:Ms P w K mg base C)(Cf:eF K S "__init__" g)(G':Þ P w K mg base ay 1 g gd ["self","size","first_state","mark","parts"] (iR C))(bG:Binds K gd ["self","size","first_state","mark","parts"] [])(mS:mg "Rule" = some (.ref S))
  (A1:Df P w K mg base (cy P w) 3 "need_number" ["thing","low","high"] (sR CN) a1 d1)(A2:Df P w K mg base ay 1 "parts_below" ["parts","many"] AK a2 d2)(m4:mg "First" = some (.ref (C 4)))(mi:mg "isinstance" = none):Þ P w K mg base (cy P w) 4 f fd ["self","rule","many"] (kE C CN):=by
 refine fL F Pu λ cdv A outer s H vs Q E hr h=>?_;obtain⟨x,v,u,t,d,dx,G,rfl,hx,xG,nG,ru,sm,rd,qe,q⟩:=h;have nd:=Pu.nd;have Ğ:ó 1 _:=hr.mono ar;refine⟨_,cn (ax (cL A1 hr cF (ac (pv 2) (ac aI (ac (bc (pv 1) M.Ï Ğ ag) au)))))
  (cn (cS (pv 0) (lE (bF (aq (lY N) rfl mi à (ac (pv 1) (ac (bu (v:=.ref (C 4)) rfl m4 rfl) au)))) (mP (pv 1) rfl) (pv 1)) rfl)
  (bp (ax (bP Cf G' Ğ rfl mS bG .nil ag (ac (pv 0) (ac (pv 2) (ac (bc (pv 1) M.begin Ğ ag) (ac (bK (ac bh (ac (bc (pv 1) M.told Ğ ag) (ac (pv 2) au)))) (ac (cL A2 Ğ ag (ac (mP (pv 1) rfl) (ac (pv 2) au))) au))))))))),?_⟩
 have RK:=ru.ext xG;refine⟨_,rfl,bO ao RK (λ R r=>⟨_,rfl,r⟩) ⟨v,t,rfl,RK,u,d,0,t.Ï,rfl,rd.mono xG,λ h1=>?_,λ h1=>qe h1⟩⟩;obtain⟨m,rfl,m0,m1⟩:=eQ h1;cases rd;have fin:∀ dv,MO C G t.inner dv->DV K (aj 0) (tC dv) "dealer" ⟨λ ĥ H'=>lu (eu (iR C) [] E0 (av (aj 0) (av (aj 2) (av (bD (mT C) "begin" (λ _=>im C) E0 (aj 1) aJ) (av (iE (av (tC (.str "first")) (av (bD (mT C) "told" (λ _=>iU C) E0 (aj 1) aJ) (av (aj 2) aJ)))) (av (eu AK [] E0 (av (sg K (aj 1) "parts") (av (aj 2) aJ))) aJ)))))) ⟨λ _ H'=>Q .ą H',Q,λ _ _=>False,λ _ _=>False⟩ ĥ H',Q,λ _ _=>False,λ _ _=>False⟩ [some (.ref x),some v,some (.int m)] H:=λ dv rn=>by
  refine⟨_,rfl,x,C 4,dx,[],rfl,hx,Z.cls 4 ar,Z.no 4 ar _ ao,ar,?_⟩;have k1:Kept H (af H x (.ins (C 4) dx (bJ "dealer" dv []))) x:=aR _;have J4:af H x (.ins (C 4) dx (bJ "dealer" dv [])) x=some (.ins (C 4) dx [("dealer",dv)]):=aO;generalize af H x (.ins (C 4) dx (bJ "dealer" dv []))=H1 at k1 J4 ⊢;have KN:=xG.kp nG k1;have TU:=ru.ext KN;obtain⟨a,da,fa,rfl,ha,_,_,_,⟨pp,Yg,Xo⟩,_⟩:=ru.ob.ex;refine⟨_,rfl,_,rfl,bO ao TU (λ R r=>⟨_,rfl,r⟩) ⟨_,t,G,rfl,KN,ru,λ b rb=>?_⟩⟩;refine bO ao TU (λ R r=>⟨_,rfl,r⟩) ⟨_,t,G,rfl,KN,ru,λ c rc=>⟨_,rfl,dZ,λ k hk=>?_⟩⟩;have x2:=Ext.new (o:=.tup [.str "first",c,.int m]) hk;have Up:af H1 k (.tup [.str "first",c,.int m]) k=some (.tup [.str "first",c,.int m]):=aO;generalize af H1 k (.tup [.str "first",c,.int m])=H2 at x2 Up ⊢;have O9:=KN.trans x2;refine⟨_,rfl,a,C t.kind,da,fa,_,rfl,O9 _ _ ha,Z.cls _ t.ę,Z.no _ t.ę _ ao,Yg,_,rfl,pp,m,t.parts,rfl,Xo.mono O9,sm,λ l H3 x3 rl=>?_⟩;have M0:=x2.trans x3;have QM:=KN.trans M0;have MJ:=M0 _ _ J4;have YA:=x3 _ _ Up;refine⟨x,_,_,_,_,4,dx,[("dealer",dv)],rfl,ar,MJ,(by show 1<=5;decide),q m rfl m0 m1 _ ((k1.trans (M0.kept x)).trans (aR _)) ?_⟩
  have kk:Kept H3 (af H3 x (.ins (C 4) dx (fv (.int m) b (.ref k) (.ref l) [("dealer",dv)]))) x:=aR _;have QK:=QM.kp nG kk;refine gA aO (rb.mono QK) ((ė.tup YA (.cons (.str _) (.cons (rc.mono QM) (.cons (.int _) .nil)))).kept MJ kk) (rl.kept MJ kk) (λ n hn=>?_) ⟨dv,?_,rn.ext QK⟩
  ·have e:n = "dealer" := by simpa using hn
   rw [e]
   decide +kernel
  ·rw [cW ao];rfl
 have dl:=qP ru;refine⟨_,rfl,_,_,_,_,rfl,RK.kd Z,Z.kk t.kind 4 t.ę ar,_,rfl,?_⟩;by_cases e4:t.kind=4
 ·rw [show(t.kind==4)=true from by simpa using e4]
  obtain⟨a,da,fa,dv,rfl,ha,hd,rn⟩:=dl.1 e4;exact cU ⟨_,rfl,a,C 4,da,fa,_,rfl,xG _ _ ha,Z.cls 4 ar,Z.no 4 ar _ ao,hd,fin dv rn⟩
 ·rw [show(t.kind==4)=false from by simpa using e4]
  exact cM ⟨_,rfl,fin v (dl.2 e4)⟩
end
def wG (H H':Hp):Prop:=∀ b o,H b=some o->(∀ xs,o ≠ .lst xs)->H' b=some o
mutual
def ck:PyData->Bool
 | .list _=>false
 | .dict _=>false
 | .tuple xs=>ķ xs
 | _=>true
def ķ:List PyData->Bool
 | []=>true
 | x::xs=>ck x && ķ xs
end
theorem gJ:∀{ds:List PyData},(∀ d∈ds,ck d=true)->ķ ds=true
 | [],_=>by simp [ķ]
 | x::xs,h=>by
  simp only [ķ,h x (List.mem_cons_self ..),gJ λ d hd=>h d (List.mem_cons_of_mem _ hd),Bool.and_self]
mutual
theorem ė.ġ (s:wG G G'):∀{v:V}{d:PyData},ck d=true->ė G v d->ė G' v d
 | _,_,_,.ą=>.ą
 | _,_,_,.bl b=>.bl b
 | _,_,_,.int i=>.int i
 | _,_,_,.str x=>.str x
 | _,_,h,.lst e r=>by simp [ck] at h
 | _,_,h,.tup e r=>.tup (s _ _ e (λ _ z=>by cases z)) (Ö.ġ s (by simpa only [ck] using h) r)
 | _,_,h,.Ų e=>by simp [ck] at h
 | _,_,h,.JG e r=>by simp [ck] at h
theorem Ö.ġ (s:wG G G'):∀{vs:List V}{ds:List PyData},ķ ds=true->Ö G vs ds->Ö G' vs ds
 | _,_,_,.nil=>.nil
 | _,_,h,.cons r t=>by
  simp only [ķ,Bool.and_eq_true] at h;exact .cons (ė.ġ s h.1 r) (Ö.ġ s h.2 t)
end
theorem R0.nl (r:R0):ck r.told=true:=by cases r <;> simp [R0.told,ck,ķ]
theorem R0.N8 (r:R0):ck r.begin=true:=by cases r <;> simp [R0.begin,ck]
theorem Rl.nl:∀ t:Rl,ck t.told=true
 | .one r=>r.nl
 | .blocks rs=>by
  have:ķ (rs.map R0.told)=true:=gJ λ d hd=>by
   obtain⟨r,_,rfl⟩:=ê.mp hd;exact r.nl
  simp only [Rl.told,ck,ķ,this,Bool.and_self]
 | .first t m=>by simp only [Rl.told,ck,ķ,t.nl,Bool.and_self]
theorem Rl.N8:∀ t:Rl,ck t.begin=true
 | .one r=>r.N8
 | .blocks []=>by simp [Rl.begin,ck,ķ]
 | .blocks (r::_)=>by simp only [Rl.begin,ck,ķ,r.N8,Bool.and_self]
 | .first t _=>t.N8
theorem pk:∀(ns:List Int),ķ (ns.map PyData.int)=true
 | []=>by simp [ķ]
 | n::ns=>by simp only [List.map_cons,ķ,ck,pk ns,Bool.and_self]
theorem iT (ps:List (List Int)):ck (fq ps)=true:=by
 refine gJ λ d hd=>?_;obtain⟨p,_,rfl⟩:=ê.mp hd;exact pk p
theorem Ob.ġ (h:Ob C H v fk bg tl pt X)(s:wG H H')(n1:ck bg=true)(n2:ck tl=true)(n3:ck pt=true)(k:∀ fs,X fs->Y fs):Ob C H' v fk bg tl pt Y:=by
 obtain⟨a,dx,fs,rfl,ha,h1,⟨b,h2,r2⟩,⟨m,h3,r3⟩,⟨p,h4,r4⟩,h5,h6⟩:=h.ex;exact⟨a,dx,fs,rfl,s _ _ ha (λ _ z=>by cases z),h1,⟨b,h2,r2.ġ s n1⟩,⟨m,h3,r3.ġ s n2⟩,⟨p,h4,r4.ġ s n3⟩,h5,k fs h6⟩
section
variable {C:Nat->Addr}{H H':Hp}
theorem kc:ck (.tuple [.int a,.int b])=true:=by simp [ck,ķ]
theorem l_.ġ (h:l_ C H r v)(s:wG H H'):l_ C H' r v:=Ob.ġ h s r.N8 r.nl (iT _) λ fs e=>by
 cases r with
 | split _ _=>trivial
 | pairs _ a b =>
  obtain⟨c,e1,e2⟩:=e;exact⟨c,e1,e2.ġ s kc⟩
 | ŏ _ a b f =>
  obtain⟨⟨c,e1,e2⟩,e3⟩:=e;exact⟨⟨c,e1,e2.ġ s kc⟩,e3⟩
theorem Λ.ġ (h:Λ C H rs ws)(s:wG H H'):Λ C H' rs ws:=⟨h.1,λ i r w a b=>l_.ġ (h.2 i r w a b) s⟩
theorem Lu.ġ (h:Lu C H rs v)(s:wG H H'):Lu C H' rs v:=Ob.ġ h s (Rl.N8 _) (Rl.nl _) (iT _) λ fs e=>by
 obtain⟨l,ws,e1,e2,e3⟩:=e;exact⟨l,ws,e1,s _ _ e2 (λ _ z=>by cases z),e3.ġ s⟩
theorem MO.ġ (h:MO C H t v)(s:wG H H'):MO C H' t v:=by
 cases t with
 | one r=>exact l_.ġ h s
 | blocks rs=>exact Lu.ġ h s
 | first _ _=>exact h.elim
theorem Ru.ġ (h:Ru C H t v)(s:wG H H'):Ru C H' t v:=by
 cases t with
 | one r=>exact l_.ġ h s
 | blocks rs=>exact Lu.ġ h s
 | first t m=>exact Ob.ġ h s t.N8 (Rl.nl _) (iT _) λ fs ⟨d,e1,e2⟩=>⟨d,e1,e2.ġ s⟩
theorem lR (h:Λ C H rs ws)(k:l_ C H r v):Λ C H (rs ++ [r]) (ws ++ [v]):=by
 refine⟨by rw [É,É,h.1];rfl,λ i r' w' hr hw=>?_⟩
 rcases ī i rs.length with lt | ge
 ·rw [ò lt] at hr;rw [ò (by rw [<- h.1];exact lt)] at hw
  exact h.2 i r' w' hr hw
 ·rw [å ge] at hr;rw [å (by rw [<- h.1];exact ge)] at hw
  have i0:i=rs.length:=by
   rcases ī (i-rs.length) 1 with z | z
   ·omega
   ·rw [c_ (by simpa using z)] at hr;cases hr
  subst i0;rw [η] at hr;rw [h.1,η] at hw;cases hr;cases hw;exact k
end
theorem dE (hx:H x=none)(hd:H dx=none)(ne:dx≠x):Ext H (af (af H dx u) x v):=by
 have h2:af H dx u x=none:=by rw [ah ne.symm];exact hx
 exact(Ext.new hd).trans (.new h2)
end My
namespace My
open PySem PySem.W L2
structure BB (P:Program)(w:World)(K:Frag)(mg:bL)(base:Heap)(C:Nat->Addr)(CN CS CT CM:Addr)(f0 f1 f2 f3 f4:Addr)(e0 e1 e2 e3 e4:FuncData):Prop where
 k0:Mk K (C 0) f0
 k1:Mk K (C 1) f1
 k2:Mk K (C 2) f2
 k3:Mk K (C 3) f3
 k4:Mk K (C 4) f4
 g0:Þ P w K mg base (cy P w) 4 f0 e0 ["self","folk","ones"] (oP C CN)
 g1:Þ P w K mg base (cy P w) 6 f1 e1 ["self","pairs","coin"] (lP C CN CS)
 g2:Þ P w K mg base (cy P w) 6 f2 e2 ["self","folk","coin","far"] (lc C CN CS)
 g3:Þ P w K mg base (cy P w) 4 f3 e3 ["self","rules"] (iu K C CT CM)
 g4:Þ P w K mg base (cy P w) 4 f4 e4 ["self","rule","many"] (kE C CN)
 b0:Binds K e0 ["self","folk","ones"] []
 b1:Binds K e1 ["self","pairs","coin"] []
 b2:Binds K e2 ["self","folk","coin","far"] []
 b3:Binds K e3 ["self","rules"] []
 b4:Binds K e4 ["self","rule","many"] []
 m0:mg "Split" = some (.ref (C 0))
 m1:mg "Pairs" = some (.ref (C 1))
 m2:mg "Coins" = some (.ref (C 2))
 m3:mg "Blocks" = some (.ref (C 3))
 m4:mg "First" = some (.ref (C 4))
section
variable {K:Frag}{C:Nat->Addr}{CN CS CT CM:Addr}{H:Hp}{σ:St}{Q:VK}{E:XK}
theorem gS (h1:lo<=n)(h2:n<=hi):ko lo hi (.int n)=true:=by
 show(decide (lo<=n)&&decide (n<=hi))=true;rw [Ê h1,Ê h2];rfl
end
def GD (H0:Hp)(σ:St)(te:TE)(d:PyData):Prop:=∀(H:Hp)(Q:VK),Ext H0 H->(∀ v H',Ext H H'->ė H' v d->Q v H')->te σ H Q
def Nl (H0:Hp)(σ:St)(ta:TA)(ds:List PyData):Prop:=∀(H:Hp)(Q:List V->Hp->Prop),Ext H0 H->(∀ vs H',Ext H H'->Ö H' vs ds->Q vs H')->ta σ H Q
section
variable {H0:Hp}{σ:St}{te:TE}{ta:TA}{d:PyData}{ds:List PyData}
theorem GD.int (i:Int):GD H0 σ (tC (.int i)) (.int i):=λ H Q _ q=>q _ H (.refl _) (.int i)
theorem Nl.nil:Nl H0 σ aJ []:=λ H Q _ q=>q [] H (.refl _) .nil
theorem Nl.cons (h:GD H0 σ te d)(k:Nl H0 σ ta ds):Nl H0 σ (av te ta) (d::ds):=λ H Q x q =>
 h H _ x λ v H1 x1 r=>k H1 _ (x.trans x1) λ vs H2 x2 rs=>q (v::vs) H2 (x1.trans x2) (.cons (r.mono x2) rs)
theorem GD.tup (k:Nl H0 σ ta ds)(hz:ds.length<=sizeLine):GD H0 σ (iE ta) (.tuple ds):=λ H Q x q =>
 k H _ x λ vs H1 x1 rs=>⟨by rw [rs.length];exact hz,λ p hp=>q _ _ (x1.trans (.new hp)) (.tup aO (rs.mono (.new hp)))⟩
theorem Nl.use (k:Nl H0 σ ta ds)(hz:ds.length<=sizeLine)(q:∀ l vs H',Ext H0 H'->H0 l=none->H' l=some (.lst vs)->Ö H' vs ds->Q (.ref l) H'):bV ta σ H0 Q :=
 k H0 _ (.refl _) λ vs H1 x1 rs=>⟨by rw [rs.length];exact hz,λ p hp=>q p vs _ (x1.trans (.new hp)) (by
  cases e:H0 p with
  | none=>rfl
  | some o=>rw [x1 _ _ e] at hp;cases hp) aO (rs.mono (.new hp))⟩
end
theorem Sc.QR (c:Sc K H s p ns)(x:Ext (wo H p) (wo H' p))(b:ĸ H' p):Sc K H' s p ns:=by
 refine⟨?_,c.LC,c.ne,b⟩;rcases c.sq with(h | ⟨o,h⟩) | h
 ·exact .inl (.inl (ai _ _ _ _ (x _ _ (bw c.ne h))))
 ·exact .inl (.inr ⟨o,ai _ _ _ _ (x _ _ (bw c.ne h))⟩)
 ·exact .inr h
def KD:List (Int × Int):=[(1,2),(1,2),(1,3),(2,3),(1,4),(5,7),(1,100),(99,100)]
def tZ (c:Int × Int):PyData:=.tuple [.int c.1,.int c.2]
theorem qJ:∀ c∈KD,dm (tZ c)=true:=ao
theorem l_.wo {C:Nat->Addr}{H:Hp}{p:Addr}{r:R0}{v:V}(h:l_ C H r v)(b:ĸ H p):l_ C (wo H p) r v:=h.ġ λ a o e n=>by
 obtain⟨_,_,_,hp,_⟩:=b.ex;exact bw (λ z=>by subst z;rw [hp] at e;cases e;exact n _ rfl) e
section
variable {K:Frag}{C:Nat->Addr}{CN CS CT CM:Addr}{H:Hp}{R:VK}{E:XK}{x dx:Addr}
theorem pW (hx:H x=none)(hd:H dx=none)(ne:dx≠x)(ok:(R0.split n k).ok)(q:∀ H',Ext H H'->Ru C H' (.one (.split n k)) (.ref x)->R .ą H'):oP C CN [.ref x,.int n,.int k] (af (af H dx (.own x)) x (.ins (C 0) dx [])) R E:=by
 have xe:=dE (u:=.own x) (v:=.ins (C 0) dx []) hx hd ne;obtain⟨o1,o2,o3,o4⟩:=id ok;refine⟨x,_,_,_,_,dx,rfl,aO,.int _,.int _,λ h=>(by rw [gS o1 o2] at h;cases h),λ m e _ _ h=>(by cases e;rw [gS o3 o4] at h;cases h),λ n' k' e1 e2 _ H' kp ru=>?_⟩
 cases e1;cases e2;exact q H' (xe.kp hx kp) ru
theorem qH (hx:H x=none)(hd:H dx=none)(ne:dx≠x)(rc:ė H c (.tuple [.int a,.int b]))(ok:(R0.pairs n a b).ok)(q:∀ H',Ext H H'->Ru C H' (.one (.pairs n a b)) (.ref x)->R .ą H'):lP C CN CS [.ref x,.int n,c] (af (af H dx (.own x)) x (.ins (C 1) dx [])) R E:=by
 have xe:=dE (u:=.own x) (v:=.ins (C 1) dx []) hx hd ne;obtain⟨o1,o2,o3⟩:=id ok;refine⟨x,_,_,_,_,dx,rfl,aO,.int _,rc.mono xe,λ h=>(by rw [gS o1 o2] at h;cases h),λ _ h=>(by rw [o3] at h;cases h),λ n' a' b' e1 e2 _ H' kp ru=>?_⟩
 cases e1;cases e2;exact q H' (xe.kp hx kp) ru
theorem p6 (hx:H x=none)(hd:H dx=none)(ne:dx≠x)(rc:ė H c (.tuple [.int a,.int b]))(ok:(R0.ŏ n a b f).ok)(q:∀ H',Ext H H'->Ru C H' (.one (.ŏ n a b f)) (.ref x)->R .ą H'):lc C CN CS [.ref x,.int n,c,.int f] (af (af H dx (.own x)) x (.ins (C 2) dx [])) R E:=by
 have xe:=dE (u:=.own x) (v:=.ins (C 2) dx []) hx hd ne;obtain⟨o1,o2,o3,o4,o5⟩:=id ok;refine⟨x,_,_,_,_,_,_,dx,rfl,aO,.int _,rc.mono xe,.int _,λ h=>(by rw [gS o1 o2] at h;cases h),λ _ h=>(by rw [o3] at h;cases h),λ _ _ h=>(by rw [gS o4 o5] at h;cases h),λ n' a' b' f' e1 e2 e3 _ H' kp ru=>?_⟩
 cases e1;cases e2;cases e3;exact q H' (xe.kp hx kp) ru
theorem iA (hx:H x=none)(hd:H dx=none)(ne:dx≠x)(hl:H l=some (.lst ws))(al:Λ C H rs ws)(ok:(Rl.blocks rs).ok)(q:∀ H',Ext H H'->Ru C H' (.blocks rs) (.ref x)->R .ą H'):iu K C CT CM [.ref x,.ref l] (af (af H dx (.own x)) x (.ins (C 3) dx [])) R E:=by
 have xe:=dE (u:=.own x) (v:=.ins (C 3) dx []) hx hd ne;obtain⟨o1,o2,o3,o4⟩:=id ok;exact⟨x,_,dx,H,rfl,aO,xe,hx,.inr (.inr ⟨l,ws,rs,rfl,hl,al,o1,o2,o3,λ h=>absurd o4 ak,λ _ H' kp ru=>q H' (xe.kp hx kp) ru⟩)⟩
theorem qN (hx:H x=none)(hd:H dx=none)(ne:dx≠x)(ru:Ru C H r v)(ok:(Rl.first r m).ok)(q:∀ H',Ext H H'->Ru C H' (.first r m) (.ref x)->R .ą H'):kE C CN [.ref x,v,.int m] (af (af H dx (.own x)) x (.ins (C 4) dx [])) R E:=by
 have xe:=dE (u:=.own x) (v:=.ins (C 4) dx []) hx hd ne;obtain⟨o1,o2,o3⟩:=id ok;refine⟨x,_,_,r,_,dx,H,rfl,aO,xe,hx,ru,Rl.sm o1,.int m,λ h=>(by rw [gS o2 o3] at h;cases h),λ m' e _ _ H' kp ru=>?_⟩
 cases e;exact q H' (xe.kp hx kp) ru
end
section
variable {P:Program}{w:World}{K:Frag}{mg:bL}{base:Heap}{C:Nat->Addr}{CR CN CS CT CM f f0 f1 f2 f3 f4 a1:Addr}{fd e0 e1 e2 e3 e4 d1:FuncData}
abbrev qc:Stmt:=bZ 68
abbrev qp (i:Nat):Stmt:=(aF qc).getD i (.Pass ⟨0,0,0,0⟩)
abbrev wL:List Str:=["_law_script","_law_pen","_law_most","_law_coin","_law_way","_law_pairs","_law_folk_here"]
theorem L4:ad wL ["_law_script","_law_pen","_law_most"] (aa qc):=aK
def Θ (C:Nat->Addr)(H:Hp)(v:V)(r:R0):Prop:=∃ l u,v=.ref l/\H l=some (.lst [.str r.word,u,.int r.Ï])/\l_ C H r u
theorem Θ.ext (h:Θ C H v r)(x:Ext H H'):Θ C H' v r:=by
 obtain⟨l,u,e,hl,ru⟩:=h;exact⟨l,u,e,x _ _ hl,ru.ext x⟩
def nu (K:Frag)(C:Nat->Addr):Sp:=λ vs H Q _=>∃(s p:Addr)(ns:List Int)(m:Int),vs=[.ref s,.ref p,.int m]/\Sc K H s p ns/\1<=m/\m<=20/\∀ l r H',Sc K H' s p ns->Ext (wo H p) (wo H' p)->wo H p l=none->Θ C (wo H' p) (.ref l) r->r.ok->r.Ï <= m->Q (.ref l) H'
def mq (a b:Int):TE:=iE (av (tC (.int a)) (av (tC (.int b)) aJ))
def DO:TA:=av (mq 1 2) (av (mq 1 2) (av (mq 1 3) (av (mq 2 3) (av (mq 1 4) (av (mq 5 7) (av (mq 1 100) (av (mq 99 100) aJ)))))))
def AW (K:Frag):TS:=cG (aS (dP K) (bV DO) (gk K (tC (.int 8)))) (aX 3)
def E4 (K:Frag):TS:=cG (gk K (tC (.int 3))) (aX 4)
def nv (t:TE):TE:=aS (dH λ i j=>.int (i+j)) (tC (.int 1)) t
def DB (K:Frag)(C:Nat->Addr)(CN CS:Addr):TS:=eI (ud (tB (aS uR (aj 4) (tC (.int 1)))) (tB (aS (dH λ i j=>.bl (decide (i>j))) (aj 2) (tC (.int 1)))))
 (aY (cG (nv (gk K (aS (rI kY λ i j=>.int (i/j)) (aj 2) (tC (.int 2))))) (aX 5)) (cH (bV (av (tC (.str "pairs")) (av (dC (C 1) (lP C CN CS) [] E0 (av (aj 5) (av (aj 3) aJ))) (av (aS (rI ų λ i j=>.int (i*j)) (tC (.int 2)) (aj 5)) aJ)))))) cB
def yk (K:Frag):TS:=cG (nv (gk K (aj 2))) (aX 6)
def xU (K:Frag)(C:Nat->Addr)(CN CS:Addr):TS:=eI (tB (aS uR (aj 4) (tC (.int 2)))) (cH (bV (av (tC (.str "coins")) (av (dC (C 2) (lc C CN CS) [] E0 (av (aj 6) (av (aj 3) (av (nv (gk K (aS (dP K) (bV (av (tC (.int 2)) (av (tC (.int 20)) aJ))) (gk K (tC (.int 2)))))) aJ)))) (av (aj 6) aJ))))) cB
def vA (K:Frag)(C:Nat->Addr)(CN:Addr):TS:=cH (bV (av (tC (.str "split")) (av (dC (C 0) (oP C CN) [] E0 (av (aj 6) (av (gk K (aS (dH λ i j=>.int (i+j)) (aj 6) (tC (.int 1)))) aJ))) (av (aj 6) aJ))))
def IH (K:Frag)(C:Nat->Addr)(CN CS:Addr):TS:=aY (AW K) (aY (E4 K) (aY (DB K C CN CS) (aY (yk K) (aY (xU K C CN CS) (vA K C CN)))))
section
variable {cdv:Value}{A:Around}{outer:List Env}{s:Shared}{H:Hp}{E:XK}(L:BB P w K mg base C CN CS CT CM f0 f1 f2 f3 f4 e0 e1 e2 e3 e4)(A1:Df P w K mg base ay 1 "_law_take" ["_law_script","_law_pen","_law_many"] (cV K) a1 d1)(hr:oQ 7 "_law_plain_rule" qc A s f cdv)
include A1 hr
theorem Hv:Bx (PS (aP ay P w K mg base wL "_law_plain_rule" (aa qc) f cdv A outer s H E).ŀ (qp 0) (AW K)):=by
 have Ğ:ó 1 _:=hr.mono ar;exact aM L4.nd rfl (.inl rfl) (Cz gF (iX (fw (fe (fw ⟨aI⟩ (fw ⟨aI⟩ cj))) (fw (fe (fw ⟨aI⟩ (fw ⟨aI⟩ cj))) (fw (fe (fw ⟨aI⟩ (fw ⟨aI⟩ cj))) (fw (fe (fw ⟨aI⟩ (fw ⟨aI⟩ cj)))
  (fw (fe (fw ⟨aI⟩ (fw ⟨aI⟩ cj))) (fw (fe (fw ⟨aI⟩ (fw ⟨aI⟩ cj))) (fw (fe (fw ⟨aI⟩ (fw ⟨aI⟩ cj))) (fw (fe (fw ⟨aI⟩ (fw ⟨aI⟩ cj))) cj)))))))))
  ⟨cL A1 Ğ ag (ac (pv 0) (ac (pv 1) (ac aI au)))⟩)
theorem GR:Bx (PS (aP ay P w K mg base wL "_law_plain_rule" (aa qc) f cdv A outer s H E).ŀ (qp 1) (E4 K)):=by
 have Ğ:ó 1 _:=hr.mono ar;exact aM L4.nd rfl (.inl rfl) ⟨cL A1 Ğ ag (ac (pv 0) (ac (pv 1) (ac aI au)))⟩
theorem G4:Bx (PS (aP ay P w K mg base wL "_law_plain_rule" (aa qc) f cdv A outer s H E).ŀ (qp 3) (yk K)):=by
 have Ğ:ó 1 _:=hr.mono ar;exact aM L4.nd rfl (.inl rfl) ⟨aA bB aI (cL A1 Ğ ag (ac (pv 0) (ac (pv 1) (ac (pv 2) au))))⟩
include L
theorem HH:Bx (PS (aP ay P w K mg base wL "_law_plain_rule" (aa qc) f cdv A outer s H E).ŀ (qp 2) (DB K C CN CS)):=by
 have Ğ:ó 1 _:=hr.mono ar;exact iP ⟨PW.pt (mX (aB eD (pv 4) aI (aC _)) (jM (aB hI (pv 2) aI (aC _))))⟩
  (ae (aM L4.nd rfl (.inl rfl) ⟨aA bB aI (cL A1 Ğ ag (ac (pv 0) (ac (pv 1) (ac (aA fU (pv 2) aI) au))))⟩)
  (bt (eZ (iX (fw ⟨bh⟩ (fw ⟨dL L.k1 L.g1 hr rfl L.m1 L.b1 .nil cw (ac (pv 5) (ac (pv 3) au))⟩ (fw ⟨aA c7 aI (pv 5)⟩ cj))))))) eO
theorem HV:Bx (PS (aP ay P w K mg base wL "_law_plain_rule" (aa qc) f cdv A outer s H E).ŀ (qp 4) (xU K C CN CS)):=by
 have Ğ:ó 1 _:=hr.mono ar;exact iP ⟨aB eD (pv 4) aI (aC _)⟩ (bt (eZ (iX (fw ⟨bh⟩ (fw ⟨dL L.k2 L.g2 hr rfl L.m2 L.b2 .nil cw (ac (pv 6) (ac (pv 3) (ac (aA bB aI (cL A1 Ğ ag (ac (pv 0) (ac (pv 1) (ac (eL gF (bT (ac aI (ac aI au))) (cL A1 Ğ ag (ac (pv 0) (ac (pv 1) (ac aI au))))) au))))) au)))⟩ (fw ⟨pv 6⟩ cj)))))) eO
theorem Gp:Bx (PS (aP ay P w K mg base wL "_law_plain_rule" (aa qc) f cdv A outer s H E).ŀ (qp 5) (vA K C CN)):=by
 have Ğ:ó 1 _:=hr.mono ar;have LD:ó 5 _:=hr.mono ar;exact eZ (iX (fw ⟨bh⟩ (fw ⟨dL L.k0 L.g0 LD rfl L.m0 L.b0 .nil cw (ac (pv 6) (ac (cL A1 Ğ ag (ac (pv 0) (ac (pv 1) (ac (aA bB (pv 6) aI) au)))) au))⟩ (fw ⟨pv 6⟩ cj))))
theorem xD:Bx (ż (aP ay P w K mg base wL "_law_plain_rule" (aa qc) f cdv A outer s H E).ŀ (aF qc) (IH K C CN CS)) :=
 ae (Hv A1 hr) (ae (GR A1 hr) (ae (HH L A1 hr) (ae (G4 A1 hr) (ae (HV L A1 hr) (bt (Gp L A1 hr))))))
end
theorem nq {Q:VK}(ž:Sc K H1 s p ns)(xw:Ext (wo H p) (wo H1 p))(ru:l_ C H1 r (.ref x))(ok:r.ok)(le:r.Ï <= m)
  (q:∀ l r H',Sc K H' s p ns->Ext (wo H p) (wo H' p)->wo H p l=none->Θ C (wo H' p) (.ref l) r->r.ok->r.Ï <= m->Q (.ref l) H')(l:Addr)(hl:H1 l=none):Q (.ref l) (af H1 l (.lst [.str r.word,.ref x,.int r.Ï])):=by
 have x2:=Ext.new (o:=.lst [.str r.word,.ref x,.int r.Ï]) hl;have g2:af H1 l (.lst [.str r.word,.ref x,.int r.Ï]) l=some (.lst [.str r.word,.ref x,.int r.Ï]):=aO;have Τ:=ž.ext x2;refine q l r _ Τ (xw.trans (bo x2 p)) ?_ ⟨l,_,rfl,bw (ž.bx.ne hl) g2,(ru.wo ž.bx).ext (bo x2 p)⟩ ok le;cases e:wo H p l with
 | none=>rfl
 | some o=>have:=ai _ _ _ _ (xw _ _ e);rw [hl] at this;cases this
theorem AJ (H:Hp)(σ:St):Nl H σ DO (KD.map tZ) :=
 .cons (.tup (.cons (.int 1) (.cons (.int 2) .nil)) ar) (.cons (.tup (.cons (.int 1) (.cons (.int 2) .nil)) ar) (.cons (.tup (.cons (.int 1) (.cons (.int 3) .nil)) ar) (.cons (.tup (.cons (.int 2) (.cons (.int 3) .nil)) ar)
  (.cons (.tup (.cons (.int 1) (.cons (.int 4) .nil)) ar) (.cons (.tup (.cons (.int 5) (.cons (.int 7) .nil)) ar) (.cons (.tup (.cons (.int 1) (.cons (.int 100) .nil)) ar) (.cons (.tup (.cons (.int 99) (.cons (.int 100) .nil)) ar) .nil)))))))
theorem zy {De:cP}{u:TS}{H:Hp}{sA p:Addr}{ns:List Int}{o2 o3 o4 o5 o6:Option V}(sc:Sc K H sA p ns)(k:∀ cv co H1,co∈KD->Sc K H1 sA p ns->Ext (wo H p) (wo H1 p)->ė (wo H1 p) cv (tZ co)->u De [some (.ref sA),some (.ref p),o2,some cv,o4,o5,o6] H1) :
  aY (AW K) u De [some (.ref sA),some (.ref p),o2,o3,o4,o5,o6] H:=by
 refine aL (fF ((AJ H _).use ar λ l0 vs H0 x0 n0 g0 rs=>?_));refine bI (sc.ext x0) rfl rfl (λ R r=>r) ar ar λ r H1 r0 r8 ž k1=>?_;have RU:=sc.bx.ne n0;have g1:=k1 _ _ g0 RU;have lv:=rs.length;rw [Ã] at lv;have Q8:r.toNat<vs.length:=by rw [lv];show _<8;omega
 obtain⟨d,ed,rd⟩:=rs.get (Á Q8);rw [Ì] at ed;obtain⟨co,eco,rfl⟩:=Ó.mp ed;have Xp:ė (wo H0 p) vs[r.toNat] (tZ co):=rd.ġ (λ a o e n=>by
  obtain⟨_,_,_,hp,_⟩:=(sc.ext x0).bx.ex;exact bw (λ z=>by subst z;rw [hp] at e;cases e;exact n _ rfl) e) kc
 have er:r=(r.toNat:Int):=ak;refine⟨l0,_,r,vs[r.toNat],rfl,rfl,î.of g1,by have z:=f7 (Á Q8);rwa [<- er] at z,?_⟩
 exact k _ co H1 (Ú eco) ž ((bo x0 p).trans (aH k1)) (Xp.mono (aH k1))
theorem yB {De:cP}{u:TS}{H H2:Hp}{sA p:Addr}{ns:List Int}{m:Int}{cv:V}{co:Int × Int}{o4 o5 o6:Option V}{Q:VK} (Τ:Sc K H2 sA p ns)(xb:Ext (wo H p) (wo H2 p))(Kw:ė (wo H2 p) cv (tZ co))(Mw:dm (tZ co)=true)(em:m>1)(m2:m<=20)(MM:De.rt=Q)
  (q:∀ l r H',Sc K H' sA p ns->Ext (wo H p) (wo H' p)->wo H p l=none->Θ C (wo H' p) (.ref l) r->r.ok->r.Ï <= m->Q (.ref l) H') :
  aY (cG (nv (gk K (aS (rI kY λ i j=>.int (i/j)) (aj 2) (tC (.int 2))))) (aX 5)) (cH (bV (av (tC (.str "pairs")) (av (dC (C 1) (lP C CN CS) [] E0 (av (aj 5) (av (aj 3) aJ))) (av (aS (rI ų λ i j=>.int (i*j)) (tC (.int 2)) (aj 5)) aJ))))) De [some (.ref sA),some (.ref p),some (.int m),some cv,o4,o5,o6] H2:=by
 refine aL ?_;refine bI Τ rfl rfl (λ R r=>⟨_,rfl,_,_,rfl,rfl,⟨ar,ar⟩,r⟩) ak ak λ z H3 z0 zm ω k3=>⟨_,_,rfl,rfl,?_⟩;refine⟨_,rfl,_,rfl,?_⟩;have L7:=Kw.mono (aH k3);refine λ x dx hx hd ne=>qH hx hd ne (L7.mono (ai _ _)) ⟨ak,ak,Mw⟩ λ H6 x6 ru=>⟨rfl,?_⟩;refine⟨_,rfl,_,_,rfl,rfl,.inl ⟨ar,ar⟩,dZ,λ l hl=>?_⟩;rw [MM];exact nq (ω.ext x6) ((xb.trans (aH k3)).trans (bo x6 p)) ru ⟨ak,ak,Mw⟩ (by show 2*(1+z)<=m;omega) q l hl
theorem w5 (ω:Sc K H3 sA p ns)(xc:Ext (wo H p) (wo H3 p))(n1:1<=n)(nm:n<=m)(m2:m<=20)(MM:De.rt=Q)
  (q:∀ l r H',Sc K H' sA p ns->Ext (wo H p) (wo H' p)->wo H p l=none->Θ C (wo H' p) (.ref l) r->r.ok->r.Ï <= m->Q (.ref l) H'):vA K C CN De [some (.ref sA),some (.ref p),o2,o3,o4,o5,some (.int n)] H3:=by
 refine⟨_,rfl,?_⟩;refine bI ω rfl rfl (λ R r=>⟨_,rfl,_,_,rfl,rfl,r⟩) ak ak λ u H7 u0 ub RG k7=>?_;refine λ x dx hx hd ne=>pW hx hd ne ⟨ak,ak,ak,ak⟩ λ H6 x6 ru=>⟨rfl,?_⟩;refine⟨_,rfl,dZ,λ l hl=>?_⟩;rw [MM];exact nq (RG.ext x6) ((xc.trans (aH k7)).trans (bo x6 p)) ru ⟨ak,ak,ak,ak⟩ (by show n<=m;omega) q l hl
def EX (K:Frag):TE:=gk K (aS (dP K) (bV (av (tC (.int 2)) (av (tC (.int 20)) aJ))) (gk K (tC (.int 2))))
theorem xo (ω:Sc K H3 sA p ns)(h0:σ[0]?=some (some (.ref sA)))(h1:σ[1]?=some (some (.ref p)))(k:∀ u H5,0<=u->u<20->Sc K H5 sA p ns->Ext (wo H3 p) (wo H5 p)->R (.int u) H5):EX K σ H3 R:=by
 refine⟨_,h0,_,h1,dZ,λ l5 h5=>?_⟩;have x5:=Ext.new (o:=.lst [V.int 2,.int 20]) h5;have g5:af H3 l5 (.lst [V.int 2,.int 20]) l5=some (.lst [V.int 2,.int 20]):=aO;have n5:=ω.bx.ne h5;have LA:=ω.ext x5;generalize af H3 l5 (.lst [.int 2,.int 20])=H4 at x5 g5 LA ⊢;refine bI LA h0 h1 (λ R r=>r) ar ar λ j H6 j0 j2 KQ k6=>?_;have g6:=k6 _ _ g5 n5;obtain⟨b,eb,b1,b2⟩:∃ b:Int,([.int 2,.int 20]:List V)[j.toNat]?=some (.int b)/\2<=b/\b<=20:=by
  rcases(by omega:j=0\/j=1) with rfl | rfl
  ·exact⟨2,rfl,ar,ar⟩
  ·exact⟨20,rfl,ar,ar⟩
 have ej:j=(j.toNat:Int):=ak;refine⟨l5,_,j,.int b,rfl,rfl,î.of g6,by rw [ej];exact f7 eb,?_⟩
 exact⟨sA,ns,p,b,rfl,KQ.sq,KQ.LC,KQ.ne,KQ.bx,ak,ak,λ u H7 u0 ub Z2 k7 _=>k u H7 ak ak (KQ.kept k7 Z2) (((bo x5 p).trans (aH k6)).trans (aH k7))⟩
theorem xi (ω:Sc K H3 sA p ns)(xc:Ext (wo H p) (wo H3 p))(L7:ė (wo H3 p) cv (tZ co))(Mw:dm (tZ co)=true)(n1:1<=n)(nm:n<=m)(m2:m<=20)(MM:De.rt=Q)
  (q:∀ l r H',Sc K H' sA p ns->Ext (wo H p) (wo H' p)->wo H p l=none->Θ C (wo H' p) (.ref l) r->r.ok->r.Ï <= m->Q (.ref l) H') :
  cH (bV (av (tC (.str "coins")) (av (dC (C 2) (lc C CN CS) [] E0 (av (aj 6) (av (aj 3) (av (nv (EX K)) aJ)))) (av (aj 6) aJ)))) De [some (.ref sA),some (.ref p),o2,some cv,o4,o5,some (.int n)] H3:=by
 refine⟨_,rfl,_,rfl,?_⟩;refine xo ω rfl rfl λ u H5 u1 u2 LA x5=>⟨_,_,rfl,rfl,?_⟩;refine λ x dx hx hd ne=>p6 hx hd ne ((L7.mono x5).mono (ai _ _)) ⟨ak,ak,Mw,ak,ak⟩ λ H6 x6 ru=>⟨rfl,?_⟩;refine⟨_,rfl,dZ,λ l hl=>?_⟩;rw [MM];exact nq (LA.ext x6) ((xc.trans x5).trans (bo x6 p)) ru ⟨ak,ak,Mw,ak,ak⟩ (by show n<=m;omega) q l hl
theorem qW {De:cP}{H H2:Hp}{sA p:Addr}{ns:List Int}{m y:Int}{cv:V}{co:Int × Int}{o5 o6:Option V}{Q:VK} (Τ:Sc K H2 sA p ns)(xb:Ext (wo H p) (wo H2 p))(Kw:ė (wo H2 p) cv (tZ co))(Mw:dm (tZ co)=true)(m1:1<=m)(m2:m<=20)(MM:De.rt=Q)
  (q:∀ l r H',Sc K H' sA p ns->Ext (wo H p) (wo H' p)->wo H p l=none->Θ C (wo H' p) (.ref l) r->r.ok->r.Ï <= m->Q (.ref l) H'):aY (yk K) (aY (xU K C CN CS) (vA K C CN)) De [some (.ref sA),some (.ref p),some (.int m),some cv,some (.int y),o5,o6] H2:=by
 refine aL ?_;refine bI Τ rfl rfl (λ R r=>⟨_,rfl,r⟩) ak ak λ z H3 z0 zm ω k3=>⟨_,_,rfl,rfl,?_⟩;have xc:=xb.trans (aH k3);have L7:=Kw.mono (aH k3);refine⟨_,rfl,rfl,_,rfl,?_⟩;by_cases e2:y=2
 ·rw [Ê (by rw [e2])]
  exact cU (xi ω xc L7 Mw ak ak m2 MM q)
 ·rw [Í (λ z=>e2 (V.int.inj z))];exact cM (w5 ω xc ak ak m2 MM q)
theorem Ag {H:Hp}{sA p:Addr}{ns:List Int}{m:Int}{o3 o4 o5 o6:Option V}{De:cP}(sc:Sc K H sA p ns)(m1:1<=m)(m2:m<=20)
  (q:∀ l r H',Sc K H' sA p ns->Ext (wo H p) (wo H' p)->wo H p l=none->Θ C (wo H' p) (.ref l) r->r.ok->r.Ï <= m->De.rt (.ref l) H'):Bx (IH K C CN CS De [some (.ref sA),some (.ref p),some (.int m),o3,o4,o5,o6] H):=by
 refine⟨zy sc λ cv co H1 YJ ž xa RR=>?_⟩;refine aL ?_;refine bI ž rfl rfl (λ R r=>r) ar ar λ y H2 y0 y3 Τ k2=>?_;have xb:=xa.trans (aH k2);have Kw:=RR.mono (aH k2);have Mw:=qJ co YJ;refine⟨_,rfl,rfl,_,rfl,?_⟩;by_cases e1:y=1
 ·subst e1;refine cU ⟨_,rfl,_,_,rfl,rfl,_,rfl,?_⟩;by_cases em:m>1
  ·rw [Ê em];exact cU (yB (u:=cB) Τ xb Kw Mw em m2 rfl q)
  ·rw [Í em];exact cM (qW Τ xb Kw Mw m1 m2 rfl q)
 ·rw [Í (λ z=>e1 (V.int.inj z))];exact cM (cM (qW Τ xb Kw Mw m1 m2 rfl q))
theorem gr (h:Bx (ż X body t))(r:Bx (t D σ H)):∃ t,ż X body t/\t D σ H:=⟨t,h.h,r.h⟩
theorem B7 (F:Ģ K "_law_plain_rule" "_law_plain_rule" qc f fd)(L:BB P w K mg base C CN CS CT CM f0 f1 f2 f3 f4 e0 e1 e2 e3 e4)(A1:Df P w K mg base ay 1 "_law_take" ["_law_script","_law_pen","_law_many"] (cV K) a1 d1):Þ P w K mg base ay 8 f fd ["_law_script","_law_pen","_law_most"] (nu K C):=by
 refine bR F L4 λ cdv A outer s H vs Q E hr h=>?_;obtain⟨sA,p,ns,m,rfl,sc,m1,m2,q⟩:=h;exact gr (xD L A1 hr) (Ag sc m1 m2 q)
end
theorem ju:∀{cl:List (Str × Addr)}{z:Str},z∈cl.map (·.1)->∃ c,cl.lookup z=some c
 | (x,d)::cl,z,h=>by
  by_cases e:z=x
  ·subst e;exact⟨d,ig⟩
  ·rw [ë,á] at h;rcases h with h | h
   ·exact absurd h e
   ·obtain⟨c,hc⟩:=ju h;exact⟨c,jX e hc⟩
theorem c8 (δ:closureFor sc X.env=pure cl)(kind:sc.kind=.function)(nc:∀ y∈sc.names,y.2 ≠ .cell)(nm:∀ y∈sc.names,y.2=.local->sc.names.lookup y.1=some .local)(var:∀ x∈ts,sc.names.lookup x=some .local)
  (hM:cl.map (·.1)=M)(hc:cl.map (λ y=>X.env.cells.lookup y.1)=cl.map (λ y=>some y.2))(rl:(relabel sc X.env).names=L)(has:∀ y∈L,(y.2=.cell\/y.2=.free)->y.1∈M)(nd:(ts++zs).Nodup)
  (hj:zs.map some=js.map (λ j=>X.N[j]?))(hv:zs.map (λ z=>X.env.scope.names.lookup z)=zs.map (λ _=>some .cell))(hl:zs.map (λ z=>L.lookup z)=zs.map (λ _=>some .cell)):aT X sc cl ts zs js:=by
 have ln:js.length=zs.length:=by have:=Ĕ List.length hj;simpa using this.symm
 refine⟨δ,kind,nc,nm,var,λ z c h=>?_,λ z h=>?_,nd,λ k z h=>?_,ln⟩
 ·have m:=ç h;obtain⟨i,hi,e⟩:=Ġ m;have q:=Ĕ (λ l=>l[i]?) hc;simp only [List.getElem?_map,List.getElem?_eq_getElem hi,e,Option.map_some] at q;exact Ý q
 ·rw [rl] at h;refine ju ?_;rw [hM];rcases h with h | h
  ·exact has _ (ç h) (.inl rfl)
  ·exact has _ (ç h) (.inr rfl)
 ·have hk:=(Æ.mp h).1;have Ra:k<js.length:=by rw [ln];exact hk
  have q:=Ĕ (λ l=>l[k]?) hj;simp only [List.getElem?_map,h,List.getElem?_eq_getElem Ra,Option.map_some] at q;have v:=Ĕ (λ l=>l[k]?) hv;simp only [List.getElem?_map,h,Option.map_some] at v;have u:=Ĕ (λ l=>l[k]?) hl;simp only [List.getElem?_map,h,Option.map_some] at u;have v':=Ý v;refine⟨js[k],Á Ra,(Ý q).symm,.inr (.inl v'),λ e=>?_,.inl (by rw [rl];exact Ý u)⟩
  have e':X.env.scope.names.lookup z=some .local:=e;rw [v'] at e';cases e'
section
variable {K:Frag}{te:TE}{tt:TT}{g:TG}{k:Nat}{cap:St}{D:Addr}{H1:Hp}{Q:Hp->Prop}{a:Addr}{xs:List V}
theorem fR (Pv:Nat->List V->Hp->Prop)(hz:xs.length<sizeLine)(h0:Pv 0 [] (af H1 D (.lst [])))(hl:∀ i ys H,Pv i ys H->î K H a xs)
  (hs:∀(i:Nat) x ys H,xs[i]?=some x->ys.length<=i->H D=some (.lst ys)->Pv i ys H->∀ os:St,os.length=k->∀ N:List V->Hp->Prop,(∀ KL H',Pv (i+1) KL H'->KL.length<=i+1->H' D=some (.lst KL)->N KL H') ->
   g x (os++cap) H λ Ĭ H0=>(∃ ł:St,ł.length=k/\Ĭ = ł ++ cap)/\tt Ĭ H0 λ b H5=>(b=false->N ys H5)/\(b=true->te Ĭ H5 λ y H4=>H4 D=some (.lst ys)/\N (ys ++ [y]) (af H4 D (.lst (ys ++ [y])))))
  (hd:∀ ys H,ys.length<=xs.length->H D=some (.lst ys)->Pv xs.length ys H->Q H) :
  ∃ W:Nat->Nat->List V->Hp->Prop,(∃ m,W 0 m [] (af H1 D (.lst []))) /\
   ∀ i m ys H2,W i m ys H2->H2 D=some (.lst ys)/\(((ji K a).stop i H2/\Q H2)\/((ji K a).go i H2/\ys.length<sizeLine /\
    ∀ x H3,(ji K a).JD i H2 x H3->∀ os:St,os.length=k->g x (os++cap) H3 λ Ĭ H0=>(∃ ł:St,ł.length=k/\Ĭ = ł ++ cap)/\tt Ĭ H0 λ b H5=>(b=false->∃ m',m'<m/\W (i+1) m' ys H5) /\
     (b=true->te Ĭ H5 λ y H4=>H4 D=some (.lst ys)/\∃ m',m'<m/\W (i+1) m' (ys ++ [y]) (af H4 D (.lst (ys ++ [y])))))):=by
 refine⟨λ i m ys H=>m=xs.length-i/\i<=xs.length/\ys.length<=i/\H D=some (.lst ys)/\Pv i ys H,⟨xs.length,by simp,Nat.zero_le _,Nat.le_refl _,aO,h0⟩,?_⟩
 rintro i m ys H ⟨rfl,hi,hy,K2,p⟩;refine⟨K2,?_⟩;have q:=hl i ys H p;by_cases ź:i<xs.length
 ·refine .inr ⟨⟨xs,xs[i],q,by simp [ź]⟩,ak,λ x H' y os į=>?_⟩
  obtain⟨e,y⟩:=y;subst e;exact hs i x ys _ (y xs q) hy K2 p os į (λ KL Tj=>∃ m',m'<xs.length-i/\(m'=xs.length-(i+1)/\i+1<=xs.length/\KL.length<=i+1/\Tj D=some (.lst KL)/\Pv (i+1) KL Tj)) λ KL Tj p' l' d'=>⟨xs.length-(i+1),ak,rfl,ź,l',d',p'⟩
 ·have e:i=xs.length:=ak;subst e;exact .inl ⟨⟨xs,q,Ç _⟩,hd ys H hy K2 p⟩
end
section
variable {P:Program}{w:World}{K:Frag}{mg:bL}{base:Heap}{C:Nat->Addr}{CR CN CS CT CM f f0 f1 f2 f3 f4 a1 a2:Addr}{fd e0 e1 e2 e3 e4 d1 d2:FuncData}
abbrev lG:Stmt:=bZ 69
abbrev nH (i:Nat):Stmt:=(aF lG).getD i (.Pass ⟨0,0,0,0⟩)
abbrev qT:List Str:=["_law_script","_law_pen","_law_most","_law_several","_law_many","_law_blocks","_law_first","_law_word","_law_rule_here","_law_folk_here"]
theorem f_:ad qT ["_law_script","_law_pen","_law_most"] (aa lG):=aK
abbrev FK:Scope:=cC [("_law_k",.local),("_law_plain_rule",.globalImplicit),("max",.globalImplicit),("_law_most",.free),("_law_pen",.free),("_law_script",.free)]
abbrev HY:Scope:=cC [("_law_one",.local)]
abbrev BY:Scope:=cC [("_law_word",.local),("_law_folk_here",.local),("_law_many",.free)]
abbrev Hu:Scope:=cC [("_law_place",.local),("_law_many",.free)]
abbrev Hz:Scope:=cC [("_law_word",.local),("_law_folk_here",.local)]
theorem G0:((["_law_k"]:List Str)++(["_law_most","_law_pen","_law_script"]:List Str)).Nodup:=ao
theorem HK:((["_law_one"]:List Str)++([]:List Str)).Nodup:=ao
theorem CK:((["_law_word","_law_folk_here"]:List Str)++(["_law_many"]:List Str)).Nodup:=ao
theorem Hc:((["_law_place"]:List Str)++(["_law_many"]:List Str)).Nodup:=ao
theorem qO:((["_law_word","_law_folk_here"]:List Str)++([]:List Str)).Nodup:=ao
def ID (K:Frag)(i:Nat):TE:=jg (λ xs H Q=>∃ i j,xs=[.int i,.int j]/\Q (.int (if j>i then j else i)) H) (av (tC (.int 1)) (av (aS (rI kY λ i j=>.int (i/j)) (aj i) (tC (.int 3))) aJ))
def D5 (K:Frag)(C:Nat->Addr):TE:=eu (nu K C) [] E0 (av (aj 3) (av (aj 2) (av (ID K 1) aJ)))
def yz (K:Frag)(C:Nat->Addr):TS:=cG (bV (av (eu (nu K C) [] E0 (av (aj 0) (av (aj 1) (av (aj 2) aJ)))) aJ)) (aX 3)
def Aj (K:Frag)(C:Nat->Addr):TS:=eI (tB (aS uR (gk K (tC (.int 3))) (tC (.int 0)))) (aY (cG (nv (gk K (tC (.int 4)))) (aX 4)) (cG (cD (lJ (av (aj 4) aJ)) 1 [2,1,0] (aX 0) (D5 K C)) (aX 3))) cB
def wE (K:Frag):TS:=aY (lu (DE K "list" pG (aj 5) (av (iE (av (aj 7) (av (jg vZ (av (jg wr (av (aj 6) (av (aS (dH λ i j=>.int (i+j)) (aj 6) (aj 9)) aJ))) aJ)) aJ))) aJ))) (cG (aS (dH λ i j=>.int (i+j)) (aj 6) (aj 9)) (aX 6))
def u6 (K:Frag):TS:=lA (bn K (aj 3)) (sP K 3 (c5 (aX 7) (c5 (aX 8) (c5 (aX 9) mI)))) (wE K)
def AD (K:Frag):TS:=cG (aS (dP K) (aS (dP K) (aj 3) (tC (.int 0))) (tC (.int 1))) (aX 8)
def xz (K:Frag):TE:=aS (dP K) (aj 0) (tC (.int 1))
def Ai (K:Frag)(C:Nat->Addr)(CT CM:Addr):TS:=eI (DM (tB (aS (dH λ i j=>.bl (decide (i>j))) (jg (λ xs H Q=>∃ p ys,xs=[.ref p]/\(î K H p ys\/ĝ K H p ys)/\Q (.int ys.length) H) (av (aj 3) aJ)) (tC (.int 1)))) (tB (aS uR (gk K (tC (.int 4))) (tC (.int 0)))))
 (cG (dC (C 3) (iu K C CT CM) [] E0 (av (cD (bn K (aj 3)) 1 [] (aX 0) (xz K)) aJ)) (aX 8)) cB
def GT:TT:=tB (aS (dH λ i j=>.bl (decide (i<j))) (aj 0) (aj 1))
def IW (K:Frag):TE:=gh (bn K (aj 1)) 1 [2] (aX 0) GT (aj 0)
def yX (K:Frag):TE:=iE (av (aj 0) (av (IW K) aJ))
def yC (K:Frag):TG:=p0 K 2 (c5 (aX 0) (c5 (aX 1) mI))
def Fk (K:Frag):TS:=cG (gk K (aS (dH λ i j=>.int (i+j)) (aj 6) (tC (.int 1)))) (aX 4)
def DC (K:Frag)(C:Nat->Addr)(CN:Addr):TS:=cG (dC (C 4) (kE C CN) [] E0 (av (aj 8) (av (aj 4) aJ))) (aX 8)
def Ec (K:Frag):TS:=cG (cD (bn K (aj 5)) 2 [4] (yC K) (yX K)) (aX 5)
def xV (K:Frag)(C:Nat->Addr)(CN:Addr):TS:=eI (tB (aS uR (gk K (tC (.int 4))) (tC (.int 0)))) (aY (Fk K) (aY (DC K C CN) (Ec K))) cB
def Hb (K:Frag):TT:=tB (aS (oh K) (aj 1) (bV aJ))
def AE (K:Frag):TS:=cH (iE (av (aj 8) (av (gh (bn K (aj 5)) 2 [] (yC K) (Hb K) (iE (av (aj 0) (av (aj 1) aJ)))) aJ)))
def IK (K:Frag)(C:Nat->Addr)(CN CT CM:Addr):TS:=aY (yz K C) (aY (Aj K C) (aY (cG (bV aJ) (aX 5)) (aY (cG (tC (.int 0)) (aX 6)) (aY (u6 K) (aY (AD K) (aY (Ai K C CT CM) (aY (xV K C CN) (AE K))))))))
section
variable {cdv:Value}{A:Around}{outer:List Env}{s:Shared}{H:Hp}{E:XK}(L:BB P w K mg base C CN CS CT CM f0 f1 f2 f3 f4 e0 e1 e2 e3 e4)(A1:Df P w K mg base ay 1 "_law_take" ["_law_script","_law_pen","_law_many"] (cV K) a1 d1)(A2:Df P w K mg base ay 8 "_law_plain_rule" ["_law_script","_law_pen","_law_most"] (nu K C) a2 d2)(hr:oQ 8 "_law_rule" lG A s f cdv)
theorem yW:aT (aP ay P w K mg base qT "_law_rule" (aa lG) f cdv A outer s H E).ŀ FK [("_law_script",s.heap.objs.size+1),("_law_pen",s.heap.objs.size+2),("_law_most",s.heap.objs.size+3)] ["_law_k"] ["_law_most","_law_pen","_law_script"] [2,1,0] :=
 c8 (M:=["_law_script","_law_pen","_law_most"]) (L:=[(".0",.local),("_law_k",.local),("_law_plain_rule",.globalImplicit),("max",.globalImplicit),("_law_most",.cell),("_law_pen",.cell),("_law_script",.cell)]) rfl rfl ao ao ao rfl rfl rfl ao ao rfl rfl rfl
theorem xn:aT X HY [] ["_law_one"] [] []:=fG (L:=[(".0",.local),("_law_one",.local)]) rfl rfl ao ao ao rfl ao ao
theorem xH:aT (aP ay P w K mg base qT "_law_rule" (aa lG) f cdv A outer s H E).ŀ BY [("_law_many",s.heap.objs.size+4)] ["_law_word","_law_folk_here"] ["_law_many"] [4] :=
 c8 (M:=["_law_many"]) (L:=[(".0",.local),("_law_word",.local),("_law_folk_here",.local),("_law_many",.cell)]) rfl rfl ao ao ao rfl rfl rfl ao ao rfl rfl rfl
theorem AF:aT (bE (aP ay P w K mg base qT "_law_rule" (aa lG) f cdv A outer s H E).ŀ BY [("_law_many",s.heap.objs.size+4)] ((["_law_word","_law_folk_here"]:List Str)++(["_law_many"]:List Str)) s' H' C1 fp) Hu [("_law_many",s.heap.objs.size+4)] ["_law_place"] ["_law_many"] [2] :=
 c8 (M:=["_law_many"]) (L:=[(".0",.local),("_law_place",.local),("_law_many",.cell)]) rfl rfl ao ao ao rfl rfl rfl ao ao rfl rfl rfl
theorem yG:aT X Hz [] ["_law_word","_law_folk_here"] [] []:=fG (L:=[(".0",.local),("_law_word",.local),("_law_folk_here",.local)]) rfl rfl ao ao ao rfl ao ao
include A2 hr
theorem GS:Bx (PS (aP ay P w K mg base qT "_law_rule" (aa lG) f cdv A outer s H E).ŀ (nH 0) (yz K C)) :=
 aM f_.nd rfl (.inl rfl) (iX (fw ⟨cL A2 hr ag (ac (pv 0) (ac (pv 1) (ac (pv 2) au)))⟩ cj))
include A1
theorem HP (mr:mg "range" = none)(mm:mg "max" = none)(mi:mg "int" = none):Bx (PS (aP ay P w K mg base qT "_law_rule" (aa lG) f cdv A outer s H E).ŀ (nH 1) (Aj K C)):=by
 have Ğ:ó 1 _:=hr.mono ar;exact iP ⟨aB eD (cL A1 Ğ ag (ac (pv 0) (ac (pv 1) (ac aI au)))) aI (aC _)⟩
  (ae (aM (i:=4) f_.nd rfl (Or.inr rfl) ⟨aA bB aI (cL A1 Ğ ag (ac (pv 0) (ac (pv 1) (ac aI au))))⟩)
  (bt ⟨jU (iy:=3) (te:=D5 K C) (g:=aX 0) rfl yW (fS rfl mr (ac (pv 4) au)) (λ s H C fp=>by exact cA (i:=0) G0 rfl (.inl rfl)) (λ s H C fp=>by
   exact cL A2 hr ag (ac (pv 3) (ac (pv 2) (ac (aq (qG rfl) rfl mm PyProof.Rows.boot_max (ac aI (ac (aA fU (pv 1) aI) au))) au)))) f_.nd rfl (Or.inl rfl) rfl⟩)) eO
omit A1 A2 hr
theorem Gk (ml:mg "list" = none)(mr:mg "range" = none):Bx (PS (aP ay P w K mg base qT "_law_rule" (aa lG) f cdv A outer s H E).ŀ (nH 4) (u6 K)):=by
 have nd:=f_.nd;exact⟨dR .never rfl (aG (pv 3)) (pR rfl (eN (cA nd rfl (.inl rfl)) (eN (cA nd rfl (.inl rfl)) (eN (cA nd rfl (.inl rfl)) bA))))
  (cn (ax (kI Ĳ MV MU dz (pv 5) (ac (bK (ac (pv 7) (ac (aU (qx rfl) rfl ml ĕ (ac (aU jC rfl mr Φ (ac (pv 6) (ac (aA bB (pv 6) (pv 9)) au))) au)) au))) au)))
  (bp (jI nd rfl (.inl rfl) (aA bB (pv 6) (pv 9)))))⟩
theorem F3:Bx (PS (aP ay P w K mg base qT "_law_rule" (aa lG) f cdv A outer s H E).ŀ (nH 5) (AD K)) :=
 aM f_.nd rfl (.inl rfl) ⟨eL gF (eL gF (pv 3) aI) aI⟩
include L A1 hr
theorem Gr (ml:mg "len" = none):Bx (PS (aP ay P w K mg base qT "_law_rule" (aa lG) f cdv A outer s H E).ŀ (nH 6) (Ai K C CT CM)):=by
 have Ğ:ó 1 _:=hr.mono ar;have LD:ó 5 _:=hr.mono ar;exact iP ⟨PW.pt (f8 (aB hI (aq aw rfl ml è (ac (pv 3) au)) aI (aC _)) (dW (aB eD (cL A1 Ğ ag (ac (pv 0) (ac (pv 1) (ac aI au)))) aI (aC _))))⟩
  (bt (aM f_.nd rfl (.inl rfl) ⟨dL L.k3 L.g3 LD rfl L.m3 L.b3 .nil cw (ac (bH rfl xn (aG (pv 3)) (λ s H C fp=>cA HK rfl (.inl rfl)) (λ s H C fp=>eL gF (pv 0) aI)) au)⟩)) eO
theorem HE:Bx (PS (aP ay P w K mg base qT "_law_rule" (aa lG) f cdv A outer s H E).ŀ (nH 7) (xV K C CN)):=by
 have Ğ:ó 1 _:=hr.mono ar;have LD:ó 5 _:=hr.mono ar;exact iP ⟨aB eD (cL A1 Ğ ag (ac (pv 0) (ac (pv 1) (ac aI au)))) aI (aC _)⟩
  (ae (aM f_.nd rfl (.inr rfl) ⟨cL A1 Ğ ag (ac (pv 0) (ac (pv 1) (ac (aA bB (pv 6) aI) au)))⟩)
  (ae (aM f_.nd rfl (.inl rfl) ⟨dL L.k4 L.g4 LD rfl L.m4 L.b4 .nil cw (ac (pv 8) (ac (pv 4) au))⟩)
  (bt ⟨jU rfl xH (aG (pv 5)) (λ s H C fp=>cr rfl (eN (cA CK rfl (.inl rfl)) (eN (cA CK rfl (.inl rfl)) bA))) (λ s H C fp=>by
   exact bK (ac (pv 0) (ac (eR rfl AF (aG (pv 1)) (λ s H C fp=>cA Hc rfl (.inl rfl)) (λ s H C fp=>aB pD (pv 0) (pv 1) (aC _)) (λ s H C fp=>pv 0)) au))) f_.nd rfl (.inl rfl) rfl⟩))) eO
omit L A1
theorem HR:Bx (PS (aP ay P w K mg base qT "_law_rule" (aa lG) f cdv A outer s H E).ŀ (nH 8) (AE K)):=by
 have hu:=hr.JM;exact eZ (fe (fw ⟨pv 8⟩ (fw ⟨eR rfl yG (aG (pv 5)) (λ s H C fp=>cr rfl (eN (cA qO rfl (.inl rfl)) (eN (cA qO rfl (.inl rfl)) bA))) (λ s H C fp=>aB (kK hu) (pv 1) (bT au) (aC _)) (λ s H C fp=>bK (ac (pv 0) (ac (pv 1) au)))⟩ cj)))
include L A1 A2
theorem AL (mr:mg "range" = none)(mm:mg "max" = none)(mi:mg "int" = none)(ml:mg "list" = none)(mn:mg "len" = none):Bx (ż (aP ay P w K mg base qT "_law_rule" (aa lG) f cdv A outer s H E).ŀ (aF lG) (IK K C CN CT CM)) :=
 ae (GS A2 hr) (ae (HP A1 A2 hr mr mm mi) (ae (aM f_.nd rfl (.inl rfl) ⟨bT au⟩) (ae (aM f_.nd rfl (.inl rfl) ⟨aI⟩) (ae (Gk ml mr) (ae F3 (ae (Gr L A1 hr mn) (ae (HE L A1 hr) (bt (HR hr)))))))))
end
end
def Kh {α β:Type}(R:α->β->Prop)(xs:List α)(ys:List β):Prop:=xs.length=ys.length/\∀(i:Nat) x y,xs[i]?=some x->ys[i]?=some y->R x y
theorem Kh.nil {α β:Type}{R:α->β->Prop}:Kh R [] []:=⟨rfl,λ i x y h=>by simp at h⟩
theorem Kh.mono {α β:Type}{R S:α->β->Prop}{xs:List α}{ys:List β}(h:Kh R xs ys)(k:∀ x y,R x y->S x y):Kh S xs ys:=⟨h.1,λ i x y a b=>k x y (h.2 i x y a b)⟩
theorem Kh.app {α β:Type}{R:α->β->Prop}{xs:List α}{ys:List β}{x:α}{y:β}(h:Kh R xs ys)(k:R x y):Kh R (xs ++ [x]) (ys ++ [y]):=by
 refine⟨by rw [É,É,h.1];rfl,λ i a b ha hb=>?_⟩
 rcases ī i xs.length with lt | ge
 ·rw [ò lt] at ha;rw [ò (by rw [<- h.1];exact lt)] at hb
  exact h.2 i a b ha hb
 ·rw [å ge] at ha;rw [å (by rw [<- h.1];exact ge),<- h.1] at hb
  match i-xs.length,ha,hb with
  | 0,ha,hb=>cases ha;cases hb;exact k
  | n+1,ha,hb=>simp at ha
theorem Kh.at {α β:Type}{R:α->β->Prop}{xs:List α}{ys:List β}(h:Kh R xs ys){i:Nat}{x:α}(e:xs[i]?=some x):∃ y,ys[i]?=some y/\R x y:=by
 have l:i<ys.length:=by rw [<- h.1];exact(Æ.mp e).1
 exact⟨ys[i],Á l,h.2 i _ _ e (Á l)⟩
theorem ir {m:Int}:∀{rs:List R0},(∀ r∈rs,r.Ï <= m)->(rs.map R0.Ï).sum<=rs.length*m
 | [],_=>by simp
 | r::rs,h=>by
  have h1:=h r (ì ..);have h2:=ir λ x hx=>h x (Ø _ hx);simp only [List.map_cons,List.sum_cons,List.length_cons];have:((rs.length+1:Nat):Int)*m=rs.length*m+m:=by rw [υ,Int.add_mul];omega
  omega
structure Sv (C:Nat->Addr)(G:Hp)(sv:Addr)(rs:List R0):Prop where
 ex:∃ xs,G sv=some (.lst xs)/\Kh (Θ C G) xs rs
 l1:1<=rs.length
 l4:rs.length<=4
 ok:∀ r∈rs,r.ok
 sm:(rs.map R0.Ï).sum<=20
theorem Sv.ext {C:Nat->Addr}{G G':Hp}{sv:Addr}{rs:List R0}(h:Sv C G sv rs)(x:Ext G G'):Sv C G' sv rs:=by
 obtain⟨xs,e,al⟩:=h.ex;exact⟨⟨xs,x _ _ e,al.mono λ _ _ r=>r.ext x⟩,h.l1,h.l4,h.ok,h.sm⟩
section
variable {P:Program}{w:World}{K:Frag}{mg:bL}{base:Heap}{C:Nat->Addr}{CR CN CS CT CM:Addr}{De:cP}{u:TS}{H:Hp}{sA p:Addr}{ns:List Int}{m:Int}{o3 o4 o5 o6 o7 o8 o9:Option V}
theorem Bl (sc:Sc K H sA p ns)(m1:1<=m)(m2:m<=20)(k:∀ sv rs H',Sc K H' sA p ns->Ext (wo H p) (wo H' p)->Sv C (wo H' p) sv rs->u De [some (.ref sA),some (.ref p),some (.int m),some (.ref sv),o4,o5,o6,o7,o8,o9] H') :
  aY (yz K C) u De [some (.ref sA),some (.ref p),some (.int m),o3,o4,o5,o6,o7,o8,o9] H:=by
 refine aL ?_;refine⟨_,rfl,_,rfl,_,rfl,sA,p,ns,m,rfl,sc,m1,m2,λ l r H1 ž x1 n1 row ok le=>⟨dZ,λ sv h_=>?_⟩⟩;have x2:=Ext.new (o:=.lst [V.ref l]) h_;have g2:af H1 sv (.lst [V.ref l]) sv=some (.lst [V.ref l]):=aO;have nn:=ž.bx.ne h_;refine k sv [r] _ (ž.ext x2) (x1.trans (bo x2 p)) ⟨⟨_,bw nn g2,Kh.nil.app (row.ext (bo x2 p))⟩,Ç _,(show 1<=4 by decide),λ r' h=>by rw [ä.mp h];exact ok,?_⟩
 have:=(R0.Ą ok).2
 simpa using this
theorem Ev {i:Nat}{σ:St}{R:VK}(si:σ[i]?=some (some (.int m)))(m1:1<=m)(m2:m<=15)(k:∀ b H',Ext H H'->1<=b->4*b<=20->R (.int b) H'):ID K i σ H R:=by
 refine⟨_,si,_,_,rfl,rfl,⟨ar,ar⟩,_,_,rfl,?_⟩;refine k _ _ (Ext.refl _) (by split <;> omega) (by split <;> omega)
theorem Θ.wt {H:Hp}{D:Addr}{ys:List V}{l:Addr}{r:R0}(h:Θ C (wo H p) (.ref l) r)(n:l≠D)(hD:H D=some (.lst ys)):Θ C (wt H p D) (.ref l) r:=by
 obtain⟨l',u,e,hl,ru⟩:=h;cases e;refine⟨l,u,rfl,bw n hl,ru.ġ λ a o e' nl=>?_⟩;exact bw (λ z=>by subst z;rw [ai _ _ _ _ e'] at hD;cases hD;exact nl _ rfl) e'
theorem AU (sc:Sc K H sA p ns)(m1:1<=m)(m2:m<=15){sv:Addr}{rs:List R0}(hv:Sv C (wo H p) sv rs)(k:∀ sv rs o4 H',Sc K H' sA p ns->Ext (wo H p) (wo H' p)->Sv C (wo H' p) sv rs->u De [some (.ref sA),some (.ref p),some (.int m),some (.ref sv),o4,o5,o6,o7,o8,o9] H') :
  aY (Aj K C) u De [some (.ref sA),some (.ref p),some (.int m),some (.ref sv),o4,o5,o6,o7,o8,o9] H:=by
 refine bI sc rfl rfl (λ R r=>r) ar ar λ z H1 z0 z3 ž k1=>⟨rfl,_,rfl,?_⟩;have xa:=aH k1;by_cases ez:z=0
 ·rw [Ê (by rw [ez])]
  refine cU ?_;refine aL (te:=nv (gk K (tC (.int 4)))) (i:=4) ?_;refine bI ž rfl rfl (λ R r=>r) ar ar λ y H2 y0 y4 Τ k2=>⟨_,_,rfl,rfl,?_⟩;have xb:=xa.trans (aH k2);refine⟨_,rfl,1+y,rfl,ak,ak,λ D hD=>?_⟩;have nD:=Τ.bx.ne hD;obtain⟨n,rfl⟩:∃ n:Nat,y=(n:Int):=⟨y.toNat,ak⟩;have en:(1+(n:Int)).toNat=n+1:=ak;rw [en];have OM:wo H p D=none:=by
   cases e:wo H p D with
   | none=>rfl
   | some o=>have:=ai _ _ _ _ (xb _ _ e);rw [hD] at this;cases this
  refine gH (lo:=0) (n:=n+1) (λ i ys H'=>Sc K H' sA p ns/\Ext (wo H p) (wo H' p)/\∃ rs,rs.length=i/\Kh (Θ C (wt H' p D)) ys rs/\∀ r∈rs,r.ok/\r.Ï <= 5) (by rw [Ô];omega) ?_ ?_ ?_
  ·have x3:=Ext.new (o:=.lst []) hD;exact⟨Τ.ext x3,xb.trans (bo x3 p),[],rfl,Kh.nil,λ r h=>nomatch h⟩
  ·rintro i ys H' hi ly ĉ ⟨JP,x',N6,lr,al,good⟩ os į R k';obtain⟨o0,rfl⟩:∃ o0,os=[o0]:=by
    match os,į with
    | [o0],_=>exact⟨o0,rfl⟩
   refine⟨⟨[_],rfl,rfl⟩,_,rfl,_,rfl,?_⟩;refine Ev (i:=1) rfl m1 m2 λ b H5 x5 b1 b4=>⟨sA,p,ns,b,rfl,JP.ext x5,b1,ak,λ l r H6 KQ x6 n6 row ok le=>?_⟩;have Oq:=bw nD (x5 _ _ ĉ);have Qn:H6 D=some (.lst ys):=ai _ _ _ _ (x6 _ _ Oq);have lD:l≠D:=λ e=>by rw [e,Oq] at n6;cases n6
   have x7:Ext (wt H' p D) (wt H6 p D):=aH (((bo x5 p).trans x6).kept D);have N7:=row.wt lD Qn;have xf:Ext (wo H p) (wo (af H6 D (.lst (ys ++ [.ref l]))) p):=λ b o e=>by
    have n1:b≠D:=λ z=>by rw [z,OM] at e;cases e
    have e2:=((x'.trans (bo x5 p)).trans x6) _ _ e;exact bw (hW e) (by rw [ah n1];exact ai _ _ _ _ e2)
   refine k' _ H6 Qn ⟨sc.QR xf (KQ.bx.up nD),xf,N6 ++ [r],by rw [É,lr];rfl,?_,λ r' h=>?_⟩
   ·exact((al.mono λ _ _ q=>q.ext x7).app N7).mono λ _ _ q=>q.ext lU
   ·rcases ğ.mp h with h | h
    ·exact good r' h
    ·rw [ä.mp h];exact⟨ok,ak⟩
  ·rintro ys H' ly ĉ ⟨JP,x',N6,lr,al,good⟩;refine k D N6 _ H' JP x' ⟨⟨ys,bw nD ĉ,al.mono λ _ _ q=>q.ext (ai _ _)⟩,ak,ak,λ r h=>(good r h).1,?_⟩;have:=ir (m:=5) λ r h=>(good r h).2;omega
 ·rw [Í (λ h=>ez (V.int.inj h))];exact cM (k sv rs _ H1 ž xa (hv.ext xa))
end
abbrev Bk:=Str × List Int
def mx (b:Bk):PyData:=.tuple [.str b.1,nI b.2]
def fJ (rs:List R0):List Bk:=(rs.map R0.word).zip (bU 0 (rs.map R0.Ï))
def gV (m:Int)(B:List Bk):List Bk:=B.map λ b=>(b.1,b.2.filter λ x=>decide (x<m))
def gi (B:List Bk):List Bk:=B.filter λ b=>!b.2.isEmpty
def Rl.bl:Rl->List Bk
 | .one r=>[(r.word,cO 0 r.Ï.toNat)]
 | .blocks rs=>fJ rs
 | .first t m=>gi (gV m t.bl)
theorem mH (rs:List R0):(fJ rs).length=rs.length:=by
 unfold fJ;rw [List.length_zip,Ã,eB,Ã,Nat.min_self]
theorem re (rs:List R0)(r:R0):fJ (rs ++ [r])=fJ rs ++ [(r.word,cO ((rs.map R0.Ï).sum) r.Ï.toNat)]:=by
 unfold fJ;rw [Î,Î];show((rs.map R0.word) ++ [r.word]).zip (bU 0 (rs.map R0.Ï ++ [r.Ï]))=_;rw [i6,List.zip_append (by rw [Ã,eB,Ã])]
 rw [ν];rfl
theorem Ah (h:1<=n):cO lo n ≠ []:=λ e=>by
 have:=Ĕ List.length e;unfold cO at this;rw [Ã,List.length_range] at this;simp at this;omega
theorem oK:∀(ns:List Int)(s:Int),(∀ n∈ns,1<=n)->∀ p∈bU s ns,p ≠ []
 | [],_,_,p,h=>nomatch h
 | n::ns,s,h,p,hp=>by
  rcases á.mp hp with rfl | hp
  ·exact Ah (by have:=h n (ì ..);omega)
  ·exact oK ns (s+n) (λ x hx=>h x (Ø _ hx)) p hp
theorem sJ (ok:∀ r∈rs,r.ok):gi (fJ rs)=fJ rs:=by
 unfold gi;rw [List.filter_eq_self];intro b hb;have h2:=(ŵ hb).2;have:=oK _ 0 (λ n hn=>by
  obtain⟨r,hr,rfl⟩:=ê.mp hn;exact(R0.Ą (ok r hr)).1) _ h2
 cases e:b.2 with
 | nil=>exact absurd e this
 | cons _ _=>rfl
section
variable {P:Program}{w:World}{K:Frag}{mg:bL}{base:Heap}{C:Nat->Addr}{CR CN CS CT CM:Addr}{De:cP}{u:TS}{H:Hp}{sA p:Addr}{ns:List Int}{m:Int}{o0 o1 o2 o3 o4 o5 o6 o7 o8 o9:Option V}
theorem oX (r:ė G x (mx b)):∃ a l,x=.ref a/\G a=some (.tup [.str b.1,.ref l])/\G l=some (.lst (b.2.map V.int)):=by
 obtain⟨a,xs,rfl,ha,rs⟩:=oE r;cases rs with
 | cons r1 rs =>
  cases rs with
  | cons r2 rs =>
   cases rs;cases r1;cases r2 with
   | lst hl ra=>exact⟨a,_,rfl,ha,by rw [<- jY ra];exact hl⟩
theorem rE (ha:G a=some (.tup [.str b.1,.ref l]))(hl:G l=some (.lst (b.2.map V.int))):ė G (.ref a) (mx b):=.tup ha (.cons (.str _) (.cons (.lst hl (dA G _)) .nil))
theorem zQ (sc:Sc K H sA p ns)(hv:Sv C (wo H p) sv rs)(k:∀ bl ys o7 o8 o9 H',Sc K H' sA p ns->Ext (wo H p) (wo H' p)->wo H' p bl=some (.lst ys)->Ö (wo H' p) ys ((fJ rs).map mx)->u De [some (.ref sA),some (.ref p),o2,some (.ref sv),o4,some (.ref bl),some (.int (rs.map R0.Ï).sum),o7,o8,o9] H') :
  aY (cG (bV aJ) (aX 5)) (aY (cG (tC (.int 0)) (aX 6)) (aY (u6 K) u)) De [some (.ref sA),some (.ref p),o2,some (.ref sv),o4,o5,o6,o7,o8,o9] H:=by
 refine aL (te:=bV aJ) (i:=5) ⟨dZ,λ bl S4=>?_⟩;have x1:=Ext.new (o:=.lst []) S4;have g1:af H bl (.lst []) bl=some (.lst []):=aO;have nb:=sc.bx.ne S4;refine aL (te:=tC (.int 0)) (i:=6) ?_;show aY (u6 K) u De [some (.ref sA),some (.ref p),o2,some (.ref sv),o4,some (.ref bl),some (.int 0),o7,o8,o9] (af H bl (.lst []));have ž:=sc.ext x1;generalize af H bl (.lst [])=H1 at x1 g1 ž ⊢;obtain⟨xs,h_,al⟩:=hv.ex;have l4:=hv.l4;have Xe:wo H p bl=none:=by
  cases e:wo H p bl with
  | none=>rfl
  | some o=>have:=ai _ _ _ _ e;rw [S4] at this;cases this
 refine⟨_,rfl,sv,rfl,⟨xs,î.of (x1 _ _ (ai _ _ _ _ h_))⟩,gv (xs:=xs) (λ i σ H'=>∃ ys o7 o8 o9,σ=[some (.ref sA),some (.ref p),o2,some (.ref sv),o4,some (.ref bl),some (.int ((rs.take i).map R0.Ï).sum),o7,o8,o9]/\Sc K H' sA p ns/\Ext (wo H p) (wo H' p)/\H' bl=some (.lst ys)/\ys.length=i/\Ö (wt H' p bl) ys ((fJ (rs.take i)).map mx)) ⟨[],_,_,_,rfl,ž,bo x1 p,g1,rfl,.nil⟩ ?_ ?_ ?_⟩
 ·rintro i σ H' _ ⟨ys,o7,o8,o9,rfl,JP,x',_⟩;exact î.of (ai _ _ _ _ (x' _ _ h_))
 ·rintro i x σ H' ex ⟨ys,o7,o8,o9,rfl,JP,x',hb,ly,ra⟩;obtain⟨r,er,l,uu,rfl,hl,ru⟩:=al.at ex;have li:i<xs.length:=(Æ.mp ex).1;have lxr:=al.1;have OO:=R0.Ą (hv.ok r (Ú er));have smb:0<=((rs.take i).map R0.Ï).sum/\((rs.take i).map R0.Ï).sum<=80:=by
   refine⟨cE λ n hn=>?_,?_⟩
   ·obtain⟨r',LF,rfl⟩:=ê.mp hn;have:=R0.Ą (hv.ok r' (Ů LF));omega
   ·have h1:=ir (m:=20) (rs:=rs.take i) λ r' LF=>(R0.Ą (hv.ok r' (Ů LF))).2;have:(rs.take i).length<=4:=by rw [Ď];omega
    omega
  refine⟨l,_,rfl,î.of (ai _ _ _ _ (x' _ _ hl)),rfl,_,_,rfl,_,_,rfl,_,_,rfl,rfl,?_⟩;show wE K _ [some (.ref sA),some (.ref p),o2,some (.ref sv),o4,some (.ref bl),some (.int ((rs.take i).map R0.Ï).sum),some (.str r.word),some uu,some (.int r.Ï)] H';refine⟨_,rfl,.inl ⟨rfl,_,î.of hb⟩,_,rfl,_,rfl,_,rfl,_,rfl,_,_,rfl,rfl,_,_,rfl,λ rg Yc=>?_⟩;have x2:=Ext.new (o:=.J3 ((rs.take i).map R0.Ï).sum (((rs.take i).map R0.Ï).sum+r.Ï)) Yc;have g2:af H' rg (.J3 ((rs.take i).map R0.Ï).sum (((rs.take i).map R0.Ï).sum+r.Ï)) rg=some (.J3 ((rs.take i).map R0.Ï).sum (((rs.take i).map R0.Ï).sum+r.Ï)):=aO;have Τ:=JP.ext x2;have LG:=x2 _ _ hb;generalize af H' rg (.J3 ((rs.take i).map R0.Ï).sum (((rs.take i).map R0.Ï).sum+r.Ï))=H2 at x2 g2 Τ LG ⊢;refine⟨rg,_,_,rfl,g2,ak,ak,λ pl Ρ=>?_⟩;have ef:(((rs.take i).map R0.Ï).sum+r.Ï - ((rs.take i).map R0.Ï).sum).toNat=r.Ï.toNat:=by congr 1;omega
  rw [ef,nh];have x3:=Ext.new (o:=.lst ((cO ((rs.take i).map R0.Ï).sum r.Ï.toNat).map V.int)) Ρ;have g3:af H2 pl (.lst ((cO ((rs.take i).map R0.Ï).sum r.Ï.toNat).map V.int)) pl=some (.lst ((cO ((rs.take i).map R0.Ï).sum r.Ï.toNat).map V.int)):=aO;have ω:=Τ.ext x3;have XE:=Τ.bx.ne Ρ;have XI:pl≠bl:=λ e=>by rw [e,LG] at Ρ;cases Ρ
  have S5:=x3 _ _ LG;generalize af H2 pl (.lst ((cO ((rs.take i).map R0.Ï).sum r.Ï.toNat).map V.int))=H3 at x3 g3 ω S5 ⊢;refine⟨dZ,λ t ht=>?_⟩;have x4:=Ext.new (o:=.tup [.str r.word,.ref pl]) ht;have g4:af H3 t (.tup [.str r.word,.ref pl]) t=some (.tup [.str r.word,.ref pl]):=aO;have MH:=ω.ext x4;have XD:=ω.bx.ne ht;have XH:t≠bl:=λ e=>by rw [e,S5] at ht;cases ht
  have Uu:=x4 _ _ S5;have Rf:=x4 _ _ g3;generalize af H3 t (.tup [.str r.word,.ref pl])=H4 at x4 g4 MH Uu Rf ⊢;have xx:=(x2.trans x3).trans x4;have xf:Ext (wo H p) (wo (af H4 bl (.lst (ys ++ [.ref t]))) p):=λ b o e=>by
   have n1:b≠bl:=λ z=>by rw [z,Xe] at e;cases e
   have e2:=(x'.trans (bo xx p)) _ _ e;exact bw (hW e) (by rw [ah n1];exact ai _ _ _ _ e2)
  refine⟨bl,ys,.ref t,rfl,rfl,Uu,by rw [Ô];omega,?_⟩
  refine⟨_,rfl,_,rfl,_,_,rfl,rfl,ys ++ [.ref t],some (.str r.word),some uu,some (.int r.Ï),?_,sc.QR xf (MH.bx.up nb),xf,aO,by rw [É,ly];rfl,?_⟩
  ·have et:((rs.take (i+1)).map R0.Ï).sum=((rs.take i).map R0.Ï).sum+r.Ï:=by
    rw [aE er,Î,K5];simp
   rw [et];rfl
  ·rw [aE er,re,Î];refine((ra.mono (pK xx p bl)).append (.cons ?_ .nil)).mono lU;exact rE (iQ XD XH g4) (iQ XE XI Rf)
 ·rintro σ H' ⟨ys,o7,o8,o9,rfl,JP,x',hb,ly,ra⟩;rw [al.1,Õ] at ra ⊢;exact k bl ys _ _ _ H' JP x' (bw nb hb) (ra.mono (ai _ _))
end
section
variable {K:Frag}{te:TE}{tt:TT}{cap:St}{D:Addr}{H1:Hp}{Q:Hp->Prop}{a:Addr}{xs:List V}
theorem uN (p:V->Bool)(hz:xs.length<sizeLine)(h1:H1 a=some (.lst xs))(hD:H1 D=none)
  (hs:∀(i:Nat) x H,xs[i]?=some x->Ext H1 H->∀ R:Bool->Hp->Prop,R (p x) H->tt (some x::cap) H R)
  (hd:∀ H,Ext H1 H->H D=some (.lst (xs.filter p))->Q H) :
  ∃ W:Nat->Nat->List V->Hp->Prop,(∃ m,W 0 m [] (af H1 D (.lst []))) /\
   ∀ i m ys H2,W i m ys H2->H2 D=some (.lst ys)/\(((ji K a).stop i H2/\Q H2)\/((ji K a).go i H2/\ys.length<sizeLine /\
    ∀ x H3,(ji K a).JD i H2 x H3->tt (some x::cap) H3 λ b H0=>(b=false->∃ m',m'<m/\W (i+1) m' ys H0) /\
     (b=true->aj 0 (some x::cap) H0 λ y H4=>H4 D=some (.lst ys)/\∃ m',m'<m/\W (i+1) m' (ys ++ [y]) (af H4 D (.lst (ys ++ [y])))))):=by
 refine⟨λ i m ys H=>m=xs.length-i/\i<=xs.length/\ys.length<=i/\H D=some (.lst ys)/\Ext H1 H/\ys=(xs.take i).filter p,⟨xs.length,by simp,Nat.zero_le _,Nat.le_refl _,aO,.new hD,rfl⟩,?_⟩
 rintro i m ys H ⟨rfl,hi,hy,K2,x',ey⟩;refine⟨K2,?_⟩;have q:î K H a xs:=î.of (x' _ _ h1);by_cases ź:i<xs.length
 ·refine .inr ⟨⟨xs,xs[i],q,by simp [ź]⟩,ak,λ x H' y=>?_⟩
  obtain⟨e,y⟩:=y;subst e;have ex:=y xs q;have et:(xs.take (i+1)).filter p=(xs.take i).filter p++(if p x then [x] else []):=by
   rw [aE ex,Ŕ,Ķ,τ]
  refine hs i x _ ex x' _ ⟨λ b=>⟨xs.length-(i+1),ak,rfl,ź,ak,K2,x',?_⟩,λ b=>⟨x,rfl,K2,xs.length-(i+1),ak,rfl,ź,by rw [É];show ys.length+1<=i+1;omega,aO,aN _ x' hD,?_⟩⟩
  ·rw [et,b,ey];simp
  ·rw [et,b,ey];simp
 ·have e:i=xs.length:=ak;subst e;rw [Õ] at ey;subst ey;exact .inl ⟨⟨xs,q,Ç _⟩,hd H x' K2⟩
theorem qZ (p:V->Bool)(hz:xs.length<sizeLine)(h1:H1 a=some (.lst xs))(hD:H1 D=none)
  (hs:∀(i:Nat) x H,xs[i]?=some x->Ext H1 H->∀ R:Bool->Hp->Prop,R (p x) H->tt (some x::cap) H R)
  (hd:∀ H,Ext H1 H->H D=some (.lst (xs.filter p))->Q H) :
  ∃ W:Nat->Nat->List V->Hp->Prop,(∃ m,W 0 m [] (af H1 D (.lst []))) /\
   ∀ i m ys H2,W i m ys H2->H2 D=some (.lst ys)/\(((ji K a).stop i H2/\Q H2)\/((ji K a).go i H2/\ys.length<sizeLine /\
    ∀ x H3,(ji K a).JD i H2 x H3->∀ os:St,os.length=1->aX 0 x (os++cap) H3 λ Ĭ H0=>(∃ ł:St,ł.length=1/\Ĭ = ł ++ cap)/\tt Ĭ H0 λ b H5=>(b=false->∃ m',m'<m/\W (i+1) m' ys H5) /\
     (b=true->aj 0 Ĭ H5 λ y H4=>H4 D=some (.lst ys)/\∃ m',m'<m/\W (i+1) m' (ys ++ [y]) (af H4 D (.lst (ys ++ [y])))))):=by
 obtain⟨W,w0,turn⟩:=uN p hz h1 hD hs hd;refine⟨W,w0,λ i m ys H2 w=>?_⟩;obtain⟨Ű,alt⟩:=turn i m ys H2 w;refine⟨Ű,?_⟩;rcases alt with a | ⟨go,hl,st⟩
 ·exact .inl a
 ·refine .inr ⟨go,hl,λ x H3 y os į=>?_⟩;obtain⟨o,rfl⟩:∃ o,os=[o]:=by
   match os,į with
   | [o],_=>exact⟨o,rfl⟩
  exact⟨⟨[some x],rfl,rfl⟩,st x H3 y⟩
end
def Rl.plain1:Rl->Prop
 | .first _ _=>False
 | _=>True
def Rl.flat:Rl->Prop
 | .first t _=>t.plain1
 | _=>True
theorem Ru.wo (h:Ru C H t v)(b:ĸ H p):Ru C (wo H p) t v:=h.ġ λ a o e n=>by
 obtain⟨_,_,_,hp,_⟩:=b.ex;exact bw (λ z=>by subst z;rw [hp] at e;cases e;exact n _ rfl) e
section
variable {P:Program}{w:World}{K:Frag}{mg:bL}{base:Heap}{C:Nat->Addr}{CR CN CS CT CM:Addr}{De:cP}{u:TS}{H:Hp}{sA p:Addr}{ns:List Int}{m:Int}{o0 o1 o2 o3 o4 o5 o6 o7 o8 o9:Option V}
theorem A0 (s3:σ[3]?=some (some (.ref sv)))(hv:Sv C (wo H p) sv rs)(k:∀ x H',Ext H H'->Ru C H' (.blocks rs) (.ref x)->Q (.ref x) H'):dC (C 3) (iu K C CT CM) [] E0 (av (cD (bn K (aj 3)) 1 [] (aX 0) (xz K)) aJ) σ H Q:=by
 obtain⟨xs,h_,al⟩:=hv.ex;have l4:=hv.l4;have lx:=al.1;refine⟨_,s3,sv,rfl,⟨xs,î.of (ai _ _ _ _ h_)⟩,λ D hD=>?_⟩;refine bz (λ i ys H'=>Ext H H'/\Λ C (wo H p) (rs.take i) ys) (by rw [Ô];omega) ⟨.new hD,rfl,λ i r w h=>by simp at h⟩ (λ i ys H' pv=>î.of (pv.1 _ _ (ai _ _ _ _ h_))) ?_ ?_
 ·rintro i x ys H' ex ly ĉ ⟨x',all⟩ os į R k';obtain⟨o0,rfl⟩:∃ o0,os=[o0]:=by
   match os,į with
   | [o0],_=>exact⟨o0,rfl⟩
  obtain⟨r,er,l,uu,rfl,hl,ru⟩:=al.at ex;refine⟨⟨[some (.ref l)],rfl,rfl⟩,_,rfl,l,_,_,_,rfl,rfl,î.of (x' _ _ (ai _ _ _ _ hl)),f7 rfl,?_⟩;refine k' _ H' ĉ ⟨aN _ x' hD,?_⟩;rw [aE er];exact lR all ru
 ·rintro ys H' ly ĉ ⟨x',all⟩;rw [lx,Õ] at all;refine λ x dx hx hd ne=>iA hx hd ne ĉ (all.ext ((ai _ _).trans x')) ⟨hv.l1,ak,hv.ok,hv.sm⟩ λ H2 x2 ru=>⟨rfl,k x H2 (x'.trans x2) ru⟩
theorem zn (sc:Sc K H sA p ns)(hv:Sv C (wo H p) sv rs)(k:∀ v t H',Sc K H' sA p ns->Ext (wo H p) (wo H' p)->Ru C (wo H' p) t v->t.plain1->t.ok->t.bl=fJ rs->t.Ï =(rs.map R0.Ï).sum->u De [some (.ref sA),some (.ref p),o2,some (.ref sv),o4,o5,o6,o7,some v,o9] H') :
  aY (AD K) (aY (Ai K C CT CM) u) De [some (.ref sA),some (.ref p),o2,some (.ref sv),o4,o5,o6,o7,o8,o9] H:=by
 obtain⟨xs,h_,al⟩:=hv.ex;have lx:=al.1;have l1:=hv.l1;have l0:0<xs.length:=ak;obtain⟨r0,Zx,l,uu,e0,hl,ru⟩:=al.at (Á l0);refine aL ?_;refine⟨_,rfl,sv,_,_,_,rfl,rfl,î.of (ai _ _ _ _ h_),f7 (Á l0),l,_,_,_,e0,rfl,î.of (ai _ _ _ _ hl),f7 rfl,?_⟩;have many:∀(H1:Hp)(o8:Option V)(Tl:cP),Tl.nx=u De->Sc K H1 sA p ns->Ext (wo H p) (wo H1 p)->cG (dC (C 3) (iu K C CT CM) [] E0 (av (cD (bn K (aj 3)) 1 [] (aX 0) (xz K)) aJ)) (aX 8) Tl [some (.ref sA),some (.ref p),o2,some (.ref sv),o4,o5,o6,o7,o8,o9] H1:=by
  intro H1 o8 Tl MM ž x1;refine A0 rfl (hv.ext x1) λ x H2 x2 RN=>?_;rw [MM];have l4:=hv.l4;exact k (.ref x) (.blocks rs) H2 (ž.ext x2) (x1.trans (bo x2 p)) (RN.wo (ž.ext x2).bx) trivial ⟨hv.l1,ak,hv.ok,hv.sm⟩ rfl rfl
 refine⟨_,rfl,sv,xs,rfl,.inl (î.of (ai _ _ _ _ h_)),_,_,rfl,rfl,_,rfl,?_⟩;by_cases hx:((xs.length:Nat):Int)>1
 ·rw [Ê hx];exact cU (cU (many H _ _ rfl sc (.refl _)))
 ·rw [Í hx];refine cM (bI sc rfl rfl (λ R r=>r) ar ar λ z H1 z0 z3 ž k1=>⟨rfl,_,rfl,?_⟩);by_cases ez:z=0
  ·rw [Ê (by rw [ez])]
   exact cU (many H1 _ _ rfl ž (aH k1))
  ·rw [Í (λ h=>ez (V.int.inj h))];have er:rs=[r0]:=by
    match rs,Zx,(by omega:rs.length=1) with
    | [r],e,_=>cases e;rfl
   subst er;refine cM (k uu (.one r0) H1 ž (aH k1) (ru.ext (aH k1)) trivial (hv.ok r0 (ä.mpr rfl)) ?_ ?_)
   ·rfl
   ·show r0.Ï =([r0].map R0.Ï).sum;simp
def IM (m:Int):V->Bool
 | .int i=>decide (i<m)
 | _=>false
theorem wX (s5:σ[5]?=some (some (.ref bl)))(s4:σ[4]?=some (some (.int m)))(b:ĸ H p)(hb:wo H p bl=some (.lst ys))(ra:Ö (wo H p) ys (B.map mx))(l6:B.length<=6)(ţ:∀ b∈B,b.2.length<=20)(k:∀ D zs H',Ext H H'->wo H' p D=some (.lst zs)->Ö (wo H' p) zs ((gV m B).map mx)->Q (.ref D) H') :
  cD (bn K (aj 5)) 2 [4] (yC K) (yX K) σ H Q:=by
 have ly:=ra.length;rw [Ã] at ly;refine⟨_,s5,bl,rfl,⟨ys,î.of (ai _ _ _ _ hb)⟩,λ D hD=>?_⟩;have nD:=b.ne hD;have ec:cz [4] σ=[some (.int m)]:=by unfold cz;rw [ë,s4];rfl
 rw [ec];refine bz (a:=bl) (xs:=ys) (λ i zs H'=>Ext H H'/\Ö (wt H' p D) zs ((gV m (B.take i)).map mx)) (by rw [Ô];omega) ⟨.new hD,.nil⟩ (λ i zs H' pv=>î.of (pv.1 _ _ (ai _ _ _ _ hb))) ?_ ?_
 ·rintro i x zs H' ex lz ĉ ⟨x',rz⟩ os į R k';obtain⟨o0,o1,rfl⟩:∃ o0 o1,os=[o0,o1]:=by
   match os,į with
   | [o0,o1],_=>exact⟨o0,o1,rfl⟩
  obtain⟨d,ed,rd⟩:=ra.get ex;rw [Ì] at ed;obtain⟨bk,ebk,rfl⟩:=Ó.mp ed;obtain⟨a,l,rfl,ha,hl⟩:=oX rd;have lb:=ţ bk (Ú ebk);refine⟨a,_,rfl,ĝ.of (x' _ _ (ai _ _ _ _ ha)),rfl,_,_,rfl,_,_,rfl,rfl,⟨[some (.str bk.1),some (.ref l)],rfl,rfl⟩,_,rfl,?_⟩;refine⟨_,rfl,l,rfl,⟨_,î.of (x' _ _ (ai _ _ _ _ hl))⟩,λ D2 Ű=>?_⟩;refine qZ (IM m) (by rw [Ô,Ã];omega) (x' _ _ (ai _ _ _ _ hl)) Ű ?_ ?_
  ·rintro j v H2 ev x2 R2 r2;rw [Ì] at ev;obtain⟨n,en,rfl⟩:=Ó.mp ev;exact⟨_,rfl,_,rfl,_,_,rfl,rfl,_,rfl,r2⟩
  ·intro H2 x2 Qo;rw [dI (λ x=>decide (x<m)) (IM m) (λ _=>rfl)] at Qo;have XO:D2≠D:=λ e=>by rw [e,ĉ] at Ű;cases Ű
   have b2:=b.ext x';have R6:=b2.ne Ű;refine⟨dZ,λ t ht=>?_⟩;have x3:=Ext.new (o:=.tup [.str bk.1,.ref D2]) ht;have g3:af H2 t (.tup [.str bk.1,.ref D2]) t=some (.tup [.str bk.1,.ref D2]):=aO;have R1:t≠D:=λ e=>by rw [e,x2 _ _ ĉ] at ht;cases ht
   have RZ:=(b2.ext x2).ne ht;generalize af H2 t (.tup [.str bk.1,.ref D2])=H3 at x3 g3 ⊢;have K_:=x2.trans x3;refine k' _ H3 (K_ _ _ ĉ) ⟨aN _ (x'.trans K_) hD,?_⟩;have et:gV m (B.take (i+1))=gV m (B.take i) ++ [(bk.1,bk.2.filter λ x=>decide (x<m))]:=by
    unfold gV;rw [aE ebk,Î];rfl
   rw [et,Î];refine((rz.mono (pK K_ p D)).append (.cons ?_ .nil)).mono lU;exact rE (iQ RZ R1 g3) (iQ R6 XO (x3 _ _ Qo))
 ·rintro zs H' lz ĉ ⟨x',rz⟩;rw [ly,Õ] at rz;exact k D zs H' x' (bw nD ĉ) (rz.mono (ai _ _))
theorem uz (h:te σ H λ x H1=>g x σ H1 De.nx):cG te g De σ H:=h
theorem zT (sc:Sc K H sA p ns)(ru:Ru C (wo H p) t v)(pl:t.plain1)(ok:t.ok)(eb:t.bl=fJ rs)(OO:∀ r∈rs,r.ok)(l4:rs.length<=4)(hb:wo H p bl=some (.lst ys))(ra:Ö (wo H p) ys ((fJ rs).map mx))
  (k:∀ v t o4 bl ys B H',Sc K H' sA p ns->Ext (wo H p) (wo H' p)->Ru C (wo H' p) t v->t.flat->t.ok->B.length<=4->(∀ b∈B,b.2.length<=20)->wo H' p bl=some (.lst ys)->Ö (wo H' p) ys (B.map mx)->gi B=t.bl->u De [some (.ref sA),some (.ref p),o2,o3,o4,some (.ref bl),o6,o7,some v,o9] H')(s6:o6=some (.int t.Ï)) :
  aY (xV K C CN) u De [some (.ref sA),some (.ref p),o2,o3,o4,some (.ref bl),o6,o7,some v,o9] H:=by
 subst s6;have fk:=Rl.Ą ok;have lB:(fJ rs).length<=4:=by rw [mH];exact l4
 have ţ:∀ b∈fJ rs,b.2.length<=20:=λ b hb=>iK _ 0 (λ n hn=>by
  obtain⟨r,hr,rfl⟩:=ê.mp hn;exact(R0.Ą (OO r hr)).2) _ (ŵ hb).2
 refine bI sc rfl rfl (λ R r=>r) ar ar λ z H1 z0 z3 ž k1=>⟨rfl,_,rfl,?_⟩;have xa:=aH k1;by_cases ez:z=0
 ·rw [Ê (by rw [ez])]
  refine cU ?_;refine aL (te:=gk K (aS (dH λ i j=>.int (i+j)) (aj 6) (tC (.int 1)))) (i:=4) ?_;refine bI (m:=t.Ï + 1) ž rfl rfl (λ R r=>⟨_,rfl,_,_,rfl,rfl,r⟩) ak ak λ y H2 y0 ym Τ k2=>?_;have xb:=xa.trans (aH k2);refine aL (te:=dC (C 4) (kE C CN) [] E0 (av (aj 8) (av (aj 4) aJ))) (i:=8) ?_;have TX:(Rl.first t y).ok:=⟨ok,y0,ak⟩;refine⟨_,rfl,_,rfl,λ x dx hx hd ne=>qN hx hd ne ((ru.ext xb).ext (ai _ _)) TX λ H3 x3 RM=>⟨rfl,?_⟩⟩;have ω:=Τ.ext x3;have xc:=xb.trans (bo x3 p);refine uz (te:=cD (bn K (aj 5)) 2 [4] (yC K) (yX K)) (g:=aX 5) ?_;refine wX (p:=p) rfl rfl ω.bx (xc _ _ hb) (ra.mono xc) ak ţ λ D zs H4 x4 hD rz=>?_;have MH:=ω.ext x4;refine k (.ref x) (.first t y) (some (.int y)) D zs (gV y (fJ rs)) H4 MH (xc.trans (bo x4 p)) ((RM.wo ω.bx).ext (bo x4 p)) pl TX (by unfold gV;rw [Ã];exact lB) (λ b hb=>?_) hD rz (by show _=gi (gV y t.bl);rw [eb])
  obtain⟨b',S6,rfl⟩:=ê.mp hb;exact ð (ħ _ _) (ţ b' S6)
 ·rw [Í (λ h=>ez (V.int.inj h))];refine cM (k v t _ bl ys (fJ rs) H1 ž xa (ru.ext xa) ?_ ok lB ţ (xa _ _ hb) (ra.mono xa) (by rw [sJ OO,eb]))
  cases t with
  | one r=>trivial
  | blocks rs=>trivial
  | first t m=>exact pl.elim
theorem Al (sc:Sc K H sA p ns)(l4:B.length<=4)(ţ:∀ b∈B,b.2.length<=20)(hb:wo H p bl=some (.lst ys))(ra:Ö (wo H p) ys (B.map mx))
  (k:∀ a D zs H',Ext H H'->H D=none->wo H' p a=some (.tup [v,.ref D])->wo H' p D=some (.lst zs)->Ö (wo H' p) zs ((gi B).map mx)->De.rt (.ref a) H'):AE K De [o0,o1,o2,o3,o4,some (.ref bl),o6,o7,some v,o9] H:=by
 have ly:=ra.length;rw [Ã] at ly;refine⟨_,rfl,_,rfl,bl,rfl,⟨ys,î.of (ai _ _ _ _ hb)⟩,λ D hD=>?_⟩;have nD:=sc.bx.ne hD;refine fR (a:=bl) (xs:=ys) (λ i zs H'=>Ext H H'/\Ö (wt H' p D) zs ((gi (B.take i)).map mx)) (by rw [Ô];omega) ⟨Ext.new hD,.nil⟩ (λ i zs H' pv=>î.of (pv.1 _ _ (ai _ _ _ _ hb))) ?_ ?_
 ·rintro i x zs H' ex lz ĉ ⟨x',rz⟩ os į N kN;obtain⟨o0,o1,rfl⟩:∃ o0 o1,os=[o0,o1]:=by
   match os,į with
   | [o0,o1],_=>exact⟨o0,o1,rfl⟩
  obtain⟨d,ed,rd⟩:=ra.get ex;rw [Ì] at ed;obtain⟨bk,ebk,rfl⟩:=Ó.mp ed;obtain⟨a,l,rfl,ha,hl⟩:=oX rd;refine⟨a,_,rfl,ĝ.of (x' _ _ (ai _ _ _ _ ha)),rfl,_,_,rfl,_,_,rfl,rfl,⟨[some (.str bk.1),some (.ref l)],rfl,rfl⟩,_,rfl,dZ,λ q hq=>?_⟩;have x2:=Ext.new (o:=.lst []) hq;have g2:af H' q (.lst []) q=some (.lst []):=aO;generalize af H' q (.lst [])=H2 at x2 g2 ⊢;have et:gi (B.take (i+1))=gi (B.take i)++(if(!bk.2.isEmpty)=true then [bk] else []):=by
   unfold gi;rw [aE ebk,Ŕ,Ķ,τ]
  refine⟨l,q,_,rfl,rfl,î.of (x2 _ _ (x' _ _ (ai _ _ _ _ hl))),î.of g2,_,rfl,?_⟩;have ee:(bk.2.map V.int).isEmpty=bk.2.isEmpty:=by cases bk.2 <;> rfl
  rw [ee];refine⟨λ hf=>kN zs H2 ⟨x'.trans x2,?_⟩ ak (x2 _ _ ĉ),λ ht=>?_⟩
  ·rw [et,Ü (by rw [hf];decide),Ę]
   exact rz.mono (pK x2 p D)
  ·refine⟨_,rfl,_,rfl,dZ,λ tt Q6=>?_⟩;have x3:=Ext.new (o:=.tup [.str bk.1,.ref l]) Q6;have g3:af H2 tt (.tup [.str bk.1,.ref l]) tt=some (.tup [.str bk.1,.ref l]):=aO;have R1:tt≠D:=λ e=>by rw [e,x2 _ _ ĉ] at Q6;cases Q6
   have RZ:=(sc.bx.ext (x'.trans x2)).ne Q6;generalize af H2 tt (.tup [.str bk.1,.ref l])=H3 at x3 g3 ⊢;have K_:=x2.trans x3;have S8:=K_ _ _ ĉ;refine⟨S8,kN _ _ ⟨aN _ (x'.trans K_) hD,?_⟩ (by rw [É];show zs.length+1<=i+1;omega) aO⟩
   have lD:l≠D:=λ e=>by rw [e] at hl;have:=ai _ _ _ _ hl;rw [hD] at this;cases this
   rw [et,â ht,Î];refine((rz.mono (pK K_ p D)).append (.cons ?_ .nil)).mono lU;exact rE (iQ RZ R1 g3) (iQ (hW hl) lD (K_ _ _ (x' _ _ (ai _ _ _ _ hl))))
 ·rintro zs H' lz ĉ ⟨x',rz⟩;rw [ly,Õ] at rz;refine⟨dZ,λ a ha=>?_⟩;have x3:=Ext.new (o:=.tup [v,.ref D]) ha;have g3:af H' a (.tup [v,.ref D]) a=some (.tup [v,.ref D]):=aO;have XJ:=(sc.bx.ext x').ne ha;exact k a D zs _ (x'.trans x3) hD (bw XJ g3) (bw nD (x3 _ _ ĉ)) ((rz.mono (ai _ _)).mono (bo x3 p))
def Bi (K:Frag)(C:Nat->Addr):Sp:=λ vs H Q _=>∃(s p:Addr)(ns:List Int)(m:Int),vs=[.ref s,.ref p,.int m]/\Sc K H s p ns/\1<=m/\m<=15/\∀ a v D zs t H',Sc K H' s p ns->Ext (wo H p) (wo H' p)->wo H p D=none->wo H' p a=some (.tup [v,.ref D])->Ru C (wo H' p) t v->t.flat->t.ok->wo H' p D=some (.lst zs)->Ö (wo H' p) zs (t.bl.map mx)->Q (.ref a) H'
theorem Am (sc:Sc K H sA p ns)(m1:1<=m)(m2:m<=15)(q:∀ a v D zs t H',Sc K H' sA p ns->Ext (wo H p) (wo H' p)->wo H p D=none->wo H' p a=some (.tup [v,.ref D])->Ru C (wo H' p) t v->t.flat->t.ok->wo H' p D=some (.lst zs)->Ö (wo H' p) zs (t.bl.map mx)->De.rt (.ref a) H') :
  Bx (IK K C CN CT CM De [some (.ref sA),some (.ref p),some (.int m),o3,o4,o5,o6,o7,o8,o9] H):=by
 refine⟨Bl sc m1 ak λ sv rs H1 ž x1 QU=>?_⟩;refine AU ž m1 m2 QU λ sv rs o4 H2 Τ x2 ON=>?_;refine zQ Τ ON λ bl ys o7 o8 o9 H3 ω x3 hb ra=>?_;refine zn ω (ON.ext x3) λ v t H4 MH x4 ru pl ok eb ef=>?_;refine zT MH ru pl ok eb ON.ok ON.l4 (x4 _ _ hb) (ra.mono x4) (λ v t o4 bl ys B H5 LA x5 RL fl RW l4 ţ YO Xq ec=>?_) (by rw [ef])
 refine Al LA l4 ţ YO Xq λ a D zs H6 x6 nD ha hD rz=>?_;have wn:wo H p D=none:=by
  cases e:wo H p D with
  | none=>rfl
  | some o=>rw [ai _ _ _ _ ((((x1.trans x2).trans x3).trans (x4.trans x5)) _ _ e)] at nD;cases nD
 have Pa:=bo x6 p;rw [ec] at rz;exact q a v D zs t H6 (LA.ext x6) ((((x1.trans x2).trans x3).trans (x4.trans x5)).trans Pa) wn ha (RL.ext Pa) fl RW hD rz
theorem BC (F:Ģ K "_law_rule" "_law_rule" lG f fd)(L:BB P w K mg base C CN CS CT CM f0 f1 f2 f3 f4 e0 e1 e2 e3 e4)(A1:Df P w K mg base ay 1 "_law_take" ["_law_script","_law_pen","_law_many"] (cV K) a1 d1)(A2:Df P w K mg base ay 8 "_law_plain_rule" ["_law_script","_law_pen","_law_most"] (nu K C) a2 d2)(mr:mg "range" = none)(mm:mg "max" = none)(mi:mg "int" = none)(ml:mg "list" = none)(mn:mg "len" = none):Þ P w K mg base ay 9 f fd ["_law_script","_law_pen","_law_most"] (Bi K C):=by
 refine bR F f_ λ cdv A outer s H vs Q E hr h=>?_;obtain⟨sA,p,ns,m,rfl,sc,m1,m2,q⟩:=h;exact gr (AL L A1 A2 hr mr mm mi ml mn) (Am sc m1 m2 q)
end
theorem dy (s:Int)(n:Nat):(cO s n).length=n:=by unfold cO;rw [Ã,List.length_range]
theorem vR (h:i<n):(cO s n)[i]?=some (s+(i:Nat)):=by
 unfold cO;rw [Ì,List.getElem?_range h];rfl
theorem jZ (s:Int)(a b:Nat):cO s (a+b)=cO s a++cO (s+(a:Nat)) b:=by
 unfold cO;rw [List.range_add,Î,ý]
 congr 1
 apply ö;intro k _;show s+((a+k:Nat):Int)=s+(a:Nat)+(k:Nat);omega
theorem iD (s:Int)(n:Nat):cO s (n+1)=s::cO (s+1) n:=by
 rw [NT n 1,jZ];show [s+((0:Nat):Int)]++_=_;simp
theorem gI:∀(n:Nat)(s m:Int),m<=s->(cO s n).filter (λ x=>decide (x<m))=[]
 | 0,s,m,h=>rfl
 | n+1,s,m,h=>by
  rw [iD,Ķ,Ü (by simp;omega)]
  exact gI n (s+1) m ak
theorem iM:∀(n:Nat)(s m:Int),s+(n:Nat)<=m->(cO s n).filter (λ x=>decide (x<m))=cO s n
 | 0,s,m,h=>rfl
 | n+1,s,m,h=>by
  rw [iD,Ķ,â (by simp;omega),iM n (s+1) m ak]
theorem rQ (n:Nat)(s m:Int)(h1:s<=m)(h2:m<=s+(n:Nat)):(cO s n).filter (λ x=>decide (x<m))=cO s (m-s).toNat:=by
 obtain⟨a,ha⟩:∃ a:Nat,m-s=(a:Int):=⟨(m-s).toNat,ak⟩;obtain⟨b,rfl⟩:∃ b:Nat,n=a+b:=⟨n-a,ak⟩;rw [jZ,Ŕ,iM a s m ak,gI b _ m ak,Ę,ha,ô]
theorem jp (m:Int)(p:List Int)(ps:List (List Int)):gO m (p::ps)=if 0<(p.filter λ x=>decide (x<m)).length then(p.filter λ x=>decide (x<m))::gO m ps else gO m ps:=by
 unfold gO;rw [ë,Ķ];by_cases h:0<(p.filter λ x=>decide (x<m)).length
 ·rw [â h,â (Ê h)]
 ·rw [Ü h,Ü (by rw [Í h];decide)]
theorem gl:∀(ns:List Int)(s m:Int),(∀ n∈ns,1<=n)->∃ Ŝ,(∀ n ∈ Ŝ,1<=n)/\gO m (bU s ns)=bU s Ŝ/\(s<=m->m<=s+ns.sum->s + Ŝ.sum=m)/\(m<=s->Ŝ=[])
 | [],s,m,_=>⟨[],(λ n h=>nomatch h),rfl,(λ h1 h2=>by simp at h2 ⊢;omega),λ _=>rfl⟩
 | n::ns,s,m,h=>by
  have hn:=h n (ì ..);obtain⟨Ŝ,g1,g2,g3,g4⟩:=gl ns (s+n) m λ x hx=>h x (Ø _ hx);show ∃ Ŝ,_/\gO m (cO s n.toNat::bU (s+n) ns)=_/\_/\_;rw [jp,g2];by_cases hs:s<m
  ·by_cases hm:s+n<=m
   ·refine⟨n :: Ŝ,λ x hx=>?_,?_,λ _ h2=>?_,λ h3=>absurd h3 ak⟩
    ·rcases á.mp hx with rfl | hx
     ·exact hn
     ·exact g1 x hx
    ·rw [iM _ _ _ ak,dy,â ak];rfl
    ·rw [ľ] at h2 ⊢;have:=g3 ak ak;omega
   ·have e:=g4 ak;subst e;refine⟨[m-s],λ x hx=>?_,?_,λ _ _=>?_,λ h3=>absurd h3 ak⟩
    ·rw [ä.mp hx];omega
    ·rw [rQ _ _ _ ak ak,dy,â ak];rfl
    ·simp;omega
  ·have e:=g4 ak;subst e;refine⟨[],(λ n h=>nomatch h),?_,λ h1 h2=>?_,λ _=>rfl⟩
   ·rw [gI _ _ _ ak,Ü (by simp)]
    rfl
   ·simp;omega
theorem ke:∀(ws:List Str)(ns:List Int)(s m:Int),(∀ n∈ns,1<=n)->gi (gV m (ws.zip (bU s ns)))=ws.zip (gO m (bU s ns))
 | [],ns,s,m,_=>by simp [gi,gV]
 | w::ws,[],s,m,_=>rfl
 | w::ws,n::ns,s,m,h=>by
  have hn:=h n (ì ..);have h':=λ x hx=>h x (Ø _ hx);have ih:=ke ws ns (s+n) m h';show gi (gV m ((w,cO s n.toNat)::ws.zip (bU (s+n) ns)))=(w::ws).zip (gO m (cO s n.toNat::bU (s+n) ns));rw [jp];show gi ((w,(cO s n.toNat).filter λ x=>decide (x<m))::gV m (ws.zip (bU (s+n) ns)))=_;unfold gi at ih ⊢;rw [Ķ];by_cases hl:0<((cO s n.toNat).filter λ x=>decide (x<m)).length
  ·rw [â hl,â (by
    cases e:(cO s n.toNat).filter (λ x=>decide (x<m)) with
    | nil=>rw [e] at hl;exact absurd hl (by simp)
    | cons _ _=>rfl),List.zip_cons_cons]
   rw [ih]
  ·rw [Ü hl];have e:(cO s n.toNat).filter (λ x=>decide (x<m))=[]:=List.eq_nil_of_length_eq_zero ak;have ms:m<=s:=by
    rcases Int.lt_or_le s m with lt | ge
    ·exfalso;obtain⟨k,hk⟩:∃ k:Nat,n.toNat=k+1:=⟨n.toNat-1,ak⟩;rw [hk,iD,Ķ,â (by simpa using lt)] at e
     cases e
    ·exact ge
   rw [Ü (by rw [e];exact Ñ),ih]
   obtain⟨Ŝ,_,g2,_,g4⟩:=gl ns (s+n) m h';rw [g2,g4 ak];show ws.zip []=(w::ws).zip [];rw [List.zip_nil_right,List.zip_nil_right]
theorem eJ {rs:List R0}(ok:∀ r∈rs,r.ok):∀ n∈rs.map R0.Ï,1<=n:=λ n hn=>by
 obtain⟨r,hr,rfl⟩:=ê.mp hn;exact(R0.Ą (ok r hr)).1
theorem iC:∀{t:Rl},t.ok->t.flat->∃ ns,(∀ n∈ns,1<=n)/\t.parts=bU 0 ns/\ns.sum=t.Ï
 | .one r,h,_=>⟨[r.Ï],λ n hn=>by rw [ä.mp hn];exact(R0.Ą h).1,rfl,by simp [Rl.Ï]⟩
 | .blocks rs,h,_=>⟨rs.map R0.Ï,eJ h.2.2.1,rfl,rfl⟩
 | .first (.one r) m,h,_=>by
  obtain⟨Ŝ,g1,g2,g3,_⟩:=gl ([r].map R0.Ï) 0 m (eJ λ r' h'=>by rw [ä.mp h'];exact h.1)
  refine⟨Ŝ,g1,g2,?_⟩;have:=g3 h.2.1 (by have:=h.2.2;simp [Rl.Ï] at this ⊢;exact this)
  rw [ν] at this;exact this
 | .first (.blocks rs) m,h,_=>by
  obtain⟨Ŝ,g1,g2,g3,_⟩:=gl (rs.map R0.Ï) 0 m (eJ h.1.2.2.1);refine⟨Ŝ,g1,g2,?_⟩;have:=g3 h.2.1 (by rw [ν];exact h.2.2)
  rw [ν] at this;exact this
 | .first (.first _ _) _,_,h=>h.elim
theorem sO:∀{t:Rl},t.ok->t.flat->t.bl=(t.base.map R0.word).zip t.parts
 | .one r,_,_=>rfl
 | .blocks rs,_,_=>rfl
 | .first (.one r) m,h,_=>ke ([r].map R0.word) ([r].map R0.Ï) 0 m (eJ λ r' h'=>by rw [ä.mp h'];exact h.1)
 | .first (.blocks rs) m,h,_=>ke (rs.map R0.word) (rs.map R0.Ï) 0 m (eJ h.1.2.2.1)
 | .first (.first _ _) _,_,h=>h.elim
theorem iJ:∀{t:Rl},t.flat->t.parts.length<=t.base.length
 | .one r,_=>Ç _
 | .blocks rs,_=>by show(bU 0 (rs.map R0.Ï)).length<=rs.length;rw [eB,Ã];exact Ç _
 | .first (.one r) m,_=>by
  show(gO m [cO 0 r.Ï.toNat]).length<=1;exact ð (ħ _ _) (by simp)
 | .first (.blocks rs) m,_=>by
  show(gO m (bU 0 (rs.map R0.Ï))).length<=rs.length;refine ð (ħ _ _) ?_;rw [Ã,eB,Ã];exact Ç _
 | .first (.first _ _) _,h=>h.elim
theorem iO {t:Rl}(ok:t.ok)(fl:t.flat):t.bl.map (·.2)=t.parts:=by
 rw [sO ok fl];exact List.map_snd_zip (by rw [Ã];exact iJ fl)
def om (b:Bk):Bool:=decide (V.str b.1=V.str "pairs")&&decide (b.2.length%2=0)
theorem rP:∀(ps:List (List Int))(rs:List R0),List.zipWith (λ (p:List Int)(r:R0)=>r.a_&&decide (p.length%2=0)) ps rs=((rs.map R0.word).zip ps).map om
 | [],rs=>by simp
 | p::ps,[]=>by simp
 | p::ps,r::rs=>by
  show(r.a_&&decide (p.length%2=0))::_=om (r.word,p)::_;rw [rP ps rs];unfold om;rw [R0.Kt];rfl
theorem oF (ok:t.ok)(fl:t.flat):fZ t=t.bl.map om:=by
 rw [sO ok fl];exact rP _ _
theorem gR:∀(ns:List Int)(s:Int),(∀ n∈ns,1<=n)->(bU s ns).flatten=cO s ns.sum.toNat
 | [],s,_=>rfl
 | n::ns,s,h=>by
  have hn:=h n (ì ..);have h':=λ x hx=>h x (Ø _ hx);have s0:=cE λ x hx=>by have:=h' x hx;omega
  show(cO s n.toNat::bU (s+n) ns).flatten=_;rw [ć,gR ns (s+n) h',ľ];have e:(n+ns.sum).toNat=n.toNat+ns.sum.toNat:=ak;rw [e,jZ]
  congr 2
  omega
theorem vp {t:Rl}(ok:t.ok)(fl:t.flat):(t.bl.map (·.2)).flatten=cO 0 t.Ï.toNat:=by
 obtain⟨ns,h1,h2,h3⟩:=iC ok fl;rw [iO ok fl,h2,gR ns 0 h1,h3]
theorem jA:∀(B:List Bk),(∀ b∈B,b.2.length%2=0)->(B.map (·.2)).flatten.length%2=0
 | [],_=>rfl
 | b::B,h=>by
  have h1:=h b (ì ..);have h2:=jA B λ x hx=>h x (Ø _ hx);rw [ë,ć,É];omega
theorem iI {t:Rl}(ok:t.ok)(fl:t.flat){n:Nat}(e:t.Ï =(n:Nat))(al:(fZ t).all id=true):n%2=0:=by
 rw [oF ok fl] at al;have h:=jA t.bl λ b hb=>by
  have:=ú.mp al (om b) (ê.mpr ⟨b,hb,rfl⟩);unfold om at this;simp only [id,Bool.and_eq_true,decide_eq_true_eq] at this;exact this.2
 rw [vp ok fl,dy,e,ô] at h;exact h
section
variable {P:Program}{w:World}{K:Frag}{mg:bL}{base:Heap}{f a1:Addr}{fd d1:FuncData}
abbrev Gn:Stmt:=bZ 70
theorem FL:ad ["_law_blocks"] ["_law_blocks"] (aa Gn):=aK
def t9:Sp:=λ vs H Q _=>∃(D:Addr)(zs:List V)(B:List Bk),vs=[.ref D]/\H D=some (.lst zs)/\Ö H zs (B.map mx)/\B.length<=20/\∀ H',Ext H H'->Q (.int ((B.map (·.2)).flatten.length:Nat)) H'
abbrev EN:Scope:=cC [("_law_word",.local),("_law_folk_here",.local),("len",.globalImplicit)]
theorem zt {X:Cx}:aT X EN [] ["_law_word","_law_folk_here"] [] []:=fG (L:=[(".0",.local),("_law_word",.local),("_law_folk_here",.local),("len",.globalImplicit)]) rfl rfl ao ao ao rfl ao ao
def fz (K:Frag)(i:Nat):TE:=jg (λ xs H Q=>∃ p ys,xs=[.ref p]/\(î K H p ys\/ĝ K H p ys)/\Q (.int ys.length) H) (av (aj i) aJ)
theorem BU (F:Ģ K "_law_folk" "_law_folk" Gn f fd)(ms:mg "sum" = none)(mn:mg "len" = none):Þ P w K mg base ay 1 f fd ["_law_blocks"] t9:=by
 refine bR F FL λ cdv A outer s H vs Q E hr h=>?_;obtain⟨D,zs,B,rfl,hD,ra,ţ,q⟩:=h;refine⟨_,bp (cZ (aq (fQ rfl) rfl ms š (ac (bH (te:=fz K 1) (g:=yC K) rfl zt (aG (pv 0)) (λ s H C fp=>by exact cr rfl (eN (cA (i:=0) qO rfl (.inl rfl)) (eN (cA (i:=1) qO rfl (.inl rfl)) bA))) (λ s H C fp=>by exact aq aw rfl mn è (ac (pv 1) au))) au))),?_⟩
 have lz:=ra.length;rw [Ã] at lz;refine⟨_,rfl,D,rfl,⟨zs,î.of hD⟩,λ D2 Ű=>?_⟩;refine bz (a:=D) (xs:=zs) (λ i ys H'=>Ext H H'/\ys=((B.take i).map λ b=>((b.2.length:Nat):Int)).map V.int) (by rw [Ô];omega) ⟨Ext.new Ű,rfl⟩ (λ i ys H' pv=>î.of (pv.1 _ _ hD)) ?_ ?_
 ·rintro i x ys H' ex ly ĉ ⟨x',ey⟩ os į R k;obtain⟨o0,o1,rfl⟩:∃ o0 o1,os=[o0,o1]:=by
   match os,į with
   | [o0,o1],_=>exact⟨o0,o1,rfl⟩
  obtain⟨d,ed,rd⟩:=ra.get ex;rw [Ì] at ed;obtain⟨bk,ebk,rfl⟩:=Ó.mp ed;obtain⟨a,l,rfl,ha,hl⟩:=oX rd;refine⟨a,_,rfl,ĝ.of (x' _ _ ha),rfl,_,_,rfl,_,_,rfl,rfl,⟨[some (.str bk.1),some (.ref l)],rfl,rfl⟩,_,rfl,l,_,rfl,.inl (î.of (x' _ _ hl)),?_⟩;refine k _ H' ĉ ⟨aN _ x' Ű,?_⟩;rw [aE ebk,Î,Î,<- ey,Ã];rfl
 ·rintro ys H' ly ĉ ⟨x',ey⟩;rw [lz,Õ] at ey;rw [ey] at ĉ;refine⟨D2,_,rfl,î.of ĉ,?_⟩;have e:∀ B:List Bk,(B.map λ b=>((b.2.length:Nat):Int)).sum=(((B.map (·.2)).flatten.length:Nat):Int):=λ B=>by
   induction B with
   | nil=>rfl
   | cons b B ih =>
    rw [ë,ľ,ih,ë,ć,É];omega
  rw [e];exact q H' x'
abbrev Bz:Stmt:=bZ 73
theorem Hw:ad ["_law_blocks"] ["_law_blocks"] (aa Bz):=aK
abbrev CB:Scope:=cC [("_law_word",.local),("_law_folk_here",.local),("len",.globalImplicit)]
theorem Ac {X:Cx}:aT X CB [] ["_law_word","_law_folk_here"] [] []:=fG (L:=[(".0",.local),("_law_word",.local),("_law_folk_here",.local),("len",.globalImplicit)]) rfl rfl ao ao ao rfl ao ao
def yc:Sp:=λ vs H Q _=>∃(D:Addr)(zs:List V)(B:List Bk),vs=[.ref D]/\H D=some (.lst zs)/\Ö H zs (B.map mx)/\B.length<=20/\∀ H',Ext H H'->Q (.bl ((B.map om).all id)) H'
theorem vK {b:Bk}:om b = !((!decide (V.str b.1=V.str "pairs"))||decide (V.int ((b.2.length:Int)%2)=V.int 1)):=by
 unfold om;cases decide (V.str b.1=V.str "pairs") with
 | false=>rfl
 | true =>
  by_cases e:b.2.length%2=0
  ·rw [Ê e,Í (λ z=>by have:=V.int.inj z;omega)];rfl
  ·rw [Í e,Ê (Ĕ V.int ak)];rfl
def CJ (K:Frag):TT:=DM (tB (aS Fy (aj 0) (tC (.str "pairs")))) (tB (aS uR (aS (rI (λ _ j=>0<j) λ i j=>.int (i%j)) (fz K 1) (tC (.int 2))) (tC (.int 1))))
def Jh (K:Frag):TS:=cH (aS (xP K) (gh (bn K (aj 0)) 2 [] (yC K) (CJ K) (aj 0)) (bV aJ))
theorem yg {cdv:Value}{A:Around}{outer:List Env}{s:Shared}{H:Hp}{E:XK}(mn:mg "len" = none)(hr:oQ 0 "_law_are_pairs" Bz A s f cdv):Bx (ż (aP ay P w K mg base ["_law_blocks"] "_law_are_pairs" (aa Bz) f cdv A outer s H E).ŀ (aF Bz) (Jh K)):=by
 have hu:=hr.JM;exact bt (eZ ⟨dw (kX hu) (eR (te:=aj 0) (tt:=CJ K) (g:=yC K) rfl Ac (aG (pv 0)) (λ s H C fp=>by exact cr rfl (eN (cA (i:=0) qO rfl (.inl rfl)) (eN (cA (i:=1) qO rfl (.inl rfl)) bA))) (λ s H C fp=>by exact PW.pt (f8 (aB iZ (pv 0) bh (aC _)) (dW (aB eD (aA dU (aq aw rfl mn è (ac (pv 1) au)) aI) aI (aC _))))) (λ s H C fp=>by exact pv 0)) (bT au) (aC _)⟩)
theorem CG (F:Ģ K "_law_are_pairs" "_law_are_pairs" Bz f fd)(mn:mg "len" = none):Þ P w K mg base ay 1 f fd ["_law_blocks"] yc:=by
 refine bR F Hw λ cdv A outer s H vs Q E hr h=>?_;obtain⟨D,zs,B,rfl,hD,ra,ţ,q⟩:=h;refine gr (yg mn hr) ⟨?_⟩;have lz:=ra.length;rw [Ã] at lz;refine⟨_,rfl,D,rfl,⟨zs,î.of hD⟩,λ D2 Ű=>?_⟩;refine fR (a:=D) (xs:=zs) (cap:=[]) (λ i ys H'=>Ext H H'/\ys.isEmpty=((B.take i).map om).all id) (by rw [Ô];omega) ⟨Ext.new Ű,rfl⟩ (λ i ys H' pv=>î.of (pv.1 _ _ hD)) ?_ ?_
 ·rintro i x ys H' ex ly ĉ ⟨x',ee⟩ os į N kN;obtain⟨o0,o1,rfl⟩:∃ o0 o1,os=[o0,o1]:=by
   match os,į with
   | [o0,o1],_=>exact⟨o0,o1,rfl⟩
  obtain⟨d,ed,rd⟩:=ra.get ex;rw [Ì] at ed;obtain⟨bk,ebk,rfl⟩:=Ó.mp ed;obtain⟨a,l,rfl,ha,hl⟩:=oX rd;have et:((B.take (i+1)).map om).all id=(((B.take i).map om).all id&&om bk):=by
   rw [aE ebk,Î,List.all_append];simp
  refine⟨a,_,rfl,ĝ.of (x' _ _ ha),rfl,_,_,rfl,_,_,rfl,rfl,⟨[some (.str bk.1),some (.ref l)],rfl,rfl⟩,_,rfl,rfl,_,rfl,?_⟩;have fin:∀ b:Bool,om bk = !b->(b=false->N ys H')/\(b=true->aj 0 [some (.str bk.1),some (.ref l)] H' λ y H4=>H4 D2=some (.lst ys)/\N (ys ++ [y]) (af H4 D2 (.lst (ys ++ [y])))):=λ b eb=>by
   refine⟨λ z=>kN ys H' ⟨x',?_⟩ ak ĉ,λ z=>⟨_,rfl,ĉ,kN _ _ ⟨aN _ x' Ű,?_⟩ (by rw [É];show ys.length+1<=i+1;omega) aO⟩⟩
   ·rw [et,eb,z,ee];simp
   ·rw [et,eb,z];simp
  have ep:=vK (b:=bk);cases g:decide (V.str bk.1=V.str "pairs") with
  | false =>
   rw [g] at ep;exact cU (fin true ep)
  | true =>
   rw [g] at ep;refine cM ⟨_,rfl,l,_,rfl,.inl (î.of (x' _ _ hl)),_,_,rfl,rfl,(by show(0:Int)<2;decide),rfl,_,rfl,?_⟩
   rw [Ã];exact fin _ ep
 ·rintro ys H' ly ĉ ⟨x',ee⟩;rw [lz,Õ] at ee;refine⟨dZ,λ r hr=>?_⟩;have x2:=Ext.new (o:=.lst []) hr;refine⟨D2,r,ys,rfl,rfl,î.of (x2 _ _ ĉ),î.of aO,?_⟩;rw [ee];exact q _ (x'.trans x2)
end
section
variable {P:Program}{w:World}{K:Frag}{mg:bL}{base:Heap}{C MC:Nat->Addr}{f S g:Addr}{fd gd:FuncData}
abbrev uY:Stmt:=az (bZ 58) 0
def kT (MC:Nat->Addr):Sp:=λ vs H Q _=>∃ x v k dx,k<4/\vs=[.ref x,v]/\H x=some (.ins (MC k) dx [])/\Q .ą (af H x (.ins (MC k) dx [("mark",v)]))
theorem vY:ad ["self","mark"] ["self","mark"] (aa uY):=aK
theorem yA (Z:KM K MC)(F:Ģ K "__init__" "Measure.__init__" uY f fd):Þ P w K mg base ay 1 f fd ["self","mark"] (kT MC):=by
 refine bR F vY λ cdv A outer s H vs Q E hr h=>?_;obtain⟨x,v,k,dx,hk,rfl,hx,q⟩:=h;exact⟨_,bp (cS (pv 0) (pv 1) rfl),_,rfl,_,rfl,x,_,dx,[],rfl,hx,Z.cls k hk,Z.no k hk,ar,q⟩
def f9 (MC:Nat->Addr)(k:Nat):Sp:=λ vs H Q _=>∃ x dx,vs=[.ref x]/\H x=some (.ins (MC k) dx [])/\∀ m H',Kept H H' x->H' m=some (.tup [.str (jm k)])->H' x=some (.ins (MC k) dx [("mark",.ref m)])->Q .ą H'
abbrev AM:Stmt:=az (bZ 59) 0
theorem EZ:ad ["self"] ["self"] (aa AM):=aK
theorem zF (F:Ģ K "__init__" "Sum.__init__" AM f fd)(Cf:eF K S "__init__" g)(G:Þ P w K mg base ay 1 g gd ["self","mark"] (kT MC))(bG:Binds K gd ["self","mark"] [])(mS:mg "Measure" = some (.ref S)):Þ P w K mg base ay 2 f fd ["self"] (f9 MC 0):=by
 refine bR F EZ λ cdv A outer s H vs Q E hr h=>?_;obtain⟨x,dx,rfl,hx,q⟩:=h;refine⟨_,bp (ax (bP Cf G hr rfl mS bG .nil ag (ac (pv 0) (ac (bK (ac bh au)) au)))),?_⟩;refine⟨_,rfl,dZ,λ t ht=>?_⟩;have x1:=Ext.new (o:=.tup [.str "sum"]) ht;have ne:t≠x:=λ e=>by rw [e,hx] at ht;cases ht
 refine⟨x,_,0,dx,ar,rfl,x1 _ _ hx,q t _ ((x1.kept x).trans (aR _)) ?_ aO⟩;rw [ah ne];exact aO
abbrev zv:Stmt:=az (bZ 60) 0
theorem Eh:ad ["self"] ["self"] (aa zv):=aK
theorem zU (F:Ģ K "__init__" "Ranks.__init__" zv f fd)(Cf:eF K S "__init__" g)(G:Þ P w K mg base ay 1 g gd ["self","mark"] (kT MC))(bG:Binds K gd ["self","mark"] [])(mS:mg "Measure" = some (.ref S)):Þ P w K mg base ay 2 f fd ["self"] (f9 MC 1):=by
 refine bR F Eh λ cdv A outer s H vs Q E hr h=>?_;obtain⟨x,dx,rfl,hx,q⟩:=h;refine⟨_,bp (ax (bP Cf G hr rfl mS bG .nil ag (ac (pv 0) (ac (bK (ac bh au)) au)))),?_⟩;refine⟨_,rfl,dZ,λ t ht=>?_⟩;have x1:=Ext.new (o:=.tup [.str "ranks"]) ht;have ne:t≠x:=λ e=>by rw [e,hx] at ht;cases ht
 refine⟨x,_,1,dx,ar,rfl,x1 _ _ hx,q t _ ((x1.kept x).trans (aR _)) ?_ aO⟩;rw [ah ne];exact aO
abbrev zL:Stmt:=az (bZ 61) 0
theorem B1:ad ["self"] ["self"] (aa zL):=aK
theorem Ba (F:Ģ K "__init__" "Wins.__init__" zL f fd)(Cf:eF K S "__init__" g)(G:Þ P w K mg base ay 1 g gd ["self","mark"] (kT MC))(bG:Binds K gd ["self","mark"] [])(mS:mg "Measure" = some (.ref S)):Þ P w K mg base ay 2 f fd ["self"] (f9 MC 2):=by
 refine bR F B1 λ cdv A outer s H vs Q E hr h=>?_;obtain⟨x,dx,rfl,hx,q⟩:=h;refine⟨_,bp (ax (bP Cf G hr rfl mS bG .nil ag (ac (pv 0) (ac (bK (ac bh au)) au)))),?_⟩;refine⟨_,rfl,dZ,λ t ht=>?_⟩;have x1:=Ext.new (o:=.tup [.str "wins"]) ht;have ne:t≠x:=λ e=>by rw [e,hx] at ht;cases ht
 refine⟨x,_,2,dx,ar,rfl,x1 _ _ hx,q t _ ((x1.kept x).trans (aR _)) ?_ aO⟩;rw [ah ne];exact aO
abbrev Bg:Stmt:=az (bZ 62) 0
theorem D4:ad ["self"] ["self"] (aa Bg):=aK
theorem zi (F:Ģ K "__init__" "Signs.__init__" Bg f fd)(Cf:eF K S "__init__" g)(G:Þ P w K mg base ay 1 g gd ["self","mark"] (kT MC))(bG:Binds K gd ["self","mark"] [])(mS:mg "Measure" = some (.ref S)):Þ P w K mg base ay 2 f fd ["self"] (f9 MC 3):=by
 refine bR F D4 λ cdv A outer s H vs Q E hr h=>?_;obtain⟨x,dx,rfl,hx,q⟩:=h;refine⟨_,bp (ax (bP Cf G hr rfl mS bG .nil ag (ac (pv 0) (ac (bK (ac bh au)) au)))),?_⟩;refine⟨_,rfl,dZ,λ t ht=>?_⟩;have x1:=Ext.new (o:=.tup [.str "signs"]) ht;have ne:t≠x:=λ e=>by rw [e,hx] at ht;cases ht
 refine⟨x,_,3,dx,ar,rfl,x1 _ _ hx,q t _ ((x1.kept x).trans (aR _)) ?_ aO⟩;rw [ah ne];exact aO
structure Hy (P:Program)(w:World)(K:Frag)(mg:bL)(base:Heap)(MC:Nat->Addr)(f0 f1 f2 f3:Addr)(e0 e1 e2 e3:FuncData):Prop where
 k0:Mk K (MC 0) f0
 k1:Mk K (MC 1) f1
 k2:Mk K (MC 2) f2
 k3:Mk K (MC 3) f3
 g0:Þ P w K mg base ay 2 f0 e0 ["self"] (f9 MC 0)
 g1:Þ P w K mg base ay 2 f1 e1 ["self"] (f9 MC 1)
 g2:Þ P w K mg base ay 2 f2 e2 ["self"] (f9 MC 2)
 g3:Þ P w K mg base ay 2 f3 e3 ["self"] (f9 MC 3)
 b0:Binds K e0 ["self"] []
 b1:Binds K e1 ["self"] []
 b2:Binds K e2 ["self"] []
 b3:Binds K e3 ["self"] []
 m0:mg "Sum" = some (.ref (MC 0))
 m1:mg "Ranks" = some (.ref (MC 1))
 m2:mg "Wins" = some (.ref (MC 2))
 m3:mg "Signs" = some (.ref (MC 3))
theorem Ef (hx:H x=none)(hd:H dx=none)(ne:dx≠x)(q:∀ H',Ext H H'->Me MC H' k (.ref x)->R .ą H'):f9 MC k [.ref x] (af (af H dx (.own x)) x (.ins (MC k) dx [])) R E:=by
 have xe:=dE (u:=.own x) (v:=.ins (MC k) dx []) hx hd ne;exact⟨x,dx,rfl,aO,λ m H' kp hm Li=>q H' (xe.kp hx kp) ⟨x,dx,m,rfl,Li,hm⟩⟩
end
structure KW (K:Frag)(MC:Nat->Addr)(MS:Addr):Prop where
 cls:Lx K (MC 4)
 no:∀ n,n∈(["inner","weights","mark"]:List Str)->Ũ K (MC 4) n
 ha:∀ i,i<5->PySem.W.findIn K (.ref (MC i)) "__class__" = some (some (.builtin "object.__class__"))
 hn:PySem.W.specialIn K (.builtin "object.__class__") "__get__" = some (some (.builtin "getset_descriptor.__get__"))
 Kg:PySem.W.takesIn K (.builtin "object.__class__")=some true
 hm:∀ i,i<5->PySem.W.mroIn K (MC i) (.type "object")=some true
 kk:∀ i j,i<5->j<4->kitOne K (.ref (MC i)) (.ref (MC j))=some (i==j)
 kM:∀ i,i<5->kitOne K (.ref (MC i)) (.ref MS)=some true
def InK (K:Frag)(MC:Nat->Addr)(H:Hp)(v:V)(b:Bool):Prop:=∃ t,ŕ K H v t/\kitAny K t [.ref (MC 0),.ref (MC 1),.ref (MC 2),.ref (MC 3)]=some b
theorem InK.ext (h:InK K MC H v b)(x:Ext H H'):InK K MC H' v b:=by
 obtain⟨t,k,e⟩:=h;exact⟨t,My.ŕ.ext k x,e⟩
theorem ut (h1:kitOne K t a=some x)(h2:kitOne K t b=some y)(h3:kitOne K t c=some z)(h4:kitOne K t d=some u):kitAny K t [a,b,c,d]=some (x||(y||(z||u))):=by
 cases x <;> cases y <;> cases z <;> cases u <;> simp [kitAny,h1,h2,h3,h4]
theorem Me.X3 (Z:KM K MC)(Y:KW K MC MS)(hk:k<4)(h:Me MC H k v):InK K MC H v true:=by
 obtain⟨a,dx,m,rfl,ha,_⟩:=h;have k5:=Ć hk;refine⟨_,.ins ha (Z.cls k hk) (Y.ha k k5) Y.hn Y.Kg (Y.hm k k5),?_⟩;rw [ut (Y.kk k 0 k5 ar) (Y.kk k 1 k5 ar) (Y.kk k 2 k5 ar) (Y.kk k 3 k5 ar)]
 match k,hk with
 | 0,_=>rfl
 | 1,_=>rfl
 | 2,_=>rfl
 | 3,_=>rfl
def Wm (MC:Nat->Addr)(H:Hp)(k:Nat)(ws:List Int)(v:V):Prop:=∃ a dx i t m r,v=.ref a/\H a=some (.ins (MC 4) dx [("inner",i),("weights",.ref t),("mark",.ref m)])/\Me MC H k i/\H t=some (.tup (ws.map V.int))/\H m=some (.tup [.str "weighted",.ref r,.ref t])/\H r=some (.tup [.str (jm k)])
theorem Wm.ext (h:Wm MC H k ws v)(x:Ext H H'):Wm MC H' k ws v:=by
 obtain⟨a,dx,i,t,m,r,e,ha,hi,ht,hm,hr⟩:=h;exact⟨a,dx,i,t,m,r,e,x _ _ ha,hi.ext x,x _ _ ht,x _ _ hm,x _ _ hr⟩
def Bu (ws:List Int):Prop:=1<=ws.length/\ws.length<=6/\∀ n∈ws,0<=n/\n<=20
def Fs (xs:List V):Bool:=(decide (1<=xs.length)&&decide (xs.length<=6))&&(xs.map (KA 0 20)).all id
theorem AN (h:Bu ws):Fs (ws.map V.int)=true:=by
 unfold Fs;rw [Ã,Ê h.1,Ê h.2.1,Ŀ,Ŀ,ú];intro b hb;rw [ý] at hb;obtain⟨n,hn,rfl⟩:=ê.mp hb;obtain⟨h1,h2⟩:=h.2.2 n hn;show(decide ((0:Int)<=n)&&decide (n<=20))=true;rw [Ê h1,Ê h2];rfl
section
variable {P:Program}{w:World}{K:Frag}{mg:bL}{base:Heap}{C MC:Nat->Addr}{MS f g a1 a2 D CT CW fT fW:Addr}{fd gd d1 d2 eT eW:FuncData}
abbrev AX:Stmt:=bZ 63
def wa (K:Frag)(MC:Nat->Addr):Sp:=λ vs H Q _=>∃ v b,vs=[v]/\InK K MC H v b/\∀ H',Ext H H'->Q (.bl b) H'
theorem Fj:ad ["thing"] ["thing"] (aa AX):=aK
theorem yZ (F:Ģ K "may_be_inner" "may_be_inner" AX f fd)(m0:mg "Sum" = some (.ref (MC 0)))(m1:mg "Ranks" = some (.ref (MC 1)))(m2:mg "Wins" = some (.ref (MC 2)))(m3:mg "Signs" = some (.ref (MC 3)))(mi:mg "isinstance" = none):Þ P w K mg base ay 1 f fd ["thing"] (wa K MC):=by
 refine bR F Fj λ cdv A outer s H vs Q E hr h=>?_;obtain⟨v,b,rfl,bk,q⟩:=h;refine⟨_,bp (cZ (aq jH rfl mi à (ac (pv 0) (ac (bK (ac (bu (v:=.ref (MC 0)) rfl m0 rfl) (ac (bu (v:=.ref (MC 1)) rfl m1 rfl) (ac (bu (v:=.ref (MC 2)) rfl m2 rfl) (ac (bu (v:=.ref (MC 3)) rfl m3 rfl) au))))) au)))),?_⟩;refine⟨_,rfl,dZ,λ p hp=>?_⟩;have x1:=Ext.new (o:=.tup [.ref (MC 0),.ref (MC 1),.ref (MC 2),.ref (MC 3)]) hp;obtain⟨t,ty,ka⟩:=bk.ext x1;exact⟨v,p,[MC 0,MC 1,MC 2,MC 3],t,b,rfl,ty,aO,ka,q _ x1⟩
abbrev Gg:Stmt:=bZ 64
def DS (K:Frag):Sp:=λ vs H Q _=>∃ v,vs=[v]/\((MP K H v "list" /\ ∀ H',Ext H H'->Q (.bl false) H')\/∃ a xs,v=.ref a/\H a=some (.lst xs)/\xs.length<1000/\(∀ x∈xs,Th K H x)/\∀ H',Ext H H'->Q (.bl (Fs xs)) H')
theorem Gz:ad ["thing"] ["thing"] (aa Gg):=aK
abbrev BJ:Scope:=cC [("weight",.local),("is_whole",.globalImplicit),("MOST_WEIGHT",.globalImplicit)]
theorem Bc:aT X BJ [] ["weight"] [] []:=by
 refine⟨rfl,rfl,ao,ao,ao,(λ z c h=>nomatch h),(λ z h=>?_),ao,(λ k z h=>by simp at h),rfl⟩
 exfalso;have h':List.lookup z [((".0" : Str),NameKind.local),(("weight" : Str),NameKind.local),(("is_whole" : Str),NameKind.globalImplicit),(("MOST_WEIGHT" : Str),NameKind.globalImplicit)]=some .cell\/List.lookup z [((".0" : Str),NameKind.local),(("weight" : Str),NameKind.local),(("is_whole" : Str),NameKind.globalImplicit),(("MOST_WEIGHT" : Str),NameKind.globalImplicit)]=some .free:=h;simp only [List.lookup_cons,List.lookup_nil] at h'
 repeat' (split at h')
 all_goals simp at h'
theorem HW:((["weight"]:List Str)++([]:List Str)).Nodup:=ao
theorem BF (N:rX K)(F:Ģ K "are_weights" "are_weights" Gg f fd)(A2:Df P w K mg base ay 2 "is_whole" ["thing","low","high"] (fE K) a2 d2)(mR:mg "MOST_WEIGHTS" = some (.int 6 t))(XS:mg "MOST_WEIGHT" = some (.int 20 t'))
  (mi:mg "isinstance" = none)(ml:mg "list" = none)(mn:mg "len" = none)(ma:mg "all" = none):Þ P w K mg base ay 3 f fd ["thing"] (DS K):=by
 refine bR F Gz λ cdv A outer s H vs Q E hr h=>?_;obtain⟨v,rfl,h⟩:=h;refine⟨_,cn (bC (PW.pt (f8 (bQ (bF (aq (c6 N) rfl mi à (ac (pv 0) (ac (hZ rfl ml ĕ) au))))) (dW (bQ (bF (cL A2 hr ag (ac (aq aw rfl mn è (ac (pv 0) au)) (ac aI (ac (bu (v:=.int 6) rfl mR ⟨_,rfl⟩) au))))))))) (bp (cZ mQ)) gj)
  (bp (cZ (aq (kO rfl) rfl ma PyProof.Rows.boot_all (ac (bH (te:=eu (fE K) [] E0 (av (aj 0) (av (tC (.int 0)) (av (tC (.int 20)) aJ)))) (g:=aX 0) rfl Bc (aG (pv 0)) (λ s H C fp=>cA HW rfl (.inl rfl)) (λ s H C fp=>cL A2 hr ag (ac (pv 0) (ac aI (ac (bu rfl XS ⟨_,rfl⟩) au))))) au)))),?_⟩
 rcases h with⟨⟨t,kd,kt⟩,q⟩ | ⟨a,xs,rfl,ha,P',bk,q⟩
 ·exact⟨_,rfl,_,_,_,_,rfl,kd,kt,_,rfl,cU (cU (q H (.refl _)))⟩
 refine⟨_,rfl,_,_,_,_,rfl,.inl (.lst ha),rfl,_,rfl,cM ?_⟩;refine⟨_,rfl,a,xs,rfl,.inl (î.of ha),_,1,6,rfl,.inl ⟨_,rfl⟩,_,rfl,?_⟩;have ei:KA 1 6 (.int (xs.length:Nat))=(decide (1<=xs.length)&&decide (xs.length<=6)):=by
  show(decide ((1:Int)<=(xs.length:Nat))&&decide (((xs.length:Nat):Int)<=6))=_
  congr 1 <;> exact ě.mpr ak
 rw [ei];unfold Fs at q;cases e:decide (1<=xs.length)&&decide (xs.length<=6) with
 | false =>
  rw [e,Β] at q;exact cU (q H (.refl _))
 | true =>
  rw [e,Ŀ] at q;refine cM ⟨_,rfl,a,rfl,⟨_,î.of ha⟩,λ D hD=>?_⟩;refine bz (λ i ys H'=>Ext H H'/\ys=((xs.take i).map (KA 0 20)).map .bl) (by rw [Ô];omega) ⟨.new hD,rfl⟩ (λ i ys H' pv=>î.of (pv.1 _ _ ha)) ?_ ?_
  ·rintro i x ys H' ex ly ĉ ⟨x',rfl⟩ os į R k;obtain⟨o0,rfl⟩:∃ o0,os=[o0]:=by
    match os,į with
    | [o0],_=>exact⟨o0,rfl⟩
   refine⟨⟨[some x],rfl,rfl⟩,_,rfl,x,0,20,rfl,(bk x (Ú ex)).ext x',k _ H' ĉ ⟨aN _ x' hD,?_⟩⟩;rw [aE ex,Î,Î];rfl
  ·rintro ys H' ly ĉ ⟨x',rfl⟩;rw [Õ] at ĉ;exact⟨D,_,rfl,î.of ĉ,q H' x'⟩
def wq (MC:Nat->Addr):Sp:=λ vs H Q _=>∃ x v dx fs,vs=[.ref x,v]/\H x=some (.ins (MC 4) dx fs)/\fs.length<20/\Q .ą (af H x (.ins (MC 4) dx (bJ "mark" v fs)))
theorem zX (Y:KW K MC MS)(F:Ģ K "__init__" "Measure.__init__" uY f fd):Þ P w K mg base ay 1 f fd ["self","mark"] (wq MC):=by
 refine bR F vY λ cdv A outer s H vs Q E hr h=>?_;obtain⟨x,v,dx,fs,rfl,hx,l,q⟩:=h;exact⟨_,bp (cS (pv 0) (pv 1) rfl),_,rfl,_,rfl,x,_,dx,fs,rfl,hx,Y.cls,Y.no _ ao,ak,q⟩
abbrev Gu:Stmt:=az (bZ 65) 0
abbrev Cw:List Str:=["self","inner","weights"]
theorem GA:ad Cw Cw (aa Gu):=aK
def zM (K:Frag)(MC:Nat->Addr)(CT CW:Addr):Sp:=λ vs H Q E=>∃(x:Addr)(v u:V)(dx:Addr)(G:Hp),vs=[.ref x,v,u]/\H x=some (.ins (MC 4) dx [])/\Ext G H/\G x=none/\((InK K MC G v false/\∀ H',Ext H H'->cu CT "found" v H' E) \/
 ∃ k,k<4/\Me MC G k v/\((MP K G u "list" /\ ∀ H',Ext H H'->cu CW "found" u H' E)\/(∃ a xs,u=.ref a/\G a=some (.lst xs)/\xs.length<1000/\(∀ x∈xs,Th K G x)/\Fs xs=false/\∀ H',Ext H H'->cu CW "found" u H' E) \/
 ∃ a ws,u=.ref a/\G a=some (.lst (ws.map V.int))/\Bu ws/\∀ H',Kept H H' x->Wm MC H' k ws (.ref x)->Q .ą H'))
theorem Dr (Z:KM K MC)(Y:KW K MC MS)(F:Ģ K "__init__" "Weighted.__init__" Gu f fd)(B:Ł K D)(T1:gP K mg D "NoTrials" "found" CT fT eT)(T2:gP K mg D "NoWeights" "found" CW fW eW)
  (Cf:eF K MS "__init__" g)(G':Þ P w K mg base ay 1 g gd ["self","mark"] (wq MC))(bG:Binds K gd ["self","mark"] [])(mS:mg "Measure" = some (.ref MS))
  (A1:Df P w K mg base ay 1 "may_be_inner" ["thing"] (wa K MC) a1 d1)(A2:Df P w K mg base ay 3 "are_weights" ["thing"] (DS K) a2 d2)(Mt:bv P w K mg base ay 1 "told" ["self"] (iq MC) (λ _=>rZ MC))(mt:mg "tuple" = none):Þ P w K mg base (cy P w) 4 f fd Cw (zM K MC CT CW):=by
 refine fL F GA λ cdv A outer s H vs Q E hr h=>?_;obtain⟨x,v,u,dx,G,rfl,hx,xG,nG,h⟩:=h;have Ğ:ó 1 _:=hr.mono ar;have j_:ó 2 _:=hr.mono ar;refine⟨_,cn (bC (bQ (bF (cL A1 Ğ ag (ac (pv 1) au)))) (bp (bX B T1.cls (T1.ok P w base) j_ T1.bi rfl T1.LB (pv 1))) gj)
  (cn (bC (bQ (bF (cL A2 hr ag (ac (pv 2) au)))) (bp (bX B T2.cls (T2.ok P w base) j_ T2.bi rfl T2.LB (pv 2))) gj)
  (cn (cS (pv 0) (pv 1) rfl)
  (cn (cS (pv 0) (aU bY rfl mt õ (ac (pv 2) au)) rfl)
  (bp (ax (bP Cf G' Ğ rfl mS bG .nil ag (ac (pv 0) (ac (bK (ac bh (ac (bc (pv 1) Mt Ğ ag) (ac (mP (pv 0) rfl) au)))) au)))))))),?_⟩
 rcases h with⟨ik,q⟩ | ⟨k,hk,me,h⟩
 ·exact⟨_,rfl,v,false,rfl,ik.ext xG,λ H1 x1=>⟨_,rfl,cU ⟨_,rfl,λ e' de h1 h2 nd=>dq nd (q H1 x1 e' de h1 h2 nd)⟩⟩⟩
 refine⟨_,rfl,v,true,rfl,(me.X3 Z Y hk).ext xG,λ H1 x1=>⟨_,rfl,cM ?_⟩⟩;have KN:=xG.trans x1;rcases h with⟨nk,q⟩ | ⟨a,xs,rfl,ha,l1,bk,bad,q⟩ | ⟨a,ws,rfl,ha,ok,q⟩
 ·exact⟨_,rfl,u,rfl,.inl ⟨nk.ext KN,λ H2 x2=>⟨_,rfl,cU ⟨_,rfl,λ e' de h1 h2 nd=>dq nd (q H2 (x1.trans x2) e' de h1 h2 nd)⟩⟩⟩⟩
 ·refine⟨_,rfl,_,rfl,.inr ⟨a,xs,rfl,KN _ _ ha,l1,λ x hx=>(bk x hx).ext KN,λ H2 x2=>⟨_,rfl,?_⟩⟩⟩;rw [bad];exact cU ⟨_,rfl,λ e' de h1 h2 nd=>dq nd (q H2 (x1.trans x2) e' de h1 h2 nd)⟩
 have l6:=ok.2.1;refine⟨_,rfl,_,rfl,.inr ⟨a,_,rfl,KN _ _ ha,by rw [Ã];omega,λ x hx=>?_,λ H2 x2=>⟨_,rfl,?_⟩⟩⟩
 ·obtain⟨n,_,rfl⟩:=ê.mp hx;exact .inl ⟨n,rfl⟩
 rw [AN ok];refine cM ?_;have ŋ:=x1.trans x2;have KC:=ŋ _ _ hx;refine⟨_,rfl,_,rfl,x,_,dx,[],rfl,KC,Y.cls,Y.no _ ao,ar,?_⟩;have k3:Kept H2 (af H2 x (.ins (MC 4) dx (bJ "inner" v []))) x:=aR _;have MJ:af H2 x (.ins (MC 4) dx (bJ "inner" v [])) x=some (.ins (MC 4) dx [("inner",v)]):=aO;generalize af H2 x (.ins (MC 4) dx (bJ "inner" v []))=H3 at k3 MJ ⊢;have Uc:Kept H H3 x:=(ŋ.kept x).trans k3;have QM:=xG.kp nG Uc;refine⟨_,rfl,a,_,rfl,.inl ⟨î.of (QM _ _ ha),λ l hl=>?_⟩⟩;have x4:=Ext.new (o:=.tup (ws.map V.int)) hl;have Oj:af H3 l (.tup (ws.map V.int)) l=some (.tup (ws.map V.int)):=aO;have OW:=x4 _ _ MJ;generalize af H3 l (.tup (ws.map V.int))=H4 at x4 Oj OW ⊢;have xl:l≠x:=λ e=>by rw [e,OW] at Oj;cases Oj
 refine⟨_,rfl,x,_,dx,_,rfl,OW,Y.cls,Y.no _ ao,(by show 1<_;decide),?_⟩
 have k5:Kept H4 (af H4 x (.ins (MC 4) dx (bJ "weights" (.ref l) [("inner",v)]))) x:=aR _;have Sr:af H4 x (.ins (MC 4) dx (bJ "weights" (.ref l) [("inner",v)])) x=some (.ins (MC 4) dx [("inner",v),("weights",.ref l)]):=aO;generalize af H4 x (.ins (MC 4) dx (bJ "weights" (.ref l) [("inner",v)]))=H5 at k5 Sr ⊢;have Yx:=k5 _ _ Oj xl;have Ua:Kept H H5 x:=(Uc.trans (x4.kept x)).trans k5;have Tr:=xG.kp nG Ua;have P1:=me.ext Tr;refine⟨_,rfl,dB ao hk P1 (λ R r=>⟨_,rfl,r⟩) ⟨v,k,rfl,hk,P1,λ r LF=>?_⟩⟩;refine⟨_,rfl,x,_,dx,_,_,rfl,Sr,Y.cls,Y.no _ ao,rfl,dZ,λ m hm=>?_⟩;have x6:=Ext.new (o:=.tup [.str "weighted",.ref r,.ref l]) hm;have Oh:af H5 m (.tup [.str "weighted",.ref r,.ref l]) m=some (.tup [.str "weighted",.ref r,.ref l]):=aO;generalize af H5 m (.tup [.str "weighted",.ref r,.ref l])=H6 at x6 Oh ⊢;have Sq:=x6 _ _ Sr;have Yw:=x6 _ _ Yx;have NJ:=x6 _ _ LF;refine⟨x,_,dx,_,rfl,Sq,(by show 2<20;decide),q _ ((Ua.trans (x6.kept x)).trans (aR _)) ?_⟩
 have Q3:Kept H6 (af H6 x (.ins (MC 4) dx (bJ "mark" (.ref m) [("inner",v),("weights",.ref l)]))) x:=aR _;have OJ:=(Tr.trans x6).kp nG Q3;have nm:m≠x:=λ e=>by rw [e,Sq] at Oh;cases Oh
 have nr:r≠x:=λ e=>by rw [e,Sq] at NJ;cases NJ
 exact⟨x,dx,v,l,m,r,rfl,aO,me.ext OJ,Q3 _ _ Yw xl,Q3 _ _ Oh nm,Q3 _ _ NJ nr⟩
end
end My
namespace My
open PySem PySem.W L2
open PyProof.Rows (Call_)
section
variable {prog:Program}{w:World}{A:Around}{E:eH}{s:Shared}
theorem zq {x1}{z TI TO i1 i2 l1 l2 T:Addr}(D:qU z TI TO i1 i2 l1 l2)(hz:z_ s.heap z TI TO i1 i2 l1 l2 k)
  (hQ:∀ h',z_ h' z TI TO i1 i2 l1 l2 k->Heap.SameBut z s.heap h'->Q () { s with heap:=h' }):wpAny (model prog w) A (letOwnedTupleGo (.Tuple elts x1 ø) (.ref z) (.ref T)) Q E s:=by
 obtain⟨⟨f0,b,zo,ow⟩,ti,⟨ta,tb,to⟩,j1,j2⟩:=hz;refine À (wpAny_load zo ?_);show wpAny _ _ (if(["enumerate","zip","dict_itemiterator","dict_reverseitemiterator","odict_iterator","itertools.zip_longest","itertools.pairwise"].contains "zip" &&
   (#[f0,f0,.bool false,.ref TI,.ref TO]:Array Value)[0]?==some (rawInt T))=true then _ else _) Q E s
 split
 ·refine À (A_ ?_);refine ÿ zo (by simp) λ h' Vm s'=>hQ h' ⟨⟨_,b,Vm,.inl rfl⟩,s'.extBut _ _ D.a1 ti,⟨ta,tb,s'.extBut _ _ D.a2 to⟩,j1.extBut s'.extBut D.a3,j2.extBut s'.extBut D.a4⟩ s'
 ·exact È (hQ s.heap ⟨⟨f0,b,zo,ow⟩,ti,⟨ta,tb,to⟩,j1,j2⟩ ⟨rfl,λ _ _=>rfl⟩)
theorem DR {z TI TO i1 i2 l1 l2:Addr}(D:qU z TI TO i1 i2 l1 l2)(hz:z_ s.heap z TI TO i1 i2 l1 l2 k)(g1:s.heap.IsList l1 xs)(g2:s.heap.IsTuple l2 ys)(hx:xs[k]?=some x)(hy:ys[k]?=some y)
  (hQ:∀ h',z_ h' z TI TO i1 i2 l1 l2 (k+1)->IsPair h' s.heap.objs.size x y->h'.objs.size=s.heap.objs.size+1->f6 s.heap h' z TO i1 i2->Q (some (.ref s.heap.objs.size)) { s with heap:=h' }) :
  wpAny (model prog w) A (pyNext (.ref z)) Q E s:=by
 exact À (ſ (Ă hz.ty Ĥ (Ē Ĥ hz.ty m_ (pc D hz g1 g2 hx hy λ h' a b c d=>È (hQ h' a b c d)) (χ _))))
theorem sr {z TI TO i1 i2 l1 l2:Addr}(hh:A.handled=none)(D:qU z TI TO i1 i2 l1 l2)(hz:z_ s.heap z TI TO i1 i2 l1 l2 k)(g1:s.heap.IsList l1 xs)(g2:s.heap.IsTuple l2 ys)(hn:xs[k]?=none\/ys[k]?=none)
  (hQ:∀ h',f6 s.heap h' z TO i1 i2->Q none { s with heap:=h' }):wpAny (model prog w) A (pyNext (.ref z)) Q E s:=by
 refine À (ſ (Ă hz.ty Ĥ (Ē Ĥ hz.ty m_ (rF hh D hz g1 g2 hn λ h' x kz Li=>?_) (χ _))));obtain⟨o,ho,hc⟩:=Li;exact À (wpAny_isInstance ⟨o,ho,hc⟩ isSubtype_stop (È (hQ _ kz)))
end
section
variable {X:Cx}{Ä:List (Addr × Obj)}{σ:St}{H:Hp}{s:Shared}{h':Heap}
theorem uS {ch:List Addr}(I:Inv X Ä σ H s)(F:∀ b∈ch,cT X Ä H b)(k:∀ b o,b ∉ ch->s.heap.get? b=some o->h'.get? b=some o)
  (o1:þ X.prog X.w (af H s.heap.objs.size (.tup xs)) h' s.heap.objs.size (.tup xs)) :
  Inv X Ä σ (af H s.heap.objs.size (.tup xs)) { s with heap:=h',toks:=t' }:=by
 have f1:=I.Đ.fresh (Ç _);have up:∀ b u,H b=some u->af H s.heap.objs.size (.tup xs) b=some u:=λ b u e=>by
  rw [ah (λ z=>by rw [z,f1] at e;cases e)]
  exact e
 have dn:∀ b,b<s.heap.objs.size->af H s.heap.objs.size (.tup xs) b=H b:=λ b l=>by
  rw [ah (Ð l)]
 have KZ:∀ b u,H b=some u->b ∉ ch:=λ b u e z=>by
  have:=(F b z).1;rw [this] at e;cases e
 refine I.step (λ b hb=>?_) (λ b o _ _ hc e _=>k b o hc e) (λ b o _ _ hc e _=>⟨o.slots,k b o hc e⟩) (λ b o _ e n=>by rw [dn b (Å e)];exact n)
  (λ b o hc e=>⟨o,k b o hc e⟩) (λ b _ e=>up _ _ e) (λ _ _ _ e=>up _ _ e) (λ b ps e=>⟨#[],by rw [up _ _ e];simp⟩) (λ q=>?_) (λ m hm=>?_) (λ b u e=>?_) I.bare
 ·obtain⟨_,a,_,b',c,d⟩:=F b hb;exact⟨b',a,c,d⟩
 ·rw [dn _ (θ (by decide:sysModules<mainGlobals) (I.mod.glob.keeps I.bk).lt)]
  exact q
 ·obtain⟨o,es,ep,ho,r⟩:=hm;exact⟨o,es,ep,k _ o (λ z=>(F _ z).2.1 rfl) ho,r⟩
 ·by_cases z1:b=s.heap.objs.size
  ·subst z1;rw [aO] at e;cases e;exact o1
  ·rw [ah z1] at e;refine(I.Đ b u e).d_ (λ c v hc q=>k c v ?_ q) (λ c q=>up _ _ q) λ c zs q=>up _ _ q;rcases hc with z | z
   ·rw [z];exact KZ _ _ e
   ·exact KZ _ _ z
end
def DZ (K:Frag)(a b:Addr):It :=
 ⟨λ i H=>∃ xs ys x y,î K H a xs/\ĝ K H b ys/\xs[i]?=some x/\ys[i]?=some y,
   λ i H v H'=>∃ q x y,v=.ref q/\H q=none/\H'=af H q (.tup [x,y])/\∀ xs ys,î K H a xs->ĝ K H b ys->xs[i]?=some x/\ys[i]?=some y,
   λ i H=>∃ xs ys,î K H a xs/\ĝ K H b ys/\(xs.length<=i\/ys.length<=i)⟩
theorem uT {x1}(a b z TI TO i1 i2:Addr)(D:qU z TI TO i1 i2 a b) :
  nU P w K (.Tuple elts x1 ø) (DZ K a b) [z,TI,TO,i1,i2] z (λ i h=>z_ h z TI TO i1 i2 a b i) where
 mem:=by simp
 obj:=λ i h st c hc=>by
  obtain⟨⟨f0,bb,zo,ow⟩,ti,⟨ta,tb,to⟩,⟨oa,ha,ca,da⟩,⟨ob,hb,cb,db⟩⟩:=st;simp only [List.mem_cons,List.not_mem_nil,or_false] at hc;rcases hc with rfl | rfl | rfl | rfl | rfl
  ·exact⟨_,zo,λ v q=>by cases q⟩
  ·exact⟨_,ti,λ v q=>by cases q⟩
  ·exact⟨_,to,λ v q=>by cases q⟩
  ·exact⟨oa,ha,λ v q=>by rw [da] at q;cases q⟩
  ·exact⟨ob,hb,λ v q=>by rw [db] at q;cases q⟩
 keep:=λ i h h' st k=>st.keep λ c hc o q=>k c hc o q
 item:=by
  intro X hP hw hK hc i Ä s σ H E I hf st hg;subst hP hw hK;obtain⟨xs,ys,x,y,hq,JW,hx,hy⟩:=hg;obtain⟨its,rv,p,hz⟩:=I.list hq;obtain⟨ŧ,M4,p2,Qb⟩:=I.tuple JW;obtain⟨u,hu,ru⟩:=rv.get hx;obtain⟨v,hv,RJ⟩:=M4.get hy;have L8:s.heap.IsTuple b ŧ.toArray:=by
   obtain⟨o,q,c,n,d⟩:=p2;exact⟨o,q,c,n,d⟩
  have zl:z<s.heap.objs.size:=by
   obtain⟨f0,bb,zo,ow⟩:=st.1;exact Å zo
  refine DR D st p.isList L8 (by simpa using hu) (by simpa using hv) λ h1 O8 pr TJ kk=>?_
  refine⟨_,rfl,zq D O8 λ h2 Rp sb=>?_⟩;have L5:=sb;have na:=ň zl;have M5:=(L5.2 _ na).trans pr;have f1:=I.Đ.fresh (Ç _);refine⟨.ref s.heap.objs.size,af H s.heap.objs.size (.tup [x,y]),?_,rfl,⟨_,x,y,rfl,f1,rfl,λ W6 KL g1 g2=>⟨by rw [I.Ω g1 hq];exact hx,by rw [I.ξ g2 JW];exact hy⟩⟩,Rp,λ c hc=>?_⟩
  ·refine uS I hf (λ c o hc q=>?_) ?_
   ·simp only [List.mem_cons,List.not_mem_nil,or_false,not_or] at hc;exact(L5.2 c hc.1).trans (kk c o hc.1 hc.2.2.1 hc.2.2.2.1 hc.2.2.2.2 q)
   ·exact⟨dZ,[u,v],.cons ru (.cons RJ .nil),⟨_,M5,rfl,_,rfl⟩⟩
  ·have q:=hf c hc;have KP:c<s.heap.objs.size:=by
    obtain⟨⟨f0,bb,zo,ow⟩,ti,⟨ta,tb,to⟩,⟨oa,ha,_,_⟩,⟨ob,hb,_,_⟩⟩:=st;simp only [List.mem_cons,List.not_mem_nil,or_false] at hc;rcases hc with rfl | rfl | rfl | rfl | rfl
    ·exact Å zo
    ·exact Å ti
    ·exact Å to
    ·exact Å ha
    ·exact Å hb
   rw [ah (Ð KP)];exact q.1
 done:=by
  intro X hP hw hK hc i Ä s σ H E I hf st hg;subst hP hw hK;obtain⟨xs,ys,hq,JW,hn⟩:=hg;obtain⟨its,rv,p,hz⟩:=I.list hq;obtain⟨ŧ,M4,p2,Qb⟩:=I.tuple JW;have L8:s.heap.IsTuple b ŧ.toArray:=by
   obtain⟨o,q,c,n,d⟩:=p2;exact⟨o,q,c,n,d⟩
  have l1:=rv.length;have l2:=M4.length;refine sr (I.ok.hd hc) D st p.isList L8 ?_ λ h1 kk=>⟨rfl,pU I hf λ c o Jy q=>?_⟩
  ·rcases hn with h | h
   ·exact .inl (by simp;omega)
   ·exact .inr (by simp;omega)
  ·simp only [List.mem_cons,List.not_mem_nil,or_false,not_or] at Jy;exact kk c o Jy.1 Jy.2.2.1 Jy.2.2.2.1 Jy.2.2.2.2 q
 self:=λ _ s Q _ _ st h=>by
  refine wpAny_pyIter_slot st.ty F.slot_zip_iter (Ē F.slot_zip_iter st.ty F.entry_zip_iter ?_ (F.args_zip_iter_1 _));exact È ⟨_,rfl,"zip",_,st.ty,Ĥ.lookup,h⟩
section
variable {X:Cx}
def Iq (K:Frag)(ta:TA):TI:=λ σ H R=>ta σ H λ vs H1=>∃ l t,vs=[.ref l,.ref t]/\(∃ xs,î K H1 l xs)/\(∃ ys,ĝ K H1 t ys)/\R (DZ K l t) H1
theorem Kf (hc:c ∈ [n+4,n+2,n+3,n,n+1]):n<=c:=by
 simp only [List.mem_cons,List.not_mem_nil,or_false] at hc;omega
theorem CD {x1}(SO:Gl X "zip")(Nb:X.mg "zip" = none)(ha:PA X [a,b] ta)
  (he:starEach (a :: [b]) X.env=(false,eval a X.env)::starEach [b] X.env:=by rfl) (Ρ:(backTo Kx (starEach [b] X.env)).any (·.1)=false:=by rfl) :
  PI X (.Tuple elts x1 pt) (.Call (.Name "zip" p2) [a,b] [] Kx) (Iq X.K ta):=by
 intro Ä s σ H R I h;refine Call_ (fO I SO Nb PyProof.Rows.boot_zip (ď (aV (ha Kx Ä s σ H _ I h) λ us s1 ⟨vs,H1,I1,r1,q1⟩=>?_) he Ρ));obtain⟨l,t,rfl,⟨xs,hq⟩,⟨ys,JW⟩,q⟩:=q1;cases r1 with
 | cons r rr =>
  cases r;cases rr with
  | cons r' RO =>
   cases r';cases RO;obtain⟨its,rv,pl,hz⟩:=I1.list hq;obtain⟨ŧ,M4,L8,Qb⟩:=I1.tuple JW;have ht:s1.heap.IsTuple t ŧ.toArray:=by
    obtain⟨o,q,c,n,d⟩:=L8;exact⟨o,q,c,n,d⟩
   have Si:l<s1.heap.objs.size:=by
    obtain⟨o,q,_⟩:=pl.isList;exact Å q
   have OV:t<s1.heap.objs.size:=by
    obtain⟨o,q,_⟩:=ht;exact Å q
   refine pQ pl.isList ht λ h2 iz za RD k2=>?_;refine MR iz ?_;have D:=oJ Si OV;exact⟨s1.heap.objs.size+4,[s1.heap.objs.size+4,s1.heap.objs.size+2,s1.heap.objs.size+3,s1.heap.objs.size,s1.heap.objs.size+1],_,_,H1,rfl,I1.kept (λ c o e=>k2 _ _ e),uT l t _ _ _ _ _ D,za,λ c hc=>I1.Ls (Kf hc) (I1.Đ.fresh (Kf hc)),q⟩
end
theorem xM {g:TG}{tb:TS}{D:cP}(Pv:Nat->St->Hp->Prop)(h0:Pv 0 σ H)(hl:∀ i σ H,i<=min xs.length ys.length->Pv i σ H->î K H a xs/\ĝ K H b ys)
  (hs:∀ i x y σ H q,xs[i]?=some x->ys[i]?=some y->Pv i σ H->H q=none->g (.ref q) σ (af H q (.tup [x,y])) λ Ĭ H2=>tb { D with nx:=Pv (i+1),ct:=Pv (i+1),bk:=D.nx } Ĭ H2)(hd:∀ σ H,Pv (min xs.length ys.length) σ H->D.nx σ H) :
  ∃ W:Nat->Nat->St->Hp->Prop,(∃ m,W 0 m σ H)/\∀ i m σ H,W i m σ H ->
   ((DZ K a b).stop i H/\D.nx σ H)\/((DZ K a b).go i H/\∃ N:St->Hp->Prop,(∀ ĥ H',N ĥ H'->∃ m',m'<m/\W (i+1) m' ĥ H')/\∀ x H',(DZ K a b).JD i H x H'->g x σ H' λ Ĭ H2=>tb { D with nx:=N,ct:=N,bk:=D.nx } Ĭ H2):=by
 refine⟨λ i m σ H=>m=min xs.length ys.length-i/\i<=min xs.length ys.length/\Pv i σ H,⟨min xs.length ys.length,ak,ģ _,h0⟩,?_⟩;rintro i m σ H ⟨rfl,hi,pv⟩;obtain⟨q1,q2⟩:=hl i σ H hi pv;by_cases ź:i<min xs.length ys.length
 ·have l1:i<xs.length:=ak;have l2:i<ys.length:=ak;refine .inr ⟨⟨xs,ys,xs[i],ys[i],q1,q2,Á l1,Á l2⟩,Pv (i+1),λ ĥ H' n=>⟨min xs.length ys.length-(i+1),ak,rfl,ź,n⟩,λ v H' yl=>?_⟩;obtain⟨q,x,y,rfl,hq,rfl,at'⟩:=yl;obtain⟨e1,e2⟩:=at' xs ys q1 q2;exact hs i x y σ H q e1 e2 pv hq
 ·have e:i=min xs.length ys.length:=ak;subst e;exact .inl ⟨⟨xs,ys,q1,q2,ak⟩,hd σ H pv⟩
end My
namespace My
open PySem PySem.W L2
def fY (os:List (Int × Bool))(p:List Int):List (Int × Bool):=p.map λ i=>os.getD i.toNat (0,false)
def kA (k:Nat)(ws:List Int)(ps:List (List Int))(os:List (Int × Bool)):List Int:=(List.zipWith (λ (p:List Int)(n:Int)=>(dG k (fY os p)).map (n * ·)) ps ws).flatten
theorem ζ.Oz {os:List (Int × Bool)}(h:ζ H xs os)(x:Ext H H'):ζ H' xs os:=by
 refine⟨h.1,λ i y o h1 h2=>?_⟩;obtain⟨p,e,hp⟩:=h.2 i y o h1 h2;exact⟨p,e,x _ _ hp⟩
section
variable {P:Program}{w:World}{K:Frag}{mg:bL}{base:Heap}{C MC:Nat->Addr}{MS CU CN CW D f g a1 a2 fW:Addr}{fd gd d1 d2 eW:FuncData}
abbrev Hs:Stmt:=az (bZ 65) 1
theorem GV:ad ["self","rule","outcomes"] ["self","rule","outcomes"] (aa Hs):=aK
def jT (C MC:Nat->Addr)(CU CN CW:Addr):Sp:=λ vs H Q E=>∃ k ws v r t a xs os,k<4/\vs=[v,r,.ref a]/\Wm MC H k ws v/\ws.length<=6/\Ru C H t r/\t.parts.length<=20/\(∀ p∈t.parts,p.length<=20)/\H a=some (.lst xs)/\ζ H xs os /\
 (ws.length<t.parts.length->∀ l H',Ext H H'->H l=none->H' l=some (.lst (ws.map V.int))->cu CW "found" (.ref l) H' E) /\
 (t.parts.length<=ws.length->((jP k t os).all id=true->∀ H',Ext H H'->Q .ą H')/\∀ i,dS (jP k t os) i->∀ H',Ext H H'->cu (jO CU CN k) (jW k) (.int (i:Nat)) H' E)
theorem Eb (Y:KW K MC MS)(F:Ģ K "need_fit" "Weighted.need_fit" Hs f fd)(Mr:Ms P w K mg base C)(M1:bv P w K mg base (cy P w) 5 "need_fit" ["self","rule","outcomes"] (iq MC) (gs C MC CU CN))(B:Ł K D)(T2:gP K mg D "NoWeights" "found" CW fW eW)(mn:mg "len" = none)(ml:mg "list" = none) :
  Þ P w K mg base (cy P w) 6 f fd ["self","rule","outcomes"] (jT C MC CU CN CW):=by
 refine fL F GV λ cdv A outer s H vs Q E hr h=>?_;obtain⟨k,ws,v,r,t,a,xs,os,hk,rfl,wm,l6,ru,l1,l2,ha,oc,q1,q2⟩:=h;have Ğ:ó 1 _:=hr.mono ar;have j_:ó 2 _:=hr.mono ar;refine⟨_,cn (bC (aB hI (aq aw rfl mn è (ac (bc (pv 1) Mr.blocks Ğ ag) au)) (aq aw rfl mn è (ac (mP (pv 0) rfl) au)) (aC _)) (bp (bX B T2.cls (T2.ok P w base) j_ T2.bi rfl T2.LB (aU eY rfl ml ĕ (ac (mP (pv 0) rfl) au)))) gj)
  (bp (ax (aQ (mP (pv 0) rfl) M1 hr cF (ac (pv 1) (ac (pv 2) au))))),?_⟩
 obtain⟨x,dx,i,tw,m,rr,rfl,hx,me,OY,hm,Yb⟩:=wm;refine bO ao ru (λ R r=>⟨_,rfl,r⟩) ⟨_,t,rfl,ru,l1,l2,λ l bs H1 x1 nl hl XG nb lb hb=>?_⟩;refine⟨l,_,rfl,.inl (î.of hl),?_⟩;have J4:=x1 _ _ hx;have Ug:=x1 _ _ OY;refine⟨_,rfl,x,_,dx,_,_,rfl,J4,Y.cls,Y.no _ ao,rfl,tw,_,rfl,.inr (ĝ.of Ug),?_⟩;refine⟨_,_,rfl,rfl,_,rfl,?_⟩;have le:((bs.map V.ref).length:Int)=(t.parts.length:Nat):=by rw [Ã,lb]
 have lw:((ws.map V.int).length:Int)=(ws.length:Nat):=by rw [Ã]
 refine mh (λ c=>?_) (λ c=>?_)
 ·have c':=ē c;rw [le,lw] at c';refine⟨_,rfl,x,_,dx,_,_,rfl,J4,Y.cls,Y.no _ ao,rfl,tw,_,rfl,.inr (ĝ.of Ug),λ L hL=>?_⟩;refine λ e' de h1 h2 nd=>dq nd (q1 ak L _ (x1.trans (.new hL)) ?_ aO e' de h1 h2 nd);cases e:H L with
  | none=>rfl
  | some o=>rw [x1 _ _ e] at hL;cases hL
 ·have c':¬ (((bs.map V.ref).length:Int)>((ws.map V.int).length:Int)):=λ z=>c (Ê z);rw [le,lw] at c';obtain⟨qa,qb⟩:=q2 ak;show bD (iq MC) "need_fit" (gs C MC CU CN) _ (sg K (aj 0) "inner") (av (aj 1) (av (aj 2) aJ)) [some (.ref x),some r,some (.ref a)] H1 _;exact dB ao hk (me.ext x1) (λ R r=>⟨_,rfl,x,_,dx,_,_,rfl,J4,Y.cls,Y.no _ ao,rfl,r⟩) ⟨_,rfl,_,rfl,k,i,r,t,a,xs,os,hk,rfl,rfl,ru.ext x1,l1,l2,x1 _ _ ha,oc.Oz x1,λ al H2 x2=>qa al H2 (x1.trans x2),λ i fi H2 x2=>qb i fi H2 (x1.trans x2)⟩
abbrev wA:Stmt:=az (bZ 65) 2
abbrev FB:List Str:=["self","rule","outcomes","scores","block","weight","among"]
theorem Pl:ad FB ["self","rule","outcomes"] (aa wA):=aK
abbrev Ck:Scope:=cC [("at",.local),("outcomes",.free)]
abbrev E5:Scope:=cC [("score",.local),("weight",.free)]
theorem EW:((["at"]:List Str)++(["outcomes"]:List Str)).Nodup:=ao
theorem EQ:((["score"]:List Str)++(["weight"]:List Str)).Nodup:=ao
def BD (K:Frag):TE:=cD (bn K (aj 4)) 1 [2] (aX 0) (aS (dP K) (aj 1) (aj 0))
def Cc (K:Frag):TE:=cD (bn K (aj 6)) 1 [5] (aX 0) (aS (rI ų λ i j=>.int (i*j)) (aj 1) (aj 0))
def FM (K:Frag)(MC:Nat->Addr):TS:=cG (bD (iq MC) "among" (gm MC) E0 (sg K (aj 0) "inner") (av (BD K) aJ)) (aX 6)
def HX (K:Frag):TS:=lu (DE K "list" pI (aj 3) (av (Cc K) aJ))
def CY (K:Frag)(C MC:Nat->Addr):TS:=aY (cG (bV aJ) (aX 3)) (aY (lA (Iq K (av (bD (mT C) "blocks" (λ _=>pH C) E0 (aj 1) aJ) (av (sg K (aj 0) "weights") aJ))) (p0 K 2 (c5 (aX 4) (c5 (aX 5) mI))) (aY (FM K MC) (HX K))) (cH (aj 3)))
section
variable {cdv:Value}{A:Around}{outer:List Env}{s:Shared}{H:Hp}{E:XK}
theorem vy:aT (aP ay P w K mg base FB "Weighted.scored" (aa wA) f cdv A outer s H E).ŀ Ck [("outcomes",s.heap.objs.size+1)] ["at"] ["outcomes"] [2] :=
 c8 (M:=["outcomes"]) (L:=[(".0",.local),("at",.local),("outcomes",.cell)]) rfl rfl ao ao ao rfl rfl rfl ao ao rfl rfl rfl
theorem vw:aT (aP ay P w K mg base FB "Weighted.scored" (aa wA) f cdv A outer s H E).ŀ E5 [("weight",s.heap.objs.size+2)] ["score"] ["weight"] [5] :=
 c8 (M:=["weight"]) (L:=[(".0",.local),("score",.local),("weight",.cell)]) rfl rfl ao ao ao rfl rfl rfl ao ao rfl rfl rfl
theorem yM (Mr:Ms P w K mg base C)(M:bv P w K mg base ay 7 "among" ["self","outcomes"] (iq MC) (gm MC))(mz:mg "zip" = none)(hr:oQ 7 "Weighted.scored" wA A s f cdv):Bx (ż (aP ay P w K mg base FB "Weighted.scored" (aa wA) f cdv A outer s H E).ŀ (aF wA) (CY K C MC)):=by
 have nd:=Pl.nd;have Ğ:ó 1 _:=hr.mono ar;exact⟨cn (jI nd rfl (.inl rfl) (bT au))
  (cn (dR .never rfl (CD rfl mz (ac (bc (pv 1) Mr.blocks Ğ ag) (ac (mP (pv 0) rfl) au))) (cr rfl (eN (cA nd rfl (.inl rfl)) (eN (cA nd rfl (.inr rfl)) bA)))
   (cn (jI nd rfl (.inl rfl) (aQ (mP (pv 0) rfl) M hr ag (ac (bH rfl vy (aG (pv 4)) (λ s H C fp=>cA EW rfl (.inl rfl)) (λ s H C fp=>eL gF (pv 1) (pv 0))) au)))
   (bp (ax (kI Ĳ PySem.F.slot_list_extend PySem.F.type_list_extend qK (pv 3) (ac (bH rfl vw (aG (pv 6)) (λ s H C fp=>cA EQ rfl (.inl rfl)) (λ s H C fp=>aA c7 (pv 1) (pv 0))) au))))))
  (bp (cZ (pv 3))))⟩
end
end
theorem ζ.nil:ζ H [] []:=⟨rfl,λ i x o h=>by simp at h⟩
theorem ζ.snoc {os:List (Int × Bool)}(h:ζ H xs os)(hx:Ej H x o):ζ H (xs ++ [x]) (os ++ [o]):=by
 refine⟨by rw [É,É,h.1];rfl,λ i y p h1 h2=>?_⟩
 by_cases l:i<xs.length
 ·rw [ò l] at h1;rw [ò (by rw [<- h.1];exact l)] at h2
  exact h.2 i y p h1 h2
 ·have l1:=(Æ.mp h1).1;rw [É] at l1;have e:i=xs.length:=by simp at l1;omega
  subst e;rw [å (Ç _),η] at h1;rw [h.1,å (Ç _),η] at h2;cases h1;cases h2;exact hx
section
variable {P:Program}{w:World}{K:Frag}{mg:bL}{base:Heap}{C MC:Nat->Addr}{MS CU CN CW CF CO D f g a1 a2 fW:Addr}{fd gd d1 d2 eW:FuncData}{H:Hp}{Q:VK}{σ:St}{a b:Addr}{xs:List V}{os:List (Int × Bool)}
theorem BX {p:List Int}(s2:σ[2]?=some (some (.ref a)))(s4:σ[4]?=some (some (.ref b)))(ha:H a=some (.lst xs))(oc:ζ H xs os)(hb:H b=some (.lst (p.map V.int)))(ţ:p.length<=20)(hp:∀ i∈p,0<=i/\i<(os.length:Nat))
  (q:∀ l ys H',Ext H H'->H l=none->H' l=some (.lst ys)->ζ H' ys (fY os p)->Q (.ref l) H'):BD K σ H Q:=by
 have sz:=Ô;refine⟨_,s4,b,rfl,⟨_,î.of hb⟩,λ D2 Ű=>?_⟩;have ec:cz [2] σ=[some (.ref a)]:=by unfold cz;rw [ë,s2];rfl
 rw [ec];refine bz (λ i ys H'=>Ext H H'/\ζ H ys (fY os (p.take i))) (by rw [Ã];omega) ⟨.new Ű,ζ.nil⟩ (λ i ys H' pv=>î.of (pv.1 _ _ hb)) ?_ ?_
 ·rintro i x ys H' ex ly ĉ ⟨x',oy⟩ JE į R k;obtain⟨q0,rfl⟩:∃ o0,JE=[o0]:=by
   match JE,į with
   | [o0],_=>exact⟨o0,rfl⟩
  rw [Ì] at ex;obtain⟨n,en,rfl⟩:=Ó.mp ex;obtain⟨h0,h1⟩:=hp n (Ú en);obtain⟨j,rfl⟩:=Int.eq_ofNat_of_zero_le h0;have lj:j<os.length:=ak;have lx:j<xs.length:=by rw [oc.1];exact lj
  refine⟨⟨[_],rfl,rfl⟩,_,rfl,_,rfl,a,xs,_,_,rfl,rfl,î.of (x' _ _ ha),f7 (Á lx),k _ H' ĉ ⟨aN _ x' Ű,?_⟩⟩;have e2:fY os (p.take (i+1))=fY os (p.take i) ++ [os[j]]:=by
   unfold fY;rw [aE en,Î]
   congr 1
   show [os.getD j (0,false)]=_;rw [ß,Á lj];rfl
  rw [e2];exact oy.snoc (oc.2 j _ _ (Á lx) (Á lj))
 ·rintro ys H' ly ĉ ⟨x',oy⟩;rw [Ã,Õ] at oy;exact q D2 ys H' x' Ű ĉ (oy.Oz x')
theorem Fh {ns:List Int}{n:Int}(s5:σ[5]?=some (some (.int n)))(s6:σ[6]?=some (some (.ref b)))(hb:H b=some (.lst (ns.map V.int)))(ţ:ns.length<=20)(hn:0<=n/\n<=20)(q:gu H (ns.map (n * ·)) Q):Cc K σ H Q:=by
 have sz:=Ô;refine⟨_,s6,b,rfl,⟨_,î.of hb⟩,λ D2 Ű=>?_⟩;have ec:cz [5] σ=[some (.int n)]:=by unfold cz;rw [ë,s5];rfl
 rw [ec];refine bz (λ i ys H'=>Ext H H'/\ys=((ns.take i).map (n * ·)).map .int) (by rw [Ã];omega) ⟨.new Ű,rfl⟩ (λ i ys H' pv=>î.of (pv.1 _ _ hb)) ?_ ?_
 ·rintro i x ys H' ex ly ĉ ⟨x',rfl⟩ JE į R k;obtain⟨q0,rfl⟩:∃ o0,JE=[o0]:=by
   match JE,į with
   | [o0],_=>exact⟨o0,rfl⟩
  rw [Ì] at ex;obtain⟨m,em,rfl⟩:=Ó.mp ex;refine⟨⟨[_],rfl,rfl⟩,_,rfl,_,rfl,n,m,rfl,rfl,.inl (by constructor <;> omega),k _ H' ĉ ⟨aN _ x' Ű,?_⟩⟩
  rw [aE em,Î,Î];rfl
 ·rintro ys H' ly ĉ ⟨x',rfl⟩;rw [Ã,Õ] at ĉ;exact q D2 H' x' Ű ĉ
theorem eG {k:Nat}(hk:k<4)(os:List (Int × Bool)):(dG k os).length=os.length:=by
 match k,hk with
 | 0,_=>exact Ã ..
 | 1,_=>exact Ã ..
 | 2,_=>exact Ã ..
 | 3,_=>exact List.length_mapIdx
theorem pF {k:Nat}(hk:k<4)(os:List (Int × Bool)):∀(ps:List (List Int))(ws:List Int),(kA k ws ps os).length<=ps.flatten.length
 | [],ws=>by simp [kA]
 | p::ps,[]=>by simp [kA]
 | p::ps,n::ws=>by
  have ih:=pF hk os ps ws;have e:kA k (n::ws) (p::ps) os=(dG k (fY os p)).map (n * ·)++kA k ws ps os:=rfl;have l:(fY os p).length=p.length:=Ã ..;rw [e,É,Ã,eG hk,l,ć,É];omega
theorem jd {p:List Int}:(fY os p).length=p.length:=Ã ..
theorem uX {p:List Int}(hp:∀ i∈p,0<=i/\i<(os.length:Nat))(bd:∀ o∈os,-99<=o.1/\o.1<=99):∀ o∈fY os p,-99<=o.1/\o.1<=99:=by
 intro o ho;obtain⟨i,hi,rfl⟩:=ê.mp ho;obtain⟨h0,h1⟩:=hp i hi;have l:i.toNat<os.length:=ak;rw [ß,Á l];exact bd _ (ü l)
structure Il (H:Hp)(k:Nat)(ws:List Int)(t:Rl)(a:Addr)(os:List (Int × Bool)):Prop where
 ex:∃ xs,H a=some (.lst xs)/\ζ H xs os
 bd:∀ o∈os,-99<=o.1/\o.1<=99
 ln:os.length<=20
 l1:t.parts.length<=20
 l2:∀ p∈t.parts,p.length<=20
 fl:t.parts.flatten.length<=20
 pl:∀ p∈t.parts,∀ i∈p,0<=i/\i<(os.length:Nat)
 ev:k=3->∀ p∈t.parts,p.length%2=0
 wk:Bu ws
def pA (C MC:Nat->Addr):Sp:=λ vs H Q _=>∃ k ws v r t a os,k<4/\vs=[v,r,.ref a]/\Wm MC H k ws v/\Ru C H t r/\Il H k ws t a os/\gu H (kA k ws t.parts os) Q
theorem Dv (Y:KW K MC MS)(F:Ģ K "scored" "Weighted.scored" wA f fd)(Mr:Ms P w K mg base C)(M:bv P w K mg base ay 7 "among" ["self","outcomes"] (iq MC) (gm MC))(mz:mg "zip" = none):Þ P w K mg base ay 8 f fd ["self","rule","outcomes"] (pA C MC):=by
 refine bR F Pl λ cdv A outer s H vs Q E hr h=>?_;obtain⟨k,ws,v,r,t,a,os,hk,rfl,wm,ru,go,q⟩:=h;obtain⟨Mv⟩:=yM (w:=w) (K:=K) (mg:=mg) (base:=base) (C:=C) (MC:=MC) (f:=f) (cdv:=cdv) (A:=A) (outer:=outer) (s:=s) (H:=H) (E:=E) Mr M mz hr;refine⟨_,Mv,?_⟩;obtain⟨xs,ha,oc⟩:=go.ex;have sz:=Ô;show CY K C MC _ [some v,some r,some (.ref a),none,none,none,none] H;refine aL (te:=bV aJ) (i:=3) ⟨dZ,λ S hS=>?_⟩;have x1:=Ext.new (o:=.lst []) hS;have g1:af H S (.lst []) S=some (.lst []):=aO;show aY _ _ _ [some v,some r,some (.ref a),some (.ref S),none,none,none] (af H S (.lst []));generalize af H S (.lst [])=H1 at x1 g1 ⊢;refine bO (t:=t) ao (ru.ext x1) (λ R r=>⟨_,rfl,r⟩) ⟨_,t,rfl,ru.ext x1,go.l1,go.l2,λ l bs H2 x2 nl hl XG nb lb hb=>?_⟩;obtain⟨x,dx,i,tw,m,rr,rfl,hx,me,OY,hm,Yb⟩:=wm;have ŋ:=x1.trans x2;refine⟨_,rfl,x,_,dx,_,_,rfl,ŋ _ _ hx,Y.cls,Y.no _ ao,rfl,l,tw,rfl,⟨_,î.of hl⟩,⟨_,ĝ.of (ŋ _ _ OY)⟩,?_⟩;have nS:wo H2 S S=none:=by unfold wo;rw [â rfl]
 have lS:l≠S:=λ e=>by rw [e,g1] at nl;cases nl
 have bS:∀ b∈bs,b≠S:=λ b S6 e=>by have:=nb b S6;rw [e,g1] at this;cases this
 have xw:Ext H (wo H2 S):=λ b o e=>bw (λ z=>by rw [z,hS] at e;cases e) (ŋ _ _ e)
 have Yp:=bw lS hl;have lp:(ws.map V.int).length=ws.length:=Ã ..;have lq:(bs.map V.ref).length=t.parts.length:=by rw [Ã,lb]
 refine xM (xs:=bs.map V.ref) (ys:=ws.map V.int) (λ n σ H'=>Ext (wo H2 S) H'/\H' S=some (.lst ((kA k (ws.take n) (t.parts.take n) os).map V.int))/\∃ o4 o5 o6,σ=[some (.ref x),some r,some (.ref a),some (.ref S),o4,o5,o6]) ⟨ai _ _,x2 _ _ g1,_,_,_,rfl⟩ (λ n σ H' _ pv=>⟨î.of (pv.1 _ _ Yp),ĝ.of ((xw.trans pv.1) _ _ OY)⟩) ?_ ?_
 ·rintro n y z σ H' p ey ez ⟨x',Mp,o4,o5,o6,rfl⟩ hp;rw [Ì] at ey ez;obtain⟨b,eb,rfl⟩:=Ó.mp ey;obtain⟨c,ec,rfl⟩:=Ó.mp ez;have lt:n<t.parts.length:=by rw [<- lb];exact(Æ.mp eb).1
  have et:=Á lt;have LG:=hb n b _ eb et;have bm:=Ú eb;have pm:t.parts[n]∈t.parts:=ü lt;generalize t.parts[n]=pp at et LG pm;have x3:=Ext.new (o:=.tup [.ref b,.int c]) hp;have g3:af H' p (.tup [.ref b,.int c]) p=some (.tup [.ref b,.int c]):=aO;have nSp:S≠p:=λ e=>by rw [e,hp] at Mp;cases Mp
  have Ux:=x3 _ _ Mp;refine⟨p,_,rfl,ĝ.of g3,rfl,_,_,rfl,_,_,rfl,rfl,?_⟩;generalize af H' p (.tup [.ref b,.int c])=H3 at x3 g3 Ux ⊢;have Rv:=x'.trans x3;have QJ:=xw.trans Rv;refine dB ao hk (me.ext QJ) (λ R r=>⟨_,rfl,x,_,dx,_,_,rfl,QJ _ _ hx,Y.cls,Y.no _ ao,rfl,r⟩) ?_;refine BX rfl rfl (QJ _ _ ha) (oc.Oz QJ) (Rv _ _ (bw (bS b bm) LG)) (go.l2 _ pm) (go.pl _ pm) λ la ys H4 x4 nla Yu XC=>?_;refine⟨k,i,la,fY os pp,hk,rfl,rfl,⟨⟨ys,Yu,XC⟩,uX (go.pl _ pm) go.bd,by rw [jd];exact go.l2 _ pm,λ e=>by rw [jd];exact go.ev e _ pm⟩,λ lm H5 x5 nlm Yr=>?_⟩
  have W5:=(Rv.trans x4).trans x5;have Uw:=(x4.trans x5) _ _ Ux;have wc:=go.wk.2.2 c (Ú ec);have ls:(dG k (fY os pp)).length=pp.length:=by rw [eG hk,jd]
  refine⟨_,rfl,.inl ⟨rfl,_,î.of Uw⟩,Fh rfl rfl Yr (by rw [ls];exact go.l2 _ pm) wc λ lf H6 x6 nlf Ys=>?_⟩
  have e1:kA k (ws.take (n+1)) (t.parts.take (n+1)) os=kA k (ws.take n) (t.parts.take n) os++(dG k (fY os pp)).map (c * ·):=by
   unfold kA;rw [aE ec,aE et,List.zipWith_append (by rw [Ď,Ď];have:=(Æ.mp ec).1;omega),List.flatten_append]
   simp
  have XV:=pF hk os (t.parts.take (n+1)) (ws.take (n+1));have le2:(t.parts.take (n+1)).flatten.length<=t.parts.flatten.length:=by
   conv=>rhs;rw [<- List.take_append_drop (n+1) t.parts]
   rw [List.flatten_append,É];omega
  have le3:=go.fl;rw [e1,É] at XV;refine⟨S,lf,_,_,rfl,rfl,x6 _ _ Uw,Ys,by rw [Ã,Ã];omega,aN _ (W5.trans x6) nS,?_,_,_,_,rfl⟩
  rw [aO,e1,Î]
 ·rintro σ H' ⟨x',Mp,o4,o5,o6,rfl⟩;rw [lp,lq] at Mp;have e2:kA k (ws.take (min t.parts.length ws.length)) (t.parts.take (min t.parts.length ws.length)) os=kA k ws t.parts os:=by
   unfold kA
   congr 1
   exact(List.zipWith_eq_zipWith_take_min ..).symm
  rw [e2] at Mp;exact⟨_,rfl,q S H' (xw.trans x') hS Mp⟩
theorem i8 (hm:m ∉ (["inner","weights","mark"]:List Str))(h:Wm MC H k ws v)(ht:∀ R:VK,R v H->ta σ H R)(q:t σ H λ vs H2=>sp (MC 4) (v::vs) H2 Q E):bD (λ c=>c=MC 4) m sp E ta t σ H Q:=by
 obtain⟨a,dx,i,tw,m',r,rfl,ha,_⟩:=h;refine ht _ ⟨a,MC 4,dx,_,rfl,rfl,ha,?_,q⟩;simp only [List.mem_cons,List.not_mem_nil,or_false,not_or] at hm;rw [é,ã.mpr hm.1,é,ã.mpr hm.2.1,é,ã.mpr hm.2.2];rfl
def iw (C MC:Nat->Addr)(CU CN CW:Addr):Sp:=λ vs H Q E=>∃ k ws v r t a os,k<4/\vs=[v,r,.ref a]/\Wm MC H k ws v/\Ru C H t r/\t.Ï =(os.length:Nat)/\(∃ xs,H a=some (.lst xs)/\ζ H xs os)/\((k=3->(fZ t).all id=true)->Il H k ws t a os) /\
 (∀ o∈os,-99<=o.1/\o.1<=99)/\t.parts.length<=20/\(∀ p∈t.parts,p.length<=20)/\ws.length<=6 /\
 (ws.length<t.parts.length->∀ l H',Ext H H'->H l=none->H' l=some (.lst (ws.map V.int))->cu CW "found" (.ref l) H' E) /\
 (t.parts.length<=ws.length->((jP k t os).all id=true->gu H (kA k ws t.parts os) Q)/\∀ i,dS (jP k t os) i->∀ H',Ext H H'->cu (jO CU CN k) (jW k) (.int (i:Nat)) H' E)
theorem uA (F:Ģ K "scores" "Measure.scores" uq f fd)(Mr:Ms P w K mg base C)(A1:Df P w K mg base (cy P w) 6 "need_outcomes_of" ["thing","folk"] (sX K CF CO) a1 d1)(M1:bv P w K mg base (cy P w) 6 "need_fit" ["self","rule","outcomes"] (λ c=>c=MC 4) (λ _=>jT C MC CU CN CW))(M2:bv P w K mg base ay 8 "scored" ["self","rule","outcomes"] (λ c=>c=MC 4) (λ _=>pA C MC)) :
  Þ P w K mg base (cy P w) 9 f fd ["self","rule","outcomes"] (iw C MC CU CN CW):=by
 refine fL F wu λ cdv A outer s H vs Q E hr h=>?_;obtain⟨k,ws,v,r,t,a,os,hk,rfl,wm,ru,fk,⟨xs,ha,oc⟩,go,bd,l1,l2,l6,q1,q2⟩:=h;have Ğ:ó 1 _:=hr.mono ar;have NJ:ó 6 _:=hr.mono ar;refine⟨_,cn (ax (cL A1 NJ cF (ac (pv 2) (ac (bc (pv 1) Mr.Ï Ğ ag) au))))
  (cn (ax (aQ (pv 0) M1 NJ cF (ac (pv 1) (ac (pv 2) au))))
  (bp (cZ (aQ (pv 0) M2 hr ag (ac (pv 1) (ac (pv 2) au)))))),?_⟩
 have lx:=oc.1;have ot:oR K H xs (os.map λ _=>true):=by
  refine⟨by rw [Ã];exact lx,λ i x hx=>?_⟩
  have li:i<os.length:=by rw [<- lx];exact(Æ.mp hx).1
  obtain⟨b,rfl,hb⟩:=oc.2 i x _ hx (Á li);have z:=bd os[i] (ü li);refine⟨true,by rw [Ì,Á li];rfl,.inl ⟨.tuple [.int os[i].1,.bool os[i].2],.tup hb (.cons (.int _) (.cons (.bl _) .nil)),?_⟩⟩
  show true=((decide ((-99:Int)<=os[i].1)&&decide (os[i].1<=99))&&true);rw [Ê z.1,Ê z.2];rfl
 refine⟨_,rfl,bO ao ru (λ R r=>⟨_,rfl,r⟩) ⟨r,t,rfl,ru,?_⟩⟩;refine⟨.ref a,t.Ï,rfl,.inr ⟨a,xs,_,rfl,ha,ot,λ _ H1 x1=>?_,λ i fi=>?_⟩⟩
 ·rw [â (by rw [fk,lx])]
  show bD (λ c=>c=MC 4) "need_fit" (λ _=>jT C MC CU CN CW) _ (aj 0) (av (aj 1) (av (aj 2) aJ)) [some v,some r,some (.ref a)] H1 _;refine i8 ao (wm.ext x1) (λ R r=>⟨_,rfl,r⟩) ⟨_,rfl,_,rfl,k,ws,v,r,t,a,xs,os,hk,rfl,wm.ext x1,l6,ru.ext x1,l1,l2,x1 _ _ ha,oc.Oz x1,λ lt l H2 x2 nl hl=>q1 lt l H2 (x1.trans x2) ?_ hl,λ le=>⟨λ al H2 x2=>?_,λ i fi H2 x2=>(q2 le).2 i fi H2 (x1.trans x2)⟩⟩
  ·cases e:H l with
   | none=>rfl
   | some o=>rw [x1 _ _ e] at nl;cases nl
  ·have ŋ:=x1.trans x2;have g0:=go (λ e=>by subst e;exact al)
   show bD (λ c=>c=MC 4) "scored" (λ _=>pA C MC) _ (aj 0) (av (aj 1) (av (aj 2) aJ)) [some v,some r,some (.ref a)] H2 _;refine i8 ao (wm.ext ŋ) (λ R r=>⟨_,rfl,r⟩) ⟨_,rfl,_,rfl,k,ws,v,r,t,a,os,hk,rfl,wm.ext ŋ,ru.ext ŋ,⟨⟨xs,ŋ _ _ ha,oc.Oz ŋ⟩,g0.bd,g0.ln,g0.l1,g0.l2,g0.fl,g0.pl,g0.ev,g0.wk⟩,λ l H3 x3 nl hl=>?_⟩;refine(q2 le).1 al l H3 (ŋ.trans x3) ?_ hl;cases e:H l with
   | none=>rfl
   | some o=>rw [ŋ _ _ e] at nl;cases nl
 ·exfalso;have z:=fi.2;rw [Ì] at z;obtain⟨_,_,z⟩:=Ó.mp z;cases z
end
section
variable {P:Program}{w:World}{K:Frag}{mg:bL}{base:Heap}{f a1:Addr}{fd d1:FuncData}
abbrev ze:Stmt:=bZ 71
abbrev Ha:List Str:=["_law_script","_law_pen","_law_folk_here","_law_wide"]
theorem Pq:ad Ha ["_law_script","_law_pen","_law_folk_here"] (aa ze):=aK
abbrev B6:Scope:=cC [("_law_k",.local),("_law_take",.globalImplicit),("_law_pen",.free),("_law_script",.free),("_law_wide",.free)]
theorem Hd:((["_law_k"]:List Str)++(["_law_pen","_law_script","_law_wide"]:List Str)).Nodup:=ao
def Dk (K:Frag):TE:=aS (dH λ i j=>.int (i-j)) (eu (cV K) [] E0 (av (aj 2) (av (aj 1) (av (aj 3) aJ)))) (aS (rI kY λ i j=>.int (i/j)) (aj 3) (tC (.int 2)))
def IP (K:Frag):TS:=aY (cG (aS (dP K) (bV (av (tC (.int 3)) (av (tC (.int 5)) (av (tC (.int 19)) (av (tC (.int 61)) aJ))))) (gk K (tC (.int 4)))) (aX 3)) (cH (cD (lJ (av (aj 2) aJ)) 1 [1,0,3] (aX 0) (Dk K)))
def mE (xs:List Int):Prop:=∀ x∈xs,-30<=x/\x<=30
def oA (K:Frag):Sp:=λ vs H Q _=>∃(s p:Addr)(ns:List Int)(n:Nat),vs=[.ref s,.ref p,.int (n:Nat)]/\Sc K H s p ns/\n<=20/\∀ l xs H',Sc K H' s p ns->Ext (wo H p) (wo H' p)->wo H p l=none->wo H' p l=some (.lst (xs.map V.int))->xs.length=n->mE xs->Q (.ref l) H'
section
variable {cdv:Value}{A:Around}{outer:List Env}{s:Shared}{H:Hp}{E:XK}
theorem zW:aT (aP ay P w K mg base Ha "_law_numbers" (aa ze) f cdv A outer s H E).ŀ B6 [("_law_wide",s.heap.objs.size+3),("_law_script",s.heap.objs.size+1),("_law_pen",s.heap.objs.size+2)] ["_law_k"] ["_law_pen","_law_script","_law_wide"] [1,0,3] :=
 c8 (M:=["_law_wide","_law_script","_law_pen"]) (L:=[(".0",.local),("_law_k",.local),("_law_take",.globalImplicit),("_law_pen",.cell),("_law_script",.cell),("_law_wide",.cell)]) rfl rfl ao ao ao rfl rfl rfl ao ao rfl rfl rfl
theorem xF (A1:Df P w K mg base ay 1 "_law_take" ["_law_script","_law_pen","_law_many"] (cV K) a1 d1)(mr:mg "range" = none)(hr:oQ 1 "_law_numbers" ze A s f cdv):Bx (ż (aP ay P w K mg base Ha "_law_numbers" (aa ze) f cdv A outer s H E).ŀ (aF ze) (IP K)):=by
 have nd:=Pq.nd;exact ae ⟨jI (i:=3) nd rfl (Or.inr rfl) (eL gF (bT (ac aI (ac aI (ac aI (ac aI au))))) (cL A1 hr ag (ac (pv 0) (ac (pv 1) (ac aI au)))))⟩
  (bt (eZ ⟨bH (te:=Dk K) (g:=aX 0) rfl zW (fS rfl mr (ac (pv 2) au)) (λ s H C fp=>by exact cA (i:=0) Hd rfl (.inl rfl)) (λ s H C fp=>by
   exact aA gL (cL A1 hr ag (ac (pv 2) (ac (pv 1) (ac (pv 3) au)))) (aA fU (pv 3) aI))⟩))
end
theorem Ca (F:Ģ K "_law_numbers" "_law_numbers" ze f fd)(A1:Df P w K mg base ay 1 "_law_take" ["_law_script","_law_pen","_law_many"] (cV K) a1 d1)(mr:mg "range" = none):Þ P w K mg base ay 2 f fd ["_law_script","_law_pen","_law_folk_here"] (oA K):=by
 refine bR F Pq λ cdv A outer s H vs Q E hr h=>?_;obtain⟨sA,p,ns,n,rfl,sc,hn,q⟩:=h;refine gr (xF A1 mr hr) ⟨?_⟩;refine aL (te:=aS (dP K) (bV (av (tC (.int 3)) (av (tC (.int 5)) (av (tC (.int 19)) (av (tC (.int 61)) aJ))))) (gk K (tC (.int 4)))) (i:=3) (D:=⟨_,Q,_,_⟩) (fF ⟨dZ,λ l0 h0=>?_⟩);have x0:=Ext.new (o:=.lst [V.int 3,.int 5,.int 19,.int 61]) h0;have g0:af H l0 (.lst [V.int 3,.int 5,.int 19,.int 61]) l0=some (.lst [V.int 3,.int 5,.int 19,.int 61]):=aO;show gk K (tC (.int 4)) _ (af H l0 (.lst [V.int 3,.int 5,.int 19,.int 61])) _;generalize af H l0 (.lst [V.int 3,.int 5,.int 19,.int 61])=H0 at x0 g0 ⊢;have RU:l0≠p:=sc.bx.ne h0;refine bI (sc.ext x0) rfl rfl (λ R r=>r) ar ar λ r H1 r0 r4 ž k1=>?_;have g1:=k1 _ _ g0 RU;obtain⟨wd,ew,w1,w2⟩:∃ wd:Int,([V.int 3,.int 5,.int 19,.int 61]:List V)[r.toNat]?=some (.int wd)/\3<=wd/\wd<=61:=by
  obtain⟨m,rfl⟩:∃ m:Nat,r=(m:Int):=⟨r.toNat,ak⟩;have hm:m<4:=ak;rw [ô]
  match m,hm with
  | 0,_=>exact⟨3,rfl,ar,ar⟩
  | 1,_=>exact⟨5,rfl,ar,ar⟩
  | 2,_=>exact⟨19,rfl,ar,ar⟩
  | 3,_=>exact⟨61,rfl,ar,ar⟩
 have er:r=(r.toNat:Int):=ak;refine⟨l0,_,r,.int wd,rfl,rfl,î.of g1,by rw [er];exact f7 ew,?_⟩
 have xa:Ext (wo H p) (wo H1 p):=(bo x0 p).trans (aH k1);refine⟨_,rfl,(n:Int),rfl,ak,ak,λ D hD=>?_⟩;have nD:=ž.bx.ne hD;rw [ô];have OM:wo H p D=none:=by
  cases e:wo H p D with
  | none=>rfl
  | some o=>have:=ai _ _ _ _ (xa _ _ e);rw [hD] at this;cases this
 refine gH (lo:=0) (n:=n) (λ i ys H'=>Sc K H' sA p ns/\Ext (wo H p) (wo H' p)/\∃ xs:List Int,ys=xs.map V.int/\xs.length=i/\mE xs) (by rw [Ô];omega) ?_ ?_ ?_
 ·have x3:=Ext.new (o:=.lst []) hD;exact⟨ž.ext x3,xa.trans (bo x3 p),[],rfl,rfl,λ x h=>nomatch h⟩
 ·rintro i ys H' hi ly ĉ ⟨JP,x',xs,rfl,lx,ok⟩ os į R k';obtain⟨o0,rfl⟩:∃ o0,os=[o0]:=by
   match os,į with
   | [o0],_=>exact⟨o0,rfl⟩
  refine⟨⟨[_],rfl,rfl⟩,_,rfl,_,rfl,_,rfl,sA,ns,p,wd,rfl,JP.sq,JP.LC,JP.ne,JP.bx,ak,ak,λ y H5 y0 y1 b5 k5 _=>⟨_,rfl,_,_,rfl,rfl,⟨ar,ar⟩,_,_,rfl,rfl,?_⟩⟩;have Oq:=k5 _ _ ĉ nD;have xf:Ext (wo H p) (wo (af H5 D (.lst (xs.map V.int ++ [.int (y-wd/2)]))) p):=λ b o e=>by
   have n1:b≠D:=λ z=>by rw [z,OM] at e;cases e
   have e2:=(x'.trans (aH k5)) _ _ e;exact bw (hW e) (by rw [ah n1];exact ai _ _ _ _ e2)
  refine k' _ H5 Oq ⟨sc.QR xf (b5.up nD),xf,xs ++ [y-wd/2],by rw [Î];rfl,by rw [É,lx];rfl,λ x h=>?_⟩
  rcases ğ.mp h with h | h
  ·exact ok x h
  ·rw [ä.mp h];omega
 ·rintro ys H' ly ĉ ⟨JP,x',xs,rfl,lx,ok⟩;exact q D xs H' JP x' OM (bw nD ĉ) lx ok
abbrev FN:Stmt:=bZ 72
theorem Ia:ad ["_law_numbers_here"] ["_law_numbers_here"] (aa FN):=aK
abbrev Ex:Scope:=cC [("_law_number",.local)]
theorem He:((["_law_number"]:List Str)++([]:List Str)).Nodup:=ao
theorem AT {X:Cx}:aT X Ex [] ["_law_number"] [] []:=fG (L:=[(".0",.local),("_law_number",.local)]) rfl rfl ao ao ao rfl ao ao
def cg (xs:List Int):List (Int × Bool):=xs.map λ x=>(x,true)
def Gh (H:Hp)(xs:List Int)(Q:VK):Prop:=∀ l ys H',Ext H H'->H l=none->H' l=some (.lst ys)->ζ H' ys (cg xs)->Q (.ref l) H'
def eS:Sp:=λ vs H Q _=>∃(a:Addr)(xs:List Int),vs=[.ref a]/\H a=some (.lst (xs.map V.int))/\xs.length<=20/\Gh H xs Q
theorem DU (F:Ģ K "_law_sure" "_law_sure" FN f fd):Þ P w K mg base ay 1 f fd ["_law_numbers_here"] eS:=by
 refine bR F Ia λ cdv A outer s H vs Q E hr h=>?_;obtain⟨a,xs,rfl,ha,ţ,q⟩:=h;refine⟨_,bp (cZ (bH (te:=iE (av (aj 0) (av (tC (.bl true)) aJ))) (g:=aX 0) rfl AT (aG (pv 0)) (λ s H C fp=>by exact cA (i:=0) He rfl (.inl rfl)) (λ s H C fp=>by exact bK (ac (pv 0) (ac mQ au))))),?_⟩
 refine⟨_,rfl,a,rfl,⟨_,î.of ha⟩,λ D hD=>?_⟩;refine bz (a:=a) (xs:=xs.map V.int) (λ i ys H'=>Ext H H'/\ζ H' ys (cg (xs.take i))) (by rw [Ô,Ã];omega) ⟨Ext.new hD,ζ.nil⟩ (λ i ys H' pv=>î.of (pv.1 _ _ ha)) ?_ ?_
 ·rintro i v ys H' ev ly ĉ ⟨x',oc⟩ os į R k;obtain⟨o0,rfl⟩:∃ o0,os=[o0]:=by
   match os,į with
   | [o0],_=>exact⟨o0,rfl⟩
  rw [Ì] at ev;obtain⟨z,ez,rfl⟩:=Ó.mp ev;refine⟨⟨[some (.int z)],rfl,rfl⟩,_,rfl,dZ,λ t ht=>?_⟩;have xt:=Ext.new (o:=.tup [.int z,.bl true]) ht;have nt:t≠D:=λ e=>by rw [e,ĉ] at ht;cases ht
  have Q7:af H' t (.tup [.int z,.bl true]) t=some (.tup [.int z,.bl true]):=aO;have Ű:=xt _ _ ĉ;have PK:=oc.Oz xt;have x2:=x'.trans xt;generalize af H' t (.tup [.int z,.bl true])=H2 at xt Q7 Ű PK x2 ⊢;refine k _ H2 Ű ⟨aN _ x2 hD,?_⟩;have ex:cg (xs.take (i+1))=cg (xs.take i) ++ [(z,true)]:=by unfold cg;rw [aE ez,Î];rfl
  rw [ex];have hk:∀{y:V}{o:Int × Bool},Ej H2 y o->Ej (af H2 D (.lst (ys ++ [.ref t]))) y o:=λ ⟨b,e,hb⟩=>⟨b,e,by rw [ah (λ e=>by rw [e,Ű] at hb;cases hb)];exact hb⟩
  refine ζ.snoc ⟨PK.1,λ j y o h1 h2=>hk (PK.2 j y o h1 h2)⟩ (hk ⟨t,rfl,Q7⟩)
 ·rintro ys H' ly ĉ ⟨x',oc⟩;rw [Ã,Õ] at oc;exact q D ys H' x' hD ĉ oc
end
theorem rO (x y b:Int):qQ (x+b) true (y+b) true=qQ x true y true:=by
 unfold qQ;rw [show decide (x+b>y+b)=decide (x>y) from ě.mpr ak,show decide (y+b>x+b)=decide (y>x) from ě.mpr ak]
theorem tF (x y:Int):qQ (0-x) true (0-y) true=0-qQ x true y true:=by
 unfold qQ;simp only [Bool.true_and,decide_eq_true_eq]
 repeat' split
 all_goals omega
def wn (xs:List Int)(x:Int):Int:=(xs.map λ y=>qQ x true y true).sum
theorem lZ (xs:List Int):dG 0 (cg xs)=xs:=by
 show(cg xs).map (·.1)=xs;unfold cg;rw [ý];exact List.map_id xs
theorem nZ (xs:List Int):dG 1 (cg xs)=xs.map (rk xs):=by
 show(cg xs).map (λ o=>rk ((cg xs).map (·.1)) o.1)=_;rw [show(cg xs).map (·.1)=xs from lZ xs];unfold cg;rw [ý];rfl
theorem ql (xs:List Int):dG 2 (cg xs)=xs.map (wn xs):=by
 show kj (cg xs)=_;unfold kj cg;rw [ý];refine ö λ x _=>?_;show((xs.map λ x=>(x,true)).map λ p=>tX (x,true) p).sum=_;rw [ý];rfl
theorem oV {xs:List Int}(f g:Int->Int)(hf:∀ x y,qQ (f x) true (f y) true=g (qQ x true y true))(he:xs.length%2=0):dG 3 (cg (xs.map f))=(dG 3 (cg xs)).map g:=by
 show jj (cg (xs.map f))=(jj (cg xs)).map g;unfold jj cg;refine List.ext_getElem (by simp) λ i h1 h2=>?_
 have hi:i<xs.length:=by simpa using h1
 have hm:=oN hi he;simp only [List.getElem_mapIdx,List.getElem_map,tX];rw [ß,ß,Á (by simpa using hm),List.getElem?_eq_getElem (by simpa using hm)]
 simp only [List.getElem_map,Option.getD_some];exact hf _ _
theorem vH (l:List Int):l.map (λ x=>x)=l:=List.map_id l
theorem ld {α:Type}(f:α->Int):∀ l:List α,(l.map λ y=>0-f y).sum=0-(l.map f).sum
 | []=>rfl
 | x::l=>by
  simp only [List.map_cons,List.sum_cons,ld f l];omega
theorem Jg (xs:List Int)(b:Int):dG 0 (cg (xs.map (· + b)))=(dG 0 (cg xs)).map (· + b):=by rw [lZ,lZ]
theorem Ae (xs:List Int)(x b:Int):rk (xs.map (· + b)) (x+b)=rk xs x:=by
 unfold rk;rw [Ŷ,Ŷ];rw [show((λ m=>decide (m<x+b)) ∘ λ x=>x+b) = λ m=>decide (m<x) from funext λ m=>ě.mpr (by show m+b<x+b ↔ _;omega),show((λ m=>decide (m=x+b)) ∘ λ x=>x+b) = λ m=>decide (m=x) from funext λ m=>ě.mpr (by show m+b=x+b ↔ _;omega)]
theorem Jb {k:Nat}(h0:0<k)(hk:k<4)(xs:List Int)(b:Int)(he:k=3->xs.length%2=0):dG k (cg (xs.map (· + b)))=dG k (cg xs):=by
 match k,h0,hk with
 | 1,_,_ =>
  rw [nZ,nZ,ý];exact ö λ x _=>Ae xs x b
 | 2,_,_ =>
  rw [ql,ql,ý];refine ö λ x _=>?_;show wn (xs.map (· + b)) (x+b)=wn xs x;unfold wn;rw [ý];exact Ĕ List.sum (ö λ y _=>rO x y b)
 | 3,_,_=>rw [oV (· + b) (λ x=>x) (λ x y=>rO x y b) (he rfl),vH]
theorem Jj {k:Nat}(h1:k≠1)(hk:k<4)(xs:List Int)(he:k=3->xs.length%2=0):dG k (cg (xs.map (0 - ·)))=(dG k (cg xs)).map (0 - ·):=by
 match k,h1,hk with
 | 0,_,_=>rw [lZ,lZ]
 | 2,_,_ =>
  rw [ql,ql,ý,ý];refine ö λ x _=>?_;show wn (xs.map (0 - ·)) (0-x)=0-wn xs x;unfold wn;rw [ý,<- ld];exact Ĕ List.sum (ö λ y _=>tF x y)
 | 3,_,_=>rw [oV (0 - ·) (0 - ·) tF (he rfl)]
theorem yf (n:Int):∀ xs:List Int,(xs.countP λ m=>decide (m<n))+(xs.countP λ m=>decide (m=n))+(xs.countP λ m=>decide (n<m))=xs.length
 | []=>rfl
 | x::xs=>by
  have:=yf n xs;simp only [List.countP_cons,List.length_cons,decide_eq_true_eq]
  repeat' split
  all_goals omega
theorem A9 (xs:List Int)(x:Int):rk (xs.map (0 - ·)) (0-x)=2*((xs.length:Int)+1)-rk xs x:=by
 unfold rk;rw [Ŷ,Ŷ];rw [show((λ m=>decide (m<0-x)) ∘ λ x=>0-x) = λ m=>decide (x<m) from funext λ m=>ě.mpr (by show 0-m<0-x ↔ _;omega),show((λ m=>decide (m=0-x)) ∘ λ x=>0-x) = λ m=>decide (m=x) from funext λ m=>ě.mpr (by show 0-m=0-x ↔ _;omega)]
 have:=yf x xs;omega
theorem Je (xs:List Int):dG 1 (cg (xs.map (0 - ·)))=(dG 1 (cg xs)).map (λ r=>2*((xs.length:Int)+1)-r):=by
 rw [nZ,nZ,ý,ý];exact ö λ x _=>A9 xs x
theorem pE {α:Type}(p:α->Bool):∀ l:List α,(l.map λ m=>if p m=true then 1 else 0).sum=l.countP p
 | []=>rfl
 | x::l=>by
  simp only [List.map_cons,List.sum_cons,pE p l,List.countP_cons];omega
theorem gE {α:Type}(f g:α->Nat):∀ l:List α,(l.map λ m=>f m+g m).sum=(l.map f).sum+(l.map g).sum
 | []=>rfl
 | x::l=>by
  simp only [List.map_cons,List.sum_cons,gE f g l];omega
theorem kZ {α:Type}:∀ l:List α,(l.map λ _=>0).sum=0
 | []=>rfl
 | x::l=>by simp only [List.map_cons,List.sum_cons,kZ l]
theorem D0 (B:List Int):∀ A:List Int,(A.map λ x=>B.countP λ m=>decide (m<x)).sum=(B.map λ m=>A.countP λ x=>decide (m<x)).sum
 | []=>(kZ B).symm
 | x::A=>by
  simp only [List.map_cons,List.sum_cons,D0 B A,List.countP_cons];rw [gE,pE (λ m=>decide (m<x)),NT]
theorem lH {α:Type}(f:α->Nat):∀ l:List α,(l.map λ x=>((f x:Nat):Int)).sum=(((l.map f).sum:Nat):Int)
 | []=>rfl
 | x::l=>by
  simp only [List.map_cons,List.sum_cons,lH f l];omega
theorem pT {α:Type}(c:Nat):∀ l:List α,(l.map λ _=>c).sum=l.length*c
 | []=>by simp
 | x::l=>by
  simp only [List.map_cons,List.sum_cons,pT c l,List.length_cons,Nat.add_mul];omega
theorem wV (xs:List Int):(dG 1 (cg xs)).sum=(xs.length:Int)*((xs.length:Int)+1):=by
 rw [nZ];have e:∀ x∈xs,rk xs x=(((xs.countP λ m=>decide (m<x))+((xs.countP λ m=>decide (m<x))+(xs.countP λ m=>decide (m=x))+1):Nat):Int):=λ x _=>by unfold rk;omega
 rw [ö e,lH];have z:(xs.map λ x=>(xs.countP λ m=>decide (m<x))+((xs.countP λ m=>decide (m<x))+(xs.countP λ m=>decide (m=x))+1)).sum=xs.length*(xs.length+1):=by
  rw [gE,D0 xs xs,<- gE,<- pT];refine Ĕ List.sum (ö λ x _=>?_);have:=yf x xs;omega
 rw [z,Int.natCast_mul,υ];rfl
def jb (xs:List Int)(i j:Nat):List Int:=(xs.set i (xs.getD j 0)).set j (xs.getD i 0)
theorem pq {xs:List Int}{i j:Nat}:(jb xs i j).length=xs.length:=by unfold jb;rw [Ő,Ő]
theorem lO {xs:List Int}{i j:Nat}(hi:i<xs.length)(hj:j<xs.length):(jb xs i j).Perm xs:=by
 refine List.perm_iff_count.mpr λ a=>?_;unfold jb;rw [ß,ß,Á hi,Á hj];simp only [Option.getD_some];rw [List.count_set (by rw [Ő];exact hj),List.count_set hi]
 have p1:(xs[i]==a)=true->0<List.count a xs:=λ e=>List.count_pos_iff.mpr (by rw [<- Ā.mp e];exact ü hi)
 have p2:(xs[j]==a)=true->0<List.count a xs:=λ e=>List.count_pos_iff.mpr (by rw [<- Ā.mp e];exact ü hj)
 by_cases ij:i=j
 ·subst ij;rw [List.getElem_set_self];by_cases q:(xs[i]==a)=true
  ·have:=p1 q;simp only [q,if_true];omega
  ·simp only [q,if_false];simp
 ·rw [List.getElem_set_ne ij];by_cases q:(xs[i]==a)=true
  ·have:=p1 q;by_cases r:(xs[j]==a)=true
   ·simp only [q,r,if_true];omega
   ·simp only [q,r,if_true,if_false];simp;omega
  ·by_cases r:(xs[j]==a)=true
   ·have:=p2 r;simp only [q,r,if_true,if_false];simp
   ·simp only [q,r,if_false];simp
theorem p3 {l l':List Int}(h:l.Perm l'):l.sum=l'.sum:=by
 induction h with
 | nil=>rfl
 | cons x _ ih=>rw [ľ,ľ,ih]
 | swap x y l=>simp only [List.sum_cons];omega
 | trans _ _ a b=>exact a.trans b
theorem oU {g:Int->Int}{xs:List Int}{i j:Nat}(hi:i<xs.length)(hj:j<xs.length):(jb xs i j).map g=jb (xs.map g) i j:=by
 unfold jb;rw [NV,NV];rw [ß,ß,ß,ß,Ì,Ì,Á hi,Á hj];rfl
theorem Jf {k:Nat}(hk:k<3){xs:List Int}{i j:Nat}(hi:i<xs.length)(hj:j<xs.length):dG k (cg (jb xs i j))=jb (dG k (cg xs)) i j:=by
 have pm:=lO hi hj
 match k,hk with
 | 0,_=>rw [lZ,lZ]
 | 1,_ =>
  rw [nZ,nZ,<- oU hi hj];refine ö λ x _=>?_;unfold rk;rw [pm.countP_eq,pm.countP_eq]
 | 2,_ =>
  rw [ql,ql,<- oU hi hj];refine ö λ x _=>?_;unfold wn;exact p3 (pm.map _)
section
variable {P:Program}{w:World}{K:Frag}{mg:bL}{base:Heap}{C MC:Nat->Addr}{CU CN f:Addr}{fd:FuncData}(dj:∀ i j,i<4->j<4->MC i=MC j->i=j)
include dj
theorem F5 (h:Þ P w K mg base ay 1 f fd ["self","outcomes"] (uP λ os=>os.map (·.1))):Þ P w K mg base ay 7 f fd ["self","outcomes"] (gm MC (MC 0)):=by
 refine(h.mono ar).imp λ vs H Q E z=>?_;obtain⟨k,v,a,os,hk,e,rfl,go,q⟩:=z;have ek:=dj 0 k ar hk e;subst ek;obtain⟨xs,ha,oc⟩:=go.ex;exact⟨v,a,xs,os,rfl,ha,oc,go.ln,q⟩
theorem FJ (h:Þ P w K mg base ay 1 f fd ["self","outcomes"] (uP λ os=>os.map λ o=>rk (os.map (·.1)) o.1)):Þ P w K mg base ay 7 f fd ["self","outcomes"] (gm MC (MC 1)):=by
 refine(h.mono ar).imp λ vs H Q E z=>?_;obtain⟨k,v,a,os,hk,e,rfl,go,q⟩:=z;have ek:=dj 1 k ar hk e;subst ek;obtain⟨xs,ha,oc⟩:=go.ex;exact⟨v,a,xs,os,rfl,ha,oc,go.ln,q⟩
theorem G8 (h:Þ P w K mg base ay 6 f fd ["self","outcomes"] (wH K)):Þ P w K mg base ay 7 f fd ["self","outcomes"] (gm MC (MC 2)):=by
 refine(h.mono ar).imp λ vs H Q E z=>?_;obtain⟨k,v,a,os,hk,e,rfl,go,q⟩:=z;have ek:=dj 2 k ar hk e;subst ek;obtain⟨xs,ha,oc⟩:=go.ex;exact⟨v,a,xs,os,rfl,ha,oc,go.bd,go.ln,q⟩
theorem HF (h:Þ P w K mg base ay 6 f fd ["self","outcomes"] (wx K)):Þ P w K mg base ay 7 f fd ["self","outcomes"] (gm MC (MC 3)):=by
 refine(h.mono ar).imp λ vs H Q E z=>?_;obtain⟨k,v,a,os,hk,e,rfl,go,q⟩:=z;have ek:=dj 3 k ar hk e;subst ek;obtain⟨xs,ha,oc⟩:=go.ex;exact⟨v,a,xs,os,rfl,ha,oc,go.bd,go.ln,go.ev rfl,q⟩
theorem HN (h:Þ P w K mg base (cy P w) 4 f fd ["self","rule","outcomes"] (vM CU)):Þ P w K mg base (cy P w) 5 f fd ["self","rule","outcomes"] (gs C MC CU CN (MC 0)):=by
 refine(h.mono ar).imp λ vs H Q E z=>?_;obtain⟨k,v,r,t,a,xs,os,hk,e,rfl,ru,l1,l2,ha,oc,q1,q2⟩:=z;have ek:=dj 0 k ar hk e;subst ek;exact⟨v,r,a,xs,os,rfl,ha,oc,q1,q2⟩
theorem GH (h:Þ P w K mg base (cy P w) 4 f fd ["self","rule","outcomes"] (vM CU)):Þ P w K mg base (cy P w) 5 f fd ["self","rule","outcomes"] (gs C MC CU CN (MC 1)):=by
 refine(h.mono ar).imp λ vs H Q E z=>?_;obtain⟨k,v,r,t,a,xs,os,hk,e,rfl,ru,l1,l2,ha,oc,q1,q2⟩:=z;have ek:=dj 1 k ar hk e;subst ek;exact⟨v,r,a,xs,os,rfl,ha,oc,q1,q2⟩
theorem HJ (h:Þ P w K mg base ay 1 f fd ["self","rule","outcomes"] DA):Þ P w K mg base (cy P w) 5 f fd ["self","rule","outcomes"] (gs C MC CU CN (MC 2)):=by
 refine(My.Þ.Xh (h.mono (show 1<=5 by decide))).imp λ vs H Q E z=>?_
 obtain⟨k,v,r,t,a,xs,os,hk,e,rfl,ru,l1,l2,ha,oc,q1,q2⟩:=z;have ek:=dj 2 k ar hk e;subst ek;exact⟨v,r,_,rfl,q1 rfl H (.refl _)⟩
theorem FT (h:Þ P w K mg base (cy P w) 4 f fd ["self","rule","outcomes"] (Ce C CN)):Þ P w K mg base (cy P w) 5 f fd ["self","rule","outcomes"] (gs C MC CU CN (MC 3)):=by
 refine(h.mono ar).imp λ vs H Q E z=>?_;obtain⟨k,v,r,t,a,xs,os,hk,e,rfl,ru,l1,l2,ha,oc,q1,q2⟩:=z;have ek:=dj 3 k ar hk e;subst ek;exact⟨v,r,_,t,rfl,ru,l1,l2,q1,q2⟩
omit dj
theorem vb {c:Addr}(h:Þ P w K mg base ay 8 f fd ["self","rule","outcomes"] (sf MC)):Þ P w K mg base ay 8 f fd ["self","rule","outcomes"] (k9 MC c):=h.imp λ vs H Q E z=>⟨c,z⟩
end
theorem Fv {k:Nat}:∀{ds:List PyData},(∀ d∈ds,d.depth<=k)->PyData.depthAll ds<=k
 | [],_=>by simp [PyData.depthAll]
 | d::ds,h=>by
  have h1:=h d (ì ..);have h2:=Fv λ x hx=>h x (Ø _ hx);simp only [PyData.depthAll];omega
theorem iN (ns:List Int):aZ (nI ns)=true:=i7 ns
theorem yK (ns:List Int):(nI ns).depth<=20:=by
 have:PyData.depthAll (ns.map PyData.int)<=0:=Fv λ d hd=>by
  obtain⟨n,_,rfl⟩:=ê.mp hd;simp [PyData.depth]
 simp only [nI,PyData.depth];omega
theorem oO {H:Hp}{ns:List Int}{a:Addr}(ha:H a=some (.lst (ns.map V.int))):ė H (.ref a) (nI ns):=.lst ha (dA H ns)
theorem fc {g:Bool->Bool}{H:Hp}{ns:List Int}{a b:Addr}{Q:VK}(ha:H a=some (.lst (ns.map V.int)))(hb:H b=some (.lst (ns.map V.int)))(q:Q (.bl (g true)) H):jf g (.ref a) (.ref b) H Q:=by
 refine⟨nI ns,nI ns,oO ha,oO hb,iN ns,iN ns,yK ns,?_⟩;rw [lW (iN ns)];exact q
section
variable {P:Program}{w:World}{K:Frag}{mg:bL}{base:Heap}{C MC:Nat->Addr}{CU CN f a1 a2 a3 f0 f1 f2 f3:Addr}{fd d1 d2 d3 e0 e1 e2 e3:FuncData}
def mw (MC:Nat->Addr)(k:Nat):TE:=dC (MC k) (f9 MC k) [] E0 aJ
theorem dD {σ:St}{H:Hp}{k:Nat}{Q:VK}(q:∀ v H',Ext H H'->Me MC H' k v->Q v H'):mw MC k σ H Q:=λ x dx hx hd ne=>Ef hx hd ne λ H' x' me=>⟨rfl,q _ H' x' me⟩
theorem fX {ti te:TE}{js:List Nat}{cap σ:St}{H:Hp}{ns:List Int}{Q:VK}(g:Int->Int)(ec:cz js σ = cap)(Sx:∀ R:VK,(∀ b H1,Ext H H1->H1 b=some (.lst (ns.map V.int))->R (.ref b) H1)->ti σ H R)(ţ:ns.length<=20)(hb:∀ m∈ns,∀(H':Hp)(R:VK),Ext H H'->R (.int (g m)) H'->te (some (.int m)::cap) H' R)(q:gu H (ns.map g) Q):cD (bn K ti) 1 js (aX 0) te σ H Q:=by
 have sz:=Ô;refine Sx _ λ b H1 x1 h1=>⟨b,rfl,⟨_,î.of h1⟩,λ D2 Ű=>?_⟩;rw [ec];have nD:H D2=none:=by
  cases e:H D2 with
  | none=>rfl
  | some o=>rw [x1 _ _ e] at Ű;cases Ű
 refine bz (a:=b) (xs:=ns.map V.int) (λ i ys H'=>Ext H1 H'/\ys=((ns.take i).map g).map V.int) (by rw [Ã];omega) ⟨Ext.new Ű,rfl⟩ (λ i ys H' pv=>î.of (pv.1 _ _ h1)) ?_ ?_
 ·rintro i x ys H' ex ly ĉ ⟨x',rfl⟩ JE į R k;obtain⟨q0,rfl⟩:∃ o0,JE=[o0]:=by
   match JE,į with
   | [o0],_=>exact⟨o0,rfl⟩
  rw [Ì] at ex;obtain⟨m,em,rfl⟩:=Ó.mp ex;refine⟨⟨[some (.int m)],rfl,rfl⟩,hb m (Ú em) H' R (x1.trans x') (k _ H' ĉ ⟨aN _ x' Ű,?_⟩)⟩;rw [aE em,Î,Î];rfl
 ·rintro ys H' ly ĉ ⟨x',rfl⟩;rw [Ã,Õ] at ĉ;exact q D2 H' (x1.trans x') nD ĉ
structure J2 (C:Nat->Addr)(H:Hp)(t:Rl)(r:V)(n:Nat):Prop where
 ru:Ru C H t r
 ok:t.ok
 fl:t.flat
 fk:t.Ï =(n:Nat)
theorem J2.ext {H H':Hp}{t:Rl}{r:V}{n:Nat}(h:J2 C H t r n)(x:Ext H H'):J2 C H' t r n:=⟨h.ru.ext x,h.ok,h.fl,h.fk⟩
theorem J2.le {H:Hp}{t:Rl}{r:V}{n:Nat}(h:J2 C H t r n):n<=20:=by
 have:=Rl.Ą h.ok;have:=h.fk;omega
def O3 (H:Hp)(l:Addr)(xs:List Int):Prop:=∃ ys,H l=some (.lst ys)/\ζ H ys (cg xs)
theorem O3.ext {H H':Hp}{l:Addr}{xs:List Int}(h:O3 H l xs)(x:Ext H H'):O3 H' l xs:=by
 obtain⟨ys,a,b⟩:=h;exact⟨ys,x _ _ a,b.Oz x⟩
def Bd (xs:List Int):Prop:=∀ x∈xs,-99<=x/\x<=99
theorem cJ (xs:List Int):(cg xs).length=xs.length:=Ã ..
theorem nB {k:Nat}(hk:k<4){t:Rl}{xs:List Int}(al:k=3->(fZ t).all id=true):(jP k t (cg xs)).all id=true:=by
 have z:((cg xs).map (·.2)).all id=true:=ú.mpr λ b hb=>by
  unfold cg at hb;rw [ý] at hb;obtain⟨y,_,rfl⟩:=ê.mp hb;rfl
 match k,hk with
 | 0,_=>exact z
 | 1,_=>exact z
 | 2,_=>rfl
 | 3,_=>exact al rfl
def jk (C MC:Nat->Addr)(CU CN:Addr)(tm:TE)(i j:Nat):TE:=bD (iq MC) "scores" (λ _=>jw C MC CU CN) E0 tm (av (aj i) (av (aj j) aJ))
theorem fB {tm:TE}{σ:St}{H:Hp}{Q:VK}{i j k:Nat}{t:Rl}{r:V}{l:Addr}{xs:List Int}(hk:k<4)(al:k=3->(fZ t).all id=true)(hm:∀ R:VK,(∀ v H1,Ext H H1->Me MC H1 k v->R v H1)->tm σ H R)(si:σ[i]?=some (some r))(sj:σ[j]?=some (some (.ref l)))(pr:J2 C H t r xs.length)(su:O3 H l xs)(bd:Bd xs)(q:gu H (dG k (cg xs)) Q):jk C MC CU CN tm i j σ H Q:=by
 refine hm _ λ v H1 x1 me=>?_;have RT:=pr.ext x1;obtain⟨ys,hl,oc⟩:=su.ext x1;obtain⟨o,dx,m,rfl,ho,Lo⟩:=id me;have fk:t.Ï =((cg xs).length:Nat):=by rw [cJ];exact pr.fk
 refine⟨o,MC k,_,_,rfl,⟨k,hk,rfl⟩,ho,?_,_,si,_,sj,k,.ref o,r,t,l,ys,cg xs,hk,rfl,me,RT.ru,(Rl.sm pr.ok).1,(Rl.sm pr.ok).2,hl,oc,λ o ho=>?_,by rw [cJ];exact pr.le,fk,λ _ al=>iI pr.ok pr.fl fk al,λ _ l' H2 x2 nl Mn=>?_,λ i fi=>?_⟩
 ·rw [é,ã.mpr ao];rfl
 ·obtain⟨x,hx,rfl⟩:=ê.mp ho;exact bd x hx
 ·refine q l' H2 (x1.trans x2) ?_ Mn;cases e:H l' with
  | none=>rfl
  | some o=>rw [x1 _ _ e] at nl;cases nl
 ·exfalso;have:=ú.mp (nB hk al) false (Ú fi.2);cases this
end
structure Dq (P:Program)(w:World)(K:Frag)(mg:bL)(base:Heap)(C MC:Nat->Addr)(CU CN:Addr)(f0 f1 f2 f3 a1 a2:Addr)(e0 e1 e2 e3 d1 d2:FuncData):Prop where
 L:Hy P w K mg base MC f0 f1 f2 f3 e0 e1 e2 e3
 su:Df P w K mg base ay 1 "_law_sure" ["_law_numbers_here"] eS a1 d1
 ap:Df P w K mg base ay 1 "_law_are_pairs" ["_law_blocks"] yc a2 d2
 sc:bv P w K mg base (cy P w) 9 "scores" ["self","rule","outcomes"] (iq MC) (λ _=>jw C MC CU CN)
 mi:mg "int" = none
 ms:mg "sum" = none
 mn:mg "len" = none
 ml:mg "list" = none
section
variable {P:Program}{w:World}{K:Frag}{mg:bL}{base:Heap}{C MC:Nat->Addr}{CU CN f a1 a2 f0 f1 f2 f3:Addr}{fd d1 d2 e0 e1 e2 e3:FuncData}
abbrev t3:Stmt:=bZ 74
abbrev Gw:List Str:=["_law_rule_here","_law_blocks","_law_numbers_here","_law_by"]
abbrev BE:List Str:=["_law_rule_here","_law_blocks","_law_numbers_here","_law_by","_law_first","_law_later","_law_some"]
theorem Pr:ad BE Gw (aa t3):=aK
abbrev Ez:Scope:=cC [("_law_number",.local),("_law_by",.free)]
abbrev Fn:Scope:=cC [("_law_score",.local),("_law_by",.free)]
abbrev Ei:Scope:=cC [("_law_one",.local),("_law_first",.free),("_law_later",.free),("_law_rule_here",.free)]
theorem EB:((["_law_number"]:List Str)++(["_law_by"]:List Str)).Nodup:=ao
theorem BS:((["_law_score"]:List Str)++(["_law_by"]:List Str)).Nodup:=ao
theorem DN:((["_law_one"]:List Str)++(["_law_first","_law_later","_law_rule_here"]:List Str)).Nodup:=ao
def BA:TE:=aS (dH λ i j=>.int (i+j)) (aj 0) (aj 1)
def FW:TS:=cG (eu eS [] E0 (av (aj 2) aJ)) (aX 4)
def Gs (K:Frag):TS:=cG (eu eS [] E0 (av (cD (bn K (aj 2)) 1 [3] (aX 0) BA) aJ)) (aX 5)
def Fo (K:Frag)(C MC:Nat->Addr)(CU CN:Addr):TS:=eI (tB (aS (jf not) (jk C MC CU CN (mw MC 0) 0 5) (cD (bn K (jk C MC CU CN (mw MC 0) 0 4)) 1 [3] (aX 0) BA))) (cH (tC (.bl false))) cB
def Bs (MC:Nat->Addr)(i j:Nat):TE:=aS ve (bV (av (mw MC i) (av (mw MC j) aJ))) (aS mY (bV (av (mw MC 3) aJ)) (jg (λ xs H Q=>(∃ i,xs=[.int i]/\Q (.int i) H)\/∃ k,xs=[.bl k]/\Q (.int (if k then 1 else 0)) H) (av (eu yc [] E0 (av (aj 1) aJ)) aJ)))
def FS (MC:Nat->Addr):TS:=cG (Bs MC 1 2) (aX 6)
def Ea (C MC:Nat->Addr)(CU CN:Addr):TT:=tB (aS (jf not) (jk C MC CU CN (aj 0) 3 2) (jk C MC CU CN (aj 0) 3 1))
def CC (K:Frag)(C MC:Nat->Addr)(CU CN:Addr):TS:=cH (aS (xP K) (gh (bn K (aj 6)) 1 [4,5,0] (aX 0) (Ea C MC CU CN) (aj 0)) (bV aJ))
def Jl (K:Frag)(C MC:Nat->Addr)(CU CN:Addr):TS:=aY FW (aY (Gs K) (aY (Fo K C MC CU CN) (aY (FS MC) (CC K C MC CU CN))))
section
variable {cdv:Value}{A:Around}{outer:List Env}{s:Shared}{H:Hp}{E:XK}
theorem um:aT (aP ay P w K mg base BE "_law_moved" (aa t3) f cdv A outer s H E).ŀ Ez [("_law_by",s.heap.objs.size+2)] ["_law_number"] ["_law_by"] [3] :=
 c8 (M:=["_law_by"]) (L:=[(".0",.local),("_law_number",.local),("_law_by",.cell)]) rfl rfl ao ao ao rfl rfl rfl ao ao rfl rfl rfl
theorem vT:aT (aP ay P w K mg base BE "_law_moved" (aa t3) f cdv A outer s H E).ŀ Fn [("_law_by",s.heap.objs.size+2)] ["_law_score"] ["_law_by"] [3] :=
 c8 (M:=["_law_by"]) (L:=[(".0",.local),("_law_score",.local),("_law_by",.cell)]) rfl rfl ao ao ao rfl rfl rfl ao ao rfl rfl rfl
theorem vS:aT (aP ay P w K mg base BE "_law_moved" (aa t3) f cdv A outer s H E).ŀ Ei [("_law_rule_here",s.heap.objs.size+1),("_law_later",s.heap.objs.size+4),("_law_first",s.heap.objs.size+3)] ["_law_one"] ["_law_first","_law_later","_law_rule_here"] [4,5,0] :=
 c8 (M:=["_law_rule_here","_law_later","_law_first"]) (L:=[(".0",.local),("_law_one",.local),("_law_first",.cell),("_law_later",.cell),("_law_rule_here",.cell)]) rfl rfl ao ao ao rfl rfl rfl ao ao rfl rfl rfl
theorem xS (Z:Dq P w K mg base C MC CU CN f0 f1 f2 f3 a1 a2 e0 e1 e2 e3 d1 d2)(hr:oQ 9 "_law_moved" t3 A s f cdv):Bx (ż (aP ay P w K mg base BE "_law_moved" (aa t3) f cdv A outer s H E).ŀ (aF t3) (Jl K C MC CU CN)):=by
 have nd:=Pr.nd;have Ğ:ó 1 _:=hr.mono ar;have ο:ó 3 _:=hr.mono ar;have hu:=hr.units;have Su:=hr.JM;exact ae (aM (i:=4) nd rfl (Or.inr rfl) ⟨gG Z.su.G Ğ rfl Z.su.m Z.su.kp Z.su.b .nil ag (ac (pv 2) au)⟩)
  (ae (aM (i:=5) nd rfl (Or.inr rfl) ⟨gG Z.su.G Ğ rfl Z.su.m Z.su.kp Z.su.b .nil ag (ac (bH (te:=BA) (g:=aX 0) rfl um (aG (pv 2)) (λ s H C fp=>by exact cA (i:=0) EB rfl (.inl rfl)) (λ s H C fp=>by exact aA bB (pv 0) (pv 1))) au)⟩)
  (ae ⟨bC (aB (iF hu) (aQ (bj Z.L.k0 Z.L.g0 ο rfl Z.L.m0 Z.L.b0 .nil ag) Z.sc hr cw (ac (pv 0) (ac (pv 5) au))) (bH (te:=BA) (g:=aX 0) rfl vT (aG (aQ (bj Z.L.k0 Z.L.g0 ο rfl Z.L.m0 Z.L.b0 .nil ag) Z.sc hr cw (ac (pv 0) (ac (pv 4) au)))) (λ s H C fp=>by exact cA (i:=0) BS rfl (.inl rfl)) (λ s H C fp=>by exact aA bB (pv 0) (pv 1))) (aC _)) (bp (cZ mQ)) gj⟩
  (ae (aM (i:=6) nd rfl (Or.inl rfl) ⟨aA nK (bT (ac (bj Z.L.k1 Z.L.g1 ο rfl Z.L.m1 Z.L.b1 .nil ag) (ac (bj Z.L.k2 Z.L.g2 ο rfl Z.L.m2 Z.L.b2 .nil ag) au))) (aA ky (bT (ac (bj Z.L.k3 Z.L.g3 ο rfl Z.L.m3 Z.L.b3 .nil ag) au)) (aU jD rfl Z.mi b_ (ac (gG Z.ap.G Ğ rfl Z.ap.m Z.ap.kp Z.ap.b .nil ag (ac (pv 1) au)) au)))⟩)
  (bt (eZ ⟨dw (kX Su) (eR (te:=aj 0) (tt:=Ea C MC CU CN) (g:=aX 0) rfl vS (aG (pv 6)) (λ s H C fp=>by exact cA (i:=0) DN rfl (.inl rfl)) (λ s H C' fp=>by exact aB (iF hu) (aQ (pv 0) Z.sc hr cw (ac (pv 3) (ac (pv 2) au))) (aQ (pv 0) Z.sc hr cw (ac (pv 3) (ac (pv 1) au))) (aC _)) (λ s H C fp=>by exact pv 0)) (bT au) (aC _)⟩)))))
end
end
theorem wN {t:Rl}(ok:t.ok)(fl:t.flat):t.bl.length<=20:=by
 have e:(fZ t).length=t.bl.length:=by rw [oF ok fl,Ã]
 have:(fZ t).length<=t.parts.length:=by unfold fZ;rw [List.length_zipWith];exact Nat.min_le_left _ _
 have:=(Rl.sm ok).1;omega
structure MB (C:Nat->Addr)(H:Hp)(r:V)(D a:Addr)(t:Rl)(zs:List V)(xs:List Int):Prop where
 pr:J2 C H t r xs.length
 hD:H D=some (.lst zs)
 ra:Ö H zs (t.bl.map mx)
 ha:H a=some (.lst (xs.map V.int))
 nb:mE xs
section
variable {P:Program}{w:World}{K:Frag}{mg:bL}{base:Heap}{C MC:Nat->Addr}{CU CN f a1 a2 f0 f1 f2 f3:Addr}{fd d1 d2 e0 e1 e2 e3:FuncData}{H H':Hp}{r:V}{D a:Addr}{t:Rl}{zs:List V}{xs:List Int}{De:cP}{u:TS}
theorem MB.ext (h:MB C H r D a t zs xs)(x:Ext H H'):MB C H' r D a t zs xs:=⟨h.pr.ext x,x _ _ h.hD,h.ra.mono x,x _ _ h.ha,h.nb⟩
theorem MB.bd (h:MB C H r D a t zs xs):Bd xs:=λ x hx=>by have:=h.nb x hx;omega
theorem MB.ev (h:MB C H r D a t zs xs)(al:(fZ t).all id=true):xs.length%2=0:=iI h.pr.ok h.pr.fl h.pr.fk al
def Ks (MC:Nat->Addr)(H:Hp)(t:Rl)(i j:Nat)(v:V):Prop:=∃ k,(k=i\/k=j\/k=3)/\(k=3->(fZ t).all id=true)/\Me MC H k v
theorem vI {ta tb:TE}{σ:St}{Q:VK}(h:ta σ H λ v1 H1=>tb σ H1 λ v2 H2=>2<=sizeLine/\∀ p,H2 p=none->Q (.ref p) (af H2 p (.lst [v1,v2]))):bV (av ta (av tb aJ)) σ H Q:=h
theorem pJ {ta:TE}{σ:St}{Q:VK}(h:ta σ H λ v1 H1=>1<=sizeLine/\∀ p,H1 p=none->Q (.ref p) (af H1 p (.lst [v1]))):bV (av ta aJ) σ H Q:=h
theorem wQ {σ:St}{Q:VK}{i j:Nat}(i3:i<3)(j3:j<3)(s1:σ[1]?=some (some (.ref D)))(h:MB C H r D a t zs xs)(q:∀ l vs H',Ext H H'->H l=none->H' l=some (.lst vs)->vs.length<=3->(∀ v∈vs,Ks MC H' t i j v)->Q (.ref l) H'):Bs MC i j σ H Q:=by
 unfold Bs;refine fF (vI (dD λ v1 H1 x1 m1=>dD λ v2 H2 x2 m2=>⟨ar,λ l hl=>?_⟩));have x3:=Ext.new (o:=.lst [v1,v2]) hl;have g3:af H2 l (.lst [v1,v2]) l=some (.lst [v1,v2]):=aO;generalize af H2 l (.lst [v1,v2])=H3 at x3 g3 ⊢;refine fF (pJ (dD λ v3 H4 x4 m3=>⟨ar,λ l' Mn=>?_⟩));have x5:=Ext.new (o:=.lst [v3]) Mn;have g5:af H4 l' (.lst [v3]) l'=some (.lst [v3]):=aO;generalize af H4 l' (.lst [v3])=H5 at x5 g5 ⊢;have Pe:=(((x1.trans x2).trans x3).trans x4).trans x5;have h5:=h.ext Pe;refine⟨_,s1,D,zs,t.bl,rfl,h5.hD,h5.ra,wN h.pr.ok h.pr.fl,λ H6 x6=>.inr ⟨_,rfl,?_⟩⟩;have e:(t.bl.map om).all id=(fZ t).all id:=by rw [oF h.pr.ok h.pr.fl]
 rw [e];have l1:H6 l=some (.lst [v1,v2]):=x6 _ _ (x5 _ _ (x4 _ _ g3));have l2:H6 l'=some (.lst [v3]):=x6 _ _ g5;have Pd:=Pe.trans x6;have k1:∀{H7:Hp},Ext H6 H7->Ks MC H7 t i j v1:=λ x=>⟨i,.inl rfl,λ z=>by omega,m1.ext (((((x2.trans x3).trans x4).trans x5).trans x6).trans x)⟩
 have k2:∀{H7:Hp},Ext H6 H7->Ks MC H7 t i j v2:=λ x=>⟨j,.inr (.inl rfl),λ z=>by omega,m2.ext ((((x3.trans x4).trans x5).trans x6).trans x)⟩
 have nn:∀{l:Addr},H6 l=none->H l=none:=λ {l} n=>by
  cases e:H l with
  | none=>rfl
  | some o=>rw [Pd _ _ e] at n;cases n
 cases al:(fZ t).all id with
 | false =>
  refine⟨l',0,[v3],rfl,rfl,l2,ar,ar,by show 1*0<=sizeLine;decide,λ p hp=>?_⟩
  have x7:=Ext.new (o:=.lst (List.replicate 0 [v3]).flatten) hp;have g7:af H6 p (.lst (List.replicate 0 [v3]).flatten) p=some (.lst []):=aO;refine⟨l,p,_,_,rfl,rfl,x7 _ _ l1,g7,by show 2+0<=sizeLine;decide,λ p' Oe=>?_⟩
  have x8:=Ext.new (o:=.lst ([v1,v2] ++ [])) Oe;have Nq:=x7.trans x8;refine q p' _ _ (Pd.trans Nq) ?_ aO (by show 2<=3;decide) λ v hv=>?_
  ·cases e:H p' with
   | none=>rfl
   | some o=>have:=(x7 _ _ (Pd _ _ e)).symm.trans Oe;cases this
  rcases á.mp hv with rfl | hv
  ·exact k1 Nq
  rw [ä.mp hv];exact k2 Nq
 | true =>
  refine⟨l',1,[v3],rfl,rfl,l2,ar,ar,by show 1*1<=sizeLine;decide,λ p hp=>?_⟩
  have x7:=Ext.new (o:=.lst (List.replicate 1 [v3]).flatten) hp;have g7:af H6 p (.lst (List.replicate 1 [v3]).flatten) p=some (.lst [v3]):=aO;refine⟨l,p,_,_,rfl,rfl,x7 _ _ l1,g7,by show 2+1<=sizeLine;decide,λ p' Oe=>?_⟩
  have x8:=Ext.new (o:=.lst ([v1,v2] ++ [v3])) Oe;have Nq:=x7.trans x8;refine q p' _ _ (Pd.trans Nq) ?_ aO (by show 3<=3;decide) λ v hv=>?_
  ·cases e:H p' with
   | none=>rfl
   | some o=>have:=(x7 _ _ (Pd _ _ e)).symm.trans Oe;cases this
  rcases á.mp hv with rfl | hv
  ·exact k1 Nq
  rcases á.mp hv with rfl | hv
  ·exact k2 Nq
  rw [ä.mp hv];exact⟨3,.inr (.inr rfl),λ _=>al,m3.ext ((x5.trans x6).trans Nq)⟩
def Au (C:Nat->Addr):Sp:=λ vs H Q _=>∃ r D a t zs xs b,vs=[r,.ref D,.ref a,.int b]/\MB C H r D a t zs xs/\-69<=b/\b<=69/\∀ H',Ext H H'->Q (.bl true) H'
theorem dJ {te:TE}{Q:VK}{σ:St}{ys:List Int}(ţ:ys.length<=20)(Sy:∀ R:VK,(∀ b H1,Ext H H1->H1 b=some (.lst (ys.map V.int))->R (.ref b) H1)->te σ H R)(q:∀ l H',Ext H H'->O3 H' l ys->Q (.ref l) H'):eu eS [] E0 (av te aJ) σ H Q :=
 Sy _ λ b H1 x1 hb=>⟨b,ys,rfl,hb,ţ,λ l zs H2 x2 _ hl oc=>q l H2 (x1.trans x2) ⟨zs,hl,oc⟩⟩
theorem D6 (F:Ģ K "_law_moved" "_law_moved" t3 f fd)(Z:Dq P w K mg base C MC CU CN f0 f1 f2 f3 a1 a2 e0 e1 e2 e3 d1 d2):Þ P w K mg base ay 10 f fd Gw (Au C):=by
 refine bR F Pr λ cdv A outer s H vs Q E hr h=>?_;obtain⟨r,D,a,t,zs,xs,b,rfl,h,b1,b2,q⟩:=h;refine gr (xS Z hr) ⟨?_⟩;have ţ:=h.pr.le;have OD:Bd (xs.map (· + b)):=λ y hy=>by
  obtain⟨x,hx,rfl⟩:=ê.mp hy;have:=h.nb x hx;show -99<=x+b/\x+b<=99;omega
 have pl:∀(m:Int)(H':Hp)(R:VK),R (.int (m+b)) H'->BA (some (.int m) :: [some (.int b)]) H' R:=λ m H' R k=>⟨_,rfl,_,rfl,m,b,rfl,rfl,k⟩;refine aL (te:=eu eS [] E0 (av (aj 2) aJ)) (i:=4) (dJ ţ (λ R k=>⟨_,rfl,k a H (Ext.refl _) h.ha⟩) λ l1 H1 x1 s1=>?_);refine aL (te:=eu eS [] E0 (av (cD (bn K (aj 2)) 1 [3] (aX 0) BA) aJ)) (i:=5) (dJ (ys:=xs.map (· + b)) (by rw [Ã];exact ţ) (λ R k=>fX (· + b) (cap:=[some (.int b)]) rfl (λ R k=>⟨_,rfl,k a H1 (Ext.refl _) (x1 _ _ h.ha)⟩) ţ (λ m _ H' R _ k=>pl m H' R k) λ l H' x' _ hl=>k l H' x' hl) λ l2 H2 x2 s2=>?_)
 have LW:=x1.trans x2;have h2:=h.ext LW;have TQ:=s1.ext x2;show aY (Fo K C MC CU CN) _ _ [some r,some (.ref D),some (.ref a),some (.int b),some (.ref l1),some (.ref l2),none] H2;have M5:J2 C H2 t r (xs.map (· + b)).length:=by rw [Ã];exact h2.pr
 refine fB (k:=0) (i:=0) (j:=5) (l:=l2) (xs:=xs.map (· + b)) ar (λ z=>by cases z) (λ R k=>dD k) rfl rfl M5 s2 OD λ l3 H3 x3 n3 g3=>?_
 have h3:=h2.ext x3;refine fX (· + b) (ns:=dG 0 (cg xs)) (cap:=[some (.int b)]) rfl (λ R k=>fB (k:=0) (i:=0) (j:=4) (l:=l1) (xs:=xs) ar (λ z=>by cases z) (λ R k=>dD k) rfl rfl h3.pr (TQ.ext x3) h.bd λ l4 H4 x4 n4 g4=>k l4 H4 x4 g4) (by rw [lZ];exact ţ) (λ m _ H' R _ k=>pl m H' R k) λ l5 H5 x5 n5 g5=>?_
 refine fc (ns:=(dG 0 (cg xs)).map (· + b)) (by rw [<- Jg];exact x5 _ _ g3) g5 ⟨_,rfl,cM ?_⟩
 have N0:=x3.trans x5;refine aL (te:=Bs MC 1 2) (i:=6) (wQ ar ar rfl (h2.ext N0) λ l6 vs H6 x6 n6 g6 lv kv=>?_);have NZ:=N0.trans x6;have sa:=TQ.ext NZ;have sb:=s2.ext NZ;have h6:=h2.ext NZ;have Xu:J2 C H6 t r (xs.map (· + b)).length:=by rw [Ã];exact h6.pr
 show CC K C MC CU CN _ [some r,some (.ref D),some (.ref a),some (.int b),some (.ref l1),some (.ref l2),some (.ref l6)] H6;refine⟨_,rfl,l6,rfl,⟨_,î.of g6⟩,λ D2 Ű=>?_⟩;refine fR (a:=l6) (xs:=vs) (cap:=[some (.ref l1),some (.ref l2),some r]) (λ i ys H'=>Ext H6 H'/\ys=[]) (by rw [Ô];omega) ⟨Ext.new Ű,rfl⟩ (λ i ys H' pv=>î.of (pv.1 _ _ g6)) ?_ ?_
 ·rintro i v ys H' ev ly ĉ ⟨x',rfl⟩ os į N kN;obtain⟨o0,rfl⟩:∃ o0,os=[o0]:=by
   match os,į with
   | [o0],_=>exact⟨o0,rfl⟩
  obtain⟨k,kk,al,me⟩:=kv v (Ú ev);have k0:0<k:=ak;have k4:k<4:=ak;refine⟨⟨[some v],rfl,rfl⟩,?_⟩;refine fB (k:=k) (i:=3) (j:=2) (l:=l2) (xs:=xs.map (· + b)) k4 al (λ R k=>⟨_,rfl,k v H' (Ext.refl _) (me.ext x')⟩) rfl rfl (Xu.ext x') (sb.ext x') OD λ l7 H7 x7 n7 g7=>?_;have MZ:=x'.trans x7;refine fB (k:=k) (i:=3) (j:=1) (l:=l1) (xs:=xs) k4 al (λ R k=>⟨_,rfl,k v H7 (Ext.refl _) (me.ext MZ)⟩) rfl rfl ((h6.ext MZ).pr) (sa.ext MZ) h.bd λ l8 H8 x8 n8 g8=>?_;refine fc (ns:=dG k (cg xs)) (by rw [<- Jb k0 k4 xs b λ e=>h.ev (al e)];exact x8 _ _ g7) g8 ⟨_,rfl,λ _=>?_,λ z=>by cases z⟩
  exact kN [] H8 ⟨MZ.trans x8,rfl⟩ (ģ _) ((x7.trans x8) _ _ ĉ)
 ·rintro ys H' ly ĉ ⟨x',rfl⟩;refine⟨dZ,λ c hc=>?_⟩;have xc:=Ext.new (o:=.lst []) hc;refine⟨D2,c,[],rfl,rfl,î.of (xc _ _ ĉ),î.of aO,q _ ?_⟩;exact((LW.trans NZ).trans x').trans xc
end
section
variable {P:Program}{w:World}{K:Frag}{mg:bL}{base:Heap}{C MC:Nat->Addr}{CU CN f a1 a2 f0 f1 f2 f3:Addr}{fd d1 d2 e0 e1 e2 e3:FuncData}
abbrev xI:Stmt:=bZ 75
abbrev GU:List Str:=["_law_rule_here","_law_blocks","_law_numbers_here"]
abbrev F4:List Str:=["_law_rule_here","_law_blocks","_law_numbers_here","_law_first","_law_later","_law_some","_law_one","_law_ranks"]
theorem Pm:ad F4 GU (aa xI):=aK
abbrev Ch:Scope:=cC [("_law_number",.local)]
abbrev BL:Scope:=cC [("_law_score",.local)]
abbrev EV:Scope:=cC [("_law_rank",.local),("len",.globalImplicit),("_law_numbers_here",.free)]
theorem Cq:((["_law_number"]:List Str)++([]:List Str)).Nodup:=ao
theorem BV:((["_law_score"]:List Str)++([]:List Str)).Nodup:=ao
theorem DT:((["_law_rank"]:List Str)++(["_law_numbers_here"]:List Str)).Nodup:=ao
theorem vB {X:Cx}:aT X Ch [] ["_law_number"] [] []:=fG (L:=[(".0",.local),("_law_number",.local)]) rfl rfl ao ao ao rfl ao ao
theorem vd {X:Cx}:aT X BL [] ["_law_score"] [] []:=fG (L:=[(".0",.local),("_law_score",.local)]) rfl rfl ao ao ao rfl ao ao
def Bq:TE:=aS (dH λ i j=>.int (i-j)) (tC (.int 0)) (aj 0)
def Hr (K:Frag)(i:Nat):TE:=aS (dH λ i j=>.int (i+j)) (fz K i) (tC (.int 1))
def Fp (K:Frag):TE:=aS (dH λ i j=>.int (i-j)) (aS (rI ų λ i j=>.int (i*j)) (tC (.int 2)) (Hr K 1)) (aj 0)
def FP:TS:=cG (eu eS [] E0 (av (aj 2) aJ)) (aX 3)
def G3 (K:Frag):TS:=cG (eu eS [] E0 (av (cD (bn K (aj 2)) 1 [] (aX 0) Bq) aJ)) (aX 4)
def Ge (MC:Nat->Addr):TS:=cG (Bs MC 0 2) (aX 5)
def Fc (K:Frag)(C MC:Nat->Addr)(CU CN:Addr):TS:=eI (tB (aS (jf not) (jk C MC CU CN (aj 6) 0 4) (cD (bn K (jk C MC CU CN (aj 6) 0 3)) 1 [] (aX 0) Bq))) (cH (tC (.bl false))) cB
def G1 (K:Frag)(C MC:Nat->Addr)(CU CN:Addr):TS:=lA (bn K (aj 5)) (aX 6) (Fc K C MC CU CN)
def Ie (C MC:Nat->Addr)(CU CN:Addr):TS:=cG (jk C MC CU CN (mw MC 1) 0 3) (aX 7)
def GF (K:Frag):TS:=eI (tB (aS Fy (jg (rW K) (av (aj 7) aJ)) (aS (rI ų λ i j=>.int (i*j)) (fz K 2) (Hr K 2)))) (cH (tC (.bl false))) cB
def Fq (K:Frag)(C MC:Nat->Addr)(CU CN:Addr):TS:=cH (aS (jf id) (jk C MC CU CN (mw MC 1) 0 4) (cD (bn K (aj 7)) 1 [2] (aX 0) (Fp K)))
def IR (K:Frag)(C MC:Nat->Addr)(CU CN:Addr):TS:=aY FP (aY (G3 K) (aY (Ge MC) (aY (G1 K C MC CU CN) (aY (Ie C MC CU CN) (aY (GF K) (Fq K C MC CU CN))))))
section
variable {cdv:Value}{A:Around}{outer:List Env}{s:Shared}{H:Hp}{E:XK}
theorem uo:aT (aP ay P w K mg base F4 "_law_turned" (aa xI) f cdv A outer s H E).ŀ EV [("_law_numbers_here",s.heap.objs.size+1)] ["_law_rank"] ["_law_numbers_here"] [2] :=
 c8 (M:=["_law_numbers_here"]) (L:=[(".0",.local),("_law_rank",.local),("len",.globalImplicit),("_law_numbers_here",.cell)]) rfl rfl ao ao ao rfl rfl rfl ao ao rfl rfl rfl
theorem xQ (Z:Dq P w K mg base C MC CU CN f0 f1 f2 f3 a1 a2 e0 e1 e2 e3 d1 d2)(hr:oQ 9 "_law_turned" xI A s f cdv):Bx (ż (aP ay P w K mg base F4 "_law_turned" (aa xI) f cdv A outer s H E).ŀ (aF xI) (IR K C MC CU CN)):=by
 have nd:=Pm.nd;have Ğ:ó 1 _:=hr.mono ar;have ο:ó 3 _:=hr.mono ar;have hu:=hr.units;exact ae (aM (i:=3) nd rfl (Or.inl rfl) ⟨gG Z.su.G Ğ rfl Z.su.m Z.su.kp Z.su.b .nil ag (ac (pv 2) au)⟩)
  (ae (aM (i:=4) nd rfl (Or.inl rfl) ⟨gG Z.su.G Ğ rfl Z.su.m Z.su.kp Z.su.b .nil ag (ac (bH (te:=Bq) (g:=aX 0) rfl vB (aG (pv 2)) (λ s H C fp=>by exact cA (i:=0) Cq rfl (.inl rfl)) (λ s H C fp=>by exact aA gL aI (pv 0))) au)⟩)
  (ae (aM (i:=5) nd rfl (Or.inl rfl) ⟨aA nK (bT (ac (bj Z.L.k0 Z.L.g0 ο rfl Z.L.m0 Z.L.b0 .nil ag) (ac (bj Z.L.k2 Z.L.g2 ο rfl Z.L.m2 Z.L.b2 .nil ag) au))) (aA ky (bT (ac (bj Z.L.k3 Z.L.g3 ο rfl Z.L.m3 Z.L.b3 .nil ag) au)) (aU jD rfl Z.mi b_ (ac (gG Z.ap.G Ğ rfl Z.ap.m Z.ap.kp Z.ap.b .nil ag (ac (pv 1) au)) au)))⟩)
  (ae ⟨dR ś rfl (aG (pv 5)) (cA (i:=6) nd rfl (Or.inl rfl)) (bp (bC (aB (iF hu) (aQ (pv 6) Z.sc hr cw (ac (pv 0) (ac (pv 4) au))) (bH (te:=Bq) (g:=aX 0) rfl vd (aG (aQ (pv 6) Z.sc hr cw (ac (pv 0) (ac (pv 3) au)))) (λ s H C fp=>by exact cA (i:=0) BV rfl (.inl rfl)) (λ s H C fp=>by exact aA gL aI (pv 0))) (aC _)) (bp (cZ mQ)) gj))⟩
  (ae (aM (i:=7) nd rfl (Or.inl rfl) ⟨aQ (bj Z.L.k1 Z.L.g1 ο rfl Z.L.m1 Z.L.b1 .nil ag) Z.sc hr cw (ac (pv 0) (ac (pv 3) au))⟩)
  (ae ⟨bC (aB iZ (aq (fQ rfl) rfl Z.ms š (ac (pv 7) au)) (aA c7 (aq aw rfl Z.mn è (ac (pv 2) au)) (aA bB (aq aw rfl Z.mn è (ac (pv 2) au)) aI)) (aC _)) (bp (cZ mQ)) gj⟩
  (bt (eZ ⟨dw (rM hu) (aQ (bj Z.L.k1 Z.L.g1 ο rfl Z.L.m1 Z.L.b1 .nil ag) Z.sc hr cw (ac (pv 0) (ac (pv 4) au))) (bH (te:=Fp K) (g:=aX 0) rfl uo (aG (pv 7)) (λ s H C fp=>by exact cA (i:=0) DT rfl (.inl rfl)) (λ s H C fp=>by exact aA gL (aA c7 aI (aA bB (aq aw rfl Z.mn è (ac (pv 1) au)) aI)) (pv 0))) (aC _)⟩)))))))
end
variable {H:Hp}{r:V}{D a:Addr}{t:Rl}{zs:List V}{xs:List Int}{De:cP}{u:TS}
def A8 (C:Nat->Addr):Sp:=λ vs H Q _=>∃ r D a t zs xs,vs=[r,.ref D,.ref a]/\MB C H r D a t zs xs/\∀ H',Ext H H'->Q (.bl true) H'
theorem wR {σ:St}{Q:VK}{i:Nat}(si:σ[i]?=some (some (.ref a)))(ha:H a=some (.lst (xs.map V.int)))(q:Q (.int ((xs.length:Int)+1)) H):Hr K i σ H Q:=by
 refine⟨_,si,a,_,rfl,.inl (î.of ha),_,1,rfl,rfl,?_⟩;rw [Ã];exact q
theorem Cm (F:Ģ K "_law_turned" "_law_turned" xI f fd)(Z:Dq P w K mg base C MC CU CN f0 f1 f2 f3 a1 a2 e0 e1 e2 e3 d1 d2):Þ P w K mg base ay 10 f fd GU (A8 C):=by
 refine bR F Pm λ cdv A outer s H vs Q E hr h=>?_;obtain⟨r,D,a,t,zs,xs,rfl,h,q⟩:=h;refine gr (xQ Z hr) ⟨?_⟩;have ţ:=h.pr.le;have OD:Bd (xs.map (0 - ·)):=λ y hy=>by
  obtain⟨x,hx,rfl⟩:=ê.mp hy;have:=h.nb x hx;show -99<=0-x/\0-x<=99;omega
 have ng:∀(m:Int)(H':Hp)(R:VK),R (.int (0-m)) H'->Bq (some (.int m) :: []) H' R:=λ m H' R k=>⟨_,rfl,0,m,rfl,rfl,k⟩;have sl:∀{k:Nat},k<4->(dG k (cg xs)).length=xs.length:=λ hk=>by rw [eG hk,cJ]
 refine aL (te:=eu eS [] E0 (av (aj 2) aJ)) (i:=3) (dJ ţ (λ R k=>⟨_,rfl,k a H (Ext.refl _) h.ha⟩) λ l1 H1 x1 s1=>?_);refine aL (te:=eu eS [] E0 (av (cD (bn K (aj 2)) 1 [] (aX 0) Bq) aJ)) (i:=4) (dJ (ys:=xs.map (0 - ·)) (by rw [Ã];exact ţ) (λ R k=>fX (0 - ·) (cap:=[]) rfl (λ R k=>⟨_,rfl,k a H1 (Ext.refl _) (x1 _ _ h.ha)⟩) ţ (λ m _ H' R _ k=>ng m H' R k) λ l H' x' _ hl=>k l H' x' hl) λ l2 H2 x2 s2=>?_)
 have LW:=x1.trans x2;have h2:=h.ext LW;refine aL (te:=Bs MC 0 2) (i:=5) (wQ ar ar rfl h2 λ l3 vs H3 x3 n3 g3 lv kv=>?_);have h3:=h2.ext x3;have sa:=(s1.ext x2).ext x3;have sb:=s2.ext x3;have QY:J2 C H3 t r (xs.map (0 - ·)).length:=by rw [Ã];exact h3.pr
 refine⟨_,rfl,l3,rfl,⟨_,î.of g3⟩,gv (xs:=vs) (λ i σ H'=>∃ o6,σ=[some r,some (.ref D),some (.ref a),some (.ref l1),some (.ref l2),some (.ref l3),o6,none]/\Ext H3 H') ⟨_,rfl,Ext.refl _⟩ (λ i σ H' _ pv=>î.of (pv.choose_spec.2 _ _ g3)) ?_ ?_⟩
 ·rintro i v σ H' ev ⟨o6,rfl,x'⟩;obtain⟨k,kk,al,me⟩:=kv v (Ú ev);have k1:k≠1:=ak;have k4:k<4:=ak;refine fB (k:=k) (i:=0) (j:=4) (l:=l2) (xs:=xs.map (0 - ·)) k4 al (λ R k=>⟨_,rfl,k v H' (Ext.refl _) (me.ext x')⟩) rfl rfl (QY.ext x') (sb.ext x') OD λ l7 H7 x7 n7 g7=>?_;have NY:=x'.trans x7;refine fX (0 - ·) (ns:=dG k (cg xs)) (cap:=[]) rfl (λ R kR=>fB (k:=k) (i:=0) (j:=3) (l:=l1) (xs:=xs) k4 al (λ R kk=>⟨_,rfl,kk v H7 (Ext.refl _) (me.ext NY)⟩) rfl rfl ((h3.ext NY).pr) (sa.ext NY) h.bd λ l4 H4 x4 n4 g4=>kR l4 H4 x4 g4) (by rw [sl k4];exact ţ) (λ m _ H' R _ k=>ng m H' R k) λ l8 H8 x8 n8 g8=>?_
  refine fc (ns:=(dG k (cg xs)).map (0 - ·)) (by rw [<- Jj k1 k4 xs λ e=>h.ev (al e)];exact x8 _ _ g7) g8 ⟨_,rfl,cM ?_⟩
  exact⟨some v,rfl,NY.trans x8⟩
 ·rintro σ H4 ⟨o6,rfl,x4⟩;have h4:=h3.ext x4;refine aL (te:=jk C MC CU CN (mw MC 1) 0 3) (i:=7) (fB (k:=1) (i:=0) (j:=3) (l:=l1) (xs:=xs) ar (λ z=>by cases z) (λ R k=>dD k) rfl rfl h4.pr (sa.ext x4) h.bd λ l5 H5 x5 n5 g5=>?_)
  have h5:=h4.ext x5;refine⟨_,rfl,l5,_,rfl,î.of g5,_,rfl,a,_,rfl,.inl (î.of h5.ha),?_⟩;refine wR (a:=a) (xs:=xs) rfl h5.ha ?_;rw [Ã];refine⟨_,_,rfl,rfl,.inl (by constructor <;> omega),rfl,_,rfl,?_⟩
  rw [wV,Ê rfl];refine cM ?_;show Fq K C MC CU CN _ [some r,some (.ref D),some (.ref a),some (.ref l1),some (.ref l2),some (.ref l3),o6,some (.ref l5)] H5;have Ry:=x4.trans x5;refine fB (k:=1) (i:=0) (j:=4) (l:=l2) (xs:=xs.map (0 - ·)) ar (λ z=>by cases z) (λ R k=>dD k) rfl rfl (QY.ext Ry) (sb.ext Ry) OD λ l6 H6 x6 n6 g6=>?_
  have h6:=h5.ext x6;refine fX (λ r=>2*((xs.length:Int)+1)-r) (ns:=dG 1 (cg xs)) (cap:=[some (.ref a)]) rfl (λ R k=>⟨_,rfl,k l5 H6 (Ext.refl _) (x6 _ _ g5)⟩) (by rw [sl ar];exact ţ) (λ m _ H' R x' k=>wR (a:=a) (xs:=xs) rfl (x' _ _ h6.ha) ⟨2,_,rfl,rfl,.inl (by constructor <;> omega),_,rfl,_,_,rfl,rfl,k⟩) λ l8 H8 x8 n8 g8=>?_
  refine fc (g:=id) (ns:=(dG 1 (cg xs)).map (λ r=>2*((xs.length:Int)+1)-r)) (by rw [<- Je];exact x8 _ _ g6) g8 (q _ ?_)
  exact((((LW.trans x3).trans Ry).trans x6).trans x8)
end
section
variable {P:Program}{w:World}{K:Frag}{mg:bL}{base:Heap}{C MC:Nat->Addr}{CU CN f a1 a2 a3 f0 f1 f2 f3:Addr}{fd d1 d2 d3 e0 e1 e2 e3:FuncData}
def qw (C MC:Nat->Addr)(CU CN:Addr)(tm ti tl:TE):TE:=bD (iq MC) "scores" (λ _=>jw C MC CU CN) E0 tm (av ti (av tl aJ))
theorem mZ {tm ti tl:TE}{σ:St}{H:Hp}{Q:VK}{k:Nat}{t:Rl}{r:V}{xs:List Int}(hk:k<4)(al:k=3->(fZ t).all id=true)(hm:∀ R:VK,(∀ v H1,Ext H H1->Me MC H1 k v->R v H1)->tm σ H R)(Sx:∀(H1:Hp)(R:VK),Ext H H1->R r H1->ti σ H1 R)
  (pr:J2 C H t r xs.length)(X8:∀(H1:Hp)(R:VK),Ext H H1->(∀ l H2,Ext H1 H2->O3 H2 l xs->R (.ref l) H2)->tl σ H1 R)(bd:Bd xs)(q:gu H (dG k (cg xs)) Q):qw C MC CU CN tm ti tl σ H Q:=by
 refine hm _ λ v H1 x1 me=>?_;obtain⟨o,dx,m,rfl,ho,Lo⟩:=id me;have fk:t.Ï =((cg xs).length:Nat):=by rw [cJ];exact pr.fk
 refine⟨o,MC k,_,_,rfl,⟨k,hk,rfl⟩,ho,?_,Sx H1 _ x1 (X8 H1 _ x1 λ l H2 x2 su=>?_)⟩
 ·rw [é,ã.mpr ao];rfl
 have ŋ:=x1.trans x2;have RT:=pr.ext ŋ;obtain⟨ys,hl,oc⟩:=su;refine⟨k,.ref o,r,t,l,ys,cg xs,hk,rfl,me.ext x2,RT.ru,(Rl.sm pr.ok).1,(Rl.sm pr.ok).2,hl,oc,λ o ho=>?_,by rw [cJ];exact pr.le,fk,λ _ al=>iI pr.ok pr.fl fk al,λ _ l' H3 x3 nl Mn=>?_,λ i fi=>?_⟩
 ·obtain⟨x,hx,rfl⟩:=ê.mp ho;exact bd x hx
 ·refine q l' H3 (ŋ.trans x3) ?_ Mn;cases e:H l' with
  | none=>rfl
  | some o=>rw [ŋ _ _ e] at nl;cases nl
 ·exfalso;have:=ú.mp (nB hk al) false (Ú fi.2);cases this
abbrev vt:Stmt:=bZ 76
abbrev FY (i:Nat):Stmt:=(aF vt).getD i (.Pass ⟨0,0,0,0⟩)
abbrev FO:List Str:=["_law_script","_law_pen","_law_rule_here","_law_numbers_here"]
abbrev G9:List Str:=["_law_script","_law_pen","_law_rule_here","_law_numbers_here","_law_i","_law_j","_law_other","_law_one","_law_due"]
theorem N5:ad G9 FO (aa vt):=aK
def wI (K:Frag):List V->Hp->VK->Prop:=λ xs H Q=>∃ p ys,xs=[.ref p]/\(î K H p ys\/ĝ K H p ys)/\∀ l,H l=none->Q (.ref l) (af H l (.lst ys))
def DI (K:Frag):TS:=eI (tB (aS (dH λ i j=>.bl (decide (i<j))) (fz K 3) (tC (.int 2)))) (cH (tC (.bl true))) cB
def Ek (K:Frag)(i:Nat):TS:=cG (gk K (fz K 3)) (aX i)
def GL (K:Frag):TS:=cG (jg (wI K) (av (aj 3) aJ)) (aX 6)
def Av (K:Frag)(i j:Nat):TS:=cG (aS (dP K) (aj 3) (aj j)) (qV (aj 6) (aj i) jE)
def BO (C MC:Nat->Addr)(CU CN:Addr):TS:=cG (qw C MC CU CN (aj 7) (aj 2) (eu eS [] E0 (av (aj 3) aJ))) (aX 8)
def Bh (K:Frag):TS:=cG (iE (av (aS (dP K) (aj 8) (aj 5)) (av (aS (dP K) (aj 8) (aj 4)) aJ))) (p0 K 2 (c5 (qV (aj 8) (aj 4) jE) (c5 (qV (aj 8) (aj 5) jE) mI)))
def uH (C MC:Nat->Addr)(CU CN:Addr):TS:=eI (tB (aS (jf not) (qw C MC CU CN (aj 7) (aj 2) (eu eS [] E0 (av (aj 6) aJ))) (aj 8))) (cH (tC (.bl false))) cB
def zS (K:Frag)(C MC:Nat->Addr)(CU CN:Addr):TS:=lA (bn K (bV (av (mw MC 0) (av (mw MC 1) (av (mw MC 2) aJ))))) (aX 7) (aY (BO C MC CU CN) (aY (Bh K) (uH C MC CU CN)))
def IN (K:Frag)(C MC:Nat->Addr)(CU CN:Addr):TS:=aY (DI K) (aY (Ek K 4) (aY (Ek K 5) (aY (GL K) (aY (Av K 4 5) (aY (Av K 5 4) (aY (zS K C MC CU CN) (cH (tC (.bl true)))))))))
section
variable {cdv:Value}{A:Around}{outer:List Env}{s:Shared}{H:Hp}{E:XK}
theorem HM (Z:Dq P w K mg base C MC CU CN f0 f1 f2 f3 a1 a2 e0 e1 e2 e3 d1 d2)(hr:oQ 9 "_law_exchanged" vt A s f cdv):Bx (PS (aP ay P w K mg base G9 "_law_exchanged" (aa vt) f cdv A outer s H E).ŀ (FY 6) (zS K C MC CU CN)):=by
 have nd:=N5.nd;have Ğ:ó 1 _:=hr.mono ar;have ο:ó 3 _:=hr.mono ar;have hu:=hr.units;exact⟨dR ś rfl (aG (bT (ac (bj Z.L.k0 Z.L.g0 ο rfl Z.L.m0 Z.L.b0 .nil ag) (ac (bj Z.L.k1 Z.L.g1 ο rfl Z.L.m1 Z.L.b1 .nil ag) (ac (bj Z.L.k2 Z.L.g2 ο rfl Z.L.m2 Z.L.b2 .nil ag) au))))) (cA (i:=7) nd rfl (Or.inl rfl))
  (cn (jI (i:=8) nd rfl (Or.inl rfl) (aQ (pv 7) Z.sc hr cw (ac (pv 2) (ac (gG Z.su.G Ğ rfl Z.su.m Z.su.kp Z.su.b .nil ag (ac (pv 3) au)) au))))
  (cn (dX (bK (ac (eL gF (pv 8) (pv 5)) (ac (eL gF (pv 8) (pv 4)) au))) (cr rfl (eN (fN (pv 8) (pv 4) cI) (eN (fN (pv 8) (pv 5) cI) bA))))
  (bp (bC (aB (iF hu) (aQ (pv 7) Z.sc hr cw (ac (pv 2) (ac (gG Z.su.G Ğ rfl Z.su.m Z.su.kp Z.su.b .nil ag (ac (pv 6) au)) au))) (pv 8) (aC _)) (bp (cZ mQ)) gj))))⟩
theorem zu (Z:Dq P w K mg base C MC CU CN f0 f1 f2 f3 a1 a2 e0 e1 e2 e3 d1 d2)(A1:Df P w K mg base ay 1 "_law_take" ["_law_script","_law_pen","_law_many"] (cV K) a3 d3)(hr:oQ 9 "_law_exchanged" vt A s f cdv):Bx (ż (aP ay P w K mg base G9 "_law_exchanged" (aa vt) f cdv A outer s H E).ŀ (aF vt) (IN K C MC CU CN)):=by
 have nd:=N5.nd;have Ğ:ó 1 _:=hr.mono ar;exact ae ⟨bC (aB pD (aq aw rfl Z.mn è (ac (pv 3) au)) aI (aC _)) (bp (cZ mQ)) gj⟩
  (ae (aM (i:=4) nd rfl (Or.inl rfl) ⟨cL A1 Ğ ag (ac (pv 0) (ac (pv 1) (ac (aq aw rfl Z.mn è (ac (pv 3) au)) au)))⟩)
  (ae (aM (i:=5) nd rfl (Or.inl rfl) ⟨cL A1 Ğ ag (ac (pv 0) (ac (pv 1) (ac (aq aw rfl Z.mn è (ac (pv 3) au)) au)))⟩)
  (ae (aM (i:=6) nd rfl (Or.inl rfl) ⟨aU eY rfl Z.ml ĕ (ac (pv 3) au)⟩)
  (ae ⟨dX (eL gF (pv 3) (pv 5)) (fN (pv 6) (pv 4) cI)⟩
  (ae ⟨dX (eL gF (pv 3) (pv 4)) (fN (pv 6) (pv 5) cI)⟩
  (ae (HM Z hr)
  (bt ⟨cZ mQ⟩)))))))
end
end
theorem gz (xs:List Int)(i:Nat)(x:Int):(xs.map V.int).set i (.int x)=(xs.set i x).map V.int:=by rw [NV]
theorem uI {xs:List Int}{i:Nat}(h:i<xs.length):(xs.map V.int)[i]?=some (.int (xs.getD i 0)):=by
 rw [Ì,Á h,ß,Á h];rfl
theorem ip {n i:Nat}(h:i<n):tW n (i:Int)=some i:=by
 unfold tW;rw [â ak,â ak,ô]
section
variable {P:Program}{w:World}{K:Frag}{mg:bL}{base:Heap}{C MC:Nat->Addr}{CU CN f a1 a2 a3 f0 f1 f2 f3:Addr}{fd d1 d2 d3 e0 e1 e2 e3:FuncData}{H:Hp}{r:V}{a:Addr}{t:Rl}{xs:List Int}{De:cP}{u:TS}
theorem sy {σ:St}{Q:VK}{i:Nat}(si:σ[i]?=some (some (.ref a)))(ha:H a=some (.lst (xs.map V.int)))(q:Q (.int (xs.length:Nat)) H):fz K i σ H Q:=by
 refine⟨_,si,a,_,rfl,.inl (î.of ha),?_⟩;rw [Ã];exact q
theorem xh {σ:St}(si:σ[3]?=some (some (.ref a)))(ha:H a=some (.lst (xs.map V.int)))(q1:(xs.length:Int)<2->De.rt (.bl true) H)(q2:¬ (xs.length:Int)<2->u De σ H):aY (DI K) u De σ H:=by
 refine⟨_,si,a,_,rfl,.inl (î.of ha),_,2,rfl,rfl,_,rfl,?_⟩;rw [Ã];by_cases lt:(xs.length:Int)<2
 ·rw [Ê lt];exact cU (q1 lt)
 ·rw [Í lt];exact cM (q2 lt)
theorem pC {σ:St}{Q:VK}{m n i:Nat}(sm:σ[m]?=some (some (.ref a)))(sn:σ[n]?=some (some (.int (i:Nat))))(ha:H a=some (.lst (xs.map V.int)))(hi:i<xs.length)(q:Q (.int (xs.getD i 0)) H):aS (dP K) (aj m) (aj n) σ H Q :=
 ⟨_,sm,_,sn,a,_,(i:Int),_,rfl,rfl,î.of ha,f7 (uI hi),q⟩
def wf (K:Frag)(a:Addr)(g:TG)(tb:TS)(D:cP)(σ:St)(H:Hp):Prop:=∃ W:Nat->Nat->St->Hp->Prop,(∃ m,W 0 m σ H)/\∀ i m σ H,W i m σ H ->
 ((ji K a).stop i H/\D.nx σ H)\/((ji K a).go i H/\∃ N:St->Hp->Prop,(∀ ĥ H',N ĥ H'->∃ m',m'<m/\W (i+1) m' ĥ H')/\∀ x H',(ji K a).JD i H x H'->g x σ H' λ Ĭ H2=>tb { D with nx:=N,ct:=N,bk:=D.nx } Ĭ H2)
theorem jK {b:Addr}{ys:List V}{g:TG}{tb:TS}{D:cP}{σ:St}{H:Hp}(Pv:Nat->St->Hp->Prop)(h0:Pv 0 σ H)(hl:∀ i σ H,i<=ys.length->Pv i σ H->î K H b ys)
  (hs:∀ i x σ H,ys[i]?=some x->Pv i σ H->g x σ H λ Ĭ H2=>tb { D with nx:=Pv (i+1),ct:=Pv (i+1),bk:=D.nx } Ĭ H2)(hd:∀ σ H,Pv ys.length σ H->D.nx σ H):wf K b g tb D σ H:=gv Pv h0 hl hs hd
theorem oS {te:TE}{g:TG}{tb:TS}{σ:St}(h:te σ H λ x H1=>∃ a,x=.ref a/\(∃ xs,î K H1 a xs)/\wf K a g tb { De with nx:=λ σ H=>u De σ H } σ H1):aY (lA (bn K te) g tb) u De σ H:=h
theorem ue {ta tb tc:TE}{σ:St}{Q:VK}(h:ta σ H λ v1 H1=>tb σ H1 λ v2 H2=>tc σ H2 λ v3 H3=>3<=sizeLine/\∀ p,H3 p=none->Q (.ref p) (af H3 p (.lst [v1,v2,v3]))):bV (av ta (av tb (av tc aJ))) σ H Q:=h
def AB (K:Frag)(C:Nat->Addr):Sp:=λ vs H Q _=>∃ s p ns r a t xs,vs=[.ref s,.ref p,r,.ref a]/\Sc K H s p ns/\J2 C (wo H p) t r xs.length/\wo H p a=some (.lst (xs.map V.int))/\mE xs/\∀ H',Sc K H' s p ns->Ext (wo H p) (wo H' p)->Q (.bl true) H'
theorem zA {i j k:Nat}{o0 o1 o8:Option V}{l6:Addr}{v:V}(k3:k<3)(hi:i<xs.length)(hj:j<xs.length)(pr:J2 C H t r xs.length)(ha:H a=some (.lst (xs.map V.int)))(h6:H l6=some (.lst ((jb xs i j).map V.int)))(bd:Bd xs)(me:Me MC H k v)
  (q:∀ o8 H',Ext H H'->De.nx [o0,o1,some r,some (.ref a),some (.int (i:Nat)),some (.int (j:Nat)),some (.ref l6),some v,o8] H'):aY (BO C MC CU CN) (aY (Bh K) (uH C MC CU CN)) De [o0,o1,some r,some (.ref a),some (.int (i:Nat)),some (.int (j:Nat)),some (.ref l6),some v,o8] H:=by
 have ţ:=pr.le;have k4:k<4:=ak;have n3:k=3->(fZ t).all id=true:=λ e=>by omega
 refine aL (te:=qw C MC CU CN (aj 7) (aj 2) (eu eS [] E0 (av (aj 3) aJ))) (i:=8) (mZ (k:=k) (xs:=xs) k4 n3 (λ R kk=>⟨_,rfl,kk v H (Ext.refl _) me⟩) (λ H1 R _ kk=>⟨_,rfl,kk⟩) pr (λ H1 R x1 kk=>dJ ţ (λ R k2=>⟨_,rfl,k2 a H1 (Ext.refl _) (x1 _ _ ha)⟩) kk) bd λ l8 H1 x1 n8 g8=>?_);have sl:(dG k (cg xs)).length=xs.length:=by rw [eG k4,cJ]
 show aY (Bh K) (uH C MC CU CN) De [o0,o1,some r,some (.ref a),some (.int (i:Nat)),some (.int (j:Nat)),some (.ref l6),some v,some (.ref l8)] H1;have sx:=Jf (xs:=xs) k3 hi hj;generalize dG k (cg xs)=S at g8 sl sx;have iS:i<S.length:=ak;have jS:j<S.length:=ak;refine pC (m:=8) (n:=5) (i:=j) rfl rfl g8 jS (pC (m:=8) (n:=4) (i:=i) rfl rfl g8 iS ⟨dZ,λ c hc=>?_⟩);have x2:=Ext.new (o:=.tup [.int (S.getD j 0),.int (S.getD i 0)]) hc;have gc:af H1 c (.tup [.int (S.getD j 0),.int (S.getD i 0)]) c=some (.tup [.int (S.getD j 0),.int (S.getD i 0)]):=aO;have UA:=x2 _ _ g8;generalize af H1 c (.tup [.int (S.getD j 0),.int (S.getD i 0)])=H2 at x2 gc UA ⊢;refine⟨c,_,rfl,ĝ.of gc,rfl,_,_,rfl,_,rfl,_,rfl,l8,_,(i:Int),i,rfl,rfl,UA,ip (by rw [Ã];exact iS),?_⟩
 rw [gz];refine⟨_,_,rfl,_,rfl,_,rfl,l8,_,(j:Int),j,rfl,rfl,aO,ip (by rw [Ã,Ő];exact jS),rfl,?_⟩
 rw [gz];have e3:(S.set i (S.getD j 0)).set j (S.getD i 0)=jb S i j:=rfl;rw [e3];have Ud:Kept H2 (af (af H2 l8 (.lst ((S.set i (S.getD j 0)).map V.int))) l8 (.lst ((jb S i j).map V.int))) l8:=(aR _).trans (aR _);have g9:af (af H2 l8 (.lst ((S.set i (S.getD j 0)).map V.int))) l8 (.lst ((jb S i j).map V.int)) l8=some (.lst ((jb S i j).map V.int)):=aO;generalize af (af H2 l8 (.lst ((S.set i (S.getD j 0)).map V.int))) l8 (.lst ((jb S i j).map V.int))=H3 at Ud g9 ⊢;have x3:Ext H H3:=(x1.trans x2).kp n8 Ud;show uH C MC CU CN De [o0,o1,some r,some (.ref a),some (.int (i:Nat)),some (.int (j:Nat)),some (.ref l6),some v,some (.ref l8)] H3;have OD:Bd (jb xs i j):=λ x hx=>bd x ((lO hi hj).mem_iff.mp hx);have QY:J2 C H3 t r (jb xs i j).length:=by rw [pq];exact pr.ext x3
 refine mZ (k:=k) (xs:=jb xs i j) k4 n3 (λ R kk=>⟨_,rfl,kk v H3 (Ext.refl _) (me.ext x3)⟩) (λ H1 R _ kk=>⟨_,rfl,kk⟩) QY (λ H4 R x4 kk=>dJ (by rw [pq];exact ţ) (λ R k2=>⟨_,rfl,k2 l6 H4 (Ext.refl _) (x4 _ _ (x3 _ _ h6))⟩) kk) OD λ l9 H5 x5 n9 Uz=>?_
 rw [sx] at Uz;exact⟨_,rfl,fc Uz (x5 _ _ g9) ⟨_,rfl,cM (q _ H5 (x3.trans x5))⟩⟩
theorem DW (F:Ģ K "_law_exchanged" "_law_exchanged" vt f fd)(Z:Dq P w K mg base C MC CU CN f0 f1 f2 f3 a1 a2 e0 e1 e2 e3 d1 d2)(A1:Df P w K mg base ay 1 "_law_take" ["_law_script","_law_pen","_law_many"] (cV K) a3 d3):Þ P w K mg base ay 10 f fd FO (AB K C):=by
 refine bR F N5 λ cdv A outer s H vs Q E hr h=>?_;obtain⟨sA,p,ns,r,a,t,xs,rfl,sc,pr,ha,nb,q⟩:=h;refine gr (zu Z A1 hr) ⟨?_⟩;have ţ:=pr.le;have Uv:=ai _ _ _ _ ha;refine xh (a:=a) (xs:=xs) rfl Uv (λ _=>q H sc (Ext.refl _)) λ lt=>?_;refine aL (te:=gk K (fz K 3)) (i:=4) (bI sc rfl rfl (m:=(xs.length:Nat)) (λ R k=>sy (i:=3) (a:=a) (xs:=xs) rfl Uv k) ak ak λ ri H1 i0 i1 ž k1=>?_);have xa:=aH k1;have YR:=ai _ _ _ _ (xa _ _ ha);refine aL (te:=gk K (fz K 3)) (i:=5) (bI ž rfl rfl (m:=(xs.length:Nat)) (λ R k=>sy (i:=3) (a:=a) (xs:=xs) rfl YR k) ak ak λ rj H2 j0 j1 Τ k2=>?_);have xb:=xa.trans (aH k2);have NN:=ai _ _ _ _ (xb _ _ ha);obtain⟨i,rfl⟩:∃ i:Nat,ri=(i:Int):=⟨ri.toNat,ak⟩;obtain⟨j,rfl⟩:∃ j:Nat,rj=(j:Int):=⟨rj.toNat,ak⟩;have hi:i<xs.length:=ak;have hj:j<xs.length:=ak;have M5:J2 C H2 t r xs.length:=pr.ext (xb.trans (ai _ _));refine aL (te:=jg (wI K) (av (aj 3) aJ)) (i:=6) ⟨_,rfl,a,_,rfl,.inl (î.of NN),λ l6 h6=>?_⟩;show aY (Av K 4 5) _ _ [some (.ref sA),some (.ref p),some r,some (.ref a),some (.int (i:Nat)),some (.int (j:Nat)),some (.ref l6),none,none] (af H2 l6 (.lst (xs.map V.int)));have na:a≠l6:=λ e=>by rw [<- e,NN] at h6;cases h6
 have ka:∀{X:Hp}{o:HO},X a=some (.lst (xs.map V.int))->af X l6 o a=some (.lst (xs.map V.int)):=λ e=>by rw [ah na];exact e
 refine pC (m:=3) (n:=5) (i:=j) (a:=a) (xs:=xs) rfl rfl (ka NN) hj ⟨_,rfl,_,rfl,l6,_,(i:Int),i,rfl,rfl,aO,ip (by rw [Ã];exact hi),?_⟩
 rw [gz];refine pC (m:=3) (n:=4) (i:=i) (a:=a) (xs:=xs) rfl rfl (ka (ka NN)) hi ⟨_,rfl,_,rfl,l6,_,(j:Int),j,rfl,rfl,aO,ip (by rw [Ã,Ő];exact hj),?_⟩
 rw [gz];have e3:(xs.set i (xs.getD j 0)).set j (xs.getD i 0)=jb xs i j:=rfl;rw [e3];have x3:Ext H2 (af (af (af H2 l6 (.lst (xs.map V.int))) l6 (.lst ((xs.set i (xs.getD j 0)).map V.int))) l6 (.lst ((jb xs i j).map V.int))):=λ b o e=>by
  have n:b≠l6:=λ z=>by rw [z,h6] at e;cases e
  rw [ah n,ah n,ah n];exact e
 have g6:af (af (af H2 l6 (.lst (xs.map V.int))) l6 (.lst ((xs.set i (xs.getD j 0)).map V.int))) l6 (.lst ((jb xs i j).map V.int)) l6=some (.lst ((jb xs i j).map V.int)):=aO;generalize af (af (af H2 l6 (.lst (xs.map V.int))) l6 (.lst ((xs.set i (xs.getD j 0)).map V.int))) l6 (.lst ((jb xs i j).map V.int))=H3 at x3 g6 ⊢;show aY (zS K C MC CU CN) _ _ [some (.ref sA),some (.ref p),some r,some (.ref a),some (.int (i:Nat)),some (.int (j:Nat)),some (.ref l6),none,none] H3;refine oS (ue (dD λ v0 H4 x4 m0=>dD λ v1 H5 x5 m1=>dD λ v2 H6 x6 m2=>⟨ar,λ l7 h7=>?_⟩));have x7:=Ext.new (o:=.lst [v0,v1,v2]) h7;have g7:af H6 l7 (.lst [v0,v1,v2]) l7=some (.lst [v0,v1,v2]):=aO;generalize af H6 l7 (.lst [v0,v1,v2])=H7 at x7 g7 ⊢;have NY:=((x4.trans x5).trans x6).trans x7;have kv:∀ v ∈ [v0,v1,v2],∃ k,k<3/\Me MC H7 k v:=λ v hv=>by
  rcases á.mp hv with rfl | hv
  ·exact⟨0,ar,m0.ext ((x5.trans x6).trans x7)⟩
  rcases á.mp hv with rfl | hv
  ·exact⟨1,ar,m1.ext (x6.trans x7)⟩
  rw [ä.mp hv];exact⟨2,ar,m2.ext x7⟩
 have OK:=x3.trans NY;have Xt:=M5.ext OK;have YQ:=OK _ _ NN;have YV:=NY _ _ g6;refine⟨l7,rfl,⟨_,î.of g7⟩,jK (ys:=[v0,v1,v2]) (λ _ σ H'=>∃ o7 o8,σ=[some (.ref sA),some (.ref p),some r,some (.ref a),some (.int (i:Nat)),some (.int (j:Nat)),some (.ref l6),o7,o8]/\Ext H7 H') ⟨_,_,rfl,Ext.refl _⟩ (λ _ σ H' _ pv=>î.of (pv.choose_spec.choose_spec.2 _ _ g7)) ?_ ?_⟩
 ·rintro z v σ H' ev ⟨o7,o8,rfl,x'⟩;obtain⟨k,k3,me⟩:=kv v (Ú ev);exact zA k3 hi hj (Xt.ext x') (x' _ _ YQ) (x' _ _ YV) (λ x hx=>by have:=nb x hx;omega) (me.ext x') λ o8 H8 x8=>⟨some v,o8,rfl,x'.trans x8⟩
 ·rintro σ H8 ⟨o7,o8,rfl,x8⟩;have Pb:=OK.trans x8;exact q H8 (Τ.ext Pb) (xb.trans (bo Pb p))
end
section
variable {P:Program}{w:World}{K:Frag}{mg:bL}{base:Heap}{C MC:Nat->Addr}{f S g:Addr}{fd gd:FuncData}
abbrev xX:Stmt:=az (bZ 58) 1
def oZ (MC:Nat->Addr):Sp:=λ vs H Q _=>∃ v k,vs=[v]/\k<4/\Me MC H k v/\Q (.str (jm k)) H
theorem Dj:ad ["self"] ["self"] (aa xX):=aK
theorem AY (Z:KM K MC)(F:Ģ K "word" "Measure.word" xX f fd):Þ P w K mg base ay 1 f fd ["self"] (oZ MC):=by
 refine bR F Dj λ cdv A outer s H vs Q E hr h=>?_;obtain⟨v,k,rfl,hk,⟨a,dx,m,rfl,ha,hm⟩,q⟩:=h;exact⟨_,bp (cZ (eL qS (mP (pv 0) rfl) aI)),_,rfl,a,_,dx,_,_,rfl,ha,Z.cls k hk,Z.no k hk,rfl,m,_,_,_,rfl,rfl,ĝ.of hm,f7 (j:=0) rfl,q⟩
end
structure Db (P:Program)(w:World)(K:Frag)(mg:bL)(base:Heap)(C MC:Nat->Addr)(MS CU CN CW CT CS CM CZ fW:Addr)(eW:FuncData)(h0 h1 h2 h3 h4 f0 f1 f2 f3 a1 a2 a3 a4:Addr)(z0 z1 z2 z3 z4 e0 e1 e2 e3 d1 d2 d3 d4:FuncData):Prop where
 L:Hy P w K mg base MC f0 f1 f2 f3 e0 e1 e2 e3
 R:BB P w K mg base C CZ CS CT CM h0 h1 h2 h3 h4 z0 z1 z2 z3 z4
 tk:Df P w K mg base ay 1 "_law_take" ["_law_script","_law_pen","_law_many"] (cV K) a1 d1
 pl:Df P w K mg base ay 8 "_law_plain_rule" ["_law_script","_law_pen","_law_most"] (nu K C) a2 d2
 nb:Df P w K mg base ay 2 "_law_numbers" ["_law_script","_law_pen","_law_folk_here"] (oA K) a3 d3
 su:Df P w K mg base ay 1 "_law_sure" ["_law_numbers_here"] eS a4 d4
 kW:Mk K (MC 4) fW
 gW:Þ P w K mg base (cy P w) 4 fW eW Cw (zM K MC CT CW)
 bW:Binds K eW Cw []
 mW:mg "Weighted" = some (.ref (MC 4))
 sc:bv P w K mg base (cy P w) 9 "scores" ["self","rule","outcomes"] (iq MC) (λ _=>jw C MC CU CN)
 sW:bv P w K mg base (cy P w) 9 "scores" ["self","rule","outcomes"] (λ c=>c=MC 4) (λ _=>iw C MC CU CN CW)
 wd:bv P w K mg base ay 1 "word" ["self"] (iq MC) (λ _=>oZ MC)
 Mr:Ms P w K mg base C
 N:rX K
 Y:KW K MC MS
 mM:mg "Measure" = some (.ref MS)
 mi:mg "isinstance" = none
 mr:mg "range" = none
 mn:mg "len" = none
section
variable {P:Program}{w:World}{K:Frag}{mg:bL}{base:Heap}{C MC:Nat->Addr}{MS CU CN CW CT CS CM CZ fW f h0 h1 h2 h3 h4 f0 f1 f2 f3 a1 a2 a3 a4:Addr}{fd eW z0 z1 z2 z3 z4 e0 e1 e2 e3 d1 d2 d3 d4:FuncData}
abbrev pS:Stmt:=bZ 77
abbrev tT (i:Nat):Stmt:=(aF pS).getD i (.Pass ⟨0,0,0,0⟩)
abbrev vo:List Str:=["_law_script","_law_pen","_law_rules","_law_one","_law_rule_here","_law_inner","_law_numbers_here","_law_by","_law_due","_law_first","_law_word","_law_folk_here","_law_measure","_law_found"]
theorem Lb:ad vo ["_law_script","_law_pen"] (aa pS):=aK
abbrev F7:Scope:=cC [("_law_k",.local),("_law_plain_rule",.globalImplicit),("_law_pen",.free),("_law_script",.free)]
abbrev Ic:Scope:=cC [("_law_one",.local)]
abbrev Gd:Scope:=cC [("_law_score",.local),("_law_by",.free)]
theorem Hi:((["_law_k"]:List Str)++(["_law_pen","_law_script"]:List Str)).Nodup:=ao
theorem EF:((["_law_one"]:List Str)++([]:List Str)).Nodup:=ao
theorem HU:((["_law_score"]:List Str)++(["_law_by"]:List Str)).Nodup:=ao
theorem rN {X:Cx}:aT X Ic [] ["_law_one"] [] []:=fG (L:=[(".0",.local),("_law_one",.local)]) rfl rfl ao ao ao rfl ao ao
def Ey (K:Frag)(C:Nat->Addr):TE:=eu (nu K C) [] E0 (av (aj 2) (av (aj 1) (av (tC (.int 4)) aJ)))
def Gj (K:Frag)(C:Nat->Addr):TS:=cG (cD (lJ (av (aS (dH λ i j=>.int (i+j)) (tC (.int 1)) (gk K (tC (.int 4)))) aJ)) 1 [1,0] (aX 0) (Ey K C)) (aX 2)
def DQ (K:Frag):TE:=aS (dP K) (aj 0) (tC (.int 1))
def Im (K:Frag)(C:Nat->Addr)(CT CM:Addr):TS:=cG (dC (C 3) (iu K C CT CM) [] E0 (av (cD (bn K (aj 2)) 1 [] (aX 0) (DQ K)) aJ)) (aX 4)
def Ix (K:Frag)(MC:Nat->Addr):TS:=cG (aS (dP K) (bV (av (mw MC 0) (av (mw MC 1) (av (mw MC 2) (av (mw MC 3) aJ))))) (gk K (tC (.int 4)))) (aX 5)
def Dt (K:Frag):TT:=tB (aS Fy (aS (dP K) (aj 0) (tC (.int 0))) (tC (.str "pairs")))
def FC (K:Frag)(MC:Nat->Addr):TS:=eI (ud (tB (aS uR (bD (iq MC) "word" (λ _=>oZ MC) E0 (aj 5) aJ) (tC (.str "signs")))) (tB (aS (oh K) (gh (bn K (aj 2)) 1 [] (aX 0) (Dt K) (aj 0)) (bV aJ)))) (cG (mw MC 2) (aX 5)) cB
def Iz (K:Frag)(C:Nat->Addr):TS:=cG (eu (oA K) [] E0 (av (aj 0) (av (aj 1) (av (bD (mT C) "folk" (λ _=>gQ C) E0 (aj 4) aJ) aJ)))) (aX 6)
def IF (K:Frag):TS:=cG (gk K (tC (.int 21))) (aX 7)
def En (K:Frag):TE:=Iy (EH K) (aj 6) (se (aj 9)) (se (aS (dH λ i j=>.int (i+j)) (aj 9) (aj 11)))
def E7 (K:Frag)(C MC:Nat->Addr)(CU CN:Addr):TS:=cG (aS ve (aj 8) (qw C MC CU CN (aj 5) (aj 3) (eu eS [] E0 (av (En K) aJ)))) (aX 8)
def EL:TS:=cG (aS (dH λ i j=>.int (i+j)) (aj 9) (aj 11)) (aX 9)
def Fz (K:Frag)(C MC:Nat->Addr)(CU CN:Addr):TS:=lA (bn K (aj 2)) (sP K 3 (c5 (aX 10) (c5 (aX 3) (c5 (aX 11) mI)))) (aY (E7 K C MC CU CN) EL)
def vk (C MC:Nat->Addr)(CU CN CW:Addr)(tm:TE):TE:=bD (λ c=>c=MC 4) "scores" (λ _=>iw C MC CU CN CW) E0 tm (av (aj 4) (av (eu eS [] E0 (av (aj 6) aJ)) aJ))
def Fu (K:Frag)(MC:Nat->Addr)(CT CW:Addr)(tw:TE):TE:=dC (MC 4) (zM K MC CT CW) [] E0 (av (aj 5) (av tw aJ))
def Io (K:Frag)(MC:Nat->Addr)(CT CW:Addr):TS:=cG (Fu K MC CT CW (aS mY (bV (av (tC (.int 1)) aJ)) (fz K 2))) (aX 12)
def vN (K:Frag)(C MC:Nat->Addr)(MS CU CN CW:Addr):TS:=eI (DM (qM (tB (jg (B9 K) (av (aj 12) (av (tC (.ref MS)) aJ))))) (tB (aS (jf not) (vk C MC CU CN CW (aj 12)) (aj 8)))) (cH (tC (.bl false))) cB
def AH (K:Frag)(C MC:Nat->Addr)(CU CN CT CW:Addr):TS:=cG (vk C MC CU CN CW (Fu K MC CT CW (aS mY (bV (av (aj 7) aJ)) (tC (.int 6))))) (aX 13)
def IG:TE:=aS (rI ų λ i j=>.int (i*j)) (aj 1) (aj 0)
def zw (K:Frag):TS:=cH (aS (jf id) (aj 13) (cD (bn K (aj 8)) 1 [7] (aX 0) IG))
def IZ (K:Frag)(C MC:Nat->Addr)(MS CU CN CT CM CW:Addr):TS:=aY (Gj K C) (aY (Im K C CT CM) (aY (Ix K MC) (aY (FC K MC) (aY (Iz K C) (aY (IF K) (aY (cG (bV aJ) (aX 8)) (aY (cG (tC (.int 0)) (aX 9)) (aY (Fz K C MC CU CN) (aY (Io K MC CT CW) (aY (vN K C MC MS CU CN CW) (aY (AH K C MC CU CN CT CW) (zw K))))))))))))
section
variable {cdv:Value}{A:Around}{outer:List Env}{s:Shared}{H:Hp}{E:XK}(Z:Db P w K mg base C MC MS CU CN CW CT CS CM CZ fW eW h0 h1 h2 h3 h4 f0 f1 f2 f3 a1 a2 a3 a4 z0 z1 z2 z3 z4 e0 e1 e2 e3 d1 d2 d3 d4)(hr:oQ 9 "_law_blocks_right" pS A s f cdv)
theorem zZ:aT (aP ay P w K mg base vo "_law_blocks_right" (aa pS) f cdv A outer s H E).ŀ F7 [("_law_script",s.heap.objs.size+1),("_law_pen",s.heap.objs.size+2)] ["_law_k"] ["_law_pen","_law_script"] [1,0] :=
 c8 (M:=["_law_script","_law_pen"]) (L:=[(".0",.local),("_law_k",.local),("_law_plain_rule",.globalImplicit),("_law_pen",.cell),("_law_script",.cell)]) rfl rfl ao ao ao rfl rfl rfl ao ao rfl rfl rfl
theorem yT:aT (aP ay P w K mg base vo "_law_blocks_right" (aa pS) f cdv A outer s H E).ŀ Gd [("_law_by",s.heap.objs.size+3)] ["_law_score"] ["_law_by"] [7] :=
 c8 (M:=["_law_by"]) (L:=[(".0",.local),("_law_score",.local),("_law_by",.cell)]) rfl rfl ao ao ao rfl rfl rfl ao ao rfl rfl rfl
include Z hr
theorem Gi:Bx (PS (aP ay P w K mg base vo "_law_blocks_right" (aa pS) f cdv A outer s H E).ŀ (tT 0) (Gj K C)):=by
 have Ğ:ó 1 _:=hr.mono ar;have Q8:ó 8 _:=hr.mono ar;exact⟨jU (iy:=2) (te:=Ey K C) (g:=aX 0) rfl zZ (fS rfl Z.mr (ac (aA bB aI (gG Z.tk.G Ğ rfl Z.tk.m Z.tk.kp Z.tk.b .nil ag (ac (pv 0) (ac (pv 1) (ac aI au))))) au)) (λ s H C fp=>by exact cA (i:=0) Hi rfl (.inl rfl)) (λ s H C fp=>by
   exact gG Z.pl.G Q8 rfl Z.pl.m Z.pl.kp Z.pl.b .nil ag (ac (pv 2) (ac (pv 1) (ac aI au)))) Lb.nd rfl (Or.inl rfl) rfl⟩
theorem Hl:Bx (PS (aP ay P w K mg base vo "_law_blocks_right" (aa pS) f cdv A outer s H E).ŀ (tT 3) (FC K MC)):=by
 have Ğ:ó 1 _:=hr.mono ar;have ο:ó 3 _:=hr.mono ar;have Su:=hr.JM;exact⟨bC (PW.pt (mX (aB eD (bc (pv 5) Z.wd Ğ ag) bh (aC _)) (jM (aB (kK Su) (eR (te:=aj 0) (tt:=Dt K) (g:=aX 0) rfl rN (aG (pv 2)) (λ s H C fp=>by exact cA (i:=0) EF rfl (.inl rfl)) (λ s H C fp=>by exact aB iZ (eL gF (pv 0) aI) bh (aC _)) (λ s H C fp=>by exact pv 0)) (bT au) (aC _))))) (bp (jI (i:=5) Lb.nd rfl (Or.inl rfl) (bj Z.L.k2 Z.L.g2 ο rfl Z.L.m2 Z.L.b2 .nil ag))) gj⟩
theorem Gc:Bx (PS (aP ay P w K mg base vo "_law_blocks_right" (aa pS) f cdv A outer s H E).ŀ (tT 8) (Fz K C MC CU CN)):=by
 have nd:=Lb.nd;have Ğ:ó 1 _:=hr.mono ar;exact⟨dR ś rfl (aG (pv 2)) (pR rfl (eN (cA (i:=10) nd rfl (Or.inl rfl)) (eN (cA (i:=3) nd rfl (Or.inl rfl)) (eN (cA (i:=11) nd rfl (Or.inl rfl)) bA))))
  (cn (jI (i:=8) nd rfl (Or.inl rfl) (aA nK (pv 8) (aQ (pv 5) Z.sc hr cw (ac (pv 3) (ac (gG Z.su.G Ğ rfl Z.su.m Z.su.kp Z.su.b .nil ag (ac (sC t7 (pv 6) (pO (pv 9)) (pO (aA bB (pv 9) (pv 11)))) au)) au)))))
  (bp (jI (i:=9) nd rfl (Or.inl rfl) (aA bB (pv 9) (pv 11)))))⟩
theorem DL:Bx (PS (aP ay P w K mg base vo "_law_blocks_right" (aa pS) f cdv A outer s H E).ŀ (tT 10) (vN K C MC MS CU CN CW)):=by
 have Ğ:ó 1 _:=hr.mono ar;have hu:=hr.units;exact⟨bC (PW.pt (f8 (bQ (bF (aq (lY Z.N) rfl Z.mi à (ac (pv 12) (ac (bu (v:=.ref MS) rfl Z.mM rfl) au))))) (dW (aB (iF hu) (aQ (pv 12) Z.sW hr cw (ac (pv 4) (ac (gG Z.su.G Ğ rfl Z.su.m Z.su.kp Z.su.b .nil ag (ac (pv 6) au)) au))) (pv 8) (aC _))))) (bp (cZ mQ)) gj⟩
theorem Dx:Bx (PS (aP ay P w K mg base vo "_law_blocks_right" (aa pS) f cdv A outer s H E).ŀ (tT 11) (AH K C MC CU CN CT CW)):=by
 have Ğ:ó 1 _:=hr.mono ar;have LD:ó 5 _:=hr.mono ar;exact aM (i:=13) Lb.nd rfl (Or.inl rfl) ⟨aQ (dL Z.kW Z.gW LD rfl Z.mW Z.bW .nil cw (ac (pv 5) (ac (aA ky (bT (ac (pv 7) au)) aI) au))) Z.sW hr cw (ac (pv 4) (ac (gG Z.su.G Ğ rfl Z.su.m Z.su.kp Z.su.b .nil ag (ac (pv 6) au)) au))⟩
theorem A4:Bx (ż (aP ay P w K mg base vo "_law_blocks_right" (aa pS) f cdv A outer s H E).ŀ (aF pS) (IZ K C MC MS CU CN CT CM CW)):=by
 have nd:=Lb.nd;have Ğ:ó 1 _:=hr.mono ar;have j_:ó 2 _:=hr.mono ar;have ο:ó 3 _:=hr.mono ar;have LD:ó 5 _:=hr.mono ar;have hu:=hr.units;exact ae (Gi Z hr)
  (ae (aM (i:=4) nd rfl (Or.inl rfl) ⟨dL Z.R.k3 Z.R.g3 LD rfl Z.R.m3 Z.R.b3 .nil cw (ac (bH (te:=DQ K) (g:=aX 0) rfl rN (aG (pv 2)) (λ s H C fp=>by exact cA (i:=0) EF rfl (.inl rfl)) (λ s H C fp=>by exact eL gF (pv 0) aI)) au)⟩)
  (ae (aM (i:=5) nd rfl (Or.inl rfl) ⟨eL gF (bT (ac (bj Z.L.k0 Z.L.g0 ο rfl Z.L.m0 Z.L.b0 .nil ag) (ac (bj Z.L.k1 Z.L.g1 ο rfl Z.L.m1 Z.L.b1 .nil ag) (ac (bj Z.L.k2 Z.L.g2 ο rfl Z.L.m2 Z.L.b2 .nil ag) (ac (bj Z.L.k3 Z.L.g3 ο rfl Z.L.m3 Z.L.b3 .nil ag) au))))) (gG Z.tk.G Ğ rfl Z.tk.m Z.tk.kp Z.tk.b .nil ag (ac (pv 0) (ac (pv 1) (ac aI au))))⟩)
  (ae (Hl Z hr)
  (ae (aM (i:=6) nd rfl (Or.inl rfl) ⟨gG Z.nb.G j_ rfl Z.nb.m Z.nb.kp Z.nb.b .nil ag (ac (pv 0) (ac (pv 1) (ac (bc (pv 4) Z.Mr.Ï Ğ ag) au)))⟩)
  (ae (aM (i:=7) nd rfl (Or.inr rfl) ⟨gG Z.tk.G Ğ rfl Z.tk.m Z.tk.kp Z.tk.b .nil ag (ac (pv 0) (ac (pv 1) (ac aI au)))⟩)
  (ae (aM (i:=8) nd rfl (Or.inl rfl) ⟨bT au⟩)
  (ae (aM (i:=9) nd rfl (Or.inl rfl) ⟨aI⟩)
  (ae (Gc Z hr)
  (ae (aM (i:=12) nd rfl (Or.inl rfl) ⟨dL Z.kW Z.gW LD rfl Z.mW Z.bW .nil cw (ac (pv 5) (ac (aA ky (bT (ac aI au)) (aq aw rfl Z.mn è (ac (pv 2) au))) au))⟩)
  (ae (DL Z hr)
  (ae (Dx Z hr)
  (bt (eZ ⟨dw (rM hu) (pv 13) (bH (te:=IG) (g:=aX 0) rfl yT (aG (pv 8)) (λ s H C fp=>by exact cA (i:=0) HU rfl (.inl rfl)) (λ s H C fp=>by exact aA c7 (pv 1) (pv 0))) (aC _)⟩)))))))))))))
end
end
def nj (k:Nat):List Int->List R0->List Int
 | _,[]=>[]
 | xs,r::rs=>dG k (cg (xs.take r.Ï.toNat))++nj k (xs.drop r.Ï.toNat) rs
theorem zc {xs:List Int}{s n:Nat}(h:s+n<=xs.length):fY (cg xs) (cO (s:Int) n)=cg ((xs.drop s).take n):=by
 unfold fY cO cg;rw [ý];refine List.ext_getElem (by simp;omega) λ i h1 h2=>?_
 have hi:i<n:=by simpa using h1
 simp only [List.getElem_map,List.getElem_range,Function.comp,List.getElem_take,List.getElem_drop];rw [show((s:Int)+(i:Nat)).toNat=s+i from by omega,ß,Á (by simp;omega)]
 simp
theorem oY (k:Nat)(w:Int)(xs:List Int):∀(rs:List R0)(s m:Nat),(∀ r∈rs,1<=r.Ï)->(s:Int)+(rs.map R0.Ï).sum<=(xs.length:Nat)->rs.length<=m->kA k (List.replicate m w) (bU (s:Int) (rs.map R0.Ï)) (cg xs)=(nj k (xs.drop s) rs).map (w * ·)
 | [],s,m,_,_,_=>by cases m <;> rfl
 | r::rs,s,0,_,_,hm=>by simp at hm
 | r::rs,s,m+1,h1,h2,hm=>by
  have r1:=h1 r (ì ..);have hs:0<=(rs.map R0.Ï).sum:=cE λ n hn=>by
   obtain⟨y,hy,rfl⟩:=ê.mp hn;have:=h1 y (Ø _ hy);omega
  rw [ë,ľ] at h2;obtain⟨n,en⟩:∃ n:Nat,r.Ï =(n:Int):=⟨r.Ï.toNat,ak⟩;have ih:=oY k w xs rs (s+n) m (λ y hy=>h1 y (Ø _ hy)) ak (by simpa using hm)
  have e1:kA k (List.replicate (m+1) w) (bU (s:Int) ((r::rs).map R0.Ï)) (cg xs)=(dG k (fY (cg xs) (cO (s:Int) n))).map (w * ·)++kA k (List.replicate m w) (bU (((s+n:Nat)):Int) (rs.map R0.Ï)) (cg xs):=by
   show(List.zipWith _ (cO (s:Int) r.Ï.toNat::bU ((s:Int)+r.Ï) (rs.map R0.Ï)) (w::List.replicate m w)).flatten=_;rw [List.zipWith_cons_cons,ć,en,ô,υ];rfl
  rw [e1,ih,zc ak];show _=((dG k (cg ((xs.drop s).take r.Ï.toNat))++nj k ((xs.drop s).drop r.Ï.toNat) rs).map (w * ·));rw [Î,en,ô,List.drop_drop]
theorem lg {r:R0}(h:r.a_=true):r.Ï.toNat%2=0:=by
 cases r with
 | split n k=>cases h
 | pairs n x y=>show(2*n).toNat%2=0;omega
 | ŏ n x y f=>cases h
theorem pb:∀(rs:List R0)(s:Int),(∀ r∈rs,r.a_=true)->(List.zipWith (λ (p:List Int)(r:R0)=>r.a_&&decide (p.length%2=0)) (bU s (rs.map R0.Ï)) rs).all id=true
 | [],_,_=>rfl
 | r::rs,s,h=>by
  have h1:=h r (ì ..);show((r.a_&&decide ((cO s r.Ï.toNat).length%2=0))::List.zipWith _ (bU (s+r.Ï) (rs.map R0.Ï)) rs).all id=true;rw [JB,pb rs (s+r.Ï) λ y hy=>h y (Ø _ hy),h1,dy,Ê (lg h1)];rfl
theorem uU {rs:List R0}(h:∀ r∈rs,r.a_=true):(fZ (.blocks rs)).all id=true:=pb rs 0 h
theorem vC {r:R0}(h:r.a_=true):(fZ (.one r)).all id=true:=by
 show([r.a_&&decide ((cO 0 r.Ï.toNat).length%2=0)]:List Bool).all id=true;rw [h,dy,Ê (lg h)];rfl
section
variable {P:Program}{w:World}{K:Frag}{mg:bL}{base:Heap}{C MC:Nat->Addr}{CT CM p sA:Addr}{De:cP}{u:TS}{H:Hp}{ns:List Int}
theorem Me.wo {k:Nat}{v:V}(h:Me MC H k v)(b:ĸ H p):Me MC (wo H p) k v:=by
 obtain⟨_,_,_,hp,_⟩:=b.ex;obtain⟨a,dx,m,e,ha,hm⟩:=h;exact⟨a,dx,m,e,bw (λ z=>by rw [z,hp] at ha;cases ha) ha,bw (λ z=>by rw [z,hp] at hm;cases hm) hm⟩
theorem C7 {σ:St}(s0:σ[0]?=some (some (.ref sA)))(s1:σ[1]?=some (some (.ref p)))(sc:Sc K H sA p ns)(k:∀ sv rs H',Sc K H' sA p ns->Ext (wo H p) (wo H' p)->Sv C (wo H' p) sv rs->u De (σ.set 2 (some (.ref sv))) H'):aY (Gj K C) u De σ H:=by
 refine bI sc s0 s1 (λ R r=>r) ar ar λ y H2 y0 y4 Τ k2=>⟨1,y,rfl,rfl,1+y,rfl,ak,ak,λ D hD=>?_⟩;have ec:cz [1,0] σ=[some (.ref p),some (.ref sA)]:=by unfold cz;rw [ë,ë,s0,s1];rfl
 rw [ec];have xb:=aH k2;have nD:=Τ.bx.ne hD;obtain⟨n,rfl⟩:∃ n:Nat,y=(n:Int):=⟨y.toNat,ak⟩;have en:(1+(n:Int)).toNat=n+1:=ak;rw [en];have OM:wo H p D=none:=by
  cases e:wo H p D with
  | none=>rfl
  | some o=>have:=ai _ _ _ _ (xb _ _ e);rw [hD] at this;cases this
 refine gH (lo:=0) (n:=n+1) (λ i ys H'=>Sc K H' sA p ns/\Ext (wo H p) (wo H' p)/\∃ rs,rs.length=i/\Kh (Θ C (wt H' p D)) ys rs/\∀ r∈rs,r.ok/\r.Ï <= 4) (by rw [Ô];omega) ?_ ?_ ?_
 ·have x3:=Ext.new (o:=.lst []) hD;exact⟨Τ.ext x3,xb.trans (bo x3 p),[],rfl,Kh.nil,λ r h=>nomatch h⟩
 ·rintro i ys H' hi ly ĉ ⟨JP,x',N6,lr,al,good⟩ os į R k';obtain⟨o0,rfl⟩:∃ o0,os=[o0]:=by
   match os,į with
   | [o0],_=>exact⟨o0,rfl⟩
  refine⟨⟨[_],rfl,rfl⟩,_,rfl,_,rfl,sA,p,ns,4,rfl,JP,ar,ar,λ l r H6 KQ x6 n6 row ok le=>?_⟩;have Oq:=bw nD ĉ;have Qn:H6 D=some (.lst ys):=ai _ _ _ _ (x6 _ _ Oq);have lD:l≠D:=λ e=>by rw [e,Oq] at n6;cases n6
  have x7:Ext (wt H' p D) (wt H6 p D):=aH (x6.kept D);have N7:=row.wt lD Qn;have xf:Ext (wo H p) (wo (af H6 D (.lst (ys ++ [.ref l]))) p):=λ b o e=>by
   have n1:b≠D:=λ z=>by rw [z,OM] at e;cases e
   have e2:=(x'.trans x6) _ _ e;exact bw (hW e) (by rw [ah n1];exact ai _ _ _ _ e2)
  refine k' _ H6 Qn ⟨sc.QR xf (KQ.bx.up nD),xf,N6 ++ [r],by rw [É,lr];rfl,?_,λ r' h=>?_⟩
  ·exact((al.mono λ _ _ q=>q.ext x7).app N7).mono λ _ _ q=>q.ext lU
  ·rcases ğ.mp h with h | h
   ·exact good r' h
   ·rw [ä.mp h];exact⟨ok,le⟩
 ·rintro ys H' ly ĉ ⟨JP,x',N6,lr,al,good⟩;refine k D N6 H' JP x' ⟨⟨ys,bw nD ĉ,al.mono λ _ _ q=>q.ext (ai _ _)⟩,ak,ak,λ r h=>(good r h).1,?_⟩;have:=ir (m:=4) λ r h=>(good r h).2;omega
theorem Eg {σ:St}{sv:Addr}{rs:List R0}(s2:σ[2]?=some (some (.ref sv)))(hv:Sv C (wo H p) sv rs)(k:∀ x H',Ext H H'->Ru C H' (.blocks rs) (.ref x)->u De (σ.set 4 (some (.ref x))) H'):aY (Im K C CT CM) u De σ H:=by
 obtain⟨xs,h_,al⟩:=hv.ex;have l4:=hv.l4;have lx:=al.1;refine⟨_,s2,sv,rfl,⟨xs,î.of (ai _ _ _ _ h_)⟩,λ D hD=>?_⟩;refine bz (a:=sv) (xs:=xs) (λ i ys H'=>Ext H H'/\Λ C (wo H p) (rs.take i) ys) (by rw [Ô];omega) ⟨Ext.new hD,rfl,λ i r w h=>by simp at h⟩ (λ i ys H' pv=>î.of (pv.1 _ _ (ai _ _ _ _ h_))) ?_ ?_
 ·rintro i x ys H' ex ly ĉ ⟨x',all⟩ os į R k';obtain⟨o0,rfl⟩:∃ o0,os=[o0]:=by
   match os,į with
   | [o0],_=>exact⟨o0,rfl⟩
  obtain⟨r,er,l,uu,rfl,hl,ru⟩:=al.at ex;refine⟨⟨[some (.ref l)],rfl,rfl⟩,_,rfl,l,_,_,_,rfl,rfl,î.of (x' _ _ (ai _ _ _ _ hl)),f7 (j:=1) rfl,?_⟩;refine k' _ H' ĉ ⟨aN _ x' hD,?_⟩;rw [aE er];exact lR all ru
 ·rintro ys H' ly ĉ ⟨x',all⟩;rw [lx,Õ] at all;refine λ x dx hx hd ne=>iA hx hd ne ĉ (all.ext ((ai _ _).trans x')) ⟨hv.l1,ak,hv.ok,hv.sm⟩ λ H2 x2 ru=>⟨rfl,k x H2 (x'.trans x2) ru⟩
theorem uQ {ta tb tc td:TE}{σ:St}{Q:VK}(h:ta σ H λ v1 H1=>tb σ H1 λ v2 H2=>tc σ H2 λ v3 H3=>td σ H3 λ v4 H4=>4<=sizeLine/\∀ p,H4 p=none->Q (.ref p) (af H4 p (.lst [v1,v2,v3,v4]))):bV (av ta (av tb (av tc (av td aJ)))) σ H Q:=h
theorem Ct {σ:St}(s0:σ[0]?=some (some (.ref sA)))(s1:σ[1]?=some (some (.ref p)))(sc:Sc K H sA p ns)(q:∀ v k H',k<4->Sc K H' sA p ns->Ext (wo H p) (wo H' p)->Me MC (wo H' p) k v->u De (σ.set 5 (some v)) H'):aY (Ix K MC) u De σ H:=by
 refine aL (te:=aS (dP K) _ (gk K (tC (.int 4)))) (i:=5) (fF (uQ (dD λ v0 H1 x1 m0=>dD λ v1 H2 x2 m1=>dD λ v2 H3 x3 m2=>dD λ v3 H4 x4 m3=>⟨ar,λ l hl=>?_⟩)));have x5:=Ext.new (o:=.lst [v0,v1,v2,v3]) hl;have g5:af H4 l (.lst [v0,v1,v2,v3]) l=some (.lst [v0,v1,v2,v3]):=aO;generalize af H4 l (.lst [v0,v1,v2,v3])=H5 at x5 g5 ⊢;have Pe:=(((x1.trans x2).trans x3).trans x4).trans x5;have LA:=sc.ext Pe;have nl:l≠p:=λ e=>by
  obtain⟨_,_,_,hp,_⟩:=sc.bx.ex;have:=((((x1.trans x2).trans x3).trans x4)) _ _ hp;rw [<- e,hl] at this;cases this
 refine bI LA s0 s1 (λ R r=>r) ar ar λ y H6 y0 y4 KQ k6=>?_;have g6:=k6 _ _ g5 nl;have xa:Ext (wo H p) (wo H6 p):=(bo Pe p).trans (aH k6);have mm:∀{k:Nat}{v:V},Me MC H5 k v->Me MC (wo H6 p) k v:=λ h=>(h.wo LA.bx).ext (aH k6);obtain⟨n,rfl⟩:∃ n:Nat,y=(n:Int):=⟨y.toNat,ak⟩;have hn:n<4:=ak
 match n,hn with
 | 0,_=>exact⟨l,_,0,v0,rfl,rfl,î.of g6,f7 (j:=0) rfl,q v0 0 H6 ar KQ xa (mm (m0.ext (((x2.trans x3).trans x4).trans x5)))⟩
 | 1,_=>exact⟨l,_,1,v1,rfl,rfl,î.of g6,f7 (j:=1) rfl,q v1 1 H6 ar KQ xa (mm (m1.ext ((x3.trans x4).trans x5)))⟩
 | 2,_=>exact⟨l,_,2,v2,rfl,rfl,î.of g6,f7 (j:=2) rfl,q v2 2 H6 ar KQ xa (mm (m2.ext (x4.trans x5)))⟩
 | 3,_=>exact⟨l,_,3,v3,rfl,rfl,î.of g6,f7 (j:=3) rfl,q v3 3 H6 ar KQ xa (mm (m3.ext x5))⟩
end
theorem uZ (xs:List Int){s n:Nat}(h:s+n<=xs.length):qv (xs.map V.int) (some (s:Int)) (some ((s:Int)+(n:Nat)))=((xs.drop s).take n).map V.int:=by
 have e:((s:Int)+(n:Nat))=((s+n:Nat):Int):=ak;unfold qv;rw [e,HT.KS,HT.KS,Ã,Nat.min_eq_left h,Nat.min_eq_left (show s<=xs.length by omega),MW,List.map_drop,Nat.add_sub_cancel_left]
theorem jN {k:Nat}(hk:k<4):∀(rs:List R0)(xs:List Int),(nj k xs rs).length<=xs.length
 | [],xs=>ģ _
 | r::rs,xs=>by
  have ih:=jN hk rs (xs.drop r.Ï.toNat);rw [Kq] at ih;show(dG k (cg (xs.take r.Ï.toNat))++nj k (xs.drop r.Ï.toNat) rs).length<=_;rw [É,eG hk,cJ,Ď];omega
abbrev sB (sA p sv:Addr)(o3:Option V)(rv v:V)(o6 o7 o8 o9 Jt JQ Lc KY:Option V):St:=[some (.ref sA),some (.ref p),some (.ref sv),o3,some rv,some v,o6,o7,o8,o9,Jt,JQ,Lc,KY]
section
variable {P:Program}{w:World}{K:Frag}{mg:bL}{base:Heap}{C MC:Nat->Addr}{CU CN p sA sv:Addr}{De:cP}{u:TS}{H:Hp}{ns:List Int}{rs:List R0}{o3 o6 o7 o8 o9 Jt JQ Lc KY:Option V}{rv v:V}{k:Nat}
theorem EG (b:ĸ H p)(hk:k<4)(hv:Sv C (wo H p) sv rs)(me:Me MC (wo H p) k v)(q:∀ v' k' H',k'<4->(k'=3->∀ r∈rs,r.a_=true)->Ext H H'->Me MC (wo H' p) k' v'->u De (sB sA p sv o3 rv v' o6 o7 o8 o9 Jt JQ Lc KY) H'):aY (FC K MC) u De (sB sA p sv o3 rv v o6 o7 o8 o9 Jt JQ Lc KY) H:=by
 have T9:=me.ext (ai H p);refine dB ao hk T9 (λ R r=>⟨_,rfl,r⟩) ⟨v,k,rfl,hk,T9,rfl,_,rfl,?_⟩;have wd:decide (V.str (jm k)=V.str "signs")=decide (k=3):=by
  match k,hk with
  | 0,_=>decide +kernel
  | 1,_=>decide +kernel
  | 2,_=>decide +kernel
  | 3,_=>decide +kernel
 rw [wd];by_cases k3:k=3
 ·rw [Ê k3];refine cU ?_;obtain⟨xs,h_,al⟩:=hv.ex;have l4:=hv.l4;have lx:=al.1;refine⟨_,rfl,sv,rfl,⟨xs,î.of (ai _ _ _ _ h_)⟩,λ D hD=>?_⟩;refine fR (a:=sv) (xs:=xs) (cap:=[]) (λ i ys H'=>Ext H H'/\ys.isEmpty=((rs.take i).map R0.a_).all id) (by rw [Ô];omega) ⟨Ext.new hD,rfl⟩ (λ i ys H' pv=>î.of (pv.1 _ _ (ai _ _ _ _ h_))) ?_ ?_
  ·rintro i x ys H' ex ly ĉ ⟨x',ee⟩ os į N kN;obtain⟨o0,rfl⟩:∃ o0,os=[o0]:=by
    match os,į with
    | [o0],_=>exact⟨o0,rfl⟩
   obtain⟨r,er,l,uu,rfl,hl,ru⟩:=al.at ex;have et:((rs.take (i+1)).map R0.a_).all id=(((rs.take i).map R0.a_).all id&&r.a_):=by
    rw [aE er,Î,List.all_append];simp
   refine⟨⟨[some (.ref l)],rfl,rfl⟩,_,rfl,l,_,_,_,rfl,rfl,î.of (x' _ _ (ai _ _ _ _ hl)),f7 (j:=0) rfl,rfl,_,rfl,?_⟩;rw [r.Kt];refine⟨λ z=>kN ys H' ⟨x',?_⟩ ak ĉ,λ z=>⟨_,rfl,ĉ,kN _ _ ⟨aN _ x' hD,?_⟩ (by rw [É];show ys.length+1<=i+1;omega) aO⟩⟩
   ·have z:r.a_=true:=by simpa using z
    rw [et,z,ee];simp
   ·have z:r.a_=false:=by simpa using z
    rw [et,z];simp
  ·rintro ys H' ly ĉ ⟨x',ee⟩;rw [lx,Õ] at ee;refine⟨dZ,λ c hc=>?_⟩;have x2:=Ext.new (o:=.lst []) hc;have xx:=x'.trans x2;refine⟨D,c,ys,rfl,rfl,î.of (x2 _ _ ĉ),î.of aO,_,rfl,?_⟩;rw [ee];generalize af H' c (.lst [])=H2 at x2 xx ⊢;cases al:(rs.map R0.a_).all id with
   | true =>
    refine cM (q v k H2 hk (λ _ r hr=>?_) xx (me.ext (bo xx p)));exact ú.mp al _ (ê.mpr ⟨r,hr,rfl⟩)
   | false =>
    refine cU ?_;refine dD (MC:=MC) (k:=2) λ v' H3 x3 m3=>?_;exact q v' 2 H3 ar (λ z=>by cases z) (xx.trans x3) (m3.wo ((b.ext xx).ext x3))
 ·rw [Í k3];exact cM (cM (q v k H hk (λ z=>absurd z k3) (Ext.refl _) me))
theorem zV (sc:Sc K H sA p ns)(hv:Sv C (wo H p) sv rs)(ru:Ru C (wo H p) (.blocks rs) rv)(q:∀ a xs y H',Sc K H' sA p ns->Ext (wo H p) (wo H' p)->wo H' p a=some (.lst (xs.map V.int))->((xs.length:Nat):Int)=(rs.map R0.Ï).sum->mE xs->0<=y->y<=20->u De (sB sA p sv o3 rv v (some (.ref a)) (some (.int y)) o8 o9 Jt JQ Lc KY) H') :
  aY (Iz K C) (aY (IF K) u) De (sB sA p sv o3 rv v o6 o7 o8 o9 Jt JQ Lc KY) H:=by
 have s0:0<=(rs.map R0.Ï).sum:=cE λ n hn=>by
  obtain⟨r',LF,rfl⟩:=ê.mp hn;have:=R0.Ą (hv.ok r' LF);omega
 have RH:=hv.sm;obtain⟨n,en⟩:∃ n:Nat,(rs.map R0.Ï).sum=(n:Int):=⟨(rs.map R0.Ï).sum.toNat,ak⟩;have Py:=ru.ext (ai H p);refine aL (te:=eu (oA K) [] E0 (av (aj 0) (av (aj 1) (av (bD (mT C) "folk" (λ _=>gQ C) E0 (aj 4) aJ) aJ)))) (i:=6) ⟨_,rfl,_,rfl,bO (t:=.blocks rs) ao Py (λ R r=>⟨_,rfl,r⟩) ⟨rv,.blocks rs,rfl,Py,sA,p,ns,n,?_,sc,ak,λ a xs H1 ž x1 n1 h1 lx nb=>?_⟩⟩
 ·show [V.ref sA,.ref p,.int ((rs.map R0.Ï).sum)]=_;rw [en]
 refine aL (te:=gk K (tC (.int 21))) (i:=7) (bI ž rfl rfl (λ R r=>r) ar ar λ y H2 y0 y1 Τ k2=>?_);have x2:=aH k2;exact q a xs y H2 Τ (x1.trans x2) (x2 _ _ h1) (by rw [lx,en]) nb y0 ak
theorem Cb {a d0:Addr}{xr:List V}{xs:List Int}{y:V}(hk:k<4)(h3:k=3->∀ r∈rs,r.a_=true)(h_:H sv=some (.lst xr))(al:Kh (Θ C H) xr rs)(ok:∀ r∈rs,r.ok)(me:Me MC H k v)(ha:H a=some (.lst (xs.map V.int)))(nb:mE xs)(lx:((xs.length:Nat):Int)=(rs.map R0.Ï).sum)(ţ:xs.length<=20)(hd:H d0=some (.lst []))
  (q:∀ d o3 o9 Jt JQ H',Ext H H'->H' d=some (.lst ((nj k xs rs).map V.int))->u De (sB sA p sv o3 rv v (some (.ref a)) (some y) (some (.ref d)) o9 Jt JQ Lc KY) H') :
  aY (Fz K C MC CU CN) u De (sB sA p sv o3 rv v (some (.ref a)) (some y) (some (.ref d0)) (some (.int 0)) Jt JQ Lc KY) H:=by
 have lr:=al.1;refine oS (te:=aj 2) ⟨_,rfl,sv,rfl,⟨_,î.of h_⟩,jK (ys:=xr) (λ i σ H'=>∃ o3 Jt JQ d acc pre,σ = sB sA p sv o3 rv v (some (.ref a)) (some y) (some (.ref d)) (some (.int ((pre:Nat):Int))) Jt JQ Lc KY/\Ext H H'/\H' d=some (.lst (acc.map V.int))/\acc++nj k (xs.drop pre) (rs.drop i)=nj k xs rs/\((pre:Nat):Int)+((rs.drop i).map R0.Ï).sum=(xs.length:Nat)) ⟨o3,Jt,JQ,d0,[],0,rfl,Ext.refl _,hd,rfl,by rw [List.drop_zero,<- lx];omega⟩ ?_ ?_ ?_⟩
 ·rintro i σ H' _ ⟨_,_,_,_,_,_,rfl,x',_⟩;exact î.of (x' _ _ h_)
 ·rintro i x σ H' ex ⟨o3,Jt,JQ,d,acc,pre,rfl,x',NM,ea,es⟩;obtain⟨r,er,l,uu,rfl,hl,ru⟩:=al.at ex;have hr:=Ú er;have OO:=R0.Ą (ok r hr);obtain⟨n,en⟩:∃ n:Nat,r.Ï =(n:Int):=⟨r.Ï.toNat,ak⟩;have li:i<rs.length:=(Æ.mp er).1;have UE:rs.drop i=r::rs.drop (i+1):=by
   rw [List.drop_eq_getElem_cons li];rw [Á li] at er;rw [Ý er]
  have s0:0<=((rs.drop (i+1)).map R0.Ï).sum:=cE λ n hn=>by
   obtain⟨r',LF,rfl⟩:=ê.mp hn;have:=R0.Ą (ok r' (List.mem_of_mem_drop LF));omega
  rw [UE,ë,ľ,en] at es;have Yh:pre+n<=xs.length:=ak;refine⟨l,_,rfl,î.of (x' _ _ hl),rfl,_,_,rfl,_,_,rfl,_,_,rfl,rfl,?_⟩;show aY (E7 K C MC CU CN) EL _ (sB sA p sv (some uu) rv v (some (.ref a)) (some y) (some (.ref d)) (some (.int ((pre:Nat):Int))) (some (.str r.word)) (some (.int r.Ï)) Lc KY) H';have le:((xs.drop pre).take n).length=n:=by rw [Ď,Kq];omega
  have pr:J2 C H' (.one r) uu ((xs.drop pre).take n).length:=⟨ru.ext x',ok r hr,trivial,by rw [le];exact en⟩
  refine aL (te:=aS ve (aj 8) (qw C MC CU CN (aj 5) (aj 3) (eu eS [] E0 (av (En K) aJ)))) (i:=8) (fF ⟨_,rfl,mZ (k:=k) (t:=.one r) (xs:=(xs.drop pre).take n) hk (λ e=>vC (h3 e r hr)) (λ R kk=>⟨_,rfl,kk v H' (Ext.refl _) (me.ext x')⟩) (λ H1 R _ kk=>⟨_,rfl,kk⟩) pr (λ H1 R x1 kk=>dJ (by rw [le];omega) (λ R k2=>?_) kk) (λ z hz=>?_) λ l8 H1 x1 n8 g8=>?_⟩)
  ·refine⟨_,rfl,_,rfl,_,rfl,_,rfl,_,rfl,_,_,rfl,rfl,_,rfl,a,_,rfl,î.of (x1 _ _ (x' _ _ ha)),λ c hc=>k2 c _ (Ext.new hc) ?_⟩;rw [en,uZ xs Yh];exact aO
  ·have:=nb z (List.mem_of_mem_drop (Ů hz));omega
  have sl:=eG hk (cg ((xs.drop pre).take n));rw [cJ,le] at sl;have eb:nj k (xs.drop pre) (rs.drop i)=dG k (cg ((xs.drop pre).take n))++nj k (xs.drop (pre+n)) (rs.drop (i+1)):=by
   rw [UE];show dG k (cg ((xs.drop pre).take r.Ï.toNat))++nj k ((xs.drop pre).drop r.Ï.toNat) (rs.drop (i+1))=_;rw [en,ô,List.drop_drop]
  rw [eb] at ea;have la:acc.length+n<=20:=by
   have z:=Ĕ List.length ea;have:=jN hk rs xs;rw [É,É,sl] at z;omega
  refine⟨d,l8,_,_,rfl,rfl,x1 _ _ NM,g8,by rw [Ã,Ã,sl,Ô];omega,λ c hc=>?_⟩
  have x2:=Ext.new (o:=.lst (acc.map V.int++(dG k (cg ((xs.drop pre).take n))).map V.int)) hc;have g2:af H1 c (.lst (acc.map V.int++(dG k (cg ((xs.drop pre).take n))).map V.int)) c=some (.lst ((acc++dG k (cg ((xs.drop pre).take n))).map V.int)):=by rw [Î];exact aO
  generalize af H1 c (.lst (acc.map V.int++(dG k (cg ((xs.drop pre).take n))).map V.int))=H2 at x2 g2 ⊢;refine⟨_,rfl,_,rfl,_,_,rfl,rfl,some uu,some (.str r.word),some (.int r.Ï),c,_,pre+n,?_,(x'.trans x1).trans x2,g2,by rw [J'];exact ea,ak⟩
  show sB sA p sv (some uu) rv v (some (.ref a)) (some y) (some (.ref c)) (some (.int ((pre:Int)+r.Ï))) (some (.str r.word)) (some (.int r.Ï)) Lc KY=_;rw [en,υ]
 ·rintro σ H' ⟨o3,Jt,JQ,d,acc,pre,rfl,x',NM,ea,es⟩;rw [lr,List.drop_length] at ea;have ea:acc=nj k xs rs:=by rw [<- ea];exact(Ę acc).symm
  rw [ea] at NM;exact q d _ _ _ _ H' x' NM
end
theorem sd {t:Rl}(fl:t.flat)(al:(fZ t).all id=true):∀ p∈t.parts,p.length%2=0:=by
 intro p hp;obtain⟨i,hi,e⟩:=Ġ hp;have lb:=iJ fl;have hb:i<t.base.length:=ak;have z:(fZ t)[i]?=some (t.base[i].a_&&decide (p.length%2=0)):=by
  unfold fZ;rw [List.getElem?_zipWith,Á hi,Á hb,e]
 have y:=ú.mp al _ (Ú z);exact ē (Bool.and_eq_true_iff.mp y).2
theorem iG {t:Rl}(ok:t.ok)(fl:t.flat):t.parts.flatten=cO 0 t.Ï.toNat:=by
 obtain⟨ns,h1,e,es⟩:=iC ok fl;rw [e,gR ns 0 h1,es]
theorem rC (m:Nat)(w:Int):(List.replicate m [V.int w]).flatten=(List.replicate m w).map V.int:=by
 induction m with
 | zero=>rfl
 | succ m ih=>rw [ı,ć,ih];rfl
theorem vV (l:List Int):l.map (1 * ·)=l:=by
 have:∀ x:Int,1*x=x:=Int.one_mul;rw [show(λ x:Int=>1*x) = λ x=>x from funext this];exact List.map_id l
section
variable {P:Program}{w:World}{K:Frag}{mg:bL}{base:Heap}{C MC:Nat->Addr}{MS CU CN CW CT CS CM CZ fW f h0 h1 h2 h3 h4 f0 f1 f2 f3 a1 a2 a3 a4:Addr}{fd eW z0 z1 z2 z3 z4 e0 e1 e2 e3 d1 d2 d3 d4:FuncData}{De:cP}{u:TS}{H:Hp}{k:Nat}{v:V}{ws:List Int}{σ:St}{Q:VK}
theorem wP {tw:TE}(s5:σ[5]?=some (some v))(hk:k<4)(me:Me MC H k v)(wk:Bu ws)(OY:∀ R:VK,(∀ hd H1,Ext H H1->H1 hd=some (.lst (ws.map V.int))->R (.ref hd) H1)->tw σ H R)(q:∀ x H',Ext H H'->Wm MC H' k ws (.ref x)->Q (.ref x) H'):Fu K MC CT CW tw σ H Q:=by
 refine⟨_,s5,OY _ λ hd H1 x1 g1=>λ x dx hx Om ne=>?_⟩;have xe:=dE (u:=.own x) (v:=.ins (MC 4) dx []) hx Om ne;refine⟨x,v,.ref hd,dx,H1,rfl,aO,xe,hx,.inr ⟨k,hk,me.ext x1,.inr (.inr ⟨hd,ws,rfl,g1,wk,λ H3 kp wm=>⟨rfl,?_⟩⟩)⟩⟩;exact q x H3 (x1.trans (xe.kp hx kp)) wm
theorem sZ {tn:TE}{x:V}{wt:Int}{te:TE}{n:Nat}(n6:n<=6)(Sy:∀(H1:Hp)(R:VK),R (.int wt) H1->te σ H1 R)(X7:∀(H1:Hp)(R:VK),Ext H H1->R (.int (n:Nat)) H1->tn σ H1 R)(q:∀ hd H1,Ext H H1->H1 hd=some (.lst ((List.replicate n wt).map V.int))->Q (.ref hd) H1):aS mY (bV (av te aJ)) tn σ H Q:=by
 refine fF (pJ (Sy _ _ ⟨ar,λ l hl=>?_⟩));have x1:=Ext.new (o:=.lst [V.int wt]) hl;have g1:af H l (.lst [V.int wt]) l=some (.lst [V.int wt]):=aO;refine X7 _ _ x1 ⟨l,(n:Int),_,rfl,rfl,g1,ak,ak,?_,λ c hc=>q c _ (x1.trans (Ext.new hc)) ?_⟩
 ·rw [Ô];show 1*((n:Int)).toNat<=_;omega
 ·rw [ô,rC];exact aO
theorem tS {tm:TE}{t:Rl}{r:V}{a:Addr}{xs:List Int}(hk:k<4)(al:k=3->(fZ t).all id=true)(hm:∀ R:VK,(∀ v H1,Ext H H1->Wm MC H1 k ws v->R v H1)->tm σ H R)(s4:σ[4]?=some (some r))(s6:σ[6]?=some (some (.ref a)))(pr:J2 C H t r xs.length)(ha:H a=some (.lst (xs.map V.int)))(nb:mE xs)(wk:Bu ws)(lw:t.parts.length<=ws.length)
  (q:gu H (kA k ws t.parts (cg xs)) Q):vk C MC CU CN CW tm σ H Q:=by
 refine hm _ λ v H1 x1 wm=>?_;have ţ:=pr.le;refine(i8 (ta:=λ _ H Q=>Q v H) (σ:=σ) ao wm (λ R r=>r) ?_:bD (λ c=>c=MC 4) "scores" (λ _=>iw C MC CU CN CW) E0 (λ _ H Q=>Q v H) (av (aj 4) (av (eu eS [] E0 (av (aj 6) aJ)) aJ)) σ H1 Q);refine⟨_,s4,dJ ţ (λ R k=>⟨_,s6,k a H1 (Ext.refl _) (x1 _ _ ha)⟩) λ l H2 x2 su=>?_⟩;have ŋ:=x1.trans x2;have M5:=pr.ext ŋ;obtain⟨ys,hl,oc⟩:=su;have fk:t.Ï =((cg xs).length:Nat):=by rw [cJ];exact pr.fk
 have fla:t.parts.flatten=cO 0 xs.length:=by rw [iG pr.ok pr.fl,pr.fk,ô]
 have bd:∀ o∈cg xs,-99<=o.1/\o.1<=99:=λ o ho=>by
  obtain⟨x,hx,rfl⟩:=ê.mp ho;have:=nb x hx;show -99<=x/\x<=99;omega
 refine⟨k,ws,v,r,t,l,cg xs,hk,rfl,wm.ext x2,M5.ru,fk,⟨ys,hl,oc⟩,λ Z6=>?_,bd,(Rl.sm pr.ok).1,(Rl.sm pr.ok).2,wk.2.1,λ lt=>absurd lt ak,λ _=>⟨λ _ l' H3 x3 nl Mn=>?_,λ i fi=>?_⟩⟩
 ·refine⟨⟨ys,hl,oc⟩,bd,by rw [cJ];exact ţ,(Rl.sm pr.ok).1,(Rl.sm pr.ok).2,by rw [fla,dy];exact ţ,λ p hp i hi=>?_,λ e=>sd pr.fl (Z6 e),wk⟩
  have m:i∈t.parts.flatten:=List.mem_flatten.mpr ⟨p,hp,hi⟩;rw [fla] at m;obtain⟨j,hj,e⟩:=Ġ m;rw [dy] at hj;have z:=vR (s:=0) hj;rw [Á (by rw [dy];exact hj),e] at z
  have z:=Ý z;rw [cJ];omega
 ·refine q l' H3 (ŋ.trans x3) ?_ Mn;cases e:H l' with
  | none=>rfl
  | some o=>rw [ŋ _ _ e] at nl;cases nl
 ·exfalso;have:=ú.mp (nB hk al) false (Ú fi.2);cases this
theorem ii {m:Nat}{y:Int}(h1:1<=m)(h6:m<=6)(y0:0<=y)(MG:y<=20):Bu (List.replicate m y):=by
 refine⟨by rw [Ù];exact h1,by rw [Ù];exact h6,λ n hn=>?_⟩
 rw [(List.mem_replicate.mp hn).2];exact⟨y0,MG⟩
def AO (K:Frag):Sp:=λ vs H Q _=>∃ s p ns,vs=[.ref s,.ref p]/\Sc K H s p ns/\∀ H',Sc K H' s p ns->Ext (wo H p) (wo H' p)->Q (.bl true) H'
theorem Fd {sA p sv a d:Addr}{rs:List R0}{xr:List V}{xs:List Int}{y:Int}{rv:V}{o3 o9 Jt JQ Lc KY:Option V}(Y:KW K MC MS)(hk:k<4)(h3:k=3->∀ r∈rs,r.a_=true)(h_:H sv=some (.lst xr))(lr:xr.length=rs.length)(pr:J2 C H (.blocks rs) rv xs.length)(me:Me MC H k v)(ha:H a=some (.lst (xs.map V.int)))(nb:mE xs)(y0:0<=y)(MG:y<=20)(hd:H d=some (.lst ((nj k xs rs).map V.int)))
  (q:∀ H',Ext H H'->De.rt (.bl true) H'):aY (Io K MC CT CW) (aY (vN K C MC MS CU CN CW) (aY (AH K C MC CU CN CT CW) (zw K))) De (sB sA p sv o3 rv v (some (.ref a)) (some (.int y)) (some (.ref d)) o9 Jt JQ Lc KY) H:=by
 obtain⟨r1,r6,OO,rsm⟩:=pr.ok;have al:k=3->(fZ (.blocks rs)).all id=true:=λ e=>uU (h3 e);have ţ:=pr.le;have pl:(Rl.blocks rs).parts.length=rs.length:=by
  have:=Ĕ List.length (iO (t:=.blocks rs) pr.ok pr.fl);rw [Ã] at this;rw [<- this];exact mH rs
 have ws:∀(w:Int)(m:Nat),rs.length<=m->kA k (List.replicate m w) (Rl.blocks rs).parts (cg xs)=(nj k xs rs).map (w * ·):=λ w m hm =>
  oY k w xs rs 0 m (λ r hr=>(R0.Ą (OO r hr)).1) (by have:=pr.fk;show(0:Int)+(rs.map R0.Ï).sum<=_;have e:(Rl.blocks rs).Ï =(rs.map R0.Ï).sum:=rfl;omega) hm
 refine aL (te:=Fu K MC CT CW (aS mY (bV (av (tC (.int 1)) aJ)) (fz K 2))) (i:=12) (wP (k:=k) (ws:=List.replicate rs.length 1) rfl hk me (ii r1 r6 ar ar) (λ R kk=>sZ (x:=.ą) (n:=rs.length) r6 (λ H1 R r=>r) (λ H1 R x1 r=>⟨_,rfl,sv,xr,rfl,.inl (î.of (x1 _ _ h_)),by rw [lr];exact r⟩) kk) λ x H1 x1 wm=>?_)
 show aY (vN K C MC MS CU CN CW) _ _ (sB sA p sv o3 rv v (some (.ref a)) (some (.int y)) (some (.ref d)) o9 Jt JQ (some (.ref x)) KY) H1;obtain⟨x',dx,i,tt,m,rr,e,hx,_,_,_,_⟩:=id wm;cases e;refine⟨_,rfl,_,MS,_,true,rfl,.inl (.ins hx Y.cls (Y.ha 4 ar) Y.hn Y.Kg (Y.hm 4 ar)),Y.kM 4 ar,_,rfl,?_⟩;refine cM ?_;refine fF (tS (k:=k) (ws:=List.replicate rs.length 1) (t:=.blocks rs) (r:=rv) (a:=a) (xs:=xs) hk al (λ R kk=>⟨_,rfl,kk _ H1 (Ext.refl _) wm⟩) rfl rfl (pr.ext x1) (x1 _ _ ha) nb (ii r1 r6 ar ar) (by rw [pl,Ù];exact Ç _) λ l2 H2 x2 n2 g2=>?_)
 rw [ws 1 rs.length (Ç _),vV] at g2;have LW:=x1.trans x2;refine⟨_,rfl,fc g2 (LW _ _ hd) ⟨_,rfl,cM ?_⟩⟩;refine aL (te:=vk C MC CU CN CW (Fu K MC CT CW (aS mY (bV (av (aj 7) aJ)) (tC (.int 6))))) (i:=13) (tS (k:=k) (ws:=List.replicate 6 y) (t:=.blocks rs) (r:=rv) (a:=a) (xs:=xs) hk al (λ R kk=>wP (k:=k) (ws:=List.replicate 6 y) rfl hk (me.ext LW) (ii ar ar y0 MG) (λ R kk=>sZ (x:=.ą) (n:=6) ar (λ H1 R r=>⟨_,rfl,r⟩) (λ H1 R x1 r=>r) kk) λ x H' x' wm=>kk _ H' x' wm) rfl rfl (pr.ext LW) (LW _ _ ha) nb (ii ar ar y0 MG) (by rw [pl,Ù];exact r6) λ l3 H3 x3 n3 g3=>?_)
 rw [ws y 6 r6] at g3;have QQ:=LW.trans x3;show zw K _ (sB sA p sv o3 rv v (some (.ref a)) (some (.int y)) (some (.ref d)) o9 Jt JQ (some (.ref x)) (some (.ref l3))) H3;refine⟨_,rfl,fX (y * ·) (ns:=nj k xs rs) (cap:=[some (.int y)]) rfl (λ R kk=>⟨_,rfl,kk d H3 (Ext.refl _) (QQ _ _ hd)⟩) (ð (jN hk rs xs) ţ) (λ m _ H' R _ kk=>⟨_,rfl,_,rfl,y,m,rfl,rfl,.inl (by constructor <;> omega),kk⟩) λ l5 H5 x5 n5 g5=>?_⟩
 exact fc (g:=id) (x5 _ _ g3) g5 (q _ (QQ.trans x5))
theorem C9 (F:Ģ K "_law_blocks_right" "_law_blocks_right" pS f fd)(Z:Db P w K mg base C MC MS CU CN CW CT CS CM CZ fW eW h0 h1 h2 h3 h4 f0 f1 f2 f3 a1 a2 a3 a4 z0 z1 z2 z3 z4 e0 e1 e2 e3 d1 d2 d3 d4):Þ P w K mg base ay 10 f fd ["_law_script","_law_pen"] (AO K):=by
 refine bR F Lb λ cdv A outer s H vs Q E hr h=>?_;obtain⟨sA,p,ns,rfl,sc,q⟩:=h;refine gr (A4 Z hr) ⟨?_⟩;refine C7 rfl rfl sc λ sv rs H1 ž x1 QU=>?_;refine Eg (p:=p) rfl QU λ rv H2 x2 ru=>?_;have Τ:=ž.ext x2;have y2:=x1.trans (bo x2 p);have ON:=QU.ext (bo x2 p);have RN:=ru.wo Τ.bx;refine Ct (MC:=MC) rfl rfl Τ λ v k H3 hk ω x3 me=>?_;have y3:=y2.trans x3;have TL:=ON.ext x3;have RM:=RN.ext x3;show aY (FC K MC) _ _ (sB sA p sv none (.ref rv) v none none none none none none none none) H3;refine EG ω.bx hk TL me λ v k H4 hk h3 x4 me=>?_;have MH:=ω.ext x4;have y4:=y3.trans (bo x4 p);have TK:=TL.ext (bo x4 p);have TR:=RM.ext (bo x4 p);refine zV MH TK TR λ a xs y H5 LA x5 ha lx nb y0 MG=>?_;have y5:=y4.trans x5;have N4:=TK.ext (x5.trans (ai _ _));have P1:=me.ext (x5.trans (ai _ _));have RL:=TR.ext (x5.trans (ai _ _));have Rc:=ai _ _ _ _ ha;have ţ:xs.length<=20:=by have:=N4.sm;omega
 have RW:(Rl.blocks rs).ok:=⟨N4.l1,by have:=N4.l4;omega,N4.ok,N4.sm⟩
 refine aL (te:=bV aJ) (i:=8) ⟨dZ,λ d0 S1=>?_⟩;have x6:=Ext.new (o:=.lst []) S1;have g6:af H5 d0 (.lst []) d0=some (.lst []):=aO;generalize af H5 d0 (.lst [])=H6 at x6 g6 ⊢;refine aL (te:=tC (.int 0)) (i:=9) ?_;show aY (Fz K C MC CU CN) _ _ (sB sA p sv none (.ref rv) v (some (.ref a)) (some (.int y)) (some (.ref d0)) (some (.int 0)) none none none none) H6;obtain⟨xr,h_,al⟩:=(N4.ext x6).ex;refine Cb (p:=p) hk h3 h_ al N4.ok (P1.ext x6) (x6 _ _ Rc) nb lx ţ g6 λ d o3 o9 Jt JQ H7 x7 hd=>?_;have MZ:=x6.trans x7;refine Fd (k:=k) (rs:=rs) (xr:=xr) Z.Y hk h3 (x7 _ _ h_) al.1 ⟨RL.ext MZ,RW,trivial,lx.symm⟩ (P1.ext MZ) (MZ _ _ Rc) nb y0 MG hd λ H8 x8=>?_;have Ts:=MZ.trans x8;exact q H8 (LA.ext Ts) (y5.trans (bo Ts p))
end
structure Dl (P:Program)(w:World)(K:Frag)(mg:bL)(base:Heap)(C:Nat->Addr)(a0 a1 a2 a3 a4 a5 a6 a7:Addr)(d0 d1 d2 d3 d4 d5 d6 d7:FuncData):Prop where
 tk:Df P w K mg base ay 1 "_law_take" ["_law_script","_law_pen","_law_many"] (cV K) a0 d0
 rl:Df P w K mg base ay 9 "_law_rule" ["_law_script","_law_pen","_law_most"] (Bi K C) a1 d1
 fo:Df P w K mg base ay 1 "_law_folk" ["_law_blocks"] t9 a2 d2
 nb:Df P w K mg base ay 2 "_law_numbers" ["_law_script","_law_pen","_law_folk_here"] (oA K) a3 d3
 mv:Df P w K mg base ay 10 "_law_moved" Gw (Au C) a4 d4
 tu:Df P w K mg base ay 10 "_law_turned" GU (A8 C) a5 d5
 ex:Df P w K mg base ay 10 "_law_exchanged" FO (AB K C) a6 d6
 br:Df P w K mg base ay 10 "_law_blocks_right" ["_law_script","_law_pen"] (AO K) a7 d7
 mr:mg "range" = none
section
variable {P:Program}{w:World}{K:Frag}{mg:bL}{base:Heap}{C:Nat->Addr}{f a0 a1 a2 a3 a4 a5 a6 a7:Addr}{fd d0 d1 d2 d3 d4 d5 d6 d7:FuncData}
abbrev qo:Stmt:=bZ 78
abbrev Ir:List Str:=["_law_script","_law_pen","_law_k","_law_rule_here","_law_blocks","_law_numbers_here"]
theorem Ps:ad Ir ["_law_script"] (aa qo):=aK
def IJ (K:Frag)(C:Nat->Addr):TS:=cG (eu (Bi K C) [] E0 (av (aj 0) (av (aj 1) (av (tC (.int 8)) aJ)))) (p0 K 2 (c5 (aX 3) (c5 (aX 4) mI)))
def F0 (K:Frag):TS:=cG (eu (oA K) [] E0 (av (aj 0) (av (aj 1) (av (eu t9 [] E0 (av (aj 4) aJ)) aJ)))) (aX 5)
def Gy (K:Frag)(C:Nat->Addr):TS:=eI (qM (tB (eu (Au C) [] E0 (av (aj 3) (av (aj 4) (av (aj 5) (av (aS (dH λ i j=>.int (i-j)) (gk K (tC (.int 139))) (tC (.int 69))) aJ))))))) (cH (tC (.bl false))) cB
def FI (K:Frag)(C:Nat->Addr):TS:=eI (DM (qM (tB (eu (A8 C) [] E0 (av (aj 3) (av (aj 4) (av (aj 5) aJ)))))) (qM (tB (eu (AB K C) [] E0 (av (aj 0) (av (aj 1) (av (aj 3) (av (aj 5) aJ)))))))) (cH (tC (.bl false))) cB
def FA (K:Frag):TS:=eI (qM (tB (eu (AO K) [] E0 (av (aj 0) (av (aj 1) aJ))))) (cH (tC (.bl false))) cB
def IL (K:Frag)(C:Nat->Addr):TS:=lA (lJ (av (tC (.int 3)) aJ)) (aX 2) (aY (IJ K C) (aY (F0 K) (aY (Gy K C) (aY (FI K C) (FA K)))))
def CA (K:Frag)(C:Nat->Addr):TS:=aY (cG (rH K (av (tC (.int 0)) (av (tC (.int 0)) (av (tC (.int 7)) aJ)))) (aX 1)) (aY (IL K C) (cH (tC (.bl true))))
section
variable {cdv:Value}{A:Around}{outer:List Env}{s:Shared}{H:Hp}{E:XK}
theorem uj (D:Dl P w K mg base C a0 a1 a2 a3 a4 a5 a6 a7 d0 d1 d2 d3 d4 d5 d6 d7)(hr:oQ 10 "law" qo A s f cdv):Bx (ż (aP ay P w K mg base Ir "law" (aa qo) f cdv A outer s H E).ŀ (aF qo) (CA K C)):=by
 have nd:=Ps.nd;have Ğ:ó 1 _:=hr.mono ar;have j_:ó 2 _:=hr.mono ar;have Ye:ó 9 _:=hr.mono ar;exact ae (aM (i:=1) nd rfl (Or.inl rfl) ⟨vG (ac aI (ac aI (ac aI au)))⟩) (ae ⟨dR ś rfl (fS rfl D.mr (ac aI au)) (cA (i:=2) nd rfl (Or.inl rfl))
  (cn (dX (gG D.rl.G Ye rfl D.rl.m D.rl.kp D.rl.b .nil ag (ac (pv 0) (ac (pv 1) (ac aI au)))) (cr rfl (eN (cA (i:=3) nd rfl (Or.inl rfl)) (eN (cA (i:=4) nd rfl (Or.inl rfl)) bA))))
  (cn (jI (i:=5) nd rfl (Or.inl rfl) (gG D.nb.G j_ rfl D.nb.m D.nb.kp D.nb.b .nil ag (ac (pv 0) (ac (pv 1) (ac (gG D.fo.G Ğ rfl D.fo.m D.fo.kp D.fo.b .nil ag (ac (pv 4) au)) au)))))
  (cn (bC (bQ (bF (gG D.mv.G hr rfl D.mv.m D.mv.kp D.mv.b .nil ag (ac (pv 3) (ac (pv 4) (ac (pv 5) (ac (aA gL (gG D.tk.G Ğ rfl D.tk.m D.tk.kp D.tk.b .nil ag (ac (pv 0) (ac (pv 1) (ac aI au)))) aI) au))))))) (bp (cZ mQ)) gj)
  (cn (bC (PW.pt (f8 (bQ (bF (gG D.tu.G hr rfl D.tu.m D.tu.kp D.tu.b .nil ag (ac (pv 3) (ac (pv 4) (ac (pv 5) au)))))) (dW (bQ (bF (gG D.ex.G hr rfl D.ex.m D.ex.kp D.ex.b .nil ag (ac (pv 0) (ac (pv 1) (ac (pv 3) (ac (pv 5) au)))))))))) (bp (cZ mQ)) gj)
  (bp (bC (bQ (bF (gG D.br.G hr rfl D.br.m D.br.kp D.br.b .nil ag (ac (pv 0) (ac (pv 1) au))))) (bp (cZ mQ)) gj))))))⟩ (bt ⟨cZ mQ⟩))
end
variable {De:cP}{H:Hp}{sA p:Addr}{ns:List Int}{o2 o3 o4 o5:Option V}
theorem ux {t:Rl}(ok:t.ok)(fl:t.flat):t.Ï =(((t.bl.map (·.2)).flatten.length:Nat):Int):=by
 rw [iO ok fl,iG ok fl,dy];have:=Rl.Ą ok;omega
theorem uD (sc:Sc K H sA p ns)(q:∀ o3 o4 o5 H',Sc K H' sA p ns->De.nx [some (.ref sA),some (.ref p),o2,o3,o4,o5] H'):aY (IJ K C) (aY (F0 K) (aY (Gy K C) (aY (FI K C) (FA K)))) De [some (.ref sA),some (.ref p),o2,o3,o4,o5] H:=by
 refine⟨_,rfl,_,rfl,sA,p,ns,8,rfl,sc,ar,ar,λ c v D zs t H1 ž x1 nD hc ru fl ok hD ra=>⟨c,_,rfl,ĝ.of (ai _ _ _ _ hc),rfl,_,_,rfl,_,_,rfl,rfl,?_⟩⟩;show aY (F0 K) _ _ [some (.ref sA),some (.ref p),o2,some v,some (.ref D),o5] H1;have fk:=ux ok fl;have f20:=Rl.Ą ok;refine aL (te:=eu (oA K) [] E0 (av (aj 0) (av (aj 1) (av (eu t9 [] E0 (av (aj 4) aJ)) aJ)))) (i:=5) ⟨_,rfl,_,rfl,_,rfl,D,zs,t.bl,rfl,ai _ _ _ _ hD,ra.mono (ai _ _),wN ok fl,λ H2 x2=>⟨sA,p,ns,_,rfl,ž.ext x2,ak,λ a xs H3 ω x3 n3 h3 lx nb=>?_⟩⟩;have y3:=(bo x2 p).trans x3;have pr:J2 C (wo H3 p) t v xs.length:=⟨ru.ext y3,ok,fl,by rw [lx];exact fk⟩
 have S9:=y3 _ _ hD;have Xr:=ra.mono y3;show aY (Gy K C) _ _ [some (.ref sA),some (.ref p),o2,some v,some (.ref D),some (.ref a)] H3;refine⟨_,rfl,_,rfl,_,rfl,bI ω rfl rfl (λ R r=>r) ar ar λ y H4 y0 y1 MH k4=>⟨y,69,rfl,rfl,?_⟩⟩;have y4:=aH k4;have z4:=y4.trans (ai _ _);have TV:MB C H4 v D a t zs xs:=⟨pr.ext z4,z4 _ _ S9,Xr.mono z4,z4 _ _ h3,nb⟩;refine⟨v,D,a,t,zs,xs,y-69,rfl,TV,ak,ak,λ H5 x5=>⟨_,rfl,cM ?_⟩⟩;show aY (FI K C) _ _ [some (.ref sA),some (.ref p),o2,some v,some (.ref D),some (.ref a)] H5;refine⟨_,rfl,_,rfl,_,rfl,v,D,a,t,zs,xs,rfl,TV.ext x5,λ H6 x6=>⟨_,rfl,cM ?_⟩⟩;have Pa:=x5.trans x6;have y6:=y4.trans (bo Pa p);refine⟨_,rfl,_,rfl,_,rfl,_,rfl,sA,p,ns,v,a,t,xs,rfl,MH.ext Pa,pr.ext y6,y6 _ _ h3,nb,λ H7 RG x7=>⟨_,rfl,cM ?_⟩⟩;show FA K _ [some (.ref sA),some (.ref p),o2,some v,some (.ref D),some (.ref a)] H7;exact⟨_,rfl,_,rfl,sA,p,ns,rfl,RG,λ H8 Xl x8=>⟨_,rfl,cM (q _ _ _ H8 Xl)⟩⟩
def oH (K:Frag):Sp:=λ vs H Q _=>∃(a:Addr)(ns:List Int),vs=[.ref a]/\î K H a (ns.map V.int)/\ns.length<=63/\H sysModules=none/\∀ H',Q (.bl true) H'
theorem yU {a:Addr}{o1:Option V}(ha:î K H a (ns.map V.int))(LC:ns.length<=63)(q:∀ H',De.rt (.bl true) H'):Bx (CA K C De [some (.ref a),o1,o2,o3,o4,o5] H):=by
 constructor;refine aL (te:=rH K (av (tC (.int 0)) (av (tC (.int 0)) (av (tC (.int 7)) aJ)))) (i:=1) ⟨dZ,λ p hp hk=>?_⟩;have np:=î.neN ha hp hk;have c:Sc K (af H p (.lst [.int 0,.int 0,.int 7])) a p ns:=⟨My.î.ext ha (Ext.new hp),LC,np,⟨0,0,7,aO,ar,ar,ar,ar⟩⟩;show aY (IL K C) _ De [some (.ref a),some (.ref p),o2,o3,o4,o5] (af H p (.lst [.int 0,.int 0,.int 7]));generalize af H p (.lst [.int 0,.int 0,.int 7])=H1 at c ⊢;refine⟨3,rfl,ar,ar,qB (lo:=0) (n:=3) (λ i σ H'=>∃ o2 o3 o4 o5,σ=[some (.ref a),some (.ref p),o2,o3,o4,o5]/\Sc K H' a p ns) ⟨_,_,_,_,rfl,c⟩ ?_ ?_⟩
 ·rintro i σ H' hi ⟨o2,o3,o4,o5,rfl,h⟩;exact uD h λ o3 o4 o5 H2 h2=>⟨_,_,_,_,rfl,h2⟩
 ·rintro σ H3 _;exact q H3
theorem zd (F:Ģ K "law" "law" qo f fd)(D:Dl P w K mg base C a0 a1 a2 a3 a4 a5 a6 a7 d0 d1 d2 d3 d4 d5 d6 d7):Þ P w K mg base ay 11 f fd ["_law_script"] (oH K):=by
 refine F.ok Ps (λ vs H Q E h=>?_) (λ cdv A outer s H vs Q E hr h=>?_)
 ·obtain⟨a,ns,rfl,_⟩:=h;rfl
 obtain⟨a,ns,rfl,ha,LC,hz,q⟩:=h;exact gr (uj D hr) (yU ha LC q)
end
abbrev BP (nm qn:Str)(st:Stmt)(ps:List Str):Prop:=∀(kV doc pm:Value)(an:Option Addr)(cdv ct:Value)(us:List Value),us.length=ps.length->bindArgs (PySem.W.fnOf nm qn (cX st) (aF st) (aa st) .none kV doc pm an cdv ct) ⟨us,[]⟩=pure (ps.zip us)
abbrev BQ (nm qn:Str)(st:Stmt)(ps:List Str)(us:List Value):Prop:=∀(kV doc pm:Value)(an:Option Addr)(cdv ct:Value),bindArgs (PySem.W.fnOf nm qn (cX st) (aF st) (aa st) .none kV doc pm an cdv ct) ⟨us,[]⟩=pure (ps.zip us)
theorem b1 {nm qn a:Str}{st:Stmt}(h:∀ u,BQ nm qn st [a] [u]:=by exact λ _ _ _ _ _ _ _=>rfl):BP nm qn st [a]:=λ _ _ _ _ _ _ us hl=>match us,hl with | [_],_=>h _ _ _ _ _ _ _
theorem b2 {nm qn a b:Str}{st:Stmt}(h:∀ u v,BQ nm qn st [a,b] [u,v]:=by exact λ _ _ _ _ _ _ _ _=>rfl):BP nm qn st [a,b]:=λ _ _ _ _ _ _ us hl=>match us,hl with | [_,_],_=>h _ _ _ _ _ _ _ _
theorem b3 {nm qn a b c:Str}{st:Stmt}(h:∀ u v w,BQ nm qn st [a,b,c] [u,v,w]:=by exact λ _ _ _ _ _ _ _ _ _=>rfl):BP nm qn st [a,b,c]:=λ _ _ _ _ _ _ us hl=>match us,hl with | [_,_,_],_=>h _ _ _ _ _ _ _ _ _
theorem b4 {nm qn a b c d:Str}{st:Stmt}(h:∀ u v w x,BQ nm qn st [a,b,c,d] [u,v,w,x]:=by exact λ _ _ _ _ _ _ _ _ _ _=>rfl):BP nm qn st [a,b,c,d]:=λ _ _ _ _ _ _ us hl=>match us,hl with | [_,_,_,_],_=>h _ _ _ _ _ _ _ _ _ _
theorem b5 {nm qn a b c d e:Str}{st:Stmt}(h:∀ u v w x y,BQ nm qn st [a,b,c,d,e] [u,v,w,x,y]:=by exact λ _ _ _ _ _ _ _ _ _ _ _=>rfl):BP nm qn st [a,b,c,d,e]:=λ _ _ _ _ _ _ us hl=>match us,hl with | [_,_,_,_,_],_=>h _ _ _ _ _ _ _ _ _ _ _
abbrev OQ (K:Frag)(mg:bL)(D:Addr)(nm fl:Str)(C f:Addr)(fd:FuncData):Prop:=Ł K D->mg "DealError" = some (.ref D)->gP K mg D nm fl C f fd
theorem jQ {K:Frag}{mg:bL}{D C f:Addr}{fd:FuncData}{nm qn fl txt:Str}{st:Stmt}(T:ř K D nm C f)(mC:mg nm=some (.ref C))(F:Ģ K "__init__" qn st f fd)(tk:takerIn K C fl=some none)(S:ad ["self",fl] ["self",fl] (aa st))(hb:BP "__init__" qn st ["self",fl])
  (Mv:Ł K D->mg "DealError" = some (.ref D)->∀(P:Program)(w:World)(base:Heap)(cdv:Value)(A:Around)(outer:List Env)(s:Shared)(H:Hp)(E:XK),ż (aP ay P w K mg base ["self",fl] qn (aa st) f cdv A outer s H E).ŀ (aF st) (aY (lu (Ip (aj 0) (tC (.str txt)) C)) (Dp K C (aj 0) (aj 1) fl))):OQ K mg D nm fl C f fd:=by
 refine λ B mD=>⟨T,mC,λ P w base=>?_,F.binds hb⟩;refine F.ok S (λ vs H Q E h=>?_) (λ cdv A outer s H vs Q E hr h=>?_)
 ·obtain⟨x,v,rfl,_⟩:=h;rfl
 obtain⟨x,v,rfl,hx,q⟩:=h;exact⟨_,Mv B mD P w base cdv A outer s H E,_,rfl,x,rfl,hx,_,rfl,_,rfl,x,rfl,hx,tk,q⟩
abbrev E1:Stmt:=az (bZ 2) 0
theorem of2 {K:Frag}{mg:bL}{D C f:Addr}{fd:FuncData}(T:ř K D "NoShare" C f)(mC:mg "NoShare" = some (.ref C))(F:Ģ K "__init__" "NoShare.__init__" E1 f fd)(tk:takerIn K C "found" = some none):OQ K mg D "NoShare" "found" C f fd :=
 jQ T mC F tk aK b2 λ B mD _ _ _ _ _ _ _ _ _=>cn (ax (bN B T rfl mD (pv 0) bh)) (bp (eV T (pv 0) (pv 1) rfl))
abbrev BZ:Stmt:=az (bZ 3) 0
theorem XB {K:Frag}{mg:bL}{D C f:Addr}{fd:FuncData}(T:ř K D "NoNumber" C f)(mC:mg "NoNumber" = some (.ref C))(F:Ģ K "__init__" "NoNumber.__init__" BZ f fd)(tk:takerIn K C "found" = some none):OQ K mg D "NoNumber" "found" C f fd :=
 jQ T mC F tk aK b2 λ B mD _ _ _ _ _ _ _ _ _=>cn (ax (bN B T rfl mD (pv 0) bh)) (bp (eV T (pv 0) (pv 1) rfl))
abbrev Em:Stmt:=az (bZ 4) 0
theorem XA {K:Frag}{mg:bL}{D C f:Addr}{fd:FuncData}(T:ř K D "NoFolk" C f)(mC:mg "NoFolk" = some (.ref C))(F:Ģ K "__init__" "NoFolk.__init__" Em f fd)(tk:takerIn K C "found" = some none):OQ K mg D "NoFolk" "found" C f fd :=
 jQ T mC F tk aK b2 λ B mD _ _ _ _ _ _ _ _ _=>cn (ax (bN B T rfl mD (pv 0) bh)) (bp (eV T (pv 0) (pv 1) rfl))
abbrev Er:Stmt:=az (bZ 5) 0
theorem Xz {K:Frag}{mg:bL}{D C f:Addr}{fd:FuncData}(T:ř K D "NoWeights" C f)(mC:mg "NoWeights" = some (.ref C))(F:Ģ K "__init__" "NoWeights.__init__" Er f fd)(tk:takerIn K C "found" = some none):OQ K mg D "NoWeights" "found" C f fd :=
 jQ T mC F tk aK b2 λ B mD _ _ _ _ _ _ _ _ _=>cn (ax (bN B T rfl mD (pv 0) bh)) (bp (eV T (pv 0) (pv 1) rfl))
abbrev EY:Stmt:=az (bZ 6) 0
theorem Xy {K:Frag}{mg:bL}{D C f:Addr}{fd:FuncData}(T:ř K D "NoTrials" C f)(mC:mg "NoTrials" = some (.ref C))(F:Ģ K "__init__" "NoTrials.__init__" EY f fd)(tk:takerIn K C "found" = some none):OQ K mg D "NoTrials" "found" C f fd :=
 jQ T mC F tk aK b2 λ B mD _ _ _ _ _ _ _ _ _=>cn (ax (bN B T rfl mD (pv 0) bh)) (bp (eV T (pv 0) (pv 1) rfl))
abbrev Cn:Stmt:=az (bZ 7) 0
theorem Xx {K:Frag}{mg:bL}{D C f:Addr}{fd:FuncData}(T:ř K D "NoOutcome" C f)(mC:mg "NoOutcome" = some (.ref C))(F:Ģ K "__init__" "NoOutcome.__init__" Cn f fd)(tk:takerIn K C "place" = some none):OQ K mg D "NoOutcome" "place" C f fd :=
 jQ T mC F tk aK b2 λ B mD _ _ _ _ _ _ _ _ _=>cn (ax (bN B T rfl mD (pv 0) bh)) (bp (eV T (pv 0) (pv 1) rfl))
abbrev Da:Stmt:=az (bZ 8) 0
theorem Xw {K:Frag}{mg:bL}{D C f:Addr}{fd:FuncData}(T:ř K D "NotSure" C f)(mC:mg "NotSure" = some (.ref C))(F:Ģ K "__init__" "NotSure.__init__" Da f fd)(tk:takerIn K C "place" = some none):OQ K mg D "NotSure" "place" C f fd :=
 jQ T mC F tk aK b2 λ B mD _ _ _ _ _ _ _ _ _=>cn (ax (bN B T rfl mD (pv 0) bh)) (bp (eV T (pv 0) (pv 1) rfl))
abbrev BH:Stmt:=az (bZ 9) 0
theorem Xv {K:Frag}{mg:bL}{D C f:Addr}{fd:FuncData}(T:ř K D "NoPairs" C f)(mC:mg "NoPairs" = some (.ref C))(F:Ģ K "__init__" "NoPairs.__init__" BH f fd)(tk:takerIn K C "block" = some none):OQ K mg D "NoPairs" "block" C f fd :=
 jQ T mC F tk aK b2 λ B mD _ _ _ _ _ _ _ _ _=>cn (ax (bN B T rfl mD (pv 0) bh)) (bp (eV T (pv 0) (pv 1) rfl))
abbrev yo:Stmt:=az (bZ 10) 0
theorem RX {K:Frag}{mg:bL}{D C f:Addr}{fd:FuncData}(T:ř K D "TooMany" C f)(mC:mg "TooMany" = some (.ref C))(F:Ģ K "__init__" "TooMany.__init__" yo f fd)(tk:takerIn K C "many" = some none):OQ K mg D "TooMany" "many" C f fd :=
 jQ T mC F tk aK b2 λ B mD _ _ _ _ _ _ _ _ _=>cn (ax (bN B T rfl mD (pv 0) bh)) (bp (eV T (pv 0) (pv 1) rfl))
theorem bq {K:Frag}{C:Addr}{n:String}{b:Bool}(hm:kitMeta n=true)(h:mroIn K C (.type n)=some b):kitOne K (.ref C) (.type n)=some b:=by
 unfold kitOne;rw [Ü (by intro e;cases Ā.mp e)]
 show(if kitMeta n=true then subIn K (.ref C) (.type n) else none)=_
 rw [â hm];exact h
theorem am {K:Frag}{C C':Addr}{b:Bool}(hc:isClsIn K C'=true)(ht:typeIn K (.ref C')=some (.type "type"))(hs:mroIn K C' (.ref C')=some true)(hm:mroIn K C (.ref C')=some b):kitOne K (.ref C) (.ref C')=some b:=by
 unfold kitOne;by_cases e:C=C'
 ·subst e;rw [hs] at hm;cases hm;rw [â (Ť _)]
 ·rw [Ü (by intro z;exact e (Value.ref.inj (Ā.mp z)))]
  show(if((clsIn K C').isSome&&typeIn K (.ref C')==some (.type "type"))=true then subIn K (.ref C) (.ref C') else none)=_
  have Jy:(clsIn K C').isSome=true:=hc;rw [Jy,ht];simp only [beq_self_eq_true,Bool.and_self,if_true];exact hm
theorem dh {K:Frag}{C C':Addr}(hs:mroIn K C' (.ref C')=some true)(hm:mroIn K C (.ref C')=some false):C≠C':=λ e=>by
 subst e;rw [hs] at hm;cases hm
structure Dm (K:Frag)(nm qual:Str)(st:Stmt)(ps:List Str)(f:Addr)(fd:FuncData):Prop where
 fn:Ģ K nm qual st f fd
 bi:Binds K fd ps []
 kp:keepIn K (.ref f)=true
 Ň:isFn K (.ref f)=true
def zE:Value->Bool
 | .str _ _=>true
 | _=>false
theorem Kv {es:Array DictEntry}(h:(es.toList.all λ e=>zE e.key)=true):StrKeys es:=λ e he=>by
 have z:=ú.mp h e (by simpa using he)
 cases k:e.key with
 | str n t=>exact⟨n,t,rfl⟩
 | _=>rw [k] at z;cases z
theorem j9 {K:Frag}{C:Addr}{cd:ClassData}{b:Value}(h:clsIn K C=some cd)(hb:cd.mro.isEmpty=false)(hc:cd.mro.contains b=true):mroIn K C b=some true:=by
 unfold mroIn;rw [h,Ko,hb,hc];rfl
theorem Nj {K:Frag}{D N:Addr}{nm q:Str}{bs:List Value}{sn:List Str}{sub:List Value}{ab:Bool}{col:Option Bool}{dd:Option Addr}{k0 k1 k2 k3 k5:Option Value}
  {cN:Value}{dN:Option Addr}{es:Array DictEntry}{ep:Nat}{sN:Array (Option Value)}
  (lD:K.lookup D=some (excClassObj nm q D N bs qE true sn sub ab col dd k0 k1 k2 k3 k5 "ValueError.__new__"))
  (lN:K.lookup N=some ⟨cN,dN,.dict es ep,sN⟩)(sk:StrKeys es)(ni:nsFind es "__init__" = none)
  (ga:specialIn K (.ref D) "__getattribute__" = some (some (.builtin "type.__getattribute__")))(rd:readsIn K D (.type "type")=true)
  (Qa:findCls K (.ref D) (.type "type") "__init__" = some (.val (.builtin "ValueError.__init__")))(fi:findIn K (.ref D) "__init__" = some (some (.builtin "ValueError.__init__")))(kp:keepIn K (.ref D)=true)
  (gb:findIn K (.ref D) "__getattribute__" = some (some (.builtin wp)))(hk:findIn K (.ref D) "__getattr__" = some none)(ca:findIn K (.ref D) "__class__" = some (some (.builtin "object.__class__"))):Ł K D:=by
 have hc:clsIn K D=some { name:=nm,bases:=bs,mro:=.ref D::qE,ns:=N,qualname:=q,hasDict:=true,slotNames:=sn,subclasses:=sub,abstract:=ab,collection:=col,hasDel:=false }:=by
  unfold clsIn;rw [lD]
 refine⟨⟨nm,q,N,bs,sn,sub,ab,col,dd,k0,k1,k2,k3,k5,lD,_,es,ep,lN,rfl,sk,ni⟩,ga,rd,Qa,fi,kp,⟨by rw [hc];rfl,gb,hk,j9 hc rfl ?_,j9 hc rfl ?_,ca⟩⟩
 ·show(Value.ref D::qE).contains (.type "BaseException")=true;rw [ĺ];rfl
 ·show(Value.ref D::qE).contains (.type "object")=true;rw [ĺ];rfl
theorem Ż {K:Frag}{D C N f:Addr}(nm:Str)
  {q:Str}{bs:List Value}{sn:List Str}{sub:List Value}{ab:Bool}{col:Option Bool}{dd:Option Addr}{k0 k1 k2 k3 k5:Option Value}
  (lC:K.lookup C=some (excClassObj nm q C N bs (.ref D::qE) true sn sub ab col dd k0 k1 k2 k3 k5 "ValueError.__new__"))
  (Qa:findIn K (.ref C) "__init__" = some (some (.ref f)))(fn:typeIn K (.ref f)=some (.type "function"))(kp:keepIn K (.ref C)=true)
  (sa:findIn K (.ref C) "__setattr__" = some (some (.builtin "object.__setattr__")))(ga:findIn K (.ref C) "__getattribute__" = some (some (.builtin wp)))(hk:findIn K (.ref C) "__getattr__" = some none)
  (ca:findIn K (.ref C) "__class__" = some (some (.builtin "object.__class__"))):ř K D nm C f:=by
 have hc:clsIn K C=some { name:=nm,bases:=bs,mro:=.ref C :: .ref D::qE,ns:=N,qualname:=q,hasDict:=true,slotNames:=sn,subclasses:=sub,abstract:=ab,collection:=col,hasDel:=false }:=by
  unfold clsIn;rw [lC]
 refine⟨⟨q,N,bs,sn,sub,ab,col,dd,k0,k1,k2,k3,k5,lC⟩,Qa,fn,kp,sa,⟨by rw [hc];rfl,ga,hk,j9 hc rfl ?_,j9 hc rfl ?_,ca⟩⟩
 ·show(Value.ref C :: .ref D::qE).contains (.type "BaseException")=true;rw [ĺ,ĺ];rfl
 ·show(Value.ref C :: .ref D::qE).contains (.type "object")=true;rw [ĺ,ĺ];rfl
structure Dn (K:Frag)(mg:bL)(nm:Str)(st:Stmt)(ps:List Str)(f:Addr)(fd:FuncData):Prop where
 fn:Ģ K nm nm st f fd
 bi:Binds K fd ps []
 kp:keepIn K (.ref f)=true
 mg:mg nm=some (.ref f)
section
variable {P:Program}{w:World}{K:Frag}{mg:bL}{base:Heap}
theorem Dn.df {nm:Str}{st:Stmt}{ps:List Str}{f:Addr}{fd:FuncData}(d:Dn K mg nm st ps f fd){cx:kD}{k:Nat}{sp:Sp}(h:Þ P w K mg base cx k f fd ps sp):Df P w K mg base cx k nm ps sp f fd:=⟨h,d.bi,d.kp,d.mg⟩
end
def be (a b c d e:Addr):Nat->Addr
 | 0=>a
 | 1=>b
 | 2=>c
 | 3=>d
 | _=>e
structure Cf (K:Frag)(C:Addr):Prop where
 cls:Lx K C
 MI:makesIn K C=true
 kp:keepIn K (.ref C)=true
 ca:findIn K (.ref C) "__class__" = some (some (.builtin "object.__class__"))
 hm:mroIn K C (.type "object")=some true
 ş:isClsIn K C=true
 Ş:typeIn K (.ref C)=some (.type "type")
theorem Qr {K:Frag}{C:Addr}(h1:plainGet K C Str.empty=true)(h2:hasDictIn K C=true)(h3:plainOver K C=true)(h4:findIn K (.ref C) "__setattr__" = some (some (.builtin "object.__setattr__")))(h5:makesIn K C=true)(h6:keepIn K (.ref C)=true)(h7:findIn K (.ref C) "__class__" = some (some (.builtin "object.__class__")))(h8:mroIn K C (.type "object")=some true)(h9:isClsIn K C=true)(h0:typeIn K (.ref C)=some (.type "type")):Cf K C:=⟨⟨h1,h2,h3,h4⟩,h5,h6,h7,h8,h9,h0⟩
def KG (K:Frag)(C:Addr):List Str->Prop
 | []=>True
 | f::l=>findIn K (.ref C) f=some none/\KG K C l
theorem XF {K:Frag}{C:Addr}{f:Str}{l:List Str}(h:findIn K (.ref C) f=some none)(t:KG K C l):KG K C (f::l):=⟨h,t⟩
theorem KG.all {K:Frag}{C:Addr}:∀{l:List Str},KG K C l->∀ f∈l,Ũ K C f
 | _::_,h,f,hf=>by
  rcases á.mp hf with rfl | hf
  ·exact h.1
  ·exact h.2.all f hf
def kB (K:Frag)(C:Addr):List (Value × Bool)->Prop
 | []=>True
 | x::l=>mroIn K C x.1=some x.2/\kB K C l
theorem XR {K:Frag}{C:Addr}{v:Value}{b:Bool}{l:List (Value × Bool)}(h:mroIn K C v=some b)(t:kB K C l):kB K C ((v,b)::l):=⟨h,t⟩
theorem Ė {nm:Str}{st:Stmt}{ps:List Str}(hb:BP nm nm st ps){K:Frag}{h:Heap}{mg:bL}{g:Addr}{oc kV dc pm cd ct:Value}{od an:Option Addr}{sl:Array (Option Value)}(X:K.In h)(G:h.Ns mainGlobals mg)
  (a:nsIn K mainGlobals nm=some (some (.ref g)))(l:K.lookup g=some ⟨oc,od,.func (fnOf nm nm (cX st) (aF st) (aa st) .none kV dc pm an cd ct),sl⟩)(c:codeIn K cd nm=true)(k:keepIn K (.ref g)=true) :
  Dn K mg nm st ps g (fnOf nm nm (cX st) (aF st) (aa st) .none kV dc pm an cd ct):=by
 have F:=Ř (st:=st) l c k;exact⟨F,F.binds hb,k,ŝ X G a⟩
theorem Ĝ {nm qn:Str}{st:Stmt}{ps:List Str}(hb:BP nm qn st ps){K:Frag}{g:Addr}{oc kV dc pm cd ct:Value}{od an:Option Addr}{sl:Array (Option Value)}
  (l:K.lookup g=some ⟨oc,od,.func (fnOf nm qn (cX st) (aF st) (aa st) .none kV dc pm an cd ct),sl⟩)(c:codeIn K cd qn=true)(k:keepIn K (.ref g)=true)(f:isFn K (.ref g)=true) :
  Dm K nm qn st ps g (fnOf nm qn (cX st) (aF st) (aa st) .none kV dc pm an cd ct):=by
 have F:=Ř (st:=st) l c k;exact⟨F,F.binds hb,k,f⟩
abbrev Cu:List (Value × Bool):=[(.type "tuple",false),(.type "list",false),(.type "int",false),(.type "bool",false)]
theorem all_mk {l:OpenLaw}{w:World}{K:Frag}{h:Heap}{mg:bL}{fa D Tp Zv To Zu CE4 Zt Rm Zs Tn Zr CE7 Zp Nm Zo MQ Zn OG S_ g0 g1 g2 g3 g4 g5 g6 g7 g8 g9 Zi Zh Zg Zf Ze Zd Zc Za Y_ Y' Y9 Y8 Y7 Y6 Y5 Y4 Y3 Y2 Y1 Y0 YZ YY YX YW Rf m0 m1 m2 m3 m4 m5 m6 m7 m8 m9 Sh Sg M9 M8 Mb Sf M7 OU Se Sd OT Sb Sa OS R_ OR R' R9 Q2 R8 R7 R MS C0 C1 C2 C3 C4 U0 U1 U2 U3 U4:Addr}{d0 d1 d2 d3 d4 d5 d6 d7 d8 d9 ZY ZX ZW ZV ZU ZT ZS ZR ZQ ZP ZO ZN ZM ZL ZK ZJ ZI ZH ZG ZF ZE ZD ZC ZB U_ x0 x1 x2 x3 x4 x5 x6 x7 x8 x9 TD Xd ŋ M0 OL TC Pc QP TB Tz QO Tx Tw K_ Tv N0 NZ OK Pb Tu Tt Xc Xb Xa W_ W' W9 W8 W7 Rw:FuncData}(X:K.In h)(G:h.Ns mainGlobals mg)(YG:mg "law" = some (.ref fa))
  {Kb JO Ku JN Jr o_ Jq n_ Jp:Tok}
  (B:Ł K D)(q2:OQ K mg D "NoShare" "found" Tp Zv Xc)(q3:OQ K mg D "NoNumber" "found" To Zu Xb)(q4:OQ K mg D "NoFolk" "found" CE4 Zt Xa)(q5:OQ K mg D "NoWeights" "found" Rm Zs W_)(q6:OQ K mg D "NoTrials" "found" Tn Zr W')(q7:OQ K mg D "NoOutcome" "place" CE7 Zp W9)(q8:OQ K mg D "NotSure" "place" Nm Zo W8)(q9:OQ K mg D "NoPairs" "block" MQ Zn W7)(Xs:OQ K mg D "TooMany" "many" OG S_ Rw)
  (aD:nsIn K mainGlobals "DealError" = some (some (.ref D)))
  (R3:nsIn K mainGlobals "Rule" = some (some (.ref R)))
  (WH:specialIn K (.ref R) "__getattribute__" = some (some (.builtin "type.__getattribute__")))
  (WG:readsIn K R (.type "type")=true)
  (WF:findCls K (.ref R) (.type "type") "__init__" = some (.val (.ref m0)))
  (Mc:isClsIn K R=true)
  (LY:typeIn K (.ref R)=some (.type "type"))
  (LZ:mroIn K R (.ref R)=some true)
  (WE:nsIn K mainGlobals "Measure" = some (some (.ref MS)))
  (WD:specialIn K (.ref MS) "__getattribute__" = some (some (.builtin "type.__getattribute__")))
  (WC:readsIn K MS (.type "type")=true)
  (WB:findCls K (.ref MS) (.type "type") "__init__" = some (.val (.ref Sg)))
  (O7:isClsIn K MS=true)
  (O6:typeIn K (.ref MS)=some (.type "type"))
  (O5:mroIn K MS (.ref MS)=some true)
  (WA:nsIn K mainGlobals "Split" = some (some (.ref C0)))
  (JJ:Cf K C0)
  (Wz:KG K C0 fh)
  (Wy:findIn K (.ref C0) "__init__" = some (some (.ref m5)))
  (Wx:findIn K (.ref C0) "folk" = some (some (.ref m1)))
  (Ww:findIn K (.ref C0) "begin" = some (some (.ref m2)))
  (Wv:findIn K (.ref C0) "told" = some (some (.ref m3)))
  (Wu:findIn K (.ref C0) "blocks" = some (some (.ref m4)))
  (LQ:kB K C0 [(.ref C0,true),(.ref C1,false),(.ref C2,false),(.ref C3,false),(.ref C4,false),(.ref R,true)])
  (Qt:kB K C0 Cu)
  (Wt:nsIn K mainGlobals "Pairs" = some (some (.ref C1)))
  (JI:Cf K C1)
  (Ws:KG K C1 fh)
  (Wr:findIn K (.ref C1) "__init__" = some (some (.ref m6)))
  (Wq:findIn K (.ref C1) "folk" = some (some (.ref m1)))
  (Wp:findIn K (.ref C1) "begin" = some (some (.ref m2)))
  (WZ:findIn K (.ref C1) "told" = some (some (.ref m3)))
  (WY:findIn K (.ref C1) "blocks" = some (some (.ref m4)))
  (LU:kB K C1 [(.ref C0,false),(.ref C1,true),(.ref C2,false),(.ref C3,false),(.ref C4,false),(.ref R,true)])
  (Qw:kB K C1 Cu)
  (WX:nsIn K mainGlobals "Coins" = some (some (.ref C2)))
  (JK:Cf K C2)
  (WW:KG K C2 fh)
  (WV:findIn K (.ref C2) "__init__" = some (some (.ref m7)))
  (WU:findIn K (.ref C2) "folk" = some (some (.ref m1)))
  (WT:findIn K (.ref C2) "begin" = some (some (.ref m2)))
  (WS:findIn K (.ref C2) "told" = some (some (.ref m3)))
  (WR:findIn K (.ref C2) "blocks" = some (some (.ref m4)))
  (LS:kB K C2 [(.ref C0,false),(.ref C1,false),(.ref C2,true),(.ref C3,false),(.ref C4,false),(.ref R,true)])
  (Qv:kB K C2 Cu)
  (WQ:nsIn K mainGlobals "Blocks" = some (some (.ref C3)))
  (JC:Cf K C3)
  (WP:KG K C3 fh)
  (WO:findIn K (.ref C3) "__init__" = some (some (.ref m8)))
  (WN:findIn K (.ref C3) "folk" = some (some (.ref m1)))
  (WM:findIn K (.ref C3) "begin" = some (some (.ref m2)))
  (WL:findIn K (.ref C3) "told" = some (some (.ref m3)))
  (WK:findIn K (.ref C3) "blocks" = some (some (.ref m4)))
  (WJ:findIn K (.ref C3) "state_ahead" = some (some (.ref Sh)))
  (LR:kB K C3 [(.ref C0,false),(.ref C1,false),(.ref C2,false),(.ref C3,true),(.ref C4,false),(.ref R,true)])
  (Qu:kB K C3 Cu)
  (WI:nsIn K mainGlobals "First" = some (some (.ref C4)))
  (JL:Cf K C4)
  (O8:KG K C4 fh)
  (Rp:findIn K (.ref C4) "__init__" = some (some (.ref m9)))
  (W4:findIn K (.ref C4) "folk" = some (some (.ref m1)))
  (W3:findIn K (.ref C4) "begin" = some (some (.ref m2)))
  (W2:findIn K (.ref C4) "told" = some (some (.ref m3)))
  (W1:findIn K (.ref C4) "blocks" = some (some (.ref m4)))
  (LV:kB K C4 [(.ref C0,false),(.ref C1,false),(.ref C2,false),(.ref C3,false),(.ref C4,true),(.ref R,true)])
  (Qx:kB K C4 Cu)
  (W0:nsIn K mainGlobals "Sum" = some (some (.ref U0)))
  (F':Cf K U0)
  (VU:KG K U0 ["mark"])
  (VT:findIn K (.ref U0) "__init__" = some (some (.ref OU)))
  (VS:findIn K (.ref U0) "word" = some (some (.ref M9)))
  (VR:findIn K (.ref U0) "told" = some (some (.ref M8)))
  (VQ:findIn K (.ref U0) "scores" = some (some (.ref Mb)))
  (VP:findIn K (.ref U0) "need_fit" = some (some (.ref Se)))
  (VO:findIn K (.ref U0) "scored" = some (some (.ref M7)))
  (VN:findIn K (.ref U0) "among" = some (some (.ref Sd)))
  (Kj:kB K U0 [(.ref U0,true),(.ref U1,false),(.ref U2,false),(.ref U3,false),(.ref MS,true)])
  (VM:nsIn K mainGlobals "Ranks" = some (some (.ref U1)))
  (E_:Cf K U1)
  (VL:KG K U1 ["mark"])
  (VJ:findIn K (.ref U1) "__init__" = some (some (.ref OT)))
  (VI:findIn K (.ref U1) "word" = some (some (.ref M9)))
  (VH:findIn K (.ref U1) "told" = some (some (.ref M8)))
  (VG:findIn K (.ref U1) "scores" = some (some (.ref Mb)))
  (VF:findIn K (.ref U1) "need_fit" = some (some (.ref Sb)))
  (VE:findIn K (.ref U1) "scored" = some (some (.ref M7)))
  (VD:findIn K (.ref U1) "among" = some (some (.ref Sa)))
  (Ki:kB K U1 [(.ref U0,false),(.ref U1,true),(.ref U2,false),(.ref U3,false),(.ref MS,true)])
  (VC:nsIn K mainGlobals "Wins" = some (some (.ref U2)))
  (D_:Cf K U2)
  (VB:KG K U2 ["mark"])
  (VA:findIn K (.ref U2) "__init__" = some (some (.ref OS)))
  (Vz:findIn K (.ref U2) "word" = some (some (.ref M9)))
  (Wd:findIn K (.ref U2) "told" = some (some (.ref M8)))
  (Wc:findIn K (.ref U2) "scores" = some (some (.ref Mb)))
  (Wb:findIn K (.ref U2) "need_fit" = some (some (.ref Sf)))
  (Wa:findIn K (.ref U2) "scored" = some (some (.ref M7)))
  (V_:findIn K (.ref U2) "among" = some (some (.ref R_)))
  (Kl:kB K U2 [(.ref U0,false),(.ref U1,false),(.ref U2,true),(.ref U3,false),(.ref MS,true)])
  (V':nsIn K mainGlobals "Signs" = some (some (.ref U3)))
  (F_:Cf K U3)
  (V9:KG K U3 ["mark"])
  (V8:findIn K (.ref U3) "__init__" = some (some (.ref OR)))
  (V7:findIn K (.ref U3) "word" = some (some (.ref M9)))
  (V6:findIn K (.ref U3) "told" = some (some (.ref M8)))
  (V5:findIn K (.ref U3) "scores" = some (some (.ref Mb)))
  (V4:findIn K (.ref U3) "need_fit" = some (some (.ref R')))
  (V3:findIn K (.ref U3) "scored" = some (some (.ref M7)))
  (V2:findIn K (.ref U3) "among" = some (some (.ref R9)))
  (Kk:kB K U3 [(.ref U0,false),(.ref U1,false),(.ref U2,false),(.ref U3,true),(.ref MS,true)])
  (V1:nsIn K mainGlobals "Weighted" = some (some (.ref U4)))
  (No:Cf K U4)
  (V0:KG K U4 ["inner","weights","mark"])
  (VZ:findIn K (.ref U4) "__init__" = some (some (.ref Q2)))
  (VY:findIn K (.ref U4) "scores" = some (some (.ref Mb)))
  (VX:findIn K (.ref U4) "need_fit" = some (some (.ref R8)))
  (VW:findIn K (.ref U4) "scored" = some (some (.ref R7)))
  (O4:kB K U4 [(.ref U0,false),(.ref U1,false),(.ref U2,false),(.ref U3,false),(.ref MS,true)])
  (VV:nsIn K mainGlobals "MOST_FOLK" = some (some (.int (20) Kb)))
  (Wo:nsIn K mainGlobals "MOST_PAIRS" = some (some (.int (10) JO)))
  (Wn:nsIn K mainGlobals "MOST_FAR" = some (some (.int (20) Ku)))
  (Wl:nsIn K mainGlobals "MOST_RULES" = some (some (.int (6) JN)))
  (Wk:nsIn K mainGlobals "MOST_BOTTOM" = some (some (.int (100) Jr)))
  (Wj:nsIn K mainGlobals "LEAST_NUMBER" = some (some (.int (-99) o_)))
  (Wi:nsIn K mainGlobals "MOST_NUMBER" = some (some (.int (99) Jq)))
  (Wh:nsIn K mainGlobals "MOST_WEIGHTS" = some (some (.int (6) n_)))
  (Wg:nsIn K mainGlobals "MOST_WEIGHT" = some (some (.int (20) Jp)))
  (gt:specialIn K (.builtin "object.__class__") "__get__" = some (some (.builtin "getset_descriptor.__get__")))
  (RB:takesIn K (.builtin "object.__class__")=some true)
  (Wf:nsIn K mainGlobals "isinstance" = some none)
  (We:nsIn K mainGlobals "int" = some none)
  (Vy:nsIn K mainGlobals "bool" = some none)
  (Vx:nsIn K mainGlobals "len" = some none)
  (Vw:nsIn K mainGlobals "range" = some none)
  (Vv:nsIn K mainGlobals "tuple" = some none)
  (Vu:nsIn K mainGlobals "list" = some none)
  (Vt:nsIn K mainGlobals "sum" = some none)
  (Vs:nsIn K mainGlobals "all" = some none)
  (Vr:nsIn K mainGlobals "max" = some none)
  (Vq:nsIn K mainGlobals "min" = some none)
  (Vp:nsIn K mainGlobals "enumerate" = some none)
  (Vo:nsIn K mainGlobals "zip" = some none)
  (Vn:nsIn K mainGlobals "sorted" = some none)
  (e0:Dn K mg "is_number" nJ ["thing"] g0 d0)
  (e1:Dn K mg "is_whole" tU ["thing","low","high"] g1 d1)
  (e2:Dn K mg "greatest_common" wW ["one","other"] g2 d2)
  (e3:Dn K mg "is_part" rK ["top","bottom"] g3 d3)
  (e4:Dn K mg "is_share" wY ["thing"] g4 d4)
  (e5:Dn K mg "need_number" Hq ["thing","low","high"] g5 d5)
  (e6:Dn K mg "need_coin" Hf ["thing"] g6 d6)
  (e7:Dn K mg "one_part" Hx ["folk"] g7 d7)
  (e8:Dn K mg "may_be_block" yd ["thing"] g8 d8)
  (e9:Dn K mg "are_block_rules" Hg ["thing"] g9 d9)
  (U8:Dn K mg "parts_of" GB ["rules"] Zi ZY)
  (U7:Dn K mg "parts_below" Bv ["parts","many"] Zh ZX)
  (U6:Dn K mg "is_outcome" Ho ["thing"] Zg ZW)
  (U5:Dn K mg "need_outcome" HQ ["thing","place"] Zf ZV)
  (UZ:Dn K mg "need_outcomes" wU ["thing"] Ze ZU)
  (UY:Dn K mg "need_outcomes_of" Bb ["thing","folk"] Zd ZT)
  (UX:Dn K mg "surely_greater" Ga ["one","other"] Zc ZS)
  (UW:Dn K mg "stands_to" HD ["one","other"] Za ZR)
  (UV:Dn K mg "need_sure" yV ["outcomes"] Y_ ZQ)
  (UU:Dn K mg "block_marks" Gq ["rule"] Y' ZP)
  (UT:Dn K mg "need_pairs" HL ["rule"] Y9 ZO)
  (US:Dn K mg "may_be_inner" AX ["thing"] Y8 ZN)
  (UR:Dn K mg "are_weights" Gg ["thing"] Y7 ZM)
  (UQ:Dn K mg "_law_take" fA ["_law_script","_law_pen","_law_many"] Y6 ZL)
  (UP:Dn K mg "_law_plain_rule" qc ["_law_script","_law_pen","_law_most"] Y5 ZK)
  (UO:Dn K mg "_law_rule" lG ["_law_script","_law_pen","_law_most"] Y4 ZJ)
  (UN:Dn K mg "_law_folk" Gn ["_law_blocks"] Y3 ZI)
  (UM:Dn K mg "_law_numbers" ze ["_law_script","_law_pen","_law_folk_here"] Y2 ZH)
  (UL:Dn K mg "_law_sure" FN ["_law_numbers_here"] Y1 ZG)
  (UK:Dn K mg "_law_are_pairs" Bz ["_law_blocks"] Y0 ZF)
  (UJ:Dn K mg "_law_moved" t3 ["_law_rule_here","_law_blocks","_law_numbers_here","_law_by"] YZ ZE)
  (UI:Dn K mg "_law_turned" xI ["_law_rule_here","_law_blocks","_law_numbers_here"] YY ZD)
  (UH:Dn K mg "_law_exchanged" vt ["_law_script","_law_pen","_law_rule_here","_law_numbers_here"] YX ZC)
  (UG:Dn K mg "_law_blocks_right" pS ["_law_script","_law_pen"] YW ZB)
  (UF:Dn K mg "law" qo ["_law_script"] Rf U_)
  (y0:Dm K "__init__" "Rule.__init__" Bm ["self","size","first_state","mark","parts"] m0 x0)
  (y1:Dm K "folk" "Rule.folk" xv ["self"] m1 x1)
  (y2:Dm K "begin" "Rule.begin" yD ["self"] m2 x2)
  (y3:Dm K "told" "Rule.told" ye ["self"] m3 x3)
  (y4:Dm K "blocks" "Rule.blocks" yj ["self"] m4 x4)
  (y5:Dm K "__init__" "Split.__init__" AZ ["self","folk","ones"] m5 x5)
  (y6:Dm K "__init__" "Pairs.__init__" xB ["self","pairs","coin"] m6 x6)
  (y7:Dm K "__init__" "Coins.__init__" AC ["self","folk","coin","far"] m7 x7)
  (y8:Dm K "__init__" "Blocks.__init__" zY ["self","rules"] m8 x8)
  (y9:Dm K "__init__" "First.__init__" zK ["self","rule","many"] m9 x9)
  (QI:Dm K "state_ahead" "Blocks.state_ahead" GQ ["self","number"] Sh TD)
  (Np:Dm K "__init__" "Measure.__init__" uY ["self","mark"] Sg Xd)
  (K':Dm K "word" "Measure.word" xX ["self"] M9 ŋ)
  (K9:Dm K "told" "Measure.told" yI ["self"] M8 M0)
  (Ka:Dm K "scores" "Measure.scores" uq ["self","rule","outcomes"] Mb OL)
  (QH:Dm K "need_fit" "Measure.need_fit" zH ["self","rule","outcomes"] Sf TC)
  (K8:Dm K "scored" "Measure.scored" Az ["self","rule","outcomes"] M7 Pc)
  (Rt:Dm K "__init__" "Sum.__init__" AM ["self"] OU QP)
  (QG:Dm K "need_fit" "Sum.need_fit" Ap ["self","rule","outcomes"] Se TB)
  (QF:Dm K "among" "Sum.among" yO ["self","outcomes"] Sd Tz)
  (MG:Dm K "__init__" "Ranks.__init__" zv ["self"] OT QO)
  (QE:Dm K "need_fit" "Ranks.need_fit" w4 ["self","rule","outcomes"] Sb Tx)
  (QD:Dm K "among" "Ranks.among" ic ["self","outcomes"] Sa Tw)
  (Rs:Dm K "__init__" "Wins.__init__" zL ["self"] OS K_)
  (QC:Dm K "among" "Wins.among" lM ["self","outcomes"] R_ Tv)
  (Rr:Dm K "__init__" "Signs.__init__" Bg ["self"] OR N0)
  (QB:Dm K "need_fit" "Signs.need_fit" An ["self","rule","outcomes"] R' NZ)
  (QA:Dm K "among" "Signs.among" lX ["self","outcomes"] R9 OK)
  (Rq:Dm K "__init__" "Weighted.__init__" Gu ["self","inner","weights"] Q2 Pb)
  (Qz:Dm K "need_fit" "Weighted.need_fit" Hs ["self","rule","outcomes"] R8 Tu)
  (Qy:Dm K "scored" "Weighted.scored" wA ["self","rule","outcomes"] R7 Tt)
  (hb:∀(s:Shared)(v:Value),BindsTo s U_ ⟨[v],[]⟩ [("_law_script",v)])
  : ∃ fd:FuncData,(∀(s:Shared)(v:Value),BindsTo s fd ⟨[v],[]⟩ [("_law_script",v)])/\∀ base:Heap,K.In base->base.Ns mainGlobals mg->Þ l.prog w K mg base ay 11 fa fd ["_law_script"] (oH K):=by
 have e:=YG.symm.trans UF.mg;cases e;refine⟨_,hb,λ base _ _=>?_⟩;have đ:=Ħ X G Wf;have L':=Ħ X G We;have L_:=Ħ X G Vy;have ŗ:=Ħ X G Vx;have Κ:=Ħ X G Vw;have Ź:=Ħ X G Vv;have Ο:=Ħ X G Vu;have K0:=Ħ X G Vt;have NA:=Ħ X G Vs;have P4:=Ħ X G Vr;have P3:=Ħ X G Vq;have Ţ:=Ħ X G Vp;have Nz:=Ħ X G Vo;have L9:=Ħ X G Vn;have T:rX K:=⟨gt,RB⟩;have mD:=ŝ X G aD;have o2:=q2 B mD;have o3:=q3 B mD;have o4:=q4 B mD;have o5:=q5 B mD;have o6:=q6 B mD;have o7:=q7 B mD;have o8:=q8 B mD;have o9:=q9 B mD;have Jt:=Xs B mD;have Ε:=ŝ X G VV;have JT:=ŝ X G Wo;have Kz:=ŝ X G Wn;have JS:=ŝ X G Wl;have Jw:=ŝ X G Wk;have r_:=ŝ X G Wj;have Jv:=ŝ X G Wi;have q_:=ŝ X G Wh;have Ju:=ŝ X G Wg;have Ma:=ŝ X G R3;have Ŵ:eF K R "__init__" m0:=⟨WH,WG,WF,y0.kp⟩;have JF:=ŝ X G WE;have Ś:eF K MS "__init__" Sg:=⟨WD,WC,WB,Np.kp⟩;have NI:=ŝ X G WA;have P0:Mk K C0 m5:=⟨JJ.MI,Wy,y5.Ň,JJ.kp⟩;have NH:=ŝ X G Wt;have PZ:Mk K C1 m6:=⟨JI.MI,Wr,y6.Ň,JI.kp⟩;have NG:=ŝ X G WX;have PY:Mk K C2 m7:=⟨JK.MI,WV,y7.Ň,JK.kp⟩;have P6:=ŝ X G WQ;have PX:Mk K C3 m8:=⟨JC.MI,WO,y8.Ň,JC.kp⟩;have NF:=ŝ X G WI;have PV:Mk K C4 m9:=⟨JL.MI,Rp,y9.Ň,JL.kp⟩;have NE:=ŝ X G W0;have PU:Mk K U0 OU:=⟨F'.MI,VT,Rt.Ň,F'.kp⟩;have ND:=ŝ X G VM;have PR:Mk K U1 OT:=⟨E_.MI,VJ,MG.Ň,E_.kp⟩;have NC:=ŝ X G VC;have PQ:Mk K U2 OS:=⟨D_.MI,VA,Rs.Ň,D_.kp⟩;have NB:=ŝ X G V';have PP:Mk K U3 OR:=⟨F_.MI,V8,Rr.Ň,F_.kp⟩;have P5:=ŝ X G V1;have PN:Mk K U4 Q2:=⟨No.MI,VZ,Rq.Ň,No.kp⟩;have Tk:=sU (P:=l.prog) (w:=w) (mg:=mg) (base:=base) T e0.fn đ L' L_;have GN:=(e0.df Tk);have Vg:=vf e1.fn Tk e0.bi e0.kp e0.mg;have GW:=(e1.df Vg);have GG:=e2.df (Ao (P:=l.prog) (w:=w) (mg:=mg) (base:=base) e2.fn);have GPa:=e3.df (uf e3.fn Tk e0.bi e0.kp e0.mg Vg e1.bi e1.kp e1.mg);have GSh:=e4.df (zG T e4.fn GPa GG đ Ź ŗ);have GM:=e5.df (Eu e5.fn B o3 GW);have GC:=e6.df (Dz e6.fn B o2 GW GSh Jw);have GP:=e7.df (EC (P:=l.prog) (w:=w) (mg:=mg) (base:=base) e7.fn Ź Κ);have Z:KR K (be C0 C1 C2 C3 C4) R:={
  cls:=λ i hi=>match i,hi with
   | 0,_=>JJ.cls
   | 1,_=>JI.cls
   | 2,_=>JK.cls
   | 3,_=>JC.cls
   | 4,_=>JL.cls
  no:=λ i hi=>match i,hi with
   | 0,_=>Wz.all
   | 1,_=>Ws.all
   | 2,_=>WW.all
   | 3,_=>WP.all
   | 4,_=>O8.all
  ha:=λ i hi=>match i,hi with
   | 0,_=>JJ.ca
   | 1,_=>JI.ca
   | 2,_=>JK.ca
   | 3,_=>JC.ca
   | 4,_=>JL.ca
  hn:=gt
  Kg:=RB
  hm:=λ i hi=>match i,hi with
   | 0,_=>JJ.hm
   | 1,_=>JI.hm
   | 2,_=>JK.hm
   | 3,_=>JC.hm
   | 4,_=>JL.hm
  kk:=λ i j hi hj=>match i,j,hi,hj with
   | 0,0,_,_=>am JJ.ş JJ.Ş LQ.1 LQ.1
   | 0,1,_,_=>am JI.ş JI.Ş LU.2.1 LQ.2.1
   | 0,2,_,_=>am JK.ş JK.Ş LS.2.2.1 LQ.2.2.1
   | 0,3,_,_=>am JC.ş JC.Ş LR.2.2.2.1 LQ.2.2.2.1
   | 0,4,_,_=>am JL.ş JL.Ş LV.2.2.2.2.1 LQ.2.2.2.2.1
   | 1,0,_,_=>am JJ.ş JJ.Ş LQ.1 LU.1
   | 1,1,_,_=>am JI.ş JI.Ş LU.2.1 LU.2.1
   | 1,2,_,_=>am JK.ş JK.Ş LS.2.2.1 LU.2.2.1
   | 1,3,_,_=>am JC.ş JC.Ş LR.2.2.2.1 LU.2.2.2.1
   | 1,4,_,_=>am JL.ş JL.Ş LV.2.2.2.2.1 LU.2.2.2.2.1
   | 2,0,_,_=>am JJ.ş JJ.Ş LQ.1 LS.1
   | 2,1,_,_=>am JI.ş JI.Ş LU.2.1 LS.2.1
   | 2,2,_,_=>am JK.ş JK.Ş LS.2.2.1 LS.2.2.1
   | 2,3,_,_=>am JC.ş JC.Ş LR.2.2.2.1 LS.2.2.2.1
   | 2,4,_,_=>am JL.ş JL.Ş LV.2.2.2.2.1 LS.2.2.2.2.1
   | 3,0,_,_=>am JJ.ş JJ.Ş LQ.1 LR.1
   | 3,1,_,_=>am JI.ş JI.Ş LU.2.1 LR.2.1
   | 3,2,_,_=>am JK.ş JK.Ş LS.2.2.1 LR.2.2.1
   | 3,3,_,_=>am JC.ş JC.Ş LR.2.2.2.1 LR.2.2.2.1
   | 3,4,_,_=>am JL.ş JL.Ş LV.2.2.2.2.1 LR.2.2.2.2.1
   | 4,0,_,_=>am JJ.ş JJ.Ş LQ.1 LV.1
   | 4,1,_,_=>am JI.ş JI.Ş LU.2.1 LV.2.1
   | 4,2,_,_=>am JK.ş JK.Ş LS.2.2.1 LV.2.2.1
   | 4,3,_,_=>am JC.ş JC.Ş LR.2.2.2.1 LV.2.2.2.1
   | 4,4,_,_=>am JL.ş JL.Ş LV.2.2.2.2.1 LV.2.2.2.2.1
  kR:=λ i hi=>match i,hi with
   | 0,_=>am Mc LY LZ LQ.2.2.2.2.2.1
   | 1,_=>am Mc LY LZ LU.2.2.2.2.2.1
   | 2,_=>am Mc LY LZ LS.2.2.2.2.2.1
   | 3,_=>am Mc LY LZ LR.2.2.2.2.2.1
   | 4,_=>am Mc LY LZ LV.2.2.2.2.2.1
  kl:=λ i hi=>match i,hi with
   | 0,_=>bq ao Qt.2.1
   | 1,_=>bq ao Qw.2.1
   | 2,_=>bq ao Qv.2.1
   | 3,_=>bq ao Qu.2.1
   | 4,_=>bq ao Qx.2.1
  kt:=λ i hi=>match i,hi with
   | 0,_=>bq ao Qt.1
   | 1,_=>bq ao Qw.1
   | 2,_=>bq ao Qv.1
   | 3,_=>bq ao Qu.1
   | 4,_=>bq ao Qx.1
  ki:=λ i hi=>match i,hi with
   | 0,_=>bq ao Qt.2.2.1
   | 1,_=>bq ao Qw.2.2.1
   | 2,_=>bq ao Qv.2.2.1
   | 3,_=>bq ao Qu.2.2.1
   | 4,_=>bq ao Qx.2.2.1
  kb:=λ i hi=>match i,hi with
   | 0,_=>bq ao Qt.2.2.2.1
   | 1,_=>bq ao Qw.2.2.2.1
   | 2,_=>bq ao Qv.2.2.2.1
   | 3,_=>bq ao Qu.2.2.2.1
   | 4,_=>bq ao Qx.2.2.2.1
 }
 have I0:=yb (P:=l.prog) (w:=w) (mg:=mg) (base:=base) Z y0.fn;have I1:=Af (P:=l.prog) (w:=w) (mg:=mg) (base:=base) Z y1.fn;have I2:=Be (P:=l.prog) (w:=w) (mg:=mg) (base:=base) Z y2.fn;have I3:=AA (P:=l.prog) (w:=w) (mg:=mg) (base:=base) Z y3.fn;have I4:=yr (P:=l.prog) (w:=w) (mg:=mg) (base:=base) Z y4.fn Ο;have OF:bv l.prog w K mg base ay 1 "folk" ["self"] (mT (be C0 C1 C2 C3 C4)) (λ _=>gQ (be C0 C1 C2 C3 C4)):=by
  rintro c ⟨i,hi,rfl⟩
  match i,hi with
  | 0,_=>exact⟨JJ.cls,m1,x1,⟨Wx,y1.Ň,y1.kp⟩,I1,y1.bi⟩
  | 1,_=>exact⟨JI.cls,m1,x1,⟨Wq,y1.Ň,y1.kp⟩,I1,y1.bi⟩
  | 2,_=>exact⟨JK.cls,m1,x1,⟨WU,y1.Ň,y1.kp⟩,I1,y1.bi⟩
  | 3,_=>exact⟨JC.cls,m1,x1,⟨WN,y1.Ň,y1.kp⟩,I1,y1.bi⟩
  | 4,_=>exact⟨JL.cls,m1,x1,⟨W4,y1.Ň,y1.kp⟩,I1,y1.bi⟩
 have Nk:bv l.prog w K mg base ay 1 "begin" ["self"] (mT (be C0 C1 C2 C3 C4)) (λ _=>im (be C0 C1 C2 C3 C4)):=by
  rintro c ⟨i,hi,rfl⟩
  match i,hi with
  | 0,_=>exact⟨JJ.cls,m2,x2,⟨Ww,y2.Ň,y2.kp⟩,I2,y2.bi⟩
  | 1,_=>exact⟨JI.cls,m2,x2,⟨Wp,y2.Ň,y2.kp⟩,I2,y2.bi⟩
  | 2,_=>exact⟨JK.cls,m2,x2,⟨WT,y2.Ň,y2.kp⟩,I2,y2.bi⟩
  | 3,_=>exact⟨JC.cls,m2,x2,⟨WM,y2.Ň,y2.kp⟩,I2,y2.bi⟩
  | 4,_=>exact⟨JL.cls,m2,x2,⟨W3,y2.Ň,y2.kp⟩,I2,y2.bi⟩
 have OE:bv l.prog w K mg base ay 1 "told" ["self"] (mT (be C0 C1 C2 C3 C4)) (λ _=>iU (be C0 C1 C2 C3 C4)):=by
  rintro c ⟨i,hi,rfl⟩
  match i,hi with
  | 0,_=>exact⟨JJ.cls,m3,x3,⟨Wv,y3.Ň,y3.kp⟩,I3,y3.bi⟩
  | 1,_=>exact⟨JI.cls,m3,x3,⟨WZ,y3.Ň,y3.kp⟩,I3,y3.bi⟩
  | 2,_=>exact⟨JK.cls,m3,x3,⟨WS,y3.Ň,y3.kp⟩,I3,y3.bi⟩
  | 3,_=>exact⟨JC.cls,m3,x3,⟨WL,y3.Ň,y3.kp⟩,I3,y3.bi⟩
  | 4,_=>exact⟨JL.cls,m3,x3,⟨W2,y3.Ň,y3.kp⟩,I3,y3.bi⟩
 have MD:bv l.prog w K mg base ay 1 "blocks" ["self"] (mT (be C0 C1 C2 C3 C4)) (λ _=>pH (be C0 C1 C2 C3 C4)):=by
  rintro c ⟨i,hi,rfl⟩
  match i,hi with
  | 0,_=>exact⟨JJ.cls,m4,x4,⟨Wu,y4.Ň,y4.kp⟩,I4,y4.bi⟩
  | 1,_=>exact⟨JI.cls,m4,x4,⟨WY,y4.Ň,y4.kp⟩,I4,y4.bi⟩
  | 2,_=>exact⟨JK.cls,m4,x4,⟨WR,y4.Ň,y4.kp⟩,I4,y4.bi⟩
  | 3,_=>exact⟨JC.cls,m4,x4,⟨WK,y4.Ň,y4.kp⟩,I4,y4.bi⟩
  | 4,_=>exact⟨JL.cls,m4,x4,⟨W1,y4.Ň,y4.kp⟩,I4,y4.bi⟩
 have Mm:Ms l.prog w K mg base (be C0 C1 C2 C3 C4):=⟨OF,Nk,OE,MD⟩;have I10:=Cr Z QI.fn Mm ŗ;have MA:bv l.prog w K mg base ay 2 "state_ahead" ["self","number"] (λ c=>c=(be C0 C1 C2 C3 C4) 3) (λ _=>xE (be C0 C1 C2 C3 C4)):=by
  rintro c rfl;exact⟨JC.cls,Sh,TD,⟨WJ,QI.Ň,QI.kp⟩,I10,QI.bi⟩
 have GMB:=e8.df (AS (P:=l.prog) (w:=w) (mg:=mg) (base:=base) (K:=K) (C:=be C0 C1 C2 C3 C4) e8.fn NI NH NG đ);have GAB:=e9.df (Ee T e9.fn GMB GW JS đ Ο ŗ NA);have GPO:=U8.df (Dw U8.fn Mm Ź Κ);have GPB:=U7.df (EO (P:=l.prog) (w:=w) (mg:=mg) (base:=base) U7.fn Ź ŗ);have I5:=w9 y5.fn Ŵ I0 y0.bi Ma GM GP Ε;have I6:=AV Z y6.fn Ŵ I0 y0.bi Ma GM GP GC JT;have I7:=wT Z y7.fn Ŵ I0 y0.bi Ma GM GP GC Ε Kz;have I8:=yp Z y8.fn Mm MA B o6 Jt Ŵ I0 y0.bi Ma GAB GPO Ε K0 Ź;have I9:=zp T Z y9.fn Mm Ŵ I0 y0.bi Ma GM GPB NF đ;have Lk:BB l.prog w K mg base (be C0 C1 C2 C3 C4) To Tp Tn OG m5 m6 m7 m8 m9 x5 x6 x7 x8 x9:=⟨P0,PZ,PY,PX,PV,I5,I6,I7,I8,I9,y5.bi,y6.bi,y7.bi,y8.bi,y9.bi,NI,NH,NG,P6,NF⟩;have GIo:=U6.df (Do T U6.fn GW r_ Jv đ Ź ŗ L_);have Vk:=U5.df (Cs U5.fn B o7 GIo);have GNs:=UZ.df (zP T UZ.fn B o4 Vk đ Ο Ţ);have Vj:=UY.df (Ad UY.fn B o4 GNs ŗ);have GSg:=UX.df (Ep (P:=l.prog) (w:=w) (mg:=mg) (base:=base) UX.fn);have Vi:=UW.df (Fr UW.fn Vk GSg);have Vh:=UV.df (zf (P:=l.prog) (w:=w) (mg:=mg) (base:=base) UV.fn B o8 Ţ);have GBm:=UU.df (EE UU.fn Mm);have GNp:=UT.df (EA UT.fn Mm B o9 GBm Ţ Nz ŗ);have Zm:KM K (be U0 U1 U2 U3 U4):=⟨λ i hi=>match i,hi with
   | 0,_=>F'.cls
   | 1,_=>E_.cls
   | 2,_=>D_.cls
   | 3,_=>F_.cls,λ i hi=>match i,hi with
   | 0,_=>VU.1
   | 1,_=>VL.1
   | 2,_=>VB.1
   | 3,_=>V9.1⟩
 have dj:∀ i j,i<4->j<4->(be U0 U1 U2 U3 U4) i=(be U0 U1 U2 U3 U4) j->i=j:=λ i j hi hj=>match i,j,hi,hj with
   | 0,0,_,_=>λ _=>rfl
   | 0,1,_,_=>λ e=>absurd e (dh Ki.2.1 Kj.2.1)
   | 0,2,_,_=>λ e=>absurd e (dh Kl.2.2.1 Kj.2.2.1)
   | 0,3,_,_=>λ e=>absurd e (dh Kk.2.2.2.1 Kj.2.2.2.1)
   | 1,0,_,_=>λ e=>absurd e (dh Kj.1 Ki.1)
   | 1,1,_,_=>λ _=>rfl
   | 1,2,_,_=>λ e=>absurd e (dh Kl.2.2.1 Ki.2.2.1)
   | 1,3,_,_=>λ e=>absurd e (dh Kk.2.2.2.1 Ki.2.2.2.1)
   | 2,0,_,_=>λ e=>absurd e (dh Kj.1 Kl.1)
   | 2,1,_,_=>λ e=>absurd e (dh Ki.2.1 Kl.2.1)
   | 2,2,_,_=>λ _=>rfl
   | 2,3,_,_=>λ e=>absurd e (dh Kk.2.2.2.1 Kl.2.2.2.1)
   | 3,0,_,_=>λ e=>absurd e (dh Kj.1 Kk.1)
   | 3,1,_,_=>λ e=>absurd e (dh Ki.2.1 Kk.2.1)
   | 3,2,_,_=>λ e=>absurd e (dh Kl.2.2.1 Kk.2.2.1)
   | 3,3,_,_=>λ _=>rfl
 have Rk:=yA (P:=l.prog) (w:=w) (mg:=mg) (base:=base) Zm Np.fn;have Rj:=AY (P:=l.prog) (w:=w) (mg:=mg) (base:=base) Zm K'.fn;have Ri:=yS (P:=l.prog) (w:=w) (mg:=mg) (base:=base) Zm K9.fn;have J17:=zF Rt.fn Ś Rk Np.bi JF;have J20:=zU MG.fn Ś Rk Np.bi JF;have J23:=Ba Rs.fn Ś Rk Np.bi JF;have J25:=zi Rr.fn Ś Rk Np.bi JF;have J19:=F5 (MC:=(be U0 U1 U2 U3 U4)) dj (xY (P:=l.prog) (w:=w) (mg:=mg) (base:=base) QF.fn);have J22:=FJ (MC:=(be U0 U1 U2 U3 U4)) dj (A6 (P:=l.prog) (w:=w) (mg:=mg) (base:=base) QD.fn L9);have J24:=G8 (MC:=(be U0 U1 U2 U3 U4)) dj (zD QC.fn Vi K0);have J27:=HF (MC:=(be U0 U1 U2 U3 U4)) dj (xO QA.fn Vi Ţ);have J18:=HN (C:=(be C0 C1 C2 C3 C4)) (CN:=MQ) (MC:=(be U0 U1 U2 U3 U4)) dj (yQ QG.fn Vh);have J21:=GH (C:=(be C0 C1 C2 C3 C4)) (CN:=MQ) (MC:=(be U0 U1 U2 U3 U4)) dj (Aw QE.fn Vh);have J15:=HJ (C:=(be C0 C1 C2 C3 C4)) (CU:=Nm) (CN:=MQ) (MC:=(be U0 U1 U2 U3 U4)) dj (Ak (P:=l.prog) (w:=w) (mg:=mg) (base:=base) QH.fn);have J26:=FT (CU:=Nm) (MC:=(be U0 U1 U2 U3 U4)) dj (At QB.fn GNp);have Vf:bv l.prog w K mg base ay 7 "among" ["self","outcomes"] (iq (be U0 U1 U2 U3 U4)) (gm (be U0 U1 U2 U3 U4)):=by
  rintro c ⟨i,hi,rfl⟩
  match i,hi with
  | 0,_=>exact⟨F'.cls,Sd,Tz,⟨VN,QF.Ň,QF.kp⟩,J19,QF.bi⟩
  | 1,_=>exact⟨E_.cls,Sa,Tw,⟨VD,QD.Ň,QD.kp⟩,J22,QD.bi⟩
  | 2,_=>exact⟨D_.cls,R_,Tv,⟨V_,QC.Ň,QC.kp⟩,J24,QC.bi⟩
  | 3,_=>exact⟨F_.cls,R9,OK,⟨V2,QA.Ň,QA.kp⟩,J27,QA.bi⟩
 have Ve:bv l.prog w K mg base (cy l.prog w) 5 "need_fit" ["self","rule","outcomes"] (iq (be U0 U1 U2 U3 U4)) (gs (be C0 C1 C2 C3 C4) (be U0 U1 U2 U3 U4) Nm MQ):=by
  rintro c ⟨i,hi,rfl⟩
  match i,hi with
  | 0,_=>exact⟨F'.cls,Se,TB,⟨VP,QG.Ň,QG.kp⟩,J18,QG.bi⟩
  | 1,_=>exact⟨E_.cls,Sb,Tx,⟨VF,QE.Ň,QE.kp⟩,J21,QE.bi⟩
  | 2,_=>exact⟨D_.cls,Sf,TC,⟨Wb,QH.Ň,QH.kp⟩,J15,QH.bi⟩
  | 3,_=>exact⟨F_.cls,R',NZ,⟨V4,QB.Ň,QB.kp⟩,J26,QB.bi⟩
 have Rg:=xZ K8.fn Vf;have Z9:bv l.prog w K mg base ay 8 "scored" ["self","rule","outcomes"] (iq (be U0 U1 U2 U3 U4)) (k9 (be U0 U1 U2 U3 U4)):=by
  rintro c ⟨i,hi,rfl⟩
  match i,hi with
  | 0,_=>exact⟨F'.cls,M7,Pc,⟨VO,K8.Ň,K8.kp⟩,vb Rg,K8.bi⟩
  | 1,_=>exact⟨E_.cls,M7,Pc,⟨VE,K8.Ň,K8.kp⟩,vb Rg,K8.bi⟩
  | 2,_=>exact⟨D_.cls,M7,Pc,⟨Wa,K8.Ň,K8.kp⟩,vb Rg,K8.bi⟩
  | 3,_=>exact⟨F_.cls,M7,Pc,⟨V3,K8.Ň,K8.kp⟩,vb Rg,K8.bi⟩
 have Rh:=Ax Ka.fn Mm Vj Ve Z9;have Vd:bv l.prog w K mg base (cy l.prog w) 9 "scores" ["self","rule","outcomes"] (iq (be U0 U1 U2 U3 U4)) (λ _=>jw (be C0 C1 C2 C3 C4) (be U0 U1 U2 U3 U4) Nm MQ):=by
  rintro c ⟨i,hi,rfl⟩
  match i,hi with
  | 0,_=>exact⟨F'.cls,Mb,OL,⟨VQ,Ka.Ň,Ka.kp⟩,Rh,Ka.bi⟩
  | 1,_=>exact⟨E_.cls,Mb,OL,⟨VG,Ka.Ň,Ka.kp⟩,Rh,Ka.bi⟩
  | 2,_=>exact⟨D_.cls,Mb,OL,⟨Wc,Ka.Ň,Ka.kp⟩,Rh,Ka.bi⟩
  | 3,_=>exact⟨F_.cls,Mb,OL,⟨V5,Ka.Ň,Ka.kp⟩,Rh,Ka.bi⟩
 have Z7:bv l.prog w K mg base ay 1 "word" ["self"] (iq (be U0 U1 U2 U3 U4)) (λ _=>oZ (be U0 U1 U2 U3 U4)):=by
  rintro c ⟨i,hi,rfl⟩
  match i,hi with
  | 0,_=>exact⟨F'.cls,M9,ŋ,⟨VS,K'.Ň,K'.kp⟩,Rj,K'.bi⟩
  | 1,_=>exact⟨E_.cls,M9,ŋ,⟨VI,K'.Ň,K'.kp⟩,Rj,K'.bi⟩
  | 2,_=>exact⟨D_.cls,M9,ŋ,⟨Vz,K'.Ň,K'.kp⟩,Rj,K'.bi⟩
  | 3,_=>exact⟨F_.cls,M9,ŋ,⟨V7,K'.Ň,K'.kp⟩,Rj,K'.bi⟩
 have Z8:bv l.prog w K mg base ay 1 "told" ["self"] (iq (be U0 U1 U2 U3 U4)) (λ _=>rZ (be U0 U1 U2 U3 U4)):=by
  rintro c ⟨i,hi,rfl⟩
  match i,hi with
  | 0,_=>exact⟨F'.cls,M8,M0,⟨VR,K9.Ň,K9.kp⟩,Ri,K9.bi⟩
  | 1,_=>exact⟨E_.cls,M8,M0,⟨VH,K9.Ň,K9.kp⟩,Ri,K9.bi⟩
  | 2,_=>exact⟨D_.cls,M8,M0,⟨Wd,K9.Ň,K9.kp⟩,Ri,K9.bi⟩
  | 3,_=>exact⟨F_.cls,M8,M0,⟨V6,K9.Ň,K9.kp⟩,Ri,K9.bi⟩
 have Lm:Hy l.prog w K mg base (be U0 U1 U2 U3 U4) OU OT OS OR QP QO K_ N0:=⟨PU,PR,PQ,PP,J17,J20,J23,J25,Rt.bi,MG.bi,Rs.bi,Rr.bi,NE,ND,NC,NB⟩;have Yk:KW K (be U0 U1 U2 U3 U4) MS:=⟨No.cls,V0.all,λ i hi=>match i,hi with
   | 0,_=>F'.ca
   | 1,_=>E_.ca
   | 2,_=>D_.ca
   | 3,_=>F_.ca
   | 4,_=>No.ca,gt,RB,λ i hi=>match i,hi with
   | 0,_=>F'.hm
   | 1,_=>E_.hm
   | 2,_=>D_.hm
   | 3,_=>F_.hm
   | 4,_=>No.hm,λ i j hi hj=>match i,j,hi,hj with
   | 0,0,_,_=>am F'.ş F'.Ş Kj.1 Kj.1
   | 0,1,_,_=>am E_.ş E_.Ş Ki.2.1 Kj.2.1
   | 0,2,_,_=>am D_.ş D_.Ş Kl.2.2.1 Kj.2.2.1
   | 0,3,_,_=>am F_.ş F_.Ş Kk.2.2.2.1 Kj.2.2.2.1
   | 1,0,_,_=>am F'.ş F'.Ş Kj.1 Ki.1
   | 1,1,_,_=>am E_.ş E_.Ş Ki.2.1 Ki.2.1
   | 1,2,_,_=>am D_.ş D_.Ş Kl.2.2.1 Ki.2.2.1
   | 1,3,_,_=>am F_.ş F_.Ş Kk.2.2.2.1 Ki.2.2.2.1
   | 2,0,_,_=>am F'.ş F'.Ş Kj.1 Kl.1
   | 2,1,_,_=>am E_.ş E_.Ş Ki.2.1 Kl.2.1
   | 2,2,_,_=>am D_.ş D_.Ş Kl.2.2.1 Kl.2.2.1
   | 2,3,_,_=>am F_.ş F_.Ş Kk.2.2.2.1 Kl.2.2.2.1
   | 3,0,_,_=>am F'.ş F'.Ş Kj.1 Kk.1
   | 3,1,_,_=>am E_.ş E_.Ş Ki.2.1 Kk.2.1
   | 3,2,_,_=>am D_.ş D_.Ş Kl.2.2.1 Kk.2.2.1
   | 3,3,_,_=>am F_.ş F_.Ş Kk.2.2.2.1 Kk.2.2.2.1
   | 4,0,_,_=>am F'.ş F'.Ş Kj.1 O4.1
   | 4,1,_,_=>am E_.ş E_.Ş Ki.2.1 O4.2.1
   | 4,2,_,_=>am D_.ş D_.Ş Kl.2.2.1 O4.2.2.1
   | 4,3,_,_=>am F_.ş F_.Ş Kk.2.2.2.1 O4.2.2.2.1
   ,λ i hi=>match i,hi with
   | 0,_=>am O7 O6 O5 Kj.2.2.2.2.1
   | 1,_=>am O7 O6 O5 Ki.2.2.2.2.1
   | 2,_=>am O7 O6 O5 Kl.2.2.2.2.1
   | 3,_=>am O7 O6 O5 Kk.2.2.2.2.1
   | 4,_=>am O7 O6 O5 O4.2.2.2.2.1⟩
 have GMi:=US.df (yZ (P:=l.prog) (w:=w) (mg:=mg) (base:=base) (K:=K) (MC:=(be U0 U1 U2 U3 U4)) US.fn NE ND NC NB đ);have GAw:=UR.df (BF T UR.fn GW q_ Ju đ Ο ŗ NA);have Tg:=zX (P:=l.prog) (w:=w) (mg:=mg) (base:=base) Yk Np.fn;have J28:=Dr Zm Yk Rq.fn B o6 o5 Ś Tg Np.bi JF GMi GAw Z8 Ź;have J29:=Eb Yk Qz.fn Mm Ve B o5 ŗ Ο;have Te:bv l.prog w K mg base (cy l.prog w) 6 "need_fit" ["self","rule","outcomes"] (λ c=>c=(be U0 U1 U2 U3 U4) 4) (λ _=>jT (be C0 C1 C2 C3 C4) (be U0 U1 U2 U3 U4) Nm MQ Rm):=by
  rintro c rfl;exact⟨No.cls,R8,Tu,⟨VX,Qz.Ň,Qz.kp⟩,J29,Qz.bi⟩
 have J30:=Dv Yk Qy.fn Mm Vf Nz;have Td:bv l.prog w K mg base ay 8 "scored" ["self","rule","outcomes"] (λ c=>c=(be U0 U1 U2 U3 U4) 4) (λ _=>pA (be C0 C1 C2 C3 C4) (be U0 U1 U2 U3 U4)):=by
  rintro c rfl;exact⟨No.cls,R7,Tt,⟨VW,Qy.Ň,Qy.kp⟩,J30,Qy.bi⟩
 have Tf:=uA Ka.fn Mm Vj Te Td;have Tc:bv l.prog w K mg base (cy l.prog w) 9 "scores" ["self","rule","outcomes"] (λ c=>c=(be U0 U1 U2 U3 U4) 4) (λ _=>iw (be C0 C1 C2 C3 C4) (be U0 U1 U2 U3 U4) Nm MQ Rm):=by
  rintro c rfl;exact⟨No.cls,Mb,OL,⟨VY,Ka.Ň,Ka.kp⟩,Tf,Ka.bi⟩
 have Lt:=UQ.df (vL (P:=l.prog) (w:=w) (mg:=mg) (base:=base) UQ.fn ŗ P3);have Lp:=UP.df (B7 UP.fn Lk Lt);have Lr:=UO.df (BC UO.fn Lk Lt Lp Κ P4 L' Ο ŗ);have Lf:=UN.df (BU (P:=l.prog) (w:=w) (mg:=mg) (base:=base) UN.fn K0 ŗ);have Ln:=UM.df (Ca UM.fn Lt Κ);have Lv:=UL.df (DU (P:=l.prog) (w:=w) (mg:=mg) (base:=base) UL.fn);have La:=UK.df (CG (P:=l.prog) (w:=w) (mg:=mg) (base:=base) UK.fn ŗ);have Zq:Dq l.prog w K mg base (be C0 C1 C2 C3 C4) (be U0 U1 U2 U3 U4) Nm MQ OU OT OS OR _ _ QP QO K_ N0 _ _:=⟨Lm,Lv,La,Vd,L',K0,ŗ,Ο⟩;have Z_:=UJ.df (D6 UJ.fn Zq);have Z':=UI.df (Cm UI.fn Zq);have Lex:=UH.df (DW UH.fn Zq Lt);have Zb:Db l.prog w K mg base (be C0 C1 C2 C3 C4) (be U0 U1 U2 U3 U4) MS Nm MQ Rm Tn Tp OG To Q2 Pb m5 m6 m7 m8 m9 OU OT OS OR _ _ _ _ x5 x6 x7 x8 x9 QP QO K_ N0 _ _ _ _:=⟨Lm,Lk,Lt,Lp,Ln,Lv,PN,J28,Rq.bi,P5,Vd,Tc,Z7,Mm,T,Yk,JF,đ,Κ,ŗ⟩;have Lbr:=UG.df (C9 UG.fn Zb);exact zd UF.fn ⟨Lt,Lr,Lf,Ln,Z_,Z',Lex,Lbr,Κ⟩
theorem walk {l:OpenLaw}{q:Program}{loose:List Str}{XP:(Str->Option Value)->Heap->Prop}{YP:World->Heap->Prop}{d:DefRec}{K:Params->Frag}(hn:l.most=some 63)(Qk:d.params.defaults=[])
  (hY:∀(w:World)(h:Heap),YP w h->(K w.params).In h)
  (F:∀(w:World)(mg:bL)(fa:Addr)(h:Heap),(K w.params).In h->h.Ns mainGlobals mg->mg d.name=some (.ref fa) ->
   ∃ fd:FuncData,(∀(s:Shared)(u:Value),BindsTo s fd ⟨[u],[]⟩ [("_law_script",u)])/\∀ base:Heap,(K w.params).In base->base.Ns mainGlobals mg->Þ l.prog w (K w.params) mg base ay 11 fa fd ["_law_script"] (oH (K w.params))) :
  WalkO q loose XP YP l.row.toRowW d [] (λ f vs=>PySem.call f vs) :=
 L2.LX (n:=63) (k:=11) (x:="_law_script") (CX:=λ _=>ay) (sp:=λ w=>oH (K w.params)) hn ar Qk ⟨rfl,ar,ar,rfl⟩ hY F (λ _ _ a ns hl _ hS hz=>⟨a,ns,rfl,hS,hl,hz,λ _=>rfl⟩) λ _ _ _ _ _ z=>z
end My
open PySem PySem.W PyProof.Rows
namespace PySem.W.Fast
def tw7319521897310037139:=()
def tw18308662248667400029:=()
def tw16481897139867139450:=()
def tw5855953437082612953:=()
def tw4767114881233126867:=()
def tw17355680172058933109:=()
def tw2293202156382336641:=()
def tw2167131883705126005:=()
def tw15157891327325795386:=()
def tw9500052675064367877:=()
def tw16193282586955898101:=()
def tw14086977167845897825:=()
def tw6446867144948860839:=()
def tw2782552860510161759:=()
def tw10982962345331345269:=()
def tw10890974904533894110:=()
def tw13930248855550619103:=()
def tw10540956651074839608:=()
def tw17606624190038961606:=()
def tw5616066918118444254:=()
def tw13358623715535062456:=()
def tw9543807355886759070:=()
def tw899904435729293954:=()
def tw10786253373332929121:=()
def tw9140474194932910364:=()
def tw7720145326558144469:=()
def tw13231705053889154639:=()
def tw11446645947914514788:=()
def tw1830526517572717629:=()
def tw1530692477153393870:=()
def tw13274983013926035148:=()
def tw12814680912181128966:=()
def tw6580231983958331637:=()
def tw11469368242538799638:=()
def tw1954618892492962466:=()
def tw4285732157985638705:=()
def tw12345316003155172455:=()
def tw1237374634422269217:=()
def tw17660997053606943298:=()
def tw1117480691886766942:=()
def tw1338281184036310894:=()
def tw7844946430964179443:=()
def tw1652173226320259638:=()
def tw1334067339381996091:=()
def tw18061453281299472615:=()
def tw7670188765995394862:=()
def tw307080678936169051:=()
def tw680696187187295804:=()
def tw17240275566738725977:=()
def tw8906466912564941207:=()
def tw1036068303571796057:=()
def tw7217560365408215872:=()
def tw14548809457234777977:=()
def tw3478005573906747480:=()
def tw10404173592382264832:=()
def tw11611340567654651883:=()
def tw11329226465419749234:=()
def tw5992838284733338404:=()
def tw3342914171675900053:=()
def tw3359012005978856906:=()
def tw4201792261614013726:=()
def tw12302631356402203738:=()
def tw16879049157033888446:=()
def tw15737442481880929116:=()
def tw14656825283725352158:=()
def tw12251961145900451832:=()
def tw15578162988112466128:=()
def tw8087911763566568779:=()
def tw5894246858706882795:=()
def tw10351351423090544572:=()
def tw2888009186241939593:=()
def tw14264236615320084409:=()
def tw4881368798633809323:=()
def tw6222950554387105587:=()
def tw5944274996280724201:=()
def tw7847207513919127847:=()
def tw2171752207763266145:=()
def tw1089517825764640824:=()
def tw17530130565830474865:=()
def tw15801267891864498298:=()
def tw17320892215934118366:=()
def tw10501775610945308159:=()
def tw14026959950924094515:=()
def tw313670771239706049:=()
def tw3615076216229069375:=()
def tw16237553433740429791:=()
def tw7361588783782864872:=()
def tw2766518217189182826:=()
def tw7995597651607672504:=()
def tw6066711571178197553:=()
def tw6694242919168239068:=()
def tw5107931816780244706:=()
def tw9389662692074325380:=()
def tw1274887706057598648:=()
def tw12544605117368306603:=()
def tw1288069645313644694:=()
def tw1513296512673872061:=()
def tw13993379897893524034:=()
def tw17150414886129412541:=()
def tw8831375759071820972:=()
def tw14577053978586539749:=()
def tw9379051005530701796:=()
def tw6007785193902120211:=()
def tw6063909405225982865:=()
def tw14198972018949633638:=()
def tw12309623910473907700:=()
def tw100152633292746475:=()
def tw18162120106747734826:=()
def tw9977751238886832876:=()
def tw13846945580863332644:=()
def tw5964463126367569072:=()
def tw4521015459619602899:=()
def tw1099999308720740841:=()
def tw7568500123875274281:=()
def tw9297221718444254492:=()
def tw1963111567354623626:=()
def tw612129416223094554:=()
def tw4838722320401732029:=()
def tw15786168795172600364:=()
def tw2942822862399732950:=()
def tw13999758144674924262:=()
def tw59452590848080582:=()
def tw11834269368536706576:=()
def tw13036772018889032216:=()
def tw12803822307741289430:=()
def tw8732893865672921618:=()
def tw1375803653899443887:=()
def tw8223065203275656940:=()
def tw16876573396610947293:=()
def tw14945493484877726791:=()
def tw10305902700479713591:=()
def tw7229149853871290355:=()
def tw14801239862730405933:=()
def tw4606415933372547277:=()
def tw1486189575070654554:=()
def tw4371244830890495835:=()
def tw3529319466974460701:=()
def tw16690211374931846611:=()
def tw6243423494159807734:=()
def tw9513610324257952499:=()
def tw4385117670126628735:=()
def tw893246276434069129:=()
def tw16355982819152079890:=()
def tw11133829302092909892:=()
def tw12301290478110003577:=()
def tw3773889627700058925:=()
def tw2900298806254303809:=()
def tw9517691177950115643:=()
def tw8045893603960936508:=()
def tw9035135299095137166:=()
def tw7648634659149504437:=()
def tw14666956267733796833:=()
def tw16166562012903934269:=()
def tw8999652998427150659:=()
def tw4078394143807285217:=()
def tw1195224693612533639:=()
def tw7060415199384452124:=()
def tw9057480131633984022:=()
def tw16104459288273673985:=()
def tw10857274131620598489:=()
def tw4997198015878377612:=()
def tw16311951720722201399:=()
def tw1919657219708415285:=()
def tw7302100237558076631:=()
def tw12122163901002027375:=()
def tw11982780886953588224:=()
def tw13963598964682310966:=()
def tw17427993383333392468:=()
def tw17942094322227568766:=()
def tw219205187168759685:=()
def tw16826001302930000984:=()
def tw14523707066848432256:=()
def tw17240021290204437494:=()
def tw1036525860083055705:=()
def tw12647495283997048071:=()
def tw7972579267510240225:=()
def tw2053536521216360916:=()
def tw14642618430452436383:=()
def tw17953283449451348914:=()
def tw4351242434944896293:=()
def tw5321933778256525445:=()
def tw16079947555011488579:=()
def tw11496357625201667024:=()
def tw3575156242328533378:=()
def tw3108851823633824212:=()
def tw17054657269667954619:=()
def tw8598358647658039920:=()
def tw4135843430305765971:=()
def tw16295593577830307190:=()
def tw13706984014711439909:=()
def tw18192860003803010682:=()
def tw17660068392770752299:=()
def tw6553121365190897273:=()
def tw13828462240486785697:=()
def tw5445683607109996889:=()
def tw10877708932959884366:=()
def tw14586777622198229599:=()
def tw3459145465153824029:=()
def tw17866169257289447:=()
def tw23246889014521540:=()
def tw16388976133574982052:=()
def tw18118285188575290173:=()
def tw17696208489134930170:=()
def tw2926924438083405468:=()
def tw4056536516184153969:=()
def tw13765253795180892894:=()
def tw915188279933302788:=()
def tw12785396523611628291:=()
def tw10485749897150129686:=()
def tw12817146558456691932:=()
def tw17138711050819086040:=()
def tw2570628615390430174:=()
def tw16457115538452884485:=()
def tw14365689338947807381:=()
def tw1596732893676476724:=()
def tw10036240331613749378:=()
def tw9672650289415165581:=()
def tw15475204943170565601:=()
def tw7564207929046593858:=()
def tw2212802342379423321:=()
def tw9994050940102551931:=()
def tw10947660389172235322:=()
def tw14499124600505358349:=()
def tw681038015850635090:=()
def tw9995457321482515653:=()
def tw16174384375487684301:=()
def tw10232157616490920208:=()
def tw4884009594809235579:=()
def tw10568457466972739499:=()
def tw11885700182610379070:=()
def tw11585056619206218099:=()
def tw3321690430984814262:=()
def tw11028277296387427969:=()
def tw5384933373877615424:=()
def tw3619081890577536949:=()
def tw12921860718968847567:=()
def tw14600025807776410003:=()
def tw7121370779958926643:=()
def tw6199055181894975806:=()
def tw14801123745324421820:=()
def tw7132282423642409601:=()
def tw15084627169115721110:=()
def tw13947386782252063374:=()
def tw9355312989525161255:=()
def tw10476530927456594520:=()
def tw7427463311557889852:=()
def tw349638849496783485:=()
def tw11213392575707928391:=()
def tw1643558918677736272:=()
def tw12984775456494644424:=()
def tw8985640602293129733:=()
def tw6931579993985506655:=()
def tw10483332342018590275:=()
def tw7370446606348344323:=()
def tw14300736337282814142:=()
def tw7692151322154023089:=()
def tw17419125547466366847:=()
def tw5291907518028387925:=()
def tw7438218964444904984:=()
def tw2766378634770081293:=()
def tw4529556257374705364:=()
def tw3085633633617840964:=()
def tw12974249009062476386:=()
def tw11127961747872067452:=()
def tw7184946234534080596:=()
def tw4534760685682166480:=()
def tw4690638256744620069:=()
def tw16328032658631077435:=()
def tw7581095156661109992:=()
def tw1554489765313016572:=()
def tw708982810768077779:=()
def tw4259644290724132987:=()
def tw4498022001762464601:=()
def tw2719214221561795922:=()
def tw1051754204261003761:=()
def tw8023410804388111844:=()
def tw12551784577244744337:=()
def tw7779427704273649805:=()
def tw12221653735625798418:=()
def tw13230899277187823799:=()
def tw7795382459864412034:=()
def tw12681428232909899063:=()
def tw9097329168040951:=()
def tw6442894536322996531:=()
def tw11553325108583249298:=()
def tw9010451644233780940:=()
def tw5646945321088045890:=()
def tw5782493323616144435:=()
def tw16816493549500621845:=()
def tw16670052943153949522:=()
def tw6524234571845352445:=()
def tw3487362547284344799:=()
def tw6023660906776367894:=()
def tw11908418914928088531:=()
def tw9106055098663916310:=()
def tw13317892059072126142:=()
def tw13258405509917268172:=()
def tw7140772980366642238:=()
def tw4602201950774649770:=()
def tw1080359635544369512:=()
def tw14560935085608190477:=()
def tw12077599932156081443:=()
def tw464869131684592021:=()
def tw8339570224351503377:=()
def tw6815187229750354517:=()
def tw4669370354419823657:=()
def tw4508235107091210298:=()
def tw9858962015848370444:=()
def tw4894781781270327074:=()
def tw2088146260813672504:=()
def tw4880883648974287058:=()
def tw3989340435657404435:=()
def tw1400928053592487495:=()
def tw14639770071500646268:=()
def tw951300651833494312:=()
def tw15294549707411343171:=()
def tw13285973037073572322:=()
def tw8381769848452336228:=()
def tw12067831598444094936:=()
def tw3763651016920294540:=()
def tw12564035821916770252:=()
def tw13134167047070214818:=()
def tw8070056995783304263:=()
def tw3065451638460673329:=()
def tw8220209509882715256:=()
def tw8631122857693513618:=()
def tw12960185445467847544:=()
def tw8595400112310699471:=()
def tw16353716053462034022:=()
def tw8188603570545668353:=()
def tw2817688232213737922:=()
def tw8321861593416874456:=()
def tw7232001833404353941:=()
def tw11418857633927512378:=()
def tw3353901994384563712:=()
def tw16705522703570989958:=()
def tw2392953560068962700:=()
def tw7441511271053536386:=()
def tw17446737415055576273:=()
def tw2487917168692627730:=()
def tw7795273311160003258:=()
def tw2315690468718789164:=()
def tw359325268332220072:=()
def tw9341064566925949292:=()
def tw1592664825957826930:=()
def tw3794694150739203202:=()
def tw3916728228170944598:=()
def tw13830391312482788517:=()
def tw4842375620300875117:=()
def tw9128478906222839452:=()
def tw13935208065523823392:=()
def tw15603553386882986292:=()
def tw12300273595336838326:=()
def tw12078389850893865194:=()
def tw15994066353286562636:=()
def tw5666878327320067126:=()
def tw13729158673803965152:=()
def tw16387419310254838810:=()
def tw16689916320314363319:=()
def tw11254286145519237757:=()
def tw4127906508705627399:=()
def tw16905463909283056315:=()
def tw3096845269677437516:=()
def tw6127718670605300106:=()
def tw6146111547157265996:=()
def tw15650337048574715829:=()
def tw4900146728599965529:=()
def tw18331373451582521240:=()
def tw15814263898908714502:=()
def tw11706591424143867421:=()
def tw7003609203242530239:=()
def tw7868031726097611934:=()
def tw697898775736061404:=()
def tw9071593807297717727:=()
def tw3917160139603466655:=()
def tw17655527524501617039:=()
def tw7739124556836090611:=()
def tw14553141055744535608:=()
end PySem.W.Fast
set_option maxRecDepth 100000 in
set_option maxHeartbeats 0 in
theorem PySem.Challenge.cw_trialdeal_k20_whole_scores_of_other_outc_holds : PySem.Challenge.rw_trialdeal_k20_whole_scores_of_other_outc.Holds := by
 w_on;o_law;k_head;(case hw=>w_witness2)
 k_fill
 refine My.walk (l:=PySem.Challenge.rw_trialdeal_k20_whole_scores_of_other_outc) rfl rfl (λ w h Y=>PySem.W.kIn_of Y) ?F
 case F =>
  intro w mg fa h KX G Qg;refine' My.all_mk KX G Qg (My.Nj ?jaa ?jab ?jac ?jad ?jae ?jaf ?jag ?jah ?jai ?jaj ?jak ?jal) (My.of2 (My.Ż "NoShare" ?jam ?jan ?jao ?jap ?jaq ?jar ?jas ?jat) (mg_of KX G ?jau) (L2.Ř ?jav ?jaw ?jax) ?jay) (My.XB (My.Ż "NoNumber" ?jaz ?jaA ?jaB ?jaC ?jaD ?jaE ?jaF ?jaG) (mg_of KX G ?jaH) (L2.Ř ?jaI ?jaJ ?jaK) ?jaL) (My.XA (My.Ż "NoFolk" ?jaM ?jaN ?jaO ?jaP ?jaQ ?jaR ?jaS ?jaT) (mg_of KX G ?jaU) (L2.Ř ?jaV ?jaW ?jaX) ?jaY) (My.Xz (My.Ż "NoWeights" ?jaZ ?ja0 ?ja1 ?ja2 ?ja3 ?ja4 ?ja5 ?ja6) (mg_of KX G ?ja7) (L2.Ř ?ja8 ?ja9 ?jba) ?jbb) (My.Xy (My.Ż "NoTrials" ?jbc ?jbd ?jbe ?jbf ?jbg ?jbh ?jbi ?jbj) (mg_of KX G ?jbk) (L2.Ř ?jbl ?jbm ?jbn) ?jbo) (My.Xx (My.Ż "NoOutcome" ?jbp ?jbq ?jbr ?jbs ?jbt ?jbu ?jbv ?jbw) (mg_of KX G ?jbx) (L2.Ř ?jby ?jbz ?jbA) ?jbB) (My.Xw (My.Ż "NotSure" ?jbC ?jbD ?jbE ?jbF ?jbG ?jbH ?jbI ?jbJ) (mg_of KX G ?jbK) (L2.Ř ?jbL ?jbM ?jbN) ?jbO) (My.Xv (My.Ż "NoPairs" ?jbP ?jbQ ?jbR ?jbS ?jbT ?jbU ?jbV ?jbW) (mg_of KX G ?jbX) (L2.Ř ?jbY ?jbZ ?jb0) ?jb1) (My.RX (My.Ż "TooMany" ?jb2 ?jb3 ?jb4 ?jb5 ?jb6 ?jb7 ?jb8 ?jb9) (mg_of KX G ?jca) (L2.Ř ?jcb ?jcc ?jcd) ?jce)
   ?jcf ?jcg ?jch ?jci ?jcj ?jck ?jcl ?jcm ?jcn ?jco ?jcp ?jcq ?jcr ?jcs ?jct ?jcu ?jcv ?jcw ?jcx ?jcy ?jcz ?jcA ?jcB ?jcC ?jcD ?jcE ?jcF ?jcG ?jcH ?jcI ?jcJ ?jcK ?jcL ?jcM ?jcN ?jcO ?jcP ?jcQ ?jcR ?jcS ?jcT ?jcU ?jcV ?jcW ?jcX ?jcY ?jcZ ?jc0 ?jc1 ?jc2 ?jc3 ?jc4 ?jc5 ?jc6 ?jc7 ?jc8 ?jc9 ?jda ?jdb ?jdc ?jdd ?jde ?jdf ?jdg ?jdh ?jdi ?jdj ?jdk ?jdl ?jdm ?jdn ?jdo ?jdp ?jdq ?jdr ?jds ?jdt ?jdu ?jdv ?jdw ?jdx ?jdy ?jdz ?jdA ?jdB ?jdC ?jdD ?jdE ?jdF ?jdG ?jdH ?jdI ?jdJ ?jdK ?jdL ?jdM ?jdN ?jdO ?jdP ?jdQ ?jdR ?jdS ?jdT ?jdU ?jdV ?jdW ?jdX ?jdY ?jdZ ?jd0 ?jd1 ?jd2 ?jd3 ?jd4 ?jd5 ?jd6 ?jd7 ?jd8 ?jd9 ?jea ?jeb ?jec ?jed ?jee ?jef ?jeg ?jeh ?jei ?jej ?jek ?jel ?jem ?jen ?jeo ?jep ?jeq ?jer ?jes ?jet ?jeu ?jev ?jew ?jex (My.Ė My.b1 KX G ?jey ?jez ?jeA ?jeB) (My.Ė My.b3 KX G ?jeC ?jeD ?jeE ?jeF) (My.Ė My.b2 KX G ?jeG ?jeH ?jeI ?jeJ) (My.Ė My.b2 KX G ?jeK ?jeL ?jeM ?jeN) (My.Ė My.b1 KX G ?jeO ?jeP ?jeQ ?jeR) (My.Ė My.b3 KX G ?jeS ?jeT ?jeU ?jeV) (My.Ė My.b1 KX G ?jeW ?jeX ?jeY ?jeZ) (My.Ė My.b1 KX G ?je0 ?je1 ?je2 ?je3) (My.Ė My.b1 KX G ?je4 ?je5 ?je6 ?je7) (My.Ė My.b1 KX G ?je8 ?je9 ?jfa ?jfb) (My.Ė My.b1 KX G ?jfc ?jfd ?jfe ?jff) (My.Ė My.b2 KX G ?jfg ?jfh ?jfi ?jfj) (My.Ė My.b1 KX G ?jfk ?jfl ?jfm ?jfn) (My.Ė My.b2 KX G ?jfo ?jfp ?jfq ?jfr) (My.Ė My.b1 KX G ?jfs ?jft ?jfu ?jfv) (My.Ė My.b2 KX G ?jfw ?jfx ?jfy ?jfz) (My.Ė My.b2 KX G ?jfA ?jfB ?jfC ?jfD) (My.Ė My.b2 KX G ?jfE ?jfF ?jfG ?jfH) (My.Ė My.b1 KX G ?jfI ?jfJ ?jfK ?jfL) (My.Ė My.b1 KX G ?jfM ?jfN ?jfO ?jfP) (My.Ė My.b1 KX G ?jfQ ?jfR ?jfS ?jfT) (My.Ė My.b1 KX G ?jfU ?jfV ?jfW ?jfX) (My.Ė My.b1 KX G ?jfY ?jfZ ?jf0 ?jf1) (My.Ė My.b3 KX G ?jf2 ?jf3 ?jf4 ?jf5) (My.Ė My.b3 KX G ?jf6 ?jf7 ?jf8 ?jf9) (My.Ė My.b3 KX G ?jga ?jgb ?jgc ?jgd) (My.Ė My.b1 KX G ?jge ?jgf ?jgg ?jgh) (My.Ė My.b3 KX G ?jgi ?jgj ?jgk ?jgl) (My.Ė My.b1 KX G ?jgm ?jgn ?jgo ?jgp) (My.Ė My.b1 KX G ?jgq ?jgr ?jgs ?jgt) (My.Ė My.b4 KX G ?jgu ?jgv ?jgw ?jgx) (My.Ė My.b3 KX G ?jgy ?jgz ?jgA ?jgB) (My.Ė My.b4 KX G ?jgC ?jgD ?jgE ?jgF) (My.Ė My.b2 KX G ?jgG ?jgH ?jgI ?jgJ) (My.Ė My.b1 KX G ?jgK ?jgL ?jgM ?jgN) (My.Ĝ My.b5 ?jgO ?jgP ?jgQ ?jgR) (My.Ĝ My.b1 ?jgS ?jgT ?jgU ?jgV) (My.Ĝ My.b1 ?jgW ?jgX ?jgY ?jgZ) (My.Ĝ My.b1 ?jg0 ?jg1 ?jg2 ?jg3) (My.Ĝ My.b1 ?jg4 ?jg5 ?jg6 ?jg7) (My.Ĝ My.b3 ?jg8 ?jg9 ?jha ?jhb) (My.Ĝ My.b3 ?jhc ?jhd ?jhe ?jhf) (My.Ĝ My.b4 ?jhg ?jhh ?jhi ?jhj) (My.Ĝ My.b2 ?jhk ?jhl ?jhm ?jhn) (My.Ĝ My.b3 ?jho ?jhp ?jhq ?jhr) (My.Ĝ My.b2 ?jhs ?jht ?jhu ?jhv) (My.Ĝ My.b2 ?jhw ?jhx ?jhy ?jhz) (My.Ĝ My.b1 ?jhA ?jhB ?jhC ?jhD) (My.Ĝ My.b1 ?jhE ?jhF ?jhG ?jhH) (My.Ĝ My.b3 ?jhI ?jhJ ?jhK ?jhL) (My.Ĝ My.b3 ?jhM ?jhN ?jhO ?jhP) (My.Ĝ My.b3 ?jhQ ?jhR ?jhS ?jhT) (My.Ĝ My.b1 ?jhU ?jhV ?jhW ?jhX) (My.Ĝ My.b3 ?jhY ?jhZ ?jh0 ?jh1) (My.Ĝ My.b2 ?jh2 ?jh3 ?jh4 ?jh5) (My.Ĝ My.b1 ?jh6 ?jh7 ?jh8 ?jh9) (My.Ĝ My.b3 ?jia ?jib ?jic ?jid) (My.Ĝ My.b2 ?jie ?jif ?jig ?jih) (My.Ĝ My.b1 ?jii ?jij ?jik ?jil) (My.Ĝ My.b2 ?jim ?jin ?jio ?jip) (My.Ĝ My.b1 ?jiq ?jir ?jis ?jit) (My.Ĝ My.b3 ?jiu ?jiv ?jiw ?jix) (My.Ĝ My.b2 ?jiy ?jiz ?jiA ?jiB) (My.Ĝ My.b3 ?jiC ?jiD ?jiE ?jiF) (My.Ĝ My.b3 ?jiG ?jiH ?jiI ?jiJ) (My.Ĝ My.b3 ?jiK ?jiL ?jiM ?jiN)
   (λ s v=>.of_eq rfl)
  case jcf | jau | jaH | jaU | ja7 | jbk | jbx | jbK | jbX | jca | jaa | jab=>k_is
  (case jac=>exact My.Kv rfl)
  (case jad=>first | rfl | decide +kernel)
  case jae | jaf | jag | jah | jai | jaj | jak | jal | jam | jan | jao | jap | jaq | jar | jas | jat | jav | jaw | jax | jay | jaz | jaA | jaB | jaC | jaD | jaE | jaF | jaG | jaI | jaJ | jaK | jaL | jaM | jaN | jaO | jaP | jaQ | jaR | jaS | jaT | jaV | jaW | jaX | jaY | jaZ | ja0 | ja1 | ja2 | ja3 | ja4 | ja5 | ja6 | ja8 | ja9 | jba | jbb | jbc | jbd | jbe | jbf | jbg | jbh | jbi | jbj | jbl | jbm | jbn | jbo | jbp | jbq | jbr | jbs | jbt | jbu | jbv | jbw | jby | jbz | jbA | jbB | jbC | jbD | jbE | jbF | jbG | jbH | jbI | jbJ | jbL | jbM | jbN | jbO | jbP | jbQ | jbR | jbS | jbT | jbU | jbV | jbW | jbY | jbZ | jb0 | jb1 | jb2 | jb3 | jb4 | jb5 | jb6 | jb7 | jb8 | jb9 | jcb | jcc | jcd | jce | jcg | jcn | jcu | jcE | jcO | jcY | jc9 | jdj | jdu | jdF | jdQ | jd1 | jcj | jcq | jcx | jcy | jcz | jcA | jcB | jcH | jcI | jcJ | jcK | jcL | jcR | jcS | jcT | jcU | jcV | jc1 | jc2 | jc3 | jc4 | jc5 | jc6 | jdc | jdd | jde | jdf | jdg | jdm | jdn | jdo | jdp | jdq | jdr | jds | jdx | jdy | jdz | jdA | jdB | jdC | jdD | jdI | jdJ | jdK | jdL | jdM | jdN | jdO | jdT | jdU | jdV | jdW | jdX | jdY | jdZ | jd4 | jd5 | jd6 | jd7=>k_is
  case jcv | jcF | jcP | jcZ | jda | jdk | jdv | jdG | jdR | jd2 =>
   exact My.Qr (by k_is) (by k_is) (by k_is) (by k_is) (by k_is) (by k_is) (by k_is) (by k_is) (by k_is) (by k_is)
  case jcw | jcG | jcQ | jc0 | jdb | jdl | jdw | jdH | jdS | jd3 =>
   repeat (refine My.XF (by k_is) ?_)
   exact trivial
  case jcC | jcD | jcM | jcN | jcW | jcX | jc7 | jc8 | jdh | jdi | jdt | jdE | jdP | jd0 | jd8 =>
   repeat (refine My.XR (by k_is) ?_)
   exact trivial
  case jch | jci | jck | jcl | jcm | jco | jcp | jcr | jcs | jct | jd9 | jea | jeb | jec | jed | jee | jef | jeg | jeh | jei | jej | jek | jel | jem | jen | jeo | jep | jeq | jer | jes | jet | jeu | jev | jew | jex | jey | jez | jeA | jeB | jeC | jeD | jeE | jeF | jeG | jeH | jeI | jeJ | jeK | jeL | jeM | jeN | jeO | jeP | jeQ | jeR | jeS | jeT | jeU | jeV | jeW | jeX | jeY | jeZ | je0 | je1 | je2 | je3 | je4 | je5 | je6 | je7 | je8 | je9 | jfa | jfb | jfc | jfd | jfe | jff | jfg | jfh | jfi | jfj | jfk | jfl | jfm | jfn | jfo | jfp | jfq | jfr | jfs | jft | jfu | jfv | jfw | jfx | jfy | jfz | jfA | jfB | jfC | jfD | jfE | jfF | jfG | jfH | jfI | jfJ | jfK | jfL | jfM | jfN | jfO | jfP | jfQ | jfR | jfS | jfT | jfU | jfV | jfW | jfX | jfY | jfZ | jf0 | jf1 | jf2 | jf3 | jf4 | jf5 | jf6 | jf7 | jf8 | jf9 | jga | jgb | jgc | jgd | jge | jgf | jgg | jgh | jgi | jgj | jgk | jgl | jgm | jgn | jgo | jgp | jgq | jgr | jgs | jgt | jgu | jgv | jgw | jgx | jgy | jgz | jgA | jgB | jgC | jgD | jgE | jgF | jgG | jgH | jgI | jgJ | jgK | jgL | jgM | jgN | jgO | jgP | jgQ | jgR | jgS | jgT | jgU | jgV | jgW | jgX | jgY | jgZ | jg0 | jg1 | jg2 | jg3 | jg4 | jg5 | jg6 | jg7 | jg8 | jg9 | jha | jhb | jhc | jhd | jhe | jhf | jhg | jhh | jhi | jhj | jhk | jhl | jhm | jhn | jho | jhp | jhq | jhr | jhs | jht | jhu | jhv | jhw | jhx | jhy | jhz | jhA | jhB | jhC | jhD | jhE | jhF | jhG | jhH | jhI | jhJ | jhK | jhL | jhM | jhN | jhO | jhP | jhQ | jhR | jhS | jhT | jhU | jhV | jhW | jhX | jhY | jhZ | jh0 | jh1 | jh2 | jh3 | jh4 | jh5 | jh6 | jh7 | jh8 | jh9 | jia | jib | jic | jid | jie | jif | jig | jih | jii | jij | jik | jil | jim | jin | jio | jip | jiq | jir | jis | jit | jiu | jiv | jiw | jix | jiy | jiz | jiA | jiB | jiC | jiD | jiE | jiF | jiG | jiH | jiI | jiJ | jiK | jiL | jiM | jiN=>k_is
